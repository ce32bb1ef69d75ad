import PyProof.Rows.All
import Wide.All
import OpenK.AllK
import Wide.FinOn
import HandS.ForMost
import HandS.Deep
import HandS.Wide
import HandS.Evl
import HandS.ForExc
import HandS.ExcInit
import HandS.ExcField
import HandS.ExcIs
import HandS.ExcOwn
import HandS.ExcValue
import KE.KExcIs
import KE.KEqNest
import PyProof.NeKinds
import PyProof.Rows.EqBoolInt
import HandS.Head0
import HandS.Head1
import HandS.Head2
import HandS.HeadEnd
import HandS.HeadHook1
import HandS.More
import HandS.Rev
import HandS.DictComp
import HandS.ListItems
import HandS.Conv
import HandS.IsInst
import HandS.SlotsOwn
import HandS.Defaults
import KE.KOpsOwn
import HandS.OwnEq
import HandS.HeadHook2
import HandS.Style
import HandS.Walk
import HandS.ExcCtx
import HandS.CallSlots
import HandS.HotCalls
import HandS.ExcInitHot
import PyProof.ListTruth
import HandS.FStr
import HandS.RaiseMore
import PyProof.FitsInt
import HandS.Lambda
import HandS.WordsExc
import HandS.HeadWalk
import HandS.HeadHook4
import HandS.EndOwn
import HandS.Property
import HandS.Nested
import HandS.Finally
import HandS.RaiseOp
import HandS.TryOnly
import HandS.TryMany
import HandS.ExcBuiltin
import PyProof.AutoIntOps
import HandS.Zip
import HandS.TupSets
import KE.SortData
import PyProof.FactsAll.subtypes_4
import HandS.ClsMeth
import HandS.Star
import HandS.HeadNt
import KE.KIntText
import KE.GoesRaise
import HandS.Flt
import KE.GoesEnum
import KE.GoesEnumKw
import PyProof.Rows.CallKwBuiltin
import HandS.TupAny
import HandS.HeadHook3
import HandS.IterVal
import HandS.OwnIter
import KE.KOwnIter
import KE.GoesZip
import KE.GoesMore
import HandS.Small
import PySem.Challenge.RW_bindspan_k14_whole_parse_noise
set_option Elab.async false
set_option linter.all false
set_option maxRecDepth 100000
set_option maxHeartbeats 4000000

set_option Elab.async false
set_option linter.all false
set_option maxRecDepth 100000
set_option maxHeartbeats 4000000
namespace Own
open PySem PySem.Spec PyProof.Rows L2
section
variable {X : Cx} {C fI : Addr} {e o : Expr} {es : List Expr} {ta : TA} {te : TE} {p pos : Pos}
/-- an exception stands at a: of the class at D, with the fields fs -/
def ExAt (H : Hp) (a D : Addr) (fs : List (Str × V)) : Prop := (H a = some (exo a D none) ∧ fs = []) ∨ ∃ dd, H a = some (exo a D (some dd)) ∧ H dd = some (exd dd fs)
end
end Own

set_option Elab.async false
set_option linter.all false
set_option maxRecDepth 100000
set_option maxHeartbeats 4000000
namespace Own
open PySem PySem.Spec PyProof.Rows L2
def exCls (K : PySem.W.Frag) (C : Addr) : Bool := match K.lookup C with
  | some ⟨.type "type", _, .cls cd, sl⟩ => (match cd.mro, sl.toList with
    | .ref C' :: bm, [_, _, _, _, some (.builtin n), _] => C' == C && (n == "ValueError.__new__" && (!cd.hasDel && (cd.hasDict && PySem.HandSPX.refsVE bm)))
    | _, _ => false)
  | _ => false
def exB (K : PySem.W.Frag) (C : Addr) : Bool :=
  exCls K C && (decide (PySem.W.findIn K (.ref C) "__setattr__" = some (some (.builtin "object.__setattr__"))) && (decide (PySem.W.subIn K (.ref C) (.type "BaseException") = some true) && (decide (PySem.W.typeIn K (.ref C) = some (.type "type")) &&
  (PySem.W.keepIn K (.ref C) && (decide (PySem.W.findIn K (.ref C) "__getattribute__" = some (some (.builtin "BaseException.__getattribute__"))) && (decide (PySem.W.findIn K (.ref C) "__getattr__" = some none) && (PySem.W.hasDictIn K C &&
  (decide (PySem.W.findIn K (.ref C) "__class__" = some (some (.builtin "object.__class__"))) && decide (PySem.W.mroIn K C (.type "object") = some true)))))))))
/-- what any own exception class needs of the built-in ones -/
def exG (K : PySem.W.Frag) : Bool := decide (PySem.W.specialIn K (.builtin "object.__class__") "__get__" = some (some (.builtin "getset_descriptor.__get__"))) && decide (PySem.W.takesIn K (.builtin "object.__class__") = some true)
structure ExK (K : PySem.W.Frag) (C : Addr) : Prop where
  ox : OexC K C
  xf : XfC K C
  ec : ExcC K C
/-- its __init__ at fi, its fields' names free in the class -/
def exI (K : PySem.W.Frag) (C fi : Addr) (fs : List Str) : Bool := decide (PySem.W.findIn K (.ref C) "__init__" = some (some (.ref fi))) && (decide (PySem.W.typeIn K (.ref fi) = some (.type "function")) && fs.all fun f => decide (PySem.W.findIn K (.ref C) f = some none))
structure ExI (K : PySem.W.Frag) (C fi : Addr) (fs : List Str) : Prop where
  ini : PySem.W.findIn K (.ref C) "__init__" = some (some (.ref fi))
  ty : PySem.W.typeIn K (.ref fi) = some (.type "function")
  no : ∀ f ∈ fs, PySem.W.findIn K (.ref C) f = some none
end Own

set_option Elab.async false
set_option linter.all false
set_option maxRecDepth 100000
set_option maxHeartbeats 4000000
namespace Own
open PySem PySem.Spec PyProof.Rows L2
def plainV : V → Bool
  | .flt _ => false
  | .byt _ => false
  | _ => true
inductive Alike (K : PySem.W.Frag) (H : Hp) : Nat → V → V → Prop
  | same {n : Nat} {v : V} : plainV v = true → Alike K H n v v
  | lst {n : Nat} {p q : Addr} {xs ys : List V} : SqL K H p xs → SqL K H q ys → xs.length = ys.length → (∀ (i : Nat) x y, xs[i]? = some x → ys[i]? = some y → Alike K H n x y) → Alike K H (n + 1) (.ref p) (.ref q)
  | tup {n : Nat} {p q : Addr} {xs ys : List V} : SqT K H p xs → SqT K H q ys → xs.length = ys.length → (∀ (i : Nat) x y, xs[i]? = some x → ys[i]? = some y → Alike K H n x y) → Alike K H (n + 1) (.ref p) (.ref q)
  | emp {n : Nat} {p q : Addr} : H p = some (.dK []) → H q = some (.dK []) → Alike K H (n + 1) (.ref p) (.ref q)
theorem emp_of {h : Heap} {P : Program} {w : World} {H : Hp} {a : Addr} (ok : HOk P w H h) (e : H a = some (.dK [])) : (a == sysModules) = false ∧ ∀ (P' : Program) (w' : World), h.DictOf (intKind P' w') a [] := by
  obtain ⟨_, hs, vs, kv, o, es, ep, e1, e2, e3, e4, e5⟩ := ok a _ e
  cases kv
  exact ⟨hs, fun P' w' => by
    have hes : es.toList = [] := by
      cases hl : es.toList with
      | nil => rfl
      | cons y ys =>
        rw [hl] at e5
        exact absurd e5.1 (by intro z; cases z)
    have he : es = #[] := by
      cases es
      simp at hes
      rw [hes]
    subst he
    exact ⟨o, #[], ep, e1, e2, e3, (fun _ z => by simp at z), .nil, List.nodup_nil⟩⟩
section
variable {X : Cx} {pins : List (Addr × Obj)} {σ : L2.St} {H : Hp} {s : Shared}
theorem Alike.run (I : Inv X pins σ H s) : ∀ (n : Nat) (A : Around), A.units + n < cLine → ∀ (x y : V) (v u : Value), Alike X.K H n x y → RelV x v → RelV y u → SeqAt.EqAt A s v u true := by
  intro n
  induction n with
  | zero =>
    intro A hu x y v u a rx ry
    cases a with
    | same hp =>
      cases x with
      | non => cases rx; cases ry; exact .same _
      | bl b => cases rx; cases ry; exact .same _
      | int i => obtain ⟨t, rfl⟩ := rx; obtain ⟨t', rfl⟩ := ry; simpa using SeqAt.EqAt.int_int (A := A) (s := s) i t i t'
      | str i => obtain ⟨t, rfl⟩ := rx; obtain ⟨t', rfl⟩ := ry; simpa using SeqAt.EqAt.str_str (A := A) (s := s) i t i t'
      | byt b => cases hp
      | flt b => cases hp
      | ref a => cases rx; cases ry; exact .same _
      | ty m => cases rx; cases ry; exact .same _
  | succ n ih =>
    intro A hu x y v u a rx ry
    have items : ∀ (xs ys : List V) (its its2 : List Value), Vals xs its → Vals ys its2 → xs.length = ys.length → (∀ (i : Nat) x y, xs[i]? = some x → ys[i]? = some y → Alike X.K H n x y) →
        its.toArray.size = its2.toArray.size ∧ ∀ j (h1 : j < its.toArray.size) (h2 : j < its2.toArray.size), SeqAt.EqAt A.in1 s its.toArray[j] its2.toArray[j] ((fun _ => true) j) := by
      intro xs ys its its2 r1 r2 hl hi
      have l1 := r1.length
      have l2 := r2.length
      refine ⟨by simp; omega, fun j h1 h2 => ?_⟩
      have j1 : j < xs.length := by simp at h1; omega
      have j2 : j < ys.length := by omega
      obtain ⟨w1, e1, g1⟩ := r1.get (List.getElem?_eq_getElem j1)
      obtain ⟨w2, e2, g2⟩ := r2.get (List.getElem?_eq_getElem j2)
      have z1 : its.toArray[j] = w1 := by
        rw [List.getElem?_eq_getElem (by simpa using h1)] at e1
        simpa using Option.some.inj e1
      have z2 : its2.toArray[j] = w2 := by
        rw [List.getElem?_eq_getElem (by simpa using h2)] at e2
        simpa using Option.some.inj e2
      rw [z1, z2]
      exact ih A.in1 (by show A.units + 1 + n < cLine; omega) _ _ _ _ (hi j _ _ (List.getElem?_eq_getElem j1) (List.getElem?_eq_getElem j2)) g1 g2
    cases a with
    | same hp =>
      cases x with
      | non => cases rx; cases ry; exact .same _
      | bl b => cases rx; cases ry; exact .same _
      | int i => obtain ⟨t, rfl⟩ := rx; obtain ⟨t', rfl⟩ := ry; simpa using SeqAt.EqAt.int_int (A := A) (s := s) i t i t'
      | str i => obtain ⟨t, rfl⟩ := rx; obtain ⟨t', rfl⟩ := ry; simpa using SeqAt.EqAt.str_str (A := A) (s := s) i t i t'
      | byt b => cases hp
      | flt b => cases hp
      | ref a => cases rx; cases ry; exact .same _
      | ty m => cases rx; cases ry; exact .same _
    | lst h1 h2 hl hi =>
      rename_i p q xs ys
      cases rx; cases ry
      by_cases e : p = q
      · subst e; exact .same _
      obtain ⟨its, r1, ⟨o1, n1, ho1, hc1, _, hd1⟩, _⟩ := I.list h1
      obtain ⟨its2, r2, ⟨o2, n2, ho2, hc2, _, hd2⟩, _⟩ := I.list h2
      obtain ⟨hz, he⟩ := items xs ys its its2 r1 r2 hl hi
      have z := SeqAt.RcAt.lists (A := A) (s := s) (l := p) (b := q) (items := its.toArray) (items2 := its2.toArray) (e := fun _ => true) ⟨o1, ho1, hc1, _, hd1⟩ ⟨o2, ho2, hc2, _, hd2⟩ hz (by omega) he
      have t : (List.range its.toArray.size).all (fun _ => true) = true := by simp
      rw [t] at z
      exact .of_refs e z
    | tup h1 h2 hl hi =>
      rename_i p q xs ys
      cases rx; cases ry
      by_cases e : p = q
      · subst e; exact .same _
      obtain ⟨its, r1, ⟨o1, ho1, hc1, n1, hd1⟩, _⟩ := I.tuple h1
      obtain ⟨its2, r2, ⟨o2, ho2, hc2, n2, hd2⟩, _⟩ := I.tuple h2
      obtain ⟨hz, he⟩ := items xs ys its its2 r1 r2 hl hi
      have z := SeqAt.RcAt.tuples (A := A) (s := s) (l := p) (b := q) (items := its.toArray) (items2 := its2.toArray) (e := fun _ => true) ⟨o1, ho1, hc1, _, hd1⟩ ⟨o2, ho2, hc2, _, hd2⟩ (by omega) he
      have t : ((List.range (min its.toArray.size its2.toArray.size)).all (fun _ => true) && its.toArray.size == its2.toArray.size) = true := by simp at hz ⊢; exact hz
      rw [t] at z
      exact .of_refs e z
    | emp h1 h2 =>
      rename_i p q
      cases rx; cases ry
      by_cases e : p = q
      · subst e; exact .same _
      obtain ⟨s1, d1⟩ := emp_of I.hok h1
      obtain ⟨s2, d2⟩ := emp_of I.hok h2
      intro P' w'
      have t : PySem.W.EqTree P' w' s (n + 1) (.ref p) (.ref q) (([] : List (Int × Value)).length == ([] : List (Int × Value)).length && ([] : List (Int × Value)).all fun k => (valueAt ([] : List (Int × Value)) k.1).isSome && (fun _ => true) k.1) :=
        .dicts (e := fun _ => true) e s1 s2 (d1 P' w') (d2 P' w') (fun k v y hm _ => by cases hm)
      exact t.at A hu
end
end Own

set_option Elab.async false
set_option linter.all false
set_option maxRecDepth 100000
set_option maxHeartbeats 4000000
namespace Own
open PySem PySem.Spec PyProof.Rows L2
/-- a def of the top -/
structure DfT (K : PySem.W.Frag) (mg : Str → Option Value) (x : Str) (st : Stmt) (ps : List Str) where
  a : Addr
  d : FuncData
  F : Fun K x x st a d
  g : mg x = some (.ref a)
  b : Binds K d ps []
/-- an own exception class with an __init__ -/
structure ClT (K : PySem.W.Frag) (mg : Str → Option Value) (x q : Str) (st : Stmt) (ps fs : List Str) where
  C : Addr
  f : Addr
  d : FuncData
  m : mg x = some (.ref C)
  e : ExK K C
  n : ExI K C f fs
  F : Fun K "__init__" q st f d
  b : Binds K d ps []
/-- one without -/
structure Cl0 (K : PySem.W.Frag) (mg : Str → Option Value) (x : Str) where
  C : Addr
  m : mg x = some (.ref C)
  e : ExK K C
  x : PySem.W.excIn K C [.type "ValueError", .type "Exception", .type "BaseException", .type "object"] "ValueError.__new__" = true
/-- a tape: the cell, how often it was drawn from, whether the cell is of common size, its number; n more draws may come -/
structure TapeOk (n : Nat) (c m f k : Int) : Prop where
  small : f = 0 ∨ (f = 1 ∧ 0 ≤ c ∧ c < 10 ^ 18)
  lo : 0 ≤ m
  hi : m + n ≤ 1000000000
  klo : 0 ≤ k
  khi : k ≤ 1000000
def Tape (H : Hp) (t : Addr) (n : Nat) : Prop := ∃ c m f k, H t = some (.lst [.int c, .int m, .int f, .int k]) ∧ TapeOk n c m f k
/-- all but t stays -/
def ExT (t : Addr) (H H' : Hp) : Prop := ∀ b o, b ≠ t → H b = some o → H' b = some o
theorem ExT.trans {t : Addr} {H H1 H2 : Hp} (a : ExT t H H1) (b : ExT t H1 H2) : ExT t H H2 := fun c o n e => b c o n (a c o n e)
theorem Same.exT {t : Addr} {H H' : Hp} (a : Same H H') : ExT t H H' := fun c o _ e => a c o e
end Own

set_option Elab.async false
set_option linter.all false
set_option maxRecDepth 100000
set_option maxHeartbeats 4000000
namespace Own
open PySem PySem.Spec PyProof.Rows L2
theorem ExAt.same {H H' : Hp} {a D : Addr} {fs : List (Str × V)} (h : ExAt H a D fs) (s : Same H H') : ExAt H' a D fs := by
  rcases h with ⟨h, e⟩ | ⟨dd, h, e⟩
  · exact .inl ⟨s _ _ h, e⟩
  · exact .inr ⟨dd, s _ _ h, s _ _ e⟩
/-- ("w", ("bind", a)) | (("call", w, {}, ()),) -/
def RowAt (H : Hp) (r : V) (w a : V) : Prop := ∃ r0 t, r = .ref r0 ∧ H r0 = some (.tup [w, .ref t]) ∧ H t = some (.tup [.str "bind", a])
def ScAt (H : Hp) (s : V) (w : V) : Prop := ∃ s0 m d u, s = .ref s0 ∧ H s0 = some (.tup [.ref m]) ∧ H m = some (.tup [.str "call", w, .ref d, .ref u]) ∧ H d = some (.dK []) ∧ H u = some (.tup [])
theorem RowAt.same {H H' : Hp} (e : Same H H') {r w a : V} (h : RowAt H r w a) : RowAt H' r w a := by
  obtain ⟨r0, t, h1, h2, h3⟩ := h
  exact ⟨r0, t, h1, e _ _ h2, e _ _ h3⟩
theorem ScAt.same {H H' : Hp} (e : Same H H') {s w : V} (h : ScAt H s w) : ScAt H' s w := by
  obtain ⟨s0, m, d, u, h1, h2, h3, h4, h5⟩ := h
  exact ⟨s0, m, d, u, h1, e _ _ h2, e _ _ h3, e _ _ h4, e _ _ h5⟩
/-- exceptions at these addresses, of these classes, with these fields -/
def Errs (H : Hp) : List Addr → List (Addr × List (Str × V)) → Prop := Paired fun a d => ExAt H a d.1 d.2
theorem Errs.same {H H' : Hp} (s : Same H H') : ∀ {as : List Addr} {ds : List (Addr × List (Str × V))}, Errs H as ds → Errs H' as ds
  | _, _, .nil => .nil
  | _, _, .cons a r => .cons (a.same s) (Errs.same s r)
theorem Errs.len {H : Hp} {as : List Addr} {ds : List (Addr × List (Str × V))} (h : Errs H as ds) : as.length = ds.length := Paired.length h
theorem Errs.get {H : Hp} : ∀ {as : List Addr} {ds : List (Addr × List (Str × V))} {i : Nat} {d : Addr × List (Str × V)}, Errs H as ds → ds[i]? = some d → ∃ a, as[i]? = some a ∧ ExAt H a d.1 d.2
  | _, _, _, _, .nil, e => by simp at e
  | _, _, 0, _, .cons a _, e => by simp at e; subst e; exact ⟨_, rfl, a⟩
  | _, _, i + 1, _, .cons _ r, e => by
    obtain ⟨b, h1, h2⟩ := Errs.get (i := i) r (by simpa using e)
    exact ⟨b, by simpa using h1, h2⟩
/-- lists at these addresses hold these rows -/
def Rows (H : Hp) : List Addr → List (List V) → Prop := Paired fun a vs => H a = some (.lst vs)
theorem Rows.same {H H' : Hp} (s : Same H H') : ∀ {as : List Addr} {ds : List (List V)}, Rows H as ds → Rows H' as ds
  | _, _, .nil => .nil
  | _, _, .cons a r => .cons (s _ _ a) (Rows.same s r)
theorem Rows.len {H : Hp} {as : List Addr} {ds : List (List V)} (h : Rows H as ds) : as.length = ds.length := Paired.length h
theorem Rows.get {H : Hp} : ∀ {as : List Addr} {ds : List (List V)} {i : Nat} {a : Addr}, Rows H as ds → as[i]? = some a → ∃ d, ds[i]? = some d ∧ H a = some (.lst d)
  | _, _, _, _, .nil, e => by simp at e
  | _, _, 0, _, .cons a _, e => by simp at e; subst e; exact ⟨_, rfl, a⟩
  | _, _, i + 1, _, .cons _ r, e => by
    obtain ⟨b, h1, h2⟩ := Rows.get (i := i) r (by simpa using e)
    exact ⟨b, by simpa using h1, h2⟩
theorem Tape.same {H H' : Hp} {t : Addr} {n : Nat} (h : Tape H t n) (s : Same H H') : Tape H' t n := by
  obtain ⟨c, j, f, k, e, o⟩ := h
  exact ⟨c, j, f, k, s _ _ e, o⟩
theorem Tape.ne {H : Hp} {t p : Addr} {n : Nat} (h : Tape H t n) (e : H p = none) : p ≠ t := by
  obtain ⟨c, j, f, k, e2, o⟩ := h
  exact (ne_of_none e2 e).symm
end Own

set_option Elab.async false
set_option linter.all false
set_option maxRecDepth 100000
set_option maxHeartbeats 4000000
namespace Own
open PySem PySem.Spec PyProof.Rows L2
/-- the global x stands at its own address -/
def gloB (K : PySem.W.Frag) (x : Str) : Bool := decide (PySem.W.nsIn K mainGlobals x = some (some (.ref (He.ga K x))))
def ciB (K : PySem.W.Frag) (p : Str × List Str) : Bool := gloB K p.1 && (exB K (He.ga K p.1) && (exI K (He.ga K p.1) (He.ma K (He.ga K p.1) "__init__") p.2 && PySem.W.keepIn K (.ref (He.ma K (He.ga K p.1) "__init__"))))
def c0B (K : PySem.W.Frag) (x : Str) : Bool := gloB K x && (exB K (He.ga K x) && PySem.W.excIn K (He.ga K x) [.type "ValueError", .type "Exception", .type "BaseException", .type "object"] "ValueError.__new__")
end Own

set_option Elab.async false
set_option linter.all false
set_option maxRecDepth 100000
set_option maxHeartbeats 4000000
namespace Own
open PySem PySem.Spec PyProof.Rows L2
def ltr (c : Nat) : Bool := decide (97 ≤ c) && decide (c ≤ 122)
def dgt (c : Nat) : Bool := decide (48 ≤ c) && decide (c ≤ 57)
def sgn (c : Nat) : Bool := ltr c || dgt c
def keptS : List Str := ["name", "flag", "slot", "func", "open", "own", "look", "bind", "call", "keep", "take", "shift", "run", "drop", "apart", "when", "held", "fail", "guard", "else", "after", "end", "with", "of", "on", "off"]
/-- a word; one that begins with a letter; an identifier -/
def isWord (x : Str) : Bool := decide (1 ≤ (TL.tl x).length) && decide ((TL.tl x).length ≤ 12) && (TL.tl x).all sgn
def headLtr (x : Str) : Bool := match TL.tl x with
  | [] => false
  | c :: _ => ltr c
def isIdent (x : Str) : Bool := isWord x && headLtr x && !keptS.contains x
theorem ExT.same {t : Addr} {H H1 H2 : Hp} (a : ExT t H H1) (s : Same H1 H2) : ExT t H H2 := a.trans (Same.exT s)
end Own

set_option Elab.async false
set_option linter.all false
set_option maxRecDepth 100000
set_option maxHeartbeats 4000000

set_option Elab.async false
set_option linter.all false
set_option maxRecDepth 100000
set_option maxHeartbeats 4000000
namespace Own
open PySem PySem.Spec PyProof.Rows L2
mutual
def Pl : PyData → Bool
  | .list _ => false
  | .dict _ => false
  | .tuple ds => PlAll ds
  | _ => true
def PlAll : List PyData → Bool
  | [] => true
  | d :: ds => Pl d && PlAll ds
end
def Tu (H H' : Hp) : Prop := ∀ a xs, Rd H a (.tup xs) → Rd H' a (.tup xs)
theorem Tu.trans {H H1 H2 : Hp} (a : Tu H H1) (b : Tu H1 H2) : Tu H H2 := fun p xs h => b p xs (a p xs h)
theorem Same.tu {H H' : Hp} (s : Same H H') : Tu H H' := fun a xs h => by
  rcases h with h | ⟨o, h⟩
  · exact .inl (s _ _ h)
  · exact .inr ⟨o, s _ _ h⟩
theorem ExT.tu {t : Addr} {n : Nat} {H H' : Hp} (v : ExT t H H') (ht : Tape H t n) : Tu H H' := fun a xs h => by
  obtain ⟨c, m, f, k, e, _⟩ := ht
  have hne : a ≠ t := by
    rintro rfl
    rcases h with h | ⟨o, h⟩ <;> (rw [e] at h; cases h)
  rcases h with h | ⟨o, h⟩
  · exact .inl (v _ _ hne h)
  · exact .inr ⟨o, v _ _ hne h⟩
theorem SqT.tu {K : PySem.W.Frag} {H H' : Hp} {a : Addr} {xs : List V} (t : Tu H H') (h : SqT K H a xs) : SqT K H' a xs := by
  rcases h with h | h
  · exact .inl (t _ _ h)
  · exact .inr h
theorem Dp.keep {K : PySem.W.Frag} {H H' : Hp} (t : Tu H H') {v : V} {d : PyData} (h : Dp K H v d) : Pl d = true → Dp K H' v d :=
  Dp.rec (motive_1 := fun v d _ => Pl d = true → Dp K H' v d) (motive_2 := fun vs ds _ => PlAll ds = true → DpAll K H' vs ds)
    (fun _ => .non) (fun b _ => .bl b) (fun i _ => .int i) (fun x _ => .str x) (fun _ _ _ h => by simp [Pl] at h) (fun hs _ ih h => .tup (SqT.tu t hs) (ih (by simpa [Pl] using h)))
    (fun _ => .nil) (fun _ _ i1 i2 h => by
      simp only [PlAll, Bool.and_eq_true] at h
      exact .cons (i1 h.1) (i2 h.2)) h
theorem DpAll.keep {K : PySem.W.Frag} {H H' : Hp} (t : Tu H H') : ∀ {vs : List V} {ds : List PyData}, DpAll K H vs ds → PlAll ds = true → DpAll K H' vs ds
  | _, _, .nil, _ => .nil
  | _, _, .cons a b, h => by
    simp only [PlAll, Bool.and_eq_true] at h
    exact .cons (Dp.keep t a h.1) (DpAll.keep t b h.2)
theorem DpAll.len {K : PySem.W.Frag} {H : Hp} : ∀ {vs : List V} {ds : List PyData}, DpAll K H vs ds → vs.length = ds.length
  | _, _, .nil => rfl
  | _, _, .cons _ b => by rw [List.length_cons, List.length_cons, DpAll.len b]
theorem DpAll.at {K : PySem.W.Frag} {H : Hp} : ∀ {vs : List V} {ds : List PyData} {i : Nat} {d : PyData}, DpAll K H vs ds → ds[i]? = some d → ∃ v, vs[i]? = some v ∧ Dp K H v d
  | _, _, _, _, .nil, h => by simp at h
  | v :: _, _, 0, _, .cons a _, h => by
    have e := Option.some.inj h
    subst e
    exact ⟨v, rfl, a⟩
  | _ :: _, _, i + 1, _, .cons _ b, h => DpAll.at (i := i) b h
theorem sq_same {K : PySem.W.Frag} {H H' : Hp} {a : Addr} {xs : List V} (s : Same H H') (h : SqL K H a xs) : SqL K H' a xs := by
  rcases h with (h | ⟨o, h⟩) | h
  · exact .inl (.inl (s _ _ h))
  · exact .inl (.inr ⟨o, s _ _ h⟩)
  · exact .inr h
/-- the heads: kind and identifier -/
def encH (h : Str × Str) : PyData := .tuple [.str h.1, .str h.2]
def Hds (K : PySem.W.Frag) (H : Hp) (a : Addr) (hs : List (Str × Str)) : Prop := ∃ vs, SqL K H a vs ∧ DpAll K H vs (hs.map encH)
theorem pl_heads : ∀ hs : List (Str × Str), PlAll (hs.map encH) = true
  | [] => rfl
  | h :: hs => by
    simp only [List.map_cons, PlAll, pl_heads hs, Bool.and_true]
    rfl
theorem Hds.same {K : PySem.W.Frag} {H H' : Hp} {a : Addr} {hs : List (Str × Str)} (s : Same H H') (h : Hds K H a hs) : Hds K H' a hs := by
  obtain ⟨vs, h1, h2⟩ := h
  exact ⟨vs, sq_same s h1, DpAll.keep (Same.tu s) h2 (pl_heads hs)⟩
/-- all but two -/
def ExT2 (t D : Addr) (H H' : Hp) : Prop := ∀ (b : Addr) (o : HO), b ≠ t → b ≠ D → H b = some o → H' b = some o
theorem sq_ext {K : PySem.W.Frag} {t : Addr} {H H' : Hp} {a : Addr} {xs : List V} (hat : a ≠ t) (v : ExT t H H') (h : SqL K H a xs) : SqL K H' a xs := by
  rcases h with (h | ⟨o, h⟩) | h
  · exact .inl (.inl (v _ _ hat h))
  · exact .inl (.inr ⟨o, v _ _ hat h⟩)
  · exact .inr h
theorem Hds.ext {K : PySem.W.Frag} {t : Addr} {n : Nat} {H H' : Hp} {a : Addr} {hs : List (Str × Str)} (hat : a ≠ t) (ht : Tape H t n) (v : ExT t H H') (h : Hds K H a hs) : Hds K H' a hs := by
  obtain ⟨vs, h1, h2⟩ := h
  exact ⟨vs, sq_ext hat v h1, DpAll.keep (v.tu ht) h2 (pl_heads hs)⟩
end Own

set_option Elab.async false
set_option linter.all false
set_option maxRecDepth 100000
set_option maxHeartbeats 4000000
namespace Own
open PySem PySem.Spec PyProof.Rows L2

end Own

set_option Elab.async false
set_option linter.all false
set_option maxRecDepth 100000
set_option maxHeartbeats 4000000

set_option Elab.async false
set_option linter.all false
set_option maxRecDepth 100000
set_option maxHeartbeats 4000000
namespace Own
open PySem PySem.Spec PyProof.Rows L2
theorem le_trans_cps : ∀ {a b c : List Nat}, ltCps b a = false → ltCps c b = false → ltCps c a = false
  | [], [], [], _, _ => rfl
  | [], [], _ :: _, _, _ => rfl
  | [], _ :: _, [], _, h => by simp [ltCps] at h
  | [], _ :: _, _ :: _, _, _ => rfl
  | _ :: _, [], _, h, _ => by simp [ltCps] at h
  | _ :: _, _ :: _, [], _, h => by simp [ltCps] at h
  | x :: a, y :: b, z :: c, h1, h2 => by
    simp only [ltCps, Bool.or_eq_false_iff, Bool.and_eq_false_iff, decide_eq_false_iff_not, beq_eq_false_iff_ne] at h1 h2 ⊢
    refine ⟨by omega, ?_⟩
    by_cases e : z = x
    · right
      have e1 : y = x := by omega
      have e2 : z = y := by omega
      exact le_trans_cps (h1.2.elim (fun n => absurd e1 n) id) (h2.2.elim (fun n => absurd e2 n) id)
    · exact .inl e
theorem le_anti_cps : ∀ {a b : List Nat}, ltCps b a = false → ltCps a b = false → a = b
  | [], [], _, _ => rfl
  | [], _ :: _, _, h => by simp [ltCps] at h
  | _ :: _, [], h, _ => by simp [ltCps] at h
  | x :: a, y :: b, h1, h2 => by
    simp only [ltCps, Bool.or_eq_false_iff, Bool.and_eq_false_iff, decide_eq_false_iff_not, beq_eq_false_iff_ne] at h1 h2
    have e : x = y := by omega
    subst e
    rw [le_anti_cps (h1.2.elim (fun n => absurd rfl n) id) (h2.2.elim (fun n => absurd rfl n) id)]
theorem str_ext {x y : Str} (h : x.cps.toList = y.cps.toList) : x = y := by
  obtain ⟨a⟩ := x
  obtain ⟨b⟩ := y
  exact congrArg Str.mk (Array.toList_inj.mp h)
theorem rising_all : ∀ {l : List Str} {p : Str}, risingS p l = true → ∀ x ∈ l, ltCps x.cps.toList p.cps.toList = false
  | y :: l, p, h, x, hx => by
    simp only [risingS, Bool.and_eq_true, Bool.not_eq_true'] at h
    rcases List.mem_cons.mp hx with rfl | hx
    · exact h.1
    · exact le_trans_cps h.1 (rising_all h.2 x hx)
theorem rising_sorted : ∀ {l : List Str} {p : Str}, risingS p l = true → sortedS l = true
  | [], _, _ => rfl
  | y :: l, p, h => by
    simp only [risingS, Bool.and_eq_true] at h
    exact h.2
/-- two sorted rows of the same texts are one -/
theorem sorted_one : ∀ {ys zs : List Str}, sortedS ys = true → sortedS zs = true → ys.Perm zs → ys = zs
  | [], zs, _, _, h => (List.nil_perm.mp h).symm
  | y :: ys, [], _, _, h => by simpa using h.length_eq
  | y :: ys, z :: zs, h1, h2, h => by
    have hyz : y = z := by
      have my : y ∈ z :: zs := h.subset (by simp)
      have mz : z ∈ y :: ys := h.symm.subset (by simp)
      rcases List.mem_cons.mp my with e | my
      · exact e
      · rcases List.mem_cons.mp mz with e | mz
        · exact e.symm
        · exact str_ext (le_anti_cps (rising_all h1 z mz) (rising_all h2 y my))
    subst hyz
    rw [sorted_one (rising_sorted (p := y) h1) (rising_sorted (p := y) h2) (List.Perm.cons_inv h)]
abbrev Tbl : Type := List (Key × V)
def valOk : V → Bool
  | .int i => decide (i.natAbs < 10 ^ 1000)
  | .str x => decide (x.length ≤ 1000)
  | _ => false
def keyId : Key → Bool
  | .inr x => isIdent x
  | _ => false
/-- keys are identifiers, each once; values can be bound -/
structure TOk (t : Tbl) : Prop where
  nd : (t.map (·.1)).Nodup
  id : ∀ p ∈ t, keyId p.1 = true
  ok : ∀ p ∈ t, valOk p.2 = true
def txt : Key → Str
  | .inr x => x
  | _ => ⟨#[]⟩
def names (t : Tbl) : List Str := t.map fun p => txt p.1
theorem keyId_txt {k : Key} (h : keyId k = true) : k = .inr (txt k) := by
  cases k with
  | inl i => cases h
  | inr x => rfl
theorem TOk.keys {t : Tbl} (h : TOk t) : t.map (·.1) = (names t).map Sum.inr := by
  unfold names
  rw [List.map_map]
  exact List.map_congr_left fun p hp => keyId_txt (h.id p hp)
theorem TOk.names_nd {t : Tbl} (h : TOk t) : (names t).Nodup := by
  have z := h.nd
  rw [h.keys, List.Nodup, List.pairwise_map] at z
  exact z.imp fun h e => h (by rw [e])
theorem valV_key {t : Tbl} {k : Key} : (valV t k).isSome = true ↔ k ∈ t.map (·.1) := by
  rw [← valV_any k t, List.any_eq_true]
  constructor
  · rintro ⟨p, hp, e⟩
    exact List.mem_map.mpr ⟨p, hp, of_decide_eq_true e⟩
  · intro h
    obtain ⟨p, hp, e⟩ := List.mem_map.mp h
    exact ⟨p, hp, decide_eq_true e⟩
/-- the same look-ups -/
def Eqv (a b : Tbl) : Prop := ∀ k, valV a k = valV b k
theorem Eqv.symm {a b : Tbl} (h : Eqv a b) : Eqv b a := fun k => (h k).symm
theorem Eqv.trans {a b c : Tbl} (h : Eqv a b) (g : Eqv b c) : Eqv a c := fun k => (h k).trans (g k)
theorem names_mem {t : Tbl} (h : TOk t) {x : Str} : x ∈ names t ↔ (valV t (.inr x)).isSome = true := by
  rw [valV_key, h.keys]
  constructor
  · intro m; exact List.mem_map.mpr ⟨x, m, rfl⟩
  · intro m
    obtain ⟨y, hy, e⟩ := List.mem_map.mp m
    cases e
    exact hy
theorem perm_of_nd {α : Type} [DecidableEq α] : ∀ {l m : List α}, l.Nodup → m.Nodup → (∀ x, x ∈ l ↔ x ∈ m) → l.Perm m
  | [], m, _, _, h => by
    have : m = [] := List.eq_nil_iff_forall_not_mem.mpr fun x hx => by simpa using (h x).mpr hx
    rw [this]
  | a :: l, m, hl, hm, h => by
    have ha : a ∈ m := (h a).mp (by simp)
    have hl' := List.nodup_cons.mp hl
    refine (List.Perm.cons a (perm_of_nd hl'.2 (hm.erase a) fun x => ?_)).trans (List.perm_cons_erase ha).symm
    rw [List.Nodup.mem_erase_iff hm]
    constructor
    · intro hx
      exact ⟨fun e => hl'.1 (e ▸ hx), (h x).mp (by simp [hx])⟩
    · rintro ⟨ne, hx⟩
      rcases List.mem_cons.mp ((h x).mpr hx) with e | hx
      · exact absurd e ne
      · exact hx
theorem names_perm {a b : Tbl} (ha : TOk a) (hb : TOk b) (e : Eqv a b) : (names a).Perm (names b) :=
  perm_of_nd ha.names_nd hb.names_nd fun x => by rw [names_mem ha, names_mem hb, e]
/-- the table with its names in the order of ys -/
def byN (t : Tbl) (ys : List Str) : Tbl := ys.map fun y => (Sum.inr y, (valV t (.inr y)).getD .non)
/-- s is t, sorted -/
structure Srt (t s : Tbl) : Prop where
  ex : ∃ ys, ys.Perm (names t) ∧ sortedS ys = true ∧ s = byN t ys
theorem Srt.len {t s : Tbl} (q : Srt t s) : s.length = t.length := by
  obtain ⟨ys, hp, _, rfl⟩ := q
  unfold byN
  rw [List.length_map, hp.length_eq]
  unfold names
  rw [List.length_map]
theorem byN_congr {a b : Tbl} (e : Eqv a b) (ys : List Str) : byN a ys = byN b ys := List.map_congr_left fun y _ => by rw [e]
/-- tables of the same look-ups sort to one -/
theorem Srt.one {a b s t : Tbl} (ha : TOk a) (hb : TOk b) (e : Eqv a b) (p : Srt a s) (q : Srt b t) : s = t := by
  obtain ⟨ys, y1, y2, rfl⟩ := p
  obtain ⟨zs, z1, z2, rfl⟩ := q
  have hyz : ys = zs := sorted_one y2 z2 (y1.trans ((names_perm ha hb e).trans z1.symm))
  subst hyz
  exact byN_congr e ys
theorem TOk.nil : TOk [] := ⟨List.nodup_nil, fun _ h => absurd h (by simp), fun _ h => absurd h (by simp)⟩
end Own

set_option Elab.async false
set_option linter.all false
set_option maxRecDepth 100000
set_option maxHeartbeats 4000000
namespace Own
open PySem PySem.Spec PyProof.Rows L2
/-- an own class -/
structure CnT (K : PySem.W.Frag) (mg : Str → Option Value) (x : Str) where
  C : Addr
  m : mg x = some (.ref C)
  c : Cls K C
  mks : PySem.W.makesIn K C = true
  kp : PySem.W.keepIn K (.ref C) = true
  ca : PySem.W.findIn K (.ref C) "__class__" = some (some (.builtin "object.__class__"))
  cn : PySem.W.specialIn K (.builtin "object.__class__") "__get__" = some (some (.builtin "getset_descriptor.__get__"))
  ct : PySem.W.takesIn K (.builtin "object.__class__") = some true
  cm : PySem.W.mroIn K C (.type "object") = some true
theorem CnT.ins {K : PySem.W.Frag} {mg : Str → Option Value} {x : Str} (T : CnT K mg x) {H : Hp} {a dx : Addr} {fs : List (Str × V)} (e : H a = some (.ins T.C dx fs)) : TyX K H (.ref a) (.ref T.C) := .base (.ins e T.c T.ca T.cn T.ct T.cm)
/-- a method of it without defaults -/
structure MtT (K : PySem.W.Frag) (C : Addr) (m q : Str) (st : Stmt) (ps : List Str) where
  a : Addr
  d : FuncData
  F : Fun K m q st a d
  at_ : PySem.W.findIn K (.ref C) m = some (some (.ref a))
  fn : PySem.W.isFn K (.ref a) = true
  b : Binds K d ps []
structure StA (gs : List Int) (sd : Int) : Prop where
  few : gs.length ≤ 63
  lo : 0 ≤ sd
  hi : sd < 2147483647
def Stt (H : Hp) (t g : Addr) : Prop := g ≠ t ∧ ∃ (gs : List Int) (c n sd : Int), H t = some (.lst [.ref g, .int c, .int n, .int sd]) ∧ H g = some (.lst (gs.map V.int)) ∧ StA gs sd
/-- all but t and g stays -/
def ExS (t g : Addr) (H H' : Hp) : Prop := ∀ b o, b ≠ t → b ≠ g → H b = some o → H' b = some o
theorem ExS.trans {t g : Addr} {H H1 H2 : Hp} (a : ExS t g H H1) (b : ExS t g H1 H2) : ExS t g H H2 := fun c o n m e => b c o n m (a c o n m e)
theorem Same.exS {t g : Addr} {H H' : Hp} (a : Same H H') : ExS t g H H' := fun c o _ _ e => a c o e
theorem ExS.same {t g : Addr} {H H1 H2 : Hp} (a : ExS t g H H1) (s : Same H1 H2) : ExS t g H H2 := a.trans (Same.exS s)
theorem Stt.same {H H' : Hp} {t g : Addr} (h : Stt H t g) (s : Same H H') : Stt H' t g := by
  obtain ⟨n, gs, c, m, sd, e1, e2, o⟩ := h
  exact ⟨n, gs, c, m, sd, s _ _ e1, s _ _ e2, o⟩
theorem Stt.ne {H : Hp} {t g p : Addr} (h : Stt H t g) (e : H p = none) : p ≠ t ∧ p ≠ g := by
  obtain ⟨n, gs, c, m, sd, e1, e2, o⟩ := h
  exact ⟨(ne_of_none e1 e).symm, (ne_of_none e2 e).symm⟩
end Own

set_option Elab.async false
set_option linter.all false
set_option maxRecDepth 100000
set_option maxHeartbeats 4000000
namespace Own
open PySem PySem.Spec PyProof.Rows L2
def lettersS : Str := "abcdefghijklmnopqrstuvwxyz"
def digitsS : Str := "0123456789"
def keptW : List Str := ["name", "flag", "slot", "func", "open", "own", "look", "bind", "call", "keep", "take", "shift", "run", "drop", "apart", "when", "held", "fail", "guard", "else", "after", "end", "with", "of", "on", "off"]
end Own

set_option Elab.async false
set_option linter.all false
set_option maxRecDepth 100000
set_option maxHeartbeats 4000000
namespace Own
open PySem PySem.Spec PyProof.Rows L2
theorem Stt.upd {H : Hp} {t g D : Addr} {o : HO} (h : Stt H t g) (h1 : D ≠ t) (h2 : D ≠ g) : Stt (L2.upd H D o) t g := by
  obtain ⟨gt, gs, c, k, sd, e1, e2, ok⟩ := h
  exact ⟨gt, gs, c, k, sd, by rw [upd_ne h1.symm]; exact e1, by rw [upd_ne h2.symm]; exact e2, ok⟩
theorem ExS.upd {H H' : Hp} {t g D : Addr} {o : HO} (v : ExS t g H H') (n : H D = none) : ExS t g H (L2.upd H' D o) := fun b u h1 h2 e => by
  rw [upd_ne (by rintro rfl; rw [n] at e; cases e)]
  exact v b u h1 h2 e
end Own

set_option Elab.async false
set_option linter.all false
set_option maxRecDepth 100000
set_option maxHeartbeats 4000000
namespace Own
open PySem PySem.Spec PyProof.Rows L2
/-- the object at x is an environment with this table -/
def EnvAt (C : Addr) (H : Hp) (x : Addr) (t : Tbl) : Prop := ∃ dx d, H x = some (.ins C dx [("table", .ref d)]) ∧ H d = some (.dK t)
theorem EnvAt.same {C : Addr} {H H' : Hp} {x : Addr} {t : Tbl} (h : EnvAt C H x t) (s : Same H H') : EnvAt C H' x t := by
  obtain ⟨dx, d, h1, h2⟩ := h
  exact ⟨dx, d, s _ _ h1, s _ _ h2⟩
theorem EnvAt.exS {C t g : Addr} {H H' : Hp} {x : Addr} {kvs : Tbl} (h : EnvAt C H x kvs) (ht : Stt H t g) (v : ExS t g H H') : EnvAt C H' x kvs := by
  obtain ⟨dx, d, h1, h2⟩ := h
  obtain ⟨_, gs, c, m, sd, e1, e2, _⟩ := ht
  have ne : ∀ a o, H a = some o → (∀ xs, o ≠ .lst xs) → a ≠ t ∧ a ≠ g := fun a o e no => ⟨by rintro rfl; rw [e1] at e; exact no _ (Option.some.inj e).symm, by rintro rfl; rw [e2] at e; exact no _ (Option.some.inj e).symm⟩
  obtain ⟨a1, a2⟩ := ne x _ h1 (fun _ z => by cases z)
  obtain ⟨b1, b2⟩ := ne d _ h2 (fun _ z => by cases z)
  exact ⟨dx, d, v _ _ a1 a2 h1, v _ _ b1 b2 h2⟩
end Own

set_option Elab.async false
set_option linter.all false
set_option maxRecDepth 100000
set_option maxHeartbeats 4000000
namespace Own
open PySem PySem.Spec PyProof.Rows L2
def obsN (chk : PySem.W.Frag → Bool) (fn : List He.DefD) (K : PySem.W.Frag) : He.AlD := (chk K && fn.all fun d => d.ok K, fn.map fun d => He.fnW K d.at_)
section
variable {chk : PySem.W.Frag → Bool} {fn : List He.DefD} {K : PySem.W.Frag}
theorem saysN_both (c : obsN chk fn K = He.valD fn) : chk K = true ∧ (fn.all fun d => d.ok K) = true := Bool.and_eq_true_iff.mp (show (chk K && fn.all fun d => d.ok K) = true from congrArg (fun z : He.AlD => z.1) c)
theorem obsN_join {c1 c2 : PySem.W.Frag → Bool} {f1 f2 : List He.DefD} (a : obsN c1 f1 K = He.valD f1) (b : obsN c2 f2 K = He.valD f2) : obsN (fun K => c1 K && c2 K) (f1 ++ f2) K = He.valD (f1 ++ f2) := by
  obtain ⟨a1, a2⟩ := saysN_both a
  obtain ⟨b1, b2⟩ := saysN_both b
  have a3 : f1.map (fun d => He.fnW K d.at_) = f1.map He.DefD.val := congrArg (fun z : He.AlD => z.2) a
  have b3 : f2.map (fun d => He.fnW K d.at_) = f2.map He.DefD.val := congrArg (fun z : He.AlD => z.2) b
  refine Prod.ext ?_ ?_
  · show ((c1 K && c2 K) && (f1 ++ f2).all fun d => d.ok K) = true
    rw [List.all_append, a1, b1, a2, b2]
    rfl
  · show (f1 ++ f2).map (fun d => He.fnW K d.at_) = (f1 ++ f2).map He.DefD.val
    rw [List.map_append, List.map_append, a3, b3]
end
/-- what an own class must have, as one truth value -/
def clsB (K : PySem.W.Frag) (x : Str) : Bool := (He.Fa.glo x).ok K && ((He.Fa.cls x).ok K && ((He.Fa.mkr x).ok K && (decide (PySem.W.findIn K (.ref (He.ga K x)) "__class__" = some (some (.builtin "object.__class__"))) &&
  (decide (PySem.W.specialIn K (.builtin "object.__class__") "__get__" = some (some (.builtin "getset_descriptor.__get__"))) && (decide (PySem.W.takesIn K (.builtin "object.__class__") = some true) && decide (PySem.W.mroIn K (He.ga K x) (.type "object") = some true))))))
/-- a def of the top, a method, as the look reads them -/
def dfD (x : Str) (st : Stmt) : He.DefD := { at_ := (x, none), name := x, qual := x, params := defArgs st, body := defBody st, scope := defScope st }
def mtD (c m qual : Str) (st : Stmt) (dfl : List He.Dv) : He.DefD := { at_ := (c, some m), name := m, qual := qual, params := defArgs st, body := defBody st, scope := defScope st, dfl := dfl }
end Own

set_option Elab.async false
set_option linter.all false
set_option maxRecDepth 100000
set_option maxHeartbeats 4000000

set_option Elab.async false
set_option linter.all false
set_option maxRecDepth 100000
set_option maxHeartbeats 4000000

set_option Elab.async false
set_option linter.all false
set_option maxRecDepth 100000
set_option maxHeartbeats 4000000
namespace Own
open PySem PySem.Spec PyProof.Rows L2
theorem TOk.filter {t : Tbl} (h : TOk t) (b : Key × V → Bool) : TOk (t.filter b) :=
  ⟨h.nd.sublist (List.Sublist.map _ List.filter_sublist), fun p hp => h.id p (List.mem_filter.mp hp).1, fun p hp => h.ok p (List.mem_filter.mp hp).1⟩
end Own

set_option Elab.async false
set_option linter.all false
set_option maxRecDepth 100000
set_option maxHeartbeats 4000000
namespace Own
open PySem PySem.Spec PyProof.Rows L2
theorem sqT_same {K : PySem.W.Frag} {H H' : Hp} {a : Addr} {xs : List V} (s : Same H H') (h : SqT K H a xs) : SqT K H' a xs := SqT.tu (Same.tu s) h
end Own

set_option Elab.async false
set_option linter.all false
set_option maxRecDepth 100000
set_option maxHeartbeats 4000000

set_option Elab.async false
set_option linter.all false
set_option maxRecDepth 100000
set_option maxHeartbeats 4000000

set_option Elab.async false
set_option linter.all false
set_option maxRecDepth 100000
set_option maxHeartbeats 4000000

set_option Elab.async false
set_option linter.all false
set_option maxRecDepth 100000
set_option maxHeartbeats 4000000

set_option Elab.async false
set_option linter.all false
set_option maxRecDepth 100000
set_option maxHeartbeats 4000000
namespace Own
open PySem PySem.Spec PyProof.Rows L2
def obsY (chk : PySem.W.Frag → Bool) (fn : List He.DefD) (tf : List He.Defn) (g : Addr → Option Obj) (as : List Addr) : He.AlD := ((obsN chk fn (He.frT g as)).1 && He.tabsB g tf (He.frT g as), (obsN chk fn (He.frT g as)).2)
/-- the defs' tables: empty, not told by K -/
def TabsY (tf : List He.Defn) (K : PySem.W.Frag) (h : Heap) : Prop := ∀ p ∈ tf, PySem.W.codeHdIn K (He.cT K p).1 (He.cT K p).2 = true ∧ K.lookup (He.cT K p).2 = none ∧ h.get? (He.cT K p).2 = some { cls := .none, data := .fields #[] }
theorem saysY {chk : PySem.W.Frag → Bool} {fn : List He.DefD} {tf : List He.Defn} {h : Heap} {as : List Addr} (e : obsY chk fn tf h.get? as = He.valD fn) : obsN chk fn (He.frT h.get? as) = He.valD fn ∧ TabsY tf (He.frT h.get? as) h := by
  have e1 : ((obsN chk fn (He.frT h.get? as)).1 && He.tabsB h.get? tf (He.frT h.get? as)) = true := congrArg (fun z : He.AlD => z.1) e
  have e2 : (obsY chk fn tf h.get? as).2 = (He.valD fn).2 := congrArg (fun z : He.AlD => z.2) e
  obtain ⟨h1, h2⟩ := He.ba e1
  refine ⟨Prod.ext h1 e2, fun p hp => ?_⟩
  obtain ⟨h3, h4⟩ := He.ba (List.all_eq_true.mp h2 p hp)
  refine ⟨h3, ?_⟩
  cases q : h.get? (He.cT (He.frT h.get? as) p).2 with
  | none =>
    rw [q] at h4
    cases h4
  | some o =>
    rw [q] at h4
    exact ⟨He.frT_none q h4, by rw [He.emptyTab_eq h4]⟩
end Own

set_option Elab.async false
set_option linter.all false
set_option maxRecDepth 100000
set_option maxHeartbeats 4000000
namespace Own
open PySem PySem.Spec PyProof.Rows L2
/-- what the text says of a built-in type's | -/
structure OrT (K : PySem.W.Frag) (C : Addr) (T : String) (fo ro : Option Value) : Prop where
  t1 : PySem.W.findIn K (.type T) (PySem.dunder "or") = some fo
  t2 : PySem.W.findIn K (.type T) (dunderR "or") = some ro
  ap : PySem.W.subIn K (.type T) (.ref C) = some false
  pa : PySem.W.subIn K (.ref C) (.type T) = some false
/-- a value of a built-in type that declines | with an instance -/
inductive Odd (K : PySem.W.Frag) (C : Addr) (H : Hp) : V → Prop where
  | int {i : Int} (o : OrT K C "int" (some (.builtin "int.__or__")) (some (.builtin "int.__ror__"))) : Odd K C H (.int i)
  | bl {b : Bool} (o : OrT K C "bool" (some (.builtin "bool.__or__")) (some (.builtin "bool.__ror__"))) : Odd K C H (.bl b)
  | no {v : V} {T : String} (o : OrT K C T none none) (ty : TyX K H v (.type T)) : Odd K C H v
section
variable {X : Cx} {pins : List (Addr × Obj)} {σ : L2.St} {H : Hp} {s : Shared} {CX : CXT} {k : Nat} {C f g : Addr} {spF spG : Sp} {E : XK}
theorem Odd.ty {K : PySem.W.Frag} {v : V} (o : Odd K C H v) : ∃ T fo ro, OrT K C T fo ro ∧ TyX K H v (.type T) := by
  cases o with
  | int o => exact ⟨_, _, _, o, .base (.int _)⟩
  | bl o => exact ⟨_, _, _, o, .base (.bl _)⟩
  | no o ty => exact ⟨_, _, _, o, ty⟩
end
end Own

set_option Elab.async false
set_option linter.all false
set_option maxRecDepth 100000
set_option maxHeartbeats 4000000
namespace Own
open PySem PySem.Spec PyProof.Rows L2
/-- where the getter of the property m stands -/
def prA (K : PySem.W.Frag) (C : Addr) (m : Str) : Addr := match PySem.W.recIn K (He.ma K C m) "property" with
  | some (.ref g :: _) => g
  | _ => 0
def fnWA (K : PySem.W.Frag) (a : Addr) : He.FnW := match K.lookup a with
  | some ⟨_, _, .func fd, _⟩ => some (fd.name, fd.qualname, fd.params, fd.body, fd.scope, fd.globals, fd.closure, fd.builtins)
  | _ => none
/-- class, property, qualified name, the def -/
structure PrD where
  c : Str
  m : Str
  qual : Str
  st : Stmt
def PrD.val (d : PrD) : He.FnW := some (d.m, d.qual, defArgs d.st, .stmts (defBody d.st), defScope d.st, mainGlobals, [], builtinsNs)
def PrD.at_ (K : PySem.W.Frag) (d : PrD) : Addr := prA K (He.ga K d.c) d.m
def PrD.ok (K : PySem.W.Frag) (d : PrD) : Bool := decide (PySem.W.findIn K (.ref (He.ga K d.c)) d.m = some (some (.ref (He.ma K (He.ga K d.c) d.m)))) && (decide (PySem.W.specialIn K (.ref (He.ma K (He.ga K d.c) d.m)) "__get__" = some (some (.builtin "property.__get__"))) &&
  (decide (PySem.W.takesIn K (.ref (He.ma K (He.ga K d.c) d.m)) = some true) && ((match PySem.W.recIn K (He.ma K (He.ga K d.c) d.m) "property" with
  | some (.ref _ :: _) => true
  | _ => false) && (match K.lookup (d.at_ K) with
  | some ⟨_, _, .func fd, _⟩ => PySem.W.codeIn K fd.code d.qual && (match fd.defaults with
    | .none => true
    | _ => false)
  | _ => false))))
end Own

set_option Elab.async false
set_option linter.all false
set_option maxRecDepth 100000
set_option maxHeartbeats 4000000

set_option Elab.async false
set_option linter.all false
set_option maxRecDepth 100000
set_option maxHeartbeats 4000000
namespace Own
open PySem PySem.Spec PyProof.Rows L2
/-- a promise that speaks of the state at the call, too -/
abbrev SpS : Type := List Env → Shared → Sp
end Own

set_option Elab.async false
set_option linter.all false
set_option maxRecDepth 100000
set_option maxHeartbeats 4000000
namespace Own
open PySem PySem.Spec PyProof.Rows L2
def obsZ (chk : PySem.W.Frag → Bool) (fn : List He.DefD) (tf : List He.Defn) (pr : List PrD) (g : Addr → Option Obj) (as : List Addr) : He.AlD := ((obsY chk fn tf g as).1 && pr.all fun d => d.ok (He.frT g as), (obsY chk fn tf g as).2 ++ pr.map fun d => fnWA (He.frT g as) (d.at_ (He.frT g as)))
def valZ (fn : List He.DefD) (pr : List PrD) : He.AlD := (true, fn.map He.DefD.val ++ pr.map PrD.val)
def PropsZ (pr : List PrD) (K : PySem.W.Frag) : Prop := ∀ d ∈ pr, fnWA K (d.at_ K) = d.val ∧ d.ok K = true
theorem saysZ {chk : PySem.W.Frag → Bool} {fn : List He.DefD} {tf : List He.Defn} {pr : List PrD} {h : Heap} {as : List Addr} (e : obsZ chk fn tf pr h.get? as = valZ fn pr) : obsN chk fn (He.frT h.get? as) = He.valD fn ∧ TabsY tf (He.frT h.get? as) h ∧ PropsZ pr (He.frT h.get? as) := by
  have e1 : ((obsY chk fn tf h.get? as).1 && pr.all fun d => d.ok (He.frT h.get? as)) = true := congrArg (fun z : He.AlD => z.1) e
  have e2 : (obsZ chk fn tf pr h.get? as).2 = (valZ fn pr).2 := congrArg (fun z : He.AlD => z.2) e
  have e3 : (obsY chk fn tf h.get? as).2 ++ (pr.map fun d => fnWA (He.frT h.get? as) (d.at_ (He.frT h.get? as))) = fn.map He.DefD.val ++ pr.map PrD.val := e2
  obtain ⟨h1, h2⟩ := He.ba e1
  have l : (obsY chk fn tf h.get? as).2.length = (fn.map He.DefD.val).length := by
    show (fn.map _).length = _
    rw [List.length_map, List.length_map]
  obtain ⟨e4, e5⟩ := List.append_inj e3 l
  obtain ⟨a, b⟩ := saysY (chk := chk) (fn := fn) (tf := tf) (h := h) (as := as) (Prod.ext h1 e4)
  refine ⟨a, b, fun d hd => ⟨?_, List.all_eq_true.mp h2 d hd⟩⟩
  exact List.map_inj_left.mp e5 d hd
end Own

set_option Elab.async false
set_option linter.all false
set_option maxRecDepth 100000
set_option maxHeartbeats 4000000

set_option Elab.async false
set_option linter.all false
set_option maxRecDepth 100000
set_option maxHeartbeats 4000000
namespace Own
open PySem PySem.Spec PyProof.Rows L2
/-- a code object of the name q whose own table lies at P -/
def CodeH (c : Addr) (q : Str) (P : Addr) : HO := .ext fun h => h.CodeRec (.ref c) q ∧ PySem.W.CodeHd h c P
/-- the name of what is made within q -/
abbrev qSub (q : Str) : Str := (q ++ ".<locals>.") ++ "<lambda>"
/-- the tables T: all that they tell has its own table in T -/
structure TabsC (base : Heap) (mg : Str → Option Value) (T : List (Addr × Str)) (H : Hp) : Prop where
  at_ : ∀ p ∈ T, (mainGlobals ≠ p.1 ∧ base.BuiltinsAt mg p.1) ∧ ∃ ps : Array Value, H p.1 = some (.tbl ps) ∧ TriplesOk ps.toList ∧ ∀ (pos : Pos) (cv : Value), codeAmong pos ps.toList = some cv → ∃ c P', cv = .ref c ∧ H c = some (CodeH c p.2 P') ∧ (P', qSub p.2) ∈ T
  one : ∀ p ∈ T, ∀ p' ∈ T, p.1 = p'.1 → p.2 = p'.2
/-- tables with these among them -/
def TW (base : Heap) (mg : Str → Option Value) (B : List (Addr × Str)) (H : Hp) : Prop := ∃ T, TabsC base mg T H ∧ ∀ p ∈ B, p ∈ T
/-- what tables need to stay -/
def KeepT (H H' : Hp) : Prop := ∀ b o, H b = some o → (∀ xs, o ≠ .lst xs) → (∀ C dx fs, o ≠ .ins C dx fs) → (∀ kv, o ≠ .dK kv) → H' b = some o
theorem KeepT.same {H H' : Hp} (s : Same H H') : KeepT H H' := fun b o e _ _ _ => s b o e
theorem KeepT.trans {H H1 H2 : Hp} (a : KeepT H H1) (b : KeepT H1 H2) : KeepT H H2 := fun c o e h1 h2 h3 => b c o (a c o e h1 h2 h3) h1 h2 h3
theorem TW.keep {base : Heap} {mg : Str → Option Value} {B : List (Addr × Str)} {H H' : Hp} (t : TW base mg B H) (k : KeepT H H') : TW base mg B H' := by
  obtain ⟨T, ⟨ta, t1⟩, sub⟩ := t
  refine ⟨T, ⟨fun p hp => ?_, t1⟩, sub⟩
  obtain ⟨g, ps, e, tr, cs⟩ := ta p hp
  refine ⟨g, ps, k _ _ e (fun _ z => by cases z) (fun _ _ _ z => by cases z) (fun _ z => by cases z), tr, fun pos cv hc => ?_⟩
  obtain ⟨c, P', ec, hcc, hm⟩ := cs pos cv hc
  exact ⟨c, P', ec, k _ _ hcc (fun _ z => (by unfold CodeH at z; cases z)) (fun _ _ _ z => (by unfold CodeH at z; cases z)) (fun _ z => (by unfold CodeH at z; cases z)), hm⟩
theorem TW.same {base : Heap} {mg : Str → Option Value} {B : List (Addr × Str)} {H H' : Hp} (t : TW base mg B H) (s : Same H H') : TW base mg B H' := t.keep (.same s)
theorem TW.sub {base : Heap} {mg : Str → Option Value} {B B' : List (Addr × Str)} {H : Hp} (t : TW base mg B H) (s : ∀ p ∈ B', p ∈ B) : TW base mg B' H := let ⟨T, a, b⟩ := t; ⟨T, a, fun p hp => b p (s p hp)⟩
/-- from one moment to a later one: what cells hold stays, if the frames are not theirs -/
def CK (outer : List Env) (s : Shared) (H : Hp) (outer' : List Env) (s' : Shared) (H' : Hp) : Prop :=
  ∀ (cl : List (Str × Addr)) (fr : List Str) (ws : List (Option V)), NdefX.CellsAt cl fr ws s.heap H → (∀ y c, cl.lookup y = some c → c ∉ frs outer) → NdefX.CellsAt cl fr ws s'.heap H' ∧ ∀ y c, cl.lookup y = some c → c ∉ frs outer'
theorem CK.trans {o1 o2 o3 : List Env} {s1 s2 s3 : Shared} {H1 H2 H3 : Hp} (a : CK o1 s1 H1 o2 s2 H2) (b : CK o2 s2 H2 o3 s3 H3) : CK o1 s1 H1 o3 s3 H3 := fun cl fr ws c n => let ⟨c2, n2⟩ := a cl fr ws c n; b cl fr ws c2 n2
structure CB where
  O : HO
  c : Addr
  q : Str
  cl : List (Str × Addr)
  P : Addr
abbrev SpC : Type := List Env → Shared → List (Option V) → Sp
end Own

set_option Elab.async false
set_option linter.all false
set_option maxRecDepth 100000
set_option maxHeartbeats 4000000
namespace Own
open PySem PySem.Spec PyProof.Rows L2

end Own

set_option Elab.async false
set_option linter.all false
set_option maxRecDepth 100000
set_option maxHeartbeats 4000000
namespace Own
open PySem PySem.Spec PyProof.Rows L2


end Own

set_option Elab.async false
set_option linter.all false
set_option maxRecDepth 100000
set_option maxHeartbeats 4000000
namespace Own
open PySem PySem.Spec PyProof.Rows L2
/-- what a walk changes: lists, a scope, dicts that are no bindings -/
def MutO (o : HO) : Prop := (∃ xs, o = .lst xs) ∨ (∃ C dx v fs, o = .ins C dx (("root", v) :: fs)) ∨ ∃ kv, o = .dK kv ∧ ¬ TOk kv
def Dy (Z : List Addr) (H H' : Hp) : Prop := ∀ b o, b ∉ Z → (∀ ps, o ≠ .tbl ps) → H b = some o → H' b = some o
def ZOk (Z : List Addr) (H : Hp) : Prop := ∀ a ∈ Z, ∃ o, H a = some o ∧ MutO o
section
variable {Z : List Addr} {H H1 H' : Hp} {b : Addr} {o : HO}
theorem Dy.trans (a : Dy Z H H1) (c : Dy Z H1 H') : Dy Z H H' := fun b o h1 h2 e => c b o h1 h2 (a b o h1 h2 e)
theorem Dy.same (s : Same H H') : Dy Z H H' := fun _ _ _ _ e => s _ _ e
theorem Dy.exS {t g : Addr} (s : ExS t g H H') (ht : t ∈ Z) (hg : g ∈ Z) : Dy Z H H' := fun b o h _ e => s _ _ (fun z => h (z ▸ ht)) (fun z => h (z ▸ hg)) e
theorem Dy.exT {x : Addr} (s : ExT x H H') (hx : x ∈ Z) : Dy Z H H' := fun b o h _ e => s _ _ (fun z => h (z ▸ hx)) e
theorem ZOk.not (z : ZOk Z H) (e : H b = some o) (n : ¬ MutO o) : b ∉ Z := fun m => by
  obtain ⟨u, e', mu⟩ := z b m
  rw [e] at e'
  cases e'
  exact n mu
theorem Dy.keep (D : Dy Z H H') (z : ZOk Z H) (e : H b = some o) (n : ¬ MutO o) (nt : ∀ ps, o ≠ .tbl ps) : H' b = some o := D b o (z.not e n) nt e
theorem Dy.lst {xs : List V} (D : Dy Z H H') (n : b ∉ Z) (e : H b = some (.lst xs)) : H' b = some (.lst xs) := D b _ n (fun _ z => by cases z) e
end
inductive Line (ps : List Nat) : Nat → List Nat → Prop
  | root : Line ps 0 [0]
  | up {i j : Nat} {l : List Nat} (h : i ≠ 0) (e : ps[i]? = some j) (r : Line ps j l) : Line ps i (i :: l)
section
variable {ps ps' : List Nat}
theorem Line.head {i : Nat} {l : List Nat} (h : Line ps i l) : ∃ r, l = i :: r := by
  cases h with
  | root => exact ⟨_, rfl⟩
  | up _ _ _ => exact ⟨_, rfl⟩
theorem Line.lt {i : Nat} {l : List Nat} (h : Line ps i l) (hi : 0 < ps.length) : i < ps.length := by
  cases h with
  | root => exact hi
  | up _ e _ => exact (List.getElem?_eq_some_iff.mp e).1
end
end Own

set_option Elab.async false
set_option linter.all false
set_option maxRecDepth 100000
set_option maxHeartbeats 4000000

set_option Elab.async false
set_option linter.all false
set_option maxRecDepth 100000
set_option maxHeartbeats 4000000

set_option Elab.async false
set_option linter.all false
set_option maxRecDepth 100000
set_option maxHeartbeats 4000000

set_option Elab.async false
set_option linter.all false
set_option maxRecDepth 100000
set_option maxHeartbeats 4000000

set_option Elab.async false
set_option linter.all false
set_option maxRecDepth 100000
set_option maxHeartbeats 4000000
namespace Own
open PySem PySem.Spec PyProof.Rows L2
def CellO (c : Addr) (b : Obj) : HO := .ext fun h => h.get? c = some b
def unp (H : Hp) (c : Addr) : Hp := fun a => if a = c then none else H a
theorem unp_ne {H : Hp} {a c : Addr} (h : a ≠ c) : unp H c a = H a := by unfold unp; rw [if_neg h]
end Own

set_option Elab.async false
set_option linter.all false
set_option maxRecDepth 100000
set_option maxHeartbeats 4000000

set_option Elab.async false
set_option linter.all false
set_option maxRecDepth 100000
set_option maxHeartbeats 4000000
namespace Own
open PySem PySem.Spec PyProof.Rows L2
/-- at d: a written dict; its entries by R -/
structure CDict (K : PySem.W.Frag) (w : World) (d : Addr) {α : Type} (kvs : List (Str × α)) (R : α → V → Prop) where
  es : Array DictEntry
  n : Nat
  kd : KDict K w d es n
  has : ∀ x r, (x, r) ∈ kvs → ∃ u v, PySem.W.nsIn K d x = some (some u) ∧ RelV v u ∧ R r v
  no : ∀ x, x ∉ kvs.map (·.1) → PySem.W.nsIn K d x = some none
/-- a tuple of texts, wherever -/
def TupS (K : PySem.W.Frag) (rs : List Str) (v : V) : Prop := ∃ a, v = .ref a ∧ ∀ H, SqT K H a (rs.map V.str)
def StrS (x : Str) (v : V) : Prop := v = .str x
end Own

set_option Elab.async false
set_option linter.all false
set_option maxRecDepth 100000
set_option maxHeartbeats 4000000
namespace Own
open PySem PySem.Spec PyProof.Rows L2
abbrev RK := L2.St → V → Hp → Prop
abbrev TR := RK → L2.St → Hp → Prop
end Own

set_option Elab.async false
set_option linter.all false
set_option maxRecDepth 100000
set_option maxHeartbeats 4000000
namespace Own
open PySem PySem.Spec PyProof.Rows L2
section
variable {P : Program} {w : World} {K : PySem.W.Frag} {mg : Str → Option Value} {base : Heap} {H H' : Hp} {h h' B : Heap} {c : Addr} {b : Obj} {fs ex : List Addr} {A : Around} {outer : List Env} {s s' : Shared} {Q Q' : VK} {E E' : XK} {u : Value}
def Pins (H : Hp) (l : List (Addr × Obj)) : Prop := (l.map (·.1)).Nodup ∧ ∀ p ∈ l, H p.1 = some (CellO p.1 p.2)
theorem nd_ne {p : Addr × Obj} {l : List (Addr × Obj)} (nd : ((p :: l).map (·.1)).Nodup) : (l.map (·.1)).Nodup ∧ ∀ q ∈ l, q.1 ≠ p.1 := by
  have z := List.nodup_cons.mp nd
  exact ⟨z.2, fun q m e => z.1 (List.mem_map.mpr ⟨q, m, e⟩)⟩
theorem Pins.tail {p : Addr × Obj} {l : List (Addr × Obj)} (h : Pins H (p :: l)) : Pins (unp H p.1) l := by
  obtain ⟨nd, a⟩ := h
  obtain ⟨n1, n2⟩ := nd_ne nd
  exact ⟨n1, fun q m => by
    rw [unp_ne (n2 q m)]
    exact a q (List.mem_cons_of_mem _ m)⟩
end
end Own

set_option Elab.async false
set_option linter.all false
set_option maxRecDepth 100000
set_option maxHeartbeats 4000000
namespace Own
open PySem PySem.Spec PyProof.Rows L2
def Msk (m : Nat) : Prop := m = 7 ∨ m = 15 ∨ m = 31 ∨ m = 63 ∨ m = 127 ∨ m = 255 ∨ m = 511
/-- the places of n steps of the round, as the bits of a number -/
def orb (m : Nat) : Nat → Nat → Nat → Nat
  | 0, _, c => c
  | n + 1, x, c => orb m n ((x * 5 + 1) % (m + 1)) (c ||| 1 <<< x)
theorem lcg_front (m i : Nat) : ∀ k, lcgI m ((i * 5 + 1) % (m + 1)) k = lcgI m i (k + 1)
  | 0 => rfl
  | k + 1 => by
    show (lcgI m ((i * 5 + 1) % (m + 1)) k * 5 + 1) % (m + 1) = (lcgI m i (k + 1) * 5 + 1) % (m + 1)
    rw [lcg_front m i k]
theorem lcg_more (m i a : Nat) : ∀ k, lcgI m (lcgI m i a) k = lcgI m i (a + k)
  | 0 => rfl
  | k + 1 => by
    show (lcgI m (lcgI m i a) k * 5 + 1) % (m + 1) = (lcgI m i (a + k) * 5 + 1) % (m + 1)
    rw [lcg_more m i a k]
theorem orb_met (m : Nat) : ∀ (n x c j : Nat), (orb m n x c).testBit j = true → c.testBit j = true ∨ ∃ k, k < n ∧ lcgI m x k = j
  | 0, _, _, _, h => .inl h
  | n + 1, x, c, j, h => by
    rcases orb_met m n _ _ j h with h | ⟨k, hk, e⟩
    · rw [Nat.testBit_or, Bool.or_eq_true] at h
      rcases h with h | h
      · exact .inl h
      · rw [Nat.testBit_shiftLeft] at h
        simp only [Bool.and_eq_true, decide_eq_true_eq] at h
        refine .inr ⟨0, by omega, ?_⟩
        have e : j - x = 0 := by
          have z := h.2
          rcases Nat.eq_zero_or_pos (j - x) with e | e
          · exact e
          · obtain ⟨y, ey⟩ : ∃ y, j - x = y + 1 := ⟨j - x - 1, by omega⟩
            rw [ey, Nat.testBit_succ] at z
            simp at z
        show x = j
        omega
    · refine .inr ⟨k + 1, by omega, ?_⟩
      rw [← lcg_front]
      exact e
theorem orb_all {m : Nat} (h : Msk m) : orb m (m + 1) 0 0 = 2 ^ (m + 1) - 1 := by
  rcases h with rfl | rfl | rfl | rfl | rfl | rfl | rfl <;> decide +kernel
theorem lcg_back {m : Nat} (h : Msk m) : lcgI m 0 (m + 1) = 0 := by
  rcases h with rfl | rfl | rfl | rfl | rfl | rfl | rfl <;> decide +kernel
theorem Msk.met0 {m : Nat} (h : Msk m) {j : Nat} (hj : j ≤ m) : ∃ k, k ≤ m ∧ lcgI m 0 k = j := by
  have z : (orb m (m + 1) 0 0).testBit j = true := by
    rw [orb_all h, Nat.testBit_two_pow_sub_one]
    exact decide_eq_true (by omega)
  rcases orb_met m _ _ _ _ z with z | ⟨k, hk, e⟩
  · simp at z
  · exact ⟨k, by omega, e⟩
theorem Msk.met {m : Nat} (h : Msk m) {i j : Nat} (hi : i ≤ m) (hj : j ≤ m) : ∃ k, k ≤ m ∧ lcgI m i k = j := by
  obtain ⟨a, ha, rfl⟩ := h.met0 hi
  obtain ⟨b, hb, rfl⟩ := h.met0 hj
  by_cases c : a ≤ b
  · exact ⟨b - a, by omega, by rw [lcg_more, Nat.add_sub_of_le c]⟩
  · refine ⟨m + 1 - a + b, by omega, ?_⟩
    rw [lcg_more, show a + (m + 1 - a + b) = (m + 1) + b from by omega, ← lcg_more, lcg_back h]
theorem Msk.runs {m : Nat} (h : Msk m) (x : Int) {j : Nat} (hj : j ≤ m) : ∃ n, n ≤ m + 12 ∧ runI m (SetTable.bits x) n = j := by
  obtain ⟨k, hk, e⟩ := h.met (runI_le m (SetTable.bits x) 12) hj
  exact ⟨12 + k, by omega, (runI_tail (bits_lt x) k).trans e⟩
theorem Msk.ways {m : Nat} (h : Msk m) (x : Int) {j : Nat} (hj : j ≤ m) : ∃ k, k < 10 * SetTable.turns m ∧ way m x k = j := by
  obtain ⟨n, hn, e⟩ := h.runs x hj
  obtain ⟨k, hk, e2⟩ := run_nth m (SetTable.bits x) n
  refine ⟨k, by unfold SetTable.turns; omega, ?_⟩
  show (nth m _ k).j = j
  rw [e2]
  exact e
theorem Msk.le {m : Nat} (h : Msk m) : m ≤ 511 := by
  rcases h with rfl | rfl | rfl | rfl | rfl | rfl | rfl <;> decide
theorem erase_list {α : Type} (xs : Array α) (p : Nat) : (SetTable.eraseAt xs p).toList = xs.toList.eraseIdx p := by
  unfold SetTable.eraseAt
  rw [List.eraseIdx_eq_take_drop_succ]
  simp [List.take_of_length_le]
theorem ris_erase {xs : Array Nat} (r : Ris xs.toList) (p : Nat) : Ris (SetTable.eraseAt xs p).toList := by
  rw [erase_list]
  exact List.Pairwise.sublist (List.eraseIdx_sublist _ _) r
theorem mem_eraseIdx_of {α : Type} {l : List α} {p : Nat} {x y : α} (e : l[p]? = some y) (m : x ∈ l) (ne : x ≠ y) : x ∈ l.eraseIdx p := by
  obtain ⟨i, ei⟩ := List.mem_iff_getElem?.mp m
  rw [List.eraseIdx_eq_take_drop_succ, List.mem_append]
  by_cases c : i < p
  · refine .inl (List.mem_iff_getElem?.mpr ⟨i, ?_⟩)
    rw [List.getElem?_take, if_pos c, ei]
  · have c2 : i ≠ p := fun z => by
      rw [z, e] at ei
      exact ne (Option.some.inj ei).symm
    refine .inr (List.mem_iff_getElem?.mpr ⟨i - (p + 1), ?_⟩)
    rw [List.getElem?_drop, show p + 1 + (i - (p + 1)) = i from by omega, ei]
theorem rises_not {l : List Nat} (r : Ris l) {p y : Nat} (e : l[p]? = some y) : y ∉ l.eraseIdx p := by
  intro m
  rw [List.eraseIdx_eq_take_drop_succ, List.mem_append] at m
  rcases m with m | m
  · obtain ⟨i, ei⟩ := List.mem_iff_getElem?.mp m
    rw [List.getElem?_take] at ei
    split at ei
    · next c => exact absurd (ris_lt r ei e c) (Nat.lt_irrefl _)
    · cases ei
  · obtain ⟨i, ei⟩ := List.mem_iff_getElem?.mp m
    rw [List.getElem?_drop] at ei
    exact absurd (ris_lt r e ei (by omega)) (Nat.lt_irrefl _)
theorem insert_mem {xs : Array Nat} {j x : Nat} : x ∈ (SetTable.insertAt xs (SetTable.below xs j) j).toList ↔ x = j ∨ x ∈ xs.toList := by
  rw [SetTable.toList_insertAt]
  exact mem_ins
/-- a place that is not free -/
def Occ (t : SetTable) (j : Nat) : Prop := j ∈ t.place.toList ∨ j ∈ t.dummies.toList
structure TabD (t : SetTable) (hs : List Int) : Prop where
  ris : Ris t.place.toList
  rid : Ris t.dummies.toList
  dis : ∀ j ∈ t.dummies.toList, j ∉ t.place.toList
  sz : t.place.toList.length = hs.length
  mok : Msk t.mask
  bd : ∀ j, Occ t j → j ≤ t.mask
  reach : ∀ (i : Nat) (x : Int) (j : Nat), hs[i]? = some x → t.place.toList[i]? = some j → ∃ k, way t.mask x k = j ∧ ∀ k', k' < k → Occ t (way t.mask x k')
section
variable {t : SetTable} {hs : List Int}
theorem TabD.first (T : TabD t hs) (hl : t.fill ≤ t.mask) (x : Int) : ∃ K, K < 10 * SetTable.turns t.mask ∧ ¬ Occ t (way t.mask x K) ∧ ∀ k, k < K → Occ t (way t.mask x k) := by
  obtain ⟨j, hj, hn⟩ := st_missing (t.place.toList ++ t.dummies.toList) (t.mask + 1) (by
    rw [List.length_append, Array.length_toList, Array.length_toList]
    exact Nat.lt_succ_of_le hl)
  obtain ⟨k, hk, e⟩ := T.mok.ways x (Nat.le_of_lt_succ hj)
  obtain ⟨K, h1, h2, h3⟩ := st_least (p := fun k => ¬ Occ t (way t.mask x k)) k (by
    show ¬ Occ t (way t.mask x k)
    rw [e]
    exact fun z => hn (List.mem_append.mpr z))
  exact ⟨K, Nat.lt_of_le_of_lt h1 hk, h2, fun k' hk' => Classical.not_not.mp (h3 k' hk')⟩
theorem TabD.before (T : TabD t hs) {x : Int} {K i j : Nat} (hK : ¬ Occ t (way t.mask x K)) (hi : hs[i]? = some x) (hj : t.place.toList[i]? = some j) : ∃ k, k < K ∧ way t.mask x k = j := by
  obtain ⟨k, e, hb⟩ := T.reach i x j hi hj
  refine ⟨k, ?_, e⟩
  rcases Nat.lt_trichotomy k K with c | c | c
  · exact c
  · rw [← c, e] at hK
    exact absurd (.inl (List.mem_of_getElem? hj)) hK
  · exact absurd (hb K c) hK
/-- the n-th stand of a search for a hash -/
abbrev stand (t : SetTable) (x : Int) (n : Nat) : SetTable.Probe := nth t.mask (runAt t.mask (SetTable.bits x % (t.mask + 1)) (SetTable.bits x)) n
/-- what is remembered is a removed place met before -/
def GoodD (t : SetTable) (x : Int) (n : Nat) (d : Option Nat) : Prop := ∀ j, d = some j → j ∈ t.dummies.toList ∧ ∃ r, r < n ∧ way t.mask x r = j
theorem GoodD.up {x : Int} {n n' : Nat} {d : Option Nat} (g : GoodD t x n d) (h : n ≤ n') : GoodD t x n' d := fun j e => by
  obtain ⟨g1, r, g2, g3⟩ := g j e
  exact ⟨g1, r, by omega, g3⟩
/-- one is taken away: its place stays, marked -/
theorem TabD.drop (T : TabD t hs) {i : Nat} (hi : i < hs.length) : TabD (t.drop i) (hs.eraseIdx i) ∧ (t.drop i).mask = t.mask ∧ (t.drop i).led = t.led ∧ (t.drop i).fill = t.fill := by
  have il : i < t.place.toList.length := by rw [T.sz]; exact hi
  obtain ⟨j, ej⟩ : ∃ j, t.place.toList[i]? = some j := ⟨_, List.getElem?_eq_getElem il⟩
  have ej2 : t.place[i]? = some j := by rw [← Array.getElem?_toList]; exact ej
  have ed : t.drop i = { t with place := SetTable.eraseAt t.place i, dummies := SetTable.insertAt t.dummies (SetTable.below t.dummies j) j } := by
    unfold SetTable.drop
    rw [ej2]
  rw [ed]
  have mj : j ∈ t.place.toList := List.mem_of_getElem? ej
  have nd : j ∉ t.dummies.toList := fun z => T.dis j z mj
  have np : t.dummies[SetTable.below t.dummies j]? ≠ some j := fun e => nd (List.mem_of_getElem? (by rw [Array.getElem?_toList]; exact e))
  have occ : ∀ y, Occ t y ↔ Occ { t with place := SetTable.eraseAt t.place i, dummies := SetTable.insertAt t.dummies (SetTable.below t.dummies j) j } y := fun y => by
    constructor
    · intro o
      by_cases e : y = j
      · exact .inr (insert_mem.mpr (.inl e))
      · rcases o with o | o
        · refine .inl ?_
          show y ∈ (SetTable.eraseAt t.place i).toList
          rw [erase_list]
          exact mem_eraseIdx_of ej o e
        · exact .inr (insert_mem.mpr (.inr o))
    · intro o
      rcases o with o | o
      · have z : y ∈ (SetTable.eraseAt t.place i).toList := o
        rw [erase_list] at z
        exact .inl (List.mem_of_mem_eraseIdx z)
      · rcases insert_mem.mp o with e | e
        · exact .inl (e ▸ mj)
        · exact .inr e
  have key : ∀ {α : Type} (l : List α) (q : Nat), (l.eraseIdx i)[q]? = if q < i then l[q]? else l[q + 1]? := fun l q => by rw [List.getElem?_eraseIdx]
  refine ⟨⟨ris_erase T.ris i, ris_insert T.rid np, fun y my mp => ?_, ?_, T.mok, fun y o => T.bd y ((occ y).mpr o), fun q x y h1 h2 => ?_⟩, rfl, rfl, ?_⟩
  · have mp : y ∈ (SetTable.eraseAt t.place i).toList := mp
    rw [erase_list] at mp
    rcases insert_mem.mp my with e | e
    · exact rises_not T.ris ej (e ▸ mp)
    · exact T.dis y e (List.mem_of_mem_eraseIdx mp)
  · show (SetTable.eraseAt t.place i).toList.length = _
    rw [erase_list, List.length_eraseIdx_of_lt il, List.length_eraseIdx_of_lt hi, T.sz]
  · have h2 : (SetTable.eraseAt t.place i).toList[q]? = some y := h2
    rw [erase_list, key] at h2
    rw [key] at h1
    by_cases c : q < i
    · rw [if_pos c] at h1 h2
      obtain ⟨k, e, z⟩ := T.reach q x y h1 h2
      exact ⟨k, e, fun k' hk' => (occ _).mp (z k' hk')⟩
    · rw [if_neg c] at h1 h2
      obtain ⟨k, e, z⟩ := T.reach (q + 1) x y h1 h2
      exact ⟨k, e, fun k' hk' => (occ _).mp (z k' hk')⟩
  · show (SetTable.eraseAt t.place i).size + (SetTable.insertAt t.dummies (SetTable.below t.dummies j) j).size = t.place.size + t.dummies.size
    have e1 : (SetTable.eraseAt t.place i).size + 1 = t.place.size := by
      have z := List.length_eraseIdx_of_lt il
      rw [← erase_list, Array.length_toList, Array.length_toList] at z
      rw [Array.length_toList] at il
      omega
    have e2 : (SetTable.insertAt t.dummies (SetTable.below t.dummies j) j).size = t.dummies.size + 1 := by
      obtain ⟨c1, _, _⟩ := below_cut T.rid j
      rw [← Array.length_toList, SetTable.toList_insertAt, len_ins _ (by rw [Array.length_toList]; exact c1), Array.length_toList]
    omega
theorem TabD.empty {m f mv : Nat} {l p : Bool} (h : Msk m) : TabD { mask := m, place := #[], dummies := #[], finger := f, led := l, moves := mv, plain := p } [] :=
  ⟨List.Pairwise.nil, List.Pairwise.nil, fun j m => (by cases m), rfl, h, fun j o => (by rcases o with o | o <;> cases o), fun i x j e => (by simp at e)⟩
theorem TabD.same (T : TabD t hs) {t2 : SetTable} (e1 : t2.mask = t.mask) (e2 : t2.place = t.place) (e3 : t2.dummies = t.dummies) : TabD t2 hs := by
  obtain ⟨a, b, c, d, e, f, l⟩ := t
  obtain ⟨a2, b2, c2, d2, e4, f2, l2⟩ := t2
  cases e1
  cases e2
  cases e3
  exact ⟨T.ris, T.rid, T.dis, T.sz, T.mok, T.bd, T.reach⟩
end
end Own

set_option Elab.async false
set_option linter.all false
set_option maxRecDepth 100000
set_option maxHeartbeats 4000000
namespace Own
open PySem PySem.Spec PyProof.Rows L2
/-- the tuple at b holds these ints and texts -/
abbrev Tk (P : Program) (w : World) (h : Heap) (k : List Key) (b : Addr) : Prop := IsTupleKey (mixKind P w) h k b
abbrev hsT (P : Program) (w : World) (k : List Key) : Int := tupleKeyHash (mixKind P w) k
/-- what a set of them holds -/
abbrev SD3 : Type := Array (Int × Value) × Nat × SetTable
section
variable {P : Program} {w : World} {A : Around} {E : Value → Shared → Prop} {s : Shared} {h h' : Heap} {a b c : Addr} {k k' : List Key} {D D' : SD3} {L L' : List (List Key × Addr)}
/-- the set at a: what its rows are, what they stand for -/
def ent (P : Program) (w : World) (p : List Key × Addr) : Int × Value := (hsT P w p.1, Value.ref p.2)
structure PSet (P : Program) (w : World) (h : Heap) (a : Addr) (L : List (List Key × Addr)) (D : SD3) : Prop where
  own : ∃ o, h.get? a = some o ∧ o.ExactSet ∧ o.data = .set D.1 D.2.1 D.2.2
  rows : D.1.toList = L.map (ent P w)
  good : TabD D.2.2 (L.map fun p => hsT P w p.1)
  dist : (L.map (·.1)).Nodup
  here : ∀ p ∈ L, Tk P w h p.1 p.2
  vis : w.params.followText "set-order" = true ∨ D.2.2.led = true
  spare : D.2.2.fill * 5 < D.2.2.mask * 3
theorem PSet.places (S : PSet P w h a L D) : D.2.2.place.toList.length = L.length := by
  have e := S.good.sz
  rw [List.length_map] at e
  exact e
theorem PSet.fill_ge (S : PSet P w h a L D) : L.length ≤ D.2.2.fill := by
  have e := S.places
  rw [Array.length_toList] at e
  unfold SetTable.fill
  omega
theorem PSet.few (S : PSet P w h a L D) : L.length ≤ 306 := by
  have e := S.fill_ge
  have sp := S.spare
  have m := S.good.mok.le
  omega
theorem PSet.row (S : PSet P w h a L D) {i : Nat} {p : List Key × Addr} (e : L[i]? = some p) : D.1[i]? = some (ent P w p) := by
  rw [← Array.getElem?_toList, S.rows, List.getElem?_map, e]
  rfl
theorem Tk.but {o : Obj} {es : Array (Int × Value)} {ep : Nat} {t : SetTable} (m : Tk P w h k b) (ho : h.get? a = some o) (od : o.data = .set es ep t) (sb : Heap.SameBut a h h') : Tk P w h' k b := by
  obtain ⟨u, its, n, hu, uc, ud, im⟩ := m
  refine ⟨u, its, n, (sb.2 b fun z => ?_).trans hu, uc, ud, im⟩
  rw [z, ho] at hu
  rw [← Option.some.inj hu, od] at ud
  cases ud
theorem Tk.keep (m : Tk P w h k b) (kp : ∀ c o, h.get? c = some o → h'.get? c = some o) : Tk P w h' k b := by
  obtain ⟨u, its, n, hu, r⟩ := m
  exact ⟨u, its, n, kp _ _ hu, r⟩
theorem PSet.keep (S : PSet P w h a L D) (ka : ∀ o, h.get? a = some o → h'.get? a = some o) (kt : ∀ p ∈ L, Tk P w h' p.1 p.2) : PSet P w h' a L D := by
  obtain ⟨o, ho, r⟩ := S.own
  exact { S with own := ⟨o, ka o ho, r⟩, here := kt }
/-- what a set has got of these rows: the first i of ks, over what it had -/
structure Has (L0 ks : List (List Key × Addr)) (i : Nat) (L : List (List Key × Addr)) : Prop where
  sub : ∀ p ∈ L, p ∈ L0 ∨ p ∈ ks.take i
  old : ∀ p ∈ L0, p.1 ∈ L.map (·.1)
  all : ∀ p ∈ ks.take i, p.1 ∈ L.map (·.1)
theorem Has.zero {L0 ks : List (List Key × Addr)} : Has L0 ks 0 L0 := ⟨fun p m => .inl m, fun p m => List.mem_map.mpr ⟨p, m, rfl⟩, fun p m => (by simp at m)⟩
theorem Has.next {L0 ks L L2 : List (List Key × Addr)} {i : Nat} {p : List Key × Addr} (g : Has L0 ks i L) (e : ks[i]? = some p) (c1 : p.1 ∈ L.map (·.1) → L2 = L) (c2 : p.1 ∉ L.map (·.1) → L2.Perm (p :: L)) : Has L0 ks (i + 1) L2 := by
  have et : ks.take (i + 1) = ks.take i ++ [p] := by rw [List.take_add_one, e]; rfl
  have up : ∀ x, x ∈ L.map (·.1) ∨ x = p.1 → x ∈ L2.map (·.1) := fun x h => by
    by_cases m : p.1 ∈ L.map (·.1)
    · rw [c1 m]
      rcases h with h | rfl
      · exact h
      · exact m
    · refine ((c2 m).map (·.1)).mem_iff.mpr ?_
      rw [List.map_cons]
      rcases h with h | rfl
      · exact List.mem_cons_of_mem _ h
      · exact List.mem_cons_self
  refine ⟨fun q mq => ?_, fun q mq => up _ (.inl (g.old q mq)), fun q mq => ?_⟩
  · rw [et]
    have old : q ∈ L → q ∈ L0 ∨ q ∈ ks.take i ++ [p] := fun h => (g.sub q h).imp id fun z => List.mem_append_left _ z
    by_cases m : p.1 ∈ L.map (·.1)
    · rw [c1 m] at mq
      exact old mq
    · rcases List.mem_cons.mp ((c2 m).mem_iff.mp mq) with rfl | h
      · exact .inr (List.mem_append_right _ (by simp))
      · exact old h
  · rw [et] at mq
    rcases List.mem_append.mp mq with h | h
    · exact up _ (.inl (g.all q h))
    · exact up _ (.inr (by rw [List.mem_singleton.mp h]))
/-- a set that grows from these rows stays small -/
def Cap (L0 ks : List (List Key × Addr)) : Prop := ∀ l : List (List Key), l.Nodup → (∀ x ∈ l, x ∈ L0.map (·.1) ∨ x ∈ ks.map (·.1)) → l.length ≤ 126
theorem Has.few {L0 ks L : List (List Key × Addr)} {i : Nat} (g : Has L0 ks i L) (nd : (L.map (·.1)).Nodup) (cap : Cap L0 ks) : L.length + 1 ≤ 127 := by
  have z := cap _ nd fun x mx => by
    obtain ⟨p, mp, rfl⟩ := List.mem_map.mp mx
    rcases g.sub p mp with m | m
    · exact .inl (List.mem_map.mpr ⟨p, m, rfl⟩)
    · exact .inr (List.mem_map.mpr ⟨p, List.mem_of_mem_take m, rfl⟩)
  rw [List.length_map] at z
  omega
def Cap305 (L0 ks : List (List Key × Addr)) : Prop := ∀ l : List (List Key), l.Nodup → (∀ x ∈ l, x ∈ L0.map (·.1) ∨ x ∈ ks.map (·.1)) → l.length ≤ 305
end
end Own

set_option Elab.async false
set_option linter.all false
set_option maxRecDepth 100000
set_option maxHeartbeats 4000000

set_option Elab.async false
set_option linter.all false
set_option maxRecDepth 100000
set_option maxHeartbeats 4000000
namespace Own
open PySem PySem.Spec PyProof.Rows L2
abbrev PI := Int × Str
/-- a pair and where it lies -/
abbrev PR := PI × Addr
def kp (m : PI) : List Key := [.inl m.1, .inr m.2]
def rowP (m : PR) : List Key × Addr := (kp m.1, m.2)
/-- the order of pairs -/
def LeP (a b : PI) : Prop := a.1 < b.1 ∨ (a.1 = b.1 ∧ a.2.cps.toList ≤ b.2.cps.toList)
theorem LeP.trans {a b c : PI} (h : LeP a b) (g : LeP b c) : LeP a c := by
  rcases h with h | ⟨h, h2⟩ <;> rcases g with g | ⟨g, g2⟩
  · exact .inl (by omega)
  · exact .inl (by omega)
  · exact .inl (by omega)
  · exact .inr ⟨h.trans g, List.le_trans h2 g2⟩
end Own

set_option Elab.async false
set_option linter.all false
set_option maxRecDepth 100000
set_option maxHeartbeats 4000000
namespace Own
open PySem PySem.Spec PyProof.Rows L2
section
variable {P : Program} {w : World} {A : Around} {E : Value → Shared → Prop} {s : Shared} {h h' : Heap} {a b c : Addr} {D : SD3} {ms : List PR}
/-- few different ones -/
def Few (ps : List PI) : Prop := ∀ l : List PI, l.Nodup → (∀ x ∈ l, x ∈ ps) → l.length ≤ 305
theorem Few.of {ps : List PI} (h : ps.length ≤ 305) : Few ps := fun l nd sub => Nat.le_trans (by
  have z := List.Nodup.length_le_of_subset nd (l₂ := ps) sub
  exact z) h
theorem Few.cap {ms : List PR} (f : Few (ms.map (·.1))) : Cap305 [] (ms.map rowP) := fun l nd sub => by
  have key : ∀ l : List (List Key), (∀ x ∈ l, x ∈ (ms.map rowP).map (·.1)) → ∃ l2 : List PI, l = l2.map kp ∧ ∀ x ∈ l2, x ∈ ms.map (·.1) := by
    intro l
    induction l with
    | nil => exact fun _ => ⟨[], rfl, by simp⟩
    | cons x l ih =>
      intro h
      obtain ⟨l2, rfl, h2⟩ := ih fun y my => h y (List.mem_cons_of_mem _ my)
      obtain ⟨p, mp, rfl⟩ := List.mem_map.mp (h x (by simp))
      obtain ⟨m, mm, rfl⟩ := List.mem_map.mp mp
      exact ⟨m.1 :: l2, rfl, fun y my => (List.mem_cons.mp my).elim (fun e => e ▸ List.mem_map.mpr ⟨m, mm, rfl⟩) (h2 y)⟩
  obtain ⟨l2, rfl, h2⟩ := key l fun x mx => (sub x mx).resolve_left (by simp)
  rw [List.length_map]
  exact f l2 (List.Pairwise.of_map kp (fun a b ne e => ne (congrArg kp e)) nd) h2
end
end Own

set_option Elab.async false
set_option linter.all false
set_option maxRecDepth 100000
set_option maxHeartbeats 4000000

set_option Elab.async false
set_option linter.all false
set_option maxRecDepth 100000
set_option maxHeartbeats 4000000

set_option Elab.async false
set_option linter.all false
set_option maxRecDepth 100000
set_option maxHeartbeats 4000000

set_option Elab.async false
set_option linter.all false
set_option maxRecDepth 100000
set_option maxHeartbeats 4000000

set_option Elab.async false
set_option linter.all false
set_option maxRecDepth 100000
set_option maxHeartbeats 4000000

set_option Elab.async false
set_option linter.all false
set_option maxRecDepth 100000
set_option maxHeartbeats 4000000
namespace Own
open PySem PySem.Spec PyProof.Rows L2
/-- a promise that knows the handled exception -/
abbrev SpX : Type := Addr → Value → Option Addr → Sp
end Own

set_option Elab.async false
set_option linter.all false
set_option maxRecDepth 100000
set_option maxHeartbeats 4000000

set_option Elab.async false
set_option linter.all false
set_option maxRecDepth 100000
set_option maxHeartbeats 4000000
namespace Own
open PySem PySem.Spec PyProof.Rows L2
section
variable {P : Program} {w : World} {A : Around} {E : Value → Shared → Prop} {s : Shared} {h h' : Heap} {a b c : Addr} {k k' : List Key} {D D' : SD3} {L L' : List (List Key × Addr)}
theorem map_erase {α β : Type} (f : α → β) (l : List α) (i : Nat) : (l.eraseIdx i).map f = (l.map f).eraseIdx i := by
  rw [List.eraseIdx_eq_take_drop_succ, List.eraseIdx_eq_take_drop_succ, List.map_append, List.map_take, List.map_drop]
theorem nodup_erase {α β : Type} {f : α → β} {l : List α} {i : Nat} {p : α} (nd : (l.map f).Nodup) (e : l[i]? = some p) : ∀ y, y ∈ (l.eraseIdx i).map f ↔ y ∈ l.map f ∧ y ≠ f p := by
  intro y
  have e2 : (l.map f)[i]? = some (f p) := by rw [List.getElem?_map, e]; rfl
  rw [map_erase]
  constructor
  · intro m
    refine ⟨List.mem_of_mem_eraseIdx m, fun z => ?_⟩
    rw [z, List.eraseIdx_eq_take_drop_succ, List.mem_append] at m
    have pw := List.pairwise_iff_getElem.mp nd
    have il := (List.getElem?_eq_some_iff.mp e2).1
    rcases m with m | m
    · obtain ⟨j, ej⟩ := List.mem_iff_getElem?.mp m
      rw [List.getElem?_take] at ej
      split at ej
      · next c =>
        obtain ⟨jl, ej⟩ := List.getElem?_eq_some_iff.mp ej
        obtain ⟨il, ei⟩ := List.getElem?_eq_some_iff.mp e2
        exact pw j i jl il c (by rw [ej, ei])
      · cases ej
    · obtain ⟨j, ej⟩ := List.mem_iff_getElem?.mp m
      rw [List.getElem?_drop] at ej
      obtain ⟨jl, ej⟩ := List.getElem?_eq_some_iff.mp ej
      obtain ⟨il, ei⟩ := List.getElem?_eq_some_iff.mp e2
      exact pw i (i + 1 + j) il jl (by omega) (by rw [ej, ei])
  · exact fun m => mem_eraseIdx_of e2 m.1 m.2
end
end Own

set_option Elab.async false
set_option linter.all false
set_option maxRecDepth 100000
set_option maxHeartbeats 4000000
namespace Own
open PySem PySem.Spec PyProof.Rows L2
/-- the rows of a set -/
abbrev Rws : Type := List (List Key × Addr)
abbrev ks (L : Rws) : List (List Key) := L.map (·.1)
/-- what a set made of two has -/
structure Made (φ : Prop → Prop → Prop) (L1 L2 L : Rws) : Prop where
  sub : ∀ p ∈ L, p ∈ L1 ∨ p ∈ L2
  key : ∀ k, k ∈ ks L ↔ φ (k ∈ ks L1) (k ∈ ks L2)
section
variable {P : Program} {w : World} {A : Around} {E : Value → Shared → Prop} {s : Shared} {h h' : Heap} {a b c r o : Addr} {k k' : List Key} {D D' D1 D2 : SD3} {L L' L1 L2 Lw : Rws} {n : Nat}
theorem Made.len {φ : Prop → Prop → Prop} (m : Made φ L1 L2 L) (nd : (ks L).Nodup) : L.length ≤ L1.length + L2.length := by
  have z := List.Nodup.length_le_of_subset nd (l₂ := ks L1 ++ ks L2) fun k mk => by
    obtain ⟨p, mp, rfl⟩ := List.mem_map.mp mk
    exact List.mem_append.mpr ((m.sub p mp).imp (fun z => List.mem_map.mpr ⟨p, z, rfl⟩) fun z => List.mem_map.mpr ⟨p, z, rfl⟩)
  simpa using z
theorem PSet.but (S : PSet P w h a L D) (Sr : PSet P w h r L1 D1) (ne : a ≠ r) (sb : Heap.SameBut r h h') : PSet P w h' a L D := by
  obtain ⟨o, ho, _, od⟩ := Sr.own
  exact S.keep (fun u e => (sb.2 a ne).trans e) fun p mp => (S.here p mp).but ho od sb
theorem PSet.lt (S : PSet P w h a L D) : a < h.objs.size := by
  obtain ⟨o, ho, _⟩ := S.own
  exact Heap.lt_size ho
end
end Own

set_option Elab.async false
set_option linter.all false
set_option maxRecDepth 100000
set_option maxHeartbeats 4000000
namespace Own
open PySem PySem.Spec PyProof.Rows L2
section
variable {P : Program} {w : World} {A : Around} {E : Value → Shared → Prop} {s : Shared} {h h' : Heap} {a b c r o : Addr} {k k' : List Key} {D D' D1 D2 : SD3} {L L' L1 L2 L4 Lw Ld : Rws} {n : Nat} {p : List Key × Addr}
/-- one may have come in -/
structure Grow (L : Rws) (p : List Key × Addr) (L4 : Rws) : Prop where
  sub : ∀ x ∈ L4, x ∈ L ∨ x = p
  key : ∀ k, k ∈ ks L4 ↔ k ∈ ks L ∨ k = p.1
theorem Grow.of (c1 : p.1 ∈ ks L → L4 = L) (c2 : p.1 ∉ ks L → L4.Perm (p :: L)) : Grow L p L4 := by
  by_cases c : p.1 ∈ ks L
  · rw [c1 c]
    exact ⟨fun x m => .inl m, fun k => ⟨.inl, fun z => z.elim id fun e => e ▸ c⟩⟩
  · refine ⟨fun x m => ?_, fun k => ?_⟩
    · rcases List.mem_cons.mp ((c2 c).mem_iff.mp m) with e | e
      · exact .inr e
      · exact .inl e
    · have z := ((c2 c).map (·.1)).mem_iff (a := k)
      rw [List.map_cons, List.mem_cons] at z
      exact z.trans or_comm
/-- one is out -/
structure Cut1 (L : Rws) (p : List Key × Addr) (L4 : Rws) : Prop where
  sub : ∀ x ∈ L4, x ∈ L
  key : ∀ k, k ∈ ks L4 ↔ k ∈ ks L ∧ k ≠ p.1
theorem Cut1.of {i : Nat} {q : List Key × Addr} (nd : (ks L).Nodup) (e : L[i]? = some q) (eq : q.1 = p.1) : Cut1 L p (L.eraseIdx i) :=
  ⟨fun x m => List.mem_of_mem_eraseIdx m, fun k => by rw [show k ∈ ks (L.eraseIdx i) ↔ _ from nodup_erase nd e k, eq]⟩
theorem Cut1.none (c : p.1 ∉ ks L) : Cut1 L p L := ⟨fun x m => m, fun k => ⟨fun z => ⟨z, fun e => c (e ▸ z)⟩, fun z => z.1⟩⟩
end
end Own

set_option Elab.async false
set_option linter.all false
set_option maxRecDepth 100000
set_option maxHeartbeats 4000000

set_option Elab.async false
set_option linter.all false
set_option maxRecDepth 100000
set_option maxHeartbeats 4000000

set_option Elab.async false
set_option linter.all false
set_option maxRecDepth 100000
set_option maxHeartbeats 4000000

set_option Elab.async false
set_option linter.all false
set_option maxRecDepth 100000
set_option maxHeartbeats 4000000

set_option Elab.async false
set_option linter.all false
set_option maxRecDepth 100000
set_option maxHeartbeats 4000000
namespace Own
open PySem PySem.Spec PyProof.Rows L2
def tyD : PyData → String
  | .none => "NoneType"
  | .bool _ => "bool"
  | .int _ => "int"
  | .str _ => "str"
  | .list _ => "list"
  | .tuple _ => "tuple"
  | .dict _ => "dict"
/-- isinstance(x, T) of data of the six kinds -/
structure KitD (K : PySem.W.Frag) (c : Value) (f : PyData → Bool) : Prop where
  non : PySem.W.kitOne K (.type "NoneType") c = some (f .none)
  bl : ∀ b, PySem.W.kitOne K (.type "bool") c = some (f (.bool b))
  int : ∀ i, PySem.W.kitOne K (.type "int") c = some (f (.int i))
  str : ∀ x, PySem.W.kitOne K (.type "str") c = some (f (.str x))
  lst : ∀ x, PySem.W.kitOne K (.type "list") c = some (f (.list x))
  tup : ∀ x, PySem.W.kitOne K (.type "tuple") c = some (f (.tuple x))
theorem KitD.of {K : PySem.W.Frag} {H : Hp} {c : Value} {f : PyData → Bool} (k : KitD K c f) {v : V} {d : PyData} (h : Dp K H v d) : PySem.W.kitOne K (.type (tyD d)) c = some (f d) := by
  cases h with
  | non => exact k.non
  | bl b => exact k.bl b
  | int i => exact k.int i
  | str x => exact k.str x
  | lst _ _ => exact k.lst _
  | tup _ _ => exact k.tup _
end Own

set_option Elab.async false
set_option linter.all false
set_option maxRecDepth 100000
set_option maxHeartbeats 4000000
namespace Own
open PySem PySem.Spec PyProof.Rows L2
def mulS (z : Str) (n : Nat) : Str := ⟨(List.replicate n z.cps).foldl (· ++ ·) #[]⟩
end Own

set_option Elab.async false
set_option linter.all false
set_option maxRecDepth 100000
set_option maxHeartbeats 4000000
namespace Own
open PySem PySem.Spec PyProof.Rows L2
inductive Wth where
  | word (w : Str) | of (i : Str)
inductive Stm where
  | look (w i : Str) | bind (i : Str) (v : Wth) (rows : List Stm) | call (i : Str) | keep (s f : Str) (c : List Str) | take (s : Str) (c : List Str) | shift (s u : Str) (c : List Str)
  | run (s : Str) | drop (s : Str) | apart (rows : List Stm) | when (f : Str) (r1 r2 : List Stm) | held (s : Str) (r1 r2 : List Stm) | fail | guard (r1 r2 : List Stm)
inductive Prt where
  | name (i w : Str) | flag (i w : Str) | slot (i a : Str) | func (i a : Str) (rows : List Stm)
def encW : Wth → PyData
  | .word w => .tuple [.str "word", .str w]
  | .of i => .tuple [.str "of", .str i]
def encC (c : List Str) : PyData := .tuple (c.map .str)
mutual
def encS : Stm → PyData
  | .look w i => .tuple [.str "look", .str w, .str i]
  | .bind i v rows => .tuple [.str "bind", .str i, encW v, .tuple (encR rows)]
  | .call i => .tuple [.str "call", .str i]
  | .keep s f c => .tuple [.str "keep", .str s, .str f, encC c]
  | .take s c => .tuple [.str "take", .str s, encC c]
  | .shift s u c => .tuple [.str "shift", .str s, .str u, encC c]
  | .run s => .tuple [.str "run", .str s]
  | .drop s => .tuple [.str "drop", .str s]
  | .apart rows => .tuple [.str "apart", .tuple (encR rows)]
  | .when f r1 r2 => .tuple [.str "when", .str f, .tuple (encR r1), .tuple (encR r2)]
  | .held s r1 r2 => .tuple [.str "held", .str s, .tuple (encR r1), .tuple (encR r2)]
  | .fail => .tuple [.str "fail"]
  | .guard r1 r2 => .tuple [.str "guard", .tuple (encR r1), .tuple (encR r2)]
def encR : List Stm → List PyData
  | [] => []
  | s :: rows => encS s :: encR rows
end
def encPt : Prt → PyData
  | .name i w => .tuple [.str "name", .str i, .str w]
  | .flag i w => .tuple [.str "flag", .str i, .str w]
  | .slot i a => .tuple [.str "slot", .str i, .str a]
  | .func i a rows => .tuple [.str "func", .str i, .str a, .tuple (encR rows)]
namespace Stm
def first : Stm → Str
  | look _ _ => "look"
  | bind _ _ _ => "bind"
  | call _ => "call"
  | keep _ _ _ => "keep"
  | take _ _ => "take"
  | shift _ _ _ => "shift"
  | run _ => "run"
  | drop _ => "drop"
  | apart _ => "apart"
  | when _ _ _ => "when"
  | held _ _ _ => "held"
  | fail => "fail"
  | guard _ _ => "guard"
def blocks : Stm → List (List Stm)
  | bind _ _ r => [r]
  | apart r => [r]
  | when _ r1 r2 => [r1, r2]
  | held _ r1 r2 => [r1, r2]
  | guard r1 r2 => [r1, r2]
  | _ => []
/-- how many items, the head among them -/
def size : Stm → Nat
  | look _ _ => 3
  | bind _ _ _ => 4
  | call _ => 2
  | keep _ _ _ => 4
  | take _ _ => 3
  | shift _ _ _ => 4
  | run _ => 2
  | drop _ => 2
  | apart _ => 2
  | when _ _ _ => 4
  | held _ _ _ => 4
  | fail => 1
  | guard _ _ => 3
def withC (c : List Str) : List Str := if c = [] then [] else "with" :: c
def wthW : Wth → List Str
  | .word w => ["=", w]
  | .of i => ["=", "of", i]
/-- the words of its first line -/
def words : Stm → List Str
  | look w i => ["look", w, i]
  | bind i v _ => "bind" :: i :: wthW v
  | call i => ["call", i]
  | keep s f c => "keep" :: s :: f :: withC c
  | take s c => "take" :: s :: withC c
  | shift s u c => "shift" :: s :: u :: withC c
  | run s => ["run", s]
  | drop s => ["drop", s]
  | apart _ => ["apart"]
  | when f _ _ => ["when", f]
  | held s _ _ => ["held", s]
  | fail => ["fail"]
  | guard _ _ => ["guard"]
end Stm
def CapW (c : List Str) : Prop := (∀ i ∈ c, isIdent i = true) ∧ c.length ≤ 1000
def WthW : Wth → Prop
  | .word w => isWord w = true
  | .of i => isIdent i = true
/-- its own words are well formed -/
def ownW : Stm → Prop
  | .look w i => isWord w = true ∧ isIdent i = true
  | .bind i v _ => isIdent i = true ∧ WthW v
  | .call i => isIdent i = true
  | .keep s f c => isIdent s = true ∧ isIdent f = true ∧ CapW c
  | .take s c => isIdent s = true ∧ CapW c
  | .shift s u c => isIdent s = true ∧ isIdent u = true ∧ CapW c
  | .run s => isIdent s = true
  | .drop s => isIdent s = true
  | .apart _ => True
  | .when f _ _ => isIdent f = true
  | .held s _ _ => isIdent s = true
  | .fail => True
  | .guard _ _ => True
/-- well formed, at most n deep -/
def StW : Nat → Stm → Prop
  | 0, _ => False
  | n + 1, s => ownW s ∧ ∀ b ∈ s.blocks, b.length ≤ 1000 ∧ ∀ r ∈ b, StW n r
def PtW : Prt → Prop
  | .name i w => isIdent i = true ∧ isWord w = true
  | .flag i w => isIdent i = true ∧ (w = "on" ∨ w = "off")
  | .slot i a => isIdent i = true ∧ (a = "open" ∨ a = "own")
  | .func i a rows => isIdent i = true ∧ (a = "open" ∨ a = "own") ∧ rows.length ≤ 1000 ∧ ∀ r ∈ rows, StW 9 r
/-- what begins at a line: a statement or a part -/
inductive Nd where
  | st (s : Stm) | pt (t : Prt)
def encNd : Nd → PyData
  | .st s => encS s
  | .pt t => encPt t
structure Ln where
  txt : Str
  node : Option Nd
  path : List Nat
def ndD : Option Nd → PyData
  | some n => encNd n
  | none => .none
def Ln.nd (l : Ln) : PyData := ndD l.node
def ind (p : List Nat) : Str := mulS "  " (p.length / 2)
def hdL (p : List Nat) (s : Stm) : Ln := ⟨ind p ++ Txt.join " " s.words, some (.st s), p⟩
def endL (p : List Nat) : Ln := ⟨ind p ++ "end", none, p⟩
def divL (p : List Nat) (d : Str) : Ln := ⟨ind p ++ d, none, p⟩
mutual
def linesS (p : List Nat) : Stm → List Ln
  | .bind i v r => hdL p (.bind i v r) :: (linesR (p ++ [3]) 0 r ++ [endL p])
  | .apart r => hdL p (.apart r) :: (linesR (p ++ [1]) 0 r ++ [endL p])
  | .when f r1 r2 => hdL p (.when f r1 r2) :: (linesR (p ++ [2]) 0 r1 ++ ((if r2.isEmpty then [] else divL p "else" :: linesR (p ++ [3]) 0 r2) ++ [endL p]))
  | .held f r1 r2 => hdL p (.held f r1 r2) :: (linesR (p ++ [2]) 0 r1 ++ ((if r2.isEmpty then [] else divL p "else" :: linesR (p ++ [3]) 0 r2) ++ [endL p]))
  | .guard r1 r2 => hdL p (.guard r1 r2) :: (linesR (p ++ [1]) 0 r1 ++ ((if r2.isEmpty then [] else divL p "after" :: linesR (p ++ [2]) 0 r2) ++ [endL p]))
  | .look w i => [hdL p (.look w i)]
  | .call i => [hdL p (.call i)]
  | .keep s f c => [hdL p (.keep s f c)]
  | .take s c => [hdL p (.take s c)]
  | .shift s u c => [hdL p (.shift s u c)]
  | .run s => [hdL p (.run s)]
  | .drop s => [hdL p (.drop s)]
  | .fail => [hdL p .fail]
def linesR (p : List Nat) : Nat → List Stm → List Ln
  | _, [] => []
  | k, s :: rows => linesS (p ++ [k]) s ++ linesR p (k + 1) rows
end
def partL (k : Nat) : Prt → List Ln
  | .name i w => [⟨Str.empty ++ "name" ++ " " ++ i ++ " = " ++ w, some (.pt (.name i w)), [k]⟩]
  | .flag i w => [⟨Str.empty ++ "flag" ++ " " ++ i ++ " = " ++ w, some (.pt (.flag i w)), [k]⟩]
  | .slot i a => [⟨Str.empty ++ a ++ " " ++ "slot" ++ " " ++ i, some (.pt (.slot i a)), [k]⟩]
  | .func i a rows => ⟨Str.empty ++ a ++ " " ++ "func" ++ " " ++ i, some (.pt (.func i a rows)), [k]⟩ :: (linesR [k, 3] 0 rows ++ [⟨"end", none, [k]⟩])
/-- a line as data: its text, the node that begins there, its path -/
def encL (l : Ln) : PyData := .tuple [.str l.txt, l.nd, .tuple (l.path.map fun k : Nat => PyData.int (k : Int))]
theorem pl_strs : ∀ c : List Str, PlAll (c.map PyData.str) = true
  | [] => rfl
  | _ :: c => by
    simp only [List.map_cons, PlAll, Pl, pl_strs c, Bool.and_true]
end Own

set_option Elab.async false
set_option linter.all false
set_option maxRecDepth 100000
set_option maxHeartbeats 4000000

set_option Elab.async false
set_option linter.all false
set_option maxRecDepth 100000
set_option maxHeartbeats 4000000
namespace Own
open PySem PySem.Spec PyProof.Rows L2
def obsW (chk : PySem.W.Frag → Bool) (fn : List He.DefD) (tf : List He.Defn) (pr : List PrD) (ts : List He.Tab) (g : Addr → Option Obj) (as : List Addr) : He.AlT := (obsZ chk fn tf pr g as, ts.map fun t => He.dicW (He.frT g as) (t.1 (He.frT g as)))
def valD2 (fn : List He.DefD) (pr : List PrD) (ts : List He.Tab) (w : World) : He.AlT := (valZ fn pr, ts.map fun t => some (He.keysIn w.params t.2))
def DictsW (ts : List He.Tab) (w : World) (K : PySem.W.Frag) : Prop := ∀ t ∈ ts, He.dicW K (t.1 K) = some (He.keysIn w.params t.2)
def hookW (chk : PySem.W.Frag → Bool) (fn : List He.DefD) (tf : List He.Defn) (pr : List PrD) (ts : List He.Tab) : PySem.W.Hook where
  α := He.AlT
  obs := fun s => obsW chk fn tf pr ts s.heap.get? (List.range s.heap.objs.size)
  val := fun w => valD2 fn pr ts w
  says := fun w h => ∃ K : PySem.W.Frag, K.In h ∧ obsN chk fn K = He.valD fn ∧ TabsY tf K h ∧ PropsZ pr K ∧ DictsW ts w K
  of := fun s w e => by
    obtain ⟨a, b, c⟩ := saysZ (congrArg (fun z : He.AlT => z.1) e)
    exact ⟨_, He.frT_in, a, b, c, fun t ht => List.map_inj_left.mp (congrArg (fun z : He.AlT => z.2) e) t ht⟩
  keeps := fun _ _ _ ⟨K, hK, c, t, p, d⟩ k => ⟨K, PySem.W.Frag.In.keeps hK k, c, fun p hp => ⟨(t p hp).1, (t p hp).2.1, k _ _ (t p hp).2.2⟩, p, d⟩
def obW (chk : PySem.W.Frag → Bool) (fn : List He.DefD) (tf : List He.Defn) (pr : List PrD) (ts : List He.Tab) (s : PySem.W.SharedT) : He.AlT := obsW chk fn tf pr ts (HandSHeadRun.getT s) (List.range s.n)
theorem obsZ_join {c1 c2 : PySem.W.Frag → Bool} {f1 f2 : List He.DefD} {tf : List He.Defn} {pr : List PrD} {g : Addr → Option Obj} {as : List Addr} (a : obsZ c1 f1 tf pr g as = valZ f1 pr) (b : obsZ c2 f2 [] [] g as = valZ f2 []) : obsZ (fun K => c1 K && c2 K) (f1 ++ f2) tf pr g as = valZ (f1 ++ f2) pr := by
  have a1 : (obsY c1 f1 tf g as).1 = true ∧ (pr.all fun d => d.ok (He.frT g as)) = true := He.ba (congrArg (fun z : He.AlD => z.1) a)
  have a2 : (obsY c1 f1 tf g as).2 ++ (pr.map fun d => fnWA (He.frT g as) (d.at_ (He.frT g as))) = f1.map He.DefD.val ++ pr.map PrD.val := congrArg (fun z : He.AlD => z.2) a
  have l : (obsY c1 f1 tf g as).2.length = (f1.map He.DefD.val).length := by
    show (f1.map _).length = _
    rw [List.length_map, List.length_map]
  obtain ⟨a3, a4⟩ := List.append_inj a2 l
  have b1 : (obsY c2 f2 [] g as).1 = true := (He.ba (congrArg (fun z : He.AlD => z.1) b)).1
  have b2 : (obsY c2 f2 [] g as).2 ++ [] = f2.map He.DefD.val ++ [] := congrArg (fun z : He.AlD => z.2) b
  rw [List.append_nil, List.append_nil] at b2
  obtain ⟨a5, a6⟩ := He.ba a1.1
  obtain ⟨b5, _⟩ := He.ba b1
  have j := obsN_join (Prod.ext a5 a3 : obsN c1 f1 (He.frT g as) = He.valD f1) (Prod.ext b5 b2 : obsN c2 f2 (He.frT g as) = He.valD f2)
  refine Prod.ext ?_ ?_
  · show ((obsN (fun K => c1 K && c2 K) (f1 ++ f2) (He.frT g as)).1 && He.tabsB g tf (He.frT g as) && pr.all fun d => d.ok (He.frT g as)) = true
    rw [j, a6, a1.2]
    rfl
  · show (obsN (fun K => c1 K && c2 K) (f1 ++ f2) (He.frT g as)).2 ++ (pr.map fun d => fnWA (He.frT g as) (d.at_ (He.frT g as))) = _
    rw [j, a4]
    rfl
end Own

set_option Elab.async false
set_option linter.all false
set_option maxRecDepth 100000
set_option maxHeartbeats 4000000
namespace Own
open PySem PySem.Spec PyProof.Rows L2
/-- at a: a tuple of these texts -/
def tupAt (K : PySem.W.Frag) (a : Addr) (l : List Str) : Bool := match K.lookup a with
  | none => false
  | some o => match o.cls with
    | .type c => (match o.data with
      | .seq its _ => (decide (c = "tuple") && decide (its.size ≤ sizeLine)) && He.relAll (l.map V.str) its.toList
      | _ => false)
    | _ => false
/-- the dict at d gives each key its tuple -/
def tupsD (K : PySem.W.Frag) (d : Addr) (kvs : List (Str × List Str)) : Bool := kvs.all fun q => match PySem.W.nsIn K d q.1 with
  | some (some (.ref a)) => tupAt K a q.2
  | _ => false
end Own

set_option Elab.async false
set_option linter.all false
set_option maxRecDepth 100000
set_option maxHeartbeats 4000000

set_option Elab.async false
set_option linter.all false
set_option maxRecDepth 100000
set_option maxHeartbeats 4000000

set_option Elab.async false
set_option linter.all false
set_option maxRecDepth 100000
set_option maxHeartbeats 4000000
namespace Own
open PySem PySem.W PySem.Calls PySem.Spec PyProof.Rows L2
/-- what one look at the state behind the top sees -/
def RunPart {β : Type} (r : PySem.W.OpenRow) (M : Nat) (f : World → PySem.W.SharedT → β) (v : World → β) (w : World) : Prop :=
  ∀ os : OsState, (HandSHeadRun.endF (HandSHeadRun.stepQ (HandSHeadRun.denQ HandSHeadRun.tabQ) r.prog w) M r.prog w os).map (f w) = some (v w)
noncomputable def lookT (r : PySem.W.OpenRow) (q : Program) (loose : List Str) (w : World) (s : PySem.W.SharedT) :=
  (HandSHeadRun.looksF r.prog (boot_heap w.params) s.abs, HandSHeadRun.seenQ q loose (importedModules r.prog.main.body) (fun s => PySem.W.xlAt q [] s && PySem.W.recOk r.toRowW.records s) s.abs)
theorem part_world {β : Type} {r : PySem.W.OpenRow} {M : Nat} {f : World → PySem.W.SharedT → β} {v : World → β} {w : World} (row : String) (h1 : RunPart r M f v (w.withFollow row true)) (h2 : RunPart r M f v (w.withFollow row false)) : RunPart r M f v w := by
  have h : ∀ b : Bool, RunPart r M f v (w.withFollow row b) := fun b => match b with
    | true => h1
    | false => h2
  have z := h (w.params.followText row)
  rwa [World.withFollow_self] at z
theorem part_join {r : PySem.W.OpenRow} {c1 c2 : PySem.W.Frag → Bool} {f1 f2 : List He.DefD} {tf : List He.Defn} {pr : List PrD} {ts : List He.Tab} {M : Nat} {w : World} (h1 : RunPart r M (fun _ => obW c1 f1 tf pr ts) (fun w => valD2 f1 pr ts w) w) (h2 : RunPart r M (fun _ => obW c2 f2 [] [] []) (fun w => valD2 f2 [] [] w) w) :
    RunPart r M (fun _ => obW (fun K => c1 K && c2 K) (f1 ++ f2) tf pr ts) (fun w => valD2 (f1 ++ f2) pr ts w) w := by
  intro os
  have a := h1 os
  have b := h2 os
  revert a b
  generalize HandSHeadRun.endF _ _ _ _ _ = x
  intro a b
  cases x with
  | none => cases a
  | some s =>
    have a2 : obW c1 f1 tf pr ts s = valD2 f1 pr ts w := Option.some.inj a
    have b2 : obW c2 f2 [] [] [] s = valD2 f2 [] [] w := Option.some.inj b
    exact congrArg some (Prod.ext (obsZ_join (congrArg (fun z : He.AlT => z.1) a2) (congrArg (fun z : He.AlT => z.1) b2)) (show (ts.map fun t => He.dicW (He.frT (HandSHeadRun.getT s) (List.range s.n)) (t.1 (He.frT (HandSHeadRun.getT s) (List.range s.n)))) = _ from congrArg (fun z : He.AlT => z.2) a2))
theorem run_parts {r : PySem.W.OpenRow} {q : Program} {c : PySem.W.Frag → Bool} {fn : List He.DefD} {tf : List He.Defn} {pr : List PrD} {ts : List He.Tab} {M : Nat} {loose : List Str} {w : World} (h1 : RunPart r M (lookT r q loose) (fun _ => (true, openGood q loose)) w) (h2 : RunPart r M (fun _ => obW c fn tf pr ts) (fun w => valD2 fn pr ts w) w) :
    HandSHeadRun.RunEq r q (hookW c fn tf pr ts) (obW c fn tf pr ts) M loose w := by
  intro os
  have a := h1 os
  have b := h2 os
  revert a b
  generalize HandSHeadRun.endF _ _ _ _ _ = x
  intro a b
  cases x with
  | none => cases a
  | some s =>
    have a1 := Option.some.inj a
    exact congrArg some (Prod.ext (congrArg (fun z => z.1) a1) (Prod.ext (congrArg (fun z => z.2) a1) (Option.some.inj b)))
end Own

set_option Elab.async false
set_option linter.all false
set_option maxRecDepth 100000
set_option maxHeartbeats 4000000

set_option Elab.async false
set_option linter.all false
set_option maxRecDepth 100000
set_option maxHeartbeats 4000000

set_option Elab.async false
set_option linter.all false
set_option maxRecDepth 100000
set_option maxHeartbeats 4000000
namespace Own
open PySem PySem.Spec PyProof.Rows L2
/-- the iterator's parts -/
structure MixAt (z TI TO i1 i2 a b : Addr) (i : Nat) (h : Heap) : Prop where
  zip : IsZip h z TI TO .none
  its : IsTupOf2 h TI (.ref i1) (.ref i2)
  out : ∃ x y, IsTupOf2 h TO x y
  one : h.IsListIter i1 a i
  two : h.IsTupleIter i2 b i
theorem MixAt.there {z TI TO i1 i2 a b : Addr} {i : Nat} {h : Heap} (M : MixAt z TI TO i1 i2 a b i h) : ∀ c ∈ [z, TI, TO, i1, i2], ∃ o, h.get? c = some o ∧ ∀ v, o.data ≠ .cell v := by
  intro c hc
  obtain ⟨x, y, e3⟩ := M.out
  obtain ⟨o4, e4, _, d4⟩ := M.one
  obtain ⟨o5, e5, _, d5⟩ := M.two
  simp only [List.mem_cons, List.not_mem_nil, or_false] at hc
  rcases hc with rfl | rfl | rfl | rfl | rfl
  · exact ⟨_, M.zip, fun v w => nomatch w⟩
  · exact ⟨_, M.its, fun v w => nomatch w⟩
  · exact ⟨_, e3, fun v w => nomatch w⟩
  · exact ⟨o4, e4, fun v w => by rw [d4] at w; cases w⟩
  · exact ⟨o5, e5, fun v w => by rw [d5] at w; cases w⟩
theorem MixAt.later {z TI TO i1 i2 a b : Addr} {i : Nat} {h h' : Heap} (M : MixAt z TI TO i1 i2 a b i h) (k : ∀ c ∈ [z, TI, TO, i1, i2], ∀ o, h.get? c = some o → h'.get? c = some o) : MixAt z TI TO i1 i2 a b i h' := by
  obtain ⟨x, y, e3⟩ := M.out
  exact ⟨k z (by simp) _ M.zip, k TI (by simp) _ M.its, ⟨x, y, k TO (by simp) _ e3⟩, M.one.at fun o q => k i1 (by simp) o q, M.two.at fun o q => k i2 (by simp) o q⟩
end Own

set_option Elab.async false
set_option linter.all false
set_option maxRecDepth 100000
set_option maxHeartbeats 4000000
namespace Own
open PySem PySem.Spec PyProof.Rows L2
def topS (i : Nat) : Stmt := PySem.Challenge.pw_bindspan_k14_whole_parse_noise.main.body.getD i (.Pass ⟨0, 0, 0, 0⟩)
abbrev s_is_word : Stmt := topS 11
abbrev s_is_ident : Stmt := topS 12
abbrev s_roles_of : Stmt := topS 19
abbrev s_is_statement : Stmt := topS 20
abbrev s_fit : Stmt := topS 21
abbrev s_is_headed : Stmt := topS 22
abbrev s_fits : Stmt := topS 23
abbrev s_is_worth : Stmt := topS 24
abbrev s_parse : Stmt := topS 26
abbrev s_read_head : Stmt := topS 29
abbrev s_line_roles : Stmt := topS 30
abbrev s_read_part : Stmt := topS 31
abbrev s_read_statement : Stmt := topS 32
abbrev s_read_worth : Stmt := topS 33
abbrev s_read_captured : Stmt := topS 34
abbrev s_l_tape : Stmt := topS 36
abbrev s_l_draw : Stmt := topS 37
abbrev s_l_kept : Stmt := topS 38
abbrev s_l_signs : Stmt := topS 39
abbrev s_l_spelled : Stmt := topS 40
abbrev s_l_ident : Stmt := topS 41
abbrev s_l_word : Stmt := topS 42
abbrev s_l_heads : Stmt := topS 43
abbrev s_l_chosen : Stmt := topS 44
abbrev s_l_item : Stmt := topS 45
abbrev s_l_rows : Stmt := topS 46
abbrev s_l_parts : Stmt := topS 47
abbrev s_l_blocks : Stmt := topS 48
abbrev s_l_head : Stmt := topS 49
abbrev s_l_statement_lines : Stmt := topS 50
abbrev s_l_lines : Stmt := topS 51
abbrev s_l_noisy_rows : Stmt := topS 52
abbrev s_l_noisy_parts : Stmt := topS 53
abbrev s_l_spaced : Stmt := topS 54
abbrev s_l_noise : Stmt := topS 55
abbrev s_l_noisy : Stmt := topS 56
abbrev s_law : Stmt := topS 57
abbrev s_Begun_init : Stmt := inClass (topS 27) 0
abbrev s_Begun_divide : Stmt := inClass (topS 27) 1
abbrev s_Begun_whole : Stmt := inClass (topS 27) 2
abbrev s_Reader_init : Stmt := inClass (topS 28) 0
abbrev s_Reader_take_line : Stmt := inClass (topS 28) 1
abbrev s_Reader_begin : Stmt := inClass (topS 28) 2
abbrev s_Reader_end : Stmt := inClass (topS 28) 3
abbrev s_Reader_put : Stmt := inClass (topS 28) 4
abbrev s_BadLine : Stmt := inClass (topS 3) 0
abbrev s_TooDeep : Stmt := inClass (topS 4) 0
abbrev s_Unclosed : Stmt := inClass (topS 5) 0
def V_PARTS : List (Str × List Str) := [("name", (["ident", "word"] : List Str)), ("flag", (["ident", "switch"] : List Str)), ("slot", (["ident", "reach"] : List Str)), ("func", (["ident", "reach", "rows"] : List Str))]
def V_STATEMENTS : List (Str × List Str) := [("look", (["word", "name"] : List Str)), ("bind", (["bound", "worth", "rows"] : List Str)), ("call", (["func"] : List Str)), ("keep", (["slot", "func", "captured"] : List Str)), ("take", (["slot", "captured"] : List Str)), ("shift", (["slot", "slot", "captured"] : List Str)), ("run", (["slot"] : List Str)), ("drop", (["slot"] : List Str)), ("apart", (["rows"] : List Str)), ("when", (["flag", "rows", "rows"] : List Str)), ("held", (["slot", "rows", "rows"] : List Str)), ("fail", ([] : List Str)), ("guard", (["rows", "rows"] : List Str))]
def V_CHOICES : List (Str × List Str) := [("switch", (["on", "off"] : List Str)), ("reach", (["open", "own"] : List Str))]
def V_DIVIDERS : List (Str × Str) := [("when", ("else" : Str)), ("held", ("else" : Str)), ("guard", ("after" : Str))]
structure Txt (K : PySem.W.Frag) (mg : Str → Option Value) (w : World) where
  c_BadLine : ClT K mg "BadLine" "BadLine.__init__" s_BadLine ["self", "line"] ["line"]
  c_TooDeep : ClT K mg "TooDeep" "TooDeep.__init__" s_TooDeep ["self", "line"] ["line"]
  c_Unclosed : ClT K mg "Unclosed" "Unclosed.__init__" s_Unclosed ["self", "line"] ["line"]
  c_BindspanError : Cl0 K mg "BindspanError"
  c_BadText : Cl0 K mg "BadText"
  e_Begun : CnT K mg "Begun"
  i_Begun_init : MtT K e_Begun.C "__init__" "Begun.__init__" s_Begun_init ["self", "line", "head"]
  i_Begun_divide : MtT K e_Begun.C "divide" "Begun.divide" s_Begun_divide ["self", "word"]
  i_Begun_whole : MtT K e_Begun.C "whole" "Begun.whole" s_Begun_whole ["self"]
  e_Reader : CnT K mg "Reader"
  i_Reader_init : MtT K e_Reader.C "__init__" "Reader.__init__" s_Reader_init ["self"]
  i_Reader_take_line : MtT K e_Reader.C "take_line" "Reader.take_line" s_Reader_take_line ["self", "number", "words"]
  i_Reader_begin : MtT K e_Reader.C "_begin" "Reader._begin" s_Reader_begin ["self", "number", "words"]
  i_Reader_end : MtT K e_Reader.C "_end" "Reader._end" s_Reader_end ["self", "number"]
  i_Reader_put : MtT K e_Reader.C "_put" "Reader._put" s_Reader_put ["self", "node"]
  n_Reader_parts : NoAttr K e_Reader.C "parts"
  n_Reader_lines : NoAttr K e_Reader.C "lines"
  n_Reader_begun : NoAttr K e_Reader.C "begun"
  n_Begun_line : NoAttr K e_Begun.C "line"
  n_Begun_head : NoAttr K e_Begun.C "head"
  n_Begun_groups : NoAttr K e_Begun.C "groups"
  d_is_word : DfT K mg "is_word" s_is_word ["value"]
  d_is_ident : DfT K mg "is_ident" s_is_ident ["value"]
  d_roles_of : DfT K mg "roles_of" s_roles_of ["first"]
  d_is_statement : DfT K mg "is_statement" s_is_statement ["value", "blocks"]
  d_fit : DfT K mg "fit" s_fit ["roles", "values", "blocks"]
  d_is_headed : DfT K mg "_is_headed" s_is_headed ["value"]
  d_fits : DfT K mg "_fits" s_fits ["role", "value", "blocks"]
  d_is_worth : DfT K mg "_is_worth" s_is_worth ["value"]
  d_parse : DfT K mg "parse" s_parse ["text"]
  d_read_head : DfT K mg "_read_head" s_read_head ["words"]
  d_line_roles : DfT K mg "_line_roles" s_line_roles ["first"]
  d_read_part : DfT K mg "_read_part" s_read_part ["words"]
  d_read_statement : DfT K mg "_read_statement" s_read_statement ["words"]
  d_read_worth : DfT K mg "_read_worth" s_read_worth ["words"]
  d_read_captured : DfT K mg "_read_captured" s_read_captured ["words"]
  d_l_tape : DfT K mg "_law_tape" s_l_tape ["_law_script", "_law_k"]
  d_l_draw : DfT K mg "_law_draw" s_l_draw ["_law_tape_here", "_law_many"]
  d_l_kept : DfT K mg "_law_kept" s_l_kept []
  d_l_signs : DfT K mg "_law_signs" s_l_signs []
  d_l_spelled : DfT K mg "_law_spelled" s_l_spelled ["_law_tape_here", "_law_used"]
  d_l_ident : DfT K mg "_law_ident" s_l_ident ["_law_tape_here", "_law_used"]
  d_l_word : DfT K mg "_law_word" s_l_word ["_law_tape_here"]
  d_l_heads : DfT K mg "_law_heads" s_l_heads ["_law_tape_here", "_law_most"]
  d_l_chosen : DfT K mg "_law_chosen" s_l_chosen ["_law_tape_here", "_law_heads_here", "_law_kinds"]
  d_l_item : DfT K mg "_law_item" s_l_item ["_law_tape_here", "_law_heads_here", "_law_shape", "_law_level"]
  d_l_rows : DfT K mg "_law_rows" s_l_rows ["_law_tape_here", "_law_heads_here", "_law_level"]
  d_l_parts : DfT K mg "_law_parts" s_l_parts ["_law_script", "_law_most"]
  d_l_blocks : DfT K mg "_law_blocks" s_l_blocks ["_law_statement"]
  d_l_head : DfT K mg "_law_head" s_l_head ["_law_statement"]
  d_l_statement_lines : DfT K mg "_law_statement_lines" s_l_statement_lines ["_law_statement", "_law_pad"]
  d_l_lines : DfT K mg "_law_lines" s_l_lines ["_law_parts_here"]
  d_l_noisy_rows : DfT K mg "_law_noisy_rows" s_l_noisy_rows ["_law_tape_here", "_law_rows_here"]
  d_l_noisy_parts : DfT K mg "_law_noisy_parts" s_l_noisy_parts ["_law_tape_here", "_law_parts_here"]
  d_l_spaced : DfT K mg "_law_spaced" s_l_spaced ["_law_tape_here", "_law_text"]
  d_l_noise : DfT K mg "_law_noise" s_l_noise ["_law_tape_here"]
  d_l_noisy : DfT K mg "_law_noisy" s_l_noisy ["_law_tape_here", "_law_parts_here"]
  d_law : DfT K mg "law" s_law ["_law_script"]
  z_isinstance : mg "isinstance" = none
  z_len : mg "len" = none
  z_int : mg "int" = none
  z_range : mg "range" = none
  z_str : mg "str" = none
  z_list : mg "list" = none
  z_tuple : mg "tuple" = none
  z_zip : mg "zip" = none
  z_all : mg "all" = none
  z_enumerate : mg "enumerate" = none
  z_reversed : mg "reversed" = none
  z_bool : mg "bool" = none
  t_LETTERS : Tok
  m_LETTERS : mg "LETTERS" = some (.str lettersS t_LETTERS)
  t_DIGITS : Tok
  m_DIGITS : mg "DIGITS" = some (.str digitsS t_DIGITS)
  t_LONGEST_WORD : Tok
  m_LONGEST_WORD : mg "LONGEST_WORD" = some (.int 12 t_LONGEST_WORD)
  t_MOST_BLOCKS : Tok
  m_MOST_BLOCKS : mg "MOST_BLOCKS" = some (.int 8 t_MOST_BLOCKS)
  k_KEPT_WORDS : Addr
  m_KEPT_WORDS : mg "KEPT_WORDS" = some (.ref k_KEPT_WORDS)
  s_KEPT_WORDS : ∀ H, SqT K H k_KEPT_WORDS (keptW.map V.str)
  q_str_str : PySem.W.kitOne K (.type "str") (.type "str") = some true
  q_tup_tup : PySem.W.kitOne K (.type "tuple") (.type "tuple") = some true
  q_tup_str : PySem.W.kitOne K (.type "tuple") (.type "str") = some false
  k_PARTS : Addr
  m_PARTS : mg "PARTS" = some (.ref k_PARTS)
  c_PARTS : CDict K w k_PARTS V_PARTS (TupS K)
  k_STATEMENTS : Addr
  m_STATEMENTS : mg "STATEMENTS" = some (.ref k_STATEMENTS)
  c_STATEMENTS : CDict K w k_STATEMENTS V_STATEMENTS (TupS K)
  k_CHOICES : Addr
  m_CHOICES : mg "CHOICES" = some (.ref k_CHOICES)
  c_CHOICES : CDict K w k_CHOICES V_CHOICES (TupS K)
  k_DIVIDERS : Addr
  m_DIVIDERS : mg "DIVIDERS" = some (.ref k_DIVIDERS)
  c_DIVIDERS : CDict K w k_DIVIDERS V_DIVIDERS StrS
end Own

set_option Elab.async false
set_option linter.all false
set_option maxRecDepth 100000
set_option maxHeartbeats 4000000
namespace Own
open PySem PySem.Spec PyProof.Rows L2
section
variable {P : Program} {w : World} {K : PySem.W.Frag} {mg : Str → Option Value} {base : Heap}
inductive FitV (st : PyData → Prop) : Str → PyData → Prop
  | rows {ds : List PyData} (h : ∀ x ∈ ds, st x) (few : ds.length ≤ 100000) : FitV st "rows" (.tuple ds)
  | capt {c : List Str} (h : ∀ i ∈ c, isIdent i = true) (few : c.length ≤ 100000) : FitV st "captured" (.tuple (c.map .str))
  | wword {x : Str} (h : isWord x = true) : FitV st "worth" (.tuple [.str "word", .str x])
  | wof {x : Str} (h : isIdent x = true) : FitV st "worth" (.tuple [.str "of", .str x])
  | word {x : Str} (h : isWord x = true) : FitV st "word" (.str x)
  | switch {x : Str} (h : x = "on" ∨ x = "off") : FitV st "switch" (.str x)
  | reach {x : Str} (h : x = "open" ∨ x = "own") : FitV st "reach" (.str x)
  | ident {r x : Str} (hr : r ∈ (["ident", "name", "flag", "bound", "slot", "func"] : List Str)) (h : isIdent x = true) : FitV st r (.str x)
inductive FitL (st : PyData → Prop) : List Str → List PyData → Prop
  | nil : FitL st [] []
  | cons {r : Str} {d : PyData} {rs : List Str} {ds : List PyData} (h : FitV st r d) (t : FitL st rs ds) : FitL st (r :: rs) (d :: ds)
theorem FitL.len {st : PyData → Prop} : ∀ {rs : List Str} {ds : List PyData}, FitL st rs ds → rs.length = ds.length
  | _, _, .nil => rfl
  | _, _, .cons _ t => by rw [List.length_cons, List.length_cons, FitL.len t]
theorem FitL.at {st : PyData → Prop} : ∀ {rs : List Str} {ds : List PyData} {i : Nat} {r : Str} {d : PyData}, FitL st rs ds → rs[i]? = some r → ds[i]? = some d → FitV st r d
  | _, _, _, _, _, .nil, h, _ => by simp at h
  | _, _, 0, _, _, .cons a _, h1, h2 => by
    cases h1
    cases h2
    exact a
  | _, _, i + 1, _, _, .cons _ t, h1, h2 => FitL.at (i := i) t h1 h2
end
end Own

set_option Elab.async false
set_option linter.all false
set_option maxRecDepth 100000
set_option maxHeartbeats 4000000
namespace Own
open PySem PySem.Spec PyProof.Rows L2
section
variable {P : Program} {w : World} {K : PySem.W.Frag} {mg : Str → Option Value} {base : Heap}
mutual
theorem dp_same {K : PySem.W.Frag} {H H2 : Hp} (s : Same H H2) : ∀ {v : V} {d : PyData}, Dp K H v d → Dp K H2 v d
  | _, _, .non => .non
  | _, _, .bl b => .bl b
  | _, _, .int i => .int i
  | _, _, .str x => .str x
  | _, _, .lst h a => .lst (sq_same s h) (dpA_same s a)
  | _, _, .tup h a => .tup (sqT_same s h) (dpA_same s a)
theorem dpA_same {K : PySem.W.Frag} {H H2 : Hp} (s : Same H H2) : ∀ {vs : List V} {ds : List PyData}, DpAll K H vs ds → DpAll K H2 vs ds
  | _, _, .nil => .nil
  | _, _, .cons h a => .cons (dp_same s h) (dpA_same s a)
end
end
end Own

set_option Elab.async false
set_option linter.all false
set_option maxRecDepth 100000
set_option maxHeartbeats 4000000

set_option Elab.async false
set_option linter.all false
set_option maxRecDepth 100000
set_option maxHeartbeats 4000000

set_option Elab.async false
set_option linter.all false
set_option maxRecDepth 100000
set_option maxHeartbeats 4000000

set_option Elab.async false
set_option linter.all false
set_option maxRecDepth 100000
set_option maxHeartbeats 4000000

set_option Elab.async false
set_option linter.all false
set_option maxRecDepth 100000
set_option maxHeartbeats 4000000
namespace Own
open PySem PySem.Spec PyProof.Rows L2
section
variable {P : Program} {w : World} {K : PySem.W.Frag} {mg : Str → Option Value} {base : Heap}
theorem tu_lst {H : Hp} {a : Addr} {xs : List V} {o : HO} (h : H a = some (.lst xs)) : Tu H (upd H a o) := fun p ys hp => by
  have ne : p ≠ a := by
    rintro rfl
    rcases hp with h2 | ⟨o, h2⟩ <;> (rw [h] at h2; cases h2)
  rcases hp with h2 | ⟨o2, h2⟩
  · exact .inl (by rw [upd_ne ne]; exact h2)
  · exact .inr ⟨o2, by rw [upd_ne ne]; exact h2⟩
/-- the lines so far, in a list of its own -/
structure Acc (K : PySem.W.Frag) (H0 : Hp) (wl : Addr) (ls : List Ln) (H : Hp) : Prop where
  new : H0 wl = none
  same : Same H0 H
  ex : ∃ ys, H wl = some (.lst ys) ∧ DpAll K H ys (ls.map encL)
  pl : PlAll (ls.map encL) = true
  few : ls.length ≤ 100000
theorem Acc.ty {K : PySem.W.Frag} {H0 H : Hp} {wl : Addr} {ls : List Ln} (A : Acc K H0 wl ls H) : tyV K "list" (.ref wl) H := by
  obtain ⟨ys, r, _⟩ := A.ex
  exact .inl ⟨rfl, _, .inl (.inl r)⟩
end
end Own

set_option Elab.async false
set_option linter.all false
set_option maxRecDepth 100000
set_option maxHeartbeats 4000000
namespace Own
open PySem PySem.Spec PyProof.Rows L2
section
variable {P : Program} {w : World} {K : PySem.W.Frag} {mg : Str → Option Value} {base : Heap}
/-- data so far, in a list of its own -/
structure AccD (K : PySem.W.Frag) (H0 : Hp) (wl : Addr) (ds : List PyData) (H : Hp) : Prop where
  new : H0 wl = none
  same : Same H0 H
  ex : ∃ ys, H wl = some (.lst ys) ∧ DpAll K H ys ds
  pl : PlAll ds = true
  few : ds.length ≤ 100000
theorem AccD.ty {K : PySem.W.Frag} {H0 H : Hp} {wl : Addr} {ls : List PyData} (A : AccD K H0 wl ls H) : tyV K "list" (.ref wl) H := by
  obtain ⟨ys, r, _⟩ := A.ex
  exact .inl ⟨rfl, _, .inl (.inl r)⟩
end
end Own

set_option Elab.async false
set_option linter.all false
set_option maxRecDepth 100000
set_option maxHeartbeats 4000000

set_option Elab.async false
set_option linter.all false
set_option maxRecDepth 100000
set_option maxHeartbeats 4000000
namespace Own
open PySem PySem.Spec PyProof.Rows L2
section
variable {P : Program} {w : World} {K : PySem.W.Frag} {mg : Str → Option Value} {base : Heap}
abbrev Decl : Type := List (Str × (Str × Nat))
def lk (D : Decl) (i : Str) : Option (Str × Nat) := (D.find? fun m => decide (m.1 = i)).map (·.2)
def DecR (K : PySem.W.Frag) (H : Hp) (d : Addr) (D : Decl) : Prop := ∃ t : Tbl, H d = some (.dK t) ∧ t.length ≤ D.length ∧ ∀ y : Str, (lk D y = none → valV t (.inr y) = none) ∧ ∀ k n, lk D y = some (k, n) → ∃ a, valV t (.inr y) = some (.ref a) ∧ SqT K H a [.str k, .int (n : Int)]
theorem DecR.same {K : PySem.W.Frag} {H H2 : Hp} {d : Addr} {D : Decl} (h : DecR K H d D) (s : Same H H2) : DecR K H2 d D := by
  obtain ⟨t, a, lt, b⟩ := h
  refine ⟨t, s _ _ a, lt, fun y => ⟨(b y).1, fun k n e => ?_⟩⟩
  obtain ⟨z, e1, e2⟩ := (b y).2 k n e
  exact ⟨z, e1, sqT_same s e2⟩
theorem DecR.get {K : PySem.W.Frag} {H : Hp} {d : Addr} {D : Decl} {y k : Str} {n : Nat} {Q : VK} (h : DecR K H d D) (e : lk D y = some (k, n)) (q : ∀ a, SqT K H a [.str k, .int (n : Int)] → Q (.ref a) H) : ∃ a v, V.ref d = .ref a ∧ DGet H a (.str y) (some v) ∧ Q v H := by
  obtain ⟨t, a, _, b⟩ := h
  obtain ⟨z, e1, e2⟩ := (b y).2 k n e
  exact ⟨d, _, rfl, .inl ⟨t, .inr y, .inl a, rfl, e1.symm⟩, q z e2⟩
/-- what may leave: C(line, ident) -/
def Leaves (C : Addr) (l : Nat) (f i : Str) (H : Hp) (E : XK) : Prop := ∀ H2 dx, Same H H2 → H2 dx = none → E (.ref C) (some dx) (upd H2 dx (.xd [(f, .str i), ("line", .int (l : Int))]))
end
end Own

set_option Elab.async false
set_option linter.all false
set_option maxRecDepth 100000
set_option maxHeartbeats 4000000

set_option Elab.async false
set_option linter.all false
set_option maxRecDepth 100000
set_option maxHeartbeats 4000000
namespace Own
open PySem PySem.Spec PyProof.Rows L2
section
variable {P : Program} {w : World} {K : PySem.W.Frag} {mg : Str → Option Value} {base : Heap}
abbrev Rw : Type := Nat × Nd × Nat
abbrev Sr : Type := Nat × Stm × Nat
def Prt.kind : Prt → Str
  | .name _ _ => "name"
  | .flag _ _ => "flag"
  | .slot _ _ => "slot"
  | .func _ _ _ => "func"
def Prt.ident : Prt → Str
  | .name i _ => i
  | .flag i _ => i
  | .slot i _ => i
  | .func i _ _ => i
theorem DecR.tu {K : PySem.W.Frag} {H H2 : Hp} {d : Addr} {D : Decl} (h : DecR K H d D) (t : Tu H H2) (e : ∀ o, H d = some o → H2 d = some o) : DecR K H2 d D := by
  obtain ⟨tb, a, lt, b⟩ := h
  refine ⟨tb, e _ a, lt, fun y => ⟨(b y).1, fun k n z => ?_⟩⟩
  obtain ⟨q, e1, e2⟩ := (b y).2 k n z
  exact ⟨q, e1, SqT.tu t e2⟩
theorem Leaves.later {C : Addr} {l : Nat} {f i : Str} {H H2 : Hp} {E : XK} (h : Leaves C l f i H E) (s : Same H H2) : Leaves C l f i H2 E := fun H3 dx s3 n => h H3 dx (s.trans s3) n
theorem AccD.tu {K : PySem.W.Frag} {H0 H H2 : Hp} {wl : Addr} {ls : List PyData} (A : AccD K H0 wl ls H) (v : ExT wl H H2) : Tu H H2 := fun p us hp => by
  obtain ⟨zs, rz, _⟩ := A.ex
  have ne : p ≠ wl := by
    rintro rfl
    rcases hp with h | ⟨o, h⟩ <;> (rw [rz] at h; cases h)
  rcases hp with h | ⟨o, h⟩
  · exact .inl (v _ _ ne h)
  · exact .inr ⟨o, v _ _ ne h⟩
end
end Own

set_option Elab.async false
set_option linter.all false
set_option maxRecDepth 100000
set_option maxHeartbeats 4000000

set_option Elab.async false
set_option linter.all false
set_option maxRecDepth 100000
set_option maxHeartbeats 4000000

set_option Elab.async false
set_option linter.all false
set_option maxRecDepth 100000
set_option maxHeartbeats 4000000

set_option Elab.async false
set_option linter.all false
set_option maxRecDepth 100000
set_option maxHeartbeats 4000000

set_option Elab.async false
set_option linter.all false
set_option maxRecDepth 100000
set_option maxHeartbeats 4000000

set_option Elab.async false
set_option linter.all false
set_option maxRecDepth 100000
set_option maxHeartbeats 4000000

set_option Elab.async false
set_option linter.all false
set_option maxRecDepth 100000
set_option maxHeartbeats 4000000
namespace Own
open PySem PySem.Spec PyProof.Rows L2
section
variable {P : Program} {w : World} {K : PySem.W.Frag} {mg : Str → Option Value} {base : Heap}
theorem DpAll.take {K : PySem.W.Frag} {H : Hp} : ∀ {vs : List V} {ds : List PyData} {n : Nat}, DpAll K H vs ds → DpAll K H (vs.take n) (ds.take n)
  | _, _, 0, _ => .nil
  | _, _, _ + 1, .nil => .nil
  | _, _, _ + 1, .cons a b => .cons a (DpAll.take b)
end
end Own

set_option Elab.async false
set_option linter.all false
set_option maxRecDepth 100000
set_option maxHeartbeats 4000000

set_option Elab.async false
set_option linter.all false
set_option maxRecDepth 100000
set_option maxHeartbeats 4000000
namespace Own
open PySem PySem.Spec PyProof.Rows L2
section
variable {P : Program} {w : World} {K : PySem.W.Frag} {mg : Str → Option Value} {base : Heap}
def hds (r : Rw) : Option (Nat × Str) := match r.2.1 with
  | .pt t => some (r.1, t.ident)
  | .st _ => none
/-- the heads with their lines -/
def heads : Nat → Nat → List Prt → List (Nat × Str)
  | _, _, [] => []
  | n, k, t :: ps => (n, t.ident) :: heads (n + (partL k t).length) (k + 1) ps
end
end Own

set_option Elab.async false
set_option linter.all false
set_option maxRecDepth 100000
set_option maxHeartbeats 4000000
namespace Own
open PySem PySem.Spec PyProof.Rows L2
section
variable {P : Program} {w : World} {K : PySem.W.Frag} {mg : Str → Option Value} {base : Heap}
def LayD (m : Nat) (d : PyData) : Prop := PyData.canLay0 d = true ∧ PyData.depth d ≤ m
theorem layTup {m : Nat} : ∀ {ds : List PyData}, (∀ d ∈ ds, LayD m d) → PyData.canLayAll0 ds = true ∧ PyData.depthAll ds ≤ m
  | [], _ => ⟨rfl, by rw [PyData.depthAll]; exact Nat.zero_le _⟩
  | d :: ds, h => by
    obtain ⟨a, b⟩ := h d (.head _)
    obtain ⟨c, e⟩ := layTup (ds := ds) fun y hy => h y (.tail _ hy)
    constructor
    · rw [PyData.canLayAll0, a, c]; rfl
    · simp only [PyData.depthAll]; omega
theorem LayD.tup {m : Nat} {ds : List PyData} (h : ∀ d ∈ ds, LayD m d) : LayD (m + 1) (.tuple ds) := by
  obtain ⟨a, b⟩ := layTup h
  exact ⟨by rw [PyData.canLay0]; exact a, by rw [PyData.depth]; omega⟩
end
end Own

set_option Elab.async false
set_option linter.all false
set_option maxRecDepth 100000
set_option maxHeartbeats 4000000

set_option Elab.async false
set_option linter.all false
set_option maxRecDepth 100000
set_option maxHeartbeats 4000000
namespace Own
open PySem PySem.Spec PyProof.Rows L2
section
variable {P : Program} {w : World} {K : PySem.W.Frag} {mg : Str → Option Value} {base : Heap}
theorem DpAll.drop {K : PySem.W.Frag} {H : Hp} : ∀ {vs : List V} {ds : List PyData} {n : Nat}, DpAll K H vs ds → DpAll K H (vs.drop n) (ds.drop n)
  | _, _, 0, h => h
  | _, _, _ + 1, .nil => .nil
  | _, _, n + 1, .cons _ b => DpAll.drop (n := n) b
end
end Own

set_option Elab.async false
set_option linter.all false
set_option maxRecDepth 100000
set_option maxHeartbeats 4000000

set_option Elab.async false
set_option linter.all false
set_option maxRecDepth 100000
set_option maxHeartbeats 4000000
namespace Own
open PySem PySem.Spec PyProof.Rows L2
section
variable {P : Program} {w : World} {K : PySem.W.Frag} {mg : Str → Option Value} {base : Heap}
/-- a part's words -/
def Prt.words : Prt → List Str
  | .name i x => ["name", i, "=", x]
  | .flag i x => ["flag", i, "=", x]
  | .slot i a => [a, "slot", i]
  | .func i a _ => [a, "func", i]
def Prt.hd : Prt → List PyData
  | .name i x => [.str "name", .str i, .str x]
  | .flag i x => [.str "flag", .str i, .str x]
  | .slot i a => [.str "slot", .str i, .str a]
  | .func i a _ => [.str "func", .str i, .str a]
def Stm.hd : Stm → List PyData
  | .look x i => [.str "look", .str x, .str i]
  | .bind i v _ => [.str "bind", .str i, encW v]
  | .call i => [.str "call", .str i]
  | .keep s f c => [.str "keep", .str s, .str f, encC c]
  | .take s c => [.str "take", .str s, encC c]
  | .shift s u c => [.str "shift", .str s, .str u, encC c]
  | .run s => [.str "run", .str s]
  | .drop s => [.str "drop", .str s]
  | .apart _ => [.str "apart"]
  | .when f _ _ => [.str "when", .str f]
  | .held f _ _ => [.str "held", .str f]
  | .fail => [.str "fail"]
  | .guard _ _ => [.str "guard"]
/-- its roles -/
def rolesF (f : Str) : List Str := ((V_STATEMENTS.find? fun m => decide (m.1 = f)).map (·.2)).getD []
end
end Own

set_option Elab.async false
set_option linter.all false
set_option maxRecDepth 100000
set_option maxHeartbeats 4000000
namespace Own
open PySem PySem.Spec PyProof.Rows L2
section
variable {P : Program} {w : World} {K : PySem.W.Frag} {mg : Str → Option Value} {base : Heap}
inductive Hk where
  | st (s : Stm) | pt (t : Prt)
namespace Hk
def words : Hk → List Str
  | .st s => s.words
  | .pt t => t.words
def hd : Hk → List PyData
  | .st s => s.hd
  | .pt t => t.hd
def first : Hk → Str
  | .st s => s.first
  | .pt t => t.kind
def ok : Hk → Prop
  | .st s => ownW s
  | .pt t => PtW t
/-- its roles, all of them -/
def roles : Hk → List Str
  | .st s => rolesF s.first
  | .pt t => ((V_PARTS.find? fun m => decide (m.1 = t.kind)).map (·.2)).getD []
end Hk
end
end Own

set_option Elab.async false
set_option linter.all false
set_option maxRecDepth 100000
set_option maxHeartbeats 4000000
namespace Own
open PySem PySem.Spec PyProof.Rows L2
section
variable {P : Program} {w : World} {K : PySem.W.Frag} {mg : Str → Option Value} {base : Heap}
structure Bg where
  line : Nat
  h : Hk
  g1 : List PyData
  g2 : Option (List PyData)
structure Mst where
  parts : List PyData
  lines : List Nat
  begun : List Bg
inductive Wk where
  | hd (h : Hk) | stop | dv (d : Str)
namespace Wk
def words : Wk → List Str
  | .hd h => h.words
  | .stop => ["end"]
  | .dv d => [d]
end Wk
def dvK : List Str := V_DIVIDERS.map (·.1)
namespace Bg
def all (b : Bg) : List (List PyData) := match b.g2 with
  | none => if dvK.contains b.h.first then [b.g1, []] else [b.g1]
  | some g => [b.g1, g]
def whole (b : Bg) : PyData := .tuple (b.h.hd ++ b.all.map PyData.tuple)
end Bg
namespace Mst
structure few (st : Mst) (N : Nat) : Prop where
  parts : st.parts.length ≤ N
  lines : st.lines.length ≤ N
  begun : st.begun.length ≤ N
  groups : ∀ b ∈ st.begun, b.g1.length ≤ N ∧ ∀ g, b.g2 = some g → g.length ≤ N
end Mst
def LD (K : PySem.W.Frag) (H : Hp) (a : Addr) (ds : List PyData) : Prop := ∃ xs, H a = some (.lst xs) ∧ DpAll K H xs ds ∧ PlAll ds = true
theorem LD.same {K : PySem.W.Frag} {H H2 : Hp} {a : Addr} {ds : List PyData} (h : LD K H a ds) (s : Same H H2) : LD K H2 a ds := by
  obtain ⟨xs, e, d, p⟩ := h
  exact ⟨xs, s _ _ e, dpA_same s d, p⟩
theorem LD.upd {K : PySem.W.Frag} {H : Hp} {a x : Addr} {ds : List PyData} {ys : List V} {o : HO} (h : LD K H a ds) (hx : H x = some (.lst ys)) (ne : a ≠ x) : LD K (upd H x o) a ds := by
  obtain ⟨xs, e, d, p⟩ := h
  exact ⟨xs, by rw [upd_ne ne]; exact e, DpAll.keep (tu_lst hx) d p, p⟩
structure BgA where
  b : Addr
  h : Addr
  ga : Addr
  g1 : Addr
  g2 : Option Addr
namespace BgA
def own (A : BgA) : List Addr := A.b :: A.ga :: A.g1 :: A.g2.toList
end BgA
def G2R (K : PySem.W.Frag) (H : Hp) : Option Addr → Option (List PyData) → Prop
  | none, none => True
  | some a, some ds => LD K H a ds
  | _, _ => False
structure BgR (K : PySem.W.Frag) (C : Addr) (H : Hp) (A : BgA) (B : Bg) : Prop where
  ob : ∃ db, H A.b = some (.ins C db [("line", .int (B.line : Int)), ("head", .ref A.h), ("groups", .ref A.ga)])
  hd : Dp K H (.ref A.h) (.tuple B.h.hd)
  gl : H A.ga = some (.lst ((A.g1 :: A.g2.toList).map V.ref))
  r1 : LD K H A.g1 B.g1
  r2 : G2R K H A.g2 B.g2
theorem pl_stm_hd (s : Stm) : PlAll s.hd = true := by
  cases s
  case bind i v r => cases v <;> rfl
  case keep s f c => simp only [Stm.hd, encC, PlAll, Pl, pl_strs, Bool.and_true]
  case take s c => simp only [Stm.hd, encC, PlAll, Pl, pl_strs, Bool.and_true]
  case shift s f c => simp only [Stm.hd, encC, PlAll, Pl, pl_strs, Bool.and_true]
  all_goals rfl
theorem pl_hk (h : Hk) : PlAll h.hd = true := by
  cases h with
  | st s => exact pl_stm_hd s
  | pt t => cases t <;> rfl
theorem G2R.same {K : PySem.W.Frag} {H H2 : Hp} {a : Option Addr} {ds : Option (List PyData)} (h : G2R K H a ds) (s : Same H H2) : G2R K H2 a ds := by
  match a, ds, h with
  | none, none, _ => trivial
  | some a, some ds, h => exact LD.same h s
theorem BgR.same {K : PySem.W.Frag} {C : Addr} {H H2 : Hp} {A : BgA} {B : Bg} (h : BgR K C H A B) (s : Same H H2) : BgR K C H2 A B := by
  obtain ⟨db, e⟩ := h.ob
  exact ⟨⟨db, s _ _ e⟩, dp_same s h.hd, s _ _ h.gl, h.r1.same s, h.r2.same s⟩
/-- another list has changed -/
theorem BgR.upd {K : PySem.W.Frag} {C x : Addr} {H : Hp} {A : BgA} {B : Bg} {ys : List V} {o : HO} (h : BgR K C H A B) (hx : H x = some (.lst ys)) (nx : x ∉ A.own) : BgR K C (upd H x o) A B := by
  obtain ⟨db, e⟩ := h.ob
  have n0 : A.b ≠ x := fun e => nx (e ▸ List.mem_cons_self)
  have n1 : A.ga ≠ x := fun e => nx (e ▸ List.mem_cons_of_mem _ List.mem_cons_self)
  have n2 : A.g1 ≠ x := fun e => nx (e ▸ List.mem_cons_of_mem _ (List.mem_cons_of_mem _ List.mem_cons_self))
  refine ⟨⟨db, by rw [upd_ne n0]; exact e⟩, Dp.keep (tu_lst hx) h.hd (by show PlAll _ = true; exact pl_hk _), by rw [upd_ne n1]; exact h.gl, h.r1.upd hx n2, ?_⟩
  have r2 := h.r2
  have n3 : ∀ a, A.g2 = some a → a ≠ x := fun a ea e => nx (by
    unfold BgA.own
    rw [ea, ← e]
    simp)
  revert r2 n3
  cases A.g2 with
  | none => cases B.g2 with
    | none => exact fun _ _ => trivial
    | some ds => exact fun z _ => z.elim
  | some a => cases B.g2 with
    | none => exact fun z _ => z.elim
    | some ds => exact fun z n => LD.upd z hx (n a rfl)
inductive AllR (K : PySem.W.Frag) (C : Addr) (H : Hp) : List BgA → List Bg → Prop where
  | nil : AllR K C H [] []
  | cons {A : BgA} {B : Bg} {As : List BgA} {Bs : List Bg} : BgR K C H A B → AllR K C H As Bs → AllR K C H (A :: As) (B :: Bs)
theorem AllR.same {K : PySem.W.Frag} {C : Addr} {H H2 : Hp} (s : Same H H2) : ∀ {As : List BgA} {Bs : List Bg}, AllR K C H As Bs → AllR K C H2 As Bs
  | _, _, .nil => .nil
  | _, _, .cons a b => .cons (a.same s) (AllR.same s b)
theorem AllR.upd {K : PySem.W.Frag} {C x : Addr} {H : Hp} {ys : List V} {o : HO} (hx : H x = some (.lst ys)) : ∀ {As : List BgA} {Bs : List Bg}, AllR K C H As Bs → x ∉ As.flatMap BgA.own → AllR K C (upd H x o) As Bs
  | _, _, .nil, _ => .nil
  | _, _, .cons a b, n => by
    rw [List.flatMap_cons, List.mem_append, not_or] at n
    exact .cons (a.upd hx n.1) (AllR.upd hx b n.2)
theorem AllR.len {K : PySem.W.Frag} {C : Addr} {H : Hp} : ∀ {As : List BgA} {Bs : List Bg}, AllR K C H As Bs → As.length = Bs.length
  | _, _, .nil => rfl
  | _, _, .cons _ b => by rw [List.length_cons, List.length_cons, AllR.len b]
def ownR (r pa la ba : Addr) (As : List BgA) : List Addr := r :: pa :: la :: ba :: As.flatMap BgA.own
structure Rd (K : PySem.W.Frag) (CR CB r dr pa la ba : Addr) (As : List BgA) (st : Mst) (H : Hp) : Prop where
  ob : H r = some (.ins CR dr [("parts", .ref pa), ("lines", .ref la), ("begun", .ref ba)])
  ps : LD K H pa st.parts
  ls : H la = some (.lst (st.lines.map fun n : Nat => V.int (n : Int)))
  bs : H ba = some (.lst (As.reverse.map fun A => V.ref A.b))
  all : AllR K CB H As st.begun
  nd : (ownR r pa la ba As).Nodup
/-- what else was there is there -/
def Kpt (O O2 : List Addr) (H H2 : Hp) : Prop := ∀ a o, a ∉ O → H a = some o → a ∉ O2 ∧ H2 a = some o
theorem Kpt.trans {O O2 O3 : List Addr} {H H2 H3 : Hp} (a : Kpt O O2 H H2) (b : Kpt O2 O3 H2 H3) : Kpt O O3 H H3 := fun c o n e => b c o (a c o n e).1 (a c o n e).2
theorem Kpt.same {O : List Addr} {H H2 : Hp} (s : Same H H2) : Kpt O O H H2 := fun _ _ n e => ⟨n, s _ _ e⟩
theorem Kpt.upd {O : List Addr} {H : Hp} {x : Addr} {o : HO} (hx : x ∈ O) : Kpt O O H (upd H x o) := fun c _ n e => ⟨n, by rw [upd_ne (fun z => n (by rw [z]; exact hx))]; exact e⟩

end
end Own

set_option Elab.async false
set_option linter.all false
set_option maxRecDepth 100000
set_option maxHeartbeats 4000000

set_option Elab.async false
set_option linter.all false
set_option maxRecDepth 100000
set_option maxHeartbeats 4000000

set_option Elab.async false
set_option linter.all false
set_option maxRecDepth 100000
set_option maxHeartbeats 4000000
namespace Own
open PySem PySem.Spec PyProof.Rows L2
section
variable {P : Program} {w : World} {K : PySem.W.Frag} {mg : Str → Option Value} {base : Heap}
def gsA (A : BgA) : List Addr := A.g1 :: A.g2.toList
def gsL (B : Bg) : List (List PyData) := B.g1 :: B.g2.toList
theorem BgR.gs {K : PySem.W.Frag} {C : Addr} {H : Hp} {A : BgA} {B : Bg} (h : BgR K C H A B) : (gsA A).length = (gsL B).length ∧ (gsL B).length ≤ 2 ∧ ∀ (i : Nat) (a : Addr), (gsA A)[i]? = some a → ∃ ds : List PyData, (gsL B)[i]? = some ds ∧ LD K H a ds := by
  have r1 := h.r1
  have r2 := h.r2
  unfold gsA gsL
  revert r2
  cases A.g2 with
  | none => cases B.g2 with
    | none =>
      refine fun _ => ⟨rfl, by simp, fun i a e => ?_⟩
      match i, e with
      | 0, e => cases e; exact ⟨_, rfl, r1⟩
    | some ds => exact fun z => z.elim
  | some g => cases B.g2 with
    | none => exact fun z => z.elim
    | some ds =>
      refine fun r2 => ⟨rfl, by simp, fun i a e => ?_⟩
      match i, e with
      | 0, e => cases e; exact ⟨_, rfl, r1⟩
      | 1, e => cases e; exact ⟨_, rfl, r2⟩
end
end Own

set_option Elab.async false
set_option linter.all false
set_option maxRecDepth 100000
set_option maxHeartbeats 4000000
namespace Own
open PySem PySem.Spec PyProof.Rows L2
section
variable {P : Program} {w : World} {K : PySem.W.Frag} {mg : Str → Option Value} {base : Heap}
theorem BgR.pl {K : PySem.W.Frag} {C : Addr} {H : Hp} {A : BgA} {B : Bg} (h : BgR K C H A B) : PlAll B.g1 = true ∧ ∀ g, B.g2 = some g → PlAll g = true := by
  obtain ⟨_, _, _, p⟩ := h.r1
  refine ⟨p, fun g e => ?_⟩
  have r2 := h.r2
  rw [e] at r2
  cases ea : A.g2 with
  | none => rw [ea] at r2; exact r2.elim
  | some a =>
    rw [ea] at r2
    obtain ⟨_, _, _, p2⟩ := r2
    exact p2
end
end Own

set_option Elab.async false
set_option linter.all false
set_option maxRecDepth 100000
set_option maxHeartbeats 4000000
namespace Own
open PySem PySem.Spec PyProof.Rows L2
section
variable {P : Program} {w : World} {K : PySem.W.Frag} {mg : Str → Option Value} {base : Heap}
def Wk.ok : Wk → Prop
  | .hd h => h.ok
  | .stop => True
  | .dv d => d = "else" ∨ d = "after"
theorem Rd.same {K : PySem.W.Frag} {CR CB r dr pa la ba : Addr} {As : List BgA} {st : Mst} {H H2 : Hp} (R : Rd K CR CB r dr pa la ba As st H) (s : Same H H2) : Rd K CR CB r dr pa la ba As st H2 := ⟨s _ _ R.ob, R.ps.same s, s _ _ R.ls, s _ _ R.bs, R.all.same s, R.nd⟩
end
end Own

set_option Elab.async false
set_option linter.all false
set_option maxRecDepth 100000
set_option maxHeartbeats 4000000
namespace Own
open PySem PySem.Spec PyProof.Rows L2
section
variable {P : Program} {w : World} {K : PySem.W.Frag} {mg : Str → Option Value} {base : Heap}
def wordsOf (t : Str) : List Str := (Txt.split t " ").filter fun y => y.length != 0
def LineIs (t : Str) : Option Wk → Prop
  | none => wordsOf t = [] ∨ ∃ x r, wordsOf t = x :: r ∧ Txt.startswith x "#" = true
  | some k => wordsOf t = k.words ∧ k.ok ∧ ∃ x r, k.words = x :: r ∧ Txt.startswith x "#" = false
end
end Own

set_option Elab.async false
set_option linter.all false
set_option maxRecDepth 100000
set_option maxHeartbeats 4000000
namespace Own
open PySem PySem.Spec PyProof.Rows L2
section
variable {P : Program} {w : World} {K : PySem.W.Frag} {mg : Str → Option Value} {base : Heap}
/-- a line that reads so -/
def LnIs (l : Ln) (k : Wk) : Prop := (∃ n, l.txt = mulS "  " n ++ Txt.join " " k.words) ∧ k.ok
inductive LnsW : List Ln → List Wk → Prop where
  | nil : LnsW [] []
  | cons {l : Ln} {k : Wk} {ls : List Ln} {ks : List Wk} : LnIs l k → LnsW ls ks → LnsW (l :: ls) (k :: ks)
theorem LnsW.len : ∀ {a : List Ln} {x : List Wk}, LnsW a x → a.length = x.length
  | _, _, .nil => rfl
  | _, _, .cons _ t => by rw [List.length_cons, List.length_cons, LnsW.len t]
end
end Own

set_option Elab.async false
set_option linter.all false
set_option maxRecDepth 100000
set_option maxHeartbeats 4000000
namespace Own
open PySem PySem.Spec PyProof.Rows L2
section
variable {P : Program} {w : World} {K : PySem.W.Frag} {mg : Str → Option Value} {base : Heap}
theorem LnsW.at {ls : List Ln} {ks : List Wk} (h : LnsW ls ks) : ∀ {i : Nat} {l : Ln}, ls[i]? = some l → ∃ k, ks[i]? = some k ∧ LnIs l k := by
  induction h with
  | nil => intro i l e; simp at e
  | cons a b ih =>
    intro i l e
    cases i with
    | zero => cases e; exact ⟨_, rfl, a⟩
    | succ i => exact ih (by simpa using e)

end
end Own

set_option Elab.async false
set_option linter.all false
set_option maxRecDepth 100000
set_option maxHeartbeats 4000000

set_option Elab.async false
set_option linter.all false
set_option maxRecDepth 100000
set_option maxHeartbeats 4000000

set_option Elab.async false
set_option linter.all false
set_option maxRecDepth 100000
set_option maxHeartbeats 4000000

set_option Elab.async false
set_option linter.all false
set_option maxRecDepth 100000
set_option maxHeartbeats 4000000

set_option Elab.async false
set_option linter.all false
set_option maxRecDepth 100000
set_option maxHeartbeats 4000000
namespace Own
open PySem PySem.Spec PyProof.Rows L2
section
variable {P : Program} {w : World} {K : PySem.W.Frag} {mg : Str → Option Value} {base : Heap}
def Bg.key (b : Bg) : Hk × List PyData × Option (List PyData) := (b.h, b.g1, b.g2)
end
end Own

set_option Elab.async false
set_option linter.all false
set_option maxRecDepth 100000
set_option maxHeartbeats 4000000
namespace Own
open PySem PySem.Spec PyProof.Rows L2
section
variable {P : Program} {w : World} {K : PySem.W.Frag} {mg : Str → Option Value} {base : Heap}
/-- the tape and a list of its own -/
structure AccT (K : PySem.W.Frag) (H0 : Hp) (t F : Addr) (ds : List PyData) (k : Nat) (H : Hp) : Prop where
  new : H0 F = none
  ft : F ≠ t
  ext : ExT t H0 H
  ex : ∃ ys, H F = some (.lst ys) ∧ DpAll K H ys ds
  pl : PlAll ds = true
  few : ds.length ≤ 100000
  tp : Tape H t k
section
variable {K : PySem.W.Frag} {H0 H H2 : Hp} {t F : Addr} {ds : List PyData} {k j : Nat}
theorem AccT.ty (A : AccT K H0 t F ds k H) : tyV K "list" (.ref F) H := by
  obtain ⟨ys, r, _⟩ := A.ex
  exact .inl ⟨rfl, _, .inl (.inl r)⟩
theorem AccT.tu (A : AccT K H0 t F ds k H) (v : ExT2 t F H H2) : Tu H H2 := fun p ys h => by
  have n1 : p ≠ t := by
    rintro rfl
    obtain ⟨_, _, _, _, e, _⟩ := A.tp
    rcases h with h | ⟨o, h⟩ <;> (rw [e] at h; cases h)
  have n2 : p ≠ F := by
    rintro rfl
    obtain ⟨ys, r, _⟩ := A.ex
    rcases h with h | ⟨o, h⟩ <;> (rw [r] at h; cases h)
  rcases h with h | ⟨o, h⟩
  · exact .inl (v p _ n1 n2 h)
  · exact .inr ⟨o, v p _ n1 n2 h⟩
end
end
end Own

set_option Elab.async false
set_option linter.all false
set_option maxRecDepth 100000
set_option maxHeartbeats 4000000

set_option Elab.async false
set_option linter.all false
set_option maxRecDepth 100000
set_option maxHeartbeats 4000000
namespace Own
open PySem PySem.Spec PyProof.Rows L2
section
variable {P : Program} {w : World} {K : PySem.W.Frag} {mg : Str → Option Value} {base : Heap}
def wl (l : List Nat) : List (List Nat) := (TL.spl [32] 0 [] l).filter fun p => p.length != 0
end
end Own

set_option Elab.async false
set_option linter.all false
set_option maxRecDepth 100000
set_option maxHeartbeats 4000000

set_option Elab.async false
set_option linter.all false
set_option maxRecDepth 100000
set_option maxHeartbeats 4000000

set_option Elab.async false
set_option linter.all false
set_option maxRecDepth 100000
set_option maxHeartbeats 4000000
namespace Own
open PySem PySem.Spec PyProof.Rows L2
section
variable {P : Program} {w : World} {K : PySem.W.Frag} {mg : Str → Option Value} {base : Heap}
def LnI (z : Str) (k : Option Wk) : Prop := LineIs z k ∧ 10 ∉ TL.tl z ∧ z.length ≤ 16000
inductive LnO : List Str → List (Option Wk) → Prop where
  | nil : LnO [] []
  | cons {z : Str} {k : Option Wk} {zs : List Str} {ks : List (Option Wk)} : LnI z k → LnO zs ks → LnO (z :: zs) (k :: ks)
theorem LnO.len : ∀ {a : List Str} {x : List (Option Wk)}, LnO a x → a.length = x.length
  | _, _, .nil => rfl
  | _, _, .cons _ t => by rw [List.length_cons, List.length_cons, LnO.len t]
theorem LnO.at {zs : List Str} {ks : List (Option Wk)} (h : LnO zs ks) : ∀ {i : Nat} {z : Str} {k : Option Wk}, zs[i]? = some z → ks[i]? = some k → LnI z k := by
  induction h with
  | nil => intro i z k e; simp at e
  | cons a b ih =>
    intro i z k e f
    cases i with
    | zero => cases e; cases f; exact a
    | succ i => exact ih (by simpa using e) (by simpa using f)
end
end Own

set_option Elab.async false
set_option linter.all false
set_option maxRecDepth 100000
set_option maxHeartbeats 4000000

set_option Elab.async false
set_option linter.all false
set_option maxRecDepth 100000
set_option maxHeartbeats 4000000
namespace Own
open PySem PySem.Spec PyProof.Rows L2
def tfA : List He.Defn := []
def prL : List PrD := []
def tsL : List He.Tab := [(fun K => He.ga K "PARTS", V_PARTS.map (·.1)), (fun K => He.ga K "STATEMENTS", V_STATEMENTS.map (·.1)), (fun K => He.ga K "CHOICES", V_CHOICES.map (·.1)), (fun K => He.ga K "DIVIDERS", V_DIVIDERS.map (·.1))]
def fn0 : List He.DefD := mtD "Begun" "__init__" "Begun.__init__" s_Begun_init [] :: mtD "Begun" "divide" "Begun.divide" s_Begun_divide [] :: mtD "Begun" "whole" "Begun.whole" s_Begun_whole [] :: mtD "Reader" "__init__" "Reader.__init__" s_Reader_init [] :: mtD "Reader" "take_line" "Reader.take_line" s_Reader_take_line [] :: mtD "Reader" "_begin" "Reader._begin" s_Reader_begin [] :: mtD "Reader" "_end" "Reader._end" s_Reader_end [] :: mtD "Reader" "_put" "Reader._put" s_Reader_put [] :: mtD "BadLine" "__init__" "BadLine.__init__" s_BadLine [] :: mtD "TooDeep" "__init__" "TooDeep.__init__" s_TooDeep [] :: mtD "Unclosed" "__init__" "Unclosed.__init__" s_Unclosed [] :: dfD "is_word" s_is_word :: []
def chk0 (K : PySem.W.Frag) : Bool := (He.Fa.glo "PARTS").ok K && (tupsD K (He.ga K "PARTS") V_PARTS && ((He.Fa.glo "STATEMENTS").ok K && (tupsD K (He.ga K "STATEMENTS") V_STATEMENTS && ((He.Fa.glo "CHOICES").ok K && (tupsD K (He.ga K "CHOICES") V_CHOICES && ((He.Fa.glo "DIVIDERS").ok K && (He.valsB K (He.ga K "DIVIDERS") (V_DIVIDERS.map fun p => (p.1, .str p.2)) && (exG K && (ciB K ("BadLine", ["line"]) && (ciB K ("TooDeep", ["line"]) && (ciB K ("Unclosed", ["line"]) && (c0B K "BindspanError" && (c0B K "BadText" && (clsB K "Begun" && ((He.Fa.meth "Begun" "__init__").ok K && ((He.Fa.meth "Begun" "divide").ok K && ((He.Fa.meth "Begun" "whole").ok K && (clsB K "Reader" && ((He.Fa.meth "Reader" "__init__").ok K && ((He.Fa.meth "Reader" "take_line").ok K && ((He.Fa.meth "Reader" "_begin").ok K && ((He.Fa.meth "Reader" "_end").ok K && ((He.Fa.meth "Reader" "_put").ok K && ((He.Fa.noat "Reader" "parts").ok K && ((He.Fa.noat "Reader" "lines").ok K && ((He.Fa.noat "Reader" "begun").ok K && ((He.Fa.noat "Begun" "line").ok K)))))))))))))))))))))))))))
def fn1 : List He.DefD := dfD "is_ident" s_is_ident :: dfD "roles_of" s_roles_of :: dfD "is_statement" s_is_statement :: dfD "fit" s_fit :: dfD "_is_headed" s_is_headed :: dfD "_fits" s_fits :: dfD "_is_worth" s_is_worth :: dfD "parse" s_parse :: dfD "_read_head" s_read_head :: dfD "_line_roles" s_line_roles :: dfD "_read_part" s_read_part :: dfD "_read_statement" s_read_statement :: []
def chk1 (K : PySem.W.Frag) : Bool := (He.Fa.noat "Begun" "head").ok K && ((He.Fa.noat "Begun" "groups").ok K && ((He.Fa.glo "is_word").ok K && ((He.Fa.glo "is_ident").ok K && ((He.Fa.glo "roles_of").ok K && ((He.Fa.glo "is_statement").ok K && ((He.Fa.glo "fit").ok K && ((He.Fa.glo "_is_headed").ok K && ((He.Fa.glo "_fits").ok K && ((He.Fa.glo "_is_worth").ok K && ((He.Fa.glo "parse").ok K && ((He.Fa.glo "_read_head").ok K && ((He.Fa.glo "_line_roles").ok K && ((He.Fa.glo "_read_part").ok K && ((He.Fa.glo "_read_statement").ok K && ((He.Fa.glo "_read_worth").ok K && ((He.Fa.glo "_read_captured").ok K && ((He.Fa.glo "_law_tape").ok K && ((He.Fa.glo "_law_draw").ok K && ((He.Fa.glo "_law_kept").ok K)))))))))))))))))))
def fn2 : List He.DefD := dfD "_read_worth" s_read_worth :: dfD "_read_captured" s_read_captured :: dfD "_law_tape" s_l_tape :: dfD "_law_draw" s_l_draw :: dfD "_law_kept" s_l_kept :: dfD "_law_signs" s_l_signs :: dfD "_law_spelled" s_l_spelled :: dfD "_law_ident" s_l_ident :: dfD "_law_word" s_l_word :: dfD "_law_heads" s_l_heads :: dfD "_law_chosen" s_l_chosen :: dfD "_law_item" s_l_item :: []
def chk2 (K : PySem.W.Frag) : Bool := (He.Fa.glo "_law_signs").ok K && ((He.Fa.glo "_law_spelled").ok K && ((He.Fa.glo "_law_ident").ok K && ((He.Fa.glo "_law_word").ok K && ((He.Fa.glo "_law_heads").ok K && ((He.Fa.glo "_law_chosen").ok K && ((He.Fa.glo "_law_item").ok K && ((He.Fa.glo "_law_rows").ok K && ((He.Fa.glo "_law_parts").ok K && ((He.Fa.glo "_law_blocks").ok K && ((He.Fa.glo "_law_head").ok K && ((He.Fa.glo "_law_statement_lines").ok K && ((He.Fa.glo "_law_lines").ok K && ((He.Fa.glo "_law_noisy_rows").ok K && ((He.Fa.glo "_law_noisy_parts").ok K && ((He.Fa.glo "_law_spaced").ok K && ((He.Fa.glo "_law_noise").ok K && ((He.Fa.glo "_law_noisy").ok K && ((He.Fa.glo "law").ok K && ((He.Fa.free "isinstance").ok K)))))))))))))))))))
def fn3 : List He.DefD := dfD "_law_rows" s_l_rows :: dfD "_law_parts" s_l_parts :: dfD "_law_blocks" s_l_blocks :: dfD "_law_head" s_l_head :: dfD "_law_statement_lines" s_l_statement_lines :: dfD "_law_lines" s_l_lines :: dfD "_law_noisy_rows" s_l_noisy_rows :: dfD "_law_noisy_parts" s_l_noisy_parts :: dfD "_law_spaced" s_l_spaced :: dfD "_law_noise" s_l_noise :: dfD "_law_noisy" s_l_noisy :: dfD "law" s_law :: []
def chk3 (K : PySem.W.Frag) : Bool := (He.Fa.free "len").ok K && ((He.Fa.free "int").ok K && ((He.Fa.free "range").ok K && ((He.Fa.free "str").ok K && ((He.Fa.free "list").ok K && ((He.Fa.free "tuple").ok K && ((He.Fa.free "zip").ok K && ((He.Fa.free "all").ok K && ((He.Fa.free "enumerate").ok K && ((He.Fa.free "reversed").ok K && ((He.Fa.free "bool").ok K && ((He.Fa.str "LETTERS" lettersS).ok K && ((He.Fa.str "DIGITS" digitsS).ok K && ((He.Fa.int "LONGEST_WORD" (12)).ok K && ((He.Fa.int "MOST_BLOCKS" (8)).ok K && ((He.Fa.glo "KEPT_WORDS").ok K && (He.tupB K "KEPT_WORDS" (keptW.map He.Dv.str) && (decide (PySem.W.kitOne K (.type "str") (.type "str") = some true) && (decide (PySem.W.kitOne K (.type "tuple") (.type "tuple") = some true) && (decide (PySem.W.kitOne K (.type "tuple") (.type "str") = some false))))))))))))))))))))
def chkA (K : PySem.W.Frag) : Bool := (chk0 K && (chk1 K && (chk2 K && chk3 K)))
def fnA : List He.DefD := fn0 ++ (fn1 ++ (fn2 ++ (fn3)))
def namesL : List Str := ("__name__" : Str) :: ("BindspanError" : Str) :: ("BadText" : Str) :: ("BadLine" : Str) :: ("TooDeep" : Str) :: ("Unclosed" : Str) :: ("LETTERS" : Str) :: ("DIGITS" : Str) :: ("LONGEST_WORD" : Str) :: ("KEPT_WORDS" : Str) :: ("is_word" : Str) :: ("is_ident" : Str) :: ("MOST_BLOCKS" : Str) :: ("PARTS" : Str) :: ("STATEMENTS" : Str) :: ("CHOICES" : Str) :: ("DIVIDERS" : Str) :: ("roles_of" : Str) :: ("is_statement" : Str) :: ("fit" : Str) :: ("_is_headed" : Str) :: ("_fits" : Str) :: ("_is_worth" : Str) :: ("parse" : Str) :: ("Begun" : Str) :: ("Reader" : Str) :: ("_read_head" : Str) :: ("_line_roles" : Str) :: ("_read_part" : Str) :: ("_read_statement" : Str) :: ("_read_worth" : Str) :: ("_read_captured" : Str) :: ("_law_tape" : Str) :: ("_law_draw" : Str) :: ("_law_kept" : Str) :: ("_law_signs" : Str) :: ("_law_spelled" : Str) :: ("_law_ident" : Str) :: ("_law_word" : Str) :: ("_law_heads" : Str) :: ("_law_chosen" : Str) :: ("_law_item" : Str) :: ("_law_rows" : Str) :: ("_law_parts" : Str) :: ("_law_blocks" : Str) :: ("_law_head" : Str) :: ("_law_statement_lines" : Str) :: ("_law_lines" : Str) :: ("_law_noisy_rows" : Str) :: ("_law_noisy_parts" : Str) :: ("_law_spaced" : Str) :: ("_law_noise" : Str) :: ("_law_noisy" : Str) :: []
abbrev R0 : PySem.W.OpenRow := PySem.W.OpenLaw.row PySem.Challenge.rw_bindspan_k14_whole_parse_noise
set_option maxHeartbeats 0 in
theorem runL_true (w : World) : RunPart R0 30000 (lookT R0 (PySem.W.view R0.prog [57]) namesL) (fun _ => (true, PySem.W.openGood (PySem.W.view R0.prog [57]) namesL)) (w.withFollow "special-get-raises" true) := by
  intro os
  kernel_rfl
set_option maxHeartbeats 0 in
theorem runL_false (w : World) : RunPart R0 30000 (lookT R0 (PySem.W.view R0.prog [57]) namesL) (fun _ => (true, PySem.W.openGood (PySem.W.view R0.prog [57]) namesL)) (w.withFollow "special-get-raises" false) := by
  intro os
  kernel_rfl
theorem runL (w : World) : RunPart R0 30000 (lookT R0 (PySem.W.view R0.prog [57]) namesL) (fun _ => (true, PySem.W.openGood (PySem.W.view R0.prog [57]) namesL)) w := part_world "special-get-raises" (runL_true w) (runL_false w)
set_option maxHeartbeats 0 in
theorem run0_true (w : World) : RunPart R0 30000 (fun _ => obW chk0 fn0 tfA prL tsL) (fun w => valD2 fn0 prL tsL w) (w.withFollow "special-get-raises" true) := by
  intro os
  kernel_rfl
set_option maxHeartbeats 0 in
theorem run0_false (w : World) : RunPart R0 30000 (fun _ => obW chk0 fn0 tfA prL tsL) (fun w => valD2 fn0 prL tsL w) (w.withFollow "special-get-raises" false) := by
  intro os
  kernel_rfl
theorem run0 (w : World) : RunPart R0 30000 (fun _ => obW chk0 fn0 tfA prL tsL) (fun w => valD2 fn0 prL tsL w) w := part_world "special-get-raises" (run0_true w) (run0_false w)
set_option maxHeartbeats 0 in
theorem run1_true (w : World) : RunPart R0 30000 (fun _ => obW chk1 fn1 [] [] []) (fun w => valD2 fn1 [] [] w) (w.withFollow "special-get-raises" true) := by
  intro os
  kernel_rfl
set_option maxHeartbeats 0 in
theorem run1_false (w : World) : RunPart R0 30000 (fun _ => obW chk1 fn1 [] [] []) (fun w => valD2 fn1 [] [] w) (w.withFollow "special-get-raises" false) := by
  intro os
  kernel_rfl
theorem run1 (w : World) : RunPart R0 30000 (fun _ => obW chk1 fn1 [] [] []) (fun w => valD2 fn1 [] [] w) w := part_world "special-get-raises" (run1_true w) (run1_false w)
set_option maxHeartbeats 0 in
theorem run2_true (w : World) : RunPart R0 30000 (fun _ => obW chk2 fn2 [] [] []) (fun w => valD2 fn2 [] [] w) (w.withFollow "special-get-raises" true) := by
  intro os
  kernel_rfl
set_option maxHeartbeats 0 in
theorem run2_false (w : World) : RunPart R0 30000 (fun _ => obW chk2 fn2 [] [] []) (fun w => valD2 fn2 [] [] w) (w.withFollow "special-get-raises" false) := by
  intro os
  kernel_rfl
theorem run2 (w : World) : RunPart R0 30000 (fun _ => obW chk2 fn2 [] [] []) (fun w => valD2 fn2 [] [] w) w := part_world "special-get-raises" (run2_true w) (run2_false w)
set_option maxHeartbeats 0 in
theorem run3_true (w : World) : RunPart R0 30000 (fun _ => obW chk3 fn3 [] [] []) (fun w => valD2 fn3 [] [] w) (w.withFollow "special-get-raises" true) := by
  intro os
  kernel_rfl
set_option maxHeartbeats 0 in
theorem run3_false (w : World) : RunPart R0 30000 (fun _ => obW chk3 fn3 [] [] []) (fun w => valD2 fn3 [] [] w) (w.withFollow "special-get-raises" false) := by
  intro os
  kernel_rfl
theorem run3 (w : World) : RunPart R0 30000 (fun _ => obW chk3 fn3 [] [] []) (fun w => valD2 fn3 [] [] w) w := part_world "special-get-raises" (run3_true w) (run3_false w)
theorem run (w : World) : HandSHeadRun.RunEq R0 (PySem.W.view R0.prog [57]) (hookW chkA fnA tfA prL tsL) (obW chkA fnA tfA prL tsL) 30000 namesL w := run_parts (runL w) (part_join (run0 w) (part_join (run1 w) (part_join (run2 w) (run3 w))))
end Own

set_option Elab.async false
set_option linter.all false
set_option maxRecDepth 100000
set_option maxHeartbeats 4000000
open PySem PySem.W PySem.Calls PyProof.Rows
set_option Elab.async false
set_option linter.all false
set_option maxRecDepth 100000
set_option maxHeartbeats 4000000
namespace Own
open PySem PySem.Spec PyProof.Rows L2
/-- xs[i], read for xs[i] += e -/
def rGetL : V → V → Hp → VK → Prop := fun o i H Q => ∃ (p : Addr) (xs : List V) (j : Nat) (v : V), o = .ref p ∧ i = .int (j : Int) ∧ H p = some (.lst xs) ∧ xs[j]? = some v ∧ Q v H
theorem pget_list {X : Cx} : PGet X rGetL := by
  intro pins s σ H o i ov iv Q I ro ri h
  obtain ⟨p, xs, j, v, rfl, rfl, hp, hv, q⟩ := h
  cases ro
  obtain ⟨t, rfl⟩ := ri
  obtain ⟨its, n, r, ho, hz⟩ := I.lst hp
  obtain ⟨w, ew, rw'⟩ := r.get hv
  have hn := line63
  have hl := r.length
  have hj : j < its.length := (List.getElem?_eq_some_iff.mp ew).1
  refine wpAny_getItem_list (items := its.toArray) (x := w) ⟨_, ho, rfl, _, rfl⟩ ?_ ?_ ?_ ?_
  · omega
  · omega
  · simpa using ew
  · exact ⟨v, H, I, rw', q⟩

theorem cx_K {CX : CXT} {P : Program} {w : World} {K : PySem.W.Frag} {mg : Str → Option Value} {base : Heap} {N : List Str} {q : Str} {sc : Scope} {f : Addr} {cd : Value} {A : Around} {outer : List Env} {s : Shared} {H : Hp} {E : XK} : (cxOf CX P w K mg base N q sc f cd A outer s H E).nox.K = K := rfl
/-- a read of a list that stands at p -/
theorem cx_K2 {CX : CXT} {P : Program} {w : World} {K : PySem.W.Frag} {mg : Str → Option Value} {base : Heap} {N : List Str} {q : Str} {sc : Scope} {f : Addr} {cd : Value} {A : Around} {outer : List Env} {s : Shared} {H : Hp} {E : XK} : (cxOf CX P w K mg base N q sc f cd A outer s H E).K = K := rfl
theorem ixL_go {K : PySem.W.Frag} {p : Addr} {xs : List V} {i : Int} {v : V} {H : Hp} {Q : VK} (h : SqL K H p xs) (e : atI xs i = some v) (q : Q v H) : rIxL K (.ref p) (.int i) H Q := ⟨p, xs, i, v, rfl, rfl, h, e, q⟩
theorem ixM_go {K : PySem.W.Frag} {p : Addr} {xs : List V} {i : Int} {v : V} {H : Hp} {Q : VK} (h : H p = some (.lst xs)) (e : atI xs i = some v) (q : Q v H) : rIxL K (.ref p) (.int i) H Q := ⟨p, xs, i, v, rfl, rfl, .inl (.inl h), e, q⟩
theorem setL_go {p : Addr} {xs : List V} {i : Int} {v : V} {j : Nat} {H : Hp} {Q : Hp → Prop} (h : H p = some (.lst xs)) (e : ixN xs.length i = some j) (q : Q (upd H p (.lst (xs.set j v)))) : rSetL (.ref p) (.int i) v H Q := ⟨p, xs, i, j, rfl, rfl, h, e, q⟩
theorem getL_go {p : Addr} {xs : List V} {j : Nat} {v : V} {H : Hp} {Q : VK} (h : H p = some (.lst xs)) (e : xs[j]? = some v) (q : Q v H) : rGetL (.ref p) (.int (j : Int)) H Q := ⟨p, xs, j, v, rfl, rfl, h, e, q⟩
theorem call_intI {X : Cx} : CallR X (.type "int") (fun xs H Q => ∃ i, xs = [V.int i] ∧ Q (.int i) H) := fun pins s σ H vs us Q I r h => call_int1 pins s σ H vs us Q I r (Or.inl h)
theorem call_intB {X : Cx} : CallR X (.type "int") (fun xs H Q => ∃ k, xs = [V.bl k] ∧ Q (.int (if k then 1 else 0)) H) := fun pins s σ H vs us Q I r h => call_int1 pins s σ H vs us Q I r (Or.inr h)
theorem fmod_bd {x m : Int} (h : 0 < m) : 0 ≤ x.fmod m ∧ x.fmod m < m := by
  rw [Int.fmod_eq_emod_of_nonneg x (Int.le_of_lt h)]
  exact ⟨Int.emod_nonneg x (by omega), Int.emod_lt_of_pos x h⟩
end Own

set_option Elab.async false
set_option linter.all false
set_option maxRecDepth 100000
set_option maxHeartbeats 4000000
namespace Own
open PySem PySem.Spec PyProof.Rows L2
section
variable {X : Cx} {C fI : Addr} {e o : Expr} {es : List Expr} {ta : TA} {te : TE} {p pos : Pos}
/-- o.f, o an exception at a with its dict at dd -/
def tExf (K : PySem.W.Frag) (f : Str) (te : TE) : TE := fun σ H Q => te σ H fun x H1 => ∃ (a C dd : Addr) (fs : List (Str × V)) (v : V), x = .ref a ∧ H1 a = some (exo a C (some dd)) ∧ H1 dd = some (exd dd fs) ∧ XfC K C ∧ PySem.W.findIn K (.ref C) f = some none ∧ fs.lookup f = some v ∧ Q v H1
end
end Own

set_option Elab.async false
set_option linter.all false
set_option maxRecDepth 100000
set_option maxHeartbeats 4000000
namespace Own
open PySem PySem.Spec PyProof.Rows L2
theorem exCls_ok {K : PySem.W.Frag} {C : Addr} (q : exCls K C = true) : ∃ nm q N bs bm sn sub ab col dd k0 k1 k2 k3 k5, K.lookup C = some (excClassObj nm q C N bs bm true sn sub ab col dd k0 k1 k2 k3 k5 "ValueError.__new__") ∧ PySem.HandSPX.refsVE bm = true := by
  unfold exCls at q
  split at q
  · rename_i dd cd sl ho
    split at q
    · rename_i C' bm k0 k1 k2 k3 n k5 hm hs
      simp only [Bool.and_eq_true, beq_iff_eq, Bool.not_eq_true'] at q
      obtain ⟨rfl, rfl, hdel, hdc, hr⟩ := q
      obtain ⟨nm, bs, mro, ns, qn, hd, sn, sub, ab, col, del⟩ := cd
      dsimp only at hm hdel hdc
      subst hm hdel hdc
      have hsl : sl = #[k0, k1, k2, k3, some (.builtin "ValueError.__new__"), k5] := by
        obtain ⟨l⟩ := sl
        simp only at hs
        rw [hs]
      subst hsl
      exact ⟨nm, qn, ns, bs, bm, sn, sub, ab, col, dd, k0, k1, k2, k3, k5, ho, hr⟩
    · cases q
  · cases q
theorem exK_of {K : PySem.W.Frag} {C : Addr} (g : exG K = true) (q : exB K C = true) : ExK K C := by
  simp only [exB, exG, Bool.and_eq_true, decide_eq_true_eq] at q g
  obtain ⟨a1, a2, a3, a4, a5, a6, a7, a8, a9, a10⟩ := q
  exact ⟨⟨exCls_ok a1, a2, a3, a4, a5⟩, ⟨a6, a7, a3, a8⟩, ⟨a6, a7, a3, a8, a9, g.1, g.2, a10⟩⟩
theorem exI_of {K : PySem.W.Frag} {C fi : Addr} {fs : List Str} (q : exI K C fi fs = true) : ExI K C fi fs := by
  simp only [exI, Bool.and_eq_true, decide_eq_true_eq, List.all_eq_true] at q
  exact ⟨q.1, q.2.1, q.2.2⟩
/-- what an __init__ promises that stores its one parameter, its two -/
def spE1 (C : Addr) (f : Str) : Sp := fun vs H Q _ => ∃ (a : Addr) (v : V), vs = [.ref a, v] ∧ H a = some (exo a C none) ∧ ∀ dx, H dx = none → dx ≠ a → Q .non (upd (upd H dx (exd dx [(f, v)])) a (exo a C (some dx)))
end Own

set_option Elab.async false
set_option linter.all false
set_option maxRecDepth 100000
set_option maxHeartbeats 4000000

set_option Elab.async false
set_option linter.all false
set_option maxRecDepth 100000
set_option maxHeartbeats 4000000
namespace Own
open PySem PySem.Spec PyProof.Rows L2
theorem call_lenL {X : Cx} : CallR X (.builtin "len") (fun xs H Q => ∃ p ys, xs = [V.ref p] ∧ SqL X.K H p ys ∧ Q (.int ys.length) H) := fun pins s σ H vs us Q I r ⟨p, ys, e, h, q⟩ => call_len_seq pins s σ H vs us Q I r ⟨p, ys, e, .inl h, q⟩
theorem call_lenT {X : Cx} : CallR X (.builtin "len") (fun xs H Q => ∃ p ys, xs = [V.ref p] ∧ SqT X.K H p ys ∧ Q (.int ys.length) H) := fun pins s σ H vs us Q I r ⟨p, ys, e, h, q⟩ => call_len_seq pins s σ H vs us Q I r ⟨p, ys, e, .inr h, q⟩
theorem Tape.mono {H : Hp} {t : Addr} {n m : Nat} (h : Tape H t n) (le : m ≤ n) : Tape H t m := by
  obtain ⟨c, j, f, k, e, o⟩ := h
  exact ⟨c, j, f, k, e, ⟨o.small, o.lo, by have := o.hi; omega, o.klo, o.khi⟩⟩
theorem ExT.refl (t : Addr) (H : Hp) : ExT t H H := fun _ _ _ e => e
theorem same_new {H : Hp} {p : Addr} {o : HO} (h : H p = none) : Same H (upd H p o) := fun b x e => by
  rw [upd_ne (ne_of_none e h)]
  exact e
theorem scal_ii {a b : Int} : scal (.int a) (.int b) = true := rfl
theorem scal_ss {a b : Str} : scal (.str a) (.str b) = true := rfl
theorem scal_bb {a b : Bool} : scal (.bl a) (.bl b) = true := rfl
theorem scal_is {a : Int} {b : Str} : scal (.int a) (.str b) = true := rfl
theorem scal_si {a : Str} {b : Int} : scal (.str a) (.int b) = true := rfl
theorem scal_nn : scal .non .non = true := rfl
/-- a new list, tuple, dict -/
def NewL (xs : List V) (H : Hp) (Q : VK) : Prop := xs.length ≤ sizeLine ∧ ∀ p, H p = none → Q (.ref p) (upd H p (.lst xs))
def NewT (xs : List V) (H : Hp) (Q : VK) : Prop := xs.length ≤ sizeLine ∧ ∀ p, H p = none → Q (.ref p) (upd H p (.tup xs))
def NewD (H : Hp) (Q : VK) : Prop := ∀ p, H p = none → Q (.ref p) (upd H p (.dK []))
theorem tLst_eq {t : TA} : tLst t = fun σ H Q => t σ H fun xs H1 => NewL xs H1 Q := rfl
theorem tTup_eq {t : TA} : tTup t = fun σ H Q => t σ H fun xs H1 => NewT xs H1 Q := rfl
theorem tDNewK_eq : tDNewK = fun _ H Q => NewD H Q := rfl
theorem newL_go {xs : List V} {H : Hp} {Q : VK} (k : ∀ p H', H p = none → Same H H' → H' p = some (.lst xs) → Q (.ref p) H') (hz : xs.length ≤ 1000000 := by (simp only [List.length_cons, List.length_nil, List.length_append, List.length_map]; omega)) : NewL xs H Q := ⟨Nat.le_trans hz (by decide), fun p hp => k p _ hp (same_new hp) upd_same⟩
theorem newT_go {xs : List V} {H : Hp} {Q : VK} (k : ∀ p H', H p = none → Same H H' → H' p = some (.tup xs) → Q (.ref p) H') (hz : xs.length ≤ 1000000 := by (simp only [List.length_cons, List.length_nil, List.length_append, List.length_map]; omega)) : NewT xs H Q := ⟨Nat.le_trans hz (by decide), fun p hp => k p _ hp (same_new hp) upd_same⟩
theorem cat_go {l b : Addr} {xs zs : List V} {H : Hp} {Q : VK} (h1 : H l = some (.lst xs)) (h2 : H b = some (.lst zs)) (k : ∀ p H', H p = none → Same H H' → H' p = some (.lst (xs ++ zs)) → Q (.ref p) H')
    (hz : xs.length + zs.length ≤ 1000000 := by (simp only [List.length_cons, List.length_nil, List.length_append, List.length_map]; omega)) : rCat (.ref l) (.ref b) H Q :=
  ⟨l, b, xs, zs, rfl, rfl, h1, h2, Nat.le_trans hz (by decide), fun p hp => k p _ hp (same_new hp) upd_same⟩
def spDraw : Sp := fun vs H Q _ => ∃ (t : Addr) (n : Nat) (m : Int), vs = [.ref t, .int m] ∧ Tape H t (n + 1) ∧ 0 < m ∧ m.natAbs < 2 ^ 1000 ∧ ∀ x H', 0 ≤ x → x < m → Tape H' t n → ExT t H H' → Q (.int x) H'
def spTape (K : PySem.W.Frag) : Sp := fun vs H Q _ => ∃ (a : Addr) (ns : List Int) (k : Int), vs = [.ref a, .int k] ∧ SqL K H a (ns.map V.int) ∧ 0 ≤ k ∧ k ≤ 1000000 ∧ ∀ t H', H t = none → Tape H' t 1000000000 → Same H H' → Q (.ref t) H'
end Own

set_option Elab.async false
set_option linter.all false
set_option maxRecDepth 100000
set_option maxHeartbeats 4000000
namespace Own
open PySem PySem.Spec PyProof.Rows L2
def ExF (K : PySem.W.Frag) (f : Str) (x : V) (H1 : Hp) (Q : VK) : Prop := ∃ (a C dd : Addr) (fs : List (Str × V)) (v : V), x = .ref a ∧ H1 a = some (exo a C (some dd)) ∧ H1 dd = some (exd dd fs) ∧ XfC K C ∧ PySem.W.findIn K (.ref C) f = some none ∧ fs.lookup f = some v ∧ Q v H1
theorem tExf_eq {K : PySem.W.Frag} {f : Str} {te : TE} : tExf K f te = fun σ H Q => te σ H fun x H1 => ExF K f x H1 Q := rfl
theorem Errs.snoc {H : Hp} {a : Addr} {d : Addr × List (Str × V)} (x : ExAt H a d.1 d.2) : ∀ {as : List Addr} {ds : List (Addr × List (Str × V))}, Errs H as ds → Errs H (as ++ [a]) (ds ++ [d])
  | _, _, .nil => .cons x .nil
  | _, _, .cons y r => .cons y (Errs.snoc x r)
theorem Rows.snoc {H : Hp} {a : Addr} {d : List V} (x : H a = some (.lst d)) : ∀ {as : List Addr} {ds : List (List V)}, Rows H as ds → Rows H (as ++ [a]) (ds ++ [d])
  | _, _, .nil => .cons x .nil
  | _, _, .cons y r => .cons y (Rows.snoc x r)
/-- for j in range(n) -/
theorem forR_go {ta : TA} {j : Nat} {tb : TS} {D : Ends} {σ : L2.St} {H : Hp} {n : Nat} (ht : ∀ R : List V → Hp → Prop, R [.int (n : Int)] H → ta σ H R) (hn : n ≤ 100000) (Pv : Nat → L2.St → Hp → Prop) (h0 : Pv 0 σ H)
    (hs : ∀ (i : Nat) σ' H', i < n → Pv i σ' H' → tb { D with nx := Pv (i + 1), ct := Pv (i + 1), bk := D.nx } (σ'.set j (some (.int (i : Int)))) H') (hd : ∀ σ' H', Pv n σ' H' → D.nx σ' H') : tFor (iRng1 ta) (gName j) tb D σ H := by
  refine ht _ ⟨n, rfl, by omega, by omega, ?_⟩
  rw [Int.toNat_natCast]
  refine for_range (lo := 0) (n := n) Pv h0 (fun i σ' H' hi p => ?_) hd
  rw [Int.zero_add]
  exact hs i σ' H' hi p
theorem atI_ex {α : Type} {l : List α} {x : Int} (h0 : 0 ≤ x) (h1 : x < l.length) : ∃ v, v ∈ l ∧ atI l x = some v := by
  obtain ⟨j, rfl⟩ : ∃ j : Nat, x = (j : Int) := ⟨x.toNat, by omega⟩
  have hj : j < l.length := by omega
  exact ⟨l[j], List.getElem_mem hj, atI_nat (List.getElem?_eq_getElem hj)⟩
theorem ixS_go {z : Str} {i : Int} {c : Nat} {H : Hp} {Q : VK} (hz : z.length ≤ 1000000) (e : atI z.cps.toList i = some c) (q : Q (.str ⟨#[c]⟩) H) : rIxS (.str z) (.int i) H Q := ⟨z, i, c, rfl, rfl, Nat.le_trans hz (by decide), e, q⟩
theorem draw_go {t : Addr} {n : Nat} {m : Int} {H : Hp} {Q : VK} {E : XK} (ht : Tape H t (n + 1)) (m0 : 0 < m) (mb : m.natAbs < 2 ^ 1000) (k : ∀ x H', 0 ≤ x → x < m → Tape H' t n → ExT t H H' → Q (.int x) H') : spDraw [.ref t, .int m] H Q E := ⟨t, n, m, rfl, ht, m0, mb, k⟩
end Own

set_option Elab.async false
set_option linter.all false
set_option maxRecDepth 100000
set_option maxHeartbeats 4000000
namespace Own
open PySem PySem.Spec PyProof.Rows L2
def inD (x qual : Str) (st : Stmt) : He.FnD := ⟨(x, some "__init__"), "__init__", qual, defArgs st, defBody st, defScope st⟩
theorem and4 {a b c d : Bool} (h : (a && (b && (c && d))) = true) : a = true ∧ b = true ∧ c = true ∧ d = true := by
  simp only [Bool.and_eq_true] at h
  exact h
theorem and3 {a b c : Bool} (h : (a && (b && c)) = true) : a = true ∧ b = true ∧ c = true := by
  simp only [Bool.and_eq_true] at h
  exact h
theorem glo_mg {K : PySem.W.Frag} {h : Heap} {mg : Str → Option Value} {x : Str} (X : K.In h) (G : h.Ns mainGlobals mg) (c : gloB K x = true) : mg x = some (.ref (He.ga K x)) := PySem.W.mg_of X G (of_decide_eq_true c)
end Own

set_option Elab.async false
set_option linter.all false
set_option maxRecDepth 100000
set_option maxHeartbeats 4000000
namespace Own
open PySem PySem.Spec PyProof.Rows L2
def Spell (x : Str) : Prop := isWord x = true ∧ headLtr x = true
theorem word_len {x : Str} (h : isWord x = true) : 1 ≤ x.length ∧ x.length ≤ 12 := by
  simp only [isWord, Bool.and_eq_true, decide_eq_true_eq] at h
  rw [TL.len_tl]
  exact h.1
theorem word_all {x : Str} (h : isWord x = true) : (TL.tl x).all sgn = true := by
  simp only [isWord, Bool.and_eq_true, decide_eq_true_eq] at h
  exact h.2
theorem word_of {x : Str} (h1 : 1 ≤ (TL.tl x).length) (h2 : (TL.tl x).length ≤ 12) (h : (TL.tl x).all sgn = true) : isWord x = true := by
  simp only [isWord, Bool.and_eq_true, decide_eq_true_eq]
  exact ⟨⟨h1, h2⟩, h⟩
def signsS : Str := "abcdefghijklmnopqrstuvwxyz0123456789"
theorem signs_all : ∀ j < 36, (TL.tl signsS)[j]? = some (if j < 26 then 97 + j else 48 + (j - 26)) := by decide +kernel
theorem sgn_of_ltr {c : Nat} (h : ltr c = true) : sgn c = true := by simp [sgn, h]
theorem signs_at {x : Int} (h0 : 0 ≤ x) (h1 : x < 36) : ∃ c, atI (TL.tl signsS) x = some c ∧ sgn c = true ∧ (x < 26 → ltr c = true) := by
  obtain ⟨j, rfl⟩ : ∃ j : Nat, x = (j : Int) := ⟨x.toNat, by omega⟩
  have hj : j < 36 := by omega
  have e := signs_all j hj
  by_cases h : j < 26
  · rw [if_pos h] at e
    have l : ltr (97 + j) = true := by simp [ltr]; omega
    exact ⟨_, atI_nat e, sgn_of_ltr l, fun _ => l⟩
  · rw [if_neg h] at e
    refine ⟨_, atI_nat e, ?_, fun z => by omega⟩
    have : dgt (48 + (j - 26)) = true := by simp [dgt]; omega
    simp [sgn, this]
theorem tl_one (c : Nat) : TL.tl (⟨#[c]⟩ : Str) = [c] := rfl
theorem len_one (c : Nat) : (⟨#[c]⟩ : Str).length = 1 := rfl
theorem spell_one {c : Nat} (h : ltr c = true) : Spell ⟨#[c]⟩ := by
  refine ⟨word_of (by show 1 ≤ 1; decide) (by show 1 ≤ 12; decide) ?_, h⟩
  rw [tl_one]
  simp [sgn_of_ltr h]
theorem headLtr_app {x y : Str} (h : headLtr x = true) : headLtr (x ++ y) = true := by
  unfold headLtr at h ⊢
  rw [TL.tl_append]
  cases e : TL.tl x with
  | nil => rw [e] at h; cases h
  | cons c l => rw [e] at h; exact h
theorem spell_snoc {x : Str} {c : Nat} (h : Spell x) (hl : x.length ≤ 11) (hc : sgn c = true) : Spell (x ++ ⟨#[c]⟩) := by
  have l1 := word_len h.1
  refine ⟨word_of ?_ ?_ ?_, headLtr_app h.2⟩
  · rw [TL.tl_append, List.length_append, ← TL.len_tl]
    omega
  · rw [TL.tl_append, List.length_append, ← TL.len_tl, tl_one]
    show x.length + 1 ≤ 12
    omega
  · rw [TL.tl_append, List.all_append, word_all h.1, tl_one]
    simp [hc]
theorem len_app (x y : Str) : (x ++ y).length = x.length + y.length := by rw [TL.len_tl, TL.tl_append, List.length_append, ← TL.len_tl, ← TL.len_tl]
theorem kept_spell : ∀ z ∈ keptS, isWord z = true ∧ headLtr z = true ∧ z.length ≤ 5 := by decide +kernel
/-- x[:j] + c + x[j+1:] -/
theorem tl_cut_to (z : Str) (j : Nat) : TL.tl (cutS z none (some (j : Int))) = (TL.tl z).take j := by
  show ((z.cps.toList.drop (HT.sIx z.length 0 none)).take (HT.sIx z.length z.length (some (j : Int)) - HT.sIx z.length 0 none)) = _
  rw [HT.sIx_none, HT.sIx_nat, List.drop_zero, Nat.sub_zero]
  have e : z.length = (TL.tl z).length := TL.len_tl z
  by_cases h : j ≤ z.length
  · rw [Nat.min_eq_left h]
  · rw [Nat.min_eq_right (by omega), List.take_of_length_le (by show z.cps.toList.length ≤ _; rw [e]; exact Nat.le_refl _), List.take_of_length_le (by omega)]
theorem tl_cut_from (z : Str) (j : Nat) : TL.tl (cutS z (some (j : Int)) none) = (TL.tl z).drop j := by
  show ((z.cps.toList.drop (HT.sIx z.length 0 (some (j : Int)))).take (HT.sIx z.length z.length none - HT.sIx z.length 0 (some (j : Int)))) = _
  rw [HT.sIx_none, HT.sIx_nat]
  have e : z.length = (TL.tl z).length := TL.len_tl z
  by_cases h : j ≤ z.length
  · rw [Nat.min_eq_left h, List.take_of_length_le]
    rw [List.length_drop]
    show (TL.tl z).length - j ≤ _
    omega
  · rw [Nat.min_eq_right (by omega)]
    have h1 : (TL.tl z).drop j = [] := List.drop_eq_nil_of_le (by omega)
    rw [h1]
    simp
theorem spell_put {x : Str} {c j : Nat} (h : Spell x) (hj : j < x.length) (hc : ltr c = true) : Spell (cutS x none (some (j : Int)) ++ ⟨#[c]⟩ ++ cutS x (some ((j : Int) + 1)) none) := by
  have l1 := word_len h.1
  have el : x.length = (TL.tl x).length := TL.len_tl x
  have e : TL.tl (cutS x none (some (j : Int)) ++ ⟨#[c]⟩ ++ cutS x (some ((j : Int) + 1)) none) = (TL.tl x).take j ++ [c] ++ (TL.tl x).drop (j + 1) := by
    rw [TL.tl_append, TL.tl_append, tl_cut_to, tl_one]
    have e2 : ((j : Int) + 1) = ((j + 1 : Nat) : Int) := by omega
    rw [e2, tl_cut_from]
  have all := word_all h.1
  rw [List.all_eq_true] at all
  refine ⟨word_of ?_ ?_ ?_, ?_⟩
  · rw [e, List.length_append, List.length_append]
    show 1 ≤ _ + 1 + _
    omega
  · rw [e, List.length_append, List.length_append, List.length_take, List.length_drop]
    show _ + 1 + _ ≤ 12
    omega
  · rw [e, List.all_append, List.all_append, Bool.and_eq_true, Bool.and_eq_true]
    exact ⟨⟨List.all_eq_true.mpr fun y hy => all y (List.mem_of_mem_take hy), by simp [sgn_of_ltr hc]⟩, List.all_eq_true.mpr fun y hy => all y (List.mem_of_mem_drop hy)⟩
  · unfold headLtr
    rw [e]
    cases j with
    | zero => exact hc
    | succ j =>
      have hd := h.2
      unfold headLtr at hd
      cases e3 : TL.tl x with
      | nil => rw [e3] at hd; cases hd
      | cons d l => rw [e3] at hd; exact hd
theorem inV_strs {x : Str} : ∀ {l : List Str}, inV (.str x) (l.map V.str) = l.contains x
  | [] => rfl
  | y :: l => by
    have ih := inV_strs (x := x) (l := l)
    unfold inV at ih ⊢
    rw [List.map_cons, List.any_cons, ih, List.contains_cons]
    show (y == x || _) = (x == y || _)
    by_cases h : x = y
    · subst h; simp
    · have h2 : ¬ y = x := fun z => h z.symm
      have a : (x == y) = false := by simpa using h
      have b : (y == x) = false := by simpa using h2
      rw [a, b]
theorem flat_strs : ∀ {l : List Str}, (l.map V.str).all flatV = true
  | [] => rfl
  | _ :: l => by rw [List.map_cons, List.all_cons, flat_strs] <;> rfl
theorem inS_go {K : PySem.W.Frag} {neg : Bool} {x : Str} {p : Addr} {l : List Str} {H : Hp} {Q : VK} (h : SqL K H p (l.map V.str)) (q : Q (.bl (if neg then !l.contains x else l.contains x)) H) : rIn K neg (.str x) (.ref p) H Q :=
  ⟨p, _, rfl, .inl h, rfl, flat_strs, by rw [inV_strs]; exact q⟩
theorem strOk_of {x : Str} (h : ∀ c ∈ TL.tl x, c < 0x110000) : PyData.strOk x = true := by
  unfold PyData.strOk
  rw [← Array.all_toList, List.all_eq_true]
  intro c hc
  exact decide_eq_true (h c hc)
theorem word_ok {x : Str} (h : isWord x = true) : PyData.strOk x = true := by
  refine strOk_of fun c hc => ?_
  have a := word_all h
  rw [List.all_eq_true] at a
  have b := a c hc
  simp only [sgn, ltr, dgt, Bool.or_eq_true, Bool.and_eq_true, decide_eq_true_eq] at b
  omega
theorem strs_shaped (l : List Str) (h : ∀ x ∈ l, PyData.strOk x = true) : SeqAt.shaped (.list (l.map PyData.str)) = true := by
  have a : ∀ l : List Str, (∀ x ∈ l, PyData.strOk x = true) → PyData.canLayAll0 (l.map PyData.str) = true := by
    intro l
    induction l with
    | nil => intro _; rfl
    | cons x l ih =>
      intro h
      simp only [List.map_cons, PyData.canLayAll0, PyData.canLay0, ih fun y hy => h y (List.mem_cons_of_mem _ hy), h x (List.mem_cons_self ..), Bool.and_self]
  have b : ∀ l : List Str, PyData.depthAll (l.map PyData.str) ≤ 1 := by
    intro l
    induction l with
    | nil => simp [PyData.depthAll]
    | cons x l ih => simp only [List.map_cons, PyData.depthAll, PyData.depth]; omega
  show (PyData.canLay0 (.list (l.map PyData.str)) && decide (PyData.depth (.list (l.map PyData.str)) ≤ 64)) = true
  rw [Bool.and_eq_true]
  refine ⟨by simp only [PyData.canLay0]; exact a l h, decide_eq_true ?_⟩
  simp only [PyData.depth]
  have := b l
  omega
theorem dp_strs {K : PySem.W.Frag} {H : Hp} : ∀ (l : List Str), DpAll K H (l.map V.str) (l.map PyData.str)
  | [] => .nil
  | x :: l => .cons (.str x) (dp_strs l)
/-- used != [] -/
theorem neNil_go {K : PySem.W.Frag} {p e : Addr} {l : List Str} {H : Hp} {Q : VK} (h : SqL K H p (l.map V.str)) (he : SqL K H e []) (ho : ∀ x ∈ l, PyData.strOk x = true) (q : Q (.bl (!l.isEmpty)) H) : rNeD K (.ref p) (.ref e) H Q := by
  refine ⟨.list (l.map .str), .list [], .lst h (dp_strs l), .lst he .nil, strs_shaped l ho, strs_shaped [] (by simp), ?_⟩
  have z : PyData.eqv (.list (l.map PyData.str)) (.list []) = l.isEmpty := by
    cases l with
    | nil => simp [PyData.eqv, PyData.eqvAll]
    | cons x l => simp [PyData.eqv, PyData.eqvAll]
  rw [z]
  exact q
theorem newS_go {ys : List Str} {H : Hp} {Q : VK} (k : ∀ p H', H p = none → Same H H' → H' p = some (.lst (ys.map V.str)) → Q (.ref p) H') : rNewStrs ys H Q := fun p hp => k p _ hp (same_new hp) upd_same
theorem cut_go {t u : TS} {D : Ends} {σ : L2.St} {H : Hp} (Mid : L2.St → Hp → Prop) (h : t { D with nx := Mid } σ H) (k : ∀ σ' H', Mid σ' H' → u D σ' H') : Evl.tCut t u D σ H := ⟨Mid, h, k⟩
theorem atI_map {α β : Type} {f : α → β} {l : List α} {x : Int} {v : α} (h : atI l x = some v) : atI (l.map f) x = some (f v) := by
  unfold atI at h ⊢
  rw [List.length_map]
  cases e : ixN l.length x with
  | none => rw [e] at h; cases h
  | some j =>
    rw [e] at h
    have h' : l[j]? = some v := h
    show (l.map f)[j]? = some (f v)
    rw [List.getElem?_map, h']; rfl
end Own

set_option Elab.async false
set_option linter.all false
set_option maxRecDepth 100000
set_option maxHeartbeats 4000000
namespace Own
open PySem PySem.Spec PyProof.Rows L2
section
variable {X : Cx} {s : Shared} {H : Hp} {scope : Scope} {cenv : Env} {fp : List Addr}
theorem ixB_list : IxR (X.blk s H scope cenv fp) (rIxL X.K) := ix_list
theorem ixB_tup : IxR (X.blk s H scope cenv fp) (rIxT X.K) := ix_tup
theorem opB_in : OpR (X.blk s H scope cenv fp) (compareOp .In) (rIn X.K false) := op_in_seq
end
end Own

set_option Elab.async false
set_option linter.all false
set_option maxRecDepth 100000
set_option maxHeartbeats 4000000
namespace Own
open PySem PySem.Spec PyProof.Rows L2
theorem Tu.refl (H : Hp) : Tu H H := fun _ _ h => h
theorem Dp.tupD {K : PySem.W.Frag} {H : Hp} {v : V} {ds : List PyData} (h : Dp K H v (.tuple ds)) : ∃ a xs, v = .ref a ∧ SqT K H a xs ∧ DpAll K H xs ds := by
  cases h with
  | tup a b => exact ⟨_, _, rfl, a, b⟩
theorem Dp.strD {K : PySem.W.Frag} {H : Hp} {v : V} {x : Str} (h : Dp K H v (.str x)) : v = .str x := by
  cases h
  rfl
theorem DpAll.app {K : PySem.W.Frag} {H : Hp} : ∀ {vs ws : List V} {ds es : List PyData}, DpAll K H vs ds → DpAll K H ws es → DpAll K H (vs ++ ws) (ds ++ es)
  | _, _, _, _, .nil, h => h
  | _, _, _, _, .cons a b, h => .cons a (DpAll.app b h)
theorem ixD_go {K : PySem.W.Frag} {H : Hp} {v : V} {ds : List PyData} {d : PyData} {j : Nat} {i : Int} {Q : VK} (h : Dp K H v (.tuple ds)) (hd : ds[j]? = some d) (hi : i = (j : Int)) (q : ∀ z, Dp K H z d → Q z H) : rIxT K v (.int i) H Q := by
  obtain ⟨a, xs, rfl, hs, hx⟩ := Dp.tupD h
  obtain ⟨z, hz, dz⟩ := DpAll.at hx hd
  subst hi
  exact ⟨a, xs, _, z, rfl, rfl, hs, atI_nat hz, q z dz⟩
/-- a new tuple, as data -/
theorem newTD_go {K : PySem.W.Frag} {H : Hp} {xs : List V} {ds : List PyData} {Q : VK} (h : DpAll K H xs ds) (hp : PlAll ds = true) (hl : ds.length ≤ 1000000) (q : ∀ p H', H p = none → Same H H' → Dp K H' (.ref p) (.tuple ds) → Q (.ref p) H') : NewT xs H Q :=
  newT_go (fun p H' n s r => q p H' n s (.tup (.inl (.inl r)) (DpAll.keep (Same.tu s) h hp))) (by rw [DpAll.len h]; exact hl)
theorem ExT.toSame {D : Addr} {H H' : Hp} (h : H D = none) (v : ExT D H H') : Same H H' := fun b o e => v b o (by rintro rfl; rw [h] at e; cases e) e
theorem exT_upd {D : Addr} {H H' : Hp} {o : HO} (v : ExT D H H') : ExT D H (upd H' D o) := fun b u hb e => by rw [upd_ne hb]; exact v b u hb e
theorem wipe_set {σ : L2.St} {j : Nat} {x : V} : wipe ((wipe σ [j]).set j (some x)) [j] = wipe σ [j] := by
  show ((σ.set j none).set j (some x)).set j none = σ.set j none
  rw [List.set_set, List.set_set]
theorem inT_go {K : PySem.W.Frag} {neg : Bool} {x : Str} {p : Addr} {l : List Str} {H : Hp} {Q : VK} (h : SqT K H p (l.map V.str)) (q : Q (.bl (if neg then !l.contains x else l.contains x)) H) : rIn K neg (.str x) (.ref p) H Q :=
  ⟨p, _, rfl, .inr h, rfl, flat_strs, by rw [inV_strs]; exact q⟩
def LcP (Inv : Addr → Nat → List V → Hp → Prop) (D : Addr) (i : Nat) (H' : Hp) : Prop := ∃ acc, H' D = some (.lst acc) ∧ acc.length ≤ i ∧ Inv D i acc H'
theorem dp_strs2 {K : PySem.W.Frag} {H : Hp} : ∀ (l : List Str), DpAll K H (l.map V.str) (l.map PyData.str)
  | [] => .nil
  | x :: l => .cons (.str x) (dp_strs2 l)
theorem cutV_to (xs : List V) (j : Nat) : cutV xs none (some (j : Int)) = xs.take j := by
  unfold cutV
  rw [show HT.sIx xs.length 0 none = 0 from rfl, List.drop_zero, Nat.sub_zero]
  have e : HT.sIx xs.length xs.length (some (j : Int)) = min j xs.length := by
    unfold HT.sIx
    simp
    try omega
  rw [e]
  rcases Nat.le_total j xs.length with h | h
  · rw [Nat.min_eq_left h]
  · rw [Nat.min_eq_right h, List.take_length, List.take_of_length_le h]
end Own

set_option Elab.async false
set_option linter.all false
set_option maxRecDepth 100000
set_option maxHeartbeats 4000000
namespace Own
open PySem PySem.Spec PyProof.Rows L2

end Own

set_option Elab.async false
set_option linter.all false
set_option maxRecDepth 100000
set_option maxHeartbeats 4000000

set_option Elab.async false
set_option linter.all false
set_option maxRecDepth 100000
set_option maxHeartbeats 4000000
namespace Own
open PySem PySem.Spec PyProof.Rows L2
theorem valV_mem {t : Tbl} {k : Key} {v : V} (h : valV t k = some v) : (k, v) ∈ t := by
  unfold valV at h
  obtain ⟨p, hp, e⟩ := Option.map_eq_some_iff.mp h
  have e0 := List.find?_some hp
  have e1 : p.1 = k := by simpa using e0
  have e2 := List.mem_of_find?_eq_some hp
  subst e1 e
  exact e2
theorem mem_valV : ∀ {t : Tbl} {k : Key} {v : V}, (t.map (·.1)).Nodup → (k, v) ∈ t → valV t k = some v
  | p :: t, k, v, nd, h => by
    rw [List.map_cons, List.nodup_cons] at nd
    rcases List.mem_cons.mp h with rfl | h
    · exact valV_pos rfl
    · rw [valV_neg fun e => nd.1 (by rw [e]; exact List.mem_map.mpr ⟨(k, v), h, rfl⟩)]
      exact mem_valV nd.2 h
theorem byN_keys (t : Tbl) (ys : List Str) : (byN t ys).map (·.1) = ys.map Sum.inr := by
  unfold byN
  rw [List.map_map]
  rfl
theorem byN_nd {t : Tbl} {ys : List Str} (h : ys.Nodup) : ((byN t ys).map (·.1)).Nodup := by
  rw [byN_keys, List.Nodup, List.pairwise_map]
  exact h.imp fun h e => h (by cases e; rfl)
theorem Srt.eqv {t s : Tbl} (h : TOk t) (q : Srt t s) : Eqv s t := by
  obtain ⟨ys, hp, _, rfl⟩ := q
  have nd : ys.Nodup := hp.symm.nodup h.names_nd
  intro k
  cases e : valV t k with
  | some v =>
    have hk := valV_key.mp (show (valV t k).isSome = true by rw [e]; rfl)
    rw [h.keys] at hk
    obtain ⟨x, hx, rfl⟩ := List.mem_map.mp hk
    refine mem_valV (byN_nd nd) (List.mem_map.mpr ⟨x, hp.symm.subset hx, by rw [e]; rfl⟩)
  | none =>
    cases e2 : valV (byN t ys) k with
    | none => rfl
    | some v =>
      have hk := valV_key.mp (show (valV (byN t ys) k).isSome = true by rw [e2]; rfl)
      rw [byN_keys] at hk
      obtain ⟨x, hx, rfl⟩ := List.mem_map.mp hk
      have := (names_mem h).mp (hp.subset hx)
      rw [e] at this
      cases this
theorem Srt.tok {t s : Tbl} (h : TOk t) (q : Srt t s) : TOk s := by
  have ev := q.eqv h
  obtain ⟨ys, hp, _, rfl⟩ := q
  have nd : ys.Nodup := hp.symm.nodup h.names_nd
  have mem : ∀ p ∈ byN t ys, p ∈ t := fun p hp => by
    have z := mem_valV (byN_nd nd) (show (p.1, p.2) ∈ byN t ys from hp)
    rw [ev] at z
    exact valV_mem z
  exact ⟨byN_nd nd, fun p hp => h.id p (mem p hp), fun p hp => h.ok p (mem p hp)⟩
theorem putK_mem {t : Tbl} {k : Key} {v : V} {p : Key × V} (h : p ∈ putK t k v) : p = (k, v) ∨ p ∈ t := by
  unfold putK at h
  split at h
  · obtain ⟨q, hq, e⟩ := List.mem_map.mp h
    split at e
    · rename_i c
      subst e c
      exact .inl rfl
    · subst e
      exact .inr hq
  · rcases List.mem_append.mp h with h | h
    · exact .inr h
    · simp at h
      exact .inl h
theorem putK_nd {t : Tbl} {k : Key} {v : V} (h : (t.map (·.1)).Nodup) : ((putK t k v).map (·.1)).Nodup := by
  cases e : valV t k with
  | none => exact nd_putK v h e
  | some w =>
    have c : (t.any fun kv => decide (kv.1 = k)) = true := by rw [valV_any, e]; rfl
    unfold putK
    rw [if_pos c, List.map_map]
    have : ((fun x => x.1) ∘ fun (kv : Key × V) => if kv.1 = k then (kv.1, v) else kv) = fun kv => kv.1 := by
      funext kv
      show (if kv.1 = k then (kv.1, v) else kv).1 = kv.1
      split <;> rfl
    rw [this]
    exact h
theorem TOk.put {t : Tbl} {x : Str} {v : V} (h : TOk t) (hx : isIdent x = true) (hv : valOk v = true) : TOk (putK t (.inr x) v) :=
  ⟨putK_nd h.nd, fun p hp => (putK_mem hp).elim (fun e => by rw [e]; exact hx) fun m => h.id p m, fun p hp => (putK_mem hp).elim (fun e => by rw [e]; exact hv) fun m => h.ok p m⟩
end Own

set_option Elab.async false
set_option linter.all false
set_option maxRecDepth 100000
set_option maxHeartbeats 4000000
namespace Own
open PySem PySem.Spec PyProof.Rows L2
theorem fun_of {K : PySem.W.Frag} {x qual : Str} {st : Stmt} {f : Addr} {fd : FuncData} (F : FunD K x qual (defArgs st) (defBody st) (defScope st) [] [] f fd) : Fun K x qual st f fd := by
  obtain ⟨oc, od, dV, kV, doc, pm, an, cdv, ct, osl, e, lk, hcd, hD, _⟩ := F.ex
  rcases hD with ⟨_, rfl⟩ | ⟨n, _⟩
  · exact ⟨⟨oc, od, kV, doc, pm, an, cdv, ct, osl, e, lk, hcd⟩, F.kp⟩
  · exact absurd rfl n
theorem ExS.refl (t g : Addr) (H : Hp) : ExS t g H H := fun _ _ _ _ e => e
end Own

set_option Elab.async false
set_option linter.all false
set_option maxRecDepth 100000
set_option maxHeartbeats 4000000
namespace Own
open PySem PySem.Spec PyProof.Rows L2
theorem letters_l : lettersS.cps.toList = List.range' 97 26 := by decide +kernel
theorem digits_l : digitsS.cps.toList = List.range' 48 10 := by decide +kernel
theorem in_letters {c : Nat} : decide (c ∈ lettersS.cps.toList) = ltr c := by
  rw [letters_l]
  unfold ltr
  rw [← Bool.decide_and]
  congr 1
  rw [List.mem_range'_1]
  exact propext ⟨fun h => by omega, fun h => by omega⟩
theorem in_digits {c : Nat} : decide (c ∈ digitsS.cps.toList) = dgt c := by
  rw [digits_l]
  unfold dgt
  rw [← Bool.decide_and]
  congr 1
  rw [List.mem_range'_1]
  exact propext ⟨fun h => by omega, fun h => by omega⟩
end Own
namespace Own
open PySem PySem.Spec PyProof.Rows L2
theorem same_none {H H' : Hp} {p : Addr} (s : Same H H') (n : H' p = none) : H p = none := by
  cases e : H p with
  | none => rfl
  | some o =>
    rw [s _ _ e] at n
    cases n
end Own

set_option Elab.async false
set_option linter.all false
set_option maxRecDepth 100000
set_option maxHeartbeats 4000000
namespace Own
open PySem PySem.Spec PyProof.Rows L2
/-- a number's digits, behind a stem -/
def numS (i : Nat) : Str := Str.ofString (toString ((i : Nat) : Int))
theorem num_fact : ∀ i < 91, 1 ≤ (TL.tl (numS i)).length ∧ (TL.tl (numS i)).length ≤ 2 ∧ (TL.tl (numS i)).all dgt = true := by decide +kernel
theorem num_inj : ∀ i < 91, ∀ j < 91, TL.tl (numS i) = TL.tl (numS j) → i = j := by decide +kernel
theorem kept_ltr : ∀ z ∈ keptS, (TL.tl z).all ltr = true := by decide +kernel
theorem tl_ext {x y : Str} (h : TL.tl x = TL.tl y) : x = y := by
  obtain ⟨a⟩ := x
  obtain ⟨b⟩ := y
  exact congrArg Str.mk (Array.toList_inj.mp h)
theorem pig : ∀ {l m : List Str}, l.Nodup → (∀ x ∈ l, x ∈ m) → l.length ≤ m.length
  | [], m, _, _ => Nat.zero_le _
  | a :: l, m, hn, hs => by
    have ha := hs a (by simp)
    have hn' := List.nodup_cons.mp hn
    have := pig (l := l) (m := m.erase a) hn'.2 fun x hx => by
      refine (List.mem_erase_of_ne ?_).mpr (hs x (by simp [hx]))
      rintro rfl
      exact hn'.1 hx
    rw [List.length_erase_of_mem ha] at this
    have := List.length_pos_of_mem ha
    rw [List.length_cons]
    omega
def stemS (x : Str) (i : Nat) : Str := cutS x none (some 9) ++ numS i
theorem tl_stem (x : Str) (i : Nat) : TL.tl (stemS x i) = (TL.tl x).take 9 ++ TL.tl (numS i) := by
  unfold stemS
  rw [TL.tl_append]
  exact congrArg (· ++ _) (tl_cut_to x 9)
theorem stem_ident {x : Str} {i : Nat} (h : Spell x) (hi : i < 91) : isIdent (stemS x i) = true := by
  obtain ⟨n1, n2, n3⟩ := num_fact i hi
  have e := tl_stem x i
  have w := word_len h.1
  have wa := word_all h.1
  have hl : ((TL.tl x).take 9).length ≤ 9 := by rw [List.length_take]; omega
  have h1 : isWord (stemS x i) = true := word_of (by rw [e, List.length_append]; omega) (by rw [e, List.length_append]; omega) (by
    rw [e, List.all_append, Bool.and_eq_true]
    refine ⟨List.all_eq_true.mpr fun c hc => List.all_eq_true.mp wa c (List.mem_of_mem_take hc), List.all_eq_true.mpr fun c hc => ?_⟩
    have := List.all_eq_true.mp n3 c hc
    simp [sgn, this])
  have h2 : headLtr (stemS x i) = true := by
    have hh := h.2
    unfold headLtr at hh ⊢
    rw [e]
    cases ex : TL.tl x with
    | nil => rw [ex] at hh; cases hh
    | cons c cs => rw [ex] at hh; exact hh
  have h3 : keptS.contains (stemS x i) = false := by
    refine Bool.eq_false_iff.mpr fun c => ?_
    have hm := List.contains_iff_mem.mp c
    have ka := kept_ltr _ hm
    rw [e, List.all_append, Bool.and_eq_true] at ka
    cases en : TL.tl (numS i) with
    | nil => rw [en] at n1; simp at n1
    | cons c cs =>
      rw [en] at n3 ka
      have a := List.all_eq_true.mp n3 c (by simp)
      have b := List.all_eq_true.mp ka.2 c (by simp)
      simp [dgt, ltr] at a b
      omega
  unfold isIdent
  rw [h1, h2, h3]
  rfl
theorem stem_inj {x : Str} {i j : Nat} (hi : i < 91) (hj : j < 91) (e : stemS x i = stemS x j) : i = j := by
  have := congrArg TL.tl e
  rw [tl_stem, tl_stem] at this
  exact num_inj i hi j hj (List.append_cancel_left this)
theorem tyL {K : PySem.W.Frag} {H : Hp} {l : Addr} {xs : List V} (h : H l = some (.lst xs)) : tyV K "list" (.ref l) H := .inl ⟨rfl, xs, .inl (.inl h)⟩
/-- for j in range(e), e drawn -/
theorem forC_go {ta : TA} {j : Nat} {tb : TS} {D : Ends} {σ : L2.St} {H : Hp} {Cond : Nat → Hp → Prop} (ht : ∀ R : List V → Hp → Prop, (∀ n H1, Cond n H1 → R [.int (n : Int)] H1) → ta σ H R) (hn : ∀ n H1, Cond n H1 → n ≤ 100000) (Pv : Nat → Nat → L2.St → Hp → Prop) (h0 : ∀ n H1, Cond n H1 → Pv n 0 σ H1)
    (hs : ∀ (n i : Nat) σ' H', i < n → Pv n i σ' H' → tb { D with nx := Pv n (i + 1), ct := Pv n (i + 1), bk := D.nx } (σ'.set j (some (.int (i : Int)))) H') (hd : ∀ n σ' H', Pv n n σ' H' → D.nx σ' H') : tFor (iRng1 ta) (gName j) tb D σ H := by
  refine ht _ fun n H1 c => ⟨n, rfl, by have := hn n H1 c; omega, by have := hn n H1 c; omega, ?_⟩
  rw [Int.toNat_natCast]
  refine for_range (lo := 0) (n := n) (Pv n) (h0 n H1 c) (fun i σ' H' hi p => ?_) (hd n)
  rw [Int.zero_add]
  exact hs n i σ' H' hi p

def LcR (Inv : Nat → Addr → Nat → List V → Hp → Prop) (n : Nat) (D : Addr) (i : Nat) (H' : Hp) : Prop := ∃ acc, H' D = some (.lst acc) ∧ acc.length ≤ i ∧ Inv n D i acc H'
/-- [e for j in range(k)], k drawn, e drawing -/
theorem lcRI_go {ta : TA} {j : Nat} {te : TE} {σ : L2.St} {H : Hp} {Q : VK} {Cond : Nat → Hp → Prop} (Inv : Nat → Addr → Nat → List V → Hp → Prop) (ht : ∀ R : List V → Hp → Prop, (∀ n H1, Cond n H1 → R [.int (n : Int)] H1) → ta σ H R) (hn : ∀ n H1, Cond n H1 → n ≤ 100000)
    (h0 : ∀ n H1 D H', Cond n H1 → H1 D = none → Same H1 H' → H' D = some (.lst []) → Inv n D 0 [] H')
    (hs : ∀ n D i acc H', i < n → n ≤ 100000 → H' D = some (.lst acc) → acc.length ≤ i → Inv n D i acc H' → te ((wipe σ [j]).set j (some (.int (i : Int)))) H' fun y H4 => ∃ acc', H4 D = some (.lst acc') ∧ acc'.length < sizeLine ∧ LcR Inv n D (i + 1) (upd H4 D (.lst (acc' ++ [y]))))
    (q : ∀ n D H' acc, H' D = some (.lst acc) → acc.length ≤ n → Inv n D n acc H' → Q (.ref D) H') : tLc (iRng1 ta) (gName j) tYes te [j] σ H Q := by
  refine ht _ fun n H1 c => ?_
  have big := hn n H1 c
  refine ⟨n, rfl, by omega, by omega, fun D hD => ?_⟩
  rw [Int.toNat_natCast]
  refine lc_range (lo := 0) (n := n) (fun i H' => LcR Inv n D i H') ⟨[], upd_same, Nat.le_refl _, h0 n H1 D _ c hD (same_new hD) upd_same⟩ ?_ ?_
  · rintro i H' hi ⟨acc, e, l, p⟩
    rw [Int.zero_add]
    exact ⟨wipe_set, hs n D i acc H' hi big e l p⟩
  · rintro H' ⟨acc, e, l, p⟩
    exact q n D H' acc e l p
end Own

set_option Elab.async false
set_option linter.all false
set_option maxRecDepth 100000
set_option maxHeartbeats 4000000
namespace Own
open PySem PySem.Spec PyProof.Rows L2
theorem isi_go {K : PySem.W.Frag} {x c : V} {t u : Value} {b : Bool} {H : Hp} {Q : VK} (k : ClsV c u) (ty : TyX K H x t) (e : PySem.W.kitOne K t u = some b) (q : Q (.bl b) H) : rIsi K [x, c] H Q := ⟨x, c, t, u, b, rfl, k, ty, e, q⟩
/-- [e for c in a text], e changing nothing -/
theorem lcStr_go {tl : TE} {j : Nat} {te : TE} {σ : L2.St} {H : Hp} {Q : VK} {x : Str} (f : Nat → V) (ht : ∀ Q : VK, Q (.str x) H → tl σ H Q) (hz : x.length ≤ 100000)
    (he : ∀ (c : Nat) H' (R : VK), R (f c) H' → te ((wipe σ [j]).set j (some (.str ⟨#[c]⟩))) H' R) (q : ∀ D H', H D = none → Same H H' → H' D = some (.lst ((TL.tl x).map f)) → Q (.ref D) H') : tLc (iStr tl) (gName j) tYes te [j] σ H Q := by
  refine ht _ ⟨x, rfl, fun D hD => ?_⟩
  have sz : x.cps.size = (TL.tl x).length := by show x.cps.size = x.cps.toList.length; simp
  refine ⟨fun i m H' => m = x.cps.size - i ∧ i ≤ x.cps.size ∧ H' = upd H D (.lst (((TL.tl x).take i).map f)), ⟨x.cps.size, rfl, Nat.zero_le _, rfl⟩, ?_⟩
  rintro i m H' ⟨rfl, le, rfl⟩
  rcases Nat.lt_or_ge i x.cps.size with lt | ge
  · refine .inr ⟨lt, fun H2 => H2 = upd H D (.lst (((TL.tl x).take (i + 1)).map f)), fun H2 e => ⟨x.cps.size - (i + 1), by omega, rfl, lt, e⟩, ?_⟩
    rintro v H2 ⟨rfl, c, hc, rfl⟩
    refine ⟨wipe_set, ?_⟩
    show te _ _ _
    refine he c _ _ ⟨_, upd_same, ?_, ?_⟩
    · rw [List.length_map]
      refine Nat.lt_of_le_of_lt (List.length_take_le _ _) (Nat.lt_of_lt_of_le lt (Nat.le_trans (show x.cps.size ≤ 100000 from hz) (by decide)))
    · rw [upd_upd]
      have e : (TL.tl x)[i]? = some c := by
        show x.cps.toList[i]? = some c
        rw [Array.getElem?_toList]
        exact hc
      rw [List.take_add_one, e, List.map_append]
      rfl
  · refine .inl ⟨ge, ?_⟩
    have e : i = (TL.tl x).length := by omega
    rw [e, List.take_length]
    exact q D _ hD (same_new hD) upd_same
theorem all_bl (l : List Nat) (f : Nat → Bool) : ∃ bs : List Bool, (l.map fun c => V.bl (f c)) = bs.map V.bl ∧ bs.all id = l.all f := by
  refine ⟨l.map f, by rw [List.map_map]; rfl, ?_⟩
  rw [List.all_map]
  rfl
end Own
namespace Own
open PySem PySem.Spec PyProof.Rows L2
theorem fld_go {K : PySem.W.Frag} {ta : TE} {f : Str} {σ : L2.St} {H : Hp} {Q : VK} {a C dx : Addr} {fs : List (Str × V)} {v : V} (ht : ∀ Q : VK, Q (.ref a) H → ta σ H Q) (h : H a = some (.ins C dx fs)) (c : Cls K C) (n : NoAttr K C f) (l : fs.lookup f = some v) (q : Q v H) : tFld K ta f σ H Q :=
  ht _ ⟨a, C, dx, fs, v, rfl, h, c, n, l, q⟩
end Own

set_option Elab.async false
set_option linter.all false
set_option maxRecDepth 100000
set_option maxHeartbeats 4000000
namespace Own
open PySem PySem.Spec PyProof.Rows L2
section
variable {chk : PySem.W.Frag → Bool} {fn : List He.DefD} {K : PySem.W.Frag}
theorem saysN_def (c : obsN chk fn K = He.valD fn) (i : Nat) {d : He.DefD} (h : fn[i]? = some d) : ∃ fd, FunD K d.name d.qual d.params d.body d.scope (d.dvs K) (d.kws K) (He.fAd K d.at_) fd := by
  have rows : fn.map (fun d => He.fnW K d.at_) = fn.map He.DefD.val := congrArg (fun z : He.AlD => z.2) c
  have row : (fn.map fun d => He.fnW K d.at_)[i]? = (fn.map He.DefD.val)[i]? := by rw [rows]
  rw [List.getElem?_map, List.getElem?_map, h] at row
  exact He.DefD.funD (Option.some.inj row) (List.all_eq_true.mp (saysN_both c).2 d (List.mem_of_getElem? h))
end
def cnT {K : PySem.W.Frag} {h : Heap} {mg : Str → Option Value} {x : Str} (X : K.In h) (G : h.Ns mainGlobals mg) (c : clsB K x = true) : CnT K mg x := by
  simp only [clsB, He.Fa.ok, He.eqO, Bool.and_eq_true, decide_eq_true_eq] at c
  exact ⟨He.ga K x, PySem.W.mg_of X G c.1, ⟨c.2.1.1, c.2.1.2.1, c.2.1.2.2.1, c.2.1.2.2.2⟩, c.2.2.1.1, c.2.2.1.2.2.2, c.2.2.2.1, c.2.2.2.2.1, c.2.2.2.2.2.1, c.2.2.2.2.2.2⟩
theorem meth_of {K : PySem.W.Frag} {x m : Str} (c : (He.Fa.meth x m).ok K = true) : PySem.W.findIn K (.ref (He.ga K x)) m = some (some (.ref (He.ma K (He.ga K x) m))) ∧ PySem.W.isFn K (.ref (He.ma K (He.ga K x) m)) = true := by
  simp only [He.Fa.ok, He.eqO, Bool.and_eq_true, decide_eq_true_eq] at c
  exact ⟨c.1, c.2.1⟩
end Own

set_option Elab.async false
set_option linter.all false
set_option maxRecDepth 100000
set_option maxHeartbeats 4000000
namespace Own
open PySem PySem.Spec PyProof.Rows L2
section
variable {X : Cx} {CX : CXT} {k : Nat} {C f : Addr} {sp : Sp} {E : XK}
def tIxO (C : Addr) (sp : Sp) (E : XK) (ta tb : TE) : TE := fun σ H Q => ta σ H fun x H1 => tb σ H1 fun y H2 => ∃ a dx fs, x = .ref a ∧ H2 a = some (.ins C dx fs) ∧ sp [x, y] H2 Q E
end
end Own

set_option Elab.async false
set_option linter.all false
set_option maxRecDepth 100000
set_option maxHeartbeats 4000000

set_option Elab.async false
set_option linter.all false
set_option maxRecDepth 100000
set_option maxHeartbeats 4000000

set_option Elab.async false
set_option linter.all false
set_option maxRecDepth 100000
set_option maxHeartbeats 4000000
namespace Own
open PySem PySem.Spec PyProof.Rows L2
section
variable {X : Cx} {s : Shared} {H : Hp} {scope : Scope} {cenv : Env} {fp : List Addr}
theorem pgB_tup {es : List Expr} {k n : Nat} {t : TGs} {pos : Pos} (hc : X.calm = true) (h : PGs (X.blk s H scope cenv fp) es t)
    (hn : (assignEach es (X.blk s H scope cenv fp).env).length = n := by rfl) (hst : (assignEach es (X.blk s H scope cenv fp).env).findIdx? (·.1) = none := by rfl) : PG (X.blk s H scope cenv fp) (.Tuple es k pos) (gTup X.K n t) := pg_tup hc h hn hst
theorem callB_isi : CallR (X.blk s H scope cenv fp) (.builtin "isinstance") (rIsi X.K) := call_isi
end
end Own

set_option Elab.async false
set_option linter.all false
set_option maxRecDepth 100000
set_option maxHeartbeats 4000000

set_option Elab.async false
set_option linter.all false
set_option maxRecDepth 100000
set_option maxHeartbeats 4000000
namespace Own
open PySem PySem.Spec PyProof.Rows L2
section
variable {X : Cx} {CX : CXT} {k : Nat} {C fI : Addr} {e : Expr} {es : List Expr} {ta : TA} {p pos : Pos} {sp : Sp}
theorem pmkN {x : Str} {fd : FuncData} {ps : List Str} (T : OexC X.K C)
    (iC : PySem.W.findIn X.K (.ref C) "__init__" = some (some (.ref fI)))
    (tI : PySem.W.typeIn X.K (.ref fI) = some (.type "function"))
    (F1 : FnOk X.prog X.w X.K X.mg X.base CX k fI fd ps sp) (hr : Room (k + 1) X.A) (hb : Binds X.K fd ps []) (hx : Passes CX X E0) (hm : X.mg x = some (.ref C)) (hg : Gl X x) (ha : PA X (e :: es) ta)
    (hdb : (x == ("__debug__" : Str)) = false := by decide)
    (he : starEach (e :: es) X.env = (false, eval e X.env) :: starEach es X.env := by rfl)
    (hpl : (backTo pos (starEach es X.env)).any (·.1) = false := by rfl) : L2N.PMk X (.Call (.Name x p) (e :: es) [] pos) (tMkO C sp [] ta) := by
  intro pins s σ H Q I h
  obtain ⟨nm, q, N, bs, bm, sn, sub, ab, col, dd, k0, k1, k2, k3, k5, hC, hbm⟩ := T.cls
  refine wpAny_Call_Name_kw (ld_glob I hg hm ?_ hdb)
  refine PySem.W.callWith_K (h₀ := X.base) I.ok.mod.kin T.kC ?_ he hpl
  refine thn (ha.run pos pins s σ H _ I h) fun us s1 hh => ?_
  obtain ⟨vs, H1, I1, r1, hz, q1⟩ := hh
  refine ⟨I1.kIn, ?_⟩
  show wpAny _ _ (call (.ref C) us) _ _ _
  obtain ⟨hp, g, dr, tk, os⟩ := s1
  generalize hA : hp.objs.size + 1 = a
  have hsz : hp.objs.size ≤ a := by omega
  have hq := q1 a (I1.hok.fresh hsz)
  have kk : ∀ b o, hp.get? b = some o → ((hp.push (PySem.W.kdv_tup us)).push (PySem.HandSPX.excO C hp.objs.size)).get? b = some o :=
    fun b o z => Heap.get?_push_of_some _ (Heap.get?_push_of_some _ z)
  have hget : ((hp.push (PySem.W.kdv_tup us)).push (PySem.HandSPX.excO C hp.objs.size)).get? a = some (PySem.HandSPX.excO C hp.objs.size) := by
    rw [← hA]
    heap_get
  have I2 := I1.laid (t' := tk) (a := a) (o := exo a C none) kk hsz (exo_ok hget)
  have r2 : Vals (V.ref a :: (vs ++ [])) (Value.ref a :: (us ++ [])) := .cons rfl (by simpa using r1)
  have hl : (Value.ref a :: us ++ []).length = ps.length := by
    have z := r2.length
    rw [F1.len _ _ _ _ hq] at z
    exact z.symm
  have hus : us.length ≤ sizeLine := by
    have z := Paired.length r1
    rw [sizeLine_eq]
    omega
  subst hA
  refine wpAny_call (PySem.HandSPX.call_own F.excBase_ValueError (fun Y => PySem.HandSPX.refsVE_contains Y bm hbm) (I1.kIn _ _ hC) (PySem.W.looks_findIn I1.kIn iC) (fun self => PySem.W.bind_fn I1.kIn self tI) hus ?_)
  have bd := hb _ (Value.ref (hp.objs.size + 1) :: us) I2.kIn hl
  refine codeAny_mono (F1.run _ X.stack _ _ _ _ _ _ E0 (hr.make C us []) (I2.env0.make C us []) bd r2 hq) fun r s' hq' => ?_
  cases r with
  | error er => exact hx pins σ _ _ er s' I2 hq'
  | ok fl =>
    cases fl with
    | ret u =>
      obtain ⟨v, H2, os2, bare2, un2, hok2, rv, ev, d, fs, ea, ed, hd1, q2⟩ := hq'
      subst ev
      obtain ⟨h2, g2, d2, t2, os'⟩ := s'
      obtain ⟨t0, G, J, kG, ge, hoe, na⟩ := mk_end0 (d2 := d2) (t2 := t2) I1 hsz kk un2 hok2 os2 bare2 ea ed hd1
      have zn : L2N.Zn (.ref C) (some d) ({ cls := .ref C, dict := some d, data := .fields #[.ref t0, .none, .none, .none, .bool false, .none] } : Obj) := ⟨rfl, rfl, fun ws hw => by cases hw; rfl⟩
      exact ⟨rv, hp.objs.size + 1, _, _, ⟨G, g2, d2, t2, os'⟩, _, .ref C, some d, rfl, J, kG, ge, hoe, zn, rfl, rfl, na, rfl, bare2, raises_own T.exC T.tyC, q2⟩
    | next => exact hq'.elim
    | brk => exact hq'.elim
    | cont => exact hq'.elim
end
/-- what a raising def of ours wishes of its own X -/
theorem takesN {X : Cx} {E : XK} {E₁ : Value → Shared → Prop} (hs : X.stack = X.env :: X.outer) (hf : X.env.frame = some X.env.locals) (hex : X.ex = [])
    (hx : X.xe = fun e s' => wpAny (model X.prog X.w) X.A (leaving X.env e) (fun _ s'' => L2N.CX X.prog X.w X.outer X.H_0 X.s_0 E e s'') E₁ s') : L2N.Takes X (fun cls d _ H => E cls d H) := L2N.takes_of hs hf hex hx
theorem passN {X : Cx} : Passes (L2N.CX X.prog X.w) X E0 := fun _ _ _ _ _ _ _ h => by
  obtain ⟨_, _, _, _, _, _, _, _, _, _, _, _, z⟩ := h
  exact z.elim
/-- a def that may raise keeps its promise -/
theorem okX {P : Program} {w : World} {K : PySem.W.Frag} {mg : Str → Option Value} {base : Heap} {x qual : Str} {st : Stmt} {f : Addr} {fd : FuncData} {N ps : List Str} {k : Nat} {sp : Sp} (F : Fun K x qual st f fd) (S : FnScope N ps (defScope st)) (len : ∀ vs H Q E, sp vs H Q E → vs.length = ps.length)
    (body : ∀ (cdv : Value) (A : Around) (outer : List Env) (s : Shared) (H : Hp) (vs : List V) (Q : VK) (E : XK), Room k (A.deeper (envOfC qual (defScope st) s.heap.objs.size f cdv)) → sp vs H Q E →
      ∃ t, PSs (cxOf (L2N.CX P w) P w K mg base N qual (defScope st) f cdv A outer s H E) (defBody st) t ∧ t { nx := fun _ H' => Q .non H', rt := Q } (start N vs) H) : FnOk P w K mg base (L2N.CX P w) (k + 1) f fd ps sp := by
  obtain ⟨oc, od, kV, doc, pm, an, cdv, ct, osl, rfl, lk, hcd⟩ := F.ex
  refine fn_of lk hcd S len fun A outer s H vs Q E hr hsp => ?_
  exact body cdv A outer s H vs Q E hr hsp
end Own

set_option Elab.async false
set_option linter.all false
set_option maxRecDepth 100000
set_option maxHeartbeats 4000000

set_option Elab.async false
set_option linter.all false
set_option maxRecDepth 100000
set_option maxHeartbeats 4000000

set_option Elab.async false
set_option linter.all false
set_option maxRecDepth 100000
set_option maxHeartbeats 4000000
namespace Own
open PySem PySem.Spec PyProof.Rows L2
/-- the law's promise with its own table -/
theorem lawAtY {l : PySem.W.OpenLaw} {w : World} {K : PySem.W.Frag} {CX : CXT} {k n : Nat} {x : Str} {mg : Str → Option Value} {fa : Addr} {h : Heap} {fd : FuncData} {sp : Sp} (KX : K.In h) {tf : List He.Defn} (t : TabsY tf K h)
    (hb : ∀ (s : Shared) (u : Value), BindsTo s fd ⟨[u], []⟩ [(x, u)])
    (hs : ∀ (H : Hp) (a : Addr) (ns : List Int), ns.length ≤ n → (∀ p ∈ tf, H (He.cT K p).2 = some (.tbl #[])) → SqL K H a (ns.map V.int) → sp [.ref a] H (fun v _ => v = .bl true) fun _ _ _ => False)
    (hF : ∀ base : Heap, K.In base → base.Ns mainGlobals mg → (∀ p ∈ tf, LamX.TabB base mg (He.cT K p).1 (He.cT K p).2) → FnOk l.prog w K mg base CX k fa fd [x] sp) : LamX.LawAtS l w K CX k n x mg fa h := by
  have at_ : ∀ {c : Addr × Addr}, c ∈ tf.map (He.cT K) → ∃ p ∈ tf, He.cT K p = c := fun hc => List.mem_map.mp hc
  refine ⟨fd, tf.map (He.cT K), sp, fun c hc => ?_, fun c hc => ?_, fun c hc => ?_, hb, fun H a ns hl _ hT hS => hs H a ns hl (fun p hp => hT _ (List.mem_map.mpr ⟨p, hp, rfl⟩)) hS, fun base k1 k2 k3 => hF base k1 k2 fun p hp => k3 _ (List.mem_map.mpr ⟨p, hp, rfl⟩)⟩
  · obtain ⟨p, hp, rfl⟩ := at_ hc
    exact (t p hp).2.2
  · obtain ⟨p, hp, rfl⟩ := at_ hc
    exact (t p hp).2.1
  · obtain ⟨p, hp, rfl⟩ := at_ hc
    exact PySem.W.codeHd_of_K KX (t p hp).1
end Own

set_option Elab.async false
set_option linter.all false
set_option maxRecDepth 100000
set_option maxHeartbeats 4000000

set_option Elab.async false
set_option linter.all false
set_option maxRecDepth 100000
set_option maxHeartbeats 4000000
namespace Own
open PySem PySem.Spec PyProof.Rows L2
/-- a def of the text that stands at f, under no name -/
structure FunG (K : PySem.W.Frag) (x qual : Str) (st : Stmt) (f : Addr) (fd : FuncData) : Prop where
  ex : ∃ (oc : Value) (od : Option Addr) (kV doc pm : Value) (an : Option Addr) (cdv ct : Value) (osl : Array (Option Value)),
    fd = PySem.W.fnOf x qual (defArgs st) (defBody st) (defScope st) .none kV doc pm an cdv ct ∧ K.lookup f = some ⟨oc, od, .func fd, osl⟩ ∧ PySem.W.codeIn K cdv qual = true
theorem FunG.binds {K : PySem.W.Frag} {x qual : Str} {st : Stmt} {f : Addr} {fd : FuncData} {ps : List Str} (F : FunG K x qual st f fd)
    (h : ∀ (kV doc pm : Value) (an : Option Addr) (cdv ct : Value) (us : List Value), us.length = ps.length → bindArgs (PySem.W.fnOf x qual (defArgs st) (defBody st) (defScope st) .none kV doc pm an cdv ct) ⟨us, []⟩ = pure (ps.zip us)) : Binds K fd ps [] := by
  obtain ⟨oc, od, kV, doc, pm, an, cdv, ct, osl, rfl, lk, hcd⟩ := F.ex
  exact .all (h kV doc pm an cdv ct)
end Own

set_option Elab.async false
set_option linter.all false
set_option maxRecDepth 100000
set_option maxHeartbeats 4000000

set_option Elab.async false
set_option linter.all false
set_option maxRecDepth 100000
set_option maxHeartbeats 4000000
namespace Own
open PySem PySem.Spec PyProof.Rows L2
structure FnSt (P : Program) (w : World) (K : PySem.W.Frag) (mg : Str → Option Value) (base : Heap) (CX : CXT) (k : Nat) (f : Addr) (fd : FuncData) (ps : List Str) (sp : SpS) : Prop where
  len : ∀ outer s vs H Q E, sp outer s vs H Q E → vs.length = ps.length
  run : ∀ (A : Around) (outer : List Env) (s : Shared) (H : Hp) (args : Args) (us : List Value) (vs : List V) (Q : VK) (E : XK), Room k A → Env0 P w K mg base A outer s H → BindsTo s fd args (ps.zip us) → Vals vs us → sp outer s vs H Q E →
    codeAny (model P w) A (.call (.ref f) args) (CR CX outer P w H s Q E) s
theorem FnSt.mono {P : Program} {w : World} {K : PySem.W.Frag} {mg : Str → Option Value} {base : Heap} {CX : CXT} {j k : Nat} {f : Addr} {fd : FuncData} {ps : List Str} {sp : SpS} (F : FnSt P w K mg base CX j f fd ps sp) (h : j ≤ k) : FnSt P w K mg base CX k f fd ps sp :=
  ⟨F.len, fun A outer s H args us vs Q E hr => F.run A outer s H args us vs Q E (hr.mono h)⟩
end Own

set_option Elab.async false
set_option linter.all false
set_option maxRecDepth 100000
set_option maxHeartbeats 4000000

set_option Elab.async false
set_option linter.all false
set_option maxRecDepth 100000
set_option maxHeartbeats 4000000

set_option Elab.async false
set_option linter.all false
set_option maxRecDepth 100000
set_option maxHeartbeats 4000000
namespace Own
open PySem PySem.Spec PyProof.Rows L2
structure CbOk (P : Program) (w : World) (K : PySem.W.Frag) (mg : Str → Option Value) (base : Heap) (CX : CXT) (k : Nat) (f : Addr) (B : CB) (ps fr : List Str) (sp : SpC) : Prop where
  fn : ∀ H h, HOk P w H h → H f = some B.O → PySem.W.FnAt f h
  ni : (∀ xs, B.O ≠ .lst xs) ∧ (∀ C dx fs, B.O ≠ .ins C dx fs) ∧ (∀ kv, B.O ≠ .dK kv) ∧ ∀ ps, B.O ≠ .tbl ps
  len : ∀ outer s ws vs H Q E, sp outer s ws vs H Q E → vs.length = ps.length
  run : ∀ (A : Around) (outer : List Env) (s : Shared) (H : Hp) (us : List Value) (vs : List V) (ws : List (Option V)) (Q : VK) (E : XK), Room k A → Env0 P w K mg base A outer s H → H f = some B.O → H B.c = some (CodeH B.c B.q B.P) →
    NdefX.CellsAt B.cl fr ws s.heap H → Vals vs us → sp outer s ws vs H Q E → codeAny (model P w) A (.call (.ref f) ⟨us, []⟩) (CR CX outer P w H s Q E) s
section
variable {CX : CXT} {P : Program} {w : World} {K : PySem.W.Frag} {mg : Str → Option Value} {base : Heap} {N ps fr : List Str} {F : NdefX.NF} {f : Addr} {k j : Nat} {sp sp' : SpC} {B : CB} {e : Expr}
theorem CbOk.mono (o : CbOk P w K mg base CX j f B ps fr sp) (h : j ≤ k) : CbOk P w K mg base CX k f B ps fr sp := ⟨o.fn, o.ni, o.len, fun A outer s H us vs ws Q E hr => o.run A outer s H us vs ws Q E (hr.mono h)⟩
end
end Own

set_option Elab.async false
set_option linter.all false
set_option maxRecDepth 100000
set_option maxHeartbeats 4000000
namespace Own
open PySem PySem.Spec PyProof.Rows L2

end Own

set_option Elab.async false
set_option linter.all false
set_option maxRecDepth 100000
set_option maxHeartbeats 4000000
namespace Own
open PySem PySem.Spec PyProof.Rows L2

section
variable {X : Cx} {CX : CXT} {k i : Nat} {ps : List Str} {Ew : L2.St → XK} {x : Str} {e : Expr} {es : List Expr} {p pos : Pos} {t : TA}
/-- what is promised to let nothing out may let out anything -/
theorem CbOk.calm {P : Program} {w : World} {K : PySem.W.Frag} {mg : Str → Option Value} {base : Heap} {CX : CXT} {f : Addr} {B : CB} {fr : List Str} {sp : SpC} (o : CbOk P w K mg base CX0 k f B ps fr sp) : CbOk P w K mg base CX k f B ps fr sp :=
  ⟨o.fn, o.ni, o.len, fun A outer s H us vs ws Q E hr e0 hf hc C r q => codeAny_mono (o.run A outer s H us vs ws Q E hr e0 hf hc C r q) fun r s' z => by
    cases r with
    | error x => exact False.elim z
    | ok fl => cases fl <;> exact z⟩
end

end Own

set_option Elab.async false
set_option linter.all false
set_option maxRecDepth 100000
set_option maxHeartbeats 4000000
namespace Own
open PySem PySem.Spec PyProof.Rows L2
section
variable {Z : List Addr} {H H1 H' : Hp} {b : Addr} {o : HO}
theorem Dy.refl (Z : List Addr) (H : Hp) : Dy Z H H := fun _ _ _ _ e => e
theorem Dy.put {x : Addr} (hx : x ∈ Z) : Dy Z H (upd H x o) := fun b u h _ e => by
  have n : b ≠ x := fun z => h (by rw [z]; exact hx)
  rw [upd_ne n]
  exact e
end
section
variable {ps ps' : List Nat}
theorem Line.grow {i : Nat} {l : List Nat} (p : ps <+: ps') (h : Line ps i l) : Line ps' i l := by
  induction h with
  | root => exact .root
  | up h e r ih =>
    refine .up h ?_ ih
    obtain ⟨q, rfl⟩ := p
    rw [List.getElem?_append_left (List.getElem?_eq_some_iff.mp e).1]
    exact e
theorem Line.mem {i x : Nat} {l : List Nat} (h : Line ps i l) : x ∈ l → ∃ l', Line ps x l' ∧ l'.length ≤ l.length ∧ (l'.length = l.length → x = i) := by
  induction h with
  | root =>
    intro m
    obtain rfl : x = 0 := by simpa using m
    exact ⟨_, .root, Nat.le_refl _, fun _ => rfl⟩
  | up h e r ih =>
    intro m
    rcases List.mem_cons.mp m with rfl | m
    · exact ⟨_, .up h e r, Nat.le_refl _, fun _ => rfl⟩
    · obtain ⟨l', a, b, c⟩ := ih m
      refine ⟨l', a, ?_, fun z => ?_⟩
      · rw [List.length_cons]
        omega
      · rw [List.length_cons] at z
        omega
end
end Own

set_option Elab.async false
set_option linter.all false
set_option maxRecDepth 100000
set_option maxHeartbeats 4000000
namespace Own
open PySem PySem.Spec PyProof.Rows L2
/-- xs == [], whatever the items are -/
def rEqNil (K : PySem.W.Frag) (neg : Bool) : R2 := fun x y H Q => ∃ (p q : Addr) (xs : List V), x = .ref p ∧ y = .ref q ∧ SqL K H p xs ∧ SqL K H q [] ∧ Q (.bl (if neg then !xs.isEmpty else xs.isEmpty)) H
section
variable {X : Cx}
theorem op_eqNil (hu : X.A.units + 64 < cLine) : OpR X (compareOp .Eq) (rEqNil X.K false) := by
  intro pins s σ H x y v u Q I rx ry h
  obtain ⟨p, q, xs, rfl, rfl, h1, h2, k⟩ := h
  cases rx; cases ry
  obtain ⟨its, r1, ⟨o1, n1, ho1, hc1, _, hd1⟩, _⟩ := I.list h1
  obtain ⟨its2, r2, ⟨o2, n2, ho2, hc2, _, hd2⟩, _⟩ := I.list h2
  have l1 := r1.length
  have l2 := r2.length
  have e2 : its2 = [] := List.length_eq_zero_iff.mp (by simpa using l2.symm)
  subst e2
  rw [if_neg (by simp)] at k
  by_cases e : xs = []
  · subst e
    have e1 : its = [] := List.length_eq_zero_iff.mp (by simpa using l1.symm)
    subst e1
    refine SeqAt.eq_listAt (e := fun _ => true) ⟨o1, ho1, hc1, _, hd1⟩ ⟨o2, ho2, hc2, _, hd2⟩ rfl (by omega) (fun j h1 h2 => absurd h1 (by simp)) ⟨.bl true, H, I, rfl, k⟩
  · have ne : its ≠ [] := fun z => e (List.length_eq_zero_iff.mp (by rw [l1, z]; rfl))
    have ie : xs.isEmpty = false := by cases xs with
      | nil => exact absurd rfl e
      | cons _ _ => rfl
    rw [ie] at k
    have hz : (its.toArray.size != ([] : List Value).toArray.size) = true := by
      cases its with
      | nil => exact absurd rfl ne
      | cons _ _ => simp
    exact SeqAt.eq_list_lengthsAt ⟨o1, ho1, hc1, _, hd1⟩ ⟨o2, ho2, hc2, _, hd2⟩ hz (by omega) ⟨.bl false, H, I, rfl, k⟩
end
end Own

set_option Elab.async false
set_option linter.all false
set_option maxRecDepth 100000
set_option maxHeartbeats 4000000

set_option Elab.async false
set_option linter.all false
set_option maxRecDepth 100000
set_option maxHeartbeats 4000000

set_option Elab.async false
set_option linter.all false
set_option maxRecDepth 100000
set_option maxHeartbeats 4000000

set_option Elab.async false
set_option linter.all false
set_option maxRecDepth 100000
set_option maxHeartbeats 4000000
namespace Own
open PySem PySem.Spec PyProof.Rows L2
/-- room for k frames, and for 16 steps of L2's own reckoning below them -/
structure RT (k : Nat) (A : Around) : Prop where
  hd : A.handled = none
  dp : A.depth + k + 60 < recursionLimit
  un : A.units + 6 * k + 500 < cLine
theorem RT.mono {j k : Nat} {A : Around} (r : RT k A) (h : j ≤ k) : RT j A := ⟨r.hd, by have := r.dp; omega, by have := r.un; omega⟩
theorem RT.deeper {k : Nat} {A : Around} (r : RT (k + 1) A) (env : Env) : RT k (A.deeper env) :=
  ⟨r.hd, by have := r.dp; show A.depth + 1 + k + 60 < _; omega, by have := r.un; show A.units + 3 + 6 * k + 500 < _; omega⟩
theorem RT.leaf {k : Nat} {A : Around} (r : RT k A) : Room 16 A := ⟨r.hd, by have := r.dp; omega, by have := r.un; omega⟩
structure FnT (P : Program) (w : World) (K : PySem.W.Frag) (mg : Str → Option Value) (base : Heap) (CX : CXT) (k : Nat) (f : Addr) (fd : FuncData) (ps : List Str) (sp : SpS) : Prop where
  len : ∀ outer s vs H Q E, sp outer s vs H Q E → vs.length = ps.length
  run : ∀ (A : Around) (outer : List Env) (s : Shared) (H : Hp) (args : Args) (us : List Value) (vs : List V) (Q : VK) (E : XK), RT k A → Env0 P w K mg base A outer s H → BindsTo s fd args (ps.zip us) → Vals vs us → sp outer s vs H Q E →
    codeAny (model P w) A (.call (.ref f) args) (CR CX outer P w H s Q E) s
theorem FnT.mono {P : Program} {w : World} {K : PySem.W.Frag} {mg : Str → Option Value} {base : Heap} {CX : CXT} {j k : Nat} {f : Addr} {fd : FuncData} {ps : List Str} {sp : SpS} (F : FnT P w K mg base CX j f fd ps sp) (h : j ≤ k) : FnT P w K mg base CX k f fd ps sp :=
  ⟨F.len, fun A outer s H args us vs Q E hr => F.run A outer s H args us vs Q E (hr.mono h)⟩
structure CbT (P : Program) (w : World) (K : PySem.W.Frag) (mg : Str → Option Value) (base : Heap) (CX : CXT) (k : Nat) (f : Addr) (B : CB) (ps fr : List Str) (sp : SpC) : Prop where
  fn : ∀ H h, HOk P w H h → H f = some B.O → PySem.W.FnAt f h
  ni : (∀ xs, B.O ≠ .lst xs) ∧ (∀ C dx fs, B.O ≠ .ins C dx fs) ∧ (∀ kv, B.O ≠ .dK kv) ∧ ∀ ps, B.O ≠ .tbl ps
  len : ∀ outer s ws vs H Q E, sp outer s ws vs H Q E → vs.length = ps.length
  run : ∀ (A : Around) (outer : List Env) (s : Shared) (H : Hp) (us : List Value) (vs : List V) (ws : List (Option V)) (Q : VK) (E : XK), RT k A → Env0 P w K mg base A outer s H → H f = some B.O → H B.c = some (CodeH B.c B.q B.P) →
    NdefX.CellsAt B.cl fr ws s.heap H → Vals vs us → sp outer s ws vs H Q E → codeAny (model P w) A (.call (.ref f) ⟨us, []⟩) (CR CX outer P w H s Q E) s
section
variable {CX : CXT} {P : Program} {w : World} {K : PySem.W.Frag} {mg : Str → Option Value} {base : Heap} {N ps fr : List Str} {F : NdefX.NF} {f : Addr} {k j : Nat} {sp : SpC} {B : CB} {e : Expr}
theorem CbT.mono (o : CbT P w K mg base CX j f B ps fr sp) (h : j ≤ k) : CbT P w K mg base CX k f B ps fr sp := ⟨o.fn, o.ni, o.len, fun A outer s H us vs ws Q E hr => o.run A outer s H us vs ws Q E (hr.mono h)⟩
end
end Own
namespace Own
open PySem PySem.Spec PyProof.Rows L2
section
variable {X : Cx}
theorem op_neNil (hu : X.A.units + 64 < cLine) : OpR X (compareOp .NotEq) (rEqNil X.K true) := by
  intro pins s σ H x y v u Q I rx ry h
  obtain ⟨p, q, xs, rfl, rfl, h1, h2, k⟩ := h
  cases rx; cases ry
  obtain ⟨its, r1, ⟨o1, n1, ho1, hc1, _, hd1⟩, _⟩ := I.list h1
  obtain ⟨its2, r2, ⟨o2, n2, ho2, hc2, _, hd2⟩, _⟩ := I.list h2
  have l1 := r1.length
  have l2 := r2.length
  have e2 : its2 = [] := List.length_eq_zero_iff.mp (by simpa using l2.symm)
  subst e2
  rw [if_pos rfl] at k
  by_cases e : xs = []
  · subst e
    have e1 : its = [] := List.length_eq_zero_iff.mp (by simpa using l1.symm)
    subst e1
    have z := SeqAt.RcNeAt.lists (A := X.A) (s := s) (l := p) (b := q) (items := ([] : List Value).toArray) (items2 := ([] : List Value).toArray) (e := fun _ => true) ⟨o1, ho1, hc1, _, hd1⟩ ⟨o2, ho2, hc2, _, hd2⟩ rfl (by omega) (fun j h1 h2 => absurd h1 (by simp))
    exact PySem.EqBoolInt.of_rcne z ⟨.bl false, H, I, rfl, k⟩
  · have ne : its ≠ [] := fun z => e (List.length_eq_zero_iff.mp (by rw [l1, z]; rfl))
    have ie : xs.isEmpty = false := by cases xs with
      | nil => exact absurd rfl e
      | cons _ _ => rfl
    rw [ie] at k
    have hz : (its.toArray.size != ([] : List Value).toArray.size) = true := by
      cases its with
      | nil => exact absurd rfl ne
      | cons _ _ => simp
    have z := SeqAt.RcNeAt.lists_lengths (A := X.A) (s := s) (l := p) (b := q) (items := its.toArray) (items2 := ([] : List Value).toArray) ⟨o1, ho1, hc1, _, hd1⟩ ⟨o2, ho2, hc2, _, hd2⟩ hz (by omega)
    exact PySem.EqBoolInt.of_rcne z ⟨.bl true, H, I, rfl, k⟩
end
end Own

set_option Elab.async false
set_option linter.all false
set_option maxRecDepth 100000
set_option maxHeartbeats 4000000

set_option Elab.async false
set_option linter.all false
set_option maxRecDepth 100000
set_option maxHeartbeats 4000000
namespace Own
open PySem PySem.Spec PyProof.Rows L2
section
variable {K : PySem.W.Frag} {w : World} {d : Addr} {α : Type} {kvs : List (Str × α)} {R : α → V → Prop}
theorem CDict.isin (C : CDict K w d kvs R) (x : Str) : ∃ r, PySem.W.nsIn K d x = some r ∧ r.isSome = decide (x ∈ kvs.map (·.1)) := by
  by_cases h : x ∈ kvs.map (·.1)
  · obtain ⟨p, mp, rfl⟩ := List.mem_map.mp h
    obtain ⟨u, v, e, _⟩ := C.has p.1 p.2 mp
    exact ⟨some u, e, (decide_eq_true h).symm⟩
  · exact ⟨none, C.no x h, (decide_eq_false h).symm⟩
theorem CDict.dct (C : CDict K w d kvs R) {x : Str} {r : α} (h : (x, r) ∈ kvs) : ∃ v, R r v ∧ KDct K w d x v := by
  obtain ⟨u, v, e, rv, hr⟩ := C.has x r h
  exact ⟨v, hr, C.es, C.n, u, C.kd.at_, C.kd.lit, e, rv⟩
end
theorem ixK_go {K : PySem.W.Frag} {w : World} {d : Addr} {α : Type} {kvs : List (Str × α)} {R : α → V → Prop} (C : CDict K w d kvs R) {x : Str} {r : α} {H : Hp} {Q : VK} (h : (x, r) ∈ kvs) (q : ∀ v, R r v → Q v H) : rIxD K w (.ref d) (.str x) H Q := by
  obtain ⟨v, hr, k⟩ := C.dct h
  exact ⟨d, x, v, rfl, rfl, k, q v hr⟩
theorem walk_zipT {K : PySem.W.Frag} {a b : Addr} {xs ys : List V} (hl : xs.length = ys.length) : Walk (RZ.ItzT K a b) xs.length (fun H => SqT K H a xs ∧ SqT K H b ys) (YPair (fun i => xs[i]?) (fun i => ys[i]?)) where
  goes := fun i H hi q => ⟨xs, ys, xs[i], ys[i]'(hl ▸ hi), q.1, q.2, by simp, by simp⟩
  stops := fun H q => ⟨xs, ys, q.1, q.2, .inl (Nat.le_refl _)⟩
  yields := fun i H v H' _ q y => by
    obtain ⟨T, x, z, e1, e2, e3, e4, e5⟩ := y
    exact ⟨T, x, z, e1, e2, e3, e4 xs q.1, e5 ys q.2⟩
/-- [e for g in .. if c], by an invariant -/
theorem lcW_go {J : It} {n : Nat} {G : Hp → Prop} {Y : Nat → Hp → V → Hp → Prop} (wk : Walk J n G Y) {wi : TI} {g : TG} {tt : TT} {te : TE} {vs : List Nat} {σ : L2.St} {H : Hp} {Q : VK} (Inv : Addr → Nat → List V → Hp → Prop)
    (ht : ∀ R : It → Hp → Prop, R J H → wi σ H R) (hG : ∀ D i acc H', i ≤ n → Inv D i acc H' → H D = none → G H') (h0 : ∀ D, H D = none → Inv D 0 [] (upd H D (.lst [])))
    (hs : ∀ D i acc H' x H2, i < n → H D = none → H' D = some (.lst acc) → acc.length ≤ i → Inv D i acc H' → Y i H' x H2 → g x (wipe σ vs) H2 fun σ2 H3 => wipe σ2 vs = wipe σ vs ∧ tt σ2 H3 fun b H4 => if b = true then te σ2 H4 fun y H5 => ∃ acc', H5 D = some (.lst acc') ∧ acc'.length < sizeLine ∧ LcP Inv D (i + 1) (upd H5 D (.lst (acc' ++ [y]))) else LcP Inv D (i + 1) H4)
    (q : ∀ D acc H', H D = none → H' D = some (.lst acc) → acc.length ≤ n → Inv D n acc H' → Q (.ref D) H') : tLc wi g tt te vs σ H Q := by
  refine ht _ fun D hD => ?_
  refine lc_it wk (fun i H' => LcP Inv D i H') ⟨[], upd_same, Nat.le_refl _, h0 D hD⟩ (fun i H' hi p => ?_) (fun i x H' H2 hi p y => ?_) (fun H' p => ?_)
  · obtain ⟨acc, _, _, p⟩ := p
    exact hG D i acc H' hi p hD
  · obtain ⟨acc, p1, p2, p3⟩ := p
    exact hs D i acc H' x H2 hi hD p1 p2 p3 y
  · obtain ⟨acc, p1, p2, p3⟩ := p
    exact q D acc H' hD p1 p2 p3
/-- [e for a, b in zip(x, y)] over tuples, e changing nothing that stood -/
theorem lcZT_go {K : PySem.W.Frag} {a b : Addr} {xs ys : List V} (hl : xs.length = ys.length) {wi : TI} {g : TG} {te : TE} {vs : List Nat} {σ : L2.St} {H : Hp} {Q : VK} (f : Nat → V) (ht : ∀ R : It → Hp → Prop, R (RZ.ItzT K a b) H → wi σ H R) (ha : SqT K H a xs) (hb : SqT K H b ys) (hz : xs.length ≤ 100000)
    (hs : ∀ i x y T H2 (R : VK), xs[i]? = some x → ys[i]? = some y → Same H H2 → H2 T = some (.tup [x, y]) → (∀ H3, Same H2 H3 → R (f i) H3) → g (.ref T) (wipe σ vs) H2 fun σ2 H3 => wipe σ2 vs = wipe σ vs ∧ te σ2 H3 R)
    (q : ∀ D H', H D = none → Same H H' → H' D = some (.lst ((List.range xs.length).map f)) → Q (.ref D) H') : tLc wi g tYes te vs σ H Q := by
  refine lcW_go (walk_zipT hl) (fun D i acc H' => acc = (List.range i).map f ∧ ExT D H H') ht (fun D i acc H' _ p hD => ⟨sqT_same (ExT.toSame hD p.2) ha, sqT_same (ExT.toSame hD p.2) hb⟩) (fun D hD => ⟨rfl, exT_upd (.refl D H)⟩) (fun D i acc H' x H2 hi hD rD la p y => ?_) (fun D acc H' hD rD la p => ?_)
  · obtain ⟨rfl, v⟩ := p
    obtain ⟨T, x1, y1, rfl, nT, rfl, e1, e2⟩ := y
    have sT := same_new (o := .tup [x1, y1]) nT
    have sH := (ExT.toSame hD v).trans sT
    have rD2 := sT _ _ rD
    refine hs i x1 y1 T _ (fun y H5 => ∃ acc', H5 D = some (.lst acc') ∧ acc'.length < sizeLine ∧ LcP (fun D i acc H' => acc = (List.range i).map f ∧ ExT D H H') D (i + 1) (upd H5 D (.lst (acc' ++ [y])))) e1 e2 sH upd_same (fun H3 s3 => ⟨_, s3 _ _ rD2, ?_, _, upd_same, ?_, ?_, ?_⟩)
    · rw [List.length_map, List.length_range]
      exact Nat.lt_of_lt_of_le hi (Nat.le_trans hz (by decide))
    · simp
    · rw [List.range_succ, List.map_append]
      rfl
    · exact exT_upd (v.trans ((Same.exT (sT.trans s3))))
  · obtain ⟨rfl, v⟩ := p
    exact q D H' hD (ExT.toSame hD v) rD
end Own

set_option Elab.async false
set_option linter.all false
set_option maxRecDepth 100000
set_option maxHeartbeats 4000000

set_option Elab.async false
set_option linter.all false
set_option maxRecDepth 100000
set_option maxHeartbeats 4000000

set_option Elab.async false
set_option linter.all false
set_option maxRecDepth 100000
set_option maxHeartbeats 4000000
namespace Own
open PySem PySem.Spec PyProof.Rows L2
theorem way_in (m : Nat) (x : Int) (k : Nat) : way m x k ≤ m := by
  have hi : SetTable.bits x % (m + 1) ≤ m := Nat.le_of_lt_succ (Nat.mod_lt _ (Nat.succ_pos _))
  have q := nth_in (m := m) k (runAt m (SetTable.bits x % (m + 1)) (SetTable.bits x)) (by
    have r := runEnd_bd hi
    show SetTable.bits x % (m + 1) + (SetTable.runEnd m (SetTable.bits x % (m + 1)) - SetTable.bits x % (m + 1)) ≤ m
    omega)
  exact Nat.le_trans (Nat.le_add_right _ _) q
theorem Msk.ge {m : Nat} (h : Msk m) : 7 ≤ m := by
  rcases h with rfl | rfl | rfl | rfl | rfl | rfl | rfl <;> decide
theorem has_of {xs : Array Nat} (r : Ris xs.toList) {j : Nat} : SetTable.has xs j = true ↔ j ∈ xs.toList := by
  obtain ⟨c1, c2, c3⟩ := below_cut r j
  unfold SetTable.has
  rw [beq_iff_eq, ← Array.getElem?_toList]
  constructor
  · exact fun e => List.mem_of_getElem? e
  · intro m
    obtain ⟨i, e⟩ := List.mem_iff_getElem?.mp m
    have h1 : ¬ i < SetTable.below xs j := fun z => absurd (c2 i j e z) (Nat.lt_irrefl _)
    have h2 : ¬ SetTable.below xs j < i := fun z => by
      have lt := (List.getElem?_eq_some_iff.mp e).1
      have e2 : xs.toList[SetTable.below xs j]? = some _ := List.getElem?_eq_getElem (Nat.lt_trans z lt)
      have a1 := c3 _ _ e2 (Nat.le_refl _)
      have a2 := ris_lt r e2 e z
      omega
    rw [show SetTable.below xs j = i from by omega]
    exact e
section
variable {t : SetTable} {hs : List Int}
/-- one more, at a free or a removed place of its way -/
theorem TabD.put (T : TabD t hs) {x : Int} {K : Nat} (nk : way t.mask x K ∉ t.place.toList) (hb : ∀ k, k < K → Occ t (way t.mask x k)) :
    (t.put (way t.mask x K)).2 = SetTable.below t.place (way t.mask x K) ∧ SetTable.below t.place (way t.mask x K) ≤ hs.length ∧
    TabD (t.put (way t.mask x K)).1 (hs.take (SetTable.below t.place (way t.mask x K)) ++ x :: hs.drop (SetTable.below t.place (way t.mask x K))) ∧
    (t.put (way t.mask x K)).1.mask = t.mask ∧ (t.put (way t.mask x K)).1.led = t.led ∧ (t.put (way t.mask x K)).1.fill = t.fill + (if way t.mask x K ∈ t.dummies.toList then 0 else 1) := by
  have hjm : way t.mask x K ≤ t.mask := way_in _ _ _
  obtain ⟨j, hj⟩ : ∃ j, j = way t.mask x K := ⟨_, rfl⟩
  rw [← hj] at nk hjm ⊢
  obtain ⟨c1, _, _⟩ := below_cut T.ris j
  have pl : SetTable.below t.place j ≤ t.place.toList.length := by rw [Array.length_toList]; exact c1
  have ph : SetTable.below t.place j ≤ hs.length := by rw [← T.sz]; exact pl
  have np : t.place[SetTable.below t.place j]? ≠ some j := fun e => nk (List.mem_of_getElem? (by rw [Array.getElem?_toList]; exact e))
  obtain ⟨ds, eds⟩ : ∃ ds, ds = (if SetTable.has t.dummies j then SetTable.eraseAt t.dummies (SetTable.below t.dummies j) else t.dummies) := ⟨_, rfl⟩
  have ep : (t.put j).1 = { t with place := SetTable.insertAt t.place (SetTable.below t.place j) j, dummies := ds } := by rw [eds]; rfl
  have dm : (∀ y, y ∈ ds.toList ↔ y ∈ t.dummies.toList ∧ y ≠ j) ∧ Ris ds.toList ∧ ds.size + (if j ∈ t.dummies.toList then 1 else 0) = t.dummies.size := by
    by_cases hd : j ∈ t.dummies.toList
    · rw [if_pos hd]
      have hd2 := (has_of T.rid).mpr hd
      rw [if_pos hd2] at eds
      subst eds
      have at_ : t.dummies.toList[SetTable.below t.dummies j]? = some j := by
        unfold SetTable.has at hd2
        rw [beq_iff_eq, ← Array.getElem?_toList] at hd2
        exact hd2
      refine ⟨fun y => ?_, ris_erase T.rid _, ?_⟩
      · rw [erase_list]
        constructor
        · exact fun m => ⟨List.mem_of_mem_eraseIdx m, fun z => rises_not T.rid at_ (z ▸ m)⟩
        · exact fun m => mem_eraseIdx_of at_ m.1 m.2
      · have z := List.length_eraseIdx_of_lt (List.getElem?_eq_some_iff.mp at_).1
        have lt := (List.getElem?_eq_some_iff.mp at_).1
        rw [← erase_list, Array.length_toList, Array.length_toList] at z
        rw [Array.length_toList] at lt
        omega
    · rw [if_neg hd]
      rw [if_neg (fun z => hd ((has_of T.rid).mp z))] at eds
      subst eds
      exact ⟨fun y => ⟨fun m => ⟨m, fun z => hd (z ▸ m)⟩, fun m => m.1⟩, T.rid, rfl⟩
  obtain ⟨dm1, dm2, dm3⟩ := dm
  have pm : ∀ y, y ∈ (t.put j).1.place.toList ↔ y = j ∨ y ∈ t.place.toList := fun y => by rw [ep]; exact insert_mem
  have up : ∀ {y : Nat}, Occ t y → Occ (t.put j).1 y := fun {y} o => by
    by_cases e : y = j
    · exact .inl ((pm y).mpr (.inl e))
    · rcases o with o | o
      · exact .inl ((pm y).mpr (.inr o))
      · refine .inr ?_
        rw [ep]
        exact (dm1 y).mpr ⟨o, e⟩
  have es : (t.put j).1.place.toList = t.place.toList.take (SetTable.below t.place j) ++ j :: t.place.toList.drop (SetTable.below t.place j) := SetTable.toList_insertAt _ _ _
  refine ⟨rfl, ph, ⟨ris_insert T.ris np, ?_, fun y my mp => ?_, ?_, T.mok, fun y o => ?_, fun i h' j' h1 h2 => ?_⟩, rfl, rfl, ?_⟩
  · rw [ep]
    exact dm2
  · rw [ep] at my
    obtain ⟨m1, m2⟩ := (dm1 y).mp my
    rcases (pm y).mp mp with e | e
    · exact m2 e
    · exact T.dis y m1 e
  · rw [es, len_ins _ pl, len_ins _ ph, T.sz]
  · rcases o with o | o
    · rcases (pm y).mp o with e | e
      · rw [e]
        exact hjm
      · exact T.bd y (.inl e)
    · rw [ep] at o
      exact T.bd y (.inr ((dm1 y).mp o).1)
  · rw [tins_get hs ph] at h1
    rw [es, tins_get _ pl] at h2
    show ∃ k, way t.mask h' k = j' ∧ ∀ k', k' < k → Occ (t.put j).1 (way t.mask h' k')
    by_cases c : i < SetTable.below t.place j
    · rw [if_pos c] at h1 h2
      obtain ⟨k, e, z⟩ := T.reach i h' j' h1 h2
      exact ⟨k, e, fun k' hk' => up (z k' hk')⟩
    · rw [if_neg c] at h1 h2
      by_cases d : i = SetTable.below t.place j
      · rw [if_pos d] at h1 h2
        cases h1
        cases h2
        exact ⟨K, hj.symm, fun k' hk' => up (hb k' hk')⟩
      · rw [if_neg d] at h1 h2
        obtain ⟨k, e, z⟩ := T.reach (i - 1) h' j' h1 h2
        exact ⟨k, e, fun k' hk' => up (z k' hk')⟩
  · have e1 : (t.put j).1.place.size = t.place.size + 1 := by rw [← Array.length_toList, es, len_ins _ pl, Array.length_toList]
    show (t.put j).1.place.size + (t.put j).1.dummies.size = t.place.size + t.dummies.size + _
    rw [e1, show (t.put j).1.dummies = ds from by rw [ep]]
    split at dm3 <;> rename_i c <;> simp only [c, if_true, if_false] <;> omega
end
/-- after these have been laid: the k-th stands at the k-th of ps -/
structure Lays (m : Nat) (done : List Int) (owner : Array (Option Nat)) (ps : List Nat) : Prop where
  sz : owner.size = m + 1
  len : ps.length = done.length
  bd : ∀ j ∈ ps, j ≤ m
  at_ : ∀ (k j : Nat), ps[k]? = some j → oAt owner j = some k
  un : ∀ j, j ≤ m → j ∉ ps → oAt owner j = none
  way_ : ∀ (k : Nat) (x : Int) (j : Nat), done[k]? = some x → ps[k]? = some j → ∃ K, way m x K = j ∧ ∀ k', k' < K → way m x k' ∈ ps
theorem Lays.nodup {m : Nat} {done : List Int} {owner : Array (Option Nat)} {ps : List Nat} (W : Lays m done owner ps) : ps.Nodup := by
  refine List.pairwise_iff_getElem.mpr fun i k hi hk lt e => ?_
  have a1 := W.at_ i _ (List.getElem?_eq_getElem hi)
  have a2 := W.at_ k _ (List.getElem?_eq_getElem hk)
  rw [e, a2] at a1
  have := Option.some.inj a1
  omega
theorem Lays.step {m : Nat} (hm : Msk m) {done : List Int} {owner : Array (Option Nat)} {ps : List Nat} (W : Lays m done owner ps) (hl : done.length ≤ m) (x : Int) :
    ∃ j, SetTable.layClean.free m owner (SetTable.turns m) (SetTable.bits x % (m + 1)) (SetTable.bits x) = some j ∧ Lays m (done ++ [x]) (owner.setIfInBounds j (some done.length)) (ps ++ [j]) := by
  obtain ⟨j0, h0, n0⟩ := st_missing ps (m + 1) (by rw [W.len]; omega)
  have e0 := W.un j0 (Nat.le_of_lt_succ h0) n0
  obtain ⟨n, hn, en⟩ := hm.runs x (Nat.le_of_lt_succ h0)
  have wn : way m x (off m (SetTable.bits x % (m + 1)) (SetTable.bits x) n) = j0 := by
    show (nth m (runAt m (SetTable.bits x % (m + 1)) (SetTable.bits x)) (off m (SetTable.bits x % (m + 1)) (SetTable.bits x) n)).j = j0
    rw [nth_off, itL_run]
    exact en
  obtain ⟨K, k1, k2, k3⟩ := st_least (p := fun k => oAt owner (way m x k) = none) _ (by rw [wn]; exact e0)
  have hfree := free_spec m owner (SetTable.turns m) n _ (SetTable.bits x) K (by unfold SetTable.turns; omega) k1 (fun k hk => by
    cases z : oAt owner (way m x k) with
    | none => exact absurd z (k3 k hk)
    | some y => rfl) (by rw [show oAt owner (nth m (runAt m (SetTable.bits x % (m + 1)) (SetTable.bits x)) K).j = none from k2]; rfl)
  have jm := way_in m x K
  have js : way m x K < owner.size := by rw [W.sz]; omega
  have jn : way m x K ∉ ps := fun z => by
    obtain ⟨k, ek⟩ := List.mem_iff_getElem?.mp z
    have a := W.at_ k _ ek
    rw [show oAt owner (way m x K) = none from k2] at a
    cases a
  refine ⟨_, hfree, ?_, ?_, ?_, ?_, ?_, ?_⟩
  · rw [Array.size_setIfInBounds]
    exact W.sz
  · rw [List.length_append, List.length_append, W.len]
    rfl
  · intro j mj
    rcases List.mem_append.mp mj with z | z
    · exact W.bd j z
    · rw [List.mem_singleton.mp z]
      exact jm
  · intro k j e
    by_cases c : k < ps.length
    · rw [List.getElem?_append_left c] at e
      have ne : j ≠ way m x K := fun z => jn (z ▸ List.mem_of_getElem? e)
      rw [oAt_set_ne _ ne]
      exact W.at_ k j e
    · rw [List.getElem?_append_right (by omega)] at e
      have c2 := (List.getElem?_eq_some_iff.mp e).1
      have c3 : k = ps.length := by
        simp only [List.length_singleton] at c2
        omega
      subst c3
      rw [Nat.sub_self] at e
      cases e
      rw [W.len]
      exact oAt_set_self _ js
  · intro j hj nj
    rw [List.mem_append, not_or] at nj
    have ne : j ≠ way m x K := fun z => nj.2 (List.mem_singleton.mpr z)
    rw [oAt_set_ne _ ne]
    exact W.un j hj nj.1
  · intro k y j e1 e2
    by_cases c : k < ps.length
    · rw [List.getElem?_append_left c] at e2
      rw [List.getElem?_append_left (by rw [← W.len]; exact c)] at e1
      obtain ⟨Q, q1, q2⟩ := W.way_ k y j e1 e2
      exact ⟨Q, q1, fun k' hk' => List.mem_append_left _ (q2 k' hk')⟩
    · rw [List.getElem?_append_right (by omega)] at e2
      have c2 := (List.getElem?_eq_some_iff.mp e2).1
      have c3 : k = ps.length := by
        simp only [List.length_singleton] at c2
        omega
      subst c3
      rw [Nat.sub_self] at e2
      cases e2
      rw [W.len, List.getElem?_append_right (Nat.le_refl _), Nat.sub_self] at e1
      cases e1
      refine ⟨K, rfl, fun k' hk' => List.mem_append_left _ ?_⟩
      by_cases z : way m x k' ∈ ps
      · exact z
      · exact absurd (W.un _ (way_in m x k') z) (k3 k' hk')
end Own

set_option Elab.async false
set_option linter.all false
set_option maxRecDepth 100000
set_option maxHeartbeats 4000000
namespace Own
open PySem PySem.Spec PyProof.Rows L2
section
variable {P : Program} {w : World} {A : Around} {E : Value → Shared → Prop} {s : Shared} {h h' : Heap} {a b c : Addr} {k k' : List Key} {D D' : SD3} {L L' : List (List Key × Addr)}
theorem PSet.count (S : PSet P w h a L D) : D.1.size = L.length := by rw [← Array.length_toList, S.rows, List.length_map]
end
end Own

set_option Elab.async false
set_option linter.all false
set_option maxRecDepth 100000
set_option maxHeartbeats 4000000

set_option Elab.async false
set_option linter.all false
set_option maxRecDepth 100000
set_option maxHeartbeats 4000000
namespace Own
open PySem PySem.Spec PyProof.Rows L2
instance (a b : PI) : Decidable (LeP a b) := by unfold LeP; infer_instance
end Own

set_option Elab.async false
set_option linter.all false
set_option maxRecDepth 100000
set_option maxHeartbeats 4000000

set_option Elab.async false
set_option linter.all false
set_option maxRecDepth 100000
set_option maxHeartbeats 4000000

set_option Elab.async false
set_option linter.all false
set_option maxRecDepth 100000
set_option maxHeartbeats 4000000

set_option Elab.async false
set_option linter.all false
set_option maxRecDepth 100000
set_option maxHeartbeats 4000000
namespace Own
open PySem PySem.Spec PyProof.Rows L2
theorem tl_space : TL.tl (" " : Str) = [32] := by decide +kernel
theorem len_app2 (x y : Str) : (x ++ y).length = x.length + y.length := by rw [TL.len_tl, TL.len_tl x, TL.len_tl y, TL.tl_append, List.length_append]
end Own

set_option Elab.async false
set_option linter.all false
set_option maxRecDepth 100000
set_option maxHeartbeats 4000000

set_option Elab.async false
set_option linter.all false
set_option maxRecDepth 100000
set_option maxHeartbeats 4000000

set_option Elab.async false
set_option linter.all false
set_option maxRecDepth 100000
set_option maxHeartbeats 4000000

set_option Elab.async false
set_option linter.all false
set_option maxRecDepth 100000
set_option maxHeartbeats 4000000

set_option Elab.async false
set_option linter.all false
set_option maxRecDepth 100000
set_option maxHeartbeats 4000000

set_option Elab.async false
set_option linter.all false
set_option maxRecDepth 100000
set_option maxHeartbeats 4000000
namespace Own
open PySem PySem.Spec PyProof.Rows L2
section
variable {P : Program} {w : World} {A : Around} {E : Value → Shared → Prop} {s : Shared} {h h' : Heap} {a b c r o : Addr} {k k' : List Key} {D D' D1 D2 : SD3} {L L' L1 L2 Lw : Rws} {n : Nat}
theorem PSet.push (S : PSet P w h a L D) (o : Obj) : PSet P w (h.push o) a L D := S.keep (fun _ e => Heap.get?_push_of_some _ e) fun p mp => (S.here p mp).keep fun _ _ e => Heap.get?_push_of_some _ e
end
end Own

set_option Elab.async false
set_option linter.all false
set_option maxRecDepth 100000
set_option maxHeartbeats 4000000

set_option Elab.async false
set_option linter.all false
set_option maxRecDepth 100000
set_option maxHeartbeats 4000000

set_option Elab.async false
set_option linter.all false
set_option maxRecDepth 100000
set_option maxHeartbeats 4000000

set_option Elab.async false
set_option linter.all false
set_option maxRecDepth 100000
set_option maxHeartbeats 4000000
namespace Own
open PySem PySem.Spec PyProof.Rows L2
section
variable {X : Cx} {s : Shared} {H : Hp} {scope : Scope} {cenv : Env} {fp : List Addr}
theorem ty_lstP {K : PySem.W.Frag} {H : Hp} {a : Addr} {xs : List V} (h : SqL K H a xs) : TyX K H (.ref a) (.type "list") := by
  rcases h with (h | ⟨o, h⟩) | ⟨o, its, n, h1, h2, _⟩
  · exact .base (.lst h)
  · exact .base (.frz h)
  · exact .kList h1 h2
end
end Own

set_option Elab.async false
set_option linter.all false
set_option maxRecDepth 100000
set_option maxHeartbeats 4000000

set_option Elab.async false
set_option linter.all false
set_option maxRecDepth 100000
set_option maxHeartbeats 4000000
namespace Own
open PySem PySem.Spec PyProof.Rows L2
theorem ty_tupQ {K : PySem.W.Frag} {H : Hp} {a : Addr} {xs : List V} (h : SqT K H a xs) : TyX K H (.ref a) (.type "tuple") := by
  rcases h with (h | ⟨o, h⟩) | ⟨o, its, n, h1, h2, _⟩
  · exact .base (.tup h)
  · exact .fTuple h
  · exact .kTuple h1 h2
theorem dp_ty {K : PySem.W.Frag} {H : Hp} {v : V} {d : PyData} (h : Dp K H v d) : TyX K H v (.type (tyD d)) := by
  cases h with
  | non => exact .base .non
  | bl b => exact .base (.bl b)
  | int i => exact .base (.int i)
  | str x => exact .base (.str x)
  | lst h _ => exact ty_lstP h
  | tup h _ => exact ty_tupQ h
def isStrD : PyData → Bool
  | .str _ => true
  | _ => false
end Own

set_option Elab.async false
set_option linter.all false
set_option maxRecDepth 100000
set_option maxHeartbeats 4000000
namespace Own
open PySem PySem.Spec PyProof.Rows L2
theorem fold_cat (l : List (Array Nat)) : ∀ a : Array Nat, (l.foldl (· ++ ·) a).toList = a.toList ++ (l.map (·.toList)).flatten := by
  induction l with
  | nil => intro a; simp
  | cons x l ih => intro a; rw [List.foldl_cons, ih]; simp
theorem tl_mulS (z : Str) (n : Nat) : TL.tl (mulS z n) = (List.replicate n (TL.tl z)).flatten := by
  show ((List.replicate n z.cps).foldl (· ++ ·) #[]).toList = _
  rw [fold_cat]
  simp [TL.tl]
theorem len_mulS (z : Str) (n : Nat) : (mulS z n).length = n * z.length := by
  rw [TL.len_tl, tl_mulS, TL.len_tl z]
  induction n with
  | zero => simp
  | succ n ih => rw [List.replicate_succ, List.flatten_cons, List.length_append, ih, Nat.succ_mul, Nat.add_comm]
section
variable {X : Cx}
def rMulS : R2 := fun x y H Q => ∃ (z : Str) (n : Nat), x = .str z ∧ y = .int n ∧ z.length ≠ 0 ∧ z.length ≤ 1000 ∧ n ≤ 1000 ∧ Q (.str (mulS z n)) H
theorem op_mulS : OpR X (binaryOp .Mult) rMulS := by
  rintro pins s σ H x y v u Q I rx ry ⟨z, n, rfl, rfl, nz, lz, ln, q⟩
  obtain ⟨t, rfl⟩ := rx
  obtain ⟨t2, rfl⟩ := ry
  have lm : z.length * n ≤ 1000000 := Nat.mul_le_mul lz ln
  refine PySem.P.mul_str ?_ (fun h1 _ => ?_) (fun _ _ => ?_) ?_
  · rw [decide_eq_false (show ¬ (n : Int) < -(2 ^ 63) by omega), decide_eq_false (show ¬ (n : Int) ≥ 2 ^ 63 by omega)]
    rfl
  · intro h2
    have h3 : (2 ^ 63 - 1 : Int) / 1000 ≤ (2 ^ 63 - 1) / (n : Int) := by
      refine (Int.le_ediv_iff_mul_le (by omega)).mpr ?_
      have h4 : (2 ^ 63 - 1 : Int) / 1000 * (n : Int) ≤ (2 ^ 63 - 1 : Int) / 1000 * 1000 := Int.mul_le_mul_of_nonneg_left (by omega) (by decide)
      exact Int.le_trans h4 (by decide)
    have h5 : (1000 : Int) ≤ (2 ^ 63 - 1) / 1000 := by decide
    omega
  · have e : ((n : Int)).toNat = n := Int.toNat_natCast n
    rw [e]
    show decide (z.length * n > sizeLine) = false
    have := sizeLine_eq
    exact decide_eq_false (by omega)
  · have e : ((n : Int)).toNat = n := Int.toNat_natCast n
    rw [e]
    by_cases h0 : (n : Int) < 1
    · rw [if_pos h0]
      obtain rfl : n = 0 := by omega
      exact ⟨by decide, .str _, H, I.tok _, ⟨_, rfl⟩, q⟩
    · rw [if_neg h0]
      by_cases h1 : ((n : Int) == 1 || z.length == 0) = true
      · rw [if_pos h1]
        obtain rfl : n = 1 := by simp at h1; omega
        have e1 : mulS z 1 = z := by simp [mulS]
        rw [e1] at q
        exact ⟨.str z, H, I, ⟨t, rfl⟩, q⟩
      · rw [if_neg h1]
        refine ⟨?_, .str _, H, I.tok _, ⟨_, rfl⟩, q⟩
        show (mulS z n).length ≤ _
        rw [len_mulS]
        have := sizeLine_eq
        rw [Nat.mul_comm]
        omega
end
section
variable {prog : Program} {w : World} {A : Around} {E : Value → Shared → Prop} {s : Shared}
/-- the two cells of enumerate(v), told of the start -/
def EnumNew (o : Obj) (k : Int) (s : Shared) (Q : Value → Shared → Prop) : Prop := ∀ h', IsEnum h' (s.heap.objs.size + 1) s.heap.objs.size k .none → h'.get? s.heap.objs.size = some o → h'.objs.size = s.heap.objs.size + 2 → (∀ b u, s.heap.get? b = some u → h'.get? b = some u) → Q (.ref (s.heap.objs.size + 1)) { s with heap := h' }
end
/-- a tuple or a list -/
def SqB (K : PySem.W.Frag) : Bool → Addr → Hp → List V → Prop
  | true, a, H, xs => SqT K H a xs
  | false, a, H, xs => SqL K H a xs
/-- its iterator -/
def itB : Bool → Heap → Addr → Addr → Nat → Prop
  | true, h, it, a, i => h.IsTupleIter it a i
  | false, h, it, a, i => h.IsListIter it a i
theorem itB_here {tp : Bool} {h : Heap} {it a : Addr} {i : Nat} (x : itB tp h it a i) : ∃ o, h.get? it = some o ∧ ∀ v, o.data ≠ .cell v := by
  cases tp <;> (obtain ⟨o, ho, _, hd⟩ := x; exact ⟨o, ho, fun v q => by rw [hd] at q; cases q⟩)
theorem itB_keep {tp : Bool} {h h' : Heap} {it a : Addr} {i : Nat} (x : itB tp h it a i) (k : ∀ o, h.get? it = some o → h'.get? it = some o) : itB tp h' it a i := by
  cases tp <;> (obtain ⟨o, ho, r⟩ := x; exact ⟨o, k o ho, r⟩)
section
variable {X : Cx} {pins : List (Addr × Obj)} {σ : L2.St} {H : Hp} {s : Shared}
theorem sqB_draws {tp : Bool} {it a : Addr} {i : Nat} {xs : List V} (hc : X.calm = true) (I : Inv X pins σ H s) (hq : SqB X.K tp a H xs) (hi : itB tp s.heap it a i) (ne : a ≠ it) :
    ∃ (its : List Value) (St : Nat → Heap → Prop), Vals xs its ∧ Draws X.prog X.w X.A.in1 it [it, a] its.toArray.size (fun i v => its.toArray[i]? = some v) St ∧ St i s.heap ∧ ∀ j h, St j h → itB tp h it a j := by
  have hh : X.A.in1.handled = none := I.ok.hd hc
  cases tp with
  | true =>
    obtain ⟨its, rv, p, hz⟩ := I.tuple hq
    exact ⟨its, _, rv, Draws.tuple hh it a ne its.toArray, ⟨hi, p⟩, fun j h st => st.1⟩
  | false =>
    obtain ⟨its, rv, p, hz⟩ := I.list hq
    exact ⟨its, _, rv, Draws.list hh it a ne its.toArray, ⟨hi, p.isList⟩, fun j h st => st.1⟩
theorem sqB_one {tp : Bool} {a : Addr} {xs ys : List V} (I : Inv X pins σ H s) (h1 : SqB X.K tp a H xs) (h2 : SqB X.K tp a H ys) : xs = ys := by
  cases tp with
  | true => exact I.tuple_inj h1 h2
  | false => exact I.list_inj h1 h2
end
/-- the row at a, counted from k, as it stands at each turn -/
def ItE (K : PySem.W.Frag) (tp : Bool) (a : Addr) (k : Int) : It :=
  ⟨fun i H => ∃ xs x, SqB K tp a H xs ∧ xs[i]? = some x, fun i H v H' => ∃ T x, v = .ref T ∧ H T = none ∧ H' = upd H T (.tup [.int (k + i), x]) ∧ ∀ xs, SqB K tp a H xs → xs[i]? = some x, fun i H => ∃ xs, SqB K tp a H xs ∧ xs.length = i⟩
theorem turn_enumB {P : Program} {w : World} {K : PySem.W.Frag} {elts : List Expr} {kk : Nat} {tpos : Pos} (tp : Bool) (k : Int) (a e it : Addr) :
    Turn P w K (.Tuple elts kk tpos) (ItE K tp a k) [e, it] e (fun i h => (∃ old, IsEnum h e it (k + (i : Int)) old) ∧ itB tp h it a i ∧ e ≠ it ∧ e ≠ a ∧ a ≠ it) where
  mem := by simp
  obj := fun i h st b hb => by
    rcases List.mem_cons.mp hb with rfl | hb
    · obtain ⟨⟨_, he⟩, _⟩ := st
      exact ⟨_, he, fun v q => nomatch q⟩
    · rw [List.mem_singleton.mp hb]
      exact itB_here st.2.1
  keep := fun i h h' st kp => ⟨st.1.imp fun _ he => kp e (by simp) _ he, itB_keep st.2.1 (fun o q => kp it (by simp) o q), st.2.2⟩
  item := by
    rintro X rfl rfl rfl hc i pins s σ H E I hf ⟨⟨old, he⟩, hit, n1, n2, n3⟩ ⟨xs, x, hq, hx⟩
    obtain ⟨its, St, rv, D, st, up⟩ := sqB_draws hc I hq hit n3
    obtain ⟨u, hu, ru⟩ := rv.get hx
    have lt : i < its.toArray.size := by
      rw [List.size_toArray]
      exact (List.getElem?_eq_some_iff.mp hu).1
    have hel : e < s.heap.objs.size := Heap.lt_size he
    have hil : it < s.heap.objs.size := by
      obtain ⟨_, q, _⟩ := itB_here hit
      exact Heap.lt_size q
    refine wpAny_pyNext_enum_itemC D he st lt n1 (by simp [n1, n2]) fun z h' tk hz ho st' hT hsz hk => ⟨_, rfl, wpAny_letOwnedTupleGo_enum (s := { s with heap := h', toks := tk + 1 }) ho fun h2 he2 sb => ?_⟩
    obtain rfl : z = u := by
      have y : its[i]? = some z := by simpa using hz
      rw [hu] at y
      exact (Option.some.inj y).symm
    have hT2 : h2.get? s.heap.objs.size = some { cls := .type "tuple", data := .seq #[.int (k + i) tk, z] } := (sb.2 _ (Nat.ne_of_gt hel)).trans hT
    have new : ObjOk X.prog X.w (upd H s.heap.objs.size (.tup [.int (k + i), x])) h2 s.heap.objs.size (.tup [.int (k + i), x]) := ⟨by show 2 ≤ sizeLine; decide, [.int (k + i) tk, z], .cons ⟨_, rfl⟩ (.cons ru .nil), ⟨_, hT2, rfl, _, rfl⟩⟩
    have far : ∀ b, b ∉ [e, it] → b ≠ e ∧ b ≠ it := fun b hb => ⟨fun z => hb (by simp [z]), fun z => hb (by simp [z])⟩
    have I1 := I.turnedNew (t' := tk + 1) (ch := [e, it]) (fun b o hb q => (sb.2 b (far b hb).1).trans (hk b o (far b hb).1 (far b hb).2 q)) hf (Nat.le_refl _) new
    refine ⟨.ref s.heap.objs.size, _, I1, rfl, ⟨_, x, rfl, I.hok.fresh (Nat.le_refl _), rfl, fun ys hy => by rw [sqB_one I hy hq]; exact hx⟩, ⟨⟨z, ?_⟩, itB_keep (up _ _ st') (fun o q => (sb.2 it n1.symm).trans q), n1, n2, n3⟩, fun b hb => ?_⟩
    · have e1 : k + ((i + 1 : Nat) : Int) = k + (i : Int) + 1 := by omega
      rw [e1]
      exact he2
    · have lb : b < s.heap.objs.size := by
        rcases List.mem_cons.mp hb with rfl | hb
        · exact hel
        · rw [List.mem_singleton.mp hb]
          exact hil
      rw [upd_ne (Nat.ne_of_lt lb)]
      exact (hf b hb).1
  done := by
    rintro X rfl rfl rfl hc i pins s σ H E I hf ⟨⟨old, he⟩, hit, n1, n2, n3⟩ ⟨xs, hq, rfl⟩
    obtain ⟨its, St, rv, D, st, up⟩ := sqB_draws hc I hq hit n3
    obtain ⟨f0, f1, f2, f3, f4, f5⟩ := hf it (by simp)
    rw [show xs.length = its.toArray.size by rw [List.size_toArray]; exact rv.length] at st he
    exact wpAny_pyNext_enum_endD D he st fun h' eb => ⟨rfl, I.turned (t' := s.toks) (fun b o hb q => eb b o hb q) f0 f1 f3 f4 f5⟩
  self := fun A i s Q E st h => by
    obtain ⟨⟨_, he⟩, _⟩ := st
    exact wpAny_pyIter_enum he h
theorem walk_enumB {K : PySem.W.Frag} {tp : Bool} {a : Addr} {k : Int} {xs : List V} : Walk (ItE K tp a k) xs.length (fun H => SqB K tp a H xs) (YPair (fun i => some (.int (k + (i : Nat)))) (fun i => xs[i]?)) :=
  ⟨fun i _ hi q => ⟨xs, xs[i], q, by simp [hi]⟩, fun _ q => ⟨xs, q, rfl⟩, fun i H v H' _ q y => by
    obtain ⟨T, x, h1, h2, h3, h4⟩ := y
    exact ⟨T, .int (k + (i : Nat)), x, h1, h2, h3, rfl, h4 xs q⟩⟩
def iEnumS (K : PySem.W.Frag) (te : TE) (tk : TA) : TI := fun σ H R => te σ H fun v H1 => tk σ H1 fun zs H2 => ∃ a xs k, v = .ref a ∧ zs = [.int k] ∧ -(2 ^ 63) ≤ k ∧ k < 2 ^ 63 ∧ SqL K H2 a xs ∧ R (ItE K false a k) H2
section
variable {X : Cx} {pins : List (Addr × Obj)} {σ : L2.St} {H : Hp} {s : Shared}
/-- the new iterator, ready -/
theorem pie_new {elts : List Expr} {kk : Nat} {tpos : Pos} {R : It → Hp → Prop} {tp : Bool} {a : Addr} {k : Int} {xs : List V} {o : Obj} (I : Inv X pins σ H s) (hq : SqB X.K tp a H xs) (hat : a < s.heap.objs.size) (up : ∀ h' : Heap, h'.get? s.heap.objs.size = some o → itB tp h' s.heap.objs.size a 0) (q : R (ItE X.K tp a k) H) :
    EnumNew o k s fun v s2 => wpAny (model X.prog X.w) X.A (pyIter v) (PIE X pins σ (.Tuple elts kk tpos) R) X.xe s2 := fun h' he ho hsz hk => by
  have I2 : Inv X pins σ H { s with heap := h' } := I.kept (t' := s.toks) hk
  refine wpAny_pyIter_enum he ⟨s.heap.objs.size + 1, [s.heap.objs.size + 1, s.heap.objs.size], _, _, H, rfl, I2, turn_enumB tp k a (s.heap.objs.size + 1) s.heap.objs.size, ⟨⟨.none, ?_⟩, up _ ho, Nat.succ_ne_self _, (Nat.ne_of_gt (Nat.lt_succ_of_lt hat)), Nat.ne_of_lt hat⟩, fun b hb => ?_, q⟩
  · rw [show k + ((0 : Nat) : Int) = k by omega]
    exact he
  · have le : s.heap.objs.size ≤ b := by
      rcases List.mem_cons.mp hb with rfl | hb
      · exact Nat.le_succ _
      · rw [List.mem_singleton.mp hb]
        exact Nat.le_refl _
    exact I.fpOk le (I.hok.fresh le)
theorem pi_enumS {e : Expr} {te : TE} {tk : TA} {p pos tpos : Pos} {elts : List Expr} {kk : Nat} {c : Expr} {kp : Pos} (hg : Gl X "enumerate") (hm : X.mg "enumerate" = none) (he : PE X e te) (hkw : PK X [⟨some (Str.ofString "start"), c, kp⟩] tk) (hs : starEach [e] X.env = (false, eval e X.env) :: starEach [] X.env := by rfl) :
    L2.PI X (.Tuple elts kk tpos) (.Call (.Name "enumerate" p) [e] [⟨some (Str.ofString "start"), c, kp⟩] pos) (iEnumS X.K te tk) := by
  refine ⟨fun pins s σ H R I h => wpAny_Call_Name_kw (ld_blt I hg hm boot_enumerate ?_)⟩
  refine PySem.W.callWith_of (P := fun _ => True) (by rw [hs]; rfl) (fun _ _ => ⟨Keeper.machine, .inr (.inl rfl), PySem.W.Looks.of_pure rfl⟩) ?_
  rw [hs]
  show wpAny _ _ (evalArgs _ true ((false, eval e X.env) :: backTo pos (starEach [] X.env)) _) _ _ s
  refine evalArgs_kwB rfl (Calls.spliced_cons (thn (he.run pins s σ H _ I h) fun u s1 ⟨v, H1, I1, r1, q1⟩ => Calls.spliced_nil (thn (hkw.run pos pins s1 σ H1 _ I1 q1) fun ws s2 ⟨zs, H2, I2, rz, a, xs, k, ev, ez, k0, k1, hq, q⟩ => ⟨True.intro, ?_⟩)))
  subst ev ez
  cases r1
  cases rz with
  | cons r2 r3 =>
    cases r3
    obtain ⟨t, rfl⟩ := r2
    obtain ⟨its, rv, p', hz⟩ := I2.list hq
    obtain ⟨o, ho, _⟩ := id p'.isList
    exact enum_begins_start (begins_list a its.toArray) p'.isList k0 k1 (pie_new (tp := false) I2 hq (Heap.lt_size ho) (fun h' e => ⟨_, e, rfl, rfl⟩) q)
end
end Own

set_option Elab.async false
set_option linter.all false
set_option maxRecDepth 100000
set_option maxHeartbeats 4000000
namespace Own
open PySem PySem.Spec PyProof.Rows L2
theorem encR_map : ∀ rows : List Stm, encR rows = rows.map encS
  | [] => rfl
  | s :: rows => by rw [encR, encR_map rows]; rfl
namespace Stm
def divider : Stm → Str
  | guard _ _ => "after"
  | _ => "else"
end Stm
/-- the place of the first block -/
def Stm.atB (s : Stm) : Nat := s.size - s.blocks.length
theorem linesS_eq (p : List Nat) (s : Stm) : linesS p s = hdL p s :: (match s.blocks with
    | [] => []
    | [r] => linesR (p ++ [s.atB]) 0 r ++ [endL p]
    | r1 :: r2 :: _ => linesR (p ++ [s.atB]) 0 r1 ++ ((if r2.isEmpty then [] else divL p s.divider :: linesR (p ++ [s.atB + 1]) 0 r2) ++ [endL p])) := by
  cases s <;> simp only [linesS] <;> rfl
theorem linesR_snoc (p : List Nat) : ∀ (k : Nat) (rows : List Stm) (s : Stm), linesR p k (rows ++ [s]) = linesR p k rows ++ linesS (p ++ [k + rows.length]) s
  | k, [], s => by simp [linesR]
  | k, r :: rows, s => by
    rw [List.cons_append, linesR, linesR, linesR_snoc p (k + 1) rows s, List.append_assoc, List.length_cons, show k + (rows.length + 1) = k + 1 + rows.length by omega]
def partsL : Nat → List Prt → List Ln
  | _, [] => []
  | k, p :: ps => partL k p ++ partsL (k + 1) ps
theorem partsL_snoc : ∀ (k : Nat) (ps : List Prt) (p : Prt), partsL k (ps ++ [p]) = partsL k ps ++ partL (k + ps.length) p
  | k, [], p => by simp [partsL]
  | k, q :: ps, p => by
    rw [List.cons_append, partsL, partsL, partsL_snoc (k + 1) ps p, List.append_assoc, List.length_cons, show k + (ps.length + 1) = k + 1 + ps.length by omega]
theorem pl_c (c : List Str) : Pl (encC c) = true := by
  simp only [encC, Pl, pl_strs]
theorem pl_w : ∀ v : Wth, Pl (encW v) = true
  | .word _ => rfl
  | .of _ => rfl
mutual
theorem pl_s : ∀ s : Stm, Pl (encS s) = true
  | .look _ _ => rfl
  | .bind i v rows => by simp only [encS, Pl, PlAll, pl_w v, pl_r rows, Bool.and_true, Bool.true_and]
  | .call _ => rfl
  | .keep s f c => by simp only [encS, Pl, PlAll, pl_c c, Bool.and_true, Bool.true_and]
  | .take s c => by simp only [encS, Pl, PlAll, pl_c c, Bool.and_true, Bool.true_and]
  | .shift s u c => by simp only [encS, Pl, PlAll, pl_c c, Bool.and_true, Bool.true_and]
  | .run _ => rfl
  | .drop _ => rfl
  | .apart rows => by simp only [encS, Pl, PlAll, pl_r rows, Bool.and_true, Bool.true_and]
  | .when _ r1 r2 => by simp only [encS, Pl, PlAll, pl_r r1, pl_r r2, Bool.and_true, Bool.true_and]
  | .held _ r1 r2 => by simp only [encS, Pl, PlAll, pl_r r1, pl_r r2, Bool.and_true, Bool.true_and]
  | .fail => rfl
  | .guard r1 r2 => by simp only [encS, Pl, PlAll, pl_r r1, pl_r r2, Bool.and_true, Bool.true_and]
theorem pl_r : ∀ rows : List Stm, PlAll (encR rows) = true
  | [] => rfl
  | s :: rows => by simp only [encR, PlAll, pl_s s, pl_r rows, Bool.and_true]
end
theorem pl_pt : ∀ t : Prt, Pl (encPt t) = true
  | .name _ _ => rfl
  | .flag _ _ => rfl
  | .slot _ _ => rfl
  | .func i a rows => by simp only [encPt, Pl, PlAll, pl_r rows, Bool.and_true, Bool.true_and]
theorem pl_app : ∀ a b : List PyData, PlAll (a ++ b) = (PlAll a && PlAll b)
  | [], b => rfl
  | d :: a, b => by rw [List.cons_append, PlAll, PlAll, pl_app a b, Bool.and_assoc]
end Own

set_option Elab.async false
set_option linter.all false
set_option maxRecDepth 100000
set_option maxHeartbeats 4000000
namespace Own
open PySem PySem.Spec PyProof.Rows L2
mutual
def wS : Stm → Nat
  | .bind _ _ r => wR r + 2
  | .apart r => wR r + 2
  | .when _ r1 r2 => wR r1 + wE r2 + 2
  | .held _ r1 r2 => wR r1 + wE r2 + 2
  | .guard r1 r2 => wR r1 + wE r2 + 2
  | _ => 1
def wR : List Stm → Nat
  | [] => 0
  | s :: rows => wS s + wR rows
/-- a second block and its divider -/
def wE : List Stm → Nat
  | [] => 0
  | s :: rows => wS s + wR rows + 1
end
theorem wE_le (r : List Stm) : wE r ≤ wR r + 1 := by
  cases r with
  | nil => rw [wE]; exact Nat.zero_le _
  | cons s r => rw [wE, wR]; exact Nat.le_refl _
mutual
theorem len_S : ∀ (p : List Nat) (s : Stm), (linesS p s).length = wS s
  | p, .bind i v r => by
    have h := len_R (p ++ [3]) 0 r
    simp only [linesS, List.length_cons, List.length_append, List.length_nil, h, wS]
  | p, .apart r => by
    have h := len_R (p ++ [1]) 0 r
    simp only [linesS, List.length_cons, List.length_append, List.length_nil, h, wS]
  | p, .when f r1 r2 => by
    have h1 := len_R (p ++ [2]) 0 r1
    have h2 := len_R (p ++ [3]) 0 r2
    cases r2 with
    | nil => simp only [linesS, List.isEmpty_nil, if_true, List.length_cons, List.length_append, List.length_nil, h1, wS, wE]
    | cons s r2 =>
      rw [wR] at h2
      simp only [linesS, List.isEmpty_cons, Bool.false_eq_true, if_false, List.length_cons, List.length_append, List.length_nil, h1, h2, wS, wE]; omega
  | p, .held f r1 r2 => by
    have h1 := len_R (p ++ [2]) 0 r1
    have h2 := len_R (p ++ [3]) 0 r2
    cases r2 with
    | nil => simp only [linesS, List.isEmpty_nil, if_true, List.length_cons, List.length_append, List.length_nil, h1, wS, wE]
    | cons s r2 =>
      rw [wR] at h2
      simp only [linesS, List.isEmpty_cons, Bool.false_eq_true, if_false, List.length_cons, List.length_append, List.length_nil, h1, h2, wS, wE]; omega
  | p, .guard r1 r2 => by
    have h1 := len_R (p ++ [1]) 0 r1
    have h2 := len_R (p ++ [2]) 0 r2
    cases r2 with
    | nil => simp only [linesS, List.isEmpty_nil, if_true, List.length_cons, List.length_append, List.length_nil, h1, wS, wE]
    | cons s r2 =>
      rw [wR] at h2
      simp only [linesS, List.isEmpty_cons, Bool.false_eq_true, if_false, List.length_cons, List.length_append, List.length_nil, h1, h2, wS, wE]; omega
  | _, .look _ _ => rfl
  | _, .call _ => rfl
  | _, .keep _ _ _ => rfl
  | _, .take _ _ => rfl
  | _, .shift _ _ _ => rfl
  | _, .run _ => rfl
  | _, .drop _ => rfl
  | _, .fail => rfl
theorem len_R : ∀ (p : List Nat) (k : Nat) (rows : List Stm), (linesR p k rows).length = wR rows
  | _, _, [] => rfl
  | p, k, s :: rows => by rw [linesR, List.length_append, len_S (p ++ [k]) s, len_R p (k + 1) rows, wR]
end
end Own

set_option Elab.async false
set_option linter.all false
set_option maxRecDepth 100000
set_option maxHeartbeats 4000000
namespace Own
open PySem PySem.Spec PyProof.Rows L2
theorem obW_eq {chk : PySem.W.Frag → Bool} {fn : List He.DefD} {tf : List He.Defn} {pr : List PrD} {ts : List He.Tab} (s : PySem.W.SharedT) : obW chk fn tf pr ts s = (hookW chk fn tf pr ts).obs s.abs := by
  have look : HandSHeadRun.getT s = s.abs.heap.get? := funext (HandSHeadRun.getT_eq s)
  have size : s.n = s.abs.heap.objs.size := (PySem.W.absHeap_size s.tree s.n s.life).symm
  show obsW chk fn tf pr ts (HandSHeadRun.getT s) (List.range s.n) = obsW chk fn tf pr ts s.abs.heap.get? (List.range s.abs.heap.objs.size)
  rw [look, size]
theorem keys_of {K : PySem.W.Frag} {w : World} {d : Addr} {ks : List Str} {es : Array DictEntry} {n : Nat} (h : He.dicW K d = some (He.keysIn w.params ks)) (kd : KDict K w d es n) : es.toList.map He.keyOf = He.keysIn w.params ks := by
  unfold He.dicW at h
  rw [kd.at_] at h
  have z : (decide (("dict" : Str) = "dict") && ((#[] : Array Value).isEmpty && !(d == sysModules))) = true := by
    rw [kd.low]
    decide
  have h1 : (match decide (("dict" : Str) = "dict") && ((#[] : Array Value).isEmpty && !(d == sysModules)) with
            | true => some (es.toList.map He.keyOf)
            | false => none) = some (He.keysIn w.params ks) := h
  rw [z] at h1
  exact Option.some.inj h1
theorem ns_no {P : Params} {x : Str} : ∀ {l : List DictEntry} {ks : List Str}, l.map He.keyOf = He.keysIn P ks → x ∉ ks → l.find? (·.key.isStr x) = none ∧ l.any (·.refKey) = false
  | [], [], _, _ => ⟨rfl, rfl⟩
  | [], _ :: _, h, _ => by cases h
  | _ :: _, [], h, _ => by cases h
  | e :: r, k :: ks, h, hx => by
    have h1 : He.keyOf e :: r.map He.keyOf = some (k, PyData.keyHash P k) :: He.keysIn P ks := h
    injection h1 with h2 h3
    obtain ⟨i1, i2⟩ := ns_no (l := r) h3 fun z => hx (.tail _ z)
    have ne : k ≠ x := fun z => hx (z ▸ .head _)
    unfold He.keyOf at h2
    split at h2
    · rename_i y t q
      obtain ⟨h5, h6⟩ := Prod.mk.inj (Option.some.inj h2)
      subst h5
      have e1 : e.key.isStr x = false := by
        rw [q]
        simpa [Value.isStr] using ne
      have e2 : e.refKey = false := by
        unfold DictEntry.refKey
        rw [q]
      constructor
      · rw [List.find?_cons, e1]
        exact i1
      · rw [List.any_cons, e2, i2]
        rfl
    · cases h2
/-- the keys of kvs, the values that the look finds -/
theorem cdict_of {K : PySem.W.Frag} {w : World} {d : Addr} {α : Type} {kvs : List (Str × α)} {R : α → V → Prop} (h : He.dicW K d = some (He.keysIn w.params (kvs.map (·.1)))) (v : α → He.Dv) (hv : He.valsB K d (kvs.map fun p => (p.1, v p.2)) = true) (hr : ∀ p ∈ kvs, R p.2 ((v p.2).v K)) : Nonempty (CDict K w d kvs R) := by
  obtain ⟨es, n, kd⟩ := He.dicW_ok h
  refine ⟨⟨es, n, kd, fun x r hx => ?_, fun x hx => ?_⟩⟩
  · obtain ⟨u, e, rv⟩ := He.valsB_ok hv (q := (x, v r)) (List.mem_map.mpr ⟨(x, r), hx, rfl⟩)
    exact ⟨u, (v r).v K, e, rv, hr _ hx⟩
  · obtain ⟨a, b⟩ := ns_no (keys_of h kd) hx
    unfold PySem.W.nsIn
    rw [kd.at_]
    show (match es.toList.find? (·.key.isStr x) with
      | some e => some (some e.val)
      | none => if es.toList.any (·.refKey) then none else some none) = some none
    rw [a]
    show (if es.toList.any (·.refKey) = true then none else some none) = some none
    rw [b]
    rfl
end Own

set_option Elab.async false
set_option linter.all false
set_option maxRecDepth 100000
set_option maxHeartbeats 4000000
namespace Own
open PySem PySem.Spec PyProof.Rows L2
theorem tupAt_ok {K : PySem.W.Frag} {a : Addr} {l : List Str} (h : tupAt K a l = true) : ∀ H, SqT K H a (l.map V.str) := fun H => by
  unfold tupAt at h
  cases q : K.lookup a with
  | none => rw [q] at h; cases h
  | some o =>
    obtain ⟨oc, od, dt, osl⟩ := o
    rw [q] at h
    cases oc with
    | type c =>
      cases dt with
      | seq its n =>
        have h : ((decide (c = "tuple") && decide (its.size ≤ sizeLine)) && He.relAll (l.map V.str) its.toList) = true := h
        simp only [Bool.and_eq_true, decide_eq_true_eq] at h
        obtain ⟨⟨rfl, h2⟩, h3⟩ := h
        exact .inr ⟨_, its, n, q, rfl, rfl, h2, He.relAll_ok h3⟩
      | _ => cases h
    | _ => cases dt <;> cases h
theorem cdict_tup {K : PySem.W.Frag} {w : World} {d : Addr} {kvs : List (Str × List Str)} (h : He.dicW K d = some (He.keysIn w.params (kvs.map (·.1)))) (hv : tupsD K d kvs = true) : Nonempty (CDict K w d kvs (TupS K)) := by
  obtain ⟨es, n, kd⟩ := He.dicW_ok h
  refine ⟨⟨es, n, kd, fun x r hx => ?_, fun x hx => ?_⟩⟩
  · have z := List.all_eq_true.mp hv (x, r) hx
    cases e : PySem.W.nsIn K d x with
    | none => rw [show PySem.W.nsIn K d ((x, r) : Str × List Str).1 = none from e] at z; cases z
    | some o =>
      rw [show PySem.W.nsIn K d ((x, r) : Str × List Str).1 = some o from e] at z
      cases o with
      | none => cases z
      | some u =>
        cases u with
        | ref a => exact ⟨.ref a, .ref a, rfl, rfl, a, rfl, tupAt_ok z⟩
        | _ => cases z
  · obtain ⟨a, b⟩ := ns_no (keys_of h kd) hx
    unfold PySem.W.nsIn
    rw [kd.at_]
    show (match es.toList.find? (·.key.isStr x) with
      | some e => some (some e.val)
      | none => if es.toList.any (·.refKey) then none else some none) = some none
    rw [a]
    show (if es.toList.any (·.refKey) = true then none else some none) = some none
    rw [b]
    rfl
theorem cdict_str {K : PySem.W.Frag} {w : World} {d : Addr} {kvs : List (Str × Str)} (h : He.dicW K d = some (He.keysIn w.params (kvs.map (·.1)))) (hv : He.valsB K d (kvs.map fun p => (p.1, .str p.2)) = true) : Nonempty (CDict K w d kvs StrS) := cdict_of h (fun x => .str x) hv fun p _ => rfl
end Own

set_option Elab.async false
set_option linter.all false
set_option maxRecDepth 100000
set_option maxHeartbeats 4000000

set_option Elab.async false
set_option linter.all false
set_option maxRecDepth 100000
set_option maxHeartbeats 4000000

set_option Elab.async false
set_option linter.all false
set_option maxRecDepth 100000
set_option maxHeartbeats 4000000

set_option Elab.async false
set_option linter.all false
set_option maxRecDepth 100000
set_option maxHeartbeats 4000000

set_option Elab.async false
set_option linter.all false
set_option maxRecDepth 100000
set_option maxHeartbeats 4000000

set_option Elab.async false
set_option linter.all false
set_option maxRecDepth 100000
set_option maxHeartbeats 4000000
namespace Own
open PySem PySem.Spec PyProof.Rows L2
/-- a list's and a tuple's items side by side, each pair new -/
def ItzM (K : PySem.W.Frag) (a b : Addr) : It where
  go := fun i H => ∃ (xs ys : List V) (x y : V), SqL K H a xs ∧ SqT K H b ys ∧ xs[i]? = some x ∧ ys[i]? = some y
  yld := fun i H v H' => ∃ T x y, v = .ref T ∧ H T = none ∧ H' = upd H T (.tup [x, y]) ∧ (∀ xs, SqL K H a xs → xs[i]? = some x) ∧ ∀ ys, SqT K H b ys → ys[i]? = some y
  stop := fun i H => ∃ xs ys : List V, SqL K H a xs ∧ SqT K H b ys ∧ i ≤ xs.length ∧ i ≤ ys.length ∧ (i = xs.length ∨ i = ys.length)
theorem MixAt.low {z TI TO i1 i2 a b : Addr} {i : Nat} {h : Heap} (M : MixAt z TI TO i1 i2 a b i h) : ∀ c ∈ [z, TI, TO, i1, i2], c < h.objs.size := fun c hc => by
  obtain ⟨o, e, _⟩ := M.there c hc
  exact Heap.lt_size e
theorem turn_mix {P : Program} {w : World} {K : PySem.W.Frag} {elts : List Expr} {kk : Nat} {tpos : Pos} {a b z TI TO i1 i2 : Addr} (S : ZipSep2 z TI TO i1 i2 [i1, a] [i2, b]) (n1 : a ≠ i1) (n2 : b ≠ i2) : Turn P w K (.Tuple elts kk tpos) (ItzM K a b) [z, TI, TO, i1, i2] z (fun i h => MixAt z TI TO i1 i2 a b i h) where
  mem := List.mem_cons_self
  obj := fun i h M => M.there
  keep := fun i h h' M k => M.later k
  item := by
    rintro X rfl rfl rfl calm i pins s σ H E I hf M ⟨xs, ys, x, y, qx, qy, hx, hy⟩
    obtain ⟨us, rx, lx, _⟩ := I.list qx
    obtain ⟨vs, ry, ly, _⟩ := I.tuple qy
    obtain ⟨u, hu, ru⟩ := rx.get hx
    obtain ⟨v, hv, rv⟩ := ry.get hy
    obtain ⟨x0, y0, out⟩ := M.out
    have hh : X.A.in1.handled = none := I.ok.hd calm
    have iu : i < us.toArray.size := by simpa using (List.getElem?_eq_some_iff.mp hu).1
    have iv : i < vs.toArray.size := by simpa using (List.getElem?_eq_some_iff.mp hv).1
    refine wpAny_pyNext_zipD2_item S (Draws.list hh i1 a n1 us.toArray) (Draws.tuple hh i2 b n2 vs.toArray) M.zip M.its out ⟨M.one, lx.isList⟩ ⟨M.two, ly⟩ iu iv fun x1 x2 h' tk e1 e2 z' out' st1 st2 new sz kp => ⟨_, rfl, ?_⟩
    have eu : x1 = u := by
      have e : us.toArray[i]? = some u := by simpa using hu
      rw [e] at e1
      exact (Option.some.inj e1).symm
    have ev : x2 = v := by
      have e : vs.toArray[i]? = some v := by simpa using hv
      rw [e] at e2
      exact (Option.some.inj e2).symm
    subst eu ev
    have low := M.low
    refine wpAny_letOwnedTupleGo_zip (s := { s with heap := h', toks := tk }) z' fun h2 z2 sb => ?_
    have past : ∀ c o, c ≠ z → h'.get? c = some o → h2.get? c = some o := fun c o ne e => (sb.2 c ne).trans e
    have new2 : h2.get? s.heap.objs.size = some { cls := .type "tuple", data := .seq #[x1, x2] } := past _ _ (Nat.ne_of_gt (low z (by simp))) new
    have fresh := I.hok.fresh (Nat.le_refl s.heap.objs.size)
    have ob : ObjOk X.prog X.w (upd H s.heap.objs.size (.tup [x, y])) h2 s.heap.objs.size (.tup [x, y]) := ⟨(by decide : 2 ≤ sizeLine), [x1, x2], .cons ru (.cons rv .nil), _, new2, rfl, _, rfl⟩
    have kp2 : ∀ c o, c ∉ [z, TI, TO, i1, i2] → s.heap.get? c = some o → h2.get? c = some o := fun c o nc e => by
      simp only [List.mem_cons, List.not_mem_nil, or_false, not_or] at nc
      exact past c o nc.1 (kp c o nc.1 nc.2.2.1 nc.2.2.2.1 nc.2.2.2.2 e)
    refine ⟨.ref s.heap.objs.size, _, I.turnedNew (t' := tk) kp2 hf (Nat.le_refl _) ob, rfl, ⟨_, x, y, rfl, fresh, rfl, fun l hl => by rw [I.list_inj hl qx]; exact hx, fun l hl => by rw [I.tuple_inj hl qy]; exact hy⟩, ?_, fun c hc => ?_⟩
    · exact ⟨z2, past _ _ S.TIz (kp _ _ S.TIz S.TITO S.TIi1 S.TIi2 M.its), ⟨x1, x2, past _ _ S.TOz out'⟩, st1.1.at fun o q => past _ o S.zi1.symm q, st2.1.at fun o q => past _ o S.zi2.symm q⟩
    · rw [upd_ne (Nat.ne_of_lt (low c hc))]
      exact (hf c hc).1
  done := by
    rintro X rfl rfl rfl calm i pins s σ H E I hf M ⟨xs, ys, qx, qy, le1, le2, fin⟩
    obtain ⟨us, rx, lx, _⟩ := I.list qx
    obtain ⟨vs, ry, ly, _⟩ := I.tuple qy
    obtain ⟨x0, y0, out⟩ := M.out
    have hh : X.A.in1.handled = none := I.ok.hd calm
    have e1 := rx.length
    have e2 := ry.length
    refine wpAny_pyNext_zipD2_end S (Draws.list hh i1 a n1 us.toArray) (Draws.tuple hh i2 b n2 vs.toArray) M.zip M.its out ⟨M.one, lx.isList⟩ ⟨M.two, ly⟩ (by simp; omega) (by simp; omega) (by simp; omega) fun h' tk kp => ⟨rfl, I.turnedL (t' := tk) (ch := [z, TI, TO, i1, i2]) (fun c o nc e => ?_) hf⟩
    simp only [List.mem_cons, List.not_mem_nil, or_false, not_or] at nc
    exact kp c o nc.1 nc.2.2.1 nc.2.2.2.1 nc.2.2.2.2 e
  self := fun A i s Q E M h => wpAny_pyIter_zip M.zip h
def iZipM (K : PySem.W.Frag) (ta : TA) : TI := fun σ H R => ta σ H fun vs H1 => ∃ a b xs ys, vs = [.ref a, .ref b] ∧ SqL K H1 a xs ∧ SqT K H1 b ys ∧ R (ItzM K a b) H1
theorem pi_zipM {X : Cx} {e e2 : Expr} {ta : TA} {p pos tpos : Pos} {elts : List Expr} {kk : Nat} (hg : Gl X "zip") (hm : X.mg "zip" = none) (ha : PA X [e, e2] ta)
    (hs : starEach [e, e2] X.env = (false, eval e X.env) :: starEach [e2] X.env := by rfl) (hpl : (backTo pos (starEach [e2] X.env)).any (·.1) = false := by rfl) : L2.PI X (.Tuple elts kk tpos) (.Call (.Name "zip" p) [e, e2] [] pos) (iZipM X.K ta) := by
  refine ⟨fun pins s σ H R I h => Call_ (ld_blt I hg hm PyProof.Rows.boot_zip (PyProof.Rows.callWith_type1 (thn (ha.run pos pins s σ H _ I h) fun us s1 ⟨vs, H1, I1, r1, a, b, xs, ys, ex, qx, qy, q⟩ => ?_) hs hpl))⟩
  subst ex
  obtain ⟨is, rx, lx, _⟩ := I1.list qx
  obtain ⟨js, ry, ly, _⟩ := I1.tuple qy
  have la : a < s1.heap.objs.size := lx.lt
  have lb : b < s1.heap.objs.size := by
    obtain ⟨o, e, _⟩ := id ly
    exact Heap.lt_size e
  cases r1 with
  | cons r rr =>
  cases rr with
  | cons r' rr =>
  cases rr
  cases r
  cases r'
  refine zip_begins2 (begins_list a is.toArray) (begins_tuple b js.toArray) lx.isList (show s1.heap.IsTuple b js.toArray from ly) fun h' hz hi ho g1 g2 sz kp => wpAny_pyIter_zip hz ?_
  obtain ⟨n, hn⟩ : ∃ n, n = s1.heap.objs.size := ⟨_, rfl⟩
  rw [← hn] at hz hi ho g1 g2 la lb
  have S : ZipSep2 (n + 4) (n + 2) (n + 3) n (n + 1) [n, a] [n + 1, b] := zip_sep2 (fun c hc => by cases List.mem_singleton.mp hc; exact la) (fun c hc => by cases List.mem_singleton.mp hc; exact lb)
  refine ⟨n + 4, [n + 4, n + 2, n + 3, n, n + 1], _, _, H1, by rw [hn], I1.kept (t' := s1.toks) kp, turn_mix S (Nat.ne_of_lt la) (Nat.ne_of_lt (Nat.lt_succ_of_lt lb)), ⟨hz, hi, ⟨_, _, ho⟩, ⟨_, g1, rfl, rfl⟩, ⟨_, g2, rfl, rfl⟩⟩, fun c hc => ?_, q⟩
  have le : s1.heap.objs.size ≤ c := by
    rw [← hn]
    simp only [List.mem_cons, List.not_mem_nil, or_false] at hc
    rcases hc with rfl | rfl | rfl | rfl | rfl
    · exact Nat.le_add_right _ _
    · exact Nat.le_add_right _ _
    · exact Nat.le_add_right _ _
    · exact Nat.le_refl _
    · exact Nat.le_add_right _ _
  exact I1.fpOk le (I1.hok.fresh le)
theorem walk_zipM {K : PySem.W.Frag} {a b : Addr} {xs ys : List V} (hl : xs.length = ys.length) : Walk (ItzM K a b) xs.length (fun H => SqL K H a xs ∧ SqT K H b ys) (YPair (fun i => xs[i]?) (fun i => ys[i]?)) where
  goes := fun i H hi q => ⟨xs, ys, xs[i], ys[i]'(hl ▸ hi), q.1, q.2, List.getElem?_eq_getElem hi, List.getElem?_eq_getElem (hl ▸ hi)⟩
  stops := fun H q => ⟨xs, ys, q.1, q.2, Nat.le_refl _, Nat.le_of_eq hl, .inl rfl⟩
  yields := fun i H v H' _ q ⟨T, x, z, e1, e2, e3, e4, e5⟩ => ⟨T, x, z, e1, e2, e3, e4 xs q.1, e5 ys q.2⟩
theorem lcZM_go {K : PySem.W.Frag} {a b : Addr} {xs ys : List V} (hl : xs.length = ys.length) {wi : TI} {g : TG} {te : TE} {vs : List Nat} {σ : L2.St} {H : Hp} {Q : VK} (f : Nat → V) (ht : ∀ R : It → Hp → Prop, R (ItzM K a b) H → wi σ H R) (ha : SqL K H a xs) (hb : SqT K H b ys) (hz : xs.length ≤ 100000)
    (hs : ∀ i x y T H2 (R : VK), xs[i]? = some x → ys[i]? = some y → Same H H2 → H2 T = some (.tup [x, y]) → (∀ H3, Same H2 H3 → R (f i) H3) → g (.ref T) (wipe σ vs) H2 fun σ2 H3 => wipe σ2 vs = wipe σ vs ∧ te σ2 H3 R)
    (q : ∀ D H', H D = none → Same H H' → H' D = some (.lst ((List.range xs.length).map f)) → Q (.ref D) H') : tLc wi g tYes te vs σ H Q := by
  refine lcW_go (walk_zipM hl) (fun D i acc H' => acc = (List.range i).map f ∧ ExT D H H') ht (fun D i acc H' _ p hD => ⟨sq_same (ExT.toSame hD p.2) ha, sqT_same (ExT.toSame hD p.2) hb⟩) (fun D hD => ⟨rfl, exT_upd (.refl D H)⟩) (fun D i acc H' x H2 hi hD rD la p y => ?_) (fun D acc H' hD rD la p => q D H' hD (ExT.toSame hD p.2) (p.1 ▸ rD))
  obtain ⟨rfl, v⟩ := p
  obtain ⟨T, x1, y1, rfl, nT, rfl, e1, e2⟩ := y
  have sT := same_new (o := .tup [x1, y1]) nT
  refine hs i x1 y1 T _ _ e1 e2 ((ExT.toSame hD v).trans sT) upd_same fun H3 s3 => ⟨_, s3 _ _ (sT _ _ rD), ?_, _, upd_same, by simp, ?_, exT_upd (v.trans (Same.exT (sT.trans s3)))⟩
  · rw [List.length_map, List.length_range]
    exact Nat.lt_of_lt_of_le hi (Nat.le_trans hz (by decide))
  · rw [List.range_succ, List.map_append]
    rfl
theorem callB_tuple_of {X : Cx} {s : Shared} {H : Hp} {scope : Scope} {cenv : Env} {fp : List Addr} : CallR (X.blk s H scope cenv fp) (.type "tuple") (fun xs H Q => ∃ p ys, xs = [V.ref p] ∧ ((SqL X.K H p ys ∧ ∀ (l : Addr), H l = none → Q (V.ref l) (upd H l (HO.tup ys))) ∨ SqT X.K H p ys ∧ Q (V.ref p) H)) := call_tuple_of
theorem ptB_truth {X : Cx} {s : Shared} {H0 : Hp} {scope : Scope} {cenv : Env} {fp : List Addr} {a : Expr} {ta : TE} (ha : PE (X.blk s H0 scope cenv fp) a ta) (he : ∀ whole, isTrue a (X.blk s H0 scope cenv fp).env whole = (do let v ← whole; standAt a.pos; holding [v] (truthy v))) : PT (X.blk s H0 scope cenv fp) a (fun σ H Q => ta σ H fun x H' => ∃ k, TruV X.K x H' k ∧ Q k H') := pt_truth ha he
end Own

set_option Elab.async false
set_option linter.all false
set_option maxRecDepth 100000
set_option maxHeartbeats 4000000
namespace Own
open PySem PySem.Spec PyProof.Rows L2
theorem sc_is_word : FnScope ["value", "sign"] ["value"] (defScope s_is_word) := ⟨rfl, rfl, rfl, by decide +kernel, rfl, by decide +kernel, by decide +kernel⟩
theorem sc_is_ident : FnScope ["value"] ["value"] (defScope s_is_ident) := ⟨rfl, rfl, rfl, by decide +kernel, rfl, by decide +kernel, by decide +kernel⟩
theorem sc_roles_of : FnScope ["first"] ["first"] (defScope s_roles_of) := ⟨rfl, rfl, rfl, by decide +kernel, rfl, by decide +kernel, by decide +kernel⟩
theorem sc_is_statement : FnScope ["value", "blocks"] ["value", "blocks"] (defScope s_is_statement) := ⟨rfl, rfl, rfl, by decide +kernel, rfl, by decide +kernel, by decide +kernel⟩
theorem sc_fit : FnScope ["roles", "values", "blocks", "role", "value"] ["roles", "values", "blocks"] (defScope s_fit) := ⟨rfl, rfl, rfl, by decide +kernel, rfl, by decide +kernel, by decide +kernel⟩
theorem sc_is_headed : FnScope ["value"] ["value"] (defScope s_is_headed) := ⟨rfl, rfl, rfl, by decide +kernel, rfl, by decide +kernel, by decide +kernel⟩
theorem sc_fits : FnScope ["role", "value", "blocks", "row", "ident"] ["role", "value", "blocks"] (defScope s_fits) := ⟨rfl, rfl, rfl, by decide +kernel, rfl, by decide +kernel, by decide +kernel⟩
theorem sc_is_worth : FnScope ["value"] ["value"] (defScope s_is_worth) := ⟨rfl, rfl, rfl, by decide +kernel, rfl, by decide +kernel, by decide +kernel⟩
theorem sc_parse : FnScope ["text", "reader", "number", "line", "words", "word"] ["text"] (defScope s_parse) := ⟨rfl, rfl, rfl, by decide +kernel, rfl, by decide +kernel, by decide +kernel⟩
theorem sc_read_head : FnScope ["words", "head"] ["words"] (defScope s_read_head) := ⟨rfl, rfl, rfl, by decide +kernel, rfl, by decide +kernel, by decide +kernel⟩
theorem sc_line_roles : FnScope ["first", "role"] ["first"] (defScope s_line_roles) := ⟨rfl, rfl, rfl, by decide +kernel, rfl, by decide +kernel, by decide +kernel⟩
theorem sc_read_part : FnScope ["words"] ["words"] (defScope s_read_part) := ⟨rfl, rfl, rfl, by decide +kernel, rfl, by decide +kernel, by decide +kernel⟩
theorem sc_read_statement : FnScope ["words", "roles", "many"] ["words"] (defScope s_read_statement) := ⟨rfl, rfl, rfl, by decide +kernel, rfl, by decide +kernel, by decide +kernel⟩
theorem sc_read_worth : FnScope ["words"] ["words"] (defScope s_read_worth) := ⟨rfl, rfl, rfl, by decide +kernel, rfl, by decide +kernel, by decide +kernel⟩
theorem sc_read_captured : FnScope ["words"] ["words"] (defScope s_read_captured) := ⟨rfl, rfl, rfl, by decide +kernel, rfl, by decide +kernel, by decide +kernel⟩
theorem sc_l_tape : FnScope ["_law_script", "_law_k", "_law_cell"] ["_law_script", "_law_k"] (defScope s_l_tape) := ⟨rfl, rfl, rfl, by decide +kernel, rfl, by decide +kernel, by decide +kernel⟩
theorem sc_l_draw : FnScope ["_law_tape_here", "_law_many", "_law_digit", "_law_prime", "_law_base", "_law_mixed"] ["_law_tape_here", "_law_many"] (defScope s_l_draw) := ⟨rfl, rfl, rfl, by decide +kernel, rfl, by decide +kernel, by decide +kernel⟩
theorem sc_l_kept : FnScope ["_law_text"] [] (defScope s_l_kept) := ⟨rfl, rfl, rfl, by decide +kernel, rfl, by decide +kernel, by decide +kernel⟩
theorem sc_l_signs : FnScope [] [] (defScope s_l_signs) := ⟨rfl, rfl, rfl, by decide +kernel, rfl, by decide +kernel, by decide +kernel⟩
theorem sc_l_spelled : FnScope ["_law_tape_here", "_law_used", "_law_shape", "_law_size", "_law_word_here", "_law_place"] ["_law_tape_here", "_law_used"] (defScope s_l_spelled) := ⟨rfl, rfl, rfl, by decide +kernel, rfl, by decide +kernel, by decide +kernel⟩
theorem sc_l_ident : FnScope ["_law_tape_here", "_law_used", "_law_word_here", "_law_number"] ["_law_tape_here", "_law_used"] (defScope s_l_ident) := ⟨rfl, rfl, rfl, by decide +kernel, rfl, by decide +kernel, by decide +kernel⟩
theorem sc_l_word : FnScope ["_law_tape_here", "_law_size", "_law_word_here", "_law_place"] ["_law_tape_here"] (defScope s_l_word) := ⟨rfl, rfl, rfl, by decide +kernel, rfl, by decide +kernel, by decide +kernel⟩
theorem sc_l_heads : FnScope ["_law_tape_here", "_law_most", "_law_heads_here", "_law_step", "_law_kind", "_law_old", "_law_ident_here", "_law_head_here"] ["_law_tape_here", "_law_most"] (defScope s_l_heads) := ⟨rfl, rfl, rfl, by decide +kernel, rfl, by decide +kernel, by decide +kernel⟩
theorem sc_l_chosen : FnScope ["_law_tape_here", "_law_heads_here", "_law_kinds", "_law_everything", "_law_head_here", "_law_pool"] ["_law_tape_here", "_law_heads_here", "_law_kinds"] (defScope s_l_chosen) := ⟨rfl, rfl, rfl, by decide +kernel, rfl, by decide +kernel, by decide +kernel⟩
theorem sc_l_item : FnScope ["_law_tape_here", "_law_heads_here", "_law_shape", "_law_level", "_law_step", "_law_kinds"] ["_law_tape_here", "_law_heads_here", "_law_shape", "_law_level"] (defScope s_l_item) := ⟨rfl, rfl, rfl, by decide +kernel, rfl, by decide +kernel, by decide +kernel⟩
theorem sc_l_rows : FnScope ["_law_tape_here", "_law_heads_here", "_law_level", "_law_shapes", "_law_rows_here", "_law_step", "_law_word_here", "_law_shape", "_law_sign"] ["_law_tape_here", "_law_heads_here", "_law_level"] (defScope s_l_rows) := ⟨rfl, rfl, rfl, by decide +kernel, rfl, by decide +kernel, by decide +kernel⟩
theorem sc_l_parts : FnScope ["_law_script", "_law_most", "_law_heads_here", "_law_parts_here", "_law_place", "_law_tape_here", "_law_kind", "_law_ident_here", "_law_setting"] ["_law_script", "_law_most"] (defScope s_l_parts) := ⟨rfl, rfl, rfl, by decide +kernel, rfl, by decide +kernel, by decide +kernel⟩
theorem sc_l_blocks : FnScope ["_law_statement"] ["_law_statement"] (defScope s_l_blocks) := ⟨rfl, rfl, rfl, by decide +kernel, rfl, by decide +kernel, by decide +kernel⟩
theorem sc_l_head : FnScope ["_law_statement", "_law_word_here", "_law_value", "_law_text", "_law_item_here"] ["_law_statement"] (defScope s_l_head) := ⟨rfl, rfl, rfl, by decide +kernel, rfl, by decide +kernel, by decide +kernel⟩
theorem sc_l_statement_lines : FnScope ["_law_statement", "_law_pad", "_law_lines_here", "_law_blocks_here", "_law_place", "_law_inner"] ["_law_statement", "_law_pad"] (defScope s_l_statement_lines) := ⟨rfl, rfl, rfl, by decide +kernel, rfl, by decide +kernel, by decide +kernel⟩
theorem sc_l_lines : FnScope ["_law_parts_here", "_law_lines_here", "_law_part", "_law_statement"] ["_law_parts_here"] (defScope s_l_lines) := ⟨rfl, rfl, rfl, by decide +kernel, rfl, by decide +kernel, by decide +kernel⟩
theorem sc_l_noisy_rows : FnScope ["_law_tape_here", "_law_rows_here", "_law_found", "_law_statement", "_law_blocks_here", "_law_place"] ["_law_tape_here", "_law_rows_here"] (defScope s_l_noisy_rows) := ⟨rfl, rfl, rfl, by decide +kernel, rfl, by decide +kernel, by decide +kernel⟩
theorem sc_l_noisy_parts : FnScope ["_law_tape_here", "_law_parts_here", "_law_found", "_law_part"] ["_law_tape_here", "_law_parts_here"] (defScope s_l_noisy_parts) := ⟨rfl, rfl, rfl, by decide +kernel, rfl, by decide +kernel, by decide +kernel⟩
theorem sc_l_spaced : FnScope ["_law_tape_here", "_law_text", "_law_line", "_law_word_here"] ["_law_tape_here", "_law_text"] (defScope s_l_spaced) := ⟨rfl, rfl, rfl, by decide +kernel, rfl, by decide +kernel, by decide +kernel⟩
theorem sc_l_noise : FnScope ["_law_tape_here", "_law_notes", "_law_step"] ["_law_tape_here"] (defScope s_l_noise) := ⟨rfl, rfl, rfl, by decide +kernel, rfl, by decide +kernel, by decide +kernel⟩
theorem sc_l_noisy : FnScope ["_law_tape_here", "_law_parts_here", "_law_lines_here", "_law_firsts", "_law_first", "_law_text"] ["_law_tape_here", "_law_parts_here"] (defScope s_l_noisy) := ⟨rfl, rfl, rfl, by decide +kernel, rfl, by decide +kernel, by decide +kernel⟩
theorem sc_law : FnScope ["_law_script", "_law_parts_here", "_law_lines_here", "_law_firsts", "_law_made"] ["_law_script"] (defScope s_law) := ⟨rfl, rfl, rfl, by decide +kernel, rfl, by decide +kernel, by decide +kernel⟩
theorem sc_Begun_init : FnScope ["self", "line", "head"] ["self", "line", "head"] (defScope s_Begun_init) := ⟨rfl, rfl, rfl, by decide +kernel, rfl, by decide +kernel, by decide +kernel⟩
theorem sc_Begun_divide : FnScope ["self", "word"] ["self", "word"] (defScope s_Begun_divide) := ⟨rfl, rfl, rfl, by decide +kernel, rfl, by decide +kernel, by decide +kernel⟩
theorem sc_Begun_whole : FnScope ["self", "groups", "rows"] ["self"] (defScope s_Begun_whole) := ⟨rfl, rfl, rfl, by decide +kernel, rfl, by decide +kernel, by decide +kernel⟩
theorem sc_Reader_init : FnScope ["self"] ["self"] (defScope s_Reader_init) := ⟨rfl, rfl, rfl, by decide +kernel, rfl, by decide +kernel, by decide +kernel⟩
theorem sc_Reader_take_line : FnScope ["self", "number", "words"] ["self", "number", "words"] (defScope s_Reader_take_line) := ⟨rfl, rfl, rfl, by decide +kernel, rfl, by decide +kernel, by decide +kernel⟩
theorem sc_Reader_begin : FnScope ["self", "number", "words", "head"] ["self", "number", "words"] (defScope s_Reader_begin) := ⟨rfl, rfl, rfl, by decide +kernel, rfl, by decide +kernel, by decide +kernel⟩
theorem sc_Reader_end : FnScope ["self", "number", "done"] ["self", "number"] (defScope s_Reader_end) := ⟨rfl, rfl, rfl, by decide +kernel, rfl, by decide +kernel, by decide +kernel⟩
theorem sc_Reader_put : FnScope ["self", "node"] ["self", "node"] (defScope s_Reader_put) := ⟨rfl, rfl, rfl, by decide +kernel, rfl, by decide +kernel, by decide +kernel⟩
theorem sc_BadLine : FnScope ["self", "line"] ["self", "line"] (defScope s_BadLine) := ⟨rfl, rfl, rfl, by decide +kernel, rfl, by decide +kernel, by decide +kernel⟩
theorem sc_TooDeep : FnScope ["self", "line"] ["self", "line"] (defScope s_TooDeep) := ⟨rfl, rfl, rfl, by decide +kernel, rfl, by decide +kernel, by decide +kernel⟩
theorem sc_Unclosed : FnScope ["self", "line"] ["self", "line"] (defScope s_Unclosed) := ⟨rfl, rfl, rfl, by decide +kernel, rfl, by decide +kernel, by decide +kernel⟩
section
variable {P : Program} {w : World} {K : PySem.W.Frag} {mg : Str → Option Value} {base : Heap}
theorem ok_BadLine (T : Txt K mg w) : FnOk P w K mg base CX0 1 T.c_BadLine.f T.c_BadLine.d ["self", "line"] (spE1 T.c_BadLine.C "line") := by
  refine T.c_BadLine.F.ok sc_BadLine (fun vs H Q E h => ?_) (fun cdv A outer s H vs Q E hr h => ?_)
  · obtain ⟨a, v, rfl, _⟩ := h
    rfl
  · obtain ⟨a, v, rfl, ha, q⟩ := h
    exact ⟨_, pss_one (ps_ost (pv 0) (pv 1)), ⟨v, rfl, .ref a, rfl, a, T.c_BadLine.C, rfl, T.c_BadLine.e.ox, T.c_BadLine.n.no _ (by simp), .inl ⟨ha, fun dx h1 h2 => q dx h1 h2⟩⟩⟩
theorem ok_TooDeep (T : Txt K mg w) : FnOk P w K mg base CX0 1 T.c_TooDeep.f T.c_TooDeep.d ["self", "line"] (spE1 T.c_TooDeep.C "line") := by
  refine T.c_TooDeep.F.ok sc_TooDeep (fun vs H Q E h => ?_) (fun cdv A outer s H vs Q E hr h => ?_)
  · obtain ⟨a, v, rfl, _⟩ := h
    rfl
  · obtain ⟨a, v, rfl, ha, q⟩ := h
    exact ⟨_, pss_one (ps_ost (pv 0) (pv 1)), ⟨v, rfl, .ref a, rfl, a, T.c_TooDeep.C, rfl, T.c_TooDeep.e.ox, T.c_TooDeep.n.no _ (by simp), .inl ⟨ha, fun dx h1 h2 => q dx h1 h2⟩⟩⟩
theorem ok_Unclosed (T : Txt K mg w) : FnOk P w K mg base CX0 1 T.c_Unclosed.f T.c_Unclosed.d ["self", "line"] (spE1 T.c_Unclosed.C "line") := by
  refine T.c_Unclosed.F.ok sc_Unclosed (fun vs H Q E h => ?_) (fun cdv A outer s H vs Q E hr h => ?_)
  · obtain ⟨a, v, rfl, _⟩ := h
    rfl
  · obtain ⟨a, v, rfl, ha, q⟩ := h
    exact ⟨_, pss_one (ps_ost (pv 0) (pv 1)), ⟨v, rfl, .ref a, rfl, a, T.c_Unclosed.C, rfl, T.c_Unclosed.e.ox, T.c_Unclosed.n.no _ (by simp), .inl ⟨ha, fun dx h1 h2 => q dx h1 h2⟩⟩⟩
end
end Own

set_option Elab.async false
set_option linter.all false
set_option maxRecDepth 100000
set_option maxHeartbeats 4000000
namespace Own
open PySem PySem.Spec PyProof.Rows L2
section
variable {P : Program} {w : World} {K : PySem.W.Frag} {mg : Str → Option Value} {base : Heap}
def spIsWord : Sp := fun vs H Q _ => ∃ x : Str, vs = [.str x] ∧ x.length ≤ 100000 ∧ ∀ H', Same H H' → Q (.bl (isWord x)) H'
theorem ok_is_word (T : Txt K mg w) : FnOk P w K mg base CX0 1 T.d_is_word.a T.d_is_word.d ["value"] spIsWord := by
  refine T.d_is_word.F.ok sc_is_word (fun vs H Q E h => ?_) (fun cdv A outer s H vs Q E hr h => ?_)
  · obtain ⟨x, rfl, _⟩ := h
    rfl
  · obtain ⟨x, rfl, hl, q⟩ := h
    refine ⟨_, (pss_cons (ps_if (PW.pt (pw_or (pt_not (pt_val (pe_callB call_isi (by rfl) T.z_isinstance (by decide +kernel) (pa_cons (pv 0) (pa_cons (pe_bltn (v := .ty "str") rfl T.z_str (by decide +kernel) rfl) pa_nil))))) (pw_or1 (pt_not (pt_chain op_le op_le pe_int (pe_callB call_len_str (by rfl) T.z_len (by decide +kernel) (pa_cons (pv 0) pa_nil)) (pe_glob (v := .int 12) rfl T.m_LONGEST_WORD ⟨_, rfl⟩)))))) (pss_one (ps_ret pe_bl)) pss_nil)
      (pss_one (ps_ret (pe_callB (cr_all rfl) (by rfl) T.z_all (by decide +kernel) (pa_cons (pe_lc (own := [("sign", 1)]) (g := gName 1) (tt := tYes) (by rfl) sc_is_word.nd (pi_str (pv 0)) (blkOk_by (own := [("sign", 1)]) (N := ["value", "sign"]) (sc := defScope s_is_word) (by decide +kernel)) (fun _ _ _ _ _ => pg_name (i := 1) sc_is_word.nd rfl (Or.inl rfl)) (fun _ _ _ _ _ => pts_nil) (fun _ _ _ _ _ => (pe_or (pe_cmpR op_in_sign (pv 1) (pe_glob (v := .str lettersS) rfl T.m_LETTERS ⟨_, rfl⟩) rfl) (pe_one (pe_cmpR op_in_sign (pv 1) (pe_glob (v := .str digitsS) rfl T.m_DIGITS ⟨_, rfl⟩) rfl))))) pa_nil))))), ?_⟩
    (try simp only [tIxO, rIsB, rNotB, tSeq, tIfS, tTest, tB, tOp, tUn, tVar, tC, tAsg, gName, tRet, tRetN, tCB, tCons, tNil, tLst_eq, tTup_eq, tDNewK_eq, tNext, tPar, tM0, tM1, tSl, tNoPart, tPart, rSlS, tAug, tAugS, tExf_eq, ipI, tChain, tCall, tDrop, tBM, tAnd, tOr, tNot, tAndV, tOrV, tNotV, tIf, tIsN, tNotN, rI, rI0, rU, rEq, rNe, gSub, cx_K, cx_K2, L2.start, wipe, scal_ii, scal_ss, scal_bb, scal_is, scal_si, scal_nn, List.map_cons, List.map_nil, List.length_cons, List.length_nil, List.cons_append, List.nil_append, List.append_nil, List.replicate, List.getElem?_cons_zero, List.getElem?_cons_succ, Option.some.injEq, exists_and_left, exists_eq_left', exists_eq_left, exists_eq, exists_eq', V.int.injEq, V.ref.injEq, V.str.injEq, V.bl.injEq, List.cons.injEq, and_true, true_and, false_and, exists_false, or_false, false_or, reduceCtorEq, List.set_cons_zero, List.set_cons_succ, Nat.reduceAdd, Nat.reduceSub, Int.reduceToNat, decide_eq_true_eq, if_true, if_false, Bool.false_eq_true, Bool.not_true, Bool.not_false, Bool.true_eq_false, ite_false, ite_true, ne_eq, not_false_eq_true, Int.reduceEq])
    refine isi_go (.ty "str") (.base (.str _)) T.q_str_str ⟨_, rfl, ?_⟩
    have el : x.length = (TL.tl x).length := TL.len_tl x
    refine ite2 (fun z => by cases z) (fun _ => ⟨Nat.le_trans hl (by decide), ?_⟩)
    have no : ¬ (1 ≤ (TL.tl x).length ∧ (TL.tl x).length ≤ 12) → Q (.bl false) H := fun n => by
      have e : isWord x = false := by
        unfold isWord
        by_cases a : 1 ≤ (TL.tl x).length
        · rw [decide_eq_false (show ¬ (TL.tl x).length ≤ 12 from fun b => n ⟨a, b⟩)]
          simp
        · rw [decide_eq_false a]
          simp
      rw [← e]
      exact q H fun _ _ e => e
    refine ite2 (fun h1 => ?_) (fun h1 => no fun ⟨a, b⟩ => h1 (by omega))
    refine ite2 (fun h2 => ?_) (fun h2 => ?_)
    · refine no fun ⟨a, b⟩ => ?_
      have : ¬ ((x.length : Int) ≤ 12) := by simpa using h2
      omega
    · have h3 : (x.length : Int) ≤ 12 := by simpa using h2
      refine lcStr_go (fun c => .bl (sgn c)) (fun Q q => ⟨_, rfl, q⟩) hl (fun c H' R r => ?_) (fun D H' n s r' => ?_)
      · (try simp only [tIxO, rIsB, rNotB, tSeq, tIfS, tTest, tB, tOp, tUn, tVar, tC, tAsg, gName, tRet, tRetN, tCB, tCons, tNil, tLst_eq, tTup_eq, tDNewK_eq, tNext, tPar, tM0, tM1, tSl, tNoPart, tPart, rSlS, tAug, tAugS, tExf_eq, ipI, tChain, tCall, tDrop, tBM, tAnd, tOr, tNot, tAndV, tOrV, tNotV, tIf, tIsN, tNotN, rI, rI0, rU, rEq, rNe, gSub, cx_K, cx_K2, L2.start, wipe, scal_ii, scal_ss, scal_bb, scal_is, scal_si, scal_nn, List.map_cons, List.map_nil, List.length_cons, List.length_nil, List.cons_append, List.nil_append, List.append_nil, List.replicate, List.getElem?_cons_zero, List.getElem?_cons_succ, Option.some.injEq, exists_and_left, exists_eq_left', exists_eq_left, exists_eq, exists_eq', V.int.injEq, V.ref.injEq, V.str.injEq, V.bl.injEq, List.cons.injEq, and_true, true_and, false_and, exists_false, or_false, false_or, reduceCtorEq, List.set_cons_zero, List.set_cons_succ, Nat.reduceAdd, Nat.reduceSub, Int.reduceToNat, decide_eq_true_eq, if_true, if_false, Bool.false_eq_true, Bool.not_true, Bool.not_false, Bool.true_eq_false, ite_false, ite_true, ne_eq, not_false_eq_true, Int.reduceEq])
        refine ⟨c, rfl, ite2 (fun h => ?_) (fun h => ?_)⟩
        · have : sgn c = true := by
            have z : ltr c = true := by rw [← in_letters]; exact decide_eq_true h
            simp [sgn, z]
          rw [this] at r
          exact r
        · have z : ltr c = false := by rw [← in_letters]; exact decide_eq_false h
          have e : sgn c = decide (c ∈ digitsS.cps.toList) := by
            unfold sgn
            rw [z, in_digits]
            rfl
          rw [e] at r
          exact ⟨c, rfl, r⟩
      · obtain ⟨bs, eb, ab⟩ := all_bl (TL.tl x) sgn
        rw [eb] at r'
        refine ⟨D, bs, rfl, .inl (.inl r'), ?_⟩
        have e : isWord x = bs.all id := by
          rw [ab]
          unfold isWord
          rw [decide_eq_true (show 1 ≤ (TL.tl x).length by omega), decide_eq_true (show (TL.tl x).length ≤ 12 by omega)]
          rfl
        rw [← e]
        exact q H' s
def spIsIdent : Sp := fun vs H Q _ => ∃ x : Str, vs = [.str x] ∧ x.length ≤ 100000 ∧ ∀ H', Same H H' → Q (.bl (isIdent x)) H'
theorem ok_is_ident (T : Txt K mg w) : FnOk P w K mg base CX0 2 T.d_is_ident.a T.d_is_ident.d ["value"] spIsIdent := by
  refine T.d_is_ident.F.ok sc_is_ident (fun vs H Q E h => ?_) (fun cdv A outer s H vs Q E hr h => ?_)
  · obtain ⟨x, rfl, _⟩ := h
    rfl
  · obtain ⟨x, rfl, hl, q⟩ := h
    refine ⟨_, (pss_one (ps_ret (pe_and (pe_call (ok_is_word T) (hr.mono (by decide)) (by rfl) T.d_is_word.g T.d_is_word.F.kp T.d_is_word.b .nil pass0 (pa_cons (pv 0) pa_nil)) (pe_and (pe_cmpR op_in_sign (pe_ix ix_str (pv 0) pe_int (fun _ _ => rfl)) (pe_glob (v := .str lettersS) rfl T.m_LETTERS ⟨_, rfl⟩) rfl) (pe_one (pe_cmpR op_notIn_seq (pv 0) (pe_glob (v := .ref T.k_KEPT_WORDS) rfl T.m_KEPT_WORDS rfl) (by rfl))))))), ?_⟩
    (try simp only [tIxO, rIsB, rNotB, tSeq, tIfS, tTest, tB, tOp, tUn, tVar, tC, tAsg, gName, tRet, tRetN, tCB, tCons, tNil, tLst_eq, tTup_eq, tDNewK_eq, tNext, tPar, tM0, tM1, tSl, tNoPart, tPart, rSlS, tAug, tAugS, tExf_eq, ipI, tChain, tCall, tDrop, tBM, tAnd, tOr, tNot, tAndV, tOrV, tNotV, tIf, tIsN, tNotN, rI, rI0, rU, rEq, rNe, gSub, cx_K, cx_K2, L2.start, wipe, scal_ii, scal_ss, scal_bb, scal_is, scal_si, scal_nn, List.map_cons, List.map_nil, List.length_cons, List.length_nil, List.cons_append, List.nil_append, List.append_nil, List.replicate, List.getElem?_cons_zero, List.getElem?_cons_succ, Option.some.injEq, exists_and_left, exists_eq_left', exists_eq_left, exists_eq, exists_eq', V.int.injEq, V.ref.injEq, V.str.injEq, V.bl.injEq, List.cons.injEq, and_true, true_and, false_and, exists_false, or_false, false_or, reduceCtorEq, List.set_cons_zero, List.set_cons_succ, Nat.reduceAdd, Nat.reduceSub, Int.reduceToNat, decide_eq_true_eq, if_true, if_false, Bool.false_eq_true, Bool.not_true, Bool.not_false, Bool.true_eq_false, ite_false, ite_true, ne_eq, not_false_eq_true, Int.reduceEq])
    refine ⟨x, rfl, hl, fun H1 s1 => ?_⟩
    (try simp only [tIxO, rIsB, rNotB, tSeq, tIfS, tTest, tB, tOp, tUn, tVar, tC, tAsg, gName, tRet, tRetN, tCB, tCons, tNil, tLst_eq, tTup_eq, tDNewK_eq, tNext, tPar, tM0, tM1, tSl, tNoPart, tPart, rSlS, tAug, tAugS, tExf_eq, ipI, tChain, tCall, tDrop, tBM, tAnd, tOr, tNot, tAndV, tOrV, tNotV, tIf, tIsN, tNotN, rI, rI0, rU, rEq, rNe, gSub, cx_K, cx_K2, L2.start, wipe, scal_ii, scal_ss, scal_bb, scal_is, scal_si, scal_nn, List.map_cons, List.map_nil, List.length_cons, List.length_nil, List.cons_append, List.nil_append, List.append_nil, List.replicate, List.getElem?_cons_zero, List.getElem?_cons_succ, Option.some.injEq, exists_and_left, exists_eq_left', exists_eq_left, exists_eq, exists_eq', V.int.injEq, V.ref.injEq, V.str.injEq, V.bl.injEq, List.cons.injEq, and_true, true_and, false_and, exists_false, or_false, false_or, reduceCtorEq, List.set_cons_zero, List.set_cons_succ, Nat.reduceAdd, Nat.reduceSub, Int.reduceToNat, decide_eq_true_eq, if_true, if_false, Bool.false_eq_true, Bool.not_true, Bool.not_false, Bool.true_eq_false, ite_false, ite_true, ne_eq, not_false_eq_true, Int.reduceEq])
    refine ite2 (fun h => ?_) (fun h => ?_)
    · have w := word_len h
      have el : x.length = (TL.tl x).length := TL.len_tl x
      cases e : TL.tl x with
      | nil => rw [e] at el; simp at el; omega
      | cons c cs =>
        refine ixS_go (Nat.le_trans w.2 (by decide)) (c := c) (show atI (TL.tl x) ((0 : Nat) : Int) = _ by rw [e]; exact atI_nat rfl) ?_
        (try simp only [tIxO, rIsB, rNotB, tSeq, tIfS, tTest, tB, tOp, tUn, tVar, tC, tAsg, gName, tRet, tRetN, tCB, tCons, tNil, tLst_eq, tTup_eq, tDNewK_eq, tNext, tPar, tM0, tM1, tSl, tNoPart, tPart, rSlS, tAug, tAugS, tExf_eq, ipI, tChain, tCall, tDrop, tBM, tAnd, tOr, tNot, tAndV, tOrV, tNotV, tIf, tIsN, tNotN, rI, rI0, rU, rEq, rNe, gSub, cx_K, cx_K2, L2.start, wipe, scal_ii, scal_ss, scal_bb, scal_is, scal_si, scal_nn, List.map_cons, List.map_nil, List.length_cons, List.length_nil, List.cons_append, List.nil_append, List.append_nil, List.replicate, List.getElem?_cons_zero, List.getElem?_cons_succ, Option.some.injEq, exists_and_left, exists_eq_left', exists_eq_left, exists_eq, exists_eq', V.int.injEq, V.ref.injEq, V.str.injEq, V.bl.injEq, List.cons.injEq, and_true, true_and, false_and, exists_false, or_false, false_or, reduceCtorEq, List.set_cons_zero, List.set_cons_succ, Nat.reduceAdd, Nat.reduceSub, Int.reduceToNat, decide_eq_true_eq, if_true, if_false, Bool.false_eq_true, Bool.not_true, Bool.not_false, Bool.true_eq_false, ite_false, ite_true, ne_eq, not_false_eq_true, Int.reduceEq])
        have hh : headLtr x = ltr c := by
          unfold headLtr
          rw [e]
        refine ⟨c, rfl, ite2 (fun h2 => ?_) (fun h2 => ?_)⟩
        · have z : ltr c = true := by rw [← in_letters]; exact decide_eq_true h2
          refine inT_go (T.s_KEPT_WORDS _) ?_
          have ei : isIdent x = (if true then !keptW.contains x else keptW.contains x) := by
            unfold isIdent
            rw [h, hh, z]
            rfl
          rw [← ei]
          exact q H1 s1
        · have z : ltr c = false := by rw [← in_letters]; exact decide_eq_false h2
          have ei : isIdent x = false := by
            unfold isIdent
            rw [hh, z]
            simp
          rw [← ei]
          exact q H1 s1
    · have ei : isIdent x = false := by
        unfold isIdent
        rw [Bool.eq_false_iff.mpr h]
        rfl
      rw [← ei]
      exact q H1 s1
theorem ixT2_go {K : PySem.W.Frag} {p : Addr} {xs : List V} {i : Int} {v : V} {H : Hp} {Q : VK} (h : SqT K H p xs) (e : atI xs i = some v) (q : Q v H) : rIxT K (.ref p) (.int i) H Q := ⟨p, xs, i, v, rfl, rfl, h, e, q⟩
theorem ty_tup {K : PySem.W.Frag} {H : Hp} {a : Addr} {xs : List V} (h : SqT K H a xs) : TyX K H (.ref a) (.type "tuple") := by
  rcases h with (h | ⟨o, h⟩) | ⟨o, its, n, h1, h2, _⟩
  · exact .base (.tup h)
  · exact .fTuple h
  · exact .kTuple h1 h2
theorem sqT_len {K : PySem.W.Frag} {H : Hp} {v : V} {ds : List PyData} (h : Dp K H v (.tuple ds)) : ∃ a xs, v = .ref a ∧ SqT K H a xs ∧ DpAll K H xs ds ∧ xs.length = ds.length := by
  obtain ⟨a, xs, e, h1, h2⟩ := Dp.tupD h
  exact ⟨a, xs, e, h1, h2, DpAll.len h2⟩
def StD : Nat → PyData → Prop
  | 0, _ => False
  | n + 1, x => ∃ first rs ds, x = .tuple (.str first :: ds) ∧ (first, rs) ∈ V_STATEMENTS ∧ FitL (StD n) rs ds
theorem word_few {x : Str} (h : isWord x = true) : x.length ≤ 100000 := Nat.le_trans (word_len h).2 (by decide)
theorem ident_word {x : Str} (h : isIdent x = true) : isWord x = true := by
  unfold isIdent at h
  simp only [Bool.and_eq_true] at h
  exact h.1.1
theorem dp_strV {K : PySem.W.Frag} {H : Hp} {v : V} {x : Str} (h : Dp K H v (.str x)) : v = .str x := by
  cases h
  rfl
def spHeaded (K : PySem.W.Frag) : Sp := fun vs H Q _ => ∃ (v : V) (f : Str) (ds : List PyData), vs = [v] ∧ Dp K H v (.tuple (.str f :: ds)) ∧ Q (.bl true) H
theorem ok_is_headed (T : Txt K mg w) : FnOk P w K mg base CX0 1 T.d_is_headed.a T.d_is_headed.d ["value"] (spHeaded K) := by
  refine T.d_is_headed.F.ok sc_is_headed (fun vs H Q E h => ?_) (fun cdv A outer s H vs Q E hr h => ?_)
  · obtain ⟨v, _, _, rfl, _⟩ := h
    rfl
  · obtain ⟨v, f, ds, rfl, hd, q⟩ := h
    have hu := hr.units
    refine ⟨_, (pss_one (ps_ret (pe_and (pe_callB call_isi (by rfl) T.z_isinstance (by decide +kernel) (pa_cons (pv 0) (pa_cons (pe_bltn (v := .ty "tuple") rfl T.z_tuple (by decide +kernel) rfl) pa_nil))) (pe_and (pe_cmpR op_gt (pe_callB call_lenT (by rfl) T.z_len (by decide +kernel) (pa_cons (pv 0) pa_nil)) pe_int (nomark _)) (pe_one (pe_callB call_isi (by rfl) T.z_isinstance (by decide +kernel) (pa_cons (pe_ix ix_tup (pv 0) pe_int (fun _ _ => rfl)) (pa_cons (pe_bltn (v := .ty "str") rfl T.z_str (by decide +kernel) rfl) pa_nil)))))))), ?_⟩
    (try simp only [tIxO, rIsB, rNotB, tSeq, tIfS, tTest, tB, tOp, tUn, tVar, tC, tAsg, gName, tRet, tRetN, tCB, tCons, tNil, tLst_eq, tTup_eq, tDNewK_eq, tNext, tPar, tM0, tM1, tSl, tNoPart, tPart, rSlS, tAug, tAugS, tExf_eq, ipI, tChain, tCall, tDrop, tBM, tAnd, tOr, tNot, tAndV, tOrV, tNotV, tIf, tIsN, tNotN, rI, rI0, rU, rEq, rNe, gSub, cx_K, cx_K2, L2.start, wipe, scal_ii, scal_ss, scal_bb, scal_is, scal_si, scal_nn, List.map_cons, List.map_nil, List.length_cons, List.length_nil, List.cons_append, List.nil_append, List.append_nil, List.replicate, List.getElem?_cons_zero, List.getElem?_cons_succ, Option.some.injEq, exists_and_left, exists_eq_left', exists_eq_left, exists_eq, exists_eq', V.int.injEq, V.ref.injEq, V.str.injEq, V.bl.injEq, List.cons.injEq, and_true, true_and, false_and, exists_false, or_false, false_or, reduceCtorEq, List.set_cons_zero, List.set_cons_succ, Nat.reduceAdd, Nat.reduceSub, Int.reduceToNat, decide_eq_true_eq, if_true, if_false, Bool.false_eq_true, Bool.not_true, Bool.not_false, Bool.true_eq_false, ite_false, ite_true, ne_eq, not_false_eq_true, Int.reduceEq])
    obtain ⟨a, xs, rfl, hs, hx, hl⟩ := sqT_len hd
    cases hx with
    | cons h0 hx =>
      obtain rfl := dp_strV h0
      refine isi_go (.ty "tuple") (ty_tup hs) T.q_tup_tup ⟨_, rfl, ite2 (fun _ => ?_) (fun z => absurd rfl z)⟩
      refine ⟨a, rfl, _, hs, ite2 (fun _ => ?_) (fun z => absurd (show (0 : Int) < _ by simp <;> omega) z)⟩
      exact ixT2_go hs (atI_nat (j := 0) rfl) (isi_go (.ty "str") (.base (.str _)) T.q_str_str q)
def spWorth (K : PySem.W.Frag) : Sp := fun vs H Q _ => ∃ (v : V) (d : PyData) (st : PyData → Prop), vs = [v] ∧ Dp K H v d ∧ FitV st "worth" d ∧ ∀ H', Same H H' → Q (.bl true) H'
theorem ok_is_worth (T : Txt K mg w) : FnOk P w K mg base CX0 3 T.d_is_worth.a T.d_is_worth.d ["value"] (spWorth K) := by
  refine T.d_is_worth.F.ok sc_is_worth (fun vs H Q E h => ?_) (fun cdv A outer s H vs Q E hr h => ?_)
  · obtain ⟨v, d, _, rfl, _⟩ := h
    rfl
  · obtain ⟨v, d, st, rfl, hd, hf, q⟩ := h
    have hu := hr.units
    refine ⟨_, (pss_cons (ps_if (PW.pt (pw_or (pt_not (pt_val (pe_call (ok_is_headed T) (hr.mono (by decide)) (by rfl) T.d_is_headed.g T.d_is_headed.F.kp T.d_is_headed.b .nil pass0 (pa_cons (pv 0) pa_nil)))) (pw_or1 (pt_cmpR op_ne (pe_callB call_lenT (by rfl) T.z_len (by decide +kernel) (pa_cons (pv 0) pa_nil)) pe_int (nomark _))))) (pss_one (ps_ret pe_bl)) pss_nil)
      (pss_cons (ps_if (pt_cmpR op_eq (pe_ix ix_tup (pv 0) pe_int (fun _ _ => rfl)) pe_str (nomark _)) (pss_one (ps_ret (pe_call (ok_is_word T) (hr.mono (by decide)) (by rfl) T.d_is_word.g T.d_is_word.F.kp T.d_is_word.b .nil pass0 (pa_cons (pe_ix ix_tup (pv 0) pe_int (fun _ _ => rfl)) pa_nil)))) pss_nil)
      (pss_one (ps_ret (pe_and (pe_cmpR op_eq (pe_ix ix_tup (pv 0) pe_int (fun _ _ => rfl)) pe_str (nomark _)) (pe_one (pe_call (ok_is_ident T) (hr.mono (by decide)) (by rfl) T.d_is_ident.g T.d_is_ident.F.kp T.d_is_ident.b .nil pass0 (pa_cons (pe_ix ix_tup (pv 0) pe_int (fun _ _ => rfl)) pa_nil)))))))), ?_⟩
    (try simp only [tIxO, rIsB, rNotB, tSeq, tIfS, tTest, tB, tOp, tUn, tVar, tC, tAsg, gName, tRet, tRetN, tCB, tCons, tNil, tLst_eq, tTup_eq, tDNewK_eq, tNext, tPar, tM0, tM1, tSl, tNoPart, tPart, rSlS, tAug, tAugS, tExf_eq, ipI, tChain, tCall, tDrop, tBM, tAnd, tOr, tNot, tAndV, tOrV, tNotV, tIf, tIsN, tNotN, rI, rI0, rU, rEq, rNe, gSub, cx_K, cx_K2, L2.start, wipe, scal_ii, scal_ss, scal_bb, scal_is, scal_si, scal_nn, List.map_cons, List.map_nil, List.length_cons, List.length_nil, List.cons_append, List.nil_append, List.append_nil, List.replicate, List.getElem?_cons_zero, List.getElem?_cons_succ, Option.some.injEq, exists_and_left, exists_eq_left', exists_eq_left, exists_eq, exists_eq', V.int.injEq, V.ref.injEq, V.str.injEq, V.bl.injEq, List.cons.injEq, and_true, true_and, false_and, exists_false, or_false, false_or, reduceCtorEq, List.set_cons_zero, List.set_cons_succ, Nat.reduceAdd, Nat.reduceSub, Int.reduceToNat, decide_eq_true_eq, if_true, if_false, Bool.false_eq_true, Bool.not_true, Bool.not_false, Bool.true_eq_false, ite_false, ite_true, ne_eq, not_false_eq_true, Int.reduceEq])
    obtain ⟨f, x, rfl, alt⟩ : ∃ f x : Str, d = .tuple [.str f, .str x] ∧ ((f = "word" ∧ isWord x = true) ∨ (f = "of" ∧ isIdent x = true)) := by
      generalize er : ("worth" : Str) = r at hf
      cases hf with
      | wword h => exact ⟨_, _, rfl, .inl ⟨rfl, h⟩⟩
      | wof h => exact ⟨_, _, rfl, .inr ⟨rfl, h⟩⟩
      | ident hr h => subst er; exact absurd hr (by decide +kernel)
      | _ => exact absurd er (by decide +kernel)
    obtain ⟨a, xs, rfl, hs, hx, hl⟩ := sqT_len hd
    cases hx with
    | cons h0 hx =>
      obtain rfl := dp_strV h0
      cases hx with
      | cons h1 hx =>
        obtain rfl := dp_strV h1
        cases hx
        refine ⟨_, _, _, rfl, hd, _, rfl, ite2 (fun z => by cases z) (fun _ => ⟨a, rfl, _, hs, ite2 (fun z => by simp at z) (fun _ => ?_)⟩)⟩
        rcases alt with ⟨ef, ok⟩ | ⟨ef, ok⟩
        · subst ef
          refine ixT2_go hs (atI_nat (j := 0) rfl) ⟨rfl, ite2 (fun _ => ?_) (fun z => absurd rfl z)⟩
          refine ixT2_go hs (atI_nat (j := 1) rfl) ⟨x, rfl, word_few ok, fun H1 s1 => ?_⟩
          rw [ok]
          exact q H1 s1
        · subst ef
          refine ixT2_go hs (atI_nat (j := 0) rfl) ⟨rfl, ite2 (fun z => absurd z (by decide +kernel)) (fun _ => ?_)⟩
          refine ixT2_go hs (atI_nat (j := 0) rfl) ⟨rfl, ite2 (fun _ => ?_) (fun z => absurd rfl z)⟩
          refine ixT2_go hs (atI_nat (j := 1) rfl) ⟨x, rfl, word_few (ident_word ok), fun H1 s1 => ?_⟩
          rw [ok]
          exact q H1 s1

end
end Own

set_option Elab.async false
set_option linter.all false
set_option maxRecDepth 100000
set_option maxHeartbeats 4000000
namespace Own
open PySem PySem.Spec PyProof.Rows L2
section
variable {P : Program} {w : World} {K : PySem.W.Frag} {mg : Str → Option Value} {base : Heap}
theorem dpA_mem {K : PySem.W.Frag} {H : Hp} : ∀ {vs : List V} {ds : List PyData} {v : V}, DpAll K H vs ds → v ∈ vs → ∃ d ∈ ds, Dp K H v d
  | _, _, _, .nil, h => by cases h
  | _, _, _, .cons h a, m => by
    rcases List.mem_cons.mp m with rfl | m
    · exact ⟨_, List.mem_cons_self, h⟩
    · obtain ⟨d, md, hd⟩ := dpA_mem a m
      exact ⟨d, List.mem_cons_of_mem _ md, hd⟩
/-- [b(x) for x in xs] over a tuple, every call True -/
theorem lcAllT_go {K : PySem.W.Frag} {tl : TE} {j : Nat} {te : TE} {σ : L2.St} {H : Hp} {Q : VK} {a : Addr} {xs : List V} (ht : ∀ Q : VK, Q (.ref a) H → tl σ H Q) (ha : SqT K H a xs) (hz : xs.length ≤ 100000)
    (hte : ∀ x H2 (R : VK), x ∈ xs → Same H H2 → (∀ H3, Same H2 H3 → R (.bl true) H3) → te ((wipe σ [j]).set j (some x)) H2 R)
    (q : ∀ D H2, Same H H2 → H2 D = some (.lst ((List.replicate xs.length true).map V.bl)) → Q (.ref D) H2) : tLc (iTup K tl) (gName j) tYes te [j] σ H Q := by
  refine lcW_go (wi := iTup K tl) (walk_tup (K := K) (a := a) (xs := xs)) (fun D i acc H2 => acc = (List.replicate i true).map V.bl ∧ ExT D H H2) (fun R r => ht _ ⟨a, rfl, ⟨_, ha⟩, r⟩) (fun D i acc H2 _ p hD => sqT_same (ExT.toSame hD p.2) ha) (fun D hD => ⟨rfl, exT_upd (.refl D H)⟩) (fun D i acc H2 x H3 hi hD rD la p y => ?_) (fun D acc H2 hD rD la p => ?_)
  · obtain ⟨rfl, v⟩ := p
    obtain ⟨rfl, hx⟩ := y
    refine ⟨wipe_set, ?_⟩
    show te _ _ _
    refine hte x _ _ (List.mem_of_getElem? hx) (ExT.toSame hD v) fun H4 s4 => ⟨_, s4 _ _ rD, ?_, _, upd_same, ?_, ?_, exT_upd (v.same s4)⟩
    · exact Nat.lt_of_le_of_lt la (Nat.lt_of_lt_of_le hi (Nat.le_trans hz (by decide)))
    · rw [List.length_append]
      exact Nat.succ_le_succ la
    · rw [show List.replicate (i + 1) true = List.replicate i true ++ [true] from List.replicate_succ', List.map_append]
      rfl
  · obtain ⟨rfl, v⟩ := p
    exact q D H2 (ExT.toSame hD v) rD
theorem all_rep (n : Nat) : (List.replicate n true).all id = true := by
  induction n with
  | zero => rfl
  | succ n ih => rw [List.replicate_succ, List.all_cons, ih]; rfl
def spStmt (K : PySem.W.Frag) (n : Nat) : Sp := fun vs H Q _ => ∃ (v : V) (d : PyData), vs = [v, .int (9 - (n : Int))] ∧ n ≤ 9 ∧ Dp K H v d ∧ StD n d ∧ ∀ H', Same H H' → Q (.bl true) H'
def spFits (K : PySem.W.Frag) (n : Nat) : Sp := fun vs H Q _ => ∃ (r : Str) (v : V) (d : PyData), vs = [.str r, v, .int (9 - (n : Int))] ∧ n ≤ 9 ∧ Dp K H v d ∧ FitV (StD n) r d ∧ ∀ H', Same H H' → Q (.bl true) H'
theorem ok_fits_of (T : Txt K mg w) {n : Nat} (ih : FnOk P w K mg base CX0 (3 * n + 3) T.d_is_statement.a T.d_is_statement.d ["value", "blocks"] (spStmt K n)) : FnOk P w K mg base CX0 (3 * n + 4) T.d_fits.a T.d_fits.d ["role", "value", "blocks"] (spFits K n) := by
  refine T.d_fits.F.ok sc_fits (fun vs H Q E h => ?_) (fun cdv A outer s H vs Q E hr h => ?_)
  · obtain ⟨_, _, _, rfl, _⟩ := h
    rfl
  · obtain ⟨r, v, d, rfl, n9, hd, hf, q⟩ := h
    have hu := hr.units
    refine ⟨_, (pss_cons (ps_if (pt_cmpR op_eq (pv 0) pe_str (nomark _)) (pss_one (ps_ret (pe_and (pe_callB call_isi (by rfl) T.z_isinstance (by decide +kernel) (pa_cons (pv 1) (pa_cons (pe_bltn (v := .ty "tuple") rfl T.z_tuple (by decide +kernel) rfl) pa_nil))) (pe_one (pe_callB (cr_all rfl) (by rfl) T.z_all (by decide +kernel) (pa_cons (pe_lc (own := [("row", 3)]) (g := gName 3) (tt := tYes) (by rfl) sc_fits.nd (pi_tup (pv 1)) (blkOk_by (own := [("row", 3)]) (N := ["role", "value", "blocks", "row", "ident"]) (sc := defScope s_fits) (by decide +kernel)) (fun _ _ _ _ _ => pg_name (i := 3) sc_fits.nd rfl (Or.inl rfl)) (fun _ _ _ _ _ => pts_nil) (fun _ _ _ _ _ => (pe_call ih (hr.mono (by omega)) (by rfl) T.d_is_statement.g T.d_is_statement.F.kp T.d_is_statement.b .nil pass0 (pa_cons (pv 3) (pa_cons (pv 2) pa_nil))))) pa_nil)))))) pss_nil)
      (pss_cons (ps_if (pt_cmpR op_eq (pv 0) pe_str (nomark _)) (pss_one (ps_ret (pe_and (pe_callB call_isi (by rfl) T.z_isinstance (by decide +kernel) (pa_cons (pv 1) (pa_cons (pe_bltn (v := .ty "tuple") rfl T.z_tuple (by decide +kernel) rfl) pa_nil))) (pe_one (pe_callB (cr_all rfl) (by rfl) T.z_all (by decide +kernel) (pa_cons (pe_lc (own := [("ident", 4)]) (g := gName 4) (tt := tYes) (by rfl) sc_fits.nd (pi_tup (pv 1)) (blkOk_by (own := [("ident", 4)]) (N := ["role", "value", "blocks", "row", "ident"]) (sc := defScope s_fits) (by decide +kernel)) (fun _ _ _ _ _ => pg_name (i := 4) sc_fits.nd rfl (Or.inl rfl)) (fun _ _ _ _ _ => pts_nil) (fun _ _ _ _ _ => (pe_call (ok_is_ident T) (hr.mono (by omega)) (by rfl) T.d_is_ident.g T.d_is_ident.F.kp T.d_is_ident.b .nil pass0 (pa_cons (pv 4) pa_nil)))) pa_nil)))))) pss_nil)
      (pss_cons (ps_if (pt_cmpR op_eq (pv 0) pe_str (nomark _)) (pss_one (ps_ret (pe_call (ok_is_worth T) (hr.mono (by omega)) (by rfl) T.d_is_worth.g T.d_is_worth.F.kp T.d_is_worth.b .nil pass0 (pa_cons (pv 1) pa_nil)))) pss_nil)
      (pss_cons (ps_if (pt_cmpR op_eq (pv 0) pe_str (nomark _)) (pss_one (ps_ret (pe_call (ok_is_word T) (hr.mono (by omega)) (by rfl) T.d_is_word.g T.d_is_word.F.kp T.d_is_word.b .nil pass0 (pa_cons (pv 1) pa_nil)))) pss_nil)
      (pss_cons (ps_if (pt_cmpR (op_in_kd T.c_CHOICES.kd) (pv 0) (pe_glob (v := (.ref T.k_CHOICES)) rfl T.m_CHOICES rfl) (by rfl)) (pss_one (ps_ret (pe_and (pe_callB call_isi (by rfl) T.z_isinstance (by decide +kernel) (pa_cons (pv 1) (pa_cons (pe_bltn (v := .ty "str") rfl T.z_str (by decide +kernel) rfl) pa_nil))) (pe_one (pe_cmpR op_in_seq (pv 1) (pe_ix ix_kdict (pe_glob (v := (.ref T.k_CHOICES)) rfl T.m_CHOICES rfl) (pv 0) (fun _ _ => rfl)) (by rfl)))))) pss_nil)
      (pss_one (ps_ret (pe_call (ok_is_ident T) (hr.mono (by omega)) (by rfl) T.d_is_ident.g T.d_is_ident.F.kp T.d_is_ident.b .nil pass0 (pa_cons (pv 1) pa_nil))))))))), ?_⟩
    (try simp only [tIxO, rIsB, rNotB, tSeq, tIfS, tTest, tB, tOp, tUn, tVar, tC, tAsg, gName, tRet, tRetN, tCB, tCons, tNil, tLst_eq, tTup_eq, tDNewK_eq, tNext, tPar, tM0, tM1, tSl, tNoPart, tPart, rSlS, tAug, tAugS, tExf_eq, ipI, tChain, tCall, tDrop, tBM, tAnd, tOr, tNot, tAndV, tOrV, tNotV, tIf, tIsN, tNotN, rI, rI0, rU, rEq, rNe, gSub, cx_K, cx_K2, L2.start, wipe, scal_ii, scal_ss, scal_bb, scal_is, scal_si, scal_nn, List.map_cons, List.map_nil, List.length_cons, List.length_nil, List.cons_append, List.nil_append, List.append_nil, List.replicate, List.getElem?_cons_zero, List.getElem?_cons_succ, Option.some.injEq, exists_and_left, exists_eq_left', exists_eq_left, exists_eq, exists_eq', V.int.injEq, V.ref.injEq, V.str.injEq, V.bl.injEq, List.cons.injEq, and_true, true_and, false_and, exists_false, or_false, false_or, reduceCtorEq, List.set_cons_zero, List.set_cons_succ, Nat.reduceAdd, Nat.reduceSub, Int.reduceToNat, decide_eq_true_eq, if_true, if_false, Bool.false_eq_true, Bool.not_true, Bool.not_false, Bool.true_eq_false, ite_false, ite_true, ne_eq, not_false_eq_true, Int.reduceEq])
    have yes : ∀ {R S : Prop}, R → (if true = true then R else S) := fun r => ite2 (fun _ => r) (fun z => absurd rfl z)
    have ne : ∀ {x y : Str} {R S : Prop}, x ≠ y → S → (if x = y then R else S) := fun n s => ite2 (fun z => absurd z n) (fun _ => s)
    cases hf with
    | rows h few =>
      obtain ⟨a, xs, rfl, hs, hx, hl⟩ := sqT_len hd
      refine ite2 (fun _ => isi_go (.ty "tuple") (ty_tup hs) T.q_tup_tup ⟨_, rfl, yes ?_⟩) (fun z => absurd rfl z)
      refine lcAllT_go (fun Q q => ⟨_, rfl, q⟩) hs (by omega) (fun x H2 R mx s r => ?_) (fun D H2 s rD => ⟨D, _, rfl, .inl (.inl rD), ?_⟩)
      · obtain ⟨d, md, hd⟩ := dpA_mem hx mx
        (try simp only [tIxO, rIsB, rNotB, tSeq, tIfS, tTest, tB, tOp, tUn, tVar, tC, tAsg, gName, tRet, tRetN, tCB, tCons, tNil, tLst_eq, tTup_eq, tDNewK_eq, tNext, tPar, tM0, tM1, tSl, tNoPart, tPart, rSlS, tAug, tAugS, tExf_eq, ipI, tChain, tCall, tDrop, tBM, tAnd, tOr, tNot, tAndV, tOrV, tNotV, tIf, tIsN, tNotN, rI, rI0, rU, rEq, rNe, gSub, cx_K, cx_K2, L2.start, wipe, scal_ii, scal_ss, scal_bb, scal_is, scal_si, scal_nn, List.map_cons, List.map_nil, List.length_cons, List.length_nil, List.cons_append, List.nil_append, List.append_nil, List.replicate, List.getElem?_cons_zero, List.getElem?_cons_succ, Option.some.injEq, exists_and_left, exists_eq_left', exists_eq_left, exists_eq, exists_eq', V.int.injEq, V.ref.injEq, V.str.injEq, V.bl.injEq, List.cons.injEq, and_true, true_and, false_and, exists_false, or_false, false_or, reduceCtorEq, List.set_cons_zero, List.set_cons_succ, Nat.reduceAdd, Nat.reduceSub, Int.reduceToNat, decide_eq_true_eq, if_true, if_false, Bool.false_eq_true, Bool.not_true, Bool.not_false, Bool.true_eq_false, ite_false, ite_true, ne_eq, not_false_eq_true, Int.reduceEq])
        exact ⟨x, d, rfl, n9, dp_same s hd, h d md, r⟩
      · rw [all_rep]
        exact q H2 s
    | capt h few =>
      obtain ⟨a, xs, rfl, hs, hx, hl⟩ := sqT_len hd
      refine ne (by decide +kernel) (ite2 (fun _ => isi_go (.ty "tuple") (ty_tup hs) T.q_tup_tup ⟨_, rfl, yes ?_⟩) (fun z => absurd rfl z))
      rw [List.length_map] at hl
      refine lcAllT_go (fun Q q => ⟨_, rfl, q⟩) hs (by omega) (fun x H2 R mx s r => ?_) (fun D H2 s rD => ⟨D, _, rfl, .inl (.inl rD), ?_⟩)
      · obtain ⟨d, md, hd⟩ := dpA_mem hx mx
        obtain ⟨y, my, rfl⟩ := List.mem_map.mp md
        obtain rfl := dp_strV hd
        (try simp only [tIxO, rIsB, rNotB, tSeq, tIfS, tTest, tB, tOp, tUn, tVar, tC, tAsg, gName, tRet, tRetN, tCB, tCons, tNil, tLst_eq, tTup_eq, tDNewK_eq, tNext, tPar, tM0, tM1, tSl, tNoPart, tPart, rSlS, tAug, tAugS, tExf_eq, ipI, tChain, tCall, tDrop, tBM, tAnd, tOr, tNot, tAndV, tOrV, tNotV, tIf, tIsN, tNotN, rI, rI0, rU, rEq, rNe, gSub, cx_K, cx_K2, L2.start, wipe, scal_ii, scal_ss, scal_bb, scal_is, scal_si, scal_nn, List.map_cons, List.map_nil, List.length_cons, List.length_nil, List.cons_append, List.nil_append, List.append_nil, List.replicate, List.getElem?_cons_zero, List.getElem?_cons_succ, Option.some.injEq, exists_and_left, exists_eq_left', exists_eq_left, exists_eq, exists_eq', V.int.injEq, V.ref.injEq, V.str.injEq, V.bl.injEq, List.cons.injEq, and_true, true_and, false_and, exists_false, or_false, false_or, reduceCtorEq, List.set_cons_zero, List.set_cons_succ, Nat.reduceAdd, Nat.reduceSub, Int.reduceToNat, decide_eq_true_eq, if_true, if_false, Bool.false_eq_true, Bool.not_true, Bool.not_false, Bool.true_eq_false, ite_false, ite_true, ne_eq, not_false_eq_true, Int.reduceEq])
        have ok := h y my
        refine ⟨y, rfl, word_few (ident_word ok), fun H3 s3 => ?_⟩
        rw [ok]
        exact r H3 s3
      · rw [all_rep]
        exact q H2 s
    | wword h => exact ne (by decide +kernel) (ne (by decide +kernel) (ite2 (fun _ => ⟨v, _, _, rfl, hd, .wword (st := StD n) h, q⟩) (fun z => absurd rfl z)))
    | wof h => exact ne (by decide +kernel) (ne (by decide +kernel) (ite2 (fun _ => ⟨v, _, _, rfl, hd, .wof (st := StD n) h, q⟩) (fun z => absurd rfl z)))
    | word h =>
      obtain rfl := dp_strV hd
      refine ne (by decide +kernel) (ne (by decide +kernel) (ne (by decide +kernel) (ite2 (fun _ => ⟨_, rfl, word_few h, fun H1 s1 => ?_⟩) (fun z => absurd rfl z))))
      rw [h]
      exact q H1 s1
    | @switch x h =>
      obtain rfl := dp_strV hd
      refine ne (by decide +kernel) (ne (by decide +kernel) (ne (by decide +kernel) (ne (by decide +kernel) ?_)))
      obtain ⟨z, e1, e2⟩ := T.c_CHOICES.isin "switch"
      refine ⟨z, e1, ?_⟩
      rw [e2, decide_eq_true (show ("switch" : Str) ∈ V_CHOICES.map (·.1) by decide +kernel)]
      refine yes (isi_go (.ty "str") (.base (.str _)) T.q_str_str ⟨_, rfl, yes (ixK_go T.c_CHOICES (r := (["on", "off"] : List Str)) (by decide +kernel) fun y hy => ?_)⟩)
      obtain ⟨ya, rfl, hs⟩ := hy
      refine inT_go (hs _) ?_
      have e : (if false = true then !(["on", "off"] : List Str).contains x else (["on", "off"] : List Str).contains x) = true := by
        rw [if_neg (by decide)]
        rcases h with rfl | rfl <;> decide +kernel
      rw [e]
      exact q H fun _ _ e => e
    | @reach x h =>
      obtain rfl := dp_strV hd
      refine ne (by decide +kernel) (ne (by decide +kernel) (ne (by decide +kernel) (ne (by decide +kernel) ?_)))
      obtain ⟨z, e1, e2⟩ := T.c_CHOICES.isin "reach"
      refine ⟨z, e1, ?_⟩
      rw [e2, decide_eq_true (show ("reach" : Str) ∈ V_CHOICES.map (·.1) by decide +kernel)]
      refine yes (isi_go (.ty "str") (.base (.str _)) T.q_str_str ⟨_, rfl, yes (ixK_go T.c_CHOICES (r := (["open", "own"] : List Str)) (by decide +kernel) fun y hy => ?_)⟩)
      obtain ⟨ya, rfl, hs⟩ := hy
      refine inT_go (hs _) ?_
      have e : (if false = true then !(["open", "own"] : List Str).contains x else (["open", "own"] : List Str).contains x) = true := by
        rw [if_neg (by decide)]
        rcases h with rfl | rfl <;> decide +kernel
      rw [e]
      exact q H fun _ _ e => e
    | ident hr h =>
      obtain rfl := dp_strV hd
      have far : r ≠ "rows" ∧ r ≠ "captured" ∧ r ≠ "worth" ∧ r ≠ "word" ∧ r ∉ V_CHOICES.map (·.1) := by
        have all : ∀ y ∈ (["ident", "name", "flag", "bound", "slot", "func"] : List Str), y ≠ "rows" ∧ y ≠ "captured" ∧ y ≠ "worth" ∧ y ≠ "word" ∧ y ∉ V_CHOICES.map (·.1) := by decide +kernel
        exact all r hr
      refine ne far.1 (ne far.2.1 (ne far.2.2.1 (ne far.2.2.2.1 ?_)))
      obtain ⟨z, e1, e2⟩ := T.c_CHOICES.isin r
      refine ⟨z, e1, ?_⟩
      rw [e2, decide_eq_false far.2.2.2.2]
      refine ite2 (fun z => by cases z) (fun _ => ⟨_, rfl, word_few (ident_word h), fun H1 s1 => ?_⟩)
      rw [h]
      exact q H1 s1

end
end Own

set_option Elab.async false
set_option linter.all false
set_option maxRecDepth 100000
set_option maxHeartbeats 4000000
namespace Own
open PySem PySem.Spec PyProof.Rows L2
section
variable {P : Program} {w : World} {K : PySem.W.Frag} {mg : Str → Option Value} {base : Heap}
theorem cutV_1 (xs : List V) : cutV xs (some 1) none = xs.drop 1 := by
  unfold cutV HT.sIx
  simp
  cases xs with
  | nil => rfl
  | cons x xs =>
    simp
def spFit (K : PySem.W.Frag) (n : Nat) : Sp := fun vs H Q _ => ∃ (ra va : Addr) (rs : List Str) (xs : List V) (ds : List PyData), vs = [.ref ra, .ref va, .int (9 - (n : Int))] ∧ n ≤ 9 ∧ SqT K H ra (rs.map V.str) ∧ SqT K H va xs ∧ DpAll K H xs ds ∧ FitL (StD n) rs ds ∧ rs.length ≤ 1000 ∧ ∀ H', Same H H' → Q (.bl true) H'
theorem ok_fit_of (T : Txt K mg w) {n : Nat} (ih : FnOk P w K mg base CX0 (3 * n + 4) T.d_fits.a T.d_fits.d ["role", "value", "blocks"] (spFits K n)) : FnOk P w K mg base CX0 (3 * n + 5) T.d_fit.a T.d_fit.d ["roles", "values", "blocks"] (spFit K n) := by
  refine T.d_fit.F.ok sc_fit (fun vs H Q E h => ?_) (fun cdv A outer s H vs Q E hr h => ?_)
  · obtain ⟨_, _, _, _, _, rfl, _⟩ := h
    rfl
  · obtain ⟨ra, va, rs, xs, ds, rfl, n9, hrs, hxs, hd, hf, few, q⟩ := h
    have hu := hr.units
    refine ⟨_, (pss_cons (ps_if (pt_cmpR op_ne (pe_callB call_lenT (by rfl) T.z_len (by decide +kernel) (pa_cons (pv 0) pa_nil)) (pe_callB call_lenT (by rfl) T.z_len (by decide +kernel) (pa_cons (pv 1) pa_nil)) (nomark _)) (pss_one (ps_ret pe_bl)) pss_nil)
      (pss_one (ps_ret (pe_callB (cr_all rfl) (by rfl) T.z_all (by decide +kernel) (pa_cons (pe_lc (own := [("role", 3), ("value", 4)]) (tt := tYes) (by rfl) sc_fit.nd (RZ.pi_zipA (by rfl) T.z_zip (pa_cons (pv 0) (pa_cons (pv 1) pa_nil))) (blkOk_by (own := [("role", 3), ("value", 4)]) (N := ["roles", "values", "blocks", "role", "value"]) (sc := defScope s_fit) (by decide +kernel)) (fun _ _ _ _ _ => (pgB_tup (n := 2) (by rfl) (pgs_cons (pg_name (i := 3) sc_fit.nd rfl (Or.inl rfl)) (pgs_cons (pg_name (i := 4) sc_fit.nd rfl (Or.inl rfl)) pgs_nil)))) (fun _ _ _ _ _ => pts_nil) (fun _ _ _ _ _ => (pe_call ih (hr.mono (by omega)) (by rfl) T.d_fits.g T.d_fits.F.kp T.d_fits.b .nil pass0 (pa_cons (pv 3) (pa_cons (pv 4) (pa_cons (pv 2) pa_nil)))))) pa_nil))))), ?_⟩
    (try simp only [tIxO, rIsB, rNotB, tSeq, tIfS, tTest, tB, tOp, tUn, tVar, tC, tAsg, gName, tRet, tRetN, tCB, tCons, tNil, tLst_eq, tTup_eq, tDNewK_eq, tNext, tPar, tM0, tM1, tSl, tNoPart, tPart, rSlS, tAug, tAugS, tExf_eq, ipI, tChain, tCall, tDrop, tBM, tAnd, tOr, tNot, tAndV, tOrV, tNotV, tIf, tIsN, tNotN, rI, rI0, rU, rEq, rNe, gSub, cx_K, cx_K2, L2.start, wipe, scal_ii, scal_ss, scal_bb, scal_is, scal_si, scal_nn, List.map_cons, List.map_nil, List.length_cons, List.length_nil, List.cons_append, List.nil_append, List.append_nil, List.replicate, List.getElem?_cons_zero, List.getElem?_cons_succ, Option.some.injEq, exists_and_left, exists_eq_left', exists_eq_left, exists_eq, exists_eq', V.int.injEq, V.ref.injEq, V.str.injEq, V.bl.injEq, List.cons.injEq, and_true, true_and, false_and, exists_false, or_false, false_or, reduceCtorEq, List.set_cons_zero, List.set_cons_succ, Nat.reduceAdd, Nat.reduceSub, Int.reduceToNat, decide_eq_true_eq, if_true, if_false, Bool.false_eq_true, Bool.not_true, Bool.not_false, Bool.true_eq_false, ite_false, ite_true, ne_eq, not_false_eq_true, Int.reduceEq])
    have lr := hf.len
    have lx := DpAll.len hd
    refine ⟨_, hrs, xs, hxs, ite2 (fun z => ?_) (fun _ => ?_)⟩
    · rw [List.length_map] at z
      have e : ((rs.length : Nat) : Int) = ((xs.length : Nat) : Int) := by omega
      simp [e] at z
    · refine lcZT_go (K := K) (a := ra) (b := va) (xs := rs.map V.str) (ys := xs) (by rw [List.length_map]; omega) (fun _ => .bl true) (fun R r => ⟨_, rfl, _, rfl, ra, va, _, xs, rfl, .inr ⟨hrs, hxs, r⟩⟩) hrs hxs (by rw [List.length_map]; omega) (fun i x y T2 H2 R hx hy s e r => ?_) (fun D H2 nD s rD => ?_)
      · rw [List.getElem?_map] at hx
        obtain ⟨ro, hro, rfl⟩ := Option.map_eq_some_iff.mp hx
        have hi : i < xs.length := (List.getElem?_eq_some_iff.mp hy).1
        obtain ⟨d, hd2⟩ : ∃ d, ds[i]? = some d := ⟨_, List.getElem?_eq_getElem (by omega)⟩
        obtain ⟨y2, hy2, dp⟩ := DpAll.at hd hd2
        rw [hy] at hy2
        cases hy2
        refine ⟨_, _, rfl, .inl (.inl e), rfl, _, _, rfl, _, _, rfl, rfl, rfl, ?_⟩
        (try simp only [tIxO, rIsB, rNotB, tSeq, tIfS, tTest, tB, tOp, tUn, tVar, tC, tAsg, gName, tRet, tRetN, tCB, tCons, tNil, tLst_eq, tTup_eq, tDNewK_eq, tNext, tPar, tM0, tM1, tSl, tNoPart, tPart, rSlS, tAug, tAugS, tExf_eq, ipI, tChain, tCall, tDrop, tBM, tAnd, tOr, tNot, tAndV, tOrV, tNotV, tIf, tIsN, tNotN, rI, rI0, rU, rEq, rNe, gSub, cx_K, cx_K2, L2.start, wipe, scal_ii, scal_ss, scal_bb, scal_is, scal_si, scal_nn, List.map_cons, List.map_nil, List.length_cons, List.length_nil, List.cons_append, List.nil_append, List.append_nil, List.replicate, List.getElem?_cons_zero, List.getElem?_cons_succ, Option.some.injEq, exists_and_left, exists_eq_left', exists_eq_left, exists_eq, exists_eq', V.int.injEq, V.ref.injEq, V.str.injEq, V.bl.injEq, List.cons.injEq, and_true, true_and, false_and, exists_false, or_false, false_or, reduceCtorEq, List.set_cons_zero, List.set_cons_succ, Nat.reduceAdd, Nat.reduceSub, Int.reduceToNat, decide_eq_true_eq, if_true, if_false, Bool.false_eq_true, Bool.not_true, Bool.not_false, Bool.true_eq_false, ite_false, ite_true, ne_eq, not_false_eq_true, Int.reduceEq])
        exact ⟨ro, y, d, rfl, n9, dp_same s dp, hf.at hro hd2, fun H3 s3 => r H3 s3⟩
      · have e : ((List.range (rs.map V.str).length).map fun _ => V.bl true) = (List.replicate rs.length true).map V.bl := by
          rw [List.length_map, List.map_const', List.length_range, List.map_replicate]
        rw [e] at rD
        refine ⟨D, _, rfl, .inl (.inl rD), ?_⟩
        rw [all_rep]
        exact q H2 s
theorem ok_stmt_zero (T : Txt K mg w) : FnOk P w K mg base CX0 3 T.d_is_statement.a T.d_is_statement.d ["value", "blocks"] (spStmt K 0) := by
  refine T.d_is_statement.F.ok sc_is_statement (fun vs H Q E h => ?_) (fun cdv A outer s H vs Q E hr h => ?_)
  · obtain ⟨_, _, rfl, _⟩ := h
    rfl
  · obtain ⟨_, _, _, _, _, h, _⟩ := h
    exact h.elim
theorem ok_stmt_succ (T : Txt K mg w) {n : Nat} (ih : FnOk P w K mg base CX0 (3 * n + 5) T.d_fit.a T.d_fit.d ["roles", "values", "blocks"] (spFit K n)) : FnOk P w K mg base CX0 (3 * n + 6) T.d_is_statement.a T.d_is_statement.d ["value", "blocks"] (spStmt K (n + 1)) := by
  refine T.d_is_statement.F.ok sc_is_statement (fun vs H Q E h => ?_) (fun cdv A outer s H vs Q E hr h => ?_)
  · obtain ⟨_, _, rfl, _⟩ := h
    rfl
  · obtain ⟨v, d, rfl, n9, hd, hs, q⟩ := h
    have hu := hr.units
    refine ⟨_, (pss_cons (ps_if (PW.pt (pw_or (pt_cmpR op_gt (pv 1) (pe_glob (v := .int 8) rfl T.m_MOST_BLOCKS ⟨_, rfl⟩) (nomark _)) (pw_or (pt_not (pt_val (pe_call (ok_is_headed T) (hr.mono (by omega)) (by rfl) T.d_is_headed.g T.d_is_headed.F.kp T.d_is_headed.b .nil pass0 (pa_cons (pv 0) pa_nil)))) (pw_or1 (pt_cmpR (op_notIn_kd T.c_STATEMENTS.kd) (pe_ix ix_tup (pv 0) pe_int (fun _ _ => rfl)) (pe_glob (v := (.ref T.k_STATEMENTS)) rfl T.m_STATEMENTS rfl) (by rfl)))))) (pss_one (ps_ret pe_bl)) pss_nil)
      (pss_one (ps_ret (pe_call ih (hr.mono (by omega)) (by rfl) T.d_fit.g T.d_fit.F.kp T.d_fit.b .nil pass0 (pa_cons (pe_ix ix_kdict (pe_glob (v := (.ref T.k_STATEMENTS)) rfl T.m_STATEMENTS rfl) (pe_ix ix_tup (pv 0) pe_int (fun _ _ => rfl)) (fun _ _ => rfl)) (pa_cons (pe_slice sl_tup (pv 0) (po_some pe_int) po_none) (pa_cons (pe_op op_add (pv 1) pe_int) pa_nil))))))), ?_⟩
    (try simp only [tIxO, rIsB, rNotB, tSeq, tIfS, tTest, tB, tOp, tUn, tVar, tC, tAsg, gName, tRet, tRetN, tCB, tCons, tNil, tLst_eq, tTup_eq, tDNewK_eq, tNext, tPar, tM0, tM1, tSl, tNoPart, tPart, rSlS, tAug, tAugS, tExf_eq, ipI, tChain, tCall, tDrop, tBM, tAnd, tOr, tNot, tAndV, tOrV, tNotV, tIf, tIsN, tNotN, rI, rI0, rU, rEq, rNe, gSub, cx_K, cx_K2, L2.start, wipe, scal_ii, scal_ss, scal_bb, scal_is, scal_si, scal_nn, List.map_cons, List.map_nil, List.length_cons, List.length_nil, List.cons_append, List.nil_append, List.append_nil, List.replicate, List.getElem?_cons_zero, List.getElem?_cons_succ, Option.some.injEq, exists_and_left, exists_eq_left', exists_eq_left, exists_eq, exists_eq', V.int.injEq, V.ref.injEq, V.str.injEq, V.bl.injEq, List.cons.injEq, and_true, true_and, false_and, exists_false, or_false, false_or, reduceCtorEq, List.set_cons_zero, List.set_cons_succ, Nat.reduceAdd, Nat.reduceSub, Int.reduceToNat, decide_eq_true_eq, if_true, if_false, Bool.false_eq_true, Bool.not_true, Bool.not_false, Bool.true_eq_false, ite_false, ite_true, ne_eq, not_false_eq_true, Int.reduceEq])
    obtain ⟨first, rs, ds, rfl, mem, fl⟩ := hs
    obtain ⟨a, xs, rfl, ht, hx, hl⟩ := sqT_len hd
    cases hx with
    | @cons v0 vr _ _ h0 hx =>
      obtain rfl := dp_strV h0
      refine ite2 (fun z => ?_) (fun _ => ⟨_, _, _, rfl, hd, _, rfl, ite2 (fun z => by cases z) (fun _ => ?_)⟩)
      · omega
      refine ixT2_go ht (atI_nat (j := 0) rfl) ?_
      obtain ⟨z, e1, e2⟩ := T.c_STATEMENTS.isin first
      have inS : first ∈ V_STATEMENTS.map (·.1) := List.mem_map.mpr ⟨_, mem, rfl⟩
      refine ⟨first, rfl, z, e1, ?_⟩
      rw [e2, decide_eq_true inS]
      refine ite2 (fun z => by cases z) (fun _ => ixT2_go ht (atI_nat (j := 0) rfl) (ixK_go T.c_STATEMENTS mem fun y hy => ?_))
      obtain ⟨ya, rfl, hya⟩ := hy
      have few : ∀ p ∈ V_STATEMENTS, p.2.length ≤ 3 := by decide +kernel
      have fr := few _ mem
      refine ⟨a, _, rfl, ht, ?_, fun p np => ?_⟩
      · simp [HT.sIx]
      · have s1 := same_new (o := .tup vr) np
        rw [cutV_1]
        refine ⟨ya, p, rs, vr, ds, ?_, by omega, hya _, .inl (.inl upd_same), dpA_same s1 hx, fl, by have z : rs.length ≤ 3 := fr; omega, fun H2 s2 => q H2 (s1.trans s2)⟩
        have e : (9 : Int) - ((n + 1 : Nat) : Int) + 1 = 9 - (n : Int) := by omega
        rw [e]
theorem ok_is_statement_at (T : Txt K mg w) : ∀ n, FnOk P w K mg base CX0 (3 * n + 3) T.d_is_statement.a T.d_is_statement.d ["value", "blocks"] (spStmt K n)
  | 0 => ok_stmt_zero T
  | n + 1 => ok_stmt_succ T (ok_fit_of T (ok_fits_of T (ok_is_statement_at T n)))
end
end Own

set_option Elab.async false
set_option linter.all false
set_option maxRecDepth 100000
set_option maxHeartbeats 4000000
namespace Own
open PySem PySem.Spec PyProof.Rows L2
section
variable {P : Program} {w : World} {K : PySem.W.Frag} {mg : Str → Option Value} {base : Heap}
/-- d.get(x), d a dict that the top has written, x one of its keys -/
theorem pe_kget {X : Cx} {o e : Expr} {apos cpos : Pos} {ty : TE} {d : Addr} {es : Array DictEntry} {n : Nat} (D : KDict X.K X.w d es n) (ho : PE X o (tC (.ref d))) (he : PE X e ty) (m : M1 X o "get" apos e cpos) :
    PE X (.Call (.Attribute o "get" apos) [e] [] cpos) (fun σ H Q => ty σ H fun y H2 => ∃ (z : Str) (u : Value) (v : V), y = .str z ∧ PySem.W.nsIn X.K d z = some (some u) ∧ RelV v u ∧ Q v H2) := by
  refine ⟨fun pins s σ H Q I h => ?_⟩
  refine wpAny_Call_method m.base m.few m.line PySem.F.plainAttrs_dict PySem.F.slot_dict_get PySem.F.type_dict_get (thn (ho.run pins s σ H (fun x H1 => x = .ref d ∧ H1 = H) I ⟨rfl, rfl⟩) fun u s1 z1 => ?_)
  obtain ⟨x, H1, I1, rx, rfl, rfl⟩ := z1
  have eu : u = Value.ref d := rx
  subst eu
  refine ⟨kd_type D I1, fun b e => by cases e; exact ⟨_, I1.kIn _ _ D.at_, rfl⟩, ?_⟩
  rw [m.trees]
  refine Calls.callWith_builtin rfl (Calls.evalArgs_plain (Calls.spliced_cons (thn (he.run pins s1 σ H1 _ I1 h) fun iv s2 z2 => Calls.spliced_nil ?_)))
  obtain ⟨y, H2, I2, ry, z, w0, v, rfl, en, rv, q⟩ := z2
  obtain ⟨t, rfl⟩ := ry
  refine call_meetsIn PySem.F.slot_dict_get (kd_type D I2) PySem.F.entry_dict_get (PySem.F.args_dict_get_2 _ _) (meets_dict_get (strKind X.prog X.w) d (strKind_is X.prog X.w z t) D.low) ⟨_, PySem.W.mapOf_K (prog := X.prog) I2.kIn D.at_ D.lit, ?_⟩
  rw [PySem.W.find_K D.at_ en]
  exact ⟨v, H2, I2.tok _, rv, q⟩
def spRoles (K : PySem.W.Frag) : Sp := fun vs H Q _ => ∃ (f : Str) (rs : List Str), vs = [.str f] ∧ ((f, rs) ∈ V_PARTS ∨ (f, rs) ∈ V_STATEMENTS) ∧ ∀ a, (∀ H2, SqT K H2 a (rs.map V.str)) → Q (.ref a) H
theorem ok_roles_of (T : Txt K mg w) : FnOk P w K mg base CX0 1 T.d_roles_of.a T.d_roles_of.d ["first"] (spRoles K) := by
  refine T.d_roles_of.F.ok sc_roles_of (fun vs H Q E h => ?_) (fun cdv A outer s H vs Q E hr h => ?_)
  · obtain ⟨_, _, rfl, _⟩ := h
    rfl
  · obtain ⟨f, rs, rfl, mem, q⟩ := h
    have hu := hr.units
    refine ⟨_, (pss_cons (ps_if (pt_cmpR (op_in_kd T.c_PARTS.kd) (pv 0) (pe_glob (v := (.ref T.k_PARTS)) rfl T.m_PARTS rfl) (by rfl)) (pss_one (ps_ret (pe_ix ix_kdict (pe_glob (v := (.ref T.k_PARTS)) rfl T.m_PARTS rfl) (pv 0) (fun _ _ => rfl)))) pss_nil)
      (pss_one (ps_ret (pe_kget T.c_STATEMENTS.kd (pe_glob (v := (.ref T.k_STATEMENTS)) rfl T.m_STATEMENTS rfl) (pv 0) ⟨rfl, rfl, rfl, rfl⟩)))), ?_⟩
    (try simp only [tIxO, rIsB, rNotB, tSeq, tIfS, tTest, tB, tOp, tUn, tVar, tC, tAsg, gName, tRet, tRetN, tCB, tCons, tNil, tLst_eq, tTup_eq, tDNewK_eq, tNext, tPar, tM0, tM1, tSl, tNoPart, tPart, rSlS, tAug, tAugS, tExf_eq, ipI, tChain, tCall, tDrop, tBM, tAnd, tOr, tNot, tAndV, tOrV, tNotV, tIf, tIsN, tNotN, rI, rI0, rU, rEq, rNe, gSub, cx_K, cx_K2, L2.start, wipe, scal_ii, scal_ss, scal_bb, scal_is, scal_si, scal_nn, List.map_cons, List.map_nil, List.length_cons, List.length_nil, List.cons_append, List.nil_append, List.append_nil, List.replicate, List.getElem?_cons_zero, List.getElem?_cons_succ, Option.some.injEq, exists_and_left, exists_eq_left', exists_eq_left, exists_eq, exists_eq', V.int.injEq, V.ref.injEq, V.str.injEq, V.bl.injEq, List.cons.injEq, and_true, true_and, false_and, exists_false, or_false, false_or, reduceCtorEq, List.set_cons_zero, List.set_cons_succ, Nat.reduceAdd, Nat.reduceSub, Int.reduceToNat, decide_eq_true_eq, if_true, if_false, Bool.false_eq_true, Bool.not_true, Bool.not_false, Bool.true_eq_false, ite_false, ite_true, ne_eq, not_false_eq_true, Int.reduceEq])
    obtain ⟨z, e1, e2⟩ := T.c_PARTS.isin f
    refine ⟨z, e1, ?_⟩
    rw [e2]
    by_cases m : f ∈ V_PARTS.map (·.1)
    · rw [decide_eq_true m]
      have mp : (f, rs) ∈ V_PARTS := by
        rcases mem with h | h
        · exact h
        · have apart : ∀ x ∈ V_PARTS.map (·.1), x ∉ V_STATEMENTS.map (·.1) := by decide +kernel
          exact absurd (List.mem_map.mpr ⟨_, h, rfl⟩) (apart f m)
      refine ite2 (fun _ => ixK_go T.c_PARTS mp fun y hy => ?_) (fun z => absurd rfl z)
      obtain ⟨ya, rfl, hya⟩ := hy
      exact q ya hya
    · rw [decide_eq_false m]
      have ms : (f, rs) ∈ V_STATEMENTS := mem.elim (fun h => absurd (List.mem_map.mpr ⟨_, h, rfl⟩) m) id
      obtain ⟨u, v, en, rv, ya, rfl, hya⟩ := T.c_STATEMENTS.has f rs ms
      exact ite2 (fun z => by cases z) (fun _ => ⟨u, en, _, rv, q ya hya⟩)
/-- the items that are rows -/
def rowsD (rs : List Str) (ds : List PyData) : List PyData := ((rs.zip ds).filter fun p => decide (p.1 = ("rows" : Str))).map (·.2)
end
end Own

set_option Elab.async false
set_option linter.all false
set_option maxRecDepth 100000
set_option maxHeartbeats 4000000
namespace Own
open PySem PySem.Spec PyProof.Rows L2
section
variable {P : Program} {w : World} {K : PySem.W.Frag} {mg : Str → Option Value} {base : Heap}
def strOf : PyData → Option Str
  | .str x => some x
  | _ => none
/-- the words that stand for an item in a first line -/
def wordsD (r : Str) : PyData → List Str
  | .str x => [x]
  | .tuple ds => if r = "rows" then [] else if r = "worth" then (if ds.filterMap strOf = [] then [] else if (ds.filterMap strOf).head? = some ("of" : Str) then "=" :: ds.filterMap strOf else "=" :: (ds.filterMap strOf).drop 1) else (if ds = [] then [] else "with" :: ds.filterMap strOf)
  | _ => []
/-- the words of a first line -/
def lineW (first : Str) : List Str → List PyData → List Str
  | r :: rs, d :: ds => wordsD r d ++ lineW first rs ds
  | _, _ => []
end
end Own

set_option Elab.async false
set_option linter.all false
set_option maxRecDepth 100000
set_option maxHeartbeats 4000000
namespace Own
open PySem PySem.Spec PyProof.Rows L2
section
variable {P : Program} {w : World} {K : PySem.W.Frag} {mg : Str → Option Value} {base : Heap}
/-- what a statement is, seen by its roles -/
structure SF (n : Nat) (s : Stm) (rs : List Str) (ds : List PyData) : Prop where
  enc : encS s = .tuple (.str s.first :: ds)
  mem : (s.first, rs) ∈ V_STATEMENTS
  fit : FitL (StD n) rs ds
  rows : rowsD rs ds = s.blocks.map fun b => PyData.tuple (encR b)
  line : s.first :: lineW s.first rs ds = s.words
  len : ds.length + 1 = s.size
theorem f_ident {st : PyData → Prop} {r x : Str} (hr : r ∈ (["ident", "name", "flag", "bound", "slot", "func"] : List Str)) (h : isIdent x = true) : FitV st r (.str x) := .ident hr h
theorem f_capt {st : PyData → Prop} {c : List Str} (h : CapW c) : FitV st "captured" (encC c) := .capt h.1 (Nat.le_trans h.2 (by decide))
theorem f_wth {st : PyData → Prop} {v : Wth} (h : WthW v) : FitV st "worth" (encW v) := by
  cases v
  · exact .wword h
  · exact .wof h
theorem wid_le {x : Str} (h : isWord x = true) : x.length ≤ 12 := (word_len h).2
theorem idw {x : Str} (h : isIdent x = true) : isWord x = true := by
  unfold isIdent at h
  revert h
  cases isWord x <;> simp
theorem id_le {x : Str} (h : isIdent x = true) : x.length ≤ 12 := wid_le (idw h)
def wsum (ws : List Str) : Nat := (ws.map (·.length)).sum + ws.length
theorem wsum_nil : wsum [] = 0 := rfl
theorem wsum_cons (x : Str) (ws : List Str) : wsum (x :: ws) = x.length + 1 + wsum ws := by
  simp [wsum]; omega
theorem capt_sum : ∀ {c : List Str}, (∀ i ∈ c, isIdent i = true) → wsum c ≤ 13 * c.length
  | [], _ => by simp [wsum]
  | x :: c, h => by
    have := capt_sum (c := c) fun i hi => h i (.tail _ hi)
    have := id_le (h x (.head _))
    rw [wsum_cons, List.length_cons]
    omega
theorem withC_sum {c : List Str} (h : CapW c) : wsum (Stm.withC c) ≤ 13 * 1000 + 5 := by
  have a := capt_sum h.1
  have b := h.2
  have e : ("with" : Str).length = 4 := rfl
  unfold Stm.withC
  split
  · simp [wsum]
  · rw [wsum_cons, e]
    omega
theorem wth_sum {v : Wth} (h : WthW v) : wsum (Stm.wthW v) ≤ 30 := by
  have e : ("=" : Str).length = 1 := rfl
  have e2 : ("of" : Str).length = 2 := rfl
  cases v with
  | word w =>
    have := wid_le h
    rw [Stm.wthW, wsum_cons, wsum_cons, wsum_nil, e]
    omega
  | of i =>
    have := id_le h
    rw [Stm.wthW, wsum_cons, wsum_cons, wsum_cons, wsum_nil, e, e2]
    omega
theorem words_sum {s : Stm} (h : ownW s) : wsum s.words ≤ 20000 := by
  have f : ∀ x ∈ (["look", "bind", "call", "keep", "take", "shift", "run", "drop", "apart", "when", "held", "fail", "guard"] : List Str), x.length ≤ 12 := by decide +kernel
  cases s with
  | look w i =>
    have := wid_le h.1; have := id_le h.2; have := f "look" (by decide +kernel)
    simp only [Stm.words, wsum_cons, wsum_nil]; omega
  | bind i v r =>
    have := id_le h.1; have := wth_sum h.2; have := f "bind" (by decide +kernel)
    simp only [Stm.words, wsum_cons, wsum_nil]; omega
  | call i =>
    have := id_le h; have := f "call" (by decide +kernel)
    simp only [Stm.words, wsum_cons, wsum_nil]; omega
  | keep s g c =>
    have := id_le h.1; have := id_le h.2.1; have := withC_sum h.2.2; have := f "keep" (by decide +kernel)
    simp only [Stm.words, wsum_cons, wsum_nil]; omega
  | take s c =>
    have := id_le h.1; have := withC_sum h.2; have := f "take" (by decide +kernel)
    simp only [Stm.words, wsum_cons, wsum_nil]; omega
  | shift s u c =>
    have := id_le h.1; have := id_le h.2.1; have := withC_sum h.2.2; have := f "shift" (by decide +kernel)
    simp only [Stm.words, wsum_cons, wsum_nil]; omega
  | run s =>
    have := id_le h; have := f "run" (by decide +kernel)
    simp only [Stm.words, wsum_cons, wsum_nil]; omega
  | drop s =>
    have := id_le h; have := f "drop" (by decide +kernel)
    simp only [Stm.words, wsum_cons, wsum_nil]; omega
  | apart r =>
    have := f "apart" (by decide +kernel)
    simp only [Stm.words, wsum_cons, wsum_nil]; omega
  | when g r1 r2 =>
    have := id_le h; have := f "when" (by decide +kernel)
    simp only [Stm.words, wsum_cons, wsum_nil]; omega
  | held g r1 r2 =>
    have := id_le h; have := f "held" (by decide +kernel)
    simp only [Stm.words, wsum_cons, wsum_nil]; omega
  | fail =>
    have := f "fail" (by decide +kernel)
    simp only [Stm.words, wsum_cons, wsum_nil]; omega
  | guard r1 r2 =>
    have := f "guard" (by decide +kernel)
    simp only [Stm.words, wsum_cons, wsum_nil]; omega
end
end Own

set_option Elab.async false
set_option linter.all false
set_option maxRecDepth 100000
set_option maxHeartbeats 4000000
namespace Own
open PySem PySem.Spec PyProof.Rows L2
section
variable {P : Program} {w : World} {K : PySem.W.Frag} {mg : Str → Option Value} {base : Heap}
theorem forEn_go {K : PySem.W.Frag} {tp : Bool} {a : Addr} {k : Int} {xs : List V} {wi : TI} {g : TG} {tb : TS} {D : Ends} {σ : L2.St} {H : Hp} (Pv : Nat → L2.St → Hp → Prop) (ht : ∀ R : It → Hp → Prop, R (ItE K tp a k) H → wi σ H R) (hG : ∀ i σ2 H2, i ≤ xs.length → Pv i σ2 H2 → SqB K tp a H2 xs) (h0 : Pv 0 σ H)
    (hs : ∀ i x T σ2 H2, xs[i]? = some x → Pv i σ2 H2 → H2 T = none → g (.ref T) σ2 (upd H2 T (.tup [.int (k + (i : Nat)), x])) fun σ3 H3 => tb { D with nx := Pv (i + 1), ct := Pv (i + 1), bk := D.nx } σ3 H3) (hd : ∀ σ2 H2, Pv xs.length σ2 H2 → D.nx σ2 H2) : tFor wi g tb D σ H :=
  ht _ (for_it (walk_enumB (K := K) (tp := tp) (a := a) (k := k) (xs := xs)) Pv h0 hG (fun i x σ2 H2 H3 hi p y => by
    obtain ⟨T, x1, y1, rfl, nT, rfl, e1, e2⟩ := y
    cases e1
    exact hs i y1 T σ2 H2 e2 p nT) hd)
theorem dpA_app {K : PySem.W.Frag} {H : Hp} : ∀ {xs ys : List V} {ds es : List PyData}, DpAll K H xs ds → DpAll K H ys es → DpAll K H (xs ++ ys) (ds ++ es)
  | _, _, _, _, .nil, h => h
  | _, _, _, _, .cons h t, g => .cons h (dpA_app t g)
theorem join_len2 : ∀ ws : List Str, (Str.join " " ws).length ≤ (ws.map (·.length)).sum + ws.length
  | [] => Nat.zero_le _
  | [x] => by
    show x.length ≤ _
    simp
  | x :: y :: ws => by
    have ih := join_len2 (y :: ws)
    have e1 : (" " : Str).length = 1 := rfl
    show (x ++ (" " : Str) ++ Str.join " " (y :: ws)).length ≤ _
    rw [len_app2, len_app2, e1, List.map_cons, List.sum_cons, List.length_cons]
    omega
theorem join_len (ws : List Str) : (Txt.join " " ws).length ≤ (ws.map (·.length)).sum + ws.length := by
  rw [TL.join_eq]
  exact join_len2 ws
theorem blocks_le : ∀ s : Stm, s.blocks.length ≤ 2 ∧ s.blocks.length ≤ s.size ∧ s.size ≤ 4 := fun s => by
  cases s <;> simp [Stm.blocks, Stm.size]
theorem Acc.grow {K : PySem.W.Frag} {H0 H H2 : Hp} {wl : Addr} {ls : List Ln} (A : Acc K H0 wl ls H) (s : Same H H2) : Acc K H0 wl ls H2 := by
  obtain ⟨ys, r, d⟩ := A.ex
  exact ⟨A.new, A.same.trans s, ⟨ys, s _ _ r, dpA_same s d⟩, A.pl, A.few⟩
theorem Acc.ext_go {K : PySem.W.Frag} {H0 H : Hp} {wl b : Addr} {ls l2 : List Ln} {ys2 : List V} {Q : VK} (A : Acc K H0 wl ls H) (rb : H b = some (.lst ys2)) (d2 : DpAll K H ys2 (l2.map encL)) (p2 : PlAll (l2.map encL) = true) (few : (ls ++ l2).length ≤ 100000)
    (q : ∀ H2, Acc K H0 wl (ls ++ l2) H2 → ExT wl H H2 → Q .non H2) : rExtend (.ref wl) [.ref b] H Q := by
  obtain ⟨ys, r, d⟩ := A.ex
  have l1 := DpAll.len d
  have l3 := DpAll.len d2
  have f2 := few
  rw [List.length_map] at l1 l3
  rw [List.length_append] at f2
  refine ⟨wl, b, ys, ys2, rfl, rfl, r, rb, Nat.le_trans (by omega : _ ≤ 100000) (by decide), q _ ⟨A.new, fun p o e => ?_, ⟨_, upd_same, ?_⟩, ?_, few⟩ fun p o ne e => ?_⟩
  · rw [upd_ne (fun z => by rw [z, A.new] at e; cases e)]
    exact A.same _ _ e
  · rw [List.map_append]
    exact dpA_app (DpAll.keep (tu_lst r) d A.pl) (DpAll.keep (tu_lst r) d2 p2)
  · rw [List.map_append, pl_app, A.pl, p2]
    rfl
  · rw [upd_ne ne]
    exact e
theorem Acc.app_go {K : PySem.W.Frag} {H0 H : Hp} {wl : Addr} {t : V} {ls : List Ln} {l : Ln} {Q : VK} (A : Acc K H0 wl ls H) (d2 : Dp K H t (encL l)) (p2 : Pl (encL l) = true) (few : (ls ++ [l]).length ≤ 100000)
    (q : ∀ H2, Acc K H0 wl (ls ++ [l]) H2 → ExT wl H H2 → Q .non H2) : rAppend (.ref wl) [t] H Q := by
  obtain ⟨ys, r, d⟩ := A.ex
  have l1 := DpAll.len d
  have f2 := few
  rw [List.length_map] at l1
  rw [List.length_append, List.length_singleton] at f2
  refine ⟨wl, ys, t, rfl, rfl, r, Nat.lt_of_lt_of_le (by omega : _ < 100001) (by decide), q _ ⟨A.new, fun p o e => ?_, ⟨_, upd_same, ?_⟩, ?_, few⟩ fun p o ne e => ?_⟩
  · rw [upd_ne (fun z => by rw [z, A.new] at e; cases e)]
    exact A.same _ _ e
  · rw [List.map_append]
    exact dpA_app (DpAll.keep (tu_lst r) d A.pl) (.cons (Dp.keep (tu_lst r) d2 p2) .nil)
  · rw [List.map_append, pl_app, A.pl]
    show PlAll [encL l] = true
    rw [PlAll, p2]
    rfl
  · rw [upd_ne ne]
    exact e
end
end Own

set_option Elab.async false
set_option linter.all false
set_option maxRecDepth 100000
set_option maxHeartbeats 4000000
namespace Own
open PySem PySem.Spec PyProof.Rows L2
section
variable {P : Program} {w : World} {K : PySem.W.Frag} {mg : Str → Option Value} {base : Heap}
theorem partsL_take {ps : List Prt} {i : Nat} {t : Prt} (h : ps[i]? = some t) : partsL 0 (ps.take (i + 1)) = partsL 0 (ps.take i) ++ partL i t := by
  have hi : i < ps.length := (List.getElem?_eq_some_iff.mp h).1
  rw [List.take_add_one, h]
  show partsL 0 (ps.take i ++ [t]) = _
  rw [partsL_snoc, List.length_take, Nat.zero_add, Nat.min_eq_left (by omega)]
theorem partsL_le : ∀ (ps : List Prt) (k i : Nat), (partsL k (ps.take i)).length ≤ (partsL k ps).length
  | ps, k, 0 => by rw [List.take_zero]; exact Nat.zero_le _
  | [], k, i + 1 => by rw [List.take_nil]; exact Nat.le_refl _
  | t :: ps, k, i + 1 => by
    rw [List.take_succ_cons, partsL, partsL, List.length_append, List.length_append]
    exact Nat.add_le_add_left (partsL_le ps (k + 1) i) _
/-- what the parts of a module are, well formed -/
structure PsW (ps : List Prt) : Prop where
  well : ∀ t ∈ ps, PtW t
  few : ps.length ≤ 1000
  lines : (partsL 0 ps).length ≤ 100000
def encPs (ps : List Prt) : PyData := .tuple (ps.map encPt)
theorem AccD.grow {K : PySem.W.Frag} {H0 H H2 : Hp} {wl : Addr} {ls : List PyData} (A : AccD K H0 wl ls H) (s : Same H H2) : AccD K H0 wl ls H2 := by
  obtain ⟨ys, r, d⟩ := A.ex
  exact ⟨A.new, A.same.trans s, ⟨ys, s _ _ r, dpA_same s d⟩, A.pl, A.few⟩
theorem AccD.app_go {K : PySem.W.Frag} {H0 H : Hp} {wl : Addr} {t : V} {ls : List PyData} {l : PyData} {Q : VK} (A : AccD K H0 wl ls H) (d2 : Dp K H t l) (p2 : Pl l = true) (few : (ls ++ [l]).length ≤ 100000)
    (q : ∀ H2, AccD K H0 wl (ls ++ [l]) H2 → ExT wl H H2 → Q .non H2) : rAppend (.ref wl) [t] H Q := by
  obtain ⟨ys, r, d⟩ := A.ex
  have l1 := DpAll.len d
  have f2 := few
  rw [List.length_append, List.length_singleton] at f2
  refine ⟨wl, ys, t, rfl, rfl, r, Nat.lt_of_lt_of_le (by omega : _ < 100001) (by decide), q _ ⟨A.new, fun p o e => ?_, ⟨_, upd_same, ?_⟩, ?_, few⟩ fun p o ne e => ?_⟩
  · rw [upd_ne (fun z => by rw [z, A.new] at e; cases e)]
    exact A.same _ _ e
  · exact dpA_app (DpAll.keep (tu_lst r) d A.pl) (.cons (Dp.keep (tu_lst r) d2 p2) .nil)
  · rw [pl_app, A.pl]
    show PlAll [l] = true
    rw [PlAll, p2]
    rfl
  · rw [upd_ne ne]
    exact e
theorem forEC_go {K : PySem.W.Frag} {tp : Bool} {k : Int} {wi : TI} {g : TG} {tb : TS} {D : Ends} {σ : L2.St} {H : Hp} (C : Addr → List V → Hp → Prop) (ht : ∀ R : It → Hp → Prop, (∀ a xs H1, C a xs H1 → R (ItE K tp a k) H1) → wi σ H R) (kk : ∀ a xs H1, C a xs H1 → tFor (fun _ H R => R (ItE K tp a k) H) g tb D σ H1) : tFor wi g tb D σ H :=
  ht _ fun a xs H1 c => kk a xs H1 c
end
end Own

set_option Elab.async false
set_option linter.all false
set_option maxRecDepth 100000
set_option maxHeartbeats 4000000
namespace Own
open PySem PySem.Spec PyProof.Rows L2
section
variable {P : Program} {w : World} {K : PySem.W.Frag} {mg : Str → Option Value} {base : Heap}
theorem strs_dp {K : PySem.W.Frag} {H : Hp} : ∀ {ys : List V} {l : List Str}, DpAll K H ys (l.map PyData.str) → ys = l.map V.str
  | _, [], .nil => rfl
  | _, _ :: _, .cons h t => by rw [dp_strV h, strs_dp t]; rfl
theorem AccD.ext_go {K : PySem.W.Frag} {H0 H : Hp} {wl b : Addr} {ls l2 : List PyData} {ys2 : List V} {Q : VK} (A : AccD K H0 wl ls H) (rb : H b = some (.lst ys2)) (d2 : DpAll K H ys2 l2) (p2 : PlAll l2 = true) (few : (ls ++ l2).length ≤ 100000)
    (q : ∀ H2, AccD K H0 wl (ls ++ l2) H2 → ExT wl H H2 → Q .non H2) : rExtend (.ref wl) [.ref b] H Q := by
  obtain ⟨ys, r, d⟩ := A.ex
  have l1 := DpAll.len d
  have l3 := DpAll.len d2
  have f2 := few
  rw [List.length_append] at f2
  refine ⟨wl, b, ys, ys2, rfl, rfl, r, rb, Nat.le_trans (by omega : _ ≤ 100000) (by decide), q _ ⟨A.new, fun p o e => ?_, ⟨_, upd_same, ?_⟩, ?_, few⟩ fun p o ne e => ?_⟩
  · rw [upd_ne (fun z => by rw [z, A.new] at e; cases e)]
    exact A.same _ _ e
  · exact dpA_app (DpAll.keep (tu_lst r) d A.pl) (DpAll.keep (tu_lst r) d2 p2)
  · rw [pl_app, A.pl, p2]
    rfl
  · rw [upd_ne ne]
    exact e
end
end Own

set_option Elab.async false
set_option linter.all false
set_option maxRecDepth 100000
set_option maxHeartbeats 4000000
namespace Own
open PySem PySem.Spec PyProof.Rows L2
section
variable {P : Program} {w : World} {K : PySem.W.Frag} {mg : Str → Option Value} {base : Heap}
theorem DecR.isin {K : PySem.W.Frag} {H : Hp} {d : Addr} {D : Decl} (h : DecR K H d D) (y : Str) : ∃ o, DGet H d (.str y) o ∧ o.isSome = (lk D y).isSome := by
  obtain ⟨t, a, _, b⟩ := h
  refine ⟨valV t (.inr y), .inl ⟨t, .inr y, .inl a, rfl, rfl⟩, ?_⟩
  cases e : lk D y with
  | none => rw [(b y).1 e]; rfl
  | some m =>
    obtain ⟨z, e1, _⟩ := (b y).2 m.1 m.2 e
    rw [e1]
    rfl
theorem forLB_go {K : PySem.W.Frag} {tl : TE} {g : TG} {tb : TS} {D : Ends} {σ : L2.St} {H : Hp} (C : Addr → List V → Hp → Prop) (hC : ∀ a xs H1, C a xs H1 → SqL K H1 a xs) (ht : ∀ Q : VK, (∀ a xs H1, C a xs H1 → Q (.ref a) H1) → tl σ H Q) (k : ∀ a xs H1, C a xs H1 → tFor (fun _ H R => R (Itl K a) H) g tb D σ H1) : tFor (iList K tl) g tb D σ H :=
  ht _ fun a xs H1 c => ⟨a, rfl, ⟨xs, hC _ _ _ c⟩, k a xs H1 c⟩
theorem forLW_go {K : PySem.W.Frag} {a : Addr} {xs : List V} {g : TG} {tb : TS} {D : Ends} {σ : L2.St} {H : Hp} (Pv : Nat → L2.St → Hp → Prop) (hG : ∀ i σ2 H2, i ≤ xs.length → Pv i σ2 H2 → SqL K H2 a xs) (h0 : Pv 0 σ H)
    (hs : ∀ i x σ2 H2, xs[i]? = some x → Pv i σ2 H2 → g x σ2 H2 fun σ3 H3 => tb { D with nx := Pv (i + 1), ct := Pv (i + 1), bk := D.nx } σ3 H3) (hd : ∀ σ2 H2, Pv xs.length σ2 H2 → D.nx σ2 H2) : tFor (fun _ H R => R (Itl K a) H) g tb D σ H :=
  for_it (walk_list (K := K) (a := a) (xs := xs)) Pv h0 hG (fun i x σ2 H2 H3 hi p y => by
    obtain ⟨rfl, hx⟩ := y
    exact hs i x σ2 _ hx p) hd
def Stm.second : Stm → Str
  | .bind i _ _ => i
  | _ => ""
end
end Own

set_option Elab.async false
set_option linter.all false
set_option maxRecDepth 100000
set_option maxHeartbeats 4000000

set_option Elab.async false
set_option linter.all false
set_option maxRecDepth 100000
set_option maxHeartbeats 4000000
namespace Own
open PySem PySem.Spec PyProof.Rows L2
section
variable {P : Program} {w : World} {K : PySem.W.Frag} {mg : Str → Option Value} {base : Heap}
theorem lk_snoc {D : Decl} {i : Str} {x : Str × Nat} (h : lk D i = none) (y : Str) : lk (D ++ [(i, x)]) y = if y = i then some x else lk D y := by
  induction D with
  | nil =>
    show lk [(i, x)] y = _
    by_cases e : i = y
    · subst e; simp [lk]
    · simp [lk, e]
      exact fun z => e z.symm
  | cons m D ih =>
    by_cases e : m.1 = i
    · simp [lk, e] at h
    · have h2 : lk D i = none := by simpa [lk, List.find?_cons, e] using h
      have ih2 := ih h2
      by_cases e2 : m.1 = y
      · have ne : ¬ y = i := fun z => e (e2.trans z)
        simp [lk, List.find?_cons, e2, ne]
      · have c1 : lk (m :: D ++ [(i, x)]) y = lk (D ++ [(i, x)]) y := by simp [lk, List.find?_cons, e2]
        have c2 : lk (m :: D) y = lk D y := by simp [lk, List.find?_cons, e2]
        rw [c1, c2, ih2]
theorem tu_dK {H : Hp} {a : Addr} {t : Tbl} {o : HO} (h : H a = some (.dK t)) : Tu H (upd H a o) := fun p ys hp => by
  have ne : p ≠ a := by
    rintro rfl
    rcases hp with h2 | ⟨o, h2⟩ <;> (rw [h] at h2; cases h2)
  rcases hp with h2 | ⟨o2, h2⟩
  · exact .inl (by rw [upd_ne ne]; exact h2)
  · exact .inr ⟨o2, by rw [upd_ne ne]; exact h2⟩
theorem putK_len (t : Tbl) (k : Key) (v : V) : (putK t k v).length ≤ t.length + 1 := by
  unfold putK
  split
  · rw [List.length_map]; omega
  · rw [List.length_append, List.length_singleton]; omega
/-- declared[i] = (k, n) -/
theorem DecR.put {K : PySem.W.Frag} {H : Hp} {d q : Addr} {D : Decl} {i k : Str} {n : Nat} (h : DecR K H d D) (no : lk D i = none) (few : D.length ≤ 100000) (hq : SqT K H q [.str k, .int (n : Int)]) : ∃ H2, DPut H d (.str i) (.ref q) H2 ∧ DecR K H2 d (D ++ [(i, (k, n))]) ∧ Tu H H2 ∧ ExT d H H2 := by
  obtain ⟨t, a, lt, b⟩ := h
  refine ⟨_, .inl ⟨t, .inr i, a, rfl, Nat.lt_of_le_of_lt (Nat.le_trans lt few) (by decide), rfl⟩, ⟨putK t (.inr i) (.ref q), upd_same, ?_, fun y => ?_⟩, tu_dK a, fun p o ne e => by rw [upd_ne ne]; exact e⟩
  · have := putK_len t (.inr i) (.ref q)
    rw [List.length_append, List.length_singleton]
    omega
  · rw [valV_put, lk_snoc no]
    by_cases e : y = i
    · subst e
      rw [if_pos rfl, if_pos rfl]
      refine ⟨fun z => (by cases z), fun k2 n2 z => ?_⟩
      cases z
      exact ⟨q, rfl, SqT.tu (tu_dK a) hq⟩
    · rw [if_neg e, if_neg (fun z => e (Sum.inr.inj z))]
      refine ⟨(b y).1, fun k2 n2 z => ?_⟩
      obtain ⟨r, e1, e2⟩ := (b y).2 k2 n2 z
      exact ⟨r, e1, SqT.tu (tu_dK a) e2⟩
theorem dp_intV {K : PySem.W.Frag} {H : Hp} {v : V} {x : Int} (h : Dp K H v (.int x)) : v = .int x := by
  cases h
  rfl
theorem part_not (t : Prt) : ∃ ds, encPt t = .tuple (.str t.kind :: .str t.ident :: ds) ∧ t.kind ∉ V_STATEMENTS.map (·.1) := by
  cases t
  · exact ⟨_, rfl, by simp only [Prt.kind]; decide +kernel⟩
  · exact ⟨_, rfl, by simp only [Prt.kind]; decide +kernel⟩
  · exact ⟨_, rfl, by simp only [Prt.kind]; decide +kernel⟩
  · exact ⟨_, rfl, by simp only [Prt.kind]; decide +kernel⟩
end
end Own

set_option Elab.async false
set_option linter.all false
set_option maxRecDepth 100000
set_option maxHeartbeats 4000000
namespace Own
open PySem PySem.Spec PyProof.Rows L2
section
variable {P : Program} {w : World} {K : PySem.W.Frag} {mg : Str → Option Value} {base : Heap}
theorem lcLB_go {K : PySem.W.Frag} {tl : TE} {g : TG} {tt : TT} {te : TE} {vs : List Nat} {σ : L2.St} {H : Hp} {Q : VK} (C : Addr → List V → Hp → Prop) (hC : ∀ a xs H1, C a xs H1 → SqL K H1 a xs) (ht : ∀ Q : VK, (∀ a xs H1, C a xs H1 → Q (.ref a) H1) → tl σ H Q) (k : ∀ a xs H1, C a xs H1 → tLc (fun _ H R => R (Itl K a) H) g tt te vs σ H1 Q) : tLc (iList K tl) g tt te vs σ H Q :=
  ht _ fun a xs H1 c => ⟨a, rfl, ⟨xs, hC _ _ _ c⟩, k a xs H1 c⟩
end
end Own

set_option Elab.async false
set_option linter.all false
set_option maxRecDepth 100000
set_option maxHeartbeats 4000000
namespace Own
open PySem PySem.Spec PyProof.Rows L2
section
variable {P : Program} {w : World} {K : PySem.W.Frag} {mg : Str → Option Value} {base : Heap}
theorem ok_l_draw (T : Txt K mg w) : FnOk P w K mg base CX0 1 T.d_l_draw.a T.d_l_draw.d ["_law_tape_here", "_law_many"] spDraw := by
  refine T.d_l_draw.F.ok sc_l_draw (fun vs H Q E h => ?_) (fun cdv A outer s H vs Q E hr h => ?_)
  · obtain ⟨t, n, m, rfl, _⟩ := h
    rfl
  · obtain ⟨t, n, m, rfl, ⟨c, j, f, k, ht, ok⟩, m0, mb, q⟩ := h
    refine ⟨_, (pss_cons (ps_augS (pv 0) pe_int pget_list pe_int ip_add set_list)
      (pss_cons (ps_if (pt_cmpR op_eq (pe_ix ix_list (pv 0) pe_int (fun _ _ => rfl)) pe_int (nomark _)) (pss_cons (ps_set (i := 2) sc_l_draw.nd rfl (Or.inl rfl) (pe_op op_modN (pe_callTy call_intI (by rfl) T.z_int (by decide +kernel) (pa_cons (pe_ix ix_list (pv 0) pe_int (fun _ _ => rfl)) pa_nil)) (pv 1)))
      (pss_cons (ps_asg (pe_op op_fdivW (pe_callTy call_intI (by rfl) T.z_int (by decide +kernel) (pa_cons (pe_ix ix_list (pv 0) pe_int (fun _ _ => rfl)) pa_nil)) (pv 1)) (pg_sub (pv 0) pe_int set_list))
      (pss_one (ps_ret (pv 2))))) pss_nil)
      (pss_cons (ps_set (i := 3) sc_l_draw.nd rfl (Or.inl rfl) (pe_ix ix_list (pe_lst (pa_cons pe_int (pa_cons pe_int (pa_cons pe_int (pa_cons pe_int (pa_cons pe_int pa_nil)))))) (pe_op op_modN (pe_callTy call_intI (by rfl) T.z_int (by decide +kernel) (pa_cons (pe_ix ix_list (pv 0) pe_int (fun _ _ => rfl)) pa_nil)) pe_int) (fun _ _ => rfl)))
      (pss_cons (ps_set (i := 4) sc_l_draw.nd rfl (Or.inl rfl) (pe_op op_add (pe_ix ix_list (pv 0) pe_int (fun _ _ => rfl)) (pe_op op_mul (pe_ix ix_list (pv 0) pe_int (fun _ _ => rfl)) pe_int)))
      (pss_cons (ps_set (i := 5) sc_l_draw.nd rfl (Or.inl rfl) (pe_op op_modN (pe_callTy call_intI (by rfl) T.z_int (by decide +kernel) (pa_cons (pe_op op_pow (pe_op op_add (pe_op op_add (pv 4) (pe_op op_mul (pe_ix ix_list (pv 0) pe_int (fun _ _ => rfl)) pe_int)) pe_int) pe_int) pa_nil)) (pv 3)))
      (pss_one (ps_ret (pe_op op_modN (pe_callTy call_intI (by rfl) T.z_int (by decide +kernel) (pa_cons (pe_op op_fdivN (pv 5) pe_int) pa_nil)) (pv 1))))))))), ?_⟩
    (try simp only [tIxO, rIsB, rNotB, tSeq, tIfS, tTest, tB, tOp, tUn, tVar, tC, tAsg, gName, tRet, tRetN, tCB, tCons, tNil, tLst, tTup, tNext, tPar, tM0, tM1, tSl, tNoPart, tPart, rSlS, tAug, tAugS, tExf_eq, ipI, tChain, tCall, tDrop, tBM, tAnd, tOr, tNot, tAndV, tOrV, tNotV, tIf, tIsN, tNotN, rI, rI0, rU, rEq, rNe, gSub, cx_K, cx_K2, L2.start, wipe, scal_ii, scal_ss, scal_bb, scal_is, scal_si, scal_nn, List.map_cons, List.map_nil, List.length_cons, List.length_nil, List.cons_append, List.nil_append, List.append_nil, List.replicate, List.getElem?_cons_zero, List.getElem?_cons_succ, Option.some.injEq, exists_and_left, exists_eq_left', exists_eq_left, exists_eq, exists_eq', V.int.injEq, V.ref.injEq, V.str.injEq, V.bl.injEq, List.cons.injEq, and_true, true_and, false_and, exists_false, or_false, false_or, reduceCtorEq, List.set_cons_zero, List.set_cons_succ, Nat.reduceAdd, Nat.reduceSub, Int.reduceToNat, decide_eq_true_eq, if_true, if_false, Bool.false_eq_true, Bool.not_true, Bool.not_false, Bool.true_eq_false, ite_false, ite_true, ne_eq, not_false_eq_true, Int.reduceEq])
    refine getL_go ht rfl ?_
    (try simp only [tIxO, rIsB, rNotB, tSeq, tIfS, tTest, tB, tOp, tUn, tVar, tC, tAsg, gName, tRet, tRetN, tCB, tCons, tNil, tLst, tTup, tNext, tPar, tM0, tM1, tSl, tNoPart, tPart, rSlS, tAug, tAugS, tExf_eq, ipI, tChain, tCall, tDrop, tBM, tAnd, tOr, tNot, tAndV, tOrV, tNotV, tIf, tIsN, tNotN, rI, rI0, rU, rEq, rNe, gSub, cx_K, cx_K2, L2.start, wipe, scal_ii, scal_ss, scal_bb, scal_is, scal_si, scal_nn, List.map_cons, List.map_nil, List.length_cons, List.length_nil, List.cons_append, List.nil_append, List.append_nil, List.replicate, List.getElem?_cons_zero, List.getElem?_cons_succ, Option.some.injEq, exists_and_left, exists_eq_left', exists_eq_left, exists_eq, exists_eq', V.int.injEq, V.ref.injEq, V.str.injEq, V.bl.injEq, List.cons.injEq, and_true, true_and, false_and, exists_false, or_false, false_or, reduceCtorEq, List.set_cons_zero, List.set_cons_succ, Nat.reduceAdd, Nat.reduceSub, Int.reduceToNat, decide_eq_true_eq, if_true, if_false, Bool.false_eq_true, Bool.not_true, Bool.not_false, Bool.true_eq_false, ite_false, ite_true, ne_eq, not_false_eq_true, Int.reduceEq])
    refine setL_go ht rfl ?_
    (try simp only [tIxO, rIsB, rNotB, tSeq, tIfS, tTest, tB, tOp, tUn, tVar, tC, tAsg, gName, tRet, tRetN, tCB, tCons, tNil, tLst, tTup, tNext, tPar, tM0, tM1, tSl, tNoPart, tPart, rSlS, tAug, tAugS, tExf_eq, ipI, tChain, tCall, tDrop, tBM, tAnd, tOr, tNot, tAndV, tOrV, tNotV, tIf, tIsN, tNotN, rI, rI0, rU, rEq, rNe, gSub, cx_K, cx_K2, L2.start, wipe, scal_ii, scal_ss, scal_bb, scal_is, scal_si, scal_nn, List.map_cons, List.map_nil, List.length_cons, List.length_nil, List.cons_append, List.nil_append, List.append_nil, List.replicate, List.getElem?_cons_zero, List.getElem?_cons_succ, Option.some.injEq, exists_and_left, exists_eq_left', exists_eq_left, exists_eq, exists_eq', V.int.injEq, V.ref.injEq, V.str.injEq, V.bl.injEq, List.cons.injEq, and_true, true_and, false_and, exists_false, or_false, false_or, reduceCtorEq, List.set_cons_zero, List.set_cons_succ, Nat.reduceAdd, Nat.reduceSub, Int.reduceToNat, decide_eq_true_eq, if_true, if_false, Bool.false_eq_true, Bool.not_true, Bool.not_false, Bool.true_eq_false, ite_false, ite_true, ne_eq, not_false_eq_true, Int.reduceEq])
    refine ixM_go upd_same rfl ?_
    (try simp only [tIxO, rIsB, rNotB, tSeq, tIfS, tTest, tB, tOp, tUn, tVar, tC, tAsg, gName, tRet, tRetN, tCB, tCons, tNil, tLst, tTup, tNext, tPar, tM0, tM1, tSl, tNoPart, tPart, rSlS, tAug, tAugS, tExf_eq, ipI, tChain, tCall, tDrop, tBM, tAnd, tOr, tNot, tAndV, tOrV, tNotV, tIf, tIsN, tNotN, rI, rI0, rU, rEq, rNe, gSub, cx_K, cx_K2, L2.start, wipe, scal_ii, scal_ss, scal_bb, scal_is, scal_si, scal_nn, List.map_cons, List.map_nil, List.length_cons, List.length_nil, List.cons_append, List.nil_append, List.append_nil, List.replicate, List.getElem?_cons_zero, List.getElem?_cons_succ, Option.some.injEq, exists_and_left, exists_eq_left', exists_eq_left, exists_eq, exists_eq', V.int.injEq, V.ref.injEq, V.str.injEq, V.bl.injEq, List.cons.injEq, and_true, true_and, false_and, exists_false, or_false, false_or, reduceCtorEq, List.set_cons_zero, List.set_cons_succ, Nat.reduceAdd, Nat.reduceSub, Int.reduceToNat, decide_eq_true_eq, if_true, if_false, Bool.false_eq_true, Bool.not_true, Bool.not_false, Bool.true_eq_false, ite_false, ite_true, ne_eq, not_false_eq_true, Int.reduceEq])
    refine ite2 (fun h0 => ?_) (fun h0 => ?_)
    · refine ixM_go upd_same rfl ?_
      (try simp only [tIxO, rIsB, rNotB, tSeq, tIfS, tTest, tB, tOp, tUn, tVar, tC, tAsg, gName, tRet, tRetN, tCB, tCons, tNil, tLst, tTup, tNext, tPar, tM0, tM1, tSl, tNoPart, tPart, rSlS, tAug, tAugS, tExf_eq, ipI, tChain, tCall, tDrop, tBM, tAnd, tOr, tNot, tAndV, tOrV, tNotV, tIf, tIsN, tNotN, rI, rI0, rU, rEq, rNe, gSub, cx_K, cx_K2, L2.start, wipe, scal_ii, scal_ss, scal_bb, scal_is, scal_si, scal_nn, List.map_cons, List.map_nil, List.length_cons, List.length_nil, List.cons_append, List.nil_append, List.append_nil, List.replicate, List.getElem?_cons_zero, List.getElem?_cons_succ, Option.some.injEq, exists_and_left, exists_eq_left', exists_eq_left, exists_eq, exists_eq', V.int.injEq, V.ref.injEq, V.str.injEq, V.bl.injEq, List.cons.injEq, and_true, true_and, false_and, exists_false, or_false, false_or, reduceCtorEq, List.set_cons_zero, List.set_cons_succ, Nat.reduceAdd, Nat.reduceSub, Int.reduceToNat, decide_eq_true_eq, if_true, if_false, Bool.false_eq_true, Bool.not_true, Bool.not_false, Bool.true_eq_false, ite_false, ite_true, ne_eq, not_false_eq_true, Int.reduceEq])
      refine ⟨by omega, ixM_go upd_same rfl ?_⟩
      (try simp only [tIxO, rIsB, rNotB, tSeq, tIfS, tTest, tB, tOp, tUn, tVar, tC, tAsg, gName, tRet, tRetN, tCB, tCons, tNil, tLst, tTup, tNext, tPar, tM0, tM1, tSl, tNoPart, tPart, rSlS, tAug, tAugS, tExf_eq, ipI, tChain, tCall, tDrop, tBM, tAnd, tOr, tNot, tAndV, tOrV, tNotV, tIf, tIsN, tNotN, rI, rI0, rU, rEq, rNe, gSub, cx_K, cx_K2, L2.start, wipe, scal_ii, scal_ss, scal_bb, scal_is, scal_si, scal_nn, List.map_cons, List.map_nil, List.length_cons, List.length_nil, List.cons_append, List.nil_append, List.append_nil, List.replicate, List.getElem?_cons_zero, List.getElem?_cons_succ, Option.some.injEq, exists_and_left, exists_eq_left', exists_eq_left, exists_eq, exists_eq', V.int.injEq, V.ref.injEq, V.str.injEq, V.bl.injEq, List.cons.injEq, and_true, true_and, false_and, exists_false, or_false, false_or, reduceCtorEq, List.set_cons_zero, List.set_cons_succ, Nat.reduceAdd, Nat.reduceSub, Int.reduceToNat, decide_eq_true_eq, if_true, if_false, Bool.false_eq_true, Bool.not_true, Bool.not_false, Bool.true_eq_false, ite_false, ite_true, ne_eq, not_false_eq_true, Int.reduceEq])
      refine ⟨wide_div m0 mb (by decide) (by decide), setL_go upd_same rfl ?_⟩
      (try simp only [tIxO, rIsB, rNotB, tSeq, tIfS, tTest, tB, tOp, tUn, tVar, tC, tAsg, gName, tRet, tRetN, tCB, tCons, tNil, tLst, tTup, tNext, tPar, tM0, tM1, tSl, tNoPart, tPart, rSlS, tAug, tAugS, tExf_eq, ipI, tChain, tCall, tDrop, tBM, tAnd, tOr, tNot, tAndV, tOrV, tNotV, tIf, tIsN, tNotN, rI, rI0, rU, rEq, rNe, gSub, cx_K, cx_K2, L2.start, wipe, scal_ii, scal_ss, scal_bb, scal_is, scal_si, scal_nn, List.map_cons, List.map_nil, List.length_cons, List.length_nil, List.cons_append, List.nil_append, List.append_nil, List.replicate, List.getElem?_cons_zero, List.getElem?_cons_succ, Option.some.injEq, exists_and_left, exists_eq_left', exists_eq_left, exists_eq, exists_eq', V.int.injEq, V.ref.injEq, V.str.injEq, V.bl.injEq, List.cons.injEq, and_true, true_and, false_and, exists_false, or_false, false_or, reduceCtorEq, List.set_cons_zero, List.set_cons_succ, Nat.reduceAdd, Nat.reduceSub, Int.reduceToNat, decide_eq_true_eq, if_true, if_false, Bool.false_eq_true, Bool.not_true, Bool.not_false, Bool.true_eq_false, ite_false, ite_true, ne_eq, not_false_eq_true, Int.reduceEq, upd_upd])
      have b := fmod_bd (x := c) m0
      refine q _ _ b.1 b.2 ⟨c / m, j + 1, f, k, upd_same, ⟨.inl h0, ?_, ?_, ok.klo, ok.khi⟩⟩ fun b o hb e => by rw [upd_ne hb]; exact e
      · have := ok.lo; omega
      · have := ok.hi; omega
    · have hs : f = 1 ∧ 0 ≤ c ∧ c < 10 ^ 18 := ok.small.elim (fun z => absurd z h0) id
      obtain ⟨rfl, c0, c1⟩ := hs
      refine ⟨(by decide), fun p hp => ?_⟩
      have hpt : t ≠ p := fun z => by
        rw [← z, upd_same] at hp
        cases hp
      refine ixM_go (by rw [upd_ne hpt, upd_same]) rfl ?_
      (try simp only [tIxO, rIsB, rNotB, tSeq, tIfS, tTest, tB, tOp, tUn, tVar, tC, tAsg, gName, tRet, tRetN, tCB, tCons, tNil, tLst, tTup, tNext, tPar, tM0, tM1, tSl, tNoPart, tPart, rSlS, tAug, tAugS, tExf_eq, ipI, tChain, tCall, tDrop, tBM, tAnd, tOr, tNot, tAndV, tOrV, tNotV, tIf, tIsN, tNotN, rI, rI0, rU, rEq, rNe, gSub, cx_K, cx_K2, L2.start, wipe, scal_ii, scal_ss, scal_bb, scal_is, scal_si, scal_nn, List.map_cons, List.map_nil, List.length_cons, List.length_nil, List.cons_append, List.nil_append, List.append_nil, List.replicate, List.getElem?_cons_zero, List.getElem?_cons_succ, Option.some.injEq, exists_and_left, exists_eq_left', exists_eq_left, exists_eq, exists_eq', V.int.injEq, V.ref.injEq, V.str.injEq, V.bl.injEq, List.cons.injEq, and_true, true_and, false_and, exists_false, or_false, false_or, reduceCtorEq, List.set_cons_zero, List.set_cons_succ, Nat.reduceAdd, Nat.reduceSub, Int.reduceToNat, decide_eq_true_eq, if_true, if_false, Bool.false_eq_true, Bool.not_true, Bool.not_false, Bool.true_eq_false, ite_false, ite_true, ne_eq, not_false_eq_true, Int.reduceEq])
      have b5 := fmod_bd (x := j + 1) (m := 5) (by decide)
      obtain ⟨pr, hpr, hp1, hp2⟩ : ∃ pr : Int, atI [V.int 2147483647, V.int 2147483629, V.int 2147483587, V.int 2147483579, V.int 2147483563] ((j + 1).fmod 5) = some (V.int pr) ∧ 0 < pr ∧ pr < 2 ^ 32 := by
        generalize (j + 1).fmod 5 = z at b5
        have : z = 0 ∨ z = 1 ∨ z = 2 ∨ z = 3 ∨ z = 4 := by omega
        rcases this with rfl | rfl | rfl | rfl | rfl
        all_goals exact ⟨_, rfl, by decide, by decide⟩
      refine ixM_go upd_same hpr ?_
      (try simp only [tIxO, rIsB, rNotB, tSeq, tIfS, tTest, tB, tOp, tUn, tVar, tC, tAsg, gName, tRet, tRetN, tCB, tCons, tNil, tLst, tTup, tNext, tPar, tM0, tM1, tSl, tNoPart, tPart, rSlS, tAug, tAugS, tExf_eq, ipI, tChain, tCall, tDrop, tBM, tAnd, tOr, tNot, tAndV, tOrV, tNotV, tIf, tIsN, tNotN, rI, rI0, rU, rEq, rNe, gSub, cx_K, cx_K2, L2.start, wipe, scal_ii, scal_ss, scal_bb, scal_is, scal_si, scal_nn, List.map_cons, List.map_nil, List.length_cons, List.length_nil, List.cons_append, List.nil_append, List.append_nil, List.replicate, List.getElem?_cons_zero, List.getElem?_cons_succ, Option.some.injEq, exists_and_left, exists_eq_left', exists_eq_left, exists_eq, exists_eq', V.int.injEq, V.ref.injEq, V.str.injEq, V.bl.injEq, List.cons.injEq, and_true, true_and, false_and, exists_false, or_false, false_or, reduceCtorEq, List.set_cons_zero, List.set_cons_succ, Nat.reduceAdd, Nat.reduceSub, Int.reduceToNat, decide_eq_true_eq, if_true, if_false, Bool.false_eq_true, Bool.not_true, Bool.not_false, Bool.true_eq_false, ite_false, ite_true, ne_eq, not_false_eq_true, Int.reduceEq])
      refine ixM_go (by rw [upd_ne hpt, upd_same]) rfl (ixM_go (by rw [upd_ne hpt, upd_same]) rfl ?_)
      (try simp only [tIxO, rIsB, rNotB, tSeq, tIfS, tTest, tB, tOp, tUn, tVar, tC, tAsg, gName, tRet, tRetN, tCB, tCons, tNil, tLst, tTup, tNext, tPar, tM0, tM1, tSl, tNoPart, tPart, rSlS, tAug, tAugS, tExf_eq, ipI, tChain, tCall, tDrop, tBM, tAnd, tOr, tNot, tAndV, tOrV, tNotV, tIf, tIsN, tNotN, rI, rI0, rU, rEq, rNe, gSub, cx_K, cx_K2, L2.start, wipe, scal_ii, scal_ss, scal_bb, scal_is, scal_si, scal_nn, List.map_cons, List.map_nil, List.length_cons, List.length_nil, List.cons_append, List.nil_append, List.append_nil, List.replicate, List.getElem?_cons_zero, List.getElem?_cons_succ, Option.some.injEq, exists_and_left, exists_eq_left', exists_eq_left, exists_eq, exists_eq', V.int.injEq, V.ref.injEq, V.str.injEq, V.bl.injEq, List.cons.injEq, and_true, true_and, false_and, exists_false, or_false, false_or, reduceCtorEq, List.set_cons_zero, List.set_cons_succ, Nat.reduceAdd, Nat.reduceSub, Int.reduceToNat, decide_eq_true_eq, if_true, if_false, Bool.false_eq_true, Bool.not_true, Bool.not_false, Bool.true_eq_false, ite_false, ite_true, ne_eq, not_false_eq_true, Int.reduceEq])
      refine ⟨.inr (by decide), ixM_go (by rw [upd_ne hpt, upd_same]) rfl ?_⟩
      (try simp only [tIxO, rIsB, rNotB, tSeq, tIfS, tTest, tB, tOp, tUn, tVar, tC, tAsg, gName, tRet, tRetN, tCB, tCons, tNil, tLst, tTup, tNext, tPar, tM0, tM1, tSl, tNoPart, tPart, rSlS, tAug, tAugS, tExf_eq, ipI, tChain, tCall, tDrop, tBM, tAnd, tOr, tNot, tAndV, tOrV, tNotV, tIf, tIsN, tNotN, rI, rI0, rU, rEq, rNe, gSub, cx_K, cx_K2, L2.start, wipe, scal_ii, scal_ss, scal_bb, scal_is, scal_si, scal_nn, List.map_cons, List.map_nil, List.length_cons, List.length_nil, List.cons_append, List.nil_append, List.append_nil, List.replicate, List.getElem?_cons_zero, List.getElem?_cons_succ, Option.some.injEq, exists_and_left, exists_eq_left', exists_eq_left, exists_eq, exists_eq', V.int.injEq, V.ref.injEq, V.str.injEq, V.bl.injEq, List.cons.injEq, and_true, true_and, false_and, exists_false, or_false, false_or, reduceCtorEq, List.set_cons_zero, List.set_cons_succ, Nat.reduceAdd, Nat.reduceSub, Int.reduceToNat, decide_eq_true_eq, if_true, if_false, Bool.false_eq_true, Bool.not_true, Bool.not_false, Bool.true_eq_false, ite_false, ite_true, ne_eq, not_false_eq_true, Int.reduceEq])
      have hb : 0 ≤ c + (j + 1) * 48271 + k * 104729 + 40692 ∧ c + (j + 1) * 48271 + k * 104729 + 40692 < 2 ^ 62 := by
        have h1 := ok.lo; have h2 := ok.hi; have h3 := ok.klo; have h4 := ok.khi
        omega
      refine ⟨.inr (by decide), ⟨by decide, by decide, by omega⟩, by omega, ⟨by decide, by decide⟩, by omega, ?_⟩
      refine q _ _ (fmod_bd m0).1 (fmod_bd m0).2 ⟨c, j + 1, 1, k, by rw [upd_ne hpt, upd_same], ⟨.inr ⟨rfl, c0, c1⟩, ?_, ?_, ok.klo, ok.khi⟩⟩ fun b o hb e => ?_
      · have := ok.lo; omega
      · have := ok.hi; omega
      · have hbp : b ≠ p := fun z => by
          rw [z] at e
          rw [upd_ne (Ne.symm hpt), e] at hp
          cases hp
        rw [upd_ne hbp, upd_ne hb]
        exact e
theorem ok_l_tape (T : Txt K mg w) : FnOk P w K mg base CX0 1 T.d_l_tape.a T.d_l_tape.d ["_law_script", "_law_k"] (spTape K) := by
  refine T.d_l_tape.F.ok sc_l_tape (fun vs H Q E h => ?_) (fun cdv A outer s H vs Q E hr h => ?_)
  · obtain ⟨t, n, m, rfl, _⟩ := h
    rfl
  · obtain ⟨a, ns, k, rfl, hs, k0, k1, q⟩ := h
    refine ⟨_, (pss_cons (ps_set (i := 2) sc_l_tape.nd rfl (Or.inl rfl) pe_int)
      (pss_cons (ps_if (pt_cmpR op_lt (pv 1) (pe_callB call_lenL (by rfl) T.z_len (by decide +kernel) (pa_cons (pv 0) pa_nil)) (nomark _)) (pss_one (ps_set (i := 2) sc_l_tape.nd rfl (Or.inl rfl) (pe_callTy call_intI (by rfl) T.z_int (by decide +kernel) (pa_cons (pe_ix ix_list (pv 0) (pv 1) (fun _ _ => rfl)) pa_nil)))) pss_nil)
      (pss_one (ps_ret (pe_lst (pa_cons (pv 2) (pa_cons pe_int (pa_cons (pe_callTy call_intB (by rfl) T.z_int (by decide +kernel) (pa_cons (pe_chain op_le op_lt pe_int (pv 2) (pe_op op_pow pe_int pe_int)) pa_nil)) (pa_cons (pv 1) pa_nil))))))))), ?_⟩
    (try simp only [tIxO, rIsB, rNotB, tSeq, tIfS, tTest, tB, tOp, tUn, tVar, tC, tAsg, gName, tRet, tRetN, tCB, tCons, tNil, tLst, tTup, tNext, tPar, tM0, tM1, tSl, tNoPart, tPart, rSlS, tAug, tAugS, tExf_eq, ipI, tChain, tCall, tDrop, tBM, tAnd, tOr, tNot, tAndV, tOrV, tNotV, tIf, tIsN, tNotN, rI, rI0, rU, rEq, rNe, gSub, cx_K, cx_K2, L2.start, wipe, scal_ii, scal_ss, scal_bb, scal_is, scal_si, scal_nn, List.map_cons, List.map_nil, List.length_cons, List.length_nil, List.cons_append, List.nil_append, List.append_nil, List.replicate, List.getElem?_cons_zero, List.getElem?_cons_succ, Option.some.injEq, exists_and_left, exists_eq_left', exists_eq_left, exists_eq, exists_eq', V.int.injEq, V.ref.injEq, V.str.injEq, V.bl.injEq, List.cons.injEq, and_true, true_and, false_and, exists_false, or_false, false_or, reduceCtorEq, List.set_cons_zero, List.set_cons_succ, Nat.reduceAdd, Nat.reduceSub, Int.reduceToNat, decide_eq_true_eq, if_true, if_false, Bool.false_eq_true, Bool.not_true, Bool.not_false, Bool.true_eq_false, ite_false, ite_true, ne_eq, not_false_eq_true, Int.reduceEq])
    have fin : ∀ c : Int, if 0 ≤ c then CPow 10 18 ∧ 4 ≤ sizeLine ∧ ∀ p, H p = none → Q (V.ref p) (upd H p (HO.lst [V.int c, V.int 0, V.int (if c < 10 ^ 18 then 1 else 0), V.int k]))
        else 4 ≤ sizeLine ∧ ∀ p, H p = none → Q (V.ref p) (upd H p (HO.lst [V.int c, V.int 0, V.int 0, V.int k])) := by
      intro c
      refine ite2 (fun h0 => ⟨⟨by decide, by decide, by decide⟩, by decide, fun p hp => ?_⟩) (fun h0 => ⟨by decide, fun p hp => ?_⟩)
      · refine q p _ hp ⟨c, 0, if c < 10 ^ 18 then 1 else 0, k, upd_same, ⟨?_, by decide, by decide, k0, k1⟩⟩ (same_new hp)
        by_cases h1 : c < 10 ^ 18
        · rw [if_pos h1]
          exact .inr ⟨rfl, h0, h1⟩
        · rw [if_neg h1]
          exact .inl rfl
      · exact q p _ hp ⟨c, 0, 0, k, upd_same, ⟨.inl rfl, by decide, by decide, k0, k1⟩⟩ (same_new hp)
    refine ⟨_, hs, ite2 (fun h1 => ?_) (fun _ => fin 0)⟩
    obtain ⟨j, rfl⟩ : ∃ j : Nat, k = (j : Int) := ⟨k.toNat, by omega⟩
    rw [List.length_map] at h1
    have hj : j < ns.length := by omega
    refine ixL_go hs (atI_nat (by rw [List.getElem?_map, List.getElem?_eq_getElem hj] <;> rfl)) ?_
    (try simp only [tIxO, rIsB, rNotB, tSeq, tIfS, tTest, tB, tOp, tUn, tVar, tC, tAsg, gName, tRet, tRetN, tCB, tCons, tNil, tLst, tTup, tNext, tPar, tM0, tM1, tSl, tNoPart, tPart, rSlS, tAug, tAugS, tExf_eq, ipI, tChain, tCall, tDrop, tBM, tAnd, tOr, tNot, tAndV, tOrV, tNotV, tIf, tIsN, tNotN, rI, rI0, rU, rEq, rNe, gSub, cx_K, cx_K2, L2.start, wipe, scal_ii, scal_ss, scal_bb, scal_is, scal_si, scal_nn, List.map_cons, List.map_nil, List.length_cons, List.length_nil, List.cons_append, List.nil_append, List.append_nil, List.replicate, List.getElem?_cons_zero, List.getElem?_cons_succ, Option.some.injEq, exists_and_left, exists_eq_left', exists_eq_left, exists_eq, exists_eq', V.int.injEq, V.ref.injEq, V.str.injEq, V.bl.injEq, List.cons.injEq, and_true, true_and, false_and, exists_false, or_false, false_or, reduceCtorEq, List.set_cons_zero, List.set_cons_succ, Nat.reduceAdd, Nat.reduceSub, Int.reduceToNat, decide_eq_true_eq, if_true, if_false, Bool.false_eq_true, Bool.not_true, Bool.not_false, Bool.true_eq_false, ite_false, ite_true, ne_eq, not_false_eq_true, Int.reduceEq])
    exact fin _

def spKept : Sp := fun vs H Q _ => vs = [] ∧ ∀ p H', H p = none → Same H H' → H' p = some (.lst (keptS.map V.str)) → Q (.ref p) H'
theorem kept_split : Txt.split (("name flag slot func open own look bind call keep take shift run drop " : Str) ++ ("apart when held fail guard else after end with of on off" : Str)) " " = keptS := by decide +kernel
theorem ok_l_kept (T : Txt K mg w) : FnOk P w K mg base CX0 1 T.d_l_kept.a T.d_l_kept.d [] spKept := by
  refine T.d_l_kept.F.ok sc_l_kept (fun vs H Q E h => ?_) (fun cdv A outer s H vs Q E hr h => ?_)
  · rw [h.1]; rfl
  · obtain ⟨rfl, q⟩ := h
    refine ⟨_, (pss_cons (ps_set (i := 0) sc_l_kept.nd rfl (Or.inl rfl) pe_str)
      (pss_one (ps_ret (pe_split (pe_op op_add_str (pv 0) pe_str) pe_str)))), ?_⟩
    (try simp only [tIxO, rIsB, rNotB, tSeq, tIfS, tTest, tB, tOp, tUn, tVar, tC, tAsg, gName, tRet, tRetN, tCB, tCons, tNil, tLst_eq, tTup_eq, tDNewK_eq, tNext, tPar, tM0, tM1, tSl, tNoPart, tPart, rSlS, tAug, tAugS, tExf_eq, ipI, tChain, tCall, tDrop, tBM, tAnd, tOr, tNot, tAndV, tOrV, tNotV, tIf, tIsN, tNotN, rI, rI0, rU, rEq, rNe, gSub, cx_K, cx_K2, L2.start, wipe, scal_ii, scal_ss, scal_bb, scal_is, scal_si, scal_nn, List.map_cons, List.map_nil, List.length_cons, List.length_nil, List.cons_append, List.nil_append, List.append_nil, List.replicate, List.getElem?_cons_zero, List.getElem?_cons_succ, Option.some.injEq, exists_and_left, exists_eq_left', exists_eq_left, exists_eq, exists_eq', V.int.injEq, V.ref.injEq, V.str.injEq, V.bl.injEq, List.cons.injEq, and_true, true_and, false_and, exists_false, or_false, false_or, reduceCtorEq, List.set_cons_zero, List.set_cons_succ, Nat.reduceAdd, Nat.reduceSub, Int.reduceToNat, decide_eq_true_eq, if_true, if_false, Bool.false_eq_true, Bool.not_true, Bool.not_false, Bool.true_eq_false, ite_false, ite_true, ne_eq, not_false_eq_true, Int.reduceEq])
    refine ⟨by decide, rfl, by decide, ?_⟩
    rw [kept_split]
    exact newS_go fun p H' n s r => q p H' n s r
def spSigns : Sp := fun vs H Q _ => vs = [] ∧ Q (.str signsS) H
theorem ok_l_signs (T : Txt K mg w) : FnOk P w K mg base CX0 1 T.d_l_signs.a T.d_l_signs.d [] spSigns := by
  refine T.d_l_signs.F.ok sc_l_signs (fun vs H Q E h => ?_) (fun cdv A outer s H vs Q E hr h => ?_)
  · rw [h.1]; rfl
  · obtain ⟨rfl, q⟩ := h
    refine ⟨_, (pss_one (ps_ret pe_str)), ?_⟩
    (try simp only [tIxO, rIsB, rNotB, tSeq, tIfS, tTest, tB, tOp, tUn, tVar, tC, tAsg, gName, tRet, tRetN, tCB, tCons, tNil, tLst_eq, tTup_eq, tDNewK_eq, tNext, tPar, tM0, tM1, tSl, tNoPart, tPart, rSlS, tAug, tAugS, tExf_eq, ipI, tChain, tCall, tDrop, tBM, tAnd, tOr, tNot, tAndV, tOrV, tNotV, tIf, tIsN, tNotN, rI, rI0, rU, rEq, rNe, gSub, cx_K, cx_K2, L2.start, wipe, scal_ii, scal_ss, scal_bb, scal_is, scal_si, scal_nn, List.map_cons, List.map_nil, List.length_cons, List.length_nil, List.cons_append, List.nil_append, List.append_nil, List.replicate, List.getElem?_cons_zero, List.getElem?_cons_succ, Option.some.injEq, exists_and_left, exists_eq_left', exists_eq_left, exists_eq, exists_eq', V.int.injEq, V.ref.injEq, V.str.injEq, V.bl.injEq, List.cons.injEq, and_true, true_and, false_and, exists_false, or_false, false_or, reduceCtorEq, List.set_cons_zero, List.set_cons_succ, Nat.reduceAdd, Nat.reduceSub, Int.reduceToNat, decide_eq_true_eq, if_true, if_false, Bool.false_eq_true, Bool.not_true, Bool.not_false, Bool.true_eq_false, ite_false, ite_true, ne_eq, not_false_eq_true, Int.reduceEq])
    exact q
def spSpelled : Sp := fun vs H Q _ => ∃ (t u : Addr) (n : Nat) (us : List Str), vs = [.ref t, .ref u] ∧ Tape H t (n + 20) ∧ H u = some (.lst (us.map V.str)) ∧ u ≠ t ∧ us.length ≤ 100000 ∧ (∀ x ∈ us, Spell x) ∧ ∀ x H', Spell x → Tape H' t n → ExT t H H' → Q (.str x) H'
theorem ok_l_spelled (T : Txt K mg w) : FnOk P w K mg base CX0 2 T.d_l_spelled.a T.d_l_spelled.d ["_law_tape_here", "_law_used"] spSpelled := by
  refine T.d_l_spelled.F.ok sc_l_spelled (fun vs H Q E h => ?_) (fun cdv A outer s H vs Q E hr h => ?_)
  · obtain ⟨t, u, n, us, rfl, _⟩ := h
    rfl
  · obtain ⟨t, u, n, us, rfl, ht, hu', hut, hul, hus, q⟩ := h
    have hu := hr.units
    refine ⟨_, (pss_cons (ps_set (i := 2) sc_l_spelled.nd rfl (Or.inl rfl) (pe_call (ok_l_draw T) (hr.mono (by decide)) (by rfl) T.d_l_draw.g T.d_l_draw.F.kp T.d_l_draw.b .nil pass0 (pa_cons (pv 0) (pa_cons pe_int pa_nil))))
      (pss_cons (ps_set (i := 3) sc_l_spelled.nd rfl (Or.inl rfl) (pe_op op_add pe_int (pe_call (ok_l_draw T) (hr.mono (by decide)) (by rfl) T.d_l_draw.g T.d_l_draw.F.kp T.d_l_draw.b .nil pass0 (pa_cons (pv 0) (pa_cons pe_int pa_nil)))))
      (Evl.pss_cut (ps_if (pt_cmpR op_eq (pv 2) pe_int (nomark _)) (pss_one (ps_set (i := 3) sc_l_spelled.nd rfl (Or.inl rfl) pe_int)) pss_nil)
      (pss_cons (ps_if (pt_cmpR op_eq (pv 2) pe_int (nomark _)) (pss_one (ps_ret (pe_op op_add_str (pe_ix ix_list (pe_call0 (ok_l_kept T) (hr.mono (by decide)) (by rfl) T.d_l_kept.g T.d_l_kept.F.kp T.d_l_kept.b .nil pass0) (pe_call (ok_l_draw T) (hr.mono (by decide)) (by rfl) T.d_l_draw.g T.d_l_draw.F.kp T.d_l_draw.b .nil pass0 (pa_cons (pv 0) (pa_cons pe_int pa_nil))) (fun _ _ => rfl)) (pe_ix ix_str (pe_call0 (ok_l_signs T) (hr.mono (by decide)) (by rfl) T.d_l_signs.g T.d_l_signs.F.kp T.d_l_signs.b .nil pass0) (pe_call (ok_l_draw T) (hr.mono (by decide)) (by rfl) T.d_l_draw.g T.d_l_draw.F.kp T.d_l_draw.b .nil pass0 (pa_cons (pv 0) (pa_cons pe_int pa_nil))) (fun _ _ => rfl))))) pss_nil)
      (Evl.pss_cut (ps_if (PW.pt (pw_and (pt_cmpR op_eq (pv 2) pe_int (nomark _)) (pw_and1 (pt_cmpR (op_neD hu) (pv 1) (pe_lst pa_nil) (nomark _))))) (pss_cons (ps_set (i := 4) sc_l_spelled.nd rfl (Or.inl rfl) (pe_ix ix_list (pv 1) (pe_call (ok_l_draw T) (hr.mono (by decide)) (by rfl) T.d_l_draw.g T.d_l_draw.F.kp T.d_l_draw.b .nil pass0 (pa_cons (pv 0) (pa_cons (pe_callB call_lenL (by rfl) T.z_len (by decide +kernel) (pa_cons (pv 1) pa_nil)) pa_nil))) (fun _ _ => rfl)))
      (pss_cons (ps_set (i := 5) sc_l_spelled.nd rfl (Or.inl rfl) (pe_call (ok_l_draw T) (hr.mono (by decide)) (by rfl) T.d_l_draw.g T.d_l_draw.F.kp T.d_l_draw.b .nil pass0 (pa_cons (pv 0) (pa_cons (pe_callB call_len_str (by rfl) T.z_len (by decide +kernel) (pa_cons (pv 4) pa_nil)) pa_nil))))
      (pss_one (ps_ret (pe_op op_add_str (pe_op op_add_str (pe_slice sl_str (pv 4) po_none (po_some (pv 5))) (pe_ix ix_str (pe_call0 (ok_l_signs T) (hr.mono (by decide)) (by rfl) T.d_l_signs.g T.d_l_signs.F.kp T.d_l_signs.b .nil pass0) (pe_call (ok_l_draw T) (hr.mono (by decide)) (by rfl) T.d_l_draw.g T.d_l_draw.F.kp T.d_l_draw.b .nil pass0 (pa_cons (pv 0) (pa_cons pe_int pa_nil))) (fun _ _ => rfl))) (pe_slice sl_str (pv 4) (po_some (pe_op op_add (pv 5) pe_int)) po_none)))))) pss_nil)
      (pss_cons (ps_set (i := 4) sc_l_spelled.nd rfl (Or.inl rfl) (pe_ix ix_str (pe_call0 (ok_l_signs T) (hr.mono (by decide)) (by rfl) T.d_l_signs.g T.d_l_signs.F.kp T.d_l_signs.b .nil pass0) (pe_call (ok_l_draw T) (hr.mono (by decide)) (by rfl) T.d_l_draw.g T.d_l_draw.F.kp T.d_l_draw.b .nil pass0 (pa_cons (pv 0) (pa_cons pe_int pa_nil))) (fun _ _ => rfl)))
      (pss_cons (ps_for PassesOwn.never rfl (pi_range1 (by rfl) T.z_range (pa_cons (pe_op op_sub (pv 3) pe_int) pa_nil)) (pg_name (i := 5) sc_l_spelled.nd rfl (Or.inl rfl)) (pss_one (ps_set (i := 4) sc_l_spelled.nd rfl (Or.inl rfl) (pe_op op_add_str (pv 4) (pe_ix ix_str (pe_call0 (ok_l_signs T) (hr.mono (by decide)) (by rfl) T.d_l_signs.g T.d_l_signs.F.kp T.d_l_signs.b .nil pass0) (pe_call (ok_l_draw T) (hr.mono (by decide)) (by rfl) T.d_l_draw.g T.d_l_draw.F.kp T.d_l_draw.b .nil pass0 (pa_cons (pv 0) (pa_cons pe_int pa_nil))) (fun _ _ => rfl))))))
      (pss_one (ps_ret (pv 4)))))))))), ?_⟩
    (try simp only [tIxO, rIsB, rNotB, tSeq, tIfS, tTest, tB, tOp, tUn, tVar, tC, tAsg, gName, tRet, tRetN, tCB, tCons, tNil, tLst_eq, tTup_eq, tDNewK_eq, tNext, tPar, tM0, tM1, tSl, tNoPart, tPart, rSlS, tAug, tAugS, tExf_eq, ipI, tChain, tCall, tDrop, tBM, tAnd, tOr, tNot, tAndV, tOrV, tNotV, tIf, tIsN, tNotN, rI, rI0, rU, rEq, rNe, gSub, cx_K, cx_K2, L2.start, wipe, scal_ii, scal_ss, scal_bb, scal_is, scal_si, scal_nn, List.map_cons, List.map_nil, List.length_cons, List.length_nil, List.cons_append, List.nil_append, List.append_nil, List.replicate, List.getElem?_cons_zero, List.getElem?_cons_succ, Option.some.injEq, exists_and_left, exists_eq_left', exists_eq_left, exists_eq, exists_eq', V.int.injEq, V.ref.injEq, V.str.injEq, V.bl.injEq, List.cons.injEq, and_true, true_and, false_and, exists_false, or_false, false_or, reduceCtorEq, List.set_cons_zero, List.set_cons_succ, Nat.reduceAdd, Nat.reduceSub, Int.reduceToNat, decide_eq_true_eq, if_true, if_false, Bool.false_eq_true, Bool.not_true, Bool.not_false, Bool.true_eq_false, ite_false, ite_true, ne_eq, not_false_eq_true, Int.reduceEq])
    refine draw_go (ht.mono (m := (n + 19) + 1) (by omega)) (by decide) (by decide) fun sh H1 _ _ T1 v1 => ?_
    (try simp only [tIxO, rIsB, rNotB, tSeq, tIfS, tTest, tB, tOp, tUn, tVar, tC, tAsg, gName, tRet, tRetN, tCB, tCons, tNil, tLst_eq, tTup_eq, tDNewK_eq, tNext, tPar, tM0, tM1, tSl, tNoPart, tPart, rSlS, tAug, tAugS, tExf_eq, ipI, tChain, tCall, tDrop, tBM, tAnd, tOr, tNot, tAndV, tOrV, tNotV, tIf, tIsN, tNotN, rI, rI0, rU, rEq, rNe, gSub, cx_K, cx_K2, L2.start, wipe, scal_ii, scal_ss, scal_bb, scal_is, scal_si, scal_nn, List.map_cons, List.map_nil, List.length_cons, List.length_nil, List.cons_append, List.nil_append, List.append_nil, List.replicate, List.getElem?_cons_zero, List.getElem?_cons_succ, Option.some.injEq, exists_and_left, exists_eq_left', exists_eq_left, exists_eq, exists_eq', V.int.injEq, V.ref.injEq, V.str.injEq, V.bl.injEq, List.cons.injEq, and_true, true_and, false_and, exists_false, or_false, false_or, reduceCtorEq, List.set_cons_zero, List.set_cons_succ, Nat.reduceAdd, Nat.reduceSub, Int.reduceToNat, decide_eq_true_eq, if_true, if_false, Bool.false_eq_true, Bool.not_true, Bool.not_false, Bool.true_eq_false, ite_false, ite_true, ne_eq, not_false_eq_true, Int.reduceEq])
    refine draw_go (T1.mono (m := (n + 18) + 1) (by omega)) (by decide) (by decide) fun sz H2 sz0 sz1 T2 v2 => ?_
    (try simp only [tIxO, rIsB, rNotB, tSeq, tIfS, tTest, tB, tOp, tUn, tVar, tC, tAsg, gName, tRet, tRetN, tCB, tCons, tNil, tLst_eq, tTup_eq, tDNewK_eq, tNext, tPar, tM0, tM1, tSl, tNoPart, tPart, rSlS, tAug, tAugS, tExf_eq, ipI, tChain, tCall, tDrop, tBM, tAnd, tOr, tNot, tAndV, tOrV, tNotV, tIf, tIsN, tNotN, rI, rI0, rU, rEq, rNe, gSub, cx_K, cx_K2, L2.start, wipe, scal_ii, scal_ss, scal_bb, scal_is, scal_si, scal_nn, List.map_cons, List.map_nil, List.length_cons, List.length_nil, List.cons_append, List.nil_append, List.append_nil, List.replicate, List.getElem?_cons_zero, List.getElem?_cons_succ, Option.some.injEq, exists_and_left, exists_eq_left', exists_eq_left, exists_eq, exists_eq', V.int.injEq, V.ref.injEq, V.str.injEq, V.bl.injEq, List.cons.injEq, and_true, true_and, false_and, exists_false, or_false, false_or, reduceCtorEq, List.set_cons_zero, List.set_cons_succ, Nat.reduceAdd, Nat.reduceSub, Int.reduceToNat, decide_eq_true_eq, if_true, if_false, Bool.false_eq_true, Bool.not_true, Bool.not_false, Bool.true_eq_false, ite_false, ite_true, ne_eq, not_false_eq_true, Int.reduceEq])
    refine cut_go (fun σ' H' => H' = H2 ∧ ∃ z : Int, 1 ≤ z ∧ z ≤ 12 ∧ σ' = [some (.ref t), some (.ref u), some (.int sh), some (.int z), none, none]) ?_ ?_
    · (try simp only [tIxO, rIsB, rNotB, tSeq, tIfS, tTest, tB, tOp, tUn, tVar, tC, tAsg, gName, tRet, tRetN, tCB, tCons, tNil, tLst_eq, tTup_eq, tDNewK_eq, tNext, tPar, tM0, tM1, tSl, tNoPart, tPart, rSlS, tAug, tAugS, tExf_eq, ipI, tChain, tCall, tDrop, tBM, tAnd, tOr, tNot, tAndV, tOrV, tNotV, tIf, tIsN, tNotN, rI, rI0, rU, rEq, rNe, gSub, cx_K, cx_K2, L2.start, wipe, scal_ii, scal_ss, scal_bb, scal_is, scal_si, scal_nn, List.map_cons, List.map_nil, List.length_cons, List.length_nil, List.cons_append, List.nil_append, List.append_nil, List.replicate, List.getElem?_cons_zero, List.getElem?_cons_succ, Option.some.injEq, exists_and_left, exists_eq_left', exists_eq_left, exists_eq, exists_eq', V.int.injEq, V.ref.injEq, V.str.injEq, V.bl.injEq, List.cons.injEq, and_true, true_and, false_and, exists_false, or_false, false_or, reduceCtorEq, List.set_cons_zero, List.set_cons_succ, Nat.reduceAdd, Nat.reduceSub, Int.reduceToNat, decide_eq_true_eq, if_true, if_false, Bool.false_eq_true, Bool.not_true, Bool.not_false, Bool.true_eq_false, ite_false, ite_true, ne_eq, not_false_eq_true, Int.reduceEq])
      refine ite2 (fun _ => ?_) (fun _ => ?_)
      · exact ⟨_, by omega, by omega, rfl⟩
      · exact ⟨_, by omega, by omega, rfl⟩
    · rintro σ' H' ⟨rfl, z, z0, z1, rfl⟩
      have v12 := v1.trans v2
      have ru := v12 _ _ hut hu'
      (try simp only [tIxO, rIsB, rNotB, tSeq, tIfS, tTest, tB, tOp, tUn, tVar, tC, tAsg, gName, tRet, tRetN, tCB, tCons, tNil, tLst_eq, tTup_eq, tDNewK_eq, tNext, tPar, tM0, tM1, tSl, tNoPart, tPart, rSlS, tAug, tAugS, tExf_eq, ipI, tChain, tCall, tDrop, tBM, tAnd, tOr, tNot, tAndV, tOrV, tNotV, tIf, tIsN, tNotN, rI, rI0, rU, rEq, rNe, gSub, cx_K, cx_K2, L2.start, wipe, scal_ii, scal_ss, scal_bb, scal_is, scal_si, scal_nn, List.map_cons, List.map_nil, List.length_cons, List.length_nil, List.cons_append, List.nil_append, List.append_nil, List.replicate, List.getElem?_cons_zero, List.getElem?_cons_succ, Option.some.injEq, exists_and_left, exists_eq_left', exists_eq_left, exists_eq, exists_eq', V.int.injEq, V.ref.injEq, V.str.injEq, V.bl.injEq, List.cons.injEq, and_true, true_and, false_and, exists_false, or_false, false_or, reduceCtorEq, List.set_cons_zero, List.set_cons_succ, Nat.reduceAdd, Nat.reduceSub, Int.reduceToNat, decide_eq_true_eq, if_true, if_false, Bool.false_eq_true, Bool.not_true, Bool.not_false, Bool.true_eq_false, ite_false, ite_true, ne_eq, not_false_eq_true, Int.reduceEq])
      refine ite2 (fun _ => ?_) (fun _ => ?_)
      · -- kept()[..] + signs()[..]
        refine ⟨rfl, fun p1 H3 n3 s3 r3 => ?_⟩
        have T3 := T2.same s3
        refine draw_go (T3.mono (m := (n + 17) + 1) (by omega)) (by decide) (by decide) fun x1 H4 a0 a1 T4 v4 => ?_
        have r4 := v4 _ _ (T2.ne n3) r3
        obtain ⟨kw, hk, ek⟩ := atI_ex (l := keptS) a0 (show x1 < ((keptS.length : Nat) : Int) from a1)
        refine ixM_go r4 (atI_map (f := V.str) ek) ?_
        refine ⟨rfl, ?_⟩
        refine draw_go (T4.mono (m := (n + 16) + 1) (by omega)) (by decide) (by decide) fun x2 H5 b0 b1 T5 v5 => ?_
        obtain ⟨c, ec, hc, _⟩ := signs_at b0 b1
        refine ixS_go (by decide) ec ?_
        (try simp only [tIxO, rIsB, rNotB, tSeq, tIfS, tTest, tB, tOp, tUn, tVar, tC, tAsg, gName, tRet, tRetN, tCB, tCons, tNil, tLst_eq, tTup_eq, tDNewK_eq, tNext, tPar, tM0, tM1, tSl, tNoPart, tPart, rSlS, tAug, tAugS, tExf_eq, ipI, tChain, tCall, tDrop, tBM, tAnd, tOr, tNot, tAndV, tOrV, tNotV, tIf, tIsN, tNotN, rI, rI0, rU, rEq, rNe, gSub, cx_K, cx_K2, L2.start, wipe, scal_ii, scal_ss, scal_bb, scal_is, scal_si, scal_nn, List.map_cons, List.map_nil, List.length_cons, List.length_nil, List.cons_append, List.nil_append, List.append_nil, List.replicate, List.getElem?_cons_zero, List.getElem?_cons_succ, Option.some.injEq, exists_and_left, exists_eq_left', exists_eq_left, exists_eq, exists_eq', V.int.injEq, V.ref.injEq, V.str.injEq, V.bl.injEq, List.cons.injEq, and_true, true_and, false_and, exists_false, or_false, false_or, reduceCtorEq, List.set_cons_zero, List.set_cons_succ, Nat.reduceAdd, Nat.reduceSub, Int.reduceToNat, decide_eq_true_eq, if_true, if_false, Bool.false_eq_true, Bool.not_true, Bool.not_false, Bool.true_eq_false, ite_false, ite_true, ne_eq, not_false_eq_true, Int.reduceEq])
        obtain ⟨k1, k2, k3⟩ := kept_spell kw hk
        refine ⟨Nat.le_trans (show kw.length + 1 ≤ 6 by omega) (by decide), q _ _ (spell_snoc ⟨k1, k2⟩ (by omega) hc) (T5.mono (by omega)) ?_⟩
        exact ((v12.same s3).trans v4).trans v5
      · refine cut_go (fun σ' H' => Tape H' t (n + 13) ∧ ExT t H H' ∧ σ' = [some (.ref t), some (.ref u), some (.int sh), some (.int z), none, none]) ?_ ?_
        · (try simp only [tIxO, rIsB, rNotB, tSeq, tIfS, tTest, tB, tOp, tUn, tVar, tC, tAsg, gName, tRet, tRetN, tCB, tCons, tNil, tLst_eq, tTup_eq, tDNewK_eq, tNext, tPar, tM0, tM1, tSl, tNoPart, tPart, rSlS, tAug, tAugS, tExf_eq, ipI, tChain, tCall, tDrop, tBM, tAnd, tOr, tNot, tAndV, tOrV, tNotV, tIf, tIsN, tNotN, rI, rI0, rU, rEq, rNe, gSub, cx_K, cx_K2, L2.start, wipe, scal_ii, scal_ss, scal_bb, scal_is, scal_si, scal_nn, List.map_cons, List.map_nil, List.length_cons, List.length_nil, List.cons_append, List.nil_append, List.append_nil, List.replicate, List.getElem?_cons_zero, List.getElem?_cons_succ, Option.some.injEq, exists_and_left, exists_eq_left', exists_eq_left, exists_eq, exists_eq', V.int.injEq, V.ref.injEq, V.str.injEq, V.bl.injEq, List.cons.injEq, and_true, true_and, false_and, exists_false, or_false, false_or, reduceCtorEq, List.set_cons_zero, List.set_cons_succ, Nat.reduceAdd, Nat.reduceSub, Int.reduceToNat, decide_eq_true_eq, if_true, if_false, Bool.false_eq_true, Bool.not_true, Bool.not_false, Bool.true_eq_false, ite_false, ite_true, ne_eq, not_false_eq_true, Int.reduceEq])
          refine ite2 (fun _ => ?_) (fun _ => ?_)
          · refine newL_go fun e H3 n3 s3 r3 => ?_
            have ru3 := s3 _ _ ru
            have T3 := T2.same s3
            refine neNil_go (.inl (.inl ru3)) (.inl (.inl r3)) (fun x hx => word_ok (hus x hx).1) ?_
            refine ⟨_, rfl, ?_⟩
            cases us with
            | nil => exact ⟨T3.mono (by omega), v12.same s3⟩
            | cons u0 ur =>
              have hlen : ((u0 :: ur).map V.str).length ≤ 100000 := by rw [List.length_map]; exact hul
              refine ite2 (fun _ => ?_) (fun c => absurd rfl c)
              refine ⟨_, .inl (.inl ru3), ?_⟩
              refine draw_go (T3.mono (m := (n + 17) + 1) (by omega)) (by simp) (Nat.lt_of_le_of_lt (by rw [Int.natAbs_natCast]; exact hlen) (show 100000 < 2 ^ 1000 by decide +kernel)) fun x1 H4 a0 a1 T4 v4 => ?_
              obtain ⟨wd, hk, ek⟩ := atI_ex (l := u0 :: ur) a0 (by rw [List.length_map] at a1; exact a1)
              have ru4 := v4 _ _ hut ru3
              refine ixM_go ru4 (atI_map (f := V.str) ek) ?_
              have sw := hus wd hk
              obtain ⟨w1, w2⟩ := word_len sw.1
              refine ⟨_, rfl, Nat.le_trans w2 (by decide), ?_⟩
              refine draw_go (T4.mono (m := (n + 16) + 1) (by omega)) (by omega) (Nat.lt_of_le_of_lt (by rw [Int.natAbs_natCast]; exact w2) (show 12 < 2 ^ 1000 by decide +kernel)) fun x2 H5 b0 b1 T5 v5 => ?_
              obtain ⟨j, rfl⟩ := Int.eq_ofNat_of_zero_le b0
              refine ⟨_, rfl, _, rfl, Nat.le_trans w2 (by decide), ?_⟩
              refine ⟨rfl, ?_⟩
              refine draw_go (T5.mono (m := (n + 15) + 1) (by omega)) (by decide) (by decide) fun x3 H6 c0 c1 T6 v6 => ?_
              obtain ⟨c, ec, hc, hl⟩ := signs_at c0 (by omega)
              refine ixS_go (by decide) ec ?_
              have sp := spell_put sw (j := j) (by omega) (hl c1)
              obtain ⟨p1, p2⟩ := word_len sp.1
              have p3 := p2
              rw [len_app] at p3
              have p4 : (cutS wd none (some (j : Int)) ++ (⟨#[c]⟩ : Str)).length ≤ 12 := by omega
              rw [len_app] at p4
              refine ⟨_, rfl, Nat.le_trans p4 (by decide), _, rfl, _, rfl, Nat.le_trans w2 (by decide), Nat.le_trans p3 (by decide), ?_⟩
              exact q _ _ sp (T6.mono (by omega)) ((((v12.same s3).trans v4).trans v5).trans v6)
          · exact ⟨T2.mono (by omega), v12⟩
        · rintro σ' H3 ⟨T3, v3, rfl⟩
          (try simp only [tIxO, rIsB, rNotB, tSeq, tIfS, tTest, tB, tOp, tUn, tVar, tC, tAsg, gName, tRet, tRetN, tCB, tCons, tNil, tLst_eq, tTup_eq, tDNewK_eq, tNext, tPar, tM0, tM1, tSl, tNoPart, tPart, rSlS, tAug, tAugS, tExf_eq, ipI, tChain, tCall, tDrop, tBM, tAnd, tOr, tNot, tAndV, tOrV, tNotV, tIf, tIsN, tNotN, rI, rI0, rU, rEq, rNe, gSub, cx_K, cx_K2, L2.start, wipe, scal_ii, scal_ss, scal_bb, scal_is, scal_si, scal_nn, List.map_cons, List.map_nil, List.length_cons, List.length_nil, List.cons_append, List.nil_append, List.append_nil, List.replicate, List.getElem?_cons_zero, List.getElem?_cons_succ, Option.some.injEq, exists_and_left, exists_eq_left', exists_eq_left, exists_eq, exists_eq', V.int.injEq, V.ref.injEq, V.str.injEq, V.bl.injEq, List.cons.injEq, and_true, true_and, false_and, exists_false, or_false, false_or, reduceCtorEq, List.set_cons_zero, List.set_cons_succ, Nat.reduceAdd, Nat.reduceSub, Int.reduceToNat, decide_eq_true_eq, if_true, if_false, Bool.false_eq_true, Bool.not_true, Bool.not_false, Bool.true_eq_false, ite_false, ite_true, ne_eq, not_false_eq_true, Int.reduceEq])
          refine ⟨rfl, ?_⟩
          refine draw_go (T3.mono (m := (n + 12) + 1) (by omega)) (by decide) (by decide) fun x1 H4 a0 a1 T4 v4 => ?_
          obtain ⟨c, ec, hc, hl⟩ := signs_at a0 (by omega)
          refine ixS_go (by decide) ec ?_
          refine forR_go (n := (z - 1).toNat) (fun R r => ?_) (by omega) (fun i σ H' => ∃ (x : Str) (o : Option V), Spell x ∧ x.length = i + 1 ∧ Tape H' t (n + (12 - i)) ∧ ExT t H H' ∧ σ = [some (.ref t), some (.ref u), some (.int sh), some (.int z), some (.str x), o]) ⟨_, _, spell_one (hl a1), len_one c, T4, v3.trans v4, rfl⟩ ?_ ?_
          · (try simp only [tIxO, rIsB, rNotB, tSeq, tIfS, tTest, tB, tOp, tUn, tVar, tC, tAsg, gName, tRet, tRetN, tCB, tCons, tNil, tLst_eq, tTup_eq, tDNewK_eq, tNext, tPar, tM0, tM1, tSl, tNoPart, tPart, rSlS, tAug, tAugS, tExf_eq, ipI, tChain, tCall, tDrop, tBM, tAnd, tOr, tNot, tAndV, tOrV, tNotV, tIf, tIsN, tNotN, rI, rI0, rU, rEq, rNe, gSub, cx_K, cx_K2, L2.start, wipe, scal_ii, scal_ss, scal_bb, scal_is, scal_si, scal_nn, List.map_cons, List.map_nil, List.length_cons, List.length_nil, List.cons_append, List.nil_append, List.append_nil, List.replicate, List.getElem?_cons_zero, List.getElem?_cons_succ, Option.some.injEq, exists_and_left, exists_eq_left', exists_eq_left, exists_eq, exists_eq', V.int.injEq, V.ref.injEq, V.str.injEq, V.bl.injEq, List.cons.injEq, and_true, true_and, false_and, exists_false, or_false, false_or, reduceCtorEq, List.set_cons_zero, List.set_cons_succ, Nat.reduceAdd, Nat.reduceSub, Int.reduceToNat, decide_eq_true_eq, if_true, if_false, Bool.false_eq_true, Bool.not_true, Bool.not_false, Bool.true_eq_false, ite_false, ite_true, ne_eq, not_false_eq_true, Int.reduceEq])
            rw [show z - 1 = (((z - 1).toNat : Nat) : Int) by omega]
            exact r
          · rintro i σ' H5 hi ⟨x, o, sx, lx, T5, v5, rfl⟩
            (try simp only [tIxO, rIsB, rNotB, tSeq, tIfS, tTest, tB, tOp, tUn, tVar, tC, tAsg, gName, tRet, tRetN, tCB, tCons, tNil, tLst_eq, tTup_eq, tDNewK_eq, tNext, tPar, tM0, tM1, tSl, tNoPart, tPart, rSlS, tAug, tAugS, tExf_eq, ipI, tChain, tCall, tDrop, tBM, tAnd, tOr, tNot, tAndV, tOrV, tNotV, tIf, tIsN, tNotN, rI, rI0, rU, rEq, rNe, gSub, cx_K, cx_K2, L2.start, wipe, scal_ii, scal_ss, scal_bb, scal_is, scal_si, scal_nn, List.map_cons, List.map_nil, List.length_cons, List.length_nil, List.cons_append, List.nil_append, List.append_nil, List.replicate, List.getElem?_cons_zero, List.getElem?_cons_succ, Option.some.injEq, exists_and_left, exists_eq_left', exists_eq_left, exists_eq, exists_eq', V.int.injEq, V.ref.injEq, V.str.injEq, V.bl.injEq, List.cons.injEq, and_true, true_and, false_and, exists_false, or_false, false_or, reduceCtorEq, List.set_cons_zero, List.set_cons_succ, Nat.reduceAdd, Nat.reduceSub, Int.reduceToNat, decide_eq_true_eq, if_true, if_false, Bool.false_eq_true, Bool.not_true, Bool.not_false, Bool.true_eq_false, ite_false, ite_true, ne_eq, not_false_eq_true, Int.reduceEq])
            refine ⟨rfl, ?_⟩
            refine draw_go (T5.mono (m := (n + (11 - i)) + 1) (by omega)) (by decide) (by decide) fun x1 H6 a0 a1 T6 v6 => ?_
            obtain ⟨c, ec, hc, _⟩ := signs_at a0 a1
            refine ixS_go (by decide) ec ?_
            have l1 := len_app x (⟨#[c]⟩ : Str)
            rw [len_one] at l1
            refine ⟨_, rfl, Nat.le_trans (show x.length + 1 ≤ 12 by omega) (by decide), ?_⟩
            exact ⟨_, spell_snoc sx (by omega) hc, by omega, T6.mono (by omega), v5.trans v6, rfl⟩
          · rintro σ' H5 ⟨x, o, sx, lx, T5, v5, rfl⟩
            (try simp only [tIxO, rIsB, rNotB, tSeq, tIfS, tTest, tB, tOp, tUn, tVar, tC, tAsg, gName, tRet, tRetN, tCB, tCons, tNil, tLst_eq, tTup_eq, tDNewK_eq, tNext, tPar, tM0, tM1, tSl, tNoPart, tPart, rSlS, tAug, tAugS, tExf_eq, ipI, tChain, tCall, tDrop, tBM, tAnd, tOr, tNot, tAndV, tOrV, tNotV, tIf, tIsN, tNotN, rI, rI0, rU, rEq, rNe, gSub, cx_K, cx_K2, L2.start, wipe, scal_ii, scal_ss, scal_bb, scal_is, scal_si, scal_nn, List.map_cons, List.map_nil, List.length_cons, List.length_nil, List.cons_append, List.nil_append, List.append_nil, List.replicate, List.getElem?_cons_zero, List.getElem?_cons_succ, Option.some.injEq, exists_and_left, exists_eq_left', exists_eq_left, exists_eq, exists_eq', V.int.injEq, V.ref.injEq, V.str.injEq, V.bl.injEq, List.cons.injEq, and_true, true_and, false_and, exists_false, or_false, false_or, reduceCtorEq, List.set_cons_zero, List.set_cons_succ, Nat.reduceAdd, Nat.reduceSub, Int.reduceToNat, decide_eq_true_eq, if_true, if_false, Bool.false_eq_true, Bool.not_true, Bool.not_false, Bool.true_eq_false, ite_false, ite_true, ne_eq, not_false_eq_true, Int.reduceEq])
            exact q _ _ sx (T5.mono (by omega)) v5

end
end Own

set_option Elab.async false
set_option linter.all false
set_option maxRecDepth 100000
set_option maxHeartbeats 4000000
namespace Own
open PySem PySem.Spec PyProof.Rows L2
section
variable {P : Program} {w : World} {K : PySem.W.Frag} {mg : Str → Option Value} {base : Heap}
theorem stem_free {x : Str} {us : List Str} (hul : us.length ≤ 90) (h : ∀ i < us.length + 1, us.contains (stemS x i) = true) : False := by
  have z := pig (l := (List.range (us.length + 1)).map (stemS x)) (m := us) (by
    rw [List.Nodup, List.pairwise_map]
    refine List.Pairwise.imp_of_mem (fun {a b} ha hb hne => fun e => hne (stem_inj (by have := List.mem_range.mp ha; omega) (by have := List.mem_range.mp hb; omega) e)) List.nodup_range) (by
    intro y hy
    obtain ⟨i, hi, rfl⟩ := List.mem_map.mp hy
    exact List.contains_iff_mem.mp (h i (List.mem_range.mp hi)))
  rw [List.length_map, List.length_range] at z
  omega
def spIdent : Sp := fun vs H Q _ => ∃ (t u : Addr) (n : Nat) (us : List Str), vs = [.ref t, .ref u] ∧ Tape H t (n + 20) ∧ H u = some (.lst (us.map V.str)) ∧ u ≠ t ∧ us.length ≤ 90 ∧ (∀ x ∈ us, Spell x) ∧ ∀ x H', isIdent x = true → us.contains x = false → Tape H' t n → ExT t H H' → Q (.str x) H'
theorem ok_l_ident (T : Txt K mg w) : FnOk P w K mg base CX0 3 T.d_l_ident.a T.d_l_ident.d ["_law_tape_here", "_law_used"] spIdent := by
  refine T.d_l_ident.F.ok sc_l_ident (fun vs H Q E h => ?_) (fun cdv A outer s H vs Q E hr h => ?_)
  · obtain ⟨t, u, n, us, rfl, _⟩ := h
    rfl
  · obtain ⟨t, u, n, us, rfl, ht, hu', hut, hul, hus, q⟩ := h
    have hu := hr.units
    refine ⟨_, (pss_cons (ps_set (i := 2) sc_l_ident.nd rfl (Or.inl rfl) (pe_call (ok_l_spelled T) (hr.mono (by decide)) (by rfl) T.d_l_spelled.g T.d_l_spelled.F.kp T.d_l_spelled.b .nil pass0 (pa_cons (pv 0) (pa_cons (pv 1) pa_nil))))
      (Evl.pss_cut (ps_if (PW.pt (pw_and (pt_cmpR op_notIn_seq (pv 2) (pv 1) (by rfl)) (pw_and1 (pt_cmpR op_notIn_seq (pv 2) (pe_call0 (ok_l_kept T) (hr.mono (by decide)) (by rfl) T.d_l_kept.g T.d_l_kept.F.kp T.d_l_kept.b .nil pass0) (by rfl))))) (pss_one (ps_ret (pv 2))) pss_nil)
      (pss_cons (ps_for PassesOwn.never rfl (pi_range1 (by rfl) T.z_range (pa_cons (pe_op op_add (pe_callB call_lenL (by rfl) T.z_len (by decide +kernel) (pa_cons (pv 1) pa_nil)) pe_int) pa_nil)) (pg_name (i := 3) sc_l_ident.nd rfl (Or.inl rfl)) (pss_one (ps_if (pt_cmpR op_notIn_seq (pe_op op_add_str (pe_slice sl_str (pv 2) po_none (po_some pe_int)) (pe_callTy call_str_int (by rfl) T.z_str (by decide +kernel) (pa_cons (pv 3) pa_nil))) (pv 1) (by rfl)) (pss_one (ps_ret (pe_op op_add_str (pe_slice sl_str (pv 2) po_none (po_some pe_int)) (pe_callTy call_str_int (by rfl) T.z_str (by decide +kernel) (pa_cons (pv 3) pa_nil))))) pss_nil)))
      (pss_one (ps_ret (pv 2)))))), ?_⟩
    (try simp only [tIxO, rIsB, rNotB, tSeq, tIfS, tTest, tB, tOp, tUn, tVar, tC, tAsg, gName, tRet, tRetN, tCB, tCons, tNil, tLst_eq, tTup_eq, tDNewK_eq, tNext, tPar, tM0, tM1, tSl, tNoPart, tPart, rSlS, tAug, tAugS, tExf_eq, ipI, tChain, tCall, tDrop, tBM, tAnd, tOr, tNot, tAndV, tOrV, tNotV, tIf, tIsN, tNotN, rI, rI0, rU, rEq, rNe, gSub, cx_K, cx_K2, L2.start, wipe, scal_ii, scal_ss, scal_bb, scal_is, scal_si, scal_nn, List.map_cons, List.map_nil, List.length_cons, List.length_nil, List.cons_append, List.nil_append, List.append_nil, List.replicate, List.getElem?_cons_zero, List.getElem?_cons_succ, Option.some.injEq, exists_and_left, exists_eq_left', exists_eq_left, exists_eq, exists_eq', V.int.injEq, V.ref.injEq, V.str.injEq, V.bl.injEq, List.cons.injEq, and_true, true_and, false_and, exists_false, or_false, false_or, reduceCtorEq, List.set_cons_zero, List.set_cons_succ, Nat.reduceAdd, Nat.reduceSub, Int.reduceToNat, decide_eq_true_eq, if_true, if_false, Bool.false_eq_true, Bool.not_true, Bool.not_false, Bool.true_eq_false, ite_false, ite_true, ne_eq, not_false_eq_true, Int.reduceEq])
    refine ⟨t, u, n, us, rfl, ht, hu', hut, Nat.le_trans hul (by decide), hus, fun x H1 sx T1 v1 => ?_⟩
    have ru := v1 _ _ hut hu'
    (try simp only [tIxO, rIsB, rNotB, tSeq, tIfS, tTest, tB, tOp, tUn, tVar, tC, tAsg, gName, tRet, tRetN, tCB, tCons, tNil, tLst_eq, tTup_eq, tDNewK_eq, tNext, tPar, tM0, tM1, tSl, tNoPart, tPart, rSlS, tAug, tAugS, tExf_eq, ipI, tChain, tCall, tDrop, tBM, tAnd, tOr, tNot, tAndV, tOrV, tNotV, tIf, tIsN, tNotN, rI, rI0, rU, rEq, rNe, gSub, cx_K, cx_K2, L2.start, wipe, scal_ii, scal_ss, scal_bb, scal_is, scal_si, scal_nn, List.map_cons, List.map_nil, List.length_cons, List.length_nil, List.cons_append, List.nil_append, List.append_nil, List.replicate, List.getElem?_cons_zero, List.getElem?_cons_succ, Option.some.injEq, exists_and_left, exists_eq_left', exists_eq_left, exists_eq, exists_eq', V.int.injEq, V.ref.injEq, V.str.injEq, V.bl.injEq, List.cons.injEq, and_true, true_and, false_and, exists_false, or_false, false_or, reduceCtorEq, List.set_cons_zero, List.set_cons_succ, Nat.reduceAdd, Nat.reduceSub, Int.reduceToNat, decide_eq_true_eq, if_true, if_false, Bool.false_eq_true, Bool.not_true, Bool.not_false, Bool.true_eq_false, ite_false, ite_true, ne_eq, not_false_eq_true, Int.reduceEq])
    refine cut_go (fun σ' H' => Tape H' t n ∧ ExT t H H' ∧ H' u = some (.lst (us.map V.str)) ∧ σ' = [some (.ref t), some (.ref u), some (.str x), none]) ?_ ?_
    · (try simp only [tIxO, rIsB, rNotB, tSeq, tIfS, tTest, tB, tOp, tUn, tVar, tC, tAsg, gName, tRet, tRetN, tCB, tCons, tNil, tLst_eq, tTup_eq, tDNewK_eq, tNext, tPar, tM0, tM1, tSl, tNoPart, tPart, rSlS, tAug, tAugS, tExf_eq, ipI, tChain, tCall, tDrop, tBM, tAnd, tOr, tNot, tAndV, tOrV, tNotV, tIf, tIsN, tNotN, rI, rI0, rU, rEq, rNe, gSub, cx_K, cx_K2, L2.start, wipe, scal_ii, scal_ss, scal_bb, scal_is, scal_si, scal_nn, List.map_cons, List.map_nil, List.length_cons, List.length_nil, List.cons_append, List.nil_append, List.append_nil, List.replicate, List.getElem?_cons_zero, List.getElem?_cons_succ, Option.some.injEq, exists_and_left, exists_eq_left', exists_eq_left, exists_eq, exists_eq', V.int.injEq, V.ref.injEq, V.str.injEq, V.bl.injEq, List.cons.injEq, and_true, true_and, false_and, exists_false, or_false, false_or, reduceCtorEq, List.set_cons_zero, List.set_cons_succ, Nat.reduceAdd, Nat.reduceSub, Int.reduceToNat, decide_eq_true_eq, if_true, if_false, Bool.false_eq_true, Bool.not_true, Bool.not_false, Bool.true_eq_false, ite_false, ite_true, ne_eq, not_false_eq_true, Int.reduceEq])
      refine inS_go (.inl (.inl ru)) ?_
      (try simp only [tIxO, rIsB, rNotB, tSeq, tIfS, tTest, tB, tOp, tUn, tVar, tC, tAsg, gName, tRet, tRetN, tCB, tCons, tNil, tLst_eq, tTup_eq, tDNewK_eq, tNext, tPar, tM0, tM1, tSl, tNoPart, tPart, rSlS, tAug, tAugS, tExf_eq, ipI, tChain, tCall, tDrop, tBM, tAnd, tOr, tNot, tAndV, tOrV, tNotV, tIf, tIsN, tNotN, rI, rI0, rU, rEq, rNe, gSub, cx_K, cx_K2, L2.start, wipe, scal_ii, scal_ss, scal_bb, scal_is, scal_si, scal_nn, List.map_cons, List.map_nil, List.length_cons, List.length_nil, List.cons_append, List.nil_append, List.append_nil, List.replicate, List.getElem?_cons_zero, List.getElem?_cons_succ, Option.some.injEq, exists_and_left, exists_eq_left', exists_eq_left, exists_eq, exists_eq', V.int.injEq, V.ref.injEq, V.str.injEq, V.bl.injEq, List.cons.injEq, and_true, true_and, false_and, exists_false, or_false, false_or, reduceCtorEq, List.set_cons_zero, List.set_cons_succ, Nat.reduceAdd, Nat.reduceSub, Int.reduceToNat, decide_eq_true_eq, if_true, if_false, Bool.false_eq_true, Bool.not_true, Bool.not_false, Bool.true_eq_false, ite_false, ite_true, ne_eq, not_false_eq_true, Int.reduceEq])
      refine ite2 (fun c1 => ?_) (fun _ => ?_)
      · refine ⟨rfl, fun p H2 n2 s2 r2 => ?_⟩
        refine inS_go (.inl (.inl r2)) ?_
        refine ⟨_, rfl, ?_⟩
        refine ite2 (fun c2 => ?_) (fun _ => ?_)
        · have d1 : us.contains x = false := by simpa using c1
          have d2 : keptS.contains x = false := by simpa using c2
          refine q _ _ ?_ d1 (T1.same s2) (v1.same s2)
          unfold isIdent
          rw [sx.1, sx.2, d2]
          rfl
        · exact ⟨T1.same s2, v1.same s2, s2 _ _ ru⟩
      · exact ⟨T1, v1, ru⟩
    · rintro σ' H2 ⟨T2, v2, r2, rfl⟩
      refine forR_go (n := us.length + 1) (fun R r => ?_) (by omega) (fun i σ H' => ∃ (o : Option V), Tape H' t n ∧ ExT t H H' ∧ H' u = some (.lst (us.map V.str)) ∧ (∀ j < i, us.contains (stemS x j) = true) ∧ σ = [some (.ref t), some (.ref u), some (.str x), o]) ⟨_, T2, v2, r2, fun j hj => absurd hj (by omega), rfl⟩ ?_ ?_
      · (try simp only [tIxO, rIsB, rNotB, tSeq, tIfS, tTest, tB, tOp, tUn, tVar, tC, tAsg, gName, tRet, tRetN, tCB, tCons, tNil, tLst_eq, tTup_eq, tDNewK_eq, tNext, tPar, tM0, tM1, tSl, tNoPart, tPart, rSlS, tAug, tAugS, tExf_eq, ipI, tChain, tCall, tDrop, tBM, tAnd, tOr, tNot, tAndV, tOrV, tNotV, tIf, tIsN, tNotN, rI, rI0, rU, rEq, rNe, gSub, cx_K, cx_K2, L2.start, wipe, scal_ii, scal_ss, scal_bb, scal_is, scal_si, scal_nn, List.map_cons, List.map_nil, List.length_cons, List.length_nil, List.cons_append, List.nil_append, List.append_nil, List.replicate, List.getElem?_cons_zero, List.getElem?_cons_succ, Option.some.injEq, exists_and_left, exists_eq_left', exists_eq_left, exists_eq, exists_eq', V.int.injEq, V.ref.injEq, V.str.injEq, V.bl.injEq, List.cons.injEq, and_true, true_and, false_and, exists_false, or_false, false_or, reduceCtorEq, List.set_cons_zero, List.set_cons_succ, Nat.reduceAdd, Nat.reduceSub, Int.reduceToNat, decide_eq_true_eq, if_true, if_false, Bool.false_eq_true, Bool.not_true, Bool.not_false, Bool.true_eq_false, ite_false, ite_true, ne_eq, not_false_eq_true, Int.reduceEq])
        refine ⟨_, .inl (.inl r2), ?_⟩
        rw [List.length_map]
        exact r
      · rintro i σ' H3 hi ⟨o, T3, v3, r3, hc, rfl⟩
        (try simp only [tIxO, rIsB, rNotB, tSeq, tIfS, tTest, tB, tOp, tUn, tVar, tC, tAsg, gName, tRet, tRetN, tCB, tCons, tNil, tLst_eq, tTup_eq, tDNewK_eq, tNext, tPar, tM0, tM1, tSl, tNoPart, tPart, rSlS, tAug, tAugS, tExf_eq, ipI, tChain, tCall, tDrop, tBM, tAnd, tOr, tNot, tAndV, tOrV, tNotV, tIf, tIsN, tNotN, rI, rI0, rU, rEq, rNe, gSub, cx_K, cx_K2, L2.start, wipe, scal_ii, scal_ss, scal_bb, scal_is, scal_si, scal_nn, List.map_cons, List.map_nil, List.length_cons, List.length_nil, List.cons_append, List.nil_append, List.append_nil, List.replicate, List.getElem?_cons_zero, List.getElem?_cons_succ, Option.some.injEq, exists_and_left, exists_eq_left', exists_eq_left, exists_eq, exists_eq', V.int.injEq, V.ref.injEq, V.str.injEq, V.bl.injEq, List.cons.injEq, and_true, true_and, false_and, exists_false, or_false, false_or, reduceCtorEq, List.set_cons_zero, List.set_cons_succ, Nat.reduceAdd, Nat.reduceSub, Int.reduceToNat, decide_eq_true_eq, if_true, if_false, Bool.false_eq_true, Bool.not_true, Bool.not_false, Bool.true_eq_false, ite_false, ite_true, ne_eq, not_false_eq_true, Int.reduceEq])
        obtain ⟨w1, w2⟩ := word_len sx.1
        have si := stem_ident sx (i := i) (by omega)
        have e1 : isWord (stemS x i) = true := by
          unfold isIdent at si
          simp only [Bool.and_eq_true] at si
          exact si.1.1
        have e2 := (word_len e1).2
        unfold stemS at e2
        rw [len_app] at e2
        have a1 : x.length ≤ sizeLine := Nat.le_trans w2 (by decide)
        have a2 : ((i : Nat) : Int).natAbs.log2 < 1920 := by
          rw [Int.natAbs_natCast]
          exact Nat.lt_of_le_of_lt (Nat.log2_le_self i) (by omega)
        have a3 : (cutS x none (some 9)).length + (Str.ofString (toString ((i : Nat) : Int))).length ≤ sizeLine := Nat.le_trans e2 (by decide)
        refine ⟨a1, a2, a3, ?_⟩
        refine inS_go (x := stemS x i) (.inl (.inl r3)) ?_
        refine ⟨_, rfl, ?_⟩
        refine ite2 (fun c => ?_) (fun c => ?_)
        · exact ⟨a1, a2, a3, q (stemS x i) _ si (by simpa using c) T3 v3⟩
        · refine ⟨T3, v3, r3, fun j hj => ?_⟩
          rcases Nat.lt_succ_iff_lt_or_eq.mp hj with h | rfl
          · exact hc j h
          · simpa using c
      · rintro σ' H3 ⟨o, T3, v3, r3, hc, rfl⟩
        exact (stem_free hul hc).elim
def spWord : Sp := fun vs H Q _ => ∃ (t : Addr) (n : Nat), vs = [.ref t] ∧ Tape H t (n + 20) ∧ ∀ x H', isWord x = true → Tape H' t n → ExT t H H' → Q (.str x) H'
theorem ok_l_word (T : Txt K mg w) : FnOk P w K mg base CX0 2 T.d_l_word.a T.d_l_word.d ["_law_tape_here"] spWord := by
  refine T.d_l_word.F.ok sc_l_word (fun vs H Q E h => ?_) (fun cdv A outer s H vs Q E hr h => ?_)
  · obtain ⟨t, n, rfl, _⟩ := h
    rfl
  · obtain ⟨t, n, rfl, ht, q⟩ := h
    have hu := hr.units
    refine ⟨_, (pss_cons (ps_if (pt_cmpR op_eq (pe_call (ok_l_draw T) (hr.mono (by decide)) (by rfl) T.d_l_draw.g T.d_l_draw.F.kp T.d_l_draw.b .nil pass0 (pa_cons (pv 0) (pa_cons pe_int pa_nil))) pe_int (nomark _)) (pss_one (ps_ret (pe_ix ix_list (pe_call0 (ok_l_kept T) (hr.mono (by decide)) (by rfl) T.d_l_kept.g T.d_l_kept.F.kp T.d_l_kept.b .nil pass0) (pe_call (ok_l_draw T) (hr.mono (by decide)) (by rfl) T.d_l_draw.g T.d_l_draw.F.kp T.d_l_draw.b .nil pass0 (pa_cons (pv 0) (pa_cons pe_int pa_nil))) (fun _ _ => rfl)))) pss_nil)
      (pss_cons (ps_set (i := 1) sc_l_word.nd rfl (Or.inl rfl) (pe_op op_add pe_int (pe_call (ok_l_draw T) (hr.mono (by decide)) (by rfl) T.d_l_draw.g T.d_l_draw.F.kp T.d_l_draw.b .nil pass0 (pa_cons (pv 0) (pa_cons pe_int pa_nil)))))
      (pss_cons (ps_set (i := 2) sc_l_word.nd rfl (Or.inl rfl) pe_str)
      (pss_cons (ps_for PassesOwn.never rfl (pi_range1 (by rfl) T.z_range (pa_cons (pv 1) pa_nil)) (pg_name (i := 3) sc_l_word.nd rfl (Or.inl rfl)) (pss_one (ps_set (i := 2) sc_l_word.nd rfl (Or.inl rfl) (pe_op op_add_str (pv 2) (pe_ix ix_str (pe_call0 (ok_l_signs T) (hr.mono (by decide)) (by rfl) T.d_l_signs.g T.d_l_signs.F.kp T.d_l_signs.b .nil pass0) (pe_call (ok_l_draw T) (hr.mono (by decide)) (by rfl) T.d_l_draw.g T.d_l_draw.F.kp T.d_l_draw.b .nil pass0 (pa_cons (pv 0) (pa_cons pe_int pa_nil))) (fun _ _ => rfl))))))
      (pss_one (ps_ret (pv 2))))))), ?_⟩
    (try simp only [tIxO, rIsB, rNotB, tSeq, tIfS, tTest, tB, tOp, tUn, tVar, tC, tAsg, gName, tRet, tRetN, tCB, tCons, tNil, tLst_eq, tTup_eq, tDNewK_eq, tNext, tPar, tM0, tM1, tSl, tNoPart, tPart, rSlS, tAug, tAugS, tExf_eq, ipI, tChain, tCall, tDrop, tBM, tAnd, tOr, tNot, tAndV, tOrV, tNotV, tIf, tIsN, tNotN, rI, rI0, rU, rEq, rNe, gSub, cx_K, cx_K2, L2.start, wipe, scal_ii, scal_ss, scal_bb, scal_is, scal_si, scal_nn, List.map_cons, List.map_nil, List.length_cons, List.length_nil, List.cons_append, List.nil_append, List.append_nil, List.replicate, List.getElem?_cons_zero, List.getElem?_cons_succ, Option.some.injEq, exists_and_left, exists_eq_left', exists_eq_left, exists_eq, exists_eq', V.int.injEq, V.ref.injEq, V.str.injEq, V.bl.injEq, List.cons.injEq, and_true, true_and, false_and, exists_false, or_false, false_or, reduceCtorEq, List.set_cons_zero, List.set_cons_succ, Nat.reduceAdd, Nat.reduceSub, Int.reduceToNat, decide_eq_true_eq, if_true, if_false, Bool.false_eq_true, Bool.not_true, Bool.not_false, Bool.true_eq_false, ite_false, ite_true, ne_eq, not_false_eq_true, Int.reduceEq])
    refine draw_go (ht.mono (m := (n + 19) + 1) (by omega)) (by decide) (by decide) fun x0 H1 _ _ T1 v1 => ?_
    (try simp only [tIxO, rIsB, rNotB, tSeq, tIfS, tTest, tB, tOp, tUn, tVar, tC, tAsg, gName, tRet, tRetN, tCB, tCons, tNil, tLst_eq, tTup_eq, tDNewK_eq, tNext, tPar, tM0, tM1, tSl, tNoPart, tPart, rSlS, tAug, tAugS, tExf_eq, ipI, tChain, tCall, tDrop, tBM, tAnd, tOr, tNot, tAndV, tOrV, tNotV, tIf, tIsN, tNotN, rI, rI0, rU, rEq, rNe, gSub, cx_K, cx_K2, L2.start, wipe, scal_ii, scal_ss, scal_bb, scal_is, scal_si, scal_nn, List.map_cons, List.map_nil, List.length_cons, List.length_nil, List.cons_append, List.nil_append, List.append_nil, List.replicate, List.getElem?_cons_zero, List.getElem?_cons_succ, Option.some.injEq, exists_and_left, exists_eq_left', exists_eq_left, exists_eq, exists_eq', V.int.injEq, V.ref.injEq, V.str.injEq, V.bl.injEq, List.cons.injEq, and_true, true_and, false_and, exists_false, or_false, false_or, reduceCtorEq, List.set_cons_zero, List.set_cons_succ, Nat.reduceAdd, Nat.reduceSub, Int.reduceToNat, decide_eq_true_eq, if_true, if_false, Bool.false_eq_true, Bool.not_true, Bool.not_false, Bool.true_eq_false, ite_false, ite_true, ne_eq, not_false_eq_true, Int.reduceEq])
    refine ite2 (fun _ => ?_) (fun _ => ?_)
    · refine ⟨rfl, fun p1 H3 n3 s3 r3 => ?_⟩
      have T3 := T1.same s3
      refine draw_go (T3.mono (m := (n + 17) + 1) (by omega)) (by decide) (by decide) fun x1 H4 a0 a1 T4 v4 => ?_
      have r4 := v4 _ _ (T1.ne n3) r3
      obtain ⟨kw, hk, ek⟩ := atI_ex (l := keptS) a0 (show x1 < ((keptS.length : Nat) : Int) from a1)
      refine ixM_go r4 (atI_map (f := V.str) ek) ?_
      exact q _ _ (kept_spell kw hk).1 (T4.mono (by omega)) ((v1.same s3).trans v4)
    · refine draw_go (T1.mono (m := (n + 18) + 1) (by omega)) (by decide) (by decide) fun z H2 z0 z1 T2 v2 => ?_
      (try simp only [tIxO, rIsB, rNotB, tSeq, tIfS, tTest, tB, tOp, tUn, tVar, tC, tAsg, gName, tRet, tRetN, tCB, tCons, tNil, tLst_eq, tTup_eq, tDNewK_eq, tNext, tPar, tM0, tM1, tSl, tNoPart, tPart, rSlS, tAug, tAugS, tExf_eq, ipI, tChain, tCall, tDrop, tBM, tAnd, tOr, tNot, tAndV, tOrV, tNotV, tIf, tIsN, tNotN, rI, rI0, rU, rEq, rNe, gSub, cx_K, cx_K2, L2.start, wipe, scal_ii, scal_ss, scal_bb, scal_is, scal_si, scal_nn, List.map_cons, List.map_nil, List.length_cons, List.length_nil, List.cons_append, List.nil_append, List.append_nil, List.replicate, List.getElem?_cons_zero, List.getElem?_cons_succ, Option.some.injEq, exists_and_left, exists_eq_left', exists_eq_left, exists_eq, exists_eq', V.int.injEq, V.ref.injEq, V.str.injEq, V.bl.injEq, List.cons.injEq, and_true, true_and, false_and, exists_false, or_false, false_or, reduceCtorEq, List.set_cons_zero, List.set_cons_succ, Nat.reduceAdd, Nat.reduceSub, Int.reduceToNat, decide_eq_true_eq, if_true, if_false, Bool.false_eq_true, Bool.not_true, Bool.not_false, Bool.true_eq_false, ite_false, ite_true, ne_eq, not_false_eq_true, Int.reduceEq])
      refine forR_go (n := (1 + z).toNat) (fun R r => ?_) (by omega) (fun i σ H' => ∃ (x : Str) (o : Option V), (TL.tl x).length = i ∧ (TL.tl x).all sgn = true ∧ Tape H' t (n + (13 - i)) ∧ ExT t H H' ∧ σ = [some (.ref t), some (.int (1 + z)), some (.str x), o]) ⟨_, _, rfl, rfl, T2.mono (by omega), v1.trans v2, rfl⟩ ?_ ?_
      · exact ⟨_, rfl, by rw [show (((1 + z).toNat : Nat) : Int) = 1 + z by omega] at r; exact r⟩
      · rintro i σ' H5 hi ⟨x, o, lx, ax, T5, v5, rfl⟩
        (try simp only [tIxO, rIsB, rNotB, tSeq, tIfS, tTest, tB, tOp, tUn, tVar, tC, tAsg, gName, tRet, tRetN, tCB, tCons, tNil, tLst_eq, tTup_eq, tDNewK_eq, tNext, tPar, tM0, tM1, tSl, tNoPart, tPart, rSlS, tAug, tAugS, tExf_eq, ipI, tChain, tCall, tDrop, tBM, tAnd, tOr, tNot, tAndV, tOrV, tNotV, tIf, tIsN, tNotN, rI, rI0, rU, rEq, rNe, gSub, cx_K, cx_K2, L2.start, wipe, scal_ii, scal_ss, scal_bb, scal_is, scal_si, scal_nn, List.map_cons, List.map_nil, List.length_cons, List.length_nil, List.cons_append, List.nil_append, List.append_nil, List.replicate, List.getElem?_cons_zero, List.getElem?_cons_succ, Option.some.injEq, exists_and_left, exists_eq_left', exists_eq_left, exists_eq, exists_eq', V.int.injEq, V.ref.injEq, V.str.injEq, V.bl.injEq, List.cons.injEq, and_true, true_and, false_and, exists_false, or_false, false_or, reduceCtorEq, List.set_cons_zero, List.set_cons_succ, Nat.reduceAdd, Nat.reduceSub, Int.reduceToNat, decide_eq_true_eq, if_true, if_false, Bool.false_eq_true, Bool.not_true, Bool.not_false, Bool.true_eq_false, ite_false, ite_true, ne_eq, not_false_eq_true, Int.reduceEq])
        refine ⟨rfl, ?_⟩
        refine draw_go (T5.mono (m := (n + (12 - i)) + 1) (by omega)) (by decide) (by decide) fun x1 H6 a0 a1 T6 v6 => ?_
        obtain ⟨c, ec, hc, _⟩ := signs_at a0 a1
        refine ixS_go (by decide) ec ?_
        have l1 := TL.len_tl x
        refine ⟨_, rfl, Nat.le_trans (show x.length + 1 ≤ 12 by omega) (by decide), ?_⟩
        refine ⟨_, ?_, ?_, T6.mono (by omega), v5.trans v6, rfl⟩
        · rw [TL.tl_append, tl_one, List.length_append, lx]
          rfl
        · rw [TL.tl_append, tl_one, List.all_append, ax]
          simp [hc]
      · rintro σ' H5 ⟨x, o, lx, ax, T5, v5, rfl⟩
        (try simp only [tIxO, rIsB, rNotB, tSeq, tIfS, tTest, tB, tOp, tUn, tVar, tC, tAsg, gName, tRet, tRetN, tCB, tCons, tNil, tLst_eq, tTup_eq, tDNewK_eq, tNext, tPar, tM0, tM1, tSl, tNoPart, tPart, rSlS, tAug, tAugS, tExf_eq, ipI, tChain, tCall, tDrop, tBM, tAnd, tOr, tNot, tAndV, tOrV, tNotV, tIf, tIsN, tNotN, rI, rI0, rU, rEq, rNe, gSub, cx_K, cx_K2, L2.start, wipe, scal_ii, scal_ss, scal_bb, scal_is, scal_si, scal_nn, List.map_cons, List.map_nil, List.length_cons, List.length_nil, List.cons_append, List.nil_append, List.append_nil, List.replicate, List.getElem?_cons_zero, List.getElem?_cons_succ, Option.some.injEq, exists_and_left, exists_eq_left', exists_eq_left, exists_eq, exists_eq', V.int.injEq, V.ref.injEq, V.str.injEq, V.bl.injEq, List.cons.injEq, and_true, true_and, false_and, exists_false, or_false, false_or, reduceCtorEq, List.set_cons_zero, List.set_cons_succ, Nat.reduceAdd, Nat.reduceSub, Int.reduceToNat, decide_eq_true_eq, if_true, if_false, Bool.false_eq_true, Bool.not_true, Bool.not_false, Bool.true_eq_false, ite_false, ite_true, ne_eq, not_false_eq_true, Int.reduceEq])
        exact q _ _ (word_of (by omega) (by omega) ax) (T5.mono (by omega)) v5

end
end Own

set_option Elab.async false
set_option linter.all false
set_option maxRecDepth 100000
set_option maxHeartbeats 4000000
namespace Own
open PySem PySem.Spec PyProof.Rows L2
section
variable {P : Program} {w : World} {K : PySem.W.Frag} {mg : Str → Option Value} {base : Heap}
theorem slA_go {K : PySem.W.Frag} {a : Addr} {xs : List V} {lo hi : Option Int} {H : Hp} {Q : VK} (h : SqT K H a xs) (q : ∀ p H2, Same H H2 → SqT K H2 p (cutV xs lo hi) → Q (.ref p) H2) : rSlA K (.ref a) lo hi H Q := by
  refine ⟨a, xs, rfl, h, fun e => q a H (fun _ _ z => z) ?_, fun _ p hp => q p _ (same_new hp) (.inl (.inl upd_same))⟩
  obtain ⟨e1, e2⟩ := e
  have : cutV xs lo hi = xs := by
    unfold cutV
    rw [e1, e2, List.drop_zero, Nat.sub_zero, List.take_length]
  rw [this]
  exact h
theorem catT_go {K : PySem.W.Frag} {a b : Addr} {xs ys : List V} {H : Hp} {Q : VK} (ha : SqT K H a xs) (hb : SqT K H b ys) (ne : xs ≠ []) (few : xs.length + ys.length ≤ 1000000) (q : ∀ p H2, Same H H2 → SqT K H2 p (xs ++ ys) → Q (.ref p) H2) : rCatT K (.ref a) (.ref b) H Q := by
  refine ⟨a, b, xs, ys, rfl, rfl, ha, hb, ne, Nat.le_trans few (by decide), fun e => ?_, fun _ p hp => q p _ (same_new hp) (.inl (.inl upd_same))⟩
  subst e
  exact q a H (fun _ _ z => z) (by rw [List.append_nil]; exact ha)
theorem cutV_from (xs : List V) (k : Nat) : cutV xs (some (k : Int)) none = xs.drop k := by
  unfold cutV
  rw [HT.sIx_nat, HT.sIx_none]
  by_cases h : k ≤ xs.length
  · rw [Nat.min_eq_left h, List.take_of_length_le (by rw [List.length_drop]; exact Nat.le_refl _)]
  · rw [Nat.min_eq_right (by omega), List.drop_of_length_le (Nat.le_refl _), List.drop_of_length_le (by omega), List.take_nil]
/-- a comprehension over whatever gives the items of xs in order; test and element may make new things -/
theorem lcG_go {α : Type} {J : It} {xs : List V} {G : Hp → Prop} (w : Walk J xs.length G (YAt xs)) {j : Nat} {tt : TT} {te : TE} {σ : L2.St} {H : Hp} {Q : VK} (l : List α) (b : α → Bool) (g : α → V) (hG : ∀ D H', H D = none → ExT D H H' → G H') (hlen : xs.length = l.length) (hz : l.length ≤ 100000)
    (htt : ∀ (i : Nat) x z H' (R : Bool → Hp → Prop), xs[i]? = some x → l[i]? = some z → Same H H' → (∀ H2, Same H' H2 → R (b z) H2) → tt ((wipe σ [j]).set j (some x)) H' R)
    (hte : ∀ (i : Nat) x z H' (R : VK), xs[i]? = some x → l[i]? = some z → b z = true → Same H H' → (∀ H2, Same H' H2 → R (g z) H2) → te ((wipe σ [j]).set j (some x)) H' R)
    (q : ∀ D H', H D = none → Same H H' → H' D = some (.lst ((l.filter b).map g)) → Q (.ref D) H') : tLc (fun _ H R => R J H) (gName j) tt te [j] σ H Q := by
  refine fun D hD => ?_
  refine lc_it w (fun i H' => H' D = some (.lst (((l.take i).filter b).map g)) ∧ ExT D H H') ⟨upd_same, exT_upd (ExT.refl D H)⟩ (fun i H' _ p => hG D H' hD p.2) ?_ ?_
  · rintro i x H' H2 hi ⟨p1, p2⟩ ⟨rfl, hx⟩
    obtain ⟨z, hzz⟩ : ∃ z, l[i]? = some z := ⟨l[i]'(by omega), List.getElem?_eq_getElem (by omega)⟩
    have e : l.take (i + 1) = l.take i ++ [z] := by rw [List.take_add_one, hzz]; rfl
    refine ⟨wipe_set, htt i x z H2 _ hx hzz (ExT.toSame hD p2) fun H3 s3 => ?_⟩
    have p3 := s3 _ _ p1
    have v3 := p2.trans (Same.exT s3)
    cases hb : b z with
    | true =>
      refine hte i x z H3 _ hx hzz hb (ExT.toSame hD v3) fun H4 s4 => ⟨_, s4 _ _ p3, ?_, ?_, exT_upd (v3.trans (Same.exT s4))⟩
      · rw [List.length_map]
        exact Nat.lt_of_le_of_lt (Nat.le_trans (List.length_filter_le _ _) (List.length_take_le _ _)) (Nat.lt_of_lt_of_le (show i < l.length by omega) (Nat.le_trans hz (by decide)))
      · rw [e, List.filter_append, List.map_append]
        simp only [List.filter_cons, hb, if_true, List.filter_nil, List.map_cons, List.map_nil]
        exact upd_same
    | false =>
      refine ⟨?_, v3⟩
      rw [e, List.filter_append]
      simp only [List.filter_cons, hb, List.filter_nil]
      rw [p3]
      simp
  · rintro H' ⟨p1, p2⟩
    rw [hlen, List.take_length] at p1
    exact q D H' hD (ExT.toSame hD p2) p1
theorem take_at {α : Type} {x : α} {l : List α} {i : Nat} (h : l[i]? = some x) : l.take (i + 1) = l.take i ++ [x] := by
  rw [List.take_add_one, h]
  rfl
theorem lcGi_go {α : Type} {J : It} {xs : List V} {G : Hp → Prop} (w : Walk J xs.length G (YAt xs)) {wi : TI} {j : Nat} {tt : TT} {te : TE} {σ : L2.St} {H : Hp} {Q : VK} (l : List α) (b : α → Bool) (g : α → V) (ht : ∀ R : It → Hp → Prop, R J H → wi σ H R) (hG : ∀ D H', H D = none → ExT D H H' → G H') (hlen : xs.length = l.length) (hz : l.length ≤ 100000)
    (htt : ∀ (i : Nat) x z H' (R : Bool → Hp → Prop), xs[i]? = some x → l[i]? = some z → Same H H' → (∀ H2, Same H' H2 → R (b z) H2) → tt ((wipe σ [j]).set j (some x)) H' R)
    (hte : ∀ (i : Nat) x z H' (R : VK), xs[i]? = some x → l[i]? = some z → b z = true → Same H H' → (∀ H2, Same H' H2 → R (g z) H2) → te ((wipe σ [j]).set j (some x)) H' R)
    (q : ∀ D H', H D = none → Same H H' → H' D = some (.lst ((l.filter b).map g)) → Q (.ref D) H') : tLc wi (gName j) tt te [j] σ H Q := ht _ (lcG_go w l b g hG hlen hz htt hte q)

theorem same_ext {t : Addr} {H H1 H2 : Hp} (h : H t = none) (s : Same H H1) (v : ExT t H1 H2) : Same H H2 := fun b o e => v b o (by rintro rfl; rw [h] at e; cases e) (s b o e)
theorem tape_upd {H : Hp} {t k : Addr} {n : Nat} {o : HO} (hk : k ≠ t) (h : Tape H t n) : Tape (upd H k o) t n := by
  obtain ⟨c, m, f, kk, e, w⟩ := h
  exact ⟨c, m, f, kk, by rw [upd_ne (Ne.symm hk)]; exact e, w⟩
def kinds4 : List Str := ["name", "flag", "slot", "func"]
structure HdQ (hs : List (Str × Str)) : Prop where
  kind : ∀ h ∈ hs, h.1 ∈ kinds4
  ident : ∀ h ∈ hs, isIdent h.2 = true
theorem spell_of {y : Str} (z : isIdent y = true) : Spell y := by
  unfold isIdent at z
  simp only [Bool.and_eq_true] at z
  exact ⟨z.1.1, z.1.2⟩
theorem kinds6 {x : Int} (h0 : 0 ≤ x) (h1 : x < 6) : ∃ k, k ∈ kinds4 ∧ ([V.str "name", V.str "flag", V.str "slot", V.str "func", V.str "slot", V.str "func"] : List V)[x.toNat]? = some (V.str k) := by
  obtain ⟨j, rfl⟩ := Int.eq_ofNat_of_zero_le h0
  have hj : j < 6 := by omega
  have all : ∀ j < 6, ∃ k ∈ kinds4, ([V.str "name", V.str "flag", V.str "slot", V.str "func", V.str "slot", V.str "func"] : List V)[j]? = some (V.str k) := by decide +kernel
  obtain ⟨k, h1, h2⟩ := all j hj
  exact ⟨k, h1, h2⟩
/-- [head[1] for head in heads] -/
theorem allI_go {K : PySem.W.Frag} {a : Addr} {xs : List V} {hs : List (Str × Str)} {wi : TI} {j : Nat} {σ : L2.St} {H : Hp} {Q : VK} (ha : SqL K H a xs) (hx : DpAll K H xs (hs.map encH)) (few : hs.length ≤ 1000) (hj : j < σ.length) (ht : ∀ R : It → Hp → Prop, R (Itl K a) H → wi σ H R)
    (q : ∀ D H', H D = none → Same H H' → H' D = some (.lst ((hs.map (·.2)).map V.str)) → Q (.ref D) H') : tLc wi (gName j) tYes (tOp (rIxT K) (tVar j) (tC (V.int 1))) [j] σ H Q := by
  have hl := DpAll.len hx
  rw [List.length_map] at hl
  have at_ : ∀ {x : V}, ((wipe σ [j]).set j (some x))[j]? = some (some x) := fun {x} => by
    show ((σ.set j none).set j (some x))[j]? = _
    rw [List.set_set, List.getElem?_set_self hj]
  refine lcGi_go (walk_list (K := K) (a := a) (xs := xs)) hs (fun _ => true) (fun t => V.str t.2) ht (fun D H' hD v => sq_same (ExT.toSame hD v) ha) hl (by omega) (fun i x z H' R h1 h2 s r => r H' fun _ _ e => e) (fun i x z H' R h1 h2 _ s r => ?_) (fun D H' nD s rD => q D H' nD s (by rw [rD, List.map_map, List.filter_eq_self.mpr fun _ _ => rfl]; rfl))
  obtain ⟨x2, hx2, dp⟩ := DpAll.at hx (show (hs.map encH)[i]? = some (encH z) by rw [List.getElem?_map, h2]; rfl)
  rw [h1] at hx2
  cases hx2
  refine ⟨x, at_, ?_⟩
  show rIxT K x (.int 1) H' R
  refine ixD_go (j := 1) (dp_same s dp) rfl rfl fun y dy => ?_
  cases Dp.strD dy
  exact r H' fun _ _ e => e
def spHeadsQ (K : PySem.W.Frag) : Sp := fun vs H Q _ => ∃ (t : Addr) (n m : Nat), vs = [.ref t, .int (m : Int)] ∧ Tape H t (n + 2000) ∧ 1 ≤ m ∧ m ≤ 20 ∧ ∀ D H' hs xs, H' D = some (.lst xs) → DpAll K H' xs (hs.map encH) → HdQ hs → 1 ≤ hs.length → hs.length ≤ m → Tape H' t n → ExT t H H' → D ≠ t → Q (.ref D) H'
theorem ok_l_heads (T : Txt K mg w) : FnOk P w K mg base CX0 4 T.d_l_heads.a T.d_l_heads.d ["_law_tape_here", "_law_most"] (spHeadsQ K) := by
  refine T.d_l_heads.F.ok sc_l_heads (fun vs H Q E h => ?_) (fun cdv A outer s H vs Q E hr h => ?_)
  · obtain ⟨_, _, _, rfl, _⟩ := h
    rfl
  · obtain ⟨t, n, m, rfl, ht, m1, m20, q⟩ := h
    have hu := hr.units
    refine ⟨_, (pss_cons (ps_set (i := 2) sc_l_heads.nd rfl (Or.inl rfl) (pe_lst pa_nil))
      (pss_cons (ps_for PassesOwn.never rfl (pi_range1 (by rfl) T.z_range (pa_cons (pe_op op_add pe_int (pe_call (ok_l_draw T) (hr.mono (by decide)) (by rfl) T.d_l_draw.g T.d_l_draw.F.kp T.d_l_draw.b .nil pass0 (pa_cons (pv 0) (pa_cons (pv 1) pa_nil)))) pa_nil)) (pg_name (i := 3) sc_l_heads.nd rfl (Or.inl rfl)) (pss_cons (ps_set (i := 4) sc_l_heads.nd rfl (Or.inl rfl) (pe_ix ix_list (pe_lst (pa_cons pe_str (pa_cons pe_str (pa_cons pe_str (pa_cons pe_str (pa_cons pe_str (pa_cons pe_str pa_nil))))))) (pe_call (ok_l_draw T) (hr.mono (by decide)) (by rfl) T.d_l_draw.g T.d_l_draw.F.kp T.d_l_draw.b .nil pass0 (pa_cons (pv 0) (pa_cons pe_int pa_nil))) (fun _ _ => rfl)))
      (pss_cons (ps_set (i := 5) sc_l_heads.nd rfl (Or.inl rfl) (pe_call (ok_l_draw T) (hr.mono (by decide)) (by rfl) T.d_l_draw.g T.d_l_draw.F.kp T.d_l_draw.b .nil pass0 (pa_cons (pv 0) (pa_cons pe_int pa_nil))))
      (pss_cons (ps_set (i := 6) sc_l_heads.nd rfl (Or.inl rfl) (pe_call (ok_l_ident T) (hr.mono (by decide)) (by rfl) T.d_l_ident.g T.d_l_ident.F.kp T.d_l_ident.b .nil pass0 (pa_cons (pv 0) (pa_cons (pe_lc (own := [("_law_head_here", 7)]) (g := gName 7) (tt := tYes) (by rfl) sc_l_heads.nd (pi_list (pv 2)) (blkOk_by (own := [("_law_head_here", 7)]) (N := ["_law_tape_here", "_law_most", "_law_heads_here", "_law_step", "_law_kind", "_law_old", "_law_ident_here", "_law_head_here"]) (sc := defScope s_l_heads) (by decide +kernel)) (fun _ _ _ _ _ => pg_name (i := 7) sc_l_heads.nd rfl (Or.inl rfl)) (fun _ _ _ _ _ => pts_nil) (fun _ _ _ _ _ => (pe_ix ixB_tup (pv 7) pe_int (fun _ _ => rfl)))) pa_nil))))
      (Evl.pss_cut (ps_if (pt_chain op_lt op_le pe_int (pv 5) (pe_callB call_lenL (by rfl) T.z_len (by decide +kernel) (pa_cons (pv 2) pa_nil))) (pss_one (ps_set (i := 6) sc_l_heads.nd rfl (Or.inl rfl) (pe_ix ix_tup (pe_ix ix_list (pv 2) (pe_op op_sub (pv 5) pe_int) (fun _ _ => rfl)) pe_int (fun _ _ => rfl)))) pss_nil)
      (pss_one (ps_expr (pe_bm PySem.F.plainAttrs_list PySem.F.slot_list_append PySem.F.type_list_append mt_append (pv 2) (pa_cons (pe_tup (pa_cons (pv 4) (pa_cons (pv 6) pa_nil))) pa_nil)))))))))
      (pss_one (ps_ret (pv 2))))), ?_⟩
    (try simp only [tIxO, rIsB, rNotB, tSeq, tIfS, tTest, tB, tOp, tUn, tVar, tC, tAsg, gName, tRet, tRetN, tCB, tCons, tNil, tLst_eq, tTup_eq, tDNewK_eq, tNext, tPar, tM0, tM1, tSl, tNoPart, tPart, rSlS, tAug, tAugS, tExf_eq, ipI, tChain, tCall, tDrop, tBM, tAnd, tOr, tNot, tAndV, tOrV, tNotV, tIf, tIsN, tNotN, rI, rI0, rU, rEq, rNe, gSub, cx_K, cx_K2, L2.start, wipe, scal_ii, scal_ss, scal_bb, scal_is, scal_si, scal_nn, List.map_cons, List.map_nil, List.length_cons, List.length_nil, List.cons_append, List.nil_append, List.append_nil, List.replicate, List.getElem?_cons_zero, List.getElem?_cons_succ, Option.some.injEq, exists_and_left, exists_eq_left', exists_eq_left, exists_eq, exists_eq', V.int.injEq, V.ref.injEq, V.str.injEq, V.bl.injEq, List.cons.injEq, and_true, true_and, false_and, exists_false, or_false, false_or, reduceCtorEq, List.set_cons_zero, List.set_cons_succ, Nat.reduceAdd, Nat.reduceSub, Int.reduceToNat, decide_eq_true_eq, if_true, if_false, Bool.false_eq_true, Bool.not_true, Bool.not_false, Bool.true_eq_false, ite_false, ite_true, ne_eq, not_false_eq_true, Int.reduceEq])
    refine newL_go fun D H1 n1 s1 r1 => ?_
    have tD : D ≠ t := ht.ne n1
    refine forC_go (Cond := fun k H3 => 1 ≤ k ∧ k ≤ m ∧ Tape H3 t (n + 1900) ∧ ExT t H H3 ∧ H3 D = some (.lst [])) (fun R r => ?_) (fun k H2 z => by omega) (fun k i σ2 H' => ∃ (o3 o4 o5 o6 : Option V) (hs : List (Str × Str)) (xs : List V), H' D = some (.lst xs) ∧ DpAll K H' xs (hs.map encH) ∧ HdQ hs ∧ hs.length = i ∧ 1 ≤ k ∧ k ≤ m ∧ Tape H' t (n + 1900 - 50 * i) ∧ ExT t H H' ∧ σ2 = [some (.ref t), some (.int (m : Int)), some (.ref D), o3, o4, o5, o6, none]) (fun k H3 z => ⟨none, none, none, none, [], [], z.2.2.2.2, .nil, ⟨(fun h hh => by cases hh), (fun h hh => by cases hh)⟩, rfl, z.1, z.2.1, z.2.2.1, z.2.2.2.1, rfl⟩) ?_ ?_
    · (try simp only [tIxO, rIsB, rNotB, tSeq, tIfS, tTest, tB, tOp, tUn, tVar, tC, tAsg, gName, tRet, tRetN, tCB, tCons, tNil, tLst_eq, tTup_eq, tDNewK_eq, tNext, tPar, tM0, tM1, tSl, tNoPart, tPart, rSlS, tAug, tAugS, tExf_eq, ipI, tChain, tCall, tDrop, tBM, tAnd, tOr, tNot, tAndV, tOrV, tNotV, tIf, tIsN, tNotN, rI, rI0, rU, rEq, rNe, gSub, cx_K, cx_K2, L2.start, wipe, scal_ii, scal_ss, scal_bb, scal_is, scal_si, scal_nn, List.map_cons, List.map_nil, List.length_cons, List.length_nil, List.cons_append, List.nil_append, List.append_nil, List.replicate, List.getElem?_cons_zero, List.getElem?_cons_succ, Option.some.injEq, exists_and_left, exists_eq_left', exists_eq_left, exists_eq, exists_eq', V.int.injEq, V.ref.injEq, V.str.injEq, V.bl.injEq, List.cons.injEq, and_true, true_and, false_and, exists_false, or_false, false_or, reduceCtorEq, List.set_cons_zero, List.set_cons_succ, Nat.reduceAdd, Nat.reduceSub, Int.reduceToNat, decide_eq_true_eq, if_true, if_false, Bool.false_eq_true, Bool.not_true, Bool.not_false, Bool.true_eq_false, ite_false, ite_true, ne_eq, not_false_eq_true, Int.reduceEq])
      refine draw_go ((ht.same s1).mono (m := (n + 1900) + 1) (by omega)) (by omega) (Nat.lt_of_le_of_lt (show _ ≤ 20 by omega) (Nat.lt_of_lt_of_le (show 20 < 2 ^ 10 by decide) (Nat.pow_le_pow_right (by decide) (by decide)))) fun x1 H3 a0 a1 T3 v3 => ?_
      (try simp only [tIxO, rIsB, rNotB, tSeq, tIfS, tTest, tB, tOp, tUn, tVar, tC, tAsg, gName, tRet, tRetN, tCB, tCons, tNil, tLst_eq, tTup_eq, tDNewK_eq, tNext, tPar, tM0, tM1, tSl, tNoPart, tPart, rSlS, tAug, tAugS, tExf_eq, ipI, tChain, tCall, tDrop, tBM, tAnd, tOr, tNot, tAndV, tOrV, tNotV, tIf, tIsN, tNotN, rI, rI0, rU, rEq, rNe, gSub, cx_K, cx_K2, L2.start, wipe, scal_ii, scal_ss, scal_bb, scal_is, scal_si, scal_nn, List.map_cons, List.map_nil, List.length_cons, List.length_nil, List.cons_append, List.nil_append, List.append_nil, List.replicate, List.getElem?_cons_zero, List.getElem?_cons_succ, Option.some.injEq, exists_and_left, exists_eq_left', exists_eq_left, exists_eq, exists_eq', V.int.injEq, V.ref.injEq, V.str.injEq, V.bl.injEq, List.cons.injEq, and_true, true_and, false_and, exists_false, or_false, false_or, reduceCtorEq, List.set_cons_zero, List.set_cons_succ, Nat.reduceAdd, Nat.reduceSub, Int.reduceToNat, decide_eq_true_eq, if_true, if_false, Bool.false_eq_true, Bool.not_true, Bool.not_false, Bool.true_eq_false, ite_false, ite_true, ne_eq, not_false_eq_true, Int.reduceEq])
      have e : 1 + x1 = (((1 + x1).toNat : Nat) : Int) := by omega
      rw [e]
      exact r _ H3 ⟨by omega, by omega, T3, (Same.exT s1).trans v3, v3 _ _ tD r1⟩
    · rintro k i σ' H3 hi ⟨o3, o4, o5, o6, hs, xs, rD, dx, hq, hl, k1, km, T3, v3, rfl⟩
      (try simp only [tIxO, rIsB, rNotB, tSeq, tIfS, tTest, tB, tOp, tUn, tVar, tC, tAsg, gName, tRet, tRetN, tCB, tCons, tNil, tLst_eq, tTup_eq, tDNewK_eq, tNext, tPar, tM0, tM1, tSl, tNoPart, tPart, rSlS, tAug, tAugS, tExf_eq, ipI, tChain, tCall, tDrop, tBM, tAnd, tOr, tNot, tAndV, tOrV, tNotV, tIf, tIsN, tNotN, rI, rI0, rU, rEq, rNe, gSub, cx_K, cx_K2, L2.start, wipe, scal_ii, scal_ss, scal_bb, scal_is, scal_si, scal_nn, List.map_cons, List.map_nil, List.length_cons, List.length_nil, List.cons_append, List.nil_append, List.append_nil, List.replicate, List.getElem?_cons_zero, List.getElem?_cons_succ, Option.some.injEq, exists_and_left, exists_eq_left', exists_eq_left, exists_eq, exists_eq', V.int.injEq, V.ref.injEq, V.str.injEq, V.bl.injEq, List.cons.injEq, and_true, true_and, false_and, exists_false, or_false, false_or, reduceCtorEq, List.set_cons_zero, List.set_cons_succ, Nat.reduceAdd, Nat.reduceSub, Int.reduceToNat, decide_eq_true_eq, if_true, if_false, Bool.false_eq_true, Bool.not_true, Bool.not_false, Bool.true_eq_false, ite_false, ite_true, ne_eq, not_false_eq_true, Int.reduceEq])
      refine newL_go fun L4 H4 n4 s4 r4 => ?_
      have L4t : L4 ≠ t := T3.ne n4
      refine draw_go ((T3.same s4).mono (m := (n + 1900 - 50 * i - 1) + 1) (by omega)) (by decide) (by decide) fun x1 H5 a0 a1 T5 v5 => ?_
      obtain ⟨kd, hk4, ek⟩ := kinds6 a0 a1
      rw [show x1 = ((x1.toNat : Nat) : Int) by omega]
      refine ixM_go (v5 _ _ L4t r4) (atI_nat ek) ?_
      refine draw_go (T5.mono (m := (n + 1900 - 50 * i - 2) + 1) (by omega)) (by decide) (by decide) fun x2 H6 b0 b1 T6 v6 => ?_
      have v36 : ExT t H3 H6 := ((Same.exT s4).trans v5).trans v6
      have rD6 := v36 _ _ tD rD
      have dx6 := DpAll.keep (v36.tu T3) dx (pl_heads hs)
      refine allI_go (.inl (.inl rD6)) dx6 (by omega) (by simp) (fun R r => ⟨_, rfl, D, rfl, ⟨_, .inl (.inl rD6)⟩, r⟩) fun U H7 n7 s7 r7 => ?_
      refine ⟨t, U, n + 1900 - 50 * i - 40, hs.map (·.2), rfl, (T6.same s7).mono (by omega), r7, T6.ne n7, by rw [List.length_map]; omega, fun y hy => ?_, fun z H8 iz nz T8 v8 => ?_⟩
      · obtain ⟨h, hh, rfl⟩ := List.mem_map.mp hy
        exact spell_of (hq.ident h hh)
      have v68 : ExT t H6 H8 := (Same.exT s7).trans v8
      have rD8 := v68 _ _ tD rD6
      have dx8 := DpAll.keep (v68.tu T6) dx6 (pl_heads hs)
      refine cut_go (fun σ' H' => ∃ z2, isIdent z2 = true ∧ H' = H8 ∧ σ' = [some (.ref t), some (.int (m : Int)), some (.ref D), some (.int (i : Int)), some (.str kd), some (.int x2), some (.str z2), none]) ?_ ?_
      · (try simp only [tIxO, rIsB, rNotB, tSeq, tIfS, tTest, tB, tOp, tUn, tVar, tC, tAsg, gName, tRet, tRetN, tCB, tCons, tNil, tLst_eq, tTup_eq, tDNewK_eq, tNext, tPar, tM0, tM1, tSl, tNoPart, tPart, rSlS, tAug, tAugS, tExf_eq, ipI, tChain, tCall, tDrop, tBM, tAnd, tOr, tNot, tAndV, tOrV, tNotV, tIf, tIsN, tNotN, rI, rI0, rU, rEq, rNe, gSub, cx_K, cx_K2, L2.start, wipe, scal_ii, scal_ss, scal_bb, scal_is, scal_si, scal_nn, List.map_cons, List.map_nil, List.length_cons, List.length_nil, List.cons_append, List.nil_append, List.append_nil, List.replicate, List.getElem?_cons_zero, List.getElem?_cons_succ, Option.some.injEq, exists_and_left, exists_eq_left', exists_eq_left, exists_eq, exists_eq', V.int.injEq, V.ref.injEq, V.str.injEq, V.bl.injEq, List.cons.injEq, and_true, true_and, false_and, exists_false, or_false, false_or, reduceCtorEq, List.set_cons_zero, List.set_cons_succ, Nat.reduceAdd, Nat.reduceSub, Int.reduceToNat, decide_eq_true_eq, if_true, if_false, Bool.false_eq_true, Bool.not_true, Bool.not_false, Bool.true_eq_false, ite_false, ite_true, ne_eq, not_false_eq_true, Int.reduceEq])
        have fine : ∃ z2, isIdent z2 = true ∧ z = z2 := ⟨z, iz, rfl⟩
        refine ite2 (fun h1 => ⟨_, .inl (.inl rD8), ite2 (fun h2 => ?_) (fun _ => fine)⟩) (fun _ => fine)
        have hlx := DpAll.len dx8
        rw [List.length_map] at hlx
        obtain ⟨h0, eh0⟩ : ∃ h0, hs[(x2 - 1).toNat]? = some h0 := ⟨_, List.getElem?_eq_getElem (by omega)⟩
        obtain ⟨y0, hy0, dy0⟩ := DpAll.at dx8 (show (hs.map encH)[(x2 - 1).toNat]? = some (encH h0) by rw [List.getElem?_map, eh0]; rfl)
        rw [show x2 - 1 = (((x2 - 1).toNat : Nat) : Int) by omega]
        refine ixM_go rD8 (atI_nat hy0) ?_
        refine ixD_go (j := 1) dy0 rfl rfl fun y dy => ?_
        cases Dp.strD dy
        exact ⟨_, hq.ident h0 (List.mem_of_getElem? eh0), rfl, rfl⟩
      · rintro σ' H' ⟨z2, iz2, rfl, rfl⟩
        (try simp only [tIxO, rIsB, rNotB, tSeq, tIfS, tTest, tB, tOp, tUn, tVar, tC, tAsg, gName, tRet, tRetN, tCB, tCons, tNil, tLst_eq, tTup_eq, tDNewK_eq, tNext, tPar, tM0, tM1, tSl, tNoPart, tPart, rSlS, tAug, tAugS, tExf_eq, ipI, tChain, tCall, tDrop, tBM, tAnd, tOr, tNot, tAndV, tOrV, tNotV, tIf, tIsN, tNotN, rI, rI0, rU, rEq, rNe, gSub, cx_K, cx_K2, L2.start, wipe, scal_ii, scal_ss, scal_bb, scal_is, scal_si, scal_nn, List.map_cons, List.map_nil, List.length_cons, List.length_nil, List.cons_append, List.nil_append, List.append_nil, List.replicate, List.getElem?_cons_zero, List.getElem?_cons_succ, Option.some.injEq, exists_and_left, exists_eq_left', exists_eq_left, exists_eq, exists_eq', V.int.injEq, V.ref.injEq, V.str.injEq, V.bl.injEq, List.cons.injEq, and_true, true_and, false_and, exists_false, or_false, false_or, reduceCtorEq, List.set_cons_zero, List.set_cons_succ, Nat.reduceAdd, Nat.reduceSub, Int.reduceToNat, decide_eq_true_eq, if_true, if_false, Bool.false_eq_true, Bool.not_true, Bool.not_false, Bool.true_eq_false, ite_false, ite_true, ne_eq, not_false_eq_true, Int.reduceEq])
        refine ⟨.inl ⟨rfl, _, .inl (.inl rD8)⟩, ?_⟩
        refine newTD_go (K := K) (ds := [.str kd, .str z2]) (.cons (.str _) (.cons (.str _) .nil)) rfl (by simp) fun p9 H9 n9 s9 d9 => ?_
        have rD9 := s9 _ _ rD8
        have lx : xs.length = hs.length := by
          have z := DpAll.len dx8
          rw [List.length_map] at z
          exact z
        refine ⟨D, _, _, rfl, rfl, rD9, Nat.lt_of_le_of_lt (show _ ≤ 1000 by omega) (by decide), _, _, _, _, hs ++ [(kd, z2)], xs ++ [.ref p9], upd_same, ?_, ⟨fun h hh => ?_, fun h hh => ?_⟩, by rw [List.length_append, List.length_singleton]; omega, k1, km, tape_upd tD ((T8.same s9).mono (by omega)), ?_, rfl, rfl, rfl, rfl⟩
        · rw [List.map_append]
          refine DpAll.keep (tu_lst rD9) (dpA_app (dpA_same s9 dx8) (.cons d9 .nil)) ?_
          rw [← List.map_append]
          exact pl_heads _
        · rcases List.mem_append.mp hh with hh | hh
          · exact hq.kind h hh
          · cases List.mem_singleton.mp hh
            exact hk4
        · rcases List.mem_append.mp hh with hh | hh
          · exact hq.ident h hh
          · cases List.mem_singleton.mp hh
            exact iz2
        · have v9 := ((v3.trans v36).trans v68).same s9
          exact fun b u ne e => by
            rw [upd_ne (fun z => by rw [z, n1] at e; cases e)]
            exact v9 b u ne e
    · rintro k σ' H3 ⟨o3, o4, o5, o6, hs, xs, rD, dx, hq, hl, k1, km, T3, v3, rfl⟩
      (try simp only [tIxO, rIsB, rNotB, tSeq, tIfS, tTest, tB, tOp, tUn, tVar, tC, tAsg, gName, tRet, tRetN, tCB, tCons, tNil, tLst_eq, tTup_eq, tDNewK_eq, tNext, tPar, tM0, tM1, tSl, tNoPart, tPart, rSlS, tAug, tAugS, tExf_eq, ipI, tChain, tCall, tDrop, tBM, tAnd, tOr, tNot, tAndV, tOrV, tNotV, tIf, tIsN, tNotN, rI, rI0, rU, rEq, rNe, gSub, cx_K, cx_K2, L2.start, wipe, scal_ii, scal_ss, scal_bb, scal_is, scal_si, scal_nn, List.map_cons, List.map_nil, List.length_cons, List.length_nil, List.cons_append, List.nil_append, List.append_nil, List.replicate, List.getElem?_cons_zero, List.getElem?_cons_succ, Option.some.injEq, exists_and_left, exists_eq_left', exists_eq_left, exists_eq, exists_eq', V.int.injEq, V.ref.injEq, V.str.injEq, V.bl.injEq, List.cons.injEq, and_true, true_and, false_and, exists_false, or_false, false_or, reduceCtorEq, List.set_cons_zero, List.set_cons_succ, Nat.reduceAdd, Nat.reduceSub, Int.reduceToNat, decide_eq_true_eq, if_true, if_false, Bool.false_eq_true, Bool.not_true, Bool.not_false, Bool.true_eq_false, ite_false, ite_true, ne_eq, not_false_eq_true, Int.reduceEq])
      exact q D H3 hs xs rD dx hq (by omega) (by omega) (T3.mono (by omega)) v3 tD
def spChosen (K : PySem.W.Frag) : Sp := fun vs H Q _ => ∃ (t a p : Addr) (n : Nat) (hs : List (Str × Str)) (ks : List Str), vs = [.ref t, .ref a, .ref p] ∧ Tape H t (n + 30) ∧ Hds K H a hs ∧ SqT K H p (ks.map V.str) ∧ a ≠ t ∧ hs.length ≤ 80 ∧ HdQ hs ∧ ∀ x H', isIdent x = true → Tape H' t n → ExT t H H' → Q (.str x) H'
theorem ok_l_chosen (T : Txt K mg w) : FnOk P w K mg base CX0 4 T.d_l_chosen.a T.d_l_chosen.d ["_law_tape_here", "_law_heads_here", "_law_kinds"] (spChosen K) := by
  refine T.d_l_chosen.F.ok sc_l_chosen (fun vs H Q E h => ?_) (fun cdv A outer s H vs Q E hr h => ?_)
  · obtain ⟨_, _, _, _, _, _, rfl, _⟩ := h
    rfl
  · obtain ⟨t, a, p, n, hs, ks, rfl, ht, ⟨xs, hx, dx⟩, hp, hat, hl, hq, q⟩ := h
    have hu := hr.units
    refine ⟨_, (pss_cons (ps_setLc (i := 3) (own := [("_law_head_here", 4)]) (g := gName 4) (tt := tYes) (by rfl) sc_l_chosen.nd rfl rfl (sw_true rfl rfl rfl (by decide +kernel)) (pi_list (pv 1)) (blkOk_by (own := [("_law_head_here", 4)]) (N := ["_law_tape_here", "_law_heads_here", "_law_kinds", "_law_everything", "_law_head_here", "_law_pool"]) (sc := defScope s_l_chosen) (by decide +kernel)) (fun _ _ _ _ _ => pg_name (i := 4) sc_l_chosen.nd rfl (Or.inl rfl)) (fun _ _ _ _ _ => pts_nil) (fun _ _ _ _ _ => (pe_ix ixB_tup (pv 4) pe_int (fun _ _ => rfl))))
      (pss_cons (ps_setLc (i := 5) (own := [("_law_head_here", 4)]) (g := gName 4) (by rfl) sc_l_chosen.nd rfl rfl (sw_true rfl rfl rfl (by decide +kernel)) (pi_list (pv 1)) (blkOk_by (own := [("_law_head_here", 4)]) (N := ["_law_tape_here", "_law_heads_here", "_law_kinds", "_law_everything", "_law_head_here", "_law_pool"]) (sc := defScope s_l_chosen) (by decide +kernel)) (fun _ _ _ _ _ => pg_name (i := 4) sc_l_chosen.nd rfl (Or.inl rfl)) (fun _ _ _ _ _ => pts_one (pt_cmpR opB_in (pe_ix ixB_tup (pv 4) pe_int (fun _ _ => rfl)) (pv 2) (by rfl))) (fun _ _ _ _ _ => (pe_ix ixB_tup (pv 4) pe_int (fun _ _ => rfl))))
      (Evl.pss_cut (ps_if (PW.pt (pw_or (pt_cmpR (op_eqNil hu) (pv 5) (pe_lst pa_nil) (nomark _)) (pw_or1 (pt_cmpR op_eq (pe_call (ok_l_draw T) (hr.mono (by decide)) (by rfl) T.d_l_draw.g T.d_l_draw.F.kp T.d_l_draw.b .nil pass0 (pa_cons (pv 0) (pa_cons pe_int pa_nil))) pe_int (nomark _))))) (pss_one (ps_set (i := 5) sc_l_chosen.nd rfl (Or.inl rfl) (pe_op op_cat (pv 3) (pe_lst (pa_cons (pe_call (ok_l_ident T) (hr.mono (by decide)) (by rfl) T.d_l_ident.g T.d_l_ident.F.kp T.d_l_ident.b .nil pass0 (pa_cons (pv 0) (pa_cons (pv 3) pa_nil))) pa_nil))))) pss_nil)
      (pss_one (ps_ret (pe_ix ix_list (pv 5) (pe_call (ok_l_draw T) (hr.mono (by decide)) (by rfl) T.d_l_draw.g T.d_l_draw.F.kp T.d_l_draw.b .nil pass0 (pa_cons (pv 0) (pa_cons (pe_callB call_lenL (by rfl) T.z_len (by decide +kernel) (pa_cons (pv 5) pa_nil)) pa_nil))) (fun _ _ => rfl))))))), ?_⟩
    (try simp only [tIxO, rIsB, rNotB, tSeq, tIfS, tTest, tB, tOp, tUn, tVar, tC, tAsg, gName, tRet, tRetN, tCB, tCons, tNil, tLst_eq, tTup_eq, tDNewK_eq, tNext, tPar, tM0, tM1, tSl, tNoPart, tPart, rSlS, tAug, tAugS, tExf_eq, ipI, tChain, tCall, tDrop, tBM, tAnd, tOr, tNot, tAndV, tOrV, tNotV, tIf, tIsN, tNotN, rI, rI0, rU, rEq, rNe, gSub, cx_K, cx_K2, L2.start, wipe, scal_ii, scal_ss, scal_bb, scal_is, scal_si, scal_nn, List.map_cons, List.map_nil, List.length_cons, List.length_nil, List.cons_append, List.nil_append, List.append_nil, List.replicate, List.getElem?_cons_zero, List.getElem?_cons_succ, Option.some.injEq, exists_and_left, exists_eq_left', exists_eq_left, exists_eq, exists_eq', V.int.injEq, V.ref.injEq, V.str.injEq, V.bl.injEq, List.cons.injEq, and_true, true_and, false_and, exists_false, or_false, false_or, reduceCtorEq, List.set_cons_zero, List.set_cons_succ, Nat.reduceAdd, Nat.reduceSub, Int.reduceToNat, decide_eq_true_eq, if_true, if_false, Bool.false_eq_true, Bool.not_true, Bool.not_false, Bool.true_eq_false, ite_false, ite_true, ne_eq, not_false_eq_true, Int.reduceEq])
    refine allI_go hx dx (by omega) (by simp) (fun R r => ⟨_, rfl, a, rfl, ⟨_, hx⟩, r⟩) fun U H1 n1 s1 r1 => ?_
    (try simp only [tIxO, rIsB, rNotB, tSeq, tIfS, tTest, tB, tOp, tUn, tVar, tC, tAsg, gName, tRet, tRetN, tCB, tCons, tNil, tLst_eq, tTup_eq, tDNewK_eq, tNext, tPar, tM0, tM1, tSl, tNoPart, tPart, rSlS, tAug, tAugS, tExf_eq, ipI, tChain, tCall, tDrop, tBM, tAnd, tOr, tNot, tAndV, tOrV, tNotV, tIf, tIsN, tNotN, rI, rI0, rU, rEq, rNe, gSub, cx_K, cx_K2, L2.start, wipe, scal_ii, scal_ss, scal_bb, scal_is, scal_si, scal_nn, List.map_cons, List.map_nil, List.length_cons, List.length_nil, List.cons_append, List.nil_append, List.append_nil, List.replicate, List.getElem?_cons_zero, List.getElem?_cons_succ, Option.some.injEq, exists_and_left, exists_eq_left', exists_eq_left, exists_eq, exists_eq', V.int.injEq, V.ref.injEq, V.str.injEq, V.bl.injEq, List.cons.injEq, and_true, true_and, false_and, exists_false, or_false, false_or, reduceCtorEq, List.set_cons_zero, List.set_cons_succ, Nat.reduceAdd, Nat.reduceSub, Int.reduceToNat, decide_eq_true_eq, if_true, if_false, Bool.false_eq_true, Bool.not_true, Bool.not_false, Bool.true_eq_false, ite_false, ite_true, ne_eq, not_false_eq_true, Int.reduceEq])
    have hx1 := sq_same s1 hx
    have dx1 := dpA_same s1 dx
    have hp1 := sqT_same s1 hp
    have hlx := DpAll.len dx1
    rw [List.length_map] at hlx
    refine lcGi_go (walk_list (K := K) (a := a) (xs := xs)) hs (fun h => ks.contains h.1) (fun h => V.str h.2) (fun R r => ⟨_, rfl, a, rfl, ⟨_, hx1⟩, r⟩) (fun D H' hD v => sq_same (ExT.toSame hD v) hx1) hlx (by omega) (fun i x z H' R h1 h2 s r => ?_) (fun i x z H' R h1 h2 _ s r => ?_) (fun P2 H2 n2 s2 r2 => ?_)
    · obtain ⟨x2, hx2, dp⟩ := DpAll.at dx1 (show (hs.map encH)[i]? = some (encH z) by rw [List.getElem?_map, h2]; rfl)
      rw [h1] at hx2
      cases hx2
      (try simp only [tIxO, rIsB, rNotB, tSeq, tIfS, tTest, tB, tOp, tUn, tVar, tC, tAsg, gName, tRet, tRetN, tCB, tCons, tNil, tLst_eq, tTup_eq, tDNewK_eq, tNext, tPar, tM0, tM1, tSl, tNoPart, tPart, rSlS, tAug, tAugS, tExf_eq, ipI, tChain, tCall, tDrop, tBM, tAnd, tOr, tNot, tAndV, tOrV, tNotV, tIf, tIsN, tNotN, rI, rI0, rU, rEq, rNe, gSub, cx_K, cx_K2, L2.start, wipe, scal_ii, scal_ss, scal_bb, scal_is, scal_si, scal_nn, List.map_cons, List.map_nil, List.length_cons, List.length_nil, List.cons_append, List.nil_append, List.append_nil, List.replicate, List.getElem?_cons_zero, List.getElem?_cons_succ, Option.some.injEq, exists_and_left, exists_eq_left', exists_eq_left, exists_eq, exists_eq', V.int.injEq, V.ref.injEq, V.str.injEq, V.bl.injEq, List.cons.injEq, and_true, true_and, false_and, exists_false, or_false, false_or, reduceCtorEq, List.set_cons_zero, List.set_cons_succ, Nat.reduceAdd, Nat.reduceSub, Int.reduceToNat, decide_eq_true_eq, if_true, if_false, Bool.false_eq_true, Bool.not_true, Bool.not_false, Bool.true_eq_false, ite_false, ite_true, ne_eq, not_false_eq_true, Int.reduceEq])
      refine ixD_go (j := 0) (dp_same s dp) rfl rfl fun y dy => ?_
      cases Dp.strD dy
      exact inT_go (sqT_same s hp1) ⟨_, rfl, r H' fun _ _ e => e⟩
    · obtain ⟨x2, hx2, dp⟩ := DpAll.at dx1 (show (hs.map encH)[i]? = some (encH z) by rw [List.getElem?_map, h2]; rfl)
      rw [h1] at hx2
      cases hx2
      (try simp only [tIxO, rIsB, rNotB, tSeq, tIfS, tTest, tB, tOp, tUn, tVar, tC, tAsg, gName, tRet, tRetN, tCB, tCons, tNil, tLst_eq, tTup_eq, tDNewK_eq, tNext, tPar, tM0, tM1, tSl, tNoPart, tPart, rSlS, tAug, tAugS, tExf_eq, ipI, tChain, tCall, tDrop, tBM, tAnd, tOr, tNot, tAndV, tOrV, tNotV, tIf, tIsN, tNotN, rI, rI0, rU, rEq, rNe, gSub, cx_K, cx_K2, L2.start, wipe, scal_ii, scal_ss, scal_bb, scal_is, scal_si, scal_nn, List.map_cons, List.map_nil, List.length_cons, List.length_nil, List.cons_append, List.nil_append, List.append_nil, List.replicate, List.getElem?_cons_zero, List.getElem?_cons_succ, Option.some.injEq, exists_and_left, exists_eq_left', exists_eq_left, exists_eq, exists_eq', V.int.injEq, V.ref.injEq, V.str.injEq, V.bl.injEq, List.cons.injEq, and_true, true_and, false_and, exists_false, or_false, false_or, reduceCtorEq, List.set_cons_zero, List.set_cons_succ, Nat.reduceAdd, Nat.reduceSub, Int.reduceToNat, decide_eq_true_eq, if_true, if_false, Bool.false_eq_true, Bool.not_true, Bool.not_false, Bool.true_eq_false, ite_false, ite_true, ne_eq, not_false_eq_true, Int.reduceEq])
      refine ixD_go (j := 1) (dp_same s dp) rfl rfl fun y dy => ?_
      cases Dp.strD dy
      exact r H' fun _ _ e => e
    obtain ⟨pool, hpool⟩ : ∃ pool, pool = (hs.filter fun h => ks.contains h.1).map (·.2) := ⟨_, rfl⟩
    have r2 : H2 P2 = some (.lst (pool.map V.str)) := by rw [r2, hpool, List.map_map]; rfl
    have idp : ∀ y ∈ pool, isIdent y = true := fun y hy => by
      rw [hpool] at hy
      obtain ⟨h, hh, rfl⟩ := List.mem_map.mp hy
      exact hq.ident h (List.mem_filter.mp hh).1
    have lpool : pool.length ≤ 80 := by
      rw [hpool, List.length_map]
      exact Nat.le_trans (List.length_filter_le _ _) hl
    have idu : ∀ y ∈ hs.map (·.2), isIdent y = true := fun y hy => by
      obtain ⟨h, hh, rfl⟩ := List.mem_map.mp hy
      exact hq.ident h hh
    have s02 := s1.trans s2
    have tP : P2 ≠ t := (ht.same s1).ne n2
    have tU : U ≠ t := ht.ne n1
    have r12 := s2 _ _ r1
    have T2 := ht.same s02
    refine cut_go (fun σ' H' => ∃ (p3 : Addr) (us : List Str), H' p3 = some (.lst (us.map V.str)) ∧ p3 ≠ t ∧ (∀ y ∈ us, isIdent y = true) ∧ 1 ≤ us.length ∧ us.length ≤ 90 ∧ Tape H' t (n + 1) ∧ ExT t H H' ∧ σ' = [some (.ref t), some (.ref a), some (.ref p), some (.ref U), none, some (.ref p3)]) ?_ ?_
    · have more : ∀ {H3 : Hp}, Tape H3 t (n + 25) → ExT t H2 H3 → spIdent [V.ref t, V.ref U] H3 (fun x H1 => NewL [x] H1 fun y H2 => rCat (V.ref U) y H2 fun x H1 => ∃ (p3 : Addr) (us : List Str), H1 p3 = some (HO.lst (us.map V.str)) ∧ ¬p3 = t ∧ (∀ (y : Str), y ∈ us → isIdent y = true) ∧ 1 ≤ us.length ∧ us.length ≤ 90 ∧ Tape H1 t (n + 1) ∧ ExT t H H1 ∧ x = V.ref p3) E0 := fun {H3} T3 v3 => by
        refine ⟨t, U, n + 5, hs.map (·.2), rfl, T3.mono (by omega), v3 _ _ tU r12, tU, by rw [List.length_map]; omega, fun y hy => spell_of (idu y hy), fun z H4 iz nz T4 v4 => ?_⟩
        refine newL_go fun L5 H5 n5 s5 r5 => ?_
        have rU5 := s5 _ _ (v4 _ _ tU (v3 _ _ tU r12))
        refine cat_go rU5 r5 fun p3 H6 n6 s6 r6 => ?_
        refine ⟨p3, hs.map (·.2) ++ [z], by rw [r6, List.map_append]; rfl, (T4.same s5).ne n6, fun y hy => ?_, by rw [List.length_append, List.length_singleton]; omega, by rw [List.length_append, List.length_map, List.length_singleton]; omega, ((T4.same s5).same s6).mono (by omega), ((Same.exT s02).trans (v3.trans v4)).same (s5.trans s6), rfl⟩
        rcases List.mem_append.mp hy with hy | hy
        · exact idu y hy
        · cases List.mem_singleton.mp hy
          exact iz
      (try simp only [tIxO, rIsB, rNotB, tSeq, tIfS, tTest, tB, tOp, tUn, tVar, tC, tAsg, gName, tRet, tRetN, tCB, tCons, tNil, tLst_eq, tTup_eq, tDNewK_eq, tNext, tPar, tM0, tM1, tSl, tNoPart, tPart, rSlS, tAug, tAugS, tExf_eq, ipI, tChain, tCall, tDrop, tBM, tAnd, tOr, tNot, tAndV, tOrV, tNotV, tIf, tIsN, tNotN, rI, rI0, rU, rEq, rNe, gSub, cx_K, cx_K2, L2.start, wipe, scal_ii, scal_ss, scal_bb, scal_is, scal_si, scal_nn, List.map_cons, List.map_nil, List.length_cons, List.length_nil, List.cons_append, List.nil_append, List.append_nil, List.replicate, List.getElem?_cons_zero, List.getElem?_cons_succ, Option.some.injEq, exists_and_left, exists_eq_left', exists_eq_left, exists_eq, exists_eq', V.int.injEq, V.ref.injEq, V.str.injEq, V.bl.injEq, List.cons.injEq, and_true, true_and, false_and, exists_false, or_false, false_or, reduceCtorEq, List.set_cons_zero, List.set_cons_succ, Nat.reduceAdd, Nat.reduceSub, Int.reduceToNat, decide_eq_true_eq, if_true, if_false, Bool.false_eq_true, Bool.not_true, Bool.not_false, Bool.true_eq_false, ite_false, ite_true, ne_eq, not_false_eq_true, Int.reduceEq])
      refine newL_go fun L3 H3 n3 s3 r3 => ?_
      refine ⟨P2, L3, _, rfl, rfl, .inl (.inl (s3 _ _ r2)), .inl (.inl r3), _, rfl, ?_⟩
      refine ite2 (fun _ => more ((T2.same s3).mono (by omega)) (Same.exT s3)) (fun ne => ?_)
      refine draw_go ((T2.same s3).mono (m := (n + 25) + 1) (by omega)) (by decide) (by decide) fun x1 H4 a0 a1 T4 v4 => ⟨rfl, ?_⟩
      have v24 := (Same.exT (t := t) s3).trans v4
      refine ite2 (fun _ => more T4 v24) (fun _ => ?_)
      refine ⟨P2, pool, v24 _ _ tP r2, tP, idp, ?_, by omega, T4.mono (by omega), (Same.exT s02).trans v24, rfl⟩
      cases pool with
      | nil => exact absurd rfl ne
      | cons _ _ => simp
    · rintro σ' H' ⟨p3, us, r3, t3, idus, l1, l90, T3, v3, rfl⟩
      (try simp only [tIxO, rIsB, rNotB, tSeq, tIfS, tTest, tB, tOp, tUn, tVar, tC, tAsg, gName, tRet, tRetN, tCB, tCons, tNil, tLst_eq, tTup_eq, tDNewK_eq, tNext, tPar, tM0, tM1, tSl, tNoPart, tPart, rSlS, tAug, tAugS, tExf_eq, ipI, tChain, tCall, tDrop, tBM, tAnd, tOr, tNot, tAndV, tOrV, tNotV, tIf, tIsN, tNotN, rI, rI0, rU, rEq, rNe, gSub, cx_K, cx_K2, L2.start, wipe, scal_ii, scal_ss, scal_bb, scal_is, scal_si, scal_nn, List.map_cons, List.map_nil, List.length_cons, List.length_nil, List.cons_append, List.nil_append, List.append_nil, List.replicate, List.getElem?_cons_zero, List.getElem?_cons_succ, Option.some.injEq, exists_and_left, exists_eq_left', exists_eq_left, exists_eq, exists_eq', V.int.injEq, V.ref.injEq, V.str.injEq, V.bl.injEq, List.cons.injEq, and_true, true_and, false_and, exists_false, or_false, false_or, reduceCtorEq, List.set_cons_zero, List.set_cons_succ, Nat.reduceAdd, Nat.reduceSub, Int.reduceToNat, decide_eq_true_eq, if_true, if_false, Bool.false_eq_true, Bool.not_true, Bool.not_false, Bool.true_eq_false, ite_false, ite_true, ne_eq, not_false_eq_true, Int.reduceEq])
      refine ⟨_, .inl (.inl r3), ?_⟩
      rw [List.length_map]
      refine draw_go T3 (by omega) (Nat.lt_of_le_of_lt (show _ ≤ 100 by omega) (Nat.lt_of_lt_of_le (show 100 < 2 ^ 10 by decide) (Nat.pow_le_pow_right (by decide) (by decide)))) fun x1 H4 a0 a1 T4 v4 => ?_
      obtain ⟨z, hz⟩ : ∃ z, us[x1.toNat]? = some z := ⟨_, List.getElem?_eq_getElem (by omega)⟩
      rw [show x1 = ((x1.toNat : Nat) : Int) by omega]
      refine ixM_go (v4 _ _ t3 r3) (atI_nat (j := x1.toNat) (v := V.str z) (by rw [List.getElem?_map, hz]; rfl)) ?_
      exact q z H4 (idus z (List.mem_of_getElem? hz)) T4 (v3.trans v4)

end
end Own

set_option Elab.async false
set_option linter.all false
set_option maxRecDepth 100000
set_option maxHeartbeats 4000000
namespace Own
open PySem PySem.Spec PyProof.Rows L2
section
variable {P : Program} {w : World} {K : PySem.W.Frag} {mg : Str → Option Value} {base : Heap}
def Bd : Nat → Nat
  | 0 => 1
  | d + 1 => 2 * ((d + 1) * Bd d) + 3
def Wm (d : Nat) : Nat := (d + 1) * Bd d
def Cm : Nat → Nat
  | 0 => 400
  | 1 => 3000
  | _ => 30000
def Im : Nat → Nat
  | 0 => 100
  | 1 => 400
  | _ => 3000
/-- what stands at a letter of a shape -/
def ItOk (d : Nat) (sg : Str) (x : PyData) : Prop := (sg = "w" ∧ ∃ z, x = .str z ∧ isWord z = true) ∨ (sg = "r" ∧ 0 < d ∧ ∃ rows, x = .tuple (encR rows) ∧ (∀ r ∈ rows, StW d r) ∧ rows.length ≤ 3 ∧ wR rows ≤ Wm (d - 1)) ∨ (sg = "l" ∧ ∃ c, x = encC c ∧ (∀ i ∈ c, isIdent i = true) ∧ c.length ≤ 3) ∨ (sg = "v" ∧ ∃ u, x = encW u ∧ WthW u) ∨ (sg ∈ (["n", "b", "f", "s", "g"] : List Str) ∧ ∃ z, x = .str z ∧ isIdent z = true)
def ItAll (d : Nat) : List Str → List PyData → Prop
  | [], [] => True
  | sg :: sgs, x :: xs => ItOk d sg x ∧ ItAll d sgs xs
  | _, _ => False
theorem itW {d : Nat} {x : PyData} (h : ItOk d "w" x) : ∃ z, x = .str z ∧ isWord z = true := by
  rcases h with ⟨_, h⟩ | ⟨e, _⟩ | ⟨e, _⟩ | ⟨e, _⟩ | ⟨e, _⟩
  · exact h
  · exact absurd e (by decide +kernel)
  · exact absurd e (by decide +kernel)
  · exact absurd e (by decide +kernel)
  · exact absurd e (by decide +kernel)
theorem itR {d : Nat} {x : PyData} (h : ItOk d "r" x) : 0 < d ∧ ∃ rows, x = .tuple (encR rows) ∧ (∀ r ∈ rows, StW d r) ∧ rows.length ≤ 3 ∧ wR rows ≤ Wm (d - 1) := by
  rcases h with ⟨e, _⟩ | ⟨_, h⟩ | ⟨e, _⟩ | ⟨e, _⟩ | ⟨e, _⟩
  · exact absurd e (by decide +kernel)
  · exact h
  · exact absurd e (by decide +kernel)
  · exact absurd e (by decide +kernel)
  · exact absurd e (by decide +kernel)
theorem itL {d : Nat} {x : PyData} (h : ItOk d "l" x) : ∃ c, x = encC c ∧ (∀ i ∈ c, isIdent i = true) ∧ c.length ≤ 3 := by
  rcases h with ⟨e, _⟩ | ⟨e, _⟩ | ⟨_, h⟩ | ⟨e, _⟩ | ⟨e, _⟩
  · exact absurd e (by decide +kernel)
  · exact absurd e (by decide +kernel)
  · exact h
  · exact absurd e (by decide +kernel)
  · exact absurd e (by decide +kernel)
theorem itV {d : Nat} {x : PyData} (h : ItOk d "v" x) : ∃ u, x = encW u ∧ WthW u := by
  rcases h with ⟨e, _⟩ | ⟨e, _⟩ | ⟨e, _⟩ | ⟨_, h⟩ | ⟨e, _⟩
  · exact absurd e (by decide +kernel)
  · exact absurd e (by decide +kernel)
  · exact absurd e (by decide +kernel)
  · exact h
  · exact absurd e (by decide +kernel)
theorem itI {d : Nat} {sg : Str} (hs : sg ∉ (["w", "r", "l", "v"] : List Str)) {x : PyData} (h : ItOk d sg x) : ∃ z, x = .str z ∧ isIdent z = true := by
  rcases h with ⟨rfl, _⟩ | ⟨rfl, _⟩ | ⟨rfl, _⟩ | ⟨rfl, _⟩ | ⟨_, h⟩
  · exact absurd (by decide +kernel) hs
  · exact absurd (by decide +kernel) hs
  · exact absurd (by decide +kernel) hs
  · exact absurd (by decide +kernel) hs
  · exact h
def shapesL : List (Str × List Str) := [("look", ["w", "n"]), ("keep", ["s", "f", "l"]), ("take", ["s", "l"]), ("shift", ["s", "s", "l"]), ("run", ["s"]), ("drop", ["s"]), ("call", ["f"]), ("fail", []), ("bind", ["b", "v", "r"]), ("apart", ["r"]), ("when", ["g", "r", "r"]), ("held", ["s", "r", "r"]), ("guard", ["r", "r"])]
def shapesK : List (Str × Str) := [("look", "wn"), ("keep", "sfl"), ("take", "sl"), ("shift", "ssl"), ("run", "s"), ("drop", "s"), ("call", "f"), ("fail", ""), ("bind", "bvr"), ("apart", "r"), ("when", "grr"), ("held", "srr"), ("guard", "rr")]
def signs (x : Str) : List Str := x.cps.toList.map fun c => (⟨#[c]⟩ : Str)
theorem shapes_eq : shapesK.map (fun p => (p.1, signs p.2)) = shapesL := by decide +kernel
theorem bd_pos : ∀ d, 1 ≤ Bd d
  | 0 => Nat.le_refl _
  | d + 1 => by rw [Bd]; omega
theorem it2 {d : Nat} {a b : Str} {ds : List PyData} (h : ItAll d [a, b] ds) : ∃ x y, ds = [x, y] ∧ ItOk d a x ∧ ItOk d b y := by
  match ds, h with
  | [x, y], ⟨h1, h2, _⟩ => exact ⟨x, y, rfl, h1, h2⟩
theorem it1 {d : Nat} {a : Str} {ds : List PyData} (h : ItAll d [a] ds) : ∃ x, ds = [x] ∧ ItOk d a x := by
  match ds, h with
  | [x], ⟨h1, _⟩ => exact ⟨x, rfl, h1⟩
theorem it3 {d : Nat} {a b c : Str} {ds : List PyData} (h : ItAll d [a, b, c] ds) : ∃ x y z, ds = [x, y, z] ∧ ItOk d a x ∧ ItOk d b y ∧ ItOk d c z := by
  match ds, h with
  | [x, y, z], ⟨h1, h2, h3, _⟩ => exact ⟨x, y, z, rfl, h1, h2, h3⟩
theorem blk_ok {d : Nat} {s : Stm} (o : ownW s) (h : ∀ b ∈ s.blocks, b.length ≤ 3 ∧ ∀ r ∈ b, StW d r) : StW (d + 1) s := ⟨o, fun b hb => ⟨Nat.le_trans (h b hb).1 (by decide), (h b hb).2⟩⟩
theorem cap3 {c : List Str} (h : ∀ i ∈ c, isIdent i = true) (l : c.length ≤ 3) : CapW c := ⟨h, Nat.le_trans l (by decide)⟩
theorem noI : ∀ sg ∈ (["n", "b", "f", "s", "g"] : List Str), sg ∉ (["w", "r", "l", "v"] : List Str) := by decide +kernel
theorem mk_stm {d : Nat} {wd : Str} {sg : List Str} (hm : (wd, sg) ∈ shapesL) {ds : List PyData} (h : ItAll d sg ds) : ∃ s, StW (d + 1) s ∧ PyData.tuple (.str wd :: ds) = encS s ∧ wS s ≤ Bd d := by
  have nb : ∀ {s : Stm}, s.blocks = [] → ownW s → StW (d + 1) s := fun {s} e o => blk_ok o (fun b hb => by rw [e] at hb; cases hb)
  have b1 := bd_pos d
  have I : ∀ {sg : Str} {x : PyData}, sg ∈ (["n", "b", "f", "s", "g"] : List Str) → ItOk d sg x → ∃ z, x = .str z ∧ isIdent z = true := fun hs h => itI (noI _ hs) h
  have bd1 : 0 < d → 2 * Wm (d - 1) + 3 ≤ Bd d := fun hd => by
    obtain ⟨e, rfl⟩ : ∃ e, d = e + 1 := ⟨d - 1, by omega⟩
    rw [Bd, Nat.add_sub_cancel]
    exact Nat.le_refl _
  simp only [shapesL, List.mem_cons, Prod.mk.injEq, List.not_mem_nil, or_false] at hm
  rcases hm with ⟨rfl, rfl⟩ | ⟨rfl, rfl⟩ | ⟨rfl, rfl⟩ | ⟨rfl, rfl⟩ | ⟨rfl, rfl⟩ | ⟨rfl, rfl⟩ | ⟨rfl, rfl⟩ | ⟨rfl, rfl⟩ | ⟨rfl, rfl⟩ | ⟨rfl, rfl⟩ | ⟨rfl, rfl⟩ | ⟨rfl, rfl⟩ | ⟨rfl, rfl⟩
  · obtain ⟨x, y, rfl, h1, h2⟩ := it2 h
    obtain ⟨a, rfl, ha⟩ := itW h1
    obtain ⟨b, rfl, hb⟩ := I (by decide +kernel) h2
    exact ⟨.look a b, nb rfl ⟨ha, hb⟩, rfl, b1⟩
  · obtain ⟨x, y, z, rfl, h1, h2, h3⟩ := it3 h
    obtain ⟨a, rfl, ha⟩ := I (by decide +kernel) h1
    obtain ⟨b, rfl, hb⟩ := I (by decide +kernel) h2
    obtain ⟨c, rfl, hc, lc⟩ := itL h3
    exact ⟨.keep a b c, nb rfl ⟨ha, hb, cap3 hc lc⟩, rfl, b1⟩
  · obtain ⟨x, y, rfl, h1, h2⟩ := it2 h
    obtain ⟨a, rfl, ha⟩ := I (by decide +kernel) h1
    obtain ⟨c, rfl, hc, lc⟩ := itL h2
    exact ⟨.take a c, nb rfl ⟨ha, cap3 hc lc⟩, rfl, b1⟩
  · obtain ⟨x, y, z, rfl, h1, h2, h3⟩ := it3 h
    obtain ⟨a, rfl, ha⟩ := I (by decide +kernel) h1
    obtain ⟨b, rfl, hb⟩ := I (by decide +kernel) h2
    obtain ⟨c, rfl, hc, lc⟩ := itL h3
    exact ⟨.shift a b c, nb rfl ⟨ha, hb, cap3 hc lc⟩, rfl, b1⟩
  · obtain ⟨x, rfl, h1⟩ := it1 h
    obtain ⟨a, rfl, ha⟩ := I (by decide +kernel) h1
    exact ⟨.run a, nb rfl ha, rfl, b1⟩
  · obtain ⟨x, rfl, h1⟩ := it1 h
    obtain ⟨a, rfl, ha⟩ := I (by decide +kernel) h1
    exact ⟨.drop a, nb rfl ha, rfl, b1⟩
  · obtain ⟨x, rfl, h1⟩ := it1 h
    obtain ⟨a, rfl, ha⟩ := I (by decide +kernel) h1
    exact ⟨.call a, nb rfl ha, rfl, b1⟩
  · match ds, h with
    | [], _ => exact ⟨.fail, nb rfl trivial, rfl, b1⟩
  · obtain ⟨x, y, z, rfl, h1, h2, h3⟩ := it3 h
    obtain ⟨a, rfl, ha⟩ := I (by decide +kernel) h1
    obtain ⟨u, rfl, hu⟩ := itV h2
    obtain ⟨d0, r, rfl, hr, lr, wr⟩ := itR h3
    refine ⟨.bind a u r, blk_ok ⟨ha, hu⟩ (fun b hb => by cases List.mem_singleton.mp hb; exact ⟨lr, hr⟩), rfl, ?_⟩
    have := bd1 d0
    simp only [wS]
    omega
  · obtain ⟨x, rfl, h1⟩ := it1 h
    obtain ⟨d0, r, rfl, hr, lr, wr⟩ := itR h1
    refine ⟨.apart r, blk_ok trivial (fun b hb => by cases List.mem_singleton.mp hb; exact ⟨lr, hr⟩), rfl, ?_⟩
    have := bd1 d0
    simp only [wS]
    omega
  · obtain ⟨x, y, z, rfl, h1, h2, h3⟩ := it3 h
    obtain ⟨a, rfl, ha⟩ := I (by decide +kernel) h1
    obtain ⟨d0, r, rfl, hr, lr, wr⟩ := itR h2
    obtain ⟨_, r2, rfl, hr2, lr2, wr2⟩ := itR h3
    refine ⟨.when a r r2, blk_ok ha (fun b hb => ?_), rfl, ?_⟩
    · rcases List.mem_cons.mp hb with rfl | hb
      · exact ⟨lr, hr⟩
      · cases List.mem_singleton.mp hb; exact ⟨lr2, hr2⟩
    have := bd1 d0
    have := wE_le r2
    simp only [wS]
    omega
  · obtain ⟨x, y, z, rfl, h1, h2, h3⟩ := it3 h
    obtain ⟨a, rfl, ha⟩ := I (by decide +kernel) h1
    obtain ⟨d0, r, rfl, hr, lr, wr⟩ := itR h2
    obtain ⟨_, r2, rfl, hr2, lr2, wr2⟩ := itR h3
    refine ⟨.held a r r2, blk_ok ha (fun b hb => ?_), rfl, ?_⟩
    · rcases List.mem_cons.mp hb with rfl | hb
      · exact ⟨lr, hr⟩
      · cases List.mem_singleton.mp hb; exact ⟨lr2, hr2⟩
    have := bd1 d0
    have := wE_le r2
    simp only [wS]
    omega
  · obtain ⟨x, y, rfl, h1, h2⟩ := it2 h
    obtain ⟨d0, r, rfl, hr, lr, wr⟩ := itR h1
    obtain ⟨_, r2, rfl, hr2, lr2, wr2⟩ := itR h2
    refine ⟨.guard r r2, blk_ok trivial (fun b hb => ?_), rfl, ?_⟩
    · rcases List.mem_cons.mp hb with rfl | hb
      · exact ⟨lr, hr⟩
      · cases List.mem_singleton.mp hb; exact ⟨lr2, hr2⟩
    have := bd1 d0
    have := wE_le r2
    simp only [wS]
    omega
def kinds5 (a b c d e : V) : List (Key × V) := [(Sum.inr "n", a), (Sum.inr "b", b), (Sum.inr "f", c), (Sum.inr "s", d), (Sum.inr "g", e)]
theorem merge5 (a b c d e : V) : mergeK [] (kinds5 a b c d e) = kinds5 a b c d e := by kernel_rfl
theorem val5 (a b c d e : V) : valV (kinds5 a b c d e) (Sum.inr "n") = some a ∧ valV (kinds5 a b c d e) (Sum.inr "b") = some b ∧ valV (kinds5 a b c d e) (Sum.inr "f") = some c ∧ valV (kinds5 a b c d e) (Sum.inr "s") = some d ∧ valV (kinds5 a b c d e) (Sum.inr "g") = some e := ⟨by kernel_rfl, by kernel_rfl, by kernel_rfl, by kernel_rfl, by kernel_rfl⟩
/-- {'n': ('name',), ..}[sign] -/
theorem disp5_go {σ : L2.St} {H : Hp} {sg : Str} {Q : VK} (hs : sg ∈ (["n", "b", "f", "s", "g"] : List Str)) (k : ∀ p H', Same H H' → (∃ a ks, DGet H' p (.str sg) (some (.ref a)) ∧ H' a = some (.tup (List.map V.str ks))) → Q (.ref p) H') : tDisp [(tC (V.str "n"), fun σ H Q => NewT [V.str "name"] H Q), (tC (V.str "b"), fun σ H Q => NewT [V.str "name", V.str "flag"] H Q), (tC (V.str "f"), fun σ H Q => NewT [V.str "func"] H Q), (tC (V.str "s"), fun σ H Q => NewT [V.str "slot"] H Q), (tC (V.str "g"), fun σ H Q => NewT [V.str "flag"] H Q)] σ H Q := by
  intro p np
  have s0 := same_new (o := .dK []) np
  have r0 : (upd H p (.dK [])) p = some (.dK []) := upd_same
  simp only [tPairs, tC]
  refine newT_go fun p1 H1 n1 s1 r1 => ?_
  refine newT_go fun p2 H2 n2 s2 r2 => ?_
  refine newT_go fun p3 H3 n3 s3 r3 => ?_
  refine newT_go fun p4 H4 n4 s4 r4 => ?_
  refine newT_go fun p5 H5 n5 s5 r5 => ?_
  have s15 := (((s1.trans s2).trans s3).trans s4).trans s5
  refine ⟨s15 _ _ r0, kinds5 (.ref p1) (.ref p2) (.ref p3) (.ref p4) (.ref p5), rfl, by simp [kinds5], ?_⟩
  rw [merge5]
  have ne : ∀ {b : Addr} {o : HO}, H b = some o → b ≠ p := fun e z => by rw [z, np] at e; cases e
  have nt : ∀ {b : Addr} {xs : List V}, H5 b = some (.tup xs) → b ≠ p := fun e z => by rw [z, s15 _ _ r0] at e; cases e
  refine k p _ (fun b o e => by rw [upd_ne (ne e)]; exact s15 _ _ (s0 _ _ e)) ?_
  have at_ : ∀ {z : Str} {a : Addr}, valV (kinds5 (.ref p1) (.ref p2) (.ref p3) (.ref p4) (.ref p5)) (Sum.inr z) = some (.ref a) → DGet (upd H5 p (.dK (kinds5 (.ref p1) (.ref p2) (.ref p3) (.ref p4) (.ref p5)))) p (.str z) (some (.ref a)) := fun {z a} e => by
    have g := DGet.k (k := Sum.inr z) (upd_same (H := H5) (a := p) (o := .dK (kinds5 (.ref p1) (.ref p2) (.ref p3) (.ref p4) (.ref p5))))
    rw [e] at g
    exact g
  obtain ⟨v1, v2, v3, v4, v5⟩ := val5 (.ref p1) (.ref p2) (.ref p3) (.ref p4) (.ref p5)
  have q1 := s5 _ _ (s4 _ _ (s3 _ _ (s2 _ _ r1)))
  have q2 := s5 _ _ (s4 _ _ (s3 _ _ r2))
  have q3 := s5 _ _ (s4 _ _ r3)
  have q4 := s5 _ _ r4
  simp only [List.mem_cons, List.not_mem_nil, or_false] at hs
  rcases hs with rfl | rfl | rfl | rfl | rfl
  · exact ⟨p1, ["name"], at_ v1, by rw [upd_ne (nt q1)]; exact q1⟩
  · exact ⟨p2, ["name", "flag"], at_ v2, by rw [upd_ne (nt q2)]; exact q2⟩
  · exact ⟨p3, ["func"], at_ v3, by rw [upd_ne (nt q3)]; exact q3⟩
  · exact ⟨p4, ["slot"], at_ v4, by rw [upd_ne (nt q4)]; exact q4⟩
  · exact ⟨p5, ["flag"], at_ v5, by rw [upd_ne (nt r5)]; exact r5⟩
def spRowsQ (K : PySem.W.Frag) (d : Nat) : Sp := fun vs H Q _ => ∃ (t a : Addr) (n : Nat) (hs : List (Str × Str)), vs = [.ref t, .ref a, .int (2 - (d : Int))] ∧ d ≤ 2 ∧ Tape H t (n + Cm d) ∧ Hds K H a hs ∧ a ≠ t ∧ hs.length ≤ 80 ∧ HdQ hs ∧ ∀ v rows H', (∀ r ∈ rows, StW (d + 1) r) → rows.length ≤ 3 → wR rows ≤ Wm d → Dp K H' v (.tuple (encR rows)) → Tape H' t n → ExT t H H' → Q v H'
/-- the rows below, if there are any -/
def spBelow (K : PySem.W.Frag) (d : Nat) : Sp := fun vs H Q E => 0 < d ∧ spRowsQ K (d - 1) vs H Q E
def spItemQ (K : PySem.W.Frag) (d : Nat) : Sp := fun vs H Q _ => ∃ (t a : Addr) (n : Nat) (hs : List (Str × Str)) (sg : Str), vs = [.ref t, .ref a, .str sg, .int (2 - (d : Int))] ∧ d ≤ 2 ∧ sg ∈ (["w", "r", "l", "v", "n", "b", "f", "s", "g"] : List Str) ∧ (sg = "r" → 0 < d) ∧ Tape H t (n + Im d) ∧ Hds K H a hs ∧ a ≠ t ∧ hs.length ≤ 80 ∧ HdQ hs ∧ ∀ v x H', ItOk d sg x → Pl x = true → Dp K H' v x → Tape H' t n → ExT t H H' → Q v H'
theorem item_of (T : Txt K mg w) {d : Nat} (ih : FnOk P w K mg base CX0 (2 * d + 5) T.d_l_rows.a T.d_l_rows.d ["_law_tape_here", "_law_heads_here", "_law_level"] (spBelow K d)) : FnOk P w K mg base CX0 (2 * d + 6) T.d_l_item.a T.d_l_item.d ["_law_tape_here", "_law_heads_here", "_law_shape", "_law_level"] (spItemQ K d) := by
  refine T.d_l_item.F.ok sc_l_item (fun vs H Q E h => ?_) (fun cdv A outer s H vs Q E hr h => ?_)
  · obtain ⟨_, _, _, _, _, rfl, _⟩ := h
    rfl
  · obtain ⟨t, a, n, hs, sg, rfl, d2, hsg, hsr, ht, hd, hat, hl, hq, q⟩ := h
    have hu := hr.units
    refine ⟨_, (pss_cons (ps_if (pt_cmpR op_eq (pv 2) pe_str (nomark _)) (pss_one (ps_ret (pe_call (ok_l_word T) (hr.mono (by omega)) (by rfl) T.d_l_word.g T.d_l_word.F.kp T.d_l_word.b .nil pass0 (pa_cons (pv 0) pa_nil)))) pss_nil)
      (pss_cons (ps_if (pt_cmpR op_eq (pv 2) pe_str (nomark _)) (pss_one (ps_ret (pe_call ih (hr.mono (by omega)) (by rfl) T.d_l_rows.g T.d_l_rows.F.kp T.d_l_rows.b .nil pass0 (pa_cons (pv 0) (pa_cons (pv 1) (pa_cons (pe_op op_add (pv 3) pe_int) pa_nil)))))) pss_nil)
      (pss_cons (ps_if (pt_cmpR op_eq (pv 2) pe_str (nomark _)) (pss_one (ps_ret (pe_callTy call_tuple_of (by rfl) T.z_tuple (by decide +kernel) (pa_cons (pe_lc (own := [("_law_step", 4)]) (g := gName 4) (tt := tYes) (by rfl) sc_l_item.nd (pi_range1 (by rfl) T.z_range (pa_cons (pe_call (ok_l_draw T) (hr.mono (by omega)) (by rfl) T.d_l_draw.g T.d_l_draw.F.kp T.d_l_draw.b .nil pass0 (pa_cons (pv 0) (pa_cons pe_int pa_nil))) pa_nil)) (blkOk_by (own := [("_law_step", 4)]) (N := ["_law_tape_here", "_law_heads_here", "_law_shape", "_law_level", "_law_step", "_law_kinds"]) (sc := defScope s_l_item) (by decide +kernel)) (fun _ _ _ _ _ => pg_name (i := 4) sc_l_item.nd rfl (Or.inl rfl)) (fun _ _ _ _ _ => pts_nil) (fun _ _ _ _ _ => (pe_call (ok_l_chosen T) (hr.mono (by omega)) (by rfl) T.d_l_chosen.g T.d_l_chosen.F.kp T.d_l_chosen.b .nil pass0 (pa_cons (pv 0) (pa_cons (pv 1) (pa_cons (pe_tup (pa_cons pe_str (pa_cons pe_str pa_nil))) pa_nil)))))) pa_nil)))) pss_nil)
      (pss_cons (ps_if (PW.pt (pw_and (pt_cmpR op_eq (pv 2) pe_str (nomark _)) (pw_and1 (pt_cmpR op_eq (pe_call (ok_l_draw T) (hr.mono (by omega)) (by rfl) T.d_l_draw.g T.d_l_draw.F.kp T.d_l_draw.b .nil pass0 (pa_cons (pv 0) (pa_cons pe_int pa_nil))) pe_int (nomark _))))) (pss_one (ps_ret (pe_tup (pa_cons pe_str (pa_cons (pe_ix ix_list (pe_lst (pa_cons pe_str (pa_cons pe_str (pa_cons (pe_call (ok_l_word T) (hr.mono (by omega)) (by rfl) T.d_l_word.g T.d_l_word.F.kp T.d_l_word.b .nil pass0 (pa_cons (pv 0) pa_nil)) pa_nil)))) (pe_call (ok_l_draw T) (hr.mono (by omega)) (by rfl) T.d_l_draw.g T.d_l_draw.F.kp T.d_l_draw.b .nil pass0 (pa_cons (pv 0) (pa_cons pe_int pa_nil))) (fun _ _ => rfl)) pa_nil))))) pss_nil)
      (pss_cons (ps_if (pt_cmpR op_eq (pv 2) pe_str (nomark _)) (pss_one (ps_ret (pe_tup (pa_cons pe_str (pa_cons (pe_call (ok_l_chosen T) (hr.mono (by omega)) (by rfl) T.d_l_chosen.g T.d_l_chosen.F.kp T.d_l_chosen.b .nil pass0 (pa_cons (pv 0) (pa_cons (pv 1) (pa_cons (pe_tup (pa_cons pe_str (pa_cons pe_str pa_nil))) pa_nil)))) pa_nil))))) pss_nil)
      (pss_cons (ps_set (i := 5) sc_l_item.nd rfl (Or.inl rfl) (pe_disp (pps_cons pe_str (pe_tup (pa_cons pe_str pa_nil)) (pps_cons pe_str (pe_tup (pa_cons pe_str (pa_cons pe_str pa_nil))) (pps_cons pe_str (pe_tup (pa_cons pe_str pa_nil)) (pps_cons pe_str (pe_tup (pa_cons pe_str pa_nil)) (pps_cons pe_str (pe_tup (pa_cons pe_str pa_nil)) pps_nil))))) (by rfl) (by rfl) (fun z => by cases z) (by decide)))
      (pss_one (ps_ret (pe_call (ok_l_chosen T) (hr.mono (by omega)) (by rfl) T.d_l_chosen.g T.d_l_chosen.F.kp T.d_l_chosen.b .nil pass0 (pa_cons (pv 0) (pa_cons (pv 1) (pa_cons (pe_dget (hu_of hr) (pv 5) (pv 2) (fun _ _ => rfl)) pa_nil)))))))))))), ?_⟩
    (try simp only [tIxO, rIsB, rNotB, tSeq, tIfS, tTest, tB, tOp, tUn, tVar, tC, tAsg, gName, tRet, tRetN, tCB, tCons, tNil, tLst_eq, tTup_eq, tDNewK_eq, tNext, tPar, tM0, tM1, tSl, tNoPart, tPart, rSlS, tAug, tAugS, tExf_eq, ipI, tChain, tCall, tDrop, tBM, tAnd, tOr, tNot, tAndV, tOrV, tNotV, tIf, tIsN, tNotN, rI, rI0, rU, rEq, rNe, gSub, cx_K, cx_K2, L2.start, wipe, scal_ii, scal_ss, scal_bb, scal_is, scal_si, scal_nn, List.map_cons, List.map_nil, List.length_cons, List.length_nil, List.cons_append, List.nil_append, List.append_nil, List.replicate, List.getElem?_cons_zero, List.getElem?_cons_succ, Option.some.injEq, exists_and_left, exists_eq_left', exists_eq_left, exists_eq, exists_eq', V.int.injEq, V.ref.injEq, V.str.injEq, V.bl.injEq, List.cons.injEq, and_true, true_and, false_and, exists_false, or_false, false_or, reduceCtorEq, List.set_cons_zero, List.set_cons_succ, Nat.reduceAdd, Nat.reduceSub, Int.reduceToNat, decide_eq_true_eq, if_true, if_false, Bool.false_eq_true, Bool.not_true, Bool.not_false, Bool.true_eq_false, ite_false, ite_true, ne_eq, not_false_eq_true, Int.reduceEq])
    have im : 100 ≤ Im d := by
      match d with
      | 0 => exact Nat.le_refl _
      | 1 => exact (by decide : 100 ≤ 400)
      | d + 2 => exact (by decide : 100 ≤ 3000)
    have T100 : Tape H t (n + 100) := ht.mono (by omega)
    have hx0 := hd
    obtain ⟨xs, hx, dx⟩ := hd
    have no : ∀ {z : Str}, sg = z → z ∉ (["w", "r", "l", "v"] : List Str) → sg ∉ (["w", "r", "l", "v"] : List Str) := fun e h => by rw [e]; exact h
    refine ite2 (fun e => ?_) (fun e1 => ?_)
    · subst e
      refine ⟨t, n + 80, rfl, T100, fun x H' wx T' v' => ?_⟩
      exact q _ (.str x) H' (.inl ⟨rfl, x, rfl, wx⟩) rfl (.str _) (T'.mono (by omega)) v'
    refine ite2 (fun e => ?_) (fun e2 => ?_)
    · have d0 := hsr e
      subst e
      have ed : (2 : Int) - (d : Int) + 1 = 2 - ((d - 1 : Nat) : Int) := by omega
      rw [ed]
      have ei : Im d = Cm (d - 1) := by
        match d with
        | 0 => omega
        | 1 => rfl
        | 2 => rfl
        | d + 3 => omega
      refine ⟨d0, t, a, n, hs, rfl, by omega, ei ▸ ht, hx0, hat, hl, hq, fun v rows H' hr lr wr dv T' v' => ?_⟩
      rw [show d - 1 + 1 = d by omega] at hr
      exact q v _ H' (.inr (.inl ⟨rfl, d0, rows, rfl, hr, lr, wr⟩)) (by simp only [Pl, pl_r]) dv T' v'
    refine ite2 (fun e => ?_) (fun e3 => ?_)
    · subst e
      refine lcRI_go (Cond := fun k H3 => k ≤ 3 ∧ Tape H3 t (n + 99) ∧ ExT t H H3) (fun k D i acc H' => ∃ c : List Str, acc = c.map V.str ∧ (∀ y ∈ c, isIdent y = true) ∧ c.length = i ∧ k ≤ 3 ∧ Tape H' t (n + 99 - 33 * i) ∧ ExT t H H' ∧ H D = none) (fun R r => ?_) (fun k H1 z => by omega) (fun k H1 D H' z nD s rD => ⟨[], rfl, (fun y hy => by cases hy), rfl, z.1, z.2.1.same s, z.2.2.same s, ?_⟩) (fun k D i acc H' hi hk rD la p => ?_) (fun k D H' acc rD la p => ?_)
      · (try simp only [tIxO, rIsB, rNotB, tSeq, tIfS, tTest, tB, tOp, tUn, tVar, tC, tAsg, gName, tRet, tRetN, tCB, tCons, tNil, tLst_eq, tTup_eq, tDNewK_eq, tNext, tPar, tM0, tM1, tSl, tNoPart, tPart, rSlS, tAug, tAugS, tExf_eq, ipI, tChain, tCall, tDrop, tBM, tAnd, tOr, tNot, tAndV, tOrV, tNotV, tIf, tIsN, tNotN, rI, rI0, rU, rEq, rNe, gSub, cx_K, cx_K2, L2.start, wipe, scal_ii, scal_ss, scal_bb, scal_is, scal_si, scal_nn, List.map_cons, List.map_nil, List.length_cons, List.length_nil, List.cons_append, List.nil_append, List.append_nil, List.replicate, List.getElem?_cons_zero, List.getElem?_cons_succ, Option.some.injEq, exists_and_left, exists_eq_left', exists_eq_left, exists_eq, exists_eq', V.int.injEq, V.ref.injEq, V.str.injEq, V.bl.injEq, List.cons.injEq, and_true, true_and, false_and, exists_false, or_false, false_or, reduceCtorEq, List.set_cons_zero, List.set_cons_succ, Nat.reduceAdd, Nat.reduceSub, Int.reduceToNat, decide_eq_true_eq, if_true, if_false, Bool.false_eq_true, Bool.not_true, Bool.not_false, Bool.true_eq_false, ite_false, ite_true, ne_eq, not_false_eq_true, Int.reduceEq])
        refine draw_go (T100.mono (m := (n + 99) + 1) (by omega)) (by decide) (by decide) fun x1 H3 a0 a1 T3 v3 => ?_
        rw [show x1 = ((x1.toNat : Nat) : Int) by omega]
        exact r _ H3 ⟨by omega, T3, v3⟩
      · cases h : H D with
        | none => rfl
        | some o =>
          by_cases e : D = t
          · obtain ⟨_, _, _, _, e2, _⟩ := z.2.1
            rw [e, e2] at nD
            cases nD
          · rw [z.2.2 _ _ e h] at nD
            cases nD
      · obtain ⟨c, rfl, ic, lc, k3, T3, v3, nD⟩ := p
        have tD : D ≠ t := ht.ne nD
        (try simp only [tIxO, rIsB, rNotB, tSeq, tIfS, tTest, tB, tOp, tUn, tVar, tC, tAsg, gName, tRet, tRetN, tCB, tCons, tNil, tLst_eq, tTup_eq, tDNewK_eq, tNext, tPar, tM0, tM1, tSl, tNoPart, tPart, rSlS, tAug, tAugS, tExf_eq, ipI, tChain, tCall, tDrop, tBM, tAnd, tOr, tNot, tAndV, tOrV, tNotV, tIf, tIsN, tNotN, rI, rI0, rU, rEq, rNe, gSub, cx_K, cx_K2, L2.start, wipe, scal_ii, scal_ss, scal_bb, scal_is, scal_si, scal_nn, List.map_cons, List.map_nil, List.length_cons, List.length_nil, List.cons_append, List.nil_append, List.append_nil, List.replicate, List.getElem?_cons_zero, List.getElem?_cons_succ, Option.some.injEq, exists_and_left, exists_eq_left', exists_eq_left, exists_eq, exists_eq', V.int.injEq, V.ref.injEq, V.str.injEq, V.bl.injEq, List.cons.injEq, and_true, true_and, false_and, exists_false, or_false, false_or, reduceCtorEq, List.set_cons_zero, List.set_cons_succ, Nat.reduceAdd, Nat.reduceSub, Int.reduceToNat, decide_eq_true_eq, if_true, if_false, Bool.false_eq_true, Bool.not_true, Bool.not_false, Bool.true_eq_false, ite_false, ite_true, ne_eq, not_false_eq_true, Int.reduceEq])
        refine newT_go fun p4 H4 n4 s4 r4 => ?_
        refine ⟨t, a, p4, n + 99 - 33 * (i + 1), hs, ["name", "flag"], rfl, (T3.same s4).mono (by omega), Hds.ext hat ht (v3.same s4) hx0, .inl (.inl r4), hat, hl, hq, fun z H5 iz T5 v5 => ?_⟩
        have rD5 := v5 _ _ tD (s4 _ _ rD)
        refine ⟨_, rD5, Nat.lt_of_le_of_lt (show _ ≤ 1000 by rw [List.length_map] at la ⊢; omega) (by decide), _, upd_same, by rw [List.length_append, List.length_singleton]; omega, c ++ [z], by rw [List.map_append]; rfl, fun y hy => ?_, by rw [List.length_append, List.length_singleton, lc], k3, tape_upd tD T5, fun b u ne e => by rw [upd_ne (fun z => by rw [z, nD] at e; cases e)]; exact v5 _ _ ne (s4 _ _ (v3 b u ne e)), nD⟩
        rcases List.mem_append.mp hy with hy | hy
        · exact ic y hy
        · cases List.mem_singleton.mp hy
          exact iz
      · obtain ⟨c, rfl, ic, lc, k3, T3, v3, nD⟩ := p
        refine ⟨D, rfl, _, .inl ⟨.inl (.inl rD), fun l nl => ?_⟩⟩
        have s4 := same_new (o := .tup (c.map V.str)) nl
        exact q _ (encC c) _ (.inr (.inr (.inl ⟨rfl, c, rfl, ic, by omega⟩))) (pl_c c) (.tup (.inl (.inl upd_same)) (dp_strs2 _)) ((T3.same s4).mono (by omega)) (v3.same s4)
    have cho : ∀ {H3 : Hp} {p : Addr} {ks : List Str}, Tape H3 t (n + 40) → ExT t H H3 → SqT K H3 p (ks.map V.str) → ∀ {R : VK}, (∀ z H', isIdent z = true → Tape H' t n → ExT t H H' → R (.str z) H') → spChosen K [V.ref t, V.ref a, .ref p] H3 R E0 := fun {H3 p ks} T3 v3 hp {R} r =>
      ⟨t, a, p, n, hs, ks, rfl, T3.mono (by omega), Hds.ext hat ht v3 hx0, hp, hat, hl, hq, fun z H' iz T' v' => r z H' iz T' (v3.trans v')⟩
    have five : ∀ {H3 : Hp} {σ : L2.St}, Tape H3 t (n + 40) → ExT t H H3 → sg ∈ (["n", "b", "f", "s", "g"] : List Str) → tDisp [(tC (V.str "n"), fun σ H Q => NewT [V.str "name"] H Q), (tC (V.str "b"), fun σ H Q => NewT [V.str "name", V.str "flag"] H Q), (tC (V.str "f"), fun σ H Q => NewT [V.str "func"] H Q), (tC (V.str "s"), fun σ H Q => NewT [V.str "slot"] H Q), (tC (V.str "g"), fun σ H Q => NewT [V.str "flag"] H Q)] σ H3 (fun x H1 => tDGet (tVar 5) (tVar 2) [some (V.ref t), some (V.ref a), some (V.str sg), some (V.int (2 - (d : Int))), none, some x] H1 fun x H1 => spChosen K [V.ref t, V.ref a, x] H1 Q E0) := fun {H3 σ} T3 v3 h5 => by
      refine disp5_go h5 fun p H4 s4 hb => ?_
      obtain ⟨b, ks, g, rb⟩ := hb
      refine ⟨_, rfl, _, rfl, p, _, rfl, g, ?_⟩
      exact cho (T3.same s4) (v3.same s4) (.inl (.inl rb)) fun z H' iz T' v' => q _ (.str z) H' (.inr (.inr (.inr (.inr ⟨h5, z, rfl, iz⟩)))) rfl (.str _) T' v'
    have v5 : sg ≠ "v" → sg ∈ (["n", "b", "f", "s", "g"] : List Str) := fun e4 => by
      simp only [List.mem_cons, List.not_mem_nil, or_false] at hsg ⊢
      rcases hsg with h | h | h | h | h
      · exact absurd h e1
      · exact absurd h e2
      · exact absurd h e3
      · exact absurd h e4
      · exact h
    have ofv : ∀ {H3 : Hp}, sg = "v" → Tape H3 t (n + 40) → ExT t H H3 → NewT [V.str "name", V.str "flag"] H3 fun x H1 => spChosen K [V.ref t, V.ref a, x] H1 (fun x H1 => NewT [V.str "of", x] H1 Q) E0 := fun {H3} e T3 v3 => by
      refine newT_go fun p4 H4 n4 s4 r4 => ?_
      refine cho (ks := ["name", "flag"]) (T3.same s4) (v3.same s4) (.inl (.inl r4)) fun z H5 iz T5 v5 => ?_
      refine newTD_go (K := K) (ds := [.str "of", .str z]) (.cons (.str _) (.cons (.str _) .nil)) rfl (by simp) fun p6 H6 n6 s6 d6 => ?_
      exact q _ (encW (.of z)) H6 (.inr (.inr (.inr (.inl ⟨e, .of z, rfl, iz⟩)))) rfl d6 (T5.same s6) (v5.same s6)
    refine ite2 (fun e => ?_) (fun e4 => ?_)
    · refine draw_go (T100.mono (m := (n + 60) + 1) (by omega)) (by decide) (by decide) fun x1 H3 a0 a1 T3 v3 => ⟨rfl, ?_⟩
      refine ite2 (fun _ => ?_) (fun _ => ?_)
      · refine ⟨t, n + 40, rfl, T3, fun x H4 wx T4 v4 => ?_⟩
        refine newL_go fun L5 H5 n5 s5 r5 => ?_
        have L5t : L5 ≠ t := T4.ne n5
        refine draw_go ((T4.same s5).mono (m := (n + 30) + 1) (by omega)) (by decide) (by decide) fun x2 H6 b0 b1 T6 v6 => ?_
        have on3 : ∃ z, isWord z = true ∧ ([V.str "on", V.str "off", V.str x] : List V)[x2.toNat]? = some (V.str z) := by
          obtain ⟨j, rfl⟩ := Int.eq_ofNat_of_zero_le b0
          match j with
          | 0 => exact ⟨"on", by decide +kernel, rfl⟩
          | 1 => exact ⟨"off", by decide +kernel, rfl⟩
          | 2 => exact ⟨x, wx, rfl⟩
          | j + 3 => omega
        obtain ⟨z, wz, hz⟩ := on3
        rw [show x2 = ((x2.toNat : Nat) : Int) by omega]
        refine ixM_go (v6 _ _ L5t r5) (atI_nat hz) ?_
        refine newTD_go (K := K) (ds := [.str "word", .str z]) (.cons (.str _) (.cons (.str _) .nil)) rfl (by simp) fun p7 H7 n7 s7 d7 => ?_
        exact q _ (encW (.word z)) H7 (.inr (.inr (.inr (.inl ⟨e, .word z, rfl, wz⟩)))) rfl d7 ((T6.same s7).mono (by omega)) ((((v3.trans v4).same s5).trans v6).same s7)
      · refine ite2 (fun _ => ofv e (T3.mono (by omega)) v3) (fun z => absurd e z)
    · exact ite2 (fun z => absurd z e4) (fun _ => five (T100.mono (by omega)) (.refl _ _) (v5 e4))

end
end Own

set_option Elab.async false
set_option linter.all false
set_option maxRecDepth 100000
set_option maxHeartbeats 4000000
namespace Own
open PySem PySem.Spec PyProof.Rows L2
section
variable {P : Program} {w : World} {K : PySem.W.Frag} {mg : Str → Option Value} {base : Heap}
theorem encR_app : ∀ (r1 r2 : List Stm), encR (r1 ++ r2) = encR r1 ++ encR r2
  | [], _ => rfl
  | x :: r1, r2 => by
    rw [List.cons_append, encR, encR, encR_app r1 r2, List.cons_append]
theorem wR_app : ∀ (r1 r2 : List Stm), wR (r1 ++ r2) = wR r1 + wR r2
  | [], r2 => by rw [List.nil_append, wR, Nat.zero_add]
  | x :: r1, r2 => by
    rw [List.cons_append, wR, wR, wR_app r1 r2, Nat.add_assoc]
theorem encR_len : ∀ r : List Stm, (encR r).length = r.length
  | [] => rfl
  | _ :: r => by rw [encR, List.length_cons, List.length_cons, encR_len r]
def nine : List Str := ["w", "r", "l", "v", "n", "b", "f", "s", "g"]
theorem shapes_nine : ∀ p ∈ shapesL, (∀ s ∈ p.2, s ∈ nine) ∧ p.2.length ≤ 3 := by decide +kernel
theorem shapes_low : ∀ p ∈ shapesL.take 8, ∀ s ∈ p.2, s ≠ "r" := by decide +kernel
theorem itAll_snoc {d : Nat} {sg : Str} {x : PyData} (h : ItOk d sg x) : ∀ {sgs : List Str} {ds : List PyData}, ItAll d sgs ds → ItAll d (sgs ++ [sg]) (ds ++ [x])
  | [], [], _ => ⟨h, trivial⟩
  | s :: sgs, y :: ds, ⟨h1, h2⟩ => ⟨h1, itAll_snoc h h2⟩
theorem itAll_len {d : Nat} : ∀ {sgs : List Str} {ds : List PyData}, ItAll d sgs ds → ds.length = sgs.length
  | [], [], _ => rfl
  | s :: sgs, y :: ds, ⟨_, h2⟩ => by rw [List.length_cons, List.length_cons, itAll_len h2]
def Jm (d : Nat) : Nat := 1 + 3 * Im d
theorem cm_enough {d : Nat} (h : d ≤ 2) : 1 + Jm d * (d + 1) ≤ Cm d := by
  match d with
  | 0 => exact (by decide : 1 + 301 * 1 ≤ 400)
  | 1 => exact (by decide : 1 + 1201 * 2 ≤ 3000)
  | 2 => exact (by decide : 1 + 9001 * 3 ≤ 30000)
  | d + 3 => omega
theorem shs_at {x : Str} {i c : Nat} (h : x.cps[i]? = some c) : (signs x)[i]? = some (⟨#[c]⟩ : Str) := by
  unfold signs
  rw [List.getElem?_map, Array.getElem?_toList, h]
  rfl
theorem shs_len (x : Str) : (signs x).length = x.cps.size := by
  unfold signs
  rw [List.length_map, Array.length_toList]
theorem rowsq_of (T : Txt K mg w) {d : Nat} (ih : FnOk P w K mg base CX0 (2 * d + 6) T.d_l_item.a T.d_l_item.d ["_law_tape_here", "_law_heads_here", "_law_shape", "_law_level"] (spItemQ K d)) : FnOk P w K mg base CX0 (2 * d + 7) T.d_l_rows.a T.d_l_rows.d ["_law_tape_here", "_law_heads_here", "_law_level"] (spRowsQ K d) := by
  refine T.d_l_rows.F.ok sc_l_rows (fun vs H Q E h => ?_) (fun cdv A outer s H vs Q E hr h => ?_)
  · obtain ⟨_, _, _, _, rfl, _⟩ := h
    rfl
  · obtain ⟨t, a, n, hs, rfl, d2, ht, hd, hat, hl, hq, q⟩ := h
    have hu := hr.units
    refine ⟨_, (pss_cons (ps_set (i := 3) sc_l_rows.nd rfl (Or.inl rfl) (pe_lst (pa_cons (pe_tup (pa_cons pe_str (pa_cons pe_str pa_nil))) (pa_cons (pe_tup (pa_cons pe_str (pa_cons pe_str pa_nil))) (pa_cons (pe_tup (pa_cons pe_str (pa_cons pe_str pa_nil))) (pa_cons (pe_tup (pa_cons pe_str (pa_cons pe_str pa_nil))) (pa_cons (pe_tup (pa_cons pe_str (pa_cons pe_str pa_nil))) (pa_cons (pe_tup (pa_cons pe_str (pa_cons pe_str pa_nil))) pa_nil))))))))
      (pss_cons (ps_set (i := 3) sc_l_rows.nd rfl (Or.inl rfl) (pe_op op_cat (pv 3) (pe_lst (pa_cons (pe_tup (pa_cons pe_str (pa_cons pe_str pa_nil))) (pa_cons (pe_tup (pa_cons pe_str (pa_cons pe_str pa_nil))) (pa_cons (pe_tup (pa_cons pe_str (pa_cons pe_str pa_nil))) (pa_cons (pe_tup (pa_cons pe_str (pa_cons pe_str pa_nil))) (pa_cons (pe_tup (pa_cons pe_str (pa_cons pe_str pa_nil))) pa_nil))))))))
      (pss_cons (ps_set (i := 3) sc_l_rows.nd rfl (Or.inl rfl) (pe_op op_cat (pv 3) (pe_lst (pa_cons (pe_tup (pa_cons pe_str (pa_cons pe_str pa_nil))) (pa_cons (pe_tup (pa_cons pe_str (pa_cons pe_str pa_nil))) pa_nil)))))
      (pss_cons (ps_set (i := 4) sc_l_rows.nd rfl (Or.inl rfl) (pe_lst pa_nil))
      (pss_cons (ps_for PassesOwn.never rfl (pi_range1 (by rfl) T.z_range (pa_cons (pe_call (ok_l_draw T) (hr.mono (by omega)) (by rfl) T.d_l_draw.g T.d_l_draw.F.kp T.d_l_draw.b .nil pass0 (pa_cons (pv 0) (pa_cons (pe_op op_sub pe_int (pv 2)) pa_nil))) pa_nil)) (pg_name (i := 5) sc_l_rows.nd rfl (Or.inl rfl)) (pss_cons (ps_asg (pe_ix ix_list (pv 3) (pe_call (ok_l_draw T) (hr.mono (by omega)) (by rfl) T.d_l_draw.g T.d_l_draw.F.kp T.d_l_draw.b .nil pass0 (pa_cons (pv 0) (pa_cons (pe_op op_add pe_int (pe_op op_mul pe_int (pe_callTy call_intB (by rfl) T.z_int (by decide +kernel) (pa_cons (pe_cmpR op_lt (pv 2) pe_int (nomark _)) pa_nil)))) pa_nil))) (fun _ _ => rfl)) (pg_tup (by rfl) (pgs_cons (pg_name (i := 6) sc_l_rows.nd rfl (Or.inl rfl)) (pgs_cons (pg_name (i := 7) sc_l_rows.nd rfl (Or.inl rfl)) pgs_nil))))
      (pss_one (ps_expr (pe_bm PySem.F.plainAttrs_list PySem.F.slot_list_append PySem.F.type_list_append mt_append (pv 4) (pa_cons (pe_op op_catT (pe_tup (pa_cons (pv 6) pa_nil)) (pe_callTy call_tuple_of (by rfl) T.z_tuple (by decide +kernel) (pa_cons (pe_lc (own := [("_law_sign", 8)]) (g := gName 8) (tt := tYes) (by rfl) sc_l_rows.nd (pi_str (pv 7)) (blkOk_by (own := [("_law_sign", 8)]) (N := ["_law_tape_here", "_law_heads_here", "_law_level", "_law_shapes", "_law_rows_here", "_law_step", "_law_word_here", "_law_shape", "_law_sign"]) (sc := defScope s_l_rows) (by decide +kernel)) (fun _ _ _ _ _ => pg_name (i := 8) sc_l_rows.nd rfl (Or.inl rfl)) (fun _ _ _ _ _ => pts_nil) (fun _ _ _ _ _ => (pe_call ih (hr.mono (by omega)) (by rfl) T.d_l_item.g T.d_l_item.F.kp T.d_l_item.b .nil pass0 (pa_cons (pv 0) (pa_cons (pv 1) (pa_cons (pv 8) (pa_cons (pv 2) pa_nil))))))) pa_nil))) pa_nil))))))
      (pss_one (ps_ret (pe_callTy call_tuple_of (by rfl) T.z_tuple (by decide +kernel) (pa_cons (pv 4) pa_nil))))))))), ?_⟩
    (try simp only [tIxO, rIsB, rNotB, tSeq, tIfS, tTest, tB, tOp, tUn, tVar, tC, tAsg, gName, tRet, tRetN, tCB, tCons, tNil, tLst_eq, tTup_eq, tDNewK_eq, tNext, tPar, tM0, tM1, tSl, tNoPart, tPart, rSlS, tAug, tAugS, tExf_eq, ipI, tChain, tCall, tDrop, tBM, tAnd, tOr, tNot, tAndV, tOrV, tNotV, tIf, tIsN, tNotN, rI, rI0, rU, rEq, rNe, gSub, cx_K, cx_K2, L2.start, wipe, scal_ii, scal_ss, scal_bb, scal_is, scal_si, scal_nn, List.map_cons, List.map_nil, List.length_cons, List.length_nil, List.cons_append, List.nil_append, List.append_nil, List.replicate, List.getElem?_cons_zero, List.getElem?_cons_succ, Option.some.injEq, exists_and_left, exists_eq_left', exists_eq_left, exists_eq, exists_eq', V.int.injEq, V.ref.injEq, V.str.injEq, V.bl.injEq, List.cons.injEq, and_true, true_and, false_and, exists_false, or_false, false_or, reduceCtorEq, List.set_cons_zero, List.set_cons_succ, Nat.reduceAdd, Nat.reduceSub, Int.reduceToNat, decide_eq_true_eq, if_true, if_false, Bool.false_eq_true, Bool.not_true, Bool.not_false, Bool.true_eq_false, ite_false, ite_true, ne_eq, not_false_eq_true, Int.reduceEq])
    have one : ∀ (a b : Str), PlAll [PyData.str a, PyData.str b] = true := fun _ _ => rfl
    have two : ∀ {H : Hp} (a b : Str), DpAll K H [V.str a, V.str b] [PyData.str a, PyData.str b] := fun a b => .cons (.str _) (.cons (.str _) .nil)
    refine newTD_go (two "look" "wn") rfl (by simp) fun q0 G0 m0 g0 e0 => ?_
    refine newTD_go (two "keep" "sfl") rfl (by simp) fun q1 G1 m1 g1 e1 => ?_
    refine newTD_go (two "take" "sl") rfl (by simp) fun q2 G2 m2 g2 e2 => ?_
    refine newTD_go (two "shift" "ssl") rfl (by simp) fun q3 G3 m3 g3 e3 => ?_
    refine newTD_go (two "run" "s") rfl (by simp) fun q4 G4 m4 g4 e4 => ?_
    refine newTD_go (two "drop" "s") rfl (by simp) fun q5 G5 m5 g5 e5 => ?_
    refine newL_go fun S1 G6 m6 g6 z6 => ?_
    refine newTD_go (two "call" "f") rfl (by simp) fun q6 G7 m7 g7 e6 => ?_
    refine newTD_go (two "fail" "") rfl (by simp) fun q7 G8 m8 g8 e7 => ?_
    refine newTD_go (two "bind" "bvr") rfl (by simp) fun q8 G9 m9 g9 e8 => ?_
    refine newTD_go (two "apart" "r") rfl (by simp) fun q9 GA mA gA e9 => ?_
    refine newTD_go (two "when" "grr") rfl (by simp) fun qA GB mB gB eA => ?_
    refine newL_go fun S2 GC mC gC zC => ?_
    have g6C := ((((g7.trans g8).trans g9).trans gA).trans gB).trans gC
    refine cat_go (g6C _ _ z6) zC fun S3 GD mD gD zD => ?_
    refine newTD_go (two "held" "srr") rfl (by simp) fun qB GE mE gE eB => ?_
    refine newTD_go (two "guard" "rr") rfl (by simp) fun qC GF mF gF eC => ?_
    refine newL_go fun S4 GG mG gG zG => ?_
    have gDG := (gE.trans gF).trans gG
    refine cat_go (gDG _ _ zD) zG fun S GH mH gH zS => ?_
    have aC : Same GC GH := (gD.trans gDG).trans gH
    have a6 : Same G6 GH := g6C.trans aC
    have aB : Same GB GH := gC.trans aC
    have aF : Same GF GH := gG.trans gH
    have dS : DpAll K GH [V.ref q0, V.ref q1, V.ref q2, V.ref q3, V.ref q4, V.ref q5, V.ref q6, V.ref q7, V.ref q8, V.ref q9, V.ref qA, V.ref qB, V.ref qC] (shapesK.map encH) :=
      .cons (dp_same (((((g1.trans g2).trans g3).trans g4).trans g5).trans (g6.trans a6)) e0) (.cons (dp_same ((((g2.trans g3).trans g4).trans g5).trans (g6.trans a6)) e1) (.cons (dp_same (((g3.trans g4).trans g5).trans (g6.trans a6)) e2) (.cons (dp_same ((g4.trans g5).trans (g6.trans a6)) e3) (.cons (dp_same (g5.trans (g6.trans a6)) e4) (.cons (dp_same (g6.trans a6) e5)
      (.cons (dp_same ((((g8.trans g9).trans gA).trans gB).trans aB) e6) (.cons (dp_same (((g9.trans gA).trans gB).trans aB) e7) (.cons (dp_same ((gA.trans gB).trans aB) e8) (.cons (dp_same (gB.trans aB) e9) (.cons (dp_same aB eA) (.cons (dp_same (gF.trans aF) eB) (.cons (dp_same aF eC) .nil))))))))))))
    obtain ⟨xsL, hxL⟩ : ∃ xsL, xsL = [V.ref q0, V.ref q1, V.ref q2, V.ref q3, V.ref q4, V.ref q5, V.ref q6, V.ref q7, V.ref q8, V.ref q9, V.ref qA, V.ref qB, V.ref qC] := ⟨_, rfl⟩
    have zS : GH S = some (.lst xsL) := by rw [zS, hxL]; rfl
    rw [← hxL] at dS
    have s0 : Same H GH := ((((((g0.trans g1).trans g2).trans g3).trans g4).trans g5).trans g6).trans a6
    have lS : xsL.length = 13 := by rw [hxL]; rfl
    have TH := ht.same s0
    refine newL_go fun F H1 n1 s1 r1 => ?_
    have T1 := TH.same s1
    have tS : S ≠ t := fun z => by
      obtain ⟨_, _, _, _, e, _⟩ := TH
      rw [z, e, hxL] at zS
      cases zS
    have tF : F ≠ t := TH.ne n1
    have SF : S ≠ F := fun z => by rw [← z, zS] at n1; cases n1
    have nF : H F = none := by
      cases h : H F with
      | none => rfl
      | some o => rw [s0 _ _ h] at n1; cases n1
    have en := cm_enough d2
    refine forC_go (Cond := fun k H3 => k ≤ d + 1 ∧ Tape H3 t (n + Jm d * (d + 1)) ∧ ExT t H1 H3) (fun R r => ?_) (fun k H2 z => by omega) (fun k i σ2 H' => ∃ (o5 o6 o7 : Option V) (rows : List Stm) (ys : List V), H' S = some (.lst xsL) ∧ DpAll K H' xsL (shapesK.map encH) ∧ H' F = some (.lst ys) ∧ DpAll K H' ys (encR rows) ∧ (∀ r ∈ rows, StW (d + 1) r) ∧ rows.length = i ∧ wR rows ≤ i * Bd d ∧ k ≤ d + 1 ∧ Tape H' t (n + Jm d * (d + 1 - i)) ∧ ExT t H H' ∧ σ2 = [some (.ref t), some (.ref a), some (.int (2 - (d : Int))), some (.ref S), some (.ref F), o5, o6, o7, none]) (fun k H3 z => ?_) ?_ ?_
    · (try simp only [tIxO, rIsB, rNotB, tSeq, tIfS, tTest, tB, tOp, tUn, tVar, tC, tAsg, gName, tRet, tRetN, tCB, tCons, tNil, tLst_eq, tTup_eq, tDNewK_eq, tNext, tPar, tM0, tM1, tSl, tNoPart, tPart, rSlS, tAug, tAugS, tExf_eq, ipI, tChain, tCall, tDrop, tBM, tAnd, tOr, tNot, tAndV, tOrV, tNotV, tIf, tIsN, tNotN, rI, rI0, rU, rEq, rNe, gSub, cx_K, cx_K2, L2.start, wipe, scal_ii, scal_ss, scal_bb, scal_is, scal_si, scal_nn, List.map_cons, List.map_nil, List.length_cons, List.length_nil, List.cons_append, List.nil_append, List.append_nil, List.replicate, List.getElem?_cons_zero, List.getElem?_cons_succ, Option.some.injEq, exists_and_left, exists_eq_left', exists_eq_left, exists_eq, exists_eq', V.int.injEq, V.ref.injEq, V.str.injEq, V.bl.injEq, List.cons.injEq, and_true, true_and, false_and, exists_false, or_false, false_or, reduceCtorEq, List.set_cons_zero, List.set_cons_succ, Nat.reduceAdd, Nat.reduceSub, Int.reduceToNat, decide_eq_true_eq, if_true, if_false, Bool.false_eq_true, Bool.not_true, Bool.not_false, Bool.true_eq_false, ite_false, ite_true, ne_eq, not_false_eq_true, Int.reduceEq])
      rw [show (4 : Int) - (2 - (d : Int)) = ((d + 2 : Nat) : Int) by omega]
      refine draw_go (T1.mono (m := (n + Jm d * (d + 1)) + 1) (by omega)) (by omega) (Nat.lt_of_le_of_lt (show _ ≤ 4 by omega) (Nat.lt_of_lt_of_le (show 4 < 2 ^ 10 by decide) (Nat.pow_le_pow_right (by decide) (by decide)))) fun x1 H3 a0 a1 T3 v3 => ?_
      rw [show x1 = ((x1.toNat : Nat) : Int) by omega]
      exact r _ H3 ⟨by omega, T3, v3⟩
    · have v1 : ExT t H1 H3 := z.2.2
      exact ⟨none, none, none, [], [], v1 _ _ tS (s1 _ _ zS), DpAll.keep (v1.tu T1) (dpA_same s1 dS) (pl_heads _), v1 _ _ tF r1, .nil, (fun r hr => by cases hr), rfl, Nat.zero_le _, z.1, z.2.1, (Same.exT (s0.trans s1)).trans v1, rfl⟩
    · rintro k i σ' H2 hi ⟨o5, o6, o7, rows, ys, zS2, dS2, rF, dy, hr, lr, wr, kd, T2, v2, rfl⟩
      have ej : d + 1 - i = (d + 1 - (i + 1)) + 1 := by omega
      rw [ej, Nat.mul_succ] at T2
      (try simp only [tIxO, rIsB, rNotB, tSeq, tIfS, tTest, tB, tOp, tUn, tVar, tC, tAsg, gName, tRet, tRetN, tCB, tCons, tNil, tLst_eq, tTup_eq, tDNewK_eq, tNext, tPar, tM0, tM1, tSl, tNoPart, tPart, rSlS, tAug, tAugS, tExf_eq, ipI, tChain, tCall, tDrop, tBM, tAnd, tOr, tNot, tAndV, tOrV, tNotV, tIf, tIsN, tNotN, rI, rI0, rU, rEq, rNe, gSub, cx_K, cx_K2, L2.start, wipe, scal_ii, scal_ss, scal_bb, scal_is, scal_si, scal_nn, List.map_cons, List.map_nil, List.length_cons, List.length_nil, List.cons_append, List.nil_append, List.append_nil, List.replicate, List.getElem?_cons_zero, List.getElem?_cons_succ, Option.some.injEq, exists_and_left, exists_eq_left', exists_eq_left, exists_eq, exists_eq', V.int.injEq, V.ref.injEq, V.str.injEq, V.bl.injEq, List.cons.injEq, and_true, true_and, false_and, exists_false, or_false, false_or, reduceCtorEq, List.set_cons_zero, List.set_cons_succ, Nat.reduceAdd, Nat.reduceSub, Int.reduceToNat, decide_eq_true_eq, if_true, if_false, Bool.false_eq_true, Bool.not_true, Bool.not_false, Bool.true_eq_false, ite_false, ite_true, ne_eq, not_false_eq_true, Int.reduceEq])
      obtain ⟨e9, he9, hz9⟩ : ∃ e9 : Int, (if (2 : Int) - (d : Int) < 2 then (1 : Int) else 0) = e9 ∧ ((e9 = 0 ∧ d = 0) ∨ (e9 = 1 ∧ 0 < d)) := ⟨_, rfl, by split <;> omega⟩
      rw [he9]
      refine ⟨.inl ⟨by omega, by omega⟩, ?_⟩
      have J1 : Jm d = 1 + 3 * Im d := rfl
      refine draw_go (T2.mono (m := (n + Jm d * (d + 1 - (i + 1)) + 3 * Im d) + 1) (by omega)) (by omega) (Nat.lt_of_le_of_lt (show _ ≤ 13 by omega) (Nat.lt_of_lt_of_le (show 13 < 2 ^ 10 by decide) (Nat.pow_le_pow_right (by decide) (by decide)))) fun x1 H3 a0 a1 T3 v3 => ?_
      obtain ⟨⟨wd, sh⟩, hsh⟩ : ∃ p, shapesK[x1.toNat]? = some p := ⟨_, List.getElem?_eq_getElem (by show _ < 13; omega)⟩
      have hm : (wd, signs sh) ∈ shapesL := by
        rw [← shapes_eq]
        exact List.mem_map.mpr ⟨_, List.mem_of_getElem? hsh, rfl⟩
      obtain ⟨nin, l3⟩ := shapes_nine _ hm
      have l3 : (signs sh).length ≤ 3 := l3
      rw [shs_len] at l3
      have low : ∀ s ∈ signs sh, s = "r" → 0 < d := fun s hs e => by
        rcases hz9 with ⟨z1, z2⟩ | ⟨_, z2⟩
        · have h8 : x1.toNat < 8 := by omega
          have hm8 : (wd, signs sh) ∈ shapesL.take 8 := by
            rw [← shapes_eq, ← List.map_take]
            refine List.mem_map.mpr ⟨(wd, sh), List.mem_of_getElem? (i := x1.toNat) ?_, rfl⟩
            rw [List.getElem?_take_of_lt h8]
            exact hsh
          exact absurd e (shapes_low _ hm8 s hs)
        · exact z2
      have dS3 := DpAll.keep (v3.tu T2) dS2 (pl_heads _)
      obtain ⟨y, hy, dy1⟩ := DpAll.at dS3 (show (shapesK.map encH)[x1.toNat]? = some (encH (wd, sh)) by rw [List.getElem?_map, hsh]; rfl)
      rw [show x1 = ((x1.toNat : Nat) : Int) by omega]
      refine ixM_go (v3 _ _ tS zS2) (atI_nat hy) ?_
      obtain ⟨pa, ps, rfl, hpa, hps⟩ := Dp.tupD dy1
      cases hps with
      | cons g0 hps =>
      cases hps with
      | cons g1 hps =>
      cases hps
      cases Dp.strD g0
      cases Dp.strD g1
      simp only [gTup, gCons, gNil]
      (try simp only [tIxO, rIsB, rNotB, tSeq, tIfS, tTest, tB, tOp, tUn, tVar, tC, tAsg, gName, tRet, tRetN, tCB, tCons, tNil, tLst_eq, tTup_eq, tDNewK_eq, tNext, tPar, tM0, tM1, tSl, tNoPart, tPart, rSlS, tAug, tAugS, tExf_eq, ipI, tChain, tCall, tDrop, tBM, tAnd, tOr, tNot, tAndV, tOrV, tNotV, tIf, tIsN, tNotN, rI, rI0, rU, rEq, rNe, gSub, cx_K, cx_K2, L2.start, wipe, scal_ii, scal_ss, scal_bb, scal_is, scal_si, scal_nn, List.map_cons, List.map_nil, List.length_cons, List.length_nil, List.cons_append, List.nil_append, List.append_nil, List.replicate, List.getElem?_cons_zero, List.getElem?_cons_succ, Option.some.injEq, exists_and_left, exists_eq_left', exists_eq_left, exists_eq, exists_eq', V.int.injEq, V.ref.injEq, V.str.injEq, V.bl.injEq, List.cons.injEq, and_true, true_and, false_and, exists_false, or_false, false_or, reduceCtorEq, List.set_cons_zero, List.set_cons_succ, Nat.reduceAdd, Nat.reduceSub, Int.reduceToNat, decide_eq_true_eq, if_true, if_false, Bool.false_eq_true, Bool.not_true, Bool.not_false, Bool.true_eq_false, ite_false, ite_true, ne_eq, not_false_eq_true, Int.reduceEq])
      refine ⟨_, hpa, rfl, _, _, rfl, _, _, rfl, rfl, ?_⟩
      (try simp only [tIxO, rIsB, rNotB, tSeq, tIfS, tTest, tB, tOp, tUn, tVar, tC, tAsg, gName, tRet, tRetN, tCB, tCons, tNil, tLst_eq, tTup_eq, tDNewK_eq, tNext, tPar, tM0, tM1, tSl, tNoPart, tPart, rSlS, tAug, tAugS, tExf_eq, ipI, tChain, tCall, tDrop, tBM, tAnd, tOr, tNot, tAndV, tOrV, tNotV, tIf, tIsN, tNotN, rI, rI0, rU, rEq, rNe, gSub, cx_K, cx_K2, L2.start, wipe, scal_ii, scal_ss, scal_bb, scal_is, scal_si, scal_nn, List.map_cons, List.map_nil, List.length_cons, List.length_nil, List.cons_append, List.nil_append, List.append_nil, List.replicate, List.getElem?_cons_zero, List.getElem?_cons_succ, Option.some.injEq, exists_and_left, exists_eq_left', exists_eq_left, exists_eq, exists_eq', V.int.injEq, V.ref.injEq, V.str.injEq, V.bl.injEq, List.cons.injEq, and_true, true_and, false_and, exists_false, or_false, false_or, reduceCtorEq, List.set_cons_zero, List.set_cons_succ, Nat.reduceAdd, Nat.reduceSub, Int.reduceToNat, decide_eq_true_eq, if_true, if_false, Bool.false_eq_true, Bool.not_true, Bool.not_false, Bool.true_eq_false, ite_false, ite_true, ne_eq, not_false_eq_true, Int.reduceEq])
      have rF3 := v3 _ _ tF rF
      have dy3 := DpAll.keep (v3.tu T2) dy (pl_r rows)
      refine ⟨.inl ⟨rfl, _, .inl (.inl rF3)⟩, newT_go fun p4 H4 n4 s4 r4 => ?_⟩
      have T4 := T3.same s4
      have t4 : p4 ≠ t := T3.ne n4
      refine lcW_go (walk_str (z := sh)) (fun D j acc H' => ∃ ds : List PyData, DpAll K H' acc ds ∧ PlAll ds = true ∧ ItAll d ((signs sh).take j) ds ∧ Tape H' t (n + Jm d * (d + 1 - (i + 1)) + Im d * (3 - j)) ∧ ExT t H4 H') (fun R r => ⟨_, rfl, _, rfl, r⟩) (fun _ _ _ _ _ _ _ => trivial) (fun D hD => ⟨[], .nil, rfl, trivial, (T4.same (same_new hD)).mono (by omega), Same.exT (same_new hD)⟩) (fun D j acc H5 x H6 hj hD rD la p y => ?_) (fun D acc H5 hD rD la p => ?_)
      · obtain ⟨ds, da, pd, ia, T5, v5⟩ := p
        obtain ⟨rfl, c, hc, rfl⟩ := y
        have hs1 := shs_at hc
        have msg := List.mem_of_getElem? hs1
        have tD : D ≠ t := T4.ne hD
        have lsz := shs_len sh
        have e3 : 3 - j = (3 - (j + 1)) + 1 := by omega
        rw [e3, Nat.mul_succ] at T5
        refine ⟨wipe_set, ?_⟩
        simp only [tYes, if_true]
        (try simp only [tIxO, rIsB, rNotB, tSeq, tIfS, tTest, tB, tOp, tUn, tVar, tC, tAsg, gName, tRet, tRetN, tCB, tCons, tNil, tLst_eq, tTup_eq, tDNewK_eq, tNext, tPar, tM0, tM1, tSl, tNoPart, tPart, rSlS, tAug, tAugS, tExf_eq, ipI, tChain, tCall, tDrop, tBM, tAnd, tOr, tNot, tAndV, tOrV, tNotV, tIf, tIsN, tNotN, rI, rI0, rU, rEq, rNe, gSub, cx_K, cx_K2, L2.start, wipe, scal_ii, scal_ss, scal_bb, scal_is, scal_si, scal_nn, List.map_cons, List.map_nil, List.length_cons, List.length_nil, List.cons_append, List.nil_append, List.append_nil, List.replicate, List.getElem?_cons_zero, List.getElem?_cons_succ, Option.some.injEq, exists_and_left, exists_eq_left', exists_eq_left, exists_eq, exists_eq', V.int.injEq, V.ref.injEq, V.str.injEq, V.bl.injEq, List.cons.injEq, and_true, true_and, false_and, exists_false, or_false, false_or, reduceCtorEq, List.set_cons_zero, List.set_cons_succ, Nat.reduceAdd, Nat.reduceSub, Int.reduceToNat, decide_eq_true_eq, if_true, if_false, Bool.false_eq_true, Bool.not_true, Bool.not_false, Bool.true_eq_false, ite_false, ite_true, ne_eq, not_false_eq_true, Int.reduceEq])
        refine ⟨t, a, n + Jm d * (d + 1 - (i + 1)) + Im d * (3 - (j + 1)), hs, ⟨#[c]⟩, rfl, d2, nin _ msg, low _ msg, T5.mono (by omega), Hds.ext hat ht (((v2.trans v3).same s4).trans v5) hd, hat, hl, hq, fun u x H7 ix px du T7 v7 => ?_⟩
        have rD7 := v7 _ _ tD rD
        refine ⟨acc, rD7, Nat.lt_of_le_of_lt (show acc.length ≤ 1000 by omega) (show 1000 < sizeLine by decide), acc ++ [u], upd_same, by rw [List.length_append, List.length_singleton]; omega, ds ++ [x], ?_, ?_, ?_, tape_upd tD T7, fun b o ne e => by rw [upd_ne (fun z => by rw [z, hD] at e; cases e)]; exact v7 _ _ ne (v5 b o ne e)⟩
        · exact DpAll.keep (tu_lst rD7) (dpA_app (DpAll.keep (v7.tu T5) da pd) (.cons du .nil)) (by rw [pl_app, pd]; simp only [PlAll, px, Bool.and_true])
        · rw [pl_app, pd]
          simp only [PlAll, px, Bool.and_true]
        · rw [take_at hs1]
          exact itAll_snoc ix ia
      · obtain ⟨ds, da, pd, ia, T5, v5⟩ := p
        rw [List.take_of_length_le (by rw [shs_len]; exact Nat.le_refl _)] at ia
        have lds := itAll_len ia
        rw [shs_len] at lds
        have lda := DpAll.len da
        obtain ⟨st, hst, est, wst⟩ := mk_stm hm ia
        refine ⟨D, rfl, acc, .inl ⟨.inl (.inl rD), fun u nu => ?_⟩⟩
        have s6 := same_new (o := .tup acc) nu
        have r45 := v5 _ _ t4 r4
        refine catT_go (.inl (.inl (s6 _ _ r45))) (.inl (.inl upd_same)) (by simp) (by rw [List.length_singleton]; omega) fun p7 H7 s7 sq7 => ?_
        have s57 := s6.trans s7
        have dst : Dp K H7 (.ref p7) (encS st) := by
          rw [← est]
          exact .tup sq7 (.cons (.str _) (dpA_same s57 da))
        have v37 : ExT t H3 H7 := ((Same.exT s4).trans v5).same s57
        have rF7 := v37 _ _ tF rF3
        have dS7 := DpAll.keep (v37.tu T3) dS3 (pl_heads _)
        have dy7 := DpAll.keep (v37.tu T3) dy3 (pl_r rows)
        have ly := DpAll.len dy7
        rw [encR_len] at ly
        have T7 : Tape H7 t (n + Jm d * (d + 1 - (i + 1))) := ((T5.same s57).mono (by omega))
        have eR : encR (rows ++ [st]) = encR rows ++ [encS st] := by rw [encR_app]; rfl
        refine ⟨F, _, _, rfl, rfl, rF7, Nat.lt_of_le_of_lt (show _ ≤ 1000 by omega) (by decide), ?_⟩
        refine ⟨by rw [upd_ne SF]; exact v37 _ _ tS (v3 _ _ tS zS2), DpAll.keep (tu_lst rF7) dS7 (pl_heads _), _, _, _, rows ++ [st], ys ++ [.ref p7], upd_same, ?_, fun r hr2 => ?_, by rw [List.length_append, List.length_singleton, lr], ?_, kd, tape_upd tF T7, ?_, rfl, rfl, rfl⟩
        · rw [eR]
          refine DpAll.keep (tu_lst rF7) (dpA_app dy7 (.cons dst .nil)) ?_
          rw [← eR]
          exact pl_r _
        · rcases List.mem_append.mp hr2 with hr2 | hr2
          · exact hr r hr2
          · cases List.mem_singleton.mp hr2
            exact hst
        · have e : wR (rows ++ [st]) = wR rows + wS st := by rw [wR_app]; simp only [wR]; omega
          rw [e, Nat.succ_mul]
          omega
        · exact fun b o ne e => by
            rw [upd_ne (fun z => by rw [z, nF] at e; cases e)]
            exact v37 b o ne (v3 b o ne (v2 b o ne e))
    · rintro k σ' H2 ⟨o5, o6, o7, rows, ys, zS2, dS2, rF, dy, hr, lr, wr, kd, T2, v2, rfl⟩
      (try simp only [tIxO, rIsB, rNotB, tSeq, tIfS, tTest, tB, tOp, tUn, tVar, tC, tAsg, gName, tRet, tRetN, tCB, tCons, tNil, tLst_eq, tTup_eq, tDNewK_eq, tNext, tPar, tM0, tM1, tSl, tNoPart, tPart, rSlS, tAug, tAugS, tExf_eq, ipI, tChain, tCall, tDrop, tBM, tAnd, tOr, tNot, tAndV, tOrV, tNotV, tIf, tIsN, tNotN, rI, rI0, rU, rEq, rNe, gSub, cx_K, cx_K2, L2.start, wipe, scal_ii, scal_ss, scal_bb, scal_is, scal_si, scal_nn, List.map_cons, List.map_nil, List.length_cons, List.length_nil, List.cons_append, List.nil_append, List.append_nil, List.replicate, List.getElem?_cons_zero, List.getElem?_cons_succ, Option.some.injEq, exists_and_left, exists_eq_left', exists_eq_left, exists_eq, exists_eq', V.int.injEq, V.ref.injEq, V.str.injEq, V.bl.injEq, List.cons.injEq, and_true, true_and, false_and, exists_false, or_false, false_or, reduceCtorEq, List.set_cons_zero, List.set_cons_succ, Nat.reduceAdd, Nat.reduceSub, Int.reduceToNat, decide_eq_true_eq, if_true, if_false, Bool.false_eq_true, Bool.not_true, Bool.not_false, Bool.true_eq_false, ite_false, ite_true, ne_eq, not_false_eq_true, Int.reduceEq])
      refine ⟨_, .inl ⟨.inl (.inl rF), fun u nu => ?_⟩⟩
      have s4 := same_new (o := .tup ys) nu
      refine q _ rows _ hr (by omega) ?_ (.tup (.inl (.inl upd_same)) (dpA_same s4 dy)) ((T2.same s4).mono (by omega)) (v2.same s4)
      refine Nat.le_trans wr ?_
      unfold Wm
      exact Nat.mul_le_mul_right _ kd

end
end Own

set_option Elab.async false
set_option linter.all false
set_option maxRecDepth 100000
set_option maxHeartbeats 4000000
namespace Own
open PySem PySem.Spec PyProof.Rows L2
section
variable {P : Program} {w : World} {K : PySem.W.Frag} {mg : Str → Option Value} {base : Heap}
theorem same_upd {t : Addr} {H H1 : Hp} {o : HO} (h : H t = none) (s : Same H H1) : Same H (upd H1 t o) := fun b u e => by
  rw [upd_ne (by rintro rfl; rw [h] at e; cases e)]
  exact s b u e
theorem rows_below0 (T : Txt K mg w) : FnOk P w K mg base CX0 5 T.d_l_rows.a T.d_l_rows.d ["_law_tape_here", "_law_heads_here", "_law_level"] (spBelow K 0) :=
  T.d_l_rows.F.ok sc_l_rows (fun vs H Q E h => absurd h.1 (Nat.lt_irrefl 0)) (fun cdv A outer s H vs Q E hr h => absurd h.1 (Nat.lt_irrefl 0))
theorem rows_lev (T : Txt K mg w) : ∀ d, FnOk P w K mg base CX0 (2 * d + 7) T.d_l_rows.a T.d_l_rows.d ["_law_tape_here", "_law_heads_here", "_law_level"] (spRowsQ K d)
  | 0 => rowsq_of T (item_of T (rows_below0 T))
  | d + 1 => rowsq_of T (item_of T ((rows_lev T d).imp fun vs H Q E h => h.2))
theorem ok_l_rows0 (T : Txt K mg w) : FnOk P w K mg base CX0 11 T.d_l_rows.a T.d_l_rows.d ["_law_tape_here", "_law_heads_here", "_law_level"] (spRowsQ K 2) := rows_lev T 2
theorem stw_up : ∀ {n : Nat} {s : Stm}, StW n s → StW (n + 1) s
  | 0, _, h => h.elim
  | n + 1, s, h => ⟨h.1, fun b hb => ⟨(h.2 b hb).1, fun r hr => stw_up ((h.2 b hb).2 r hr)⟩⟩
theorem stw_9 {s : Stm} (h : StW 3 s) : StW 9 s := stw_up (stw_up (stw_up (stw_up (stw_up (stw_up h)))))
/-- a drawn part has few lines -/
def PtF (t : Prt) : Prop := PtW t ∧ ∀ k, (partL k t).length ≤ 100
theorem ptf_func {i a : Str} {rows : List Stm} (hi : isIdent i = true) (ha : a = "open" ∨ a = "own") (h : ∀ r ∈ rows, StW 3 r) (l : rows.length ≤ 3) (wr : wR rows ≤ Wm 2) : PtF (.func i a rows) := by
  refine ⟨⟨hi, ha, by omega, fun r hr => stw_9 (h r hr)⟩, fun k => ?_⟩
  have : Wm 2 = 69 := by decide
  simp only [partL, List.length_cons, List.length_append, List.length_nil, len_R]
  omega
theorem parts_lenF : ∀ {ps : List Prt} {k : Nat}, (∀ t ∈ ps, PtF t) → (partsL k ps).length ≤ 100 * ps.length
  | [], _, _ => Nat.zero_le _
  | t :: ps, k, h => by
    have a := (h t (.head _)).2 k
    have b := parts_lenF (ps := ps) (k := k + 1) fun u hu => h u (.tail _ hu)
    rw [partsL, List.length_append, List.length_cons]
    omega
theorem psw_of {ps : List Prt} (h : ∀ t ∈ ps, PtF t) (l : ps.length ≤ 40) : PsW ps := by
  refine ⟨fun t ht => (h t ht).1, by omega, ?_⟩
  have := parts_lenF (k := 0) h
  omega
theorem pl_ps : ∀ ps : List Prt, PlAll (ps.map encPt) = true
  | [] => rfl
  | p :: ps => by simp only [List.map_cons, PlAll, pl_pt p, pl_ps ps, Bool.and_true]

end
end Own

set_option Elab.async false
set_option linter.all false
set_option maxRecDepth 100000
set_option maxHeartbeats 4000000
namespace Own
open PySem PySem.Spec PyProof.Rows L2
section
variable {P : Program} {w : World} {K : PySem.W.Frag} {mg : Str → Option Value} {base : Heap}
def spPartsQ (K : PySem.W.Frag) : Sp := fun vs H Q _ => ∃ (l : Addr) (ns : List Int) (m : Nat), vs = [.ref l, .int m] ∧ SqL K H l (ns.map V.int) ∧ 1 ≤ m ∧ m ≤ 20 ∧ ∀ v H' ps, (∀ t ∈ ps, PtF t) → PsW ps → 1 ≤ ps.length → ps.length ≤ m → Dp K H' v (encPs ps) → Same H H' → Q v H'
theorem ok_l_parts (T : Txt K mg w) : FnOk P w K mg base CX0 13 T.d_l_parts.a T.d_l_parts.d ["_law_script", "_law_most"] (spPartsQ K) := by
  refine T.d_l_parts.F.ok sc_l_parts (fun vs H Q E h => ?_) (fun cdv A outer s H vs Q E hr h => ?_)
  · obtain ⟨l, ns, m, rfl, _⟩ := h
    rfl
  · have hu := hr.units
    obtain ⟨l, ns, m, rfl, hS, hm1, hm2, q⟩ := h
    refine ⟨_, (pss_cons (ps_set (i := 2) sc_l_parts.nd rfl (Or.inl rfl) (pe_call (ok_l_heads T) (hr.mono (by decide)) (by rfl) T.d_l_heads.g T.d_l_heads.F.kp T.d_l_heads.b .nil pass0 (pa_cons (pe_call (ok_l_tape T) (hr.mono (by decide)) (by rfl) T.d_l_tape.g T.d_l_tape.F.kp T.d_l_tape.b .nil pass0 (pa_cons (pv 0) (pa_cons pe_int pa_nil))) (pa_cons (pv 1) pa_nil))))
      (pss_cons (ps_set (i := 3) sc_l_parts.nd rfl (Or.inl rfl) (pe_lst pa_nil))
      (pss_cons (ps_for PassesOwn.never rfl (pi_range1 (by rfl) T.z_range (pa_cons (pe_callB call_lenL (by rfl) T.z_len (by decide +kernel) (pa_cons (pv 2) pa_nil)) pa_nil)) (pg_name (i := 4) sc_l_parts.nd rfl (Or.inl rfl)) (pss_cons (ps_set (i := 5) sc_l_parts.nd rfl (Or.inl rfl) (pe_call (ok_l_tape T) (hr.mono (by decide)) (by rfl) T.d_l_tape.g T.d_l_tape.F.kp T.d_l_tape.b .nil pass0 (pa_cons (pv 0) (pa_cons (pe_op op_add pe_int (pv 4)) pa_nil))))
      (pss_cons (ps_asg (pe_ix ix_list (pv 2) (pv 4) (fun _ _ => rfl)) (pg_tup (by rfl) (pgs_cons (pg_name (i := 6) sc_l_parts.nd rfl (Or.inl rfl)) (pgs_cons (pg_name (i := 7) sc_l_parts.nd rfl (Or.inl rfl)) pgs_nil))))
      (pss_cons (ps_set (i := 8) sc_l_parts.nd rfl (Or.inl rfl) (pe_call (ok_l_draw T) (hr.mono (by decide)) (by rfl) T.d_l_draw.g T.d_l_draw.F.kp T.d_l_draw.b .nil pass0 (pa_cons (pv 5) (pa_cons pe_int pa_nil))))
      (pss_one (ps_if (pt_cmpR op_eq (pv 6) pe_str (nomark _)) (pss_one (ps_expr (pe_bm PySem.F.plainAttrs_list PySem.F.slot_list_append PySem.F.type_list_append mt_append (pv 3) (pa_cons (pe_tup (pa_cons pe_str (pa_cons (pv 7) (pa_cons (pe_call (ok_l_word T) (hr.mono (by decide)) (by rfl) T.d_l_word.g T.d_l_word.F.kp T.d_l_word.b .nil pass0 (pa_cons (pv 5) pa_nil)) pa_nil)))) pa_nil)))) (pss_one (ps_if (pt_cmpR op_eq (pv 6) pe_str (nomark _)) (pss_one (ps_expr (pe_bm PySem.F.plainAttrs_list PySem.F.slot_list_append PySem.F.type_list_append mt_append (pv 3) (pa_cons (pe_tup (pa_cons pe_str (pa_cons (pv 7) (pa_cons (pe_ix ix_list (pe_lst (pa_cons pe_str (pa_cons pe_str pa_nil))) (pv 8) (fun _ _ => rfl)) pa_nil)))) pa_nil)))) (pss_one (ps_if (pt_cmpR op_eq (pv 6) pe_str (nomark _)) (pss_one (ps_expr (pe_bm PySem.F.plainAttrs_list PySem.F.slot_list_append PySem.F.type_list_append mt_append (pv 3) (pa_cons (pe_tup (pa_cons pe_str (pa_cons (pv 7) (pa_cons (pe_ix ix_list (pe_lst (pa_cons pe_str (pa_cons pe_str pa_nil))) (pv 8) (fun _ _ => rfl)) pa_nil)))) pa_nil)))) (pss_one (ps_expr (pe_bm PySem.F.plainAttrs_list PySem.F.slot_list_append PySem.F.type_list_append mt_append (pv 3) (pa_cons (pe_tup (pa_cons pe_str (pa_cons (pv 7) (pa_cons (pe_ix ix_list (pe_lst (pa_cons pe_str (pa_cons pe_str pa_nil))) (pv 8) (fun _ _ => rfl)) (pa_cons (pe_call (ok_l_rows0 T) (hr.mono (by decide)) (by rfl) T.d_l_rows.g T.d_l_rows.F.kp T.d_l_rows.b .nil pass0 (pa_cons (pv 5) (pa_cons (pv 2) (pa_cons pe_int pa_nil)))) pa_nil))))) pa_nil))))))))))))))
      (pss_one (ps_ret (pe_callTy call_tuple_of (by rfl) T.z_tuple (by decide +kernel) (pa_cons (pv 3) pa_nil))))))), ?_⟩
    (try simp only [tIxO, rIsB, rNotB, tSeq, tIfS, tTest, tB, tOp, tUn, tVar, tC, tAsg, gName, tRet, tRetN, tCB, tCons, tNil, tLst_eq, tTup_eq, tDNewK_eq, tNext, tPar, tM0, tM1, tSl, tNoPart, tPart, rSlS, tAug, tAugS, tExf_eq, ipI, tChain, tCall, tDrop, tBM, tAnd, tOr, tNot, tAndV, tOrV, tNotV, tIf, tIsN, tNotN, rI, rI0, rU, rEq, rNe, gSub, cx_K, cx_K2, L2.start, wipe, scal_ii, scal_ss, scal_bb, scal_is, scal_si, scal_nn, List.map_cons, List.map_nil, List.length_cons, List.length_nil, List.cons_append, List.nil_append, List.append_nil, List.replicate, List.getElem?_cons_zero, List.getElem?_cons_succ, Option.some.injEq, exists_and_left, exists_eq_left', exists_eq_left, exists_eq, exists_eq', V.int.injEq, V.ref.injEq, V.str.injEq, V.bl.injEq, List.cons.injEq, and_true, true_and, false_and, exists_false, or_false, false_or, reduceCtorEq, List.set_cons_zero, List.set_cons_succ, Nat.reduceAdd, Nat.reduceSub, Int.reduceToNat, decide_eq_true_eq, if_true, if_false, Bool.false_eq_true, Bool.not_true, Bool.not_false, Bool.true_eq_false, ite_false, ite_true, ne_eq, not_false_eq_true, Int.reduceEq])
    refine ⟨l, ns, 0, rfl, hS, by decide, by decide, fun t0 H0 nt0 T0 st0 => ?_⟩
    refine ⟨t0, 999990000, m, rfl, T0.mono (by decide), hm1, hm2, fun a H1 hs us ra da hq hl1 hlm T1 v1 hat0 => ?_⟩
    have s1 : Same H H1 := same_ext nt0 st0 v1
    refine newL_go fun F H2 n2 s2 r2 => ?_
    have hul : us.length = hs.length := by rw [DpAll.len da, List.length_map]
    have hhl : hs.length ≤ 20 := by omega
    have ha2 := s2 _ _ ra
    have hF : H F = none := same_none s1 n2
    have haF : a ≠ F := by
      rintro rfl
      rw [ra] at n2
      cases n2
    refine forR_go (n := hs.length) (fun R r => ⟨_, rfl, _, rfl, _, .inl (.inl ha2), by rw [hul]; exact r⟩) (by omega) (fun i σ H' => ∃ (o o1 o2 o3 o4 : Option V) (vs : List V) (ps : List Prt), σ = [some (.ref l), some (.int m), some (.ref a), some (.ref F), o, o1, o2, o3, o4] ∧ Same H H' ∧ H' a = some (.lst us) ∧ DpAll K H' us (hs.map encH) ∧ H' F = some (.lst vs) ∧ DpAll K H' vs (ps.map encPt) ∧ ps.length = i ∧ (∀ t ∈ ps, PtF t))
      ⟨none, none, none, none, none, [], [], rfl, s1.trans s2, ha2, DpAll.keep (Same.tu s2) da (pl_heads hs), r2, .nil, rfl, fun t h => by cases h⟩ ?_ ?_
    · rintro i σ' H3 hi ⟨o, o1, o2, o3, o4, vs, ps, rfl, s3, ra3, da3, rF3, dF3, hpl, hpo⟩
      (try simp only [tIxO, rIsB, rNotB, tSeq, tIfS, tTest, tB, tOp, tUn, tVar, tC, tAsg, gName, tRet, tRetN, tCB, tCons, tNil, tLst_eq, tTup_eq, tDNewK_eq, tNext, tPar, tM0, tM1, tSl, tNoPart, tPart, rSlS, tAug, tAugS, tExf_eq, ipI, tChain, tCall, tDrop, tBM, tAnd, tOr, tNot, tAndV, tOrV, tNotV, tIf, tIsN, tNotN, rI, rI0, rU, rEq, rNe, gSub, cx_K, cx_K2, L2.start, wipe, scal_ii, scal_ss, scal_bb, scal_is, scal_si, scal_nn, List.map_cons, List.map_nil, List.length_cons, List.length_nil, List.cons_append, List.nil_append, List.append_nil, List.replicate, List.getElem?_cons_zero, List.getElem?_cons_succ, Option.some.injEq, exists_and_left, exists_eq_left', exists_eq_left, exists_eq, exists_eq', V.int.injEq, V.ref.injEq, V.str.injEq, V.bl.injEq, List.cons.injEq, and_true, true_and, false_and, exists_false, or_false, false_or, reduceCtorEq, List.set_cons_zero, List.set_cons_succ, Nat.reduceAdd, Nat.reduceSub, Int.reduceToNat, decide_eq_true_eq, if_true, if_false, Bool.false_eq_true, Bool.not_true, Bool.not_false, Bool.true_eq_false, ite_false, ite_true, ne_eq, not_false_eq_true, Int.reduceEq])
      refine ⟨l, ns, 1 + i, rfl, sq_same s3 hS, by omega, by omega, fun t H4 n4 T4 s4 => ?_⟩
      have hat : a ≠ t := by
        rintro rfl
        rw [ra3] at n4
        cases n4
      have hFt : F ≠ t := by
        rintro rfl
        rw [rF3] at n4
        cases n4
      have ht0 : H t = none := same_none s3 n4
      have s04 := s3.trans s4
      have da4 := DpAll.keep (Same.tu s4) da3 (pl_heads hs)
      obtain ⟨hd, hhd⟩ : ∃ hd, hs[i]? = some hd := ⟨hs[i], List.getElem?_eq_getElem hi⟩
      obtain ⟨xi, hxi, dxi⟩ := DpAll.at da4 (i := i) (d := encH hd) (by rw [List.getElem?_map, hhd]; rfl)
      refine ixM_go (s4 _ _ ra3) (atI_nat hxi) ?_
      obtain ⟨pa, xs, rfl, hpa, dpa⟩ := Dp.tupD dxi
      have hkd := hq.kind hd (List.mem_of_getElem? hhd)
      have hid := hq.ident hd (List.mem_of_getElem? hhd)
      obtain ⟨kd, idn⟩ := hd
      cases dpa with
      | cons d0 dpa =>
      cases dpa with
      | cons d1 dpa =>
      cases dpa
      cases Dp.strD d0
      cases Dp.strD d1
      simp only [gTup, gCons, gNil]
      (try simp only [tIxO, rIsB, rNotB, tSeq, tIfS, tTest, tB, tOp, tUn, tVar, tC, tAsg, gName, tRet, tRetN, tCB, tCons, tNil, tLst_eq, tTup_eq, tDNewK_eq, tNext, tPar, tM0, tM1, tSl, tNoPart, tPart, rSlS, tAug, tAugS, tExf_eq, ipI, tChain, tCall, tDrop, tBM, tAnd, tOr, tNot, tAndV, tOrV, tNotV, tIf, tIsN, tNotN, rI, rI0, rU, rEq, rNe, gSub, cx_K, cx_K2, L2.start, wipe, scal_ii, scal_ss, scal_bb, scal_is, scal_si, scal_nn, List.map_cons, List.map_nil, List.length_cons, List.length_nil, List.cons_append, List.nil_append, List.append_nil, List.replicate, List.getElem?_cons_zero, List.getElem?_cons_succ, Option.some.injEq, exists_and_left, exists_eq_left', exists_eq_left, exists_eq, exists_eq', V.int.injEq, V.ref.injEq, V.str.injEq, V.bl.injEq, List.cons.injEq, and_true, true_and, false_and, exists_false, or_false, false_or, reduceCtorEq, List.set_cons_zero, List.set_cons_succ, Nat.reduceAdd, Nat.reduceSub, Int.reduceToNat, decide_eq_true_eq, if_true, if_false, Bool.false_eq_true, Bool.not_true, Bool.not_false, Bool.true_eq_false, ite_false, ite_true, ne_eq, not_false_eq_true, Int.reduceEq])
      refine ⟨_, hpa, rfl, _, _, rfl, _, _, rfl, rfl, ?_⟩
      have fin : ∀ (p : Prt) (H5 : Hp) (v : V), PtF p → ExT t H4 H5 → Dp K H5 v (encPt p) → H5 F = some (.lst vs) ∧ vs.length < sizeLine ∧ Same H (upd H5 F (.lst (vs ++ [v]))) ∧ upd H5 F (.lst (vs ++ [v])) a = some (.lst us) ∧ DpAll K (upd H5 F (.lst (vs ++ [v]))) us (hs.map encH) ∧ DpAll K (upd H5 F (.lst (vs ++ [v]))) (vs ++ [v]) ((ps ++ [p]).map encPt) ∧ (ps ++ [p]).length = i + 1 ∧ (∀ t ∈ ps ++ [p], PtF t) := by
        intro p H5 v hp v5 dv
        have rF5 := v5 _ _ hFt (s4 _ _ rF3)
        have tu := tu_lst (o := .lst (vs ++ [v])) rF5
        have t45 := v5.tu T4
        have hvl : vs.length = ps.length := by rw [DpAll.len dF3, List.length_map]
        refine ⟨rF5, Nat.lt_of_le_of_lt (show vs.length ≤ 24 by omega) (by decide), same_upd hF (same_ext ht0 s04 v5), by rw [upd_ne haF]; exact v5 _ _ hat (s4 _ _ ra3), DpAll.keep (t45.trans tu) da4 (pl_heads hs), ?_, by rw [List.length_append, hpl]; rfl, fun u hu => ?_⟩
        · rw [List.map_append]
          exact DpAll.app (DpAll.keep (((Same.tu s4).trans t45).trans tu) dF3 (pl_ps ps)) (.cons (Dp.keep tu dv (pl_pt p)) .nil)
        · rcases List.mem_append.mp hu with hu | hu
          · exact hpo u hu
          · cases List.mem_singleton.mp hu
            exact hp
      (try simp only [tIxO, rIsB, rNotB, tSeq, tIfS, tTest, tB, tOp, tUn, tVar, tC, tAsg, gName, tRet, tRetN, tCB, tCons, tNil, tLst_eq, tTup_eq, tDNewK_eq, tNext, tPar, tM0, tM1, tSl, tNoPart, tPart, rSlS, tAug, tAugS, tExf_eq, ipI, tChain, tCall, tDrop, tBM, tAnd, tOr, tNot, tAndV, tOrV, tNotV, tIf, tIsN, tNotN, rI, rI0, rU, rEq, rNe, gSub, cx_K, cx_K2, L2.start, wipe, scal_ii, scal_ss, scal_bb, scal_is, scal_si, scal_nn, List.map_cons, List.map_nil, List.length_cons, List.length_nil, List.cons_append, List.nil_append, List.append_nil, List.replicate, List.getElem?_cons_zero, List.getElem?_cons_succ, Option.some.injEq, exists_and_left, exists_eq_left', exists_eq_left, exists_eq, exists_eq', V.int.injEq, V.ref.injEq, V.str.injEq, V.bl.injEq, List.cons.injEq, and_true, true_and, false_and, exists_false, or_false, false_or, reduceCtorEq, List.set_cons_zero, List.set_cons_succ, Nat.reduceAdd, Nat.reduceSub, Int.reduceToNat, decide_eq_true_eq, if_true, if_false, Bool.false_eq_true, Bool.not_true, Bool.not_false, Bool.true_eq_false, ite_false, ite_true, ne_eq, not_false_eq_true, Int.reduceEq])
      refine draw_go (T4.mono (m := 999999000 + 1) (by decide)) (by decide) (by decide) fun x1 H5 a0 a1 T5 v5 => ?_
      refine ite2 (fun hk => ?_) (fun hk1 => ?_)
      · subst hk
        refine ⟨tyL (v5 _ _ hFt (s4 _ _ rF3)), t, 999998000, rfl, T5.mono (by decide), fun w H6 hw T6 v6 => ?_⟩
        refine newTD_go (K := K) (ds := [.str "name", .str idn, .str w]) (.cons (.str _) (.cons (.str _) (.cons (.str _) .nil))) rfl (by simp only [List.length_cons, List.length_nil]; omega) fun p6 H6 n6 s6 d6 => ?_
        obtain ⟨q1, q2, q3, q4, q5, q6, q7, q8⟩ := fin (.name idn w) H6 _ ⟨⟨hid, hw⟩, fun _ => (by decide : 1 ≤ 100)⟩ ((v5.trans v6).same s6) d6
        exact ⟨F, vs, _, rfl, rfl, q1, q2, _, _, _, _, _, ⟨rfl, rfl, rfl, rfl, rfl⟩, q3, q4, q5, _, upd_same, _, q6, q7, q8⟩
      refine ite2 (fun hk => ?_) (fun hk2 => ?_)
      · subst hk
        refine ⟨tyL (v5 _ _ hFt (s4 _ _ rF3)), ?_⟩
        refine newL_go fun p5 H6 n5 s5 r5 => ?_
        obtain ⟨wd, hw, ew⟩ := atI_ex (l := [("on" : Str), "off"]) a0 a1
        refine ixM_go r5 (atI_map (f := V.str) ew) ?_
        refine newTD_go (K := K) (ds := [.str "flag", .str idn, .str wd]) (.cons (.str _) (.cons (.str _) (.cons (.str _) .nil))) rfl (by simp only [List.length_cons, List.length_nil]; omega) fun p7 H7 n7 s7 d7 => ?_
        obtain ⟨q1, q2, q3, q4, q5, q6, q7, q8⟩ := fin (.flag idn wd) H7 _ ⟨⟨hid, by simpa using hw⟩, fun _ => (by decide : 1 ≤ 100)⟩ ((v5.same s5).same s7) d7
        exact ⟨F, vs, _, rfl, rfl, q1, q2, _, _, _, _, _, ⟨rfl, rfl, rfl, rfl, rfl⟩, q3, q4, q5, _, upd_same, _, q6, q7, q8⟩
      refine ite2 (fun hk => ?_) (fun hk3 => ?_)
      · subst hk
        refine ⟨tyL (v5 _ _ hFt (s4 _ _ rF3)), ?_⟩
        refine newL_go fun p5 H6 n5 s5 r5 => ?_
        obtain ⟨wd, hw, ew⟩ := atI_ex (l := [("open" : Str), "own"]) a0 a1
        refine ixM_go r5 (atI_map (f := V.str) ew) ?_
        refine newTD_go (K := K) (ds := [.str "slot", .str idn, .str wd]) (.cons (.str _) (.cons (.str _) (.cons (.str _) .nil))) rfl (by simp only [List.length_cons, List.length_nil]; omega) fun p7 H7 n7 s7 d7 => ?_
        obtain ⟨q1, q2, q3, q4, q5, q6, q7, q8⟩ := fin (.slot idn wd) H7 _ ⟨⟨hid, by simpa using hw⟩, fun _ => (by decide : 1 ≤ 100)⟩ ((v5.same s5).same s7) d7
        exact ⟨F, vs, _, rfl, rfl, q1, q2, _, _, _, _, _, ⟨rfl, rfl, rfl, rfl, rfl⟩, q3, q4, q5, _, upd_same, _, q6, q7, q8⟩
      · have hkf : kd = "func" := by
          have := hkd
          simp only [kinds4, List.mem_cons, List.not_mem_nil, or_false] at this
          rcases this with e | e | e | e
          · exact absurd e hk1
          · exact absurd e hk2
          · exact absurd e hk3
          · exact e
        subst hkf
        refine ⟨tyL (v5 _ _ hFt (s4 _ _ rF3)), ?_⟩
        refine newL_go fun p5 H6 n5 s5 r5 => ?_
        have v46 := v5.same s5
        obtain ⟨wd, hw, ew⟩ := atI_ex (l := [("open" : Str), "own"]) a0 a1
        refine ixM_go r5 (atI_map (f := V.str) ew) ?_
        refine ⟨t, a, 999900000, hs, rfl, by decide, (T5.same s5).mono (by decide), ⟨us, .inl (.inl (v46 _ _ hat (s4 _ _ ra3))), DpAll.keep (v46.tu T4) da4 (pl_heads hs)⟩, hat, by omega, hq, fun rv rows H7 g l3 wr d7 T7 v7 => ?_⟩
        refine newTD_go (K := K) (ds := [.str "func", .str idn, .str wd, .tuple (encR rows)]) (.cons (.str _) (.cons (.str _) (.cons (.str _) (.cons d7 .nil)))) (by simp only [PlAll, Pl, pl_r, Bool.and_true]) (by simp only [List.length_cons, List.length_nil]; omega) fun p8 H8 n8 s8 d8 => ?_
        obtain ⟨q1, q2, q3, q4, q5, q6, q7, q8⟩ := fin (.func idn wd rows) H8 _ (ptf_func hid (by simpa using hw) g l3 wr) ((v46.trans v7).same s8) d8
        exact ⟨F, vs, _, rfl, rfl, q1, q2, _, _, _, _, _, ⟨rfl, rfl, rfl, rfl, rfl⟩, q3, q4, q5, _, upd_same, _, q6, q7, q8⟩
    · rintro σ' H3 ⟨o, o1, o2, o3, o4, vs, ps, rfl, s3, ra3, da3, rF3, dF3, hpl, hpo⟩
      (try simp only [tIxO, rIsB, rNotB, tSeq, tIfS, tTest, tB, tOp, tUn, tVar, tC, tAsg, gName, tRet, tRetN, tCB, tCons, tNil, tLst_eq, tTup_eq, tDNewK_eq, tNext, tPar, tM0, tM1, tSl, tNoPart, tPart, rSlS, tAug, tAugS, tExf_eq, ipI, tChain, tCall, tDrop, tBM, tAnd, tOr, tNot, tAndV, tOrV, tNotV, tIf, tIsN, tNotN, rI, rI0, rU, rEq, rNe, gSub, cx_K, cx_K2, L2.start, wipe, scal_ii, scal_ss, scal_bb, scal_is, scal_si, scal_nn, List.map_cons, List.map_nil, List.length_cons, List.length_nil, List.cons_append, List.nil_append, List.append_nil, List.replicate, List.getElem?_cons_zero, List.getElem?_cons_succ, Option.some.injEq, exists_and_left, exists_eq_left', exists_eq_left, exists_eq, exists_eq', V.int.injEq, V.ref.injEq, V.str.injEq, V.bl.injEq, List.cons.injEq, and_true, true_and, false_and, exists_false, or_false, false_or, reduceCtorEq, List.set_cons_zero, List.set_cons_succ, Nat.reduceAdd, Nat.reduceSub, Int.reduceToNat, decide_eq_true_eq, if_true, if_false, Bool.false_eq_true, Bool.not_true, Bool.not_false, Bool.true_eq_false, ite_false, ite_true, ne_eq, not_false_eq_true, Int.reduceEq])
      refine ⟨_, .inl ⟨.inl (.inl rF3), fun p hp0 => ?_⟩⟩
      exact q _ _ ps hpo (psw_of hpo (by omega)) (by omega) (by omega) (.tup (.inl (.inl upd_same)) (DpAll.keep (Same.tu (same_new hp0)) dF3 (pl_ps ps))) (s3.trans (same_new hp0))

end
end Own

set_option Elab.async false
set_option linter.all false
set_option maxRecDepth 100000
set_option maxHeartbeats 4000000
namespace Own
open PySem PySem.Spec PyProof.Rows L2
section
variable {P : Program} {w : World} {K : PySem.W.Frag} {mg : Str → Option Value} {base : Heap}
/-- the rows of a module -/
def rw0 (m : Nat × Ln) : Rw := (m.1, m.2.node.getD (.st .fail), m.2.path.headD 0)
end
end Own

set_option Elab.async false
set_option linter.all false
set_option maxRecDepth 100000
set_option maxHeartbeats 4000000
namespace Own
open PySem PySem.Spec PyProof.Rows L2
section
variable {P : Program} {w : World} {K : PySem.W.Frag} {mg : Str → Option Value} {base : Heap}
theorem layAll_map {α : Type} (f : α → PyData) : ∀ (l : List α), (∀ x ∈ l, PyData.canLay0 (f x) = true) → PyData.canLayAll0 (l.map f) = true
  | [], _ => rfl
  | x :: l, h => by
    rw [List.map_cons, PyData.canLayAll0, h x (.head _), layAll_map f l fun y hy => h y (.tail _ hy)]
    rfl
theorem depAll_map {α : Type} (f : α → PyData) {m : Nat} : ∀ (l : List α), (∀ x ∈ l, PyData.depth (f x) ≤ m) → PyData.depthAll (l.map f) ≤ m
  | [], _ => by rw [List.map_nil, PyData.depthAll]; exact Nat.zero_le _
  | x :: l, h => by
    have a := h x (.head _)
    have b := depAll_map f l fun y hy => h y (.tail _ hy)
    simp only [List.map_cons, PyData.depthAll]
    omega
theorem wok {x : Str} (h : isWord x = true) : PyData.canLay0 (.str x) = true := by
  rw [PyData.canLay0]
  exact word_ok h
theorem iok {x : Str} (h : isIdent x = true) : PyData.canLay0 (.str x) = true := wok (idw h)
theorem sdep (x : Str) : PyData.depth (.str x) ≤ 1 := by
  rw [PyData.depth]
  decide
theorem c_lay {c : List Str} (h : CapW c) : PyData.canLay0 (encC c) = true ∧ PyData.depth (encC c) ≤ 2 := by
  constructor
  · rw [encC, PyData.canLay0]
    exact layAll_map _ _ fun x hx => iok (h.1 x hx)
  · rw [encC, PyData.depth]
    have := depAll_map PyData.str c (m := 1) fun x _ => sdep x
    omega
theorem w_lay {v : Wth} (h : WthW v) : PyData.canLay0 (encW v) = true ∧ PyData.depth (encW v) ≤ 2 := by
  cases v with
  | word x =>
    constructor
    · have a := wok h
      have b : PyData.canLay0 (.str "word") = true := by decide +kernel
      simp only [encW, PyData.canLay0, PyData.canLayAll0] at *
      rw [a, b]
      rfl
    · simp [encW, PyData.depth, PyData.depthAll]
  | of x =>
    constructor
    · have a := iok h
      have b : PyData.canLay0 (.str "of") = true := by decide +kernel
      simp only [encW, PyData.canLay0, PyData.canLayAll0] at *
      rw [a, b]
      rfl
    · simp [encW, PyData.depth, PyData.depthAll]
theorem first_lay (s : Stm) : PyData.canLay0 (.str s.first) = true := by
  have z : ∀ f ∈ (["look", "bind", "call", "keep", "take", "shift", "run", "drop", "apart", "when", "held", "fail", "guard"] : List Str), PyData.canLay0 (.str f) = true := by decide +kernel
  exact z _ (by cases s <;> simp [Stm.first])
theorem LayD.mono {m k : Nat} {d : PyData} (h : LayD m d) (le : m ≤ k) : LayD k d := ⟨h.1, Nat.le_trans h.2 le⟩
theorem lay_s : ∀ (n : Nat) (s : Stm), StW n s → LayD (2 * n + 2) (encS s) := by
  intro n
  induction n with
  | zero => exact fun s h => h.elim
  | succ n ih =>
    intro s h
    obtain ⟨o, b⟩ := h
    have st : ∀ x, PyData.canLay0 (.str x) = true → LayD (2 * n + 3) (.str x) := fun x h => ⟨h, Nat.le_trans (sdep x) (by omega)⟩
    have ro : ∀ r ∈ s.blocks, LayD (2 * n + 3) (.tuple (encR r)) := fun r hr => by
      rw [encR_map]
      exact .tup fun d hd => by
        obtain ⟨x, hx, rfl⟩ := List.mem_map.mp hd
        exact ih x ((b r hr).2 x hx)
    have ca : ∀ c, CapW c → LayD (2 * n + 3) (encC c) := fun c h => ⟨(c_lay h).1, Nat.le_trans (c_lay h).2 (by omega)⟩
    have fi := st _ (first_lay s)
    suffices ∃ ds, encS s = .tuple ds ∧ ∀ d ∈ ds, LayD (2 * n + 3) d by
      obtain ⟨ds, e, h⟩ := this
      rw [e]
      exact .tup h
    have two : ∀ {a b : PyData}, LayD (2 * n + 3) a → LayD (2 * n + 3) b → ∀ d ∈ [a, b], LayD (2 * n + 3) d := fun ha hb d hd => by
      rcases List.mem_cons.mp hd with rfl | hd
      · exact ha
      · cases List.mem_singleton.mp hd; exact hb
    have add : ∀ {a : PyData} {ds : List PyData}, LayD (2 * n + 3) a → (∀ d ∈ ds, LayD (2 * n + 3) d) → ∀ d ∈ a :: ds, LayD (2 * n + 3) d := fun ha hb d hd => by
      rcases List.mem_cons.mp hd with rfl | hd
      · exact ha
      · exact hb d hd
    cases s with
    | look w i => exact ⟨_, rfl, add fi (two (st _ (wok o.1)) (st _ (iok o.2)))⟩
    | bind i v r => exact ⟨_, rfl, add fi (add (st _ (iok o.1)) (two ⟨(w_lay o.2).1, Nat.le_trans (w_lay o.2).2 (by omega)⟩ (ro r (.head _))))⟩
    | call i => exact ⟨_, rfl, two fi (st _ (iok o))⟩
    | keep s f c => exact ⟨_, rfl, add fi (add (st _ (iok o.1)) (two (st _ (iok o.2.1)) (ca _ o.2.2)))⟩
    | take s c => exact ⟨_, rfl, add fi (two (st _ (iok o.1)) (ca _ o.2))⟩
    | shift s f c => exact ⟨_, rfl, add fi (add (st _ (iok o.1)) (two (st _ (iok o.2.1)) (ca _ o.2.2)))⟩
    | run s => exact ⟨_, rfl, two fi (st _ (iok o))⟩
    | drop s => exact ⟨_, rfl, two fi (st _ (iok o))⟩
    | apart r => exact ⟨_, rfl, two fi (ro r (.head _))⟩
    | when f r1 r2 => exact ⟨_, rfl, add fi (add (st _ (iok o)) (two (ro r1 (.head _)) (ro r2 (.tail _ (.head _)))))⟩
    | held f r1 r2 => exact ⟨_, rfl, add fi (add (st _ (iok o)) (two (ro r1 (.head _)) (ro r2 (.tail _ (.head _)))))⟩
    | fail => exact ⟨_, rfl, add fi fun d hd => by cases hd⟩
    | guard r1 r2 => exact ⟨_, rfl, add fi (two (ro r1 (.head _)) (ro r2 (.tail _ (.head _))))⟩
theorem lay_r {n : Nat} {rows : List Stm} (h : ∀ r ∈ rows, StW n r) : LayD (2 * n + 3) (.tuple (encR rows)) := by
  rw [encR_map]
  exact .tup fun d hd => by
    obtain ⟨x, hx, rfl⟩ := List.mem_map.mp hd
    exact lay_s n x (h x hx)
theorem lay_p {t : Prt} (h : PtW t) : LayD 23 (encPt t) := by
  have st : ∀ x, PyData.canLay0 (.str x) = true → LayD 22 (.str x) := fun x h => ⟨h, Nat.le_trans (sdep x) (by decide)⟩
  have z : ∀ f ∈ (["name", "flag", "slot", "func", "on", "off", "open", "own"] : List Str), LayD 22 (.str f) := fun f hf => st f ((show ∀ f ∈ (["name", "flag", "slot", "func", "on", "off", "open", "own"] : List Str), PyData.canLay0 (.str f) = true by decide +kernel) f hf)
  have add : ∀ {a : PyData} {ds : List PyData}, LayD 22 a → (∀ d ∈ ds, LayD 22 d) → ∀ d ∈ a :: ds, LayD 22 d := fun ha hb d hd => by
    rcases List.mem_cons.mp hd with rfl | hd
    · exact ha
    · exact hb d hd
  have nil : ∀ d ∈ ([] : List PyData), LayD 22 d := fun d hd => by cases hd
  cases t with
  | name i x => exact .tup (add (z _ (by decide +kernel)) (add (st _ (iok h.1)) (add (st _ (wok h.2)) nil)))
  | flag i x => exact .tup (add (z _ (by decide +kernel)) (add (st _ (iok h.1)) (add (by rcases h.2 with rfl | rfl <;> exact z _ (by decide +kernel)) nil)))
  | slot i x => exact .tup (add (z _ (by decide +kernel)) (add (st _ (iok h.1)) (add (by rcases h.2 with rfl | rfl <;> exact z _ (by decide +kernel)) nil)))
  | func i x rows => exact .tup (add (z _ (by decide +kernel)) (add (st _ (iok h.1)) (add (by rcases h.2.1 with rfl | rfl <;> exact z _ (by decide +kernel)) (add ((lay_r h.2.2.2).mono (by decide)) nil))))
theorem LayD.shaped {m : Nat} {d : PyData} (h : LayD m d) (le : m ≤ 64) : SeqAt.shaped d = true := by
  show (PyData.canLay0 d && decide (PyData.depth d ≤ 64)) = true
  rw [h.1, decide_eq_true (Nat.le_trans h.2 le)]
  rfl
theorem ps_shaped {ps : List Prt} (h : ∀ t ∈ ps, PtW t) : LayD 24 (encPs ps) := .tup fun d hd => by
  obtain ⟨t, ht, rfl⟩ := List.mem_map.mp hd
  exact lay_p (h t ht)
theorem none_same {H H2 : Hp} {p : Addr} (s : Same H H2) (n : H2 p = none) : H p = none := by
  cases e : H p with
  | none => rfl
  | some o => rw [s _ _ e] at n; cases n
/-- a tuple's own != () -/
theorem neT0_go {K : PySem.W.Frag} {p : V} {e : Addr} {ds : List PyData} {H : Hp} {Q : VK} (h : Dp K H p (.tuple ds)) (he : SqT K H e []) (ho : SeqAt.shaped (.tuple ds) = true) (q : Q (.bl (!ds.isEmpty)) H) : rNeD K p (.ref e) H Q := by
  refine ⟨.tuple ds, .tuple [], h, .tup he .nil, ho, rfl, ?_⟩
  have e : (PyData.eqv (.tuple ds) (.tuple [])) = ds.isEmpty := by cases ds <;> rfl
  rw [e]
  exact q
theorem atI_end {xs : List V} {k : Nat} (h1 : 1 ≤ k) (h2 : k ≤ xs.length) : atI xs (-(k : Int)) = xs[xs.length - k]? := by
  have e : ixN xs.length (-(k : Int)) = some (xs.length - k) := by
    unfold ixN
    rw [if_neg (by omega)]
    first
      | rw [if_pos (by omega)]; congr 1; omega
      | (split <;> first | (congr 1; omega) | omega)
  unfold atI
  rw [e]
  rfl
theorem ixE_go {K : PySem.W.Frag} {H : Hp} {v : V} {pre post : List PyData} {d : PyData} {i : Int} {Q : VK} (h : Dp K H v (.tuple (pre ++ d :: post))) (hi : i = -((post.length : Int) + 1)) (q : ∀ z, Dp K H z d → Q z H) : rIxT K v (.int i) H Q := by
  obtain ⟨a, xs, rfl, ha, hx⟩ := Dp.tupD h
  have hl := DpAll.len hx
  rw [List.length_append, List.length_cons] at hl
  obtain ⟨z, hz, dz⟩ := DpAll.at hx (i := pre.length) (d := d) (by rw [List.getElem?_append_right (Nat.le_refl _), Nat.sub_self]; rfl)
  refine ixT2_go ha ?_ (q z dz)
  rw [hi, show -((post.length : Int) + 1) = -((post.length + 1 : Nat) : Int) by omega, atI_end (by omega) (by omega), show xs.length - (post.length + 1) = pre.length by omega]
  exact hz
theorem forTW_go {K : PySem.W.Frag} {a : Addr} {xs : List V} {wi : TI} {g : TG} {tb : TS} {D : Ends} {σ : L2.St} {H : Hp} (Pv : Nat → L2.St → Hp → Prop) (ht : ∀ R : It → Hp → Prop, R (Itt K a) H → wi σ H R) (hG : ∀ i σ2 H2, i ≤ xs.length → Pv i σ2 H2 → SqT K H2 a xs) (h0 : Pv 0 σ H)
    (hs : ∀ i x σ2 H2, xs[i]? = some x → Pv i σ2 H2 → g x σ2 H2 fun σ3 H3 => tb { D with nx := Pv (i + 1), ct := Pv (i + 1), bk := D.nx } σ3 H3) (hd : ∀ σ2 H2, Pv xs.length σ2 H2 → D.nx σ2 H2) : tFor wi g tb D σ H :=
  ht _ (for_it (walk_tup (K := K) (a := a) (xs := xs)) Pv h0 hG (fun i x σ2 H2 H3 hi p y => by
    obtain ⟨rfl, hx⟩ := y
    exact hs i x σ2 _ hx p) hd)
theorem eqNilX_go {K : PySem.W.Frag} {neg : Bool} {p q : Addr} {xs : List V} {H : Hp} {Q : VK} (h : SqL K H p xs) (he : SqL K H q []) (k : Q (.bl (if neg then !xs.isEmpty else xs.isEmpty)) H) : rEqNil K neg (.ref p) (.ref q) H Q := ⟨p, q, xs, rfl, rfl, h, he, k⟩

theorem blk_cases (s : Stm) : ((["bind", "apart"] : List Str).contains s.first = true ∧ ∃ b pre, s.blocks = [b] ∧ encS s = .tuple (pre ++ [.tuple (encR b)])) ∨ ((["bind", "apart"] : List Str).contains s.first = false ∧ (["when", "held", "guard"] : List Str).contains s.first = true ∧ ∃ b1 b2 pre, s.blocks = [b1, b2] ∧ encS s = .tuple (pre ++ [.tuple (encR b1), .tuple (encR b2)])) ∨ ((["bind", "apart"] : List Str).contains s.first = false ∧ (["when", "held", "guard"] : List Str).contains s.first = false ∧ s.blocks = []) := by
  cases s with
  | bind i v r => exact .inl ⟨by simp only [Stm.first]; decide +kernel, _, [.str "bind", .str i, encW v], rfl, rfl⟩
  | apart r => exact .inl ⟨by simp only [Stm.first]; decide +kernel, _, [.str "apart"], rfl, rfl⟩
  | when f r1 r2 => exact .inr (.inl ⟨by simp only [Stm.first]; decide +kernel, by simp only [Stm.first]; decide +kernel, _, _, [.str "when", .str f], rfl, rfl⟩)
  | held f r1 r2 => exact .inr (.inl ⟨by simp only [Stm.first]; decide +kernel, by simp only [Stm.first]; decide +kernel, _, _, [.str "held", .str f], rfl, rfl⟩)
  | guard r1 r2 => exact .inr (.inl ⟨by simp only [Stm.first]; decide +kernel, by simp only [Stm.first]; decide +kernel, _, _, [.str "guard"], rfl, rfl⟩)
  | _ => exact .inr (.inr ⟨by simp only [Stm.first]; decide +kernel, by simp only [Stm.first]; decide +kernel, rfl⟩)
theorem enc_first (s : Stm) : ∃ ds, encS s = .tuple (.str s.first :: ds) := by cases s <;> exact ⟨_, rfl⟩
def spLBlocks (K : PySem.W.Frag) : Sp := fun vs H Q _ => ∃ (v : V) (s : Stm), vs = [v] ∧ Dp K H v (encS s) ∧ ∀ b ys H2, H b = none → Same H H2 → H2 b = some (.lst ys) → DpAll K H2 ys (s.blocks.map fun b => PyData.tuple (encR b)) → Q (.ref b) H2
theorem ok_l_blocks (T : Txt K mg w) : FnOk P w K mg base CX0 1 T.d_l_blocks.a T.d_l_blocks.d ["_law_statement"] (spLBlocks K) := by
  refine T.d_l_blocks.F.ok sc_l_blocks (fun vs H Q E h => ?_) (fun cdv A outer s H vs Q E hr h => ?_)
  · obtain ⟨_, _, rfl, _⟩ := h
    rfl
  · obtain ⟨v, st, rfl, hd, q⟩ := h
    have hu := hr.units
    refine ⟨_, (pss_cons (ps_if (pt_cmpR op_in_seq (pe_ix ix_tup (pv 0) pe_int (fun _ _ => rfl)) (pe_tup (pa_cons pe_str (pa_cons pe_str pa_nil))) (by rfl)) (pss_one (ps_ret (pe_lst (pa_cons (pe_ix ix_tup (pv 0) (pe_un un_neg pe_int) (fun _ _ => rfl)) pa_nil)))) pss_nil)
      (pss_cons (ps_if (pt_cmpR op_in_seq (pe_ix ix_tup (pv 0) pe_int (fun _ _ => rfl)) (pe_tup (pa_cons pe_str (pa_cons pe_str (pa_cons pe_str pa_nil)))) (by rfl)) (pss_one (ps_ret (pe_lst (pa_cons (pe_ix ix_tup (pv 0) (pe_un un_neg pe_int) (fun _ _ => rfl)) (pa_cons (pe_ix ix_tup (pv 0) (pe_un un_neg pe_int) (fun _ _ => rfl)) pa_nil))))) pss_nil)
      (pss_one (ps_ret (pe_lst pa_nil))))), ?_⟩
    (try simp only [tIxO, rIsB, rNotB, tSeq, tIfS, tTest, tB, tOp, tUn, tVar, tC, tAsg, gName, tRet, tRetN, tCB, tCons, tNil, tLst_eq, tTup_eq, tDNewK_eq, tNext, tPar, tM0, tM1, tSl, tNoPart, tPart, rSlS, tAug, tAugS, tExf_eq, ipI, tChain, tCall, tDrop, tBM, tAnd, tOr, tNot, tAndV, tOrV, tNotV, tIf, tIsN, tNotN, rI, rI0, rU, rEq, rNe, gSub, cx_K, cx_K2, L2.start, wipe, scal_ii, scal_ss, scal_bb, scal_is, scal_si, scal_nn, List.map_cons, List.map_nil, List.length_cons, List.length_nil, List.cons_append, List.nil_append, List.append_nil, List.replicate, List.getElem?_cons_zero, List.getElem?_cons_succ, Option.some.injEq, exists_and_left, exists_eq_left', exists_eq_left, exists_eq, exists_eq', V.int.injEq, V.ref.injEq, V.str.injEq, V.bl.injEq, List.cons.injEq, and_true, true_and, false_and, exists_false, or_false, false_or, reduceCtorEq, List.set_cons_zero, List.set_cons_succ, Nat.reduceAdd, Nat.reduceSub, Int.reduceToNat, decide_eq_true_eq, if_true, if_false, Bool.false_eq_true, Bool.not_true, Bool.not_false, Bool.true_eq_false, ite_false, ite_true, ne_eq, not_false_eq_true, Int.reduceEq])
    obtain ⟨ds, e⟩ := enc_first st
    have h0 : Dp K H v (.tuple (.str st.first :: ds)) := e ▸ hd
    refine ixD_go (j := 0) h0 rfl rfl fun y dy => ?_
    cases Dp.strD dy
    refine newT_go fun p1 H1 n1 s1 r1 => inT_go (l := ["bind", "apart"]) (.inl (.inl r1)) ⟨_, rfl, ?_⟩
    have h1 := dp_same s1 h0
    have d1 := dp_same s1 hd
    rcases blk_cases st with ⟨c1, b, pre, eb, ee⟩ | ⟨c1, c2, b1, b2, pre, eb, ee⟩ | ⟨c1, c2, eb⟩
    · rw [ee] at d1
      refine ite2 (fun _ => ?_) (fun z => absurd c1 z)
      refine ixE_go (post := []) d1 rfl fun y dy => newL_go fun p2 H2 n2 s2 r2 => ?_
      refine q p2 _ H2 (none_same s1 n2) (s1.trans s2) r2 ?_
      rw [eb]
      exact .cons (dp_same s2 dy) .nil
    · rw [ee] at d1
      refine ite2 (fun z => absurd z (by rw [c1]; decide)) (fun _ => ?_)
      refine ixD_go (j := 0) h1 rfl rfl fun y dy => ?_
      cases Dp.strD dy
      refine newT_go fun p2 H2 n2 s2 r2 => inT_go (l := ["when", "held", "guard"]) (.inl (.inl r2)) ⟨_, rfl, ?_⟩
      have d2 := dp_same s2 d1
      refine ite2 (fun _ => ?_) (fun z => absurd c2 z)
      refine ixE_go (post := [.tuple (encR b2)]) d2 rfl fun y dy => ?_
      refine ixE_go (pre := pre ++ [.tuple (encR b1)]) (post := []) (d := .tuple (encR b2)) (by rw [List.append_assoc]; exact d2) rfl fun y2 dy2 => newL_go fun p3 H3 n3 s3 r3 => ?_
      refine q p3 _ H3 (none_same (s1.trans s2) n3) ((s1.trans s2).trans s3) r3 ?_
      rw [eb]
      exact .cons (dp_same s3 dy) (.cons (dp_same s3 dy2) .nil)
    · refine ite2 (fun z => absurd z (by rw [c1]; decide)) (fun _ => ?_)
      refine ixD_go (j := 0) h1 rfl rfl fun y dy => ?_
      cases Dp.strD dy
      refine newT_go fun p2 H2 n2 s2 r2 => inT_go (l := ["when", "held", "guard"]) (.inl (.inl r2)) ⟨_, rfl, ?_⟩
      refine ite2 (fun z => absurd z (by rw [c2]; decide)) (fun _ => ?_)
      refine newL_go fun p3 H3 n3 s3 r3 => ?_
      refine q p3 _ H3 (none_same (s1.trans s2) n3) ((s1.trans s2).trans s3) r3 ?_
      rw [eb]
      exact .nil

end
end Own

set_option Elab.async false
set_option linter.all false
set_option maxRecDepth 100000
set_option maxHeartbeats 4000000
namespace Own
open PySem PySem.Spec PyProof.Rows L2
section
variable {P : Program} {w : World} {K : PySem.W.Frag} {mg : Str → Option Value} {base : Heap}
/-- the lines of a statement's blocks, told as the law walks them -/
def blkL (p : List Nat) (s : Stm) : Nat → List Ln
  | 0 => []
  | 1 => match s.blocks with
    | b :: _ => linesR (p ++ [s.atB]) 0 b
    | [] => []
  | _ => match s.blocks with
    | [b] => linesR (p ++ [s.atB]) 0 b
    | b :: c :: _ => linesR (p ++ [s.atB]) 0 b ++ (if c.isEmpty then [] else divL p s.divider :: linesR (p ++ [s.atB + 1]) 0 c)
    | [] => []
theorem blkL_end (p : List Nat) (s : Stm) : linesS p s = hdL p s :: (blkL p s s.blocks.length ++ if s.blocks.isEmpty then [] else [endL p]) := by
  rw [linesS_eq]
  unfold blkL
  cases e : s.blocks with
  | nil => rfl
  | cons b r =>
    cases r with
    | nil => rfl
    | cons c r =>
      cases r <;> simp
end
end Own

set_option Elab.async false
set_option linter.all false
set_option maxRecDepth 100000
set_option maxHeartbeats 4000000

set_option Elab.async false
set_option linter.all false
set_option maxRecDepth 100000
set_option maxHeartbeats 4000000
namespace Own
open PySem PySem.Spec PyProof.Rows L2
section
variable {P : Program} {w : World} {K : PySem.W.Frag} {mg : Str → Option Value} {base : Heap}
theorem ok_fitM (T : Txt K mg w) : FnOk P w K mg base CX0 32 T.d_fit.a T.d_fit.d ["roles", "values", "blocks"] (fun vs H Q _ => ∃ (ra va : Addr) (rs : List Str) (xs : List V) (ds : List PyData), vs = [.ref ra, .ref va, .int 0] ∧ SqL K H ra (rs.map V.str) ∧ SqT K H va xs ∧ DpAll K H xs ds ∧ FitL (StD 9) rs ds ∧ rs.length ≤ 1000 ∧ ∀ H', Same H H' → Q (.bl true) H') := by
  have ih := ok_fits_of (P := P) (w := w) (K := K) (mg := mg) (base := base) T (ok_is_statement_at T 9)
  refine T.d_fit.F.ok sc_fit (fun vs H Q E h => ?_) (fun cdv A outer s H vs Q E hr h => ?_)
  · obtain ⟨_, _, _, _, _, rfl, _⟩ := h
    rfl
  · obtain ⟨ra, va, rs, xs, ds, rfl, hrs, hxs, hd, hf, few, q⟩ := h
    have hu := hr.units
    refine ⟨_, (pss_cons (ps_if (pt_cmpR op_ne (pe_callB call_lenL (by rfl) T.z_len (by decide +kernel) (pa_cons (pv 0) pa_nil)) (pe_callB call_lenT (by rfl) T.z_len (by decide +kernel) (pa_cons (pv 1) pa_nil)) (nomark _)) (pss_one (ps_ret pe_bl)) pss_nil)
      (pss_one (ps_ret (pe_callB (cr_all rfl) (by rfl) T.z_all (by decide +kernel) (pa_cons (pe_lc (own := [("role", 3), ("value", 4)]) (tt := tYes) (by rfl) sc_fit.nd (pi_zipM (by rfl) T.z_zip (pa_cons (pv 0) (pa_cons (pv 1) pa_nil))) (blkOk_by (own := [("role", 3), ("value", 4)]) (N := ["roles", "values", "blocks", "role", "value"]) (sc := defScope s_fit) (by decide +kernel)) (fun _ _ _ _ _ => (pgB_tup (n := 2) (by rfl) (pgs_cons (pg_name (i := 3) sc_fit.nd rfl (Or.inl rfl)) (pgs_cons (pg_name (i := 4) sc_fit.nd rfl (Or.inl rfl)) pgs_nil)))) (fun _ _ _ _ _ => pts_nil) (fun _ _ _ _ _ => (pe_call ih (hr.mono (by omega)) (by rfl) T.d_fits.g T.d_fits.F.kp T.d_fits.b .nil pass0 (pa_cons (pv 3) (pa_cons (pv 4) (pa_cons (pv 2) pa_nil)))))) pa_nil))))), ?_⟩
    (try simp only [tIxO, rIsB, rNotB, tSeq, tIfS, tTest, tB, tOp, tUn, tVar, tC, tAsg, gName, tRet, tRetN, tCB, tCons, tNil, tLst_eq, tTup_eq, tDNewK_eq, tNext, tPar, tM0, tM1, tSl, tNoPart, tPart, rSlS, tAug, tAugS, tExf_eq, ipI, tChain, tCall, tDrop, tBM, tAnd, tOr, tNot, tAndV, tOrV, tNotV, tIf, tIsN, tNotN, rI, rI0, rU, rEq, rNe, gSub, cx_K, cx_K2, L2.start, wipe, scal_ii, scal_ss, scal_bb, scal_is, scal_si, scal_nn, List.map_cons, List.map_nil, List.length_cons, List.length_nil, List.cons_append, List.nil_append, List.append_nil, List.replicate, List.getElem?_cons_zero, List.getElem?_cons_succ, Option.some.injEq, exists_and_left, exists_eq_left', exists_eq_left, exists_eq, exists_eq', V.int.injEq, V.ref.injEq, V.str.injEq, V.bl.injEq, List.cons.injEq, and_true, true_and, false_and, exists_false, or_false, false_or, reduceCtorEq, List.set_cons_zero, List.set_cons_succ, Nat.reduceAdd, Nat.reduceSub, Int.reduceToNat, decide_eq_true_eq, if_true, if_false, Bool.false_eq_true, Bool.not_true, Bool.not_false, Bool.true_eq_false, ite_false, ite_true, ne_eq, not_false_eq_true, Int.reduceEq])
    have lr := hf.len
    have lx := DpAll.len hd
    refine ⟨_, hrs, xs, hxs, ite2 (fun z => ?_) (fun _ => ?_)⟩
    · rw [List.length_map] at z
      have e : ((rs.length : Nat) : Int) = ((xs.length : Nat) : Int) := by omega
      simp [e] at z
    · refine lcZM_go (K := K) (a := ra) (b := va) (xs := rs.map V.str) (ys := xs) (by rw [List.length_map]; omega) (fun _ => .bl true) (fun R r => ⟨_, rfl, _, rfl, ra, va, _, xs, rfl, hrs, hxs, r⟩) hrs hxs (by rw [List.length_map]; omega) (fun i x y T2 H2 R hx hy s e r => ?_) (fun D H2 nD s rD => ?_)
      · rw [List.getElem?_map] at hx
        obtain ⟨ro, hro, rfl⟩ := Option.map_eq_some_iff.mp hx
        have hi : i < xs.length := (List.getElem?_eq_some_iff.mp hy).1
        obtain ⟨d, hd2⟩ : ∃ d, ds[i]? = some d := ⟨_, List.getElem?_eq_getElem (by omega)⟩
        obtain ⟨y2, hy2, dp⟩ := DpAll.at hd hd2
        rw [hy] at hy2
        cases hy2
        refine ⟨_, _, rfl, .inl (.inl e), rfl, _, _, rfl, _, _, rfl, rfl, rfl, ?_⟩
        (try simp only [tIxO, rIsB, rNotB, tSeq, tIfS, tTest, tB, tOp, tUn, tVar, tC, tAsg, gName, tRet, tRetN, tCB, tCons, tNil, tLst_eq, tTup_eq, tDNewK_eq, tNext, tPar, tM0, tM1, tSl, tNoPart, tPart, rSlS, tAug, tAugS, tExf_eq, ipI, tChain, tCall, tDrop, tBM, tAnd, tOr, tNot, tAndV, tOrV, tNotV, tIf, tIsN, tNotN, rI, rI0, rU, rEq, rNe, gSub, cx_K, cx_K2, L2.start, wipe, scal_ii, scal_ss, scal_bb, scal_is, scal_si, scal_nn, List.map_cons, List.map_nil, List.length_cons, List.length_nil, List.cons_append, List.nil_append, List.append_nil, List.replicate, List.getElem?_cons_zero, List.getElem?_cons_succ, Option.some.injEq, exists_and_left, exists_eq_left', exists_eq_left, exists_eq, exists_eq', V.int.injEq, V.ref.injEq, V.str.injEq, V.bl.injEq, List.cons.injEq, and_true, true_and, false_and, exists_false, or_false, false_or, reduceCtorEq, List.set_cons_zero, List.set_cons_succ, Nat.reduceAdd, Nat.reduceSub, Int.reduceToNat, decide_eq_true_eq, if_true, if_false, Bool.false_eq_true, Bool.not_true, Bool.not_false, Bool.true_eq_false, ite_false, ite_true, ne_eq, not_false_eq_true, Int.reduceEq])
        exact ⟨ro, y, d, rfl, Nat.le_refl _, dp_same s dp, hf.at hro hd2, fun H3 s3 => r H3 s3⟩
      · have e : ((List.range (rs.map V.str).length).map fun _ => V.bl true) = (List.replicate rs.length true).map V.bl := by
          rw [List.length_map, List.map_const', List.length_range, List.map_replicate]
        rw [e] at rD
        refine ⟨D, _, rfl, .inl (.inl rD), ?_⟩
        rw [all_rep]
        exact q H2 s
theorem lcTB_go {K : PySem.W.Frag} {tl : TE} {g : TG} {tt : TT} {te : TE} {vs : List Nat} {σ : L2.St} {H : Hp} {Q : VK} (C : Addr → List V → Hp → Prop) (hC : ∀ a xs H1, C a xs H1 → SqT K H1 a xs) (ht : ∀ Q : VK, (∀ a xs H1, C a xs H1 → Q (.ref a) H1) → tl σ H Q) (k : ∀ a xs H1, C a xs H1 → tLc (fun _ H R => R (Itt K a) H) g tt te vs σ H1 Q) : tLc (iTup K tl) g tt te vs σ H Q :=
  ht _ fun a xs H1 c => ⟨a, rfl, ⟨xs, hC _ _ _ c⟩, k a xs H1 c⟩
def lineR (rs : List Str) : List Str := rs.filter fun r => !decide (r = "rows")
def spLnR (K : PySem.W.Frag) : Sp := fun vs H Q _ => ∃ (f : Str) (rs : List Str), vs = [.str f] ∧ ((f, rs) ∈ V_PARTS ∨ (f, rs) ∈ V_STATEMENTS) ∧ ∀ b H2, H b = none → Same H H2 → H2 b = some (.lst ((lineR rs).map V.str)) → Q (.ref b) H2
theorem ok_line_roles (T : Txt K mg w) : FnOk P w K mg base CX0 2 T.d_line_roles.a T.d_line_roles.d ["first"] (spLnR K) := by
  refine T.d_line_roles.F.ok sc_line_roles (fun vs H Q E h => ?_) (fun cdv A outer s H vs Q E hr h => ?_)
  · obtain ⟨_, _, rfl, _⟩ := h
    rfl
  · obtain ⟨f, rs, rfl, mem, q⟩ := h
    have hu := hr.units
    refine ⟨_, (pss_one (ps_ret (pe_lc (own := [("role", 1)]) (g := gName 1) (by rfl) sc_line_roles.nd (pi_tup (pe_call (ok_roles_of T) (hr.mono (by decide)) (by rfl) T.d_roles_of.g T.d_roles_of.F.kp T.d_roles_of.b .nil pass0 (pa_cons (pv 0) pa_nil))) (blkOk_by (own := [("role", 1)]) (N := ["first", "role"]) (sc := defScope s_line_roles) (by decide +kernel)) (fun _ _ _ _ _ => pg_name (i := 1) sc_line_roles.nd rfl (Or.inl rfl)) (fun _ _ _ _ _ => pts_one (pt_cmpR op_ne (pv 1) pe_str (nomark _))) (fun _ _ _ _ _ => (pv 1))))), ?_⟩
    refine lcTB_go (fun a xs H1 => H1 = H ∧ xs = rs.map V.str ∧ ∀ H2, SqT K H2 a xs) (fun _ _ _ c => c.2.2 _) (fun R r => ?_) (fun a xs H1 c => ?_)
    · (try simp only [tIxO, rIsB, rNotB, tSeq, tIfS, tTest, tB, tOp, tUn, tVar, tC, tAsg, gName, tRet, tRetN, tCB, tCons, tNil, tLst_eq, tTup_eq, tDNewK_eq, tNext, tPar, tM0, tM1, tSl, tNoPart, tPart, rSlS, tAug, tAugS, tExf_eq, ipI, tChain, tCall, tDrop, tBM, tAnd, tOr, tNot, tAndV, tOrV, tNotV, tIf, tIsN, tNotN, rI, rI0, rU, rEq, rNe, gSub, cx_K, cx_K2, L2.start, wipe, scal_ii, scal_ss, scal_bb, scal_is, scal_si, scal_nn, List.map_cons, List.map_nil, List.length_cons, List.length_nil, List.cons_append, List.nil_append, List.append_nil, List.replicate, List.getElem?_cons_zero, List.getElem?_cons_succ, Option.some.injEq, exists_and_left, exists_eq_left', exists_eq_left, exists_eq, exists_eq', V.int.injEq, V.ref.injEq, V.str.injEq, V.bl.injEq, List.cons.injEq, and_true, true_and, false_and, exists_false, or_false, false_or, reduceCtorEq, List.set_cons_zero, List.set_cons_succ, Nat.reduceAdd, Nat.reduceSub, Int.reduceToNat, decide_eq_true_eq, if_true, if_false, Bool.false_eq_true, Bool.not_true, Bool.not_false, Bool.true_eq_false, ite_false, ite_true, ne_eq, not_false_eq_true, Int.reduceEq])
      exact ⟨f, rs, rfl, mem, fun a ha => r a _ H ⟨rfl, rfl, ha⟩⟩
    · obtain ⟨rfl, rfl, ha⟩ := c
      have few : rs.length ≤ 1000 := by
        have z1 : ∀ p ∈ V_PARTS, p.2.length ≤ 1000 := by decide +kernel
        have z2 : ∀ p ∈ V_STATEMENTS, p.2.length ≤ 1000 := by decide +kernel
        exact mem.elim (fun h => z1 _ h) (fun h => z2 _ h)
      refine lcG_go (walk_tup (K := K) (a := a) (xs := rs.map V.str)) rs (fun r => !decide (r = "rows")) V.str (fun D H' _ _ => ha H') (by rw [List.length_map]) (by omega) (fun i x z H' R h1 h2 s r => ?_) (fun i x z H' R h1 h2 _ s r => ?_) (fun D H' nD s rD => q D H' nD s rD)
      · rw [List.getElem?_map, h2] at h1
        cases h1
        (try simp only [tIxO, rIsB, rNotB, tSeq, tIfS, tTest, tB, tOp, tUn, tVar, tC, tAsg, gName, tRet, tRetN, tCB, tCons, tNil, tLst_eq, tTup_eq, tDNewK_eq, tNext, tPar, tM0, tM1, tSl, tNoPart, tPart, rSlS, tAug, tAugS, tExf_eq, ipI, tChain, tCall, tDrop, tBM, tAnd, tOr, tNot, tAndV, tOrV, tNotV, tIf, tIsN, tNotN, rI, rI0, rU, rEq, rNe, gSub, cx_K, cx_K2, L2.start, wipe, scal_ii, scal_ss, scal_bb, scal_is, scal_si, scal_nn, List.map_cons, List.map_nil, List.length_cons, List.length_nil, List.cons_append, List.nil_append, List.append_nil, List.replicate, List.getElem?_cons_zero, List.getElem?_cons_succ, Option.some.injEq, exists_and_left, exists_eq_left', exists_eq_left, exists_eq, exists_eq', V.int.injEq, V.ref.injEq, V.str.injEq, V.bl.injEq, List.cons.injEq, and_true, true_and, false_and, exists_false, or_false, false_or, reduceCtorEq, List.set_cons_zero, List.set_cons_succ, Nat.reduceAdd, Nat.reduceSub, Int.reduceToNat, decide_eq_true_eq, if_true, if_false, Bool.false_eq_true, Bool.not_true, Bool.not_false, Bool.true_eq_false, ite_false, ite_true, ne_eq, not_false_eq_true, Int.reduceEq])
        exact r H' fun _ _ e => e
      · rw [List.getElem?_map, h2] at h1
        cases h1
        (try simp only [tIxO, rIsB, rNotB, tSeq, tIfS, tTest, tB, tOp, tUn, tVar, tC, tAsg, gName, tRet, tRetN, tCB, tCons, tNil, tLst_eq, tTup_eq, tDNewK_eq, tNext, tPar, tM0, tM1, tSl, tNoPart, tPart, rSlS, tAug, tAugS, tExf_eq, ipI, tChain, tCall, tDrop, tBM, tAnd, tOr, tNot, tAndV, tOrV, tNotV, tIf, tIsN, tNotN, rI, rI0, rU, rEq, rNe, gSub, cx_K, cx_K2, L2.start, wipe, scal_ii, scal_ss, scal_bb, scal_is, scal_si, scal_nn, List.map_cons, List.map_nil, List.length_cons, List.length_nil, List.cons_append, List.nil_append, List.append_nil, List.replicate, List.getElem?_cons_zero, List.getElem?_cons_succ, Option.some.injEq, exists_and_left, exists_eq_left', exists_eq_left, exists_eq, exists_eq', V.int.injEq, V.ref.injEq, V.str.injEq, V.bl.injEq, List.cons.injEq, and_true, true_and, false_and, exists_false, or_false, false_or, reduceCtorEq, List.set_cons_zero, List.set_cons_succ, Nat.reduceAdd, Nat.reduceSub, Int.reduceToNat, decide_eq_true_eq, if_true, if_false, Bool.false_eq_true, Bool.not_true, Bool.not_false, Bool.true_eq_false, ite_false, ite_true, ne_eq, not_false_eq_true, Int.reduceEq])
        exact r H' fun _ _ e => e

end
end Own

set_option Elab.async false
set_option linter.all false
set_option maxRecDepth 100000
set_option maxHeartbeats 4000000
namespace Own
open PySem PySem.Spec PyProof.Rows L2
section
variable {P : Program} {w : World} {K : PySem.W.Frag} {mg : Str → Option Value} {base : Heap}
def spRdW (K : PySem.W.Frag) : Sp := fun vs H Q _ => ∃ (a : Addr) (u : Wth), vs = [.ref a] ∧ SqL K H a ((Stm.wthW u).map V.str) ∧ ∀ v H2, Same H H2 → Dp K H2 v (encW u) → Q v H2
theorem ok_read_worth (T : Txt K mg w) : FnOk P w K mg base CX0 1 T.d_read_worth.a T.d_read_worth.d ["words"] (spRdW K) := by
  refine T.d_read_worth.F.ok sc_read_worth (fun vs H Q E h => ?_) (fun cdv A outer s H vs Q E hr h => ?_)
  · obtain ⟨_, _, rfl, _⟩ := h
    rfl
  · obtain ⟨a, u, rfl, ha, q⟩ := h
    have hu := hr.units
    refine ⟨_, (pss_cons (ps_if (PW.pt (pw_and (pt_cmpR op_eq (pe_callB call_lenL (by rfl) T.z_len (by decide +kernel) (pa_cons (pv 0) pa_nil)) pe_int (nomark _)) (pw_and1 (pt_cmpR op_eq (pe_ix ix_list (pv 0) pe_int (fun _ _ => rfl)) pe_str (nomark _))))) (pss_one (ps_ret (pe_tup (pa_cons pe_str (pa_cons (pe_ix ix_list (pv 0) pe_int (fun _ _ => rfl)) pa_nil))))) pss_nil)
      (pss_cons (ps_if (PW.pt (pw_and (pt_cmpR op_eq (pe_callB call_lenL (by rfl) T.z_len (by decide +kernel) (pa_cons (pv 0) pa_nil)) pe_int (nomark _)) (pw_and1 (pt_cmpR (op_eqD hu) (pe_slice sl_list (pv 0) po_none (po_some pe_int)) (pe_lst (pa_cons pe_str (pa_cons pe_str pa_nil))) (nomark _))))) (pss_one (ps_ret (pe_tup (pa_cons pe_str (pa_cons (pe_ix ix_list (pv 0) pe_int (fun _ _ => rfl)) pa_nil))))) pss_nil)
      (pss_one (ps_ret pe_non)))), ?_⟩
    (try simp only [tIxO, rIsB, rNotB, tSeq, tIfS, tTest, tB, tOp, tUn, tVar, tC, tAsg, gName, tRet, tRetN, tCB, tCons, tNil, tLst_eq, tTup_eq, tDNewK_eq, tNext, tPar, tM0, tM1, tSl, tNoPart, tPart, rSlS, tAug, tAugS, tExf_eq, ipI, tChain, tCall, tDrop, tBM, tAnd, tOr, tNot, tAndV, tOrV, tNotV, tIf, tIsN, tNotN, rI, rI0, rU, rEq, rNe, gSub, cx_K, cx_K2, L2.start, wipe, scal_ii, scal_ss, scal_bb, scal_is, scal_si, scal_nn, List.map_cons, List.map_nil, List.length_cons, List.length_nil, List.cons_append, List.nil_append, List.append_nil, List.replicate, List.getElem?_cons_zero, List.getElem?_cons_succ, Option.some.injEq, exists_and_left, exists_eq_left', exists_eq_left, exists_eq, exists_eq', V.int.injEq, V.ref.injEq, V.str.injEq, V.bl.injEq, List.cons.injEq, and_true, true_and, false_and, exists_false, or_false, false_or, reduceCtorEq, List.set_cons_zero, List.set_cons_succ, Nat.reduceAdd, Nat.reduceSub, Int.reduceToNat, decide_eq_true_eq, if_true, if_false, Bool.false_eq_true, Bool.not_true, Bool.not_false, Bool.true_eq_false, ite_false, ite_true, ne_eq, not_false_eq_true, Int.reduceEq])
    cases u with
    | word x =>
      refine ⟨_, ha, ite2 (fun _ => ?_) (fun z => absurd rfl z)⟩
      refine ixL_go ha (atI_nat (j := 0) rfl) ⟨rfl, ite2 (fun _ => ?_) (fun z => absurd rfl z)⟩
      refine ixL_go ha (atI_nat (j := 1) rfl) (newTD_go (K := K) (ds := [.str "word", .str x]) (.cons (.str _) (.cons (.str _) .nil)) rfl (by simp) fun p H2 n s d => q _ H2 s d)
    | of x =>
      refine ⟨_, ha, ite2 (fun z => by simp [Stm.wthW] at z) (fun _ => ?_)⟩
      refine ⟨_, ha, ite2 (fun _ => ?_) (fun z => absurd rfl z)⟩
      refine ⟨a, _, rfl, ha, fun p np => ?_⟩
      have s1 := same_new (o := .lst (cutV ((Stm.wthW (.of x)).map V.str) none (some 2))) np
      have ec : cutV ((Stm.wthW (.of x)).map V.str) none (some 2) = (["=", "of"] : List Str).map V.str := cutV_to _ 2
      refine newL_go fun p2 H2 n2 s2 r2 => ?_
      have r1 : H2 p = some (.lst ((["=", "of"] : List Str).map V.str)) := by rw [← ec]; exact s2 _ _ upd_same
      refine ⟨.list ((["=", "of"] : List Str).map PyData.str), .list ((["=", "of"] : List Str).map PyData.str), .lst (.inl (.inl r1)) (dp_strs ["=", "of"]), .lst (.inl (.inl r2)) (dp_strs ["=", "of"]), by decide +kernel, by decide +kernel, true, rfl, ite2 (fun _ => ?_) (fun z => absurd rfl z)⟩
      have ha2 := sq_same (s1.trans s2) ha
      refine ixL_go ha2 (atI_nat (j := 2) rfl) (newTD_go (K := K) (ds := [.str "of", .str x]) (.cons (.str _) (.cons (.str _) .nil)) rfl (by simp) fun p3 H3 n3 s3 d3 => q _ H3 ((s1.trans s2).trans s3) d3)
def spRdC (K : PySem.W.Frag) : Sp := fun vs H Q _ => ∃ (a : Addr) (c : List Str), vs = [.ref a] ∧ SqL K H a ((Stm.withC c).map V.str) ∧ c.length ≤ 1000 ∧ ∀ v H2, Same H H2 → Dp K H2 v (encC c) → Q v H2
theorem ok_read_captured (T : Txt K mg w) : FnOk P w K mg base CX0 1 T.d_read_captured.a T.d_read_captured.d ["words"] (spRdC K) := by
  refine T.d_read_captured.F.ok sc_read_captured (fun vs H Q E h => ?_) (fun cdv A outer s H vs Q E hr h => ?_)
  · obtain ⟨_, _, rfl, _⟩ := h
    rfl
  · obtain ⟨a, c, rfl, ha, few, q⟩ := h
    have hu := hr.units
    refine ⟨_, (pss_cons (ps_if (pt_not (pt_truth (pv 0) (by intro _; rfl))) (pss_one (ps_ret (pe_tup pa_nil))) pss_nil)
      (pss_cons (ps_if (PW.pt (pw_and (pt_cmpR op_eq (pe_ix ix_list (pv 0) pe_int (fun _ _ => rfl)) pe_str (nomark _)) (pw_and1 (pt_cmpR op_gt (pe_callB call_lenL (by rfl) T.z_len (by decide +kernel) (pa_cons (pv 0) pa_nil)) pe_int (nomark _))))) (pss_one (ps_ret (pe_callTy call_tuple_of (by rfl) T.z_tuple (by decide +kernel) (pa_cons (pe_slice sl_list (pv 0) (po_some pe_int) po_none) pa_nil)))) pss_nil)
      (pss_one (ps_ret pe_non)))), ?_⟩
    (try simp only [tIxO, rIsB, rNotB, tSeq, tIfS, tTest, tB, tOp, tUn, tVar, tC, tAsg, gName, tRet, tRetN, tCB, tCons, tNil, tLst_eq, tTup_eq, tDNewK_eq, tNext, tPar, tM0, tM1, tSl, tNoPart, tPart, rSlS, tAug, tAugS, tExf_eq, ipI, tChain, tCall, tDrop, tBM, tAnd, tOr, tNot, tAndV, tOrV, tNotV, tIf, tIsN, tNotN, rI, rI0, rU, rEq, rNe, gSub, cx_K, cx_K2, L2.start, wipe, scal_ii, scal_ss, scal_bb, scal_is, scal_si, scal_nn, List.map_cons, List.map_nil, List.length_cons, List.length_nil, List.cons_append, List.nil_append, List.append_nil, List.replicate, List.getElem?_cons_zero, List.getElem?_cons_succ, Option.some.injEq, exists_and_left, exists_eq_left', exists_eq_left, exists_eq, exists_eq', V.int.injEq, V.ref.injEq, V.str.injEq, V.bl.injEq, List.cons.injEq, and_true, true_and, false_and, exists_false, or_false, false_or, reduceCtorEq, List.set_cons_zero, List.set_cons_succ, Nat.reduceAdd, Nat.reduceSub, Int.reduceToNat, decide_eq_true_eq, if_true, if_false, Bool.false_eq_true, Bool.not_true, Bool.not_false, Bool.true_eq_false, ite_false, ite_true, ne_eq, not_false_eq_true, Int.reduceEq])
    refine ⟨_, .inl ⟨_, ha, rfl⟩, ?_⟩
    cases c with
    | nil => exact ite2 (fun _ => newTD_go (K := K) (ds := []) .nil rfl (by simp) fun p H2 n s d => q _ H2 s d) (fun z => absurd rfl z)
    | cons x c =>
      refine ite2 (fun z => by simp [Stm.withC] at z) (fun _ => ?_)
      have ha : SqL K H a (V.str "with" :: (x :: c).map V.str) := ha
      refine ixL_go ha (atI_nat (j := 0) rfl) ⟨rfl, ite2 (fun _ => ?_) (fun z => absurd rfl z)⟩
      refine ⟨_, ha, ite2 (fun _ => ?_) (fun z => absurd (by simp only [List.length_cons, List.length_map]; omega) z)⟩
      have ec : cutV (V.str "with" :: (x :: c).map V.str) (some 1) none = (x :: c).map V.str := cutV_1 _
      refine ⟨a, _, rfl, ha, ?_⟩
      rw [ec]
      intro p np
      refine ⟨p, rfl, _, .inl ⟨.inl (.inl upd_same), fun l nl => ?_⟩⟩
      exact q _ _ ((same_new np).trans (same_new nl)) (.tup (.inl (.inl upd_same)) (dp_strs _))
def spRdP (K : PySem.W.Frag) : Sp := fun vs H Q _ => ∃ (a : Addr) (t : Prt), vs = [.ref a] ∧ SqL K H a (t.words.map V.str) ∧ ∀ v H2, Same H H2 → Dp K H2 v (.tuple t.hd) → Q v H2
theorem ok_read_part (T : Txt K mg w) : FnOk P w K mg base CX0 1 T.d_read_part.a T.d_read_part.d ["words"] (spRdP K) := by
  refine T.d_read_part.F.ok sc_read_part (fun vs H Q E h => ?_) (fun cdv A outer s H vs Q E hr h => ?_)
  · obtain ⟨_, _, rfl, _⟩ := h
    rfl
  · obtain ⟨a, t, rfl, ha, q⟩ := h
    have hu := hr.units
    refine ⟨_, (pss_cons (ps_if (PW.pt (pw_and (pt_cmpR op_eq (pe_callB call_lenL (by rfl) T.z_len (by decide +kernel) (pa_cons (pv 0) pa_nil)) pe_int (nomark _)) (pw_and (pt_cmpR op_in_seq (pe_ix ix_list (pv 0) pe_int (fun _ _ => rfl)) (pe_tup (pa_cons pe_str (pa_cons pe_str pa_nil))) (by rfl)) (pw_and1 (pt_cmpR op_eq (pe_ix ix_list (pv 0) pe_int (fun _ _ => rfl)) pe_str (nomark _)))))) (pss_one (ps_ret (pe_tup (pa_cons (pe_ix ix_list (pv 0) pe_int (fun _ _ => rfl)) (pa_cons (pe_ix ix_list (pv 0) pe_int (fun _ _ => rfl)) (pa_cons (pe_ix ix_list (pv 0) pe_int (fun _ _ => rfl)) pa_nil)))))) pss_nil)
      (pss_cons (ps_if (PW.pt (pw_and (pt_cmpR op_eq (pe_callB call_lenL (by rfl) T.z_len (by decide +kernel) (pa_cons (pv 0) pa_nil)) pe_int (nomark _)) (pw_and1 (pt_cmpR op_in_seq (pe_ix ix_list (pv 0) pe_int (fun _ _ => rfl)) (pe_tup (pa_cons pe_str (pa_cons pe_str pa_nil))) (by rfl))))) (pss_one (ps_ret (pe_tup (pa_cons (pe_ix ix_list (pv 0) pe_int (fun _ _ => rfl)) (pa_cons (pe_ix ix_list (pv 0) pe_int (fun _ _ => rfl)) (pa_cons (pe_ix ix_list (pv 0) pe_int (fun _ _ => rfl)) pa_nil)))))) pss_nil)
      (pss_one (ps_ret pe_non)))), ?_⟩
    (try simp only [tIxO, rIsB, rNotB, tSeq, tIfS, tTest, tB, tOp, tUn, tVar, tC, tAsg, gName, tRet, tRetN, tCB, tCons, tNil, tLst_eq, tTup_eq, tDNewK_eq, tNext, tPar, tM0, tM1, tSl, tNoPart, tPart, rSlS, tAug, tAugS, tExf_eq, ipI, tChain, tCall, tDrop, tBM, tAnd, tOr, tNot, tAndV, tOrV, tNotV, tIf, tIsN, tNotN, rI, rI0, rU, rEq, rNe, gSub, cx_K, cx_K2, L2.start, wipe, scal_ii, scal_ss, scal_bb, scal_is, scal_si, scal_nn, List.map_cons, List.map_nil, List.length_cons, List.length_nil, List.cons_append, List.nil_append, List.append_nil, List.replicate, List.getElem?_cons_zero, List.getElem?_cons_succ, Option.some.injEq, exists_and_left, exists_eq_left', exists_eq_left, exists_eq, exists_eq', V.int.injEq, V.ref.injEq, V.str.injEq, V.bl.injEq, List.cons.injEq, and_true, true_and, false_and, exists_false, or_false, false_or, reduceCtorEq, List.set_cons_zero, List.set_cons_succ, Nat.reduceAdd, Nat.reduceSub, Int.reduceToNat, decide_eq_true_eq, if_true, if_false, Bool.false_eq_true, Bool.not_true, Bool.not_false, Bool.true_eq_false, ite_false, ite_true, ne_eq, not_false_eq_true, Int.reduceEq])
    have mk : ∀ {k i x : Str} {H' : Hp}, Same H H' → t.hd = [.str k, .str i, .str x] → NewT [V.str k, V.str i, V.str x] H' Q := fun {k i x H'} s0 e => newTD_go (K := K) (ds := [.str k, .str i, .str x]) (.cons (.str _) (.cons (.str _) (.cons (.str _) .nil))) rfl (by simp) fun p H2 n s d => q _ H2 (s0.trans s) (e ▸ d)
    cases t with
    | name i x =>
      refine ⟨_, ha, ite2 (fun _ => ?_) (fun z => absurd rfl z)⟩
      refine ixL_go ha (atI_nat (j := 0) rfl) (newT_go fun p1 H1 n1 s1 r1 => inT_go (l := ["name", "flag"]) (.inl (.inl r1)) ⟨_, rfl, ite2 (fun _ => ?_) (fun z => absurd (by decide +kernel) z)⟩)
      have h1 := sq_same s1 ha
      exact ixL_go h1 (atI_nat (j := 2) rfl) ⟨rfl, ite2 (fun _ => ixL_go h1 (atI_nat (j := 0) rfl) (ixL_go h1 (atI_nat (j := 1) rfl) (ixL_go h1 (atI_nat (j := 3) rfl) (mk s1 rfl)))) (fun z => absurd rfl z)⟩
    | flag i x =>
      refine ⟨_, ha, ite2 (fun _ => ?_) (fun z => absurd rfl z)⟩
      refine ixL_go ha (atI_nat (j := 0) rfl) (newT_go fun p1 H1 n1 s1 r1 => inT_go (l := ["name", "flag"]) (.inl (.inl r1)) ⟨_, rfl, ite2 (fun _ => ?_) (fun z => absurd (by decide +kernel) z)⟩)
      have h1 := sq_same s1 ha
      exact ixL_go h1 (atI_nat (j := 2) rfl) ⟨rfl, ite2 (fun _ => ixL_go h1 (atI_nat (j := 0) rfl) (ixL_go h1 (atI_nat (j := 1) rfl) (ixL_go h1 (atI_nat (j := 3) rfl) (mk s1 rfl)))) (fun z => absurd rfl z)⟩
    | slot i x =>
      refine ⟨_, ha, ite2 (fun z => by simp [Prt.words] at z) (fun _ => ?_)⟩
      refine ⟨_, ha, ite2 (fun _ => ?_) (fun z => absurd rfl z)⟩
      refine ixL_go ha (atI_nat (j := 1) rfl) (newT_go fun p1 H1 n1 s1 r1 => inT_go (l := ["slot", "func"]) (.inl (.inl r1)) ⟨_, rfl, ite2 (fun _ => ?_) (fun z => absurd (by decide +kernel) z)⟩)
      have h1 := sq_same s1 ha
      exact ixL_go h1 (atI_nat (j := 1) rfl) (ixL_go h1 (atI_nat (j := 2) rfl) (ixL_go h1 (atI_nat (j := 0) rfl) (mk s1 rfl)))
    | func i x rows =>
      refine ⟨_, ha, ite2 (fun z => by simp [Prt.words] at z) (fun _ => ?_)⟩
      refine ⟨_, ha, ite2 (fun _ => ?_) (fun z => absurd rfl z)⟩
      refine ixL_go ha (atI_nat (j := 1) rfl) (newT_go fun p1 H1 n1 s1 r1 => inT_go (l := ["slot", "func"]) (.inl (.inl r1)) ⟨_, rfl, ite2 (fun _ => ?_) (fun z => absurd (by decide +kernel) z)⟩)
      have h1 := sq_same s1 ha
      exact ixL_go h1 (atI_nat (j := 1) rfl) (ixL_go h1 (atI_nat (j := 2) rfl) (ixL_go h1 (atI_nat (j := 0) rfl) (mk s1 rfl)))
theorem roles_is : ∀ p ∈ V_STATEMENTS, rolesF p.1 = p.2 := by decide +kernel
theorem first_mem (s : Stm) : s.first ∈ V_STATEMENTS.map (·.1) := by cases s <;> (simp only [Stm.first]; decide +kernel)
theorem roles_mem (s : Stm) : (s.first, rolesF s.first) ∈ V_STATEMENTS := by
  obtain ⟨p, hp, e⟩ := List.mem_map.mp (first_mem s)
  rw [← e, roles_is p hp]
  exact hp
theorem inLs_go {K : PySem.W.Frag} {x : Str} {p : Addr} {l : List Str} {H : Hp} {Q : VK} (h : SqL K H p (l.map V.str)) (q : Q (.bl (l.contains x)) H) : rIn K false (.str x) (.ref p) H Q :=
  ⟨p, _, rfl, .inl h, rfl, flat_strs, by rw [inV_strs]; exact q⟩
theorem cut2_go {K : PySem.W.Frag} {H : Hp} {a : Addr} {A B : List Str} {n : Nat} {R : List V → V → Hp → Prop} (ha : SqL K H a ((A ++ B).map V.str)) (hn : A.length = n) (k : ∀ p H2, Same H H2 → SqL K H2 p (B.map V.str) → R (A.map V.str) (.ref p) H2) : rSlL K (.ref a) none (some (n : Int)) H fun x H1 => ∃ p, x = .ref p ∧ ∃ x, (SqT K H1 p x ∨ SqL K H1 p x) ∧ rSlL K (.ref a) (some (n : Int)) none H1 fun x_1 H1 => R x x_1 H1 := by
  refine ⟨a, _, rfl, ha, ?_⟩
  have e1 : cutV ((A ++ B).map V.str) none (some (n : Int)) = A.map V.str := by rw [cutV_to, List.map_append, List.take_left' (by rw [List.length_map]; exact hn)]
  have e2 : cutV ((A ++ B).map V.str) (some (n : Int)) none = B.map V.str := by rw [cutV_from, List.map_append, List.drop_left' (by rw [List.length_map]; exact hn)]
  rw [e1]
  intro p np
  have s1 := same_new (o := .lst (A.map V.str)) np
  refine ⟨p, rfl, _, .inr (.inl (.inl upd_same)), a, _, rfl, sq_same s1 ha, ?_⟩
  rw [e2]
  intro p2 np2
  exact k p2 _ (s1.trans (same_new np2)) (.inl (.inl upd_same))
theorem line_few : ∀ p ∈ V_STATEMENTS, (lineR p.2).length ≤ 3 := by decide +kernel
def spRdS (K : PySem.W.Frag) : Sp := fun vs H Q _ => ∃ (a : Addr) (s : Stm), vs = [.ref a] ∧ SqL K H a (s.words.map V.str) ∧ ownW s ∧ ∀ v H2, Same H H2 → Dp K H2 v (.tuple s.hd) → Q v H2
theorem ok_read_statement (T : Txt K mg w) : FnOk P w K mg base CX0 3 T.d_read_statement.a T.d_read_statement.d ["words"] (spRdS K) := by
  refine T.d_read_statement.F.ok sc_read_statement (fun vs H Q E h => ?_) (fun cdv A outer s H vs Q E hr h => ?_)
  · obtain ⟨_, _, rfl, _⟩ := h
    rfl
  · obtain ⟨a, st, rfl, ha, ow, q⟩ := h
    have hu := hr.units
    refine ⟨_, (pss_cons (ps_set (i := 1) sc_read_statement.nd rfl (Or.inl rfl) (pe_call (ok_line_roles T) (hr.mono (by decide)) (by rfl) T.d_line_roles.g T.d_line_roles.F.kp T.d_line_roles.b .nil pass0 (pa_cons (pe_ix ix_list (pv 0) pe_int (fun _ _ => rfl)) pa_nil)))
      (pss_cons (ps_set (i := 2) sc_read_statement.nd rfl (Or.inl rfl) (pe_callB call_lenL (by rfl) T.z_len (by decide +kernel) (pa_cons (pv 1) pa_nil)))
      (pss_cons (ps_if (pt_cmpR op_in_seq pe_str (pv 1) (by rfl)) (pss_one (ps_ret (pe_tup (StX.pa_star (pe_slice sl_list (pv 0) po_none (po_some (pv 2))) (pa_cons (pe_call (ok_read_worth T) (hr.mono (by decide)) (by rfl) T.d_read_worth.g T.d_read_worth.F.kp T.d_read_worth.b .nil pass0 (pa_cons (pe_slice sl_list (pv 0) (po_some (pv 2)) po_none) pa_nil)) pa_nil))))) pss_nil)
      (pss_cons (ps_if (pt_cmpR op_in_seq pe_str (pv 1) (by rfl)) (pss_one (ps_ret (pe_tup (StX.pa_star (pe_slice sl_list (pv 0) po_none (po_some (pv 2))) (pa_cons (pe_call (ok_read_captured T) (hr.mono (by decide)) (by rfl) T.d_read_captured.g T.d_read_captured.F.kp T.d_read_captured.b .nil pass0 (pa_cons (pe_slice sl_list (pv 0) (po_some (pv 2)) po_none) pa_nil)) pa_nil))))) pss_nil)
      (pss_one (ps_ret (pe_callTy call_tuple_of (by rfl) T.z_tuple (by decide +kernel) (pa_cons (pv 0) pa_nil)))))))), ?_⟩
    (try simp only [tIxO, rIsB, rNotB, tSeq, tIfS, tTest, tB, tOp, tUn, tVar, tC, tAsg, gName, tRet, tRetN, tCB, tCons, tNil, tLst_eq, tTup_eq, tDNewK_eq, tNext, tPar, tM0, tM1, tSl, tNoPart, tPart, rSlS, tAug, tAugS, tExf_eq, ipI, tChain, tCall, tDrop, tBM, tAnd, tOr, tNot, tAndV, tOrV, tNotV, tIf, tIsN, tNotN, rI, rI0, rU, rEq, rNe, gSub, cx_K, cx_K2, L2.start, wipe, scal_ii, scal_ss, scal_bb, scal_is, scal_si, scal_nn, List.map_cons, List.map_nil, List.length_cons, List.length_nil, List.cons_append, List.nil_append, List.append_nil, List.replicate, List.getElem?_cons_zero, List.getElem?_cons_succ, Option.some.injEq, exists_and_left, exists_eq_left', exists_eq_left, exists_eq, exists_eq', V.int.injEq, V.ref.injEq, V.str.injEq, V.bl.injEq, List.cons.injEq, and_true, true_and, false_and, exists_false, or_false, false_or, reduceCtorEq, List.set_cons_zero, List.set_cons_succ, Nat.reduceAdd, Nat.reduceSub, Int.reduceToNat, decide_eq_true_eq, if_true, if_false, Bool.false_eq_true, Bool.not_true, Bool.not_false, Bool.true_eq_false, ite_false, ite_true, ne_eq, not_false_eq_true, Int.reduceEq])
    have h0 : ∃ r, st.words = st.first :: r := by cases st <;> exact ⟨_, rfl⟩
    obtain ⟨rw0, e0⟩ := h0
    refine ixL_go ha (atI_nat (j := 0) (by rw [e0]; rfl)) ⟨st.first, rolesF st.first, rfl, .inr (roles_mem st), fun b H1 nb s1 rb => ?_⟩
    have ha1 := sq_same s1 ha
    (try simp only [tIxO, rIsB, rNotB, tSeq, tIfS, tTest, tB, tOp, tUn, tVar, tC, tAsg, gName, tRet, tRetN, tCB, tCons, tNil, tLst_eq, tTup_eq, tDNewK_eq, tNext, tPar, tM0, tM1, tSl, tNoPart, tPart, rSlS, tAug, tAugS, tExf_eq, ipI, tChain, tCall, tDrop, tBM, tAnd, tOr, tNot, tAndV, tOrV, tNotV, tIf, tIsN, tNotN, rI, rI0, rU, rEq, rNe, gSub, cx_K, cx_K2, L2.start, wipe, scal_ii, scal_ss, scal_bb, scal_is, scal_si, scal_nn, List.map_cons, List.map_nil, List.length_cons, List.length_nil, List.cons_append, List.nil_append, List.append_nil, List.replicate, List.getElem?_cons_zero, List.getElem?_cons_succ, Option.some.injEq, exists_and_left, exists_eq_left', exists_eq_left, exists_eq, exists_eq', V.int.injEq, V.ref.injEq, V.str.injEq, V.bl.injEq, List.cons.injEq, and_true, true_and, false_and, exists_false, or_false, false_or, reduceCtorEq, List.set_cons_zero, List.set_cons_succ, Nat.reduceAdd, Nat.reduceSub, Int.reduceToNat, decide_eq_true_eq, if_true, if_false, Bool.false_eq_true, Bool.not_true, Bool.not_false, Bool.true_eq_false, ite_false, ite_true, ne_eq, not_false_eq_true, Int.reduceEq])
    refine ⟨_, .inl (.inl rb), ?_⟩
    have rbT : ∀ {H' : Hp}, Same H1 H' → SqL K H' b ((lineR (rolesF st.first)).map V.str) := fun s => .inl (.inl (s _ _ rb))
    have rF : ∀ rs, (st.first, rs) ∈ V_STATEMENTS → rolesF st.first = rs := fun rs h => roles_is _ h
    have lastC : ∀ (rs : List Str) (A : List Str) (c : List Str), (st.first, rs) ∈ V_STATEMENTS → (lineR rs).contains "worth" = false → (lineR rs).contains "captured" = true → (lineR rs).length = A.length → st.words = A ++ Stm.withC c → st.hd = A.map PyData.str ++ [encC c] → c.length ≤ 1000 → (rIn K false (V.str "worth") (V.ref b) H1 fun x_1 H' => ∃ k, x_1 = V.bl k ∧ if k = true then (StX.tStar K (tSl (rSlL K) (tVar 0) tNoPart (tPart (tVar 2))) (tCons (tCall (spRdW K) [] E0 (tCons (tSl (rSlL K) (tVar 0) (tPart (tVar 2)) tNoPart) tNil)) tNil) [some (V.ref a), some (V.ref b), some (V.int ↑(List.map V.str (lineR (rolesF st.first))).length)] H' fun xs H1 => NewT xs H1 Q) else
        rIn K false (V.str "captured") (V.ref b) H' fun x_2 H' => ∃ k, x_2 = V.bl k ∧ if k = true then (StX.tStar K (tSl (rSlL K) (tVar 0) tNoPart (tPart (tVar 2))) (tCons (tCall (spRdC K) [] E0 (tCons (tSl (rSlL K) (tVar 0) (tPart (tVar 2)) tNoPart) tNil)) tNil) [some (V.ref a), some (V.ref b), some (V.int ↑(List.map V.str (lineR (rolesF st.first))).length)] H' fun xs H1 => NewT xs H1 Q) else ∃ x, (SqL K H' a x ∧ ∀ (l : Addr), H' l = none → Q (V.ref l) (upd H' l (HO.tup x))) ∨ SqT K H' a x ∧ Q (V.ref a) H') := fun rs A c hm n1 n2 hl ew eh few => by
      have er := rF rs hm
      rw [er] at rb
      refine inLs_go (l := lineR rs) (.inl (.inl rb)) ⟨_, rfl, ite2 (fun z => by rw [n1] at z; cases z) (fun _ => ?_)⟩
      refine inLs_go (l := lineR rs) (.inl (.inl rb)) ⟨_, rfl, ite2 (fun _ => ?_) (fun z => absurd n2 z)⟩
      (try simp only [tIxO, rIsB, rNotB, tSeq, tIfS, tTest, tB, tOp, tUn, tVar, tC, tAsg, gName, tRet, tRetN, tCB, tCons, tNil, tLst_eq, tTup_eq, tDNewK_eq, tNext, tPar, tM0, tM1, tSl, tNoPart, tPart, rSlS, tAug, tAugS, tExf_eq, ipI, tChain, tCall, tDrop, tBM, tAnd, tOr, tNot, tAndV, tOrV, tNotV, tIf, tIsN, tNotN, rI, rI0, rU, rEq, rNe, gSub, cx_K, cx_K2, L2.start, wipe, scal_ii, scal_ss, scal_bb, scal_is, scal_si, scal_nn, List.map_cons, List.map_nil, List.length_cons, List.length_nil, List.cons_append, List.nil_append, List.append_nil, List.replicate, List.getElem?_cons_zero, List.getElem?_cons_succ, Option.some.injEq, exists_and_left, exists_eq_left', exists_eq_left, exists_eq, exists_eq', V.int.injEq, V.ref.injEq, V.str.injEq, V.bl.injEq, List.cons.injEq, and_true, true_and, false_and, exists_false, or_false, false_or, reduceCtorEq, List.set_cons_zero, List.set_cons_succ, Nat.reduceAdd, Nat.reduceSub, Int.reduceToNat, decide_eq_true_eq, if_true, if_false, Bool.false_eq_true, Bool.not_true, Bool.not_false, Bool.true_eq_false, ite_false, ite_true, ne_eq, not_false_eq_true, Int.reduceEq, StX.tStar])
      have el : (List.map V.str (lineR (rolesF st.first))).length = A.length := by rw [er, List.length_map]; exact hl
      rw [el]
      rw [ew] at ha1
      refine cut2_go ha1 rfl fun p2 H2 s2 r2 => ?_
      refine ⟨p2, c, rfl, r2, few, fun v H3 s3 d3 => ?_⟩
      have l3 : (lineR rs).length ≤ 3 := line_few _ hm
      refine newTD_go (K := K) (ds := st.hd) (by rw [eh]; exact DpAll.app (dp_strs A) (.cons d3 .nil)) ?_ (by rw [eh]; simp only [List.length_append, List.length_map, List.length_singleton]; omega) fun p4 H4 n4 s4 d4 => q _ H4 ((s1.trans (s2.trans s3)).trans s4) d4
      rw [eh, pl_app, pl_strs]
      simp only [encC, PlAll, Pl, pl_strs, Bool.and_true]
    have rest : ∀ (rs : List Str), (st.first, rs) ∈ V_STATEMENTS → (lineR rs).contains "worth" = false → (lineR rs).contains "captured" = false → st.hd = st.words.map PyData.str → (rIn K false (V.str "worth") (V.ref b) H1 fun x_1 H' => ∃ k, x_1 = V.bl k ∧ if k = true then (StX.tStar K (tSl (rSlL K) (tVar 0) tNoPart (tPart (tVar 2))) (tCons (tCall (spRdW K) [] E0 (tCons (tSl (rSlL K) (tVar 0) (tPart (tVar 2)) tNoPart) tNil)) tNil) [some (V.ref a), some (V.ref b), some (V.int ↑(List.map V.str (lineR (rolesF st.first))).length)] H' fun xs H1 => NewT xs H1 Q) else
        rIn K false (V.str "captured") (V.ref b) H' fun x_2 H' => ∃ k, x_2 = V.bl k ∧ if k = true then (StX.tStar K (tSl (rSlL K) (tVar 0) tNoPart (tPart (tVar 2))) (tCons (tCall (spRdC K) [] E0 (tCons (tSl (rSlL K) (tVar 0) (tPart (tVar 2)) tNoPart) tNil)) tNil) [some (V.ref a), some (V.ref b), some (V.int ↑(List.map V.str (lineR (rolesF st.first))).length)] H' fun xs H1 => NewT xs H1 Q) else ∃ x, (SqL K H' a x ∧ ∀ (l : Addr), H' l = none → Q (V.ref l) (upd H' l (HO.tup x))) ∨ SqT K H' a x ∧ Q (V.ref a) H') := fun rs hm n1 n2 eh => by
      have er := rF rs hm
      rw [er] at rb
      refine inLs_go (l := lineR rs) (.inl (.inl rb)) ⟨_, rfl, ite2 (fun z => by rw [n1] at z; cases z) (fun _ => ?_)⟩
      refine inLs_go (l := lineR rs) (.inl (.inl rb)) ⟨_, rfl, ite2 (fun z => by rw [n2] at z; cases z) (fun _ => ?_)⟩
      refine ⟨_, .inl ⟨ha1, fun l nl => q _ _ (s1.trans (same_new nl)) ?_⟩⟩
      rw [eh]
      exact .tup (.inl (.inl upd_same)) (dp_strs _)
    have M : ∀ {f : Str} {rs : List Str}, st.first = f → (f, rs) ∈ V_STATEMENTS → (st.first, rs) ∈ V_STATEMENTS := fun e h => e ▸ h
    cases st with
    | bind i v r =>
      have er : rolesF (Stm.bind i v r).first = (["bound", "worth", "rows"] : List Str) := rF _ (show (("bind" : Str), (["bound", "worth", "rows"] : List Str)) ∈ V_STATEMENTS by decide +kernel)
      rw [er] at rb
      refine inLs_go (l := lineR ["bound", "worth", "rows"]) (.inl (.inl rb)) ⟨_, rfl, ite2 (fun _ => ?_) (fun z => absurd (by decide +kernel) z)⟩
      (try simp only [tIxO, rIsB, rNotB, tSeq, tIfS, tTest, tB, tOp, tUn, tVar, tC, tAsg, gName, tRet, tRetN, tCB, tCons, tNil, tLst_eq, tTup_eq, tDNewK_eq, tNext, tPar, tM0, tM1, tSl, tNoPart, tPart, rSlS, tAug, tAugS, tExf_eq, ipI, tChain, tCall, tDrop, tBM, tAnd, tOr, tNot, tAndV, tOrV, tNotV, tIf, tIsN, tNotN, rI, rI0, rU, rEq, rNe, gSub, cx_K, cx_K2, L2.start, wipe, scal_ii, scal_ss, scal_bb, scal_is, scal_si, scal_nn, List.map_cons, List.map_nil, List.length_cons, List.length_nil, List.cons_append, List.nil_append, List.append_nil, List.replicate, List.getElem?_cons_zero, List.getElem?_cons_succ, Option.some.injEq, exists_and_left, exists_eq_left', exists_eq_left, exists_eq, exists_eq', V.int.injEq, V.ref.injEq, V.str.injEq, V.bl.injEq, List.cons.injEq, and_true, true_and, false_and, exists_false, or_false, false_or, reduceCtorEq, List.set_cons_zero, List.set_cons_succ, Nat.reduceAdd, Nat.reduceSub, Int.reduceToNat, decide_eq_true_eq, if_true, if_false, Bool.false_eq_true, Bool.not_true, Bool.not_false, Bool.true_eq_false, ite_false, ite_true, ne_eq, not_false_eq_true, Int.reduceEq, StX.tStar])
      have el : (List.map V.str (lineR (rolesF (Stm.bind i v r).first))).length = 2 := by rw [er]; decide +kernel
      rw [el]
      have ha2 : SqL K H1 a (((["bind", i] : List Str) ++ Stm.wthW v).map V.str) := ha1
      refine cut2_go (n := 2) ha2 rfl fun p2 H2 s2 r2 => ?_
      refine ⟨p2, v, rfl, r2, fun w H3 s3 d3 => ?_⟩
      refine newTD_go (K := K) (ds := [.str "bind", .str i, encW v]) (.cons (.str _) (.cons (.str _) (.cons d3 .nil))) ?_ (by simp) fun p4 H4 n4 s4 d4 => q _ H4 ((s1.trans (s2.trans s3)).trans s4) d4
      cases v <;> rfl
    | keep s f c => exact lastC ["slot", "func", "captured"] ["keep", s, f] c (M (f := "keep") rfl (by decide +kernel)) (by decide +kernel) (by decide +kernel) (by show _ = 3; decide +kernel) rfl rfl ow.2.2.2
    | take s c => exact lastC ["slot", "captured"] ["take", s] c (M (f := "take") rfl (by decide +kernel)) (by decide +kernel) (by decide +kernel) (by show _ = 2; decide +kernel) rfl rfl ow.2.2
    | shift s u c => exact lastC ["slot", "slot", "captured"] ["shift", s, u] c (M (f := "shift") rfl (by decide +kernel)) (by decide +kernel) (by decide +kernel) (by show _ = 3; decide +kernel) rfl rfl ow.2.2.2
    | look x i => exact rest ["word", "name"] (M (f := "look") rfl (by decide +kernel)) (by decide +kernel) (by decide +kernel) rfl
    | call i => exact rest ["func"] (M (f := "call") rfl (by decide +kernel)) (by decide +kernel) (by decide +kernel) rfl
    | run i => exact rest ["slot"] (M (f := "run") rfl (by decide +kernel)) (by decide +kernel) (by decide +kernel) rfl
    | drop i => exact rest ["slot"] (M (f := "drop") rfl (by decide +kernel)) (by decide +kernel) (by decide +kernel) rfl
    | apart r => exact rest ["rows"] (M (f := "apart") rfl (by decide +kernel)) (by decide +kernel) (by decide +kernel) rfl
    | when f r1 r2 => exact rest ["flag", "rows", "rows"] (M (f := "when") rfl (by decide +kernel)) (by decide +kernel) (by decide +kernel) rfl
    | held f r1 r2 => exact rest ["slot", "rows", "rows"] (M (f := "held") rfl (by decide +kernel)) (by decide +kernel) (by decide +kernel) rfl
    | fail => exact rest [] (M (f := "fail") rfl (by decide +kernel)) (by decide +kernel) (by decide +kernel) rfl
    | guard r1 r2 => exact rest ["rows", "rows"] (M (f := "guard") rfl (by decide +kernel)) (by decide +kernel) (by decide +kernel) rfl

end
end Own

set_option Elab.async false
set_option linter.all false
set_option maxRecDepth 100000
set_option maxHeartbeats 4000000
namespace Own
open PySem PySem.Spec PyProof.Rows L2
section
variable {P : Program} {w : World} {K : PySem.W.Frag} {mg : Str → Option Value} {base : Heap}
theorem parts_is : ∀ p ∈ V_PARTS, ((V_PARTS.find? fun m => decide (m.1 = p.1)).map (·.2)).getD [] = p.2 := by decide +kernel
theorem hk_mem (h : Hk) : (h.first, h.roles) ∈ V_PARTS ∨ (h.first, h.roles) ∈ V_STATEMENTS := by
  cases h with
  | st s => exact .inr (roles_mem s)
  | pt t =>
    have hk : t.kind ∈ V_PARTS.map (·.1) := by cases t <;> (simp only [Prt.kind]; decide +kernel)
    obtain ⟨p, hp, e⟩ := List.mem_map.mp hk
    refine .inl ?_
    show (t.kind, ((V_PARTS.find? fun m => decide (m.1 = t.kind)).map (·.2)).getD []) ∈ V_PARTS
    rw [← e, parts_is p hp]
    exact hp
theorem hk_first (h : Hk) : ∃ r, h.words = h.words.headD "" :: r := by
  cases h with
  | st s => cases s <;> exact ⟨_, rfl⟩
  | pt t => cases t <;> exact ⟨_, rfl⟩
theorem hk_hd (h : Hk) : ∃ r, h.hd = .str h.first :: r ∧ r.length ≤ 3 := by
  cases h with
  | st s => cases s <;> exact ⟨_, rfl, by simp⟩
  | pt t => cases t <;> exact ⟨_, rfl, by simp⟩
theorem line_of {f : Str} {rs rl : List Str} (h : (f, rs) ∈ V_STATEMENTS) (e : lineR rs = rl) : lineR (rolesF f) = rl := by rw [roles_is _ h]; exact e
theorem line_pt {t : Prt} {rs rl : List Str} (h : (t.kind, rs) ∈ V_PARTS) (e : lineR rs = rl) : lineR (Hk.pt t).roles = rl := by
  show lineR (((V_PARTS.find? fun m => decide (m.1 = t.kind)).map (·.2)).getD []) = rl
  rw [parts_is _ h]
  exact e
theorem fitS {s : Stm} {f : Str} {rs rl : List Str} {ds : List PyData} (e : s.first = f) (hm : (f, rs) ∈ V_STATEMENTS) (el : lineR rs = rl) (h : FitL (StD 9) rl ds) : FitL (StD 9) (lineR (rolesF s.first)) ds := by
  rw [e, line_of hm el]
  exact h
theorem hk_fit {h : Hk} (o : h.ok) : FitL (StD 9) (lineR h.roles) (h.hd.drop 1) := by
  have ii : ∀ {r : Str}, r ∈ (["name", "flag", "bound", "slot", "func"] : List Str) → r ∈ (["ident", "name", "flag", "bound", "slot", "func"] : List Str) := by
    have z : ∀ r ∈ (["name", "flag", "bound", "slot", "func"] : List Str), r ∈ (["ident", "name", "flag", "bound", "slot", "func"] : List Str) := by decide +kernel
    exact fun {r} h => z r h
  cases h with
  | pt t =>
    cases t with
    | name i x => rw [line_pt (t := .name i x) (rs := ["ident", "word"]) (rl := ["ident", "word"]) (show (("name" : Str), (["ident", "word"] : List Str)) ∈ V_PARTS by decide +kernel) (by decide +kernel)]; exact .cons (f_ident (by decide +kernel) o.1) (.cons (.word o.2) .nil)
    | flag i x => rw [line_pt (t := .flag i x) (rs := ["ident", "switch"]) (rl := ["ident", "switch"]) (show (("flag" : Str), (["ident", "switch"] : List Str)) ∈ V_PARTS by decide +kernel) (by decide +kernel)]; exact .cons (f_ident (by decide +kernel) o.1) (.cons (.switch o.2) .nil)
    | slot i x => rw [line_pt (t := .slot i x) (rs := ["ident", "reach"]) (rl := ["ident", "reach"]) (show (("slot" : Str), (["ident", "reach"] : List Str)) ∈ V_PARTS by decide +kernel) (by decide +kernel)]; exact .cons (f_ident (by decide +kernel) o.1) (.cons (.reach o.2) .nil)
    | func i x rows => rw [line_pt (t := .func i x rows) (rs := ["ident", "reach", "rows"]) (rl := ["ident", "reach"]) (show (("func" : Str), (["ident", "reach", "rows"] : List Str)) ∈ V_PARTS by decide +kernel) (by decide +kernel)]; exact .cons (f_ident (by decide +kernel) o.1) (.cons (.reach o.2.1) .nil)
  | st s =>
    show FitL (StD 9) (lineR (rolesF s.first)) _
    cases s with
    | look x i => exact fitS (f := "look") (rs := ["word", "name"]) (rl := ["word", "name"]) rfl (by decide +kernel) (by decide +kernel) (.cons (.word o.1) (.cons (f_ident (by decide +kernel) o.2) .nil))
    | bind i v r => exact fitS (f := "bind") (rs := ["bound", "worth", "rows"]) (rl := ["bound", "worth"]) rfl (by decide +kernel) (by decide +kernel) (.cons (f_ident (by decide +kernel) o.1) (.cons (f_wth o.2) .nil))
    | call i => exact fitS (f := "call") (rs := ["func"]) (rl := ["func"]) rfl (by decide +kernel) (by decide +kernel) (.cons (f_ident (by decide +kernel) o) .nil)
    | keep s f c => exact fitS (f := "keep") (rs := ["slot", "func", "captured"]) (rl := ["slot", "func", "captured"]) rfl (by decide +kernel) (by decide +kernel) (.cons (f_ident (by decide +kernel) o.1) (.cons (f_ident (by decide +kernel) o.2.1) (.cons (f_capt o.2.2) .nil)))
    | take s c => exact fitS (f := "take") (rs := ["slot", "captured"]) (rl := ["slot", "captured"]) rfl (by decide +kernel) (by decide +kernel) (.cons (f_ident (by decide +kernel) o.1) (.cons (f_capt o.2) .nil))
    | shift s u c => exact fitS (f := "shift") (rs := ["slot", "slot", "captured"]) (rl := ["slot", "slot", "captured"]) rfl (by decide +kernel) (by decide +kernel) (.cons (f_ident (by decide +kernel) o.1) (.cons (f_ident (by decide +kernel) o.2.1) (.cons (f_capt o.2.2) .nil)))
    | run i => exact fitS (f := "run") (rs := ["slot"]) (rl := ["slot"]) rfl (by decide +kernel) (by decide +kernel) (.cons (f_ident (by decide +kernel) o) .nil)
    | drop i => exact fitS (f := "drop") (rs := ["slot"]) (rl := ["slot"]) rfl (by decide +kernel) (by decide +kernel) (.cons (f_ident (by decide +kernel) o) .nil)
    | apart r => exact fitS (f := "apart") (rs := ["rows"]) (rl := []) rfl (by decide +kernel) (by decide +kernel) (.nil)
    | when f r1 r2 => exact fitS (f := "when") (rs := ["flag", "rows", "rows"]) (rl := ["flag"]) rfl (by decide +kernel) (by decide +kernel) (.cons (f_ident (by decide +kernel) o) .nil)
    | held f r1 r2 => exact fitS (f := "held") (rs := ["slot", "rows", "rows"]) (rl := ["slot"]) rfl (by decide +kernel) (by decide +kernel) (.cons (f_ident (by decide +kernel) o) .nil)
    | fail => exact fitS (f := "fail") (rs := []) (rl := []) rfl (by decide +kernel) (by decide +kernel) (.nil)
    | guard r1 r2 => exact fitS (f := "guard") (rs := ["rows", "rows"]) (rl := []) rfl (by decide +kernel) (by decide +kernel) (.nil)
theorem hk_st (s : Stm) : (Hk.st s).words.headD "" ∈ V_STATEMENTS.map (·.1) := by
  have e : (Hk.st s).words.headD "" = s.first := by cases s <;> rfl
  rw [e]
  exact first_mem s
theorem hk_pt {t : Prt} (w : PtW t) : (Hk.pt t).words.headD "" ∉ V_STATEMENTS.map (·.1) := by
  have z : ∀ f ∈ (["name", "flag", "open", "own"] : List Str), f ∉ V_STATEMENTS.map (·.1) := by decide +kernel
  refine z _ ?_
  cases t with
  | name i x => exact .head _
  | flag i x => exact .tail _ (.head _)
  | slot i x => rcases w.2 with rfl | rfl <;> (show _ ∈ _; simp [Hk.words, Prt.words])
  | func i x rows => rcases w.2.1 with rfl | rfl <;> (show _ ∈ _; simp [Hk.words, Prt.words])
def spRdH (K : PySem.W.Frag) : Sp := fun vs H Q _ => ∃ (a : Addr) (h : Hk), vs = [.ref a] ∧ SqL K H a (h.words.map V.str) ∧ h.ok ∧ ∀ v H2, Same H H2 → Dp K H2 v (.tuple h.hd) → Q v H2
theorem ok_read_head (T : Txt K mg w) : FnOk P w K mg base CX0 33 T.d_read_head.a T.d_read_head.d ["words"] (spRdH K) := by
  refine T.d_read_head.F.ok sc_read_head (fun vs H Q E h => ?_) (fun cdv A outer s H vs Q E hr h => ?_)
  · obtain ⟨_, _, rfl, _⟩ := h
    rfl
  · obtain ⟨a, hk, rfl, ha, ok, q⟩ := h
    have hu := hr.units
    refine ⟨_, (pss_cons (ps_set (i := 1) sc_read_head.nd rfl (Or.inl rfl) (pe_ifExp (pt_cmpR (op_in_kd T.c_STATEMENTS.kd) (pe_ix ix_list (pv 0) pe_int (fun _ _ => rfl)) (pe_glob (v := (.ref T.k_STATEMENTS)) rfl T.m_STATEMENTS rfl) (by rfl)) (pe_call (ok_read_statement T) (hr.mono (by decide)) (by rfl) T.d_read_statement.g T.d_read_statement.F.kp T.d_read_statement.b .nil pass0 (pa_cons (pv 0) pa_nil)) (pe_call (ok_read_part T) (hr.mono (by decide)) (by rfl) T.d_read_part.g T.d_read_part.F.kp T.d_read_part.b .nil pass0 (pa_cons (pv 0) pa_nil))))
      (pss_cons (ps_if (PW.pt (pw_or (pt_cmpR op_isN (pv 1) pe_non (nomark _)) (pw_or1 (pt_not (pt_truth (pe_call (ok_fitM T) (hr.mono (by decide)) (by rfl) T.d_fit.g T.d_fit.F.kp T.d_fit.b .nil pass0 (pa_cons (pe_call (ok_line_roles T) (hr.mono (by decide)) (by rfl) T.d_line_roles.g T.d_line_roles.F.kp T.d_line_roles.b .nil pass0 (pa_cons (pe_ix ix_tup (pv 1) pe_int (fun _ _ => rfl)) pa_nil)) (pa_cons (pe_slice sl_tupA (pv 1) (po_some pe_int) po_none) (pa_cons pe_int pa_nil)))) (by intro _; rfl)))))) (pss_one (ps_ret pe_non)) pss_nil)
      (pss_one (ps_ret (pv 1))))), ?_⟩
    (try simp only [tIxO, rIsB, rNotB, tSeq, tIfS, tTest, tB, tOp, tUn, tVar, tC, tAsg, gName, tRet, tRetN, tCB, tCons, tNil, tLst_eq, tTup_eq, tDNewK_eq, tNext, tPar, tM0, tM1, tSl, tNoPart, tPart, rSlS, tAug, tAugS, tExf_eq, ipI, tChain, tCall, tDrop, tBM, tAnd, tOr, tNot, tAndV, tOrV, tNotV, tIf, tIsN, tNotN, rI, rI0, rU, rEq, rNe, gSub, cx_K, cx_K2, L2.start, wipe, scal_ii, scal_ss, scal_bb, scal_is, scal_si, scal_nn, List.map_cons, List.map_nil, List.length_cons, List.length_nil, List.cons_append, List.nil_append, List.append_nil, List.replicate, List.getElem?_cons_zero, List.getElem?_cons_succ, Option.some.injEq, exists_and_left, exists_eq_left', exists_eq_left, exists_eq, exists_eq', V.int.injEq, V.ref.injEq, V.str.injEq, V.bl.injEq, List.cons.injEq, and_true, true_and, false_and, exists_false, or_false, false_or, reduceCtorEq, List.set_cons_zero, List.set_cons_succ, Nat.reduceAdd, Nat.reduceSub, Int.reduceToNat, decide_eq_true_eq, if_true, if_false, Bool.false_eq_true, Bool.not_true, Bool.not_false, Bool.true_eq_false, ite_false, ite_true, ne_eq, not_false_eq_true, Int.reduceEq])
    obtain ⟨r0, e0⟩ := hk_first hk
    refine ixL_go ha (atI_nat (j := 0) (by rw [e0]; rfl)) ?_
    obtain ⟨z, e1, e2⟩ := T.c_STATEMENTS.isin (hk.words.headD "")
    refine ⟨_, rfl, z, e1, ?_⟩
    rw [e2]
    obtain ⟨r1, eh, l1⟩ := hk_hd hk
    have l4 : (lineR hk.roles).length ≤ 1000 := by
      have z := (hk_fit ok).len
      rw [eh] at z
      simp only [List.drop_succ_cons, List.drop_zero] at z
      omega
    have go : ∀ (v : V) (H1 : Hp), Same H H1 → Dp K H1 v (.tuple hk.hd) → (if v = V.non then Q V.non H1 else rIxT K v (V.int 0) H1 fun x_1 H1 => spLnR K [x_1] H1 (fun x_2 H1 => rSlA K v (some 1) none H1 fun x_3 H1 => ∃ ra va, (x_2 = V.ref ra ∧ x_3 = V.ref va) ∧ ∃ x_4, SqL K H1 ra (List.map V.str x_4) ∧ ∃ x_5, SqT K H1 va x_5 ∧ ∃ x_6, DpAll K H1 x_5 x_6 ∧ FitL (StD 9) x_4 x_6 ∧ x_4.length ≤ 1000 ∧ ∀ (H' : Hp), Same H1 H' → ∃ k, TruV K (V.bl true) H' k ∧ if (!k) = true then Q V.non H' else Q v H') E0) := fun v H1 s1 d1 => by
      obtain ⟨va, xs, rfl, hva, hx⟩ := Dp.tupD d1
      refine ite2 (fun z => by cases z) (fun _ => ?_)
      have d1e := d1
      rw [eh] at d1e
      refine ixD_go (j := 0) d1e rfl rfl fun y dy => ?_
      cases Dp.strD dy
      refine ⟨hk.first, hk.roles, rfl, hk_mem hk, fun b H2 nb s2 rb => slA_go (sqT_same s2 hva) fun p8 H8 s8 r8 => ?_⟩
      rw [cutV_1] at r8
      refine ⟨b, p8, ⟨rfl, rfl⟩, lineR hk.roles, .inl (.inl (s8 _ _ rb)), xs.drop 1, r8, hk.hd.drop 1, DpAll.drop (dpA_same (s2.trans s8) hx), hk_fit ok, l4, fun H9 s9 => ⟨true, rfl, ite2 (fun z => by cases z) (fun _ => ?_)⟩⟩
      have s19 := (s2.trans s8).trans s9
      exact q _ H9 (s1.trans s19) (dp_same s19 d1)
    cases hk with
    | st s =>
      rw [decide_eq_true (hk_st s)]
      refine ite2 (fun _ => ?_) (fun z => absurd rfl z)
      exact ⟨a, s, rfl, ha, ok, fun v H1 s1 d1 => go v H1 s1 d1⟩
    | pt t =>
      rw [decide_eq_false (hk_pt ok)]
      refine ite2 (fun z => by cases z) (fun _ => ?_)
      exact ⟨a, t, rfl, ha, fun v H1 s1 d1 => go v H1 s1 d1⟩

end
end Own

set_option Elab.async false
set_option linter.all false
set_option maxRecDepth 100000
set_option maxHeartbeats 4000000
namespace Own
open PySem PySem.Spec PyProof.Rows L2
section
variable {P : Program} {w : World} {K : PySem.W.Frag} {mg : Str → Option Value} {base : Heap}
def dvO (f : Str) : Option Str := (V_DIVIDERS.find? fun m => decide (m.1 = f)).map (·.2)
namespace Bg
def add (b : Bg) (d : PyData) : Bg := match b.g2 with
  | none => { b with g1 := b.g1 ++ [d] }
  | some g => { b with g2 := some (g ++ [d]) }
end Bg
namespace Mst
def put (st : Mst) (d : PyData) : Mst := match st.begun with
  | [] => { st with parts := st.parts ++ [d] }
  | b :: r => { st with begun := b.add d :: r }
/-- one line; none where it may not stand -/
def step (st : Mst) (n : Nat) : Wk → Option Mst
  | .hd h => if (V_PARTS.map (·.1)).contains h.first = !st.begun.isEmpty then none else if st.begun.length > 9 then none else
      let st2 : Mst := { st with lines := st.lines ++ [n] }
      if h.roles.contains "rows" then some { st2 with begun := ⟨n, h, [], none⟩ :: st2.begun } else some (st2.put (.tuple h.hd))
  | .stop => match st.begun with
    | [] => none
    | b :: r => some (({ st with begun := r } : Mst).put b.whole)
  | .dv d => match st.begun with
    | [] => none
    | b :: r => if dvO b.h.first = some d ∧ b.g2 = none then some { st with begun := { b with g2 := some [] } :: r } else none
theorem few.mono {st : Mst} {N M : Nat} (h : st.few N) (le : N ≤ M) : st.few M := ⟨Nat.le_trans h.parts le, Nat.le_trans h.lines le, Nat.le_trans h.begun le, fun b hb => ⟨Nat.le_trans (h.groups b hb).1 le, fun g hg => Nat.le_trans ((h.groups b hb).2 g hg) le⟩⟩
theorem few.put {st : Mst} {N : Nat} (h : st.few N) (d : PyData) : (st.put d).few (N + 1) := by
  unfold Mst.put
  cases e : st.begun with
  | nil => exact ⟨by simp; exact h.parts, Nat.le_succ_of_le h.lines, Nat.zero_le _, fun b hb => by cases hb⟩
  | cons b r =>
    have hl := h.begun
    rw [e] at hl
    refine ⟨Nat.le_succ_of_le h.parts, Nat.le_succ_of_le h.lines, Nat.le_succ_of_le hl, fun c hc => ?_⟩
    rcases List.mem_cons.mp hc with rfl | hc
    · obtain ⟨a1, a2⟩ := h.groups b (by rw [e]; exact .head _)
      unfold Bg.add
      cases e2 : b.g2 with
      | none => exact ⟨by simp; exact a1, fun g hg => by cases hg⟩
      | some g =>
        refine ⟨Nat.le_succ_of_le a1, fun g' hg => ?_⟩
        cases hg
        have := a2 g e2
        simp
        exact this
    · obtain ⟨a1, a2⟩ := h.groups c (by rw [e]; exact .tail _ hc)
      exact ⟨Nat.le_succ_of_le a1, fun g hg => Nat.le_succ_of_le (a2 g hg)⟩
end Mst
theorem Kpt.refl (O : List Addr) (H : Hp) : Kpt O O H H := fun _ _ n e => ⟨n, e⟩
end
end Own

set_option Elab.async false
set_option linter.all false
set_option maxRecDepth 100000
set_option maxHeartbeats 4000000
namespace Own
open PySem PySem.Spec PyProof.Rows L2
section
variable {P : Program} {w : World} {K : PySem.W.Frag} {mg : Str → Option Value} {base : Heap}
def FldB (n : Nat) (h ga : V) : List (Str × V) := [("line", .int (n : Int)), ("head", h), ("groups", ga)]
def spBgI (C : Addr) : Sp := fun vs H Q _ => ∃ (x dx : Addr) (n : Nat) (v : V), vs = [.ref x, .int (n : Int), v] ∧ H x = some (.ins C dx []) ∧ ∀ ga g1 H', H ga = none → H g1 = none → ga ≠ g1 → (∀ b o, b ≠ x → H b = some o → H' b = some o) → H' x = some (.ins C dx (FldB n v (.ref ga))) → H' ga = some (.lst [.ref g1]) → H' g1 = some (.lst []) → Q .non H'
theorem ok_Begun_init (T : Txt K mg w) : FnOk P w K mg base CX0 1 T.i_Begun_init.a T.i_Begun_init.d ["self", "line", "head"] (spBgI T.e_Begun.C) := by
  refine T.i_Begun_init.F.ok sc_Begun_init (fun vs H Q E h => ?_) (fun cdv A outer s H vs Q E hr h => ?_)
  · obtain ⟨_, _, _, _, rfl, _⟩ := h
    rfl
  · obtain ⟨x, dx, n, v, rfl, hx, q⟩ := h
    have hu := hr.units
    refine ⟨_, (pss_cons (ps_fld (pv 0) (pv 1) rfl)
      (pss_cons (ps_fld (pv 0) (pv 2) rfl)
      (pss_one (ps_fld (pv 0) (pe_lst (pa_cons (pe_lst pa_nil) pa_nil)) rfl)))), ?_⟩
    (try simp only [tIxO, rIsB, rNotB, tSeq, tIfS, tTest, tB, tOp, tUn, tVar, tC, tAsg, gName, tRet, tRetN, tCB, tCons, tNil, tLst_eq, tTup_eq, tDNewK_eq, tNext, tPar, tM0, tM1, tSl, tNoPart, tPart, rSlS, tAug, tAugS, tExf_eq, ipI, tChain, tCall, tDrop, tBM, tAnd, tOr, tNot, tAndV, tOrV, tNotV, tIf, tIsN, tNotN, rI, rI0, rU, rEq, rNe, gSub, cx_K, cx_K2, L2.start, wipe, scal_ii, scal_ss, scal_bb, scal_is, scal_si, scal_nn, List.map_cons, List.map_nil, List.length_cons, List.length_nil, List.cons_append, List.nil_append, List.append_nil, List.replicate, List.getElem?_cons_zero, List.getElem?_cons_succ, Option.some.injEq, exists_and_left, exists_eq_left', exists_eq_left, exists_eq, exists_eq', V.int.injEq, V.ref.injEq, V.str.injEq, V.bl.injEq, List.cons.injEq, and_true, true_and, false_and, exists_false, or_false, false_or, reduceCtorEq, List.set_cons_zero, List.set_cons_succ, Nat.reduceAdd, Nat.reduceSub, Int.reduceToNat, decide_eq_true_eq, if_true, if_false, Bool.false_eq_true, Bool.not_true, Bool.not_false, Bool.true_eq_false, ite_false, ite_true, ne_eq, not_false_eq_true, Int.reduceEq, sFld])
    refine ⟨_, _, _, hx, T.e_Begun.c, T.n_Begun_line, by decide, ?_⟩
    refine ⟨_, _, _, upd_same, T.e_Begun.c, T.n_Begun_head, (show 1 < 1000 by decide), ?_⟩
    rw [upd_upd]
    refine newL_go fun g1 H1 n1 s1 r1 => newL_go fun ga H2 n2 s2 r2 => ?_
    have e2 := s2 _ _ (s1 _ _ upd_same)
    refine ⟨_, _, _, e2, T.e_Begun.c, T.n_Begun_groups, (show 2 < 1000 by decide), ?_⟩
    have ng1 : H g1 = none := by
      cases e : H g1 with
      | none => rfl
      | some o =>
        by_cases z : g1 = x
        · rw [z, upd_same] at n1; cases n1
        · rw [upd_ne z, e] at n1; cases n1
    have g1x : g1 ≠ x := fun z => by rw [z, upd_same] at n1; cases n1
    have n2b := same_none s1 n2
    have gax : ga ≠ x := fun z => by rw [z, upd_same] at n2b; cases n2b
    have nga : H ga = none := by
      rw [upd_ne gax] at n2b
      exact n2b
    have gg : ga ≠ g1 := fun z => by rw [z, r1] at n2; cases n2
    refine q ga g1 _ nga ng1 gg (fun b o nb e => by rw [upd_ne nb]; exact s2 _ _ (s1 _ _ (by rw [upd_ne nb]; exact e))) upd_same (by rw [upd_ne gax]; exact r2) (by rw [upd_ne g1x]; exact s2 _ _ r1)
def FldR (pa la ba : V) : List (Str × V) := [("parts", pa), ("lines", la), ("begun", ba)]
def spRdI (C : Addr) : Sp := fun vs H Q _ => ∃ (x dx : Addr), vs = [.ref x] ∧ H x = some (.ins C dx []) ∧ ∀ pa la ba H', H pa = none → H la = none → H ba = none → pa ≠ la → pa ≠ ba → la ≠ ba → (∀ b o, b ≠ x → H b = some o → H' b = some o) → H' x = some (.ins C dx (FldR (.ref pa) (.ref la) (.ref ba))) → H' pa = some (.lst []) → H' la = some (.lst []) → H' ba = some (.lst []) → Q .non H'
theorem ok_Reader_init (T : Txt K mg w) : FnOk P w K mg base CX0 1 T.i_Reader_init.a T.i_Reader_init.d ["self"] (spRdI T.e_Reader.C) := by
  refine T.i_Reader_init.F.ok sc_Reader_init (fun vs H Q E h => ?_) (fun cdv A outer s H vs Q E hr h => ?_)
  · obtain ⟨_, _, rfl, _⟩ := h
    rfl
  · obtain ⟨x, dx, rfl, hx, q⟩ := h
    have hu := hr.units
    refine ⟨_, (pss_cons (ps_fld (pv 0) (pe_lst pa_nil) rfl)
      (pss_cons (ps_fld (pv 0) (pe_lst pa_nil) rfl)
      (pss_one (ps_fld (pv 0) (pe_lst pa_nil) rfl)))), ?_⟩
    (try simp only [tIxO, rIsB, rNotB, tSeq, tIfS, tTest, tB, tOp, tUn, tVar, tC, tAsg, gName, tRet, tRetN, tCB, tCons, tNil, tLst_eq, tTup_eq, tDNewK_eq, tNext, tPar, tM0, tM1, tSl, tNoPart, tPart, rSlS, tAug, tAugS, tExf_eq, ipI, tChain, tCall, tDrop, tBM, tAnd, tOr, tNot, tAndV, tOrV, tNotV, tIf, tIsN, tNotN, rI, rI0, rU, rEq, rNe, gSub, cx_K, cx_K2, L2.start, wipe, scal_ii, scal_ss, scal_bb, scal_is, scal_si, scal_nn, List.map_cons, List.map_nil, List.length_cons, List.length_nil, List.cons_append, List.nil_append, List.append_nil, List.replicate, List.getElem?_cons_zero, List.getElem?_cons_succ, Option.some.injEq, exists_and_left, exists_eq_left', exists_eq_left, exists_eq, exists_eq', V.int.injEq, V.ref.injEq, V.str.injEq, V.bl.injEq, List.cons.injEq, and_true, true_and, false_and, exists_false, or_false, false_or, reduceCtorEq, List.set_cons_zero, List.set_cons_succ, Nat.reduceAdd, Nat.reduceSub, Int.reduceToNat, decide_eq_true_eq, if_true, if_false, Bool.false_eq_true, Bool.not_true, Bool.not_false, Bool.true_eq_false, ite_false, ite_true, ne_eq, not_false_eq_true, Int.reduceEq, sFld])
    refine newL_go fun pa H1 n1 s1 r1 => ⟨_, _, _, s1 _ _ hx, T.e_Reader.c, T.n_Reader_parts, by decide, ?_⟩
    refine newL_go fun la H2 n2 s2 r2 => ⟨_, _, _, s2 _ _ upd_same, T.e_Reader.c, T.n_Reader_lines, (show 1 < 1000 by decide), ?_⟩
    refine newL_go fun ba H3 n3 s3 r3 => ⟨_, _, _, s3 _ _ upd_same, T.e_Reader.c, T.n_Reader_begun, (show 2 < 1000 by decide), ?_⟩
    have pax : pa ≠ x := fun z => by rw [z, hx] at n1; cases n1
    have lax : la ≠ x := fun z => by rw [z, upd_same] at n2; cases n2
    have bax : ba ≠ x := fun z => by rw [z, upd_same] at n3; cases n3
    have n2a : H1 la = none := by rw [upd_ne lax] at n2; exact n2
    have n3a : H2 ba = none := by rw [upd_ne bax] at n3; exact n3
    have pl : pa ≠ la := fun z => by rw [← z, r1] at n2a; cases n2a
    have lb : la ≠ ba := fun z => by rw [← z, r2] at n3a; cases n3a
    have up : ∀ {b o}, b ≠ x → H1 b = some o → H2 b = some o := fun nb e => s2 _ _ (by rw [upd_ne nb]; exact e)
    have up3 : ∀ {b o}, b ≠ x → H2 b = some o → H3 b = some o := fun nb e => s3 _ _ (by rw [upd_ne nb]; exact e)
    have pb : pa ≠ ba := fun z => by rw [← z, up pax r1] at n3a; cases n3a
    have n2H : H la = none := same_none s1 n2a
    have n3H : H ba = none := by
      cases e : H ba with
      | none => rfl
      | some o => rw [up bax (s1 _ _ e)] at n3a; cases n3a
    refine q pa la ba _ n1 n2H n3H pl pb lb (fun b o nb e => by rw [upd_ne nb]; exact up3 nb (up nb (s1 _ _ e))) upd_same (by rw [upd_ne pax]; exact up3 pax (up pax r1)) (by rw [upd_ne lax]; exact up3 lax r2) (by rw [upd_ne bax]; exact r3)
theorem last_at {α : Type} (f : α → V) (x : α) (l : List α) : atI ((x :: l).reverse.map f) (-1) = some (f x) := by
  have h := atI_end (xs := (x :: l).reverse.map f) (k := 1) (Nat.le_refl 1) (by simp)
  rw [show (-1 : Int) = -((1 : Nat) : Int) from rfl, h]
  simp
def curA (A : BgA) : Addr := A.g2.getD A.g1
def curB (B : Bg) : List PyData := B.g2.getD B.g1
theorem BgR.cur {K : PySem.W.Frag} {C : Addr} {H : Hp} {A : BgA} {B : Bg} (h : BgR K C H A B) : LD K H (curA A) (curB B) := by
  have r2 := h.r2
  have r1 := h.r1
  unfold curA curB
  revert r2
  cases A.g2 with
  | none => cases B.g2 with
    | none => exact fun _ => r1
    | some ds => exact fun z => z.elim
  | some a => cases B.g2 with
    | none => exact fun z => z.elim
    | some ds => exact fun z => z
theorem cur_mem (A : BgA) : curA A ∈ A.own := by
  unfold curA BgA.own
  cases A.g2 <;> simp
theorem cur_last (A : BgA) : atI ((A.g1 :: A.g2.toList).map V.ref) (-1) = some (.ref (curA A)) := by
  unfold curA
  cases A.g2 with
  | none => rfl
  | some g => rfl
theorem bgR_put {K : PySem.W.Frag} {C : Addr} {H : Hp} {A : BgA} {B : Bg} {v : V} {d : PyData} (h : BgR K C H A B) (nd : A.own.Nodup) (hd : Dp K H v d) (hp : Pl d = true) {xs : List V} (hx : H (curA A) = some (.lst xs)) (dx : DpAll K H xs (curB B)) (px : PlAll (curB B) = true) : BgR K C (upd H (curA A) (.lst (xs ++ [v]))) A (B.add d) := by
  have tu : Tu H (upd H (curA A) (.lst (xs ++ [v]))) := tu_lst hx
  have new : LD K (upd H (curA A) (.lst (xs ++ [v]))) (curA A) (curB B ++ [d]) := ⟨_, upd_same, dpA_app (DpAll.keep tu dx px) (.cons (Dp.keep tu hd hp) .nil), by rw [pl_app, px]; simp only [PlAll, hp, Bool.and_true]⟩
  obtain ⟨db, e⟩ := h.ob
  have r2 := h.r2
  have r1 := h.r1
  have gl := h.gl
  have hh := h.hd
  have nd2 := nd
  unfold BgA.own at nd2
  have n0 : A.b ≠ curA A := by
    unfold curA
    intro z
    revert nd2
    cases e2 : A.g2 <;> rw [e2] at z <;> simp_all
  have n1 : A.ga ≠ curA A := by
    unfold curA
    intro z
    revert nd2
    cases e2 : A.g2 <;> rw [e2] at z <;> simp_all
  have ob2 : ∃ db, (upd H (curA A) (.lst (xs ++ [v]))) A.b = some (.ins C db [("line", .int (B.line : Int)), ("head", .ref A.h), ("groups", .ref A.ga)]) := ⟨db, by rw [upd_ne n0]; exact e⟩
  have hd2 := Dp.keep tu hh (by show PlAll _ = true; exact pl_hk _)
  have gl2 : (upd H (curA A) (.lst (xs ++ [v]))) A.ga = some (.lst ((A.g1 :: A.g2.toList).map V.ref)) := by rw [upd_ne n1]; exact gl
  cases eB : B.g2 with
  | none =>
    have eA : A.g2 = none := by
      rw [eB] at r2
      cases e : A.g2 with
      | none => rfl
      | some a => rw [e] at r2; exact r2.elim
    have ec : curA A = A.g1 := by unfold curA; rw [eA]; rfl
    have eb : curB B = B.g1 := by unfold curB; rw [eB]; rfl
    have ea : B.add d = { B with g1 := B.g1 ++ [d] } := by unfold Bg.add; rw [eB]
    rw [ea]
    refine ⟨ob2, hd2, gl2, by rw [eb, ec] at new; rw [ec]; exact new, ?_⟩
    show G2R K _ A.g2 B.g2
    rw [eA, eB]
    trivial
  | some g =>
    obtain ⟨a, eA⟩ : ∃ a, A.g2 = some a := by
      rw [eB] at r2
      cases e : A.g2 with
      | none => rw [e] at r2; exact r2.elim
      | some a => exact ⟨a, rfl⟩
    have ec : curA A = a := by unfold curA; rw [eA]; rfl
    have eb : curB B = g := by unfold curB; rw [eB]; rfl
    have ea : B.add d = { B with g2 := some (g ++ [d]) } := by unfold Bg.add; rw [eB]
    have n3 : A.g1 ≠ curA A := by
      rw [ec]
      intro z
      rw [eA] at nd2
      simp_all
    rw [ea]
    refine ⟨ob2, hd2, gl2, r1.upd hx n3, ?_⟩
    show G2R K _ A.g2 (some (g ++ [d]))
    rw [eA]
    rw [eb, ec] at new
    rw [ec]
    exact new
theorem own_nd {r pa la ba : Addr} {A : BgA} {As : List BgA} (h : (ownR r pa la ba (A :: As)).Nodup) : A.own.Nodup ∧ (∀ x ∈ A.own, x ≠ r ∧ x ≠ pa ∧ x ≠ la ∧ x ≠ ba ∧ x ∉ As.flatMap BgA.own) ∧ (ownR r pa la ba As).Nodup := by
  unfold ownR at h
  rw [List.flatMap_cons] at h
  have h1 := List.nodup_cons.mp h
  have h2 := List.nodup_cons.mp h1.2
  have h3 := List.nodup_cons.mp h2.2
  have h4 := List.nodup_cons.mp h3.2
  have h5 := List.nodup_append.mp h4.2
  refine ⟨h5.1, fun x hx => ⟨?_, ?_, ?_, ?_, fun z => h5.2.2 x hx x z rfl⟩, ?_⟩
  · rintro rfl
    exact h1.1 (by simp [hx])
  · rintro rfl
    exact h2.1 (by simp [hx])
  · rintro rfl
    exact h3.1 (by simp [hx])
  · rintro rfl
    exact h4.1 (by simp [hx])
  · refine List.Nodup.sublist ?_ h
    exact .cons₂ _ (.cons₂ _ (.cons₂ _ (.cons₂ _ (List.sublist_append_right _ _))))
def spPut (K : PySem.W.Frag) (CR CB : Addr) : Sp := fun vs H Q _ => ∃ (r dr pa la ba : Addr) (As : List BgA) (st : Mst) (v : V) (d : PyData), vs = [.ref r, v] ∧ Rd K CR CB r dr pa la ba As st H ∧ Dp K H v d ∧ Pl d = true ∧ st.few 99999 ∧ ∀ H', Rd K CR CB r dr pa la ba As (st.put d) H' → Kpt (ownR r pa la ba As) (ownR r pa la ba As) H H' → Q .non H'
theorem ok_Reader_put (T : Txt K mg w) : FnOk P w K mg base CX0 1 T.i_Reader_put.a T.i_Reader_put.d ["self", "node"] (spPut K T.e_Reader.C T.e_Begun.C) := by
  refine T.i_Reader_put.F.ok sc_Reader_put (fun vs H Q E h => ?_) (fun cdv A outer s H vs Q E hr h => ?_)
  · obtain ⟨_, _, _, _, _, _, _, _, _, rfl, _⟩ := h
    rfl
  · obtain ⟨r, dr, pa, la, ba, As, st, v, d, rfl, R, hd, hp, few, q⟩ := h
    have hu := hr.units
    refine ⟨_, (pss_one (ps_if (pt_truth (pe_fld (pv 0) rfl) (by intro _; rfl)) (pss_one (ps_expr (pe_bm PySem.F.plainAttrs_list PySem.F.slot_list_append PySem.F.type_list_append mt_append (pe_ix ix_list (pe_fld (pe_ix ix_list (pe_fld (pv 0) rfl) (pe_un un_neg pe_int) (fun _ _ => rfl)) rfl) (pe_un un_neg pe_int) (fun _ _ => rfl)) (pa_cons (pv 1) pa_nil)))) (pss_one (ps_expr (pe_bm PySem.F.plainAttrs_list PySem.F.slot_list_append PySem.F.type_list_append mt_append (pe_fld (pv 0) rfl) (pa_cons (pv 1) pa_nil)))))), ?_⟩
    (try simp only [tIxO, rIsB, rNotB, tSeq, tIfS, tTest, tB, tOp, tUn, tVar, tC, tAsg, gName, tRet, tRetN, tCB, tCons, tNil, tLst_eq, tTup_eq, tDNewK_eq, tNext, tPar, tM0, tM1, tSl, tNoPart, tPart, rSlS, tAug, tAugS, tExf_eq, ipI, tChain, tCall, tDrop, tBM, tAnd, tOr, tNot, tAndV, tOrV, tNotV, tIf, tIsN, tNotN, rI, rI0, rU, rEq, rNe, gSub, cx_K, cx_K2, L2.start, wipe, scal_ii, scal_ss, scal_bb, scal_is, scal_si, scal_nn, List.map_cons, List.map_nil, List.length_cons, List.length_nil, List.cons_append, List.nil_append, List.append_nil, List.replicate, List.getElem?_cons_zero, List.getElem?_cons_succ, Option.some.injEq, exists_and_left, exists_eq_left', exists_eq_left, exists_eq, exists_eq', V.int.injEq, V.ref.injEq, V.str.injEq, V.bl.injEq, List.cons.injEq, and_true, true_and, false_and, exists_false, or_false, false_or, reduceCtorEq, List.set_cons_zero, List.set_cons_succ, Nat.reduceAdd, Nat.reduceSub, Int.reduceToNat, decide_eq_true_eq, if_true, if_false, Bool.false_eq_true, Bool.not_true, Bool.not_false, Bool.true_eq_false, ite_false, ite_true, ne_eq, not_false_eq_true, Int.reduceEq, tFld])
    refine ⟨_, _, _, R.ob, T.e_Reader.c, T.n_Reader_begun, _, rfl, _, .inl ⟨_, .inl (.inl R.bs), rfl⟩, ?_⟩
    obtain ⟨ob, hps, hls, hbs, hall, nd⟩ := R
    obtain ⟨ps, ls, bg⟩ := st
    cases hall with
    | nil =>
      refine ite2 (fun z => by simp at z) (fun _ => ?_)
      refine ⟨_, _, _, ob, T.e_Reader.c, T.n_Reader_parts, _, rfl, ?_⟩
      obtain ⟨xs, ex, dx, px⟩ := hps
      have lx : xs.length = ps.length := DpAll.len dx
      have fp : ps.length ≤ 99999 := few.parts
      refine ⟨tyL ex, pa, _, _, rfl, rfl, ex, Nat.lt_of_le_of_lt (show xs.length ≤ 99999 by omega) (by decide), ?_⟩
      have nd2 := nd
      unfold ownR at nd2
      simp only [List.flatMap_nil, List.nodup_cons, List.mem_cons, List.not_mem_nil, or_false, not_or] at nd2
      have tu : Tu H (upd H pa (.lst (xs ++ [v]))) := tu_lst ex
      refine q _ ⟨by rw [upd_ne nd2.1.1]; exact ob, ⟨_, upd_same, dpA_app (DpAll.keep tu dx px) (.cons (Dp.keep tu hd hp) .nil), by show PlAll (ps ++ [d]) = true; rw [pl_app, show PlAll ps = true from px]; simp only [PlAll, hp, Bool.and_true]⟩, by rw [upd_ne (fun z => nd2.2.1.1 z.symm)]; exact hls, by rw [upd_ne (fun z => nd2.2.1.2 z.symm)]; exact hbs, .nil, nd⟩ (Kpt.upd (by unfold ownR; simp))
    | @cons A B As Bs hA hAs =>
      refine ite2 (fun _ => ?_) (fun z => absurd (by simp) z)
      refine ⟨_, _, _, ob, T.e_Reader.c, T.n_Reader_begun, _, rfl, ixM_go hbs (last_at _ A As) ⟨_, rfl, ?_⟩⟩
      obtain ⟨db, eA⟩ := hA.ob
      refine ⟨_, _, _, eA, T.e_Begun.c, T.n_Begun_groups, _, rfl, ixM_go hA.gl (cur_last A) ?_⟩
      obtain ⟨xs, ex, dx, px⟩ := hA.cur
      have lx : xs.length = (curB B).length := DpAll.len dx
      have fg := few.groups B (.head _)
      have lc : (curB B).length ≤ 99999 := by
        unfold curB
        cases e : B.g2 with
        | none => exact fg.1
        | some g => exact fg.2 g e
      refine ⟨tyL ex, _, _, _, rfl, rfl, ex, Nat.lt_of_le_of_lt (show xs.length ≤ 99999 by omega) (by decide), ?_⟩
      obtain ⟨n1, n2, n3⟩ := own_nd nd
      obtain ⟨m1, m2, m3, m4, m5⟩ := n2 _ (cur_mem A)
      refine q _ ⟨by rw [upd_ne m1.symm]; exact ob, hps.upd ex m2.symm, by rw [upd_ne m3.symm]; exact hls, by rw [upd_ne m4.symm]; exact hbs, .cons (bgR_put hA n1 hd hp ex dx px) (hAs.upd ex m5), nd⟩ (Kpt.upd ?_)
      unfold ownR
      rw [List.flatMap_cons]
      simp only [List.mem_cons, List.mem_append]
      exact .inr (.inr (.inr (.inr (.inl (cur_mem A)))))

end
end Own

set_option Elab.async false
set_option linter.all false
set_option maxRecDepth 100000
set_option maxHeartbeats 4000000
namespace Own
open PySem PySem.Spec PyProof.Rows L2
section
variable {P : Program} {w : World} {K : PySem.W.Frag} {mg : Str → Option Value} {base : Heap}
theorem dvO_mem {f d : Str} (h : dvO f = some d) : (f, d) ∈ V_DIVIDERS := by
  unfold dvO at h
  obtain ⟨p, hp, rfl⟩ := Option.map_eq_some_iff.mp h
  have e : p.1 = f := by simpa using List.find?_some hp
  rw [← e]
  exact List.mem_of_find?_eq_some hp
theorem nodup_ins {x : Addr} {l1 l2 : List Addr} (n : x ∉ l1 ++ l2) (h : (l1 ++ l2).Nodup) : (l1 ++ x :: l2).Nodup := (List.perm_middle.nodup_iff).mpr (List.nodup_cons.mpr ⟨n, h⟩)
theorem BgR.alive {K : PySem.W.Frag} {C : Addr} {H : Hp} {A : BgA} {B : Bg} (h : BgR K C H A B) : ∀ a ∈ A.own, ∃ o, H a = some o := by
  intro a ha
  unfold BgA.own at ha
  rcases List.mem_cons.mp ha with rfl | ha
  · obtain ⟨db, e⟩ := h.ob
    exact ⟨_, e⟩
  rcases List.mem_cons.mp ha with rfl | ha
  · exact ⟨_, h.gl⟩
  rcases List.mem_cons.mp ha with rfl | ha
  · obtain ⟨xs, e, _⟩ := h.r1
    exact ⟨_, e⟩
  have r2 := h.r2
  cases e2 : A.g2 with
  | none => rw [e2] at ha; cases ha
  | some g =>
    rw [e2] at ha r2
    cases List.mem_singleton.mp ha
    cases e3 : B.g2 with
    | none => rw [e3] at r2; exact r2.elim
    | some ds =>
      rw [e3] at r2
      obtain ⟨xs, e, _⟩ := r2
      exact ⟨_, e⟩
theorem AllR.alive {K : PySem.W.Frag} {C : Addr} {H : Hp} : ∀ {As : List BgA} {Bs : List Bg}, AllR K C H As Bs → ∀ a ∈ As.flatMap BgA.own, ∃ o, H a = some o
  | _, _, .nil, a, ha => by cases ha
  | _, _, .cons h t, a, ha => by
    rw [List.flatMap_cons] at ha
    rcases List.mem_append.mp ha with ha | ha
    · exact h.alive a ha
    · exact AllR.alive t a ha
theorem Rd.alive {K : PySem.W.Frag} {CR CB r dr pa la ba : Addr} {As : List BgA} {st : Mst} {H : Hp} (R : Rd K CR CB r dr pa la ba As st H) : ∀ a ∈ ownR r pa la ba As, ∃ o, H a = some o := by
  intro a ha
  unfold ownR at ha
  rcases List.mem_cons.mp ha with rfl | ha
  · exact ⟨_, R.ob⟩
  rcases List.mem_cons.mp ha with rfl | ha
  · obtain ⟨xs, e, _⟩ := R.ps
    exact ⟨_, e⟩
  rcases List.mem_cons.mp ha with rfl | ha
  · exact ⟨_, R.ls⟩
  rcases List.mem_cons.mp ha with rfl | ha
  · exact ⟨_, R.bs⟩
  exact R.all.alive a ha
theorem Rd.fresh {K : PySem.W.Frag} {CR CB r dr pa la ba x : Addr} {As : List BgA} {st : Mst} {H : Hp} (R : Rd K CR CB r dr pa la ba As st H) (n : H x = none) : x ∉ ownR r pa la ba As := fun h => by
  obtain ⟨o, e⟩ := R.alive x h
  rw [n] at e
  cases e
def spDiv (K : PySem.W.Frag) (CR CB : Addr) : Sp := fun vs H Q _ => ∃ (r dr pa la ba : Addr) (A : BgA) (As : List BgA) (B : Bg) (Bs : List Bg) (ps : List PyData) (ls : List Nat) (d : Str), vs = [.ref A.b, .str d] ∧ Rd K CR CB r dr pa la ba (A :: As) ⟨ps, ls, B :: Bs⟩ H ∧ dvO B.h.first = some d ∧ B.g2 = none ∧ ∀ A' H', Rd K CR CB r dr pa la ba (A' :: As) ⟨ps, ls, { B with g2 := some [] } :: Bs⟩ H' → Kpt (ownR r pa la ba (A :: As)) (ownR r pa la ba (A' :: As)) H H' → Q (.bl true) H'
theorem ok_Begun_divide (T : Txt K mg w) : FnOk P w K mg base CX0 1 T.i_Begun_divide.a T.i_Begun_divide.d ["self", "word"] (spDiv K T.e_Reader.C T.e_Begun.C) := by
  refine T.i_Begun_divide.F.ok sc_Begun_divide (fun vs H Q E h => ?_) (fun cdv A outer s H vs Q E hr h => ?_)
  · obtain ⟨_, _, _, _, _, _, _, _, _, _, _, _, rfl, _⟩ := h
    rfl
  · obtain ⟨r, dr, pa, la, ba, A, As, B, Bs, ps, ls, d, rfl, R, hdv, hg2, q⟩ := h
    have hu := hr.units
    refine ⟨_, (pss_cons (ps_if (PW.pt (pw_or (pt_cmpR (op_neD hu) (pe_kget T.c_DIVIDERS.kd (pe_glob (v := (.ref T.k_DIVIDERS)) rfl T.m_DIVIDERS rfl) (pe_ix ix_tup (pe_fld (pv 0) rfl) pe_int (fun _ _ => rfl)) ⟨rfl, rfl, rfl, rfl⟩) (pv 1) (nomark _)) (pw_or1 (pt_cmpR op_eq (pe_callB call_lenL (by rfl) T.z_len (by decide +kernel) (pa_cons (pe_fld (pv 0) rfl) pa_nil)) pe_int (nomark _))))) (pss_one (ps_ret pe_bl)) pss_nil)
      (pss_cons (ps_expr (pe_bm PySem.F.plainAttrs_list PySem.F.slot_list_append PySem.F.type_list_append mt_append (pe_fld (pv 0) rfl) (pa_cons (pe_lst pa_nil) pa_nil)))
      (pss_one (ps_ret pe_bl)))), ?_⟩
    (try simp only [tIxO, rIsB, rNotB, tSeq, tIfS, tTest, tB, tOp, tUn, tVar, tC, tAsg, gName, tRet, tRetN, tCB, tCons, tNil, tLst_eq, tTup_eq, tDNewK_eq, tNext, tPar, tM0, tM1, tSl, tNoPart, tPart, rSlS, tAug, tAugS, tExf_eq, ipI, tChain, tCall, tDrop, tBM, tAnd, tOr, tNot, tAndV, tOrV, tNotV, tIf, tIsN, tNotN, rI, rI0, rU, rEq, rNe, gSub, cx_K, cx_K2, L2.start, wipe, scal_ii, scal_ss, scal_bb, scal_is, scal_si, scal_nn, List.map_cons, List.map_nil, List.length_cons, List.length_nil, List.cons_append, List.nil_append, List.append_nil, List.replicate, List.getElem?_cons_zero, List.getElem?_cons_succ, Option.some.injEq, exists_and_left, exists_eq_left', exists_eq_left, exists_eq, exists_eq', V.int.injEq, V.ref.injEq, V.str.injEq, V.bl.injEq, List.cons.injEq, and_true, true_and, false_and, exists_false, or_false, false_or, reduceCtorEq, List.set_cons_zero, List.set_cons_succ, Nat.reduceAdd, Nat.reduceSub, Int.reduceToNat, decide_eq_true_eq, if_true, if_false, Bool.false_eq_true, Bool.not_true, Bool.not_false, Bool.true_eq_false, ite_false, ite_true, ne_eq, not_false_eq_true, Int.reduceEq, tFld])
    have fr := fun {x} n => R.fresh (x := x) n
    obtain ⟨ob, hps, hls, hbs, hall, nd⟩ := R
    cases hall with
    | cons hA hAs =>
    obtain ⟨db, eA⟩ := hA.ob
    refine ⟨_, _, _, eA, T.e_Begun.c, T.n_Begun_head, _, rfl, ?_⟩
    obtain ⟨r1, eh, _⟩ := hk_hd B.h
    have d1 := hA.hd
    rw [eh] at d1
    refine ixD_go (j := 0) d1 rfl rfl fun y dy => ?_
    cases Dp.strD dy
    have mem := dvO_mem hdv
    obtain ⟨u, vv, e1, rv, rs⟩ := T.c_DIVIDERS.has _ _ mem
    have rs : vv = .str d := rs
    subst rs
    refine ⟨_, rfl, _, e1, _, rv, ?_⟩
    have shp : ∀ p ∈ V_DIVIDERS, PyData.canLay0 (.str p.2) = true ∧ SeqAt.shaped (.str p.2) = true := by decide +kernel
    refine ⟨.str d, .str d, .str _, .str _, (shp _ mem).2, (shp _ mem).2, ?_⟩
    rw [PySem.SeqAt.eqv_refl _ (shp _ mem).1]
    refine ⟨_, rfl, ite2 (fun z => by cases z) (fun _ => ?_)⟩
    have eg : A.g2 = none := by
      have r2 := hA.r2
      have hg2 : B.g2 = none := hg2
      rw [hg2] at r2
      cases e : A.g2 with
      | none => rfl
      | some a => rw [e] at r2; exact r2.elim
    have gl := hA.gl
    rw [eg] at gl
    have gl : H A.ga = some (.lst [.ref A.g1]) := gl
    refine ⟨_, _, _, eA, T.e_Begun.c, T.n_Begun_groups, _, rfl, A.ga, rfl, _, .inl (.inl gl), ite2 (fun z => by simp at z) (fun _ => ?_)⟩
    refine ⟨_, _, _, eA, T.e_Begun.c, T.n_Begun_groups, _, rfl, tyL gl, newL_go fun g H1 ng s1 rg => ?_⟩
    have gl1 := s1 _ _ gl
    refine ⟨A.ga, _, _, rfl, rfl, gl1, Nat.lt_of_le_of_lt (show 1 ≤ 1000 by decide) (show 1000 < sizeLine by decide), ?_⟩
    obtain ⟨n1, n2, n3⟩ := own_nd nd
    have gm : A.ga ∈ A.own := by unfold BgA.own; simp
    obtain ⟨m1, m2, m3, m4, m5⟩ := n2 _ gm
    have nb : A.b ≠ A.ga := by
      have z := n1
      unfold BgA.own at z
      simp only [List.nodup_cons, List.mem_cons, not_or] at z
      exact z.1.1
    have ng1 : A.g1 ≠ A.ga := by
      have z := n1
      unfold BgA.own at z
      simp only [List.nodup_cons, List.mem_cons, not_or] at z
      exact fun e => z.2.1.1 e.symm
    have gg : g ≠ A.ga := fun z => by rw [z, gl] at ng; cases ng
    have tu : Tu H (upd H1 A.ga (.lst ([.ref A.g1] ++ [.ref g]))) := (Same.tu s1).trans (tu_lst gl1)
    refine q { A with g2 := some g } _ ⟨by rw [upd_ne m1.symm]; exact s1 _ _ ob, (hps.same s1).upd gl1 m2.symm, by rw [upd_ne m3.symm]; exact s1 _ _ hls, by rw [upd_ne m4.symm, s1 _ _ hbs]; simp, .cons ⟨⟨db, by show upd H1 A.ga _ A.b = _; rw [upd_ne nb]; exact s1 _ _ eA⟩, Dp.keep tu hA.hd (by show PlAll _ = true; exact pl_hk _), upd_same, (hA.r1.same s1).upd gl1 ng1, ?_⟩ ((hAs.same s1).upd gl1 m5), ?_⟩ ?_
    · exact ⟨[], by rw [upd_ne gg]; exact rg, .nil, rfl⟩
    · have nd2 : ([r, pa, la, ba, A.b, A.ga, A.g1] ++ As.flatMap BgA.own).Nodup := by
        have z := nd
        unfold ownR at z
        rw [List.flatMap_cons, BgA.own, eg] at z
        exact z
      have nm : g ∉ [r, pa, la, ba, A.b, A.ga, A.g1] ++ As.flatMap BgA.own := by
        have z := fr ng
        unfold ownR at z
        rw [List.flatMap_cons, BgA.own, eg] at z
        exact z
      exact nodup_ins nm nd2
    · intro a o na e
      have ag : a ≠ g := fun z => by rw [z, ng] at e; cases e
      have aga : a ≠ A.ga := fun z => na (by rw [z]; unfold ownR; rw [List.flatMap_cons]; simp [gm])
      refine ⟨fun z => na ?_, by rw [upd_ne aga]; exact s1 _ _ e⟩
      unfold ownR at z ⊢
      rw [List.flatMap_cons, BgA.own] at z ⊢
      rw [eg]
      simp only [List.mem_cons, List.mem_append, Option.toList, List.not_mem_nil, or_false, List.mem_singleton] at z ⊢
      rcases z with z | z | z | z | (z | z | z | z) | z
      · exact .inl z
      · exact .inr (.inl z)
      · exact .inr (.inr (.inl z))
      · exact .inr (.inr (.inr (.inl z)))
      · exact .inr (.inr (.inr (.inr (.inl (.inl z)))))
      · exact .inr (.inr (.inr (.inr (.inl (.inr (.inl z))))))
      · exact .inr (.inr (.inr (.inr (.inl (.inr (.inr z))))))
      · exact absurd z ag
      · exact .inr (.inr (.inr (.inr (.inr z))))

end
end Own

set_option Elab.async false
set_option linter.all false
set_option maxRecDepth 100000
set_option maxHeartbeats 4000000
namespace Own
open PySem PySem.Spec PyProof.Rows L2
section
variable {P : Program} {w : World} {K : PySem.W.Frag} {mg : Str → Option Value} {base : Heap}
theorem all_eq (B : Bg) : B.all = gsL B ++ (if dvK.contains B.h.first = true ∧ B.g2 = none then [[]] else []) := by
  unfold Bg.all gsL
  cases B.g2 with
  | none =>
    by_cases c : dvK.contains B.h.first = true
    · simp only [c, if_true, and_self]; rfl
    · simp only [c, if_false, false_and, List.append_nil]; rfl
  | some g => simp
def spWhole (K : PySem.W.Frag) (C : Addr) : Sp := fun vs H Q _ => ∃ (A : BgA) (B : Bg), vs = [.ref A.b] ∧ BgR K C H A B ∧ B.g1.length ≤ 99999 ∧ (∀ g, B.g2 = some g → g.length ≤ 99999) ∧ ∀ v H2, Same H H2 → Dp K H2 v B.whole → Q v H2
theorem ok_Begun_whole (T : Txt K mg w) : FnOk P w K mg base CX0 1 T.i_Begun_whole.a T.i_Begun_whole.d ["self"] (spWhole K T.e_Begun.C) := by
  refine T.i_Begun_whole.F.ok sc_Begun_whole (fun vs H Q E h => ?_) (fun cdv A outer s H vs Q E hr h => ?_)
  · obtain ⟨_, _, rfl, _⟩ := h
    rfl
  · obtain ⟨A, B, rfl, R, l1, l2, q⟩ := h
    have hu := hr.units
    refine ⟨_, (pss_cons (ps_setLc (i := 1) (own := [("rows", 2)]) (g := gName 2) (tt := tYes) (by rfl) sc_Begun_whole.nd rfl rfl (sw_true rfl rfl rfl (by decide +kernel)) (pi_list (pe_fld (pv 0) rfl)) (blkOk_by (own := [("rows", 2)]) (N := ["self", "groups", "rows"]) (sc := defScope s_Begun_whole) (by decide +kernel)) (fun _ _ _ _ _ => pg_name (i := 2) sc_Begun_whole.nd rfl (Or.inl rfl)) (fun _ _ _ _ _ => pts_nil) (fun _ _ _ _ _ => (pe_callTy callB_tuple_of (by rfl) T.z_tuple (by decide +kernel) (pa_cons (pv 2) pa_nil))))
      (pss_cons (ps_if (PW.pt (pw_and (pt_cmpR (op_in_kd T.c_DIVIDERS.kd) (pe_ix ix_tup (pe_fld (pv 0) rfl) pe_int (fun _ _ => rfl)) (pe_glob (v := (.ref T.k_DIVIDERS)) rfl T.m_DIVIDERS rfl) (by rfl)) (pw_and1 (pt_cmpR op_eq (pe_callB call_lenL (by rfl) T.z_len (by decide +kernel) (pa_cons (pv 1) pa_nil)) pe_int (nomark _))))) (pss_one (ps_expr (pe_bm PySem.F.plainAttrs_list PySem.F.slot_list_append PySem.F.type_list_append mt_append (pv 1) (pa_cons (pe_tup pa_nil) pa_nil)))) pss_nil)
      (pss_one (ps_ret (pe_tup (StX.pa_star (pe_fld (pv 0) rfl) (StX.pa_star (pv 1) pa_nil))))))), ?_⟩
    (try simp only [tIxO, rIsB, rNotB, tSeq, tIfS, tTest, tB, tOp, tUn, tVar, tC, tAsg, gName, tRet, tRetN, tCB, tCons, tNil, tLst_eq, tTup_eq, tDNewK_eq, tNext, tPar, tM0, tM1, tSl, tNoPart, tPart, rSlS, tAug, tAugS, tExf_eq, ipI, tChain, tCall, tDrop, tBM, tAnd, tOr, tNot, tAndV, tOrV, tNotV, tIf, tIsN, tNotN, rI, rI0, rU, rEq, rNe, gSub, cx_K, cx_K2, L2.start, wipe, scal_ii, scal_ss, scal_bb, scal_is, scal_si, scal_nn, List.map_cons, List.map_nil, List.length_cons, List.length_nil, List.cons_append, List.nil_append, List.append_nil, List.replicate, List.getElem?_cons_zero, List.getElem?_cons_succ, Option.some.injEq, exists_and_left, exists_eq_left', exists_eq_left, exists_eq, exists_eq', V.int.injEq, V.ref.injEq, V.str.injEq, V.bl.injEq, List.cons.injEq, and_true, true_and, false_and, exists_false, or_false, false_or, reduceCtorEq, List.set_cons_zero, List.set_cons_succ, Nat.reduceAdd, Nat.reduceSub, Int.reduceToNat, decide_eq_true_eq, if_true, if_false, Bool.false_eq_true, Bool.not_true, Bool.not_false, Bool.true_eq_false, ite_false, ite_true, ne_eq, not_false_eq_true, Int.reduceEq, tFld])
    obtain ⟨db, eA⟩ := R.ob
    obtain ⟨gl1, gl2, gat⟩ := R.gs
    have gl : H A.ga = some (.lst ((gsA A).map V.ref)) := R.gl
    have bd : ∀ ds ∈ gsL B, ds.length ≤ 99999 := fun ds hd => by
      unfold gsL at hd
      rcases List.mem_cons.mp hd with rfl | hd
      · exact l1
      · cases e : B.g2 with
        | none => rw [e] at hd; cases hd
        | some g => rw [e] at hd; cases List.mem_singleton.mp hd; exact l2 _ e
    refine lcW_go (walk_list (K := K) (a := A.ga) (xs := (gsA A).map V.ref)) (fun D i acc H2 => DpAll K H2 acc (((gsL B).take i).map PyData.tuple) ∧ PlAll (((gsL B).take i).map PyData.tuple) = true ∧ ExT D H H2) (fun R' r => ?_) (fun D i acc H2 _ p hD => .inl (.inl (ExT.toSame hD p.2.2 _ _ gl))) (fun D hD => ⟨.nil, rfl, exT_upd (.refl D H)⟩) (fun D i acc H2 x H3 hi hD rD la p y => ?_) (fun D acc H2 hD rD la p => ?_)
    · exact fld_go (fun Q q => ⟨_, rfl, q⟩) eA T.e_Begun.c T.n_Begun_groups rfl ⟨A.ga, rfl, ⟨_, .inl (.inl gl)⟩, r⟩
    · obtain ⟨da, pa, v2⟩ := p
      obtain ⟨rfl, hx⟩ := y
      rw [List.getElem?_map] at hx
      obtain ⟨a, ha, rfl⟩ := Option.map_eq_some_iff.mp hx
      obtain ⟨ds, hds, xs, ex, dx, px⟩ := gat i a ha
      have s2 := ExT.toSame hD v2
      refine ⟨wipe_set, ?_⟩
      simp only [tYes, if_true]
      (try simp only [tIxO, rIsB, rNotB, tSeq, tIfS, tTest, tB, tOp, tUn, tVar, tC, tAsg, gName, tRet, tRetN, tCB, tCons, tNil, tLst_eq, tTup_eq, tDNewK_eq, tNext, tPar, tM0, tM1, tSl, tNoPart, tPart, rSlS, tAug, tAugS, tExf_eq, ipI, tChain, tCall, tDrop, tBM, tAnd, tOr, tNot, tAndV, tOrV, tNotV, tIf, tIsN, tNotN, rI, rI0, rU, rEq, rNe, gSub, cx_K, cx_K2, L2.start, wipe, scal_ii, scal_ss, scal_bb, scal_is, scal_si, scal_nn, List.map_cons, List.map_nil, List.length_cons, List.length_nil, List.cons_append, List.nil_append, List.append_nil, List.replicate, List.getElem?_cons_zero, List.getElem?_cons_succ, Option.some.injEq, exists_and_left, exists_eq_left', exists_eq_left, exists_eq, exists_eq', V.int.injEq, V.ref.injEq, V.str.injEq, V.bl.injEq, List.cons.injEq, and_true, true_and, false_and, exists_false, or_false, false_or, reduceCtorEq, List.set_cons_zero, List.set_cons_succ, Nat.reduceAdd, Nat.reduceSub, Int.reduceToNat, decide_eq_true_eq, if_true, if_false, Bool.false_eq_true, Bool.not_true, Bool.not_false, Bool.true_eq_false, ite_false, ite_true, ne_eq, not_false_eq_true, Int.reduceEq])
      refine ⟨_, .inl ⟨.inl (.inl (s2 _ _ ex)), fun l nl => ?_⟩⟩
      have s3 := same_new (o := .tup xs) nl
      have rD3 := s3 _ _ rD
      have pl2 : PlAll (((gsL B).take (i + 1)).map PyData.tuple) = true := by
        rw [take_at hds, List.map_append, pl_app, pa]
        simp only [List.map_cons, List.map_nil, PlAll, Pl, px, Bool.and_true]
      refine ⟨acc, rD3, Nat.lt_of_le_of_lt (show acc.length ≤ 1000 by rw [List.length_map] at hi; omega) (by decide), acc ++ [.ref l], upd_same, by rw [List.length_append, List.length_singleton]; omega, ?_, pl2, exT_upd (v2.same s3)⟩
      rw [take_at hds, List.map_append]
      exact dpA_app (DpAll.keep (tu_lst rD3) (dpA_same s3 da) pa) (.cons (Dp.keep (tu_lst rD3) (.tup (.inl (.inl upd_same)) (dpA_same (s2.trans s3) dx)) px) .nil)
    · obtain ⟨da, pa, v2⟩ := p
      rw [List.length_map, gl1, List.take_length] at da pa
      have s2 := ExT.toSame hD v2
      have lacc := DpAll.len da
      rw [List.length_map] at lacc
      (try simp only [tIxO, rIsB, rNotB, tSeq, tIfS, tTest, tB, tOp, tUn, tVar, tC, tAsg, gName, tRet, tRetN, tCB, tCons, tNil, tLst_eq, tTup_eq, tDNewK_eq, tNext, tPar, tM0, tM1, tSl, tNoPart, tPart, rSlS, tAug, tAugS, tExf_eq, ipI, tChain, tCall, tDrop, tBM, tAnd, tOr, tNot, tAndV, tOrV, tNotV, tIf, tIsN, tNotN, rI, rI0, rU, rEq, rNe, gSub, cx_K, cx_K2, L2.start, wipe, scal_ii, scal_ss, scal_bb, scal_is, scal_si, scal_nn, List.map_cons, List.map_nil, List.length_cons, List.length_nil, List.cons_append, List.nil_append, List.append_nil, List.replicate, List.getElem?_cons_zero, List.getElem?_cons_succ, Option.some.injEq, exists_and_left, exists_eq_left', exists_eq_left, exists_eq, exists_eq', V.int.injEq, V.ref.injEq, V.str.injEq, V.bl.injEq, List.cons.injEq, and_true, true_and, false_and, exists_false, or_false, false_or, reduceCtorEq, List.set_cons_zero, List.set_cons_succ, Nat.reduceAdd, Nat.reduceSub, Int.reduceToNat, decide_eq_true_eq, if_true, if_false, Bool.false_eq_true, Bool.not_true, Bool.not_false, Bool.true_eq_false, ite_false, ite_true, ne_eq, not_false_eq_true, Int.reduceEq, tFld, StX.tStar])
      refine ⟨_, _, _, s2 _ _ eA, T.e_Begun.c, T.n_Begun_head, _, rfl, ?_⟩
      obtain ⟨r1, eh, _⟩ := hk_hd B.h
      have d1 := dp_same s2 R.hd
      have d1e := d1
      rw [eh] at d1e
      refine ixD_go (j := 0) d1e rfl rfl fun y dy => ?_
      cases Dp.strD dy
      obtain ⟨z, e1, e2⟩ := T.c_DIVIDERS.isin B.h.first
      refine ⟨_, rfl, z, e1, ?_⟩
      rw [e2]
      have fin : ∀ (H3 : Hp) (ac : List V), Tu H2 H3 → Same H H3 → H3 D = some (.lst ac) → DpAll K H3 ac (B.all.map PyData.tuple) → PlAll (B.all.map PyData.tuple) = true → ∃ x x_1 x_2, H3 A.b = some (HO.ins x x_1 x_2) ∧ Cls K x ∧ NoAttr K x "head" ∧ ∃ x, List.lookup ("head" : Str) x_2 = some x ∧ ∃ p, x = V.ref p ∧ ∃ x, (SqT K H3 p x ∨ SqL K H3 p x) ∧ ∃ x_3, (SqT K H3 D x_3 ∨ SqL K H3 D x_3) ∧ NewT (x ++ x_3) H3 Q := fun H3 ac tu s3 e3 d3 p3 => by
        have dh := dp_same s3 R.hd
        obtain ⟨ha, hxs, eh2, hha, hhx⟩ := Dp.tupD dh
        cases eh2
        refine ⟨_, _, _, s3 _ _ eA, T.e_Begun.c, T.n_Begun_head, _, rfl, A.h, rfl, hxs, .inl hha, ac, .inr (.inl (.inl e3)), ?_⟩
        refine newTD_go (K := K) (ds := B.h.hd ++ B.all.map PyData.tuple) (DpAll.app hhx d3) (by rw [pl_app, pl_hk, p3]; rfl) ?_ fun p4 H4 n4 s4 d4 => q _ H4 (s3.trans s4) d4
        have := hk_hd B.h
        obtain ⟨r2, e2, l3⟩ := this
        rw [e2, List.length_append, List.length_map, List.length_cons]
        have : B.all.length ≤ 3 := by
          rw [all_eq, List.length_append]
          split <;> simp <;> omega
        omega
      have inD : decide (B.h.first ∈ V_DIVIDERS.map (·.1)) = dvK.contains B.h.first := by
        unfold dvK
        by_cases h : B.h.first ∈ V_DIVIDERS.map (·.1)
        · rw [decide_eq_true h]
          exact (List.elem_eq_true_of_mem h).symm
        · rw [decide_eq_false h]
          cases e : (V_DIVIDERS.map (·.1)).contains B.h.first with
          | false => rfl
          | true => exact absurd (List.mem_of_elem_eq_true e) h
      rw [inD]
      have one : ((acc.length : Nat) : Int) = 1 ↔ B.g2 = none := by
        rw [lacc]
        unfold gsL
        cases B.g2 with
        | none => simp
        | some g => simp
      have no : ¬ (dvK.contains B.h.first = true ∧ B.g2 = none) → B.all = gsL B := fun h => by rw [all_eq, if_neg h, List.append_nil]
      refine ite2 (fun c => ⟨_, .inl (.inl rD), ite2 (fun c1 => ⟨tyL rD, ?_⟩) (fun c1 => ?_)⟩) (fun c => ?_)
      · have ea : B.all = gsL B ++ [[]] := by rw [all_eq, if_pos ⟨c, one.mp c1⟩]
        refine newTD_go (K := K) (ds := []) .nil rfl (by simp) fun p3 H3 n3 s3 d3 => ?_
        have rD3 := s3 _ _ rD
        have tu : Tu H2 (upd H3 D (.lst (acc ++ [.ref p3]))) := (Same.tu s3).trans (tu_lst rD3)
        refine ⟨D, _, _, rfl, rfl, rD3, Nat.lt_of_le_of_lt (show acc.length ≤ 1000 by omega) (by decide), fin _ (acc ++ [.ref p3]) tu (fun b o e => by rw [upd_ne (fun z => by rw [z, hD] at e; cases e)]; exact s3 _ _ (s2 _ _ e)) upd_same ?_ ?_⟩
        · rw [ea, List.map_append]
          exact dpA_app (DpAll.keep tu da pa) (.cons (Dp.keep (tu_lst rD3) d3 rfl) .nil)
        · rw [ea, List.map_append, pl_app, pa]
          try rfl
      · have ea := no fun h => c1 (one.mpr h.2)
        exact fin H2 acc (fun _ _ h => h) s2 rD (by rw [ea]; exact da) (by rw [ea]; exact pa)
      · have ea := no fun h => c h.1
        exact fin H2 acc (fun _ _ h => h) s2 rD (by rw [ea]; exact da) (by rw [ea]; exact pa)

end
end Own

set_option Elab.async false
set_option linter.all false
set_option maxRecDepth 100000
set_option maxHeartbeats 4000000
namespace Own
open PySem PySem.Spec PyProof.Rows L2
section
variable {P : Program} {w : World} {K : PySem.W.Frag} {mg : Str → Option Value} {base : Heap}
def spEnd (K : PySem.W.Frag) (CR CB : Addr) : Sp := fun vs H Q _ => ∃ (r dr pa la ba : Addr) (n : Nat) (A : BgA) (As : List BgA) (B : Bg) (Bs : List Bg) (ps : List PyData) (ls : List Nat), vs = [.ref r, .int (n : Int)] ∧ Rd K CR CB r dr pa la ba (A :: As) ⟨ps, ls, B :: Bs⟩ H ∧ (⟨ps, ls, B :: Bs⟩ : Mst).few 99998 ∧ ∀ H', Rd K CR CB r dr pa la ba As ((⟨ps, ls, Bs⟩ : Mst).put B.whole) H' → Kpt (ownR r pa la ba (A :: As)) (ownR r pa la ba As) H H' → Q .non H'
theorem pl_whole {B : Bg} (h1 : PlAll B.g1 = true) (h2 : ∀ g, B.g2 = some g → PlAll g = true) : Pl B.whole = true := by
  show PlAll (B.h.hd ++ B.all.map PyData.tuple) = true
  rw [pl_app, pl_hk, all_eq, List.map_append, pl_app]
  have e1 : PlAll ((gsL B).map PyData.tuple) = true := by
    unfold gsL
    cases e : B.g2 with
    | none => simp only [Option.toList, List.map_cons, List.map_nil, PlAll, Pl, h1, Bool.and_true]
    | some g => simp only [Option.toList, List.map_cons, List.map_nil, PlAll, Pl, h1, h2 g e, Bool.and_true]
  rw [e1]
  split <;> rfl
theorem ok_Reader_end (T : Txt K mg w) : FnOk P w K mg base (L2N.CX P w) 3 T.i_Reader_end.a T.i_Reader_end.d ["self", "number"] (spEnd K T.e_Reader.C T.e_Begun.C) := by
  refine okX T.i_Reader_end.F sc_Reader_end (fun vs H Q E h => ?_) (fun cdv A outer s H vs Q E hr h => ?_)
  · obtain ⟨_, _, _, _, _, _, _, _, _, _, _, _, rfl, _⟩ := h
    rfl
  · obtain ⟨r, dr, pa, la, ba, n, A, As, B, Bs, ps, ls, rfl, R, few, q⟩ := h
    have hu := hr.units
    refine ⟨_, (pss_cons (ps_if (pt_not (pt_truth (pe_fld (pv 0) rfl) (by intro _; rfl))) (pss_one (L2N.ps_raise rfl (takesN (E := E) rfl rfl rfl rfl) (pmkN T.c_BadLine.e.ox T.c_BadLine.n.ini T.c_BadLine.n.ty (ok_BadLine T) (hr.mono (by decide)) T.c_BadLine.b pass0 T.c_BadLine.m (by rfl) (pa_cons (pv 1) pa_nil)))) pss_nil)
      (pss_cons (ps_set (i := 2) sc_Reader_end.nd rfl (Or.inl rfl) (pe_bm0 PySem.F.plainAttrs_list PySem.F.slot_list_pop PySem.F.type_list_pop mt_pop (pe_fld (pv 0) rfl)))
      (pss_one (ps_expr (pe_meth (pv 0) T.e_Reader.c ⟨T.i_Reader_put.at_, T.i_Reader_put.fn, T.i_Reader_put.F.kp⟩ (ok_Reader_put T) (hr.mono (by decide)) T.i_Reader_put.b .nil pass0 (pa_cons (pe_meth0 (pv 2) T.e_Begun.c ⟨T.i_Begun_whole.at_, T.i_Begun_whole.fn, T.i_Begun_whole.F.kp⟩ (ok_Begun_whole T) (hr.mono (by decide)) T.i_Begun_whole.b .nil pass0) pa_nil)))))), ?_⟩
    (try simp only [tIxO, rIsB, rNotB, tSeq, tIfS, tTest, tB, tOp, tUn, tVar, tC, tAsg, gName, tRet, tRetN, tCB, tCons, tNil, tLst_eq, tTup_eq, tDNewK_eq, tNext, tPar, tM0, tM1, tSl, tNoPart, tPart, rSlS, tAug, tAugS, tExf_eq, ipI, tChain, tCall, tDrop, tBM, tAnd, tOr, tNot, tAndV, tOrV, tNotV, tIf, tIsN, tNotN, rI, rI0, rU, rEq, rNe, gSub, cx_K, cx_K2, L2.start, wipe, scal_ii, scal_ss, scal_bb, scal_is, scal_si, scal_nn, List.map_cons, List.map_nil, List.length_cons, List.length_nil, List.cons_append, List.nil_append, List.append_nil, List.replicate, List.getElem?_cons_zero, List.getElem?_cons_succ, Option.some.injEq, exists_and_left, exists_eq_left', exists_eq_left, exists_eq, exists_eq', V.int.injEq, V.ref.injEq, V.str.injEq, V.bl.injEq, List.cons.injEq, and_true, true_and, false_and, exists_false, or_false, false_or, reduceCtorEq, List.set_cons_zero, List.set_cons_succ, Nat.reduceAdd, Nat.reduceSub, Int.reduceToNat, decide_eq_true_eq, if_true, if_false, Bool.false_eq_true, Bool.not_true, Bool.not_false, Bool.true_eq_false, ite_false, ite_true, ne_eq, not_false_eq_true, Int.reduceEq, tFld])
    refine ⟨_, _, _, R.ob, T.e_Reader.c, T.n_Reader_begun, _, rfl, _, .inl ⟨_, .inl (.inl R.bs), rfl⟩, ?_⟩
    refine ite2 (fun z => by simp at z) (fun _ => ?_)
    (try simp only [tIxO, rIsB, rNotB, tSeq, tIfS, tTest, tB, tOp, tUn, tVar, tC, tAsg, gName, tRet, tRetN, tCB, tCons, tNil, tLst_eq, tTup_eq, tDNewK_eq, tNext, tPar, tM0, tM1, tSl, tNoPart, tPart, rSlS, tAug, tAugS, tExf_eq, ipI, tChain, tCall, tDrop, tBM, tAnd, tOr, tNot, tAndV, tOrV, tNotV, tIf, tIsN, tNotN, rI, rI0, rU, rEq, rNe, gSub, cx_K, cx_K2, L2.start, wipe, scal_ii, scal_ss, scal_bb, scal_is, scal_si, scal_nn, List.map_cons, List.map_nil, List.length_cons, List.length_nil, List.cons_append, List.nil_append, List.append_nil, List.replicate, List.getElem?_cons_zero, List.getElem?_cons_succ, Option.some.injEq, exists_and_left, exists_eq_left', exists_eq_left, exists_eq, exists_eq', V.int.injEq, V.ref.injEq, V.str.injEq, V.bl.injEq, List.cons.injEq, and_true, true_and, false_and, exists_false, or_false, false_or, reduceCtorEq, List.set_cons_zero, List.set_cons_succ, Nat.reduceAdd, Nat.reduceSub, Int.reduceToNat, decide_eq_true_eq, if_true, if_false, Bool.false_eq_true, Bool.not_true, Bool.not_false, Bool.true_eq_false, ite_false, ite_true, ne_eq, not_false_eq_true, Int.reduceEq, tBM0, tFld, tMeth])
    refine ⟨_, _, _, R.ob, T.e_Reader.c, T.n_Reader_begun, _, rfl, tyL R.bs, ?_⟩
    have fr := fun {x} n => R.fresh (x := x) n
    obtain ⟨ob, hps, hls, hbs, hall, nd⟩ := R
    cases hall with
    | cons hA hAs =>
    obtain ⟨n1, n2, n3⟩ := own_nd nd
    obtain ⟨db, eA⟩ := hA.ob
    have el : (A :: As).reverse.map (fun A => V.ref A.b) = As.reverse.map (fun A => V.ref A.b) ++ [.ref A.b] := by simp
    rw [el] at hbs
    refine ⟨ba, _, .ref A.b, rfl, rfl, hbs, by simp, ?_⟩
    rw [List.dropLast_concat]
    have nb : A.b ∈ A.own := by unfold BgA.own; simp
    have z := nd
    unfold ownR at z
    simp only [List.nodup_cons, List.mem_cons, not_or] at z
    have bn : ba ∉ A.own := fun h => z.2.2.2.1 (by rw [List.flatMap_cons]; exact List.mem_append_left _ h)
    have bn2 : ba ∉ As.flatMap BgA.own := fun h => z.2.2.2.1 (by rw [List.flatMap_cons]; exact List.mem_append_right _ h)
    have Ab : A.b ≠ ba := fun e => bn (e ▸ nb)
    have hA2 := hA.upd (o := .lst (As.reverse.map fun A => V.ref A.b)) hbs bn
    have R2 : Rd K T.e_Reader.C T.e_Begun.C r dr pa la ba As ⟨ps, ls, Bs⟩ (upd H ba (.lst (As.reverse.map fun A => V.ref A.b))) := ⟨by rw [upd_ne z.1.2.2.1]; exact ob, hps.upd hbs z.2.1.2.1, by rw [upd_ne z.2.2.1.1]; exact hls, upd_same, hAs.upd hbs bn2, n3⟩
    refine ⟨_, _, R2.ob, rfl, A.b, rfl, _, _, by rw [upd_ne Ab]; exact eA, rfl, ?_⟩
    have fg := few.groups B (.head _)
    refine ⟨A, B, rfl, hA2, Nat.le_trans fg.1 (by decide), fun g e => Nat.le_trans (fg.2 g e) (by decide), fun v H2 s2 d2 => ?_⟩
    have R3 : Rd K T.e_Reader.C T.e_Begun.C r dr pa la ba As ⟨ps, ls, Bs⟩ H2 := ⟨s2 _ _ R2.ob, R2.ps.same s2, s2 _ _ R2.ls, s2 _ _ R2.bs, R2.all.same s2, n3⟩
    have fw : (⟨ps, ls, Bs⟩ : Mst).few 99999 := ⟨Nat.le_trans few.parts (by decide), Nat.le_trans few.lines (by decide), Nat.le_trans (Nat.le_of_succ_le few.begun) (by decide), fun b hb => ⟨Nat.le_trans (few.groups b (.tail _ hb)).1 (by decide), fun g e => Nat.le_trans ((few.groups b (.tail _ hb)).2 g e) (by decide)⟩⟩
    refine ⟨r, dr, pa, la, ba, As, _, v, B.whole, rfl, R3, d2, pl_whole hA2.pl.1 hA2.pl.2, fw, fun H3 R4 k3 => q H3 R4 fun a o na e => ?_⟩
    have na2 : a ∉ ownR r pa la ba As := fun h => na (by
      unfold ownR at h ⊢
      rw [List.flatMap_cons]
      simp only [List.mem_cons, List.mem_append] at h ⊢
      rcases h with h | h | h | h | h
      · exact .inl h
      · exact .inr (.inl h)
      · exact .inr (.inr (.inl h))
      · exact .inr (.inr (.inr (.inl h)))
      · exact .inr (.inr (.inr (.inr (.inr h)))))
    have ab : a ≠ ba := fun h => na (by rw [h]; unfold ownR; simp)
    exact k3 a o na2 (s2 _ _ (by rw [upd_ne ab]; exact e))
theorem eqv_words : ∀ (l m : List Str), PyData.eqv (.list (l.map PyData.str)) (.list (m.map PyData.str)) = decide (l = m) := by
  have all : ∀ (l m : List Str), PyData.eqvAll (l.map PyData.str) (m.map PyData.str) = decide (l = m) := by
    intro l
    induction l with
    | nil =>
      intro m
      cases m with
      | nil => simp [PyData.eqvAll]
      | cons y m => simp [PyData.eqvAll]
    | cons x l ih =>
      intro m
      cases m with
      | nil => simp [PyData.eqvAll]
      | cons y m =>
        simp only [List.map_cons, PyData.eqvAll, ih]
        by_cases e : x = y
        · subst e
          by_cases e2 : l = m
          · subst e2; simp [PyData.eqv]
          · simp [e2, PyData.eqv]
        · simp [e, PyData.eqv]
  intro l m
  rw [PyData.eqv]
  exact all l m
def spBeg (K : PySem.W.Frag) (CR CB : Addr) : Sp := fun vs H Q _ => ∃ (r dr pa la ba wa : Addr) (n : Nat) (As : List BgA) (st st2 : Mst) (h : Hk), vs = [.ref r, .int (n : Int), .ref wa] ∧ Rd K CR CB r dr pa la ba As st H ∧ SqL K H wa (h.words.map V.str) ∧ h.ok ∧ st.few 99990 ∧ st.step n (.hd h) = some st2 ∧ ∀ As2 H', Rd K CR CB r dr pa la ba As2 st2 H' → Kpt (ownR r pa la ba As) (ownR r pa la ba As2) H H' → Q .non H'
theorem ok_Reader_begin (T : Txt K mg w) : FnOk P w K mg base (L2N.CX P w) 35 T.i_Reader_begin.a T.i_Reader_begin.d ["self", "number", "words"] (spBeg K T.e_Reader.C T.e_Begun.C) := by
  refine okX T.i_Reader_begin.F sc_Reader_begin (fun vs H Q E h => ?_) (fun cdv A outer s H vs Q E hr h => ?_)
  · obtain ⟨_, _, _, _, _, _, _, _, _, _, _, rfl, _⟩ := h
    rfl
  · obtain ⟨r, dr, pa, la, ba, wa, n, As, st, st2, h, rfl, R, hw, ok, few, hst, q⟩ := h
    have hu := hr.units
    refine ⟨_, (pss_cons (ps_set (i := 3) sc_Reader_begin.nd rfl (Or.inl rfl) (pe_call (ok_read_head T) (hr.mono (by decide)) (by rfl) T.d_read_head.g T.d_read_head.F.kp T.d_read_head.b .nil pass0 (pa_cons (pv 2) pa_nil)))
      (pss_cons (ps_if (PW.pt (pw_or (pt_cmpR op_isN (pv 3) pe_non (nomark _)) (pw_or1 (pt_cmpR op_eq (pe_cmpR (op_in_kd T.c_PARTS.kd) (pe_ix ix_tup (pv 3) pe_int (fun _ _ => rfl)) (pe_glob (v := (.ref T.k_PARTS)) rfl T.m_PARTS rfl) (by rfl)) (pe_callTy call_boolL (by rfl) T.z_bool (by decide +kernel) (pa_cons (pe_fld (pv 0) rfl) pa_nil)) (nomark _))))) (pss_one (L2N.ps_raise rfl (takesN (E := E) rfl rfl rfl rfl) (pmkN T.c_BadLine.e.ox T.c_BadLine.n.ini T.c_BadLine.n.ty (ok_BadLine T) (hr.mono (by decide)) T.c_BadLine.b pass0 T.c_BadLine.m (by rfl) (pa_cons (pv 1) pa_nil)))) pss_nil)
      (pss_cons (ps_if (pt_cmpR op_gt (pe_op op_sub (pe_callB call_lenL (by rfl) T.z_len (by decide +kernel) (pa_cons (pe_fld (pv 0) rfl) pa_nil)) pe_int) (pe_glob (v := .int 8) rfl T.m_MOST_BLOCKS ⟨_, rfl⟩) (nomark _)) (pss_one (L2N.ps_raise rfl (takesN (E := E) rfl rfl rfl rfl) (pmkN T.c_TooDeep.e.ox T.c_TooDeep.n.ini T.c_TooDeep.n.ty (ok_TooDeep T) (hr.mono (by decide)) T.c_TooDeep.b pass0 T.c_TooDeep.m (by rfl) (pa_cons (pv 1) pa_nil)))) pss_nil)
      (pss_cons (ps_expr (pe_bm PySem.F.plainAttrs_list PySem.F.slot_list_append PySem.F.type_list_append mt_append (pe_fld (pv 0) rfl) (pa_cons (pv 1) pa_nil)))
      (pss_one (ps_if (pt_cmpR op_in_seq pe_str (pe_call (ok_roles_of T) (hr.mono (by decide)) (by rfl) T.d_roles_of.g T.d_roles_of.F.kp T.d_roles_of.b .nil pass0 (pa_cons (pe_ix ix_tup (pv 3) pe_int (fun _ _ => rfl)) pa_nil)) (by rfl)) (pss_one (ps_expr (pe_bm PySem.F.plainAttrs_list PySem.F.slot_list_append PySem.F.type_list_append mt_append (pe_fld (pv 0) rfl) (pa_cons (pe_make ⟨T.e_Begun.mks, T.i_Begun_init.at_, T.i_Begun_init.fn, T.e_Begun.kp⟩ (ok_Begun_init T) (hr.mono (by decide)) (by rfl) T.e_Begun.m T.i_Begun_init.b .nil pass0 (pa_cons (pv 1) (pa_cons (pv 3) pa_nil))) pa_nil)))) (pss_one (ps_expr (pe_meth (pv 0) T.e_Reader.c ⟨T.i_Reader_put.at_, T.i_Reader_put.fn, T.i_Reader_put.F.kp⟩ (ok_Reader_put T) (hr.mono (by decide)) T.i_Reader_put.b .nil pass0 (pa_cons (pv 3) pa_nil)))))))))), ?_⟩
    (try simp only [tIxO, rIsB, rNotB, tSeq, tIfS, tTest, tB, tOp, tUn, tVar, tC, tAsg, gName, tRet, tRetN, tCB, tCons, tNil, tLst_eq, tTup_eq, tDNewK_eq, tNext, tPar, tM0, tM1, tSl, tNoPart, tPart, rSlS, tAug, tAugS, tExf_eq, ipI, tChain, tCall, tDrop, tBM, tAnd, tOr, tNot, tAndV, tOrV, tNotV, tIf, tIsN, tNotN, rI, rI0, rU, rEq, rNe, gSub, cx_K, cx_K2, L2.start, wipe, scal_ii, scal_ss, scal_bb, scal_is, scal_si, scal_nn, List.map_cons, List.map_nil, List.length_cons, List.length_nil, List.cons_append, List.nil_append, List.append_nil, List.replicate, List.getElem?_cons_zero, List.getElem?_cons_succ, Option.some.injEq, exists_and_left, exists_eq_left', exists_eq_left, exists_eq, exists_eq', V.int.injEq, V.ref.injEq, V.str.injEq, V.bl.injEq, List.cons.injEq, and_true, true_and, false_and, exists_false, or_false, false_or, reduceCtorEq, List.set_cons_zero, List.set_cons_succ, Nat.reduceAdd, Nat.reduceSub, Int.reduceToNat, decide_eq_true_eq, if_true, if_false, Bool.false_eq_true, Bool.not_true, Bool.not_false, Bool.true_eq_false, ite_false, ite_true, ne_eq, not_false_eq_true, Int.reduceEq, tFld])
    refine ⟨wa, h, rfl, hw, ok, fun v H1 s1 d1 => ?_⟩
    have R1 : Rd K T.e_Reader.C T.e_Begun.C r dr pa la ba As st H1 := ⟨s1 _ _ R.ob, R.ps.same s1, s1 _ _ R.ls, s1 _ _ R.bs, R.all.same s1, R.nd⟩
    have k1 : Kpt (ownR r pa la ba As) (ownR r pa la ba As) H H1 := Kpt.same s1
    obtain ⟨va, xs, rfl, hva, hx⟩ := Dp.tupD d1
    obtain ⟨r1, eh, _⟩ := hk_hd h
    have d1e := d1
    rw [eh] at d1e
    have hst : (if (V_PARTS.map (·.1)).contains h.first = !st.begun.isEmpty then none else if st.begun.length > 9 then none else if h.roles.contains "rows" then some (⟨st.parts, st.lines ++ [n], ⟨n, h, [], none⟩ :: st.begun⟩ : Mst) else some (Mst.put ⟨st.parts, st.lines ++ [n], st.begun⟩ (.tuple h.hd))) = some st2 := hst
    by_cases c1 : (V_PARTS.map (·.1)).contains h.first = !st.begun.isEmpty
    · rw [if_pos c1] at hst; cases hst
    rw [if_neg c1] at hst
    by_cases c2 : st.begun.length > 9
    · rw [if_pos c2] at hst; cases hst
    rw [if_neg c2] at hst
    have lA := R1.all.len
    refine ite2 (fun z => by cases z) (fun _ => ixD_go (j := 0) d1e rfl rfl fun y dy => ?_)
    cases Dp.strD dy
    obtain ⟨z, e1, e2⟩ := T.c_PARTS.isin h.first
    refine ⟨_, rfl, z, e1, _, _, _, R1.ob, T.e_Reader.c, T.n_Reader_begun, _, rfl, ba, rfl, _, .inl (.inl R1.bs), ite2 (fun w => absurd ?_ c1) (fun _ => ?_)⟩
    · rw [e2] at w
      have e3 : (As.reverse.map fun A => V.ref A.b).isEmpty = st.begun.isEmpty := by
        cases e : st.begun with
        | nil =>
          rw [e] at lA
          have : As = [] := List.length_eq_zero_iff.mp lA
          rw [this]; rfl
        | cons b bs =>
          rw [e] at lA
          cases As with
          | nil => cases lA
          | cons A As => simp
      rw [e3] at w
      rw [← w]
      by_cases m : h.first ∈ V_PARTS.map (·.1)
      · rw [decide_eq_true m]
        exact List.elem_eq_true_of_mem m
      · rw [decide_eq_false m]
        cases e : (V_PARTS.map (·.1)).contains h.first with
        | false => rfl
        | true => exact absurd (List.mem_of_elem_eq_true e) m
    refine ⟨_, _, _, R1.ob, T.e_Reader.c, T.n_Reader_begun, _, rfl, ba, rfl, _, .inl (.inl R1.bs), ite2 (fun w => absurd w ?_) (fun _ => ?_)⟩
    · rw [List.length_map, List.length_reverse, lA]
      omega
    have fl := few.lines
    refine ⟨_, _, _, R1.ob, T.e_Reader.c, T.n_Reader_lines, _, rfl, tyL R1.ls, la, _, _, rfl, rfl, R1.ls, Nat.lt_of_le_of_lt (show _ ≤ 99999 by rw [List.length_map]; omega) (by decide), ?_⟩
    have nd := R1.nd
    have z := nd
    unfold ownR at z
    simp only [List.nodup_cons, List.mem_cons, not_or] at z
    obtain ⟨H2, hH2⟩ : ∃ H2, H2 = upd H1 la (.lst ((st.lines.map fun n : Nat => V.int (n : Int)) ++ [V.int (n : Int)])) := ⟨_, rfl⟩
    rw [← hH2]
    have tu2 : Tu H1 H2 := hH2 ▸ tu_lst R1.ls
    have R2 : Rd K T.e_Reader.C T.e_Begun.C r dr pa la ba As ⟨st.parts, st.lines ++ [n], st.begun⟩ H2 := by
      rw [hH2]
      exact ⟨by rw [upd_ne z.1.2.1]; exact R1.ob, R1.ps.upd R1.ls z.2.1.1, by rw [upd_same, List.map_append]; rfl, by rw [upd_ne (fun e => z.2.2.1.1 e.symm)]; exact R1.bs, R1.all.upd R1.ls z.2.2.1.2, nd⟩
    have k2 : Kpt (ownR r pa la ba As) (ownR r pa la ba As) H H2 := k1.trans (hH2 ▸ Kpt.upd (by unfold ownR; simp))
    have dh2 : Dp K H2 (.ref va) (.tuple h.hd) := Dp.keep tu2 d1 (by show PlAll _ = true; exact pl_hk _)
    have dh2e := dh2
    rw [eh] at dh2e
    refine ixD_go (j := 0) dh2e rfl rfl fun y dy => ?_
    cases Dp.strD dy
    refine ⟨h.first, h.roles, rfl, hk_mem h, fun a ha => inT_go (l := h.roles) (ha _) ⟨_, rfl, ite2 (fun c3 => ?_) (fun c3 => ?_)⟩⟩
    · have c3 : h.roles.contains "rows" = true := c3
      rw [if_pos c3] at hst
      have hst := Option.some.inj hst
      refine ⟨_, _, _, R2.ob, T.e_Reader.c, T.n_Reader_begun, _, rfl, tyL R2.bs, ?_⟩
      (try simp only [tIxO, rIsB, rNotB, tSeq, tIfS, tTest, tB, tOp, tUn, tVar, tC, tAsg, gName, tRet, tRetN, tCB, tCons, tNil, tLst_eq, tTup_eq, tDNewK_eq, tNext, tPar, tM0, tM1, tSl, tNoPart, tPart, rSlS, tAug, tAugS, tExf_eq, ipI, tChain, tCall, tDrop, tBM, tAnd, tOr, tNot, tAndV, tOrV, tNotV, tIf, tIsN, tNotN, rI, rI0, rU, rEq, rNe, gSub, cx_K, cx_K2, L2.start, wipe, scal_ii, scal_ss, scal_bb, scal_is, scal_si, scal_nn, List.map_cons, List.map_nil, List.length_cons, List.length_nil, List.cons_append, List.nil_append, List.append_nil, List.replicate, List.getElem?_cons_zero, List.getElem?_cons_succ, Option.some.injEq, exists_and_left, exists_eq_left', exists_eq_left, exists_eq, exists_eq', V.int.injEq, V.ref.injEq, V.str.injEq, V.bl.injEq, List.cons.injEq, and_true, true_and, false_and, exists_false, or_false, false_or, reduceCtorEq, List.set_cons_zero, List.set_cons_succ, Nat.reduceAdd, Nat.reduceSub, Int.reduceToNat, decide_eq_true_eq, if_true, if_false, Bool.false_eq_true, Bool.not_true, Bool.not_false, Bool.true_eq_false, ite_false, ite_true, ne_eq, not_false_eq_true, Int.reduceEq, tMake])
      intro x dx nx ndx nxd
      have n1 : (upd H2 dx (.own x)) x = none := by rw [upd_ne (fun e => nxd e.symm)]; exact nx
      have s23 : Same H2 (upd (upd H2 dx (.own x)) x (.ins T.e_Begun.C dx [])) := (same_new ndx).trans (same_new n1)
      refine ⟨x, dx, n, .ref va, rfl, upd_same, fun ga g1 H4 nga ng1 ngg kp e4 ega eg1 => ⟨rfl, ?_⟩⟩
      have gax : ga ≠ x := fun e => by rw [e, upd_same] at nga; cases nga
      have g1x : g1 ≠ x := fun e => by rw [e, upd_same] at ng1; cases ng1
      have ga2 : H2 ga = none := same_none s23 nga
      have g12 : H2 g1 = none := same_none s23 ng1
      have s24 : Same H2 H4 := fun b o e => kp b o (fun w => by rw [w, nx] at e; cases e) (s23 _ _ e)
      have rb4 := s24 _ _ R2.bs
      have fb := few.begun
      refine ⟨ba, _, _, rfl, rfl, rb4, Nat.lt_of_le_of_lt (show _ ≤ 99999 by rw [List.length_map, List.length_reverse, lA]; omega) (by decide), ?_⟩
      obtain ⟨H5, hH5⟩ : ∃ H5, H5 = upd H4 ba (.lst ((As.reverse.map fun A => V.ref A.b) ++ [.ref x])) := ⟨_, rfl⟩
      rw [← hH5]
      have tu5 : Tu H2 H5 := (Same.tu s24).trans (hH5 ▸ tu_lst rb4)
      have nb : ∀ {b : Addr}, H2 b = none → b ≠ ba := fun n e => by rw [e, R2.bs] at n; cases n
      have up : ∀ {b : Addr} {o : HO}, b ≠ ba → H4 b = some o → H5 b = some o := fun n e => by rw [hH5, upd_ne n]; exact e
      have nm : ∀ {b : Addr}, H2 b = none → b ∉ ownR r pa la ba As := fun n => R2.fresh n
      have nd3 : (ownR r pa la ba (⟨x, va, ga, g1, none⟩ :: As)).Nodup := by
        have o1 : ([r, pa, la, ba] ++ g1 :: As.flatMap BgA.own).Nodup := nodup_ins (nm g12) nd
        have o2 : ([r, pa, la, ba] ++ ga :: (g1 :: As.flatMap BgA.own)).Nodup := nodup_ins (fun h => by
          have := nm ga2
          unfold ownR at this
          simp only [List.cons_append, List.nil_append, List.mem_cons] at h this
          rcases h with h | h | h | h | h | h
          · exact this (.inl h)
          · exact this (.inr (.inl h))
          · exact this (.inr (.inr (.inl h)))
          · exact this (.inr (.inr (.inr (.inl h))))
          · exact ngg h
          · exact this (.inr (.inr (.inr (.inr h))))) o1
        refine nodup_ins (l1 := [r, pa, la, ba]) (l2 := ga :: (g1 :: As.flatMap BgA.own)) (fun h => ?_) o2
        have := nm nx
        unfold ownR at this
        simp only [List.cons_append, List.nil_append, List.mem_cons] at h this
        rcases h with h | h | h | h | h | h | h
        · exact this (.inl h)
        · exact this (.inr (.inl h))
        · exact this (.inr (.inr (.inl h)))
        · exact this (.inr (.inr (.inr (.inl h))))
        · exact gax h.symm
        · exact g1x h.symm
        · exact this (.inr (.inr (.inr (.inr h))))
      have all4 := R2.all.same s24
      have nbF : ba ∉ As.flatMap BgA.own := z.2.2.2.1
      refine q (⟨x, va, ga, g1, none⟩ :: As) H5 ?_ (k2.trans fun a o na e => ?_)
      · rw [← hst]
        refine ⟨up z.1.2.2.1 (s24 _ _ R2.ob), by rw [hH5]; exact (R2.ps.same s24).upd rb4 z.2.1.2.1, up z.2.2.1.1 (s24 _ _ R2.ls), by rw [hH5, upd_same]; simp, .cons ⟨⟨dx, up (nb nx) e4⟩, Dp.keep tu5 dh2 (by show PlAll _ = true; exact pl_hk _), up (nb ga2) ega, ⟨[], up (nb g12) eg1, .nil, rfl⟩, trivial⟩ (by rw [hH5]; exact all4.upd rb4 nbF), nd3⟩
      · have ax : a ≠ x := fun w => by rw [w, nx] at e; cases e
        have aga : a ≠ ga := fun w => by rw [w, ga2] at e; cases e
        have ag1 : a ≠ g1 := fun w => by rw [w, g12] at e; cases e
        have aba : a ≠ ba := fun w => na (by rw [w]; unfold ownR; simp)
        refine ⟨fun h => ?_, up aba (s24 _ _ e)⟩
        unfold ownR at h na
        rw [List.flatMap_cons, BgA.own] at h
        simp only [List.mem_cons, List.mem_append, Option.toList, List.not_mem_nil, or_false] at h na
        rcases h with h | h | h | h | (h | h | h) | h
        · exact na (.inl h)
        · exact na (.inr (.inl h))
        · exact na (.inr (.inr (.inl h)))
        · exact na (.inr (.inr (.inr (.inl h))))
        · exact ax h
        · exact aga h
        · exact ag1 h
        · exact na (.inr (.inr (.inr (.inr h))))
    · have c3 : ¬ h.roles.contains "rows" = true := c3
      rw [if_neg c3] at hst
      have hst := Option.some.inj hst
      (try simp only [tIxO, rIsB, rNotB, tSeq, tIfS, tTest, tB, tOp, tUn, tVar, tC, tAsg, gName, tRet, tRetN, tCB, tCons, tNil, tLst_eq, tTup_eq, tDNewK_eq, tNext, tPar, tM0, tM1, tSl, tNoPart, tPart, rSlS, tAug, tAugS, tExf_eq, ipI, tChain, tCall, tDrop, tBM, tAnd, tOr, tNot, tAndV, tOrV, tNotV, tIf, tIsN, tNotN, rI, rI0, rU, rEq, rNe, gSub, cx_K, cx_K2, L2.start, wipe, scal_ii, scal_ss, scal_bb, scal_is, scal_si, scal_nn, List.map_cons, List.map_nil, List.length_cons, List.length_nil, List.cons_append, List.nil_append, List.append_nil, List.replicate, List.getElem?_cons_zero, List.getElem?_cons_succ, Option.some.injEq, exists_and_left, exists_eq_left', exists_eq_left, exists_eq, exists_eq', V.int.injEq, V.ref.injEq, V.str.injEq, V.bl.injEq, List.cons.injEq, and_true, true_and, false_and, exists_false, or_false, false_or, reduceCtorEq, List.set_cons_zero, List.set_cons_succ, Nat.reduceAdd, Nat.reduceSub, Int.reduceToNat, decide_eq_true_eq, if_true, if_false, Bool.false_eq_true, Bool.not_true, Bool.not_false, Bool.true_eq_false, ite_false, ite_true, ne_eq, not_false_eq_true, Int.reduceEq, tMeth])
      have fw : (⟨st.parts, st.lines ++ [n], st.begun⟩ : Mst).few 99999 := ⟨Nat.le_trans few.parts (by decide), by rw [List.length_append, List.length_singleton]; omega, Nat.le_trans few.begun (by decide), fun b hb => ⟨Nat.le_trans (few.groups b hb).1 (by decide), fun g e => Nat.le_trans ((few.groups b hb).2 g e) (by decide)⟩⟩
      refine ⟨_, _, R2.ob, rfl, r, dr, pa, la, ba, As, _, .ref va, .tuple h.hd, rfl, R2, dh2, (by show PlAll _ = true; exact pl_hk _), fw, fun H3 R3 k3 => q As H3 (hst ▸ R3) (k2.trans k3)⟩

end
end Own

set_option Elab.async false
set_option linter.all false
set_option maxRecDepth 100000
set_option maxHeartbeats 4000000
namespace Own
open PySem PySem.Spec PyProof.Rows L2
section
variable {P : Program} {w : World} {K : PySem.W.Frag} {mg : Str → Option Value} {base : Heap}
theorem okS_cons {a : Str} {l : List Str} (h : PyData.strOk a = true) (t : ∀ x ∈ l, PyData.strOk x = true) : ∀ x ∈ a :: l, PyData.strOk x = true := fun x hx => by
  rcases List.mem_cons.mp hx with rfl | hx
  · exact h
  · exact t x hx
theorem okS_nil : ∀ x ∈ ([] : List Str), PyData.strOk x = true := fun x hx => by cases hx
theorem okS_ids {l : List Str} (h : ∀ i ∈ l, isIdent i = true) : ∀ x ∈ l, PyData.strOk x = true := fun x hx => word_ok (idw (h x hx))
theorem okS_with {c : List Str} (h : ∀ i ∈ c, isIdent i = true) : ∀ x ∈ Stm.withC c, PyData.strOk x = true := by
  unfold Stm.withC
  split
  · exact okS_nil
  · exact okS_cons (by decide +kernel) (okS_ids h)
theorem hk_strOk {h : Hk} (o : h.ok) : ∀ x ∈ h.words, PyData.strOk x = true := by
  have I : ∀ {i : Str}, isIdent i = true → PyData.strOk i = true := fun h => word_ok (idw h)
  cases h with
  | pt t =>
    cases t with
    | name i x => exact okS_cons (by decide +kernel) (okS_cons (I o.1) (okS_cons (by decide +kernel) (okS_cons (word_ok o.2) okS_nil)))
    | flag i x => exact okS_cons (by decide +kernel) (okS_cons (I o.1) (okS_cons (by decide +kernel) (okS_cons (by rcases o.2 with rfl | rfl <;> decide +kernel) okS_nil)))
    | slot i x => exact okS_cons (by rcases o.2 with rfl | rfl <;> decide +kernel) (okS_cons (by decide +kernel) (okS_cons (I o.1) okS_nil))
    | func i x rows => exact okS_cons (by rcases o.2.1 with rfl | rfl <;> decide +kernel) (okS_cons (by decide +kernel) (okS_cons (I o.1) okS_nil))
  | st s =>
    cases s with
    | look x i => exact okS_cons (by decide +kernel) (okS_cons (word_ok o.1) (okS_cons (I o.2) okS_nil))
    | bind i v r =>
      refine okS_cons (by decide +kernel) (okS_cons (I o.1) ?_)
      have o2 := o.2
      cases v with
      | word x => exact okS_cons (by decide +kernel) (okS_cons (word_ok o2) okS_nil)
      | of j => exact okS_cons (by decide +kernel) (okS_cons (by decide +kernel) (okS_cons (I o2) okS_nil))
    | call i => exact okS_cons (by decide +kernel) (okS_cons (I o) okS_nil)
    | keep s f c => exact okS_cons (by decide +kernel) (okS_cons (I o.1) (okS_cons (I o.2.1) (okS_with o.2.2.1)))
    | take s c => exact okS_cons (by decide +kernel) (okS_cons (I o.1) (okS_with o.2.1))
    | shift s u c => exact okS_cons (by decide +kernel) (okS_cons (I o.1) (okS_cons (I o.2.1) (okS_with o.2.2.1)))
    | run i => exact okS_cons (by decide +kernel) (okS_cons (I o) okS_nil)
    | drop i => exact okS_cons (by decide +kernel) (okS_cons (I o) okS_nil)
    | apart r => exact okS_cons (by decide +kernel) okS_nil
    | when f r1 r2 => exact okS_cons (by decide +kernel) (okS_cons (I o) okS_nil)
    | held f r1 r2 => exact okS_cons (by decide +kernel) (okS_cons (I o) okS_nil)
    | fail => exact okS_cons (by decide +kernel) okS_nil
    | guard r1 r2 => exact okS_cons (by decide +kernel) okS_nil
def endsK : List Str := ["end", "else", "after"]
theorem hk_noend {h : Hk} (o : h.ok) {x : Str} (hx : x ∈ endsK) : h.words ≠ [x] := by
  have z : ∀ f ∈ V_STATEMENTS.map (·.1), f ∉ endsK := by decide +kernel
  have z2 : ∀ f ∈ (["name", "flag", "open", "own"] : List Str), f ∉ endsK := by decide +kernel
  intro e
  have hd : h.words.headD "" = x := by rw [e]; rfl
  have hn : h.words.headD "" ∉ endsK := by
    cases h with
    | st s => exact z _ (hk_st s)
    | pt t =>
      refine z2 _ ?_
      cases t with
      | name i x => exact .head _
      | flag i x => exact .tail _ (.head _)
      | slot i x => rcases o.2 with rfl | rfl <;> (show _ ∈ _; simp [Hk.words, Prt.words])
      | func i x rows => rcases o.2.1 with rfl | rfl <;> (show _ ∈ _; simp [Hk.words, Prt.words])
  rw [hd] at hn
  exact hn hx
theorem wk_strOk {k : Wk} (o : k.ok) : ∀ x ∈ k.words, PyData.strOk x = true := by
  cases k with
  | hd h => exact hk_strOk o
  | stop => exact okS_cons (by decide +kernel) okS_nil
  | dv d => exact okS_cons (by rcases o with rfl | rfl <;> decide +kernel) okS_nil
theorem eqW_go {K : PySem.W.Frag} {wa : Addr} {ws : List Str} {x : Str} {H : Hp} {Q : Bool → Hp → Prop} (hw : SqL K H wa (ws.map V.str)) (ok : ∀ y ∈ ws, PyData.strOk y = true) (okx : PyData.strOk x = true) (k : ∀ H', Same H H' → Q (decide (ws = [x])) H') : NewL [V.str x] H fun y H2 => rEqD K (.ref wa) y H2 fun x' H' => ∃ k, x' = .bl k ∧ Q k H' := by
  refine newL_go fun p H1 n1 s1 r1 => ?_
  refine ⟨.list (ws.map PyData.str), .list ([x].map PyData.str), .lst (sq_same s1 hw) (dp_strs ws), .lst (.inl (.inl r1)) (dp_strs [x]), strs_shaped ws ok, strs_shaped [x] (okS_cons okx okS_nil), _, rfl, ?_⟩
  rw [eqv_words]
  exact k H1 s1
def spTake (K : PySem.W.Frag) (CR CB : Addr) : Sp := fun vs H Q _ => ∃ (r dr pa la ba wa : Addr) (n : Nat) (As : List BgA) (st st2 : Mst) (k : Wk), vs = [.ref r, .int (n : Int), .ref wa] ∧ Rd K CR CB r dr pa la ba As st H ∧ SqL K H wa (k.words.map V.str) ∧ k.ok ∧ st.few 99990 ∧ st.step n k = some st2 ∧ ∀ As2 H', Rd K CR CB r dr pa la ba As2 st2 H' → Kpt (ownR r pa la ba As) (ownR r pa la ba As2) H H' → Q .non H'
theorem ok_Reader_take_line (T : Txt K mg w) : FnOk P w K mg base (L2N.CX P w) 36 T.i_Reader_take_line.a T.i_Reader_take_line.d ["self", "number", "words"] (spTake K T.e_Reader.C T.e_Begun.C) := by
  refine okX T.i_Reader_take_line.F sc_Reader_take_line (fun vs H Q E h => ?_) (fun cdv A outer s H vs Q E hr h => ?_)
  · obtain ⟨_, _, _, _, _, _, _, _, _, _, _, rfl, _⟩ := h
    rfl
  · obtain ⟨r, dr, pa, la, ba, wa, n, As, st, st2, k, rfl, R, hw, ok, few, hst, q⟩ := h
    have hu := hr.units
    refine ⟨_, (pss_one (ps_if (pt_cmpR (op_eqD hu) (pv 2) (pe_lst (pa_cons pe_str pa_nil)) (nomark _)) (pss_one (ps_expr (pe_meth (pv 0) T.e_Reader.c ⟨T.i_Reader_end.at_, T.i_Reader_end.fn, T.i_Reader_end.F.kp⟩ (ok_Reader_end T) (hr.mono (by decide)) T.i_Reader_end.b .nil (L2N.passes_call (E := E) (takesN (E := E) rfl rfl rfl rfl) (fun _ _ _ _ h => h)) (pa_cons (pv 1) pa_nil)))) (pss_one (ps_if (PW.pt (pw_or (pt_cmpR (op_eqD hu) (pv 2) (pe_lst (pa_cons pe_str pa_nil)) (nomark _)) (pw_or1 (pt_cmpR (op_eqD hu) (pv 2) (pe_lst (pa_cons pe_str pa_nil)) (nomark _))))) (pss_one (ps_if (PW.pt (pw_or (pt_not (pt_truth (pe_fld (pv 0) rfl) (by intro _; rfl))) (pw_or1 (pt_not (pt_truth (pe_meth (pe_ix ix_list (pe_fld (pv 0) rfl) (pe_un un_neg pe_int) (fun _ _ => rfl)) T.e_Begun.c ⟨T.i_Begun_divide.at_, T.i_Begun_divide.fn, T.i_Begun_divide.F.kp⟩ (ok_Begun_divide T) (hr.mono (by decide)) T.i_Begun_divide.b .nil pass0 (pa_cons (pe_ix ix_list (pv 2) pe_int (fun _ _ => rfl)) pa_nil)) (by intro _; rfl)))))) (pss_one (L2N.ps_raise rfl (takesN (E := E) rfl rfl rfl rfl) (pmkN T.c_BadLine.e.ox T.c_BadLine.n.ini T.c_BadLine.n.ty (ok_BadLine T) (hr.mono (by decide)) T.c_BadLine.b pass0 T.c_BadLine.m (by rfl) (pa_cons (pv 1) pa_nil)))) pss_nil)) (pss_one (ps_expr (pe_meth (pv 0) T.e_Reader.c ⟨T.i_Reader_begin.at_, T.i_Reader_begin.fn, T.i_Reader_begin.F.kp⟩ (ok_Reader_begin T) (hr.mono (by decide)) T.i_Reader_begin.b .nil (L2N.passes_call (E := E) (takesN (E := E) rfl rfl rfl rfl) (fun _ _ _ _ h => h)) (pa_cons (pv 1) (pa_cons (pv 2) pa_nil))))))))), ?_⟩
    (try simp only [tIxO, rIsB, rNotB, tSeq, tIfS, tTest, tB, tOp, tUn, tVar, tC, tAsg, gName, tRet, tRetN, tCB, tCons, tNil, tLst_eq, tTup_eq, tDNewK_eq, tNext, tPar, tM0, tM1, tSl, tNoPart, tPart, rSlS, tAug, tAugS, tExf_eq, ipI, tChain, tCall, tDrop, tBM, tAnd, tOr, tNot, tAndV, tOrV, tNotV, tIf, tIsN, tNotN, rI, rI0, rU, rEq, rNe, gSub, cx_K, cx_K2, L2.start, wipe, scal_ii, scal_ss, scal_bb, scal_is, scal_si, scal_nn, List.map_cons, List.map_nil, List.length_cons, List.length_nil, List.cons_append, List.nil_append, List.append_nil, List.replicate, List.getElem?_cons_zero, List.getElem?_cons_succ, Option.some.injEq, exists_and_left, exists_eq_left', exists_eq_left, exists_eq, exists_eq', V.int.injEq, V.ref.injEq, V.str.injEq, V.bl.injEq, List.cons.injEq, and_true, true_and, false_and, exists_false, or_false, false_or, reduceCtorEq, List.set_cons_zero, List.set_cons_succ, Nat.reduceAdd, Nat.reduceSub, Int.reduceToNat, decide_eq_true_eq, if_true, if_false, Bool.false_eq_true, Bool.not_true, Bool.not_false, Bool.true_eq_false, ite_false, ite_true, ne_eq, not_false_eq_true, Int.reduceEq, tFld, tMeth])
    have oks := wk_strOk ok
    refine eqW_go hw oks (by decide +kernel) fun H1 s1 => ?_
    have R1 := R.same s1
    have k1 : Kpt (ownR r pa la ba As) (ownR r pa la ba As) H H1 := Kpt.same s1
    have hw1 := sq_same s1 hw
    cases k with
    | stop =>
      refine ite2 (fun _ => ?_) (fun z => absurd (decide_eq_true (show (Wk.stop).words = (["end"] : List Str) from rfl)) z)
      refine ⟨_, _, R1.ob, rfl, ?_⟩
      obtain ⟨ps, ls, bg⟩ := st
      cases bg with
      | nil => cases hst
      | cons B Bs =>
        have hst := Option.some.inj (show some (Mst.put ⟨ps, ls, Bs⟩ B.whole) = some st2 from hst)
        have al := R1.all
        cases As with
        | nil => cases al
        | cons A As =>
          refine ⟨r, dr, pa, la, ba, n, A, As, B, Bs, ps, ls, rfl, R1, few.mono (by decide), fun H' R2 k2 => q As H' (hst ▸ R2) (k1.trans k2)⟩
    | hd h =>
      refine ite2 (fun z => absurd (of_decide_eq_true z) (hk_noend ok (.head _))) (fun _ => ?_)
      refine eqW_go hw1 oks (by decide +kernel) fun H2 s2 => ite2 (fun z => absurd (of_decide_eq_true z) (hk_noend ok (.tail _ (.head _)))) (fun _ => ?_)
      refine eqW_go (sq_same s2 hw1) oks (by decide +kernel) fun H3 s3 => ite2 (fun z => absurd (of_decide_eq_true z) (hk_noend ok (.tail _ (.tail _ (.head _))))) (fun _ => ?_)
      have s13 := s2.trans s3
      refine ⟨_, _, (R1.same s13).ob, rfl, ?_⟩
      exact ⟨r, dr, pa, la, ba, wa, n, As, st, st2, h, rfl, R1.same s13, sq_same s13 hw1, ok, few, hst, fun As2 H' R2 k2 => q As2 H' R2 ((k1.trans (Kpt.same s13)).trans k2)⟩
    | dv d =>
      have nd : (Wk.dv d).words ≠ (["end"] : List Str) := by
        have z : ∀ d ∈ (["else", "after"] : List Str), ([d] : List Str) ≠ (["end"] : List Str) := by decide +kernel
        exact z d (by rcases ok with rfl | rfl <;> simp)
      refine ite2 (fun z => absurd (of_decide_eq_true z) nd) (fun _ => ?_)
      obtain ⟨ps, ls, bg⟩ := st
      cases bg with
      | nil => cases hst
      | cons B Bs =>
        have hst : (if dvO B.h.first = some d ∧ B.g2 = none then some (⟨ps, ls, { B with g2 := some [] } :: Bs⟩ : Mst) else none) = some st2 := hst
        by_cases c : dvO B.h.first = some d ∧ B.g2 = none
        · rw [if_pos c] at hst
          have hst := Option.some.inj hst
          have al := R1.all
          cases As with
          | nil => cases al
          | cons A As =>
            cases al with
            | cons hA hAs =>
            refine eqW_go hw1 oks (by decide +kernel) fun H2 s2 => ?_
            have fin : ∀ (H3 : Hp) (Q' : VK), Same H1 H3 → (∀ H4, Q .non H4 → Q' (.bl true) H4) → spDiv K T.e_Reader.C T.e_Begun.C [V.ref A.b, V.str d] H3 Q' E0 := fun H3 Q' s3 k => ⟨r, dr, pa, la, ba, A, As, B, Bs, ps, ls, d, rfl, R1.same s3, c.1, c.2, fun A2 H4 R4 k4 => k H4 (q (A2 :: As) H4 (hst ▸ R4) ((k1.trans (Kpt.same s3)).trans k4))⟩
            obtain ⟨db, eA⟩ := hA.ob
            refine ite2 (fun _ => ?_) (fun z2 => ?_)
            · refine ⟨_, _, _, (R1.same s2).ob, T.e_Reader.c, T.n_Reader_begun, _, rfl, _, .inl ⟨_, .inl (.inl (R1.same s2).bs), rfl⟩, ite2 (fun z => by simp at z) (fun _ => ?_)⟩
              refine ⟨_, _, _, (R1.same s2).ob, T.e_Reader.c, T.n_Reader_begun, _, rfl, ixM_go (R1.same s2).bs (last_at _ A As) ⟨_, rfl, _, _, s2 _ _ eA, rfl, ixL_go (sq_same s2 hw1) (atI_nat (j := 0) rfl) (fin _ _ s2 fun H4 q4 => ⟨true, rfl, ite2 (fun z => by cases z) (fun _ => q4)⟩)⟩⟩
            · refine eqW_go (sq_same s2 hw1) oks (by decide +kernel) fun H3 s3 => ite2 (fun _ => ?_) (fun z3 => ?_)
              · have s13 := s2.trans s3
                refine ⟨_, _, _, (R1.same s13).ob, T.e_Reader.c, T.n_Reader_begun, _, rfl, _, .inl ⟨_, .inl (.inl (R1.same s13).bs), rfl⟩, ite2 (fun z => by simp at z) (fun _ => ?_)⟩
                refine ⟨_, _, _, (R1.same s13).ob, T.e_Reader.c, T.n_Reader_begun, _, rfl, ixM_go (R1.same s13).bs (last_at _ A As) ⟨_, rfl, _, _, s13 _ _ eA, rfl, ixL_go (sq_same s13 hw1) (atI_nat (j := 0) rfl) (fin _ _ s13 fun H4 q4 => ⟨true, rfl, ite2 (fun z => by cases z) (fun _ => q4)⟩)⟩⟩
              · exfalso
                rcases ok with rfl | rfl
                · exact z2 (decide_eq_true (show (Wk.dv "else").words = (["else"] : List Str) from rfl))
                · exact z3 (decide_eq_true (show (Wk.dv "after").words = (["after"] : List Str) from rfl))
        · rw [if_neg c] at hst
          cases hst

end
end Own

set_option Elab.async false
set_option linter.all false
set_option maxRecDepth 100000
set_option maxHeartbeats 4000000
namespace Own
open PySem PySem.Spec PyProof.Rows L2
section
variable {P : Program} {w : World} {K : PySem.W.Frag} {mg : Str → Option Value} {base : Heap}
def runLn : Mst → Nat → List (Option Wk) → Option Mst
  | st, _, [] => some st
  | st, n, none :: ks => runLn st (n + 1) ks
  | st, n, some k :: ks => match st.step n k with
    | some st2 => runLn st2 (n + 1) ks
    | none => none
theorem few_step {st st2 : Mst} {N n : Nat} {k : Wk} (f : st.few N) (h : st.step n k = some st2) : st2.few (N + 1) := by
  cases k with
  | hd hk =>
    have h : (if (V_PARTS.map (·.1)).contains hk.first = !st.begun.isEmpty then none else if st.begun.length > 9 then none else if hk.roles.contains "rows" then some (⟨st.parts, st.lines ++ [n], ⟨n, hk, [], none⟩ :: st.begun⟩ : Mst) else some (Mst.put ⟨st.parts, st.lines ++ [n], st.begun⟩ (.tuple hk.hd))) = some st2 := h
    split at h
    · cases h
    split at h
    · cases h
    split at h
    · cases h
      have l := f.lines
      have b := f.begun
      exact ⟨Nat.le_succ_of_le f.parts, by simp; exact l, by simp; exact b, fun c hc => by
        rcases List.mem_cons.mp hc with rfl | hc
        · exact ⟨Nat.zero_le _, fun g e => by cases e⟩
        · exact ⟨Nat.le_succ_of_le (f.groups c hc).1, fun g e => Nat.le_succ_of_le ((f.groups c hc).2 g e)⟩⟩
    · cases h
      have l := f.lines
      have p := f.put (.tuple hk.hd)
      have e1 : (Mst.put ⟨st.parts, st.lines ++ [n], st.begun⟩ (.tuple hk.hd)).parts = (st.put (.tuple hk.hd)).parts := by unfold Mst.put; cases st.begun <;> rfl
      have e2 : (Mst.put ⟨st.parts, st.lines ++ [n], st.begun⟩ (.tuple hk.hd)).begun = (st.put (.tuple hk.hd)).begun := by unfold Mst.put; cases st.begun <;> rfl
      have e3 : (Mst.put ⟨st.parts, st.lines ++ [n], st.begun⟩ (.tuple hk.hd)).lines = st.lines ++ [n] := by unfold Mst.put; cases st.begun <;> rfl
      exact ⟨by rw [e1]; exact p.parts, by rw [e3]; simp; exact l, by rw [e2]; exact p.begun, by rw [e2]; exact p.groups⟩
  | stop =>
    obtain ⟨ps, ls, bg⟩ := st
    cases bg with
    | nil => cases h
    | cons B Bs =>
      have h := Option.some.inj (show some (Mst.put ⟨ps, ls, Bs⟩ B.whole) = some st2 from h)
      subst h
      exact Mst.few.put (st := ⟨ps, ls, Bs⟩) ⟨f.parts, f.lines, Nat.le_of_succ_le f.begun, fun c hc => f.groups c (show c ∈ B :: Bs from List.mem_cons_of_mem _ hc)⟩ _
  | dv d =>
    obtain ⟨ps, ls, bg⟩ := st
    cases bg with
    | nil => cases h
    | cons B Bs =>
      have h : (if dvO B.h.first = some d ∧ B.g2 = none then some (⟨ps, ls, { B with g2 := some [] } :: Bs⟩ : Mst) else none) = some st2 := h
      split at h
      · cases h
        have f2 := f.mono (Nat.le_succ _)
        refine ⟨f2.parts, f2.lines, f2.begun, fun c hc => ?_⟩
        rcases List.mem_cons.mp hc with rfl | hc
        · exact ⟨(f2.groups B (.head _)).1, fun g e => by cases e; exact Nat.zero_le _⟩
        · exact f2.groups c (show c ∈ B :: Bs from List.mem_cons_of_mem _ hc)
      · cases h
theorem run_step {st2 : Mst} {n : Nat} {ks : List (Option Wk)} {i : Nat} {k : Wk} {sti : Mst} (hi : ks[i]? = some (some k)) (hr : runLn sti (n + i) (ks.drop i) = some st2) : ∃ stj, sti.step (n + i) k = some stj ∧ runLn stj (n + (i + 1)) (ks.drop (i + 1)) = some st2 := by
  have hd : ks.drop i = some k :: ks.drop (i + 1) := by
    have lt := (List.getElem?_eq_some_iff.mp hi).1
    rw [List.drop_eq_getElem_cons lt]
    rw [List.getElem?_eq_getElem lt] at hi
    rw [Option.some.inj hi]
  rw [hd, runLn] at hr
  cases e : sti.step (n + i) k with
  | none => rw [e] at hr; cases hr
  | some stj => rw [e] at hr; exact ⟨stj, rfl, hr⟩
theorem run_skip {st2 : Mst} {n : Nat} {ks : List (Option Wk)} {i : Nat} {sti : Mst} (hi : ks[i]? = some none) (hr : runLn sti (n + i) (ks.drop i) = some st2) : runLn sti (n + (i + 1)) (ks.drop (i + 1)) = some st2 := by
  have hd : ks.drop i = none :: ks.drop (i + 1) := by
    have lt := (List.getElem?_eq_some_iff.mp hi).1
    rw [List.drop_eq_getElem_cons lt]
    rw [List.getElem?_eq_getElem lt] at hi
    rw [Option.some.inj hi]
  rw [hd, runLn] at hr
  exact hr
def m0 : Mst := ⟨[], [], []⟩
def spParse (K : PySem.W.Frag) : Sp := fun vs H Q _ => ∃ (text : Str) (ts : List Str) (ks : List (Option Wk)) (st : Mst), vs = [.str text] ∧ text.length + 2 ≤ sizeLine ∧ Txt.split text "\n" = ts ∧ ts.length = ks.length ∧ ks.length ≤ 90000 ∧ (∀ t ∈ ts, t.length + 2 ≤ sizeLine ∧ (Txt.split t " ").length ≤ 90000 ∧ ∀ y ∈ Txt.split t " ", y.length ≤ sizeLine) ∧ (∀ (i : Nat) t k, ts[i]? = some t → ks[i]? = some k → LineIs t k) ∧ runLn m0 1 ks = some st ∧ st.begun = [] ∧ ∀ v H2, Same H H2 → Dp K H2 v (.tuple [.tuple st.parts, .tuple (st.lines.map fun n : Nat => PyData.int (n : Int))]) → Q v H2
theorem ok_parse (T : Txt K mg w) : FnOk P w K mg base (L2N.CX P w) 38 T.d_parse.a T.d_parse.d ["text"] (spParse K) := by
  refine okX T.d_parse.F sc_parse (fun vs H Q E h => ?_) (fun cdv A outer s H vs Q E hr h => ?_)
  · obtain ⟨_, _, _, _, rfl, _⟩ := h
    rfl
  · obtain ⟨text, ts, ks, st, rfl, ltx, hsp, hlen, lks, lts, hks, hrun, hbg, q⟩ := h
    have hu := hr.units
    refine ⟨_, (pss_cons (ps_set (i := 1) sc_parse.nd rfl (Or.inl rfl) (pe_make0 ⟨T.e_Reader.mks, T.i_Reader_init.at_, T.i_Reader_init.fn, T.e_Reader.kp⟩ (ok_Reader_init T) (hr.mono (by decide)) (by rfl) T.e_Reader.m T.i_Reader_init.b .nil pass0))
      (pss_cons (ps_for (L2.passes_of rfl) rfl (pi_enumS (by rfl) T.z_enumerate (pe_split (pv 0) pe_str) (pk_cons pe_int pk_nil)) (pg_tup (by rfl) (pgs_cons (pg_name (i := 2) sc_parse.nd rfl (Or.inl rfl)) (pgs_cons (pg_name (i := 3) sc_parse.nd rfl (Or.inl rfl)) pgs_nil))) (pss_cons (ps_setLc (i := 4) (own := [("word", 5)]) (g := gName 5) (by rfl) sc_parse.nd rfl rfl (sw_true rfl rfl rfl (by decide +kernel)) (pi_list (pe_split (pv 3) pe_str)) (blkOk_by (own := [("word", 5)]) (N := ["text", "reader", "number", "line", "words", "word"]) (sc := defScope s_parse) (by decide +kernel)) (fun _ _ _ _ _ => pg_name (i := 5) sc_parse.nd rfl (Or.inl rfl)) (fun _ _ _ _ _ => pts_one (ptB_truth (pv 5) (by intro _; rfl))) (fun _ _ _ _ _ => (pv 5)))
      (pss_one (ps_if (PW.pt (pw_and (pt_truth (pv 4) (by intro _; rfl)) (pw_and1 (pt_not (pt_truth (pe_m1 PySem.F.slot_str_startswith PySem.F.type_str_startswith mt_startswith (pe_ix ix_list (pv 4) pe_int (fun _ _ => rfl)) pe_str) (by intro _; rfl)))))) (pss_one (ps_expr (pe_meth (pv 1) T.e_Reader.c ⟨T.i_Reader_take_line.at_, T.i_Reader_take_line.fn, T.i_Reader_take_line.F.kp⟩ (ok_Reader_take_line T) (hr.mono (by decide)) T.i_Reader_take_line.b .nil (L2N.passes_call (E := E) (takesN (E := E) rfl rfl rfl rfl) (fun _ _ _ _ h => h)) (pa_cons (pv 2) (pa_cons (pv 4) pa_nil))))) pss_nil))))
      (pss_cons (ps_if (pt_truth (pe_fld (pv 1) rfl) (by intro _; rfl)) (pss_one (L2N.ps_raise rfl (takesN (E := E) rfl rfl rfl rfl) (pmkN T.c_Unclosed.e.ox T.c_Unclosed.n.ini T.c_Unclosed.n.ty (ok_Unclosed T) (hr.mono (by decide)) T.c_Unclosed.b pass0 T.c_Unclosed.m (by rfl) (pa_cons (pe_fld (pe_ix ix_list (pe_fld (pv 1) rfl) (pe_un un_neg pe_int) (fun _ _ => rfl)) rfl) pa_nil)))) pss_nil)
      (pss_one (ps_ret (pe_tup (pa_cons (pe_callTy call_tuple_of (by rfl) T.z_tuple (by decide +kernel) (pa_cons (pe_fld (pv 1) rfl) pa_nil)) (pa_cons (pe_callTy call_tuple_of (by rfl) T.z_tuple (by decide +kernel) (pa_cons (pe_fld (pv 1) rfl) pa_nil)) pa_nil)))))))), ?_⟩
    (try simp only [tIxO, rIsB, rNotB, tSeq, tIfS, tTest, tB, tOp, tUn, tVar, tC, tAsg, gName, tRet, tRetN, tCB, tCons, tNil, tLst_eq, tTup_eq, tDNewK_eq, tNext, tPar, tM0, tM1, tSl, tNoPart, tPart, rSlS, tAug, tAugS, tExf_eq, ipI, tChain, tCall, tDrop, tBM, tAnd, tOr, tNot, tAndV, tOrV, tNotV, tIf, tIsN, tNotN, rI, rI0, rU, rEq, rNe, gSub, cx_K, cx_K2, L2.start, wipe, scal_ii, scal_ss, scal_bb, scal_is, scal_si, scal_nn, List.map_cons, List.map_nil, List.length_cons, List.length_nil, List.cons_append, List.nil_append, List.append_nil, List.replicate, List.getElem?_cons_zero, List.getElem?_cons_succ, Option.some.injEq, exists_and_left, exists_eq_left', exists_eq_left, exists_eq, exists_eq', V.int.injEq, V.ref.injEq, V.str.injEq, V.bl.injEq, List.cons.injEq, and_true, true_and, false_and, exists_false, or_false, false_or, reduceCtorEq, List.set_cons_zero, List.set_cons_succ, Nat.reduceAdd, Nat.reduceSub, Int.reduceToNat, decide_eq_true_eq, if_true, if_false, Bool.false_eq_true, Bool.not_true, Bool.not_false, Bool.true_eq_false, ite_false, ite_true, ne_eq, not_false_eq_true, Int.reduceEq, tFld, tMeth, tMake])
    intro x dx nx ndx nxd
    have n1 : (upd H dx (.own x)) x = none := by rw [upd_ne (fun e => nxd e.symm)]; exact nx
    have s01 : Same H (upd (upd H dx (.own x)) x (.ins T.e_Reader.C dx [])) := (same_new ndx).trans (same_new n1)
    refine ⟨x, dx, rfl, upd_same, fun pa la ba H1 npa nla nba pl pb lb kp e1 epa ela eba => ⟨rfl, ?_⟩⟩
    have pax : pa ≠ x := fun e => by rw [e, upd_same] at npa; cases npa
    have lax : la ≠ x := fun e => by rw [e, upd_same] at nla; cases nla
    have bax : ba ≠ x := fun e => by rw [e, upd_same] at nba; cases nba
    have s1 : Same H H1 := fun b o e => kp b o (fun w => by rw [w, nx] at e; cases e) (s01 _ _ e)
    have R1 : Rd K T.e_Reader.C T.e_Begun.C x dx pa la ba [] m0 H1 := ⟨e1, ⟨[], epa, .nil, rfl⟩, ela, eba, .nil, by
      unfold ownR
      simp only [List.flatMap_nil, List.nodup_cons, List.mem_cons, List.not_mem_nil, or_false, not_or, not_false_eq_true, List.nodup_nil, and_true]
      exact ⟨⟨pax.symm, lax.symm, bax.symm⟩, ⟨pl, pb⟩, lb⟩⟩
    (try simp only [tIxO, rIsB, rNotB, tSeq, tIfS, tTest, tB, tOp, tUn, tVar, tC, tAsg, gName, tRet, tRetN, tCB, tCons, tNil, tLst_eq, tTup_eq, tDNewK_eq, tNext, tPar, tM0, tM1, tSl, tNoPart, tPart, rSlS, tAug, tAugS, tExf_eq, ipI, tChain, tCall, tDrop, tBM, tAnd, tOr, tNot, tAndV, tOrV, tNotV, tIf, tIsN, tNotN, rI, rI0, rU, rEq, rNe, gSub, cx_K, cx_K2, L2.start, wipe, scal_ii, scal_ss, scal_bb, scal_is, scal_si, scal_nn, List.map_cons, List.map_nil, List.length_cons, List.length_nil, List.cons_append, List.nil_append, List.append_nil, List.replicate, List.getElem?_cons_zero, List.getElem?_cons_succ, Option.some.injEq, exists_and_left, exists_eq_left', exists_eq_left, exists_eq, exists_eq', V.int.injEq, V.ref.injEq, V.str.injEq, V.bl.injEq, List.cons.injEq, and_true, true_and, false_and, exists_false, or_false, false_or, reduceCtorEq, List.set_cons_zero, List.set_cons_succ, Nat.reduceAdd, Nat.reduceSub, Int.reduceToNat, decide_eq_true_eq, if_true, if_false, Bool.false_eq_true, Bool.not_true, Bool.not_false, Bool.true_eq_false, ite_false, ite_true, ne_eq, not_false_eq_true, Int.reduceEq])
    refine forEC_go (K := K) (tp := false) (k := 1) (fun b ys H2 => H1 b = none ∧ Same H1 H2 ∧ H2 b = some (.lst ys) ∧ ys = ts.map V.str) (fun R r => ?_) (fun b ys H2 ⟨nb, s2, rb, eys⟩ => ?_)
    · show tM1 _ _ _ _ _ _
      refine ⟨_, rfl, ⟨text, rfl⟩, text, rfl, "\n", rfl, by decide +kernel, ltx, ?_⟩
      rw [hsp]
      intro p np
      exact ⟨p, _, 1, rfl, rfl, by decide, by decide, .inl (.inl upd_same), r p _ _ ⟨np, same_new np, upd_same, rfl⟩⟩
    subst eys
    have R2 := R1.same s2
    have nbO : b ∉ ownR x pa la ba [] := R1.fresh nb
    have nHO : ∀ a o, H a = some o → a ∉ ownR x pa la ba [] := fun a o e h => by
      unfold ownR at h
      simp only [List.flatMap_nil, List.mem_cons, List.not_mem_nil, or_false] at h
      rcases h with rfl | rfl | rfl | rfl
      · rw [nx] at e; cases e
      · rw [same_none s01 npa] at e; cases e
      · rw [same_none s01 nla] at e; cases e
      · rw [same_none s01 nba] at e; cases e
    have s02 := s1.trans s2
    refine forEn_go (K := K) (tp := false) (a := b) (k := 1) (xs := ts.map V.str) (fun i σ2 H3 => ∃ (o2 o3 o4 : Option V) (As : List BgA) (sti : Mst), Rd K T.e_Reader.C T.e_Begun.C x dx pa la ba As sti H3 ∧ runLn sti (1 + i) (ks.drop i) = some st ∧ sti.few i ∧ Kpt (ownR x pa la ba []) (ownR x pa la ba As) H2 H3 ∧ σ2 = [some (.str text), some (.ref x), o2, o3, o4, none]) (fun R r => r) (fun i σ2 H3 _ pv => ?_) ⟨_, _, _, [], m0, R2, hrun, ⟨Nat.le_refl _, Nat.le_refl _, Nat.le_refl _, fun b hb => by cases hb⟩, Kpt.refl _ _, rfl⟩ (fun i xv T2 σ2 H3 e1 pv nT => ?_) (fun σ2 H3 pv => ?_)
    · obtain ⟨_, _, _, As, sti, R3, _, _, k3, _⟩ := pv
      exact .inl (.inl (k3 b _ nbO rb).2)
    · obtain ⟨o2, o3, o4, As, sti, R3, hrn, fw, k3, rfl⟩ := pv
      rw [List.getElem?_map] at e1
      obtain ⟨t, ht, rfl⟩ := Option.map_eq_some_iff.mp e1
      have hi : i < ts.length := (List.getElem?_eq_some_iff.mp ht).1
      obtain ⟨ko, hko⟩ : ∃ k, ks[i]? = some k := ⟨_, List.getElem?_eq_getElem (by omega)⟩
      have li := hks i t ko ht hko
      obtain ⟨b1, b2, b3⟩ := lts t (List.mem_of_getElem? ht)
      have sT := same_new (o := .tup [V.int (1 + ((i : Nat) : Int)), V.str t]) nT
      refine ⟨_, _, rfl, .inl (.inl upd_same), rfl, _, _, rfl, _, _, rfl, rfl, ?_⟩
      (try simp only [tIxO, rIsB, rNotB, tSeq, tIfS, tTest, tB, tOp, tUn, tVar, tC, tAsg, gName, tRet, tRetN, tCB, tCons, tNil, tLst_eq, tTup_eq, tDNewK_eq, tNext, tPar, tM0, tM1, tSl, tNoPart, tPart, rSlS, tAug, tAugS, tExf_eq, ipI, tChain, tCall, tDrop, tBM, tAnd, tOr, tNot, tAndV, tOrV, tNotV, tIf, tIsN, tNotN, rI, rI0, rU, rEq, rNe, gSub, cx_K, cx_K2, L2.start, wipe, scal_ii, scal_ss, scal_bb, scal_is, scal_si, scal_nn, List.map_cons, List.map_nil, List.length_cons, List.length_nil, List.cons_append, List.nil_append, List.append_nil, List.replicate, List.getElem?_cons_zero, List.getElem?_cons_succ, Option.some.injEq, exists_and_left, exists_eq_left', exists_eq_left, exists_eq, exists_eq', V.int.injEq, V.ref.injEq, V.str.injEq, V.bl.injEq, List.cons.injEq, and_true, true_and, false_and, exists_false, or_false, false_or, reduceCtorEq, List.set_cons_zero, List.set_cons_succ, Nat.reduceAdd, Nat.reduceSub, Int.reduceToNat, decide_eq_true_eq, if_true, if_false, Bool.false_eq_true, Bool.not_true, Bool.not_false, Bool.true_eq_false, ite_false, ite_true, ne_eq, not_false_eq_true, Int.reduceEq])
      refine lcLB_go (fun L ys H4 => H3 L = none ∧ Same H3 H4 ∧ H4 L = some (.lst ys) ∧ ys = (Txt.split t " ").map V.str) (fun _ _ _ c => .inl (.inl c.2.2.1)) (fun Q' k => ?_) (fun L ys H4 ⟨nL, s4, rL, eys⟩ => ?_)
      · show tM1 _ _ _ _ _ _
        refine ⟨_, rfl, ⟨t, rfl⟩, t, rfl, " ", rfl, by decide +kernel, b1, fun p np => k p _ _ ⟨same_none sT np, sT.trans (same_new np), upd_same, rfl⟩⟩
      subst eys
      refine lcG_go (walk_list (K := K) (a := L) (xs := (Txt.split t " ").map V.str)) (Txt.split t " ") (fun y => y.length != 0) V.str (fun D H' hD v => .inl (.inl (ExT.toSame hD v _ _ rL))) (by rw [List.length_map]) (by omega) (fun j xv y H' R h1 h2 s r => ?_) (fun j xv y H' R h1 h2 _ s r => ?_) (fun W H5 nW s5 rW => ?_)
      · rw [List.getElem?_map, h2] at h1
        cases h1
        (try simp only [tIxO, rIsB, rNotB, tSeq, tIfS, tTest, tB, tOp, tUn, tVar, tC, tAsg, gName, tRet, tRetN, tCB, tCons, tNil, tLst_eq, tTup_eq, tDNewK_eq, tNext, tPar, tM0, tM1, tSl, tNoPart, tPart, rSlS, tAug, tAugS, tExf_eq, ipI, tChain, tCall, tDrop, tBM, tAnd, tOr, tNot, tAndV, tOrV, tNotV, tIf, tIsN, tNotN, rI, rI0, rU, rEq, rNe, gSub, cx_K, cx_K2, L2.start, wipe, scal_ii, scal_ss, scal_bb, scal_is, scal_si, scal_nn, List.map_cons, List.map_nil, List.length_cons, List.length_nil, List.cons_append, List.nil_append, List.append_nil, List.replicate, List.getElem?_cons_zero, List.getElem?_cons_succ, Option.some.injEq, exists_and_left, exists_eq_left', exists_eq_left, exists_eq, exists_eq', V.int.injEq, V.ref.injEq, V.str.injEq, V.bl.injEq, List.cons.injEq, and_true, true_and, false_and, exists_false, or_false, false_or, reduceCtorEq, List.set_cons_zero, List.set_cons_succ, Nat.reduceAdd, Nat.reduceSub, Int.reduceToNat, decide_eq_true_eq, if_true, if_false, Bool.false_eq_true, Bool.not_true, Bool.not_false, Bool.true_eq_false, ite_false, ite_true, ne_eq, not_false_eq_true, Int.reduceEq])
        refine ⟨_, ⟨b3 y (List.mem_of_getElem? h2), rfl⟩, ?_⟩
        have e : ((y.length : Int) != 0) = (y.length != 0) := by
          rw [Bool.eq_iff_iff]
          simp only [bne_iff_ne, ne_eq]
          omega
        rw [e]
        exact r H' fun _ _ e => e
      · rw [List.getElem?_map, h2] at h1
        cases h1
        (try simp only [tIxO, rIsB, rNotB, tSeq, tIfS, tTest, tB, tOp, tUn, tVar, tC, tAsg, gName, tRet, tRetN, tCB, tCons, tNil, tLst_eq, tTup_eq, tDNewK_eq, tNext, tPar, tM0, tM1, tSl, tNoPart, tPart, rSlS, tAug, tAugS, tExf_eq, ipI, tChain, tCall, tDrop, tBM, tAnd, tOr, tNot, tAndV, tOrV, tNotV, tIf, tIsN, tNotN, rI, rI0, rU, rEq, rNe, gSub, cx_K, cx_K2, L2.start, wipe, scal_ii, scal_ss, scal_bb, scal_is, scal_si, scal_nn, List.map_cons, List.map_nil, List.length_cons, List.length_nil, List.cons_append, List.nil_append, List.append_nil, List.replicate, List.getElem?_cons_zero, List.getElem?_cons_succ, Option.some.injEq, exists_and_left, exists_eq_left', exists_eq_left, exists_eq, exists_eq', V.int.injEq, V.ref.injEq, V.str.injEq, V.bl.injEq, List.cons.injEq, and_true, true_and, false_and, exists_false, or_false, false_or, reduceCtorEq, List.set_cons_zero, List.set_cons_succ, Nat.reduceAdd, Nat.reduceSub, Int.reduceToNat, decide_eq_true_eq, if_true, if_false, Bool.false_eq_true, Bool.not_true, Bool.not_false, Bool.true_eq_false, ite_false, ite_true, ne_eq, not_false_eq_true, Int.reduceEq])
        exact r H' fun _ _ e => e
      · have rW : H5 W = some (.lst ((wordsOf t).map V.str)) := rW
        have s35 := s4.trans s5
        have R5 := R3.same s35
        have k5 := k3.trans (Kpt.same (O := ownR x pa la ba As) s35)
        (try simp only [tIxO, rIsB, rNotB, tSeq, tIfS, tTest, tB, tOp, tUn, tVar, tC, tAsg, gName, tRet, tRetN, tCB, tCons, tNil, tLst_eq, tTup_eq, tDNewK_eq, tNext, tPar, tM0, tM1, tSl, tNoPart, tPart, rSlS, tAug, tAugS, tExf_eq, ipI, tChain, tCall, tDrop, tBM, tAnd, tOr, tNot, tAndV, tOrV, tNotV, tIf, tIsN, tNotN, rI, rI0, rU, rEq, rNe, gSub, cx_K, cx_K2, L2.start, wipe, scal_ii, scal_ss, scal_bb, scal_is, scal_si, scal_nn, List.map_cons, List.map_nil, List.length_cons, List.length_nil, List.cons_append, List.nil_append, List.append_nil, List.replicate, List.getElem?_cons_zero, List.getElem?_cons_succ, Option.some.injEq, exists_and_left, exists_eq_left', exists_eq_left, exists_eq, exists_eq', V.int.injEq, V.ref.injEq, V.str.injEq, V.bl.injEq, List.cons.injEq, and_true, true_and, false_and, exists_false, or_false, false_or, reduceCtorEq, List.set_cons_zero, List.set_cons_succ, Nat.reduceAdd, Nat.reduceSub, Int.reduceToNat, decide_eq_true_eq, if_true, if_false, Bool.false_eq_true, Bool.not_true, Bool.not_false, Bool.true_eq_false, ite_false, ite_true, ne_eq, not_false_eq_true, Int.reduceEq, tMeth])
        refine ⟨_, .inl ⟨_, .inl (.inl rW), rfl⟩, ?_⟩
        have keep : ko = none → ∃ (o2 o3 o4 : Option V) (As : List BgA) (sti : Mst), Rd K T.e_Reader.C T.e_Begun.C x dx pa la ba As sti H5 ∧ runLn sti (1 + (i + 1)) (ks.drop (i + 1)) = some st ∧ sti.few (i + 1) ∧ Kpt (ownR x pa la ba []) (ownR x pa la ba As) H2 H5 ∧ some (V.int (1 + ((i : Nat) : Int))) = o2 ∧ some (V.str t) = o3 ∧ some (V.ref W) = o4 := fun e => by
          subst e
          exact ⟨_, _, _, As, sti, R5, run_skip hko hrn, fw.mono (Nat.le_succ _), k5, rfl, rfl, rfl⟩
        cases ko with
        | none =>
          rcases li with li | ⟨z, r, li, sw⟩
          · refine ite2 (fun w => by rw [li] at w; simp at w) (fun _ => keep rfl)
          · refine ite2 (fun _ => ?_) (fun w => absurd (by rw [li]; rfl) w)
            refine ixM_go rW (atI_nat (j := 0) (by rw [li]; rfl)) ⟨⟨z, rfl⟩, z, rfl, true, by rw [sw]; rfl, ite2 (fun w => by cases w) (fun _ => keep rfl)⟩
        | some k =>
          obtain ⟨l1, l2, z, r, l3, sw⟩ := li
          have lw : wordsOf t = z :: r := by rw [l1, l3]
          refine ite2 (fun _ => ?_) (fun w => absurd (by rw [lw]; rfl) w)
          refine ixM_go rW (atI_nat (j := 0) (by rw [lw]; rfl)) ⟨⟨z, rfl⟩, z, rfl, false, by rw [sw]; rfl, ite2 (fun _ => ?_) (fun w => absurd rfl w)⟩
          obtain ⟨stj, hst, hrj⟩ := run_step hko hrn
          refine ⟨_, _, R5.ob, rfl, x, dx, pa, la, ba, W, 1 + i, As, sti, stj, k, by rw [Int.natCast_add]; rfl, R5, by rw [← l1]; exact .inl (.inl rW), l2, fw.mono (by omega), hst, fun As2 H6 R6 k6 => ?_⟩
          exact ⟨_, _, _, As2, stj, R6, hrj, few_step fw hst, k5.trans k6, rfl, rfl, rfl⟩
    · obtain ⟨o2, o3, o4, As, sti, R3, hrn, fw, k3, rfl⟩ := pv
      have e : sti = st := by
        rw [List.length_map, hlen, List.drop_length] at hrn
        exact Option.some.inj hrn
      subst e
      have s03 : Same H H3 := fun a o e => (k3 a o (nHO a o e) (s02 _ _ e)).2
      have eA : As = [] := by
        have l := R3.all.len
        rw [hbg] at l
        exact List.length_eq_zero_iff.mp l
      subst eA
      (try simp only [tIxO, rIsB, rNotB, tSeq, tIfS, tTest, tB, tOp, tUn, tVar, tC, tAsg, gName, tRet, tRetN, tCB, tCons, tNil, tLst_eq, tTup_eq, tDNewK_eq, tNext, tPar, tM0, tM1, tSl, tNoPart, tPart, rSlS, tAug, tAugS, tExf_eq, ipI, tChain, tCall, tDrop, tBM, tAnd, tOr, tNot, tAndV, tOrV, tNotV, tIf, tIsN, tNotN, rI, rI0, rU, rEq, rNe, gSub, cx_K, cx_K2, L2.start, wipe, scal_ii, scal_ss, scal_bb, scal_is, scal_si, scal_nn, List.map_cons, List.map_nil, List.length_cons, List.length_nil, List.cons_append, List.nil_append, List.append_nil, List.replicate, List.getElem?_cons_zero, List.getElem?_cons_succ, Option.some.injEq, exists_and_left, exists_eq_left', exists_eq_left, exists_eq, exists_eq', V.int.injEq, V.ref.injEq, V.str.injEq, V.bl.injEq, List.cons.injEq, and_true, true_and, false_and, exists_false, or_false, false_or, reduceCtorEq, List.set_cons_zero, List.set_cons_succ, Nat.reduceAdd, Nat.reduceSub, Int.reduceToNat, decide_eq_true_eq, if_true, if_false, Bool.false_eq_true, Bool.not_true, Bool.not_false, Bool.true_eq_false, ite_false, ite_true, ne_eq, not_false_eq_true, Int.reduceEq, tFld])
      refine ⟨_, _, _, R3.ob, T.e_Reader.c, T.n_Reader_begun, _, rfl, _, .inl ⟨_, .inl (.inl R3.bs), rfl⟩, ite2 (fun w => by cases w) (fun _ => ?_)⟩
      obtain ⟨xs, ex, dx2, px⟩ := R3.ps
      refine ⟨_, _, _, R3.ob, T.e_Reader.c, T.n_Reader_parts, _, rfl, pa, rfl, xs, .inl ⟨.inl (.inl ex), fun l nl => ?_⟩⟩
      have s4 := same_new (o := .tup xs) nl
      refine ⟨_, _, _, s4 _ _ R3.ob, T.e_Reader.c, T.n_Reader_lines, _, rfl, la, rfl, _, .inl ⟨.inl (.inl (s4 _ _ R3.ls)), fun l2 nl2 => ?_⟩⟩
      have s5 := same_new (o := .tup (sti.lines.map fun n : Nat => V.int (n : Int))) nl2
      have dints : ∀ (H' : Hp) (l : List Nat), DpAll K H' (l.map fun n : Nat => V.int (n : Int)) (l.map fun n : Nat => PyData.int (n : Int)) := fun H' l => by
        induction l with
        | nil => exact .nil
        | cons n l ih => exact .cons (.int _) ih
      have plints : ∀ l : List Nat, PlAll (l.map fun n : Nat => PyData.int (n : Int)) = true := fun l => by
        induction l with
        | nil => rfl
        | cons n l ih => rw [List.map_cons, PlAll, ih]; rfl
      refine newTD_go (K := K) (ds := [.tuple sti.parts, .tuple (sti.lines.map fun n : Nat => PyData.int (n : Int))]) (.cons (.tup (.inl (.inl (s5 _ _ upd_same))) (dpA_same (s4.trans s5) dx2)) (.cons (.tup (.inl (.inl upd_same)) (dints _ _)) .nil)) ?_ (by simp) fun pt H6 n6 s6 d6 => q _ H6 (((s03.trans s4).trans s5).trans s6) d6
      simp only [PlAll, Pl, px, plints, Bool.and_true]

end
end Own

set_option Elab.async false
set_option linter.all false
set_option maxRecDepth 100000
set_option maxHeartbeats 4000000
namespace Own
open PySem PySem.Spec PyProof.Rows L2
section
variable {P : Program} {w : World} {K : PySem.W.Frag} {mg : Str → Option Value} {base : Heap}
theorem run_app : ∀ (a b : List (Option Wk)) (st : Mst) (n : Nat), runLn st n (a ++ b) = (runLn st n a).bind fun s2 => runLn s2 (n + a.length) b
  | [], b, st, n => rfl
  | none :: a, b, st, n => by
    rw [List.cons_append, runLn, runLn, run_app a b, List.length_cons, show n + (a.length + 1) = n + 1 + a.length by omega]
  | some k :: a, b, st, n => by
    rw [List.cons_append, runLn, runLn]
    cases st.step n k with
    | none => rfl
    | some s2 =>
      show runLn s2 (n + 1) (a ++ b) = _
      rw [run_app a b, List.length_cons, show n + (a.length + 1) = n + 1 + a.length by omega]
def runW (st : Mst) (n : Nat) (ks : List Wk) : Option Mst := runLn st n (ks.map some)
theorem runW_app (a b : List Wk) (st : Mst) (n : Nat) : runW st n (a ++ b) = (runW st n a).bind fun s2 => runW s2 (n + a.length) b := by
  unfold runW
  rw [List.map_append, run_app, List.length_map]
theorem runW_cons {k : Wk} {ks : List Wk} {st s2 : Mst} {n : Nat} (h : st.step n k = some s2) : runW st n (k :: ks) = runW s2 (n + 1) ks := by
  show (match st.step n k with | some st2 => runLn st2 (n + 1) (ks.map some) | none => none) = _
  rw [h]
  rfl
def Bg.addL (b : Bg) (ds : List PyData) : Bg := match b.g2 with
  | none => { b with g1 := b.g1 ++ ds }
  | some g => { b with g2 := some (g ++ ds) }
theorem addL_nil (b : Bg) : b.addL [] = b := by
  obtain ⟨l, h, g1, g2⟩ := b
  cases g2 <;> simp [Bg.addL]
theorem addL_app (b : Bg) (x y : List PyData) : (b.addL x).addL y = b.addL (x ++ y) := by
  obtain ⟨l, h, g1, g2⟩ := b
  cases g2 <;> simp [Bg.addL]
theorem LnsW.app : ∀ {a b : List Ln} {x y : List Wk}, LnsW a x → LnsW b y → LnsW (a ++ b) (x ++ y)
  | _, _, _, _, .nil, h => h
  | _, _, _, _, .cons h t, g => .cons h (LnsW.app t g)
theorem join_one (x : Str) : Txt.join " " [x] = x := by
  rw [TL.join_eq]
  rfl
theorem enc_hd (s : Stm) : encS s = .tuple (s.hd ++ s.blocks.map fun b => PyData.tuple (encR b)) := by cases s <;> rfl
theorem stm_roles (s : Stm) : (rolesF s.first).contains "rows" = !s.blocks.isEmpty := by
  have z : ∀ f ∈ (["bind", "apart", "when", "held", "guard"] : List Str), (rolesF f).contains "rows" = true := by decide +kernel
  have y : ∀ f ∈ (["look", "call", "keep", "take", "shift", "run", "drop", "fail"] : List Str), (rolesF f).contains "rows" = false := by decide +kernel
  cases s
  case bind i v r => exact z _ (by simp [Stm.first])
  case apart r => exact z _ (by simp [Stm.first])
  case when f r1 r2 => exact z _ (by simp [Stm.first])
  case held f r1 r2 => exact z _ (by simp [Stm.first])
  case guard r1 r2 => exact z _ (by simp [Stm.first])
  all_goals exact y _ (by simp [Stm.first])
theorem stm_dv (s : Stm) : (s.blocks.length = 2 → dvK.contains s.first = true ∧ dvO s.first = some s.divider) ∧ (s.blocks.length = 1 → dvK.contains s.first = false) := by
  have z : ∀ p ∈ ([("when", "else"), ("held", "else"), ("guard", "after")] : List (Str × Str)), dvK.contains p.1 = true ∧ dvO p.1 = some p.2 := by decide +kernel
  have y : ∀ f ∈ (["bind", "apart"] : List Str), dvK.contains f = false := by decide +kernel
  cases s
  case bind i v r => exact ⟨fun h => (by simp [Stm.blocks] at h), fun _ => y _ (by simp [Stm.first])⟩
  case apart r => exact ⟨fun h => (by simp [Stm.blocks] at h), fun _ => y _ (by simp [Stm.first])⟩
  case when f r1 r2 => exact ⟨fun _ => z ("when", "else") (.head _), fun h => (by simp [Stm.blocks] at h)⟩
  case held f r1 r2 => exact ⟨fun _ => z ("held", "else") (.tail _ (.head _)), fun h => (by simp [Stm.blocks] at h)⟩
  case guard r1 r2 => exact ⟨fun _ => z ("guard", "after") (.tail _ (.tail _ (.head _))), fun h => (by simp [Stm.blocks] at h)⟩
  all_goals exact ⟨fun h => (by simp [Stm.blocks] at h), fun h => (by simp [Stm.blocks] at h)⟩
theorem stm_nopart (s : Stm) : (V_PARTS.map (·.1)).contains s.first = false := by
  have z : ∀ f ∈ V_STATEMENTS.map (·.1), (V_PARTS.map (·.1)).contains f = false := by decide +kernel
  exact z _ (first_mem s)
theorem pt_part (t : Prt) : (V_PARTS.map (·.1)).contains t.kind = true := by
  have z : ∀ f ∈ (["name", "flag", "slot", "func"] : List Str), (V_PARTS.map (·.1)).contains f = true := by decide +kernel
  exact z _ (by cases t <;> simp [Prt.kind])
theorem dv_word (s : Stm) : s.divider = "else" ∨ s.divider = "after" := by cases s <;> first | exact .inl rfl | exact .inr rfl
/-- a statement's first line -/
theorem step_hd {s : Stm} {ps : List PyData} {ls : List Nat} {B : Bg} {Bs : List Bg} {n : Nat} (few : (B :: Bs).length ≤ 9) : (⟨ps, ls, B :: Bs⟩ : Mst).step n (.hd (.st s)) = some (if s.blocks.isEmpty then ⟨ps, ls ++ [n], B.addL [encS s] :: Bs⟩ else ⟨ps, ls ++ [n], ⟨n, .st s, [], none⟩ :: B :: Bs⟩) := by
  show (if (V_PARTS.map (·.1)).contains s.first = !(B :: Bs).isEmpty then none else if (B :: Bs).length > 9 then none else if (rolesF s.first).contains "rows" then some (⟨ps, ls ++ [n], ⟨n, .st s, [], none⟩ :: B :: Bs⟩ : Mst) else some (Mst.put ⟨ps, ls ++ [n], B :: Bs⟩ (.tuple s.hd))) = _
  rw [stm_nopart, if_neg (by simp), if_neg (by omega), stm_roles]
  cases e : s.blocks with
  | nil =>
    have : encS s = .tuple s.hd := by rw [enc_hd, e]; simp
    rw [this]
    rfl
  | cons b r => rfl
theorem whole_of {s : Stm} {N : Bg} (h : N.h = .st s) (h2 : N.all = s.blocks.map encR) : N.whole = encS s := by
  unfold Bg.whole
  rw [h, h2, enc_hd, List.map_map]
  rfl
theorem step_end {ps : List PyData} {ls : List Nat} {N B : Bg} {Bs : List Bg} {n : Nat} : (⟨ps, ls, N :: B :: Bs⟩ : Mst).step n .stop = some ⟨ps, ls, B.addL [N.whole] :: Bs⟩ := rfl
theorem blk3 (st : Stm) : st.blocks = [] ∨ (∃ b, st.blocks = [b]) ∨ ∃ b d, st.blocks = [b, d] := by
  cases st <;> first | exact .inl rfl | exact .inr (.inl ⟨_, rfl⟩) | exact .inr (.inr ⟨_, _, rfl⟩)
end
end Own

set_option Elab.async false
set_option linter.all false
set_option maxRecDepth 100000
set_option maxHeartbeats 4000000
namespace Own
open PySem PySem.Spec PyProof.Rows L2
section
variable {P : Program} {w : World} {K : PySem.W.Frag} {mg : Str → Option Value} {base : Heap}
def kwL : List Str := ["look", "bind", "call", "keep", "take", "shift", "run", "drop", "apart", "when", "held", "fail", "guard", "with", "=", "of", "name", "flag", "slot", "func", "open", "own", "on", "off", "end", "else", "after"]
theorem all_cons {P : Str → Prop} {a : Str} {l : List Str} (h : P a) (t : ∀ x ∈ l, P x) : ∀ x ∈ a :: l, P x := fun x hx => by
  rcases List.mem_cons.mp hx with rfl | hx
  · exact h
  · exact t x hx
theorem all_nil {P : Str → Prop} : ∀ x ∈ ([] : List Str), P x := fun x hx => by cases hx
theorem wk_all {P : Str → Prop} (pw : ∀ x, isWord x = true → P x) (pk : ∀ x ∈ kwL, P x) {k : Wk} (o : k.ok) : ∀ x ∈ k.words, P x := by
  have I : ∀ {i : Str}, isIdent i = true → P i := fun h => pw _ (idw h)
  have C : ∀ {x : Str}, kwL.contains x = true → P x := fun h => pk _ (List.mem_of_elem_eq_true h)
  have W : ∀ {c : List Str}, (∀ i ∈ c, isIdent i = true) → ∀ x ∈ Stm.withC c, P x := fun h => by
    unfold Stm.withC
    split
    · exact all_nil
    · exact all_cons (C (by decide +kernel)) fun x hx => I (h x hx)
  cases k with
  | stop => exact all_cons (C (by decide +kernel)) all_nil
  | dv d => exact all_cons (by rcases o with rfl | rfl <;> exact C (by decide +kernel)) all_nil
  | hd h =>
    cases h with
    | pt t =>
      cases t with
      | name i x => exact all_cons (C (by decide +kernel)) (all_cons (I o.1) (all_cons (C (by decide +kernel)) (all_cons (pw _ o.2) all_nil)))
      | flag i x => exact all_cons (C (by decide +kernel)) (all_cons (I o.1) (all_cons (C (by decide +kernel)) (all_cons (by rcases o.2 with rfl | rfl <;> exact C (by decide +kernel)) all_nil)))
      | slot i x => exact all_cons (by rcases o.2 with rfl | rfl <;> exact C (by decide +kernel)) (all_cons (C (by decide +kernel)) (all_cons (I o.1) all_nil))
      | func i x rows => exact all_cons (by rcases o.2.1 with rfl | rfl <;> exact C (by decide +kernel)) (all_cons (C (by decide +kernel)) (all_cons (I o.1) all_nil))
    | st s =>
      cases s with
      | look x i => exact all_cons (C (by decide +kernel)) (all_cons (pw _ o.1) (all_cons (I o.2) all_nil))
      | bind i v r =>
        refine all_cons (C (by decide +kernel)) (all_cons (I o.1) ?_)
        have o2 := o.2
        cases v with
        | word x => exact all_cons (C (by decide +kernel)) (all_cons (pw _ o2) all_nil)
        | of j => exact all_cons (C (by decide +kernel)) (all_cons (C (by decide +kernel)) (all_cons (I o2) all_nil))
      | call i => exact all_cons (C (by decide +kernel)) (all_cons (I o) all_nil)
      | keep s f c => exact all_cons (C (by decide +kernel)) (all_cons (I o.1) (all_cons (I o.2.1) (W o.2.2.1)))
      | take s c => exact all_cons (C (by decide +kernel)) (all_cons (I o.1) (W o.2.1))
      | shift s u c => exact all_cons (C (by decide +kernel)) (all_cons (I o.1) (all_cons (I o.2.1) (W o.2.2.1)))
      | run i => exact all_cons (C (by decide +kernel)) (all_cons (I o) all_nil)
      | drop i => exact all_cons (C (by decide +kernel)) (all_cons (I o) all_nil)
      | apart r => exact all_cons (C (by decide +kernel)) all_nil
      | when f r1 r2 => exact all_cons (C (by decide +kernel)) (all_cons (I o) all_nil)
      | held f r1 r2 => exact all_cons (C (by decide +kernel)) (all_cons (I o) all_nil)
      | fail => exact all_cons (C (by decide +kernel)) all_nil
      | guard r1 r2 => exact all_cons (C (by decide +kernel)) all_nil
/-- no line end, no space, no '#', not empty, short -/
def Cln (x : Str) : Prop := ((TL.tl x).all fun c => !(c == 10 || c == 32 || c == 35)) = true ∧ x.length ≠ 0 ∧ x.length ≤ 12
theorem sgn_cln : ∀ c, sgn c = true → (!(c == 10 || c == 32 || c == 35)) = true := by
  intro c h
  cases e : (c == 10 || c == 32 || c == 35) with
  | false => rfl
  | true =>
    exfalso
    simp only [Bool.or_eq_true, beq_iff_eq] at e
    rcases e with (rfl | rfl) | rfl <;> exact absurd h (by decide +kernel)
theorem word_cln (x : Str) (h : isWord x = true) : Cln x := by
  have a := word_all h
  have l := word_len h
  refine ⟨List.all_eq_true.mpr fun c hc => sgn_cln c (List.all_eq_true.mp a c hc), by omega, l.2⟩
theorem kw_cln : ∀ x ∈ kwL, Cln x := by
  have z : ∀ x ∈ kwL, (((TL.tl x).all fun c => !(c == 10 || c == 32 || c == 35)) && (x.length != 0) && decide (x.length ≤ 12)) = true := by decide +kernel
  intro x hx
  have := z x hx
  simp only [Bool.and_eq_true, bne_iff_ne, ne_eq, decide_eq_true_eq] at this
  exact ⟨this.1.1, this.1.2, this.2⟩
theorem wk_cln {k : Wk} (o : k.ok) : ∀ x ∈ k.words, Cln x := wk_all word_cln kw_cln o
theorem cln_no {x : Str} (h : Cln x) {c : Nat} (hc : c ∈ ([10, 32, 35] : List Nat)) : c ∉ TL.tl x := fun m => by
  have := List.all_eq_true.mp h.1 c m
  simp only [List.mem_cons, List.not_mem_nil, or_false] at hc
  rcases hc with rfl | rfl | rfl <;> simp at this
theorem tl_line : TL.tl "\n" = [10] := by decide +kernel
theorem map_tl_inj : ∀ {a b : List Str}, a.map TL.tl = b.map TL.tl → a = b
  | [], [], _ => rfl
  | x :: a, y :: b, h => by
    rw [List.map_cons, List.map_cons] at h
    rw [tl_ext (List.cons.inj h).1, map_tl_inj (List.cons.inj h).2]
  | [], _ :: _, h => by cases h
  | _ :: _, [], h => by cases h
/-- lines joined and cut again -/
theorem split_lines {ds : List Str} (ne : ds ≠ []) (h : ∀ d ∈ ds, 10 ∉ TL.tl d) : Txt.split (Txt.join "\n" ds) "\n" = ds := by
  refine map_tl_inj ?_
  rw [TL.split_spl _ _ (by rw [tl_line]; simp) (TL.kind_ok (by decide +kernel)), TL.join_eq, TL.tl_join, tl_line]
  exact TL.spl_join (fun e => ne (List.map_eq_nil_iff.mp e)) fun p hp => by
    obtain ⟨d, hd, rfl⟩ := List.mem_map.mp hp
    exact h d hd
theorem spl_spaces (l : List Nat) : ∀ n, TL.spl [32] 0 [] (List.replicate n 32 ++ l) = List.replicate n [] ++ TL.spl [32] 0 [] l
  | 0 => rfl
  | n + 1 => by
    rw [List.replicate_succ, List.cons_append, List.replicate_succ, List.cons_append, ← spl_spaces l n]
    exact TL.spl_hit (by simp [TL.pre])
theorem tl_ind (n : Nat) : TL.tl (mulS "  " n) = List.replicate (2 * n) 32 := by
  rw [tl_mulS, show TL.tl "  " = [32, 32] by decide +kernel]
  induction n with
  | zero => rfl
  | succ n ih =>
    rw [List.replicate_succ, List.flatten_cons, ih, show 2 * (n + 1) = 2 * n + 1 + 1 by omega, List.replicate_succ, List.replicate_succ]
    rfl
theorem split_words {ws : List Str} (ne : ws ≠ []) (h : ∀ x ∈ ws, Cln x) (n : Nat) : Txt.split (mulS "  " n ++ Txt.join " " ws) " " = List.replicate (2 * n) ("" : Str) ++ ws := by
  refine map_tl_inj ?_
  rw [TL.split_spl _ _ (by rw [tl_space]; simp) (TL.kind_ok (by decide +kernel)), TL.join_eq, TL.tl_append, TL.tl_join, tl_space, tl_ind, spl_spaces, TL.spl_join (fun e => ne (List.map_eq_nil_iff.mp e)) (fun p hp => by
    obtain ⟨d, hd, rfl⟩ := List.mem_map.mp hp
    exact cln_no (h d hd) (by simp)), List.map_append, List.map_replicate]
  rfl
theorem wk_ne (k : Wk) : ∃ x r, k.words = x :: r := by
  cases k with
  | hd h =>
    obtain ⟨r, e⟩ := hk_first h
    exact ⟨_, r, e⟩
  | stop => exact ⟨_, _, rfl⟩
  | dv d => exact ⟨_, _, rfl⟩
theorem sw_cln {x : Str} (h : Cln x) : Txt.startswith x "#" = false := by
  cases e : Txt.startswith x "#" with
  | false => rfl
  | true =>
    exfalso
    have e2 : (decide (0 + ("#" : Str).length ≤ x.length) && (x.cps.extract 0 (0 + ("#" : Str).length) == ("#" : Str).cps)) = true := e
    rw [Bool.and_eq_true] at e2
    have e3 := congrArg Array.toList (eq_of_beq e2.2)
    have e4 : ("#" : Str).cps.toList = [35] := by decide +kernel
    rw [e4, Array.toList_extract] at e3
    have m : 35 ∈ x.cps.toList := by
      have : 35 ∈ x.cps.toList.extract 0 (0 + ("#" : Str).length) := by rw [e3]; exact .head _
      rw [List.extract_eq_take_drop] at this
      exact List.mem_of_mem_drop (List.mem_of_mem_take this)
    exact cln_no h (c := 35) (by simp) m
end
end Own

set_option Elab.async false
set_option linter.all false
set_option maxRecDepth 100000
set_option maxHeartbeats 4000000
namespace Own
open PySem PySem.Spec PyProof.Rows L2
section
variable {P : Program} {w : World} {K : PySem.W.Frag} {mg : Str → Option Value} {base : Heap}
theorem tl_emp : TL.tl Str.empty = [] := rfl
theorem mulS_0 : TL.tl (mulS "  " 0) = [] := by rw [tl_mulS]; rfl
theorem txt4 (k i x : Str) : Str.empty ++ k ++ " " ++ i ++ " = " ++ x = mulS "  " 0 ++ Txt.join " " [k, i, "=", x] := by
  refine tl_ext ?_
  have e1 : TL.tl (" = " : Str) = [32, 61, 32] := by decide +kernel
  have e2 : TL.tl ("=" : Str) = [61] := by decide +kernel
  simp only [TL.tl_append, TL.join_eq, TL.tl_join, tl_space, mulS_0, tl_emp, List.map_cons, List.map_nil, TL.joinL, e1, e2, List.nil_append, List.append_assoc, List.cons_append]
theorem txt3 (a k i : Str) : Str.empty ++ a ++ " " ++ k ++ " " ++ i = mulS "  " 0 ++ Txt.join " " [a, k, i] := by
  refine tl_ext ?_
  simp only [TL.tl_append, TL.join_eq, TL.tl_join, tl_space, mulS_0, tl_emp, List.map_cons, List.map_nil, TL.joinL, List.nil_append, List.append_assoc, List.cons_append]
theorem pt_roles : (∀ f ∈ (["name", "flag", "slot"] : List Str), (((V_PARTS.find? fun m => decide (m.1 = f)).map (·.2)).getD []).contains ("rows" : Str) = false) ∧ (((V_PARTS.find? fun m => decide (m.1 = ("func" : Str))).map (·.2)).getD []).contains ("rows" : Str) = true := by decide +kernel
theorem step_pt {t : Prt} {ps : List PyData} {ls : List Nat} {n : Nat} : (⟨ps, ls, []⟩ : Mst).step n (.hd (.pt t)) = some (if (Hk.pt t).roles.contains "rows" then ⟨ps, ls ++ [n], [⟨n, .pt t, [], none⟩]⟩ else ⟨ps ++ [.tuple t.hd], ls ++ [n], []⟩) := by
  show (if (V_PARTS.map (·.1)).contains t.kind = !([] : List Bg).isEmpty then none else if ([] : List Bg).length > 9 then none else if (Hk.pt t).roles.contains "rows" then some (⟨ps, ls ++ [n], [⟨n, .pt t, [], none⟩]⟩ : Mst) else some (Mst.put ⟨ps, ls ++ [n], []⟩ (.tuple t.hd))) = _
  rw [pt_part, if_neg (by simp), if_neg (by simp)]
  split <;> rfl
theorem spl_len : ∀ (l acc : List Nat), (TL.spl [32] 0 acc l).length = l.count 32 + 1
  | [], acc => by rw [TL.spl_nil]; rfl
  | c :: l, acc => by
    by_cases h : c = 32
    · subst h
      rw [show TL.spl [32] 0 acc (32 :: l) = acc :: TL.spl [32] 0 [] l from TL.spl_hit (by simp [TL.pre]), List.length_cons, spl_len l [], List.count_cons_self]
    · rw [show TL.spl [32] 0 acc (c :: l) = TL.spl [32] 0 (acc ++ [c]) l from TL.spl_miss (by simp [TL.pre]; omega), spl_len l (acc ++ [c]), List.count_cons_of_ne h]
theorem split_few (t : Str) : (Txt.split t " ").length ≤ t.length + 1 := by
  have e : (Txt.split t " ").length = ((Txt.split t " ").map TL.tl).length := (List.length_map _).symm
  rw [e, TL.split_spl _ _ (by rw [tl_space]; simp) (TL.kind_ok (by decide +kernel)), tl_space, spl_len, TL.len_tl]
  have := List.count_le_length (a := 32) (l := TL.tl t)
  omega
end
end Own

set_option Elab.async false
set_option linter.all false
set_option maxRecDepth 100000
set_option maxHeartbeats 4000000
namespace Own
open PySem PySem.Spec PyProof.Rows L2
section
variable {P : Program} {w : World} {K : PySem.W.Frag} {mg : Str → Option Value} {base : Heap}
theorem join_app (sep : Str) : ∀ (a b : List Str), a ≠ [] → b ≠ [] → Str.join sep (a ++ b) = Str.join sep a ++ sep ++ Str.join sep b
  | [], _, h, _ => absurd rfl h
  | [x], b, _, hb => by
    cases b with
    | nil => exact absurd rfl hb
    | cons y b => rfl
  | x :: y :: a, b, _, hb => by
    have ih := join_app sep (y :: a) b (by simp) hb
    show x ++ sep ++ Str.join sep ((y :: a) ++ b) = (x ++ sep ++ Str.join sep (y :: a)) ++ sep ++ Str.join sep b
    rw [ih]
    simp only [Str.append_assoc]
def capsOf : Stm → List Str
  | .keep _ _ c => c
  | .take _ c => c
  | .shift _ _ c => c
  | _ => []
/-- the words that are texts of the tuple itself -/
def txW : Stm → List Str
  | .look w i => ["look", w, i]
  | .bind i _ _ => ["bind", i]
  | .call i => ["call", i]
  | .keep s f _ => ["keep", s, f]
  | .take s _ => ["take", s]
  | .shift s u _ => ["shift", s, u]
  | .run s => ["run", s]
  | .drop s => ["drop", s]
  | .apart _ => ["apart"]
  | .when f _ _ => ["when", f]
  | .held s _ _ => ["held", s]
  | .fail => ["fail"]
  | .guard _ _ => ["guard"]
def strD : PyData → Str
  | .str x => x
  | _ => ""
theorem head_cases (s : Stm) : (∃ i v r, s = .bind i v r) ∨ (s.first ≠ "bind" ∧ ∃ its, encS s = .tuple its ∧ its.length ≤ 4 ∧ (its.filter isStrD).map strD = txW s ∧ (∀ d ∈ its, (∃ x, d = .str x) ∨ ∃ ds, d = .tuple ds) ∧ txW s ≠ [] ∧ (((["keep", "take", "shift"] : List Str).contains s.first = true ∧ ∃ c pre, its = pre ++ [encC c] ∧ s.words = txW s ++ Stm.withC c ∧ capsOf s = c) ∨ ((["keep", "take", "shift"] : List Str).contains s.first = false ∧ s.words = txW s))) := by
  cases s with
  | bind i v r => exact .inl ⟨_, _, _, rfl⟩
  | keep a f c => exact .inr ⟨by simp only [Stm.first]; decide +kernel, [.str "keep", .str a, .str f, encC c], rfl, by simp, rfl, by simp [encC], by simp [txW], .inl ⟨by simp only [Stm.first]; decide +kernel, c, [.str "keep", .str a, .str f], rfl, rfl, rfl⟩⟩
  | take a c => exact .inr ⟨by simp only [Stm.first]; decide +kernel, [.str "take", .str a, encC c], rfl, by simp, rfl, by simp [encC], by simp [txW], .inl ⟨by simp only [Stm.first]; decide +kernel, c, [.str "take", .str a], rfl, rfl, rfl⟩⟩
  | shift a u c => exact .inr ⟨by simp only [Stm.first]; decide +kernel, [.str "shift", .str a, .str u, encC c], rfl, by simp, rfl, by simp [encC], by simp [txW], .inl ⟨by simp only [Stm.first]; decide +kernel, c, [.str "shift", .str a, .str u], rfl, rfl, rfl⟩⟩
  | look w i => exact .inr ⟨by simp only [Stm.first]; decide +kernel, [.str "look", .str w, .str i], rfl, by simp, rfl, by simp, by simp [txW], .inr ⟨by simp only [Stm.first]; decide +kernel, rfl⟩⟩
  | call i => exact .inr ⟨by simp only [Stm.first]; decide +kernel, [.str "call", .str i], rfl, by simp, rfl, by simp, by simp [txW], .inr ⟨by simp only [Stm.first]; decide +kernel, rfl⟩⟩
  | run i => exact .inr ⟨by simp only [Stm.first]; decide +kernel, [.str "run", .str i], rfl, by simp, rfl, by simp, by simp [txW], .inr ⟨by simp only [Stm.first]; decide +kernel, rfl⟩⟩
  | drop i => exact .inr ⟨by simp only [Stm.first]; decide +kernel, [.str "drop", .str i], rfl, by simp, rfl, by simp, by simp [txW], .inr ⟨by simp only [Stm.first]; decide +kernel, rfl⟩⟩
  | apart r => exact .inr ⟨by simp only [Stm.first]; decide +kernel, [.str "apart", .tuple (encR r)], rfl, by simp, rfl, by simp, by simp [txW], .inr ⟨by simp only [Stm.first]; decide +kernel, rfl⟩⟩
  | when f r1 r2 => exact .inr ⟨by simp only [Stm.first]; decide +kernel, [.str "when", .str f, .tuple (encR r1), .tuple (encR r2)], rfl, by simp, rfl, by simp, by simp [txW], .inr ⟨by simp only [Stm.first]; decide +kernel, rfl⟩⟩
  | held f r1 r2 => exact .inr ⟨by simp only [Stm.first]; decide +kernel, [.str "held", .str f, .tuple (encR r1), .tuple (encR r2)], rfl, by simp, rfl, by simp, by simp [txW], .inr ⟨by simp only [Stm.first]; decide +kernel, rfl⟩⟩
  | fail => exact .inr ⟨by simp only [Stm.first]; decide +kernel, [.str "fail"], rfl, by simp, rfl, by simp, by simp [txW], .inr ⟨by simp only [Stm.first]; decide +kernel, rfl⟩⟩
  | guard r1 r2 => exact .inr ⟨by simp only [Stm.first]; decide +kernel, [.str "guard", .tuple (encR r1), .tuple (encR r2)], rfl, by simp, rfl, by simp, by simp [txW], .inr ⟨by simp only [Stm.first]; decide +kernel, rfl⟩⟩
theorem caps_ok {n : Nat} {s : Stm} (h : StW (n + 1) s) : CapW (capsOf s) := by
  obtain ⟨o, _⟩ := h
  cases s with
  | keep a f c => exact o.2.2
  | take a c => exact o.2
  | shift a u c => exact o.2.2
  | _ => exact ⟨(fun i hi => by cases hi), Nat.zero_le _⟩
def spLHead (K : PySem.W.Frag) : Sp := fun vs H Q _ => ∃ (v : V) (s : Stm) (n : Nat), vs = [v] ∧ Dp K H v (encS s) ∧ StW (n + 1) s ∧ ∀ H2, Same H H2 → Q (.str (Txt.join " " s.words)) H2
theorem ok_l_head (T : Txt K mg w) : FnOk P w K mg base CX0 1 T.d_l_head.a T.d_l_head.d ["_law_statement"] (spLHead K) := by
  refine T.d_l_head.F.ok sc_l_head (fun vs H Q E h => ?_) (fun cdv A outer s H vs Q E hr h => ?_)
  · obtain ⟨_, _, _, rfl, _⟩ := h
    rfl
  · obtain ⟨v, st, n, rfl, hd, hw, q⟩ := h
    have hu := hr.units
    refine ⟨_, (pss_cons (ps_set (i := 1) sc_l_head.nd rfl (Or.inl rfl) (pe_ix ix_tup (pv 0) pe_int (fun _ _ => rfl)))
      (pss_cons (ps_if (pt_cmpR op_eq (pv 1) pe_str (nomark _)) (pss_cons (ps_set (i := 2) sc_l_head.nd rfl (Or.inl rfl) (pe_ix ix_tup (pe_ix ix_tup (pv 0) pe_int (fun _ _ => rfl)) pe_int (fun _ _ => rfl)))
      (pss_cons (ps_if (pt_cmpR op_eq (pe_ix ix_tup (pe_ix ix_tup (pv 0) pe_int (fun _ _ => rfl)) pe_int (fun _ _ => rfl)) pe_str (nomark _)) (pss_one (ps_set (i := 2) sc_l_head.nd rfl (Or.inl rfl) (pe_op op_add_str pe_str (pv 2)))) pss_nil)
      (pss_one (ps_ret (pe_op op_add_str (pe_op op_add_str (pe_op op_add_str pe_str (pe_ix ix_tup (pv 0) pe_int (fun _ _ => rfl))) pe_str) (pv 2)))))) pss_nil)
      (pss_cons (ps_set (i := 3) sc_l_head.nd rfl (Or.inl rfl) (pe_join pe_str (pe_lc (own := [("_law_item_here", 4)]) (g := gName 4) (by rfl) sc_l_head.nd (pi_tup (pv 0)) (blkOk_by (own := [("_law_item_here", 4)]) (N := ["_law_statement", "_law_word_here", "_law_value", "_law_text", "_law_item_here"]) (sc := defScope s_l_head) (by decide +kernel)) (fun _ _ _ _ _ => pg_name (i := 4) sc_l_head.nd rfl (Or.inl rfl)) (fun _ _ _ _ _ => pts_one (pt_val (pe_callB callB_isi (by rfl) T.z_isinstance (by decide +kernel) (pa_cons (pv 4) (pa_cons (pe_bltn (v := .ty "str") rfl T.z_str (by decide +kernel) rfl) pa_nil))))) (fun _ _ _ _ _ => (pv 4)))))
      (pss_cons (ps_if (PW.pt (pw_and (pt_cmpR op_in_seq (pv 1) (pe_tup (pa_cons pe_str (pa_cons pe_str (pa_cons pe_str pa_nil)))) (by rfl)) (pw_and1 (pt_cmpR (op_neD hu) (pe_ix ix_tup (pv 0) (pe_un un_neg pe_int) (fun _ _ => rfl)) (pe_tup pa_nil) (nomark _))))) (pss_one (ps_ret (pe_op op_add_str (pe_op op_add_str (pv 3) pe_str) (pe_join pe_str (pe_callTy call_list_of (by rfl) T.z_list (by decide +kernel) (pa_cons (pe_ix ix_tup (pv 0) (pe_un un_neg pe_int) (fun _ _ => rfl)) pa_nil)))))) pss_nil)
      (pss_one (ps_ret (pv 3))))))), ?_⟩
    (try simp only [tIxO, rIsB, rNotB, tSeq, tIfS, tTest, tB, tOp, tUn, tVar, tC, tAsg, gName, tRet, tRetN, tCB, tCons, tNil, tLst_eq, tTup_eq, tDNewK_eq, tNext, tPar, tM0, tM1, tSl, tNoPart, tPart, rSlS, tAug, tAugS, tExf_eq, ipI, tChain, tCall, tDrop, tBM, tAnd, tOr, tNot, tAndV, tOrV, tNotV, tIf, tIsN, tNotN, rI, rI0, rU, rEq, rNe, gSub, cx_K, cx_K2, L2.start, wipe, scal_ii, scal_ss, scal_bb, scal_is, scal_si, scal_nn, List.map_cons, List.map_nil, List.length_cons, List.length_nil, List.cons_append, List.nil_append, List.append_nil, List.replicate, List.getElem?_cons_zero, List.getElem?_cons_succ, Option.some.injEq, exists_and_left, exists_eq_left', exists_eq_left, exists_eq, exists_eq', V.int.injEq, V.ref.injEq, V.str.injEq, V.bl.injEq, List.cons.injEq, and_true, true_and, false_and, exists_false, or_false, false_or, reduceCtorEq, List.set_cons_zero, List.set_cons_succ, Nat.reduceAdd, Nat.reduceSub, Int.reduceToNat, decide_eq_true_eq, if_true, if_false, Bool.false_eq_true, Bool.not_true, Bool.not_false, Bool.true_eq_false, ite_false, ite_true, ne_eq, not_false_eq_true, Int.reduceEq])
    have ws := words_sum hw.1
    have l12 : ∀ {x : Str}, isWord x = true → x.length ≤ 12 := fun h => (word_len h).2
    have big : (20100 : Nat) ≤ sizeLine := by decide
    rcases head_cases st with ⟨i, wv, r, rfl⟩ | ⟨nb, its, ee, il, ef, ek, nt, ec⟩
    · have hd2 : Dp K H v (.tuple [.str "bind", .str i, encW wv, .tuple (encR r)]) := hd
      have li : i.length ≤ 12 := l12 (ident_word hw.1.1)
      refine ixD_go (j := 0) hd2 rfl rfl fun y dy => ?_
      cases Dp.strD dy
      refine ⟨rfl, ite2 (fun _ => ?_) (fun z => absurd rfl z)⟩
      have e5 : (Str.ofString "bind ") = ("bind" : Str) ++ (" " : Str) := by decide +kernel
      have e6 : (Str.ofString " = ") = (" " : Str) ++ ("=" : Str) ++ (" " : Str) := by decide +kernel
      have e7 : (Str.ofString "of ") = ("of" : Str) ++ (" " : Str) := by decide +kernel
      have k5 : (Str.ofString "bind ").length = 5 := rfl
      have k6 : (Str.ofString " = ").length = 3 := rfl
      have k7 : (Str.ofString "of ").length = 3 := rfl
      cases wv with
      | word w2 =>
        have lw : w2.length ≤ 12 := l12 hw.1.2
        refine ixD_go (j := 2) hd2 rfl rfl fun y dy => ?_
        have dy : Dp K H y (.tuple [.str "word", .str w2]) := dy
        refine ixD_go (j := 1) dy rfl rfl fun y1 dy1 => ?_
        cases Dp.strD dy1
        refine ixD_go (j := 2) hd2 rfl rfl fun y2 dy2 => ?_
        have dy2 : Dp K H y2 (.tuple [.str "word", .str w2]) := dy2
        refine ixD_go (j := 0) dy2 rfl rfl fun y1 dy1 => ?_
        cases Dp.strD dy1
        refine ⟨rfl, ite2 (fun z => absurd z (by decide +kernel)) (fun _ => ?_)⟩
        refine ixD_go (j := 1) hd2 rfl rfl fun y1 dy1 => ?_
        cases Dp.strD dy1
        refine ⟨_, rfl, by rw [k5]; omega, by rw [len_app2, k5, k6]; omega, _, rfl, by rw [len_app2, len_app2, k5, k6]; omega, ?_⟩
        have e : Str.ofString "bind " ++ i ++ Str.ofString " = " ++ w2 = Txt.join " " (Stm.bind i (.word w2) r).words := by
          rw [TL.join_eq, e5, e6]
          show _ = ("bind" : Str) ++ (" " : Str) ++ (i ++ (" " : Str) ++ (("=" : Str) ++ (" " : Str) ++ w2))
          simp only [Str.append_assoc]
        rw [e]
        exact q _ fun _ _ e => e
      | of w2 =>
        have lw : w2.length ≤ 12 := l12 (ident_word hw.1.2)
        refine ixD_go (j := 2) hd2 rfl rfl fun y dy => ?_
        have dy : Dp K H y (.tuple [.str "of", .str w2]) := dy
        refine ixD_go (j := 1) dy rfl rfl fun y1 dy1 => ?_
        cases Dp.strD dy1
        refine ixD_go (j := 2) hd2 rfl rfl fun y2 dy2 => ?_
        have dy2 : Dp K H y2 (.tuple [.str "of", .str w2]) := dy2
        refine ixD_go (j := 0) dy2 rfl rfl fun y1 dy1 => ?_
        cases Dp.strD dy1
        refine ⟨rfl, ite2 (fun _ => ?_) (fun z => absurd rfl z)⟩
        refine ⟨_, rfl, by rw [k7]; omega, ?_⟩
        refine ixD_go (j := 1) hd2 rfl rfl fun y1 dy1 => ?_
        cases Dp.strD dy1
        refine ⟨_, rfl, by rw [k5]; omega, by rw [len_app2, k5, k6]; omega, by rw [len_app2, len_app2, len_app2, k5, k6, k7]; omega, ?_⟩
        have e : Str.ofString "bind " ++ i ++ Str.ofString " = " ++ (Str.ofString "of " ++ w2) = Txt.join " " (Stm.bind i (.of w2) r).words := by
          rw [TL.join_eq, e5, e6, e7]
          show _ = ("bind" : Str) ++ (" " : Str) ++ (i ++ (" " : Str) ++ (("=" : Str) ++ (" " : Str) ++ (("of" : Str) ++ (" " : Str) ++ w2)))
          simp only [Str.append_assoc]
        rw [e]
        exact q _ fun _ _ e => e
    · obtain ⟨ds, ef1⟩ := enc_first st
      have h0 : Dp K H v (.tuple (.str st.first :: ds)) := ef1 ▸ hd
      refine ixD_go (j := 0) h0 rfl rfl fun y dy => ?_
      cases Dp.strD dy
      refine ⟨rfl, ite2 (fun z => absurd (V.str.inj z) nb) (fun _ => ?_)⟩
      have hd2 : Dp K H v (.tuple its) := ee ▸ hd
      obtain ⟨a, xs, rfl, ha, hx⟩ := Dp.tupD hd2
      have hl := DpAll.len hx
      have hcap : CapW (capsOf st) := caps_ok hw
      have wsub : wsum (txW st) + wsum (capsOf st) ≤ 20000 := by
        rcases ec with ⟨_, c, pre, _, ew, ecp⟩ | ⟨no0, ew⟩
        · rw [ew] at ws
          rw [ecp]
          unfold wsum at ws ⊢
          rw [List.map_append, List.sum_append, List.length_append] at ws
          unfold Stm.withC at ws
          split at ws
          · rename_i h; rw [h]; simp only [List.map_nil, List.sum_nil, List.length_nil] at ws ⊢; omega
          · rw [List.map_cons, List.sum_cons, List.length_cons] at ws; omega
        · have e0 : capsOf st = [] ∨ (["keep", "take", "shift"] : List Str).contains st.first = true := by
            cases st <;> first | exact .inl rfl | exact .inr (by simp only [Stm.first]; decide +kernel)
          rcases e0 with e0 | e0
          · rw [e0, ← ew]
            show _ + 0 ≤ _
            exact ws
          · exact absurd e0 (by rw [no0]; decide)
      refine lcGi_go (walk_tup (K := K) (a := a) (xs := xs)) its isStrD (fun d => .str (strD d)) (fun R r => ⟨_, rfl, a, rfl, ⟨_, ha⟩, r⟩) (fun D H' hD v => sqT_same (ExT.toSame hD v) ha) hl (by omega) (fun k x z H' R h1 h2 s r => ?_) (fun k x z H' R h1 h2 bz s r => ?_) (fun D H2 n2 s2 rD => ?_)
      · obtain ⟨x2, hx2, dp⟩ := DpAll.at hx h2
        rw [h1] at hx2
        cases hx2
        (try simp only [tIxO, rIsB, rNotB, tSeq, tIfS, tTest, tB, tOp, tUn, tVar, tC, tAsg, gName, tRet, tRetN, tCB, tCons, tNil, tLst_eq, tTup_eq, tDNewK_eq, tNext, tPar, tM0, tM1, tSl, tNoPart, tPart, rSlS, tAug, tAugS, tExf_eq, ipI, tChain, tCall, tDrop, tBM, tAnd, tOr, tNot, tAndV, tOrV, tNotV, tIf, tIsN, tNotN, rI, rI0, rU, rEq, rNe, gSub, cx_K, cx_K2, L2.start, wipe, scal_ii, scal_ss, scal_bb, scal_is, scal_si, scal_nn, List.map_cons, List.map_nil, List.length_cons, List.length_nil, List.cons_append, List.nil_append, List.append_nil, List.replicate, List.getElem?_cons_zero, List.getElem?_cons_succ, Option.some.injEq, exists_and_left, exists_eq_left', exists_eq_left, exists_eq, exists_eq', V.int.injEq, V.ref.injEq, V.str.injEq, V.bl.injEq, List.cons.injEq, and_true, true_and, false_and, exists_false, or_false, false_or, reduceCtorEq, List.set_cons_zero, List.set_cons_succ, Nat.reduceAdd, Nat.reduceSub, Int.reduceToNat, decide_eq_true_eq, if_true, if_false, Bool.false_eq_true, Bool.not_true, Bool.not_false, Bool.true_eq_false, ite_false, ite_true, ne_eq, not_false_eq_true, Int.reduceEq])
        rcases ek z (List.mem_of_getElem? h2) with ⟨w2, rfl⟩ | ⟨ds2, rfl⟩
        · cases Dp.strD dp
          exact isi_go (.ty "str") (.base (.str _)) T.q_str_str ⟨_, rfl, r H' fun _ _ e => e⟩
        · obtain ⟨b2, ys, rfl, hb2, _⟩ := Dp.tupD (dp_same s dp)
          exact isi_go (.ty "str") (ty_tup hb2) T.q_tup_str ⟨_, rfl, r H' fun _ _ e => e⟩
      · obtain ⟨x2, hx2, dp⟩ := DpAll.at hx h2
        rw [h1] at hx2
        cases hx2
        (try simp only [tIxO, rIsB, rNotB, tSeq, tIfS, tTest, tB, tOp, tUn, tVar, tC, tAsg, gName, tRet, tRetN, tCB, tCons, tNil, tLst_eq, tTup_eq, tDNewK_eq, tNext, tPar, tM0, tM1, tSl, tNoPart, tPart, rSlS, tAug, tAugS, tExf_eq, ipI, tChain, tCall, tDrop, tBM, tAnd, tOr, tNot, tAndV, tOrV, tNotV, tIf, tIsN, tNotN, rI, rI0, rU, rEq, rNe, gSub, cx_K, cx_K2, L2.start, wipe, scal_ii, scal_ss, scal_bb, scal_is, scal_si, scal_nn, List.map_cons, List.map_nil, List.length_cons, List.length_nil, List.cons_append, List.nil_append, List.append_nil, List.replicate, List.getElem?_cons_zero, List.getElem?_cons_succ, Option.some.injEq, exists_and_left, exists_eq_left', exists_eq_left, exists_eq, exists_eq', V.int.injEq, V.ref.injEq, V.str.injEq, V.bl.injEq, List.cons.injEq, and_true, true_and, false_and, exists_false, or_false, false_or, reduceCtorEq, List.set_cons_zero, List.set_cons_succ, Nat.reduceAdd, Nat.reduceSub, Int.reduceToNat, decide_eq_true_eq, if_true, if_false, Bool.false_eq_true, Bool.not_true, Bool.not_false, Bool.true_eq_false, ite_false, ite_true, ne_eq, not_false_eq_true, Int.reduceEq])
        rcases ek z (List.mem_of_getElem? h2) with ⟨w2, rfl⟩ | ⟨ds2, rfl⟩
        · cases Dp.strD dp
          exact r H' fun _ _ e => e
        · cases bz
      · have rD : H2 D = some (.lst ((txW st).map V.str)) := by rw [rD, ← ef, List.map_map]; rfl
        have sp1 : (Str.ofString " ").length = 1 := rfl
        have jl := join_len (txW st)
        have k1 := wsub
        unfold wsum at k1
        refine ⟨D, rfl, txW st, .inl (.inl (.inl rD)), by rw [sp1]; omega, newT_go fun p3 H3 n3 s3 r3 => inT_go (l := ["keep", "take", "shift"]) (.inl (.inl r3)) ⟨_, rfl, ?_⟩⟩
        have s23 := s2.trans s3
        rcases ec with ⟨yes, c, pre, ei, ew, ecp⟩ | ⟨no, ew⟩
        · refine ite2 (fun _ => ?_) (fun z => absurd yes z)
          rw [ecp] at hcap k1
          have hd3 : Dp K H3 (.ref a) (.tuple (pre ++ [encC c])) := ei ▸ dp_same s23 hd2
          refine ixE_go (post := []) hd3 rfl fun y dy => ?_
          refine newT_go fun p4 H4 n4 s4 r4 => neT0_go (dp_same s4 dy) (.inl (.inl r4)) ((show LayD 2 (encC c) from c_lay hcap).shaped (by decide)) ⟨_, rfl, ?_⟩
          have k8 : (Str.ofString " with ").length = 6 := rfl
          have jl2 := join_len c
          refine ite2 (fun z => ?_) (fun z => ?_)
          · refine ⟨by rw [k8]; omega, ?_⟩
            refine ixE_go (post := []) (dp_same s4 hd3) rfl fun y dy => ?_
            obtain ⟨ca, cs, rfl, hca, hcs⟩ := Dp.tupD dy
            obtain rfl := strs_dp hcs
            refine ⟨ca, rfl, _, .inr hca, fun l5 n5 => ⟨c, .inl (.inl (.inl upd_same)), by rw [sp1]; omega, by rw [len_app2, k8]; omega, ?_⟩⟩
            have e8 : (Str.ofString " with ") = (" " : Str) ++ (("with" : Str) ++ (" " : Str)) := by decide +kernel
            have nc : c ≠ [] := fun h => by rw [h] at z; cases z
            have e : Txt.join (Str.ofString " ") (txW st) ++ Str.ofString " with " ++ Txt.join (Str.ofString " ") c = Txt.join " " st.words := by
              rw [ew]
              unfold Stm.withC
              rw [if_neg nc, TL.join_eq, TL.join_eq, TL.join_eq, join_app _ _ _ nt (by simp), e8]
              cases c with
              | nil => exact absurd rfl nc
              | cons c0 cs =>
                show _ = Str.join " " (txW st) ++ (" " : Str) ++ (("with" : Str) ++ (" " : Str) ++ Str.join " " (c0 :: cs))
                simp only [Str.append_assoc]
            rw [e]
            exact q _ ((s23.trans s4).trans (same_new n5))
          · have nc : c = [] := by
              cases c with
              | nil => rfl
              | cons c0 cs => exact absurd rfl z
            have e : Txt.join (Str.ofString " ") (txW st) = Txt.join " " st.words := by
              rw [ew, nc]
              show _ = Txt.join " " (txW st ++ [])
              rw [List.append_nil]
            rw [e]
            exact q _ (s23.trans s4)
        · refine ite2 (fun z => absurd z (by rw [no]; decide)) (fun _ => ?_)
          rw [← ew]
          exact q _ s23

end
end Own

set_option Elab.async false
set_option linter.all false
set_option maxRecDepth 100000
set_option maxHeartbeats 4000000
namespace Own
open PySem PySem.Spec PyProof.Rows L2
section
variable {P : Program} {w : World} {K : PySem.W.Frag} {mg : Str → Option Value} {base : Heap}
theorem mulS_snoc (x : Str) : ∀ n, mulS x (n + 1) = mulS x n ++ x := fun n => Str.ext' (by
  show (List.replicate (n + 1) x.cps).foldl (· ++ ·) #[] = _
  rw [List.replicate_succ', List.foldl_append]
  rfl)
theorem ind_in (p : List Nat) (a k : Nat) : ind (p ++ [a] ++ [k]) = ind p ++ "  " := by
  unfold ind
  rw [List.length_append, List.length_append, List.length_singleton, List.length_singleton, show (p.length + 1 + 1) / 2 = p.length / 2 + 1 by omega, mulS_snoc]
def txs (ls : List Ln) : List PyData := ls.map fun l => PyData.str l.txt
theorem txs_app (a b : List Ln) : txs (a ++ b) = txs a ++ txs b := List.map_append
theorem pl_txs : ∀ ls : List Ln, PlAll (txs ls) = true
  | [] => rfl
  | l :: ls => pl_txs ls
theorem three_blk (st : Stm) : st.blocks = [] ∨ (∃ b, st.blocks = [b]) ∨ ∃ b d, st.blocks = [b, d] := by
  rcases blk_cases st with ⟨_, b, _, e, _⟩ | ⟨_, _, b, d, _, e, _⟩ | ⟨_, _, e⟩
  · exact .inr (.inl ⟨b, e⟩)
  · exact .inr (.inr ⟨b, d, e⟩)
  · exact .inl e
theorem two_div (st : Stm) (h : st.blocks.length = 2) : st.divider = if st.first = "guard" then "after" else "else" := by
  cases st with
  | when f r1 r2 => rw [if_neg (by simp only [Stm.first]; decide +kernel)]; rfl
  | held f r1 r2 => rw [if_neg (by simp only [Stm.first]; decide +kernel)]; rfl
  | guard r1 r2 => rw [if_pos (by simp only [Stm.first])]; rfl
  | _ => cases h
def dvL (p : List Nat) (st : Stm) (j : Nat) (c : List Stm) : List Ln := if j = 1 ∧ c.isEmpty = false then [divL p st.divider] else []
theorem blk_txt (p : List Nat) {st : Stm} {j : Nat} {c : List Stm} (hj : j < st.blocks.length) (hc : st.blocks[j]? = some c) : ∃ a, blkL p st (j + 1) = blkL p st j ++ (dvL p st j c ++ linesR (p ++ [a]) 0 c) := by
  rcases three_blk st with e | ⟨b, e⟩ | ⟨b, d, e⟩
  · rw [e] at hj; cases hj
  · rw [e] at hj hc
    have j0 : j = 0 := by simp at hj; exact hj
    subst j0
    have hc : b = c := Option.some.inj hc
    subst hc
    refine ⟨st.atB, ?_⟩
    have B1 : blkL p st 1 = linesR (p ++ [st.atB]) 0 b := by unfold blkL; rw [e]; try rfl
    rw [B1]
    rfl
  · rw [e] at hj hc
    have B1 : blkL p st 1 = linesR (p ++ [st.atB]) 0 b := by unfold blkL; rw [e]; try rfl
    have B2 : blkL p st 2 = linesR (p ++ [st.atB]) 0 b ++ (if d.isEmpty then [] else divL p st.divider :: linesR (p ++ [st.atB + 1]) 0 d) := by unfold blkL; rw [e]; try rfl
    have j01 : j = 0 ∨ j = 1 := by simp at hj; omega
    rcases j01 with rfl | rfl
    · have hc : b = c := Option.some.inj hc
      subst hc
      refine ⟨st.atB, ?_⟩
      rw [B1]
      rfl
    · have hc : d = c := Option.some.inj hc
      subst hc
      refine ⟨st.atB + 1, ?_⟩
      show blkL p st 2 = _
      rw [B1, B2]
      cases d with
      | nil => rfl
      | cons x r => rfl
theorem blk_le (p : List Nat) (st : Stm) : ∀ j, j ≤ st.blocks.length → (blkL p st j).length ≤ (blkL p st st.blocks.length).length := by
  intro j hj
  have up : ∀ i, i + 1 ≤ st.blocks.length → (blkL p st i).length ≤ (blkL p st (i + 1)).length := fun i hi => by
    obtain ⟨c, hc⟩ : ∃ c, st.blocks[i]? = some c := ⟨_, List.getElem?_eq_getElem (by omega)⟩
    obtain ⟨a, e⟩ := blk_txt p (by omega) hc
    rw [e, List.length_append]
    omega
  have all : ∀ d i, i + d = st.blocks.length → (blkL p st i).length ≤ (blkL p st st.blocks.length).length := fun d => by
    induction d with
    | zero => intro i h; rw [Nat.add_zero] at h; rw [h]; exact Nat.le_refl _
    | succ d ih => exact fun i h => Nat.le_trans (up i (by omega)) (ih (i + 1) (by omega))
  exact all (st.blocks.length - j) j (by omega)
def spSLn (K : PySem.W.Frag) (n : Nat) : Sp := fun vs H Q _ => ∃ (v : V) (s : Stm) (p : List Nat), vs = [v, .str (ind p)] ∧ Dp K H v (encS s) ∧ StW n s ∧ wS s ≤ 50000 ∧ p.length + 2 * n ≤ 101 ∧ ∀ b ys H2, H b = none → Same H H2 → H2 b = some (.lst ys) → DpAll K H2 ys (txs (linesS p s)) → Q (.ref b) H2
theorem sl_zero (T : Txt K mg w) : FnOk P w K mg base CX0 2 T.d_l_statement_lines.a T.d_l_statement_lines.d ["_law_statement", "_law_pad"] (spSLn K 0) :=
  T.d_l_statement_lines.F.ok sc_l_statement_lines (fun vs H Q E h => by obtain ⟨_, _, _, _, _, h, _⟩ := h; exact h.elim) (fun cdv A outer s H vs Q E hr h => by obtain ⟨_, _, _, _, _, h, _⟩ := h; exact h.elim)
theorem sl_succ (T : Txt K mg w) {n : Nat} (hn : n ≤ 20) (ih : FnOk P w K mg base CX0 (n + 2) T.d_l_statement_lines.a T.d_l_statement_lines.d ["_law_statement", "_law_pad"] (spSLn K n)) : FnOk P w K mg base CX0 (n + 3) T.d_l_statement_lines.a T.d_l_statement_lines.d ["_law_statement", "_law_pad"] (spSLn K (n + 1)) := by
  refine T.d_l_statement_lines.F.ok sc_l_statement_lines (fun vs H Q E h => ?_) (fun cdv A outer s H vs Q E hr h => ?_)
  · obtain ⟨_, _, _, rfl, _⟩ := h
    rfl
  · obtain ⟨v, st, p, rfl, hd, hw, l50, lp, q⟩ := h
    have hu := hr.units
    refine ⟨_, (pss_cons (ps_set (i := 2) sc_l_statement_lines.nd rfl (Or.inl rfl) (pe_lst (pa_cons (pe_op op_add_str (pv 1) (pe_call (ok_l_head T) (hr.mono (by omega)) (by rfl) T.d_l_head.g T.d_l_head.F.kp T.d_l_head.b .nil pass0 (pa_cons (pv 0) pa_nil))) pa_nil)))
      (pss_cons (ps_set (i := 3) sc_l_statement_lines.nd rfl (Or.inl rfl) (pe_call (ok_l_blocks T) (hr.mono (by omega)) (by rfl) T.d_l_blocks.g T.d_l_blocks.F.kp T.d_l_blocks.b .nil pass0 (pa_cons (pv 0) pa_nil)))
      (pss_cons (ps_for PassesOwn.never rfl (pi_range1 (by rfl) T.z_range (pa_cons (pe_callB call_lenL (by rfl) T.z_len (by decide +kernel) (pa_cons (pv 3) pa_nil)) pa_nil)) (pg_name (i := 4) sc_l_statement_lines.nd rfl (Or.inl rfl)) (pss_cons (ps_if (PW.pt (pw_and (pt_cmpR op_eq (pv 4) pe_int (nomark _)) (pw_and1 (pt_cmpR (op_neD hu) (pe_ix ix_list (pv 3) pe_int (fun _ _ => rfl)) (pe_tup pa_nil) (nomark _))))) (pss_one (ps_expr (pe_bm PySem.F.plainAttrs_list PySem.F.slot_list_append PySem.F.type_list_append mt_append (pv 2) (pa_cons (pe_op op_add_str (pv 1) (pe_ix ix_list (pe_lst (pa_cons pe_str (pa_cons pe_str pa_nil))) (pe_callTy call_intB (by rfl) T.z_int (by decide +kernel) (pa_cons (pe_cmpR op_eq (pe_ix ix_tup (pv 0) pe_int (fun _ _ => rfl)) pe_str (nomark _)) pa_nil)) (fun _ _ => rfl))) pa_nil)))) pss_nil)
      (pss_one (ps_for PassesOwn.never rfl (pi_tup (pe_ix ix_list (pv 3) (pv 4) (fun _ _ => rfl))) (pg_name (i := 5) sc_l_statement_lines.nd rfl (Or.inl rfl)) (pss_one (ps_expr (pe_bm PySem.F.plainAttrs_list PySem.F.slot_list_extend PySem.F.type_list_extend mt_extend (pv 2) (pa_cons (pe_call ih (hr.mono (by omega)) (by rfl) T.d_l_statement_lines.g T.d_l_statement_lines.F.kp T.d_l_statement_lines.b .nil pass0 (pa_cons (pv 5) (pa_cons (pe_op op_add_str (pv 1) pe_str) pa_nil))) pa_nil))))))))
      (pss_cons (ps_if (pt_cmpR (op_neNil hu) (pv 3) (pe_lst pa_nil) (nomark _)) (pss_one (ps_expr (pe_bm PySem.F.plainAttrs_list PySem.F.slot_list_append PySem.F.type_list_append mt_append (pv 2) (pa_cons (pe_op op_add_str (pv 1) pe_str) pa_nil)))) pss_nil)
      (pss_one (ps_ret (pv 2))))))), ?_⟩
    (try simp only [tIxO, rIsB, rNotB, tSeq, tIfS, tTest, tB, tOp, tUn, tVar, tC, tAsg, gName, tRet, tRetN, tCB, tCons, tNil, tLst_eq, tTup_eq, tDNewK_eq, tNext, tPar, tM0, tM1, tSl, tNoPart, tPart, rSlS, tAug, tAugS, tExf_eq, ipI, tChain, tCall, tDrop, tBM, tAnd, tOr, tNot, tAndV, tOrV, tNotV, tIf, tIsN, tNotN, rI, rI0, rU, rEq, rNe, gSub, cx_K, cx_K2, L2.start, wipe, scal_ii, scal_ss, scal_bb, scal_is, scal_si, scal_nn, List.map_cons, List.map_nil, List.length_cons, List.length_nil, List.cons_append, List.nil_append, List.append_nil, List.replicate, List.getElem?_cons_zero, List.getElem?_cons_succ, Option.some.injEq, exists_and_left, exists_eq_left', exists_eq_left, exists_eq, exists_eq', V.int.injEq, V.ref.injEq, V.str.injEq, V.bl.injEq, List.cons.injEq, and_true, true_and, false_and, exists_false, or_false, false_or, reduceCtorEq, List.set_cons_zero, List.set_cons_succ, Nat.reduceAdd, Nat.reduceSub, Int.reduceToNat, decide_eq_true_eq, if_true, if_false, Bool.false_eq_true, Bool.not_true, Bool.not_false, Bool.true_eq_false, ite_false, ite_true, ne_eq, not_false_eq_true, Int.reduceEq])
    have ws := words_sum hw.1
    have jl := join_len st.words
    unfold wsum at ws
    have il : (ind p).length ≤ 200 := by
      have e : ("  " : Str).length = 2 := rfl
      rw [ind, len_mulS, e]
      omega
    have big : (20300 : Nat) ≤ sizeLine := by decide
    have tot : (blkL p st st.blocks.length).length + 1 ≤ wS st := by
      have := len_S p st
      rw [blkL_end, List.length_cons, List.length_append] at this
      omega
    refine ⟨v, st, n, rfl, hd, hw, fun H1 s1 => ⟨_, rfl, by omega, newL_go fun F H2 n2 s2 r2 => ?_⟩⟩
    have A2 : AccD K H F (txs [hdL p st]) H2 := ⟨none_same s1 n2, s1.trans s2, ⟨_, r2, .cons (.str _) .nil⟩, rfl, by simp [txs]⟩
    refine ⟨v, st, rfl, dp_same A2.same hd, fun b ys H3 n3 s3 r3 d3 => ?_⟩
    have A3 := A2.grow s3
    have nbF : b ≠ F := by
      rintro rfl
      rw [r2] at n3
      cases n3
    have hyl := DpAll.len d3
    rw [List.length_map] at hyl
    have plB : PlAll (st.blocks.map fun b => PyData.tuple (encR b)) = true := by
      clear d3 hyl tot
      induction st.blocks with
      | nil => rfl
      | cons x l ih => rw [List.map_cons, PlAll, ih]; simp only [Pl, pl_r, Bool.and_self]
    have few2 : st.blocks.length ≤ 2 := (blocks_le st).1
    refine forR_go (n := st.blocks.length) (fun R r => ⟨_, rfl, _, rfl, _, .inl (.inl r3), by rw [hyl]; exact r⟩) (by omega) (fun j σ3 H6 => ∃ o4 o5 : Option V, AccD K H F (txs (hdL p st :: blkL p st j)) H6 ∧ ExT F H3 H6 ∧ σ3 = [some v, some (.str (ind p)), some (.ref F), some (.ref b), o4, o5]) ⟨none, none, A3, .refl F H3, rfl⟩ ?_ ?_
    · rintro j σ3 H6 hj ⟨o4, o5, A6, v6, rfl⟩
      obtain ⟨c, hc⟩ : ∃ c, st.blocks[j]? = some c := ⟨_, List.getElem?_eq_getElem hj⟩
      obtain ⟨y, hy, dy⟩ := DpAll.at d3 (show (st.blocks.map fun b => PyData.tuple (encR b))[j]? = some (.tuple (encR c)) by rw [List.getElem?_map, hc]; rfl)
      have cw := hw.2 c (List.mem_of_getElem? hc)
      obtain ⟨a, ea⟩ := blk_txt p hj hc
      have bl := blk_le p st (j + 1) hj
      (try simp only [tIxO, rIsB, rNotB, tSeq, tIfS, tTest, tB, tOp, tUn, tVar, tC, tAsg, gName, tRet, tRetN, tCB, tCons, tNil, tLst_eq, tTup_eq, tDNewK_eq, tNext, tPar, tM0, tM1, tSl, tNoPart, tPart, rSlS, tAug, tAugS, tExf_eq, ipI, tChain, tCall, tDrop, tBM, tAnd, tOr, tNot, tAndV, tOrV, tNotV, tIf, tIsN, tNotN, rI, rI0, rU, rEq, rNe, gSub, cx_K, cx_K2, L2.start, wipe, scal_ii, scal_ss, scal_bb, scal_is, scal_si, scal_nn, List.map_cons, List.map_nil, List.length_cons, List.length_nil, List.cons_append, List.nil_append, List.append_nil, List.replicate, List.getElem?_cons_zero, List.getElem?_cons_succ, Option.some.injEq, exists_and_left, exists_eq_left', exists_eq_left, exists_eq, exists_eq', V.int.injEq, V.ref.injEq, V.str.injEq, V.bl.injEq, List.cons.injEq, and_true, true_and, false_and, exists_false, or_false, false_or, reduceCtorEq, List.set_cons_zero, List.set_cons_succ, Nat.reduceAdd, Nat.reduceSub, Int.reduceToNat, decide_eq_true_eq, if_true, if_false, Bool.false_eq_true, Bool.not_true, Bool.not_false, Bool.true_eq_false, ite_false, ite_true, ne_eq, not_false_eq_true, Int.reduceEq])
      have v3 := v6
      have r6 := v6 _ _ nbF r3
      have grow : ∀ {H7 : Hp}, Same H6 H7 → ExT F H3 H7 := fun s7 => v6.same s7
      have noDv : ∀ {H7 : Hp}, dvL p st j c = [] → AccD K H F (txs (hdL p st :: blkL p st j)) H7 → AccD K H F (txs (hdL p st :: (blkL p st j ++ dvL p st j c))) H7 := fun e A => by
        rw [e, List.append_nil]
        exact A
      have dy3 : Dp K H3 y (.tuple (encR c)) := dy
      obtain ⟨ca, cs, rfl, hca, hcx⟩ := Dp.tupD dy3
      have hcl := DpAll.len hcx
      rw [encR_len] at hcl
      have lw : wR c + (dvL p st j c).length + (blkL p st j).length ≤ (blkL p st st.blocks.length).length := by
        have := bl
        rw [ea, List.length_append, List.length_append, len_R] at this
        omega
      have fin : ∀ (D : Ends) (o5 : Option V) (H7 : Hp), AccD K H F (txs (hdL p st :: (blkL p st j ++ dvL p st j c))) H7 → ExT F H3 H7 → (∀ o H8, AccD K H F (txs (hdL p st :: blkL p st (j + 1))) H8 → ExT F H3 H8 → D.nx [some v, some (.str (ind p)), some (.ref F), some (.ref b), some (.int (j : Int)), o] H8) →
          tFor (iTup K (tOp (rIxL K) (tVar 3) (tVar 4))) (gName 5) (tDrop (tBM K "list" rExtend (tVar 2) (tCons (tCall (spSLn K n) [] E0 (tCons (tVar 5) (tCons (tOp (fun x y H Q => ∃ i, x = V.str i ∧ ∃ x, y = V.str x ∧ i.length + x.length ≤ sizeLine ∧ Q (V.str (i ++ x)) H) (tVar 1) (tC (V.str (Str.ofString "  ")))) tNil))) tNil))) D [some v, some (.str (ind p)), some (.ref F), some (.ref b), some (.int (j : Int)), o5] H7 := by
        intro D o5 H7 A7 v7 k
        have eL : ∀ i, txs (hdL p st :: (blkL p st j ++ dvL p st j c)) ++ txs (linesR (p ++ [a]) 0 (c.take i)) = txs (hdL p st :: (blkL p st j ++ (dvL p st j c ++ linesR (p ++ [a]) 0 (c.take i)))) := fun i => by rw [← txs_app, List.cons_append, List.append_assoc]
        refine forTW_go (K := K) (a := ca) (xs := cs) (fun i σ2 H2 => ∃ o, AccD K H F (txs (hdL p st :: (blkL p st j ++ dvL p st j c)) ++ txs (linesR (p ++ [a]) 0 (c.take i))) H2 ∧ ExT F H3 H2 ∧ σ2 = [some v, some (.str (ind p)), some (.ref F), some (.ref b), some (.int (j : Int)), o]) (fun R r => ⟨_, rfl, _, rfl, ixM_go (v7 _ _ nbF r3) (atI_nat hy) ⟨ca, rfl, ⟨_, SqT.tu (A3.tu v7) hca⟩, r⟩⟩) (fun i σ2 H2 _ pv => ?_) ⟨o5, ?_, v7, rfl⟩ (fun i x σ2 H2 e1 pv => ?_) (fun σ2 H2 pv => ?_)
        · obtain ⟨_, _, v8, _⟩ := pv
          exact SqT.tu (A3.tu v8) hca
        · rw [List.take_zero, linesR]
          show AccD K H F (_ ++ []) H7
          rw [List.append_nil]
          exact A7
        · obtain ⟨o, A8, v8, rfl⟩ := pv
          have hi : i < cs.length := (List.getElem?_eq_some_iff.mp e1).1
          obtain ⟨s1, hs1⟩ : ∃ s1, c[i]? = some s1 := ⟨_, List.getElem?_eq_getElem (by omega)⟩
          obtain ⟨x2, hx2, dx⟩ := DpAll.at hcx (show (encR c)[i]? = some (encS s1) by rw [encR_map, List.getElem?_map, hs1]; rfl)
          rw [e1] at hx2
          cases hx2
          have dx8 := Dp.keep (A3.tu v8) dx (pl_s s1)
          have tk : c.take (i + 1) = c.take i ++ [s1] := by rw [List.take_add_one, hs1]; rfl
          have htl : (c.take i).length = i := by rw [List.length_take]; omega
          have wk : wR (c.take (i + 1)) = wR (c.take i) + wS s1 := by rw [tk, wR_app, wR, wR, Nat.add_zero]
          have w1 : wR (c.take (i + 1)) ≤ wR c := by
            have e := wR_app (c.take (i + 1)) (c.drop (i + 1))
            rw [List.take_append_drop] at e
            omega
          have k2 : (Str.ofString "  ").length = 2 := rfl
          (try simp only [tIxO, rIsB, rNotB, tSeq, tIfS, tTest, tB, tOp, tUn, tVar, tC, tAsg, gName, tRet, tRetN, tCB, tCons, tNil, tLst_eq, tTup_eq, tDNewK_eq, tNext, tPar, tM0, tM1, tSl, tNoPart, tPart, rSlS, tAug, tAugS, tExf_eq, ipI, tChain, tCall, tDrop, tBM, tAnd, tOr, tNot, tAndV, tOrV, tNotV, tIf, tIsN, tNotN, rI, rI0, rU, rEq, rNe, gSub, cx_K, cx_K2, L2.start, wipe, scal_ii, scal_ss, scal_bb, scal_is, scal_si, scal_nn, List.map_cons, List.map_nil, List.length_cons, List.length_nil, List.cons_append, List.nil_append, List.append_nil, List.replicate, List.getElem?_cons_zero, List.getElem?_cons_succ, Option.some.injEq, exists_and_left, exists_eq_left', exists_eq_left, exists_eq, exists_eq', V.int.injEq, V.ref.injEq, V.str.injEq, V.bl.injEq, List.cons.injEq, and_true, true_and, false_and, exists_false, or_false, false_or, reduceCtorEq, List.set_cons_zero, List.set_cons_succ, Nat.reduceAdd, Nat.reduceSub, Int.reduceToNat, decide_eq_true_eq, if_true, if_false, Bool.false_eq_true, Bool.not_true, Bool.not_false, Bool.true_eq_false, ite_false, ite_true, ne_eq, not_false_eq_true, Int.reduceEq])
          refine ⟨A8.ty, by rw [k2]; omega, x, s1, p ++ [a] ++ [i], by rw [ind_in], dx8, cw.2 s1 (List.mem_of_getElem? hs1), by omega, by simp only [List.length_append, List.length_append, List.length_singleton, List.length_singleton]; omega, fun b2 ys2 H9 n9 s9 r9 d9 => ?_⟩
          refine (A8.grow s9).ext_go r9 d9 (pl_txs _) ?_ fun H10 A10 v10 => ⟨?_, (v8.same s9).trans v10⟩
          · rw [eL, ← txs_app, txs, List.length_map, List.length_append, List.length_cons, List.length_append, List.length_append, len_R, len_S]
            omega
          · rw [tk, linesR_snoc, txs_app, htl, Nat.zero_add, ← List.append_assoc]
            exact A10
        · obtain ⟨o, A8, v8, rfl⟩ := pv
          rw [eL, List.take_of_length_le (by omega), ← ea] at A8
          exact k o H2 A8 v8
      by_cases j1 : j = 1
      · subst j1
        refine ite2 (fun _ => ?_) (fun z => absurd rfl z)
        refine ixM_go r6 (atI_nat hy) (newT_go fun e H7 n7 s7 r7 => neT0_go (dp_same s7 (Dp.keep (A3.tu v6) dy3 (by simp only [Pl, pl_r]))) (.inl (.inl r7)) ((lay_r cw.2).shaped (by omega)) ⟨_, rfl, ?_⟩)
        have A7' := A6.grow s7
        have v7' := v6.same s7
        refine ite2 (fun z => ?_) (fun z => ?_)
        · have nc : c.isEmpty = false := by cases c with
            | nil => cases z
            | cons _ _ => rfl
          have ed : dvL p st 1 c = [divL p st.divider] := if_pos ⟨rfl, nc⟩
          have len2 : st.blocks.length = 2 := by omega
          obtain ⟨ds, ef⟩ := enc_first st
          refine ⟨A7'.ty, newL_go fun e2 H8 n8 s8 r8 => ?_⟩
          have h0 : Dp K H8 v (.tuple (.str st.first :: ds)) := ef ▸ dp_same (A7'.grow s8).same hd
          refine ixD_go (j := 0) h0 rfl rfl fun y dy => ?_
          cases Dp.strD dy
          have tx : ∃ k : Nat, (if (V.str st.first) = V.str (Str.ofString "guard") then (1 : Int) else 0) = (k : Int) ∧ ([V.str (Str.ofString "else"), V.str (Str.ofString "after")] : List V)[k]? = some (.str st.divider) := by
            rw [two_div st len2]
            by_cases g : st.first = "guard"
            · exact ⟨1, if_pos (by rw [g]), by rw [if_pos g]; rfl⟩
            · exact ⟨0, if_neg (fun z => g (V.str.inj z)), by rw [if_neg g]; rfl⟩
          obtain ⟨k, ek, hk⟩ := tx
          refine ⟨rfl, ?_⟩
          rw [ek]
          have dl : st.divider.length ≤ 5 := by
            rw [two_div st len2]
            split <;> decide +kernel
          refine ixM_go r8 (atI_nat hk) ⟨_, rfl, by omega, (A7'.grow s8).app_go (l := .str (ind p ++ st.divider)) (.str _) rfl (by rw [List.length_append, txs, List.length_map, List.length_cons, List.length_singleton]; omega) fun H9 A9 v9 => ?_⟩
          have A7 : AccD K H F (txs (hdL p st :: (blkL p st 1 ++ dvL p st 1 c))) H9 := by
            rw [ed, ← List.cons_append, txs_app]
            exact A9
          have v7 := (v7'.same s8).trans v9
          exact fin _ _ _ A7 v7 fun o H8 A v => ⟨A, v, _, _, rfl⟩
        · have ed : dvL p st 1 c = [] := if_neg (by cases c with
            | nil => simp
            | cons _ _ => exact absurd rfl z)
          have A7 := noDv ed A7'
          have v7 := v7'
          exact fin _ _ _ A7 v7 fun o H8 A v => ⟨A, v, _, _, rfl⟩
      · refine ite2 (fun z => absurd (by omega) j1) (fun _ => ?_)
        have A7 := noDv (if_neg fun h => j1 h.1) A6
        have v7 := v6
        exact fin _ _ _ A7 v7 fun o H8 A v => ⟨A, v, _, _, rfl⟩
    · rintro σ3 H6 ⟨o4, o5, A6, v6, rfl⟩
      (try simp only [tIxO, rIsB, rNotB, tSeq, tIfS, tTest, tB, tOp, tUn, tVar, tC, tAsg, gName, tRet, tRetN, tCB, tCons, tNil, tLst_eq, tTup_eq, tDNewK_eq, tNext, tPar, tM0, tM1, tSl, tNoPart, tPart, rSlS, tAug, tAugS, tExf_eq, ipI, tChain, tCall, tDrop, tBM, tAnd, tOr, tNot, tAndV, tOrV, tNotV, tIf, tIsN, tNotN, rI, rI0, rU, rEq, rNe, gSub, cx_K, cx_K2, L2.start, wipe, scal_ii, scal_ss, scal_bb, scal_is, scal_si, scal_nn, List.map_cons, List.map_nil, List.length_cons, List.length_nil, List.cons_append, List.nil_append, List.append_nil, List.replicate, List.getElem?_cons_zero, List.getElem?_cons_succ, Option.some.injEq, exists_and_left, exists_eq_left', exists_eq_left, exists_eq, exists_eq', V.int.injEq, V.ref.injEq, V.str.injEq, V.bl.injEq, List.cons.injEq, and_true, true_and, false_and, exists_false, or_false, false_or, reduceCtorEq, List.set_cons_zero, List.set_cons_succ, Nat.reduceAdd, Nat.reduceSub, Int.reduceToNat, decide_eq_true_eq, if_true, if_false, Bool.false_eq_true, Bool.not_true, Bool.not_false, Bool.true_eq_false, ite_false, ite_true, ne_eq, not_false_eq_true, Int.reduceEq])
      refine newL_go fun e H7 n7 s7 r7 => eqNilX_go (.inl (.inl (s7 _ _ (v6 _ _ nbF r3)))) (.inl (.inl r7)) ⟨_, rfl, ?_⟩
      have A7 := A6.grow s7
      have eb : ys.isEmpty = st.blocks.isEmpty := by
        cases ys <;> cases h : st.blocks <;> first | rfl | (rw [h] at hyl; cases hyl)
      have fin : ∀ {H8 : Hp} {ls : List Ln}, AccD K H F (txs ls) H8 → ls = linesS p st → Q (.ref F) H8 := fun A e => by
        subst e
        obtain ⟨zs, r, d⟩ := A.ex
        exact q F zs _ A.new A.same r d
      have k3 : (Str.ofString "end").length = 3 := rfl
      rw [eb]
      refine ite2 (fun z => ?_) (fun z => ?_)
      · have ne : st.blocks.isEmpty = false := by simpa using z
        refine ⟨A7.ty, by rw [k3]; omega, A7.app_go (l := .str (ind p ++ "end")) (.str _) rfl (by rw [List.length_append, txs, List.length_map, List.length_cons, List.length_singleton]; omega) fun H8 A8 _ => fin (ls := (hdL p st :: blkL p st st.blocks.length) ++ [endL p]) (by rw [txs_app]; exact A8) ?_⟩
        rw [blkL_end, ne]
        simp
      · have ne : st.blocks.isEmpty = true := by simpa using z
        refine fin A7 ?_
        rw [blkL_end, ne]
        simp
theorem sl_all (T : Txt K mg w) : ∀ n, n ≤ 21 → FnOk P w K mg base CX0 (n + 2) T.d_l_statement_lines.a T.d_l_statement_lines.d ["_law_statement", "_law_pad"] (spSLn K n) := by
  intro n
  induction n with
  | zero => exact fun _ => sl_zero T
  | succ n ih => exact fun h => sl_succ T (by omega) (ih (by omega))

end
end Own

set_option Elab.async false
set_option linter.all false
set_option maxRecDepth 100000
set_option maxHeartbeats 4000000
namespace Own
open PySem PySem.Spec PyProof.Rows L2
section
variable {P : Program} {w : World} {K : PySem.W.Frag} {mg : Str → Option Value} {base : Heap}
theorem ok_l_statement_lines (T : Txt K mg w) : FnOk P w K mg base CX0 11 T.d_l_statement_lines.a T.d_l_statement_lines.d ["_law_statement", "_law_pad"] (spSLn K 9) := sl_all T 9 (by decide)
theorem emp_app (x : Str) : Str.empty ++ x = x := Str.ext' (by show #[] ++ x.cps = x.cps; simp)
theorem ptw_words {t : Prt} (h : PtW t) : t.ident.length ≤ 12 := (word_len (ident_word (by cases t <;> exact h.1))).2
theorem forLT_go {K : PySem.W.Frag} {a : Addr} {xs : List V} {wi : TI} {g : TG} {tb : TS} {D : Ends} {σ : L2.St} {H : Hp} (Pv : Nat → L2.St → Hp → Prop) (ht : ∀ R : It → Hp → Prop, R (Itl K a) H → wi σ H R) (hG : ∀ i σ2 H2, i ≤ xs.length → Pv i σ2 H2 → SqL K H2 a xs) (h0 : Pv 0 σ H)
    (hs : ∀ i x σ2 H2, xs[i]? = some x → Pv i σ2 H2 → g x σ2 H2 fun σ3 H3 => tb { D with nx := Pv (i + 1), ct := Pv (i + 1), bk := D.nx } σ3 H3) (hd : ∀ σ2 H2, Pv xs.length σ2 H2 → D.nx σ2 H2) : tFor wi g tb D σ H :=
  ht _ (for_it (walk_list (K := K) (a := a) (xs := xs)) Pv h0 hG (fun i x σ2 H2 H3 hi p y => by
    obtain ⟨rfl, hx⟩ := y
    exact hs i x σ2 _ hx p) hd)
def spLLines (K : PySem.W.Frag) : Sp := fun vs H Q _ => ∃ (a : Addr) (xs : List V) (ps : List Prt), vs = [.ref a] ∧ SqL K H a xs ∧ DpAll K H xs (ps.map encPt) ∧ PsW ps ∧ (partsL 0 ps).length ≤ 50000 ∧ ∀ b ys H2, H b = none → Same H H2 → H2 b = some (.lst ys) → DpAll K H2 ys (txs (partsL 0 ps)) → Q (.ref b) H2
theorem ok_l_lines (T : Txt K mg w) : FnOk P w K mg base CX0 12 T.d_l_lines.a T.d_l_lines.d ["_law_parts_here"] (spLLines K) := by
  refine T.d_l_lines.F.ok sc_l_lines (fun vs H Q E h => ?_) (fun cdv A outer s H vs Q E hr h => ?_)
  · obtain ⟨_, _, _, rfl, _⟩ := h
    rfl
  · obtain ⟨a, xs, ps, rfl, ha, hx, pw, l50, q⟩ := h
    have hu := hr.units
    refine ⟨_, (pss_cons (ps_set (i := 1) sc_l_lines.nd rfl (Or.inl rfl) (pe_lst pa_nil))
      (pss_cons (ps_for PassesOwn.never rfl (pi_list (pv 0)) (pg_name (i := 2) sc_l_lines.nd rfl (Or.inl rfl)) (pss_cons (ps_if (pt_cmpR op_in_seq (pe_ix ix_tup (pv 2) pe_int (fun _ _ => rfl)) (pe_tup (pa_cons pe_str (pa_cons pe_str pa_nil))) (by rfl)) (pss_one (ps_expr (pe_bm PySem.F.plainAttrs_list PySem.F.slot_list_append PySem.F.type_list_append mt_append (pv 1) (pa_cons (pe_op op_add_str (pe_op op_add_str (pe_op op_add_str (pe_op op_add_str (pe_ix ix_tup (pv 2) pe_int (fun _ _ => rfl)) pe_str) (pe_ix ix_tup (pv 2) pe_int (fun _ _ => rfl))) pe_str) (pe_ix ix_tup (pv 2) pe_int (fun _ _ => rfl))) pa_nil)))) (pss_one (ps_expr (pe_bm PySem.F.plainAttrs_list PySem.F.slot_list_append PySem.F.type_list_append mt_append (pv 1) (pa_cons (pe_op op_add_str (pe_op op_add_str (pe_op op_add_str (pe_op op_add_str (pe_ix ix_tup (pv 2) pe_int (fun _ _ => rfl)) pe_str) (pe_ix ix_tup (pv 2) pe_int (fun _ _ => rfl))) pe_str) (pe_ix ix_tup (pv 2) pe_int (fun _ _ => rfl))) pa_nil)))))
      (pss_one (ps_if (pt_cmpR op_eq (pe_ix ix_tup (pv 2) pe_int (fun _ _ => rfl)) pe_str (nomark _)) (pss_cons (ps_for PassesOwn.never rfl (pi_tup (pe_ix ix_tup (pv 2) pe_int (fun _ _ => rfl))) (pg_name (i := 3) sc_l_lines.nd rfl (Or.inl rfl)) (pss_one (ps_expr (pe_bm PySem.F.plainAttrs_list PySem.F.slot_list_extend PySem.F.type_list_extend mt_extend (pv 1) (pa_cons (pe_call (ok_l_statement_lines T) (hr.mono (by decide)) (by rfl) T.d_l_statement_lines.g T.d_l_statement_lines.F.kp T.d_l_statement_lines.b .nil pass0 (pa_cons (pv 3) (pa_cons pe_str pa_nil))) pa_nil)))))
      (pss_one (ps_expr (pe_bm PySem.F.plainAttrs_list PySem.F.slot_list_append PySem.F.type_list_append mt_append (pv 1) (pa_cons pe_str pa_nil))))) pss_nil))))
      (pss_one (ps_ret (pv 1))))), ?_⟩
    (try simp only [tIxO, rIsB, rNotB, tSeq, tIfS, tTest, tB, tOp, tUn, tVar, tC, tAsg, gName, tRet, tRetN, tCB, tCons, tNil, tLst_eq, tTup_eq, tDNewK_eq, tNext, tPar, tM0, tM1, tSl, tNoPart, tPart, rSlS, tAug, tAugS, tExf_eq, ipI, tChain, tCall, tDrop, tBM, tAnd, tOr, tNot, tAndV, tOrV, tNotV, tIf, tIsN, tNotN, rI, rI0, rU, rEq, rNe, gSub, cx_K, cx_K2, L2.start, wipe, scal_ii, scal_ss, scal_bb, scal_is, scal_si, scal_nn, List.map_cons, List.map_nil, List.length_cons, List.length_nil, List.cons_append, List.nil_append, List.append_nil, List.replicate, List.getElem?_cons_zero, List.getElem?_cons_succ, Option.some.injEq, exists_and_left, exists_eq_left', exists_eq_left, exists_eq, exists_eq', V.int.injEq, V.ref.injEq, V.str.injEq, V.bl.injEq, List.cons.injEq, and_true, true_and, false_and, exists_false, or_false, false_or, reduceCtorEq, List.set_cons_zero, List.set_cons_succ, Nat.reduceAdd, Nat.reduceSub, Int.reduceToNat, decide_eq_true_eq, if_true, if_false, Bool.false_eq_true, Bool.not_true, Bool.not_false, Bool.true_eq_false, ite_false, ite_true, ne_eq, not_false_eq_true, Int.reduceEq])
    have hl := DpAll.len hx
    rw [List.length_map] at hl
    refine newL_go fun F H1 n1 s1 r1 => ?_
    have A1 : AccD K H F [] H1 := ⟨n1, s1, ⟨[], r1, .nil⟩, rfl, Nat.zero_le _⟩
    refine forLT_go (K := K) (a := a) (xs := xs) (fun i σ2 H2 => ∃ o2 o3 : Option V, AccD K H F (txs (partsL 0 (ps.take i))) H2 ∧ σ2 = [some (.ref a), some (.ref F), o2, o3]) (fun R r => ⟨_, rfl, a, rfl, ⟨_, sq_same s1 ha⟩, r⟩) (fun i σ2 H2 _ pv => by obtain ⟨_, _, A2, _⟩ := pv; exact sq_same A2.same ha) ⟨none, none, A1, rfl⟩ (fun i x σ2 H2 e1 pv => ?_) (fun σ2 H2 pv => ?_)
    · obtain ⟨o2, o3, A2, rfl⟩ := pv
      have hi : i < xs.length := (List.getElem?_eq_some_iff.mp e1).1
      obtain ⟨t, ht⟩ : ∃ t, ps[i]? = some t := ⟨_, List.getElem?_eq_getElem (by omega)⟩
      obtain ⟨x2, hx2, dp⟩ := DpAll.at hx (show (ps.map encPt)[i]? = some (encPt t) by rw [List.getElem?_map, ht]; rfl)
      rw [e1] at hx2
      cases hx2
      have tw := pw.well t (List.mem_of_getElem? ht)
      have snoc := partsL_take ht
      have le := partsL_le ps 0 (i + 1)
      rw [snoc, List.length_append] at le
      have dp2 := dp_same A2.same dp
      (try simp only [tIxO, rIsB, rNotB, tSeq, tIfS, tTest, tB, tOp, tUn, tVar, tC, tAsg, gName, tRet, tRetN, tCB, tCons, tNil, tLst_eq, tTup_eq, tDNewK_eq, tNext, tPar, tM0, tM1, tSl, tNoPart, tPart, rSlS, tAug, tAugS, tExf_eq, ipI, tChain, tCall, tDrop, tBM, tAnd, tOr, tNot, tAndV, tOrV, tNotV, tIf, tIsN, tNotN, rI, rI0, rU, rEq, rNe, gSub, cx_K, cx_K2, L2.start, wipe, scal_ii, scal_ss, scal_bb, scal_is, scal_si, scal_nn, List.map_cons, List.map_nil, List.length_cons, List.length_nil, List.cons_append, List.nil_append, List.append_nil, List.replicate, List.getElem?_cons_zero, List.getElem?_cons_succ, Option.some.injEq, exists_and_left, exists_eq_left', exists_eq_left, exists_eq, exists_eq', V.int.injEq, V.ref.injEq, V.str.injEq, V.bl.injEq, List.cons.injEq, and_true, true_and, false_and, exists_false, or_false, false_or, reduceCtorEq, List.set_cons_zero, List.set_cons_succ, Nat.reduceAdd, Nat.reduceSub, Int.reduceToNat, decide_eq_true_eq, if_true, if_false, Bool.false_eq_true, Bool.not_true, Bool.not_false, Bool.true_eq_false, ite_false, ite_true, ne_eq, not_false_eq_true, Int.reduceEq])
      have big : (200 : Nat) ≤ sizeLine := by decide
      have k1 : (Str.ofString " ").length = 1 := rfl
      have k3 : (Str.ofString " = ").length = 3 := rfl
      have e2 : txs (partsL 0 (ps.take (i + 1))) = txs (partsL 0 (ps.take i)) ++ txs (partL i t) := by rw [snoc, txs_app]
      have lt0 : (txs (partsL 0 (ps.take i))).length = (partsL 0 (ps.take i)).length := by rw [txs, List.length_map]
      have l12 : t.ident.length ≤ 12 := ptw_words tw
      cases t with
      | name i' w' =>
        have lw : w'.length ≤ 12 := (word_len tw.2).2
        have d0 : Dp K H2 x (.tuple [.str "name", .str i', .str w']) := dp2
        refine ixD_go (j := 0) d0 rfl rfl fun y dy => ?_
        cases Dp.strD dy
        refine newT_go fun p1 H3 n3 s3 r3 => inT_go (l := ["name", "flag"]) (.inl (.inl r3)) ⟨_, rfl, ite2 (fun _ => ?_) (fun z => absurd (by decide +kernel) z)⟩
        have d3 := dp_same s3 d0
        have A3 := A2.grow s3
        refine ⟨A3.ty, ?_⟩
        refine ixD_go (j := 0) d3 rfl rfl fun y dy => ?_
        cases Dp.strD dy
        have kn : ("name" : Str).length = 4 := rfl
        refine ⟨_, rfl, by rw [k1]; omega, ?_⟩
        refine ixD_go (j := 1) d3 rfl rfl fun y dy => ?_
        cases Dp.strD dy
        refine ⟨_, rfl, by rw [len_app2, k1]; have : i'.length ≤ 12 := l12; omega, by rw [len_app2, len_app2, k1, k3]; have : i'.length ≤ 12 := l12; omega, ?_⟩
        refine ixD_go (j := 2) d3 rfl rfl fun y dy => ?_
        cases Dp.strD dy
        refine ⟨_, rfl, by rw [len_app2, len_app2, len_app2, k1, k3]; have : i'.length ≤ 12 := l12; omega, ?_⟩
        refine A3.app_go (l := .str ("name" ++ " " ++ i' ++ " = " ++ w')) (.str _) rfl (by rw [List.length_append, lt0, List.length_singleton]; omega) fun H4 A4 v4 => ?_
        refine ixD_go (j := 0) (dp_same A4.same dp) rfl rfl fun y dy => ?_
        cases Dp.strD dy
        refine ⟨rfl, ite2 (fun z => absurd z (by decide +kernel)) (fun _ => ?_)⟩
        rw [e2]
        have e3 : txs (partL i (.name i' w')) = [.str ("name" ++ " " ++ i' ++ " = " ++ w')] := by
          show [PyData.str (Str.empty ++ "name" ++ " " ++ i' ++ " = " ++ w')] = _
          rw [emp_app]
        rw [e3]
        exact A4
      | flag i' w' =>
        have lw : w'.length ≤ 12 := (by rcases tw.2 with rfl | rfl <;> decide +kernel)
        have d0 : Dp K H2 x (.tuple [.str "flag", .str i', .str w']) := dp2
        refine ixD_go (j := 0) d0 rfl rfl fun y dy => ?_
        cases Dp.strD dy
        refine newT_go fun p1 H3 n3 s3 r3 => inT_go (l := ["name", "flag"]) (.inl (.inl r3)) ⟨_, rfl, ite2 (fun _ => ?_) (fun z => absurd (by decide +kernel) z)⟩
        have d3 := dp_same s3 d0
        have A3 := A2.grow s3
        refine ⟨A3.ty, ?_⟩
        refine ixD_go (j := 0) d3 rfl rfl fun y dy => ?_
        cases Dp.strD dy
        have kn : ("flag" : Str).length = 4 := rfl
        refine ⟨_, rfl, by rw [k1]; omega, ?_⟩
        refine ixD_go (j := 1) d3 rfl rfl fun y dy => ?_
        cases Dp.strD dy
        refine ⟨_, rfl, by rw [len_app2, k1]; have : i'.length ≤ 12 := l12; omega, by rw [len_app2, len_app2, k1, k3]; have : i'.length ≤ 12 := l12; omega, ?_⟩
        refine ixD_go (j := 2) d3 rfl rfl fun y dy => ?_
        cases Dp.strD dy
        refine ⟨_, rfl, by rw [len_app2, len_app2, len_app2, k1, k3]; have : i'.length ≤ 12 := l12; omega, ?_⟩
        refine A3.app_go (l := .str ("flag" ++ " " ++ i' ++ " = " ++ w')) (.str _) rfl (by rw [List.length_append, lt0, List.length_singleton]; omega) fun H4 A4 v4 => ?_
        refine ixD_go (j := 0) (dp_same A4.same dp) rfl rfl fun y dy => ?_
        cases Dp.strD dy
        refine ⟨rfl, ite2 (fun z => absurd z (by decide +kernel)) (fun _ => ?_)⟩
        rw [e2]
        have e3 : txs (partL i (.flag i' w')) = [.str ("flag" ++ " " ++ i' ++ " = " ++ w')] := by
          show [PyData.str (Str.empty ++ "flag" ++ " " ++ i' ++ " = " ++ w')] = _
          rw [emp_app]
        rw [e3]
        exact A4
      | slot i' w' =>
        have lw : w'.length ≤ 12 := (by rcases tw.2 with rfl | rfl <;> decide +kernel)
        have li : i'.length ≤ 12 := l12
        have d0 : Dp K H2 x (.tuple [.str "slot", .str i', .str w']) := dp2
        refine ixD_go (j := 0) d0 rfl rfl fun y dy => ?_
        cases Dp.strD dy
        refine newT_go fun p1 H3 n3 s3 r3 => inT_go (l := ["name", "flag"]) (.inl (.inl r3)) ⟨_, rfl, ite2 (fun z => absurd z (by decide +kernel)) (fun _ => ?_)⟩
        have d3 := dp_same s3 d0
        have A3 := A2.grow s3
        refine ⟨A3.ty, ?_⟩
        refine ixD_go (j := 2) d3 rfl rfl fun y dy => ?_
        cases Dp.strD dy
        have kn : ("slot" : Str).length = 4 := rfl
        refine ⟨_, rfl, by rw [k1]; omega, ?_⟩
        refine ixD_go (j := 0) d3 rfl rfl fun y dy => ?_
        cases Dp.strD dy
        refine ⟨_, rfl, by rw [len_app2, k1]; omega, by rw [len_app2, len_app2, k1]; omega, ?_⟩
        refine ixD_go (j := 1) d3 rfl rfl fun y dy => ?_
        cases Dp.strD dy
        refine ⟨_, rfl, by rw [len_app2, len_app2, len_app2, k1]; omega, ?_⟩
        refine A3.app_go (l := .str (w' ++ " " ++ "slot" ++ " " ++ i')) (.str _) rfl (by rw [List.length_append, lt0, List.length_singleton]; omega) fun H4 A4 v4 => ?_
        refine ixD_go (j := 0) (dp_same A4.same dp) rfl rfl fun y dy => ?_
        cases Dp.strD dy
        refine ⟨rfl, ite2 (fun z => absurd z (by decide +kernel)) (fun _ => ?_)⟩
        rw [e2]
        have e3 : txs (partL i (.slot i' w')) = [.str (w' ++ " " ++ "slot" ++ " " ++ i')] := by
          show [PyData.str (Str.empty ++ w' ++ " " ++ "slot" ++ " " ++ i')] = _
          rw [emp_app]
        rw [e3]
        exact A4
      | func i' w' rows =>
        have lw : w'.length ≤ 12 := (by rcases tw.2.1 with rfl | rfl <;> decide +kernel)
        have li : i'.length ≤ 12 := l12
        have d0 : Dp K H2 x (.tuple [.str "func", .str i', .str w', .tuple (encR rows)]) := dp2
        refine ixD_go (j := 0) d0 rfl rfl fun y dy => ?_
        cases Dp.strD dy
        refine newT_go fun p1 H3 n3 s3 r3 => inT_go (l := ["name", "flag"]) (.inl (.inl r3)) ⟨_, rfl, ite2 (fun z => absurd z (by decide +kernel)) (fun _ => ?_)⟩
        have d3 := dp_same s3 d0
        have A3 := A2.grow s3
        refine ⟨A3.ty, ?_⟩
        refine ixD_go (j := 2) d3 rfl rfl fun y dy => ?_
        cases Dp.strD dy
        have kn : ("func" : Str).length = 4 := rfl
        refine ⟨_, rfl, by rw [k1]; omega, ?_⟩
        refine ixD_go (j := 0) d3 rfl rfl fun y dy => ?_
        cases Dp.strD dy
        refine ⟨_, rfl, by rw [len_app2, k1]; omega, by rw [len_app2, len_app2, k1]; omega, ?_⟩
        refine ixD_go (j := 1) d3 rfl rfl fun y dy => ?_
        cases Dp.strD dy
        refine ⟨_, rfl, by rw [len_app2, len_app2, len_app2, k1]; omega, ?_⟩
        refine A3.app_go (l := .str (w' ++ " " ++ "func" ++ " " ++ i')) (.str _) rfl (by rw [List.length_append, lt0, List.length_singleton]; omega) fun H4 A4 v4 => ?_
        refine ixD_go (j := 0) (dp_same A4.same dp) rfl rfl fun y dy => ?_
        cases Dp.strD dy
        refine ⟨rfl, ite2 (fun _ => ?_) (fun z => absurd rfl z)⟩
        have e3 : partL i (.func i' w' rows) = ⟨w' ++ " " ++ "func" ++ " " ++ i', some (.pt (.func i' w' rows)), [i]⟩ :: (linesR [i, 3] 0 rows ++ [⟨"end", none, [i]⟩]) := by
          show _ :: _ = _
          rw [emp_app]
        have lenP : (partL i (.func i' w' rows)).length = wR rows + 2 := by rw [e3, List.length_cons, List.length_append, len_R, List.length_singleton]
        obtain ⟨ls, hls⟩ : ∃ ls, ls = txs (partsL 0 (ps.take i)) ++ [PyData.str (w' ++ " " ++ "func" ++ " " ++ i')] := ⟨_, rfl⟩
        rw [← hls] at A4
        have lls : ls.length = (partsL 0 (ps.take i)).length + 1 := by rw [hls, List.length_append, lt0]; rfl
        have d0b : Dp K H x (.tuple [.str "func", .str i', .str w', .tuple (encR rows)]) := dp
        obtain ⟨pa, pxs, rfl, hpa, hpx⟩ := Dp.tupD d0b
        cases hpx with
        | cons g0 hpx =>
        cases hpx with
        | cons g1 hpx =>
        cases hpx with
        | cons g2 hpx =>
        cases hpx with
        | @cons y3 _ _ _ g3 hpx =>
        cases hpx
        obtain ⟨ca, cs, rfl, hca, hcx⟩ := Dp.tupD g3
        have hcl := DpAll.len hcx
        rw [encR_len] at hcl
        have hit : ∀ R : It → Hp → Prop, R (Itt K ca) H4 → iTup K (tOp (rIxT K) (tVar 2) (tC (V.int 3))) [some (.ref a), some (.ref F), some (.ref pa), o3] H4 R := by
          intro R r
          (try simp only [tIxO, rIsB, rNotB, tSeq, tIfS, tTest, tB, tOp, tUn, tVar, tC, tAsg, gName, tRet, tRetN, tCB, tCons, tNil, tLst_eq, tTup_eq, tDNewK_eq, tNext, tPar, tM0, tM1, tSl, tNoPart, tPart, rSlS, tAug, tAugS, tExf_eq, ipI, tChain, tCall, tDrop, tBM, tAnd, tOr, tNot, tAndV, tOrV, tNotV, tIf, tIsN, tNotN, rI, rI0, rU, rEq, rNe, gSub, cx_K, cx_K2, L2.start, wipe, scal_ii, scal_ss, scal_bb, scal_is, scal_si, scal_nn, List.map_cons, List.map_nil, List.length_cons, List.length_nil, List.cons_append, List.nil_append, List.append_nil, List.replicate, List.getElem?_cons_zero, List.getElem?_cons_succ, Option.some.injEq, exists_and_left, exists_eq_left', exists_eq_left, exists_eq, exists_eq', V.int.injEq, V.ref.injEq, V.str.injEq, V.bl.injEq, List.cons.injEq, and_true, true_and, false_and, exists_false, or_false, false_or, reduceCtorEq, List.set_cons_zero, List.set_cons_succ, Nat.reduceAdd, Nat.reduceSub, Int.reduceToNat, decide_eq_true_eq, if_true, if_false, Bool.false_eq_true, Bool.not_true, Bool.not_false, Bool.true_eq_false, ite_false, ite_true, ne_eq, not_false_eq_true, Int.reduceEq, iTup])
          exact ixT2_go (sqT_same A4.same hpa) (atI_nat (j := 3) rfl) ⟨ca, rfl, ⟨_, sqT_same A4.same hca⟩, r⟩
        refine forTW_go (K := K) (a := ca) (xs := cs) (fun k σ2 H2 => ∃ o, AccD K H F (ls ++ txs (linesR [i, 3] 0 (rows.take k))) H2 ∧ σ2 = [some (.ref a), some (.ref F), some (.ref pa), o]) hit (fun k σ2 H2 _ pv => by obtain ⟨_, A5, _⟩ := pv; exact sqT_same A5.same hca) ⟨o3, ?_, rfl⟩ (fun k x σ2 H2 e1 pv => ?_) (fun σ2 H2 pv => ?_)
        · rw [List.take_zero, linesR]
          show AccD K H F (_ ++ []) H4
          rw [List.append_nil]
          exact A4
        · obtain ⟨o, A5, rfl⟩ := pv
          have hk : k < cs.length := (List.getElem?_eq_some_iff.mp e1).1
          obtain ⟨s1, hs1⟩ : ∃ s1, rows[k]? = some s1 := ⟨_, List.getElem?_eq_getElem (by omega)⟩
          obtain ⟨x2, hx2, dx⟩ := DpAll.at hcx (show (encR rows)[k]? = some (encS s1) by rw [encR_map, List.getElem?_map, hs1]; rfl)
          rw [e1] at hx2
          cases hx2
          have tk : rows.take (k + 1) = rows.take k ++ [s1] := by rw [List.take_add_one, hs1]; rfl
          have htl : (rows.take k).length = k := by rw [List.length_take]; omega
          have wk : wR (rows.take (k + 1)) = wR (rows.take k) + wS s1 := by rw [tk, wR_app, wR, wR, Nat.add_zero]
          have w1 : wR (rows.take (k + 1)) ≤ wR rows := by
            have e := wR_app (rows.take (k + 1)) (rows.drop (k + 1))
            rw [List.take_append_drop] at e
            omega
          (try simp only [tIxO, rIsB, rNotB, tSeq, tIfS, tTest, tB, tOp, tUn, tVar, tC, tAsg, gName, tRet, tRetN, tCB, tCons, tNil, tLst_eq, tTup_eq, tDNewK_eq, tNext, tPar, tM0, tM1, tSl, tNoPart, tPart, rSlS, tAug, tAugS, tExf_eq, ipI, tChain, tCall, tDrop, tBM, tAnd, tOr, tNot, tAndV, tOrV, tNotV, tIf, tIsN, tNotN, rI, rI0, rU, rEq, rNe, gSub, cx_K, cx_K2, L2.start, wipe, scal_ii, scal_ss, scal_bb, scal_is, scal_si, scal_nn, List.map_cons, List.map_nil, List.length_cons, List.length_nil, List.cons_append, List.nil_append, List.append_nil, List.replicate, List.getElem?_cons_zero, List.getElem?_cons_succ, Option.some.injEq, exists_and_left, exists_eq_left', exists_eq_left, exists_eq, exists_eq', V.int.injEq, V.ref.injEq, V.str.injEq, V.bl.injEq, List.cons.injEq, and_true, true_and, false_and, exists_false, or_false, false_or, reduceCtorEq, List.set_cons_zero, List.set_cons_succ, Nat.reduceAdd, Nat.reduceSub, Int.reduceToNat, decide_eq_true_eq, if_true, if_false, Bool.false_eq_true, Bool.not_true, Bool.not_false, Bool.true_eq_false, ite_false, ite_true, ne_eq, not_false_eq_true, Int.reduceEq])
          refine ⟨A5.ty, x, s1, [i, 3] ++ [k], ?_, dp_same A5.same dx, tw.2.2.2 s1 (List.mem_of_getElem? hs1), by omega, by simp, fun b2 ys2 H9 n9 s9 r9 d9 => ?_⟩
          · have e : ind ([i, 3] ++ [k]) = (Str.ofString "  ") := by
              have h1 : ([i, 3] ++ [k]).length / 2 = 1 := by simp
              rw [ind, h1]
              decide +kernel
            rw [e]
          refine (A5.grow s9).ext_go r9 d9 (pl_txs _) ?_ fun H10 A10 v10 => ?_
          · rw [List.length_append, List.length_append, lls, txs, List.length_map, txs, List.length_map, len_R, len_S]
            omega
          · rw [tk, linesR_snoc, txs_app, htl, Nat.zero_add, ← List.append_assoc]
            exact A10
        · obtain ⟨o, A5, rfl⟩ := pv
          rw [List.take_of_length_le (by omega)] at A5
          (try simp only [tIxO, rIsB, rNotB, tSeq, tIfS, tTest, tB, tOp, tUn, tVar, tC, tAsg, gName, tRet, tRetN, tCB, tCons, tNil, tLst_eq, tTup_eq, tDNewK_eq, tNext, tPar, tM0, tM1, tSl, tNoPart, tPart, rSlS, tAug, tAugS, tExf_eq, ipI, tChain, tCall, tDrop, tBM, tAnd, tOr, tNot, tAndV, tOrV, tNotV, tIf, tIsN, tNotN, rI, rI0, rU, rEq, rNe, gSub, cx_K, cx_K2, L2.start, wipe, scal_ii, scal_ss, scal_bb, scal_is, scal_si, scal_nn, List.map_cons, List.map_nil, List.length_cons, List.length_nil, List.cons_append, List.nil_append, List.append_nil, List.replicate, List.getElem?_cons_zero, List.getElem?_cons_succ, Option.some.injEq, exists_and_left, exists_eq_left', exists_eq_left, exists_eq, exists_eq', V.int.injEq, V.ref.injEq, V.str.injEq, V.bl.injEq, List.cons.injEq, and_true, true_and, false_and, exists_false, or_false, false_or, reduceCtorEq, List.set_cons_zero, List.set_cons_succ, Nat.reduceAdd, Nat.reduceSub, Int.reduceToNat, decide_eq_true_eq, if_true, if_false, Bool.false_eq_true, Bool.not_true, Bool.not_false, Bool.true_eq_false, ite_false, ite_true, ne_eq, not_false_eq_true, Int.reduceEq])
          refine ⟨A5.ty, A5.app_go (l := .str "end") (.str _) rfl (by rw [List.length_append, List.length_append, lls, txs, List.length_map, len_R, List.length_singleton]; omega) fun H6 A6 v6 => ?_⟩
          rw [e2, e3]
          show AccD K H F (txs (partsL 0 (ps.take i)) ++ ([PyData.str (w' ++ " " ++ "func" ++ " " ++ i')] ++ txs (linesR [i, 3] 0 rows ++ [⟨"end", none, [i]⟩]))) H6
          rw [txs_app, ← List.append_assoc, ← List.append_assoc, ← hls]
          exact A6
    · obtain ⟨o2, o3, A2, rfl⟩ := pv
      (try simp only [tIxO, rIsB, rNotB, tSeq, tIfS, tTest, tB, tOp, tUn, tVar, tC, tAsg, gName, tRet, tRetN, tCB, tCons, tNil, tLst_eq, tTup_eq, tDNewK_eq, tNext, tPar, tM0, tM1, tSl, tNoPart, tPart, rSlS, tAug, tAugS, tExf_eq, ipI, tChain, tCall, tDrop, tBM, tAnd, tOr, tNot, tAndV, tOrV, tNotV, tIf, tIsN, tNotN, rI, rI0, rU, rEq, rNe, gSub, cx_K, cx_K2, L2.start, wipe, scal_ii, scal_ss, scal_bb, scal_is, scal_si, scal_nn, List.map_cons, List.map_nil, List.length_cons, List.length_nil, List.cons_append, List.nil_append, List.append_nil, List.replicate, List.getElem?_cons_zero, List.getElem?_cons_succ, Option.some.injEq, exists_and_left, exists_eq_left', exists_eq_left, exists_eq, exists_eq', V.int.injEq, V.ref.injEq, V.str.injEq, V.bl.injEq, List.cons.injEq, and_true, true_and, false_and, exists_false, or_false, false_or, reduceCtorEq, List.set_cons_zero, List.set_cons_succ, Nat.reduceAdd, Nat.reduceSub, Int.reduceToNat, decide_eq_true_eq, if_true, if_false, Bool.false_eq_true, Bool.not_true, Bool.not_false, Bool.true_eq_false, ite_false, ite_true, ne_eq, not_false_eq_true, Int.reduceEq])
      rw [List.take_of_length_le (by omega)] at A2
      obtain ⟨ys, r, d⟩ := A2.ex
      exact q F ys H2 A2.new A2.same r d

end
end Own

set_option Elab.async false
set_option linter.all false
set_option maxRecDepth 100000
set_option maxHeartbeats 4000000
namespace Own
open PySem PySem.Spec PyProof.Rows L2
section
variable {P : Program} {w : World} {K : PySem.W.Frag} {mg : Str → Option Value} {base : Heap}
def wkH : Wk → Bool
  | .hd _ => true
  | _ => false
def hdN : Nat → List (Option Wk) → List Nat
  | _, [] => []
  | n, none :: ks => hdN (n + 1) ks
  | n, some k :: ks => (if wkH k then [n] else []) ++ hdN (n + 1) ks
theorem hdN_app : ∀ (a b : List (Option Wk)) (n : Nat), hdN n (a ++ b) = hdN n a ++ hdN (n + a.length) b
  | [], b, n => rfl
  | none :: a, b, n => by
    rw [List.cons_append, hdN, hdN, hdN_app a b, List.length_cons, show n + (a.length + 1) = n + 1 + a.length by omega]
  | some k :: a, b, n => by
    rw [List.cons_append, hdN, hdN, hdN_app a b, List.length_cons, show n + (a.length + 1) = n + 1 + a.length by omega, List.append_assoc]
structure Mst.like (s t : Mst) : Prop where
  parts : s.parts = t.parts
  begun : s.begun.map Bg.key = t.begun.map Bg.key
theorem like_refl (s : Mst) : s.like s := ⟨rfl, rfl⟩
theorem like_nil {bs : List Bg} (h : ([] : List Bg).map Bg.key = bs.map Bg.key) : bs = [] := List.map_eq_nil_iff.mp h.symm
theorem like_cons {b : Bg} {bs cs : List Bg} (h : (b :: bs).map Bg.key = cs.map Bg.key) : ∃ l2 c2, cs = ⟨l2, b.h, b.g1, b.g2⟩ :: c2 ∧ bs.map Bg.key = c2.map Bg.key := by
  cases cs with
  | nil => cases h
  | cons c cs =>
    rw [List.map_cons, List.map_cons] at h
    obtain ⟨h1, h2⟩ := List.cons.inj h
    obtain ⟨l, h', g1, g2⟩ := c
    have e : (b.h, b.g1, b.g2) = (h', g1, g2) := h1
    have e1 : b.h = h' := congrArg (·.1) e
    have e2 : b.g1 = g1 := congrArg (·.2.1) e
    have e3 : b.g2 = g2 := congrArg (·.2.2) e
    subst e1 e2 e3
    exact ⟨l, cs, rfl, h2⟩
theorem put_like {s t : Mst} (h : s.like t) (d : PyData) : (s.put d).like (t.put d) ∧ (t.put d).lines = t.lines := by
  obtain ⟨p, l, b⟩ := s
  obtain ⟨p2, l2, b2⟩ := t
  obtain ⟨h1, h2⟩ := h
  have h1 : p = p2 := h1
  subst h1
  cases b with
  | nil =>
    have e : b2 = [] := like_nil h2
    subst e
    exact ⟨⟨rfl, rfl⟩, rfl⟩
  | cons B Bs =>
    obtain ⟨l3, c2, e, h3⟩ := like_cons h2
    have e : b2 = _ := e
    subst e
    obtain ⟨l4, h4, g1, g2⟩ := B
    refine ⟨⟨rfl, ?_⟩, rfl⟩
    cases g2 with
    | none => exact congrArg (List.cons _) h3
    | some g => exact congrArg (List.cons _) h3
theorem step_like {s t s2 : Mst} {n m : Nat} {k : Wk} (h : s.like t) (e : s.step n k = some s2) : ∃ t2, t.step m k = some t2 ∧ s2.like t2 ∧ t2.lines = t.lines ++ if wkH k then [m] else [] := by
  obtain ⟨p, l, b⟩ := s
  obtain ⟨p2, l2, b2⟩ := t
  obtain ⟨h1, h2⟩ := h
  have h1 : p = p2 := h1
  subst h1
  have hl : b.length = b2.length := by
    have := congrArg List.length h2
    rw [List.length_map, List.length_map] at this
    exact this
  have hem : b.isEmpty = b2.isEmpty := by cases b <;> cases b2 <;> first | rfl | (cases hl)
  cases k with
  | hd hk =>
    have e : (if (V_PARTS.map (·.1)).contains hk.first = !b.isEmpty then none else if b.length > 9 then none else if hk.roles.contains "rows" then some (⟨p, l ++ [n], ⟨n, hk, [], none⟩ :: b⟩ : Mst) else some (Mst.put ⟨p, l ++ [n], b⟩ (.tuple hk.hd))) = some s2 := e
    show ∃ t2, (if (V_PARTS.map (·.1)).contains hk.first = !b2.isEmpty then none else if b2.length > 9 then none else if hk.roles.contains "rows" then some (⟨p, l2 ++ [m], ⟨m, hk, [], none⟩ :: b2⟩ : Mst) else some (Mst.put ⟨p, l2 ++ [m], b2⟩ (.tuple hk.hd))) = some t2 ∧ s2.like t2 ∧ t2.lines = l2 ++ [m]
    rw [← hem, ← hl]
    split at e
    · cases e
    rename_i c1
    rw [if_neg c1]
    split at e
    · cases e
    rename_i c2
    rw [if_neg c2]
    split at e
    · rename_i c3
      rw [if_pos c3]
      cases e
      exact ⟨_, rfl, ⟨rfl, congrArg (List.cons _) h2⟩, rfl⟩
    · rename_i c3
      rw [if_neg c3]
      cases e
      obtain ⟨a1, a2⟩ := put_like (s := ⟨p, l ++ [n], b⟩) (t := ⟨p, l2 ++ [m], b2⟩) ⟨rfl, h2⟩ (.tuple hk.hd)
      exact ⟨_, rfl, a1, a2⟩
  | stop =>
    cases b with
    | nil => cases e
    | cons B Bs =>
      obtain ⟨l3, c2, e2, h3⟩ := like_cons h2
      have e2 : b2 = _ := e2
      subst e2
      have e := Option.some.inj (show some (Mst.put ⟨p, l, Bs⟩ B.whole) = some s2 from e)
      subst e
      obtain ⟨a1, a2⟩ := put_like (s := ⟨p, l, Bs⟩) (t := ⟨p, l2, c2⟩) ⟨rfl, h3⟩ B.whole
      exact ⟨_, rfl, a1, by rw [show wkH .stop = false from rfl, if_neg (by simp), List.append_nil]; exact a2⟩
  | dv d =>
    cases b with
    | nil => cases e
    | cons B Bs =>
      obtain ⟨l3, c2, e2, h3⟩ := like_cons h2
      have e2 : b2 = _ := e2
      subst e2
      have e : (if dvO B.h.first = some d ∧ B.g2 = none then some (⟨p, l, { B with g2 := some [] } :: Bs⟩ : Mst) else none) = some s2 := e
      split at e
      · rename_i c1
        cases e
        refine ⟨⟨p, l2, ⟨l3, B.h, B.g1, some []⟩ :: c2⟩, ?_, ⟨rfl, congrArg (List.cons _) h3⟩, by simp [wkH]⟩
        show (if dvO B.h.first = some d ∧ B.g2 = none then some (⟨p, l2, ⟨l3, B.h, B.g1, some []⟩ :: c2⟩ : Mst) else none) = _
        rw [if_pos c1]
      · cases e
theorem run_like : ∀ (kx : List (Option Wk)) (ks : List Wk) (s t s2 : Mst) (n m : Nat), kx.filterMap id = ks → s.like t → runW s n ks = some s2 → ∃ t2, runLn t m kx = some t2 ∧ s2.like t2 ∧ t2.lines = t.lines ++ hdN m kx
  | [], ks, s, t, s2, n, m, e, h, r => by
    have e : [] = ks := e
    subst e
    cases (show some s = some s2 from r)
    exact ⟨t, rfl, h, by rw [hdN, List.append_nil]⟩
  | none :: kx, ks, s, t, s2, n, m, e, h, r => by
    obtain ⟨t2, r2, h2, l2⟩ := run_like kx ks s t s2 n (m + 1) e h r
    exact ⟨t2, r2, h2, l2⟩
  | some k :: kx, ks, s, t, s2, n, m, e, h, r => by
    have e : k :: kx.filterMap id = ks := e
    subst e
    have r : (match s.step n k with | some st2 => runLn st2 (n + 1) ((kx.filterMap id).map some) | none => none) = some s2 := r
    cases es : s.step n k with
    | none => rw [es] at r; cases r
    | some s1 =>
      rw [es] at r
      obtain ⟨t1, r1, h1, l1⟩ := step_like (m := m) h es
      obtain ⟨t2, r2, h2, l2⟩ := run_like kx _ s1 t1 s2 (n + 1) (m + 1) rfl h1 r
      refine ⟨t2, ?_, h2, ?_⟩
      · show (match t.step m k with | some st2 => runLn st2 (m + 1) kx | none => none) = _
        rw [r1]
        exact r2
      · rw [l2, l1, hdN, List.append_assoc]
def RunR (m : Nat) (rows : List Stm) (ks : List Wk) : Prop := ∀ ps ls (B : Bg) Bs n, (B :: Bs).length + m ≤ 10 → ∃ ls2, runW ⟨ps, ls, B :: Bs⟩ n ks = some ⟨ps, ls2, B.addL (encR rows) :: Bs⟩
theorem runR_nil (m : Nat) : RunR m [] [] := fun ps ls B Bs n _ => ⟨ls, by
  show some _ = some (⟨ps, ls, B.addL [] :: Bs⟩ : Mst)
  rw [addL_nil]⟩
theorem RunR.app {m : Nat} {r1 r2 : List Stm} {k1 k2 : List Wk} (a : RunR m r1 k1) (b : RunR m r2 k2) : RunR m (r1 ++ r2) (k1 ++ k2) := fun ps ls B Bs n few => by
  obtain ⟨l1, e1⟩ := a ps ls B Bs n few
  obtain ⟨l2, e2⟩ := b ps l1 (B.addL (encR r1)) Bs (n + k1.length) few
  refine ⟨l2, ?_⟩
  rw [runW_app, e1]
  show runW _ (n + k1.length) k2 = _
  rw [e2, addL_app, encR_app]
theorem runR_leaf {m : Nat} {s : Stm} (e : s.blocks = []) : RunR (m + 1) [s] [.hd (.st s)] := fun ps ls B Bs n few => by
  have hd := step_hd (s := s) (ps := ps) (ls := ls) (n := n) (B := B) (Bs := Bs) (by omega)
  rw [e] at hd
  refine ⟨ls ++ [n], ?_⟩
  rw [runW_cons hd]
  rfl
/-- the blocks of a statement, read as far as the j-th -/
def BlkR (m : Nat) (s : Stm) (j : Nat) (kb : List Wk) : Prop := ∀ ps ls Bs n l0, Bs.length + 1 + m ≤ 10 → ∃ ls2 g1 g2, runW ⟨ps, ls, ⟨l0, .st s, [], none⟩ :: Bs⟩ n kb = some ⟨ps, ls2, ⟨l0, .st s, g1, g2⟩ :: Bs⟩ ∧ (j = 0 → g1 = [] ∧ g2 = none) ∧ (j = 1 → g2 = none ∧ ∃ b, s.blocks[0]? = some b ∧ g1 = encR b) ∧ (j = 2 → ∃ b c, s.blocks = [b, c] ∧ g1 = encR b ∧ (g2 = some (encR c) ∨ (c = [] ∧ g2 = none)))
theorem blkR_0 (m : Nat) (s : Stm) : BlkR m s 0 [] := fun ps ls Bs n l0 _ => ⟨ls, [], none, rfl, fun _ => ⟨rfl, rfl⟩, fun h => (by cases h), fun h => (by cases h)⟩
theorem blkR_step {m : Nat} {s : Stm} {j : Nat} {kb kc : List Wk} {c : List Stm} {d : Bool} (h : BlkR m s j kb) (hc : s.blocks[j]? = some c) (hr : RunR m c kc) (hd : d = true → j = 1) (hd2 : j = 1 → c ≠ [] → d = true) : BlkR m s (j + 1) (kb ++ ((if d then [.dv s.divider] else []) ++ kc)) := by
  intro ps ls Bs n l0 few
  obtain ⟨l1, g1, g2, e1, z0, z1, z2⟩ := h ps ls Bs n l0 few
  have j2 : j = 0 ∨ j = 1 := by
    have l := (List.getElem?_eq_some_iff.mp hc).1
    rcases blk3 s with e | ⟨_, e⟩ | ⟨_, _, e⟩ <;> rw [e] at l <;> simp at l <;> omega
  rcases j2 with rfl | rfl
  · obtain ⟨rfl, rfl⟩ := z0 rfl
    have e : d = false := by cases d with
      | false => rfl
      | true => exact absurd (hd rfl) (by decide)
    subst e
    obtain ⟨l2, e2⟩ := hr ps l1 ⟨l0, .st s, [], none⟩ Bs (n + kb.length) (by rw [List.length_cons]; exact few)
    refine ⟨l2, encR c, none, ?_, fun h => (by cases h), fun _ => ⟨rfl, c, hc, rfl⟩, fun h => (by cases h)⟩
    rw [runW_app, e1]
    show runW _ (n + kb.length) kc = _
    rw [e2]
    rfl
  · obtain ⟨rfl, b, hb, rfl⟩ := z1 rfl
    have eb : s.blocks = [b, c] := by
      rcases blk3 s with e | ⟨x, e⟩ | ⟨x, y, e⟩
      · rw [e] at hc; cases hc
      · rw [e] at hc; cases hc
      · rw [e] at hb hc ⊢
        cases hb
        cases hc
        rfl
    obtain ⟨d1, d2⟩ := (stm_dv s).1 (by rw [eb]; rfl)
    cases d with
    | true =>
      have st : (⟨ps, l1, ⟨l0, .st s, encR b, none⟩ :: Bs⟩ : Mst).step (n + kb.length) (.dv s.divider) = some ⟨ps, l1, ⟨l0, .st s, encR b, some []⟩ :: Bs⟩ := by
        show (if dvO s.first = some s.divider ∧ (none : Option (List PyData)) = none then some (⟨ps, l1, ⟨l0, .st s, encR b, some []⟩ :: Bs⟩ : Mst) else none) = _
        rw [if_pos ⟨d2, rfl⟩]
      obtain ⟨l2, e2⟩ := hr ps l1 ⟨l0, .st s, encR b, some []⟩ Bs (n + kb.length + 1) (by rw [List.length_cons]; exact few)
      refine ⟨l2, encR b, some (encR c), ?_, fun h => (by cases h), fun h => (by cases h), fun _ => ⟨b, c, eb, rfl, .inl rfl⟩⟩
      rw [runW_app, e1]
      show runW _ (n + kb.length) (.dv s.divider :: kc) = _
      rw [runW_cons st, e2]
      rfl
    | false =>
      have ec : c = [] := by
        cases c with
        | nil => rfl
        | cons x r => exact absurd (hd2 rfl (by simp)) (by simp)
      subst ec
      obtain ⟨l2, e2⟩ := hr ps l1 ⟨l0, .st s, encR b, none⟩ Bs (n + kb.length) (by rw [List.length_cons]; exact few)
      refine ⟨l2, encR b, none, ?_, fun h => (by cases h), fun h => (by cases h), fun _ => ⟨b, [], eb, rfl, .inr ⟨rfl, rfl⟩⟩⟩
      rw [runW_app, e1]
      show runW _ (n + kb.length) kc = _
      rw [e2]
      show some (⟨ps, l2, ⟨l0, .st s, encR b ++ encR [], none⟩ :: Bs⟩ : Mst) = _
      rw [show encR [] = [] from rfl, List.append_nil]
theorem blkR_end {m : Nat} {s : Stm} {kb : List Wk} (h : BlkR m s s.blocks.length kb) (ne : s.blocks ≠ []) : RunR (m + 1) [s] (.hd (.st s) :: (kb ++ [.stop])) := fun ps ls B Bs n few => by
  have hd := step_hd (s := s) (ps := ps) (ls := ls) (n := n) (B := B) (Bs := Bs) (by omega)
  have hne : s.blocks.isEmpty = false := by cases h : s.blocks with
    | nil => exact absurd h ne
    | cons _ _ => rfl
  rw [hne] at hd
  obtain ⟨l1, g1, g2, e1, z0, z1, z2⟩ := h ps (ls ++ [n]) (B :: Bs) (n + 1) n (by omega)
  refine ⟨l1, ?_⟩
  rw [runW_cons hd]
  show runW ⟨ps, ls ++ [n], ⟨n, .st s, [], none⟩ :: B :: Bs⟩ (n + 1) (kb ++ [.stop]) = _
  rw [runW_app, e1]
  show runW _ (n + 1 + kb.length) [.stop] = _
  rw [runW_cons step_end]
  have ew : (⟨n, .st s, g1, g2⟩ : Bg).whole = encS s := by
    refine whole_of (s := s) rfl ?_
    rcases blk3 s with e | ⟨b, e⟩ | ⟨b, c, e⟩
    · exact absurd e ne
    · obtain ⟨rfl, b', hb, rfl⟩ := z1 (by rw [e]; rfl)
      rw [e] at hb ⊢
      cases hb
      show (if dvK.contains s.first then [encR b, []] else [encR b]) = [encR b]
      rw [(stm_dv s).2 (by rw [e]; rfl)]
      rfl
    · obtain ⟨b', c', e', rfl, hg⟩ := z2 (by rw [e]; rfl)
      rw [e] at e' ⊢
      cases e'
      rcases hg with rfl | ⟨rfl, rfl⟩
      · rfl
      · show (if dvK.contains s.first then [encR b, []] else [encR b]) = [encR b, []]
        rw [((stm_dv s).1 (by rw [e]; rfl)).1]
        rfl
  rw [ew]
  rfl
/-- parts -/
def RunP (qs : List Prt) (ks : List Wk) : Prop := ∀ ps ls n, ∃ ls2, runW ⟨ps, ls, []⟩ n ks = some ⟨ps ++ qs.map encPt, ls2, []⟩
theorem runP_nil : RunP [] [] := fun ps ls n => ⟨ls, by rw [List.map_nil, List.append_nil]; rfl⟩
theorem RunP.app {r1 r2 : List Prt} {k1 k2 : List Wk} (a : RunP r1 k1) (b : RunP r2 k2) : RunP (r1 ++ r2) (k1 ++ k2) := fun ps ls n => by
  obtain ⟨l1, e1⟩ := a ps ls n
  obtain ⟨l2, e2⟩ := b (ps ++ r1.map encPt) l1 (n + k1.length)
  refine ⟨l2, ?_⟩
  rw [runW_app, e1]
  show runW _ (n + k1.length) k2 = _
  rw [e2, List.map_append, List.append_assoc]
theorem runP_leaf {t : Prt} (h : ∀ i a rows, t ≠ .func i a rows) : RunP [t] [.hd (.pt t)] := fun ps ls n => by
  have st := step_pt (t := t) (ps := ps) (ls := ls) (n := n)
  have hr : (Hk.pt t).roles.contains "rows" = false := by
    cases t with
    | name i x => exact pt_roles.1 "name" (by simp)
    | flag i x => exact pt_roles.1 "flag" (by simp)
    | slot i x => exact pt_roles.1 "slot" (by simp)
    | func i x rows => exact absurd rfl (h i x rows)
  have he : encPt t = .tuple t.hd := by
    cases t with
    | func i x rows => exact absurd rfl (h i x rows)
    | _ => rfl
  rw [hr] at st
  refine ⟨ls ++ [n], ?_⟩
  rw [runW_cons st, List.map_cons, List.map_nil, he]
  rfl
theorem runP_func {i x : Str} {rows : List Stm} {kb : List Wk} (h : RunR 9 rows kb) : RunP [.func i x rows] (.hd (.pt (.func i x rows)) :: (kb ++ [.stop])) := fun ps ls n => by
  have st := step_pt (t := .func i x rows) (ps := ps) (ls := ls) (n := n)
  rw [show (Hk.pt (.func i x rows)).roles.contains "rows" = true from pt_roles.2] at st
  obtain ⟨l1, e1⟩ := h ps (ls ++ [n]) ⟨n, .pt (.func i x rows), [], none⟩ [] (n + 1) (by simp)
  refine ⟨l1, ?_⟩
  rw [runW_cons st]
  show runW ⟨ps, ls ++ [n], [⟨n, .pt (.func i x rows), [], none⟩]⟩ (n + 1) (kb ++ [.stop]) = _
  rw [runW_app, e1]
  show runW ⟨ps, l1, [(⟨n, .pt (.func i x rows), [] ++ encR rows, none⟩ : Bg)]⟩ (n + 1 + kb.length) [.stop] = _
  have fd : dvK.contains ("func" : Str) = false := by decide +kernel
  have ew : (⟨n, .pt (.func i x rows), [] ++ encR rows, none⟩ : Bg).whole = encPt (.func i x rows) := by
    show PyData.tuple ([.str "func", .str i, .str x] ++ (if dvK.contains ("func" : Str) then [[] ++ encR rows, []] else [[] ++ encR rows]).map PyData.tuple) = _
    rw [fd]
    rfl
  show some (⟨ps ++ [(⟨n, .pt (.func i x rows), [] ++ encR rows, none⟩ : Bg).whole], l1, []⟩ : Mst) = _
  rw [ew, List.map_cons, List.map_nil]

end
end Own

set_option Elab.async false
set_option linter.all false
set_option maxRecDepth 100000
set_option maxHeartbeats 4000000
namespace Own
open PySem PySem.Spec PyProof.Rows L2
section
variable {P : Program} {w : World} {K : PySem.W.Frag} {mg : Str → Option Value} {base : Heap}
def encZ (k : Wk) : PyData := .tuple [.int (if wkH k then 1 else 0), .str (Txt.join " " k.words)]
def cstK (ks : List Wk) : Nat := (ks.map fun k => 15 * k.words.length + 3).sum
theorem cstK_app (a b : List Wk) : cstK (a ++ b) = cstK a + cstK b := by simp [cstK]
theorem pl_z (ks : List Wk) : PlAll (ks.map encZ) = true := by
  induction ks with
  | nil => rfl
  | cons k ks ih => rw [List.map_cons, PlAll, ih]; rfl
structure Nz (m : Nat) (rows : List Stm) (ks : List Wk) (W : Nat) : Prop where
  run : RunR m rows ks
  ok : ∀ k ∈ ks, k.ok
  len : ks.length ≤ 2 * W
  cst : cstK ks ≤ 15100 * W
section
variable {K : PySem.W.Frag} {H0 H H2 : Hp} {t F : Addr} {ds : List PyData} {k j : Nat}
theorem AccT.mono (A : AccT K H0 t F ds k H) (le : j ≤ k) : AccT K H0 t F ds j H := ⟨A.new, A.ft, A.ext, A.ex, A.pl, A.few, A.tp.mono le⟩
theorem AccT.draw (A : AccT K H0 t F ds k H) (T : Tape H2 t j) (v : ExT t H H2) : AccT K H0 t F ds j H2 := by
  obtain ⟨ys, r, d⟩ := A.ex
  exact ⟨A.new, A.ft, A.ext.trans v, ⟨ys, v _ _ A.ft r, DpAll.keep (v.tu A.tp) d A.pl⟩, A.pl, A.few, T⟩
theorem AccT.grow (A : AccT K H0 t F ds k H) (s : Same H H2) : AccT K H0 t F ds k H2 := A.draw (A.tp.same s) (Same.exT s)
theorem AccT.app_go {x : V} {l : PyData} {Q : VK} (A : AccT K H0 t F ds k H) (d2 : Dp K H x l) (p2 : Pl l = true) (few : ds.length + 1 ≤ 100000)
    (q : ∀ H2, AccT K H0 t F (ds ++ [l]) k H2 → ExT F H H2 → Q .non H2) : rAppend (.ref F) [x] H Q := by
  obtain ⟨ys, r, d⟩ := A.ex
  have l1 := DpAll.len d
  have nF : ∀ {b : Addr} {o : HO}, H0 b = some o → b ≠ F := fun e z => by rw [z, A.new] at e; cases e
  refine ⟨F, ys, x, rfl, rfl, r, Nat.lt_of_lt_of_le (by omega : _ < 100001) (by decide), q _ ⟨A.new, A.ft, fun p o ne e => ?_, ⟨_, upd_same, ?_⟩, ?_, by rw [List.length_append, List.length_singleton]; exact few, tape_upd A.ft A.tp⟩ fun p o ne e => ?_⟩
  · rw [upd_ne (nF e)]
    exact A.ext _ _ ne e
  · exact dpA_app (DpAll.keep (tu_lst r) d A.pl) (.cons (Dp.keep (tu_lst r) d2 p2) .nil)
  · rw [pl_app, A.pl]
    show PlAll [l] = true
    rw [PlAll, p2]
    rfl
  · rw [upd_ne ne]
    exact e
theorem AccT.ext_go {b : Addr} {l2 : List PyData} {ys2 : List V} {Q : VK} (A : AccT K H0 t F ds k H) (rb : H b = some (.lst ys2)) (d2 : DpAll K H ys2 l2) (p2 : PlAll l2 = true) (few : ds.length + l2.length ≤ 100000)
    (q : ∀ H2, AccT K H0 t F (ds ++ l2) k H2 → ExT F H H2 → Q .non H2) : rExtend (.ref F) [.ref b] H Q := by
  obtain ⟨ys, r, d⟩ := A.ex
  have l1 := DpAll.len d
  have l3 := DpAll.len d2
  have nF : ∀ {b : Addr} {o : HO}, H0 b = some o → b ≠ F := fun e z => by rw [z, A.new] at e; cases e
  refine ⟨F, b, ys, ys2, rfl, rfl, r, rb, Nat.le_trans (by omega : _ ≤ 100000) (by decide), q _ ⟨A.new, A.ft, fun p o ne e => ?_, ⟨_, upd_same, ?_⟩, ?_, by rw [List.length_append]; exact few, tape_upd A.ft A.tp⟩ fun p o ne e => ?_⟩
  · rw [upd_ne (nF e)]
    exact A.ext _ _ ne e
  · exact dpA_app (DpAll.keep (tu_lst r) d A.pl) (DpAll.keep (tu_lst r) d2 p2)
  · rw [pl_app, A.pl, p2]
    rfl
  · rw [upd_ne ne]
    exact e
end
theorem wE_ge (r : List Stm) : wR r ≤ wE r := by
  cases r with
  | nil => exact Nat.zero_le _
  | cons s r => rw [wE, wR]; omega
theorem ws_blocks (s : Stm) : (s.blocks.map wR).sum + 1 ≤ wS s ∧ (s.blocks ≠ [] → (s.blocks.map wR).sum + 2 ≤ wS s) := by
  rcases blk3 s with e | ⟨b, e⟩ | ⟨b, c, e⟩
  · refine ⟨?_, fun h => absurd e h⟩
    rw [e]
    cases s <;> first | exact Nat.le_refl 1 | (simp [Stm.blocks] at e; done)
  · have h : wR b + 2 ≤ wS s := by
      cases s <;> first | (simp [Stm.blocks] at e; done) | skip
      all_goals (simp only [Stm.blocks, List.cons.injEq, and_true] at e; subst e; simp only [wS]; omega)
    rw [e]
    simp only [List.map_cons, List.map_nil, List.sum_cons, List.sum_nil]
    exact ⟨by omega, fun _ => by omega⟩
  · have h : wR b + wR c + 2 ≤ wS s := by
      cases s <;> first | (simp [Stm.blocks] at e; done) | skip
      all_goals (simp only [Stm.blocks, List.cons.injEq, and_true] at e; have z := wE_ge c; obtain ⟨e1, e2⟩ := e; subst e1; subst e2; simp only [wS]; omega)
    rw [e]
    simp only [List.map_cons, List.map_nil, List.sum_cons, List.sum_nil]
    exact ⟨by omega, fun _ => by omega⟩

def spNR (K : PySem.W.Frag) (m : Nat) : Sp := fun vs H Q _ => ∃ (t : Addr) (v : V) (n : Nat) (rows : List Stm), vs = [.ref t, v] ∧ Dp K H v (.tuple (encR rows)) ∧ (∀ r ∈ rows, StW m r) ∧ m ≤ 9 ∧ wR rows ≤ 20000 ∧ Tape H t (n + wR rows) ∧ ∀ b ys ks H2, H b = none → H2 b = some (.lst ys) → DpAll K H2 ys (ks.map encZ) → Nz m rows ks (wR rows) → Tape H2 t n → ExT t H H2 → Q (.ref b) H2
def spNRb (K : PySem.W.Frag) (m : Nat) : Sp := fun vs H Q E => 0 < m ∧ spNR K (m - 1) vs H Q E
theorem own_words {s : Stm} (h : ownW s) : s.words.length ≤ 1005 := by
  have W : ∀ c : List Str, CapW c → (Stm.withC c).length ≤ 1001 := fun c h => by
    have := h.2
    unfold Stm.withC
    split <;> simp <;> omega
  cases s with
  | bind i v r => cases v <;> simp [Stm.words, Stm.wthW]
  | keep s f c => have := W c h.2.2; simp only [Stm.words, List.length_cons]; omega
  | take s c => have := W c h.2; simp only [Stm.words, List.length_cons]; omega
  | shift s u c => have := W c h.2.2; simp only [Stm.words, List.length_cons]; omega
  | _ => simp [Stm.words]
def rBl (s : Stm) (j : Nat) : Nat := ((s.blocks.drop j).map wR).sum + (if j ≤ 1 then 1 else 0)
theorem rBl_step {s : Stm} {j : Nat} {c : List Stm} (h : s.blocks[j]? = some c) : rBl s j = wR c + rBl s (j + 1) + (if j = 1 then 1 else 0) ∧ ((s.blocks.take (j + 1)).map wR).sum = ((s.blocks.take j).map wR).sum + wR c := by
  have l := (List.getElem?_eq_some_iff.mp h).1
  have dr : s.blocks.drop j = c :: s.blocks.drop (j + 1) := by
    rw [List.drop_eq_getElem_cons l]
    rw [List.getElem?_eq_getElem l] at h
    rw [Option.some.inj h]
  refine ⟨?_, ?_⟩
  · unfold rBl
    rw [dr, List.map_cons, List.sum_cons]
    have : j < 2 := by
      rcases blk3 s with e | ⟨_, e⟩ | ⟨_, _, e⟩ <;> rw [e] at l <;> simp at l <;> omega
    have e2 : j = 0 ∨ j = 1 := by omega
    rcases e2 with rfl | rfl <;> simp <;> omega
  · rw [List.take_add_one, h, List.map_append, List.sum_append]
    simp
set_option pp.deepTerms true in
set_option pp.maxSteps 200000 in
theorem noisy_of (T : Txt K mg w) {m : Nat} (ih : FnOk P w K mg base CX0 (m + 1) T.d_l_noisy_rows.a T.d_l_noisy_rows.d ["_law_tape_here", "_law_rows_here"] (spNRb K m)) : FnOk P w K mg base CX0 (m + 2) T.d_l_noisy_rows.a T.d_l_noisy_rows.d ["_law_tape_here", "_law_rows_here"] (spNR K m) := by
  refine T.d_l_noisy_rows.F.ok sc_l_noisy_rows (fun vs H Q E h => ?_) (fun cdv A outer s H vs Q E hr h => ?_)
  · obtain ⟨_, _, _, _, rfl, _⟩ := h
    rfl
  · obtain ⟨t, v, n, rows, rfl, hd, hw, m9, w20, ht, q⟩ := h
    have hu := hr.units
    refine ⟨_, (pss_cons (ps_set (i := 2) sc_l_noisy_rows.nd rfl (Or.inl rfl) (pe_lst pa_nil))
      (pss_cons (ps_for PassesOwn.never rfl (pi_tup (pv 1)) (pg_name (i := 3) sc_l_noisy_rows.nd rfl (Or.inl rfl)) (pss_cons (ps_expr (pe_bm PySem.F.plainAttrs_list PySem.F.slot_list_append PySem.F.type_list_append mt_append (pv 2) (pa_cons (pe_tup (pa_cons pe_int (pa_cons (pe_call (ok_l_head T) (hr.mono (by omega)) (by rfl) T.d_l_head.g T.d_l_head.F.kp T.d_l_head.b .nil pass0 (pa_cons (pv 3) pa_nil)) pa_nil))) pa_nil)))
      (pss_cons (ps_set (i := 4) sc_l_noisy_rows.nd rfl (Or.inl rfl) (pe_call (ok_l_blocks T) (hr.mono (by omega)) (by rfl) T.d_l_blocks.g T.d_l_blocks.F.kp T.d_l_blocks.b .nil pass0 (pa_cons (pv 3) pa_nil)))
      (pss_cons (ps_for PassesOwn.never rfl (pi_range1 (by rfl) T.z_range (pa_cons (pe_callB call_lenL (by rfl) T.z_len (by decide +kernel) (pa_cons (pv 4) pa_nil)) pa_nil)) (pg_name (i := 5) sc_l_noisy_rows.nd rfl (Or.inl rfl)) (pss_cons (ps_if (PW.pt (pw_and (pt_cmpR op_eq (pv 5) pe_int (nomark _)) (pw_and1 (PW.pt (pw_or (pt_cmpR (op_neD hu) (pe_ix ix_list (pv 4) pe_int (fun _ _ => rfl)) (pe_tup pa_nil) (nomark _)) (pw_or1 (pt_cmpR op_eq (pe_call (ok_l_draw T) (hr.mono (by omega)) (by rfl) T.d_l_draw.g T.d_l_draw.F.kp T.d_l_draw.b .nil pass0 (pa_cons (pv 0) (pa_cons pe_int pa_nil))) pe_int (nomark _)))))))) (pss_one (ps_expr (pe_bm PySem.F.plainAttrs_list PySem.F.slot_list_append PySem.F.type_list_append mt_append (pv 2) (pa_cons (pe_tup (pa_cons pe_int (pa_cons (pe_ix ix_list (pe_lst (pa_cons pe_str (pa_cons pe_str pa_nil))) (pe_callTy call_intB (by rfl) T.z_int (by decide +kernel) (pa_cons (pe_cmpR op_eq (pe_ix ix_tup (pv 3) pe_int (fun _ _ => rfl)) pe_str (nomark _)) pa_nil)) (fun _ _ => rfl)) pa_nil))) pa_nil)))) pss_nil)
      (pss_one (ps_expr (pe_bm PySem.F.plainAttrs_list PySem.F.slot_list_extend PySem.F.type_list_extend mt_extend (pv 2) (pa_cons (pe_call ih (hr.mono (by omega)) (by rfl) T.d_l_noisy_rows.g T.d_l_noisy_rows.F.kp T.d_l_noisy_rows.b .nil pass0 (pa_cons (pv 0) (pa_cons (pe_ix ix_list (pv 4) (pv 5) (fun _ _ => rfl)) pa_nil))) pa_nil))))))
      (pss_one (ps_if (pt_cmpR (op_neNil hu) (pv 4) (pe_lst pa_nil) (nomark _)) (pss_one (ps_expr (pe_bm PySem.F.plainAttrs_list PySem.F.slot_list_append PySem.F.type_list_append mt_append (pv 2) (pa_cons (pe_tup (pa_cons pe_int (pa_cons pe_str pa_nil))) pa_nil)))) pss_nil))))))
      (pss_one (ps_ret (pv 2))))), ?_⟩
    (try simp only [tIxO, rIsB, rNotB, tSeq, tIfS, tTest, tB, tOp, tUn, tVar, tC, tAsg, gName, tRet, tRetN, tCB, tCons, tNil, tLst_eq, tTup_eq, tDNewK_eq, tNext, tPar, tM0, tM1, tSl, tNoPart, tPart, rSlS, tAug, tAugS, tExf_eq, ipI, tChain, tCall, tDrop, tBM, tAnd, tOr, tNot, tAndV, tOrV, tNotV, tIf, tIsN, tNotN, rI, rI0, rU, rEq, rNe, gSub, cx_K, cx_K2, L2.start, wipe, scal_ii, scal_ss, scal_bb, scal_is, scal_si, scal_nn, List.map_cons, List.map_nil, List.length_cons, List.length_nil, List.cons_append, List.nil_append, List.append_nil, List.replicate, List.getElem?_cons_zero, List.getElem?_cons_succ, Option.some.injEq, exists_and_left, exists_eq_left', exists_eq_left, exists_eq, exists_eq', V.int.injEq, V.ref.injEq, V.str.injEq, V.bl.injEq, List.cons.injEq, and_true, true_and, false_and, exists_false, or_false, false_or, reduceCtorEq, List.set_cons_zero, List.set_cons_succ, Nat.reduceAdd, Nat.reduceSub, Int.reduceToNat, decide_eq_true_eq, if_true, if_false, Bool.false_eq_true, Bool.not_true, Bool.not_false, Bool.true_eq_false, ite_false, ite_true, ne_eq, not_false_eq_true, Int.reduceEq])
    refine newL_go fun F H1 n1 s1 r1 => ?_
    have ft : F ≠ t := ht.ne n1
    have A1 : AccT K H t F [] (n + wR rows) H1 := ⟨n1, ft, Same.exT s1, ⟨[], r1, .nil⟩, rfl, Nat.zero_le _, ht.same s1⟩
    obtain ⟨a, xs, rfl, ha, hx⟩ := Dp.tupD hd
    have hl := DpAll.len hx
    rw [encR_len] at hl
    have wtk : ∀ i, wR (rows.take i) + wR (rows.drop i) = wR rows := fun i => by rw [← wR_app, List.take_append_drop]
    have sa : ∀ {H2 : Hp} {ds : List PyData} {k : Nat}, AccT K H t F ds k H2 → SqT K H2 a xs := fun A => SqT.tu (A.ext.tu ht) ha
    refine forTW_go (K := K) (a := a) (xs := xs) (fun i σ2 H2 => ∃ (o3 o4 o5 : Option V) (kz : List Wk), AccT K H t F (kz.map encZ) (n + wR (rows.drop i)) H2 ∧ Nz m (rows.take i) kz (wR (rows.take i)) ∧ σ2 = [some (.ref t), some (.ref a), some (.ref F), o3, o4, o5]) (fun R r => ⟨_, rfl, a, rfl, ⟨_, sa A1⟩, r⟩) (fun i σ2 H2 _ pv => by obtain ⟨_, _, _, _, A2, _⟩ := pv; exact sa A2) ⟨none, none, none, [], A1, ⟨runR_nil m, fun k hk => (by cases hk), Nat.zero_le _, Nat.zero_le _⟩, rfl⟩ (fun i x σ2 H2 e1 pv => ?_) (fun σ2 H2 pv => ?_)
    · obtain ⟨o3, o4, o5, kz, A2, Z2, rfl⟩ := pv
      have hi : i < xs.length := (List.getElem?_eq_some_iff.mp e1).1
      obtain ⟨st, hs⟩ : ∃ st, rows[i]? = some st := ⟨_, List.getElem?_eq_getElem (by omega)⟩
      obtain ⟨x2, hx2, dx⟩ := DpAll.at hx (show (encR rows)[i]? = some (encS st) by rw [encR_map, List.getElem?_map, hs]; rfl)
      rw [e1] at hx2
      cases hx2
      have ws := hw st (List.mem_of_getElem? hs)
      obtain ⟨m', rfl⟩ : ∃ m', m = m' + 1 := by
        cases m with
        | zero => exact ws.elim
        | succ m => exact ⟨m, rfl⟩
      have tk : rows.take (i + 1) = rows.take i ++ [st] := by rw [List.take_add_one, hs]; rfl
      have dr : rows.drop i = st :: rows.drop (i + 1) := by
        rw [List.drop_eq_getElem_cons (by omega)]
        rw [List.getElem?_eq_getElem (by omega)] at hs
        rw [Option.some.inj hs]
      have wd : wR (rows.drop i) = wS st + wR (rows.drop (i + 1)) := by rw [dr, wR]
      have wt : wR (rows.take (i + 1)) = wR (rows.take i) + wS st := by rw [tk, wR_app, wR, wR, Nat.add_zero]
      have wi := wtk i
      have dx2 := Dp.keep (A2.ext.tu ht) dx (pl_s st)
      (try simp only [tIxO, rIsB, rNotB, tSeq, tIfS, tTest, tB, tOp, tUn, tVar, tC, tAsg, gName, tRet, tRetN, tCB, tCons, tNil, tLst_eq, tTup_eq, tDNewK_eq, tNext, tPar, tM0, tM1, tSl, tNoPart, tPart, rSlS, tAug, tAugS, tExf_eq, ipI, tChain, tCall, tDrop, tBM, tAnd, tOr, tNot, tAndV, tOrV, tNotV, tIf, tIsN, tNotN, rI, rI0, rU, rEq, rNe, gSub, cx_K, cx_K2, L2.start, wipe, scal_ii, scal_ss, scal_bb, scal_is, scal_si, scal_nn, List.map_cons, List.map_nil, List.length_cons, List.length_nil, List.cons_append, List.nil_append, List.append_nil, List.replicate, List.getElem?_cons_zero, List.getElem?_cons_succ, Option.some.injEq, exists_and_left, exists_eq_left', exists_eq_left, exists_eq, exists_eq', V.int.injEq, V.ref.injEq, V.str.injEq, V.bl.injEq, List.cons.injEq, and_true, true_and, false_and, exists_false, or_false, false_or, reduceCtorEq, List.set_cons_zero, List.set_cons_succ, Nat.reduceAdd, Nat.reduceSub, Int.reduceToNat, decide_eq_true_eq, if_true, if_false, Bool.false_eq_true, Bool.not_true, Bool.not_false, Bool.true_eq_false, ite_false, ite_true, ne_eq, not_false_eq_true, Int.reduceEq])
      refine ⟨A2.ty, x, st, m', rfl, dx2, ws, fun H3 s3 => ?_⟩
      have A3 := A2.grow s3
      have lz := Z2.len
      refine newTD_go (K := K) (ds := [.int 1, .str (Txt.join " " st.words)]) (.cons (.int _) (.cons (.str _) .nil)) rfl (by simp) fun p4 H4 n4 s4 d4 => ?_
      refine (A3.grow s4).app_go (l := encZ (.hd (.st st))) d4 rfl (by rw [List.length_map]; omega) fun H5 A5 v5 => ?_
      refine ⟨x, st, rfl, Dp.keep (A5.ext.tu ht) dx (pl_s st), fun b ys H6 n6 s6 r6 d6 => ?_⟩
      have A6 := A5.grow s6
      have hyl := DpAll.len d6
      rw [List.length_map] at hyl
      have nbF : b ≠ F := by
        rintro rfl
        obtain ⟨_, r, _⟩ := A5.ex
        rw [r] at n6
        cases n6
      have nbt : b ≠ t := A5.tp.ne n6
      have few2 : st.blocks.length ≤ 2 := (blocks_le st).1
      obtain ⟨wb1, wb2⟩ := ws_blocks st
      have ow := own_words ws.1
      refine forR_go (n := st.blocks.length) (fun R r => ⟨_, rfl, _, rfl, _, .inl (.inl r6), by rw [hyl]; exact r⟩) (by omega) (fun j σ3 H7 => ∃ (o5 : Option V) (kb : List Wk), AccT K H t F ((kz ++ .hd (.st st) :: kb).map encZ) (n + wR (rows.drop (i + 1)) + rBl st j) H7 ∧ BlkR m' st j kb ∧ (∀ k ∈ kb, k.ok) ∧ kb.length ≤ 2 * ((st.blocks.take j).map wR).sum + (j - 1) ∧ cstK kb ≤ 15100 * ((st.blocks.take j).map wR).sum + 18 * (j - 1) ∧ ExT2 t F H6 H7 ∧ σ3 = [some (.ref t), some (.ref a), some (.ref F), some x, some (.ref b), o5]) ⟨_, [], ?_, blkR_0 m' st, fun k hk => (by cases hk), Nat.zero_le _, Nat.zero_le _, fun _ _ _ _ e => e, rfl⟩ ?_ ?_
      · rw [List.map_append]
        refine A6.mono ?_
        have : rBl st 0 = (st.blocks.map wR).sum + 1 := rfl
        omega
      · rintro j σ3 H7 hj ⟨o5, kb, A7, B7, okb, lkb, ckb, v7, rfl⟩
        obtain ⟨c, hc⟩ : ∃ c, st.blocks[j]? = some c := ⟨_, List.getElem?_eq_getElem hj⟩
        obtain ⟨y, hy, dy⟩ := DpAll.at d6 (show (st.blocks.map fun b => PyData.tuple (encR b))[j]? = some (.tuple (encR c)) by rw [List.getElem?_map, hc]; rfl)
        have cw := ws.2 c (List.mem_of_getElem? hc)
        obtain ⟨rb1, rb2⟩ := rBl_step hc
        (try simp only [tIxO, rIsB, rNotB, tSeq, tIfS, tTest, tB, tOp, tUn, tVar, tC, tAsg, gName, tRet, tRetN, tCB, tCons, tNil, tLst_eq, tTup_eq, tDNewK_eq, tNext, tPar, tM0, tM1, tSl, tNoPart, tPart, rSlS, tAug, tAugS, tExf_eq, ipI, tChain, tCall, tDrop, tBM, tAnd, tOr, tNot, tAndV, tOrV, tNotV, tIf, tIsN, tNotN, rI, rI0, rU, rEq, rNe, gSub, cx_K, cx_K2, L2.start, wipe, scal_ii, scal_ss, scal_bb, scal_is, scal_si, scal_nn, List.map_cons, List.map_nil, List.length_cons, List.length_nil, List.cons_append, List.nil_append, List.append_nil, List.replicate, List.getElem?_cons_zero, List.getElem?_cons_succ, Option.some.injEq, exists_and_left, exists_eq_left', exists_eq_left, exists_eq, exists_eq', V.int.injEq, V.ref.injEq, V.str.injEq, V.bl.injEq, List.cons.injEq, and_true, true_and, false_and, exists_false, or_false, false_or, reduceCtorEq, List.set_cons_zero, List.set_cons_succ, Nat.reduceAdd, Nat.reduceSub, Int.reduceToNat, decide_eq_true_eq, if_true, if_false, Bool.false_eq_true, Bool.not_true, Bool.not_false, Bool.true_eq_false, ite_false, ite_true, ne_eq, not_false_eq_true, Int.reduceEq])
        have dL : ∀ d : Bool, (if d then [Wk.dv st.divider] else []).length ≤ 1 := fun d => by cases d <;> simp
        have lsum : ((st.blocks.take (j + 1)).map wR).sum ≤ (st.blocks.map wR).sum := by
          conv => rhs; rw [← List.take_append_drop (j + 1) st.blocks]
          rw [List.map_append, List.sum_append]
          omega
        have wr20 : wS st ≤ 20000 := by omega
        have ix : ∀ {H8 : Hp} {z : V → Hp → Prop}, ExT2 t F H6 H8 → z y H8 → rIxL K (.ref b) (.int (j : Int)) H8 z := fun v8 h => ixM_go (v8 _ _ nbt nbF r6) (atI_nat hy) h
        have dy8 : ∀ {H8 : Hp}, ExT2 t F H6 H8 → Dp K H8 y (.tuple (encR c)) := fun v8 => Dp.keep (A6.tu v8) dy (by simp only [Pl, pl_r])
        have fin : ∀ (d : Bool) (H8 : Hp), AccT K H t F ((kz ++ .hd (.st st) :: (kb ++ if d then [Wk.dv st.divider] else [])).map encZ) (n + wR (rows.drop (i + 1)) + wR c + rBl st (j + 1)) H8 → ExT2 t F H6 H8 → (d = true → j = 1) → (j = 1 → c ≠ [] → d = true) →
            tyV K "list" (V.ref F) H8 ∧ rIxL K (V.ref b) (V.int (j : Int)) H8 fun x H1 => spNRb K (m' + 1) [V.ref t, x] H1 (fun x H1 => rExtend (V.ref F) [x] H1 fun _ H1 => ∃ (o5 : Option V) (kb : List Wk), AccT K H t F ((kz ++ .hd (.st st) :: kb).map encZ) (n + wR (rows.drop (i + 1)) + rBl st (j + 1)) H1 ∧ BlkR m' st (j + 1) kb ∧ (∀ k ∈ kb, k.ok) ∧ kb.length ≤ 2 * ((st.blocks.take (j + 1)).map wR).sum + (j + 1 - 1) ∧ cstK kb ≤ 15100 * ((st.blocks.take (j + 1)).map wR).sum + 18 * (j + 1 - 1) ∧ ExT2 t F H6 H1 ∧ some (V.int (j : Int)) = o5) E0 := by
          intro d H8 A8 v8 h1 h2
          refine ⟨A8.ty, ix v8 ⟨by omega, t, y, n + wR (rows.drop (i + 1)) + rBl st (j + 1), c, rfl, dy8 v8, cw.2, by omega, by omega, A8.tp.mono (by omega), fun b2 ys2 k2 H9 n9 r9 d9 Z9 T9 v9 => ?_⟩⟩
          have A9 := A8.draw T9 v9
          have l9 := Z9.len
          have ld := dL d
          refine A9.ext_go r9 d9 (pl_z _) (by rw [List.length_map, List.length_map, List.length_append, List.length_cons, List.length_append]; omega) fun H10 A10 v10 => ?_
          rw [← List.map_append, List.append_assoc, List.cons_append, List.append_assoc] at A10
          have cd : cstK (if d then [Wk.dv st.divider] else []) ≤ 18 * j := by
            cases d with
            | false => exact Nat.zero_le _
            | true => rw [h1 rfl]; exact Nat.le_refl _
          have ld2 : (if d then [Wk.dv st.divider] else []).length ≤ j := by
            cases d with
            | false => exact Nat.zero_le _
            | true => rw [h1 rfl]; exact Nat.le_refl _
          have c9 := Z9.cst
          have j0 : j = 0 ∨ j = 1 := by omega
          refine ⟨_, kb ++ ((if d then [Wk.dv st.divider] else []) ++ k2), A10, blkR_step B7 hc Z9.run h1 h2, fun k hk => ?_, ?_, ?_, ?_, rfl⟩
          · rcases List.mem_append.mp hk with hk | hk
            · exact okb k hk
            rcases List.mem_append.mp hk with hk | hk
            · cases d with
              | false => cases hk
              | true => cases List.mem_singleton.mp hk; exact dv_word st
            · exact Z9.ok k hk
          · rw [List.length_append, List.length_append, rb2]
            omega
          · rw [cstK_app, cstK_app, rb2]
            omega
          · exact fun p o e1 e2 e => v10 p o e2 (v9 p o e1 (v8 p o e1 e2 e))
        have div : ∀ H8 : Hp, AccT K H t F ((kz ++ .hd (.st st) :: kb).map encZ) (n + wR (rows.drop (i + 1)) + wR c + rBl st (j + 1)) H8 → ExT2 t F H6 H8 → j = 1 →
            tyV K "list" (V.ref F) H8 ∧ NewL [V.str (Str.ofString "else"), V.str (Str.ofString "after")] H8 fun x_4 H1 => rIxT K x (V.int 0) H1 fun x H1 => scal x (V.str (Str.ofString "guard")) = true ∧ rIxL K x_4 (V.int (if x = V.str (Str.ofString "guard") then 1 else 0)) H1 fun x H1 => NewT [V.int 0, x] H1 fun x H1 => rAppend (V.ref F) [x] H1 fun _ H1 => tyV K "list" (V.ref F) H1 ∧ rIxL K (V.ref b) (V.int (j : Int)) H1 fun x H1 => spNRb K (m' + 1) [V.ref t, x] H1 (fun x H1 => rExtend (V.ref F) [x] H1 fun _ H1 => ∃ (o5 : Option V) (kb : List Wk), AccT K H t F ((kz ++ .hd (.st st) :: kb).map encZ) (n + wR (rows.drop (i + 1)) + rBl st (j + 1)) H1 ∧ BlkR m' st (j + 1) kb ∧ (∀ k ∈ kb, k.ok) ∧ kb.length ≤ 2 * ((st.blocks.take (j + 1)).map wR).sum + (j + 1 - 1) ∧ cstK kb ≤ 15100 * ((st.blocks.take (j + 1)).map wR).sum + 18 * (j + 1 - 1) ∧ ExT2 t F H6 H1 ∧ some (V.int (j : Int)) = o5) E0 := by
          intro H8 A8 v8 j1
          refine ⟨A8.ty, newL_go fun e2 H9 n9 s9 r9 => ?_⟩
          obtain ⟨ds, ef⟩ := enc_first st
          have h0 : Dp K H9 x (.tuple (.str st.first :: ds)) := ef ▸ Dp.keep ((A8.grow s9).ext.tu ht) dx (pl_s st)
          refine ixD_go (j := 0) h0 rfl rfl fun y2 dy2 => ?_
          cases Dp.strD dy2
          have len2 : st.blocks.length = 2 := by omega
          have tx : ∃ k : Nat, (if (V.str st.first) = V.str (Str.ofString "guard") then (1 : Int) else 0) = (k : Int) ∧ ([V.str (Str.ofString "else"), V.str (Str.ofString "after")] : List V)[k]? = some (.str st.divider) := by
            rw [two_div st len2]
            by_cases g : st.first = "guard"
            · exact ⟨1, if_pos (by rw [g]), by rw [if_pos g]; rfl⟩
            · exact ⟨0, if_neg (fun z => g (V.str.inj z)), by rw [if_neg g]; rfl⟩
          obtain ⟨k, ek, hk⟩ := tx
          refine ⟨rfl, ?_⟩
          rw [ek]
          refine ixM_go r9 (atI_nat hk) ?_
          refine newTD_go (K := K) (ds := [.int 0, .str st.divider]) (.cons (.int _) (.cons (.str _) .nil)) rfl (by simp) fun p5 H10 n10 s10 d10 => ?_
          have d10 : Dp K H10 (.ref p5) (encZ (.dv st.divider)) := by
            show Dp K H10 _ (.tuple [.int 0, .str (Txt.join " " [st.divider])])
            rw [join_one]
            exact d10
          refine ((A8.grow s9).grow s10).app_go d10 rfl (by rw [List.length_map, List.length_append, List.length_cons]; omega) fun H11 A11 v11 => ?_
          refine fin true H11 ?_ (fun p o e1 e2 e => v11 p o e2 (s10 _ _ (s9 _ _ (v8 p o e1 e2 e)))) (fun _ => j1) (fun _ _ => rfl)
          rw [show (kz ++ Wk.hd (.st st) :: (kb ++ if true = true then [Wk.dv st.divider] else [])) = (kz ++ Wk.hd (.st st) :: kb) ++ [Wk.dv st.divider] by simp, List.map_append]
          exact A11
        have noD : ∀ {H8 : Hp} {k : Nat}, AccT K H t F ((kz ++ .hd (.st st) :: kb).map encZ) k H8 → AccT K H t F ((kz ++ .hd (.st st) :: (kb ++ if false = true then [Wk.dv st.divider] else [])).map encZ) k H8 := fun A => by
          rw [if_neg (by simp), List.append_nil]
          exact A
        have A7' : AccT K H t F ((kz ++ .hd (.st st) :: kb).map encZ) (n + wR (rows.drop (i + 1)) + wR c + rBl st (j + 1)) H7 := A7.mono (by omega)
        refine ite2 (fun z => ?_) (fun z => ?_)
        · have j1 : j = 1 := by omega
          have hy1 : (V.int (j : Int)) = V.int 1 := by rw [j1]; rfl
          rw [← hy1]
          refine ix v7 (newT_go fun e H8 n8 s8 r8 => neT0_go (dp_same s8 (dy8 v7)) (.inl (.inl r8)) ((lay_r cw.2).shaped (by omega)) ⟨_, rfl, ?_⟩)
          refine ite2 (fun z => ?_) (fun z => ?_)
          · exact div H8 (A7'.grow s8) (fun p o e1 e2 e => s8 _ _ (v7 p o e1 e2 e)) j1
          · have ce : c = [] := by
              cases c with
              | nil => rfl
              | cons _ _ => exact absurd rfl z
            have A8 := A7.grow s8
            refine draw_go (A8.tp.mono (m := (n + wR (rows.drop (i + 1)) + wR c + rBl st (j + 1)) + 1) (by rw [if_pos j1] at rb1; omega)) (by decide) (by decide) fun x1 H9 a0 a1 T9 v9 => ?_
            have A9 := A8.draw T9 v9
            have v69 : ExT2 t F H6 H9 := fun p o e1 e2 e => v9 _ _ e1 (s8 _ _ (v7 p o e1 e2 e))
            refine ⟨rfl, ite2 (fun _ => div H9 A9 v69 j1) (fun _ => fin false H9 (noD A9) v69 (fun h => by cases h) (fun _ h => absurd ce h))⟩
        · exact fin false H7 (noD A7') v7 (fun h => by cases h) (fun h => absurd (by rw [h]; rfl) z)
      · rintro σ3 H7 ⟨o5, kb, A7, B7, okb, lkb, ckb, v7, rfl⟩
        (try simp only [tIxO, rIsB, rNotB, tSeq, tIfS, tTest, tB, tOp, tUn, tVar, tC, tAsg, gName, tRet, tRetN, tCB, tCons, tNil, tLst_eq, tTup_eq, tDNewK_eq, tNext, tPar, tM0, tM1, tSl, tNoPart, tPart, rSlS, tAug, tAugS, tExf_eq, ipI, tChain, tCall, tDrop, tBM, tAnd, tOr, tNot, tAndV, tOrV, tNotV, tIf, tIsN, tNotN, rI, rI0, rU, rEq, rNe, gSub, cx_K, cx_K2, L2.start, wipe, scal_ii, scal_ss, scal_bb, scal_is, scal_si, scal_nn, List.map_cons, List.map_nil, List.length_cons, List.length_nil, List.cons_append, List.nil_append, List.append_nil, List.replicate, List.getElem?_cons_zero, List.getElem?_cons_succ, Option.some.injEq, exists_and_left, exists_eq_left', exists_eq_left, exists_eq, exists_eq', V.int.injEq, V.ref.injEq, V.str.injEq, V.bl.injEq, List.cons.injEq, and_true, true_and, false_and, exists_false, or_false, false_or, reduceCtorEq, List.set_cons_zero, List.set_cons_succ, Nat.reduceAdd, Nat.reduceSub, Int.reduceToNat, decide_eq_true_eq, if_true, if_false, Bool.false_eq_true, Bool.not_true, Bool.not_false, Bool.true_eq_false, ite_false, ite_true, ne_eq, not_false_eq_true, Int.reduceEq])
        have rl2 : (st.blocks.take st.blocks.length) = st.blocks := List.take_length
        rw [rl2] at lkb ckb
        have sW : (st.blocks.map wR).sum ≤ wS st := by omega
        have eE : ys.isEmpty = st.blocks.isEmpty := by
          cases ys <;> cases h : st.blocks <;> first | rfl | (rw [h] at hyl; cases hyl)
        have fin : ∀ {H8 : Hp} (k1 : List Wk), AccT K H t F ((kz ++ k1).map encZ) (n + wR (rows.drop (i + 1))) H8 → RunR (m' + 1) [st] k1 → (∀ k ∈ k1, k.ok) → k1.length ≤ 2 * wS st → cstK k1 ≤ 15100 * wS st → ∃ (o3 o4 o5_1 : Option V) (kz : List Wk), AccT K H t F (kz.map encZ) (n + wR (rows.drop (i + 1))) H8 ∧ Nz (m' + 1) (rows.take (i + 1)) kz (wR (rows.take (i + 1))) ∧ some x = o3 ∧ some (V.ref b) = o4 ∧ o5 = o5_1 := by
          intro H8 k1 A R O L C
          refine ⟨_, _, _, kz ++ k1, A, ⟨?_, fun k hk => ?_, ?_, ?_⟩, rfl, rfl, rfl⟩
          · rw [tk]
            exact Z2.run.app R
          · rcases List.mem_append.mp hk with hk | hk
            · exact Z2.ok k hk
            · exact O k hk
          · rw [List.length_append, wt]
            omega
          · have := Z2.cst
            rw [cstK_app, wt]
            omega
        have chd : cstK [Wk.hd (.st st)] ≤ 15078 := by
          show 15 * st.words.length + 3 + 0 ≤ _
          omega
        refine newL_go fun e H8 n8 s8 r8 => eqNilX_go (.inl (.inl (s8 _ _ (v7 _ _ nbt nbF r6)))) (.inl (.inl r8)) ⟨_, rfl, ?_⟩
        have A8 := (A7.grow s8).mono (j := n + wR (rows.drop (i + 1))) (by omega)
        rw [eE]
        refine ite2 (fun z => ?_) (fun z => ?_)
        · have ne : st.blocks ≠ [] := by
            intro h
            rw [h] at z
            simp at z
          have w2 := wb2 ne
          refine ⟨A8.ty, newTD_go (K := K) (ds := [.int 0, .str "end"]) (.cons (.int _) (.cons (.str _) .nil)) rfl (by simp) fun p5 H9 n9 s9 d9 => ?_⟩
          have d9 : Dp K H9 (.ref p5) (encZ .stop) := by
            show Dp K H9 _ (.tuple [.int 0, .str (Txt.join " " ["end"])])
            rw [join_one]
            exact d9
          refine (A8.grow s9).app_go d9 rfl (by rw [List.length_map, List.length_append, List.length_cons]; omega) fun H10 A10 v10 => ?_
          refine fin (.hd (.st st) :: (kb ++ [.stop])) ?_ (blkR_end B7 ne) (fun k hk => ?_) ?_ ?_
          · rw [show kz ++ Wk.hd (.st st) :: (kb ++ [Wk.stop]) = (kz ++ Wk.hd (.st st) :: kb) ++ [Wk.stop] by simp, List.map_append]
            exact A10
          · rcases List.mem_cons.mp hk with rfl | hk
            · exact ws.1
            rcases List.mem_append.mp hk with hk | hk
            · exact okb k hk
            · cases List.mem_singleton.mp hk; exact trivial
          · rw [List.length_cons, List.length_append, List.length_singleton]
            omega
          · rw [show Wk.hd (.st st) :: (kb ++ [Wk.stop]) = [Wk.hd (.st st)] ++ (kb ++ [Wk.stop]) from rfl, cstK_app, cstK_app]
            have : cstK [Wk.stop] = 18 := rfl
            omega
        · have ne : st.blocks = [] := by
            cases h : st.blocks with
            | nil => rfl
            | cons _ _ => rw [h] at z; simp at z
          have ke : kb = [] := by
            rw [ne] at lkb
            exact List.length_eq_zero_iff.mp (by simpa using lkb)
          subst ke
          refine fin [.hd (.st st)] A8 (runR_leaf ne) (fun k hk => ?_) (by simp; omega) (by omega)
          cases List.mem_singleton.mp hk
          exact ws.1
    · obtain ⟨o3, o4, o5, kz, A2, Z2, rfl⟩ := pv
      rw [List.drop_of_length_le (by omega), List.take_of_length_le (by omega), wR, Nat.add_zero] at *
      (try simp only [tIxO, rIsB, rNotB, tSeq, tIfS, tTest, tB, tOp, tUn, tVar, tC, tAsg, gName, tRet, tRetN, tCB, tCons, tNil, tLst_eq, tTup_eq, tDNewK_eq, tNext, tPar, tM0, tM1, tSl, tNoPart, tPart, rSlS, tAug, tAugS, tExf_eq, ipI, tChain, tCall, tDrop, tBM, tAnd, tOr, tNot, tAndV, tOrV, tNotV, tIf, tIsN, tNotN, rI, rI0, rU, rEq, rNe, gSub, cx_K, cx_K2, L2.start, wipe, scal_ii, scal_ss, scal_bb, scal_is, scal_si, scal_nn, List.map_cons, List.map_nil, List.length_cons, List.length_nil, List.cons_append, List.nil_append, List.append_nil, List.replicate, List.getElem?_cons_zero, List.getElem?_cons_succ, Option.some.injEq, exists_and_left, exists_eq_left', exists_eq_left, exists_eq, exists_eq', V.int.injEq, V.ref.injEq, V.str.injEq, V.bl.injEq, List.cons.injEq, and_true, true_and, false_and, exists_false, or_false, false_or, reduceCtorEq, List.set_cons_zero, List.set_cons_succ, Nat.reduceAdd, Nat.reduceSub, Int.reduceToNat, decide_eq_true_eq, if_true, if_false, Bool.false_eq_true, Bool.not_true, Bool.not_false, Bool.true_eq_false, ite_false, ite_true, ne_eq, not_false_eq_true, Int.reduceEq])
      obtain ⟨ys, r, d⟩ := A2.ex
      exact q F ys kz H2 A2.new r d Z2 A2.tp A2.ext

theorem noisy_below (T : Txt K mg w) : FnOk P w K mg base CX0 1 T.d_l_noisy_rows.a T.d_l_noisy_rows.d ["_law_tape_here", "_law_rows_here"] (spNRb K 0) :=
  T.d_l_noisy_rows.F.ok sc_l_noisy_rows (fun vs H Q E h => absurd h.1 (Nat.lt_irrefl 0)) (fun cdv A outer s H vs Q E hr h => absurd h.1 (Nat.lt_irrefl 0))
theorem noisy_lev (T : Txt K mg w) : ∀ m, FnOk P w K mg base CX0 (m + 2) T.d_l_noisy_rows.a T.d_l_noisy_rows.d ["_law_tape_here", "_law_rows_here"] (spNR K m)
  | 0 => noisy_of T (noisy_below T)
  | m + 1 => noisy_of T ((noisy_lev T m).imp fun vs H Q E h => h.2)
theorem ok_l_noisy_rows (T : Txt K mg w) : FnOk P w K mg base CX0 11 T.d_l_noisy_rows.a T.d_l_noisy_rows.d ["_law_tape_here", "_law_rows_here"] (spNR K 9) := noisy_lev T 9

end
end Own

set_option Elab.async false
set_option linter.all false
set_option maxRecDepth 100000
set_option maxHeartbeats 4000000
namespace Own
open PySem PySem.Spec PyProof.Rows L2
section
variable {P : Program} {w : World} {K : PySem.W.Frag} {mg : Str → Option Value} {base : Heap}
theorem ind0 (x : Str) : mulS "  " 0 ++ x = x := tl_ext (by rw [TL.tl_append, mulS_0]; rfl)
theorem first_txt (t : Prt) : ∃ rest, txs (partsL 0 [t]) = .str (Txt.join " " t.words) :: rest := by
  cases t with
  | name i x => exact ⟨[], by show [PyData.str (Str.empty ++ "name" ++ " " ++ i ++ " = " ++ x)] = _; rw [txt4, ind0]; rfl⟩
  | flag i x => exact ⟨[], by show [PyData.str (Str.empty ++ "flag" ++ " " ++ i ++ " = " ++ x)] = _; rw [txt4, ind0]; rfl⟩
  | slot i x => exact ⟨[], by show [PyData.str (Str.empty ++ x ++ " " ++ "slot" ++ " " ++ i)] = _; rw [txt3, ind0]; rfl⟩
  | func i x rows => exact ⟨_, by
      show PyData.str (Str.empty ++ x ++ " " ++ "func" ++ " " ++ i) :: _ = _
      rw [txt3, ind0]
      rfl⟩
theorem pt_words4 (t : Prt) : t.words.length ≤ 4 := by cases t <;> simp [Prt.words]
structure NzP (qs : List Prt) (ks : List Wk) : Prop where
  run : RunP qs ks
  ok : ∀ k ∈ ks, k.ok
  len : ks.length ≤ 200 * qs.length
  cst : cstK ks ≤ 1510000 * qs.length
theorem nzP_nil : NzP [] [] := ⟨runP_nil, fun k hk => (by cases hk), Nat.zero_le _, Nat.zero_le _⟩
theorem NzP.app {a : List Prt} {t : Prt} {ka kb : List Wk} (h : NzP a ka) (r : RunP [t] kb) (o : ∀ k ∈ kb, k.ok) (l : kb.length ≤ 200) (c : cstK kb ≤ 1510000) : NzP (a ++ [t]) (ka ++ kb) := by
  refine ⟨h.run.app r, fun k hk => ?_, ?_, ?_⟩
  · rcases List.mem_append.mp hk with hk | hk
    · exact h.ok k hk
    · exact o k hk
  · have := h.len
    rw [List.length_append, List.length_append, List.length_singleton]
    omega
  · have := h.cst
    rw [cstK_app, List.length_append, List.length_singleton]
    omega
def spNP (K : PySem.W.Frag) : Sp := fun vs H Q _ => ∃ (t : Addr) (v : V) (n : Nat) (ps : List Prt), vs = [.ref t, v] ∧ Dp K H v (encPs ps) ∧ (∀ u ∈ ps, PtF u) ∧ ps.length ≤ 40 ∧ Tape H t (n + 100 * ps.length) ∧ ∀ b ys ks H2, H b = none → H2 b = some (.lst ys) → DpAll K H2 ys (ks.map encZ) → NzP ps ks → Tape H2 t n → ExT t H H2 → Q (.ref b) H2
set_option pp.deepTerms true in
set_option pp.maxSteps 200000 in
theorem ok_l_noisy_parts (T : Txt K mg w) : FnOk P w K mg base CX0 13 T.d_l_noisy_parts.a T.d_l_noisy_parts.d ["_law_tape_here", "_law_parts_here"] (spNP K) := by
  refine T.d_l_noisy_parts.F.ok sc_l_noisy_parts (fun vs H Q E h => ?_) (fun cdv A outer s H vs Q E hr h => ?_)
  · obtain ⟨_, _, _, _, rfl, _⟩ := h
    rfl
  · obtain ⟨t, v, n, ps, rfl, hd, pf, l40, ht, q⟩ := h
    have hu := hr.units
    refine ⟨_, (pss_cons (ps_set (i := 2) sc_l_noisy_parts.nd rfl (Or.inl rfl) (pe_lst pa_nil))
      (pss_cons (ps_for PassesOwn.never rfl (pi_tup (pv 1)) (pg_name (i := 3) sc_l_noisy_parts.nd rfl (Or.inl rfl)) (pss_cons (ps_expr (pe_bm PySem.F.plainAttrs_list PySem.F.slot_list_append PySem.F.type_list_append mt_append (pv 2) (pa_cons (pe_tup (pa_cons pe_int (pa_cons (pe_ix ix_list (pe_call (ok_l_lines T) (hr.mono (by decide)) (by rfl) T.d_l_lines.g T.d_l_lines.F.kp T.d_l_lines.b .nil pass0 (pa_cons (pe_lst (pa_cons (pv 3) pa_nil)) pa_nil)) pe_int (fun _ _ => rfl)) pa_nil))) pa_nil)))
      (pss_one (ps_if (pt_cmpR op_eq (pe_ix ix_tup (pv 3) pe_int (fun _ _ => rfl)) pe_str (nomark _)) (pss_cons (ps_expr (pe_bm PySem.F.plainAttrs_list PySem.F.slot_list_extend PySem.F.type_list_extend mt_extend (pv 2) (pa_cons (pe_call (ok_l_noisy_rows T) (hr.mono (by decide)) (by rfl) T.d_l_noisy_rows.g T.d_l_noisy_rows.F.kp T.d_l_noisy_rows.b .nil pass0 (pa_cons (pv 0) (pa_cons (pe_ix ix_tup (pv 3) pe_int (fun _ _ => rfl)) pa_nil))) pa_nil)))
      (pss_one (ps_expr (pe_bm PySem.F.plainAttrs_list PySem.F.slot_list_append PySem.F.type_list_append mt_append (pv 2) (pa_cons (pe_tup (pa_cons pe_int (pa_cons pe_str pa_nil))) pa_nil))))) pss_nil))))
      (pss_one (ps_ret (pv 2))))), ?_⟩
    (try simp only [tIxO, rIsB, rNotB, tSeq, tIfS, tTest, tB, tOp, tUn, tVar, tC, tAsg, gName, tRet, tRetN, tCB, tCons, tNil, tLst_eq, tTup_eq, tDNewK_eq, tNext, tPar, tM0, tM1, tSl, tNoPart, tPart, rSlS, tAug, tAugS, tExf_eq, ipI, tChain, tCall, tDrop, tBM, tAnd, tOr, tNot, tAndV, tOrV, tNotV, tIf, tIsN, tNotN, rI, rI0, rU, rEq, rNe, gSub, cx_K, cx_K2, L2.start, wipe, scal_ii, scal_ss, scal_bb, scal_is, scal_si, scal_nn, List.map_cons, List.map_nil, List.length_cons, List.length_nil, List.cons_append, List.nil_append, List.append_nil, List.replicate, List.getElem?_cons_zero, List.getElem?_cons_succ, Option.some.injEq, exists_and_left, exists_eq_left', exists_eq_left, exists_eq, exists_eq', V.int.injEq, V.ref.injEq, V.str.injEq, V.bl.injEq, List.cons.injEq, and_true, true_and, false_and, exists_false, or_false, false_or, reduceCtorEq, List.set_cons_zero, List.set_cons_succ, Nat.reduceAdd, Nat.reduceSub, Int.reduceToNat, decide_eq_true_eq, if_true, if_false, Bool.false_eq_true, Bool.not_true, Bool.not_false, Bool.true_eq_false, ite_false, ite_true, ne_eq, not_false_eq_true, Int.reduceEq])
    refine newL_go fun F H1 n1 s1 r1 => ?_
    have ft : F ≠ t := ht.ne n1
    have A1 : AccT K H t F [] (n + 100 * ps.length) H1 := ⟨n1, ft, Same.exT s1, ⟨[], r1, .nil⟩, rfl, Nat.zero_le _, ht.same s1⟩
    obtain ⟨a, xs, rfl, ha, hx⟩ := Dp.tupD hd
    have hl := DpAll.len hx
    rw [List.length_map] at hl
    have sa : ∀ {H2 : Hp} {ds : List PyData} {k : Nat}, AccT K H t F ds k H2 → SqT K H2 a xs := fun A => SqT.tu (A.ext.tu ht) ha
    refine forTW_go (K := K) (a := a) (xs := xs) (fun i σ2 H2 => ∃ (o3 : Option V) (kz : List Wk), AccT K H t F (kz.map encZ) (n + 100 * (ps.length - i)) H2 ∧ NzP (ps.take i) kz ∧ σ2 = [some (.ref t), some (.ref a), some (.ref F), o3]) (fun R r => ⟨_, rfl, a, rfl, ⟨_, sa A1⟩, r⟩) (fun i σ2 H2 _ pv => by obtain ⟨_, _, A2, _⟩ := pv; exact sa A2) ⟨none, [], A1, nzP_nil, rfl⟩ (fun i x σ2 H2 e1 pv => ?_) (fun σ2 H2 pv => ?_)
    · obtain ⟨o3, kz, A2, Z2, rfl⟩ := pv
      have hi : i < xs.length := (List.getElem?_eq_some_iff.mp e1).1
      obtain ⟨pt, hp⟩ : ∃ pt, ps[i]? = some pt := ⟨_, List.getElem?_eq_getElem (by omega)⟩
      obtain ⟨x2, hx2, dx⟩ := DpAll.at hx (show (ps.map encPt)[i]? = some (encPt pt) by rw [List.getElem?_map, hp]; rfl)
      rw [e1] at hx2
      cases hx2
      have pw := pf pt (List.mem_of_getElem? hp)
      have tk : ps.take (i + 1) = ps.take i ++ [pt] := by rw [List.take_add_one, hp]; rfl
      have ltk : (ps.take i).length = i := by rw [List.length_take]; omega
      have zl := Z2.len
      rw [ltk] at zl
      have eb : n + 100 * (ps.length - i) = n + 100 * (ps.length - (i + 1)) + 100 := by omega
      have dx2 : Dp K H2 x (encPt pt) := Dp.keep (A2.ext.tu ht) dx (pl_pt pt)
      (try simp only [tIxO, rIsB, rNotB, tSeq, tIfS, tTest, tB, tOp, tUn, tVar, tC, tAsg, gName, tRet, tRetN, tCB, tCons, tNil, tLst_eq, tTup_eq, tDNewK_eq, tNext, tPar, tM0, tM1, tSl, tNoPart, tPart, rSlS, tAug, tAugS, tExf_eq, ipI, tChain, tCall, tDrop, tBM, tAnd, tOr, tNot, tAndV, tOrV, tNotV, tIf, tIsN, tNotN, rI, rI0, rU, rEq, rNe, gSub, cx_K, cx_K2, L2.start, wipe, scal_ii, scal_ss, scal_bb, scal_is, scal_si, scal_nn, List.map_cons, List.map_nil, List.length_cons, List.length_nil, List.cons_append, List.nil_append, List.append_nil, List.replicate, List.getElem?_cons_zero, List.getElem?_cons_succ, Option.some.injEq, exists_and_left, exists_eq_left', exists_eq_left, exists_eq, exists_eq', V.int.injEq, V.ref.injEq, V.str.injEq, V.bl.injEq, List.cons.injEq, and_true, true_and, false_and, exists_false, or_false, false_or, reduceCtorEq, List.set_cons_zero, List.set_cons_succ, Nat.reduceAdd, Nat.reduceSub, Int.reduceToNat, decide_eq_true_eq, if_true, if_false, Bool.false_eq_true, Bool.not_true, Bool.not_false, Bool.true_eq_false, ite_false, ite_true, ne_eq, not_false_eq_true, Int.reduceEq])
      refine ⟨A2.ty, newL_go fun L H3 n3 s3 r3 => ?_⟩
      have A3 := A2.grow s3
      have psw : PsW [pt] := psw_of (fun u hu => by cases List.mem_singleton.mp hu; exact pw) (by simp)
      have few1 : (partsL 0 [pt]).length ≤ 50000 := by
        have := parts_lenF (ps := [pt]) (k := 0) (fun u hu => by cases List.mem_singleton.mp hu; exact pw)
        rw [List.length_singleton] at this
        omega
      obtain ⟨rest, ef⟩ := first_txt pt
      refine ⟨L, [x], [pt], rfl, .inl (.inl r3), .cons (dp_same s3 dx2) .nil, psw, few1, fun b ys H4 n4 s4 r4 d4 => ?_⟩
      rw [ef] at d4
      have A4 := A3.grow s4
      cases d4 with
      | @cons y0 _ ys0 _ d0 dr =>
      cases Dp.strD d0
      refine ixM_go r4 (atI_nat (j := 0) rfl) ?_
      refine newTD_go (K := K) (ds := [.int 1, .str (Txt.join " " pt.words)]) (.cons (.int _) (.cons (.str _) .nil)) rfl (by simp) fun p5 H5 n5 s5 d5 => ?_
      refine (A4.grow s5).app_go (l := encZ (.hd (.pt pt))) d5 rfl (by rw [List.length_map]; omega) fun H6 A6 v6 => ?_
      have dx6 : Dp K H6 x (encPt pt) := Dp.keep (A6.ext.tu ht) dx (pl_pt pt)
      have chd : cstK [Wk.hd (.pt pt)] ≤ 63 := by
        have := pt_words4 pt
        show 15 * pt.words.length + 3 + 0 ≤ _
        omega
      have fin : ∀ {H8 : Hp} (k1 : List Wk), AccT K H t F ((kz ++ k1).map encZ) (n + 100 * (ps.length - (i + 1))) H8 → RunP [pt] k1 → (∀ k ∈ k1, k.ok) → k1.length ≤ 200 → cstK k1 ≤ 1510000 → ∃ (o3 : Option V) (kz : List Wk), AccT K H t F (kz.map encZ) (n + 100 * (ps.length - (i + 1))) H8 ∧ NzP (ps.take (i + 1)) kz ∧ some x = o3 := by
        intro H8 k1 A R O L C
        exact ⟨_, kz ++ k1, A, by rw [tk]; exact Z2.app R O L C, rfl⟩
      have leaf : (∀ i a rows, pt ≠ .func i a rows) → ∃ (o3 : Option V) (kz : List Wk), AccT K H t F (kz.map encZ) (n + 100 * (ps.length - (i + 1))) H6 ∧ NzP (ps.take (i + 1)) kz ∧ some x = o3 := fun h => by
        refine fin [.hd (.pt pt)] ?_ (runP_leaf h) (fun k hk => ?_) (by simp) (by omega)
        · rw [List.map_append]
          exact A6.mono (by omega)
        · cases List.mem_singleton.mp hk
          exact pw.1
      obtain ⟨ds, ek, _⟩ := part_not pt
      refine ixD_go (j := 0) (d := .str pt.kind) (by rw [← ek]; exact dx6) rfl rfl fun y dy => ?_
      cases Dp.strD dy
      refine ⟨rfl, ?_⟩
      cases pt with
      | name i' x' => exact ite2 (fun z => absurd z (by simp only [Prt.kind]; decide +kernel)) fun _ => leaf (fun _ _ _ h => by cases h)
      | flag i' x' => exact ite2 (fun z => absurd z (by simp only [Prt.kind]; decide +kernel)) fun _ => leaf (fun _ _ _ h => by cases h)
      | slot i' x' => exact ite2 (fun z => absurd z (by simp only [Prt.kind]; decide +kernel)) fun _ => leaf (fun _ _ _ h => by cases h)
      | func i' x' rows =>
        refine ite2 (fun _ => ?_) (fun z => absurd rfl z)
        have d0 : Dp K H6 x (.tuple [.str "func", .str i', .str x', .tuple (encR rows)]) := dx6
        refine ⟨A6.ty, ixD_go (j := 3) d0 rfl rfl fun y2 dy2 => ?_⟩
        have wr : wR rows + 2 ≤ 100 := by
          have := pw.2 0
          simp only [partL, List.length_cons, List.length_append, List.length_nil, len_R] at this
          omega
        refine ⟨t, y2, n + 100 * (ps.length - (i + 1)), rows, rfl, dy2, pw.1.2.2.2, by decide, by omega, A6.tp.mono (by omega), fun b2 ys2 k2 H7 n7 r7 d7 Z7 T7 v7 => ?_⟩
        have A7 := A6.draw T7 v7
        have l7 := Z7.len
        have c7 := Z7.cst
        refine A7.ext_go r7 d7 (pl_z _) (by rw [List.length_map, List.length_append, List.length_map, List.length_singleton]; omega) fun H8 A8 v8 => ?_
        refine ⟨A8.ty, newTD_go (K := K) (ds := [.int 0, .str "end"]) (.cons (.int _) (.cons (.str _) .nil)) rfl (by simp) fun p9 H9 n9 s9 d9 => ?_⟩
        have d9 : Dp K H9 (.ref p9) (encZ .stop) := by
          show Dp K H9 _ (.tuple [.int 0, .str (Txt.join " " ["end"])])
          rw [join_one]
          exact d9
        refine (A8.grow s9).app_go d9 rfl (by rw [List.length_append, List.length_append, List.length_map, List.length_map, List.length_singleton]; omega) fun H10 A10 v10 => ?_
        refine fin (.hd (.pt (.func i' x' rows)) :: (k2 ++ [.stop])) ?_ (runP_func Z7.run) (fun k hk => ?_) ?_ ?_
        · rw [show kz ++ Wk.hd (.pt (.func i' x' rows)) :: (k2 ++ [Wk.stop]) = ((kz ++ [Wk.hd (.pt (.func i' x' rows))]) ++ k2) ++ [Wk.stop] by simp, List.map_append, List.map_append, List.map_append]
          exact A10
        · rcases List.mem_cons.mp hk with rfl | hk
          · exact pw.1
          rcases List.mem_append.mp hk with hk | hk
          · exact Z7.ok k hk
          · cases List.mem_singleton.mp hk; exact trivial
        · rw [List.length_cons, List.length_append, List.length_singleton]
          omega
        · rw [show Wk.hd (.pt (.func i' x' rows)) :: (k2 ++ [Wk.stop]) = [Wk.hd (.pt (.func i' x' rows))] ++ (k2 ++ [Wk.stop]) from rfl, cstK_app, cstK_app]
          have : cstK [Wk.stop] = 18 := rfl
          omega
    · obtain ⟨o3, kz, A2, Z2, rfl⟩ := pv
      (try simp only [tIxO, rIsB, rNotB, tSeq, tIfS, tTest, tB, tOp, tUn, tVar, tC, tAsg, gName, tRet, tRetN, tCB, tCons, tNil, tLst_eq, tTup_eq, tDNewK_eq, tNext, tPar, tM0, tM1, tSl, tNoPart, tPart, rSlS, tAug, tAugS, tExf_eq, ipI, tChain, tCall, tDrop, tBM, tAnd, tOr, tNot, tAndV, tOrV, tNotV, tIf, tIsN, tNotN, rI, rI0, rU, rEq, rNe, gSub, cx_K, cx_K2, L2.start, wipe, scal_ii, scal_ss, scal_bb, scal_is, scal_si, scal_nn, List.map_cons, List.map_nil, List.length_cons, List.length_nil, List.cons_append, List.nil_append, List.append_nil, List.replicate, List.getElem?_cons_zero, List.getElem?_cons_succ, Option.some.injEq, exists_and_left, exists_eq_left', exists_eq_left, exists_eq, exists_eq', V.int.injEq, V.ref.injEq, V.str.injEq, V.bl.injEq, List.cons.injEq, and_true, true_and, false_and, exists_false, or_false, false_or, reduceCtorEq, List.set_cons_zero, List.set_cons_succ, Nat.reduceAdd, Nat.reduceSub, Int.reduceToNat, decide_eq_true_eq, if_true, if_false, Bool.false_eq_true, Bool.not_true, Bool.not_false, Bool.true_eq_false, ite_false, ite_true, ne_eq, not_false_eq_true, Int.reduceEq])
      rw [List.take_of_length_le (by omega)] at Z2
      obtain ⟨ys, r, d⟩ := A2.ex
      exact q F ys kz H2 A2.new r d Z2 (A2.tp.mono (by omega)) A2.ext

end
end Own

set_option Elab.async false
set_option linter.all false
set_option maxRecDepth 100000
set_option maxHeartbeats 4000000
namespace Own
open PySem PySem.Spec PyProof.Rows L2
section
variable {P : Program} {w : World} {K : PySem.W.Frag} {mg : Str → Option Value} {base : Heap}
theorem spl_cat : ∀ (l acc r : List Nat), TL.spl [32] 0 acc (l ++ 32 :: r) = TL.spl [32] 0 acc l ++ TL.spl [32] 0 [] r
  | [], acc, r => by
    rw [List.nil_append, TL.spl_nil, show TL.spl [32] 0 acc (32 :: r) = acc :: TL.spl [32] 0 [] r from TL.spl_hit (by simp [TL.pre])]
    rfl
  | c :: l, acc, r => by
    by_cases h : c = 32
    · subst h
      rw [List.cons_append, show TL.spl [32] 0 acc (32 :: (l ++ 32 :: r)) = acc :: TL.spl [32] 0 [] (l ++ 32 :: r) from TL.spl_hit (by simp [TL.pre]), show TL.spl [32] 0 acc (32 :: l) = acc :: TL.spl [32] 0 [] l from TL.spl_hit (by simp [TL.pre]), spl_cat l [] r]
      rfl
    · rw [List.cons_append, show TL.spl [32] 0 acc (c :: (l ++ 32 :: r)) = TL.spl [32] 0 (acc ++ [c]) (l ++ 32 :: r) from TL.spl_miss (by simp [TL.pre]; omega), show TL.spl [32] 0 acc (c :: l) = TL.spl [32] 0 (acc ++ [c]) l from TL.spl_miss (by simp [TL.pre]; omega), spl_cat l (acc ++ [c]) r]
theorem spl_free : ∀ (l acc : List Nat), 32 ∉ l → TL.spl [32] 0 acc l = [acc ++ l]
  | [], acc, _ => by rw [TL.spl_nil, List.append_nil]
  | c :: l, acc, h => by
    have hc : c ≠ 32 := fun e => h (by rw [e]; exact .head _)
    rw [show TL.spl [32] 0 acc (c :: l) = TL.spl [32] 0 (acc ++ [c]) l from TL.spl_miss (by simp [TL.pre]; omega), spl_free l _ (fun m => h (.tail _ m)), List.append_assoc]
    rfl
theorem spl_short : ∀ (l acc : List Nat), ∀ p ∈ TL.spl [32] 0 acc l, p.length ≤ acc.length + l.length
  | [], acc, p, h => by rw [TL.spl_nil] at h; cases List.mem_singleton.mp h; exact Nat.le_refl _
  | c :: l, acc, p, h => by
    by_cases e : c = 32
    · subst e
      rw [show TL.spl [32] 0 acc (32 :: l) = acc :: TL.spl [32] 0 [] l from TL.spl_hit (by simp [TL.pre])] at h
      rcases List.mem_cons.mp h with rfl | h
      · omega
      · have := spl_short l [] p h
        simp only [List.length_nil, Nat.zero_add] at this
        rw [List.length_cons]
        omega
    · rw [show TL.spl [32] 0 acc (c :: l) = TL.spl [32] 0 (acc ++ [c]) l from TL.spl_miss (by simp [TL.pre]; omega)] at h
      have := spl_short l _ p h
      rw [List.length_append, List.length_singleton] at this
      rw [List.length_cons]
      omega
theorem wl_nil : wl [] = [] := rfl
theorem wl_cat (l r : List Nat) : wl (l ++ 32 :: r) = wl l ++ wl r := by
  unfold wl
  rw [spl_cat, List.filter_append]
theorem wl_sp : ∀ n, wl (List.replicate n 32) = []
  | 0 => rfl
  | n + 1 => by
    have := wl_cat [] (List.replicate n 32)
    rw [List.nil_append] at this
    rw [List.replicate_succ, this, wl_sp n]
    rfl
theorem wl_tail (l : List Nat) (n : Nat) : wl (l ++ List.replicate n 32) = wl l := by
  cases n with
  | zero => rw [List.replicate_zero, List.append_nil]
  | succ n => rw [List.replicate_succ, wl_cat, wl_sp, List.append_nil]
theorem wl_word {w : List Nat} (h : 32 ∉ w) (ne : w.length ≠ 0) : wl w = [w] := by
  unfold wl
  rw [spl_free w [] h, List.nil_append, List.filter_cons_of_pos (by simpa using ne)]
  rfl
/-- empty or with a space at the end -/
def EndS (l : List Nat) : Prop := l = [] ∨ ∃ r, l = r ++ [32]
theorem wl_end {l : List Nat} (h : EndS l) (r : List Nat) : wl (l ++ r) = wl l ++ wl r := by
  rcases h with rfl | ⟨l, rfl⟩
  · rfl
  · rw [List.append_assoc, List.singleton_append, wl_cat, wl_cat, wl_nil, List.append_nil]
theorem endS_sp (l : List Nat) (n : Nat) : EndS (l ++ List.replicate (n + 1) 32) := .inr ⟨l ++ List.replicate n 32, by rw [List.replicate_succ', List.append_assoc]⟩
theorem endS_0 (n : Nat) : EndS (List.replicate n 32) := by
  cases n with
  | zero => exact .inl rfl
  | succ n => exact endS_sp [] n
theorem words_wl (t : Str) : (wordsOf t).map TL.tl = wl (TL.tl t) := by
  unfold wordsOf wl
  rw [← tl_space, ← TL.split_spl _ _ (by rw [tl_space]; simp) (TL.kind_ok (by decide +kernel)), List.filter_map]
  congr 1
  try (refine List.filter_congr fun y _ => ?_
       show (y.length != 0) = ((TL.tl y).length != 0)
       rw [TL.len_tl])
theorem words_eq {t : Str} {ws : List Str} (h : wl (TL.tl t) = ws.map TL.tl) : wordsOf t = ws := map_tl_inj (by rw [words_wl, h])
theorem split_short (t : Str) : ∀ y ∈ Txt.split t " ", y.length ≤ t.length := fun y hy => by
  have h : TL.tl y ∈ (Txt.split t " ").map TL.tl := List.mem_map.mpr ⟨y, hy, rfl⟩
  rw [TL.split_spl _ _ (by rw [tl_space]; simp) (TL.kind_ok (by decide +kernel)), tl_space] at h
  have := spl_short _ _ _ h
  rw [List.length_nil, Nat.zero_add] at this
  rw [TL.len_tl y, TL.len_tl t]
  exact this
/-- no blank but the space -/
def Blk (l : List Nat) : Prop := ∀ c ∈ l, c = 32 ∨ PySem.Unicode.isSpace c = false
theorem blk_app {a b : List Nat} (h : Blk a) (g : Blk b) : Blk (a ++ b) := fun c hc => (List.mem_append.mp hc).elim (h c) (g c)
theorem blk_sp (n : Nat) : Blk (List.replicate n 32) := fun c hc => .inl (List.eq_of_mem_replicate hc)
theorem blk_no10 {l : List Nat} (h : Blk l) : 10 ∉ l := fun m => by
  rcases h 10 m with e | e
  · cases e
  · exact absurd e (by decide +kernel)
theorem sgn_nosp : ∀ c, sgn c = true → PySem.Unicode.isSpace c = false := by
  intro c h
  have : (48 ≤ c ∧ c ≤ 57) ∨ (97 ≤ c ∧ c ≤ 122) := by
    simp only [sgn, ltr, dgt, Bool.or_eq_true, Bool.and_eq_true, decide_eq_true_eq] at h
    omega
  exact PySem.W.KWk.nosp (by omega) (by omega)
theorem wk_blk {k : Wk} (o : k.ok) : ∀ x ∈ k.words, Blk (TL.tl x) := by
  have z : ∀ x ∈ kwL, ((TL.tl x).all fun c => !PySem.Unicode.isSpace c) = true := by decide +kernel
  refine wk_all (P := fun x => Blk (TL.tl x)) (fun x h => ?_) (fun x hx => ?_) o
  · intro c hc
    exact .inr (sgn_nosp c (List.all_eq_true.mp (word_all h) c hc))
  · intro c hc
    have := List.all_eq_true.mp (z x hx) c hc
    exact .inr (by simpa using this)
theorem take_while_rev {p : Nat → Bool} (l : List Nat) : ∃ a, l = a ++ (l.reverse.takeWhile p).reverse ∧ a.length = l.length - (l.reverse.takeWhile p).length := by
  have e : l.reverse = l.reverse.takeWhile p ++ l.reverse.dropWhile p := List.takeWhile_append_dropWhile.symm
  have e2 := congrArg List.reverse e
  rw [List.reverse_reverse, List.reverse_append] at e2
  refine ⟨_, e2, ?_⟩
  have := congrArg List.length e2
  rw [List.length_append, List.length_reverse (as := l.reverse.takeWhile p)] at this
  omega
theorem mem_tw {p : Nat → Bool} : ∀ (l : List Nat) {c : Nat}, c ∈ l.takeWhile p → p c = true ∧ c ∈ l
  | x :: l, c, h => by
    rw [List.takeWhile_cons] at h
    split at h
    · rename_i e
      rcases List.mem_cons.mp h with rfl | h
      · exact ⟨e, .head _⟩
      · exact ⟨(mem_tw l h).1, .tail _ (mem_tw l h).2⟩
    · cases h
theorem rstrip_tl {z : Str} (h : Blk (TL.tl z)) : ∃ n, TL.tl z = TL.tl (Txt.rstrip z) ++ List.replicate n 32 := by
  obtain ⟨a, e, la⟩ := take_while_rev (p := PySem.Unicode.isSpace) (TL.tl z)
  have sp : ∀ c ∈ ((TL.tl z).reverse.takeWhile PySem.Unicode.isSpace), c = 32 := fun c hc => by
    have h1 : PySem.Unicode.isSpace c = true := (mem_tw _ hc).1
    have h2 : c ∈ TL.tl z := List.mem_reverse.mp (mem_tw _ hc).2
    rcases h c h2 with e | e
    · exact e
    · rw [h1] at e; cases e
  have er : ((TL.tl z).reverse.takeWhile PySem.Unicode.isSpace).reverse = List.replicate ((TL.tl z).reverse.takeWhile PySem.Unicode.isSpace).length 32 := by
    rw [List.eq_replicate_iff]
    exact ⟨by rw [List.length_reverse], fun c hc => sp c (List.mem_reverse.mp hc)⟩
  rw [er] at e
  have hi : stripHi PySem.Unicode.isSpace true z 0 = a.length := by
    rw [la]
    unfold stripHi
    rw [if_pos rfl, TL.len_tl z]
    rfl
  have ts : TL.tl (stripped PySem.Unicode.isSpace false true z) = a := by
    show ((z.cps.extract 0 (stripHi PySem.Unicode.isSpace true z 0))).toList = a
    rw [hi, Array.toList_extract, List.extract_eq_take_drop, List.drop_zero, Nat.sub_zero]
    show (TL.tl z).take a.length = a
    rw [e, List.take_left]
  unfold Txt.rstrip Txt.stripBy
  by_cases c : stripSame PySem.Unicode.isSpace false true z = true
  · rw [if_pos c]
    exact ⟨0, by rw [List.replicate_zero, List.append_nil]⟩
  · rw [if_neg c, ts]
    exact ⟨_, e⟩

end
end Own

set_option Elab.async false
set_option linter.all false
set_option maxRecDepth 100000
set_option maxHeartbeats 4000000
namespace Own
open PySem PySem.Spec PyProof.Rows L2
section
variable {P : Program} {w : World} {K : PySem.W.Frag} {mg : Str → Option Value} {base : Heap}
def spSp (K : PySem.W.Frag) : Sp := fun vs H Q _ => ∃ (t : Addr) (ws : List Str) (n : Nat), vs = [.ref t, .str (Txt.join " " ws)] ∧ ws ≠ [] ∧ (∀ x ∈ ws, Cln x ∧ Blk (TL.tl x)) ∧ ws.length ≤ 1010 ∧ Tape H t (n + ws.length + 2) ∧ ∀ z H2, wordsOf z = ws → Blk (TL.tl z) → z.length ≤ 15 * ws.length + 3 → Tape H2 t n → ExT t H H2 → Q (.str z) H2
theorem join_lenS (ws : List Str) (h : ∀ x ∈ ws, x.length ≤ 12) : (Txt.join " " ws).length ≤ 13 * ws.length := by
  have a : (Txt.join " " ws).length ≤ (ws.map (·.length)).sum + ws.length := by
    rw [TL.join_eq]
    exact join_len2 ws
  have b : ∀ xs : List Str, (∀ x ∈ xs, x.length ≤ 12) → (xs.map (·.length)).sum ≤ 12 * xs.length := fun xs => by
    induction xs with
    | nil => intro _; simp
    | cons x xs ih =>
      intro h
      have a := ih fun y hy => h y (.tail _ hy)
      have b := h x (.head _)
      rw [List.map_cons, List.sum_cons, List.length_cons]
      omega
  have := b ws h
  omega
theorem tl_sps (n : Nat) : TL.tl (mulS " " n) = List.replicate n 32 := by
  rw [tl_mulS, tl_space]
  induction n with
  | zero => rfl
  | succ n ih => rw [List.replicate_succ, List.flatten_cons, ih]; rfl
set_option pp.deepTerms true in
set_option pp.maxSteps 200000 in
theorem ok_l_spaced (T : Txt K mg w) : FnOk P w K mg base CX0 2 T.d_l_spaced.a T.d_l_spaced.d ["_law_tape_here", "_law_text"] (spSp K) := by
  refine T.d_l_spaced.F.ok sc_l_spaced (fun vs H Q E h => ?_) (fun cdv A outer s H vs Q E hr h => ?_)
  · obtain ⟨_, _, _, rfl, _⟩ := h
    rfl
  · obtain ⟨t, ws, n, rfl, ne, hw, l10, ht, q⟩ := h
    have hu := hr.units
    refine ⟨_, (pss_cons (ps_set (i := 2) sc_l_spaced.nd rfl (Or.inl rfl) (pe_op op_mulS pe_str (pe_call (ok_l_draw T) (hr.mono (by decide)) (by rfl) T.d_l_draw.g T.d_l_draw.F.kp T.d_l_draw.b .nil pass0 (pa_cons (pv 0) (pa_cons pe_int pa_nil)))))
      (pss_cons (ps_for PassesOwn.never rfl (pi_list (pe_split (pv 1) pe_str)) (pg_name (i := 3) sc_l_spaced.nd rfl (Or.inl rfl)) (pss_one (ps_set (i := 2) sc_l_spaced.nd rfl (Or.inl rfl) (pe_op op_add_str (pe_op op_add_str (pv 2) (pv 3)) (pe_op op_mulS pe_str (pe_op op_add pe_int (pe_call (ok_l_draw T) (hr.mono (by decide)) (by rfl) T.d_l_draw.g T.d_l_draw.F.kp T.d_l_draw.b .nil pass0 (pa_cons (pv 0) (pa_cons pe_int pa_nil)))))))))
      (pss_cons (ps_if (pt_cmpR op_eq (pe_call (ok_l_draw T) (hr.mono (by decide)) (by rfl) T.d_l_draw.g T.d_l_draw.F.kp T.d_l_draw.b .nil pass0 (pa_cons (pv 0) (pa_cons pe_int pa_nil))) pe_int (nomark _)) (pss_one (ps_ret (pe_m0 PySem.F.slot_str_rstrip PySem.F.type_str_rstrip mt_rstrip (pv 2)))) pss_nil)
      (pss_one (ps_ret (pv 2)))))), ?_⟩
    (try simp only [tIxO, rIsB, rNotB, tSeq, tIfS, tTest, tB, tOp, tUn, tVar, tC, tAsg, gName, tRet, tRetN, tCB, tCons, tNil, tLst_eq, tTup_eq, tDNewK_eq, tNext, tPar, tM0, tM1, tSl, tNoPart, tPart, rSlS, tAug, tAugS, tExf_eq, ipI, tChain, tCall, tDrop, tBM, tAnd, tOr, tNot, tAndV, tOrV, tNotV, tIf, tIsN, tNotN, rI, rI0, rU, rEq, rNe, gSub, cx_K, cx_K2, L2.start, wipe, scal_ii, scal_ss, scal_bb, scal_is, scal_si, scal_nn, List.map_cons, List.map_nil, List.length_cons, List.length_nil, List.cons_append, List.nil_append, List.append_nil, List.replicate, List.getElem?_cons_zero, List.getElem?_cons_succ, Option.some.injEq, exists_and_left, exists_eq_left', exists_eq_left, exists_eq, exists_eq', V.int.injEq, V.ref.injEq, V.str.injEq, V.bl.injEq, List.cons.injEq, and_true, true_and, false_and, exists_false, or_false, false_or, reduceCtorEq, List.set_cons_zero, List.set_cons_succ, Nat.reduceAdd, Nat.reduceSub, Int.reduceToNat, decide_eq_true_eq, if_true, if_false, Bool.false_eq_true, Bool.not_true, Bool.not_false, Bool.true_eq_false, ite_false, ite_true, ne_eq, not_false_eq_true, Int.reduceEq])
    have jl := join_lenS ws fun x hx => (hw x hx).1.2.2
    have sz : 200000 ≤ sizeLine := by decide
    refine draw_go (ht.mono (m := (n + ws.length + 1) + 1) (by omega)) (by decide) (by decide) fun x1 H1 a0 a1 T1 v1 => ?_
    refine ⟨" ", x1.toNat, rfl, by rw [show x1 = ((x1.toNat : Nat) : Int) by omega]; rfl, by decide +kernel, by decide +kernel, by omega, ?_⟩
    have sp : Txt.split (Txt.join " " ws) " " = ws := by
      have := split_words ne (fun x hx => (hw x hx).1) 0
      rw [ind0] at this
      exact this
    refine forLB_go (K := K) (fun b ys H2 => H1 b = none ∧ Same H1 H2 ∧ H2 b = some (.lst ys) ∧ ys = ws.map V.str) (fun _ _ _ c => .inl (.inl c.2.2.1)) (fun R r => ?_) (fun b ys H2 ⟨nb, s2, rb, eys⟩ => ?_)
    · show tM1 _ _ _ _ _ _
      refine ⟨_, rfl, ⟨_, rfl⟩, Txt.join " " ws, rfl, " ", rfl, by decide +kernel, by omega, fun p np => ?_⟩
      rw [sp]
      exact r p _ _ ⟨np, same_new np, upd_same, rfl⟩
    · subst eys
      have bt : b ≠ t := T1.ne nb
      refine forLW_go (K := K) (a := b) (xs := ws.map V.str) (fun i σ2 H3 => ∃ (z : Str) (o3 : Option V), wl (TL.tl z) = (ws.take i).map TL.tl ∧ EndS (TL.tl z) ∧ Blk (TL.tl z) ∧ z.length ≤ 15 * i + 3 ∧ Tape H3 t (n + (ws.length - i) + 1) ∧ ExT t H H3 ∧ ExT t H2 H3 ∧ σ2 = [some (.ref t), some (.str (Txt.join " " ws)), some (.str z), o3]) (fun i σ2 H3 _ pv => ?_) ⟨_, none, ?_, ?_, ?_, ?_, ?_, v1.same s2, .refl _ _, rfl⟩ (fun i x σ2 H3 e1 pv => ?_) (fun σ2 H3 pv => ?_)
      · obtain ⟨_, _, _, _, _, _, _, _, v3, _⟩ := pv
        exact .inl (.inl (v3 _ _ bt rb))
      · rw [tl_sps, wl_sp]
        rfl
      · rw [tl_sps]
        exact endS_0 _
      · rw [tl_sps]
        exact blk_sp _
      · rw [len_mulS, show (" " : Str).length = 1 from rfl]
        omega
      · exact (T1.same s2).mono (by omega)
      · obtain ⟨z, o3, w3, en, bk, lz, T3, vH, v3, rfl⟩ := pv
        rw [List.getElem?_map] at e1
        obtain ⟨wd, hwd, rfl⟩ := Option.map_eq_some_iff.mp e1
        have hi : i < ws.length := (List.getElem?_eq_some_iff.mp hwd).1
        obtain ⟨cl, bl⟩ := hw wd (List.mem_of_getElem? hwd)
        have l12 := cl.2.2
        (try simp only [tIxO, rIsB, rNotB, tSeq, tIfS, tTest, tB, tOp, tUn, tVar, tC, tAsg, gName, tRet, tRetN, tCB, tCons, tNil, tLst_eq, tTup_eq, tDNewK_eq, tNext, tPar, tM0, tM1, tSl, tNoPart, tPart, rSlS, tAug, tAugS, tExf_eq, ipI, tChain, tCall, tDrop, tBM, tAnd, tOr, tNot, tAndV, tOrV, tNotV, tIf, tIsN, tNotN, rI, rI0, rU, rEq, rNe, gSub, cx_K, cx_K2, L2.start, wipe, scal_ii, scal_ss, scal_bb, scal_is, scal_si, scal_nn, List.map_cons, List.map_nil, List.length_cons, List.length_nil, List.cons_append, List.nil_append, List.append_nil, List.replicate, List.getElem?_cons_zero, List.getElem?_cons_succ, Option.some.injEq, exists_and_left, exists_eq_left', exists_eq_left, exists_eq, exists_eq', V.int.injEq, V.ref.injEq, V.str.injEq, V.bl.injEq, List.cons.injEq, and_true, true_and, false_and, exists_false, or_false, false_or, reduceCtorEq, List.set_cons_zero, List.set_cons_succ, Nat.reduceAdd, Nat.reduceSub, Int.reduceToNat, decide_eq_true_eq, if_true, if_false, Bool.false_eq_true, Bool.not_true, Bool.not_false, Bool.true_eq_false, ite_false, ite_true, ne_eq, not_false_eq_true, Int.reduceEq])
        refine ⟨by omega, ?_⟩
        refine draw_go (T3.mono (m := (n + (ws.length - (i + 1)) + 1) + 1) (by omega)) (by decide) (by decide) fun x2 H4 b0 b1 T4 v4 => ?_
        obtain ⟨d, hd⟩ : ∃ d : Nat, x2 = (d : Int) := ⟨x2.toNat, by omega⟩
        subst hd
        have lm : (mulS " " (d + 1)).length = d + 1 := by rw [len_mulS, show (" " : Str).length = 1 from rfl]; omega
        refine ⟨d, rfl, " ", d + 1, rfl, by rw [show (1 : Int) + (d : Int) = ((d + 1 : Nat) : Int) by omega], by decide +kernel, by decide +kernel, by omega, ?_⟩
        have e : TL.tl (z ++ wd ++ mulS " " (d + 1)) = TL.tl z ++ TL.tl wd ++ List.replicate (d + 1) 32 := by rw [TL.tl_append, TL.tl_append, tl_sps]
        have fin : wl (TL.tl (z ++ wd ++ mulS " " (d + 1))) = (ws.take (i + 1)).map TL.tl := by
          rw [e, wl_tail, wl_end en, w3, wl_word (cln_no cl (by simp)) (by rw [← TL.len_tl]; exact cl.2.1), List.take_add_one, hwd, List.map_append]
          rfl
        refine ⟨_, rfl, by rw [len_app2, lm]; omega, _, fin, ?_, ?_, ?_, T4, vH.trans v4, v3.trans v4, rfl⟩
        · rw [e]
          exact endS_sp _ d
        · rw [e]
          exact blk_app (blk_app bk bl) (blk_sp _)
        · rw [len_app2, len_app2, lm]
          omega
      · obtain ⟨z, o3, w3, en, bk, lz, T3, vH, v3, rfl⟩ := pv
        rw [List.length_map] at w3 lz T3
        rw [List.take_length] at w3
        have T3 := T3.mono (m := n + 1) (by omega)
        (try simp only [tIxO, rIsB, rNotB, tSeq, tIfS, tTest, tB, tOp, tUn, tVar, tC, tAsg, gName, tRet, tRetN, tCB, tCons, tNil, tLst_eq, tTup_eq, tDNewK_eq, tNext, tPar, tM0, tM1, tSl, tNoPart, tPart, rSlS, tAug, tAugS, tExf_eq, ipI, tChain, tCall, tDrop, tBM, tAnd, tOr, tNot, tAndV, tOrV, tNotV, tIf, tIsN, tNotN, rI, rI0, rU, rEq, rNe, gSub, cx_K, cx_K2, L2.start, wipe, scal_ii, scal_ss, scal_bb, scal_is, scal_si, scal_nn, List.map_cons, List.map_nil, List.length_cons, List.length_nil, List.cons_append, List.nil_append, List.append_nil, List.replicate, List.getElem?_cons_zero, List.getElem?_cons_succ, Option.some.injEq, exists_and_left, exists_eq_left', exists_eq_left, exists_eq, exists_eq', V.int.injEq, V.ref.injEq, V.str.injEq, V.bl.injEq, List.cons.injEq, and_true, true_and, false_and, exists_false, or_false, false_or, reduceCtorEq, List.set_cons_zero, List.set_cons_succ, Nat.reduceAdd, Nat.reduceSub, Int.reduceToNat, decide_eq_true_eq, if_true, if_false, Bool.false_eq_true, Bool.not_true, Bool.not_false, Bool.true_eq_false, ite_false, ite_true, ne_eq, not_false_eq_true, Int.reduceEq])
        refine draw_go T3 (by decide) (by decide) fun x2 H4 b0 b1 T4 v4 => ?_
        refine ⟨rfl, ite2 (fun _ => ?_) (fun _ => ?_)⟩
        · refine ⟨by omega, ?_⟩
          obtain ⟨m, em⟩ := rstrip_tl bk
          have lr : (Txt.rstrip z).length ≤ z.length := by
            have := congrArg List.length em
            rw [List.length_append, ← TL.len_tl, ← TL.len_tl] at this
            omega
          refine q _ _ (words_eq ?_) (fun c hc => bk c (by rw [em]; exact List.mem_append_left _ hc)) (by omega) T4 (vH.trans v4)
          rw [← w3, em, wl_tail]
        · exact q z _ (words_eq w3) bk (by omega) T4 (vH.trans v4)

end
end Own

set_option Elab.async false
set_option linter.all false
set_option maxRecDepth 100000
set_option maxHeartbeats 4000000
namespace Own
open PySem PySem.Spec PyProof.Rows L2
section
variable {P : Program} {w : World} {K : PySem.W.Frag} {mg : Str → Option Value} {base : Heap}
def notesL : List Str := ["", " ", "#", "# end", "#end", "  # name x = y", "#else #", "   "]
theorem notes_is : ∀ z ∈ notesL, LineIs z none ∧ z.length ≤ 14 ∧ 10 ∉ TL.tl z := by
  have h : ∀ z ∈ notesL, ((match wordsOf z with | [] => true | x :: _ => Txt.startswith x "#") && decide (z.length ≤ 14) && !(TL.tl z).contains 10) = true := by decide +kernel
  intro z hz
  have e := h z hz
  simp only [Bool.and_eq_true, decide_eq_true_eq] at e
  refine ⟨?_, e.1.2, fun m => by
    have := e.2
    rw [List.contains_iff_mem.mpr m] at this
    cases this⟩
  have e1 := e.1.1
  show wordsOf z = [] ∨ ∃ x r, wordsOf z = x :: r ∧ Txt.startswith x "#" = true
  cases w : wordsOf z with
  | nil => exact .inl rfl
  | cons x r =>
    rw [w] at e1
    exact .inr ⟨x, r, rfl, e1⟩
def spNo (K : PySem.W.Frag) : Sp := fun vs H Q _ => ∃ (t : Addr) (n : Nat), vs = [.ref t] ∧ Tape H t (n + 4) ∧ ∀ b (zs : List Str) H2, H b = none → H2 b = some (.lst (zs.map V.str)) → (∀ z ∈ zs, z ∈ notesL) → zs.length ≤ 2 → Tape H2 t n → ExT t H H2 → Q (.ref b) H2
set_option pp.deepTerms true in
set_option pp.maxSteps 200000 in
theorem ok_l_noise (T : Txt K mg w) : FnOk P w K mg base CX0 2 T.d_l_noise.a T.d_l_noise.d ["_law_tape_here"] (spNo K) := by
  refine T.d_l_noise.F.ok sc_l_noise (fun vs H Q E h => ?_) (fun cdv A outer s H vs Q E hr h => ?_)
  · obtain ⟨_, _, rfl, _⟩ := h
    rfl
  · obtain ⟨t, n, rfl, ht, q⟩ := h
    have hu := hr.units
    refine ⟨_, (pss_cons (ps_set (i := 1) sc_l_noise.nd rfl (Or.inr rfl) (pe_lst (pa_cons pe_str (pa_cons pe_str (pa_cons pe_str (pa_cons pe_str (pa_cons pe_str (pa_cons pe_str (pa_cons pe_str (pa_cons pe_str pa_nil))))))))))
      (pss_one (ps_ret (pe_lc (own := [("_law_step", 2)]) (g := gName 2) (tt := tYes) (by rfl) sc_l_noise.nd (pi_range1 (by rfl) T.z_range (pa_cons (pe_op op_mul (pe_call (ok_l_draw T) (hr.mono (by decide)) (by rfl) T.d_l_draw.g T.d_l_draw.F.kp T.d_l_draw.b .nil pass0 (pa_cons (pv 0) (pa_cons pe_int pa_nil))) (pe_callTy call_intB (by rfl) T.z_int (by decide +kernel) (pa_cons (pe_cmpR op_eq (pe_call (ok_l_draw T) (hr.mono (by decide)) (by rfl) T.d_l_draw.g T.d_l_draw.F.kp T.d_l_draw.b .nil pass0 (pa_cons (pv 0) (pa_cons pe_int pa_nil))) pe_int (nomark _)) pa_nil))) pa_nil)) (blkOk_by (own := [("_law_step", 2)]) (N := ["_law_tape_here", "_law_notes", "_law_step"]) (sc := defScope s_l_noise) (by decide +kernel)) (fun _ _ _ _ _ => pg_name (i := 2) sc_l_noise.nd rfl (Or.inl rfl)) (fun _ _ _ _ _ => pts_nil) (fun _ _ _ _ _ => (pe_ix ixB_list (pv 1) (pe_call (ok_l_draw T) (hr.mono (by decide)) (by rfl) T.d_l_draw.g T.d_l_draw.F.kp T.d_l_draw.b .nil pass0 (pa_cons (pv 0) (pa_cons pe_int pa_nil))) (fun _ _ => rfl))))))), ?_⟩
    (try simp only [tIxO, rIsB, rNotB, tSeq, tIfS, tTest, tB, tOp, tUn, tVar, tC, tAsg, gName, tRet, tRetN, tCB, tCons, tNil, tLst_eq, tTup_eq, tDNewK_eq, tNext, tPar, tM0, tM1, tSl, tNoPart, tPart, rSlS, tAug, tAugS, tExf_eq, ipI, tChain, tCall, tDrop, tBM, tAnd, tOr, tNot, tAndV, tOrV, tNotV, tIf, tIsN, tNotN, rI, rI0, rU, rEq, rNe, gSub, cx_K, cx_K2, L2.start, wipe, scal_ii, scal_ss, scal_bb, scal_is, scal_si, scal_nn, List.map_cons, List.map_nil, List.length_cons, List.length_nil, List.cons_append, List.nil_append, List.append_nil, List.replicate, List.getElem?_cons_zero, List.getElem?_cons_succ, Option.some.injEq, exists_and_left, exists_eq_left', exists_eq_left, exists_eq, exists_eq', V.int.injEq, V.ref.injEq, V.str.injEq, V.bl.injEq, List.cons.injEq, and_true, true_and, false_and, exists_false, or_false, false_or, reduceCtorEq, List.set_cons_zero, List.set_cons_succ, Nat.reduceAdd, Nat.reduceSub, Int.reduceToNat, decide_eq_true_eq, if_true, if_false, Bool.false_eq_true, Bool.not_true, Bool.not_false, Bool.true_eq_false, ite_false, ite_true, ne_eq, not_false_eq_true, Int.reduceEq])
    refine newL_go fun L H1 n1 s1 r1 => ?_
    have r1 : H1 L = some (.lst (notesL.map V.str)) := r1
    have T1 := ht.same s1
    have Lt : L ≠ t := ht.ne n1
    refine lcRI_go (Cond := fun k H3 => k ≤ 2 ∧ Tape H3 t (n + 2) ∧ ExT t H1 H3) (fun k D i acc H' => ∃ c : List Str, acc = c.map V.str ∧ (∀ y ∈ c, y ∈ notesL) ∧ c.length = i ∧ k ≤ 2 ∧ Tape H' t (n + 2 - i) ∧ ExT t H1 H' ∧ H1 D = none) (fun R r => ?_) (fun k H1 z => by omega) (fun k HC D H' z nD s rD => ⟨[], rfl, (fun y hy => by cases hy), rfl, z.1, z.2.1.same s, z.2.2.same s, ?_⟩) (fun k D i acc H' hi hk rD la p => ?_) (fun k D H' acc rD la p => ?_)
    · (try simp only [tIxO, rIsB, rNotB, tSeq, tIfS, tTest, tB, tOp, tUn, tVar, tC, tAsg, gName, tRet, tRetN, tCB, tCons, tNil, tLst_eq, tTup_eq, tDNewK_eq, tNext, tPar, tM0, tM1, tSl, tNoPart, tPart, rSlS, tAug, tAugS, tExf_eq, ipI, tChain, tCall, tDrop, tBM, tAnd, tOr, tNot, tAndV, tOrV, tNotV, tIf, tIsN, tNotN, rI, rI0, rU, rEq, rNe, gSub, cx_K, cx_K2, L2.start, wipe, scal_ii, scal_ss, scal_bb, scal_is, scal_si, scal_nn, List.map_cons, List.map_nil, List.length_cons, List.length_nil, List.cons_append, List.nil_append, List.append_nil, List.replicate, List.getElem?_cons_zero, List.getElem?_cons_succ, Option.some.injEq, exists_and_left, exists_eq_left', exists_eq_left, exists_eq, exists_eq', V.int.injEq, V.ref.injEq, V.str.injEq, V.bl.injEq, List.cons.injEq, and_true, true_and, false_and, exists_false, or_false, false_or, reduceCtorEq, List.set_cons_zero, List.set_cons_succ, Nat.reduceAdd, Nat.reduceSub, Int.reduceToNat, decide_eq_true_eq, if_true, if_false, Bool.false_eq_true, Bool.not_true, Bool.not_false, Bool.true_eq_false, ite_false, ite_true, ne_eq, not_false_eq_true, Int.reduceEq])
      refine draw_go (T1.mono (m := (n + 3) + 1) (by omega)) (by decide) (by decide) fun x1 H3 a0 a1 T3 v3 => ?_
      refine draw_go (T3.mono (m := (n + 2) + 1) (by omega)) (by decide) (by decide) fun x2 H4 b0 b1 T4 v4 => ?_
      obtain ⟨e9, he9, hz9⟩ : ∃ e9 : Int, (if V.int x2 = V.int 0 then (1 : Int) else 0) = e9 ∧ (e9 = 0 ∨ e9 = 1) := ⟨_, rfl, by split <;> simp⟩
      rw [he9]
      have e8 : ∃ k : Nat, x1 * e9 = (k : Int) ∧ k ≤ 2 := by
        rcases hz9 with h | h
        · exact ⟨0, by rw [h, Int.mul_zero]; rfl, by omega⟩
        · exact ⟨x1.toNat, by rw [h, Int.mul_one]; omega, by omega⟩
      obtain ⟨k, ek, lk⟩ := e8
      refine ⟨rfl, x1, rfl, .inl ⟨by omega, by omega⟩, ?_⟩
      rw [ek]
      exact r k H4 ⟨lk, T4, v3.trans v4⟩
    · cases h : H1 D with
      | none => rfl
      | some o =>
        by_cases e : D = t
        · obtain ⟨_, _, _, _, e2, _⟩ := z.2.1
          rw [e, e2] at nD
          cases nD
        · rw [z.2.2 _ _ e h] at nD
          cases nD
    · obtain ⟨c, rfl, ic, lc, k3, T3, v3, nD⟩ := p
      have tD : D ≠ t := T1.ne nD
      (try simp only [tIxO, rIsB, rNotB, tSeq, tIfS, tTest, tB, tOp, tUn, tVar, tC, tAsg, gName, tRet, tRetN, tCB, tCons, tNil, tLst_eq, tTup_eq, tDNewK_eq, tNext, tPar, tM0, tM1, tSl, tNoPart, tPart, rSlS, tAug, tAugS, tExf_eq, ipI, tChain, tCall, tDrop, tBM, tAnd, tOr, tNot, tAndV, tOrV, tNotV, tIf, tIsN, tNotN, rI, rI0, rU, rEq, rNe, gSub, cx_K, cx_K2, L2.start, wipe, scal_ii, scal_ss, scal_bb, scal_is, scal_si, scal_nn, List.map_cons, List.map_nil, List.length_cons, List.length_nil, List.cons_append, List.nil_append, List.append_nil, List.replicate, List.getElem?_cons_zero, List.getElem?_cons_succ, Option.some.injEq, exists_and_left, exists_eq_left', exists_eq_left, exists_eq, exists_eq', V.int.injEq, V.ref.injEq, V.str.injEq, V.bl.injEq, List.cons.injEq, and_true, true_and, false_and, exists_false, or_false, false_or, reduceCtorEq, List.set_cons_zero, List.set_cons_succ, Nat.reduceAdd, Nat.reduceSub, Int.reduceToNat, decide_eq_true_eq, if_true, if_false, Bool.false_eq_true, Bool.not_true, Bool.not_false, Bool.true_eq_false, ite_false, ite_true, ne_eq, not_false_eq_true, Int.reduceEq])
      refine draw_go (T3.mono (m := (n + 2 - (i + 1)) + 1) (by omega)) (by decide) (by decide) fun x1 H4 a0 a1 T4 v4 => ?_
      obtain ⟨z, hz⟩ : ∃ z, notesL[x1.toNat]? = some z := ⟨_, List.getElem?_eq_getElem (by show _ < 8; omega)⟩
      rw [show x1 = ((x1.toNat : Nat) : Int) by omega]
      refine ixM_go ((v3.trans v4) _ _ Lt r1) (atI_nat (show (notesL.map V.str)[x1.toNat]? = some (V.str z) by rw [List.getElem?_map, hz]; rfl)) ?_
      have rD4 := v4 _ _ tD rD
      refine ⟨_, rD4, Nat.lt_of_le_of_lt (show _ ≤ 1000 by rw [List.length_map] at la ⊢; omega) (by decide), _, upd_same, by rw [List.length_append, List.length_singleton]; omega, c ++ [z], by rw [List.map_append]; rfl, fun y hy => ?_, by rw [List.length_append, List.length_singleton, lc], k3, tape_upd tD T4, fun b u ne e => by rw [upd_ne (fun z => by rw [z, nD] at e; cases e)]; exact v4 _ _ ne (v3 b u ne e), nD⟩
      rcases List.mem_append.mp hy with hy | hy
      · exact ic y hy
      · cases List.mem_singleton.mp hy
        exact List.mem_of_getElem? hz
    · obtain ⟨c, rfl, ic, lc, k3, T3, v3, nD⟩ := p
      exact q D c H' (none_same s1 nD) rD ic (by omega) (T3.mono (by omega)) ((Same.exT s1).trans v3)

end
end Own

set_option Elab.async false
set_option linter.all false
set_option maxRecDepth 100000
set_option maxHeartbeats 4000000
namespace Own
open PySem PySem.Spec PyProof.Rows L2
section
variable {P : Program} {w : World} {K : PySem.W.Frag} {mg : Str → Option Value} {base : Heap}
theorem LnO.app : ∀ {a b : List Str} {x y : List (Option Wk)}, LnO a x → LnO b y → LnO (a ++ b) (x ++ y)
  | _, _, _, _, .nil, h => h
  | _, _, _, _, .cons h t, g => .cons h (LnO.app t g)
theorem LnO.mem {zs : List Str} {ks : List (Option Wk)} (h : LnO zs ks) : ∀ z ∈ zs, ∃ k, LnI z k := by
  induction h with
  | nil => intro z e; cases e
  | cons a b ih =>
    intro z e
    rcases List.mem_cons.mp e with rfl | e
    · exact ⟨_, a⟩
    · exact ih z e
theorem notes_o : ∀ {zs : List Str}, (∀ z ∈ zs, z ∈ notesL) → LnO zs (List.replicate zs.length none)
  | [], _ => .nil
  | z :: zs, h => by
    obtain ⟨a, b, c⟩ := notes_is z (h z (.head _))
    exact .cons ⟨a, c, by omega⟩ (notes_o fun y hy => h y (.tail _ hy))
theorem hdN_none (n : Nat) : ∀ m, hdN m (List.replicate n (none : Option Wk)) = [] := by
  induction n with
  | zero => intro m; rfl
  | succ n ih => intro m; rw [List.replicate_succ, hdN, ih]
theorem fm_none (n : Nat) : (List.replicate n (none : Option Wk)).filterMap id = [] := by
  induction n with
  | zero => rfl
  | succ n ih => rw [List.replicate_succ, List.filterMap_cons_none rfl, ih]
theorem wk_few {k : Wk} (o : k.ok) : k.words.length ≤ 1005 := by
  cases k with
  | hd h => cases h with
    | st s => exact own_words o
    | pt t => exact Nat.le_trans (pt_words4 t) (by decide)
  | stop => exact (by decide : 1 ≤ 1005)
  | dv d => exact (by decide : 1 ≤ 1005)
theorem hdN_le : ∀ (kx : List (Option Wk)) (n : Nat), (hdN n kx).length ≤ kx.length
  | [], _ => Nat.le_refl _
  | none :: kx, n => by rw [hdN, List.length_cons]; have := hdN_le kx (n + 1); omega
  | some k :: kx, n => by
    rw [hdN, List.length_append, List.length_cons]
    have := hdN_le kx (n + 1)
    cases wkH k <;> simp <;> omega
/-- the tape, the lines, the numbers of the heads -/
structure AccN (H0 : Hp) (t L F : Addr) (zs : List Str) (ns : List Nat) (k : Nat) (H : Hp) : Prop where
  nL : H0 L = none
  nF : H0 F = none
  LF : L ≠ F
  Lt : L ≠ t
  Ft : F ≠ t
  ext : ExT t H0 H
  rL : H L = some (.lst (zs.map V.str))
  rF : H F = some (.lst (ns.map fun n : Nat => V.int (n : Int)))
  tp : Tape H t k
section
variable {H0 H H2 : Hp} {t L F : Addr} {zs : List Str} {ns : List Nat} {k j : Nat}
theorem AccN.mono (A : AccN H0 t L F zs ns k H) (le : j ≤ k) : AccN H0 t L F zs ns j H := ⟨A.nL, A.nF, A.LF, A.Lt, A.Ft, A.ext, A.rL, A.rF, A.tp.mono le⟩
theorem AccN.draw (A : AccN H0 t L F zs ns k H) (T : Tape H2 t j) (v : ExT t H H2) : AccN H0 t L F zs ns j H2 := ⟨A.nL, A.nF, A.LF, A.Lt, A.Ft, A.ext.trans v, v _ _ A.Lt A.rL, v _ _ A.Ft A.rF, T⟩
theorem AccN.setL (A : AccN H0 t L F zs ns k H) (ys : List Str) : AccN H0 t L F ys ns k (upd H L (.lst (ys.map V.str))) := by
  refine ⟨A.nL, A.nF, A.LF, A.Lt, A.Ft, fun b o ne e => ?_, upd_same, by rw [upd_ne A.LF.symm]; exact A.rF, tape_upd A.Lt A.tp⟩
  rw [upd_ne (fun z => by rw [z, A.nL] at e; cases e)]
  exact A.ext b o ne e
theorem AccN.setF (A : AccN H0 t L F zs ns k H) (ms : List Nat) : AccN H0 t L F zs ms k (upd H F (.lst (ms.map fun n : Nat => V.int (n : Int)))) := by
  refine ⟨A.nL, A.nF, A.LF, A.Lt, A.Ft, fun b o ne e => ?_, by rw [upd_ne A.LF]; exact A.rL, upd_same, tape_upd A.Ft A.tp⟩
  rw [upd_ne (fun z => by rw [z, A.nF] at e; cases e)]
  exact A.ext b o ne e
theorem AccN.tyL {K : PySem.W.Frag} (A : AccN H0 t L F zs ns k H) : tyV K "list" (.ref L) H := .inl ⟨rfl, _, .inl (.inl A.rL)⟩
theorem AccN.tyF {K : PySem.W.Frag} (A : AccN H0 t L F zs ns k H) : tyV K "list" (.ref F) H := .inl ⟨rfl, _, .inl (.inl A.rF)⟩
end
/-- what the noisy text tells -/
structure NzT (ks : List Wk) (zs : List Str) (ns : List Nat) (i : Nat) : Prop where
  ex : ∃ kx, LnO zs kx ∧ kx.filterMap id = ks ∧ ns = hdN 1 kx
  len : zs.length ≤ 3 * i
  sum : (zs.map (·.length)).sum ≤ 28 * i + cstK ks
theorem NzT.note {ks : List Wk} {zs c : List Str} {ns : List Nat} {i : Nat} (h : NzT ks zs ns i) (hc : ∀ z ∈ c, z ∈ notesL) (l2 : c.length ≤ 2) : (∃ kx, LnO (zs ++ c) kx ∧ kx.filterMap id = ks ∧ ns = hdN 1 kx) ∧ (zs ++ c).length ≤ 3 * i + 2 ∧ ((zs ++ c).map (·.length)).sum ≤ 28 * i + cstK ks + 28 := by
  obtain ⟨kx, a, b, e⟩ := h.ex
  refine ⟨⟨kx ++ List.replicate c.length none, a.app (notes_o hc), by rw [List.filterMap_append, fm_none, List.append_nil]; exact b, by rw [hdN_app, hdN_none, List.append_nil]; exact e⟩, ?_, ?_⟩
  · have := h.len
    rw [List.length_append]
    omega
  · have s := h.sum
    have : (c.map (·.length)).sum ≤ 14 * c.length := by
      clear l2
      induction c with
      | nil => simp
      | cons x c ih =>
        have a := ih fun z hz => hc z (.tail _ hz)
        have b := (notes_is x (hc x (.head _))).2.1
        rw [List.map_cons, List.sum_cons, List.length_cons]
        omega
    rw [List.map_append, List.sum_append]
    omega
def spNz (K : PySem.W.Frag) : Sp := fun vs H Q _ => ∃ (t : Addr) (v : V) (n : Nat) (ps : List Prt), vs = [.ref t, v] ∧ Dp K H v (encPs ps) ∧ (∀ u ∈ ps, PtF u) ∧ ps.length ≤ 8 ∧ Tape H t (n + 2000000) ∧ ∀ p L u zs ns ks H2, NzP ps ks → (∃ kx, LnO zs kx ∧ kx.filterMap id = ks ∧ ns = hdN 1 kx) → zs.length ≤ 6000 → (zs.map (·.length)).sum ≤ 12200000 → H2 p = some (.tup [.ref L, u]) → H2 L = some (.lst (zs.map V.str)) → Dp K H2 u (.tuple (ns.map fun n : Nat => PyData.int (n : Int))) → ExT t H H2 → Q (.ref p) H2
set_option pp.deepTerms true in
set_option pp.maxSteps 200000 in
theorem ok_l_noisy (T : Txt K mg w) : FnOk P w K mg base CX0 14 T.d_l_noisy.a T.d_l_noisy.d ["_law_tape_here", "_law_parts_here"] (spNz K) := by
  refine T.d_l_noisy.F.ok sc_l_noisy (fun vs H Q E h => ?_) (fun cdv A outer s H vs Q E hr h => ?_)
  · obtain ⟨_, _, _, _, rfl, _⟩ := h
    rfl
  · obtain ⟨t, v, n, ps, rfl, hd, pf, l8, ht, q⟩ := h
    have hu := hr.units
    refine ⟨_, (pss_cons (ps_set (i := 2) sc_l_noisy.nd rfl (Or.inl rfl) (pe_lst pa_nil))
      (pss_cons (ps_set (i := 3) sc_l_noisy.nd rfl (Or.inl rfl) (pe_lst pa_nil))
      (pss_cons (ps_for PassesOwn.never rfl (pi_list (pe_call (ok_l_noisy_parts T) (hr.mono (by decide)) (by rfl) T.d_l_noisy_parts.g T.d_l_noisy_parts.F.kp T.d_l_noisy_parts.b .nil pass0 (pa_cons (pv 0) (pa_cons (pv 1) pa_nil)))) (pg_tup (by rfl) (pgs_cons (pg_name (i := 4) sc_l_noisy.nd rfl (Or.inl rfl)) (pgs_cons (pg_name (i := 5) sc_l_noisy.nd rfl (Or.inl rfl)) pgs_nil))) (pss_cons (ps_expr (pe_bm PySem.F.plainAttrs_list PySem.F.slot_list_extend PySem.F.type_list_extend mt_extend (pv 2) (pa_cons (pe_call (ok_l_noise T) (hr.mono (by decide)) (by rfl) T.d_l_noise.g T.d_l_noise.F.kp T.d_l_noise.b .nil pass0 (pa_cons (pv 0) pa_nil)) pa_nil)))
      (pss_cons (ps_expr (pe_bm PySem.F.plainAttrs_list PySem.F.slot_list_append PySem.F.type_list_append mt_append (pv 2) (pa_cons (pe_call (ok_l_spaced T) (hr.mono (by decide)) (by rfl) T.d_l_spaced.g T.d_l_spaced.F.kp T.d_l_spaced.b .nil pass0 (pa_cons (pv 0) (pa_cons (pv 5) pa_nil))) pa_nil)))
      (pss_one (ps_if (pt_cmpR op_eq (pv 4) pe_int (nomark _)) (pss_one (ps_expr (pe_bm PySem.F.plainAttrs_list PySem.F.slot_list_append PySem.F.type_list_append mt_append (pv 3) (pa_cons (pe_callB call_lenL (by rfl) T.z_len (by decide +kernel) (pa_cons (pv 2) pa_nil)) pa_nil)))) pss_nil)))))
      (pss_cons (ps_expr (pe_bm PySem.F.plainAttrs_list PySem.F.slot_list_extend PySem.F.type_list_extend mt_extend (pv 2) (pa_cons (pe_call (ok_l_noise T) (hr.mono (by decide)) (by rfl) T.d_l_noise.g T.d_l_noise.F.kp T.d_l_noise.b .nil pass0 (pa_cons (pv 0) pa_nil)) pa_nil)))
      (pss_one (ps_ret (pe_tup (pa_cons (pv 2) (pa_cons (pe_callTy call_tuple_of (by rfl) T.z_tuple (by decide +kernel) (pa_cons (pv 3) pa_nil)) pa_nil))))))))), ?_⟩
    (try simp only [tIxO, rIsB, rNotB, tSeq, tIfS, tTest, tB, tOp, tUn, tVar, tC, tAsg, gName, tRet, tRetN, tCB, tCons, tNil, tLst_eq, tTup_eq, tDNewK_eq, tNext, tPar, tM0, tM1, tSl, tNoPart, tPart, rSlS, tAug, tAugS, tExf_eq, ipI, tChain, tCall, tDrop, tBM, tAnd, tOr, tNot, tAndV, tOrV, tNotV, tIf, tIsN, tNotN, rI, rI0, rU, rEq, rNe, gSub, cx_K, cx_K2, L2.start, wipe, scal_ii, scal_ss, scal_bb, scal_is, scal_si, scal_nn, List.map_cons, List.map_nil, List.length_cons, List.length_nil, List.cons_append, List.nil_append, List.append_nil, List.replicate, List.getElem?_cons_zero, List.getElem?_cons_succ, Option.some.injEq, exists_and_left, exists_eq_left', exists_eq_left, exists_eq, exists_eq', V.int.injEq, V.ref.injEq, V.str.injEq, V.bl.injEq, List.cons.injEq, and_true, true_and, false_and, exists_false, or_false, false_or, reduceCtorEq, List.set_cons_zero, List.set_cons_succ, Nat.reduceAdd, Nat.reduceSub, Int.reduceToNat, decide_eq_true_eq, if_true, if_false, Bool.false_eq_true, Bool.not_true, Bool.not_false, Bool.true_eq_false, ite_false, ite_true, ne_eq, not_false_eq_true, Int.reduceEq])
    refine newL_go fun L H1 n1 s1 r1 => newL_go fun F H2 n2 s2 r2 => ?_
    have Lt : L ≠ t := ht.ne n1
    have Ft : F ≠ t := (ht.same s1).ne n2
    have LF : L ≠ F := fun z => by rw [← z, r1] at n2; cases n2
    have A2 : AccN H t L F [] [] (n + 2000000) H2 := ⟨n1, none_same s1 n2, LF, Lt, Ft, Same.exT (s1.trans s2), s2 _ _ r1, r2, (ht.same s1).same s2⟩
    have zl8 : 100 * ps.length ≤ 800 := by omega
    refine forLB_go (K := K) (fun b ys H3 => ∃ ks, H2 b = none ∧ H3 b = some (.lst ys) ∧ DpAll K H3 ys (ks.map encZ) ∧ NzP ps ks ∧ Tape H3 t (n + 1999200) ∧ ExT t H2 H3) (fun _ _ _ ⟨_, _, c, _⟩ => .inl (.inl c)) (fun R r => ?_) (fun b ys H3 ⟨ks, nb, rb, db, Z, T3, v3⟩ => ?_)
    · (try simp only [tIxO, rIsB, rNotB, tSeq, tIfS, tTest, tB, tOp, tUn, tVar, tC, tAsg, gName, tRet, tRetN, tCB, tCons, tNil, tLst_eq, tTup_eq, tDNewK_eq, tNext, tPar, tM0, tM1, tSl, tNoPart, tPart, rSlS, tAug, tAugS, tExf_eq, ipI, tChain, tCall, tDrop, tBM, tAnd, tOr, tNot, tAndV, tOrV, tNotV, tIf, tIsN, tNotN, rI, rI0, rU, rEq, rNe, gSub, cx_K, cx_K2, L2.start, wipe, scal_ii, scal_ss, scal_bb, scal_is, scal_si, scal_nn, List.map_cons, List.map_nil, List.length_cons, List.length_nil, List.cons_append, List.nil_append, List.append_nil, List.replicate, List.getElem?_cons_zero, List.getElem?_cons_succ, Option.some.injEq, exists_and_left, exists_eq_left', exists_eq_left, exists_eq, exists_eq', V.int.injEq, V.ref.injEq, V.str.injEq, V.bl.injEq, List.cons.injEq, and_true, true_and, false_and, exists_false, or_false, false_or, reduceCtorEq, List.set_cons_zero, List.set_cons_succ, Nat.reduceAdd, Nat.reduceSub, Int.reduceToNat, decide_eq_true_eq, if_true, if_false, Bool.false_eq_true, Bool.not_true, Bool.not_false, Bool.true_eq_false, ite_false, ite_true, ne_eq, not_false_eq_true, Int.reduceEq])
      exact ⟨t, v, n + 1999200, ps, rfl, dp_same (s1.trans s2) hd, pf, by omega, A2.tp.mono (by omega), fun b ys ks H3 nb rb db Z T3 v3 => r b ys H3 ⟨ks, nb, rb, db, Z, T3, v3⟩⟩
    · have A3 := A2.draw T3 v3
      have lk := Z.len
      have ck := Z.cst
      have hyl := DpAll.len db
      rw [List.length_map] at hyl
      have bt : b ≠ t := A2.tp.ne nb
      have bL : b ≠ L := fun z => by rw [z, A2.rL] at nb; cases nb
      have bF : b ≠ F := fun z => by rw [z, A2.rF] at nb; cases nb
      have kok := Z.ok
      refine forLW_go (K := K) (a := b) (xs := ys) (fun i σ2 H4 => ∃ (o4 o5 : Option V) (zs : List Str) (ns : List Nat), AccN H t L F zs ns (n + 1020 * (ks.length - i) + 10) H4 ∧ NzT (ks.take i) zs ns i ∧ H4 b = some (.lst ys) ∧ DpAll K H4 ys (ks.map encZ) ∧ σ2 = [some (.ref t), some v, some (.ref L), some (.ref F), o4, o5]) (fun i σ2 H4 _ pv => ?_) ⟨none, none, [], [], A3.mono (by omega), ⟨⟨[], .nil, rfl, rfl⟩, Nat.zero_le _, Nat.zero_le _⟩, rb, db, rfl⟩ (fun i x σ2 H4 e1 pv => ?_) (fun σ2 H4 pv => ?_)
      · obtain ⟨_, _, _, _, _, _, r4, _⟩ := pv
        exact .inl (.inl r4)
      · obtain ⟨o4, o5, zs, ns, A4, N4, r4, d4, rfl⟩ := pv
        have hi : i < ys.length := (List.getElem?_eq_some_iff.mp e1).1
        obtain ⟨kk, hk⟩ : ∃ kk, ks[i]? = some kk := ⟨_, List.getElem?_eq_getElem (by omega)⟩
        obtain ⟨x2, hx2, dx⟩ := DpAll.at d4 (show (ks.map encZ)[i]? = some (encZ kk) by rw [List.getElem?_map, hk]; rfl)
        rw [e1] at hx2
        cases hx2
        have tk : ks.take (i + 1) = ks.take i ++ [kk] := by rw [List.take_add_one, hk]; rfl
        have ko := kok kk (List.mem_of_getElem? hk)
        obtain ⟨pa, pxs, rfl, hpa, hpx⟩ := Dp.tupD dx
        cases hpx with
        | cons g0 hpx =>
        cases hpx with
        | cons g1 hpx =>
        cases hpx
        cases Dp.strD g1
        simp only [gTup, gCons, gNil]
        (try simp only [tIxO, rIsB, rNotB, tSeq, tIfS, tTest, tB, tOp, tUn, tVar, tC, tAsg, gName, tRet, tRetN, tCB, tCons, tNil, tLst_eq, tTup_eq, tDNewK_eq, tNext, tPar, tM0, tM1, tSl, tNoPart, tPart, rSlS, tAug, tAugS, tExf_eq, ipI, tChain, tCall, tDrop, tBM, tAnd, tOr, tNot, tAndV, tOrV, tNotV, tIf, tIsN, tNotN, rI, rI0, rU, rEq, rNe, gSub, cx_K, cx_K2, L2.start, wipe, scal_ii, scal_ss, scal_bb, scal_is, scal_si, scal_nn, List.map_cons, List.map_nil, List.length_cons, List.length_nil, List.cons_append, List.nil_append, List.append_nil, List.replicate, List.getElem?_cons_zero, List.getElem?_cons_succ, Option.some.injEq, exists_and_left, exists_eq_left', exists_eq_left, exists_eq, exists_eq', V.int.injEq, V.ref.injEq, V.str.injEq, V.bl.injEq, List.cons.injEq, and_true, true_and, false_and, exists_false, or_false, false_or, reduceCtorEq, List.set_cons_zero, List.set_cons_succ, Nat.reduceAdd, Nat.reduceSub, Int.reduceToNat, decide_eq_true_eq, if_true, if_false, Bool.false_eq_true, Bool.not_true, Bool.not_false, Bool.true_eq_false, ite_false, ite_true, ne_eq, not_false_eq_true, Int.reduceEq])
        have lk5 := wk_few ko
        obtain ⟨wx, wr, ew⟩ := wk_ne kk
        refine ⟨_, hpa, rfl, _, _, rfl, _, _, rfl, rfl, A4.tyL, ?_⟩
        refine ⟨t, n + 1020 * (ks.length - (i + 1)) + 1026, rfl, A4.tp.mono (by omega), fun b2 c H5 n5 r5 hc l2 T5 v5 => ?_⟩
        have A5 := A4.draw T5 v5
        have lz := N4.len
        obtain ⟨⟨kx, x1, x2, x3⟩, x4, x5⟩ := N4.note hc l2
        have A6 := A5.setL (zs ++ c)
        rw [List.map_append] at A6
        refine ⟨L, b2, _, _, rfl, rfl, A5.rL, r5, Nat.le_trans (show _ ≤ 100000 by rw [List.length_map, List.length_map]; omega) (by decide), A6.tyL, ?_⟩
        refine ⟨t, kk.words, n + 1020 * (ks.length - (i + 1)) + 10, rfl, by rw [ew]; simp, fun y hy => ⟨wk_cln ko y hy, wk_blk ko y hy⟩, by omega, A6.tp.mono (by omega), fun z H7 wz bz lenz T7 v7 => ?_⟩
        have A7 := A6.draw T7 v7
        have A8 := A7.setL (zs ++ c ++ [z])
        rw [List.map_append] at A8
        refine ⟨L, _, _, rfl, rfl, A7.rL, Nat.lt_of_le_of_lt (show _ ≤ 100000 by rw [List.length_map, List.length_append]; omega) (by decide), ?_⟩
        have lnz : LnI z (some kk) := ⟨⟨wz, ko, wx, wr, ew, sw_cln (wk_cln ko wx (by rw [ew]; exact .head _))⟩, blk_no10 bz, by omega⟩
        have xl := x1.len
        have nzt : NzT (ks.take (i + 1)) (zs ++ c ++ [z]) (ns ++ if wkH kk then [1 + (zs ++ c).length] else []) (i + 1) := by
          refine ⟨⟨kx ++ [some kk], x1.app (.cons lnz .nil), ?_, ?_⟩, ?_, ?_⟩
          · rw [List.filterMap_append, x2, tk]
            rfl
          · rw [hdN_app, ← x3, xl]
            simp only [hdN, List.append_nil]
          · rw [List.length_append, List.length_singleton]
            omega
          · rw [List.map_append, List.sum_append, tk, cstK_app]
            have : cstK [kk] = 15 * kk.words.length + 3 := by simp [cstK]
            simp only [List.map_cons, List.map_nil, List.sum_cons, List.sum_nil]
            omega
        have t4 : Tu H4 H5 := v5.tu A4.tp
        have keep : ∀ {zs2 : List V}, Tu H4 (upd H7 L (.lst zs2)) := fun {zs2} => t4.trans ((tu_lst A5.rL).trans ((v7.tu A6.tp).trans (tu_lst A7.rL)))
        have bk : ∀ {zs2 : List V}, (upd H7 L (.lst zs2)) b = some (.lst ys) := fun {zs2} => by
          rw [upd_ne bL]
          refine v7 _ _ bt ?_
          rw [upd_ne bL]
          exact v5 _ _ bt r4
        have g0' : ∃ e : Int, (if wkH kk then (1 : Int) else 0) = e := ⟨_, rfl⟩
        cases hkk : wkH kk with
        | true =>
          rw [hkk] at g0 nzt
          cases dp_intV g0
          rw [if_pos rfl] at nzt
          refine ⟨rfl, ite2 (fun _ => ?_) (fun z => absurd rfl z)⟩
          refine ⟨A8.tyF, _, .inl (.inl A8.rL), ?_⟩
          have A9 := A8.setF (ns ++ [1 + (zs ++ c).length])
          have e : (List.map V.str (zs ++ c ++ [z])).length = 1 + (zs ++ c).length := by rw [List.length_map, List.length_append, List.length_singleton]; omega
          rw [e]
          refine ⟨F, _, _, rfl, rfl, A8.rF, Nat.lt_of_le_of_lt (show _ ≤ 100000 by rw [List.length_map, x3]; have := hdN_le kx 1; omega) (by decide), ?_⟩
          rw [show (ns ++ [1 + (zs ++ c).length]).map (fun n : Nat => V.int (n : Int)) = ns.map (fun n : Nat => V.int (n : Int)) ++ [V.int ((1 + (zs ++ c).length : Nat) : Int)] by rw [List.map_append]; rfl] at A9
          refine ⟨_, _, _, _, A9, nzt, by rw [upd_ne bF]; exact bk, DpAll.keep (keep.trans (tu_lst A8.rF)) d4 (pl_z ks), rfl, rfl⟩
        | false =>
          rw [hkk] at g0 nzt
          cases dp_intV g0
          refine ⟨rfl, ite2 (fun z => absurd z (by simp)) (fun _ => ?_)⟩
          rw [if_neg (by simp), List.append_nil] at nzt
          exact ⟨_, _, _, _, A8, nzt, bk, DpAll.keep keep d4 (pl_z ks), rfl, rfl⟩
      · obtain ⟨o4, o5, zs, ns, A4, N4, r4, d4, rfl⟩ := pv
        (try simp only [tIxO, rIsB, rNotB, tSeq, tIfS, tTest, tB, tOp, tUn, tVar, tC, tAsg, gName, tRet, tRetN, tCB, tCons, tNil, tLst_eq, tTup_eq, tDNewK_eq, tNext, tPar, tM0, tM1, tSl, tNoPart, tPart, rSlS, tAug, tAugS, tExf_eq, ipI, tChain, tCall, tDrop, tBM, tAnd, tOr, tNot, tAndV, tOrV, tNotV, tIf, tIsN, tNotN, rI, rI0, rU, rEq, rNe, gSub, cx_K, cx_K2, L2.start, wipe, scal_ii, scal_ss, scal_bb, scal_is, scal_si, scal_nn, List.map_cons, List.map_nil, List.length_cons, List.length_nil, List.cons_append, List.nil_append, List.append_nil, List.replicate, List.getElem?_cons_zero, List.getElem?_cons_succ, Option.some.injEq, exists_and_left, exists_eq_left', exists_eq_left, exists_eq, exists_eq', V.int.injEq, V.ref.injEq, V.str.injEq, V.bl.injEq, List.cons.injEq, and_true, true_and, false_and, exists_false, or_false, false_or, reduceCtorEq, List.set_cons_zero, List.set_cons_succ, Nat.reduceAdd, Nat.reduceSub, Int.reduceToNat, decide_eq_true_eq, if_true, if_false, Bool.false_eq_true, Bool.not_true, Bool.not_false, Bool.true_eq_false, ite_false, ite_true, ne_eq, not_false_eq_true, Int.reduceEq])
        rw [hyl, List.take_length] at N4
        have A4 := A4.mono (j := n + 10) (by omega)
        refine ⟨A4.tyL, t, n + 6, rfl, A4.tp.mono (by omega), fun b2 c H5 n5 r5 hc l2 T5 v5 => ?_⟩
        have A5 := A4.draw T5 v5
        have lz := N4.len
        obtain ⟨xx, x4, x5⟩ := N4.note hc l2
        have A6 := A5.setL (zs ++ c)
        rw [List.map_append] at A6
        refine ⟨L, b2, _, _, rfl, rfl, A5.rL, r5, Nat.le_trans (show _ ≤ 100000 by rw [List.length_map, List.length_map]; omega) (by decide), ?_⟩
        refine ⟨_, .inl ⟨.inl (.inl A6.rF), fun l nl => ?_⟩⟩
        have s7 := same_new (o := .tup (ns.map fun n : Nat => V.int (n : Int))) nl
        refine newT_go fun p H8 n8 s8 r8 => ?_
        have s68 := s7.trans s8
        have dints : ∀ (H' : Hp) (l : List Nat), DpAll K H' (l.map fun n : Nat => V.int (n : Int)) (l.map fun n : Nat => PyData.int (n : Int)) := fun H' l => by
          induction l with
          | nil => exact .nil
          | cons n l ih => exact .cons (.int _) ih
        refine q p L (.ref l) (zs ++ c) ns ks H8 Z xx (by omega) (by omega) r8 ?_ (.tup (.inl (.inl (s8 _ _ upd_same))) (dints _ _)) (A6.ext.same s68)
        exact s68 _ _ A6.rL

end
end Own

set_option Elab.async false
set_option linter.all false
set_option maxRecDepth 100000
set_option maxHeartbeats 4000000
namespace Own
open PySem PySem.Spec PyProof.Rows L2
section
variable {P : Program} {w : World} {K : PySem.W.Frag} {mg : Str → Option Value} {base : Heap}
theorem join_linesN : ∀ ds : List Str, (Txt.join "\n" ds).length ≤ (ds.map (·.length)).sum + ds.length := by
  intro ds
  rw [TL.len_tl, TL.join_eq, TL.tl_join, tl_line]
  induction ds with
  | nil => exact Nat.zero_le _
  | cons x ds ih =>
    cases ds with
    | nil => simp [TL.joinL, TL.len_tl]
    | cons y ds =>
      have e : TL.joinL [10] ((x :: y :: ds).map TL.tl) = TL.tl x ++ (10 :: TL.joinL [10] ((y :: ds).map TL.tl)) := rfl
      have l := TL.len_tl x
      rw [e, List.length_append, List.length_cons]
      have e2 : ((x :: y :: ds).map (·.length)).sum = x.length + ((y :: ds).map (·.length)).sum := by rw [List.map_cons, List.sum_cons]
      have e3 : (x :: y :: ds).length = (y :: ds).length + 1 := rfl
      have ih : (TL.joinL [10] ((y :: ds).map TL.tl)).length ≤ ((y :: ds).map (·.length)).sum + (y :: ds).length := ih
      show (TL.tl x).length + ((TL.joinL [10] ((y :: ds).map TL.tl)).length + 1) ≤ ((x :: y :: ds).map (·.length)).sum + (x :: y :: ds).length
      omega
theorem like_begun {s t : Mst} (h : s.like t) (e : s.begun = []) : t.begun = [] := by
  have := h.begun
  rw [e] at this
  exact like_nil this
/-- a noisy text, read -/
theorem parse_noisy {K : PySem.W.Frag} {ps : List Prt} {ks : List Wk} {zs : List Str} {ns : List Nat} {H : Hp} {Q : VK} {E : XK} (Z : NzP ps ks) (hx : ∃ kx, LnO zs kx ∧ kx.filterMap id = ks ∧ ns = hdN 1 kx) (ne : zs ≠ []) (few : zs.length ≤ 6000) (lt : (zs.map (·.length)).sum ≤ 12200000) (q : ∀ v H2, Same H H2 → Dp K H2 v (.tuple [encPs ps, .tuple (ns.map fun n : Nat => PyData.int (n : Int))]) → Q v H2) : spParse K [.str (Txt.join "\n" zs)] H Q E := by
  obtain ⟨kx, a, b, rfl⟩ := hx
  obtain ⟨l2, r⟩ := Z.run [] [] 1
  obtain ⟨st, r2, lk, ln⟩ := run_like kx ks m0 m0 _ 1 1 b (like_refl m0) r
  have al := a.len
  have jl := join_linesN zs
  have sz : sizeLine = 16777216 := by decide
  refine ⟨_, zs, kx, st, rfl, by omega, split_lines ne fun d hd => ?_, al, by omega, fun z hz => ?_, fun i t k ht hk => (a.at ht hk).1, r2, like_begun lk rfl, fun v H2 s d => q v H2 s ?_⟩
  · obtain ⟨_, _, h, _⟩ := a.mem d hd
    exact h
  · obtain ⟨_, _, _, h⟩ := a.mem z hz
    have := split_few z
    refine ⟨by omega, by omega, fun y hy => ?_⟩
    have := split_short z y hy
    omega
  · have e1 : st.parts = ps.map encPt := by
      have := lk.parts
      rw [List.nil_append] at this
      exact this.symm
    have e2 : st.lines = hdN 1 kx := by
      rw [ln]
      rfl
    rw [e1, e2] at d
    exact d
def spLaw (K : PySem.W.Frag) (_Tb : List (Addr × Str)) : Sp := fun vs H Q _ => ∃ (a : Addr) (ns : List Int), vs = [.ref a] ∧ SqL K H a (ns.map V.int) ∧ ns.length ≤ 63 ∧ ∀ H', Q (.bl true) H'
set_option pp.deepTerms true in
set_option pp.maxSteps 200000 in
theorem ok_law (T : Txt K mg w) {Tb : List (Addr × Str)} : FnOk P w K mg base CX0 39 T.d_law.a T.d_law.d ["_law_script"] (spLaw K Tb) := by
  refine T.d_law.F.ok sc_law (fun vs H Q E h => ?_) (fun cdv A outer s H vs Q E hr h => ?_)
  · obtain ⟨_, _, rfl, _⟩ := h
    rfl
  · obtain ⟨l, ns, rfl, hS, hl63, q⟩ := h
    have hu := hr.units
    refine ⟨_, (pss_cons (ps_set (i := 1) sc_law.nd rfl (Or.inl rfl) (pe_call (ok_l_parts T) (hr.mono (by decide)) (by rfl) T.d_l_parts.g T.d_l_parts.F.kp T.d_l_parts.b .nil pass0 (pa_cons (pv 0) (pa_cons pe_int pa_nil))))
      (pss_cons (ps_asg (pe_call (ok_l_noisy T) (hr.mono (by decide)) (by rfl) T.d_l_noisy.g T.d_l_noisy.F.kp T.d_l_noisy.b .nil pass0 (pa_cons (pe_call (ok_l_tape T) (hr.mono (by decide)) (by rfl) T.d_l_tape.g T.d_l_tape.F.kp T.d_l_tape.b .nil pass0 (pa_cons (pv 0) (pa_cons pe_int pa_nil))) (pa_cons (pv 1) pa_nil))) (pg_tup (by rfl) (pgs_cons (pg_name (i := 2) sc_law.nd rfl (Or.inl rfl)) (pgs_cons (pg_name (i := 3) sc_law.nd rfl (Or.inl rfl)) pgs_nil))))
      (pss_cons (ps_set (i := 4) sc_law.nd rfl (Or.inl rfl) (pe_call (ok_parse T) (hr.mono (by decide)) (by rfl) T.d_parse.g T.d_parse.F.kp T.d_parse.b .nil passN (pa_cons (pe_join pe_str (pv 2)) pa_nil)))
      (pss_one (ps_ret (pe_and (pe_callB call_isi (by rfl) T.z_isinstance (by decide +kernel) (pa_cons (pv 4) (pa_cons (pe_bltn (v := .ty "tuple") rfl T.z_tuple (by decide +kernel) rfl) pa_nil))) (pe_one (pe_cmpR (op_eqD hu) (pv 4) (pe_tup (pa_cons (pv 1) (pa_cons (pv 3) pa_nil))) (nomark _))))))))), ?_⟩
    (try simp only [tIxO, rIsB, rNotB, tSeq, tIfS, tTest, tB, tOp, tUn, tVar, tC, tAsg, gName, tRet, tRetN, tCB, tCons, tNil, tLst_eq, tTup_eq, tDNewK_eq, tNext, tPar, tM0, tM1, tSl, tNoPart, tPart, rSlS, tAug, tAugS, tExf_eq, ipI, tChain, tCall, tDrop, tBM, tAnd, tOr, tNot, tAndV, tOrV, tNotV, tIf, tIsN, tNotN, rI, rI0, rU, rEq, rNe, gSub, cx_K, cx_K2, L2.start, wipe, scal_ii, scal_ss, scal_bb, scal_is, scal_si, scal_nn, List.map_cons, List.map_nil, List.length_cons, List.length_nil, List.cons_append, List.nil_append, List.append_nil, List.replicate, List.getElem?_cons_zero, List.getElem?_cons_succ, Option.some.injEq, exists_and_left, exists_eq_left', exists_eq_left, exists_eq, exists_eq', V.int.injEq, V.ref.injEq, V.str.injEq, V.bl.injEq, List.cons.injEq, and_true, true_and, false_and, exists_false, or_false, false_or, reduceCtorEq, List.set_cons_zero, List.set_cons_succ, Nat.reduceAdd, Nat.reduceSub, Int.reduceToNat, decide_eq_true_eq, if_true, if_false, Bool.false_eq_true, Bool.not_true, Bool.not_false, Bool.true_eq_false, ite_false, ite_true, ne_eq, not_false_eq_true, Int.reduceEq])
    refine ⟨l, ns, 8, rfl, hS, by decide, by decide, fun v H1 ps pf pw l1 l8 d1 s1 => ?_⟩
    (try simp only [tIxO, rIsB, rNotB, tSeq, tIfS, tTest, tB, tOp, tUn, tVar, tC, tAsg, gName, tRet, tRetN, tCB, tCons, tNil, tLst_eq, tTup_eq, tDNewK_eq, tNext, tPar, tM0, tM1, tSl, tNoPart, tPart, rSlS, tAug, tAugS, tExf_eq, ipI, tChain, tCall, tDrop, tBM, tAnd, tOr, tNot, tAndV, tOrV, tNotV, tIf, tIsN, tNotN, rI, rI0, rU, rEq, rNe, gSub, cx_K, cx_K2, L2.start, wipe, scal_ii, scal_ss, scal_bb, scal_is, scal_si, scal_nn, List.map_cons, List.map_nil, List.length_cons, List.length_nil, List.cons_append, List.nil_append, List.append_nil, List.replicate, List.getElem?_cons_zero, List.getElem?_cons_succ, Option.some.injEq, exists_and_left, exists_eq_left', exists_eq_left, exists_eq, exists_eq', V.int.injEq, V.ref.injEq, V.str.injEq, V.bl.injEq, List.cons.injEq, and_true, true_and, false_and, exists_false, or_false, false_or, reduceCtorEq, List.set_cons_zero, List.set_cons_succ, Nat.reduceAdd, Nat.reduceSub, Int.reduceToNat, decide_eq_true_eq, if_true, if_false, Bool.false_eq_true, Bool.not_true, Bool.not_false, Bool.true_eq_false, ite_false, ite_true, ne_eq, not_false_eq_true, Int.reduceEq])
    refine ⟨l, ns, 62, rfl, sq_same s1 hS, by decide, by decide, fun t H2 nt T2 s2 => ?_⟩
    refine ⟨t, v, 900000000, ps, rfl, dp_same s2 d1, pf, l8, T2.mono (by decide), fun p L u zs nn ks H3 Z hx few lt rp rL du v3 => ?_⟩
    simp only [gTup, gCons, gNil]
    (try simp only [tIxO, rIsB, rNotB, tSeq, tIfS, tTest, tB, tOp, tUn, tVar, tC, tAsg, gName, tRet, tRetN, tCB, tCons, tNil, tLst_eq, tTup_eq, tDNewK_eq, tNext, tPar, tM0, tM1, tSl, tNoPart, tPart, rSlS, tAug, tAugS, tExf_eq, ipI, tChain, tCall, tDrop, tBM, tAnd, tOr, tNot, tAndV, tOrV, tNotV, tIf, tIsN, tNotN, rI, rI0, rU, rEq, rNe, gSub, cx_K, cx_K2, L2.start, wipe, scal_ii, scal_ss, scal_bb, scal_is, scal_si, scal_nn, List.map_cons, List.map_nil, List.length_cons, List.length_nil, List.cons_append, List.nil_append, List.append_nil, List.replicate, List.getElem?_cons_zero, List.getElem?_cons_succ, Option.some.injEq, exists_and_left, exists_eq_left', exists_eq_left, exists_eq, exists_eq', V.int.injEq, V.ref.injEq, V.str.injEq, V.bl.injEq, List.cons.injEq, and_true, true_and, false_and, exists_false, or_false, false_or, reduceCtorEq, List.set_cons_zero, List.set_cons_succ, Nat.reduceAdd, Nat.reduceSub, Int.reduceToNat, decide_eq_true_eq, if_true, if_false, Bool.false_eq_true, Bool.not_true, Bool.not_false, Bool.true_eq_false, ite_false, ite_true, ne_eq, not_false_eq_true, Int.reduceEq])
    refine ⟨_, .inl (.inl rp), rfl, _, _, rfl, _, _, rfl, rfl, ?_⟩
    have d3 : Dp K H3 v (encPs ps) := Dp.keep (v3.tu T2) (dp_same s2 d1) (by show PlAll (ps.map encPt) = true; exact pl_ps ps)
    have ne : zs ≠ [] := by
      rintro rfl
      obtain ⟨kx, a, b, _⟩ := hx
      cases a
      cases b
      obtain ⟨l2, r⟩ := Z.run [] [] 1
      have r : some (⟨[], [], []⟩ : Mst) = some ⟨[] ++ ps.map encPt, l2, []⟩ := r
      have e := congrArg Mst.parts (Option.some.inj r)
      have e : [] = ps.map encPt := e
      have := congrArg List.length e
      rw [List.length_map] at this
      simp at this
      omega
    (try simp only [tIxO, rIsB, rNotB, tSeq, tIfS, tTest, tB, tOp, tUn, tVar, tC, tAsg, gName, tRet, tRetN, tCB, tCons, tNil, tLst_eq, tTup_eq, tDNewK_eq, tNext, tPar, tM0, tM1, tSl, tNoPart, tPart, rSlS, tAug, tAugS, tExf_eq, ipI, tChain, tCall, tDrop, tBM, tAnd, tOr, tNot, tAndV, tOrV, tNotV, tIf, tIsN, tNotN, rI, rI0, rU, rEq, rNe, gSub, cx_K, cx_K2, L2.start, wipe, scal_ii, scal_ss, scal_bb, scal_is, scal_si, scal_nn, List.map_cons, List.map_nil, List.length_cons, List.length_nil, List.cons_append, List.nil_append, List.append_nil, List.replicate, List.getElem?_cons_zero, List.getElem?_cons_succ, Option.some.injEq, exists_and_left, exists_eq_left', exists_eq_left, exists_eq, exists_eq', V.int.injEq, V.ref.injEq, V.str.injEq, V.bl.injEq, List.cons.injEq, and_true, true_and, false_and, exists_false, or_false, false_or, reduceCtorEq, List.set_cons_zero, List.set_cons_succ, Nat.reduceAdd, Nat.reduceSub, Int.reduceToNat, decide_eq_true_eq, if_true, if_false, Bool.false_eq_true, Bool.not_true, Bool.not_false, Bool.true_eq_false, ite_false, ite_true, ne_eq, not_false_eq_true, Int.reduceEq])
    refine ⟨zs, .inl (.inl (.inl rL)), ?_, ?_⟩
    · have b1 : (Str.ofString "\n").length = 1 := rfl
      rw [b1]
      omega
    refine parse_noisy Z hx ne few lt fun v5 H5 s5 d5 => ?_
    have plI : ∀ l : List Nat, PlAll (l.map fun n : Nat => PyData.int (n : Int)) = true := fun l => by
      induction l with
      | nil => rfl
      | cons n l ih => rw [List.map_cons, PlAll, ih]; rfl
    have lay : LayD 25 (.tuple [encPs ps, .tuple (nn.map fun n : Nat => PyData.int (n : Int))]) := .tup fun d hd => by
      rcases List.mem_cons.mp hd with rfl | hd
      · exact ps_shaped pw.well
      · cases List.mem_singleton.mp hd
        refine LayD.mono (LayD.tup (m := 1) fun d hd => ?_) (by decide)
        obtain ⟨n, _, rfl⟩ := List.mem_map.mp hd
        exact ⟨rfl, by rw [PyData.depth]; decide⟩
    refine isi_go (.ty "tuple") (dp_ty d5) T.q_tup_tup ⟨_, rfl, ite2 (fun _ => ?_) (fun z => absurd rfl z)⟩
    refine newTD_go (K := K) (ds := [encPs ps, .tuple (nn.map fun n : Nat => PyData.int (n : Int))]) (.cons (dp_same s5 d3) (.cons (dp_same s5 du) .nil)) (by simp only [PlAll, Pl, plI, Bool.and_true, encPs]; exact pl_ps ps) (by simp) fun pt H6 n6 s6 d6 => ?_
    refine ⟨_, _, dp_same s6 d5, d6, lay.shaped (by decide), lay.shaped (by decide), ?_⟩
    rw [PySem.SeqAt.eqv_refl _ lay.1]
    exact q _

end
end Own

set_option Elab.async false
set_option linter.all false
set_option maxRecDepth 100000
set_option maxHeartbeats 4000000

set_option Elab.async false
set_option linter.all false
set_option maxRecDepth 100000
set_option maxHeartbeats 4000000
namespace Own
open PySem PySem.Spec PyProof.Rows L2
def TbOf (K : PySem.W.Frag) : List (Addr × Str) := []
set_option maxHeartbeats 0 in
theorem facts {P : Program} {w : World} {K : PySem.W.Frag} {h : Heap} {mg : Str → Option Value} {fa : Addr} (X : K.In h) (G : h.Ns mainGlobals mg) (hfa : mg "law" = some (.ref fa)) (c : obsN chkA fnA K = He.valD fnA) (dw : DictsW tsL w K) :
    ∃ fd : FuncData, (∀ (s : Shared) (v : Value), BindsTo s fd ⟨[v], []⟩ [("_law_script", v)]) ∧ ∀ base : Heap, K.In base → base.Ns mainGlobals mg → (∀ p ∈ tfA, LamX.TabB base mg (He.cT K p).1 (He.cT K p).2) → FnOk P w K mg base CX0 39 fa fd ["_law_script"] (spLaw K (TbOf K)) := by
  have k0 := (saysN_both c).1
  simp only [chkA, chk0, chk1, chk2, chk3, Bool.and_eq_true] at k0
  obtain ⟨⟨hv_PARTS, hd_PARTS, hv_STATEMENTS, hd_STATEMENTS, hv_CHOICES, hd_CHOICES, hv_DIVIDERS, hd_DIVIDERS, eG, hi_BadLine, hi_TooDeep, hi_Unclosed, h0_BindspanError, h0_BadText, hc_Begun, hm_Begun_init, hm_Begun_divide, hm_Begun_whole, hc_Reader, hm_Reader_init, hm_Reader_take_line, hm_Reader_begin, hm_Reader_end, hm_Reader_put, ho_n_Reader_parts, ho_n_Reader_lines, ho_n_Reader_begun, ho_n_Begun_line⟩, ⟨ho_n_Begun_head, ho_n_Begun_groups, hg_is_word, hg_is_ident, hg_roles_of, hg_is_statement, hg_fit, hg_is_headed, hg_fits, hg_is_worth, hg_parse, hg_read_head, hg_line_roles, hg_read_part, hg_read_statement, hg_read_worth, hg_read_captured, hg_l_tape, hg_l_draw, hg_l_kept⟩, ⟨hg_l_signs, hg_l_spelled, hg_l_ident, hg_l_word, hg_l_heads, hg_l_chosen, hg_l_item, hg_l_rows, hg_l_parts, hg_l_blocks, hg_l_head, hg_l_statement_lines, hg_l_lines, hg_l_noisy_rows, hg_l_noisy_parts, hg_l_spaced, hg_l_noise, hg_l_noisy, hg_law, hz_isinstance⟩, ⟨hz_len, hz_int, hz_range, hz_str, hz_list, hz_tuple, hz_zip, hz_all, hz_enumerate, hz_reversed, hz_bool, hv_LETTERS, hv_DIGITS, hv_LONGEST_WORD, hv_MOST_BLOCKS, hv_KEPT_WORDS, ht_KEPT_WORDS, q_str_str, q_tup_tup, q_tup_str⟩⟩ := k0
  obtain ⟨d_Begun_init, F0_Begun_init⟩ := saysN_def c 0 rfl
  have F_Begun_init : Fun K "__init__" "Begun.__init__" s_Begun_init (He.ma K (He.ga K "Begun") "__init__") d_Begun_init := fun_of F0_Begun_init
  obtain ⟨d_Begun_divide, F0_Begun_divide⟩ := saysN_def c 1 rfl
  have F_Begun_divide : Fun K "divide" "Begun.divide" s_Begun_divide (He.ma K (He.ga K "Begun") "divide") d_Begun_divide := fun_of F0_Begun_divide
  obtain ⟨d_Begun_whole, F0_Begun_whole⟩ := saysN_def c 2 rfl
  have F_Begun_whole : Fun K "whole" "Begun.whole" s_Begun_whole (He.ma K (He.ga K "Begun") "whole") d_Begun_whole := fun_of F0_Begun_whole
  obtain ⟨d_Reader_init, F0_Reader_init⟩ := saysN_def c 3 rfl
  have F_Reader_init : Fun K "__init__" "Reader.__init__" s_Reader_init (He.ma K (He.ga K "Reader") "__init__") d_Reader_init := fun_of F0_Reader_init
  obtain ⟨d_Reader_take_line, F0_Reader_take_line⟩ := saysN_def c 4 rfl
  have F_Reader_take_line : Fun K "take_line" "Reader.take_line" s_Reader_take_line (He.ma K (He.ga K "Reader") "take_line") d_Reader_take_line := fun_of F0_Reader_take_line
  obtain ⟨d_Reader_begin, F0_Reader_begin⟩ := saysN_def c 5 rfl
  have F_Reader_begin : Fun K "_begin" "Reader._begin" s_Reader_begin (He.ma K (He.ga K "Reader") "_begin") d_Reader_begin := fun_of F0_Reader_begin
  obtain ⟨d_Reader_end, F0_Reader_end⟩ := saysN_def c 6 rfl
  have F_Reader_end : Fun K "_end" "Reader._end" s_Reader_end (He.ma K (He.ga K "Reader") "_end") d_Reader_end := fun_of F0_Reader_end
  obtain ⟨d_Reader_put, F0_Reader_put⟩ := saysN_def c 7 rfl
  have F_Reader_put : Fun K "_put" "Reader._put" s_Reader_put (He.ma K (He.ga K "Reader") "_put") d_Reader_put := fun_of F0_Reader_put
  obtain ⟨d_BadLine, F0_BadLine⟩ := saysN_def c 8 rfl
  have F_BadLine : Fun K "__init__" "BadLine.__init__" s_BadLine (He.ma K (He.ga K "BadLine") "__init__") d_BadLine := fun_of F0_BadLine
  obtain ⟨g_BadLine, x_BadLine, n_BadLine, p_BadLine⟩ := and4 hi_BadLine
  obtain ⟨d_TooDeep, F0_TooDeep⟩ := saysN_def c 9 rfl
  have F_TooDeep : Fun K "__init__" "TooDeep.__init__" s_TooDeep (He.ma K (He.ga K "TooDeep") "__init__") d_TooDeep := fun_of F0_TooDeep
  obtain ⟨g_TooDeep, x_TooDeep, n_TooDeep, p_TooDeep⟩ := and4 hi_TooDeep
  obtain ⟨d_Unclosed, F0_Unclosed⟩ := saysN_def c 10 rfl
  have F_Unclosed : Fun K "__init__" "Unclosed.__init__" s_Unclosed (He.ma K (He.ga K "Unclosed") "__init__") d_Unclosed := fun_of F0_Unclosed
  obtain ⟨g_Unclosed, x_Unclosed, n_Unclosed, p_Unclosed⟩ := and4 hi_Unclosed
  obtain ⟨d_is_word, F0_is_word⟩ := saysN_def c 11 rfl
  have F_is_word : Fun K "is_word" "is_word" s_is_word (He.ga K "is_word") d_is_word := fun_of F0_is_word
  obtain ⟨d_is_ident, F0_is_ident⟩ := saysN_def c 12 rfl
  have F_is_ident : Fun K "is_ident" "is_ident" s_is_ident (He.ga K "is_ident") d_is_ident := fun_of F0_is_ident
  obtain ⟨d_roles_of, F0_roles_of⟩ := saysN_def c 13 rfl
  have F_roles_of : Fun K "roles_of" "roles_of" s_roles_of (He.ga K "roles_of") d_roles_of := fun_of F0_roles_of
  obtain ⟨d_is_statement, F0_is_statement⟩ := saysN_def c 14 rfl
  have F_is_statement : Fun K "is_statement" "is_statement" s_is_statement (He.ga K "is_statement") d_is_statement := fun_of F0_is_statement
  obtain ⟨d_fit, F0_fit⟩ := saysN_def c 15 rfl
  have F_fit : Fun K "fit" "fit" s_fit (He.ga K "fit") d_fit := fun_of F0_fit
  obtain ⟨d_is_headed, F0_is_headed⟩ := saysN_def c 16 rfl
  have F_is_headed : Fun K "_is_headed" "_is_headed" s_is_headed (He.ga K "_is_headed") d_is_headed := fun_of F0_is_headed
  obtain ⟨d_fits, F0_fits⟩ := saysN_def c 17 rfl
  have F_fits : Fun K "_fits" "_fits" s_fits (He.ga K "_fits") d_fits := fun_of F0_fits
  obtain ⟨d_is_worth, F0_is_worth⟩ := saysN_def c 18 rfl
  have F_is_worth : Fun K "_is_worth" "_is_worth" s_is_worth (He.ga K "_is_worth") d_is_worth := fun_of F0_is_worth
  obtain ⟨d_parse, F0_parse⟩ := saysN_def c 19 rfl
  have F_parse : Fun K "parse" "parse" s_parse (He.ga K "parse") d_parse := fun_of F0_parse
  obtain ⟨d_read_head, F0_read_head⟩ := saysN_def c 20 rfl
  have F_read_head : Fun K "_read_head" "_read_head" s_read_head (He.ga K "_read_head") d_read_head := fun_of F0_read_head
  obtain ⟨d_line_roles, F0_line_roles⟩ := saysN_def c 21 rfl
  have F_line_roles : Fun K "_line_roles" "_line_roles" s_line_roles (He.ga K "_line_roles") d_line_roles := fun_of F0_line_roles
  obtain ⟨d_read_part, F0_read_part⟩ := saysN_def c 22 rfl
  have F_read_part : Fun K "_read_part" "_read_part" s_read_part (He.ga K "_read_part") d_read_part := fun_of F0_read_part
  obtain ⟨d_read_statement, F0_read_statement⟩ := saysN_def c 23 rfl
  have F_read_statement : Fun K "_read_statement" "_read_statement" s_read_statement (He.ga K "_read_statement") d_read_statement := fun_of F0_read_statement
  obtain ⟨d_read_worth, F0_read_worth⟩ := saysN_def c 24 rfl
  have F_read_worth : Fun K "_read_worth" "_read_worth" s_read_worth (He.ga K "_read_worth") d_read_worth := fun_of F0_read_worth
  obtain ⟨d_read_captured, F0_read_captured⟩ := saysN_def c 25 rfl
  have F_read_captured : Fun K "_read_captured" "_read_captured" s_read_captured (He.ga K "_read_captured") d_read_captured := fun_of F0_read_captured
  obtain ⟨d_l_tape, F0_l_tape⟩ := saysN_def c 26 rfl
  have F_l_tape : Fun K "_law_tape" "_law_tape" s_l_tape (He.ga K "_law_tape") d_l_tape := fun_of F0_l_tape
  obtain ⟨d_l_draw, F0_l_draw⟩ := saysN_def c 27 rfl
  have F_l_draw : Fun K "_law_draw" "_law_draw" s_l_draw (He.ga K "_law_draw") d_l_draw := fun_of F0_l_draw
  obtain ⟨d_l_kept, F0_l_kept⟩ := saysN_def c 28 rfl
  have F_l_kept : Fun K "_law_kept" "_law_kept" s_l_kept (He.ga K "_law_kept") d_l_kept := fun_of F0_l_kept
  obtain ⟨d_l_signs, F0_l_signs⟩ := saysN_def c 29 rfl
  have F_l_signs : Fun K "_law_signs" "_law_signs" s_l_signs (He.ga K "_law_signs") d_l_signs := fun_of F0_l_signs
  obtain ⟨d_l_spelled, F0_l_spelled⟩ := saysN_def c 30 rfl
  have F_l_spelled : Fun K "_law_spelled" "_law_spelled" s_l_spelled (He.ga K "_law_spelled") d_l_spelled := fun_of F0_l_spelled
  obtain ⟨d_l_ident, F0_l_ident⟩ := saysN_def c 31 rfl
  have F_l_ident : Fun K "_law_ident" "_law_ident" s_l_ident (He.ga K "_law_ident") d_l_ident := fun_of F0_l_ident
  obtain ⟨d_l_word, F0_l_word⟩ := saysN_def c 32 rfl
  have F_l_word : Fun K "_law_word" "_law_word" s_l_word (He.ga K "_law_word") d_l_word := fun_of F0_l_word
  obtain ⟨d_l_heads, F0_l_heads⟩ := saysN_def c 33 rfl
  have F_l_heads : Fun K "_law_heads" "_law_heads" s_l_heads (He.ga K "_law_heads") d_l_heads := fun_of F0_l_heads
  obtain ⟨d_l_chosen, F0_l_chosen⟩ := saysN_def c 34 rfl
  have F_l_chosen : Fun K "_law_chosen" "_law_chosen" s_l_chosen (He.ga K "_law_chosen") d_l_chosen := fun_of F0_l_chosen
  obtain ⟨d_l_item, F0_l_item⟩ := saysN_def c 35 rfl
  have F_l_item : Fun K "_law_item" "_law_item" s_l_item (He.ga K "_law_item") d_l_item := fun_of F0_l_item
  obtain ⟨d_l_rows, F0_l_rows⟩ := saysN_def c 36 rfl
  have F_l_rows : Fun K "_law_rows" "_law_rows" s_l_rows (He.ga K "_law_rows") d_l_rows := fun_of F0_l_rows
  obtain ⟨d_l_parts, F0_l_parts⟩ := saysN_def c 37 rfl
  have F_l_parts : Fun K "_law_parts" "_law_parts" s_l_parts (He.ga K "_law_parts") d_l_parts := fun_of F0_l_parts
  obtain ⟨d_l_blocks, F0_l_blocks⟩ := saysN_def c 38 rfl
  have F_l_blocks : Fun K "_law_blocks" "_law_blocks" s_l_blocks (He.ga K "_law_blocks") d_l_blocks := fun_of F0_l_blocks
  obtain ⟨d_l_head, F0_l_head⟩ := saysN_def c 39 rfl
  have F_l_head : Fun K "_law_head" "_law_head" s_l_head (He.ga K "_law_head") d_l_head := fun_of F0_l_head
  obtain ⟨d_l_statement_lines, F0_l_statement_lines⟩ := saysN_def c 40 rfl
  have F_l_statement_lines : Fun K "_law_statement_lines" "_law_statement_lines" s_l_statement_lines (He.ga K "_law_statement_lines") d_l_statement_lines := fun_of F0_l_statement_lines
  obtain ⟨d_l_lines, F0_l_lines⟩ := saysN_def c 41 rfl
  have F_l_lines : Fun K "_law_lines" "_law_lines" s_l_lines (He.ga K "_law_lines") d_l_lines := fun_of F0_l_lines
  obtain ⟨d_l_noisy_rows, F0_l_noisy_rows⟩ := saysN_def c 42 rfl
  have F_l_noisy_rows : Fun K "_law_noisy_rows" "_law_noisy_rows" s_l_noisy_rows (He.ga K "_law_noisy_rows") d_l_noisy_rows := fun_of F0_l_noisy_rows
  obtain ⟨d_l_noisy_parts, F0_l_noisy_parts⟩ := saysN_def c 43 rfl
  have F_l_noisy_parts : Fun K "_law_noisy_parts" "_law_noisy_parts" s_l_noisy_parts (He.ga K "_law_noisy_parts") d_l_noisy_parts := fun_of F0_l_noisy_parts
  obtain ⟨d_l_spaced, F0_l_spaced⟩ := saysN_def c 44 rfl
  have F_l_spaced : Fun K "_law_spaced" "_law_spaced" s_l_spaced (He.ga K "_law_spaced") d_l_spaced := fun_of F0_l_spaced
  obtain ⟨d_l_noise, F0_l_noise⟩ := saysN_def c 45 rfl
  have F_l_noise : Fun K "_law_noise" "_law_noise" s_l_noise (He.ga K "_law_noise") d_l_noise := fun_of F0_l_noise
  obtain ⟨d_l_noisy, F0_l_noisy⟩ := saysN_def c 46 rfl
  have F_l_noisy : Fun K "_law_noisy" "_law_noisy" s_l_noisy (He.ga K "_law_noisy") d_l_noisy := fun_of F0_l_noisy
  obtain ⟨d_law, F0_law⟩ := saysN_def c 47 rfl
  have F_law : Fun K "law" "law" s_law (He.ga K "law") d_law := fun_of F0_law
  obtain ⟨t_LETTERS, m_LETTERS⟩ := He.str_ok X G hv_LETTERS
  obtain ⟨t_DIGITS, m_DIGITS⟩ := He.str_ok X G hv_DIGITS
  obtain ⟨t_LONGEST_WORD, m_LONGEST_WORD⟩ := He.int_ok X G hv_LONGEST_WORD
  obtain ⟨t_MOST_BLOCKS, m_MOST_BLOCKS⟩ := He.int_ok X G hv_MOST_BLOCKS
  obtain ⟨cd_PARTS⟩ := cdict_tup (w := w) (K := K) (kvs := V_PARTS) (dw (fun K => He.ga K "PARTS", V_PARTS.map (·.1)) (by simp [tsL])) hd_PARTS
  obtain ⟨cd_STATEMENTS⟩ := cdict_tup (w := w) (K := K) (kvs := V_STATEMENTS) (dw (fun K => He.ga K "STATEMENTS", V_STATEMENTS.map (·.1)) (by simp [tsL])) hd_STATEMENTS
  obtain ⟨cd_CHOICES⟩ := cdict_tup (w := w) (K := K) (kvs := V_CHOICES) (dw (fun K => He.ga K "CHOICES", V_CHOICES.map (·.1)) (by simp [tsL])) hd_CHOICES
  obtain ⟨cd_DIVIDERS⟩ := cdict_str (w := w) (K := K) (kvs := V_DIVIDERS) (dw (fun K => He.ga K "DIVIDERS", V_DIVIDERS.map (·.1)) (by simp [tsL])) hd_DIVIDERS
  let T : Txt K mg w := {
    k_PARTS := He.ga K "PARTS"
    m_PARTS := He.glo_ok X G hv_PARTS
    c_PARTS := cd_PARTS
    k_STATEMENTS := He.ga K "STATEMENTS"
    m_STATEMENTS := He.glo_ok X G hv_STATEMENTS
    c_STATEMENTS := cd_STATEMENTS
    k_CHOICES := He.ga K "CHOICES"
    m_CHOICES := He.glo_ok X G hv_CHOICES
    c_CHOICES := cd_CHOICES
    k_DIVIDERS := He.ga K "DIVIDERS"
    m_DIVIDERS := He.glo_ok X G hv_DIVIDERS
    c_DIVIDERS := cd_DIVIDERS
    c_BadLine := ⟨He.ga K "BadLine", He.ma K (He.ga K "BadLine") "__init__", d_BadLine, glo_mg X G g_BadLine, exK_of eG x_BadLine, exI_of n_BadLine, F_BadLine, F_BadLine.binds (ps := ["self", "line"]) (fun _ _ _ _ _ _ us hl => match us, hl with | [_, _], _ => rfl)⟩
    c_TooDeep := ⟨He.ga K "TooDeep", He.ma K (He.ga K "TooDeep") "__init__", d_TooDeep, glo_mg X G g_TooDeep, exK_of eG x_TooDeep, exI_of n_TooDeep, F_TooDeep, F_TooDeep.binds (ps := ["self", "line"]) (fun _ _ _ _ _ _ us hl => match us, hl with | [_, _], _ => rfl)⟩
    c_Unclosed := ⟨He.ga K "Unclosed", He.ma K (He.ga K "Unclosed") "__init__", d_Unclosed, glo_mg X G g_Unclosed, exK_of eG x_Unclosed, exI_of n_Unclosed, F_Unclosed, F_Unclosed.binds (ps := ["self", "line"]) (fun _ _ _ _ _ _ us hl => match us, hl with | [_, _], _ => rfl)⟩
    c_BindspanError := ⟨He.ga K "BindspanError", glo_mg X G (and3 h0_BindspanError).1, exK_of eG (and3 h0_BindspanError).2.1, (and3 h0_BindspanError).2.2⟩
    c_BadText := ⟨He.ga K "BadText", glo_mg X G (and3 h0_BadText).1, exK_of eG (and3 h0_BadText).2.1, (and3 h0_BadText).2.2⟩
    e_Begun := cnT X G hc_Begun
    i_Begun_init := ⟨He.ma K (He.ga K "Begun") "__init__", d_Begun_init, F_Begun_init, (meth_of hm_Begun_init).1, (meth_of hm_Begun_init).2, F_Begun_init.binds (ps := ["self", "line", "head"]) (fun _ _ _ _ _ _ us hl => match us, hl with | [_, _, _], _ => rfl)⟩
    i_Begun_divide := ⟨He.ma K (He.ga K "Begun") "divide", d_Begun_divide, F_Begun_divide, (meth_of hm_Begun_divide).1, (meth_of hm_Begun_divide).2, F_Begun_divide.binds (ps := ["self", "word"]) (fun _ _ _ _ _ _ us hl => match us, hl with | [_, _], _ => rfl)⟩
    i_Begun_whole := ⟨He.ma K (He.ga K "Begun") "whole", d_Begun_whole, F_Begun_whole, (meth_of hm_Begun_whole).1, (meth_of hm_Begun_whole).2, F_Begun_whole.binds (ps := ["self"]) (fun _ _ _ _ _ _ us hl => match us, hl with | [_], _ => rfl)⟩
    e_Reader := cnT X G hc_Reader
    i_Reader_init := ⟨He.ma K (He.ga K "Reader") "__init__", d_Reader_init, F_Reader_init, (meth_of hm_Reader_init).1, (meth_of hm_Reader_init).2, F_Reader_init.binds (ps := ["self"]) (fun _ _ _ _ _ _ us hl => match us, hl with | [_], _ => rfl)⟩
    i_Reader_take_line := ⟨He.ma K (He.ga K "Reader") "take_line", d_Reader_take_line, F_Reader_take_line, (meth_of hm_Reader_take_line).1, (meth_of hm_Reader_take_line).2, F_Reader_take_line.binds (ps := ["self", "number", "words"]) (fun _ _ _ _ _ _ us hl => match us, hl with | [_, _, _], _ => rfl)⟩
    i_Reader_begin := ⟨He.ma K (He.ga K "Reader") "_begin", d_Reader_begin, F_Reader_begin, (meth_of hm_Reader_begin).1, (meth_of hm_Reader_begin).2, F_Reader_begin.binds (ps := ["self", "number", "words"]) (fun _ _ _ _ _ _ us hl => match us, hl with | [_, _, _], _ => rfl)⟩
    i_Reader_end := ⟨He.ma K (He.ga K "Reader") "_end", d_Reader_end, F_Reader_end, (meth_of hm_Reader_end).1, (meth_of hm_Reader_end).2, F_Reader_end.binds (ps := ["self", "number"]) (fun _ _ _ _ _ _ us hl => match us, hl with | [_, _], _ => rfl)⟩
    i_Reader_put := ⟨He.ma K (He.ga K "Reader") "_put", d_Reader_put, F_Reader_put, (meth_of hm_Reader_put).1, (meth_of hm_Reader_put).2, F_Reader_put.binds (ps := ["self", "node"]) (fun _ _ _ _ _ _ us hl => match us, hl with | [_, _], _ => rfl)⟩
    n_Reader_parts := He.eqO_ok ho_n_Reader_parts
    n_Reader_lines := He.eqO_ok ho_n_Reader_lines
    n_Reader_begun := He.eqO_ok ho_n_Reader_begun
    n_Begun_line := He.eqO_ok ho_n_Begun_line
    n_Begun_head := He.eqO_ok ho_n_Begun_head
    n_Begun_groups := He.eqO_ok ho_n_Begun_groups
    d_is_word := ⟨He.ga K "is_word", d_is_word, F_is_word, He.glo_ok X G hg_is_word, F_is_word.binds (ps := ["value"]) (fun _ _ _ _ _ _ us hl => match us, hl with | [_], _ => rfl)⟩
    d_is_ident := ⟨He.ga K "is_ident", d_is_ident, F_is_ident, He.glo_ok X G hg_is_ident, F_is_ident.binds (ps := ["value"]) (fun _ _ _ _ _ _ us hl => match us, hl with | [_], _ => rfl)⟩
    d_roles_of := ⟨He.ga K "roles_of", d_roles_of, F_roles_of, He.glo_ok X G hg_roles_of, F_roles_of.binds (ps := ["first"]) (fun _ _ _ _ _ _ us hl => match us, hl with | [_], _ => rfl)⟩
    d_is_statement := ⟨He.ga K "is_statement", d_is_statement, F_is_statement, He.glo_ok X G hg_is_statement, F_is_statement.binds (ps := ["value", "blocks"]) (fun _ _ _ _ _ _ us hl => match us, hl with | [_, _], _ => rfl)⟩
    d_fit := ⟨He.ga K "fit", d_fit, F_fit, He.glo_ok X G hg_fit, F_fit.binds (ps := ["roles", "values", "blocks"]) (fun _ _ _ _ _ _ us hl => match us, hl with | [_, _, _], _ => rfl)⟩
    d_is_headed := ⟨He.ga K "_is_headed", d_is_headed, F_is_headed, He.glo_ok X G hg_is_headed, F_is_headed.binds (ps := ["value"]) (fun _ _ _ _ _ _ us hl => match us, hl with | [_], _ => rfl)⟩
    d_fits := ⟨He.ga K "_fits", d_fits, F_fits, He.glo_ok X G hg_fits, F_fits.binds (ps := ["role", "value", "blocks"]) (fun _ _ _ _ _ _ us hl => match us, hl with | [_, _, _], _ => rfl)⟩
    d_is_worth := ⟨He.ga K "_is_worth", d_is_worth, F_is_worth, He.glo_ok X G hg_is_worth, F_is_worth.binds (ps := ["value"]) (fun _ _ _ _ _ _ us hl => match us, hl with | [_], _ => rfl)⟩
    d_parse := ⟨He.ga K "parse", d_parse, F_parse, He.glo_ok X G hg_parse, F_parse.binds (ps := ["text"]) (fun _ _ _ _ _ _ us hl => match us, hl with | [_], _ => rfl)⟩
    d_read_head := ⟨He.ga K "_read_head", d_read_head, F_read_head, He.glo_ok X G hg_read_head, F_read_head.binds (ps := ["words"]) (fun _ _ _ _ _ _ us hl => match us, hl with | [_], _ => rfl)⟩
    d_line_roles := ⟨He.ga K "_line_roles", d_line_roles, F_line_roles, He.glo_ok X G hg_line_roles, F_line_roles.binds (ps := ["first"]) (fun _ _ _ _ _ _ us hl => match us, hl with | [_], _ => rfl)⟩
    d_read_part := ⟨He.ga K "_read_part", d_read_part, F_read_part, He.glo_ok X G hg_read_part, F_read_part.binds (ps := ["words"]) (fun _ _ _ _ _ _ us hl => match us, hl with | [_], _ => rfl)⟩
    d_read_statement := ⟨He.ga K "_read_statement", d_read_statement, F_read_statement, He.glo_ok X G hg_read_statement, F_read_statement.binds (ps := ["words"]) (fun _ _ _ _ _ _ us hl => match us, hl with | [_], _ => rfl)⟩
    d_read_worth := ⟨He.ga K "_read_worth", d_read_worth, F_read_worth, He.glo_ok X G hg_read_worth, F_read_worth.binds (ps := ["words"]) (fun _ _ _ _ _ _ us hl => match us, hl with | [_], _ => rfl)⟩
    d_read_captured := ⟨He.ga K "_read_captured", d_read_captured, F_read_captured, He.glo_ok X G hg_read_captured, F_read_captured.binds (ps := ["words"]) (fun _ _ _ _ _ _ us hl => match us, hl with | [_], _ => rfl)⟩
    d_l_tape := ⟨He.ga K "_law_tape", d_l_tape, F_l_tape, He.glo_ok X G hg_l_tape, F_l_tape.binds (ps := ["_law_script", "_law_k"]) (fun _ _ _ _ _ _ us hl => match us, hl with | [_, _], _ => rfl)⟩
    d_l_draw := ⟨He.ga K "_law_draw", d_l_draw, F_l_draw, He.glo_ok X G hg_l_draw, F_l_draw.binds (ps := ["_law_tape_here", "_law_many"]) (fun _ _ _ _ _ _ us hl => match us, hl with | [_, _], _ => rfl)⟩
    d_l_kept := ⟨He.ga K "_law_kept", d_l_kept, F_l_kept, He.glo_ok X G hg_l_kept, F_l_kept.binds (ps := []) (fun _ _ _ _ _ _ us hl => match us, hl with | [], _ => rfl)⟩
    d_l_signs := ⟨He.ga K "_law_signs", d_l_signs, F_l_signs, He.glo_ok X G hg_l_signs, F_l_signs.binds (ps := []) (fun _ _ _ _ _ _ us hl => match us, hl with | [], _ => rfl)⟩
    d_l_spelled := ⟨He.ga K "_law_spelled", d_l_spelled, F_l_spelled, He.glo_ok X G hg_l_spelled, F_l_spelled.binds (ps := ["_law_tape_here", "_law_used"]) (fun _ _ _ _ _ _ us hl => match us, hl with | [_, _], _ => rfl)⟩
    d_l_ident := ⟨He.ga K "_law_ident", d_l_ident, F_l_ident, He.glo_ok X G hg_l_ident, F_l_ident.binds (ps := ["_law_tape_here", "_law_used"]) (fun _ _ _ _ _ _ us hl => match us, hl with | [_, _], _ => rfl)⟩
    d_l_word := ⟨He.ga K "_law_word", d_l_word, F_l_word, He.glo_ok X G hg_l_word, F_l_word.binds (ps := ["_law_tape_here"]) (fun _ _ _ _ _ _ us hl => match us, hl with | [_], _ => rfl)⟩
    d_l_heads := ⟨He.ga K "_law_heads", d_l_heads, F_l_heads, He.glo_ok X G hg_l_heads, F_l_heads.binds (ps := ["_law_tape_here", "_law_most"]) (fun _ _ _ _ _ _ us hl => match us, hl with | [_, _], _ => rfl)⟩
    d_l_chosen := ⟨He.ga K "_law_chosen", d_l_chosen, F_l_chosen, He.glo_ok X G hg_l_chosen, F_l_chosen.binds (ps := ["_law_tape_here", "_law_heads_here", "_law_kinds"]) (fun _ _ _ _ _ _ us hl => match us, hl with | [_, _, _], _ => rfl)⟩
    d_l_item := ⟨He.ga K "_law_item", d_l_item, F_l_item, He.glo_ok X G hg_l_item, F_l_item.binds (ps := ["_law_tape_here", "_law_heads_here", "_law_shape", "_law_level"]) (fun _ _ _ _ _ _ us hl => match us, hl with | [_, _, _, _], _ => rfl)⟩
    d_l_rows := ⟨He.ga K "_law_rows", d_l_rows, F_l_rows, He.glo_ok X G hg_l_rows, F_l_rows.binds (ps := ["_law_tape_here", "_law_heads_here", "_law_level"]) (fun _ _ _ _ _ _ us hl => match us, hl with | [_, _, _], _ => rfl)⟩
    d_l_parts := ⟨He.ga K "_law_parts", d_l_parts, F_l_parts, He.glo_ok X G hg_l_parts, F_l_parts.binds (ps := ["_law_script", "_law_most"]) (fun _ _ _ _ _ _ us hl => match us, hl with | [_, _], _ => rfl)⟩
    d_l_blocks := ⟨He.ga K "_law_blocks", d_l_blocks, F_l_blocks, He.glo_ok X G hg_l_blocks, F_l_blocks.binds (ps := ["_law_statement"]) (fun _ _ _ _ _ _ us hl => match us, hl with | [_], _ => rfl)⟩
    d_l_head := ⟨He.ga K "_law_head", d_l_head, F_l_head, He.glo_ok X G hg_l_head, F_l_head.binds (ps := ["_law_statement"]) (fun _ _ _ _ _ _ us hl => match us, hl with | [_], _ => rfl)⟩
    d_l_statement_lines := ⟨He.ga K "_law_statement_lines", d_l_statement_lines, F_l_statement_lines, He.glo_ok X G hg_l_statement_lines, F_l_statement_lines.binds (ps := ["_law_statement", "_law_pad"]) (fun _ _ _ _ _ _ us hl => match us, hl with | [_, _], _ => rfl)⟩
    d_l_lines := ⟨He.ga K "_law_lines", d_l_lines, F_l_lines, He.glo_ok X G hg_l_lines, F_l_lines.binds (ps := ["_law_parts_here"]) (fun _ _ _ _ _ _ us hl => match us, hl with | [_], _ => rfl)⟩
    d_l_noisy_rows := ⟨He.ga K "_law_noisy_rows", d_l_noisy_rows, F_l_noisy_rows, He.glo_ok X G hg_l_noisy_rows, F_l_noisy_rows.binds (ps := ["_law_tape_here", "_law_rows_here"]) (fun _ _ _ _ _ _ us hl => match us, hl with | [_, _], _ => rfl)⟩
    d_l_noisy_parts := ⟨He.ga K "_law_noisy_parts", d_l_noisy_parts, F_l_noisy_parts, He.glo_ok X G hg_l_noisy_parts, F_l_noisy_parts.binds (ps := ["_law_tape_here", "_law_parts_here"]) (fun _ _ _ _ _ _ us hl => match us, hl with | [_, _], _ => rfl)⟩
    d_l_spaced := ⟨He.ga K "_law_spaced", d_l_spaced, F_l_spaced, He.glo_ok X G hg_l_spaced, F_l_spaced.binds (ps := ["_law_tape_here", "_law_text"]) (fun _ _ _ _ _ _ us hl => match us, hl with | [_, _], _ => rfl)⟩
    d_l_noise := ⟨He.ga K "_law_noise", d_l_noise, F_l_noise, He.glo_ok X G hg_l_noise, F_l_noise.binds (ps := ["_law_tape_here"]) (fun _ _ _ _ _ _ us hl => match us, hl with | [_], _ => rfl)⟩
    d_l_noisy := ⟨He.ga K "_law_noisy", d_l_noisy, F_l_noisy, He.glo_ok X G hg_l_noisy, F_l_noisy.binds (ps := ["_law_tape_here", "_law_parts_here"]) (fun _ _ _ _ _ _ us hl => match us, hl with | [_, _], _ => rfl)⟩
    d_law := ⟨He.ga K "law", d_law, F_law, He.glo_ok X G hg_law, F_law.binds (ps := ["_law_script"]) (fun _ _ _ _ _ _ us hl => match us, hl with | [_], _ => rfl)⟩
    z_isinstance := He.free_ok X G hz_isinstance
    z_len := He.free_ok X G hz_len
    z_int := He.free_ok X G hz_int
    z_range := He.free_ok X G hz_range
    z_str := He.free_ok X G hz_str
    z_list := He.free_ok X G hz_list
    z_tuple := He.free_ok X G hz_tuple
    z_zip := He.free_ok X G hz_zip
    z_all := He.free_ok X G hz_all
    z_enumerate := He.free_ok X G hz_enumerate
    z_reversed := He.free_ok X G hz_reversed
    z_bool := He.free_ok X G hz_bool
    t_LETTERS := t_LETTERS
    m_LETTERS := m_LETTERS
    t_DIGITS := t_DIGITS
    m_DIGITS := m_DIGITS
    t_LONGEST_WORD := t_LONGEST_WORD
    m_LONGEST_WORD := m_LONGEST_WORD
    t_MOST_BLOCKS := t_MOST_BLOCKS
    m_MOST_BLOCKS := m_MOST_BLOCKS
    k_KEPT_WORDS := He.ga K "KEPT_WORDS"
    m_KEPT_WORDS := He.glo_ok X G hv_KEPT_WORDS
    s_KEPT_WORDS := fun H => He.tupB_ok ht_KEPT_WORDS H
    q_str_str := of_decide_eq_true q_str_str
    q_tup_tup := of_decide_eq_true q_tup_tup
    q_tup_str := of_decide_eq_true q_tup_str }
  have e := hfa.symm.trans T.d_law.g
  cases e
  refine ⟨d_law, fun s v => ?_, fun base _ _ _ => ok_law T (Tb := TbOf K)⟩
  obtain ⟨oc, od, kV, doc, pm, an, cdv, ct, osl, rfl, _, _⟩ := F_law.ex
  exact .of_eq rfl
theorem lawStart {K : PySem.W.Frag} {H : Hp} (a : Addr) (ns : List Int) (hl : ns.length ≤ 63) (ht : ∀ p ∈ tfA, H (He.cT K p).2 = some (.tbl #[])) (hS : SqL K H a (ns.map V.int)) : spLaw K (TbOf K) [.ref a] H (fun v _ => v = .bl true) fun _ _ _ => False :=
  ⟨a, ns, rfl, hS, hl, fun _ => rfl⟩
end Own
open PySem PySem.W PySem.Calls PyProof.Rows
set_option maxRecDepth 100000 in
set_option maxHeartbeats 0 in
theorem PySem.Challenge.cw_bindspan_k14_whole_parse_noise_holds : PySem.Challenge.rw_bindspan_k14_whole_parse_noise.Holds := by
  w_on; o_law
  refine HandSHeadRun.head_any (r := OpenLaw.row PySem.Challenge.rw_bindspan_k14_whole_parse_noise) (q := view (OpenLaw.row PySem.Challenge.rw_bindspan_k14_whole_parse_noise).prog [57]) (H := Own.hookW Own.chkA Own.fnA Own.tfA Own.prL Own.tsL) (ob := Own.obW Own.chkA Own.fnA Own.tfA Own.prL Own.tsL) (M := 30000) (loose := Own.namesL) (d := HandSHeadRun.topDef (OpenLaw.row PySem.Challenge.rw_bindspan_k14_whole_parse_noise).prog 57) (kwd := []) Own.obW_eq
    (by kernel_rfl) (fun s => by kernel_rfl) Own.run (by kernel_rfl) (by kernel_rfl) (by kernel_rfl) (by rfl) (by first | assumption | decide +kernel) (by decide +kernel) ⟨rfl, rfl, rfl, rfl, rfl, by decide +kernel⟩ ?hw ?hc
  case hw => w_witness2
  case hc =>
    refine LamX.walk_ofTsE (l := PySem.Challenge.rw_bindspan_k14_whole_parse_noise) (n := 63) (k := 39) (x := "_law_script") (CX := fun _ => L2.CX0) rfl (by decide) (by kernel_rfl) ⟨rfl, by decide, by decide⟩ ?F (fun _ _ _ _ _ z => z)
    intro w mg fa h Y G hmg0
    obtain ⟨K, KX, c, tY, pz, dw⟩ := Y
    have hmg : mg ("law" : PySem.Str) = some (.ref fa) := by
      have e : (HandSHeadRun.topDef (OpenLaw.row PySem.Challenge.rw_bindspan_k14_whole_parse_noise).prog 57).name = ("law" : PySem.Str) := by kernel_rfl
      rw [← e]
      exact hmg0
    obtain ⟨fd, hb, hF⟩ := Own.facts (P := (PySem.Challenge.rw_bindspan_k14_whole_parse_noise).prog) (w := w) KX G hmg c dw
    exact ⟨K, KX, Own.lawAtY KX tY hb (fun H a ns hl hT hS => Own.lawStart a ns hl hT hS) hF⟩

