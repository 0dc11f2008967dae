/- operand: tokens, plain. -/
import Derived.Test.YthejefldnpeciaaGreatDoorzO1
namespace Go.Proofs.YthejefldnpeciaaGreatDoor
set_option linter.unusedVariables false
set_option linter.unusedSimpArgs false
open Go.ChangeShapes Go.WideShapes Go.Deep Go.RowKit

structure Ti where
  kind : Int
  text : List UInt8
  v : Int
def tiC (t : Ti) : List Value := [.int .i64 t.kind, .string ⟨t.text.toArray⟩, .int .u64 t.v]
abbrev tiZ : Ti := ⟨0, [], 0⟩
abbrev coB : List UInt8 := [44]
abbrev coT : Ti := ⟨4, coB, 0⟩
structure GoodTi (t : Ti) : Prop where
  kind : i64ok t.kind
  text : t.text.length ≤ maxLen
  v : 0 ≤ t.v ∧ t.v < 18446744073709551616
def GoodTs (l : List Ti) : Prop := ∀ t ∈ l, GoodTi t
def nextT (l : List Ti) : Ti := l.headD tiZ
def isSg (s : List UInt8) (t : Ti) : Bool := t.kind == 4 && t.text == s
structure Po where
  kind : Int
  reg : Int
  stack : Bool
  minus : Bool
  v : Int
  sym : List UInt8
  add : Int
def poC (o : Po) : List Value := [.int .i64 o.kind, .int .i64 o.reg, .bool o.stack, .bool o.minus, .int .u64 o.v, .string ⟨o.sym.toArray⟩, .int .i64 o.add]
abbrev poZ : Po := ⟨0, 0, false, false, 0, [], 0⟩
/-- A reader of tokens: what it tells, what is left, and whether a number was too great. -/
abbrev Pr (α : Type) : Type := List Ti → Option (α × List Ti × Bool)
def failP {α : Type} : Pr α := fun _ => none
def pureP {α : Type} (a : α) : Pr α := fun l => some (a, l, false)
def bindP {α β : Type} (f : Pr α) (k : α → Pr β) : Pr β := fun l =>
  match f l with
  | none => none
  | some (a, r, g) => match k a r with
    | none => none
    | some (b, r', g') => some (b, r', g || g')
/-- One token is taken, if it is told of. -/
def oneP {α : Type} (q : Ti → Option (α × Bool)) : Pr α := fun l =>
  match l with
  | [] => none
  | t :: r => match q t with
    | none => none
    | some (a, g) => some (a, r, g)
def ifP {α : Type} (q : Ti → Bool) (f g : Pr α) : Pr α := fun l => if q (nextT l) = true then f l else g l
def takeP (s : List UInt8) : Pr Bool := ifP (isSg s) (oneP fun _ => some (true, false)) (pureP false)
def wantP (s : List UInt8) : Pr Unit := oneP fun t => if isSg s t = true then some ((), false) else none
def digQ (t : Ti) : Option (Int × Bool) := if t.kind = 2 then (if (valS t.text).2 = 0 then some ((valS t.text).1, false) else if (valS t.text).2 = 4 then some (0, true) else none) else none
def digitsP : Pr Int := oneP digQ
def plainP : Pr Int := ifP (fun t => t.kind == 5) (oneP fun t => some (t.v, false)) digitsP
def numberP : Pr (Bool × Int) := bindP (takeP [45]) fun m => bindP plainP fun v => pureP (m && v != 0, v)
/-- What is added: the sign, and the digits. -/
def addTo (m : Bool) : Pr Int := bindP digitsP fun v => fun l => some ((signS m v).1, l, (signS m v).2 != 0)
def addedP : Pr Int := bindP (takeP [45]) fun m => if m = true then addTo true else bindP (takeP [43]) fun q => if q = true then addTo false else pureP 0
def isSym (t : Ti) : Bool := (t.kind == 2 && (labelL t.text).isSome) || (t.kind == 1 && isNmL t.text)
def exprP : Pr Po := ifP isSym (bindP (oneP fun t => some (t.text, false)) fun s => bindP addedP fun a => pureP ⟨3, 0, false, false, 0, s, a⟩)
  (bindP numberP fun n => pureP ⟨2, 0, false, n.1, n.2, [], 0⟩)
def isRg (t : Ti) : Bool := t.kind == 1 && (regL t.text).2.2 == 0
def regP : Pr (Int × Bool) := oneP fun t => if isRg t = true then some (((regL t.text).1, (regL t.text).2.1), false) else none
abbrev loB : List UInt8 := [108, 111, 49, 50]
def lowP : Pr Po := bindP (oneP fun t => if t.kind = 1 ∧ t.text = loB then some ((), false) else none) fun _ => bindP (wantP [58]) fun _ => bindP exprP fun o => if o.kind = 3 then pureP { o with kind := 6 } else failP
def memAt (rg : Int × Bool) : Pr Po := ifP (isSg [93]) (bindP (wantP [93]) fun _ => pureP ⟨4, rg.1, rg.2, false, 0, [], 0⟩)
  (bindP (wantP [44]) fun _ => bindP
    (ifP (isSg [58]) (bindP (wantP [58]) fun _ => bindP lowP fun o => pureP ⟨4, rg.1, rg.2, false, 0, o.sym, o.add⟩)
      (bindP (takeP [35]) fun _ => bindP plainP fun v => pureP ⟨4, rg.1, rg.2, false, v, [], 0⟩)) fun o => bindP (wantP [93]) fun _ => pureP o)
def memP : Pr Po := bindP regP memAt
def isSh (t : Ti) : Bool := t.kind == 1 && decide (0 ≤ shiftL t.text)
def operP : Pr Po :=
  ifP isSh (bindP (oneP fun t => some (shiftL t.text, false)) fun k => bindP (takeP [35]) fun _ => bindP plainP fun v => pureP ⟨7, k, false, false, v, [], 0⟩)
  (ifP isRg (bindP regP fun r => pureP ⟨1, r.1, r.2, false, 0, [], 0⟩)
  (ifP (isSg [91]) (bindP (wantP [91]) fun _ => memP)
  (ifP (isSg [61]) (bindP (wantP [61]) fun _ => bindP exprP fun o => pureP { o with kind := 5 })
  (ifP (isSg [35]) (bindP (wantP [35]) fun _ => ifP (isSg [58]) (bindP (wantP [58]) fun _ => lowP) (bindP numberP fun n => pureP ⟨2, 0, false, n.1, n.2, [], 0⟩))
  (ifP (isSg [58]) (bindP (wantP [58]) fun _ => lowP) exprP)))))
/-- Operands with commas between. -/
def stepI (f : Pr (List Po)) (x : Option (Po × List Ti × Bool)) : Option (List Po × List Ti × Bool) :=
  match x with
  | none => none
  | some (o, [], g) => some ([o], [], g)
  | some (o, t :: r, g) => if isSg coB t = true then (match f r with | none => none | some (os, r', g') => some (o :: os, r', g || g')) else none
def itemsN : Nat → Pr (List Po)
  | 0 => failP
  | n + 1 => fun l => stepI (itemsN n) (operP l)
def itemsL (l : List Ti) : Option (List Po × Bool) := match itemsN (l.length + 1) l with | none => none | some (os, _, g) => some (os, g)
/-- What Parse tells: operands, or an error. -/
def parseL (l : List Ti) : List Po × Int := if l = [] then ([], 0) else match itemsL l with | none => ([], 3) | some (os, g) => if g = true then ([], 4) else (os, 0)

/-! ### off the front -/
/-- What is told hangs on what is taken alone; what is taken ends in no comma. -/
structure Fr {α : Type} (f : Pr α) (may : Bool) : Prop where
  pre : ∀ {l r a g}, f l = some (a, r, g) → ∀ X, f (l ++ coT :: X) = some (a, r ++ coT :: X, g)
  suf : ∀ {l r a g}, f l = some (a, r, g) → (may = true ∧ r = l) ∨ ∃ u t, l = u ++ t :: r ∧ isSg coB t = false
theorem Fr.pure {α : Type} (a : α) : Fr (pureP a) true := ⟨fun h X => by unfold pureP at *; cases h; rfl, fun h => .inl ⟨rfl, by unfold pureP at h; cases h; rfl⟩⟩
theorem Fr.fail {α : Type} (m : Bool) : Fr (failP : Pr α) m := ⟨fun h => (by cases h), fun h => (by cases h)⟩
theorem Fr.weak {α : Type} {f : Pr α} (h : Fr f false) : Fr f true := ⟨h.pre, fun e => .inr ((h.suf e).resolve_left (by simp))⟩
theorem Fr.bind {α β : Type} {f : Pr α} {k : α → Pr β} {m n : Bool} (hf : Fr f m) (hk : ∀ a, Fr (k a) n) : Fr (bindP f k) (m && n) := by
  have key : ∀ {l r b g}, bindP f k l = some (b, r, g) → ∃ a r1 g1 g2, f l = some (a, r1, g1) ∧ k a r1 = some (b, r, g2) ∧ g = (g1 || g2) := by
    intro l r b g h
    unfold bindP at h
    split at h
    · cases h
    · rename_i a r1 g1 h1
      split at h
      · cases h
      · rename_i b' r' g' h2
        simp only [Option.some.injEq, Prod.mk.injEq] at h
        obtain ⟨rfl, rfl, rfl⟩ := h
        exact ⟨a, r1, g1, g', h1, h2, rfl⟩
  refine ⟨fun h X => ?_, fun h => ?_⟩
  · obtain ⟨a, r1, g1, g2, h1, h2, rfl⟩ := key h
    unfold bindP
    rw [hf.pre h1 X]
    simp only
    rw [(hk a).pre h2 X]
  · obtain ⟨a, r1, g1, g2, h1, h2, rfl⟩ := key h
    rcases hf.suf h1 with ⟨hm, rfl⟩ | ⟨u, t, rfl, ht⟩
    · rcases (hk a).suf h2 with ⟨hn, rfl⟩ | h3
      · exact .inl ⟨by rw [hm, hn]; rfl, rfl⟩
      · exact .inr h3
    · rcases (hk a).suf h2 with ⟨hn, rfl⟩ | ⟨u', t', rfl, ht'⟩
      · exact .inr ⟨u, t, rfl, ht⟩
      · exact .inr ⟨u ++ t :: u', t', by simp, ht'⟩
theorem Fr.one {α : Type} {q : Ti → Option (α × Bool)} (h : ∀ t, isSg coB t = true → q t = none) : Fr (oneP q) false := by
  have key : ∀ {l r a g}, oneP q l = some (a, r, g) → ∃ t, l = t :: r ∧ q t = some (a, g) := by
    intro l r a g h
    unfold oneP at h
    split at h
    · cases h
    · rename_i t r'
      split at h
      · cases h
      · rename_i e
        simp only [Option.some.injEq, Prod.mk.injEq] at h
        obtain ⟨rfl, rfl, rfl⟩ := h
        exact ⟨t, rfl, e⟩
  refine ⟨fun e X => ?_, fun e => ?_⟩
  · obtain ⟨t, rfl, ht⟩ := key e
    rw [List.cons_append]; unfold oneP; simp only [ht]
  · obtain ⟨t, rfl, ht⟩ := key e
    refine .inr ⟨[], t, rfl, ?_⟩
    cases hc : isSg coB t with
    | false => rfl
    | true => rw [h t hc] at ht; cases ht
/-- A test that a comma, and no token, fail. -/
theorem Fr.ite {α : Type} {q : Ti → Bool} {f g : Pr α} {m : Bool} (hz : q tiZ = false) (hc : ∀ t, isSg coB t = true → q t = false) (h1 : Fr f m) (h2 : Fr g m) : Fr (ifP q f g) m := by
  refine ⟨fun e X => ?_, fun e => ?_⟩
  · rename_i l r a g
    have hn : q (nextT (l ++ coT :: X)) = q (nextT l) := by
      cases l with
      | nil => show q coT = q tiZ; rw [hz, hc coT (by decide)]
      | cons a b => rfl
    unfold ifP at *
    rw [hn]
    split at e
    · rename_i c; rw [if_pos c]; exact h1.pre e X
    · rename_i c; rw [if_neg c]; exact h2.pre e X
  · unfold ifP at e
    split at e
    · exact h1.suf e
    · exact h2.suf e
theorem sg_comma {s : List UInt8} (h : (s == coB) = false) {t : Ti} (ht : isSg coB t = true) : isSg s t = false := by
  unfold isSg at *
  simp only [Bool.and_eq_true, beq_iff_eq] at ht
  rw [beq_eq_false_iff_ne] at h
  simp only [Bool.and_eq_false_iff, beq_eq_false_iff_ne, ne_eq]
  right; intro e; exact h (by rw [← e, ht.2])
theorem comma_kind {t : Ti} (ht : isSg coB t = true) : t.kind = 4 := by
  unfold isSg at ht
  simp only [Bool.and_eq_true, beq_iff_eq] at ht
  exact ht.1
/-- One token, after a test on it. -/
theorem Fr.iteOne {α β : Type} {q : Ti → Bool} {p : Ti → Option (α × Bool)} {k : α → Pr β} {g : Pr β} {n : Bool} (hz : q tiZ = false) (hc : ∀ t, isSg coB t = true → q t = false) (hk : ∀ a, Fr (k a) n) (h2 : Fr g false) : Fr (ifP q (bindP (oneP p) k) g) false := by
  -- the token that is taken passes the test, so it is no comma
  have e1 : ∀ l, ifP q (bindP (oneP p) k) g l = ifP q (bindP (oneP fun t => if isSg coB t = true then none else p t) k) g l := by
    intro l
    unfold ifP
    split
    · rename_i c
      cases l with
      | nil => rw [show nextT [] = tiZ from rfl, hz] at c; cases c
      | cons t r =>
        have hn : isSg coB t = false := by
          cases hh : isSg coB t with
          | false => rfl
          | true => rw [show nextT (t :: r) = t from rfl, hc t hh] at c; cases c
        unfold bindP oneP
        simp only [hn, Bool.false_eq_true, if_false]
    · rfl
  have hfr : Fr (ifP q (bindP (oneP fun t => if isSg coB t = true then none else p t) k) g) false :=
    Fr.ite hz hc (by
      have := Fr.bind (Fr.one (q := fun t => if isSg coB t = true then none else p t) fun t ht => by simp only [ht, if_true]) hk
      simpa using this) h2
  exact ⟨fun e X => by rw [e1] at e ⊢; exact hfr.pre e X, fun e => by rw [e1] at e; exact hfr.suf e⟩
theorem fr_want {s : List UInt8} (h : (s == coB) = false) : Fr (wantP s) false := Fr.one fun t ht => by rw [sg_comma h ht]; rfl
theorem fr_take {s : List UInt8} (h : (s == coB) = false) : Fr (takeP s) true := by
  have e : takeP s = fun l => ifP (isSg s) (bindP (wantP s) fun _ => pureP true) (pureP false) l := by
    funext l
    unfold takeP ifP
    split
    · rename_i c
      cases l with
      | nil => exact absurd c (by unfold isSg; simp [nextT])
      | cons t r =>
        have c' : isSg s t = true := c
        unfold bindP wantP oneP pureP
        simp only [c', if_true]; rfl
    · rfl
  rw [e]
  exact Fr.ite (by unfold isSg; rfl) (fun t ht => sg_comma h ht) (by have := Fr.bind (fr_want h) (fun _ => Fr.pure true); simpa using this.weak) (Fr.pure false)
theorem fr_digits : Fr digitsP false := Fr.one fun t ht => by unfold digQ; rw [if_neg (by rw [comma_kind ht]; decide)]
theorem bind_pure {α : Type} (f : Pr α) : bindP f pureP = f := by
  funext l
  unfold bindP pureP
  cases f l with
  | none => rfl
  | some x => obtain ⟨a, r, g⟩ := x; simp
theorem fr_plain : Fr plainP false := by
  have e : plainP = ifP (fun t => t.kind == 5) (bindP (oneP fun t => some (t.v, false)) pureP) digitsP := by unfold plainP; rw [bind_pure]
  rw [e]
  exact Fr.iteOne (n := true) (by rfl) (fun t ht => by rw [comma_kind ht]; rfl) (fun a => Fr.pure a) fr_digits
theorem fr_number : Fr numberP false := Fr.bind (fr_take (s := [45]) (by decide)) fun m => Fr.bind fr_plain fun v => Fr.pure (m && v != 0, v)
theorem fr_addTo (m : Bool) : Fr (addTo m) false := Fr.bind fr_digits fun v => (⟨fun h X => (by cases h; rfl), fun h => .inl ⟨rfl, (by cases h; rfl)⟩⟩ : Fr (fun l => some ((signS m v).1, l, (signS m v).2 != 0) : Pr Int) true)
theorem fr_added : Fr addedP true := by
  refine Fr.bind (n := true) (fr_take (s := [45]) (by decide)) fun m => ?_
  cases m
  · refine Fr.bind (n := true) (fr_take (s := [43]) (by decide)) fun q => ?_
    cases q
    · exact Fr.pure 0
    · exact (fr_addTo false).weak
  · exact (fr_addTo true).weak
theorem fr_expr : Fr exprP false :=
  Fr.iteOne (n := true) (by rfl) (fun t ht => by unfold isSym; rw [comma_kind ht]; rfl) (fun s => Fr.bind fr_added fun a => Fr.pure _) (Fr.bind fr_number fun n => Fr.pure _)
theorem fr_reg : Fr regP false := Fr.one fun t ht => by
  have : isRg t = false := by unfold isRg; rw [comma_kind ht]; rfl
  simp only [this, Bool.false_eq_true, if_false]
theorem fr_low : Fr lowP false := by
  refine Fr.bind (n := true) (Fr.one fun t ht => ?_) fun _ => (Fr.bind (n := true) (fr_want (s := [58]) (by decide)) fun _ => (Fr.bind (n := true) fr_expr fun o => ?_).weak).weak
  · rw [if_neg (by rw [comma_kind ht]; rintro ⟨h, -⟩; exact absurd h (by decide))]
  · by_cases h3 : o.kind = 3
    · rw [if_pos h3]; exact Fr.pure _
    · rw [if_neg h3]; exact Fr.fail _
/-- What is taken may end in a comma. -/
structure Pf {α : Type} (f : Pr α) : Prop where
  pre : ∀ {l r a g}, f l = some (a, r, g) → ∀ X, f (l ++ coT :: X) = some (a, r ++ coT :: X, g)
  suf : ∀ {l r a g}, f l = some (a, r, g) → ∃ u, l = u ++ r
theorem Pf.one {α : Type} {q : Ti → Option (α × Bool)} : Pf (oneP q) := by
  have key : ∀ {l r a g}, oneP q l = some (a, r, g) → ∃ t, l = t :: r ∧ q t = some (a, g) := by
    intro l r a g h
    unfold oneP at h
    split at h
    · cases h
    · rename_i t r'
      split at h
      · cases h
      · rename_i e
        simp only [Option.some.injEq, Prod.mk.injEq] at h
        obtain ⟨rfl, rfl, rfl⟩ := h
        exact ⟨t, rfl, e⟩
  refine ⟨fun e X => ?_, fun e => ?_⟩
  · obtain ⟨t, rfl, ht⟩ := key e
    rw [List.cons_append]; unfold oneP; simp only [ht]
  · obtain ⟨t, rfl, ht⟩ := key e
    exact ⟨[t], rfl⟩
theorem Pf.then {α β : Type} {f : Pr α} {k : α → Pr β} (hf : Pf f) (hk : ∀ a, Fr (k a) false) : Fr (bindP f k) false := by
  have key : ∀ {l r b g}, bindP f k l = some (b, r, g) → ∃ a r1 g1 g2, f l = some (a, r1, g1) ∧ k a r1 = some (b, r, g2) ∧ g = (g1 || g2) := by
    intro l r b g h
    unfold bindP at h
    split at h
    · cases h
    · rename_i a r1 g1 h1
      split at h
      · cases h
      · rename_i b' r' g' h2
        simp only [Option.some.injEq, Prod.mk.injEq] at h
        obtain ⟨rfl, rfl, rfl⟩ := h
        exact ⟨a, r1, g1, g', h1, h2, rfl⟩
  refine ⟨fun h X => ?_, fun h => ?_⟩
  · obtain ⟨a, r1, g1, g2, h1, h2, rfl⟩ := key h
    unfold bindP
    rw [hf.pre h1 X]
    simp only
    rw [(hk a).pre h2 X]
  · obtain ⟨a, r1, g1, g2, h1, h2, rfl⟩ := key h
    obtain ⟨u, rfl⟩ := hf.suf h1
    rcases (hk a).suf h2 with ⟨hn, -⟩ | ⟨u', t', rfl, ht'⟩
    · cases hn
    · exact .inr ⟨u ++ u', t', by simp, ht'⟩
theorem fr_mem : Fr memP false := by
  refine Fr.bind (n := true) fr_reg fun rg => Fr.weak (Fr.ite (by rfl) (fun t ht => sg_comma (by decide) ht) (Fr.bind (n := true) (fr_want (by decide)) fun _ => Fr.pure _) (Pf.then Pf.one fun _ => ?_))
  refine Fr.bind (n := true) (Fr.ite (by rfl) (fun t ht => sg_comma (by decide) ht) (Fr.bind (n := true) (fr_want (by decide)) fun _ => (Fr.bind (n := true) fr_low fun o => Fr.pure _).weak) ?_) fun o => (Fr.bind (n := true) (fr_want (by decide)) fun _ => Fr.pure o).weak
  exact Fr.bind (n := false) (fr_take (by decide)) fun _ => Fr.bind (n := true) fr_plain fun v => Fr.pure _
theorem fr_oper : Fr operP false := by
  refine Fr.iteOne (n := true) (by rfl) (fun t ht => by unfold isSh; rw [comma_kind ht]; rfl) (fun k => (Fr.bind (n := false) (fr_take (by decide)) fun _ => Fr.bind (n := true) fr_plain fun v => Fr.pure _).weak) ?_
  refine Fr.ite (by rfl) (fun t ht => by unfold isRg; rw [comma_kind ht]; rfl) (Fr.bind (n := true) fr_reg fun r => Fr.pure _) ?_
  refine Fr.ite (by rfl) (fun t ht => sg_comma (by decide) ht) (Fr.bind (n := true) (fr_want (by decide)) fun _ => fr_mem.weak) ?_
  refine Fr.ite (by rfl) (fun t ht => sg_comma (by decide) ht) (Fr.bind (n := true) (fr_want (by decide)) fun _ => (Fr.bind (n := true) fr_expr fun o => Fr.pure _).weak) ?_
  refine Fr.ite (by rfl) (fun t ht => sg_comma (by decide) ht) (Fr.bind (n := true) (fr_want (by decide)) fun _ => Fr.weak (Fr.ite (by rfl) (fun t ht => sg_comma (by decide) ht) (Fr.bind (n := true) (fr_want (by decide)) fun _ => fr_low.weak) (Fr.bind (n := true) fr_number fun n => Fr.pure _))) ?_
  exact Fr.ite (by rfl) (fun t ht => sg_comma (by decide) ht) (Fr.bind (n := true) (fr_want (by decide)) fun _ => fr_low.weak) fr_expr
theorem oper_nil : operP [] = none := by rfl
theorem oper_short {l r : List Ti} {o : Po} {g : Bool} (h : operP l = some (o, r, g)) : r.length < l.length := by
  rcases fr_oper.suf h with ⟨hm, -⟩ | ⟨u, t, rfl, -⟩
  · cases hm
  · simp; omega
theorem items_one {n : Nat} {l : List Ti} {o : Po} {g : Bool} (h : operP l = some (o, [], g)) : itemsN (n + 1) l = some ([o], [], g) := by
  show stepI (itemsN n) (operP l) = _
  rw [h]; rfl
theorem items_more {n : Nat} {l r : List Ti} {t : Ti} {o : Po} {g : Bool} (h : operP l = some (o, t :: r, g)) : itemsN (n + 1) l = if isSg coB t = true then (match itemsN n r with | none => none | some (os, r', g') => some (o :: os, r', g || g')) else none := by
  show stepI (itemsN n) (operP l) = _
  rw [h]; rfl
theorem items_none {n : Nat} {l : List Ti} (h : operP l = none) : itemsN n l = none := by
  cases n with
  | zero => rfl
  | succ n =>
    show stepI (itemsN n) (operP l) = _
    rw [h]; rfl
theorem items_fuel {n m : Nat} {l : List Ti} (hn : l.length < n) (hm : l.length < m) : itemsN n l = itemsN m l := by
  induction n generalizing m l with
  | zero => omega
  | succ n ih =>
    cases m with
    | zero => omega
    | succ m =>
      cases h : operP l with
      | none => rw [items_none h, items_none h]
      | some x =>
        obtain ⟨o, r, g⟩ := x
        cases r with
        | nil => rw [items_one h, items_one h]
        | cons t r =>
          rw [items_more h, items_more h]
          have := oper_short h
          simp only [List.length_cons] at this
          rw [ih (m := m) (l := r) (by omega) (by omega)]
theorem items_join {n m : Nat} {l k : List Ti} {a b : List Po} {r s : List Ti} {g1 g2 : Bool} (h1 : itemsN n l = some (a, r, g1)) (h2 : itemsN m k = some (b, s, g2)) (hm : k.length < m) (hn : l.length < n) :
    itemsN (n + m) (l ++ coT :: k) = some (a ++ b, s, g1 || g2) := by
  induction n generalizing l a r g1 with
  | zero => cases h1
  | succ n ih =>
    rw [Nat.add_right_comm]
    cases h : operP l with
    | none => rw [items_none h] at h1; cases h1
    | some x =>
      obtain ⟨o, r', g⟩ := x
      have hp := fr_oper.pre h k
      cases r' with
      | nil =>
        rw [items_one h] at h1
        cases h1
        rw [items_more hp, if_pos (by decide), items_fuel (n := n + m) (m := m) (by omega) hm, h2]
        rfl
      | cons t q =>
        rw [items_more h] at h1
        rw [List.cons_append] at hp
        rw [items_more hp]
        split at h1
        · rename_i c
          rw [if_pos c]
          have hs := oper_short h
          simp only [List.length_cons] at hs
          cases h3 : itemsN n q with
          | none => rw [h3] at h1; cases h1
          | some y =>
            obtain ⟨os, r3, g3⟩ := y
            rw [h3] at h1
            cases h1
            rw [ih h3 (by omega)]
            simp [Bool.or_assoc]
        · cases h1
theorem oper_comma (k : List Ti) : operP (coT :: k) = none := by rfl
theorem items_trail (n : Nat) (l : List Ti) : itemsN n (l ++ [coT]) = none := by
  induction n generalizing l with
  | zero => rfl
  | succ n ih =>
    cases h : operP (l ++ [coT]) with
    | none => exact items_none h
    | some x =>
      obtain ⟨o, r, g⟩ := x
      rcases fr_oper.suf h with ⟨hm, -⟩ | ⟨u, t, hu, ht⟩
      · cases hm
      cases r with
      | nil =>
        exfalso
        have := congrArg List.getLast? hu
        simp at this
        rw [← this] at ht
        exact absurd ht (by decide)
      | cons t' r' =>
        rw [items_more h]
        split
        · have hr : itemsN n r' = none := by
            cases hr' : r'.reverse with
            | nil =>
              have : r' = [] := List.reverse_eq_nil_iff.1 hr'
              rw [this]; exact items_none oper_nil
            | cons z zs =>
              have e : r' = zs.reverse ++ [z] := by
                have := congrArg List.reverse hr'
                simpa using this
              have hz : z = coT := by
                have hu2 : l ++ [coT] = (u ++ t :: t' :: zs.reverse) ++ [z] := by rw [hu, e]; simp
                exact (List.cons.inj (List.append_inj' hu2 rfl).2).1.symm
              rw [e, hz]; exact ih _
          rw [hr]
        · rfl
/-- What Parse tells of rows side by side. -/
theorem parse_join {l m : List Ti} {a b : List Po} (h1 : parseL l = (a, 0)) (h2 : parseL m = (b, 0)) (hl : l ≠ []) (hm : m ≠ []) : parseL (l ++ coT :: m) = (a ++ b, 0) := by
  have key : ∀ {l : List Ti} {a : List Po}, parseL l = (a, 0) → l ≠ [] → ∃ r, itemsN (l.length + 1) l = some (a, r, false) := by
    intro l a h hl
    unfold parseL at h
    rw [if_neg hl] at h
    unfold itemsL at h
    cases hi : itemsN (l.length + 1) l with
    | none => rw [hi] at h; cases h
    | some x =>
      obtain ⟨os, r, g⟩ := x
      rw [hi] at h
      cases g
      · cases h; exact ⟨r, rfl⟩
      · cases h
  obtain ⟨r, hr⟩ := key h1 hl
  obtain ⟨s, hs⟩ := key h2 hm
  have := items_join hr hs (by omega) (by omega)
  unfold parseL itemsL
  rw [if_neg (by simp), items_fuel (m := l.length + 1 + (m.length + 1)) (by omega) (by simp), this]
  rfl
theorem parse_edge {l m : List Ti} (h : l = [] ∨ m = []) : parseL (l ++ coT :: m) = ([], 3) := by
  unfold parseL itemsL
  rw [if_neg (by simp)]
  rcases h with rfl | rfl
  · rw [List.nil_append, items_none (oper_comma m)]
  · rw [items_trail]
end Go.Proofs.YthejefldnpeciaaGreatDoor
