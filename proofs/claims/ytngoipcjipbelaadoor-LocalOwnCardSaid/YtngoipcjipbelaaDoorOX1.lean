/- operand's law: the four rows of given, by the kernel. -/
import Derived.Test.YtngoipcjipbelaaDoorOX
namespace Go.Proofs.YtngoipcjipbelaaDoor
set_option linter.unusedVariables false
set_option linter.unusedSimpArgs false
open Go.ChangeShapes Go.WideShapes Go.Deep Go.RowKit
def g1b : List UInt8 := [120, 49, 44, 32, 91, 115, 112, 44, 32, 35, 56, 93, 44, 32, 108, 115, 108, 32, 51]
def g2b : List UInt8 := [61, 97, 43, 52, 44, 32, 45, 49, 44, 32, 49, 102]
def g3b : List UInt8 := [91, 120, 50, 44, 32, 58, 108, 111, 49, 50, 58, 98, 93, 44, 32, 120, 122, 114]
def g4b : List UInt8 := [120, 49, 32, 120, 50]
def goodB (t : Ti) : Bool := decide (0 ≤ t.kind) && decide (t.kind ≤ 10) && decide (t.text.length ≤ 1000) && decide (0 ≤ t.v) && decide (t.v < 18446744073709551616)
theorem good_of {t : Ti} (h : goodB t = true) : GoodTi t := by
  unfold goodB at h
  simp only [Bool.and_eq_true, decide_eq_true_eq] at h
  obtain ⟨⟨⟨⟨h1, h2⟩, h3⟩, h4⟩, h5⟩ := h
  exact ⟨by unfold i64ok; omega, by unfold maxLen; omega, h4, h5⟩
def opsOf (l : List UInt8) : Option ((List Po × Int) × Bool) := match lineL (l.map (·.toNat)) with | none => none | some ts => some (parseL (ts.map toTi), (ts.map toTi).all goodB && decide (ts.length ≤ 1000))
abbrev os1 : List Po := [⟨1, 1, false, false, 0, [], 0⟩, ⟨4, 31, true, false, 8, [], 0⟩, ⟨7, 0, false, false, 3, [], 0⟩]
abbrev os2 : List Po := [⟨5, 0, false, false, 0, [97], 4⟩, ⟨2, 0, false, true, 1, [], 0⟩, ⟨3, 0, false, false, 0, [49, 102], 0⟩]
abbrev os3 : List Po := [⟨4, 2, false, false, 0, [98], 0⟩, ⟨1, 31, false, false, 0, [], 0⟩]
theorem g1v : opsOf g1b = some ((os1, 0), true) := by kernel_rfl
theorem g2v : opsOf g2b = some ((os2, 0), true) := by kernel_rfl
theorem g3v : opsOf g3b = some ((os3, 0), true) := by kernel_rfl
theorem g4v : opsOf g4b = some (([], 3), true) := by kernel_rfl
def RetOs (os : List Po) (er : Int) (w : World) (e : Ending) (w' : World) : Prop :=
  ∃ a c, e = .returned (.tuple #[.slice a os.length c, .int .i64 er]) ∧ SL poC 7 w' w'.heap.size a os.length os ∧ ((a = none → os.length = 0 ∧ c = 0) ∧ os.length ≤ c) ∧ Below w.heap.size w w'
theorem of_is {l : List UInt8} {os : List Po} {er : Int} (h : opsOf l = some ((os, er), true)) (hl : l.length ≤ 200) (hlow : (l.all fun b => decide (b.toNat < 128)) = true) (w : World) (hT : TabO w) :
    Calls Tryd.prog 49 #[.string ⟨l.toArray⟩] w (RetOs os er w) := by
  unfold opsOf at h
  cases hL : lineL (l.map (·.toNat)) with
  | none => rw [hL] at h; cases h
  | some ts =>
    rw [hL] at h
    simp only [Option.some.injEq, Prod.mk.injEq, Bool.and_eq_true, decide_eq_true_eq, List.all_eq_true] at h
    obtain ⟨h1, h2, h3⟩ := h
    have hu : U (⟨l.toArray⟩ : ByteArray).data.toList (l.map (·.toNat)) := U_low (by simp) hlow
    have := of_yes (s := ⟨l.toArray⟩) (ts := ts) (fun w hT => Line_is ⟨l.toArray⟩ (by show l.toArray.size ≤ 200; simpa using hl) hu hL w hT) (fun t ht => good_of (h2 t ht)) (by omega) w hT
    refine this.mono ?_
    intro e w' hO
    unfold ParseP at hO
    rw [h1] at hO
    exact hO
end Go.Proofs.YtngoipcjipbelaaDoor
