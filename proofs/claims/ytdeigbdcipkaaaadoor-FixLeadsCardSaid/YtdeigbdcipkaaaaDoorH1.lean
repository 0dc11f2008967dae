/- Relocations, plain: an instruction that fits a kind, with the kind's value, is right; no function of the program in sight. -/
import Derived.Test.YtdeigbdcipkaaaaDoorC6
namespace Go.Proofs.YtdeigbdcipkaaaaDoor
set_option linter.unusedVariables false
set_option linter.unusedSimpArgs false
open Go.RowKit

/-- The operations that fit each kind. -/
def fitT : List (List Int) := [[0, 0, 0], [0, 0, 0], [29, 30, 0], [31, 32, 33], [26, 0, 0], [27, 0, 0], [28, 0, 0], [4, 0, 0], [22, 23, 0], [24, 25, 0]]
def fitK (kind : Int) : List Int := if kind < 0 ∨ 9 < kind then [] else fitT.getD kind.toNat []
/-- Does an instruction fit a kind? -/
def fitsI (kind : Int) (i : In) : Bool := isI i && i.imm == 0 && i.amount == 0 && (fitK kind).any (· == i.op)
/-- What the values of a kind have to be. -/
def stepK (kind : Int) : Int := if kind = 2 ∨ kind = 3 ∨ kind = 4 then 4 else if kind = 8 then 8 else 1
def leastK (kind : Int) : Int := if kind = 2 then -134217728 else if kind = 3 ∨ kind = 4 ∨ kind = 5 ∨ kind = 6 then -1048576 else 0
def mostK (kind : Int) : Int := if kind = 2 then 134217724 else if kind = 3 ∨ kind = 4 then 1048572 else if kind = 5 ∨ kind = 6 then 1048575 else 4095
def okV (kind v : Int) : Prop := 2 ≤ kind ∧ kind ≤ 9 ∧ v.tmod (stepK kind) = 0 ∧ leastK kind ≤ v ∧ v ≤ mostK kind
theorem fit_cases {kind : Int} {o : Int} (h : (fitK kind).any (· == o) = true) (ho : 1 ≤ o) :
    (kind = 2 ∧ shapeI o = 11) ∨ (kind = 3 ∧ shapeI o = 12) ∨ (kind = 3 ∧ shapeI o = 9) ∨ (kind = 4 ∧ shapeI o = 9) ∨ (kind = 5 ∧ shapeI o = 10) ∨ (kind = 6 ∧ shapeI o = 10) ∨ (kind = 7 ∧ shapeI o = 2) ∨ (kind = 8 ∧ shapeI o = 7) ∨ (kind = 9 ∧ shapeI o = 8) := by
  unfold fitK at h
  split at h
  · simp at h
  · rename_i hk
    have hc : kind = 0 ∨ kind = 1 ∨ kind = 2 ∨ kind = 3 ∨ kind = 4 ∨ kind = 5 ∨ kind = 6 ∨ kind = 7 ∨ kind = 8 ∨ kind = 9 := by omega
    rcases hc with rfl | rfl | rfl | rfl | rfl | rfl | rfl | rfl | rfl | rfl
    all_goals
      simp [fitT] at h
      first
      | omega
      | (rcases h with rfl | rfl | rfl | rfl <;> first | (exfalso; omega) | decide)
      | (rcases h with rfl | rfl | rfl <;> first | (exfalso; omega) | decide)
      | (rcases h with rfl | rfl <;> first | (exfalso; omega) | decide)
/-- With its kind's value it is right. -/
theorem fits_imm {kind v : Int} {i : In} (h : fitsI kind i = true) (hv : okV kind v) : isI { i with imm := v } = true := by
  unfold fitsI at h
  simp only [Bool.and_eq_true, beq_iff_eq] at h
  obtain ⟨⟨⟨hI, h0⟩, ha⟩, hf⟩ := h
  have ho := code_op hI
  obtain ⟨k1, k2, k3, k4, k5⟩ := hv
  obtain ⟨o, d, n, m, a, x, k, hh, t, c⟩ := i
  simp only [] at h0 ha hf ho ⊢
  subst h0
  subst ha
  rcases fit_cases hf ho.1 with ⟨rfl, hs⟩ | ⟨rfl, hs⟩ | ⟨rfl, hs⟩ | ⟨rfl, hs⟩ | ⟨rfl, hs⟩ | ⟨rfl, hs⟩ | ⟨rfl, hs⟩ | ⟨rfl, hs⟩ | ⟨rfl, hs⟩
  all_goals
    obtain ⟨h1, h2, h3⟩ := isI_of hI hs
    simp [stepK, leastK, mostK] at k3 k4 k5
    unfold isI
    rw [hs]
    simp only [ownI, In.mk.injEq] at h1
    simp [pick, hasDb, hasNb, hasMb] at h1
    simp only [regsI, decide_eq_true_eq] at h2
    simp [numI, withinI] at h3
    simp only [sameI, ownI, pick, hasDb, hasNb, hasMb, regsI, numI, withinI]
    simp
    grind
end Go.Proofs.YtdeigbdcipkaaaaDoor
