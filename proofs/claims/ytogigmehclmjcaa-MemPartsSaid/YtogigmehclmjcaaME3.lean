/- mem: find. -/
import Derived.Test.YtogigmehclmjcaaME2
namespace Go.Proofs.Ytogigmehclmjcaa
set_option linter.unusedVariables false
set_option linter.unusedSimpArgs false
open Go.ChangeShapes Go.WideShapes Go.Deep Go.RowKit

theorem owns_form {w : World} {base : Nat} {e : TypeId} {sz : Nat} {v : Value} {n : Nat} {xs : List Value} (h : w.ownsRow base e sz v n xs) : ∃ a c, v = .slice a n c := by
  rcases h.2 with ⟨rfl, rfl⟩ | ⟨g, cap, cur, rfl, -⟩
  · exact ⟨_, _, rfl⟩
  · exact ⟨_, _, rfl⟩
def hit (x n : Nat) (a : Ar) : Bool := decide (a.pos ≤ x) && decide (x + n ≤ a.pos + a.bs.length)
/-- The region that has n places from x on. -/
def findA (l : List Ar) (x n : Nat) : Option Ar := l.find? (hit x n)
def Apart (l : List Ar) : Prop := ∀ (i j : Nat) (hi : i < l.length) (hj : j < l.length), i < j → l[i].pos + l[i].bs.length ≤ l[j].pos
theorem Apart.rises {l : List Ar} (h : Apart l) : Rises l := by
  intro i j hi hj hij
  rcases Nat.lt_or_ge i j with h1 | h1
  · have := h i j hi hj h1; omega
  · obtain rfl : i = j := by omega
    exact Nat.le_refl _
theorem find_zero {l : List Ar} {x n : Nat} (h : Cnt l x 0) : findA l x n = none := by
  rw [findA, List.find?_eq_none]
  intro a ha
  obtain ⟨k, hk, rfl⟩ := List.getElem_of_mem ha
  have := h.2.2 k hk (Nat.zero_le _)
  unfold hit
  rw [decide_eq_false (by omega)]; simp
theorem find_succ {l : List Ar} {x n c : Nat} (h : Cnt l x (c + 1)) (ha : Apart l) (hn : 1 ≤ n) (hc : c < l.length) : findA l x n = if x + n ≤ l[c].pos + l[c].bs.length then some l[c] else none := by
  have h0 : l[c].pos ≤ x := h.2.1 c hc (by omega)
  have hno : ∀ k (hk : k < l.length), k ≠ c → hit x n l[k] = false := by
    intro k hk hne
    unfold hit
    rcases Nat.lt_or_gt_of_ne hne with h1 | h1
    · have := ha k c hk hc h1
      rw [decide_eq_false (p := x + n ≤ _) (by omega)]; simp
    · have := h.2.2 k hk (by omega)
      rw [decide_eq_false (p := l[k].pos ≤ x) (by omega)]; simp
  by_cases hx : x + n ≤ l[c].pos + l[c].bs.length
  · rw [if_pos hx, findA, List.find?_eq_some_iff_getElem]
    refine ⟨by unfold hit; simp [h0, hx], c, hc, rfl, fun j hj => ?_⟩
    rw [hno j (by omega) (by omega)]; rfl
  · rw [if_neg hx, findA, List.find?_eq_none]
    intro a ha'
    obtain ⟨k, hk, rfl⟩ := List.getElem_of_mem ha'
    by_cases hkc : k = c
    · subst hkc
      unfold hit
      rw [decide_eq_false (p := x + n ≤ _) hx]; simp
    · rw [hno k hk hkc]; simp
def foundV (x n : Nat) : Option Ar → Value
  | none => .tuple #[.slice none 0 0, .int .i64 0, .bool false]
  | some a => .tuple #[.slice (some ⟨a.blk, x - a.pos, none⟩) n (a.bs.length - (x - a.pos)), .int .i64 a.kind, .bool true]
set_option maxRecDepth 100000 in
set_option maxHeartbeats 2000000 in
theorem find_any {w : World} {base p : Nat} {l : List Ar} (h : MS w base p l) (ha : Apart l) (hg : ∀ a ∈ l, GoodA a) (x n : Nat) (hx : x < 18446744073709551616) (hn : 1 ≤ n) (hn2 : n ≤ 65536) (hl : l.length ≤ 1000) :
    Calls Try.prog 17 #[.pointer (some ⟨p, 0, none⟩), .int .u64 x, .int .i64 n] w (RetB (foundV x n (findA l x n)) w) := by
  have HM := Lib.hid h
  obtain ⟨v, h1, h2, h3, h4, h5⟩ := h
  obtain ⟨a, c, rfl⟩ := owns_form h3
  obtain ⟨a', c', hv, hsl, -⟩ := SL.ofOwns arC_len (by decide) h3
  injection hv with e1 e2 e3
  subst e1; subst e3
  have HS := Lib.hid (search_any a l.length c l x w hsl hl ha.rises)
  have p0 : w.cell? ⟨p, 0, none⟩ = some (.slice a l.length c) := by rw [World.cell?, h1]; rfl
  have HA := Lib.hid ha
  have HG := Lib.hid hg
  obtain ⟨N, hN⟩ : ∃ N, N = l.length := ⟨_, rfl⟩
  rw [← hN] at HS p0 hl
  have HN := Lib.hid hN
  clear h1 h2 h3 h4 h5 ha hg hN hsl
  go_enter Try.func17, Try.ntmps17
  go_wp2_with fail
  refine HS.out.mono ?_
  rintro e w1 ⟨k, rfl, hk, hb⟩
  have HB := Lib.hid hb
  have HK := Lib.hid hk
  clear hb hk p0 HS
  cases k with
  | zero =>
    have HF := Lib.hid (find_zero (n := n) HK.out)
    go_wp2
    go_ret3
    exact ⟨by rw [HF.out]; rfl, HB.out⟩
  | succ k =>
    have hkl : k < l.length := HK.out.1
    have hkn : k < N := by rw [HN.out]; exact hkl
    have HF := Lib.hid (find_succ (n := n) HK.out HA.out hn hkl)
    have hp := HK.out.2.1 k hkl (by omega)
    obtain ⟨g, cap, p0, hgl, c0, c1, c2⟩ := ar_cells (HM.out.below HB.out) hkl
    obtain ⟨g1, g2, g3⟩ := HG.out l[k] (List.getElem_mem _)
    rw [← HN.out] at p0
    generalize l[k] = A at *
    obtain ⟨P, K, X, S⟩ := A
    simp only [] at *
    obtain ⟨M, hM⟩ : ∃ M, M = S.length := ⟨_, rfl⟩
    rw [← hM] at c2 g2 g3 HF
    clear hkl
    obtain ⟨F, hF⟩ : ∃ F, F = x - P := ⟨_, rfl⟩
    have hxF : (x : Int) - P = (F : Int) := by omega
    by_cases hin : x + n ≤ P + M
    · rw [if_pos hin] at HF
      have q1 : F < M := by omega
      have q2 : F + n ≤ M := by omega
      have HFF := Lib.hid hF
      have HMM := Lib.hid hM
      clear hF hM hin hp
      go_wp2_with fail
      go_quiet (fail)
      go_wp2
      go_ret3
      refine ⟨?_, below_drewN HB.out _⟩
      show Ending.returned (.tuple #[.slice (some ⟨X, F, none⟩) (F + n - F) (M - F), .int .i64 K, .bool true]) = _
      rw [Nat.add_sub_cancel_left, HF.out, HMM.out, HFF.out]
      rfl
    · rw [if_neg hin] at HF
      by_cases hout : P + M ≤ x
      · have q1 : M ≤ F := by omega
        clear hF hM hin hp
        go_wp2
        go_ret3
        exact ⟨by rw [HF.out]; rfl, HB.out⟩
      · have q1 : F < M := by omega
        have q2 : (M : Int) - F < n := by omega
        clear hF hM hin hp
        go_wp2
        go_ret3
        exact ⟨by rw [HF.out]; rfl, HB.out⟩
end Go.Proofs.Ytogigmehclmjcaa
