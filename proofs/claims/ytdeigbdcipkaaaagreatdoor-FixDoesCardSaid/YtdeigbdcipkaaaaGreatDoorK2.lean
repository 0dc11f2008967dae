/- Plain facts on the count of ones, byte by byte; no Go in sight. -/
import Derived.Test.YtdeigbdcipkaaaaGreatDoorK1
namespace Go.Proofs.YtdeigbdcipkaaaaGreatDoor
set_option linter.unusedVariables false
set_option linter.unusedSimpArgs false
open Go.RowKit

/-- The number that bytes make, the lowest first. -/
def ofB : List Nat → Nat
  | [] => 0
  | b :: l => b + 256 * ofB l
theorem and_byte (b c y z : Nat) (hb : b < 256) (hc : c < 256) : (b + 256 * y) &&& (c + 256 * z) = (b &&& c) + 256 * (y &&& z) := by
  have h1 : ((b + 256 * y) &&& (c + 256 * z)) % 2 ^ 8 = (b &&& c) := by
    rw [Nat.and_mod_two_pow, show (b + 256 * y) % 2 ^ 8 = b from by omega, show (c + 256 * z) % 2 ^ 8 = c from by omega]
  have h2 : ((b + 256 * y) &&& (c + 256 * z)) / 2 ^ 8 = (y &&& z) := by
    rw [Nat.and_div_two_pow, show (b + 256 * y) / 2 ^ 8 = y from by omega, show (c + 256 * z) / 2 ^ 8 = z from by omega]
  omega
theorem b55 : ∀ b, b < 256 → ∀ k, k < 2 → (b / 2 + 128 * k) &&& 85 = b / 2 &&& 85 := by decide +kernel
theorem b33 : ∀ b, b < 256 → ∀ k, k < 4 → (b / 4 + 64 * k) &&& 51 = b / 4 &&& 51 := by decide +kernel
def f1 (b : Nat) : Nat := (b / 2 &&& 85) + (b &&& 85)
def f2 (b : Nat) : Nat := (b / 4 &&& 51) + (b &&& 51)
def f3 (b : Nat) : Nat := b / 16 + b % 16
theorem f_lt : ∀ b, b < 256 → f1 b < 256 ∧ f2 (f1 b) < 256 ∧ f2 (f1 b) / 16 ≤ 4 ∧ f2 (f1 b) % 16 ≤ 4 ∧ f3 (f2 (f1 b)) = pcN b 8 := by decide +kernel
theorem pcN_byte (b y n : Nat) (hb : b < 256) : pcN (b + 256 * y) (8 + n) = pcN b 8 + pcN y n := by
  induction n with
  | zero =>
    simp only [Nat.add_zero, pcN]
    have : ∀ j, j < 8 → (b + 256 * y).testBit j = b.testBit j := by
      intro j hj
      have h := Nat.testBit_mod_two_pow (b + 256 * y) 8 j
      rw [show (b + 256 * y) % 2 ^ 8 = b from by omega] at h
      rw [h]; simp [hj]
    simp only [this 0 (by omega), this 1 (by omega), this 2 (by omega), this 3 (by omega), this 4 (by omega), this 5 (by omega), this 6 (by omega), this 7 (by omega)]
  | succ n ih =>
    have h : ((b + 256 * y) / 2 ^ 8).testBit n = (b + 256 * y).testBit (n + 8) := Nat.testBit_div_two_pow _ _
    rw [show (b + 256 * y) / 2 ^ 8 = y from by omega, Nat.add_comm n 8] at h
    rw [show 8 + (n + 1) = 8 + n + 1 from rfl, show pcN (b + 256 * y) (8 + n + 1) = pcN (b + 256 * y) (8 + n) + if (b + 256 * y).testBit (8 + n) then 1 else 0 from rfl, ih,
      show pcN y (n + 1) = pcN y n + if y.testBit n then 1 else 0 from rfl, h, Nat.add_assoc]

def okB8 (l : List Nat) : Prop := ∀ b ∈ l, b < 256
theorem swar1 (l : List Nat) (h : okB8 l) : (ofB l / 2 &&& ofB (l.map fun _ => 85)) + (ofB l &&& ofB (l.map fun _ => 85)) = ofB (l.map f1) := by
  induction l with
  | nil => rfl
  | cons b l ih =>
    have hb := h b (by simp)
    have ih := ih (fun x hx => h x (by simp [hx]))
    simp only [List.map, ofB]
    rw [show (b + 256 * ofB l) / 2 = (b / 2 + 128 * (ofB l % 2)) + 256 * (ofB l / 2) from by omega,
      and_byte _ _ _ _ (by omega) (by omega), and_byte _ _ _ _ hb (by omega), b55 b hb _ (by omega), ← ih]
    unfold f1; omega
theorem swar2 (l : List Nat) (h : okB8 l) : (ofB l / 4 &&& ofB (l.map fun _ => 51)) + (ofB l &&& ofB (l.map fun _ => 51)) = ofB (l.map f2) := by
  induction l with
  | nil => rfl
  | cons b l ih =>
    have hb := h b (by simp)
    have ih := ih (fun x hx => h x (by simp [hx]))
    simp only [List.map, ofB]
    rw [show (b + 256 * ofB l) / 4 = (b / 4 + 64 * (ofB l % 4)) + 256 * (ofB l / 4) from by omega,
      and_byte _ _ _ _ (by omega) (by omega), and_byte _ _ _ _ hb (by omega), b33 b hb _ (by omega), ← ih]
    unfold f2; omega
theorem swar3 (l : List Nat) (h : ∀ b ∈ l, b / 16 ≤ 4 ∧ b % 16 ≤ 4) : (ofB l / 16 + ofB l) &&& ofB (l.map fun _ => 15) = ofB (l.map f3) := by
  induction l with
  | nil => rfl
  | cons b l ih =>
    have hb := h b (by simp)
    have ih := ih (fun x hx => h x (by simp [hx]))
    have hy : ofB l % 16 ≤ 4 := by
      cases l with
      | nil => simp [ofB]
      | cons c l => have := h c (by simp); simp only [ofB]; omega
    simp only [List.map, ofB]
    rw [show (b + 256 * ofB l) / 16 + (b + 256 * ofB l) = (b / 16 + b + 16 * (ofB l % 16)) + 256 * (ofB l / 16 + ofB l) from by omega,
      and_byte _ _ _ _ (by omega) (by omega), ih, show (15 : Nat) = 2 ^ 4 - 1 from rfl, Nat.and_two_pow_sub_one_eq_mod]
    unfold f3; omega
theorem ofB_pc (l : List Nat) (h : okB8 l) : pcN (ofB l) (8 * l.length) = (l.map fun b => pcN b 8).sum := by
  induction l with
  | nil => rfl
  | cons b l ih =>
    rw [ofB, List.length_cons, show 8 * (l.length + 1) = 8 + 8 * l.length from by omega, pcN_byte _ _ _ (h b (by simp)), ih (fun x hx => h x (by simp [hx]))]
    simp
def sw1 (x : Nat) : Nat := (x / 2 &&& 6148914691236517205) + (x &&& 6148914691236517205)
def sw2 (x : Nat) : Nat := (x / 4 &&& 3689348814741910323) + (x &&& 3689348814741910323)
def sw3 (x : Nat) : Nat := (x / 16 + x) &&& 1085102592571150095
theorem swar (x : Nat) (hx : x < 18446744073709551616) :
    ∃ t0 t1 t2 t3 t4 t5 t6 t7, t0 ≤ 8 ∧ t1 ≤ 8 ∧ t2 ≤ 8 ∧ t3 ≤ 8 ∧ t4 ≤ 8 ∧ t5 ≤ 8 ∧ t6 ≤ 8 ∧ t7 ≤ 8 ∧
      sw3 (sw2 (sw1 x)) = t0 + 256 * (t1 + 256 * (t2 + 256 * (t3 + 256 * (t4 + 256 * (t5 + 256 * (t6 + 256 * t7)))))) ∧
      pcN x 64 = t0 + t1 + t2 + t3 + t4 + t5 + t6 + t7 ∧ sw1 x < 18446744073709551616 ∧ sw2 (sw1 x) < 1152921504606846976 * 5 := by
  obtain ⟨b0, b1, b2, b3, b4, b5, b6, b7, k0, k1, k2, k3, k4, k5, k6, k7, he⟩ : ∃ b0 b1 b2 b3 b4 b5 b6 b7, b0 < 256 ∧ b1 < 256 ∧ b2 < 256 ∧ b3 < 256 ∧ b4 < 256 ∧ b5 < 256 ∧ b6 < 256 ∧ b7 < 256 ∧
      x = b0 + 256 * (b1 + 256 * (b2 + 256 * (b3 + 256 * (b4 + 256 * (b5 + 256 * (b6 + 256 * b7)))))) := by
    refine ⟨x % 256, x / 256 % 256, x / 65536 % 256, x / 16777216 % 256, x / 4294967296 % 256, x / 1099511627776 % 256, x / 281474976710656 % 256, x / 72057594037927936, ?_, ?_, ?_, ?_, ?_, ?_, ?_, ?_, ?_⟩
    all_goals omega
  have hl : okB8 [b0, b1, b2, b3, b4, b5, b6, b7] := by
    intro b hb
    simp only [List.mem_cons, List.not_mem_nil, or_false] at hb
    rcases hb with rfl | rfl | rfl | rfl | rfl | rfl | rfl | rfl <;> assumption
  have hpc := ofB_pc _ hl
  have s1 := swar1 _ hl
  have g := fun b hb => f_lt b (hl b hb)
  have hl1 : okB8 ([b0, b1, b2, b3, b4, b5, b6, b7].map f1) := by
    intro b hb
    obtain ⟨c, hc, rfl⟩ := List.mem_map.1 hb
    exact (g c hc).1
  have s2 := swar2 _ hl1
  have s3 := swar3 (([b0, b1, b2, b3, b4, b5, b6, b7].map f1).map f2) (by
    intro b hb
    obtain ⟨c, hc, rfl⟩ := List.mem_map.1 hb
    obtain ⟨d, hd, rfl⟩ := List.mem_map.1 hc
    exact ⟨(g d hd).2.2.1, (g d hd).2.2.2.1⟩)
  simp only [List.map, ofB, Nat.mul_zero, Nat.add_zero, Nat.reduceMul, Nat.reduceAdd] at s1 s2 s3
  have e0 := g b0 (by simp)
  have e1 := g b1 (by simp)
  have e2 := g b2 (by simp)
  have e3 := g b3 (by simp)
  have e4 := g b4 (by simp)
  have e5 := g b5 (by simp)
  have e6 := g b6 (by simp)
  have e7 := g b7 (by simp)
  simp only [List.map, List.sum_cons, List.sum_nil, Nat.add_zero] at hpc
  have p0 := pcN_le b0 8
  have p1 := pcN_le b1 8
  have p2 := pcN_le b2 8
  have p3 := pcN_le b3 8
  have p4 := pcN_le b4 8
  have p5 := pcN_le b5 8
  have p6 := pcN_le b6 8
  have p7 := pcN_le b7 8
  rw [← he] at s1
  have q1 : sw1 x = f1 b0 + 256 * (f1 b1 + 256 * (f1 b2 + 256 * (f1 b3 + 256 * (f1 b4 + 256 * (f1 b5 + 256 * (f1 b6 + 256 * f1 b7)))))) := s1
  have q2 : sw2 (sw1 x) = f2 (f1 b0) + 256 * (f2 (f1 b1) + 256 * (f2 (f1 b2) + 256 * (f2 (f1 b3) + 256 * (f2 (f1 b4) + 256 * (f2 (f1 b5) + 256 * (f2 (f1 b6) + 256 * f2 (f1 b7))))))) := by rw [q1]; exact s2
  have q3 : sw3 (sw2 (sw1 x)) = f3 (f2 (f1 b0)) + 256 * (f3 (f2 (f1 b1)) + 256 * (f3 (f2 (f1 b2)) + 256 * (f3 (f2 (f1 b3)) + 256 * (f3 (f2 (f1 b4)) + 256 * (f3 (f2 (f1 b5)) + 256 * (f3 (f2 (f1 b6)) + 256 * f3 (f2 (f1 b7)))))))) := by rw [q2]; exact s3
  refine ⟨pcN b0 8, pcN b1 8, pcN b2 8, pcN b3 8, pcN b4 8, pcN b5 8, pcN b6 8, pcN b7 8, p0, p1, p2, p3, p4, p5, p6, p7, ?_, ?_, ?_, ?_⟩
  · rw [q3, e0.2.2.2.2, e1.2.2.2.2, e2.2.2.2.2, e3.2.2.2.2, e4.2.2.2.2, e5.2.2.2.2, e6.2.2.2.2, e7.2.2.2.2]
  · have e : ofB [b0, b1, b2, b3, b4, b5, b6, b7] = x := by rw [he]; rfl
    rw [e, show 8 * [b0, b1, b2, b3, b4, b5, b6, b7].length = 64 from rfl] at hpc
    omega
  · rw [q1]; omega
  · rw [q2]; omega
theorem swar_end (t0 t1 t2 t3 t4 t5 t6 t7 z : Nat) (k0 : t0 ≤ 8) (k1 : t1 ≤ 8) (k2 : t2 ≤ 8) (k3 : t3 ≤ 8) (k4 : t4 ≤ 8) (k5 : t5 ≤ 8) (k6 : t6 ≤ 8) (k7 : t7 ≤ 8)
    (hz : z = t0 + 256 * (t1 + 256 * (t2 + 256 * (t3 + 256 * (t4 + 256 * (t5 + 256 * (t6 + 256 * t7))))))) :
    ∃ a b y : Nat, (z : Int) + (z : Int) / 256 = a ∧ a < 4611686018427387904 ∧ (a : Int) + (a : Int) / 65536 = b ∧ b < 4611686018427387904 ∧ (b : Int) + (b : Int) / 4294967296 = y ∧ y < 4611686018427387904 ∧ y % 128 = t0 + t1 + t2 + t3 + t4 + t5 + t6 + t7 := by
  obtain ⟨z6, h6⟩ : ∃ x, x = t6 + 256 * t7 := ⟨_, rfl⟩
  obtain ⟨z5, h5⟩ : ∃ x, x = t5 + 256 * z6 := ⟨_, rfl⟩
  obtain ⟨z4, h4⟩ : ∃ x, x = t4 + 256 * z5 := ⟨_, rfl⟩
  obtain ⟨z3, h3⟩ : ∃ x, x = t3 + 256 * z4 := ⟨_, rfl⟩
  obtain ⟨z2, h2⟩ : ∃ x, x = t2 + 256 * z3 := ⟨_, rfl⟩
  obtain ⟨z1, h1⟩ : ∃ x, x = t1 + 256 * z2 := ⟨_, rfl⟩
  rw [← h6, ← h5, ← h4, ← h3, ← h2, ← h1] at hz
  have d1 : z / 256 = z1 := by omega
  have d2 : (z + z1) / 65536 = z2 + z3 := by omega
  have d3 : (z + z1 + (z2 + z3)) / 4294967296 = z4 + z5 + z6 + t7 := by omega
  refine ⟨z + z1, z + z1 + (z2 + z3), z + z1 + (z2 + z3) + (z4 + z5 + z6 + t7), ?_, ?_, ?_, ?_, ?_, ?_, ?_⟩
  · rw [← d1]; rfl
  · clear d1 d2 d3; omega
  · rw [← d2]; rfl
  · clear d1 d2 d3; omega
  · rw [← d3]; rfl
  · clear d1 d2 d3; omega
  · clear d1 d2 d3; omega
end Go.Proofs.YtdeigbdcipkaaaaGreatDoor
