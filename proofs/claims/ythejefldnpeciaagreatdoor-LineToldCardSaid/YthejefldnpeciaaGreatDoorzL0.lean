/- lex: runes, the reader, the builder. -/
import Derived.Test.YthejefldnpeciaaGreatDoorS
import Derived.Test.YthejefldnpeciaaGreatDoorS2
import Derived.Lib.ValidLaws
import Derived.Lib.ValidU
import Derived.Lib.TrimUEq
import Derived.Lib.RuneBytes
import Derived.Laws.Runes
import Derived.Deep.QuietTactic
import Derived.BigQuiet
import Derived.OwnWalk
import Derived.Laws.Pointers
import Derived.RegionTactic
import Derived.ChangeAlike
import Derived.Lib.Builder
import Derived.Lib.AppendStr
import Derived.Lib.UnsafeStr
import Derived.Lib.OthersKept
import Derived.Laws.Externs
namespace Go.Proofs.YthejefldnpeciaaGreatDoor
set_option linter.unusedVariables false
set_option linter.unusedSimpArgs false
open Go.Lib
/-- A rune's bytes. -/
def encL (r : Nat) : List UInt8 :=
  if r < 128 then [UInt8.ofNat r]
  else if r < 2048 then [UInt8.ofNat (192 + r / 64), UInt8.ofNat (128 + r % 64)]
  else if r < 65536 then [UInt8.ofNat (224 + r / 4096), UInt8.ofNat (128 + r / 64 % 64), UInt8.ofNat (128 + r % 64)]
  else [UInt8.ofNat (240 + r / 262144), UInt8.ofNat (128 + r / 4096 % 64), UInt8.ofNat (128 + r / 64 % 64), UInt8.ofNat (128 + r % 64)]
def VR (r : Nat) : Prop := r < 55296 ∨ (57344 ≤ r ∧ r ≤ 1114111)
theorem VR.valid {r : Nat} (h : VR r) : Utf8.valid (r : Int) = true := by
  rw [Go.validRune_eq]
  unfold Go.validRune
  rw [decide_eq_true_iff]
  rcases h with h | h <;> omega
theorem encode_eq (r : Nat) (hv : Utf8.valid (r : Int) = true) : Utf8.encode (r : Int) = (if r < 0x80 then ⟨#[UInt8.ofNat r]⟩
  else if r < 0x800 then ⟨#[UInt8.ofNat (0xC0 + r / 64), UInt8.ofNat (0x80 + r % 64)]⟩
  else if r < 0x10000 then ⟨#[UInt8.ofNat (0xE0 + r / 4096), UInt8.ofNat (0x80 + r / 64 % 64), UInt8.ofNat (0x80 + r % 64)]⟩
  else ⟨#[UInt8.ofNat (0xF0 + r / 262144), UInt8.ofNat (0x80 + r / 4096 % 64), UInt8.ofNat (0x80 + r / 64 % 64), UInt8.ofNat (0x80 + r % 64)]⟩ : ByteArray) := by
  unfold Utf8.encode
  simp only [hv, if_true, Int.toNat_natCast]
theorem encode_encL {r : Nat} (h : VR r) : (Utf8.encode (r : Int)).data.toList = encL r := by
  rw [encode_eq r h.valid]
  unfold encL
  split
  · rfl
  split
  · rfl
  split <;> rfl
theorem encL_cases {r : Nat} (h : VR r) :
    (r < 128 ∧ encL r = [UInt8.ofNat r]) ∨
    (128 ≤ r ∧ r < 2048 ∧ encL r = [UInt8.ofNat (192 + r / 64), UInt8.ofNat (128 + r % 64)]) ∨
    (2048 ≤ r ∧ r < 65536 ∧ encL r = [UInt8.ofNat (224 + r / 4096), UInt8.ofNat (128 + r / 64 % 64), UInt8.ofNat (128 + r % 64)]) ∨
    (65536 ≤ r ∧ r ≤ 1114111 ∧ encL r = [UInt8.ofNat (240 + r / 262144), UInt8.ofNat (128 + r / 4096 % 64), UInt8.ofNat (128 + r / 64 % 64), UInt8.ofNat (128 + r % 64)]) := by
  unfold encL
  by_cases h1 : r < 128
  · exact .inl ⟨h1, by rw [if_pos h1]⟩
  by_cases h2 : r < 2048
  · exact .inr (.inl ⟨by omega, h2, by rw [if_neg h1, if_pos h2]⟩)
  by_cases h3 : r < 65536
  · exact .inr (.inr (.inl ⟨by omega, h3, by rw [if_neg h1, if_neg h2, if_pos h3]⟩))
  · exact .inr (.inr (.inr ⟨by omega, by rcases h with h | h <;> omega, by rw [if_neg h1, if_neg h2, if_neg h3]⟩))
theorem encL_ascii {r : Nat} (h : r < 128) : encL r = [UInt8.ofNat r] := by
  rcases encL_cases (r := r) (.inl (by omega)) with h1 | h1 | h1 | h1
  · exact h1.2
  all_goals omega
theorem toN {n : Nat} (h : n < 256) : (UInt8.ofNat n).toNat = n := by simp; omega
theorem encL_len {r : Nat} (h : VR r) : 1 ≤ (encL r).length ∧ (encL r).length ≤ 4 := by
  rcases encL_cases h with ⟨_, e⟩ | ⟨_, _, e⟩ | ⟨_, _, e⟩ | ⟨_, _, e⟩ <;> rw [e] <;> simp
theorem decN2 {r n b0 b1 b2 b3 : Nat} (h0 : b0 = 192 + r / 64) (h1 : b1 = 128 + r % 64) (a : 128 ≤ r) (b : r < 2048) (hn : 2 ≤ n) : decodeN n b0 b1 b2 b3 = (r, 2) := by
  unfold decodeN
  rw [if_neg (by omega), if_pos ⟨by omega, by omega, by omega⟩, if_pos (by omega)]
  simp only [Prod.mk.injEq, and_true]; omega
theorem decN3 {r n b0 b1 b2 b3 : Nat} (h0 : b0 = 224 + r / 4096) (h1 : b1 = 128 + r / 64 % 64) (h2 : b2 = 128 + r % 64) (hv : VR r) (a : 2048 ≤ r) (b : r < 65536) (hn : 3 ≤ n) : decodeN n b0 b1 b2 b3 = (r, 3) := by
  have e : b0 % 16 * 4096 + b1 % 64 * 64 + b2 % 64 = r := by omega
  unfold decodeN
  rw [if_neg (by omega), if_neg (by omega), if_pos ⟨by omega, by omega, by omega⟩, e, if_pos ⟨a, hv⟩]
theorem decN4 {r n b0 b1 b2 b3 : Nat} (h0 : b0 = 240 + r / 262144) (h1 : b1 = 128 + r / 4096 % 64) (h2 : b2 = 128 + r / 64 % 64) (h3 : b3 = 128 + r % 64) (hv : VR r) (a : 65536 ≤ r) (b : r ≤ 1114111) (hn : 4 ≤ n) : decodeN n b0 b1 b2 b3 = (r, 4) := by
  have e : b0 % 8 * 262144 + b1 % 64 * 4096 + b2 % 64 * 64 + b3 % 64 = r := by omega
  unfold decodeN
  rw [if_neg (by omega), if_neg (by omega), if_neg (by omega), if_pos ⟨by omega, by omega, by omega, by omega⟩, e, if_pos ⟨a, hv⟩]
theorem dec_enc {r : Nat} (h : VR r) (t : List UInt8) : decodeL (encL r ++ t) = (r, (encL r).length) := by
  rw [decodeL_N]
  rcases encL_cases h with ⟨a, e⟩ | ⟨a, b, e⟩ | ⟨a, b, e⟩ | ⟨a, b, e⟩
  · rw [e]
    simp only [List.cons_append, List.nil_append, List.getD_cons_zero, List.length_cons]
    rw [toN (by omega), decodeN_ascii _ _ _ _ _ a]; simp
  · rw [e]
    simp only [List.cons_append, List.nil_append, List.getD_cons_zero, List.getD_cons_succ, List.length_cons, List.length_nil]
    exact decN2 (toN (by omega)) (toN (by omega)) a b (by omega)
  · rw [e]
    simp only [List.cons_append, List.nil_append, List.getD_cons_zero, List.getD_cons_succ, List.length_cons, List.length_nil]
    exact decN3 (toN (by omega)) (toN (by omega)) (toN (by omega)) h a b (by omega)
  · rw [e]
    simp only [List.cons_append, List.nil_append, List.getD_cons_zero, List.getD_cons_succ, List.length_cons, List.length_nil]
    exact decN4 (toN (by omega)) (toN (by omega)) (toN (by omega)) (toN (by omega)) h a b (by omega)
theorem enc_not_bad {r : Nat} (h : VR r) : ¬ (r = 65533 ∧ (encL r).length = 1) := by
  rintro ⟨rfl, h2⟩
  exact absurd h2 (by decide)
theorem encL_ne {r : Nat} (h : VR r) (t : List UInt8) : encL r ++ t ≠ [] := by
  intro e
  have := (encL_len h).1
  rw [(List.append_eq_nil_iff.1 e).1] at this; simp at this
theorem valid_enc {r : Nat} (h : VR r) (t : List UInt8) : validD (encL r ++ t) = validD t := by
  rw [validD_step _ (encL_ne h t), dec_enc h]
  simp only
  rw [if_neg (enc_not_bad h), List.drop_left]
/-- A step of the decoder that is not bad takes a rune's own bytes. -/
theorem decN_back {n b0 b1 b2 b3 r k : Nat} (h0 : b0 < 256) (h1 : b1 < 256) (_h2 : b2 < 256) (_h3 : b3 < 256) (h : decodeN n b0 b1 b2 b3 = (r, k)) (hn : ¬ (r = 65533 ∧ k = 1)) :
    VR r ∧ k ≤ max n 1 ∧ ((k = 1 ∧ r < 128 ∧ b0 = r) ∨ (k = 2 ∧ 128 ≤ r ∧ r < 2048 ∧ b0 = 192 + r / 64 ∧ b1 = 128 + r % 64) ∨ (k = 3 ∧ 2048 ≤ r ∧ r < 65536 ∧ b0 = 224 + r / 4096 ∧ b1 = 128 + r / 64 % 64 ∧ b2 = 128 + r % 64) ∨
      (k = 4 ∧ 65536 ≤ r ∧ b0 = 240 + r / 262144 ∧ b1 = 128 + r / 4096 % 64 ∧ b2 = 128 + r / 64 % 64 ∧ b3 = 128 + r % 64)) := by
  unfold decodeN at h
  split at h
  · simp only [Prod.mk.injEq] at h
    obtain ⟨rfl, rfl⟩ := h
    exact ⟨.inl (by omega), by omega, .inl ⟨rfl, by omega, rfl⟩⟩
  split at h
  · split at h
    · simp only [Prod.mk.injEq] at h
      obtain ⟨h, rfl⟩ := h
      exact ⟨.inl (by omega), by omega, .inr (.inl ⟨rfl, by omega, by omega, by omega, by omega⟩)⟩
    · simp only [Prod.mk.injEq] at h; exact (hn ⟨h.1.symm, h.2.symm⟩).elim
  split at h
  · split at h
    · rename_i c
      simp only [Prod.mk.injEq] at h
      obtain ⟨h, rfl⟩ := h
      rw [h] at c
      exact ⟨c.2, by omega, .inr (.inr (.inl ⟨rfl, c.1, by omega, by omega, by omega, by omega⟩))⟩
    · simp only [Prod.mk.injEq] at h; exact (hn ⟨h.1.symm, h.2.symm⟩).elim
  split at h
  · split at h
    · rename_i c
      simp only [Prod.mk.injEq] at h
      obtain ⟨h, rfl⟩ := h
      rw [h] at c
      exact ⟨c.2, by omega, .inr (.inr (.inr ⟨rfl, c.1, by omega, by omega, by omega, by omega⟩))⟩
    · simp only [Prod.mk.injEq] at h; exact (hn ⟨h.1.symm, h.2.symm⟩).elim
  · simp only [Prod.mk.injEq] at h; exact (hn ⟨h.1.symm, h.2.symm⟩).elim
theorem ofN {x : UInt8} {n : Nat} (h : x.toNat = n) : x = UInt8.ofNat n := by subst h; simp
theorem enc_dec {l : List UInt8} (hl : l ≠ []) {r k : Nat} (h : decodeL l = (r, k)) (hn : ¬ (r = 65533 ∧ k = 1)) : VR r ∧ l = encL r ++ l.drop k ∧ k = (encL r).length := by
  rw [decodeL_N] at h
  obtain ⟨hv, hk, hc⟩ := decN_back (UInt8.toNat_lt _) (UInt8.toNat_lt _) (UInt8.toNat_lt _) (UInt8.toNat_lt _) h hn
  refine ⟨hv, ?_⟩
  have hlen : 1 ≤ l.length := by cases l with | nil => exact absurd rfl hl | cons => simp
  rcases encL_cases hv with ⟨a, e⟩ | ⟨a, b, e⟩ | ⟨a, b, e⟩ | ⟨a, b, e⟩
  · rcases hc with c | c | c | c <;> try omega
    obtain ⟨rfl, _, c0⟩ := c
    match l, hlen with
    | x :: t, _ =>
      rw [e, ← ofN (x := x) (by simpa using c0)]
      simp
  · rcases hc with c | c | c | c <;> try omega
    obtain ⟨rfl, _, _, c0, c1⟩ := c
    have : 2 ≤ l.length := by omega
    match l, this with
    | x :: y :: t, _ =>
      rw [e, ← ofN (x := x) (by simpa using c0), ← ofN (x := y) (by simpa using c1)]
      simp
  · rcases hc with c | c | c | c <;> try omega
    obtain ⟨rfl, _, _, c0, c1, c2⟩ := c
    have : 3 ≤ l.length := by omega
    match l, this with
    | x :: y :: z :: t, _ =>
      rw [e, ← ofN (x := x) (by simpa using c0), ← ofN (x := y) (by simpa using c1), ← ofN (x := z) (by simpa using c2)]
      simp
  · rcases hc with c | c | c | c <;> try omega
    obtain ⟨rfl, _, c0, c1, c2, c3⟩ := c
    have : 4 ≤ l.length := by omega
    match l, this with
    | x :: y :: z :: u :: t, _ =>
      rw [e, ← ofN (x := x) (by simpa using c0), ← ofN (x := y) (by simpa using c1), ← ofN (x := z) (by simpa using c2), ← ofN (x := u) (by simpa using c3)]
      simp
/-- A text that is UTF-8, and its runes. -/
def U (l : List UInt8) (rs : List Nat) : Prop := l = rs.flatMap encL ∧ ∀ r ∈ rs, VR r
theorem U.nil : U [] [] := ⟨rfl, by simp⟩
theorem U.cons {r : Nat} {l : List UInt8} {rs : List Nat} (hr : VR r) (h : U l rs) : U (encL r ++ l) (r :: rs) := ⟨by rw [List.flatMap_cons, h.1], by intro x hx; rcases List.mem_cons.1 hx with rfl | hx; exact hr; exact h.2 x hx⟩
theorem U.append {a b : List UInt8} {x y : List Nat} (h : U a x) (k : U b y) : U (a ++ b) (x ++ y) := ⟨by rw [h.1, k.1, List.flatMap_append], by intro r hr; rcases List.mem_append.1 hr with hr | hr; exact h.2 r hr; exact k.2 r hr⟩
theorem U.valid {l : List UInt8} {rs : List Nat} (h : U l rs) : validD l = true := by
  obtain ⟨rfl, hv⟩ := h
  induction rs with
  | nil => rfl
  | cons r rs ih =>
    rw [List.flatMap_cons, valid_enc (hv r (by simp))]
    exact ih fun x hx => hv x (by simp [hx])
theorem U.of_valid {l : List UInt8} (h : validD l = true) : ∃ rs, U l rs := by
  obtain ⟨n, hn⟩ : ∃ n, l.length ≤ n := ⟨_, Nat.le_refl _⟩
  induction n generalizing l with
  | zero =>
    have : l = [] := by cases l with | nil => rfl | cons => simp at hn
    subst this; exact ⟨[], U.nil⟩
  | succ n ih =>
    by_cases hl : l = []
    · subst hl; exact ⟨[], U.nil⟩
    rw [validD_step l hl] at h
    split at h
    · cases h
    rename_i hb
    obtain ⟨hv, e, hk⟩ := enc_dec hl (r := (decodeL l).1) (k := (decodeL l).2) rfl hb
    have := (encL_len hv).1
    obtain ⟨rs, hrs⟩ := ih h (by rw [List.length_drop]; have : l.length ≠ 0 := by simpa using hl
                                 omega)
    have hc := U.cons hv hrs
    rw [← e] at hc
    exact ⟨_, hc⟩
theorem U.skip {l : List UInt8} {rs : List Nat} (h : U l rs) (t : List UInt8) : validD (l ++ t) = validD t := by
  obtain ⟨rfl, hv⟩ := h
  induction rs with
  | nil => rfl
  | cons r rs ih =>
    rw [List.flatMap_cons, List.append_assoc, valid_enc (hv r (by simp))]
    exact ih fun x hx => hv x (by simp [hx])
theorem U.inj {l : List UInt8} {x y : List Nat} (h : U l x) (k : U l y) : x = y := by
  induction x generalizing l y with
  | nil =>
    obtain ⟨rfl, -⟩ := h
    cases y with
    | nil => rfl
    | cons r rs =>
      have e := k.1
      rw [List.flatMap_cons] at e
      exact (encL_ne (k.2 r (List.mem_cons_self ..)) _ e.symm).elim
  | cons r rs ih =>
    obtain ⟨rfl, hv⟩ := h
    cases y with
    | nil =>
      have e := k.1
      rw [List.flatMap_cons] at e
      exact (encL_ne (hv r (List.mem_cons_self ..)) _ e).elim
    | cons q qs =>
      have e := k.1
      rw [List.flatMap_cons, List.flatMap_cons] at e
      have d1 := dec_enc (hv r (by simp)) (rs.flatMap encL)
      have d2 := dec_enc (k.2 q (by simp)) (qs.flatMap encL)
      rw [e, d2] at d1
      simp only [Prod.mk.injEq] at d1
      obtain ⟨rfl, -⟩ := d1
      rw [ih (l := rs.flatMap encL) ⟨rfl, fun x hx => hv x (by simp [hx])⟩ ⟨List.append_cancel_left e, fun x hx => k.2 x (by simp [hx])⟩]
theorem U.head {r : Nat} {l : List UInt8} {rs : List Nat} (h : U l (r :: rs)) : VR r ∧ decodeL l = (r, (encL r).length) ∧ U (l.drop (encL r).length) rs ∧ (encL r).length ≤ l.length := by
  obtain ⟨rfl, hv⟩ := h
  have hr := hv r (by simp)
  refine ⟨hr, ?_, ⟨?_, fun x hx => hv x (by simp [hx])⟩, ?_⟩
  · rw [List.flatMap_cons, dec_enc hr]
  · rw [List.flatMap_cons, List.drop_left]
  · rw [List.flatMap_cons, List.length_append]; omega
theorem U.ascii {l : List UInt8} (h : ∀ b ∈ l, b.toNat < 128) : U l (l.map UInt8.toNat) := by
  constructor
  · induction l with
    | nil => rfl
    | cons b t ih =>
      rw [List.map_cons, List.flatMap_cons, encL_ascii (h b (by simp)), ← ih fun x hx => h x (by simp [hx])]
      simp
  · intro r hr
    obtain ⟨b, hb, rfl⟩ := List.mem_map.1 hr
    have := h b hb
    exact .inl (by omega)
theorem U.len {l : List UInt8} {rs : List Nat} (h : U l rs) : rs.length ≤ l.length := by
  obtain ⟨rfl, hv⟩ := h
  induction rs with
  | nil => simp
  | cons r rs ih =>
    rw [List.flatMap_cons, List.length_append, List.length_cons]
    have := (encL_len (hv r (by simp))).1
    have := ih fun x hx => hv x (by simp [hx])
    omega
/-- Parted ahead of a byte below 128, a text that is UTF-8 is two such texts. -/
theorem U.part {a b : List UInt8} {x : List Nat} {c : UInt8} (hc : c.toNat < 128) (h : U (a ++ c :: b) x) : ∃ y z, U a y ∧ U b z ∧ x = y ++ c.toNat :: z := by
  induction x generalizing a with
  | nil => have := h.1; simp at this
  | cons r rs ih =>
    obtain ⟨hr, hd, ht, hle⟩ := h.head
    cases a with
    | nil =>
      have hrc : r = c.toNat ∧ (encL r).length = 1 := by
        have e : decodeL (c :: b) = (c.toNat, 1) := by rw [decodeL_N]; simp only [List.getD_cons_zero]; exact decodeN_ascii _ _ _ _ _ hc
        rw [List.nil_append, e] at hd
        simp only [Prod.mk.injEq] at hd
        exact ⟨hd.1.symm, hd.2.symm⟩
      obtain ⟨rfl, h1⟩ := hrc
      rw [h1] at ht
      exact ⟨[], rs, U.nil, by simpa using ht, rfl⟩
    | cons q t =>
      have hka : (encL r).length ≤ (q :: t).length := by
        apply Classical.byContradiction
        intro hn
        have hlt : (q :: t).length < (encL r).length := by omega
        have e := h.1
        rw [List.flatMap_cons] at e
        -- the byte c is one of the rune's later bytes
        have hg : (encL r)[(q :: t).length]? = some c := by
          have h1 : (encL r ++ rs.flatMap encL)[(q :: t).length]? = some c := by rw [← e, List.getElem?_append_right (Nat.le_refl _)]; simp
          rwa [List.getElem?_append_left hlt] at h1
        have hlen := (show (q :: t).length = t.length + 1 from rfl)
        rcases encL_cases hr with ⟨A, E⟩ | ⟨A, B, E⟩ | ⟨A, B, E⟩ | ⟨A, B, E⟩ <;> rw [E] at hg hlt <;> rw [hlen] at hg hlt <;> simp only [List.length_cons, List.length_nil] at hlt
        · omega
        · have : t.length = 0 := by omega
          rw [this] at hg; simp only [List.getElem?_cons_succ, List.getElem?_cons_zero, Option.some.injEq] at hg
          rw [← hg, toN (by omega)] at hc; omega
        · rcases (by omega : t.length = 0 ∨ t.length = 1) with h | h <;> rw [h] at hg <;> simp only [List.getElem?_cons_succ, List.getElem?_cons_zero, Option.some.injEq] at hg <;> (rw [← hg, toN (by omega)] at hc; omega)
        · rcases (by omega : t.length = 0 ∨ t.length = 1 ∨ t.length = 2) with h | h | h <;> rw [h] at hg <;> simp only [List.getElem?_cons_succ, List.getElem?_cons_zero, Option.some.injEq] at hg <;> (rw [← hg, toN (by omega)] at hc; omega)
      have e2 : (q :: t ++ c :: b).drop (encL r).length = (q :: t).drop (encL r).length ++ c :: b := List.drop_append_of_le_length hka
      rw [e2] at ht
      obtain ⟨y, z, hy, hz, rfl⟩ := ih ht
      refine ⟨r :: y, z, ?_, hz, rfl⟩
      have e3 : q :: t = encL r ++ (q :: t).drop (encL r).length := by
        have e := h.1
        have e4 : (q :: t ++ c :: b).take (encL r).length = encL r := by rw [e, List.flatMap_cons, List.take_left]
        rw [List.take_append_of_le_length hka] at e4
        rw [← e4, List.length_take, Nat.min_eq_left hka, List.take_append_drop]
      rw [e3]
      exact U.cons hr hy
structure Tk where
  kind : Nat
  text : List UInt8
  v : Nat
def letterI (r : Int) : Bool := (decide (97 ≤ r) && decide (r ≤ 122)) || (decide (65 ≤ r) && decide (r ≤ 90)) || r == 95 || r == 46 || r == 36
def digI (r : Int) : Bool := decide (48 ≤ r) && decide (r ≤ 57)
def whiI (r : Int) : Bool := r == 32 || r == 9 || r == 13
def wordR (r : Nat) : Bool := letterI r || digI r
def signR (r : Nat) : Bool := r == 44 || r == 91 || r == 93 || r == 35 || r == 58 || r == 61 || r == 43 || r == 45
def whiR (r : Nat) : Bool := whiI r
def meantL (c : Nat) : Option Nat := if c = 110 then some 10 else if c = 116 then some 9 else if c = 48 then some 0 else if c = 92 then some 92 else if c = 34 then some 34 else if c = 39 then some 39 else none
def escL : List Nat → Option (Nat × List Nat)
  | [] => none
  | c :: u => match meantL c with
    | some x => some (x, u)
    | none => none
def oneL (q : Nat) : List Nat → Option (Nat × List Nat)
  | [] => none
  | v :: t => if v = 92 then escL t else if 32 ≤ v ∧ v ≠ q then some (v, t) else none
theorem escL_spec {l t : List Nat} {v : Nat} (h : escL l = some (v, t)) : ∃ c, l = c :: t ∧ meantL c = some v := by
  unfold escL at h
  split at h
  · cases h
  · split at h
    · rename_i e
      simp only [Option.some.injEq, Prod.mk.injEq] at h; obtain ⟨rfl, rfl⟩ := h
      exact ⟨_, rfl, e⟩
    · cases h
theorem one_spec {q v : Nat} {l t : List Nat} (h : oneL q l = some (v, t)) : (∃ c, l = 92 :: c :: t ∧ meantL c = some v) ∨ (l = v :: t ∧ v ≠ 92 ∧ 32 ≤ v ∧ v ≠ q) := by
  unfold oneL at h
  split at h
  · cases h
  · split at h
    · rename_i e
      obtain ⟨c, rfl, hc⟩ := escL_spec h
      subst e
      exact .inl ⟨c, rfl, hc⟩
    · rename_i e
      split at h
      · rename_i e2
        simp only [Option.some.injEq, Prod.mk.injEq] at h; obtain ⟨rfl, rfl⟩ := h
        exact .inr ⟨rfl, e, e2.1, e2.2⟩
      · cases h
theorem one_meant {q c v : Nat} (t : List Nat) (h : meantL c = some v) : oneL q (92 :: c :: t) = some (v, t) := by
  have e : escL (c :: t) = some (v, t) := by unfold escL; simp only [h]
  unfold oneL
  simp only [if_true]
  exact e
theorem one_self {q v : Nat} (t : List Nat) (h1 : v ≠ 92) (h2 : 32 ≤ v) (h3 : v ≠ q) : oneL q (v :: t) = some (v, t) := by
  unfold oneL
  simp only
  rw [if_neg h1, if_pos ⟨h2, h3⟩]
def textN : Nat → List Nat → Option (List Nat × List Nat)
  | 0, _ => none
  | n + 1, l => if l.head? = some 34 then some ([], l.tail) else
    match oneL 34 l with
    | none => none
    | some (v, t) => match textN n t with
      | none => none
      | some (vs, u) => some (v :: vs, u)
def textL (l : List Nat) : Option (List Nat × List Nat) := textN (l.length + 1) l
def charL (l : List Nat) : Option (Nat × List Nat) :=
  match oneL 39 l with
  | none => none
  | some (v, t) => if t.head? = some 39 then some (v, t.tail) else none
def tokL (l : List Nat) : Option (Tk × List Nat) :=
  match l with
  | [] => none
  | r :: t =>
    if letterI r then some (⟨1, (l.takeWhile wordR).flatMap encL, 0⟩, l.dropWhile wordR)
    else if digI r then some (⟨2, (l.takeWhile wordR).flatMap encL, 0⟩, l.dropWhile wordR)
    else if r = 34 then (match textL t with | none => none | some (vs, u) => some (⟨3, vs.flatMap encL, 0⟩, u))
    else if r = 39 then (match charL t with | none => none | some (v, u) => some (⟨5, [], v⟩, u))
    else if signR r then some (⟨4, encL r, 0⟩, t)
    else none
def stops (l : List Nat) : Bool := l == [] || (l.head? == some 47 && l.tail.head? == some 47)
def lineN : Nat → List Nat → Option (List Tk)
  | 0, _ => none
  | n + 1, l => if stops (l.dropWhile whiR) then some [] else
    match tokL (l.dropWhile whiR) with
    | none => none
    | some (t, u) => match lineN n u with
      | none => none
      | some ts => some (t :: ts)
def lineL (l : List Nat) : Option (List Tk) := lineN (l.length + 1) l

theorem one_short {q v : Nat} {l t : List Nat} (h : oneL q l = some (v, t)) : t.length < l.length := by
  rcases one_spec h with ⟨c, rfl, -⟩ | ⟨rfl, -⟩ <;> simp <;> omega
theorem text_short {n : Nat} {l vs u : List Nat} (h : textN n l = some (vs, u)) : u.length < l.length := by
  induction n generalizing l vs u with
  | zero => cases h
  | succ n ih =>
    unfold textN at h
    split at h
    · rename_i h1
      cases l with
      | nil => cases h1
      | cons a t => simp only [Option.some.injEq, Prod.mk.injEq] at h; obtain ⟨_, rfl⟩ := h; simp
    · split at h
      · cases h
      · rename_i h1
        split at h
        · cases h
        · rename_i h2
          simp only [Option.some.injEq, Prod.mk.injEq] at h; obtain ⟨_, rfl⟩ := h
          have := one_short h1; have := ih h2; omega
theorem text_fuel {n m : Nat} {l : List Nat} (hn : l.length < n) (hm : l.length < m) : textN n l = textN m l := by
  induction n generalizing m l with
  | zero => omega
  | succ n ih =>
    cases m with
    | zero => omega
    | succ m =>
      unfold textN
      split
      · rfl
      · cases h : oneL 34 l with
        | none => rfl
        | some x =>
          obtain ⟨v, t⟩ := x
          have := one_short h
          simp only
          rw [ih (m := m) (l := t) (by omega) (by omega)]
theorem textL_end {l : List Nat} (h : l.head? = some 34) : textL l = some ([], l.tail) := by
  unfold textL textN; rw [if_pos h]
theorem textL_none {l : List Nat} (h : ¬ l.head? = some 34) (h1 : oneL 34 l = none) : textL l = none := by
  unfold textL textN; rw [if_neg h, h1]
theorem textL_some {l t : List Nat} {v : Nat} (h : ¬ l.head? = some 34) (h1 : oneL 34 l = some (v, t)) : textL l = (match textL t with | none => none | some (vs, u) => some (v :: vs, u)) := by
  have hs := one_short h1
  unfold textL
  rw [textN, if_neg h, h1]
  simp only
  rw [text_fuel (n := l.length) (m := t.length + 1) (by omega) (by omega)]
theorem char_short {v : Nat} {l u : List Nat} (h : charL l = some (v, u)) : u.length < l.length := by
  unfold charL at h
  split at h
  · cases h
  · rename_i h1
    split at h
    · simp only [Option.some.injEq, Prod.mk.injEq] at h; obtain ⟨_, rfl⟩ := h
      have := one_short h1
      rw [List.length_tail]; omega
    · cases h
theorem drop_short {p : Nat → Bool} (l : List Nat) : (l.dropWhile p).length ≤ l.length := by
  have := (List.dropWhile_sublist p (l := l)).length_le
  exact this
theorem tok_short {l u : List Nat} {k : Tk} (h : tokL l = some (k, u)) : u.length < l.length := by
  unfold tokL at h
  split at h
  · cases h
  · rename_i r t
    split at h
    · rename_i c
      simp only [Option.some.injEq, Prod.mk.injEq] at h; obtain ⟨_, rfl⟩ := h
      rw [List.dropWhile_cons_of_pos (by unfold wordR; rw [c]; rfl)]
      have := drop_short (p := wordR) t
      simp; omega
    split at h
    · rename_i c
      simp only [Option.some.injEq, Prod.mk.injEq] at h; obtain ⟨_, rfl⟩ := h
      rw [List.dropWhile_cons_of_pos (by unfold wordR; rw [c, Bool.or_true])]
      have := drop_short (p := wordR) t
      simp; omega
    split at h
    · split at h
      · cases h
      · rename_i h1
        simp only [Option.some.injEq, Prod.mk.injEq] at h; obtain ⟨_, rfl⟩ := h
        have := text_short h1; simp; omega
    split at h
    · split at h
      · cases h
      · rename_i h1
        simp only [Option.some.injEq, Prod.mk.injEq] at h; obtain ⟨_, rfl⟩ := h
        have := char_short h1; simp; omega
    split at h
    · simp only [Option.some.injEq, Prod.mk.injEq] at h; obtain ⟨_, rfl⟩ := h; simp
    · cases h
theorem line_fuel {n m : Nat} {l : List Nat} (hn : l.length < n) (hm : l.length < m) : lineN n l = lineN m l := by
  induction n generalizing m l with
  | zero => omega
  | succ n ih =>
    cases m with
    | zero => omega
    | succ m =>
      unfold lineN
      split
      · rfl
      · cases h : tokL (l.dropWhile whiR) with
        | none => rfl
        | some x =>
          obtain ⟨v, t⟩ := x
          have := tok_short h
          have := drop_short (p := whiR) l
          simp only
          rw [ih (m := m) (l := t) (by omega) (by omega)]
theorem lineL_end {l : List Nat} (h : stops (l.dropWhile whiR) = true) : lineL l = some [] := by
  unfold lineL lineN; rw [if_pos h]
theorem lineL_none {l : List Nat} (h : stops (l.dropWhile whiR) = false) (h1 : tokL (l.dropWhile whiR) = none) : lineL l = none := by
  unfold lineL lineN; rw [if_neg (by rw [h]; decide), h1]
theorem lineL_some {l u : List Nat} {k : Tk} (h : stops (l.dropWhile whiR) = false) (h1 : tokL (l.dropWhile whiR) = some (k, u)) : lineL l = (match lineL u with | none => none | some ts => some (k :: ts)) := by
  have hs := tok_short h1
  have := drop_short (p := whiR) l
  unfold lineL
  rw [lineN, if_neg (by rw [h]; decide), h1]
  simp only
  rw [line_fuel (n := l.length) (m := u.length + 1) (by omega) (by omega)]
theorem lineL_white {l m : List Nat} (h : l.dropWhile whiR = m.dropWhile whiR) : lineL l = lineL m := by
  unfold lineL lineN
  rw [h]
  split
  · rfl
  · cases h1 : tokL (m.dropWhile whiR) with
    | none => rfl
    | some x =>
      obtain ⟨v, t⟩ := x
      have := tok_short h1
      have := drop_short (p := whiR) m
      have := drop_short (p := whiR) l
      rw [h] at this
      simp only
      rw [line_fuel (n := l.length) (m := m.length) (by omega) (by omega)]
-- what stands behind
theorem one_app {q v : Nat} {l t : List Nat} (h : oneL q l = some (v, t)) (X : List Nat) : oneL q (l ++ X) = some (v, t ++ X) := by
  rcases one_spec h with ⟨c, rfl, e⟩ | ⟨rfl, e1, e2, e3⟩
  · exact one_meant _ e
  · exact one_self _ e1 e2 e3
theorem text_app {n : Nat} {l vs u : List Nat} (h : textN n l = some (vs, u)) (X : List Nat) : textN n (l ++ X) = some (vs, u ++ X) := by
  induction n generalizing l vs u with
  | zero => cases h
  | succ n ih =>
    unfold textN at h ⊢
    split at h
    · rename_i h1
      cases l with
      | nil => cases h1
      | cons a t =>
        simp only [Option.some.injEq, Prod.mk.injEq] at h; obtain ⟨rfl, rfl⟩ := h
        rw [if_pos (by simpa using h1)]; rfl
    · rename_i h0
      split at h
      · cases h
      · rename_i h1
        split at h
        · cases h
        · rename_i h2
          simp only [Option.some.injEq, Prod.mk.injEq] at h; obtain ⟨rfl, rfl⟩ := h
          cases l with
          | nil => cases h1
          | cons a t =>
            rw [if_neg (by simpa using h0), one_app h1 X]
            simp only
            rw [ih h2]
theorem textL_app {l vs u : List Nat} (h : textL l = some (vs, u)) (X : List Nat) : textL (l ++ X) = some (vs, u ++ X) := by
  unfold textL at h ⊢
  rw [text_fuel (n := (l ++ X).length + 1) (m := (l ++ X).length + 1) (by omega) (by omega)]
  rw [text_fuel (m := (l ++ X).length + 1) (by omega) (by simp; omega)] at h
  exact text_app h X
theorem charL_app {l u : List Nat} {v : Nat} (h : charL l = some (v, u)) (X : List Nat) : charL (l ++ X) = some (v, u ++ X) := by
  unfold charL at h ⊢
  split at h
  · cases h
  · rename_i h1
    rw [one_app h1 X]
    split at h
    · rename_i t h2
      simp only [Option.some.injEq, Prod.mk.injEq] at h; obtain ⟨rfl, rfl⟩ := h
      simp only
      cases t with
      | nil => cases h2
      | cons a b => rw [if_pos (by simpa using h2)]; rfl
    · cases h
theorem dropW_app {p : Nat → Bool} {l X : List Nat} (h : l.dropWhile p ≠ []) : (l ++ X).dropWhile p = l.dropWhile p ++ X := by
  induction l with
  | nil => exact (h rfl).elim
  | cons a t ih =>
    by_cases c : p a = true
    · rw [List.cons_append, List.dropWhile_cons_of_pos c, List.dropWhile_cons_of_pos c]
      rw [List.dropWhile_cons_of_pos c] at h
      exact ih h
    · rw [List.cons_append, List.dropWhile_cons_of_neg c, List.dropWhile_cons_of_neg c]; rfl
theorem dropW_nil {p : Nat → Bool} {l X : List Nat} (h : l.dropWhile p = []) : (l ++ X).dropWhile p = X.dropWhile p := by
  induction l with
  | nil => rfl
  | cons a t ih =>
    by_cases c : p a = true
    · rw [List.dropWhile_cons_of_pos c] at h
      rw [List.cons_append, List.dropWhile_cons_of_pos c]; exact ih h
    · rw [List.dropWhile_cons_of_neg c] at h; cases h
theorem word_app {l X : List Nat} (hX : ∀ x, X.head? = some x → wordR x = false) : (l ++ X).takeWhile wordR = l.takeWhile wordR ∧ (l ++ X).dropWhile wordR = l.dropWhile wordR ++ X := by
  induction l with
  | nil =>
    cases X with
    | nil => exact ⟨rfl, rfl⟩
    | cons x t =>
      have := hX x rfl
      exact ⟨by simp [this], by simp [this]⟩
  | cons a t ih =>
    by_cases c : wordR a = true
    · rw [List.cons_append, List.dropWhile_cons_of_pos c, List.dropWhile_cons_of_pos c, List.takeWhile_cons_of_pos c, List.takeWhile_cons_of_pos c, ih.1, ih.2]; exact ⟨rfl, rfl⟩
    · rw [List.cons_append, List.dropWhile_cons_of_neg c, List.dropWhile_cons_of_neg c, List.takeWhile_cons_of_neg c, List.takeWhile_cons_of_neg c]; exact ⟨rfl, rfl⟩
theorem tok_app {l u X : List Nat} {k : Tk} (h : tokL l = some (k, u)) (hX : ∀ x, X.head? = some x → wordR x = false) : tokL (l ++ X) = some (k, u ++ X) := by
  cases l with
  | nil => cases h
  | cons r t =>
    have hw := word_app (l := r :: t) hX
    rw [List.cons_append] at hw ⊢
    unfold tokL at h ⊢
    simp only at h ⊢
    rw [hw.1, hw.2]
    split at h
    · rename_i c
      simp only [Option.some.injEq, Prod.mk.injEq] at h; obtain ⟨rfl, rfl⟩ := h
      rw [if_pos c]
    rename_i c1
    rw [if_neg c1]
    split at h
    · rename_i c
      simp only [Option.some.injEq, Prod.mk.injEq] at h; obtain ⟨rfl, rfl⟩ := h
      rw [if_pos c]
    rename_i c2
    rw [if_neg c2]
    split at h
    · rename_i c
      rw [if_pos c]
      split at h
      · cases h
      · rename_i h1
        simp only [Option.some.injEq, Prod.mk.injEq] at h; obtain ⟨rfl, rfl⟩ := h
        rw [textL_app h1 X]
    rename_i c3
    rw [if_neg c3]
    split at h
    · rename_i c
      rw [if_pos c]
      split at h
      · cases h
      · rename_i h1
        simp only [Option.some.injEq, Prod.mk.injEq] at h; obtain ⟨rfl, rfl⟩ := h
        rw [charL_app h1 X]
    rename_i c4
    rw [if_neg c4]
    split at h
    · rename_i c
      simp only [Option.some.injEq, Prod.mk.injEq] at h; obtain ⟨rfl, rfl⟩ := h
      rw [if_pos c]
    · cases h
theorem tok_slash (t : List Nat) : tokL (47 :: t) = none := by
  unfold tokL
  simp only
  rw [if_neg (by decide), if_neg (by decide), if_neg (by decide), if_neg (by decide), if_neg (by decide)]
/-- No two strokes side by side. -/
def NoSl : List Nat → Prop
  | [] => True
  | a :: t => ¬ (a = 47 ∧ t.head? = some 47) ∧ NoSl t
theorem NoSl.app {a b : List Nat} (h : NoSl (a ++ b)) : NoSl b := by
  induction a with
  | nil => exact h
  | cons x t ih => exact ih h.2
theorem one_suf {q v : Nat} {l t : List Nat} (h : oneL q l = some (v, t)) : ∃ p, l = p ++ t := by
  rcases one_spec h with ⟨c, rfl, -⟩ | ⟨rfl, -⟩
  · exact ⟨[92, c], rfl⟩
  · exact ⟨[v], rfl⟩
theorem text_suf {n : Nat} {l vs u : List Nat} (h : textN n l = some (vs, u)) : ∃ p, l = p ++ u := by
  induction n generalizing l vs u with
  | zero => cases h
  | succ n ih =>
    unfold textN at h
    split at h
    · rename_i h1
      cases l with
      | nil => cases h1
      | cons a t => simp only [Option.some.injEq, Prod.mk.injEq] at h; obtain ⟨_, rfl⟩ := h; exact ⟨[a], rfl⟩
    · split at h
      · cases h
      · rename_i h1
        split at h
        · cases h
        · rename_i h2
          simp only [Option.some.injEq, Prod.mk.injEq] at h; obtain ⟨_, rfl⟩ := h
          obtain ⟨p, rfl⟩ := one_suf h1
          obtain ⟨q, rfl⟩ := ih h2
          exact ⟨p ++ q, by simp⟩
theorem tok_suf {l u : List Nat} {k : Tk} (h : tokL l = some (k, u)) : ∃ p, l = p ++ u := by
  unfold tokL at h
  split at h
  · cases h
  · rename_i r t
    split at h
    · simp only [Option.some.injEq, Prod.mk.injEq] at h; obtain ⟨_, rfl⟩ := h
      exact ⟨_, (List.takeWhile_append_dropWhile ..).symm⟩
    split at h
    · simp only [Option.some.injEq, Prod.mk.injEq] at h; obtain ⟨_, rfl⟩ := h
      exact ⟨_, (List.takeWhile_append_dropWhile ..).symm⟩
    split at h
    · split at h
      · cases h
      · rename_i h1
        simp only [Option.some.injEq, Prod.mk.injEq] at h; obtain ⟨_, rfl⟩ := h
        obtain ⟨p, rfl⟩ := text_suf h1
        exact ⟨r :: p, rfl⟩
    split at h
    · split at h
      · cases h
      · rename_i h1
        simp only [Option.some.injEq, Prod.mk.injEq] at h; obtain ⟨_, rfl⟩ := h
        unfold charL at h1
        split at h1
        · cases h1
        · rename_i w h2
          split at h1
          · rename_i h3
            simp only [Option.some.injEq, Prod.mk.injEq] at h1; obtain ⟨_, rfl⟩ := h1
            obtain ⟨p, rfl⟩ := one_suf h2
            cases w with
            | nil => cases h3
            | cons a b => exact ⟨r :: (p ++ [a]), by simp⟩
          · cases h1
    split at h
    · simp only [Option.some.injEq, Prod.mk.injEq] at h; obtain ⟨_, rfl⟩ := h; exact ⟨[r], rfl⟩
    · cases h
theorem white_word {x : Nat} (h : whiR x = true) : wordR x = false := by
  unfold whiR whiI at h
  simp only [Bool.or_eq_true, beq_iff_eq] at h
  have : x = 32 ∨ x = 9 ∨ x = 13 := by omega
  rcases this with rfl | rfl | rfl <;> decide
theorem dropW_suf (p : Nat → Bool) (l : List Nat) : ∃ a, l = a ++ l.dropWhile p := ⟨_, (List.takeWhile_append_dropWhile ..).symm⟩
theorem join {s X : List Nat} {a b : List Tk} (hs : lineL s = some a) (hX : lineL X = some b) (hw : ∀ x, X.head? = some x → whiR x = true) (hn : NoSl s ∨ b = []) : lineL (s ++ X) = some (a ++ b) := by
  obtain ⟨n, hle⟩ : ∃ n, s.length ≤ n := ⟨_, Nat.le_refl _⟩
  induction n generalizing s a with
  | zero =>
    have : s = [] := by cases s with | nil => rfl | cons => simp at hle
    subst this
    have : lineL [] = some [] := rfl
    rw [this] at hs; cases hs
    exact hX
  | succ n ih =>
    by_cases h0 : s.dropWhile whiR = []
    · have e : lineL s = some [] := lineL_end (by rw [h0]; rfl)
      rw [e] at hs; cases hs
      rw [lineL_white (dropW_nil (X := X) h0)]; exact hX
    have hd := dropW_app (X := X) h0
    obtain ⟨p, hp⟩ := dropW_suf whiR s
    have hlen := drop_short (p := whiR) s
    cases hst : stops (s.dropWhile whiR) with
    | true =>
      rw [lineL_end hst] at hs; cases hs
      have hsl : (s.dropWhile whiR).head? = some 47 ∧ (s.dropWhile whiR).tail.head? = some 47 := by
        unfold stops at hst
        simp only [Bool.or_eq_true, Bool.and_eq_true, beq_iff_eq] at hst
        rcases hst with h | h
        · exact (h0 h).elim
        · exact h
      rcases hn with hn | rfl
      · rw [hp] at hn
        have := hn.app
        cases hc : s.dropWhile whiR with
        | nil => exact (h0 hc).elim
        | cons x t =>
          rw [hc] at this hsl
          exact (this.1 ⟨by simpa using hsl.1, by simpa using hsl.2⟩).elim
      · refine lineL_end ?_
        rw [hd]
        cases hc : s.dropWhile whiR with
        | nil => exact (h0 hc).elim
        | cons x t =>
          rw [hc] at hsl
          cases t with
          | nil => simp at hsl
          | cons y u =>
            simp only [List.head?_cons, List.tail_cons, Option.some.injEq] at hsl
            obtain ⟨rfl, rfl⟩ := hsl
            rfl
    | false =>
      cases ht : tokL (s.dropWhile whiR) with
      | none => rw [lineL_none hst ht] at hs; cases hs
      | some x =>
        obtain ⟨k, u⟩ := x
        rw [lineL_some hst ht] at hs
        have hus := tok_short ht
        cases hu : lineL u with
        | none => rw [hu] at hs; cases hs
        | some ts =>
          rw [hu] at hs; cases hs
          obtain ⟨q, hq⟩ := tok_suf ht
          have hta := tok_app (X := X) ht (fun x hx => white_word (hw x hx))
          have hst2 : stops (s.dropWhile whiR ++ X) = false := by
            cases hc : s.dropWhile whiR with
            | nil => exact (h0 hc).elim
            | cons x t =>
              rw [hc] at ht
              have : x ≠ 47 := by rintro rfl; rw [tok_slash] at ht; cases ht
              unfold stops
              simp [this]
          rw [← hd] at hta hst2
          rw [lineL_some hst2 hta, ih hu (hn.imp (fun h => by rw [hp, hq] at h; exact h.app.app) id) (by omega)]
          rfl
/-- How a rune is written between quotes. -/
def escR (r : Nat) : List Nat := if r = 0 then [92, 48] else if r = 9 then [92, 116] else if r = 10 then [92, 110] else if r = 92 ∨ r = 34 then [92, r] else [r]
def quoR (r : Nat) : Bool := !(decide (r < 32) && r != 0 && r != 9 && r != 10)
theorem one_esc {r : Nat} (h : quoR r = true) (t : List Nat) : oneL 34 (escR r ++ t) = some (r, t) ∧ ¬ (escR r ++ t).head? = some 34 := by
  unfold escR
  by_cases h0 : r = 0
  · subst h0; exact ⟨one_meant t (c := 48) (by decide), by simp⟩
  by_cases h1 : r = 9
  · subst h1; exact ⟨one_meant t (c := 116) (by decide), by simp⟩
  by_cases h2 : r = 10
  · subst h2; exact ⟨one_meant t (c := 110) (by decide), by simp⟩
  by_cases h3 : r = 92
  · subst h3; exact ⟨one_meant t (c := 92) (by decide), by simp⟩
  by_cases h4 : r = 34
  · subst h4; exact ⟨one_meant t (c := 34) (by decide), by simp⟩
  rw [if_neg h0, if_neg h1, if_neg h2, if_neg (by omega)]
  unfold quoR at h
  have h5 : 32 ≤ r := by
    simp only [bne, Bool.not_eq_true', Bool.and_eq_false_iff, decide_eq_false_iff_not, Bool.not_eq_false', beq_iff_eq] at h
    omega
  constructor
  · exact one_self t h3 h5 h4
  · simp only [List.singleton_append, List.head?_cons, Option.some.injEq]; exact h4
theorem text_esc {rs : List Nat} (h : ∀ r ∈ rs, quoR r = true) (X : List Nat) : textL (rs.flatMap escR ++ 34 :: X) = some (rs, X) := by
  induction rs with
  | nil => exact textL_end rfl
  | cons r rs ih =>
    obtain ⟨h1, h2⟩ := one_esc (h r (by simp)) (rs.flatMap escR ++ 34 :: X)
    rw [List.flatMap_cons, List.append_assoc, textL_some h2 h1, ih fun x hx => h x (by simp [hx])]
theorem tok_quote {rs : List Nat} (h : ∀ r ∈ rs, quoR r = true) (X : List Nat) : tokL (34 :: (rs.flatMap escR ++ 34 :: X)) = some (⟨3, rs.flatMap encL, 0⟩, X) := by
  unfold tokL
  simp only [if_true]
  rw [if_neg (by decide), if_neg (by decide), text_esc h]
theorem line_quote {rs : List Nat} (h : ∀ r ∈ rs, quoR r = true) (X : List Nat) : lineL (34 :: (rs.flatMap escR ++ 34 :: X)) = (match lineL X with | none => none | some ts => some (⟨3, rs.flatMap encL, 0⟩ :: ts)) := by
  have hd : (34 :: (rs.flatMap escR ++ 34 :: X)).dropWhile whiR = 34 :: (rs.flatMap escR ++ 34 :: X) := List.dropWhile_cons_of_neg (by decide)
  have hs : stops ((34 :: (rs.flatMap escR ++ 34 :: X)).dropWhile whiR) = false := by
    rw [hd]; unfold stops; simp
  refine lineL_some hs ?_
  rw [hd]
  exact tok_quote h X
theorem line_blank (X : List Nat) : lineL (32 :: X) = lineL X := lineL_white (List.dropWhile_cons_of_pos (by decide))
theorem let_word {r : Nat} (h : letterI r = true) : wordR r = true ∧ whiR r = false ∧ r < 128 ∧ r ≠ 47 := by
  unfold letterI at h
  simp only [Bool.or_eq_true, Bool.and_eq_true, decide_eq_true_eq, beq_iff_eq] at h
  refine ⟨?_, ?_, by omega, by omega⟩
  · unfold wordR letterI
    simp only [Bool.or_eq_true, Bool.and_eq_true, decide_eq_true_eq, beq_iff_eq]
    exact .inl h
  · unfold whiR whiI
    simp only [Bool.or_eq_false_iff, beq_eq_false_iff_ne, ne_eq]
    omega
theorem wordR_lt {r : Nat} (h : wordR r = true) : r < 128 := by
  unfold wordR letterI digI at h
  simp only [Bool.or_eq_true, Bool.and_eq_true, decide_eq_true_eq, beq_iff_eq] at h
  omega
/-- A word, whatever that is none stands behind it. -/
theorem line_word {a : Nat} {s X : List Nat} (ha : letterI a = true) (hs : ∀ r ∈ s, wordR r = true) (hX : ∀ x, X.head? = some x → wordR x = false) :
    lineL (a :: s ++ X) = (match lineL X with | none => none | some ts => some (⟨1, (a :: s).flatMap encL, 0⟩ :: ts)) := by
  obtain ⟨h1, h2, h3, h4⟩ := let_word ha
  have hall : ∀ r ∈ a :: s, wordR r = true := by
    intro r hr
    rcases List.mem_cons.1 hr with rfl | hr
    · exact h1
    · exact hs r hr
  have hd : (a :: s ++ X).dropWhile whiR = a :: s ++ X := by rw [List.cons_append]; exact List.dropWhile_cons_of_neg (by rw [h2]; decide)
  have hw := word_app (l := a :: s) hX
  have e1 : (a :: s).takeWhile wordR = a :: s := by
    have : ∀ l : List Nat, (∀ r ∈ l, wordR r = true) → l.takeWhile wordR = l ∧ l.dropWhile wordR = [] := by
      intro l hl
      induction l with
      | nil => exact ⟨rfl, rfl⟩
      | cons x t ih =>
        have c := hl x (by simp)
        obtain ⟨i1, i2⟩ := ih fun r hr => hl r (by simp [hr])
        rw [List.takeWhile_cons_of_pos c, List.dropWhile_cons_of_pos c, i1, i2]; exact ⟨rfl, rfl⟩
    exact (this _ hall).1
  have e2 : (a :: s).dropWhile wordR = [] := by
    have := List.takeWhile_append_dropWhile (p := wordR) (l := a :: s)
    rw [e1] at this
    exact List.append_cancel_left (this.trans (List.append_nil _).symm)
  rw [e1, e2, List.nil_append] at hw
  refine lineL_some ?_ ?_
  · rw [hd]; unfold stops; simp [h4]
  · rw [hd, List.cons_append, tokL]
    rw [← List.cons_append, hw.1, hw.2, if_pos ha]
open Go.ChangeShapes Go.WideShapes Go.Deep Go.RowKit

theorem lt_of_block {w : World} {k : Nat} {o : Obj} (h : w.heap[k]? = some o) : k < w.heap.size := (Array.getElem?_eq_some_iff.1 h).1
def runC (r : Nat) : List Value := [.int .i64 (r : Int)]
/-- The reader at block p: its runes, and its place. -/
def RD (w : World) (p : Nat) (rs : List Nat) (at' : Nat) : Prop :=
  ∃ a c, w.heap[p]? = some (.cells #[.slice a rs.length c, .int .i64 (at' : Int)] 76 (0, 0)) ∧ SL runC 1 w p a rs.length rs
theorem RD.lt {w : World} {p at' : Nat} {rs : List Nat} (h : RD w p rs at') : p < w.heap.size := by obtain ⟨a, c, h1, -⟩ := h; exact lt_of_block h1
theorem RD.below {w w' : World} {p at' B : Nat} {rs : List Nat} (h : RD w p rs at') (hb : Below B w w') (hp : p < B) : RD w' p rs at' := by
  obtain ⟨a, c, h1, h2⟩ := h
  exact ⟨a, c, (hb.block p hp).trans h1, h2.below (hb.mono (by omega))⟩
theorem RD.step {w : World} {p at' : Nat} {rs : List Nat} (h : RD w p rs at') (x : Nat) : RD (w.setCell ⟨p, 1, none⟩ (.int .i64 (x : Int))) p rs x := by
  obtain ⟨a, c, h1, h2⟩ := h
  refine ⟨a, c, ?_, h2.below ((Below.refl p w).setCell (p := ⟨p, 1, none⟩) (Nat.le_refl _) _)⟩
  unfold World.setCell
  simp [h1, Array.getElem?_modify]
/-- Nothing but the block p, of what was there, has turned. -/
abbrev KP (p : Nat) (w w' : World) : Prop := w.grownBy w' (some p)
theorem KP.of_below {p : Nat} {w w' : World} (h : Below w.heap.size w w') : KP p w w' := ⟨h.os, h.tape, h.output, h.size, fun k hk _ => h.block k hk⟩
theorem KP.step (p : Nat) (w : World) (o : Nat) (v : Value) : KP p w (w.setCell ⟨p, o, none⟩ v) := ⟨rfl, rfl, rfl, by simp [World.setCell], fun k hk hn => Below.heap_setCell _ _ _ _ (fun e => hn (by rw [e]))⟩
theorem KP.refl (p : Nat) (w : World) : KP p w w := World.grownBy.refl _ _
/-- The rune at the head; -1: there is none. -/
def peekZ (l : List Nat) : Int := match l with | [] => -1 | r :: _ => r
theorem peekZ_end {l : List Nat} {k : Nat} (h : l.length ≤ k) : peekZ (l.drop k) = -1 := by rw [List.drop_eq_nil_of_le h]; rfl
theorem peekZ_at {l : List Nat} {k : Nat} (h : k < l.length) : peekZ (l.drop k) = (l[k] : Nat) := by rw [drop_cons h]; rfl
set_option maxRecDepth 100000 in
set_option maxHeartbeats 1000000 in
theorem peek_any {w : World} {p at' : Nat} {rs : List Nat} (h : RD w p rs at') (on : Nat) (h1 : at' + on ≤ 1000000) (h2 : rs.length ≤ 1000000) :
    Calls Tryz.prog 54 #[.pointer (some ⟨p, 0, none⟩), .int .i64 (on : Int)] w (RetD (.int .i64 (peekZ (rs.drop (at' + on)))) w) := by
  obtain ⟨a, c, hp, hs⟩ := h
  have p0 : w.cell? ⟨p, 0, none⟩ = some (.slice a rs.length c) := by rw [World.cell?, hp]; rfl
  have p1 : w.cell? ⟨p, 1, none⟩ = some (.int .i64 (at' : Int)) := by rw [World.cell?, hp]; rfl
  obtain ⟨y, hy⟩ : ∃ y, y = at' + on := ⟨_, rfl⟩
  have hxy : (at' : Int) + on = (y : Int) := by omega
  have hyw : IntKind.i64.wrap (y : Int) = y := by rw [IntKind.wrap_i64]; omega
  rw [← hy]
  clear hy h1
  obtain ⟨n, hn⟩ : ∃ n, n = rs.length := ⟨_, rfl⟩
  rw [← hn] at p0
  by_cases hlt : y < n
  · have hk : y < rs.length := by omega
    obtain ⟨b, off, rfl, hB, hc⟩ := hs.cells (hs.ne hk)
    have c0 := hc y hk 0 (by omega)
    have HR := Lib.hid (peekZ_at hk)
    obtain ⟨x, hx⟩ : ∃ x : Nat, x = rs[y] := ⟨_, rfl⟩
    rw [← hx] at c0 HR
    simp only [runC, Nat.add_zero, Nat.mul_one, List.getElem?_cons_zero] at c0
    have hlz : ¬ ((n : Int) ≤ y) := by omega
    have hlz2 : (y : Int) < n := by omega
    clear hc hs hx hp hk hlt h2 hn
    go_enter Tryz.func54, Tryz.ntmps54
    go_wp2
    go_quiet (fail)
    go_wp2
    go_quiet (fail)
    go_wp2
    go_ret
    exact ⟨by rw [HR.out]; rfl, _, World.drewN_drewN _ _ _⟩
  · have HR := Lib.hid (peekZ_end (l := rs) (k := y) (by omega))
    have hlz : (n : Int) ≤ y := by omega
    clear hs hp h2 hn hlt
    go_enter Tryz.func54, Tryz.ntmps54
    go_wp2
    go_quiet (fail)
    go_wp2
    go_ret
    exact ⟨by rw [HR.out]; rfl, _, rfl⟩
set_option maxHeartbeats 1000000 in
theorem isLetter_any (x : Int) (w : World) : Calls Tryz.prog 55 #[.int .i64 x] w (Ret (.bool (letterI x)) w) := by
  go_enter Tryz.func55, Tryz.ntmps55
  go_wp2
  all_goals
    go_ret
    refine ret_bool ?_
    unfold letterI
    first | (simp_all; done) | (simp_all; omega) | (rw [Bool.eq_iff_iff]; simp; omega)
theorem isDigit_any (x : Int) (w : World) : Calls Tryz.prog 57 #[.int .i64 x] w (Ret (.bool (digI x)) w) := by
  go_enter Tryz.func57, Tryz.ntmps57
  go_wp2
  all_goals
    go_ret
    refine ret_bool ?_
    unfold digI
    first | (simp_all; done) | (simp_all; omega) | (rw [Bool.eq_iff_iff]; simp; omega)
theorem isWhite_any (x : Int) (w : World) : Calls Tryz.prog 53 #[.int .i64 x] w (Ret (.bool (whiI x)) w) := by
  go_enter Tryz.func53, Tryz.ntmps53
  go_wp2
  all_goals
    go_ret
    refine ret_bool ?_
    unfold whiI
    first | (simp_all; done) | (simp_all; omega) | (rw [Bool.eq_iff_iff]; simp; omega)
open Go.RowKit

/-- A builder in a block of its own, from B on, that holds bs. -/
abbrev WrAt (B b : Nat) (p : Value) (bs : List Value) (w : World) : Prop := Lib.BuilderAt 126 5 B b p bs w
abbrev Wr (B b : Nat) (bs : List Value) (w : World) : Prop := Lib.IsBuilder 126 5 B b bs w
theorem infoB : (Tryz.prog.info? 126).map (·.size) = some 2 := by kernel_rfl
theorem infoU : (Tryz.prog.info? 5).map (fun i => (i.zero, i.size, i.bytes)) = some (some (.int .u8 0), 1, 1) := by kernel_rfl
theorem ptrB : Tryz.prog.underlying 124 = some (.pointer 126) := by kernel_rfl
theorem ptrX : Tryz.prog.underlying 158 = some .unsafePointer := by kernel_rfl
theorem liesW : liesAt Tryz.prog Tryz.prog.depth 126 (2 / Tryz.prog.cellsOf 126) 0 126 1 = true := by kernel_rfl

set_option maxRecDepth 100000 in
set_option maxHeartbeats 1000000 in
theorem copyCheck_used (b : Nat) (w : World) (h0 : w.cell? ⟨b, 0, none⟩ = some (.pointer (some ⟨b, 0, none⟩))) :
    Calls Tryz.prog 96 #[.pointer (some ⟨b, 0, none⟩)] w fun e w' => e = .returned (.tuple #[]) ∧ w' = w := by
  obtain ⟨j, hj, _⟩ := Option.map_eq_some_iff.1 infoB
  go_enter Tryz.func96, Tryz.ntmps96
  go_wp2
  rw [Lib.run_neq_ptr_same w _ ptrB hj]
  go_wp2
  go_end0
  exact ⟨rfl, rfl⟩
set_option maxRecDepth 100000 in
set_option maxHeartbeats 1000000 in
theorem copyCheck_fresh (b : Nat) (w : World) (h0 : w.cell? ⟨b, 0, none⟩ = some (.pointer none)) (hsh : w.shape? b = some (126, 2)) (hfz : w.frozen? ⟨b, 0, none⟩ = false) :
    Calls Tryz.prog 96 #[.pointer (some ⟨b, 0, none⟩)] w fun e w' => e = .returned (.tuple #[]) ∧ w' = w.setCell ⟨b, 0, none⟩ (.pointer (some ⟨b, 0, none⟩)) := by
  obtain ⟨j, hj, hjs⟩ := Option.map_eq_some_iff.1 infoB
  have hcv : (convert 124 158 (.pointer (some ⟨b, 0, none⟩))).run Tryz.prog w = .ok (.pointer (some ⟨b, 0, none⟩)) w :=
    Lib.run_to_unsafe w ⟨b, 0, none⟩ ptrB ptrX hj (by rw [hjs]; decide) hsh (Nat.zero_lt_succ 1)
  have hcb : (convert 158 124 (.pointer (some ⟨b, 0, none⟩))).run Tryz.prog w = .ok (.pointer (some ⟨b, 0, none⟩)) w :=
    Lib.run_from_unsafe w ⟨b, 0, none⟩ ptrX ptrB hj hsh liesW
  have hcl : (callFunc 109 #[.pointer (some ⟨b, 0, none⟩)]).run Tryz.prog w = .ok (.value (.pointer (some ⟨b, 0, none⟩))) w := by
    rw [run_callFunc_extern Tryz.func109 (by kernel_rfl) (by kernel_rfl) (by kernel_rfl) (e := Extern.AbiNoEscape.same) (by kernel_rfl), Lib.run_noEscape]
    rfl
  go_enter Tryz.func96, Tryz.ntmps96
  go_wp2
  go_end0
  exact ⟨rfl, rfl⟩
theorem copyCheck_any (B b : Nat) (bs : List Value) (w : World) (h : Wr B b bs w) :
    Calls Tryz.prog 96 #[.pointer (some ⟨b, 0, none⟩)] w fun e w' => e = .returned (.tuple #[]) ∧ (WrAt B b (.pointer (some ⟨b, 0, none⟩)) bs w' ∧ Below B w w' ∧ Lib.OthersKept 5 (some b) w w') := by
  rcases h with h | h
  · refine (copyCheck_fresh b w h.cell0 h.shape h.frozen0).mono ?_
    rintro e w' ⟨rfl, rfl⟩
    exact ⟨rfl, h.used _, (Below.refl B w).setCell (p := ⟨b, 0, none⟩) h.1 _, (Lib.OthersKept.refl _ _ w).setCell ⟨b, 0, none⟩ rfl _⟩
  · refine (copyCheck_used b w h.cell0).mono ?_
    rintro e w' ⟨rfl, rfl⟩
    exact ⟨rfl, h, Below.refl B _, Lib.OthersKept.refl _ _ _⟩
theorem row_kind {w : World} {B : Nat} {e : TypeId} {v : Value} {n : Nat} {xs : List Value} (h : w.ownsRow B e 1 v n xs) : ∀ g, v.ownBlock = some g → ∃ c fz, w.heap[g]? = some (.cells c e fz) := by
  intro g hg
  rcases h.2 with ⟨rfl, _⟩ | ⟨g', cap, cur, rfl, _, hgg, _⟩
  · simp [Value.ownBlock] at hg
  · simp only [Value.ownBlock, Option.some.injEq] at hg
    subst hg
    exact ⟨_, _, hgg⟩

set_option maxRecDepth 100000 in
set_option maxHeartbeats 2000000 in
theorem writeByte_any (B b : Nat) (bs : List Value) (c : Int) (w : World) (h : Wr B b bs w) (hlen : bs.length + 1 ≤ 140737488355328) (hBw : B ≤ w.heap.size) :
    Calls Tryz.prog 79 #[.pointer (some ⟨b, 0, none⟩), .int .u8 c] w fun e w' => e = .returned .nilIface ∧ (WrAt B b (.pointer (some ⟨b, 0, none⟩)) (bs ++ [.int .u8 c]) w' ∧ Below B w w' ∧ Lib.OthersKept 5 (some b) w w') := by
  obtain ⟨i0, hi, hz0, hz1, hz2⟩ := info_parts infoU
  go_enter Tryz.func79, Tryz.ntmps79
  go_wp2_with fail
  refine (copyCheck_any B b bs _ h).mono ?_
  rintro e w1 ⟨rfl, h1, hb1, hk1⟩
  obtain ⟨hB, v, hbk, hown, hne⟩ := h1
  have c0 : w1.cell? ⟨b, 0, none⟩ = some (.pointer (some ⟨b, 0, none⟩)) := by rw [Lib.cell_of_heap hbk]; rfl
  have c1 : w1.cell? ⟨b, 1, none⟩ = some v := by rw [Lib.cell_of_heap hbk]; rfl
  go_wp2_with (at_builtin; refine wpList_append_own _ rfl _ _ 89 rfl B 5 i0 (.int .u8 0) 1 1 Tryz.underlying89 hi hz0 hz1 hz2 rfl (by decide) _ _ _ rfl (hown.alloc _) ⟨w1.heap.size, 0, none⟩ 1 1 [.int .u8 c] rfl rfl ?c1 ?c2 ?c3 ?c4 ?c5 ?_)
  case c1 =>
    intro j u hj
    match j, hj with
    | 0, hj => simp at hj; subst hj; simp [Addr.add]
  case c2 => intro u hu; simp at hu; subst hu; rfl
  case c3 => unfold maxLen; omega
  case c4 => omega
  case c5 => have := hb1.size; simp; omega
  intro v' w2 hown' hgrow _
  have hlt : b < w1.heap.size := (Array.getElem?_eq_some_iff.1 hbk).1
  have hb2 : w2.heap[b]? = some (.cells #[.pointer (some ⟨b, 0, none⟩), v] 126 (0, 0)) := by
    rw [hgrow.block b (by simp; omega) (fun e => hne e.symm), Lib.alloc_old w1 _ b hlt]
    exact hbk
  have d0 : w2.cell? ⟨b, 0, none⟩ = some (.pointer (some ⟨b, 0, none⟩)) := by rw [Lib.cell_of_heap hb2]; rfl
  have d1 : w2.cell? ⟨b, 1, none⟩ = some v := by rw [Lib.cell_of_heap hb2]; rfl
  have f1 : w2.frozen? ⟨b, 1, none⟩ = false := Lib.frozen_of_heap hb2 1
  obtain ⟨g, cap, rfl⟩ : ∃ g cap, v' = .slice (some ⟨g, 0, none⟩) (bs.length + 1) cap := by
    rcases hown'.2 with ⟨_, h0⟩ | ⟨g, cap, cur, hv, _⟩
    · omega
    · exact ⟨g, cap, hv⟩
  go_wp2
  go_ret
  refine ⟨rfl, ?_, ?_, ((hk1.alloc _).grown hgrow (row_kind (hown.alloc _))).setCell ⟨b, 1, none⟩ rfl _⟩
  · exact Lib.BuilderAt.put hB hb2 (bs' := bs ++ [.int .u8 c]) (by simpa using hown') (by decide)
  · exact ((hb1.alloc (by have := hb1.size; omega) _).grown hgrow (by have := hb1.size; simp; omega) (fun k hk => (hown.lt k hk).1)).setCell (p := ⟨b, 1, none⟩) hB _

set_option maxRecDepth 100000 in
set_option maxHeartbeats 1000000 in
/-- String, of a builder that holds a byte. -/
theorem string_some (B b : Nat) (l : List UInt8) (w : World) (h : Wr B b (Lib.byteCells l) w) (h0 : l ≠ []) :
    Calls Tryz.prog 80 #[.pointer (some ⟨b, 0, none⟩)] w fun e w' => e = .returned (.string ⟨l.toArray⟩) ∧ Below B w w' := by
  obtain ⟨p, hB, v, hbk, hown, hne⟩ : ∃ p, WrAt B b p (Lib.byteCells l) w := by
    rcases h with h | h
    · exact ⟨_, h⟩
    · exact ⟨_, h⟩
  have hl0 : l.length ≠ 0 := by simpa using h0
  rw [Lib.byteCells_length] at hown
  obtain ⟨g, cap, cur, rfl, hbg, hg, hnc, hcm, hcs, htake⟩ : ∃ g cap cur, v = .slice (some ⟨g, 0, none⟩) l.length cap ∧ B ≤ g ∧ w.heap[g]? = some (.cells cur 5 (0, 0)) ∧ l.length ≤ cap ∧ cap ≤ maxLen ∧ cur.size = cap * 1 ∧ cur.toList.take (l.length * 1) = Lib.byteCells l := by
    rcases hown.2 with ⟨_, hz⟩ | ⟨g, cap, cur, hv, r⟩
    · exact absurd hz hl0
    · exact ⟨g, cap, cur, hv, r⟩
  have c1 : w.drew.cell? ⟨b, 1, none⟩ = some (.slice (some ⟨g, 0, none⟩) l.length cap) := by
    have : w.drew.heap[b]? = some (.cells #[p, .slice (some ⟨g, 0, none⟩) l.length cap] 126 (0, 0)) := hbk
    rw [Lib.cell_of_heap this]; rfl
  have hSD : (Builtin.unsafeSliceData_ #[89] 148 #[.slice (some ⟨g, 0, none⟩) l.length cap]).run Tryz.prog w.drew = .ok (.pointer (some ⟨g, 0, none⟩)) w.drew :=
    Lib.run_unsafeSliceData_row _ _ _ _ _ _ (by omega)
  have hUS : (Builtin.unsafeString_ #[148, 3] 9 #[.pointer (some ⟨g, 0, none⟩), .int .i64 l.length]).run Tryz.prog w.drew = .ok (.string ⟨l.toArray⟩) (w.drew.freeze ⟨g, 0, none⟩ l.length) := by
    refine Lib.run_unsafeString_row w.drew 148 3 9 5 (by kernel_rfl) (by kernel_rfl) g cur.size (by have hg' : w.drew.heap[g]? = some (.cells cur 5 (0, 0)) := hg; simp [World.shape?, hg']) l h0 (by omega) (by unfold maxLen at hcm; omega) ?_
    intro j x hx
    have := hown.cells (g := g) rfl j (.int .u8 x.toNat) (by simp [Lib.byteCells, hx])
    exact this
  go_enter Tryz.func80, Tryz.ntmps80
  go_wp2
  go_region
  all_goals (go_wp2; go_ret; exact ⟨rfl, Lib.below_freeze (Below.drew (Below.refl B w)) (p := ⟨g, 0, none⟩) hbg _⟩)
end Go.Proofs.YthejefldnpeciaaGreatDoor
