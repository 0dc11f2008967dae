/- PlaceDoes returns true, for every input. -/
import Derived.Test.YtpjidjanhonikaaG8
import Derived.Deep.RegionHeld3
namespace Go.Proofs.Ytpjidjanhonikaa
set_option linter.unusedVariables false
set_option linter.unusedSimpArgs false
open Go.RowKit

def Four (B : Nat) (a b c d : Value) (w : World) : Prop := w.cell? ⟨B, 0, none⟩ = some a ∧ w.cell? ⟨B, 1, none⟩ = some b ∧ w.cell? ⟨B, 2, none⟩ = some c ∧ w.cell? ⟨B, 3, none⟩ = some d
theorem Four.below {B C : Nat} {a b c d : Value} {w w' : World} (h : Four B a b c d w) (hb : Below C w w') (hB : B < C) : Four B a b c d w' :=
  ⟨(hb.cell (p := ⟨B, 0, none⟩) hB).trans h.1, (hb.cell (p := ⟨B, 1, none⟩) hB).trans h.2.1, (hb.cell (p := ⟨B, 2, none⟩) hB).trans h.2.2.1, (hb.cell (p := ⟨B, 3, none⟩) hB).trans h.2.2.2⟩
theorem Four.made (w : World) (a b c d : Value) (T : TypeId) : Four w.heap.size a b c d (w.alloc (.cells #[a, b, c, d] T)) := by
  have e := (MapKept.heap_alloc w (.cells #[a, b, c, d] T)).1
  refine ⟨?_, ?_, ?_, ?_⟩ <;> (unfold World.cell?; rw [e]; rfl)

theorem same_eq (a a' : Option Addr) (n c c' : Nat) (l : List Int) (w : World) (hn : n ≤ 1000000) (h : SL encU 1 w w.heap.size a n l) (h' : SL encU 1 w w.heap.size a' n l) :
    Calls Try.prog 17 #[.slice a n c, .slice a' n c'] w (RetB (.bool true) w) := by
  have := same_yes a a' n c c' l l w hn h h'
  rwa [decide_eq_true rfl] at this
theorem layS_len (l : List Bk) (base : Int) : (layS l base).1.length ≤ l.length := by
  rcases layS_cases l base with ⟨x, h, _, _⟩ | ⟨h, _⟩
  · rw [h]; simp
  · rw [h]; simp only [layL_len]; omega

set_option maxRecDepth 100000 in
set_option maxHeartbeats 3200000 in
theorem PlaceDoes_walk (w : World) (t d s r : Int) (ht : 0 ≤ t ∧ t < 18446744073709551616) (hd : 0 ≤ d ∧ d < 18446744073709551616) (hs : 0 ≤ s ∧ s < 18446744073709551616) (hr : -9223372036854775808 ≤ r ∧ r ≤ 9223372036854775807)
    (x : Int) (hx : 0 ≤ x ∧ x < 18446744073709551616) (m : Int) (hm : -9223372036854775808 ≤ m ∧ m ≤ 9223372036854775807)
    (a : Option Addr) (n c : Nat) (l : List Bk) (hm0 : n * 16 ≤ reachBytes) (hg : ∀ b ∈ l, bkB b) (h : SL encB 2 w w.heap.size a n l) (hz : a = none → n = 0 ∧ c = 0) (base : Int) (hb : 0 ≤ base ∧ base < 18446744073709551616) :
    Calls Try.prog 3 #[.agg #[.int .u64 t, .int .u64 d, .int .u64 s, .int .i64 r], .int .u64 x, .int .i64 m, .slice a n c, .int .u64 base] w (RetB (.bool true) w) := by
  obtain ⟨b0, b1⟩ := hb
  have hreach := reachBytes_lt
  by_cases hn40 : 300 < n
  · clear h hg hz
    go_enter Try.func3, Try.ntmps3
    go_wp2_with fail
    go_ret
    exact retB_bool rfl ((Below.refl _ _).alloc (Nat.le_refl _) _)
  clear hreach hm0
  obtain ⟨w0, hw0⟩ : ∃ w0 : World, w0 = w.alloc (.cells #[.int .u64 t, .int .u64 d, .int .u64 s, .int .i64 r] 24) := ⟨_, rfl⟩
  obtain ⟨B, hB⟩ : ∃ B : Nat, B = w.heap.size := ⟨_, rfl⟩
  have hbw0 : Below w.heap.size w w0 := by rw [hw0]; exact (Below.refl _ _).alloc (Nat.le_refl _) _
  have hF0 : Four B (.int .u64 t) (.int .u64 d) (.int .u64 s) (.int .i64 r) w0 := by rw [hw0, hB]; exact Four.made _ _ _ _ _ _
  have hB0 : B < w0.heap.size := by rw [hw0, hB]; simp
  have h0 := h.next hbw0
  have HG := Lib.hid hg
  clear h hg
  go_enter Try.func3, Try.ntmps3
  have HB := Lib.hid hB
  have HW := Lib.hid hw0
  clear hB hw0
  go_wp2_with fail
  rw [← HB.out, ← HW.out]
  have HF0 := Lib.hid hF0
  clear hF0
  refine (own_any a n c l w0 (by omega) h0 hz).mono ?_
  rintro e w1 ⟨a1, n1, c1, rfl, h1, z1, hb1⟩
  have h2 := h0.next hb1
  obtain rfl : n = n1 := h2.len.trans h1.len.symm
  have hbw1 := after hbw0 hb1
  have HF1 := Lib.hid (HF0.out.below hb1 hB0)
  have hB1 : B < w1.heap.size := by have := hb1.size; omega
  clear h0 hb1 hbw0 HF0
  go_wp2_with fail
  refine (up_any x m _ hx.1 hx.2).mono ?_
  rintro e w' ⟨rfl, rfl⟩
  go_wp2_with fail
  refine (refUp_any x m _ hx.1 hx.2).mono ?_
  rintro e w' ⟨rfl, rfl⟩
  go_wp2_with fail
  refine (lay_any a n c l base _ (by omega) h2 HG.out b0 b1).mono ?_
  rintro e w2 ⟨a2, n2, c2, rfl, h3, z3, hb2⟩
  have h4 := h2.next hb2
  have h5 := h1.next hb2
  have hbw2 := after hbw1 hb2
  have HF2 := Lib.hid (HF1.out.below hb2 hB1)
  have hB2 : B < w2.heap.size := by have := hb2.size; omega
  clear h1 h2 hb2 hbw1 HF1
  go_wp2_with fail
  refine (refLay_any a1 n c1 l base _ (by omega) h5 HG.out b0 b1).mono ?_
  rintro e w3 ⟨a3, n3, c3, rfl, h6, z6, hb3⟩
  have h7 := h3.next hb3
  obtain rfl : n2 = n3 := h7.len.trans h6.len.symm
  have h8 := h4.next hb3
  have h9 := h5.next hb3
  have hbw3 := after hbw2 hb3
  have HF3 := Lib.hid (HF2.out.below hb3 hB2)
  have hB3 : B < w3.heap.size := by have := hb3.size; omega
  clear h3 h4 h5 hb3 hbw2 HF2
  go_wp2_with fail
  go_loopw [22] (fun i wr => ∃ k : Nat, k ≤ n ∧ i = .int .i64 k ∧ Below w3.heap.size w3 wr) (fun i _ => n - (intOf i).toNat)
  case atStart => exact ⟨0, by omega, rfl, Below.refl _ _⟩
  case round =>
    obtain ⟨k, hk, rfl, hb⟩ := hrel
    have hLEN := Lib.hid h8.len
    by_cases hlt : k < n
    · have hkl : k < l.length := by have := hLEN.out; omega
      obtain ⟨b, off, rfl, hBb, hc⟩ := (h8.below hb).cells (h8.ne hlt)
      obtain ⟨b', off', rfl, hBb', hc'⟩ := (h9.below hb).cells (h9.ne hlt)
      have c0 := hc k hkl 0 (by omega)
      have c1 := hc k hkl 1 (by omega)
      have d0 := hc' k hkl 0 (by omega)
      have d1 := hc' k hkl 1 (by omega)
      generalize l[k] = f at c0 c1 d0 d1
      obtain ⟨S, A⟩ := f
      simp only [encB, Nat.add_zero, List.getElem?_cons_zero, List.getElem?_cons_succ] at c0 c1 d0 d1
      clear hc hc' h8 h9 h6 h7
      go_wp2_with fail
      go_quiet (fail)
      go_wp2_with fail
      go_roundw
      case rel => exact ⟨k + 1, by omega, by go_num, below_drewN hb _⟩
      case measure => simp [intOf]; omega
    · go_wp2_with fail
      have h10 := h6.next hb
      have h11 := h7.next hb
      have hbw4 := after hbw3 hb
      obtain ⟨f0, f1, f2, f3⟩ := HF3.out.below hb hB3
      have hB4 : B < wr.heap.size := by have := hb.size; omega
      clear h6 h7 h8 h9 hb hbw3 HF3
      have hn2 : n2 ≤ 300 := by
        have e := h11.len
        have := layS_len l base
        have := hLEN.out
        omega
      go_region_held3 (fun w' => w'.cell? ⟨B, 0, none⟩ = some (.int .u64 t) ∧ w'.cell? ⟨B, 1, none⟩ = some (.int .u64 d) ∧ w'.cell? ⟨B, 2, none⟩ = some (.int .u64 s) ∧ w'.cell? ⟨B, 3, none⟩ = some (.int .i64 r))
        (first
          | go_keep
          | exact Four.below (C := wr.heap.size) (w := wr) ⟨f0, f1, f2, f3⟩ (by assumption) hB4)
        ((first
          | (go_at_call 14; refine (laid_any _).mono ?_; rintro e w' ⟨rfl, hb5⟩; have hx5 : Below wr.heap.size wr w' := ((Below.refl _ wr).drew).trans hb5)
          | (go_at_call 15; refine (good_any t d s r _ ht.1 ht.2 hd.1 hd.2 hs.1 hs.2).mono ?_; rintro e w' ⟨rfl, hb6⟩; have hx6 : Below wr.heap.size wr w' := hx5.trans (hb6.mono hx5.size))
          | (go_at_call 16; refine (refGood_any t d s r _ ht.1 ht.2 hd.1 hd.2 hs.1 hs.2).mono ?_; rintro e w' ⟨rfl, hb7⟩; have hx7 : Below wr.heap.size wr w' := hx6.trans (hb7.mono hx6.size))
          | (go_at_call 17; refine (same_eq a2 a3 n2 c2 c3 _ _ (by omega) (h11.next hx7) (h10.next hx7)).mono ?_; rintro e w' ⟨rfl, hb8⟩; have hx8 : Below wr.heap.size wr w' := hx7.trans (hb8.mono hx7.size))))
      go_wp2
      go_ret
      exact retB_bool rfl (after hbw4 hx8)
end Go.Proofs.Ytpjidjanhonikaa
