/- PlaceApart returns true, for every input. -/
import Derived.Test.YtpjidjanhonikaaG5
import Derived.SizedLaws
namespace Go.Proofs.Ytpjidjanhonikaa
set_option linter.unusedVariables false
set_option linter.unusedSimpArgs false
open Go.RowKit

theorem layL_len (l : List Bk) (e : Int) : (layL l e).1.length = l.length := by
  induction l generalizing e with
  | nil => rfl
  | cons b r ih => simp only [layL, List.length_cons, ih]
theorem layS_cases (l : List Bk) (base : Int) : (∃ x, layS l base = ([], 0, x) ∧ (x != 0) = true ∧ x ≠ 0) ∨
    (layS l base = ((layL l base).1, (layL l base).2, 0) ∧ (∀ b ∈ l, okB b = true) ∧ l.length ≤ 256 ∧ base ≤ 4611686018427387904) := by
  unfold layS
  by_cases h1 : l.all okB = false
  · rw [if_pos h1]; exact .inl ⟨1, rfl, rfl, by decide⟩
  rw [if_neg h1]
  by_cases h2 : 256 < l.length
  · rw [if_pos h2]; exact .inl ⟨2, rfl, rfl, by decide⟩
  rw [if_neg h2]
  by_cases h3 : 4611686018427387904 < base
  · rw [if_pos h3]; exact .inl ⟨4, rfl, rfl, by decide⟩
  rw [if_neg h3]
  exact .inr ⟨rfl, by simpa using h1, by omega, by omega⟩

set_option maxRecDepth 100000 in
set_option maxHeartbeats 1600000 in
theorem PlaceApart_walk (w : World) (a : Option Addr) (n c : Nat) (l : List Bk) (hm0 : n * 16 ≤ reachBytes) (hg : ∀ b ∈ l, bkB b) (h : SL encB 2 w w.heap.size a n l) (hz : a = none → n = 0 ∧ c = 0) (base : Int) (hb : 0 ≤ base ∧ base < 18446744073709551616) :
    Calls Try.prog 5 #[.slice a n c, .int .u64 base] w (RetB (.bool true) w) := by
  clear hz
  obtain ⟨b0, b1⟩ := hb
  have hn : n ≤ 9223372036854775807 := by have := reachBytes_lt; omega
  clear hm0
  by_cases hn40 : 300 < n
  · clear h hg
    go_enter Try.func5, Try.ntmps5
    go_wp2_with fail
    go_ret
    exact retB_bool rfl (Below.refl _ _)
  have HL := Lib.hid (lay_any a n c l base w (by omega) h hg b0 b1)
  have hlen := h.len
  rcases layS_cases l base with ⟨x, hl, hx, hx0⟩ | ⟨hl, hok, hl256, hbase⟩
  · rw [hl] at HL
    clear hl hlen h hg
    go_enter Try.func5, Try.ntmps5
    go_wp2_with fail
    refine HL.out.mono ?_
    rintro e w1 ⟨a1, n1, c1, rfl, h1, -, hb1⟩
    obtain rfl : n1 = 0 := h1.len
    clear h1
    go_wp2_with (go_at_call 14; refine (laid_any _).mono ?_; rintro e w' ⟨rfl, hb2⟩)
    go_ret
    exact retB_bool rfl (after hb1 hb2)
  · rw [hl] at HL
    have hOK := Lib.hid hok
    have hLEN := Lib.hid hlen
    clear hl hok hlen hg
    go_enter Try.func5, Try.ntmps5
    go_wp2_with fail
    refine HL.out.mono ?_
    rintro e w1 ⟨a1, n1, c1, rfl, h1, -, hb1⟩
    obtain rfl : n1 = n := by have := h1.len; rw [layL_len] at this; rw [this]; exact hLEN.out.symm
    have h2 := h.next hb1
    clear h HL
    go_wp2_with fail
    go_loopw [8, 9] (fun last i wr => ∃ (k : Nat) (e : Int) (acc : List Int), k ≤ n1 ∧ i = .int .i64 k ∧ last = .int .u64 e ∧ 0 ≤ e ∧ e ≤ 4611686018427387904 + k * 20480 ∧ acc.length = k ∧
      layL l base = (acc ++ (layL (l.drop k) e).1, (layL (l.drop k) e).2) ∧ Below w1.heap.size w1 wr) (fun _ i _ => n1 - (intOf i).toNat)
    case atStart => exact ⟨0, base, [], by omega, rfl, rfl, b0, by omega, rfl, rfl, Below.refl _ _⟩
    case round =>
      obtain ⟨k, e, acc, hk, rfl, rfl, e0, e1, hacc, hlay, hb⟩ := hrel
      by_cases hlt : k < n1
      · have hkl : k < l.length := by have := hLEN.out; omega
        obtain ⟨b, off, rfl, hBb, hc⟩ := (h2.below hb).cells (h2.ne hlt)
        obtain ⟨b', off', rfl, hBb', hc'⟩ := (h1.below hb).cells (h1.ne hlt)
        have d0 := hc k hkl 0 (by omega)
        have d1 := hc k hkl 1 (by omega)
        have d2 := hc' k (by rw [layL_len]; exact hkl) 0 (by omega)
        have hokk := hOK.out _ (List.getElem_mem hkl)
        have hd := drop_cons hkl
        have hx : (layL l base).1[k]'(by rw [layL_len]; exact hkl) = (upS e l[k].2).1 := by
          have : (layL l base).1 = acc ++ (layL (l.drop k) e).1 := by rw [hlay]
          simp only [this, List.getElem_append_right (Nat.le_of_eq hacc), hacc, Nat.sub_self, hd, layL, List.getElem_cons_zero]
        rw [hx] at d2
        generalize l[k] = f at d0 d1 d2 hokk hd
        obtain ⟨S, A⟩ := f
        simp only [encB, encU, Nat.add_zero, Nat.mul_one, List.getElem?_cons_zero, List.getElem?_cons_succ] at d0 d1 d2
        obtain ⟨k1, k2, k3, k4⟩ := (show 0 ≤ S ∧ S ≤ 16384 ∧ 0 ≤ A ∧ A ≤ 12 from of_decide_eq_true hokk)
        have hu := up_facts e A e0 (by omega) k3 k4
        have hp := pow12 A k4
        have hx1 : (upS e A).1 = (e + (2 ^ A.toNat - 1)) / 2 ^ A.toNat * 2 ^ A.toNat := by rw [upS2 k3 k4 (by omega)]
        rw [← hx1] at hu
        have hwp : IntKind.u64.wrap (2 ^ A.toNat) = 2 ^ A.toNat := by rw [IntKind.wrap_u64]; omega
        obtain ⟨u, hU⟩ : ∃ u, u = (upS e A).1 := ⟨_, rfl⟩
        rw [← hU] at hu d2
        obtain ⟨u1, u2, u3⟩ := hu
        have hz3 : (u % 2 ^ A.toNat != 0) = false := by rw [u3]; rfl
        have HU := Lib.hid hU
        have HD := Lib.hid hd
        have HLAY := Lib.hid hlay
        have HACC := Lib.hid hacc
        clear hc hc' hx hx1 hU hd hlay hacc u3 hokk
        go_wp2_with fail
        go_quiet (fail)
        go_wp2_with fail
        go_roundw
        case rel =>
          refine ⟨k + 1, u + S, acc ++ [u], by omega, by go_num, by first | rfl | go_num, by omega, by omega, by simp [HACC.out], ?_, below_drewN hb _⟩
          rw [HLAY.out, HD.out, layL]
          simp [← HU.out]
        case measure => simp [intOf]; omega
      · have HLAY := Lib.hid hlay
        clear hlay hacc
        have hend : (layL l base).2 = e := by rw [HLAY.out, List.drop_of_length_le (by have := hLEN.out; omega)]; rfl
        go_wp2_with (go_at_call 14; refine (laid_any _).mono ?_; rintro e w' ⟨rfl, hb2⟩)
        go_ret
        exact retB_bool rfl (after (after hb1 hb) hb2)
end Go.Proofs.Ytpjidjanhonikaa
