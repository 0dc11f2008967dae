/- BitsBack returns true, for every input. -/
import Derived.Test.YtpneegmggoebhaaY4
namespace Go.Proofs.Ytpneegmggoebhaa
open Go.RowKit
set_option linter.unusedVariables false

theorem below_refl_drewN (w : World) (n : Nat) : Below w.heap.size w (w.drewN n) := below_drewN (Below.refl _ _) n
theorem wordL_lt : ∀ (l : List F3) (t : Nat) (c : Int), (∀ f ∈ l, rightB f.1 f.2.1 = true ∧ 0 ≤ f.2.2) → t < 4294967296 → wordL l t = (c, 0) → 0 ≤ c ∧ c < 4294967296 := by
  intro l
  induction l with
  | nil => intro t c _ ht h; simp only [wordL, Prod.mk.injEq, and_true] at h; omega
  | cons f r ih =>
    intro t c hr ht h
    rw [wordL] at h
    by_cases c3 : 2 ^ f.2.1.toNat ≤ f.2.2
    · rw [if_pos c3] at h; simp at h
    rw [if_neg c3] at h
    have h1 := hr f (by simp)
    have h2 : 0 ≤ f.1 ∧ f.1 < 32 ∧ 1 ≤ f.2.1 ∧ f.2.1 ≤ 32 - f.1 := by simpa [rightB] using h1.1
    have h3 := shl_int f.2.2 f.1 f.2.1 h2.1 h2.2.2.1 h2.2.2.2 h1.2 (by omega)
    exact ih _ c (fun g hg => hr g (List.mem_cons_of_mem _ hg)) (Nat.or_lt_two_pow (n := 32) ht h3.2) h

theorem wordS_cases (l : List F3) (hl : ∀ f ∈ l, 0 ≤ f.2.2) :
    (∃ c e, wordS l = (c, e) ∧ (e == 0) = false) ∨ ∃ d : Nat, wordS l = ((d : Int), 0) ∧ d < 4294967296 ∧ ∀ f ∈ l, fieldS d f.1 f.2.1 = (f.2.2, 0) := by
  unfold wordS
  cases hap : apartL l 0
  · rw [if_pos rfl]; exact .inl ⟨0, 1, rfl, rfl⟩
  · rw [if_neg (by simp)]
    have hr := apartL_right l 0 hap
    by_cases he : (wordL l 0).2 = 0
    · have e : wordL l 0 = ((wordL l 0).1, 0) := by rw [← he]
      obtain ⟨d, hd, h1, h2⟩ := word_fields l 0 0 _ hl hap e (by simp)
      have hlt : d < 4294967296 := by
        have := wordL_lt l 0 _ (fun f hf => ⟨hr f hf, hl f hf⟩) (by decide) e
        omega
      refine .inr ⟨d, by rw [e, hd], hlt, fun f hf => ?_⟩
      have := hr f hf
      rw [fieldS_ok (by simpa [rightB] using this), ← pow_cast, ← pow_cast, ← Int.natCast_ediv, ← Int.natCast_emod, h1 f hf]
      have := hl f hf
      rw [Int.toNat_of_nonneg this]
    · exact .inl ⟨_, _, rfl, by simpa using he⟩

theorem three (v s m : Int) (hv : 0 ≤ v ∧ v < 4294967296) (s1 : 1 ≤ s) (s2 : s ≤ 30) (m1 : 1 ≤ m) (m2 : m ≤ 31 - s) :
    ∃ x0 x1 x2 : Int, Hid (fieldS v 0 s = (x0, 0)) ∧ Hid (fieldS v s m = (x1, 0)) ∧ Hid (fieldS v (s + m) (32 - s - m) = (x2, 0)) ∧
      Hid (wordS [(0, s, x0), (s, m, x1), (s + m, 32 - s - m, x2)] = (v, 0) ∧ (0 ≤ x0 ∧ x0 < 4294967296) ∧ (0 ≤ x1 ∧ x1 < 4294967296) ∧ 0 ≤ x2 ∧ x2 < 4294967296) := by
  obtain ⟨w, rfl⟩ := Int.eq_ofNat_of_zero_le hv.1
  obtain ⟨a, rfl⟩ := Int.eq_ofNat_of_zero_le (show 0 ≤ s by omega)
  obtain ⟨n, rfl⟩ := Int.eq_ofNat_of_zero_le (show 0 ≤ m by omega)
  have h := three_word w a n (by omega) (by omega) (by omega) (by omega) (by omega)
  have e0 : fieldS (w : Int) 0 a = (((w % 2 ^ a : Nat) : Int), 0) := by
    rw [fieldS_ok (by omega), ← pow_cast, ← pow_cast, ← Int.natCast_ediv, ← Int.natCast_emod]; simp
  have e1 : fieldS (w : Int) a n = (((w / 2 ^ a % 2 ^ n : Nat) : Int), 0) := by
    rw [fieldS_ok (by omega), ← pow_cast, ← pow_cast, ← Int.natCast_ediv, ← Int.natCast_emod]; simp
  have e2 : fieldS (w : Int) ((a : Int) + n) (32 - a - n) = (((w / 2 ^ (a + n) % 2 ^ (32 - a - n) : Nat) : Int), 0) := by
    rw [fieldS_ok (by omega), ← pow_cast, ← pow_cast, ← Int.natCast_ediv, ← Int.natCast_emod, show ((a : Int) + n).toNat = a + n from by omega, show ((32 : Int) - a - n).toNat = 32 - a - n from by omega]
  have f1 : ((a + n : Nat) : Int) = a + n := by simp
  have f2 : ((32 - a - n : Nat) : Int) = 32 - a - n := by omega
  rw [f1, f2] at h
  have g0 : w % 2 ^ a ≤ w := Nat.mod_le _ _
  have g1 : w / 2 ^ a % 2 ^ n ≤ w := Nat.le_trans (Nat.mod_le _ _) (Nat.div_le_self _ _)
  have g2 : w / 2 ^ (a + n) % 2 ^ (32 - a - n) ≤ w := Nat.le_trans (Nat.mod_le _ _) (Nat.div_le_self _ _)
  exact ⟨_, _, _, e0, e1, e2, h, by omega, by omega, by omega⟩

theorem fs_three (w : World) (f g h : F3) (hf : 0 ≤ f.2.2 ∧ f.2.2 < 4294967296 ∧ -9223372036854775808 ≤ f.1 ∧ f.1 ≤ 9223372036854775807 ∧ -9223372036854775808 ≤ f.2.1 ∧ f.2.1 ≤ 9223372036854775807)
    (hg : 0 ≤ g.2.2 ∧ g.2.2 < 4294967296 ∧ -9223372036854775808 ≤ g.1 ∧ g.1 ≤ 9223372036854775807 ∧ -9223372036854775808 ≤ g.2.1 ∧ g.2.1 ≤ 9223372036854775807)
    (hh : 0 ≤ h.2.2 ∧ h.2.2 < 4294967296 ∧ -9223372036854775808 ≤ h.1 ∧ h.1 ≤ 9223372036854775807 ∧ -9223372036854775808 ≤ h.2.1 ∧ h.2.1 ≤ 9223372036854775807) :
    FS (w.alloc (.cells #[.int .i64 f.1, .int .i64 f.2.1, .int .u32 f.2.2, .int .i64 g.1, .int .i64 g.2.1, .int .u32 g.2.2, .int .i64 h.1, .int .i64 h.2.1, .int .u32 h.2.2] 43)) (w.heap.size + 1)
      (some ⟨w.heap.size, 0, none⟩) 3 [f, g, h] := by
  refine ⟨rfl, ?_, fun _ => ⟨w.heap.size, 0, rfl, by omega, fun k hk => ?_⟩⟩
  · intro x hx
    simp only [List.mem_cons, List.mem_nil_iff, or_false] at hx
    rcases hx with rfl | rfl | rfl
    · exact hf
    · exact hg
    · exact hh
  · have : k = 0 ∨ k = 1 ∨ k = 2 := by simp at hk; omega
    rcases this with rfl | rfl | rfl
    · refine ⟨?_, ?_, ?_⟩ <;> simp [go_sem]
    · refine ⟨?_, ?_, ?_⟩ <;> simp [go_sem]
    · refine ⟨?_, ?_, ?_⟩ <;> simp [go_sem]
theorem word3 (w : World) (s m x0 x1 x2 v : Int) (h : wordS [(0, s, x0), (s, m, x1), (s + m, 32 - s - m, x2)] = (v, 0) ∧ (0 ≤ x0 ∧ x0 < 4294967296) ∧ (0 ≤ x1 ∧ x1 < 4294967296) ∧ 0 ≤ x2 ∧ x2 < 4294967296)
    (s1 : 1 ≤ s) (s2 : s ≤ 30) (m1 : 1 ≤ m) (m2 : m ≤ 31 - s) :
    Calls Try.prog 12 #[.slice (some ⟨w.heap.size, 0, none⟩) 3 3] (w.alloc (.cells #[.int .i64 0, .int .i64 s, .int .u32 x0, .int .i64 s, .int .i64 m, .int .u32 x1, .int .i64 (s + m), .int .i64 (32 - s - m), .int .u32 x2] 43))
      (RetB (.tuple #[.int .u32 v, .int .i64 0]) (w.alloc (.cells #[.int .i64 0, .int .i64 s, .int .u32 x0, .int .i64 s, .int .i64 m, .int .u32 x1, .int .i64 (s + m), .int .i64 (32 - s - m), .int .u32 x2] 43))) := by
  have hs : (w.alloc (.cells #[.int .i64 0, .int .i64 s, .int .u32 x0, .int .i64 s, .int .i64 m, .int .u32 x1, .int .i64 (s + m), .int .i64 (32 - s - m), .int .u32 x2] 43)).heap.size = w.heap.size + 1 := by simp
  have h0 := fs_three w (0, s, x0) (s, m, x1) (s + m, 32 - s - m, x2) (by simp only []; omega) (by simp only []; omega) (by simp only []; omega)
  have := word_any _ 3 3 [(0, s, x0), (s, m, x1), (s + m, 32 - s - m, x2)] _ (by decide) (hs ▸ h0)
  rw [h.1] at this
  exact this
theorem after3 {w wr w3 w4 : World} {n : Nat} {o : Obj} (hb : Below w.heap.size w wr) (hb3 : Below ((wr.drewN n).alloc o).heap.size ((wr.drewN n).alloc o) w3) (hb4 : Below w3.heap.size w3 w4) :
    Below w.heap.size w w4 := by
  have h1 := (below_drewN hb n).alloc hb.size o
  have h2 := h1.trans (hb3.mono h1.size)
  exact h2.trans (hb4.mono h2.size)

set_option maxRecDepth 100000 in
set_option maxHeartbeats 1600000 in
theorem BitsBack_walk (w : World) (a : Option Addr) (n c : Nat) (l : List F3) (hm0 : n ≤ maxLen) (h : FS w w.heap.size a n l)
    (v : Int) (hv : 0 ≤ v ∧ v < 4294967296) (s : Int) (hs : -9223372036854775808 ≤ s ∧ s ≤ 9223372036854775807) (m : Int) (hm : -9223372036854775808 ≤ m ∧ m ≤ 9223372036854775807) :
    Calls Try.prog 6 #[.slice a n c, .int .u32 v, .int .i64 s, .int .i64 m] w (RetB (.bool true) w) := by
  have hn : n ≤ 9223372036854775807 := by unfold maxLen at hm0; omega
  clear hm0
  by_cases hn40 : 40 < n
  · go_enter Try.func6, Try.ntmps6
    go_wp2_with fail
    go_ret
    exact retB_bool rfl (Below.refl _ _)
  have HW := word_any a n c l w (by omega) h
  rcases wordS_cases l (fun f hf => (h.wf f hf).1) with ⟨x, e, hwe, he⟩ | ⟨d, hwe, hd, hf⟩
  · rw [hwe] at HW
    have HX := Lib.hid HW
    clear hwe HW
    by_cases hin : 1 ≤ s ∧ s ≤ 30 ∧ 1 ≤ m ∧ m ≤ 31 - s
    · obtain ⟨s1, s2, m1, m2⟩ := hin
      obtain ⟨x0, x1, x2, HF0, HF1, HF2, HF3⟩ := three v s m hv s1 s2 m1 m2
      go_enter Try.func6, Try.ntmps6
      go_wp2_with (go_at_call 12; refine (HX.out).mono ?_; rintro e w' ⟨rfl, hb⟩)
      go_loopw [11] (fun i wr => ∃ k : Nat, k ≤ n ∧ i = .int .i64 k ∧ Below w.heap.size w wr) (fun i _ => n - (intOf i).toNat)
      case atStart => exact ⟨0, by omega, rfl, hb⟩
      case round =>
        clear hb
        obtain ⟨k, hk, rfl, hb⟩ := hrel
        by_cases hlt : k < n
        · go_wp2_with fail
          refine (field_eq v 0 s _ x0 0 hv HF0.out).mono ?_
          rintro e w' ⟨rfl, n1, rfl⟩
          go_wp2_with fail
          refine (field_eq v s m _ x1 0 hv HF1.out).mono ?_
          rintro e w' ⟨rfl, n2, rfl⟩
          go_wp2_with fail
          refine (field_eq v (s + m) (32 - s - m) _ x2 0 hv HF2.out).mono ?_
          rintro e w' ⟨rfl, n3, rfl⟩
          go_wp2_with fail
          refine (word3 (wr.drewN (n1 + n2 + n3)) s m x0 x1 x2 v HF3.out s1 s2 m1 m2).mono ?_
          rintro e w3 ⟨rfl, hb3⟩
          go_wp2_with fail
          refine (told_any _).mono ?_
          rintro e w4 ⟨rfl, hb4⟩
          go_wp2_with fail
          go_ret
          exact retB_bool rfl (after3 hb hb3 hb4)
        · go_wp2_with fail
          refine (field_eq v 0 s _ x0 0 hv HF0.out).mono ?_
          rintro e w' ⟨rfl, n1, rfl⟩
          go_wp2_with fail
          refine (field_eq v s m _ x1 0 hv HF1.out).mono ?_
          rintro e w' ⟨rfl, n2, rfl⟩
          go_wp2_with fail
          refine (field_eq v (s + m) (32 - s - m) _ x2 0 hv HF2.out).mono ?_
          rintro e w' ⟨rfl, n3, rfl⟩
          go_wp2_with fail
          refine (word3 (wr.drewN (n1 + n2 + n3)) s m x0 x1 x2 v HF3.out s1 s2 m1 m2).mono ?_
          rintro e w3 ⟨rfl, hb3⟩
          go_wp2_with fail
          refine (told_any _).mono ?_
          rintro e w4 ⟨rfl, hb4⟩
          go_wp2_with fail
          go_ret
          exact retB_bool rfl (after3 hb hb3 hb4)
    · go_enter Try.func6, Try.ntmps6
      go_wp2_with (go_at_call 12; refine (HX.out).mono ?_; rintro e w' ⟨rfl, hb⟩)
      go_loopw [11] (fun i wr => ∃ k : Nat, k ≤ n ∧ i = .int .i64 k ∧ Below w.heap.size w wr) (fun i _ => n - (intOf i).toNat)
      case atStart => exact ⟨0, by omega, rfl, hb⟩
      case round =>
        clear hb
        obtain ⟨k, hk, rfl, hb⟩ := hrel
        by_cases hlt : k < n
        · go_wp2_with (go_at_call 14; refine (told_any _).mono ?_; rintro e w' ⟨rfl, hb1⟩)
          all_goals (go_ret; exact retB_bool rfl (hb.trans (hb1.mono hb.size)))
        · go_wp2_with (go_at_call 14; refine (told_any _).mono ?_; rintro e w' ⟨rfl, hb1⟩)
          all_goals (go_ret; exact retB_bool rfl (hb.trans (hb1.mono hb.size)))
  · rw [hwe] at HW
    have HX := Lib.hid HW
    have hf := Lib.hid hf
    clear hwe HW
    by_cases hin : 1 ≤ s ∧ s ≤ 30 ∧ 1 ≤ m ∧ m ≤ 31 - s
    · obtain ⟨s1, s2, m1, m2⟩ := hin
      obtain ⟨x0, x1, x2, HF0, HF1, HF2, HF3⟩ := three v s m hv s1 s2 m1 m2
      go_enter Try.func6, Try.ntmps6
      go_wp2_with (go_at_call 12; refine (HX.out).mono ?_; rintro e w' ⟨rfl, hb⟩)
      go_loopw [11] (fun i wr => ∃ k : Nat, k ≤ n ∧ i = .int .i64 k ∧ Below w.heap.size w wr) (fun i _ => n - (intOf i).toNat)
      case atStart => exact ⟨0, by omega, rfl, hb⟩
      case round =>
        clear hb
        obtain ⟨k, hk, rfl, hb⟩ := hrel
        by_cases hlt : k < n
        · obtain ⟨b, off, rfl, hB, hc⟩ := (h.below hb).cells (by intro e; have := h.len; rw [e] at this; simp at this; omega)
          have hlen := h.len
          have hkl : k < l.length := by omega
          obtain ⟨c0, c1, c2⟩ := hc k hkl
          have hfk := hf.out l[k] (List.getElem_mem _)
          generalize l[k] = f at c0 c1 c2 hfk
          obtain ⟨A, N, V⟩ := f
          have hfk := Lib.hid hfk
          clear hc hlen h
          go_wp2_with fail
          go_quiet ((go_at_call 10; exact Calls.quiet_of (field_eq d A N _ V 0 (by omega) hfk.out)))
          go_wp2_with fail
          go_roundw
          case rel => exact ⟨k + 1, by omega, by go_num, below_drewN hb _⟩
          case measure => simp [intOf]; omega
        · go_wp2_with fail
          refine (field_eq v 0 s _ x0 0 hv HF0.out).mono ?_
          rintro e w' ⟨rfl, n1, rfl⟩
          go_wp2_with fail
          refine (field_eq v s m _ x1 0 hv HF1.out).mono ?_
          rintro e w' ⟨rfl, n2, rfl⟩
          go_wp2_with fail
          refine (field_eq v (s + m) (32 - s - m) _ x2 0 hv HF2.out).mono ?_
          rintro e w' ⟨rfl, n3, rfl⟩
          go_wp2_with fail
          refine (word3 (wr.drewN (n1 + n2 + n3)) s m x0 x1 x2 v HF3.out s1 s2 m1 m2).mono ?_
          rintro e w3 ⟨rfl, hb3⟩
          go_wp2_with fail
          refine (told_any _).mono ?_
          rintro e w4 ⟨rfl, hb4⟩
          go_wp2_with fail
          go_ret
          exact retB_bool rfl (after3 hb hb3 hb4)
    · go_enter Try.func6, Try.ntmps6
      go_wp2_with (go_at_call 12; refine (HX.out).mono ?_; rintro e w' ⟨rfl, hb⟩)
      go_loopw [11] (fun i wr => ∃ k : Nat, k ≤ n ∧ i = .int .i64 k ∧ Below w.heap.size w wr) (fun i _ => n - (intOf i).toNat)
      case atStart => exact ⟨0, by omega, rfl, hb⟩
      case round =>
        clear hb
        obtain ⟨k, hk, rfl, hb⟩ := hrel
        by_cases hlt : k < n
        · obtain ⟨b, off, rfl, hB, hc⟩ := (h.below hb).cells (by intro e; have := h.len; rw [e] at this; simp at this; omega)
          have hlen := h.len
          have hkl : k < l.length := by omega
          obtain ⟨c0, c1, c2⟩ := hc k hkl
          have hfk := hf.out l[k] (List.getElem_mem _)
          generalize l[k] = f at c0 c1 c2 hfk
          obtain ⟨A, N, V⟩ := f
          have hfk := Lib.hid hfk
          clear hc hlen h
          go_wp2_with fail
          go_quiet ((go_at_call 10; exact Calls.quiet_of (field_eq d A N _ V 0 (by omega) hfk.out)))
          go_wp2_with fail
          go_roundw
          case rel => exact ⟨k + 1, by omega, by go_num, below_drewN hb _⟩
          case measure => simp [intOf]; omega
        · go_wp2_with (go_at_call 14; refine (told_any _).mono ?_; rintro e w' ⟨rfl, hb1⟩)
          all_goals (go_ret; exact retB_bool rfl (hb.trans (hb1.mono hb.size)))
end Go.Proofs.Ytpneegmggoebhaa
