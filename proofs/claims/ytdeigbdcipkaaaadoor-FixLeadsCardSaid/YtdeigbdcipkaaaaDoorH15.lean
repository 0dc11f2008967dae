/- The law FixLeads: plain facts, then the walk. -/
import Derived.Test.YtdeigbdcipkaaaaDoorH14
namespace Go.Proofs.YtdeigbdcipkaaaaDoor
set_option linter.unusedVariables false
set_option linter.unusedSimpArgs false
open Go.RowKit

theorem leads_near {f t : Int} (f0 : 0 ≤ f) (f1 : f < 18446744073709551616) (t0 : 0 ≤ t) (t1 : t < 18446744073709551616) : (f + wrap64 (t - f)) % 18446744073709551616 = t := by unfold wrap64; omega
theorem leads_page {f t : Int} (f0 : 0 ≤ f) (f1 : f < 18446744073709551616) (t0 : 0 ≤ t) (t1 : t < 18446744073709551616) :
    (f - f % 4096 + 4096 * (wrap64 ((t - t % 4096) - (f - f % 4096))).tdiv 4096) % 18446744073709551616 = t - t % 4096 := by
  have h4 : ∃ c, wrap64 ((t - t % 4096) - (f - f % 4096)) = 4096 * c := ⟨wrap64 ((t - t % 4096) - (f - f % 4096)) / 4096, by unfold wrap64; omega⟩
  obtain ⟨c, hc⟩ := h4
  have hd : (wrap64 ((t - t % 4096) - (f - f % 4096))).tdiv 4096 = c := by rw [hc]; exact Int.mul_tdiv_cancel_left _ (by decide)
  rw [hd, ← hc]
  unfold wrap64; omega
/-- Apply's ways. -/
theorem apply_ways (kind : Int) (D : List UInt8) (f t : Nat) (f1 : f < 18446744073709551616) (t1 : t < 18446744073709551616) :
    (∃ er, applyK kind D f t = ([], er) ∧ er ≠ 0) ∨
    (∃ S, applyK kind D f t = (S, 0) ∧ S.length = D.length ∧ ((7 ≤ kind ∧ S.length = 4 ∧ goalK kind S f = (0, 1)) ∨ (kind = 6 ∧ goalK kind S f = (((t : Int) - (t : Int) % 4096), 0)) ∨ (kind < 6 ∧ goalK kind S f = ((t : Int), 0)))) := by
  cases hc : covK kind D.length
  · exact .inl ⟨1, by unfold applyK; rw [if_pos hc], by decide⟩
  obtain ⟨c1, c9, ce, cn⟩ := cov_range hc
  by_cases h1 : kind = 1
  · right
    have hl := ce h1
    refine ⟨leB 8 t, by unfold applyK; rw [if_neg (by rw [hc]; decide), if_pos h1], by rw [leB_len, hl], .inr (.inr ⟨by omega, ?_⟩)⟩
    have h2 : ¬ (covK kind (leB 8 t).length = false ∨ 7 ≤ kind) := by
      rw [leB_len, ← hl, hc]; intro h; rcases h with h | h
      · cases h
      · omega
    unfold goalK
    rw [if_neg h2, if_pos h1, leV_leB 8 t t1]
  · have hl := cn h1
    have hx : leV D < 4294967296 := by have := leV_lt D; rw [hl] at this; exact this
    rcases word_ways kind f t (leV D) hx with ⟨er, e1, e2, -⟩ | ⟨y, e1, e2, e3, e4, e5, e6, e7⟩
    · exact .inl ⟨er, by unfold applyK; rw [if_neg (by rw [hc]; decide), if_neg h1, e1, if_pos e2], e2⟩
    · right
      refine ⟨leB 4 y, by unfold applyK; rw [if_neg (by rw [hc]; decide), if_neg h1, e1, if_neg (by simp)]; rfl, by rw [leB_len, hl], ?_⟩
      have hy : leV (leB 4 y) = y := leV_leB 4 y e2
      by_cases h7 : 7 ≤ kind
      · refine .inl ⟨h7, leB_len _ _, ?_⟩
        unfold goalK; rw [if_pos (.inr h7)]
      · have h2 : ¬ (covK kind (leB 4 y).length = false ∨ 7 ≤ kind) := by
          rw [leB_len, ← hl, hc]; intro h; rcases h with h | h
          · cases h
          · omega
        have hj : { readW y with imm := 0 } = readW (leV D) := by rw [e6]; exact set_imm _ (fits_imm0 e3)
        have hi : (readW y).imm = numK kind f t := by rw [e6]
        have hg : goalK kind (leB 4 y) f = if kind = 6 then (((f : Int) - (f : Int) % 4096 + 4096 * numK kind f t) % 18446744073709551616, 0) else (((f : Int) + numK kind f t) % 18446744073709551616, 0) := by
          unfold goalK
          rw [if_neg h2, if_neg h1, hy, e7, hj, e3, hi, if_neg (by decide)]
        by_cases h6 : kind = 6
        · refine .inr (.inl ⟨h6, ?_⟩)
          rw [hg, if_pos h6]
          congr 1
          unfold numK
          rw [if_neg (by omega), if_pos h6]
          exact leads_page (by omega) (by omega) (by omega) (by omega)
        · refine .inr (.inr ⟨by omega, ?_⟩)
          rw [hg, if_neg h6]
          congr 1
          unfold numK
          rw [if_pos (by omega)]
          exact leads_near (by omega) (by omega) (by omega) (by omega)

set_option maxRecDepth 100000 in
set_option maxHeartbeats 8000000 in
theorem FixLeads_nat (kind : Int) (D : ByteArray) (f t : Nat) (w : World) (k0 : -9223372036854775808 ≤ kind) (k1 : kind ≤ 9223372036854775807) (hD : D.size ≤ 9223372036854775807) (f1 : f < 18446744073709551616) (t1 : t < 18446744073709551616) (hw : Tab7 w) :
    Calls Tryd.prog 3 #[.int .i64 kind, .string D, .int .u64 (f : Int), .int .u64 (t : Int)] w (RetB (.bool true) w) := by
  have HT := Lib.hid hw
  have HB := Lib.hid (Below.refl w.heap.size w)
  have HF : Hid (∀ w, Tab7 w → Calls Tryd.prog 7 #[] w (RetB (.bool true) w)) := Lib.hid fun w h => fixed_any w h
  have hl : D.data.toList.length = D.size := Array.length_toList
  by_cases h40 : 40 < D.size
  · clear hw
    go_enter Tryd.func3, Tryd.ntmps3
    go_wp2
    go_ret
    exact retB_bool rfl HB.out
  have HA : Hid (∀ w, Tab7 w → Calls Tryd.prog 6 #[.int .i64 kind, .string D, .int .u64 (f : Int), .int .u64 (t : Int)] w (RetB (.tuple #[sl (applyK kind D.data.toList f t).1, .int .i64 (applyK kind D.data.toList f t).2]) w)) := Lib.hid fun w h => Apply_any kind D f t w k0 k1 hD f1 t1 h
  rcases apply_ways kind D.data.toList f t f1 t1 with ⟨er, e1, e2⟩ | ⟨S, e1, e2, e3⟩
  · rw [e1] at HA
    have q : (er != 0) = true := by rw [bne_iff_ne]; exact e2
    clear hw hl e1 e2
    go_enter Tryd.func3, Tryd.ntmps3
    go_wp2_with (first
      | (go_at_call 6; ((with_reducible refine (HA.out _ (HT.out.below HB.out)).mono ?_); rintro e w1 ⟨rfl, hb⟩; replace HB := Lib.hid (after HB.out hb); clear hb))
      | (go_at_call 7; ((with_reducible refine (HF.out _ (HT.out.below HB.out)).mono ?_); rintro e w1 ⟨rfl, hb⟩; replace HB := Lib.hid (after HB.out hb); clear hb)))
    go_ret
    exact retB_bool (by simp) HB.out
  · rw [e1] at HA
    have hS : (⟨S.toArray⟩ : ByteArray).data.toList = S := by simp
    obtain ⟨s, hs⟩ : ∃ s : ByteArray, s = ⟨S.toArray⟩ := ⟨_, rfl⟩
    have hss : s.data.toList = S := by rw [hs]
    have hsz : s.size = D.size := by rw [← hl, ← e2, ← hss, Array.length_toList]; rfl
    have HA2 : Hid (∀ w, Tab7 w → Calls Tryd.prog 6 #[.int .i64 kind, .string D, .int .u64 (f : Int), .int .u64 (t : Int)] w (RetB (.tuple #[.string s, .int .i64 0]) w)) := Lib.hid (by rw [hs]; exact HA.out)
    have HG : Hid (∀ w, Tab7 w → Calls Tryd.prog 8 #[.int .i64 kind, .string s, .int .u64 (f : Int)] w (RetB (two .u64 .i64 (goalK kind S f)) w)) := Lib.hid fun w h => by
      rw [← hss]; exact Goal_any kind s f w k0 k1 (by rw [hsz]; exact hD) (by omega) (by omega) h
    have z1 : s.size ≤ 40 := by omega
    have z2 : D.size ≤ 40 := by omega
    rcases e3 with ⟨c1, c2, c3⟩ | ⟨c1, c3⟩ | ⟨c1, c3⟩
    · rw [c3] at HG
      have hs4 : s.size = 4 := by rw [← c2, ← hss, Array.length_toList]; rfl
      have q4 : ((s.size : Int) == 4) = true := by rw [hs4]; rfl
      clear hw hl e1 e2 c2 c3 HA hs hss hS hs4 hsz
      go_enter Tryd.func3, Tryd.ntmps3
      go_wp2_with (first
        | (go_at_call 6; ((with_reducible refine (HA2.out _ (HT.out.below HB.out)).mono ?_); rintro e w1 ⟨rfl, hb⟩; replace HB := Lib.hid (after HB.out hb); clear hb))
        | (go_at_call 8; ((with_reducible refine (HG.out _ (HT.out.below HB.out)).mono ?_); rintro e w1 ⟨rfl, hb⟩; replace HB := Lib.hid (after HB.out hb); clear hb))
        | (go_at_call 7; ((with_reducible refine (HF.out _ (HT.out.below HB.out)).mono ?_); rintro e w1 ⟨rfl, hb⟩; replace HB := Lib.hid (after HB.out hb); clear hb)))
      go_ret
      exact retB_bool (by simp [*]) HB.out
    · rw [c3] at HG
      subst c1
      have hv : 0 ≤ (t : Int) - (t : Int) % 4096 ∧ (t : Int) - (t : Int) % 4096 < 18446744073709551616 := by omega
      have t2 : (0 : Int) ≤ t ∧ (t : Int) < 18446744073709551616 := by omega
      have hq : (((t : Int) - (t : Int) % 4096) == ((t : Int) - (t : Int) % 4096)) = true := by simp
      clear hw hl e1 e2 c3 HA hs hss hS hsz
      go_enter Tryd.func3, Tryd.ntmps3
      go_wp2_with (first
        | (go_at_call 6; ((with_reducible refine (HA2.out _ (HT.out.below HB.out)).mono ?_); rintro e w1 ⟨rfl, hb⟩; replace HB := Lib.hid (after HB.out hb); clear hb))
        | (go_at_call 8; ((with_reducible refine (HG.out _ (HT.out.below HB.out)).mono ?_); rintro e w1 ⟨rfl, hb⟩; replace HB := Lib.hid (after HB.out hb); clear hb))
        | (go_at_call 7; ((with_reducible refine (HF.out _ (HT.out.below HB.out)).mono ?_); rintro e w1 ⟨rfl, hb⟩; replace HB := Lib.hid (after HB.out hb); clear hb)))
      go_ret
      exact retB_bool (by simp) HB.out
    · rw [c3] at HG
      have q6 : (kind == 6) = false := by rw [beq_eq_false_iff_ne]; omega
      have qz : ((s.size : Int) == (D.size : Int)) = true := by rw [hsz]; simp
      clear hw hl e1 e2 c3 HA hs hss hS hsz
      go_enter Tryd.func3, Tryd.ntmps3
      go_wp2_with (first
        | (go_at_call 6; ((with_reducible refine (HA2.out _ (HT.out.below HB.out)).mono ?_); rintro e w1 ⟨rfl, hb⟩; replace HB := Lib.hid (after HB.out hb); clear hb))
        | (go_at_call 8; ((with_reducible refine (HG.out _ (HT.out.below HB.out)).mono ?_); rintro e w1 ⟨rfl, hb⟩; replace HB := Lib.hid (after HB.out hb); clear hb))
        | (go_at_call 7; ((with_reducible refine (HF.out _ (HT.out.below HB.out)).mono ?_); rintro e w1 ⟨rfl, hb⟩; replace HB := Lib.hid (after HB.out hb); clear hb)))
      go_ret
      exact retB_bool (by simp [*]) HB.out
theorem FixLeads_walk (kind : Int) (hk : -9223372036854775808 ≤ kind ∧ kind ≤ 9223372036854775807) (D : ByteArray) (hD : D.size ≤ maxLen) (f : Int) (hf : 0 ≤ f ∧ f < 18446744073709551616) (t : Int) (ht : 0 ≤ t ∧ t < 18446744073709551616) (w : World) (hw : Tab7 w) :
    Calls Tryd.prog 3 #[.int .i64 kind, .string D, .int .u64 f, .int .u64 t] w (RetB (.bool true) w) := by
  obtain ⟨f0, rfl⟩ := Int.eq_ofNat_of_zero_le hf.1
  obtain ⟨t0, rfl⟩ := Int.eq_ofNat_of_zero_le ht.1
  unfold maxLen at hD
  exact FixLeads_nat kind D f0 t0 w hk.1 hk.2 hD (by omega) (by omega) hw
end Go.Proofs.YtdeigbdcipkaaaaDoor
