/- The law PoolFull. -/
import Derived.Test.YtbicmnbmkaffeaaPQA
import Derived.Test.YtbicmnbmkaffeaaL
namespace Go.Proofs.Ytbicmnbmkaffeaa
set_option linter.unusedVariables false
set_option linter.unusedSimpArgs false
open Go.ChangeShapes Go.WideShapes Go.Deep Go.RowKit

def lk (k : Nat) : Lt := ⟨⟨#[]⟩, 0, 1000 + (k : Int)⟩
def fullL (k : Nat) : List Lt := (List.range k).map lk
theorem lk_inj {a b : Nat} (h : lk a = lk b) : a = b := by unfold lk at h; injection h with _ _ h; omega
theorem fullL_len (k : Nat) : (fullL k).length = k := by simp [fullL]
theorem fullL_succ (k : Nat) : fullL (k + 1) = fullL k ++ [lk k] := by simp [fullL, List.range_succ]
theorem fullL_mem {k : Nat} {x : Lt} (h : x ∈ fullL k) : ∃ i, i < k ∧ x = lk i := by
  obtain ⟨i, hi, rfl⟩ := List.mem_map.1 h
  exact ⟨i, List.mem_range.1 hi, rfl⟩
theorem fullL_good (k : Nat) (hk : k ≤ 64) : ∀ y ∈ fullL k, GoodL y := by
  intro y hy
  obtain ⟨i, hi, rfl⟩ := fullL_mem hy
  exact ⟨by simp only [lk]; decide, by simp [lk], by simp only [lk]; omega⟩
theorem fullL_nodup (k : Nat) : (fullL k).Nodup := by
  unfold fullL
  refine List.pairwise_map.2 (List.Pairwise.imp (fun {a b} h => fun e => h (lk_inj e)) List.nodup_range)
theorem ofL_lk (k : Nat) : ofL ⟨10, ⟨#[]⟩, 0, false, 1000 + (k : Int)⟩ = (lk k, 0) := by simp [ofL, lk]
theorem full_put {w : World} {base p : Nat} (k : Nat) (hk : k < 64) (h : PS w base p (fullL k)) :
    Calls Try.prog 13 #[.pointer (some ⟨p, 0, none⟩), .agg #[.int .i64 10, .string ⟨#[]⟩, .int .i64 0, .bool false, .int .u64 (1000 + (k : Int))]] w (PutP base p (fullL (k + 1)) (k, 0) w) := by
  have := Put_new h (fullL_good k (by omega)) (fullL_nodup k) ⟨10, ⟨#[]⟩, 0, false, 1000 + (k : Int)⟩ ⟨by simp, by simp only []; decide, by simp, by simp only []; omega⟩ (by rw [ofL_lk])
    (by rw [ofL_lk]; intro hm; obtain ⟨i, hi, e⟩ := fullL_mem hm; have := lk_inj e; omega) (by rw [fullL_len]; exact hk)
  rw [ofL_lk, fullL_len] at this
  rw [fullL_succ]; exact this
theorem full_old {w : World} {base p : Nat} (k : Nat) (hk : k < 64) (h : PS w base p (fullL 64)) :
    Calls Try.prog 13 #[.pointer (some ⟨p, 0, none⟩), .agg #[.int .i64 10, .string ⟨#[]⟩, .int .i64 0, .bool false, .int .u64 (1000 + (k : Int))]] w (PutP base p (fullL 64) (k, 0) w) :=
  Put_old h (fullL_good 64 (by omega)) (fullL_nodup 64) ⟨10, ⟨#[]⟩, 0, false, 1000 + (k : Int)⟩ ⟨by simp, by simp only []; decide, by simp, by simp only []; omega⟩ (by rw [ofL_lk]) k (by rw [ofL_lk]; simp [fullL, hk])
theorem full_full {w : World} {base p : Nat} (h : PS w base p (fullL 64)) :
    Calls Try.prog 13 #[.pointer (some ⟨p, 0, none⟩), ndV pn4] w (PutP base p (fullL 64) (0, 2) w) :=
  Put_full h (fullL_good 64 (by omega)) (fullL_nodup 64) pn4 gn4 (by rw [po4])
    (by rw [po4]; intro hm; obtain ⟨i, hi, e⟩ := fullL_mem hm; unfold lk at e; injection e with e; exact e97 e) (fullL_len 64)

set_option maxRecDepth 100000 in
set_option maxHeartbeats 4000000 in
theorem PoolFull_walk (n : Int) (hn : -9223372036854775808 ≤ n ∧ n ≤ 9223372036854775807) (w : World) : Calls Try.prog 5 #[.int .i64 n] w (RetB (.bool true) w) := by
  obtain ⟨n0, n1⟩ := hn
  have HK : Hid (∀ w, Calls Try.prog 15 #[] w (RetB (.bool true) w)) := Lib.hid fun w => pooled_any w
  by_cases h : n < 0
  · go_enter Try.func5, Try.ntmps5
    go_wp2_with (go_at_call 15; ((with_reducible refine (HK.out _).mono ?_); rintro e w1 ⟨rfl, hb⟩; have HB := Lib.hid hb; clear hb))
    go_ret
    exact retB_bool rfl HB.out
  by_cases h2 : 63 < n
  · go_enter Try.func5, Try.ntmps5
    go_wp2_with (go_at_call 15; ((with_reducible refine (HK.out _).mono ?_); rintro e w1 ⟨rfl, hb⟩; have HB := Lib.hid hb; clear hb))
    go_ret
    exact retB_bool rfl HB.out
  obtain ⟨m, rfl⟩ := Int.eq_ofNat_of_zero_le (show 0 ≤ n by omega)
  have hm : m < 64 := by omega
  obtain ⟨p, hp⟩ : ∃ p, p = w.heap.size := ⟨_, rfl⟩
  have HN := Lib.hid (New_any w)
  have HPE := Lib.hid hp
  clear hp
  go_enter Try.func5, Try.ntmps5
  go_wp2_with fail
  refine HN.out.mono ?_
  rintro e w1 ⟨rfl, h1, hb1⟩
  rw [← HPE.out] at h1 ⊢
  have HP := Lib.hid h1
  have HB := Lib.hid hb1
  clear h1 hb1 HN
  go_wp2
  go_loopw [4] (fun i wr => ∃ k : Nat, k ≤ 64 ∧ i = .int .i64 k ∧ PS wr p p (fullL k) ∧ Below w.heap.size w wr) (fun i _ => 64 - (intOf i).toNat)
  case atStart => exact ⟨0, by omega, rfl, HP.out, HB.out⟩
  case round =>
    obtain ⟨k, hk, rfl, hps, hbw⟩ := hrel
    replace HP := Lib.hid hps
    replace HB := Lib.hid hbw
    clear hps hbw
    by_cases hlt : k < 64
    · go_wp2_with fail
      refine (full_put k hlt HP.out).mono ?_
      rintro e w2 ⟨rfl, h2, hb2, -⟩
      replace HP := Lib.hid h2
      replace HB := Lib.hid (HB.out.trans (hb2.mono (by rw [HPE.out]; exact Nat.le_refl _)))
      clear h2 hb2
      go_wp2
      go_roundw
      case rel => exact ⟨k + 1, by omega, by go_num, HP.out, HB.out⟩
      case measure => simp [intOf]; omega
    · obtain rfl : k = 64 := by omega
      go_wp2_with fail
      refine (full_full HP.out).mono ?_
      rintro e w2 ⟨rfl, h2, hb2, -⟩
      replace HP := Lib.hid h2
      replace HB := Lib.hid (HB.out.trans (hb2.mono (by rw [HPE.out]; exact Nat.le_refl _)))
      clear h2 hb2
      go_wp2_with fail
      refine (full_old m hm HP.out).mono ?_
      rintro e w3 ⟨rfl, h2, hb2, -⟩
      replace HP := Lib.hid h2
      replace HB := Lib.hid (HB.out.trans (hb2.mono (by rw [HPE.out]; exact Nat.le_refl _)))
      clear h2 hb2
      go_wp2_with (first
        | (go_at_call 15; ((with_reducible refine (HK.out _).mono ?_); rintro e w4 ⟨rfl, hb⟩; replace HP := Lib.hid (HP.out.below hb); replace HB := Lib.hid (after HB.out hb); clear hb))
        | (go_at_call 17; ((with_reducible refine ((Size_any HP.out)).mono ?_); rintro e w' ⟨rfl, rfl⟩)))
      go_ret
      exact retB_bool (by simp [fullL_len]) HB.out
end Go.Proofs.Ytbicmnbmkaffeaa
