/- The laws FixMoved, FixOnly, FixLeads: plain facts, then the walks. -/
import Derived.Test.YtdeigbdcipkaaaaDoorHC
namespace Go.Proofs.YtdeigbdcipkaaaaDoor
set_option linter.unusedVariables false
set_option linter.unusedSimpArgs false
open Go.RowKit

theorem numK_moved {kind f t b : Int} (h2 : 2 ≤ kind) (h6 : kind ≤ 6) (hb : kind = 6 → b % 4096 = 0) (f0 : 0 ≤ f) (f1 : f < 18446744073709551616) (t0 : 0 ≤ t) (t1 : t < 18446744073709551616) :
    numK kind ((f + b) % 18446744073709551616) ((t + b) % 18446744073709551616) = numK kind f t := by
  unfold numK
  by_cases h5 : kind ≤ 5
  · rw [if_pos h5, if_pos h5]
    unfold wrap64; omega
  · have e : kind = 6 := by omega
    have hb4 := hb e
    rw [if_neg h5, if_neg h5, if_pos e, if_pos e]
    congr 1
    obtain ⟨c, rfl⟩ : ∃ c, b = 4096 * c := ⟨b / 4096, by omega⟩
    have e1 : (t + 4096 * c) % 18446744073709551616 % 4096 = t % 4096 := by omega
    have e2 : (f + 4096 * c) % 18446744073709551616 % 4096 = f % 4096 := by omega
    rw [e1, e2]
    unfold wrap64; omega
theorem valK_moved {kind f t b : Int} (h2 : 2 ≤ kind) (h6 : kind ≤ 6) (hb : kind = 6 → b % 4096 = 0) (f0 : 0 ≤ f) (f1 : f < 18446744073709551616) (t0 : 0 ≤ t) (t1 : t < 18446744073709551616) :
    valK kind ((f + b) % 18446744073709551616) ((t + b) % 18446744073709551616) = valK kind f t := by
  unfold valK
  have a1 : ¬ (kind < 1 ∨ 9 < kind) := by omega
  have a2 : ¬ kind = 1 := by omega
  rw [numK_moved h2 h6 hb f0 f1 t0 t1]
  simp only [a1, a2, if_false]

set_option maxRecDepth 100000 in
set_option maxHeartbeats 8000000 in
theorem FixMoved_walk (kind : Int) (hk : -9223372036854775808 ≤ kind ∧ kind ≤ 9223372036854775807) (f : Int) (hf : 0 ≤ f ∧ f < 18446744073709551616) (t : Int) (ht : 0 ≤ t ∧ t < 18446744073709551616) (b : Int) (hb : 0 ≤ b ∧ b < 18446744073709551616) (w : World) (hw : Tab7 w) :
    Calls Tryd.prog 5 #[.int .i64 kind, .int .u64 f, .int .u64 t, .int .u64 b] w (RetB (.bool true) w) := by
  have HT := Lib.hid hw
  have HB := Lib.hid (Below.refl w.heap.size w)
  have HF : Hid (∀ w, Tab7 w → Calls Tryd.prog 7 #[] w (RetB (.bool true) w)) := Lib.hid fun w h => fixed_any w h
  obtain ⟨k0, k1⟩ := hk
  obtain ⟨f0, f1⟩ := hf
  obtain ⟨t0, t1⟩ := ht
  obtain ⟨b0, b1⟩ := hb
  by_cases h : kind < 2
  · clear hw
    go_enter Tryd.func5, Tryd.ntmps5
    go_wp2_with (go_at_call 7; ((with_reducible refine (HF.out _ (HT.out.below HB.out)).mono ?_); rintro e w1 ⟨rfl, hb⟩; replace HB := Lib.hid (after HB.out hb); clear hb))
    go_ret
    exact retB_bool rfl HB.out
  by_cases h6 : 6 < kind
  · clear hw
    go_enter Tryd.func5, Tryd.ntmps5
    go_wp2_with (go_at_call 7; ((with_reducible refine (HF.out _ (HT.out.below HB.out)).mono ?_); rintro e w1 ⟨rfl, hb⟩; replace HB := Lib.hid (after HB.out hb); clear hb))
    go_ret
    exact retB_bool rfl HB.out
  have HV : Hid (∀ w, Calls Tryd.prog 10 #[.int .i64 kind, .int .u64 f, .int .u64 t] w (RetB (two .u64 .i64 (valK kind f t)) w)) := Lib.hid fun w => Value_any kind f t w k0 k1 f0 f1 t0 t1
  have HM : ∀ b : Int, 0 ≤ b → (kind = 6 → b % 4096 = 0) → Hid (∀ w, Calls Tryd.prog 10 #[.int .i64 kind, .int .u64 (IntKind.u64.wrap (f + b)), .int .u64 (IntKind.u64.wrap (t + b))] w (RetB (two .u64 .i64 (valK kind f t)) w)) := fun b hb0 hb => Lib.hid fun w => by
    have := Value_any kind ((f + b) % 18446744073709551616) ((t + b) % 18446744073709551616) w k0 k1 (by omega) (by omega) (by omega) (by omega)
    rw [valK_moved (by omega) (by omega) hb f0 f1 t0 t1] at this
    rwa [IntKind.wrap_u64, IntKind.wrap_u64]
  by_cases he : kind = 6
  · have HM2 := HM (b - b % 4096) (by omega) (fun _ => by omega)
    clear HM hw
    subst he
    generalize valK 6 f t = v at *
    obtain ⟨v1, v2⟩ := v
    have hb4 : 0 ≤ b - b % 4096 ∧ b - b % 4096 < 18446744073709551616 := by omega
    go_enter Tryd.func5, Tryd.ntmps5
    go_wp2_with (first
      | (go_at_call 10; ((with_reducible refine (HV.out _).mono ?_); rintro e w1 ⟨rfl, hb⟩; replace HB := Lib.hid (after HB.out hb); clear hb))
      | (go_at_call 10; ((with_reducible refine (HM2.out _).mono ?_); rintro e w1 ⟨rfl, hb⟩; replace HB := Lib.hid (after HB.out hb); clear hb))
      | (go_at_call 7; ((with_reducible refine (HF.out _ (HT.out.below HB.out)).mono ?_); rintro e w1 ⟨rfl, hb⟩; replace HB := Lib.hid (after HB.out hb); clear hb)))
    go_ret
    exact retB_bool (by simp) HB.out
  · have HM2 := HM b b0 (fun e => (he e).elim)
    have q : (kind == 6) = false := by rw [beq_eq_false_iff_ne]; exact he
    clear HM hw he
    generalize valK kind f t = v at *
    obtain ⟨v1, v2⟩ := v
    go_enter Tryd.func5, Tryd.ntmps5
    go_wp2_with (first
      | (go_at_call 10; ((with_reducible refine (HV.out _).mono ?_); rintro e w1 ⟨rfl, hb⟩; replace HB := Lib.hid (after HB.out hb); clear hb))
      | (go_at_call 10; ((with_reducible refine (HM2.out _).mono ?_); rintro e w1 ⟨rfl, hb⟩; replace HB := Lib.hid (after HB.out hb); clear hb))
      | (go_at_call 7; ((with_reducible refine (HF.out _ (HT.out.below HB.out)).mono ?_); rintro e w1 ⟨rfl, hb⟩; replace HB := Lib.hid (after HB.out hb); clear hb)))
    go_ret
    exact retB_bool (by simp) HB.out
end Go.Proofs.YtdeigbdcipkaaaaDoor
