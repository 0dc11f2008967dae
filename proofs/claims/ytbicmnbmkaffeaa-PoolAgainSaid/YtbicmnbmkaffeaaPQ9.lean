/- pool.Value; the reference's Number. -/
import Derived.Test.YtbicmnbmkaffeaaPQ8
import Derived.Test.YtbicmnbmkaffeaaHB
import Derived.Laws.BytesArg
namespace Go.Proofs.Ytbicmnbmkaffeaa
set_option linter.unusedVariables false
set_option linter.unusedSimpArgs false
open Go.ChangeShapes Go.WideShapes Go.Deep Go.RowKit

def valL (x : Lt) : List UInt8 × Int := if (x.sym ≠ ⟨#[]⟩ ∧ x.v ≠ 0) ∨ (x.sym = ⟨#[]⟩ ∧ x.add ≠ 0) then ([], 1) else (leB 8 x.v.toNat, 0)
abbrev outS (p : List UInt8 × Int) : Value := .tuple #[.string ⟨p.1.toArray⟩, .int .i64 p.2]
set_option maxRecDepth 100000 in
set_option maxHeartbeats 4000000 in
theorem value_num (v : Nat) (w : World) (hv : v < 18446744073709551616) : Calls Try.prog 18 #[.agg #[.string ⟨#[]⟩, .int .i64 0, .int .u64 (v : Int)]] w (RetB (outS (leB 8 v, 0)) w) := by
  have HS : Hid (strOfNums [(v : Int) % 256, (v : Int) / 256 % 256, (v : Int) / 65536 % 256, (v : Int) / 16777216 % 256, (v : Int) / 4294967296 % 256, (v : Int) / 1099511627776 % 256, (v : Int) / 281474976710656 % 256, (v : Int) / 72057594037927936] = ⟨(leB 8 v).toArray⟩) := Lib.hid (strN8 v hv)
  have hcv := run_convert_bytes_arg (P := Try.prog) ((w.alloc (.cells #[.string ⟨#[]⟩, .int .i64 0, .int .u64 (v : Int)] 31)).alloc (.cells #[.int .u8 ((v : Int) % 256), .int .u8 ((v : Int) / 256 % 256), .int .u8 ((v : Int) / 65536 % 256), .int .u8 ((v : Int) / 16777216 % 256), .int .u8 ((v : Int) / 4294967296 % 256), .int .u8 ((v : Int) / 1099511627776 % 256), .int .u8 ((v : Int) / 281474976710656 % 256), .int .u8 ((v : Int) / 72057594037927936)] 69)) 70 5 Try.underlying70 Try.underlying5 (w.heap.size + 1) 0 8 8 [(v : Int) % 256, (v : Int) / 256 % 256, (v : Int) / 65536 % 256, (v : Int) / 16777216 % 256, (v : Int) / 4294967296 % 256, (v : Int) / 1099511627776 % 256, (v : Int) / 281474976710656 % 256, (v : Int) / 72057594037927936] rfl (fun i hi => by
    have e : (w.alloc (.cells #[.string ⟨#[]⟩, .int .i64 0, .int .u64 (v : Int)] 31)).heap.size = w.heap.size + 1 := by simp
    rw [← e, World.cell?_alloc_mark, Nat.zero_add]
    have hc : i = 0 ∨ i = 1 ∨ i = 2 ∨ i = 3 ∨ i = 4 ∨ i = 5 ∨ i = 6 ∨ i = 7 := by omega
    rcases hc with rfl | rfl | rfl | rfl | rfl | rfl | rfl | rfl <;> rfl) 9 Try.underlying9
  generalize strOfNums [(v : Int) % 256, (v : Int) / 256 % 256, (v : Int) / 65536 % 256, (v : Int) / 16777216 % 256, (v : Int) / 4294967296 % 256, (v : Int) / 1099511627776 % 256, (v : Int) / 281474976710656 % 256, (v : Int) / 72057594037927936] = out at *
  go_enter Try.func18, Try.ntmps18
  go_wp2
  refine wp_loop_rounds 9 ?_
  rw [rounds_succ]
  go_wp2
  iterate 8 (rw [rounds_succ]; go_wp2)
  go_ret2
  rw [HS.out]
  exact ⟨rfl, ((Below.refl _ _).alloc (Nat.le_refl _) _).alloc (by simp) _⟩
set_option maxRecDepth 100000 in
set_option maxHeartbeats 4000000 in
theorem value_sym (s : ByteArray) (d : Int) (w : World) (hs : s ≠ ⟨#[]⟩) : Calls Try.prog 18 #[.agg #[.string s, .int .i64 d, .int .u64 0]] w (RetB (outS (leB 8 0, 0)) w) := by
  have HS : Hid (strOfNums [0, 0, 0, 0, 0, 0, 0, 0] = ⟨(leB 8 0).toArray⟩) := Lib.hid (strN8 0 (by decide))
  have hcv := run_convert_bytes_arg (P := Try.prog) ((w.alloc (.cells #[.string s, .int .i64 d, .int .u64 0] 31)).alloc (.cells #[.int .u8 (0), .int .u8 (0), .int .u8 (0), .int .u8 (0), .int .u8 (0), .int .u8 (0), .int .u8 (0), .int .u8 (0)] 69)) 70 5 Try.underlying70 Try.underlying5 (w.heap.size + 1) 0 8 8 [0, 0, 0, 0, 0, 0, 0, 0] rfl (fun i hi => by
    have e : (w.alloc (.cells #[.string s, .int .i64 d, .int .u64 0] 31)).heap.size = w.heap.size + 1 := by simp
    rw [← e, World.cell?_alloc_mark, Nat.zero_add]
    have hc : i = 0 ∨ i = 1 ∨ i = 2 ∨ i = 3 ∨ i = 4 ∨ i = 5 ∨ i = 6 ∨ i = 7 := by omega
    rcases hc with rfl | rfl | rfl | rfl | rfl | rfl | rfl | rfl <;> rfl) 9 Try.underlying9
  generalize strOfNums [0, 0, 0, 0, 0, 0, 0, 0] = out at *
  have hl : s.toList.isEmpty = false := by
    rw [Lib.toList_data]; refine List.isEmpty_eq_false_iff.2 fun e => hs ?_
    cases s; congr 1; exact Array.toList_inj.1 e
  clear hs
  go_enter Try.func18, Try.ntmps18
  go_wp2
  refine wp_loop_rounds 9 ?_
  rw [rounds_succ]
  go_wp2
  iterate 8 (rw [rounds_succ]; go_wp2)
  go_ret2
  rw [HS.out]
  exact ⟨rfl, ((Below.refl _ _).alloc (Nat.le_refl _) _).alloc (by simp) _⟩
theorem Value_any (x : Lt) (w : World) (hx : GoodL x) (h1 : x.sym ≠ ⟨#[]⟩ → x.v = 0) (h2 : x.sym = ⟨#[]⟩ → x.add = 0) : Calls Try.prog 18 #[litV x] w (RetB (outS (leB 8 x.v.toNat, 0)) w) := by
  obtain ⟨s, d, v⟩ := x
  have hv := hx.v
  simp only [] at hv h1 h2
  by_cases hs : s = ⟨#[]⟩
  · obtain rfl := h2 hs
    subst hs
    obtain ⟨k, rfl⟩ := Int.eq_ofNat_of_zero_le hv.1
    exact value_num k w (by omega)
  · obtain rfl := h1 hs
    exact value_sym s d w hs
set_option maxHeartbeats 400000 in
theorem Power_any (n : Int) (w : World) (h : n ≤ 63) :
    Calls Try.prog 36 #[.int .i64 n] w (Ret (.int .u64 (2 ^ n.toNat)) w) := by
  go_enter Try.func36, Try.ntmps36
  go_wp2
  go_loop [3, 4] (fun p i => ∃ k : Nat, k ≤ n.toNat ∧ i = .int .i64 k ∧ p = .int .u64 (2 ^ k)) (fun _ i => n.toNat - (intOf i).toNat)
  case atStart => exact ⟨0, Nat.zero_le _, rfl, rfl⟩
  case round =>
    obtain ⟨k, hk, rfl, rfl⟩ := hrel
    by_cases hlt : (k : Int) < n
    · have hp := pow_le (k + 1) 63 (by omega) 9223372036854775808 (by decide)
      have e : IntKind.u64.wrap (2 * 2 ^ k) = 2 ^ (k + 1) := by
        rw [Int.pow_succ] at hp ⊢
        rw [IntKind.wrap_u64]; omega
      have E := Lib.hid e
      clear e hp
      go_wp2
      go_round
      case rel => exact ⟨k + 1, by omega, by go_num, by rw [E.out]⟩
      case measure => simp [intOf]; omega
    · go_wp2
      go_ret
      exact ret_int (by rw [show n.toNat = k from by omega])
theorem add_byte (u b k : Nat) (hu : u < 256 ^ k) (hb : b < 256) (hk : k ≤ 7) :
    IntKind.u64.wrap ((u : Int) + IntKind.u64.wrap (IntKind.u64.wrap (b : Int) * 2 ^ (8 * k))) = ((u + b * 256 ^ k : Nat) : Int) := by
  have h1 : (256 : Nat) ^ k ≤ 256 ^ 7 := Nat.pow_le_pow_right (by decide) hk
  have h2 : b * 256 ^ k ≤ 255 * 256 ^ k := Nat.mul_le_mul_right _ (by omega)
  have h3 : (256 : Nat) ^ 7 = 72057594037927936 := by decide
  rw [h3] at h1
  have e0 : IntKind.u64.wrap (b : Int) = (b : Int) := by rw [IntKind.wrap_u64, Int.emod_eq_of_lt (by omega) (by omega)]
  have e1 : ((b : Int) * 2 ^ (8 * k)) = ((b * 256 ^ k : Nat) : Int) := by rw [Int.natCast_mul, pow256, pow_cast]
  rw [e0, e1, IntKind.wrap_u64, IntKind.wrap_u64]
  omega
set_option maxRecDepth 100000 in
set_option maxHeartbeats 2000000 in
theorem refNumber_any (D : ByteArray) (w : World) (hs : D.size ≤ 8) : Calls Try.prog 19 #[.string D] w (RetD (.int .u64 ((leV D.data.toList : Nat) : Int)) w) := by
  go_enter Try.func19, Try.ntmps19
  go_wp2
  go_loopw [3, 4] (fun v i wr => ∃ k : Nat, k ≤ D.size ∧ i = .int .i64 k ∧ v = .int .u64 ((leV (D.data.toList.take k) : Nat) : Int) ∧ ∃ m, wr = w.drewN m) (fun _ i _ => D.size - (intOf i).toNat)
  case atStart => exact ⟨0, by omega, rfl, rfl, 0, rfl⟩
  case round =>
    obtain ⟨k, hk, rfl, rfl, m, rfl⟩ := hrel
    have hl : (D.data.toList.take k).length = k := by rw [List.length_take, Array.length_toList]; have : D.data.size = D.size := rfl; omega
    by_cases hlt : k < D.size
    · have hu := leV_lt (D.data.toList.take k)
      rw [hl] at hu
      have HS : Hid (leV (D.data.toList.take (k + 1)) = leV (D.data.toList.take k) + D[k].toNat * 256 ^ k) := Lib.hid (by rw [ftake_snoc D k hlt, leV_snoc, hl])
      have HO := Lib.hid (add_byte (leV (D.data.toList.take k)) D[k].toNat k hu D[k].toNat_lt (by omega))
      have HP : Hid (∀ w, Calls Try.prog 36 #[.int .i64 (8 * (k : Int))] w fun e w' => e = .returned (.int .u64 (2 ^ (8 * k))) ∧ w' = w) := Lib.hid fun w => by
        have := Power_any (8 * (k : Int)) w (by omega)
        rw [show (8 * (k : Int)).toNat = 8 * k from by omega] at this
        exact this.mono fun _ _ h => ⟨h.1, h.2.symm⟩
      have e8 : IntKind.i64.wrap (8 * (k : Int)) = 8 * (k : Int) := by rw [IntKind.wrap_i64]; omega
      generalize leV (D.data.toList.take k) = u at *
      have hk7 : k ≤ 7 := by omega
      have k0 : (0 : Int) ≤ k := by omega
      have k1 : (k : Int) < D.size := by omega
      clear hl hu
      obtain ⟨wr, hwr⟩ : ∃ wr, wr = w.drewN m := ⟨_, rfl⟩
      have HWR := Lib.hid hwr
      rw [← hwr]
      clear hwr
      go_wp2
      go_quiet ((go_at_call 36; exact Calls.quiet_of_same (HP.out _)))
      go_wp2
      exact ⟨⟨k + 1, by omega, by go_num, by rw [HS.out, ← HO.out], m + nq, by rw [HWR.out]; simp⟩, by simp [intOf]; omega⟩
    · have HE : Hid (D.data.toList.take k = D.data.toList) := Lib.hid (List.take_of_length_le (by rw [Array.length_toList]; have : D.data.size = D.size := rfl; omega))
      clear hl
      go_wp2
      go_ret
      exact ⟨by rw [HE.out]; rfl, m, rfl⟩
end Go.Proofs.Ytbicmnbmkaffeaa
