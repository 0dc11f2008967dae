/- show: List. -/
import Derived.Test.YtkcgnmicaigjfaaDoorwJ
import Derived.Test.YtkcgnmicaigjfaaDoorS2
namespace Go.Proofs.YtkcgnmicaigjfaaDoor
set_option linter.unusedVariables false
set_option linter.unusedSimpArgs false
open Go.ChangeShapes Go.WideShapes Go.Deep Go.RowKit

def enT (x : List UInt8) : List Value := [.string ⟨x.toArray⟩]
theorem enT_len : ∀ x, (enT x).length = 1 := fun _ => rfl
theorem enT_one : ∀ x, ∀ u ∈ enT x, u.oneCell' = true := by intro x u hu; simp [enT] at hu; subst hu; rfl
theorem infoS : (Tryd.prog.info? 9).map (fun i => (i.zero, i.size, i.bytes)) = some (some (.string ⟨#[]⟩), 1, 16) := by kernel_rfl
def LiP (r : List (List UInt8) × Int) (w : World) (e : Ending) (w' : World) : Prop :=
  ∃ a c, e = .returned (.tuple #[.slice a r.1.length c, .int .i64 r.2]) ∧ SL enT 1 w' w'.heap.size a r.1.length r.1 ∧ (a = none → r.1.length = 0 ∧ c = 0) ∧ Below w.heap.size w w'
theorem lip_no {w : World} {k : Int} : LiP ([], k) w (.returned (.tuple #[.slice none 0 0, .int .i64 k])) w := ⟨none, 0, rfl, SL.nil _ _ _, fun _ => ⟨rfl, rfl⟩, Below.refl _ _⟩
theorem own_below {w w' : World} {B : Nat} {e : TypeId} {v : Value} {n : Nat} {xs : List Value} (h : w.ownsRow B e 1 v n xs) (hb : Below w.heap.size w w') : w'.ownsRow B e 1 v n xs := by
  refine ⟨h.1, ?_⟩
  rcases h.2 with ⟨hv, h0⟩ | ⟨g, cap, cur, hv, hBg, hg, r⟩
  · exact .inl ⟨hv, h0⟩
  · exact .inr ⟨g, cap, cur, hv, hBg, (hb.block g (w3_lt hg)).trans hg, r⟩
theorem sidx_at (D : ByteArray) (q : Nat) (h : q < D.size) (w : World) : (Instr.index 9 (.string D) (.int .i64 (q : Int))).run Tryd.prog w = .ok (.int .u8 ((D.data.toList.getD q 0).toNat : Int)) w := by
  have h0 : (0 : Int) ≤ (q : Int) ∧ (q : Int) < (D.size : Int) := ⟨by omega, by omega⟩
  have e : (D[q]'h) = D.data.toList.getD q 0 := by
    rw [List.getD_eq_getElem?_getD, List.getElem?_eq_getElem (by simpa using h)]; rfl
  rw [← e]
  go_simp
theorem or_u32 (a b k : Nat) (ha : a < 2 ^ k) (hb : b < 256) (hk : k ≤ 24) : bits .or .u32 (a : Int) ((b : Int) * 2 ^ k) = ((a + 2 ^ k * b : Nat) : Int) := by
  have hp : 2 ^ k ≤ 2 ^ 24 := Nat.pow_le_pow_right (by decide) hk
  have h1 : 2 ^ k * b ≤ 2 ^ 24 * 255 := Nat.mul_le_mul hp (by omega)
  have e : (b : Int) * 2 ^ k = ((2 ^ k * b : Nat) : Int) := by rw [Nat.mul_comm]; simp
  rw [e, bits_or_u32_nat _ _ (by omega) (by omega), or_add a b k ha, Nat.add_comm]
set_option maxRecDepth 100000 in
set_option maxHeartbeats 4000000 in
theorem SList_any (p : Nat) (hp : p < 18446744073709551616) (D : ByteArray) (hD : D.size ≤ reachBytes) (w : World) (hT : TabS w) : Calls Tryd.prog 7 #[.int .u64 (p : Int), .string D] w (LiP (listS p D.data.toList) w) := by
  have hlen : D.data.toList.length = D.size := by simp
  unfold listS
  by_cases h1 : 4096 < D.data.toList.length ∨ 4611686018427387904 < p
  · rw [if_pos h1]
    rw [hlen] at h1
    clear hT hlen
    by_cases h2 : 4096 < D.size
    · have t1 : (4096 : Int) < (D.size : Int) := by omega
      clear h1 h2
      go_enter Tryd.func7, Tryd.ntmps7
      go_wp2
      go_ret2
      exact lip_no
    · have t1 : ¬ (4096 : Int) < (D.size : Int) := by omega
      have t2 : (4611686018427387904 : Int) < (p : Int) := by omega
      clear h1 h2
      go_enter Tryd.func7, Tryd.ntmps7
      go_wp2
      go_ret2
      exact lip_no
  rw [if_neg h1]
  have t1 : ¬ (4096 : Int) < (D.size : Int) := by omega
  have t2 : ¬ (4611686018427387904 : Int) < (p : Int) := by omega
  by_cases h3 : p % 4 ≠ 0 ∨ D.data.toList.length % 4 ≠ 0
  · rw [if_pos h3]
    rw [hlen] at h3
    clear hT hlen h1
    by_cases h4 : p % 4 = 0
    · have q1 : (((p : Int) % 4) != 0) = false := by rw [bne_eq_false_iff_eq]; omega
      have q2 : (((D.size : Int) % 4) != 0) = true := by rw [bne_iff_ne]; omega
      have q3 : (((p : Int).tmod 4) != 0) = false := by rw [bne_eq_false_iff_eq, Int.tmod_eq_emod_of_nonneg (by omega)]; omega
      have q4 : (((D.size : Int).tmod 4) != 0) = true := by rw [bne_iff_ne, Int.tmod_eq_emod_of_nonneg (by omega)]; omega
      clear h3 h4
      go_enter Tryd.func7, Tryd.ntmps7
      go_wp2
      go_ret2
      exact lip_no
    · have q1 : (((p : Int) % 4) != 0) = true := by rw [bne_iff_ne]; omega
      have q3 : (((p : Int).tmod 4) != 0) = true := by rw [bne_iff_ne, Int.tmod_eq_emod_of_nonneg (by omega)]; omega
      clear h3 h4
      go_enter Tryd.func7, Tryd.ntmps7
      go_wp2
      go_ret2
      exact lip_no
  rw [if_neg h3]
  have q1 : (((p : Int) % 4) != 0) = false := by rw [bne_eq_false_iff_eq]; omega
  have q2 : (((D.size : Int) % 4) != 0) = false := by rw [bne_eq_false_iff_eq]; omega
  have q3 : (((p : Int).tmod 4) != 0) = false := by rw [bne_eq_false_iff_eq, Int.tmod_eq_emod_of_nonneg (by omega)]; omega
  have q4 : (((D.size : Int).tmod 4) != 0) = false := by rw [bne_eq_false_iff_eq, Int.tmod_eq_emod_of_nonneg (by omega)]; omega
  obtain ⟨n, hn⟩ : ∃ n, D.size = 4 * n := ⟨D.size / 4, by omega⟩
  have hn1 : n ≤ 1024 := by omega
  obtain ⟨i0, hi, hz0, hz1, hz2⟩ := info_parts infoS
  have HT := Lib.hid hT
  have HN := Lib.hid hn
  have HEnd : Hid (listL p D.data.toList = listL p (D.data.toList.take (4 * n))) := Lib.hid (by rw [List.take_of_length_le (by omega)])
  have HLn : Hid (∀ k, k ≤ n → (listL p (D.data.toList.take (4 * k))).length = k) := Lib.hid fun k hk => listL_len k p _ (by rw [List.length_take]; omega)
  have HNx : Hid (∀ k (h : 4 * k + 4 ≤ D.data.toList.length), listL p (D.data.toList.take (4 * (k + 1))) = listL p (D.data.toList.take (4 * k)) ++ [lineAt (p + 4 * k) (wrd (D.data.toList.getD (4 * k) 0) (D.data.toList.getD (4 * k + 1) 0) (D.data.toList.getD (4 * k + 2) 0) (D.data.toList.getD (4 * k + 3) 0))]) := Lib.hid fun k h => listL_snoc' p k _ h
  have HZ : Hid (listL p (D.data.toList.take (4 * 0)) = []) := Lib.hid (by simp [listL])
  obtain ⟨R, hR⟩ : ∃ R : Nat → List (List UInt8), R = fun k => listL p (D.data.toList.take (4 * k)) := ⟨_, rfl⟩
  have HRn : Hid (∀ k, k ≤ n → (R k).length = k) := Lib.hid (by rw [hR]; exact HLn.out)
  have HRx : Hid (∀ k (h : 4 * k + 4 ≤ D.data.toList.length), R (k + 1) = R k ++ [lineAt (p + 4 * k) (wrd (D.data.toList.getD (4 * k) 0) (D.data.toList.getD (4 * k + 1) 0) (D.data.toList.getD (4 * k + 2) 0) (D.data.toList.getD (4 * k + 3) 0))]) := Lib.hid (by rw [hR]; exact HNx.out)
  have HRz : Hid (R 0 = []) := Lib.hid (by rw [hR]; exact HZ.out)
  have HRe : Hid (listL p D.data.toList = R n) := Lib.hid (by rw [hR]; exact HEnd.out)
  have hpi : (p : Int) ≤ 4611686018427387904 := by omega
  have hDs : D.size = 4 * n := hn
  clear hT hD h1 h3 HEnd HLn HNx HZ hR hn
  generalize listL p D.data.toList = LL at *
  go_enter Tryd.func7, Tryd.ntmps7
  go_wp2_with fail
  go_loopw [6, 7] (fun v i wr => ∃ (k : Nat) (wx : World), wx = wr ∧ k ≤ n ∧ i = .int .i64 ((4 * k : Nat) : Int) ∧ Hid (wx.ownsRow w.heap.size 9 1 v (R k).length ((R k).flatMap enT)) ∧ Hid (Below w.heap.size w wx)) (fun _ i _ => 4 * n - (intOf i).toNat)
  case atStart => exact ⟨0, _, rfl, by omega, rfl, Lib.hid (by rw [HRz.out]; exact World.ownsRow_nil _ _ _ _), Lib.hid (Below.refl _ _)⟩
  case round =>
    obtain ⟨k, wx, rfl, hk, rfl, HO, HB⟩ := hrel
    by_cases hlt : k < n
    · have HLt := Lib.hid hlt
      obtain ⟨q, hq⟩ : ∃ q, q = 4 * k := ⟨_, rfl⟩
      have HQ := Lib.hid hq
      have hq3 : q + 3 < D.size := by omega
      have hlti : (q : Int) < (D.size : Int) := by omega
      have hq0 : q < D.size := by omega
      have hq1 : q + 1 < D.size := by omega
      have hq2 : q + 2 < D.size := by omega
      rw [← hq]
      have HPi := Lib.hid hpi
      clear hq hlt hk t2 q1 q2 q3 q4 hpi
      go_wp2_with fail
      have l0 := (D.data.toList.getD q 0).toNat_lt
      have l1 := (D.data.toList.getD (q + 1) 0).toNat_lt
      have l2 := (D.data.toList.getD (q + 2) 0).toNat_lt
      have l3 := (D.data.toList.getD (q + 3) 0).toNat_lt
      have i0 := sidx_at D q hq0
      have i1 : ∀ w, (Instr.index 9 (.string D) (.int .i64 ((q : Int) + 1))).run Tryd.prog w = .ok (.int .u8 ((D.data.toList.getD (q + 1) 0).toNat : Int)) w := sidx_at D (q + 1) hq1
      have i2 : ∀ w, (Instr.index 9 (.string D) (.int .i64 ((q : Int) + 2))).run Tryd.prog w = .ok (.int .u8 ((D.data.toList.getD (q + 2) 0).toNat : Int)) w := sidx_at D (q + 2) hq2
      have i3 : ∀ w, (Instr.index 9 (.string D) (.int .i64 ((q : Int) + 3))).run Tryd.prog w = .ok (.int .u8 ((D.data.toList.getD (q + 3) 0).toNat : Int)) w := sidx_at D (q + 3) hq3
      have HWd : Hid (wrd (D.data.toList.getD q 0) (D.data.toList.getD (q + 1) 0) (D.data.toList.getD (q + 2) 0) (D.data.toList.getD (q + 3) 0) = (D.data.toList.getD q 0).toNat + 256 * (D.data.toList.getD (q + 1) 0).toNat + 65536 * (D.data.toList.getD (q + 2) 0).toNat + 16777216 * (D.data.toList.getD (q + 3) 0).toNat) := Lib.hid rfl
      have HRk := Lib.hid (HRx.out k (by rw [hlen, ← HQ.out]; omega))
      rw [← HQ.out] at HRk
      generalize (D.data.toList.getD q 0) = y0 at *
      generalize (D.data.toList.getD (q + 1) 0) = y1 at *
      generalize (D.data.toList.getD (q + 2) 0) = y2 at *
      generalize (D.data.toList.getD (q + 3) 0) = y3 at *
      obtain ⟨WD, hWD⟩ : ∃ WD, WD = wrd y0 y1 y2 y3 := ⟨_, rfl⟩
      rw [← hWD] at HWd HRk
      clear hWD
      generalize y0.toNat = b0 at *
      generalize y1.toNat = b1 at *
      generalize y2.toNat = b2 at *
      generalize y3.toNat = b3 at *
      have v1 : IntKind.i64.wrap ((q : Int) + 1) = (q : Int) + 1 := by rw [IntKind.wrap_i64]; omega
      have v2 : IntKind.i64.wrap ((q : Int) + 2) = (q : Int) + 2 := by rw [IntKind.wrap_i64]; omega
      have v3 : IntKind.i64.wrap ((q : Int) + 3) = (q : Int) + 3 := by rw [IntKind.wrap_i64]; omega
      have c0 : IntKind.u32.wrap (b0 : Int) = b0 := by rw [IntKind.wrap_u32]; omega
      have c1 : IntKind.u32.wrap (b1 : Int) = b1 := by rw [IntKind.wrap_u32]; omega
      have c2 : IntKind.u32.wrap (b2 : Int) = b2 := by rw [IntKind.wrap_u32]; omega
      have c3 : IntKind.u32.wrap (b3 : Int) = b3 := by rw [IntKind.wrap_u32]; omega
      have s1 : IntKind.u32.wrap ((b1 : Int) * 256) = b1 * 256 := by rw [IntKind.wrap_u32]; omega
      have s2 : IntKind.u32.wrap ((b2 : Int) * 65536) = b2 * 65536 := by rw [IntKind.wrap_u32]; omega
      have s3 : IntKind.u32.wrap ((b3 : Int) * 16777216) = b3 * 16777216 := by rw [IntKind.wrap_u32]; omega
      obtain ⟨x1, hx1⟩ : ∃ x1 : Nat, x1 = b0 + 256 * b1 := ⟨_, rfl⟩
      obtain ⟨x2, hx2⟩ : ∃ x2 : Nat, x2 = x1 + 65536 * b2 := ⟨_, rfl⟩
      have o1 : bits .or .u32 (b0 : Int) ((b1 : Int) * 256) = (x1 : Int) := by rw [hx1]; exact or_u32 b0 b1 8 (by omega) (by omega) (by omega)
      have o2 : bits .or .u32 (x1 : Int) ((b2 : Int) * 65536) = (x2 : Int) := by rw [hx2]; exact or_u32 x1 b2 16 (by omega) (by omega) (by omega)
      have o3 : bits .or .u32 (x2 : Int) ((b3 : Int) * 16777216) = (WD : Int) := by
        have := or_u32 x2 b3 24 (by omega) (by omega) (by omega)
        rw [HWd.out, show b0 + 256 * b1 + 65536 * b2 + 16777216 * b3 = x2 + 2 ^ 24 * b3 from by omega]; exact this
      have hWDl : WD < 4294967296 := by rw [HWd.out]; omega
      have HWDl := Lib.hid hWDl
      clear HWd l0 l1 l2 l3 hq0 hq1 hq2 hWDl hDs hx1 hx2
      refine wp_region_held_drew (S := fun _ => True) (by kernel_rfl) trivial (fun hHeld => ?_)
      clear hHeld
      refine tk 0 ?_ rfl trivial ?_ ?_
      rotate_left 1
      · intro w hS; go_simp; (try with_reducible rfl)
      (try simp only [Act.put, List.setIfInBounds_toArray, List.set_cons_zero, List.set_cons_succ])
      refine tk 1 ?_ rfl trivial ?_ ?_
      rotate_left 1
      · intro w hS; go_simp; (try with_reducible rfl)
      (try simp only [Act.put, List.setIfInBounds_toArray, List.set_cons_zero, List.set_cons_succ])
      refine tk 2 ?_ rfl trivial ?_ ?_
      rotate_left 1
      · intro w hS; go_simp; (try with_reducible rfl)
      (try simp only [Act.put, List.setIfInBounds_toArray, List.set_cons_zero, List.set_cons_succ])
      refine tk 3 ?_ rfl trivial ?_ ?_
      rotate_left 1
      · intro w hS; go_simp; (try with_reducible rfl)
      (try simp only [Act.put, List.setIfInBounds_toArray, List.set_cons_zero, List.set_cons_succ])
      refine tk 4 ?_ rfl trivial ?_ ?_
      rotate_left 1
      · intro w hS; go_simp; (try with_reducible rfl)
      (try simp only [Act.put, List.setIfInBounds_toArray, List.set_cons_zero, List.set_cons_succ])
      refine tk 5 ?_ rfl trivial ?_ ?_
      rotate_left 1
      · intro w hS; go_simp; (try with_reducible rfl)
      (try simp only [Act.put, List.setIfInBounds_toArray, List.set_cons_zero, List.set_cons_succ])
      refine tk 6 ?_ rfl trivial ?_ ?_
      rotate_left 1
      · intro w hS; go_simp; (try with_reducible rfl)
      (try simp only [Act.put, List.setIfInBounds_toArray, List.set_cons_zero, List.set_cons_succ])
      refine tk 7 ?_ rfl trivial ?_ ?_
      rotate_left 1
      · intro w hS; go_simp; (try with_reducible rfl)
      (try simp only [Act.put, List.setIfInBounds_toArray, List.set_cons_zero, List.set_cons_succ])
      refine tk 8 ?_ rfl trivial ?_ ?_
      rotate_left 1
      · intro w hS; go_simp; (try with_reducible rfl)
      (try simp only [Act.put, List.setIfInBounds_toArray, List.set_cons_zero, List.set_cons_succ])
      refine tk 9 ?_ rfl trivial ?_ ?_
      rotate_left 1
      · intro w hS; go_simp; (try with_reducible rfl)
      (try simp only [Act.put, List.setIfInBounds_toArray, List.set_cons_zero, List.set_cons_succ])
      refine tk 10 ?_ rfl trivial ?_ ?_
      rotate_left 1
      · intro w hS; go_simp; (try with_reducible rfl)
      (try simp only [Act.put, List.setIfInBounds_toArray, List.set_cons_zero, List.set_cons_succ])
      refine tk 11 ?_ rfl trivial ?_ ?_
      rotate_left 1
      · intro w hS; go_simp; (try with_reducible rfl)
      (try simp only [Act.put, List.setIfInBounds_toArray, List.set_cons_zero, List.set_cons_succ])
      refine tk 12 ?_ rfl trivial ?_ ?_
      rotate_left 1
      · intro w hS; go_simp; (try with_reducible rfl)
      (try simp only [Act.put, List.setIfInBounds_toArray, List.set_cons_zero, List.set_cons_succ])
      refine tk 13 ?_ rfl trivial ?_ ?_
      rotate_left 1
      · intro w hS; go_simp; (try with_reducible rfl)
      (try simp only [Act.put, List.setIfInBounds_toArray, List.set_cons_zero, List.set_cons_succ])
      refine tk 14 ?_ rfl trivial ?_ ?_
      rotate_left 1
      · intro w hS; go_simp; (try with_reducible rfl)
      (try simp only [Act.put, List.setIfInBounds_toArray, List.set_cons_zero, List.set_cons_succ])
      refine tk 15 ?_ rfl trivial ?_ ?_
      rotate_left 1
      · intro w hS; go_simp; (try with_reducible rfl)
      (try simp only [Act.put, List.setIfInBounds_toArray, List.set_cons_zero, List.set_cons_succ])
      refine tk 16 ?_ rfl trivial ?_ ?_
      rotate_left 1
      · intro w hS; go_simp; (try with_reducible rfl)
      (try simp only [Act.put, List.setIfInBounds_toArray, List.set_cons_zero, List.set_cons_succ])
      refine tk 17 ?_ rfl trivial ?_ ?_
      rotate_left 1
      · intro w hS; go_simp; (try with_reducible rfl)
      (try simp only [Act.put, List.setIfInBounds_toArray, List.set_cons_zero, List.set_cons_succ])
      refine tk 18 ?_ rfl trivial ?_ ?_
      rotate_left 1
      · intro w hS; go_simp; (try with_reducible rfl)
      (try simp only [Act.put, List.setIfInBounds_toArray, List.set_cons_zero, List.set_cons_succ])
      refine tk 19 ?_ rfl trivial ?_ ?_
      rotate_left 1
      · intro w hS; go_simp; (try with_reducible rfl)
      (try simp only [Act.put, List.setIfInBounds_toArray, List.set_cons_zero, List.set_cons_succ])
      refine tk 20 ?_ rfl trivial ?_ ?_
      rotate_left 1
      · intro w hS; go_simp; (try with_reducible rfl)
      (try simp only [Act.put, List.setIfInBounds_toArray, List.set_cons_zero, List.set_cons_succ])
      refine tk 21 ?_ rfl trivial ?_ ?_
      rotate_left 1
      · intro w hS; go_simp; (try with_reducible rfl)
      (try simp only [Act.put, List.setIfInBounds_toArray, List.set_cons_zero, List.set_cons_succ])
      refine tk 22 ?_ rfl trivial ?_ ?_
      rotate_left 1
      · intro w hS; go_simp; (try with_reducible rfl)
      (try simp only [Act.put, List.setIfInBounds_toArray, List.set_cons_zero, List.set_cons_succ])
      refine tk 23 ?_ rfl trivial ?_ ?_
      rotate_left 1
      · intro w hS; go_simp; (try with_reducible rfl)
      (try simp only [Act.put, List.setIfInBounds_toArray, List.set_cons_zero, List.set_cons_succ])
      refine tk 24 ?_ rfl trivial ?_ ?_
      rotate_left 1
      · intro w hS; go_simp; (try with_reducible rfl)
      (try simp only [Act.put, List.setIfInBounds_toArray, List.set_cons_zero, List.set_cons_succ])
      refine rd 25 rfl (fun K hK => ?_)
      go_simp
      refine hK.out _ _ trivial (fun hHeld => ?_)
      clear hK K hHeld
      refine wpAnyH_done (by kernel_rfl) ?_ _
      have hpi := HPi.out
      have HHx : Hid (∀ u, Below w.heap.size w u → Calls Tryd.prog 16 #[.int .u64 ((p : Int) + (q : Int))] u (RetB (.string (hexB (p + q))) u)) := Lib.hid fun u hu => Hex_any (p + q) u (by omega) (HT.out.next hu).t4.1
      have HWd2 : Hid (∀ u, Below w.heap.size w u → Calls Tryd.prog 17 #[.int .u32 (WD : Int)] u (RetB (.string ⟨(wordT WD).toArray⟩) u)) := Lib.hid fun u hu => SWord_any WD HWDl.out u (HT.out.next hu)
      have hpq : IntKind.u64.wrap ((p : Int) + (q : Int)) = (p : Int) + (q : Int) := by rw [IntKind.wrap_u64]; omega
      have hqw : IntKind.u64.wrap (q : Int) = (q : Int) := by rw [IntKind.wrap_u64]; omega
      have hq4 : IntKind.i64.wrap ((q : Int) + 4) = (q : Int) + 4 := by rw [IntKind.wrap_i64]; omega
      have hz1' : (hexB (p + q)).size ≤ 18 := by
        have := dig16_len (p + q) (by omega)
        show (48 :: 120 :: digL 16 (p + q)).length ≤ 18
        simp only [List.length_cons]; omega
      have hz2' : (⟨(wordT WD).toArray⟩ : ByteArray).size ≤ 500 := by rw [ba_size]; exact wordT_len HWDl.out
      have HEl : Hid (hexB (p + q) ++ ⟨#[58, 32]⟩ ++ (⟨(wordT WD).toArray⟩ : ByteArray) = ⟨(lineAt (p + q) WD).toArray⟩) := Lib.hid (by
        apply ba_ext
        rw [cat_list, cat_list]
        rfl)
      have HBd := Lib.hid (And.intro (HRn.out k (by have := HLt.out; omega)) hn1)
      have HO2 : Hid (∀ u, Below wx.heap.size wx u → u.ownsRow w.heap.size 9 1 u6 (R k).length ((R k).flatMap enT)) := Lib.hid fun u hu => own_below HO.out hu
      have HBn : Hid (∀ u, Below wx.heap.size wx u → Below w.heap.size w u) := Lib.hid fun u hu => after HB.out hu
      have hd1 : Below wx.heap.size wx wx.drew := (Below.refl _ _).drew
      have HB1 := Lib.hid hd1
      obtain ⟨V, hV⟩ : ∃ V, V = wx.drew := ⟨_, rfl⟩
      rw [← hV] at HB1
      have HV := Lib.hid hV.symm
      clear i0 i1 i2 i3 v1 v2 v3 c0 c1 c2 c3 s1 s2 s3 o1 o2 o3 hpi hd1 hV hn1
      generalize hexB (p + q) = HX at *
      generalize (⟨(wordT WD).toArray⟩ : ByteArray) = WT at *
      generalize lineAt (p + q) WD = LA at *
      go_wp2_with fail
      rw [HV.out]
      refine (HHx.out _ (HBn.out _ HB1.out)).mono ?_
      rintro e u1 ⟨rfl, hb⟩
      have HB2 := Lib.hid (after HB1.out hb)
      clear hb
      go_wp2_with fail
      refine (HWd2.out _ (HBn.out _ HB2.out)).mono ?_
      rintro e u2 ⟨rfl, hb⟩
      have HB3 := Lib.hid (after HB2.out hb)
      have HOn := Lib.hid (HO2.out _ HB3.out)
      have HBy := Lib.hid (HBn.out _ HB3.out)
      have hrk := HBd.out.1
      have hnk := HBd.out.2
      have hkn := HLt.out
      clear hb
      go_wp2_with (at_builtin; refine wpList_append_own _ rfl _ _ 30 rfl w.heap.size 9 i0 (.string ⟨#[]⟩) 1 16 Tryd.underlying30 hi hz0 hz1 hz2 rfl (by decide) _ (R k).length ((R k).flatMap enT) rfl (HOn.out.alloc _) ⟨u2.heap.size, 0, none⟩ 1 1 (enT LA) rfl rfl (by rw [HEl.out]; exact cell_one_new' _ _ _) (enT_one LA) (by unfold maxLen; omega) (by omega) (by have := HBy.out.size; simp; omega) ?_; intro v' w2 hown2 hgrow2 hiff)
      go_roundw
      case rel =>
        refine ⟨k + 1, _, rfl, by omega, by rw [HQ.out]; go_num, Lib.hid ?_, Lib.hid ((HBy.out.alloc (by have := HBy.out.size; omega) _).grown hgrow2 (by have := HBy.out.size; simp; omega) (fun j hj => by have := (HOn.out.lt j hj).1; omega))⟩
        rw [HRk.out, List.flatMap_append, List.length_append]
        exact hown2
      case measure => simp [intOf]; omega
    · obtain rfl : k = n := by omega
      have hge : ¬ ((4 * k : Nat) : Int) < (D.size : Int) := by omega
      clear hlt hk
      go_wp2
      go_ret2
      obtain ⟨a', c', rfl, hsl, hnil⟩ := SL.ofOwns enT_len (by omega) HO.out
      rw [HRe.out]
      exact ⟨a', c', rfl, hsl, hnil, HB.out⟩
end Go.Proofs.YtkcgnmicaigjfaaDoor
