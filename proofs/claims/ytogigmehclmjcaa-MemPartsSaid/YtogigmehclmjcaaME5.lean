/- mem: Word, Text. -/
import Derived.Test.YtogigmehclmjcaaME4
namespace Go.Proofs.Ytogigmehclmjcaa
set_option linter.unusedVariables false
set_option linter.unusedSimpArgs false
open Go.ChangeShapes Go.WideShapes Go.Deep Go.RowKit

theorem strOf_bytes (s : List UInt8) : strOfNums (s.map fun b => (b.toNat : Int)) = ⟨s.toArray⟩ := by
  unfold strOfNums
  rw [List.map_map]
  congr 1
  rw [show ((fun n : Int => UInt8.ofNat n.toNat) ∘ fun b : UInt8 => (b.toNat : Int)) = id from by funext b; simp]
  simp
theorem conv_text {w : World} {b o : Nat} {s : List UInt8} (h : ByAt w b o s) (cap : Nat) : (convert 49 9 (.slice (some ⟨b, o, none⟩) s.length cap)).run Try.prog w = .ok (.string ⟨s.toArray⟩) w := by
  have := run_convert_bytes_arg (P := Try.prog) w 49 5 Try.underlying49 Try.underlying5 b o s.length cap (s.map fun b => (b.toNat : Int)) (by simp) (fun i hi => by
    rw [h i hi]
    simp [List.getD, hi]) 9 Try.underlying9
  rw [strOf_bytes] at this
  exact this
set_option maxRecDepth 100000 in
set_option maxHeartbeats 2000000 in
theorem Word_any {w : World} {base p : Nat} {l : List Ar} (h : MS w base p l) (hg : Good l) (x : Nat) (hx : x < 18446744073709551616) :
    Calls Try.prog 12 #[.pointer (some ⟨p, 0, none⟩), .int .u64 x] w (RetB (.tuple #[.int .u32 ((wordA l x).1 : Nat), .int .i64 (wordA l x).2]) w) := by
  by_cases hn : x % 4 ≠ 0
  · rw [show wordA l x = (0, 5) by unfold wordA; rw [if_pos hn]]
    have n1 : ((x : Int) % 4 != 0) = true := by rw [bne_iff_ne]; omega
    clear h hg hn
    go_enter Try.func12, Try.ntmps12
    go_wp2
    go_ret2
    exact ⟨rfl, Below.refl _ _⟩
  · have hF := find_any h hg.1 hg.2.1 x 4 hx (by omega) (by omega) hg.2.2
    have n1 : ((x : Int) % 4 != 0) = false := by rw [bne_eq_false_iff_eq]; omega
    cases hf : findA l x 4 with
    | none =>
      rw [show wordA l x = (0, 4) by unfold wordA; rw [if_neg hn, hf]]
      rw [hf] at hF
      unfold foundV at hF
      have HF := Lib.hid hF
      clear h hg hF hf hn
      go_enter Try.func12, Try.ntmps12
      go_wp2_with fail
      refine HF.out.mono ?_
      rintro e w1 ⟨rfl, hb⟩
      have HB := Lib.hid hb
      clear hb
      go_wp2
      go_ret2
      exact ⟨rfl, HB.out⟩
    | some a =>
      have hw : wordA l x = if a.kind ≠ 1 then (0, 10) else (leV (seg a x 4), 0) := by unfold wordA; rw [if_neg hn, hf]
      rw [hw]
      rw [hf] at hF
      obtain ⟨f1, f2, f3⟩ := find_mem hf
      have hsl := seg_len f2 f3
      have hlt := leV_lt (seg a x 4)
      rw [hsl] at hlt
      have HL := Lib.hid hsl
      have HB1 := Lib.hid (seg_at h f1 f2 f3)
      obtain ⟨P, K, X, S⟩ := a
      unfold foundV at hF
      simp only [] at hF
      have HF := Lib.hid hF
      generalize hsg : seg ⟨P, K, X, S⟩ x 4 = sg at *
      clear h hg hF hf hn f1 f2 f3 hsg hw hsl
      simp only [] at HB1 ⊢
      generalize x - P = F at *
      generalize S.length - F = C at *
      generalize hlv : leV sg = LV at *
      have HLV := Lib.hid hlv
      clear hlv
      by_cases hk : K ≠ 1
      · rw [if_pos hk]
        have k1 : (K != 1) = true := by rw [bne_iff_ne]; exact hk
        clear hk
        go_enter Try.func12, Try.ntmps12
        go_wp2_with fail
        refine HF.out.mono ?_
        rintro e w1 ⟨rfl, hb⟩
        have HB := Lib.hid hb
        clear hb
        go_wp2
        go_ret2
        exact ⟨rfl, HB.out⟩
      · rw [if_neg hk]
        obtain rfl : K = 1 := by omega
        have hlt' : LV < 4294967296 := hlt
        clear hk hlt
        go_enter Try.func12, Try.ntmps12
        go_wp2_with fail
        refine HF.out.mono ?_
        rintro e w1 ⟨rfl, hb⟩
        have HB := Lib.hid hb
        have HN := Lib.hid (number_of X F C sg w1 (HB1.out.below hb) (by rw [HL.out]; omega))
        rw [HL.out, HLV.out] at HN
        clear hb
        go_wp2_with fail
        refine HN.out.mono ?_
        rintro e w2 ⟨rfl, rfl⟩
        go_wp2
        go_ret2
        exact ⟨rfl, HB.out⟩
set_option maxRecDepth 100000 in
set_option maxHeartbeats 2000000 in
theorem Text_any {w : World} {base p : Nat} {l : List Ar} (h : MS w base p l) (hg : Good l) (x : Nat) (n : Int) (hx : x < 18446744073709551616) :
    Calls Try.prog 11 #[.pointer (some ⟨p, 0, none⟩), .int .u64 x, .int .i64 n] w (RetB (.tuple #[.string (textA l x n).1, .int .i64 (textA l x n).2]) w) := by
  by_cases hn : n < 0
  · rw [show textA l x n = (ByteArray.empty, 1) by unfold textA; rw [if_pos (.inl hn)]]
    clear h hg
    go_enter Try.func11, Try.ntmps11
    go_wp2
    go_ret2
    exact ⟨rfl, Below.refl _ _⟩
  by_cases hn2 : 65536 < n
  · rw [show textA l x n = (ByteArray.empty, 1) by unfold textA; rw [if_pos (.inr hn2)]]
    clear h hg
    go_enter Try.func11, Try.ntmps11
    go_wp2
    go_ret2
    exact ⟨rfl, Below.refl _ _⟩
  by_cases hn0 : n = 0
  · subst hn0
    rw [show textA l x 0 = (ByteArray.empty, 0) by unfold textA; rfl]
    clear h hg
    go_enter Try.func11, Try.ntmps11
    go_wp2
    go_ret2
    exact ⟨rfl, Below.refl _ _⟩
  obtain ⟨m, rfl⟩ : ∃ m : Nat, n = m := ⟨n.toNat, by omega⟩
  have hm1 : 1 ≤ m := by omega
  have hm2 : m ≤ 65536 := by omega
  have hF := find_any h hg.1 hg.2.1 x m hx hm1 hm2 hg.2.2
  cases hf : findA l x m with
  | none =>
    rw [show textA l x (m : Int) = (ByteArray.empty, 4) by unfold textA; rw [if_neg (by omega), if_neg hn0]; simp only [Int.toNat_natCast, hf]]
    rw [hf] at hF
    unfold foundV at hF
    have HF := Lib.hid hF
    clear h hg hF hf hn hn2 hn0
    go_enter Try.func11, Try.ntmps11
    go_wp2_with fail
    refine HF.out.mono ?_
    rintro e w1 ⟨rfl, hb⟩
    have HB := Lib.hid hb
    clear hb
    go_wp2
    go_ret2
    exact ⟨rfl, HB.out⟩
  | some a =>
    rw [show textA l x (m : Int) = (⟨(seg a x m).toArray⟩, 0) by unfold textA; rw [if_neg (by omega), if_neg hn0]; simp only [Int.toNat_natCast, hf]]
    rw [hf] at hF
    obtain ⟨f1, f2, f3⟩ := find_mem hf
    have HL := Lib.hid (seg_len f2 f3)
    have HB1 := Lib.hid (seg_at h f1 f2 f3)
    obtain ⟨P, K, X, S⟩ := a
    unfold foundV at hF
    simp only [] at hF
    have HF := Lib.hid hF
    generalize hsg : seg ⟨P, K, X, S⟩ x m = sg at *
    clear h hg hF hf hn hn2 hn0 f1 f2 f3 hsg
    simp only [] at HB1 ⊢
    generalize x - P = F at *
    generalize S.length - F = C at *
    obtain ⟨T, hT⟩ : ∃ T : ByteArray, T = ⟨sg.toArray⟩ := ⟨_, rfl⟩
    rw [← hT]
    have HT := Lib.hid hT
    clear hT
    go_enter Try.func11, Try.ntmps11
    go_wp2_with fail
    refine HF.out.mono ?_
    rintro e w1 ⟨rfl, hb⟩
    have HB := Lib.hid hb
    have hcv := conv_text (HB1.out.below hb) C
    rw [HL.out, ← HT.out] at hcv
    clear hb
    go_wp2
    go_ret2
    exact ⟨rfl, HB.out⟩
end Go.Proofs.Ytogigmehclmjcaa
