/- The law MemParts. -/
import Derived.Test.YtogigmehclmjcaaMEE
namespace Go.Proofs.Ytogigmehclmjcaa
set_option linter.unusedVariables false
set_option linter.unusedSimpArgs false
open Go.ChangeShapes Go.WideShapes Go.Deep Go.RowKit

set_option maxHeartbeats 400000 in
theorem Power_any (n : Int) (w : World) (h : n ≤ 63) :
    Calls Try.prog 19 #[.int .i64 n] w (Ret (.int .u64 (2 ^ n.toNat)) w) := by
  go_enter Try.func19, Try.ntmps19
  go_wp2
  go_loop [3, 4] (fun p i => ∃ k : Nat, k ≤ n.toNat ∧ i = .int .i64 k ∧ p = .int .u64 (2 ^ k)) (fun _ i => n.toNat - (intOf i).toNat)
  case atStart => exact ⟨0, Nat.zero_le _, rfl, rfl⟩
  case round =>
    obtain ⟨k, hk, rfl, rfl⟩ := hrel
    by_cases hlt : (k : Int) < n
    · have hp := pow_le (k + 1) 63 (by omega) 9223372036854775808 (by decide)
      have e : IntKind.u64.wrap (2 * 2 ^ k) = 2 ^ (k + 1) := by
        rw [Int.pow_succ] at hp ⊢
        rw [IntKind.wrap_u64]; omega
      have E := Lib.hid e
      clear e hp
      go_wp2
      go_round
      case rel => exact ⟨k + 1, by omega, by go_num, by rw [E.out]⟩
      case measure => simp [intOf]; omega
    · go_wp2
      go_ret
      exact ret_int (by rw [show n.toNat = k from by omega])
theorem add_byte (u b k : Nat) (hu : u < 256 ^ k) (hb : b < 256) (hk : k ≤ 7) :
    IntKind.u64.wrap ((u : Int) + IntKind.u64.wrap (IntKind.u64.wrap (b : Int) * 2 ^ (8 * k))) = ((u + b * 256 ^ k : Nat) : Int) := by
  have h1 : (256 : Nat) ^ k ≤ 256 ^ 7 := Nat.pow_le_pow_right (by decide) hk
  have h2 : b * 256 ^ k ≤ 255 * 256 ^ k := Nat.mul_le_mul_right _ (by omega)
  have h3 : (256 : Nat) ^ 7 = 72057594037927936 := by decide
  rw [h3] at h1
  have e0 : IntKind.u64.wrap (b : Int) = (b : Int) := by rw [IntKind.wrap_u64, Int.emod_eq_of_lt (by omega) (by omega)]
  have e1 : ((b : Int) * 2 ^ (8 * k)) = ((b * 256 ^ k : Nat) : Int) := by rw [Int.natCast_mul, pow256, pow_cast]
  rw [e0, e1, IntKind.wrap_u64, IntKind.wrap_u64]
  omega
set_option maxRecDepth 100000 in
set_option maxHeartbeats 2000000 in
theorem refNumber_any (D : ByteArray) (w : World) (hs : D.size ≤ 8) : Calls Try.prog 13 #[.string D] w (RetD (.int .u64 ((leV D.data.toList : Nat) : Int)) w) := by
  go_enter Try.func13, Try.ntmps13
  go_wp2
  go_loopw [3, 4] (fun v i wr => ∃ k : Nat, k ≤ D.size ∧ i = .int .i64 k ∧ v = .int .u64 ((leV (D.data.toList.take k) : Nat) : Int) ∧ ∃ m, wr = w.drewN m) (fun _ i _ => D.size - (intOf i).toNat)
  case atStart => exact ⟨0, by omega, rfl, rfl, 0, rfl⟩
  case round =>
    obtain ⟨k, hk, rfl, rfl, m, rfl⟩ := hrel
    have hl : (D.data.toList.take k).length = k := by rw [List.length_take, Array.length_toList]; have : D.data.size = D.size := rfl; omega
    by_cases hlt : k < D.size
    · have hu := leV_lt (D.data.toList.take k)
      rw [hl] at hu
      have HS : Hid (leV (D.data.toList.take (k + 1)) = leV (D.data.toList.take k) + D[k].toNat * 256 ^ k) := Lib.hid (by rw [ftake_snoc D k hlt, leV_snoc, hl])
      have HO := Lib.hid (add_byte (leV (D.data.toList.take k)) D[k].toNat k hu D[k].toNat_lt (by omega))
      have HP : Hid (∀ w, Calls Try.prog 19 #[.int .i64 (8 * (k : Int))] w fun e w' => e = .returned (.int .u64 (2 ^ (8 * k))) ∧ w' = w) := Lib.hid fun w => by
        have := Power_any (8 * (k : Int)) w (by omega)
        rw [show (8 * (k : Int)).toNat = 8 * k from by omega] at this
        exact this.mono fun _ _ h => ⟨h.1, h.2.symm⟩
      have e8 : IntKind.i64.wrap (8 * (k : Int)) = 8 * (k : Int) := by rw [IntKind.wrap_i64]; omega
      generalize leV (D.data.toList.take k) = u at *
      have hk7 : k ≤ 7 := by omega
      have k0 : (0 : Int) ≤ k := by omega
      have k1 : (k : Int) < D.size := by omega
      clear hl hu
      obtain ⟨wr, hwr⟩ : ∃ wr, wr = w.drewN m := ⟨_, rfl⟩
      have HWR := Lib.hid hwr
      rw [← hwr]
      clear hwr
      go_wp2
      go_quiet ((go_at_call 19; exact Calls.quiet_of_same (HP.out _)))
      go_wp2
      exact ⟨⟨k + 1, by omega, by go_num, by rw [HS.out, ← HO.out], m + nq, by rw [HWR.out]; simp⟩, by simp [intOf]; omega⟩
    · have HE : Hid (D.data.toList.take k = D.data.toList) := Lib.hid (List.take_of_length_le (by rw [Array.length_toList]; have : D.data.size = D.size := rfl; omega))
      clear hl
      go_wp2
      go_ret
      exact ⟨by rw [HE.out]; rfl, m, rfl⟩
theorem part_find {L : List Ar} (hg : Good L) {x n y m : Nat} {a : Ar} (h : findA L x n = some a) (h1 : 1 ≤ m) (h2 : x ≤ y) (h3 : y + m ≤ x + n) : findA L y m = some a := by
  obtain ⟨f1, f2, f3⟩ := find_mem h
  have hh : hit y m a = true := by unfold hit; simp; omega
  cases hf : findA L y m with
  | none =>
    unfold findA at hf
    rw [List.find?_eq_none] at hf
    exact absurd hh (hf a f1)
  | some b =>
    obtain ⟨k1, k2, k3⟩ := find_mem hf
    rw [hit_one hg.1 h1 k1 f1 (by unfold hit; simp [k2, k3]) hh]
theorem part_load {L : List Ar} (hg : Good L) {x : Nat} {a : Ar} (h : findA L x 8 = some a) {k : Nat} (hk : k < 8) (hl : k < (seg a x 8).length) : loadA L (x + k) 1 = ((seg a x 8)[k].toNat, 0) := by
  obtain ⟨f1, f2, f3⟩ := find_mem h
  have hf := part_find hg h (y := x + k) (m := 1) (Nat.le_refl _) (by omega) (by omega)
  unfold loadA
  rw [if_neg (by decide), show (1 : Int).toNat = 1 from rfl, hf]
  have e : seg a (x + k) 1 = [(seg a x 8)[k]] := by
    rw [seg_get hl (by omega)]
    unfold seg
    rw [List.drop_eq_getElem_cons (by omega)]
    simp only [List.take_succ_cons, List.take_zero]
    congr 2
    omega
  simp only [e, leV]
  simp
theorem part_word {L : List Ar} (hg : Good L) {x : Nat} {a : Ar} (h : findA L x 8 = some a) : (∃ e : Int, e ≠ 0 ∧ wordA L x = (0, e)) ∨ wordA L x = (leV ((seg a x 8).take 4), 0) := by
  have hf := part_find hg h (y := x) (m := 4) (by omega) (by omega) (by omega)
  unfold wordA
  by_cases h4 : x % 4 ≠ 0
  · rw [if_pos h4]; exact .inl ⟨5, by decide, rfl⟩
  · rw [if_neg h4, hf]
    by_cases hk : a.kind ≠ 1
    · simp only [if_pos hk]; exact .inl ⟨10, by decide, rfl⟩
    · simp only [if_neg hk]
      refine .inr ?_
      congr 2
      unfold seg
      rw [List.take_take]
      rfl
set_option maxRecDepth 100000 in
set_option maxHeartbeats 8000000 in
theorem MemParts_walk (W : World) (a : Option Addr) (n c : Nat) (l : List Rg) (hn : n ≤ maxLen) (hg : ∀ r ∈ l, FitR r) (hl : SL rgC 3 W W.heap.size a n l) (x : Int) (hx : 0 ≤ x ∧ x < 18446744073709551616) :
    Calls Try.prog 4 #[.slice a n c, .int .u64 x] W (RetB (.bool true) W) := by
  obtain ⟨x, rfl⟩ : ∃ k : Nat, x = k := ⟨x.toNat, by omega⟩
  have HBig := Lib.hid (Big_any a n c l W hl hn (fun r hr => (hg r hr).2))
  have HNew : Hid (n ≤ 20 → Calls Try.prog 7 #[.slice a n c] W (NewP l W)) := Lib.hid (fun h => New_walk a n c l W hl (by omega) (fun r hr => (hg r hr).1) (fun r hr => (hg r hr).2))
  have HKept : Hid (∀ w, Calls Try.prog 8 #[] w (RetB (.bool true) w)) := Lib.hid (fun w => kept_any w)
  have HB := Lib.hid (Below.refl W.heap.size W)
  clear hl hn hg hx
  go_enter Try.func4, Try.ntmps4
  go_wp2_with fail
  refine HBig.out.mono ?_
  rintro e w1 ⟨b, rfl, hb20, hw⟩
  obtain rfl := hw.symm
  cases b
  · have h20 := hb20 rfl
    have HN := Lib.hid (HNew.out h20)
    clear hb20 HBig HNew hw
    by_cases hxb : 9223372036854775807 < x
    · go_wp2_with (go_at_call 8; ((with_reducible refine (HKept.out _).mono ?_); rintro e w' ⟨rfl, hb⟩; replace HB := Lib.hid (after HB.out hb); clear hb))
      go_ret
      exact ⟨rfl, HB.out⟩
    have hq : decide ((9223372036854775807 : Int) < (x : Int)) = false := decide_eq_false (by omega)
    go_wp2_with fail
    refine HN.out.mono ?_
    clear hq
    rintro e w2 (⟨er, her, rfl, hb, -⟩ | ⟨p, L, rfl, hms, hgo, -, hb⟩)
    · have q1 : (er != 0) = true := by rw [bne_iff_ne]; exact her
      replace HB := Lib.hid hb
      clear hb her HN
      go_wp2_with (go_at_call 8; ((with_reducible refine (HKept.out _).mono ?_); rintro e w' ⟨rfl, hb⟩; replace HB := Lib.hid (after HB.out hb); clear hb))
      go_ret
      exact ⟨rfl, HB.out⟩
    · replace HB := Lib.hid hb
      have HM := Lib.hid hms
      have HX := Lib.hid (show x < 9223372036854775808 by omega)
      have HL1 := fun w (h : MS w W.heap.size p L) => Load_any h hgo x 8 (by have := HX.out; omega)
      have HL2 := fun w (h : MS w W.heap.size p L) => Text_any h hgo x 8 (by have := HX.out; omega)
      have HL3 := fun w (h : MS w W.heap.size p L) => Word_any h hgo x (by have := HX.out; omega)
      cases hf : findA L x 8 with
      | none =>
        have e1 : loadA L x 8 = (0, 4) := by unfold loadA; rw [if_neg (by decide), show (8 : Int).toNat = 8 from rfl, hf]
        have e2 : textA L x 8 = (ByteArray.empty, 4) := by unfold textA; rw [if_neg (by decide), if_neg (by decide), show (8 : Int).toNat = 8 from rfl, hf]
        simp only [e1] at HL1
        simp only [e2] at HL2
        replace HL1 := Lib.hid HL1
        replace HL2 := Lib.hid HL2
        clear hb hms hgo hf e1 e2 HL3 HN hxb
        go_wp2_with fail
        refine (HL1.out _ HM.out).mono ?_
        rintro e w3 ⟨rfl, hb⟩
        replace HM := Lib.hid (HM.out.below hb)
        replace HB := Lib.hid (after HB.out hb)
        clear hb
        go_wp2_with fail
        refine (HL2.out _ HM.out).mono ?_
        rintro e w4 ⟨rfl, hb⟩
        replace HB := Lib.hid (after HB.out hb)
        clear hb
        go_wp2_with (go_at_call 8; ((with_reducible refine (HKept.out _).mono ?_); rintro e w' ⟨rfl, hb⟩; replace HB := Lib.hid (after HB.out hb); clear hb))
        go_ret
        exact ⟨rfl, HB.out⟩
      | some A =>
        obtain ⟨f1, f2, f3⟩ := find_mem hf
        have hSl := seg_len f2 f3
        have e1 : loadA L x 8 = (leV (seg A x 8), 0) := by unfold loadA; rw [if_neg (by decide), show (8 : Int).toNat = 8 from rfl, hf]
        have e2 : textA L x 8 = (⟨(seg A x 8).toArray⟩, 0) := by unfold textA; rw [if_neg (by decide), if_neg (by decide), show (8 : Int).toNat = 8 from rfl, hf]
        have HPL : Hid (∀ (k : Nat) (hk : k < (seg A x 8).length), loadA L (x + k) 1 = ((seg A x 8)[k].toNat, 0)) := Lib.hid (fun k hk => part_load hgo hf (by omega) hk)
        have hPW := part_word hgo hf
        simp only [e1] at HL1
        simp only [e2] at HL2
        have HG := Lib.hid hgo
        generalize seg A x 8 = S at *
        obtain ⟨D, hD⟩ : ∃ D : ByteArray, D = ⟨S.toArray⟩ := ⟨_, rfl⟩
        rw [← hD] at HL2
        have hDs : D.size = 8 := by rw [hD]; show S.toArray.size = 8; simpa using hSl
        have hDt : (D.extract 0 4).data.toList = S.take 4 := by rw [Lib.extract_data, hD]; simp
        have HDG : Hid (∀ (k : Nat) (hk : k < S.length) (hd : k < D.size), (D[k]'hd).toNat = S[k].toNat) := Lib.hid (fun k hk hd => by subst hD; rfl)
        have HNum : Hid (∀ w, Calls Try.prog 13 #[.string (D.extract 0 4)] w (RetD (.int .u64 ((leV (S.take 4) : Nat) : Int)) w)) := Lib.hid (fun w => by
          have := refNumber_any (D.extract 0 4) w (by rw [ByteArray.size_extract]; omega)
          rw [hDt] at this
          exact this)
        have HSL := Lib.hid hSl
        replace HL1 := Lib.hid HL1
        replace HL2 := Lib.hid HL2
        have HPW := Lib.hid hPW
        replace HL3 := Lib.hid HL3
        clear hb hms hgo hf e1 e2 HN f1 f2 f3 hD hDt hPW hSl hxb
        go_wp2_with fail
        refine (HL1.out _ HM.out).mono ?_
        rintro e w3 ⟨rfl, hb⟩
        replace HM := Lib.hid (HM.out.below hb)
        replace HB := Lib.hid (after HB.out hb)
        clear hb
        go_wp2_with fail
        refine (HL2.out _ HM.out).mono ?_
        rintro e w4 ⟨rfl, hb⟩
        replace HM := Lib.hid (HM.out.below hb)
        replace HB := Lib.hid (after HB.out hb)
        clear hb HL1 HL2
        go_wp2
        go_loopw [7, 11] (fun v i wr => ∃ k : Nat, k ≤ 8 ∧ i = .int .i64 k ∧ v = .int .u64 ((leV (S.drop k) : Nat) : Int) ∧ MS wr W.heap.size p L ∧ Below W.heap.size W wr) (fun _ i _ => 8 - (intOf i).toNat)
        case atStart => exact ⟨0, by omega, rfl, rfl, HM.out, HB.out⟩
        case round =>
          obtain ⟨k, hk, rfl, rfl, hms, hb⟩ := hrel
          replace HB := Lib.hid hb
          replace HM := Lib.hid hms
          clear hb hms
          by_cases hlt : k < 8
          · have hkl : k < S.length := by rw [HSL.out]; exact hlt
            have hkd : k < D.size := by omega
            have hstep : leV (S.drop k) = S[k].toNat + 256 * leV (S.drop (k + 1)) := by rw [List.drop_eq_getElem_cons hkl, leV]
            have hLd := Load_any HM.out HG.out (x + k) 1 (by have := HX.out; omega)
            rw [HPL.out k hkl] at hLd
            simp only [] at hLd
            obtain ⟨y, hy⟩ : ∃ y, y = x + k := ⟨_, rfl⟩
            rw [← hy] at hLd
            have hxy : (x : Int) + k = (y : Int) := by omega
            have hyw : IntKind.u64.wrap (y : Int) = (y : Int) := by rw [IntKind.wrap_u64, Int.emod_eq_of_lt (by omega) (by have := HX.out; omega)]
            have hdk := HDG.out k hkl hkd
            have hb8 := S[k].toNat_lt
            generalize S[k].toNat = b0 at *
            have hU : IntKind.u64.wrap (((D[k]'hkd).toNat : Nat) : Int) = (b0 : Int) := by rw [hdk, IntKind.wrap_u64, Int.emod_eq_of_lt (by omega) (by omega)]
            obtain ⟨u', hu'⟩ : ∃ u', u' = leV (S.drop (k + 1)) := ⟨_, rfl⟩
            obtain ⟨u, hu⟩ : ∃ u, u = leV (S.drop k) := ⟨_, rfl⟩
            have hub : u' < 18446744073709551616 := by
              have h1 := leV_lt (S.drop (k + 1))
              have h2 : (256 : Nat) ^ (S.drop (k + 1)).length ≤ 256 ^ 8 := Nat.pow_le_pow_right (by decide) (by rw [List.length_drop]; have := HSL.out; omega)
              have h3 : (256 : Nat) ^ 8 = 18446744073709551616 := by decide
              rw [← hu'] at h1; omega
            have M3 : Hid (IntKind.u64.wrap (u' : Int) = (u' : Int)) := Lib.hid (by rw [IntKind.wrap_u64, Int.emod_eq_of_lt (by omega) (by omega)])
            rw [← hu', ← hu] at hstep
            rw [← hu]
            have m1 : (u : Int) % 256 = b0 := by omega
            have m2 : (u : Int) / 256 = u' := by omega
            have HU' := Lib.hid hu'
            have HLd := Lib.hid hLd
            have M1 := Lib.hid m1
            have M2 := Lib.hid m2
            have HUU : Hid (∀ hd : k < D.size, IntKind.u64.wrap (((D[k]'hd).toNat : Nat) : Int) = (b0 : Int)) := Lib.hid (fun _ => hU)
            have HDs := Lib.hid hDs
            clear hstep hdk hb8 hu hu' hLd hkl m1 m2 hU hDs hkd hy hub
            go_wp2_with fail
            refine HLd.out.mono ?_
            rintro e w5 ⟨rfl, hb⟩
            replace HM := Lib.hid (HM.out.below hb)
            replace HB := Lib.hid (after HB.out hb)
            have m1 := M1.out
            have m2 := M2.out
            have m3 := M3.out
            have hkd : k < D.size := by rw [HDs.out]; exact hlt
            have hU := HUU.out hkd
            clear hb hxy hyw
            go_wp2
            go_roundw
            case rel => exact ⟨k + 1, by omega, by go_num, by rw [HU'.out], HM.out, HB.out⟩
            case measure => simp [intOf]; omega
          · obtain rfl : k = 8 := by omega
            rcases HPW.out with ⟨er, her, hw⟩ | hw
            · have h3 := HL3.out _ HM.out
              rw [hw] at h3
              have q1 : (er != 0) = true := by rw [bne_iff_ne]; exact her
              have q2 : (er == 0) = false := by rw [beq_eq_false_iff_ne]; exact her
              have H3 := Lib.hid h3
              clear h3 her hw
              go_wp2_with fail
              refine H3.out.mono ?_
              rintro e w5 ⟨rfl, hb⟩
              replace HB := Lib.hid (after HB.out hb)
              clear hb
              go_wp2_with (go_at_call 8; ((with_reducible refine (HKept.out _).mono ?_); rintro e w' ⟨rfl, hb⟩; replace HB := Lib.hid (after HB.out hb); clear hb))
              go_ret
              exact ⟨by simp, HB.out⟩
            · have h3 := HL3.out _ HM.out
              rw [hw] at h3
              have H3 := Lib.hid h3
              have hlt4 := leV_lt (S.take 4)
              rw [List.length_take, HSL.out] at hlt4
              have hlt5 : leV (S.take 4) < 4294967296 := hlt4
              generalize leV (S.take 4) = LV at *
              have hcw : IntKind.u64.wrap (LV : Int) = (LV : Int) := by rw [IntKind.wrap_u64, Int.emod_eq_of_lt (by omega) (by omega)]
              clear h3 hw hlt4 hlt5
              go_wp2_with fail
              refine H3.out.mono ?_
              rintro e w5 ⟨rfl, hb⟩
              replace HB := Lib.hid (after HB.out hb)
              clear hb
              go_wp2_with (first
                | (go_at_call 8; ((with_reducible refine (HKept.out _).mono ?_); rintro e w' ⟨rfl, hb⟩; replace HB := Lib.hid (after HB.out hb); clear hb))
                | (go_at_call 13; ((with_reducible refine (HNum.out _).mono ?_); rintro e w' ⟨rfl, nn, rfl⟩; replace HB := Lib.hid (below_drewN HB.out nn))))
              go_ret
              exact ⟨by simp, HB.out⟩
  · go_wp2_with (go_at_call 8; ((with_reducible refine (HKept.out _).mono ?_); rintro e w' ⟨rfl, hb⟩; replace HB := Lib.hid (after HB.out hb); clear hb))
    go_ret
    exact ⟨rfl, HB.out⟩
end Go.Proofs.Ytogigmehclmjcaa
