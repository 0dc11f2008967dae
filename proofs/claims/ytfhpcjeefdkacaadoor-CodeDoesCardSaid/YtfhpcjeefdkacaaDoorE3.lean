/- The law CodeBit, walked. -/
import Derived.Test.YtfhpcjeefdkacaaDoorE2
import Derived.Deep.DeepCutAuto
namespace Go.Proofs.YtfhpcjeefdkacaaDoor
set_option linter.unusedVariables false
set_option linter.unusedSimpArgs false
open Go.RowKit

theorem inP_succ {l : List (Int × Int)} {k : Nat} (h : k < l.length) (a : Int) : inP (l.take (k + 1)) a = (inP (l.take k) a || (decide (l[k].1 ≤ a) && decide (a < l[k].1 + l[k].2))) := by
  unfold inP
  rw [List.take_succ_eq_append_getElem h, List.any_append]
  simp
theorem plL_len : ∀ s : Fin 17, (plL s.val).length ≤ 5 ∧ ∀ p ∈ plL s.val, 0 ≤ p.1 ∧ p.1 ≤ 32 ∧ 0 ≤ p.2 ∧ p.2 ≤ 32 := by decide +kernel

set_option maxRecDepth 100000 in
set_option maxHeartbeats 8000000 in
theorem CodeBit_in (x a : Nat) (hx : x < 4294967296) (ha : a < 32) (hop : 1 ≤ opW x) (w : World) (hw : Tab6 w) : Calls Tryd.prog 6 #[.int .u32 x, .int .i64 a] w (RetB (.bool true) w) := by
  have HT := Lib.hid hw
  have HC : Hid (∀ w, Tab6 w → Calls Tryd.prog 14 #[] w (RetB (.bool true) w)) := Lib.hid fun w h => coded_any w h
  have HB := Lib.hid (Below.refl w.heap.size w)
  have HO : Hid (∀ w, Tab6 w → Calls Tryd.prog 15 #[.int .u32 x] w (RetB (.int .i64 (opW x : Nat)) w)) := Lib.hid fun w h => (Opcode_any x hx w h).mono fun _ _ h => h.toB
  have hmx := xor_add x a ha hx
  have HO2 : Hid (∀ w, Tab6 w → Calls Tryd.prog 15 #[.int .u32 (x ^^^ 2 ^ a : Nat)] w (RetB (.int .i64 (opW (x ^^^ 2 ^ a) : Nat)) w)) := Lib.hid fun w h => (Opcode_any (x ^^^ 2 ^ a) hmx.2.2 w h).mono fun _ _ h => h.toB
  have HF : Hid (∀ w, Calls Tryd.prog 18 #[.int .u32 x, .int .i64 a, .int .i64 1] w (RetB (.tuple #[.int .u32 (x / 2 ^ a % 2 : Nat), .int .i64 0]) w)) := Lib.hid fun w => by
    have := (field_any x a 1 w (by omega) (by omega)).mono fun _ _ h => h.toB
    rwa [show fieldS x a 1 = (fw x a 1, 0) from fieldS_in x a 1 (by omega) (by decide)] at this
  have hb01 : x / 2 ^ a % 2 = 0 ∨ x / 2 ^ a % 2 = 1 := by omega
  have hb := shapeI_b (opW x : Nat)
  obtain ⟨s, hs⟩ := Int.eq_ofNat_of_zero_le hb.1
  have hs16 : s ≤ 16 := by omega
  have HSh : Hid (∀ w, Calls Tryd.prog 20 #[.int .i64 (opW x : Nat)] w (RetB (.int .i64 s) w)) := Lib.hid fun w => by have := RShape_any (opW x : Nat) w; rwa [hs] at this
  have HPl : Hid (∀ w, Calls Tryd.prog 19 #[.int .i64 s] w (RetQ (plL s) w)) := Lib.hid fun w => Places_any s hs16 w
  have hE := xor_opW (a := a) hop
  have h0 : s ≠ 0 := by
    rcases opW_or x with ⟨e, -⟩ | ⟨h1, h2, h3⟩
    · omega
    · intro e; subst e
      have := hs
      unfold shapeI at this
      rw [if_neg (by omega)] at this
      have h4 : ∀ j : Fin 40, j.val = 0 ∨ shL.getD j.val 0 ≠ 0 := by decide
      have := h4 ⟨opW x, h2⟩
      simp only [] at this
      simp_all
  have hin := (inP_tab ⟨s, by omega⟩ ⟨a, ha⟩).resolve_left h0
  simp only [] at hin
  rw [hs, Int.toNat_natCast, ← hin] at hE
  have hcmp : ((((opW (x ^^^ 2 ^ a) : Nat) : Int) == ((opW x : Nat) : Int)) : Bool) = inP (plL s) a := by
    rw [← hE, Bool.eq_iff_iff, beq_iff_eq, decide_eq_true_eq, Int.natCast_inj]
  have hlen := plL_len ⟨s, by omega⟩
  simp only [] at hlen
  have hopl : opW x ≤ 39 := by rcases opW_or x with ⟨e, -⟩ | ⟨h1, h2, h3⟩ <;> omega
  have HCMP := Lib.hid hcmp
  have HLL := Lib.hid hlen.2
  have hl5 := hlen.1
  have HSUC := Lib.hid (fun k hk => @inP_succ (plL s) k hk (a : Int))
  have HI0 : inP ((plL s).take 0) a = false := rfl
  have hp2 : 2 ^ a < 4294967296 := Nat.pow_lt_pow_right (n := 32) (by decide) ha
  have hp0 : 0 < 2 ^ a := Nat.two_pow_pos a
  clear hin hE hcmp hlen hs hb h0 hw
  generalize hl : plL s = l at *
  generalize hxo : x ^^^ 2 ^ a = y at *
  generalize opW y = oy at *
  generalize opW x = ox at *
  obtain ⟨nl, hnl⟩ : ∃ nl, l.length = nl := ⟨_, rfl⟩
  have hn5 : nl ≤ 5 := by omega
  have HNL := Lib.hid hnl
  clear hl hxo hnl hl5
  have go : ∀ (v : Int), v = (y : Int) → v = (y : Int) := fun v h => h
  generalize x / 2 ^ a % 2 = bt at *
  have hq0 : bt = 0 → ((x : Int) + 2 ^ a % 4294967296) % 4294967296 = (y : Int) := fun h => by
    have h1 := hmx.1 h
    have := pow_cast a
    omega
  have hq1 : bt = 1 → ((x : Int) - 2 ^ a % 4294967296) % 4294967296 = (y : Int) := fun h => by
    have h1 := hmx.2.1 h
    have := pow_cast a
    omega
  have HY := Lib.hid hmx.2.2
  clear hmx go
  rcases hb01 with rfl | rfl
  all_goals
    first
    | have HQ := Lib.hid (hq0 rfl)
    | have HQ := Lib.hid (hq1 rfl)
    clear hq0 hq1
    go_enter Tryd.func6, Tryd.ntmps6
    go_upto_region 8 with (first
      | (go_at_call 15; ((with_reducible refine (HO.out _ (HT.out.below HB.out)).mono ?_); rintro e w1 ⟨rfl, hb⟩; replace HB := Lib.hid (after HB.out hb); clear hb))
      | (go_at_call 18; ((with_reducible refine (HF.out _).mono ?_); rintro e w1 ⟨rfl, hb⟩; replace HB := Lib.hid (after HB.out hb); clear hb)))
    rw [HQ.out]
    go_wp2_with (first
      | (go_at_call 20; ((with_reducible refine (HSh.out _).mono ?_); rintro e w1 ⟨rfl, hb⟩; replace HB := Lib.hid (after HB.out hb); clear hb))
      | (go_at_call 19; ((with_reducible refine (HPl.out _).mono ?_); rintro e wp ⟨pa, pc, rfl, hsl, hb⟩; rw [HNL.out] at hsl ⊢; have HS := Lib.hid hsl; replace HB := Lib.hid (after HB.out hb); clear hb hsl)))
    go_loopw [9, 11] (fun b i wl => ∃ k : Nat, k ≤ nl ∧ i = .int .i64 k ∧ b = .bool (inP (l.take k) a) ∧ Below wp.heap.size wp wl) (fun _ i _ => nl - (intOf i).toNat)
    case atStart => exact ⟨0, by omega, rfl, by rw [HI0], Below.refl _ _⟩
    case round =>
      obtain ⟨k, hk, rfl, rfl, hb⟩ := hrel
      by_cases hlt : k < nl
      · have hk1 : k < l.length := by have := HNL.out; omega
        obtain ⟨b, off, rfl, hBl, hc⟩ := (HS.out.below hb).cells (HS.out.ne hlt)
        have c0 := hc k hk1 0 (by omega)
        have c1 := hc k hk1 1 (by omega)
        have HE := Lib.hid (HSUC.out k hk1)
        have hbd := HLL.out l[k] (List.getElem_mem _)
        generalize l[k] = p at *
        obtain ⟨p1, p2⟩ := p
        simp only [encQ, Nat.add_zero, List.getElem?_cons_zero, List.getElem?_cons_succ] at c0 c1 hbd
        clear hc
        cases hin : inP (l.take k) a
        · by_cases g1 : p1 ≤ a
          · by_cases g2 : (a : Int) < p1 + p2
            · have HR : Hid (inP (l.take (k + 1)) a = true) := Lib.hid (by rw [HE.out, hin]; simp [g1, g2])
              go_wp2_with fail
              go_quiet (fail)
              go_wp2
              go_roundw
              case rel => exact ⟨k + 1, by omega, by go_num, by rw [HR.out], below_drewN hb _⟩
              case measure => simp [intOf]; omega
            · have HR : Hid (inP (l.take (k + 1)) a = false) := Lib.hid (by rw [HE.out, hin]; simp [g1, g2])
              go_wp2_with fail
              go_quiet (fail)
              go_wp2
              go_roundw
              case rel => exact ⟨k + 1, by omega, by go_num, by rw [HR.out, decide_eq_false (show ¬ (a : Int) < p1 + p2 by omega)], below_drewN hb _⟩
              case measure => simp [intOf]; omega
          · have HR : Hid (inP (l.take (k + 1)) a = false) := Lib.hid (by rw [HE.out, hin]; simp [g1])
            have hb1 : decide (p1 ≤ (a : Int)) = false := decide_eq_false g1
            go_wp2_with fail
            go_quiet (fail)
            go_wp2
            go_roundw
            case rel => exact ⟨k + 1, by omega, by go_num, by rw [HR.out], below_drewN hb _⟩
            case measure => simp [intOf]; omega
        · have HR : Hid (inP (l.take (k + 1)) a = true) := Lib.hid (by rw [HE.out, hin]; rfl)
          go_wp2_with fail
          go_quiet (fail)
          go_wp2
          go_roundw
          case rel => exact ⟨k + 1, by omega, by go_num, by rw [HR.out], below_drewN hb _⟩
          case measure => simp [intOf]; omega
      · have hkl : l.take k = l := List.take_of_length_le (by have := HNL.out; omega)
        rw [hkl]
        have hcm := HCMP.out
        replace HB := Lib.hid (after HB.out hb)
        generalize inP l a = q at *
        cases q
        all_goals
          go_wp2_with (first
            | (go_at_call 14; ((with_reducible refine (HC.out _ (HT.out.below HB.out)).mono ?_); rintro e w1 ⟨rfl, hb⟩; replace HB := Lib.hid (after HB.out hb); clear hb))
            | (go_at_call 15; ((with_reducible refine (HO2.out _ (HT.out.below HB.out)).mono ?_); rintro e w1 ⟨rfl, hb⟩; replace HB := Lib.hid (after HB.out hb); clear hb)))
          go_ret
          exact retB_bool rfl HB.out

set_option maxRecDepth 100000 in
set_option maxHeartbeats 4000000 in
theorem CodeBit_out (x : Nat) (at' : Int) (hx : x < 4294967296) (hc : opW x = 0 ∨ ¬ (0 ≤ at' ∧ at' < 32)) (w : World) (hw : Tab6 w) : Calls Tryd.prog 6 #[.int .u32 x, .int .i64 at'] w (RetB (.bool true) w) := by
  have HT := Lib.hid hw
  have HC : Hid (∀ w, Tab6 w → Calls Tryd.prog 14 #[] w (RetB (.bool true) w)) := Lib.hid fun w h => coded_any w h
  have HB := Lib.hid (Below.refl w.heap.size w)
  have HO : Hid (∀ w, Tab6 w → Calls Tryd.prog 15 #[.int .u32 x] w (RetB (.int .i64 (opW x : Nat)) w)) := Lib.hid fun w h => (Opcode_any x hx w h).mono fun _ _ h => h.toB
  have HF : Hid (∀ w, Calls Tryd.prog 18 #[.int .u32 x, .int .i64 at', .int .i64 1] w (RetB (.tuple #[.int .u32 (fieldS x at' 1).1, .int .i64 (fieldS x at' 1).2]) w)) := Lib.hid fun w => (field_any x at' 1 w (by omega) (by omega)).mono fun _ _ h => h.toB
  have hcase : opW x = 0 ∨ (1 ≤ opW x ∧ opW x ≤ 39 ∧ (fieldS x at' 1).2 = 1) := by
    rcases opW_or x with ⟨e, -⟩ | ⟨h1, h2, h3⟩
    · exact .inl e
    · right
      refine ⟨h1, by omega, ?_⟩
      have h4 := hc.resolve_left (by omega)
      unfold fieldS rightB
      rw [if_pos (by rw [decide_eq_false_iff_not]; omega)]
  clear hc hw
  generalize (fieldS x at' 1).1 = v1 at *
  generalize (fieldS x at' 1).2 = e1 at *
  generalize opW x = op at *
  rcases hcase with rfl | ⟨h1, h2, rfl⟩
  · go_enter Tryd.func6, Tryd.ntmps6
    go_wp2_with (first
      | (go_at_call 15; ((with_reducible refine (HO.out _ (HT.out.below HB.out)).mono ?_); rintro e w1 ⟨rfl, hb⟩; replace HB := Lib.hid (after HB.out hb); clear hb))
      | (go_at_call 18; ((with_reducible refine (HF.out _).mono ?_); rintro e w1 ⟨rfl, hb⟩; replace HB := Lib.hid (after HB.out hb); clear hb))
      | (go_at_call 14; ((with_reducible refine (HC.out _ (HT.out.below HB.out)).mono ?_); rintro e w1 ⟨rfl, hb⟩; replace HB := Lib.hid (after HB.out hb); clear hb)))
    go_ret
    exact retB_bool rfl HB.out
  · have q0 : (((op : Nat) : Int) == 0) = false := by rw [beq_eq_false_iff_ne]; omega
    go_enter Tryd.func6, Tryd.ntmps6
    go_wp2_with (first
      | (go_at_call 15; ((with_reducible refine (HO.out _ (HT.out.below HB.out)).mono ?_); rintro e w1 ⟨rfl, hb⟩; replace HB := Lib.hid (after HB.out hb); clear hb))
      | (go_at_call 18; ((with_reducible refine (HF.out _).mono ?_); rintro e w1 ⟨rfl, hb⟩; replace HB := Lib.hid (after HB.out hb); clear hb))
      | (go_at_call 14; ((with_reducible refine (HC.out _ (HT.out.below HB.out)).mono ?_); rintro e w1 ⟨rfl, hb⟩; replace HB := Lib.hid (after HB.out hb); clear hb)))
    all_goals
      go_ret
      exact retB_bool rfl HB.out
theorem CodeBit_walk (x : Int) (hx : 0 ≤ x ∧ x < 4294967296) (at' : Int) (hat : -9223372036854775808 ≤ at' ∧ at' ≤ 9223372036854775807) (w : World) (hw : Tab6 w) : Calls Tryd.prog 6 #[.int .u32 x, .int .i64 at'] w (RetB (.bool true) w) := by
  obtain ⟨k, rfl⟩ := Int.eq_ofNat_of_zero_le hx.1
  by_cases hc : opW k = 0 ∨ ¬ (0 ≤ at' ∧ at' < 32)
  · exact CodeBit_out k at' (by omega) hc w hw
  · have h2 : 1 ≤ opW k ∧ 0 ≤ at' ∧ at' < 32 := by omega
    obtain ⟨a, rfl⟩ := Int.eq_ofNat_of_zero_le h2.2.1
    exact CodeBit_in k a (by omega) (by omega) h2.1 w hw
end Go.Proofs.YtfhpcjeefdkacaaDoor
