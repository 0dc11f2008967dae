/- What the reference's Word answers, for every row of at most 1000000 fields: the same as bits.Word. -/
import Derived.Test.YtpneegmggoebhaaY4
namespace Go.Proofs.Ytpneegmggoebhaa
open Go.RowKit
set_option linter.unusedVariables false

def Taken (w : World) (b t : Nat) : Prop := ∀ j, j < 32 → w.cell? ⟨b, j, none⟩ = some (.bool (t.testBit j)) ∧ w.frozen? ⟨b, j, none⟩ = false

theorem Taken.step {w : World} {b T : Nat} (h : Taken w b T) (q : Nat) (hq : q < 32) (T' : Nat) (hT : ∀ j, j < 32 → T'.testBit j = (T.testBit j || decide (j = q))) (n : Nat) :
    Taken ((w.drewN n).setCell ⟨b, q, none⟩ (.bool true)) b T' := by
  intro j hj
  have h1 : (w.drewN n).cell? ⟨b, j, none⟩ = some (.bool (T.testBit j)) := (h j hj).1
  have h2 : (w.drewN n).frozen? ⟨b, j, none⟩ = false := (h j hj).2
  have h3 : (w.drewN n).cell? ⟨b, q, none⟩ = some (.bool (T.testBit q)) := (h q hq).1
  refine ⟨?_, by rw [World.frozen?_setCell]; exact h2⟩
  rw [hT j hj]
  by_cases e : j = q
  · subst e
    rw [World.cell?_setCell_same _ _ _ h3]; simp
  · rw [World.cell?_setCell_other]
    · rw [h1]; simp [e]
    · intro hh; simp only [Addr.mk.injEq] at hh; omega
theorem step_bit (t A q : Nat) (h : A ≤ q) (j : Nat) : (t ||| (2 ^ (q + 1 - A) - 1) * 2 ^ A).testBit j = ((t ||| (2 ^ (q - A) - 1) * 2 ^ A).testBit j || decide (j = q)) := by
  rw [Nat.testBit_or, Nat.testBit_or, Nat.mul_comm, Nat.testBit_two_pow_mul, Nat.testBit_two_pow_sub_one, Nat.mul_comm, Nat.testBit_two_pow_mul, Nat.testBit_two_pow_sub_one]
  cases t.testBit j
  · simp only [Bool.false_or]
    by_cases c : A ≤ j
    · by_cases c2 : j = q
      · subst c2; simp [c]; omega
      · have : (j - A < q + 1 - A) = (j - A < q - A) := by simp only [eq_iff_iff]; omega
        simp [c, c2, this]
    · simp [c]; omega
  · simp
theorem Taken.made (w : World) (T : TypeId) : Taken (w.alloc (.cells (Array.replicate 32 (.bool false)) T)) w.heap.size 0 := by
  intro j hj
  constructor
  · have e := (MapKept.heap_alloc w (.cells (Array.replicate 32 (.bool false)) T)).1
    unfold World.cell?; rw [e]; simp [Array.getElem?_replicate, hj]
  · have e := (MapKept.heap_alloc w (.cells (Array.replicate 32 (.bool false)) T)).1
    unfold World.frozen?; rw [e]; simp

theorem or_add (x y : Nat) (hx : x < 18446744073709551616) (hy : y < 18446744073709551616) (h : x &&& y = 0) (hs : x + y < 18446744073709551616) : x ||| y = x + y := by
  have e : BitVec.ofNat 64 x &&& BitVec.ofNat 64 y = 0#64 := by
    apply BitVec.eq_of_toNat_eq
    simp only [BitVec.toNat_and, BitVec.toNat_ofNat]
    rw [Nat.mod_eq_of_lt hx, Nat.mod_eq_of_lt hy, h]
  have := congrArg BitVec.toNat (BitVec.add_eq_or_of_and_eq_zero _ _ e)
  rw [BitVec.toNat_add, BitVec.toNat_or, BitVec.toNat_ofNat, BitVec.toNat_ofNat, Nat.mod_eq_of_lt hx, Nat.mod_eq_of_lt hy] at this
  omega
theorem mul_bound (V A N : Int) (v0 : 0 ≤ V) (hv : V < 2 ^ N.toNat) (h1 : 0 ≤ A) (h2 : 0 ≤ N) (h3 : N ≤ 32 - A) : 0 ≤ V * 2 ^ A.toNat ∧ V * 2 ^ A.toNat < 4294967296 := by
  have h4 := pow_pos' A.toNat
  have h5 : (2 : Int) ^ N.toNat * 2 ^ A.toNat ≤ 4294967296 := by rw [← Int.pow_add]; exact (pow_le _ 32 (by omega) _ (by decide)).2
  have h6 : V * 2 ^ A.toNat < 2 ^ N.toNat * 2 ^ A.toNat := Int.mul_lt_mul_of_pos_right hv (by omega)
  exact ⟨Int.mul_nonneg v0 (by omega), by omega⟩
theorem add_step (t t' : Nat) (A N V : Int) (ht : t < 4294967296) (r1 : 0 ≤ A) (r3 : 1 ≤ N) (r4 : N ≤ 32 - A) (v0 : 0 ≤ V) (hv : V < 2 ^ N.toNat) (hs : ∀ j, t.testBit j = true → t'.testBit j = true) (hz : t' &&& bitsOf (A, N, V) = 0) :
    (t : Int) + V * 2 ^ A.toNat = ((t ||| V.toNat * 2 ^ A.toNat : Nat) : Int) ∧ t ||| V.toNat * 2 ^ A.toNat < 4294967296 ∧ ∀ j, (t ||| V.toNat * 2 ^ A.toNat).testBit j = true → (t' ||| bitsOf (A, N, V)).testBit j = true := by
  have h3 := shl_int V A N r1 r3 r4 v0 hv
  obtain ⟨v, rfl⟩ := Int.eq_ofNat_of_zero_le v0
  simp only [Int.toNat_natCast] at h3 ⊢
  have hv' : v < 2 ^ N.toNat := by rw [← pow_cast] at hv; omega
  have hsub : ∀ j, (v * 2 ^ A.toNat).testBit j = true → (bitsOf (A, N, (v : Int))).testBit j = true := by
    intro j hj
    rw [bitsOf_bit _ r1 (by simp only []; omega)]
    rw [Nat.mul_comm, Nat.testBit_two_pow_mul] at hj
    simp only [Bool.and_eq_true, decide_eq_true_eq] at hj ⊢
    refine ⟨hj.1, ?_⟩
    apply Classical.byContradiction
    intro hn
    have := Nat.testBit_lt_two_pow (x := v) (i := j - A.toNat) (Nat.lt_of_lt_of_le hv' (Nat.pow_le_pow_right (by decide) (by omega)))
    rw [this] at hj; simp at hj
  have hand : t &&& v * 2 ^ A.toNat = 0 := by
    apply Nat.eq_of_testBit_eq
    intro j
    rw [Nat.testBit_and, Nat.zero_testBit]
    cases h1 : t.testBit j
    · rfl
    · cases h2 : (v * 2 ^ A.toNat).testBit j
      · rfl
      · have := and_zero_bit hz j (hsub j h2)
        rw [hs j h1] at this; cases this
  have hor := or_add t (v * 2 ^ A.toNat) (by omega) (by omega) hand (by omega)
  refine ⟨by rw [hor, ← pow_cast, ← Int.natCast_mul, Int.natCast_add], Nat.or_lt_two_pow (n := 32) ht h3.2, ?_⟩
  intro j hj
  rw [Nat.testBit_or, Bool.or_eq_true] at hj ⊢
  rcases hj with hj | hj
  · exact .inl (hs j hj)
  · exact .inr (hsub j hj)

set_option maxRecDepth 100000 in
set_option maxHeartbeats 800000 in
theorem refWord_any (a : Option Addr) (n c : Nat) (l : List F3) (w : World) (hn : n ≤ 1000000) (h : FS w w.heap.size a n l) :
    Calls Try.prog 13 #[.slice a n c] w (RetB (two .u32 .i64 (wordS l)) w) := by
  have hmk : ∀ w, (Instr.makeSlice 50 (.int .i64 32) (.int .i64 32)).run Try.prog w = .ok (.slice (some ⟨w.heap.size, 0, none⟩) 32 32) (w.alloc (.cells (Array.replicate 32 (.bool false)) 4)) := fun _ => by kernel_rfl
  go_enter Try.func13, Try.ntmps13
  go_wp2_with fail
  go_loopw [5, 6] (fun i p wr => ∃ k t : Nat, k ≤ n ∧ i = .int .i64 k ∧ t < 4294967296 ∧ apartL l 0 = apartL (l.drop k) t ∧ Taken wr w.heap.size t ∧ Below w.heap.size w wr) (fun i _ _ => n - (intOf i).toNat)
  case atStart =>
    refine ⟨0, 0, by omega, rfl, by decide, rfl, ?_, (Below.refl _ w).alloc (Nat.le_refl _) _⟩
    exact Taken.made w _
  case round =>
    clear hmk
    obtain ⟨k, t, hk, rfl, ht, hap, htk, hb⟩ := hrel
    have hlen := h.len
    by_cases hlt : k < n
    · obtain ⟨b, off, rfl, hB, hc⟩ := (h.below hb).cells (by intro e; rw [e] at hlen; simp at hlen; omega)
      have hkl : k < l.length := by omega
      obtain ⟨c0, c1, c2⟩ := hc k hkl
      obtain ⟨v0, v1, n0, n1, m0, m1⟩ := h.wf l[k] (List.getElem_mem _)
      have HD := Lib.hid (drop_cons hkl)
      generalize l[k] = f at c0 c1 c2 v0 v1 HD n0 n1 m0 m1
      obtain ⟨A, N, V⟩ := f
      replace n0 : -9223372036854775808 ≤ A := n0
      replace m0 : -9223372036854775808 ≤ N := m0
      have HL := Lib.hid hlen
      have HAP := Lib.hid hap
      have HT := Lib.hid htk
      clear hc hlen hap htk h
      by_cases hr : 0 ≤ A ∧ A < 32 ∧ 1 ≤ N ∧ N ≤ 32 - A
      · have hrf : decide (0 ≤ A ∧ A < 32 ∧ 1 ≤ N ∧ N ≤ 32 - A) = true := by simpa using hr
        have HR := Lib.hid hr
        obtain ⟨r1, r2, r3, r4⟩ := hr
        obtain ⟨A, rfl⟩ := Int.eq_ofNat_of_zero_le r1
        obtain ⟨N, rfl⟩ := Int.eq_ofNat_of_zero_le (show 0 ≤ N by omega)
        go_wp2_with fail
        go_quiet ((go_at_call 26; exact Calls.quiet_of_same ((Right_any _ _ _).mono fun e w' h => ⟨h.1, h.2.symm⟩)))
        go_wp2_with fail
        obtain ⟨wo, ho⟩ : ∃ wo : World, wo = wr.drewN nq := ⟨_, rfl⟩
        rw [← ho]
        have hbo : Below w.heap.size w wo := by rw [ho]; exact below_drewN hb _
        have c0o : wo.cell? ⟨b, off + k * 3, none⟩ = some (.int .i64 A) := by rw [ho]; exact c0
        have c1o : wo.cell? ⟨b, off + k * 3 + 1, none⟩ = some (.int .i64 N) := by rw [ho]; exact c1
        have HTo : Hid (Taken wo w.heap.size t) := by rw [ho]; exact HT
        clear ho c0 c1 c2 HT hb
        go_loopw [6] (fun p wi => ∃ q : Nat, A ≤ q ∧ q ≤ A + N ∧ p = .int .i64 q ∧ (∀ j, A ≤ j → j < q → t.testBit j = false) ∧ Taken wi w.heap.size (t ||| (2 ^ (q - A) - 1) * 2 ^ A) ∧ Below w.heap.size wo wi) (fun p _ => A + N - (intOf p).toNat)
        case atStart => exact ⟨A, by omega, by omega, rfl, by omega, by simpa using HTo.out, Below.refl _ _⟩
        case round =>
          obtain ⟨q, q1, q2, rfl, hfree, htk, hbi⟩ := hrel
          have c0i : wr.cell? ⟨b, off + k * 3, none⟩ = some (.int .i64 A) := (hbi.cell (p := ⟨b, off + k * 3, none⟩) hB).trans c0o
          have c1i : wr.cell? ⟨b, off + k * 3 + 1, none⟩ = some (.int .i64 N) := (hbi.cell (p := ⟨b, off + k * 3 + 1, none⟩) hB).trans c1o
          have hbw : Below w.heap.size w wr := hbo.trans hbi
          have hsz := hbw.size
          have hbx := hbi
          have hFR := Lib.hid hfree
          clear c0o c1o HTo hbi hbo hfree
          by_cases hq : q < A + N
          · obtain ⟨ct, cf⟩ := htk q (by omega)
            have HT := Lib.hid htk
            have e1 : (t ||| (2 ^ (q - A) - 1) * 2 ^ A).testBit q = t.testBit q := by
              rw [Nat.testBit_or, Nat.mul_comm, Nat.testBit_two_pow_mul, Nat.testBit_two_pow_sub_one]; simp
            rw [e1] at ct
            clear e1 htk
            cases htq : t.testBit q
            · rw [htq] at ct
              have HQ := Lib.hid htq
              clear htq
              go_wp2_with fail
              go_quiet (fail)
              go_wp2_with fail
              go_roundw
              case rel =>
                refine ⟨q + 1, by omega, by omega, by go_num, ?_, ?_, ?_⟩
                · intro j j1 j2
                  by_cases e : j = q
                  · rw [e]; exact HQ.out
                  · exact hFR.out j j1 (by omega)
                · exact Taken.step HT.out q (by omega) _ (fun j hj => step_bit t A q q1 j) nq
                · exact (below_drewN hbx nq).setCell (p := ⟨w.heap.size, q, none⟩) (Nat.le_refl _) _
              case measure => simp [intOf]; omega
            · rw [htq] at ct
              have HQ := Lib.hid htq
              clear htq
              go_wp2_with fail
              go_quiet (fail)
              go_wp2_with fail
              go_ret2
              refine ⟨?_, below_drewN hbw _⟩
              have e : apartL l 0 = false := by
                rw [HAP.out, HD.out, apartL, if_neg (by simpa [rightB] using HR.out), if_pos]
                intro hz
                have := and_zero_bit hz q (by rw [bitsOf_bit _ (by simp) (by simp)]; simp; omega)
                rw [HQ.out] at this; cases this
              unfold wordS two; rw [if_pos e]; rfl
          · have HT := Lib.hid htk
            clear htk
            go_wp2_with fail
            go_quiet (fail)
            go_wp2_with fail
            go_roundw
            case rel =>
              have eN : q = A + N := by omega
              refine ⟨k + 1, t ||| bitsOf ((A : Int), (N : Int), V), by omega, by go_num, ?_, ?_, ?_, below_drewN hbw nq⟩
              · exact Nat.or_lt_two_pow (n := 32) ht (bitsOf_int ((A : Int), (N : Int), V) (by simp) (by simp) (by simp only []; omega)).2
              · rw [HAP.out, HD.out, apartL, if_neg (by simpa [rightB] using HR.out), if_neg]
                simp only [ne_eq, Classical.not_not]
                apply Nat.eq_of_testBit_eq
                intro j
                rw [Nat.testBit_and, bitsOf_bit _ (by simp) (by simp), Nat.zero_testBit]
                simp only [Int.toNat_natCast]
                by_cases cj : A ≤ j ∧ j < A + N
                · rw [hFR.out j cj.1 (by omega)]; simp
                · simp; omega
              · have := HT.out
                rw [eN, show A + N - A = N from by omega] at this
                have e2 : Taken wr w.heap.size (t ||| bitsOf ((A : Int), (N : Int), V)) := by simpa [bitsOf] using this
                exact e2
            case measure => simp [intOf]; omega
      · have hrf : decide (0 ≤ A ∧ A < 32 ∧ 1 ≤ N ∧ N ≤ 32 - A) = false := by simpa using hr
        have HR := Lib.hid hr
        clear hr
        go_wp2_with fail
        go_quiet ((go_at_call 26; exact Calls.quiet_of_same ((Right_any _ _ _).mono fun e w' h => ⟨h.1, h.2.symm⟩)))
        go_wp2_with fail
        go_ret2
        refine ⟨?_, below_drewN hb _⟩
        have e : apartL l 0 = false := by rw [HAP.out, HD.out, apartL, if_pos (by simpa [rightB] using HR.out)]
        unfold wordS two; rw [if_pos e]; rfl
    · have hap0 : apartL l 0 = true := by rw [hap, List.drop_of_length_le (by omega)]; rfl
      have hap1 := Lib.hid hap0
      have HLEN := Lib.hid hlen
      clear hap hap0 htk hlen
      go_wp2_with fail
      go_loopw [7, 8] (fun s i wr => ∃ k t t' : Nat, k ≤ n ∧ i = .int .i64 k ∧ s = .int .u64 t ∧ t < 4294967296 ∧ wordL l 0 = wordL (l.drop k) t ∧ apartL (l.drop k) t' = true ∧ (∀ j, t.testBit j = true → t'.testBit j = true) ∧ Below w.heap.size w wr) (fun _ i _ => n - (intOf i).toNat)
      case atStart => exact ⟨0, 0, 0, by omega, rfl, rfl, by decide, rfl, hap1.out, by simp, hb⟩
      case round =>
        clear hb ht hk hlt
        obtain ⟨k, t, t', hk, rfl, rfl, ht, hwl, hap, hsub, hb⟩ := hrel
        by_cases hlt : k < n
        · obtain ⟨b, off, rfl, hB, hc⟩ := (h.below hb).cells (by intro e; have hlen := HLEN.out; rw [e] at hlen; simp at hlen; omega)
          have hkl : k < l.length := by have := HLEN.out; omega
          obtain ⟨c0, c1, c2⟩ := hc k hkl
          obtain ⟨v0, v1, n0, n1, m0, m1⟩ := h.wf l[k] (List.getElem_mem _)
          have hd := drop_cons hkl
          rw [hd] at hap
          have HD := Lib.hid hd
          clear hd
          generalize l[k] = f at c0 c1 c2 v0 v1 HD n0 n1 m0 m1 hap
          obtain ⟨A, N, V⟩ := f
          replace v0 : 0 ≤ V := v0
          replace v1 : V < 4294967296 := v1
          rw [apartL] at hap
          have hr : rightB A N = true := by
            cases h : rightB A N
            · rw [if_pos h] at hap; cases hap
            · rfl
          rw [if_neg (by simp only [hr]; decide)] at hap
          have hz : t' &&& bitsOf (A, N, V) = 0 := by
            apply Classical.byContradiction
            intro hz
            rw [if_pos hz] at hap; cases hap
          rw [if_neg (by simpa using hz)] at hap
          obtain ⟨r1, r2, r3, r4⟩ := (show 0 ≤ A ∧ A < 32 ∧ 1 ≤ N ∧ N ≤ 32 - A from of_decide_eq_true hr)
          have HZ := Lib.hid hz
          have HAP := Lib.hid hap
          have HWL := Lib.hid hwl
          have HS := Lib.hid hsub
          clear hc hwl hap hr hz hsub h
          by_cases hv : 2 ^ N.toNat ≤ V
          · have HV := Lib.hid hv
            clear hv
            go_wp2_with fail
            go_quiet ((go_at_call 29; exact Calls.quiet_of_same ((Small_no _ _ _ (by omega) (by omega) (by have := HV.out; omega)).mono fun e w' h => ⟨h.1, h.2.symm⟩)))
            go_wp2_with fail
            go_ret2
            refine ⟨?_, below_drewN hb _⟩
            have e : apartL l 0 = true := hap1.out
            unfold wordS two; rw [if_neg (by simp [e]), HWL.out, HD.out, wordL, if_pos HV.out]; rfl
          · have hadd := add_step t t' A N V ht r1 r3 r4 v0 (by omega) HS.out HZ.out
            have hp := pow32 A (by omega)
            have hvp := mul_bound V A N v0 (by omega) r1 (by omega) r4
            have HV := Lib.hid hv
            have HA := Lib.hid hadd
            clear hv hadd
            go_wp2_with fail
            go_quiet ((go_at_call 29; exact Calls.quiet_of_same ((Small_yes _ _ _ (by omega) (by omega) (by have := HV.out; omega)).mono fun e w' h => ⟨h.1, h.2.symm⟩)))
            go_wp2_with fail
            obtain ⟨wo, ho⟩ : ∃ wo : World, wo = wr.drewN nq := ⟨_, rfl⟩
            rw [← ho]
            have hbo : Below w.heap.size w wo := by rw [ho]; exact below_drewN hb _
            replace c0 : wo.cell? ⟨b, off + k * 3, none⟩ = some (.int .i64 A) := by rw [ho]; exact c0
            replace c2 : wo.cell? ⟨b, off + k * 3 + 2, none⟩ = some (.int .u32 V) := by rw [ho]; exact c2
            clear ho c1 hb
            go_quiet ((go_at_call 27; exact Calls.quiet_of_same ((Power_any _ _ (by omega)).mono fun e w' h => ⟨h.1, h.2.symm⟩)))
            go_wp2_with fail
            go_roundw
            case rel =>
              exact ⟨k + 1, t ||| V.toNat * 2 ^ A.toNat, t' ||| bitsOf (A, N, V), by omega, by go_num, by rw [HA.out.1], HA.out.2.1, by rw [HWL.out, HD.out, wordL, if_neg (by have := HV.out; show ¬ (2 : Int) ^ N.toNat ≤ V; omega)], HAP.out, HA.out.2.2, below_drewN hbo _⟩
            case measure => simp [intOf]; omega
        · go_wp2_with fail
          go_ret2
          refine ⟨?_, hb⟩
          have e : apartL l 0 = true := hap1.out
          unfold wordS two; rw [if_neg (by simp [e]), hwl, List.drop_of_length_le (by have := HLEN.out; omega), wordL]
          rfl
end Go.Proofs.Ytpneegmggoebhaa
