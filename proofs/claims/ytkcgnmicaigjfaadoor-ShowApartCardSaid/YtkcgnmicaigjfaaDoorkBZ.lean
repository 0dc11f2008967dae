/- mask.Size. mask.make64. Plain facts on turns; no Go in sight. The answer of find, as a plain function. Masks as patterns: each has one shape, and the shape is what is found; no Go in sight. -/
import Derived.Test.YtkcgnmicaigjfaaDoorkBY
namespace Go.Proofs.YtkcgnmicaigjfaaDoor
set_option linter.unusedVariables false
set_option linter.unusedSimpArgs false
open Go.RowKit

theorem repeat_low (v m : Nat) (w : World) (hs : isSz m = true) :
    Calls Tryd.prog 81 #[.int .u64 (v % 2 ^ m : Nat), .int .i64 m] w (Ret (.int .u64 (agN (v % 2 ^ m) m 64 : Nat)) w) :=
  repeat_any _ m w hs (Nat.mod_lt _ (Nat.two_pow_pos m))
def CloSmall (w : World) (B m : Nat) (e : Ending) (w' : World) : Prop :=
  e = .returned (.int .i64 ((2 * m : Nat) : Int)) ∧ Cell1 w' B ((2 * m : Nat) : Int) ∧ w.grownBy w' (some B)
theorem clo_small (m B : Nat) (w : World) (h1 : 1 ≤ m) (h2 : m ≤ 32) (hB : Cell1 w B m) :
    Calls Tryd.prog 89 #[.pointer (some ⟨B, 0, none⟩)] w (CloSmall w B m) := by
  refine (clo_any m B w h1 (by omega) hB).mono ?_
  rintro e w' ⟨he, hc, hg⟩
  rw [if_neg (by omega), Int.mul_comm] at he
  rw [Int.mul_comm] at hc
  exact ⟨by rw [he]; simp, by simpa using hc, hg⟩

set_option maxHeartbeats 1000000 in
theorem Size_any (v : Nat) (w : World) (hv : v < 18446744073709551616) :
    Calls Tryd.prog 63 #[.int .u64 v] w (RetB (.int .i64 (sizeL v : Nat)) w) := by
  have L := Lib.hid (sizeL_least v hv)
  go_enter Tryd.func63, Tryd.ntmps63
  go_wp2_with (first | (go_at_call 80; refine (sizes_any _).mono ?_; rintro e w1 ⟨rfl, rfl⟩))
  obtain ⟨B, hBd⟩ : ∃ B : Nat, B = w.heap.size := ⟨_, rfl⟩
  have hblk : Cell1 (w.alloc (.cells #[.int .i64 1] 3)) B (1 : Nat) := by rw [hBd]; exact (MapKept.heap_alloc w _).1
  have hb2 := (Below.refl w.heap.size w).alloc (Nat.le_refl _) (.cells #[.int .i64 1] 3)
  have hBs : w.heap.size ≤ B := by omega
  rw [← hBd]
  obtain ⟨wo, ho⟩ : ∃ wo : World, wo = w.alloc (.cells #[.int .i64 1] 3) := ⟨_, rfl⟩
  rw [← ho] at hb2 hblk ⊢
  have hBl : B < wo.heap.size := by rw [ho, hBd]; simp
  clear ho hBd
  refine (clo_small 1 B wo (by omega) (by omega) hblk).mono ?_
  rintro e w1 ⟨rfl, hc1, hg⟩
  have hb1 := hb2.grown hg hb2.size (fun j hj => by cases hj; exact hBs)
  have HC := Lib.hid hc1
  clear hb2 hblk hg hc1 hBl
  go_wp2
  go_loopw [4] (fun i wl => ∃ m : Nat, isSz m = true ∧ i = .int .i64 m ∧ (∀ t : Nat, isSz t = true → t < m → pz v t = false) ∧ Cell1 wl B m ∧ Below w.heap.size w wl) (fun i _ => 64 - (intOf i).toNat)
  case atStart => exact ⟨2, rfl, rfl, fun t ht hl => by rcases isSz_nat ht with rfl | rfl | rfl | rfl | rfl | rfl <;> simp at hl, HC.out, hb1⟩
  case round =>
    obtain ⟨m, hm, rfl, hlow, hcell, hb⟩ := hrel
    have hm2 := isSz_le hm
    have H0 := Lib.hid hm
    have HB := Lib.hid hlow
    have HCE := Lib.hid hcell
    clear hm hlow hcell HC
    obtain ⟨x, hx, HL⟩ : ∃ x : Nat, x = v % 2 ^ m ∧ Hid (∀ w, Calls Tryd.prog 64 #[.int .u64 v, .int .i64 m] w (Ret (.int .u64 x) w)) := ⟨_, rfl, Lib.hid fun w => low_natC v m w (by omega) hv⟩
    have HR : Hid (∀ w, Calls Tryd.prog 81 #[.int .u64 x, .int .i64 m] w (Ret (.int .u64 (agN x m 64 : Nat)) w)) := Lib.hid fun w => by rw [hx]; exact repeat_low v m w H0.out
    have he : (((agN x m 64 : Nat) : Int) != (v : Int)) = !pz v m := by rw [hx]; unfold pz; rw [Bool.eq_iff_iff]; simp; omega
    clear hx
    cases hp : pz v m
    · have h32 : m ≤ 32 := by
        rcases isSz_nat H0.out with e | e | e | e | e | e <;> subst e <;> first | omega | (rw [pz64 v hv] at hp; cases hp)
      rw [hp] at he
      have HP := Lib.hid hp
      clear hp
      have he2 : (((agN x m 64 : Nat) : Int) != (v : Int)) = true := he
      clear he
      go_wp2_with (first | (go_at_call 64; refine (HL.out _).mono ?_; rintro e w' ⟨rfl, rfl⟩) | (go_at_call 81; refine (HR.out _).mono ?_; rintro e w' ⟨rfl, rfl⟩))
      refine (clo_small m B _ (by omega) h32 HCE.out).mono ?_
      rintro e w2 ⟨rfl, hc2, hg2⟩
      have hb3 := hb.grown hg2 hb.size (fun j hj => by cases hj; exact hBs)
      have HC2 := Lib.hid hc2
      clear hg2 hc2
      go_wp2
      go_roundw
      case rel =>
        refine ⟨2 * m, by have := H0.out; simp [isSz] at this ⊢; omega, rfl, fun t ht hl => ?_, HC2.out, hb3⟩
        by_cases c : t < m
        · exact HB.out t ht c
        · have e : t = m := by
            rcases isSz_nat ht with rfl | rfl | rfl | rfl | rfl | rfl <;> rcases isSz_nat H0.out with e | e | e | e | e | e <;> omega
          rw [e]; exact HP.out
      case measure => simp [intOf]; omega
    · rw [hp] at he
      have HP := Lib.hid hp
      clear hp
      have he2 : (((agN x m 64 : Nat) : Int) != (v : Int)) = false := he
      clear he
      go_wp2_with (first | (go_at_call 64; refine (HL.out _).mono ?_; rintro e w' ⟨rfl, rfl⟩) | (go_at_call 81; refine (HR.out _).mono ?_; rintro e w' ⟨rfl, rfl⟩))
      go_ret
      refine ⟨?_, hb⟩
      rw [L.out.uniq ⟨H0.out, HP.out, HB.out⟩]; rfl

def maskN (k r s : Nat) : Nat := agN (rotN (2 ^ k - 1) r s s) s 64
theorem low_ones (k : Nat) (hk : k ≤ 63) : 18446744073709551615 % 2 ^ k = 2 ^ k - 1 := by
  have h : 18446744073709551615 = 2 ^ k * (2 ^ (64 - k) - 1) + (2 ^ k - 1) := by
    rw [Nat.mul_sub_one, ← Nat.pow_add, show k + (64 - k) = 64 from by omega]
    have := Nat.pow_le_pow_right (show 0 < 2 by decide) (show k ≤ 64 by omega)
    have := Nat.two_pow_pos k
    omega
  rw [h, Nat.mul_add_mod]
  exact Nat.mod_eq_of_lt (by have := Nat.two_pow_pos k; omega)
theorem lowOnes_any (k : Nat) (w : World) (h1 : 1 ≤ k) (hk : k ≤ 63) :
    Calls Tryd.prog 64 #[.int .u64 18446744073709551615, .int .i64 k] w (Ret (.int .u64 (2 ^ k - 1 : Nat)) w) := by
  have := low_natC 18446744073709551615 k w h1 (by omega)
  rwa [low_ones k hk] at this

set_option maxHeartbeats 1000000 in
theorem make64_any (k r s : Nat) (w : World) (hs : isSz s = true) (h1 : 1 ≤ k) (hk : k < s) (hr : r < s) :
    Calls Tryd.prog 67 #[.agg #[.int .i64 s, .int .i64 r, .int .i64 k]] w (RetB (.int .u64 (maskN k r s)) w) := by
  have hl := isSz_le hs
  have hlt := rotN_lt (2 ^ k - 1) r s s
  have HK : Hid (∀ w, Calls Tryd.prog 64 #[.int .u64 18446744073709551615, .int .i64 k] w (Ret (.int .u64 (2 ^ k - 1 : Nat)) w)) := Lib.hid fun w => lowOnes_any k w h1 (by omega)
  have hp := rotS2 (v := 2 ^ k - 1) hs hr (by
    have h1 : 2 ^ k ≤ 2 ^ s := Nat.pow_le_pow_right (by decide) (by omega)
    have h2 := Nat.two_pow_pos k
    rw [← pow_cast]; omega)
  have hpl := pow_lt64 k (by omega)
  unfold maskN
  obtain ⟨q, hq⟩ : ∃ q, q = rotN (2 ^ k - 1) r s s := ⟨_, rfl⟩
  obtain ⟨o, ho⟩ : ∃ o, o = 2 ^ k - 1 := ⟨_, rfl⟩
  rw [← hq] at hlt ⊢
  have HR : Hid (∀ w, Calls Tryd.prog 84 #[.int .u64 o, .int .i64 r, .int .i64 s] w (Ret (.tuple #[.int .u64 q, .int .i64 0]) w)) := Lib.hid fun w => by
    have := rotate_any ((2 ^ k - 1 : Nat) : Int) r s w (by omega) (by omega)
    rw [hp, ← hq, ← ho] at this
    exact this
  have HP : Hid (∀ w, Calls Tryd.prog 81 #[.int .u64 q, .int .i64 s] w (Ret (.int .u64 (agN q s 64 : Nat)) w)) := Lib.hid fun w => repeat_any q s w hs hlt
  have hql : q < 18446744073709551616 := Nat.lt_of_lt_of_le hlt (Nat.le_trans (Nat.pow_le_pow_right (by decide) (show s ≤ 64 by omega)) (by decide))
  rw [← ho] at HK
  clear hq ho hp hlt hpl hs
  go_enter Tryd.func67, Tryd.ntmps67
  go_wp2
  go_quiet (first
    | (go_at_call 64; exact Calls.quiet_of_same ((HK.out _).mono fun e w' h => ⟨h.1, h.2.symm⟩))
    | (go_at_call 84; exact Calls.quiet_of_same ((HR.out _).mono fun e w' h => ⟨h.1, h.2.symm⟩)))
  go_wp2_with (first | (go_at_call 81; refine (HP.out _).mono ?_; rintro e w' ⟨rfl, rfl⟩))
  go_ret
  exact ⟨rfl, below_drewN ((Below.refl _ _).alloc (Nat.le_refl _) _) _⟩

theorem ctz_bits (x : Nat) (hx : x < 18446744073709551616) (h0 : x ≠ 0) : (∀ j, j < Lib.ctz 64 x → x.testBit j = false) ∧ x.testBit (Lib.ctz 64 x) = true := by
  obtain ⟨m, hm, -⟩ := Lib.ctzFrom_spec 64 x (by omega) hx
  have e : Lib.ctz 64 x = Lib.ctzFrom 64 x := by simp [Lib.ctz, h0]
  rw [← e] at hm
  generalize Lib.ctz 64 x = k at hm
  subst hm
  constructor
  · intro j hj
    rw [Nat.testBit_two_pow_mul]; simp; omega
  · rw [Nat.testBit_two_pow_mul]; simp
theorem pcN_mono (v n m : Nat) (h : n ≤ m) : pcN v n ≤ pcN v m := by
  induction m with
  | zero => rw [show n = 0 by omega]; exact Nat.le_refl _
  | succ m ih =>
    by_cases c : n = m + 1
    · rw [c]; exact Nat.le_refl _
    · have := ih (by omega); rw [pcN]; omega
theorem pcN_all (v n : Nat) (h : ∀ j, j < n → v.testBit j = true) : pcN v n = n := by
  induction n with
  | zero => rfl
  | succ n ih => rw [pcN, ih (fun j hj => h j (by omega)), h n (by omega)]; simp
theorem compl_bit (x j : Nat) (hx : x < 18446744073709551616) (hj : j < 64) : (18446744073709551615 - x).testBit j = !x.testBit j := by
  have := Nat.testBit_two_pow_sub_succ (x := x) (n := 64) hx j
  rw [show 2 ^ 64 - (x + 1) = 18446744073709551615 - x from by omega] at this
  rw [this]; simp [hj]
theorem ctz_compl_le (x : Nat) (hx : x < 18446744073709551616) : Lib.ctz 64 (18446744073709551615 - x) ≤ pcN x 64 := by
  have hl := ctz_le (18446744073709551615 - x) (by omega)
  have ha := pcN_all x (Lib.ctz 64 (18446744073709551615 - x)) (by
    intro j hj
    by_cases h0 : 18446744073709551615 - x = 0
    · have := compl_bit x j hx (by omega)
      rw [h0] at this; simpa using this
    · have h1 := (ctz_bits (18446744073709551615 - x) (by omega) h0).1 j hj
      rw [compl_bit x j hx (by omega)] at h1; simpa using h1)
  have := pcN_mono x _ 64 hl
  omega
theorem turnS_lt (x s : Nat) (hx : x < 18446744073709551616) (hs : 1 ≤ s) (ho : pcN x 64 < s) : ∃ r : Nat, r < s ∧ turnS x s = r := by
  unfold turnS
  by_cases c : x % 2 = 0
  · rw [if_pos c]
    have h1 := Int.emod_nonneg (((s : Int) - (Lib.ctz 64 x : Nat) % s)) (show (s : Int) ≠ 0 by omega)
    have h2 := Int.emod_lt_of_pos (((s : Int) - (Lib.ctz 64 x : Nat) % s)) (show (0 : Int) < s by omega)
    exact ⟨(((s : Int) - (Lib.ctz 64 x : Nat) % s) % s).toNat, by omega, by omega⟩
  · rw [if_neg c]
    have := ctz_compl_le x hx
    exact ⟨pcN x 64 - Lib.ctz 64 (18446744073709551615 - x), by omega, by omega⟩

abbrev Tab (w : World) : Prop := TabAt 7 Lib.deBruijn64tab w ∧ 7 < w.heap.size
theorem Tab.below {w w' : World} {B : Nat} (h : Tab w) (hb : Below B w w') (hB : 7 < B) : Tab w' :=
  ⟨fun j hj => by rw [hb.cell (p := ⟨7, j, none⟩) hB]; exact h.1 j hj, Nat.lt_of_lt_of_le h.2 hb.size⟩
abbrev shapeV (p : Int × Int × Int) : Value := .agg #[.int .i64 p.1, .int .i64 p.2.1, .int .i64 p.2.2]
def partL (v : Nat) : Nat := v % 2 ^ sizeL v
def findS (v : Nat) : Int × Int × Int :=
  if pcN (partL v) 64 = 0 ∨ pcN (partL v) 64 = sizeL v then (0, 0, 0)
  else if maskN (pcN (partL v) 64) (turnS (partL v) (sizeL v)).toNat (sizeL v) = v then (sizeL v, turnS (partL v) (sizeL v), pcN (partL v) 64) else (0, 0, 0)

theorem isSz_of {s : Nat} (h : s = 2 ∨ s = 4 ∨ s = 8 ∨ s = 16 ∨ s = 32 ∨ s = 64) : isSz s = true := by rcases h with rfl | rfl | rfl | rfl | rfl | rfl <;> rfl
theorem bits_ext {a b : Nat} (ha : a < 18446744073709551616) (hb : b < 18446744073709551616) (h : ∀ j, j < 64 → a.testBit j = b.testBit j) : a = b := by
  apply Nat.eq_of_testBit_eq
  intro j
  by_cases c : j < 64
  · exact h j c
  · have hp : 18446744073709551616 ≤ 2 ^ j := Nat.le_trans (by decide) (Nat.pow_le_pow_right (show 0 < 2 by decide) (show 64 ≤ j by omega))
    rw [Nat.testBit_lt_two_pow (Nat.lt_of_lt_of_le ha hp), Nat.testBit_lt_two_pow (Nat.lt_of_lt_of_le hb hp)]
theorem maskN_lt (k r s : Nat) : maskN k r s < 18446744073709551616 := agN_lt _ _ 64
theorem mask_pat (k r s : Nat) (hs : isSz s = true) (h1 : 1 ≤ k) (hk : k < s) (hr : r < s) : IsPat (maskN k r s) k r s := by
  refine ⟨isSz_nat hs, h1, hk, hr, maskN_lt _ _ _, ?_⟩
  intro j hj
  have hpos : 0 < s := by omega
  unfold maskN
  rw [agN_bit, rotN_bit, Nat.testBit_two_pow_sub_one, Nat.mod_add_mod]
  simp [hj, Nat.mod_lt j hpos]
theorem IsPat.eq {v k r s : Nat} (h : IsPat v k r s) : v = maskN k r s := bits_ext h.lt (maskN_lt _ _ _) fun j hj => by
  have q := mask_pat k r s (isSz_of h.size) h.one h.less h.turn
  rw [h.bit j hj, q.bit j hj]
theorem IsPat.sizeL {v k r s : Nat} (h : IsPat v k r s) : sizeL v = s := by
  have hv := h.lt
  refine (sizeL_least v hv).uniq ⟨isSz_of h.size, ?_, fun t ht hts => ?_⟩
  · unfold pz; rw [beq_iff_eq]; exact (agN_per v s hv (by have := h.pos; omega) h.pos.2).2 h.per
  · have ht6 := isSz_nat ht
    have hp := h.pos
    have := h.least t (by omega) hts
    unfold pz
    rw [beq_eq_false_iff_ne]
    intro e
    exact this ((agN_per v t hv (by omega) (by omega)).1 e)
theorem IsPat.partBit {v k r s : Nat} (h : IsPat v k r s) (j : Nat) (hj : j < s) : (v % 2 ^ s).testBit j = decide ((j + r) % s < k) := by
  rw [Nat.testBit_mod_two_pow, h.bit j (by have := h.pos; omega)]
  simp [hj]
theorem IsPat.ones {v k r s : Nat} (h : IsPat v k r s) : pcN (v % 2 ^ s) 64 = k := by
  rw [pcN_more _ s 64 (Nat.mod_lt _ (Nat.two_pow_pos s)) h.pos.2]
  exact pc_row k r s (by have := h.less; omega) h.turn _ h.partBit
theorem ctz_eq (x m : Nat) (hx : x < 18446744073709551616) (h0 : ∀ j, j < m → x.testBit j = false) (h1 : x.testBit m = true) : Lib.ctz 64 x = m := by
  have hne : x ≠ 0 := by rintro rfl; simp at h1
  obtain ⟨a, b⟩ := ctz_bits x hx hne
  rcases Nat.lt_trichotomy (Lib.ctz 64 x) m with c | c | c
  · rw [h0 _ c] at b; cases b
  · exact c
  · rw [a _ c] at h1; cases h1
theorem IsPat.turnS {v k r s : Nat} (h : IsPat v k r s) : turnS (v % 2 ^ s) s = r := by
  have hp := h.pos
  have hr := h.turn
  have hk := h.less
  have h1 := h.one
  have hx : v % 2 ^ s < 18446744073709551616 := Nat.lt_of_le_of_lt (Nat.mod_le _ _) h.lt
  have hb := h.partBit
  have hone := h.ones
  have b0 := hb 0 (by omega)
  rw [Nat.zero_add, Nat.mod_eq_of_lt hr, Nat.testBit_zero] at b0
  unfold Go.Proofs.YtkcgnmicaigjfaaDoor.turnS
  generalize v % 2 ^ s = x at *
  by_cases c : x % 2 = 0
  · rw [if_pos c]
    have hkr : ¬ r < k := by intro h; simp [h] at b0; omega
    have hc : Lib.ctz 64 x = s - r := ctz_eq x (s - r) hx
      (fun j hj => by rw [hb j (by omega), modS _ _ (by omega), if_pos (by omega)]; simp; omega)
      (by rw [hb (s - r) (by omega), show s - r + r = s by omega, Nat.mod_self]; simp; omega)
    rw [hc, Int.emod_eq_of_lt (show (0 : Int) ≤ ((s - r : Nat) : Int) by omega) (by omega), show (s : Int) - ((s - r : Nat) : Int) = r by omega, Int.emod_eq_of_lt (by omega) (by omega)]
  · rw [if_neg c]
    have hkr : r < k := by
      apply Classical.byContradiction; intro h; simp [h] at b0; omega
    have hc : Lib.ctz 64 (18446744073709551615 - x) = k - r := ctz_eq _ (k - r) (by omega)
      (fun j hj => by rw [compl_bit x j hx (by omega), hb j (by omega), modS _ _ (by omega), if_pos (by omega)]; simp; omega)
      (by rw [compl_bit x _ hx (by omega), hb (k - r) (by omega), show k - r + r = k by omega, Nat.mod_eq_of_lt hk]; simp)
    rw [hc, hone]; omega
theorem IsPat.findS {v k r s : Nat} (h : IsPat v k r s) : findS v = ((s : Int), (r : Int), (k : Int)) := by
  have h1 := h.one
  have hk := h.less
  unfold Go.Proofs.YtkcgnmicaigjfaaDoor.findS partL
  rw [h.sizeL, h.ones, h.turnS, if_neg (by omega), Int.toNat_natCast, ← h.eq, if_pos rfl]
theorem findS_none {v : Nat} (hv : v < 18446744073709551616) (h : ∀ k r s, ¬ IsPat v k r s) : findS v = (0, 0, 0) := by
  have L := sizeL_least v hv
  have hsl := isSz_le L.size
  have hps : partL v < 2 ^ sizeL v := Nat.mod_lt _ (Nat.two_pow_pos _)
  have hpv : partL v < 18446744073709551616 := Nat.lt_of_le_of_lt (Nat.mod_le _ _) hv
  have hol : pcN (partL v) 64 ≤ sizeL v := by rw [pcN_more _ _ _ hps (by omega)]; exact pcN_le _ _
  unfold findS
  by_cases c : pcN (partL v) 64 = 0 ∨ pcN (partL v) 64 = sizeL v
  · rw [if_pos c]
  · rw [if_neg c]
    obtain ⟨r, hr, ht⟩ := turnS_lt (partL v) (sizeL v) hpv (by omega) (by omega)
    rw [ht, Int.toNat_natCast]
    by_cases e : maskN (pcN (partL v) 64) r (sizeL v) = v
    · have := mask_pat (pcN (partL v) 64) r (sizeL v) L.size (by omega) (by omega) hr
      rw [e] at this
      exact (h _ _ _ this).elim
    · rw [if_neg e]
/-- A number is a mask of one shape, or of none. -/
theorem pat_or (v : Nat) (hv : v < 18446744073709551616) : (∃ k r s, IsPat v k r s) ∨ ∀ k r s, ¬ IsPat v k r s := by
  by_cases h : ∃ k r s, IsPat v k r s
  · exact .inl h
  · exact .inr fun k r s p => h ⟨k, r, s, p⟩
theorem IsPat.uniq {v k r s k' r' s' : Nat} (h : IsPat v k r s) (g : IsPat v k' r' s') : k = k' ∧ r = r' ∧ s = s' := by
  have e := h.findS.symm.trans g.findS
  simp only [Prod.mk.injEq] at e
  omega
/-- One row among the lowest bits is the whole mask. -/
theorem pat_of_part {v k r s : Nat} (hv : v < 18446744073709551616) (hs : isSz s = true) (hper : pz v s = true) (h1 : 1 ≤ k) (hk : k < s) (hr : r < s) (h : rotN (2 ^ k - 1) r s s = v % 2 ^ s) : IsPat v k r s := by
  have hl := isSz_le hs
  have e : v = maskN k r s := by
    unfold maskN
    rw [h]
    unfold pz at hper
    exact (beq_iff_eq.1 hper).symm
  have := mask_pat k r s hs h1 hk hr
  rwa [← e] at this
theorem IsPat.part {v k r s : Nat} (h : IsPat v k r s) : rotN (2 ^ k - 1) r s s = v % 2 ^ s := by
  apply Nat.eq_of_testBit_eq
  intro j
  rw [rotN_bit, Nat.testBit_two_pow_sub_one]
  by_cases c : j < s
  · rw [h.partBit j c]; simp [c]
  · rw [Nat.testBit_mod_two_pow]; simp [c]

/-- What Decode looks for. -/
def okAt (n r s t : Int) : Bool := (n == upperS t) && decide (r < t) && decide (1 ≤ s - leadS t + 1) && decide (s - leadS t + 1 < t)
def readS (n r s : Int) : Int × Int × Int :=
  if okAt n r s 2 then (2, r, s - leadS 2 + 1) else if okAt n r s 4 then (4, r, s - leadS 4 + 1) else if okAt n r s 8 then (8, r, s - leadS 8 + 1)
  else if okAt n r s 16 then (16, r, s - leadS 16 + 1) else if okAt n r s 32 then (32, r, s - leadS 32 + 1) else if okAt n r s 64 then (64, r, s - leadS 64 + 1) else (0, 0, 0)
theorem readS_or (n r s : Int) : readS n r s = (0, 0, 0) ∧ (∀ t, isSz t = true → okAt n r s t = false) ∨ ∃ t : Int, isSz t = true ∧ okAt n r s t = true ∧ (∀ u, isSz u = true → u < t → okAt n r s u = false) ∧ readS n r s = (t, r, s - leadS t + 1) := by
  have six : ∀ t : Int, isSz t = true → t = 2 ∨ t = 4 ∨ t = 8 ∨ t = 16 ∨ t = 32 ∨ t = 64 := fun t h => by simp [isSz] at h; omega
  unfold readS
  cases h2 : okAt n r s 2
  · cases h4 : okAt n r s 4
    · cases h8 : okAt n r s 8
      · cases h16 : okAt n r s 16
        · cases h32 : okAt n r s 32
          · cases h64 : okAt n r s 64
            · exact .inl ⟨rfl, fun t ht => by rcases six t ht with rfl | rfl | rfl | rfl | rfl | rfl <;> assumption⟩
            · exact .inr ⟨64, rfl, h64, fun t ht hl => by rcases six t ht with rfl | rfl | rfl | rfl | rfl | rfl <;> first | assumption | (simp at hl), rfl⟩
          · exact .inr ⟨32, rfl, h32, fun t ht hl => by rcases six t ht with rfl | rfl | rfl | rfl | rfl | rfl <;> first | assumption | (simp at hl), rfl⟩
        · exact .inr ⟨16, rfl, h16, fun t ht hl => by rcases six t ht with rfl | rfl | rfl | rfl | rfl | rfl <;> first | assumption | (simp at hl), rfl⟩
      · exact .inr ⟨8, rfl, h8, fun t ht hl => by rcases six t ht with rfl | rfl | rfl | rfl | rfl | rfl <;> first | assumption | (simp at hl), rfl⟩
    · exact .inr ⟨4, rfl, h4, fun t ht hl => by rcases six t ht with rfl | rfl | rfl | rfl | rfl | rfl <;> first | assumption | (simp at hl), rfl⟩
  · exact .inr ⟨2, rfl, h2, fun t ht hl => by rcases six t ht with rfl | rfl | rfl | rfl | rfl | rfl <;> first | assumption | (simp at hl), rfl⟩
/-- What Decode tells; what Encode tells. -/
def decS (n r s : Int) : Int × Int :=
  if n < 0 ∨ n > 1 ∨ r < 0 ∨ r > 63 ∨ s < 0 ∨ s > 63 then (0, 1)
  else if readS n r s = (0, 0, 0) then (0, 3) else (((maskN (readS n r s).2.2.toNat (readS n r s).2.1.toNat (readS n r s).1.toNat : Nat) : Int), 0)
def encS (v : Nat) : Int × Int × Int × Int :=
  if (findS v).1 = 0 then (0, 0, 0, 3) else (upperS (findS v).1, (findS v).2.1, leadS (findS v).1 + (findS v).2.2 - 1, 0)
def isS (v : Nat) : Bool := decide ((findS v).1 ≠ 0)
theorem IsPat.encS {v k r s : Nat} (h : IsPat v k r s) : encS v = (upperS s, (r : Int), leadS s + k - 1, 0) := by
  have hp := h.pos
  unfold Go.Proofs.YtkcgnmicaigjfaaDoor.encS
  rw [h.findS, if_neg (by simp; omega)]
theorem encS_none {v : Nat} (hv : v < 18446744073709551616) (h : ∀ k r s, ¬ IsPat v k r s) : encS v = (0, 0, 0, 3) := by
  unfold encS
  rw [findS_none hv h, if_pos rfl]
theorem IsPat.isS {v k r s : Nat} (h : IsPat v k r s) : isS v = true := by
  have hp := h.pos
  unfold Go.Proofs.YtkcgnmicaigjfaaDoor.isS
  rw [h.findS]; simp; omega
theorem isS_none {v : Nat} (hv : v < 18446744073709551616) (h : ∀ k r s, ¬ IsPat v k r s) : isS v = false := by
  unfold isS
  rw [findS_none hv h]; simp
/-- What Decode tells of right numbers is a mask of the shape that was read. -/
theorem dec_pat {n r s a : Int} (h : decS n r s = (a, 0)) : ∃ k r' s' : Nat, IsPat a.toNat k r' s' ∧ 0 ≤ a ∧ n = upperS s' ∧ r = r' ∧ s = leadS s' + k - 1 := by
  unfold decS at h
  split at h
  · simp at h
  rename_i hb
  rcases readS_or n r s with ⟨e, -⟩ | ⟨t, ht, ho, -, e⟩
  · rw [if_pos e] at h; simp at h
  · have h6 : t = 2 ∨ t = 4 ∨ t = 8 ∨ t = 16 ∨ t = 32 ∨ t = 64 := by simp [isSz] at ht; omega
    rw [if_neg (by rw [e]; simp; omega), e] at h
    simp only [Prod.mk.injEq, and_true] at h
    unfold okAt at ho
    simp only [Bool.and_eq_true, beq_iff_eq, decide_eq_true_eq] at ho
    obtain ⟨⟨⟨h1, h2⟩, h3⟩, h4⟩ := ho
    have et : (t.toNat : Int) = t := by omega
    refine ⟨(s - leadS t + 1).toNat, r.toNat, t.toNat, ?_, ?_, ?_, ?_, ?_⟩
    · have := mask_pat (s - leadS t + 1).toNat r.toNat t.toNat (by rw [et]; exact ht) (by omega) (by omega) (by omega)
      rw [← h, Int.toNat_natCast]; exact this
    · omega
    · rw [et]; exact h1
    · omega
    · rw [et]; omega
/-- The numbers that Encode tells are read as the shape. -/
theorem IsPat.decS {v k r s : Nat} (h : IsPat v k r s) : decS (upperS s) r (leadS s + k - 1) = ((v : Int), 0) := by
  have hp := h.pos
  have hr := h.turn
  have hk := h.less
  have h1 := h.one
  have hb : ¬ (upperS s < 0 ∨ upperS s > 1 ∨ (r : Int) < 0 ∨ (r : Int) > 63 ∨ leadS s + k - 1 < 0 ∨ leadS s + k - 1 > 63) := by
    unfold upperS leadS
    rcases h.size with e | e | e | e | e | e <;> subst e <;> simp <;> omega
  have hok : okAt (upperS s) r (leadS s + k - 1) s = true := by
    unfold okAt
    simp only [Bool.and_eq_true, beq_self_eq_true, decide_eq_true_eq, true_and]
    omega
  have hlow : ∀ u : Int, isSz u = true → u < s → okAt (upperS s) r (leadS s + k - 1) u = false := by
    intro u hu hus
    have h6 : u = 2 ∨ u = 4 ∨ u = 8 ∨ u = 16 ∨ u = 32 ∨ u = 64 := by simp [isSz] at hu; omega
    rw [Bool.eq_false_iff]
    intro ho
    unfold okAt at ho
    simp only [Bool.and_eq_true, beq_iff_eq, decide_eq_true_eq] at ho
    obtain ⟨⟨⟨a1, a2⟩, a3⟩, a4⟩ := ho
    unfold upperS at a1
    unfold leadS at a3
    rcases h.size with e | e | e | e | e | e <;> rcases h6 with f | f | f | f | f | f <;> subst e <;> subst f <;> simp at a1 a3 hus <;> omega
  unfold Go.Proofs.YtkcgnmicaigjfaaDoor.decS
  rw [if_neg hb]
  rcases readS_or (upperS s) r (leadS s + k - 1) with ⟨e, hn⟩ | ⟨t, ht, ho, hl, e⟩
  · have := hn s (isSz_of h.size)
    rw [hok] at this; cases this
  · have ets : t = s := by
      rcases Int.lt_trichotomy t s with c | c | c
      · rw [hlow t ht c] at ho; cases ho
      · exact c
      · have := hl s (isSz_of h.size) c
        rw [hok] at this; cases this
    subst ets
    rw [e, if_neg (by simp; omega)]
    simp only [Prod.mk.injEq, and_true]
    rw [show (leadS (s : Int) + k - 1 - leadS s + 1).toNat = k by omega, Int.toNat_natCast, Int.toNat_natCast, ← h.eq]
end Go.Proofs.YtkcgnmicaigjfaaDoor
