/- The reference's Encode and Is. The reference's Decode. mask.read, mask.Decode. -/
import Derived.Test.YtkcgnmicaigjfaaDoorkBW
namespace Go.Proofs.YtkcgnmicaigjfaaDoor
set_option linter.unusedVariables false
set_option linter.unusedSimpArgs false
open Go.RowKit

theorem ret_four {p q : Int × Int × Int × Int} {w : World} (h : q = p) : Ret (four p) w (.returned (four q)) w := by subst h; exact ⟨rfl, rfl⟩

theorem isS_enc (v : Nat) (hv : v < 18446744073709551616) : isS v = ((encS v).2.2.2 == 0) := by
  rcases pat_or v hv with ⟨k, r, s, h⟩ | hn
  · rw [h.isS, h.encS]; rfl
  · rw [isS_none hv hn, encS_none hv hn]; rfl
theorem decS_out {n r s : Int} (h : n < 0 ∨ n > 1 ∨ r < 0 ∨ r > 63 ∨ s < 0 ∨ s > 63) : decS n r s = (0, 1) := by unfold decS; rw [if_pos h]
theorem decS_none {n r s : Int} (h : ¬ (n < 0 ∨ n > 1 ∨ r < 0 ∨ r > 63 ∨ s < 0 ∨ s > 63)) (e : readS n r s = (0, 0, 0)) : decS n r s = (0, 3) := by unfold decS; rw [if_neg h, if_pos e]
theorem decS_some {n r s t : Int} (h : ¬ (n < 0 ∨ n > 1 ∨ r < 0 ∨ r > 63 ∨ s < 0 ∨ s > 63)) (ht : t ≠ 0) (e : readS n r s = (t, r, s - leadS t + 1)) :
    decS n r s = (((maskN (s - leadS t + 1).toNat r.toNat t.toNat : Nat) : Int), 0) := by
  unfold decS; rw [if_neg h, e, if_neg (by simp [ht])]
theorem outs {n r s : Int} (h : n < 0 ∨ n > 1 ∨ r < 0 ∨ r > 63 ∨ s < 0 ∨ s > 63) :
    n < 0 ∨ (0 ≤ n ∧ 1 < n) ∨ (0 ≤ n ∧ n ≤ 1 ∧ r < 0) ∨ (0 ≤ n ∧ n ≤ 1 ∧ 0 ≤ r ∧ 63 < r) ∨ (0 ≤ n ∧ n ≤ 1 ∧ 0 ≤ r ∧ r ≤ 63 ∧ s < 0) ∨ (0 ≤ n ∧ n ≤ 1 ∧ 0 ≤ r ∧ r ≤ 63 ∧ 0 ≤ s ∧ 63 < s) := by omega
theorem ok_iff (n r s t : Int) : okAt n r s t = true ↔ (n = upperS t ∧ r < t ∧ 1 ≤ s - leadS t + 1 ∧ s - leadS t + 1 < t) := by
  unfold okAt; simp [and_assoc]
theorem maskN_again (k r s : Nat) : agN (rotN (2 ^ k - 1) r s s) s 64 = maskN k r s := rfl

theorem rot64 (v b : Nat) : rotN v b 64 64 < 18446744073709551616 := rotN_lt v b 64 64

theorem dbl (m : Nat) (h : isSz m = true) (hl : m ≠ 64) : isSz ((2 * m : Nat) : Int) = true := by simp [isSz] at h ⊢; omega
theorem below2 {m : Nat} {P : Int → Prop} (hm : isSz m = true) (hp : ∀ u : Int, isSz u = true → u < m → P u) (hpm : P m) : ∀ u : Int, isSz u = true → u < ((2 * m : Nat) : Int) → P u := by
  intro u hu hl
  by_cases c : u < m
  · exact hp u hu c
  · have : u = m := by simp [isSz] at hu hm; omega
    rw [this]; exact hpm

def RD (n r s : Int) (i : Value) : Prop := ∃ m : Nat, (isSz m = true ∨ m = 128) ∧ i = .int .i64 m ∧ ∀ u : Int, isSz u = true → u < m → okAt n r s u = false
theorem rd_end {n r s : Int} (hlow : ∀ u : Int, isSz u = true → u < (64 : Nat) → okAt n r s u = false) (hk : okAt n r s 64 = false) : RD n r s (.int .i64 128) :=
  ⟨128, .inr rfl, rfl, fun u hu hl => by
    by_cases c : u < 64
    · exact hlow u hu c
    · have : u = 64 := by simp [isSz] at hu; omega
      rw [this]; exact hk⟩
theorem rd_next {n r s : Int} {m : Nat} (hm : isSz m = true) (h64 : ¬ m = 64) (hlow : ∀ u : Int, isSz u = true → u < m → okAt n r s u = false) (hk : okAt n r s m = false) : RD n r s (.int .i64 (2 * (m : Int))) :=
  ⟨2 * m, .inl (dbl m hm h64), by go_num, below2 (P := fun u => okAt n r s u = false) hm hlow hk⟩

abbrev Zero3 (w : World) (R : Nat) : Prop := w.heap[R]? = some (.cells #[.int .i64 0, .int .i64 0, .int .i64 0] 85 (0, 0))
def RM (w : World) (R B : Nat) (n r s : Int) (i : Value) (wl : World) : Prop :=
  ∃ m : Nat, (isSz m = true ∧ Cell1 wl B m ∨ m = 0) ∧ i = .int .i64 m ∧ (∀ u : Int, isSz u = true → (m = 0 ∨ u < m) → okAt n r s u = false) ∧ Zero3 wl R ∧ Below w.heap.size w wl
def CloR (w : World) (R B m : Nat) (e : Ending) (w' : World) : Prop :=
  e = .returned (.int .i64 (if 32 < m then 0 else (m : Int) * 2)) ∧ Cell1 w' B ((m : Int) * 2) ∧ Zero3 w' R ∧ Below w.heap.size w w'
theorem clo_R {w wl : World} {R B m : Nat} (X : Obj) (h1 : 1 ≤ m) (h2 : m ≤ 64) (hRB : R ≠ B) (hc : Cell1 wl B m) (hR : Zero3 wl R) (hb : Below w.heap.size w wl) (hBs : w.heap.size ≤ B) :
    Calls Tryd.prog 89 #[.pointer (some ⟨B, 0, none⟩)] (wl.alloc X) (CloR w R B m) := by
  have hc2 : Cell1 (wl.alloc X) B m := (Below.heap_alloc _ X _ (lt_of_block hc)).trans hc
  have hR2 : Zero3 (wl.alloc X) R := (Below.heap_alloc _ X _ (lt_of_block hR)).trans hR
  have hb2 : Below w.heap.size w (wl.alloc X) := hb.alloc hb.size X
  refine (clo_any m B _ h1 h2 hc2).mono ?_
  rintro e w' ⟨he, hcell, hg⟩
  exact ⟨he, hcell, (hg.block R (lt_of_block hR2) (by simpa using hRB)).trans hR2, hb2.grown hg hb2.size (fun j hj => by cases hj; exact hBs)⟩
theorem clo_R0 {w wl : World} {R B m : Nat} (h1 : 1 ≤ m) (h2 : m ≤ 64) (hRB : R ≠ B) (hc : Cell1 wl B m) (hR : Zero3 wl R) (hb : Below w.heap.size w wl) (hBs : w.heap.size ≤ B) :
    Calls Tryd.prog 89 #[.pointer (some ⟨B, 0, none⟩)] wl (CloR w R B m) := by
  refine (clo_any m B _ h1 h2 hc).mono ?_
  rintro e w' ⟨he, hcell, hg⟩
  exact ⟨he, hcell, (hg.block R (lt_of_block hR) (by simpa using hRB)).trans hR, hb.grown hg hb.size (fun j hj => by cases hj; exact hBs)⟩
theorem rm_next {w wl : World} {R B m : Nat} {n r s : Int} (hm : isSz m = true) (hlow : ∀ u : Int, isSz u = true → u < m → okAt n r s u = false) (hk : okAt n r s m = false)
    (hc : Cell1 wl B ((m : Int) * 2)) (hR : Zero3 wl R) (hb : Below w.heap.size w wl) : RM w R B n r s (.int .i64 (if 32 < m then 0 else (m : Int) * 2)) wl := by
  by_cases c : 32 < m
  · have h64 : m = 64 := by simp [isSz] at hm; omega
    subst h64
    refine ⟨0, .inr rfl, by simp, fun u hu _ => ?_, hR, hb⟩
    by_cases c2 : u < (64 : Nat)
    · exact hlow u hu c2
    · have : u = (64 : Nat) := by simp [isSz] at hu; omega
      rw [this]; exact hk
  · refine ⟨2 * m, .inl ⟨dbl m hm (by omega), ?_⟩, by rw [if_neg c]; go_num, fun u hu hl => ?_, hR, hb⟩
    · rw [show ((2 * m : Nat) : Int) = (m : Int) * 2 by omega]; exact hc
    · have := isSz_le hm
      exact below2 (P := fun u => okAt n r s u = false) hm hlow hk u hu (by omega)

theorem rm_meas {m : Nat} (h1 : 2 ≤ m) (h2 : m ≤ 64) : (if (intOf (Value.int IntKind.i64 (if 32 < m then 0 else (m : Int) * 2))).toNat = 0 then 0 else 128 - (intOf (Value.int IntKind.i64 (if 32 < m then 0 else (m : Int) * 2))).toNat) <
    if (intOf (Value.int IntKind.i64 (m : Int))).toNat = 0 then 0 else 128 - (intOf (Value.int IntKind.i64 (m : Int))).toNat := by
  have f : ∀ x : Int, (if (intOf (Value.int IntKind.i64 x)).toNat = 0 then 0 else 128 - (intOf (Value.int IntKind.i64 x)).toNat) = if x.toNat = 0 then 0 else 128 - x.toNat := fun x => rfl
  rw [f, f]
  by_cases c : 32 < m
  · rw [if_pos c, if_pos (show (0 : Int).toNat = 0 from rfl), if_neg (by omega)]; omega
  · rw [if_neg c, if_neg (by omega), if_neg (by omega)]; omega
theorem retB_two {k l : IntKind} {a b : Int} {p : Int × Int} {w w' : World} (h : p = (a, b)) (hb : Below w.heap.size w w') : RetB (two k l p) w (.returned (.tuple #[.int k a, .int l b])) w' := by subst h; exact ⟨rfl, hb⟩

set_option maxHeartbeats 1600000 in
theorem read_any (n r s : Int) (w : World) (hn0 : 0 ≤ n) (hn1 : n ≤ 1) (hr0 : 0 ≤ r) (hr1 : r ≤ 63) (hs0 : 0 ≤ s) (hs1 : s ≤ 63) :
    Calls Tryd.prog 88 #[.int .i64 n, .int .i64 r, .int .i64 s] w (RetB (shapeV (readS n r s)) w) := by
  have HS := Lib.hid (readS_or n r s)
  go_enter Tryd.func88, Tryd.ntmps88
  go_wp2_with (first | (go_at_call 80; refine (sizes_any _).mono ?_; rintro e w1 ⟨rfl, rfl⟩))
  obtain ⟨wz, hwz⟩ : ∃ wz : World, wz = w.alloc (.cells #[.int .i64 0, .int .i64 0, .int .i64 0] 85) := ⟨_, rfl⟩
  rw [← hwz]
  obtain ⟨R, hRd⟩ : ∃ R : Nat, R = w.heap.size := ⟨_, rfl⟩
  obtain ⟨B, hBd⟩ : ∃ B : Nat, B = wz.heap.size := ⟨_, rfl⟩
  have hz : Zero3 wz R := by rw [hwz, hRd]; exact (MapKept.heap_alloc w _).1
  have hRB : R < B := by rw [hBd]; exact lt_of_block hz
  have hbz : Below w.heap.size w wz := by rw [hwz]; exact (Below.refl w.heap.size w).alloc (Nat.le_refl _) _
  have hblk : Cell1 (wz.alloc (.cells #[.int .i64 1] 3)) B (1 : Nat) := by rw [hBd]; exact (MapKept.heap_alloc wz _).1
  have hzo : Zero3 (wz.alloc (.cells #[.int .i64 1] 3)) R := (Below.heap_alloc _ _ _ (lt_of_block hz)).trans hz
  have hb2 := hbz.alloc hbz.size (.cells #[.int .i64 1] 3)
  have HBS : Hid (w.heap.size ≤ B) := Lib.hid (by omega)
  have HRS : Hid (w.heap.size ≤ R) := Lib.hid (by omega)
  have hBe : R + 1 = B := by rw [hBd, hwz, hRd]; simp
  rw [← hRd, hBe]
  obtain ⟨wo, ho⟩ : ∃ wo : World, wo = wz.alloc (.cells #[.int .i64 1] 3) := ⟨_, rfl⟩
  rw [← ho] at hb2 hblk hzo ⊢
  clear ho hBd hRd hwz hbz hz hBe
  have HRB : Hid (R ≠ B) := Lib.hid (by omega)
  clear hRB
  refine (clo_R0 (by omega) (by omega) HRB.out hblk hzo hb2 HBS.out).mono ?_
  rintro e w1 ⟨rfl, hc1, hz1, hb1⟩
  have HC := Lib.hid hc1
  have HZ := Lib.hid hz1
  have HB := Lib.hid hb1
  clear hb2 hblk hzo hc1 hz1 hb1
  go_wp2
  go_loopw [8, 9] (fun i _ wl => RM w R B n r s i wl) (fun i _ _ => if (intOf i).toNat = 0 then 0 else 128 - (intOf i).toNat)
  case atStart => exact ⟨2, .inl ⟨rfl, HC.out⟩, rfl, fun u hu hl => by simp [isSz] at hu; omega, HZ.out, HB.out⟩
  case round =>
    obtain ⟨m, hm, rfl, hlow, hzero, hb⟩ := hrel
    clear HC HZ HB
    have HL := Lib.hid hlow
    have HZ := Lib.hid hzero
    have HB := Lib.hid hb
    clear hlow hzero hb
    rcases hm with ⟨hm, hcell⟩ | rfl
    · have hm2 := isSz_le hm
      have HM := Lib.hid hm
      have HC := Lib.hid hcell
      have HLow : Hid (∀ u : Int, isSz u = true → u < m → okAt n r s u = false) := Lib.hid fun u hu hl => HL.out u hu (.inr hl)
      clear hm hcell HL
      have HU : Hid (∀ w, Calls Tryd.prog 92 #[.int .i64 m] w (Ret (.int .i64 (upperS m)) w)) := Lib.hid fun w => upper_any m w
      have HLd : Hid (∀ w, Calls Tryd.prog 91 #[.int .i64 m] w (Ret (.int .i64 (leadS m)) w)) := Lib.hid fun w => lead_any m w (by omega) (by omega)
      have lb := lead_b m (by omega) (by omega)
      have ub := upper_b m
      have HI := Lib.hid (ok_iff n r s m)
      have m0 : ((m : Int) != 0) = true := by rw [bne_iff_ne]; omega
      obtain ⟨d0, d1, d2, e0, e1, e2⟩ := blk3 HZ.out
      by_cases hk : okAt n r s m = true
      · obtain ⟨k0, k1, k2, k3⟩ := (ok_iff _ _ _ _).1 hk
        have hD : readS n r s = ((m : Int), r, s - leadS m + 1) := by
          rcases HS.out with ⟨-, e⟩ | ⟨t, ht, ho, hl, e⟩
          · rw [e m HM.out] at hk; cases hk
          · have : t = m := by
              rcases Int.lt_trichotomy t m with c | c | c
              · rw [HLow.out t ht c] at ho; cases ho
              · exact c
              · rw [hl m HM.out c] at hk; cases hk
            subst this
            rw [e]
        rw [hD]
        have q0 : (n == upperS m) = true := by rw [beq_iff_eq]; exact k0
        clear hk hD k0 HI
        generalize upperS (m : Int) = u at *
        generalize leadS (m : Int) = l at *
        go_wp2_with (first | (go_at_call 91; refine (HLd.out _).mono ?_; rintro e w' ⟨rfl, rfl⟩) | (go_at_call 92; refine (HU.out _).mono ?_; rintro e w' ⟨rfl, rfl⟩))
        have hz2 : Zero3 (wr.alloc (.cells #[.int .i64 m, .int .i64 r, .int .i64 (s - l + 1)] 85)) R := (Below.heap_alloc _ _ _ (lt_of_block HZ.out)).trans HZ.out
        obtain ⟨f0, f1, f2, -, -, -⟩ := blk0 (set012 hz2 (.int .i64 m) (.int .i64 r) (.int .i64 (s - l + 1)))
        refine bodyPost_ret (v := shapeV (m, r, s - l + 1)) (by simp [results, Tryd.results88, go_sem, f0, f1, f2]) rfl ⟨rfl, ?_⟩
        exact below_set012 (HB.out.alloc HB.out.size _) HRS.out
      · have HK : Hid (okAt n r s m = false) := Lib.hid (by simpa using hk)
        have HX : Hid (¬ (n = upperS m ∧ r < m ∧ 1 ≤ s - leadS m + 1 ∧ s - leadS m + 1 < m)) := Lib.hid fun c => hk (HI.out.2 c)
        clear hk HI
        have HN : Hid (RM w R B n r s = RM w R B n r s) := Lib.hid rfl
        generalize upperS (m : Int) = u at *
        generalize leadS (m : Int) = l at *
        by_cases hq : n = u
        · have q0 : (n == u) = true := by rw [beq_iff_eq]; exact hq
          have HQ := Lib.hid hq
          clear hq
          go_wp2_with (first | (go_at_call 91; refine (HLd.out _).mono ?_; rintro e w' ⟨rfl, rfl⟩) | (go_at_call 92; refine (HU.out _).mono ?_; rintro e w' ⟨rfl, rfl⟩))
          all_goals first
            | (exfalso; apply HX.out; exact ⟨HQ.out, by omega, by omega, by omega⟩)
            | (refine (clo_R _ (by omega) (by omega) HRB.out HC.out HZ.out HB.out HBS.out).mono ?_
               rintro e w2 ⟨rfl, hc2, hz2, hb2⟩
               have HN2 := Lib.hid (rm_next HM.out HLow.out HK.out hc2 hz2 hb2)
               clear hc2 hz2 hb2
               go_wp2
               go_roundw
               case rel => exact HN2.out
               case measure => exact rm_meas (by omega) (by omega))
        · have q0 : (n == u) = false := by rw [beq_eq_false_iff_ne]; exact hq
          clear hq
          go_wp2_with (first | (go_at_call 91; refine (HLd.out _).mono ?_; rintro e w' ⟨rfl, rfl⟩) | (go_at_call 92; refine (HU.out _).mono ?_; rintro e w' ⟨rfl, rfl⟩))
          refine (clo_R _ (by omega) (by omega) HRB.out HC.out HZ.out HB.out HBS.out).mono ?_
          rintro e w2 ⟨rfl, hc2, hz2, hb2⟩
          have HN2 := Lib.hid (rm_next HM.out HLow.out HK.out hc2 hz2 hb2)
          clear hc2 hz2 hb2
          go_wp2
          go_roundw
          case rel => exact HN2.out
          case measure => exact rm_meas (by omega) (by omega)
    · have hD : readS n r s = (0, 0, 0) := by
        rcases HS.out with ⟨e, -⟩ | ⟨t, ht, ho, hl, e⟩
        · exact e
        · rw [HL.out t ht (.inl rfl)] at ho; cases ho
      have HD := Lib.hid hD
      clear hD
      obtain ⟨d0, d1, d2, e0, e1, e2⟩ := blk0 HZ.out
      go_wp2
      obtain ⟨f0, f1, f2, -, -, -⟩ := blk0 (set012 HZ.out (.int .i64 0) (.int .i64 0) (.int .i64 0))
      refine bodyPost_ret (v := shapeV (0, 0, 0)) (by simp [results, Tryd.results88, go_sem, f0, f1, f2]) rfl ⟨by rw [HD.out], below_set012 HB.out HRS.out⟩

set_option maxHeartbeats 1000000 in
theorem Decode_out (n r s : Int) (w : World) (h : n < 0 ∨ n > 1 ∨ r < 0 ∨ r > 63 ∨ s < 0 ∨ s > 63) :
    Calls Tryd.prog 78 #[.int .i64 n, .int .i64 r, .int .i64 s] w (RetB (two .u64 .i64 (decS n r s)) w) := by
  have H := Lib.hid (decS_out h)
  rcases outs h with h1 | ⟨h1, h2⟩ | ⟨h1, h2, h3⟩ | ⟨h1, h2, h3, h4⟩ | ⟨h1, h2, h3, h4, h5⟩ | ⟨h1, h2, h3, h4, h5, h6⟩
  all_goals
    clear h
    go_enter Tryd.func78, Tryd.ntmps78
    go_wp2
    go_ret2
    exact retB_two H.out (Below.refl _ _)
set_option maxHeartbeats 1000000 in
theorem Decode_any (n r s : Int) (w : World) :
    Calls Tryd.prog 78 #[.int .i64 n, .int .i64 r, .int .i64 s] w (RetB (two .u64 .i64 (decS n r s)) w) := by
  by_cases hout : n < 0 ∨ n > 1 ∨ r < 0 ∨ r > 63 ∨ s < 0 ∨ s > 63
  · exact Decode_out n r s w hout
  have HO := Lib.hid hout
  have hr0 : 0 ≤ r := by omega
  have hr1 : r ≤ 63 := by omega
  have hs0 : 0 ≤ s := by omega
  have hs1 : s ≤ 63 := by omega
  have hn0 : 0 ≤ n := by omega
  have hn1 : n ≤ 1 := by omega
  clear hout
  have HR : Hid (Calls Tryd.prog 88 #[.int .i64 n, .int .i64 r, .int .i64 s] w (RetB (shapeV (readS n r s)) w)) := Lib.hid (read_any n r s w hn0 hn1 hr0 hr1 hs0 hs1)
  rcases readS_or n r s with ⟨e, -⟩ | ⟨t, ht, ho, -, e⟩
  · have HD := Lib.hid (decS_none HO.out e)
    rw [e] at HR
    clear e
    go_enter Tryd.func78, Tryd.ntmps78
    go_wp2_with fail
    refine HR.out.mono ?_
    rintro e w1 ⟨rfl, hb⟩
    have HB := Lib.hid hb
    clear hb
    go_wp2
    go_ret2
    exact retB_two HD.out (HB.out.alloc HB.out.size _)
  · have ht2 := isSz_le ht
    have HD := Lib.hid (decS_some HO.out (by omega) e)
    rw [e] at HR
    obtain ⟨k0, k1, k2, k3⟩ := (ok_iff _ _ _ _).1 ho
    have tz : (t == 0) = false := by rw [beq_eq_false_iff_ne]; omega
    have HM : Hid (∀ w, Calls Tryd.prog 67 #[.agg #[.int .i64 t, .int .i64 r, .int .i64 (s - leadS t + 1)]] w (RetB (.int .u64 (maskN (s - leadS t + 1).toNat r.toNat t.toNat)) w)) := Lib.hid fun w => by
      have := make64_any (s - leadS t + 1).toNat r.toNat t.toNat w (by rw [Int.toNat_of_nonneg (by omega)]; exact ht) (by omega) (by omega) (by omega)
      rwa [Int.toNat_of_nonneg (by omega), Int.toNat_of_nonneg hr0, Int.toNat_of_nonneg (by omega)] at this
    clear e ho k0 ht
    generalize maskN (s - leadS t + 1).toNat r.toNat t.toNat = q at *
    generalize s - leadS t + 1 = o at *
    go_enter Tryd.func78, Tryd.ntmps78
    go_wp2_with fail
    refine HR.out.mono ?_
    rintro e w1 ⟨rfl, hb⟩
    have HB := Lib.hid hb
    clear hb
    go_wp2_with fail
    obtain ⟨w2, hw2⟩ : ∃ w2, w2 = w1.alloc (.cells #[.int .i64 t, .int .i64 r, .int .i64 o] 85) := ⟨_, rfl⟩
    have HB2 : Hid (Below w.heap.size w w2) := Lib.hid (by rw [hw2]; exact HB.out.alloc HB.out.size _)
    rw [← hw2]
    clear hw2
    refine (HM.out _).mono ?_
    rintro e w3 ⟨rfl, hb3⟩
    have HB3 : Hid (Below w.heap.size w w3) := Lib.hid (after HB2.out hb3)
    clear hb3
    go_wp2
    go_ret2
    exact retB_two HD.out HB3.out
end Go.Proofs.YtkcgnmicaigjfaaDoor
