/- The law MemGiven. -/
import Derived.Test.YtogigmehclmjcaaMED
namespace Go.Proofs.Ytogigmehclmjcaa
set_option linter.unusedVariables false
set_option linter.unusedSimpArgs false
open Go.ChangeShapes Go.WideShapes Go.Deep Go.RowKit

theorem given_find {L : List Ar} (hg : Good L) {a : Ar} (ha : a ∈ L) {n : Nat} (h1 : 1 ≤ n) (hn : n ≤ a.bs.length) : findA L a.pos n = some a := by
  have hh : hit a.pos n a = true := by unfold hit; simp; omega
  cases hf : findA L a.pos n with
  | none =>
    unfold findA at hf
    rw [List.find?_eq_none] at hf
    exact absurd hh (hf a ha)
  | some b =>
    obtain ⟨f1, f2, f3⟩ := find_mem hf
    rw [hit_one hg.1 h1 f1 ha (by unfold hit; simp [f2, f3]) hh]
theorem seg_all (a : Ar) : seg a a.pos a.bs.length = a.bs := by unfold seg; simp
theorem text_given {L : List Ar} (hg : Good L) {a : Ar} (ha : a ∈ L) : textA L a.pos (a.bs.length : Int) = (⟨a.bs.toArray⟩, 0) := by
  obtain ⟨g1, g2, g3⟩ := hg.2.1 a ha
  unfold textA
  rw [if_neg (by omega), if_neg (by omega)]
  simp only [Int.toNat_natCast, given_find hg ha g2 (Nat.le_refl _), seg_all]
theorem text_past {L : List Ar} (hg : Good L) {a : Ar} (ha : a ∈ L) : (textA L a.pos ((a.bs.length : Int) + 1)).2 ≠ 0 := by
  obtain ⟨g1, g2, g3⟩ := hg.2.1 a ha
  unfold textA
  by_cases h : 65536 < (a.bs.length : Int) + 1
  · rw [if_pos (.inr h)]; decide
  · rw [if_neg (by omega), if_neg (by omega)]
    rw [show ((a.bs.length : Int) + 1).toNat = a.bs.length + 1 by omega]
    cases hf : findA L a.pos (a.bs.length + 1) with
    | none => exact (by decide : (4 : Int) ≠ 0)
    | some b =>
      exfalso
      obtain ⟨f1, f2, f3⟩ := find_mem hf
      have : b = a := hit_one hg.1 (n := 1) (x := a.pos) (by omega) f1 ha (by unfold hit; simp [f2]; omega) (by unfold hit; simp; omega)
      subst this
      omega
theorem load_given {L : List Ar} (hg : Good L) {a : Ar} (ha : a ∈ L) (h0 : 0 < a.bs.length) : loadA L a.pos 1 = (a.bs[0].toNat, 0) := by
  unfold loadA
  rw [if_neg (by decide)]
  rw [show (1 : Int).toNat = 1 from rfl, given_find hg ha (Nat.le_refl _) h0]
  have : seg a a.pos 1 = [a.bs[0]] := by
    unfold seg
    rw [Nat.sub_self, List.drop_zero]
    rw [List.take_succ_eq_append_getElem h0]; rfl
  simp only [this, leV]
  simp
theorem store_given {L : List Ar} (hg : Good L) {a : Ar} (ha : a ∈ L) : storeE L a.pos 1 = if a.kind ≠ 3 then 10 else 0 := by
  obtain ⟨g1, g2, g3⟩ := hg.2.1 a ha
  unfold storeE
  rw [if_neg (by decide), show (1 : Int).toNat = 1 from rfl, given_find hg ha (Nat.le_refl _) g2]
theorem area_of {l : List Rg} {L : List Ar} (h : (L.map keyA).Perm (l.map keyR)) {r : Rg} (hr : r ∈ l) : ∃ a ∈ L, a.pos = r.pos ∧ a.kind = r.kind ∧ a.bs = r.data.data.toList := by
  have hm : keyR r ∈ L.map keyA := h.mem_iff.2 (List.mem_map_of_mem hr)
  obtain ⟨a, ha, he⟩ := List.mem_map.1 hm
  unfold keyA keyR at he
  simp only [Prod.mk.injEq] at he
  exact ⟨a, ha, he.1, he.2.1, he.2.2⟩
set_option maxRecDepth 100000 in
set_option maxHeartbeats 8000000 in
theorem MemGiven_walk (W : World) (a : Option Addr) (n c : Nat) (l : List Rg) (hn : n ≤ maxLen) (hg : ∀ r ∈ l, FitR r) (hl : SL rgC 3 W W.heap.size a n l) (i : Int) (hi : -9223372036854775808 ≤ i ∧ i ≤ 9223372036854775807) :
    Calls Try.prog 5 #[.slice a n c, .int .i64 i] W (RetB (.bool true) W) := by
  have hln := hl.len
  have HL := Lib.hid hl
  have HLN := Lib.hid hln
  have HBig := Lib.hid (Big_any a n c l W hl hn (fun r hr => (hg r hr).2))
  have HNew : Hid (n ≤ 20 → Calls Try.prog 7 #[.slice a n c] W (NewP l W)) := Lib.hid (fun h => New_walk a n c l W hl (by omega) (fun r hr => (hg r hr).1) (fun r hr => (hg r hr).2))
  have HKept : Hid (∀ w, Calls Try.prog 8 #[] w (RetB (.bool true) w)) := Lib.hid (fun w => kept_any w)
  have HGF := Lib.hid hg
  have HB := Lib.hid (Below.refl W.heap.size W)
  clear hl hn hg hi hln
  go_enter Try.func5, Try.ntmps5
  go_wp2_with fail
  refine HBig.out.mono ?_
  rintro e w1 ⟨b, rfl, hb20, hw⟩
  obtain rfl := hw.symm
  cases b
  · have h20 := hb20 rfl
    have HN := Lib.hid (HNew.out h20)
    clear hb20 HBig HNew
    by_cases hi0 : i < 0
    · go_wp2_with (go_at_call 8; ((with_reducible refine (HKept.out _).mono ?_); rintro e w' ⟨rfl, hb⟩; replace HB := Lib.hid (after HB.out hb); clear hb))
      go_ret
      exact ⟨rfl, HB.out⟩
    by_cases hin : (n : Int) ≤ i
    · go_wp2_with (go_at_call 8; ((with_reducible refine (HKept.out _).mono ?_); rintro e w' ⟨rfl, hb⟩; replace HB := Lib.hid (after HB.out hb); clear hb))
      go_ret
      exact ⟨rfl, HB.out⟩
    obtain ⟨k, rfl⟩ : ∃ k : Nat, i = k := ⟨i.toNat, by omega⟩
    have hkn : k < n := by omega
    clear hi0 hin
    go_wp2_with fail
    refine HN.out.mono ?_
    rintro e w2 (⟨er, her, rfl, hb, -⟩ | ⟨p, L, rfl, hms, hgo, hke, hb⟩)
    · have q1 : (er != 0) = true := by rw [bne_iff_ne]; exact her
      replace HB := Lib.hid hb
      clear hb her HN
      go_wp2_with (go_at_call 8; ((with_reducible refine (HKept.out _).mono ?_); rintro e w' ⟨rfl, hb⟩; replace HB := Lib.hid (after HB.out hb); clear hb))
      go_ret
      exact ⟨rfl, HB.out⟩
    · replace HB := Lib.hid hb
      have HM := Lib.hid hms
      have hkl : k < l.length := by rw [← HLN.out]; exact hkn
      obtain ⟨b, off, rfl, hbB, -⟩ := sl_rg HL.out hkn hkl
      have hC : ∀ w', Below W.heap.size W w' → w'.cell? ⟨b, off + k * 3, none⟩ = some (.int .u64 l[k].pos) ∧ w'.cell? ⟨b, off + k * 3 + 1, none⟩ = some (.int .i64 l[k].kind) ∧ w'.cell? ⟨b, off + k * 3 + 2, none⟩ = some (.string l[k].data) := by
        intro w' hb'
        obtain ⟨b', off', e, -, c0, c1, c2⟩ := sl_rg (HL.out.below hb') hkn hkl
        injection e with e
        injection e with e1 e2
        subst e1 e2
        exact ⟨c0, c1, c2⟩
      have hfit := HGF.out l[k] (List.getElem_mem _)
      obtain ⟨x, hx, x1, x2, x3⟩ := area_of hke (List.getElem_mem hkl)
      obtain ⟨-, g2, g3⟩ := hgo.2.1 x hx
      have T1 := text_given hgo hx
      have T2 := text_past hgo hx
      have T3 := load_given hgo hx g2
      have T4 := store_given hgo hx
      rw [x1] at T1 T2 T3 T4
      rw [x2] at T4
      have hxl : (x.bs.length : Int) = l[k].data.size := by rw [x3]; rfl
      rw [hxl] at T1 T2
      have hD : (⟨x.bs.toArray⟩ : ByteArray) = l[k].data := by rw [x3]
      rw [hD] at T1
      have hD1 : 1 ≤ l[k].data.size := by omega
      have hD2 : l[k].data.size ≤ 65536 := by omega
      have hx0 : x.bs[0] = l[k].data[0]'hD1 := by simp only [x3]; rfl
      rw [hx0] at T3
      generalize l[k] = r at *
      obtain ⟨P, K, D⟩ := r
      simp only [] at T1 T2 T3 T4 hC hfit hD1 hD2
      have HP := Lib.hid hfit.1
      have HG := Lib.hid hgo
      obtain ⟨t2, e2, hT2⟩ : ∃ t2 e2, textA L P ((D.size : Int) + 1) = (t2, e2) := ⟨_, _, rfl⟩
      rw [hT2] at T2
      have HL1 := fun w (h : MS w W.heap.size p L) => Text_any h HG.out P D.size HP.out
      have HL2 := fun w (h : MS w W.heap.size p L) => Text_any h HG.out P ((D.size : Int) + 1) HP.out
      have HL3 := fun w (h : MS w W.heap.size p L) => Load_any h HG.out P 1 HP.out
      have HS := fun w (h : MS w W.heap.size p L) => Store_any h HG.out P 1 7 HP.out (by decide)
      unfold StoreP at HS
      simp only [T1] at HL1
      simp only [hT2] at HL2
      simp only [T3] at HL3
      simp only [T4] at HS
      replace HL1 := Lib.hid HL1
      have HL2w := Lib.hid (show ∀ w (h : MS w W.heap.size p L), Calls Try.prog 11 #[.pointer (some ⟨p, 0, none⟩), .int .u64 P, .int .i64 (IntKind.i64.wrap ((D.size : Int) + 1))] w (RetB (.tuple #[.string t2, .int .i64 e2]) w) from by rw [show IntKind.i64.wrap ((D.size : Int) + 1) = (D.size : Int) + 1 from by simp [IntKind.wrap, IntKind.bits, IntKind.signed]; omega]; exact HL2)
      replace HL2 := Lib.hid HL2
      replace HL3 := Lib.hid HL3
      replace HS := Lib.hid HS
      have HC := Lib.hid hC
      have q2 : (e2 != 0) = true := by rw [bne_iff_ne]; exact T2
      clear hb hms hgo hke hC hfit hx x1 x2 x3 g2 g3 T1 T2 T3 T4 hxl hD hx0 hT2 hkl HN HGF
      obtain ⟨c0, c1, c2⟩ := HC.out _ HB.out
      have hbl2 : b < w2.heap.size := Nat.lt_of_lt_of_le hbB HB.out.size
      go_wp2_with fail
      go_region_held3 (fun w' => w'.cell? ⟨b, off + k * 3, none⟩ = some (.int .u64 P) ∧ w'.cell? ⟨b, off + k * 3 + 2, none⟩ = some (.string D)) (go_keep) ((first
        | (go_at_call 11; refine (HL1.out _ (HM.out.below (Below.refl w2.heap.size w2).drew)).mono ?_; rintro e w3 ⟨rfl, hb3⟩; have hb3' := ((Below.refl w2.heap.size w2).drew).trans hb3; have s0 := (HC.out _ (after HB.out hb3')).1; have s1 := (HC.out _ (after HB.out hb3')).2.1; have s2 := (HC.out _ (after HB.out hb3')).2.2)
        | fail))
      clear c0 c1 c2
      replace HB := Lib.hid (after HB.out hb3')
      replace HM := Lib.hid (HM.out.below hb3')
      clear hb3 hb3' s0 s1 s2
      obtain ⟨c0, c1, c2⟩ := HC.out _ HB.out
      have hbl3 : b < w3.heap.size := Nat.lt_of_lt_of_le hbB HB.out.size
      go_wp2_with fail
      go_region_held3 (fun w' => w'.cell? ⟨b, off + k * 3, none⟩ = some (.int .u64 P) ∧ w'.cell? ⟨b, off + k * 3 + 2, none⟩ = some (.string D)) (go_keep) ((first
        | (go_at_call 11; (first | (with_reducible refine (HL2.out _ (HM.out.below (Below.refl w3.heap.size w3).drew)).mono ?_) | (with_reducible refine (HL2w.out _ (HM.out.below (Below.refl w3.heap.size w3).drew)).mono ?_)); rintro e w4 ⟨rfl, hb4⟩; have hb4' := ((Below.refl w3.heap.size w3).drew).trans hb4; have s0 := (HC.out _ (after HB.out hb4')).1; have s1 := (HC.out _ (after HB.out hb4')).2.1; have s2 := (HC.out _ (after HB.out hb4')).2.2)
        | fail))
      clear c0 c1 c2
      replace HB := Lib.hid (after HB.out hb4')
      replace HM := Lib.hid (HM.out.below hb4')
      clear hb4 hb4' s0 s1 s2
      obtain ⟨c0, c1, c2⟩ := HC.out _ HB.out
      go_wp2_with fail
      refine (HL3.out _ HM.out).mono ?_
      rintro e w5 ⟨rfl, hb5⟩
      clear c0 c1 c2
      replace HB := Lib.hid (after HB.out hb5)
      replace HM := Lib.hid (HM.out.below hb5)
      clear hb5
      obtain ⟨c0, c1, c2⟩ := HC.out _ HB.out
      by_cases hk3 : K = 3
      · subst hk3
        have h := HS.out
        simp only [ne_eq, not_true_eq_false, if_false] at h
        have HS2 := Lib.hid h
        clear h
        go_wp2_with fail
        refine (HS2.out _ HM.out).mono ?_
        rintro e w6 ⟨rfl, -, hb6⟩
        replace HB := Lib.hid (HB.out.trans hb6)
        clear hb6 c0 c1 c2 HM HL1 HL2 HL2w HL3 HS HS2 HL HG HLN HP hw hbl2 hbl3 hD2
        have hD3 : 0 < D.size := hD1
        go_wp2_with fail
        refine (HKept.out _).mono ?_
        rintro e w7 ⟨rfl, hb7⟩
        replace HB := Lib.hid (after HB.out hb7)
        obtain ⟨c0, c1, c2⟩ := HC.out _ HB.out
        clear hb7
        have hne : ¬ D.toList = [] := fun h => by
          rw [Lib.toList_data] at h
          have h2 : D.size = D.data.toList.length := rfl
          rw [h, List.length_nil] at h2
          omega
        have hBw : IntKind.u64.wrap (((D[0]'hD1).toNat : Nat) : Int) = (((D[0]'hD1).toNat : Nat) : Int) := by
          have := (D[0]'hD1).toNat_lt
          rw [IntKind.wrap_u64, Int.emod_eq_of_lt (by omega) (by omega)]
        generalize hB0 : (D[0]'hD1).toNat = B0 at *
        have HB0 := Lib.hid hB0
        have hBw2 : IntKind.u64.wrap (((D[0]'hD1).toNat : Nat) : Int) = (B0 : Int) := by rw [hB0]; exact hBw
        clear hB0 hBw
        go_wp2
        go_ret
        exact ⟨by simp [hne], HB.out⟩
      · have q3 : (K == 3) = false := by rw [beq_eq_false_iff_ne]; exact hk3
        have h := HS.out
        simp only [if_pos hk3] at h
        have HS2 := Lib.hid h
        clear h hk3
        go_wp2_with fail
        refine (HS2.out _ HM.out).mono ?_
        rintro e w6 ⟨rfl, -, hb6⟩
        replace HB := Lib.hid (HB.out.trans hb6)
        clear hb6 c0 c1 c2 HM HL1 HL2 HL2w HL3 HS HS2 HL HG HLN HP hw hbl2 hbl3 hD2
        have hD3 : 0 < D.size := hD1
        go_wp2_with fail
        refine (HKept.out _).mono ?_
        rintro e w7 ⟨rfl, hb7⟩
        replace HB := Lib.hid (after HB.out hb7)
        obtain ⟨c0, c1, c2⟩ := HC.out _ HB.out
        clear hb7
        have hne : ¬ D.toList = [] := fun h => by
          rw [Lib.toList_data] at h
          have h2 : D.size = D.data.toList.length := rfl
          rw [h, List.length_nil] at h2
          omega
        have hBw : IntKind.u64.wrap (((D[0]'hD1).toNat : Nat) : Int) = (((D[0]'hD1).toNat : Nat) : Int) := by
          have := (D[0]'hD1).toNat_lt
          rw [IntKind.wrap_u64, Int.emod_eq_of_lt (by omega) (by omega)]
        generalize hB0 : (D[0]'hD1).toNat = B0 at *
        have HB0 := Lib.hid hB0
        have hBw2 : IntKind.u64.wrap (((D[0]'hD1).toNat : Nat) : Int) = (B0 : Int) := by rw [hB0]; exact hBw
        clear hB0 hBw
        go_wp2
        go_ret
        exact ⟨by simp [hne], HB.out⟩
  · go_wp2_with (go_at_call 8; ((with_reducible refine (HKept.out _).mono ?_); rintro e w' ⟨rfl, hb⟩; replace HB := Lib.hid (after HB.out hb); clear hb))
    go_ret
    exact ⟨rfl, HB.out⟩
end Go.Proofs.Ytogigmehclmjcaa
