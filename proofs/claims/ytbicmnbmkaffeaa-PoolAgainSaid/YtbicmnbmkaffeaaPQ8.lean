/- pool: Put. -/
import Derived.Test.YtbicmnbmkaffeaaPQ7
namespace Go.Proofs.Ytbicmnbmkaffeaa
set_option linter.unusedVariables false
set_option linter.unusedSimpArgs false
open Go.ChangeShapes Go.WideShapes Go.Deep Go.RowKit

theorem add_any {w : World} {base p : Nat} {l : List Lt} {x : Lt} (h : PS w base p l) (hg : ∀ y ∈ l, GoodL y) (hx : GoodL x) (hn : x ∉ l) (h64 : l.length ≤ 64) :
    Calls Try.prog 34 #[.pointer (some ⟨p, 0, none⟩), litV x] w (AddP base p l x w) := by
  obtain ⟨lv, mv, h1, h2, h3, h4⟩ := h
  rcases h4 with ⟨rfl, hl⟩ | ⟨b, rfl, e2, e3⟩
  · exact add_first base p l x lv w h1 h2 h3 hl hg hx hn h64
  · exact add_some base p b l x lv w h1 h2 h3 e2 e3 hg hx hn h64
def PutP (base p : Nat) (l : List Lt) (r : Int × Int) (w : World) (e : Ending) (w' : World) : Prop := e = .returned (two .i64 .i64 r) ∧ PS w' base p l ∧ Below base w w' ∧ Fr w w'
set_option maxRecDepth 100000 in
set_option maxHeartbeats 4000000 in
theorem Put_bad {w : World} {base p : Nat} {l : List Lt} (h : PS w base p l) (n : Nd) (hn : GoodN n) (h0 : (ofL n).2 ≠ 0) : Calls Try.prog 13 #[.pointer (some ⟨p, 0, none⟩), ndV n] w (PutP base p l (0, (ofL n).2) w) := by
  have HO : Hid (∀ w, Calls Try.prog 14 #[ndV n] w (RetB (outL (ofL n)) w)) := Lib.hid fun w => Of_any n w hn
  have HP := Lib.hid h
  have HB := Lib.hid (Below.refl w.heap.size w)
  obtain ⟨k, s, d, m, v⟩ := n
  generalize ofL ⟨k, s, d, m, v⟩ = r at *
  obtain ⟨⟨s1, d1, v1⟩, er⟩ := r
  have q : (er != 0) = true := by rw [bne_iff_ne]; exact h0
  clear h h0 hn
  go_enter Try.func13, Try.ntmps13
  go_wp2_with (go_at_call 14; ((with_reducible refine (HO.out _).mono ?_); rintro e w1 ⟨rfl, hb⟩; replace HB := Lib.hid (after ((HB.out).alloc HB.out.size _) hb); clear hb))
  go_ret2
  have hb2 := (HB.out).alloc HB.out.size (.cells #[.string s1, .int .i64 d1, .int .u64 v1] 31)
  exact ⟨rfl, HP.out.below hb2, hb2.mono HP.out.base, Fr.of_below hb2⟩
set_option maxRecDepth 100000 in
set_option maxHeartbeats 4000000 in
theorem Put_old {w : World} {base p : Nat} {l : List Lt} (h : PS w base p l) (hg : ∀ y ∈ l, GoodL y) (hd : l.Nodup) (n : Nd) (hn : GoodN n) (h0 : (ofL n).2 = 0) (i : Nat) (hi : l[i]? = some (ofL n).1) : Calls Try.prog 13 #[.pointer (some ⟨p, 0, none⟩), ndV n] w (PutP base p l (i, 0) w) := by
  have HO : Hid (∀ w, Calls Try.prog 14 #[ndV n] w (RetB (outL (ofL n)) w)) := Lib.hid fun w => Of_any n w hn
  have HP := Lib.hid h
  have HB := Lib.hid (Below.refl w.heap.size w)
  have HF : Hid (∀ w', Below w.heap.size w w' → Calls Try.prog 33 #[.pointer (some ⟨p, 0, none⟩), litV (ofL n).1] w' (RetB (.tuple #[.int .i64 (i : Nat), .bool true]) w')) := Lib.hid fun w' hb => find_yes (h.below hb) hg hd _ (ofL_good hn) i hi
  obtain ⟨k, s, d, m, v⟩ := n
  generalize ofL ⟨k, s, d, m, v⟩ = r at *
  obtain ⟨⟨s1, d1, v1⟩, er⟩ := r
  simp only [] at h0
  subst h0
  clear h hn hi
  go_enter Try.func13, Try.ntmps13
  go_wp2_with (go_at_call 14; ((with_reducible refine (HO.out _).mono ?_); rintro e w1 ⟨rfl, hb⟩; replace HB := Lib.hid (after ((HB.out).alloc HB.out.size _) hb); clear hb))
  obtain ⟨W, hW⟩ : ∃ W, W = w1.alloc (.cells #[.string s1, .int .i64 d1, .int .u64 v1] 31) := ⟨_, rfl⟩
  obtain ⟨X, hX⟩ : ∃ X, X = w1.heap.size := ⟨_, rfl⟩
  have hWB : Below w.heap.size w W := by rw [hW]; exact (HB.out).alloc HB.out.size _
  have hx0 : W.heap[X]? = some (.cells #[.string s1, .int .i64 d1, .int .u64 v1] 31 (0, 0)) := by rw [hW, hX]; exact (MapKept.heap_alloc w1 _).1
  have c0 : W.cell? ⟨X, 0, none⟩ = some (.string s1) := by rw [World.cell?, hx0]; rfl
  have c1 : W.cell? ⟨X, 1, none⟩ = some (.int .i64 d1) := by rw [World.cell?, hx0]; rfl
  have c2 : W.cell? ⟨X, 2, none⟩ = some (.int .u64 v1) := by rw [World.cell?, hx0]; rfl
  have hXW : X < W.heap.size := lt_of_block hx0
  rw [← hW, ← hX]
  have HWB := Lib.hid hWB
  clear hW hX hWB hx0 HB
  go_region_held3 (fun w' => w'.cell? ⟨X, 0, none⟩ = some (.string s1) ∧ w'.cell? ⟨X, 1, none⟩ = some (.int .i64 d1) ∧ w'.cell? ⟨X, 2, none⟩ = some (.int .u64 v1))
    (first
      | (go_split_ands; refine ⟨by go_keep, by go_keep, by go_keep⟩)
      | (go_split_ands; refine ⟨?_, ?_, ?_⟩ <;> (rw [hb3.cell (by exact hXW)]; assumption))
      | fail)
    ((first | (go_at_call 33; refine (HF.out _ HWB.out.drew).mono ?_; rintro e w3 ⟨rfl, hb3⟩) | fail))
  all_goals
    go_wp2
    go_ret2
    have hb4 : Below w.heap.size w w3 := after HWB.out.drew hb3
    exact ⟨rfl, HP.out.below hb4, hb4.mono HP.out.base, Fr.of_below hb4⟩
set_option maxRecDepth 100000 in
set_option maxHeartbeats 4000000 in
theorem Put_new {w : World} {base p : Nat} {l : List Lt} (h : PS w base p l) (hg : ∀ y ∈ l, GoodL y) (hd : l.Nodup) (n : Nd) (hn : GoodN n) (h0 : (ofL n).2 = 0) (hnm : (ofL n).1 ∉ l) (h64 : l.length < 64) : Calls Try.prog 13 #[.pointer (some ⟨p, 0, none⟩), ndV n] w (PutP base p (l ++ [(ofL n).1]) (l.length, 0) w) := by
  have HO : Hid (∀ w, Calls Try.prog 14 #[ndV n] w (RetB (outL (ofL n)) w)) := Lib.hid fun w => Of_any n w hn
  have HP := Lib.hid h
  have HB := Lib.hid (Below.refl w.heap.size w)
  have HF : Hid (∀ w', Below w.heap.size w w' → Calls Try.prog 33 #[.pointer (some ⟨p, 0, none⟩), litV (ofL n).1] w' (RetB (.tuple #[.int .i64 0, .bool false]) w')) := Lib.hid fun w' hb => find_no (h.below hb) hg hd _ (ofL_good hn) hnm
  have HS : Hid (∀ w', Below w.heap.size w w' → Calls Try.prog 17 #[.pointer (some ⟨p, 0, none⟩)] w' (Ret (.int .i64 (l.length : Nat)) w')) := Lib.hid fun w' hb => Size_any (h.below hb)
  have HA : Hid (∀ w', Below w.heap.size w w' → Calls Try.prog 34 #[.pointer (some ⟨p, 0, none⟩), litV (ofL n).1] w' (AddP base p l (ofL n).1 w')) := Lib.hid fun w' hb => add_any (h.below hb) hg (ofL_good hn) hnm (by omega)
  obtain ⟨k, s, d, m, v⟩ := n
  generalize ofL ⟨k, s, d, m, v⟩ = r at *
  obtain ⟨⟨s1, d1, v1⟩, er⟩ := r
  simp only [] at h0
  subst h0
  clear h hn hnm hg hd
  obtain ⟨ln, hln⟩ : ∃ ln, ln = l.length := ⟨_, rfl⟩
  rw [← hln] at HS h64 ⊢
  have HL := Lib.hid hln
  clear hln
  go_enter Try.func13, Try.ntmps13
  go_wp2_with (go_at_call 14; ((with_reducible refine (HO.out _).mono ?_); rintro e w1 ⟨rfl, hb⟩; replace HB := Lib.hid (after ((HB.out).alloc HB.out.size _) hb); clear hb))
  obtain ⟨W, hW⟩ : ∃ W, W = w1.alloc (.cells #[.string s1, .int .i64 d1, .int .u64 v1] 31) := ⟨_, rfl⟩
  obtain ⟨X, hX⟩ : ∃ X, X = w1.heap.size := ⟨_, rfl⟩
  have hWB : Below w.heap.size w W := by rw [hW]; exact (HB.out).alloc HB.out.size _
  have hx0 : W.heap[X]? = some (.cells #[.string s1, .int .i64 d1, .int .u64 v1] 31 (0, 0)) := by rw [hW, hX]; exact (MapKept.heap_alloc w1 _).1
  have c0 : W.cell? ⟨X, 0, none⟩ = some (.string s1) := by rw [World.cell?, hx0]; rfl
  have c1 : W.cell? ⟨X, 1, none⟩ = some (.int .i64 d1) := by rw [World.cell?, hx0]; rfl
  have c2 : W.cell? ⟨X, 2, none⟩ = some (.int .u64 v1) := by rw [World.cell?, hx0]; rfl
  have hXW : X < W.heap.size := lt_of_block hx0
  rw [← hW, ← hX]
  have HWB := Lib.hid hWB
  clear hW hX hWB hx0 HB
  go_region_held3 (fun w' => w'.cell? ⟨X, 0, none⟩ = some (.string s1) ∧ w'.cell? ⟨X, 1, none⟩ = some (.int .i64 d1) ∧ w'.cell? ⟨X, 2, none⟩ = some (.int .u64 v1))
    (first
      | (go_split_ands; refine ⟨by go_keep, by go_keep, by go_keep⟩)
      | (go_split_ands; refine ⟨?_, ?_, ?_⟩ <;> (rw [hb3.cell (by exact hXW)]; assumption))
      | fail)
    ((first | (go_at_call 33; refine (HF.out _ HWB.out.drew).mono ?_; rintro e w3 ⟨rfl, hb3⟩) | fail))
  obtain ⟨d0, d1', d2⟩ : w3.cell? ⟨X, 0, none⟩ = some (.string s1) ∧ w3.cell? ⟨X, 1, none⟩ = some (.int .i64 d1) ∧ w3.cell? ⟨X, 2, none⟩ = some (.int .u64 v1) := by assumption
  have HB4 := Lib.hid (after HWB.out.drew hb3)
  clear hb3 c0 c1 c2
  go_wp2_with (go_at_call 17; ((with_reducible refine (HS.out _ HB4.out).mono ?_); rintro e w' ⟨rfl, rfl⟩))
  go_still_tail 4, (by kernel_rfl)
  change wpList _ _ _ _ _ w3.drew
  have e0 : w3.drew.cell? ⟨X, 0, none⟩ = some (.string s1) := d0
  go_wp2_with fail
  refine (HA.out _ HB4.out.drew).mono ?_
  rintro e w5 ⟨rfl, ha, hb5, hf5⟩
  have HPA := Lib.hid ha
  have HB5 := Lib.hid ((HB4.out.drew.mono HP.out.base).trans hb5)
  have HF5 := Lib.hid (Fr.trans (Fr.of_below HB4.out.drew) hf5)
  rw [← HL.out]
  clear ha hb5 hf5 d0 d1' d2 e0
  go_wp2
  go_ret2
  exact ⟨rfl, HPA.out, HB5.out, HF5.out⟩
set_option maxRecDepth 100000 in
set_option maxHeartbeats 4000000 in
theorem Put_full {w : World} {base p : Nat} {l : List Lt} (h : PS w base p l) (hg : ∀ y ∈ l, GoodL y) (hd : l.Nodup) (n : Nd) (hn : GoodN n) (h0 : (ofL n).2 = 0) (hnm : (ofL n).1 ∉ l) (h64 : l.length = 64) : Calls Try.prog 13 #[.pointer (some ⟨p, 0, none⟩), ndV n] w (PutP base p l (0, 2) w) := by
  have HO : Hid (∀ w, Calls Try.prog 14 #[ndV n] w (RetB (outL (ofL n)) w)) := Lib.hid fun w => Of_any n w hn
  have HP := Lib.hid h
  have HB := Lib.hid (Below.refl w.heap.size w)
  have HF : Hid (∀ w', Below w.heap.size w w' → Calls Try.prog 33 #[.pointer (some ⟨p, 0, none⟩), litV (ofL n).1] w' (RetB (.tuple #[.int .i64 0, .bool false]) w')) := Lib.hid fun w' hb => find_no (h.below hb) hg hd _ (ofL_good hn) hnm
  have HS : Hid (∀ w', Below w.heap.size w w' → Calls Try.prog 17 #[.pointer (some ⟨p, 0, none⟩)] w' (Ret (.int .i64 (l.length : Nat)) w')) := Lib.hid fun w' hb => Size_any (h.below hb)
  obtain ⟨k, s, d, m, v⟩ := n
  generalize ofL ⟨k, s, d, m, v⟩ = r at *
  obtain ⟨⟨s1, d1, v1⟩, er⟩ := r
  simp only [] at h0
  subst h0
  clear h hn hnm hg hd
  rw [h64] at HS
  clear h64
  go_enter Try.func13, Try.ntmps13
  go_wp2_with (go_at_call 14; ((with_reducible refine (HO.out _).mono ?_); rintro e w1 ⟨rfl, hb⟩; replace HB := Lib.hid (after ((HB.out).alloc HB.out.size _) hb); clear hb))
  obtain ⟨W, hW⟩ : ∃ W, W = w1.alloc (.cells #[.string s1, .int .i64 d1, .int .u64 v1] 31) := ⟨_, rfl⟩
  obtain ⟨X, hX⟩ : ∃ X, X = w1.heap.size := ⟨_, rfl⟩
  have hWB : Below w.heap.size w W := by rw [hW]; exact (HB.out).alloc HB.out.size _
  have hx0 : W.heap[X]? = some (.cells #[.string s1, .int .i64 d1, .int .u64 v1] 31 (0, 0)) := by rw [hW, hX]; exact (MapKept.heap_alloc w1 _).1
  have c0 : W.cell? ⟨X, 0, none⟩ = some (.string s1) := by rw [World.cell?, hx0]; rfl
  have c1 : W.cell? ⟨X, 1, none⟩ = some (.int .i64 d1) := by rw [World.cell?, hx0]; rfl
  have c2 : W.cell? ⟨X, 2, none⟩ = some (.int .u64 v1) := by rw [World.cell?, hx0]; rfl
  have hXW : X < W.heap.size := lt_of_block hx0
  rw [← hW, ← hX]
  have HWB := Lib.hid hWB
  clear hW hX hWB hx0 HB
  go_region_held3 (fun w' => w'.cell? ⟨X, 0, none⟩ = some (.string s1) ∧ w'.cell? ⟨X, 1, none⟩ = some (.int .i64 d1) ∧ w'.cell? ⟨X, 2, none⟩ = some (.int .u64 v1))
    (first
      | (go_split_ands; refine ⟨by go_keep, by go_keep, by go_keep⟩)
      | (go_split_ands; refine ⟨?_, ?_, ?_⟩ <;> (rw [hb3.cell (by exact hXW)]; assumption))
      | fail)
    ((first | (go_at_call 33; refine (HF.out _ HWB.out.drew).mono ?_; rintro e w3 ⟨rfl, hb3⟩) | fail))
  obtain ⟨d0, d1', d2⟩ : w3.cell? ⟨X, 0, none⟩ = some (.string s1) ∧ w3.cell? ⟨X, 1, none⟩ = some (.int .i64 d1) ∧ w3.cell? ⟨X, 2, none⟩ = some (.int .u64 v1) := by assumption
  have HB4 := Lib.hid (after HWB.out.drew hb3)
  clear hb3 c0 c1 c2
  go_wp2_with (go_at_call 17; ((with_reducible refine (HS.out _ HB4.out).mono ?_); rintro e w' ⟨rfl, rfl⟩))
  go_ret2
  exact ⟨rfl, HP.out.below HB4.out, HB4.out.mono HP.out.base, Fr.of_below HB4.out⟩
end Go.Proofs.Ytbicmnbmkaffeaa
