/- The law PoolValue. -/
import Derived.Test.YtbicmnbmkaffeaaPQB
namespace Go.Proofs.Ytbicmnbmkaffeaa
set_option linter.unusedVariables false
set_option linter.unusedSimpArgs false
open Go.ChangeShapes Go.WideShapes Go.Deep Go.RowKit

set_option maxRecDepth 100000 in
set_option maxHeartbeats 4000000 in
theorem put_nil (n : Nd) (w : World) : Calls Try.prog 13 #[.pointer none, ndV n] w (RetB (.tuple #[.int .i64 0, .int .i64 1]) w) := by
  obtain ⟨k, s, d, m, v⟩ := n
  go_enter Try.func13, Try.ntmps13
  go_wp2
  go_ret2
  exact ⟨rfl, (Below.refl _ _).alloc (Nat.le_refl _) _⟩
theorem size_nil (w : World) : Calls Try.prog 17 #[.pointer none] w (Ret (.int .i64 0) w) := by
  go_enter Try.func17, Try.ntmps17
  go_wp2
  go_ret
  exact ⟨rfl, rfl⟩
theorem take_nil (w : World) : Calls Try.prog 16 #[.pointer none] w (Ret (.slice none 0 0) w) := by
  go_enter Try.func16, Try.ntmps16
  go_wp2
  go_ret
  exact ⟨rfl, rfl⟩
theorem ofL_ok {n : Nd} (h : (ofL n).2 = 0) : (n.sym ≠ ⟨#[]⟩ ∧ n.v = 0 ∧ n.minus = false ∧ (ofL n).1 = ⟨n.sym, n.add, 0⟩) ∨ (n.sym = ⟨#[]⟩ ∧ (ofL n).1 = ⟨⟨#[]⟩, 0, if n.minus = true then (-n.v) % 18446744073709551616 else n.v⟩) := by
  unfold ofL at h ⊢
  by_cases c : n.kind ≠ 10 ∨ (n.sym ≠ ⟨#[]⟩ ∧ (n.v ≠ 0 ∨ n.minus = true))
  · rw [if_pos c] at h; simp at h
  · by_cases d : n.sym ≠ ⟨#[]⟩
    · left
      rw [if_neg c, if_pos d]
      refine ⟨d, ?_, ?_, rfl⟩
      · apply Classical.byContradiction; intro e; exact c (.inr ⟨d, .inl e⟩)
      · cases hm : n.minus
        · rfl
        · exact (c (.inr ⟨d, .inr hm⟩)).elim
    · right
      rw [if_neg c, if_neg d]
      refine ⟨by simpa using d, ?_⟩
      split <;> rfl
theorem ofL_bad {n : Nd} (h : (ofL n).2 ≠ 0) : ofL n = (lz, 1) := by
  unfold ofL at h ⊢
  split
  · rfl
  · rename_i c
    rw [if_neg c] at h
    exfalso; apply h
    split
    · rfl
    · split <;> rfl
def sameL (x y : Lt) : Bool := decide (x.sym = y.sym) && (x.add == y.add && x.v == y.v)
theorem eq_lit (x y : Lt) : ∀ w, (Sem.run Try.prog (binOp BinOp.eql 31 (litV x) (litV y)) w) = Result.ok (.bool (sameL x y)) w := by
  intro w
  obtain ⟨a, b, c⟩ := x
  obtain ⟨d, e, f⟩ := y
  have hh : (a.toList = d.toList) = (a = d) := by
    rw [Lib.toList_data, Lib.toList_data]
    refine propext ⟨fun h => ?_, fun h => by rw [h]⟩
    cases a; cases d; congr 1; exact Array.toList_inj.1 h
  simp [go_sem, sameL, hh]
  repeat' split
  all_goals simp_all
theorem sameL_iff {x y : Lt} : sameL x y = true ↔ x = y := by
  obtain ⟨a, b, c⟩ := x
  obtain ⟨d, e, f⟩ := y
  simp [sameL, Lt.mk.injEq]
def NdAt (X : Nat) (n : Nd) (w : World) : Prop := w.cell? ⟨X, 0, none⟩ = some (.int .i64 n.kind) ∧ w.cell? ⟨X, 1, none⟩ = some (.string n.sym) ∧ w.cell? ⟨X, 2, none⟩ = some (.int .i64 n.add) ∧ w.cell? ⟨X, 3, none⟩ = some (.bool n.minus) ∧ w.cell? ⟨X, 4, none⟩ = some (.int .u64 n.v)
def LtAt (X : Nat) (x : Lt) (w : World) : Prop := w.cell? ⟨X, 0, none⟩ = some (.string x.sym) ∧ w.cell? ⟨X, 1, none⟩ = some (.int .i64 x.add) ∧ w.cell? ⟨X, 2, none⟩ = some (.int .u64 x.v)
theorem celA {w : World} {B T j : Nat} {cs : Array Value} (h : w.heap[B]? = some (.cells cs T (0, 0))) : w.cell? ⟨B, j, none⟩ = cs[j]? := by rw [World.cell?, h]; rfl
theorem NdAt.made (w : World) (n : Nd) (T : TypeId) : NdAt w.heap.size n (w.alloc (.cells #[.int .i64 n.kind, .string n.sym, .int .i64 n.add, .bool n.minus, .int .u64 n.v] T)) := by
  have h := (MapKept.heap_alloc w (.cells #[.int .i64 n.kind, .string n.sym, .int .i64 n.add, .bool n.minus, .int .u64 n.v] T)).1
  exact ⟨celA h, celA h, celA h, celA h, celA h⟩
theorem LtAt.made (w : World) (x : Lt) (T : TypeId) : LtAt w.heap.size x (w.alloc (.cells #[.string x.sym, .int .i64 x.add, .int .u64 x.v] T)) := by
  have h := (MapKept.heap_alloc w (.cells #[.string x.sym, .int .i64 x.add, .int .u64 x.v] T)).1
  exact ⟨celA h, celA h, celA h⟩
theorem NdAt.below {X C : Nat} {n : Nd} {w w' : World} (h : NdAt X n w) (hb : Below C w w') (hX : X < C) : NdAt X n w' := by
  obtain ⟨h0, h1, h2, h3, h4⟩ := h
  exact ⟨(hb.cell hX).trans h0, (hb.cell hX).trans h1, (hb.cell hX).trans h2, (hb.cell hX).trans h3, (hb.cell hX).trans h4⟩
theorem LtAt.below {X C : Nat} {x : Lt} {w w' : World} (h : LtAt X x w) (hb : Below C w w') (hX : X < C) : LtAt X x w' := by
  obtain ⟨h0, h1, h2⟩ := h
  exact ⟨(hb.cell hX).trans h0, (hb.cell hX).trans h1, (hb.cell hX).trans h2⟩
set_option maxRecDepth 100000 in
set_option maxHeartbeats 8000000 in
theorem PoolValue_walk (n : Nd) (hn : GoodN n) (w : World) : Calls Try.prog 6 #[ndV n] w (RetB (.bool true) w) := by
  have HK : Hid (∀ w, Calls Try.prog 15 #[] w (RetB (.bool true) w)) := Lib.hid fun w => pooled_any w
  have hsz := hn.sym
  unfold maxLen at hsz
  by_cases h100 : 100 < n.sym.size
  · obtain ⟨k, s, d, m, v⟩ := n
    simp only [] at h100 hsz
    clear hn
    go_enter Try.func6, Try.ntmps6
    go_wp2
    go_ret
    exact retB_bool rfl ((Below.refl _ _).alloc (Nat.le_refl _) _)
  have HO : Hid (∀ w, Calls Try.prog 14 #[ndV n] w (RetB (outL (ofL n)) w)) := Lib.hid fun w => Of_any n w hn
  have HP : Hid (∀ w, Calls Try.prog 13 #[.pointer none, ndV n] w (RetB (.tuple #[.int .i64 0, .int .i64 1]) w)) := Lib.hid fun w => put_nil n w
  have HS : Hid (∀ w, Calls Try.prog 17 #[.pointer none] w (Ret (.int .i64 0) w)) := Lib.hid fun w => size_nil w
  have HT : Hid (∀ w, Calls Try.prog 16 #[.pointer none] w (Ret (.slice none 0 0) w)) := Lib.hid fun w => take_nil w
  have hat := NdAt.made w n 24
  obtain ⟨X, hX⟩ : ∃ X, X = w.heap.size := ⟨_, rfl⟩
  obtain ⟨W0, hW0⟩ : ∃ W0, W0 = w.alloc (.cells #[.int .i64 n.kind, .string n.sym, .int .i64 n.add, .bool n.minus, .int .u64 n.v] 24) := ⟨_, rfl⟩
  have hXl : X < W0.heap.size := by rw [hX, hW0]; simp
  rw [← hW0, ← hX] at hat
  have HW : Hid (Below w.heap.size w W0) := Lib.hid (by rw [hW0]; exact (Below.refl _ w).alloc (Nat.le_refl _) _)
  have HA := Lib.hid hat
  have HEQ := Lib.hid hW0
  have HXQ := Lib.hid hX
  have HB := Lib.hid (Below.refl W0.heap.size W0)
  clear hX hW0 hat
  have hv := hn.v
  by_cases h0 : (ofL n).2 = 0
  · have hg := ofL_good hn
    have hVal := fun w h1 h2 => Value_any (ofL n).1 w hg h1 h2
    have hr : ofL n = ((ofL n).1, 0) := by rw [← h0]
    rcases ofL_ok h0 with ⟨c1, c2, c3, c4⟩ | ⟨c1, c2⟩
    · rw [hr, c4] at HO
      rw [c4] at hVal
      obtain ⟨o8, ho8⟩ : ∃ o8 : ByteArray, o8 = ⟨(leB 8 0).toArray⟩ := ⟨_, rfl⟩
      have HV : Hid (∀ w, Calls Try.prog 18 #[litV ⟨n.sym, n.add, 0⟩] w (RetB (.tuple #[.string o8, .int .i64 0]) w)) := Lib.hid fun w => by rw [ho8]; exact hVal w (fun _ => rfl) (fun e => absurd e c1)
      have hs8 : o8.size = 8 := by rw [ho8]; rfl
      have HN : Hid (∀ w, Calls Try.prog 19 #[.string o8] w (RetD (.int .u64 0) w)) := Lib.hid fun w => by
        have := refNumber_any o8 w (by omega)
        rwa [show leV o8.data.toList = 0 from by rw [ho8]; decide +kernel] at this
      have q8 : ((o8.size : Int) == 8) = true := by rw [hs8]; rfl
      have hl : n.sym.toList.isEmpty = false := by
        rw [Lib.toList_data]; refine List.isEmpty_eq_false_iff.2 fun e => c1 ?_
        cases hns : n.sym; rw [hns] at e; congr 1; exact Array.toList_inj.1 e
      clear h0 hn hg hVal hr c1 c2 c3 c4 hv ho8 q8
      obtain ⟨k, s, d, m, v⟩ := n
      simp only [] at h100 hsz hl HO HV
      go_enter Try.func6, Try.ntmps6
      go_wp2_with fail
      rw [← HEQ.out, ← HXQ.out]
      refine (HP.out _).mono ?_
      rintro e w1 ⟨rfl, hb⟩
      replace HB := Lib.hid (after HB.out hb)
      clear hb
      obtain ⟨a0, a1, a2, a3, a4⟩ := HA.out.below HB.out hXl
      go_wp2_with (first
        | (go_at_call 17; ((with_reducible refine (HS.out _).mono ?_); rintro e w' ⟨rfl, rfl⟩))
        | (go_at_call 16; ((with_reducible refine (HT.out _).mono ?_); rintro e w' ⟨rfl, rfl⟩)))
      refine (HO.out _).mono ?_
      rintro e w2 ⟨rfl, hb⟩
      replace HB := Lib.hid (after HB.out hb)
      clear hb a0 a1 a2 a3 a4
      obtain ⟨a0, a1, a2, a3, a4⟩ := HA.out.below HB.out hXl
      go_wp2_with fail
      have hy := LtAt.made w2 ⟨s, d, 0⟩ 31
      obtain ⟨Y, hYe⟩ : ∃ Y, Y = w2.heap.size := ⟨_, rfl⟩
      obtain ⟨W2, hW2⟩ : ∃ W2, W2 = w2.alloc (.cells #[.string (Lt.sym ⟨s, d, 0⟩), .int .i64 (Lt.add ⟨s, d, 0⟩), .int .u64 (Lt.v ⟨s, d, 0⟩)] 31) := ⟨_, rfl⟩
      have hYl : Y < W2.heap.size := by rw [hYe, hW2]; simp
      rw [← hW2, ← hYe] at hy
      have HY := Lib.hid hy
      have hB2 : Below W0.heap.size W0 W2 := by rw [hW2]; exact (HB.out).alloc HB.out.size _
      replace HB := Lib.hid hB2
      have HC := Lib.hid (Below.refl W2.heap.size W2)
      simp only [] at hW2
      rw [← hW2, ← hYe]
      clear hy hYe hW2 hB2
      obtain ⟨y0, y1, y2⟩ := HY.out.below HC.out hYl
      go_wp2_with fail
      refine (HV.out _).mono ?_
      rintro e w3 ⟨rfl, hb⟩
      replace HB := Lib.hid (after HB.out hb)
      replace HC := Lib.hid (after HC.out hb)
      clear hb a0 a1 a2 a3 a4
      obtain ⟨a0, a1, a2, a3, a4⟩ := HA.out.below HB.out hXl
      clear y0 y1 y2
      obtain ⟨y0, y1, y2⟩ := HY.out.below HC.out hYl
      go_wp2_with (first
        | (go_at_call 19; ((with_reducible refine (HN.out _).mono ?_); rintro e w4 ⟨rfl, mm, rfl⟩; have hb := below_refl_drewN w3 mm; replace HB := Lib.hid (after HB.out hb); replace HC := Lib.hid (after HC.out hb); clear hb))
        | (go_at_call 15; ((with_reducible refine (HK.out _).mono ?_); rintro e w5 ⟨rfl, hb⟩; replace HB := Lib.hid (after HB.out hb); replace HC := Lib.hid (after HC.out hb); clear hb a0 a1 a2 a3 a4 y0 y1 y2; obtain ⟨a0, a1, a2, a3, a4⟩ := HA.out.below HB.out hXl; obtain ⟨y0, y1, y2⟩ := HY.out.below HC.out hYl)))
      go_ret
      exact retB_bool (by simp) (HW.out.trans (HB.out.mono HW.out.size))
    · rw [hr, c2] at HO
      obtain ⟨y, hy⟩ : ∃ y, y = if n.minus = true then (-n.v) % 18446744073709551616 else n.v := ⟨_, rfl⟩
      have hyb : 0 ≤ y ∧ y < 18446744073709551616 := by rw [hy]; split <;> omega
      rw [c2, ← hy] at hVal
      rw [← hy] at HO
      obtain ⟨yn, rfl⟩ := Int.eq_ofNat_of_zero_le hyb.1
      obtain ⟨o8, ho8⟩ : ∃ o8 : ByteArray, o8 = ⟨(leB 8 yn).toArray⟩ := ⟨_, rfl⟩
      have HV : Hid (∀ w, Calls Try.prog 18 #[litV ⟨⟨#[]⟩, 0, (yn : Int)⟩] w (RetB (.tuple #[.string o8, .int .i64 0]) w)) := Lib.hid fun w => by rw [ho8]; exact hVal w (fun e => absurd rfl e) (fun e => rfl)
      have hs8 : o8.size = 8 := by rw [ho8]; exact leB_len 8 yn
      have HN : Hid (∀ w, Calls Try.prog 19 #[.string o8] w (RetD (.int .u64 (yn : Int)) w)) := Lib.hid fun w => by
        have := refNumber_any o8 w (by omega)
        rwa [show leV o8.data.toList = yn from by rw [ho8]; exact leV_leB 8 yn (by rw [show (256 : Nat) ^ 8 = 18446744073709551616 from by decide]; omega)] at this
      have q8 : ((o8.size : Int) == 8) = true := by rw [hs8]; rfl
      clear h0 hg hVal hr c2 ho8 q8
      obtain ⟨k, s, d, m, v⟩ := n
      simp only [] at h100 hsz c1 hy hv HO HV
      subst c1
      clear hn
      cases m
      · have hy2 : (yn : Int) = v := by simpa using hy
        subst hy2
        clear hy
        go_enter Try.func6, Try.ntmps6
        go_wp2_with fail
        rw [← HEQ.out, ← HXQ.out]
        refine (HP.out _).mono ?_
        rintro e w1 ⟨rfl, hb⟩
        replace HB := Lib.hid (after HB.out hb)
        clear hb
        obtain ⟨a0, a1, a2, a3, a4⟩ := HA.out.below HB.out hXl
        go_wp2_with (first
          | (go_at_call 17; ((with_reducible refine (HS.out _).mono ?_); rintro e w' ⟨rfl, rfl⟩))
          | (go_at_call 16; ((with_reducible refine (HT.out _).mono ?_); rintro e w' ⟨rfl, rfl⟩)))
        refine (HO.out _).mono ?_
        rintro e w2 ⟨rfl, hb⟩
        replace HB := Lib.hid (after HB.out hb)
        clear hb a0 a1 a2 a3 a4
        obtain ⟨a0, a1, a2, a3, a4⟩ := HA.out.below HB.out hXl
        go_wp2_with fail
        have hy := LtAt.made w2 ⟨⟨#[]⟩, 0, (yn : Int)⟩ 31
        obtain ⟨Y, hYe⟩ : ∃ Y, Y = w2.heap.size := ⟨_, rfl⟩
        obtain ⟨W2, hW2⟩ : ∃ W2, W2 = w2.alloc (.cells #[.string (Lt.sym ⟨⟨#[]⟩, 0, (yn : Int)⟩), .int .i64 (Lt.add ⟨⟨#[]⟩, 0, (yn : Int)⟩), .int .u64 (Lt.v ⟨⟨#[]⟩, 0, (yn : Int)⟩)] 31) := ⟨_, rfl⟩
        have hYl : Y < W2.heap.size := by rw [hYe, hW2]; simp
        rw [← hW2, ← hYe] at hy
        have HY := Lib.hid hy
        have hB2 : Below W0.heap.size W0 W2 := by rw [hW2]; exact (HB.out).alloc HB.out.size _
        replace HB := Lib.hid hB2
        have HC := Lib.hid (Below.refl W2.heap.size W2)
        simp only [] at hW2
        rw [← hW2, ← hYe]
        clear hy hYe hW2 hB2
        obtain ⟨y0, y1, y2⟩ := HY.out.below HC.out hYl
        go_wp2_with fail
        refine (HV.out _).mono ?_
        rintro e w3 ⟨rfl, hb⟩
        replace HB := Lib.hid (after HB.out hb)
        replace HC := Lib.hid (after HC.out hb)
        clear hb a0 a1 a2 a3 a4
        obtain ⟨a0, a1, a2, a3, a4⟩ := HA.out.below HB.out hXl
        clear y0 y1 y2
        obtain ⟨y0, y1, y2⟩ := HY.out.below HC.out hYl
        go_wp2_with (first
          | (go_at_call 19; ((with_reducible refine (HN.out _).mono ?_); rintro e w4 ⟨rfl, mm, rfl⟩; have hb := below_refl_drewN w3 mm; replace HB := Lib.hid (after HB.out hb); replace HC := Lib.hid (after HC.out hb); clear hb))
          | (go_at_call 15; ((with_reducible refine (HK.out _).mono ?_); rintro e w5 ⟨rfl, hb⟩; replace HB := Lib.hid (after HB.out hb); replace HC := Lib.hid (after HC.out hb); clear hb a0 a1 a2 a3 a4 y0 y1 y2; obtain ⟨a0, a1, a2, a3, a4⟩ := HA.out.below HB.out hXl; obtain ⟨y0, y1, y2⟩ := HY.out.below HC.out hYl)))
        go_ret
        exact retB_bool (by simp) (HW.out.trans (HB.out.mono HW.out.size))
      · have hq : IntKind.u64.wrap ((yn : Int) + v) = 0 := by rw [IntKind.wrap_u64, hy]; simp only [if_true]; omega
        have q9 : (IntKind.u64.wrap ((yn : Int) + v) == 0) = true := by rw [hq]; rfl
        clear hy hq
        go_enter Try.func6, Try.ntmps6
        go_wp2_with fail
        rw [← HEQ.out, ← HXQ.out]
        refine (HP.out _).mono ?_
        rintro e w1 ⟨rfl, hb⟩
        replace HB := Lib.hid (after HB.out hb)
        clear hb
        obtain ⟨a0, a1, a2, a3, a4⟩ := HA.out.below HB.out hXl
        go_wp2_with (first
          | (go_at_call 17; ((with_reducible refine (HS.out _).mono ?_); rintro e w' ⟨rfl, rfl⟩))
          | (go_at_call 16; ((with_reducible refine (HT.out _).mono ?_); rintro e w' ⟨rfl, rfl⟩)))
        refine (HO.out _).mono ?_
        rintro e w2 ⟨rfl, hb⟩
        replace HB := Lib.hid (after HB.out hb)
        clear hb a0 a1 a2 a3 a4
        obtain ⟨a0, a1, a2, a3, a4⟩ := HA.out.below HB.out hXl
        go_wp2_with fail
        have hy := LtAt.made w2 ⟨⟨#[]⟩, 0, (yn : Int)⟩ 31
        obtain ⟨Y, hYe⟩ : ∃ Y, Y = w2.heap.size := ⟨_, rfl⟩
        obtain ⟨W2, hW2⟩ : ∃ W2, W2 = w2.alloc (.cells #[.string (Lt.sym ⟨⟨#[]⟩, 0, (yn : Int)⟩), .int .i64 (Lt.add ⟨⟨#[]⟩, 0, (yn : Int)⟩), .int .u64 (Lt.v ⟨⟨#[]⟩, 0, (yn : Int)⟩)] 31) := ⟨_, rfl⟩
        have hYl : Y < W2.heap.size := by rw [hYe, hW2]; simp
        rw [← hW2, ← hYe] at hy
        have HY := Lib.hid hy
        have hB2 : Below W0.heap.size W0 W2 := by rw [hW2]; exact (HB.out).alloc HB.out.size _
        replace HB := Lib.hid hB2
        have HC := Lib.hid (Below.refl W2.heap.size W2)
        simp only [] at hW2
        rw [← hW2, ← hYe]
        clear hy hYe hW2 hB2
        obtain ⟨y0, y1, y2⟩ := HY.out.below HC.out hYl
        go_wp2_with fail
        refine (HV.out _).mono ?_
        rintro e w3 ⟨rfl, hb⟩
        replace HB := Lib.hid (after HB.out hb)
        replace HC := Lib.hid (after HC.out hb)
        clear hb a0 a1 a2 a3 a4
        obtain ⟨a0, a1, a2, a3, a4⟩ := HA.out.below HB.out hXl
        clear y0 y1 y2
        obtain ⟨y0, y1, y2⟩ := HY.out.below HC.out hYl
        go_wp2_with (first
          | (go_at_call 19; ((with_reducible refine (HN.out _).mono ?_); rintro e w4 ⟨rfl, mm, rfl⟩; have hb := below_refl_drewN w3 mm; replace HB := Lib.hid (after HB.out hb); replace HC := Lib.hid (after HC.out hb); clear hb))
          | (go_at_call 15; ((with_reducible refine (HK.out _).mono ?_); rintro e w5 ⟨rfl, hb⟩; replace HB := Lib.hid (after HB.out hb); replace HC := Lib.hid (after HC.out hb); clear hb a0 a1 a2 a3 a4 y0 y1 y2; obtain ⟨a0, a1, a2, a3, a4⟩ := HA.out.below HB.out hXl; obtain ⟨y0, y1, y2⟩ := HY.out.below HC.out hYl)))
        go_ret
        exact retB_bool (by simp [q9]) (HW.out.trans (HB.out.mono HW.out.size))
  · have e := ofL_bad h0
    rw [e] at HO
    have hq := eq_lit lz lz
    rw [show sameL lz lz = true from sameL_iff.2 rfl] at hq
    clear h0 e hn
    obtain ⟨k, s, d, m, v⟩ := n
    simp only [] at h100 hsz
    go_enter Try.func6, Try.ntmps6
    go_wp2_with fail
    rw [← HEQ.out, ← HXQ.out]
    refine (HP.out _).mono ?_
    rintro e w1 ⟨rfl, hb⟩
    replace HB := Lib.hid (after HB.out hb)
    clear hb
    obtain ⟨a0, a1, a2, a3, a4⟩ := HA.out.below HB.out hXl
    go_wp2_with (first
      | (go_at_call 17; ((with_reducible refine (HS.out _).mono ?_); rintro e w' ⟨rfl, rfl⟩))
      | (go_at_call 16; ((with_reducible refine (HT.out _).mono ?_); rintro e w' ⟨rfl, rfl⟩)))
    refine (HO.out _).mono ?_
    rintro e w2 ⟨rfl, hb⟩
    replace HB := Lib.hid (after HB.out hb)
    clear hb a0 a1 a2 a3 a4
    obtain ⟨a0, a1, a2, a3, a4⟩ := HA.out.below HB.out hXl
    go_wp2_with fail
    have hy := LtAt.made w2 lz 31
    obtain ⟨Y, hYe⟩ : ∃ Y, Y = w2.heap.size := ⟨_, rfl⟩
    obtain ⟨W2, hW2⟩ : ∃ W2, W2 = w2.alloc (.cells #[.string (Lt.sym lz), .int .i64 (Lt.add lz), .int .u64 (Lt.v lz)] 31) := ⟨_, rfl⟩
    have hYl : Y < W2.heap.size := by rw [hYe, hW2]; simp
    rw [← hW2, ← hYe] at hy
    have HY := Lib.hid hy
    have hB2 : Below W0.heap.size W0 W2 := by rw [hW2]; exact (HB.out).alloc HB.out.size _
    replace HB := Lib.hid hB2
    have HC := Lib.hid (Below.refl W2.heap.size W2)
    simp only [] at hW2
    rw [← hW2, ← hYe]
    clear hy hYe hW2 hB2
    refine (HK.out _).mono ?_
    rintro e w3 ⟨rfl, hb⟩
    replace HB := Lib.hid (after HB.out hb)
    replace HC := Lib.hid (after HC.out hb)
    clear hb a0 a1 a2 a3 a4
    obtain ⟨a0, a1, a2, a3, a4⟩ := HA.out.below HB.out hXl
    obtain ⟨y0, y1, y2⟩ := HY.out.below HC.out hYl
    go_wp2
    go_ret
    exact retB_bool rfl (HW.out.trans (HB.out.mono HW.out.size))
end Go.Proofs.Ytbicmnbmkaffeaa
