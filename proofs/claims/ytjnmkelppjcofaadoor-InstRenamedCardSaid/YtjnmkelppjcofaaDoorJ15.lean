/- The law InstRenamed, walked. -/
import Derived.Test.YtjnmkelppjcofaaDoorJ13
import Derived.Test.YtjnmkelppjcofaaDoorJ14
import Derived.Test.YtjnmkelppjcofaaDoorJ16
namespace Go.Proofs.YtjnmkelppjcofaaDoor
set_option linter.unusedVariables false
set_option linter.unusedSimpArgs false
open Go.RowKit

theorem classes : ∀ s : Fin 17, 1 ≤ s.val → 
    ((hasDb (s.val : Nat), hasNb (s.val : Nat), hasMb (s.val : Nat), ((s.val : Nat) : Int) == 6) = (if s.val < 2 then (true, false, false, false) else if s.val < 4 then (true, true, false, false) else if s.val < 6 then (true, true, true, false) else if s.val < 7 then (true, true, true, true) else
      if s.val ≤ 8 then (true, true, false, false) else if s.val ≤ 10 then (true, false, false, false) else if s.val < 13 then (false, false, false, false) else if s.val < 14 then (false, true, false, false) else if s.val < 16 then (false, false, false, false) else (true, true, true, false))) := by decide +kernel

set_option maxRecDepth 100000 in
theorem InstRenamed_yes (i : In) (hi : InB i) (a b : Nat) (ha : a < 31) (hb : b < 31) (w : World) (hw : Tab5 w) (hf : isI i = true) (h37 : i.op ≠ 37) (h30 : ¬ (i.op = 30 ∨ i.op = 35)) :
    Calls Tryd.prog 7 #[inV i, .int .i64 a, .int .i64 b] w (RetB (.bool true) w) := by
  have p37 : (i.op == 37) = false := by rw [beq_eq_false_iff_ne]; exact h37
  have p30 : (i.op == 30) = false := by rw [beq_eq_false_iff_ne]; omega
  have p35 : (i.op == 35) = false := by rw [beq_eq_false_iff_ne]; omega
  have hsb := op_of hf
  have HSB : 1 ≤ shapeI i.op ∧ shapeI i.op ≤ 16 := by
    obtain ⟨q, hq⟩ := Int.eq_ofNat_of_zero_le (show 0 ≤ i.op by omega)
    rw [hq]; exact shapeI_pos q (by omega) (by omega)
  have hjI := swI_is (a := a) (b := b) (by omega) (by omega) hf
  obtain ⟨r0, r1, r2, r3, r4, r5, r6, r7⟩ := regs_of hjI
  have hjB : InB (swI a b i) := ⟨hi.op, by unfold i64B; omega, by unfold i64B; omega, by unfold i64B; omega, by unfold i64B; omega, hi.imm, hi.mask, hi.shift, hi.amount, hi.cond⟩
  have hIs : ∀ w, Tab5 w → Calls Tryd.prog 12 #[inV i] w (RetB (.bool true) w) := fun w h => by have := InstIs_any i w h.1 hi; rwa [hf] at this
  have hJs : ∀ w, Tab5 w → Calls Tryd.prog 12 #[inV (swI a b i)] w (RetB (.bool true) w) := fun w h => by have := InstIs_any _ w h.1 hjB; rwa [hjI] at this
  have hSh : ∀ w, Tab5 w → Calls Tryd.prog 19 #[.int .i64 i.op] w (Ret (.int .i64 (shapeI i.op)) w) := fun w h => Shape_any i.op w h.1
  have hR1 : ∀ w, Tab5 w → Calls Tryd.prog 15 #[inV i] w (RetL (readsI i) w) := fun w h => Reads_any i w h.1 hi
  have hR2 : ∀ w, Tab5 w → Calls Tryd.prog 15 #[inV (swI a b i)] w (RetL (readsI (swI a b i)) w) := fun w h => Reads_any _ w h.1 hjB
  have hmem : ∀ v ∈ readsI i, memB (readsI (swI a b i)) (swp a b v) = true := fun v hv => swI_mem ha hb hf h37 hv
  have hlen := swI_len ha hb hf h37
  have hl32 := readsI_len i
  obtain ⟨d1, d2, ok, hdd, hW1, hW2⟩ : ∃ (d1 d2 : Int) (ok : Bool), (ok = true → swp a b d1 = d2) ∧ (∀ w, Tab5 w → Calls Tryd.prog 9 #[inV i] w (RetB (.tuple #[.int .i64 d1, .bool ok]) w)) ∧
      (∀ w, Tab5 w → Calls Tryd.prog 9 #[inV (swI a b i)] w (RetB (.tuple #[.int .i64 d2, .bool ok]) w)) := by
    rcases swI_writes ha hb hf h30 with ⟨e1, e2⟩ | ⟨e1, e2⟩
    · exact ⟨0, 0, false, by simp, fun w h => by have := Writes_any i w h.1 hi; rwa [e1] at this, fun w h => by have := Writes_any _ w h.1 hjB; rwa [e2] at this⟩
    · exact ⟨i.d, swp a b i.d, true, fun _ => rfl, fun w h => by have := Writes_any i w h.1 hi; rwa [e1] at this, fun w h => by have := Writes_any _ w h.1 hjB; rwa [e2] at this⟩
  clear r0 r1 r2 r3 r4 r5 r6 r7 hjI hjB hsb
  generalize readsI (swI a b i) = l2 at *
  generalize readsI i = l1 at *
  obtain ⟨o, d, n, m, ra, x, k, h, t, c⟩ := i
  simp only [] at hSh p37 p30 p35 HSB
  obtain ⟨d', hd'⟩ : ∃ d', d' = if hasDb (shapeI o) then swp a b d else d := ⟨_, rfl⟩
  obtain ⟨n', hn'⟩ : ∃ n', n' = if hasNb (shapeI o) then swp a b n else n := ⟨_, rfl⟩
  obtain ⟨m', hm'⟩ : ∃ m', m' = if hasMb (shapeI o) then swp a b m else m := ⟨_, rfl⟩
  obtain ⟨ra', hra'⟩ : ∃ ra', ra' = if shapeI o == 6 then swp a b ra else ra := ⟨_, rfl⟩
  have hsw : swI a b ⟨o, d, n, m, ra, x, k, h, t, c⟩ = ⟨o, d', n', m', ra', x, k, h, t, c⟩ := by rw [hd', hn', hm', hra']; rfl
  rw [hsw] at hJs hR2 hW2
  generalize shapeI o = s at *
  obtain ⟨q, rfl⟩ := Int.eq_ofNat_of_zero_le (show 0 ≤ s by omega)
  have hc := classes ⟨q, by omega⟩ (by show 1 ≤ q; omega)
  simp only [] at hc
  have go : ∀ (bd bn bm b6 : Bool), (hasDb (q : Nat), hasNb (q : Nat), hasMb (q : Nat), ((q : Nat) : Int) == 6) = (bd, bn, bm, b6) →
      d' = (if bd then swp a b d else d) ∧ n' = (if bn then swp a b n else n) ∧ m' = (if bm then swp a b m else m) ∧ ra' = (if b6 then swp a b ra else ra) := by
    intro bd bn bm b6 e
    simp only [Prod.mk.injEq] at e
    obtain ⟨e1, e2, e3, e4⟩ := e
    rw [e1] at hd'; rw [e2] at hn'; rw [e3] at hm'; rw [e4] at hra'
    exact ⟨hd', hn', hm', hra'⟩
  by_cases c1 : q < 2
  · rw [if_pos c1] at hc
    obtain ⟨e1, e2, e3, e4⟩ := go _ _ _ _ hc
    exact ren_a o d n m ra x k h t c d' n' m' ra' q a b ha hb w hw (by omega) (by omega) e1 e2 e3 e4 p37 p30 p35 d1 d2 ok l1 l2 hl32 hmem hlen hdd hIs hJs hSh hR1 hR2 hW1 hW2
  rw [if_neg c1] at hc
  by_cases c2 : q < 4
  · rw [if_pos c2] at hc
    obtain ⟨e1, e2, e3, e4⟩ := go _ _ _ _ hc
    exact ren_b o d n m ra x k h t c d' n' m' ra' q a b ha hb w hw (by omega) (by omega) e1 e2 e3 e4 p37 p30 p35 d1 d2 ok l1 l2 hl32 hmem hlen hdd hIs hJs hSh hR1 hR2 hW1 hW2
  rw [if_neg c2] at hc
  by_cases c3 : q < 6
  · rw [if_pos c3] at hc
    obtain ⟨e1, e2, e3, e4⟩ := go _ _ _ _ hc
    exact ren_c o d n m ra x k h t c d' n' m' ra' q a b ha hb w hw (by omega) (by omega) e1 e2 e3 e4 p37 p30 p35 d1 d2 ok l1 l2 hl32 hmem hlen hdd hIs hJs hSh hR1 hR2 hW1 hW2
  rw [if_neg c3] at hc
  by_cases c4 : q < 7
  · rw [if_pos c4] at hc
    obtain ⟨e1, e2, e3, e4⟩ := go _ _ _ _ hc
    exact ren_d o d n m ra x k h t c d' n' m' ra' q a b ha hb w hw (by omega) (by omega) e1 e2 e3 e4 p37 p30 p35 d1 d2 ok l1 l2 hl32 hmem hlen hdd hIs hJs hSh hR1 hR2 hW1 hW2
  rw [if_neg c4] at hc
  by_cases c5 : q ≤ 8
  · rw [if_pos c5] at hc
    obtain ⟨e1, e2, e3, e4⟩ := go _ _ _ _ hc
    exact ren_e o d n m ra x k h t c d' n' m' ra' q a b ha hb w hw (by omega) (by omega) e1 e2 e3 e4 p37 p30 p35 d1 d2 ok l1 l2 hl32 hmem hlen hdd hIs hJs hSh hR1 hR2 hW1 hW2
  rw [if_neg c5] at hc
  by_cases c6 : q ≤ 10
  · rw [if_pos c6] at hc
    obtain ⟨e1, e2, e3, e4⟩ := go _ _ _ _ hc
    exact ren_f o d n m ra x k h t c d' n' m' ra' q a b ha hb w hw (by omega) (by omega) e1 e2 e3 e4 p37 p30 p35 d1 d2 ok l1 l2 hl32 hmem hlen hdd hIs hJs hSh hR1 hR2 hW1 hW2
  rw [if_neg c6] at hc
  by_cases c7 : q < 13
  · rw [if_pos c7] at hc
    obtain ⟨e1, e2, e3, e4⟩ := go _ _ _ _ hc
    exact ren_g o d n m ra x k h t c d' n' m' ra' q a b ha hb w hw (by omega) (by omega) e1 e2 e3 e4 p37 p30 p35 d1 d2 ok l1 l2 hl32 hmem hlen hdd hIs hJs hSh hR1 hR2 hW1 hW2
  rw [if_neg c7] at hc
  by_cases c8 : q < 14
  · rw [if_pos c8] at hc
    obtain ⟨e1, e2, e3, e4⟩ := go _ _ _ _ hc
    exact ren_h o d n m ra x k h t c d' n' m' ra' q a b ha hb w hw (by omega) (by omega) e1 e2 e3 e4 p37 p30 p35 d1 d2 ok l1 l2 hl32 hmem hlen hdd hIs hJs hSh hR1 hR2 hW1 hW2
  rw [if_neg c8] at hc
  by_cases c9 : q < 16
  · rw [if_pos c9] at hc
    obtain ⟨e1, e2, e3, e4⟩ := go _ _ _ _ hc
    exact ren_i o d n m ra x k h t c d' n' m' ra' q a b ha hb w hw (by omega) (by omega) e1 e2 e3 e4 p37 p30 p35 d1 d2 ok l1 l2 hl32 hmem hlen hdd hIs hJs hSh hR1 hR2 hW1 hW2
  rw [if_neg c9] at hc
  obtain ⟨e1, e2, e3, e4⟩ := go _ _ _ _ hc
  exact ren_j o d n m ra x k h t c d' n' m' ra' q a b ha hb w hw (by omega) (by omega) e1 e2 e3 e4 p37 p30 p35 d1 d2 ok l1 l2 hl32 hmem hlen hdd hIs hJs hSh hR1 hR2 hW1 hW2

theorem InstRenamed_walk (i : In) (hi : InB i) (a : Int) (ha : -9223372036854775808 ≤ a ∧ a ≤ 9223372036854775807) (b : Int) (hb : -9223372036854775808 ≤ b ∧ b ≤ 9223372036854775807) (w : World) (hw : Tab5 w) :
    Calls Tryd.prog 7 #[inV i, .int .i64 a, .int .i64 b] w (RetB (.bool true) w) := by
  have hSh : ∀ w, Tab5 w → Calls Tryd.prog 19 #[.int .i64 i.op] w (Ret (.int .i64 (shapeI i.op)) w) := fun w h => Shape_any i.op w h.1
  have hIs : ∀ w, Tab5 w → Calls Tryd.prog 12 #[inV i] w (RetB (.bool (isI i)) w) := fun w h => InstIs_any i w h.1 hi
  cases hf : isI i
  · rw [hf] at hIs
    obtain ⟨o, d, n, m, ra, x, k, h, t, c⟩ := i
    exact renno_1 o d n m ra x k h t c a b _ w hw hIs hSh
  · have hIs' := hIs
    rw [hf] at hIs'
    by_cases c1 : a < 0
    · obtain ⟨o, d, n, m, ra, x, k, h, t, c⟩ := i
      exact renno_2 o d n m ra x k h t c a b _ w hw c1 hIs' hSh
    by_cases c2 : 30 < a
    · obtain ⟨o, d, n, m, ra, x, k, h, t, c⟩ := i
      exact renno_3 o d n m ra x k h t c a b _ w hw (by omega) c2 hIs' hSh
    by_cases c3 : b < 0
    · obtain ⟨o, d, n, m, ra, x, k, h, t, c⟩ := i
      exact renno_4 o d n m ra x k h t c a b _ w hw (by omega) (by omega) c3 hIs' hSh
    by_cases c4 : 30 < b
    · obtain ⟨o, d, n, m, ra, x, k, h, t, c⟩ := i
      exact renno_5 o d n m ra x k h t c a b _ w hw (by omega) (by omega) (by omega) c4 hIs' hSh
    by_cases c5 : i.op = 37
    · obtain ⟨o, d, n, m, ra, x, k, h, t, c⟩ := i
      exact renno_6 o d n m ra x k h t c a b _ w hw (by omega) (by omega) (by omega) (by omega) (by rw [beq_iff_eq]; exact c5) hIs' hSh
    have q5 : (i.op == 37) = false := by rw [beq_eq_false_iff_ne]; exact c5
    by_cases c6 : i.op = 30
    · obtain ⟨o, d, n, m, ra, x, k, h, t, c⟩ := i
      exact renno_7 o d n m ra x k h t c a b _ w hw (by omega) (by omega) (by omega) (by omega) q5 (by rw [beq_iff_eq]; exact c6) hIs' hSh
    have q6 : (i.op == 30) = false := by rw [beq_eq_false_iff_ne]; exact c6
    by_cases c7 : i.op = 35
    · obtain ⟨o, d, n, m, ra, x, k, h, t, c⟩ := i
      exact renno_8 o d n m ra x k h t c a b _ w hw (by omega) (by omega) (by omega) (by omega) q5 q6 (by rw [beq_iff_eq]; exact c7) hIs' hSh
    obtain ⟨a, rfl⟩ := Int.eq_ofNat_of_zero_le (show 0 ≤ a by omega)
    obtain ⟨b, rfl⟩ := Int.eq_ofNat_of_zero_le (show 0 ≤ b by omega)
    exact InstRenamed_yes i hi a b (by omega) (by omega) w hw hf c5 (by omega)
end Go.Proofs.YtjnmkelppjcofaaDoor
