/- The reference's SameSyms. -/
import Derived.Test.YtmlofdolenmkoaaGreatDoorkSQ
namespace Go.Proofs.YtmlofdolenmkoaaGreatDoor
set_option linter.unusedVariables false
set_option linter.unusedSimpArgs false
open Go.ChangeShapes Go.WideShapes Go.Deep Go.RowKit

def sameSy (x y : Sy) : Bool := (⟨x.name.toArray⟩ : ByteArray).toList == (⟨y.name.toArray⟩ : ByteArray).toList && (x.bind == y.bind && (x.sec == y.sec && x.off == y.off))
theorem sameSy_iff {x y : Sy} : sameSy x y = true ↔ x = y := by
  unfold sameSy
  cases x; cases y
  rw [ByteArray.toList_eq, ByteArray.toList_eq]
  simp [Sy.mk.injEq]
theorem neq_sy (x y : Sy) : ∀ w, (Sem.run Tryz.prog (binOp BinOp.neq 67 (syV x) (syV y)) w) = Result.ok (.bool (!sameSy x y)) w := by
  intro w
  obtain ⟨p, k, s, a⟩ := x
  obtain ⟨p', k', s', a'⟩ := y
  simp only [syV]
  generalize hN : (⟨p.toArray⟩ : ByteArray) = N
  generalize hM : (⟨p'.toArray⟩ : ByteArray) = M
  unfold sameSy
  simp only [hN, hM]
  simp [go_sem]
  repeat' split
  all_goals first | (simp_all; done) | (simp_all; omega)
set_option maxRecDepth 100000 in
set_option maxHeartbeats 1000000 in
theorem rSyms_any (a a' : Option Addr) (n n' c c' : Nat) (l l' : List Sy) (w : World) (hn : n ≤ maxLen) (hn' : n' ≤ maxLen) (h : SL syC 4 w w.heap.size a n l) (h' : SL syC 4 w w.heap.size a' n' l') :
    Calls Tryz.prog 101 #[.slice a n c, .slice a' n' c'] w (fun e w' => ∃ r : Bool, e = .returned (.bool r) ∧ (r = true ↔ l = l') ∧ Below w.heap.size w w') := by
  have hni : (n : Int) ≤ 9223372036854775807 := by unfold maxLen at hn; omega
  have hl := Lib.hid h.len
  have hl' := Lib.hid h'.len
  by_cases e : n = n'
  rotate_left
  · have hb : ((n : Int) != n') = true := by rw [bne_iff_ne]; omega
    have HN : Hid (l ≠ l') := Lib.hid (fun hh => by subst hh; exact e (hl.out.trans hl'.out.symm))
    clear e hn hn' h h'
    go_enter Tryz.func101, Tryz.ntmps101
    go_wp2
    go_ret
    exact ⟨false, rfl, ⟨fun h => (by cases h), fun h => absurd h HN.out⟩, Below.refl _ _⟩
  subst e
  go_enter Tryz.func101, Tryz.ntmps101
  go_wp2
  go_loopw [5] (fun i wr => ∃ k : Nat, k ≤ n ∧ i = .int .i64 k ∧ l.take k = l'.take k ∧ Below w.heap.size w wr) (fun i _ => n - (intOf i).toNat)
  case atStart => exact ⟨0, by omega, rfl, rfl, Below.refl _ _⟩
  case round =>
    obtain ⟨k, hk, rfl, htk, hb⟩ := hrel
    have HT := Lib.hid htk
    clear htk
    by_cases hlt : k < n
    · have hk1 : k < l.length := by have := hl.out; omega
      have hk2 : k < l'.length := by have := hl'.out; omega
      obtain ⟨b, off, rfl, hB, hc⟩ := (h.below hb).cells (h.ne hlt)
      obtain ⟨b', off', rfl, hB', hc'⟩ := (h'.below hb).cells (h'.ne hlt)
      obtain ⟨c0, c1, c2, c3⟩ := sy_cells (fun j hj => hc k hk1 j hj)
      obtain ⟨d0, d1, d2, d3⟩ := sy_cells (fun j hj => hc' k hk2 j hj)
      obtain ⟨x, hx⟩ : ∃ x, x = l[k] := ⟨_, rfl⟩
      obtain ⟨y, hy⟩ : ∃ y, y = l'[k] := ⟨_, rfl⟩
      rw [← hx] at c0 c1 c2 c3
      rw [← hy] at d0 d1 d2 d3
      have HX := Lib.hid hx
      have HY := Lib.hid hy
      have hnq := neq_sy x y
      clear hc hc' h h' hx hy
      cases e : sameSy x y
      · have HE : Hid (x ≠ y) := Lib.hid (fun hh => by rw [sameSy_iff.2 hh] at e; cases e)
        rw [e] at hnq
        clear e
        go_wp2
        go_quiet (fail)
        go_wp2
        go_ret
        refine ⟨false, rfl, ?_, below_drewN hb _⟩
        constructor
        · intro h; cases h
        · intro hh
          subst hh
          exact (HE.out (HX.out.trans HY.out.symm)).elim
      · have HE : Hid (x = y) := Lib.hid (sameSy_iff.1 e)
        rw [e] at hnq
        clear e
        go_wp2
        go_quiet (fail)
        go_wp2
        go_roundw
        case rel =>
          refine ⟨k + 1, by omega, by go_num, ?_, below_drewN hb _⟩
          rw [List.take_succ_eq_append_getElem hk1, List.take_succ_eq_append_getElem hk2, HT.out, ← HX.out, ← HY.out, HE.out]
        case measure => simp [intOf]; omega
    · go_wp2
      go_ret
      refine ⟨true, rfl, ⟨fun _ => ?_, fun _ => rfl⟩, hb⟩
      have := HT.out
      rwa [List.take_of_length_le (by have := hl.out; omega), List.take_of_length_le (by have := hl'.out; omega)] at this
end Go.Proofs.YtmlofdolenmkoaaGreatDoor
