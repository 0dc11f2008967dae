/- The reference's Same of any two sections. -/
import Derived.Test.YtmlofdolenmkoaaGreatDoorkSP
namespace Go.Proofs.YtmlofdolenmkoaaGreatDoor
set_option linter.unusedVariables false
set_option linter.unusedSimpArgs false
open Go.ChangeShapes Go.WideShapes Go.Deep Go.RowKit

theorem ba_neq {N D : ByteArray} (h : N ≠ D) : (N.toList == D.toList) = false ∧ ¬ N.toList = D.toList := by
  have hne : N.data.toList ≠ D.data.toList := fun x => h (ByteArray.ext (Array.toList_inj.1 x))
  exact ⟨by rw [beq_eq_false_iff_ne, ByteArray.toList_eq, ByteArray.toList_eq]; exact hne, by rw [ByteArray.toList_eq, ByteArray.toList_eq]; exact hne⟩
set_option maxRecDepth 100000 in
set_option maxHeartbeats 2000000 in
theorem rSame_any (N B N2 B2 : ByteArray) (k k2 : Int) (kp kp2 : Bool) (al al2 : Int) (a a2 : Option Addr) (n c n2 c2 : Nat) (l l2 : List Rl) (w : World) (hn : n ≤ 1000000) (hn2 : n2 ≤ 1000000) (hs : SL rlC 4 w w.heap.size a n l) (hs2 : SL rlC 4 w w.heap.size a2 n2 l2) : Calls Tryz.prog 15 #[.agg #[.string N, .int .i64 k, .bool kp, .int .i64 al, .string B, .slice a n c], .agg #[.string N2, .int .i64 k2, .bool kp2, .int .i64 al2, .string B2, .slice a2 n2 c2]] w (fun e w' => ∃ r : Bool, e = .returned (.bool r) ∧ (r = true ↔ (N = N2 ∧ k = k2 ∧ kp = kp2 ∧ al = al2 ∧ B = B2 ∧ l = l2)) ∧ Below w.heap.size w w') := by
  have HC : Hid (∀ u, Below w.heap.size w u → Calls Tryz.prog 22 #[.slice a n c, .slice a2 n2 c2] u (fun e w' => ∃ r : Bool, e = .returned (.bool r) ∧ (r = true ↔ l = l2) ∧ Below u.heap.size u w')) := Lib.hid (fun u hu => rSameRels_any a a2 n n2 c c2 l l2 u hn hn2 (hs.next hu) (hs2.next hu))
  have HW := Lib.hid (two_rb (w := w) (A := #[.string N, .int .i64 k, .bool kp, .int .i64 al, .string B, .slice a n c]) (B := #[.string N2, .int .i64 k2, .bool kp2, .int .i64 al2, .string B2, .slice a2 n2 c2]) (T := 24) (U := 24))
  have HB0 : Hid (Below w.heap.size w ((w.alloc (.cells #[.string N, .int .i64 k, .bool kp, .int .i64 al, .string B, .slice a n c] 24)).alloc (.cells #[.string N2, .int .i64 k2, .bool kp2, .int .i64 al2, .string B2, .slice a2 n2 c2] 24))) := Lib.hid HW.out.2.2
  clear hs hs2 hn hn2
  by_cases h1 : N = N2
  case neg =>
    obtain ⟨e1, e2⟩ := ba_neq h1
    have hne1 := Lib.hid h1
    clear h1 HW HC
    go_enter Tryz.func15, Tryz.ntmps15
    go_wp2
    go_ret
    exact ⟨false, rfl, ⟨fun h => (by cases h), fun h => absurd h.1 hne1.out⟩, HB0.out⟩
  by_cases h2 : k = k2
  case neg =>
    have e1 : (k == k2) = false := by simp; exact h2
    have hne1 := Lib.hid h2
    subst h1
    clear h2 HW HC
    go_enter Tryz.func15, Tryz.ntmps15
    go_wp2
    go_ret
    exact ⟨false, rfl, ⟨fun h => (by cases h), fun h => absurd h.2.1 hne1.out⟩, HB0.out⟩
  by_cases h3 : kp = kp2
  case neg =>
    have e1 : (kp == kp2) = false := by rw [beq_eq_false_iff_ne]; exact h3
    have hne1 := Lib.hid h3
    subst h1 h2
    clear h3 HW HC
    go_enter Tryz.func15, Tryz.ntmps15
    go_wp2
    go_ret
    exact ⟨false, rfl, ⟨fun h => (by cases h), fun h => absurd h.2.2.1 hne1.out⟩, HB0.out⟩
  by_cases h4 : al = al2
  case neg =>
    have e1 : (al == al2) = false := by simp; exact h4
    have hne1 := Lib.hid h4
    subst h1 h2 h3
    clear h4 HW HC
    go_enter Tryz.func15, Tryz.ntmps15
    go_wp2
    go_ret
    exact ⟨false, rfl, ⟨fun h => (by cases h), fun h => absurd h.2.2.2.1 hne1.out⟩, HB0.out⟩
  by_cases h5 : B = B2
  case neg =>
    obtain ⟨e1, e2⟩ := ba_neq h5
    have hne1 := Lib.hid h5
    subst h1 h2 h3 h4
    clear h5 HW HC
    go_enter Tryz.func15, Tryz.ntmps15
    go_wp2
    go_ret
    exact ⟨false, rfl, ⟨fun h => (by cases h), fun h => absurd h.2.2.2.2.1 hne1.out⟩, HB0.out⟩
  subst h1 h2 h3 h4 h5
  clear HW
  go_enter Tryz.func15, Tryz.ntmps15
  go_wp2_with fail
  refine (HC.out _ HB0.out).mono ?_
  rintro e u ⟨r, rfl, hr, hb⟩
  have HR := Lib.hid hr
  have HB5 := Lib.hid (after HB0.out hb)
  clear hb hr
  go_wp2
  go_ret
  exact ⟨r, rfl, ⟨fun h => (by refine ⟨?_, ?_, ?_, ?_, ?_, HR.out.1 h⟩ <;> first | trivial | rfl), fun h => HR.out.2 h.2.2.2.2.2⟩, HB5.out⟩
end Go.Proofs.YtmlofdolenmkoaaGreatDoor
