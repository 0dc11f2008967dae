/- PartNew. -/
import Derived.Test.YtmlofdolenmkoaaGreatDoorkRE
import Derived.Test.YtmlofdolenmkoaaGreatDoorkXE
namespace Go.Proofs.YtmlofdolenmkoaaGreatDoor
set_option linter.unusedVariables false
set_option linter.unusedSimpArgs false
open Go.ChangeShapes Go.WideShapes Go.Deep Go.RowKit

theorem rIsName_list (N : List UInt8) (hN : N.length ≤ 1000) (w : World) : Calls Tryz.prog 38 #[.string ⟨N.toArray⟩] w (RetB (.bool (isNmL N)) w) := by
  have := rIsName_any ⟨N.toArray⟩ (by show N.toArray.size ≤ 1000; simpa using hN) w
  exact this
set_option maxRecDepth 100000 in
set_option maxHeartbeats 2000000 in
theorem rNew_no (N : List UInt8) (hN : N.length ≤ 1000) (kind : Int) (keep : Bool) (w : World) (hT : TabP w) (hnm : isNmL N = false) : Calls Tryz.prog 13 #[.string ⟨N.toArray⟩, .int .i64 kind, .bool keep] w (SecR (pNewL N kind keep) w) := by
  have HR : Hid (pNewL N kind keep = (scZ, 6)) := Lib.hid (by unfold pNewL; rw [hnm]; rfl)
  have HT := Lib.hid hT
  have hZ := zeroSec
  have HN := Lib.hid (fun u (hu : TabO u) => rIsName_list N hN u)
  have HB1 : Hid (Below w.heap.size w (w.alloc (.cells (scA scZ none 0 0) 24))) := Lib.hid ((Below.refl _ w).alloc (Nat.le_refl _) _)
  have HX1 : Hid (RB (w.alloc (.cells (scA scZ none 0 0) 24)) w.heap.size (scA scZ none 0 0) 24) := Lib.hid (MapKept.heap_alloc w _).1
  rw [hnm] at HN
  clear hnm hT hN
  go_enter Tryz.func13, Tryz.ntmps13
  go_wp2_with fail
  refine (HN.out _ (HT.out.2.next HB1.out)).mono ?_
  rintro e u ⟨rfl, hb⟩
  have HB2 := Lib.hid (after HB1.out hb)
  have HX := Lib.hid (HX1.out.next hb)
  clear hb
  obtain ⟨f0, f1, f2, f3, f4, f5, f6, f7⟩ := HX.out.six
  have g0 := f6 0
  have g1 := f6 1
  have g2 := f6 2
  have g3 := f6 3
  have g4 := f6 4
  have g5 := f6 5
  clear f6
  have HQ := Lib.hid (sset_heap HX.out scZ none 0 0)
  have HB3 := Lib.hid (sset_below HB2.out (Nat.le_refl _) scZ none 0 0)
  go_wp2
  refine bodyPost_ret (results_cell_two (P := Tryz.prog) rfl _ _ w.heap.size 24 _ (0, 0) _ (.int .i64 6) rfl HQ.out Tryz.underlying24 rfl (by kernel_rfl) rfl) rfl ?_
  exact SecR.bare HR.out rfl HB3.out
set_option maxRecDepth 100000 in
set_option maxHeartbeats 2000000 in
theorem rNew_low (N : List UInt8) (hN : N.length ≤ 1000) (kind : Int) (keep : Bool) (w : World) (hT : TabP w) (hnm : isNmL N = true) (h1 : kind < 1) : Calls Tryz.prog 13 #[.string ⟨N.toArray⟩, .int .i64 kind, .bool keep] w (SecR (pNewL N kind keep) w) := by
  have HR : Hid (pNewL N kind keep = (scZ, 1)) := Lib.hid (by unfold pNewL; rw [if_pos hnm, if_pos (.inl h1)])
  have HT := Lib.hid hT
  have hZ := zeroSec
  have HN := Lib.hid (fun u (hu : TabO u) => rIsName_list N hN u)
  have HB1 : Hid (Below w.heap.size w (w.alloc (.cells (scA scZ none 0 0) 24))) := Lib.hid ((Below.refl _ w).alloc (Nat.le_refl _) _)
  have HX1 : Hid (RB (w.alloc (.cells (scA scZ none 0 0) 24)) w.heap.size (scA scZ none 0 0) 24) := Lib.hid (MapKept.heap_alloc w _).1
  rw [hnm] at HN
  clear hnm hT hN
  go_enter Tryz.func13, Tryz.ntmps13
  go_wp2_with fail
  refine (HN.out _ (HT.out.2.next HB1.out)).mono ?_
  rintro e u ⟨rfl, hb⟩
  have HB2 := Lib.hid (after HB1.out hb)
  have HX := Lib.hid (HX1.out.next hb)
  clear hb
  obtain ⟨f0, f1, f2, f3, f4, f5, f6, f7⟩ := HX.out.six
  have g0 := f6 0
  have g1 := f6 1
  have g2 := f6 2
  have g3 := f6 3
  have g4 := f6 4
  have g5 := f6 5
  clear f6
  have HQ := Lib.hid (sset_heap HX.out scZ none 0 0)
  have HB3 := Lib.hid (sset_below HB2.out (Nat.le_refl _) scZ none 0 0)
  go_wp2
  refine bodyPost_ret (results_cell_two (P := Tryz.prog) rfl _ _ w.heap.size 24 _ (0, 0) _ (.int .i64 1) rfl HQ.out Tryz.underlying24 rfl (by kernel_rfl) rfl) rfl ?_
  exact SecR.bare HR.out rfl HB3.out
set_option maxRecDepth 100000 in
set_option maxHeartbeats 2000000 in
theorem rNew_high (N : List UInt8) (hN : N.length ≤ 1000) (kind : Int) (keep : Bool) (w : World) (hT : TabP w) (hnm : isNmL N = true) (h3 : 3 < kind) : Calls Tryz.prog 13 #[.string ⟨N.toArray⟩, .int .i64 kind, .bool keep] w (SecR (pNewL N kind keep) w) := by
  have HR : Hid (pNewL N kind keep = (scZ, 1)) := Lib.hid (by unfold pNewL; rw [if_pos hnm, if_pos (.inr h3)])
  have h1 : ¬ kind < 1 := by omega
  have HT := Lib.hid hT
  have hZ := zeroSec
  have HN := Lib.hid (fun u (hu : TabO u) => rIsName_list N hN u)
  have HB1 : Hid (Below w.heap.size w (w.alloc (.cells (scA scZ none 0 0) 24))) := Lib.hid ((Below.refl _ w).alloc (Nat.le_refl _) _)
  have HX1 : Hid (RB (w.alloc (.cells (scA scZ none 0 0) 24)) w.heap.size (scA scZ none 0 0) 24) := Lib.hid (MapKept.heap_alloc w _).1
  rw [hnm] at HN
  clear hnm hT hN
  go_enter Tryz.func13, Tryz.ntmps13
  go_wp2_with fail
  refine (HN.out _ (HT.out.2.next HB1.out)).mono ?_
  rintro e u ⟨rfl, hb⟩
  have HB2 := Lib.hid (after HB1.out hb)
  have HX := Lib.hid (HX1.out.next hb)
  clear hb
  obtain ⟨f0, f1, f2, f3, f4, f5, f6, f7⟩ := HX.out.six
  have g0 := f6 0
  have g1 := f6 1
  have g2 := f6 2
  have g3 := f6 3
  have g4 := f6 4
  have g5 := f6 5
  clear f6
  have HQ := Lib.hid (sset_heap HX.out scZ none 0 0)
  have HB3 := Lib.hid (sset_below HB2.out (Nat.le_refl _) scZ none 0 0)
  go_wp2
  refine bodyPost_ret (results_cell_two (P := Tryz.prog) rfl _ _ w.heap.size 24 _ (0, 0) _ (.int .i64 1) rfl HQ.out Tryz.underlying24 rfl (by kernel_rfl) rfl) rfl ?_
  exact SecR.bare HR.out rfl HB3.out
set_option maxRecDepth 100000 in
set_option maxHeartbeats 400000 in
theorem rNew_yes (N : List UInt8) (hN : N.length ≤ 1000) (kind : Int) (keep : Bool) (w : World) (hT : TabP w) (hnm : isNmL N = true) (h1 : ¬ kind < 1) (h3 : ¬ 3 < kind) : Calls Tryz.prog 13 #[.string ⟨N.toArray⟩, .int .i64 kind, .bool keep] w (SecR (pNewL N kind keep) w) := by
  have HR : Hid (pNewL N kind keep = (⟨N, kind, keep, 0, [], []⟩, 0)) := Lib.hid (by unfold pNewL; rw [if_pos hnm, if_neg (by rintro (h | h) <;> contradiction)])
  have HT := Lib.hid hT
  have hZ := zeroSec
  have HN := Lib.hid (fun u (hu : TabO u) => rIsName_list N hN u)
  have HB1 : Hid (Below w.heap.size w (w.alloc (.cells (scA scZ none 0 0) 24))) := Lib.hid ((Below.refl _ w).alloc (Nat.le_refl _) _)
  have HX1 : Hid (RB (w.alloc (.cells (scA scZ none 0 0) 24)) w.heap.size (scA scZ none 0 0) 24) := Lib.hid (MapKept.heap_alloc w _).1
  rw [hnm] at HN
  have hBld : ∀ w, (Instr.build 24 #[(0, .string ⟨N.toArray⟩), (1, .int .i64 kind), (2, .bool keep)]).run Tryz.prog w = .ok (.agg #[.string ⟨N.toArray⟩, .int .i64 kind, .bool keep, .int .i64 0, .string ⟨#[]⟩, .slice none 0 0]) w := fun w => by kernel_rfl
  clear hnm hT hN hBld
  have hk : kind = 1 ∨ kind = 2 ∨ kind = 3 := by omega
  clear h1 h3
  rcases hk with rfl | rfl | rfl
  · go_enter Tryz.func13, Tryz.ntmps13
    go_wp2_with fail
    refine (HN.out _ (HT.out.2.next HB1.out)).mono ?_
    rintro e u ⟨rfl, hb⟩
    have HB2 := Lib.hid (after HB1.out hb)
    have HX := Lib.hid (HX1.out.next hb)
    clear hb
    obtain ⟨f0, f1, f2, f3, f4, f5, f6, f7⟩ := HX.out.six
    have g0 := f6 0
    have g1 := f6 1
    have g2 := f6 2
    have g3 := f6 3
    have g4 := f6 4
    have g5 := f6 5
    clear f6
    have HQ := Lib.hid (sset_heap HX.out ⟨N, 1, keep, 0, [], []⟩ none 0 0)
    have HB3 := Lib.hid (sset_below HB2.out (Nat.le_refl _) ⟨N, 1, keep, 0, [], []⟩ none 0 0)
    go_wp2
    refine bodyPost_ret (results_cell_two (P := Tryz.prog) rfl _ _ w.heap.size 24 _ (0, 0) _ (.int .i64 0) rfl HQ.out Tryz.underlying24 rfl (by kernel_rfl) rfl) rfl ?_
    exact SecR.bare HR.out rfl HB3.out
  · go_enter Tryz.func13, Tryz.ntmps13
    go_wp2_with fail
    refine (HN.out _ (HT.out.2.next HB1.out)).mono ?_
    rintro e u ⟨rfl, hb⟩
    have HB2 := Lib.hid (after HB1.out hb)
    have HX := Lib.hid (HX1.out.next hb)
    clear hb
    obtain ⟨f0, f1, f2, f3, f4, f5, f6, f7⟩ := HX.out.six
    have g0 := f6 0
    have g1 := f6 1
    have g2 := f6 2
    have g3 := f6 3
    have g4 := f6 4
    have g5 := f6 5
    clear f6
    have HQ := Lib.hid (sset_heap HX.out ⟨N, 2, keep, 0, [], []⟩ none 0 0)
    have HB3 := Lib.hid (sset_below HB2.out (Nat.le_refl _) ⟨N, 2, keep, 0, [], []⟩ none 0 0)
    go_wp2
    refine bodyPost_ret (results_cell_two (P := Tryz.prog) rfl _ _ w.heap.size 24 _ (0, 0) _ (.int .i64 0) rfl HQ.out Tryz.underlying24 rfl (by kernel_rfl) rfl) rfl ?_
    exact SecR.bare HR.out rfl HB3.out
  · go_enter Tryz.func13, Tryz.ntmps13
    go_wp2_with fail
    refine (HN.out _ (HT.out.2.next HB1.out)).mono ?_
    rintro e u ⟨rfl, hb⟩
    have HB2 := Lib.hid (after HB1.out hb)
    have HX := Lib.hid (HX1.out.next hb)
    clear hb
    obtain ⟨f0, f1, f2, f3, f4, f5, f6, f7⟩ := HX.out.six
    have g0 := f6 0
    have g1 := f6 1
    have g2 := f6 2
    have g3 := f6 3
    have g4 := f6 4
    have g5 := f6 5
    clear f6
    have HQ := Lib.hid (sset_heap HX.out ⟨N, 3, keep, 0, [], []⟩ none 0 0)
    have HB3 := Lib.hid (sset_below HB2.out (Nat.le_refl _) ⟨N, 3, keep, 0, [], []⟩ none 0 0)
    go_wp2
    refine bodyPost_ret (results_cell_two (P := Tryz.prog) rfl _ _ w.heap.size 24 _ (0, 0) _ (.int .i64 0) rfl HQ.out Tryz.underlying24 rfl (by kernel_rfl) rfl) rfl ?_
    exact SecR.bare HR.out rfl HB3.out
theorem rNew_any (N : List UInt8) (hN : N.length ≤ 1000) (kind : Int) (keep : Bool) (w : World) (hT : TabP w) : Calls Tryz.prog 13 #[.string ⟨N.toArray⟩, .int .i64 kind, .bool keep] w (SecR (pNewL N kind keep) w) := by
  cases hnm : isNmL N
  · exact rNew_no N hN kind keep w hT hnm
  · by_cases h1 : kind < 1
    · exact rNew_low N hN kind keep w hT hnm h1
    · by_cases h3 : 3 < kind
      · exact rNew_high N hN kind keep w hT hnm h3
      · exact rNew_yes N hN kind keep w hT hnm h1 h3
theorem new_sec (N : List UInt8) (kind : Int) (keep : Bool) : (pNewL N kind keep).1.rels = [] ∧ (secR (pNewL N kind keep).1 = true ↔ (pNewL N kind keep).2 = 0) ∧ (pNewL N kind keep).1.data = [] ∧ ((pNewL N kind keep).1.name = N ∨ (pNewL N kind keep).1.name = []) := by
  unfold pNewL
  split
  · rename_i h
    split
    · exact ⟨rfl, ⟨fun h => absurd h (by decide +kernel), fun h => absurd h (by decide)⟩, rfl, .inr rfl⟩
    · rename_i c
      refine ⟨rfl, ⟨fun _ => rfl, fun _ => ?_⟩, rfl, .inl rfl⟩
      refine sec_iff.2 ⟨head_iff.2 ⟨h, ?_, ?_, Int.le_refl _, (by show (0 : Int) ≤ 12; decide), by simp, by simp⟩, rfl⟩
      · show 1 ≤ kind
        exact Int.not_lt.1 (fun hh => c (.inl hh))
      · show kind ≤ 3
        exact Int.not_lt.1 (fun hh => c (.inr hh))
  · exact ⟨rfl, ⟨fun h => absurd h (by decide +kernel), fun h => absurd h (by decide)⟩, rfl, .inr rfl⟩
set_option maxRecDepth 100000 in
set_option maxHeartbeats 1000000 in
theorem pNe_ok (N : ByteArray) (hN : N.size ≤ 100) (kind : Int) (keep : Bool) (w : World) (hT : TabP w) (NA BA : ByteArray) (kA : Int) (kpA : Bool) (alA : Int) (nA : Nat) (lA : List Rl) (eA : Int) (hA : pNewL N.data.toList kind keep = (⟨NA.data.toList, kA, kpA, alA, BA.data.toList, lA⟩, eA)) (mA : nA = lA.length) (he : eA = 0) : Calls Tryz.prog 3 #[.string N, .int .i64 kind, .bool keep] w (RetB (.bool true) w) := by
  obtain ⟨q1, q2, q3, q4⟩ := new_sec N.data.toList kind keep
  rw [hA] at q1 q2 q3 q4
  simp only at q1 q2 q3 q4
  subst q1
  obtain rfl : nA = 0 := mA
  subst he
  have hsec : secR ⟨NA.data.toList, kA, kpA, alA, BA.data.toList, []⟩ = true := by
    exact q2.2 rfl
  have hNA : NA.size ≤ maxLen := by
    rw [← ba_size NA]
    rcases q4 with h | h
    · rw [h, ba_size]; unfold maxLen; omega
    · rw [h]; unfold maxLen; simp
  have hBA : BA.size ≤ maxLen := by rw [← ba_size BA, q3]; unfold maxLen; simp
  have HB : Hid (Below w.heap.size w w) := Lib.hid (Below.refl _ w)
  have HT := Lib.hid hT
  have HG := Lib.hid (fun u (hu : TabP u) => grown_is u hu)
  have hNl : N.data.toList.length ≤ 100 := by simpa using hN
  have hNi : (N.size : Int) ≤ 100 := by omega
  have H1 : Hid (∀ u, TabP u → Calls Tryz.prog 12 #[.string N, .int .i64 kind, .bool keep] u (GotB u NA kA kpA alA BA 0 [] 0)) := Lib.hid fun u hu =>
    (pNew_any N.data.toList (by unfold maxLen; omega) kind keep u hu).mono fun e v h => h.got hA rfl
  have H2 : Hid (∀ u, TabP u → Calls Tryz.prog 13 #[.string N, .int .i64 kind, .bool keep] u (GotB u NA kA kpA alA BA 0 [] 0)) := Lib.hid fun u hu =>
    (rNew_any N.data.toList (by omega) kind keep u hu).mono fun e v h => h.got hA rfl
  have HIs : Hid (∀ u a c, TabP u → Calls Tryz.prog 16 #[.agg #[.string NA, .int .i64 kA, .bool kpA, .int .i64 alA, .string BA, .slice a 0 c]] u (RetB (.bool true) u)) := Lib.hid fun u a c hu => by
    have := pIs_core NA BA kA kpA alA a 0 c [] hNA hBA u (SL.nil _ _ _) (by simp) hu
    rwa [hsec] at this
  have HSame : Hid (∀ u a a' c c', Calls Tryz.prog 15 #[.agg #[.string NA, .int .i64 kA, .bool kpA, .int .i64 alA, .string BA, .slice a 0 c], .agg #[.string NA, .int .i64 kA, .bool kpA, .int .i64 alA, .string BA, .slice a' 0 c']] u (RetB (.bool true) u)) := Lib.hid fun u a a' c c' => rSame_is NA BA kA kpA alA a a' 0 c c' [] u (by decide) (SL.nil _ _ _) (SL.nil _ _ _)
  clear hA q2 q3 q4 hsec hNA hBA hNl hN hT
  go_enter Tryz.func3, Tryz.ntmps3
  go_wp2_with fail
  refine (H1.out _ (HT.out.next HB.out)).mono ?_
  rintro e u ⟨aA, cA, rfl, hs, hz, hc, hb⟩
  replace HB := Lib.hid (after HB.out hb)
  clear hb hs hz hc
  obtain ⟨X, hX⟩ : ∃ X, X = u.heap.size := ⟨_, rfl⟩
  have HEX := Lib.hid hX
  have HA : Hid (Below u.heap.size u (u.alloc (.cells #[.string NA, .int .i64 kA, .bool kpA, .int .i64 alA, .string BA, .slice aA 0 cA] 24))) := Lib.hid ((Below.refl _ u).alloc (Nat.le_refl _) _)
  have HRX : Hid (RB (u.alloc (.cells #[.string NA, .int .i64 kA, .bool kpA, .int .i64 alA, .string BA, .slice aA 0 cA] 24)) X #[.string NA, .int .i64 kA, .bool kpA, .int .i64 alA, .string BA, .slice aA 0 cA] 24) := Lib.hid (by rw [hX]; exact (MapKept.heap_alloc u _).1)
  clear hX
  go_wp2_with fail
  try rw [← HEX.out]
  generalize (u.alloc (.cells #[.string NA, .int .i64 kA, .bool kpA, .int .i64 alA, .string BA, .slice aA 0 cA] 24)) = W at HA HRX ⊢
  replace HB : Hid (Below w.heap.size w W) := Lib.hid (after HB.out HA.out)
  clear HA HEX
  refine (H2.out _ (HT.out.next HB.out)).mono ?_
  rintro e u ⟨aP, cP, rfl, hs, hz, hc, hb⟩
  replace HB := Lib.hid (after HB.out hb)
  replace HRX := Lib.hid (HRX.out.next hb)
  clear hb hs hz hc
  obtain ⟨Y, hY⟩ : ∃ Y, Y = u.heap.size := ⟨_, rfl⟩
  have HEY := Lib.hid hY
  have HA : Hid (Below u.heap.size u (u.alloc (.cells #[.string NA, .int .i64 kA, .bool kpA, .int .i64 alA, .string BA, .slice aP 0 cP] 24))) := Lib.hid ((Below.refl _ u).alloc (Nat.le_refl _) _)
  have HRY : Hid (RB (u.alloc (.cells #[.string NA, .int .i64 kA, .bool kpA, .int .i64 alA, .string BA, .slice aP 0 cP] 24)) Y #[.string NA, .int .i64 kA, .bool kpA, .int .i64 alA, .string BA, .slice aP 0 cP] 24) := Lib.hid (by rw [hY]; exact (MapKept.heap_alloc u _).1)
  clear hY
  replace HRX := Lib.hid (HRX.out.next HA.out)
  go_wp2_with fail
  try rw [← HEY.out]
  generalize (u.alloc (.cells #[.string NA, .int .i64 kA, .bool kpA, .int .i64 alA, .string BA, .slice aP 0 cP] 24)) = W at HA HRX HRY ⊢
  replace HB : Hid (Below w.heap.size w W) := Lib.hid (after HB.out HA.out)
  clear HA HEY
  refine (HG.out _ (HT.out.next HB.out)).mono ?_
  rintro e u ⟨rfl, hb⟩
  replace HB := Lib.hid (after HB.out hb)
  replace HRX := Lib.hid (HRX.out.next hb)
  replace HRY := Lib.hid (HRY.out.next hb)
  clear hb
  have x_0 : u.cell? ⟨X, 0, none⟩ = some (.string NA) := HRX.out.cell
  have x_1 : u.cell? ⟨X, 1, none⟩ = some (.int .i64 kA) := HRX.out.cell
  have x_2 : u.cell? ⟨X, 2, none⟩ = some (.bool kpA) := HRX.out.cell
  have x_3 : u.cell? ⟨X, 3, none⟩ = some (.int .i64 alA) := HRX.out.cell
  have x_4 : u.cell? ⟨X, 4, none⟩ = some (.string BA) := HRX.out.cell
  have x_5 : u.cell? ⟨X, 5, none⟩ = some (.slice aA 0 cA) := HRX.out.cell
  have y_0 : u.cell? ⟨Y, 0, none⟩ = some (.string NA) := HRY.out.cell
  have y_1 : u.cell? ⟨Y, 1, none⟩ = some (.int .i64 kA) := HRY.out.cell
  have y_2 : u.cell? ⟨Y, 2, none⟩ = some (.bool kpA) := HRY.out.cell
  have y_3 : u.cell? ⟨Y, 3, none⟩ = some (.int .i64 alA) := HRY.out.cell
  have y_4 : u.cell? ⟨Y, 4, none⟩ = some (.string BA) := HRY.out.cell
  have y_5 : u.cell? ⟨Y, 5, none⟩ = some (.slice aP 0 cP) := HRY.out.cell
  go_wp2_with fail
  clear x_0 x_1 x_2 x_3 x_4 x_5 y_0 y_1 y_2 y_3 y_4 y_5
  refine (HSame.out _ aA aP cA cP).mono ?_
  rintro e u ⟨rfl, hb⟩
  replace HB := Lib.hid (after HB.out hb)
  replace HRX := Lib.hid (HRX.out.next hb)
  replace HRY := Lib.hid (HRY.out.next hb)
  clear hb
  have x_0 : u.cell? ⟨X, 0, none⟩ = some (.string NA) := HRX.out.cell
  have x_1 : u.cell? ⟨X, 1, none⟩ = some (.int .i64 kA) := HRX.out.cell
  have x_2 : u.cell? ⟨X, 2, none⟩ = some (.bool kpA) := HRX.out.cell
  have x_3 : u.cell? ⟨X, 3, none⟩ = some (.int .i64 alA) := HRX.out.cell
  have x_4 : u.cell? ⟨X, 4, none⟩ = some (.string BA) := HRX.out.cell
  have x_5 : u.cell? ⟨X, 5, none⟩ = some (.slice aA 0 cA) := HRX.out.cell
  go_wp2_with fail
  clear x_0 x_1 x_2 x_3 x_4 x_5
  refine (HIs.out _ aA cA (HT.out.next HB.out)).mono ?_
  rintro e u ⟨rfl, hb⟩
  replace HB := Lib.hid (after HB.out hb)
  replace HRX := Lib.hid (HRX.out.next hb)
  replace HRY := Lib.hid (HRY.out.next hb)
  clear hb
  go_wp2
  go_ret
  exact retB_bool rfl HB.out
set_option maxRecDepth 100000 in
set_option maxHeartbeats 1000000 in
theorem pNe_no (N : ByteArray) (hN : N.size ≤ 100) (kind : Int) (keep : Bool) (w : World) (hT : TabP w) (NA BA : ByteArray) (kA : Int) (kpA : Bool) (alA : Int) (nA : Nat) (lA : List Rl) (eA : Int) (hA : pNewL N.data.toList kind keep = (⟨NA.data.toList, kA, kpA, alA, BA.data.toList, lA⟩, eA)) (mA : nA = lA.length) (he : eA ≠ 0) : Calls Tryz.prog 3 #[.string N, .int .i64 kind, .bool keep] w (RetB (.bool true) w) := by
  obtain ⟨q1, q2, q3, q4⟩ := new_sec N.data.toList kind keep
  rw [hA] at q1 q2 q3 q4
  simp only at q1 q2 q3 q4
  subst q1
  obtain rfl : nA = 0 := mA
  have hsec : secR ⟨NA.data.toList, kA, kpA, alA, BA.data.toList, []⟩ = false := by
    cases h : secR ⟨NA.data.toList, kA, kpA, alA, BA.data.toList, []⟩
    · rfl
    · exact absurd (q2.1 h) he
  have hNA : NA.size ≤ maxLen := by
    rw [← ba_size NA]
    rcases q4 with h | h
    · rw [h, ba_size]; unfold maxLen; omega
    · rw [h]; unfold maxLen; simp
  have hBA : BA.size ≤ maxLen := by rw [← ba_size BA, q3]; unfold maxLen; simp
  have HB : Hid (Below w.heap.size w w) := Lib.hid (Below.refl _ w)
  have HT := Lib.hid hT
  have HG := Lib.hid (fun u (hu : TabP u) => grown_is u hu)
  have hNl : N.data.toList.length ≤ 100 := by simpa using hN
  have hNi : (N.size : Int) ≤ 100 := by omega
  have H1 : Hid (∀ u, TabP u → Calls Tryz.prog 12 #[.string N, .int .i64 kind, .bool keep] u (GotB u NA kA kpA alA BA 0 [] eA)) := Lib.hid fun u hu =>
    (pNew_any N.data.toList (by unfold maxLen; omega) kind keep u hu).mono fun e v h => h.got hA rfl
  have H2 : Hid (∀ u, TabP u → Calls Tryz.prog 13 #[.string N, .int .i64 kind, .bool keep] u (GotB u NA kA kpA alA BA 0 [] eA)) := Lib.hid fun u hu =>
    (rNew_any N.data.toList (by omega) kind keep u hu).mono fun e v h => h.got hA rfl
  have HIs : Hid (∀ u a c, TabP u → Calls Tryz.prog 16 #[.agg #[.string NA, .int .i64 kA, .bool kpA, .int .i64 alA, .string BA, .slice a 0 c]] u (RetB (.bool false) u)) := Lib.hid fun u a c hu => by
    have := pIs_core NA BA kA kpA alA a 0 c [] hNA hBA u (SL.nil _ _ _) (by simp) hu
    rwa [hsec] at this
  have HSame : Hid (∀ u a a' c c', Calls Tryz.prog 15 #[.agg #[.string NA, .int .i64 kA, .bool kpA, .int .i64 alA, .string BA, .slice a 0 c], .agg #[.string NA, .int .i64 kA, .bool kpA, .int .i64 alA, .string BA, .slice a' 0 c']] u (RetB (.bool true) u)) := Lib.hid fun u a a' c c' => rSame_is NA BA kA kpA alA a a' 0 c c' [] u (by decide) (SL.nil _ _ _) (SL.nil _ _ _)
  have r1 : (eA == 0) = false := by simp; exact he
  have r2 : (eA != 0) = true := by simp [bne_iff_ne]; exact he
  clear he
  clear hA q2 q3 q4 hsec hNA hBA hNl hN hT
  go_enter Tryz.func3, Tryz.ntmps3
  go_wp2_with fail
  refine (H1.out _ (HT.out.next HB.out)).mono ?_
  rintro e u ⟨aA, cA, rfl, hs, hz, hc, hb⟩
  replace HB := Lib.hid (after HB.out hb)
  clear hb hs hz hc
  obtain ⟨X, hX⟩ : ∃ X, X = u.heap.size := ⟨_, rfl⟩
  have HEX := Lib.hid hX
  have HA : Hid (Below u.heap.size u (u.alloc (.cells #[.string NA, .int .i64 kA, .bool kpA, .int .i64 alA, .string BA, .slice aA 0 cA] 24))) := Lib.hid ((Below.refl _ u).alloc (Nat.le_refl _) _)
  have HRX : Hid (RB (u.alloc (.cells #[.string NA, .int .i64 kA, .bool kpA, .int .i64 alA, .string BA, .slice aA 0 cA] 24)) X #[.string NA, .int .i64 kA, .bool kpA, .int .i64 alA, .string BA, .slice aA 0 cA] 24) := Lib.hid (by rw [hX]; exact (MapKept.heap_alloc u _).1)
  clear hX
  go_wp2_with fail
  try rw [← HEX.out]
  generalize (u.alloc (.cells #[.string NA, .int .i64 kA, .bool kpA, .int .i64 alA, .string BA, .slice aA 0 cA] 24)) = W at HA HRX ⊢
  replace HB : Hid (Below w.heap.size w W) := Lib.hid (after HB.out HA.out)
  clear HA HEX
  refine (H2.out _ (HT.out.next HB.out)).mono ?_
  rintro e u ⟨aP, cP, rfl, hs, hz, hc, hb⟩
  replace HB := Lib.hid (after HB.out hb)
  replace HRX := Lib.hid (HRX.out.next hb)
  clear hb hs hz hc
  obtain ⟨Y, hY⟩ : ∃ Y, Y = u.heap.size := ⟨_, rfl⟩
  have HEY := Lib.hid hY
  have HA : Hid (Below u.heap.size u (u.alloc (.cells #[.string NA, .int .i64 kA, .bool kpA, .int .i64 alA, .string BA, .slice aP 0 cP] 24))) := Lib.hid ((Below.refl _ u).alloc (Nat.le_refl _) _)
  have HRY : Hid (RB (u.alloc (.cells #[.string NA, .int .i64 kA, .bool kpA, .int .i64 alA, .string BA, .slice aP 0 cP] 24)) Y #[.string NA, .int .i64 kA, .bool kpA, .int .i64 alA, .string BA, .slice aP 0 cP] 24) := Lib.hid (by rw [hY]; exact (MapKept.heap_alloc u _).1)
  clear hY
  replace HRX := Lib.hid (HRX.out.next HA.out)
  go_wp2_with fail
  try rw [← HEY.out]
  generalize (u.alloc (.cells #[.string NA, .int .i64 kA, .bool kpA, .int .i64 alA, .string BA, .slice aP 0 cP] 24)) = W at HA HRX HRY ⊢
  replace HB : Hid (Below w.heap.size w W) := Lib.hid (after HB.out HA.out)
  clear HA HEY
  refine (HG.out _ (HT.out.next HB.out)).mono ?_
  rintro e u ⟨rfl, hb⟩
  replace HB := Lib.hid (after HB.out hb)
  replace HRX := Lib.hid (HRX.out.next hb)
  replace HRY := Lib.hid (HRY.out.next hb)
  clear hb
  have x_0 : u.cell? ⟨X, 0, none⟩ = some (.string NA) := HRX.out.cell
  have x_1 : u.cell? ⟨X, 1, none⟩ = some (.int .i64 kA) := HRX.out.cell
  have x_2 : u.cell? ⟨X, 2, none⟩ = some (.bool kpA) := HRX.out.cell
  have x_3 : u.cell? ⟨X, 3, none⟩ = some (.int .i64 alA) := HRX.out.cell
  have x_4 : u.cell? ⟨X, 4, none⟩ = some (.string BA) := HRX.out.cell
  have x_5 : u.cell? ⟨X, 5, none⟩ = some (.slice aA 0 cA) := HRX.out.cell
  have y_0 : u.cell? ⟨Y, 0, none⟩ = some (.string NA) := HRY.out.cell
  have y_1 : u.cell? ⟨Y, 1, none⟩ = some (.int .i64 kA) := HRY.out.cell
  have y_2 : u.cell? ⟨Y, 2, none⟩ = some (.bool kpA) := HRY.out.cell
  have y_3 : u.cell? ⟨Y, 3, none⟩ = some (.int .i64 alA) := HRY.out.cell
  have y_4 : u.cell? ⟨Y, 4, none⟩ = some (.string BA) := HRY.out.cell
  have y_5 : u.cell? ⟨Y, 5, none⟩ = some (.slice aP 0 cP) := HRY.out.cell
  go_wp2_with fail
  clear x_0 x_1 x_2 x_3 x_4 x_5 y_0 y_1 y_2 y_3 y_4 y_5
  refine (HSame.out _ aA aP cA cP).mono ?_
  rintro e u ⟨rfl, hb⟩
  replace HB := Lib.hid (after HB.out hb)
  replace HRX := Lib.hid (HRX.out.next hb)
  replace HRY := Lib.hid (HRY.out.next hb)
  clear hb
  have x_0 : u.cell? ⟨X, 0, none⟩ = some (.string NA) := HRX.out.cell
  have x_1 : u.cell? ⟨X, 1, none⟩ = some (.int .i64 kA) := HRX.out.cell
  have x_2 : u.cell? ⟨X, 2, none⟩ = some (.bool kpA) := HRX.out.cell
  have x_3 : u.cell? ⟨X, 3, none⟩ = some (.int .i64 alA) := HRX.out.cell
  have x_4 : u.cell? ⟨X, 4, none⟩ = some (.string BA) := HRX.out.cell
  have x_5 : u.cell? ⟨X, 5, none⟩ = some (.slice aA 0 cA) := HRX.out.cell
  go_wp2_with fail
  clear x_0 x_1 x_2 x_3 x_4 x_5
  refine (HIs.out _ aA cA (HT.out.next HB.out)).mono ?_
  rintro e u ⟨rfl, hb⟩
  replace HB := Lib.hid (after HB.out hb)
  replace HRX := Lib.hid (HRX.out.next hb)
  replace HRY := Lib.hid (HRY.out.next hb)
  clear hb
  go_wp2
  go_ret
  exact retB_bool rfl HB.out
theorem PartNew_walk (N : ByteArray) (hN : N.size ≤ reachBytes) (kind : Int) (hk : -9223372036854775808 ≤ kind ∧ kind ≤ 9223372036854775807) (keep : Bool) (w : World) (hT : TabP w) : Calls Tryz.prog 3 #[.string N, .int .i64 kind, .bool keep] w (RetB (.bool true) w) := by
  by_cases h : 100 < N.size
  · have hi : (100 : Int) < (N.size : Int) := by omega
    clear hN hT
    go_enter Tryz.func3, Tryz.ntmps3
    go_wp2
    go_ret
    exact retB_bool rfl (Below.refl _ _)
  · obtain ⟨NA, BA, kA, kpA, alA, nA, lA, eA, hA, mA⟩ := sec_bytes (pNewL N.data.toList kind keep)
    by_cases he : eA = 0
    · exact pNe_ok N (by omega) kind keep w hT NA BA kA kpA alA nA lA eA hA mA he
    · exact pNe_no N (by omega) kind keep w hT NA BA kA kpA alA nA lA eA hA mA he
end Go.Proofs.YtmlofdolenmkoaaGreatDoor
