/- ObjSame. -/
import Derived.Test.YtmlofdolenmkoaaGreatDoorkSU
import Derived.Test.YtmlofdolenmkoaaGreatDoorkSN
namespace Go.Proofs.YtmlofdolenmkoaaGreatDoor
set_option linter.unusedVariables false
set_option linter.unusedSimpArgs false
open Go.ChangeShapes Go.WideShapes Go.Deep Go.RowKit

theorem rOSame19 (a a2 a' a2' : Option Addr) (n c n2 c2 n' c' n2' c2' : Nat) (p : Prop) (w : World) (h : ∀ u, Below w.heap.size w u → Calls Tryz.prog 67 #[.agg #[.slice a n c, .slice a2 n2 c2], .agg #[.slice a' n' c', .slice a2' n2' c2']] u (SameP p u)) : Calls Tryz.prog 36 #[.agg #[.slice a n c, .slice a2 n2 c2], .agg #[.slice a' n' c', .slice a2' n2' c2']] w (SameP p w) := by
  have H := Lib.hid h
  have HW := Lib.hid (two_rb (w := w) (A := #[.slice a n c, .slice a2 n2 c2]) (B := #[.slice a' n' c', .slice a2' n2' c2']) (T := 53) (U := 53)).2.2
  clear h
  go_enter Tryz.func36, Tryz.ntmps36
  go_wp2_with fail
  refine (H.out _ HW.out).mono ?_
  rintro e u ⟨r, rfl, hr, hb⟩
  have HR := Lib.hid hr
  have HB := Lib.hid (after HW.out hb)
  clear hr hb
  go_wp2
  go_ret
  exact ⟨r, rfl, HR.out, HB.out⟩
theorem rels_le {L : List Ms} {l : List Sy} (h : isO ⟨L.map (·.sc), l⟩ = true) : ∀ m ∈ L, m.sc.rels.length ≤ 1000000 := fun m hm => by
  have := ((is_ok h).2.2.1 m.sc (List.mem_map_of_mem hm)).rels
  omega
set_option maxRecDepth 100000 in
set_option maxHeartbeats 2000000 in
theorem oSm_a (w : World) (a : Option Addr) (n c : Nat) (L : List Ms) (a2 : Option Addr) (n2 c2 : Nat) (l : List Sy) (hn : n ≤ maxLen) (hn2 : n2 ≤ maxLen) (hs : SL msC 6 w w.heap.size a n L) (hno : Notes w w.heap.size L) (hg : ∀ m ∈ L, GoodSc m.sc) (hs2 : SL syC 4 w w.heap.size a2 n2 l) (hg2 : ∀ s ∈ l, GoodSy s) (a' : Option Addr) (n' c' : Nat) (L' : List Ms) (a2' : Option Addr) (n2' c2' : Nat) (l' : List Sy) (hn' : n' ≤ maxLen) (hn2' : n2' ≤ maxLen) (hs' : SL msC 6 w w.heap.size a' n' L') (hno' : Notes w w.heap.size L') (hg' : ∀ m ∈ L', GoodSc m.sc) (hs2' : SL syC 4 w w.heap.size a2' n2' l') (hg2' : ∀ s ∈ l', GoodSy s) (hT : TabP w) (hq : isO ⟨L.map (·.sc), l⟩ = false) : Calls Tryz.prog 11 #[.agg #[.slice a n c, .slice a2 n2 c2], .agg #[.slice a' n' c', .slice a2' n2' c2']] w (RetB (.bool true) w) := by
  have HBg : Hid (∀ u, Below w.heap.size w u → Calls Tryz.prog 25 #[.agg #[.slice a n c, .slice a2 n2 c2]] u (SomeB u)) := Lib.hid fun u hu => rOBig_any a n c L a2 n2 c2 l hn hn2 u (hs.next hu) (hs2.next hu)
  have HBg' : Hid (∀ u, Below w.heap.size w u → Calls Tryz.prog 25 #[.agg #[.slice a' n' c', .slice a2' n2' c2']] u (SomeB u)) := Lib.hid fun u hu => rOBig_any a' n' c' L' a2' n2' c2' l' hn' hn2' u (hs'.next hu) (hs2'.next hu)
  have HP : Hid (∀ u, Below w.heap.size w u → Calls Tryz.prog 27 #[.agg #[.slice a n c, .slice a2 n2 c2]] u (RetB (.tuple #[.string ⟨(putR ⟨L.map (·.sc), l⟩).1.toArray⟩, .int .i64 (putR ⟨L.map (·.sc), l⟩).2]) u)) := Lib.hid fun u hu => oPut_any a n c L a2 n2 c2 l hn hn2 u (hs.next hu) (hno.next hu) hg (hs2.next hu) hg2 (hT.next hu)
  have HP' : Hid (∀ u, Below w.heap.size w u → Calls Tryz.prog 27 #[.agg #[.slice a' n' c', .slice a2' n2' c2']] u (RetB (.tuple #[.string ⟨(putR ⟨L'.map (·.sc), l'⟩).1.toArray⟩, .int .i64 (putR ⟨L'.map (·.sc), l'⟩).2]) u)) := Lib.hid fun u hu => oPut_any a' n' c' L' a2' n2' c2' l' hn' hn2' u (hs'.next hu) (hno'.next hu) hg' (hs2'.next hu) hg2' (hT.next hu)
  have HG := Lib.hid (fun u (hu : TabP u) => held_is u hu)
  have HT := Lib.hid hT
  have HW := Lib.hid (two_rb (w := w) (A := #[.slice a n c, .slice a2 n2 c2]) (B := #[.slice a' n' c', .slice a2' n2' c2']) (T := 53) (U := 53))
  obtain ⟨X, hX⟩ : ∃ X, X = w.heap.size := ⟨_, rfl⟩
  rw [← hX] at HW
  have HXE := Lib.hid hX
  clear hX
  clear hs hno hg hs2 hg2 hs' hno' hg' hs2' hg2' hT hn hn2 hn' hn2'
  have hr : putR ⟨L.map (·.sc), l⟩ = ([], 1) := by unfold putR; rw [hq]; rfl
  rw [hr] at HP
  generalize putR ⟨L'.map (·.sc), l'⟩ = z at HP'
  obtain ⟨z1, z2⟩ := z
  clear hr hq
  go_enter Tryz.func11, Tryz.ntmps11
  go_wp2_with fail
  try rw [← HXE.out]
  generalize (w.alloc (.cells #[.slice a n c, .slice a2 n2 c2] 53)).alloc (.cells #[.slice a' n' c', .slice a2' n2' c2'] 53) = W at HW ⊢
  have HB : Hid (Below w.heap.size w W) := Lib.hid (by have := HW.out.2.2; rw [HXE.out] at this; exact this)
  have HRX := Lib.hid HW.out.1
  obtain ⟨Y, hY⟩ : ∃ Y, Y = X + 1 := ⟨_, rfl⟩
  have HRY : Hid (RB W Y #[.slice a' n' c', .slice a2' n2' c2'] 53) := Lib.hid (by rw [hY]; exact HW.out.2.1)
  try rw [← hY]
  clear HW HXE hY
  refine (HBg.out _ HB.out).mono ?_
  rintro e u ⟨r, rfl, hb⟩
  replace HB := Lib.hid (after HB.out hb)
  replace HRX := Lib.hid (HRX.out.next hb)
  replace HRY := Lib.hid (HRY.out.next hb)
  clear hb
  cases r
  rotate_left
  · go_wp2
    go_ret
    exact retB_bool rfl HB.out
  have y_0 : u.cell? ⟨Y, 0, none⟩ = some (.slice a' n' c') := HRY.out.cell
  have y_1 : u.cell? ⟨Y, 1, none⟩ = some (.slice a2' n2' c2') := HRY.out.cell
  go_wp2_with fail
  clear y_0 y_1
  refine (HBg'.out _ HB.out).mono ?_
  rintro e u ⟨r, rfl, hb⟩
  replace HB := Lib.hid (after HB.out hb)
  replace HRX := Lib.hid (HRX.out.next hb)
  replace HRY := Lib.hid (HRY.out.next hb)
  clear hb
  cases r
  rotate_left
  · go_wp2
    go_ret
    exact retB_bool rfl HB.out
  have x_0 : u.cell? ⟨X, 0, none⟩ = some (.slice a n c) := HRX.out.cell
  have x_1 : u.cell? ⟨X, 1, none⟩ = some (.slice a2 n2 c2) := HRX.out.cell
  go_wp2_with fail
  clear x_0 x_1
  refine (HP.out _ HB.out).mono ?_
  rintro e u ⟨rfl, hb⟩
  replace HB := Lib.hid (after HB.out hb)
  replace HRX := Lib.hid (HRX.out.next hb)
  replace HRY := Lib.hid (HRY.out.next hb)
  clear hb
  have y_0 : u.cell? ⟨Y, 0, none⟩ = some (.slice a' n' c') := HRY.out.cell
  have y_1 : u.cell? ⟨Y, 1, none⟩ = some (.slice a2' n2' c2') := HRY.out.cell
  go_wp2_with fail
  clear y_0 y_1
  refine (HP'.out _ HB.out).mono ?_
  rintro e u ⟨rfl, hb⟩
  replace HB := Lib.hid (after HB.out hb)
  replace HRX := Lib.hid (HRX.out.next hb)
  replace HRY := Lib.hid (HRY.out.next hb)
  clear hb
  go_wp2_with fail
  refine (HG.out _ (HT.out.next HB.out)).mono ?_
  rintro e u ⟨rfl, hb⟩
  replace HB := Lib.hid (after HB.out hb)
  replace HRX := Lib.hid (HRX.out.next hb)
  replace HRY := Lib.hid (HRY.out.next hb)
  clear hb
  go_wp2
  go_ret
  exact retB_bool rfl HB.out
set_option maxRecDepth 100000 in
set_option maxHeartbeats 2000000 in
theorem oSm_b (w : World) (a : Option Addr) (n c : Nat) (L : List Ms) (a2 : Option Addr) (n2 c2 : Nat) (l : List Sy) (hn : n ≤ maxLen) (hn2 : n2 ≤ maxLen) (hs : SL msC 6 w w.heap.size a n L) (hno : Notes w w.heap.size L) (hg : ∀ m ∈ L, GoodSc m.sc) (hs2 : SL syC 4 w w.heap.size a2 n2 l) (hg2 : ∀ s ∈ l, GoodSy s) (a' : Option Addr) (n' c' : Nat) (L' : List Ms) (a2' : Option Addr) (n2' c2' : Nat) (l' : List Sy) (hn' : n' ≤ maxLen) (hn2' : n2' ≤ maxLen) (hs' : SL msC 6 w w.heap.size a' n' L') (hno' : Notes w w.heap.size L') (hg' : ∀ m ∈ L', GoodSc m.sc) (hs2' : SL syC 4 w w.heap.size a2' n2' l') (hg2' : ∀ s ∈ l', GoodSy s) (hT : TabP w) (hq : isO ⟨L.map (·.sc), l⟩ = true) (hq2 : isO ⟨L'.map (·.sc), l'⟩ = false) : Calls Tryz.prog 11 #[.agg #[.slice a n c, .slice a2 n2 c2], .agg #[.slice a' n' c', .slice a2' n2' c2']] w (RetB (.bool true) w) := by
  have HBg : Hid (∀ u, Below w.heap.size w u → Calls Tryz.prog 25 #[.agg #[.slice a n c, .slice a2 n2 c2]] u (SomeB u)) := Lib.hid fun u hu => rOBig_any a n c L a2 n2 c2 l hn hn2 u (hs.next hu) (hs2.next hu)
  have HBg' : Hid (∀ u, Below w.heap.size w u → Calls Tryz.prog 25 #[.agg #[.slice a' n' c', .slice a2' n2' c2']] u (SomeB u)) := Lib.hid fun u hu => rOBig_any a' n' c' L' a2' n2' c2' l' hn' hn2' u (hs'.next hu) (hs2'.next hu)
  have HP : Hid (∀ u, Below w.heap.size w u → Calls Tryz.prog 27 #[.agg #[.slice a n c, .slice a2 n2 c2]] u (RetB (.tuple #[.string ⟨(putR ⟨L.map (·.sc), l⟩).1.toArray⟩, .int .i64 (putR ⟨L.map (·.sc), l⟩).2]) u)) := Lib.hid fun u hu => oPut_any a n c L a2 n2 c2 l hn hn2 u (hs.next hu) (hno.next hu) hg (hs2.next hu) hg2 (hT.next hu)
  have HP' : Hid (∀ u, Below w.heap.size w u → Calls Tryz.prog 27 #[.agg #[.slice a' n' c', .slice a2' n2' c2']] u (RetB (.tuple #[.string ⟨(putR ⟨L'.map (·.sc), l'⟩).1.toArray⟩, .int .i64 (putR ⟨L'.map (·.sc), l'⟩).2]) u)) := Lib.hid fun u hu => oPut_any a' n' c' L' a2' n2' c2' l' hn' hn2' u (hs'.next hu) (hno'.next hu) hg' (hs2'.next hu) hg2' (hT.next hu)
  have HG := Lib.hid (fun u (hu : TabP u) => held_is u hu)
  have HT := Lib.hid hT
  have HW := Lib.hid (two_rb (w := w) (A := #[.slice a n c, .slice a2 n2 c2]) (B := #[.slice a' n' c', .slice a2' n2' c2']) (T := 53) (U := 53))
  obtain ⟨X, hX⟩ : ∃ X, X = w.heap.size := ⟨_, rfl⟩
  rw [← hX] at HW
  have HXE := Lib.hid hX
  clear hX
  clear hs hno hg hs2 hg2 hs' hno' hg' hs2' hg2' hT hn hn2 hn' hn2'
  have hr : putR ⟨L.map (·.sc), l⟩ = (putO ⟨L.map (·.sc), l⟩, 0) := by unfold putR; rw [if_pos hq]
  have hr2 : putR ⟨L'.map (·.sc), l'⟩ = ([], 1) := by unfold putR; rw [hq2]; rfl
  rw [hr] at HP
  rw [hr2] at HP'
  generalize putO ⟨L.map (·.sc), l⟩ = z1 at HP
  clear hr hr2 hq hq2
  go_enter Tryz.func11, Tryz.ntmps11
  go_wp2_with fail
  try rw [← HXE.out]
  generalize (w.alloc (.cells #[.slice a n c, .slice a2 n2 c2] 53)).alloc (.cells #[.slice a' n' c', .slice a2' n2' c2'] 53) = W at HW ⊢
  have HB : Hid (Below w.heap.size w W) := Lib.hid (by have := HW.out.2.2; rw [HXE.out] at this; exact this)
  have HRX := Lib.hid HW.out.1
  obtain ⟨Y, hY⟩ : ∃ Y, Y = X + 1 := ⟨_, rfl⟩
  have HRY : Hid (RB W Y #[.slice a' n' c', .slice a2' n2' c2'] 53) := Lib.hid (by rw [hY]; exact HW.out.2.1)
  try rw [← hY]
  clear HW HXE hY
  refine (HBg.out _ HB.out).mono ?_
  rintro e u ⟨r, rfl, hb⟩
  replace HB := Lib.hid (after HB.out hb)
  replace HRX := Lib.hid (HRX.out.next hb)
  replace HRY := Lib.hid (HRY.out.next hb)
  clear hb
  cases r
  rotate_left
  · go_wp2
    go_ret
    exact retB_bool rfl HB.out
  have y_0 : u.cell? ⟨Y, 0, none⟩ = some (.slice a' n' c') := HRY.out.cell
  have y_1 : u.cell? ⟨Y, 1, none⟩ = some (.slice a2' n2' c2') := HRY.out.cell
  go_wp2_with fail
  clear y_0 y_1
  refine (HBg'.out _ HB.out).mono ?_
  rintro e u ⟨r, rfl, hb⟩
  replace HB := Lib.hid (after HB.out hb)
  replace HRX := Lib.hid (HRX.out.next hb)
  replace HRY := Lib.hid (HRY.out.next hb)
  clear hb
  cases r
  rotate_left
  · go_wp2
    go_ret
    exact retB_bool rfl HB.out
  have x_0 : u.cell? ⟨X, 0, none⟩ = some (.slice a n c) := HRX.out.cell
  have x_1 : u.cell? ⟨X, 1, none⟩ = some (.slice a2 n2 c2) := HRX.out.cell
  go_wp2_with fail
  clear x_0 x_1
  refine (HP.out _ HB.out).mono ?_
  rintro e u ⟨rfl, hb⟩
  replace HB := Lib.hid (after HB.out hb)
  replace HRX := Lib.hid (HRX.out.next hb)
  replace HRY := Lib.hid (HRY.out.next hb)
  clear hb
  have y_0 : u.cell? ⟨Y, 0, none⟩ = some (.slice a' n' c') := HRY.out.cell
  have y_1 : u.cell? ⟨Y, 1, none⟩ = some (.slice a2' n2' c2') := HRY.out.cell
  go_wp2_with fail
  clear y_0 y_1
  refine (HP'.out _ HB.out).mono ?_
  rintro e u ⟨rfl, hb⟩
  replace HB := Lib.hid (after HB.out hb)
  replace HRX := Lib.hid (HRX.out.next hb)
  replace HRY := Lib.hid (HRY.out.next hb)
  clear hb
  go_wp2_with fail
  refine (HG.out _ (HT.out.next HB.out)).mono ?_
  rintro e u ⟨rfl, hb⟩
  replace HB := Lib.hid (after HB.out hb)
  replace HRX := Lib.hid (HRX.out.next hb)
  replace HRY := Lib.hid (HRY.out.next hb)
  clear hb
  go_wp2
  go_ret
  exact retB_bool rfl HB.out
set_option maxRecDepth 100000 in
set_option maxHeartbeats 2000000 in
theorem oSm_eq (w : World) (a : Option Addr) (n c : Nat) (L : List Ms) (a2 : Option Addr) (n2 c2 : Nat) (l : List Sy) (hn : n ≤ maxLen) (hn2 : n2 ≤ maxLen) (hs : SL msC 6 w w.heap.size a n L) (hno : Notes w w.heap.size L) (hg : ∀ m ∈ L, GoodSc m.sc) (hs2 : SL syC 4 w w.heap.size a2 n2 l) (hg2 : ∀ s ∈ l, GoodSy s) (a' : Option Addr) (n' c' : Nat) (L' : List Ms) (a2' : Option Addr) (n2' c2' : Nat) (l' : List Sy) (hn' : n' ≤ maxLen) (hn2' : n2' ≤ maxLen) (hs' : SL msC 6 w w.heap.size a' n' L') (hno' : Notes w w.heap.size L') (hg' : ∀ m ∈ L', GoodSc m.sc) (hs2' : SL syC 4 w w.heap.size a2' n2' l') (hg2' : ∀ s ∈ l', GoodSy s) (hT : TabP w) (hq : isO ⟨L.map (·.sc), l⟩ = true) (hq2 : isO ⟨L'.map (·.sc), l'⟩ = true) (he : L.map (·.sc) = L'.map (·.sc) ∧ l = l') : Calls Tryz.prog 11 #[.agg #[.slice a n c, .slice a2 n2 c2], .agg #[.slice a' n' c', .slice a2' n2' c2']] w (RetB (.bool true) w) := by
  have HBg : Hid (∀ u, Below w.heap.size w u → Calls Tryz.prog 25 #[.agg #[.slice a n c, .slice a2 n2 c2]] u (SomeB u)) := Lib.hid fun u hu => rOBig_any a n c L a2 n2 c2 l hn hn2 u (hs.next hu) (hs2.next hu)
  have HBg' : Hid (∀ u, Below w.heap.size w u → Calls Tryz.prog 25 #[.agg #[.slice a' n' c', .slice a2' n2' c2']] u (SomeB u)) := Lib.hid fun u hu => rOBig_any a' n' c' L' a2' n2' c2' l' hn' hn2' u (hs'.next hu) (hs2'.next hu)
  have HP : Hid (∀ u, Below w.heap.size w u → Calls Tryz.prog 27 #[.agg #[.slice a n c, .slice a2 n2 c2]] u (RetB (.tuple #[.string ⟨(putR ⟨L.map (·.sc), l⟩).1.toArray⟩, .int .i64 (putR ⟨L.map (·.sc), l⟩).2]) u)) := Lib.hid fun u hu => oPut_any a n c L a2 n2 c2 l hn hn2 u (hs.next hu) (hno.next hu) hg (hs2.next hu) hg2 (hT.next hu)
  have HP' : Hid (∀ u, Below w.heap.size w u → Calls Tryz.prog 27 #[.agg #[.slice a' n' c', .slice a2' n2' c2']] u (RetB (.tuple #[.string ⟨(putR ⟨L'.map (·.sc), l'⟩).1.toArray⟩, .int .i64 (putR ⟨L'.map (·.sc), l'⟩).2]) u)) := Lib.hid fun u hu => oPut_any a' n' c' L' a2' n2' c2' l' hn' hn2' u (hs'.next hu) (hno'.next hu) hg' (hs2'.next hu) hg2' (hT.next hu)
  have HG := Lib.hid (fun u (hu : TabP u) => held_is u hu)
  have HT := Lib.hid hT
  have HW := Lib.hid (two_rb (w := w) (A := #[.slice a n c, .slice a2 n2 c2]) (B := #[.slice a' n' c', .slice a2' n2' c2']) (T := 53) (U := 53))
  obtain ⟨X, hX⟩ : ∃ X, X = w.heap.size := ⟨_, rfl⟩
  rw [← hX] at HW
  have HXE := Lib.hid hX
  clear hX
  have HSm : Hid (∀ u, Below w.heap.size w u → Calls Tryz.prog 36 #[.agg #[.slice a n c, .slice a2 n2 c2], .agg #[.slice a' n' c', .slice a2' n2' c2']] u (RetB (.bool true) u)) := Lib.hid fun u hu => by
    refine (rOSame19 a a2 a' a2' n c n2 c2 n' c' n2' c2' (L.map (·.sc) = L'.map (·.sc) ∧ l = l') u (fun v hv => rOSame_any a a2 a' a2' n c n2 c2 n' c' n2' c2' L L' l l' v hn hn2 hn' hn2' ((hs.next hu).next hv) ((hs2.next hu).next hv) ((hs'.next hu).next hv) ((hs2'.next hu).next hv) ((hno.next hu).next hv) ((hno'.next hu).next hv) (rels_le hq) (rels_le hq2))).mono ?_
    rintro e v ⟨r, rfl, hr, hb⟩
    exact ⟨by rw [hr.2 he], hb⟩
  have hr : putR ⟨L.map (·.sc), l⟩ = (putO ⟨L.map (·.sc), l⟩, 0) := by unfold putR; rw [if_pos hq]
  have hr2 : putR ⟨L'.map (·.sc), l'⟩ = (putO ⟨L'.map (·.sc), l'⟩, 0) := by unfold putR; rw [if_pos hq2]
  rw [hr] at HP
  rw [hr2] at HP'
  rw [show putO ⟨L'.map (·.sc), l'⟩ = putO ⟨L.map (·.sc), l⟩ from by rw [he.1, he.2]] at HP'
  generalize (⟨(putO ⟨L.map (·.sc), l⟩).toArray⟩ : ByteArray) = S at HP HP'
  clear hr hr2 hq hq2 he
  clear hs hno hg hs2 hg2 hs' hno' hg' hs2' hg2' hT hn hn2 hn' hn2'
  go_enter Tryz.func11, Tryz.ntmps11
  go_wp2_with fail
  try rw [← HXE.out]
  generalize (w.alloc (.cells #[.slice a n c, .slice a2 n2 c2] 53)).alloc (.cells #[.slice a' n' c', .slice a2' n2' c2'] 53) = W at HW ⊢
  have HB : Hid (Below w.heap.size w W) := Lib.hid (by have := HW.out.2.2; rw [HXE.out] at this; exact this)
  have HRX := Lib.hid HW.out.1
  obtain ⟨Y, hY⟩ : ∃ Y, Y = X + 1 := ⟨_, rfl⟩
  have HRY : Hid (RB W Y #[.slice a' n' c', .slice a2' n2' c2'] 53) := Lib.hid (by rw [hY]; exact HW.out.2.1)
  try rw [← hY]
  clear HW HXE hY
  refine (HBg.out _ HB.out).mono ?_
  rintro e u ⟨r, rfl, hb⟩
  replace HB := Lib.hid (after HB.out hb)
  replace HRX := Lib.hid (HRX.out.next hb)
  replace HRY := Lib.hid (HRY.out.next hb)
  clear hb
  cases r
  rotate_left
  · go_wp2
    go_ret
    exact retB_bool rfl HB.out
  have y_0 : u.cell? ⟨Y, 0, none⟩ = some (.slice a' n' c') := HRY.out.cell
  have y_1 : u.cell? ⟨Y, 1, none⟩ = some (.slice a2' n2' c2') := HRY.out.cell
  go_wp2_with fail
  clear y_0 y_1
  refine (HBg'.out _ HB.out).mono ?_
  rintro e u ⟨r, rfl, hb⟩
  replace HB := Lib.hid (after HB.out hb)
  replace HRX := Lib.hid (HRX.out.next hb)
  replace HRY := Lib.hid (HRY.out.next hb)
  clear hb
  cases r
  rotate_left
  · go_wp2
    go_ret
    exact retB_bool rfl HB.out
  have x_0 : u.cell? ⟨X, 0, none⟩ = some (.slice a n c) := HRX.out.cell
  have x_1 : u.cell? ⟨X, 1, none⟩ = some (.slice a2 n2 c2) := HRX.out.cell
  go_wp2_with fail
  clear x_0 x_1
  refine (HP.out _ HB.out).mono ?_
  rintro e u ⟨rfl, hb⟩
  replace HB := Lib.hid (after HB.out hb)
  replace HRX := Lib.hid (HRX.out.next hb)
  replace HRY := Lib.hid (HRY.out.next hb)
  clear hb
  have y_0 : u.cell? ⟨Y, 0, none⟩ = some (.slice a' n' c') := HRY.out.cell
  have y_1 : u.cell? ⟨Y, 1, none⟩ = some (.slice a2' n2' c2') := HRY.out.cell
  go_wp2_with fail
  clear y_0 y_1
  refine (HP'.out _ HB.out).mono ?_
  rintro e u ⟨rfl, hb⟩
  replace HB := Lib.hid (after HB.out hb)
  replace HRX := Lib.hid (HRX.out.next hb)
  replace HRY := Lib.hid (HRY.out.next hb)
  clear hb
  go_wp2_with fail
  refine (HG.out _ (HT.out.next HB.out)).mono ?_
  rintro e u ⟨rfl, hb⟩
  replace HB := Lib.hid (after HB.out hb)
  replace HRX := Lib.hid (HRX.out.next hb)
  replace HRY := Lib.hid (HRY.out.next hb)
  clear hb
  have x_0 : u.cell? ⟨X, 0, none⟩ = some (.slice a n c) := HRX.out.cell
  have x_1 : u.cell? ⟨X, 1, none⟩ = some (.slice a2 n2 c2) := HRX.out.cell
  have y_0 : u.cell? ⟨Y, 0, none⟩ = some (.slice a' n' c') := HRY.out.cell
  have y_1 : u.cell? ⟨Y, 1, none⟩ = some (.slice a2' n2' c2') := HRY.out.cell
  go_wp2_with fail
  clear x_0 x_1 y_0 y_1
  refine (HSm.out _ HB.out).mono ?_
  rintro e u ⟨rfl, hb⟩
  replace HB := Lib.hid (after HB.out hb)
  replace HRX := Lib.hid (HRX.out.next hb)
  replace HRY := Lib.hid (HRY.out.next hb)
  clear hb
  go_wp2
  go_ret
  exact retB_bool rfl HB.out
set_option maxRecDepth 100000 in
set_option maxHeartbeats 2000000 in
theorem oSm_ne (w : World) (a : Option Addr) (n c : Nat) (L : List Ms) (a2 : Option Addr) (n2 c2 : Nat) (l : List Sy) (hn : n ≤ maxLen) (hn2 : n2 ≤ maxLen) (hs : SL msC 6 w w.heap.size a n L) (hno : Notes w w.heap.size L) (hg : ∀ m ∈ L, GoodSc m.sc) (hs2 : SL syC 4 w w.heap.size a2 n2 l) (hg2 : ∀ s ∈ l, GoodSy s) (a' : Option Addr) (n' c' : Nat) (L' : List Ms) (a2' : Option Addr) (n2' c2' : Nat) (l' : List Sy) (hn' : n' ≤ maxLen) (hn2' : n2' ≤ maxLen) (hs' : SL msC 6 w w.heap.size a' n' L') (hno' : Notes w w.heap.size L') (hg' : ∀ m ∈ L', GoodSc m.sc) (hs2' : SL syC 4 w w.heap.size a2' n2' l') (hg2' : ∀ s ∈ l', GoodSy s) (hT : TabP w) (hq : isO ⟨L.map (·.sc), l⟩ = true) (hq2 : isO ⟨L'.map (·.sc), l'⟩ = true) (he : ¬ (L.map (·.sc) = L'.map (·.sc) ∧ l = l')) : Calls Tryz.prog 11 #[.agg #[.slice a n c, .slice a2 n2 c2], .agg #[.slice a' n' c', .slice a2' n2' c2']] w (RetB (.bool true) w) := by
  have HBg : Hid (∀ u, Below w.heap.size w u → Calls Tryz.prog 25 #[.agg #[.slice a n c, .slice a2 n2 c2]] u (SomeB u)) := Lib.hid fun u hu => rOBig_any a n c L a2 n2 c2 l hn hn2 u (hs.next hu) (hs2.next hu)
  have HBg' : Hid (∀ u, Below w.heap.size w u → Calls Tryz.prog 25 #[.agg #[.slice a' n' c', .slice a2' n2' c2']] u (SomeB u)) := Lib.hid fun u hu => rOBig_any a' n' c' L' a2' n2' c2' l' hn' hn2' u (hs'.next hu) (hs2'.next hu)
  have HP : Hid (∀ u, Below w.heap.size w u → Calls Tryz.prog 27 #[.agg #[.slice a n c, .slice a2 n2 c2]] u (RetB (.tuple #[.string ⟨(putR ⟨L.map (·.sc), l⟩).1.toArray⟩, .int .i64 (putR ⟨L.map (·.sc), l⟩).2]) u)) := Lib.hid fun u hu => oPut_any a n c L a2 n2 c2 l hn hn2 u (hs.next hu) (hno.next hu) hg (hs2.next hu) hg2 (hT.next hu)
  have HP' : Hid (∀ u, Below w.heap.size w u → Calls Tryz.prog 27 #[.agg #[.slice a' n' c', .slice a2' n2' c2']] u (RetB (.tuple #[.string ⟨(putR ⟨L'.map (·.sc), l'⟩).1.toArray⟩, .int .i64 (putR ⟨L'.map (·.sc), l'⟩).2]) u)) := Lib.hid fun u hu => oPut_any a' n' c' L' a2' n2' c2' l' hn' hn2' u (hs'.next hu) (hno'.next hu) hg' (hs2'.next hu) hg2' (hT.next hu)
  have HG := Lib.hid (fun u (hu : TabP u) => held_is u hu)
  have HT := Lib.hid hT
  have HW := Lib.hid (two_rb (w := w) (A := #[.slice a n c, .slice a2 n2 c2]) (B := #[.slice a' n' c', .slice a2' n2' c2']) (T := 53) (U := 53))
  obtain ⟨X, hX⟩ : ∃ X, X = w.heap.size := ⟨_, rfl⟩
  rw [← hX] at HW
  have HXE := Lib.hid hX
  clear hX
  have HSm : Hid (∀ u, Below w.heap.size w u → Calls Tryz.prog 36 #[.agg #[.slice a n c, .slice a2 n2 c2], .agg #[.slice a' n' c', .slice a2' n2' c2']] u (RetB (.bool false) u)) := Lib.hid fun u hu => by
    refine (rOSame19 a a2 a' a2' n c n2 c2 n' c' n2' c2' (L.map (·.sc) = L'.map (·.sc) ∧ l = l') u (fun v hv => rOSame_any a a2 a' a2' n c n2 c2 n' c' n2' c2' L L' l l' v hn hn2 hn' hn2' ((hs.next hu).next hv) ((hs2.next hu).next hv) ((hs'.next hu).next hv) ((hs2'.next hu).next hv) ((hno.next hu).next hv) ((hno'.next hu).next hv) (rels_le hq) (rels_le hq2))).mono ?_
    rintro e v ⟨r, rfl, hr, hb⟩
    cases r
    · exact ⟨rfl, hb⟩
    · exact absurd (hr.1 rfl) he
  have hr : putR ⟨L.map (·.sc), l⟩ = (putO ⟨L.map (·.sc), l⟩, 0) := by unfold putR; rw [if_pos hq]
  have hr2 : putR ⟨L'.map (·.sc), l'⟩ = (putO ⟨L'.map (·.sc), l'⟩, 0) := by unfold putR; rw [if_pos hq2]
  rw [hr] at HP
  rw [hr2] at HP'
  have hne : (⟨(putO ⟨L.map (·.sc), l⟩).toArray⟩ : ByteArray) ≠ ⟨(putO ⟨L'.map (·.sc), l'⟩).toArray⟩ := fun h => he (by
    have h1 : putO ⟨L.map (·.sc), l⟩ = putO ⟨L'.map (·.sc), l'⟩ := by
      have := congrArg (fun b : ByteArray => b.data.toList) h
      simpa using this
    have h2 := putO_inj hq hq2 (fun s hs => by obtain ⟨m, hm, rfl⟩ := List.mem_map.1 hs; exact hg m hm) (fun s hs => by obtain ⟨m, hm, rfl⟩ := List.mem_map.1 hs; exact hg' m hm) h1
    rw [Ob.mk.injEq] at h2
    exact h2)
  generalize (⟨(putO ⟨L.map (·.sc), l⟩).toArray⟩ : ByteArray) = S at HP hne
  generalize (⟨(putO ⟨L'.map (·.sc), l'⟩).toArray⟩ : ByteArray) = S' at HP' hne
  obtain ⟨e1, e2⟩ := ba_neq hne
  clear hr hr2 hq hq2 he hne
  clear hs hno hg hs2 hg2 hs' hno' hg' hs2' hg2' hT hn hn2 hn' hn2'
  go_enter Tryz.func11, Tryz.ntmps11
  go_wp2_with fail
  try rw [← HXE.out]
  generalize (w.alloc (.cells #[.slice a n c, .slice a2 n2 c2] 53)).alloc (.cells #[.slice a' n' c', .slice a2' n2' c2'] 53) = W at HW ⊢
  have HB : Hid (Below w.heap.size w W) := Lib.hid (by have := HW.out.2.2; rw [HXE.out] at this; exact this)
  have HRX := Lib.hid HW.out.1
  obtain ⟨Y, hY⟩ : ∃ Y, Y = X + 1 := ⟨_, rfl⟩
  have HRY : Hid (RB W Y #[.slice a' n' c', .slice a2' n2' c2'] 53) := Lib.hid (by rw [hY]; exact HW.out.2.1)
  try rw [← hY]
  clear HW HXE hY
  refine (HBg.out _ HB.out).mono ?_
  rintro e u ⟨r, rfl, hb⟩
  replace HB := Lib.hid (after HB.out hb)
  replace HRX := Lib.hid (HRX.out.next hb)
  replace HRY := Lib.hid (HRY.out.next hb)
  clear hb
  cases r
  rotate_left
  · go_wp2
    go_ret
    exact retB_bool rfl HB.out
  have y_0 : u.cell? ⟨Y, 0, none⟩ = some (.slice a' n' c') := HRY.out.cell
  have y_1 : u.cell? ⟨Y, 1, none⟩ = some (.slice a2' n2' c2') := HRY.out.cell
  go_wp2_with fail
  clear y_0 y_1
  refine (HBg'.out _ HB.out).mono ?_
  rintro e u ⟨r, rfl, hb⟩
  replace HB := Lib.hid (after HB.out hb)
  replace HRX := Lib.hid (HRX.out.next hb)
  replace HRY := Lib.hid (HRY.out.next hb)
  clear hb
  cases r
  rotate_left
  · go_wp2
    go_ret
    exact retB_bool rfl HB.out
  have x_0 : u.cell? ⟨X, 0, none⟩ = some (.slice a n c) := HRX.out.cell
  have x_1 : u.cell? ⟨X, 1, none⟩ = some (.slice a2 n2 c2) := HRX.out.cell
  go_wp2_with fail
  clear x_0 x_1
  refine (HP.out _ HB.out).mono ?_
  rintro e u ⟨rfl, hb⟩
  replace HB := Lib.hid (after HB.out hb)
  replace HRX := Lib.hid (HRX.out.next hb)
  replace HRY := Lib.hid (HRY.out.next hb)
  clear hb
  have y_0 : u.cell? ⟨Y, 0, none⟩ = some (.slice a' n' c') := HRY.out.cell
  have y_1 : u.cell? ⟨Y, 1, none⟩ = some (.slice a2' n2' c2') := HRY.out.cell
  go_wp2_with fail
  clear y_0 y_1
  refine (HP'.out _ HB.out).mono ?_
  rintro e u ⟨rfl, hb⟩
  replace HB := Lib.hid (after HB.out hb)
  replace HRX := Lib.hid (HRX.out.next hb)
  replace HRY := Lib.hid (HRY.out.next hb)
  clear hb
  go_wp2_with fail
  refine (HG.out _ (HT.out.next HB.out)).mono ?_
  rintro e u ⟨rfl, hb⟩
  replace HB := Lib.hid (after HB.out hb)
  replace HRX := Lib.hid (HRX.out.next hb)
  replace HRY := Lib.hid (HRY.out.next hb)
  clear hb
  have x_0 : u.cell? ⟨X, 0, none⟩ = some (.slice a n c) := HRX.out.cell
  have x_1 : u.cell? ⟨X, 1, none⟩ = some (.slice a2 n2 c2) := HRX.out.cell
  have y_0 : u.cell? ⟨Y, 0, none⟩ = some (.slice a' n' c') := HRY.out.cell
  have y_1 : u.cell? ⟨Y, 1, none⟩ = some (.slice a2' n2' c2') := HRY.out.cell
  go_wp2_with fail
  clear x_0 x_1 y_0 y_1
  refine (HSm.out _ HB.out).mono ?_
  rintro e u ⟨rfl, hb⟩
  replace HB := Lib.hid (after HB.out hb)
  replace HRX := Lib.hid (HRX.out.next hb)
  replace HRY := Lib.hid (HRY.out.next hb)
  clear hb
  go_wp2
  go_ret
  exact retB_bool rfl HB.out
theorem ObjSame_walk (w : World) (a : Option Addr) (n c : Nat) (L : List Ms) (a2 : Option Addr) (n2 c2 : Nat) (l : List Sy) (hn : n ≤ maxLen) (hn2 : n2 ≤ maxLen) (hs : SL msC 6 w w.heap.size a n L) (hno : Notes w w.heap.size L) (hg : ∀ m ∈ L, GoodSc m.sc) (hs2 : SL syC 4 w w.heap.size a2 n2 l) (hg2 : ∀ s ∈ l, GoodSy s) (a' : Option Addr) (n' c' : Nat) (L' : List Ms) (a2' : Option Addr) (n2' c2' : Nat) (l' : List Sy) (hn' : n' ≤ maxLen) (hn2' : n2' ≤ maxLen) (hs' : SL msC 6 w w.heap.size a' n' L') (hno' : Notes w w.heap.size L') (hg' : ∀ m ∈ L', GoodSc m.sc) (hs2' : SL syC 4 w w.heap.size a2' n2' l') (hg2' : ∀ s ∈ l', GoodSy s) (hT : TabP w) : Calls Tryz.prog 11 #[.agg #[.slice a n c, .slice a2 n2 c2], .agg #[.slice a' n' c', .slice a2' n2' c2']] w (RetB (.bool true) w) := by
  cases hq : isO ⟨L.map (·.sc), l⟩
  · exact oSm_a w a n c L a2 n2 c2 l hn hn2 hs hno hg hs2 hg2 a' n' c' L' a2' n2' c2' l' hn' hn2' hs' hno' hg' hs2' hg2' hT hq
  · cases hq2 : isO ⟨L'.map (·.sc), l'⟩
    · exact oSm_b w a n c L a2 n2 c2 l hn hn2 hs hno hg hs2 hg2 a' n' c' L' a2' n2' c2' l' hn' hn2' hs' hno' hg' hs2' hg2' hT hq hq2
    · by_cases he : L.map (·.sc) = L'.map (·.sc) ∧ l = l'
      · exact oSm_eq w a n c L a2 n2 c2 l hn hn2 hs hno hg hs2 hg2 a' n' c' L' a2' n2' c2' l' hn' hn2' hs' hno' hg' hs2' hg2' hT hq hq2 he
      · exact oSm_ne w a n c L a2 n2 c2 l hn hn2 hs hno hg hs2 hg2 a' n' c' L' a2' n2' c2' l' hn' hn2' hs' hno' hg' hs2' hg2' hT hq hq2 he
end Go.Proofs.YtmlofdolenmkoaaGreatDoor
