/- ObjOnly: what is got is right, and put as it was. -/
import Derived.Test.YtkdhomofagjcmaaGreatDoorkUB
namespace Go.Proofs.YtkdhomofagjcmaaGreatDoor
set_option linter.unusedVariables false
set_option linter.unusedSimpArgs false
open Go.ChangeShapes Go.WideShapes Go.Deep Go.RowKit

set_option maxRecDepth 100000 in
set_option maxHeartbeats 2000000 in
theorem oOn_big (D : ByteArray) (hD : D.size ≤ reachBytes) (w : World) (hT : TabP w) (h6 : (6000 : Int) < (D.size : Int)) : Calls Tryz.prog 5 #[.string D] w (RetB (.bool true) w) := by
  clear hD hT
  go_enter Tryz.func5, Tryz.ntmps5
  go_wp2
  go_ret
  exact retB_bool rfl (Below.refl _ _)
set_option maxRecDepth 100000 in
set_option maxHeartbeats 2000000 in
theorem oOn_no (D : ByteArray) (hD : D.size ≤ reachBytes) (w : World) (hT : TabP w) (h6 : ¬ (6000 : Int) < (D.size : Int)) (h : getO D = none) : Calls Tryz.prog 5 #[.string D] w (RetB (.bool true) w) := by
  have hm : D.size ≤ maxLen := by unfold maxLen; unfold reachBytes at hD; omega
  have HG := Lib.hid (fun u (hu : TabP u) => held_is u hu)
  have HT := Lib.hid hT
  have HB : Hid (Below w.heap.size w w) := Lib.hid (Below.refl _ w)
  have HGt : Hid (∀ u, TabP u → Calls Tryz.prog 19 #[.string D] u (GetN u)) := Lib.hid fun u hu => Get_n h hm u hu
  clear hD hT hm h
  go_enter Tryz.func5, Tryz.ntmps5
  go_wp2_with fail
  refine (HGt.out _ HT.out).mono ?_
  rintro e u ⟨rfl, hb⟩
  replace HB := Lib.hid (after HB.out hb)
  clear hb
  obtain ⟨X, hX⟩ : ∃ X, X = u.heap.size := ⟨_, rfl⟩
  have HEX := Lib.hid hX
  have HA : Hid (Below u.heap.size u (u.alloc (.cells #[.slice none 0 0, .slice none 0 0] 25))) := Lib.hid ((Below.refl _ u).alloc (Nat.le_refl _) _)
  have HRX : Hid (RB (u.alloc (.cells #[.slice none 0 0, .slice none 0 0] 25)) X #[.slice none 0 0, .slice none 0 0] 25) := Lib.hid (by rw [hX]; exact (MapKept.heap_alloc u _).1)
  clear hX
  go_wp2_with fail
  try rw [← HEX.out]
  generalize (u.alloc (.cells #[.slice none 0 0, .slice none 0 0] 25)) = W at HA HRX ⊢
  replace HB : Hid (Below w.heap.size w W) := Lib.hid (after HB.out HA.out)
  clear HA HEX
  refine (HG.out _ (HT.out.next HB.out)).mono ?_
  rintro e u ⟨rfl, hb⟩
  replace HB := Lib.hid (after HB.out hb)
  replace HRX := Lib.hid (HRX.out.next hb)
  clear hb
  have x_0 : u.cell? ⟨X, 0, none⟩ = some (.slice none 0 0) := HRX.out.cell
  have x_1 : u.cell? ⟨X, 1, none⟩ = some (.slice none 0 0) := HRX.out.cell
  go_wp2
  go_ret
  exact retB_bool rfl HB.out
set_option maxRecDepth 100000 in
set_option maxHeartbeats 2000000 in
theorem oOn_yes (D : ByteArray) (hD : D.size ≤ reachBytes) (w : World) (hT : TabP w) (h6 : ¬ (6000 : Int) < (D.size : Int)) (o : Ob) (h : getO D = some o) : Calls Tryz.prog 5 #[.string D] w (RetB (.bool true) w) := by
  have hm : D.size ≤ maxLen := by unfold maxLen; unfold reachBytes at hD; omega
  have HG := Lib.hid (fun u (hu : TabP u) => held_is u hu)
  have HT := Lib.hid hT
  have HB : Hid (Below w.heap.size w w) := Lib.hid (Below.refl _ w)
  obtain ⟨h1, h2, h3, h4⟩ := getO_only h
  have HGt : Hid (∀ u, TabP u → Calls Tryz.prog 19 #[.string D] u (GetY o u)) := Lib.hid fun u hu => Get_y h hm u hu
  have HIs : Hid (∀ u (L : List Ms) (a : Option Addr) (c : Nat) (a2 : Option Addr) (c2 B : Nat), TabP u → GO u B L a c o.syms a2 c2 → L.map (·.sc) = o.secs → Calls Tryz.prog 24 #[.agg #[.slice a L.length c, .slice a2 o.syms.length c2]] u (RetB (.bool true) u)) := Lib.hid fun u L a c a2 c2 B hu hg hl => (own_is h1 h3 h4 u hu hg hl).1
  have HPu : Hid (∀ u (L : List Ms) (a : Option Addr) (c : Nat) (a2 : Option Addr) (c2 B : Nat), TabP u → GO u B L a c o.syms a2 c2 → L.map (·.sc) = o.secs → Calls Tryz.prog 17 #[.agg #[.slice a L.length c, .slice a2 o.syms.length c2]] u (RetB (.tuple #[.string D, .int .i64 0]) u)) := Lib.hid fun u L a c a2 c2 B hu hg hl => by
    have := (own_is h1 h3 h4 u hu hg hl).2
    rw [← h2, bA_of] at this
    exact this
  have e1 : (D.toList == D.toList) = true := by simp
  clear hD hT hm h h1 h2 h3 h4
  go_enter Tryz.func5, Tryz.ntmps5
  go_wp2_with fail
  refine (HGt.out _ HT.out).mono ?_
  rintro e u ⟨L, a, c, a2, c2, B0, hL, rfl, hgo, hb⟩
  replace HB := Lib.hid (after HB.out hb)
  have HGO := Lib.hid hgo
  have HL := Lib.hid hL
  clear hb hgo hL
  obtain ⟨X, hX⟩ : ∃ X, X = u.heap.size := ⟨_, rfl⟩
  have HEX := Lib.hid hX
  have HA : Hid (Below u.heap.size u (u.alloc (.cells #[.slice a L.length c, .slice a2 o.syms.length c2] 25))) := Lib.hid ((Below.refl _ u).alloc (Nat.le_refl _) _)
  have HRX : Hid (RB (u.alloc (.cells #[.slice a L.length c, .slice a2 o.syms.length c2] 25)) X #[.slice a L.length c, .slice a2 o.syms.length c2] 25) := Lib.hid (by rw [hX]; exact (MapKept.heap_alloc u _).1)
  clear hX
  replace HGO := Lib.hid (HGO.out.next HA.out)
  have x_0 : (u.alloc (.cells #[.slice a L.length c, .slice a2 o.syms.length c2] 25)).cell? ⟨u.heap.size, 0, none⟩ = some (.slice a L.length c) := by rw [← HEX.out]; exact HRX.out.cell
  have x_1 : (u.alloc (.cells #[.slice a L.length c, .slice a2 o.syms.length c2] 25)).cell? ⟨u.heap.size, 1, none⟩ = some (.slice a2 o.syms.length c2) := by rw [← HEX.out]; exact HRX.out.cell
  go_wp2_with fail
  clear x_0 x_1
  try rw [← HEX.out]
  generalize (u.alloc (.cells #[.slice a L.length c, .slice a2 o.syms.length c2] 25)) = W at HA HRX HGO ⊢
  replace HB : Hid (Below w.heap.size w W) := Lib.hid (after HB.out HA.out)
  clear HA HEX
  refine (HPu.out _ _ _ _ _ _ _ (HT.out.next HB.out) HGO.out HL.out).mono ?_
  rintro e u ⟨rfl, hb⟩
  replace HB := Lib.hid (after HB.out hb)
  replace HRX := Lib.hid (HRX.out.next hb)
  replace HGO := Lib.hid (HGO.out.next hb)
  clear hb
  go_wp2_with fail
  refine (HG.out _ (HT.out.next HB.out)).mono ?_
  rintro e u ⟨rfl, hb⟩
  replace HB := Lib.hid (after HB.out hb)
  replace HRX := Lib.hid (HRX.out.next hb)
  replace HGO := Lib.hid (HGO.out.next hb)
  clear hb
  have x_0 : u.cell? ⟨X, 0, none⟩ = some (.slice a L.length c) := HRX.out.cell
  have x_1 : u.cell? ⟨X, 1, none⟩ = some (.slice a2 o.syms.length c2) := HRX.out.cell
  go_wp2_with fail
  clear x_0 x_1
  refine (HIs.out _ _ _ _ _ _ _ (HT.out.next HB.out) HGO.out HL.out).mono ?_
  rintro e u ⟨rfl, hb⟩
  replace HB := Lib.hid (after HB.out hb)
  replace HRX := Lib.hid (HRX.out.next hb)
  replace HGO := Lib.hid (HGO.out.next hb)
  clear hb
  go_wp2
  go_ret
  exact retB_bool rfl HB.out
theorem ObjOnly_walk (D : ByteArray) (hD : D.size ≤ reachBytes) (w : World) (hT : TabP w) : Calls Tryz.prog 5 #[.string D] w (RetB (.bool true) w) := by
  by_cases h6 : (6000 : Int) < (D.size : Int)
  · exact oOn_big D hD w hT h6
  · cases h : getO D with
    | none => exact oOn_no D hD w hT h6 h
    | some o => exact oOn_yes D hD w hT h6 o h
end Go.Proofs.YtkdhomofagjcmaaGreatDoor
