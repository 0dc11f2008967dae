/- operand's law: given is true. -/
import Derived.Test.YtngoipcjipbelaaDoorOX1
namespace Go.Proofs.YtngoipcjipbelaaDoor
set_option linter.unusedVariables false
set_option linter.unusedSimpArgs false
open Go.ChangeShapes Go.WideShapes Go.Deep Go.RowKit

theorem same_lit {U : World} {a : Option Addr} {c c' : Nat} {os : List Po} {cs : Array Value} {T : TypeId} (h : SL poC 7 U U.heap.size a os.length os) (hcs : cs.toList = os.flatMap poC) (hn : os.length ≤ 1000000) :
    Calls Tryd.prog 28 #[.slice a os.length c, .slice (some ⟨U.heap.size, 0, none⟩) os.length c'] (U.alloc (.cells cs T)) (fun e w' => e = .returned (.bool true) ∧ Below U.heap.size U w') := by
  have hb : Below U.heap.size U (U.alloc (.cells cs T)) := (Below.refl _ _).alloc (Nat.le_refl _) _
  have h2 := SL.lit U T os po_len (by omega) cs hcs os.length rfl
  rw [← World.size_alloc U (.cells cs T)] at h2
  refine (Same_eq (h.next hb) h2 hn).mono ?_
  rintro e w' ⟨rfl, z, rfl⟩
  exact ⟨rfl, below_drewN hb z⟩
set_option maxRecDepth 100000 in
set_option maxHeartbeats 4000000 in
theorem given_true (w : World) (hT : TabO w) : Calls Tryd.prog 26 #[] w (RetB (.bool true) w) := by
  have HT := Lib.hid hT
  have HG1 : Hid (∀ w, TabO w → Calls Tryd.prog 49 #[.string ⟨#[120, 49, 44, 32, 91, 115, 112, 44, 32, 35, 56, 93, 44, 32, 108, 115, 108, 32, 51]⟩] w (RetOs os1 0 w)) := Lib.hid (of_is g1v (by decide) (by decide))
  have HG2 : Hid (∀ w, TabO w → Calls Tryd.prog 49 #[.string ⟨#[61, 97, 43, 52, 44, 32, 45, 49, 44, 32, 49, 102]⟩] w (RetOs os2 0 w)) := Lib.hid (of_is g2v (by decide) (by decide))
  have HG3 : Hid (∀ w, TabO w → Calls Tryd.prog 49 #[.string ⟨#[91, 120, 50, 44, 32, 58, 108, 111, 49, 50, 58, 98, 93, 44, 32, 120, 122, 114]⟩] w (RetOs os3 0 w)) := Lib.hid (of_is g3v (by decide) (by decide))
  have HG4 : Hid (∀ w, TabO w → Calls Tryd.prog 49 #[.string ⟨#[120, 49, 32, 120, 50]⟩] w (RetOs [] 3 w)) := Lib.hid (of_is g4v (by decide) (by decide))
  have HR1 : Hid (∀ w, TabO w → Calls Tryd.prog 20 #[.string ⟨#[115, 112]⟩] w (RetB (regV (31, true, 0)) w)) := Lib.hid fun w h => Reg_any ⟨#[115, 112]⟩ w h.2.1
  have HR2 : Hid (∀ w, TabO w → Calls Tryd.prog 20 #[.string ⟨#[120, 48, 55]⟩] w (RetB (regV (0, false, 3)) w)) := Lib.hid fun w h => Reg_any ⟨#[120, 48, 55]⟩ w h.2.1
  have HLb : Hid (∀ w, Calls Tryd.prog 24 #[.string ⟨#[49, 50, 98]⟩] w (RetD (.tuple #[.int .i64 12, .bool false, .bool true]) w)) := Lib.hid fun w => Label_any ⟨#[49, 50, 98]⟩ (by decide) w
  clear hT
  go_enter Tryd.func26, Tryd.ntmps26
  go_wp2_with fail
  refine (HG1.out _ HT.out).mono ?_
  rintro e u1 ⟨a1, c1, rfl, hs, -, hb⟩
  have HS1 := Lib.hid hs
  have HB1 := Lib.hid hb
  clear hs hb
  go_wp2_with fail
  refine (HG2.out _ (HT.out.next HB1.out)).mono ?_
  rintro e u2 ⟨a2, c2, rfl, hs, -, hb⟩
  replace HS1 := Lib.hid (HS1.out.next hb)
  have HS2 := Lib.hid hs
  have HB2 := Lib.hid (HB1.out.trans (hb.mono HB1.out.size))
  clear hs hb
  go_wp2_with fail
  refine (HG3.out _ (HT.out.next HB2.out)).mono ?_
  rintro e u3 ⟨a3, c3, rfl, hs, -, hb⟩
  replace HS1 := Lib.hid (HS1.out.next hb)
  replace HS2 := Lib.hid (HS2.out.next hb)
  have HS3 := Lib.hid hs
  have HB3 := Lib.hid (HB2.out.trans (hb.mono HB2.out.size))
  clear hs hb
  go_wp2_with fail
  refine (HG4.out _ (HT.out.next HB3.out)).mono ?_
  rintro e u4 ⟨a4, c4, rfl, hs, -, hb⟩
  replace HS1 := Lib.hid (HS1.out.next hb)
  replace HS2 := Lib.hid (HS2.out.next hb)
  replace HS3 := Lib.hid (HS3.out.next hb)
  have HB4 := Lib.hid (HB3.out.trans (hb.mono HB3.out.size))
  clear hs hb
  go_wp2_with fail
  refine (HR1.out _ (HT.out.next HB4.out)).mono ?_
  rintro e u5 ⟨rfl, hb⟩
  replace HS1 := Lib.hid (HS1.out.next hb)
  replace HS2 := Lib.hid (HS2.out.next hb)
  replace HS3 := Lib.hid (HS3.out.next hb)
  have HB5 := Lib.hid (HB4.out.trans (hb.mono HB4.out.size))
  clear hb
  go_wp2_with fail
  refine (HR2.out _ (HT.out.next HB5.out)).mono ?_
  rintro e u6 ⟨rfl, hb⟩
  replace HS1 := Lib.hid (HS1.out.next hb)
  replace HS2 := Lib.hid (HS2.out.next hb)
  replace HS3 := Lib.hid (HS3.out.next hb)
  have HB6 := Lib.hid (HB5.out.trans (hb.mono HB5.out.size))
  clear hb
  go_wp2_with fail
  refine (HLb.out _).mono ?_
  rintro e u7 ⟨rfl, hz⟩
  have HZ := Lib.hid hz
  clear hz
  obtain ⟨z, rfl⟩ := HZ.out
  have hbz : Below u6.heap.size u6 (u6.drewN z) := below_drewN (Below.refl _ _) z
  replace HS1 := Lib.hid (HS1.out.next hbz)
  replace HS2 := Lib.hid (HS2.out.next hbz)
  replace HS3 := Lib.hid (HS3.out.next hbz)
  have HB7 := Lib.hid (HB6.out.trans (hbz.mono HB6.out.size))
  clear hbz HZ
  generalize u6.drewN z = U at HS1 HS2 HS3 HB7 ⊢
  go_wp2_with fail
  refine (same_lit (os := os1) HS1.out rfl (by decide)).mono ?_
  rintro e v1 ⟨rfl, hb⟩
  replace HS2 := Lib.hid (HS2.out.next hb)
  replace HS3 := Lib.hid (HS3.out.next hb)
  have HC1 := Lib.hid (HB7.out.trans (hb.mono HB7.out.size))
  clear hb
  go_wp2_with fail
  refine (same_lit (os := os2) HS2.out rfl (by decide)).mono ?_
  rintro e v2 ⟨rfl, hb⟩
  replace HS2 := Lib.hid (HS2.out.next hb)
  replace HS3 := Lib.hid (HS3.out.next hb)
  have HC2 := Lib.hid (HC1.out.trans (hb.mono HC1.out.size))
  clear hb
  go_wp2_with fail
  refine (same_lit (os := os3) HS3.out rfl (by decide)).mono ?_
  rintro e v3 ⟨rfl, hb⟩
  replace HS2 := Lib.hid (HS2.out.next hb)
  replace HS3 := Lib.hid (HS3.out.next hb)
  have HC3 := Lib.hid (HC2.out.trans (hb.mono HC2.out.size))
  clear hb
  go_wp2
  go_ret
  exact ⟨rfl, HC3.out⟩
end Go.Proofs.YtngoipcjipbelaaDoor
