/- operand's law: OperandNames. -/
import Derived.Test.YtngoipcjipbelaaDoorQC
namespace Go.Proofs.YtngoipcjipbelaaDoor
set_option linter.unusedVariables false
set_option linter.unusedSimpArgs false
open Go.ChangeShapes Go.WideShapes Go.Deep Go.RowKit

set_option maxRecDepth 100000 in
set_option maxHeartbeats 4000000 in
theorem OperandNames_walk (s : ByteArray) (hs : s.size ≤ reachBytes) (n : Int) (hn : i64ok n) (st : Bool) (w : World) (hT : TabO w) : Calls Tryd.prog 7 #[.string s, .int .i64 n, .bool st] w (RetB (.bool true) w) := by
  by_cases hl : 200 < s.size
  · have h1 : (200 : Int) < (s.size : Int) := by omega
    have hz : (s.size : Int) ≤ 9223372036854775807 := by have : reachBytes ≤ 9223372036854775807 := by decide
                                                         omega
    clear hs hl
    go_enter Tryd.func7, Tryd.ntmps7
    go_wp2
    go_ret
    exact ⟨rfl, Below.refl _ _⟩
  have h1 : ¬ (200 : Int) < (s.size : Int) := by omega
  have hz : (s.size : Int) ≤ 9223372036854775807 := by omega
  have hm : s.size ≤ maxLen := by unfold maxLen; omega
  have HT := Lib.hid hT
  obtain ⟨r1, r2, r3, hr⟩ : ∃ r1 r2 r3, regL s.data.toList = (r1, r2, r3) := ⟨_, _, _, rfl⟩
  obtain ⟨K, er, hk⟩ : ∃ K er, regTextL n st = (K, er) := ⟨_, _, rfl⟩
  obtain ⟨ln, lu, hlv⟩ := label_v s.data.toList
  generalize labB s.data.toList = lb at hlv
  have HReg : Hid (∀ u, TabO u → Calls Tryd.prog 20 #[.string s] u (RetB (.tuple #[.int .i64 r1, .bool r2, .int .i64 r3]) u)) := Lib.hid fun u hu => by have := Reg_any s u hu.2.1; rwa [hr] at this
  have HRef : Hid (∀ u, Calls Tryd.prog 21 #[.string s] u (Ret (.tuple #[.int .i64 r1, .bool r2, .int .i64 r3]) u)) := Lib.hid fun u => by have := rReg_any s u; rwa [hr] at this
  have HTx : Hid (∀ u, TabO u → Calls Tryd.prog 22 #[.int .i64 n, .bool st] u (RetB (.tuple #[.string ⟨K.toArray⟩, .int .i64 er]) u)) := Lib.hid fun u hu => by have := RegText_any n hn st u hu.2.1; rwa [hk] at this
  have HTr : Hid (∀ u, Calls Tryd.prog 23 #[.int .i64 n, .bool st] u (Ret (.tuple #[.string ⟨K.toArray⟩, .int .i64 er]) u)) := Lib.hid fun u => by have := rRegText_any n hn st u; rwa [hk] at this
  have HLb : Hid (∀ u, Calls Tryd.prog 24 #[.string s] u (RetD (.tuple #[.int .i64 ln, .bool lu, .bool lb]) u)) := Lib.hid fun u => by have := Label_any s hm u; rwa [hlv] at this
  have HLr : Hid (∀ u, Calls Tryd.prog 25 #[.string s] u (Ret (.tuple #[.int .i64 ln, .bool lu, .bool lb]) u)) := Lib.hid fun u => by have := rLabel_any s hm u; rwa [hlv] at this
  have HGv : Hid (∀ u, TabO u → Calls Tryd.prog 26 #[] u (RetB (.bool true) u)) := Lib.hid given_true
  generalize (⟨K.toArray⟩ : ByteArray) = T at HTx HTr
  clear hr hk hlv hn hs hT hm hl
  go_enter Tryd.func7, Tryd.ntmps7
  go_wp2_with fail
  refine (HReg.out _ HT.out).mono ?_
  rintro e u1 ⟨rfl, hb⟩
  have HB1 := Lib.hid hb
  clear hb
  go_wp2_with fail
  refine (HRef.out _).mono ?_
  rintro e u' ⟨rfl, rfl⟩
  go_wp2_with fail
  refine (HTx.out _ (HT.out.next HB1.out)).mono ?_
  rintro e u2 ⟨rfl, hb⟩
  have HB2 := Lib.hid (HB1.out.trans (hb.mono HB1.out.size))
  clear hb
  go_wp2_with fail
  refine (HTr.out _).mono ?_
  rintro e u' ⟨rfl, rfl⟩
  go_wp2_with fail
  refine (HLb.out _).mono ?_
  rintro e u3 ⟨rfl, hz⟩
  have HZ := Lib.hid hz
  clear hz
  obtain ⟨z, rfl⟩ := HZ.out
  have HB3 := Lib.hid (below_drewN HB2.out z)
  clear HZ
  generalize World.drewN _ z = U at HB3 ⊢
  go_wp2_with fail
  refine (HLr.out _).mono ?_
  rintro e u' ⟨rfl, rfl⟩
  go_wp2_with fail
  refine (HGv.out _ (HT.out.next HB3.out)).mono ?_
  rintro e u4 ⟨rfl, hb⟩
  have HB4 := Lib.hid (HB3.out.trans (hb.mono HB3.out.size))
  clear hb
  go_wp2
  go_ret
  exact ⟨by simp, HB4.out⟩
end Go.Proofs.YtngoipcjipbelaaDoor
