/- code: its tables; Base, Opcode, pack, the fields of a word. -/
import Derived.Test.YtkcgnmicaigjfaaDoorkI5
import Derived.Test.YtkcgnmicaigjfaaDoorkCX
import Derived.Test.YtkcgnmicaigjfaaDoorkCW
import Derived.Test.YtkcgnmicaigjfaaDoorkBV
import Derived.Lib.LaidTab
namespace Go.Proofs.YtkcgnmicaigjfaaDoor
set_option linter.unusedVariables false
set_option linter.unusedSimpArgs false
open Go.RowKit

abbrev Bases (w : World) : Prop := ∀ j, j < 40 → w.cell? ⟨6, j, none⟩ = some (.int .u32 ((baL.getD j 0 : Nat) : Int))
abbrev Looses (w : World) : Prop := ∀ j, j < 17 → w.cell? ⟨5, j, none⟩ = some (.int .u32 ((loL.getD j 0 : Nat) : Int))
abbrev Tab6 (w : World) : Prop := Tab4 w ∧ (Bases w ∧ 6 < w.heap.size) ∧ Looses w ∧ 5 < w.heap.size
theorem Tab6.below {w w' : World} (h : Tab6 w) (hb : Below w.heap.size w w') : Tab6 w' :=
  ⟨h.1.below hb, ⟨fun j hj => by rw [hb.cell (p := ⟨6, j, none⟩) h.2.1.2]; exact h.2.1.1 j hj, Nat.lt_of_lt_of_le h.2.1.2 hb.size⟩, fun j hj => by rw [hb.cell (p := ⟨5, j, none⟩) h.2.2.2]; exact h.2.2.1 j hj, Nat.lt_of_lt_of_le h.2.2.2 hb.size⟩
theorem j64 : Tryd.prog.globalNamed "math/bits.deBruijn64tab" = some 7 := by kernel_rfl
theorem jSh : Tryd.prog.globalNamed "cleat/inst.shapes" = some 1 := by kernel_rfl
theorem jBa : Tryd.prog.globalNamed "cleat/code.bases" = some 6 := by kernel_rfl
theorem jLo : Tryd.prog.globalNamed "cleat/code.loose" = some 5 := by kernel_rfl
def baI : List Int := [0, 3531603968, 2457862144, 4068474880, 2432696320, 3506438144, 2969567232, 4043309056, 2449473536, 2986344448, 3523215360, 4060086272, 2332033024, 3405774848, 2868903936, 3942645760, 2315255808, 2852126720, 3388997632, 3925868544, 2600468480, 2600501248, 4181721088, 4177526784, 960495616, 956301312, 1476395008, 268435456, 2415919104, 335544320, 2483027968, 1409286144, 3019898880, 3036676096, 3592355840, 3594452992, 3596550144, 3556769793, 3573751839, 2592079872]
def loI : List Int := [0, 8388607, 8388607, 8388607, 14680063, 14680063, 2064383, 4194303, 4194303, 16777215, 1627389951, 67108863, 16777199, 992, 2097120, 0, 2094079]
theorem jtab64 : ∀ j, j < 64 → ([0, 1, 56, 2, 57, 49, 28, 3, 61, 58, 42, 50, 38, 29, 17, 4, 62, 47, 59, 36, 45, 43, 51, 22, 53, 39, 33, 30, 24, 18, 12, 5, 63, 55, 48, 27, 60, 41, 37, 16, 46, 35, 44, 21, 52, 32, 23, 11, 54, 26, 40, 15, 34, 20, 31, 10, 25, 14, 19, 9, 13, 8, 7, 6] : List Int).getD j 0 = ((Lib.deBruijn64tab.getD j 0 : Nat) : Int) := by decide +kernel
theorem jtabB : ∀ j, j < 40 → baI.getD j 0 = ((baL.getD j 0 : Nat) : Int) := by decide +kernel
theorem jtabL : ∀ j, j < 17 → loI.getD j 0 = ((loL.getD j 0 : Nat) : Int) := by decide +kernel
theorem tabs_of {w : World} (h64 : Lib.TabIs Tryd.prog w "math/bits.deBruijn64tab" .u8 [0, 1, 56, 2, 57, 49, 28, 3, 61, 58, 42, 50, 38, 29, 17, 4, 62, 47, 59, 36, 45, 43, 51, 22, 53, 39, 33, 30, 24, 18, 12, 5, 63, 55, 48, 27, 60, 41, 37, 16, 46, 35, 44, 21, 52, 32, 23, 11, 54, 26, 40, 15, 34, 20, 31, 10, 25, 14, 19, 9, 13, 8, 7, 6])
    (hs : Lib.TabIs Tryd.prog w "cleat/inst.shapes" .i64 shL) (hb : Lib.TabIs Tryd.prog w "cleat/code.bases" .u32 baI) (hl : Lib.TabIs Tryd.prog w "cleat/code.loose" .u32 loI) : Tab6 w := by
  refine ⟨⟨⟨fun j hj => ?_, cell_lt (h64.cell j64 0 (by decide))⟩, fun j hj => hs.cell jSh j hj, cell_lt (hs.cell jSh 0 (by decide))⟩, ⟨fun j hj => ?_, cell_lt (hb.cell jBa 0 (by decide))⟩, fun j hj => ?_, cell_lt (hl.cell jLo 0 (by decide))⟩
  · have hj' : j < 64 := hj
    rw [h64.cell j64 j hj', jtab64 j hj']
  · rw [hb.cell jBa j hj, jtabB j hj]
  · rw [hl.cell jLo j hj, jtabL j hj]

def baseI (op : Int) : Int × Int := if shapeI op = 0 then (0, 1) else ((baN op : Nat), 0)
theorem baL_lt : ∀ j, j < 40 → baL.getD j 0 < 4294967296 := by decide +kernel
theorem loL_lt : ∀ j, j < 17 → loL.getD j 0 < 4294967296 := by decide +kernel
def Drew (w w' : World) : Prop := ∃ n, w' = w.drewN n
theorem Drew.more {w w' : World} (h : Drew w w') (n : Nat) : Drew w (w'.drewN n) := by
  obtain ⟨m, rfl⟩ := h
  exact ⟨m + n, by rw [World.drewN_drewN]⟩
theorem Drew.below {w w' : World} (h : Drew w w') : Below w.heap.size w w' := by
  obtain ⟨m, rfl⟩ := h
  exact below_refl_drewN w m
theorem retDr_int {k : IntKind} {a b : Int} {w w' : World} (h : a = b) (hd : Drew w w') : RetD (.int k b) w (.returned (.int k a)) w' := by subst h; exact ⟨rfl, hd⟩
set_option maxHeartbeats 1000000 in
theorem Opcode_any (x : Nat) (hx : x < 4294967296) (w : World) (hw : Tab6 w) : Calls Tryd.prog 59 #[.int .u32 x] w (RetD (.int .i64 (opW x)) w) := by
  have HT := Lib.hid hw
  clear hw
  go_enter Tryd.func59, Tryd.ntmps59
  go_wp2
  go_loopw [3] (fun i wl => ∃ k : Nat, 1 ≤ k ∧ k ≤ 40 ∧ i = .int .i64 k ∧ (∀ o, 1 ≤ o → o < k → isOp o x = false) ∧ Drew w wl) (fun i _ => 40 - (intOf i).toNat)
  case atStart => exact ⟨1, by omega, by omega, rfl, fun o h1 h2 => by omega, 0, rfl⟩
  case round =>
    obtain ⟨k, hk1, hk, rfl, hno, hdr⟩ := hrel
    have HDR := Lib.hid hdr
    clear hdr
    have HNO := Lib.hid hno
    clear hno
    have hT : Tab6 wr := HT.out.below HDR.out.below
    by_cases hlt : k < 40
    · have hsh : ∀ n', Calls Tryd.prog 14 #[.int .i64 (k : Int)] (wr.drewN n') (Ret (.int .i64 (shapeI (k : Int))) (wr.drewN n')) := fun n' => Shape_any (k : Int) _ (hT.below (below_refl_drewN wr n')).1
      have hb := shapeI_b (k : Int)
      obtain ⟨s, hs⟩ := Int.eq_ofNat_of_zero_le hb.1
      have cL := hT.2.2.1 s (by omega)
      have cB := hT.2.1.1 k hlt
      have hand := u32_andNot_nat x (loL.getD s 0) hx (loL_lt s (by omega))
      have hop : isOp k x = (((x &&& (4294967295 - loL.getD s 0) : Nat) : Int) == ((baL.getD k 0 : Nat) : Int)) := by
        unfold isOp
        rw [hs, Int.toNat_natCast]
        show (x &&& (4294967295 - loN s) == baN (k : Int)) = _
        unfold loN baN
        rw [Int.toNat_natCast, Bool.eq_iff_iff, beq_iff_eq, beq_iff_eq, Int.natCast_inj]
      rw [hs] at hsh
      have HSh := Lib.hid hsh
      have hs16 : s ≤ 16 := by omega
      have HOP := Lib.hid hop
      clear hT hb hs hop hsh
      generalize loL.getD s 0 = lo at *
      generalize baL.getD k 0 = ba at *
      generalize x &&& (4294967295 - lo) = xa at *
      cases hq : ((xa : Int) == (ba : Int))
      · have HQ : Hid (isOp k x = false) := Lib.hid (HOP.out.trans hq)
        clear HOP
        go_wp2_with fail
        go_quiet ((go_at_call 14; exact Calls.quiet_of_same ((HSh.out _).mono fun e w' h => ⟨h.1, h.2.symm⟩)))
        go_wp2
        go_roundw
        case rel => exact ⟨k + 1, by omega, by omega, by go_num, fun o h1 h2 => by
          by_cases e : o = k
          · rw [e]; exact HQ.out
          · exact HNO.out o h1 (by omega), HDR.out.more _⟩
        case measure => simp [intOf]; omega
      · have HQ : Hid (opW x = k) := Lib.hid (opW_is hk1 hlt (HOP.out.trans hq))
        clear HOP
        go_wp2_with fail
        go_quiet ((go_at_call 14; exact Calls.quiet_of_same ((HSh.out _).mono fun e w' h => ⟨h.1, h.2.symm⟩)))
        go_wp2
        go_ret
        exact retDr_int (by have := HQ.out; omega) (HDR.out.more _)
    · obtain rfl : k = 40 := by omega
      have HQ : Hid (opW x = 0) := Lib.hid (opW_none fun o h1 h2 => HNO.out o h1 h2)
      go_wp2
      go_ret
      exact retDr_int (by have := HQ.out; omega) HDR.out

theorem fieldS_in (x : Nat) (a n : Nat) (h : a + n ≤ 32) (h1 : 1 ≤ n) : fieldS x a n = (fw x a n, 0) := by
  rw [fieldS_ok (by omega)]
  unfold fw
  simp only [Int.toNat_natCast]
  congr 1
theorem fw_u32 (x a n : Nat) (h : n ≤ 32) : 0 ≤ fw x a n ∧ fw x a n < 4294967296 := by
  have := fw_lt x a n
  have hp := pow_le n 32 h 4294967296 (by decide)
  omega
set_option maxHeartbeats 400000 in
theorem number_any (x a n : Nat) (hx : x < 4294967296) (h : a + n ≤ 32) (h1 : 1 ≤ n) (w : World) : Calls Tryd.prog 60 #[.int .u32 x, .int .i64 a, .int .i64 n] w (RetD (.int .i64 (fw x a n)) w) := by
  have hf := field_any x a n w (by omega) (by omega)
  rw [fieldS_in x a n h h1] at hf
  have HF := Lib.hid hf
  have hb := fw_u32 x a n (by omega)
  clear hf
  generalize fw x a n = f at *
  go_enter Tryd.func60, Tryd.ntmps60
  go_wp2_with (go_at_call 77; ((with_reducible refine HF.out.mono ?_); rintro e w' ⟨rfl, m, rfl⟩))
  go_ret
  exact retD_int rfl m
set_option maxHeartbeats 400000 in
theorem wsigned_any (x a n : Nat) (hx : x < 4294967296) (h : a + n ≤ 32) (h1 : 1 ≤ n) (w : World) : Calls Tryd.prog 62 #[.int .u32 x, .int .i64 a, .int .i64 n] w (RetD (.int .i64 (sgn (fw x a n) n).1) w) := by
  have HF := Lib.hid (number_any x a n hx h h1 w)
  have hb := fw_u32 x a n (by omega)
  have HS : Hid (∀ w, Calls Tryd.prog 79 #[.int .u32 (fw x a n), .int .i64 n] w (Ret (two .i64 .i64 (sgn (fw x a n) n)) w)) := Lib.hid fun w => signed_any _ _ w hb.1 hb.2
  generalize sgn (fw x a n) n = sg at *
  generalize fw x a n = f at *
  go_enter Tryd.func62, Tryd.ntmps62
  go_wp2_with (first | (go_at_call 60; ((with_reducible refine HF.out.mono ?_); rintro e w' ⟨rfl, m, rfl⟩)) | (go_at_call 79; ((with_reducible refine (HS.out _).mono ?_); rintro e w' ⟨rfl, rfl⟩)))
  go_ret
  exact retD_int rfl m
end Go.Proofs.YtkcgnmicaigjfaaDoor
