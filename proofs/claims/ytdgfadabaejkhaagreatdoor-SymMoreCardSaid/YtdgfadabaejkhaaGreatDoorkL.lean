/- lex.IsWord. -/
import Derived.Test.YtdgfadabaejkhaaGreatDoorS
import Derived.Lib.ValidLaws
import Derived.Lib.TrimUEq
import Derived.Laws.Runes
import Derived.Laws.RangeString
import Derived.Laws.RangeAny
import Derived.Deep.QuietTactic
import Derived.BigQuiet
import Derived.OwnWalk
import Derived.Laws.Pointers
import Derived.RegionTactic
import Derived.Lib.OthersKept
import Derived.Deep.LoopGhost
namespace Go.Proofs.YtdgfadabaejkhaaGreatDoor
set_option linter.unusedVariables false
set_option linter.unusedSimpArgs false
open Go.ChangeShapes Go.WideShapes Go.Deep Go.RowKit
def letterI (r : Int) : Bool := (decide (97 ≤ r) && decide (r ≤ 122)) || (decide (65 ≤ r) && decide (r ≤ 90)) || r == 95 || r == 46 || r == 36
def digI (r : Int) : Bool := decide (48 ≤ r) && decide (r ≤ 57)
def whiI (r : Int) : Bool := r == 32 || r == 9 || r == 13
def wordR (r : Nat) : Bool := letterI r || digI r
def whiR (r : Nat) : Bool := whiI r
theorem let_word {r : Nat} (h : letterI r = true) : wordR r = true ∧ whiR r = false ∧ r < 128 ∧ r ≠ 47 := by
  unfold letterI at h
  simp only [Bool.or_eq_true, Bool.and_eq_true, decide_eq_true_eq, beq_iff_eq] at h
  refine ⟨?_, ?_, by omega, by omega⟩
  · unfold wordR letterI
    simp only [Bool.or_eq_true, Bool.and_eq_true, decide_eq_true_eq, beq_iff_eq]
    exact .inl h
  · unfold whiR whiI
    simp only [Bool.or_eq_false_iff, beq_eq_false_iff_ne, ne_eq]
    omega
theorem wordR_lt {r : Nat} (h : wordR r = true) : r < 128 := by
  unfold wordR letterI digI at h
  simp only [Bool.or_eq_true, Bool.and_eq_true, decide_eq_true_eq, beq_iff_eq] at h
  omega
theorem lt_of_block {w : World} {k : Nat} {o : Obj} (h : w.heap[k]? = some o) : k < w.heap.size := (Array.getElem?_eq_some_iff.1 h).1
/-- Nothing but the block p, of what was there, has turned. -/
abbrev KP (p : Nat) (w w' : World) : Prop := w.grownBy w' (some p)
theorem KP.of_below {p : Nat} {w w' : World} (h : Below w.heap.size w w') : KP p w w' := ⟨h.os, h.tape, h.output, h.size, fun k hk _ => h.block k hk⟩
theorem KP.step (p : Nat) (w : World) (o : Nat) (v : Value) : KP p w (w.setCell ⟨p, o, none⟩ v) := ⟨rfl, rfl, rfl, by simp [World.setCell], fun k hk hn => Below.heap_setCell _ _ _ _ (fun e => hn (by rw [e]))⟩
theorem KP.refl (p : Nat) (w : World) : KP p w w := World.grownBy.refl _ _
set_option maxHeartbeats 1000000 in
theorem isLetter_any (x : Int) (w : World) : Calls Tryz.prog 152 #[.int .i64 x] w (Ret (.bool (letterI x)) w) := by
  go_enter Tryz.func152, Tryz.ntmps152
  go_wp2
  all_goals
    go_ret
    refine ret_bool ?_
    unfold letterI
    first | (simp_all; done) | (simp_all; omega) | (rw [Bool.eq_iff_iff]; simp; omega)
theorem isDigit_any (x : Int) (w : World) : Calls Tryz.prog 153 #[.int .i64 x] w (Ret (.bool (digI x)) w) := by
  go_enter Tryz.func153, Tryz.ntmps153
  go_wp2
  all_goals
    go_ret
    refine ret_bool ?_
    unfold digI
    first | (simp_all; done) | (simp_all; omega) | (rw [Bool.eq_iff_iff]; simp; omega)
def wordB (b : UInt8) : Bool := wordR b.toNat
def isWordL (l : List UInt8) : Bool := match l with | [] => false | b :: t => decide (l.length ≤ 31) && letterI (b.toNat : Int) && l.all wordB
theorem wordB_high {b : UInt8} (h : 128 ≤ b.toNat) : wordB b = false := by
  cases hb : wordB b with
  | false => rfl
  | true => have := wordR_lt hb; omega
theorem word_high {r : Int} (h : 128 ≤ r) : letterI r = false ∧ digI r = false := by
  unfold letterI digI
  simp only [Bool.or_eq_false_iff, Bool.and_eq_false_iff, decide_eq_false_iff_not, beq_eq_false_iff_ne, ne_eq]
  omega
theorem get_drop {s : ByteArray} {pos : Nat} (h : pos < s.size) : s.data.toList.drop pos = s[pos] :: s.data.toList.drop (pos + 1) := by
  have h2 : pos < s.data.toList.length := by simpa using h
  rw [drop_cons h2]; rfl
set_option maxRecDepth 100000 in
set_option maxHeartbeats 2000000 in
theorem IsWord_any (s : ByteArray) (hs : s.size ≤ maxLen) (w : World) : Calls Tryz.prog 138 #[.string s] w (RetB (.bool (isWordL s.data.toList)) w) := by
  have hlen : s.data.toList.length = s.size := by simp
  have hs9 : (s.size : Int) ≤ 9223372036854775807 := by unfold maxLen at hs; omega
  by_cases h0 : s.size < 1
  · have h0z : (s.size : Int) < 1 := by omega
    have HE : Hid (isWordL s.data.toList = false) := Lib.hid (by
      have : s.data.toList = [] := List.length_eq_zero_iff.1 (by omega)
      rw [this]; rfl)
    clear hs hlen h0
    go_enter Tryz.func138, Tryz.ntmps138
    go_wp2
    go_ret
    exact retB_bool HE.out.symm (Below.refl _ _)
  obtain ⟨b, t, hbt⟩ : ∃ b t, s.data.toList = b :: t := by
    cases h : s.data.toList with
    | nil => rw [h] at hlen; simp at hlen; omega
    | cons b t => exact ⟨b, t, rfl⟩
  by_cases h31 : 31 < s.size
  · have h31z : (31 : Int) < (s.size : Int) := by omega
    have h0z : ¬ (s.size : Int) < 1 := by omega
    have HE : Hid (isWordL s.data.toList = false) := Lib.hid (by
      rw [hbt] at hlen ⊢
      unfold isWordL
      simp only
      rw [decide_eq_false (by omega)]; rfl)
    clear hs hlen h0 h31 hbt
    go_enter Tryz.func138, Tryz.ntmps138
    go_wp2
    go_ret
    exact retB_bool HE.out.symm (Below.refl _ _)
  have h31z : ¬ (31 : Int) < (s.size : Int) := by omega
  have h0z : ¬ (s.size : Int) < 1 := by omega
  have h0s : 0 < s.size := by omega
  have hb0 : s[0] = b := by
    have := get_drop h0s
    rw [List.drop_zero, hbt] at this
    simp only [List.cons.injEq] at this
    exact this.1.symm
  have hE : isWordL s.data.toList = (letterI (b.toNat : Int) && s.data.toList.all wordB) := by
    rw [hbt] at hlen ⊢
    unfold isWordL
    simp only
    rw [decide_eq_true (by omega), Bool.true_and]
  have HE := Lib.hid hE
  have hne : ¬ s.toList = [] := fun h => by
    have := congrArg List.length h
    rw [ByteArray.toList_eq, hlen] at this
    simp only [List.length_nil] at this; omega
  have hne2 : (0 : Int) < (s.size : Int) := by omega
  obtain ⟨B, hB⟩ : ∃ B, B = b.toNat := ⟨_, rfl⟩
  have hBl : B < 256 := by rw [hB]; exact b.toNat_lt
  have hi64 : IntKind.i64.wrap ((s[0].toNat : Nat) : Int) = (B : Int) := by rw [hb0, ← hB, IntKind.wrap_i64]; omega
  have hi64' : IntKind.i64.wrap (B : Int) = (B : Int) := by rw [IntKind.wrap_i64]; omega
  have hB0 : s[0].toNat = B := by rw [hb0, hB]
  have HL := Lib.hid hlen
  rw [← hB] at HE
  clear hs hlen h0 h31 hbt hb0 hE hB hBl
  cases c : letterI (B : Int)
  · rw [c, Bool.false_and] at HE
    go_enter Tryz.func138, Tryz.ntmps138
    go_wp2_with fail
    refine (isLetter_any _ _).mono ?_
    rintro e w' ⟨rfl, rfl⟩
    go_wp2
    go_ret
    exact retB_bool HE.out.symm (Below.refl _ _)
  · rw [c, Bool.true_and] at HE
    go_enter Tryz.func138, Tryz.ntmps138
    go_wp2_with fail
    refine (isLetter_any _ _).mono ?_
    rintro e w' ⟨rfl, rfl⟩
    go_wp2
    clear hne hne2 hi64 hi64' hB0 h0z h31z
    go_loopg [] (s.size) (fun k wl => ∃ pos : Nat, wl = w.iter s pos ∧ Hid (s.data.toList.all wordB = (s.data.toList.drop pos).all wordB) ∧ Hid (k = s.size - pos))
    case atStart => exact ⟨0, rfl, Lib.hid (by rw [List.drop_zero]), Lib.hid rfl⟩
    case round =>
      obtain ⟨pos, rfl, HA, HK⟩ := hrel
      by_cases hp : pos < s.size
      · obtain ⟨x, hx⟩ : ∃ x, x = s[pos] := ⟨_, rfl⟩
        have hd := get_drop hp
        rw [← hx] at hd
        by_cases ha : x.toNat < 128
        · obtain ⟨r, hr⟩ : ∃ r, r = x.toNat := ⟨_, rfl⟩
          have hnx : ∀ ty, (Instr.next (.pointer (some ⟨w.heap.size, 0, none⟩)) true ty).run Tryz.prog (w.iter s pos) = .ok (.tuple #[.bool true, .int .i64 pos, .int .i32 (r : Int)]) (w.iter s (pos + 1)) := fun ty => by
            have := run_next_ascii (P := Tryz.prog) w s pos ty hp (by rw [← hx]; exact ha)
            rw [this, ← hx, hr]
          have hw : IntKind.i64.wrap (r : Int) = r := by rw [IntKind.wrap_i64]; omega
          have HW : Hid (wordB x = (letterI (r : Int) || digI (r : Int))) := Lib.hid (by unfold wordB wordR; rw [hr])
          have HD := Lib.hid hd
          have HP := Lib.hid hp
          clear hx hd ha hr hp
          cases c1 : letterI (r : Int)
          · cases c2 : digI (r : Int)
            · have HF : Hid (s.data.toList.all wordB = false) := Lib.hid (by rw [HA.out, HD.out, List.all_cons, HW.out, c1, c2]; rfl)
              go_wp2_with fail
              refine (isLetter_any _ _).mono ?_
              rintro e w' ⟨rfl, rfl⟩
              go_wp2_with fail
              refine (isDigit_any _ _).mono ?_
              rintro e w' ⟨rfl, rfl⟩
              go_wp2
              go_ret
              exact retB_bool (by rw [HE.out, HF.out]) ((Below.refl _ _).alloc (Nat.le_refl _) _)
            · have HF : Hid (s.data.toList.all wordB = (s.data.toList.drop (pos + 1)).all wordB) := Lib.hid (by rw [HA.out, HD.out, List.all_cons, HW.out, c1, c2]; rfl)
              go_wp2_with fail
              refine (isLetter_any _ _).mono ?_
              rintro e w' ⟨rfl, rfl⟩
              go_wp2_with fail
              refine (isDigit_any _ _).mono ?_
              rintro e w' ⟨rfl, rfl⟩
              go_wp2
              go_roundg (s.size - (pos + 1))
              case measure => have := HP.out; have := HK.out; omega
              case rel => exact ⟨pos + 1, rfl, HF, Lib.hid rfl⟩
          · have HF : Hid (s.data.toList.all wordB = (s.data.toList.drop (pos + 1)).all wordB) := Lib.hid (by rw [HA.out, HD.out, List.all_cons, HW.out, c1]; rfl)
            go_wp2_with fail
            refine (isLetter_any _ _).mono ?_
            rintro e w' ⟨rfl, rfl⟩
            go_wp2
            go_roundg (s.size - (pos + 1))
            case measure => have := HP.out; have := HK.out; omega
            case rel => exact ⟨pos + 1, rfl, HF, Lib.hid rfl⟩
        · have hhi := decode_high s pos hp (by rw [← hx]; omega)
          obtain ⟨r, hr⟩ : ∃ r, r = (Utf8.decode s pos).1 := ⟨_, rfl⟩
          have hrl : r ≤ 1114111 := by rw [hr]; exact Lib.rune_le s pos
          obtain ⟨q, hq⟩ : ∃ q, q = pos + (Utf8.decode s pos).2 := ⟨_, rfl⟩
          have hnx : ∀ ty, (Instr.next (.pointer (some ⟨w.heap.size, 0, none⟩)) true ty).run Tryz.prog (w.iter s pos) = .ok (.tuple #[.bool true, .int .i64 pos, .int .i32 (r : Nat)]) (w.iter s q) := fun ty => by
            have := run_next_any (P := Tryz.prog) w s pos ty hp
            rw [this, hr, hq]
          rw [← hr] at hhi
          have hw : IntKind.i64.wrap (r : Int) = r := by rw [IntKind.wrap_i64]; omega
          have hwh := word_high (r := (r : Int)) (by omega)
          have c1 := hwh.1
          have c2 := hwh.2
          have HF : Hid (s.data.toList.all wordB = false) := Lib.hid (by rw [HA.out, hd, List.all_cons, wordB_high (by omega)]; rfl)
          clear hx hd ha hr hq hhi hrl hwh
          go_wp2_with fail
          refine (isLetter_any _ _).mono ?_
          rintro e w' ⟨rfl, rfl⟩
          go_wp2_with fail
          refine (isDigit_any _ _).mono ?_
          rintro e w' ⟨rfl, rfl⟩
          go_wp2
          go_ret
          exact retB_bool (by rw [HE.out, HF.out]) ((Below.refl _ _).alloc (Nat.le_refl _) _)
      · have hnx : ∀ ty, (Instr.next (.pointer (some ⟨w.heap.size, 0, none⟩)) true ty).run Tryz.prog (w.iter s pos) = _ := fun ty => run_next_end w s pos ty hp
        have HF : Hid (s.data.toList.all wordB = true) := Lib.hid (by
          rw [HA.out, List.drop_eq_nil_of_le (by have := HL.out; omega)]; rfl)
        clear hp
        go_wp2
        go_ret
        exact retB_bool (by rw [HE.out, HF.out]) ((Below.refl _ _).alloc (Nat.le_refl _) _)
-- the references
theorem ba_list (l : List UInt8) : (⟨l.toArray⟩ : ByteArray).toList = l := by
  rw [ByteArray.toList_eq]
theorem KP.trans' {p : Nat} {a b c : World} (h : KP p a b) (k : KP p b c) : KP p a c := h.trans k
abbrev i64ok (k : Int) : Prop := -9223372036854775808 ≤ k ∧ k ≤ 9223372036854775807
theorem KP.below {p B : Nat} {w u u' : World} (h : KP p w u) (hb : Below B u u') (hB : w.heap.size ≤ B) : KP p w u' :=
  ⟨hb.os.trans h.os, hb.tape.trans h.tape, hb.output.trans h.output, Nat.le_trans h.size hb.size, fun k hk hn => (hb.block k (by omega)).trans (h.block k hk hn)⟩
theorem KP.to_below {w u u' : World} {p : Nat} (hw : Below w.heap.size w u) (h : KP p u u') (hp : w.heap.size ≤ p) : Below w.heap.size w u' :=
  hw.trans ⟨h.os, h.tape, h.output, h.size, fun k hk => h.block k (by have := hw.size; omega) (by simp; omega)⟩
theorem set3 {w : World} {X : Nat} {a b c x y z : Value} {T : TypeId} (h : w.heap[X]? = some (.cells #[a, b, c] T (0, 0))) :
    (((w.setCell ⟨X, 0, none⟩ x).setCell ⟨X, 1, none⟩ y).setCell ⟨X, 2, none⟩ z).heap[X]? = some (.cells #[x, y, z] T (0, 0)) := by
  unfold World.setCell
  simp [h, Array.getElem?_modify]
theorem ba_ext {a b : ByteArray} (h : a.data.toList = b.data.toList) : a = b := by
  cases a; cases b
  congr 1
  exact Array.ext' h
def RTab (w : World) : Prop := True
theorem RTab.next {w w' : World} (h : RTab w) (hb : Below w.heap.size w w') : RTab w' := trivial
end Go.Proofs.YtdgfadabaejkhaaGreatDoor
