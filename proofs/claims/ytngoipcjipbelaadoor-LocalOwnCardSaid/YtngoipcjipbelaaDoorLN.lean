/- lex: IsWord; the references' Ints, Same. -/
import Derived.Test.YtngoipcjipbelaaDoorLM
namespace Go.Proofs.YtngoipcjipbelaaDoor
set_option linter.unusedVariables false
set_option linter.unusedSimpArgs false
open Go.ChangeShapes Go.WideShapes Go.Deep Go.RowKit

def wordB (b : UInt8) : Bool := wordR b.toNat
def isWordL (l : List UInt8) : Bool := match l with | [] => false | b :: t => decide (l.length ≤ 31) && letterI (b.toNat : Int) && l.all wordB
theorem wordB_high {b : UInt8} (h : 128 ≤ b.toNat) : wordB b = false := by
  cases hb : wordB b with
  | false => rfl
  | true => have := wordR_lt hb; omega
theorem word_high {r : Int} (h : 128 ≤ r) : letterI r = false ∧ digI r = false := by
  unfold letterI digI
  simp only [Bool.or_eq_false_iff, Bool.and_eq_false_iff, decide_eq_false_iff_not, beq_eq_false_iff_ne, ne_eq]
  omega
theorem get_drop {s : ByteArray} {pos : Nat} (h : pos < s.size) : s.data.toList.drop pos = s[pos] :: s.data.toList.drop (pos + 1) := by
  have h2 : pos < s.data.toList.length := by simpa using h
  rw [drop_cons h2]; rfl
set_option maxRecDepth 100000 in
set_option maxHeartbeats 2000000 in
theorem IsWord_any (s : ByteArray) (hs : s.size ≤ maxLen) (w : World) : Calls Tryd.prog 19 #[.string s] w (RetB (.bool (isWordL s.data.toList)) w) := by
  have hlen : s.data.toList.length = s.size := by simp
  have hs9 : (s.size : Int) ≤ 9223372036854775807 := by unfold maxLen at hs; omega
  by_cases h0 : s.size < 1
  · have h0z : (s.size : Int) < 1 := by omega
    have HE : Hid (isWordL s.data.toList = false) := Lib.hid (by
      have : s.data.toList = [] := List.length_eq_zero_iff.1 (by omega)
      rw [this]; rfl)
    clear hs hlen h0
    go_enter Tryd.func19, Tryd.ntmps19
    go_wp2
    go_ret
    exact retB_bool HE.out.symm (Below.refl _ _)
  obtain ⟨b, t, hbt⟩ : ∃ b t, s.data.toList = b :: t := by
    cases h : s.data.toList with
    | nil => rw [h] at hlen; simp at hlen; omega
    | cons b t => exact ⟨b, t, rfl⟩
  by_cases h31 : 31 < s.size
  · have h31z : (31 : Int) < (s.size : Int) := by omega
    have h0z : ¬ (s.size : Int) < 1 := by omega
    have HE : Hid (isWordL s.data.toList = false) := Lib.hid (by
      rw [hbt] at hlen ⊢
      unfold isWordL
      simp only
      rw [decide_eq_false (by omega)]; rfl)
    clear hs hlen h0 h31 hbt
    go_enter Tryd.func19, Tryd.ntmps19
    go_wp2
    go_ret
    exact retB_bool HE.out.symm (Below.refl _ _)
  have h31z : ¬ (31 : Int) < (s.size : Int) := by omega
  have h0z : ¬ (s.size : Int) < 1 := by omega
  have h0s : 0 < s.size := by omega
  have hb0 : s[0] = b := by
    have := get_drop h0s
    rw [List.drop_zero, hbt] at this
    simp only [List.cons.injEq] at this
    exact this.1.symm
  have hE : isWordL s.data.toList = (letterI (b.toNat : Int) && s.data.toList.all wordB) := by
    rw [hbt] at hlen ⊢
    unfold isWordL
    simp only
    rw [decide_eq_true (by omega), Bool.true_and]
  have HE := Lib.hid hE
  have hne : ¬ s.toList = [] := fun h => by
    have := congrArg List.length h
    rw [ByteArray.toList_eq, hlen] at this
    simp only [List.length_nil] at this; omega
  have hne2 : (0 : Int) < (s.size : Int) := by omega
  obtain ⟨B, hB⟩ : ∃ B, B = b.toNat := ⟨_, rfl⟩
  have hBl : B < 256 := by rw [hB]; exact b.toNat_lt
  have hi64 : IntKind.i64.wrap ((s[0].toNat : Nat) : Int) = (B : Int) := by rw [hb0, ← hB, IntKind.wrap_i64]; omega
  have hi64' : IntKind.i64.wrap (B : Int) = (B : Int) := by rw [IntKind.wrap_i64]; omega
  have hB0 : s[0].toNat = B := by rw [hb0, hB]
  have HL := Lib.hid hlen
  rw [← hB] at HE
  clear hs hlen h0 h31 hbt hb0 hE hB hBl
  cases c : letterI (B : Int)
  · rw [c, Bool.false_and] at HE
    go_enter Tryd.func19, Tryd.ntmps19
    go_wp2_with fail
    refine (isLetter_any _ _).mono ?_
    rintro e w' ⟨rfl, rfl⟩
    go_wp2
    go_ret
    exact retB_bool HE.out.symm (Below.refl _ _)
  · rw [c, Bool.true_and] at HE
    go_enter Tryd.func19, Tryd.ntmps19
    go_wp2_with fail
    refine (isLetter_any _ _).mono ?_
    rintro e w' ⟨rfl, rfl⟩
    go_wp2
    clear hne hne2 hi64 hi64' hB0 h0z h31z
    go_loopg [] (s.size) (fun k wl => ∃ pos : Nat, wl = w.iter s pos ∧ Hid (s.data.toList.all wordB = (s.data.toList.drop pos).all wordB) ∧ Hid (k = s.size - pos))
    case atStart => exact ⟨0, rfl, Lib.hid (by rw [List.drop_zero]), Lib.hid rfl⟩
    case round =>
      obtain ⟨pos, rfl, HA, HK⟩ := hrel
      by_cases hp : pos < s.size
      · obtain ⟨x, hx⟩ : ∃ x, x = s[pos] := ⟨_, rfl⟩
        have hd := get_drop hp
        rw [← hx] at hd
        by_cases ha : x.toNat < 128
        · obtain ⟨r, hr⟩ : ∃ r, r = x.toNat := ⟨_, rfl⟩
          have hnx : ∀ ty, (Instr.next (.pointer (some ⟨w.heap.size, 0, none⟩)) true ty).run Tryd.prog (w.iter s pos) = .ok (.tuple #[.bool true, .int .i64 pos, .int .i32 (r : Int)]) (w.iter s (pos + 1)) := fun ty => by
            have := run_next_ascii (P := Tryd.prog) w s pos ty hp (by rw [← hx]; exact ha)
            rw [this, ← hx, hr]
          have hw : IntKind.i64.wrap (r : Int) = r := by rw [IntKind.wrap_i64]; omega
          have HW : Hid (wordB x = (letterI (r : Int) || digI (r : Int))) := Lib.hid (by unfold wordB wordR; rw [hr])
          have HD := Lib.hid hd
          have HP := Lib.hid hp
          clear hx hd ha hr hp
          cases c1 : letterI (r : Int)
          · cases c2 : digI (r : Int)
            · have HF : Hid (s.data.toList.all wordB = false) := Lib.hid (by rw [HA.out, HD.out, List.all_cons, HW.out, c1, c2]; rfl)
              go_wp2_with fail
              refine (isLetter_any _ _).mono ?_
              rintro e w' ⟨rfl, rfl⟩
              go_wp2_with fail
              refine (isDigit_any _ _).mono ?_
              rintro e w' ⟨rfl, rfl⟩
              go_wp2
              go_ret
              exact retB_bool (by rw [HE.out, HF.out]) ((Below.refl _ _).alloc (Nat.le_refl _) _)
            · have HF : Hid (s.data.toList.all wordB = (s.data.toList.drop (pos + 1)).all wordB) := Lib.hid (by rw [HA.out, HD.out, List.all_cons, HW.out, c1, c2]; rfl)
              go_wp2_with fail
              refine (isLetter_any _ _).mono ?_
              rintro e w' ⟨rfl, rfl⟩
              go_wp2_with fail
              refine (isDigit_any _ _).mono ?_
              rintro e w' ⟨rfl, rfl⟩
              go_wp2
              go_roundg (s.size - (pos + 1))
              case measure => have := HP.out; have := HK.out; omega
              case rel => exact ⟨pos + 1, rfl, HF, Lib.hid rfl⟩
          · have HF : Hid (s.data.toList.all wordB = (s.data.toList.drop (pos + 1)).all wordB) := Lib.hid (by rw [HA.out, HD.out, List.all_cons, HW.out, c1]; rfl)
            go_wp2_with fail
            refine (isLetter_any _ _).mono ?_
            rintro e w' ⟨rfl, rfl⟩
            go_wp2
            go_roundg (s.size - (pos + 1))
            case measure => have := HP.out; have := HK.out; omega
            case rel => exact ⟨pos + 1, rfl, HF, Lib.hid rfl⟩
        · have hhi := decode_high s pos hp (by rw [← hx]; omega)
          obtain ⟨r, hr⟩ : ∃ r, r = (Utf8.decode s pos).1 := ⟨_, rfl⟩
          have hrl : r ≤ 1114111 := by rw [hr]; exact Lib.rune_le s pos
          obtain ⟨q, hq⟩ : ∃ q, q = pos + (Utf8.decode s pos).2 := ⟨_, rfl⟩
          have hnx : ∀ ty, (Instr.next (.pointer (some ⟨w.heap.size, 0, none⟩)) true ty).run Tryd.prog (w.iter s pos) = .ok (.tuple #[.bool true, .int .i64 pos, .int .i32 (r : Nat)]) (w.iter s q) := fun ty => by
            have := run_next_any (P := Tryd.prog) w s pos ty hp
            rw [this, hr, hq]
          rw [← hr] at hhi
          have hw : IntKind.i64.wrap (r : Int) = r := by rw [IntKind.wrap_i64]; omega
          have hwh := word_high (r := (r : Int)) (by omega)
          have c1 := hwh.1
          have c2 := hwh.2
          have HF : Hid (s.data.toList.all wordB = false) := Lib.hid (by rw [HA.out, hd, List.all_cons, wordB_high (by omega)]; rfl)
          clear hx hd ha hr hq hhi hrl hwh
          go_wp2_with fail
          refine (isLetter_any _ _).mono ?_
          rintro e w' ⟨rfl, rfl⟩
          go_wp2_with fail
          refine (isDigit_any _ _).mono ?_
          rintro e w' ⟨rfl, rfl⟩
          go_wp2
          go_ret
          exact retB_bool (by rw [HE.out, HF.out]) ((Below.refl _ _).alloc (Nat.le_refl _) _)
      · have hnx : ∀ ty, (Instr.next (.pointer (some ⟨w.heap.size, 0, none⟩)) true ty).run Tryd.prog (w.iter s pos) = _ := fun ty => run_next_end w s pos ty hp
        have HF : Hid (s.data.toList.all wordB = true) := Lib.hid (by
          rw [HA.out, List.drop_eq_nil_of_le (by have := HL.out; omega)]; rfl)
        clear hp
        go_wp2
        go_ret
        exact retB_bool (by rw [HE.out, HF.out]) ((Below.refl _ _).alloc (Nat.le_refl _) _)
-- the references
theorem ints_no (a a' : Option Addr) (n n' c c' : Nat) (w : World) (hne : n ≠ n') (hn : n ≤ 1000000) (hn' : n' ≤ 1000000) :
    Calls Tryd.prog 39 #[.slice a n c, .slice a' n' c'] w (RetB (.bool false) w) := by
  have hb : ((n : Int) != n') = true := by rw [bne_iff_ne]; omega
  have HN := Lib.hid hne
  clear hne
  go_enter Tryd.func39, Tryd.ntmps39
  go_wp2
  go_ret
  exact retB_bool rfl (Below.refl _ _)
set_option maxHeartbeats 800000 in
theorem ints_yes (a a' : Option Addr) (n c c' : Nat) (l l' : List Nat) (w : World) (hn : n ≤ 1000000) (h : SL runC 1 w w.heap.size a n l) (h' : SL runC 1 w w.heap.size a' n l') :
    Calls Tryd.prog 39 #[.slice a n c, .slice a' n c'] w (RetB (.bool (decide (l = l'))) w) := by
  have hl := Lib.hid h.len
  have hl' := Lib.hid h'.len
  go_enter Tryd.func39, Tryd.ntmps39
  go_wp2
  go_loopw [5] (fun i wr => ∃ k : Nat, k ≤ n ∧ i = .int .i64 k ∧ l.take k = l'.take k ∧ Below w.heap.size w wr) (fun i _ => n - (intOf i).toNat)
  case atStart => exact ⟨0, by omega, rfl, rfl, Below.refl _ _⟩
  case round =>
    obtain ⟨k, hk, rfl, htk, hb⟩ := hrel
    have HT := Lib.hid htk
    clear htk
    by_cases hlt : k < n
    · have hk1 : k < l.length := by have := hl.out; omega
      have hk2 : k < l'.length := by have := hl'.out; omega
      obtain ⟨b, off, rfl, hB, hc⟩ := (h.below hb).cells (h.ne hlt)
      obtain ⟨b', off', rfl, hB', hc'⟩ := (h'.below hb).cells (h'.ne hlt)
      have c0 := hc k hk1 0 (by omega)
      have d0 := hc' k hk2 0 (by omega)
      obtain ⟨x, hx⟩ : ∃ x, x = l[k] := ⟨_, rfl⟩
      obtain ⟨y, hy⟩ : ∃ y, y = l'[k] := ⟨_, rfl⟩
      rw [← hx] at c0
      rw [← hy] at d0
      simp only [runC, Nat.add_zero, Nat.mul_one, List.getElem?_cons_zero] at c0 d0
      have HX := Lib.hid hx
      have HY := Lib.hid hy
      clear hc hc' h h' hx hy
      by_cases e : x = y
      · have hb2 : ((x : Int) != y) = false := by simp [e]
        have HE := Lib.hid e
        clear e
        go_wp2
        go_quiet (fail)
        go_wp2
        go_roundw
        case rel =>
          refine ⟨k + 1, by omega, by go_num, ?_, below_drewN hb _⟩
          rw [List.take_succ_eq_append_getElem hk1, List.take_succ_eq_append_getElem hk2, HT.out, ← HX.out, ← HY.out, HE.out]
        case measure => simp [intOf]; omega
      · have hb2 : ((x : Int) != y) = true := by rw [bne_iff_ne]; omega
        have HE := Lib.hid e
        clear e
        go_wp2
        go_quiet (fail)
        go_wp2
        go_ret
        refine retB_bool ?_ (below_drewN hb _)
        symm; rw [decide_eq_false_iff_not]
        intro hh
        subst hh
        exact HE.out (HX.out.trans HY.out.symm)
    · go_wp2
      go_ret
      refine retB_bool ?_ hb
      symm; rw [decide_eq_true_eq]
      have := HT.out
      rwa [List.take_of_length_le (by have := hl.out; omega), List.take_of_length_le (by have := hl'.out; omega)] at this
theorem Ints_any (a a' : Option Addr) (n n' c c' : Nat) (l l' : List Nat) (w : World) (hn : n ≤ 1000000) (hn' : n' ≤ 1000000) (h : SL runC 1 w w.heap.size a n l) (h' : SL runC 1 w w.heap.size a' n' l') :
    Calls Tryd.prog 39 #[.slice a n c, .slice a' n' c'] w (RetB (.bool (decide (l = l'))) w) := by
  by_cases e : n = n'
  · subst e
    exact ints_yes a a' n c c' l l' w hn h h'
  · have : decide (l = l') = false := by
      rw [decide_eq_false_iff_not]
      intro hh; subst hh; exact e (h.len.trans h'.len.symm)
    rw [this]
    exact ints_no a a' n n' c c' w e hn hn'
abbrev tkV (t : Tk) : Value := .agg #[.int .i64 (t.kind : Int), .string ⟨t.text.toArray⟩, .int .u64 (t.v : Int)]
def sameT (x y : Tk) : Bool := x.kind == y.kind && (x.text == y.text && x.v == y.v)
theorem sameT_iff {x y : Tk} : sameT x y = true ↔ x = y := by
  cases x; cases y
  simp [sameT, Tk.mk.injEq]
theorem ba_list (l : List UInt8) : (⟨l.toArray⟩ : ByteArray).toList = l := by
  rw [ByteArray.toList_eq]
theorem neq_tok (x y : Tk) : ∀ w, (Sem.run Tryd.prog (binOp BinOp.neq 31 (tkV x) (tkV y)) w) = Result.ok (.bool (!sameT x y)) w := by
  intro w
  obtain ⟨k, t, v⟩ := x
  obtain ⟨k', t', v'⟩ := y
  simp [go_sem, sameT]
  repeat' split
  all_goals first | (simp_all; done) | (simp_all; omega)
theorem eql_tok (x y : Tk) : ∀ w, (Sem.run Tryd.prog (binOp BinOp.eql 31 (tkV x) (tkV y)) w) = Result.ok (.bool (sameT x y)) w := by
  intro w
  obtain ⟨k, t, v⟩ := x
  obtain ⟨k', t', v'⟩ := y
  simp [go_sem, sameT]
  repeat' split
  all_goals first | (simp_all; done) | (simp_all; omega)
theorem same_no (a a' : Option Addr) (n n' c c' : Nat) (w : World) (hne : n ≠ n') (hn : n ≤ 1000000) (hn' : n' ≤ 1000000) :
    Calls Tryd.prog 17 #[.slice a n c, .slice a' n' c'] w (RetB (.bool false) w) := by
  have hb : ((n : Int) != n') = true := by rw [bne_iff_ne]; omega
  have HN := Lib.hid hne
  clear hne
  go_enter Tryd.func17, Tryd.ntmps17
  go_wp2
  go_ret
  exact retB_bool rfl (Below.refl _ _)
/-- The cells of one token of a row. -/
theorem tk_cells {w : World} {b off : Nat} {k : Nat} {t : Tk} (hc : ∀ j, j < 3 → w.cell? ⟨b, off + k * 3 + j, none⟩ = (tkC t)[j]?) :
    w.cell? ⟨b, off + k * 3, none⟩ = some (.int .i64 (t.kind : Int)) ∧ w.cell? ⟨b, off + k * 3 + 1, none⟩ = some (.string ⟨t.text.toArray⟩) ∧ w.cell? ⟨b, off + k * 3 + 2, none⟩ = some (.int .u64 (t.v : Int)) :=
  ⟨hc 0 (by omega), hc 1 (by omega), hc 2 (by omega)⟩
set_option maxRecDepth 100000 in
set_option maxHeartbeats 1000000 in
theorem same_yes (a a' : Option Addr) (n c c' : Nat) (l l' : List Tk) (w : World) (hn : n ≤ 1000000) (h : SL tkC 3 w w.heap.size a n l) (h' : SL tkC 3 w w.heap.size a' n l') :
    Calls Tryd.prog 17 #[.slice a n c, .slice a' n c'] w (fun e w' => ∃ r : Bool, e = .returned (.bool r) ∧ (r = true ↔ l = l') ∧ Below w.heap.size w w') := by
  have hl := Lib.hid h.len
  have hl' := Lib.hid h'.len
  go_enter Tryd.func17, Tryd.ntmps17
  go_wp2
  go_loopw [5] (fun i wr => ∃ k : Nat, k ≤ n ∧ i = .int .i64 k ∧ l.take k = l'.take k ∧ Below w.heap.size w wr) (fun i _ => n - (intOf i).toNat)
  case atStart => exact ⟨0, by omega, rfl, rfl, Below.refl _ _⟩
  case round =>
    obtain ⟨k, hk, rfl, htk, hb⟩ := hrel
    have HT := Lib.hid htk
    clear htk
    by_cases hlt : k < n
    · have hk1 : k < l.length := by have := hl.out; omega
      have hk2 : k < l'.length := by have := hl'.out; omega
      obtain ⟨b, off, rfl, hB, hc⟩ := (h.below hb).cells (h.ne hlt)
      obtain ⟨b', off', rfl, hB', hc'⟩ := (h'.below hb).cells (h'.ne hlt)
      obtain ⟨c0, c1, c2⟩ := tk_cells (fun j hj => hc k hk1 j hj)
      obtain ⟨d0, d1, d2⟩ := tk_cells (fun j hj => hc' k hk2 j hj)
      obtain ⟨x, hx⟩ : ∃ x, x = l[k] := ⟨_, rfl⟩
      obtain ⟨y, hy⟩ : ∃ y, y = l'[k] := ⟨_, rfl⟩
      rw [← hx] at c0 c1 c2
      rw [← hy] at d0 d1 d2
      have HX := Lib.hid hx
      have HY := Lib.hid hy
      have hnq := neq_tok x y
      clear hc hc' h h' hx hy
      cases e : sameT x y
      · have HE : Hid (x ≠ y) := Lib.hid (fun hh => by rw [sameT_iff.2 hh] at e; cases e)
        rw [e] at hnq
        clear e
        go_wp2
        go_quiet (fail)
        go_wp2
        go_ret
        refine ⟨false, rfl, ?_, below_drewN hb _⟩
        constructor
        · intro h; cases h
        · intro hh
          subst hh
          exact (HE.out (HX.out.trans HY.out.symm)).elim
      · have HE : Hid (x = y) := Lib.hid (sameT_iff.1 e)
        rw [e] at hnq
        clear e
        go_wp2
        go_quiet (fail)
        go_wp2
        go_roundw
        case rel =>
          refine ⟨k + 1, by omega, by go_num, ?_, below_drewN hb _⟩
          rw [List.take_succ_eq_append_getElem hk1, List.take_succ_eq_append_getElem hk2, HT.out, ← HX.out, ← HY.out, HE.out]
        case measure => simp [intOf]; omega
    · go_wp2
      go_ret
      refine ⟨true, rfl, ⟨fun _ => ?_, fun _ => rfl⟩, hb⟩
      have := HT.out
      rwa [List.take_of_length_le (by have := hl.out; omega), List.take_of_length_le (by have := hl'.out; omega)] at this
/-- Same answers whether the rows are one. -/
theorem Same_any (a a' : Option Addr) (n n' c c' : Nat) (l l' : List Tk) (w : World) (hn : n ≤ 1000000) (hn' : n' ≤ 1000000) (h : SL tkC 3 w w.heap.size a n l) (h' : SL tkC 3 w w.heap.size a' n' l') :
    Calls Tryd.prog 17 #[.slice a n c, .slice a' n' c'] w (fun e w' => ∃ r : Bool, e = .returned (.bool r) ∧ (r = true ↔ l = l') ∧ Below w.heap.size w w') := by
  by_cases e : n = n'
  · subst e
    exact same_yes a a' n c c' l l' w hn h h'
  · refine (same_no a a' n n' c c' w e hn hn').mono ?_
    rintro e' w' ⟨rfl, hb⟩
    exact ⟨false, rfl, ⟨fun h => (by cases h), fun hh => (by subst hh; exact (e (h.len.trans h'.len.symm)).elim)⟩, hb⟩
theorem Same_is (a a' : Option Addr) (n n' c c' : Nat) (l : List Tk) (w : World) (hn : n ≤ 1000000) (hn' : n' ≤ 1000000) (h : SL tkC 3 w w.heap.size a n l) (h' : SL tkC 3 w w.heap.size a' n' l) :
    Calls Tryd.prog 17 #[.slice a n c, .slice a' n' c'] w (RetB (.bool true) w) := by
  refine (Same_any a a' n n' c c' l l w hn hn' h h').mono ?_
  rintro e w' ⟨r, rfl, hr, hb⟩
  exact ⟨by rw [hr.2 rfl], hb⟩
end Go.Proofs.YtngoipcjipbelaaDoor
