/- local: marks: Is and Find; Text. local: Find. local's law: labeled. local's laws: LocalText, LocalNear; marks as an argument. -/
import Derived.Test.YtngoipcjipbelaaDoorOC
import Derived.Scope
import Derived.Test.YtngoipcjipbelaaDoorYB
namespace Go.Proofs.YtngoipcjipbelaaDoor
set_option linter.unusedVariables false
set_option linter.unusedSimpArgs false
open Go.RowKit
open Go.ChangeShapes Go.WideShapes Go.Deep Go.RowKit

structure Mk where
  no : Int
  line : Int
  sec : Int
  off : Int
def mkC (m : Mk) : List Value := [.int .i64 m.no, .int .i64 m.line, .int .i64 m.sec, .int .i64 m.off]
theorem mk_len (m : Mk) : (mkC m).length = 4 := rfl
theorem mk_cells {w : World} {b off : Nat} {k : Nat} {t : Mk} (hc : ∀ j, j < 4 → w.cell? ⟨b, off + k * 4 + j, none⟩ = (mkC t)[j]?) :
    w.cell? ⟨b, off + k * 4, none⟩ = some (.int .i64 t.no) ∧ w.cell? ⟨b, off + k * 4 + 1, none⟩ = some (.int .i64 t.line) ∧ w.cell? ⟨b, off + k * 4 + 2, none⟩ = some (.int .i64 t.sec) ∧ w.cell? ⟨b, off + k * 4 + 3, none⟩ = some (.int .i64 t.off) :=
  ⟨hc 0 (by omega), hc 1 (by omega), hc 2 (by omega), hc 3 (by omega)⟩
def badM (ln : Int) (m : Mk) : Prop := m.no < 0 ∨ 9999 < m.no ∨ m.line < ln ∨ m.sec < 0 ∨ m.off < 0
instance (ln : Int) (m : Mk) : Decidable (badM ln m) := by unfold badM; infer_instance
def isM : Int → List Mk → Bool
  | _, [] => true
  | ln, m :: t => if badM ln m then false else isM m.line t
/-- The nearest mark of a number, from the k-th one on, where r has been found. -/
def findN (no : Int) (up : Bool) (line : Int) : Nat → List Mk → Nat × Bool → Nat × Bool
  | _, [], r => r
  | k, m :: t, r => if line < m.line ∧ up = false then r else if m.no ≠ no ∨ (m.line ≤ line ∧ up = true) then findN no up line (k + 1) t r else if up = true then (k, true) else findN no up line (k + 1) t (k, true)
def findM (l : List Mk) (no : Int) (up : Bool) (line : Int) : Nat × Bool := if isM 1 l = true then findN no up line 0 l (0, false) else (0, false)
set_option maxRecDepth 100000 in
set_option maxHeartbeats 4000000 in
theorem MarksIs_any {w : World} {a : Option Addr} {n c : Nat} {l : List Mk} (h : SL mkC 4 w w.heap.size a n l) (hn : n ≤ 1000000) :
    Calls Tryd.prog 33 #[.slice a n c] w (RetB (.bool (isM 1 l)) w) := by
  have HS := Lib.hid h
  have hl := Lib.hid h.len
  go_enter Tryd.func33, Tryd.ntmps33
  go_wp2_with fail
  go_loopg [3, 8] (n) (fun g lv iv wl => ∃ (k : Nat) (ln : Int) (u : World), lv = .int .i64 ln ∧ iv = .int .i64 (k : Int) ∧ u = wl ∧ k ≤ n ∧ Hid (isM 1 l = isM ln (l.drop k)) ∧ Hid (g = n - k) ∧ Hid (Below w.heap.size w u))
  case atStart => exact ⟨0, 1, _, rfl, rfl, rfl, by omega, Lib.hid (by rw [List.drop_zero]), Lib.hid rfl, Lib.hid (Below.refl _ _)⟩
  case round =>
    obtain ⟨k, ln, u, rfl, rfl, rfl, hk, HA, HG, HB⟩ := hrel
    by_cases hlt : k < n
    · have hkl : k < l.length := by rw [← hl.out]; exact hlt
      obtain ⟨b, off, rfl, hB, hc⟩ := (HS.out.below HB.out).cells (HS.out.ne (k := k) hlt)
      obtain ⟨d0, d1, d2, d3⟩ := mk_cells (fun j hj => hc k hkl j hj)
      have HD := Lib.hid (drop_cons hkl)
      generalize l[k] = m at *
      have hki : (k : Int) < (n : Int) := by omega
      have hk0 : (0 : Int) ≤ (k : Int) := by omega
      have HX : Hid (isM 1 l = if badM ln m then false else isM m.line (l.drop (k + 1))) := Lib.hid (by rw [HA.out, HD.out]; rfl)
      clear hc hB hkl
      have HBA : ∀ o, Hid (Below w.heap.size w (u.alloc o)) := fun o => Lib.hid (HB.out.alloc HB.out.size o)
      by_cases c0 : m.no < 0
      · have HF : Hid (isM 1 l = false) := Lib.hid (by rw [HX.out, if_pos (.inl c0)])
        go_wp2
        go_ret
        exact retB_bool HF.out.symm (HBA _).out
      by_cases c1 : 9999 < m.no
      · have HF : Hid (isM 1 l = false) := Lib.hid (by rw [HX.out, if_pos (.inr (.inl c1))])
        go_wp2
        go_ret
        exact retB_bool HF.out.symm (HBA _).out
      by_cases c2 : m.line < ln
      · have HF : Hid (isM 1 l = false) := Lib.hid (by rw [HX.out, if_pos (.inr (.inr (.inl c2)))])
        go_wp2
        go_ret
        exact retB_bool HF.out.symm (HBA _).out
      by_cases c3 : m.sec < 0
      · have HF : Hid (isM 1 l = false) := Lib.hid (by rw [HX.out, if_pos (.inr (.inr (.inr (.inl c3))))])
        go_wp2
        go_ret
        exact retB_bool HF.out.symm (HBA _).out
      by_cases c4 : m.off < 0
      · have HF : Hid (isM 1 l = false) := Lib.hid (by rw [HX.out, if_pos (.inr (.inr (.inr (.inr c4))))])
        go_wp2
        go_ret
        exact retB_bool HF.out.symm (HBA _).out
      have HF : Hid (isM 1 l = isM m.line (l.drop (k + 1))) := Lib.hid (by rw [HX.out, if_neg (by rintro (h | h | h | h | h) <;> contradiction)])
      go_wp2
      go_roundg (n - (k + 1))
      case measure => have := HG.out; omega
      case rel => exact ⟨k + 1, m.line, _, rfl, by go_num, rfl, by omega, HF, Lib.hid rfl, HBA _⟩
    · have HF : Hid (isM 1 l = true) := Lib.hid (by rw [HA.out, List.drop_eq_nil_of_le (by have := hl.out; omega)]; rfl)
      have HQ := HB.out
      go_wp2
      go_ret
      exact retB_bool HF.out.symm HB.out
theorem nDigits_four {u : Nat} (h : u ≤ 9999) : Lib.nDigits u ≤ 4 := by
  by_cases a : u < 10
  · rw [Lib.nDigits_small a]; omega
  rw [Lib.nDigits_big a]
  by_cases b : u / 10 < 10
  · rw [Lib.nDigits_small b]; omega
  rw [Lib.nDigits_big b]
  by_cases c : u / 10 / 10 < 10
  · rw [Lib.nDigits_small c]; omega
  rw [Lib.nDigits_big c, Lib.nDigits_small (by omega)]
  omega
def sideB (up : Bool) : UInt8 := if up = true then 102 else 98
/-- A local label's name. -/
def lTextL (no : Int) (up : Bool) : List UInt8 × Int := if no < 0 ∨ 9999 < no then ([], 1) else (Lib.decDigits no.toNat ++ [sideB up], 0)
set_option maxRecDepth 100000 in
set_option maxHeartbeats 4000000 in
theorem LText_any (no : Int) (hn : i64ok no) (up : Bool) (w : World) (hT : TabO w) :
    Calls Tryd.prog 34 #[.int .i64 no, .bool up] w (RetB (.tuple #[.string ⟨(lTextL no up).1.toArray⟩, .int .i64 (lTextL no up).2]) w) := by
  by_cases c0 : no < 0
  · have HR : Hid (lTextL no up = ([], 1)) := Lib.hid (by unfold lTextL; rw [if_pos (.inl c0)])
    clear hT hn
    go_enter Tryd.func34, Tryd.ntmps34
    go_wp2
    go_ret2
    exact ⟨by rw [HR.out]; rfl, Below.refl _ _⟩
  by_cases c1 : 9999 < no
  · have HR : Hid (lTextL no up = ([], 1)) := Lib.hid (by unfold lTextL; rw [if_pos (.inr c1)])
    clear hT hn
    go_enter Tryd.func34, Tryd.ntmps34
    go_wp2
    go_ret2
    exact ⟨by rw [HR.out]; rfl, Below.refl _ _⟩
  have HR : Hid (lTextL no up = (Lib.decDigits no.toNat ++ [sideB up], 0)) := Lib.hid (by unfold lTextL; rw [if_neg (by rintro (h | h) <;> contradiction)])
  have hI := Tryd.strconv_Itoa no hn.1 hn.2 w hT.2.1
  have hd : Lib.itoa no = Lib.decDigits no.toNat := by unfold Lib.itoa; rw [if_neg c0]
  rw [hd] at hI
  have hL : (Lib.decDigits no.toNat).length ≤ 4 := by
    rw [Lib.decDigits_length]
    exact nDigits_four (by omega)
  obtain ⟨T, hTT⟩ : ∃ T : ByteArray, T = ⟨(Lib.decDigits no.toNat).toArray⟩ := ⟨_, rfl⟩
  have hT4 : T.size ≤ 4 := by rw [hTT]; exact hL
  rw [← hTT] at hI
  have HI := Lib.hid hI
  have HTT := Lib.hid hTT
  have hsum : (T.size : Int) + 1 ≤ 9223372036854775807 := by omega
  clear hI hd hT hn hL hTT
  cases up
  all_goals
    go_enter Tryd.func34, Tryd.ntmps34
    go_wp2_with fail
    refine HI.out.mono ?_
    rintro e u ⟨rfl, k, os, eo⟩
    have HB : Hid (Below w.heap.size w u) := Lib.hid (by rw [eo]; exact Lib.below_grow _ w (Nat.le_refl _) k os)
    clear eo
    go_wp2
    go_ret2
    refine ⟨?_, HB.out⟩
    rw [HR.out, HTT.out]
    rfl
theorem labV_append : ∀ (a b : List UInt8) (n : Nat), labV (a ++ b) n = match labV a n with | none => none | some m => labV b m
  | [], b, n => rfl
  | c :: t, b, n => by
    rw [List.cons_append, labV, labV]
    by_cases h : isDg c = true
    · rw [if_pos h, if_pos h]; exact labV_append t b _
    · rw [if_neg h, if_neg h]
theorem dig_dg {d : Nat} (h : d < 10) : isDg (UInt8.ofNat (48 + d)) = true ∧ (UInt8.ofNat (48 + d)).toNat - 48 = d := by
  have : (UInt8.ofNat (48 + d)).toNat = 48 + d := by rw [UInt8.toNat_ofNat']; omega
  unfold isDg
  rw [this]
  refine ⟨?_, by omega⟩
  simp only [Bool.and_eq_true, decide_eq_true_eq]; omega
theorem labV_dec : ∀ (n u : Nat), u ≤ n → labV (Lib.decDigits u) 0 = some u
  | 0, u, h => by obtain rfl : u = 0 := by omega
                  rw [Lib.decDigits_one (by decide)]; rfl
  | n + 1, u, h => by
    by_cases c : u < 10
    · rw [Lib.decDigits_one c, labV, if_pos (dig_dg c).1, (dig_dg c).2, labV]; simp
    · rw [Lib.decDigits, dif_neg c, labV_append, labV_dec n (u / 10) (by omega)]
      have := dig_dg (d := u % 10) (by omega)
      simp only []
      rw [labV, if_pos this.1, this.2, labV]
      congr 1; omega
theorem dec_head (u : Nat) : ∃ c t, Lib.decDigits u = c :: t ∧ isDg c = true := by
  have h := labV_dec u u (Nat.le_refl _)
  cases hd : Lib.decDigits u with
  | nil =>
    have := Lib.decDigits_length u
    rw [hd] at this
    have h1 := Lib.nDigits_pos u
    simp at this; omega
  | cons c t =>
    refine ⟨c, t, rfl, ?_⟩
    rw [hd, labV] at h
    by_cases k : isDg c = true
    · exact k
    · rw [if_neg k] at h; cases h
theorem label_text {no : Int} {up : Bool} (h : (lTextL no up).2 = 0) : labelL (lTextL no up).1 = some (no.toNat, up) ∧ 0 ≤ no := by
  unfold lTextL at *
  split at h
  · cases h
  · rename_i c
    have c0 : ¬ no < 0 := fun h => c (.inl h)
    have c1 : ¬ 9999 < no := fun h => c (.inr h)
    rw [if_neg c]
    refine ⟨?_, by omega⟩
    have hL : (Lib.decDigits no.toNat).length ≤ 4 := by rw [Lib.decDigits_length]; exact nDigits_four (by omega)
    have hP : 1 ≤ (Lib.decDigits no.toNat).length := by rw [Lib.decDigits_length]; exact Lib.nDigits_pos _
    unfold labelL
    rw [if_neg (by rw [List.length_append, List.length_singleton]; omega), List.getLast?_append]
    simp only [List.getLast?_singleton, Option.some_or, List.dropLast_concat]
    rw [labV_dec no.toNat no.toNat (Nat.le_refl _)]
    cases up <;> simp [sideB]
theorem text_noname {no : Int} {up : Bool} (h : (lTextL no up).2 = 0) : isNmL (lTextL no up).1 = false := by
  unfold lTextL at *
  split at h
  · cases h
  · rename_i c
    rw [if_neg c]
    obtain ⟨d, t, hd, hdg⟩ := dec_head no.toNat
    rw [hd]
    unfold isNmL isWordL
    have : letterI (d.toNat : Int) = false := by
      unfold isDg at hdg
      simp only [Bool.and_eq_true, decide_eq_true_eq] at hdg
      unfold letterI
      simp only [Bool.or_eq_false_iff, Bool.and_eq_false_iff, decide_eq_false_iff_not, beq_eq_false_iff_ne, ne_eq]
      omega
    simp only [List.cons_append, this, Bool.and_false, Bool.false_and]
open Go.ChangeShapes Go.WideShapes Go.Deep Go.RowKit

set_option maxRecDepth 100000 in
set_option maxHeartbeats 4000000 in
theorem Find_any {w : World} {a : Option Addr} {n c : Nat} {l : List Mk} (h : SL mkC 4 w w.heap.size a n l) (hn : n ≤ 1000000) (no : Int) (up : Bool) (line : Int) :
    Calls Tryd.prog 32 #[.slice a n c, .int .i64 no, .bool up, .int .i64 line] w (RetB (.tuple #[.int .i64 ((findM l no up line).1 : Nat), .bool (findM l no up line).2]) w) := by
  have HI := Lib.hid (MarksIs_any (c := c) h hn)
  have HS := Lib.hid h
  have hl := Lib.hid h.len
  have HF0 : Hid (findM l no up line = if isM 1 l = true then findN no up line 0 l (0, false) else (0, false)) := Lib.hid rfl
  generalize isM 1 l = b at HI HF0
  clear h
  cases b
  · go_enter Tryd.func32, Tryd.ntmps32
    go_wp2_with fail
    refine wp_scope_straight ?_
    go_wp2_with fail
    refine HI.out.mono ?_
    rintro e u ⟨rfl, hb⟩
    have HB := Lib.hid hb
    clear hb
    go_wp2
    go_ret2
    exact ⟨by rw [HF0.out]; rfl, HB.out⟩
  · go_enter Tryd.func32, Tryd.ntmps32
    go_wp2_with fail
    refine wp_scope_straight ?_
    go_wp2_with fail
    refine HI.out.mono ?_
    rintro e u ⟨rfl, hb⟩
    have HB := Lib.hid hb
    have HS1 := Lib.hid (HS.out.below hb)
    clear hb
    go_wp2_with fail
    refine wp_label ?_
    go_wp2_with fail
    have HFR : Hid (findM l no up line = findN no up line 0 l (0, false)) := Lib.hid (by rw [HF0.out]; rfl)
    go_loopg [10, 11, 19] (n) (fun g fv ov iv wl => ∃ (k f : Nat) (ok : Bool) (u' : World), fv = .int .i64 (f : Int) ∧ ov = .bool ok ∧ iv = .int .i64 (k : Int) ∧ u' = wl ∧ k ≤ n ∧ Hid (findM l no up line = findN no up line k (l.drop k) (f, ok)) ∧ Hid (g = n - k) ∧ Hid (Below w.heap.size w u'))
    case atStart => exact ⟨0, 0, false, _, rfl, rfl, rfl, rfl, by omega, Lib.hid (by rw [List.drop_zero]; exact HFR.out), Lib.hid rfl, HB⟩
    case round =>
      obtain ⟨k, f, ok, u', rfl, rfl, rfl, rfl, hk, HA, HG, HB'⟩ := hrel
      by_cases hlt : k < n
      · have hkl : k < l.length := by rw [← hl.out]; exact hlt
        obtain ⟨b, off, rfl, hB, hc⟩ := (HS.out.below HB'.out).cells (HS.out.ne (k := k) hlt)
        obtain ⟨d0, d1, d2, d3⟩ := mk_cells (fun j hj => hc k hkl j hj)
        have HD := Lib.hid (drop_cons hkl)
        generalize l[k] = m at *
        have hki : (k : Int) < (n : Int) := by omega
        have hk0 : (0 : Int) ≤ (k : Int) := by omega
        have HX : Hid (findM l no up line = if line < m.line ∧ up = false then (f, ok) else if m.no ≠ no ∨ (m.line ≤ line ∧ up = true) then findN no up line (k + 1) (l.drop (k + 1)) (f, ok) else if up = true then (k, true) else findN no up line (k + 1) (l.drop (k + 1)) (k, true)) := Lib.hid (by rw [HA.out, HD.out]; rfl)
        clear hc hB hkl
        have HBA : ∀ o, Hid (Below w.heap.size w (u'.alloc o)) := fun o => Lib.hid (HB'.out.alloc HB'.out.size o)
        by_cases c1 : line < m.line
        · have c1' : ¬ m.line ≤ line := by omega
          cases up
          · have HF : Hid (findM l no false line = (f, ok)) := Lib.hid (by rw [HX.out, if_pos ⟨c1, rfl⟩])
            go_wp2
            go_ret2
            exact ⟨by rw [HF.out]; rfl, (HBA _).out⟩
          · by_cases c2 : m.no = no
            · have r2 : (m.no != no) = false := by rw [c2]; simp
              have HF : Hid (findM l no true line = (k, true)) := Lib.hid (by rw [HX.out, if_neg (by rintro ⟨-, h⟩; cases h), if_neg (by rintro (h | ⟨h, -⟩) <;> contradiction), if_pos rfl])
              clear c2
              go_wp2
              go_ret2
              exact ⟨by rw [HF.out]; rfl, (HBA _).out⟩
            · have r2 : (m.no != no) = true := by rw [bne_iff_ne]; exact c2
              have HF : Hid (findM l no true line = findN no true line (k + 1) (l.drop (k + 1)) (f, ok)) := Lib.hid (by rw [HX.out, if_neg (by rintro ⟨-, h⟩; cases h), if_pos (.inl c2)])
              clear c2
              go_wp2
              go_roundg (n - (k + 1))
              case measure => have := HG.out; omega
              case rel => exact ⟨k + 1, f, ok, _, rfl, rfl, by go_num, rfl, by omega, HF, Lib.hid rfl, HBA _⟩
        · have c1' : m.line ≤ line := by omega
          by_cases c2 : m.no = no
          · have r2 : (m.no != no) = false := by rw [c2]; simp
            cases up
            · have HF : Hid (findM l no false line = findN no false line (k + 1) (l.drop (k + 1)) (k, true)) := Lib.hid (by rw [HX.out, if_neg (by rintro ⟨h, -⟩; contradiction), if_neg (by rintro (h | ⟨-, h⟩); exact h c2; cases h), if_neg (by decide)])
              clear c2
              go_wp2
              go_roundg (n - (k + 1))
              case measure => have := HG.out; omega
              case rel => exact ⟨k + 1, k, true, _, rfl, rfl, by go_num, rfl, by omega, HF, Lib.hid rfl, HBA _⟩
            · have HF : Hid (findM l no true line = findN no true line (k + 1) (l.drop (k + 1)) (f, ok)) := Lib.hid (by rw [HX.out, if_neg (by rintro ⟨-, h⟩; cases h), if_pos (.inr ⟨c1', rfl⟩)])
              clear c2
              go_wp2
              go_roundg (n - (k + 1))
              case measure => have := HG.out; omega
              case rel => exact ⟨k + 1, f, ok, _, rfl, rfl, by go_num, rfl, by omega, HF, Lib.hid rfl, HBA _⟩
          · have r2 : (m.no != no) = true := by rw [bne_iff_ne]; exact c2
            have HF : Hid (findM l no up line = findN no up line (k + 1) (l.drop (k + 1)) (f, ok)) := Lib.hid (by rw [HX.out, if_neg (by rintro ⟨h, -⟩; contradiction), if_pos (.inl c2)])
            clear c2
            go_wp2
            go_roundg (n - (k + 1))
            case measure => have := HG.out; omega
            case rel => exact ⟨k + 1, f, ok, _, rfl, rfl, by go_num, rfl, by omega, HF, Lib.hid rfl, HBA _⟩
      · have HF : Hid (findM l no up line = (f, ok)) := Lib.hid (by rw [HA.out, List.drop_eq_nil_of_le (by have := hl.out; omega)]; rfl)
        have HQ := HB'.out
        go_wp2
        go_ret2
        exact ⟨by rw [HF.out]; rfl, HB'.out⟩
open Go.ChangeShapes Go.WideShapes Go.Deep Go.RowKit

def toksOf (l : List UInt8) : Option (List Ti × Bool) := match lineL (l.map (·.toNat)) with | none => none | some ts => some (ts.map toTi, (ts.map toTi).all goodB && decide (ts.length ≤ 1000))
def RetTi (ts : List Ti) (w : World) (e : Ending) (w' : World) : Prop := ∃ a c, e = .returned (.tuple #[.slice a ts.length c, .int .i64 0]) ∧ SL tiC 3 w' w'.heap.size a ts.length ts ∧ (a = none → ts.length = 0 ∧ c = 0) ∧ ts.length ≤ c ∧ Below w.heap.size w w'
theorem toks_is {l : List UInt8} {ts : List Ti} (h : toksOf l = some (ts, true)) (hl : l.length ≤ 200) (hlow : (l.all fun b => decide (b.toNat < 128)) = true) (w : World) (hT : TabO w) :
    Calls Tryd.prog 16 #[.string ⟨l.toArray⟩] w (RetTi ts w) := by
  unfold toksOf at h
  cases hL : lineL (l.map (·.toNat)) with
  | none => rw [hL] at h; cases h
  | some tk =>
    rw [hL] at h
    simp only [Option.some.injEq, Prod.mk.injEq] at h
    obtain ⟨rfl, -⟩ := h
    have hu : U (⟨l.toArray⟩ : ByteArray).data.toList (l.map (·.toNat)) := U_low (by simp) hlow
    refine (Line_is ⟨l.toArray⟩ (by show l.toArray.size ≤ 200; simpa using hl) hu hL w hT.1).mono ?_
    rintro e w' ⟨a, c, rfl, hs, hz, hb⟩
    rw [← List.length_map (f := toTi)] at hz
    refine ⟨a, c, by rw [List.length_map], ?_, hz.1, hz.2, hb⟩
    rw [List.length_map]; exact sl_ti hs
theorem toks_good {l : List UInt8} {ts : List Ti} (h : toksOf l = some (ts, true)) : GoodTs ts := by
  unfold toksOf at h
  cases hL : lineL (l.map (·.toNat)) with
  | none => rw [hL] at h; cases h
  | some tk =>
    rw [hL] at h
    simp only [Option.some.injEq, Prod.mk.injEq, Bool.and_eq_true, List.all_eq_true] at h
    obtain ⟨rfl, h2, -⟩ := h
    exact fun t ht => good_of (h2 t ht)
abbrev lb1 : List UInt8 := [49, 58, 32, 97, 58, 32, 98, 32, 49, 98]
abbrev lb2 : List UInt8 := [120, 49, 58, 32, 98, 32, 49, 98]
abbrev lt1 : List Ti := [⟨2, [49], 0⟩, ⟨4, [58], 0⟩, ⟨1, [97], 0⟩, ⟨4, [58], 0⟩, ⟨1, [98], 0⟩, ⟨2, [49, 98], 0⟩]
abbrev lt2 : List Ti := [⟨1, [120, 49], 0⟩, ⟨4, [58], 0⟩, ⟨1, [98], 0⟩, ⟨2, [49, 98], 0⟩]
abbrev ll1 : List (List UInt8) := [[49], [97]]
abbrev lr1 : List Ti := [⟨1, [98], 0⟩, ⟨2, [49, 98], 0⟩]
theorem lt1v : toksOf lb1 = some (lt1, true) := by kernel_rfl
theorem lt2v : toksOf lb2 = some (lt2, true) := by kernel_rfl
theorem ls1v : splitL lt1 = some (ll1, lr1) := by kernel_rfl
theorem ls2v : splitL lt2 = none := by kernel_rfl
theorem nm1v : isNmL [109, 97, 105, 110] = true := by kernel_rfl
theorem nm2v : isNmL [115, 112] = false := by kernel_rfl
abbrev lm : List Mk := [⟨7, 2, 0, 0⟩, ⟨7, 5, 0, 0⟩, ⟨7, 9, 0, 0⟩]
theorem lf1v : findM lm 7 true 5 = (2, true) := by decide
theorem lf2v : findM lm 7 false 5 = (1, true) := by decide
theorem lf3v : findM lm 7 false 1 = (0, false) := by decide
theorem ltxv : lTextL 7 true = ([55, 102], 0) := by
  unfold lTextL
  rw [if_neg (by decide), Lib.decDigits_one (by decide)]; rfl
set_option maxRecDepth 100000 in
set_option maxHeartbeats 4000000 in
theorem SSame_eq {w : World} {a a' : Option Addr} {c c' n : Nat} {os : List (List UInt8)} (h1 : SL stC 1 w w.heap.size a n os) (h2 : SL stC 1 w w.heap.size a' n os) (hn : n ≤ 1000000) :
    Calls Tryd.prog 56 #[.slice a n c, .slice a' n c'] w (RetD (.bool true) w) := by
  have H1 := Lib.hid h1
  have H2 := Lib.hid h2
  have HN := Lib.hid h1.len
  clear h1 h2
  go_enter Tryd.func56, Tryd.ntmps56
  go_wp2_with fail
  go_loopw [5] (fun i wr => ∃ k : Nat, k ≤ n ∧ i = .int .i64 k ∧ ∃ z, wr = w.drewN z) (fun i _ => n - (intOf i).toNat)
  case atStart => exact ⟨0, by omega, rfl, 0, rfl⟩
  case round =>
    obtain ⟨k, hk, rfl, z, rfl⟩ := hrel
    by_cases hlt : k < n
    · have hkl : k < os.length := by rw [← HN.out]; exact hlt
      obtain ⟨b, off, rfl, hB, hc⟩ := H1.out.cells (H1.out.ne (k := k) hlt)
      obtain ⟨b', off', rfl, hB', hc'⟩ := H2.out.cells (H2.out.ne (k := k) hlt)
      have d0 := hc k hkl 0 (by omega)
      have e0 := hc' k hkl 0 (by omega)
      generalize os[k] = o at *
      rw [show (stC o)[0]? = some (.string ⟨o.toArray⟩) from rfl] at d0 e0
      rw [Nat.mul_one, Nat.add_zero] at d0 e0
      have hki : (k : Int) < (n : Int) := by omega
      have hk0 : (0 : Int) ≤ (k : Int) := by omega
      clear hc hc' hB hB' hkl
      generalize hU : w.drewN z = U
      have f0 : ∀ p, U.cell? p = w.cell? p := fun p => by rw [← hU]; rfl
      rw [← f0] at d0 e0
      clear f0
      go_wp2
      go_quiet (fail)
      go_wp2
      go_roundw
      case rel => exact ⟨k + 1, by omega, by go_num, z + nq, by rw [← hU]; exact (World.drewN_drewN _ _ _)⟩
      case measure => simp [intOf]; omega
    · obtain rfl : n = k := by omega
      go_wp2
      go_ret
      exact ⟨rfl, z, rfl⟩
set_option maxRecDepth 100000 in
set_option maxHeartbeats 8000000 in
theorem labeled_true (w : World) (hT : TabO w) : Calls Tryd.prog 30 #[] w (RetB (.bool true) w) := by
  have HT := Lib.hid hT
  have HL1 : Hid (∀ u, TabO u → Calls Tryd.prog 16 #[.string ⟨#[49, 58, 32, 97, 58, 32, 98, 32, 49, 98]⟩] u (RetTi lt1 u)) := Lib.hid (fun u hu => toks_is lt1v (by decide) (by decide) u hu)
  have HL2 : Hid (∀ u, TabO u → Calls Tryd.prog 16 #[.string ⟨#[120, 49, 58, 32, 98, 32, 49, 98]⟩] u (RetTi lt2 u)) := Lib.hid (fun u hu => toks_is lt2v (by decide) (by decide) u hu)
  have HS1 : Hid (∀ (u : World) a c, TabO u → SL tiC 3 u u.heap.size a 6 lt1 → (a = none → 6 = 0 ∧ c = 0) → 6 ≤ c → Calls Tryd.prog 29 #[.slice a 6 c] u (fun e w' => ∃ a1 c1 a2 c2, e = .returned (.tuple #[.slice a1 2 c1, .slice a2 2 c2, .int .i64 0]) ∧ SL stC 1 w' w'.heap.size a1 2 ll1 ∧ Below u.heap.size u w')) := Lib.hid (fun u a c hu h1 h2 h3 => by
    refine (Split_any h1 h2 h3 (toks_good lt1v) (by decide) hu).mono ?_
    intro e w' h
    unfold SplitR at h
    rw [ls1v] at h
    obtain ⟨a1, c1, a2, c2, he, hs, -, -, -, hb⟩ := h
    exact ⟨a1, c1, a2, c2, he, hs, hb⟩)
  have HS2 : Hid (∀ (u : World) a c, TabO u → SL tiC 3 u u.heap.size a 4 lt2 → (a = none → 4 = 0 ∧ c = 0) → 4 ≤ c → Calls Tryd.prog 29 #[.slice a 4 c] u (RetB (.tuple #[.slice none 0 0, .slice none 0 0, .int .i64 3]) u)) := Lib.hid (fun u a c hu h1 h2 h3 => by
    refine (Split_any h1 h2 h3 (toks_good lt2v) (by decide) hu).mono ?_
    intro e w' h
    unfold SplitR at h
    rw [ls2v] at h
    exact h)
  have HF1 : Hid (∀ (u : World) a c, SL mkC 4 u u.heap.size a 3 lm → Calls Tryd.prog 32 #[.slice a 3 c, .int .i64 7, .bool true, .int .i64 5] u (RetB (.tuple #[.int .i64 2, .bool true]) u)) := Lib.hid (fun u a c h => by have := Find_any (c := c) h (by decide) 7 true 5; rw [lf1v] at this; exact this)
  have HF2 : Hid (∀ (u : World) a c, SL mkC 4 u u.heap.size a 3 lm → Calls Tryd.prog 32 #[.slice a 3 c, .int .i64 7, .bool false, .int .i64 5] u (RetB (.tuple #[.int .i64 1, .bool true]) u)) := Lib.hid (fun u a c h => by have := Find_any (c := c) h (by decide) 7 false 5; rw [lf2v] at this; exact this)
  have HF3 : Hid (∀ (u : World) a c, SL mkC 4 u u.heap.size a 3 lm → Calls Tryd.prog 32 #[.slice a 3 c, .int .i64 7, .bool false, .int .i64 1] u (RetB (.tuple #[.int .i64 0, .bool false]) u)) := Lib.hid (fun u a c h => by have := Find_any (c := c) h (by decide) 7 false 1; rw [lf3v] at this; exact this)
  have HTx : Hid (∀ u, TabO u → Calls Tryd.prog 34 #[.int .i64 7, .bool true] u (RetB (.tuple #[.string ⟨#[55, 102]⟩, .int .i64 0]) u)) := Lib.hid (fun u hu => by have := LText_any 7 (by decide) true u hu; rw [ltxv] at this; exact this)
  have HN1 : Hid (∀ u, TabO u → Calls Tryd.prog 31 #[.string ⟨#[109, 97, 105, 110]⟩] u (RetB (.bool true) u)) := Lib.hid (fun u hu => by have := IsName_list [109, 97, 105, 110] (by decide) u hu; rwa [nm1v] at this)
  have HN2 : Hid (∀ u, TabO u → Calls Tryd.prog 31 #[.string ⟨#[115, 112]⟩] u (RetB (.bool false) u)) := Lib.hid (fun u hu => by have := IsName_list [115, 112] (by decide) u hu; rwa [nm2v] at this)
  have HLit : Hid (∀ (u : World) (cs : Array Value) (T : TypeId), cs.toList = lm.flatMap mkC → SL mkC 4 (u.alloc (.cells cs T)) (u.alloc (.cells cs T)).heap.size (some ⟨u.heap.size, 0, none⟩) 3 lm) := Lib.hid (fun u cs T h => SL.lit2 u T lm mk_len (by decide) cs h 3 rfl)
  clear hT
  go_enter Tryd.func30, Tryd.ntmps30
  go_wp2_with fail
  refine (HL1.out _ HT.out).mono ?_
  rintro e u1 ⟨a1, c1, rfl, hs, hz, hc, hb⟩
  have HB1 := Lib.hid hb
  have HX1 := Lib.hid (HS1.out u1 a1 c1 (HT.out.next hb) hs hz hc)
  clear hs hz hc hb
  go_wp2_with fail
  refine HX1.out.mono ?_
  rintro e u2 ⟨b1, d1, b2, d2, rfl, hs, hb⟩
  have HB2 := Lib.hid (after HB1.out hb)
  have HSL := Lib.hid hs
  clear hs hb HX1
  go_wp2_with fail
  have HM := Lib.hid (HLit.out u2 #[.int .i64 7, .int .i64 2, .int .i64 0, .int .i64 0, .int .i64 7, .int .i64 5, .int .i64 0, .int .i64 0, .int .i64 7, .int .i64 9, .int .i64 0, .int .i64 0] 57 rfl)
  have hb : Below u2.heap.size u2 (u2.alloc (.cells #[.int .i64 7, .int .i64 2, .int .i64 0, .int .i64 0, .int .i64 7, .int .i64 5, .int .i64 0, .int .i64 0, .int .i64 7, .int .i64 9, .int .i64 0, .int .i64 0] 57)) := (Below.refl _ _).alloc (Nat.le_refl _) _
  generalize u2.alloc (.cells #[.int .i64 7, .int .i64 2, .int .i64 0, .int .i64 0, .int .i64 7, .int .i64 5, .int .i64 0, .int .i64 0, .int .i64 7, .int .i64 9, .int .i64 0, .int .i64 0] 57) = U3 at HM hb ⊢
  have HB3 := Lib.hid (after HB2.out hb)
  replace HSL := Lib.hid (HSL.out.next hb)
  clear hb
  refine (HF1.out _ _ _ HM.out).mono ?_
  rintro e w1 ⟨rfl, hb⟩
  have HC1 := Lib.hid (after HB3.out hb)
  replace HSL := Lib.hid (HSL.out.next hb)
  replace HM := Lib.hid (HM.out.next hb)
  clear hb
  go_wp2_with fail
  refine (HF2.out _ _ _ HM.out).mono ?_
  rintro e w2 ⟨rfl, hb⟩
  have HC2 := Lib.hid (after HC1.out hb)
  replace HSL := Lib.hid (HSL.out.next hb)
  replace HM := Lib.hid (HM.out.next hb)
  clear hb
  go_wp2_with fail
  refine (HF3.out _ _ _ HM.out).mono ?_
  rintro e w3 ⟨rfl, hb⟩
  have HC3 := Lib.hid (after HC2.out hb)
  replace HSL := Lib.hid (HSL.out.next hb)
  clear hb
  go_wp2_with fail
  refine (HTx.out _ (HT.out.next HC3.out)).mono ?_
  rintro e w4 ⟨rfl, hb⟩
  have HC4 := Lib.hid (after HC3.out hb)
  replace HSL := Lib.hid (HSL.out.next hb)
  clear hb
  go_wp2_with fail
  refine (HL2.out _ (HT.out.next HC4.out)).mono ?_
  rintro e u5 ⟨a3, c3, rfl, hs, hz, hc, hb⟩
  have HC5 := Lib.hid (after HC4.out hb)
  have HX2 := Lib.hid (HS2.out u5 a3 c3 (HT.out.next HC5.out) hs hz hc)
  replace HSL := Lib.hid (HSL.out.next hb)
  clear hs hz hc hb
  go_wp2_with fail
  refine (HX2.out).mono ?_
  rintro e w6 ⟨rfl, hb⟩
  have HC6 := Lib.hid (after HC5.out hb)
  replace HSL := Lib.hid (HSL.out.next hb)
  clear hb
  go_wp2_with fail
  have hb : Below w6.heap.size w6 (w6.alloc (.cells #[.string ⟨#[49]⟩, .string ⟨#[97]⟩] 9)) := (Below.refl _ _).alloc (Nat.le_refl _) _
  have HS3 := Lib.hid (SL.lit2 w6 9 ll1 st_len (by decide) #[.string ⟨#[49]⟩, .string ⟨#[97]⟩] rfl 2 rfl)
  generalize w6.alloc (.cells #[.string ⟨#[49]⟩, .string ⟨#[97]⟩] 9) = U7 at hb HS3 ⊢
  replace HSL := Lib.hid (HSL.out.next hb)
  have HC7 := Lib.hid (after HC6.out hb)
  clear hb
  refine (SSame_eq HSL.out HS3.out (by decide)).mono ?_
  rintro e w8 ⟨rfl, z, rfl⟩
  have HC8 := Lib.hid (below_drewN HC7.out z)
  generalize U7.drewN z = U8 at HC8 ⊢
  go_wp2_with fail
  refine (HN1.out _ (HT.out.next HC8.out)).mono ?_
  rintro e w9 ⟨rfl, hb⟩
  have HC9 := Lib.hid (after HC8.out hb)
  clear hb
  go_wp2_with fail
  refine (HN2.out _ (HT.out.next HC9.out)).mono ?_
  rintro e w10 ⟨rfl, hb⟩
  have HC10 := Lib.hid (after HC9.out hb)
  clear hb
  go_wp2
  go_ret
  exact ⟨rfl, HC10.out⟩
open Go.ChangeShapes Go.WideShapes Go.Deep Go.RowKit

def GoodMk (m : Mk) : Prop := i64ok m.no ∧ i64ok m.line ∧ i64ok m.sec ∧ i64ok m.off
set_option maxRecDepth 10000 in
theorem open_Marks {H : Type} {encH : TypeId × Value → H} {W : World} {base : Nat} {v : Value} {d : DataW H} {p : List MemPlace}
    (hv : Value.okWide Tryd.prog W .any base 52 v) (h : DataW.Trod encH Tryd.prog W 0 (fun _ => true) true 52 v d p) :
    ∃ (a : Option Addr) (n c : Nat) (l : List Mk), v = .slice a n c ∧ n ≤ maxLen ∧ (∀ m ∈ l, GoodMk m) ∧ SL mkC 4 W W.heap.size a n l ∧ (a = none → n = 0 ∧ c = 0) ∧ n ≤ c ∧ ∀ R bt : Nat, (∀ el sp, d = .slice el sp → (el.length + sp.length) * bt ≤ R) → n * bt ≤ R := by
  refine open_SL2 (sz := 4) (enc := mkC) GoodMk ⟨0, 0, 0, 0⟩ Tryd.underlying52 Tryd.underlying57 (by kernel_rfl) (by kernel_rfl) rfl (by decide) mk_len (by
    intro cell m hc
    obtain ⟨v0, y0, c0, t0⟩ := hc 0 _ rfl
    obtain ⟨v1, y1, c1, t1⟩ := hc 1 _ rfl
    obtain ⟨v2, y2, c2, t2⟩ := hc 2 _ rfl
    obtain ⟨v3, y3, c3, t3⟩ := hc 3 _ rfl
    obtain ⟨x0, e0, -, w0⟩ := DataW.trod_int Tryd.underlying3 t0
    obtain ⟨x1, e1, -, w1⟩ := DataW.trod_int Tryd.underlying3 t1
    obtain ⟨x2, e2, -, w2⟩ := DataW.trod_int Tryd.underlying3 t2
    obtain ⟨x3, e3, -, w3⟩ := DataW.trod_int Tryd.underlying3 t3
    simp only [List.cons.injEq, and_true] at e0 e1 e2 e3
    subst e0 e1 e2 e3
    refine ⟨⟨x0, x1, x2, x3⟩, ⟨bounds_i64 w0, bounds_i64 w1, bounds_i64 w2, bounds_i64 w3⟩, fun j hj => ?_⟩
    match j, hj with
    | 0, _ => exact c0
    | 1, _ => exact c1
    | 2, _ => exact c2
    | 3, _ => rw [show (mkC ⟨x0, x1, x2, x3⟩)[3]? = some (.int .i64 x3) from rfl]; exact c3) hv h
/-! ### which mark is found -/
def sideM (no : Int) (up : Bool) (line : Int) (m : Mk) : Bool := m.no == no && (decide (line < m.line) == up)
theorem isM_lines : ∀ {l : List Mk} {ln : Int}, isM ln l = true → ∀ m ∈ l, ln ≤ m.line
  | [], _, _, m, hm => by cases hm
  | x :: t, ln, h, m, hm => by
    unfold isM at h
    by_cases c : badM ln x
    · rw [if_pos c] at h; cases h
    · rw [if_neg c] at h
      have hx : ln ≤ x.line := by unfold badM at c; omega
      rcases List.mem_cons.1 hm with rfl | hm
      · exact hx
      · have := isM_lines h m hm; omega
theorem isM_tail {x : Mk} {t : List Mk} {ln : Int} (h : isM ln (x :: t) = true) : isM x.line t = true := by
  unfold isM at h
  by_cases c : badM ln x
  · rw [if_pos c] at h; cases h
  · rwa [if_neg c] at h
theorem isM_sorted : ∀ {l : List Mk} {ln : Int}, isM ln l = true → ∀ i j (hi : i < l.length) (hj : j < l.length), i ≤ j → l[i].line ≤ l[j].line
  | [], _, _, i, _, hi, _, _ => by simp at hi
  | x :: t, ln, h, i, j, hi, hj, hij => by
    have ht := isM_tail h
    cases i with
    | zero =>
      cases j with
      | zero => exact Int.le_refl _
      | succ j => exact isM_lines ht _ (List.getElem_mem _)
    | succ i =>
      cases j with
      | zero => omega
      | succ j => exact isM_sorted ht i j (by simpa using hi) (by simpa using hj) (by omega)
theorem findN_up {no line : Int} : ∀ (l : List Mk) (k : Nat) (r : Nat × Bool),
    ((∃ j, ∃ h : j < l.length, sideM no true line l[j] = true ∧ (∀ j' (h' : j' < l.length), j' < j → sideM no true line l[j'] = false) ∧ findN no true line k l r = (k + j, true)) ∨ ((∀ m ∈ l, sideM no true line m = false) ∧ findN no true line k l r = r))
  | [], k, r => .inr ⟨fun m hm => (by cases hm), rfl⟩
  | x :: t, k, r => by
    unfold findN
    rw [if_neg (fun h => by have := h.2; cases this)]
    by_cases c : x.no ≠ no ∨ (x.line ≤ line ∧ true = true)
    · rw [if_pos c]
      have hx : sideM no true line x = false := by
        unfold sideM
        rcases c with c | ⟨c, -⟩
        · rw [beq_eq_false_iff_ne.2 c]; rfl
        · rw [decide_eq_false (by omega)]; simp
      rcases findN_up t (k + 1) r with ⟨j, hj, h1, h2, h3⟩ | ⟨h1, h2⟩
      · refine .inl ⟨j + 1, by simpa using hj, h1, ?_, by rw [h3]; congr 1; omega⟩
        intro j' h' hlt
        cases j' with
        | zero => exact hx
        | succ j' => exact h2 j' (by simpa using h') (by omega)
      · refine .inr ⟨fun m hm => ?_, h2⟩
        rcases List.mem_cons.1 hm with rfl | hm
        · exact hx
        · exact h1 m hm
    · rw [if_neg c, if_pos rfl]
      refine .inl ⟨0, by simp, ?_, fun j' _ h => by omega, rfl⟩
      have c1 : x.no = no := Classical.byContradiction fun h => c (.inl h)
      have c2 : line < x.line := by
        have : ¬ x.line ≤ line := fun h => c (.inr ⟨h, rfl⟩)
        omega
      show sideM no true line x = true
      unfold sideM
      rw [c1, decide_eq_true c2]; simp
theorem findN_down {no line : Int} : ∀ (l : List Mk) (k : Nat) (r : Nat × Bool) (ln : Int), isM ln l = true →
    ((∃ j, ∃ h : j < l.length, sideM no false line l[j] = true ∧ (∀ j' (h' : j' < l.length), j < j' → sideM no false line l[j'] = false) ∧ findN no false line k l r = (k + j, true)) ∨ ((∀ m ∈ l, sideM no false line m = false) ∧ findN no false line k l r = r))
  | [], k, r, _, _ => .inr ⟨fun m hm => (by cases hm), rfl⟩
  | x :: t, k, r, ln, hs => by
    unfold findN
    by_cases c0 : line < x.line ∧ false = false
    · rw [if_pos c0]
      refine .inr ⟨fun m hm => ?_, rfl⟩
      have hm' : x.line ≤ m.line := by
        rcases List.mem_cons.1 hm with rfl | hm
        · exact Int.le_refl _
        · exact isM_lines (isM_tail hs) m hm
      unfold sideM
      rw [decide_eq_true (by have := c0.1; omega)]; simp
    rw [if_neg c0]
    have c0' : ¬ line < x.line := fun h => c0 ⟨h, rfl⟩
    by_cases c : x.no ≠ no ∨ (x.line ≤ line ∧ false = true)
    · rw [if_pos c]
      have cn : x.no ≠ no := by
        rcases c with c | ⟨-, c⟩
        · exact c
        · cases c
      have hx : sideM no false line x = false := by
        unfold sideM
        rw [beq_eq_false_iff_ne.2 cn]; rfl
      rcases findN_down t (k + 1) r _ (isM_tail hs) with ⟨j, hj, h1, h2, h3⟩ | ⟨h1, h2⟩
      · refine .inl ⟨j + 1, by simpa using hj, h1, ?_, by rw [h3]; congr 1; omega⟩
        intro j' h' hlt
        cases j' with
        | zero => omega
        | succ j' => exact h2 j' (by simpa using h') (by omega)
      · refine .inr ⟨fun m hm => ?_, h2⟩
        rcases List.mem_cons.1 hm with rfl | hm
        · exact hx
        · exact h1 m hm
    · rw [if_neg c, if_neg (by decide)]
      have c1 : x.no = no := Classical.byContradiction fun h => c (.inl h)
      have hx : sideM no false line x = true := by
        unfold sideM
        rw [c1, decide_eq_false c0']; simp
      rcases findN_down t (k + 1) (k, true) _ (isM_tail hs) with ⟨j, hj, h1, h2, h3⟩ | ⟨h1, h2⟩
      · refine .inl ⟨j + 1, by simpa using hj, h1, ?_, by rw [h3]; congr 1; omega⟩
        intro j' h' hlt
        cases j' with
        | zero => omega
        | succ j' => exact h2 j' (by simpa using h') (by omega)
      · refine .inl ⟨0, by simp, hx, ?_, h2⟩
        intro j' h' hlt
        cases j' with
        | zero => omega
        | succ j' => exact h1 _ (List.getElem_mem _)
/-- What is found is of the number, on the side that was asked for, and the nearest. -/
theorem find_near {l : List Mk} {no line : Int} {up : Bool} (h : isM 1 l = true) :
    (∀ j (hj : j < l.length), sideM no up line l[j] = true → (findM l no up line).2 = true ∧ (up = true → (findM l no up line).1 ≤ j) ∧ (up = false → j ≤ (findM l no up line).1)) ∧
    ((findM l no up line).2 = true → ∃ hi : (findM l no up line).1 < l.length, sideM no up line (l[(findM l no up line).1]'hi) = true) := by
  unfold findM
  rw [if_pos h]
  cases up with
  | true =>
    rcases findN_up (no := no) (line := line) l 0 (0, false) with ⟨j, hj, h1, h2, h3⟩ | ⟨h1, h2⟩
    · rw [h3]
      simp only [Nat.zero_add]
      refine ⟨fun j' hj' hs => ⟨by trivial, fun _ => ?_, fun h => (by cases h)⟩, fun _ => ⟨hj, h1⟩⟩
      by_cases c : j' < j
      · rw [h2 j' hj' c] at hs; cases hs
      · omega
    · rw [h2]
      refine ⟨fun j' hj' hs => ?_, fun h => by cases h⟩
      rw [h1 _ (List.getElem_mem _)] at hs; cases hs
  | false =>
    rcases findN_down (no := no) (line := line) l 0 (0, false) 1 h with ⟨j, hj, h1, h2, h3⟩ | ⟨h1, h2⟩
    · rw [h3]
      simp only [Nat.zero_add]
      refine ⟨fun j' hj' hs => ⟨by trivial, (fun h => by cases h), fun _ => ?_⟩, fun _ => ⟨hj, h1⟩⟩
      by_cases c : j < j'
      · rw [h2 j' hj' c] at hs; cases hs
      · omega
    · rw [h2]
      refine ⟨fun j' hj' hs => ?_, fun h => by cases h⟩
      rw [h1 _ (List.getElem_mem _)] at hs; cases hs
set_option maxRecDepth 100000 in
set_option maxHeartbeats 4000000 in
theorem LocalText_walk (no : Int) (hn : i64ok no) (up : Bool) (w : World) (hT : TabO w) : Calls Tryd.prog 13 #[.int .i64 no, .bool up] w (RetB (.bool true) w) := by
  have HT := Lib.hid hT
  have HX := Lib.hid (fun u hu => LText_any no hn up u hu)
  have HLb : Hid (∀ u, TabO u → Calls Tryd.prog 30 #[] u (RetB (.bool true) u)) := Lib.hid labeled_true
  by_cases c : no < 0 ∨ 9999 < no
  · have HR : Hid (lTextL no up = ([], 1)) := Lib.hid (by unfold lTextL; rw [if_pos c])
    rw [HR.out] at HX
    have HX' : Hid (∀ u, TabO u → Calls Tryd.prog 34 #[.int .i64 no, .bool up] u (RetB (.tuple #[.string ⟨#[]⟩, .int .i64 1]) u)) := HX
    clear HX hT hn
    by_cases c0 : no < 0
    · clear c
      go_enter Tryd.func13, Tryd.ntmps13
      go_wp2_with fail
      refine (HX'.out _ HT.out).mono ?_
      rintro e u1 ⟨rfl, hb⟩
      have HB1 := Lib.hid hb
      clear hb
      go_wp2_with fail
      refine (HLb.out _ (HT.out.next HB1.out)).mono ?_
      rintro e u2 ⟨rfl, hb⟩
      have HB2 := Lib.hid (after HB1.out hb)
      clear hb
      go_wp2
      go_ret
      exact ⟨by simp, HB2.out⟩
    · have c1 : 9999 < no := by omega
      clear c
      go_enter Tryd.func13, Tryd.ntmps13
      go_wp2_with fail
      refine (HX'.out _ HT.out).mono ?_
      rintro e u1 ⟨rfl, hb⟩
      have HB1 := Lib.hid hb
      clear hb
      go_wp2_with fail
      refine (HLb.out _ (HT.out.next HB1.out)).mono ?_
      rintro e u2 ⟨rfl, hb⟩
      have HB2 := Lib.hid (after HB1.out hb)
      clear hb
      go_wp2
      go_ret
      exact ⟨by simp, HB2.out⟩
  · have hr : (lTextL no up).2 = 0 := by unfold lTextL; rw [if_neg c]
    obtain ⟨K, hK⟩ : ∃ K, lTextL no up = (K, 0) := ⟨(lTextL no up).1, by rw [← hr]⟩
    have h1 := label_text hr
    have h2 := text_noname hr
    have hlen : K.length ≤ maxLen := by
      have : K = Lib.decDigits no.toNat ++ [sideB up] := by unfold lTextL at hK; rw [if_neg c] at hK; cases hK; rfl
      rw [this, List.length_append, Lib.decDigits_length]
      have := nDigits_four (u := no.toNat) (by omega)
      simp only [List.length_singleton]
      unfold maxLen; omega
    rw [hK] at HX h1 h2
    have HX' : Hid (∀ u, TabO u → Calls Tryd.prog 34 #[.int .i64 no, .bool up] u (RetB (.tuple #[.string ⟨K.toArray⟩, .int .i64 0]) u)) := HX
    have HLa : Hid (∀ u, Calls Tryd.prog 24 #[.string ⟨K.toArray⟩] u (RetD (.tuple #[.int .i64 no, .bool up, .bool true]) u)) := Lib.hid (fun u => by
      have := Label_any ⟨K.toArray⟩ hlen u
      rw [show (⟨K.toArray⟩ : ByteArray).data.toList = K by simp, h1.1] at this
      unfold labelV at this
      simp only [] at this
      rwa [Int.toNat_of_nonneg h1.2] at this)
    have HNm : Hid (∀ u, TabO u → Calls Tryd.prog 31 #[.string ⟨K.toArray⟩] u (RetB (.bool false) u)) := Lib.hid (fun u hu => by have := IsName_list K hlen u hu; rwa [h2] at this)
    clear HX hT hn c hr hK h1 h2 hlen
    go_enter Tryd.func13, Tryd.ntmps13
    go_wp2_with fail
    refine (HX'.out _ HT.out).mono ?_
    rintro e u1 ⟨rfl, hb⟩
    have HB1 := Lib.hid hb
    clear hb
    go_wp2_with fail
    refine (HLa.out _).mono ?_
    rintro e u2 ⟨rfl, z, rfl⟩
    have HB2 := Lib.hid (below_drewN HB1.out z)
    generalize u1.drewN z = U2 at HB2 ⊢
    go_wp2_with fail
    refine (HLb.out _ (HT.out.next HB2.out)).mono ?_
    rintro e u3 ⟨rfl, hb⟩
    have HB3 := Lib.hid (after HB2.out hb)
    clear hb
    go_wp2_with fail
    refine (HNm.out _ (HT.out.next HB3.out)).mono ?_
    rintro e u4 ⟨rfl, hb⟩
    have HB4 := Lib.hid (after HB3.out hb)
    clear hb
    go_wp2
    go_ret
    exact ⟨by simp, HB4.out⟩
end Go.Proofs.YtngoipcjipbelaaDoor
