/- local's law: LocalNear. -/
import Derived.Test.YtngoipcjipbelaaDoorYD
namespace Go.Proofs.YtngoipcjipbelaaDoor
set_option linter.unusedVariables false
set_option linter.unusedSimpArgs false
open Go.ChangeShapes Go.WideShapes Go.Deep Go.RowKit

set_option maxRecDepth 100000 in
set_option maxHeartbeats 8000000 in
theorem LocalNear_walk (w : World) (a : Option Addr) (n c : Nat) (l : List Mk) (hr : n * 32 ≤ reachBytes) (hg : ∀ m ∈ l, GoodMk m) (hs : SL mkC 4 w w.heap.size a n l) (hz : a = none → n = 0 ∧ c = 0) (hb : n ≤ c)
    (no : Int) (hno : i64ok no) (up : Bool) (line : Int) (hline : i64ok line) (hT : TabO w) :
    Calls Tryd.prog 11 #[.slice a n c, .int .i64 no, .bool up, .int .i64 line] w (RetB (.bool true) w) := by
  by_cases h40 : 40 < n
  · have h40z : (40 : Int) < (n : Int) := by omega
    clear hT hs hz hb hg hr
    go_enter Tryd.func11, Tryd.ntmps11
    go_wp2
    go_ret
    exact ⟨rfl, Below.refl _ _⟩
  have h40z : ¬ (40 : Int) < (n : Int) := by omega
  have HT := Lib.hid hT
  have HS := Lib.hid hs
  have HLEN := Lib.hid hs.len
  have hn6 : n ≤ 1000000 := by omega
  have HLb : Hid (∀ u, TabO u → Calls Tryd.prog 30 #[] u (RetB (.bool true) u)) := Lib.hid labeled_true
  have HIs : Hid (∀ (u : World), SL mkC 4 u u.heap.size a n l → Calls Tryd.prog 33 #[.slice a n c] u (RetB (.bool (isM 1 l)) u)) := Lib.hid (fun u h => MarksIs_any h hn6)
  have HFi : Hid (∀ (u : World), SL mkC 4 u u.heap.size a n l → Calls Tryd.prog 32 #[.slice a n c, .int .i64 no, .bool up, .int .i64 line] u (RetB (.tuple #[.int .i64 ((findM l no up line).1 : Nat), .bool (findM l no up line).2]) u)) := Lib.hid (fun u h => Find_any h hn6 no up line)
  have HN : Hid (isM 1 l = true → (∀ j (hj : j < l.length), sideM no up line l[j] = true → (findM l no up line).2 = true ∧ (up = true → (findM l no up line).1 ≤ j) ∧ (up = false → j ≤ (findM l no up line).1)) ∧ ((findM l no up line).2 = true → ∃ hi : (findM l no up line).1 < l.length, sideM no up line (l[(findM l no up line).1]'hi) = true)) := Lib.hid (fun h => find_near h)
  have HN0 : Hid (isM 1 l = false → findM l no up line = (0, false)) := Lib.hid (fun h => by unfold findM; rw [h]; rfl)
  obtain ⟨i, ok, hf⟩ : ∃ i ok, findM l no up line = (i, ok) := ⟨_, _, rfl⟩
  rw [hf] at HFi HN HN0
  generalize hI : isM 1 l = b at HIs HN HN0
  clear hT hs hz hb hg hr hf hno hline h40 hI
  have HFi' : Hid (∀ (u : World), SL mkC 4 u u.heap.size a n l → Calls Tryd.prog 32 #[.slice a n c, .int .i64 no, .bool up, .int .i64 line] u (RetB (.tuple #[.int .i64 (i : Int), .bool ok]) u)) := HFi
  clear HFi
  cases b
  · have hi0 := HN0.out rfl
    cases hi0
    go_enter Tryd.func11, Tryd.ntmps11
    go_wp2_with fail
    refine (HFi'.out _ HS.out).mono ?_
    rintro e u1 ⟨rfl, hb⟩
    have HB1 := Lib.hid hb
    have HS1 := Lib.hid (HS.out.next hb)
    clear hb
    go_wp2_with fail
    refine (HIs.out _ HS1.out).mono ?_
    rintro e u2 ⟨rfl, hb⟩
    have HB2 := Lib.hid (after HB1.out hb)
    clear hb
    go_wp2_with fail
    refine (HLb.out _ (HT.out.next HB2.out)).mono ?_
    rintro e u3 ⟨rfl, hb⟩
    have HB3 := Lib.hid (after HB2.out hb)
    clear hb
    go_wp2
    go_ret
    exact ⟨rfl, HB3.out⟩
  · have HM : Hid (∀ j (hj : j < l.length), sideM no up line l[j] = true → ok = true ∧ (up = true → i ≤ j) ∧ (up = false → j ≤ i)) := Lib.hid ((HN.out rfl).1)
    have HO : Hid (ok = true → ∃ hi : i < l.length, sideM no up line (l[i]'hi) = true) := Lib.hid ((HN.out rfl).2)
    clear HN HN0
    go_enter Tryd.func11, Tryd.ntmps11
    go_wp2_with fail
    refine (HFi'.out _ HS.out).mono ?_
    rintro e u1 ⟨rfl, hb⟩
    have HB1 := Lib.hid hb
    have HS1 := Lib.hid (HS.out.next hb)
    clear hb
    go_wp2_with fail
    refine (HIs.out _ HS1.out).mono ?_
    rintro e u2 ⟨rfl, hb⟩
    have HB2 := Lib.hid (after HB1.out hb)
    have HS2 := Lib.hid (HS1.out.next hb)
    clear hb h40z
    go_wp2_with fail
    go_loopg [11] (n) (fun g kv wl => ∃ (k : Nat), kv = .int .i64 (k : Int) ∧ k ≤ n ∧ u2 = wl ∧ Hid (g = n - k))
    case atStart => exact ⟨0, rfl, by omega, rfl, Lib.hid rfl⟩
    case round =>
      obtain ⟨k, rfl, hk, rfl, HG⟩ := hrel
      by_cases hlt : k < n
      · have hkl : k < l.length := by rw [← HLEN.out]; exact hlt
        obtain ⟨b, off, rfl, hB, hc⟩ := HS2.out.cells (HS2.out.ne (k := k) hlt)
        obtain ⟨d0, d1, d2, d3⟩ := mk_cells (fun j hj => hc k hkl j hj)
        have HMk := Lib.hid (HM.out k hkl)
        generalize l[k] = m at *
        have hki : (k : Int) < (n : Int) := by omega
        have hk0 : (0 : Int) ≤ (k : Int) := by omega
        clear hc hB hkl d2 d3
        by_cases hsd : sideM no up line m = true
        · obtain ⟨h1, h2, h3⟩ := HMk.out hsd
          unfold sideM at hsd
          simp only [Bool.and_eq_true, beq_iff_eq] at hsd
          obtain ⟨e1, e2⟩ := hsd
          have r1 : (m.no == no) = true := by rw [e1]; simp
          subst h1
          clear e1 HMk
          cases up
          · have r3 : ¬ (i : Int) < (k : Int) := by have := h3 rfl; omega
            have r2 : ¬ line < m.line := by simpa using e2
            clear h2 h3 e2
            go_wp2
            go_roundg (n - (k + 1))
            case measure => have := HG.out; omega
            case rel => exact ⟨k + 1, by go_num, by omega, rfl, Lib.hid rfl⟩
          · have r3 : ¬ (k : Int) < (i : Int) := by have := h2 rfl; omega
            have r2 : line < m.line := by simpa using e2
            clear h2 h3 e2
            go_wp2
            go_roundg (n - (k + 1))
            case measure => have := HG.out; omega
            case rel => exact ⟨k + 1, by go_num, by omega, rfl, Lib.hid rfl⟩
        · clear HMk HM
          by_cases e1 : m.no = no
          · have r1 : (m.no == no) = true := by rw [e1]; simp
            have e2 : decide (line < m.line) ≠ up := fun h => hsd (by unfold sideM; rw [e1, h]; simp)
            clear e1 hsd
            cases up
            · have r2 : line < m.line := by simpa using e2
              clear e2
              go_wp2
              go_roundg (n - (k + 1))
              case measure => have := HG.out; omega
              case rel => exact ⟨k + 1, by go_num, by omega, rfl, Lib.hid rfl⟩
            · have r2 : ¬ line < m.line := by simpa using e2
              clear e2
              go_wp2
              go_roundg (n - (k + 1))
              case measure => have := HG.out; omega
              case rel => exact ⟨k + 1, by go_num, by omega, rfl, Lib.hid rfl⟩
          · have r1 : (m.no == no) = false := by rw [beq_eq_false_iff_ne]; exact e1
            clear e1 hsd
            go_wp2
            go_roundg (n - (k + 1))
            case measure => have := HG.out; omega
            case rel => exact ⟨k + 1, by go_num, by omega, rfl, Lib.hid rfl⟩
      · clear HM
        have HLb2 := Lib.hid (HLb.out u2 (HT.out.next HB2.out))
        cases ok
        · clear HO
          go_wp2_with fail
          refine HLb2.out.mono ?_
          rintro e u3 ⟨rfl, hb⟩
          have HB3 := Lib.hid (after HB2.out hb)
          clear hb
          go_wp2
          go_ret
          exact ⟨rfl, HB3.out⟩
        · obtain ⟨hi, hsd⟩ := HO.out rfl
          have hin : i < n := by rw [HLEN.out]; exact hi
          obtain ⟨b, off, rfl, hB, hc⟩ := HS2.out.cells (HS2.out.ne (k := i) hin)
          obtain ⟨d0, d1, d2, d3⟩ := mk_cells (fun j hj => hc i hi j hj)
          generalize l[i] = m at *
          have hii : (i : Int) < (n : Int) := by omega
          have hi0 : (0 : Int) ≤ (i : Int) := by omega
          unfold sideM at hsd
          simp only [Bool.and_eq_true, beq_iff_eq] at hsd
          obtain ⟨e1, e2⟩ := hsd
          have r1 : (m.no == no) = true := by rw [e1]; simp
          clear hc hB hi d2 d3 e1 HO
          cases up
          · have r2 : ¬ line < m.line := by simpa using e2
            clear e2
            go_wp2_with fail
            refine HLb2.out.mono ?_
            rintro e u3 ⟨rfl, hb⟩
            have HB3 := Lib.hid (after HB2.out hb)
            rw [← hb.cell (cell_lt d0)] at d0
            rw [← hb.cell (cell_lt d1)] at d1
            clear hb
            go_wp2
            go_ret
            exact ⟨by show Ending.returned (.bool (!decide (line < m.line))) = _; rw [decide_eq_false (by omega)]; rfl, HB3.out⟩
          · have r2 : line < m.line := by simpa using e2
            clear e2
            go_wp2_with fail
            refine HLb2.out.mono ?_
            rintro e u3 ⟨rfl, hb⟩
            have HB3 := Lib.hid (after HB2.out hb)
            rw [← hb.cell (cell_lt d0)] at d0
            rw [← hb.cell (cell_lt d1)] at d1
            clear hb
            go_wp2
            go_ret
            exact ⟨rfl, HB3.out⟩
end Go.Proofs.YtngoipcjipbelaaDoor
