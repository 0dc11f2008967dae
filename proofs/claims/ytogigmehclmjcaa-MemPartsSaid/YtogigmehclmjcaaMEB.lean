/- mem: Big, kept. -/
import Derived.Test.YtogigmehclmjcaaME9
import Derived.Test.YtogigmehclmjcaaMEA
namespace Go.Proofs.Ytogigmehclmjcaa
set_option linter.unusedVariables false
set_option linter.unusedSimpArgs false
open Go.ChangeShapes Go.WideShapes Go.Deep Go.RowKit

def BigP (n : Nat) (w : World) (e : Ending) (w' : World) : Prop := ∃ b : Bool, e = .returned (.bool b) ∧ (b = false → n ≤ 20) ∧ w' = w
set_option maxRecDepth 100000 in
set_option maxHeartbeats 2000000 in
theorem Big_any (a : Option Addr) (n c : Nat) (l : List Rg) (w : World) (hl : SL rgC 3 w w.heap.size a n l) (hn : n ≤ maxLen) (hz : ∀ r ∈ l, r.data.size ≤ maxLen) : Calls Try.prog 6 #[.slice a n c] w (BigP n w) := by
  unfold maxLen at hn
  have hln := hl.len
  have HL := Lib.hid hl
  have HLN := Lib.hid hln
  have HZ := Lib.hid hz
  clear hl hln hz
  go_enter Try.func6, Try.ntmps6
  go_wp2
  go_loop [3] (fun i => ∃ k : Nat, k ≤ n ∧ i = .int .i64 k) (fun i => n - (intOf i).toNat)
  case atStart => exact ⟨0, by omega, rfl⟩
  case round =>
    obtain ⟨k, hk, rfl⟩ := hrel
    by_cases h20 : n ≤ 20
    · by_cases hlt : k < n
      · have hkl : k < l.length := by rw [← HLN.out]; exact hlt
        obtain ⟨b, off, rfl, hbB, c0, c1, c2⟩ := sl_rg HL.out hlt hkl
        have hz := HZ.out l[k] (List.getElem_mem _)
        generalize l[k] = r at *
        obtain ⟨P, K, D⟩ := r
        simp only [] at c0 c1 c2 hz
        unfold maxLen at hz
        clear hkl
        by_cases g1 : 600 < D.size
        · by_cases g2 : D.size ≤ 65536
          · go_wp2
            go_ret
            exact ⟨true, rfl, by simp, rfl⟩
          · by_cases g3 : 70000 < D.size
            · go_wp2
              go_ret
              exact ⟨true, rfl, by simp, rfl⟩
            · go_wp2
              go_round
              case rel => exact ⟨k + 1, by omega, by go_num⟩
              case measure => simp [intOf]; omega
        · have g4 : ¬ 70000 < D.size := by omega
          go_wp2
          go_round
          case rel => exact ⟨k + 1, by omega, by go_num⟩
          case measure => simp [intOf]; omega
      · go_wp2
        go_ret
        exact ⟨_, rfl, fun _ => h20, rfl⟩
    · by_cases hlt : k < n
      · go_wp2
        go_ret
        exact ⟨_, rfl, fun h => by simp at h <;> omega, rfl⟩
      · go_wp2
        go_ret
        exact ⟨_, rfl, fun h => by simp at h <;> omega, rfl⟩
def keptR : Rg := ⟨16, 3, ⟨#[1, 2, 3, 4, 5, 6, 7, 8, 9]⟩⟩
def keptA (b : Nat) : Ar := ⟨16, 3, b, [1, 2, 3, 4, 5, 6, 7, 8, 9]⟩
theorem kept_one {L : List Ar} (h : (L.map keyA).Perm ([keptR].map keyR)) : ∃ b, L = [keptA b] := by
  have hl := h.length_eq
  simp only [List.length_map, List.length_singleton] at hl
  match L, hl with
  | [a], _ =>
    have : keyA a = keyR keptR := by
      have h1 : keyA a ∈ [keptR].map keyR := h.mem_iff.1 (by simp)
      simpa using h1
    obtain ⟨p, k, b, s⟩ := a
    unfold keyA keyR keptR at this
    simp only [Prod.mk.injEq] at this
    obtain ⟨rfl, rfl, rfl⟩ := this
    exact ⟨b, rfl⟩
theorem kept_l1 (b : Nat) : loadA [keptA b] 16 8 = (578437695752307201, 0) := by rfl
theorem kept_l2 (b : Nat) : loadA [keptA b] 17 8 = (650777868590383874, 0) := by rfl
theorem kept_l3 (b : Nat) : loadA [keptA b] 18 8 = (0, 4) := by rfl
theorem kept_s (b : Nat) : storeE [keptA b] 24 1 = 0 := by rfl
theorem kept_t (b : Nat) : textA (storeA [keptA b] 24 1 258) 23 2 = (⟨#[8, 2]⟩, 0) := by rfl
set_option maxRecDepth 100000 in
set_option maxHeartbeats 4000000 in
theorem kept_any (w : World) : Calls Try.prog 8 #[] w (RetB (.bool true) w) := by
  obtain ⟨X, hX⟩ : ∃ X, X = w.heap.size := ⟨_, rfl⟩
  obtain ⟨W, hW⟩ : ∃ W, W = w.alloc (.cells #[.int .u64 16, .int .i64 3, .string ⟨#[1, 2, 3, 4, 5, 6, 7, 8, 9]⟩] 42) := ⟨_, rfl⟩
  have hWB : Below w.heap.size w W := by rw [hW]; exact (Below.refl _ _).alloc (Nat.le_refl _) _
  have hXW : W.heap[X]? = some (.cells #[.int .u64 16, .int .i64 3, .string ⟨#[1, 2, 3, 4, 5, 6, 7, 8, 9]⟩] 42 (0, 0)) := by rw [hW, hX]; exact (MapKept.heap_alloc w _).1
  have hsl : SL rgC 3 W W.heap.size (some ⟨X, 0, none⟩) 1 [keptR] := ⟨rfl, fun _ => ⟨X, 0, rfl, lt_of_block hXW, fun k hk j hj => by
    have hk0 : k = 0 := by simp at hk; exact hk
    subst hk0
    rw [World.cell?, hXW]
    have : j = 0 ∨ j = 1 ∨ j = 2 := by omega
    rcases this with rfl | rfl | rfl <;> rfl⟩⟩
  have HN := Lib.hid (New_walk (some ⟨X, 0, none⟩) 1 1 [keptR] W hsl (by decide) (by intro r hr; rw [List.mem_singleton.1 hr]; decide) (by intro r hr; rw [List.mem_singleton.1 hr]; decide))
  have HWB := Lib.hid hWB
  have HW := Lib.hid hW
  have HX := Lib.hid hX
  clear hX hW hWB hXW hsl
  go_enter Try.func8, Try.ntmps8
  go_wp2_with fail
  rw [← HW.out, ← HX.out]
  refine HN.out.mono ?_
  rintro e w1 (⟨er, her, rfl, hb, hbad⟩ | ⟨p, L, rfl, hms, hg, hk, hb⟩)
  · exfalso
    rcases hbad with ⟨r, hr, hn⟩ | h2
    · rw [List.mem_singleton.1 hr] at hn
      exact hn ⟨⟨by decide, by decide, by decide, by decide⟩, by decide⟩
    · simp at h2
  · obtain ⟨b, rfl⟩ := kept_one hk
    have HB := Lib.hid (after HWB.out hb)
    have HM := Lib.hid hms
    have HG := Lib.hid hg
    clear hb hms hg hk HN
    have HL1 := fun w (h : MS w W.heap.size p [keptA b]) => Load_any h HG.out 16 8 (by decide)
    have HL2 := fun w (h : MS w W.heap.size p [keptA b]) => Load_any h HG.out 17 8 (by decide)
    have HL3 := fun w (h : MS w W.heap.size p [keptA b]) => Load_any h HG.out 18 8 (by decide)
    have HS := fun w (h : MS w W.heap.size p [keptA b]) => Store_any h HG.out 24 1 258 (by decide) (by decide)
    have HT := fun w (h : MS w W.heap.size p (storeA [keptA b] 24 1 258)) => Text_any h (good_store HG.out 24 1 258) 23 2 (by decide)
    simp only [kept_l1] at HL1
    simp only [kept_l2] at HL2
    simp only [kept_l3] at HL3
    unfold StoreP at HS
    simp only [kept_s] at HS
    simp only [kept_t] at HT
    replace HL1 := Lib.hid HL1
    replace HL2 := Lib.hid HL2
    replace HL3 := Lib.hid HL3
    replace HS := Lib.hid HS
    replace HT := Lib.hid HT
    go_wp2_with fail
    refine (HL1.out _ HM.out).mono ?_
    rintro e w2 ⟨rfl, hb⟩
    replace HM := Lib.hid (HM.out.below hb)
    replace HB := Lib.hid (after HB.out hb)
    clear hb
    go_wp2_with fail
    refine (HL2.out _ HM.out).mono ?_
    rintro e w3 ⟨rfl, hb⟩
    replace HM := Lib.hid (HM.out.below hb)
    replace HB := Lib.hid (after HB.out hb)
    clear hb
    go_wp2_with fail
    refine (HL3.out _ HM.out).mono ?_
    rintro e w4 ⟨rfl, hb⟩
    replace HM := Lib.hid (HM.out.below hb)
    replace HB := Lib.hid (after HB.out hb)
    clear hb
    go_wp2_with fail
    refine (HS.out _ HM.out).mono ?_
    rintro e w5 ⟨rfl, hm5, hb⟩
    replace HM := Lib.hid hm5
    replace HB := Lib.hid (HB.out.trans (hb.mono HWB.out.size))
    clear hb hm5
    go_wp2_with fail
    refine (HT.out _ HM.out).mono ?_
    rintro e w6 ⟨rfl, hb⟩
    replace HB := Lib.hid (after HB.out hb)
    clear hb
    go_wp2
    go_ret
    exact ⟨rfl, HB.out⟩
end Go.Proofs.Ytogigmehclmjcaa
