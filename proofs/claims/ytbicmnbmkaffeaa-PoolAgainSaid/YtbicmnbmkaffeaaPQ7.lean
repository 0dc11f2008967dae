/- pool: Size, take, Take. -/
import Derived.Test.YtbicmnbmkaffeaaPQ6
namespace Go.Proofs.Ytbicmnbmkaffeaa
set_option linter.unusedVariables false
set_option linter.unusedSimpArgs false
open Go.ChangeShapes Go.WideShapes Go.Deep Go.RowKit

theorem owns_form {w : World} {base : Nat} {e : TypeId} {sz : Nat} {v : Value} {n : Nat} {xs : List Value} (h : w.ownsRow base e sz v n xs) : ∃ a c, v = .slice a n c := by
  rcases h.2 with ⟨rfl, h0⟩ | ⟨g, cap, cur, rfl, -⟩
  · rw [h0]; exact ⟨_, _, rfl⟩
  · exact ⟨_, _, rfl⟩
set_option maxRecDepth 100000 in
set_option maxHeartbeats 1000000 in
theorem Size_any {w : World} {base p : Nat} {l : List Lt} (h : PS w base p l) : Calls Try.prog 17 #[.pointer (some ⟨p, 0, none⟩)] w (Ret (.int .i64 (l.length : Nat)) w) := by
  obtain ⟨lv, mv, h1, h2, h3, h4⟩ := h
  obtain ⟨a, c, rfl⟩ := owns_form h3
  have w0 : w.cell? ⟨p, 0, none⟩ = some (.slice a l.length c) := by rw [World.cell?, h1]; rfl
  clear h1 h3 h4
  generalize l.length = n at *
  go_enter Try.func17, Try.ntmps17
  go_wp2
  go_ret
  exact ⟨rfl, rfl⟩
/-- A pool from which all was taken. -/
def PS0 (w : World) (base p : Nat) : Prop :=
  ∃ mv, w.heap[p]? = some (.cells #[.slice none 0 0, mv] 65 (0, 0)) ∧ base ≤ p ∧ (mv = .map none ∨ ∃ b, mv = .map (some b) ∧ base ≤ b ∧ PM w b [])
theorem PS0.ps {w : World} {base p : Nat} (h : PS0 w base p) : PS w base p [] := by
  obtain ⟨mv, h1, h2, h3⟩ := h
  refine ⟨_, mv, h1, h2, ⟨rfl, .inl ⟨rfl, rfl⟩⟩, ?_⟩
  rcases h3 with h3 | h3
  · exact .inl ⟨h3, rfl⟩
  · exact .inr h3
def TakeP (base p : Nat) (l : List Lt) (w : World) (e : Ending) (w' : World) : Prop := ∃ lv, e = .returned lv ∧ w'.ownsRow base 31 3 lv l.length (l.flatMap litC) ∧ PS0 w' base p ∧ Below base w w' ∧ ∀ (k : Nat) (cs : Array Value) (T : TypeId), T ≠ 65 → w.heap[k]? = some (.cells cs T (0, 0)) → w'.heap[k]? = w.heap[k]?
set_option maxRecDepth 100000 in
set_option maxHeartbeats 4000000 in
theorem take_any {w : World} {base p : Nat} {l : List Lt} (h : PS w base p l) : Calls Try.prog 35 #[.pointer (some ⟨p, 0, none⟩)] w (TakeP base p l w) := by
  obtain ⟨lv, mv, h1, h2, h3, h4⟩ := h
  have hp := lt_of_block h1
  have w0 : w.cell? ⟨p, 0, none⟩ = some lv := by rw [World.cell?, h1]; rfl
  have w1 : w.cell? ⟨p, 1, none⟩ = some mv := by rw [World.cell?, h1]; rfl
  have wf : w.frozen? ⟨p, 0, none⟩ = false := by rw [World.frozen?, h1]; rfl
  obtain ⟨W, hW⟩ : ∃ W, W = w.setCell ⟨p, 0, none⟩ (.slice none 0 0) := ⟨_, rfl⟩
  have hWp : W.heap[p]? = some (.cells #[.slice none 0 0, mv] 65 (0, 0)) := by rw [hW]; unfold World.setCell; simp [h1, Array.getElem?_modify]
  have hne : ∀ k, k ≠ p → W.heap[k]? = w.heap[k]? := fun k hk => by rw [hW]; exact Below.heap_setCell _ _ _ _ hk
  have hWB : Below base w W := by rw [hW]; exact (Below.refl _ _).setCell h2 _
  have hown : W.ownsRow base 31 3 lv l.length (l.flatMap litC) := by
    obtain ⟨k1, k2⟩ := h3
    refine ⟨k1, ?_⟩
    rcases k2 with k2 | ⟨g, cap, cur, e1, e2, e3, e4⟩
    · exact .inl k2
    · refine .inr ⟨g, cap, cur, e1, e2, (hne g ?_).trans e3, e4⟩
      intro e; rw [e, h1] at e3; simp at e3
  have W1 : W.cell? ⟨p, 1, none⟩ = some mv := by rw [World.cell?, hWp]; rfl
  obtain ⟨a, c, hlv⟩ := owns_form h3
  rcases h4 with ⟨rfl, rfl⟩ | ⟨b, rfl, e2, e3⟩
  · have hcl := clear_nil W
    have HFR : Hid (∀ (k : Nat) (cs : Array Value) (T : TypeId), T ≠ 65 → w.heap[k]? = some (.cells cs T (0, 0)) → W.heap[k]? = w.heap[k]?) := Lib.hid fun k cs T hT hk => hne k (fun e => by rw [e, h1] at hk; simp at hk; exact hT hk.2.symm)
    have HW := Lib.hid hW
    have HP := Lib.hid (show PS0 W base p from ⟨_, hWp, h2, .inl rfl⟩)
    have HO := Lib.hid hown
    have HB := Lib.hid hWB
    rw [hlv] at w0
    have HL := Lib.hid hlv
    rw [hW] at hcl W1
    clear hW hWp hne hWB hown h1 h3 hlv
    go_enter Try.func35, Try.ntmps35
    go_wp2
    go_ret
    exact ⟨lv, by rw [HL.out]; rfl, by have := HO.out; rwa [HW.out] at this, by have := HP.out; rwa [HW.out] at this, by have := HB.out; rwa [HW.out] at this, by have := HFR.out; rwa [HW.out] at this⟩
  · have hbp : b ≠ p := by intro e; subst e; obtain ⟨es, c, h, -⟩ := e3; rw [h1] at h; cases h
    have hPM : PM W b l := by obtain ⟨es, c, h5, h6⟩ := e3; exact ⟨es, c, (hne b hbp).trans h5, h6⟩
    obtain ⟨o, hcl, haf⟩ := clear_map hPM
    have hbW : b < W.heap.size := by obtain ⟨es, c, h5, -⟩ := hPM; exact lt_of_block h5
    obtain ⟨V, hV⟩ : ∃ V, V = ChangeMaps.setBlock W b o := ⟨_, rfl⟩
    have hVn : ∀ k, k ≠ b → V.heap[k]? = W.heap[k]? := by intro k hk; rw [hV]; exact Array.getElem?_setIfInBounds_ne (Ne.symm hk)
    have hVb : V.heap[b]? = some o := by rw [hV]; exact Array.getElem?_setIfInBounds_self_of_lt hbW
    have hVB : Below base w V := hWB.trans ⟨by rw [hV]; rfl, by rw [hV]; rfl, by rw [hV]; rfl, by rw [hV]; simp [ChangeMaps.setBlock], fun k hk => hVn k (by omega)⟩
    have hVo : V.ownsRow base 31 3 lv l.length (l.flatMap litC) := by
      obtain ⟨k1, k2⟩ := hown
      refine ⟨k1, ?_⟩
      rcases k2 with k2 | ⟨g, cap, cur, e1, e2, e4, e5⟩
      · exact .inl k2
      · refine .inr ⟨g, cap, cur, e1, e2, (hVn g ?_).trans e4, e5⟩
        intro e; subst e; obtain ⟨es, c, h5, -⟩ := hPM; rw [h5] at e4; cases e4
    have HFR : Hid (∀ (k : Nat) (cs : Array Value) (T : TypeId), T ≠ 65 → w.heap[k]? = some (.cells cs T (0, 0)) → V.heap[k]? = w.heap[k]?) := Lib.hid fun k cs T hT hk => (hVn k (fun e => by subst e; obtain ⟨es, c, h5, -⟩ := e3; rw [hk] at h5; cases h5)).trans (hne k (fun e => by rw [e, h1] at hk; simp at hk; exact hT hk.2.symm))
    have HV := Lib.hid hV
    have HP := Lib.hid (show PS0 V base p from ⟨_, (hVn p (Ne.symm hbp)).trans hWp, h2, .inr ⟨b, rfl, e2, haf V hVb⟩⟩)
    have HO := Lib.hid hVo
    have HB := Lib.hid hVB
    rw [hlv] at w0
    have HL := Lib.hid hlv
    rw [← hV, hW] at hcl
    rw [hW] at W1
    clear hW hWp hne hWB hown h1 h3 hlv hV hVn hVb hVo hVB hPM haf e3
    go_enter Try.func35, Try.ntmps35
    go_wp2
    go_ret
    rw [← HL.out]
    exact ⟨_, rfl, HO.out, HP.out, HB.out, HFR.out⟩
set_option maxRecDepth 100000 in
set_option maxHeartbeats 1000000 in
theorem Take_any {w : World} {base p : Nat} {l : List Lt} (h : PS w base p l) : Calls Try.prog 16 #[.pointer (some ⟨p, 0, none⟩)] w (TakeP base p l w) := by
  have HT := Lib.hid (take_any h)
  clear h
  go_enter Try.func16, Try.ntmps16
  go_wp2_with (go_at_call 35; ((with_reducible refine (HT.out).mono ?_); rintro e w1 ⟨lv, rfl, hh⟩; have HH := Lib.hid hh; clear hh))
  go_ret
  exact ⟨lv, rfl, HH.out⟩
end Go.Proofs.Ytbicmnbmkaffeaa
