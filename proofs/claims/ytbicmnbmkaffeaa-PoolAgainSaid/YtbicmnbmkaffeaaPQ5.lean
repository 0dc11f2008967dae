/- pool: add, to a pool that has no map yet. -/
import Derived.Test.YtbicmnbmkaffeaaPQ4
namespace Go.Proofs.Ytbicmnbmkaffeaa
set_option linter.unusedVariables false
set_option linter.unusedSimpArgs false
open Go.ChangeShapes Go.WideShapes Go.Deep Go.RowKit

set_option maxRecDepth 100000 in
set_option maxHeartbeats 4000000 in
theorem add_first (base p : Nat) (l : List Lt) (x : Lt) (lv : Value) (w : World) (h1 : w.heap[p]? = some (.cells #[lv, .map none] 65 (0, 0))) (hp : base ≤ p) (hown : w.ownsRow base 31 3 lv l.length (l.flatMap litC))
    (hl : l = []) (hg : ∀ y ∈ l, GoodL y) (hx : GoodL x) (hn : x ∉ l) (h64 : l.length ≤ 64) :
    Calls Try.prog 34 #[.pointer (some ⟨p, 0, none⟩), litV x] w (AddP base p l x w) := by
  obtain ⟨i0, hi0, hz0, hz1, hz2⟩ := info_parts info_lit
  have hxx := hx
  obtain ⟨s, d, v⟩ := x
  obtain ⟨X, hX⟩ : ∃ X, X = w.heap.size := ⟨_, rfl⟩
  obtain ⟨b, hbe⟩ : ∃ b, b = w.heap.size + 1 := ⟨_, rfl⟩
  have hb : base ≤ b := by have := lt_of_block h1; omega
  have hpl := lt_of_block h1
  obtain ⟨A0, hA0⟩ : ∃ A0, A0 = w.setCell ⟨p, 1, none⟩ (.map (some b)) := ⟨_, rfl⟩
  obtain ⟨A1, hA1⟩ : ∃ A1, A1 = A0.alloc (.cells #[.string s, .int .i64 d, .int .u64 v] 31) := ⟨_, rfl⟩
  obtain ⟨W, hW⟩ : ∃ W, W = A1.alloc (.map #[] 0) := ⟨_, rfl⟩
  have s0 : A0.heap.size = w.heap.size := by rw [hA0]; simp [World.setCell]
  have s1 : A1.heap.size = w.heap.size + 1 := by rw [hA1]; simp [s0]
  have q0 : A0.heap[p]? = some (.cells #[lv, .map (some b)] 65 (0, 0)) := by rw [hA0]; unfold World.setCell; simp [h1, Array.getElem?_modify]
  have hb0 : Below base w A0 := by rw [hA0]; exact (Below.refl _ _).setCell hp _
  have hbl : Below A0.heap.size A0 W := by rw [hW, hA1]; exact ((Below.refl _ _).alloc (Nat.le_refl _) _).alloc (by simp) _
  have hx0 : W.heap[X]? = some (.cells #[.string s, .int .i64 d, .int .u64 v] 31 (0, 0)) := by rw [hW, Below.heap_alloc _ _ _ (by omega), hA1, hX, ← s0]; exact (MapKept.heap_alloc A0 _).1
  have hp0 : W.heap[p]? = some (.cells #[lv, .map (some b)] 65 (0, 0)) := (hbl.block p (by omega)).trans q0
  have hmW : PM W b l := ⟨#[], 0, by rw [hW, hbe, ← s1]; exact (MapKept.heap_alloc A1 _).1, by rw [hl]; rfl⟩
  have hoA : A0.ownsRow base 31 3 lv l.length (l.flatMap litC) := by
    obtain ⟨k1, k2⟩ := hown
    refine ⟨k1, ?_⟩
    rcases k2 with k2 | ⟨g, cap, cur, e1, e2, e3, e4⟩
    · exact .inl k2
    · refine .inr ⟨g, cap, cur, e1, e2, ?_, e4⟩
      rw [hA0, Below.heap_setCell _ _ _ _ ?_]
      · exact e3
      · intro e; simp only [] at e; rw [e, h1] at e3; simp at e3
  have hoW := owns_below hoA hbl
  have hWb : Below base w W := hb0.trans (hbl.mono (by omega))
  have c0 : W.cell? ⟨X, 0, none⟩ = some (.string s) := by rw [World.cell?, hx0]; rfl
  have c1 : W.cell? ⟨X, 1, none⟩ = some (.int .i64 d) := by rw [World.cell?, hx0]; rfl
  have c2 : W.cell? ⟨X, 2, none⟩ = some (.int .u64 v) := by rw [World.cell?, hx0]; rfl
  have p0 : W.cell? ⟨p, 0, none⟩ = some lv := by rw [World.cell?, hp0]; rfl
  have p1 : W.cell? ⟨p, 1, none⟩ = some (.map (some b)) := by rw [World.cell?, hp0]; rfl
  obtain ⟨o, hput, hafter⟩ := put_new (w := W.drew) (b := b) (l := l) hmW hg ⟨s, d, v⟩ hxx hn
  have w0 : w.cell? ⟨p, 0, none⟩ = some lv := by rw [World.cell?, h1]; rfl
  have w1 : w.cell? ⟨p, 1, none⟩ = some (.map none) := by rw [World.cell?, h1]; rfl
  have w1f : w.frozen? ⟨p, 1, none⟩ = false := by rw [World.frozen?, h1]; rfl
  have hmm := @run_makeMap Try.prog
  have wp : p < w.heap.size := lt_of_block h1
  have qn : ∀ (w : World), (Sem.run Try.prog (binOp .eql 61 (.map none) (.map none)) w) = .ok (.bool true) w := fun w => run_eql_map_nil (P := Try.prog) w _ _ _ none Try.underlying61
  have HWB := Lib.hid hWb
  have HW : Hid (W = ((w.setCell ⟨p, 1, none⟩ (.map (some (w.heap.size + 1)))).alloc (.cells #[.string s, .int .i64 d, .int .u64 v] 31)).alloc (.map #[] 0)) := Lib.hid (by rw [hW, hA1, hA0, hbe])
  have HBE := Lib.hid hbe
  have hs1 : X ≠ b ∧ X < b := by omega
  have HX := Lib.hid hX
  have hXp : X ≠ p := by have := lt_of_block h1; omega
  have hXW : X < W.heap.size := lt_of_block hx0
  have hpW : p < W.heap.size := lt_of_block hp0
  have hbW : b < W.heap.size := by obtain ⟨es, c, h, -⟩ := hmW; exact lt_of_block h
  obtain ⟨n, hln⟩ : ∃ n, n = l.length := ⟨_, rfl⟩
  have hlen : ∃ a c, lv = .slice a n c ∧ (n = 0 ∨ a ≠ none) := by
    rw [hln]
    rcases hown.2 with ⟨rfl, h0⟩ | ⟨g, cap, cur, rfl, -⟩
    · rw [h0]; exact ⟨_, _, rfl, .inl rfl⟩
    · exact ⟨_, _, rfl, .inr (by simp)⟩
  have HL := Lib.hid hln
  rw [← hln] at hput h64 hoW
  obtain ⟨la, lc, hlv, -⟩ := hlen
  subst hlv
  have HM := Lib.hid hmW
  have FRW : Hid (Fr w W) := Lib.hid (Fr.trans (fun k cs T h1' _ hk => by rw [hA0]; exact Below.heap_setCell _ _ _ _ (fun e => by simp only [] at e; rw [e, h1] at hk; simp at hk; exact h1' hk.2.symm)) (Fr.of_below hbl))
  clear hW hX hbl hln hown hmW hA0 hA1 hbe s0 s1 q0 hb0 hoA hWb hl
  go_enter Try.func34, Try.ntmps34
  go_wp2_with fail
  rw [← HW.out, ← HBE.out, ← HX.out]
  go_still_tail 6, (by kernel_rfl)
  change wpList _ _ _ _ _ W.drew
  have c0' : W.drew.cell? ⟨X, 0, none⟩ = some (.string s) := c0
  go_wp2_with fail
  obtain ⟨V, hV⟩ : ∃ V, V = ChangeMaps.setBlock W.drew b o := ⟨_, rfl⟩
  have hbp : b ≠ p := by intro e; subst e; obtain ⟨es, c, h⟩ := HM.out; rw [hp0] at h; cases h.1
  have hbX : b ≠ X := by intro e; subst e; obtain ⟨es, c, h⟩ := HM.out; rw [hx0] at h; cases h.1
  have hne : ∀ k, k ≠ b → V.heap[k]? = W.heap[k]? := by intro k hk; rw [hV]; exact Array.getElem?_setIfInBounds_ne (Ne.symm hk)
  have hVs : V.heap.size = W.heap.size := by rw [hV]; exact Array.size_setIfInBounds
  have hVb : V.heap[b]? = some o := by rw [hV]; exact Array.getElem?_setIfInBounds_self_of_lt hbW
  have hVp : V.heap[p]? = some (.cells #[.slice la n lc, .map (some b)] 65 (0, 0)) := (hne p (Ne.symm hbp)).trans hp0
  have hVX : V.heap[X]? = some (.cells #[.string s, .int .i64 d, .int .u64 v] 31 (0, 0)) := (hne X (Ne.symm hbX)).trans hx0
  have v0 : V.cell? ⟨X, 0, none⟩ = some (.string s) := by rw [World.cell?, hVX]; rfl
  have v1 : V.cell? ⟨X, 1, none⟩ = some (.int .i64 d) := by rw [World.cell?, hVX]; rfl
  have v2 : V.cell? ⟨X, 2, none⟩ = some (.int .u64 v) := by rw [World.cell?, hVX]; rfl
  have vp : V.cell? ⟨p, 0, none⟩ = some (.slice la n lc) := by rw [World.cell?, hVp]; rfl
  have vf : V.frozen? ⟨p, 0, none⟩ = false := by rw [World.frozen?, hVp]; rfl
  have hVo : V.ownsRow base 31 3 (.slice la n lc) n (l.flatMap litC) := by
    obtain ⟨g1, g2⟩ := hoW
    refine ⟨g1, ?_⟩
    rcases g2 with g2 | ⟨g, cap, cur, k1, k2, k3, k4⟩
    · exact .inl g2
    · refine .inr ⟨g, cap, cur, k1, k2, (hne g ?_).trans k3, k4⟩
      intro e; subst e; obtain ⟨es, c, h⟩ := HM.out; rw [k3] at h; cases h.1
  have hVB : Below base w V := by
    have h0 : Below base w W := HWB.out
    refine h0.trans ⟨by rw [hV]; rfl, by rw [hV]; rfl, by rw [hV]; rfl, by omega, fun k hk => hne k (by omega)⟩
  have hpv : p < V.heap.size := lt_of_block hVp
  have hXv : X < V.heap.size := lt_of_block hVX
  have hbv : b < V.heap.size := lt_of_block hVb
  have hpg : (Value.slice la n lc).ownBlock ≠ some p := by
    intro e
    rcases hVo.2 with ⟨h, -⟩ | ⟨g, cap, cur, k1, -, k3, -⟩
    · rw [h] at e; cases e
    · rw [k1] at e
      simp only [Value.ownBlock, Option.some.injEq] at e
      subst e; rw [hVp] at k3; simp at k3
  have hbg : (Value.slice la n lc).ownBlock ≠ some b := by
    intro e
    rcases hVo.2 with ⟨h, -⟩ | ⟨g, cap, cur, k1, -, k3, -⟩
    · rw [h] at e; cases e
    · rw [k1] at e
      simp only [Value.ownBlock, Option.some.injEq] at e
      subst e
      obtain ⟨es, c, h, -⟩ := hafter V hVb
      rw [h] at k3; cases k3
  have hog : ∀ k, (Value.slice la n lc).ownBlock = some k → base ≤ k := by
    intro k e
    rcases hVo.2 with ⟨h, -⟩ | ⟨g, cap, cur, k1, k2, k3, -⟩
    · rw [h] at e; cases e
    · rw [k1] at e
      simp only [Value.ownBlock, Option.some.injEq] at e
      subst e; exact k2
  have hgt : ∀ k, (Value.slice la n lc).ownBlock = some k → ∃ cur, V.heap[k]? = some (.cells cur 31 (0, 0)) := by
    intro k e
    rcases hVo.2 with ⟨h, -⟩ | ⟨g, cap, cur, k1, k2, k3, -⟩
    · rw [h] at e; cases e
    · rw [k1] at e
      simp only [Value.ownBlock, Option.some.injEq] at e
      subst e; exact ⟨cur, k3⟩
  have hVF : Fr w V := FRW.out.trans fun k cs T _ _ hk => hne k (fun e => by subst e; obtain ⟨es, c, h⟩ := HM.out; rw [hk] at h; cases h.1)
  have hbase : base ≤ V.heap.size := by omega
  rw [← hV]
  have HVB := Lib.hid hVB
  have HVF := Lib.hid hVF
  have HGT := Lib.hid hgt
  have HVp := Lib.hid hVp
  have HVb := Lib.hid hVb
  have HAF := Lib.hid hafter
  have HH0 := Lib.hid hVo
  clear hV hne hafter hVB hVF hgt hVp hVX hVb hp0 hx0 hput hoW h1 c0 c1 c2 p0 p1 w0 w1 qn hVs c0'
  go_region_law ((refine step_append_lies _ (by rfl) _ _ _ (by rfl) base 31 i0 _ 3 32 Try.underlying35 hi0 hz0 hz1 hz2 rfl (by omega) (.slice la n lc) n (l.flatMap litC) (by rfl) ((HH0.out.alloc _).drew) ⟨V.heap.size, 0, none⟩ 1 1 (litC ⟨s, d, v⟩) (by rfl) (by rfl) (World.news_of_block (cs := #[.string s, .int .i64 d, .int .u64 v]) (t := 31) (fr := (0, 0)) (heap_alloc_new V _)) (by simp [litC, Value.oneCell']) (by omega) (by unfold maxLen; omega) (by omega) (by simp; omega) (V.heap.size + 1) (by simp) ?_; intro g cap w3 hown3 hgrow hat hlt; have y0 : w3.cell? ⟨p, 0, none⟩ = some (.slice la n lc) := (hgrow.cell_far _ (by simp; omega) (Ne.symm hpg)).trans ((World.cell?_alloc_past (w := V) _ p 0 hpv).trans vp); have y1 : w3.frozen? ⟨p, 0, none⟩ = false := (hgrow.frozen_far _ (by simp; omega) (Ne.symm hpg)).trans ((World.frozen?_alloc_past (w := V) _ p 0 hpv).trans vf)))
  all_goals
    go_wp2
    go_ret
    obtain ⟨q1, q2, q3⟩ := add_end _ HVp.out HVb.out HAF.out hp hb hbp HVB.out hbase hpg hbg hog hown3 HL.out hgrow HVF.out HGT.out
    exact ⟨by rw [← HL.out]; rfl, q1, q2, q3⟩
end Go.Proofs.Ytbicmnbmkaffeaa
