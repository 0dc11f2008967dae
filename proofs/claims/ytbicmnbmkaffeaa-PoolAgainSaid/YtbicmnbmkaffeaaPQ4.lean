/- pool: add. -/
import Derived.Test.YtbicmnbmkaffeaaPQ3
import Derived.StillTailTactics
import Derived.Deep.RegionLaw
namespace Go.Proofs.Ytbicmnbmkaffeaa
set_option linter.unusedVariables false
set_option linter.unusedSimpArgs false
open Go.ChangeShapes Go.WideShapes Go.Deep Go.RowKit

theorem info_lit : (Try.prog.info? 31).map (fun i => (i.zero, i.size, i.bytes)) = some (some (.agg #[.string ByteArray.empty, .int .i64 0, .int .u64 0]), 3, 32) := by kernel_rfl
/-- What is a row neither of a pool nor of literals stays. -/
def Fr (w w' : World) : Prop := ∀ (k : Nat) (cs : Array Value) (T : TypeId), T ≠ 65 → T ≠ 31 → w.heap[k]? = some (.cells cs T (0, 0)) → w'.heap[k]? = w.heap[k]?
theorem Fr.trans {a b c : World} (h : Fr a b) (g : Fr b c) : Fr a c := fun k cs T h1 h2 hk => (g k cs T h1 h2 ((h k cs T h1 h2 hk).trans hk)).trans (h k cs T h1 h2 hk)
theorem Fr.of_below {w w' : World} (h : Below w.heap.size w w') : Fr w w' := fun k cs T _ _ hk => h.block k (lt_of_block hk)
theorem add_end {w V w3 : World} {base p b g cap n : Nat} {lv : Value} {l : List Lt} {x : Lt} {o : Obj} (U : Obj) (hVp : V.heap[p]? = some (.cells #[lv, .map (some b)] 65 (0, 0))) (hVb : V.heap[b]? = some o) (haf : ∀ w', w'.heap[b]? = some o → PM w' b (l ++ [x]))
    (hp : base ≤ p) (hb : base ≤ b) (hpb : b ≠ p) (hVB : Below base w V) (hbase : base ≤ V.heap.size) (hpg : lv.ownBlock ≠ some p) (hbg : lv.ownBlock ≠ some b) (hog : ∀ k, lv.ownBlock = some k → base ≤ k)
    (hown : w3.ownsRow base 31 3 (.slice (some ⟨g, 0, none⟩) (n + 1) cap) (n + 1) (l.flatMap litC ++ litC x)) (hn : n = l.length) (hg : (V.alloc U).drew.grownBy w3 lv.ownBlock) (hF : Fr w V) (hgt : ∀ k, lv.ownBlock = some k → ∃ cur, V.heap[k]? = some (.cells cur 31 (0, 0))) :
    PS (w3.setCell ⟨p, 0, none⟩ (.slice (some ⟨g, 0, none⟩) (n + 1) cap)) base p (l ++ [x]) ∧ Below base w (w3.setCell ⟨p, 0, none⟩ (.slice (some ⟨g, 0, none⟩) (n + 1) cap)) ∧ Fr w (w3.setCell ⟨p, 0, none⟩ (.slice (some ⟨g, 0, none⟩) (n + 1) cap)) := by
  have h3p : w3.heap[p]? = some (.cells #[lv, .map (some b)] 65 (0, 0)) := by
    rw [hg.block p (by have := lt_of_block hVp; show p < (V.alloc U).heap.size; simp; omega) (Ne.symm hpg)]
    exact (Below.heap_alloc V U p (lt_of_block hVp)).trans hVp
  have h3b : w3.heap[b]? = some o := by
    rw [hg.block b (by have := lt_of_block hVb; show b < (V.alloc U).heap.size; simp; omega) (Ne.symm hbg)]
    exact (Below.heap_alloc V U b (lt_of_block hVb)).trans hVb
  constructor
  · refine ⟨.slice (some ⟨g, 0, none⟩) (n + 1) cap, .map (some b), ?_, hp, ?_, .inr ⟨b, rfl, hb, haf _ ?_⟩⟩
    · unfold World.setCell
      simp [h3p, Array.getElem?_modify]
    · rw [List.flatMap_append, List.length_append, ← hn, show ([x] : List Lt).flatMap litC = litC x from by simp]
      obtain ⟨k1, k2⟩ := hown
      refine ⟨by simpa using k1, ?_⟩
      rcases k2 with ⟨-, k2⟩ | ⟨g', cap', cur, e1, e2, e3, e4⟩
      · omega
      · refine .inr ⟨g', cap', cur, e1, e2, ?_, e4⟩
        rw [Below.heap_setCell _ _ _ _ ?_]
        · exact e3
        · intro e
          simp only [] at e
          rw [e, h3p] at e3; simp at e3
    · rw [Below.heap_setCell _ _ _ _ hpb]; exact h3b
  · refine ⟨((hVB.alloc hbase U).drew.grown hg (by show base ≤ (V.alloc U).heap.size; simp; omega) hog).setCell hp _, ?_⟩
    refine hF.trans fun k cs T h1 h2 hk => ?_
    have hkl := lt_of_block hk
    rw [Below.heap_setCell _ _ _ _ (fun e => by simp only [] at e; rw [e, hVp] at hk; simp at hk; exact h1 hk.2.symm)]
    rw [hg.block k (by show k < (V.alloc U).heap.size; simp; omega) (fun e => by obtain ⟨cur, hc⟩ := hgt k e.symm; rw [hc] at hk; simp at hk; exact h2 hk.2.symm)]
    exact Below.heap_alloc V U k hkl
def AddP (base p : Nat) (l : List Lt) (x : Lt) (w : World) (e : Ending) (w' : World) : Prop := e = .returned (.int .i64 (l.length : Nat)) ∧ PS w' base p (l ++ [x]) ∧ Below base w w' ∧ Fr w w'
set_option maxRecDepth 100000 in
set_option maxHeartbeats 4000000 in
theorem add_some (base p b : Nat) (l : List Lt) (x : Lt) (lv : Value) (w : World) (h1 : w.heap[p]? = some (.cells #[lv, .map (some b)] 65 (0, 0))) (hp : base ≤ p) (hown : w.ownsRow base 31 3 lv l.length (l.flatMap litC))
    (hb : base ≤ b) (hm : PM w b l) (hg : ∀ y ∈ l, GoodL y) (hx : GoodL x) (hn : x ∉ l) (h64 : l.length ≤ 64) :
    Calls Try.prog 34 #[.pointer (some ⟨p, 0, none⟩), litV x] w (AddP base p l x w) := by
  obtain ⟨i0, hi0, hz0, hz1, hz2⟩ := info_parts info_lit
  have hxx := hx
  obtain ⟨s, d, v⟩ := x
  obtain ⟨W, hW⟩ : ∃ W, W = w.alloc (.cells #[.string s, .int .i64 d, .int .u64 v] 31) := ⟨_, rfl⟩
  obtain ⟨X, hX⟩ : ∃ X, X = w.heap.size := ⟨_, rfl⟩
  have hbl : Below w.heap.size w W := by rw [hW]; exact (Below.refl _ _).alloc (Nat.le_refl _) _
  have hx0 : W.heap[X]? = some (.cells #[.string s, .int .i64 d, .int .u64 v] 31 (0, 0)) := by rw [hW, hX]; exact (MapKept.heap_alloc w _).1
  have hp0 := (hbl.block p (lt_of_block h1)).trans h1
  have hmW := hm.below hbl
  have hoW := owns_below hown hbl
  have c0 : W.cell? ⟨X, 0, none⟩ = some (.string s) := by rw [World.cell?, hx0]; rfl
  have c1 : W.cell? ⟨X, 1, none⟩ = some (.int .i64 d) := by rw [World.cell?, hx0]; rfl
  have c2 : W.cell? ⟨X, 2, none⟩ = some (.int .u64 v) := by rw [World.cell?, hx0]; rfl
  have p0 : W.cell? ⟨p, 0, none⟩ = some lv := by rw [World.cell?, hp0]; rfl
  have p1 : W.cell? ⟨p, 1, none⟩ = some (.map (some b)) := by rw [World.cell?, hp0]; rfl
  obtain ⟨o, hput, hafter⟩ := put_new (w := W.drew) (b := b) (l := l) hmW hg ⟨s, d, v⟩ hxx hn
  have w0 : w.cell? ⟨p, 0, none⟩ = some lv := by rw [World.cell?, h1]; rfl
  have w1 : w.cell? ⟨p, 1, none⟩ = some (.map (some b)) := by rw [World.cell?, h1]; rfl
  have wp : p < w.heap.size := lt_of_block h1
  have qn : ∀ (w : World), (Sem.run Try.prog (binOp .eql 61 (.map (some b)) (.map none)) w) = .ok (.bool false) w := fun w => run_eql_map_nil (P := Try.prog) w _ _ _ (some b) Try.underlying61
  have HW := Lib.hid hW
  have HX := Lib.hid hX
  have hXp : X ≠ p := by have := lt_of_block h1; omega
  have hXW : X < W.heap.size := lt_of_block hx0
  have hpW : p < W.heap.size := lt_of_block hp0
  have hbW : b < W.heap.size := by obtain ⟨es, c, h, -⟩ := hmW; exact lt_of_block h
  obtain ⟨n, hln⟩ : ∃ n, n = l.length := ⟨_, rfl⟩
  have hlen : ∃ a c, lv = .slice a n c ∧ (n = 0 ∨ a ≠ none) := by
    rw [hln]
    rcases hown.2 with ⟨rfl, h0⟩ | ⟨g, cap, cur, rfl, -⟩
    · rw [h0]; exact ⟨_, _, rfl, .inl rfl⟩
    · exact ⟨_, _, rfl, .inr (by simp)⟩
  have HL := Lib.hid hln
  rw [← hln] at hput h64 hoW
  obtain ⟨la, lc, hlv, -⟩ := hlen
  subst hlv
  have HM := Lib.hid hmW
  have FRW : Hid (Fr w W) := Lib.hid (Fr.of_below hbl)
  clear hW hX hbl hln hm hown hmW
  go_enter Try.func34, Try.ntmps34
  go_wp2_with fail
  rw [← HW.out, ← HX.out]
  go_still_tail 6, (by kernel_rfl)
  change wpList _ _ _ _ _ W.drew
  have c0' : W.drew.cell? ⟨X, 0, none⟩ = some (.string s) := c0
  go_wp2_with fail
  obtain ⟨V, hV⟩ : ∃ V, V = ChangeMaps.setBlock W.drew b o := ⟨_, rfl⟩
  have hbp : b ≠ p := by intro e; subst e; obtain ⟨es, c, h⟩ := HM.out; rw [hp0] at h; cases h.1
  have hbX : b ≠ X := by intro e; subst e; obtain ⟨es, c, h⟩ := HM.out; rw [hx0] at h; cases h.1
  have hne : ∀ k, k ≠ b → V.heap[k]? = W.heap[k]? := by intro k hk; rw [hV]; exact Array.getElem?_setIfInBounds_ne (Ne.symm hk)
  have hVs : V.heap.size = W.heap.size := by rw [hV]; exact Array.size_setIfInBounds
  have hVb : V.heap[b]? = some o := by rw [hV]; exact Array.getElem?_setIfInBounds_self_of_lt hbW
  have hVp : V.heap[p]? = some (.cells #[.slice la n lc, .map (some b)] 65 (0, 0)) := (hne p (Ne.symm hbp)).trans hp0
  have hVX : V.heap[X]? = some (.cells #[.string s, .int .i64 d, .int .u64 v] 31 (0, 0)) := (hne X (Ne.symm hbX)).trans hx0
  have v0 : V.cell? ⟨X, 0, none⟩ = some (.string s) := by rw [World.cell?, hVX]; rfl
  have v1 : V.cell? ⟨X, 1, none⟩ = some (.int .i64 d) := by rw [World.cell?, hVX]; rfl
  have v2 : V.cell? ⟨X, 2, none⟩ = some (.int .u64 v) := by rw [World.cell?, hVX]; rfl
  have vp : V.cell? ⟨p, 0, none⟩ = some (.slice la n lc) := by rw [World.cell?, hVp]; rfl
  have vf : V.frozen? ⟨p, 0, none⟩ = false := by rw [World.frozen?, hVp]; rfl
  have hVo : V.ownsRow base 31 3 (.slice la n lc) n (l.flatMap litC) := by
    obtain ⟨g1, g2⟩ := hoW
    refine ⟨g1, ?_⟩
    rcases g2 with g2 | ⟨g, cap, cur, k1, k2, k3, k4⟩
    · exact .inl g2
    · refine .inr ⟨g, cap, cur, k1, k2, (hne g ?_).trans k3, k4⟩
      intro e; subst e; obtain ⟨es, c, h⟩ := HM.out; rw [k3] at h; cases h.1
  have hVB : Below base w V := by
    have h0 : Below base w W := (by rw [HW.out]; exact (Below.refl _ _).alloc (by have := lt_of_block h1; omega) _)
    refine h0.trans ⟨by rw [hV]; rfl, by rw [hV]; rfl, by rw [hV]; rfl, by omega, fun k hk => hne k (by omega)⟩
  have hpv : p < V.heap.size := lt_of_block hVp
  have hXv : X < V.heap.size := lt_of_block hVX
  have hbv : b < V.heap.size := lt_of_block hVb
  have hpg : (Value.slice la n lc).ownBlock ≠ some p := by
    intro e
    rcases hVo.2 with ⟨h, -⟩ | ⟨g, cap, cur, k1, -, k3, -⟩
    · rw [h] at e; cases e
    · rw [k1] at e
      simp only [Value.ownBlock, Option.some.injEq] at e
      subst e; rw [hVp] at k3; simp at k3
  have hbg : (Value.slice la n lc).ownBlock ≠ some b := by
    intro e
    rcases hVo.2 with ⟨h, -⟩ | ⟨g, cap, cur, k1, -, k3, -⟩
    · rw [h] at e; cases e
    · rw [k1] at e
      simp only [Value.ownBlock, Option.some.injEq] at e
      subst e
      obtain ⟨es, c, h, -⟩ := hafter V hVb
      rw [h] at k3; cases k3
  have hog : ∀ k, (Value.slice la n lc).ownBlock = some k → base ≤ k := by
    intro k e
    rcases hVo.2 with ⟨h, -⟩ | ⟨g, cap, cur, k1, k2, k3, -⟩
    · rw [h] at e; cases e
    · rw [k1] at e
      simp only [Value.ownBlock, Option.some.injEq] at e
      subst e; exact k2
  have hgt : ∀ k, (Value.slice la n lc).ownBlock = some k → ∃ cur, V.heap[k]? = some (.cells cur 31 (0, 0)) := by
    intro k e
    rcases hVo.2 with ⟨h, -⟩ | ⟨g, cap, cur, k1, k2, k3, -⟩
    · rw [h] at e; cases e
    · rw [k1] at e
      simp only [Value.ownBlock, Option.some.injEq] at e
      subst e; exact ⟨cur, k3⟩
  have hVF : Fr w V := FRW.out.trans fun k cs T _ _ hk => hne k (fun e => by subst e; obtain ⟨es, c, h⟩ := HM.out; rw [hk] at h; cases h.1)
  have hbase : base ≤ V.heap.size := by omega
  rw [← hV]
  have HVB := Lib.hid hVB
  have HVF := Lib.hid hVF
  have HGT := Lib.hid hgt
  have HVp := Lib.hid hVp
  have HVb := Lib.hid hVb
  have HAF := Lib.hid hafter
  have HH0 := Lib.hid hVo
  clear hV hne hafter hVB hVF hgt hVp hVX hVb hp0 hx0 hput hoW h1 c0 c1 c2 p0 p1 w0 w1 qn hVs c0'
  go_region_law ((refine step_append_lies _ (by rfl) _ _ _ (by rfl) base 31 i0 _ 3 32 Try.underlying35 hi0 hz0 hz1 hz2 rfl (by omega) (.slice la n lc) n (l.flatMap litC) (by rfl) ((HH0.out.alloc _).drew) ⟨V.heap.size, 0, none⟩ 1 1 (litC ⟨s, d, v⟩) (by rfl) (by rfl) (World.news_of_block (cs := #[.string s, .int .i64 d, .int .u64 v]) (t := 31) (fr := (0, 0)) (heap_alloc_new V _)) (by simp [litC, Value.oneCell']) (by omega) (by unfold maxLen; omega) (by omega) (by simp; omega) (V.heap.size + 1) (by simp) ?_; intro g cap w3 hown3 hgrow hat hlt; have y0 : w3.cell? ⟨p, 0, none⟩ = some (.slice la n lc) := (hgrow.cell_far _ (by simp; omega) (Ne.symm hpg)).trans ((World.cell?_alloc_past (w := V) _ p 0 hpv).trans vp); have y1 : w3.frozen? ⟨p, 0, none⟩ = false := (hgrow.frozen_far _ (by simp; omega) (Ne.symm hpg)).trans ((World.frozen?_alloc_past (w := V) _ p 0 hpv).trans vf)))
  all_goals
    go_wp2
    go_ret
    obtain ⟨q1, q2, q3⟩ := add_end _ HVp.out HVb.out HAF.out hp hb hbp HVB.out hbase hpg hbg hog hown3 HL.out hgrow HVF.out HGT.out
    exact ⟨by rw [← HL.out]; rfl, q1, q2, q3⟩
end Go.Proofs.Ytbicmnbmkaffeaa
