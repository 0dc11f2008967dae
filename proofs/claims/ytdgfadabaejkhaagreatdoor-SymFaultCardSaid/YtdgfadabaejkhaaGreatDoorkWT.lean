/- sym's law: SymFault. -/
import Derived.Test.YtdgfadabaejkhaaGreatDoorkVC
namespace Go.Proofs.YtdgfadabaejkhaaGreatDoor
set_option linter.unusedVariables false
set_option linter.unusedSimpArgs false
open Go.ChangeShapes Go.WideShapes Go.Deep Go.RowKit

def cN (b : Int) (nm : List UInt8) (Os : List Ox) (k : Nat) : Nat := (flatS 0 ((Os.take k).map (·.l))).countP (cntB b nm)
def cR (b : Int) (nm : List UInt8) (k : Nat) (ol : List Sy) (j : Nat) : Nat := (flatR k 0 (ol.take j)).countP (cntB b nm)
theorem cN_succ {b : Int} {nm : List UInt8} {Os : List Ox} {k : Nat} {o : Ox} (h : Os[k]? = some o) : cN b nm Os (k + 1) = cN b nm Os k + cR b nm k o.l o.l.length := by
  have hk : k < Os.length := (List.getElem?_eq_some_iff.1 h).1
  unfold cN cR
  rw [List.take_add_one, h, List.map_append, flatS_append, List.countP_append, List.length_map, List.length_take_of_le (by omega), List.take_length, Nat.zero_add]
  show _ + (flatR k 0 o.l ++ []).countP _ = _
  rw [List.append_nil]
theorem cR_succ {b : Int} {nm : List UInt8} {k : Nat} {ol : List Sy} {j : Nat} {y : Sy} (h : ol[j]? = some y) : cR b nm k ol (j + 1) = cR b nm k ol j + (if cntB b nm ⟨k, j, y⟩ = true then 1 else 0) := by
  have hj : j < ol.length := (List.getElem?_eq_some_iff.1 h).1
  unfold cR
  rw [List.take_add_one, h, flatR_append, List.countP_append, List.length_take_of_le (by omega), Nat.zero_add]
  show _ + List.countP (cntB b nm) [(⟨k, j, y⟩ : At)] = _
  rw [List.countP_singleton]
theorem cN_zero (b : Int) (nm : List UInt8) (Os : List Ox) : cN b nm Os 0 = 0 := rfl
theorem cR_zero (b : Int) (nm : List UInt8) (k : Nat) (ol : List Sy) : cR b nm k ol 0 = 0 := rfl
theorem cN_all {b : Int} {nm : List UInt8} {Os : List Ox} : cN b nm Os Os.length = (flatO (Os.map obOf)).countP (cntB b nm) := by
  unfold cN
  rw [List.take_length, flatO_eq]
theorem cnt_small {b : Int} {nm : List UInt8} {Os : List Ox} (hc : checkL (Os.map obOf) = 0) {k : Nat} {o : Ox} (ho : Os[k]? = some o) (j : Nat) : cN b nm Os k + cR b nm k o.l j ≤ 2000 := by
  obtain ⟨h1, h2⟩ := checkL_zero.1 hc
  rw [List.length_map] at h1
  have hk : k < Os.length := (List.getElem?_eq_some_iff.1 ho).1
  have hl : ∀ x ∈ Os, x.l.length ≤ 128 := fun x hx => (isO_syms (h2 (obOf x) (List.mem_map.2 ⟨x, hx, rfl⟩))).2.1
  have e1 : cN b nm Os k ≤ 128 * k := by
    unfold cN
    refine Nat.le_trans List.countP_le_length ?_
    have := flatS_len 0 ((Os.take k).map (·.l)) (fun x hx => by
      obtain ⟨o', ho', rfl⟩ := List.mem_map.1 hx
      exact hl o' (List.mem_of_mem_take ho'))
    rwa [List.length_map, List.length_take_of_le (by omega)] at this
  have e2 : cR b nm k o.l j ≤ 128 := by
    unfold cR
    refine Nat.le_trans List.countP_le_length ?_
    rw [flatR_len, List.length_take]
    have := hl o (List.mem_of_getElem? ho)
    omega
  have : 128 * k ≤ 128 * 7 := Nat.mul_le_mul_left 128 (by omega)
  omega
theorem cnt_end {b : Int} {nm : List UInt8} {Os : List Ox} (hc : checkL (Os.map obOf) = 0) {k : Nat} (hk : k ≤ Os.length) : cN b nm Os k ≤ 2000 := by
  cases k with
  | zero => rw [cN_zero]; omega
  | succ k =>
    have ho : Os[k]? = some Os[k] := List.getElem?_eq_getElem (by omega)
    rw [cN_succ ho]
    exact cnt_small hc ho _
set_option maxRecDepth 100000 in
set_option maxHeartbeats 2000000 in
theorem SymFault_walk (w : World) (a : Option Addr) (n c : Nat) (Os : List Ox) (hO : OS w w.heap.size a n Os) (hz : a = none → n = 0 ∧ c = 0) (hT : TabP w) : Calls Tryz.prog 6 #[.slice a n c] w (RetB (.bool true) w) := by
  have HRs := Lib.hid (fun u (hu : Below w.heap.size w u) => resolved_is u (hT.next hu))
  have HRes := Lib.hid (fun u (hu : Below w.heap.size w u) => resolve_any a n c Os u (hO.next hu) (hT.next hu))
  have HCk := Lib.hid (fun u (hu : Below w.heap.size w u) => check_any a n c Os u (hO.next hu) (hT.next hu))
  have HBg := Lib.hid (sBig_any a n c Os w hO)
  have HO := Lib.hid hO
  clear hO hz hT
  obtain ⟨os, hos⟩ : ∃ os, os = Os.map obOf := ⟨_, rfl⟩
  rw [← hos] at HRes HCk
  have HOS := Lib.hid hos
  clear hos
  go_enter Tryz.func6, Tryz.ntmps6
  go_wp2_with fail
  refine HBg.out.mono ?_
  rintro e u ⟨r, rfl, hb⟩
  have HB := Lib.hid hb
  clear hb HBg
  cases r
  · go_wp2_with fail
    refine (HRes.out _ HB.out).mono ?_
    rintro e u2 (⟨hf, rfl, hb⟩ | ⟨hf, Z, rs, rfl, hpr, hrs, hb⟩)
    · have HB2 := Lib.hid (after HB.out hb)
      have HFn := Lib.hid hf
      obtain ⟨f, hff⟩ : ∃ f, f = faultL os := ⟨_, rfl⟩
      have HFe := Lib.hid hff
      rw [← hff]
      clear hf hb hff
      obtain ⟨fc, fo, fs⟩ := f
      simp only [flV]
      obtain ⟨Q, hQ⟩ : ∃ x, x = u2.heap.size := ⟨_, rfl⟩
      obtain ⟨W3, hW3⟩ : ∃ x, x = u2.alloc (.cells #[.int .i64 fc, .int .i64 fo, .int .i64 fs] 42) := ⟨_, rfl⟩
      have hb3 : Below u2.heap.size u2 W3 := by rw [hW3]; exact lit_below u2 _
      have HB3 := Lib.hid (after HB2.out hb3)
      have HQ3 : Hid (RB W3 Q #[.int .i64 fc, .int .i64 fo, .int .i64 fs] 42) := Lib.hid (by rw [hW3, hQ]; exact rb_new u2 _ _)
      have HQE := Lib.hid hQ
      have HWE : Hid (u2.alloc (.cells #[.int .i64 fc, .int .i64 fo, .int .i64 fs] 42) = W3) := Lib.hid hW3.symm
      clear hW3 hb3 hQ
      go_wp2_with fail
      rw [HWE.out, ← HQE.out]
      refine (HCk.out _ HB3.out).mono ?_
      rintro e u4 ⟨rfl, hb⟩
      have HB4 := Lib.hid (after HB3.out hb)
      have HQ4 : Hid (RB u4 Q #[.int .i64 fc, .int .i64 fo, .int .i64 fs] 42) := Lib.hid (HQ3.out.next hb)
      clear hb
      by_cases hck : checkL os = 0
      · rw [hck]
        have HCz := Lib.hid hck
        clear hck
        obtain ⟨x, hx1, hx2, hcd⟩ : ∃ x : At, x ∈ flatO os ∧ (⟨fc, fo, fs⟩ : Flt) = ⟨fc, (x.k : Int), (x.j : Int)⟩ ∧ ((fc = 7 ∧ (flatO os).find? (twiceB (plcL (flatO os))) = some x) ∨ (fc = 6 ∧ (flatO os).find? (lostB (plcL (flatO os))) = some x)) := by
          have h0 := HFe.out
          cases htw : (flatO os).find? (twiceB (plcL (flatO os))) with
          | some x =>
            rw [fault_tw HCz.out htw] at h0
            have h1 := Flt.mk.inj h0
            exact ⟨x, List.mem_of_find?_eq_some htw, by rw [h1.2.1, h1.2.2], .inl ⟨h1.1, rfl⟩⟩
          | none =>
            rw [fault_lo HCz.out htw] at h0
            cases hlo : (flatO os).find? (lostB (plcL (flatO os))) with
            | some x =>
              rw [hlo] at h0
              have h1 := Flt.mk.inj h0
              exact ⟨x, List.mem_of_find?_eq_some hlo, by rw [h1.2.1, h1.2.2], .inr ⟨h1.1, rfl⟩⟩
            | none =>
              rw [hlo] at h0
              exact absurd (HFe.out.symm.trans h0) HFn.out
        obtain ⟨-, rfl, rfl⟩ := Flt.mk.inj hx2
        have HXm := Lib.hid hx1
        have HCd := Lib.hid hcd
        obtain ⟨xk, xj, xy⟩ := x
        simp only [] at HXm HCd HQ4 HFe ⊢
        clear hx1 hx2 hcd
        obtain ⟨o, ho, hxj⟩ : ∃ o : Ox, Os[xk]? = some o ∧ o.l[xj]? = some xy := by
          obtain ⟨ob, h1, h2⟩ := mem_flatO.1 HXm.out
          rw [HOS.out, List.getElem?_map, Option.map_eq_some_iff] at h1
          obtain ⟨o, h3, rfl⟩ := h1
          exact ⟨o, h3, h2⟩
        have HOo := Lib.hid ho
        have HXj := Lib.hid hxj
        have hxk : xk < Os.length := (List.getElem?_eq_some_iff.1 ho).1
        have hxl : xj < o.l.length := (List.getElem?_eq_some_iff.1 hxj).1
        have hcz : (fc == 0) = false := by
          rcases HCd.out with ⟨h, -⟩ | ⟨h, -⟩ <;> rw [h] <;> rfl
        have HO4 := Lib.hid (HO.out.next HB4.out)
        have hnl := HO.out.sl.len
        obtain ⟨bb, off, hae, hBB, hcc⟩ := HO4.out.sl.cells (by intro e; rw [e] at hxk; simp at hxk)
        subst hae
        obtain ⟨c0, c1⟩ := ox_cells (fun j hj => hcc xk hxk j hj)
        have hoe : Os[xk] = o := by
          have := List.getElem?_eq_getElem hxk
          rw [ho] at this
          exact (Option.some.inj this).symm
        rw [hoe] at c0 c1
        have hom : o ∈ Os := List.mem_of_getElem? ho
        obtain ⟨b2, off2, hae2, hB2, hc2⟩ := (HO4.out.s2 o hom).cells (by intro e; rw [e] at hxl; simp at hxl)
        obtain ⟨d0, d1, d2, d3⟩ := sy_cells (fun q hq => hc2 xj hxl q hq)
        have hye : o.l[xj] = xy := by
          have := List.getElem?_eq_getElem hxl
          rw [hxj] at this
          exact (Option.some.inj this).symm
        rw [hye] at d0 d1 d2 d3
        obtain ⟨m, hm⟩ : ∃ m, m = o.l.length := ⟨_, rfl⟩
        rw [hae2, ← hm] at c1
        have hki : (xk : Int) < (n : Int) := by omega
        have hji : (xj : Int) < (m : Int) := by omega
        have hk0 : decide ((xk : Int) < 0) = false := decide_eq_false (by omega)
        have hj0 : decide ((xj : Int) < 0) = false := decide_eq_false (by omega)
        have hkn2 : decide (n ≤ xk) = false := decide_eq_false (by omega)
        have hjm2 : decide (m ≤ xj) = false := decide_eq_false (by omega)
        have hkn3 : decide ((n : Int) ≤ (xk : Int)) = false := decide_eq_false (by omega)
        have hjm3 : decide ((m : Int) ≤ (xj : Int)) = false := decide_eq_false (by omega)
        have hkn : decide ((xk : Int) ≥ (n : Int)) = false := decide_eq_false (by omega)
        have hjm : decide ((xj : Int) ≥ (m : Int)) = false := decide_eq_false (by omega)
        have hmi : (m : Int) ≤ 9223372036854775807 := by have := HO.out.l2 o hom; rw [← hm] at this; unfold maxLen at this; omega
        have hni : (n : Int) ≤ 9223372036854775807 := by have := HO.out.ln; unfold maxLen at this; omega
        have q0 : u4.cell? ⟨Q, 0, none⟩ = some (.int .i64 fc) := HQ4.out.cell
        have q1 : u4.cell? ⟨Q, 1, none⟩ = some (.int .i64 (xk : Int)) := HQ4.out.cell
        have q2 : u4.cell? ⟨Q, 2, none⟩ = some (.int .i64 (xj : Int)) := HQ4.out.cell
        clear hcc hc2 hBB hB2 hoe hye hae2 hxk hxl ho hxj hnl hom hm c0
        go_wp2
        go_quiet (fail)
        go_wp2
        generalize hwo : World.drewN u4 _ = wo
        have hbo : Below u4.heap.size u4 wo := by rw [← hwo]; exact below_refl_drewN _ _
        have HBo := Lib.hid (after HB4.out hbo)
        have HQo : Hid (RB wo Q #[.int .i64 fc, .int .i64 (xk : Int), .int .i64 (xj : Int)] 42) := Lib.hid (HQ4.out.next hbo)
        obtain ⟨xn, xb, xs, xo⟩ := xy
        obtain ⟨XN, hXN⟩ : ∃ N : ByteArray, N = ⟨xn.toArray⟩ := ⟨_, rfl⟩
        simp only [] at d0 d1 d2 d3
        rw [← hXN] at d0
        have HXN := Lib.hid hXN
        have k1 : wo.cell? ⟨Q, 1, none⟩ = some (.int .i64 (xk : Int)) := HQo.out.cell
        have k2 : wo.cell? ⟨Q, 2, none⟩ = some (.int .i64 (xj : Int)) := HQo.out.cell
        have k3 : wo.cell? ⟨bb, off + xk * 2 + 1, none⟩ = some (.slice (some ⟨b2, off2, none⟩) m o.c2) := (hbo.cell (p := ⟨bb, off + xk * 2 + 1, none⟩) (cell_lt c1)).trans c1
        have k4 : wo.cell? ⟨b2, off2 + xj * 4, none⟩ = some (.string XN) := (hbo.cell (p := ⟨b2, off2 + xj * 4, none⟩) (cell_lt d0)).trans d0
        have k5 : wo.cell? ⟨b2, off2 + xj * 4 + 1, none⟩ = some (.int .i64 xb) := (hbo.cell (p := ⟨b2, off2 + xj * 4 + 1, none⟩) (cell_lt d1)).trans d1
        have k6 : wo.cell? ⟨b2, off2 + xj * 4 + 2, none⟩ = some (.int .i64 xs) := (hbo.cell (p := ⟨b2, off2 + xj * 4 + 2, none⟩) (cell_lt d2)).trans d2
        have k7 : wo.cell? ⟨b2, off2 + xj * 4 + 3, none⟩ = some (.int .i64 xo) := (hbo.cell (p := ⟨b2, off2 + xj * 4 + 3, none⟩) (cell_lt d3)).trans d3
        have g1 := World.new_ne wo _ k1
        have g3 := World.new_ne wo _ k3
        have g4 := World.new_ne wo _ k4
        simp only [] at g1 g3 g4
        clear hwo hbo c1 d0 d1 d2 d3 q0 q1 q2 hXN hcz hk0 hj0 hkn hjm hkn2 hjm2 hkn3 hjm3
        refine wp_region_held_drew (S := fun w' => w'.cell? ⟨Q, 1, none⟩ = some (.int .i64 (xk : Int)) ∧ w'.cell? ⟨Q, 2, none⟩ = some (.int .i64 (xj : Int)) ∧ w'.cell? ⟨bb, off + xk * 2 + 1, none⟩ = some (.slice (some ⟨b2, off2, none⟩) m o.c2) ∧ w'.cell? ⟨b2, off2 + xj * 4, none⟩ = some (.string XN) ∧ w'.cell? ⟨b2, off2 + xj * 4 + 1, none⟩ = some (.int .i64 xb) ∧ w'.cell? ⟨b2, off2 + xj * 4 + 2, none⟩ = some (.int .i64 xs) ∧ w'.cell? ⟨b2, off2 + xj * 4 + 3, none⟩ = some (.int .i64 xo)) (by kernel_rfl) (⟨k1, k2, k3, k4, k5, k6, k7⟩) (fun hHeld => ?_)
        refine wpAnyH_take (i := 0) (v := ?_) rfl (by kernel_rfl) (by kernel_rfl) (by kernel_rfl) (fun _ _ _ h => h) (Or.inl ⟨by rfl, ?_⟩) (by assumption) ?_
        rotate_left 1
        · intro w hSw; (try dsimp only at hSw); obtain ⟨y1, y2, y3, y4, y5, y6, y7⟩ := hSw; go_simp; (try with_reducible rfl)
        (try simp only [Act.put, List.setIfInBounds_toArray, List.set_cons_zero, List.set_cons_succ])
        refine wpAnyH_take (i := 1) (v := ?_) rfl (by kernel_rfl) (by kernel_rfl) (by kernel_rfl) (fun _ _ _ h => h) (Or.inl ⟨by rfl, ?_⟩) (by assumption) ?_
        rotate_left 1
        · intro w hSw; (try dsimp only at hSw); obtain ⟨y1, y2, y3, y4, y5, y6, y7⟩ := hSw; go_simp; (try with_reducible rfl)
        (try simp only [Act.put, List.setIfInBounds_toArray, List.set_cons_zero, List.set_cons_succ])
        refine wpAnyH_take (i := 2) (v := ?_) rfl (by kernel_rfl) (by kernel_rfl) (by kernel_rfl) (fun _ _ _ h => h) (Or.inl ⟨by rfl, ?_⟩) (by assumption) ?_
        rotate_left 1
        · intro w hSw; (try dsimp only at hSw); obtain ⟨y1, y2, y3, y4, y5, y6, y7⟩ := hSw; go_simp; (try with_reducible rfl)
        (try simp only [Act.put, List.setIfInBounds_toArray, List.set_cons_zero, List.set_cons_succ])
        refine wpAnyH_take (i := 3) (v := ?_) rfl (by kernel_rfl) (by kernel_rfl) (by kernel_rfl) (fun _ _ _ h => h) (Or.inl ⟨by rfl, ?_⟩) (by assumption) ?_
        rotate_left 1
        · intro w hSw; (try dsimp only at hSw); obtain ⟨y1, y2, y3, y4, y5, y6, y7⟩ := hSw; go_simp; (try with_reducible rfl)
        (try simp only [Act.put, List.setIfInBounds_toArray, List.set_cons_zero, List.set_cons_succ])
        refine wpAnyH_take (i := 4) (v := ?_) rfl (by kernel_rfl) (by kernel_rfl) (by kernel_rfl) (fun _ _ _ h => h) (Or.inl ⟨by rfl, ?_⟩) (by assumption) ?_
        rotate_left 1
        · intro w hSw; (try dsimp only at hSw); obtain ⟨y1, y2, y3, y4, y5, y6, y7⟩ := hSw; go_simp; (try with_reducible rfl)
        (try simp only [Act.put, List.setIfInBounds_toArray, List.set_cons_zero, List.set_cons_succ])
        refine wpAnyH_take (i := 5) (v := ?_) rfl (by kernel_rfl) (by kernel_rfl) (by kernel_rfl) (fun _ _ _ h => h) (Or.inl ⟨by rfl, ?_⟩) (by assumption) ?_
        rotate_left 1
        · intro w hSw; (try dsimp only at hSw); obtain ⟨y1, y2, y3, y4, y5, y6, y7⟩ := hSw; go_simp; (try with_reducible rfl)
        (try simp only [Act.put, List.setIfInBounds_toArray, List.set_cons_zero, List.set_cons_succ])
        refine wpAnyH_take (i := 6) (v := ?_) rfl (by kernel_rfl) (by kernel_rfl) (by kernel_rfl) (fun _ _ _ h => h) (Or.inl ⟨by rfl, ?_⟩) (by assumption) ?_
        rotate_left 1
        · intro w hSw; (try dsimp only at hSw); obtain ⟨y1, y2, y3, y4, y5, y6, y7⟩ := hSw; go_simp; (try with_reducible rfl)
        (try simp only [Act.put, List.setIfInBounds_toArray, List.set_cons_zero, List.set_cons_succ])
        refine wpAnyH_take (i := 7) (v := ?_) rfl (by kernel_rfl) (by kernel_rfl) (by kernel_rfl) (fun _ _ _ h => h) (Or.inl ⟨by rfl, ?_⟩) (by assumption) ?_
        rotate_left 1
        · intro w hSw; (try dsimp only at hSw); obtain ⟨y1, y2, y3, y4, y5, y6, y7⟩ := hSw; go_simp; (try with_reducible rfl)
        (try simp only [Act.put, List.setIfInBounds_toArray, List.set_cons_zero, List.set_cons_succ])
        refine wpAnyH_take (i := 8) (v := ?_) rfl (by kernel_rfl) (by kernel_rfl) (by kernel_rfl) (fun _ _ _ h => h) (Or.inl ⟨by rfl, ?_⟩) (by assumption) ?_
        rotate_left 1
        · intro w hSw; (try dsimp only at hSw); obtain ⟨y1, y2, y3, y4, y5, y6, y7⟩ := hSw; go_simp; (try with_reducible rfl)
        (try simp only [Act.put, List.setIfInBounds_toArray, List.set_cons_zero, List.set_cons_succ])
        refine wpAnyH_take (i := 9) (v := ?_) rfl (by kernel_rfl) (by kernel_rfl) (by kernel_rfl) (fun _ _ _ h => h) (Or.inl ⟨by rfl, ?_⟩) (by assumption) ?_
        rotate_left 1
        · intro w hSw; (try dsimp only at hSw); obtain ⟨y1, y2, y3, y4, y5, y6, y7⟩ := hSw; go_simp; (try with_reducible rfl)
        (try simp only [Act.put, List.setIfInBounds_toArray, List.set_cons_zero, List.set_cons_succ])
        refine wpAnyH_ready (rs := [10]) (by kernel_rfl) (by simp) ?_
        refine AllReadyH.cons rfl (fun K hK => ?_) ?_
        · go_simp
          refine hK.out _ _ (by simp [*, World.cell?_alloc_some, World.cell?_setCell_far]) (fun hHeld => ?_)
          clear hK K
          refine wpAnyH_ready (rs := [11]) (by kernel_rfl) (by simp) ?_
          refine AllReadyH.cons rfl (fun K hK => ?_) ?_
          · go_simp
            refine hK.out _ _ (by simp [*, World.cell?_alloc_some, World.cell?_setCell_far]) (fun hHeld => ?_)
            clear hK K
            refine wpAnyH_done (by kernel_rfl) ?_ _
            go_wp2
            obtain ⟨P5, hP5⟩ : ∃ x, x = wo.heap.size := ⟨_, rfl⟩
            obtain ⟨W6, hW6⟩ : ∃ x, x = (wo.alloc (.cells #[.string XN, .int .i64 xb, .int .i64 xs, .int .i64 xo] 54)).drew := ⟨_, rfl⟩
            have hb6 : Below wo.heap.size wo W6 := by
              have := lit_below wo (.cells #[.string XN, .int .i64 xb, .int .i64 xs, .int .i64 xo] 54)
              rw [hW6]; exact ⟨this.os, this.tape, this.output, this.size, this.block⟩
            have HB6 := Lib.hid (after HBo.out hb6)
            have HQ6 : Hid (RB W6 Q #[.int .i64 fc, .int .i64 (xk : Int), .int .i64 (xj : Int)] 42) := Lib.hid (HQo.out.next hb6)
            have HX6 : Hid (RB W6 P5 #[.string XN, .int .i64 xb, .int .i64 xs, .int .i64 xo] 54) := Lib.hid (by
              have : RB (wo.alloc (.cells #[.string XN, .int .i64 xb, .int .i64 xs, .int .i64 xo] 54)) P5 #[.string XN, .int .i64 xb, .int .i64 xs, .int .i64 xo] 54 := by rw [hP5]; exact rb_new wo _ _
              rw [hW6]; exact this)
            rw [← hW6, ← hP5]
            have HXN2 : Hid (XN.data.toList = xn) := Lib.hid (by rw [HXN.out])
            have hcz := HCz.out
            have HCk2 : Hid (checkL (Os.map obOf) = 0) := Lib.hid (by rw [← HOS.out]; exact hcz)
            have hn8 : n ≤ 8 := by have := (checkL_zero.1 HCk2.out).1; rw [List.length_map] at this; have := HO.out.sl.len; omega
            have HLn := Lib.hid HO.out.sl.len
            have hni : (n : Int) ≤ 8 := by omega
            have HTwo : Hid ((fc = 7 ∧ xb = 2 ∧ 0 ≤ xs ∧ 0 < xk ∧ 1 < cN 2 xn Os Os.length) ∨ (fc = 6 ∧ 2 ≤ xb ∧ xs < 0 ∧ cN 2 xn Os Os.length = 0 ∧ cN 3 xn Os Os.length = 0)) := Lib.hid (by
              rw [cN_all, cN_all, ← HOS.out]
              rcases HCd.out with ⟨h7, hh⟩ | ⟨h6, hh⟩
              · obtain ⟨-, a1, a2, a3, a4⟩ := twice_is hcz hh
                exact .inl ⟨h7, a1, a2, a3, a4⟩
              · obtain ⟨-, a1, a2, a3, a4⟩ := lost_is hcz hh
                exact .inr ⟨h6, a1, a2, a3, a4⟩)
            clear hW6 hP5 hb6 hcz k1 k2 k3 k4 k5 k6 k7 g1 g3 g4 hHeld hki hji hmi
            go_loopw [6, 7, 8] (fun s t i wr => ∃ (k cs ct : Nat) (wx : World), wx = wr ∧ k ≤ n ∧ i = .int .i64 k ∧ s = .int .i64 cs ∧ t = .int .i64 ct ∧ Hid (cs = cN 2 xn Os k ∧ ct = cN 3 xn Os k ∧ Below w.heap.size w wx ∧ RB wx Q #[.int .i64 fc, .int .i64 (xk : Int), .int .i64 (xj : Int)] 42 ∧ RB wx P5 #[.string XN, .int .i64 xb, .int .i64 xs, .int .i64 xo] 54)) (fun _ _ i _ => n - (intOf i).toNat)
            case atStart => exact ⟨0, 0, 0, _, rfl, by omega, rfl, rfl, rfl, Lib.hid ⟨rfl, rfl, HB6.out, HQ6.out, HX6.out⟩⟩
            case round =>
              clear HB6 HQ6 HX6
              obtain ⟨k, cs, ct, wx, rfl, hk, rfl, rfl, rfl, HK⟩ := hrel
              by_cases hlt : k < n
              · have hlti : (k : Int) < (n : Int) := by omega
                have hk1 : k < Os.length := by have := HLn.out; omega
                have HOx := Lib.hid (HO.out.next HK.out.2.2.1)
                obtain ⟨b7, off7, hae7, hB7, hc7⟩ := HOx.out.sl.cells (by intro e; rw [e] at hk1; simp at hk1)
                cases hae7
                obtain ⟨e0, e1⟩ := ox_cells (fun j hj => hc7 k hk1 j hj)
                obtain ⟨o2, ho2⟩ : ∃ o2, o2 = Os[k] := ⟨_, rfl⟩
                have HO2 : Hid (Os[k]? = some o2) := Lib.hid (by rw [ho2]; exact List.getElem?_eq_getElem hk1)
                rw [← ho2] at e0 e1
                clear hc7 ho2 hB7 HOx
                obtain ⟨pa, pc, pL, pa2, pc2, pl⟩ := o2
                simp only [] at e0 e1
                obtain ⟨m2, hm2⟩ : ∃ m, m = pl.length := ⟨_, rfl⟩
                rw [← hm2] at e1
                have HM2 := Lib.hid hm2
                have hm2i : (m2 : Int) ≤ 9223372036854775807 := by have := HO.out.l2 _ (List.mem_of_getElem? HO2.out); simp only at this; rw [← hm2] at this; unfold maxLen at this; omega
                have HE1 := Lib.hid e1
                clear hm2 e0 e1
                go_wp2
                go_loopw [6, 7, 9] (fun s t i wr => ∃ (j cs ct : Nat) (wy : World), wy = wr ∧ j ≤ m2 ∧ i = .int .i64 j ∧ s = .int .i64 cs ∧ t = .int .i64 ct ∧ Hid (cs = cN 2 xn Os k + cR 2 xn k pl j ∧ ct = cN 3 xn Os k + cR 3 xn k pl j ∧ Below wx.heap.size wx wy)) (fun _ _ i _ => m2 - (intOf i).toNat)
                case atStart => exact ⟨0, cs, ct, _, rfl, by omega, rfl, rfl, rfl, Lib.hid ⟨by rw [cR_zero]; exact HK.out.1, by rw [cR_zero]; exact HK.out.2.1, Below.refl _ _⟩⟩
                case round =>
                  obtain ⟨j, cs, ct, wy, rfl, hj, rfl, rfl, rfl, HJ⟩ := hrel
                  have HBy := Lib.hid (after HK.out.2.2.1 HJ.out.2.2)
                  have HOy := Lib.hid (HO.out.next HBy.out)
                  obtain ⟨b7, off7, hae7, hB7, hc7⟩ := HOy.out.sl.cells (by intro e; rw [e] at hk1; simp at hk1)
                  cases hae7
                  obtain ⟨e0, e1⟩ := ox_cells (fun j hj => hc7 k hk1 j hj)
                  have ho2 : Os[k] = ⟨pa, pc, pL, pa2, pc2, pl⟩ := by
                    have := List.getElem?_eq_getElem hk1
                    rw [HO2.out] at this
                    exact (Option.some.inj this).symm
                  rw [ho2] at e0 e1
                  simp only [] at e0 e1
                  rw [← HM2.out] at e1
                  have hs2 := cnt_small (b := 2) (nm := xn) HCk2.out HO2.out j
                  have ht2 := cnt_small (b := 3) (nm := xn) HCk2.out HO2.out j
                  simp only [] at hs2 ht2
                  rw [← HJ.out.1] at hs2
                  rw [← HJ.out.2.1] at ht2
                  clear hc7 ho2 hB7 e0
                  by_cases hlj : j < m2
                  · have hlji : (j : Int) < (m2 : Int) := by omega
                    have hj1 : j < pl.length := by have := HM2.out; omega
                    obtain ⟨b8, off8, hae8, hB8, hc8⟩ := (HOy.out.s2 _ (List.mem_of_getElem? HO2.out)).cells (by intro e; simp only at e; rw [e] at hj1; simp at hj1)
                    simp only at hae8 hc8
                    subst hae8
                    obtain ⟨d0, d1, d2, d3⟩ := sy_cells (fun q hq => hc8 j hj1 q hq)
                    obtain ⟨y, hy⟩ : ∃ y, y = pl[j] := ⟨_, rfl⟩
                    have HY : Hid (pl[j]? = some y) := Lib.hid (by rw [hy]; exact List.getElem?_eq_getElem hj1)
                    rw [← hy] at d0 d1 d2 d3
                    clear hc8 hy hB8 HOy
                    obtain ⟨yn, yb, ys, yo⟩ := y
                    obtain ⟨N, hN⟩ : ∃ N : ByteArray, N = ⟨yn.toArray⟩ := ⟨_, rfl⟩
                    simp only [] at d0 d1 d2 d3
                    rw [← hN] at d0
                    have HNl : Hid (N.data.toList = yn) := Lib.hid (by rw [hN])
                    obtain ⟨P6, hP6⟩ : ∃ x, x = wy.heap.size := ⟨_, rfl⟩
                    obtain ⟨A, hA⟩ : ∃ x, x = wy.alloc (.cells #[.string N, .int .i64 yb, .int .i64 ys, .int .i64 yo] 54) := ⟨_, rfl⟩
                    have hba : Below wy.heap.size wy A := by rw [hA]; exact lit_below wy _
                    have HA : Hid (Below wx.heap.size wx A) := Lib.hid (after HJ.out.2.2 hba)
                    have hrx : RB A P5 #[.string XN, .int .i64 xb, .int .i64 xs, .int .i64 xo] 54 := HK.out.2.2.2.2.next HA.out
                    have hry : RB A P6 #[.string N, .int .i64 yb, .int .i64 ys, .int .i64 yo] 54 := by rw [hA, hP6]; exact rb_new wy _ _
                    have g0 : A.cell? ⟨P5, 0, none⟩ = some (.string XN) := hrx.cell
                    have f0 : A.cell? ⟨P6, 0, none⟩ = some (.string N) := hry.cell
                    have f1 : A.cell? ⟨P6, 1, none⟩ = some (.int .i64 yb) := hry.cell
                    have f2 : A.cell? ⟨P6, 2, none⟩ = some (.int .i64 ys) := hry.cell
                    rw [hA] at g0 f0 f1 f2
                    rw [hP6] at f0 f1 f2
                    have HAE : Hid (wy.alloc (.cells #[.string N, .int .i64 yb, .int .i64 ys, .int .i64 yo] 54) = A) := Lib.hid hA.symm
                    have hsi : (cs : Int) ≤ 2000 := by omega
                    have hti : (ct : Int) ≤ 2000 := by omega
                    clear hN hP6 hA hba hrx hry
                    by_cases hnm : N = XN
                    · have e1' : (N.toList == XN.toList) = true := by rw [hnm]; simp
                      have hnl : yn = xn := by rw [← HNl.out, ← HXN2.out, hnm]
                      have HNX := Lib.hid hnl
                      have hself : (XN.toList == XN.toList) = true := by simp
                      subst hnm
                      clear hnl
                      by_cases hsec : 0 ≤ ys
                      · have u1 : decide (ys ≥ 0) = true := decide_eq_true hsec
                        have u1' : decide (0 ≤ ys) = true := decide_eq_true hsec
                        by_cases hb2 : yb = 2
                        · have HC2 : Hid (cR 2 xn k pl (j + 1) = cR 2 xn k pl j + 1 ∧ cR 3 xn k pl (j + 1) = cR 3 xn k pl j) := Lib.hid (by rw [cR_succ HY.out, cR_succ HY.out]; simp [cntB, HNX.out, hsec, hb2])
                          subst hb2
                          go_wp2
                          rw [HAE.out]
                          go_roundw
                          case rel => exact ⟨j + 1, cs + 1, ct, _, rfl, by omega, by go_num, by go_num, rfl, Lib.hid ⟨by have := HC2.out.1; have := HJ.out.1; omega, by have := HC2.out.2; have := HJ.out.2.1; omega, HA.out⟩⟩
                          case measure => simp [intOf]; omega
                        · have v2 : (yb == 2) = false := by simp [hb2]
                          by_cases hb3 : yb = 3
                          · have HC2 : Hid (cR 2 xn k pl (j + 1) = cR 2 xn k pl j ∧ cR 3 xn k pl (j + 1) = cR 3 xn k pl j + 1) := Lib.hid (by rw [cR_succ HY.out, cR_succ HY.out]; simp [cntB, HNX.out, hsec, hb3])
                            subst hb3
                            clear hb2
                            go_wp2
                            rw [HAE.out]
                            go_roundw
                            case rel => exact ⟨j + 1, cs, ct + 1, _, rfl, by omega, by go_num, rfl, by go_num, Lib.hid ⟨by have := HC2.out.1; have := HJ.out.1; omega, by have := HC2.out.2; have := HJ.out.2.1; omega, HA.out⟩⟩
                            case measure => simp [intOf]; omega
                          · have v3 : (yb == 3) = false := by simp [hb3]
                            have HC2 : Hid (cR 2 xn k pl (j + 1) = cR 2 xn k pl j ∧ cR 3 xn k pl (j + 1) = cR 3 xn k pl j) := Lib.hid (by rw [cR_succ HY.out, cR_succ HY.out]; simp [cntB, hb2, hb3])
                            clear hb2 hb3
                            go_wp2
                            rw [HAE.out]
                            go_roundw
                            case rel => exact ⟨j + 1, cs, ct, _, rfl, by omega, by go_num, rfl, rfl, Lib.hid ⟨by have := HC2.out.1; have := HJ.out.1; omega, by have := HC2.out.2; have := HJ.out.2.1; omega, HA.out⟩⟩
                            case measure => simp [intOf]; omega
                      · have u1 : decide (ys ≥ 0) = false := decide_eq_false (by omega)
                        have u1' : decide (0 ≤ ys) = false := decide_eq_false (by omega)
                        have HC2 : Hid (cR 2 xn k pl (j + 1) = cR 2 xn k pl j ∧ cR 3 xn k pl (j + 1) = cR 3 xn k pl j) := Lib.hid (by rw [cR_succ HY.out, cR_succ HY.out]; simp [cntB, hsec])
                        clear hsec
                        go_wp2
                        rw [HAE.out]
                        go_roundw
                        case rel => exact ⟨j + 1, cs, ct, _, rfl, by omega, by go_num, rfl, rfl, Lib.hid ⟨by have := HC2.out.1; have := HJ.out.1; omega, by have := HC2.out.2; have := HJ.out.2.1; omega, HA.out⟩⟩
                        case measure => simp [intOf]; omega
                    · have hne : N.data.toList ≠ XN.data.toList := fun h => hnm (ba_eq h)
                      have e1' : (N.toList == XN.toList) = false := by rw [beq_eq_false_iff_ne, ByteArray.toList_eq, ByteArray.toList_eq]; exact hne
                      have hnl : yn ≠ xn := by rw [← HNl.out, ← HXN2.out]; exact hne
                      have HC2 : Hid (cR 2 xn k pl (j + 1) = cR 2 xn k pl j ∧ cR 3 xn k pl (j + 1) = cR 3 xn k pl j) := Lib.hid (by rw [cR_succ HY.out, cR_succ HY.out]; simp [cntB, hnl])
                      clear hne hnl hnm
                      go_wp2
                      rw [HAE.out]
                      go_roundw
                      case rel => exact ⟨j + 1, cs, ct, _, rfl, by omega, by go_num, rfl, rfl, Lib.hid ⟨by have := HC2.out.1; have := HJ.out.1; omega, by have := HC2.out.2; have := HJ.out.2.1; omega, HA.out⟩⟩
                      case measure => simp [intOf]; omega
                  · have hlji : ¬ (j : Int) < (m2 : Int) := by omega
                    have HJm : Hid (j = pl.length) := Lib.hid (by have := HM2.out; omega)
                    go_wp2
                    go_roundw
                    case rel =>
                      refine ⟨k + 1, cs, ct, _, rfl, by omega, by go_num, rfl, rfl, Lib.hid ⟨?_, ?_, HBy.out, HK.out.2.2.2.1.next HJ.out.2.2, HK.out.2.2.2.2.next HJ.out.2.2⟩⟩
                      · rw [cN_succ HO2.out, ← HJm.out]; exact HJ.out.1
                      · rw [cN_succ HO2.out, ← HJm.out]; exact HJ.out.2.1
                    case measure => simp [intOf]; omega
              · have hlti : ¬ (k : Int) < (n : Int) := by omega
                have hkn : k = Os.length := by have := HLn.out; omega
                have q0 : wx.cell? ⟨Q, 0, none⟩ = some (.int .i64 fc) := HK.out.2.2.2.1.cell
                have q1 : wx.cell? ⟨Q, 1, none⟩ = some (.int .i64 (xk : Int)) := HK.out.2.2.2.1.cell
                have x1 : wx.cell? ⟨P5, 1, none⟩ = some (.int .i64 xb) := HK.out.2.2.2.2.cell
                have x2 : wx.cell? ⟨P5, 2, none⟩ = some (.int .i64 xs) := HK.out.2.2.2.2.cell
                have hB := HK.out.2.2.1
                have hRs := HRs.out wx hB
                have HB7 := Lib.hid hB
                have HRz := Lib.hid hRs
                have hs2 := cnt_end (b := 2) (nm := xn) HCk2.out (k := k) (by omega)
                have ht2 := cnt_end (b := 3) (nm := xn) HCk2.out (k := k) (by omega)
                rw [← HK.out.1] at hs2
                rw [← HK.out.2.1] at ht2
                rcases HTwo.out with ⟨rfl, rfl, h3, h4, h5⟩ | ⟨rfl, h2, h3, h4, h5⟩
                · rw [← hkn, ← HK.out.1] at h5
                  have t1 : decide ((cs : Int) > 1) = true := decide_eq_true (by omega)
                  have t1' : decide (1 < (cs : Int)) = true := decide_eq_true (by omega)
                  have t2 : decide (xs ≥ 0) = true := decide_eq_true (by omega)
                  have t2' : decide (0 ≤ xs) = true := decide_eq_true (by omega)
                  have t3 : decide ((xk : Int) > 0) = true := decide_eq_true (by omega)
                  have t3' : decide (0 < (xk : Int)) = true := decide_eq_true (by omega)
                  clear hB hRs hkn hs2 ht2 HTwo HCd
                  go_wp2_with fail
                  refine HRz.out.mono ?_
                  rintro e u9 ⟨rfl, hb⟩
                  have HB9 := Lib.hid (after HB7.out hb)
                  clear hb q0 q1 x1 x2
                  go_wp2
                  go_ret
                  exact ⟨rfl, HB9.out⟩
                · rw [← hkn, ← HK.out.1] at h4
                  rw [← hkn, ← HK.out.2.1] at h5
                  subst h4 h5
                  have t1 : decide (xb ≥ 2) = true := decide_eq_true (by omega)
                  have t1' : decide (2 ≤ xb) = true := decide_eq_true (by omega)
                  have t2 : decide (xs < 0) = true := decide_eq_true (by omega)
                  clear hB hRs hkn hs2 ht2 HTwo HCd
                  go_wp2_with fail
                  refine HRz.out.mono ?_
                  rintro e u9 ⟨rfl, hb⟩
                  have HB9 := Lib.hid (after HB7.out hb)
                  clear hb q0 q1 x1 x2
                  go_wp2
                  go_ret
                  exact ⟨rfl, HB9.out⟩
          exact AllReadyH.nil
        exact AllReadyH.nil
      · obtain ⟨ck, hck2⟩ : ∃ ck, ck = checkL os := ⟨_, rfl⟩
        rw [← hck2] at hck HCk ⊢
        have he : fc = ck ∧ fo = 0 ∧ fs = 0 := by
          have := HFe.out
          rw [fault_ck (by rw [← hck2]; exact hck), ← hck2] at this
          cases this
          exact ⟨rfl, rfl, rfl⟩
        obtain ⟨rfl, rfl, rfl⟩ := he
        have t0 : (fc != 0) = true := by simp [hck]
        have q0 : u4.cell? ⟨Q, 0, none⟩ = some (.int .i64 fc) := HQ4.out.cell
        have q1 : u4.cell? ⟨Q, 1, none⟩ = some (.int .i64 0) := HQ4.out.cell
        have q2 : u4.cell? ⟨Q, 2, none⟩ = some (.int .i64 0) := HQ4.out.cell
        have hB4 := HB4.out
        have hfe := eql_fl ⟨fc, 0, 0⟩ ⟨fc, 0, 0⟩
        rw [sameFl_iff.2 rfl] at hfe
        simp only [flW] at hfe
        clear hck hck2
        go_wp2
        have HBd : Below w.heap.size w u4.drew := ⟨hB4.os, hB4.tape, hB4.output, hB4.size, hB4.block⟩
        have hRBd : RB u4.drew Q #[.int .i64 fc, .int .i64 0, .int .i64 0] 42 := HQ4.out
        refine wp_region_held_drew (S := fun w' => Below w.heap.size w w' ∧ w'.cell? ⟨Q, 0, none⟩ = some (.int .i64 fc) ∧ w'.cell? ⟨Q, 1, none⟩ = some (.int .i64 0) ∧ w'.cell? ⟨Q, 2, none⟩ = some (.int .i64 0)) (by kernel_rfl) (⟨⟨hB4.os, hB4.tape, hB4.output, hB4.size, hB4.block⟩, q0, q1, q2⟩) (fun hHeld => ?_)
        refine wpAnyH_ready (rs := [0]) (by kernel_rfl) (by simp) ?_
        refine AllReadyH.cons rfl (fun K hK => ?_) ?_
        · go_simp; go_wp2_with (go_at_call 32; refine (HRs.out _ HBd).mono ?_; rintro e u5 ⟨rfl, hb5⟩); have hB5 := after HBd hb5; have hRB5 := hRBd.next hb5
          refine hK.out _ _ (⟨hB5, hRB5.cell, hRB5.cell, hRB5.cell⟩) (fun hHeld => ?_)
          clear hK K
          refine wpAnyH_take (i := 1) (v := ?_) rfl (by kernel_rfl) (by kernel_rfl) (by kernel_rfl) (fun _ _ _ h => h) (Or.inl ⟨by rfl, ?_⟩) (by assumption) ?_
          rotate_left 1
          · intro w hSw; (try dsimp only at hSw); obtain ⟨y, y0, y1, y2⟩ := hSw; go_simp; (try with_reducible rfl)
          (try simp only [Act.put, List.setIfInBounds_toArray, List.set_cons_zero, List.set_cons_succ])
          refine wpAnyH_take (i := 2) (v := ?_) rfl (by kernel_rfl) (by kernel_rfl) (by kernel_rfl) (fun _ _ _ h => h) (Or.inl ⟨by rfl, ?_⟩) (by assumption) ?_
          rotate_left 1
          · intro w hSw; (try dsimp only at hSw); obtain ⟨y, y0, y1, y2⟩ := hSw; go_simp; (try with_reducible rfl)
          (try simp only [Act.put, List.setIfInBounds_toArray, List.set_cons_zero, List.set_cons_succ])
          refine wpAnyH_take (i := 3) (v := ?_) rfl (by kernel_rfl) (by kernel_rfl) (by kernel_rfl) (fun _ _ _ h => h) (Or.inl ⟨by rfl, ?_⟩) (by assumption) ?_
          rotate_left 1
          · intro w hSw; (try dsimp only at hSw); obtain ⟨y, y0, y1, y2⟩ := hSw; go_simp; (try with_reducible rfl)
          (try simp only [Act.put, List.setIfInBounds_toArray, List.set_cons_zero, List.set_cons_succ])
          refine wpAnyH_ready (rs := [4]) (by kernel_rfl) (by simp) ?_
          refine AllReadyH.cons rfl (fun K hK => ?_) ?_
          · go_simp; go_wp2_with (go_at_call 34; refine (HCk.out _ hB5).mono ?_; rintro e u6 ⟨rfl, hb6⟩); have hB6 := after hB5 hb6; have hRB6 := hRB5.next hb6
            refine hK.out _ _ (⟨hB6, hRB6.cell, hRB6.cell, hRB6.cell⟩) (fun hHeld => ?_)
            clear hK K
            refine wpAnyH_take (i := 5) (v := ?_) rfl (by kernel_rfl) (by kernel_rfl) (by kernel_rfl) (fun _ _ _ h => h) (Or.inl ⟨by rfl, ?_⟩) (by assumption) ?_
            rotate_left 1
            · intro w hSw; (try dsimp only at hSw); obtain ⟨y, y0, y1, y2⟩ := hSw; go_simp; (try with_reducible rfl)
            (try simp only [Act.put, List.setIfInBounds_toArray, List.set_cons_zero, List.set_cons_succ])
            refine wpAnyH_take (i := 6) (v := ?_) rfl (by kernel_rfl) (by kernel_rfl) (by kernel_rfl) (fun _ _ _ h => h) (Or.inl ⟨by rfl, ?_⟩) (by assumption) ?_
            rotate_left 1
            · intro w hSw; (try dsimp only at hSw); obtain ⟨y, y0, y1, y2⟩ := hSw; go_simp; (try with_reducible rfl)
            (try simp only [Act.put, List.setIfInBounds_toArray, List.set_cons_zero, List.set_cons_succ])
            refine wpAnyH_ready (rs := [7]) (by kernel_rfl) (by simp) ?_
            refine AllReadyH.cons rfl (fun K hK => ?_) ?_
            · go_simp
              refine hK.out _ _ (⟨hB6, hRB6.cell, hRB6.cell, hRB6.cell⟩) (fun hHeld => ?_)
              clear hK K
              refine wpAnyH_ready (rs := [8]) (by kernel_rfl) (by simp) ?_
              refine AllReadyH.cons rfl (fun K hK => ?_) ?_
              · go_simp
                refine hK.out _ _ (⟨hB6, hRB6.cell, hRB6.cell, hRB6.cell⟩) (fun hHeld => ?_)
                clear hK K
                refine wpAnyH_done (by kernel_rfl) ?_ _
                go_wp2
                go_ret
                exact ⟨rfl, hB6⟩
              exact AllReadyH.nil
            exact AllReadyH.nil
          exact AllReadyH.nil
        exact AllReadyH.nil
    · have HB2 := Lib.hid (after HB.out hb)
      have HC0 : Hid (checkL os = 0) := Lib.hid (by
        apply Classical.byContradiction
        intro hn
        have := fault_ck hn
        rw [hf] at this
        exact hn (congrArg Flt.code this).symm)
      simp only [flV, flZ]
      clear hf hb hpr hrs
      obtain ⟨Q, hQ⟩ : ∃ x, x = u2.heap.size := ⟨_, rfl⟩
      obtain ⟨W3, hW3⟩ : ∃ x, x = u2.alloc (.cells #[.int .i64 0, .int .i64 0, .int .i64 0] 42) := ⟨_, rfl⟩
      have hb3 : Below u2.heap.size u2 W3 := by rw [hW3]; exact lit_below u2 _
      have HB3 := Lib.hid (after HB2.out hb3)
      have HQ3 : Hid (RB W3 Q #[.int .i64 0, .int .i64 0, .int .i64 0] 42) := Lib.hid (by rw [hW3, hQ]; exact rb_new u2 _ _)
      have HQE := Lib.hid hQ
      have HWE : Hid (u2.alloc (.cells #[.int .i64 0, .int .i64 0, .int .i64 0] 42) = W3) := Lib.hid hW3.symm
      clear hW3 hb3 hQ
      go_wp2_with fail
      rw [HWE.out, ← HQE.out]
      refine (HCk.out _ HB3.out).mono ?_
      rintro e u4 ⟨rfl, hb⟩
      have HB4 := Lib.hid (after HB3.out hb)
      have HQ4 : Hid (RB u4 Q #[.int .i64 0, .int .i64 0, .int .i64 0] 42) := Lib.hid (HQ3.out.next hb)
      rw [HC0.out]
      have q0 : u4.cell? ⟨Q, 0, none⟩ = some (.int .i64 0) := HQ4.out.cell
      clear hb
      go_wp2_with fail
      refine (HRs.out _ HB4.out).mono ?_
      rintro e u5 ⟨rfl, hb⟩
      have HB5 := Lib.hid (after HB4.out hb)
      have HQ5 : Hid (RB u5 Q #[.int .i64 0, .int .i64 0, .int .i64 0] 42) := Lib.hid (HQ4.out.next hb)
      have r0 : u5.cell? ⟨Q, 0, none⟩ = some (.int .i64 0) := HQ5.out.cell
      have r1 : u5.cell? ⟨Q, 1, none⟩ = some (.int .i64 0) := HQ5.out.cell
      have r2 : u5.cell? ⟨Q, 2, none⟩ = some (.int .i64 0) := HQ5.out.cell
      have hfe := eql_fl ⟨0, 0, 0⟩ ⟨0, 0, 0⟩
      rw [sameFl_iff.2 rfl] at hfe
      simp only [flW] at hfe
      clear hb q0
      go_wp2
      go_ret
      exact ⟨rfl, HB5.out⟩
  · go_wp2
    go_ret
    exact ⟨rfl, HB.out⟩
end Go.Proofs.YtdgfadabaejkhaaGreatDoor
