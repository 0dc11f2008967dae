/- sym's law: SymPlaces. -/
import Derived.Test.YtdgfadabaejkhaaGreatDoorkVC
namespace Go.Proofs.YtdgfadabaejkhaaGreatDoor
set_option linter.unusedVariables false
set_option linter.unusedSimpArgs false
open Go.ChangeShapes Go.WideShapes Go.Deep Go.RowKit

theorem fault_code {os : List Ob} (h : faultL os ≠ flZ) : (faultL os).code ≠ 0 := by
  by_cases hck : checkL os = 0
  · cases htw : (flatO os).find? (twiceB (plcL (flatO os))) with
    | some x => rw [fault_tw hck htw]; simp [fltAt]
    | none =>
      have h0 := fault_lo hck htw
      cases hlo : (flatO os).find? (lostB (plcL (flatO os))) with
      | some x => rw [h0, hlo]; simp [fltAt]
      | none => rw [hlo] at h0; exact absurd h0 h
  · rw [fault_ck hck]; exact hck
theorem fault_ok {os : List Ob} (h : faultL os = flZ) : checkL os = 0 := by
  apply Classical.byContradiction
  intro hn
  have := fault_ck hn
  rw [h] at this
  exact hn (congrArg Flt.code this).symm
theorem none_lost {os : List Ob} (h : faultL os = flZ) : ∀ a ∈ flatO os, lostB (plcL (flatO os)) a = false := by
  have hc := fault_ok h
  cases htw : (flatO os).find? (twiceB (plcL (flatO os))) with
  | some x => rw [fault_tw hc htw] at h; exact absurd (congrArg Flt.code h) (by simp [fltAt, flZ])
  | none =>
    have h0 := fault_lo hc htw
    cases hlo : (flatO os).find? (lostB (plcL (flatO os))) with
    | some x => rw [h0, hlo] at h; exact absurd (congrArg Flt.code h) (by simp [fltAt, flZ])
    | none => intro a ha; simpa using List.find?_eq_none.1 hlo a ha
/-- What a symbol that is not its object's own is resolved as. -/
theorem far_is {os : List Ob} (hf : faultL os = flZ) {i k : Nat} {o : Ob} {y : Sy} (ho : os[i]? = some o) (hy : o.syms[k]? = some y) (hb : y.bind ≠ 1) :
    ∃ (kk : Nat) (ob : Ob) (jj : Nat) (yy : Sy), findO os y.name = some ⟨(kk : Int), yy.sec, yy.off⟩ ∧ placeA (plcL (flatO os)) i y = ⟨(kk : Int), yy.sec, yy.off⟩ ∧ os[kk]? = some ob ∧ ob.syms[jj]? = some yy ∧ findL ob y.name = ((jj : Int), true) ∧ 2 ≤ yy.bind ∧ (y.sec ≥ 0 → yy.bind ≤ y.bind) ∧ 0 ≤ yy.sec := by
  have hc := fault_ok hf
  have hm : (⟨i, k, y⟩ : At) ∈ flatO os := mem_flatO.2 ⟨o, ho, hy⟩
  have hl := none_lost hf _ hm
  unfold lostB at hl
  simp only [decide_eq_true (p := y.bind ≠ 1) hb, Bool.true_and] at hl
  cases hp : plcL (flatO os) y.name with
  | none => rw [hp] at hl; cases hl
  | some p =>
    obtain ⟨kk, ob, jj, yy, g1, rfl, g2, g3, g4, g5, g6, g7, g8, g9, g10, g11⟩ := plc_found hc hp
    obtain ⟨oo, -, -, -, r4, -⟩ := right_at hc hm
    obtain ⟨s1, -, -, -⟩ := stands_iff r4
    simp only at s1
    refine ⟨kk, ob, jj, yy, ?_, ?_, g1, g3, g10, by omega, fun h => ?_, g6⟩
    · unfold findO; rw [if_neg (by rintro (h | h); exact g9 h; exact h hc), hp]
    · unfold placeA; rw [if_neg hb, hp]; rfl
    · exact plc_bind g5 g11 hm rfl s1 hb (by show y.sec ≠ -1; omega)
set_option maxRecDepth 100000 in
set_option maxHeartbeats 3000000 in
theorem SymPlaces_walk (w : World) (a : Option Addr) (n c : Nat) (Os : List Ox) (hO : OS w w.heap.size a n Os) (hz : a = none → n = 0 ∧ c = 0) (hT : TabP w) : Calls Tryz.prog 5 #[.slice a n c] w (RetB (.bool true) w) := by
  have HRz := Lib.hid (fun u (hu : Below w.heap.size w u) => resolved_is u (hT.next hu))
  have HRes := Lib.hid (fun u (hu : Below w.heap.size w u) => resolve_any a n c Os u (hO.next hu) (hT.next hu))
  have HBg := Lib.hid (sBig_any a n c Os w hO)
  have HT := Lib.hid hT
  have HO := Lib.hid hO
  have HLn := Lib.hid hO.sl.len
  have hni : (n : Int) ≤ 9223372036854775807 := by have := hO.ln; unfold maxLen at this; omega
  clear hO hz hT
  obtain ⟨os, hos⟩ : ∃ os, os = Os.map obOf := ⟨_, rfl⟩
  rw [← hos] at HRes
  have HOS := Lib.hid hos
  have HFd : Hid (∀ u (N : ByteArray), N.size ≤ maxLen → Below w.heap.size w u → Calls Tryz.prog 30 #[.slice a n c, .string N] u (FindP (findO os N.data.toList) u)) := Lib.hid (fun u N hN hu => by rw [hos]; exact sFind_any a n c Os N hN u (HO.out.next hu) (HT.out.next hu))
  clear hos
  go_enter Tryz.func5, Tryz.ntmps5
  go_wp2_with fail
  refine HBg.out.mono ?_
  rintro e u ⟨r, rfl, hb⟩
  have HB := Lib.hid hb
  clear hb HBg
  cases r
  · go_wp2_with fail
    refine (HRes.out _ HB.out).mono ?_
    rintro e u2 (⟨hf, rfl, hb⟩ | ⟨hf, Z, rs, rfl, hpr, hrs, hb⟩)
    · have HB2 := Lib.hid (after HB.out hb)
      have HFc := Lib.hid (fault_code hf)
      obtain ⟨f, hff⟩ : ∃ f, f = faultL os := ⟨_, rfl⟩
      rw [← hff] at HFc ⊢
      clear hf hb hff
      obtain ⟨fc, fo, fs⟩ := f
      have hfc : fc ≠ 0 := HFc.out
      have t0 : (fc != 0) = true := by simp [hfc]
      clear hfc
      simp only [flV]
      obtain ⟨Q, hQ⟩ : ∃ x, x = u2.heap.size := ⟨_, rfl⟩
      obtain ⟨W3, hW3⟩ : ∃ x, x = u2.alloc (.cells #[.int .i64 fc, .int .i64 fo, .int .i64 fs] 42) := ⟨_, rfl⟩
      have hb3 : Below u2.heap.size u2 W3 := by rw [hW3]; exact lit_below u2 _
      have HB3 := Lib.hid (after HB2.out hb3)
      have hQ3 : RB W3 Q #[.int .i64 fc, .int .i64 fo, .int .i64 fs] 42 := by rw [hW3, hQ]; exact rb_new u2 _ _
      have q0 : W3.cell? ⟨Q, 0, none⟩ = some (.int .i64 fc) := hQ3.cell
      rw [hW3, hQ] at q0
      have HWE : Hid (u2.alloc (.cells #[.int .i64 fc, .int .i64 fo, .int .i64 fs] 42) = W3) := Lib.hid hW3.symm
      clear hW3 hb3 hQ hQ3
      go_wp2_with fail
      rw [HWE.out]
      clear q0
      refine (HRz.out _ HB3.out).mono ?_
      rintro e u4 ⟨rfl, hb⟩
      have HB4 := Lib.hid (after HB3.out hb)
      clear hb t0
      go_wp2
      go_ret
      exact ⟨rfl, HB4.out⟩
    · have HB2 := Lib.hid (after HB.out hb)
      have HF := Lib.hid hf
      have HRl := Lib.hid hrs
      have HPr := Lib.hid hpr
      simp only [flV, flZ]
      clear hf hb hpr hrs
      obtain ⟨Q, hQ⟩ : ∃ x, x = u2.heap.size := ⟨_, rfl⟩
      obtain ⟨W3, hW3⟩ : ∃ x, x = u2.alloc (.cells #[.int .i64 0, .int .i64 0, .int .i64 0] 42) := ⟨_, rfl⟩
      have hb3 : Below u2.heap.size u2 W3 := by rw [hW3]; exact lit_below u2 _
      have HB3 := Lib.hid (after HB2.out hb3)
      have HP3 := Lib.hid (HPr.out.next hb3)
      have hQ3 : RB W3 Q #[.int .i64 0, .int .i64 0, .int .i64 0] 42 := by rw [hW3, hQ]; exact rb_new u2 _ _
      have q0 : W3.cell? ⟨Q, 0, none⟩ = some (.int .i64 0) := hQ3.cell
      rw [hW3, hQ] at q0
      have HWE : Hid (u2.alloc (.cells #[.int .i64 0, .int .i64 0, .int .i64 0] 42) = W3) := Lib.hid hW3.symm
      have hnn : ((n : Int) != (n : Int)) = false := by simp
      clear hW3 hb3 hQ hQ3 HPr HB2
      go_wp2
      clear q0 hnn
      rw [HWE.out]
      go_loopw [5] (fun i wr => ∃ (k : Nat) (wx : World), wx = wr ∧ k ≤ n ∧ i = .int .i64 k ∧ Hid (Below W3.heap.size W3 wx)) (fun i _ => n - (intOf i).toNat)
      case atStart => exact ⟨0, _, rfl, by omega, rfl, Lib.hid (Below.refl _ _)⟩
      case round =>
        obtain ⟨k, wx, rfl, hk, rfl, HK⟩ := hrel
        by_cases hlt : k < n
        · have hlti : (k : Int) < (n : Int) := by omega
          have hk1 : k < Os.length := by have := HLn.out; omega
          have HBx := Lib.hid (after HB3.out HK.out)
          have HOx := Lib.hid (HO.out.next HBx.out)
          have HPx := Lib.hid (HP3.out.next HK.out)
          have hrl : rs.length = n := HPx.out.sl.len.symm
          have hk2 : k < rs.length := by omega
          obtain ⟨b7, off7, hae7, hB7, hc7⟩ := HOx.out.sl.cells (by intro e; rw [e] at hk1; simp at hk1)
          subst hae7
          obtain ⟨e0, e1⟩ := ox_cells (fun j hj => hc7 k hk1 j hj)
          obtain ⟨o2, ho2⟩ : ∃ o2, o2 = Os[k] := ⟨_, rfl⟩
          have HO2 : Hid (Os[k]? = some o2) := Lib.hid (by rw [ho2]; exact List.getElem?_eq_getElem hk1)
          rw [← ho2] at e0 e1
          obtain ⟨bz, oz, haz, hBz, hcz⟩ := HPx.out.sl.cells (by intro e; rw [e] at hk2; simp at hk2)
          cases haz
          have z0 := hcz k hk2 0 (by omega)
          obtain ⟨r2, hr2⟩ : ∃ r2, r2 = rs[k] := ⟨_, rfl⟩
          have HR2 : Hid (rs[k]? = some r2) := Lib.hid (by rw [hr2]; exact List.getElem?_eq_getElem hk2)
          rw [← hr2] at z0
          have HRow : Hid (r2.l = o2.l.map (placeA (plcL (flatO os)) k)) := Lib.hid (by
            have h1 : (rs.map (·.l))[k]? = some r2.l := by rw [List.getElem?_map, HR2.out]; rfl
            rw [HRl.out] at h1
            unfold rowsL at h1
            rw [rowsA_get, List.getElem?_map, HOS.out, List.getElem?_map, HO2.out] at h1
            simp only [Option.map_some, Option.some.injEq, Nat.zero_add] at h1
            rw [← h1, HOS.out]
            rfl)
          clear hc7 ho2 hB7 hcz hr2 hBz hrl hk2
          obtain ⟨pa, pc, pL, pa2, pc2, pl⟩ := o2
          obtain ⟨ra, rc, rl⟩ := r2
          simp only [rwC, Nat.zero_add, Nat.mul_one, Nat.add_zero, List.getElem?_cons_zero] at e0 e1 z0 HRow
          obtain ⟨m2, hm2⟩ : ∃ m, m = pl.length := ⟨_, rfl⟩
          have hrm : rl.length = m2 := by rw [HRow.out, List.length_map, hm2]
          rw [← hm2] at e1
          rw [hrm] at z0
          have HM2 := Lib.hid hm2
          have HRm := Lib.hid hrm
          have hm2i : (m2 : Int) ≤ 9223372036854775807 := by have := HO.out.l2 _ (List.mem_of_getElem? HO2.out); simp only at this; rw [← hm2] at this; unfold maxLen at this; omega
          have hmm : ((m2 : Int) != (m2 : Int)) = false := by simp
          clear hm2 hrm e0
          go_wp2
          go_quiet (fail)
          go_wp2
          clear e1 z0 hmm
          go_loopw [6] (fun i wr => ∃ (j : Nat) (wy : World), wy = wr ∧ j ≤ m2 ∧ i = .int .i64 j ∧ Hid (Below wx.heap.size wx wy)) (fun i _ => m2 - (intOf i).toNat)
          case atStart => exact ⟨0, _, rfl, by omega, rfl, Lib.hid (below_refl_drewN _ _)⟩
          case round =>
            obtain ⟨j, wy, rfl, hj, rfl, HJ⟩ := hrel
            have HKy := Lib.hid (after HK.out HJ.out)
            have HBy := Lib.hid (after HB3.out HKy.out)
            have HOy := Lib.hid (HO.out.next HBy.out)
            have HPy := Lib.hid (HP3.out.next HKy.out)
            obtain ⟨b7, off7, hae7, hB7, hc7⟩ := HOy.out.sl.cells (by intro e; rw [e] at hk1; simp at hk1)
            cases hae7
            obtain ⟨e0, e1⟩ := ox_cells (fun j hj => hc7 k hk1 j hj)
            have ho2 : Os[k] = ⟨pa, pc, pL, pa2, pc2, pl⟩ := by
              have := List.getElem?_eq_getElem hk1
              rw [HO2.out] at this
              exact (Option.some.inj this).symm
            rw [ho2] at e0 e1
            simp only [] at e0 e1
            rw [← HM2.out] at e1
            have hk2 : k < rs.length := (List.getElem?_eq_some_iff.1 HR2.out).1
            obtain ⟨bz, oz, haz, hBz, hcz⟩ := HPy.out.sl.cells (by intro e; rw [e] at hk2; simp at hk2)
            cases haz
            have z0 := hcz k hk2 0 (by omega)
            have hr2 : rs[k] = ⟨ra, rc, rl⟩ := by
              have := List.getElem?_eq_getElem hk2
              rw [HR2.out] at this
              exact (Option.some.inj this).symm
            rw [hr2] at z0
            simp only [rwC, Nat.zero_add, Nat.mul_one, Nat.add_zero, List.getElem?_cons_zero] at z0
            rw [HRm.out] at z0
            clear hc7 ho2 hB7 e0 hcz hr2 hBz hk2
            by_cases hlj : j < m2
            · have hlji : (j : Int) < (m2 : Int) := by omega
              have hj1 : j < pl.length := by have := HM2.out; omega
              have hj2 : j < rl.length := by have := HRm.out; omega
              obtain ⟨b8, off8, hae8, hB8, hc8⟩ := (HOy.out.s2 _ (List.mem_of_getElem? HO2.out)).cells (by intro e; simp only at e; rw [e] at hj1; simp at hj1)
              simp only at hae8 hc8
              subst hae8
              obtain ⟨d0, d1, d2, d3⟩ := sy_cells (fun q hq => hc8 j hj1 q hq)
              obtain ⟨b9, off9, hae9, hB9, hc9⟩ := (HPy.out.s1 _ (List.mem_of_getElem? HR2.out)).cells (by intro e; simp only at e; rw [e] at hj2; simp at hj2)
              simp only at hae9 hc9
              subst hae9
              obtain ⟨p0, p1, p2⟩ := pl_cells (fun q hq => hc9 j hj2 q hq)
              obtain ⟨y, hy⟩ : ∃ y, y = pl[j] := ⟨_, rfl⟩
              have HY : Hid (pl[j]? = some y) := Lib.hid (by rw [hy]; exact List.getElem?_eq_getElem hj1)
              have HYg : Hid (y.name.length ≤ maxLen) := Lib.hid ((HO.out.gs _ (List.mem_of_getElem? HO2.out) y (by rw [hy]; exact List.getElem_mem hj1)).name)
              rw [← hy] at d0 d1 d2 d3
              have hpe : rl[j] = placeA (plcL (flatO os)) k y := by
                have h2 : rl[j]? = some (placeA (plcL (flatO os)) k y) := by
                  rw [HRow.out, List.getElem?_map, HY.out]; rfl
                rw [List.getElem?_eq_getElem hj2] at h2
                exact Option.some.inj h2
              rw [hpe] at p0 p1 p2
              have HPl : Hid (∃ p, p = placeA (plcL (flatO os)) k y) := Lib.hid ⟨_, rfl⟩
              clear hc8 hc9 hB8 hB9 hy hpe HOy
              obtain ⟨yn, yb, ys, yo⟩ := y
              obtain ⟨N, hN⟩ : ∃ N : ByteArray, N = ⟨yn.toArray⟩ := ⟨_, rfl⟩
              simp only [] at d0 d1 d2 d3 HYg
              rw [← hN] at d0
              have HNl : Hid (N.data.toList = yn) := Lib.hid (by rw [hN])
              have HNs : Hid (N.size ≤ maxLen) := Lib.hid (by rw [hN]; show yn.toArray.size ≤ _; simpa using HYg.out)
              clear hN
              by_cases hb1 : yb = 1
              · have hpl : placeA (plcL (flatO os)) k ⟨yn, yb, ys, yo⟩ = ⟨(k : Int), ys, yo⟩ := by unfold placeA; rw [if_pos hb1]
                rw [hpl] at p0 p1 p2
                simp only [] at p0 p1 p2
                have hnq := neq_pl ⟨(k : Int), ys, yo⟩ ⟨(k : Int), ys, yo⟩
                rw [samePl_iff.2 rfl] at hnq
                simp only [plW] at hnq
                subst hb1
                clear hpl
                obtain ⟨P7, hP7⟩ : ∃ x, x = wy.heap.size := ⟨_, rfl⟩
                obtain ⟨A1, hA1⟩ : ∃ x, x = wy.alloc (.cells #[.string N, .int .i64 1, .int .i64 ys, .int .i64 yo] 54) := ⟨_, rfl⟩
                obtain ⟨A2, hA2⟩ : ∃ x, x = A1.alloc (.cells #[.int .i64 (k : Int), .int .i64 ys, .int .i64 yo] 46) := ⟨_, rfl⟩
                have hz1 : A1.heap.size = P7 + 1 := by rw [hA1, World.size_alloc, hP7]
                have hba1 : Below wy.heap.size wy A1 := by rw [hA1]; exact lit_below wy _
                have hba2 : Below A1.heap.size A1 A2 := by rw [hA2]; exact lit_below A1 _
                have HA : Hid (Below wx.heap.size wx A2) := Lib.hid (after HJ.out (after hba1 hba2))
                have hrA : RB A2 P7 #[.string N, .int .i64 1, .int .i64 ys, .int .i64 yo] 54 := by
                  have : RB A1 P7 #[.string N, .int .i64 1, .int .i64 ys, .int .i64 yo] 54 := by rw [hA1, hP7]; exact rb_new wy _ _
                  exact this.next hba2
                have hrP : RB A2 (P7 + 1) #[.int .i64 (k : Int), .int .i64 ys, .int .i64 yo] 46 := by rw [hA2, ← hz1]; exact rb_new A1 _ _
                have HrA := Lib.hid hrA
                have HrP := Lib.hid hrP
                have s0 : A2.cell? ⟨P7, 0, none⟩ = some (.string N) := hrA.cell
                have s1 : A2.cell? ⟨P7, 1, none⟩ = some (.int .i64 1) := hrA.cell
                have s2 : A2.cell? ⟨P7, 2, none⟩ = some (.int .i64 ys) := hrA.cell
                have s3 : A2.cell? ⟨P7, 3, none⟩ = some (.int .i64 yo) := hrA.cell
                have w0 : A2.cell? ⟨P7 + 1, 0, none⟩ = some (.int .i64 (k : Int)) := hrP.cell
                have w1 : A2.cell? ⟨P7 + 1, 1, none⟩ = some (.int .i64 ys) := hrP.cell
                have w2 : A2.cell? ⟨P7 + 1, 2, none⟩ = some (.int .i64 yo) := hrP.cell
                have z1 : A1.cell? ⟨Z, k, none⟩ = some (.slice (some ⟨b9, off9, none⟩) m2 rc) := (hba1.cell (p := ⟨Z, k, none⟩) (cell_lt z0)).trans z0
                have v0 : A1.cell? ⟨b9, off9 + j * 3, none⟩ = some (.int .i64 (k : Int)) := (hba1.cell (p := ⟨b9, off9 + j * 3, none⟩) (cell_lt p0)).trans p0
                have v1 : A1.cell? ⟨b9, off9 + j * 3 + 1, none⟩ = some (.int .i64 ys) := (hba1.cell (p := ⟨b9, off9 + j * 3 + 1, none⟩) (cell_lt p1)).trans p1
                have v2 : A1.cell? ⟨b9, off9 + j * 3 + 2, none⟩ = some (.int .i64 yo) := (hba1.cell (p := ⟨b9, off9 + j * 3 + 2, none⟩) (cell_lt p2)).trans p2
                rw [hA2, hA1] at s0 s1 s2 s3 w0 w1 w2
                rw [hA1] at z1 v0 v1 v2
                rw [hP7] at s0 s1 s2 s3 w0 w1 w2
                have HAE : Hid ((wy.alloc (.cells #[.string N, .int .i64 1, .int .i64 ys, .int .i64 yo] 54)).alloc (.cells #[.int .i64 (k : Int), .int .i64 ys, .int .i64 yo] 46) = A2) := Lib.hid (by rw [hA2, hA1])
                have HP7 := Lib.hid hP7
                clear hA1 hA2 hz1 hba1 hba2 hrA hrP hP7
                go_wp2
                rw [HAE.out]
                go_roundw
                case rel => exact ⟨j + 1, _, rfl, by omega, by go_num, HA⟩
                case measure => simp [intOf]; omega
              · obtain ⟨kk, ob, jj, yy, f1, f2, f3, f4, f5, f6, f7, f8⟩ := far_is (i := k) (k := j) HF.out (by rw [HOS.out, List.getElem?_map, HO2.out]; rfl) (o := obOf ⟨pa, pc, pL, some ⟨b8, off8, none⟩, pc2, pl⟩) HY.out hb1
                simp only [] at f1 f2 f5 f7
                rw [f2] at p0 p1 p2
                simp only [] at p0 p1 p2
                have t1 : (yb == 1) = false := by simp [hb1]
                obtain ⟨zn, zb, zs, zo⟩ := yy
                simp only [] at f1 f2 f4 f6 f7 f8 p0 p1 p2
                have HF5 := Lib.hid f5
                have HF4 := Lib.hid f4
                have HF6 := Lib.hid f6
                have HF7 := Lib.hid f7
                have HF8 := Lib.hid f8
                have HF3 := Lib.hid f3
                have HF1 := Lib.hid f1
                obtain ⟨P7, hP7⟩ : ∃ x, x = wy.heap.size := ⟨_, rfl⟩
                obtain ⟨A1, hA1⟩ : ∃ x, x = wy.alloc (.cells #[.string N, .int .i64 yb, .int .i64 ys, .int .i64 yo] 54) := ⟨_, rfl⟩
                obtain ⟨A2, hA2⟩ : ∃ x, x = A1.alloc (.cells #[.int .i64 (kk : Int), .int .i64 zs, .int .i64 zo] 46) := ⟨_, rfl⟩
                have hz1 : A1.heap.size = P7 + 1 := by rw [hA1, World.size_alloc, hP7]
                have hba1 : Below wy.heap.size wy A1 := by rw [hA1]; exact lit_below wy _
                have hba2 : Below A1.heap.size A1 A2 := by rw [hA2]; exact lit_below A1 _
                have HA : Hid (Below wx.heap.size wx A2) := Lib.hid (after HJ.out (after hba1 hba2))
                have HAw : Hid (Below w.heap.size w A2) := Lib.hid (after HBy.out (after hba1 hba2))
                have hrA : RB A2 P7 #[.string N, .int .i64 yb, .int .i64 ys, .int .i64 yo] 54 := by
                  have : RB A1 P7 #[.string N, .int .i64 yb, .int .i64 ys, .int .i64 yo] 54 := by rw [hA1, hP7]; exact rb_new wy _ _
                  exact this.next hba2
                have hrP : RB A2 (P7 + 1) #[.int .i64 (kk : Int), .int .i64 zs, .int .i64 zo] 46 := by rw [hA2, ← hz1]; exact rb_new A1 _ _
                have HrA := Lib.hid hrA
                have HrP := Lib.hid hrP
                have s0 : A2.cell? ⟨P7, 0, none⟩ = some (.string N) := hrA.cell
                have s1 : A2.cell? ⟨P7, 1, none⟩ = some (.int .i64 yb) := hrA.cell
                have s2 : A2.cell? ⟨P7, 2, none⟩ = some (.int .i64 ys) := hrA.cell
                have s3 : A2.cell? ⟨P7, 3, none⟩ = some (.int .i64 yo) := hrA.cell
                have w0 : A2.cell? ⟨P7 + 1, 0, none⟩ = some (.int .i64 (kk : Int)) := hrP.cell
                have w1 : A2.cell? ⟨P7 + 1, 1, none⟩ = some (.int .i64 zs) := hrP.cell
                have w2 : A2.cell? ⟨P7 + 1, 2, none⟩ = some (.int .i64 zo) := hrP.cell
                have z1 : A1.cell? ⟨Z, k, none⟩ = some (.slice (some ⟨b9, off9, none⟩) m2 rc) := (hba1.cell (p := ⟨Z, k, none⟩) (cell_lt z0)).trans z0
                have v0 : A1.cell? ⟨b9, off9 + j * 3, none⟩ = some (.int .i64 (kk : Int)) := (hba1.cell (p := ⟨b9, off9 + j * 3, none⟩) (cell_lt p0)).trans p0
                have v1 : A1.cell? ⟨b9, off9 + j * 3 + 1, none⟩ = some (.int .i64 zs) := (hba1.cell (p := ⟨b9, off9 + j * 3 + 1, none⟩) (cell_lt p1)).trans p1
                have v2 : A1.cell? ⟨b9, off9 + j * 3 + 2, none⟩ = some (.int .i64 zo) := (hba1.cell (p := ⟨b9, off9 + j * 3 + 2, none⟩) (cell_lt p2)).trans p2
                rw [hA2, hA1] at s0 s1 s2 s3 w0 w1 w2
                rw [hA1] at z1 v0 v1 v2
                rw [hP7] at s0 s1 s2 s3 w0 w1 w2
                have HAE : Hid ((wy.alloc (.cells #[.string N, .int .i64 yb, .int .i64 ys, .int .i64 yo] 54)).alloc (.cells #[.int .i64 (kk : Int), .int .i64 zs, .int .i64 zo] 46) = A2) := Lib.hid (by rw [hA2, hA1])
                have HP7 := Lib.hid hP7
                clear hA1 hA2 hz1 hba1 hba2 hrA hrP hP7
                have HFd2 : Hid (Calls Tryz.prog 30 #[.slice (some ⟨b7, off7, none⟩) n c, .string N] A2 (FindP (some ⟨(kk : Int), zs, zo⟩) A2)) := Lib.hid (by
                  have := HFd.out A2 N HNs.out HAw.out
                  rw [HNl.out, HF1.out] at this
                  exact this)
                clear f1 f2 f3 f4 f5 f6 f7 f8 hb1
                go_wp2_with fail
                rw [HAE.out]
                clear s0 s1 s2 s3 w0 w1 w2 z1 v0 v1 v2 z0 p0 p1 p2 d0 d1 d2 d3 e1
                refine HFd2.out.mono ?_
                rintro e u3 ⟨rfl, hb⟩
                simp only [Option.getD_some, Option.isSome_some]
                have HB3' := Lib.hid (after HA.out hb)
                have HBw3 := Lib.hid (after HAw.out hb)
                have hrA3 := HrA.out.next hb
                have hrP3 := HrP.out.next hb
                obtain ⟨P9, hP9⟩ : ∃ x, x = u3.heap.size := ⟨_, rfl⟩
                obtain ⟨W4, hW4⟩ : ∃ x, x = u3.alloc (.cells #[.int .i64 (kk : Int), .int .i64 zs, .int .i64 zo] 46) := ⟨_, rfl⟩
                have hb4 : Below u3.heap.size u3 W4 := by rw [hW4]; exact lit_below u3 _
                have HB4 := Lib.hid (after HB3'.out hb4)
                have HBw4 := Lib.hid (after HBw3.out hb4)
                have HrA4 := Lib.hid (hrA3.next hb4)
                have HrP4 := Lib.hid (hrP3.next hb4)
                have hr9 : RB W4 P9 #[.int .i64 (kk : Int), .int .i64 zs, .int .i64 zo] 46 := by rw [hW4, hP9]; exact rb_new u3 _ _
                have n0 : W4.cell? ⟨P9, 0, none⟩ = some (.int .i64 (kk : Int)) := hr9.cell
                have n1 : W4.cell? ⟨P9, 1, none⟩ = some (.int .i64 zs) := hr9.cell
                have n2 : W4.cell? ⟨P9, 2, none⟩ = some (.int .i64 zo) := hr9.cell
                have l0 : W4.cell? ⟨P7 + 1, 0, none⟩ = some (.int .i64 (kk : Int)) := HrP4.out.cell
                have l1 : W4.cell? ⟨P7 + 1, 1, none⟩ = some (.int .i64 zs) := HrP4.out.cell
                have l2 : W4.cell? ⟨P7 + 1, 2, none⟩ = some (.int .i64 zo) := HrP4.out.cell
                rw [hW4] at n0 n1 n2 l0 l1 l2
                rw [hP9] at n0 n1 n2
                rw [HP7.out] at l0 l1 l2
                have HWE4 : Hid (u3.alloc (.cells #[.int .i64 (kk : Int), .int .i64 zs, .int .i64 zo] 46) = W4) := Lib.hid hW4.symm
                have hnq := neq_pl ⟨(kk : Int), zs, zo⟩ ⟨(kk : Int), zs, zo⟩
                rw [samePl_iff.2 rfl] at hnq
                simp only [plW] at hnq
                have HKn : Hid (kk < Os.length) := Lib.hid (by
                  have := (List.getElem?_eq_some_iff.1 HF3.out).1
                  rw [HOS.out, List.length_map] at this
                  exact this)
                have hkn : kk < n := by have := HKn.out; have := HLn.out; omega
                have hki : (kk : Int) < (n : Int) := by omega
                have hk0 : decide ((kk : Int) < 0) = false := decide_eq_false (by omega)
                have hkg : decide ((kk : Int) ≥ (n : Int)) = false := decide_eq_false (by omega)
                have hkg2 : decide (n ≤ kk) = false := decide_eq_false (by omega)
                have hkg3 : decide ((n : Int) ≤ (kk : Int)) = false := decide_eq_false (by omega)
                clear hW4 hb4 hr9 hP9 hb hrA3 hrP3 hkn
                go_wp2
                rw [HWE4.out]
                clear n0 n1 n2 l0 l1 l2 hnq hk0 hkg hkg2 hkg3
                obtain ⟨o3, ho3, hob⟩ : ∃ o3 : Ox, Os[kk]? = some o3 ∧ obOf o3 = ob := by
                  have h := HF3.out
                  rw [HOS.out, List.getElem?_map, Option.map_eq_some_iff] at h
                  exact h
                have HO3 := Lib.hid ho3
                have HOb := Lib.hid hob
                have hom : o3 ∈ Os := List.mem_of_getElem? ho3
                have hkl : kk < Os.length := HKn.out
                have HO4 := Lib.hid (HO.out.next HBw4.out)
                obtain ⟨b3, off3, hae3, hB3, hc3⟩ := HO4.out.sl.cells (by intro e; rw [e] at hkl; simp at hkl)
                cases hae3
                obtain ⟨i0, i1⟩ := ox_cells (fun j hj => hc3 kk hkl j hj)
                have hoe : Os[kk] = o3 := by
                  have := List.getElem?_eq_getElem hkl
                  rw [ho3] at this
                  exact (Option.some.inj this).symm
                rw [hoe] at i0 i1
                have HFn : Hid (∀ u, Below w.heap.size w u → Calls Tryz.prog 21 #[.agg #[.slice o3.a o3.L.length o3.c, .slice o3.a2 o3.l.length o3.c2], .string N] u (RetB (.tuple #[.int .i64 (jj : Int), .bool true]) u)) := Lib.hid (fun u hu => by
                  have hg := (HO.out.next hu).at hom
                  have := oFind_any o3.a _ o3.c o3.L o3.a2 _ o3.c2 o3.l hg.l1 hg.l2 u hg.s1 hg.no hg.gd hg.s2 hg.gs (HT.out.next hu) N
                  rw [HNl.out] at this
                  rw [show (⟨o3.L.map (·.sc), o3.l⟩ : Ob) = ob from hob, HF5.out] at this
                  exact this)
                have hjl : jj < o3.l.length := by
                  have h := HF4.out
                  rw [← hob] at h
                  exact (List.getElem?_eq_some_iff.1 h).1
                have HJl := Lib.hid hjl
                have HZ4 : Hid (o3.l[jj]? = some ⟨zn, zb, zs, zo⟩) := Lib.hid (by have h := HF4.out; rw [← hob] at h; exact h)
                have hql : o3.l.length ≤ maxLen := HO.out.l2 o3 hom
                have HOm := Lib.hid hom
                clear hc3 hB3 hoe ho3 hob hom hkl HO4
                obtain ⟨qa, qc, qL, qa2, qc2, ql⟩ := o3
                simp only [] at i0 i1 HFn hjl hql HZ4
                obtain ⟨qn, hqn⟩ : ∃ x, x = qL.length := ⟨_, rfl⟩
                obtain ⟨qm, hqm⟩ : ∃ x, x = ql.length := ⟨_, rfl⟩
                rw [← hqn] at i0 HFn
                rw [← hqm] at i1 HFn hjl hql
                have HQm := Lib.hid hqm
                have hqi : (qm : Int) ≤ 9223372036854775807 := by unfold maxLen at hql; omega
                have hji : (jj : Int) < (qm : Int) := by omega
                have l0 : W4.cell? ⟨P7 + 1, 0, none⟩ = some (.int .i64 (kk : Int)) := HrP4.out.cell
                have l3 : W4.cell? ⟨P7, 0, none⟩ = some (.string N) := HrA4.out.cell
                have HSk : Hid (∀ u, Below W4.heap.size W4 u → (Below W4.heap.size W4 u ∧ u.cell? ⟨P7 + 1, 0, none⟩ = some (.int .i64 (kk : Int)) ∧ u.cell? ⟨P7, 0, none⟩ = some (.string N) ∧ u.cell? ⟨b7, off7 + kk * 2, none⟩ = some (.slice qa qn qc) ∧ u.cell? ⟨b7, off7 + kk * 2 + 1, none⟩ = some (.slice qa2 qm qc2))) := Lib.hid (fun u hu => ⟨hu, (HrP4.out.next hu).cell, (HrA4.out.next hu).cell, (hu.cell (p := ⟨b7, off7 + kk * 2, none⟩) (cell_lt i0)).trans i0, (hu.cell (p := ⟨b7, off7 + kk * 2 + 1, none⟩) (cell_lt i1)).trans i1⟩)
                have hbD : Hid (Below W4.heap.size W4 W4.drew) := Lib.hid ⟨rfl, rfl, rfl, Nat.le_refl _, fun _ _ => rfl⟩
                clear hqn hqm hql l0 l3 i0 i1 hjl
                rw [← HP7.out]
                refine wp_region_held_drew (S := fun w' => Below W4.heap.size W4 w' ∧ w'.cell? ⟨P7 + 1, 0, none⟩ = some (.int .i64 (kk : Int)) ∧ w'.cell? ⟨P7, 0, none⟩ = some (.string N) ∧ w'.cell? ⟨b7, off7 + kk * 2, none⟩ = some (.slice qa qn qc) ∧ w'.cell? ⟨b7, off7 + kk * 2 + 1, none⟩ = some (.slice qa2 qm qc2)) (by kernel_rfl) (HSk.out _ hbD.out) (fun hHeld => ?_)
                refine wpAnyH_take (i := 0) (v := ?_) rfl (by kernel_rfl) (by kernel_rfl) (by kernel_rfl) (fun _ _ _ h => h) (Or.inl ⟨by rfl, ?_⟩) (by assumption) ?_
                rotate_left 1
                · intro w hSw; (try dsimp only at hSw); obtain ⟨y, y1, y2, y3, y4⟩ := hSw; go_simp; (try with_reducible rfl)
                (try simp only [Act.put, List.setIfInBounds_toArray, List.set_cons_zero, List.set_cons_succ])
                refine wpAnyH_take (i := 1) (v := ?_) rfl (by kernel_rfl) (by kernel_rfl) (by kernel_rfl) (fun _ _ _ h => h) (Or.inl ⟨by rfl, ?_⟩) (by assumption) ?_
                rotate_left 1
                · intro w hSw; (try dsimp only at hSw); obtain ⟨y, y1, y2, y3, y4⟩ := hSw; go_simp; (try with_reducible rfl)
                (try simp only [Act.put, List.setIfInBounds_toArray, List.set_cons_zero, List.set_cons_succ])
                refine wpAnyH_take (i := 2) (v := ?_) rfl (by kernel_rfl) (by kernel_rfl) (by kernel_rfl) (fun _ _ _ h => h) (Or.inl ⟨by rfl, ?_⟩) (by assumption) ?_
                rotate_left 1
                · intro w hSw; (try dsimp only at hSw); obtain ⟨y, y1, y2, y3, y4⟩ := hSw; go_simp; (try with_reducible rfl)
                (try simp only [Act.put, List.setIfInBounds_toArray, List.set_cons_zero, List.set_cons_succ])
                refine wpAnyH_take (i := 3) (v := ?_) rfl (by kernel_rfl) (by kernel_rfl) (by kernel_rfl) (fun _ _ _ h => h) (Or.inl ⟨by rfl, ?_⟩) (by assumption) ?_
                rotate_left 1
                · intro w hSw; (try dsimp only at hSw); obtain ⟨y, y1, y2, y3, y4⟩ := hSw; go_simp; (try with_reducible rfl)
                (try simp only [Act.put, List.setIfInBounds_toArray, List.set_cons_zero, List.set_cons_succ])
                refine wpAnyH_take (i := 4) (v := ?_) rfl (by kernel_rfl) (by kernel_rfl) (by kernel_rfl) (fun _ _ _ h => h) (Or.inl ⟨by rfl, ?_⟩) (by assumption) ?_
                rotate_left 1
                · intro w hSw; (try dsimp only at hSw); obtain ⟨y, y1, y2, y3, y4⟩ := hSw; go_simp; (try with_reducible rfl)
                (try simp only [Act.put, List.setIfInBounds_toArray, List.set_cons_zero, List.set_cons_succ])
                refine wpAnyH_take (i := 5) (v := ?_) rfl (by kernel_rfl) (by kernel_rfl) (by kernel_rfl) (fun _ _ _ h => h) (Or.inl ⟨by rfl, ?_⟩) (by assumption) ?_
                rotate_left 1
                · intro w hSw; (try dsimp only at hSw); obtain ⟨y, y1, y2, y3, y4⟩ := hSw; go_simp; (try with_reducible rfl)
                (try simp only [Act.put, List.setIfInBounds_toArray, List.set_cons_zero, List.set_cons_succ])
                refine wpAnyH_take (i := 6) (v := ?_) rfl (by kernel_rfl) (by kernel_rfl) (by kernel_rfl) (fun _ _ _ h => h) (Or.inl ⟨by rfl, ?_⟩) (by assumption) ?_
                rotate_left 1
                · intro w hSw; (try dsimp only at hSw); obtain ⟨y, y1, y2, y3, y4⟩ := hSw; go_simp; (try with_reducible rfl)
                (try simp only [Act.put, List.setIfInBounds_toArray, List.set_cons_zero, List.set_cons_succ])
                refine wpAnyH_ready (rs := [7]) (by kernel_rfl) (by simp) ?_
                refine AllReadyH.cons rfl (fun K hK => ?_) ?_
                · go_simp; go_wp2_with (go_at_call 21; refine (HFn.out _ (after HBw4.out hbD.out)).mono ?_; rintro e u6 ⟨rfl, hu6⟩); have hU6 := Lib.hid (hbD.out.trans hu6)
                  refine hK.out _ _ (HSk.out _ hU6.out) (fun hHeld => ?_)
                  clear hK K
                  refine wpAnyH_take (i := 8) (v := ?_) rfl (by kernel_rfl) (by kernel_rfl) (by kernel_rfl) (fun _ _ _ h => h) (Or.inl ⟨by rfl, ?_⟩) (by assumption) ?_
                  rotate_left 1
                  · intro w hSw; (try dsimp only at hSw); obtain ⟨y, y1, y2, y3, y4⟩ := hSw; go_simp; (try with_reducible rfl)
                  (try simp only [Act.put, List.setIfInBounds_toArray, List.set_cons_zero, List.set_cons_succ])
                  refine wpAnyH_take (i := 9) (v := ?_) rfl (by kernel_rfl) (by kernel_rfl) (by kernel_rfl) (fun _ _ _ h => h) (Or.inl ⟨by rfl, ?_⟩) (by assumption) ?_
                  rotate_left 1
                  · intro w hSw; (try dsimp only at hSw); obtain ⟨y, y1, y2, y3, y4⟩ := hSw; go_simp; (try with_reducible rfl)
                  (try simp only [Act.put, List.setIfInBounds_toArray, List.set_cons_zero, List.set_cons_succ])
                  refine wpAnyH_take (i := 10) (v := ?_) rfl (by kernel_rfl) (by kernel_rfl) (by kernel_rfl) (fun _ _ _ h => h) (Or.inl ⟨by rfl, ?_⟩) (by assumption) ?_
                  rotate_left 1
                  · intro w hSw; (try dsimp only at hSw); obtain ⟨y, y1, y2, y3, y4⟩ := hSw; go_simp; (try with_reducible rfl)
                  (try simp only [Act.put, List.setIfInBounds_toArray, List.set_cons_zero, List.set_cons_succ])
                  refine wpAnyH_ready (rs := [11]) (by kernel_rfl) (by simp) ?_
                  refine AllReadyH.cons rfl (fun K hK => ?_) ?_
                  · go_simp
                    refine hK.out _ _ (by assumption) (fun hHeld => ?_)
                    clear hK K
                    refine wpAnyH_ready (rs := [12]) (by kernel_rfl) (by simp) ?_
                    refine AllReadyH.cons rfl (fun K hK => ?_) ?_
                    · go_simp
                      refine hK.out _ _ (by assumption) (fun hHeld => ?_)
                      clear hK K
                      refine wpAnyH_done (by kernel_rfl) ?_ _
                      have HB5 := Lib.hid (after HB4.out hU6.out)
                      have HBw5 := Lib.hid (after HBw4.out hU6.out)
                      obtain ⟨-, m0, m1, m2', m3⟩ := HSk.out _ hU6.out
                      have HrA5 := Lib.hid (HrA4.out.next hU6.out)
                      have HrP5 := Lib.hid (HrP4.out.next hU6.out)
                      have hj0 : decide ((jj : Int) < 0) = false := decide_eq_false (by omega)
                      have hjg : decide ((jj : Int) ≥ (qm : Int)) = false := decide_eq_false (by omega)
                      have hjg2 : decide (qm ≤ jj) = false := decide_eq_false (by omega)
                      have hjg3 : decide ((qm : Int) ≤ (jj : Int)) = false := decide_eq_false (by omega)
                      obtain ⟨b4, off4, hae4, hB4', hc4⟩ := ((HO.out.next HBw5.out).s2 _ HOm.out).cells (by intro e; have := HJl.out; simp only at e this; rw [e] at this; simp at this)
                      simp only at hae4 hc4
                      subst hae4
                      obtain ⟨x0, x1, x2, x3⟩ := sy_cells (fun q hq => hc4 jj HJl.out q hq)
                      have hze : ql[jj]'HJl.out = ⟨zn, zb, zs, zo⟩ := by
                        have := List.getElem?_eq_getElem (l := ql) HJl.out
                        rw [HZ4.out] at this
                        exact (Option.some.inj this).symm
                      rw [hze] at x0 x1 x2 x3
                      simp only [] at x0 x1 x2 x3
                      generalize (⟨zn.toArray⟩ : ByteArray) = ZN at x0
                      obtain ⟨P13, hP13⟩ : ∃ x, x = u6.heap.size := ⟨_, rfl⟩
                      obtain ⟨W7, hW7⟩ : ∃ x, x = u6.alloc (.cells #[.string ZN, .int .i64 zb, .int .i64 zs, .int .i64 zo] 54) := ⟨_, rfl⟩
                      have hb7' : Below u6.heap.size u6 W7 := by rw [hW7]; exact lit_below u6 _
                      have HB7 := Lib.hid (after HB5.out hb7')
                      have hr13 : RB W7 P13 #[.string ZN, .int .i64 zb, .int .i64 zs, .int .i64 zo] 54 := by rw [hW7, hP13]; exact rb_new u6 _ _
                      have a1 : W7.cell? ⟨P13, 1, none⟩ = some (.int .i64 zb) := hr13.cell
                      have a2 : W7.cell? ⟨P13, 2, none⟩ = some (.int .i64 zs) := hr13.cell
                      have a3 : W7.cell? ⟨P13, 3, none⟩ = some (.int .i64 zo) := hr13.cell
                      have c1 : W7.cell? ⟨P7, 1, none⟩ = some (.int .i64 yb) := (HrA5.out.next hb7').cell
                      have c2 : W7.cell? ⟨P7, 2, none⟩ = some (.int .i64 ys) := (HrA5.out.next hb7').cell
                      have g1 : W7.cell? ⟨P7 + 1, 1, none⟩ = some (.int .i64 zs) := (HrP5.out.next hb7').cell
                      have g2 : W7.cell? ⟨P7 + 1, 2, none⟩ = some (.int .i64 zo) := (HrP5.out.next hb7').cell
                      rw [hW7] at a1 a2 a3 c1 c2 g1 g2
                      rw [hP13] at a1 a2 a3
                      have HWE7 : Hid (u6.alloc (.cells #[.string ZN, .int .i64 zb, .int .i64 zs, .int .i64 zo] 54) = W7) := Lib.hid hW7.symm
                      have r1 : decide (zb < 2) = false := decide_eq_false (by have := HF6.out; omega)
                      have r2 : (zs != zs) = false := by simp
                      have r3 : (zo != zo) = false := by simp
                      have r4 : decide (zs < 0) = false := decide_eq_false (by have := HF8.out; omega)
                      by_cases hgt : yb < zb
                      · have q1 : decide (zb > yb) = true := decide_eq_true hgt
                        have q1' : decide (yb < zb) = true := decide_eq_true hgt
                        have hys : ys < 0 := by
                          apply Classical.byContradiction
                          intro h
                          have := HF7.out (by omega)
                          omega
                        have q2 : decide (ys ≥ 0) = false := decide_eq_false (by omega)
                        have q2' : decide (0 ≤ ys) = false := decide_eq_false (by omega)
                        clear hgt hys hc4 hB4' hze hW7 hb7' hr13 hP13
                        go_wp2
                        rw [HWE7.out]
                        go_roundw
                        case rel => exact ⟨j + 1, _, rfl, by omega, by go_num, HB7⟩
                        case measure => simp [intOf]; omega
                      · have q1 : decide (zb > yb) = false := decide_eq_false hgt
                        have q1' : decide (yb < zb) = false := decide_eq_false hgt
                        clear hgt hc4 hB4' hze hW7 hb7' hr13 hP13
                        go_wp2
                        rw [HWE7.out]
                        go_roundw
                        case rel => exact ⟨j + 1, _, rfl, by omega, by go_num, HB7⟩
                        case measure => simp [intOf]; omega
                    exact AllReadyH.nil
                  exact AllReadyH.nil
                exact AllReadyH.nil
            · have hlji : ¬ (j : Int) < (m2 : Int) := by omega
              go_wp2
              go_roundw
              case rel => exact ⟨k + 1, _, rfl, by omega, by go_num, HKy⟩
              case measure => simp [intOf]; omega
        · have hlti : ¬ (k : Int) < (n : Int) := by omega
          have HBx := Lib.hid (after HB3.out HK.out)
          go_wp2_with fail
          refine (HRz.out _ HBx.out).mono ?_
          rintro e u4 ⟨rfl, hb⟩
          have HB4 := Lib.hid (after HBx.out hb)
          clear hb
          go_wp2
          go_ret
          exact ⟨rfl, HB4.out⟩
  · go_wp2
    go_ret
    exact ⟨rfl, HB.out⟩
end Go.Proofs.YtdgfadabaejkhaaGreatDoor
