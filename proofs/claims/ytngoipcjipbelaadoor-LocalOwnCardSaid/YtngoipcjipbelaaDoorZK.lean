/- local's law: LocalOwn. -/
import Derived.Test.YtngoipcjipbelaaDoorYD
import Derived.Deep.RegionHeld3
import Derived.Deep.QuietTactic
import Derived.BigQuiet
namespace Go.Proofs.YtngoipcjipbelaaDoor
set_option linter.unusedVariables false
set_option linter.unusedSimpArgs false
open Go.ChangeShapes Go.WideShapes Go.Deep Go.RowKit

/-- A label's own b stands where it stands, or behind it there; its f is another one. -/
theorem find_own {l : List Mk} {at' : Nat} (h : isM 1 l = true) (ha : at' < l.length) (i : Nat) (ok : Bool) (k : Nat) (is : Bool) (h1 : findM l l[at'].no false l[at'].line = (i, ok)) (h2 : findM l l[at'].no true l[at'].line = (k, is)) :
    ok = true ∧ at' ≤ i ∧ (∃ hi : i < l.length, l[i].line = l[at'].line) ∧ (is = true → i < k ∧ ∃ hk : k < l.length, l[at'].line < l[k].line) := by
  obtain ⟨n1, n2⟩ := find_near (no := l[at'].no) (line := l[at'].line) (up := false) h
  obtain ⟨m1, m2⟩ := find_near (no := l[at'].no) (line := l[at'].line) (up := true) h
  rw [h1] at n1 n2
  rw [h2] at m1 m2
  obtain ⟨q1, -, q3⟩ := n1 at' ha (by unfold sideM; simp)
  obtain ⟨hi, hs⟩ := n2 q1
  have hle : at' ≤ i := q3 rfl
  have hline : l[i].line = l[at'].line := by
    have a1 := isM_sorted h at' i ha hi hle
    unfold sideM at hs
    simp only [Bool.and_eq_true, beq_iff_eq, decide_eq_false_iff_not] at hs
    have := hs.2
    omega
  refine ⟨q1, hle, ⟨hi, hline⟩, fun his => ?_⟩
  obtain ⟨hk, hs2⟩ := m2 his
  have hkl : l[at'].line < l[k].line := by
    unfold sideM at hs2
    simp only [Bool.and_eq_true, beq_iff_eq, decide_eq_true_eq] at hs2
    exact hs2.2
  refine ⟨Classical.byContradiction fun hh => ?_, hk, hkl⟩
  have := isM_sorted h k i hk hi (by omega)
  omega
/-- Behind a region's first operation, whatever order is picked, if the rest only reads. -/
theorem wpAny_tail {P : Program} {Q : Exit → Act → World → Prop} {o : Oper} {l : List Oper} {fuel : Nat} {listed : Array Bool} {a : Act} {w : World} (hf : fuel = l.length) (hs : Region.noSelect (o :: l).toArray = true) (hB : Region.lexFrom .any (o :: l).toArray l.length 1 listed = true)
    (h : wpQuiet P (o :: l).toArray (fun u => ∃ n, u = w.drewN n) (fun a' => ∀ u, (∃ n, u = w.drewN n) → Q .normal a' u) l a) : wpAny P .any (o :: l).toArray Q fuel listed a w := by
  subst hf
  exact wpAny_of_quiet (fun _ u hu h => h u hu) _ _ _ _ ⟨0, rfl⟩ (wpAnyQ_lex hs l 1 listed a (fun j => by simp [Nat.add_comm 1 j]) hB h)
set_option maxRecDepth 100000 in
set_option maxHeartbeats 6000000 in
theorem LocalOwn_walk (w : World) (a : Option Addr) (n c : Nat) (l : List Mk) (hr : n * 32 ≤ reachBytes) (hg : ∀ m ∈ l, GoodMk m) (hs : SL mkC 4 w w.heap.size a n l) (hz : a = none → n = 0 ∧ c = 0) (hb : n ≤ c)
    (x : Int) (hx : i64ok x) (hT : TabO w) :
    Calls Tryd.prog 12 #[.slice a n c, .int .i64 x] w (RetB (.bool true) w) := by
  have HT := Lib.hid hT
  have HLb : Hid (∀ u, TabO u → Calls Tryd.prog 30 #[] u (RetB (.bool true) u)) := Lib.hid labeled_true
  by_cases h40 : 40 < n
  · have h40z : (40 : Int) < (n : Int) := by omega
    clear hT hs hz hb hg hr
    go_enter Tryd.func12, Tryd.ntmps12
    go_wp2_with fail
    refine (HLb.out _ HT.out).mono ?_
    rintro e u3 ⟨rfl, hb⟩
    have HB3 := Lib.hid hb
    clear hb
    go_wp2
    go_ret
    exact ⟨rfl, HB3.out⟩
  have h40z : ¬ (40 : Int) < (n : Int) := by omega
  by_cases hx0 : x < 0
  · clear hT hs hz hb hg hr
    go_enter Tryd.func12, Tryd.ntmps12
    go_wp2_with fail
    refine (HLb.out _ HT.out).mono ?_
    rintro e u3 ⟨rfl, hb⟩
    have HB3 := Lib.hid hb
    clear hb
    go_wp2
    go_ret
    exact ⟨rfl, HB3.out⟩
  by_cases hxn : (n : Int) ≤ x
  · clear hT hs hz hb hg hr
    go_enter Tryd.func12, Tryd.ntmps12
    go_wp2_with fail
    refine (HLb.out _ HT.out).mono ?_
    rintro e u3 ⟨rfl, hb⟩
    have HB3 := Lib.hid hb
    clear hb
    go_wp2
    go_ret
    exact ⟨rfl, HB3.out⟩
  have hn6 : n ≤ 1000000 := by omega
  obtain ⟨p, rfl⟩ : ∃ p : Nat, x = p := ⟨x.toNat, by omega⟩
  have HS := Lib.hid hs
  have hlen := hs.len
  have hpl : p < l.length := by omega
  have hxn2 : ¬ n ≤ p := by omega
  have HIs : Hid (∀ (u : World), SL mkC 4 u u.heap.size a n l → Calls Tryd.prog 33 #[.slice a n c] u (RetB (.bool (isM 1 l)) u)) := Lib.hid (fun u h => MarksIs_any h hn6)
  cases hI : isM 1 l
  · rw [hI] at HIs
    clear hT hs hz hb hg hr hI hlen hpl h40
    go_enter Tryd.func12, Tryd.ntmps12
    go_wp2_with fail
    refine (HIs.out _ HS.out).mono ?_
    rintro e u1 ⟨rfl, hb⟩
    have HB1 := Lib.hid hb
    clear hb
    go_wp2_with fail
    refine (HLb.out _ (HT.out.next HB1.out)).mono ?_
    rintro e u3 ⟨rfl, hb⟩
    have HB3 := Lib.hid (after HB1.out hb)
    clear hb
    go_wp2
    go_ret
    exact ⟨rfl, HB3.out⟩
  · rw [hI] at HIs
    obtain ⟨i, ok, hf1⟩ : ∃ i ok, findM l l[p].no false l[p].line = (i, ok) := ⟨_, _, rfl⟩
    obtain ⟨k, is, hf2⟩ : ∃ k is, findM l l[p].no true l[p].line = (k, is) := ⟨_, _, rfl⟩
    obtain ⟨q1, q2, ⟨hi, q3⟩, q4⟩ := find_own hI hpl i ok k is hf1 hf2
    have HF1 : Hid (∀ (u : World), SL mkC 4 u u.heap.size a n l → Calls Tryd.prog 32 #[.slice a n c, .int .i64 l[p].no, .bool false, .int .i64 l[p].line] u (RetB (.tuple #[.int .i64 (i : Int), .bool ok]) u)) := Lib.hid (fun u h => by have := Find_any (c := c) h hn6 l[p].no false l[p].line; rw [hf1] at this; exact this)
    have HF2 : Hid (∀ (u : World), SL mkC 4 u u.heap.size a n l → Calls Tryd.prog 32 #[.slice a n c, .int .i64 l[p].no, .bool true, .int .i64 l[p].line] u (RetB (.tuple #[.int .i64 (k : Int), .bool is]) u)) := Lib.hid (fun u h => by have := Find_any (c := c) h hn6 l[p].no true l[p].line; rw [hf2] at this; exact this)
    obtain ⟨b, off, rfl, hB, hc⟩ := hs.cells (hs.ne (k := p) (by omega))
    obtain ⟨d0, d1, -, -⟩ := mk_cells (fun j hj => hc p hpl j hj)
    obtain ⟨-, e1, -, -⟩ := mk_cells (fun j hj => hc i hi j hj)
    generalize l[p] = m at *
    have HQ := Lib.hid q4
    have hlenK := hlen
    have hpn : (p : Int) < (n : Int) := by omega
    have hp0 : (0 : Int) ≤ (p : Int) := by omega
    have hin : (i : Int) < (n : Int) := by omega
    have hi0 : (0 : Int) ≤ (i : Int) := by omega
    have hpi : (p : Int) ≤ (i : Int) := by omega
    rw [q3] at e1
    subst q1
    clear hf1 hf2 q2 q3 hI hT hs hz hb hg hr hB q4 hi hpl hlen h40
    have HCL : Hid (∀ u, Below w.heap.size w u → u.cell? ⟨b, off + p * 4, none⟩ = some (.int .i64 m.no) ∧ u.cell? ⟨b, off + p * 4 + 1, none⟩ = some (.int .i64 m.line) ∧ u.cell? ⟨b, off + i * 4 + 1, none⟩ = some (.int .i64 m.line)) := Lib.hid (fun u hb => ⟨by rw [hb.cell (cell_lt d0)]; exact d0, by rw [hb.cell (cell_lt d1)]; exact d1, by rw [hb.cell (cell_lt e1)]; exact e1⟩)
    have HY : Hid (is = true → i < k ∧ k < n ∧ ∃ y, m.line < y ∧ ∀ u, Below w.heap.size w u → u.cell? ⟨b, off + k * 4 + 1, none⟩ = some (.int .i64 y)) := Lib.hid (fun h => by
      obtain ⟨h1, hk, h2⟩ := HQ.out h
      obtain ⟨-, z1, -, -⟩ := mk_cells (fun j hj => hc k hk j hj)
      exact ⟨h1, by rw [hlenK]; exact hk, _, h2, fun u hb => by rw [hb.cell (cell_lt z1)]; exact z1⟩)
    clear hc HQ d0 d1 e1 hlenK
    go_enter Tryd.func12, Tryd.ntmps12
    go_wp2_with fail
    refine (HIs.out _ HS.out).mono ?_
    rintro e u1 ⟨rfl, hb⟩
    have HB1 := Lib.hid hb
    have HS1 := Lib.hid (HS.out.next hb)
    clear hb
    obtain ⟨d0, d1, e1⟩ := HCL.out _ HB1.out
    go_wp2_with fail
    first | (go_region_held3 (fun w' => w'.cell? ⟨b, off + p * 4, none⟩ = some (.int .i64 m.no) ∧ w'.cell? ⟨b, off + p * 4 + 1, none⟩ = some (.int .i64 m.line)) (go_keep) ((first
      | (go_at_call 32; refine (HF1.out _ (HS1.out.next ((Below.refl u1.heap.size u1).drew))).mono ?_; rintro e u2 ⟨rfl, hb2⟩; have hb2' := ((Below.refl u1.heap.size u1).drew).trans hb2; have s0 := (HCL.out _ (after HB1.out hb2')).1; have s1 := (HCL.out _ (after HB1.out hb2')).2.1)
      | fail))) | fail
    clear d0 d1 e1 s0 s1
    have HB2 := Lib.hid (after HB1.out hb2')
    have HS2 := Lib.hid (HS1.out.next hb2')
    clear hb2 hb2'
    obtain ⟨d0, d1, e1⟩ := HCL.out _ HB2.out
    go_wp2_with fail
    first | (go_region_held3 (fun w' => w'.cell? ⟨b, off + p * 4, none⟩ = some (.int .i64 m.no) ∧ w'.cell? ⟨b, off + p * 4 + 1, none⟩ = some (.int .i64 m.line)) (go_keep) ((first
      | (go_at_call 32; refine (HF2.out _ (HS2.out.next ((Below.refl u2.heap.size u2).drew))).mono ?_; rintro e u3 ⟨rfl, hb3⟩; have hb3' := ((Below.refl u2.heap.size u2).drew).trans hb3; have s0 := (HCL.out _ (after HB2.out hb3')).1; have s1 := (HCL.out _ (after HB2.out hb3')).2.1)
      | fail))) | fail
    clear d0 d1 e1 s0 s1
    have HB3 := Lib.hid (after HB2.out hb3')
    clear hb3 hb3' HS1 HS2 HF1 HF2
    obtain ⟨d0, d1, e1⟩ := HCL.out _ HB3.out
    cases is
    · clear HY
      go_wp2_with fail
      refine wp_region_any (by kernel_rfl) ?_
      try (change wpAny _ _ _ _ _ _ _ (World.drew _))
      refine wpAny_ready (rs := [0]) (by kernel_rfl) (by simp) ?_
      refine AllReady.cons rfl (fun K hK => ?_) AllReady.nil
      go_simp
      go_at_call 30
      refine (HLb.out _ (HT.out.next (HB3.out.trans (((Below.refl u3.heap.size u3).drew).mono HB3.out.size)))).mono ?_
      rintro e u4 ⟨rfl, hb4⟩
      have hb4' := ((Below.refl u3.heap.size u3).drew).trans hb4
      have s0 := (HCL.out _ (after HB3.out hb4')).2.2
      have s1 := (HCL.out _ (after HB3.out hb4')).2.1
      refine hK _ _ ?_
      clear hK K
      try simp only [Act.put, List.setIfInBounds_toArray, List.set_cons_zero, List.set_cons_succ]
      clear d0 d1 e1
      refine wpAny_tail (by rfl) (by kernel_rfl) (by kernel_rfl) ?_
      repeat (go_big_quiet_step (fail))
      refine wpQuiet_nil ?_
      intro _ hw'
      obtain ⟨nq, hw''⟩ := hw'
      subst hw''
      go_wp2
      go_ret
      exact ⟨rfl, below_drewN (after HB3.out hb4') nq⟩
    · obtain ⟨y1, y2, y, y3, y4⟩ := HY.out rfl
      have HY4 := Lib.hid y4
      have k1 : (i : Int) < (k : Int) := by omega
      have k2 : (k : Int) < (n : Int) := by omega
      have k0 : (0 : Int) ≤ (k : Int) := by omega
      clear HY y4 y1 y2
      go_wp2_with fail
      refine wp_region_any (by kernel_rfl) ?_
      try (change wpAny _ _ _ _ _ _ _ (World.drew _))
      refine wpAny_ready (rs := [0]) (by kernel_rfl) (by simp) ?_
      refine AllReady.cons rfl (fun K hK => ?_) AllReady.nil
      go_simp
      go_at_call 30
      refine (HLb.out _ (HT.out.next (HB3.out.trans (((Below.refl u3.heap.size u3).drew).mono HB3.out.size)))).mono ?_
      rintro e u4 ⟨rfl, hb4⟩
      have hb4' := ((Below.refl u3.heap.size u3).drew).trans hb4
      have s0 := (HCL.out _ (after HB3.out hb4')).2.2
      have s1 := (HCL.out _ (after HB3.out hb4')).2.1
      have s2 := HY4.out _ (after HB3.out hb4')
      refine hK _ _ ?_
      clear hK K
      try simp only [Act.put, List.setIfInBounds_toArray, List.set_cons_zero, List.set_cons_succ]
      clear d0 d1 e1
      refine wpAny_tail (by rfl) (by kernel_rfl) (by kernel_rfl) ?_
      repeat (go_big_quiet_step (fail))
      refine wpQuiet_nil ?_
      intro _ hw'
      obtain ⟨nq, hw''⟩ := hw'
      subst hw''
      go_wp2
      go_ret
      exact ⟨rfl, below_drewN (after HB3.out hb4') nq⟩
end Go.Proofs.YtngoipcjipbelaaDoor
