/- operand: memory. -/
import Derived.Test.YthejefldnpeciaaGreatDoorzO5
namespace Go.Proofs.YthejefldnpeciaaGreatDoor
set_option linter.unusedVariables false
set_option linter.unusedSimpArgs false
open Go.ChangeShapes Go.WideShapes Go.Deep Go.RowKit

theorem low_head {l r : List Ti} {g : Bool} {x : Unit} (h : oneP (fun t => if t.kind = 1 ∧ t.text = loB then some ((), false) else none) l = some (x, r, g)) : ∃ t, l = t :: r ∧ (t.kind != 1) = false ∧ (!(t.text == loB)) = false ∧ g = false := by
  obtain ⟨t, rfl, e⟩ := one_some h
  split at e
  · rename_i c
    cases e
    exact ⟨t, rfl, by rw [c.1]; rfl, by rw [c.2]; rfl, rfl⟩
  · cases e
theorem low_head_no {l : List Ti} (h : oneP (fun t => if t.kind = 1 ∧ t.text = loB then some ((), false) else none) l = none) : ((nextT l).kind != 1) = true ∨ ((nextT l).kind != 1) = false ∧ (!((nextT l).text == loB)) = true := by
  rcases one_none h with rfl | ⟨t, r, rfl, e⟩
  · exact .inl rfl
  · split at e
    · cases e
    · rename_i c
      show (t.kind != 1) = true ∨ (t.kind != 1) = false ∧ (!(t.text == loB)) = true
      by_cases k : t.kind = 1
      · refine .inr ⟨by rw [k]; rfl, ?_⟩
        have : (t.text == loB) = false := by rw [beq_eq_false_iff_ne]; exact fun e => c ⟨k, e⟩
        rw [this]; rfl
      · exact .inl (by rw [bne_iff_ne]; exact k)
theorem low_ok {w : World} {p : Nat} {l r : List Ti} {g g' : Bool} {o : Po} (h : RR w p l g) (hd : lowP l = some (o, r, g')) :
    Calls Tryz.prog 69 #[.pointer (some ⟨p, 0, none⟩)] w (Did (poV o) p r (g || g') w) := by
  obtain ⟨x1, r1, g1, g2, e1, hd2, rfl⟩ := bind_some hd
  obtain ⟨x2, r2, g3, g4, e2, hd3, rfl⟩ := bind_some hd2
  obtain ⟨o', r3, g5, g6, e3, hd4, rfl⟩ := bind_some hd3
  obtain ⟨t, rfl, c1, c2, rfl⟩ := low_head e1
  rcases expr_shape e3 with ⟨s, a, rfl⟩ | ⟨m, v, rfl⟩
  · rw [if_pos rfl] at hd4
    obtain ⟨rfl, rfl, rfl⟩ := pure_some hd4
    rw [show (g || (false || (g3 || (g5 || false)))) = ((g || g3) || g5) by cases g <;> cases g3 <;> cases g5 <;> rfl]
    exact low_yes h rfl c1 c2 e2 e3
  · rw [if_neg (show ¬ (2 : Int) = 3 by decide)] at hd4; cases hd4
theorem low_shape {l r : List Ti} {g' : Bool} {o : Po} (hd : lowP l = some (o, r, g')) : ∃ s a, o = ⟨6, 0, false, false, 0, s, a⟩ := by
  obtain ⟨x1, r1, g1, g2, e1, hd2, rfl⟩ := bind_some hd
  obtain ⟨x2, r2, g3, g4, e2, hd3, rfl⟩ := bind_some hd2
  obtain ⟨o', r3, g5, g6, e3, hd4, rfl⟩ := bind_some hd3
  rcases expr_shape e3 with ⟨s, a, rfl⟩ | ⟨m, v, rfl⟩
  · rw [if_pos rfl] at hd4
    obtain ⟨rfl, rfl, rfl⟩ := pure_some hd4
    exact ⟨s, a, rfl⟩
  · rw [if_neg (show ¬ (2 : Int) = 3 by decide)] at hd4; cases hd4
theorem low_none {w : World} {p : Nat} {l : List Ti} {g : Bool} (h : RR w p l g) (hd : lowP l = none) :
    Calls Tryz.prog 69 #[.pointer (some ⟨p, 0, none⟩)] w (Thr p w) := by
  rcases bind_none hd with e1 | ⟨x1, r1, g1, e1, hd2⟩
  · exact low_no1 h rfl (low_head_no e1)
  obtain ⟨t, rfl, c1, c2, rfl⟩ := low_head e1
  rcases bind_none hd2 with e2 | ⟨x2, r2, g3, e2, hd3⟩
  · exact low_no2 h rfl c1 c2 e2
  rcases bind_none hd3 with e3 | ⟨o', r3, g5, e3, hd4⟩
  · exact low_no3 h rfl c1 c2 e2 e3
  rcases expr_shape e3 with ⟨s, a, rfl⟩ | ⟨m, v, rfl⟩
  · rw [if_pos rfl] at hd4; cases hd4
  · exact low_no4 h rfl c1 c2 e2 e3
/-- A second block, where an operand is made. -/
structure RY (w u : World) (p X Y : Nat) (o : Po) (l : List Ti) (g : Bool) : Prop where
  x : RX w u p X l g
  y : RB u Y (poA o) 38
  lt : X < Y
theorem RY.np {w u : World} {p X Y : Nat} {o : Po} {l : List Ti} {g : Bool} (h : RY w u p X Y o l g) : Y ≠ p := by
  have := h.x.q; have := h.x.s; have := h.lt; omega
theorem RY.call {w u u' : World} {p X Y : Nat} {o : Po} {l l' : List Ti} {g g' : Bool} (h : RY w u p X Y o l g) (hR : RR u' p l' g') (hK : KP p u u') : RY w u' p X Y o l' g' :=
  ⟨h.x.call hR hK, h.y.kept hK h.np, h.lt⟩
theorem RY.next {w u u' : World} {p X Y : Nat} {o : Po} {l : List Ti} {g : Bool} (h : RY w u p X Y o l g) (hb : Below u.heap.size u u') : RY w u' p X Y o l g :=
  h.call (h.x.r.next hb) (KP.of_below hb)
theorem RY.drewN {w u : World} {p X Y : Nat} {o : Po} {l : List Ti} {g : Bool} (h : RY w u p X Y o l g) (n : Nat) : RY w (u.drewN n) p X Y o l g := h.next (below_drewN (Below.refl _ _) n)
theorem RY.put {w u : World} {p X Y : Nat} {o : Po} {l : List Ti} {g : Bool} (h : RY w u p X Y o l g) (j : Nat) (v : Value) (o' : Po) (e : (poA o).setIfInBounds j v = poA o') : RY w (u.setCell ⟨Y, j, none⟩ v) p X Y o' l g := by
  have hb : Below Y u (u.setCell ⟨Y, j, none⟩ v) := (Below.refl Y u).setCell (p := ⟨Y, j, none⟩) (Nat.le_refl _) v
  have h1 := h.x.q
  have h2 := h.x.s
  have h3 := h.lt
  refine ⟨⟨h.x.r.below hb (by omega), KP.below h.x.k hb (by omega), (hb.block X h3).trans h.x.b, h.x.n, h.x.s, h.x.q⟩, ?_, h3⟩
  rw [← e]; exact h.y.set v
theorem RY.lay {w u : World} {p X : Nat} {l : List Ti} {g : Bool} (h : RX w u p X l g) (o : Po) (hX : u.heap.size = X + 1) : RY w (u.alloc (.cells (poA o) 38)) p X (X + 1) o l g :=
  ⟨h.lay _, by rw [← hX]; exact (MapKept.heap_alloc u _).1, by omega⟩
theorem RX.mk1 {w : World} {p : Nat} {l : List Ti} {g : Bool} (h : RR w p l g) (o : Po) : RY w ((w.alloc (.cells ozC 38)).alloc (.cells (poA o) 38)) p w.heap.size (w.heap.size + 1) o l g :=
  RY.lay (RX.mk0 h) o (World.size_alloc _ _)
set_option maxRecDepth 100000 in
set_option maxHeartbeats 4000000 in
theorem mem_no1 {w : World} {p : Nat} {l : List Ti} {g : Bool} (h : RR w p l g) (hreg : regP l = none) :
    Calls Tryz.prog 67 #[.pointer (some ⟨p, 0, none⟩)] w (Thr p w) := by
  have HReg := Lib.hid hreg
  clear hreg
  have h0 := Lib.hid (RX.mk1 h ⟨4, 0, false, false, 0, [], 0⟩)
  have HZ := zeroOpnd
  obtain ⟨X, hX⟩ : ∃ X, X = w.heap.size := ⟨_, rfl⟩
  rw [← hX] at h0
  clear h
  go_enter Tryz.func67, Tryz.ntmps67
  go_wp2_with fail
  rw [← hX]
  clear hX
  generalize (w.alloc (.cells ozC 38)).alloc (.cells (poA ⟨4, 0, false, false, 0, [], 0⟩) 38) = W0 at h0 ⊢
  refine (reg_no h0.out.x.r HReg.out).mono ?_
  rintro e u1 ⟨rfl, hK⟩
  exact ⟨rfl, rfl, KP.trans' h0.out.x.k hK⟩
set_option maxRecDepth 100000 in
set_option maxHeartbeats 4000000 in
theorem mem_ok1 {w : World} {p : Nat} {l l1 : List Ti} {g g1 rs : Bool} {rn : Int} {t : Ti} {l2 : List Ti} (h : RR w p l g) (hreg : regP l = some ((rn, rs), l1, g1)) (hl : l1 = t :: l2) (hs : isSg [93] t = true) :
    Calls Tryz.prog 67 #[.pointer (some ⟨p, 0, none⟩)] w (Did (poV ⟨4, rn, rs, false, 0, [], 0⟩) p l2 (g || g1) w) := by
  have HReg : Hid (∀ u g, RR u p l g → Calls Tryz.prog 66 #[.pointer (some ⟨p, 0, none⟩)] u (Did (.tuple #[.int .i64 rn, .bool rs]) p l1 (g || g1) u)) := Lib.hid fun u g hu => reg_ok hu hreg
  clear hreg
  subst hl
  have H1 := Lib.hid hs
  clear hs
  have h0 := Lib.hid (RX.mk1 h ⟨4, 0, false, false, 0, [], 0⟩)
  have HZ := zeroOpnd
  obtain ⟨X, hX⟩ : ∃ X, X = w.heap.size := ⟨_, rfl⟩
  rw [← hX] at h0
  clear h
  go_enter Tryz.func67, Tryz.ntmps67
  go_wp2_with fail
  rw [← hX]
  clear hX
  generalize (w.alloc (.cells ozC 38)).alloc (.cells (poA ⟨4, 0, false, false, 0, [], 0⟩) 38) = W0 at h0 ⊢
  refine (HReg.out _ _ h0.out.x.r).mono ?_
  rintro e u1 ⟨rfl, hR, hK⟩
  have HY1 := Lib.hid (h0.out.call hR hK)
  clear hR hK
  obtain ⟨y0, y1, y2, y3, y4, y5, y6, y7, y8⟩ := HY1.out.y.seven
  have yf0 := y7 0
  have yf1 := y7 1
  have yf2 := y7 2
  have yf3 := y7 3
  have yf4 := y7 4
  have yf5 := y7 5
  have yf6 := y7 6
  have HY2 := Lib.hid ((HY1.out.put 1 (.int .i64 rn) ⟨4, rn, false, false, 0, [], 0⟩ rfl).put 2 (.bool rs) ⟨4, rn, rs, false, 0, [], 0⟩ rfl)
  go_wp2_with fail
  generalize (u1.setCell ⟨X + 1, 1, none⟩ (.int .i64 rn)).setCell ⟨X + 1, 2, none⟩ (.bool rs) = U1 at HY2 ⊢
  clear y0 y1 y2 y3 y4 y5 y6 y7 y8 yf0 yf1 yf2 yf3 yf4 yf5 yf6
  refine (take_yes HY2.out.x.r [93] H1.out).mono ?_
  rintro e u2 ⟨rfl, hR, hK⟩
  have HY3 := Lib.hid (HY2.out.call hR hK)
  clear hR hK
  obtain ⟨y0, y1, y2, y3, y4, y5, y6, y7, y8⟩ := HY3.out.y.seven
  have yf0 := y7 0
  have yf1 := y7 1
  have yf2 := y7 2
  have yf3 := y7 3
  have yf4 := y7 4
  have yf5 := y7 5
  have yf6 := y7 6
  obtain ⟨x0, x1, x2, x3, x4, x5, x6, x7, x8⟩ := HY3.out.x.facts
  have xf0 := x7 0
  have xf1 := x7 1
  have xf2 := x7 2
  have xf3 := x7 3
  have xf4 := x7 4
  have xf5 := x7 5
  have xf6 := x7 6
  have HQ := Lib.hid (HY3.out.x.done ⟨4, rn, rs, false, 0, [], 0⟩)
  go_wp2
  refine bodyPost_ret (results_cell_row (P := Tryz.prog) rfl _ _ X 38 _ (0, 0) _ rfl HQ.out.2.2 Tryz.underlying38 rfl (by kernel_rfl)) rfl ?_
  exact ⟨rfl, HQ.out.1, HQ.out.2.1⟩
set_option maxRecDepth 100000 in
set_option maxHeartbeats 4000000 in
theorem mem_no2 {w : World} {p : Nat} {l l1 : List Ti} {g g1 rs : Bool} {rn : Int} (h : RR w p l g) (hreg : regP l = some ((rn, rs), l1, g1)) (hs : isSg [93] (nextT l1) = false) (hw : wantP [44] l1 = none) :
    Calls Tryz.prog 67 #[.pointer (some ⟨p, 0, none⟩)] w (Thr p w) := by
  have HReg : Hid (∀ u g, RR u p l g → Calls Tryz.prog 66 #[.pointer (some ⟨p, 0, none⟩)] u (Did (.tuple #[.int .i64 rn, .bool rs]) p l1 (g || g1) u)) := Lib.hid fun u g hu => reg_ok hu hreg
  clear hreg
  have H1 := Lib.hid hs
  clear hs
  have H2 := Lib.hid hw
  clear hw
  have h0 := Lib.hid (RX.mk1 h ⟨4, 0, false, false, 0, [], 0⟩)
  have HZ := zeroOpnd
  obtain ⟨X, hX⟩ : ∃ X, X = w.heap.size := ⟨_, rfl⟩
  rw [← hX] at h0
  clear h
  go_enter Tryz.func67, Tryz.ntmps67
  go_wp2_with fail
  rw [← hX]
  clear hX
  generalize (w.alloc (.cells ozC 38)).alloc (.cells (poA ⟨4, 0, false, false, 0, [], 0⟩) 38) = W0 at h0 ⊢
  refine (HReg.out _ _ h0.out.x.r).mono ?_
  rintro e u1 ⟨rfl, hR, hK⟩
  have HY1 := Lib.hid (h0.out.call hR hK)
  clear hR hK
  obtain ⟨y0, y1, y2, y3, y4, y5, y6, y7, y8⟩ := HY1.out.y.seven
  have yf0 := y7 0
  have yf1 := y7 1
  have yf2 := y7 2
  have yf3 := y7 3
  have yf4 := y7 4
  have yf5 := y7 5
  have yf6 := y7 6
  have HY2 := Lib.hid ((HY1.out.put 1 (.int .i64 rn) ⟨4, rn, false, false, 0, [], 0⟩ rfl).put 2 (.bool rs) ⟨4, rn, rs, false, 0, [], 0⟩ rfl)
  go_wp2_with fail
  generalize (u1.setCell ⟨X + 1, 1, none⟩ (.int .i64 rn)).setCell ⟨X + 1, 2, none⟩ (.bool rs) = U1 at HY2 ⊢
  clear y0 y1 y2 y3 y4 y5 y6 y7 y8 yf0 yf1 yf2 yf3 yf4 yf5 yf6
  refine (take_no HY2.out.x.r [93] H1.out).mono ?_
  rintro e u2 ⟨rfl, hR, hK⟩
  have HY3 := Lib.hid (HY2.out.call hR hK)
  clear hR hK
  go_wp2_with fail
  refine (want_none HY3.out.x.r [44] H2.out).mono ?_
  rintro e u3 ⟨rfl, hK⟩
  exact ⟨rfl, rfl, KP.trans' HY3.out.x.k hK⟩
set_option maxRecDepth 100000 in
set_option maxHeartbeats 4000000 in
theorem mem_no3 {w : World} {p : Nat} {l l1 : List Ti} {g g1 rs : Bool} {rn : Int} {x : Unit} {l2 l3 : List Ti} {g2 : Bool} {t : Ti} (h : RR w p l g) (hreg : regP l = some ((rn, rs), l1, g1)) (hs : isSg [93] (nextT l1) = false) (hw : wantP [44] l1 = some (x, l2, g2)) (hl : l2 = t :: l3) (hs2 : isSg [58] t = true) (hlow : lowP l3 = none) :
    Calls Tryz.prog 67 #[.pointer (some ⟨p, 0, none⟩)] w (Thr p w) := by
  have HReg : Hid (∀ u g, RR u p l g → Calls Tryz.prog 66 #[.pointer (some ⟨p, 0, none⟩)] u (Did (.tuple #[.int .i64 rn, .bool rs]) p l1 (g || g1) u)) := Lib.hid fun u g hu => reg_ok hu hreg
  clear hreg
  have H1 := Lib.hid hs
  clear hs
  have H2 := Lib.hid hw
  clear hw
  subst hl
  have H3 := Lib.hid hs2
  clear hs2
  have H4 := Lib.hid hlow
  clear hlow
  have h0 := Lib.hid (RX.mk1 h ⟨4, 0, false, false, 0, [], 0⟩)
  have HZ := zeroOpnd
  obtain ⟨X, hX⟩ : ∃ X, X = w.heap.size := ⟨_, rfl⟩
  rw [← hX] at h0
  clear h
  go_enter Tryz.func67, Tryz.ntmps67
  go_wp2_with fail
  rw [← hX]
  clear hX
  generalize (w.alloc (.cells ozC 38)).alloc (.cells (poA ⟨4, 0, false, false, 0, [], 0⟩) 38) = W0 at h0 ⊢
  refine (HReg.out _ _ h0.out.x.r).mono ?_
  rintro e u1 ⟨rfl, hR, hK⟩
  have HY1 := Lib.hid (h0.out.call hR hK)
  clear hR hK
  obtain ⟨y0, y1, y2, y3, y4, y5, y6, y7, y8⟩ := HY1.out.y.seven
  have yf0 := y7 0
  have yf1 := y7 1
  have yf2 := y7 2
  have yf3 := y7 3
  have yf4 := y7 4
  have yf5 := y7 5
  have yf6 := y7 6
  have HY2 := Lib.hid ((HY1.out.put 1 (.int .i64 rn) ⟨4, rn, false, false, 0, [], 0⟩ rfl).put 2 (.bool rs) ⟨4, rn, rs, false, 0, [], 0⟩ rfl)
  go_wp2_with fail
  generalize (u1.setCell ⟨X + 1, 1, none⟩ (.int .i64 rn)).setCell ⟨X + 1, 2, none⟩ (.bool rs) = U1 at HY2 ⊢
  clear y0 y1 y2 y3 y4 y5 y6 y7 y8 yf0 yf1 yf2 yf3 yf4 yf5 yf6
  refine (take_no HY2.out.x.r [93] H1.out).mono ?_
  rintro e u2 ⟨rfl, hR, hK⟩
  have HY3 := Lib.hid (HY2.out.call hR hK)
  clear hR hK
  go_wp2_with fail
  refine (want_any HY3.out.x.r [44] H2.out).mono ?_
  rintro e u3 ⟨rfl, hR, hK⟩
  have HY4 := Lib.hid (HY3.out.call hR hK)
  clear hR hK
  go_wp2_with fail
  refine (take_yes HY4.out.x.r [58] H3.out).mono ?_
  rintro e u4 ⟨rfl, hR, hK⟩
  have HY5 := Lib.hid (HY4.out.call hR hK)
  clear hR hK
  go_wp2_with fail
  refine (low_none HY5.out.x.r H4.out).mono ?_
  rintro e u5 ⟨rfl, hK⟩
  exact ⟨rfl, rfl, KP.trans' HY5.out.x.k hK⟩
set_option maxRecDepth 100000 in
set_option maxHeartbeats 4000000 in
theorem mem_ok2 {w : World} {p : Nat} {l l1 : List Ti} {g g1 rs : Bool} {rn : Int} {x x2 : Unit} {l2 l3 l4 l5 : List Ti} {g2 g4 g5 : Bool} {t : Ti} {o : Po} (h : RR w p l g) (hreg : regP l = some ((rn, rs), l1, g1)) (hs : isSg [93] (nextT l1) = false) (hw : wantP [44] l1 = some (x, l2, g2)) (hl : l2 = t :: l3) (hs2 : isSg [58] t = true) (hlow : lowP l3 = some (o, l4, g4)) (hw2 : wantP [93] l4 = some (x2, l5, g5)) :
    Calls Tryz.prog 67 #[.pointer (some ⟨p, 0, none⟩)] w (Did (poV ⟨4, rn, rs, false, 0, o.sym, o.add⟩) p l5 ((((g || g1) || g2) || g4) || g5) w) := by
  have HReg : Hid (∀ u g, RR u p l g → Calls Tryz.prog 66 #[.pointer (some ⟨p, 0, none⟩)] u (Did (.tuple #[.int .i64 rn, .bool rs]) p l1 (g || g1) u)) := Lib.hid fun u g hu => reg_ok hu hreg
  clear hreg
  have H1 := Lib.hid hs
  clear hs
  have H2 := Lib.hid hw
  clear hw
  subst hl
  have H3 := Lib.hid hs2
  clear hs2
  obtain ⟨s, a, rfl⟩ := low_shape hlow
  have HLow : Hid (∀ u g, RR u p l3 g → Calls Tryz.prog 69 #[.pointer (some ⟨p, 0, none⟩)] u (Did (poV ⟨6, 0, false, false, 0, s, a⟩) p l4 (g || g4) u)) := Lib.hid fun u g hu => low_ok hu hlow
  clear hlow
  have H5 := Lib.hid hw2
  clear hw2
  have h0 := Lib.hid (RX.mk1 h ⟨4, 0, false, false, 0, [], 0⟩)
  have HZ := zeroOpnd
  obtain ⟨X, hX⟩ : ∃ X, X = w.heap.size := ⟨_, rfl⟩
  rw [← hX] at h0
  clear h
  go_enter Tryz.func67, Tryz.ntmps67
  go_wp2_with fail
  rw [← hX]
  clear hX
  generalize (w.alloc (.cells ozC 38)).alloc (.cells (poA ⟨4, 0, false, false, 0, [], 0⟩) 38) = W0 at h0 ⊢
  refine (HReg.out _ _ h0.out.x.r).mono ?_
  rintro e u1 ⟨rfl, hR, hK⟩
  have HY1 := Lib.hid (h0.out.call hR hK)
  clear hR hK
  obtain ⟨y0, y1, y2, y3, y4, y5, y6, y7, y8⟩ := HY1.out.y.seven
  have yf0 := y7 0
  have yf1 := y7 1
  have yf2 := y7 2
  have yf3 := y7 3
  have yf4 := y7 4
  have yf5 := y7 5
  have yf6 := y7 6
  have HY2 := Lib.hid ((HY1.out.put 1 (.int .i64 rn) ⟨4, rn, false, false, 0, [], 0⟩ rfl).put 2 (.bool rs) ⟨4, rn, rs, false, 0, [], 0⟩ rfl)
  go_wp2_with fail
  generalize (u1.setCell ⟨X + 1, 1, none⟩ (.int .i64 rn)).setCell ⟨X + 1, 2, none⟩ (.bool rs) = U1 at HY2 ⊢
  clear y0 y1 y2 y3 y4 y5 y6 y7 y8 yf0 yf1 yf2 yf3 yf4 yf5 yf6
  refine (take_no HY2.out.x.r [93] H1.out).mono ?_
  rintro e u2 ⟨rfl, hR, hK⟩
  have HY3 := Lib.hid (HY2.out.call hR hK)
  clear hR hK
  go_wp2_with fail
  refine (want_any HY3.out.x.r [44] H2.out).mono ?_
  rintro e u3 ⟨rfl, hR, hK⟩
  have HY4 := Lib.hid (HY3.out.call hR hK)
  clear hR hK
  go_wp2_with fail
  refine (take_yes HY4.out.x.r [58] H3.out).mono ?_
  rintro e u4 ⟨rfl, hR, hK⟩
  have HY5 := Lib.hid (HY4.out.call hR hK)
  clear hR hK
  go_wp2_with fail
  refine (HLow.out _ _ HY5.out.x.r).mono ?_
  rintro e u5 ⟨rfl, hR, hK⟩
  have HY6 := Lib.hid (HY5.out.call hR hK)
  clear hR hK
  have HY7 : Hid (RY w (u5.alloc (.cells (poA ⟨6, 0, false, false, 0, s, a⟩) 38)) p X (X + 1) ⟨4, rn, rs, false, 0, [], 0⟩ l4 (g || g1 || g2 || g4)) := Lib.hid (HY6.out.next ((Below.refl _ u5).alloc (Nat.le_refl _) _))
  have q2 : RB (u5.alloc (.cells (poA ⟨6, 0, false, false, 0, s, a⟩) 38)) u5.heap.size (poA ⟨6, 0, false, false, 0, s, a⟩) 38 := (MapKept.heap_alloc u5 _).1
  obtain ⟨b0, b1, b2, b3, b4, b5, b6, b7, b8⟩ := q2.seven
  obtain ⟨Z, hZ⟩ : ∃ Z, Z = u5.heap.size := ⟨_, rfl⟩
  have hZX : Z ≠ X + 1 := by rw [hZ]; have := lt_of_block HY6.out.y; omega
  go_wp2_with fail
  rw [← hZ] at b0 b1 b2 b3 b4 b5 b6 b7 b8 ⊢
  generalize u5.alloc (.cells (poA ⟨6, 0, false, false, 0, s, a⟩) 38) = U5 at HY7 b0 b1 b2 b3 b4 b5 b6 b7 b8 ⊢
  clear q2 hZ
  obtain ⟨y0, y1, y2, y3, y4, y5, y6, y7, y8⟩ := HY7.out.y.seven
  have yf0 := y7 0
  have yf1 := y7 1
  have yf2 := y7 2
  have yf3 := y7 3
  have yf4 := y7 4
  have yf5 := y7 5
  have yf6 := y7 6
  have HY8 := Lib.hid ((((HY7.out.put 5 (.string ⟨s.toArray⟩) ⟨4, rn, rs, false, 0, s, 0⟩ rfl).put 6 (.int .i64 a) ⟨4, rn, rs, false, 0, s, a⟩ rfl)).drewN 1)
  go_region
  clear b0 b1 b2 b3 b4 b5 b6 b7 b8 y0 y1 y2 y3 y4 y5 y6 y7 y8 yf0 yf1 yf2 yf3 yf4 yf5 yf6
  go_wp2_with fail
  refine (want_any HY8.out.x.r [93] H5.out).mono ?_
  rintro e u6 ⟨rfl, hR, hK⟩
  have HY9 := Lib.hid (HY8.out.call hR hK)
  clear hR hK
  obtain ⟨y0, y1, y2, y3, y4, y5, y6, y7, y8⟩ := HY9.out.y.seven
  have yf0 := y7 0
  have yf1 := y7 1
  have yf2 := y7 2
  have yf3 := y7 3
  have yf4 := y7 4
  have yf5 := y7 5
  have yf6 := y7 6
  obtain ⟨x0, x1, x2, x3, x4, x5, x6, x7, x8⟩ := HY9.out.x.facts
  have xf0 := x7 0
  have xf1 := x7 1
  have xf2 := x7 2
  have xf3 := x7 3
  have xf4 := x7 4
  have xf5 := x7 5
  have xf6 := x7 6
  have HQ := Lib.hid (HY9.out.x.done ⟨4, rn, rs, false, 0, s, a⟩)
  go_wp2
  refine bodyPost_ret (results_cell_row (P := Tryz.prog) rfl _ _ X 38 _ (0, 0) _ rfl HQ.out.2.2 Tryz.underlying38 rfl (by kernel_rfl)) rfl ?_
  exact ⟨rfl, HQ.out.1, HQ.out.2.1⟩
set_option maxRecDepth 100000 in
set_option maxHeartbeats 4000000 in
theorem mem_no4 {w : World} {p : Nat} {l l1 : List Ti} {g g1 rs : Bool} {rn : Int} {x x2 : Unit} {l2 l3 l4 l5 : List Ti} {g2 g4 g5 : Bool} {t : Ti} {o : Po} (h : RR w p l g) (hreg : regP l = some ((rn, rs), l1, g1)) (hs : isSg [93] (nextT l1) = false) (hw : wantP [44] l1 = some (x, l2, g2)) (hl : l2 = t :: l3) (hs2 : isSg [58] t = true) (hlow : lowP l3 = some (o, l4, g4)) (hw2 : wantP [93] l4 = none) :
    Calls Tryz.prog 67 #[.pointer (some ⟨p, 0, none⟩)] w (Thr p w) := by
  have HReg : Hid (∀ u g, RR u p l g → Calls Tryz.prog 66 #[.pointer (some ⟨p, 0, none⟩)] u (Did (.tuple #[.int .i64 rn, .bool rs]) p l1 (g || g1) u)) := Lib.hid fun u g hu => reg_ok hu hreg
  clear hreg
  have H1 := Lib.hid hs
  clear hs
  have H2 := Lib.hid hw
  clear hw
  subst hl
  have H3 := Lib.hid hs2
  clear hs2
  obtain ⟨s, a, rfl⟩ := low_shape hlow
  have HLow : Hid (∀ u g, RR u p l3 g → Calls Tryz.prog 69 #[.pointer (some ⟨p, 0, none⟩)] u (Did (poV ⟨6, 0, false, false, 0, s, a⟩) p l4 (g || g4) u)) := Lib.hid fun u g hu => low_ok hu hlow
  clear hlow
  have H5 := Lib.hid hw2
  clear hw2
  have h0 := Lib.hid (RX.mk1 h ⟨4, 0, false, false, 0, [], 0⟩)
  have HZ := zeroOpnd
  obtain ⟨X, hX⟩ : ∃ X, X = w.heap.size := ⟨_, rfl⟩
  rw [← hX] at h0
  clear h
  go_enter Tryz.func67, Tryz.ntmps67
  go_wp2_with fail
  rw [← hX]
  clear hX
  generalize (w.alloc (.cells ozC 38)).alloc (.cells (poA ⟨4, 0, false, false, 0, [], 0⟩) 38) = W0 at h0 ⊢
  refine (HReg.out _ _ h0.out.x.r).mono ?_
  rintro e u1 ⟨rfl, hR, hK⟩
  have HY1 := Lib.hid (h0.out.call hR hK)
  clear hR hK
  obtain ⟨y0, y1, y2, y3, y4, y5, y6, y7, y8⟩ := HY1.out.y.seven
  have yf0 := y7 0
  have yf1 := y7 1
  have yf2 := y7 2
  have yf3 := y7 3
  have yf4 := y7 4
  have yf5 := y7 5
  have yf6 := y7 6
  have HY2 := Lib.hid ((HY1.out.put 1 (.int .i64 rn) ⟨4, rn, false, false, 0, [], 0⟩ rfl).put 2 (.bool rs) ⟨4, rn, rs, false, 0, [], 0⟩ rfl)
  go_wp2_with fail
  generalize (u1.setCell ⟨X + 1, 1, none⟩ (.int .i64 rn)).setCell ⟨X + 1, 2, none⟩ (.bool rs) = U1 at HY2 ⊢
  clear y0 y1 y2 y3 y4 y5 y6 y7 y8 yf0 yf1 yf2 yf3 yf4 yf5 yf6
  refine (take_no HY2.out.x.r [93] H1.out).mono ?_
  rintro e u2 ⟨rfl, hR, hK⟩
  have HY3 := Lib.hid (HY2.out.call hR hK)
  clear hR hK
  go_wp2_with fail
  refine (want_any HY3.out.x.r [44] H2.out).mono ?_
  rintro e u3 ⟨rfl, hR, hK⟩
  have HY4 := Lib.hid (HY3.out.call hR hK)
  clear hR hK
  go_wp2_with fail
  refine (take_yes HY4.out.x.r [58] H3.out).mono ?_
  rintro e u4 ⟨rfl, hR, hK⟩
  have HY5 := Lib.hid (HY4.out.call hR hK)
  clear hR hK
  go_wp2_with fail
  refine (HLow.out _ _ HY5.out.x.r).mono ?_
  rintro e u5 ⟨rfl, hR, hK⟩
  have HY6 := Lib.hid (HY5.out.call hR hK)
  clear hR hK
  have HY7 : Hid (RY w (u5.alloc (.cells (poA ⟨6, 0, false, false, 0, s, a⟩) 38)) p X (X + 1) ⟨4, rn, rs, false, 0, [], 0⟩ l4 (g || g1 || g2 || g4)) := Lib.hid (HY6.out.next ((Below.refl _ u5).alloc (Nat.le_refl _) _))
  have q2 : RB (u5.alloc (.cells (poA ⟨6, 0, false, false, 0, s, a⟩) 38)) u5.heap.size (poA ⟨6, 0, false, false, 0, s, a⟩) 38 := (MapKept.heap_alloc u5 _).1
  obtain ⟨b0, b1, b2, b3, b4, b5, b6, b7, b8⟩ := q2.seven
  obtain ⟨Z, hZ⟩ : ∃ Z, Z = u5.heap.size := ⟨_, rfl⟩
  have hZX : Z ≠ X + 1 := by rw [hZ]; have := lt_of_block HY6.out.y; omega
  go_wp2_with fail
  rw [← hZ] at b0 b1 b2 b3 b4 b5 b6 b7 b8 ⊢
  generalize u5.alloc (.cells (poA ⟨6, 0, false, false, 0, s, a⟩) 38) = U5 at HY7 b0 b1 b2 b3 b4 b5 b6 b7 b8 ⊢
  clear q2 hZ
  obtain ⟨y0, y1, y2, y3, y4, y5, y6, y7, y8⟩ := HY7.out.y.seven
  have yf0 := y7 0
  have yf1 := y7 1
  have yf2 := y7 2
  have yf3 := y7 3
  have yf4 := y7 4
  have yf5 := y7 5
  have yf6 := y7 6
  have HY8 := Lib.hid ((((HY7.out.put 5 (.string ⟨s.toArray⟩) ⟨4, rn, rs, false, 0, s, 0⟩ rfl).put 6 (.int .i64 a) ⟨4, rn, rs, false, 0, s, a⟩ rfl)).drewN 1)
  go_region
  clear b0 b1 b2 b3 b4 b5 b6 b7 b8 y0 y1 y2 y3 y4 y5 y6 y7 y8 yf0 yf1 yf2 yf3 yf4 yf5 yf6
  go_wp2_with fail
  refine (want_none HY8.out.x.r [93] H5.out).mono ?_
  rintro e u6 ⟨rfl, hK⟩
  exact ⟨rfl, rfl, KP.trans' HY8.out.x.k hK⟩
set_option maxRecDepth 100000 in
set_option maxHeartbeats 4000000 in
theorem mem_no5 {w : World} {p : Nat} {l l1 : List Ti} {g g1 rs : Bool} {rn : Int} {x x2 : Unit} {l2 l3 l4 l5 : List Ti} {g2 g3 g4 g5 m : Bool} {v : Int} (h : RR w p l g) (hreg : regP l = some ((rn, rs), l1, g1)) (hs : isSg [93] (nextT l1) = false) (hw : wantP [44] l1 = some (x, l2, g2)) (hs2 : isSg [58] (nextT l2) = false) (ht : takeP [35] l2 = some (m, l3, g3)) (hpl : plainP l3 = none) :
    Calls Tryz.prog 67 #[.pointer (some ⟨p, 0, none⟩)] w (Thr p w) := by
  have HReg : Hid (∀ u g, RR u p l g → Calls Tryz.prog 66 #[.pointer (some ⟨p, 0, none⟩)] u (Did (.tuple #[.int .i64 rn, .bool rs]) p l1 (g || g1) u)) := Lib.hid fun u g hu => reg_ok hu hreg
  clear hreg
  have H1 := Lib.hid hs
  clear hs
  have H2 := Lib.hid hw
  clear hw
  have H3 := Lib.hid hs2
  have H3b := Lib.hid ht
  clear hs2 ht
  have H4 := Lib.hid hpl
  clear hpl
  have h0 := Lib.hid (RX.mk1 h ⟨4, 0, false, false, 0, [], 0⟩)
  have HZ := zeroOpnd
  obtain ⟨X, hX⟩ : ∃ X, X = w.heap.size := ⟨_, rfl⟩
  rw [← hX] at h0
  clear h
  go_enter Tryz.func67, Tryz.ntmps67
  go_wp2_with fail
  rw [← hX]
  clear hX
  generalize (w.alloc (.cells ozC 38)).alloc (.cells (poA ⟨4, 0, false, false, 0, [], 0⟩) 38) = W0 at h0 ⊢
  refine (HReg.out _ _ h0.out.x.r).mono ?_
  rintro e u1 ⟨rfl, hR, hK⟩
  have HY1 := Lib.hid (h0.out.call hR hK)
  clear hR hK
  obtain ⟨y0, y1, y2, y3, y4, y5, y6, y7, y8⟩ := HY1.out.y.seven
  have yf0 := y7 0
  have yf1 := y7 1
  have yf2 := y7 2
  have yf3 := y7 3
  have yf4 := y7 4
  have yf5 := y7 5
  have yf6 := y7 6
  have HY2 := Lib.hid ((HY1.out.put 1 (.int .i64 rn) ⟨4, rn, false, false, 0, [], 0⟩ rfl).put 2 (.bool rs) ⟨4, rn, rs, false, 0, [], 0⟩ rfl)
  go_wp2_with fail
  generalize (u1.setCell ⟨X + 1, 1, none⟩ (.int .i64 rn)).setCell ⟨X + 1, 2, none⟩ (.bool rs) = U1 at HY2 ⊢
  clear y0 y1 y2 y3 y4 y5 y6 y7 y8 yf0 yf1 yf2 yf3 yf4 yf5 yf6
  refine (take_no HY2.out.x.r [93] H1.out).mono ?_
  rintro e u2 ⟨rfl, hR, hK⟩
  have HY3 := Lib.hid (HY2.out.call hR hK)
  clear hR hK
  go_wp2_with fail
  refine (want_any HY3.out.x.r [44] H2.out).mono ?_
  rintro e u3 ⟨rfl, hR, hK⟩
  have HY4 := Lib.hid (HY3.out.call hR hK)
  clear hR hK
  go_wp2_with fail
  refine (take_no HY4.out.x.r [58] H3.out).mono ?_
  rintro e u4 ⟨rfl, hR, hK⟩
  have HY5 := Lib.hid (HY4.out.call hR hK)
  clear hR hK
  go_wp2_with fail
  refine (take_any HY5.out.x.r [35] H3b.out).mono ?_
  rintro e u5 ⟨rfl, hR, hK⟩
  have HY6 := Lib.hid (HY5.out.call hR hK)
  clear hR hK
  go_wp2_with fail
  refine (plain_no HY6.out.x.r H4.out).mono ?_
  rintro e u6 ⟨rfl, hK⟩
  exact ⟨rfl, rfl, KP.trans' HY6.out.x.k hK⟩
set_option maxRecDepth 100000 in
set_option maxHeartbeats 4000000 in
theorem mem_no6 {w : World} {p : Nat} {l l1 : List Ti} {g g1 rs : Bool} {rn : Int} {x x2 : Unit} {l2 l3 l4 l5 : List Ti} {g2 g3 g4 g5 m : Bool} {v : Int} (h : RR w p l g) (hreg : regP l = some ((rn, rs), l1, g1)) (hs : isSg [93] (nextT l1) = false) (hw : wantP [44] l1 = some (x, l2, g2)) (hs2 : isSg [58] (nextT l2) = false) (ht : takeP [35] l2 = some (m, l3, g3)) (hpl : plainP l3 = some (v, l4, g4)) (hw2 : wantP [93] l4 = none) :
    Calls Tryz.prog 67 #[.pointer (some ⟨p, 0, none⟩)] w (Thr p w) := by
  have HReg : Hid (∀ u g, RR u p l g → Calls Tryz.prog 66 #[.pointer (some ⟨p, 0, none⟩)] u (Did (.tuple #[.int .i64 rn, .bool rs]) p l1 (g || g1) u)) := Lib.hid fun u g hu => reg_ok hu hreg
  clear hreg
  have H1 := Lib.hid hs
  clear hs
  have H2 := Lib.hid hw
  clear hw
  have H3 := Lib.hid hs2
  have H3b := Lib.hid ht
  clear hs2 ht
  have H4 := Lib.hid hpl
  have H5 := Lib.hid hw2
  clear hpl hw2
  have h0 := Lib.hid (RX.mk1 h ⟨4, 0, false, false, 0, [], 0⟩)
  have HZ := zeroOpnd
  obtain ⟨X, hX⟩ : ∃ X, X = w.heap.size := ⟨_, rfl⟩
  rw [← hX] at h0
  clear h
  go_enter Tryz.func67, Tryz.ntmps67
  go_wp2_with fail
  rw [← hX]
  clear hX
  generalize (w.alloc (.cells ozC 38)).alloc (.cells (poA ⟨4, 0, false, false, 0, [], 0⟩) 38) = W0 at h0 ⊢
  refine (HReg.out _ _ h0.out.x.r).mono ?_
  rintro e u1 ⟨rfl, hR, hK⟩
  have HY1 := Lib.hid (h0.out.call hR hK)
  clear hR hK
  obtain ⟨y0, y1, y2, y3, y4, y5, y6, y7, y8⟩ := HY1.out.y.seven
  have yf0 := y7 0
  have yf1 := y7 1
  have yf2 := y7 2
  have yf3 := y7 3
  have yf4 := y7 4
  have yf5 := y7 5
  have yf6 := y7 6
  have HY2 := Lib.hid ((HY1.out.put 1 (.int .i64 rn) ⟨4, rn, false, false, 0, [], 0⟩ rfl).put 2 (.bool rs) ⟨4, rn, rs, false, 0, [], 0⟩ rfl)
  go_wp2_with fail
  generalize (u1.setCell ⟨X + 1, 1, none⟩ (.int .i64 rn)).setCell ⟨X + 1, 2, none⟩ (.bool rs) = U1 at HY2 ⊢
  clear y0 y1 y2 y3 y4 y5 y6 y7 y8 yf0 yf1 yf2 yf3 yf4 yf5 yf6
  refine (take_no HY2.out.x.r [93] H1.out).mono ?_
  rintro e u2 ⟨rfl, hR, hK⟩
  have HY3 := Lib.hid (HY2.out.call hR hK)
  clear hR hK
  go_wp2_with fail
  refine (want_any HY3.out.x.r [44] H2.out).mono ?_
  rintro e u3 ⟨rfl, hR, hK⟩
  have HY4 := Lib.hid (HY3.out.call hR hK)
  clear hR hK
  go_wp2_with fail
  refine (take_no HY4.out.x.r [58] H3.out).mono ?_
  rintro e u4 ⟨rfl, hR, hK⟩
  have HY5 := Lib.hid (HY4.out.call hR hK)
  clear hR hK
  go_wp2_with fail
  refine (take_any HY5.out.x.r [35] H3b.out).mono ?_
  rintro e u5 ⟨rfl, hR, hK⟩
  have HY6 := Lib.hid (HY5.out.call hR hK)
  clear hR hK
  go_wp2_with fail
  refine (plain_ok HY6.out.x.r H4.out).mono ?_
  rintro e u6 ⟨rfl, hR, hK⟩
  have HY7 := Lib.hid (HY6.out.call hR hK)
  clear hR hK
  obtain ⟨y0, y1, y2, y3, y4, y5, y6, y7, y8⟩ := HY7.out.y.seven
  have yf0 := y7 0
  have yf1 := y7 1
  have yf2 := y7 2
  have yf3 := y7 3
  have yf4 := y7 4
  have yf5 := y7 5
  have yf6 := y7 6
  have HY8 := Lib.hid (HY7.out.put 4 (.int .u64 v) ⟨4, rn, rs, false, v, [], 0⟩ rfl)
  go_wp2_with fail
  clear y0 y1 y2 y3 y4 y5 y6 y7 y8 yf0 yf1 yf2 yf3 yf4 yf5 yf6
  refine (want_none HY8.out.x.r [93] H5.out).mono ?_
  rintro e u7 ⟨rfl, hK⟩
  exact ⟨rfl, rfl, KP.trans' HY8.out.x.k hK⟩
set_option maxRecDepth 100000 in
set_option maxHeartbeats 4000000 in
theorem mem_ok3 {w : World} {p : Nat} {l l1 : List Ti} {g g1 rs : Bool} {rn : Int} {x x2 : Unit} {l2 l3 l4 l5 : List Ti} {g2 g3 g4 g5 m : Bool} {v : Int} (h : RR w p l g) (hreg : regP l = some ((rn, rs), l1, g1)) (hs : isSg [93] (nextT l1) = false) (hw : wantP [44] l1 = some (x, l2, g2)) (hs2 : isSg [58] (nextT l2) = false) (ht : takeP [35] l2 = some (m, l3, g3)) (hpl : plainP l3 = some (v, l4, g4)) (hw2 : wantP [93] l4 = some (x2, l5, g5)) :
    Calls Tryz.prog 67 #[.pointer (some ⟨p, 0, none⟩)] w (Did (poV ⟨4, rn, rs, false, v, [], 0⟩) p l5 (((((g || g1) || g2) || g3) || g4) || g5) w) := by
  have HReg : Hid (∀ u g, RR u p l g → Calls Tryz.prog 66 #[.pointer (some ⟨p, 0, none⟩)] u (Did (.tuple #[.int .i64 rn, .bool rs]) p l1 (g || g1) u)) := Lib.hid fun u g hu => reg_ok hu hreg
  clear hreg
  have H1 := Lib.hid hs
  clear hs
  have H2 := Lib.hid hw
  clear hw
  have H3 := Lib.hid hs2
  have H3b := Lib.hid ht
  clear hs2 ht
  have H4 := Lib.hid hpl
  have H5 := Lib.hid hw2
  clear hpl hw2
  have h0 := Lib.hid (RX.mk1 h ⟨4, 0, false, false, 0, [], 0⟩)
  have HZ := zeroOpnd
  obtain ⟨X, hX⟩ : ∃ X, X = w.heap.size := ⟨_, rfl⟩
  rw [← hX] at h0
  clear h
  go_enter Tryz.func67, Tryz.ntmps67
  go_wp2_with fail
  rw [← hX]
  clear hX
  generalize (w.alloc (.cells ozC 38)).alloc (.cells (poA ⟨4, 0, false, false, 0, [], 0⟩) 38) = W0 at h0 ⊢
  refine (HReg.out _ _ h0.out.x.r).mono ?_
  rintro e u1 ⟨rfl, hR, hK⟩
  have HY1 := Lib.hid (h0.out.call hR hK)
  clear hR hK
  obtain ⟨y0, y1, y2, y3, y4, y5, y6, y7, y8⟩ := HY1.out.y.seven
  have yf0 := y7 0
  have yf1 := y7 1
  have yf2 := y7 2
  have yf3 := y7 3
  have yf4 := y7 4
  have yf5 := y7 5
  have yf6 := y7 6
  have HY2 := Lib.hid ((HY1.out.put 1 (.int .i64 rn) ⟨4, rn, false, false, 0, [], 0⟩ rfl).put 2 (.bool rs) ⟨4, rn, rs, false, 0, [], 0⟩ rfl)
  go_wp2_with fail
  generalize (u1.setCell ⟨X + 1, 1, none⟩ (.int .i64 rn)).setCell ⟨X + 1, 2, none⟩ (.bool rs) = U1 at HY2 ⊢
  clear y0 y1 y2 y3 y4 y5 y6 y7 y8 yf0 yf1 yf2 yf3 yf4 yf5 yf6
  refine (take_no HY2.out.x.r [93] H1.out).mono ?_
  rintro e u2 ⟨rfl, hR, hK⟩
  have HY3 := Lib.hid (HY2.out.call hR hK)
  clear hR hK
  go_wp2_with fail
  refine (want_any HY3.out.x.r [44] H2.out).mono ?_
  rintro e u3 ⟨rfl, hR, hK⟩
  have HY4 := Lib.hid (HY3.out.call hR hK)
  clear hR hK
  go_wp2_with fail
  refine (take_no HY4.out.x.r [58] H3.out).mono ?_
  rintro e u4 ⟨rfl, hR, hK⟩
  have HY5 := Lib.hid (HY4.out.call hR hK)
  clear hR hK
  go_wp2_with fail
  refine (take_any HY5.out.x.r [35] H3b.out).mono ?_
  rintro e u5 ⟨rfl, hR, hK⟩
  have HY6 := Lib.hid (HY5.out.call hR hK)
  clear hR hK
  go_wp2_with fail
  refine (plain_ok HY6.out.x.r H4.out).mono ?_
  rintro e u6 ⟨rfl, hR, hK⟩
  have HY7 := Lib.hid (HY6.out.call hR hK)
  clear hR hK
  obtain ⟨y0, y1, y2, y3, y4, y5, y6, y7, y8⟩ := HY7.out.y.seven
  have yf0 := y7 0
  have yf1 := y7 1
  have yf2 := y7 2
  have yf3 := y7 3
  have yf4 := y7 4
  have yf5 := y7 5
  have yf6 := y7 6
  have HY8 := Lib.hid (HY7.out.put 4 (.int .u64 v) ⟨4, rn, rs, false, v, [], 0⟩ rfl)
  go_wp2_with fail
  clear y0 y1 y2 y3 y4 y5 y6 y7 y8 yf0 yf1 yf2 yf3 yf4 yf5 yf6
  refine (want_any HY8.out.x.r [93] H5.out).mono ?_
  rintro e u7 ⟨rfl, hR, hK⟩
  have HY9 := Lib.hid (HY8.out.call hR hK)
  clear hR hK
  obtain ⟨y0, y1, y2, y3, y4, y5, y6, y7, y8⟩ := HY9.out.y.seven
  have yf0 := y7 0
  have yf1 := y7 1
  have yf2 := y7 2
  have yf3 := y7 3
  have yf4 := y7 4
  have yf5 := y7 5
  have yf6 := y7 6
  obtain ⟨x0, x1, x2, x3, x4, x5, x6, x7, x8⟩ := HY9.out.x.facts
  have xf0 := x7 0
  have xf1 := x7 1
  have xf2 := x7 2
  have xf3 := x7 3
  have xf4 := x7 4
  have xf5 := x7 5
  have xf6 := x7 6
  have HQ := Lib.hid (HY9.out.x.done ⟨4, rn, rs, false, v, [], 0⟩)
  go_wp2
  refine bodyPost_ret (results_cell_row (P := Tryz.prog) rfl _ _ X 38 _ (0, 0) _ rfl HQ.out.2.2 Tryz.underlying38 rfl (by kernel_rfl)) rfl ?_
  exact ⟨rfl, HQ.out.1, HQ.out.2.1⟩

theorem sg_cons {s : List UInt8} {l : List Ti} (h : isSg s (nextT l) = true) : ∃ t r, l = t :: r ∧ isSg s t = true := by
  cases l with
  | nil => exact absurd h (by unfold isSg; simp [nextT])
  | cons t r => exact ⟨t, r, rfl, h⟩
theorem want_sg {s : List UInt8} {t : Ti} {r l2 : List Ti} {x : Unit} {g : Bool} (h : isSg s t = true) (hw : wantP s (t :: r) = some (x, l2, g)) : l2 = r ∧ g = false := by
  unfold wantP oneP at hw
  simp only [h, if_true] at hw
  cases hw; exact ⟨rfl, rfl⟩
theorem want_sg_ne {s : List UInt8} {t : Ti} {r : List Ti} (h : isSg s t = true) : wantP s (t :: r) ≠ none := by
  unfold wantP oneP
  simp only [h, if_true]
  exact fun h => nomatch h
set_option maxHeartbeats 1000000 in
theorem mem_ok {w : World} {p : Nat} {l r : List Ti} {g g' : Bool} {o : Po} (h : RR w p l g) (hd : memP l = some (o, r, g')) :
    Calls Tryz.prog 67 #[.pointer (some ⟨p, 0, none⟩)] w (Did (poV o) p r (g || g') w) := by
  obtain ⟨⟨rn, rs⟩, l1, g1, g2, e1, hd2, rfl⟩ := bind_some hd
  unfold memAt ifP at hd2
  by_cases c : isSg [93] (nextT l1) = true
  · rw [if_pos c] at hd2
    obtain ⟨x, l2, g3, g4, e2, hd3, rfl⟩ := bind_some hd2
    obtain ⟨rfl, rfl, rfl⟩ := pure_some hd3
    obtain ⟨t, r0, rfl, hs⟩ := sg_cons c
    obtain ⟨rfl, rfl⟩ := want_sg hs e2
    rw [show (g || (g1 || (false || false))) = (g || g1) by cases g1 <;> rfl]
    exact mem_ok1 h e1 rfl hs
  · rw [if_neg c] at hd2
    replace c : isSg [93] (nextT l1) = false := by simpa using c
    obtain ⟨x, l2, g3, g4, e2, hd3, rfl⟩ := bind_some hd2
    obtain ⟨o', l3, g5, g6, e3, hd4, rfl⟩ := bind_some hd3
    obtain ⟨x2, l4, g7, g8, e4, hd5, rfl⟩ := bind_some hd4
    obtain ⟨rfl, rfl, rfl⟩ := pure_some hd5
    by_cases c2 : isSg [58] (nextT l2) = true
    · rw [if_pos c2] at e3
      obtain ⟨y, l5, g9, g10, e5, hd6, rfl⟩ := bind_some e3
      obtain ⟨o2, l6, g11, g12, e6, hd7, rfl⟩ := bind_some hd6
      obtain ⟨rfl, rfl, rfl⟩ := pure_some hd7
      obtain ⟨t, r0, rfl, hs⟩ := sg_cons c2
      obtain ⟨rfl, rfl⟩ := want_sg hs e5
      rw [show (g || (g1 || (g3 || ((false || (g11 || false)) || (g7 || false))))) = ((((g || g1) || g3) || g11) || g7) by cases g <;> cases g1 <;> cases g3 <;> cases g11 <;> cases g7 <;> rfl]
      exact mem_ok2 h e1 c e2 rfl hs e6 e4
    · rw [if_neg c2] at e3
      replace c2 : isSg [58] (nextT l2) = false := by simpa using c2
      obtain ⟨y, l5, g9, g10, e5, hd6, rfl⟩ := bind_some e3
      obtain ⟨v, l6, g11, g12, e6, hd7, rfl⟩ := bind_some hd6
      obtain ⟨rfl, rfl, rfl⟩ := pure_some hd7
      rw [show (g || (g1 || (g3 || ((g9 || (g11 || false)) || (g7 || false))))) = (((((g || g1) || g3) || g9) || g11) || g7) by cases g <;> cases g1 <;> cases g3 <;> cases g9 <;> cases g11 <;> cases g7 <;> rfl]
      exact mem_ok3 h e1 c e2 c2 e5 e6 e4
set_option maxHeartbeats 1000000 in
theorem mem_none {w : World} {p : Nat} {l : List Ti} {g : Bool} (h : RR w p l g) (hd : memP l = none) :
    Calls Tryz.prog 67 #[.pointer (some ⟨p, 0, none⟩)] w (Thr p w) := by
  rcases bind_none hd with e1 | ⟨⟨rn, rs⟩, l1, g1, e1, hd2⟩
  · exact mem_no1 h e1
  unfold memAt ifP at hd2
  by_cases c : isSg [93] (nextT l1) = true
  · rw [if_pos c] at hd2
    obtain ⟨t, r0, rfl, hs⟩ := sg_cons c
    rcases bind_none hd2 with e2 | ⟨x, l2, g3, e2, hd3⟩
    · exact absurd e2 (want_sg_ne hs)
    · cases hd3
  · rw [if_neg c] at hd2
    replace c : isSg [93] (nextT l1) = false := by simpa using c
    rcases bind_none hd2 with e2 | ⟨x, l2, g3, e2, hd3⟩
    · exact mem_no2 h e1 c e2
    by_cases c2 : isSg [58] (nextT l2) = true
    · obtain ⟨t, r0, rfl, hs⟩ := sg_cons c2
      rcases bind_none hd3 with e3 | ⟨o', l3, g5, e3, hd4⟩
      · rw [if_pos c2] at e3
        rcases bind_none e3 with e5 | ⟨y, l5, g9, e5, hd6⟩
        · exact absurd e5 (want_sg_ne hs)
        obtain ⟨rfl, rfl⟩ := want_sg hs e5
        rcases bind_none hd6 with e6 | ⟨o2, l6, g11, e6, hd7⟩
        · exact mem_no3 h e1 c e2 rfl hs e6
        · cases hd7
      · rw [if_pos c2] at e3
        obtain ⟨y, l5, g9, g10, e5, hd6, rfl⟩ := bind_some e3
        obtain ⟨o2, l6, g11, g12, e6, hd7, rfl⟩ := bind_some hd6
        obtain ⟨rfl, rfl, rfl⟩ := pure_some hd7
        obtain ⟨rfl, rfl⟩ := want_sg hs e5
        rcases bind_none hd4 with e4 | ⟨x2, l4, g7, e4, hd5⟩
        · exact mem_no4 (x2 := ()) (l5 := []) (g5 := false) h e1 c e2 rfl hs e6 e4
        · cases hd5
    · replace c2 : isSg [58] (nextT l2) = false := by simpa using c2
      have c3 : ¬ isSg [58] (nextT l2) = true := by rw [c2]; decide
      rcases bind_none hd3 with e3 | ⟨o', l3, g5, e3, hd4⟩
      · rw [if_neg c3] at e3
        rcases bind_none e3 with e5 | ⟨y, l5, g9, e5, hd6⟩
        · exact absurd e5 (take_ne _ _)
        rcases bind_none hd6 with e6 | ⟨v, l6, g11, e6, hd7⟩
        · exact mem_no5 (x2 := ()) (l4 := []) (l5 := []) (g4 := false) (g5 := false) (v := 0) h e1 c e2 c2 e5 e6
        · cases hd7
      · rw [if_neg c3] at e3
        obtain ⟨y, l5, g9, g10, e5, hd6, rfl⟩ := bind_some e3
        obtain ⟨v, l6, g11, g12, e6, hd7, rfl⟩ := bind_some hd6
        obtain ⟨rfl, rfl, rfl⟩ := pure_some hd7
        rcases bind_none hd4 with e4 | ⟨x2, l4, g7, e4, hd5⟩
        · exact mem_no6 (x2 := ()) (l5 := []) (g5 := false) h e1 c e2 c2 e5 e6 e4
        · cases hd5
end Go.Proofs.YthejefldnpeciaaGreatDoor
