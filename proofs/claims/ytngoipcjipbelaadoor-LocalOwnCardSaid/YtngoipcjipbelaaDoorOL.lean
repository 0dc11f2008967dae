/- operand: low. -/
import Derived.Test.YtngoipcjipbelaaDoorOKh
namespace Go.Proofs.YtngoipcjipbelaaDoor
set_option linter.unusedVariables false
set_option linter.unusedSimpArgs false
open Go.ChangeShapes Go.WideShapes Go.Deep Go.RowKit

theorem assert_sym (s : ByteArray) (a : Int) (w : World) : (Instr.typeAssert (.iface 132 (.agg #[.string s, .int .i64 a])) 117 132 true).run Tryd.prog w = .ok (.tuple #[.agg #[.string s, .int .i64 a], .bool true]) w := by kernel_rfl
theorem assert_num (m : Bool) (v : Int) (w : World) : (Instr.typeAssert (.iface 120 (.agg #[.bool m, .int .u64 v])) 117 132 true).run Tryd.prog w = .ok (.tuple #[.agg #[.string ⟨#[]⟩, .int .i64 0], .bool false]) w := by kernel_rfl
set_option maxRecDepth 100000 in
set_option maxHeartbeats 4000000 in
theorem low_no1 {w : World} {p : Nat} {l : List Ti} {g : Bool} {t : Ti} (h : RR w p l g) (ht : nextT l = t) (hc : (t.kind != 1) = true ∨ (t.kind != 1) = false ∧ (!(t.text == loB)) = true) :
    Calls Tryd.prog 82 #[.pointer (some ⟨p, 0, none⟩)] w (Thr p w) := by
  have HC := Lib.hid hc
  clear hc
  have h0 := Lib.hid (RX.mk0 h)
  have HZ := zeroOpnd
  have HTa := assert_sym
  have HTn := assert_num
  have HN : Hid (∀ u, RR u p l g → Calls Tryd.prog 74 #[.pointer (some ⟨p, 0, none⟩)] u (Did (.agg #[.int .i64 t.kind, .string ⟨t.text.toArray⟩, .int .u64 t.v]) p l g u)) := Lib.hid fun u hu => by have := next_r hu; rwa [ht] at this
  obtain ⟨X, hX⟩ : ∃ X, X = w.heap.size := ⟨_, rfl⟩
  rw [← hX] at h0
  clear h ht
  go_enter Tryd.func82, Tryd.ntmps82
  go_wp2_with fail
  rw [← hX]
  clear hX
  generalize w.alloc (.cells ozC 86) = W0 at h0 ⊢
  refine (HN.out _ h0.out.r).mono ?_
  rintro e u ⟨rfl, hR, hK⟩
  have HX1 := Lib.hid (h0.out.call hR hK)
  have HL := Lib.hid (lay_t hR hK t)
  have HX2 : Hid (RX w (layT u t) p X l g) := Lib.hid (HX1.out.lay _)
  clear hR hK
  obtain ⟨x0, x1, x2⟩ := HL.out.2.2.1.cells
  rcases HC.out with c1 | ⟨c1, c2⟩
  all_goals go_wp2
  all_goals exact ⟨rfl, rfl, HX2.out.k⟩
set_option maxRecDepth 100000 in
set_option maxHeartbeats 4000000 in
theorem low_no2 {w : World} {p : Nat} {l r : List Ti} {g : Bool} {t : Ti} (h : RR w p l g) (hl : l = t :: r) (c1 : (t.kind != 1) = false) (c2 : (!(t.text == loB)) = false) (hd : wantP [58] r = none) :
    Calls Tryd.prog 82 #[.pointer (some ⟨p, 0, none⟩)] w (Thr p w) := by
  have HD := Lib.hid hd
  clear hd
  have ht : nextT l = t := by rw [hl]; rfl
  have h0 := Lib.hid (RX.mk0 h)
  have HZ := zeroOpnd
  have HTa := assert_sym
  have HTn := assert_num
  have HN : Hid (∀ u, RR u p l g → Calls Tryd.prog 74 #[.pointer (some ⟨p, 0, none⟩)] u (Did (.agg #[.int .i64 t.kind, .string ⟨t.text.toArray⟩, .int .u64 t.v]) p l g u)) := Lib.hid fun u hu => by have := next_r hu; rwa [ht] at this
  obtain ⟨X, hX⟩ : ∃ X, X = w.heap.size := ⟨_, rfl⟩
  rw [← hX] at h0
  clear h ht
  go_enter Tryd.func82, Tryd.ntmps82
  go_wp2_with fail
  rw [← hX]
  clear hX
  generalize w.alloc (.cells ozC 86) = W0 at h0 ⊢
  refine (HN.out _ h0.out.r).mono ?_
  rintro e u ⟨rfl, hR, hK⟩
  have HX1 := Lib.hid (h0.out.call hR hK)
  have HL := Lib.hid (lay_t hR hK t)
  have HX2 : Hid (RX w (layT u t) p X l g) := Lib.hid (HX1.out.lay _)
  clear hR hK
  obtain ⟨x0, x1, x2⟩ := HL.out.2.2.1.cells
  subst hl
  obtain ⟨k, m, k1, k2, k3, HS⟩ := HX2.out.step
  have HS := Lib.hid HS
  go_wp2_with fail
  refine (want_none HS.out.r [58] HD.out).mono ?_
  rintro e u2 ⟨rfl, hK⟩
  exact ⟨rfl, rfl, KP.trans' HS.out.k hK⟩
set_option maxRecDepth 100000 in
set_option maxHeartbeats 4000000 in
theorem low_no3 {w : World} {p : Nat} {l r r1 : List Ti} {g g1 : Bool} {t : Ti} {x : Unit} (h : RR w p l g) (hl : l = t :: r) (c1 : (t.kind != 1) = false) (c2 : (!(t.text == loB)) = false) (hd : wantP [58] r = some (x, r1, g1)) (he : exprP r1 = none) :
    Calls Tryd.prog 82 #[.pointer (some ⟨p, 0, none⟩)] w (Thr p w) := by
  have HD := Lib.hid hd
  have HE := Lib.hid he
  clear hd he
  have ht : nextT l = t := by rw [hl]; rfl
  have h0 := Lib.hid (RX.mk0 h)
  have HZ := zeroOpnd
  have HTa := assert_sym
  have HTn := assert_num
  have HN : Hid (∀ u, RR u p l g → Calls Tryd.prog 74 #[.pointer (some ⟨p, 0, none⟩)] u (Did (.agg #[.int .i64 t.kind, .string ⟨t.text.toArray⟩, .int .u64 t.v]) p l g u)) := Lib.hid fun u hu => by have := next_r hu; rwa [ht] at this
  obtain ⟨X, hX⟩ : ∃ X, X = w.heap.size := ⟨_, rfl⟩
  rw [← hX] at h0
  clear h ht
  go_enter Tryd.func82, Tryd.ntmps82
  go_wp2_with fail
  rw [← hX]
  clear hX
  generalize w.alloc (.cells ozC 86) = W0 at h0 ⊢
  refine (HN.out _ h0.out.r).mono ?_
  rintro e u ⟨rfl, hR, hK⟩
  have HX1 := Lib.hid (h0.out.call hR hK)
  have HL := Lib.hid (lay_t hR hK t)
  have HX2 : Hid (RX w (layT u t) p X l g) := Lib.hid (HX1.out.lay _)
  clear hR hK
  obtain ⟨x0, x1, x2⟩ := HL.out.2.2.1.cells
  subst hl
  obtain ⟨k, m, k1, k2, k3, HS⟩ := HX2.out.step
  have HS := Lib.hid HS
  go_wp2_with fail
  refine (want_any HS.out.r [58] HD.out).mono ?_
  rintro e u2 ⟨rfl, hR, hK⟩
  have HX3 := Lib.hid (HS.out.call hR hK)
  clear hR hK
  go_wp2_with fail
  refine (expr_no HX3.out.r HE.out).mono ?_
  rintro e u3 ⟨rfl, hK⟩
  exact ⟨rfl, rfl, KP.trans' HX3.out.k hK⟩
set_option maxRecDepth 100000 in
set_option maxHeartbeats 4000000 in
theorem low_no4 {w : World} {p : Nat} {l r r1 r2 : List Ti} {g g1 g2 m : Bool} {t : Ti} {x : Unit} {v : Int} (h : RR w p l g) (hl : l = t :: r) (c1 : (t.kind != 1) = false) (c2 : (!(t.text == loB)) = false) (hd : wantP [58] r = some (x, r1, g1)) (he : exprP r1 = some (⟨2, 0, false, m, v, [], 0⟩, r2, g2)) :
    Calls Tryd.prog 82 #[.pointer (some ⟨p, 0, none⟩)] w (Thr p w) := by
  have HD := Lib.hid hd
  have HE : Hid (∀ u g, RR u p r1 g → Calls Tryd.prog 81 #[.pointer (some ⟨p, 0, none⟩)] u (Did (.iface 120 (.agg #[.bool m, .int .u64 v])) p r2 (g || g2) u)) := Lib.hid fun u g hu => expr_ok hu he
  clear hd he
  have ht : nextT l = t := by rw [hl]; rfl
  have h0 := Lib.hid (RX.mk0 h)
  have HZ := zeroOpnd
  have HTa := assert_sym
  have HTn := assert_num
  have HN : Hid (∀ u, RR u p l g → Calls Tryd.prog 74 #[.pointer (some ⟨p, 0, none⟩)] u (Did (.agg #[.int .i64 t.kind, .string ⟨t.text.toArray⟩, .int .u64 t.v]) p l g u)) := Lib.hid fun u hu => by have := next_r hu; rwa [ht] at this
  obtain ⟨X, hX⟩ : ∃ X, X = w.heap.size := ⟨_, rfl⟩
  rw [← hX] at h0
  clear h ht
  go_enter Tryd.func82, Tryd.ntmps82
  go_wp2_with fail
  rw [← hX]
  clear hX
  generalize w.alloc (.cells ozC 86) = W0 at h0 ⊢
  refine (HN.out _ h0.out.r).mono ?_
  rintro e u ⟨rfl, hR, hK⟩
  have HX1 := Lib.hid (h0.out.call hR hK)
  have HL := Lib.hid (lay_t hR hK t)
  have HX2 : Hid (RX w (layT u t) p X l g) := Lib.hid (HX1.out.lay _)
  clear hR hK
  obtain ⟨x0, x1, x2⟩ := HL.out.2.2.1.cells
  subst hl
  obtain ⟨k, m, k1, k2, k3, HS⟩ := HX2.out.step
  have HS := Lib.hid HS
  go_wp2_with fail
  refine (want_any HS.out.r [58] HD.out).mono ?_
  rintro e u2 ⟨rfl, hR, hK⟩
  have HX3 := Lib.hid (HS.out.call hR hK)
  clear hR hK
  go_wp2_with fail
  refine (HE.out _ _ HX3.out.r).mono ?_
  rintro e u3 ⟨rfl, hR, hK⟩
  have HX4 := Lib.hid (HX3.out.call hR hK)
  clear hR hK
  go_wp2
  exact ⟨rfl, rfl, (HX4.out.lay _).k⟩
set_option maxRecDepth 100000 in
set_option maxHeartbeats 4000000 in
theorem low_yes {w : World} {p : Nat} {l r r1 r2 : List Ti} {g g1 g2 : Bool} {t : Ti} {x : Unit} {s : List UInt8} {a : Int} (h : RR w p l g) (hl : l = t :: r) (c1 : (t.kind != 1) = false) (c2 : (!(t.text == loB)) = false) (hd : wantP [58] r = some (x, r1, g1)) (he : exprP r1 = some (⟨3, 0, false, false, 0, s, a⟩, r2, g2)) :
    Calls Tryd.prog 82 #[.pointer (some ⟨p, 0, none⟩)] w (Did (poV ⟨6, 0, false, false, 0, s, a⟩) p r2 ((g || g1) || g2) w) := by
  have HD := Lib.hid hd
  have HE : Hid (∀ u g, RR u p r1 g → Calls Tryd.prog 81 #[.pointer (some ⟨p, 0, none⟩)] u (Did (.iface 132 (.agg #[.string ⟨s.toArray⟩, .int .i64 a])) p r2 (g || g2) u)) := Lib.hid fun u g hu => expr_ok hu he
  clear hd he
  have ht : nextT l = t := by rw [hl]; rfl
  have h0 := Lib.hid (RX.mk0 h)
  have HZ := zeroOpnd
  have HTa := assert_sym
  have HTn := assert_num
  have HN : Hid (∀ u, RR u p l g → Calls Tryd.prog 74 #[.pointer (some ⟨p, 0, none⟩)] u (Did (.agg #[.int .i64 t.kind, .string ⟨t.text.toArray⟩, .int .u64 t.v]) p l g u)) := Lib.hid fun u hu => by have := next_r hu; rwa [ht] at this
  obtain ⟨X, hX⟩ : ∃ X, X = w.heap.size := ⟨_, rfl⟩
  rw [← hX] at h0
  clear h ht
  go_enter Tryd.func82, Tryd.ntmps82
  go_wp2_with fail
  rw [← hX]
  clear hX
  generalize w.alloc (.cells ozC 86) = W0 at h0 ⊢
  refine (HN.out _ h0.out.r).mono ?_
  rintro e u ⟨rfl, hR, hK⟩
  have HX1 := Lib.hid (h0.out.call hR hK)
  have HL := Lib.hid (lay_t hR hK t)
  have HX2 : Hid (RX w (layT u t) p X l g) := Lib.hid (HX1.out.lay _)
  clear hR hK
  obtain ⟨x0, x1, x2⟩ := HL.out.2.2.1.cells
  subst hl
  obtain ⟨k, m, k1, k2, k3, HS⟩ := HX2.out.step
  have HS := Lib.hid HS
  go_wp2_with fail
  refine (want_any HS.out.r [58] HD.out).mono ?_
  rintro e u2 ⟨rfl, hR, hK⟩
  have HX3 := Lib.hid (HS.out.call hR hK)
  clear hR hK
  go_wp2_with fail
  refine (HE.out _ _ HX3.out.r).mono ?_
  rintro e u3 ⟨rfl, hR, hK⟩
  have HX4 := Lib.hid (HX3.out.call hR hK)
  clear hR hK
  have s0 : (u3.alloc (.cells #[.string ⟨s.toArray⟩, .int .i64 a] 132)).cell? ⟨u3.heap.size, 0, none⟩ = some (.string ⟨s.toArray⟩) := by rw [World.cell?, (MapKept.heap_alloc u3 _).1]; rfl
  have s1 : (u3.alloc (.cells #[.string ⟨s.toArray⟩, .int .i64 a] 132)).cell? ⟨u3.heap.size, 1, none⟩ = some (.int .i64 a) := by rw [World.cell?, (MapKept.heap_alloc u3 _).1]; rfl
  go_wp2_with fail
  refine (opnd_symbol s a _).mono ?_
  rintro e u4 ⟨rfl, hB⟩
  have HX5 := Lib.hid ((HX4.out.lay _).next hB)
  clear hB
  obtain ⟨q1, q2⟩ := HX5.out.turn ⟨6, 0, false, false, 0, s, a⟩
  obtain ⟨b0, b1, b2, b3, b4, b5, b6, b7, b8⟩ := q2.seven
  obtain ⟨y0, y1, y2, y3, y4, y5, y6, y7, y8⟩ := q1.facts
  have HQ := Lib.hid (q1.done ⟨6, 0, false, false, 0, s, a⟩)
  have f0 := y7 0
  have f1 := y7 1
  have f2 := y7 2
  have f3 := y7 3
  have f4 := y7 4
  have f5 := y7 5
  have f6 := y7 6
  clear q1 q2 s0 s1
  go_wp2
  refine bodyPost_ret (results_cell_row (P := Tryd.prog) rfl _ _ X 86 _ (0, 0) _ rfl HQ.out.2.2 Tryd.underlying86 rfl (by kernel_rfl)) rfl ?_
  exact ⟨rfl, HQ.out.1, HQ.out.2.1⟩
end Go.Proofs.YtngoipcjipbelaaDoor
