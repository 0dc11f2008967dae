/- operand: any operand. -/
import Derived.Test.YthejefldnpeciaaGreatDoorzO6
namespace Go.Proofs.YthejefldnpeciaaGreatDoor
set_option linter.unusedVariables false
set_option linter.unusedSimpArgs false
open Go.ChangeShapes Go.WideShapes Go.Deep Go.RowKit

theorem take_eq {w : World} {p : Nat} {l r : List Ti} {t : Ti} {g : Bool} (h : RR w p l g) (hl : l = t :: r) (s : List UInt8) (hs : isSg s t = true) :
    Calls Tryz.prog 63 #[.pointer (some ⟨p, 0, none⟩), .string ⟨s.toArray⟩] w (Did (.bool true) p r g w) := by
  subst hl; exact take_yes h s hs
theorem meth_sym (s : ByteArray) (a : Int) (w : World) : (method 265 141 (.agg #[.string s, .int .i64 a]) "cleat/operand.opnd").run Tryz.prog w = .ok (89, .agg #[.string s, .int .i64 a]) w := by kernel_rfl
theorem meth_num (m : Bool) (v : Int) (w : World) : (method 265 107 (.agg #[.bool m, .int .u64 v]) "cleat/operand.opnd").run Tryz.prog w = .ok (71, .agg #[.bool m, .int .u64 v]) w := by kernel_rfl
set_option maxRecDepth 100000 in
set_option maxHeartbeats 4000000 in
theorem op_expr_sym {w : World} {p : Nat} {l : List Ti} {g : Bool} {t : Ti} {r : List Ti} {g1 : Bool} {s : List UInt8} {a : Int} (h : RR w p l g) (ht : nextT l = t) (hc : (t.kind == 1) = false ∨ (t.kind == 1) = true ∧ shiftL t.text < 0) (hrg : isRg (nextT l) = false) (s91 : isSg [91] (nextT l) = false) (s61 : isSg [61] (nextT l) = false) (s35 : isSg [35] (nextT l) = false) (s58 : isSg [58] (nextT l) = false) (he : exprP l = some (⟨3, 0, false, false, 0, s, a⟩, r, g1)) :
    Calls Tryz.prog 32 #[.pointer (some ⟨p, 0, none⟩)] w (Did (poV ⟨3, 0, false, false, 0, s, a⟩) p r (g || g1) w) := by
  have HC := Lib.hid hc
  have HAt : Hid (∀ u, RR u p l g → Calls Tryz.prog 65 #[.pointer (some ⟨p, 0, none⟩)] u (Did (.bool false) p l g u)) := Lib.hid fun u hu => by have := atReg_any hu; rwa [hrg] at this
  clear hc hrg
  have S91 := Lib.hid s91
  clear s91
  have S61 := Lib.hid s61
  clear s61
  have S35 := Lib.hid s35
  clear s35
  have S58 := Lib.hid s58
  clear s58
  have HE : Hid (∀ u g, RR u p l g → Calls Tryz.prog 68 #[.pointer (some ⟨p, 0, none⟩)] u (Did (.iface 141 (.agg #[.string ⟨s.toArray⟩, .int .i64 a])) p r (g || g1) u)) := Lib.hid fun u g hu => expr_ok hu he
  clear he
  have h0 := Lib.hid (RX.mk0 h)
  have HZ := zeroOpnd
  have HMs := meth_sym
  have HMn := meth_num
  have HN : Hid (∀ u, RR u p l g → Calls Tryz.prog 61 #[.pointer (some ⟨p, 0, none⟩)] u (Did (.agg #[.int .i64 t.kind, .string ⟨t.text.toArray⟩, .int .u64 t.v]) p l g u)) := Lib.hid fun u hu => by have := next_r hu; rwa [ht] at this
  have HSK : Hid (∀ u, TabO u → Calls Tryz.prog 62 #[.string ⟨t.text.toArray⟩] u (Ret (.int .i64 (shiftL t.text)) u)) := Lib.hid fun u hu => by
    have := shiftKind_any ⟨t.text.toArray⟩ u hu.2.2
    rwa [show (⟨t.text.toArray⟩ : ByteArray).data.toList = t.text by simp] at this
  obtain ⟨X, hX⟩ : ∃ X, X = w.heap.size := ⟨_, rfl⟩
  rw [← hX] at h0
  clear h ht
  generalize shiftL t.text = sk at HSK HC
  go_enter Tryz.func32, Tryz.ntmps32
  go_wp2_with fail
  rw [← hX]
  clear hX
  generalize w.alloc (.cells ozC 38) = W0 at h0 ⊢
  refine (HN.out _ h0.out.r).mono ?_
  rintro e u ⟨rfl, hR, hK⟩
  have HX1 := Lib.hid (h0.out.call hR hK)
  have HL := Lib.hid (lay_t hR hK t)
  have HX2 : Hid (RX w (layT u t) p X l g) := Lib.hid (HX1.out.lay _)
  clear hR hK
  obtain ⟨x0, x1, x2⟩ := HL.out.2.2.1.cells
  rcases HC.out with c1 | ⟨c1, c2⟩
  all_goals
    go_wp2_with (go_at_call 62; refine (HSK.out _ HX2.out.r.tab).mono ?_; rintro e u9 ⟨rfl, rfl⟩)
    refine (HAt.out _ HX2.out.r).mono ?_
    rintro e v0 ⟨rfl, hR, hK⟩
    have H0 := Lib.hid (HX2.out.call hR hK)
    clear hR hK x0 x1 x2
    go_wp2_with fail
    refine (take_no H0.out.r [91] S91.out).mono ?_
    rintro e v1 ⟨rfl, hR, hK⟩
    have H1 := Lib.hid (H0.out.call hR hK)
    clear hR hK
    go_wp2_with fail
    refine (take_no H1.out.r [61] S61.out).mono ?_
    rintro e v2 ⟨rfl, hR, hK⟩
    have H2 := Lib.hid (H1.out.call hR hK)
    clear hR hK
    go_wp2_with fail
    refine (take_no H2.out.r [35] S35.out).mono ?_
    rintro e v3 ⟨rfl, hR, hK⟩
    have H3 := Lib.hid (H2.out.call hR hK)
    clear hR hK
    go_wp2_with fail
    refine (take_no H3.out.r [58] S58.out).mono ?_
    rintro e v4 ⟨rfl, hR, hK⟩
    have H4 := Lib.hid (H3.out.call hR hK)
    clear hR hK
    go_wp2_with fail
    refine (HE.out _ _ H4.out.r).mono ?_
    rintro e v5 ⟨rfl, hR, hK⟩
    have H5 := Lib.hid (H4.out.call hR hK)
    clear hR hK
    go_wp2_with fail
    refine (opnd_symbol s a _).mono ?_
    rintro e v6 ⟨rfl, hB⟩
    have H6 := Lib.hid (H5.out.next hB)
    clear hB
    obtain ⟨x0, x1, x2, x3, x4, x5, x6, x7, x8⟩ := H6.out.facts
    have xf0 := x7 0
    have xf1 := x7 1
    have xf2 := x7 2
    have xf3 := x7 3
    have xf4 := x7 4
    have xf5 := x7 5
    have xf6 := x7 6
    have HQ := Lib.hid (H6.out.done ⟨3, 0, false, false, 0, s, a⟩)
    go_wp2
    refine bodyPost_ret (results_cell_row (P := Tryz.prog) rfl _ _ X 38 _ (0, 0) _ rfl HQ.out.2.2 Tryz.underlying38 rfl (by kernel_rfl)) rfl ?_
    exact ⟨rfl, HQ.out.1, HQ.out.2.1⟩
set_option maxRecDepth 100000 in
set_option maxHeartbeats 4000000 in
theorem op_expr_num {w : World} {p : Nat} {l : List Ti} {g : Bool} {t : Ti} {r : List Ti} {g1 m : Bool} {v : Int} (h : RR w p l g) (ht : nextT l = t) (hc : (t.kind == 1) = false ∨ (t.kind == 1) = true ∧ shiftL t.text < 0) (hrg : isRg (nextT l) = false) (s91 : isSg [91] (nextT l) = false) (s61 : isSg [61] (nextT l) = false) (s35 : isSg [35] (nextT l) = false) (s58 : isSg [58] (nextT l) = false) (he : exprP l = some (⟨2, 0, false, m, v, [], 0⟩, r, g1)) :
    Calls Tryz.prog 32 #[.pointer (some ⟨p, 0, none⟩)] w (Did (poV ⟨2, 0, false, m, v, [], 0⟩) p r (g || g1) w) := by
  have HC := Lib.hid hc
  have HAt : Hid (∀ u, RR u p l g → Calls Tryz.prog 65 #[.pointer (some ⟨p, 0, none⟩)] u (Did (.bool false) p l g u)) := Lib.hid fun u hu => by have := atReg_any hu; rwa [hrg] at this
  clear hc hrg
  have S91 := Lib.hid s91
  clear s91
  have S61 := Lib.hid s61
  clear s61
  have S35 := Lib.hid s35
  clear s35
  have S58 := Lib.hid s58
  clear s58
  have HE : Hid (∀ u g, RR u p l g → Calls Tryz.prog 68 #[.pointer (some ⟨p, 0, none⟩)] u (Did (.iface 107 (.agg #[.bool m, .int .u64 v])) p r (g || g1) u)) := Lib.hid fun u g hu => expr_ok hu he
  clear he
  have h0 := Lib.hid (RX.mk0 h)
  have HZ := zeroOpnd
  have HMs := meth_sym
  have HMn := meth_num
  have HN : Hid (∀ u, RR u p l g → Calls Tryz.prog 61 #[.pointer (some ⟨p, 0, none⟩)] u (Did (.agg #[.int .i64 t.kind, .string ⟨t.text.toArray⟩, .int .u64 t.v]) p l g u)) := Lib.hid fun u hu => by have := next_r hu; rwa [ht] at this
  have HSK : Hid (∀ u, TabO u → Calls Tryz.prog 62 #[.string ⟨t.text.toArray⟩] u (Ret (.int .i64 (shiftL t.text)) u)) := Lib.hid fun u hu => by
    have := shiftKind_any ⟨t.text.toArray⟩ u hu.2.2
    rwa [show (⟨t.text.toArray⟩ : ByteArray).data.toList = t.text by simp] at this
  obtain ⟨X, hX⟩ : ∃ X, X = w.heap.size := ⟨_, rfl⟩
  rw [← hX] at h0
  clear h ht
  generalize shiftL t.text = sk at HSK HC
  go_enter Tryz.func32, Tryz.ntmps32
  go_wp2_with fail
  rw [← hX]
  clear hX
  generalize w.alloc (.cells ozC 38) = W0 at h0 ⊢
  refine (HN.out _ h0.out.r).mono ?_
  rintro e u ⟨rfl, hR, hK⟩
  have HX1 := Lib.hid (h0.out.call hR hK)
  have HL := Lib.hid (lay_t hR hK t)
  have HX2 : Hid (RX w (layT u t) p X l g) := Lib.hid (HX1.out.lay _)
  clear hR hK
  obtain ⟨x0, x1, x2⟩ := HL.out.2.2.1.cells
  rcases HC.out with c1 | ⟨c1, c2⟩
  all_goals
    go_wp2_with (go_at_call 62; refine (HSK.out _ HX2.out.r.tab).mono ?_; rintro e u9 ⟨rfl, rfl⟩)
    refine (HAt.out _ HX2.out.r).mono ?_
    rintro e v0 ⟨rfl, hR, hK⟩
    have H0 := Lib.hid (HX2.out.call hR hK)
    clear hR hK x0 x1 x2
    go_wp2_with fail
    refine (take_no H0.out.r [91] S91.out).mono ?_
    rintro e v1 ⟨rfl, hR, hK⟩
    have H1 := Lib.hid (H0.out.call hR hK)
    clear hR hK
    go_wp2_with fail
    refine (take_no H1.out.r [61] S61.out).mono ?_
    rintro e v2 ⟨rfl, hR, hK⟩
    have H2 := Lib.hid (H1.out.call hR hK)
    clear hR hK
    go_wp2_with fail
    refine (take_no H2.out.r [35] S35.out).mono ?_
    rintro e v3 ⟨rfl, hR, hK⟩
    have H3 := Lib.hid (H2.out.call hR hK)
    clear hR hK
    go_wp2_with fail
    refine (take_no H3.out.r [58] S58.out).mono ?_
    rintro e v4 ⟨rfl, hR, hK⟩
    have H4 := Lib.hid (H3.out.call hR hK)
    clear hR hK
    go_wp2_with fail
    refine (HE.out _ _ H4.out.r).mono ?_
    rintro e v5 ⟨rfl, hR, hK⟩
    have H5 := Lib.hid (H4.out.call hR hK)
    clear hR hK
    go_wp2_with fail
    refine (opnd_number m v _).mono ?_
    rintro e v6 ⟨rfl, hB⟩
    have H6 := Lib.hid (H5.out.next hB)
    clear hB
    obtain ⟨x0, x1, x2, x3, x4, x5, x6, x7, x8⟩ := H6.out.facts
    have xf0 := x7 0
    have xf1 := x7 1
    have xf2 := x7 2
    have xf3 := x7 3
    have xf4 := x7 4
    have xf5 := x7 5
    have xf6 := x7 6
    have HQ := Lib.hid (H6.out.done ⟨2, 0, false, m, v, [], 0⟩)
    go_wp2
    refine bodyPost_ret (results_cell_row (P := Tryz.prog) rfl _ _ X 38 _ (0, 0) _ rfl HQ.out.2.2 Tryz.underlying38 rfl (by kernel_rfl)) rfl ?_
    exact ⟨rfl, HQ.out.1, HQ.out.2.1⟩
set_option maxRecDepth 100000 in
set_option maxHeartbeats 4000000 in
theorem op_expr_no {w : World} {p : Nat} {l : List Ti} {g : Bool} {t : Ti}  (h : RR w p l g) (ht : nextT l = t) (hc : (t.kind == 1) = false ∨ (t.kind == 1) = true ∧ shiftL t.text < 0) (hrg : isRg (nextT l) = false) (s91 : isSg [91] (nextT l) = false) (s61 : isSg [61] (nextT l) = false) (s35 : isSg [35] (nextT l) = false) (s58 : isSg [58] (nextT l) = false) (he : exprP l = none) :
    Calls Tryz.prog 32 #[.pointer (some ⟨p, 0, none⟩)] w (Thr p w) := by
  have HC := Lib.hid hc
  have HAt : Hid (∀ u, RR u p l g → Calls Tryz.prog 65 #[.pointer (some ⟨p, 0, none⟩)] u (Did (.bool false) p l g u)) := Lib.hid fun u hu => by have := atReg_any hu; rwa [hrg] at this
  clear hc hrg
  have S91 := Lib.hid s91
  clear s91
  have S61 := Lib.hid s61
  clear s61
  have S35 := Lib.hid s35
  clear s35
  have S58 := Lib.hid s58
  clear s58
  have HE := Lib.hid he
  clear he
  have h0 := Lib.hid (RX.mk0 h)
  have HZ := zeroOpnd
  have HMs := meth_sym
  have HMn := meth_num
  have HN : Hid (∀ u, RR u p l g → Calls Tryz.prog 61 #[.pointer (some ⟨p, 0, none⟩)] u (Did (.agg #[.int .i64 t.kind, .string ⟨t.text.toArray⟩, .int .u64 t.v]) p l g u)) := Lib.hid fun u hu => by have := next_r hu; rwa [ht] at this
  have HSK : Hid (∀ u, TabO u → Calls Tryz.prog 62 #[.string ⟨t.text.toArray⟩] u (Ret (.int .i64 (shiftL t.text)) u)) := Lib.hid fun u hu => by
    have := shiftKind_any ⟨t.text.toArray⟩ u hu.2.2
    rwa [show (⟨t.text.toArray⟩ : ByteArray).data.toList = t.text by simp] at this
  obtain ⟨X, hX⟩ : ∃ X, X = w.heap.size := ⟨_, rfl⟩
  rw [← hX] at h0
  clear h ht
  generalize shiftL t.text = sk at HSK HC
  go_enter Tryz.func32, Tryz.ntmps32
  go_wp2_with fail
  rw [← hX]
  clear hX
  generalize w.alloc (.cells ozC 38) = W0 at h0 ⊢
  refine (HN.out _ h0.out.r).mono ?_
  rintro e u ⟨rfl, hR, hK⟩
  have HX1 := Lib.hid (h0.out.call hR hK)
  have HL := Lib.hid (lay_t hR hK t)
  have HX2 : Hid (RX w (layT u t) p X l g) := Lib.hid (HX1.out.lay _)
  clear hR hK
  obtain ⟨x0, x1, x2⟩ := HL.out.2.2.1.cells
  rcases HC.out with c1 | ⟨c1, c2⟩
  all_goals
    go_wp2_with (go_at_call 62; refine (HSK.out _ HX2.out.r.tab).mono ?_; rintro e u9 ⟨rfl, rfl⟩)
    refine (HAt.out _ HX2.out.r).mono ?_
    rintro e v0 ⟨rfl, hR, hK⟩
    have H0 := Lib.hid (HX2.out.call hR hK)
    clear hR hK x0 x1 x2
    go_wp2_with fail
    refine (take_no H0.out.r [91] S91.out).mono ?_
    rintro e v1 ⟨rfl, hR, hK⟩
    have H1 := Lib.hid (H0.out.call hR hK)
    clear hR hK
    go_wp2_with fail
    refine (take_no H1.out.r [61] S61.out).mono ?_
    rintro e v2 ⟨rfl, hR, hK⟩
    have H2 := Lib.hid (H1.out.call hR hK)
    clear hR hK
    go_wp2_with fail
    refine (take_no H2.out.r [35] S35.out).mono ?_
    rintro e v3 ⟨rfl, hR, hK⟩
    have H3 := Lib.hid (H2.out.call hR hK)
    clear hR hK
    go_wp2_with fail
    refine (take_no H3.out.r [58] S58.out).mono ?_
    rintro e v4 ⟨rfl, hR, hK⟩
    have H4 := Lib.hid (H3.out.call hR hK)
    clear hR hK
    go_wp2_with fail
    refine (expr_no H4.out.r HE.out).mono ?_
    rintro e v5 ⟨rfl, hK⟩
    exact ⟨rfl, rfl, KP.trans' H4.out.k hK⟩
set_option maxRecDepth 100000 in
set_option maxHeartbeats 4000000 in
theorem op_low_ok {w : World} {p : Nat} {l : List Ti} {g : Bool} {t : Ti} {l2 r : List Ti} {g1 : Bool} {o : Po} (h : RR w p l g) (ht : nextT l = t) (hc : (t.kind == 1) = false ∨ (t.kind == 1) = true ∧ shiftL t.text < 0) (hrg : isRg (nextT l) = false) (s91 : isSg [91] (nextT l) = false) (s61 : isSg [61] (nextT l) = false) (s35 : isSg [35] (nextT l) = false) (hl : l = t :: l2) (hs : isSg [58] t = true) (hlow : lowP l2 = some (o, r, g1)) :
    Calls Tryz.prog 32 #[.pointer (some ⟨p, 0, none⟩)] w (Did (poV o) p r (g || g1) w) := by
  have HC := Lib.hid hc
  have HAt : Hid (∀ u, RR u p l g → Calls Tryz.prog 65 #[.pointer (some ⟨p, 0, none⟩)] u (Did (.bool false) p l g u)) := Lib.hid fun u hu => by have := atReg_any hu; rwa [hrg] at this
  clear hc hrg
  have HHl := Lib.hid hl
  clear hl
  have S91 := Lib.hid s91
  clear s91
  have S61 := Lib.hid s61
  clear s61
  have S35 := Lib.hid s35
  clear s35
  have HS := Lib.hid hs
  clear hs
  have HLow : Hid (∀ u g, RR u p l2 g → Calls Tryz.prog 69 #[.pointer (some ⟨p, 0, none⟩)] u (Did (.agg #[.int .i64 o.kind, .int .i64 o.reg, .bool o.stack, .bool o.minus, .int .u64 o.v, .string ⟨o.sym.toArray⟩, .int .i64 o.add]) p r (g || g1) u)) := Lib.hid fun u g hu => low_ok hu hlow
  clear hlow
  have h0 := Lib.hid (RX.mk0 h)
  have HZ := zeroOpnd
  have HMs := meth_sym
  have HMn := meth_num
  have HN : Hid (∀ u, RR u p l g → Calls Tryz.prog 61 #[.pointer (some ⟨p, 0, none⟩)] u (Did (.agg #[.int .i64 t.kind, .string ⟨t.text.toArray⟩, .int .u64 t.v]) p l g u)) := Lib.hid fun u hu => by have := next_r hu; rwa [ht] at this
  have HSK : Hid (∀ u, TabO u → Calls Tryz.prog 62 #[.string ⟨t.text.toArray⟩] u (Ret (.int .i64 (shiftL t.text)) u)) := Lib.hid fun u hu => by
    have := shiftKind_any ⟨t.text.toArray⟩ u hu.2.2
    rwa [show (⟨t.text.toArray⟩ : ByteArray).data.toList = t.text by simp] at this
  obtain ⟨X, hX⟩ : ∃ X, X = w.heap.size := ⟨_, rfl⟩
  rw [← hX] at h0
  clear h ht
  generalize shiftL t.text = sk at HSK HC
  go_enter Tryz.func32, Tryz.ntmps32
  go_wp2_with fail
  rw [← hX]
  clear hX
  generalize w.alloc (.cells ozC 38) = W0 at h0 ⊢
  refine (HN.out _ h0.out.r).mono ?_
  rintro e u ⟨rfl, hR, hK⟩
  have HX1 := Lib.hid (h0.out.call hR hK)
  have HL := Lib.hid (lay_t hR hK t)
  have HX2 : Hid (RX w (layT u t) p X l g) := Lib.hid (HX1.out.lay _)
  clear hR hK
  obtain ⟨x0, x1, x2⟩ := HL.out.2.2.1.cells
  rcases HC.out with c1 | ⟨c1, c2⟩
  all_goals
    go_wp2_with (go_at_call 62; refine (HSK.out _ HX2.out.r.tab).mono ?_; rintro e u9 ⟨rfl, rfl⟩)
    refine (HAt.out _ HX2.out.r).mono ?_
    rintro e v0 ⟨rfl, hR, hK⟩
    have H0 := Lib.hid (HX2.out.call hR hK)
    clear hR hK x0 x1 x2
    go_wp2_with fail
    refine (take_no H0.out.r [91] S91.out).mono ?_
    rintro e v1 ⟨rfl, hR, hK⟩
    have H1 := Lib.hid (H0.out.call hR hK)
    clear hR hK
    go_wp2_with fail
    refine (take_no H1.out.r [61] S61.out).mono ?_
    rintro e v2 ⟨rfl, hR, hK⟩
    have H2 := Lib.hid (H1.out.call hR hK)
    clear hR hK
    go_wp2_with fail
    refine (take_no H2.out.r [35] S35.out).mono ?_
    rintro e v3 ⟨rfl, hR, hK⟩
    have H3 := Lib.hid (H2.out.call hR hK)
    clear hR hK
    go_wp2_with fail
    refine (take_eq H3.out.r HHl.out [58] HS.out).mono ?_
    rintro e vy ⟨rfl, hR, hK⟩
    have HY := Lib.hid (H3.out.call hR hK)
    clear hR hK
    go_wp2_with fail
    refine (HLow.out _ _ HY.out.r).mono ?_
    rintro e vz ⟨rfl, hR, hK⟩
    have HZ1 := Lib.hid (HY.out.call hR hK)
    clear hR hK
    obtain ⟨x0, x1, x2, x3, x4, x5, x6, x7, x8⟩ := HZ1.out.facts
    have xf0 := x7 0
    have xf1 := x7 1
    have xf2 := x7 2
    have xf3 := x7 3
    have xf4 := x7 4
    have xf5 := x7 5
    have xf6 := x7 6
    have HQ := Lib.hid (HZ1.out.done o)
    go_wp2
    refine bodyPost_ret (results_cell_row (P := Tryz.prog) rfl _ _ X 38 _ (0, 0) _ rfl HQ.out.2.2 Tryz.underlying38 rfl (by kernel_rfl)) rfl ?_
    exact ⟨rfl, HQ.out.1, HQ.out.2.1⟩
set_option maxRecDepth 100000 in
set_option maxHeartbeats 4000000 in
theorem op_low_no {w : World} {p : Nat} {l : List Ti} {g : Bool} {t : Ti} {l2 : List Ti} (h : RR w p l g) (ht : nextT l = t) (hc : (t.kind == 1) = false ∨ (t.kind == 1) = true ∧ shiftL t.text < 0) (hrg : isRg (nextT l) = false) (s91 : isSg [91] (nextT l) = false) (s61 : isSg [61] (nextT l) = false) (s35 : isSg [35] (nextT l) = false) (hl : l = t :: l2) (hs : isSg [58] t = true) (hlow : lowP l2 = none) :
    Calls Tryz.prog 32 #[.pointer (some ⟨p, 0, none⟩)] w (Thr p w) := by
  have HC := Lib.hid hc
  have HAt : Hid (∀ u, RR u p l g → Calls Tryz.prog 65 #[.pointer (some ⟨p, 0, none⟩)] u (Did (.bool false) p l g u)) := Lib.hid fun u hu => by have := atReg_any hu; rwa [hrg] at this
  clear hc hrg
  have HHl := Lib.hid hl
  clear hl
  have S91 := Lib.hid s91
  clear s91
  have S61 := Lib.hid s61
  clear s61
  have S35 := Lib.hid s35
  clear s35
  have HS := Lib.hid hs
  clear hs
  have HLow := Lib.hid hlow
  clear hlow
  have h0 := Lib.hid (RX.mk0 h)
  have HZ := zeroOpnd
  have HMs := meth_sym
  have HMn := meth_num
  have HN : Hid (∀ u, RR u p l g → Calls Tryz.prog 61 #[.pointer (some ⟨p, 0, none⟩)] u (Did (.agg #[.int .i64 t.kind, .string ⟨t.text.toArray⟩, .int .u64 t.v]) p l g u)) := Lib.hid fun u hu => by have := next_r hu; rwa [ht] at this
  have HSK : Hid (∀ u, TabO u → Calls Tryz.prog 62 #[.string ⟨t.text.toArray⟩] u (Ret (.int .i64 (shiftL t.text)) u)) := Lib.hid fun u hu => by
    have := shiftKind_any ⟨t.text.toArray⟩ u hu.2.2
    rwa [show (⟨t.text.toArray⟩ : ByteArray).data.toList = t.text by simp] at this
  obtain ⟨X, hX⟩ : ∃ X, X = w.heap.size := ⟨_, rfl⟩
  rw [← hX] at h0
  clear h ht
  generalize shiftL t.text = sk at HSK HC
  go_enter Tryz.func32, Tryz.ntmps32
  go_wp2_with fail
  rw [← hX]
  clear hX
  generalize w.alloc (.cells ozC 38) = W0 at h0 ⊢
  refine (HN.out _ h0.out.r).mono ?_
  rintro e u ⟨rfl, hR, hK⟩
  have HX1 := Lib.hid (h0.out.call hR hK)
  have HL := Lib.hid (lay_t hR hK t)
  have HX2 : Hid (RX w (layT u t) p X l g) := Lib.hid (HX1.out.lay _)
  clear hR hK
  obtain ⟨x0, x1, x2⟩ := HL.out.2.2.1.cells
  rcases HC.out with c1 | ⟨c1, c2⟩
  all_goals
    go_wp2_with (go_at_call 62; refine (HSK.out _ HX2.out.r.tab).mono ?_; rintro e u9 ⟨rfl, rfl⟩)
    refine (HAt.out _ HX2.out.r).mono ?_
    rintro e v0 ⟨rfl, hR, hK⟩
    have H0 := Lib.hid (HX2.out.call hR hK)
    clear hR hK x0 x1 x2
    go_wp2_with fail
    refine (take_no H0.out.r [91] S91.out).mono ?_
    rintro e v1 ⟨rfl, hR, hK⟩
    have H1 := Lib.hid (H0.out.call hR hK)
    clear hR hK
    go_wp2_with fail
    refine (take_no H1.out.r [61] S61.out).mono ?_
    rintro e v2 ⟨rfl, hR, hK⟩
    have H2 := Lib.hid (H1.out.call hR hK)
    clear hR hK
    go_wp2_with fail
    refine (take_no H2.out.r [35] S35.out).mono ?_
    rintro e v3 ⟨rfl, hR, hK⟩
    have H3 := Lib.hid (H2.out.call hR hK)
    clear hR hK
    go_wp2_with fail
    refine (take_eq H3.out.r HHl.out [58] HS.out).mono ?_
    rintro e vy ⟨rfl, hR, hK⟩
    have HY := Lib.hid (H3.out.call hR hK)
    clear hR hK
    go_wp2_with fail
    refine (low_none HY.out.r HLow.out).mono ?_
    rintro e vz ⟨rfl, hK⟩
    exact ⟨rfl, rfl, KP.trans' HY.out.k hK⟩
set_option maxRecDepth 100000 in
set_option maxHeartbeats 4000000 in
theorem op_mem_ok {w : World} {p : Nat} {l : List Ti} {g : Bool} {t : Ti} {l2 r : List Ti} {g1 : Bool} {o : Po} (h : RR w p l g) (ht : nextT l = t) (hc : (t.kind == 1) = false ∨ (t.kind == 1) = true ∧ shiftL t.text < 0) (hrg : isRg (nextT l) = false)  (hl : l = t :: l2) (hs : isSg [91] t = true) (hmem : memP l2 = some (o, r, g1)) :
    Calls Tryz.prog 32 #[.pointer (some ⟨p, 0, none⟩)] w (Did (poV o) p r (g || g1) w) := by
  have HC := Lib.hid hc
  have HAt : Hid (∀ u, RR u p l g → Calls Tryz.prog 65 #[.pointer (some ⟨p, 0, none⟩)] u (Did (.bool false) p l g u)) := Lib.hid fun u hu => by have := atReg_any hu; rwa [hrg] at this
  clear hc hrg
  have HHl := Lib.hid hl
  clear hl
  have HS := Lib.hid hs
  clear hs
  have HMem : Hid (∀ u g, RR u p l2 g → Calls Tryz.prog 67 #[.pointer (some ⟨p, 0, none⟩)] u (Did (.agg #[.int .i64 o.kind, .int .i64 o.reg, .bool o.stack, .bool o.minus, .int .u64 o.v, .string ⟨o.sym.toArray⟩, .int .i64 o.add]) p r (g || g1) u)) := Lib.hid fun u g hu => mem_ok hu hmem
  clear hmem
  have h0 := Lib.hid (RX.mk0 h)
  have HZ := zeroOpnd
  have HMs := meth_sym
  have HMn := meth_num
  have HN : Hid (∀ u, RR u p l g → Calls Tryz.prog 61 #[.pointer (some ⟨p, 0, none⟩)] u (Did (.agg #[.int .i64 t.kind, .string ⟨t.text.toArray⟩, .int .u64 t.v]) p l g u)) := Lib.hid fun u hu => by have := next_r hu; rwa [ht] at this
  have HSK : Hid (∀ u, TabO u → Calls Tryz.prog 62 #[.string ⟨t.text.toArray⟩] u (Ret (.int .i64 (shiftL t.text)) u)) := Lib.hid fun u hu => by
    have := shiftKind_any ⟨t.text.toArray⟩ u hu.2.2
    rwa [show (⟨t.text.toArray⟩ : ByteArray).data.toList = t.text by simp] at this
  obtain ⟨X, hX⟩ : ∃ X, X = w.heap.size := ⟨_, rfl⟩
  rw [← hX] at h0
  clear h ht
  generalize shiftL t.text = sk at HSK HC
  go_enter Tryz.func32, Tryz.ntmps32
  go_wp2_with fail
  rw [← hX]
  clear hX
  generalize w.alloc (.cells ozC 38) = W0 at h0 ⊢
  refine (HN.out _ h0.out.r).mono ?_
  rintro e u ⟨rfl, hR, hK⟩
  have HX1 := Lib.hid (h0.out.call hR hK)
  have HL := Lib.hid (lay_t hR hK t)
  have HX2 : Hid (RX w (layT u t) p X l g) := Lib.hid (HX1.out.lay _)
  clear hR hK
  obtain ⟨x0, x1, x2⟩ := HL.out.2.2.1.cells
  rcases HC.out with c1 | ⟨c1, c2⟩
  all_goals
    go_wp2_with (go_at_call 62; refine (HSK.out _ HX2.out.r.tab).mono ?_; rintro e u9 ⟨rfl, rfl⟩)
    refine (HAt.out _ HX2.out.r).mono ?_
    rintro e v0 ⟨rfl, hR, hK⟩
    have H0 := Lib.hid (HX2.out.call hR hK)
    clear hR hK x0 x1 x2
    go_wp2_with fail
    refine (take_eq H0.out.r HHl.out [91] HS.out).mono ?_
    rintro e vy ⟨rfl, hR, hK⟩
    have HY := Lib.hid (H0.out.call hR hK)
    clear hR hK
    go_wp2_with fail
    refine (HMem.out _ _ HY.out.r).mono ?_
    rintro e vz ⟨rfl, hR, hK⟩
    have HZ1 := Lib.hid (HY.out.call hR hK)
    clear hR hK
    obtain ⟨x0, x1, x2, x3, x4, x5, x6, x7, x8⟩ := HZ1.out.facts
    have xf0 := x7 0
    have xf1 := x7 1
    have xf2 := x7 2
    have xf3 := x7 3
    have xf4 := x7 4
    have xf5 := x7 5
    have xf6 := x7 6
    have HQ := Lib.hid (HZ1.out.done o)
    go_wp2
    refine bodyPost_ret (results_cell_row (P := Tryz.prog) rfl _ _ X 38 _ (0, 0) _ rfl HQ.out.2.2 Tryz.underlying38 rfl (by kernel_rfl)) rfl ?_
    exact ⟨rfl, HQ.out.1, HQ.out.2.1⟩
set_option maxRecDepth 100000 in
set_option maxHeartbeats 4000000 in
theorem op_mem_no {w : World} {p : Nat} {l : List Ti} {g : Bool} {t : Ti} {l2 : List Ti} (h : RR w p l g) (ht : nextT l = t) (hc : (t.kind == 1) = false ∨ (t.kind == 1) = true ∧ shiftL t.text < 0) (hrg : isRg (nextT l) = false)  (hl : l = t :: l2) (hs : isSg [91] t = true) (hmem : memP l2 = none) :
    Calls Tryz.prog 32 #[.pointer (some ⟨p, 0, none⟩)] w (Thr p w) := by
  have HC := Lib.hid hc
  have HAt : Hid (∀ u, RR u p l g → Calls Tryz.prog 65 #[.pointer (some ⟨p, 0, none⟩)] u (Did (.bool false) p l g u)) := Lib.hid fun u hu => by have := atReg_any hu; rwa [hrg] at this
  clear hc hrg
  have HHl := Lib.hid hl
  clear hl
  have HS := Lib.hid hs
  clear hs
  have HMem := Lib.hid hmem
  clear hmem
  have h0 := Lib.hid (RX.mk0 h)
  have HZ := zeroOpnd
  have HMs := meth_sym
  have HMn := meth_num
  have HN : Hid (∀ u, RR u p l g → Calls Tryz.prog 61 #[.pointer (some ⟨p, 0, none⟩)] u (Did (.agg #[.int .i64 t.kind, .string ⟨t.text.toArray⟩, .int .u64 t.v]) p l g u)) := Lib.hid fun u hu => by have := next_r hu; rwa [ht] at this
  have HSK : Hid (∀ u, TabO u → Calls Tryz.prog 62 #[.string ⟨t.text.toArray⟩] u (Ret (.int .i64 (shiftL t.text)) u)) := Lib.hid fun u hu => by
    have := shiftKind_any ⟨t.text.toArray⟩ u hu.2.2
    rwa [show (⟨t.text.toArray⟩ : ByteArray).data.toList = t.text by simp] at this
  obtain ⟨X, hX⟩ : ∃ X, X = w.heap.size := ⟨_, rfl⟩
  rw [← hX] at h0
  clear h ht
  generalize shiftL t.text = sk at HSK HC
  go_enter Tryz.func32, Tryz.ntmps32
  go_wp2_with fail
  rw [← hX]
  clear hX
  generalize w.alloc (.cells ozC 38) = W0 at h0 ⊢
  refine (HN.out _ h0.out.r).mono ?_
  rintro e u ⟨rfl, hR, hK⟩
  have HX1 := Lib.hid (h0.out.call hR hK)
  have HL := Lib.hid (lay_t hR hK t)
  have HX2 : Hid (RX w (layT u t) p X l g) := Lib.hid (HX1.out.lay _)
  clear hR hK
  obtain ⟨x0, x1, x2⟩ := HL.out.2.2.1.cells
  rcases HC.out with c1 | ⟨c1, c2⟩
  all_goals
    go_wp2_with (go_at_call 62; refine (HSK.out _ HX2.out.r.tab).mono ?_; rintro e u9 ⟨rfl, rfl⟩)
    refine (HAt.out _ HX2.out.r).mono ?_
    rintro e v0 ⟨rfl, hR, hK⟩
    have H0 := Lib.hid (HX2.out.call hR hK)
    clear hR hK x0 x1 x2
    go_wp2_with fail
    refine (take_eq H0.out.r HHl.out [91] HS.out).mono ?_
    rintro e vy ⟨rfl, hR, hK⟩
    have HY := Lib.hid (H0.out.call hR hK)
    clear hR hK
    go_wp2_with fail
    refine (mem_none HY.out.r HMem.out).mono ?_
    rintro e vz ⟨rfl, hK⟩
    exact ⟨rfl, rfl, KP.trans' HY.out.k hK⟩
set_option maxRecDepth 100000 in
set_option maxHeartbeats 4000000 in
theorem op_hash_low_ok {w : World} {p : Nat} {l : List Ti} {g : Bool} {t : Ti} {t2 : Ti} {l3 : List Ti} {l2 r : List Ti} {g1 : Bool} {o : Po} (h : RR w p l g) (ht : nextT l = t) (hc : (t.kind == 1) = false ∨ (t.kind == 1) = true ∧ shiftL t.text < 0) (hrg : isRg (nextT l) = false) (s91 : isSg [91] (nextT l) = false) (s61 : isSg [61] (nextT l) = false) (hl : l = t :: l2) (hs : isSg [35] t = true) (hl2 : l2 = t2 :: l3) (hs2 : isSg [58] t2 = true) (hlow : lowP l3 = some (o, r, g1)) :
    Calls Tryz.prog 32 #[.pointer (some ⟨p, 0, none⟩)] w (Did (poV o) p r (g || g1) w) := by
  have HC := Lib.hid hc
  have HAt : Hid (∀ u, RR u p l g → Calls Tryz.prog 65 #[.pointer (some ⟨p, 0, none⟩)] u (Did (.bool false) p l g u)) := Lib.hid fun u hu => by have := atReg_any hu; rwa [hrg] at this
  clear hc hrg
  subst hl2
  have HHl := Lib.hid hl
  clear hl
  have S91 := Lib.hid s91
  clear s91
  have S61 := Lib.hid s61
  clear s61
  have HS := Lib.hid hs
  clear hs
  have HS2 := Lib.hid hs2
  clear hs2
  have HLow : Hid (∀ u g, RR u p l3 g → Calls Tryz.prog 69 #[.pointer (some ⟨p, 0, none⟩)] u (Did (.agg #[.int .i64 o.kind, .int .i64 o.reg, .bool o.stack, .bool o.minus, .int .u64 o.v, .string ⟨o.sym.toArray⟩, .int .i64 o.add]) p r (g || g1) u)) := Lib.hid fun u g hu => low_ok hu hlow
  clear hlow
  have h0 := Lib.hid (RX.mk0 h)
  have HZ := zeroOpnd
  have HMs := meth_sym
  have HMn := meth_num
  have HN : Hid (∀ u, RR u p l g → Calls Tryz.prog 61 #[.pointer (some ⟨p, 0, none⟩)] u (Did (.agg #[.int .i64 t.kind, .string ⟨t.text.toArray⟩, .int .u64 t.v]) p l g u)) := Lib.hid fun u hu => by have := next_r hu; rwa [ht] at this
  have HSK : Hid (∀ u, TabO u → Calls Tryz.prog 62 #[.string ⟨t.text.toArray⟩] u (Ret (.int .i64 (shiftL t.text)) u)) := Lib.hid fun u hu => by
    have := shiftKind_any ⟨t.text.toArray⟩ u hu.2.2
    rwa [show (⟨t.text.toArray⟩ : ByteArray).data.toList = t.text by simp] at this
  obtain ⟨X, hX⟩ : ∃ X, X = w.heap.size := ⟨_, rfl⟩
  rw [← hX] at h0
  clear h ht
  generalize shiftL t.text = sk at HSK HC
  go_enter Tryz.func32, Tryz.ntmps32
  go_wp2_with fail
  rw [← hX]
  clear hX
  generalize w.alloc (.cells ozC 38) = W0 at h0 ⊢
  refine (HN.out _ h0.out.r).mono ?_
  rintro e u ⟨rfl, hR, hK⟩
  have HX1 := Lib.hid (h0.out.call hR hK)
  have HL := Lib.hid (lay_t hR hK t)
  have HX2 : Hid (RX w (layT u t) p X l g) := Lib.hid (HX1.out.lay _)
  clear hR hK
  obtain ⟨x0, x1, x2⟩ := HL.out.2.2.1.cells
  rcases HC.out with c1 | ⟨c1, c2⟩
  all_goals
    go_wp2_with (go_at_call 62; refine (HSK.out _ HX2.out.r.tab).mono ?_; rintro e u9 ⟨rfl, rfl⟩)
    refine (HAt.out _ HX2.out.r).mono ?_
    rintro e v0 ⟨rfl, hR, hK⟩
    have H0 := Lib.hid (HX2.out.call hR hK)
    clear hR hK x0 x1 x2
    go_wp2_with fail
    refine (take_no H0.out.r [91] S91.out).mono ?_
    rintro e v1 ⟨rfl, hR, hK⟩
    have H1 := Lib.hid (H0.out.call hR hK)
    clear hR hK
    go_wp2_with fail
    refine (take_no H1.out.r [61] S61.out).mono ?_
    rintro e v2 ⟨rfl, hR, hK⟩
    have H2 := Lib.hid (H1.out.call hR hK)
    clear hR hK
    go_wp2_with fail
    refine (take_eq H2.out.r HHl.out [35] HS.out).mono ?_
    rintro e vy ⟨rfl, hR, hK⟩
    have HY := Lib.hid (H2.out.call hR hK)
    clear hR hK
    go_wp2_with fail
    refine (take_yes HY.out.r [58] HS2.out).mono ?_
    rintro e vy2 ⟨rfl, hR, hK⟩
    have HY2 := Lib.hid (HY.out.call hR hK)
    clear hR hK
    go_wp2_with fail
    refine (HLow.out _ _ HY2.out.r).mono ?_
    rintro e vz ⟨rfl, hR, hK⟩
    have HZ1 := Lib.hid (HY2.out.call hR hK)
    clear hR hK
    obtain ⟨x0, x1, x2, x3, x4, x5, x6, x7, x8⟩ := HZ1.out.facts
    have xf0 := x7 0
    have xf1 := x7 1
    have xf2 := x7 2
    have xf3 := x7 3
    have xf4 := x7 4
    have xf5 := x7 5
    have xf6 := x7 6
    have HQ := Lib.hid (HZ1.out.done o)
    go_wp2
    refine bodyPost_ret (results_cell_row (P := Tryz.prog) rfl _ _ X 38 _ (0, 0) _ rfl HQ.out.2.2 Tryz.underlying38 rfl (by kernel_rfl)) rfl ?_
    exact ⟨rfl, HQ.out.1, HQ.out.2.1⟩
set_option maxRecDepth 100000 in
set_option maxHeartbeats 4000000 in
theorem op_hash_low_no {w : World} {p : Nat} {l : List Ti} {g : Bool} {t : Ti} {t2 : Ti} {l2 l3 : List Ti} (h : RR w p l g) (ht : nextT l = t) (hc : (t.kind == 1) = false ∨ (t.kind == 1) = true ∧ shiftL t.text < 0) (hrg : isRg (nextT l) = false) (s91 : isSg [91] (nextT l) = false) (s61 : isSg [61] (nextT l) = false) (hl : l = t :: l2) (hs : isSg [35] t = true) (hl2 : l2 = t2 :: l3) (hs2 : isSg [58] t2 = true) (hlow : lowP l3 = none) :
    Calls Tryz.prog 32 #[.pointer (some ⟨p, 0, none⟩)] w (Thr p w) := by
  have HC := Lib.hid hc
  have HAt : Hid (∀ u, RR u p l g → Calls Tryz.prog 65 #[.pointer (some ⟨p, 0, none⟩)] u (Did (.bool false) p l g u)) := Lib.hid fun u hu => by have := atReg_any hu; rwa [hrg] at this
  clear hc hrg
  subst hl2
  have HHl := Lib.hid hl
  clear hl
  have S91 := Lib.hid s91
  clear s91
  have S61 := Lib.hid s61
  clear s61
  have HS := Lib.hid hs
  clear hs
  have HS2 := Lib.hid hs2
  clear hs2
  have HLow := Lib.hid hlow
  clear hlow
  have h0 := Lib.hid (RX.mk0 h)
  have HZ := zeroOpnd
  have HMs := meth_sym
  have HMn := meth_num
  have HN : Hid (∀ u, RR u p l g → Calls Tryz.prog 61 #[.pointer (some ⟨p, 0, none⟩)] u (Did (.agg #[.int .i64 t.kind, .string ⟨t.text.toArray⟩, .int .u64 t.v]) p l g u)) := Lib.hid fun u hu => by have := next_r hu; rwa [ht] at this
  have HSK : Hid (∀ u, TabO u → Calls Tryz.prog 62 #[.string ⟨t.text.toArray⟩] u (Ret (.int .i64 (shiftL t.text)) u)) := Lib.hid fun u hu => by
    have := shiftKind_any ⟨t.text.toArray⟩ u hu.2.2
    rwa [show (⟨t.text.toArray⟩ : ByteArray).data.toList = t.text by simp] at this
  obtain ⟨X, hX⟩ : ∃ X, X = w.heap.size := ⟨_, rfl⟩
  rw [← hX] at h0
  clear h ht
  generalize shiftL t.text = sk at HSK HC
  go_enter Tryz.func32, Tryz.ntmps32
  go_wp2_with fail
  rw [← hX]
  clear hX
  generalize w.alloc (.cells ozC 38) = W0 at h0 ⊢
  refine (HN.out _ h0.out.r).mono ?_
  rintro e u ⟨rfl, hR, hK⟩
  have HX1 := Lib.hid (h0.out.call hR hK)
  have HL := Lib.hid (lay_t hR hK t)
  have HX2 : Hid (RX w (layT u t) p X l g) := Lib.hid (HX1.out.lay _)
  clear hR hK
  obtain ⟨x0, x1, x2⟩ := HL.out.2.2.1.cells
  rcases HC.out with c1 | ⟨c1, c2⟩
  all_goals
    go_wp2_with (go_at_call 62; refine (HSK.out _ HX2.out.r.tab).mono ?_; rintro e u9 ⟨rfl, rfl⟩)
    refine (HAt.out _ HX2.out.r).mono ?_
    rintro e v0 ⟨rfl, hR, hK⟩
    have H0 := Lib.hid (HX2.out.call hR hK)
    clear hR hK x0 x1 x2
    go_wp2_with fail
    refine (take_no H0.out.r [91] S91.out).mono ?_
    rintro e v1 ⟨rfl, hR, hK⟩
    have H1 := Lib.hid (H0.out.call hR hK)
    clear hR hK
    go_wp2_with fail
    refine (take_no H1.out.r [61] S61.out).mono ?_
    rintro e v2 ⟨rfl, hR, hK⟩
    have H2 := Lib.hid (H1.out.call hR hK)
    clear hR hK
    go_wp2_with fail
    refine (take_eq H2.out.r HHl.out [35] HS.out).mono ?_
    rintro e vy ⟨rfl, hR, hK⟩
    have HY := Lib.hid (H2.out.call hR hK)
    clear hR hK
    go_wp2_with fail
    refine (take_yes HY.out.r [58] HS2.out).mono ?_
    rintro e vy2 ⟨rfl, hR, hK⟩
    have HY2 := Lib.hid (HY.out.call hR hK)
    clear hR hK
    go_wp2_with fail
    refine (low_none HY2.out.r HLow.out).mono ?_
    rintro e vz ⟨rfl, hK⟩
    exact ⟨rfl, rfl, KP.trans' HY2.out.k hK⟩
set_option maxRecDepth 100000 in
set_option maxHeartbeats 4000000 in
theorem op_hash_num_ok {w : World} {p : Nat} {l : List Ti} {g : Bool} {t : Ti} {l2 r : List Ti} {g1 m : Bool} {v : Int} (h : RR w p l g) (ht : nextT l = t) (hc : (t.kind == 1) = false ∨ (t.kind == 1) = true ∧ shiftL t.text < 0) (hrg : isRg (nextT l) = false) (s91 : isSg [91] (nextT l) = false) (s61 : isSg [61] (nextT l) = false) (hl : l = t :: l2) (hs : isSg [35] t = true) (hs2 : isSg [58] (nextT l2) = false) (hn : numberP l2 = some ((m, v), r, g1)) :
    Calls Tryz.prog 32 #[.pointer (some ⟨p, 0, none⟩)] w (Did (poV ⟨2, 0, false, m, v, [], 0⟩) p r (g || g1) w) := by
  have HC := Lib.hid hc
  have HAt : Hid (∀ u, RR u p l g → Calls Tryz.prog 65 #[.pointer (some ⟨p, 0, none⟩)] u (Did (.bool false) p l g u)) := Lib.hid fun u hu => by have := atReg_any hu; rwa [hrg] at this
  clear hc hrg
  have HHl := Lib.hid hl
  clear hl
  have S91 := Lib.hid s91
  clear s91
  have S61 := Lib.hid s61
  clear s61
  have HS := Lib.hid hs
  clear hs
  have HS2 := Lib.hid hs2
  clear hs2
  have HNu := Lib.hid hn
  clear hn
  have h0 := Lib.hid (RX.mk0 h)
  have HZ := zeroOpnd
  have HMs := meth_sym
  have HMn := meth_num
  have HN : Hid (∀ u, RR u p l g → Calls Tryz.prog 61 #[.pointer (some ⟨p, 0, none⟩)] u (Did (.agg #[.int .i64 t.kind, .string ⟨t.text.toArray⟩, .int .u64 t.v]) p l g u)) := Lib.hid fun u hu => by have := next_r hu; rwa [ht] at this
  have HSK : Hid (∀ u, TabO u → Calls Tryz.prog 62 #[.string ⟨t.text.toArray⟩] u (Ret (.int .i64 (shiftL t.text)) u)) := Lib.hid fun u hu => by
    have := shiftKind_any ⟨t.text.toArray⟩ u hu.2.2
    rwa [show (⟨t.text.toArray⟩ : ByteArray).data.toList = t.text by simp] at this
  obtain ⟨X, hX⟩ : ∃ X, X = w.heap.size := ⟨_, rfl⟩
  rw [← hX] at h0
  clear h ht
  generalize shiftL t.text = sk at HSK HC
  go_enter Tryz.func32, Tryz.ntmps32
  go_wp2_with fail
  rw [← hX]
  clear hX
  generalize w.alloc (.cells ozC 38) = W0 at h0 ⊢
  refine (HN.out _ h0.out.r).mono ?_
  rintro e u ⟨rfl, hR, hK⟩
  have HX1 := Lib.hid (h0.out.call hR hK)
  have HL := Lib.hid (lay_t hR hK t)
  have HX2 : Hid (RX w (layT u t) p X l g) := Lib.hid (HX1.out.lay _)
  clear hR hK
  obtain ⟨x0, x1, x2⟩ := HL.out.2.2.1.cells
  rcases HC.out with c1 | ⟨c1, c2⟩
  all_goals
    go_wp2_with (go_at_call 62; refine (HSK.out _ HX2.out.r.tab).mono ?_; rintro e u9 ⟨rfl, rfl⟩)
    refine (HAt.out _ HX2.out.r).mono ?_
    rintro e v0 ⟨rfl, hR, hK⟩
    have H0 := Lib.hid (HX2.out.call hR hK)
    clear hR hK x0 x1 x2
    go_wp2_with fail
    refine (take_no H0.out.r [91] S91.out).mono ?_
    rintro e v1 ⟨rfl, hR, hK⟩
    have H1 := Lib.hid (H0.out.call hR hK)
    clear hR hK
    go_wp2_with fail
    refine (take_no H1.out.r [61] S61.out).mono ?_
    rintro e v2 ⟨rfl, hR, hK⟩
    have H2 := Lib.hid (H1.out.call hR hK)
    clear hR hK
    go_wp2_with fail
    refine (take_eq H2.out.r HHl.out [35] HS.out).mono ?_
    rintro e vy ⟨rfl, hR, hK⟩
    have HY := Lib.hid (H2.out.call hR hK)
    clear hR hK
    go_wp2_with fail
    refine (take_no HY.out.r [58] HS2.out).mono ?_
    rintro e vy2 ⟨rfl, hR, hK⟩
    have HY2 := Lib.hid (HY.out.call hR hK)
    clear hR hK
    go_wp2_with fail
    refine (number_ok HY2.out.r HNu.out).mono ?_
    rintro e vz ⟨rfl, hR, hK⟩
    have HZ1 := Lib.hid (HY2.out.call hR hK)
    clear hR hK
    go_wp2_with fail
    refine (opnd_number m v _).mono ?_
    rintro e vz2 ⟨rfl, hB⟩
    have HZ2 := Lib.hid (HZ1.out.next hB)
    clear hB
    obtain ⟨x0, x1, x2, x3, x4, x5, x6, x7, x8⟩ := HZ2.out.facts
    have xf0 := x7 0
    have xf1 := x7 1
    have xf2 := x7 2
    have xf3 := x7 3
    have xf4 := x7 4
    have xf5 := x7 5
    have xf6 := x7 6
    have HQ := Lib.hid (HZ2.out.done ⟨2, 0, false, m, v, [], 0⟩)
    go_wp2
    refine bodyPost_ret (results_cell_row (P := Tryz.prog) rfl _ _ X 38 _ (0, 0) _ rfl HQ.out.2.2 Tryz.underlying38 rfl (by kernel_rfl)) rfl ?_
    exact ⟨rfl, HQ.out.1, HQ.out.2.1⟩
set_option maxRecDepth 100000 in
set_option maxHeartbeats 4000000 in
theorem op_hash_num_no {w : World} {p : Nat} {l : List Ti} {g : Bool} {t : Ti} {l2 : List Ti} (h : RR w p l g) (ht : nextT l = t) (hc : (t.kind == 1) = false ∨ (t.kind == 1) = true ∧ shiftL t.text < 0) (hrg : isRg (nextT l) = false) (s91 : isSg [91] (nextT l) = false) (s61 : isSg [61] (nextT l) = false) (hl : l = t :: l2) (hs : isSg [35] t = true) (hs2 : isSg [58] (nextT l2) = false) (hn : numberP l2 = none) :
    Calls Tryz.prog 32 #[.pointer (some ⟨p, 0, none⟩)] w (Thr p w) := by
  have HC := Lib.hid hc
  have HAt : Hid (∀ u, RR u p l g → Calls Tryz.prog 65 #[.pointer (some ⟨p, 0, none⟩)] u (Did (.bool false) p l g u)) := Lib.hid fun u hu => by have := atReg_any hu; rwa [hrg] at this
  clear hc hrg
  have HHl := Lib.hid hl
  clear hl
  have S91 := Lib.hid s91
  clear s91
  have S61 := Lib.hid s61
  clear s61
  have HS := Lib.hid hs
  clear hs
  have HS2 := Lib.hid hs2
  clear hs2
  have HNu := Lib.hid hn
  clear hn
  have h0 := Lib.hid (RX.mk0 h)
  have HZ := zeroOpnd
  have HMs := meth_sym
  have HMn := meth_num
  have HN : Hid (∀ u, RR u p l g → Calls Tryz.prog 61 #[.pointer (some ⟨p, 0, none⟩)] u (Did (.agg #[.int .i64 t.kind, .string ⟨t.text.toArray⟩, .int .u64 t.v]) p l g u)) := Lib.hid fun u hu => by have := next_r hu; rwa [ht] at this
  have HSK : Hid (∀ u, TabO u → Calls Tryz.prog 62 #[.string ⟨t.text.toArray⟩] u (Ret (.int .i64 (shiftL t.text)) u)) := Lib.hid fun u hu => by
    have := shiftKind_any ⟨t.text.toArray⟩ u hu.2.2
    rwa [show (⟨t.text.toArray⟩ : ByteArray).data.toList = t.text by simp] at this
  obtain ⟨X, hX⟩ : ∃ X, X = w.heap.size := ⟨_, rfl⟩
  rw [← hX] at h0
  clear h ht
  generalize shiftL t.text = sk at HSK HC
  go_enter Tryz.func32, Tryz.ntmps32
  go_wp2_with fail
  rw [← hX]
  clear hX
  generalize w.alloc (.cells ozC 38) = W0 at h0 ⊢
  refine (HN.out _ h0.out.r).mono ?_
  rintro e u ⟨rfl, hR, hK⟩
  have HX1 := Lib.hid (h0.out.call hR hK)
  have HL := Lib.hid (lay_t hR hK t)
  have HX2 : Hid (RX w (layT u t) p X l g) := Lib.hid (HX1.out.lay _)
  clear hR hK
  obtain ⟨x0, x1, x2⟩ := HL.out.2.2.1.cells
  rcases HC.out with c1 | ⟨c1, c2⟩
  all_goals
    go_wp2_with (go_at_call 62; refine (HSK.out _ HX2.out.r.tab).mono ?_; rintro e u9 ⟨rfl, rfl⟩)
    refine (HAt.out _ HX2.out.r).mono ?_
    rintro e v0 ⟨rfl, hR, hK⟩
    have H0 := Lib.hid (HX2.out.call hR hK)
    clear hR hK x0 x1 x2
    go_wp2_with fail
    refine (take_no H0.out.r [91] S91.out).mono ?_
    rintro e v1 ⟨rfl, hR, hK⟩
    have H1 := Lib.hid (H0.out.call hR hK)
    clear hR hK
    go_wp2_with fail
    refine (take_no H1.out.r [61] S61.out).mono ?_
    rintro e v2 ⟨rfl, hR, hK⟩
    have H2 := Lib.hid (H1.out.call hR hK)
    clear hR hK
    go_wp2_with fail
    refine (take_eq H2.out.r HHl.out [35] HS.out).mono ?_
    rintro e vy ⟨rfl, hR, hK⟩
    have HY := Lib.hid (H2.out.call hR hK)
    clear hR hK
    go_wp2_with fail
    refine (take_no HY.out.r [58] HS2.out).mono ?_
    rintro e vy2 ⟨rfl, hR, hK⟩
    have HY2 := Lib.hid (HY.out.call hR hK)
    clear hR hK
    go_wp2_with fail
    refine (number_no HY2.out.r HNu.out).mono ?_
    rintro e vz ⟨rfl, hK⟩
    exact ⟨rfl, rfl, KP.trans' HY2.out.k hK⟩
set_option maxRecDepth 100000 in
set_option maxHeartbeats 4000000 in
theorem op_eq_sym {w : World} {p : Nat} {l : List Ti} {g : Bool} {t : Ti} {l2 r : List Ti} {g1 : Bool} {s : List UInt8} {a : Int} (h : RR w p l g) (ht : nextT l = t) (hc : (t.kind == 1) = false ∨ (t.kind == 1) = true ∧ shiftL t.text < 0) (hrg : isRg (nextT l) = false) (s91 : isSg [91] (nextT l) = false) (hl : l = t :: l2) (hs : isSg [61] t = true) (he : exprP l2 = some (⟨3, 0, false, false, 0, s, a⟩, r, g1)) :
    Calls Tryz.prog 32 #[.pointer (some ⟨p, 0, none⟩)] w (Did (poV ⟨5, 0, false, false, 0, s, a⟩) p r (g || g1) w) := by
  have HC := Lib.hid hc
  have HAt : Hid (∀ u, RR u p l g → Calls Tryz.prog 65 #[.pointer (some ⟨p, 0, none⟩)] u (Did (.bool false) p l g u)) := Lib.hid fun u hu => by have := atReg_any hu; rwa [hrg] at this
  clear hc hrg
  have HHl := Lib.hid hl
  clear hl
  have S91 := Lib.hid s91
  clear s91
  have HS := Lib.hid hs
  clear hs
  have HE : Hid (∀ u g, RR u p l2 g → Calls Tryz.prog 68 #[.pointer (some ⟨p, 0, none⟩)] u (Did (.iface 141 (.agg #[.string ⟨s.toArray⟩, .int .i64 a])) p r (g || g1) u)) := Lib.hid fun u g hu => expr_ok hu he
  clear he
  have h0 := Lib.hid (RX.mk0 h)
  have HZ := zeroOpnd
  have HMs := meth_sym
  have HMn := meth_num
  have HN : Hid (∀ u, RR u p l g → Calls Tryz.prog 61 #[.pointer (some ⟨p, 0, none⟩)] u (Did (.agg #[.int .i64 t.kind, .string ⟨t.text.toArray⟩, .int .u64 t.v]) p l g u)) := Lib.hid fun u hu => by have := next_r hu; rwa [ht] at this
  have HSK : Hid (∀ u, TabO u → Calls Tryz.prog 62 #[.string ⟨t.text.toArray⟩] u (Ret (.int .i64 (shiftL t.text)) u)) := Lib.hid fun u hu => by
    have := shiftKind_any ⟨t.text.toArray⟩ u hu.2.2
    rwa [show (⟨t.text.toArray⟩ : ByteArray).data.toList = t.text by simp] at this
  obtain ⟨X, hX⟩ : ∃ X, X = w.heap.size := ⟨_, rfl⟩
  rw [← hX] at h0
  clear h ht
  generalize shiftL t.text = sk at HSK HC
  go_enter Tryz.func32, Tryz.ntmps32
  go_wp2_with fail
  rw [← hX]
  clear hX
  generalize w.alloc (.cells ozC 38) = W0 at h0 ⊢
  refine (HN.out _ h0.out.r).mono ?_
  rintro e u ⟨rfl, hR, hK⟩
  have HX1 := Lib.hid (h0.out.call hR hK)
  have HL := Lib.hid (lay_t hR hK t)
  have HX2 : Hid (RX w (layT u t) p X l g) := Lib.hid (HX1.out.lay _)
  clear hR hK
  obtain ⟨x0, x1, x2⟩ := HL.out.2.2.1.cells
  rcases HC.out with c1 | ⟨c1, c2⟩
  all_goals
    go_wp2_with (go_at_call 62; refine (HSK.out _ HX2.out.r.tab).mono ?_; rintro e u9 ⟨rfl, rfl⟩)
    refine (HAt.out _ HX2.out.r).mono ?_
    rintro e v0 ⟨rfl, hR, hK⟩
    have H0 := Lib.hid (HX2.out.call hR hK)
    clear hR hK x0 x1 x2
    go_wp2_with fail
    refine (take_no H0.out.r [91] S91.out).mono ?_
    rintro e v1 ⟨rfl, hR, hK⟩
    have H1 := Lib.hid (H0.out.call hR hK)
    clear hR hK
    go_wp2_with fail
    refine (take_eq H1.out.r HHl.out [61] HS.out).mono ?_
    rintro e vy ⟨rfl, hR, hK⟩
    have HY := Lib.hid (H1.out.call hR hK)
    clear hR hK
    go_wp2_with fail
    refine (HE.out _ _ HY.out.r).mono ?_
    rintro e vz ⟨rfl, hR, hK⟩
    have HZ1 := Lib.hid (HY.out.call hR hK)
    clear hR hK
    go_wp2_with fail
    refine (opnd_symbol s a _).mono ?_
    rintro e vz2 ⟨rfl, hB⟩
    have HZ2 := Lib.hid (HZ1.out.next hB)
    clear hB
    obtain ⟨q1, q2⟩ := HZ2.out.turn ⟨5, 0, false, false, 0, s, a⟩
    have HZ3 := Lib.hid q1
    obtain ⟨b0, b1, b2, b3, b4, b5, b6, b7, b8⟩ := q2.seven
    clear q1 q2
    obtain ⟨x0, x1, x2, x3, x4, x5, x6, x7, x8⟩ := HZ3.out.facts
    have xf0 := x7 0
    have xf1 := x7 1
    have xf2 := x7 2
    have xf3 := x7 3
    have xf4 := x7 4
    have xf5 := x7 5
    have xf6 := x7 6
    have HQ := Lib.hid (HZ3.out.done ⟨5, 0, false, false, 0, s, a⟩)
    go_wp2
    refine bodyPost_ret (results_cell_row (P := Tryz.prog) rfl _ _ X 38 _ (0, 0) _ rfl HQ.out.2.2 Tryz.underlying38 rfl (by kernel_rfl)) rfl ?_
    exact ⟨rfl, HQ.out.1, HQ.out.2.1⟩
set_option maxRecDepth 100000 in
set_option maxHeartbeats 4000000 in
theorem op_eq_num {w : World} {p : Nat} {l : List Ti} {g : Bool} {t : Ti} {l2 r : List Ti} {g1 m : Bool} {v : Int} (h : RR w p l g) (ht : nextT l = t) (hc : (t.kind == 1) = false ∨ (t.kind == 1) = true ∧ shiftL t.text < 0) (hrg : isRg (nextT l) = false) (s91 : isSg [91] (nextT l) = false) (hl : l = t :: l2) (hs : isSg [61] t = true) (he : exprP l2 = some (⟨2, 0, false, m, v, [], 0⟩, r, g1)) :
    Calls Tryz.prog 32 #[.pointer (some ⟨p, 0, none⟩)] w (Did (poV ⟨5, 0, false, m, v, [], 0⟩) p r (g || g1) w) := by
  have HC := Lib.hid hc
  have HAt : Hid (∀ u, RR u p l g → Calls Tryz.prog 65 #[.pointer (some ⟨p, 0, none⟩)] u (Did (.bool false) p l g u)) := Lib.hid fun u hu => by have := atReg_any hu; rwa [hrg] at this
  clear hc hrg
  have HHl := Lib.hid hl
  clear hl
  have S91 := Lib.hid s91
  clear s91
  have HS := Lib.hid hs
  clear hs
  have HE : Hid (∀ u g, RR u p l2 g → Calls Tryz.prog 68 #[.pointer (some ⟨p, 0, none⟩)] u (Did (.iface 107 (.agg #[.bool m, .int .u64 v])) p r (g || g1) u)) := Lib.hid fun u g hu => expr_ok hu he
  clear he
  have h0 := Lib.hid (RX.mk0 h)
  have HZ := zeroOpnd
  have HMs := meth_sym
  have HMn := meth_num
  have HN : Hid (∀ u, RR u p l g → Calls Tryz.prog 61 #[.pointer (some ⟨p, 0, none⟩)] u (Did (.agg #[.int .i64 t.kind, .string ⟨t.text.toArray⟩, .int .u64 t.v]) p l g u)) := Lib.hid fun u hu => by have := next_r hu; rwa [ht] at this
  have HSK : Hid (∀ u, TabO u → Calls Tryz.prog 62 #[.string ⟨t.text.toArray⟩] u (Ret (.int .i64 (shiftL t.text)) u)) := Lib.hid fun u hu => by
    have := shiftKind_any ⟨t.text.toArray⟩ u hu.2.2
    rwa [show (⟨t.text.toArray⟩ : ByteArray).data.toList = t.text by simp] at this
  obtain ⟨X, hX⟩ : ∃ X, X = w.heap.size := ⟨_, rfl⟩
  rw [← hX] at h0
  clear h ht
  generalize shiftL t.text = sk at HSK HC
  go_enter Tryz.func32, Tryz.ntmps32
  go_wp2_with fail
  rw [← hX]
  clear hX
  generalize w.alloc (.cells ozC 38) = W0 at h0 ⊢
  refine (HN.out _ h0.out.r).mono ?_
  rintro e u ⟨rfl, hR, hK⟩
  have HX1 := Lib.hid (h0.out.call hR hK)
  have HL := Lib.hid (lay_t hR hK t)
  have HX2 : Hid (RX w (layT u t) p X l g) := Lib.hid (HX1.out.lay _)
  clear hR hK
  obtain ⟨x0, x1, x2⟩ := HL.out.2.2.1.cells
  rcases HC.out with c1 | ⟨c1, c2⟩
  all_goals
    go_wp2_with (go_at_call 62; refine (HSK.out _ HX2.out.r.tab).mono ?_; rintro e u9 ⟨rfl, rfl⟩)
    refine (HAt.out _ HX2.out.r).mono ?_
    rintro e v0 ⟨rfl, hR, hK⟩
    have H0 := Lib.hid (HX2.out.call hR hK)
    clear hR hK x0 x1 x2
    go_wp2_with fail
    refine (take_no H0.out.r [91] S91.out).mono ?_
    rintro e v1 ⟨rfl, hR, hK⟩
    have H1 := Lib.hid (H0.out.call hR hK)
    clear hR hK
    go_wp2_with fail
    refine (take_eq H1.out.r HHl.out [61] HS.out).mono ?_
    rintro e vy ⟨rfl, hR, hK⟩
    have HY := Lib.hid (H1.out.call hR hK)
    clear hR hK
    go_wp2_with fail
    refine (HE.out _ _ HY.out.r).mono ?_
    rintro e vz ⟨rfl, hR, hK⟩
    have HZ1 := Lib.hid (HY.out.call hR hK)
    clear hR hK
    go_wp2_with fail
    refine (opnd_number m v _).mono ?_
    rintro e vz2 ⟨rfl, hB⟩
    have HZ2 := Lib.hid (HZ1.out.next hB)
    clear hB
    obtain ⟨q1, q2⟩ := HZ2.out.turn ⟨5, 0, false, m, v, [], 0⟩
    have HZ3 := Lib.hid q1
    obtain ⟨b0, b1, b2, b3, b4, b5, b6, b7, b8⟩ := q2.seven
    clear q1 q2
    obtain ⟨x0, x1, x2, x3, x4, x5, x6, x7, x8⟩ := HZ3.out.facts
    have xf0 := x7 0
    have xf1 := x7 1
    have xf2 := x7 2
    have xf3 := x7 3
    have xf4 := x7 4
    have xf5 := x7 5
    have xf6 := x7 6
    have HQ := Lib.hid (HZ3.out.done ⟨5, 0, false, m, v, [], 0⟩)
    go_wp2
    refine bodyPost_ret (results_cell_row (P := Tryz.prog) rfl _ _ X 38 _ (0, 0) _ rfl HQ.out.2.2 Tryz.underlying38 rfl (by kernel_rfl)) rfl ?_
    exact ⟨rfl, HQ.out.1, HQ.out.2.1⟩
set_option maxRecDepth 100000 in
set_option maxHeartbeats 4000000 in
theorem op_eq_no {w : World} {p : Nat} {l : List Ti} {g : Bool} {t : Ti} {l2 : List Ti} (h : RR w p l g) (ht : nextT l = t) (hc : (t.kind == 1) = false ∨ (t.kind == 1) = true ∧ shiftL t.text < 0) (hrg : isRg (nextT l) = false) (s91 : isSg [91] (nextT l) = false) (hl : l = t :: l2) (hs : isSg [61] t = true) (he : exprP l2 = none) :
    Calls Tryz.prog 32 #[.pointer (some ⟨p, 0, none⟩)] w (Thr p w) := by
  have HC := Lib.hid hc
  have HAt : Hid (∀ u, RR u p l g → Calls Tryz.prog 65 #[.pointer (some ⟨p, 0, none⟩)] u (Did (.bool false) p l g u)) := Lib.hid fun u hu => by have := atReg_any hu; rwa [hrg] at this
  clear hc hrg
  have HHl := Lib.hid hl
  clear hl
  have S91 := Lib.hid s91
  clear s91
  have HS := Lib.hid hs
  clear hs
  have HE := Lib.hid he
  clear he
  have h0 := Lib.hid (RX.mk0 h)
  have HZ := zeroOpnd
  have HMs := meth_sym
  have HMn := meth_num
  have HN : Hid (∀ u, RR u p l g → Calls Tryz.prog 61 #[.pointer (some ⟨p, 0, none⟩)] u (Did (.agg #[.int .i64 t.kind, .string ⟨t.text.toArray⟩, .int .u64 t.v]) p l g u)) := Lib.hid fun u hu => by have := next_r hu; rwa [ht] at this
  have HSK : Hid (∀ u, TabO u → Calls Tryz.prog 62 #[.string ⟨t.text.toArray⟩] u (Ret (.int .i64 (shiftL t.text)) u)) := Lib.hid fun u hu => by
    have := shiftKind_any ⟨t.text.toArray⟩ u hu.2.2
    rwa [show (⟨t.text.toArray⟩ : ByteArray).data.toList = t.text by simp] at this
  obtain ⟨X, hX⟩ : ∃ X, X = w.heap.size := ⟨_, rfl⟩
  rw [← hX] at h0
  clear h ht
  generalize shiftL t.text = sk at HSK HC
  go_enter Tryz.func32, Tryz.ntmps32
  go_wp2_with fail
  rw [← hX]
  clear hX
  generalize w.alloc (.cells ozC 38) = W0 at h0 ⊢
  refine (HN.out _ h0.out.r).mono ?_
  rintro e u ⟨rfl, hR, hK⟩
  have HX1 := Lib.hid (h0.out.call hR hK)
  have HL := Lib.hid (lay_t hR hK t)
  have HX2 : Hid (RX w (layT u t) p X l g) := Lib.hid (HX1.out.lay _)
  clear hR hK
  obtain ⟨x0, x1, x2⟩ := HL.out.2.2.1.cells
  rcases HC.out with c1 | ⟨c1, c2⟩
  all_goals
    go_wp2_with (go_at_call 62; refine (HSK.out _ HX2.out.r.tab).mono ?_; rintro e u9 ⟨rfl, rfl⟩)
    refine (HAt.out _ HX2.out.r).mono ?_
    rintro e v0 ⟨rfl, hR, hK⟩
    have H0 := Lib.hid (HX2.out.call hR hK)
    clear hR hK x0 x1 x2
    go_wp2_with fail
    refine (take_no H0.out.r [91] S91.out).mono ?_
    rintro e v1 ⟨rfl, hR, hK⟩
    have H1 := Lib.hid (H0.out.call hR hK)
    clear hR hK
    go_wp2_with fail
    refine (take_eq H1.out.r HHl.out [61] HS.out).mono ?_
    rintro e vy ⟨rfl, hR, hK⟩
    have HY := Lib.hid (H1.out.call hR hK)
    clear hR hK
    go_wp2_with fail
    refine (expr_no HY.out.r HE.out).mono ?_
    rintro e vz ⟨rfl, hK⟩
    exact ⟨rfl, rfl, KP.trans' HY.out.k hK⟩
set_option maxRecDepth 100000 in
set_option maxHeartbeats 4000000 in
theorem op_reg {w : World} {p : Nat} {l : List Ti} {g : Bool} {t : Ti} {r : List Ti} {g1 rs : Bool} {rn : Int} (h : RR w p l g) (ht : nextT l = t) (hc : (t.kind == 1) = false ∨ (t.kind == 1) = true ∧ shiftL t.text < 0) (hrg : isRg (nextT l) = true) (hreg : regP l = some ((rn, rs), r, g1)) :
    Calls Tryz.prog 32 #[.pointer (some ⟨p, 0, none⟩)] w (Did (poV ⟨1, rn, rs, false, 0, [], 0⟩) p r (g || g1) w) := by
  have HC := Lib.hid hc
  have HAt : Hid (∀ u, RR u p l g → Calls Tryz.prog 65 #[.pointer (some ⟨p, 0, none⟩)] u (Did (.bool true) p l g u)) := Lib.hid fun u hu => by have := atReg_any hu; rwa [hrg] at this
  clear hc hrg
  have HReg : Hid (∀ u g, RR u p l g → Calls Tryz.prog 66 #[.pointer (some ⟨p, 0, none⟩)] u (Did (.tuple #[.int .i64 rn, .bool rs]) p r (g || g1) u)) := Lib.hid fun u g hu => reg_ok hu hreg
  clear hreg
  have h0 := Lib.hid (RX.mk0 h)
  have HZ := zeroOpnd
  have HMs := meth_sym
  have HMn := meth_num
  have HN : Hid (∀ u, RR u p l g → Calls Tryz.prog 61 #[.pointer (some ⟨p, 0, none⟩)] u (Did (.agg #[.int .i64 t.kind, .string ⟨t.text.toArray⟩, .int .u64 t.v]) p l g u)) := Lib.hid fun u hu => by have := next_r hu; rwa [ht] at this
  have HSK : Hid (∀ u, TabO u → Calls Tryz.prog 62 #[.string ⟨t.text.toArray⟩] u (Ret (.int .i64 (shiftL t.text)) u)) := Lib.hid fun u hu => by
    have := shiftKind_any ⟨t.text.toArray⟩ u hu.2.2
    rwa [show (⟨t.text.toArray⟩ : ByteArray).data.toList = t.text by simp] at this
  obtain ⟨X, hX⟩ : ∃ X, X = w.heap.size := ⟨_, rfl⟩
  rw [← hX] at h0
  clear h ht
  generalize shiftL t.text = sk at HSK HC
  go_enter Tryz.func32, Tryz.ntmps32
  go_wp2_with fail
  rw [← hX]
  clear hX
  generalize w.alloc (.cells ozC 38) = W0 at h0 ⊢
  refine (HN.out _ h0.out.r).mono ?_
  rintro e u ⟨rfl, hR, hK⟩
  have HX1 := Lib.hid (h0.out.call hR hK)
  have HL := Lib.hid (lay_t hR hK t)
  have HX2 : Hid (RX w (layT u t) p X l g) := Lib.hid (HX1.out.lay _)
  clear hR hK
  obtain ⟨x0, x1, x2⟩ := HL.out.2.2.1.cells
  rcases HC.out with c1 | ⟨c1, c2⟩
  all_goals
    go_wp2_with (go_at_call 62; refine (HSK.out _ HX2.out.r.tab).mono ?_; rintro e u9 ⟨rfl, rfl⟩)
    refine (HAt.out _ HX2.out.r).mono ?_
    rintro e v0 ⟨rfl, hR, hK⟩
    have H0 := Lib.hid (HX2.out.call hR hK)
    clear hR hK x0 x1 x2
    go_wp2_with fail
    refine (HReg.out _ _ H0.out.r).mono ?_
    rintro e vr ⟨rfl, hR, hK⟩
    have HR := Lib.hid (H0.out.call hR hK)
    clear hR hK
    obtain ⟨x0, x1, x2, x3, x4, x5, x6, x7, x8⟩ := HR.out.facts
    have xf0 := x7 0
    have xf1 := x7 1
    have xf2 := x7 2
    have xf3 := x7 3
    have xf4 := x7 4
    have xf5 := x7 5
    have xf6 := x7 6
    have HQ := Lib.hid (HR.out.done ⟨1, rn, rs, false, 0, [], 0⟩)
    go_wp2
    refine bodyPost_ret (results_cell_row (P := Tryz.prog) rfl _ _ X 38 _ (0, 0) _ rfl HQ.out.2.2 Tryz.underlying38 rfl (by kernel_rfl)) rfl ?_
    exact ⟨rfl, HQ.out.1, HQ.out.2.1⟩
set_option maxRecDepth 100000 in
set_option maxHeartbeats 4000000 in
theorem op_shift_ok {w : World} {p : Nat} {l : List Ti} {g : Bool} {t : Ti} {l2 l3 r : List Ti} {g1 g2 m : Bool} {v : Int} (h : RR w p l g) (ht : nextT l = t) (hl : l = t :: l2) (hc : (t.kind == 1) = true ∧ 0 ≤ shiftL t.text) (h35 : takeP [35] l2 = some (m, l3, g1)) (hp : plainP l3 = some (v, r, g2)) :
    Calls Tryz.prog 32 #[.pointer (some ⟨p, 0, none⟩)] w (Did (poV ⟨7, shiftL t.text, false, false, v, [], 0⟩) p r ((g || g1) || g2) w) := by
  have HC := Lib.hid hc
  clear hc
  have H35 := Lib.hid h35
  clear h35
  have HP := Lib.hid hp
  clear hp
  have h0 := Lib.hid (RX.mk0 h)
  have HZ := zeroOpnd
  have HMs := meth_sym
  have HMn := meth_num
  have HN : Hid (∀ u, RR u p l g → Calls Tryz.prog 61 #[.pointer (some ⟨p, 0, none⟩)] u (Did (.agg #[.int .i64 t.kind, .string ⟨t.text.toArray⟩, .int .u64 t.v]) p l g u)) := Lib.hid fun u hu => by have := next_r hu; rwa [ht] at this
  have HSK : Hid (∀ u, TabO u → Calls Tryz.prog 62 #[.string ⟨t.text.toArray⟩] u (Ret (.int .i64 (shiftL t.text)) u)) := Lib.hid fun u hu => by
    have := shiftKind_any ⟨t.text.toArray⟩ u hu.2.2
    rwa [show (⟨t.text.toArray⟩ : ByteArray).data.toList = t.text by simp] at this
  obtain ⟨X, hX⟩ : ∃ X, X = w.heap.size := ⟨_, rfl⟩
  rw [← hX] at h0
  clear h ht
  generalize shiftL t.text = sk at HSK HC
  go_enter Tryz.func32, Tryz.ntmps32
  go_wp2_with fail
  rw [← hX]
  clear hX
  generalize w.alloc (.cells ozC 38) = W0 at h0 ⊢
  refine (HN.out _ h0.out.r).mono ?_
  rintro e u ⟨rfl, hR, hK⟩
  have HX1 := Lib.hid (h0.out.call hR hK)
  have HL := Lib.hid (lay_t hR hK t)
  have HX2 : Hid (RX w (layT u t) p X l g) := Lib.hid (HX1.out.lay _)
  clear hR hK
  obtain ⟨x0, x1, x2⟩ := HL.out.2.2.1.cells
  subst hl
  obtain ⟨c1, c2⟩ := HC.out
  obtain ⟨k, mm, k1, k2, k3, HSt⟩ := HX2.out.step
  have HSt := Lib.hid HSt
  have HT := Lib.hid (HL.out.2.2.1.set (o := 1) HL.out.2.2.2 (.int .i64 (mm : Int)))
  have HNE := Lib.hid HL.out.2.2.2
  go_wp2_with (go_at_call 62; refine (HSK.out _ HX2.out.r.tab).mono ?_; rintro e u9 ⟨rfl, rfl⟩)
  refine (take_any HSt.out.r [35] H35.out).mono ?_
  rintro e v1 ⟨rfl, hR, hK⟩
  have HS1 := Lib.hid (HSt.out.call hR hK)
  have HT1 := Lib.hid (HT.out.kept hK HNE.out)
  clear hR hK x0 x1 x2
  obtain ⟨x0, x1, x2⟩ := HT1.out.cells
  go_wp2_with (go_at_call 62; refine (HSK.out _ HS1.out.r.tab).mono ?_; rintro e u9 ⟨rfl, rfl⟩)
  refine (plain_ok HS1.out.r HP.out).mono ?_
  rintro e v2 ⟨rfl, hR, hK⟩
  have HS2 := Lib.hid (HS1.out.call hR hK)
  clear hR hK
  obtain ⟨x0, x1, x2, x3, x4, x5, x6, x7, x8⟩ := HS2.out.facts
  have xf0 := x7 0
  have xf1 := x7 1
  have xf2 := x7 2
  have xf3 := x7 3
  have xf4 := x7 4
  have xf5 := x7 5
  have xf6 := x7 6
  have HQ := Lib.hid (HS2.out.done ⟨7, sk, false, false, v, [], 0⟩)
  go_wp2
  refine bodyPost_ret (results_cell_row (P := Tryz.prog) rfl _ _ X 38 _ (0, 0) _ rfl HQ.out.2.2 Tryz.underlying38 rfl (by kernel_rfl)) rfl ?_
  exact ⟨rfl, HQ.out.1, HQ.out.2.1⟩
set_option maxRecDepth 100000 in
set_option maxHeartbeats 4000000 in
theorem op_shift_no {w : World} {p : Nat} {l : List Ti} {g : Bool} {t : Ti} {l2 l3 : List Ti} {g1 m : Bool} (h : RR w p l g) (ht : nextT l = t) (hl : l = t :: l2) (hc : (t.kind == 1) = true ∧ 0 ≤ shiftL t.text) (h35 : takeP [35] l2 = some (m, l3, g1)) (hp : plainP l3 = none) :
    Calls Tryz.prog 32 #[.pointer (some ⟨p, 0, none⟩)] w (Thr p w) := by
  have HC := Lib.hid hc
  clear hc
  have H35 := Lib.hid h35
  clear h35
  have HP := Lib.hid hp
  clear hp
  have h0 := Lib.hid (RX.mk0 h)
  have HZ := zeroOpnd
  have HMs := meth_sym
  have HMn := meth_num
  have HN : Hid (∀ u, RR u p l g → Calls Tryz.prog 61 #[.pointer (some ⟨p, 0, none⟩)] u (Did (.agg #[.int .i64 t.kind, .string ⟨t.text.toArray⟩, .int .u64 t.v]) p l g u)) := Lib.hid fun u hu => by have := next_r hu; rwa [ht] at this
  have HSK : Hid (∀ u, TabO u → Calls Tryz.prog 62 #[.string ⟨t.text.toArray⟩] u (Ret (.int .i64 (shiftL t.text)) u)) := Lib.hid fun u hu => by
    have := shiftKind_any ⟨t.text.toArray⟩ u hu.2.2
    rwa [show (⟨t.text.toArray⟩ : ByteArray).data.toList = t.text by simp] at this
  obtain ⟨X, hX⟩ : ∃ X, X = w.heap.size := ⟨_, rfl⟩
  rw [← hX] at h0
  clear h ht
  generalize shiftL t.text = sk at HSK HC
  go_enter Tryz.func32, Tryz.ntmps32
  go_wp2_with fail
  rw [← hX]
  clear hX
  generalize w.alloc (.cells ozC 38) = W0 at h0 ⊢
  refine (HN.out _ h0.out.r).mono ?_
  rintro e u ⟨rfl, hR, hK⟩
  have HX1 := Lib.hid (h0.out.call hR hK)
  have HL := Lib.hid (lay_t hR hK t)
  have HX2 : Hid (RX w (layT u t) p X l g) := Lib.hid (HX1.out.lay _)
  clear hR hK
  obtain ⟨x0, x1, x2⟩ := HL.out.2.2.1.cells
  subst hl
  obtain ⟨c1, c2⟩ := HC.out
  obtain ⟨k, mm, k1, k2, k3, HSt⟩ := HX2.out.step
  have HSt := Lib.hid HSt
  have HT := Lib.hid (HL.out.2.2.1.set (o := 1) HL.out.2.2.2 (.int .i64 (mm : Int)))
  have HNE := Lib.hid HL.out.2.2.2
  go_wp2_with (go_at_call 62; refine (HSK.out _ HX2.out.r.tab).mono ?_; rintro e u9 ⟨rfl, rfl⟩)
  refine (take_any HSt.out.r [35] H35.out).mono ?_
  rintro e v1 ⟨rfl, hR, hK⟩
  have HS1 := Lib.hid (HSt.out.call hR hK)
  have HT1 := Lib.hid (HT.out.kept hK HNE.out)
  clear hR hK x0 x1 x2
  obtain ⟨x0, x1, x2⟩ := HT1.out.cells
  go_wp2_with (go_at_call 62; refine (HSK.out _ HS1.out.r.tab).mono ?_; rintro e u9 ⟨rfl, rfl⟩)
  refine (plain_no HS1.out.r HP.out).mono ?_
  rintro e v2 ⟨rfl, hK⟩
  exact ⟨rfl, rfl, KP.trans' HS1.out.k hK⟩
open Go.ChangeShapes Go.WideShapes Go.Deep Go.RowKit

theorem sh_no {t : Ti} (h : isSh t = false) : (t.kind == 1) = false ∨ (t.kind == 1) = true ∧ shiftL t.text < 0 := by
  unfold isSh at h
  cases c : (t.kind == 1) with
  | false => exact .inl rfl
  | true => rw [c] at h; exact .inr ⟨rfl, by simpa using h⟩
theorem sh_yes {t : Ti} (h : isSh t = true) : (t.kind == 1) = true ∧ 0 ≤ shiftL t.text := by
  unfold isSh at h
  rw [Bool.and_eq_true] at h
  exact ⟨h.1, by simpa using h.2⟩
theorem one_cons {α : Type} {q : Ti → Option (α × Bool)} {l r : List Ti} {a : α} {g : Bool} (h : oneP q l = some (a, r, g)) : l = nextT l :: r := by
  obtain ⟨t, rfl, -⟩ := one_some h; rfl
theorem b2 {a : Bool} (h : ¬ a = true) : a = false := by simpa using h
set_option maxHeartbeats 1000000 in
theorem oper_ok {w : World} {p : Nat} {l r : List Ti} {g g' : Bool} {o : Po} (h : RR w p l g) (hd : operP l = some (o, r, g')) :
    Calls Tryz.prog 32 #[.pointer (some ⟨p, 0, none⟩)] w (Did (poV o) p r (g || g') w) := by
  unfold operP ifP at hd
  by_cases c1 : isSh (nextT l) = true
  · rw [if_pos c1] at hd
    obtain ⟨k, r1, g1, g2, e1, hd2, rfl⟩ := bind_some hd
    obtain ⟨m, r2, g3, g4, e2, hd3, rfl⟩ := bind_some hd2
    obtain ⟨v, r3, g5, g6, e3, hd4, rfl⟩ := bind_some hd3
    obtain ⟨rfl, rfl, rfl⟩ := pure_some hd4
    have hl := one_cons e1
    obtain ⟨t, rfl, e⟩ := one_some e1
    cases e
    rw [show (g || (false || (g3 || (g5 || false)))) = ((g || g3) || g5) by cases g <;> cases g3 <;> cases g5 <;> rfl]
    exact op_shift_ok h rfl rfl (sh_yes c1) e2 e3
  rw [if_neg c1] at hd
  have hc := sh_no (b2 c1)
  by_cases c2 : isRg (nextT l) = true
  · rw [if_pos c2] at hd
    obtain ⟨⟨rn, rs⟩, r1, g1, g2, e1, hd2, rfl⟩ := bind_some hd
    obtain ⟨rfl, rfl, rfl⟩ := pure_some hd2
    rw [Bool.or_false]
    exact op_reg h rfl hc c2 e1
  rw [if_neg c2] at hd
  replace c2 := b2 c2
  by_cases c3 : isSg [91] (nextT l) = true
  · rw [if_pos c3] at hd
    obtain ⟨x, r1, g1, g2, e1, hd2, rfl⟩ := bind_some hd
    obtain ⟨t, r0, rfl, hs⟩ := sg_cons c3
    obtain ⟨rfl, rfl⟩ := want_sg hs e1
    rw [Bool.false_or]
    exact op_mem_ok h rfl hc c2 rfl hs hd2
  rw [if_neg c3] at hd
  replace c3 := b2 c3
  by_cases c4 : isSg [61] (nextT l) = true
  · rw [if_pos c4] at hd
    obtain ⟨x, r1, g1, g2, e1, hd2, rfl⟩ := bind_some hd
    obtain ⟨o', r2, g3, g4, e2, hd3, rfl⟩ := bind_some hd2
    obtain ⟨rfl, rfl, rfl⟩ := pure_some hd3
    obtain ⟨t, r0, rfl, hs⟩ := sg_cons c4
    obtain ⟨rfl, rfl⟩ := want_sg hs e1
    rw [Bool.false_or, Bool.or_false]
    rcases expr_shape e2 with ⟨s, a, rfl⟩ | ⟨m, v, rfl⟩
    · exact op_eq_sym h rfl hc c2 c3 rfl hs e2
    · exact op_eq_num h rfl hc c2 c3 rfl hs e2
  rw [if_neg c4] at hd
  replace c4 := b2 c4
  by_cases c5 : isSg [35] (nextT l) = true
  · rw [if_pos c5] at hd
    obtain ⟨x, r1, g1, g2, e1, hd2, rfl⟩ := bind_some hd
    obtain ⟨t, r0, rfl, hs⟩ := sg_cons c5
    obtain ⟨rfl, rfl⟩ := want_sg hs e1
    rw [Bool.false_or]
    by_cases c6 : isSg [58] (nextT r1) = true
    · rw [if_pos c6] at hd2
      obtain ⟨y, r2, g3, g4, e2, hd3, rfl⟩ := bind_some hd2
      obtain ⟨t2, r3, rfl, hs2⟩ := sg_cons c6
      obtain ⟨rfl, rfl⟩ := want_sg hs2 e2
      rw [Bool.false_or]
      exact op_hash_low_ok h rfl hc c2 c3 c4 rfl hs rfl hs2 hd3
    · rw [if_neg c6] at hd2
      obtain ⟨⟨m, v⟩, r2, g3, g4, e2, hd3, rfl⟩ := bind_some hd2
      obtain ⟨rfl, rfl, rfl⟩ := pure_some hd3
      rw [Bool.or_false]
      exact op_hash_num_ok h rfl hc c2 c3 c4 rfl hs (b2 c6) e2
  rw [if_neg c5] at hd
  replace c5 := b2 c5
  by_cases c6 : isSg [58] (nextT l) = true
  · rw [if_pos c6] at hd
    obtain ⟨x, r1, g1, g2, e1, hd2, rfl⟩ := bind_some hd
    obtain ⟨t, r0, rfl, hs⟩ := sg_cons c6
    obtain ⟨rfl, rfl⟩ := want_sg hs e1
    rw [Bool.false_or]
    exact op_low_ok h rfl hc c2 c3 c4 c5 rfl hs hd2
  rw [if_neg c6] at hd
  replace c6 := b2 c6
  rcases expr_shape hd with ⟨s, a, rfl⟩ | ⟨m, v, rfl⟩
  · exact op_expr_sym h rfl hc c2 c3 c4 c5 c6 hd
  · exact op_expr_num h rfl hc c2 c3 c4 c5 c6 hd
set_option maxHeartbeats 1000000 in
theorem oper_none {w : World} {p : Nat} {l : List Ti} {g : Bool} (h : RR w p l g) (hd : operP l = none) :
    Calls Tryz.prog 32 #[.pointer (some ⟨p, 0, none⟩)] w (Thr p w) := by
  unfold operP ifP at hd
  by_cases c1 : isSh (nextT l) = true
  · rw [if_pos c1] at hd
    have hy := sh_yes c1
    obtain ⟨t, r1, hl⟩ : ∃ t r, l = t :: r := by
      cases l with
      | nil => exact absurd c1 (by rw [show isSh (nextT []) = false from rfl]; decide)
      | cons t r => exact ⟨t, r, rfl⟩
    subst hl
    rcases bind_none hd with e1 | ⟨k, r2, g1, e1, hd2⟩
    · cases e1
    obtain ⟨t', e1', e1''⟩ := one_some e1
    cases e1'
    cases e1''
    rcases bind_none hd2 with e2 | ⟨m, r3, g3, e2, hd3⟩
    · exact absurd e2 (take_ne _ _)
    rcases bind_none hd3 with e3 | ⟨v, r4, g5, e3, hd4⟩
    · exact op_shift_no h rfl rfl hy e2 e3
    · cases hd4
  rw [if_neg c1] at hd
  have hc := sh_no (b2 c1)
  by_cases c2 : isRg (nextT l) = true
  · rw [if_pos c2] at hd
    rcases bind_none hd with e1 | ⟨⟨rn, rs⟩, r1, g1, e1, hd2⟩
    · exfalso
      rcases one_none e1 with rfl | ⟨t, r, rfl, e⟩
      · exact absurd c2 (by rw [show isRg (nextT []) = false from rfl]; decide)
      · rw [if_pos (show isRg t = true from c2)] at e; cases e
    · cases hd2
  rw [if_neg c2] at hd
  replace c2 := b2 c2
  by_cases c3 : isSg [91] (nextT l) = true
  · rw [if_pos c3] at hd
    obtain ⟨t, r0, rfl, hs⟩ := sg_cons c3
    rcases bind_none hd with e1 | ⟨x, r1, g1, e1, hd2⟩
    · exact absurd e1 (want_sg_ne hs)
    obtain ⟨rfl, rfl⟩ := want_sg hs e1
    exact op_mem_no h rfl hc c2 rfl hs hd2
  rw [if_neg c3] at hd
  replace c3 := b2 c3
  by_cases c4 : isSg [61] (nextT l) = true
  · rw [if_pos c4] at hd
    obtain ⟨t, r0, rfl, hs⟩ := sg_cons c4
    rcases bind_none hd with e1 | ⟨x, r1, g1, e1, hd2⟩
    · exact absurd e1 (want_sg_ne hs)
    obtain ⟨rfl, rfl⟩ := want_sg hs e1
    rcases bind_none hd2 with e2 | ⟨o', r2, g3, e2, hd3⟩
    · exact op_eq_no h rfl hc c2 c3 rfl hs e2
    · cases hd3
  rw [if_neg c4] at hd
  replace c4 := b2 c4
  by_cases c5 : isSg [35] (nextT l) = true
  · rw [if_pos c5] at hd
    obtain ⟨t, r0, rfl, hs⟩ := sg_cons c5
    rcases bind_none hd with e1 | ⟨x, r1, g1, e1, hd2⟩
    · exact absurd e1 (want_sg_ne hs)
    obtain ⟨rfl, rfl⟩ := want_sg hs e1
    by_cases c6 : isSg [58] (nextT r1) = true
    · rw [if_pos c6] at hd2
      obtain ⟨t2, r3, rfl, hs2⟩ := sg_cons c6
      rcases bind_none hd2 with e2 | ⟨y, r2, g3, e2, hd3⟩
      · exact absurd e2 (want_sg_ne hs2)
      obtain ⟨rfl, rfl⟩ := want_sg hs2 e2
      exact op_hash_low_no h rfl hc c2 c3 c4 rfl hs rfl hs2 hd3
    · rw [if_neg c6] at hd2
      rcases bind_none hd2 with e2 | ⟨⟨m, v⟩, r2, g3, e2, hd3⟩
      · exact op_hash_num_no h rfl hc c2 c3 c4 rfl hs (b2 c6) e2
      · cases hd3
  rw [if_neg c5] at hd
  replace c5 := b2 c5
  by_cases c6 : isSg [58] (nextT l) = true
  · rw [if_pos c6] at hd
    obtain ⟨t, r0, rfl, hs⟩ := sg_cons c6
    rcases bind_none hd with e1 | ⟨x, r1, g1, e1, hd2⟩
    · exact absurd e1 (want_sg_ne hs)
    obtain ⟨rfl, rfl⟩ := want_sg hs e1
    exact op_low_no h rfl hc c2 c3 c4 c5 rfl hs hd2
  rw [if_neg c6] at hd
  exact op_expr_no h rfl hc c2 c3 c4 c5 (b2 c6) hd
end Go.Proofs.YthejefldnpeciaaGreatDoor
