/- operand: expressions. -/
import Derived.Test.YthejefldnpeciaaGreatDoorzO4
import Derived.Shelf.RegionOpen
import Derived.RegionDies
namespace Go.Proofs.YthejefldnpeciaaGreatDoor
set_option linter.unusedVariables false
set_option linter.unusedSimpArgs false
open Go.ChangeShapes Go.WideShapes Go.Deep Go.RowKit

abbrev symV (s : List UInt8) (a : Int) : Value := .iface 141 (.agg #[.string ⟨s.toArray⟩, .int .i64 a])
abbrev numV (m : Bool) (v : Int) : Value := .iface 107 (.agg #[.bool m, .int .u64 v])
theorem KP.keepsT {w u u' : World} {p X : Nat} {t : Ti} (h : TC u X t) (hk : KP p u u') (hne : X ≠ p) : TC u' X t := h.kept hk hne
def labB (s : List UInt8) : Bool := (labelL s).isSome
theorem label_v (s : List UInt8) : ∃ n u, labelV (labelL s) = .tuple #[.int .i64 n, .bool u, .bool (labB s)] := by
  unfold labelV labB
  cases labelL s with
  | none => exact ⟨0, false, rfl⟩
  | some x => obtain ⟨n, u⟩ := x; exact ⟨n, u, rfl⟩
theorem label_call (t : Ti) (h : GoodTi t) : ∃ n b, ∀ u : World, Calls Tryz.prog 86 #[.string ⟨t.text.toArray⟩] u (RetD (.tuple #[.int .i64 n, .bool b, .bool (labB t.text)]) u) := by
  obtain ⟨n, b, e⟩ := label_v t.text
  refine ⟨n, b, fun u => ?_⟩
  have := Label_any ⟨t.text.toArray⟩ (by show t.text.toArray.size ≤ maxLen; rw [List.size_toArray]; exact h.text) u
  rw [show (⟨t.text.toArray⟩ : ByteArray).data.toList = t.text by simp, e] at this
  exact this
theorem name_call (t : Ti) (h : GoodTi t) : ∀ u : World, TabO u → Calls Tryz.prog 87 #[.string ⟨t.text.toArray⟩] u (RetB (.bool (isNmL t.text)) u) := by
  intro u hu
  have := isName_any ⟨t.text.toArray⟩ (by show t.text.toArray.size ≤ maxLen; rw [List.size_toArray]; exact h.text) u hu
  rwa [show (⟨t.text.toArray⟩ : ByteArray).data.toList = t.text by simp] at this
set_option maxRecDepth 100000 in
set_option maxHeartbeats 4000000 in
theorem expr_num_tf_ok {w : World} {p : Nat} {l r : List Ti} {g g' m lb nm : Bool} {v : Int} {t : Ti} (h : RR w p l g) (ht : nextT l = t) (c2 : (t.kind == 2) = true) (c1 : (t.kind == 1) = false) (hl : labB t.text = false) (hm : isNmL t.text = nm) (hd : numberP l = some ((m, v), r, g')) :
    Calls Tryz.prog 68 #[.pointer (some ⟨p, 0, none⟩)] w (Did (numV m v) p r (g || g') w) := by
  have HN := Lib.hid (next_r h)
  have hg := good_next h.good
  rw [ht] at HN hg
  obtain ⟨n, b, hlab⟩ := label_call t hg
  have HLab := Lib.hid hlab
  have HNm := Lib.hid (name_call t hg)
  have HD := Lib.hid hd
  clear h ht hlab hg hd
  rw [hl] at HLab
  rw [hm] at HNm
  clear hl hm
  go_enter Tryz.func68, Tryz.ntmps68
  go_wp2_with fail
  refine HN.out.mono ?_
  rintro e u ⟨rfl, hR, hK⟩
  have HL := Lib.hid (lay_t hR hK t)
  clear hR hK
  obtain ⟨x0, x1, x2⟩ := HL.out.2.2.1.cells
  go_wp2_with fail
  refine (HLab.out _).mono ?_
  rintro e u2 ⟨rfl, hB⟩
  have HB := Lib.hid hB
  clear hB
  obtain ⟨z, rfl⟩ := HB.out
  have HR2 := Lib.hid (HL.out.1.drewN z)
  have HK2 := Lib.hid (HL.out.2.1.drewN z)
  have HT2 : Hid (TC ((layT u t).drewN z) u.heap.size t) := Lib.hid HL.out.2.2.1
  have HNE := Lib.hid HL.out.2.2.2
  obtain ⟨y0, y1, y2⟩ := HT2.out.cells
  generalize (layT u t).drewN z = U at HR2 HK2 HT2 y0 y1 y2 ⊢
  clear x0 x1 x2
  generalize u.heap.size = X at *
  go_wp2_with fail
  refine (number_ok HR2.out HD.out).mono ?_
  rintro e u5 ⟨rfl, hR, hK⟩
  have HR5 := Lib.hid hR
  have HK5 := Lib.hid (KP.trans' HK2.out hK)
  clear hR hK
  go_wp2
  go_ret
  exact ⟨rfl, HR5.out, HK5.out⟩
set_option maxRecDepth 100000 in
set_option maxHeartbeats 4000000 in
theorem expr_num_tf_no {w : World} {p : Nat} {l r : List Ti} {g g' m lb nm : Bool} {v : Int} {t : Ti} (h : RR w p l g) (ht : nextT l = t) (c2 : (t.kind == 2) = true) (c1 : (t.kind == 1) = false) (hl : labB t.text = false) (hm : isNmL t.text = nm) (hd : numberP l = none) :
    Calls Tryz.prog 68 #[.pointer (some ⟨p, 0, none⟩)] w (Thr p w) := by
  have HN := Lib.hid (next_r h)
  have hg := good_next h.good
  rw [ht] at HN hg
  obtain ⟨n, b, hlab⟩ := label_call t hg
  have HLab := Lib.hid hlab
  have HNm := Lib.hid (name_call t hg)
  have HD := Lib.hid hd
  clear h ht hlab hg hd
  rw [hl] at HLab
  rw [hm] at HNm
  clear hl hm
  go_enter Tryz.func68, Tryz.ntmps68
  go_wp2_with fail
  refine HN.out.mono ?_
  rintro e u ⟨rfl, hR, hK⟩
  have HL := Lib.hid (lay_t hR hK t)
  clear hR hK
  obtain ⟨x0, x1, x2⟩ := HL.out.2.2.1.cells
  go_wp2_with fail
  refine (HLab.out _).mono ?_
  rintro e u2 ⟨rfl, hB⟩
  have HB := Lib.hid hB
  clear hB
  obtain ⟨z, rfl⟩ := HB.out
  have HR2 := Lib.hid (HL.out.1.drewN z)
  have HK2 := Lib.hid (HL.out.2.1.drewN z)
  have HT2 : Hid (TC ((layT u t).drewN z) u.heap.size t) := Lib.hid HL.out.2.2.1
  have HNE := Lib.hid HL.out.2.2.2
  obtain ⟨y0, y1, y2⟩ := HT2.out.cells
  generalize (layT u t).drewN z = U at HR2 HK2 HT2 y0 y1 y2 ⊢
  clear x0 x1 x2
  generalize u.heap.size = X at *
  go_wp2_with fail
  refine (number_no HR2.out HD.out).mono ?_
  rintro e u5 ⟨rfl, hK⟩
  exact ⟨rfl, rfl, KP.trans' HK2.out hK⟩
set_option maxRecDepth 100000 in
set_option maxHeartbeats 4000000 in
theorem expr_num_ff0_ok {w : World} {p : Nat} {l r : List Ti} {g g' m lb nm : Bool} {v : Int} {t : Ti} (h : RR w p l g) (ht : nextT l = t) (c2 : (t.kind == 2) = false) (c1 : (t.kind == 1) = false) (hl : labB t.text = lb) (hm : isNmL t.text = nm) (hd : numberP l = some ((m, v), r, g')) :
    Calls Tryz.prog 68 #[.pointer (some ⟨p, 0, none⟩)] w (Did (numV m v) p r (g || g') w) := by
  have HN := Lib.hid (next_r h)
  have hg := good_next h.good
  rw [ht] at HN hg
  obtain ⟨n, b, hlab⟩ := label_call t hg
  have HLab := Lib.hid hlab
  have HNm := Lib.hid (name_call t hg)
  have HD := Lib.hid hd
  clear h ht hlab hg hd
  rw [hl] at HLab
  rw [hm] at HNm
  clear hl hm
  go_enter Tryz.func68, Tryz.ntmps68
  go_wp2_with fail
  refine HN.out.mono ?_
  rintro e u ⟨rfl, hR, hK⟩
  have HL := Lib.hid (lay_t hR hK t)
  clear hR hK
  obtain ⟨x0, x1, x2⟩ := HL.out.2.2.1.cells
  go_wp2_with fail
  refine (HLab.out _).mono ?_
  rintro e u2 ⟨rfl, hB⟩
  have HB := Lib.hid hB
  clear hB
  obtain ⟨z, rfl⟩ := HB.out
  have HR2 := Lib.hid (HL.out.1.drewN z)
  have HK2 := Lib.hid (HL.out.2.1.drewN z)
  have HT2 : Hid (TC ((layT u t).drewN z) u.heap.size t) := Lib.hid HL.out.2.2.1
  have HNE := Lib.hid HL.out.2.2.2
  obtain ⟨y0, y1, y2⟩ := HT2.out.cells
  generalize (layT u t).drewN z = U at HR2 HK2 HT2 y0 y1 y2 ⊢
  clear x0 x1 x2
  generalize u.heap.size = X at *
  go_wp2_with fail
  refine (number_ok HR2.out HD.out).mono ?_
  rintro e u5 ⟨rfl, hR, hK⟩
  have HR5 := Lib.hid hR
  have HK5 := Lib.hid (KP.trans' HK2.out hK)
  clear hR hK
  go_wp2
  go_ret
  exact ⟨rfl, HR5.out, HK5.out⟩
set_option maxRecDepth 100000 in
set_option maxHeartbeats 4000000 in
theorem expr_num_ff0_no {w : World} {p : Nat} {l r : List Ti} {g g' m lb nm : Bool} {v : Int} {t : Ti} (h : RR w p l g) (ht : nextT l = t) (c2 : (t.kind == 2) = false) (c1 : (t.kind == 1) = false) (hl : labB t.text = lb) (hm : isNmL t.text = nm) (hd : numberP l = none) :
    Calls Tryz.prog 68 #[.pointer (some ⟨p, 0, none⟩)] w (Thr p w) := by
  have HN := Lib.hid (next_r h)
  have hg := good_next h.good
  rw [ht] at HN hg
  obtain ⟨n, b, hlab⟩ := label_call t hg
  have HLab := Lib.hid hlab
  have HNm := Lib.hid (name_call t hg)
  have HD := Lib.hid hd
  clear h ht hlab hg hd
  rw [hl] at HLab
  rw [hm] at HNm
  clear hl hm
  go_enter Tryz.func68, Tryz.ntmps68
  go_wp2_with fail
  refine HN.out.mono ?_
  rintro e u ⟨rfl, hR, hK⟩
  have HL := Lib.hid (lay_t hR hK t)
  clear hR hK
  obtain ⟨x0, x1, x2⟩ := HL.out.2.2.1.cells
  go_wp2_with fail
  refine (HLab.out _).mono ?_
  rintro e u2 ⟨rfl, hB⟩
  have HB := Lib.hid hB
  clear hB
  obtain ⟨z, rfl⟩ := HB.out
  have HR2 := Lib.hid (HL.out.1.drewN z)
  have HK2 := Lib.hid (HL.out.2.1.drewN z)
  have HT2 : Hid (TC ((layT u t).drewN z) u.heap.size t) := Lib.hid HL.out.2.2.1
  have HNE := Lib.hid HL.out.2.2.2
  obtain ⟨y0, y1, y2⟩ := HT2.out.cells
  generalize (layT u t).drewN z = U at HR2 HK2 HT2 y0 y1 y2 ⊢
  clear x0 x1 x2
  generalize u.heap.size = X at *
  go_wp2_with fail
  refine (number_no HR2.out HD.out).mono ?_
  rintro e u5 ⟨rfl, hK⟩
  exact ⟨rfl, rfl, KP.trans' HK2.out hK⟩
set_option maxRecDepth 100000 in
set_option maxHeartbeats 4000000 in
theorem expr_num_ff1_ok {w : World} {p : Nat} {l r : List Ti} {g g' m lb nm : Bool} {v : Int} {t : Ti} (h : RR w p l g) (ht : nextT l = t) (c2 : (t.kind == 2) = false) (c1 : (t.kind == 1) = true) (hl : labB t.text = lb) (hm : isNmL t.text = false) (hd : numberP l = some ((m, v), r, g')) :
    Calls Tryz.prog 68 #[.pointer (some ⟨p, 0, none⟩)] w (Did (numV m v) p r (g || g') w) := by
  have HN := Lib.hid (next_r h)
  have hg := good_next h.good
  rw [ht] at HN hg
  obtain ⟨n, b, hlab⟩ := label_call t hg
  have HLab := Lib.hid hlab
  have HNm := Lib.hid (name_call t hg)
  have HD := Lib.hid hd
  clear h ht hlab hg hd
  rw [hl] at HLab
  rw [hm] at HNm
  clear hl hm
  go_enter Tryz.func68, Tryz.ntmps68
  go_wp2_with fail
  refine HN.out.mono ?_
  rintro e u ⟨rfl, hR, hK⟩
  have HL := Lib.hid (lay_t hR hK t)
  clear hR hK
  obtain ⟨x0, x1, x2⟩ := HL.out.2.2.1.cells
  go_wp2_with fail
  refine (HLab.out _).mono ?_
  rintro e u2 ⟨rfl, hB⟩
  have HB := Lib.hid hB
  clear hB
  obtain ⟨z, rfl⟩ := HB.out
  have HR2 := Lib.hid (HL.out.1.drewN z)
  have HK2 := Lib.hid (HL.out.2.1.drewN z)
  have HT2 : Hid (TC ((layT u t).drewN z) u.heap.size t) := Lib.hid HL.out.2.2.1
  have HNE := Lib.hid HL.out.2.2.2
  obtain ⟨y0, y1, y2⟩ := HT2.out.cells
  generalize (layT u t).drewN z = U at HR2 HK2 HT2 y0 y1 y2 ⊢
  clear x0 x1 x2
  generalize u.heap.size = X at *
  go_wp2_with fail
  refine (HNm.out _ HR2.out.tab).mono ?_
  rintro e u4 ⟨rfl, hB⟩
  have HK2 := Lib.hid (KP.trans' HK2.out (KP.of_below (p := p) hB))
  have HT2 := Lib.hid (HT2.out.kept (KP.of_below (p := p) hB) HNE.out)
  have HR2 := Lib.hid (HR2.out.next hB)
  clear hB
  obtain ⟨y0, y1, y2⟩ := HT2.out.cells
  go_wp2_with fail
  refine (number_ok HR2.out HD.out).mono ?_
  rintro e u5 ⟨rfl, hR, hK⟩
  have HR5 := Lib.hid hR
  have HK5 := Lib.hid (KP.trans' HK2.out hK)
  clear hR hK
  go_wp2
  go_ret
  exact ⟨rfl, HR5.out, HK5.out⟩
set_option maxRecDepth 100000 in
set_option maxHeartbeats 4000000 in
theorem expr_num_ff1_no {w : World} {p : Nat} {l r : List Ti} {g g' m lb nm : Bool} {v : Int} {t : Ti} (h : RR w p l g) (ht : nextT l = t) (c2 : (t.kind == 2) = false) (c1 : (t.kind == 1) = true) (hl : labB t.text = lb) (hm : isNmL t.text = false) (hd : numberP l = none) :
    Calls Tryz.prog 68 #[.pointer (some ⟨p, 0, none⟩)] w (Thr p w) := by
  have HN := Lib.hid (next_r h)
  have hg := good_next h.good
  rw [ht] at HN hg
  obtain ⟨n, b, hlab⟩ := label_call t hg
  have HLab := Lib.hid hlab
  have HNm := Lib.hid (name_call t hg)
  have HD := Lib.hid hd
  clear h ht hlab hg hd
  rw [hl] at HLab
  rw [hm] at HNm
  clear hl hm
  go_enter Tryz.func68, Tryz.ntmps68
  go_wp2_with fail
  refine HN.out.mono ?_
  rintro e u ⟨rfl, hR, hK⟩
  have HL := Lib.hid (lay_t hR hK t)
  clear hR hK
  obtain ⟨x0, x1, x2⟩ := HL.out.2.2.1.cells
  go_wp2_with fail
  refine (HLab.out _).mono ?_
  rintro e u2 ⟨rfl, hB⟩
  have HB := Lib.hid hB
  clear hB
  obtain ⟨z, rfl⟩ := HB.out
  have HR2 := Lib.hid (HL.out.1.drewN z)
  have HK2 := Lib.hid (HL.out.2.1.drewN z)
  have HT2 : Hid (TC ((layT u t).drewN z) u.heap.size t) := Lib.hid HL.out.2.2.1
  have HNE := Lib.hid HL.out.2.2.2
  obtain ⟨y0, y1, y2⟩ := HT2.out.cells
  generalize (layT u t).drewN z = U at HR2 HK2 HT2 y0 y1 y2 ⊢
  clear x0 x1 x2
  generalize u.heap.size = X at *
  go_wp2_with fail
  refine (HNm.out _ HR2.out.tab).mono ?_
  rintro e u4 ⟨rfl, hB⟩
  have HK2 := Lib.hid (KP.trans' HK2.out (KP.of_below (p := p) hB))
  have HT2 := Lib.hid (HT2.out.kept (KP.of_below (p := p) hB) HNE.out)
  have HR2 := Lib.hid (HR2.out.next hB)
  clear hB
  obtain ⟨y0, y1, y2⟩ := HT2.out.cells
  go_wp2_with fail
  refine (number_no HR2.out HD.out).mono ?_
  rintro e u5 ⟨rfl, hK⟩
  exact ⟨rfl, rfl, KP.trans' HK2.out hK⟩
set_option maxRecDepth 100000 in
set_option maxHeartbeats 4000000 in
theorem expr_sym_t_ok {w : World} {p : Nat} {l r0 r : List Ti} {g g' lb nm : Bool} {a : Int} {t : Ti} (h : RR w p l g) (ht : nextT l = t) (hr : l = t :: r0) (c2 : (t.kind == 2) = true) (c1 : (t.kind == 1) = false) (hl : labB t.text = true) (hm : isNmL t.text = nm) (hd : addedP r0 = some (a, r, g')) :
    Calls Tryz.prog 68 #[.pointer (some ⟨p, 0, none⟩)] w (Did (symV t.text a) p r (g || g') w) := by
  subst hr
  have HN := Lib.hid (next_r h)
  have hg := good_next h.good
  rw [ht] at HN hg
  obtain ⟨n, b, hlab⟩ := label_call t hg
  have HLab := Lib.hid hlab
  have HNm := Lib.hid (name_call t hg)
  have HD := Lib.hid hd
  clear h ht hlab hg hd
  rw [hl] at HLab
  rw [hm] at HNm
  clear hl hm
  go_enter Tryz.func68, Tryz.ntmps68
  go_wp2_with fail
  refine HN.out.mono ?_
  rintro e u ⟨rfl, hR, hK⟩
  have HL := Lib.hid (lay_t hR hK t)
  clear hR hK
  obtain ⟨x0, x1, x2⟩ := HL.out.2.2.1.cells
  go_wp2_with fail
  refine (HLab.out _).mono ?_
  rintro e u2 ⟨rfl, hB⟩
  have HB := Lib.hid hB
  clear hB
  obtain ⟨z, rfl⟩ := HB.out
  have HR2 := Lib.hid (HL.out.1.drewN z)
  have HK2 := Lib.hid (HL.out.2.1.drewN z)
  have HT2 : Hid (TC ((layT u t).drewN z) u.heap.size t) := Lib.hid HL.out.2.2.1
  have HNE := Lib.hid HL.out.2.2.2
  obtain ⟨y0, y1, y2⟩ := HT2.out.cells
  generalize (layT u t).drewN z = U at HR2 HK2 HT2 y0 y1 y2 ⊢
  clear x0 x1 x2
  generalize u.heap.size = X at *
  obtain ⟨k, m, k1, k2, k3, HS⟩ := HR2.out.step
  have HS := Lib.hid HS
  have HK3 := Lib.hid (KP.trans' HK2.out (KP.step p _ 1 (.int .i64 (m : Int))))
  have HT3 := Lib.hid (HT2.out.set (o := 1) HNE.out (.int .i64 (m : Int)))
  obtain ⟨z0, z1, z2⟩ := HT3.out.cells
  go_wp2_with fail
  generalize U.setCell ⟨p, 1, none⟩ (.int .i64 (m : Int)) = W at HS HK3 HT3 z0 z1 z2 ⊢
  clear y0 y1 y2 k1 k2
  have HA := Lib.hid (added_ok (HS.out.drewN 1) HD.out)
  go_region_with (go_at_call 88; refine HA.out.mono ?_; rintro e u5 ⟨rfl, hR, hK⟩; have HR5 := Lib.hid hR; have HK5 := Lib.hid (KP.trans' (HK3.out.drewN 1) hK); have y1 := ((show TC (W.drewN 1) X t from HT3.out).kept hK HNE.out).cells.2.1; clear hR hK)
  all_goals go_wp2
  all_goals go_ret
  all_goals exact ⟨rfl, HR5.out, HK5.out⟩
set_option maxRecDepth 100000 in
set_option maxHeartbeats 4000000 in
theorem expr_sym_f_ok {w : World} {p : Nat} {l r0 r : List Ti} {g g' lb nm : Bool} {a : Int} {t : Ti} (h : RR w p l g) (ht : nextT l = t) (hr : l = t :: r0) (c2 : (t.kind == 2) = false) (c1 : (t.kind == 1) = true) (hl : labB t.text = lb) (hm : isNmL t.text = true) (hd : addedP r0 = some (a, r, g')) :
    Calls Tryz.prog 68 #[.pointer (some ⟨p, 0, none⟩)] w (Did (symV t.text a) p r (g || g') w) := by
  subst hr
  have HN := Lib.hid (next_r h)
  have hg := good_next h.good
  rw [ht] at HN hg
  obtain ⟨n, b, hlab⟩ := label_call t hg
  have HLab := Lib.hid hlab
  have HNm := Lib.hid (name_call t hg)
  have HD := Lib.hid hd
  clear h ht hlab hg hd
  rw [hl] at HLab
  rw [hm] at HNm
  clear hl hm
  go_enter Tryz.func68, Tryz.ntmps68
  go_wp2_with fail
  refine HN.out.mono ?_
  rintro e u ⟨rfl, hR, hK⟩
  have HL := Lib.hid (lay_t hR hK t)
  clear hR hK
  obtain ⟨x0, x1, x2⟩ := HL.out.2.2.1.cells
  go_wp2_with fail
  refine (HLab.out _).mono ?_
  rintro e u2 ⟨rfl, hB⟩
  have HB := Lib.hid hB
  clear hB
  obtain ⟨z, rfl⟩ := HB.out
  have HR2 := Lib.hid (HL.out.1.drewN z)
  have HK2 := Lib.hid (HL.out.2.1.drewN z)
  have HT2 : Hid (TC ((layT u t).drewN z) u.heap.size t) := Lib.hid HL.out.2.2.1
  have HNE := Lib.hid HL.out.2.2.2
  obtain ⟨y0, y1, y2⟩ := HT2.out.cells
  generalize (layT u t).drewN z = U at HR2 HK2 HT2 y0 y1 y2 ⊢
  clear x0 x1 x2
  generalize u.heap.size = X at *
  go_wp2_with fail
  refine (HNm.out _ HR2.out.tab).mono ?_
  rintro e u4 ⟨rfl, hB⟩
  have HK2 := Lib.hid (KP.trans' HK2.out (KP.of_below (p := p) hB))
  have HT2 := Lib.hid (HT2.out.kept (KP.of_below (p := p) hB) HNE.out)
  have HR2 := Lib.hid (HR2.out.next hB)
  clear hB
  obtain ⟨y0, y1, y2⟩ := HT2.out.cells
  obtain ⟨k, m, k1, k2, k3, HS⟩ := HR2.out.step
  have HS := Lib.hid HS
  have HK3 := Lib.hid (KP.trans' HK2.out (KP.step p _ 1 (.int .i64 (m : Int))))
  have HT3 := Lib.hid (HT2.out.set (o := 1) HNE.out (.int .i64 (m : Int)))
  obtain ⟨z0, z1, z2⟩ := HT3.out.cells
  go_wp2_with fail
  generalize u4.setCell ⟨p, 1, none⟩ (.int .i64 (m : Int)) = W at HS HK3 HT3 z0 z1 z2 ⊢
  clear y0 y1 y2 k1 k2
  have HA := Lib.hid (added_ok (HS.out.drewN 1) HD.out)
  go_region_with (go_at_call 88; refine HA.out.mono ?_; rintro e u5 ⟨rfl, hR, hK⟩; have HR5 := Lib.hid hR; have HK5 := Lib.hid (KP.trans' (HK3.out.drewN 1) hK); have y1 := ((show TC (W.drewN 1) X t from HT3.out).kept hK HNE.out).cells.2.1; clear hR hK)
  all_goals go_wp2
  all_goals go_ret
  all_goals exact ⟨rfl, HR5.out, HK5.out⟩
set_option maxRecDepth 100000 in
set_option maxHeartbeats 4000000 in
theorem expr_sym_t_no {w : World} {p : Nat} {l r0 : List Ti} {g lb nm : Bool} {t : Ti} (h : RR w p l g) (ht : nextT l = t) (hr : l = t :: r0) (c2 : (t.kind == 2) = true) (c1 : (t.kind == 1) = false) (hl : labB t.text = true) (hm : isNmL t.text = nm) (hd : addedP r0 = none) :
    Calls Tryz.prog 68 #[.pointer (some ⟨p, 0, none⟩)] w (Thr p w) := by
  subst hr
  have HN := Lib.hid (next_r h)
  have hg := good_next h.good
  rw [ht] at HN hg
  obtain ⟨n, b, hlab⟩ := label_call t hg
  have HLab := Lib.hid hlab
  have HNm := Lib.hid (name_call t hg)
  have HD := Lib.hid hd
  clear h ht hlab hg hd
  rw [hl] at HLab
  rw [hm] at HNm
  clear hl hm
  go_enter Tryz.func68, Tryz.ntmps68
  go_wp2_with fail
  refine HN.out.mono ?_
  rintro e u ⟨rfl, hR, hK⟩
  have HL := Lib.hid (lay_t hR hK t)
  clear hR hK
  obtain ⟨x0, x1, x2⟩ := HL.out.2.2.1.cells
  go_wp2_with fail
  refine (HLab.out _).mono ?_
  rintro e u2 ⟨rfl, hB⟩
  have HB := Lib.hid hB
  clear hB
  obtain ⟨z, rfl⟩ := HB.out
  have HR2 := Lib.hid (HL.out.1.drewN z)
  have HK2 := Lib.hid (HL.out.2.1.drewN z)
  have HT2 : Hid (TC ((layT u t).drewN z) u.heap.size t) := Lib.hid HL.out.2.2.1
  have HNE := Lib.hid HL.out.2.2.2
  obtain ⟨y0, y1, y2⟩ := HT2.out.cells
  generalize (layT u t).drewN z = U at HR2 HK2 HT2 y0 y1 y2 ⊢
  clear x0 x1 x2
  generalize u.heap.size = X at *
  obtain ⟨k, m, k1, k2, k3, HS⟩ := HR2.out.step
  have HS := Lib.hid HS
  have HK3 := Lib.hid (KP.trans' HK2.out (KP.step p _ 1 (.int .i64 (m : Int))))
  have HT3 := Lib.hid (HT2.out.set (o := 1) HNE.out (.int .i64 (m : Int)))
  obtain ⟨z0, z1, z2⟩ := HT3.out.cells
  go_wp2_with fail
  generalize U.setCell ⟨p, 1, none⟩ (.int .i64 (m : Int)) = W at HS HK3 HT3 z0 z1 z2 ⊢
  clear y0 y1 y2 k1 k2
  have HA := Lib.hid (added_no (HS.out.drewN 1) HD.out)
  go_region_dies
  all_goals go_at_call 88
  all_goals
    refine HA.out.mono ?_
    rintro e u5 ⟨rfl, hK⟩
    exact ⟨rfl, rfl, KP.trans' (HK3.out.drewN 1) hK⟩
set_option maxRecDepth 100000 in
set_option maxHeartbeats 4000000 in
theorem expr_sym_f_no {w : World} {p : Nat} {l r0 : List Ti} {g lb nm : Bool} {t : Ti} (h : RR w p l g) (ht : nextT l = t) (hr : l = t :: r0) (c2 : (t.kind == 2) = false) (c1 : (t.kind == 1) = true) (hl : labB t.text = lb) (hm : isNmL t.text = true) (hd : addedP r0 = none) :
    Calls Tryz.prog 68 #[.pointer (some ⟨p, 0, none⟩)] w (Thr p w) := by
  subst hr
  have HN := Lib.hid (next_r h)
  have hg := good_next h.good
  rw [ht] at HN hg
  obtain ⟨n, b, hlab⟩ := label_call t hg
  have HLab := Lib.hid hlab
  have HNm := Lib.hid (name_call t hg)
  have HD := Lib.hid hd
  clear h ht hlab hg hd
  rw [hl] at HLab
  rw [hm] at HNm
  clear hl hm
  go_enter Tryz.func68, Tryz.ntmps68
  go_wp2_with fail
  refine HN.out.mono ?_
  rintro e u ⟨rfl, hR, hK⟩
  have HL := Lib.hid (lay_t hR hK t)
  clear hR hK
  obtain ⟨x0, x1, x2⟩ := HL.out.2.2.1.cells
  go_wp2_with fail
  refine (HLab.out _).mono ?_
  rintro e u2 ⟨rfl, hB⟩
  have HB := Lib.hid hB
  clear hB
  obtain ⟨z, rfl⟩ := HB.out
  have HR2 := Lib.hid (HL.out.1.drewN z)
  have HK2 := Lib.hid (HL.out.2.1.drewN z)
  have HT2 : Hid (TC ((layT u t).drewN z) u.heap.size t) := Lib.hid HL.out.2.2.1
  have HNE := Lib.hid HL.out.2.2.2
  obtain ⟨y0, y1, y2⟩ := HT2.out.cells
  generalize (layT u t).drewN z = U at HR2 HK2 HT2 y0 y1 y2 ⊢
  clear x0 x1 x2
  generalize u.heap.size = X at *
  go_wp2_with fail
  refine (HNm.out _ HR2.out.tab).mono ?_
  rintro e u4 ⟨rfl, hB⟩
  have HK2 := Lib.hid (KP.trans' HK2.out (KP.of_below (p := p) hB))
  have HT2 := Lib.hid (HT2.out.kept (KP.of_below (p := p) hB) HNE.out)
  have HR2 := Lib.hid (HR2.out.next hB)
  clear hB
  obtain ⟨y0, y1, y2⟩ := HT2.out.cells
  obtain ⟨k, m, k1, k2, k3, HS⟩ := HR2.out.step
  have HS := Lib.hid HS
  have HK3 := Lib.hid (KP.trans' HK2.out (KP.step p _ 1 (.int .i64 (m : Int))))
  have HT3 := Lib.hid (HT2.out.set (o := 1) HNE.out (.int .i64 (m : Int)))
  obtain ⟨z0, z1, z2⟩ := HT3.out.cells
  go_wp2_with fail
  generalize u4.setCell ⟨p, 1, none⟩ (.int .i64 (m : Int)) = W at HS HK3 HT3 z0 z1 z2 ⊢
  clear y0 y1 y2 k1 k2
  have HA := Lib.hid (added_no (HS.out.drewN 1) HD.out)
  go_region_dies
  all_goals go_at_call 88
  all_goals
    refine HA.out.mono ?_
    rintro e u5 ⟨rfl, hK⟩
    exact ⟨rfl, rfl, KP.trans' (HK3.out.drewN 1) hK⟩
/-- What an expression is, as a value. -/
def exV (o : Po) : Value := if o.kind = 3 then symV o.sym o.add else numV o.minus o.v
def exOk (o : Po) : Prop := (∃ s a, o = ⟨3, 0, false, false, 0, s, a⟩) ∨ ∃ m v, o = ⟨2, 0, false, m, v, [], 0⟩
theorem sym_parts {t : Ti} (h : isSym t = true) : ((t.kind == 2) = true ∧ (t.kind == 1) = false ∧ labB t.text = true) ∨ ((t.kind == 2) = false ∧ (t.kind == 1) = true ∧ isNmL t.text = true) := by
  unfold isSym at h
  rw [Bool.or_eq_true, Bool.and_eq_true, Bool.and_eq_true] at h
  rcases h with ⟨h, h'⟩ | ⟨h, h'⟩
  · refine .inl ⟨h, ?_, h'⟩
    rw [beq_iff_eq] at h; rw [h]; rfl
  · refine .inr ⟨?_, h, h'⟩
    rw [beq_iff_eq] at h; rw [h]; rfl
theorem num_parts {t : Ti} (h : isSym t = false) : ((t.kind == 2) = true ∧ (t.kind == 1) = false ∧ labB t.text = false) ∨ ((t.kind == 2) = false ∧ (t.kind == 1) = false) ∨ ((t.kind == 2) = false ∧ (t.kind == 1) = true ∧ isNmL t.text = false) := by
  have h' : ((t.kind == 2) && labB t.text) = false ∧ ((t.kind == 1) && isNmL t.text) = false := by
    unfold isSym at h
    rw [Bool.or_eq_false_iff] at h
    exact h
  cases c2 : (t.kind == 2) with
  | true =>
    rw [c2] at h'
    refine .inl ⟨rfl, ?_, by simpa using h'.1⟩
    rw [beq_iff_eq] at c2; rw [c2]; rfl
  | false =>
    cases c1 : (t.kind == 1) with
    | false => exact .inr (.inl ⟨rfl, rfl⟩)
    | true => rw [c1] at h'; exact .inr (.inr ⟨rfl, rfl, by simpa using h'.2⟩)
theorem sym_cons {l : List Ti} (h : isSym (nextT l) = true) : ∃ t r, l = t :: r := by
  cases l with
  | nil => exact absurd h (by rw [show isSym (nextT []) = false from rfl]; decide)
  | cons t r => exact ⟨t, r, rfl⟩
theorem expr_ok {w : World} {p : Nat} {l r : List Ti} {g g' : Bool} {o : Po} (h : RR w p l g) (hd : exprP l = some (o, r, g')) :
    Calls Tryz.prog 68 #[.pointer (some ⟨p, 0, none⟩)] w (Did (exV o) p r (g || g') w) := by
  unfold exprP ifP at hd
  by_cases c : isSym (nextT l) = true
  · rw [if_pos c] at hd
    obtain ⟨t, r0, rfl⟩ := sym_cons c
    obtain ⟨s, r1, g1, g2, e1, hd2, rfl⟩ := bind_some hd
    obtain ⟨t', e2, e3⟩ := one_some e1
    cases e2
    cases e3
    obtain ⟨a, r2, g3, g4, e4, hd3, rfl⟩ := bind_some hd2
    obtain ⟨rfl, rfl, rfl⟩ := pure_some hd3
    rw [show (g || (false || (g3 || false))) = (g || g3) by cases g3 <;> rfl]
    rcases sym_parts (t := t) c with ⟨c2, c1, hl⟩ | ⟨c2, c1, hm⟩
    · exact expr_sym_t_ok (lb := false) h rfl rfl c2 c1 hl rfl e4
    · exact expr_sym_f_ok (nm := false) h rfl rfl c2 c1 rfl hm e4
  · rw [if_neg c] at hd
    obtain ⟨⟨m, v⟩, r1, g1, g2, e1, hd2, rfl⟩ := bind_some hd
    obtain ⟨rfl, rfl, rfl⟩ := pure_some hd2
    rw [Bool.or_false]
    rcases num_parts (t := nextT l) (by simpa using c) with ⟨c2, c1, hl⟩ | ⟨c2, c1⟩ | ⟨c2, c1, hm⟩
    · exact expr_num_tf_ok (lb := false) h rfl c2 c1 hl rfl e1
    · exact expr_num_ff0_ok h rfl c2 c1 rfl rfl e1
    · exact expr_num_ff1_ok (nm := false) h rfl c2 c1 rfl hm e1
theorem expr_no {w : World} {p : Nat} {l : List Ti} {g : Bool} (h : RR w p l g) (hd : exprP l = none) :
    Calls Tryz.prog 68 #[.pointer (some ⟨p, 0, none⟩)] w (Thr p w) := by
  unfold exprP ifP at hd
  by_cases c : isSym (nextT l) = true
  · rw [if_pos c] at hd
    obtain ⟨t, r0, rfl⟩ := sym_cons c
    rcases bind_none hd with hd | ⟨s, r1, g1, e1, hd2⟩
    · cases hd
    obtain ⟨t', e2, e3⟩ := one_some e1
    cases e2
    cases e3
    rcases bind_none hd2 with hd3 | ⟨a, r2, g3, e4, hd3⟩
    · rcases sym_parts (t := t) c with ⟨c2, c1, hl⟩ | ⟨c2, c1, hm⟩
      · exact expr_sym_t_no (lb := false) h rfl rfl c2 c1 hl rfl hd3
      · exact expr_sym_f_no (nm := false) h rfl rfl c2 c1 rfl hm hd3
    · cases hd3
  · rw [if_neg c] at hd
    rcases bind_none hd with hd2 | ⟨a, r1, g1, e1, hd2⟩
    · rcases num_parts (t := nextT l) (by simpa using c) with ⟨c2, c1, hl⟩ | ⟨c2, c1⟩ | ⟨c2, c1, hm⟩
      · exact expr_num_tf_no (lb := false) (r := []) (g' := false) (m := false) (v := 0) h rfl c2 c1 hl rfl hd2
      · exact expr_num_ff0_no (r := []) (g' := false) (m := false) (v := 0) h rfl c2 c1 rfl rfl hd2
      · exact expr_num_ff1_no (nm := false) (r := []) (g' := false) (m := false) (v := 0) h rfl c2 c1 rfl hm hd2
    · cases hd2
theorem expr_shape {l r : List Ti} {o : Po} {g : Bool} (hd : exprP l = some (o, r, g)) : exOk o := by
  unfold exprP ifP at hd
  split at hd
  · obtain ⟨s, r1, g1, g2, e1, hd2, rfl⟩ := bind_some hd
    obtain ⟨a, r2, g3, g4, e4, hd3, rfl⟩ := bind_some hd2
    obtain ⟨rfl, -, -⟩ := pure_some hd3
    exact .inl ⟨s, a, rfl⟩
  · obtain ⟨⟨m, v⟩, r1, g1, g2, e1, hd2, rfl⟩ := bind_some hd
    obtain ⟨rfl, -, -⟩ := pure_some hd2
    exact .inr ⟨m, v, rfl⟩
open Go.ChangeShapes Go.WideShapes Go.Deep Go.RowKit

abbrev ozC : Array Value := #[.int .i64 0, .int .i64 0, .bool false, .bool false, .int .u64 0, .string ⟨#[]⟩, .int .i64 0]
abbrev poA (o : Po) : Array Value := #[.int .i64 o.kind, .int .i64 o.reg, .bool o.stack, .bool o.minus, .int .u64 o.v, .string ⟨o.sym.toArray⟩, .int .i64 o.add]
/-- A reader, a result's block, and what was there before. -/
structure RX (w u : World) (p X : Nat) (l : List Ti) (g : Bool) : Prop where
  r : RR u p l g
  k : KP p w u
  b : RB u X ozC 38
  n : X ≠ p
  s : w.heap.size ≤ X
  q : p < w.heap.size
theorem RX.mk0 {w : World} {p : Nat} {l : List Ti} {g : Bool} (h : RR w p l g) : RX w (w.alloc (.cells ozC 38)) p w.heap.size l g :=
  have q := start h ozC 38
  ⟨q.1, q.2.1, q.2.2.1, q.2.2.2, Nat.le_refl _, h.lt⟩
theorem RX.call {w u u' : World} {p X : Nat} {l l' : List Ti} {g g' : Bool} (h : RX w u p X l g) (hR : RR u' p l' g') (hK : KP p u u') : RX w u' p X l' g' :=
  ⟨hR, KP.trans' h.k hK, h.b.kept hK h.n, h.n, h.s, h.q⟩
theorem RX.next {w u u' : World} {p X : Nat} {l : List Ti} {g : Bool} (h : RX w u p X l g) (hb : Below u.heap.size u u') : RX w u' p X l g :=
  h.call (h.r.next hb) (KP.of_below hb)
theorem RX.lay {w u : World} {p X : Nat} {l : List Ti} {g : Bool} (h : RX w u p X l g) (o : Obj) : RX w (u.alloc o) p X l g := h.next ((Below.refl _ u).alloc (Nat.le_refl _) o)
theorem RX.drewN {w u : World} {p X : Nat} {l : List Ti} {g : Bool} (h : RX w u p X l g) (n : Nat) : RX w (u.drewN n) p X l g := h.next (below_drewN (Below.refl _ _) n)
theorem RX.step {w u : World} {p X : Nat} {t : Ti} {l : List Ti} {g : Bool} (h : RX w u p X (t :: l) g) :
    ∃ k m : Nat, u.cell? ⟨p, 1, none⟩ = some (.int .i64 (k : Int)) ∧ u.frozen? ⟨p, 1, none⟩ = false ∧ IntKind.i64.wrap ((k : Int) + 1) = (m : Int) ∧ RX w (u.setCell ⟨p, 1, none⟩ (.int .i64 (m : Int))) p X l g := by
  obtain ⟨k, m, k1, k2, k3, h'⟩ := h.r.step
  exact ⟨k, m, k1, k2, k3, h.call h' (KP.step _ _ _ _)⟩
/-- The seven cells of a result, laid. -/
abbrev set7 (u : World) (X : Nat) (o : Po) : World :=
  ((((((u.setCell ⟨X, 0, none⟩ (.int .i64 o.kind)).setCell ⟨X, 1, none⟩ (.int .i64 o.reg)).setCell ⟨X, 2, none⟩ (.bool o.stack)).setCell ⟨X, 3, none⟩ (.bool o.minus)).setCell ⟨X, 4, none⟩ (.int .u64 o.v)).setCell ⟨X, 5, none⟩ (.string ⟨o.sym.toArray⟩)).setCell ⟨X, 6, none⟩ (.int .i64 o.add)
theorem set7_heap {u : World} {X : Nat} (h : RB u X ozC 38) (o : Po) : RB (set7 u X o) X (poA o) 38 := by
  have h0 : RB (u.setCell ⟨X, 0, none⟩ (.int .i64 o.kind)) X #[.int .i64 o.kind, .int .i64 0, .bool false, .bool false, .int .u64 0, .string ⟨#[]⟩, .int .i64 0] 38 := h.set (j := 0) _
  have h1 : RB ((u.setCell ⟨X, 0, none⟩ (.int .i64 o.kind)).setCell ⟨X, 1, none⟩ (.int .i64 o.reg)) X #[.int .i64 o.kind, .int .i64 o.reg, .bool false, .bool false, .int .u64 0, .string ⟨#[]⟩, .int .i64 0] 38 := h0.set (j := 1) _
  have h2 : RB (((u.setCell ⟨X, 0, none⟩ (.int .i64 o.kind)).setCell ⟨X, 1, none⟩ (.int .i64 o.reg)).setCell ⟨X, 2, none⟩ (.bool o.stack)) X #[.int .i64 o.kind, .int .i64 o.reg, .bool o.stack, .bool false, .int .u64 0, .string ⟨#[]⟩, .int .i64 0] 38 := h1.set (j := 2) _
  have h3 : RB ((((u.setCell ⟨X, 0, none⟩ (.int .i64 o.kind)).setCell ⟨X, 1, none⟩ (.int .i64 o.reg)).setCell ⟨X, 2, none⟩ (.bool o.stack)).setCell ⟨X, 3, none⟩ (.bool o.minus)) X #[.int .i64 o.kind, .int .i64 o.reg, .bool o.stack, .bool o.minus, .int .u64 0, .string ⟨#[]⟩, .int .i64 0] 38 := h2.set (j := 3) _
  have h4 : RB (((((u.setCell ⟨X, 0, none⟩ (.int .i64 o.kind)).setCell ⟨X, 1, none⟩ (.int .i64 o.reg)).setCell ⟨X, 2, none⟩ (.bool o.stack)).setCell ⟨X, 3, none⟩ (.bool o.minus)).setCell ⟨X, 4, none⟩ (.int .u64 o.v)) X #[.int .i64 o.kind, .int .i64 o.reg, .bool o.stack, .bool o.minus, .int .u64 o.v, .string ⟨#[]⟩, .int .i64 0] 38 := h3.set (j := 4) _
  have h5 : RB ((((((u.setCell ⟨X, 0, none⟩ (.int .i64 o.kind)).setCell ⟨X, 1, none⟩ (.int .i64 o.reg)).setCell ⟨X, 2, none⟩ (.bool o.stack)).setCell ⟨X, 3, none⟩ (.bool o.minus)).setCell ⟨X, 4, none⟩ (.int .u64 o.v)).setCell ⟨X, 5, none⟩ (.string ⟨o.sym.toArray⟩)) X #[.int .i64 o.kind, .int .i64 o.reg, .bool o.stack, .bool o.minus, .int .u64 o.v, .string ⟨o.sym.toArray⟩, .int .i64 0] 38 := h4.set (j := 5) _
  have h6 : RB (((((((u.setCell ⟨X, 0, none⟩ (.int .i64 o.kind)).setCell ⟨X, 1, none⟩ (.int .i64 o.reg)).setCell ⟨X, 2, none⟩ (.bool o.stack)).setCell ⟨X, 3, none⟩ (.bool o.minus)).setCell ⟨X, 4, none⟩ (.int .u64 o.v)).setCell ⟨X, 5, none⟩ (.string ⟨o.sym.toArray⟩)).setCell ⟨X, 6, none⟩ (.int .i64 o.add)) X #[.int .i64 o.kind, .int .i64 o.reg, .bool o.stack, .bool o.minus, .int .u64 o.v, .string ⟨o.sym.toArray⟩, .int .i64 o.add] 38 := h5.set (j := 6) _
  exact h6
theorem RX.done {w u : World} {p X : Nat} {l : List Ti} {g : Bool} (h : RX w u p X l g) (o : Po) :
    RR (set7 u X o) p l g ∧ KP p w (set7 u X o) ∧ RB (set7 u X o) X (poA o) 38 := by
  have hs : Below X u (set7 u X o) :=
    (((((((Below.refl X u).setCell (p := ⟨X, 0, none⟩) (Nat.le_refl _) _).setCell (p := ⟨X, 1, none⟩) (Nat.le_refl _) _).setCell (p := ⟨X, 2, none⟩) (Nat.le_refl _) _).setCell (p := ⟨X, 3, none⟩) (Nat.le_refl _) _).setCell (p := ⟨X, 4, none⟩) (Nat.le_refl _) _).setCell (p := ⟨X, 5, none⟩) (Nat.le_refl _) _).setCell (p := ⟨X, 6, none⟩) (Nat.le_refl _) _
  have hp : p < X := by
    have := h.q
    have h2 := h.s
    omega
  exact ⟨h.r.below hs hp, KP.below h.k hs h.s, set7_heap h.b o⟩
theorem RX.facts {w u : World} {p X : Nat} {l : List Ti} {g : Bool} (h : RX w u p X l g) :
    u.cell? ⟨X, 0, none⟩ = some (.int .i64 0) ∧ u.cell? ⟨X, 1, none⟩ = some (.int .i64 0) ∧ u.cell? ⟨X, 2, none⟩ = some (.bool false) ∧ u.cell? ⟨X, 3, none⟩ = some (.bool false) ∧ u.cell? ⟨X, 4, none⟩ = some (.int .u64 0) ∧
    u.cell? ⟨X, 5, none⟩ = some (.string ⟨#[]⟩) ∧ u.cell? ⟨X, 6, none⟩ = some (.int .i64 0) ∧ (∀ j, u.frozen? ⟨X, j, none⟩ = false) ∧ X < u.heap.size :=
  ⟨h.b.cell, h.b.cell, h.b.cell, h.b.cell, h.b.cell, h.b.cell, h.b.cell, fun j => h.b.frozen, lt_of_block h.b⟩
/-- An operand's block, laid. -/
theorem RX.turn {w u : World} {p X : Nat} {l : List Ti} {g : Bool} (h : RX w u p X l g) (o : Po) :
    RX w (u.alloc (.cells (poA o) 38)) p X l g ∧ RB (u.alloc (.cells (poA o) 38)) u.heap.size (poA o) 38 :=
  ⟨h.lay _, (MapKept.heap_alloc u _).1⟩
theorem RB.seven {u : World} {Z : Nat} {o : Po} (h : RB u Z (poA o) 38) :
    u.cell? ⟨Z, 0, none⟩ = some (.int .i64 o.kind) ∧ u.cell? ⟨Z, 1, none⟩ = some (.int .i64 o.reg) ∧ u.cell? ⟨Z, 2, none⟩ = some (.bool o.stack) ∧ u.cell? ⟨Z, 3, none⟩ = some (.bool o.minus) ∧ u.cell? ⟨Z, 4, none⟩ = some (.int .u64 o.v) ∧
    u.cell? ⟨Z, 5, none⟩ = some (.string ⟨o.sym.toArray⟩) ∧ u.cell? ⟨Z, 6, none⟩ = some (.int .i64 o.add) ∧ (∀ j, u.frozen? ⟨Z, j, none⟩ = false) ∧ Z < u.heap.size :=
  ⟨h.cell, h.cell, h.cell, h.cell, h.cell, h.cell, h.cell, fun j => h.frozen, lt_of_block h⟩
theorem zeroOpnd (w : World) : (zeroValue 38).run Tryz.prog w = .ok (.agg ozC) w := by kernel_rfl
open Go.ChangeShapes Go.WideShapes Go.Deep Go.RowKit

theorem assert_sym (s : ByteArray) (a : Int) (w : World) : (Instr.typeAssert (.iface 141 (.agg #[.string s, .int .i64 a])) 104 141 true).run Tryz.prog w = .ok (.tuple #[.agg #[.string s, .int .i64 a], .bool true]) w := by kernel_rfl
theorem assert_num (m : Bool) (v : Int) (w : World) : (Instr.typeAssert (.iface 107 (.agg #[.bool m, .int .u64 v])) 104 141 true).run Tryz.prog w = .ok (.tuple #[.agg #[.string ⟨#[]⟩, .int .i64 0], .bool false]) w := by kernel_rfl
set_option maxRecDepth 100000 in
set_option maxHeartbeats 4000000 in
theorem low_no1 {w : World} {p : Nat} {l : List Ti} {g : Bool} {t : Ti} (h : RR w p l g) (ht : nextT l = t) (hc : (t.kind != 1) = true ∨ (t.kind != 1) = false ∧ (!(t.text == loB)) = true) :
    Calls Tryz.prog 69 #[.pointer (some ⟨p, 0, none⟩)] w (Thr p w) := by
  have HC := Lib.hid hc
  clear hc
  have h0 := Lib.hid (RX.mk0 h)
  have HZ := zeroOpnd
  have HTa := assert_sym
  have HTn := assert_num
  have HN : Hid (∀ u, RR u p l g → Calls Tryz.prog 61 #[.pointer (some ⟨p, 0, none⟩)] u (Did (.agg #[.int .i64 t.kind, .string ⟨t.text.toArray⟩, .int .u64 t.v]) p l g u)) := Lib.hid fun u hu => by have := next_r hu; rwa [ht] at this
  obtain ⟨X, hX⟩ : ∃ X, X = w.heap.size := ⟨_, rfl⟩
  rw [← hX] at h0
  clear h ht
  go_enter Tryz.func69, Tryz.ntmps69
  go_wp2_with fail
  rw [← hX]
  clear hX
  generalize w.alloc (.cells ozC 38) = W0 at h0 ⊢
  refine (HN.out _ h0.out.r).mono ?_
  rintro e u ⟨rfl, hR, hK⟩
  have HX1 := Lib.hid (h0.out.call hR hK)
  have HL := Lib.hid (lay_t hR hK t)
  have HX2 : Hid (RX w (layT u t) p X l g) := Lib.hid (HX1.out.lay _)
  clear hR hK
  obtain ⟨x0, x1, x2⟩ := HL.out.2.2.1.cells
  rcases HC.out with c1 | ⟨c1, c2⟩
  all_goals go_wp2
  all_goals exact ⟨rfl, rfl, HX2.out.k⟩
set_option maxRecDepth 100000 in
set_option maxHeartbeats 4000000 in
theorem low_no2 {w : World} {p : Nat} {l r : List Ti} {g : Bool} {t : Ti} (h : RR w p l g) (hl : l = t :: r) (c1 : (t.kind != 1) = false) (c2 : (!(t.text == loB)) = false) (hd : wantP [58] r = none) :
    Calls Tryz.prog 69 #[.pointer (some ⟨p, 0, none⟩)] w (Thr p w) := by
  have HD := Lib.hid hd
  clear hd
  have ht : nextT l = t := by rw [hl]; rfl
  have h0 := Lib.hid (RX.mk0 h)
  have HZ := zeroOpnd
  have HTa := assert_sym
  have HTn := assert_num
  have HN : Hid (∀ u, RR u p l g → Calls Tryz.prog 61 #[.pointer (some ⟨p, 0, none⟩)] u (Did (.agg #[.int .i64 t.kind, .string ⟨t.text.toArray⟩, .int .u64 t.v]) p l g u)) := Lib.hid fun u hu => by have := next_r hu; rwa [ht] at this
  obtain ⟨X, hX⟩ : ∃ X, X = w.heap.size := ⟨_, rfl⟩
  rw [← hX] at h0
  clear h ht
  go_enter Tryz.func69, Tryz.ntmps69
  go_wp2_with fail
  rw [← hX]
  clear hX
  generalize w.alloc (.cells ozC 38) = W0 at h0 ⊢
  refine (HN.out _ h0.out.r).mono ?_
  rintro e u ⟨rfl, hR, hK⟩
  have HX1 := Lib.hid (h0.out.call hR hK)
  have HL := Lib.hid (lay_t hR hK t)
  have HX2 : Hid (RX w (layT u t) p X l g) := Lib.hid (HX1.out.lay _)
  clear hR hK
  obtain ⟨x0, x1, x2⟩ := HL.out.2.2.1.cells
  subst hl
  obtain ⟨k, m, k1, k2, k3, HS⟩ := HX2.out.step
  have HS := Lib.hid HS
  go_wp2_with fail
  refine (want_none HS.out.r [58] HD.out).mono ?_
  rintro e u2 ⟨rfl, hK⟩
  exact ⟨rfl, rfl, KP.trans' HS.out.k hK⟩
set_option maxRecDepth 100000 in
set_option maxHeartbeats 4000000 in
theorem low_no3 {w : World} {p : Nat} {l r r1 : List Ti} {g g1 : Bool} {t : Ti} {x : Unit} (h : RR w p l g) (hl : l = t :: r) (c1 : (t.kind != 1) = false) (c2 : (!(t.text == loB)) = false) (hd : wantP [58] r = some (x, r1, g1)) (he : exprP r1 = none) :
    Calls Tryz.prog 69 #[.pointer (some ⟨p, 0, none⟩)] w (Thr p w) := by
  have HD := Lib.hid hd
  have HE := Lib.hid he
  clear hd he
  have ht : nextT l = t := by rw [hl]; rfl
  have h0 := Lib.hid (RX.mk0 h)
  have HZ := zeroOpnd
  have HTa := assert_sym
  have HTn := assert_num
  have HN : Hid (∀ u, RR u p l g → Calls Tryz.prog 61 #[.pointer (some ⟨p, 0, none⟩)] u (Did (.agg #[.int .i64 t.kind, .string ⟨t.text.toArray⟩, .int .u64 t.v]) p l g u)) := Lib.hid fun u hu => by have := next_r hu; rwa [ht] at this
  obtain ⟨X, hX⟩ : ∃ X, X = w.heap.size := ⟨_, rfl⟩
  rw [← hX] at h0
  clear h ht
  go_enter Tryz.func69, Tryz.ntmps69
  go_wp2_with fail
  rw [← hX]
  clear hX
  generalize w.alloc (.cells ozC 38) = W0 at h0 ⊢
  refine (HN.out _ h0.out.r).mono ?_
  rintro e u ⟨rfl, hR, hK⟩
  have HX1 := Lib.hid (h0.out.call hR hK)
  have HL := Lib.hid (lay_t hR hK t)
  have HX2 : Hid (RX w (layT u t) p X l g) := Lib.hid (HX1.out.lay _)
  clear hR hK
  obtain ⟨x0, x1, x2⟩ := HL.out.2.2.1.cells
  subst hl
  obtain ⟨k, m, k1, k2, k3, HS⟩ := HX2.out.step
  have HS := Lib.hid HS
  go_wp2_with fail
  refine (want_any HS.out.r [58] HD.out).mono ?_
  rintro e u2 ⟨rfl, hR, hK⟩
  have HX3 := Lib.hid (HS.out.call hR hK)
  clear hR hK
  go_wp2_with fail
  refine (expr_no HX3.out.r HE.out).mono ?_
  rintro e u3 ⟨rfl, hK⟩
  exact ⟨rfl, rfl, KP.trans' HX3.out.k hK⟩
set_option maxRecDepth 100000 in
set_option maxHeartbeats 4000000 in
theorem low_no4 {w : World} {p : Nat} {l r r1 r2 : List Ti} {g g1 g2 m : Bool} {t : Ti} {x : Unit} {v : Int} (h : RR w p l g) (hl : l = t :: r) (c1 : (t.kind != 1) = false) (c2 : (!(t.text == loB)) = false) (hd : wantP [58] r = some (x, r1, g1)) (he : exprP r1 = some (⟨2, 0, false, m, v, [], 0⟩, r2, g2)) :
    Calls Tryz.prog 69 #[.pointer (some ⟨p, 0, none⟩)] w (Thr p w) := by
  have HD := Lib.hid hd
  have HE : Hid (∀ u g, RR u p r1 g → Calls Tryz.prog 68 #[.pointer (some ⟨p, 0, none⟩)] u (Did (.iface 107 (.agg #[.bool m, .int .u64 v])) p r2 (g || g2) u)) := Lib.hid fun u g hu => expr_ok hu he
  clear hd he
  have ht : nextT l = t := by rw [hl]; rfl
  have h0 := Lib.hid (RX.mk0 h)
  have HZ := zeroOpnd
  have HTa := assert_sym
  have HTn := assert_num
  have HN : Hid (∀ u, RR u p l g → Calls Tryz.prog 61 #[.pointer (some ⟨p, 0, none⟩)] u (Did (.agg #[.int .i64 t.kind, .string ⟨t.text.toArray⟩, .int .u64 t.v]) p l g u)) := Lib.hid fun u hu => by have := next_r hu; rwa [ht] at this
  obtain ⟨X, hX⟩ : ∃ X, X = w.heap.size := ⟨_, rfl⟩
  rw [← hX] at h0
  clear h ht
  go_enter Tryz.func69, Tryz.ntmps69
  go_wp2_with fail
  rw [← hX]
  clear hX
  generalize w.alloc (.cells ozC 38) = W0 at h0 ⊢
  refine (HN.out _ h0.out.r).mono ?_
  rintro e u ⟨rfl, hR, hK⟩
  have HX1 := Lib.hid (h0.out.call hR hK)
  have HL := Lib.hid (lay_t hR hK t)
  have HX2 : Hid (RX w (layT u t) p X l g) := Lib.hid (HX1.out.lay _)
  clear hR hK
  obtain ⟨x0, x1, x2⟩ := HL.out.2.2.1.cells
  subst hl
  obtain ⟨k, m, k1, k2, k3, HS⟩ := HX2.out.step
  have HS := Lib.hid HS
  go_wp2_with fail
  refine (want_any HS.out.r [58] HD.out).mono ?_
  rintro e u2 ⟨rfl, hR, hK⟩
  have HX3 := Lib.hid (HS.out.call hR hK)
  clear hR hK
  go_wp2_with fail
  refine (HE.out _ _ HX3.out.r).mono ?_
  rintro e u3 ⟨rfl, hR, hK⟩
  have HX4 := Lib.hid (HX3.out.call hR hK)
  clear hR hK
  go_wp2
  exact ⟨rfl, rfl, (HX4.out.lay _).k⟩
set_option maxRecDepth 100000 in
set_option maxHeartbeats 4000000 in
theorem low_yes {w : World} {p : Nat} {l r r1 r2 : List Ti} {g g1 g2 : Bool} {t : Ti} {x : Unit} {s : List UInt8} {a : Int} (h : RR w p l g) (hl : l = t :: r) (c1 : (t.kind != 1) = false) (c2 : (!(t.text == loB)) = false) (hd : wantP [58] r = some (x, r1, g1)) (he : exprP r1 = some (⟨3, 0, false, false, 0, s, a⟩, r2, g2)) :
    Calls Tryz.prog 69 #[.pointer (some ⟨p, 0, none⟩)] w (Did (poV ⟨6, 0, false, false, 0, s, a⟩) p r2 ((g || g1) || g2) w) := by
  have HD := Lib.hid hd
  have HE : Hid (∀ u g, RR u p r1 g → Calls Tryz.prog 68 #[.pointer (some ⟨p, 0, none⟩)] u (Did (.iface 141 (.agg #[.string ⟨s.toArray⟩, .int .i64 a])) p r2 (g || g2) u)) := Lib.hid fun u g hu => expr_ok hu he
  clear hd he
  have ht : nextT l = t := by rw [hl]; rfl
  have h0 := Lib.hid (RX.mk0 h)
  have HZ := zeroOpnd
  have HTa := assert_sym
  have HTn := assert_num
  have HN : Hid (∀ u, RR u p l g → Calls Tryz.prog 61 #[.pointer (some ⟨p, 0, none⟩)] u (Did (.agg #[.int .i64 t.kind, .string ⟨t.text.toArray⟩, .int .u64 t.v]) p l g u)) := Lib.hid fun u hu => by have := next_r hu; rwa [ht] at this
  obtain ⟨X, hX⟩ : ∃ X, X = w.heap.size := ⟨_, rfl⟩
  rw [← hX] at h0
  clear h ht
  go_enter Tryz.func69, Tryz.ntmps69
  go_wp2_with fail
  rw [← hX]
  clear hX
  generalize w.alloc (.cells ozC 38) = W0 at h0 ⊢
  refine (HN.out _ h0.out.r).mono ?_
  rintro e u ⟨rfl, hR, hK⟩
  have HX1 := Lib.hid (h0.out.call hR hK)
  have HL := Lib.hid (lay_t hR hK t)
  have HX2 : Hid (RX w (layT u t) p X l g) := Lib.hid (HX1.out.lay _)
  clear hR hK
  obtain ⟨x0, x1, x2⟩ := HL.out.2.2.1.cells
  subst hl
  obtain ⟨k, m, k1, k2, k3, HS⟩ := HX2.out.step
  have HS := Lib.hid HS
  go_wp2_with fail
  refine (want_any HS.out.r [58] HD.out).mono ?_
  rintro e u2 ⟨rfl, hR, hK⟩
  have HX3 := Lib.hid (HS.out.call hR hK)
  clear hR hK
  go_wp2_with fail
  refine (HE.out _ _ HX3.out.r).mono ?_
  rintro e u3 ⟨rfl, hR, hK⟩
  have HX4 := Lib.hid (HX3.out.call hR hK)
  clear hR hK
  have s0 : (u3.alloc (.cells #[.string ⟨s.toArray⟩, .int .i64 a] 141)).cell? ⟨u3.heap.size, 0, none⟩ = some (.string ⟨s.toArray⟩) := by rw [World.cell?, (MapKept.heap_alloc u3 _).1]; rfl
  have s1 : (u3.alloc (.cells #[.string ⟨s.toArray⟩, .int .i64 a] 141)).cell? ⟨u3.heap.size, 1, none⟩ = some (.int .i64 a) := by rw [World.cell?, (MapKept.heap_alloc u3 _).1]; rfl
  go_wp2_with fail
  refine (opnd_symbol s a _).mono ?_
  rintro e u4 ⟨rfl, hB⟩
  have HX5 := Lib.hid ((HX4.out.lay _).next hB)
  clear hB
  obtain ⟨q1, q2⟩ := HX5.out.turn ⟨6, 0, false, false, 0, s, a⟩
  obtain ⟨b0, b1, b2, b3, b4, b5, b6, b7, b8⟩ := q2.seven
  obtain ⟨y0, y1, y2, y3, y4, y5, y6, y7, y8⟩ := q1.facts
  have HQ := Lib.hid (q1.done ⟨6, 0, false, false, 0, s, a⟩)
  have f0 := y7 0
  have f1 := y7 1
  have f2 := y7 2
  have f3 := y7 3
  have f4 := y7 4
  have f5 := y7 5
  have f6 := y7 6
  clear q1 q2 s0 s1
  go_wp2
  refine bodyPost_ret (results_cell_row (P := Tryz.prog) rfl _ _ X 38 _ (0, 0) _ rfl HQ.out.2.2 Tryz.underlying38 rfl (by kernel_rfl)) rfl ?_
  exact ⟨rfl, HQ.out.1, HQ.out.2.1⟩
end Go.Proofs.YthejefldnpeciaaGreatDoor
