/- operand: opnd, atReg, reg, expression. -/
import Derived.Test.YtngoipcjipbelaaDoorOH
namespace Go.Proofs.YtngoipcjipbelaaDoor
set_option linter.unusedVariables false
set_option linter.unusedSimpArgs false
open Go.ChangeShapes Go.WideShapes Go.Deep Go.RowKit

abbrev poV (o : Po) : Value := .agg #[.int .i64 o.kind, .int .i64 o.reg, .bool o.stack, .bool o.minus, .int .u64 o.v, .string ⟨o.sym.toArray⟩, .int .i64 o.add]
set_option maxRecDepth 100000 in
set_option maxHeartbeats 2000000 in
theorem opnd_number (m : Bool) (v : Int) (w : World) :
    Calls Tryd.prog 84 #[.agg #[.bool m, .int .u64 v]] w (RetB (poV ⟨2, 0, false, m, v, [], 0⟩) w) := by
  go_enter Tryd.func84, Tryd.ntmps84
  go_wp2
  have hb := (((Below.refl _ w).alloc (Nat.le_refl _) (.cells #[.bool m, .int .u64 v] 120))).alloc (Nat.le_trans (Nat.le_succ _) (by rw [World.size_alloc]; exact Nat.le_refl _)) (.cells #[.int .i64 2, .int .i64 0, .bool false, .bool m, .int .u64 v, .string ⟨#[]⟩, .int .i64 0] 86)
  have hX : ((w.alloc (.cells #[.bool m, .int .u64 v] 120)).alloc (.cells #[.int .i64 2, .int .i64 0, .bool false, .bool m, .int .u64 v, .string ⟨#[]⟩, .int .i64 0] 86)).heap[w.heap.size + 1]? = some (.cells #[.int .i64 2, .int .i64 0, .bool false, .bool m, .int .u64 v, .string ⟨#[]⟩, .int .i64 0] 86 (0, 0)) := by
    have := (MapKept.heap_alloc (w.alloc (.cells #[.bool m, .int .u64 v] 120)) (.cells #[.int .i64 2, .int .i64 0, .bool false, .bool m, .int .u64 v, .string ⟨#[]⟩, .int .i64 0] 86)).1
    rwa [World.size_alloc] at this
  refine bodyPost_ret (results_cell_row (P := Tryd.prog) rfl _ _ (w.heap.size + 1) 86 _ (0, 0) _ rfl hX Tryd.underlying86 rfl (by kernel_rfl)) rfl ?_
  exact ⟨rfl, hb⟩
set_option maxRecDepth 100000 in
set_option maxHeartbeats 2000000 in
theorem opnd_symbol (s : List UInt8) (a : Int) (w : World) :
    Calls Tryd.prog 97 #[.agg #[.string ⟨s.toArray⟩, .int .i64 a]] w (RetB (poV ⟨3, 0, false, false, 0, s, a⟩) w) := by
  go_enter Tryd.func97, Tryd.ntmps97
  go_wp2
  have hb := (((Below.refl _ w).alloc (Nat.le_refl _) (.cells #[.string ⟨s.toArray⟩, .int .i64 a] 132))).alloc (Nat.le_trans (Nat.le_succ _) (by rw [World.size_alloc]; exact Nat.le_refl _)) (.cells #[.int .i64 3, .int .i64 0, .bool false, .bool false, .int .u64 0, .string ⟨s.toArray⟩, .int .i64 a] 86)
  have hX : ((w.alloc (.cells #[.string ⟨s.toArray⟩, .int .i64 a] 132)).alloc (.cells #[.int .i64 3, .int .i64 0, .bool false, .bool false, .int .u64 0, .string ⟨s.toArray⟩, .int .i64 a] 86)).heap[w.heap.size + 1]? = some (.cells #[.int .i64 3, .int .i64 0, .bool false, .bool false, .int .u64 0, .string ⟨s.toArray⟩, .int .i64 a] 86 (0, 0)) := by
    have := (MapKept.heap_alloc (w.alloc (.cells #[.string ⟨s.toArray⟩, .int .i64 a] 132)) (.cells #[.int .i64 3, .int .i64 0, .bool false, .bool false, .int .u64 0, .string ⟨s.toArray⟩, .int .i64 a] 86)).1
    rwa [World.size_alloc] at this
  refine bodyPost_ret (results_cell_row (P := Tryd.prog) rfl _ _ (w.heap.size + 1) 86 _ (0, 0) _ rfl hX Tryd.underlying86 rfl (by kernel_rfl)) rfl ?_
  exact ⟨rfl, hb⟩
theorem fld0 (a b c : Value) (w : World) : (Instr.field 31 (.agg #[a, b, c]) 0).run Tryd.prog w = .ok a w := by kernel_rfl
theorem fld1 (a b c : Value) (w : World) : (Instr.field 31 (.agg #[a, b, c]) 1).run Tryd.prog w = .ok b w := by kernel_rfl
set_option maxRecDepth 100000 in
set_option maxHeartbeats 2000000 in
theorem atReg_any {w : World} {p : Nat} {l : List Ti} {g : Bool} (h : RR w p l g) :
    Calls Tryd.prog 78 #[.pointer (some ⟨p, 0, none⟩)] w (Did (.bool (isRg (nextT l))) p l g w) := by
  have h0 := Lib.hid h
  obtain ⟨t, ht⟩ : ∃ t, nextT l = t := ⟨_, rfl⟩
  obtain ⟨r1, r2, r3, hr⟩ : ∃ r1 r2 r3, regL t.text = (r1, r2, r3) := ⟨_, _, _, rfl⟩
  have HV : Hid (∀ u, TabO u → Calls Tryd.prog 20 #[.string ⟨t.text.toArray⟩] u (RetB (regV (r1, r2, r3)) u)) := Lib.hid fun u hu => by
    have := Reg_any ⟨t.text.toArray⟩ u hu.2.1
    rw [show (⟨t.text.toArray⟩ : ByteArray).data.toList = t.text by simp, hr] at this
    exact this
  have HE : Hid (isRg t = (t.kind == 1 && r3 == 0)) := Lib.hid (by unfold isRg; rw [hr])
  have HT := Lib.hid ht
  clear h hr
  have HN : Hid (∀ u, RR u p l g → Calls Tryd.prog 74 #[.pointer (some ⟨p, 0, none⟩)] u (Did (.agg #[.int .i64 t.kind, .string ⟨t.text.toArray⟩, .int .u64 t.v]) p l g u)) := Lib.hid fun u hu => by have := next_r hu; rwa [ht] at this
  rw [ht]
  clear ht
  have hf0 := fld0
  have hf1 := fld1
  go_enter Tryd.func78, Tryd.ntmps78
  go_wp2_with fail
  refine (HN.out _ h0.out).mono ?_
  rintro e u ⟨rfl, hR, hK⟩
  have HR1 := Lib.hid hR
  have HK1 := Lib.hid hK
  clear hR hK
  go_wp2_with fail
  refine (HV.out _ HR1.out.tab).mono ?_
  rintro e u2 ⟨rfl, hB⟩
  have HR2 := Lib.hid (HR1.out.next hB)
  have HK2 := Lib.hid (KP.trans' HK1.out (KP.of_below (p := p) hB))
  clear hB
  go_wp2_with fail
  refine (HN.out _ HR2.out).mono ?_
  rintro e u3 ⟨rfl, hR, hK⟩
  have HR3 := Lib.hid hR
  have HK3 := Lib.hid (KP.trans' HK2.out hK)
  clear hR hK
  have hE := HE.out
  cases c : (t.kind == 1)
  all_goals rw [c] at hE
  all_goals go_wp2
  all_goals go_ret
  all_goals exact ⟨by rw [hE]; rfl, HR3.out, HK3.out⟩
set_option maxRecDepth 100000 in
set_option maxHeartbeats 2000000 in
theorem reg_no {w : World} {p : Nat} {l : List Ti} {g : Bool} (h : RR w p l g) (hd : regP l = none) :
    Calls Tryd.prog 79 #[.pointer (some ⟨p, 0, none⟩)] w (Thr p w) := by
  have hr : isRg (nextT l) = false := by
    rcases one_none hd with rfl | ⟨t, r, rfl, e⟩
    · rfl
    · split at e
      · cases e
      · rename_i c; simpa [nextT] using c
  have HN := Lib.hid (atReg_any h)
  rw [hr] at HN
  clear h hr hd
  go_enter Tryd.func79, Tryd.ntmps79
  go_wp2_with fail
  refine HN.out.mono ?_
  rintro e u ⟨rfl, hR, hK⟩
  have HK1 := Lib.hid hK
  clear hR hK
  go_wp2
  exact ⟨rfl, rfl, HK1.out⟩
theorem reg_ok {w : World} {p : Nat} {l r : List Ti} {g g' : Bool} {a : Int × Bool} (h : RR w p l g) (hd : regP l = some (a, r, g')) :
    Calls Tryd.prog 79 #[.pointer (some ⟨p, 0, none⟩)] w (Did (.tuple #[.int .i64 a.1, .bool a.2]) p r (g || g') w) := by
  obtain ⟨t, rfl, e⟩ := one_some hd
  clear hd
  split at e
  · rename_i c
    obtain ⟨r1, r2, r3, hr⟩ : ∃ r1 r2 r3, regL t.text = (r1, r2, r3) := ⟨_, _, _, rfl⟩
    rw [hr] at e
    cases e
    rw [Bool.or_false]
    have HA : Hid (Calls Tryd.prog 78 #[.pointer (some ⟨p, 0, none⟩)] w (Did (.bool true) p (t :: r) g w)) := Lib.hid (by
      have := atReg_any h
      rwa [show isRg (nextT (t :: r)) = true from c] at this)
    have HV : Hid (∀ u, TabO u → Calls Tryd.prog 20 #[.string ⟨t.text.toArray⟩] u (RetB (regV (r1, r2, r3)) u)) := Lib.hid fun u hu => by
      have := Reg_any ⟨t.text.toArray⟩ u hu.2.1
      rw [show (⟨t.text.toArray⟩ : ByteArray).data.toList = t.text by simp, hr] at this
      exact this
    have HN : Hid (∀ u, RR u p (t :: r) g → Calls Tryd.prog 74 #[.pointer (some ⟨p, 0, none⟩)] u (Did (.agg #[.int .i64 t.kind, .string ⟨t.text.toArray⟩, .int .u64 t.v]) p (t :: r) g u)) := Lib.hid fun u hu => next_r hu
    clear h c hr
    have hf0 := fld0
    have hf1 := fld1
    go_enter Tryd.func79, Tryd.ntmps79
    go_wp2_with fail
    refine HA.out.mono ?_
    rintro e u ⟨rfl, hR, hK⟩
    have HR1 := Lib.hid hR
    have HK1 := Lib.hid hK
    clear hR hK
    go_wp2_with fail
    refine (HN.out _ HR1.out).mono ?_
    rintro e u2 ⟨rfl, hR, hK⟩
    have HR2 := Lib.hid hR
    have HK2 := Lib.hid (KP.trans' HK1.out hK)
    clear hR hK
    go_wp2_with fail
    refine (HV.out _ HR2.out.tab).mono ?_
    rintro e u3 ⟨rfl, hB⟩
    have HR3 := Lib.hid (HR2.out.next hB)
    have HK3 := Lib.hid (KP.trans' HK2.out (KP.of_below (p := p) hB))
    clear hB
    obtain ⟨k, m, k1, k2, k3, HS⟩ := HR3.out.step
    have HS := Lib.hid HS
    go_wp2
    go_ret2
    exact ⟨rfl, HS.out, KP.trans' HK3.out (KP.step _ _ _ _)⟩
  · cases e
end Go.Proofs.YtngoipcjipbelaaDoor
