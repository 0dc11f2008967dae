/- operand: Parse. -/
import Derived.Test.YtngoipcjipbelaaDoorOT
namespace Go.Proofs.YtngoipcjipbelaaDoor
set_option linter.unusedVariables false
set_option linter.unusedSimpArgs false
open Go.ChangeShapes Go.WideShapes Go.Deep Go.RowKit

theorem PSt.thr {w u u' : World} {B : Nat} {v : Value} {os : List Po} {l : List Ti} {g : Bool} (h : PSt w u B v os l g) (hK : KP (B + 2) u u') :
    u'.heap[B]? = some (.cells #[v] 44 (0, 0)) ∧ u'.heap[B + 1]? = some (.cells #[.int .i64 0] 22 (0, 0)) ∧ Below w.heap.size w u' :=
  ⟨(hK.block B (lt_of_block h.b) (fun e => by simp at e)).trans h.b, (hK.block (B + 1) (lt_of_block h.c) (fun e => by simp at e)).trans h.c, KP.to_below h.k hK (by rw [h.e]; omega)⟩
abbrev pW0 (w : World) (a : Option Addr) (n c : Nat) : World := ((w.alloc (.cells #[.slice none 0 0] 44)).alloc (.cells #[.int .i64 0] 22)).alloc (.cells #[.slice a n c, .int .i64 0, .bool false] 89)
theorem PSt.mk0 {w : World} {a : Option Addr} {c : Nat} {ts : List Ti} (hsl : SL tiC 3 w w.heap.size a ts.length ts) (hT : TabO w) (hg : GoodTs ts) (hn : ts.length ≤ 1000000) : PSt w (pW0 w a ts.length c) w.heap.size (.slice none 0 0) [] ts false := by
  have s1 : (w.alloc (.cells #[.slice none 0 0] 44)).heap.size = w.heap.size + 1 := World.size_alloc _ _
  have s2 : ((w.alloc (.cells #[.slice none 0 0] 44)).alloc (.cells #[.int .i64 0] 22)).heap.size = w.heap.size + 2 := by rw [World.size_alloc, s1]
  have hb : Below w.heap.size w (pW0 w a ts.length c) := (((Below.refl _ w).alloc (Nat.le_refl _) _).alloc (by rw [s1]; omega) _).alloc (by rw [s2]; omega) _
  have e0 : (pW0 w a ts.length c).heap[w.heap.size + 2]? = some (.cells #[.slice a ts.length c, .int .i64 0, .bool false] 89 (0, 0)) := by
    rw [← s2]; exact (MapKept.heap_alloc _ _).1
  have e1 : (pW0 w a ts.length c).heap[w.heap.size + 1]? = some (.cells #[.int .i64 0] 22 (0, 0)) := by
    rw [Below.heap_alloc _ _ _ (by rw [s2]; omega), ← s1]; exact (MapKept.heap_alloc _ _).1
  have e2 : (pW0 w a ts.length c).heap[w.heap.size]? = some (.cells #[.slice none 0 0] 44 (0, 0)) := by
    rw [Below.heap_alloc _ _ _ (by rw [s2]; omega), Below.heap_alloc _ _ _ (by rw [s1]; omega)]; exact (MapKept.heap_alloc _ _).1
  exact ⟨⟨ts, 0, hn, hg, by omega, rfl, ⟨a, c, e0, hsl.below hb⟩, w, hT, by omega, hb⟩, e2, World.ownsRow_nil _ _ _ _, e1, hb, rfl, by simpa using hn⟩
theorem PSt.put2 {w u : World} {B : Nat} {v x : Value} {os : List Po} {l : List Ti} {g : Bool} {y : Int} (h : PSt w u B v os l g) :
    ((u.setCell ⟨B, 0, none⟩ x).setCell ⟨B + 1, 0, none⟩ (.int .i64 y)).heap[B]? = some (.cells #[x] 44 (0, 0)) ∧ ((u.setCell ⟨B, 0, none⟩ x).setCell ⟨B + 1, 0, none⟩ (.int .i64 y)).heap[B + 1]? = some (.cells #[.int .i64 y] 22 (0, 0)) ∧
    Below w.heap.size w ((u.setCell ⟨B, 0, none⟩ x).setCell ⟨B + 1, 0, none⟩ (.int .i64 y)) := by
  have he := h.e
  refine ⟨(hother (by omega)).trans (hset h.b), hset ((hother (by omega)).trans h.c), ?_⟩
  exact (h.k.setCell (p := ⟨B, 0, none⟩) (by show w.heap.size ≤ B; omega) _).setCell (p := ⟨B + 1, 0, none⟩) (by show w.heap.size ≤ B + 1; omega) _
theorem PSt.own2 {w u : World} {B : Nat} {v : Value} {os : List Po} {l : List Ti} {g : Bool} {y : Int} (h : PSt w u B v os l g) :
    ((u.setCell ⟨B, 0, none⟩ v).setCell ⟨B + 1, 0, none⟩ (.int .i64 y)).ownsRow (B + 3) 86 7 v os.length (os.flatMap poC) := by
  have key : ∀ (u' : World) (k : Nat) (x : Value), k < B + 3 → u'.ownsRow (B + 3) 86 7 v os.length (os.flatMap poC) → (u'.setCell ⟨k, 0, none⟩ x).ownsRow (B + 3) 86 7 v os.length (os.flatMap poC) := by
    intro u' k x hk ho
    refine ho.kept (KP.step k u' 0 x) ?_
    cases hv : v.ownBlock with
    | none => exact .inl rfl
    | some g => right; have := (ho.lt g hv).1; simp; omega
  exact key _ _ _ (by omega) (key _ _ _ (by omega) h.o)
set_option maxRecDepth 100000 in
set_option maxHeartbeats 8000000 in
theorem Parse_empty {w : World} {a : Option Addr} {c : Nat} {ts : List Ti} (hsl : SL tiC 3 w w.heap.size a ts.length ts) (hT : TabO w) (hg : GoodTs ts) (hn : ts.length ≤ 1000000) (hts : ts.isEmpty = true) :
    Calls Tryd.prog 27 #[.slice a ts.length c] w (ParseP ts w) := by
  have HR : Hid (parseL ts = ([], 0)) := Lib.hid (by cases ts with | nil => rfl | cons t r => cases hts)
  have hmf : ∀ (fn : Fn) (first cap : Array Value) (w : World), (Instr.makeFunc fn first cap).run Tryd.prog w = .ok (.func fn first cap) w := fun _ _ _ _ => rfl
  have hE : ∀ w, (zeroValue 22).run Tryd.prog w = .ok (.int .i64 0) w := fun w => by kernel_rfl
  obtain ⟨B, hB⟩ : ∃ B, B = w.heap.size := ⟨_, rfl⟩
  have h0 := Lib.hid (PSt.mk0 (c := c) hsl hT hg hn)
  rw [← hB] at h0
  obtain ⟨n, hnn⟩ : ∃ n, n = ts.length := ⟨_, rfl⟩
  rw [← hnn] at h0 ⊢
  have HE := Lib.hid hts
  clear hsl hT hg hn hnn hts
  go_enter_defers Tryd.func27, Tryd.ntmps27
  go_wp2_with fail
  rw [← hB]
  clear hB
  rw [show B + 1 + 1 = B + 2 from rfl]
  change Hid (PSt w (((w.alloc (.cells #[.slice none 0 0] 44)).alloc (.cells #[.int .i64 0] 22)).alloc (.cells #[.slice a n c, .int .i64 0, .bool false] 89)) B (.slice none 0 0) [] ts false) at h0
  generalize ((w.alloc (.cells #[.slice none 0 0] 44)).alloc (.cells #[.int .i64 0] 22)).alloc (.cells #[.slice a n c, .int .i64 0, .bool false] 89) = W0 at h0 ⊢
  refine (ended_r h0.out.r).mono ?_
  rintro e u1 ⟨rfl, hR, hK⟩
  rw [HE.out]
  have H1 := Lib.hid (h0.out.call hR hK (Nat.le_refl _))
  clear hR hK
  obtain ⟨f0, f1, f2, f3, f4, f5⟩ := H1.out.facts
  have HQ := Lib.hid (H1.out.put2 (x := .slice none 0 0) (y := 0))
  go_wp2
  refine leaves_cons (f := 50) (args := #[.pointer (some ⟨B, 0, none⟩), .pointer (some ⟨B + 1, 0, none⟩)]) (by simp) (by simp [go_sem]) ?_
  refine (pidle B (B + 1) _).mono ?_
  rintro e u' w4 ⟨rfl, rfl, hw4⟩
  have b0 : w4.cell? ⟨B, 0, none⟩ = some (.slice none 0 0) := by rw [hw4, World.cell?, HQ.out.1]; rfl
  have d0 : w4.cell? ⟨B + 1, 0, none⟩ = some (.int .i64 0) := by rw [hw4, World.cell?, HQ.out.2.1]; rfl
  simp [Leaves, settle, results, Tryd.results27, go_sem, b0, d0]
  rw [hw4]
  exact ParseP.bad HR.out rfl HQ.out.2.2
set_option maxRecDepth 100000 in
set_option maxHeartbeats 8000000 in
theorem Parse_no1 {w : World} {a : Option Addr} {c : Nat} {ts : List Ti} (hsl : SL tiC 3 w w.heap.size a ts.length ts) (hT : TabO w) (hg : GoodTs ts) (hn : ts.length ≤ 1000000) (hts : ts.isEmpty = false) (hop : operP ts = none) :
    Calls Tryd.prog 27 #[.slice a ts.length c] w (ParseP ts w) := by
  have HR : Hid (parseL ts = ([], 3)) := Lib.hid (by
    rw [parse_res (by rintro rfl; cases hts)]
    unfold itemsL; rw [items_none hop]; rfl)
  have HO := Lib.hid hop
  have HBE := Lib.hid (rfl : w.heap.size = w.heap.size)
  clear hop
  have hmf : ∀ (fn : Fn) (first cap : Array Value) (w : World), (Instr.makeFunc fn first cap).run Tryd.prog w = .ok (.func fn first cap) w := fun _ _ _ _ => rfl
  have hE : ∀ w, (zeroValue 22).run Tryd.prog w = .ok (.int .i64 0) w := fun w => by kernel_rfl
  obtain ⟨B, hB⟩ : ∃ B, B = w.heap.size := ⟨_, rfl⟩
  have h0 := Lib.hid (PSt.mk0 (c := c) hsl hT hg hn)
  rw [← hB] at h0
  obtain ⟨n, hnn⟩ : ∃ n, n = ts.length := ⟨_, rfl⟩
  rw [← hnn] at h0 ⊢
  have HE := Lib.hid hts
  clear hsl hT hg hn hnn hts
  go_enter_defers Tryd.func27, Tryd.ntmps27
  go_wp2_with fail
  rw [← hB]
  replace HBE := Lib.hid hB
  clear hB
  rw [show B + 1 + 1 = B + 2 from rfl]
  change Hid (PSt w (((w.alloc (.cells #[.slice none 0 0] 44)).alloc (.cells #[.int .i64 0] 22)).alloc (.cells #[.slice a n c, .int .i64 0, .bool false] 89)) B (.slice none 0 0) [] ts false) at h0
  generalize ((w.alloc (.cells #[.slice none 0 0] 44)).alloc (.cells #[.int .i64 0] 22)).alloc (.cells #[.slice a n c, .int .i64 0, .bool false] 89) = W0 at h0 ⊢
  refine (ended_r h0.out.r).mono ?_
  rintro e u1 ⟨rfl, hR, hK⟩
  rw [HE.out]
  have H1 := Lib.hid (h0.out.call hR hK (Nat.le_refl _))
  clear hR hK
  obtain ⟨f0, f1, f2, f3, f4, f5⟩ := H1.out.facts
  go_wp2_with fail
  refine wp_region_any (by kernel_rfl) ?_
  try (change wpAny _ _ _ _ _ _ _ (World.drew _))
  refine wpAny_ready (rs := [0, 1]) (by kernel_rfl) (by simp) ?_
  refine AllReady.cons rfl (fun K hK => ?_) (AllReady.cons rfl (fun K hK => ?_) AllReady.nil)
  · go_simp
    refine hK _ _ ?_
    clear hK K
    refine wpAny_ready (rs := [1]) (by kernel_rfl) (by simp) ?_
    refine AllReady.cons rfl (fun K hK => ?_) AllReady.nil
    go_simp
    refine hK _ _ ?_
    clear hK K
    refine wpAny_ready (rs := [2]) (by kernel_rfl) (by simp) ?_
    refine AllReady.cons rfl (fun K hK => ?_) AllReady.nil
    go_simp
    go_at_call 52
    refine (oper_none (H1.out.r.drewN 1) HO.out).mono ?_
    rintro e u2 ⟨rfl, hK⟩
    have HF := Lib.hid ((H1.out.drewN 1).thr hK)
    refine leaves_cons (f := 50) (args := #[.pointer (some ⟨B, 0, none⟩), .pointer (some ⟨B + 1, 0, none⟩)]) (by simp) (by simp [go_sem]) ?_
    refine (pcatch B (B + 1) _ 0 _ _ [] _ HF.out.1 HF.out.2.1 (by omega)).mono ?_
    rintro e u' w4 ⟨rfl, rfl, hw4⟩
    have hB4 : w4.heap[B]? = some (.cells #[.slice none 0 0] 44 (0, 0)) := by rw [hw4]; exact (hother (by omega)).trans (hset HF.out.1)
    have hC4 : w4.heap[B + 1]? = some (.cells #[.int .i64 3] 22 (0, 0)) := by rw [hw4]; exact hset ((hother (by omega)).trans HF.out.2.1)
    have hb4 : Below w.heap.size w w4 := by
      rw [hw4]
      exact (HF.out.2.2.setCell (p := ⟨B, 0, none⟩) (by show w.heap.size ≤ B; rw [HBE.out]; exact Nat.le_refl _) _).setCell (p := ⟨B + 1, 0, none⟩) (by show w.heap.size ≤ B + 1; rw [HBE.out]; omega) _
    have b0 : w4.cell? ⟨B, 0, none⟩ = some (.slice none 0 0) := by rw [World.cell?, hB4]; rfl
    have d0 : w4.cell? ⟨B + 1, 0, none⟩ = some (.int .i64 3) := by rw [World.cell?, hC4]; rfl
    simp [Leaves, settle, results, Tryd.results27, go_sem, b0, d0]
    exact ParseP.bad HR.out rfl hb4
  · go_simp
    refine hK _ _ ?_
    clear hK K
    refine wpAny_ready (rs := [0, 2]) (by kernel_rfl) (by simp) ?_
    refine AllReady.cons rfl (fun K hK => ?_) (AllReady.cons rfl (fun K hK => ?_) AllReady.nil)
    · go_simp
      refine hK _ _ ?_
      clear hK K
      refine wpAny_ready (rs := [2]) (by kernel_rfl) (by simp) ?_
      refine AllReady.cons rfl (fun K hK => ?_) AllReady.nil
      go_simp
      go_at_call 52
      refine (oper_none (H1.out.r.drewN 1) HO.out).mono ?_
      rintro e u2 ⟨rfl, hK⟩
      have HF := Lib.hid ((H1.out.drewN 1).thr hK)
      refine leaves_cons (f := 50) (args := #[.pointer (some ⟨B, 0, none⟩), .pointer (some ⟨B + 1, 0, none⟩)]) (by simp) (by simp [go_sem]) ?_
      refine (pcatch B (B + 1) _ 0 _ _ [] _ HF.out.1 HF.out.2.1 (by omega)).mono ?_
      rintro e u' w4 ⟨rfl, rfl, hw4⟩
      have hB4 : w4.heap[B]? = some (.cells #[.slice none 0 0] 44 (0, 0)) := by rw [hw4]; exact (hother (by omega)).trans (hset HF.out.1)
      have hC4 : w4.heap[B + 1]? = some (.cells #[.int .i64 3] 22 (0, 0)) := by rw [hw4]; exact hset ((hother (by omega)).trans HF.out.2.1)
      have hb4 : Below w.heap.size w w4 := by
        rw [hw4]
        exact (HF.out.2.2.setCell (p := ⟨B, 0, none⟩) (by show w.heap.size ≤ B; rw [HBE.out]; exact Nat.le_refl _) _).setCell (p := ⟨B + 1, 0, none⟩) (by show w.heap.size ≤ B + 1; rw [HBE.out]; omega) _
      have b0 : w4.cell? ⟨B, 0, none⟩ = some (.slice none 0 0) := by rw [World.cell?, hB4]; rfl
      have d0 : w4.cell? ⟨B + 1, 0, none⟩ = some (.int .i64 3) := by rw [World.cell?, hC4]; rfl
      simp [Leaves, settle, results, Tryd.results27, go_sem, b0, d0]
      exact ParseP.bad HR.out rfl hb4
    · go_simp
      go_at_call 52
      refine (oper_none (H1.out.r.drewN 1) HO.out).mono ?_
      rintro e u2 ⟨rfl, hK⟩
      have HF := Lib.hid ((H1.out.drewN 1).thr hK)
      refine leaves_cons (f := 50) (args := #[.pointer (some ⟨B, 0, none⟩), .pointer (some ⟨B + 1, 0, none⟩)]) (by simp) (by simp [go_sem]) ?_
      refine (pcatch B (B + 1) _ 0 _ _ [] _ HF.out.1 HF.out.2.1 (by omega)).mono ?_
      rintro e u' w4 ⟨rfl, rfl, hw4⟩
      have hB4 : w4.heap[B]? = some (.cells #[.slice none 0 0] 44 (0, 0)) := by rw [hw4]; exact (hother (by omega)).trans (hset HF.out.1)
      have hC4 : w4.heap[B + 1]? = some (.cells #[.int .i64 3] 22 (0, 0)) := by rw [hw4]; exact hset ((hother (by omega)).trans HF.out.2.1)
      have hb4 : Below w.heap.size w w4 := by
        rw [hw4]
        exact (HF.out.2.2.setCell (p := ⟨B, 0, none⟩) (by show w.heap.size ≤ B; rw [HBE.out]; exact Nat.le_refl _) _).setCell (p := ⟨B + 1, 0, none⟩) (by show w.heap.size ≤ B + 1; rw [HBE.out]; omega) _
      have b0 : w4.cell? ⟨B, 0, none⟩ = some (.slice none 0 0) := by rw [World.cell?, hB4]; rfl
      have d0 : w4.cell? ⟨B + 1, 0, none⟩ = some (.int .i64 3) := by rw [World.cell?, hC4]; rfl
      simp [Leaves, settle, results, Tryd.results27, go_sem, b0, d0]
      exact ParseP.bad HR.out rfl hb4
end Go.Proofs.YtngoipcjipbelaaDoor
