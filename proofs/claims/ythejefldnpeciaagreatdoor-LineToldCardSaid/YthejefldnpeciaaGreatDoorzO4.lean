/- operand: numbers. -/
import Derived.Test.YthejefldnpeciaaGreatDoorzO3
namespace Go.Proofs.YthejefldnpeciaaGreatDoor
set_option linter.unusedVariables false
set_option linter.unusedSimpArgs false
open Go.ChangeShapes Go.WideShapes Go.Deep Go.RowKit

theorem bind_some {α β : Type} {f : Pr α} {k : α → Pr β} {l r : List Ti} {b : β} {g : Bool} (h : bindP f k l = some (b, r, g)) : ∃ a r1 g1 g2, f l = some (a, r1, g1) ∧ k a r1 = some (b, r, g2) ∧ g = (g1 || g2) := by
  unfold bindP at h
  split at h
  · cases h
  · rename_i a r1 g1 h1
    split at h
    · cases h
    · rename_i b' r' g' h2
      simp only [Option.some.injEq, Prod.mk.injEq] at h
      obtain ⟨rfl, rfl, rfl⟩ := h
      exact ⟨a, r1, g1, g', h1, h2, rfl⟩
theorem bind_none {α β : Type} {f : Pr α} {k : α → Pr β} {l : List Ti} (h : bindP f k l = none) : f l = none ∨ ∃ a r1 g1, f l = some (a, r1, g1) ∧ k a r1 = none := by
  unfold bindP at h
  split at h
  · rename_i h1; exact .inl h1
  · rename_i a r1 g1 h1
    split at h
    · rename_i h2; exact .inr ⟨a, r1, g1, h1, h2⟩
    · cases h
theorem one_some {α : Type} {q : Ti → Option (α × Bool)} {l r : List Ti} {a : α} {g : Bool} (h : oneP q l = some (a, r, g)) : ∃ t, l = t :: r ∧ q t = some (a, g) := by
  unfold oneP at h
  split at h
  · cases h
  · rename_i t r'
    split at h
    · cases h
    · rename_i e
      simp only [Option.some.injEq, Prod.mk.injEq] at h
      obtain ⟨rfl, rfl, rfl⟩ := h
      exact ⟨t, rfl, e⟩
theorem one_none {α : Type} {q : Ti → Option (α × Bool)} {l : List Ti} (h : oneP q l = none) : l = [] ∨ ∃ t r, l = t :: r ∧ q t = none := by
  cases l with
  | nil => exact .inl rfl
  | cons t r =>
    refine .inr ⟨t, r, rfl, ?_⟩
    cases hq : q t with
    | none => rfl
    | some x => obtain ⟨x1, x2⟩ := x; simp [oneP, hq] at h
theorem pure_some {α : Type} {a b : α} {l r : List Ti} {g : Bool} (h : pureP a l = some (b, r, g)) : b = a ∧ r = l ∧ g = false := by unfold pureP at h; cases h; exact ⟨rfl, rfl, rfl⟩
theorem take_cases (s : List UInt8) (l : List Ti) : (∃ t r, l = t :: r ∧ isSg s t = true ∧ takeP s l = some (true, r, false)) ∨ (isSg s (nextT l) = false ∧ takeP s l = some (false, l, false)) := by
  cases c : isSg s (nextT l) with
  | false => refine .inr ⟨rfl, ?_⟩; unfold takeP ifP; rw [if_neg (by rw [c]; decide)]; rfl
  | true =>
    cases l with
    | nil => exact absurd c (by unfold isSg; simp [nextT])
    | cons t r => refine .inl ⟨t, r, rfl, c, ?_⟩; unfold takeP ifP; rw [if_pos c]; rfl
theorem take_any {w : World} {p : Nat} {l r : List Ti} {g m g' : Bool} (h : RR w p l g) (s : List UInt8) (ht : takeP s l = some (m, r, g')) :
    Calls Tryz.prog 63 #[.pointer (some ⟨p, 0, none⟩), .string ⟨s.toArray⟩] w (Did (.bool m) p r (g || g') w) := by
  rcases take_cases s l with ⟨t, r', rfl, hs, e⟩ | ⟨hs, e⟩
  · rw [e] at ht; cases ht
    rw [Bool.or_false]; exact take_yes h s hs
  · rw [e] at ht; cases ht
    rw [Bool.or_false]; exact take_no h s hs
theorem take_ne (s : List UInt8) (l : List Ti) : takeP s l ≠ none := by
  rcases take_cases s l with ⟨t, r, -, -, e⟩ | ⟨-, e⟩ <;> rw [e] <;> exact fun h => nomatch h
theorem want_any {w : World} {p : Nat} {l r : List Ti} {g g' : Bool} {x : Unit} (h : RR w p l g) (s : List UInt8) (ht : wantP s l = some (x, r, g')) :
    Calls Tryz.prog 33 #[.pointer (some ⟨p, 0, none⟩), .string ⟨s.toArray⟩] w (Did (.tuple #[]) p r (g || g') w) := by
  obtain ⟨t, rfl, e⟩ := one_some ht
  split at e
  · rename_i c
    cases e
    rw [Bool.or_false]; exact want_yes h s c
  · cases e
theorem want_none {w : World} {p : Nat} {l : List Ti} {g : Bool} (h : RR w p l g) (s : List UInt8) (ht : wantP s l = none) :
    Calls Tryz.prog 33 #[.pointer (some ⟨p, 0, none⟩), .string ⟨s.toArray⟩] w (Thr p w) := by
  refine want_no h s ?_
  rcases one_none ht with rfl | ⟨t, r, rfl, e⟩
  · unfold isSg; simp [nextT]
  · split at e
    · cases e
    · rename_i c; simpa [nextT] using c
theorem digits_range {l r : List Ti} {v : Int} {g : Bool} (h : digitsP l = some (v, r, g)) : 0 ≤ v ∧ v < 18446744073709551616 := by
  obtain ⟨t, -, e⟩ := one_some h
  unfold digQ at e
  have hr := valS_range t.text
  split at e
  · split at e
    · cases e; exact ⟨hr.1, hr.2.1⟩
    · split at e
      · cases e; omega
      · cases e
  · cases e
theorem digits_any {w : World} {p : Nat} {l r : List Ti} {g g' : Bool} {v : Int} (h : RR w p l g) (hd : digitsP l = some (v, r, g')) :
    Calls Tryz.prog 84 #[.pointer (some ⟨p, 0, none⟩)] w (Did (.int .u64 v) p r (g || g') w) := by
  obtain ⟨t, rfl, e⟩ := one_some hd
  exact digits_ok h e
/-- A block laid for a result. -/
def RB (w : World) (X : Nat) (cs : Array Value) (T : TypeId) : Prop := w.heap[X]? = some (.cells cs T (0, 0))
theorem RB.kept {w w' : World} {X p : Nat} {cs : Array Value} {T : TypeId} (h : RB w X cs T) (hk : KP p w w') (hne : X ≠ p) : RB w' X cs T := (hk.block X (lt_of_block h) (fun e => hne (by cases e; rfl))).trans h
theorem RB.next {w w' : World} {X : Nat} {cs : Array Value} {T : TypeId} (h : RB w X cs T) (hb : Below w.heap.size w w') : RB w' X cs T := (hb.block X (lt_of_block h)).trans h
theorem RB.cell {w : World} {X j : Nat} {cs : Array Value} {T : TypeId} (h : RB w X cs T) : w.cell? ⟨X, j, none⟩ = cs[j]? := by rw [World.cell?, h]; rfl
theorem RB.frozen {w : World} {X j : Nat} {cs : Array Value} {T : TypeId} (h : RB w X cs T) : w.frozen? ⟨X, j, none⟩ = false := by rw [World.frozen?, h]; rfl
theorem RB.set {w : World} {X j : Nat} {cs : Array Value} {T : TypeId} (h : RB w X cs T) (v : Value) : RB (w.setCell ⟨X, j, none⟩ v) X (cs.setIfInBounds j v) T := by
  unfold RB World.setCell
  simp [show w.heap[X]? = some (.cells cs T (0, 0)) from h, Array.getElem?_modify]
/-- Blocks laid at the start. -/
theorem start {w : World} {p : Nat} {l : List Ti} {g : Bool} (h : RR w p l g) (cs : Array Value) (T : TypeId) :
    RR (w.alloc (.cells cs T)) p l g ∧ KP p w (w.alloc (.cells cs T)) ∧ RB (w.alloc (.cells cs T)) w.heap.size cs T ∧ w.heap.size ≠ p := by
  have hb : Below w.heap.size w (w.alloc (.cells cs T)) := (Below.refl _ w).alloc (Nat.le_refl _) _
  exact ⟨h.next hb, KP.of_below hb, (MapKept.heap_alloc w _).1, by have := h.lt; omega⟩
/-- A cell of a block that is none of those that were there. -/
theorem RR.own {w : World} {p X j : Nat} {l : List Ti} {g : Bool} (h : RR w p l g) (hX : p < X) (v : Value) : RR (w.setCell ⟨X, j, none⟩ v) p l g :=
  h.below ((Below.refl X w).setCell (p := ⟨X, j, none⟩) (Nat.le_refl _) v) hX
theorem KP.own {w u : World} {p X j : Nat} (h : KP p w u) (hX : w.heap.size ≤ X) (v : Value) : KP p w (u.setCell ⟨X, j, none⟩ v) :=
  KP.below h ((Below.refl X u).setCell (p := ⟨X, j, none⟩) (Nat.le_refl _) v) hX
set_option maxRecDepth 100000 in
set_option maxHeartbeats 2000000 in
theorem number_ok {w : World} {p : Nat} {l r : List Ti} {g g' m : Bool} {v : Int} (h : RR w p l g) (hd : numberP l = some ((m, v), r, g')) :
    Calls Tryz.prog 70 #[.pointer (some ⟨p, 0, none⟩)] w (Did (.agg #[.bool m, .int .u64 v]) p r (g || g') w) := by
  obtain ⟨m1, r1, g1, g2, e1, hd2, rfl⟩ := bind_some hd
  obtain ⟨v1, r2, g3, g4, e2, hd3, rfl⟩ := bind_some hd2
  obtain ⟨e3, rfl, rfl⟩ := pure_some hd3
  cases e3
  have H1 := Lib.hid e1
  have H2 := Lib.hid e2
  obtain ⟨X, hX⟩ : ∃ X, X = w.heap.size := ⟨_, rfl⟩
  have hpX : p < X := by rw [hX]; exact h.lt
  have HS := Lib.hid (start h #[.bool false, .int .u64 0] 107)
  rw [← hX] at HS
  have HX := Lib.hid hX
  have HPX := Lib.hid hpX
  clear h e1 e2 hd hd2 hd3 hpX
  obtain ⟨b, hb⟩ : ∃ b, (v != 0) = b := ⟨_, rfl⟩
  have hgg : (g || (g1 || (g3 || false))) = ((g || g1) || g3) := by cases g <;> cases g1 <;> cases g3 <;> rfl
  rw [hgg]
  clear hgg
  cases m1
  all_goals
    go_enter Tryz.func70, Tryz.ntmps70
    go_wp2_with fail
    rw [← hX]
    clear hX
    generalize w.alloc (.cells #[.bool false, .int .u64 0] 107) = W0 at HS ⊢
    refine (take_any HS.out.1 [45] H1.out).mono ?_
    rintro e u1 ⟨rfl, hR, hK⟩
    have HR1 := Lib.hid hR
    have HB1 := Lib.hid (HS.out.2.2.1.kept hK HS.out.2.2.2)
    have HK1 := Lib.hid (KP.trans' HS.out.2.1 hK)
    clear hR hK
    go_wp2_with fail
    refine (plain_ok HR1.out H2.out).mono ?_
    rintro e u2 ⟨rfl, hR, hK⟩
    have HR2 := Lib.hid hR
    have HB2 := Lib.hid (HB1.out.kept hK HS.out.2.2.2)
    have HK2 := Lib.hid (KP.trans' HK1.out hK)
    clear hR hK
    have x0 := HB2.out.cell (j := 0)
    have x1 := HB2.out.cell (j := 1)
    have y0 := HB2.out.frozen (j := 0)
    have y1 := HB2.out.frozen (j := 1)
    have hXl : X < u2.heap.size := lt_of_block HB2.out
    go_wp2
    refine bodyPost_ret (results_cell_row (P := Tryz.prog) rfl _ _ X 107 _ (0, 0) _ rfl ((HB2.out.set (j := 0) _).set (j := 1) _) Tryz.underlying107 rfl (by kernel_rfl)) rfl ?_
    exact ⟨by simp [hb], (HR2.out.own HPX.out _).own HPX.out _, (HK2.out.own (by rw [HX.out]; exact Nat.le_refl _) _).own (by rw [HX.out]; exact Nat.le_refl _) _⟩
theorem number_no {w : World} {p : Nat} {l : List Ti} {g : Bool} (h : RR w p l g) (hd : numberP l = none) :
    Calls Tryz.prog 70 #[.pointer (some ⟨p, 0, none⟩)] w (Thr p w) := by
  rcases bind_none hd with hd | ⟨m1, r1, g1, e1, hd⟩
  · exact absurd hd (take_ne _ _)
  rcases bind_none hd with hd | ⟨v1, r2, g3, e2, hd⟩
  · have H1 := Lib.hid e1
    have H2 := Lib.hid hd
    obtain ⟨X, hX⟩ : ∃ X, X = w.heap.size := ⟨_, rfl⟩
    have HS := Lib.hid (start h #[.bool false, .int .u64 0] 107)
    rw [← hX] at HS
    clear h e1 hd
    go_enter Tryz.func70, Tryz.ntmps70
    go_wp2_with fail
    rw [← hX]
    clear hX
    generalize w.alloc (.cells #[.bool false, .int .u64 0] 107) = W0 at HS ⊢
    refine (take_any HS.out.1 [45] H1.out).mono ?_
    rintro e u1 ⟨rfl, hR, hK⟩
    have HR1 := Lib.hid hR
    have HK1 := Lib.hid (KP.trans' HS.out.2.1 hK)
    clear hR hK
    go_wp2_with fail
    refine (plain_no HR1.out H2.out).mono ?_
    rintro e u2 ⟨rfl, hK⟩
    exact ⟨rfl, rfl, KP.trans' HK1.out hK⟩
  · cases hd
set_option maxRecDepth 100000 in
set_option maxHeartbeats 2000000 in
theorem added_true {w : World} {p : Nat} {l r r0 r1 : List Ti} {g g0 g1 g' : Bool} {a : Int} (h : RR w p l g) (e1 : takeP [45] l = some (true, r0, g0)) (hd : addTo true r0 = some (a, r, g')) :
    Calls Tryz.prog 88 #[.pointer (some ⟨p, 0, none⟩)] w (Did (.int .i64 a) p r ((g || g0) || g') w) := by
  obtain ⟨v, r2, g3, g4, e3, hd2, rfl⟩ := bind_some hd
  clear hd
  have hd := hd2; clear hd2
  have hrng := digits_range e3
  obtain ⟨sa, se, hs⟩ : ∃ sa se, signS true v = (sa, se) := ⟨_, _, rfl⟩
  have HSg : Hid (∀ u, Calls Tryz.prog 90 #[.bool true, .int .u64 v] u (Ret (two .i64 .i64 (sa, se)) u)) := Lib.hid fun u => by
    have := Signed_any true v u hrng.1 hrng.2
    rwa [hs] at this
  rw [hs] at hd
  have h0 := Lib.hid h
  have H1 := Lib.hid e1
  have H3 := Lib.hid e3
  clear h e1 e3 hrng hs
  obtain ⟨b, hb⟩ : ∃ b, (se != 0) = b := ⟨_, rfl⟩
  simp only [hb] at hd
  cases b
  · cases hd
    rw [show ∀ x y : Bool, (x || (y || false)) = (x || y) by decide]
    go_enter Tryz.func88, Tryz.ntmps88
    go_wp2_with fail
    refine (take_any h0.out [45] H1.out).mono ?_
    rintro e u1 ⟨rfl, hR, hK⟩
    have HR1 := Lib.hid hR
    have HK1 := Lib.hid hK
    clear hR hK
    go_wp2_with fail
    refine (digits_any HR1.out H3.out).mono ?_
    rintro e u2 ⟨rfl, hR, hK⟩
    have HR2 := Lib.hid hR
    have HK2 := Lib.hid (KP.trans' HK1.out hK)
    clear hR hK
    go_wp2_with fail
    refine (HSg.out _).mono ?_
    rintro e u3 ⟨rfl, rfl⟩
    obtain ⟨k2, k4, HG⟩ := HR2.out.great
    have HG := Lib.hid HG
    go_wp2
    go_ret
    exact ⟨rfl, HR2.out, HK2.out⟩
  · cases hd
    rw [show ∀ x y : Bool, (x || (y || true)) = true by decide]
    go_enter Tryz.func88, Tryz.ntmps88
    go_wp2_with fail
    refine (take_any h0.out [45] H1.out).mono ?_
    rintro e u1 ⟨rfl, hR, hK⟩
    have HR1 := Lib.hid hR
    have HK1 := Lib.hid hK
    clear hR hK
    go_wp2_with fail
    refine (digits_any HR1.out H3.out).mono ?_
    rintro e u2 ⟨rfl, hR, hK⟩
    have HR2 := Lib.hid hR
    have HK2 := Lib.hid (KP.trans' HK1.out hK)
    clear hR hK
    go_wp2_with fail
    refine (HSg.out _).mono ?_
    rintro e u3 ⟨rfl, rfl⟩
    obtain ⟨k2, k4, HG⟩ := HR2.out.great
    have HG := Lib.hid HG
    go_wp2
    go_ret
    exact ⟨rfl, HG.out, KP.trans' HK2.out (KP.step _ _ _ _)⟩
set_option maxRecDepth 100000 in
set_option maxHeartbeats 2000000 in
theorem added_false {w : World} {p : Nat} {l r r0 r1 : List Ti} {g g0 g1 g' : Bool} {a : Int} (h : RR w p l g) (e1 : takeP [45] l = some (false, r1, g1)) (e2 : takeP [43] r1 = some (true, r0, g0)) (hd : addTo false r0 = some (a, r, g')) :
    Calls Tryz.prog 88 #[.pointer (some ⟨p, 0, none⟩)] w (Did (.int .i64 a) p r (((g || g1) || g0) || g') w) := by
  obtain ⟨v, r2, g3, g4, e3, hd2, rfl⟩ := bind_some hd
  clear hd
  have hd := hd2; clear hd2
  have hrng := digits_range e3
  obtain ⟨sa, se, hs⟩ : ∃ sa se, signS false v = (sa, se) := ⟨_, _, rfl⟩
  have HSg : Hid (∀ u, Calls Tryz.prog 90 #[.bool false, .int .u64 v] u (Ret (two .i64 .i64 (sa, se)) u)) := Lib.hid fun u => by
    have := Signed_any false v u hrng.1 hrng.2
    rwa [hs] at this
  rw [hs] at hd
  have h0 := Lib.hid h
  have H1 := Lib.hid e1
  have H3 := Lib.hid e3
  have H2 := Lib.hid e2
  clear h e1 e3 hrng hs e2
  obtain ⟨b, hb⟩ : ∃ b, (se != 0) = b := ⟨_, rfl⟩
  simp only [hb] at hd
  cases b
  · cases hd
    rw [show ∀ x y : Bool, (x || (y || false)) = (x || y) by decide]
    go_enter Tryz.func88, Tryz.ntmps88
    go_wp2_with fail
    refine (take_any h0.out [45] H1.out).mono ?_
    rintro e u1 ⟨rfl, hR, hK⟩
    have HR1 := Lib.hid hR
    have HK1 := Lib.hid hK
    clear hR hK
    go_wp2_with fail
    refine (take_any HR1.out [43] H2.out).mono ?_
    rintro e u1a ⟨rfl, hR, hK⟩
    have HR1 := Lib.hid hR
    have HK1 := Lib.hid (KP.trans' HK1.out hK)
    clear hR hK
    go_wp2_with fail
    refine (digits_any HR1.out H3.out).mono ?_
    rintro e u2 ⟨rfl, hR, hK⟩
    have HR2 := Lib.hid hR
    have HK2 := Lib.hid (KP.trans' HK1.out hK)
    clear hR hK
    go_wp2_with fail
    refine (HSg.out _).mono ?_
    rintro e u3 ⟨rfl, rfl⟩
    obtain ⟨k2, k4, HG⟩ := HR2.out.great
    have HG := Lib.hid HG
    go_wp2
    go_ret
    exact ⟨rfl, HR2.out, HK2.out⟩
  · cases hd
    rw [show ∀ x y : Bool, (x || (y || true)) = true by decide]
    go_enter Tryz.func88, Tryz.ntmps88
    go_wp2_with fail
    refine (take_any h0.out [45] H1.out).mono ?_
    rintro e u1 ⟨rfl, hR, hK⟩
    have HR1 := Lib.hid hR
    have HK1 := Lib.hid hK
    clear hR hK
    go_wp2_with fail
    refine (take_any HR1.out [43] H2.out).mono ?_
    rintro e u1a ⟨rfl, hR, hK⟩
    have HR1 := Lib.hid hR
    have HK1 := Lib.hid (KP.trans' HK1.out hK)
    clear hR hK
    go_wp2_with fail
    refine (digits_any HR1.out H3.out).mono ?_
    rintro e u2 ⟨rfl, hR, hK⟩
    have HR2 := Lib.hid hR
    have HK2 := Lib.hid (KP.trans' HK1.out hK)
    clear hR hK
    go_wp2_with fail
    refine (HSg.out _).mono ?_
    rintro e u3 ⟨rfl, rfl⟩
    obtain ⟨k2, k4, HG⟩ := HR2.out.great
    have HG := Lib.hid HG
    go_wp2
    go_ret
    exact ⟨rfl, HG.out, KP.trans' HK2.out (KP.step _ _ _ _)⟩
set_option maxRecDepth 100000 in
set_option maxHeartbeats 2000000 in
theorem added_true_no {w : World} {p : Nat} {l r0 r1 : List Ti} {g g0 g1 : Bool} (h : RR w p l g) (e1 : takeP [45] l = some (true, r0, g0)) (hd : digitsP r0 = none) :
    Calls Tryz.prog 88 #[.pointer (some ⟨p, 0, none⟩)] w (Thr p w) := by
    have h0 := Lib.hid h
    have H1 := Lib.hid e1
    have H3 := Lib.hid hd
    clear h e1 hd
    go_enter Tryz.func88, Tryz.ntmps88
    go_wp2_with fail
    refine (take_any h0.out [45] H1.out).mono ?_
    rintro e u1 ⟨rfl, hR, hK⟩
    have HR1 := Lib.hid hR
    have HK1 := Lib.hid hK
    clear hR hK
    go_wp2_with fail
    refine (digits_no HR1.out H3.out).mono ?_
    rintro e u2 ⟨rfl, hK⟩
    exact ⟨rfl, rfl, KP.trans' HK1.out hK⟩
set_option maxRecDepth 100000 in
set_option maxHeartbeats 2000000 in
theorem added_false_no {w : World} {p : Nat} {l r0 r1 : List Ti} {g g0 g1 : Bool} (h : RR w p l g) (e1 : takeP [45] l = some (false, r1, g1)) (e2 : takeP [43] r1 = some (true, r0, g0)) (hd : digitsP r0 = none) :
    Calls Tryz.prog 88 #[.pointer (some ⟨p, 0, none⟩)] w (Thr p w) := by
    have h0 := Lib.hid h
    have H1 := Lib.hid e1
    have H3 := Lib.hid hd
    have H2 := Lib.hid e2
    clear h e1 hd e2
    go_enter Tryz.func88, Tryz.ntmps88
    go_wp2_with fail
    refine (take_any h0.out [45] H1.out).mono ?_
    rintro e u1 ⟨rfl, hR, hK⟩
    have HR1 := Lib.hid hR
    have HK1 := Lib.hid hK
    clear hR hK
    go_wp2_with fail
    refine (take_any HR1.out [43] H2.out).mono ?_
    rintro e u1a ⟨rfl, hR, hK⟩
    have HR1 := Lib.hid hR
    have HK1 := Lib.hid (KP.trans' HK1.out hK)
    clear hR hK
    go_wp2_with fail
    refine (digits_no HR1.out H3.out).mono ?_
    rintro e u2 ⟨rfl, hK⟩
    exact ⟨rfl, rfl, KP.trans' HK1.out hK⟩
set_option maxRecDepth 100000 in
set_option maxHeartbeats 2000000 in
theorem added_zero {w : World} {p : Nat} {l r r1 : List Ti} {g g0 g1 : Bool} (h : RR w p l g) (e1 : takeP [45] l = some (false, r1, g1)) (e2 : takeP [43] r1 = some (false, r, g0)) :
    Calls Tryz.prog 88 #[.pointer (some ⟨p, 0, none⟩)] w (Did (.int .i64 0) p r ((g || g1) || g0) w) := by
    have h0 := Lib.hid h
    have H1 := Lib.hid e1
    have H2 := Lib.hid e2
    clear h e1 e2
    go_enter Tryz.func88, Tryz.ntmps88
    go_wp2_with fail
    refine (take_any h0.out [45] H1.out).mono ?_
    rintro e u1 ⟨rfl, hR, hK⟩
    have HR1 := Lib.hid hR
    have HK1 := Lib.hid hK
    clear hR hK
    go_wp2_with fail
    refine (take_any HR1.out [43] H2.out).mono ?_
    rintro e u1a ⟨rfl, hR, hK⟩
    have HR2 := Lib.hid hR
    have HK2 := Lib.hid (KP.trans' HK1.out hK)
    clear hR hK
    go_wp2
    go_ret
    exact ⟨rfl, HR2.out, HK2.out⟩
theorem added_ok {w : World} {p : Nat} {l r : List Ti} {g g' : Bool} {a : Int} (h : RR w p l g) (hd : addedP l = some (a, r, g')) :
    Calls Tryz.prog 88 #[.pointer (some ⟨p, 0, none⟩)] w (Did (.int .i64 a) p r (g || g') w) := by
  obtain ⟨m, r1, g1, g2, e1, hd2, rfl⟩ := bind_some hd
  clear hd
  have hd := hd2; clear hd2
  rw [← Bool.or_assoc]
  cases m
  · rw [if_neg (by decide)] at hd
    obtain ⟨q, r2, g3, g4, e2, hd2, rfl⟩ := bind_some hd
    clear hd
    have hd := hd2; clear hd2
    rw [← Bool.or_assoc]
    cases q
    · rw [if_neg (by decide)] at hd
      obtain ⟨rfl, rfl, rfl⟩ := pure_some hd
      rw [Bool.or_false]
      exact added_zero h e1 e2
    · rw [if_pos rfl] at hd
      exact added_false h e1 e2 hd
  · rw [if_pos rfl] at hd
    exact added_true (r1 := []) (g1 := false) h e1 hd
theorem added_no {w : World} {p : Nat} {l : List Ti} {g : Bool} (h : RR w p l g) (hd : addedP l = none) :
    Calls Tryz.prog 88 #[.pointer (some ⟨p, 0, none⟩)] w (Thr p w) := by
  have key : ∀ {m : Bool} {l : List Ti}, addTo m l = none → digitsP l = none := by
    intro m l h
    rcases bind_none h with h | ⟨a, r1, g1, -, h⟩
    · exact h
    · cases h
  rcases bind_none hd with hd | ⟨m, r1, g1, e1, hd⟩
  · exact absurd hd (take_ne _ _)
  cases m
  · rw [if_neg (by decide)] at hd
    rcases bind_none hd with hd | ⟨q, r2, g3, e2, hd⟩
    · exact absurd hd (take_ne _ _)
    cases q
    · cases hd
    · rw [if_pos rfl] at hd
      exact added_false_no h e1 e2 (key hd)
  · rw [if_pos rfl] at hd
    exact added_true_no (r1 := []) (g1 := false) h e1 (key hd)
open Go.ChangeShapes Go.WideShapes Go.Deep Go.RowKit

abbrev poV (o : Po) : Value := .agg #[.int .i64 o.kind, .int .i64 o.reg, .bool o.stack, .bool o.minus, .int .u64 o.v, .string ⟨o.sym.toArray⟩, .int .i64 o.add]
set_option maxRecDepth 100000 in
set_option maxHeartbeats 2000000 in
theorem opnd_number (m : Bool) (v : Int) (w : World) :
    Calls Tryz.prog 71 #[.agg #[.bool m, .int .u64 v]] w (RetB (poV ⟨2, 0, false, m, v, [], 0⟩) w) := by
  go_enter Tryz.func71, Tryz.ntmps71
  go_wp2
  have hb := (((Below.refl _ w).alloc (Nat.le_refl _) (.cells #[.bool m, .int .u64 v] 107))).alloc (Nat.le_trans (Nat.le_succ _) (by rw [World.size_alloc]; exact Nat.le_refl _)) (.cells #[.int .i64 2, .int .i64 0, .bool false, .bool m, .int .u64 v, .string ⟨#[]⟩, .int .i64 0] 38)
  have hX : ((w.alloc (.cells #[.bool m, .int .u64 v] 107)).alloc (.cells #[.int .i64 2, .int .i64 0, .bool false, .bool m, .int .u64 v, .string ⟨#[]⟩, .int .i64 0] 38)).heap[w.heap.size + 1]? = some (.cells #[.int .i64 2, .int .i64 0, .bool false, .bool m, .int .u64 v, .string ⟨#[]⟩, .int .i64 0] 38 (0, 0)) := by
    have := (MapKept.heap_alloc (w.alloc (.cells #[.bool m, .int .u64 v] 107)) (.cells #[.int .i64 2, .int .i64 0, .bool false, .bool m, .int .u64 v, .string ⟨#[]⟩, .int .i64 0] 38)).1
    rwa [World.size_alloc] at this
  refine bodyPost_ret (results_cell_row (P := Tryz.prog) rfl _ _ (w.heap.size + 1) 38 _ (0, 0) _ rfl hX Tryz.underlying38 rfl (by kernel_rfl)) rfl ?_
  exact ⟨rfl, hb⟩
set_option maxRecDepth 100000 in
set_option maxHeartbeats 2000000 in
theorem opnd_symbol (s : List UInt8) (a : Int) (w : World) :
    Calls Tryz.prog 89 #[.agg #[.string ⟨s.toArray⟩, .int .i64 a]] w (RetB (poV ⟨3, 0, false, false, 0, s, a⟩) w) := by
  go_enter Tryz.func89, Tryz.ntmps89
  go_wp2
  have hb := (((Below.refl _ w).alloc (Nat.le_refl _) (.cells #[.string ⟨s.toArray⟩, .int .i64 a] 141))).alloc (Nat.le_trans (Nat.le_succ _) (by rw [World.size_alloc]; exact Nat.le_refl _)) (.cells #[.int .i64 3, .int .i64 0, .bool false, .bool false, .int .u64 0, .string ⟨s.toArray⟩, .int .i64 a] 38)
  have hX : ((w.alloc (.cells #[.string ⟨s.toArray⟩, .int .i64 a] 141)).alloc (.cells #[.int .i64 3, .int .i64 0, .bool false, .bool false, .int .u64 0, .string ⟨s.toArray⟩, .int .i64 a] 38)).heap[w.heap.size + 1]? = some (.cells #[.int .i64 3, .int .i64 0, .bool false, .bool false, .int .u64 0, .string ⟨s.toArray⟩, .int .i64 a] 38 (0, 0)) := by
    have := (MapKept.heap_alloc (w.alloc (.cells #[.string ⟨s.toArray⟩, .int .i64 a] 141)) (.cells #[.int .i64 3, .int .i64 0, .bool false, .bool false, .int .u64 0, .string ⟨s.toArray⟩, .int .i64 a] 38)).1
    rwa [World.size_alloc] at this
  refine bodyPost_ret (results_cell_row (P := Tryz.prog) rfl _ _ (w.heap.size + 1) 38 _ (0, 0) _ rfl hX Tryz.underlying38 rfl (by kernel_rfl)) rfl ?_
  exact ⟨rfl, hb⟩
theorem fld0 (a b c : Value) (w : World) : (Instr.field 78 (.agg #[a, b, c]) 0).run Tryz.prog w = .ok a w := by kernel_rfl
theorem fld1 (a b c : Value) (w : World) : (Instr.field 78 (.agg #[a, b, c]) 1).run Tryz.prog w = .ok b w := by kernel_rfl
set_option maxRecDepth 100000 in
set_option maxHeartbeats 2000000 in
theorem atReg_any {w : World} {p : Nat} {l : List Ti} {g : Bool} (h : RR w p l g) :
    Calls Tryz.prog 65 #[.pointer (some ⟨p, 0, none⟩)] w (Did (.bool (isRg (nextT l))) p l g w) := by
  have h0 := Lib.hid h
  obtain ⟨t, ht⟩ : ∃ t, nextT l = t := ⟨_, rfl⟩
  obtain ⟨r1, r2, r3, hr⟩ : ∃ r1 r2 r3, regL t.text = (r1, r2, r3) := ⟨_, _, _, rfl⟩
  have HV : Hid (∀ u, TabO u → Calls Tryz.prog 85 #[.string ⟨t.text.toArray⟩] u (RetB (regV (r1, r2, r3)) u)) := Lib.hid fun u hu => by
    have := Reg_any ⟨t.text.toArray⟩ u hu.2.1
    rw [show (⟨t.text.toArray⟩ : ByteArray).data.toList = t.text by simp, hr] at this
    exact this
  have HE : Hid (isRg t = (t.kind == 1 && r3 == 0)) := Lib.hid (by unfold isRg; rw [hr])
  have HT := Lib.hid ht
  clear h hr
  have HN : Hid (∀ u, RR u p l g → Calls Tryz.prog 61 #[.pointer (some ⟨p, 0, none⟩)] u (Did (.agg #[.int .i64 t.kind, .string ⟨t.text.toArray⟩, .int .u64 t.v]) p l g u)) := Lib.hid fun u hu => by have := next_r hu; rwa [ht] at this
  rw [ht]
  clear ht
  have hf0 := fld0
  have hf1 := fld1
  go_enter Tryz.func65, Tryz.ntmps65
  go_wp2_with fail
  refine (HN.out _ h0.out).mono ?_
  rintro e u ⟨rfl, hR, hK⟩
  have HR1 := Lib.hid hR
  have HK1 := Lib.hid hK
  clear hR hK
  go_wp2_with fail
  refine (HV.out _ HR1.out.tab).mono ?_
  rintro e u2 ⟨rfl, hB⟩
  have HR2 := Lib.hid (HR1.out.next hB)
  have HK2 := Lib.hid (KP.trans' HK1.out (KP.of_below (p := p) hB))
  clear hB
  go_wp2_with fail
  refine (HN.out _ HR2.out).mono ?_
  rintro e u3 ⟨rfl, hR, hK⟩
  have HR3 := Lib.hid hR
  have HK3 := Lib.hid (KP.trans' HK2.out hK)
  clear hR hK
  have hE := HE.out
  cases c : (t.kind == 1)
  all_goals rw [c] at hE
  all_goals go_wp2
  all_goals go_ret
  all_goals exact ⟨by rw [hE]; rfl, HR3.out, HK3.out⟩
set_option maxRecDepth 100000 in
set_option maxHeartbeats 2000000 in
theorem reg_no {w : World} {p : Nat} {l : List Ti} {g : Bool} (h : RR w p l g) (hd : regP l = none) :
    Calls Tryz.prog 66 #[.pointer (some ⟨p, 0, none⟩)] w (Thr p w) := by
  have hr : isRg (nextT l) = false := by
    rcases one_none hd with rfl | ⟨t, r, rfl, e⟩
    · rfl
    · split at e
      · cases e
      · rename_i c; simpa [nextT] using c
  have HN := Lib.hid (atReg_any h)
  rw [hr] at HN
  clear h hr hd
  go_enter Tryz.func66, Tryz.ntmps66
  go_wp2_with fail
  refine HN.out.mono ?_
  rintro e u ⟨rfl, hR, hK⟩
  have HK1 := Lib.hid hK
  clear hR hK
  go_wp2
  exact ⟨rfl, rfl, HK1.out⟩
theorem reg_ok {w : World} {p : Nat} {l r : List Ti} {g g' : Bool} {a : Int × Bool} (h : RR w p l g) (hd : regP l = some (a, r, g')) :
    Calls Tryz.prog 66 #[.pointer (some ⟨p, 0, none⟩)] w (Did (.tuple #[.int .i64 a.1, .bool a.2]) p r (g || g') w) := by
  obtain ⟨t, rfl, e⟩ := one_some hd
  clear hd
  split at e
  · rename_i c
    obtain ⟨r1, r2, r3, hr⟩ : ∃ r1 r2 r3, regL t.text = (r1, r2, r3) := ⟨_, _, _, rfl⟩
    rw [hr] at e
    cases e
    rw [Bool.or_false]
    have HA : Hid (Calls Tryz.prog 65 #[.pointer (some ⟨p, 0, none⟩)] w (Did (.bool true) p (t :: r) g w)) := Lib.hid (by
      have := atReg_any h
      rwa [show isRg (nextT (t :: r)) = true from c] at this)
    have HV : Hid (∀ u, TabO u → Calls Tryz.prog 85 #[.string ⟨t.text.toArray⟩] u (RetB (regV (r1, r2, r3)) u)) := Lib.hid fun u hu => by
      have := Reg_any ⟨t.text.toArray⟩ u hu.2.1
      rw [show (⟨t.text.toArray⟩ : ByteArray).data.toList = t.text by simp, hr] at this
      exact this
    have HN : Hid (∀ u, RR u p (t :: r) g → Calls Tryz.prog 61 #[.pointer (some ⟨p, 0, none⟩)] u (Did (.agg #[.int .i64 t.kind, .string ⟨t.text.toArray⟩, .int .u64 t.v]) p (t :: r) g u)) := Lib.hid fun u hu => next_r hu
    clear h c hr
    have hf0 := fld0
    have hf1 := fld1
    go_enter Tryz.func66, Tryz.ntmps66
    go_wp2_with fail
    refine HA.out.mono ?_
    rintro e u ⟨rfl, hR, hK⟩
    have HR1 := Lib.hid hR
    have HK1 := Lib.hid hK
    clear hR hK
    go_wp2_with fail
    refine (HN.out _ HR1.out).mono ?_
    rintro e u2 ⟨rfl, hR, hK⟩
    have HR2 := Lib.hid hR
    have HK2 := Lib.hid (KP.trans' HK1.out hK)
    clear hR hK
    go_wp2_with fail
    refine (HV.out _ HR2.out.tab).mono ?_
    rintro e u3 ⟨rfl, hB⟩
    have HR3 := Lib.hid (HR2.out.next hB)
    have HK3 := Lib.hid (KP.trans' HK2.out (KP.of_below (p := p) hB))
    clear hB
    obtain ⟨k, m, k1, k2, k3, HS⟩ := HR3.out.step
    have HS := Lib.hid HS
    go_wp2
    go_ret2
    exact ⟨rfl, HS.out, KP.trans' HK3.out (KP.step _ _ _ _)⟩
  · cases e
end Go.Proofs.YthejefldnpeciaaGreatDoor
