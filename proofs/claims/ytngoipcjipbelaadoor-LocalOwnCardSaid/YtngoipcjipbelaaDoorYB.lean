/- local: Split. local: Split, whole. -/
import Derived.Test.YtngoipcjipbelaaDoorYA
import Derived.Test.YtngoipcjipbelaaDoorS2
namespace Go.Proofs.YtngoipcjipbelaaDoor
set_option linter.unusedVariables false
set_option linter.unusedSimpArgs false
open Go.RowKit
open Go.ChangeShapes Go.WideShapes Go.Deep Go.RowKit

/-- What stands while Split runs: its tokens' block at B, its place's behind it. -/
structure SSt (w u : World) (B : Nat) (a : Option Addr) (n c : Nat) (l : List Ti) (k : Nat) : Prop where
  b : RB u B #[.slice a n c] 26
  i : RB u (B + 1) #[.int .i64 (k : Int)] 3
  s : SL tiC 3 u B a n l
  k : Below B w u
  e : B = w.heap.size
theorem SSt.below {w u u' : World} {B : Nat} {a : Option Addr} {n c : Nat} {l : List Ti} {k : Nat} (h : SSt w u B a n c l k) (hb : Below (B + 2) u u') : SSt w u' B a n c l k :=
  ⟨(hb.block B (by omega)).trans h.b, (hb.block (B + 1) (by omega)).trans h.i, h.s.below (hb.mono (by omega)), h.k.trans (hb.mono (by omega)), h.e⟩
theorem SSt.size {w u : World} {B : Nat} {a : Option Addr} {n c : Nat} {l : List Ti} {k : Nat} (h : SSt w u B a n c l k) : B + 2 ≤ u.heap.size := lt_of_block h.i
theorem SSt.next {w u u' : World} {B : Nat} {a : Option Addr} {n c : Nat} {l : List Ti} {k : Nat} (h : SSt w u B a n c l k) (hb : Below u.heap.size u u') : SSt w u' B a n c l k := h.below (hb.mono h.size)
theorem SSt.step {w u : World} {B : Nat} {a : Option Addr} {n c : Nat} {l : List Ti} {k : Nat} (h : SSt w u B a n c l k) (k' : Nat) : SSt w (u.setCell ⟨B + 1, 0, none⟩ (.int .i64 (k' : Int))) B a n c l k' :=
  have hb : Below B u (u.setCell ⟨B + 1, 0, none⟩ (.int .i64 (k' : Int))) := (Below.refl B u).setCell (p := ⟨B + 1, 0, none⟩) (by show B ≤ B + 1; omega) _
  ⟨(hother (by omega)).trans h.b, h.i.set (j := 0) _, h.s.below hb, h.k.trans hb, h.e⟩
theorem SSt.facts {w u : World} {B : Nat} {a : Option Addr} {n c : Nat} {l : List Ti} {k : Nat} (h : SSt w u B a n c l k) :
    u.cell? ⟨B, 0, none⟩ = some (.slice a n c) ∧ u.cell? ⟨B + 1, 0, none⟩ = some (.int .i64 (k : Int)) ∧ u.frozen? ⟨B + 1, 0, none⟩ = false ∧ B + 1 < u.heap.size :=
  ⟨h.b.cell, h.i.cell, h.i.frozen, by have := h.size; omega⟩
theorem SSt.mk0 {w : World} {a : Option Addr} {n c : Nat} {l : List Ti} (h : SL tiC 3 w w.heap.size a n l) :
    SSt w ((w.alloc (.cells #[.slice a n c] 26)).alloc (.cells #[.int .i64 0] 3)) w.heap.size a n c l 0 := by
  have s1 : (w.alloc (.cells #[.slice a n c] 26)).heap.size = w.heap.size + 1 := World.size_alloc _ _
  have hb : Below w.heap.size w ((w.alloc (.cells #[.slice a n c] 26)).alloc (.cells #[.int .i64 0] 3)) := ((Below.refl _ w).alloc (Nat.le_refl _) _).alloc (by rw [s1]; omega) _
  refine ⟨?_, ?_, h.below hb, hb, rfl⟩
  · exact (Below.heap_alloc _ _ _ (by rw [s1]; omega)).trans (MapKept.heap_alloc _ _).1
  · unfold RB; rw [← s1]; exact (MapKept.heap_alloc _ _).1
theorem ahead_drop {l : List Ti} {k : Nat} (h : k + 1 < l.length) : aheadL (l.drop k) = ((l[k].kind == 1 || l[k].kind == 2) && (l[k + 1].kind == 4 && l[k + 1].text == [58])) := by
  rw [drop_cons (by omega), drop_cons h]; rfl
theorem ahead_short {l : List Ti} {k : Nat} (h : ¬ k + 1 < l.length) : aheadL (l.drop k) = false := by
  have : (l.drop k).length ≤ 1 := by rw [List.length_drop]; omega
  match hd : l.drop k with
  | [] => rfl
  | [t] => rfl
  | t :: u :: r => rw [hd] at this; simp at this
set_option maxRecDepth 100000 in
set_option maxHeartbeats 4000000 in
theorem next_split {w u : World} {B : Nat} {a : Option Addr} {n c : Nat} {l : List Ti} {k : Nat} (h : SSt w u B a n c l k) (hk : k ≤ n) (hn : n ≤ 1000000) :
    Calls Tryd.prog 54 #[.pointer (some ⟨B, 0, none⟩), .pointer (some ⟨B + 1, 0, none⟩)] u (RetB (.bool (aheadL (l.drop k))) u) := by
  obtain ⟨f0, f1, f2, f3⟩ := h.facts
  have hl := h.s.len
  have hw0 : IntKind.i64.wrap ((n : Int) - k) = (n : Int) - k := by rw [IntKind.wrap_i64]; omega
  by_cases c0 : k + 1 < n
  rotate_left
  · have HE := Lib.hid (ahead_short (l := l) (k := k) (by omega))
    have g0 : (n : Int) - k < 2 := by omega
    clear h hl hk hn c0
    go_enter Tryd.func54, Tryd.ntmps54
    go_wp2
    go_ret
    exact retB_bool HE.out.symm (Below.refl _ _)
  have HE := Lib.hid (ahead_drop (l := l) (k := k) (by omega))
  have g0 : ¬ (n : Int) - k < 2 := by omega
  obtain ⟨m, hm⟩ : ∃ m, m = k + 1 := ⟨_, rfl⟩
  have hwm : IntKind.i64.wrap ((k : Int) + 1) = (m : Int) := by rw [IntKind.wrap_i64]; omega
  obtain ⟨b, off, rfl, hB, hc⟩ := h.s.cells (h.s.ne (k := k) (by omega))
  have hk1 : k < l.length := by omega
  have hk2 : k + 1 < l.length := by omega
  obtain ⟨d0, d1, d2⟩ := ti_cells (fun j hj => hc k hk1 j hj)
  obtain ⟨e0, e1, e2⟩ := ti_cells (fun j hj => hc (k + 1) hk2 j hj)
  generalize hx : l[k] = x at *
  generalize hy : l[k + 1] = y at *
  rw [← hm] at e0 e1 e2
  have hkz : (0 : Int) ≤ (k : Int) ∧ (k : Int) < (n : Int) := by omega
  have hmz : (0 : Int) ≤ (m : Int) ∧ (m : Int) < (n : Int) := by omega
  clear h hl hk hn c0 hc hx hy hm hB d1 d2 e2 hk1 hk2
  have key : ∀ bb : Bool, ((x.kind == 1 || x.kind == 2) && (y.kind == 4 && y.text == [58])) = bb → Calls Tryd.prog 54 #[.pointer (some ⟨B, 0, none⟩), .pointer (some ⟨B + 1, 0, none⟩)] u (RetB (.bool bb) u) := by
    intro bb hbb
    by_cases p1 : x.kind = 1
    · have r1 : (x.kind != 1) = false := by rw [p1]; rfl
      cases p4 : (y.kind == 4)
      · have HF : Hid (bb = false) := Lib.hid (by rw [← hbb, p4]; simp)
        clear hbb p1 HE
        go_enter Tryd.func54, Tryd.ntmps54
        go_wp2
        go_ret
        exact retB_bool HF.out.symm (Below.refl _ _)
      · cases p5 : (y.text == [58])
        · have HF : Hid (bb = false) := Lib.hid (by rw [← hbb, p5]; simp)
          clear hbb p1 HE
          go_enter Tryd.func54, Tryd.ntmps54
          go_wp2
          go_ret
          exact retB_bool HF.out.symm (Below.refl _ _)
        · have HF : Hid (bb = true) := Lib.hid (by rw [← hbb, p4, p5, p1]; rfl)
          clear hbb p1 HE
          go_enter Tryd.func54, Tryd.ntmps54
          go_wp2
          go_ret
          exact retB_bool HF.out.symm (Below.refl _ _)
    · have r1 : (x.kind != 1) = true := by rw [bne_iff_ne]; exact p1
      have r1' : (x.kind == 1) = false := by rw [beq_eq_false_iff_ne]; exact p1
      by_cases p2 : x.kind = 2
      · have r2 : (x.kind != 2) = false := by rw [p2]; rfl
        cases p4 : (y.kind == 4)
        · have HF : Hid (bb = false) := Lib.hid (by rw [← hbb, p4]; simp)
          clear hbb p1 p2 r1' HE
          go_enter Tryd.func54, Tryd.ntmps54
          go_wp2
          go_ret
          exact retB_bool HF.out.symm (Below.refl _ _)
        · cases p5 : (y.text == [58])
          · have HF : Hid (bb = false) := Lib.hid (by rw [← hbb, p5]; simp)
            clear hbb p1 p2 r1' HE
            go_enter Tryd.func54, Tryd.ntmps54
            go_wp2
            go_ret
            exact retB_bool HF.out.symm (Below.refl _ _)
          · have HF : Hid (bb = true) := Lib.hid (by rw [← hbb, p4, p5, p2]; rfl)
            clear hbb p1 p2 r1' HE
            go_enter Tryd.func54, Tryd.ntmps54
            go_wp2
            go_ret
            exact retB_bool HF.out.symm (Below.refl _ _)
      · have r2 : (x.kind != 2) = true := by rw [bne_iff_ne]; exact p2
        have r2' : (x.kind == 2) = false := by rw [beq_eq_false_iff_ne]; exact p2
        have HF : Hid (bb = false) := Lib.hid (by rw [← hbb, r1', r2']; rfl)
        clear hbb p1 p2 r1' r2' HE
        go_enter Tryd.func54, Tryd.ntmps54
        go_wp2
        go_ret
        exact retB_bool HF.out.symm (Below.refl _ _)
  rw [HE.out]
  exact key _ rfl
open Go.ChangeShapes Go.WideShapes Go.Deep Go.RowKit

theorem SL.lit2 {α : Type} {enc : α → List Value} {sz : Nat} (w : World) (T : TypeId) (l : List α) (henc : ∀ x, (enc x).length = sz) (hsz : 0 < sz) (cs : Array Value) (hcs : cs.toList = l.flatMap enc) (n : Nat) (hn : n = l.length) :
    SL enc sz (w.alloc (.cells cs T)) (w.alloc (.cells cs T)).heap.size (some ⟨w.heap.size, 0, none⟩) n l := by
  rw [World.size_alloc]; exact SL.lit w T l henc hsz cs hcs n hn
def stC (s : List UInt8) : List Value := [.string ⟨s.toArray⟩]
theorem st_len (s : List UInt8) : (stC s).length = 1 := rfl
theorem st_one (s : List UInt8) : ∀ u ∈ stC s, u.oneCell' = true := by intro u hu; simp only [stC, List.mem_singleton] at hu; rw [hu]; rfl
theorem info_str : (Tryd.prog.info? 9).map (fun i => (i.zero, i.size, i.bytes)) = some (some (.string ByteArray.empty), 1, 16) := by kernel_rfl
/-- Labels, and what comes of the rest. -/
def joinS (acc : List (List UInt8)) (o : Option (List (List UInt8) × List Ti)) : Option (List (List UInt8) × List Ti) := match o with | none => none | some (a, r) => some (acc ++ a, r)
theorem SL.dropk {α : Type} {enc : α → List Value} {sz : Nat} {w : World} {B b off n : Nat} {l : List α} (h : SL enc sz w B (some ⟨b, off, none⟩) n l) (k : Nat) : SL enc sz w B (some ⟨b, off + k * sz, none⟩) (n - k) (l.drop k) := by
  refine ⟨by rw [List.length_drop, h.len], fun hne => ?_⟩
  obtain ⟨b', off', e, hB, hc⟩ := h.cells (by rintro rfl; simp at hne)
  cases e
  refine ⟨b, off + k * sz, rfl, hB, fun j hj i hi => ?_⟩
  rw [List.getElem_drop]
  have := hc (k + j) (by rw [List.length_drop] at hj; omega) i hi
  rw [← this]
  congr 2
  rw [Nat.add_mul]; omega
/-- What Split hands back. -/
def SplitR (l : List Ti) (w : World) (e : Ending) (w' : World) : Prop :=
  match splitL l with
  | none => e = .returned (.tuple #[.slice none 0 0, .slice none 0 0, .int .i64 3]) ∧ Below w.heap.size w w'
  | some (la, r) => ∃ a1 c1 a2 c2, e = .returned (.tuple #[.slice a1 la.length c1, .slice a2 r.length c2, .int .i64 0]) ∧ SL stC 1 w' w'.heap.size a1 la.length la ∧ SL tiC 3 w' w'.heap.size a2 r.length r ∧ (a2 = none → r.length = 0 ∧ c2 = 0) ∧ r.length ≤ c2 ∧ Below w.heap.size w w'
/-- Labels and what is left, handed back. -/
theorem split_done {l r : List Ti} {la : List (List UInt8)} {w u : World} {av a2 : Option Addr} {B m n2 cv c2 : Nat} {x y z : Value} (hF : splitL l = some (la, r)) (hm : m = la.length) (ho : u.ownsRow (B + 2) 9 1 (.slice av m cv) m (la.flatMap stC)) (h2 : SL tiC 3 u u.heap.size a2 n2 r) (hz : a2 = none → n2 = 0 ∧ c2 = 0) (hc : n2 ≤ c2) (hb : Below w.heap.size w u)
    (hx : x = .slice av m cv) (hy : y = .slice a2 n2 c2) (hzz : z = .int .i64 0) : SplitR l w (.returned (.tuple #[x, y, z])) u := by
  subst hx hy hzz
  unfold SplitR
  rw [hF]
  have hn2 := h2.len
  subst hm
  subst hn2
  obtain ⟨a', c', e, hs, -⟩ := SL.ofOwns st_len (by decide) ho
  cases e
  exact ⟨av, cv, a2, c2, rfl, hs, h2, hz, hc, hb⟩
theorem drop2 {l : List Ti} {k : Nat} (h : k + 1 < l.length) : l.drop k = l[k] :: l[k + 1] :: l.drop (k + 2) := by
  rw [drop_cons (by omega), drop_cons h]
theorem ahead_len {l : List Ti} {k : Nat} (h : aheadL (l.drop k) = true) : k + 1 < l.length := Classical.byContradiction fun hh => by rw [ahead_short hh] at h; cases h
set_option maxRecDepth 100000 in
set_option maxHeartbeats 8000000 in
theorem Split_any {w : World} {a : Option Addr} {n c : Nat} {l : List Ti} (h : SL tiC 3 w w.heap.size a n l) (hz : a = none → n = 0 ∧ c = 0) (hcap : n ≤ c) (hg : GoodTs l) (hn : n ≤ 1000000) (hT : TabO w) :
    Calls Tryd.prog 29 #[.slice a n c] w (SplitR l w) := by
  have hmf : ∀ (fn : Fn) (first cap : Array Value) (w : World), (Instr.makeFunc fn first cap).run Tryd.prog w = .ok (.func fn first cap) w := fun _ _ _ _ => rfl
  obtain ⟨s0, hs, hs0, hs1, hs2⟩ := info_parts info_str
  obtain ⟨i0, hi, hi0, hi1, hi2⟩ := info_parts info_tok
  have hl := Lib.hid h.len
  have H0 := Lib.hid (SSt.mk0 (c := c) h)
  have HT := Lib.hid hT
  have HG := Lib.hid hg
  have HZ := Lib.hid hz
  have HC := Lib.hid hcap
  obtain ⟨B, hB⟩ : ∃ B, B = w.heap.size := ⟨_, rfl⟩
  rw [← hB] at H0
  have HBE := Lib.hid hB
  clear h hz hcap hg hT
  go_enter Tryd.func29, Tryd.ntmps29
  go_wp2_with fail
  rw [← hB]
  clear hB
  generalize (w.alloc (.cells #[.slice a n c] 26)).alloc (.cells #[.int .i64 0] 3) = W0 at H0 ⊢
  have HO : Hid (W0.ownsRow (B + 2) 9 1 (.slice none 0 0) 0 (([] : List (List UInt8)).flatMap stC)) := Lib.hid (World.ownsRow_nil _ _ _ _)
  go_loopg [5] (n) (fun g v5 wl => ∃ (k m : Nat) (av : Option Addr) (cv : Nat) (la : List (List UInt8)) (u : World), v5 = .slice av m cv ∧ u = wl ∧ Hid (k ≤ n) ∧ Hid (m = la.length) ∧ Hid (2 * m ≤ k) ∧ Hid (SSt w u B a n c l k) ∧ Hid (u.ownsRow (B + 2) 9 1 (.slice av m cv) m (la.flatMap stC)) ∧ Hid (splitL l = joinS la (splitL (l.drop k))) ∧ Hid (g = n - k))
  case atStart => exact ⟨0, 0, none, 0, [], _, rfl, rfl, Lib.hid (by omega), Lib.hid rfl, Lib.hid (by omega), H0, HO, Lib.hid (by rw [List.drop_zero]; cases splitL l <;> rfl), Lib.hid rfl⟩
  case round =>
    clear H0 HO
    obtain ⟨k, m, av, cv, la, u, rfl, rfl, HK, HM, HMK, HA, HO, HP, HGK⟩ := hrel
    have HNX := Lib.hid (next_split HA.out HK.out hn)
    cases ha : aheadL (l.drop k)
    · rw [ha] at HNX
      have HF : Hid (splitL l = some (la, l.drop k)) := Lib.hid (by rw [HP.out, split_no ha]; simp [joinS])
      have HKn : Hid (n - k = (l.drop k).length) := Lib.hid (by rw [List.length_drop, hl.out])
      clear ha
      go_wp2_with fail
      refine HNX.out.mono ?_
      rintro e u1 ⟨rfl, hb⟩
      have HA1 := Lib.hid (HA.out.next hb)
      have HO1 : Hid (u1.ownsRow (B + 2) 9 1 (.slice av m cv) m (la.flatMap stC)) := Lib.hid (own_kp (B := 0) (p := B + 1) HO.out (KP.of_below hb))
      clear hb
      obtain ⟨f0, f1, f2, f3⟩ := HA1.out.facts
      have hk0 : (0 : Int) ≤ (k : Int) := by omega
      have hkn : (k : Int) ≤ (n : Int) := by have := HK.out; omega
      have hkn' : ¬ (n : Int) < (k : Int) := by omega
      have hcz : ¬ (c : Int) < (n : Int) := by have := HC.out; omega
      rcases Nat.eq_zero_or_pos n with hn0 | hn0
      · obtain rfl : k = 0 := by have := HK.out; omega
        subst hn0
        clear hkn hkn'
        have HDZ : Hid (l.drop 0 = []) := Lib.hid (by rw [List.drop_zero]; exact List.length_eq_zero_iff.1 hl.out.symm)
        cases a with
        | none =>
          obtain ⟨-, rfl⟩ := HZ.out rfl
          go_wp2_with fail
          go_ret3
          exact split_done HF.out HM.out HO1.out (a2 := none) (n2 := 0) (c2 := 0) (by rw [HDZ.out]; exact SL.nil _ _ _) (fun _ => ⟨rfl, rfl⟩) (Nat.le_refl _) (HBE.out ▸ HA1.out.k) rfl rfl rfl
        | some ad =>
          go_wp2_with fail
          go_ret3
          exact split_done HF.out HM.out HO1.out (a2 := none) (n2 := 0) (c2 := 0) (by rw [HDZ.out]; exact SL.nil _ _ _) (fun _ => ⟨rfl, rfl⟩) (Nat.le_refl _) (HBE.out ▸ HA1.out.k) rfl rfl rfl
      · obtain ⟨b, off, rfl, hB, hc⟩ := HA1.out.s.cells (HA1.out.s.ne (k := 0) hn0)
        have m1 : 0 + (n - k) ≤ maxLen := by unfold maxLen; omega
        have m2 : (0 + (n - k)) * 32 ≤ 140737488355328 := by omega
        have HDR := Lib.hid ((HA1.out.s.dropk k).up (Nat.le_trans (Nat.le_add_right B 2) HA1.out.size))
        clear hB hc
        by_cases hck : c = k
        · obtain rfl : n = k := by have := HK.out; have := HC.out; omega
          subst hck
          have HDZ : Hid (l.drop c = []) := Lib.hid (List.drop_eq_nil_of_le (by have := hl.out; omega))
          go_wp2_with fail
          go_ret3
          exact split_done HF.out HM.out HO1.out (a2 := none) (n2 := 0) (c2 := 0) (by rw [HDZ.out]; exact SL.nil _ _ _) (fun _ => ⟨rfl, rfl⟩) (Nat.le_refl _) (HBE.out ▸ HA1.out.k) rfl rfl rfl
        · go_wp2_with (first
            | (at_builtin; refine append_SL rfl _ _ 26 rfl u1.heap.size 31 i0 _ 32 Tryd.underlying26 hi hi0 hi1 hi2 rfl (by decide) ti_len (fun t => ti_one t) _ 0 [] rfl (World.ownsRow_nil _ _ _ _) (some ⟨b, off + k * 3, none⟩) (n - k) (c - k) (l.drop k) rfl HDR.out (by simp) m1 m2 (Nat.le_refl _) ?_; intro v1 w5 hown1 hbl1 hgr1)
            | fail)
          go_ret3
          rw [Nat.zero_add, List.nil_append] at hown1
          obtain ⟨a2, c2, hv, hsl, hnil⟩ := SL.ofOwns ti_len (by decide) hown1
          subst hv
          exact split_done HF.out HM.out (own_kp (B := 0) (p := B + 1) HO1.out (KP.of_below hbl1)) hsl hnil (own_cap hown1) (after (HBE.out ▸ HA1.out.k) hbl1) rfl rfl rfl
    · rw [ha] at HNX
      have hkl := ahead_len ha
      obtain ⟨b, off, rfl, hB, hc⟩ := HA.out.s.cells (HA.out.s.ne (k := k) (by rw [hl.out]; omega))
      have HD := Lib.hid (drop2 hkl)
      have HGT : Hid (GoodTi l[k]) := Lib.hid (HG.out _ (List.getElem_mem _))
      have hk1 : k < l.length := by omega
      obtain ⟨d0, d1, d2⟩ := ti_cells (fun j hj => hc k hk1 j hj)
      generalize l[k] = t at *
      generalize l[k + 1] = t2 at *
      clear hc hk1
      have HAH : Hid (aheadL (t :: t2 :: l.drop (k + 2)) = true) := Lib.hid (by rw [← HD.out]; exact ha)
      have hkz : (k : Int) < (n : Int) := by have := hl.out; omega
      have hk0 : (0 : Int) ≤ (k : Int) := by omega
      have hK2 : Hid (k + 2 ≤ n) := Lib.hid (by have := hl.out; omega)
      obtain ⟨kk, hkk⟩ : ∃ kk, kk = k + 2 := ⟨_, rfl⟩
      have hwk : IntKind.i64.wrap ((k : Int) + 2) = (kk : Int) := by rw [IntKind.wrap_i64]; omega
      have HKK := Lib.hid hkk
      clear hkk
      have HLab : Hid (∀ v, TabO v → Calls Tryd.prog 55 #[.agg #[.int .i64 t.kind, .string ⟨t.text.toArray⟩, .int .u64 t.v]] v (RetB (.bool (labTk t)) v)) := Lib.hid fun v hv => isLabel_any t HGT.out v hv
      clear ha hkl hB
      go_wp2_with fail
      refine HNX.out.mono ?_
      rintro e u1 ⟨rfl, hb⟩
      have HA1 := Lib.hid (HA.out.next hb)
      have HO1 : Hid (u1.ownsRow (B + 2) 9 1 (.slice av m cv) m (la.flatMap stC)) := Lib.hid (own_kp (B := 0) (p := B + 1) HO.out (KP.of_below hb))
      rw [← hb.cell (cell_lt d0)] at d0
      rw [← hb.cell (cell_lt d1)] at d1
      rw [← hb.cell (cell_lt d2)] at d2
      clear hb
      obtain ⟨f0, f1, f2, f3⟩ := HA1.out.facts
      go_wp2_with fail
      refine (HLab.out _ (HT.out.next (HBE.out ▸ HA1.out.k))).mono ?_
      rintro e u2 ⟨rfl, hb⟩
      have HA2 := Lib.hid (HA1.out.next hb)
      have HO2 : Hid (u2.ownsRow (B + 2) 9 1 (.slice av m cv) m (la.flatMap stC)) := Lib.hid (own_kp (B := 0) (p := B + 1) HO1.out (KP.of_below hb))
      rw [← hb.cell (cell_lt d0)] at d0
      rw [← hb.cell (cell_lt d1)] at d1
      rw [← hb.cell (cell_lt d2)] at d2
      clear hb f0 f1 f2 f3
      obtain ⟨f0, f1, f2, f3⟩ := HA2.out.facts
      cases hlab : labTk t
      · have HF : Hid (splitL l = none) := Lib.hid (by rw [HP.out, HD.out, split_bad HAH.out hlab]; rfl)
        clear hlab
        go_wp2
        go_ret3
        unfold SplitR
        rw [HF.out]
        exact ⟨rfl, HBE.out ▸ HA2.out.k⟩
      · have HF : Hid (splitL l = joinS (la ++ [t.text]) (splitL (l.drop (k + 2)))) := Lib.hid (by
          rw [HP.out, HD.out, split_yes HAH.out hlab]
          cases splitL (l.drop (k + 2)) with
          | none => rfl
          | some x => obtain ⟨a', r'⟩ := x; simp [joinS])
        clear hlab
        have m1 : m + 1 ≤ maxLen := by have := HMK.out; have := HK.out; unfold maxLen; omega
        have m2 : (m + 1) * 16 ≤ 140737488355328 := by have := HMK.out; have := HK.out; omega
        go_wp2_with (first
          | (at_builtin; refine append_SL rfl _ _ 48 rfl (B + 2) 9 s0 _ 16 Tryd.underlying48 hs hs0 hs1 hs2 rfl (by decide) st_len (fun t => st_one t) _ m la rfl (HO2.out.alloc _) (some ⟨u2.heap.size, 0, none⟩) 1 1 [t.text] rfl (SL.lit2 u2 _ [t.text] st_len (by decide) _ rfl 1 rfl) (by simp) m1 m2 (by rw [World.size_alloc]; have := HA2.out.size; omega) ?_; intro v1 w5 hown1 hbl1 hgr1; have HA3 := Lib.hid (HA2.out.below (((Below.refl (B + 2) u2).alloc HA2.out.size _).trans hbl1)); clear f0 f1 f2 f3; obtain ⟨f0, f1, f2, f3⟩ := HA3.out.facts)
          | fail)
        obtain ⟨av', cv', hv1⟩ := own_slice hown1
        subst hv1
        have HA4 := Lib.hid (HA3.out.step kk)
        have HO4 := Lib.hid (own_kp (B := 0) (p := B + 1) hown1 (KP.step (B + 1) w5 0 (.int .i64 (kk : Int))))
        clear hown1 hbl1 hgr1
        go_roundg (n - kk)
        case measure => have := HGK.out; have := HKK.out; have := hK2.out; omega
        case rel =>
          refine ⟨kk, m + 1, av', cv', la ++ [t.text], _, rfl, rfl, Lib.hid (by rw [HKK.out]; exact hK2.out), Lib.hid (by rw [List.length_append, ← HM.out]; rfl), Lib.hid (by have := HMK.out; have := HKK.out; omega), HA4, HO4, Lib.hid (by rw [HKK.out]; exact HF.out), Lib.hid rfl⟩
end Go.Proofs.YtngoipcjipbelaaDoor
