/- part: the reference's SameRels. part: the reference's Big and Same. part: the reference's Same. part, plain: whatever is put behind a section, it is right and begins as it was. The law's own grown: constants. What hands back a section, for the laws' walks. -/
import Derived.Test.YtdgfadabaejkhaaGreatDoorkXD
import Derived.Test.YtdgfadabaejkhaaGreatDoorkXA
import Derived.Test.YtdgfadabaejkhaaGreatDoorkXC
import Derived.Test.YtdgfadabaejkhaaGreatDoorkXB
import Derived.Test.YtdgfadabaejkhaaGreatDoorkCU
namespace Go.Proofs.YtdgfadabaejkhaaGreatDoor
set_option linter.unusedVariables false
set_option linter.unusedSimpArgs false
open Go.RowKit
open Go.ChangeShapes Go.WideShapes Go.Deep Go.RowKit

abbrev rlV (t : Rl) : Value := .agg #[.int .i64 t.pos, .int .i64 t.kind, .int .i64 t.sym, .int .i64 t.add]
def sameRl (x y : Rl) : Bool := x.pos == y.pos && (x.kind == y.kind && (x.sym == y.sym && x.add == y.add))
theorem sameRl_iff {x y : Rl} : sameRl x y = true ↔ x = y := by
  cases x; cases y
  simp [sameRl, Rl.mk.injEq]
theorem neq_rl (x y : Rl) : ∀ w, (Sem.run Tryz.prog (binOp BinOp.neq 103 (rlV x) (rlV y)) w) = Result.ok (.bool (!sameRl x y)) w := by
  intro w
  obtain ⟨p, k, s, a⟩ := x
  obtain ⟨p', k', s', a'⟩ := y
  simp [go_sem, sameRl]
  repeat' split
  all_goals first | (simp_all; done) | (simp_all; omega)
theorem eql_rl (x y : Rl) : ∀ w, (Sem.run Tryz.prog (binOp BinOp.eql 103 (rlV x) (rlV y)) w) = Result.ok (.bool (sameRl x y)) w := by
  intro w
  obtain ⟨p, k, s, a⟩ := x
  obtain ⟨p', k', s', a'⟩ := y
  simp [go_sem, sameRl]
  repeat' split
  all_goals first | (simp_all; done) | (simp_all; omega)
theorem rls_no (a a' : Option Addr) (n n' c c' : Nat) (w : World) (hne : n ≠ n') (hn : n ≤ 1000000) (hn' : n' ≤ 1000000) :
    Calls Tryz.prog 126 #[.slice a n c, .slice a' n' c'] w (RetB (.bool false) w) := by
  have hb : ((n : Int) != n') = true := by rw [bne_iff_ne]; omega
  have HN := Lib.hid hne
  clear hne
  go_enter Tryz.func126, Tryz.ntmps126
  go_wp2
  go_ret
  exact retB_bool rfl (Below.refl _ _)
set_option maxRecDepth 100000 in
set_option maxHeartbeats 1000000 in
theorem rls_yes (a a' : Option Addr) (n c c' : Nat) (l l' : List Rl) (w : World) (hn : n ≤ 1000000) (h : SL rlC 4 w w.heap.size a n l) (h' : SL rlC 4 w w.heap.size a' n l') :
    Calls Tryz.prog 126 #[.slice a n c, .slice a' n c'] w (fun e w' => ∃ r : Bool, e = .returned (.bool r) ∧ (r = true ↔ l = l') ∧ Below w.heap.size w w') := by
  have hl := Lib.hid h.len
  have hl' := Lib.hid h'.len
  go_enter Tryz.func126, Tryz.ntmps126
  go_wp2
  go_loopw [5] (fun i wr => ∃ k : Nat, k ≤ n ∧ i = .int .i64 k ∧ l.take k = l'.take k ∧ Below w.heap.size w wr) (fun i _ => n - (intOf i).toNat)
  case atStart => exact ⟨0, by omega, rfl, rfl, Below.refl _ _⟩
  case round =>
    obtain ⟨k, hk, rfl, htk, hb⟩ := hrel
    have HT := Lib.hid htk
    clear htk
    by_cases hlt : k < n
    · have hk1 : k < l.length := by have := hl.out; omega
      have hk2 : k < l'.length := by have := hl'.out; omega
      obtain ⟨b, off, rfl, hB, hc⟩ := (h.below hb).cells (h.ne hlt)
      obtain ⟨b', off', rfl, hB', hc'⟩ := (h'.below hb).cells (h'.ne hlt)
      obtain ⟨c0, c1, c2, c3⟩ := rl_cells (fun j hj => hc k hk1 j hj)
      obtain ⟨d0, d1, d2, d3⟩ := rl_cells (fun j hj => hc' k hk2 j hj)
      obtain ⟨x, hx⟩ : ∃ x, x = l[k] := ⟨_, rfl⟩
      obtain ⟨y, hy⟩ : ∃ y, y = l'[k] := ⟨_, rfl⟩
      rw [← hx] at c0 c1 c2 c3
      rw [← hy] at d0 d1 d2 d3
      have HX := Lib.hid hx
      have HY := Lib.hid hy
      have hnq := neq_rl x y
      clear hc hc' h h' hx hy
      cases e : sameRl x y
      · have HE : Hid (x ≠ y) := Lib.hid (fun hh => by rw [sameRl_iff.2 hh] at e; cases e)
        rw [e] at hnq
        clear e
        go_wp2
        go_quiet (fail)
        go_wp2
        go_ret
        refine ⟨false, rfl, ?_, below_drewN hb _⟩
        constructor
        · intro h; cases h
        · intro hh
          subst hh
          exact (HE.out (HX.out.trans HY.out.symm)).elim
      · have HE : Hid (x = y) := Lib.hid (sameRl_iff.1 e)
        rw [e] at hnq
        clear e
        go_wp2
        go_quiet (fail)
        go_wp2
        go_roundw
        case rel =>
          refine ⟨k + 1, by omega, by go_num, ?_, below_drewN hb _⟩
          rw [List.take_succ_eq_append_getElem hk1, List.take_succ_eq_append_getElem hk2, HT.out, ← HX.out, ← HY.out, HE.out]
        case measure => simp [intOf]; omega
    · go_wp2
      go_ret
      refine ⟨true, rfl, ⟨fun _ => ?_, fun _ => rfl⟩, hb⟩
      have := HT.out
      rwa [List.take_of_length_le (by have := hl.out; omega), List.take_of_length_le (by have := hl'.out; omega)] at this
theorem rSameRels_any (a a' : Option Addr) (n n' c c' : Nat) (l l' : List Rl) (w : World) (hn : n ≤ 1000000) (hn' : n' ≤ 1000000) (h : SL rlC 4 w w.heap.size a n l) (h' : SL rlC 4 w w.heap.size a' n' l') :
    Calls Tryz.prog 126 #[.slice a n c, .slice a' n' c'] w (fun e w' => ∃ r : Bool, e = .returned (.bool r) ∧ (r = true ↔ l = l') ∧ Below w.heap.size w w') := by
  by_cases e : n = n'
  · subst e
    exact rls_yes a a' n c c' l l' w hn h h'
  · refine (rls_no a a' n n' c c' w e hn hn').mono ?_
    rintro e' w' ⟨rfl, hb⟩
    exact ⟨false, rfl, ⟨fun h => (by cases h), fun hh => (by subst hh; exact (e (h.len.trans h'.len.symm)).elim)⟩, hb⟩
theorem rSameRels_is (a a' : Option Addr) (n n' c c' : Nat) (l : List Rl) (w : World) (hn : n ≤ 1000000) (hn' : n' ≤ 1000000) (h : SL rlC 4 w w.heap.size a n l) (h' : SL rlC 4 w w.heap.size a' n' l) :
    Calls Tryz.prog 126 #[.slice a n c, .slice a' n' c'] w (RetB (.bool true) w) := by
  refine (rSameRels_any a a' n n' c c' l l w hn hn' h h').mono ?_
  rintro e w' ⟨r, rfl, hr, hb⟩
  exact ⟨by rw [hr.2 rfl], hb⟩
open Go.ChangeShapes Go.WideShapes Go.Deep Go.RowKit

def bigS (x n y : Nat) : Bool := decide (5000 < x ∨ 80 < n ∨ 100 < y)
set_option maxRecDepth 100000 in
set_option maxHeartbeats 600000 in
theorem rBig_any (N B : ByteArray) (k : Int) (kp : Bool) (al : Int) (a : Option Addr) (n c : Nat) (w : World) : Calls Tryz.prog 59 #[.agg #[.string N, .int .i64 k, .bool kp, .int .i64 al, .string B, .slice a n c]] w (RetB (.bool (bigS B.size n N.size)) w) := by
  have HX : RB (w.alloc (.cells #[.string N, .int .i64 k, .bool kp, .int .i64 al, .string B, .slice a n c] 74)) w.heap.size #[.string N, .int .i64 k, .bool kp, .int .i64 al, .string B, .slice a n c] 74 := (MapKept.heap_alloc w _).1
  have HB1 : Hid (Below w.heap.size w (w.alloc (.cells #[.string N, .int .i64 k, .bool kp, .int .i64 al, .string B, .slice a n c] 74))) := Lib.hid ((Below.refl _ w).alloc (Nat.le_refl _) _)
  have x0 : (w.alloc (.cells #[.string N, .int .i64 k, .bool kp, .int .i64 al, .string B, .slice a n c] 74)).cell? ⟨w.heap.size, 0, none⟩ = some (.string N) := HX.cell
  have x4 : (w.alloc (.cells #[.string N, .int .i64 k, .bool kp, .int .i64 al, .string B, .slice a n c] 74)).cell? ⟨w.heap.size, 4, none⟩ = some (.string B) := HX.cell
  have x5 : (w.alloc (.cells #[.string N, .int .i64 k, .bool kp, .int .i64 al, .string B, .slice a n c] 74)).cell? ⟨w.heap.size, 5, none⟩ = some (.slice a n c) := HX.cell
  clear HX
  by_cases h1 : 5000 < B.size
  · have r1 : (5000 : Int) < (B.size : Int) := by omega
    have HR : Hid (bigS B.size n N.size = true) := Lib.hid (decide_eq_true (.inl h1))
    clear h1
    go_enter Tryz.func59, Tryz.ntmps59
    go_wp2
    go_ret
    exact retB_bool HR.out.symm HB1.out
  · have r1 : ¬ (5000 : Int) < (B.size : Int) := by omega
    by_cases h2 : 80 < n
    · have r2 : (80 : Int) < (n : Int) := by omega
      have HR : Hid (bigS B.size n N.size = true) := Lib.hid (decide_eq_true (.inr (.inl h2)))
      clear h1 h2
      go_enter Tryz.func59, Tryz.ntmps59
      go_wp2
      go_ret
      exact retB_bool HR.out.symm HB1.out
    · have r2 : ¬ (80 : Int) < (n : Int) := by omega
      by_cases h3 : 100 < N.size
      · have r3 : (100 : Int) < (N.size : Int) := by omega
        have HR : Hid (bigS B.size n N.size = true) := Lib.hid (decide_eq_true (.inr (.inr h3)))
        clear h1 h2 h3
        go_enter Tryz.func59, Tryz.ntmps59
        go_wp2
        go_ret
        exact retB_bool HR.out.symm HB1.out
      · have r3 : ¬ (100 : Int) < (N.size : Int) := by omega
        have HR : Hid (bigS B.size n N.size = false) := Lib.hid (decide_eq_false (by omega))
        clear h1 h2 h3
        go_enter Tryz.func59, Tryz.ntmps59
        go_wp2
        go_ret
        exact retB_bool HR.out.symm HB1.out
open Go.ChangeShapes Go.WideShapes Go.Deep Go.RowKit

set_option maxRecDepth 100000 in
set_option maxHeartbeats 600000 in
theorem rSame_is (N B : ByteArray) (k : Int) (kp : Bool) (al : Int) (a a' : Option Addr) (n c c' : Nat) (l : List Rl) (w : World) (hn : n ≤ 1000000) (hs : SL rlC 4 w w.heap.size a n l) (hs' : SL rlC 4 w w.heap.size a' n l) : Calls Tryz.prog 93 #[.agg #[.string N, .int .i64 k, .bool kp, .int .i64 al, .string B, .slice a n c], .agg #[.string N, .int .i64 k, .bool kp, .int .i64 al, .string B, .slice a' n c']] w (RetB (.bool true) w) := by
  have HC : Hid (∀ u, Below w.heap.size w u → Calls Tryz.prog 126 #[.slice a n c, .slice a' n c'] u (RetB (.bool true) u)) := Lib.hid (fun u hu => rSameRels_is a a' n n c c' l u hn hn (hs.next hu) (hs'.next hu))
  have HW := Lib.hid (two_rb (w := w) (A := #[.string N, .int .i64 k, .bool kp, .int .i64 al, .string B, .slice a n c]) (B := #[.string N, .int .i64 k, .bool kp, .int .i64 al, .string B, .slice a' n c']) (T := 74) (U := 74))
  obtain ⟨X, hX⟩ : ∃ X, X = w.heap.size := ⟨_, rfl⟩
  rw [← hX] at HW
  have HXE := Lib.hid hX
  clear hs hs' hn
  go_enter Tryz.func93, Tryz.ntmps93
  go_wp2_with fail
  rw [← hX]
  clear hX
  generalize (w.alloc (.cells #[.string N, .int .i64 k, .bool kp, .int .i64 al, .string B, .slice a n c] 74)).alloc (.cells #[.string N, .int .i64 k, .bool kp, .int .i64 al, .string B, .slice a' n c'] 74) = W at HW ⊢
  have HB4 : Hid (Below w.heap.size w W) := Lib.hid (by have := HW.out.2.2; rw [HXE.out] at this; exact this)
  have x0 : W.cell? ⟨X, 0, none⟩ = some (.string N) := HW.out.1.cell
  have y0 : W.cell? ⟨X + 1, 0, none⟩ = some (.string N) := HW.out.2.1.cell
  have x1 : W.cell? ⟨X, 1, none⟩ = some (.int .i64 k) := HW.out.1.cell
  have y1 : W.cell? ⟨X + 1, 1, none⟩ = some (.int .i64 k) := HW.out.2.1.cell
  have x2 : W.cell? ⟨X, 2, none⟩ = some (.bool kp) := HW.out.1.cell
  have y2 : W.cell? ⟨X + 1, 2, none⟩ = some (.bool kp) := HW.out.2.1.cell
  have x3 : W.cell? ⟨X, 3, none⟩ = some (.int .i64 al) := HW.out.1.cell
  have y3 : W.cell? ⟨X + 1, 3, none⟩ = some (.int .i64 al) := HW.out.2.1.cell
  have x4 : W.cell? ⟨X, 4, none⟩ = some (.string B) := HW.out.1.cell
  have y4 : W.cell? ⟨X + 1, 4, none⟩ = some (.string B) := HW.out.2.1.cell
  have x5 : W.cell? ⟨X, 5, none⟩ = some (.slice a n c) := HW.out.1.cell
  have y5 : W.cell? ⟨X + 1, 5, none⟩ = some (.slice a' n c') := HW.out.2.1.cell
  go_wp2_with fail
  refine (HC.out _ HB4.out).mono ?_
  rintro e u ⟨rfl, hb⟩
  have HB5 := Lib.hid (after HB4.out hb)
  clear hb x0 x1 x2 x3 x4 x5 y0 y1 y2 y3 y4 y5
  go_wp2
  go_ret
  exact retB_bool rfl HB5.out
open Go.ChangeShapes Go.WideShapes Go.Deep Go.RowKit

structure Grew (s t : Sc) : Prop where
  was : secR s = true
  right : secR t = true
  good : GoodSc t
  name : t.name = s.name
  kind : t.kind = s.kind
  keep : t.keep = s.keep
  align : s.align ≤ t.align
  data : ∃ x, t.data = s.data ++ x
  rels : ∃ q, t.rels = s.rels ++ q
def Grows (s : Sc) (x : Sc × Int) : Prop := x.2 = 0 ∧ Grew s x.1 ∨ x.2 ≠ 0 ∧ x.1 = scZ ∧ (secR s = false → x.2 = 1)
theorem secR_good {s t : Sc} (hs : GoodSc s) (hn : t.name = s.name) (hk : t.kind = s.kind) (h : secR t = true) (hr : ∀ r ∈ t.rels, GoodRl r) : GoodSc t := by
  obtain ⟨hh, -⟩ := sec_iff.1 h
  obtain ⟨h1, h2, h3, h4, h5, h6, h7⟩ := head_iff.1 hh
  refine ⟨by rw [hn]; exact hs.name, by rw [hk]; exact hs.kind, ?_, by unfold maxLen; omega, hr⟩
  constructor <;> omega
theorem placed_two2 (s : Sc) (x : List UInt8) (q : List Rl) : (placedL s x q).2 = 0 ∨ placedL s x q = (scZ, 2) := by
  unfold placedL
  split
  · exact .inr rfl
  · exact .inl rfl
theorem put_grows {s : Sc} (hg : GoodSc s) (x : List UInt8) : Grows s (pPutL s x) := by
  rcases h : pPutL s x with ⟨t, e⟩
  by_cases he : e = 0
  · subst he
    obtain ⟨h1, h2, h3⟩ := put_right h
    subst h3
    exact .inl ⟨rfl, h1, h2, secR_good hg rfl rfl h2 hg.rels, rfl, rfl, rfl, Int.le_refl _, ⟨x, rfl⟩, ⟨[], by simp⟩⟩
  · refine .inr ⟨he, ?_⟩
    unfold pPutL at h
    split at h
    · rename_i hs
      rcases placed_two2 s x [] with hh | hh
      · rw [h] at hh; exact absurd hh he
      · rw [hh] at h; cases h; exact ⟨rfl, fun hf => absurd (hs.symm.trans hf) (by decide)⟩
    · cases h; exact ⟨rfl, fun _ => rfl⟩
theorem align_grows {s : Sc} (hg : GoodSc s) (n : Int) : Grows s (pAlignL s n) := by
  rcases h : pAlignL s n with ⟨t, e⟩
  by_cases he : e = 0
  · subst he
    obtain ⟨h1, h2, h3, h4, h5⟩ := align_right h
    subst h5
    exact .inl ⟨rfl, h1, h4, secR_good hg rfl rfl h4 hg.rels, rfl, rfl, rfl, (by show s.align ≤ max s.align n; omega), ⟨_, rfl⟩, ⟨[], by simp⟩⟩
  · refine .inr ⟨he, ?_⟩
    unfold pAlignL at h
    split at h
    · rename_i hs
      split at h
      · cases h; exact ⟨rfl, fun hf => absurd (hs.symm.trans hf) (by decide)⟩
      · rcases placed_two2 { s with align := max s.align n } (nulB (lackN s.data.length n.toNat)) [] with hh | hh
        · rw [h] at hh; exact absurd hh he
        · rw [hh] at h; cases h; exact ⟨rfl, fun hf => absurd (hs.symm.trans hf) (by decide)⟩
    · cases h; exact ⟨rfl, fun _ => rfl⟩
theorem word_grows {s : Sc} (hg : GoodSc s) (w : Nat) (hw : w < 4294967296) (kind sym add : Int) (h1 : i64ok kind) (h2 : i64ok sym) (h3 : i64ok add) : Grows s (pWordL s w kind sym add) := by
  rcases h : pWordL s w kind sym add with ⟨t, e⟩
  by_cases he : e = 0
  · subst he
    obtain ⟨r1, r2, r3, r4⟩ := word_right hw h
    obtain ⟨d1, d2, d3, d4, d5, d6, d7⟩ := head_iff.1 (sec_iff.1 r1).1
    rcases r4 with ⟨-, rfl⟩ | ⟨-, -, -, -, rfl⟩
    · exact .inl ⟨rfl, r1, r3, secR_good hg rfl rfl r3 hg.rels, rfl, rfl, rfl, Int.le_refl _, ⟨_, rfl⟩, ⟨[], by simp⟩⟩
    · refine .inl ⟨rfl, r1, r3, secR_good hg rfl rfl r3 ?_, rfl, rfl, rfl, Int.le_refl _, ⟨_, rfl⟩, ⟨_, rfl⟩⟩
      intro r hr
      rcases List.mem_append.1 hr with hr | hr
      · exact hg.rels r hr
      · rw [List.mem_singleton] at hr; subst hr
        exact ⟨by unfold i64ok; simp only []; omega, h1, h2, h3⟩
  · refine .inr ⟨he, ?_⟩
    unfold pWordL at h
    split at h
    · rename_i hs
      have hp : ∀ q, placedL s (leB 4 w) q = (t, e) → t = scZ ∧ (secR s = false → e = 1) := fun q h => by
        rcases placed_two2 s (leB 4 w) q with hh | hh
        · rw [h] at hh; exact absurd hh he
        · rw [hh] at h; cases h; exact ⟨rfl, fun hf => absurd (hs.symm.trans hf) (by decide)⟩
      split at h
      · cases h; exact ⟨rfl, fun hf => absurd (hs.symm.trans hf) (by decide)⟩
      · split at h
        · exact hp _ h
        · split at h
          · cases h; exact ⟨rfl, fun hf => absurd (hs.symm.trans hf) (by decide)⟩
          · exact hp _ h
    · cases h; exact ⟨rfl, fun _ => rfl⟩
theorem quad_grows {s : Sc} (hg : GoodSc s) (v : Nat) (sym add : Int) (h2 : i64ok sym) (h3 : i64ok add) : Grows s (pQuadL s v sym add) := by
  rcases h : pQuadL s v sym add with ⟨t, e⟩
  by_cases he : e = 0
  · subst he
    obtain ⟨r1, r3, r4⟩ := quad_right h
    obtain ⟨d1, d2, d3, d4, d5, d6, d7⟩ := head_iff.1 (sec_iff.1 r1).1
    rcases r4 with ⟨-, rfl⟩ | ⟨-, rfl⟩
    · exact .inl ⟨rfl, r1, r3, secR_good hg rfl rfl r3 hg.rels, rfl, rfl, rfl, Int.le_refl _, ⟨_, rfl⟩, ⟨[], by simp⟩⟩
    · refine .inl ⟨rfl, r1, r3, secR_good hg rfl rfl r3 ?_, rfl, rfl, rfl, Int.le_refl _, ⟨_, rfl⟩, ⟨_, rfl⟩⟩
      intro r hr
      rcases List.mem_append.1 hr with hr | hr
      · exact hg.rels r hr
      · rw [List.mem_singleton] at hr; subst hr
        exact ⟨by unfold i64ok; simp only []; omega, by unfold i64ok; simp only []; omega, h2, h3⟩
  · refine .inr ⟨he, ?_⟩
    unfold pQuadL at h
    split at h
    · rename_i hs
      have hp : ∀ x q, placedL s x q = (t, e) → t = scZ ∧ (secR s = false → e = 1) := fun x q h => by
        rcases placed_two2 s x q with hh | hh
        · rw [h] at hh; exact absurd hh he
        · rw [hh] at h; cases h; exact ⟨rfl, fun hf => absurd (hs.symm.trans hf) (by decide)⟩
      split at h
      · exact hp _ _ h
      · exact hp _ _ h
    · cases h; exact ⟨rfl, fun _ => rfl⟩
/-- What a right section grows to is good. -/
theorem Grows.good {s : Sc} {x : Sc × Int} (h : Grows s x) : GoodSc x.1 := by
  rcases h with ⟨-, h⟩ | ⟨-, h, -⟩
  · exact h.good
  · rw [h]; exact ⟨by unfold maxLen; simp, by constructor <;> decide, by constructor <;> decide, by unfold maxLen; simp, by simp⟩
open Go.ChangeShapes Go.WideShapes Go.Deep Go.RowKit

theorem SecR.lit {s : Sc} {er : Int} {x : Sc × Int} {w w' : World} {e : Ending} (h : SecR x w e w') (hx : x = (s, er)) : ∃ a c, e = .returned (.tuple #[scV s a s.rels.length c, .int .i64 er]) ∧ SL rlC 4 w' w'.heap.size a s.rels.length s.rels ∧ (a = none → s.rels.length = 0 ∧ c = 0) ∧ s.rels.length ≤ c ∧ Below w.heap.size w w' := by
  subst hx
  obtain ⟨a, c, rfl, h1, h2⟩ := h
  obtain ⟨a', c', he, h3, h4, h5⟩ := h1.out
  cases he
  exact ⟨_, _, rfl, h3, h4, h5, h2⟩
theorem gr1 : pNewL [97] 1 false = ((⟨[97], 1, false, 0, [], []⟩ : Sc), 0) := by kernel_rfl
theorem gr2 : pPutL (⟨[97], 1, false, 0, [], []⟩ : Sc) [120] = ((⟨[97], 1, false, 0, [120], []⟩ : Sc), 0) := by kernel_rfl
theorem gr3 : pAlignL (⟨[97], 1, false, 0, [120], []⟩ : Sc) 3 = ((⟨[97], 1, false, 3, [120, 0, 0, 0, 0, 0, 0, 0], []⟩ : Sc), 0) := by kernel_rfl
theorem gr4 : encP ⟨30, 0, 0, 0, 0, 0, 0, 0, 0, 0⟩ = (2483027968, 0) := by kernel_rfl
theorem gr5 : pWordL (⟨[97], 1, false, 0, [], []⟩ : Sc) 2483027968 2 0 4 = ((⟨[97], 1, false, 0, [0, 0, 0, 148], [(⟨0, 2, 0, 4⟩ : Rl)]⟩ : Sc), 0) := by kernel_rfl
theorem gr6 : pWordL (⟨[97], 1, false, 0, [120], []⟩ : Sc) 2483027968 0 0 0 = (scZ, 5) := by kernel_rfl
theorem gr7 : pNewL [120, 49] 1 false = (scZ, 6) := by kernel_rfl
theorem gr8 : secR (⟨[97], 1, false, 0, [0, 0, 0, 148], [(⟨0, 2, 0, 4⟩ : Rl)]⟩ : Sc) = true := by kernel_rfl
theorem gr9 : fitsI 2 (readW 2483027968) = true := by kernel_rfl
theorem gr10 : secR scZ = false := by kernel_rfl
abbrev seC (N : ByteArray) (k : Int) (kp : Bool) (al : Int) (B : ByteArray) (a : Option Addr) (n c : Nat) : Array Value := #[.string N, .int .i64 k, .bool kp, .int .i64 al, .string B, .slice a n c]
def GotB (u : World) (N : ByteArray) (k : Int) (kp : Bool) (al : Int) (B : ByteArray) (m : Nat) (l : List Rl) (er : Int) (e : Ending) (v : World) : Prop :=
  ∃ a c, e = .returned (.tuple #[.agg #[.string N, .int .i64 k, .bool kp, .int .i64 al, .string B, .slice a m c], .int .i64 er]) ∧ SL rlC 4 v v.heap.size a m l ∧ (a = none → m = 0 ∧ c = 0) ∧ m ≤ c ∧ Below u.heap.size u v
theorem SecR.got {N B : ByteArray} {k al er : Int} {kp : Bool} {m : Nat} {l : List Rl} {x : Sc × Int} {u v : World} {e : Ending} (h : SecR x u e v) (hx : x = (⟨N.data.toList, k, kp, al, B.data.toList, l⟩, er)) (hm : m = l.length) : GotB u N k kp al B m l er e v := by
  subst hm
  obtain ⟨a, c, h1, h2, h3, h4, h5⟩ := h.lit hx
  exact ⟨a, c, h1, h2, h3, h4, h5⟩
theorem sec_bytes (x : Sc × Int) : ∃ (N B : ByteArray) (k : Int) (kp : Bool) (al : Int) (m : Nat) (l : List Rl) (er : Int), x = (⟨N.data.toList, k, kp, al, B.data.toList, l⟩, er) ∧ m = l.length :=
  ⟨⟨x.1.name.toArray⟩, ⟨x.1.data.toArray⟩, x.1.kind, x.1.keep, x.1.align, _, x.1.rels, x.2, rfl, rfl⟩
theorem Sc.eta (s : Sc) : s = ⟨(⟨s.name.toArray⟩ : ByteArray).data.toList, s.kind, s.keep, s.align, (⟨s.data.toArray⟩ : ByteArray).data.toList, s.rels⟩ := rfl
structure GoodB (N : ByteArray) (k al : Int) (B : ByteArray) (l : List Rl) : Prop where
  name : N.size ≤ maxLen
  data : B.size ≤ maxLen
  rels : ∀ r ∈ l, GoodRl r
  kind : i64ok k
  align : i64ok al
theorem GoodB.sc {N B : ByteArray} {k al : Int} {l : List Rl} (h : GoodB N k al B l) (kp : Bool) : GoodSc ⟨N.data.toList, k, kp, al, B.data.toList, l⟩ :=
  ⟨by simpa using h.name, h.kind, h.align, by simpa using h.data, h.rels⟩
theorem GoodSc.b {N B : ByteArray} {k al : Int} {kp : Bool} {l : List Rl} (h : GoodSc ⟨N.data.toList, k, kp, al, B.data.toList, l⟩) : GoodB N k al B l :=
  ⟨by simpa using h.name, by simpa using h.data, h.rels, h.kind, h.align⟩
theorem ba_size (B : ByteArray) : B.data.toList.length = B.size := by simp
end Go.Proofs.YtdgfadabaejkhaaGreatDoor
