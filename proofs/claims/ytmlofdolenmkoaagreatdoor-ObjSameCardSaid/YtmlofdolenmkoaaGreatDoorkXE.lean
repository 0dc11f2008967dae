/- part: the reference's SameRels. part: the reference's Big and Same. part: the reference's Same. part, plain: whatever is put behind a section, it is right and begins as it was. The law's own grown: constants. What hands back a section, for the laws' walks. -/
import Derived.Test.YtmlofdolenmkoaaGreatDoorkXD
import Derived.Test.YtmlofdolenmkoaaGreatDoorkXA
import Derived.Test.YtmlofdolenmkoaaGreatDoorkXC
import Derived.Test.YtmlofdolenmkoaaGreatDoorkXB
import Derived.Test.YtmlofdolenmkoaaGreatDoorkCU
namespace Go.Proofs.YtmlofdolenmkoaaGreatDoor
set_option linter.unusedVariables false
set_option linter.unusedSimpArgs false
open Go.RowKit
open Go.ChangeShapes Go.WideShapes Go.Deep Go.RowKit

abbrev rlV (t : Rl) : Value := .agg #[.int .i64 t.pos, .int .i64 t.kind, .int .i64 t.sym, .int .i64 t.add]
def sameRl (x y : Rl) : Bool := x.pos == y.pos && (x.kind == y.kind && (x.sym == y.sym && x.add == y.add))
theorem sameRl_iff {x y : Rl} : sameRl x y = true ↔ x = y := by
  cases x; cases y
  simp [sameRl, Rl.mk.injEq]
theorem neq_rl (x y : Rl) : ∀ w, (Sem.run Tryz.prog (binOp BinOp.neq 48 (rlV x) (rlV y)) w) = Result.ok (.bool (!sameRl x y)) w := by
  intro w
  obtain ⟨p, k, s, a⟩ := x
  obtain ⟨p', k', s', a'⟩ := y
  simp [go_sem, sameRl]
  repeat' split
  all_goals first | (simp_all; done) | (simp_all; omega)
theorem eql_rl (x y : Rl) : ∀ w, (Sem.run Tryz.prog (binOp BinOp.eql 48 (rlV x) (rlV y)) w) = Result.ok (.bool (sameRl x y)) w := by
  intro w
  obtain ⟨p, k, s, a⟩ := x
  obtain ⟨p', k', s', a'⟩ := y
  simp [go_sem, sameRl]
  repeat' split
  all_goals first | (simp_all; done) | (simp_all; omega)
theorem rls_no (a a' : Option Addr) (n n' c c' : Nat) (w : World) (hne : n ≠ n') (hn : n ≤ 1000000) (hn' : n' ≤ 1000000) :
    Calls Tryz.prog 22 #[.slice a n c, .slice a' n' c'] w (RetB (.bool false) w) := by
  have hb : ((n : Int) != n') = true := by rw [bne_iff_ne]; omega
  have HN := Lib.hid hne
  clear hne
  go_enter Tryz.func22, Tryz.ntmps22
  go_wp2
  go_ret
  exact retB_bool rfl (Below.refl _ _)
set_option maxRecDepth 100000 in
set_option maxHeartbeats 1000000 in
theorem rls_yes (a a' : Option Addr) (n c c' : Nat) (l l' : List Rl) (w : World) (hn : n ≤ 1000000) (h : SL rlC 4 w w.heap.size a n l) (h' : SL rlC 4 w w.heap.size a' n l') :
    Calls Tryz.prog 22 #[.slice a n c, .slice a' n c'] w (fun e w' => ∃ r : Bool, e = .returned (.bool r) ∧ (r = true ↔ l = l') ∧ Below w.heap.size w w') := by
  have hl := Lib.hid h.len
  have hl' := Lib.hid h'.len
  go_enter Tryz.func22, Tryz.ntmps22
  go_wp2
  go_loopw [5] (fun i wr => ∃ k : Nat, k ≤ n ∧ i = .int .i64 k ∧ l.take k = l'.take k ∧ Below w.heap.size w wr) (fun i _ => n - (intOf i).toNat)
  case atStart => exact ⟨0, by omega, rfl, rfl, Below.refl _ _⟩
  case round =>
    obtain ⟨k, hk, rfl, htk, hb⟩ := hrel
    have HT := Lib.hid htk
    clear htk
    by_cases hlt : k < n
    · have hk1 : k < l.length := by have := hl.out; omega
      have hk2 : k < l'.length := by have := hl'.out; omega
      obtain ⟨b, off, rfl, hB, hc⟩ := (h.below hb).cells (h.ne hlt)
      obtain ⟨b', off', rfl, hB', hc'⟩ := (h'.below hb).cells (h'.ne hlt)
      obtain ⟨c0, c1, c2, c3⟩ := rl_cells (fun j hj => hc k hk1 j hj)
      obtain ⟨d0, d1, d2, d3⟩ := rl_cells (fun j hj => hc' k hk2 j hj)
      obtain ⟨x, hx⟩ : ∃ x, x = l[k] := ⟨_, rfl⟩
      obtain ⟨y, hy⟩ : ∃ y, y = l'[k] := ⟨_, rfl⟩
      rw [← hx] at c0 c1 c2 c3
      rw [← hy] at d0 d1 d2 d3
      have HX := Lib.hid hx
      have HY := Lib.hid hy
      have hnq := neq_rl x y
      clear hc hc' h h' hx hy
      cases e : sameRl x y
      · have HE : Hid (x ≠ y) := Lib.hid (fun hh => by rw [sameRl_iff.2 hh] at e; cases e)
        rw [e] at hnq
        clear e
        go_wp2
        go_quiet (fail)
        go_wp2
        go_ret
        refine ⟨false, rfl, ?_, below_drewN hb _⟩
        constructor
        · intro h; cases h
        · intro hh
          subst hh
          exact (HE.out (HX.out.trans HY.out.symm)).elim
      · have HE : Hid (x = y) := Lib.hid (sameRl_iff.1 e)
        rw [e] at hnq
        clear e
        go_wp2
        go_quiet (fail)
        go_wp2
        go_roundw
        case rel =>
          refine ⟨k + 1, by omega, by go_num, ?_, below_drewN hb _⟩
          rw [List.take_succ_eq_append_getElem hk1, List.take_succ_eq_append_getElem hk2, HT.out, ← HX.out, ← HY.out, HE.out]
        case measure => simp [intOf]; omega
    · go_wp2
      go_ret
      refine ⟨true, rfl, ⟨fun _ => ?_, fun _ => rfl⟩, hb⟩
      have := HT.out
      rwa [List.take_of_length_le (by have := hl.out; omega), List.take_of_length_le (by have := hl'.out; omega)] at this
theorem rSameRels_any (a a' : Option Addr) (n n' c c' : Nat) (l l' : List Rl) (w : World) (hn : n ≤ 1000000) (hn' : n' ≤ 1000000) (h : SL rlC 4 w w.heap.size a n l) (h' : SL rlC 4 w w.heap.size a' n' l') :
    Calls Tryz.prog 22 #[.slice a n c, .slice a' n' c'] w (fun e w' => ∃ r : Bool, e = .returned (.bool r) ∧ (r = true ↔ l = l') ∧ Below w.heap.size w w') := by
  by_cases e : n = n'
  · subst e
    exact rls_yes a a' n c c' l l' w hn h h'
  · refine (rls_no a a' n n' c c' w e hn hn').mono ?_
    rintro e' w' ⟨rfl, hb⟩
    exact ⟨false, rfl, ⟨fun h => (by cases h), fun hh => (by subst hh; exact (e (h.len.trans h'.len.symm)).elim)⟩, hb⟩
theorem rSameRels_is (a a' : Option Addr) (n n' c c' : Nat) (l : List Rl) (w : World) (hn : n ≤ 1000000) (hn' : n' ≤ 1000000) (h : SL rlC 4 w w.heap.size a n l) (h' : SL rlC 4 w w.heap.size a' n' l) :
    Calls Tryz.prog 22 #[.slice a n c, .slice a' n' c'] w (RetB (.bool true) w) := by
  refine (rSameRels_any a a' n n' c c' l l w hn hn' h h').mono ?_
  rintro e w' ⟨r, rfl, hr, hb⟩
  exact ⟨by rw [hr.2 rfl], hb⟩
open Go.ChangeShapes Go.WideShapes Go.Deep Go.RowKit

def bigS (x n y : Nat) : Bool := decide (5000 < x ∨ 80 < n ∨ 100 < y)
set_option maxRecDepth 100000 in
set_option maxHeartbeats 600000 in
theorem rBig_any (N B : ByteArray) (k : Int) (kp : Bool) (al : Int) (a : Option Addr) (n c : Nat) (w : World) : Calls Tryz.prog 17 #[.agg #[.string N, .int .i64 k, .bool kp, .int .i64 al, .string B, .slice a n c]] w (RetB (.bool (bigS B.size n N.size)) w) := by
  have HX : RB (w.alloc (.cells #[.string N, .int .i64 k, .bool kp, .int .i64 al, .string B, .slice a n c] 24)) w.heap.size #[.string N, .int .i64 k, .bool kp, .int .i64 al, .string B, .slice a n c] 24 := (MapKept.heap_alloc w _).1
  have HB1 : Hid (Below w.heap.size w (w.alloc (.cells #[.string N, .int .i64 k, .bool kp, .int .i64 al, .string B, .slice a n c] 24))) := Lib.hid ((Below.refl _ w).alloc (Nat.le_refl _) _)
  have x0 : (w.alloc (.cells #[.string N, .int .i64 k, .bool kp, .int .i64 al, .string B, .slice a n c] 24)).cell? ⟨w.heap.size, 0, none⟩ = some (.string N) := HX.cell
  have x4 : (w.alloc (.cells #[.string N, .int .i64 k, .bool kp, .int .i64 al, .string B, .slice a n c] 24)).cell? ⟨w.heap.size, 4, none⟩ = some (.string B) := HX.cell
  have x5 : (w.alloc (.cells #[.string N, .int .i64 k, .bool kp, .int .i64 al, .string B, .slice a n c] 24)).cell? ⟨w.heap.size, 5, none⟩ = some (.slice a n c) := HX.cell
  clear HX
  by_cases h1 : 5000 < B.size
  · have r1 : (5000 : Int) < (B.size : Int) := by omega
    have HR : Hid (bigS B.size n N.size = true) := Lib.hid (decide_eq_true (.inl h1))
    clear h1
    go_enter Tryz.func17, Tryz.ntmps17
    go_wp2
    go_ret
    exact retB_bool HR.out.symm HB1.out
  · have r1 : ¬ (5000 : Int) < (B.size : Int) := by omega
    by_cases h2 : 80 < n
    · have r2 : (80 : Int) < (n : Int) := by omega
      have HR : Hid (bigS B.size n N.size = true) := Lib.hid (decide_eq_true (.inr (.inl h2)))
      clear h1 h2
      go_enter Tryz.func17, Tryz.ntmps17
      go_wp2
      go_ret
      exact retB_bool HR.out.symm HB1.out
    · have r2 : ¬ (80 : Int) < (n : Int) := by omega
      by_cases h3 : 100 < N.size
      · have r3 : (100 : Int) < (N.size : Int) := by omega
        have HR : Hid (bigS B.size n N.size = true) := Lib.hid (decide_eq_true (.inr (.inr h3)))
        clear h1 h2 h3
        go_enter Tryz.func17, Tryz.ntmps17
        go_wp2
        go_ret
        exact retB_bool HR.out.symm HB1.out
      · have r3 : ¬ (100 : Int) < (N.size : Int) := by omega
        have HR : Hid (bigS B.size n N.size = false) := Lib.hid (decide_eq_false (by omega))
        clear h1 h2 h3
        go_enter Tryz.func17, Tryz.ntmps17
        go_wp2
        go_ret
        exact retB_bool HR.out.symm HB1.out
open Go.ChangeShapes Go.WideShapes Go.Deep Go.RowKit

set_option maxRecDepth 100000 in
set_option maxHeartbeats 600000 in
theorem rSame_is (N B : ByteArray) (k : Int) (kp : Bool) (al : Int) (a a' : Option Addr) (n c c' : Nat) (l : List Rl) (w : World) (hn : n ≤ 1000000) (hs : SL rlC 4 w w.heap.size a n l) (hs' : SL rlC 4 w w.heap.size a' n l) : Calls Tryz.prog 15 #[.agg #[.string N, .int .i64 k, .bool kp, .int .i64 al, .string B, .slice a n c], .agg #[.string N, .int .i64 k, .bool kp, .int .i64 al, .string B, .slice a' n c']] w (RetB (.bool true) w) := by
  have HC : Hid (∀ u, Below w.heap.size w u → Calls Tryz.prog 22 #[.slice a n c, .slice a' n c'] u (RetB (.bool true) u)) := Lib.hid (fun u hu => rSameRels_is a a' n n c c' l u hn hn (hs.next hu) (hs'.next hu))
  have HW := Lib.hid (two_rb (w := w) (A := #[.string N, .int .i64 k, .bool kp, .int .i64 al, .string B, .slice a n c]) (B := #[.string N, .int .i64 k, .bool kp, .int .i64 al, .string B, .slice a' n c']) (T := 24) (U := 24))
  obtain ⟨X, hX⟩ : ∃ X, X = w.heap.size := ⟨_, rfl⟩
  rw [← hX] at HW
  have HXE := Lib.hid hX
  clear hs hs' hn
  go_enter Tryz.func15, Tryz.ntmps15
  go_wp2_with fail
  rw [← hX]
  clear hX
  generalize (w.alloc (.cells #[.string N, .int .i64 k, .bool kp, .int .i64 al, .string B, .slice a n c] 24)).alloc (.cells #[.string N, .int .i64 k, .bool kp, .int .i64 al, .string B, .slice a' n c'] 24) = W at HW ⊢
  have HB4 : Hid (Below w.heap.size w W) := Lib.hid (by have := HW.out.2.2; rw [HXE.out] at this; exact this)
  have x0 : W.cell? ⟨X, 0, none⟩ = some (.string N) := HW.out.1.cell
  have y0 : W.cell? ⟨X + 1, 0, none⟩ = some (.string N) := HW.out.2.1.cell
  have x1 : W.cell? ⟨X, 1, none⟩ = some (.int .i64 k) := HW.out.1.cell
  have y1 : W.cell? ⟨X + 1, 1, none⟩ = some (.int .i64 k) := HW.out.2.1.cell
  have x2 : W.cell? ⟨X, 2, none⟩ = some (.bool kp) := HW.out.1.cell
  have y2 : W.cell? ⟨X + 1, 2, none⟩ = some (.bool kp) := HW.out.2.1.cell
  have x3 : W.cell? ⟨X, 3, none⟩ = some (.int .i64 al) := HW.out.1.cell
  have y3 : W.cell? ⟨X + 1, 3, none⟩ = some (.int .i64 al) := HW.out.2.1.cell
  have x4 : W.cell? ⟨X, 4, none⟩ = some (.string B) := HW.out.1.cell
  have y4 : W.cell? ⟨X + 1, 4, none⟩ = some (.string B) := HW.out.2.1.cell
  have x5 : W.cell? ⟨X, 5, none⟩ = some (.slice a n c) := HW.out.1.cell
  have y5 : W.cell? ⟨X + 1, 5, none⟩ = some (.slice a' n c') := HW.out.2.1.cell
  go_wp2_with fail
  refine (HC.out _ HB4.out).mono ?_
  rintro e u ⟨rfl, hb⟩
  have HB5 := Lib.hid (after HB4.out hb)
  clear hb x0 x1 x2 x3 x4 x5 y0 y1 y2 y3 y4 y5
  go_wp2
  go_ret
  exact retB_bool rfl HB5.out
open Go.ChangeShapes Go.WideShapes Go.Deep Go.RowKit

structure Grew (s t : Sc) : Prop where
  was : secR s = true
  right : secR t = true
  good : GoodSc t
  name : t.name = s.name
  kind : t.kind = s.kind
  keep : t.keep = s.keep
  align : s.align ≤ t.align
  data : ∃ x, t.data = s.data ++ x
  rels : ∃ q, t.rels = s.rels ++ q
def Grows (s : Sc) (x : Sc × Int) : Prop := x.2 = 0 ∧ Grew s x.1 ∨ x.2 ≠ 0 ∧ x.1 = scZ ∧ (secR s = false → x.2 = 1)
theorem secR_good {s t : Sc} (hs : GoodSc s) (hn : t.name = s.name) (hk : t.kind = s.kind) (h : secR t = true) (hr : ∀ r ∈ t.rels, GoodRl r) : GoodSc t := by
  obtain ⟨hh, -⟩ := sec_iff.1 h
  obtain ⟨h1, h2, h3, h4, h5, h6, h7⟩ := head_iff.1 hh
  refine ⟨by rw [hn]; exact hs.name, by rw [hk]; exact hs.kind, ?_, by unfold maxLen; omega, hr⟩
  constructor <;> omega
theorem placed_two2 (s : Sc) (x : List UInt8) (q : List Rl) : (placedL s x q).2 = 0 ∨ placedL s x q = (scZ, 2) := by
  unfold placedL
  split
  · exact .inr rfl
  · exact .inl rfl
theorem put_grows {s : Sc} (hg : GoodSc s) (x : List UInt8) : Grows s (pPutL s x) := by
  rcases h : pPutL s x with ⟨t, e⟩
  by_cases he : e = 0
  · subst he
    obtain ⟨h1, h2, h3⟩ := put_right h
    subst h3
    exact .inl ⟨rfl, h1, h2, secR_good hg rfl rfl h2 hg.rels, rfl, rfl, rfl, Int.le_refl _, ⟨x, rfl⟩, ⟨[], by simp⟩⟩
  · refine .inr ⟨he, ?_⟩
    unfold pPutL at h
    split at h
    · rename_i hs
      rcases placed_two2 s x [] with hh | hh
      · rw [h] at hh; exact absurd hh he
      · rw [hh] at h; cases h; exact ⟨rfl, fun hf => absurd (hs.symm.trans hf) (by decide)⟩
    · cases h; exact ⟨rfl, fun _ => rfl⟩
theorem align_grows {s : Sc} (hg : GoodSc s) (n : Int) : Grows s (pAlignL s n) := by
  rcases h : pAlignL s n with ⟨t, e⟩
  by_cases he : e = 0
  · subst he
    obtain ⟨h1, h2, h3, h4, h5⟩ := align_right h
    subst h5
    exact .inl ⟨rfl, h1, h4, secR_good hg rfl rfl h4 hg.rels, rfl, rfl, rfl, (by show s.align ≤ max s.align n; omega), ⟨_, rfl⟩, ⟨[], by simp⟩⟩
  · refine .inr ⟨he, ?_⟩
    unfold pAlignL at h
    split at h
    · rename_i hs
      split at h
      · cases h; exact ⟨rfl, fun hf => absurd (hs.symm.trans hf) (by decide)⟩
      · rcases placed_two2 { s with align := max s.align n } (nulB (lackN s.data.length n.toNat)) [] with hh | hh
        · rw [h] at hh; exact absurd hh he
        · rw [hh] at h; cases h; exact ⟨rfl, fun hf => absurd (hs.symm.trans hf) (by decide)⟩
    · cases h; exact ⟨rfl, fun _ => rfl⟩
theorem word_grows {s : Sc} (hg : GoodSc s) (w : Nat) (hw : w < 4294967296) (kind sym add : Int) (h1 : i64ok kind) (h2 : i64ok sym) (h3 : i64ok add) : Grows s (pWordL s w kind sym add) := by
  rcases h : pWordL s w kind sym add with ⟨t, e⟩
  by_cases he : e = 0
  · subst he
    obtain ⟨r1, r2, r3, r4⟩ := word_right hw h
    obtain ⟨d1, d2, d3, d4, d5, d6, d7⟩ := head_iff.1 (sec_iff.1 r1).1
    rcases r4 with ⟨-, rfl⟩ | ⟨-, -, -, -, rfl⟩
    · exact .inl ⟨rfl, r1, r3, secR_good hg rfl rfl r3 hg.rels, rfl, rfl, rfl, Int.le_refl _, ⟨_, rfl⟩, ⟨[], by simp⟩⟩
    · refine .inl ⟨rfl, r1, r3, secR_good hg rfl rfl r3 ?_, rfl, rfl, rfl, Int.le_refl _, ⟨_, rfl⟩, ⟨_, rfl⟩⟩
      intro r hr
      rcases List.mem_append.1 hr with hr | hr
      · exact hg.rels r hr
      · rw [List.mem_singleton] at hr; subst hr
        exact ⟨by unfold i64ok; simp only []; omega, h1, h2, h3⟩
  · refine .inr ⟨he, ?_⟩
    unfold pWordL at h
    split at h
    · rename_i hs
      have hp : ∀ q, placedL s (leB 4 w) q = (t, e) → t = scZ ∧ (secR s = false → e = 1) := fun q h => by
        rcases placed_two2 s (leB 4 w) q with hh | hh
        · rw [h] at hh; exact absurd hh he
        · rw [hh] at h; cases h; exact ⟨rfl, fun hf => absurd (hs.symm.trans hf) (by decide)⟩
      split at h
      · cases h; exact ⟨rfl, fun hf => absurd (hs.symm.trans hf) (by decide)⟩
      · split at h
        · exact hp _ h
        · split at h
          · cases h; exact ⟨rfl, fun hf => absurd (hs.symm.trans hf) (by decide)⟩
          · exact hp _ h
    · cases h; exact ⟨rfl, fun _ => rfl⟩
theorem quad_grows {s : Sc} (hg : GoodSc s) (v : Nat) (sym add : Int) (h2 : i64ok sym) (h3 : i64ok add) : Grows s (pQuadL s v sym add) := by
  rcases h : pQuadL s v sym add with ⟨t, e⟩
  by_cases he : e = 0
  · subst he
    obtain ⟨r1, r3, r4⟩ := quad_right h
    obtain ⟨d1, d2, d3, d4, d5, d6, d7⟩ := head_iff.1 (sec_iff.1 r1).1
    rcases r4 with ⟨-, rfl⟩ | ⟨-, rfl⟩
    · exact .inl ⟨rfl, r1, r3, secR_good hg rfl rfl r3 hg.rels, rfl, rfl, rfl, Int.le_refl _, ⟨_, rfl⟩, ⟨[], by simp⟩⟩
    · refine .inl ⟨rfl, r1, r3, secR_good hg rfl rfl r3 ?_, rfl, rfl, rfl, Int.le_refl _, ⟨_, rfl⟩, ⟨_, rfl⟩⟩
      intro r hr
      rcases List.mem_append.1 hr with hr | hr
      · exact hg.rels r hr
      · rw [List.mem_singleton] at hr; subst hr
        exact ⟨by unfold i64ok; simp only []; omega, by unfold i64ok; simp only []; omega, h2, h3⟩
  · refine .inr ⟨he, ?_⟩
    unfold pQuadL at h
    split at h
    · rename_i hs
      have hp : ∀ x q, placedL s x q = (t, e) → t = scZ ∧ (secR s = false → e = 1) := fun x q h => by
        rcases placed_two2 s x q with hh | hh
        · rw [h] at hh; exact absurd hh he
        · rw [hh] at h; cases h; exact ⟨rfl, fun hf => absurd (hs.symm.trans hf) (by decide)⟩
      split at h
      · exact hp _ _ h
      · exact hp _ _ h
    · cases h; exact ⟨rfl, fun _ => rfl⟩
/-- What a right section grows to is good. -/
theorem Grows.good {s : Sc} {x : Sc × Int} (h : Grows s x) : GoodSc x.1 := by
  rcases h with ⟨-, h⟩ | ⟨-, h, -⟩
  · exact h.good
  · rw [h]; exact ⟨by unfold maxLen; simp, by constructor <;> decide, by constructor <;> decide, by unfold maxLen; simp, by simp⟩
open Go.ChangeShapes Go.WideShapes Go.Deep Go.RowKit

theorem SecR.lit {s : Sc} {er : Int} {x : Sc × Int} {w w' : World} {e : Ending} (h : SecR x w e w') (hx : x = (s, er)) : ∃ a c, e = .returned (.tuple #[scV s a s.rels.length c, .int .i64 er]) ∧ SL rlC 4 w' w'.heap.size a s.rels.length s.rels ∧ (a = none → s.rels.length = 0 ∧ c = 0) ∧ s.rels.length ≤ c ∧ Below w.heap.size w w' := by
  subst hx
  obtain ⟨a, c, rfl, h1, h2⟩ := h
  obtain ⟨a', c', he, h3, h4, h5⟩ := h1.out
  cases he
  exact ⟨_, _, rfl, h3, h4, h5, h2⟩
theorem gr1 : pNewL [97] 1 false = ((⟨[97], 1, false, 0, [], []⟩ : Sc), 0) := by kernel_rfl
theorem gr2 : pPutL (⟨[97], 1, false, 0, [], []⟩ : Sc) [120] = ((⟨[97], 1, false, 0, [120], []⟩ : Sc), 0) := by kernel_rfl
theorem gr3 : pAlignL (⟨[97], 1, false, 0, [120], []⟩ : Sc) 3 = ((⟨[97], 1, false, 3, [120, 0, 0, 0, 0, 0, 0, 0], []⟩ : Sc), 0) := by kernel_rfl
theorem gr4 : encP ⟨30, 0, 0, 0, 0, 0, 0, 0, 0, 0⟩ = (2483027968, 0) := by kernel_rfl
theorem gr5 : pWordL (⟨[97], 1, false, 0, [], []⟩ : Sc) 2483027968 2 0 4 = ((⟨[97], 1, false, 0, [0, 0, 0, 148], [(⟨0, 2, 0, 4⟩ : Rl)]⟩ : Sc), 0) := by kernel_rfl
theorem gr6 : pWordL (⟨[97], 1, false, 0, [120], []⟩ : Sc) 2483027968 0 0 0 = (scZ, 5) := by kernel_rfl
theorem gr7 : pNewL [120, 49] 1 false = (scZ, 6) := by kernel_rfl
theorem gr8 : secR (⟨[97], 1, false, 0, [0, 0, 0, 148], [(⟨0, 2, 0, 4⟩ : Rl)]⟩ : Sc) = true := by kernel_rfl
theorem gr9 : fitsI 2 (readW 2483027968) = true := by kernel_rfl
theorem gr10 : secR scZ = false := by kernel_rfl
set_option maxRecDepth 100000 in
set_option maxHeartbeats 2000000 in
theorem grown_is (w : World) (hT : TabP w) : Calls Tryz.prog 14 #[] w (RetB (.bool true) w) := by
  have H1 : Hid (∀ u, TabP u → Calls Tryz.prog 12 #[.string ⟨#[97]⟩, .int .i64 1, .bool false] u (fun e v => ∃ a c, e = .returned (.tuple #[.agg #[.string ⟨#[97]⟩, .int .i64 1, .bool false, .int .i64 0, .string ⟨#[]⟩, .slice a 0 c], .int .i64 0]) ∧ SL rlC 4 v v.heap.size a 0 [] ∧ (a = none → (0 : Nat) = 0 ∧ c = 0) ∧ Below u.heap.size u v)) := Lib.hid fun u hu => (pNew_any [97] (by unfold maxLen; decide) 1 false u hu).mono fun e v h => by
    obtain ⟨a, c, h1, h2, h3, h4, h5⟩ := h.lit gr1; exact ⟨a, c, h1, h2, h3, h5⟩
  have H2 : Hid (∀ u a c, TabP u → SL rlC 4 u u.heap.size a 0 [] → (a = none → (0 : Nat) = 0 ∧ c = 0) → Calls Tryz.prog 18 #[.agg #[.string ⟨#[97]⟩, .int .i64 1, .bool false, .int .i64 0, .string ⟨#[]⟩, .slice a 0 c], .string ⟨#[120]⟩] u (fun e v => ∃ a c, e = .returned (.tuple #[.agg #[.string ⟨#[97]⟩, .int .i64 1, .bool false, .int .i64 0, .string ⟨#[120]⟩, .slice a 0 c], .int .i64 0]) ∧ SL rlC 4 v v.heap.size a 0 [] ∧ (a = none → (0 : Nat) = 0 ∧ c = 0) ∧ Below u.heap.size u v)) := Lib.hid fun u a c hu hs hz => (pPut_any ⟨#[97]⟩ ⟨#[]⟩ ⟨#[120]⟩ 1 false 0 a 0 c [] u hs hz (by unfold maxLen; decide) (by unfold maxLen; decide) (by simp) (by decide) hu).mono fun e v h => by
    obtain ⟨a, c, h1, h2, h3, h4, h5⟩ := h.lit gr2; exact ⟨a, c, h1, h2, h3, h5⟩
  have H3 : Hid (∀ u a c, TabP u → SL rlC 4 u u.heap.size a 0 [] → (a = none → (0 : Nat) = 0 ∧ c = 0) → Calls Tryz.prog 19 #[.agg #[.string ⟨#[97]⟩, .int .i64 1, .bool false, .int .i64 0, .string ⟨#[120]⟩, .slice a 0 c], .int .i64 3] u (fun e v => ∃ a c, e = .returned (.tuple #[.agg #[.string ⟨#[97]⟩, .int .i64 1, .bool false, .int .i64 3, .string ⟨#[120, 0, 0, 0, 0, 0, 0, 0]⟩, .slice a 0 c], .int .i64 0]) ∧ SL rlC 4 v v.heap.size a 0 [] ∧ (a = none → (0 : Nat) = 0 ∧ c = 0) ∧ Below u.heap.size u v)) := Lib.hid fun u a c hu hs hz => (pAlign_any ⟨#[97]⟩ ⟨#[120]⟩ 1 false 0 a 0 c [] 3 u hs hz (by unfold maxLen; decide) (by unfold maxLen; decide) (by simp) hu).mono fun e v h => by
    obtain ⟨a, c, h1, h2, h3, h4, h5⟩ := h.lit gr3; exact ⟨a, c, h1, h2, h3, h5⟩
  have H4 : Hid (∀ u, TabP u → Calls Tryz.prog 39 #[.agg #[.int .i64 30, .int .i64 0, .int .i64 0, .int .i64 0, .int .i64 0, .int .i64 0, .int .u64 0, .int .i64 0, .int .i64 0, .int .i64 0]] u (RetB (.tuple #[.int .u32 2483027968, .int .i64 0]) u)) := Lib.hid fun u hu => by
    have := CEncode_any ⟨30, 0, 0, 0, 0, 0, 0, 0, 0, 0⟩ u hu.1.1 (by constructor <;> (first | (constructor <;> decide) | decide))
    rw [gr4] at this
    exact this
  have H5 : Hid (∀ u a c, TabP u → SL rlC 4 u u.heap.size a 0 [] → (a = none → (0 : Nat) = 0 ∧ c = 0) → Calls Tryz.prog 20 #[.agg #[.string ⟨#[97]⟩, .int .i64 1, .bool false, .int .i64 0, .string ⟨#[]⟩, .slice a 0 c], .int .u32 2483027968, .int .i64 2, .int .i64 0, .int .i64 4] u (fun e v => ∃ a c, e = .returned (.tuple #[.agg #[.string ⟨#[97]⟩, .int .i64 1, .bool false, .int .i64 0, .string ⟨#[0, 0, 0, 148]⟩, .slice a 1 c], .int .i64 0]) ∧ SL rlC 4 v v.heap.size a 1 [(⟨0, 2, 0, 4⟩ : Rl)] ∧ (a = none → (1 : Nat) = 0 ∧ c = 0) ∧ Below u.heap.size u v)) := Lib.hid fun u a c hu hs hz => (pWord_any ⟨#[97]⟩ ⟨#[]⟩ 1 false 0 a 0 c [] 2483027968 (by decide) 2 0 4 u hs hz (by unfold maxLen; decide) (by unfold maxLen; decide) (by simp) (by constructor <;> decide) hu).mono fun e v h => by
    obtain ⟨a, c, h1, h2, h3, h4, h5⟩ := h.lit gr5; exact ⟨a, c, h1, h2, h3, h5⟩
  have H6 : Hid (∀ u a c, TabP u → SL rlC 4 u u.heap.size a 0 [] → (a = none → (0 : Nat) = 0 ∧ c = 0) → Calls Tryz.prog 20 #[.agg #[.string ⟨#[97]⟩, .int .i64 1, .bool false, .int .i64 0, .string ⟨#[120]⟩, .slice a 0 c], .int .u32 2483027968, .int .i64 0, .int .i64 0, .int .i64 0] u (fun e v => ∃ a c, e = .returned (.tuple #[.agg #[.string ⟨#[]⟩, .int .i64 0, .bool false, .int .i64 0, .string ⟨#[]⟩, .slice a 0 c], .int .i64 5]) ∧ SL rlC 4 v v.heap.size a 0 [] ∧ (a = none → (0 : Nat) = 0 ∧ c = 0) ∧ Below u.heap.size u v)) := Lib.hid fun u a c hu hs hz => (pWord_any ⟨#[97]⟩ ⟨#[120]⟩ 1 false 0 a 0 c [] 2483027968 (by decide) 0 0 0 u hs hz (by unfold maxLen; decide) (by unfold maxLen; decide) (by simp) (by constructor <;> decide) hu).mono fun e v h => by
    obtain ⟨a, c, h1, h2, h3, h4, h5⟩ := h.lit gr6; exact ⟨a, c, h1, h2, h3, h5⟩
  have H7 : Hid (∀ u, TabP u → Calls Tryz.prog 12 #[.string ⟨#[120, 49]⟩, .int .i64 1, .bool false] u (fun e v => ∃ a c, e = .returned (.tuple #[.agg #[.string ⟨#[]⟩, .int .i64 0, .bool false, .int .i64 0, .string ⟨#[]⟩, .slice a 0 c], .int .i64 6]) ∧ SL rlC 4 v v.heap.size a 0 [] ∧ (a = none → (0 : Nat) = 0 ∧ c = 0) ∧ Below u.heap.size u v)) := Lib.hid fun u hu => (pNew_any [120, 49] (by unfold maxLen; decide) 1 false u hu).mono fun e v h => by
    obtain ⟨a, c, h1, h2, h3, h4, h5⟩ := h.lit gr7; exact ⟨a, c, h1, h2, h3, h5⟩
  have H8 : Hid (∀ u a c, TabP u → SL rlC 4 u u.heap.size a 1 [(⟨0, 2, 0, 4⟩ : Rl)] → Calls Tryz.prog 16 #[.agg #[.string ⟨#[97]⟩, .int .i64 1, .bool false, .int .i64 0, .string ⟨#[0, 0, 0, 148]⟩, .slice a 1 c]] u (RetB (.bool true) u)) := Lib.hid fun u a c hu hs => by
    have := pIs_core ⟨#[97]⟩ ⟨#[0, 0, 0, 148]⟩ 1 false 0 a 1 c [(⟨0, 2, 0, 4⟩ : Rl)] (by unfold maxLen; decide) (by unfold maxLen; decide) u hs (by intro r hr; rw [List.mem_singleton] at hr; subst hr; exact ⟨by constructor <;> decide, by constructor <;> decide, by constructor <;> decide, by constructor <;> decide⟩) hu
    rw [gr8] at this
    exact this
  have H9 : Hid (∀ u, TabP u → Calls Tryz.prog 24 #[.int .i64 2, .int .u32 2483027968] u (RetB (.bool true) u)) := Lib.hid fun u hu => by
    have := Fits_any 2 2483027968 u (by decide) (by decide) (by decide) hu.1
    rw [gr9] at this
    exact this
  have H10 : Hid (∀ u, TabP u → Calls Tryz.prog 16 #[.agg #[.string ⟨#[]⟩, .int .i64 0, .bool false, .int .i64 0, .string ⟨#[]⟩, .slice none 0 0]] u (RetB (.bool false) u)) := Lib.hid fun u hu => by
    have := pIs_core ⟨#[]⟩ ⟨#[]⟩ 0 false 0 none 0 0 [] (by unfold maxLen; decide) (by unfold maxLen; decide) u (SL.nil _ _ _) (by simp) hu
    rw [gr10] at this
    exact this
  have H11 : Hid (∀ (u : World) (a a' : Option Addr) (c c' : Nat), SL rlC 4 u u.heap.size a 1 [(⟨0, 2, 0, 4⟩ : Rl)] → SL rlC 4 u u.heap.size a' 1 [(⟨0, 2, 0, 4⟩ : Rl)] → Calls Tryz.prog 22 #[.slice a 1 c, .slice a' 1 c'] u (RetB (.bool true) u)) := Lib.hid fun u a a' c c' h h' => rSameRels_is a a' 1 1 c c' [(⟨0, 2, 0, 4⟩ : Rl)] u (by decide) (by decide) h h'
  have HT := Lib.hid hT
  clear hT
  go_enter Tryz.func14, Tryz.ntmps14
  go_wp2_with fail
  refine (H1.out _ HT.out).mono ?_
  rintro e u ⟨a1, c1, rfl, hs, hz1, hb⟩
  have HB := Lib.hid hb
  have HZ1 := Lib.hid hz1
  clear hs hz1 hb
  obtain ⟨X, hX⟩ : ∃ X, X = u.heap.size := ⟨_, rfl⟩
  have HEX := Lib.hid hX
  have HA : Hid (Below u.heap.size u (u.alloc (.cells #[.string ⟨#[97]⟩, .int .i64 1, .bool false, .int .i64 0, .string ⟨#[]⟩, .slice a1 0 c1] 24))) := Lib.hid ((Below.refl _ u).alloc (Nat.le_refl _) _)
  have HRX : Hid (RB (u.alloc (.cells #[.string ⟨#[97]⟩, .int .i64 1, .bool false, .int .i64 0, .string ⟨#[]⟩, .slice a1 0 c1] 24)) X #[.string ⟨#[97]⟩, .int .i64 1, .bool false, .int .i64 0, .string ⟨#[]⟩, .slice a1 0 c1] 24) := Lib.hid (by rw [hX]; exact (MapKept.heap_alloc u _).1)
  clear hX
  go_wp2_with fail
  try rw [← HEX.out]
  generalize u.alloc (.cells #[.string ⟨#[97]⟩, .int .i64 1, .bool false, .int .i64 0, .string ⟨#[]⟩, .slice a1 0 c1] 24) = W at HA HRX  ⊢
  replace HB : Hid (Below w.heap.size w W) := Lib.hid (after HB.out HA.out)
  clear HA HEX
  refine (H2.out _ a1 c1 (HT.out.next HB.out) (SL.nil _ _ _) HZ1.out).mono ?_
  rintro e u ⟨a2, c2, rfl, hs, hz2, hb⟩
  have HZ2 := Lib.hid hz2
  replace HB := Lib.hid (after HB.out hb)
  replace HRX := Lib.hid (HRX.out.next hb)
  clear hs hz2 hb
  obtain ⟨Y, hY⟩ : ∃ Y, Y = u.heap.size := ⟨_, rfl⟩
  have HEY := Lib.hid hY
  have HA : Hid (Below u.heap.size u (u.alloc (.cells #[.string ⟨#[97]⟩, .int .i64 1, .bool false, .int .i64 0, .string ⟨#[120]⟩, .slice a2 0 c2] 24))) := Lib.hid ((Below.refl _ u).alloc (Nat.le_refl _) _)
  have HRY : Hid (RB (u.alloc (.cells #[.string ⟨#[97]⟩, .int .i64 1, .bool false, .int .i64 0, .string ⟨#[120]⟩, .slice a2 0 c2] 24)) Y #[.string ⟨#[97]⟩, .int .i64 1, .bool false, .int .i64 0, .string ⟨#[120]⟩, .slice a2 0 c2] 24) := Lib.hid (by rw [hY]; exact (MapKept.heap_alloc u _).1)
  clear hY
  replace HRX := Lib.hid (HRX.out.next HA.out)
  go_wp2_with fail
  try rw [← HEY.out]
  generalize u.alloc (.cells #[.string ⟨#[97]⟩, .int .i64 1, .bool false, .int .i64 0, .string ⟨#[120]⟩, .slice a2 0 c2] 24) = W at HA HRX HRY  ⊢
  replace HB : Hid (Below w.heap.size w W) := Lib.hid (after HB.out HA.out)
  clear HA HEY
  refine (H3.out _ a2 c2 (HT.out.next HB.out) (SL.nil _ _ _) HZ2.out).mono ?_
  rintro e u ⟨a3, c3, rfl, hs, hz3, hb⟩
  replace HB := Lib.hid (after HB.out hb)
  replace HRX := Lib.hid (HRX.out.next hb)
  replace HRY := Lib.hid (HRY.out.next hb)
  clear hs hz3 hb
  obtain ⟨Z, hZ⟩ : ∃ Z, Z = u.heap.size := ⟨_, rfl⟩
  have HEZ := Lib.hid hZ
  have HA : Hid (Below u.heap.size u (u.alloc (.cells #[.string ⟨#[97]⟩, .int .i64 1, .bool false, .int .i64 3, .string ⟨#[120, 0, 0, 0, 0, 0, 0, 0]⟩, .slice a3 0 c3] 24))) := Lib.hid ((Below.refl _ u).alloc (Nat.le_refl _) _)
  have HRZ : Hid (RB (u.alloc (.cells #[.string ⟨#[97]⟩, .int .i64 1, .bool false, .int .i64 3, .string ⟨#[120, 0, 0, 0, 0, 0, 0, 0]⟩, .slice a3 0 c3] 24)) Z #[.string ⟨#[97]⟩, .int .i64 1, .bool false, .int .i64 3, .string ⟨#[120, 0, 0, 0, 0, 0, 0, 0]⟩, .slice a3 0 c3] 24) := Lib.hid (by rw [hZ]; exact (MapKept.heap_alloc u _).1)
  clear hZ
  replace HRX := Lib.hid (HRX.out.next HA.out)
  replace HRY := Lib.hid (HRY.out.next HA.out)
  go_wp2_with fail
  try rw [← HEZ.out]
  generalize u.alloc (.cells #[.string ⟨#[97]⟩, .int .i64 1, .bool false, .int .i64 3, .string ⟨#[120, 0, 0, 0, 0, 0, 0, 0]⟩, .slice a3 0 c3] 24) = W at HA HRX HRY HRZ  ⊢
  replace HB : Hid (Below w.heap.size w W) := Lib.hid (after HB.out HA.out)
  clear HA HEZ
  refine (H4.out _ (HT.out.next HB.out)).mono ?_
  rintro e u ⟨rfl, hb⟩
  replace HB := Lib.hid (after HB.out hb)
  replace HRX := Lib.hid (HRX.out.next hb)
  replace HRY := Lib.hid (HRY.out.next hb)
  replace HRZ := Lib.hid (HRZ.out.next hb)
  clear hb
  have x_0 : u.cell? ⟨X, 0, none⟩ = some (.string ⟨#[97]⟩) := HRX.out.cell
  have x_1 : u.cell? ⟨X, 1, none⟩ = some (.int .i64 1) := HRX.out.cell
  have x_2 : u.cell? ⟨X, 2, none⟩ = some (.bool false) := HRX.out.cell
  have x_3 : u.cell? ⟨X, 3, none⟩ = some (.int .i64 0) := HRX.out.cell
  have x_4 : u.cell? ⟨X, 4, none⟩ = some (.string ⟨#[]⟩) := HRX.out.cell
  have x_5 : u.cell? ⟨X, 5, none⟩ = some (.slice a1 0 c1) := HRX.out.cell
  go_wp2_with fail
  clear x_0 x_1 x_2 x_3 x_4 x_5
  refine (H5.out _ a1 c1 (HT.out.next HB.out) (SL.nil _ _ _) HZ1.out).mono ?_
  rintro e u ⟨a5, c5, rfl, hs, hz5, hb⟩
  replace HB := Lib.hid (after HB.out hb)
  replace HRX := Lib.hid (HRX.out.next hb)
  replace HRY := Lib.hid (HRY.out.next hb)
  replace HRZ := Lib.hid (HRZ.out.next hb)
  have HS5 := Lib.hid hs
  clear hs hz5 hb
  obtain ⟨V, hV⟩ : ∃ V, V = u.heap.size := ⟨_, rfl⟩
  have HEV := Lib.hid hV
  have HA : Hid (Below u.heap.size u (u.alloc (.cells #[.string ⟨#[97]⟩, .int .i64 1, .bool false, .int .i64 0, .string ⟨#[0, 0, 0, 148]⟩, .slice a5 1 c5] 24))) := Lib.hid ((Below.refl _ u).alloc (Nat.le_refl _) _)
  have HRV : Hid (RB (u.alloc (.cells #[.string ⟨#[97]⟩, .int .i64 1, .bool false, .int .i64 0, .string ⟨#[0, 0, 0, 148]⟩, .slice a5 1 c5] 24)) V #[.string ⟨#[97]⟩, .int .i64 1, .bool false, .int .i64 0, .string ⟨#[0, 0, 0, 148]⟩, .slice a5 1 c5] 24) := Lib.hid (by rw [hV]; exact (MapKept.heap_alloc u _).1)
  clear hV
  replace HRX := Lib.hid (HRX.out.next HA.out)
  replace HRY := Lib.hid (HRY.out.next HA.out)
  replace HRZ := Lib.hid (HRZ.out.next HA.out)
  replace HS5 := Lib.hid (HS5.out.next HA.out)
  have y_0 : (u.alloc (.cells #[.string ⟨#[97]⟩, .int .i64 1, .bool false, .int .i64 0, .string ⟨#[0, 0, 0, 148]⟩, .slice a5 1 c5] 24)).cell? ⟨Y, 0, none⟩ = some (.string ⟨#[97]⟩) := HRY.out.cell
  have y_1 : (u.alloc (.cells #[.string ⟨#[97]⟩, .int .i64 1, .bool false, .int .i64 0, .string ⟨#[0, 0, 0, 148]⟩, .slice a5 1 c5] 24)).cell? ⟨Y, 1, none⟩ = some (.int .i64 1) := HRY.out.cell
  have y_2 : (u.alloc (.cells #[.string ⟨#[97]⟩, .int .i64 1, .bool false, .int .i64 0, .string ⟨#[0, 0, 0, 148]⟩, .slice a5 1 c5] 24)).cell? ⟨Y, 2, none⟩ = some (.bool false) := HRY.out.cell
  have y_3 : (u.alloc (.cells #[.string ⟨#[97]⟩, .int .i64 1, .bool false, .int .i64 0, .string ⟨#[0, 0, 0, 148]⟩, .slice a5 1 c5] 24)).cell? ⟨Y, 3, none⟩ = some (.int .i64 0) := HRY.out.cell
  have y_4 : (u.alloc (.cells #[.string ⟨#[97]⟩, .int .i64 1, .bool false, .int .i64 0, .string ⟨#[0, 0, 0, 148]⟩, .slice a5 1 c5] 24)).cell? ⟨Y, 4, none⟩ = some (.string ⟨#[120]⟩) := HRY.out.cell
  have y_5 : (u.alloc (.cells #[.string ⟨#[97]⟩, .int .i64 1, .bool false, .int .i64 0, .string ⟨#[0, 0, 0, 148]⟩, .slice a5 1 c5] 24)).cell? ⟨Y, 5, none⟩ = some (.slice a2 0 c2) := HRY.out.cell
  go_wp2_with fail
  clear y_0 y_1 y_2 y_3 y_4 y_5
  try rw [← HEV.out]
  generalize u.alloc (.cells #[.string ⟨#[97]⟩, .int .i64 1, .bool false, .int .i64 0, .string ⟨#[0, 0, 0, 148]⟩, .slice a5 1 c5] 24) = W at HA HRX HRY HRZ HRV HS5 ⊢
  replace HB : Hid (Below w.heap.size w W) := Lib.hid (after HB.out HA.out)
  clear HA HEV
  refine (H6.out _ a2 c2 (HT.out.next HB.out) (SL.nil _ _ _) HZ2.out).mono ?_
  rintro e u ⟨a6, c6, rfl, hs, hz6, hb⟩
  replace HB := Lib.hid (after HB.out hb)
  replace HRX := Lib.hid (HRX.out.next hb)
  replace HRY := Lib.hid (HRY.out.next hb)
  replace HRZ := Lib.hid (HRZ.out.next hb)
  replace HRV := Lib.hid (HRV.out.next hb)
  replace HS5 := Lib.hid (HS5.out.next hb)
  clear hs hz6 hb
  obtain ⟨U, hU⟩ : ∃ U, U = u.heap.size := ⟨_, rfl⟩
  have HEU := Lib.hid hU
  have HA : Hid (Below u.heap.size u (u.alloc (.cells #[.string ⟨#[]⟩, .int .i64 0, .bool false, .int .i64 0, .string ⟨#[]⟩, .slice a6 0 c6] 24))) := Lib.hid ((Below.refl _ u).alloc (Nat.le_refl _) _)
  have HRU : Hid (RB (u.alloc (.cells #[.string ⟨#[]⟩, .int .i64 0, .bool false, .int .i64 0, .string ⟨#[]⟩, .slice a6 0 c6] 24)) U #[.string ⟨#[]⟩, .int .i64 0, .bool false, .int .i64 0, .string ⟨#[]⟩, .slice a6 0 c6] 24) := Lib.hid (by rw [hU]; exact (MapKept.heap_alloc u _).1)
  clear hU
  replace HRX := Lib.hid (HRX.out.next HA.out)
  replace HRY := Lib.hid (HRY.out.next HA.out)
  replace HRZ := Lib.hid (HRZ.out.next HA.out)
  replace HRV := Lib.hid (HRV.out.next HA.out)
  replace HS5 := Lib.hid (HS5.out.next HA.out)
  go_wp2_with fail
  try rw [← HEU.out]
  generalize u.alloc (.cells #[.string ⟨#[]⟩, .int .i64 0, .bool false, .int .i64 0, .string ⟨#[]⟩, .slice a6 0 c6] 24) = W at HA HRX HRY HRZ HRV HRU HS5 ⊢
  replace HB : Hid (Below w.heap.size w W) := Lib.hid (after HB.out HA.out)
  clear HA HEU
  refine (H7.out _ (HT.out.next HB.out)).mono ?_
  rintro e u ⟨a7, c7, rfl, hs, hz7, hb⟩
  replace HB := Lib.hid (after HB.out hb)
  replace HRX := Lib.hid (HRX.out.next hb)
  replace HRY := Lib.hid (HRY.out.next hb)
  replace HRZ := Lib.hid (HRZ.out.next hb)
  replace HRV := Lib.hid (HRV.out.next hb)
  replace HRU := Lib.hid (HRU.out.next hb)
  replace HS5 := Lib.hid (HS5.out.next hb)
  clear hs hz7 hb
  obtain ⟨Q, hQ⟩ : ∃ Q, Q = u.heap.size := ⟨_, rfl⟩
  have HEQ := Lib.hid hQ
  have HA : Hid (Below u.heap.size u (u.alloc (.cells #[.string ⟨#[]⟩, .int .i64 0, .bool false, .int .i64 0, .string ⟨#[]⟩, .slice a7 0 c7] 24))) := Lib.hid ((Below.refl _ u).alloc (Nat.le_refl _) _)
  have HRQ : Hid (RB (u.alloc (.cells #[.string ⟨#[]⟩, .int .i64 0, .bool false, .int .i64 0, .string ⟨#[]⟩, .slice a7 0 c7] 24)) Q #[.string ⟨#[]⟩, .int .i64 0, .bool false, .int .i64 0, .string ⟨#[]⟩, .slice a7 0 c7] 24) := Lib.hid (by rw [hQ]; exact (MapKept.heap_alloc u _).1)
  clear hQ
  replace HRX := Lib.hid (HRX.out.next HA.out)
  replace HRY := Lib.hid (HRY.out.next HA.out)
  replace HRZ := Lib.hid (HRZ.out.next HA.out)
  replace HRV := Lib.hid (HRV.out.next HA.out)
  replace HRU := Lib.hid (HRU.out.next HA.out)
  replace HS5 := Lib.hid (HS5.out.next HA.out)
  have z_3 : (u.alloc (.cells #[.string ⟨#[]⟩, .int .i64 0, .bool false, .int .i64 0, .string ⟨#[]⟩, .slice a7 0 c7] 24)).cell? ⟨Z, 3, none⟩ = some (.int .i64 3) := HRZ.out.cell
  have z_4 : (u.alloc (.cells #[.string ⟨#[]⟩, .int .i64 0, .bool false, .int .i64 0, .string ⟨#[]⟩, .slice a7 0 c7] 24)).cell? ⟨Z, 4, none⟩ = some (.string ⟨#[120, 0, 0, 0, 0, 0, 0, 0]⟩) := HRZ.out.cell
  have v_5 : (u.alloc (.cells #[.string ⟨#[]⟩, .int .i64 0, .bool false, .int .i64 0, .string ⟨#[]⟩, .slice a7 0 c7] 24)).cell? ⟨V, 5, none⟩ = some (.slice a5 1 c5) := HRV.out.cell
  go_wp2_with fail
  clear z_3 z_4 v_5
  obtain ⟨P, hP⟩ : ∃ P, P = u.heap.size + 1 := ⟨_, rfl⟩
  rw [← hP]
  have HL : Hid (SL rlC 4 ((u.alloc (.cells #[.string ⟨#[]⟩, .int .i64 0, .bool false, .int .i64 0, .string ⟨#[]⟩, .slice a7 0 c7] 24)).alloc (.cells #[.int .i64 0, .int .i64 2, .int .i64 0, .int .i64 4] 48)) ((u.alloc (.cells #[.string ⟨#[]⟩, .int .i64 0, .bool false, .int .i64 0, .string ⟨#[]⟩, .slice a7 0 c7] 24)).alloc (.cells #[.int .i64 0, .int .i64 2, .int .i64 0, .int .i64 4] 48)).heap.size (some ⟨P, 0, none⟩) 1 [(⟨0, 2, 0, 4⟩ : Rl)]) := Lib.hid (by
    rw [hP, World.size_alloc (u.alloc (.cells #[.string ⟨#[]⟩, .int .i64 0, .bool false, .int .i64 0, .string ⟨#[]⟩, .slice a7 0 c7] 24)), ← World.size_alloc u]; exact SL.lit (u.alloc (.cells #[.string ⟨#[]⟩, .int .i64 0, .bool false, .int .i64 0, .string ⟨#[]⟩, .slice a7 0 c7] 24)) _ [(⟨0, 2, 0, 4⟩ : Rl)] rl_len (by decide) _ rfl 1 rfl)
  clear hP
  generalize u.alloc (.cells #[.string ⟨#[]⟩, .int .i64 0, .bool false, .int .i64 0, .string ⟨#[]⟩, .slice a7 0 c7] 24) = W at HA HRX HRY HRZ HRV HRU HRQ HS5 HL ⊢
  replace HB : Hid (Below w.heap.size w W) := Lib.hid (after HB.out HA.out)
  clear HA HEQ
  have hb := (Below.refl W.heap.size W).alloc (Nat.le_refl _) (.cells #[.int .i64 0, .int .i64 2, .int .i64 0, .int .i64 4] 48)
  replace HB := Lib.hid (after HB.out hb)
  replace HRX := Lib.hid (HRX.out.next hb)
  replace HRY := Lib.hid (HRY.out.next hb)
  replace HRZ := Lib.hid (HRZ.out.next hb)
  replace HRV := Lib.hid (HRV.out.next hb)
  replace HRU := Lib.hid (HRU.out.next hb)
  replace HRQ := Lib.hid (HRQ.out.next hb)
  replace HS5 := Lib.hid (HS5.out.next hb)
  clear hb
  refine (H11.out _ a5 _ c5 1 HS5.out HL.out).mono ?_
  rintro e u ⟨rfl, hb⟩
  clear HL
  replace HB := Lib.hid (after HB.out hb)
  replace HRX := Lib.hid (HRX.out.next hb)
  replace HRY := Lib.hid (HRY.out.next hb)
  replace HRZ := Lib.hid (HRZ.out.next hb)
  replace HRV := Lib.hid (HRV.out.next hb)
  replace HRU := Lib.hid (HRU.out.next hb)
  replace HRQ := Lib.hid (HRQ.out.next hb)
  replace HS5 := Lib.hid (HS5.out.next hb)
  clear hb
  have v_0 : u.cell? ⟨V, 0, none⟩ = some (.string ⟨#[97]⟩) := HRV.out.cell
  have v_1 : u.cell? ⟨V, 1, none⟩ = some (.int .i64 1) := HRV.out.cell
  have v_2 : u.cell? ⟨V, 2, none⟩ = some (.bool false) := HRV.out.cell
  have v_3 : u.cell? ⟨V, 3, none⟩ = some (.int .i64 0) := HRV.out.cell
  have v_4 : u.cell? ⟨V, 4, none⟩ = some (.string ⟨#[0, 0, 0, 148]⟩) := HRV.out.cell
  have v_5 : u.cell? ⟨V, 5, none⟩ = some (.slice a5 1 c5) := HRV.out.cell
  go_wp2_with fail
  clear v_0 v_1 v_2 v_3 v_4 v_5
  refine (H8.out _ a5 c5 (HT.out.next HB.out) HS5.out).mono ?_
  rintro e u ⟨rfl, hb⟩
  replace HB := Lib.hid (after HB.out hb)
  replace HRX := Lib.hid (HRX.out.next hb)
  replace HRY := Lib.hid (HRY.out.next hb)
  replace HRZ := Lib.hid (HRZ.out.next hb)
  replace HRV := Lib.hid (HRV.out.next hb)
  replace HRU := Lib.hid (HRU.out.next hb)
  replace HRQ := Lib.hid (HRQ.out.next hb)
  replace HS5 := Lib.hid (HS5.out.next hb)
  clear hb
  go_wp2_with fail
  refine (H9.out _ (HT.out.next HB.out)).mono ?_
  rintro e u ⟨rfl, hb⟩
  replace HB := Lib.hid (after HB.out hb)
  replace HRX := Lib.hid (HRX.out.next hb)
  replace HRY := Lib.hid (HRY.out.next hb)
  replace HRZ := Lib.hid (HRZ.out.next hb)
  replace HRV := Lib.hid (HRV.out.next hb)
  replace HRU := Lib.hid (HRU.out.next hb)
  replace HRQ := Lib.hid (HRQ.out.next hb)
  replace HS5 := Lib.hid (HS5.out.next hb)
  clear hb
  go_wp2_with fail
  refine (H10.out _ (HT.out.next HB.out)).mono ?_
  rintro e u ⟨rfl, hb⟩
  replace HB := Lib.hid (after HB.out hb)
  replace HRX := Lib.hid (HRX.out.next hb)
  replace HRY := Lib.hid (HRY.out.next hb)
  replace HRZ := Lib.hid (HRZ.out.next hb)
  replace HRV := Lib.hid (HRV.out.next hb)
  replace HRU := Lib.hid (HRU.out.next hb)
  replace HRQ := Lib.hid (HRQ.out.next hb)
  replace HS5 := Lib.hid (HS5.out.next hb)
  clear hb
  go_wp2
  go_ret
  exact retB_bool rfl HB.out
open Go.ChangeShapes Go.WideShapes Go.Deep Go.RowKit

abbrev seC (N : ByteArray) (k : Int) (kp : Bool) (al : Int) (B : ByteArray) (a : Option Addr) (n c : Nat) : Array Value := #[.string N, .int .i64 k, .bool kp, .int .i64 al, .string B, .slice a n c]
def GotB (u : World) (N : ByteArray) (k : Int) (kp : Bool) (al : Int) (B : ByteArray) (m : Nat) (l : List Rl) (er : Int) (e : Ending) (v : World) : Prop :=
  ∃ a c, e = .returned (.tuple #[.agg #[.string N, .int .i64 k, .bool kp, .int .i64 al, .string B, .slice a m c], .int .i64 er]) ∧ SL rlC 4 v v.heap.size a m l ∧ (a = none → m = 0 ∧ c = 0) ∧ m ≤ c ∧ Below u.heap.size u v
theorem SecR.got {N B : ByteArray} {k al er : Int} {kp : Bool} {m : Nat} {l : List Rl} {x : Sc × Int} {u v : World} {e : Ending} (h : SecR x u e v) (hx : x = (⟨N.data.toList, k, kp, al, B.data.toList, l⟩, er)) (hm : m = l.length) : GotB u N k kp al B m l er e v := by
  subst hm
  obtain ⟨a, c, h1, h2, h3, h4, h5⟩ := h.lit hx
  exact ⟨a, c, h1, h2, h3, h4, h5⟩
theorem sec_bytes (x : Sc × Int) : ∃ (N B : ByteArray) (k : Int) (kp : Bool) (al : Int) (m : Nat) (l : List Rl) (er : Int), x = (⟨N.data.toList, k, kp, al, B.data.toList, l⟩, er) ∧ m = l.length :=
  ⟨⟨x.1.name.toArray⟩, ⟨x.1.data.toArray⟩, x.1.kind, x.1.keep, x.1.align, _, x.1.rels, x.2, rfl, rfl⟩
theorem Sc.eta (s : Sc) : s = ⟨(⟨s.name.toArray⟩ : ByteArray).data.toList, s.kind, s.keep, s.align, (⟨s.data.toArray⟩ : ByteArray).data.toList, s.rels⟩ := rfl
structure GoodB (N : ByteArray) (k al : Int) (B : ByteArray) (l : List Rl) : Prop where
  name : N.size ≤ maxLen
  data : B.size ≤ maxLen
  rels : ∀ r ∈ l, GoodRl r
  kind : i64ok k
  align : i64ok al
theorem GoodB.sc {N B : ByteArray} {k al : Int} {l : List Rl} (h : GoodB N k al B l) (kp : Bool) : GoodSc ⟨N.data.toList, k, kp, al, B.data.toList, l⟩ :=
  ⟨by simpa using h.name, h.kind, h.align, by simpa using h.data, h.rels⟩
theorem GoodSc.b {N B : ByteArray} {k al : Int} {kp : Bool} {l : List Rl} (h : GoodSc ⟨N.data.toList, k, kp, al, B.data.toList, l⟩) : GoodB N k al B l :=
  ⟨by simpa using h.name, by simpa using h.data, h.rels, h.kind, h.align⟩
theorem ba_size (B : ByteArray) : B.data.toList.length = B.size := by simp
end Go.Proofs.YtmlofdolenmkoaaGreatDoor
