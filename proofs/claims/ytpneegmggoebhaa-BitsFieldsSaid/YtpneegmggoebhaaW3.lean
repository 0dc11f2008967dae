/- What the reference's Own, Same and Field answer. -/
import Derived.Test.YtpneegmggoebhaaW2
import Derived.Test.YtpneegmggoebhaaY5
import Derived.Test.YtpneegmggoebhaaQ1
import Derived.Laws.AppendOwnNone
namespace Go.Proofs.Ytpneegmggoebhaa
open Go.RowKit
set_option linter.unusedVariables false

def newsOf (l : List F3) : List Value := l.flatMap fun f => [.int .i64 f.1, .int .i64 f.2.1, .int .u32 f.2.2]
theorem newsOf_len (l : List F3) : (newsOf l).length = l.length * 3 := by
  induction l with
  | nil => rfl
  | cons f r ih => simp only [newsOf, List.flatMap_cons, List.length_append, List.length_cons, List.length_nil] at ih ⊢; omega
theorem newsOf_get (l : List F3) (k : Nat) (h : k < l.length) :
    (newsOf l)[k * 3]? = some (.int .i64 l[k].1) ∧ (newsOf l)[k * 3 + 1]? = some (.int .i64 l[k].2.1) ∧ (newsOf l)[k * 3 + 2]? = some (.int .u32 l[k].2.2) := by
  induction l generalizing k with
  | nil => simp at h
  | cons f r ih =>
    have e : newsOf (f :: r) = .int .i64 f.1 :: .int .i64 f.2.1 :: .int .u32 f.2.2 :: newsOf r := by simp [newsOf]
    cases k with
    | zero => rw [e]; simp
    | succ k =>
      have := ih k (by simpa using h)
      rw [e, show (k + 1) * 3 = k * 3 + 1 + 1 + 1 from by omega]
      simpa using this
theorem news_cells {w : World} {B b off : Nat} {n : Nat} {l : List F3} (hc : ∀ k (h : k < l.length),
    w.cell? ⟨b, off + k * 3, none⟩ = some (.int .i64 l[k].1) ∧ w.cell? ⟨b, off + k * 3 + 1, none⟩ = some (.int .i64 l[k].2.1) ∧ w.cell? ⟨b, off + k * 3 + 2, none⟩ = some (.int .u32 l[k].2.2)) :
    ∀ j u, (newsOf l)[j]? = some u → w.cell? ((⟨b, off, none⟩ : Addr).add j) = some u := by
  intro j u hj
  have hlt : j < l.length * 3 := by
    rw [← newsOf_len]
    exact (List.getElem?_eq_some_iff.1 hj).1
  have hk : j / 3 < l.length := by omega
  obtain ⟨g0, g1, g2⟩ := newsOf_get l (j / 3) hk
  obtain ⟨c0, c1, c2⟩ := hc (j / 3) hk
  rw [add_none]
  have : j = j / 3 * 3 ∨ j = j / 3 * 3 + 1 ∨ j = j / 3 * 3 + 2 := by omega
  rcases this with e | e | e
  · rw [e] at hj; rw [g0] at hj; rw [e, c0]; exact hj
  · rw [e] at hj; rw [g1] at hj; rw [e, ← Nat.add_assoc, c1]; exact hj
  · rw [e] at hj; rw [g2] at hj; rw [e, ← Nat.add_assoc, c2]; exact hj

theorem info43 : (Try.prog.info? 43).map (fun i => (i.zero, i.size, i.bytes)) = some (some (.agg #[.int .i64 0, .int .i64 0, .int .u32 0]), 3, 24) := by kernel_rfl

def OwnPost (w : World) (l : List F3) (e : Ending) (w' : World) : Prop := ∃ a n c, e = .returned (.slice a n c) ∧ FS w' w'.heap.size a n l ∧ Below w.heap.size w w'

theorem newsOf_one (l : List F3) : ∀ u ∈ newsOf l, u.oneCell' = true := by
  intro u hu
  obtain ⟨f, _, hf⟩ := List.mem_flatMap.1 hu
  simp only [List.mem_cons, List.mem_nil_iff, or_false] at hf
  rcases hf with rfl | rfl | rfl <;> rfl
theorem own_post {w w1 : World} {n : Nat} {l : List F3} {v' : Value} (hl : n = l.length) (hwf : ∀ f ∈ l, 0 ≤ f.2.2 ∧ f.2.2 < 4294967296 ∧ -9223372036854775808 ≤ f.1 ∧ f.1 ≤ 9223372036854775807 ∧ -9223372036854775808 ≤ f.2.1 ∧ f.2.1 ≤ 9223372036854775807)
    (hown : w1.ownsRow w.heap.size 43 3 v' (0 + n) ([] ++ newsOf l)) (hg : w.grownBy w1 (Value.slice none 0 0).ownBlock) : OwnPost w l (.returned v') w1 := by
  have hb : Below w.heap.size w w1 := (Below.refl _ w).grown hg (Nat.le_refl _) (by intro k hk; cases hk)
  rw [Nat.zero_add, List.nil_append] at hown
  rcases hown.2 with ⟨rfl, rfl⟩ | ⟨g, cap, cur, rfl, hbg, hgg, _, _, hcs, htk⟩
  · have : l = [] := by cases l with | nil => rfl | cons => simp at hl
    subst this
    exact ⟨none, 0, 0, rfl, ⟨rfl, by simp, by simp⟩, hb⟩
  · refine ⟨some ⟨g, 0, none⟩, n, cap, rfl, ⟨hl, hwf, fun hne => ⟨g, 0, rfl, ?_, fun k hk => ?_⟩⟩, hb⟩
    · apply Classical.byContradiction
      intro hn
      have : w1.heap[g]? = none := by simp; omega
      rw [this] at hgg; cases hgg
    · obtain ⟨g0, g1, g2⟩ := newsOf_get l k hk
      have c0 := hown.cellAt (k * 3) (by omega)
      have c1 := hown.cellAt (k * 3 + 1) (by omega)
      have c2 := hown.cellAt (k * 3 + 2) (by omega)
      rw [Nat.zero_add]
      exact ⟨c0.trans g0, c1.trans g1, c2.trans g2⟩

set_option maxHeartbeats 800000 in
theorem own_any (a : Option Addr) (n c : Nat) (l : List F3) (w : World) (hn : n ≤ 1000000) (h : FS w w.heap.size a n l) (hz : a = none → n = 0 ∧ c = 0) :
    Calls Try.prog 9 #[.slice a n c] w (OwnPost w l) := by
  obtain ⟨i0, hi, hz0, hz1, hz2⟩ := info_parts info43
  have hlen := h.len
  rcases a with _ | ad
  · obtain ⟨rfl, rfl⟩ := hz rfl
    clear hlen
    go_enter Try.func9, Try.ntmps9
    go_wp2_with (at_builtin; refine wpList_append_own_none rfl _ _ 23 rfl w.heap.size 43 i0 3 Try.underlying23 hi _ 0 [] rfl (World.ownsRow_nil _ _ _ _) rfl ?_)
    go_ret
    exact ⟨none, 0, 0, rfl, ⟨h.len, h.wf, fun hl => by obtain ⟨b, off, e, _⟩ := h.cells hl; cases e⟩, Below.refl _ _⟩
  · have hnews : ∀ j u, (newsOf l)[j]? = some u → w.cell? (ad.add j) = some u := by
      by_cases hl : l = []
      · subst hl; intro j u hj; simp [newsOf] at hj
      · obtain ⟨b', off', e, hB, hc⟩ := h.cells hl
        simp only [Option.some.injEq] at e
        subst e
        exact news_cells (B := 0) (n := 0) hc
    have hnl : (newsOf l).length = n * 3 := by rw [newsOf_len, hlen]
    have hone : ∀ u ∈ newsOf l, u.oneCell' = true := newsOf_one l
    have hm : 0 + n ≤ maxLen := by unfold maxLen; omega
    have hby : (0 + n) * 24 ≤ 140737488355328 := by omega
    have HL := Lib.hid hlen
    have HN := Lib.hid hnews
    have HNL := Lib.hid hnl
    have HO := Lib.hid hone
    clear hlen hnews hnl hone
    go_enter Try.func9, Try.ntmps9
    go_wp2_with (at_builtin; refine wpList_append_own _ rfl _ _ 23 rfl w.heap.size 43 i0 (.agg #[.int .i64 0, .int .i64 0, .int .u32 0]) 3 24 Try.underlying23 hi hz0 hz1 hz2 rfl (by decide) _ 0 [] rfl (World.ownsRow_nil _ _ _ _) ad n c (newsOf l) rfl HNL.out HN.out HO.out hm hby (Nat.le_refl _) ?_; intro v' w1 hown hgrow hiff)
    go_ret
    exact own_post HL.out h.wf hown hgrow

set_option maxHeartbeats 800000 in
theorem same_any (a a' : Option Addr) (n c c' : Nat) (l : List F3) (w : World) (hn : n ≤ 1000000) (h : FS w w.heap.size a n l) (h' : FS w w.heap.size a' n l) :
    Calls Try.prog 15 #[.slice a n c, .slice a' n c'] w (RetB (.bool true) w) := by
  go_enter Try.func15, Try.ntmps15
  go_wp2_with fail
  go_loopw [5] (fun i wr => ∃ k : Nat, k ≤ n ∧ i = .int .i64 k ∧ Below w.heap.size w wr) (fun i _ => n - (intOf i).toNat)
  case atStart => exact ⟨0, by omega, rfl, Below.refl _ _⟩
  case round =>
    obtain ⟨k, hk, rfl, hb⟩ := hrel
    have hlen := h.len
    by_cases hlt : k < n
    · have hkl : k < l.length := by omega
      have hne : l ≠ [] := by intro e; rw [e] at hlen; simp at hlen; omega
      obtain ⟨b, off, rfl, hB, hc⟩ := (h.below hb).cells hne
      obtain ⟨b', off', rfl, hB', hc'⟩ := (h'.below hb).cells hne
      obtain ⟨c0, c1, c2⟩ := hc k hkl
      obtain ⟨d0, d1, d2⟩ := hc' k hkl
      obtain ⟨v0, v1, n0, n1, m0, m1⟩ := h.wf l[k] (List.getElem_mem _)
      generalize l[k] = f at c0 c1 c2 d0 d1 d2 v0 v1 n0 n1 m0 m1
      obtain ⟨A, N, V⟩ := f
      have HL := Lib.hid hlen
      clear hc hc' hlen h h' hne
      go_wp2_with fail
      go_quiet (fail)
      go_wp2_with fail
      go_roundw
      case rel => exact ⟨k + 1, by omega, by go_num, below_drewN hb _⟩
      case measure => simp [intOf]; omega
    · clear hlen
      go_wp2_with fail
      go_ret
      exact retB_bool rfl hb

set_option maxHeartbeats 800000 in
theorem refField_any (v a n : Int) (w : World) (h0 : 0 ≤ v) (h1 : v < 4294967296) :
    Calls Try.prog 11 #[.int .u32 v, .int .i64 a, .int .i64 n] w (RetD (two .u32 .i64 (fieldS v a n)) w) := by
  by_cases h : 0 ≤ a ∧ a < 32 ∧ 1 ≤ n ∧ n ≤ 32 - a
  · have hr : decide (0 ≤ a ∧ a < 32 ∧ 1 ≤ n ∧ n ≤ 32 - a) = true := by simpa using h
    have hf := fieldS_ok (v := v) h
    obtain ⟨r1, r2, r3, r4⟩ := h
    have hp := pow32 a (by omega)
    have hn := pow32 n (by omega)
    have hq0 : 0 ≤ v / 2 ^ a.toNat := Int.ediv_nonneg h0 (by omega)
    have hq1 : v / 2 ^ a.toNat ≤ v := Int.ediv_le_self _ h0
    have hm0 := Int.emod_nonneg (v / 2 ^ a.toNat) (show (2 : Int) ^ n.toNat ≠ 0 by omega)
    have hm1 := Int.emod_lt_of_pos (v / 2 ^ a.toNat) (show (0 : Int) < 2 ^ n.toNat by omega)
    have hmm : v / 2 ^ a.toNat % 2 ^ n.toNat % 4294967296 = v / 2 ^ a.toNat % 2 ^ n.toNat := Int.emod_eq_of_lt hm0 (by omega)
    have HM := Lib.hid hmm
    have HF := Lib.hid hf
    clear hf hmm
    go_enter Try.func11, Try.ntmps11
    go_wp2_with (first | (go_at_call 26; refine (Right_any _ _ _).mono ?_; rintro e w' ⟨rfl, rfl⟩))
    go_quiet ((go_at_call 27; exact Calls.quiet_of_same ((Power_any _ _ (by omega)).mono fun e w' h => ⟨h.1, h.2.symm⟩)))
    go_wp2_with fail
    go_ret2
    exact retD_two HF.out _
  · have hr : decide (0 ≤ a ∧ a < 32 ∧ 1 ≤ n ∧ n ≤ 32 - a) = false := by simpa using h
    have hf : fieldS v a n = (0, 1) := by unfold fieldS rightB; rw [hr]; rfl
    have HF := Lib.hid hf
    clear hf h
    go_enter Try.func11, Try.ntmps11
    go_wp2_with (first | (go_at_call 26; refine (Right_any _ _ _).mono ?_; rintro e w' ⟨rfl, rfl⟩))
    go_ret2
    exact retD_two HF.out 0

theorem FS.up {w : World} {B : Nat} {a : Option Addr} {n : Nat} {l : List F3} (h : FS w B a n l) {B' : Nat} (hB : B ≤ B') : FS w B' a n l :=
  ⟨h.len, h.wf, fun hl => by obtain ⟨b, off, e, h1, h2⟩ := h.cells hl; exact ⟨b, off, e, by omega, h2⟩⟩
theorem FS.next {w w' : World} {a : Option Addr} {n : Nat} {l : List F3} (h : FS w w.heap.size a n l) (hb : Below w.heap.size w w') : FS w' w'.heap.size a n l :=
  (h.below hb).up hb.size

set_option maxRecDepth 100000 in
set_option maxHeartbeats 1600000 in
theorem BitsFields_walk (w : World) (v : Int) (hv : 0 ≤ v ∧ v < 4294967296) (s : Int) (hs : -9223372036854775808 ≤ s ∧ s ≤ 9223372036854775807) (m : Int) (hm : -9223372036854775808 ≤ m ∧ m ≤ 9223372036854775807)
    (a : Option Addr) (n c : Nat) (l : List F3) (hm0 : n ≤ maxLen) (h : FS w w.heap.size a n l) (hz : a = none → n = 0 ∧ c = 0) :
    Calls Try.prog 3 #[.int .u32 v, .int .i64 s, .int .i64 m, .slice a n c] w (RetB (.bool true) w) := by
  have hn : n ≤ 9223372036854775807 := by unfold maxLen at hm0; omega
  clear hm0
  by_cases hn40 : 40 < n
  · clear hz
    go_enter Try.func3, Try.ntmps3
    go_wp2_with fail
    go_ret
    exact retB_bool rfl (Below.refl _ _)
  have HO := Lib.hid (own_any a n c l w (by omega) h hz)
  clear hz
  go_enter Try.func3, Try.ntmps3
  go_wp2_with fail
  refine HO.out.mono ?_
  rintro e w1 ⟨a', n', c', rfl, h1, hb1⟩
  obtain rfl : n = n' := h.len.trans h1.len.symm
  have h2 := h.next hb1
  have hle := hb1.size
  go_wp2_with fail
  refine (field_any v s m _ hv.1 hv.2).mono ?_
  rintro e w' ⟨rfl, nd, rfl⟩
  go_wp2_with fail
  refine (refField_any v s m _ hv.1 hv.2).mono ?_
  rintro e w' ⟨rfl, ne, rfl⟩
  go_wp2_with fail
  obtain ⟨w2, hw2⟩ : ∃ w2 : World, w2 = w1.drewN (nd + ne) := ⟨_, rfl⟩
  have hb2 : Below w.heap.size w w2 := by rw [hw2]; exact below_drewN hb1 _
  have h3 : FS w2 w2.heap.size a n l := by rw [hw2]; exact h2.next (below_refl_drewN _ _)
  have h4 : FS w2 w2.heap.size a' n l := by rw [hw2]; exact h1.next (below_refl_drewN _ _)
  rw [← hw2]
  clear hw2 h1 h2 hb1 hle h
  go_wp2_with fail
  refine (word_any a n c l _ (by omega) h3).mono ?_
  rintro e w3 ⟨rfl, hb3⟩
  have h5 := h3.next hb3
  have h6 := h4.next hb3
  have hb4 := hb2.trans (hb3.mono hb2.size)
  clear h3 h4 hb3 hb2
  go_wp2_with fail
  refine (refWord_any a' n c' l _ (by omega) h6).mono ?_
  rintro e w4 ⟨rfl, hb5⟩
  have h7 := h5.next hb5
  have h8 := h6.next hb5
  have hb6 := hb4.trans (hb5.mono hb4.size)
  clear h5 h6 hb5 hb4
  go_wp2_with fail
  refine (told_any _).mono ?_
  rintro e w5 ⟨rfl, hb7⟩
  have h9 := h7.next hb7
  have h10 := h8.next hb7
  have hb8 := hb6.trans (hb7.mono hb6.size)
  clear h7 h8 hb7 hb6
  go_wp2_with fail
  refine (same_any a a' n c c' l _ (by omega) h9 h10).mono ?_
  rintro e w6 ⟨rfl, hb9⟩
  have hb10 := hb8.trans (hb9.mono hb8.size)
  clear h9 h10 hb9 hb8
  go_wp2_with fail
  go_ret
  exact retB_bool rfl hb10
end Go.Proofs.Ytpneegmggoebhaa
