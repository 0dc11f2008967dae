/- PlaceParts returns true, for every input. -/
import Derived.Test.YtpjidjanhonikaaG6
import Derived.Test.YtpjidjanhonikaaS2
import Derived.SizedLaws
namespace Go.Proofs.Ytpjidjanhonikaa
set_option linter.unusedVariables false
set_option linter.unusedSimpArgs false
open Go.RowKit

theorem layL_append (l m : List Bk) (e : Int) : layL (l ++ m) e = ((layL l e).1 ++ (layL m (layL l e).2).1, (layL m (layL l e).2).2) := by
  induction l generalizing e with
  | nil => simp [layL]
  | cons b r ih => simp only [List.cons_append, layL, ih]
theorem layL_bound (l : List Bk) (e M : Int) (h0 : 0 ≤ e) (hM : e ≤ M) (hz : M % 4096 = 0) (hok : ∀ b ∈ l, okB b = true) (hb : M + l.length * 16384 ≤ 9000000000000000000) : e ≤ (layL l e).2 ∧ (layL l e).2 ≤ M + l.length * 16384 := by
  induction l generalizing e M with
  | nil => simp [layL]; omega
  | cons b r ih =>
    obtain ⟨S, A⟩ := b
    obtain ⟨k1, k2, k3, k4⟩ := (show 0 ≤ S ∧ S ≤ 16384 ∧ 0 ≤ A ∧ A ≤ 12 from of_decide_eq_true (hok (S, A) (by simp)))
    simp only [List.length_cons] at hb
    have hu := up_facts e A h0 (by omega) k3 k4
    have hp := pow12 A k4
    have hx1 : (upS e A).1 = (e + (2 ^ A.toNat - 1)) / 2 ^ A.toNat * 2 ^ A.toNat := by rw [upS2 k3 k4 (by omega)]
    rw [← hx1] at hu
    have huM : (upS e A).1 ≤ M := by
      apply Classical.byContradiction
      intro hn
      refine not_mult M _ (2 ^ A.toNat) (by omega) hu.2.2 (by omega) (by omega) ?_
      have e4 : (4096 : Int) = 2 ^ A.toNat * 2 ^ (12 - A.toNat) := by
        rw [← Int.pow_add, show A.toNat + (12 - A.toNat) = 12 from by omega]; rfl
      have := Int.emod_add_mul_ediv M 4096
      rw [hz, Int.zero_add] at this
      rw [← this, e4, Int.mul_assoc]; exact Int.mul_emod_right _ _
    have := ih ((upS e A).1 + S) (M + 16384) (by omega) (by omega) (by omega) (fun b hb => hok b (List.mem_cons_of_mem _ hb)) (by omega)
    simp only [layL, List.length_cons]
    omega
theorem layL_mid (l : List Bk) (e : Int) (h0 : 0 ≤ e) (h1 : e ≤ 4611686018427387904) (hok : ∀ b ∈ l, okB b = true) (hl : l.length ≤ 256) : 0 ≤ (layL l e).2 ∧ (layL l e).2 ≤ e + 4095 + l.length * 16384 := by
  have := layL_bound l e ((e + 4095) / 4096 * 4096) h0 (by omega) (by omega) hok (by omega)
  omega
theorem layS_join (l m : List Bk) (e md : Int) (hlen : l.length + m.length ≤ 250) (hok : ∀ b ∈ l, okB b = true) (he : e ≤ 4611686018427387904) (hmd : md = (layL l e).2) (hm : md ≤ 4611686018427387904) :
    (∃ x, layS m md = ([], 0, x) ∧ (x != 0) = true ∧ layS (l ++ m) e = ([], 0, x)) ∨
    ∃ Y q, layS m md = (Y, q, 0) ∧ layS (l ++ m) e = ((layL l e).1 ++ Y, q, 0) ∧ Y.length = m.length := by
  have h1 : l.all okB = true := by rw [List.all_eq_true]; exact hok
  unfold layS
  rw [if_neg (show ¬ 256 < m.length by omega), if_neg (show ¬ 4611686018427387904 < md by omega), if_neg (show ¬ 256 < (l ++ m).length by rw [List.length_append]; omega), if_neg (show ¬ 4611686018427387904 < e by omega)]
  rw [List.all_append, h1, Bool.true_and]
  by_cases h2 : m.all okB = false
  · rw [if_pos h2, if_pos h2]; exact .inl ⟨1, rfl, rfl, rfl⟩
  · rw [if_neg h2, if_neg h2, layL_append, ← hmd]
    exact .inr ⟨_, _, rfl, rfl, layL_len _ _⟩
theorem oneB (b : Bk) : ∀ u ∈ encB b, u.oneCell' = true := by
  intro u hu
  simp only [encB, List.mem_cons, List.mem_nil_iff, or_false] at hu
  rcases hu with rfl | rfl <;> rfl
theorem oneU (b : Int) : ∀ u ∈ encU b, u.oneCell' = true := by
  intro u hu
  simp only [encU, List.mem_cons, List.mem_nil_iff, or_false] at hu
  subst hu; rfl
theorem owns_join {w : World} {B : Nat} {T : TypeId} {v : Value} {n m : Nat} {l l' : List Bk} (h : w.ownsRow B T 2 v (0 + n + m) (([] ++ l ++ l').flatMap encB)) : w.ownsRow B T 2 v (n + m) ((l ++ l').flatMap encB) := by simpa using h
theorem owns_joinU {w : World} {B : Nat} {T : TypeId} {v : Value} {n m : Nat} {l l' : List Int} (h : w.ownsRow B T 1 v (0 + n + m) (([] ++ l ++ l').flatMap encU)) : w.ownsRow B T 1 v (n + m) ((l ++ l').flatMap encU) := by simpa using h
theorem info34 : (Try.prog.info? 34).map (fun i => (i.zero, i.size, i.bytes)) = some (some (.agg #[.int .i64 0, .int .i64 0]), 2, 16) := by kernel_rfl

set_option maxRecDepth 100000 in
set_option maxHeartbeats 3200000 in
theorem PlaceParts_walk (w : World) (a : Option Addr) (n c : Nat) (l : List Bk) (hm0 : n * 16 ≤ reachBytes) (hg : ∀ b ∈ l, bkB b) (h : SL encB 2 w w.heap.size a n l) (hz : a = none → n = 0 ∧ c = 0)
    (a' : Option Addr) (n' c' : Nat) (l' : List Bk) (hm0' : n' * 16 ≤ reachBytes) (hg' : ∀ b ∈ l', bkB b) (h' : SL encB 2 w w.heap.size a' n' l') (hz' : a' = none → n' = 0 ∧ c' = 0) (base : Int) (hb : 0 ≤ base ∧ base < 18446744073709551616) :
    Calls Try.prog 6 #[.slice a n c, .slice a' n' c', .int .u64 base] w (RetB (.bool true) w) := by
  obtain ⟨b0, b1⟩ := hb
  have hreach := reachBytes_lt
  by_cases hn40 : 250 < n + n'
  · clear h hg hz h' hg' hz'
    go_enter Try.func6, Try.ntmps6
    go_wp2_with fail
    go_ret
    exact retB_bool rfl (Below.refl _ _)
  clear hreach hm0 hm0'
  have HL := Lib.hid (lay_any a n c l base w (by omega) h hg b0 b1)
  have hlen := h.len
  rcases layS_cases l base with ⟨x, hl, hx, hx0⟩ | ⟨hl, hok, hl256, hbase⟩
  · rw [hl] at HL
    clear hl hlen h hg hz h' hg' hz'
    go_enter Try.func6, Try.ntmps6
    go_wp2_with fail
    refine HL.out.mono ?_
    rintro e w1 ⟨a1, n1, c1, rfl, h1, -, hb1⟩
    clear h1
    go_wp2_with (go_at_call 14; refine (laid_any _).mono ?_; rintro e w' ⟨rfl, hb2⟩)
    go_ret
    exact retB_bool rfl (after hb1 hb2)
  rw [hl] at HL
  have hmid := layL_mid l base b0 hbase hok hl256
  by_cases hmb : 4611686018427387904 < (layL l base).2
  · have hbb : 4611686018422387904 < base := by omega
    obtain ⟨md, hmd⟩ : ∃ md, md = (layL l base).2 := ⟨_, rfl⟩
    rw [← hmd] at HL hmb
    clear hl hlen h hg hz h' hg' hz' hmid hmd hok
    go_enter Try.func6, Try.ntmps6
    go_wp2_with fail
    refine HL.out.mono ?_
    rintro e w1 ⟨a1, n1, c1, rfl, h1, -, hb1⟩
    clear h1 HL
    go_wp2_with (go_at_call 14; refine (laid_any _).mono ?_; rintro e w' ⟨rfl, hb2⟩)
    go_ret
    exact retB_bool rfl (after hb1 hb2)
  obtain ⟨i0, hi, hz0, hz1, hz2⟩ := info_parts info34
  obtain ⟨j0, ji, jz0, jz1, jz2⟩ := info_parts info22
  obtain ⟨md, hmd⟩ : ∃ md, md = (layL l base).2 := ⟨_, rfl⟩
  have HLA := Lib.hid (layL_append l l' base)
  rw [← hmd] at HL hmb hmid HLA
  have hlen' := h'.len
  have hJ := layS_join l l' base md (by rw [← hlen, ← hlen']; omega) hok hbase hmd (by omega)
  have HJ := Lib.hid hJ
  clear hJ
  have hLN := Lib.hid hlen
  have hLN' := Lib.hid hlen'
  have hMD := Lib.hid hmd
  have hOK := Lib.hid hok
  have hG := Lib.hid hg
  have hG' := Lib.hid hg'
  have hgl : ∀ b ∈ l ++ l', bkB b := by intro b hb; rcases List.mem_append.1 hb with hb | hb; exact hg b hb; exact hg' b hb
  have hGL := Lib.hid hgl
  clear hl hlen hlen' hmd hok hg hg' hgl
  go_enter Try.func6, Try.ntmps6
  go_wp2_with fail
  refine HL.out.mono ?_
  rintro e w1 ⟨a1, n1, c1, rfl, h1, z1, hb1⟩
  obtain rfl : n = n1 := by have := h1.len; rw [layL_len] at this; rw [this]; exact hLN.out
  have h2 := h.next hb1
  have h3 := h'.next hb1
  clear h h' HL
  rcases HJ.out with ⟨x, hj1, hx, hj2⟩ | ⟨Y, q, hj1, hj2, hj3⟩
  · have HJ1 := Lib.hid hj1
    have HJ2 := Lib.hid hj2
    clear hj1 hj2
    go_wp2_with fail
    have HL2 := lay_any a' n' c' l' md w1 (by omega) h3 hG'.out (by omega) (by omega)
    rw [HJ1.out] at HL2
    refine HL2.mono ?_
    rintro e w2 ⟨a2, n2, c2, rfl, h4, z2, hb2⟩
    have h5 := h1.next hb2
    have h6 := h2.next hb2
    have h7 := h3.next hb2
    have hbw2 := after hb1 hb2
    clear h1 h2 h3 hb1 hb2 HL2
    have q1 : 0 + n ≤ maxLen := by unfold maxLen; omega
    have q2 : (0 + n) * 16 ≤ 140737488355328 := by omega
    have q3 : 0 + n + n' ≤ maxLen := by unfold maxLen; omega
    have q4 : (0 + n + n') * 16 ≤ 140737488355328 := by omega
    have tok1 : True := trivial
    go_wp2_with (first | (at_builtin; have _t := tok1; refine append_SL rfl _ _ 25 rfl w2.heap.size 34 i0 (.agg #[.int .i64 0, .int .i64 0]) 16 Try.underlying25 hi hz0 hz1 hz2 rfl (by decide) encB_len oneB _ 0 [] rfl (World.ownsRow_nil _ _ _ _) a n c l rfl h6 hz q1 q2 (Nat.le_refl _) ?_; intro v1 w3 hown1 hbl1 hgr1; clear tok1) | (at_builtin; refine append_SL rfl _ _ 25 rfl w2.heap.size 34 i0 (.agg #[.int .i64 0, .int .i64 0]) 16 Try.underlying25 hi hz0 hz1 hz2 rfl (by decide) encB_len oneB _ (0 + n) ([] ++ l) rfl hown1 a' n' c' l' rfl (h7.next hbl1) hz' q3 q4 hbl1.size ?_; intro v2 w4 hown2 hbl2 hgr2))
    obtain ⟨a3, c3, hv3, h8, z3⟩ := SL.ofOwns encB_len (by decide) (owns_join hown2)
    rw [hv3]
    have hbw4 : Below w.heap.size w w4 := after hbw2 (hbl1.trans hbl2)
    have h9 := h5.next (hbl1.trans hbl2)
    have h10 := h4.next (hbl1.trans hbl2)
    clear hown1 hown2 hgr1 hgr2 hbl1 hbl2 h5 h6 h7 h4 hbw2 hv3
    have HL3 := lay_any a3 (n + n') c3 (l ++ l') base w4 (by omega) h8 hGL.out b0 b1
    rw [HJ2.out] at HL3
    refine HL3.mono ?_
    rintro e w5 ⟨a5, n5, c5, rfl, h11, z5, hb5⟩
    have hbw5 := after hbw4 hb5
    have h12 := h9.next hb5
    have h13 := h10.next hb5
    clear h8 h9 h10 hb5 hbw4 HL3
    go_wp2_with (go_at_call 14; refine (laid_any _).mono ?_; rintro e w' ⟨rfl, hb6⟩)
    go_ret
    exact retB_bool rfl (after hbw5 hb6)
  · have HJ1 := Lib.hid hj1
    have HJ2 := Lib.hid hj2
    have HJ3 := Lib.hid hj3
    clear hj1 hj2 hj3
    go_wp2_with fail
    have HL2 := lay_any a' n' c' l' md w1 (by omega) h3 hG'.out (by omega) (by omega)
    rw [HJ1.out] at HL2
    refine HL2.mono ?_
    rintro e w2 ⟨a2, n2, c2, rfl, h4, z2, hb2⟩
    have h5 := h1.next hb2
    have h6 := h2.next hb2
    have h7 := h3.next hb2
    have hbw2 := after hb1 hb2
    clear h1 h2 h3 hb1 hb2 HL2
    have q1 : 0 + n ≤ maxLen := by unfold maxLen; omega
    have q2 : (0 + n) * 16 ≤ 140737488355328 := by omega
    have q3 : 0 + n + n' ≤ maxLen := by unfold maxLen; omega
    have q4 : (0 + n + n') * 16 ≤ 140737488355328 := by omega
    have tok1 : True := trivial
    go_wp2_with (first | (at_builtin; have _t := tok1; refine append_SL rfl _ _ 25 rfl w2.heap.size 34 i0 (.agg #[.int .i64 0, .int .i64 0]) 16 Try.underlying25 hi hz0 hz1 hz2 rfl (by decide) encB_len oneB _ 0 [] rfl (World.ownsRow_nil _ _ _ _) a n c l rfl h6 hz q1 q2 (Nat.le_refl _) ?_; intro v1 w3 hown1 hbl1 hgr1; clear tok1) | (at_builtin; refine append_SL rfl _ _ 25 rfl w2.heap.size 34 i0 (.agg #[.int .i64 0, .int .i64 0]) 16 Try.underlying25 hi hz0 hz1 hz2 rfl (by decide) encB_len oneB _ (0 + n) ([] ++ l) rfl hown1 a' n' c' l' rfl (h7.next hbl1) hz' q3 q4 hbl1.size ?_; intro v2 w4 hown2 hbl2 hgr2))
    obtain ⟨a3, c3, hv3, h8, z3⟩ := SL.ofOwns encB_len (by decide) (owns_join hown2)
    rw [hv3]
    have hbw4 : Below w.heap.size w w4 := after hbw2 (hbl1.trans hbl2)
    have h9 := h5.next (hbl1.trans hbl2)
    have h10 := h4.next (hbl1.trans hbl2)
    clear hown1 hown2 hgr1 hgr2 hbl1 hbl2 h5 h6 h7 h4 hbw2 hv3
    have HL3 := lay_any a3 (n + n') c3 (l ++ l') base w4 (by omega) h8 hGL.out b0 b1
    rw [HJ2.out] at HL3
    refine HL3.mono ?_
    rintro e w5 ⟨a5, n5, c5, rfl, h11, z5, hb5⟩
    have hbw5 := after hbw4 hb5
    have h12 := h9.next hb5
    have h13 := h10.next hb5
    clear h8 h9 h10 hb5 hbw4 HL3
    obtain rfl : n' = n2 := by have := h13.len; rw [HJ3.out] at this; rw [this]; exact hLN'.out
    obtain rfl : n5 = n + n' := by
      have e1 := h11.len
      rw [List.length_append, ← h12.len, ← h13.len] at e1; exact e1
    have q5 : 0 + n ≤ maxLen := by unfold maxLen; omega
    have q6 : (0 + n) * 8 ≤ 140737488355328 := by omega
    have q7 : 0 + n + n' ≤ maxLen := by unfold maxLen; omega
    have q8 : (0 + n + n') * 8 ≤ 140737488355328 := by omega
    have tok1 : True := trivial
    go_wp2_with (first | (at_builtin; have _t := tok1; refine append_SL rfl _ _ 30 rfl w5.heap.size 22 j0 (.int .u64 0) 8 Try.underlying30 ji jz0 jz1 jz2 rfl (by decide) encU_len oneU _ 0 [] rfl (World.ownsRow_nil _ _ _ _) a1 n c1 (layL l base).1 rfl h12 z1 q5 q6 (Nat.le_refl _) ?_; intro v5 w6 hown1 hbl1 hgr1; clear tok1) | (at_builtin; refine append_SL rfl _ _ 30 rfl w5.heap.size 22 j0 (.int .u64 0) 8 Try.underlying30 ji jz0 jz1 jz2 rfl (by decide) encU_len oneU _ (0 + n) ([] ++ (layL l base).1) rfl hown1 a2 n' c2 Y rfl (h13.next hbl1) z2 q7 q8 hbl1.size ?_; intro v6 w7 hown2 hbl2 hgr2))
    obtain ⟨a6, c6, hv6, h14, z6⟩ := SL.ofOwns encU_len (by decide) (owns_joinU hown2)
    rw [hv6]
    have hbw7 : Below w.heap.size w w7 := after hbw5 (hbl1.trans hbl2)
    have h15 := h11.next (hbl1.trans hbl2)
    clear hown1 hown2 hgr1 hgr2 hbl1 hbl2 h11 h12 h13 hbw5 hv6
    refine (laid_any _).mono ?_
    rintro e w8 ⟨rfl, hb8⟩
    have h16 := h14.next hb8
    have h17 := h15.next hb8
    have hbw8 := after hbw7 hb8
    clear h14 h15 hb8 hbw7
    go_wp2_with fail
    have hS := same_yes a5 a6 (n + n') c5 c6 _ _ w8 (by omega) h17 h16
    rw [decide_eq_true rfl] at hS
    refine hS.mono ?_
    rintro e w9 ⟨rfl, hb9⟩
    have hbw9 := after hbw8 hb9
    clear h16 h17 hb9 hbw8 hS
    go_wp2_with fail
    go_ret
    exact retB_bool rfl hbw9
end Go.Proofs.Ytpjidjanhonikaa
