/- What the reference's Lay and Own answer. -/
import Derived.Test.YtpjidjanhonikaaG7
namespace Go.Proofs.Ytpjidjanhonikaa
set_option linter.unusedVariables false
set_option linter.unusedSimpArgs false
open Go.RowKit

theorem refUp_eq (v n : Int) (w : World) (x e : Int) (h : 0 ≤ v ∧ v < 18446744073709551616) (he : upS v n = (x, e)) :
    Calls Try.prog 11 #[.int .u64 v, .int .i64 n] w (Ret (.tuple #[.int .u64 x, .int .i64 e]) w) := by
  have := refUp_any v n w h.1 h.2
  rwa [he] at this

set_option maxHeartbeats 1600000 in
theorem refLay_any (a : Option Addr) (n c : Nat) (l : List Bk) (base : Int) (w : World) (hn : n ≤ 600) (h : SL encB 2 w w.heap.size a n l) (hg : ∀ b ∈ l, bkB b) (b0 : 0 ≤ base) (b1 : base < 18446744073709551616) :
    Calls Try.prog 13 #[.slice a n c, .int .u64 base] w (LayPost w (layS l base)) := by
  have hlen := h.len
  have HL := Lib.hid hlen
  clear hlen
  go_enter Try.func13, Try.ntmps13
  go_wp2
  go_loopw [7] (fun i wr => ∃ k : Nat, k ≤ n ∧ i = .int .i64 k ∧ (∀ j (h : j < l.length), j < k → okB l[j] = true) ∧ Below w.heap.size w wr) (fun i _ => n - (intOf i).toNat)
  case atStart => exact ⟨0, by omega, rfl, by intro j _ hj; omega, Below.refl _ _⟩
  case round =>
    obtain ⟨k, hk, rfl, hok, hb⟩ := hrel
    have HOK := Lib.hid hok
    clear hok
    by_cases hlt : k < n
    · have hkl : k < l.length := by have := HL.out; omega
      obtain ⟨b, off, rfl, hB, hc⟩ := (h.below hb).cells (h.ne hlt)
      have c0 := hc k hkl 0 (by omega)
      have c1 := hc k hkl 1 (by omega)
      obtain ⟨⟨g0, g1⟩, g2, g3⟩ := hg l[k] (List.getElem_mem _)
      obtain ⟨f, hf⟩ : ∃ f, f = l[k] := ⟨_, rfl⟩
      rw [← hf] at c0 c1 g0 g1 g2 g3
      obtain ⟨S, A⟩ := f
      simp only [encB, Nat.add_zero, List.getElem?_cons_zero, List.getElem?_cons_succ] at c0 c1
      have HF := Lib.hid hf
      clear hc hf h hg
      by_cases hk0 : 0 ≤ S ∧ S ≤ 16384 ∧ 0 ≤ A ∧ A ≤ 12
      · obtain ⟨k1, k2, k3, k4⟩ := hk0
        go_wp2
        go_roundw
        case rel =>
          refine ⟨k + 1, by omega, by go_num, ?_, hb⟩
          intro j hj hjk
          by_cases e : j = k
          · subst e; rw [← HF.out]; simp [okB]; omega
          · exact HOK.out j hj (by omega)
        case measure => simp [intOf]; omega
      · have hno : layS l base = ([], 0, 1) := by
          unfold layS
          rw [if_pos]
          rw [List.all_eq_false]
          exact ⟨_, List.getElem_mem hkl, by rw [← HF.out]; simp [okB]; omega⟩
        have HNO := Lib.hid hno
        have hk1 : S < 0 ∨ (0 ≤ S ∧ 16384 < S) ∨ (0 ≤ S ∧ S ≤ 16384 ∧ A < 0) ∨ (0 ≤ S ∧ S ≤ 16384 ∧ 0 ≤ A ∧ 12 < A) := by omega
        clear hk0 hno
        rcases hk1 with k1 | ⟨k1, k2⟩ | ⟨k1, k2, k3⟩ | ⟨k1, k2, k3, k4⟩
        all_goals
          go_wp2
          go_ret3
          exact ⟨none, 0, 0, by rw [HNO.out]; rfl, by rw [HNO.out]; exact SL.nil _ _ _, fun _ => ⟨rfl, rfl⟩, hb⟩
    · have hall : ∀ x ∈ l, okB x = true := by
        intro x hx
        obtain ⟨j, hj, rfl⟩ := List.getElem_of_mem hx
        exact HOK.out j hj (by have := HL.out; omega)
      have HA := Lib.hid hall
      clear hall HOK
      have hnf : ¬ l.all okB = false := by rw [List.all_eq_false]; intro ⟨x, hx, hn⟩; exact hn (HA.out x hx)
      have HNF := Lib.hid hnf
      clear hnf
      by_cases h256 : 256 < n
      · have hno : layS l base = ([], 0, 2) := by
          unfold layS
          rw [if_neg HNF.out, if_pos (by have := HL.out; omega)]
        have HNO := Lib.hid hno
        clear hno h
        go_wp2
        go_ret3
        exact ⟨none, 0, 0, by rw [HNO.out]; rfl, by rw [HNO.out]; exact SL.nil _ _ _, fun _ => ⟨rfl, rfl⟩, hb⟩
      by_cases h62 : 4611686018427387904 < base
      · have hno : layS l base = ([], 0, 4) := by
          unfold layS
          rw [if_neg HNF.out, if_neg (by have := HL.out; omega), if_pos h62]
        have HNO := Lib.hid hno
        clear hno h
        go_wp2
        go_ret3
        exact ⟨none, 0, 0, by rw [HNO.out]; rfl, by rw [HNO.out]; exact SL.nil _ _ _, fun _ => ⟨rfl, rfl⟩, hb⟩
      have hno : layS l base = ((layL l base).1, (layL l base).2, 0) := by
        unfold layS
        rw [if_neg HNF.out, if_neg (by have := HL.out; omega), if_neg h62]
      have HNO := Lib.hid hno
      clear hno
      obtain ⟨i0, hi, hz0, hz1, hz2⟩ := info_parts info22
      go_wp2
      have h' := Lib.hid h
      have hg' := Lib.hid hg
      clear h hg
      go_loopw [1, 8, 9] (fun bs v i wl => ∃ (k : Nat) (e : Int) (acc : List Int), k ≤ n ∧ i = .int .i64 k ∧ bs = .int .u64 e ∧ wl.ownsRow w.heap.size 22 1 v k (acc.flatMap encU) ∧
        0 ≤ e ∧ e ≤ 4611686018427387904 + k * 20480 ∧ layL l base = (acc ++ (layL (l.drop k) e).1, (layL (l.drop k) e).2) ∧ Below w.heap.size w wl) (fun _ _ i _ => n - (intOf i).toNat)
      case atStart => exact ⟨0, base, [], by omega, rfl, rfl, World.ownsRow_nil _ _ _ _, b0, by omega, rfl, hb⟩
      case round =>
        clear hb
        obtain ⟨k, e, acc, hk, rfl, rfl, hown, e0, e1, hlay, hb⟩ := hrel
        have HLAY := Lib.hid hlay
        clear hlay
        by_cases hlt : k < n
        · have hkl : k < l.length := by have := HL.out; omega
          obtain ⟨b, off, rfl, hBb, hc⟩ := (h'.out.below hb).cells (h'.out.ne hlt)
          have c0 := hc k hkl 0 (by omega)
          have c1 := hc k hkl 1 (by omega)
          have hokk := HA.out _ (List.getElem_mem hkl)
          have hd := drop_cons hkl
          generalize l[k] = f at c0 c1 hokk hd
          obtain ⟨S, A⟩ := f
          simp only [encB, Nat.add_zero, List.getElem?_cons_zero, List.getElem?_cons_succ] at c0 c1
          have HD := Lib.hid hd
          obtain ⟨k1, k2, k3, k4⟩ := (show 0 ≤ S ∧ S ≤ 16384 ∧ 0 ≤ A ∧ A ≤ 12 from of_decide_eq_true hokk)
          have hu := up_facts e A e0 (by omega) k3 k4
          have hp := pow12 A k4
          have hx1 : (upS e A).1 = (e + (2 ^ A.toNat - 1)) / 2 ^ A.toNat * 2 ^ A.toNat := by rw [upS2 k3 k4 (by omega)]
          have hx2 : upS e A = ((upS e A).1, 0) := by rw [upS2 k3 k4 (by omega)]
          rw [← hx1] at hu
          obtain ⟨u, hU⟩ : ∃ u, u = (upS e A).1 := ⟨_, rfl⟩
          rw [← hU] at hu hx2
          obtain ⟨u1, u2, -⟩ := hu
          have HU := Lib.hid hU
          have HX := Lib.hid hx2
          have HOWN := Lib.hid hown
          have hm : k + 1 ≤ maxLen := by unfold maxLen; omega
          have hby : (k + 1) * 8 ≤ 140737488355328 := by omega
          have hsz := hb.size
          clear hc hd hokk hown hx1 hx2 hU
          have hcB : ∀ (w2 : World), Below w.heap.size w w2 → w2.cell? ⟨b, off + k * 2, none⟩ = some (.int .i64 S) := fun w2 h2 =>
            ((h2.cell (p := ⟨b, off + k * 2, none⟩) hBb).trans (hb.cell (p := ⟨b, off + k * 2, none⟩) hBb).symm).trans c0
          have HCB := Lib.hid hcB
          clear hcB
          go_wp2_with fail
          refine (refUp_eq e A _ u 0 (by omega) HX.out).mono ?_
          rintro en w' ⟨rfl, rfl⟩
          go_wp2_with (at_builtin; refine wpList_append_own _ rfl _ _ 30 rfl w.heap.size 22 i0 (.int .u64 0) 1 8 Try.underlying30 hi hz0 hz1 hz2 rfl (by decide) _ k (acc.flatMap encU) rfl (HOWN.out.alloc _) ⟨wr.heap.size, 0, none⟩ 1 1 [.int .u64 u] rfl rfl (cell_one_new _ _ _) (one_one u) hm hby (by simp; omega) ?_; intro v' w2 hown2 hgrow2 hiff; have hbw2 := (hb.alloc hb.size (.cells #[.int .u64 u] 22)).grown hgrow2 (by simp; omega) (fun j hj => (HOWN.out.lt j hj).1); have hcc := HCB.out w2 hbw2)
          go_roundw
          case rel =>
            refine ⟨k + 1, u + S, acc ++ [u], by omega, by go_num, by first | rfl | go_num, ?_, by omega, by omega, ?_, hbw2⟩
            · simpa [encU] using hown2
            · rw [HLAY.out, HD.out, layL]
              simp [← HU.out]
          case measure => simp [intOf]; omega
        · have HOWN := Lib.hid hown
          clear hown
          go_wp2
          go_ret3
          have hkn : k = n := by omega
          have hown := HOWN.out
          rw [hkn] at hown
          have hl : layL l base = (acc, e) := by
            rw [HLAY.out, List.drop_of_length_le (by have := HL.out; omega)]; simp [layL]
          obtain ⟨a', c', rfl, hsl, hnil⟩ := SL.ofOwns encU_len (by omega) hown
          have hfin : layS l base = (acc, e, 0) := by rw [HNO.out, hl]
          refine ⟨a', n, c', ?_, ?_, hnil, hb⟩
          · rw [hfin]; rfl
          · rw [hfin]; exact hsl

def OwnPost (w : World) (l : List Bk) (e : Ending) (w' : World) : Prop := ∃ a n c, e = .returned (.slice a n c) ∧ SL encB 2 w' w'.heap.size a n l ∧ (a = none → n = 0 ∧ c = 0) ∧ Below w.heap.size w w'
set_option maxHeartbeats 800000 in
theorem own_any (a : Option Addr) (n c : Nat) (l : List Bk) (w : World) (hn : n ≤ 1000000) (h : SL encB 2 w w.heap.size a n l) (hz : a = none → n = 0 ∧ c = 0) :
    Calls Try.prog 9 #[.slice a n c] w (OwnPost w l) := by
  obtain ⟨i0, hi, hz0, hz1, hz2⟩ := info_parts info34
  have q1 : 0 + n ≤ maxLen := by unfold maxLen; omega
  have q2 : (0 + n) * 16 ≤ 140737488355328 := by omega
  go_enter Try.func9, Try.ntmps9
  go_wp2_with (at_builtin; refine append_SL rfl _ _ 25 rfl w.heap.size 34 i0 (.agg #[.int .i64 0, .int .i64 0]) 16 Try.underlying25 hi hz0 hz1 hz2 rfl (by decide) encB_len oneB _ 0 [] rfl (World.ownsRow_nil _ _ _ _) a n c l rfl h hz q1 q2 (Nat.le_refl _) ?_; intro v1 w3 hown1 hbl1 hgr1)
  go_ret
  obtain ⟨a', c', hv, hsl, hnil⟩ := SL.ofOwns encB_len (by decide) (show w3.ownsRow w.heap.size 34 2 v1 n (l.flatMap encB) by simpa using hown1)
  exact ⟨a', n, c', by rw [hv]; rfl, hsl, hnil, hbl1⟩
end Go.Proofs.Ytpjidjanhonikaa
