/- What place.Lay answers, for every row of at most 300 blocks. -/
import Derived.Test.YtpjidjanhonikaaG2
import Derived.Deep.QuietTactic
import Derived.BigQuiet
namespace Go.Proofs.Ytpjidjanhonikaa
set_option linter.unusedVariables false
set_option linter.unusedSimpArgs false
open Go.RowKit

abbrev Bk := Int × Int
def encB (b : Bk) : List Value := [.int .i64 b.1, .int .i64 b.2]
theorem encB_len (b : Bk) : (encB b).length = 2 := rfl
def encU (x : Int) : List Value := [.int .u64 x]
theorem encU_len (x : Int) : (encU x).length = 1 := rfl
def i64B (x : Int) : Prop := -9223372036854775808 ≤ x ∧ x ≤ 9223372036854775807
def bkB (b : Bk) : Prop := i64B b.1 ∧ i64B b.2
def okB (b : Bk) : Bool := decide (0 ≤ b.1 ∧ b.1 ≤ 16384 ∧ 0 ≤ b.2 ∧ b.2 ≤ 12)
def layL : List Bk → Int → List Int × Int
  | [], e => ([], e)
  | b :: r, e => ((upS e b.2).1 :: (layL r ((upS e b.2).1 + b.1)).1, (layL r ((upS e b.2).1 + b.1)).2)
def layS (l : List Bk) (base : Int) : List Int × Int × Int :=
  if l.all okB = false then ([], 0, 1) else if 256 < l.length then ([], 0, 2) else if 4611686018427387904 < base then ([], 0, 4) else ((layL l base).1, (layL l base).2, 0)

theorem grownBy_step {w w' : World} {b : Nat} {u : Value} (h : w.grownBy w' (some b)) : w.grownBy (w'.setCell ⟨b, 0, none⟩ u) (some b) :=
  ⟨h.os, h.tape, h.output, by have := h.size; simp [World.setCell]; omega, fun k hk hne => by
    rw [← h.block k hk hne]
    exact Below.heap_setCell _ _ _ _ (by simp at hne ⊢; omega)⟩
theorem grownBy_alloc' {w w' : World} {row : Option Nat} (h : w.grownBy w' row) (o : Obj) : w.grownBy (w'.alloc o) row :=
  ⟨h.os, h.tape, h.output, by have := h.size; simp; omega, fun k hk hne => (Below.heap_alloc _ _ _ (by have := h.size; omega)).trans (h.block k hk hne)⟩

def LayClo (w : World) (B : Nat) (e s : Int) (al : Int) (en : Ending) (w' : World) : Prop :=
  en = .returned (.int .u64 (upS e al).1) ∧ w'.heap[B]? = some (.cells #[.int .u64 ((upS e al).1 + s)] 22 (0, 0)) ∧ w.grownBy w' (some B)

set_option maxHeartbeats 400000 in
theorem clo_any (s al e : Int) (B : Nat) (w : World) (s0 : 0 ≤ s) (s1 : s ≤ 16384) (a0 : 0 ≤ al) (a1 : al ≤ 12) (e0 : 0 ≤ e) (e1 : e ≤ 9000000000000000000)
    (hB : w.heap[B]? = some (.cells #[.int .u64 e] 22 (0, 0))) :
    Calls Try.prog 23 #[.agg #[.int .i64 s, .int .i64 al], .pointer (some ⟨B, 0, none⟩)] w (LayClo w B e s al) := by
  have hlt := lt_of_block hB
  have hc := cell_of_one hB
  have hf := free_of_one hB
  have hu := up_facts e al e0 (by omega) a0 a1
  have hp := pow12 al a1
  have hx : (upS e al) = ((upS e al).1, 0) := by rw [upS2 a0 a1 (by omega)]
  have hx1 : (upS e al).1 = (e + (2 ^ al.toNat - 1)) / 2 ^ al.toNat * 2 ^ al.toNat := by rw [upS2 a0 a1 (by omega)]
  rw [← hx1] at hu
  obtain ⟨u, hU⟩ : ∃ u, u = (upS e al).1 := ⟨_, rfl⟩
  rw [← hU] at hu hx
  have HU := Lib.hid hU
  have hup := up_any e al
  rw [hx] at hup
  have HUP := Lib.hid hup
  have HB := Lib.hid hB
  obtain ⟨u1, u2, -⟩ := hu
  clear hx hx1 hU hup hB
  go_enter Try.func23, Try.ntmps23
  go_wp2_with (go_at_call 10; refine (HUP.out _ (by omega) (by omega)).mono ?_; rintro e w' ⟨rfl, rfl⟩)
  go_ret
  refine ⟨by rw [← HU.out]; rfl, ?_, ?_⟩
  · rw [← HU.out]
    exact (Below.heap_alloc _ _ _ (by simp [World.setCell]; exact hlt)).trans (one_setCell HB.out)
  · exact grownBy_alloc' (grownBy_step (World.grownBy.refl _ _)) _

theorem one_one (u : Int) : ∀ x ∈ [Value.int .u64 u], x.oneCell' = true := by
  intro x hx
  simp only [List.mem_cons, List.mem_nil_iff, or_false] at hx
  subst hx; rfl
def LayPost (w : World) (p : List Int × Int × Int) (e : Ending) (w' : World) : Prop :=
  ∃ a n c, e = .returned (.tuple #[.slice a n c, .int .u64 p.2.1, .int .i64 p.2.2]) ∧ SL encU 1 w' w'.heap.size a n p.1 ∧ (a = none → n = 0 ∧ c = 0) ∧ Below w.heap.size w w'

theorem info22 : (Try.prog.info? 22).map (fun i => (i.zero, i.size, i.bytes)) = some (some (.int .u64 0), 1, 8) := by kernel_rfl

set_option maxHeartbeats 1600000 in
theorem lay_any (a : Option Addr) (n c : Nat) (l : List Bk) (base : Int) (w : World) (hn : n ≤ 600) (h : SL encB 2 w w.heap.size a n l) (hg : ∀ b ∈ l, bkB b) (b0 : 0 ≤ base) (b1 : base < 18446744073709551616) :
    Calls Try.prog 12 #[.slice a n c, .int .u64 base] w (LayPost w (layS l base)) := by
  go_enter Try.func12, Try.ntmps12
  go_wp2
  go_loopw [16] (fun i wr => ∃ k : Nat, k ≤ n ∧ i = .int .i64 k ∧ (∀ j (h : j < l.length), j < k → okB l[j] = true) ∧ Below w.heap.size w wr) (fun i _ => n - (intOf i).toNat)
  case atStart => exact ⟨0, by omega, rfl, by intro j _ hj; omega, Below.refl _ _⟩
  case round =>
    obtain ⟨k, hk, rfl, hok, hb⟩ := hrel
    have hlen := h.len
    have HOK := Lib.hid hok
    clear hok
    by_cases hlt : k < n
    · have hkl : k < l.length := by omega
      obtain ⟨b, off, rfl, hB, hc⟩ := (h.below hb).cells (h.ne hlt)
      have c0 := hc k hkl 0 (by omega)
      have c1 := hc k hkl 1 (by omega)
      obtain ⟨⟨g0, g1⟩, g2, g3⟩ := hg l[k] (List.getElem_mem _)
      obtain ⟨f, hf⟩ : ∃ f, f = l[k] := ⟨_, rfl⟩
      rw [← hf] at c0 c1 g0 g1 g2 g3
      obtain ⟨S, A⟩ := f
      simp only [encB, Nat.add_zero, List.getElem?_cons_zero, List.getElem?_cons_succ] at c0 c1
      have HF := Lib.hid hf
      have HL := Lib.hid hlen
      clear hc hf hlen h hg
      by_cases hk0 : 0 ≤ S ∧ S ≤ 16384 ∧ 0 ≤ A ∧ A ≤ 12
      · obtain ⟨k1, k2, k3, k4⟩ := hk0
        go_wp2
        go_roundw
        case rel =>
          refine ⟨k + 1, by omega, by go_num, ?_, hb.alloc hb.size _⟩
          intro j hj hjk
          by_cases e : j = k
          · subst e; rw [← HF.out]; simp [okB]; omega
          · exact HOK.out j hj (by omega)
        case measure => simp [intOf]; omega
      · have hno : layS l base = ([], 0, 1) := by
          unfold layS
          rw [if_pos]
          rw [List.all_eq_false]
          exact ⟨_, List.getElem_mem hkl, by rw [← HF.out]; simp [okB]; omega⟩
        have HNO := Lib.hid hno
        have hk1 : S < 0 ∨ (0 ≤ S ∧ 16384 < S) ∨ (0 ≤ S ∧ S ≤ 16384 ∧ A < 0) ∨ (0 ≤ S ∧ S ≤ 16384 ∧ 0 ≤ A ∧ 12 < A) := by omega
        clear hk0 hno
        rcases hk1 with k1 | ⟨k1, k2⟩ | ⟨k1, k2, k3⟩ | ⟨k1, k2, k3, k4⟩
        all_goals
          go_wp2
          go_ret3
          exact ⟨none, 0, 0, by rw [HNO.out]; rfl, by rw [HNO.out]; exact SL.nil _ _ _, fun _ => ⟨rfl, rfl⟩, hb.alloc hb.size _⟩
    · have hall : ∀ x ∈ l, okB x = true := by
        intro x hx
        obtain ⟨j, hj, rfl⟩ := List.getElem_of_mem hx
        exact HOK.out j hj (by omega)
      have HA := Lib.hid hall
      have HL := Lib.hid hlen
      clear hlen hall HOK
      have hnf : ¬ l.all okB = false := by rw [List.all_eq_false]; intro ⟨x, hx, hn⟩; exact hn (HA.out x hx)
      have HNF := Lib.hid hnf
      clear hnf
      by_cases h256 : 256 < n
      · have hno : layS l base = ([], 0, 2) := by
          unfold layS
          rw [if_neg HNF.out, if_pos (by have := HL.out; omega)]
        have HNO := Lib.hid hno
        clear hno h
        go_wp2
        go_ret3
        exact ⟨none, 0, 0, by rw [HNO.out]; rfl, by rw [HNO.out]; exact SL.nil _ _ _, fun _ => ⟨rfl, rfl⟩, hb⟩
      by_cases h62 : 4611686018427387904 < base
      · have hno : layS l base = ([], 0, 4) := by
          unfold layS
          rw [if_neg HNF.out, if_neg (by have := HL.out; omega), if_pos h62]
        have HNO := Lib.hid hno
        clear hno h
        go_wp2
        go_ret3
        exact ⟨none, 0, 0, by rw [HNO.out]; rfl, by rw [HNO.out]; exact SL.nil _ _ _, fun _ => ⟨rfl, rfl⟩, hb⟩
      have hno : layS l base = ((layL l base).1, (layL l base).2, 0) := by
        unfold layS
        rw [if_neg HNF.out, if_neg (by have := HL.out; omega), if_neg h62]
      have HNO := Lib.hid hno
      clear hno
      obtain ⟨i0, hi, hz0, hz1, hz2⟩ := info_parts info22
      go_wp2
      obtain ⟨B, hBd⟩ : ∃ B : Nat, B = wr.heap.size := ⟨_, rfl⟩
      have hb2 := hb.alloc hb.size (.cells #[.int .u64 base] 22)
      have hblk : (wr.alloc (.cells #[.int .u64 base] 22)).heap[B]? = some (.cells #[.int .u64 base] 22 (0, 0)) := by rw [hBd]; exact (MapKept.heap_alloc wr _).1
      have hBs := hb.size
      rw [← hBd] at hBs ⊢
      obtain ⟨wo, ho⟩ : ∃ wo : World, wo = wr.alloc (.cells #[.int .u64 base] 22) := ⟨_, rfl⟩
      rw [← ho] at hb2 hblk ⊢
      have h' := Lib.hid h
      have hg' := Lib.hid hg
      clear ho hBd hb h hg
      go_loopw [11, 48] (fun v i wl => ∃ (k : Nat) (e : Int) (acc : List Int), k ≤ n ∧ i = .int .i64 k ∧ wl.ownsRow (B + 1) 22 1 v k (acc.flatMap encU) ∧ wl.heap[B]? = some (.cells #[.int .u64 e] 22 (0, 0)) ∧
        0 ≤ e ∧ e ≤ 4611686018427387904 + k * 20480 ∧ layL l base = (acc ++ (layL (l.drop k) e).1, (layL (l.drop k) e).2) ∧ Below w.heap.size w wl) (fun _ i _ => n - (intOf i).toNat)
      case atStart => exact ⟨0, base, [], by omega, rfl, World.ownsRow_nil _ _ _ _, hblk, b0, by omega, rfl, hb2⟩
      case round =>
        clear hb2 hblk
        obtain ⟨k, e, acc, hk, rfl, hown, hblk, e0, e1, hlay, hb⟩ := hrel
        have HLAY := Lib.hid hlay
        clear hlay
        by_cases hlt : k < n
        · have hkl : k < l.length := by have := HL.out; omega
          obtain ⟨b, off, rfl, hBb, hc⟩ := (h'.out.below hb).cells (h'.out.ne hlt)
          have c0 := hc k hkl 0 (by omega)
          have c1 := hc k hkl 1 (by omega)
          have hokk := HA.out _ (List.getElem_mem hkl)
          have hd := drop_cons hkl
          generalize l[k] = f at c0 c1 hokk hd
          obtain ⟨S, A⟩ := f
          simp only [encB, Nat.add_zero, List.getElem?_cons_zero, List.getElem?_cons_succ] at c0 c1
          have HD := Lib.hid hd
          obtain ⟨k1, k2, k3, k4⟩ := of_decide_eq_true hokk
          replace k1 : 0 ≤ S := k1
          replace k2 : S ≤ 16384 := k2
          replace k3 : 0 ≤ A := k3
          replace k4 : A ≤ 12 := k4
          have HOWN := Lib.hid hown
          have HBLK := Lib.hid hblk
          have hBlt := lt_of_block hblk
          clear hc hd hokk hown hblk
          go_wp2_with fail
          refine (clo_any S A e B _ k1 k2 k3 k4 e0 (by omega) ((Below.heap_alloc _ _ _ hBlt).trans HBLK.out)).mono ?_
          rintro en w1 ⟨rfl, hblk1, hgr⟩
          have hown1 := (HOWN.out.alloc (.cells #[.int .i64 S, .int .i64 A] 34)).kept hgr (by
            right; intro hh; have := (HOWN.out.lt B hh).1; omega)
          have hu := up_facts e A e0 (by omega) k3 k4
          have hp := pow12 A k4
          have hx1 : (upS e A).1 = (e + (2 ^ A.toNat - 1)) / 2 ^ A.toNat * 2 ^ A.toNat := by rw [upS2 k3 k4 (by omega)]
          rw [← hx1] at hu
          obtain ⟨u, hU⟩ : ∃ u, u = (upS e A).1 := ⟨_, rfl⟩
          rw [← hU] at hu hblk1 ⊢
          obtain ⟨u1, u2, -⟩ := hu
          have HU := Lib.hid hU
          have HB1 := Lib.hid hblk1
          have hB1 := lt_of_block hblk1
          have hbw1 : Below w.heap.size w w1 := (hb.alloc hb.size _).grown hgr (by have := hb.size; simp; omega) (by intro j hj; cases hj; exact hBs)
          have hs1 := hbw1.size
          clear hgr hx1 hU hblk1 HOWN HBLK
          have hm : k + 1 ≤ maxLen := by unfold maxLen; omega
          have hby : (k + 1) * 8 ≤ 140737488355328 := by omega
          go_wp2_with (at_builtin; refine wpList_append_own _ rfl _ _ 30 rfl (B + 1) 22 i0 (.int .u64 0) 1 8 Try.underlying30 hi hz0 hz1 hz2 rfl (by decide) _ k (acc.flatMap encU) rfl (hown1.alloc _) ⟨w1.heap.size, 0, none⟩ 1 1 [.int .u64 u] rfl rfl (cell_one_new _ _ _) (one_one u) hm hby (by simp; omega) ?_; intro v' w2 hown2 hgrow2 hiff)
          go_roundw
          case rel =>
            have hB2 : w2.heap[B]? = some (.cells #[.int .u64 (u + S)] 22 (0, 0)) := by
              rw [hgrow2.block B (by simp; omega) (by intro hh; have := (hown1.lt B hh.symm).1; omega), Below.heap_alloc _ _ _ hB1]
              exact HB1.out
            refine ⟨k + 1, u + S, acc ++ [u], by omega, by go_num, ?_, hB2, by omega, by omega, ?_, ?_⟩
            · simpa [encU] using hown2
            · rw [HLAY.out, HD.out, layL]
              simp [← HU.out]
            · exact (hbw1.alloc hbw1.size _).grown hgrow2 (by simp; omega) (fun j hj => by have := (hown1.lt j hj).1; omega)
          case measure => simp [intOf]; omega
        · have hcell := cell_of_one hblk
          have HOWN := Lib.hid hown
          clear hblk hown
          go_wp2
          go_quiet (fail)
          go_wp2
          go_ret3
          have hkn : k = n := by omega
          have hown := HOWN.out
          rw [hkn] at hown
          have hl : layL l base = (acc, e) := by
            rw [HLAY.out, List.drop_of_length_le (by have := HL.out; omega)]; simp [layL]
          obtain ⟨a', c', rfl, hsl, hnil⟩ := SL.ofOwns encU_len (by omega) hown
          have hfin : layS l base = (acc, e, 0) := by rw [HNO.out, hl]
          refine ⟨a', n, c', ?_, ?_, hnil, below_drewN hb _⟩
          · rw [hfin]; rfl
          · rw [hfin]; exact hsl.next (below_refl_drewN _ _)
end Go.Proofs.Ytpjidjanhonikaa
