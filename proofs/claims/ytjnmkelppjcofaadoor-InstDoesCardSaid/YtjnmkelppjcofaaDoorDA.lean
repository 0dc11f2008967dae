/- The reference's Has. The reference's reg, with. The reference's rule and the program's are one: arithmetic. The reference's Is: where a register is wrong. -/
import Derived.Test.YtjnmkelppjcofaaDoorJ10
namespace Go.Proofs.YtjnmkelppjcofaaDoor
set_option linter.unusedVariables false
set_option linter.unusedSimpArgs false
open Go.RowKit

def fdL : List (List UInt8) := [[], [100, 105, 119], [100, 110, 105, 119], [100, 110, 107], [100, 110, 109, 115, 119], [100, 110, 109, 115, 119], [100, 110, 109, 97], [100, 110, 105], [100, 110, 105], [100, 105], [100, 105], [105], [99, 105], [110], [105], [], [100, 110, 109, 99]]
def fdB (k : Nat) : ByteArray := ⟨(fdL.getD k []).toArray⟩
def hasR (s : Nat) (x : UInt8) : Bool := (fdL.getD s []).any (· == x)
theorem fdArr (k : Nat) (hk : k < 17) : (fdL.map fun z => Value.string ⟨z.toArray⟩).toArray[k]? = some (.string (fdB k)) := by
  have hl : k < fdL.length := hk
  rw [List.getElem?_toArray, List.getElem?_map, List.getElem?_eq_getElem hl]
  unfold fdB
  rw [List.getD_eq_getElem?_getD, List.getElem?_eq_getElem hl]
  rfl
theorem fd_len : ∀ k : Fin 17, (fdL.getD k.val []).length ≤ 5 := by decide
theorem any_drop {l : List UInt8} {k : Nat} (h : k < l.length) (x : UInt8) : (l.drop k).any (· == x) = ((l[k] == x) || (l.drop (k + 1)).any (· == x)) := by
  rw [List.drop_eq_getElem_cons h]; rfl
theorem bytes_one (y : UInt8) : (ByteArray.mk #[y]).toList = [y] := by
  simp [ByteArray.toList, ByteArray.toList.loop, ByteArray.size, ByteArray.get!]
theorem slice_one (l : List UInt8) (k : Nat) (h : k < l.length) (x : UInt8) : (((ByteArray.mk l.toArray).extract k (k + 1)).toList == [x]) = (l[k] == x) := by
  have e1 : ((ByteArray.mk l.toArray).extract k (k + 1)) = ByteArray.mk #[l[k]] := by
    apply ByteArray.ext
    rw [ByteArray.data_extract]
    apply Array.ext'
    simp only [Array.toList_extract, List.extract_eq_take_drop, Nat.add_sub_cancel_left]
    rw [List.drop_eq_getElem_cons h]
    rfl
  rw [e1, bytes_one]
  simp
set_option maxRecDepth 100000 in
set_option maxHeartbeats 1000000 in
theorem Has_any (s : Nat) (hs : s ≤ 16) (x : UInt8) (w : World) : Calls Tryd.prog 28 #[.int .i64 s, .string ⟨#[x]⟩] w (RetB (.bool (hasR s x)) w) := by
  have hA := fdArr s (by omega)
  have hL := fd_len ⟨s, by omega⟩
  have HH : Hid (hasR s x = (fdL.getD s []).any (· == x)) := Lib.hid rfl
  obtain ⟨l, hl⟩ : ∃ l, l = fdL.getD s [] := ⟨_, rfl⟩
  have hf : fdB s = ⟨l.toArray⟩ := by rw [hl]; rfl
  rw [hf] at hA
  simp only [] at hL
  rw [← hl] at HH hL
  clear hf hl
  simp only [fdL, List.map] at hA
  go_enter Tryd.func28, Tryd.ntmps28
  go_wp2
  go_loop [7] (fun i => ∃ k : Nat, k ≤ l.length ∧ i = .int .i64 k ∧ hasR s x = (l.drop k).any (· == x)) (fun i => l.length - (intOf i).toNat)
  case atStart => exact ⟨0, by omega, rfl, HH.out⟩
  case round =>
    obtain ⟨k, hk, rfl, hd⟩ := hrel
    have HD := Lib.hid hd
    clear hd
    by_cases hlt : k < l.length
    · have hsl := slice_one l k hlt x
      have HA2 := Lib.hid (any_drop hlt x)
      generalize l[k] = y at *
      cases e : (y == x)
      · rw [e] at hsl HA2
        have HQ : Hid (hasR s x = (l.drop (k + 1)).any (· == x)) := Lib.hid (by rw [HD.out, HA2.out, Bool.false_or])
        go_wp2
        go_round
        case rel => exact ⟨k + 1, by omega, by go_num, HQ.out⟩
        case measure => simp [intOf]; omega
      · rw [e] at hsl HA2
        have HQ : Hid (hasR s x = true) := Lib.hid (by rw [HD.out, HA2.out, Bool.true_or])
        go_wp2
        go_ret
        exact retB_bool HQ.out.symm ((Below.refl _ _).alloc (Nat.le_refl _) _)
    · have HQ : Hid (hasR s x = false) := Lib.hid (by rw [HD.out, List.drop_of_length_le (by omega)]; rfl)
      go_wp2
      go_ret
      exact retB_bool HQ.out.symm ((Below.refl _ _).alloc (Nat.le_refl _) _)

def regR (s : Nat) (x : UInt8) (v : Int) : Bool := if hasR s x then decide (0 ≤ v) && decide (v ≤ 31) else v == 0
set_option maxHeartbeats 400000 in
theorem reg_any (s : Nat) (hs : s ≤ 16) (x : UInt8) (v : Int) (w : World) : Calls Tryd.prog 32 #[.int .i64 s, .string ⟨#[x]⟩, .int .i64 v] w (RetB (.bool (regR s x v)) w) := by
  have H := Lib.hid (Has_any s hs x w)
  unfold regR
  generalize hasR s x = b at *
  cases b
  · go_enter Tryd.func32, Tryd.ntmps32
    go_wp2_with fail
    refine H.out.mono ?_
    rintro e w1 ⟨rfl, hb⟩
    have HB := Lib.hid hb
    clear hb
    go_wp2
    go_ret
    exact retB_bool rfl HB.out
  · by_cases h1 : 0 ≤ v
    · rw [decide_eq_true h1]
      go_enter Tryd.func32, Tryd.ntmps32
      go_wp2_with fail
      refine H.out.mono ?_
      rintro e w1 ⟨rfl, hb⟩
      have HB := Lib.hid hb
      clear hb
      go_wp2
      go_ret
      exact retB_bool rfl HB.out
    · rw [decide_eq_false h1]
      go_enter Tryd.func32, Tryd.ntmps32
      go_wp2_with fail
      refine H.out.mono ?_
      rintro e w1 ⟨rfl, hb⟩
      have HB := Lib.hid hb
      clear hb
      go_wp2
      go_ret
      exact retB_bool rfl HB.out

def stepW (v : Int) (p : Bool × List Int) (y : Int) : Bool × List Int := (p.1 || decide (v ≤ y), (if !p.1 && decide (v < y) then p.2 ++ [v] else p.2) ++ [y])
def foldW (l : List Int) (v : Int) (k : Nat) : Bool × List Int := (l.take k).foldl (stepW v) (false, [])
def withL (l : List Int) (v : Int) : List Int := if (foldW l v l.length).1 then (foldW l v l.length).2 else (foldW l v l.length).2 ++ [v]
theorem foldW_succ {l : List Int} {v : Int} {k : Nat} (h : k < l.length) : foldW l v (k + 1) = stepW v (foldW l v k) l[k] := by
  unfold foldW
  rw [List.take_succ_eq_append_getElem h, List.foldl_append]
  rfl
theorem foldW_len (l : List Int) (v : Int) (k : Nat) (hk : k ≤ l.length) : (foldW l v k).2.length ≤ 2 * k := by
  induction k with
  | zero => simp [foldW]
  | succ k ih =>
    rw [foldW_succ (by omega)]
    have := ih (by omega)
    unfold stepW
    simp only []
    split <;> simp <;> omega

set_option maxRecDepth 100000 in
set_option maxHeartbeats 2000000 in
theorem with_any (a : Option Addr) (n c : Nat) (l : List Int) (v : Int) (w : World) (hn : n ≤ 40) (h : SL encI 1 w w.heap.size a n l) :
    Calls Tryd.prog 41 #[.slice a n c, .int .i64 v] w (RetL (withL l v) w) := by
  obtain ⟨i0, hi, hz0, hz1, hz2⟩ := info_parts infoI
  have hl := Lib.hid h.len
  have HO : Hid (withL l v = if (foldW l v n).1 then (foldW l v n).2 else (foldW l v n).2 ++ [v]) := Lib.hid (by unfold withL; rw [← h.len])
  have HF := Lib.hid (fun k hk => @foldW_succ l v k hk)
  have HFL := Lib.hid (fun k hk => foldW_len l v k hk)
  have hf0 : foldW l v 0 = (false, []) := rfl
  have HSL := Lib.hid h
  clear h
  go_enter Tryd.func41, Tryd.ntmps41
  go_wp2
  go_loopw [5, 6, 7] (fun o d i wl => ∃ (k : Nat), k ≤ n ∧ i = .int .i64 k ∧ d = .bool (foldW l v k).1 ∧ wl.ownsRow w.heap.size 3 1 o (foldW l v k).2.length ((foldW l v k).2.flatMap encI) ∧ Below w.heap.size w wl) (fun _ _ i _ => n - (intOf i).toNat)
  case atStart => exact ⟨0, by omega, rfl, by rw [hf0], by rw [hf0]; exact World.ownsRow_nil _ _ _ _, Below.refl _ _⟩
  case round =>
    clear hf0
    obtain ⟨k, hk, rfl, rfl, hown, hb⟩ := hrel
    have hbs := hb.size
    have hln := HFL.out k (by have := hl.out; omega)
    have hlm : 2 * k + 2 ≤ 200 := by omega
    by_cases hlt : k < n
    · have hk1 : k < l.length := by have := hl.out; omega
      obtain ⟨b, off, rfl, hB, hc⟩ := HSL.out.cells (HSL.out.ne hlt)
      have c0 := hc k hk1 0 (by omega)
      have HS := HF.out k hk1
      generalize l[k] = y at *
      simp only [encI, Nat.add_zero, Nat.mul_one, List.getElem?_cons_zero] at c0
      have HC : Hid (∀ wx, Below w.heap.size w wx → wx.cell? ⟨b, off + k, none⟩ = some (.int .i64 y)) := Lib.hid fun wx hx => (hx.cell (p := ⟨b, off + k, none⟩) hB).trans c0
      have c1 := HC.out _ hb
      clear c0 hc HF HFL
      generalize foldW l v k = p at *
      obtain ⟨dn, acc⟩ := p
      simp only [] at hown hln
      have HOWN := Lib.hid hown
      clear hown
      have hm2 : acc.length + 1 ≤ maxLen := by unfold maxLen; omega
      have hm3 : acc.length + 1 + 1 ≤ maxLen := by unfold maxLen; omega
      have hby2 : (acc.length + 1) * 8 ≤ 140737488355328 := by omega
      have hby3 : (acc.length + 1 + 1) * 8 ≤ 140737488355328 := by omega
      cases dn
      · by_cases h1 : v < y
        · have t3 : v ≤ y := by omega
          have HE : Hid (foldW l v (k + 1) = (true, acc ++ [v] ++ [y])) := Lib.hid (by rw [HS]; simp [stepW, decide_eq_true h1, decide_eq_true t3])
          clear HS hlm
          go_wp2_with (first
            | ((at_builtin; refine wpList_append_own _ rfl _ _ 30 rfl w.heap.size 3 i0 (.int .i64 0) 1 8 Tryd.underlying30 hi hz0 hz1 hz2 rfl (by decide) _ (acc.length + 1) (acc.flatMap encI ++ [.int .i64 v]) rfl (HOWN2.out.alloc _) ⟨w2.heap.size, 0, none⟩ 1 1 [.int .i64 y] rfl rfl (cell_one_new' _ _ _) (one_one' _) hm3 hby3 (by simp; omega) ?_; intro v3 w3 hown3 hgrow3 hiff3); replace hb := (hb.alloc hb.size _).grown hgrow3 (by simp; have := hb.size; omega) (fun j hj => by have := (HOWN2.out.lt j hj).1; omega))
            | ((at_builtin; refine wpList_append_own _ rfl _ _ 30 rfl w.heap.size 3 i0 (.int .i64 0) 1 8 Tryd.underlying30 hi hz0 hz1 hz2 rfl (by decide) _ (acc.length) (acc.flatMap encI) rfl (HOWN.out.alloc _) ⟨wr.heap.size, 0, none⟩ 1 1 [.int .i64 v] rfl rfl (cell_one_new' _ _ _) (one_one' _) hm2 hby2 (by simp; omega) ?_; intro v2 w2 hown2 hgrow2 hiff2); replace hb := (hb.alloc hb.size _).grown hgrow2 (by simp; have := hb.size; omega) (fun j hj => by have := (HOWN.out.lt j hj).1; omega); have c2 := HC.out _ hb; clear c1; have HOWN2 := Lib.hid hown2; clear hown2; have hbs2 := hb.size))
          go_roundw
          case rel =>
            refine ⟨k + 1, by omega, by go_num, by rw [HE.out], ?_, hb⟩
            rw [HE.out]
            simp only [List.flatMap_append, List.length_append]
            exact hown3
          case measure => simp [intOf]; omega
        · by_cases h2 : v ≤ y
          · have HE : Hid (foldW l v (k + 1) = (true, acc ++ [y])) := Lib.hid (by rw [HS]; simp [stepW, decide_eq_true h2, h1])
            clear HS hlm
            go_wp2_with (at_builtin; refine wpList_append_own _ rfl _ _ 30 rfl w.heap.size 3 i0 (.int .i64 0) 1 8 Tryd.underlying30 hi hz0 hz1 hz2 rfl (by decide) _ (acc.length) (acc.flatMap encI) rfl (HOWN.out.alloc _) ⟨wr.heap.size, 0, none⟩ 1 1 [.int .i64 y] rfl rfl (cell_one_new' _ _ _) (one_one' _) hm2 hby2 (by simp; omega) ?_; intro v2 w2 hown2 hgrow2 hiff2)
            replace hb := (hb.alloc hb.size _).grown hgrow2 (by simp; have := hb.size; omega) (fun j hj => by have := (HOWN.out.lt j hj).1; omega)
            go_roundw
            case rel =>
              refine ⟨k + 1, by omega, by go_num, by rw [HE.out], ?_, hb⟩
              rw [HE.out]
              simp only [List.flatMap_append, List.length_append]
              exact hown2
            case measure => simp [intOf]; omega
          · have HE : Hid (foldW l v (k + 1) = (false, acc ++ [y])) := Lib.hid (by rw [HS]; simp [stepW, decide_eq_false h2, h1])
            clear HS hlm
            go_wp2_with (at_builtin; refine wpList_append_own _ rfl _ _ 30 rfl w.heap.size 3 i0 (.int .i64 0) 1 8 Tryd.underlying30 hi hz0 hz1 hz2 rfl (by decide) _ (acc.length) (acc.flatMap encI) rfl (HOWN.out.alloc _) ⟨wr.heap.size, 0, none⟩ 1 1 [.int .i64 y] rfl rfl (cell_one_new' _ _ _) (one_one' _) hm2 hby2 (by simp; omega) ?_; intro v2 w2 hown2 hgrow2 hiff2)
            replace hb := (hb.alloc hb.size _).grown hgrow2 (by simp; have := hb.size; omega) (fun j hj => by have := (HOWN.out.lt j hj).1; omega)
            go_roundw
            case rel =>
              refine ⟨k + 1, by omega, by go_num, by rw [HE.out], ?_, hb⟩
              rw [HE.out]
              simp only [List.flatMap_append, List.length_append]
              exact hown2
            case measure => simp [intOf]; omega
      · have HE : Hid (foldW l v (k + 1) = (true, acc ++ [y])) := Lib.hid (by rw [HS]; simp [stepW])
        clear HS hlm
        go_wp2_with (at_builtin; refine wpList_append_own _ rfl _ _ 30 rfl w.heap.size 3 i0 (.int .i64 0) 1 8 Tryd.underlying30 hi hz0 hz1 hz2 rfl (by decide) _ (acc.length) (acc.flatMap encI) rfl (HOWN.out.alloc _) ⟨wr.heap.size, 0, none⟩ 1 1 [.int .i64 y] rfl rfl (cell_one_new' _ _ _) (one_one' _) hm2 hby2 (by simp; omega) ?_; intro v2 w2 hown2 hgrow2 hiff2)
        replace hb := (hb.alloc hb.size _).grown hgrow2 (by simp; have := hb.size; omega) (fun j hj => by have := (HOWN.out.lt j hj).1; omega)
        go_roundw
        case rel =>
          refine ⟨k + 1, by omega, by go_num, by rw [HE.out], ?_, hb⟩
          rw [HE.out]
          simp only [List.flatMap_append, List.length_append]
          exact hown2
        case measure => simp [intOf]; omega
    · obtain rfl : k = n := by omega
      clear HF HFL
      generalize foldW l v k = p at *
      obtain ⟨dn, acc⟩ := p
      simp only [] at hown hln
      have HOWN := Lib.hid hown
      clear hown
      have hm2 : acc.length + 1 ≤ maxLen := by unfold maxLen; omega
      have hby2 : (acc.length + 1) * 8 ≤ 140737488355328 := by omega
      cases dn
      · have HE : Hid (withL l v = acc ++ [v]) := Lib.hid HO.out
        clear HO
        go_wp2_with (at_builtin; refine wpList_append_own _ rfl _ _ 30 rfl w.heap.size 3 i0 (.int .i64 0) 1 8 Tryd.underlying30 hi hz0 hz1 hz2 rfl (by decide) _ (acc.length) (acc.flatMap encI) rfl (HOWN.out.alloc _) ⟨wr.heap.size, 0, none⟩ 1 1 [.int .i64 v] rfl rfl (cell_one_new' _ _ _) (one_one' _) hm2 hby2 (by simp; omega) ?_; intro v2 w2 hown2 hgrow2 hiff2)
        replace hb := (hb.alloc hb.size _).grown hgrow2 (by simp; have := hb.size; omega) (fun j hj => by have := (HOWN.out.lt j hj).1; omega)
        go_ret
        have hown3 : w2.ownsRow w.heap.size 3 1 v2 (acc ++ [v]).length ((acc ++ [v]).flatMap encI) := by
          simp only [List.flatMap_append, List.length_append]
          exact hown2
        obtain ⟨a', c', rfl, hsl, hnil⟩ := SL.ofOwns encI_len (by omega) hown3
        rw [← HE.out] at *
        exact ⟨a', c', rfl, hsl, hnil, hb⟩
      · have HE : Hid (withL l v = acc) := Lib.hid HO.out
        clear HO
        go_wp2
        go_ret
        obtain ⟨a', c', rfl, hsl, hnil⟩ := SL.ofOwns encI_len (by omega) HOWN.out
        rw [← HE.out] at *
        exact ⟨a', c', rfl, hsl, hnil, hb⟩

def shiftR (s : Int) (h : Int) : Bool := h == 0 || (s == 4 && decide (0 ≤ h) && decide (h ≤ 2)) || (s == 5 && decide (0 ≤ h) && decide (h ≤ 3))
def condR (s : Nat) (c : Int) : Bool := c == 0 || (hasR s 99 && decide (0 ≤ c) && decide (c ≤ 13))
def maskR (s : Int) (m : Int) : Bool := (s == 3 && isS m.toNat) || (s != 3 && m == 0)
def refI (s : Nat) (z : Int) (i : In) : Bool :=
  regR s 100 i.d && regR s 110 i.n && regR s 109 i.m && regR s 97 i.a && (immR z i.imm && amountR z i.amount && shiftR z i.shift && condR s i.cond && maskR z i.mask)
theorem within_one (n l m : Int) : withinI n l m 1 = (decide (l ≤ n) && decide (n ≤ m)) := by
  unfold withinI; rw [Int.tmod_one]; simp
theorem within_zero : isS 0 = false := by decide +kernel
set_option maxRecDepth 10000 in
theorem hasR_tab : ∀ s : Fin 17, (hasR s.val 100, hasR s.val 110, hasR s.val 109, hasR s.val 97, hasR s.val 99) = (hasDb (s.val : Nat), hasNb (s.val : Nat), hasMb (s.val : Nat), ((s.val : Nat) : Int) == 6, ((s.val : Nat) : Int) == 12 || ((s.val : Nat) : Int) == 16) := by decide +kernel
theorem m1 (v : Int) : v.tmod 1 = 0 := Int.tmod_one v
set_option maxHeartbeats 400000 in
theorem refI_eq1 (i : In) : refI 1 1 i = (sameI i (ownI 1 i) && regsI i && numI 1 i) := by
  obtain ⟨o, d, n, m, a, x, k, h, t, c⟩ := i
  have ht := hasR_tab ⟨1, by omega⟩
  simp only [Prod.mk.injEq] at ht
  obtain ⟨t1, t2, t3, t4, t5⟩ := ht
  have t1 : hasR 1 100 = hasDb 1 := t1
  have t2 : hasR 1 110 = hasNb 1 := t2
  have t3 : hasR 1 109 = hasMb 1 := t3
  have t4 : hasR 1 97 = (((1 : Nat) : Int) == 6) := t4
  have t5 : hasR 1 99 = ((((1 : Nat) : Int) == 12) || (((1 : Nat) : Int) == 16)) := t5
  rw [Bool.eq_iff_iff]
  unfold refI regR condR shiftR maskR immR amountR regsI numI sameI ownI pick
  rw [t1, t2, t3, t4, t5]
  clear t1 t2 t3 t4 t5
  simp [hasDb, hasNb, hasMb, within_one]
  all_goals grind
set_option maxHeartbeats 400000 in
theorem refI_eq2 (i : In) : refI 2 2 i = (sameI i (ownI 2 i) && regsI i && numI 2 i) := by
  obtain ⟨o, d, n, m, a, x, k, h, t, c⟩ := i
  have ht := hasR_tab ⟨2, by omega⟩
  simp only [Prod.mk.injEq] at ht
  obtain ⟨t1, t2, t3, t4, t5⟩ := ht
  have t1 : hasR 2 100 = hasDb 2 := t1
  have t2 : hasR 2 110 = hasNb 2 := t2
  have t3 : hasR 2 109 = hasMb 2 := t3
  have t4 : hasR 2 97 = (((2 : Nat) : Int) == 6) := t4
  have t5 : hasR 2 99 = ((((2 : Nat) : Int) == 12) || (((2 : Nat) : Int) == 16)) := t5
  rw [Bool.eq_iff_iff]
  unfold refI regR condR shiftR maskR immR amountR regsI numI sameI ownI pick
  rw [t1, t2, t3, t4, t5]
  clear t1 t2 t3 t4 t5
  simp [hasDb, hasNb, hasMb, within_one]
  all_goals grind
set_option maxHeartbeats 400000 in
theorem refI_eq3 (i : In) : refI 3 3 i = (sameI i (ownI 3 i) && regsI i && numI 3 i) := by
  obtain ⟨o, d, n, m, a, x, k, h, t, c⟩ := i
  have ht := hasR_tab ⟨3, by omega⟩
  simp only [Prod.mk.injEq] at ht
  obtain ⟨t1, t2, t3, t4, t5⟩ := ht
  have t1 : hasR 3 100 = hasDb 3 := t1
  have t2 : hasR 3 110 = hasNb 3 := t2
  have t3 : hasR 3 109 = hasMb 3 := t3
  have t4 : hasR 3 97 = (((3 : Nat) : Int) == 6) := t4
  have t5 : hasR 3 99 = ((((3 : Nat) : Int) == 12) || (((3 : Nat) : Int) == 16)) := t5
  rw [Bool.eq_iff_iff]
  unfold refI regR condR shiftR maskR immR amountR regsI numI sameI ownI pick
  rw [t1, t2, t3, t4, t5]
  clear t1 t2 t3 t4 t5
  simp [hasDb, hasNb, hasMb, within_one]
  all_goals grind
set_option maxHeartbeats 400000 in
theorem refI_eq4 (i : In) : refI 4 4 i = (sameI i (ownI 4 i) && regsI i && numI 4 i) := by
  obtain ⟨o, d, n, m, a, x, k, h, t, c⟩ := i
  have ht := hasR_tab ⟨4, by omega⟩
  simp only [Prod.mk.injEq] at ht
  obtain ⟨t1, t2, t3, t4, t5⟩ := ht
  have t1 : hasR 4 100 = hasDb 4 := t1
  have t2 : hasR 4 110 = hasNb 4 := t2
  have t3 : hasR 4 109 = hasMb 4 := t3
  have t4 : hasR 4 97 = (((4 : Nat) : Int) == 6) := t4
  have t5 : hasR 4 99 = ((((4 : Nat) : Int) == 12) || (((4 : Nat) : Int) == 16)) := t5
  rw [Bool.eq_iff_iff]
  unfold refI regR condR shiftR maskR immR amountR regsI numI sameI ownI pick
  rw [t1, t2, t3, t4, t5]
  clear t1 t2 t3 t4 t5
  simp [hasDb, hasNb, hasMb, within_one]
  all_goals grind
set_option maxHeartbeats 400000 in
theorem refI_eq5 (i : In) : refI 5 5 i = (sameI i (ownI 5 i) && regsI i && numI 5 i) := by
  obtain ⟨o, d, n, m, a, x, k, h, t, c⟩ := i
  have ht := hasR_tab ⟨5, by omega⟩
  simp only [Prod.mk.injEq] at ht
  obtain ⟨t1, t2, t3, t4, t5⟩ := ht
  have t1 : hasR 5 100 = hasDb 5 := t1
  have t2 : hasR 5 110 = hasNb 5 := t2
  have t3 : hasR 5 109 = hasMb 5 := t3
  have t4 : hasR 5 97 = (((5 : Nat) : Int) == 6) := t4
  have t5 : hasR 5 99 = ((((5 : Nat) : Int) == 12) || (((5 : Nat) : Int) == 16)) := t5
  rw [Bool.eq_iff_iff]
  unfold refI regR condR shiftR maskR immR amountR regsI numI sameI ownI pick
  rw [t1, t2, t3, t4, t5]
  clear t1 t2 t3 t4 t5
  simp [hasDb, hasNb, hasMb, within_one]
  all_goals grind
set_option maxHeartbeats 400000 in
theorem refI_eq6 (i : In) : refI 6 6 i = (sameI i (ownI 6 i) && regsI i && numI 6 i) := by
  obtain ⟨o, d, n, m, a, x, k, h, t, c⟩ := i
  have ht := hasR_tab ⟨6, by omega⟩
  simp only [Prod.mk.injEq] at ht
  obtain ⟨t1, t2, t3, t4, t5⟩ := ht
  have t1 : hasR 6 100 = hasDb 6 := t1
  have t2 : hasR 6 110 = hasNb 6 := t2
  have t3 : hasR 6 109 = hasMb 6 := t3
  have t4 : hasR 6 97 = (((6 : Nat) : Int) == 6) := t4
  have t5 : hasR 6 99 = ((((6 : Nat) : Int) == 12) || (((6 : Nat) : Int) == 16)) := t5
  rw [Bool.eq_iff_iff]
  unfold refI regR condR shiftR maskR immR amountR regsI numI sameI ownI pick
  rw [t1, t2, t3, t4, t5]
  clear t1 t2 t3 t4 t5
  simp [hasDb, hasNb, hasMb, within_one]
  all_goals grind
set_option maxHeartbeats 400000 in
theorem refI_eq7 (i : In) : refI 7 7 i = (sameI i (ownI 7 i) && regsI i && numI 7 i) := by
  obtain ⟨o, d, n, m, a, x, k, h, t, c⟩ := i
  have ht := hasR_tab ⟨7, by omega⟩
  simp only [Prod.mk.injEq] at ht
  obtain ⟨t1, t2, t3, t4, t5⟩ := ht
  have t1 : hasR 7 100 = hasDb 7 := t1
  have t2 : hasR 7 110 = hasNb 7 := t2
  have t3 : hasR 7 109 = hasMb 7 := t3
  have t4 : hasR 7 97 = (((7 : Nat) : Int) == 6) := t4
  have t5 : hasR 7 99 = ((((7 : Nat) : Int) == 12) || (((7 : Nat) : Int) == 16)) := t5
  rw [Bool.eq_iff_iff]
  unfold refI regR condR shiftR maskR immR amountR regsI numI sameI ownI pick
  rw [t1, t2, t3, t4, t5]
  clear t1 t2 t3 t4 t5
  simp [hasDb, hasNb, hasMb, within_one]
  all_goals grind
set_option maxHeartbeats 400000 in
theorem refI_eq8 (i : In) : refI 8 8 i = (sameI i (ownI 8 i) && regsI i && numI 8 i) := by
  obtain ⟨o, d, n, m, a, x, k, h, t, c⟩ := i
  have ht := hasR_tab ⟨8, by omega⟩
  simp only [Prod.mk.injEq] at ht
  obtain ⟨t1, t2, t3, t4, t5⟩ := ht
  have t1 : hasR 8 100 = hasDb 8 := t1
  have t2 : hasR 8 110 = hasNb 8 := t2
  have t3 : hasR 8 109 = hasMb 8 := t3
  have t4 : hasR 8 97 = (((8 : Nat) : Int) == 6) := t4
  have t5 : hasR 8 99 = ((((8 : Nat) : Int) == 12) || (((8 : Nat) : Int) == 16)) := t5
  rw [Bool.eq_iff_iff]
  unfold refI regR condR shiftR maskR immR amountR regsI numI sameI ownI pick
  rw [t1, t2, t3, t4, t5]
  clear t1 t2 t3 t4 t5
  simp [hasDb, hasNb, hasMb, within_one]
  all_goals grind
set_option maxHeartbeats 400000 in
theorem refI_eq9 (i : In) : refI 9 9 i = (sameI i (ownI 9 i) && regsI i && numI 9 i) := by
  obtain ⟨o, d, n, m, a, x, k, h, t, c⟩ := i
  have ht := hasR_tab ⟨9, by omega⟩
  simp only [Prod.mk.injEq] at ht
  obtain ⟨t1, t2, t3, t4, t5⟩ := ht
  have t1 : hasR 9 100 = hasDb 9 := t1
  have t2 : hasR 9 110 = hasNb 9 := t2
  have t3 : hasR 9 109 = hasMb 9 := t3
  have t4 : hasR 9 97 = (((9 : Nat) : Int) == 6) := t4
  have t5 : hasR 9 99 = ((((9 : Nat) : Int) == 12) || (((9 : Nat) : Int) == 16)) := t5
  rw [Bool.eq_iff_iff]
  unfold refI regR condR shiftR maskR immR amountR regsI numI sameI ownI pick
  rw [t1, t2, t3, t4, t5]
  clear t1 t2 t3 t4 t5
  simp [hasDb, hasNb, hasMb, within_one]
  all_goals grind
set_option maxHeartbeats 400000 in
theorem refI_eq10 (i : In) : refI 10 10 i = (sameI i (ownI 10 i) && regsI i && numI 10 i) := by
  obtain ⟨o, d, n, m, a, x, k, h, t, c⟩ := i
  have ht := hasR_tab ⟨10, by omega⟩
  simp only [Prod.mk.injEq] at ht
  obtain ⟨t1, t2, t3, t4, t5⟩ := ht
  have t1 : hasR 10 100 = hasDb 10 := t1
  have t2 : hasR 10 110 = hasNb 10 := t2
  have t3 : hasR 10 109 = hasMb 10 := t3
  have t4 : hasR 10 97 = (((10 : Nat) : Int) == 6) := t4
  have t5 : hasR 10 99 = ((((10 : Nat) : Int) == 12) || (((10 : Nat) : Int) == 16)) := t5
  rw [Bool.eq_iff_iff]
  unfold refI regR condR shiftR maskR immR amountR regsI numI sameI ownI pick
  rw [t1, t2, t3, t4, t5]
  clear t1 t2 t3 t4 t5
  simp [hasDb, hasNb, hasMb, within_one]
  all_goals grind
set_option maxHeartbeats 400000 in
theorem refI_eq11 (i : In) : refI 11 11 i = (sameI i (ownI 11 i) && regsI i && numI 11 i) := by
  obtain ⟨o, d, n, m, a, x, k, h, t, c⟩ := i
  have ht := hasR_tab ⟨11, by omega⟩
  simp only [Prod.mk.injEq] at ht
  obtain ⟨t1, t2, t3, t4, t5⟩ := ht
  have t1 : hasR 11 100 = hasDb 11 := t1
  have t2 : hasR 11 110 = hasNb 11 := t2
  have t3 : hasR 11 109 = hasMb 11 := t3
  have t4 : hasR 11 97 = (((11 : Nat) : Int) == 6) := t4
  have t5 : hasR 11 99 = ((((11 : Nat) : Int) == 12) || (((11 : Nat) : Int) == 16)) := t5
  rw [Bool.eq_iff_iff]
  unfold refI regR condR shiftR maskR immR amountR regsI numI sameI ownI pick
  rw [t1, t2, t3, t4, t5]
  clear t1 t2 t3 t4 t5
  simp [hasDb, hasNb, hasMb, within_one]
  all_goals grind
set_option maxHeartbeats 400000 in
theorem refI_eq12 (i : In) : refI 12 12 i = (sameI i (ownI 12 i) && regsI i && numI 12 i) := by
  obtain ⟨o, d, n, m, a, x, k, h, t, c⟩ := i
  have ht := hasR_tab ⟨12, by omega⟩
  simp only [Prod.mk.injEq] at ht
  obtain ⟨t1, t2, t3, t4, t5⟩ := ht
  have t1 : hasR 12 100 = hasDb 12 := t1
  have t2 : hasR 12 110 = hasNb 12 := t2
  have t3 : hasR 12 109 = hasMb 12 := t3
  have t4 : hasR 12 97 = (((12 : Nat) : Int) == 6) := t4
  have t5 : hasR 12 99 = ((((12 : Nat) : Int) == 12) || (((12 : Nat) : Int) == 16)) := t5
  rw [Bool.eq_iff_iff]
  unfold refI regR condR shiftR maskR immR amountR regsI numI sameI ownI pick
  rw [t1, t2, t3, t4, t5]
  clear t1 t2 t3 t4 t5
  simp [hasDb, hasNb, hasMb, within_one]
  all_goals grind
set_option maxHeartbeats 400000 in
theorem refI_eq13 (i : In) : refI 13 13 i = (sameI i (ownI 13 i) && regsI i && numI 13 i) := by
  obtain ⟨o, d, n, m, a, x, k, h, t, c⟩ := i
  have ht := hasR_tab ⟨13, by omega⟩
  simp only [Prod.mk.injEq] at ht
  obtain ⟨t1, t2, t3, t4, t5⟩ := ht
  have t1 : hasR 13 100 = hasDb 13 := t1
  have t2 : hasR 13 110 = hasNb 13 := t2
  have t3 : hasR 13 109 = hasMb 13 := t3
  have t4 : hasR 13 97 = (((13 : Nat) : Int) == 6) := t4
  have t5 : hasR 13 99 = ((((13 : Nat) : Int) == 12) || (((13 : Nat) : Int) == 16)) := t5
  rw [Bool.eq_iff_iff]
  unfold refI regR condR shiftR maskR immR amountR regsI numI sameI ownI pick
  rw [t1, t2, t3, t4, t5]
  clear t1 t2 t3 t4 t5
  simp [hasDb, hasNb, hasMb, within_one]
  all_goals grind
set_option maxHeartbeats 400000 in
theorem refI_eq14 (i : In) : refI 14 14 i = (sameI i (ownI 14 i) && regsI i && numI 14 i) := by
  obtain ⟨o, d, n, m, a, x, k, h, t, c⟩ := i
  have ht := hasR_tab ⟨14, by omega⟩
  simp only [Prod.mk.injEq] at ht
  obtain ⟨t1, t2, t3, t4, t5⟩ := ht
  have t1 : hasR 14 100 = hasDb 14 := t1
  have t2 : hasR 14 110 = hasNb 14 := t2
  have t3 : hasR 14 109 = hasMb 14 := t3
  have t4 : hasR 14 97 = (((14 : Nat) : Int) == 6) := t4
  have t5 : hasR 14 99 = ((((14 : Nat) : Int) == 12) || (((14 : Nat) : Int) == 16)) := t5
  rw [Bool.eq_iff_iff]
  unfold refI regR condR shiftR maskR immR amountR regsI numI sameI ownI pick
  rw [t1, t2, t3, t4, t5]
  clear t1 t2 t3 t4 t5
  simp [hasDb, hasNb, hasMb, within_one]
  all_goals grind
set_option maxHeartbeats 400000 in
theorem refI_eq15 (i : In) : refI 15 15 i = (sameI i (ownI 15 i) && regsI i && numI 15 i) := by
  obtain ⟨o, d, n, m, a, x, k, h, t, c⟩ := i
  have ht := hasR_tab ⟨15, by omega⟩
  simp only [Prod.mk.injEq] at ht
  obtain ⟨t1, t2, t3, t4, t5⟩ := ht
  have t1 : hasR 15 100 = hasDb 15 := t1
  have t2 : hasR 15 110 = hasNb 15 := t2
  have t3 : hasR 15 109 = hasMb 15 := t3
  have t4 : hasR 15 97 = (((15 : Nat) : Int) == 6) := t4
  have t5 : hasR 15 99 = ((((15 : Nat) : Int) == 12) || (((15 : Nat) : Int) == 16)) := t5
  rw [Bool.eq_iff_iff]
  unfold refI regR condR shiftR maskR immR amountR regsI numI sameI ownI pick
  rw [t1, t2, t3, t4, t5]
  clear t1 t2 t3 t4 t5
  simp [hasDb, hasNb, hasMb, within_one]
  all_goals grind
set_option maxHeartbeats 400000 in
theorem refI_eq16 (i : In) : refI 16 16 i = (sameI i (ownI 16 i) && regsI i && numI 16 i) := by
  obtain ⟨o, d, n, m, a, x, k, h, t, c⟩ := i
  have ht := hasR_tab ⟨16, by omega⟩
  simp only [Prod.mk.injEq] at ht
  obtain ⟨t1, t2, t3, t4, t5⟩ := ht
  have t1 : hasR 16 100 = hasDb 16 := t1
  have t2 : hasR 16 110 = hasNb 16 := t2
  have t3 : hasR 16 109 = hasMb 16 := t3
  have t4 : hasR 16 97 = (((16 : Nat) : Int) == 6) := t4
  have t5 : hasR 16 99 = ((((16 : Nat) : Int) == 12) || (((16 : Nat) : Int) == 16)) := t5
  rw [Bool.eq_iff_iff]
  unfold refI regR condR shiftR maskR immR amountR regsI numI sameI ownI pick
  rw [t1, t2, t3, t4, t5]
  clear t1 t2 t3 t4 t5
  simp [hasDb, hasNb, hasMb, within_one]
  all_goals grind

set_option maxRecDepth 100000 in
set_option maxHeartbeats 4000000 in
theorem RIs_no (i : In) (w : World) (s : Nat) (hs : s ≤ 16) (hsz : shapeI i.op = s) (h : s = 0 ∨ (1 ≤ s ∧ (regR s 100 i.d && regR s 110 i.n && regR s 109 i.m && regR s 97 i.a) = false)) :
    Calls Tryd.prog 13 #[inV i] w (RetB (.bool false) w) := by
  obtain ⟨o, d, n, m, a, x, k, hh, t, c⟩ := i
  simp only [] at hsz h
  have HSh : Hid (∀ w, Calls Tryd.prog 20 #[.int .i64 o] w (RetB (.int .i64 s) w)) := Lib.hid fun w => by have := RShape_any o w; rwa [hsz] at this
  have HD : Hid (∀ w, Calls Tryd.prog 32 #[.int .i64 s, .string ⟨#[100]⟩, .int .i64 d] w (RetB (.bool (regR s 100 d)) w)) := Lib.hid fun w => reg_any s hs 100 d w
  have HN : Hid (∀ w, Calls Tryd.prog 32 #[.int .i64 s, .string ⟨#[110]⟩, .int .i64 n] w (RetB (.bool (regR s 110 n)) w)) := Lib.hid fun w => reg_any s hs 110 n w
  have HM : Hid (∀ w, Calls Tryd.prog 32 #[.int .i64 s, .string ⟨#[109]⟩, .int .i64 m] w (RetB (.bool (regR s 109 m)) w)) := Lib.hid fun w => reg_any s hs 109 m w
  have HA : Hid (∀ w, Calls Tryd.prog 32 #[.int .i64 s, .string ⟨#[97]⟩, .int .i64 a] w (RetB (.bool (regR s 97 a)) w)) := Lib.hid fun w => reg_any s hs 97 a w
  generalize regR s 100 d = b1 at *
  generalize regR s 110 n = b2 at *
  generalize regR s 109 m = b3 at *
  generalize regR s 97 a = b4 at *
  have hten := Ten.made w ⟨o, d, n, m, a, x, k, hh, t, c⟩ 24
  obtain ⟨X, hX⟩ : ∃ X, X = w.heap.size := ⟨_, rfl⟩
  obtain ⟨W0, hW0⟩ : ∃ W0, W0 = w.alloc (.cells (inC ⟨o, d, n, m, a, x, k, hh, t, c⟩) 24) := ⟨_, rfl⟩
  have hXl : X < W0.heap.size := by rw [hX, hW0]; simp
  rw [← hW0, ← hX] at hten
  have HW : Hid (Below w.heap.size w W0) := Lib.hid (by rw [hW0]; exact (Below.refl _ w).alloc (Nat.le_refl _) _)
  have HT := Lib.hid hten
  have HB := Lib.hid (Below.refl W0.heap.size W0)
  have HEQ := Lib.hid hW0
  have HXQ := Lib.hid hX
  obtain ⟨a0, a1, a2, a3, a4, a5, a6, a7, a8, a9⟩ := hten
  clear hW0 hX hsz
  rcases h with rfl | ⟨h1, h⟩
  · go_enter Tryd.func13, Tryd.ntmps13
    go_wp2_with fail
    rw [← HEQ.out, ← HXQ.out]
    go_wp2_with (first | (go_at_call 20; ((with_reducible refine (HSh.out _).mono ?_); rintro e w' ⟨rfl, hb⟩; replace HB := Lib.hid (after HB.out hb); clear hb; clear a0 a1 a2 a3 a4 a5 a6 a7 a8 a9; obtain ⟨a0, a1, a2, a3, a4, a5, a6, a7, a8, a9⟩ := HT.out.below HB.out hXl)) | (go_at_call 32; ((with_reducible refine (HD.out _).mono ?_); rintro e w' ⟨rfl, hb⟩; replace HB := Lib.hid (after HB.out hb); clear hb; clear a0 a1 a2 a3 a4 a5 a6 a7 a8 a9; obtain ⟨a0, a1, a2, a3, a4, a5, a6, a7, a8, a9⟩ := HT.out.below HB.out hXl)) | (go_at_call 32; ((with_reducible refine (HN.out _).mono ?_); rintro e w' ⟨rfl, hb⟩; replace HB := Lib.hid (after HB.out hb); clear hb; clear a0 a1 a2 a3 a4 a5 a6 a7 a8 a9; obtain ⟨a0, a1, a2, a3, a4, a5, a6, a7, a8, a9⟩ := HT.out.below HB.out hXl)) | (go_at_call 32; ((with_reducible refine (HM.out _).mono ?_); rintro e w' ⟨rfl, hb⟩; replace HB := Lib.hid (after HB.out hb); clear hb; clear a0 a1 a2 a3 a4 a5 a6 a7 a8 a9; obtain ⟨a0, a1, a2, a3, a4, a5, a6, a7, a8, a9⟩ := HT.out.below HB.out hXl)) | (go_at_call 32; ((with_reducible refine (HA.out _).mono ?_); rintro e w' ⟨rfl, hb⟩; replace HB := Lib.hid (after HB.out hb); clear hb; clear a0 a1 a2 a3 a4 a5 a6 a7 a8 a9; obtain ⟨a0, a1, a2, a3, a4, a5, a6, a7, a8, a9⟩ := HT.out.below HB.out hXl)))
    go_ret
    exact retB_bool rfl (HW.out.trans (HB.out.mono HW.out.size))
  · have q0 : ((s : Int) == 0) = false := by rw [beq_eq_false_iff_ne]; omega
    cases b1 <;> cases b2 <;> cases b3 <;> cases b4 <;> first | (exfalso; simp at h; done) | skip
    all_goals
      clear h
      go_enter Tryd.func13, Tryd.ntmps13
      go_wp2_with fail
      rw [← HEQ.out, ← HXQ.out]
      go_wp2_with (first | (go_at_call 20; ((with_reducible refine (HSh.out _).mono ?_); rintro e w' ⟨rfl, hb⟩; replace HB := Lib.hid (after HB.out hb); clear hb; clear a0 a1 a2 a3 a4 a5 a6 a7 a8 a9; obtain ⟨a0, a1, a2, a3, a4, a5, a6, a7, a8, a9⟩ := HT.out.below HB.out hXl)) | (go_at_call 32; ((with_reducible refine (HD.out _).mono ?_); rintro e w' ⟨rfl, hb⟩; replace HB := Lib.hid (after HB.out hb); clear hb; clear a0 a1 a2 a3 a4 a5 a6 a7 a8 a9; obtain ⟨a0, a1, a2, a3, a4, a5, a6, a7, a8, a9⟩ := HT.out.below HB.out hXl)) | (go_at_call 32; ((with_reducible refine (HN.out _).mono ?_); rintro e w' ⟨rfl, hb⟩; replace HB := Lib.hid (after HB.out hb); clear hb; clear a0 a1 a2 a3 a4 a5 a6 a7 a8 a9; obtain ⟨a0, a1, a2, a3, a4, a5, a6, a7, a8, a9⟩ := HT.out.below HB.out hXl)) | (go_at_call 32; ((with_reducible refine (HM.out _).mono ?_); rintro e w' ⟨rfl, hb⟩; replace HB := Lib.hid (after HB.out hb); clear hb; clear a0 a1 a2 a3 a4 a5 a6 a7 a8 a9; obtain ⟨a0, a1, a2, a3, a4, a5, a6, a7, a8, a9⟩ := HT.out.below HB.out hXl)) | (go_at_call 32; ((with_reducible refine (HA.out _).mono ?_); rintro e w' ⟨rfl, hb⟩; replace HB := Lib.hid (after HB.out hb); clear hb; clear a0 a1 a2 a3 a4 a5 a6 a7 a8 a9; obtain ⟨a0, a1, a2, a3, a4, a5, a6, a7, a8, a9⟩ := HT.out.below HB.out hXl)))
      go_ret
      exact retB_bool rfl (HW.out.trans (HB.out.mono HW.out.size))
end Go.Proofs.YtjnmkelppjcofaaDoor
