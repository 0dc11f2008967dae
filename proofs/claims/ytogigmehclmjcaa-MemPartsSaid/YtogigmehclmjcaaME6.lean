/- mem: Store. -/
import Derived.Test.YtogigmehclmjcaaME5
namespace Go.Proofs.Ytogigmehclmjcaa
set_option linter.unusedVariables false
set_option linter.unusedSimpArgs false
open Go.ChangeShapes Go.WideShapes Go.Deep Go.RowKit

/-- A number's lowest k bytes laid over a row of bytes from F on. -/
def layB (bs : List UInt8) (F v : Nat) : Nat → List UInt8
  | 0 => bs
  | k + 1 => (layB bs F v k).set (F + k) (UInt8.ofNat (v / 256 ^ k))
theorem layB_len (bs : List UInt8) (F v k : Nat) : (layB bs F v k).length = bs.length := by
  induction k with
  | zero => rfl
  | succ k ih => rw [layB, List.length_set, ih]
theorem layB_get (bs : List UInt8) (F v k j : Nat) (hj : j < bs.length) : (layB bs F v k)[j]? = if F ≤ j ∧ j < F + k then some (UInt8.ofNat (v / 256 ^ (j - F))) else bs[j]? := by
  induction k with
  | zero => rw [if_neg (by omega)]; rfl
  | succ k ih =>
    rw [layB, List.getElem?_set]
    by_cases h : F + k = j
    · subst h
      rw [if_pos rfl, if_pos (by rw [layB_len]; exact hj), if_pos (by omega), Nat.add_sub_cancel_left]
    · rw [if_neg h, ih]
      by_cases h2 : F ≤ j ∧ j < F + k
      · rw [if_pos h2, if_pos (by omega)]
      · rw [if_neg h2, if_neg (by omega)]
def putB (b : Ar) (x n v : Nat) : Ar := { b with bs := layB b.bs (x - b.pos) v n }
def putA (l : List Ar) (x n v : Nat) : List Ar := l.map fun b => if hit x n b = true then putB b x n v else b
def storeE (l : List Ar) (x : Nat) (n : Int) : Int :=
  if n ≠ 1 ∧ n ≠ 8 then 1 else match findA l x n.toNat with
    | none => 4
    | some a => if a.kind ≠ 3 then 10 else 0
def storeA (l : List Ar) (x : Nat) (n : Int) (v : Nat) : List Ar := if storeE l x n = 0 then putA l x n.toNat v else l
/-- Of regions that stand apart one alone has the place. -/
theorem hit_one {l : List Ar} (ha : Apart l) {x n : Nat} (hn : 1 ≤ n) {a b : Ar} (h1 : a ∈ l) (h2 : b ∈ l) (k1 : hit x n a = true) (k2 : hit x n b = true) : a = b := by
  obtain ⟨i, hi, rfl⟩ := List.getElem_of_mem h1
  obtain ⟨j, hj, rfl⟩ := List.getElem_of_mem h2
  unfold hit at k1 k2
  simp only [Bool.and_eq_true, decide_eq_true_eq] at k1 k2
  rcases Nat.lt_trichotomy i j with h | h | h
  · have := ha i j hi hj h; omega
  · subst h; rfl
  · have := ha j i hj hi h; omega
theorem putB_blk (b : Ar) (x n v : Nat) : (putB b x n v).blk = b.blk := rfl
theorem putA_blk (l : List Ar) (x n v : Nat) : (putA l x n v).map Ar.blk = l.map Ar.blk := by
  unfold putA
  rw [List.map_map]
  refine List.map_congr_left fun b _ => ?_
  simp only [Function.comp]
  by_cases h : hit x n b = true
  · rw [if_pos h]; rfl
  · rw [if_neg h]
theorem arC_put (b : Ar) (x n v : Nat) : arC (putB b x n v) = arC b := by
  unfold arC putB
  simp only [layB_len]
theorem putA_arC (l : List Ar) (x n v : Nat) : (putA l x n v).flatMap arC = l.flatMap arC := by
  unfold putA
  rw [List.flatMap_map]
  congr 1
  funext b
  by_cases h : hit x n b = true
  · rw [if_pos h, arC_put]
  · rw [if_neg h]
/-- What a store leaves. -/
theorem MS.put {w w' : World} {base p : Nat} {l : List Ar} (h : MS w base p l) (ha : Apart l) {x n v : Nat} (hn : 1 ≤ n) {a : Ar} (hf : findA l x n = some a)
    (hb : w'.heap[a.blk]? = some (.cells (Lib.byteCells (layB a.bs (x - a.pos) v n)).toArray 5 (0, 0))) (ho : ∀ j, j ≠ a.blk → w'.heap[j]? = w.heap[j]?) : MS w' base p (putA l x n v) := by
  obtain ⟨u, h1, h2, h3, h4, h5⟩ := h
  obtain ⟨f1, f2, f3⟩ := find_mem hf
  have hha : hit x n a = true := by unfold hit; simp [f2, f3]
  obtain ⟨-, hab⟩ := h4 a f1
  have hne : ∀ (k : Nat) (cs : Array Value) (T : TypeId), T ≠ 5 → w.heap[k]? = some (.cells cs T (0, 0)) → w'.heap[k]? = some (.cells cs T (0, 0)) := by
    intro k cs T hT hk
    rw [ho k (fun e => by rw [e, hab] at hk; simp at hk; exact hT hk.2.symm)]; exact hk
  refine ⟨u, hne p _ _ (by decide) h1, h2, ?_, fun b hbm => ?_, by rw [putA_blk]; exact h5⟩
  · rw [putA_arC, show (putA l x n v).length = l.length from List.length_map ..]
    obtain ⟨g1, g2⟩ := h3
    refine ⟨g1, ?_⟩
    rcases g2 with g2 | ⟨g, cap, cur, e1, e2, e3, e4⟩
    · exact .inl g2
    · exact .inr ⟨g, cap, cur, e1, e2, hne g _ _ (by decide) e3, e4⟩
  · obtain ⟨c, hc, rfl⟩ := List.mem_map.1 hbm
    obtain ⟨q1, q2⟩ := h4 c hc
    by_cases hh : hit x n c = true
    · obtain rfl := hit_one ha hn hc f1 hh hha
      rw [if_pos hh]
      exact ⟨q1, hb⟩
    · rw [if_neg hh]
      refine ⟨q1, (ho _ (fun e => hh ?_)).trans q2⟩
      obtain ⟨i, hi, hi2⟩ := List.getElem_of_mem hc
      obtain ⟨j, hj, hj2⟩ := List.getElem_of_mem f1
      have : i = j := by
        have e' : (l.map Ar.blk)[i]'(by simpa using hi) = (l.map Ar.blk)[j]'(by simpa using hj) := by simp [hi2, hj2, e]
        have hp := List.pairwise_iff_getElem.1 h5
        rcases Nat.lt_trichotomy i j with h | h | h
        · exact absurd e' (hp i j _ _ h)
        · exact h
        · exact absurd e'.symm (hp j i _ _ h)
      subst this
      rw [← hi2, hj2]; exact hha
def StoreP (l : List Ar) (base p x : Nat) (n : Int) (v : Nat) (w : World) (e : Ending) (w' : World) : Prop := e = .returned (.int .i64 (storeE l x n)) ∧ MS w' base p (storeA l x n v) ∧ Below base w w'
theorem layB_cell {cs : List UInt8} {w : World} {X k : Nat} {b : UInt8} (h : w.heap[X]? = some (.cells (Lib.byteCells cs).toArray 5 (0, 0))) : (w.setCell ⟨X, k, none⟩ (.int .u8 (b.toNat : Int))).heap[X]? = some (.cells (Lib.byteCells (cs.set k b)).toArray 5 (0, 0)) := by
  unfold World.setCell
  simp only [Array.getElem?_modify, h, if_true, Option.map_some]
  congr 2
  unfold Lib.byteCells
  rw [List.map_set]
  simp
theorem byte_shift (v k : Nat) : ((v : Int) / 2 ^ (8 * k) % 256) = ((UInt8.ofNat (v / 256 ^ k)).toNat : Int) := by
  rw [UInt8.toNat_ofNat', pow256, ← pow_cast]
  omega
set_option maxRecDepth 100000 in
set_option maxHeartbeats 2000000 in
theorem Store_ok {w : World} {base p : Nat} {l : List Ar} (h : MS w base p l) (hg : Good l) (x m v : Nat) (hx : x < 18446744073709551616) (hv : v < 18446744073709551616) (hm : m = 1 ∨ m = 8) {a : Ar} (hf : findA l x m = some a) (hk : a.kind = 3) :
    Calls Try.prog 10 #[.pointer (some ⟨p, 0, none⟩), .int .u64 x, .int .i64 m, .int .u64 v] w fun e w' => e = .returned (.int .i64 0) ∧ MS w' base p (putA l x m v) ∧ Below base w w' := by
  have hF := find_any h hg.1 hg.2.1 x m hx (by omega) (by omega) hg.2.2
  rw [hf] at hF
  obtain ⟨f1, f2, f3⟩ := find_mem hf
  have HM := Lib.hid h
  have HG := Lib.hid hg
  have HFF := Lib.hid hf
  have HAB := Lib.hid ((show ∀ a ∈ l, AB w base a from by obtain ⟨-, -, -, -, h4, -⟩ := h; exact h4) a f1)
  have HPB : Hid (base ≤ w.heap.size) := Lib.hid (by have := HAB.out; exact Nat.le_trans this.1 (Nat.le_of_lt (lt_of_block this.2)))
  obtain ⟨P, K, X, S⟩ := a
  unfold foundV at hF
  simp only [] at hF hk f2 f3
  subst hk
  have HF := Lib.hid hF
  have hin : x - P + m ≤ S.length := by omega
  obtain ⟨F, hFe⟩ : ∃ F, F = x - P := ⟨_, rfl⟩
  rw [← hFe] at HF hin
  have HFE := Lib.hid hFe
  generalize S.length - F = C at *
  clear h hg hF hf f1 f2 f3 hFe
  have hm8 : m ≤ 8 := by omega
  have qs : (((m : Int) != 1) = false ∨ ((m : Int) != 1) = true ∧ ((m : Int) != 8) = false) := by rcases hm with rfl | rfl; exact .inl rfl; exact .inr ⟨rfl, rfl⟩
  have hm1 : 1 ≤ m := by omega
  clear hm
  rcases qs with qs | ⟨qs, qt⟩
  all_goals
    go_enter Try.func10, Try.ntmps10
    go_wp2_with fail
    refine HF.out.mono ?_
    rintro e w1 ⟨rfl, hb⟩
    have HB := Lib.hid (hb.mono HPB.out)
    have hX := (hb.block X (lt_of_block HAB.out.2)).trans HAB.out.2
    have HX := Lib.hid hX
    have HB1 := Lib.hid hb
    clear hb hX
    go_wp2
    go_loopw [37] (fun i wr => ∃ k : Nat, k ≤ m ∧ i = .int .i64 k ∧ wr.heap[X]? = some (.cells (Lib.byteCells (layB S F v k)).toArray 5 (0, 0)) ∧ Hid (∀ j, j ≠ X → wr.heap[j]? = w1.heap[j]?) ∧ Below base w wr) (fun i _ => m - (intOf i).toNat)
    case atStart => exact ⟨0, by omega, rfl, HX.out, Lib.hid (fun j _ => rfl), HB.out⟩
    case round =>
      obtain ⟨k, hk, rfl, h1, h2, h3⟩ := hrel
      have HC := Lib.hid h1
      replace HB := Lib.hid h3
      by_cases hlt : k < m
      · have hkl : F + k < S.length := by omega
        have c0 : wr.cell? ⟨X, F + k, none⟩ = some (Lib.byteCells (layB S F v k))[F + k]! := by
          rw [World.cell?, h1]
          have : F + k < (Lib.byteCells (layB S F v k)).length := by rw [Lib.byteCells_length, layB_len]; exact hkl
          simp [this]
        have c1 : wr.frozen? ⟨X, F + k, none⟩ = false := by rw [World.frozen?, h1]; rfl
        generalize (Lib.byteCells (layB S F v k))[F + k]! = od at *
        clear h1 h3
        go_wp2
        go_roundw
        case rel =>
          rw [byte_shift]
          refine ⟨k + 1, by omega, by go_num, layB_cell HC.out, Lib.hid (fun j hj => ?_), HB.out.setCell HAB.out.1 _⟩
          rw [Below.heap_setCell _ _ _ _ (fun e => hj e)]
          exact h2.out j hj
        case measure => simp [intOf]; omega
      · obtain rfl : k = m := by omega
        clear h1 h3
        go_wp2
        go_ret
        refine ⟨rfl, MS.put (HM.out.below HB1.out) HG.out.1 hm1 HFF.out (by rw [← HFE.out]; exact HC.out) h2.out, HB.out⟩
theorem MS.base {w : World} {base p : Nat} {l : List Ar} (h : MS w base p l) : base ≤ w.heap.size := by
  obtain ⟨v, h1, h2, -⟩ := h
  have := lt_of_block h1; omega
set_option maxRecDepth 100000 in
set_option maxHeartbeats 2000000 in
theorem Store_any {w : World} {base p : Nat} {l : List Ar} (h : MS w base p l) (hg : Good l) (x : Nat) (n : Int) (v : Nat) (hx : x < 18446744073709551616) (hv : v < 18446744073709551616) :
    Calls Try.prog 10 #[.pointer (some ⟨p, 0, none⟩), .int .u64 x, .int .i64 n, .int .u64 v] w (StoreP l base p x n v w) := by
  have hbase := h.base
  by_cases hn : n ≠ 1 ∧ n ≠ 8
  · have he : storeE l x n = 1 := by unfold storeE; rw [if_pos hn]
    have hs : storeA l x n v = l := by unfold storeA; rw [he]; rfl
    unfold StoreP
    rw [he, hs]
    have HM := Lib.hid h
    have n1 : (n != 1) = true := by rw [bne_iff_ne]; exact hn.1
    have n8 : (n != 8) = true := by rw [bne_iff_ne]; exact hn.2
    clear h hg hn he hs
    go_enter Try.func10, Try.ntmps10
    go_wp2
    go_ret
    exact ⟨rfl, HM.out, Below.refl _ _⟩
  · have hn' : n = 1 ∨ n = 8 := by omega
    obtain ⟨m, rfl⟩ : ∃ m : Nat, n = m := ⟨n.toNat, by omega⟩
    have hm : m = 1 ∨ m = 8 := by omega
    have hF := find_any h hg.1 hg.2.1 x m hx (by omega) (by omega) hg.2.2
    have qs : (((m : Int) != 1) = false ∨ ((m : Int) != 1) = true ∧ ((m : Int) != 8) = false) := by rcases hm with rfl | rfl; exact .inl rfl; exact .inr ⟨rfl, rfl⟩
    cases hf : findA l x m with
    | none =>
      have he : storeE l x m = 4 := by unfold storeE; rw [if_neg hn, Int.toNat_natCast, hf]
      have hs : storeA l x m v = l := by unfold storeA; rw [he]; rfl
      unfold StoreP
      rw [he, hs]
      rw [hf] at hF
      unfold foundV at hF
      have HF := Lib.hid hF
      have HM := Lib.hid h
      have HPB := Lib.hid hbase
      have hm8 : m ≤ 8 := by omega
      clear h hg hn he hs hf hm hn' hF hbase
      rcases qs with qs | ⟨qs, qt⟩
      all_goals
        go_enter Try.func10, Try.ntmps10
        go_wp2_with fail
        refine HF.out.mono ?_
        rintro e w1 ⟨rfl, hb⟩
        have HB := Lib.hid (hb.mono HPB.out)
        replace HM := Lib.hid (HM.out.below hb)
        clear hb
        go_wp2
        go_ret
        exact ⟨rfl, HM.out, HB.out⟩
    | some a =>
      by_cases hk : a.kind = 3
      · have he : storeE l x m = 0 := by unfold storeE; rw [if_neg hn, Int.toNat_natCast, hf]; simp only []; rw [if_neg (by rw [hk]; simp)]
        have hs : storeA l x m v = putA l x m v := by unfold storeA; rw [he, if_pos rfl, Int.toNat_natCast]
        unfold StoreP
        rw [he, hs]
        exact Store_ok h hg x m v hx hv hm hf hk
      · have he : storeE l x m = 10 := by unfold storeE; rw [if_neg hn, Int.toNat_natCast, hf]; simp only []; rw [if_pos hk]
        have hs : storeA l x m v = l := by unfold storeA; rw [he]; rfl
        unfold StoreP
        rw [he, hs]
        rw [hf] at hF
        obtain ⟨P, K, X, S⟩ := a
        unfold foundV at hF
        simp only [] at hF hk
        have HF := Lib.hid hF
        have HM := Lib.hid h
        have HPB := Lib.hid hbase
        have hm8 : m ≤ 8 := by omega
        have k3 : (K != 3) = true := by rw [bne_iff_ne]; exact hk
        generalize x - P = F at *
        generalize S.length - F = C at *
        clear h hg hn he hs hf hm hn' hF hbase hk
        rcases qs with qs | ⟨qs, qt⟩
        all_goals
          go_enter Try.func10, Try.ntmps10
          go_wp2_with fail
          refine HF.out.mono ?_
          rintro e w1 ⟨rfl, hb⟩
          have HB := Lib.hid (hb.mono HPB.out)
          replace HM := Lib.hid (HM.out.below hb)
          clear hb
          go_wp2
          go_ret
          exact ⟨rfl, HM.out, HB.out⟩
end Go.Proofs.Ytogigmehclmjcaa
