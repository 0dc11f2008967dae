/- mem: the search, find. -/
import Derived.Test.YtogigmehclmjcaaME1
namespace Go.Proofs.Ytogigmehclmjcaa
set_option linter.unusedVariables false
set_option linter.unusedSimpArgs false
open Go.ChangeShapes Go.WideShapes Go.Deep Go.RowKit

theorem sl_ar {w : World} {B : Nat} {a : Option Addr} {n : Nat} {l : List Ar} (h : SL arC 3 w B a n l) {k : Nat} (hk : k < n) (hl : k < l.length) :
    ∃ b off, a = some ⟨b, off, none⟩ ∧ b < B ∧ w.cell? ⟨b, off + k * 3, none⟩ = some (.int .u64 l[k].pos) ∧ w.cell? ⟨b, off + k * 3 + 1, none⟩ = some (.int .i64 l[k].kind) ∧ w.cell? ⟨b, off + k * 3 + 2, none⟩ = some (.slice (some ⟨l[k].blk, 0, none⟩) l[k].bs.length l[k].bs.length) := by
  obtain ⟨b, off, e, h1, h2⟩ := h.cells (h.ne hk)
  refine ⟨b, off, e, h1, ?_, ?_, ?_⟩
  · exact h2 k hl 0 (by omega)
  · exact h2 k hl 1 (by omega)
  · exact h2 k hl 2 (by omega)
/-- Where what lies behind a place begins. -/
def Cnt (l : List Ar) (x c : Nat) : Prop := c ≤ l.length ∧ (∀ (k : Nat) (h : k < l.length), k < c → l[k].pos ≤ x) ∧ (∀ (k : Nat) (h : k < l.length), c ≤ k → x < l[k].pos)
def Rises (l : List Ar) : Prop := ∀ (i j : Nat) (hi : i < l.length) (hj : j < l.length), i ≤ j → l[i].pos ≤ l[j].pos
def SearchP (l : List Ar) (x : Nat) (w : World) (e : Ending) (w' : World) : Prop := ∃ c : Nat, e = .returned (.tuple #[.int .i64 c, .bool false]) ∧ Cnt l x c ∧ Below w.heap.size w w'
theorem half_i64 (i j : Nat) (h : i + j < 9223372036854775808) : IntKind.u64.wrap (((i : Int) + j)) = ((i + j : Nat) : Int) := by
  rw [IntKind.wrap_u64, Int.emod_eq_of_lt (by omega) (by omega)]; omega
set_option maxRecDepth 100000 in
set_option maxHeartbeats 2000000 in
theorem search_any (a : Option Addr) (n c : Nat) (l : List Ar) (x : Nat) (w : World) (hl : SL arC 3 w w.heap.size a n l) (hn : n ≤ 1000) (hs : Rises l) :
    Calls Try.prog 22 #[.slice a n c, .int .u64 x, .func (.func 23) #[] #[]] w (SearchP l x w) := by
  have hln := hl.len
  have HL := Lib.hid hl
  have HLN := Lib.hid hln
  have HS := Lib.hid hs
  have HB := Lib.hid (Below.refl w.heap.size w)
  clear hl hln hs
  go_enter Try.func22, Try.ntmps22
  go_wp2
  go_loopw [9, 10] (fun i j wr => ∃ I J : Nat, I ≤ J ∧ J ≤ n ∧ i = .int .i64 I ∧ j = .int .i64 J ∧ Hid (∀ (k : Nat) (h : k < l.length), k < I → l[k].pos ≤ x) ∧ Hid (∀ (k : Nat) (h : k < l.length), J ≤ k → x < l[k].pos) ∧ Below w.heap.size w wr) (fun i j _ => (intOf j).toNat - (intOf i).toNat)
  case atStart => exact ⟨0, n, by omega, by omega, rfl, rfl, Lib.hid (fun k h hk => by omega), Lib.hid (fun k h hk => by rw [← HLN.out] at h; omega), HB.out⟩
  case round =>
    obtain ⟨I, J, hIJ, hJ, rfl, rfl, H1, H2, hb⟩ := hrel
    replace HB := Lib.hid hb
    clear hb
    by_cases hlt : I < J
    · obtain ⟨H, hH⟩ : ∃ H, H = (I + J) / 2 := ⟨_, rfl⟩
      have hH1 : I ≤ H := by omega
      have hH2 : H < J := by omega
      have hkl : H < l.length := by rw [← HLN.out]; omega
      obtain ⟨b, off, rfl, hbB, c0, c1, c2⟩ := sl_ar (HL.out.below HB.out) (show H < n by omega) hkl
      have HBe := Lib.hid (behind_any l[H] x)
      have hle : l[H].pos ≤ x ∨ x < l[H].pos := by omega
      have HQ : Hid (∀ k, k ≤ H → ∀ (h : k < l.length), l[k].pos ≤ l[H].pos) := Lib.hid (fun k hk h => HS.out k H h hkl hk)
      have HQ2 : Hid (∀ k, H ≤ k → ∀ (h : k < l.length), l[H].pos ≤ l[k].pos) := Lib.hid (fun k hk h => HS.out H k hkl h hk)
      generalize l[H] = A at *
      obtain ⟨P, K, X, S⟩ := A
      unfold arV at HBe
      simp only [] at c0 c1 c2 hle HBe
      clear hkl
      subst hH
      rcases hle with hle | hle
      · rw [if_pos hle] at HBe
        go_wp2_with (go_at_call 23; ((with_reducible refine (HBe.out _).mono ?_); rintro e w' ⟨rfl, hb⟩; replace HB := Lib.hid (after HB.out hb); clear hb))
        go_roundw
        case rel => exact ⟨(I + J) / 2 + 1, J, by omega, hJ, by go_num, rfl, Lib.hid (fun k h hk => Nat.le_trans (HQ.out k (by omega) h) hle), H2, HB.out⟩
        case measure => simp [intOf]; omega
      · rw [if_neg (by omega)] at HBe
        go_wp2_with (go_at_call 23; ((with_reducible refine (HBe.out _).mono ?_); rintro e w' ⟨rfl, hb⟩; replace HB := Lib.hid (after HB.out hb); clear hb))
        go_roundw
        case rel => exact ⟨I, (I + J) / 2, by omega, by omega, rfl, by go_num, H1, Lib.hid (fun k h hk => Nat.lt_of_lt_of_le hle (HQ2.out k hk h)), HB.out⟩
        case measure => simp [intOf]; omega
    · obtain rfl : I = J := by omega
      by_cases hin : I < n
      · have hkl : I < l.length := by rw [← HLN.out]; omega
        obtain ⟨b, off, rfl, hbB, c0, c1, c2⟩ := sl_ar (HL.out.below HB.out) hin hkl
        have HBe := Lib.hid (behind_any l[I] x)
        have hle := H2.out I hkl (Nat.le_refl _)
        have HC : Hid (Cnt l x I) := Lib.hid ⟨Nat.le_of_lt hkl, H1.out, H2.out⟩
        generalize l[I] = A at *
        obtain ⟨P, K, X, S⟩ := A
        unfold arV at HBe
        simp only [] at c0 c1 c2 hle HBe
        clear hkl
        rw [if_neg (by omega)] at HBe
        go_wp2_with (go_at_call 23; ((with_reducible refine (HBe.out _).mono ?_); rintro e w' ⟨rfl, hb⟩; replace HB := Lib.hid (after HB.out hb); clear hb))
        go_ret2
        exact ⟨I, rfl, HC.out, HB.out⟩
      · have HC : Hid (Cnt l x I) := Lib.hid ⟨by rw [← HLN.out]; omega, H1.out, H2.out⟩
        go_wp2
        go_ret2
        exact ⟨I, rfl, HC.out, HB.out⟩
end Go.Proofs.Ytogigmehclmjcaa
