/- mem: what a memory holds; byPlace, the closure of find, number. -/
import Derived.Test.YtogigmehclmjcaaS2
import Derived.Test.YtogigmehclmjcaaHB
import Derived.Test.YtogigmehclmjcaaL
import Derived.Laws.MakeOwn
import Derived.Lib.BufferWrite
import Derived.Deep.RegionHeld3
import Derived.Deep.AppendLies
import Derived.Deep.QuietTactic
import Derived.BigQuiet
import Derived.StillTactics
import Derived.OwnWalk
import Derived.Laws.Pointers
import Derived.Sort.Grow
namespace Go.Proofs.Ytogigmehclmjcaa
set_option linter.unusedVariables false
set_option linter.unusedSimpArgs false
open Go.ChangeShapes Go.WideShapes Go.Deep Go.RowKit

theorem lt_of_block {w : World} {k : Nat} {o : Obj} (h : w.heap[k]? = some o) : k < w.heap.size := (Array.getElem?_eq_some_iff.1 h).1
theorem owns_below {w w' : World} {base : Nat} {e : TypeId} {sz : Nat} {v : Value} {n : Nat} {xs : List Value} (h : w.ownsRow base e sz v n xs) (hb : Below w.heap.size w w') : w'.ownsRow base e sz v n xs := by
  obtain ⟨h1, h2⟩ := h
  refine ⟨h1, ?_⟩
  rcases h2 with h2 | ⟨g, cap, cur, e1, e2, e3, e4⟩
  · exact .inl h2
  · exact .inr ⟨g, cap, cur, e1, e2, (hb.block g (lt_of_block e3)).trans e3, e4⟩
theorem owns_cells {w : World} {base : Nat} {e : TypeId} {sz : Nat} {v : Value} {n : Nat} {xs : List Value} (h : w.ownsRow base e sz v n xs) (hn : 0 < n) :
    ∃ g cap, v = .slice (some ⟨g, 0, none⟩) n cap ∧ base ≤ g ∧ g < w.heap.size ∧ ∀ j, j < n * sz → w.cell? ⟨g, j, none⟩ = xs[j]? := by
  rcases h.2 with ⟨-, h0⟩ | ⟨g, cap, cur, rfl, hb, hg, -⟩
  · omega
  · exact ⟨g, cap, rfl, hb, lt_of_block hg, fun j hj => h.cellAt j hj⟩
/-- A region in the program's memory: from where, of what kind, where its bytes lie, and they. -/
structure Ar where
  pos : Nat
  kind : Int
  blk : Nat
  bs : List UInt8
deriving Inhabited
def arC (a : Ar) : List Value := [.int .u64 a.pos, .int .i64 a.kind, .slice (some ⟨a.blk, 0, none⟩) a.bs.length a.bs.length]
def arV (a : Ar) : Value := .agg #[.int .u64 a.pos, .int .i64 a.kind, .slice (some ⟨a.blk, 0, none⟩) a.bs.length a.bs.length]
theorem arC_len (a : Ar) : (arC a).length = 3 := rfl
def GoodA (a : Ar) : Prop := a.pos ≤ 4611686018427387904 ∧ 0 < a.bs.length ∧ a.bs.length ≤ 65536
/-- A region's bytes lie in a block of their own. -/
def AB (w : World) (base : Nat) (a : Ar) : Prop := base ≤ a.blk ∧ w.heap[a.blk]? = some (.cells (Lib.byteCells a.bs).toArray 5 (0, 0))
/-- The memory at block p. -/
def MS (w : World) (base p : Nat) (l : List Ar) : Prop :=
  ∃ v, w.heap[p]? = some (.cells #[v] 46 (0, 0)) ∧ base ≤ p ∧ w.ownsRow base 51 3 v l.length (l.flatMap arC) ∧ (∀ a ∈ l, AB w base a) ∧ (l.map Ar.blk).Nodup
theorem MS.below {w w' : World} {base p : Nat} {l : List Ar} (h : MS w base p l) (hb : Below w.heap.size w w') : MS w' base p l := by
  obtain ⟨v, h1, h2, h3, h4, h5⟩ := h
  refine ⟨v, (hb.block p (lt_of_block h1)).trans h1, h2, owns_below h3 hb, fun a ha => ?_, h5⟩
  obtain ⟨k1, k2⟩ := h4 a ha
  exact ⟨k1, (hb.block _ (lt_of_block k2)).trans k2⟩
theorem ar_cells {w : World} {base p : Nat} {l : List Ar} (h : MS w base p l) {k : Nat} (hk : k < l.length) :
    ∃ g cap, w.cell? ⟨p, 0, none⟩ = some (.slice (some ⟨g, 0, none⟩) l.length cap) ∧ g < w.heap.size ∧ w.cell? ⟨g, k * 3, none⟩ = some (.int .u64 l[k].pos) ∧ w.cell? ⟨g, k * 3 + 1, none⟩ = some (.int .i64 l[k].kind) ∧ w.cell? ⟨g, k * 3 + 2, none⟩ = some (.slice (some ⟨l[k].blk, 0, none⟩) l[k].bs.length l[k].bs.length) := by
  obtain ⟨v, h1, h2, h3, -⟩ := h
  obtain ⟨g, cap, rfl, -, hg, hc⟩ := owns_cells h3 (by omega)
  refine ⟨g, cap, by rw [World.cell?, h1]; rfl, hg, ?_, ?_, ?_⟩
  · rw [hc _ (by omega)]; exact flat_get arC_len l k hk 0 (by omega)
  · rw [hc _ (by omega)]; exact flat_get arC_len l k hk 1 (by omega)
  · rw [hc _ (by omega)]; exact flat_get arC_len l k hk 2 (by omega)

def cmpA (a b : Ar) : Int := if a.pos < b.pos then -1 else if b.pos < a.pos then 1 else 0
set_option maxRecDepth 100000 in
set_option maxHeartbeats 1000000 in
theorem byPlace_any (a b : Ar) (w : World) : Calls Try.prog 16 #[arV a, arV b] w fun e w' => e = .returned (.int .i64 (cmpA a b)) ∧ ∃ os, w' = Go.Sort.grow w os := by
  obtain ⟨p, k, x, s⟩ := a
  obtain ⟨p', k', x', s'⟩ := b
  unfold arV cmpA
  simp only []
  by_cases h1 : p < p'
  · go_enter Try.func16, Try.ntmps16
    go_wp2
    go_ret
    exact ⟨by simp [h1], _, by rw [Go.Sort.alloc_eq_grow, Go.Sort.alloc_eq_grow, Go.Sort.grow_grow]⟩
  · by_cases h2 : p' < p
    · go_enter Try.func16, Try.ntmps16
      go_wp2
      go_ret
      exact ⟨by simp [h1, h2], _, by rw [Go.Sort.alloc_eq_grow, Go.Sort.alloc_eq_grow, Go.Sort.grow_grow]⟩
    · go_enter Try.func16, Try.ntmps16
      go_wp2
      go_ret
      exact ⟨by simp [h1, h2], _, by rw [Go.Sort.alloc_eq_grow, Go.Sort.alloc_eq_grow, Go.Sort.grow_grow]⟩
set_option maxRecDepth 100000 in
set_option maxHeartbeats 1000000 in
theorem behind_any (a : Ar) (x : Nat) (w : World) : Calls Try.prog 23 #[arV a, .int .u64 x] w (RetB (.int .i64 (if a.pos ≤ x then -1 else 1)) w) := by
  obtain ⟨p, k, b, s⟩ := a
  unfold arV
  simp only []
  by_cases h1 : p ≤ x
  · go_enter Try.func23, Try.ntmps23
    go_wp2
    go_ret
    exact ⟨by simp [h1], (Below.refl _ _).alloc (Nat.le_refl _) _⟩
  · go_enter Try.func23, Try.ntmps23
    go_wp2
    go_ret
    exact ⟨by simp [h1], (Below.refl _ _).alloc (Nat.le_refl _) _⟩
/-- Bytes that lie in a row, from a place in it on. -/
def ByAt (w : World) (b o : Nat) (l : List UInt8) : Prop := ∀ (k : Nat) (h : k < l.length), w.cell? ⟨b, o + k, none⟩ = some (.int .u8 (l[k].toNat : Int))
set_option maxRecDepth 100000 in
set_option maxHeartbeats 1000000 in
theorem number_of (b o cap : Nat) (l : List UInt8) (w : World) (h : ByAt w b o l) (hs : l.length ≤ 8) : Calls Try.prog 18 #[.slice (some ⟨b, o, none⟩) l.length cap] w (Ret (.int .u64 ((leV l : Nat) : Int)) w) := by
  have HC := Lib.hid h
  obtain ⟨n, hn⟩ : ∃ n, n = l.length := ⟨_, rfl⟩
  rw [← hn] at hs ⊢
  have HN := Lib.hid hn
  clear hn h
  go_enter Try.func18, Try.ntmps18
  go_wp2
  go_loop [3, 8] (fun v i => ∃ k : Nat, k ≤ n ∧ i = .int .i64 k ∧ v = .int .u64 ((leV (l.take k) : Nat) : Int)) (fun _ i => n - (intOf i).toNat)
  case atStart => exact ⟨0, by omega, rfl, rfl⟩
  case round =>
    obtain ⟨k, hk, rfl, rfl⟩ := hrel
    have hl : (l.take k).length = k := by rw [List.length_take]; have := HN.out; omega
    by_cases hlt : k < n
    · have hkl : k < l.length := by rw [← HN.out]; exact hlt
      have hu := leV_lt (l.take k)
      rw [hl] at hu
      have HS : Hid (leV (l.take (k + 1)) = leV (l.take k) + l[k].toNat * 256 ^ k) := Lib.hid (by rw [List.take_succ_eq_append_getElem hkl, leV_snoc, hl])
      have HO := Lib.hid (or_byte (leV (l.take k)) l[k].toNat k hu l[k].toNat_lt (by omega))
      have c0 := HC.out k hkl
      generalize leV (l.take k) = u at *
      generalize l[k] = by8 at *
      clear hl hu hkl
      go_wp2
      go_round
      case rel => exact ⟨k + 1, by omega, by go_num, by rw [fwrap_byte, HS.out, ← HO.out]⟩
      case measure => simp [intOf]; omega
    · have HE : Hid (l.take k = l) := Lib.hid (List.take_of_length_le (by have := HN.out; omega))
      clear hl
      go_wp2
      go_ret
      exact ret_int (by rw [HE.out])
end Go.Proofs.Ytogigmehclmjcaa
