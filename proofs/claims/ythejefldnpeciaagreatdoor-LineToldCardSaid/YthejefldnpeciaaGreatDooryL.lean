/- line: newBook. -/
import Derived.Test.YthejefldnpeciaaGreatDooryK
import Derived.Test.YthejefldnpeciaaGreatDooryC
import Derived.Test.YthejefldnpeciaaGreatDoorWT
namespace Go.Proofs.YthejefldnpeciaaGreatDoor
set_option linter.unusedVariables false
set_option linter.unusedSimpArgs false
open Go.ChangeShapes Go.WideShapes Go.Deep Go.RowKit

def bookA : List (List UInt8 × List Fm) := [([108, 100, 114], [⟨[114, 109], 22, 8⟩, ⟨[114, 115], 26, 4⟩, ⟨[114, 61], 26, 10⟩, ⟨[114, 110], 26, 0⟩]), ([115, 116, 114], [⟨[114, 109], 23, 8⟩]), ([108, 100, 114, 98], [⟨[114, 109], 24, 9⟩]), ([115, 116, 114, 98], [⟨[114, 109], 25, 9⟩]), ([97, 100, 114], [⟨[114, 115], 27, 5⟩, ⟨[114, 110], 27, 0⟩]), ([97, 100, 114, 112], [⟨[114, 115], 28, 6⟩, ⟨[114, 110], 28, 0⟩]), ([99, 98, 122], [⟨[114, 115], 32, 3⟩, ⟨[114, 110], 32, 0⟩]), ([99, 98, 110, 122], [⟨[114, 115], 33, 3⟩, ⟨[114, 110], 33, 0⟩]), ([98], [⟨[115], 29, 2⟩, ⟨[110], 29, 0⟩]), ([98, 108], [⟨[115], 30, 2⟩, ⟨[110], 30, 0⟩]), ([98, 114], [⟨[114], 34, 0⟩]), ([98, 108, 114], [⟨[114], 35, 0⟩]), ([114, 101, 116], [⟨[114], 36, 0⟩, ⟨[], 36, 0⟩]), ([115, 118, 99], [⟨[110], 37, 0⟩]), ([110, 111, 112], [⟨[], 38, 0⟩]), ([99, 115, 101, 108], [⟨[114, 114, 114, 115], 39, 0⟩]), ([97, 100, 100], [⟨[114, 114, 110], 4, 0⟩, ⟨[114, 114, 110, 104], 4, 0⟩, ⟨[114, 114, 108], 4, 7⟩, ⟨[114, 114, 114], 12, 0⟩, ⟨[114, 114, 114, 104], 12, 0⟩]), ([115, 117, 98], [⟨[114, 114, 110], 5, 0⟩, ⟨[114, 114, 110, 104], 5, 0⟩, ⟨[114, 114, 114], 13, 0⟩, ⟨[114, 114, 114, 104], 13, 0⟩]), ([97, 100, 100, 115], [⟨[114, 114, 110], 6, 0⟩, ⟨[114, 114, 110, 104], 6, 0⟩, ⟨[114, 114, 114], 14, 0⟩, ⟨[114, 114, 114, 104], 14, 0⟩]), ([115, 117, 98, 115], [⟨[114, 114, 110], 7, 0⟩, ⟨[114, 114, 110, 104], 7, 0⟩, ⟨[114, 114, 114], 15, 0⟩, ⟨[114, 114, 114, 104], 15, 0⟩]), ([97, 110, 100], [⟨[114, 114, 110], 8, 0⟩, ⟨[114, 114, 114], 16, 0⟩, ⟨[114, 114, 114, 104], 16, 0⟩]), ([111, 114, 114], [⟨[114, 114, 110], 9, 0⟩, ⟨[114, 114, 114], 17, 0⟩, ⟨[114, 114, 114, 104], 17, 0⟩]), ([101, 111, 114], [⟨[114, 114, 110], 10, 0⟩, ⟨[114, 114, 114], 18, 0⟩, ⟨[114, 114, 114, 104], 18, 0⟩]), ([97, 110, 100, 115], [⟨[114, 114, 110], 11, 0⟩, ⟨[114, 114, 114], 19, 0⟩, ⟨[114, 114, 114, 104], 19, 0⟩]), ([109, 111, 118, 122], [⟨[114, 110], 1, 0⟩, ⟨[114, 110, 104], 1, 0⟩]), ([109, 111, 118, 110], [⟨[114, 110], 2, 0⟩, ⟨[114, 110, 104], 2, 0⟩]), ([109, 111, 118, 107], [⟨[114, 110], 3, 0⟩, ⟨[114, 110, 104], 3, 0⟩]), ([109, 97, 100, 100], [⟨[114, 114, 114, 114], 20, 0⟩]), ([109, 115, 117, 98], [⟨[114, 114, 114, 114], 21, 0⟩])]
def condF (c : List UInt8) : List UInt8 × List Fm := ([98, 46] ++ c, [⟨[115], 31, 3⟩, ⟨[110], 31, 0⟩])
def bookT : List (List UInt8 × List Fm) := bookA ++ condsT.map condF
theorem zeroBook (w : World) : (zeroValue 56).run Tryz.prog w = .ok (.agg #[.map none]) w := by kernel_rfl
/-- Under way. -/
structure BW (w u : World) (X M : Nat) (T : List (List UInt8 × List Fm)) : Prop where
  k : Below w.heap.size w u
  x : RB u X #[.map none] 56
  b : BO u M T
  lx : w.heap.size ≤ X
  lm : w.heap.size ≤ M
theorem BW.next {w u v : World} {X M : Nat} {T : List (List UInt8 × List Fm)} (h : BW w u X M T) (hb : Below u.heap.size u v) : BW w v X M T := ⟨after h.k hb, h.x.next hb, h.b.next hb, h.lx, h.lm⟩
theorem BO.isMap {w : World} {b : Nat} {T : List (List UInt8 × List Fm)} (h : BO w b T) : ∃ es clock, w.heap[b]? = some (.map es clock) := by obtain ⟨l, ⟨es, clock, h1, -⟩, -⟩ := h; exact ⟨es, clock, h1⟩
theorem BW.put {w u v : World} {X M : Nat} {T : List (List UInt8 × List Fm)} (h : BW w u X M T) (hb : Below u.heap.size u v) (hs : Short T) (k : ByteArray) (kl : List UInt8) (hkl : k.data.toList = kl) (fv : Value) (fs : List Fm) (hk : k.size ≤ 100) (hn : kl ∉ T.map (·.1)) (hv : FO v fv fs) :
    ∃ w', (Instr.mapUpdate 54 (.map (some M)) (.string k) fv).run Tryz.prog v = .ok () w' ∧ BW w w' X M (T ++ [(kl, fs)]) ∧ v.grownBy w' (some M) := by
  have h2 := h.next hb
  obtain ⟨w', e1, e2, e3⟩ := h2.b.put hs k kl hkl fv fs hk hn hv
  have hM : M < v.heap.size := by obtain ⟨es, clock, hm⟩ := h2.b.isMap; exact lt_of_block hm
  refine ⟨w', e1, ⟨h2.k.grown e3 h2.k.size (fun j hj => by cases hj; exact h2.lm), ?_, e2, h2.lx, h2.lm⟩, e3⟩
  refine (e3.block X (lt_of_block h2.x) (fun e => ?_)).trans h2.x
  cases e
  obtain ⟨es, clock, hm⟩ := h2.b.isMap
  have hx := h2.x
  unfold RB at hx
  rw [hx] at hm
  cases hm
theorem bv_put {u w' : World} {M Bv : Nat} {T : List (List UInt8 × List Fm)} {A : Array Value} {t : TypeId} (h : RB u Bv A t) (hb : BO u M T) (hg : u.grownBy w' (some M)) : RB w' Bv A t := by
  refine (hg.block Bv (lt_of_block h) (fun e => ?_)).trans h
  cases e
  obtain ⟨es, clock, hm⟩ := hb.isMap
  unfold RB at h
  rw [h] at hm
  cases hm
/-- A cell of a block of book's own is set: no seeker lies there. -/
theorem BO.setX {w : World} {b X : Nat} {T : List (List UInt8 × List Fm)} (h : BO w b T) (hX : RB w X #[.map none] 56) (j : Nat) (x : Value) : BO (w.setCell ⟨X, j, none⟩ x) b T := by
  have hk : ∀ k, k ≠ X → (w.setCell ⟨X, j, none⟩ x).heap[k]? = w.heap[k]? := fun k hk => Below.heap_setCell _ _ _ _ (fun e => hk e)
  obtain ⟨l, ⟨es, clock, hm, he⟩, h2, h3⟩ := h
  have hbX : b ≠ X := by intro e; subst e; unfold RB at hX; rw [hX] at hm; cases hm
  refine ⟨l, ⟨es, clock, (hk b hbX).trans hm, he⟩, h2, fun i p q hp hq => ?_⟩
  obtain ⟨B, a, c, e1, e2, e3⟩ := h3 i p q hp hq
  refine ⟨B, a, c, e1, ?_, e3.len, fun hne => ?_⟩
  · refine (hk B ?_).trans e2
    intro e; subst e; unfold RB at hX e2; rw [hX] at e2; cases e2
  · obtain ⟨qb, o, e, hq, hc⟩ := e3.cells hne
    have hqX : qb ≠ X := by
      intro e'; subst e'
      have h0 := hc 0 (List.length_pos_iff.2 hne) 0 (by omega)
      have h1 : w.cell? ⟨qb, o + 0 * 3 + 0, none⟩ = (#[Value.map none] : Array Value)[o + 0 * 3 + 0]? := RB.cell hX
      rw [h1] at h0
      simp only [Nat.zero_mul, Nat.add_zero, fmC, List.getElem?_cons_zero] at h0
      rcases o with _ | o
      · simp at h0
      · simp at h0
    refine ⟨qb, o, e, by rw [show (w.setCell ⟨X, j, none⟩ x).heap.size = w.heap.size by simp [World.setCell]]; exact hq, fun k hk' i' hi' => ?_⟩
    rw [← hc k hk' i' hi']
    unfold World.cell?
    rw [hk qb hqX]
theorem BW.start (w : World) : BW w ((w.alloc (.cells #[.map none] 56)).alloc (.map #[] 0)) w.heap.size (w.heap.size + 1) [] := by
  have s1 : (w.alloc (.cells #[.map none] 56)).heap.size = w.heap.size + 1 := World.size_alloc _ _
  refine ⟨(((Below.refl _ _).alloc (Nat.le_refl _) _).alloc (by rw [s1]; omega) _), ?_, ⟨[], ⟨#[], 0, ?_, rfl⟩, rfl, fun i p q hp => by simp at hp⟩, Nat.le_refl _, by omega⟩
  · exact RB.next (MapKept.heap_alloc w _).1 ((Below.refl _ _).alloc (Nat.le_refl _) _)
  · rw [← s1]; exact (MapKept.heap_alloc _ _).1
def bA1 : List (List UInt8 × List Fm) := [] ++ [([108, 100, 114], [⟨[114, 109], 22, 8⟩, ⟨[114, 115], 26, 4⟩, ⟨[114, 61], 26, 10⟩, ⟨[114, 110], 26, 0⟩])]
def bA2 : List (List UInt8 × List Fm) := bA1 ++ [([115, 116, 114], [⟨[114, 109], 23, 8⟩])]
def bA3 : List (List UInt8 × List Fm) := bA2 ++ [([108, 100, 114, 98], [⟨[114, 109], 24, 9⟩])]
def bA4 : List (List UInt8 × List Fm) := bA3 ++ [([115, 116, 114, 98], [⟨[114, 109], 25, 9⟩])]
def bA5 : List (List UInt8 × List Fm) := bA4 ++ [([97, 100, 114], [⟨[114, 115], 27, 5⟩, ⟨[114, 110], 27, 0⟩])]
def bA6 : List (List UInt8 × List Fm) := bA5 ++ [([97, 100, 114, 112], [⟨[114, 115], 28, 6⟩, ⟨[114, 110], 28, 0⟩])]
def bA7 : List (List UInt8 × List Fm) := bA6 ++ [([99, 98, 122], [⟨[114, 115], 32, 3⟩, ⟨[114, 110], 32, 0⟩])]
def bA8 : List (List UInt8 × List Fm) := bA7 ++ [([99, 98, 110, 122], [⟨[114, 115], 33, 3⟩, ⟨[114, 110], 33, 0⟩])]
def bA9 : List (List UInt8 × List Fm) := bA8 ++ [([98], [⟨[115], 29, 2⟩, ⟨[110], 29, 0⟩])]
def bA10 : List (List UInt8 × List Fm) := bA9 ++ [([98, 108], [⟨[115], 30, 2⟩, ⟨[110], 30, 0⟩])]
def bA11 : List (List UInt8 × List Fm) := bA10 ++ [([98, 114], [⟨[114], 34, 0⟩])]
def bA12 : List (List UInt8 × List Fm) := bA11 ++ [([98, 108, 114], [⟨[114], 35, 0⟩])]
def bA13 : List (List UInt8 × List Fm) := bA12 ++ [([114, 101, 116], [⟨[114], 36, 0⟩, ⟨[], 36, 0⟩])]
def bA14 : List (List UInt8 × List Fm) := bA13 ++ [([115, 118, 99], [⟨[110], 37, 0⟩])]
def bA15 : List (List UInt8 × List Fm) := bA14 ++ [([110, 111, 112], [⟨[], 38, 0⟩])]
def bA16 : List (List UInt8 × List Fm) := bA15 ++ [([99, 115, 101, 108], [⟨[114, 114, 114, 115], 39, 0⟩])]
def bA17 : List (List UInt8 × List Fm) := bA16 ++ [([97, 100, 100], [⟨[114, 114, 110], 4, 0⟩, ⟨[114, 114, 110, 104], 4, 0⟩, ⟨[114, 114, 108], 4, 7⟩, ⟨[114, 114, 114], 12, 0⟩, ⟨[114, 114, 114, 104], 12, 0⟩])]
def bA18 : List (List UInt8 × List Fm) := bA17 ++ [([115, 117, 98], [⟨[114, 114, 110], 5, 0⟩, ⟨[114, 114, 110, 104], 5, 0⟩, ⟨[114, 114, 114], 13, 0⟩, ⟨[114, 114, 114, 104], 13, 0⟩])]
def bA19 : List (List UInt8 × List Fm) := bA18 ++ [([97, 100, 100, 115], [⟨[114, 114, 110], 6, 0⟩, ⟨[114, 114, 110, 104], 6, 0⟩, ⟨[114, 114, 114], 14, 0⟩, ⟨[114, 114, 114, 104], 14, 0⟩])]
def bA20 : List (List UInt8 × List Fm) := bA19 ++ [([115, 117, 98, 115], [⟨[114, 114, 110], 7, 0⟩, ⟨[114, 114, 110, 104], 7, 0⟩, ⟨[114, 114, 114], 15, 0⟩, ⟨[114, 114, 114, 104], 15, 0⟩])]
def bA21 : List (List UInt8 × List Fm) := bA20 ++ [([97, 110, 100], [⟨[114, 114, 110], 8, 0⟩, ⟨[114, 114, 114], 16, 0⟩, ⟨[114, 114, 114, 104], 16, 0⟩])]
def bA22 : List (List UInt8 × List Fm) := bA21 ++ [([111, 114, 114], [⟨[114, 114, 110], 9, 0⟩, ⟨[114, 114, 114], 17, 0⟩, ⟨[114, 114, 114, 104], 17, 0⟩])]
def bA23 : List (List UInt8 × List Fm) := bA22 ++ [([101, 111, 114], [⟨[114, 114, 110], 10, 0⟩, ⟨[114, 114, 114], 18, 0⟩, ⟨[114, 114, 114, 104], 18, 0⟩])]
def bA24 : List (List UInt8 × List Fm) := bA23 ++ [([97, 110, 100, 115], [⟨[114, 114, 110], 11, 0⟩, ⟨[114, 114, 114], 19, 0⟩, ⟨[114, 114, 114, 104], 19, 0⟩])]
def bA25 : List (List UInt8 × List Fm) := bA24 ++ [([109, 111, 118, 122], [⟨[114, 110], 1, 0⟩, ⟨[114, 110, 104], 1, 0⟩])]
def bA26 : List (List UInt8 × List Fm) := bA25 ++ [([109, 111, 118, 110], [⟨[114, 110], 2, 0⟩, ⟨[114, 110, 104], 2, 0⟩])]
def bA27 : List (List UInt8 × List Fm) := bA26 ++ [([109, 111, 118, 107], [⟨[114, 110], 3, 0⟩, ⟨[114, 110, 104], 3, 0⟩])]
def bA28 : List (List UInt8 × List Fm) := bA27 ++ [([109, 97, 100, 100], [⟨[114, 114, 114, 114], 20, 0⟩])]
def bA29 : List (List UInt8 × List Fm) := bA28 ++ [([109, 115, 117, 98], [⟨[114, 114, 114, 114], 21, 0⟩])]
theorem bA_all : bA29 = bookA := rfl
def NbP (w : World) (e : Ending) (w' : World) : Prop := ∃ M, e = .returned (.agg #[.map (some M)]) ∧ BO w' M bookT ∧ Below w.heap.size w w'
theorem book_short : Short bookT := by unfold Short; decide
theorem book_nodup : (bookT.map (·.1)).Nodup := by decide
theorem bookK_short (k : Nat) : Short (bookA ++ (condsT.take k).map condF) := fun q hq => book_short q (by
  rcases List.mem_append.1 hq with h | h
  · exact List.mem_append_left _ h
  · exact List.mem_append_right _ (by obtain ⟨c, hc, e⟩ := List.mem_map.1 h; exact List.mem_map.2 ⟨c, List.mem_of_mem_take hc, e⟩))
theorem bookK_new {k : Nat} (hk : k < 14) : [98, 46] ++ condsT.getD k [] ∉ (bookA ++ (condsT.take k).map condF).map (·.1) := by
  rcases k14 hk with rfl | rfl | rfl | rfl | rfl | rfl | rfl | rfl | rfl | rfl | rfl | rfl | rfl | rfl <;> decide
theorem bookK_next {k : Nat} (hk : k < 14) : (bookA ++ (condsT.take k).map condF) ++ [condF (condsT.getD k [])] = bookA ++ (condsT.take (k + 1)).map condF := by
  rcases k14 hk with rfl | rfl | rfl | rfl | rfl | rfl | rfl | rfl | rfl | rfl | rfl | rfl | rfl | rfl <;> rfl
theorem cd_size {k : Nat} (hk : k < 14) : (cdB k).size ≤ 2 := by
  rcases k14 hk with rfl | rfl | rfl | rfl | rfl | rfl | rfl | rfl | rfl | rfl | rfl | rfl | rfl | rfl <;> decide +kernel
theorem bcat (k : Nat) : ((⟨#[98, 46]⟩ : ByteArray) ++ cdB k).data.toList = [98, 46] ++ condsT.getD k [] := by rw [cat_list]; rfl
theorem bcat_size {k : Nat} (hk : k < 14) : ((⟨#[98, 46]⟩ : ByteArray) ++ cdB k).size ≤ 100 := by
  rcases k14 hk with rfl | rfl | rfl | rfl | rfl | rfl | rfl | rfl | rfl | rfl | rfl | rfl | rfl | rfl <;> decide +kernel
set_option maxRecDepth 100000 in
set_option maxHeartbeats 12000000 in
theorem newBook_any (w : World) (hT : Conds w) : Calls Tryz.prog 19 #[] w (NbP w) := by
  have hzb := zeroBook
  have hmm := @run_makeMap Tryz.prog
  obtain ⟨W0, hW0⟩ : ∃ W, W = (w.alloc (.cells #[.map none] 56)).alloc (.map #[] 0) := ⟨_, rfl⟩
  obtain ⟨X, hX⟩ : ∃ X, X = w.heap.size := ⟨_, rfl⟩
  obtain ⟨M, hM⟩ : ∃ M, M = w.heap.size + 1 := ⟨_, rfl⟩
  have HK : Hid (BW w W0 X M []) := Lib.hid (by rw [hW0, hX, hM]; exact BW.start w)
  have HT := Lib.hid hT
  have HZ : Hid (w.heap.size + 1 + 1 = W0.heap.size) := Lib.hid (by rw [hW0, World.size_alloc, World.size_alloc])
  have HW0 := Lib.hid hW0.symm
  have HXe := Lib.hid hX.symm
  have HMe := Lib.hid hM.symm
  clear hT hW0 hX hM
  go_enter Tryz.func19, Tryz.ntmps19
  go_wp2_with fail
  rw [HW0.out, HZ.out, HMe.out, HXe.out]
  refine (among_lit W0 [⟨[114, 109], 22, 8⟩, ⟨[114, 115], 26, 4⟩, ⟨[114, 61], 26, 10⟩, ⟨[114, 110], 26, 0⟩] _ rfl _ rfl).mono ?_
  rintro e u0 ⟨v0, rfl, hf, hb⟩
  obtain ⟨w0, e0, hK, -⟩ := HK.out.put hb (by unfold Short; decide) ⟨#[108, 100, 114]⟩ [108, 100, 114] rfl v0 _ (by decide) (by decide) hf
  have HK0 : Hid (BW w w0 X M bA1) := Lib.hid hK
  clear HK hf hb hK
  have HK := HK0
  clear HK0
  go_wp2_with fail
  refine (among_lit w0 [⟨[114, 109], 23, 8⟩] _ rfl _ rfl).mono ?_
  rintro e u1 ⟨v1, rfl, hf, hb⟩
  obtain ⟨w1, e1, hK, -⟩ := HK.out.put hb (by unfold Short; decide) ⟨#[115, 116, 114]⟩ [115, 116, 114] rfl v1 _ (by decide) (by decide) hf
  have HK1 : Hid (BW w w1 X M bA2) := Lib.hid hK
  clear HK hf hb hK
  have HK := HK1
  clear HK1
  go_wp2_with fail
  refine (among_lit w1 [⟨[114, 109], 24, 9⟩] _ rfl _ rfl).mono ?_
  rintro e u2 ⟨v2, rfl, hf, hb⟩
  obtain ⟨w2, e2, hK, -⟩ := HK.out.put hb (by unfold Short; decide) ⟨#[108, 100, 114, 98]⟩ [108, 100, 114, 98] rfl v2 _ (by decide) (by decide) hf
  have HK2 : Hid (BW w w2 X M bA3) := Lib.hid hK
  clear HK hf hb hK
  have HK := HK2
  clear HK2
  go_wp2_with fail
  refine (among_lit w2 [⟨[114, 109], 25, 9⟩] _ rfl _ rfl).mono ?_
  rintro e u3 ⟨v3, rfl, hf, hb⟩
  obtain ⟨w3, e3, hK, -⟩ := HK.out.put hb (by unfold Short; decide) ⟨#[115, 116, 114, 98]⟩ [115, 116, 114, 98] rfl v3 _ (by decide) (by decide) hf
  have HK3 : Hid (BW w w3 X M bA4) := Lib.hid hK
  clear HK hf hb hK
  have HK := HK3
  clear HK3
  go_wp2_with fail
  refine (oneReg_any w3 27 5).mono ?_
  rintro e u4 ⟨v4, rfl, hf, hb⟩
  obtain ⟨w4, e4, hK, -⟩ := HK.out.put hb (by unfold Short; decide) ⟨#[97, 100, 114]⟩ [97, 100, 114] rfl v4 _ (by decide) (by decide) hf
  have HK4 : Hid (BW w w4 X M bA5) := Lib.hid hK
  clear HK hf hb hK
  have HK := HK4
  clear HK4
  go_wp2_with fail
  refine (oneReg_any w4 28 6).mono ?_
  rintro e u5 ⟨v5, rfl, hf, hb⟩
  obtain ⟨w5, e5, hK, -⟩ := HK.out.put hb (by unfold Short; decide) ⟨#[97, 100, 114, 112]⟩ [97, 100, 114, 112] rfl v5 _ (by decide) (by decide) hf
  have HK5 : Hid (BW w w5 X M bA6) := Lib.hid hK
  clear HK hf hb hK
  have HK := HK5
  clear HK5
  go_wp2_with fail
  refine (oneReg_any w5 32 3).mono ?_
  rintro e u6 ⟨v6, rfl, hf, hb⟩
  obtain ⟨w6, e6, hK, -⟩ := HK.out.put hb (by unfold Short; decide) ⟨#[99, 98, 122]⟩ [99, 98, 122] rfl v6 _ (by decide) (by decide) hf
  have HK6 : Hid (BW w w6 X M bA7) := Lib.hid hK
  clear HK hf hb hK
  have HK := HK6
  clear HK6
  go_wp2_with fail
  refine (oneReg_any w6 33 3).mono ?_
  rintro e u7 ⟨v7, rfl, hf, hb⟩
  obtain ⟨w7, e7, hK, -⟩ := HK.out.put hb (by unfold Short; decide) ⟨#[99, 98, 110, 122]⟩ [99, 98, 110, 122] rfl v7 _ (by decide) (by decide) hf
  have HK7 : Hid (BW w w7 X M bA8) := Lib.hid hK
  clear HK hf hb hK
  have HK := HK7
  clear HK7
  go_wp2_with fail
  refine (goTo_any w7 29 2).mono ?_
  rintro e u8 ⟨v8, rfl, hf, hb⟩
  obtain ⟨w8, e8, hK, -⟩ := HK.out.put hb (by unfold Short; decide) ⟨#[98]⟩ [98] rfl v8 _ (by decide) (by decide) hf
  have HK8 : Hid (BW w w8 X M bA9) := Lib.hid hK
  clear HK hf hb hK
  have HK := HK8
  clear HK8
  go_wp2_with fail
  refine (goTo_any w8 30 2).mono ?_
  rintro e u9 ⟨v9, rfl, hf, hb⟩
  obtain ⟨w9, e9, hK, -⟩ := HK.out.put hb (by unfold Short; decide) ⟨#[98, 108]⟩ [98, 108] rfl v9 _ (by decide) (by decide) hf
  have HK9 : Hid (BW w w9 X M bA10) := Lib.hid hK
  clear HK hf hb hK
  have HK := HK9
  clear HK9
  go_wp2_with fail
  refine (among_lit w9 [⟨[114], 34, 0⟩] _ rfl _ rfl).mono ?_
  rintro e u10 ⟨v10, rfl, hf, hb⟩
  obtain ⟨w10, e10, hK, -⟩ := HK.out.put hb (by unfold Short; decide) ⟨#[98, 114]⟩ [98, 114] rfl v10 _ (by decide) (by decide) hf
  have HK10 : Hid (BW w w10 X M bA11) := Lib.hid hK
  clear HK hf hb hK
  have HK := HK10
  clear HK10
  go_wp2_with fail
  refine (among_lit w10 [⟨[114], 35, 0⟩] _ rfl _ rfl).mono ?_
  rintro e u11 ⟨v11, rfl, hf, hb⟩
  obtain ⟨w11, e11, hK, -⟩ := HK.out.put hb (by unfold Short; decide) ⟨#[98, 108, 114]⟩ [98, 108, 114] rfl v11 _ (by decide) (by decide) hf
  have HK11 : Hid (BW w w11 X M bA12) := Lib.hid hK
  clear HK hf hb hK
  have HK := HK11
  clear HK11
  go_wp2_with fail
  refine (among_lit w11 [⟨[114], 36, 0⟩, ⟨[], 36, 0⟩] _ rfl _ rfl).mono ?_
  rintro e u12 ⟨v12, rfl, hf, hb⟩
  obtain ⟨w12, e12, hK, -⟩ := HK.out.put hb (by unfold Short; decide) ⟨#[114, 101, 116]⟩ [114, 101, 116] rfl v12 _ (by decide) (by decide) hf
  have HK12 : Hid (BW w w12 X M bA13) := Lib.hid hK
  clear HK hf hb hK
  have HK := HK12
  clear HK12
  go_wp2_with fail
  refine (among_lit w12 [⟨[110], 37, 0⟩] _ rfl _ rfl).mono ?_
  rintro e u13 ⟨v13, rfl, hf, hb⟩
  obtain ⟨w13, e13, hK, -⟩ := HK.out.put hb (by unfold Short; decide) ⟨#[115, 118, 99]⟩ [115, 118, 99] rfl v13 _ (by decide) (by decide) hf
  have HK13 : Hid (BW w w13 X M bA14) := Lib.hid hK
  clear HK hf hb hK
  have HK := HK13
  clear HK13
  go_wp2_with fail
  refine (among_lit w13 [⟨[], 38, 0⟩] _ rfl _ rfl).mono ?_
  rintro e u14 ⟨v14, rfl, hf, hb⟩
  obtain ⟨w14, e14, hK, -⟩ := HK.out.put hb (by unfold Short; decide) ⟨#[110, 111, 112]⟩ [110, 111, 112] rfl v14 _ (by decide) (by decide) hf
  have HK14 : Hid (BW w w14 X M bA15) := Lib.hid hK
  clear HK hf hb hK
  have HK := HK14
  clear HK14
  go_wp2_with fail
  refine (among_lit w14 [⟨[114, 114, 114, 115], 39, 0⟩] _ rfl _ rfl).mono ?_
  rintro e u15 ⟨v15, rfl, hf, hb⟩
  obtain ⟨w15, e15, hK, -⟩ := HK.out.put hb (by unfold Short; decide) ⟨#[99, 115, 101, 108]⟩ [99, 115, 101, 108] rfl v15 _ (by decide) (by decide) hf
  have HK15 : Hid (BW w w15 X M bA16) := Lib.hid hK
  clear HK hf hb hK
  have HK := HK15
  clear HK15
  go_wp2_with fail
  refine (among_lit w15 [⟨[114, 114, 110], 4, 0⟩, ⟨[114, 114, 110, 104], 4, 0⟩, ⟨[114, 114, 108], 4, 7⟩, ⟨[114, 114, 114], 12, 0⟩, ⟨[114, 114, 114, 104], 12, 0⟩] _ rfl _ rfl).mono ?_
  rintro e u16 ⟨v16, rfl, hf, hb⟩
  obtain ⟨w16, e16, hK, -⟩ := HK.out.put hb (by unfold Short; decide) ⟨#[97, 100, 100]⟩ [97, 100, 100] rfl v16 _ (by decide) (by decide) hf
  have HK16 : Hid (BW w w16 X M bA17) := Lib.hid hK
  clear HK hf hb hK
  have HK := HK16
  clear HK16
  go_wp2_with fail
  refine (sum_any w16 5 13).mono ?_
  rintro e u17 ⟨v17, rfl, hf, hb⟩
  obtain ⟨w17, e17, hK, -⟩ := HK.out.put hb (by unfold Short; decide) ⟨#[115, 117, 98]⟩ [115, 117, 98] rfl v17 _ (by decide) (by decide) hf
  have HK17 : Hid (BW w w17 X M bA18) := Lib.hid hK
  clear HK hf hb hK
  have HK := HK17
  clear HK17
  go_wp2_with fail
  refine (sum_any w17 6 14).mono ?_
  rintro e u18 ⟨v18, rfl, hf, hb⟩
  obtain ⟨w18, e18, hK, -⟩ := HK.out.put hb (by unfold Short; decide) ⟨#[97, 100, 100, 115]⟩ [97, 100, 100, 115] rfl v18 _ (by decide) (by decide) hf
  have HK18 : Hid (BW w w18 X M bA19) := Lib.hid hK
  clear HK hf hb hK
  have HK := HK18
  clear HK18
  go_wp2_with fail
  refine (sum_any w18 7 15).mono ?_
  rintro e u19 ⟨v19, rfl, hf, hb⟩
  obtain ⟨w19, e19, hK, -⟩ := HK.out.put hb (by unfold Short; decide) ⟨#[115, 117, 98, 115]⟩ [115, 117, 98, 115] rfl v19 _ (by decide) (by decide) hf
  have HK19 : Hid (BW w w19 X M bA20) := Lib.hid hK
  clear HK hf hb hK
  have HK := HK19
  clear HK19
  go_wp2_with fail
  refine (logic_any w19 8 16).mono ?_
  rintro e u20 ⟨v20, rfl, hf, hb⟩
  obtain ⟨w20, e20, hK, -⟩ := HK.out.put hb (by unfold Short; decide) ⟨#[97, 110, 100]⟩ [97, 110, 100] rfl v20 _ (by decide) (by decide) hf
  have HK20 : Hid (BW w w20 X M bA21) := Lib.hid hK
  clear HK hf hb hK
  have HK := HK20
  clear HK20
  go_wp2_with fail
  refine (logic_any w20 9 17).mono ?_
  rintro e u21 ⟨v21, rfl, hf, hb⟩
  obtain ⟨w21, e21, hK, -⟩ := HK.out.put hb (by unfold Short; decide) ⟨#[111, 114, 114]⟩ [111, 114, 114] rfl v21 _ (by decide) (by decide) hf
  have HK21 : Hid (BW w w21 X M bA22) := Lib.hid hK
  clear HK hf hb hK
  have HK := HK21
  clear HK21
  go_wp2_with fail
  refine (logic_any w21 10 18).mono ?_
  rintro e u22 ⟨v22, rfl, hf, hb⟩
  obtain ⟨w22, e22, hK, -⟩ := HK.out.put hb (by unfold Short; decide) ⟨#[101, 111, 114]⟩ [101, 111, 114] rfl v22 _ (by decide) (by decide) hf
  have HK22 : Hid (BW w w22 X M bA23) := Lib.hid hK
  clear HK hf hb hK
  have HK := HK22
  clear HK22
  go_wp2_with fail
  refine (logic_any w22 11 19).mono ?_
  rintro e u23 ⟨v23, rfl, hf, hb⟩
  obtain ⟨w23, e23, hK, -⟩ := HK.out.put hb (by unfold Short; decide) ⟨#[97, 110, 100, 115]⟩ [97, 110, 100, 115] rfl v23 _ (by decide) (by decide) hf
  have HK23 : Hid (BW w w23 X M bA24) := Lib.hid hK
  clear HK hf hb hK
  have HK := HK23
  clear HK23
  go_wp2_with fail
  refine (wide_any w23 1).mono ?_
  rintro e u24 ⟨v24, rfl, hf, hb⟩
  obtain ⟨w24, e24, hK, -⟩ := HK.out.put hb (by unfold Short; decide) ⟨#[109, 111, 118, 122]⟩ [109, 111, 118, 122] rfl v24 _ (by decide) (by decide) hf
  have HK24 : Hid (BW w w24 X M bA25) := Lib.hid hK
  clear HK hf hb hK
  have HK := HK24
  clear HK24
  go_wp2_with fail
  refine (wide_any w24 2).mono ?_
  rintro e u25 ⟨v25, rfl, hf, hb⟩
  obtain ⟨w25, e25, hK, -⟩ := HK.out.put hb (by unfold Short; decide) ⟨#[109, 111, 118, 110]⟩ [109, 111, 118, 110] rfl v25 _ (by decide) (by decide) hf
  have HK25 : Hid (BW w w25 X M bA26) := Lib.hid hK
  clear HK hf hb hK
  have HK := HK25
  clear HK25
  go_wp2_with fail
  refine (wide_any w25 3).mono ?_
  rintro e u26 ⟨v26, rfl, hf, hb⟩
  obtain ⟨w26, e26, hK, -⟩ := HK.out.put hb (by unfold Short; decide) ⟨#[109, 111, 118, 107]⟩ [109, 111, 118, 107] rfl v26 _ (by decide) (by decide) hf
  have HK26 : Hid (BW w w26 X M bA27) := Lib.hid hK
  clear HK hf hb hK
  have HK := HK26
  clear HK26
  go_wp2_with fail
  refine (among_lit w26 [⟨[114, 114, 114, 114], 20, 0⟩] _ rfl _ rfl).mono ?_
  rintro e u27 ⟨v27, rfl, hf, hb⟩
  obtain ⟨w27, e27, hK, -⟩ := HK.out.put hb (by unfold Short; decide) ⟨#[109, 97, 100, 100]⟩ [109, 97, 100, 100] rfl v27 _ (by decide) (by decide) hf
  have HK27 : Hid (BW w w27 X M bA28) := Lib.hid hK
  clear HK hf hb hK
  have HK := HK27
  clear HK27
  go_wp2_with fail
  refine (among_lit w27 [⟨[114, 114, 114, 114], 21, 0⟩] _ rfl _ rfl).mono ?_
  rintro e u28 ⟨v28, rfl, hf, hb⟩
  obtain ⟨w28, e28, hK, -⟩ := HK.out.put hb (by unfold Short; decide) ⟨#[109, 115, 117, 98]⟩ [109, 115, 117, 98] rfl v28 _ (by decide) (by decide) hf
  have HK28 : Hid (BW w w28 X M bA29) := Lib.hid hK
  clear HK hf hb hK
  have HK := HK28
  clear HK28
  have HB28 := Lib.hid HK.out.k
  obtain ⟨Bv, hBv⟩ : ∃ B, B = w28.heap.size := ⟨_, rfl⟩
  obtain ⟨V, hV⟩ : ∃ V, V = w28.alloc (.cells #[.map (some M)] 56) := ⟨_, rfl⟩
  have hbV : Below w28.heap.size w28 V := by rw [hV]; exact (Below.refl _ _).alloc (Nat.le_refl _) _
  have HKV : Hid (BW w V X M (bookA ++ (condsT.take 0).map condF)) := Lib.hid (by
    have := HK.out.next hbV
    rwa [bA_all, show bookA = bookA ++ (condsT.take 0).map condF by simp] at this)
  have HBV : Hid (RB V Bv #[.map (some M)] 56) := Lib.hid (by rw [hV, hBv]; exact (MapKept.heap_alloc w28 _).1)
  have HBx : Hid (X ≠ Bv) := Lib.hid (by have := lt_of_block HK.out.x; omega)
  obtain ⟨c0, c1, c2, c3, c4, c5, c6, c7, c8, c9, c10, c11, c12, c13⟩ := (HT.out.next HKV.out.k).all
  rw [hV] at c0 c1 c2 c3 c4 c5 c6 c7 c8 c9 c10 c11 c12 c13
  have HV := Lib.hid hV.symm
  have HBe := Lib.hid hBv.symm
  clear hV hBv hbV HK
  go_wp2_with fail
  rw [HV.out, HBe.out]
  clear c0 c1 c2 c3 c4 c5 c6 c7 c8 c9 c10 c11 c12 c13 HW0 HZ HXe HMe e28
  go_loopw [71] (fun i wr => ∃ (k : Nat) (wx : World), wx = wr ∧ k ≤ 14 ∧ i = .int .i64 k ∧ Hid (BW w wx X M (bookA ++ (condsT.take k).map condF)) ∧ Hid (RB wx Bv #[.map (some M)] 56)) (fun i _ => 14 - (intOf i).toNat)
  case atStart => exact ⟨0, _, rfl, by omega, rfl, HKV, HBV⟩
  case round =>
    clear HKV HBV
    obtain ⟨k, wx, rfl, hk, rfl, HK, HBv⟩ := hrel
    by_cases hlt : k < 14
    · have hI := cd_index hlt
      have HL := Lib.hid hlt
      have hlti : (k : Int) < 14 := by omega
      obtain ⟨V0, hV0⟩ : ∃ V, V = wx.drew := ⟨_, rfl⟩
      have HV0 : Hid (wx.drew = V0) := Lib.hid hV0.symm
      have hb0 : Below wx.heap.size wx V0 := by rw [hV0]; exact (Below.refl _ _).drew
      replace HK := Lib.hid (HK.out.next hb0)
      have HBv0 := Lib.hid (HBv.out.next hb0)
      clear HBv
      have HBv := HBv0
      clear HBv0 hV0 hb0 hk hlt
      go_wp2_with fail
      refine wp_region_held_drew (S := fun v => v.cell? ⟨Bv, 0, none⟩ = some (.map (some M)) ∧ True) (by kernel_rfl) (by rw [HV0.out]; exact ⟨HBv.out.cell, trivial⟩) (fun hHeld => ?_)
      rw [HV0.out]
      have hHeld0 : V0.cell? ⟨Bv, 0, none⟩ = some (.map (some M)) ∧ True := ⟨HBv.out.cell, trivial⟩
      clear hHeld
      refine tk 0 ?_ rfl hHeld0 ?_ ?_
      rotate_left 1
      · intro w hS; obtain ⟨_, _⟩ := hS; go_simp; (try with_reducible rfl)
      (try simp only [Act.put, List.setIfInBounds_toArray, List.set_cons_zero, List.set_cons_succ])
      refine tk 1 ?_ rfl hHeld0 ?_ ?_
      rotate_left 1
      · intro w hS; obtain ⟨_, _⟩ := hS; go_simp; (try with_reducible rfl)
      (try simp only [Act.put, List.setIfInBounds_toArray, List.set_cons_zero, List.set_cons_succ])
      refine tk 2 ?_ rfl hHeld0 ?_ ?_
      rotate_left 1
      · intro w hS; obtain ⟨_, _⟩ := hS; go_simp; (try with_reducible rfl)
      (try simp only [Act.put, List.setIfInBounds_toArray, List.set_cons_zero, List.set_cons_succ])
      refine tk 3 (.string ((⟨#[98, 46]⟩ : ByteArray) ++ cdB k)) rfl hHeld0 ?_ ?_
      · intro w hS; go_simp; (try with_reducible rfl); (have := cd_size HL.out; omega)
      (try simp only [Act.put, List.setIfInBounds_toArray, List.set_cons_zero, List.set_cons_succ])
      refine rd 4 rfl (fun K hK => ?_)
      go_simp
      go_wp2_with (go_at_call 36; refine (goTo_any V0 31 3).mono ?_; rintro e u ⟨fv, rfl, hf, hb⟩)
      obtain ⟨w', e1, hKn, hg⟩ := HK.out.put hb (bookK_short k) ((⟨#[98, 46]⟩ : ByteArray) ++ cdB k) _ (bcat k) fv _ (bcat_size HL.out) (bookK_new HL.out) hf
      have HKn : Hid (BW w w' X M (bookA ++ (condsT.take (k + 1)).map condF)) := Lib.hid (by have := hKn; rwa [show ([98, 46] ++ condsT.getD k [], [(⟨[115], 31, 3⟩ : Fm), ⟨[110], 31, 0⟩]) = condF (condsT.getD k []) from rfl, bookK_next HL.out] at this)
      have HBu := Lib.hid (HBv.out.next hb)
      have HBn : Hid (RB w' Bv #[.map (some M)] 56) := Lib.hid (bv_put HBu.out (HK.out.next hb).b hg)
      refine hK.out _ _ ⟨HBu.out.cell, trivial⟩ (fun hHeld1 => ?_)
      clear hK K hKn hf hb hg
      refine rd 5 rfl (fun K hK => ?_)
      go_simp
      refine hK.out _ _ ⟨HBn.out.cell, trivial⟩ (fun hHeld2 => ?_)
      clear hK K
      refine wpAnyH_done (by kernel_rfl) ?_ _
      clear HK HBv hHeld0 hHeld1 hHeld2
      go_wp2
      go_roundw
      case rel => exact ⟨k + 1, _, rfl, by have := HL.out; omega, by go_num, HKn, HBn⟩
      case measure => have := HL.out; simp [intOf]; omega
    · have hlti : ¬ (k : Int) < 14 := by omega
      obtain rfl : k = 14 := by omega
      have x0 : wx.cell? ⟨X, 0, none⟩ = some (.map none) := HK.out.x.cell
      have xf : wx.frozen? ⟨X, 0, none⟩ = false := RB.frozen HK.out.x
      have b0 : wx.cell? ⟨Bv, 0, none⟩ = some (.map (some M)) := HBv.out.cell
      have HR : Hid (RB (wx.setCell ⟨X, 0, none⟩ (.map (some M))) X #[.map (some M)] 56) := Lib.hid (RB.set HK.out.x (j := 0) (.map (some M)))
      have HBz : Hid (Below w.heap.size w (wx.setCell ⟨X, 0, none⟩ (.map (some M)))) := Lib.hid (HK.out.k.setCell (p := ⟨X, 0, none⟩) HK.out.lx _)
      have HO : Hid (BO (wx.setCell ⟨X, 0, none⟩ (.map (some M))) M bookT) := Lib.hid (by
        have h := HK.out.b
        rw [show bookA ++ (condsT.take 14).map condF = bookT from rfl] at h
        exact h.setX HK.out.x 0 _)
      clear hk hlt hlti
      go_wp2
      refine bodyPost_ret (results_cell_row (P := Tryz.prog) rfl _ _ X 56 _ (0, 0) _ rfl HR.out Tryz.underlying56 rfl (by kernel_rfl)) rfl ?_
      exact ⟨M, rfl, HO.out, HBz.out⟩
end Go.Proofs.YthejefldnpeciaaGreatDoor
