/- part: Quad. part: Quad, with a symbol. part: Word, no note. part: Word, refused. part: Word, with a note. part: Align, refused. part: Align, what lacks. -/
import Derived.Test.YtmlofdolenmkoaaGreatDoorkXB
namespace Go.Proofs.YtmlofdolenmkoaaGreatDoor
set_option linter.unusedVariables false
set_option linter.unusedSimpArgs false
open Go.RowKit
open Go.ChangeShapes Go.WideShapes Go.Deep Go.RowKit

set_option maxRecDepth 100000 in
set_option maxHeartbeats 600000 in
theorem pQuad_no (N B : ByteArray) (k : Int) (kp : Bool) (al : Int) (a : Option Addr) (n c : Nat) (l : List Rl) (v : Nat) (hv : v < 18446744073709551616) (sym add : Int) (w : World) (hs : SL rlC 4 w w.heap.size a n l) (hz : a = none → n = 0 ∧ c = 0) (hN : N.size ≤ maxLen) (hBm : B.size ≤ maxLen) (hg : ∀ r ∈ l, GoodRl r) (hT : TabP w) (hsec : secR ⟨N.data.toList, k, kp, al, B.data.toList, l⟩ = false) : Calls Tryz.prog 21 #[.agg #[.string N, .int .i64 k, .bool kp, .int .i64 al, .string B, .slice a n c], .int .u64 (v : Int), .int .i64 sym, .int .i64 add] w (SecR (pQuadL ⟨N.data.toList, k, kp, al, B.data.toList, l⟩ v sym add) w) := by
  have HR : Hid (pQuadL ⟨N.data.toList, k, kp, al, B.data.toList, l⟩ v sym add = (scZ, 1)) := Lib.hid (by unfold pQuadL; rw [hsec]; rfl)
  have hZ := zeroSec
  have HI : Hid (∀ u, Below w.heap.size w u → Calls Tryz.prog 16 #[.agg #[.string N, .int .i64 k, .bool kp, .int .i64 al, .string B, .slice a n c]] u (RetB (.bool (secR ⟨N.data.toList, k, kp, al, B.data.toList, l⟩)) u)) := Lib.hid (fun u hu => pIs_core N B k kp al a n c l hN hBm u (hs.next hu) hg (hT.next hu))
  rw [hsec] at HI
  have HW := Lib.hid (two_rb (w := w) (A := #[.string N, .int .i64 k, .bool kp, .int .i64 al, .string B, .slice a n c]) (B := #[.string ⟨#[]⟩, .int .i64 0, .bool false, .int .i64 0, .string ⟨#[]⟩, .slice none 0 0]) (T := 24) (U := 24))
  obtain ⟨X, hX⟩ : ∃ X, X = w.heap.size := ⟨_, rfl⟩
  rw [← hX] at HW
  have HXE := Lib.hid hX
  clear hs hz hN hBm hg hT hsec hv
  go_enter Tryz.func21, Tryz.ntmps21
  go_wp2_with fail
  rw [← hX]
  clear hX
  change Calls _ _ _ ((w.alloc (.cells #[.string N, .int .i64 k, .bool kp, .int .i64 al, .string B, .slice a n c] 24)).alloc (.cells #[.string ⟨#[]⟩, .int .i64 0, .bool false, .int .i64 0, .string ⟨#[]⟩, .slice none 0 0] 24)) _
  generalize (w.alloc (.cells #[.string N, .int .i64 k, .bool kp, .int .i64 al, .string B, .slice a n c] 24)).alloc (.cells #[.string ⟨#[]⟩, .int .i64 0, .bool false, .int .i64 0, .string ⟨#[]⟩, .slice none 0 0] 24) = W at HW ⊢
  have HB4 : Hid (Below w.heap.size w W) := Lib.hid (by have := HW.out.2.2; rw [HXE.out] at this; exact this)
  refine (HI.out _ HB4.out).mono ?_
  rintro e u ⟨rfl, hb⟩
  have hx : RB u X #[.string N, .int .i64 k, .bool kp, .int .i64 al, .string B, .slice a n c] 24 := HW.out.1.next hb
  have hy : RB u (X + 1) #[.string ⟨#[]⟩, .int .i64 0, .bool false, .int .i64 0, .string ⟨#[]⟩, .slice none 0 0] 24 := HW.out.2.1.next hb
  have HB5 := Lib.hid (after HB4.out hb)
  clear hb
  have y0 : u.cell? ⟨X + 1, 0, none⟩ = some (.string ⟨#[]⟩) := hy.cell
  have z0 : u.frozen? ⟨X + 1, 0, none⟩ = false := hy.frozen
  have y1 : u.cell? ⟨X + 1, 1, none⟩ = some (.int .i64 0) := hy.cell
  have z1 : u.frozen? ⟨X + 1, 1, none⟩ = false := hy.frozen
  have y2 : u.cell? ⟨X + 1, 2, none⟩ = some (.bool false) := hy.cell
  have z2 : u.frozen? ⟨X + 1, 2, none⟩ = false := hy.frozen
  have y3 : u.cell? ⟨X + 1, 3, none⟩ = some (.int .i64 0) := hy.cell
  have z3 : u.frozen? ⟨X + 1, 3, none⟩ = false := hy.frozen
  have y4 : u.cell? ⟨X + 1, 4, none⟩ = some (.string ⟨#[]⟩) := hy.cell
  have z4 : u.frozen? ⟨X + 1, 4, none⟩ = false := hy.frozen
  have y5 : u.cell? ⟨X + 1, 5, none⟩ = some (.slice none 0 0) := hy.cell
  have z5 : u.frozen? ⟨X + 1, 5, none⟩ = false := hy.frozen
  have HQ := Lib.hid (gset_heap hy (.string ⟨#[]⟩) (.int .i64 0) (.bool false) (.int .i64 0) (.string ⟨#[]⟩) (.slice none 0 0))
  have HB8 := Lib.hid (gset_below HB5.out (Y := X + 1) (by rw [← HXE.out]; omega) (.string ⟨#[]⟩) (.int .i64 0) (.bool false) (.int .i64 0) (.string ⟨#[]⟩) (.slice none 0 0))
  clear hx hy
  go_wp2
  refine bodyPost_ret (results_cell_two (P := Tryz.prog) rfl _ _ (X + 1) 24 _ (0, 0) _ (.int .i64 1) rfl HQ.out Tryz.underlying24 rfl (by kernel_rfl) rfl) rfl ?_
  exact SecR.bare HR.out rfl HB8.out
set_option maxRecDepth 100000 in
set_option maxHeartbeats 600000 in
theorem pQuad_bare (N B : ByteArray) (k : Int) (kp : Bool) (al : Int) (a : Option Addr) (n c : Nat) (l : List Rl) (v : Nat) (hv : v < 18446744073709551616) (sym add : Int) (w : World) (hs : SL rlC 4 w w.heap.size a n l) (hz : a = none → n = 0 ∧ c = 0) (hN : N.size ≤ maxLen) (hBm : B.size ≤ maxLen) (hg : ∀ r ∈ l, GoodRl r) (hT : TabP w) (hsec : secR ⟨N.data.toList, k, kp, al, B.data.toList, l⟩ = true) (hsym : sym < 0) : Calls Tryz.prog 21 #[.agg #[.string N, .int .i64 k, .bool kp, .int .i64 al, .string B, .slice a n c], .int .u64 (v : Int), .int .i64 sym, .int .i64 add] w (SecR (pQuadL ⟨N.data.toList, k, kp, al, B.data.toList, l⟩ v sym add) w) := by
  obtain ⟨t, er, ht⟩ : ∃ t er, placedL ⟨N.data.toList, k, kp, al, B.data.toList, l⟩ (leB 8 v) [] = (t, er) := ⟨_, _, rfl⟩
  have HR : Hid (pQuadL ⟨N.data.toList, k, kp, al, B.data.toList, l⟩ v sym add = (t, er)) := Lib.hid (by unfold pQuadL; rw [if_pos hsec, if_pos hsym, ht])
  obtain ⟨-, -, -, -, -, g6, g7⟩ := head_iff.1 (sec_iff.1 hsec).1
  simp only at g6 g7
  have hBs : B.data.toList.length = B.size := by simp
  have hln := hs.len
  obtain ⟨m, hm⟩ : ∃ m, m = t.rels.length := ⟨_, rfl⟩
  obtain ⟨D, hDD⟩ : ∃ D : ByteArray, D = ⟨(leB 8 v).toArray⟩ := ⟨_, rfl⟩
  have hD8 : D.size = 8 := by rw [hDD]; show (leB 8 v).toArray.size = 8; rw [List.size_toArray, leB_len]
  have hDl : D.data.toList = leB 8 v := by rw [hDD]
  have HBy : Hid (∀ u, Calls Tryz.prog 43 #[.int .u64 (v : Int), .int .i64 8] u (RetB (.string D) u)) := Lib.hid (fun u => by rw [hDD]; exact bytes8 v u hv)
  have HP : Hid (∀ u, Below w.heap.size w u → Calls Tryz.prog 41 #[.agg #[.string N, .int .i64 k, .bool kp, .int .i64 al, .string B, .slice a n c], .string D, .slice none 0 0] u (fun e v' => ∃ a' c', e = .returned (.tuple #[.agg #[.string ⟨t.name.toArray⟩, .int .i64 t.kind, .bool t.keep, .int .i64 t.align, .string ⟨t.data.toArray⟩, .slice a' m c'], .int .i64 er]) ∧ Row0 v' u.heap.size (.slice a' m c') m t.rels ∧ Below u.heap.size u v')) := Lib.hid (fun u hu => by
    have := placed_any N B D k kp al a none n c 0 0 l [] u (hs.next hu) hz (SL.nil _ _ _) (fun _ => ⟨rfl, rfl⟩) (by omega) (by omega) (by omega) (by omega)
    rw [hDl, ht] at this
    subst hm
    exact this)
  have HM := Lib.hid hm
  have hZ := zeroSec
  have HI : Hid (∀ u, Below w.heap.size w u → Calls Tryz.prog 16 #[.agg #[.string N, .int .i64 k, .bool kp, .int .i64 al, .string B, .slice a n c]] u (RetB (.bool (secR ⟨N.data.toList, k, kp, al, B.data.toList, l⟩)) u)) := Lib.hid (fun u hu => pIs_core N B k kp al a n c l hN hBm u (hs.next hu) hg (hT.next hu))
  rw [hsec] at HI
  have HW := Lib.hid (two_rb (w := w) (A := #[.string N, .int .i64 k, .bool kp, .int .i64 al, .string B, .slice a n c]) (B := #[.string ⟨#[]⟩, .int .i64 0, .bool false, .int .i64 0, .string ⟨#[]⟩, .slice none 0 0]) (T := 24) (U := 24))
  obtain ⟨X, hX⟩ : ∃ X, X = w.heap.size := ⟨_, rfl⟩
  rw [← hX] at HW
  have HXE := Lib.hid hX
  clear g6 g7 hBs hln ht hm hDD hD8 hDl
  clear hs hz hN hBm hg hT hsec hv
  go_enter Tryz.func21, Tryz.ntmps21
  go_wp2_with fail
  rw [← hX]
  clear hX
  change Calls _ _ _ ((w.alloc (.cells #[.string N, .int .i64 k, .bool kp, .int .i64 al, .string B, .slice a n c] 24)).alloc (.cells #[.string ⟨#[]⟩, .int .i64 0, .bool false, .int .i64 0, .string ⟨#[]⟩, .slice none 0 0] 24)) _
  generalize (w.alloc (.cells #[.string N, .int .i64 k, .bool kp, .int .i64 al, .string B, .slice a n c] 24)).alloc (.cells #[.string ⟨#[]⟩, .int .i64 0, .bool false, .int .i64 0, .string ⟨#[]⟩, .slice none 0 0] 24) = W at HW ⊢
  have HB4 : Hid (Below w.heap.size w W) := Lib.hid (by have := HW.out.2.2; rw [HXE.out] at this; exact this)
  refine (HI.out _ HB4.out).mono ?_
  rintro e u ⟨rfl, hb⟩
  have hx : RB u X #[.string N, .int .i64 k, .bool kp, .int .i64 al, .string B, .slice a n c] 24 := HW.out.1.next hb
  have hy : RB u (X + 1) #[.string ⟨#[]⟩, .int .i64 0, .bool false, .int .i64 0, .string ⟨#[]⟩, .slice none 0 0] 24 := HW.out.2.1.next hb
  have HB5 := Lib.hid (after HB4.out hb)
  clear hb
  have x0 : u.cell? ⟨X, 0, none⟩ = some (.string N) := hx.cell
  have x1 : u.cell? ⟨X, 1, none⟩ = some (.int .i64 k) := hx.cell
  have x2 : u.cell? ⟨X, 2, none⟩ = some (.bool kp) := hx.cell
  have x3 : u.cell? ⟨X, 3, none⟩ = some (.int .i64 al) := hx.cell
  have x4 : u.cell? ⟨X, 4, none⟩ = some (.string B) := hx.cell
  have x5 : u.cell? ⟨X, 5, none⟩ = some (.slice a n c) := hx.cell
  have HXl : Hid (X + 1 < u.heap.size) := Lib.hid (lt_of_block hy)
  have HXu := Lib.hid hx
  have HYu := Lib.hid hy
  clear hx hy
  go_wp2_with fail
  first | (go_region_law ((first
    | (go_simp; go_at_call 43; refine (HBy.out _).mono ?_; rintro e u1 ⟨rfl, hb1⟩; have hb1' := ((Below.refl u.heap.size u).drew).trans hb1; have w0 : u1.cell? ⟨X, 0, none⟩ = some (.string N) := (HXu.out.next hb1').cell; have w1 : u1.cell? ⟨X, 1, none⟩ = some (.int .i64 k) := (HXu.out.next hb1').cell; have w2 : u1.cell? ⟨X, 2, none⟩ = some (.bool kp) := (HXu.out.next hb1').cell; have w3 : u1.cell? ⟨X, 3, none⟩ = some (.int .i64 al) := (HXu.out.next hb1').cell; have w4 : u1.cell? ⟨X, 4, none⟩ = some (.string B) := (HXu.out.next hb1').cell; have w5 : u1.cell? ⟨X, 5, none⟩ = some (.slice a n c) := (HXu.out.next hb1').cell)
    | (go_simp; go_at_call 41; refine (HP.out _ (after HB5.out hb1')).mono ?_; rintro e v' ⟨a', c', rfl, hrow, hb2⟩; have hy : RB v' (X + 1) #[.string ⟨#[]⟩, .int .i64 0, .bool false, .int .i64 0, .string ⟨#[]⟩, .slice none 0 0] 24 := (HYu.out.next hb1').next hb2; have y0 : v'.cell? ⟨X + 1, 0, none⟩ = some (.string ⟨#[]⟩) := hy.cell; have z0 : v'.frozen? ⟨X + 1, 0, none⟩ = false := hy.frozen; have y1 : v'.cell? ⟨X + 1, 1, none⟩ = some (.int .i64 0) := hy.cell; have z1 : v'.frozen? ⟨X + 1, 1, none⟩ = false := hy.frozen; have y2 : v'.cell? ⟨X + 1, 2, none⟩ = some (.bool false) := hy.cell; have z2 : v'.frozen? ⟨X + 1, 2, none⟩ = false := hy.frozen; have y3 : v'.cell? ⟨X + 1, 3, none⟩ = some (.int .i64 0) := hy.cell; have z3 : v'.frozen? ⟨X + 1, 3, none⟩ = false := hy.frozen; have y4 : v'.cell? ⟨X + 1, 4, none⟩ = some (.string ⟨#[]⟩) := hy.cell; have z4 : v'.frozen? ⟨X + 1, 4, none⟩ = false := hy.frozen; have y5 : v'.cell? ⟨X + 1, 5, none⟩ = some (.slice none 0 0) := hy.cell; have z5 : v'.frozen? ⟨X + 1, 5, none⟩ = false := hy.frozen)))) | fail

  all_goals
    have HB6 := Lib.hid (after (after HB5.out hb1') hb2)
    have HQ := Lib.hid (gset_heap hy (.string ⟨t.name.toArray⟩) (.int .i64 t.kind) (.bool t.keep) (.int .i64 t.align) (.string ⟨t.data.toArray⟩) (.slice a' m c'))
    have HB8 := Lib.hid (gset_below HB6.out (Y := X + 1) (by rw [← HXE.out]; omega) (.string ⟨t.name.toArray⟩) (.int .i64 t.kind) (.bool t.keep) (.int .i64 t.align) (.string ⟨t.data.toArray⟩) (.slice a' m c'))
    have HR8 := Lib.hid ((gset_row hrow (Y := X + 1) (Nat.lt_of_lt_of_le HXl.out hb1'.size) (.string ⟨t.name.toArray⟩) (.int .i64 t.kind) (.bool t.keep) (.int .i64 t.align) (.string ⟨t.data.toArray⟩) (.slice a' m c')).mono (after HB5.out hb1').size)
    clear hy hrow hb1 hb1' hb2
    go_wp2
    refine bodyPost_ret (results_cell_two (P := Tryz.prog) rfl _ _ (X + 1) 24 _ (0, 0) _ (.int .i64 er) rfl HQ.out Tryz.underlying24 rfl (by kernel_rfl) rfl) rfl ?_
    exact SecR.full HR.out HM.out rfl HR8.out HB8.out
open Go.ChangeShapes Go.WideShapes Go.Deep Go.RowKit

set_option maxRecDepth 100000 in
set_option maxHeartbeats 600000 in
theorem pQuad_rel (N B : ByteArray) (k : Int) (kp : Bool) (al : Int) (a : Option Addr) (n c : Nat) (l : List Rl) (v : Nat) (hv : v < 18446744073709551616) (sym add : Int) (w : World) (hs : SL rlC 4 w w.heap.size a n l) (hz : a = none → n = 0 ∧ c = 0) (hN : N.size ≤ maxLen) (hBm : B.size ≤ maxLen) (hg : ∀ r ∈ l, GoodRl r) (hT : TabP w) (hsec : secR ⟨N.data.toList, k, kp, al, B.data.toList, l⟩ = true) (hsym : ¬ sym < 0) : Calls Tryz.prog 21 #[.agg #[.string N, .int .i64 k, .bool kp, .int .i64 al, .string B, .slice a n c], .int .u64 (v : Int), .int .i64 sym, .int .i64 add] w (SecR (pQuadL ⟨N.data.toList, k, kp, al, B.data.toList, l⟩ v sym add) w) := by
  have hBs : B.data.toList.length = B.size := by simp
  obtain ⟨t, er, ht⟩ : ∃ t er, placedL ⟨N.data.toList, k, kp, al, B.data.toList, l⟩ (leB 8 0) [(⟨(B.size : Int), 1, sym, add⟩ : Rl)] = (t, er) := ⟨_, _, rfl⟩
  have HR : Hid (pQuadL ⟨N.data.toList, k, kp, al, B.data.toList, l⟩ v sym add = (t, er)) := Lib.hid (by unfold pQuadL; rw [if_pos hsec, if_neg hsym]; simp only [hBs]; exact ht)
  obtain ⟨-, -, -, -, -, g6, g7⟩ := head_iff.1 (sec_iff.1 hsec).1
  simp only at g6 g7
  have hln := hs.len
  obtain ⟨m, hm⟩ : ∃ m, m = t.rels.length := ⟨_, rfl⟩
  obtain ⟨D, hDD⟩ : ∃ D : ByteArray, D = ⟨(leB 8 0).toArray⟩ := ⟨_, rfl⟩
  have hD8 : D.size = 8 := by rw [hDD]; show (leB 8 0).toArray.size = 8; rw [List.size_toArray, leB_len]
  have hDl : D.data.toList = leB 8 0 := by rw [hDD]
  have HBy : Hid (∀ u, Calls Tryz.prog 43 #[.int .u64 0, .int .i64 8] u (RetB (.string D) u)) := Lib.hid (fun u => by rw [hDD]; exact bytes8 0 u (by decide))
  have HP : Hid (∀ (u : World) (Z : Nat), Below w.heap.size w u → SL rlC 4 u u.heap.size (some ⟨Z, 0, none⟩) 1 [(⟨(B.size : Int), 1, sym, add⟩ : Rl)] → Calls Tryz.prog 41 #[.agg #[.string N, .int .i64 k, .bool kp, .int .i64 al, .string B, .slice a n c], .string D, .slice (some ⟨Z, 0, none⟩) 1 1] u (fun e v' => ∃ a' c', e = .returned (.tuple #[.agg #[.string ⟨t.name.toArray⟩, .int .i64 t.kind, .bool t.keep, .int .i64 t.align, .string ⟨t.data.toArray⟩, .slice a' m c'], .int .i64 er]) ∧ Row0 v' u.heap.size (.slice a' m c') m t.rels ∧ Below u.heap.size u v')) := Lib.hid (fun u Z hu hq => by
    have := placed_any N B D k kp al a (some ⟨Z, 0, none⟩) n c 1 1 l [(⟨(B.size : Int), 1, sym, add⟩ : Rl)] u (hs.next hu) hz hq (fun h => by cases h) (by omega) (by omega) (by omega) (by omega)
    rw [hDl, ht] at this
    subst hm
    exact this)
  have HM := Lib.hid hm
  have hZ := zeroSec
  have HI : Hid (∀ u, Below w.heap.size w u → Calls Tryz.prog 16 #[.agg #[.string N, .int .i64 k, .bool kp, .int .i64 al, .string B, .slice a n c]] u (RetB (.bool (secR ⟨N.data.toList, k, kp, al, B.data.toList, l⟩)) u)) := Lib.hid (fun u hu => pIs_core N B k kp al a n c l hN hBm u (hs.next hu) hg (hT.next hu))
  rw [hsec] at HI
  have HW := Lib.hid (two_rb (w := w) (A := #[.string N, .int .i64 k, .bool kp, .int .i64 al, .string B, .slice a n c]) (B := #[.string ⟨#[]⟩, .int .i64 0, .bool false, .int .i64 0, .string ⟨#[]⟩, .slice none 0 0]) (T := 24) (U := 24))
  obtain ⟨X, hX⟩ : ∃ X, X = w.heap.size := ⟨_, rfl⟩
  rw [← hX] at HW
  have HXE := Lib.hid hX
  clear g6 g7 hBs hln ht hm hDD hD8 hDl
  clear hs hz hN hBm hg hT hsec hv
  go_enter Tryz.func21, Tryz.ntmps21
  go_wp2_with fail
  rw [← hX]
  clear hX
  change Calls _ _ _ ((w.alloc (.cells #[.string N, .int .i64 k, .bool kp, .int .i64 al, .string B, .slice a n c] 24)).alloc (.cells #[.string ⟨#[]⟩, .int .i64 0, .bool false, .int .i64 0, .string ⟨#[]⟩, .slice none 0 0] 24)) _
  generalize (w.alloc (.cells #[.string N, .int .i64 k, .bool kp, .int .i64 al, .string B, .slice a n c] 24)).alloc (.cells #[.string ⟨#[]⟩, .int .i64 0, .bool false, .int .i64 0, .string ⟨#[]⟩, .slice none 0 0] 24) = W at HW ⊢
  have HB4 : Hid (Below w.heap.size w W) := Lib.hid (by have := HW.out.2.2; rw [HXE.out] at this; exact this)
  refine (HI.out _ HB4.out).mono ?_
  rintro e u ⟨rfl, hb⟩
  have hx : RB u X #[.string N, .int .i64 k, .bool kp, .int .i64 al, .string B, .slice a n c] 24 := HW.out.1.next hb
  have hy : RB u (X + 1) #[.string ⟨#[]⟩, .int .i64 0, .bool false, .int .i64 0, .string ⟨#[]⟩, .slice none 0 0] 24 := HW.out.2.1.next hb
  have HB5 := Lib.hid (after HB4.out hb)
  clear hb
  have x0 : u.cell? ⟨X, 0, none⟩ = some (.string N) := hx.cell
  have x1 : u.cell? ⟨X, 1, none⟩ = some (.int .i64 k) := hx.cell
  have x2 : u.cell? ⟨X, 2, none⟩ = some (.bool kp) := hx.cell
  have x3 : u.cell? ⟨X, 3, none⟩ = some (.int .i64 al) := hx.cell
  have x4 : u.cell? ⟨X, 4, none⟩ = some (.string B) := hx.cell
  have x5 : u.cell? ⟨X, 5, none⟩ = some (.slice a n c) := hx.cell
  have HXl : Hid (X + 1 < u.heap.size) := Lib.hid (lt_of_block hy)
  have hXl0 : X < u.heap.size := lt_of_block hx
  have HXu := Lib.hid hx
  have HYu := Lib.hid hy
  have hlb : Below u.heap.size u (u.drew.alloc (.cells #[.int .i64 (B.size : Int), .int .i64 1, .int .i64 sym, .int .i64 add] 48)) := ((Below.refl u.heap.size u).drew).alloc (Nat.le_refl _) _
  have HLB := Lib.hid hlb
  have hsl0 : SL rlC 4 (u.drew.alloc (.cells #[.int .i64 (B.size : Int), .int .i64 1, .int .i64 sym, .int .i64 add] 48)) (u.drew.alloc (.cells #[.int .i64 (B.size : Int), .int .i64 1, .int .i64 sym, .int .i64 add] 48)).heap.size (some ⟨u.heap.size, 0, none⟩) 1 [(⟨(B.size : Int), 1, sym, add⟩ : Rl)] := by
    rw [World.size_alloc]; exact SL.lit u.drew _ [(⟨(B.size : Int), 1, sym, add⟩ : Rl)] rl_len (by decide) _ rfl 1 rfl
  have HSL0 := Lib.hid hsl0
  have k0 : (u.drew.alloc (.cells #[.int .i64 (B.size : Int), .int .i64 1, .int .i64 sym, .int .i64 add] 48)).cell? ⟨X, 0, none⟩ = some (.string N) := (HXu.out.next hlb).cell; have k1 : (u.drew.alloc (.cells #[.int .i64 (B.size : Int), .int .i64 1, .int .i64 sym, .int .i64 add] 48)).cell? ⟨X, 1, none⟩ = some (.int .i64 k) := (HXu.out.next hlb).cell; have k2 : (u.drew.alloc (.cells #[.int .i64 (B.size : Int), .int .i64 1, .int .i64 sym, .int .i64 add] 48)).cell? ⟨X, 2, none⟩ = some (.bool kp) := (HXu.out.next hlb).cell; have k3 : (u.drew.alloc (.cells #[.int .i64 (B.size : Int), .int .i64 1, .int .i64 sym, .int .i64 add] 48)).cell? ⟨X, 3, none⟩ = some (.int .i64 al) := (HXu.out.next hlb).cell; have k4 : (u.drew.alloc (.cells #[.int .i64 (B.size : Int), .int .i64 1, .int .i64 sym, .int .i64 add] 48)).cell? ⟨X, 4, none⟩ = some (.string B) := (HXu.out.next hlb).cell; have k5 : (u.drew.alloc (.cells #[.int .i64 (B.size : Int), .int .i64 1, .int .i64 sym, .int .i64 add] 48)).cell? ⟨X, 5, none⟩ = some (.slice a n c) := (HXu.out.next hlb).cell
  clear hx hy hlb hsl0
  go_wp2_with fail
  first | (go_region_law ((first
    | (go_simp; go_at_call 43; refine (HBy.out _).mono ?_; rintro e u1 ⟨rfl, hb1⟩; (first | (have hb1' : Below u.heap.size u u1 := ((Below.refl u.heap.size u).drew).trans hb1) | (have hb1' : Below u.heap.size u u1 := HLB.out.trans (hb1.mono HLB.out.size); have hq1 := HSL0.out.next hb1)); have w0 : u1.cell? ⟨X, 0, none⟩ = some (.string N) := (HXu.out.next hb1').cell; have w1 : u1.cell? ⟨X, 1, none⟩ = some (.int .i64 k) := (HXu.out.next hb1').cell; have w2 : u1.cell? ⟨X, 2, none⟩ = some (.bool kp) := (HXu.out.next hb1').cell; have w3 : u1.cell? ⟨X, 3, none⟩ = some (.int .i64 al) := (HXu.out.next hb1').cell; have w4 : u1.cell? ⟨X, 4, none⟩ = some (.string B) := (HXu.out.next hb1').cell; have w5 : u1.cell? ⟨X, 5, none⟩ = some (.slice a n c) := (HXu.out.next hb1').cell; have hX1 : X < u1.heap.size := Nat.lt_of_lt_of_le hXl0 hb1'.size)
    | (go_simp; go_at_call 41; (first | (refine (HP.out _ _ (after HB5.out hb1') hq1).mono ?_; have hW : Below u.heap.size u u1 := hb1') | (refine (HP.out _ _ (after HB5.out (hb1'.alloc hb1'.size _)) (by rw [World.size_alloc]; exact SL.lit u1 _ [(⟨(B.size : Int), 1, sym, add⟩ : Rl)] rl_len (by decide) _ rfl 1 rfl)).mono ?_; have hW : Below u.heap.size u (u1.alloc (.cells #[.int .i64 (B.size : Int), .int .i64 1, .int .i64 sym, .int .i64 add] 48)) := hb1'.alloc hb1'.size _)); rintro e v' ⟨a', c', rfl, hrow, hb2⟩; have hall : Below u.heap.size u v' := hW.trans (hb2.mono hW.size); have hrow' := hrow.mono hW.size; have hy : RB v' (X + 1) #[.string ⟨#[]⟩, .int .i64 0, .bool false, .int .i64 0, .string ⟨#[]⟩, .slice none 0 0] 24 := HYu.out.next hall; have y0 : v'.cell? ⟨X + 1, 0, none⟩ = some (.string ⟨#[]⟩) := hy.cell; have z0 : v'.frozen? ⟨X + 1, 0, none⟩ = false := hy.frozen; have y1 : v'.cell? ⟨X + 1, 1, none⟩ = some (.int .i64 0) := hy.cell; have z1 : v'.frozen? ⟨X + 1, 1, none⟩ = false := hy.frozen; have y2 : v'.cell? ⟨X + 1, 2, none⟩ = some (.bool false) := hy.cell; have z2 : v'.frozen? ⟨X + 1, 2, none⟩ = false := hy.frozen; have y3 : v'.cell? ⟨X + 1, 3, none⟩ = some (.int .i64 0) := hy.cell; have z3 : v'.frozen? ⟨X + 1, 3, none⟩ = false := hy.frozen; have y4 : v'.cell? ⟨X + 1, 4, none⟩ = some (.string ⟨#[]⟩) := hy.cell; have z4 : v'.frozen? ⟨X + 1, 4, none⟩ = false := hy.frozen; have y5 : v'.cell? ⟨X + 1, 5, none⟩ = some (.slice none 0 0) := hy.cell; have z5 : v'.frozen? ⟨X + 1, 5, none⟩ = false := hy.frozen)))) | fail
  all_goals
    have HB6 := Lib.hid (after HB5.out hall)
    have HQ := Lib.hid (gset_heap hy (.string ⟨t.name.toArray⟩) (.int .i64 t.kind) (.bool t.keep) (.int .i64 t.align) (.string ⟨t.data.toArray⟩) (.slice a' m c'))
    have HB8 := Lib.hid (gset_below HB6.out (Y := X + 1) (by rw [← HXE.out]; omega) (.string ⟨t.name.toArray⟩) (.int .i64 t.kind) (.bool t.keep) (.int .i64 t.align) (.string ⟨t.data.toArray⟩) (.slice a' m c'))
    have HR8 := Lib.hid ((gset_row hrow' (Y := X + 1) HXl.out (.string ⟨t.name.toArray⟩) (.int .i64 t.kind) (.bool t.keep) (.int .i64 t.align) (.string ⟨t.data.toArray⟩) (.slice a' m c')).mono HB5.out.size)
    clear hy hrow hrow' hall hb2
    go_wp2
    refine bodyPost_ret (results_cell_two (P := Tryz.prog) rfl _ _ (X + 1) 24 _ (0, 0) _ (.int .i64 er) rfl HQ.out Tryz.underlying24 rfl (by kernel_rfl) rfl) rfl ?_
    exact SecR.full HR.out HM.out rfl HR8.out HB8.out
theorem pQuad_any (N B : ByteArray) (k : Int) (kp : Bool) (al : Int) (a : Option Addr) (n c : Nat) (l : List Rl) (v : Nat) (hv : v < 18446744073709551616) (sym add : Int) (w : World) (hs : SL rlC 4 w w.heap.size a n l) (hz : a = none → n = 0 ∧ c = 0) (hN : N.size ≤ maxLen) (hBm : B.size ≤ maxLen) (hg : ∀ r ∈ l, GoodRl r) (hT : TabP w) : Calls Tryz.prog 21 #[.agg #[.string N, .int .i64 k, .bool kp, .int .i64 al, .string B, .slice a n c], .int .u64 (v : Int), .int .i64 sym, .int .i64 add] w (SecR (pQuadL ⟨N.data.toList, k, kp, al, B.data.toList, l⟩ v sym add) w) := by
  cases hsec : secR ⟨N.data.toList, k, kp, al, B.data.toList, l⟩
  · exact pQuad_no N B k kp al a n c l v hv sym add w hs hz hN hBm hg hT hsec
  · by_cases hsym : sym < 0
    · exact pQuad_bare N B k kp al a n c l v hv sym add w hs hz hN hBm hg hT hsec hsym
    · exact pQuad_rel N B k kp al a n c l v hv sym add w hs hz hN hBm hg hT hsec hsym
open Go.ChangeShapes Go.WideShapes Go.Deep Go.RowKit

set_option maxRecDepth 100000 in
set_option maxHeartbeats 600000 in
theorem pWord_no (N B : ByteArray) (k : Int) (kp : Bool) (al : Int) (a : Option Addr) (n c : Nat) (l : List Rl) (v : Nat) (hv : v < 4294967296) (kind sym add : Int) (w : World) (hs : SL rlC 4 w w.heap.size a n l) (hz : a = none → n = 0 ∧ c = 0) (hN : N.size ≤ maxLen) (hBm : B.size ≤ maxLen) (hg : ∀ r ∈ l, GoodRl r) (hkk : i64ok kind) (hT : TabP w) (hsec : secR ⟨N.data.toList, k, kp, al, B.data.toList, l⟩ = false) : Calls Tryz.prog 20 #[.agg #[.string N, .int .i64 k, .bool kp, .int .i64 al, .string B, .slice a n c], .int .u32 (v : Int), .int .i64 kind, .int .i64 sym, .int .i64 add] w (SecR (pWordL ⟨N.data.toList, k, kp, al, B.data.toList, l⟩ v kind sym add) w) := by
  have HR : Hid (pWordL ⟨N.data.toList, k, kp, al, B.data.toList, l⟩ v kind sym add = (scZ, 1)) := Lib.hid (by unfold pWordL; rw [hsec]; rfl)
  have hZ := zeroSec
  have HI : Hid (∀ u, Below w.heap.size w u → Calls Tryz.prog 16 #[.agg #[.string N, .int .i64 k, .bool kp, .int .i64 al, .string B, .slice a n c]] u (RetB (.bool (secR ⟨N.data.toList, k, kp, al, B.data.toList, l⟩)) u)) := Lib.hid (fun u hu => pIs_core N B k kp al a n c l hN hBm u (hs.next hu) hg (hT.next hu))
  rw [hsec] at HI
  have HW := Lib.hid (two_rb (w := w) (A := #[.string N, .int .i64 k, .bool kp, .int .i64 al, .string B, .slice a n c]) (B := #[.string ⟨#[]⟩, .int .i64 0, .bool false, .int .i64 0, .string ⟨#[]⟩, .slice none 0 0]) (T := 24) (U := 24))
  obtain ⟨X, hX⟩ : ∃ X, X = w.heap.size := ⟨_, rfl⟩
  rw [← hX] at HW
  have HXE := Lib.hid hX
  clear hs hz hN hBm hg hkk hT hsec hv
  go_enter Tryz.func20, Tryz.ntmps20
  go_wp2_with fail
  rw [← hX]
  clear hX
  change Calls _ _ _ ((w.alloc (.cells #[.string N, .int .i64 k, .bool kp, .int .i64 al, .string B, .slice a n c] 24)).alloc (.cells #[.string ⟨#[]⟩, .int .i64 0, .bool false, .int .i64 0, .string ⟨#[]⟩, .slice none 0 0] 24)) _
  generalize (w.alloc (.cells #[.string N, .int .i64 k, .bool kp, .int .i64 al, .string B, .slice a n c] 24)).alloc (.cells #[.string ⟨#[]⟩, .int .i64 0, .bool false, .int .i64 0, .string ⟨#[]⟩, .slice none 0 0] 24) = W at HW ⊢
  have HB4 : Hid (Below w.heap.size w W) := Lib.hid (by have := HW.out.2.2; rw [HXE.out] at this; exact this)
  refine (HI.out _ HB4.out).mono ?_
  rintro e u ⟨rfl, hb⟩
  have hx : RB u X #[.string N, .int .i64 k, .bool kp, .int .i64 al, .string B, .slice a n c] 24 := HW.out.1.next hb
  have hy : RB u (X + 1) #[.string ⟨#[]⟩, .int .i64 0, .bool false, .int .i64 0, .string ⟨#[]⟩, .slice none 0 0] 24 := HW.out.2.1.next hb
  have HB5 := Lib.hid (after HB4.out hb)
  clear hb
  have y0 : u.cell? ⟨X + 1, 0, none⟩ = some (.string ⟨#[]⟩) := hy.cell
  have z0 : u.frozen? ⟨X + 1, 0, none⟩ = false := hy.frozen
  have y1 : u.cell? ⟨X + 1, 1, none⟩ = some (.int .i64 0) := hy.cell
  have z1 : u.frozen? ⟨X + 1, 1, none⟩ = false := hy.frozen
  have y2 : u.cell? ⟨X + 1, 2, none⟩ = some (.bool false) := hy.cell
  have z2 : u.frozen? ⟨X + 1, 2, none⟩ = false := hy.frozen
  have y3 : u.cell? ⟨X + 1, 3, none⟩ = some (.int .i64 0) := hy.cell
  have z3 : u.frozen? ⟨X + 1, 3, none⟩ = false := hy.frozen
  have y4 : u.cell? ⟨X + 1, 4, none⟩ = some (.string ⟨#[]⟩) := hy.cell
  have z4 : u.frozen? ⟨X + 1, 4, none⟩ = false := hy.frozen
  have y5 : u.cell? ⟨X + 1, 5, none⟩ = some (.slice none 0 0) := hy.cell
  have z5 : u.frozen? ⟨X + 1, 5, none⟩ = false := hy.frozen
  have HQ := Lib.hid (gset_heap hy (.string ⟨#[]⟩) (.int .i64 0) (.bool false) (.int .i64 0) (.string ⟨#[]⟩) (.slice none 0 0))
  have HB8 := Lib.hid (gset_below HB5.out (Y := X + 1) (by rw [← HXE.out]; omega) (.string ⟨#[]⟩) (.int .i64 0) (.bool false) (.int .i64 0) (.string ⟨#[]⟩) (.slice none 0 0))
  clear hx hy
  go_wp2
  refine bodyPost_ret (results_cell_two (P := Tryz.prog) rfl _ _ (X + 1) 24 _ (0, 0) _ (.int .i64 1) rfl HQ.out Tryz.underlying24 rfl (by kernel_rfl) rfl) rfl ?_
  exact SecR.bare HR.out rfl HB8.out
set_option maxRecDepth 100000 in
set_option maxHeartbeats 1500000 in
theorem pWord_odd (N B : ByteArray) (k : Int) (kp : Bool) (al : Int) (a : Option Addr) (n c : Nat) (l : List Rl) (v : Nat) (hv : v < 4294967296) (kind sym add : Int) (w : World) (hs : SL rlC 4 w w.heap.size a n l) (hz : a = none → n = 0 ∧ c = 0) (hN : N.size ≤ maxLen) (hBm : B.size ≤ maxLen) (hg : ∀ r ∈ l, GoodRl r) (hkk : i64ok kind) (hT : TabP w) (hsec : secR ⟨N.data.toList, k, kp, al, B.data.toList, l⟩ = true) (hod : ¬ B.size % 4 = 0) : Calls Tryz.prog 20 #[.agg #[.string N, .int .i64 k, .bool kp, .int .i64 al, .string B, .slice a n c], .int .u32 (v : Int), .int .i64 kind, .int .i64 sym, .int .i64 add] w (SecR (pWordL ⟨N.data.toList, k, kp, al, B.data.toList, l⟩ v kind sym add) w) := by
  have hBs : B.data.toList.length = B.size := by simp
  have HR : Hid (pWordL ⟨N.data.toList, k, kp, al, B.data.toList, l⟩ v kind sym add = (scZ, 5)) := Lib.hid (by unfold pWordL; rw [if_pos hsec, if_pos (by simp only [hBs]; exact hod)])
  have t1 : ((B.size : Int).tmod 4 == 0) = false := by
    have : (B.size : Int).tmod 4 = (B.size : Int) % 4 := Int.tmod_eq_emod_of_nonneg (by omega)
    rw [this]; simp; omega
  have t2 : ((B.size : Int) % 4 == 0) = false := by simp; omega
  have t3 : ((B.size : Int).tmod 4 != 0) = true := by simp only [bne, t1]; rfl
  have t4 : ((B.size : Int) % 4 != 0) = true := by simp only [bne, t2]; rfl
  have hZ := zeroSec
  have HI : Hid (∀ u, Below w.heap.size w u → Calls Tryz.prog 16 #[.agg #[.string N, .int .i64 k, .bool kp, .int .i64 al, .string B, .slice a n c]] u (RetB (.bool (secR ⟨N.data.toList, k, kp, al, B.data.toList, l⟩)) u)) := Lib.hid (fun u hu => pIs_core N B k kp al a n c l hN hBm u (hs.next hu) hg (hT.next hu))
  rw [hsec] at HI
  have HW := Lib.hid (two_rb (w := w) (A := #[.string N, .int .i64 k, .bool kp, .int .i64 al, .string B, .slice a n c]) (B := #[.string ⟨#[]⟩, .int .i64 0, .bool false, .int .i64 0, .string ⟨#[]⟩, .slice none 0 0]) (T := 24) (U := 24))
  obtain ⟨X, hX⟩ : ∃ X, X = w.heap.size := ⟨_, rfl⟩
  rw [← hX] at HW
  have HXE := Lib.hid hX
  clear hBs hod
  clear hs hz hN hBm hg hkk hT hsec hv
  go_enter Tryz.func20, Tryz.ntmps20
  go_wp2_with fail
  rw [← hX]
  clear hX
  change Calls _ _ _ ((w.alloc (.cells #[.string N, .int .i64 k, .bool kp, .int .i64 al, .string B, .slice a n c] 24)).alloc (.cells #[.string ⟨#[]⟩, .int .i64 0, .bool false, .int .i64 0, .string ⟨#[]⟩, .slice none 0 0] 24)) _
  generalize (w.alloc (.cells #[.string N, .int .i64 k, .bool kp, .int .i64 al, .string B, .slice a n c] 24)).alloc (.cells #[.string ⟨#[]⟩, .int .i64 0, .bool false, .int .i64 0, .string ⟨#[]⟩, .slice none 0 0] 24) = W at HW ⊢
  have HB4 : Hid (Below w.heap.size w W) := Lib.hid (by have := HW.out.2.2; rw [HXE.out] at this; exact this)
  refine (HI.out _ HB4.out).mono ?_
  rintro e u ⟨rfl, hb⟩
  have hx : RB u X #[.string N, .int .i64 k, .bool kp, .int .i64 al, .string B, .slice a n c] 24 := HW.out.1.next hb
  have hy : RB u (X + 1) #[.string ⟨#[]⟩, .int .i64 0, .bool false, .int .i64 0, .string ⟨#[]⟩, .slice none 0 0] 24 := HW.out.2.1.next hb
  have HB5 := Lib.hid (after HB4.out hb)
  clear hb
  have x0 : u.cell? ⟨X, 0, none⟩ = some (.string N) := hx.cell
  have x1 : u.cell? ⟨X, 1, none⟩ = some (.int .i64 k) := hx.cell
  have x2 : u.cell? ⟨X, 2, none⟩ = some (.bool kp) := hx.cell
  have x3 : u.cell? ⟨X, 3, none⟩ = some (.int .i64 al) := hx.cell
  have x4 : u.cell? ⟨X, 4, none⟩ = some (.string B) := hx.cell
  have x5 : u.cell? ⟨X, 5, none⟩ = some (.slice a n c) := hx.cell
  have y0 : u.cell? ⟨X + 1, 0, none⟩ = some (.string ⟨#[]⟩) := hy.cell
  have z0 : u.frozen? ⟨X + 1, 0, none⟩ = false := hy.frozen
  have y1 : u.cell? ⟨X + 1, 1, none⟩ = some (.int .i64 0) := hy.cell
  have z1 : u.frozen? ⟨X + 1, 1, none⟩ = false := hy.frozen
  have y2 : u.cell? ⟨X + 1, 2, none⟩ = some (.bool false) := hy.cell
  have z2 : u.frozen? ⟨X + 1, 2, none⟩ = false := hy.frozen
  have y3 : u.cell? ⟨X + 1, 3, none⟩ = some (.int .i64 0) := hy.cell
  have z3 : u.frozen? ⟨X + 1, 3, none⟩ = false := hy.frozen
  have y4 : u.cell? ⟨X + 1, 4, none⟩ = some (.string ⟨#[]⟩) := hy.cell
  have z4 : u.frozen? ⟨X + 1, 4, none⟩ = false := hy.frozen
  have y5 : u.cell? ⟨X + 1, 5, none⟩ = some (.slice none 0 0) := hy.cell
  have z5 : u.frozen? ⟨X + 1, 5, none⟩ = false := hy.frozen
  have HQ := Lib.hid (gset_heap hy (.string ⟨#[]⟩) (.int .i64 0) (.bool false) (.int .i64 0) (.string ⟨#[]⟩) (.slice none 0 0))
  have HB8 := Lib.hid (gset_below HB5.out (Y := X + 1) (by rw [← HXE.out]; omega) (.string ⟨#[]⟩) (.int .i64 0) (.bool false) (.int .i64 0) (.string ⟨#[]⟩) (.slice none 0 0))
  clear hx hy
  go_wp2
  refine bodyPost_ret (results_cell_two (P := Tryz.prog) rfl _ _ (X + 1) 24 _ (0, 0) _ (.int .i64 5) rfl HQ.out Tryz.underlying24 rfl (by kernel_rfl) rfl) rfl ?_
  exact SecR.bare HR.out rfl HB8.out
set_option maxRecDepth 100000 in
set_option maxHeartbeats 600000 in
theorem pWord_bare (N B : ByteArray) (k : Int) (kp : Bool) (al : Int) (a : Option Addr) (n c : Nat) (l : List Rl) (v : Nat) (hv : v < 4294967296) (sym add : Int) (w : World) (hs : SL rlC 4 w w.heap.size a n l) (hz : a = none → n = 0 ∧ c = 0) (hN : N.size ≤ maxLen) (hBm : B.size ≤ maxLen) (hg : ∀ r ∈ l, GoodRl r) (hT : TabP w) (hsec : secR ⟨N.data.toList, k, kp, al, B.data.toList, l⟩ = true) (hod : B.size % 4 = 0) : Calls Tryz.prog 20 #[.agg #[.string N, .int .i64 k, .bool kp, .int .i64 al, .string B, .slice a n c], .int .u32 (v : Int), .int .i64 0, .int .i64 sym, .int .i64 add] w (SecR (pWordL ⟨N.data.toList, k, kp, al, B.data.toList, l⟩ v 0 sym add) w) := by
  have hBs : B.data.toList.length = B.size := by simp
  have t1 : ((B.size : Int).tmod 4 == 0) = true := by
    have : (B.size : Int).tmod 4 = (B.size : Int) % 4 := Int.tmod_eq_emod_of_nonneg (by omega)
    rw [this]; simp; omega
  have t2 : ((B.size : Int) % 4 == 0) = true := by simp; omega
  have t3 : ((B.size : Int).tmod 4 != 0) = false := by simp only [bne, t1]; rfl
  have t4 : ((B.size : Int) % 4 != 0) = false := by simp only [bne, t2]; rfl
  have hwu : IntKind.u64.wrap (v : Int) = (v : Int) := by rw [IntKind.wrap_u64]; omega
  obtain ⟨t, er, ht⟩ : ∃ t er, placedL ⟨N.data.toList, k, kp, al, B.data.toList, l⟩ (leB 4 v) [] = (t, er) := ⟨_, _, rfl⟩
  have HR : Hid (pWordL ⟨N.data.toList, k, kp, al, B.data.toList, l⟩ v 0 sym add = (t, er)) := Lib.hid (by unfold pWordL; rw [if_pos hsec, if_neg (by simp only [hBs]; omega), if_pos rfl, ht])
  obtain ⟨-, -, -, -, -, g6, g7⟩ := head_iff.1 (sec_iff.1 hsec).1
  simp only at g6 g7
  have hln := hs.len
  obtain ⟨m, hm⟩ : ∃ m, m = t.rels.length := ⟨_, rfl⟩
  obtain ⟨D, hDD⟩ : ∃ D : ByteArray, D = ⟨(leB 4 v).toArray⟩ := ⟨_, rfl⟩
  have hD4 : D.size = 4 := by rw [hDD]; show (leB 4 v).toArray.size = 4; rw [List.size_toArray, leB_len]
  have hDl : D.data.toList = leB 4 v := by rw [hDD]
  have HBy : Hid (∀ u, Calls Tryz.prog 43 #[.int .u64 (v : Int), .int .i64 4] u (RetB (.string D) u)) := Lib.hid (fun u => by rw [hDD]; exact bytes4 v u (by omega))
  have HP : Hid (∀ u, Below w.heap.size w u → Calls Tryz.prog 41 #[.agg #[.string N, .int .i64 k, .bool kp, .int .i64 al, .string B, .slice a n c], .string D, .slice none 0 0] u (fun e v' => ∃ a' c', e = .returned (.tuple #[.agg #[.string ⟨t.name.toArray⟩, .int .i64 t.kind, .bool t.keep, .int .i64 t.align, .string ⟨t.data.toArray⟩, .slice a' m c'], .int .i64 er]) ∧ Row0 v' u.heap.size (.slice a' m c') m t.rels ∧ Below u.heap.size u v')) := Lib.hid (fun u hu => by
    have := placed_any N B D k kp al a none n c 0 0 l [] u (hs.next hu) hz (SL.nil _ _ _) (fun _ => ⟨rfl, rfl⟩) (by omega) (by omega) (by omega) (by omega)
    rw [hDl, ht] at this
    subst hm
    exact this)
  have HM := Lib.hid hm
  have hZ := zeroSec
  have HI : Hid (∀ u, Below w.heap.size w u → Calls Tryz.prog 16 #[.agg #[.string N, .int .i64 k, .bool kp, .int .i64 al, .string B, .slice a n c]] u (RetB (.bool (secR ⟨N.data.toList, k, kp, al, B.data.toList, l⟩)) u)) := Lib.hid (fun u hu => pIs_core N B k kp al a n c l hN hBm u (hs.next hu) hg (hT.next hu))
  rw [hsec] at HI
  have HW := Lib.hid (two_rb (w := w) (A := #[.string N, .int .i64 k, .bool kp, .int .i64 al, .string B, .slice a n c]) (B := #[.string ⟨#[]⟩, .int .i64 0, .bool false, .int .i64 0, .string ⟨#[]⟩, .slice none 0 0]) (T := 24) (U := 24))
  obtain ⟨X, hX⟩ : ∃ X, X = w.heap.size := ⟨_, rfl⟩
  rw [← hX] at HW
  have HXE := Lib.hid hX
  clear hod
  clear g6 g7 hBs hln ht hm hDD hD4 hDl
  clear hs hz hN hBm hg hT hsec hv
  go_enter Tryz.func20, Tryz.ntmps20
  go_wp2_with fail
  rw [← hX]
  clear hX
  change Calls _ _ _ ((w.alloc (.cells #[.string N, .int .i64 k, .bool kp, .int .i64 al, .string B, .slice a n c] 24)).alloc (.cells #[.string ⟨#[]⟩, .int .i64 0, .bool false, .int .i64 0, .string ⟨#[]⟩, .slice none 0 0] 24)) _
  generalize (w.alloc (.cells #[.string N, .int .i64 k, .bool kp, .int .i64 al, .string B, .slice a n c] 24)).alloc (.cells #[.string ⟨#[]⟩, .int .i64 0, .bool false, .int .i64 0, .string ⟨#[]⟩, .slice none 0 0] 24) = W at HW ⊢
  have HB4 : Hid (Below w.heap.size w W) := Lib.hid (by have := HW.out.2.2; rw [HXE.out] at this; exact this)
  refine (HI.out _ HB4.out).mono ?_
  rintro e u ⟨rfl, hb⟩
  have hx : RB u X #[.string N, .int .i64 k, .bool kp, .int .i64 al, .string B, .slice a n c] 24 := HW.out.1.next hb
  have hy : RB u (X + 1) #[.string ⟨#[]⟩, .int .i64 0, .bool false, .int .i64 0, .string ⟨#[]⟩, .slice none 0 0] 24 := HW.out.2.1.next hb
  have HB5 := Lib.hid (after HB4.out hb)
  clear hb
  have x0 : u.cell? ⟨X, 0, none⟩ = some (.string N) := hx.cell
  have x1 : u.cell? ⟨X, 1, none⟩ = some (.int .i64 k) := hx.cell
  have x2 : u.cell? ⟨X, 2, none⟩ = some (.bool kp) := hx.cell
  have x3 : u.cell? ⟨X, 3, none⟩ = some (.int .i64 al) := hx.cell
  have x4 : u.cell? ⟨X, 4, none⟩ = some (.string B) := hx.cell
  have x5 : u.cell? ⟨X, 5, none⟩ = some (.slice a n c) := hx.cell
  have HXl : Hid (X + 1 < u.heap.size) := Lib.hid (lt_of_block hy)
  have HXu := Lib.hid hx
  have HYu := Lib.hid hy
  clear hx hy
  go_wp2_with fail
  first | (go_region_law ((first
    | (go_simp; go_at_call 43; refine (HBy.out _).mono ?_; rintro e u1 ⟨rfl, hb1⟩; have hb1' := ((Below.refl u.heap.size u).drew).trans hb1; have w0 : u1.cell? ⟨X, 0, none⟩ = some (.string N) := (HXu.out.next hb1').cell; have w1 : u1.cell? ⟨X, 1, none⟩ = some (.int .i64 k) := (HXu.out.next hb1').cell; have w2 : u1.cell? ⟨X, 2, none⟩ = some (.bool kp) := (HXu.out.next hb1').cell; have w3 : u1.cell? ⟨X, 3, none⟩ = some (.int .i64 al) := (HXu.out.next hb1').cell; have w4 : u1.cell? ⟨X, 4, none⟩ = some (.string B) := (HXu.out.next hb1').cell; have w5 : u1.cell? ⟨X, 5, none⟩ = some (.slice a n c) := (HXu.out.next hb1').cell)
    | (go_simp; go_at_call 41; refine (HP.out _ (after HB5.out hb1')).mono ?_; rintro e v' ⟨a', c', rfl, hrow, hb2⟩; have hy : RB v' (X + 1) #[.string ⟨#[]⟩, .int .i64 0, .bool false, .int .i64 0, .string ⟨#[]⟩, .slice none 0 0] 24 := (HYu.out.next hb1').next hb2; have y0 : v'.cell? ⟨X + 1, 0, none⟩ = some (.string ⟨#[]⟩) := hy.cell; have z0 : v'.frozen? ⟨X + 1, 0, none⟩ = false := hy.frozen; have y1 : v'.cell? ⟨X + 1, 1, none⟩ = some (.int .i64 0) := hy.cell; have z1 : v'.frozen? ⟨X + 1, 1, none⟩ = false := hy.frozen; have y2 : v'.cell? ⟨X + 1, 2, none⟩ = some (.bool false) := hy.cell; have z2 : v'.frozen? ⟨X + 1, 2, none⟩ = false := hy.frozen; have y3 : v'.cell? ⟨X + 1, 3, none⟩ = some (.int .i64 0) := hy.cell; have z3 : v'.frozen? ⟨X + 1, 3, none⟩ = false := hy.frozen; have y4 : v'.cell? ⟨X + 1, 4, none⟩ = some (.string ⟨#[]⟩) := hy.cell; have z4 : v'.frozen? ⟨X + 1, 4, none⟩ = false := hy.frozen; have y5 : v'.cell? ⟨X + 1, 5, none⟩ = some (.slice none 0 0) := hy.cell; have z5 : v'.frozen? ⟨X + 1, 5, none⟩ = false := hy.frozen)))) | fail

  all_goals
    have HB6 := Lib.hid (after (after HB5.out hb1') hb2)
    have HQ := Lib.hid (gset_heap hy (.string ⟨t.name.toArray⟩) (.int .i64 t.kind) (.bool t.keep) (.int .i64 t.align) (.string ⟨t.data.toArray⟩) (.slice a' m c'))
    have HB8 := Lib.hid (gset_below HB6.out (Y := X + 1) (by rw [← HXE.out]; omega) (.string ⟨t.name.toArray⟩) (.int .i64 t.kind) (.bool t.keep) (.int .i64 t.align) (.string ⟨t.data.toArray⟩) (.slice a' m c'))
    have HR8 := Lib.hid ((gset_row hrow (Y := X + 1) (Nat.lt_of_lt_of_le HXl.out hb1'.size) (.string ⟨t.name.toArray⟩) (.int .i64 t.kind) (.bool t.keep) (.int .i64 t.align) (.string ⟨t.data.toArray⟩) (.slice a' m c')).mono (after HB5.out hb1').size)
    clear hy hrow hb1 hb1' hb2
    go_wp2
    refine bodyPost_ret (results_cell_two (P := Tryz.prog) rfl _ _ (X + 1) 24 _ (0, 0) _ (.int .i64 er) rfl HQ.out Tryz.underlying24 rfl (by kernel_rfl) rfl) rfl ?_
    exact SecR.full HR.out HM.out rfl HR8.out HB8.out
open Go.ChangeShapes Go.WideShapes Go.Deep Go.RowKit

set_option maxRecDepth 100000 in
set_option maxHeartbeats 1500000 in
theorem pWord_kind (N B : ByteArray) (k : Int) (kp : Bool) (al : Int) (a : Option Addr) (n c : Nat) (l : List Rl) (v : Nat) (hv : v < 4294967296) (kind sym add : Int) (w : World) (hs : SL rlC 4 w w.heap.size a n l) (hz : a = none → n = 0 ∧ c = 0) (hN : N.size ≤ maxLen) (hBm : B.size ≤ maxLen) (hg : ∀ r ∈ l, GoodRl r) (hkk : i64ok kind) (hT : TabP w) (hsec : secR ⟨N.data.toList, k, kp, al, B.data.toList, l⟩ = true) (hod : B.size % 4 = 0) (hk0 : kind ≠ 0) (hk1 : k ≠ 1) : Calls Tryz.prog 20 #[.agg #[.string N, .int .i64 k, .bool kp, .int .i64 al, .string B, .slice a n c], .int .u32 (v : Int), .int .i64 kind, .int .i64 sym, .int .i64 add] w (SecR (pWordL ⟨N.data.toList, k, kp, al, B.data.toList, l⟩ v kind sym add) w) := by
  have hBs : B.data.toList.length = B.size := by simp
  have HR : Hid (pWordL ⟨N.data.toList, k, kp, al, B.data.toList, l⟩ v kind sym add = (scZ, 1)) := Lib.hid (by unfold pWordL; rw [if_pos hsec, if_neg (by simp only [hBs]; omega), if_neg hk0, if_pos (.inl hk1)])
  have rk0 : (kind == 0) = false := by simp; exact hk0
  have rk1 : (k != 1) = true := by rw [bne_iff_ne]; exact hk1
  have t1 : ((B.size : Int).tmod 4 == 0) = true := by
    have : (B.size : Int).tmod 4 = (B.size : Int) % 4 := Int.tmod_eq_emod_of_nonneg (by omega)
    rw [this]; simp; omega
  have t2 : ((B.size : Int) % 4 == 0) = true := by simp; omega
  have t3 : ((B.size : Int).tmod 4 != 0) = false := by simp only [bne, t1]; rfl
  have t4 : ((B.size : Int) % 4 != 0) = false := by simp only [bne, t2]; rfl
  have hZ := zeroSec
  have HI : Hid (∀ u, Below w.heap.size w u → Calls Tryz.prog 16 #[.agg #[.string N, .int .i64 k, .bool kp, .int .i64 al, .string B, .slice a n c]] u (RetB (.bool (secR ⟨N.data.toList, k, kp, al, B.data.toList, l⟩)) u)) := Lib.hid (fun u hu => pIs_core N B k kp al a n c l hN hBm u (hs.next hu) hg (hT.next hu))
  rw [hsec] at HI
  have HW := Lib.hid (two_rb (w := w) (A := #[.string N, .int .i64 k, .bool kp, .int .i64 al, .string B, .slice a n c]) (B := #[.string ⟨#[]⟩, .int .i64 0, .bool false, .int .i64 0, .string ⟨#[]⟩, .slice none 0 0]) (T := 24) (U := 24))
  obtain ⟨X, hX⟩ : ∃ X, X = w.heap.size := ⟨_, rfl⟩
  rw [← hX] at HW
  have HXE := Lib.hid hX
  clear hBs hod hk0 hk1
  clear hs hz hN hBm hg hkk hT hsec hv
  go_enter Tryz.func20, Tryz.ntmps20
  go_wp2_with fail
  rw [← hX]
  clear hX
  change Calls _ _ _ ((w.alloc (.cells #[.string N, .int .i64 k, .bool kp, .int .i64 al, .string B, .slice a n c] 24)).alloc (.cells #[.string ⟨#[]⟩, .int .i64 0, .bool false, .int .i64 0, .string ⟨#[]⟩, .slice none 0 0] 24)) _
  generalize (w.alloc (.cells #[.string N, .int .i64 k, .bool kp, .int .i64 al, .string B, .slice a n c] 24)).alloc (.cells #[.string ⟨#[]⟩, .int .i64 0, .bool false, .int .i64 0, .string ⟨#[]⟩, .slice none 0 0] 24) = W at HW ⊢
  have HB4 : Hid (Below w.heap.size w W) := Lib.hid (by have := HW.out.2.2; rw [HXE.out] at this; exact this)
  refine (HI.out _ HB4.out).mono ?_
  rintro e u ⟨rfl, hb⟩
  have hx : RB u X #[.string N, .int .i64 k, .bool kp, .int .i64 al, .string B, .slice a n c] 24 := HW.out.1.next hb
  have hy : RB u (X + 1) #[.string ⟨#[]⟩, .int .i64 0, .bool false, .int .i64 0, .string ⟨#[]⟩, .slice none 0 0] 24 := HW.out.2.1.next hb
  have HB5 := Lib.hid (after HB4.out hb)
  clear hb
  have x0 : u.cell? ⟨X, 0, none⟩ = some (.string N) := hx.cell
  have x1 : u.cell? ⟨X, 1, none⟩ = some (.int .i64 k) := hx.cell
  have x2 : u.cell? ⟨X, 2, none⟩ = some (.bool kp) := hx.cell
  have x3 : u.cell? ⟨X, 3, none⟩ = some (.int .i64 al) := hx.cell
  have x4 : u.cell? ⟨X, 4, none⟩ = some (.string B) := hx.cell
  have x5 : u.cell? ⟨X, 5, none⟩ = some (.slice a n c) := hx.cell
  have y0 : u.cell? ⟨X + 1, 0, none⟩ = some (.string ⟨#[]⟩) := hy.cell
  have z0 : u.frozen? ⟨X + 1, 0, none⟩ = false := hy.frozen
  have y1 : u.cell? ⟨X + 1, 1, none⟩ = some (.int .i64 0) := hy.cell
  have z1 : u.frozen? ⟨X + 1, 1, none⟩ = false := hy.frozen
  have y2 : u.cell? ⟨X + 1, 2, none⟩ = some (.bool false) := hy.cell
  have z2 : u.frozen? ⟨X + 1, 2, none⟩ = false := hy.frozen
  have y3 : u.cell? ⟨X + 1, 3, none⟩ = some (.int .i64 0) := hy.cell
  have z3 : u.frozen? ⟨X + 1, 3, none⟩ = false := hy.frozen
  have y4 : u.cell? ⟨X + 1, 4, none⟩ = some (.string ⟨#[]⟩) := hy.cell
  have z4 : u.frozen? ⟨X + 1, 4, none⟩ = false := hy.frozen
  have y5 : u.cell? ⟨X + 1, 5, none⟩ = some (.slice none 0 0) := hy.cell
  have z5 : u.frozen? ⟨X + 1, 5, none⟩ = false := hy.frozen
  have HQ := Lib.hid (gset_heap hy (.string ⟨#[]⟩) (.int .i64 0) (.bool false) (.int .i64 0) (.string ⟨#[]⟩) (.slice none 0 0))
  have HB8 := Lib.hid (gset_below HB5.out (Y := X + 1) (by rw [← HXE.out]; omega) (.string ⟨#[]⟩) (.int .i64 0) (.bool false) (.int .i64 0) (.string ⟨#[]⟩) (.slice none 0 0))
  clear hx hy
  go_wp2
  refine bodyPost_ret (results_cell_two (P := Tryz.prog) rfl _ _ (X + 1) 24 _ (0, 0) _ (.int .i64 1) rfl HQ.out Tryz.underlying24 rfl (by kernel_rfl) rfl) rfl ?_
  exact SecR.bare HR.out rfl HB8.out
set_option maxRecDepth 100000 in
set_option maxHeartbeats 600000 in
theorem pWord_unfit (N B : ByteArray) (k : Int) (kp : Bool) (al : Int) (a : Option Addr) (n c : Nat) (l : List Rl) (v : Nat) (hv : v < 4294967296) (kind sym add : Int) (w : World) (hs : SL rlC 4 w w.heap.size a n l) (hz : a = none → n = 0 ∧ c = 0) (hN : N.size ≤ maxLen) (hBm : B.size ≤ maxLen) (hg : ∀ r ∈ l, GoodRl r) (hkk : i64ok kind) (hT : TabP w) (hsec : secR ⟨N.data.toList, k, kp, al, B.data.toList, l⟩ = true) (hod : B.size % 4 = 0) (hk0 : kind ≠ 0) (hk1 : k = 1) (hfit : fitsI kind (readW v) = false) : Calls Tryz.prog 20 #[.agg #[.string N, .int .i64 k, .bool kp, .int .i64 al, .string B, .slice a n c], .int .u32 (v : Int), .int .i64 kind, .int .i64 sym, .int .i64 add] w (SecR (pWordL ⟨N.data.toList, k, kp, al, B.data.toList, l⟩ v kind sym add) w) := by
  have hBs : B.data.toList.length = B.size := by simp
  have HR : Hid (pWordL ⟨N.data.toList, k, kp, al, B.data.toList, l⟩ v kind sym add = (scZ, 1)) := Lib.hid (by unfold pWordL; rw [if_pos hsec, if_neg (by simp only [hBs]; omega), if_neg hk0, if_pos (.inr (.inl hfit))])
  have rk0 : (kind == 0) = false := by simp; exact hk0
  have rk1 : (k != 1) = false := by rw [hk1]; rfl
  have HT := Lib.hid hT
  have HF : Hid (∀ u, TabP u → Calls Tryz.prog 24 #[.int .i64 kind, .int .u32 (v : Int)] u (RetB (.bool (fitsI kind (readW v))) u)) := Lib.hid (fun u hu => Fits_any kind v u hkk.1 hkk.2 (by omega) hu.1)
  rw [hfit] at HF
  have t1 : ((B.size : Int).tmod 4 == 0) = true := by
    have : (B.size : Int).tmod 4 = (B.size : Int) % 4 := Int.tmod_eq_emod_of_nonneg (by omega)
    rw [this]; simp; omega
  have t2 : ((B.size : Int) % 4 == 0) = true := by simp; omega
  have t3 : ((B.size : Int).tmod 4 != 0) = false := by simp only [bne, t1]; rfl
  have t4 : ((B.size : Int) % 4 != 0) = false := by simp only [bne, t2]; rfl
  have hZ := zeroSec
  have HI : Hid (∀ u, Below w.heap.size w u → Calls Tryz.prog 16 #[.agg #[.string N, .int .i64 k, .bool kp, .int .i64 al, .string B, .slice a n c]] u (RetB (.bool (secR ⟨N.data.toList, k, kp, al, B.data.toList, l⟩)) u)) := Lib.hid (fun u hu => pIs_core N B k kp al a n c l hN hBm u (hs.next hu) hg (hT.next hu))
  rw [hsec] at HI
  have HW := Lib.hid (two_rb (w := w) (A := #[.string N, .int .i64 k, .bool kp, .int .i64 al, .string B, .slice a n c]) (B := #[.string ⟨#[]⟩, .int .i64 0, .bool false, .int .i64 0, .string ⟨#[]⟩, .slice none 0 0]) (T := 24) (U := 24))
  obtain ⟨X, hX⟩ : ∃ X, X = w.heap.size := ⟨_, rfl⟩
  rw [← hX] at HW
  have HXE := Lib.hid hX
  clear hBs hod hk0 hk1 hfit
  clear hs hz hN hBm hg hkk hT hsec hv
  go_enter Tryz.func20, Tryz.ntmps20
  go_wp2_with fail
  rw [← hX]
  clear hX
  change Calls _ _ _ ((w.alloc (.cells #[.string N, .int .i64 k, .bool kp, .int .i64 al, .string B, .slice a n c] 24)).alloc (.cells #[.string ⟨#[]⟩, .int .i64 0, .bool false, .int .i64 0, .string ⟨#[]⟩, .slice none 0 0] 24)) _
  generalize (w.alloc (.cells #[.string N, .int .i64 k, .bool kp, .int .i64 al, .string B, .slice a n c] 24)).alloc (.cells #[.string ⟨#[]⟩, .int .i64 0, .bool false, .int .i64 0, .string ⟨#[]⟩, .slice none 0 0] 24) = W at HW ⊢
  have HB4 : Hid (Below w.heap.size w W) := Lib.hid (by have := HW.out.2.2; rw [HXE.out] at this; exact this)
  refine (HI.out _ HB4.out).mono ?_
  rintro e u0 ⟨rfl, hb⟩
  have hx : RB u0 X #[.string N, .int .i64 k, .bool kp, .int .i64 al, .string B, .slice a n c] 24 := HW.out.1.next hb
  have hy : RB u0 (X + 1) #[.string ⟨#[]⟩, .int .i64 0, .bool false, .int .i64 0, .string ⟨#[]⟩, .slice none 0 0] 24 := HW.out.2.1.next hb
  have HB5 := Lib.hid (after HB4.out hb)
  clear hb
  have x0 : u0.cell? ⟨X, 0, none⟩ = some (.string N) := hx.cell
  have x1 : u0.cell? ⟨X, 1, none⟩ = some (.int .i64 k) := hx.cell
  have x2 : u0.cell? ⟨X, 2, none⟩ = some (.bool kp) := hx.cell
  have x3 : u0.cell? ⟨X, 3, none⟩ = some (.int .i64 al) := hx.cell
  have x4 : u0.cell? ⟨X, 4, none⟩ = some (.string B) := hx.cell
  have x5 : u0.cell? ⟨X, 5, none⟩ = some (.slice a n c) := hx.cell
  go_wp2_with fail
  refine (HF.out _ (HT.out.next HB5.out)).mono ?_
  rintro e u ⟨rfl, hb1⟩
  have hy : RB u (X + 1) #[.string ⟨#[]⟩, .int .i64 0, .bool false, .int .i64 0, .string ⟨#[]⟩, .slice none 0 0] 24 := hy.next hb1
  have hx : RB u X #[.string N, .int .i64 k, .bool kp, .int .i64 al, .string B, .slice a n c] 24 := hx.next hb1
  have HB5 := Lib.hid (after HB5.out hb1)
  clear hb1 x0 x1 x2 x3 x4 x5
  have y0 : u.cell? ⟨X + 1, 0, none⟩ = some (.string ⟨#[]⟩) := hy.cell
  have z0 : u.frozen? ⟨X + 1, 0, none⟩ = false := hy.frozen
  have y1 : u.cell? ⟨X + 1, 1, none⟩ = some (.int .i64 0) := hy.cell
  have z1 : u.frozen? ⟨X + 1, 1, none⟩ = false := hy.frozen
  have y2 : u.cell? ⟨X + 1, 2, none⟩ = some (.bool false) := hy.cell
  have z2 : u.frozen? ⟨X + 1, 2, none⟩ = false := hy.frozen
  have y3 : u.cell? ⟨X + 1, 3, none⟩ = some (.int .i64 0) := hy.cell
  have z3 : u.frozen? ⟨X + 1, 3, none⟩ = false := hy.frozen
  have y4 : u.cell? ⟨X + 1, 4, none⟩ = some (.string ⟨#[]⟩) := hy.cell
  have z4 : u.frozen? ⟨X + 1, 4, none⟩ = false := hy.frozen
  have y5 : u.cell? ⟨X + 1, 5, none⟩ = some (.slice none 0 0) := hy.cell
  have z5 : u.frozen? ⟨X + 1, 5, none⟩ = false := hy.frozen
  have HQ := Lib.hid (gset_heap hy (.string ⟨#[]⟩) (.int .i64 0) (.bool false) (.int .i64 0) (.string ⟨#[]⟩) (.slice none 0 0))
  have HB8 := Lib.hid (gset_below HB5.out (Y := X + 1) (by rw [← HXE.out]; omega) (.string ⟨#[]⟩) (.int .i64 0) (.bool false) (.int .i64 0) (.string ⟨#[]⟩) (.slice none 0 0))
  clear hx hy
  go_wp2
  refine bodyPost_ret (results_cell_two (P := Tryz.prog) rfl _ _ (X + 1) 24 _ (0, 0) _ (.int .i64 1) rfl HQ.out Tryz.underlying24 rfl (by kernel_rfl) rfl) rfl ?_
  exact SecR.bare HR.out rfl HB8.out
set_option maxRecDepth 100000 in
set_option maxHeartbeats 600000 in
theorem pWord_nosym (N B : ByteArray) (k : Int) (kp : Bool) (al : Int) (a : Option Addr) (n c : Nat) (l : List Rl) (v : Nat) (hv : v < 4294967296) (kind sym add : Int) (w : World) (hs : SL rlC 4 w w.heap.size a n l) (hz : a = none → n = 0 ∧ c = 0) (hN : N.size ≤ maxLen) (hBm : B.size ≤ maxLen) (hg : ∀ r ∈ l, GoodRl r) (hkk : i64ok kind) (hT : TabP w) (hsec : secR ⟨N.data.toList, k, kp, al, B.data.toList, l⟩ = true) (hod : B.size % 4 = 0) (hk0 : kind ≠ 0) (hk1 : k = 1) (hfit : fitsI kind (readW v) = true) (hsym : sym < 0) : Calls Tryz.prog 20 #[.agg #[.string N, .int .i64 k, .bool kp, .int .i64 al, .string B, .slice a n c], .int .u32 (v : Int), .int .i64 kind, .int .i64 sym, .int .i64 add] w (SecR (pWordL ⟨N.data.toList, k, kp, al, B.data.toList, l⟩ v kind sym add) w) := by
  have hBs : B.data.toList.length = B.size := by simp
  have HR : Hid (pWordL ⟨N.data.toList, k, kp, al, B.data.toList, l⟩ v kind sym add = (scZ, 1)) := Lib.hid (by unfold pWordL; rw [if_pos hsec, if_neg (by simp only [hBs]; omega), if_neg hk0, if_pos (.inr (.inr hsym))])
  have rk0 : (kind == 0) = false := by simp; exact hk0
  have rk1 : (k != 1) = false := by rw [hk1]; rfl
  have HT := Lib.hid hT
  have HF : Hid (∀ u, TabP u → Calls Tryz.prog 24 #[.int .i64 kind, .int .u32 (v : Int)] u (RetB (.bool (fitsI kind (readW v))) u)) := Lib.hid (fun u hu => Fits_any kind v u hkk.1 hkk.2 (by omega) hu.1)
  rw [hfit] at HF
  have t1 : ((B.size : Int).tmod 4 == 0) = true := by
    have : (B.size : Int).tmod 4 = (B.size : Int) % 4 := Int.tmod_eq_emod_of_nonneg (by omega)
    rw [this]; simp; omega
  have t2 : ((B.size : Int) % 4 == 0) = true := by simp; omega
  have t3 : ((B.size : Int).tmod 4 != 0) = false := by simp only [bne, t1]; rfl
  have t4 : ((B.size : Int) % 4 != 0) = false := by simp only [bne, t2]; rfl
  have hZ := zeroSec
  have HI : Hid (∀ u, Below w.heap.size w u → Calls Tryz.prog 16 #[.agg #[.string N, .int .i64 k, .bool kp, .int .i64 al, .string B, .slice a n c]] u (RetB (.bool (secR ⟨N.data.toList, k, kp, al, B.data.toList, l⟩)) u)) := Lib.hid (fun u hu => pIs_core N B k kp al a n c l hN hBm u (hs.next hu) hg (hT.next hu))
  rw [hsec] at HI
  have HW := Lib.hid (two_rb (w := w) (A := #[.string N, .int .i64 k, .bool kp, .int .i64 al, .string B, .slice a n c]) (B := #[.string ⟨#[]⟩, .int .i64 0, .bool false, .int .i64 0, .string ⟨#[]⟩, .slice none 0 0]) (T := 24) (U := 24))
  obtain ⟨X, hX⟩ : ∃ X, X = w.heap.size := ⟨_, rfl⟩
  rw [← hX] at HW
  have HXE := Lib.hid hX
  clear hBs hod hk0 hk1 hfit
  clear hs hz hN hBm hg hkk hT hsec hv
  go_enter Tryz.func20, Tryz.ntmps20
  go_wp2_with fail
  rw [← hX]
  clear hX
  change Calls _ _ _ ((w.alloc (.cells #[.string N, .int .i64 k, .bool kp, .int .i64 al, .string B, .slice a n c] 24)).alloc (.cells #[.string ⟨#[]⟩, .int .i64 0, .bool false, .int .i64 0, .string ⟨#[]⟩, .slice none 0 0] 24)) _
  generalize (w.alloc (.cells #[.string N, .int .i64 k, .bool kp, .int .i64 al, .string B, .slice a n c] 24)).alloc (.cells #[.string ⟨#[]⟩, .int .i64 0, .bool false, .int .i64 0, .string ⟨#[]⟩, .slice none 0 0] 24) = W at HW ⊢
  have HB4 : Hid (Below w.heap.size w W) := Lib.hid (by have := HW.out.2.2; rw [HXE.out] at this; exact this)
  refine (HI.out _ HB4.out).mono ?_
  rintro e u0 ⟨rfl, hb⟩
  have hx : RB u0 X #[.string N, .int .i64 k, .bool kp, .int .i64 al, .string B, .slice a n c] 24 := HW.out.1.next hb
  have hy : RB u0 (X + 1) #[.string ⟨#[]⟩, .int .i64 0, .bool false, .int .i64 0, .string ⟨#[]⟩, .slice none 0 0] 24 := HW.out.2.1.next hb
  have HB5 := Lib.hid (after HB4.out hb)
  clear hb
  have x0 : u0.cell? ⟨X, 0, none⟩ = some (.string N) := hx.cell
  have x1 : u0.cell? ⟨X, 1, none⟩ = some (.int .i64 k) := hx.cell
  have x2 : u0.cell? ⟨X, 2, none⟩ = some (.bool kp) := hx.cell
  have x3 : u0.cell? ⟨X, 3, none⟩ = some (.int .i64 al) := hx.cell
  have x4 : u0.cell? ⟨X, 4, none⟩ = some (.string B) := hx.cell
  have x5 : u0.cell? ⟨X, 5, none⟩ = some (.slice a n c) := hx.cell
  go_wp2_with fail
  refine (HF.out _ (HT.out.next HB5.out)).mono ?_
  rintro e u ⟨rfl, hb1⟩
  have hy : RB u (X + 1) #[.string ⟨#[]⟩, .int .i64 0, .bool false, .int .i64 0, .string ⟨#[]⟩, .slice none 0 0] 24 := hy.next hb1
  have hx : RB u X #[.string N, .int .i64 k, .bool kp, .int .i64 al, .string B, .slice a n c] 24 := hx.next hb1
  have HB5 := Lib.hid (after HB5.out hb1)
  clear hb1 x0 x1 x2 x3 x4 x5
  have y0 : u.cell? ⟨X + 1, 0, none⟩ = some (.string ⟨#[]⟩) := hy.cell
  have z0 : u.frozen? ⟨X + 1, 0, none⟩ = false := hy.frozen
  have y1 : u.cell? ⟨X + 1, 1, none⟩ = some (.int .i64 0) := hy.cell
  have z1 : u.frozen? ⟨X + 1, 1, none⟩ = false := hy.frozen
  have y2 : u.cell? ⟨X + 1, 2, none⟩ = some (.bool false) := hy.cell
  have z2 : u.frozen? ⟨X + 1, 2, none⟩ = false := hy.frozen
  have y3 : u.cell? ⟨X + 1, 3, none⟩ = some (.int .i64 0) := hy.cell
  have z3 : u.frozen? ⟨X + 1, 3, none⟩ = false := hy.frozen
  have y4 : u.cell? ⟨X + 1, 4, none⟩ = some (.string ⟨#[]⟩) := hy.cell
  have z4 : u.frozen? ⟨X + 1, 4, none⟩ = false := hy.frozen
  have y5 : u.cell? ⟨X + 1, 5, none⟩ = some (.slice none 0 0) := hy.cell
  have z5 : u.frozen? ⟨X + 1, 5, none⟩ = false := hy.frozen
  have HQ := Lib.hid (gset_heap hy (.string ⟨#[]⟩) (.int .i64 0) (.bool false) (.int .i64 0) (.string ⟨#[]⟩) (.slice none 0 0))
  have HB8 := Lib.hid (gset_below HB5.out (Y := X + 1) (by rw [← HXE.out]; omega) (.string ⟨#[]⟩) (.int .i64 0) (.bool false) (.int .i64 0) (.string ⟨#[]⟩) (.slice none 0 0))
  clear hx hy
  go_wp2
  refine bodyPost_ret (results_cell_two (P := Tryz.prog) rfl _ _ (X + 1) 24 _ (0, 0) _ (.int .i64 1) rfl HQ.out Tryz.underlying24 rfl (by kernel_rfl) rfl) rfl ?_
  exact SecR.bare HR.out rfl HB8.out
open Go.ChangeShapes Go.WideShapes Go.Deep Go.RowKit

set_option maxRecDepth 100000 in
set_option maxHeartbeats 4000000 in
theorem pWord_rel (N B : ByteArray) (k : Int) (kp : Bool) (al : Int) (a : Option Addr) (n c : Nat) (l : List Rl) (v : Nat) (hv : v < 4294967296) (kind sym add : Int) (w : World) (hs : SL rlC 4 w w.heap.size a n l) (hz : a = none → n = 0 ∧ c = 0) (hN : N.size ≤ maxLen) (hBm : B.size ≤ maxLen) (hg : ∀ r ∈ l, GoodRl r) (hkk : i64ok kind) (hT : TabP w) (hsec : secR ⟨N.data.toList, k, kp, al, B.data.toList, l⟩ = true) (hod : B.size % 4 = 0) (hk0 : kind ≠ 0) (hk1 : k = 1) (hfit : fitsI kind (readW v) = true) (hsym : ¬ sym < 0) : Calls Tryz.prog 20 #[.agg #[.string N, .int .i64 k, .bool kp, .int .i64 al, .string B, .slice a n c], .int .u32 (v : Int), .int .i64 kind, .int .i64 sym, .int .i64 add] w (SecR (pWordL ⟨N.data.toList, k, kp, al, B.data.toList, l⟩ v kind sym add) w) := by
  have hBs : B.data.toList.length = B.size := by simp
  have rk0 : (kind == 0) = false := by simp; exact hk0
  have rk1 : (k != 1) = false := by rw [hk1]; rfl
  have t1 : ((B.size : Int).tmod 4 == 0) = true := by
    have : (B.size : Int).tmod 4 = (B.size : Int) % 4 := Int.tmod_eq_emod_of_nonneg (by omega)
    rw [this]; simp; omega
  have t2 : ((B.size : Int) % 4 == 0) = true := by simp; omega
  have t3 : ((B.size : Int).tmod 4 != 0) = false := by simp only [bne, t1]; rfl
  have t4 : ((B.size : Int) % 4 != 0) = false := by simp only [bne, t2]; rfl
  have hwu : IntKind.u64.wrap (v : Int) = (v : Int) := by rw [IntKind.wrap_u64]; omega
  obtain ⟨t, er, ht⟩ : ∃ t er, placedL ⟨N.data.toList, k, kp, al, B.data.toList, l⟩ (leB 4 v) [(⟨(B.size : Int), kind, sym, add⟩ : Rl)] = (t, er) := ⟨_, _, rfl⟩
  have HR : Hid (pWordL ⟨N.data.toList, k, kp, al, B.data.toList, l⟩ v kind sym add = (t, er)) := Lib.hid (by unfold pWordL; rw [if_pos hsec, if_neg (by simp only [hBs]; omega), if_neg hk0, if_neg (by exact fun x => x.elim (fun y => y hk1) (fun y => y.elim (fun z => by rw [hfit] at z; cases z) hsym))]; simp only [hBs]; exact ht)
  obtain ⟨-, -, -, -, -, g6, g7⟩ := head_iff.1 (sec_iff.1 hsec).1
  simp only at g6 g7
  have hln := hs.len
  obtain ⟨m, hm⟩ : ∃ m, m = t.rels.length := ⟨_, rfl⟩
  obtain ⟨D, hDD⟩ : ∃ D : ByteArray, D = ⟨(leB 4 v).toArray⟩ := ⟨_, rfl⟩
  have hD4 : D.size = 4 := by rw [hDD]; show (leB 4 v).toArray.size = 4; rw [List.size_toArray, leB_len]
  have hDl : D.data.toList = leB 4 v := by rw [hDD]
  have HBy : Hid (∀ u, Calls Tryz.prog 43 #[.int .u64 (v : Int), .int .i64 4] u (RetB (.string D) u)) := Lib.hid (fun u => by rw [hDD]; exact bytes4 v u (by omega))
  have HP : Hid (∀ (u : World) (Z : Nat), Below w.heap.size w u → SL rlC 4 u u.heap.size (some ⟨Z, 0, none⟩) 1 [(⟨(B.size : Int), kind, sym, add⟩ : Rl)] → Calls Tryz.prog 41 #[.agg #[.string N, .int .i64 k, .bool kp, .int .i64 al, .string B, .slice a n c], .string D, .slice (some ⟨Z, 0, none⟩) 1 1] u (fun e v' => ∃ a' c', e = .returned (.tuple #[.agg #[.string ⟨t.name.toArray⟩, .int .i64 t.kind, .bool t.keep, .int .i64 t.align, .string ⟨t.data.toArray⟩, .slice a' m c'], .int .i64 er]) ∧ Row0 v' u.heap.size (.slice a' m c') m t.rels ∧ Below u.heap.size u v')) := Lib.hid (fun u Z hu hq => by
    have := placed_any N B D k kp al a (some ⟨Z, 0, none⟩) n c 1 1 l [(⟨(B.size : Int), kind, sym, add⟩ : Rl)] u (hs.next hu) hz hq (fun h => by cases h) (by omega) (by omega) (by omega) (by omega)
    rw [hDl, ht] at this
    subst hm
    exact this)
  have HM := Lib.hid hm
  have HT := Lib.hid hT
  have HF : Hid (∀ u, TabP u → Calls Tryz.prog 24 #[.int .i64 kind, .int .u32 (v : Int)] u (RetB (.bool (fitsI kind (readW v))) u)) := Lib.hid (fun u hu => Fits_any kind v u hkk.1 hkk.2 (by omega) hu.1)
  rw [hfit] at HF
  have hZ := zeroSec
  have HI : Hid (∀ u, Below w.heap.size w u → Calls Tryz.prog 16 #[.agg #[.string N, .int .i64 k, .bool kp, .int .i64 al, .string B, .slice a n c]] u (RetB (.bool (secR ⟨N.data.toList, k, kp, al, B.data.toList, l⟩)) u)) := Lib.hid (fun u hu => pIs_core N B k kp al a n c l hN hBm u (hs.next hu) hg (hT.next hu))
  rw [hsec] at HI
  have HW := Lib.hid (two_rb (w := w) (A := #[.string N, .int .i64 k, .bool kp, .int .i64 al, .string B, .slice a n c]) (B := #[.string ⟨#[]⟩, .int .i64 0, .bool false, .int .i64 0, .string ⟨#[]⟩, .slice none 0 0]) (T := 24) (U := 24))
  obtain ⟨X, hX⟩ : ∃ X, X = w.heap.size := ⟨_, rfl⟩
  rw [← hX] at HW
  have HXE := Lib.hid hX
  clear g6 g7 hBs hln ht hm hDD hD4 hDl
  clear hod hk0 hk1 hfit
  clear hs hz hN hBm hg hkk hT hsec hv
  go_enter Tryz.func20, Tryz.ntmps20
  go_wp2_with fail
  rw [← hX]
  clear hX
  change Calls _ _ _ ((w.alloc (.cells #[.string N, .int .i64 k, .bool kp, .int .i64 al, .string B, .slice a n c] 24)).alloc (.cells #[.string ⟨#[]⟩, .int .i64 0, .bool false, .int .i64 0, .string ⟨#[]⟩, .slice none 0 0] 24)) _
  generalize (w.alloc (.cells #[.string N, .int .i64 k, .bool kp, .int .i64 al, .string B, .slice a n c] 24)).alloc (.cells #[.string ⟨#[]⟩, .int .i64 0, .bool false, .int .i64 0, .string ⟨#[]⟩, .slice none 0 0] 24) = W at HW ⊢
  have HB4 : Hid (Below w.heap.size w W) := Lib.hid (by have := HW.out.2.2; rw [HXE.out] at this; exact this)
  refine (HI.out _ HB4.out).mono ?_
  rintro e u0 ⟨rfl, hb⟩
  have hx : RB u0 X #[.string N, .int .i64 k, .bool kp, .int .i64 al, .string B, .slice a n c] 24 := HW.out.1.next hb
  have hy : RB u0 (X + 1) #[.string ⟨#[]⟩, .int .i64 0, .bool false, .int .i64 0, .string ⟨#[]⟩, .slice none 0 0] 24 := HW.out.2.1.next hb
  have HB5 := Lib.hid (after HB4.out hb)
  clear hb
  have x0 : u0.cell? ⟨X, 0, none⟩ = some (.string N) := hx.cell
  have x1 : u0.cell? ⟨X, 1, none⟩ = some (.int .i64 k) := hx.cell
  have x2 : u0.cell? ⟨X, 2, none⟩ = some (.bool kp) := hx.cell
  have x3 : u0.cell? ⟨X, 3, none⟩ = some (.int .i64 al) := hx.cell
  have x4 : u0.cell? ⟨X, 4, none⟩ = some (.string B) := hx.cell
  have x5 : u0.cell? ⟨X, 5, none⟩ = some (.slice a n c) := hx.cell
  go_wp2_with fail
  refine (HF.out _ (HT.out.next HB5.out)).mono ?_
  rintro e u ⟨rfl, hb1⟩
  have hy : RB u (X + 1) #[.string ⟨#[]⟩, .int .i64 0, .bool false, .int .i64 0, .string ⟨#[]⟩, .slice none 0 0] 24 := hy.next hb1
  have hx : RB u X #[.string N, .int .i64 k, .bool kp, .int .i64 al, .string B, .slice a n c] 24 := hx.next hb1
  have HB5 := Lib.hid (after HB5.out hb1)
  clear hb1 x0 x1 x2 x3 x4 x5
  have x0 : u.cell? ⟨X, 0, none⟩ = some (.string N) := hx.cell
  have x1 : u.cell? ⟨X, 1, none⟩ = some (.int .i64 k) := hx.cell
  have x2 : u.cell? ⟨X, 2, none⟩ = some (.bool kp) := hx.cell
  have x3 : u.cell? ⟨X, 3, none⟩ = some (.int .i64 al) := hx.cell
  have x4 : u.cell? ⟨X, 4, none⟩ = some (.string B) := hx.cell
  have x5 : u.cell? ⟨X, 5, none⟩ = some (.slice a n c) := hx.cell
  have HXl : Hid (X + 1 < u.heap.size) := Lib.hid (lt_of_block hy)
  have hXl0 : X < u.heap.size := lt_of_block hx
  have HXu := Lib.hid hx
  have HYu := Lib.hid hy
  have hlb : Below u.heap.size u (u.drew.alloc (.cells #[.int .i64 (B.size : Int), .int .i64 kind, .int .i64 sym, .int .i64 add] 48)) := ((Below.refl u.heap.size u).drew).alloc (Nat.le_refl _) _
  have HLB := Lib.hid hlb
  have hsl0 : SL rlC 4 (u.drew.alloc (.cells #[.int .i64 (B.size : Int), .int .i64 kind, .int .i64 sym, .int .i64 add] 48)) (u.drew.alloc (.cells #[.int .i64 (B.size : Int), .int .i64 kind, .int .i64 sym, .int .i64 add] 48)).heap.size (some ⟨u.heap.size, 0, none⟩) 1 [(⟨(B.size : Int), kind, sym, add⟩ : Rl)] := by
    rw [World.size_alloc]; exact SL.lit u.drew _ [(⟨(B.size : Int), kind, sym, add⟩ : Rl)] rl_len (by decide) _ rfl 1 rfl
  have HSL0 := Lib.hid hsl0
  have k0 : (u.drew.alloc (.cells #[.int .i64 (B.size : Int), .int .i64 kind, .int .i64 sym, .int .i64 add] 48)).cell? ⟨X, 0, none⟩ = some (.string N) := (HXu.out.next hlb).cell; have k1 : (u.drew.alloc (.cells #[.int .i64 (B.size : Int), .int .i64 kind, .int .i64 sym, .int .i64 add] 48)).cell? ⟨X, 1, none⟩ = some (.int .i64 k) := (HXu.out.next hlb).cell; have k2 : (u.drew.alloc (.cells #[.int .i64 (B.size : Int), .int .i64 kind, .int .i64 sym, .int .i64 add] 48)).cell? ⟨X, 2, none⟩ = some (.bool kp) := (HXu.out.next hlb).cell; have k3 : (u.drew.alloc (.cells #[.int .i64 (B.size : Int), .int .i64 kind, .int .i64 sym, .int .i64 add] 48)).cell? ⟨X, 3, none⟩ = some (.int .i64 al) := (HXu.out.next hlb).cell; have k4 : (u.drew.alloc (.cells #[.int .i64 (B.size : Int), .int .i64 kind, .int .i64 sym, .int .i64 add] 48)).cell? ⟨X, 4, none⟩ = some (.string B) := (HXu.out.next hlb).cell; have k5 : (u.drew.alloc (.cells #[.int .i64 (B.size : Int), .int .i64 kind, .int .i64 sym, .int .i64 add] 48)).cell? ⟨X, 5, none⟩ = some (.slice a n c) := (HXu.out.next hlb).cell
  clear hx hy hlb hsl0
  go_wp2_with fail
  first | (go_region_law ((first
    | (go_simp; go_at_call 43; refine (HBy.out _).mono ?_; rintro e u1 ⟨rfl, hb1⟩; (first | (have hb1' : Below u.heap.size u u1 := ((Below.refl u.heap.size u).drew).trans hb1) | (have hb1' : Below u.heap.size u u1 := HLB.out.trans (hb1.mono HLB.out.size); have hq1 := HSL0.out.next hb1)); have w0 : u1.cell? ⟨X, 0, none⟩ = some (.string N) := (HXu.out.next hb1').cell; have w1 : u1.cell? ⟨X, 1, none⟩ = some (.int .i64 k) := (HXu.out.next hb1').cell; have w2 : u1.cell? ⟨X, 2, none⟩ = some (.bool kp) := (HXu.out.next hb1').cell; have w3 : u1.cell? ⟨X, 3, none⟩ = some (.int .i64 al) := (HXu.out.next hb1').cell; have w4 : u1.cell? ⟨X, 4, none⟩ = some (.string B) := (HXu.out.next hb1').cell; have w5 : u1.cell? ⟨X, 5, none⟩ = some (.slice a n c) := (HXu.out.next hb1').cell; have hX1 : X < u1.heap.size := Nat.lt_of_lt_of_le hXl0 hb1'.size)
    | (go_simp; go_at_call 41; (first | (refine (HP.out _ _ (after HB5.out hb1') hq1).mono ?_; have hW : Below u.heap.size u u1 := hb1') | (refine (HP.out _ _ (after HB5.out (hb1'.alloc hb1'.size _)) (by rw [World.size_alloc]; exact SL.lit u1 _ [(⟨(B.size : Int), kind, sym, add⟩ : Rl)] rl_len (by decide) _ rfl 1 rfl)).mono ?_; have hW : Below u.heap.size u (u1.alloc (.cells #[.int .i64 (B.size : Int), .int .i64 kind, .int .i64 sym, .int .i64 add] 48)) := hb1'.alloc hb1'.size _)); rintro e v' ⟨a', c', rfl, hrow, hb2⟩; have hall : Below u.heap.size u v' := hW.trans (hb2.mono hW.size); have hrow' := hrow.mono hW.size; have hy : RB v' (X + 1) #[.string ⟨#[]⟩, .int .i64 0, .bool false, .int .i64 0, .string ⟨#[]⟩, .slice none 0 0] 24 := HYu.out.next hall; have y0 : v'.cell? ⟨X + 1, 0, none⟩ = some (.string ⟨#[]⟩) := hy.cell; have z0 : v'.frozen? ⟨X + 1, 0, none⟩ = false := hy.frozen; have y1 : v'.cell? ⟨X + 1, 1, none⟩ = some (.int .i64 0) := hy.cell; have z1 : v'.frozen? ⟨X + 1, 1, none⟩ = false := hy.frozen; have y2 : v'.cell? ⟨X + 1, 2, none⟩ = some (.bool false) := hy.cell; have z2 : v'.frozen? ⟨X + 1, 2, none⟩ = false := hy.frozen; have y3 : v'.cell? ⟨X + 1, 3, none⟩ = some (.int .i64 0) := hy.cell; have z3 : v'.frozen? ⟨X + 1, 3, none⟩ = false := hy.frozen; have y4 : v'.cell? ⟨X + 1, 4, none⟩ = some (.string ⟨#[]⟩) := hy.cell; have z4 : v'.frozen? ⟨X + 1, 4, none⟩ = false := hy.frozen; have y5 : v'.cell? ⟨X + 1, 5, none⟩ = some (.slice none 0 0) := hy.cell; have z5 : v'.frozen? ⟨X + 1, 5, none⟩ = false := hy.frozen)))) | fail
  all_goals
    have HB6 := Lib.hid (after HB5.out hall)
    have HQ := Lib.hid (gset_heap hy (.string ⟨t.name.toArray⟩) (.int .i64 t.kind) (.bool t.keep) (.int .i64 t.align) (.string ⟨t.data.toArray⟩) (.slice a' m c'))
    have HB8 := Lib.hid (gset_below HB6.out (Y := X + 1) (by rw [← HXE.out]; omega) (.string ⟨t.name.toArray⟩) (.int .i64 t.kind) (.bool t.keep) (.int .i64 t.align) (.string ⟨t.data.toArray⟩) (.slice a' m c'))
    have HR8 := Lib.hid ((gset_row hrow' (Y := X + 1) HXl.out (.string ⟨t.name.toArray⟩) (.int .i64 t.kind) (.bool t.keep) (.int .i64 t.align) (.string ⟨t.data.toArray⟩) (.slice a' m c')).mono HB5.out.size)
    clear hy hrow hrow' hall hb2
    go_wp2
    refine bodyPost_ret (results_cell_two (P := Tryz.prog) rfl _ _ (X + 1) 24 _ (0, 0) _ (.int .i64 er) rfl HQ.out Tryz.underlying24 rfl (by kernel_rfl) rfl) rfl ?_
    exact SecR.full HR.out HM.out rfl HR8.out HB8.out
theorem pWord_any (N B : ByteArray) (k : Int) (kp : Bool) (al : Int) (a : Option Addr) (n c : Nat) (l : List Rl) (v : Nat) (hv : v < 4294967296) (kind sym add : Int) (w : World) (hs : SL rlC 4 w w.heap.size a n l) (hz : a = none → n = 0 ∧ c = 0) (hN : N.size ≤ maxLen) (hBm : B.size ≤ maxLen) (hg : ∀ r ∈ l, GoodRl r) (hkk : i64ok kind) (hT : TabP w) : Calls Tryz.prog 20 #[.agg #[.string N, .int .i64 k, .bool kp, .int .i64 al, .string B, .slice a n c], .int .u32 (v : Int), .int .i64 kind, .int .i64 sym, .int .i64 add] w (SecR (pWordL ⟨N.data.toList, k, kp, al, B.data.toList, l⟩ v kind sym add) w) := by
  cases hsec : secR ⟨N.data.toList, k, kp, al, B.data.toList, l⟩
  · exact pWord_no N B k kp al a n c l v hv kind sym add w hs hz hN hBm hg hkk hT hsec
  · by_cases hod : B.size % 4 = 0
    · by_cases hk0 : kind = 0
      · subst hk0
        exact pWord_bare N B k kp al a n c l v hv sym add w hs hz hN hBm hg hT hsec hod
      · by_cases hk1 : k = 1
        · cases hfit : fitsI kind (readW v)
          · exact pWord_unfit N B k kp al a n c l v hv kind sym add w hs hz hN hBm hg hkk hT hsec hod hk0 hk1 hfit
          · by_cases hsym : sym < 0
            · exact pWord_nosym N B k kp al a n c l v hv kind sym add w hs hz hN hBm hg hkk hT hsec hod hk0 hk1 hfit hsym
            · exact pWord_rel N B k kp al a n c l v hv kind sym add w hs hz hN hBm hg hkk hT hsec hod hk0 hk1 hfit hsym
        · exact pWord_kind N B k kp al a n c l v hv kind sym add w hs hz hN hBm hg hkk hT hsec hod hk0 hk1
    · exact pWord_odd N B k kp al a n c l v hv kind sym add w hs hz hN hBm hg hkk hT hsec hod
open Go.ChangeShapes Go.WideShapes Go.Deep Go.RowKit

set_option maxRecDepth 100000 in
set_option maxHeartbeats 600000 in
theorem pAlign_no (N B : ByteArray) (k : Int) (kp : Bool) (al : Int) (a : Option Addr) (n c : Nat) (l : List Rl) (x : Int) (w : World) (hs : SL rlC 4 w w.heap.size a n l) (hz : a = none → n = 0 ∧ c = 0) (hN : N.size ≤ maxLen) (hBm : B.size ≤ maxLen) (hg : ∀ r ∈ l, GoodRl r) (hT : TabP w) (hsec : secR ⟨N.data.toList, k, kp, al, B.data.toList, l⟩ = false) : Calls Tryz.prog 19 #[.agg #[.string N, .int .i64 k, .bool kp, .int .i64 al, .string B, .slice a n c], .int .i64 x] w (SecR (pAlignL ⟨N.data.toList, k, kp, al, B.data.toList, l⟩ x) w) := by
  have HR : Hid (pAlignL ⟨N.data.toList, k, kp, al, B.data.toList, l⟩ x = (scZ, 1)) := Lib.hid (by unfold pAlignL; rw [hsec]; rfl)
  have hZ := zeroSec
  have HI : Hid (∀ u, Below w.heap.size w u → Calls Tryz.prog 16 #[.agg #[.string N, .int .i64 k, .bool kp, .int .i64 al, .string B, .slice a n c]] u (RetB (.bool (secR ⟨N.data.toList, k, kp, al, B.data.toList, l⟩)) u)) := Lib.hid (fun u hu => pIs_core N B k kp al a n c l hN hBm u (hs.next hu) hg (hT.next hu))
  rw [hsec] at HI
  have HW := Lib.hid (two_rb (w := w) (A := #[.string N, .int .i64 k, .bool kp, .int .i64 al, .string B, .slice a n c]) (B := #[.string ⟨#[]⟩, .int .i64 0, .bool false, .int .i64 0, .string ⟨#[]⟩, .slice none 0 0]) (T := 24) (U := 24))
  obtain ⟨X, hX⟩ : ∃ X, X = w.heap.size := ⟨_, rfl⟩
  rw [← hX] at HW
  have HXE := Lib.hid hX
  clear hs hz hN hBm hg hT hsec
  go_enter Tryz.func19, Tryz.ntmps19
  go_wp2_with fail
  rw [← hX]
  clear hX
  change Calls _ _ _ ((w.alloc (.cells #[.string N, .int .i64 k, .bool kp, .int .i64 al, .string B, .slice a n c] 24)).alloc (.cells #[.string ⟨#[]⟩, .int .i64 0, .bool false, .int .i64 0, .string ⟨#[]⟩, .slice none 0 0] 24)) _
  generalize (w.alloc (.cells #[.string N, .int .i64 k, .bool kp, .int .i64 al, .string B, .slice a n c] 24)).alloc (.cells #[.string ⟨#[]⟩, .int .i64 0, .bool false, .int .i64 0, .string ⟨#[]⟩, .slice none 0 0] 24) = W at HW ⊢
  have HB4 : Hid (Below w.heap.size w W) := Lib.hid (by have := HW.out.2.2; rw [HXE.out] at this; exact this)
  refine (HI.out _ HB4.out).mono ?_
  rintro e u ⟨rfl, hb⟩
  have hx : RB u X #[.string N, .int .i64 k, .bool kp, .int .i64 al, .string B, .slice a n c] 24 := HW.out.1.next hb
  have hy : RB u (X + 1) #[.string ⟨#[]⟩, .int .i64 0, .bool false, .int .i64 0, .string ⟨#[]⟩, .slice none 0 0] 24 := HW.out.2.1.next hb
  have HB5 := Lib.hid (after HB4.out hb)
  clear hb
  have y0 : u.cell? ⟨X + 1, 0, none⟩ = some (.string ⟨#[]⟩) := hy.cell
  have z0 : u.frozen? ⟨X + 1, 0, none⟩ = false := hy.frozen
  have y1 : u.cell? ⟨X + 1, 1, none⟩ = some (.int .i64 0) := hy.cell
  have z1 : u.frozen? ⟨X + 1, 1, none⟩ = false := hy.frozen
  have y2 : u.cell? ⟨X + 1, 2, none⟩ = some (.bool false) := hy.cell
  have z2 : u.frozen? ⟨X + 1, 2, none⟩ = false := hy.frozen
  have y3 : u.cell? ⟨X + 1, 3, none⟩ = some (.int .i64 0) := hy.cell
  have z3 : u.frozen? ⟨X + 1, 3, none⟩ = false := hy.frozen
  have y4 : u.cell? ⟨X + 1, 4, none⟩ = some (.string ⟨#[]⟩) := hy.cell
  have z4 : u.frozen? ⟨X + 1, 4, none⟩ = false := hy.frozen
  have y5 : u.cell? ⟨X + 1, 5, none⟩ = some (.slice none 0 0) := hy.cell
  have z5 : u.frozen? ⟨X + 1, 5, none⟩ = false := hy.frozen
  have HQ := Lib.hid (gset_heap hy (.string ⟨#[]⟩) (.int .i64 0) (.bool false) (.int .i64 0) (.string ⟨#[]⟩) (.slice none 0 0))
  have HB8 := Lib.hid (gset_below HB5.out (Y := X + 1) (by rw [← HXE.out]; omega) (.string ⟨#[]⟩) (.int .i64 0) (.bool false) (.int .i64 0) (.string ⟨#[]⟩) (.slice none 0 0))
  clear hx hy
  go_wp2
  refine bodyPost_ret (results_cell_two (P := Tryz.prog) rfl _ _ (X + 1) 24 _ (0, 0) _ (.int .i64 1) rfl HQ.out Tryz.underlying24 rfl (by kernel_rfl) rfl) rfl ?_
  exact SecR.bare HR.out rfl HB8.out
set_option maxRecDepth 100000 in
set_option maxHeartbeats 600000 in
theorem pAlign_low (N B : ByteArray) (k : Int) (kp : Bool) (al : Int) (a : Option Addr) (n c : Nat) (l : List Rl) (x : Int) (w : World) (hs : SL rlC 4 w w.heap.size a n l) (hz : a = none → n = 0 ∧ c = 0) (hN : N.size ≤ maxLen) (hBm : B.size ≤ maxLen) (hg : ∀ r ∈ l, GoodRl r) (hT : TabP w) (hsec : secR ⟨N.data.toList, k, kp, al, B.data.toList, l⟩ = true) (hx0 : x < 0) : Calls Tryz.prog 19 #[.agg #[.string N, .int .i64 k, .bool kp, .int .i64 al, .string B, .slice a n c], .int .i64 x] w (SecR (pAlignL ⟨N.data.toList, k, kp, al, B.data.toList, l⟩ x) w) := by
  have HR : Hid (pAlignL ⟨N.data.toList, k, kp, al, B.data.toList, l⟩ x = (scZ, 4)) := Lib.hid (by unfold pAlignL; rw [if_pos hsec, if_pos (.inl hx0)])
  have hZ := zeroSec
  have HI : Hid (∀ u, Below w.heap.size w u → Calls Tryz.prog 16 #[.agg #[.string N, .int .i64 k, .bool kp, .int .i64 al, .string B, .slice a n c]] u (RetB (.bool (secR ⟨N.data.toList, k, kp, al, B.data.toList, l⟩)) u)) := Lib.hid (fun u hu => pIs_core N B k kp al a n c l hN hBm u (hs.next hu) hg (hT.next hu))
  rw [hsec] at HI
  have HW := Lib.hid (two_rb (w := w) (A := #[.string N, .int .i64 k, .bool kp, .int .i64 al, .string B, .slice a n c]) (B := #[.string ⟨#[]⟩, .int .i64 0, .bool false, .int .i64 0, .string ⟨#[]⟩, .slice none 0 0]) (T := 24) (U := 24))
  obtain ⟨X, hX⟩ : ∃ X, X = w.heap.size := ⟨_, rfl⟩
  rw [← hX] at HW
  have HXE := Lib.hid hX
  clear hs hz hN hBm hg hT hsec
  go_enter Tryz.func19, Tryz.ntmps19
  go_wp2_with fail
  rw [← hX]
  clear hX
  change Calls _ _ _ ((w.alloc (.cells #[.string N, .int .i64 k, .bool kp, .int .i64 al, .string B, .slice a n c] 24)).alloc (.cells #[.string ⟨#[]⟩, .int .i64 0, .bool false, .int .i64 0, .string ⟨#[]⟩, .slice none 0 0] 24)) _
  generalize (w.alloc (.cells #[.string N, .int .i64 k, .bool kp, .int .i64 al, .string B, .slice a n c] 24)).alloc (.cells #[.string ⟨#[]⟩, .int .i64 0, .bool false, .int .i64 0, .string ⟨#[]⟩, .slice none 0 0] 24) = W at HW ⊢
  have HB4 : Hid (Below w.heap.size w W) := Lib.hid (by have := HW.out.2.2; rw [HXE.out] at this; exact this)
  refine (HI.out _ HB4.out).mono ?_
  rintro e u ⟨rfl, hb⟩
  have hx : RB u X #[.string N, .int .i64 k, .bool kp, .int .i64 al, .string B, .slice a n c] 24 := HW.out.1.next hb
  have hy : RB u (X + 1) #[.string ⟨#[]⟩, .int .i64 0, .bool false, .int .i64 0, .string ⟨#[]⟩, .slice none 0 0] 24 := HW.out.2.1.next hb
  have HB5 := Lib.hid (after HB4.out hb)
  clear hb
  have x0 : u.cell? ⟨X, 0, none⟩ = some (.string N) := hx.cell
  have x1 : u.cell? ⟨X, 1, none⟩ = some (.int .i64 k) := hx.cell
  have x2 : u.cell? ⟨X, 2, none⟩ = some (.bool kp) := hx.cell
  have x3 : u.cell? ⟨X, 3, none⟩ = some (.int .i64 al) := hx.cell
  have x4 : u.cell? ⟨X, 4, none⟩ = some (.string B) := hx.cell
  have x5 : u.cell? ⟨X, 5, none⟩ = some (.slice a n c) := hx.cell
  have y0 : u.cell? ⟨X + 1, 0, none⟩ = some (.string ⟨#[]⟩) := hy.cell
  have z0 : u.frozen? ⟨X + 1, 0, none⟩ = false := hy.frozen
  have y1 : u.cell? ⟨X + 1, 1, none⟩ = some (.int .i64 0) := hy.cell
  have z1 : u.frozen? ⟨X + 1, 1, none⟩ = false := hy.frozen
  have y2 : u.cell? ⟨X + 1, 2, none⟩ = some (.bool false) := hy.cell
  have z2 : u.frozen? ⟨X + 1, 2, none⟩ = false := hy.frozen
  have y3 : u.cell? ⟨X + 1, 3, none⟩ = some (.int .i64 0) := hy.cell
  have z3 : u.frozen? ⟨X + 1, 3, none⟩ = false := hy.frozen
  have y4 : u.cell? ⟨X + 1, 4, none⟩ = some (.string ⟨#[]⟩) := hy.cell
  have z4 : u.frozen? ⟨X + 1, 4, none⟩ = false := hy.frozen
  have y5 : u.cell? ⟨X + 1, 5, none⟩ = some (.slice none 0 0) := hy.cell
  have z5 : u.frozen? ⟨X + 1, 5, none⟩ = false := hy.frozen
  have HQ := Lib.hid (gset_heap hy (.string ⟨#[]⟩) (.int .i64 0) (.bool false) (.int .i64 0) (.string ⟨#[]⟩) (.slice none 0 0))
  have HB8 := Lib.hid (gset_below HB5.out (Y := X + 1) (by rw [← HXE.out]; omega) (.string ⟨#[]⟩) (.int .i64 0) (.bool false) (.int .i64 0) (.string ⟨#[]⟩) (.slice none 0 0))
  clear hx hy
  go_wp2
  refine bodyPost_ret (results_cell_two (P := Tryz.prog) rfl _ _ (X + 1) 24 _ (0, 0) _ (.int .i64 4) rfl HQ.out Tryz.underlying24 rfl (by kernel_rfl) rfl) rfl ?_
  exact SecR.bare HR.out rfl HB8.out
set_option maxRecDepth 100000 in
set_option maxHeartbeats 600000 in
theorem pAlign_high (N B : ByteArray) (k : Int) (kp : Bool) (al : Int) (a : Option Addr) (n c : Nat) (l : List Rl) (x : Int) (w : World) (hs : SL rlC 4 w w.heap.size a n l) (hz : a = none → n = 0 ∧ c = 0) (hN : N.size ≤ maxLen) (hBm : B.size ≤ maxLen) (hg : ∀ r ∈ l, GoodRl r) (hT : TabP w) (hsec : secR ⟨N.data.toList, k, kp, al, B.data.toList, l⟩ = true) (hx0 : ¬ x < 0) (hx1 : 12 < x) : Calls Tryz.prog 19 #[.agg #[.string N, .int .i64 k, .bool kp, .int .i64 al, .string B, .slice a n c], .int .i64 x] w (SecR (pAlignL ⟨N.data.toList, k, kp, al, B.data.toList, l⟩ x) w) := by
  have HR : Hid (pAlignL ⟨N.data.toList, k, kp, al, B.data.toList, l⟩ x = (scZ, 4)) := Lib.hid (by unfold pAlignL; rw [if_pos hsec, if_pos (.inr hx1)])
  have hZ := zeroSec
  have HI : Hid (∀ u, Below w.heap.size w u → Calls Tryz.prog 16 #[.agg #[.string N, .int .i64 k, .bool kp, .int .i64 al, .string B, .slice a n c]] u (RetB (.bool (secR ⟨N.data.toList, k, kp, al, B.data.toList, l⟩)) u)) := Lib.hid (fun u hu => pIs_core N B k kp al a n c l hN hBm u (hs.next hu) hg (hT.next hu))
  rw [hsec] at HI
  have HW := Lib.hid (two_rb (w := w) (A := #[.string N, .int .i64 k, .bool kp, .int .i64 al, .string B, .slice a n c]) (B := #[.string ⟨#[]⟩, .int .i64 0, .bool false, .int .i64 0, .string ⟨#[]⟩, .slice none 0 0]) (T := 24) (U := 24))
  obtain ⟨X, hX⟩ : ∃ X, X = w.heap.size := ⟨_, rfl⟩
  rw [← hX] at HW
  have HXE := Lib.hid hX
  clear hs hz hN hBm hg hT hsec
  go_enter Tryz.func19, Tryz.ntmps19
  go_wp2_with fail
  rw [← hX]
  clear hX
  change Calls _ _ _ ((w.alloc (.cells #[.string N, .int .i64 k, .bool kp, .int .i64 al, .string B, .slice a n c] 24)).alloc (.cells #[.string ⟨#[]⟩, .int .i64 0, .bool false, .int .i64 0, .string ⟨#[]⟩, .slice none 0 0] 24)) _
  generalize (w.alloc (.cells #[.string N, .int .i64 k, .bool kp, .int .i64 al, .string B, .slice a n c] 24)).alloc (.cells #[.string ⟨#[]⟩, .int .i64 0, .bool false, .int .i64 0, .string ⟨#[]⟩, .slice none 0 0] 24) = W at HW ⊢
  have HB4 : Hid (Below w.heap.size w W) := Lib.hid (by have := HW.out.2.2; rw [HXE.out] at this; exact this)
  refine (HI.out _ HB4.out).mono ?_
  rintro e u ⟨rfl, hb⟩
  have hx : RB u X #[.string N, .int .i64 k, .bool kp, .int .i64 al, .string B, .slice a n c] 24 := HW.out.1.next hb
  have hy : RB u (X + 1) #[.string ⟨#[]⟩, .int .i64 0, .bool false, .int .i64 0, .string ⟨#[]⟩, .slice none 0 0] 24 := HW.out.2.1.next hb
  have HB5 := Lib.hid (after HB4.out hb)
  clear hb
  have x0 : u.cell? ⟨X, 0, none⟩ = some (.string N) := hx.cell
  have x1 : u.cell? ⟨X, 1, none⟩ = some (.int .i64 k) := hx.cell
  have x2 : u.cell? ⟨X, 2, none⟩ = some (.bool kp) := hx.cell
  have x3 : u.cell? ⟨X, 3, none⟩ = some (.int .i64 al) := hx.cell
  have x4 : u.cell? ⟨X, 4, none⟩ = some (.string B) := hx.cell
  have x5 : u.cell? ⟨X, 5, none⟩ = some (.slice a n c) := hx.cell
  have y0 : u.cell? ⟨X + 1, 0, none⟩ = some (.string ⟨#[]⟩) := hy.cell
  have z0 : u.frozen? ⟨X + 1, 0, none⟩ = false := hy.frozen
  have y1 : u.cell? ⟨X + 1, 1, none⟩ = some (.int .i64 0) := hy.cell
  have z1 : u.frozen? ⟨X + 1, 1, none⟩ = false := hy.frozen
  have y2 : u.cell? ⟨X + 1, 2, none⟩ = some (.bool false) := hy.cell
  have z2 : u.frozen? ⟨X + 1, 2, none⟩ = false := hy.frozen
  have y3 : u.cell? ⟨X + 1, 3, none⟩ = some (.int .i64 0) := hy.cell
  have z3 : u.frozen? ⟨X + 1, 3, none⟩ = false := hy.frozen
  have y4 : u.cell? ⟨X + 1, 4, none⟩ = some (.string ⟨#[]⟩) := hy.cell
  have z4 : u.frozen? ⟨X + 1, 4, none⟩ = false := hy.frozen
  have y5 : u.cell? ⟨X + 1, 5, none⟩ = some (.slice none 0 0) := hy.cell
  have z5 : u.frozen? ⟨X + 1, 5, none⟩ = false := hy.frozen
  have HQ := Lib.hid (gset_heap hy (.string ⟨#[]⟩) (.int .i64 0) (.bool false) (.int .i64 0) (.string ⟨#[]⟩) (.slice none 0 0))
  have HB8 := Lib.hid (gset_below HB5.out (Y := X + 1) (by rw [← HXE.out]; omega) (.string ⟨#[]⟩) (.int .i64 0) (.bool false) (.int .i64 0) (.string ⟨#[]⟩) (.slice none 0 0))
  clear hx hy
  go_wp2
  refine bodyPost_ret (results_cell_two (P := Tryz.prog) rfl _ _ (X + 1) 24 _ (0, 0) _ (.int .i64 4) rfl HQ.out Tryz.underlying24 rfl (by kernel_rfl) rfl) rfl ?_
  exact SecR.bare HR.out rfl HB8.out
open Go.ChangeShapes Go.WideShapes Go.Deep Go.RowKit

theorem lack_mod (s k : Nat) (hs : s ≤ 4096) (hk : k ≤ 12) : (18446744073709551616 - s) % 18446744073709551616 % 2 ^ k = lackN s k := by
  unfold lackN
  obtain h | h | h | h | h | h | h | h | h | h | h | h | h : k = 0 ∨ k = 1 ∨ k = 2 ∨ k = 3 ∨ k = 4 ∨ k = 5 ∨ k = 6 ∨ k = 7 ∨ k = 8 ∨ k = 9 ∨ k = 10 ∨ k = 11 ∨ k = 12 := by omega
  all_goals
    subst h
    omega
theorem and_lack (s k : Nat) (hs : s ≤ 4096) (hk : k ≤ 12) : bits .and .i64 (-(s : Int)) (((2 ^ k - 1 : Nat)) : Int) = ((lackN s k : Nat) : Int) := by
  have hp : 2 ^ k ≤ 2 ^ 12 := Nat.pow_le_pow_right (by decide) hk
  have hp0 : 0 < 2 ^ k := Nat.two_pow_pos k
  have hl : lackN s k < 2 ^ k := Nat.mod_lt _ hp0
  have h1 : (BitVec.ofInt 64 (-(s : Int))).toNat = (18446744073709551616 - s) % 18446744073709551616 := by
    rw [BitVec.toNat_ofInt]; omega
  have h2 : (BitVec.ofInt 64 (((2 ^ k - 1 : Nat)) : Int)).toNat = 2 ^ k - 1 := by
    rw [BitVec.ofInt_natCast, BitVec.toNat_ofNat]; exact Nat.mod_eq_of_lt (by omega)
  have e : (BitVec.ofInt 64 (-(s : Int)) &&& BitVec.ofInt 64 (((2 ^ k - 1 : Nat)) : Int)).toNat = lackN s k := by
    rw [BitVec.toNat_and, h1, h2, Nat.and_two_pow_sub_one_eq_mod, lack_mod s k hs hk]
  show IntKind.i64.wrap ((BitVec.ofInt 64 (-(s : Int)) &&& BitVec.ofInt 64 (((2 ^ k - 1 : Nat)) : Int)).toNat : Int) = _
  rw [e]
  simp only [IntKind.wrap_i64]
  omega
end Go.Proofs.YtmlofdolenmkoaaGreatDoor
