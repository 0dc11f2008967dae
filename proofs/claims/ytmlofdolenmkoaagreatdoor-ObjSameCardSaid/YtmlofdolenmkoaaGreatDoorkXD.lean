/- part: Align, [0, 1, 2, 3, 4, 5, 6, 7, 8, 9, 10, 11, 12]. part: Align whole. -/
import Derived.Test.YtmlofdolenmkoaaGreatDoorkXC
namespace Go.Proofs.YtmlofdolenmkoaaGreatDoor
set_option linter.unusedVariables false
set_option linter.unusedSimpArgs false
open Go.RowKit
open Go.ChangeShapes Go.WideShapes Go.Deep Go.RowKit

set_option maxRecDepth 100000 in
set_option maxHeartbeats 4000000 in
theorem pAlign_0 (N B : ByteArray) (k : Int) (kp : Bool) (al : Int) (a : Option Addr) (n c : Nat) (l : List Rl) (w : World) (hs : SL rlC 4 w w.heap.size a n l) (hz : a = none → n = 0 ∧ c = 0) (hN : N.size ≤ maxLen) (hBm : B.size ≤ maxLen) (hg : ∀ r ∈ l, GoodRl r) (hT : TabP w) (hsec : secR ⟨N.data.toList, k, kp, al, B.data.toList, l⟩ = true) : Calls Tryz.prog 19 #[.agg #[.string N, .int .i64 k, .bool kp, .int .i64 al, .string B, .slice a n c], .int .i64 0] w (SecR (pAlignL ⟨N.data.toList, k, kp, al, B.data.toList, l⟩ 0) w) := by
  have hBs : B.data.toList.length = B.size := by simp
  obtain ⟨-, -, -, -, -, g6, g7⟩ := head_iff.1 (sec_iff.1 hsec).1
  simp only at g6 g7
  have hln := hs.len
  obtain ⟨L, hL⟩ : ∃ L, L = lackN B.size 0 := ⟨_, rfl⟩
  have hLb : L < 1 := by rw [hL]; exact Nat.mod_lt _ (by decide)
  obtain ⟨M, hM⟩ : ∃ M, max al 0 = M := ⟨_, rfl⟩
  obtain ⟨t, er, ht⟩ : ∃ t er, placedL ⟨N.data.toList, k, kp, M, B.data.toList, l⟩ (nulB L) [] = (t, er) := ⟨_, _, rfl⟩
  have HR : Hid (pAlignL ⟨N.data.toList, k, kp, al, B.data.toList, l⟩ 0 = (t, er)) := Lib.hid (by unfold pAlignL; rw [if_pos hsec, if_neg (by decide)]; simp only [hBs, hM]; rw [hL] at ht; exact ht)
  have b1 : bits BinOp.and IntKind.i64 (-(B.size : Int)) 0 = (L : Int) := by rw [hL]; exact and_lack B.size 0 (by omega) (by decide)
  have b2 : IntKind.i64.wrap (-(B.size : Int)) = -(B.size : Int) := by rw [IntKind.wrap_i64]; omega
  have b3 : IntKind.i64.wrap 1 = 1 := rfl
  have b4 : IntKind.i64.wrap (1 - 1) = 0 := rfl
  obtain ⟨m, hm⟩ : ∃ m, m = t.rels.length := ⟨_, rfl⟩
  obtain ⟨D, hDD⟩ : ∃ D : ByteArray, D = ⟨(nulB L).toArray⟩ := ⟨_, rfl⟩
  have hDs : D.size = L := by rw [hDD]; show (nulB L).toArray.size = L; simp [nulB]
  have hDl : D.data.toList = nulB L := by rw [hDD]
  have HBy : Hid (∀ u, Calls Tryz.prog 42 #[.string ⟨#[0]⟩, .int .i64 (L : Int)] u (RetB (.string D) u)) := Lib.hid (fun u => by rw [hDD]; exact Rep_nul L (by omega) u)
  have HP : Hid (∀ u, Below w.heap.size w u → Calls Tryz.prog 41 #[.agg #[.string N, .int .i64 k, .bool kp, .int .i64 M, .string B, .slice a n c], .string D, .slice none 0 0] u (fun e v' => ∃ a' c', e = .returned (.tuple #[.agg #[.string ⟨t.name.toArray⟩, .int .i64 t.kind, .bool t.keep, .int .i64 t.align, .string ⟨t.data.toArray⟩, .slice a' m c'], .int .i64 er]) ∧ Row0 v' u.heap.size (.slice a' m c') m t.rels ∧ Below u.heap.size u v')) := Lib.hid (fun u hu => by
    have := placed_any N B D k kp M a none n c 0 0 l [] u (hs.next hu) hz (SL.nil _ _ _) (fun _ => ⟨rfl, rfl⟩) (by omega) (by omega) (by omega) (by omega)
    rw [hDl, ht] at this
    subst hm
    exact this)
  have HM := Lib.hid hm
  have HMx := Lib.hid hM
  have hZ := zeroSec
  have HI : Hid (∀ u, Below w.heap.size w u → Calls Tryz.prog 16 #[.agg #[.string N, .int .i64 k, .bool kp, .int .i64 al, .string B, .slice a n c]] u (RetB (.bool (secR ⟨N.data.toList, k, kp, al, B.data.toList, l⟩)) u)) := Lib.hid (fun u hu => pIs_core N B k kp al a n c l hN hBm u (hs.next hu) hg (hT.next hu))
  rw [hsec] at HI
  have HW := Lib.hid (two_rb (w := w) (A := #[.string N, .int .i64 k, .bool kp, .int .i64 al, .string B, .slice a n c]) (B := #[.string ⟨#[]⟩, .int .i64 0, .bool false, .int .i64 0, .string ⟨#[]⟩, .slice none 0 0]) (T := 24) (U := 24))
  obtain ⟨X, hX⟩ : ∃ X, X = w.heap.size := ⟨_, rfl⟩
  rw [← hX] at HW
  have HXE := Lib.hid hX
  clear g6 g7 hBs hln ht hm hDD hDs hDl hL hLb hM
  clear hs hz hN hBm hg hT hsec
  go_enter Tryz.func19, Tryz.ntmps19
  go_wp2_with fail
  rw [← hX]
  clear hX
  change Calls _ _ _ ((w.alloc (.cells #[.string N, .int .i64 k, .bool kp, .int .i64 al, .string B, .slice a n c] 24)).alloc (.cells #[.string ⟨#[]⟩, .int .i64 0, .bool false, .int .i64 0, .string ⟨#[]⟩, .slice none 0 0] 24)) _
  generalize (w.alloc (.cells #[.string N, .int .i64 k, .bool kp, .int .i64 al, .string B, .slice a n c] 24)).alloc (.cells #[.string ⟨#[]⟩, .int .i64 0, .bool false, .int .i64 0, .string ⟨#[]⟩, .slice none 0 0] 24) = W at HW ⊢
  have HB4 : Hid (Below w.heap.size w W) := Lib.hid (by have := HW.out.2.2; rw [HXE.out] at this; exact this)
  refine (HI.out _ HB4.out).mono ?_
  rintro e u0 ⟨rfl, hb⟩
  have hx : RB u0 X #[.string N, .int .i64 k, .bool kp, .int .i64 al, .string B, .slice a n c] 24 := HW.out.1.next hb
  have hy : RB u0 (X + 1) #[.string ⟨#[]⟩, .int .i64 0, .bool false, .int .i64 0, .string ⟨#[]⟩, .slice none 0 0] 24 := HW.out.2.1.next hb
  have HB5 := Lib.hid (after HB4.out hb)
  clear hb
  have x0 : u0.cell? ⟨X, 0, none⟩ = some (.string N) := hx.cell
  have x1 : u0.cell? ⟨X, 1, none⟩ = some (.int .i64 k) := hx.cell
  have x2 : u0.cell? ⟨X, 2, none⟩ = some (.bool kp) := hx.cell
  have x3 : u0.cell? ⟨X, 3, none⟩ = some (.int .i64 al) := hx.cell
  have x4 : u0.cell? ⟨X, 4, none⟩ = some (.string B) := hx.cell
  have x5 : u0.cell? ⟨X, 5, none⟩ = some (.slice a n c) := hx.cell
  go_wp2_with fail
  first | (go_region_law (fail)) | skip
  have hx0 : RB u0.drew X #[.string N, .int .i64 k, .bool kp, .int .i64 al, .string B, .slice a n c] 24 := hx.next ((Below.refl u0.heap.size u0).drew)
  clear x0 x1 x2 x3 x4 x5
  have x0 : u0.drew.cell? ⟨X, 0, none⟩ = some (.string N) := hx0.cell
  have z0 : u0.drew.frozen? ⟨X, 0, none⟩ = false := hx0.frozen
  have x1 : u0.drew.cell? ⟨X, 1, none⟩ = some (.int .i64 k) := hx0.cell
  have z1 : u0.drew.frozen? ⟨X, 1, none⟩ = false := hx0.frozen
  have x2 : u0.drew.cell? ⟨X, 2, none⟩ = some (.bool kp) := hx0.cell
  have z2 : u0.drew.frozen? ⟨X, 2, none⟩ = false := hx0.frozen
  have x3 : u0.drew.cell? ⟨X, 3, none⟩ = some (.int .i64 al) := hx0.cell
  have z3 : u0.drew.frozen? ⟨X, 3, none⟩ = false := hx0.frozen
  have x4 : u0.drew.cell? ⟨X, 4, none⟩ = some (.string B) := hx0.cell
  have z4 : u0.drew.frozen? ⟨X, 4, none⟩ = false := hx0.frozen
  have x5 : u0.drew.cell? ⟨X, 5, none⟩ = some (.slice a n c) := hx0.cell
  have z5 : u0.drew.frozen? ⟨X, 5, none⟩ = false := hx0.frozen
  have hM := HMx.out
  go_wp2_with fail
  simp only [b1]
  clear x0 x1 x2 x3 x4 x5 z0 z1 z2 z3 z4 z5 hM
  have hx1 : RB (u0.setCell ⟨X, 3, none⟩ (.int .i64 M)) X #[.string N, .int .i64 k, .bool kp, .int .i64 M, .string B, .slice a n c] 24 := RB.set (j := 3) hx (.int .i64 M)
  have hy1 : RB (u0.setCell ⟨X, 3, none⟩ (.int .i64 M)) (X + 1) #[.string ⟨#[]⟩, .int .i64 0, .bool false, .int .i64 0, .string ⟨#[]⟩, .slice none 0 0] 24 := (Below.heap_setCell _ _ _ _ (by simp)).trans hy
  have HB7 := Lib.hid ((HB5.out.setCell (p := ⟨X, 3, none⟩) (by show _ ≤ X; rw [HXE.out]; exact Nat.le_refl _) (.int .i64 M)).drew)
  have hx2 : RB (u0.setCell ⟨X, 3, none⟩ (.int .i64 M)).drew X #[.string N, .int .i64 k, .bool kp, .int .i64 M, .string B, .slice a n c] 24 := hx1.next ((Below.refl _ _).drew)
  have hy2 : RB (u0.setCell ⟨X, 3, none⟩ (.int .i64 M)).drew (X + 1) #[.string ⟨#[]⟩, .int .i64 0, .bool false, .int .i64 0, .string ⟨#[]⟩, .slice none 0 0] 24 := hy1.next ((Below.refl _ _).drew)
  clear hx0 hx1 hy1 hx hy
  generalize (u0.setCell ⟨X, 3, none⟩ (.int .i64 M)).drew = u at hx2 hy2 HB7 ⊢
  have hx := hx2
  have hy := hy2
  clear hx2 hy2
  have HB5 := HB7
  have x0 : u.cell? ⟨X, 0, none⟩ = some (.string N) := hx.cell
  have x1 : u.cell? ⟨X, 1, none⟩ = some (.int .i64 k) := hx.cell
  have x2 : u.cell? ⟨X, 2, none⟩ = some (.bool kp) := hx.cell
  have x3 : u.cell? ⟨X, 3, none⟩ = some (.int .i64 M) := hx.cell
  have x4 : u.cell? ⟨X, 4, none⟩ = some (.string B) := hx.cell
  have x5 : u.cell? ⟨X, 5, none⟩ = some (.slice a n c) := hx.cell
  have HXl : Hid (X + 1 < u.heap.size) := Lib.hid (lt_of_block hy)
  have HXu := Lib.hid hx
  have HYu := Lib.hid hy
  clear hx hy
  first | (go_region_law ((first
    | (go_simp; go_at_call 42; refine (HBy.out _).mono ?_; rintro e u1 ⟨rfl, hb1⟩; have hb1' := ((Below.refl u.heap.size u).drew).trans hb1; have w0 : u1.cell? ⟨X, 0, none⟩ = some (.string N) := (HXu.out.next hb1').cell; have w1 : u1.cell? ⟨X, 1, none⟩ = some (.int .i64 k) := (HXu.out.next hb1').cell; have w2 : u1.cell? ⟨X, 2, none⟩ = some (.bool kp) := (HXu.out.next hb1').cell; have w3 : u1.cell? ⟨X, 3, none⟩ = some (.int .i64 M) := (HXu.out.next hb1').cell; have w4 : u1.cell? ⟨X, 4, none⟩ = some (.string B) := (HXu.out.next hb1').cell; have w5 : u1.cell? ⟨X, 5, none⟩ = some (.slice a n c) := (HXu.out.next hb1').cell)
    | (go_simp; go_at_call 41; refine (HP.out _ (after HB5.out hb1')).mono ?_; rintro e v' ⟨a', c', rfl, hrow, hb2⟩; have hy : RB v' (X + 1) #[.string ⟨#[]⟩, .int .i64 0, .bool false, .int .i64 0, .string ⟨#[]⟩, .slice none 0 0] 24 := (HYu.out.next hb1').next hb2; have y0 : v'.cell? ⟨X + 1, 0, none⟩ = some (.string ⟨#[]⟩) := hy.cell; have z0 : v'.frozen? ⟨X + 1, 0, none⟩ = false := hy.frozen; have y1 : v'.cell? ⟨X + 1, 1, none⟩ = some (.int .i64 0) := hy.cell; have z1 : v'.frozen? ⟨X + 1, 1, none⟩ = false := hy.frozen; have y2 : v'.cell? ⟨X + 1, 2, none⟩ = some (.bool false) := hy.cell; have z2 : v'.frozen? ⟨X + 1, 2, none⟩ = false := hy.frozen; have y3 : v'.cell? ⟨X + 1, 3, none⟩ = some (.int .i64 0) := hy.cell; have z3 : v'.frozen? ⟨X + 1, 3, none⟩ = false := hy.frozen; have y4 : v'.cell? ⟨X + 1, 4, none⟩ = some (.string ⟨#[]⟩) := hy.cell; have z4 : v'.frozen? ⟨X + 1, 4, none⟩ = false := hy.frozen; have y5 : v'.cell? ⟨X + 1, 5, none⟩ = some (.slice none 0 0) := hy.cell; have z5 : v'.frozen? ⟨X + 1, 5, none⟩ = false := hy.frozen)))) | fail
  all_goals
    have HB6 := Lib.hid (after (after HB5.out hb1') hb2)
    have HQ := Lib.hid (gset_heap hy (.string ⟨t.name.toArray⟩) (.int .i64 t.kind) (.bool t.keep) (.int .i64 t.align) (.string ⟨t.data.toArray⟩) (.slice a' m c'))
    have HB8 := Lib.hid (gset_below HB6.out (Y := X + 1) (by rw [← HXE.out]; omega) (.string ⟨t.name.toArray⟩) (.int .i64 t.kind) (.bool t.keep) (.int .i64 t.align) (.string ⟨t.data.toArray⟩) (.slice a' m c'))
    have HR8 := Lib.hid ((gset_row hrow (Y := X + 1) (Nat.lt_of_lt_of_le HXl.out hb1'.size) (.string ⟨t.name.toArray⟩) (.int .i64 t.kind) (.bool t.keep) (.int .i64 t.align) (.string ⟨t.data.toArray⟩) (.slice a' m c')).mono (after HB5.out hb1').size)
    clear hy hrow hb1 hb1' hb2
    go_wp2
    refine bodyPost_ret (results_cell_two (P := Tryz.prog) rfl _ _ (X + 1) 24 _ (0, 0) _ (.int .i64 er) rfl HQ.out Tryz.underlying24 rfl (by kernel_rfl) rfl) rfl ?_
    exact SecR.full HR.out HM.out rfl HR8.out HB8.out
set_option maxRecDepth 100000 in
set_option maxHeartbeats 4000000 in
theorem pAlign_1 (N B : ByteArray) (k : Int) (kp : Bool) (al : Int) (a : Option Addr) (n c : Nat) (l : List Rl) (w : World) (hs : SL rlC 4 w w.heap.size a n l) (hz : a = none → n = 0 ∧ c = 0) (hN : N.size ≤ maxLen) (hBm : B.size ≤ maxLen) (hg : ∀ r ∈ l, GoodRl r) (hT : TabP w) (hsec : secR ⟨N.data.toList, k, kp, al, B.data.toList, l⟩ = true) : Calls Tryz.prog 19 #[.agg #[.string N, .int .i64 k, .bool kp, .int .i64 al, .string B, .slice a n c], .int .i64 1] w (SecR (pAlignL ⟨N.data.toList, k, kp, al, B.data.toList, l⟩ 1) w) := by
  have hBs : B.data.toList.length = B.size := by simp
  obtain ⟨-, -, -, -, -, g6, g7⟩ := head_iff.1 (sec_iff.1 hsec).1
  simp only at g6 g7
  have hln := hs.len
  obtain ⟨L, hL⟩ : ∃ L, L = lackN B.size 1 := ⟨_, rfl⟩
  have hLb : L < 2 := by rw [hL]; exact Nat.mod_lt _ (by decide)
  obtain ⟨M, hM⟩ : ∃ M, max al 1 = M := ⟨_, rfl⟩
  obtain ⟨t, er, ht⟩ : ∃ t er, placedL ⟨N.data.toList, k, kp, M, B.data.toList, l⟩ (nulB L) [] = (t, er) := ⟨_, _, rfl⟩
  have HR : Hid (pAlignL ⟨N.data.toList, k, kp, al, B.data.toList, l⟩ 1 = (t, er)) := Lib.hid (by unfold pAlignL; rw [if_pos hsec, if_neg (by decide)]; simp only [hBs, hM]; rw [hL] at ht; exact ht)
  have b1 : bits BinOp.and IntKind.i64 (-(B.size : Int)) 1 = (L : Int) := by rw [hL]; exact and_lack B.size 1 (by omega) (by decide)
  have b2 : IntKind.i64.wrap (-(B.size : Int)) = -(B.size : Int) := by rw [IntKind.wrap_i64]; omega
  have b3 : IntKind.i64.wrap 2 = 2 := rfl
  have b4 : IntKind.i64.wrap (2 - 1) = 1 := rfl
  obtain ⟨m, hm⟩ : ∃ m, m = t.rels.length := ⟨_, rfl⟩
  obtain ⟨D, hDD⟩ : ∃ D : ByteArray, D = ⟨(nulB L).toArray⟩ := ⟨_, rfl⟩
  have hDs : D.size = L := by rw [hDD]; show (nulB L).toArray.size = L; simp [nulB]
  have hDl : D.data.toList = nulB L := by rw [hDD]
  have HBy : Hid (∀ u, Calls Tryz.prog 42 #[.string ⟨#[0]⟩, .int .i64 (L : Int)] u (RetB (.string D) u)) := Lib.hid (fun u => by rw [hDD]; exact Rep_nul L (by omega) u)
  have HP : Hid (∀ u, Below w.heap.size w u → Calls Tryz.prog 41 #[.agg #[.string N, .int .i64 k, .bool kp, .int .i64 M, .string B, .slice a n c], .string D, .slice none 0 0] u (fun e v' => ∃ a' c', e = .returned (.tuple #[.agg #[.string ⟨t.name.toArray⟩, .int .i64 t.kind, .bool t.keep, .int .i64 t.align, .string ⟨t.data.toArray⟩, .slice a' m c'], .int .i64 er]) ∧ Row0 v' u.heap.size (.slice a' m c') m t.rels ∧ Below u.heap.size u v')) := Lib.hid (fun u hu => by
    have := placed_any N B D k kp M a none n c 0 0 l [] u (hs.next hu) hz (SL.nil _ _ _) (fun _ => ⟨rfl, rfl⟩) (by omega) (by omega) (by omega) (by omega)
    rw [hDl, ht] at this
    subst hm
    exact this)
  have HM := Lib.hid hm
  have HMx := Lib.hid hM
  have hZ := zeroSec
  have HI : Hid (∀ u, Below w.heap.size w u → Calls Tryz.prog 16 #[.agg #[.string N, .int .i64 k, .bool kp, .int .i64 al, .string B, .slice a n c]] u (RetB (.bool (secR ⟨N.data.toList, k, kp, al, B.data.toList, l⟩)) u)) := Lib.hid (fun u hu => pIs_core N B k kp al a n c l hN hBm u (hs.next hu) hg (hT.next hu))
  rw [hsec] at HI
  have HW := Lib.hid (two_rb (w := w) (A := #[.string N, .int .i64 k, .bool kp, .int .i64 al, .string B, .slice a n c]) (B := #[.string ⟨#[]⟩, .int .i64 0, .bool false, .int .i64 0, .string ⟨#[]⟩, .slice none 0 0]) (T := 24) (U := 24))
  obtain ⟨X, hX⟩ : ∃ X, X = w.heap.size := ⟨_, rfl⟩
  rw [← hX] at HW
  have HXE := Lib.hid hX
  clear g6 g7 hBs hln ht hm hDD hDs hDl hL hLb hM
  clear hs hz hN hBm hg hT hsec
  go_enter Tryz.func19, Tryz.ntmps19
  go_wp2_with fail
  rw [← hX]
  clear hX
  change Calls _ _ _ ((w.alloc (.cells #[.string N, .int .i64 k, .bool kp, .int .i64 al, .string B, .slice a n c] 24)).alloc (.cells #[.string ⟨#[]⟩, .int .i64 0, .bool false, .int .i64 0, .string ⟨#[]⟩, .slice none 0 0] 24)) _
  generalize (w.alloc (.cells #[.string N, .int .i64 k, .bool kp, .int .i64 al, .string B, .slice a n c] 24)).alloc (.cells #[.string ⟨#[]⟩, .int .i64 0, .bool false, .int .i64 0, .string ⟨#[]⟩, .slice none 0 0] 24) = W at HW ⊢
  have HB4 : Hid (Below w.heap.size w W) := Lib.hid (by have := HW.out.2.2; rw [HXE.out] at this; exact this)
  refine (HI.out _ HB4.out).mono ?_
  rintro e u0 ⟨rfl, hb⟩
  have hx : RB u0 X #[.string N, .int .i64 k, .bool kp, .int .i64 al, .string B, .slice a n c] 24 := HW.out.1.next hb
  have hy : RB u0 (X + 1) #[.string ⟨#[]⟩, .int .i64 0, .bool false, .int .i64 0, .string ⟨#[]⟩, .slice none 0 0] 24 := HW.out.2.1.next hb
  have HB5 := Lib.hid (after HB4.out hb)
  clear hb
  have x0 : u0.cell? ⟨X, 0, none⟩ = some (.string N) := hx.cell
  have x1 : u0.cell? ⟨X, 1, none⟩ = some (.int .i64 k) := hx.cell
  have x2 : u0.cell? ⟨X, 2, none⟩ = some (.bool kp) := hx.cell
  have x3 : u0.cell? ⟨X, 3, none⟩ = some (.int .i64 al) := hx.cell
  have x4 : u0.cell? ⟨X, 4, none⟩ = some (.string B) := hx.cell
  have x5 : u0.cell? ⟨X, 5, none⟩ = some (.slice a n c) := hx.cell
  go_wp2_with fail
  first | (go_region_law (fail)) | skip
  have hx0 : RB u0.drew X #[.string N, .int .i64 k, .bool kp, .int .i64 al, .string B, .slice a n c] 24 := hx.next ((Below.refl u0.heap.size u0).drew)
  clear x0 x1 x2 x3 x4 x5
  have x0 : u0.drew.cell? ⟨X, 0, none⟩ = some (.string N) := hx0.cell
  have z0 : u0.drew.frozen? ⟨X, 0, none⟩ = false := hx0.frozen
  have x1 : u0.drew.cell? ⟨X, 1, none⟩ = some (.int .i64 k) := hx0.cell
  have z1 : u0.drew.frozen? ⟨X, 1, none⟩ = false := hx0.frozen
  have x2 : u0.drew.cell? ⟨X, 2, none⟩ = some (.bool kp) := hx0.cell
  have z2 : u0.drew.frozen? ⟨X, 2, none⟩ = false := hx0.frozen
  have x3 : u0.drew.cell? ⟨X, 3, none⟩ = some (.int .i64 al) := hx0.cell
  have z3 : u0.drew.frozen? ⟨X, 3, none⟩ = false := hx0.frozen
  have x4 : u0.drew.cell? ⟨X, 4, none⟩ = some (.string B) := hx0.cell
  have z4 : u0.drew.frozen? ⟨X, 4, none⟩ = false := hx0.frozen
  have x5 : u0.drew.cell? ⟨X, 5, none⟩ = some (.slice a n c) := hx0.cell
  have z5 : u0.drew.frozen? ⟨X, 5, none⟩ = false := hx0.frozen
  have hM := HMx.out
  go_wp2_with fail
  simp only [b1]
  clear x0 x1 x2 x3 x4 x5 z0 z1 z2 z3 z4 z5 hM
  have hx1 : RB (u0.setCell ⟨X, 3, none⟩ (.int .i64 M)) X #[.string N, .int .i64 k, .bool kp, .int .i64 M, .string B, .slice a n c] 24 := RB.set (j := 3) hx (.int .i64 M)
  have hy1 : RB (u0.setCell ⟨X, 3, none⟩ (.int .i64 M)) (X + 1) #[.string ⟨#[]⟩, .int .i64 0, .bool false, .int .i64 0, .string ⟨#[]⟩, .slice none 0 0] 24 := (Below.heap_setCell _ _ _ _ (by simp)).trans hy
  have HB7 := Lib.hid ((HB5.out.setCell (p := ⟨X, 3, none⟩) (by show _ ≤ X; rw [HXE.out]; exact Nat.le_refl _) (.int .i64 M)).drew)
  have hx2 : RB (u0.setCell ⟨X, 3, none⟩ (.int .i64 M)).drew X #[.string N, .int .i64 k, .bool kp, .int .i64 M, .string B, .slice a n c] 24 := hx1.next ((Below.refl _ _).drew)
  have hy2 : RB (u0.setCell ⟨X, 3, none⟩ (.int .i64 M)).drew (X + 1) #[.string ⟨#[]⟩, .int .i64 0, .bool false, .int .i64 0, .string ⟨#[]⟩, .slice none 0 0] 24 := hy1.next ((Below.refl _ _).drew)
  clear hx0 hx1 hy1 hx hy
  generalize (u0.setCell ⟨X, 3, none⟩ (.int .i64 M)).drew = u at hx2 hy2 HB7 ⊢
  have hx := hx2
  have hy := hy2
  clear hx2 hy2
  have HB5 := HB7
  have x0 : u.cell? ⟨X, 0, none⟩ = some (.string N) := hx.cell
  have x1 : u.cell? ⟨X, 1, none⟩ = some (.int .i64 k) := hx.cell
  have x2 : u.cell? ⟨X, 2, none⟩ = some (.bool kp) := hx.cell
  have x3 : u.cell? ⟨X, 3, none⟩ = some (.int .i64 M) := hx.cell
  have x4 : u.cell? ⟨X, 4, none⟩ = some (.string B) := hx.cell
  have x5 : u.cell? ⟨X, 5, none⟩ = some (.slice a n c) := hx.cell
  have HXl : Hid (X + 1 < u.heap.size) := Lib.hid (lt_of_block hy)
  have HXu := Lib.hid hx
  have HYu := Lib.hid hy
  clear hx hy
  first | (go_region_law ((first
    | (go_simp; go_at_call 42; refine (HBy.out _).mono ?_; rintro e u1 ⟨rfl, hb1⟩; have hb1' := ((Below.refl u.heap.size u).drew).trans hb1; have w0 : u1.cell? ⟨X, 0, none⟩ = some (.string N) := (HXu.out.next hb1').cell; have w1 : u1.cell? ⟨X, 1, none⟩ = some (.int .i64 k) := (HXu.out.next hb1').cell; have w2 : u1.cell? ⟨X, 2, none⟩ = some (.bool kp) := (HXu.out.next hb1').cell; have w3 : u1.cell? ⟨X, 3, none⟩ = some (.int .i64 M) := (HXu.out.next hb1').cell; have w4 : u1.cell? ⟨X, 4, none⟩ = some (.string B) := (HXu.out.next hb1').cell; have w5 : u1.cell? ⟨X, 5, none⟩ = some (.slice a n c) := (HXu.out.next hb1').cell)
    | (go_simp; go_at_call 41; refine (HP.out _ (after HB5.out hb1')).mono ?_; rintro e v' ⟨a', c', rfl, hrow, hb2⟩; have hy : RB v' (X + 1) #[.string ⟨#[]⟩, .int .i64 0, .bool false, .int .i64 0, .string ⟨#[]⟩, .slice none 0 0] 24 := (HYu.out.next hb1').next hb2; have y0 : v'.cell? ⟨X + 1, 0, none⟩ = some (.string ⟨#[]⟩) := hy.cell; have z0 : v'.frozen? ⟨X + 1, 0, none⟩ = false := hy.frozen; have y1 : v'.cell? ⟨X + 1, 1, none⟩ = some (.int .i64 0) := hy.cell; have z1 : v'.frozen? ⟨X + 1, 1, none⟩ = false := hy.frozen; have y2 : v'.cell? ⟨X + 1, 2, none⟩ = some (.bool false) := hy.cell; have z2 : v'.frozen? ⟨X + 1, 2, none⟩ = false := hy.frozen; have y3 : v'.cell? ⟨X + 1, 3, none⟩ = some (.int .i64 0) := hy.cell; have z3 : v'.frozen? ⟨X + 1, 3, none⟩ = false := hy.frozen; have y4 : v'.cell? ⟨X + 1, 4, none⟩ = some (.string ⟨#[]⟩) := hy.cell; have z4 : v'.frozen? ⟨X + 1, 4, none⟩ = false := hy.frozen; have y5 : v'.cell? ⟨X + 1, 5, none⟩ = some (.slice none 0 0) := hy.cell; have z5 : v'.frozen? ⟨X + 1, 5, none⟩ = false := hy.frozen)))) | fail
  all_goals
    have HB6 := Lib.hid (after (after HB5.out hb1') hb2)
    have HQ := Lib.hid (gset_heap hy (.string ⟨t.name.toArray⟩) (.int .i64 t.kind) (.bool t.keep) (.int .i64 t.align) (.string ⟨t.data.toArray⟩) (.slice a' m c'))
    have HB8 := Lib.hid (gset_below HB6.out (Y := X + 1) (by rw [← HXE.out]; omega) (.string ⟨t.name.toArray⟩) (.int .i64 t.kind) (.bool t.keep) (.int .i64 t.align) (.string ⟨t.data.toArray⟩) (.slice a' m c'))
    have HR8 := Lib.hid ((gset_row hrow (Y := X + 1) (Nat.lt_of_lt_of_le HXl.out hb1'.size) (.string ⟨t.name.toArray⟩) (.int .i64 t.kind) (.bool t.keep) (.int .i64 t.align) (.string ⟨t.data.toArray⟩) (.slice a' m c')).mono (after HB5.out hb1').size)
    clear hy hrow hb1 hb1' hb2
    go_wp2
    refine bodyPost_ret (results_cell_two (P := Tryz.prog) rfl _ _ (X + 1) 24 _ (0, 0) _ (.int .i64 er) rfl HQ.out Tryz.underlying24 rfl (by kernel_rfl) rfl) rfl ?_
    exact SecR.full HR.out HM.out rfl HR8.out HB8.out
set_option maxRecDepth 100000 in
set_option maxHeartbeats 4000000 in
theorem pAlign_2 (N B : ByteArray) (k : Int) (kp : Bool) (al : Int) (a : Option Addr) (n c : Nat) (l : List Rl) (w : World) (hs : SL rlC 4 w w.heap.size a n l) (hz : a = none → n = 0 ∧ c = 0) (hN : N.size ≤ maxLen) (hBm : B.size ≤ maxLen) (hg : ∀ r ∈ l, GoodRl r) (hT : TabP w) (hsec : secR ⟨N.data.toList, k, kp, al, B.data.toList, l⟩ = true) : Calls Tryz.prog 19 #[.agg #[.string N, .int .i64 k, .bool kp, .int .i64 al, .string B, .slice a n c], .int .i64 2] w (SecR (pAlignL ⟨N.data.toList, k, kp, al, B.data.toList, l⟩ 2) w) := by
  have hBs : B.data.toList.length = B.size := by simp
  obtain ⟨-, -, -, -, -, g6, g7⟩ := head_iff.1 (sec_iff.1 hsec).1
  simp only at g6 g7
  have hln := hs.len
  obtain ⟨L, hL⟩ : ∃ L, L = lackN B.size 2 := ⟨_, rfl⟩
  have hLb : L < 4 := by rw [hL]; exact Nat.mod_lt _ (by decide)
  obtain ⟨M, hM⟩ : ∃ M, max al 2 = M := ⟨_, rfl⟩
  obtain ⟨t, er, ht⟩ : ∃ t er, placedL ⟨N.data.toList, k, kp, M, B.data.toList, l⟩ (nulB L) [] = (t, er) := ⟨_, _, rfl⟩
  have HR : Hid (pAlignL ⟨N.data.toList, k, kp, al, B.data.toList, l⟩ 2 = (t, er)) := Lib.hid (by unfold pAlignL; rw [if_pos hsec, if_neg (by decide)]; simp only [hBs, hM]; rw [hL] at ht; exact ht)
  have b1 : bits BinOp.and IntKind.i64 (-(B.size : Int)) 3 = (L : Int) := by rw [hL]; exact and_lack B.size 2 (by omega) (by decide)
  have b2 : IntKind.i64.wrap (-(B.size : Int)) = -(B.size : Int) := by rw [IntKind.wrap_i64]; omega
  have b3 : IntKind.i64.wrap 4 = 4 := rfl
  have b4 : IntKind.i64.wrap (4 - 1) = 3 := rfl
  obtain ⟨m, hm⟩ : ∃ m, m = t.rels.length := ⟨_, rfl⟩
  obtain ⟨D, hDD⟩ : ∃ D : ByteArray, D = ⟨(nulB L).toArray⟩ := ⟨_, rfl⟩
  have hDs : D.size = L := by rw [hDD]; show (nulB L).toArray.size = L; simp [nulB]
  have hDl : D.data.toList = nulB L := by rw [hDD]
  have HBy : Hid (∀ u, Calls Tryz.prog 42 #[.string ⟨#[0]⟩, .int .i64 (L : Int)] u (RetB (.string D) u)) := Lib.hid (fun u => by rw [hDD]; exact Rep_nul L (by omega) u)
  have HP : Hid (∀ u, Below w.heap.size w u → Calls Tryz.prog 41 #[.agg #[.string N, .int .i64 k, .bool kp, .int .i64 M, .string B, .slice a n c], .string D, .slice none 0 0] u (fun e v' => ∃ a' c', e = .returned (.tuple #[.agg #[.string ⟨t.name.toArray⟩, .int .i64 t.kind, .bool t.keep, .int .i64 t.align, .string ⟨t.data.toArray⟩, .slice a' m c'], .int .i64 er]) ∧ Row0 v' u.heap.size (.slice a' m c') m t.rels ∧ Below u.heap.size u v')) := Lib.hid (fun u hu => by
    have := placed_any N B D k kp M a none n c 0 0 l [] u (hs.next hu) hz (SL.nil _ _ _) (fun _ => ⟨rfl, rfl⟩) (by omega) (by omega) (by omega) (by omega)
    rw [hDl, ht] at this
    subst hm
    exact this)
  have HM := Lib.hid hm
  have HMx := Lib.hid hM
  have hZ := zeroSec
  have HI : Hid (∀ u, Below w.heap.size w u → Calls Tryz.prog 16 #[.agg #[.string N, .int .i64 k, .bool kp, .int .i64 al, .string B, .slice a n c]] u (RetB (.bool (secR ⟨N.data.toList, k, kp, al, B.data.toList, l⟩)) u)) := Lib.hid (fun u hu => pIs_core N B k kp al a n c l hN hBm u (hs.next hu) hg (hT.next hu))
  rw [hsec] at HI
  have HW := Lib.hid (two_rb (w := w) (A := #[.string N, .int .i64 k, .bool kp, .int .i64 al, .string B, .slice a n c]) (B := #[.string ⟨#[]⟩, .int .i64 0, .bool false, .int .i64 0, .string ⟨#[]⟩, .slice none 0 0]) (T := 24) (U := 24))
  obtain ⟨X, hX⟩ : ∃ X, X = w.heap.size := ⟨_, rfl⟩
  rw [← hX] at HW
  have HXE := Lib.hid hX
  clear g6 g7 hBs hln ht hm hDD hDs hDl hL hLb hM
  clear hs hz hN hBm hg hT hsec
  go_enter Tryz.func19, Tryz.ntmps19
  go_wp2_with fail
  rw [← hX]
  clear hX
  change Calls _ _ _ ((w.alloc (.cells #[.string N, .int .i64 k, .bool kp, .int .i64 al, .string B, .slice a n c] 24)).alloc (.cells #[.string ⟨#[]⟩, .int .i64 0, .bool false, .int .i64 0, .string ⟨#[]⟩, .slice none 0 0] 24)) _
  generalize (w.alloc (.cells #[.string N, .int .i64 k, .bool kp, .int .i64 al, .string B, .slice a n c] 24)).alloc (.cells #[.string ⟨#[]⟩, .int .i64 0, .bool false, .int .i64 0, .string ⟨#[]⟩, .slice none 0 0] 24) = W at HW ⊢
  have HB4 : Hid (Below w.heap.size w W) := Lib.hid (by have := HW.out.2.2; rw [HXE.out] at this; exact this)
  refine (HI.out _ HB4.out).mono ?_
  rintro e u0 ⟨rfl, hb⟩
  have hx : RB u0 X #[.string N, .int .i64 k, .bool kp, .int .i64 al, .string B, .slice a n c] 24 := HW.out.1.next hb
  have hy : RB u0 (X + 1) #[.string ⟨#[]⟩, .int .i64 0, .bool false, .int .i64 0, .string ⟨#[]⟩, .slice none 0 0] 24 := HW.out.2.1.next hb
  have HB5 := Lib.hid (after HB4.out hb)
  clear hb
  have x0 : u0.cell? ⟨X, 0, none⟩ = some (.string N) := hx.cell
  have x1 : u0.cell? ⟨X, 1, none⟩ = some (.int .i64 k) := hx.cell
  have x2 : u0.cell? ⟨X, 2, none⟩ = some (.bool kp) := hx.cell
  have x3 : u0.cell? ⟨X, 3, none⟩ = some (.int .i64 al) := hx.cell
  have x4 : u0.cell? ⟨X, 4, none⟩ = some (.string B) := hx.cell
  have x5 : u0.cell? ⟨X, 5, none⟩ = some (.slice a n c) := hx.cell
  go_wp2_with fail
  first | (go_region_law (fail)) | skip
  have hx0 : RB u0.drew X #[.string N, .int .i64 k, .bool kp, .int .i64 al, .string B, .slice a n c] 24 := hx.next ((Below.refl u0.heap.size u0).drew)
  clear x0 x1 x2 x3 x4 x5
  have x0 : u0.drew.cell? ⟨X, 0, none⟩ = some (.string N) := hx0.cell
  have z0 : u0.drew.frozen? ⟨X, 0, none⟩ = false := hx0.frozen
  have x1 : u0.drew.cell? ⟨X, 1, none⟩ = some (.int .i64 k) := hx0.cell
  have z1 : u0.drew.frozen? ⟨X, 1, none⟩ = false := hx0.frozen
  have x2 : u0.drew.cell? ⟨X, 2, none⟩ = some (.bool kp) := hx0.cell
  have z2 : u0.drew.frozen? ⟨X, 2, none⟩ = false := hx0.frozen
  have x3 : u0.drew.cell? ⟨X, 3, none⟩ = some (.int .i64 al) := hx0.cell
  have z3 : u0.drew.frozen? ⟨X, 3, none⟩ = false := hx0.frozen
  have x4 : u0.drew.cell? ⟨X, 4, none⟩ = some (.string B) := hx0.cell
  have z4 : u0.drew.frozen? ⟨X, 4, none⟩ = false := hx0.frozen
  have x5 : u0.drew.cell? ⟨X, 5, none⟩ = some (.slice a n c) := hx0.cell
  have z5 : u0.drew.frozen? ⟨X, 5, none⟩ = false := hx0.frozen
  have hM := HMx.out
  go_wp2_with fail
  simp only [b1]
  clear x0 x1 x2 x3 x4 x5 z0 z1 z2 z3 z4 z5 hM
  have hx1 : RB (u0.setCell ⟨X, 3, none⟩ (.int .i64 M)) X #[.string N, .int .i64 k, .bool kp, .int .i64 M, .string B, .slice a n c] 24 := RB.set (j := 3) hx (.int .i64 M)
  have hy1 : RB (u0.setCell ⟨X, 3, none⟩ (.int .i64 M)) (X + 1) #[.string ⟨#[]⟩, .int .i64 0, .bool false, .int .i64 0, .string ⟨#[]⟩, .slice none 0 0] 24 := (Below.heap_setCell _ _ _ _ (by simp)).trans hy
  have HB7 := Lib.hid ((HB5.out.setCell (p := ⟨X, 3, none⟩) (by show _ ≤ X; rw [HXE.out]; exact Nat.le_refl _) (.int .i64 M)).drew)
  have hx2 : RB (u0.setCell ⟨X, 3, none⟩ (.int .i64 M)).drew X #[.string N, .int .i64 k, .bool kp, .int .i64 M, .string B, .slice a n c] 24 := hx1.next ((Below.refl _ _).drew)
  have hy2 : RB (u0.setCell ⟨X, 3, none⟩ (.int .i64 M)).drew (X + 1) #[.string ⟨#[]⟩, .int .i64 0, .bool false, .int .i64 0, .string ⟨#[]⟩, .slice none 0 0] 24 := hy1.next ((Below.refl _ _).drew)
  clear hx0 hx1 hy1 hx hy
  generalize (u0.setCell ⟨X, 3, none⟩ (.int .i64 M)).drew = u at hx2 hy2 HB7 ⊢
  have hx := hx2
  have hy := hy2
  clear hx2 hy2
  have HB5 := HB7
  have x0 : u.cell? ⟨X, 0, none⟩ = some (.string N) := hx.cell
  have x1 : u.cell? ⟨X, 1, none⟩ = some (.int .i64 k) := hx.cell
  have x2 : u.cell? ⟨X, 2, none⟩ = some (.bool kp) := hx.cell
  have x3 : u.cell? ⟨X, 3, none⟩ = some (.int .i64 M) := hx.cell
  have x4 : u.cell? ⟨X, 4, none⟩ = some (.string B) := hx.cell
  have x5 : u.cell? ⟨X, 5, none⟩ = some (.slice a n c) := hx.cell
  have HXl : Hid (X + 1 < u.heap.size) := Lib.hid (lt_of_block hy)
  have HXu := Lib.hid hx
  have HYu := Lib.hid hy
  clear hx hy
  first | (go_region_law ((first
    | (go_simp; go_at_call 42; refine (HBy.out _).mono ?_; rintro e u1 ⟨rfl, hb1⟩; have hb1' := ((Below.refl u.heap.size u).drew).trans hb1; have w0 : u1.cell? ⟨X, 0, none⟩ = some (.string N) := (HXu.out.next hb1').cell; have w1 : u1.cell? ⟨X, 1, none⟩ = some (.int .i64 k) := (HXu.out.next hb1').cell; have w2 : u1.cell? ⟨X, 2, none⟩ = some (.bool kp) := (HXu.out.next hb1').cell; have w3 : u1.cell? ⟨X, 3, none⟩ = some (.int .i64 M) := (HXu.out.next hb1').cell; have w4 : u1.cell? ⟨X, 4, none⟩ = some (.string B) := (HXu.out.next hb1').cell; have w5 : u1.cell? ⟨X, 5, none⟩ = some (.slice a n c) := (HXu.out.next hb1').cell)
    | (go_simp; go_at_call 41; refine (HP.out _ (after HB5.out hb1')).mono ?_; rintro e v' ⟨a', c', rfl, hrow, hb2⟩; have hy : RB v' (X + 1) #[.string ⟨#[]⟩, .int .i64 0, .bool false, .int .i64 0, .string ⟨#[]⟩, .slice none 0 0] 24 := (HYu.out.next hb1').next hb2; have y0 : v'.cell? ⟨X + 1, 0, none⟩ = some (.string ⟨#[]⟩) := hy.cell; have z0 : v'.frozen? ⟨X + 1, 0, none⟩ = false := hy.frozen; have y1 : v'.cell? ⟨X + 1, 1, none⟩ = some (.int .i64 0) := hy.cell; have z1 : v'.frozen? ⟨X + 1, 1, none⟩ = false := hy.frozen; have y2 : v'.cell? ⟨X + 1, 2, none⟩ = some (.bool false) := hy.cell; have z2 : v'.frozen? ⟨X + 1, 2, none⟩ = false := hy.frozen; have y3 : v'.cell? ⟨X + 1, 3, none⟩ = some (.int .i64 0) := hy.cell; have z3 : v'.frozen? ⟨X + 1, 3, none⟩ = false := hy.frozen; have y4 : v'.cell? ⟨X + 1, 4, none⟩ = some (.string ⟨#[]⟩) := hy.cell; have z4 : v'.frozen? ⟨X + 1, 4, none⟩ = false := hy.frozen; have y5 : v'.cell? ⟨X + 1, 5, none⟩ = some (.slice none 0 0) := hy.cell; have z5 : v'.frozen? ⟨X + 1, 5, none⟩ = false := hy.frozen)))) | fail
  all_goals
    have HB6 := Lib.hid (after (after HB5.out hb1') hb2)
    have HQ := Lib.hid (gset_heap hy (.string ⟨t.name.toArray⟩) (.int .i64 t.kind) (.bool t.keep) (.int .i64 t.align) (.string ⟨t.data.toArray⟩) (.slice a' m c'))
    have HB8 := Lib.hid (gset_below HB6.out (Y := X + 1) (by rw [← HXE.out]; omega) (.string ⟨t.name.toArray⟩) (.int .i64 t.kind) (.bool t.keep) (.int .i64 t.align) (.string ⟨t.data.toArray⟩) (.slice a' m c'))
    have HR8 := Lib.hid ((gset_row hrow (Y := X + 1) (Nat.lt_of_lt_of_le HXl.out hb1'.size) (.string ⟨t.name.toArray⟩) (.int .i64 t.kind) (.bool t.keep) (.int .i64 t.align) (.string ⟨t.data.toArray⟩) (.slice a' m c')).mono (after HB5.out hb1').size)
    clear hy hrow hb1 hb1' hb2
    go_wp2
    refine bodyPost_ret (results_cell_two (P := Tryz.prog) rfl _ _ (X + 1) 24 _ (0, 0) _ (.int .i64 er) rfl HQ.out Tryz.underlying24 rfl (by kernel_rfl) rfl) rfl ?_
    exact SecR.full HR.out HM.out rfl HR8.out HB8.out
set_option maxRecDepth 100000 in
set_option maxHeartbeats 4000000 in
theorem pAlign_3 (N B : ByteArray) (k : Int) (kp : Bool) (al : Int) (a : Option Addr) (n c : Nat) (l : List Rl) (w : World) (hs : SL rlC 4 w w.heap.size a n l) (hz : a = none → n = 0 ∧ c = 0) (hN : N.size ≤ maxLen) (hBm : B.size ≤ maxLen) (hg : ∀ r ∈ l, GoodRl r) (hT : TabP w) (hsec : secR ⟨N.data.toList, k, kp, al, B.data.toList, l⟩ = true) : Calls Tryz.prog 19 #[.agg #[.string N, .int .i64 k, .bool kp, .int .i64 al, .string B, .slice a n c], .int .i64 3] w (SecR (pAlignL ⟨N.data.toList, k, kp, al, B.data.toList, l⟩ 3) w) := by
  have hBs : B.data.toList.length = B.size := by simp
  obtain ⟨-, -, -, -, -, g6, g7⟩ := head_iff.1 (sec_iff.1 hsec).1
  simp only at g6 g7
  have hln := hs.len
  obtain ⟨L, hL⟩ : ∃ L, L = lackN B.size 3 := ⟨_, rfl⟩
  have hLb : L < 8 := by rw [hL]; exact Nat.mod_lt _ (by decide)
  obtain ⟨M, hM⟩ : ∃ M, max al 3 = M := ⟨_, rfl⟩
  obtain ⟨t, er, ht⟩ : ∃ t er, placedL ⟨N.data.toList, k, kp, M, B.data.toList, l⟩ (nulB L) [] = (t, er) := ⟨_, _, rfl⟩
  have HR : Hid (pAlignL ⟨N.data.toList, k, kp, al, B.data.toList, l⟩ 3 = (t, er)) := Lib.hid (by unfold pAlignL; rw [if_pos hsec, if_neg (by decide)]; simp only [hBs, hM]; rw [hL] at ht; exact ht)
  have b1 : bits BinOp.and IntKind.i64 (-(B.size : Int)) 7 = (L : Int) := by rw [hL]; exact and_lack B.size 3 (by omega) (by decide)
  have b2 : IntKind.i64.wrap (-(B.size : Int)) = -(B.size : Int) := by rw [IntKind.wrap_i64]; omega
  have b3 : IntKind.i64.wrap 8 = 8 := rfl
  have b4 : IntKind.i64.wrap (8 - 1) = 7 := rfl
  obtain ⟨m, hm⟩ : ∃ m, m = t.rels.length := ⟨_, rfl⟩
  obtain ⟨D, hDD⟩ : ∃ D : ByteArray, D = ⟨(nulB L).toArray⟩ := ⟨_, rfl⟩
  have hDs : D.size = L := by rw [hDD]; show (nulB L).toArray.size = L; simp [nulB]
  have hDl : D.data.toList = nulB L := by rw [hDD]
  have HBy : Hid (∀ u, Calls Tryz.prog 42 #[.string ⟨#[0]⟩, .int .i64 (L : Int)] u (RetB (.string D) u)) := Lib.hid (fun u => by rw [hDD]; exact Rep_nul L (by omega) u)
  have HP : Hid (∀ u, Below w.heap.size w u → Calls Tryz.prog 41 #[.agg #[.string N, .int .i64 k, .bool kp, .int .i64 M, .string B, .slice a n c], .string D, .slice none 0 0] u (fun e v' => ∃ a' c', e = .returned (.tuple #[.agg #[.string ⟨t.name.toArray⟩, .int .i64 t.kind, .bool t.keep, .int .i64 t.align, .string ⟨t.data.toArray⟩, .slice a' m c'], .int .i64 er]) ∧ Row0 v' u.heap.size (.slice a' m c') m t.rels ∧ Below u.heap.size u v')) := Lib.hid (fun u hu => by
    have := placed_any N B D k kp M a none n c 0 0 l [] u (hs.next hu) hz (SL.nil _ _ _) (fun _ => ⟨rfl, rfl⟩) (by omega) (by omega) (by omega) (by omega)
    rw [hDl, ht] at this
    subst hm
    exact this)
  have HM := Lib.hid hm
  have HMx := Lib.hid hM
  have hZ := zeroSec
  have HI : Hid (∀ u, Below w.heap.size w u → Calls Tryz.prog 16 #[.agg #[.string N, .int .i64 k, .bool kp, .int .i64 al, .string B, .slice a n c]] u (RetB (.bool (secR ⟨N.data.toList, k, kp, al, B.data.toList, l⟩)) u)) := Lib.hid (fun u hu => pIs_core N B k kp al a n c l hN hBm u (hs.next hu) hg (hT.next hu))
  rw [hsec] at HI
  have HW := Lib.hid (two_rb (w := w) (A := #[.string N, .int .i64 k, .bool kp, .int .i64 al, .string B, .slice a n c]) (B := #[.string ⟨#[]⟩, .int .i64 0, .bool false, .int .i64 0, .string ⟨#[]⟩, .slice none 0 0]) (T := 24) (U := 24))
  obtain ⟨X, hX⟩ : ∃ X, X = w.heap.size := ⟨_, rfl⟩
  rw [← hX] at HW
  have HXE := Lib.hid hX
  clear g6 g7 hBs hln ht hm hDD hDs hDl hL hLb hM
  clear hs hz hN hBm hg hT hsec
  go_enter Tryz.func19, Tryz.ntmps19
  go_wp2_with fail
  rw [← hX]
  clear hX
  change Calls _ _ _ ((w.alloc (.cells #[.string N, .int .i64 k, .bool kp, .int .i64 al, .string B, .slice a n c] 24)).alloc (.cells #[.string ⟨#[]⟩, .int .i64 0, .bool false, .int .i64 0, .string ⟨#[]⟩, .slice none 0 0] 24)) _
  generalize (w.alloc (.cells #[.string N, .int .i64 k, .bool kp, .int .i64 al, .string B, .slice a n c] 24)).alloc (.cells #[.string ⟨#[]⟩, .int .i64 0, .bool false, .int .i64 0, .string ⟨#[]⟩, .slice none 0 0] 24) = W at HW ⊢
  have HB4 : Hid (Below w.heap.size w W) := Lib.hid (by have := HW.out.2.2; rw [HXE.out] at this; exact this)
  refine (HI.out _ HB4.out).mono ?_
  rintro e u0 ⟨rfl, hb⟩
  have hx : RB u0 X #[.string N, .int .i64 k, .bool kp, .int .i64 al, .string B, .slice a n c] 24 := HW.out.1.next hb
  have hy : RB u0 (X + 1) #[.string ⟨#[]⟩, .int .i64 0, .bool false, .int .i64 0, .string ⟨#[]⟩, .slice none 0 0] 24 := HW.out.2.1.next hb
  have HB5 := Lib.hid (after HB4.out hb)
  clear hb
  have x0 : u0.cell? ⟨X, 0, none⟩ = some (.string N) := hx.cell
  have x1 : u0.cell? ⟨X, 1, none⟩ = some (.int .i64 k) := hx.cell
  have x2 : u0.cell? ⟨X, 2, none⟩ = some (.bool kp) := hx.cell
  have x3 : u0.cell? ⟨X, 3, none⟩ = some (.int .i64 al) := hx.cell
  have x4 : u0.cell? ⟨X, 4, none⟩ = some (.string B) := hx.cell
  have x5 : u0.cell? ⟨X, 5, none⟩ = some (.slice a n c) := hx.cell
  go_wp2_with fail
  first | (go_region_law (fail)) | skip
  have hx0 : RB u0.drew X #[.string N, .int .i64 k, .bool kp, .int .i64 al, .string B, .slice a n c] 24 := hx.next ((Below.refl u0.heap.size u0).drew)
  clear x0 x1 x2 x3 x4 x5
  have x0 : u0.drew.cell? ⟨X, 0, none⟩ = some (.string N) := hx0.cell
  have z0 : u0.drew.frozen? ⟨X, 0, none⟩ = false := hx0.frozen
  have x1 : u0.drew.cell? ⟨X, 1, none⟩ = some (.int .i64 k) := hx0.cell
  have z1 : u0.drew.frozen? ⟨X, 1, none⟩ = false := hx0.frozen
  have x2 : u0.drew.cell? ⟨X, 2, none⟩ = some (.bool kp) := hx0.cell
  have z2 : u0.drew.frozen? ⟨X, 2, none⟩ = false := hx0.frozen
  have x3 : u0.drew.cell? ⟨X, 3, none⟩ = some (.int .i64 al) := hx0.cell
  have z3 : u0.drew.frozen? ⟨X, 3, none⟩ = false := hx0.frozen
  have x4 : u0.drew.cell? ⟨X, 4, none⟩ = some (.string B) := hx0.cell
  have z4 : u0.drew.frozen? ⟨X, 4, none⟩ = false := hx0.frozen
  have x5 : u0.drew.cell? ⟨X, 5, none⟩ = some (.slice a n c) := hx0.cell
  have z5 : u0.drew.frozen? ⟨X, 5, none⟩ = false := hx0.frozen
  have hM := HMx.out
  go_wp2_with fail
  simp only [b1]
  clear x0 x1 x2 x3 x4 x5 z0 z1 z2 z3 z4 z5 hM
  have hx1 : RB (u0.setCell ⟨X, 3, none⟩ (.int .i64 M)) X #[.string N, .int .i64 k, .bool kp, .int .i64 M, .string B, .slice a n c] 24 := RB.set (j := 3) hx (.int .i64 M)
  have hy1 : RB (u0.setCell ⟨X, 3, none⟩ (.int .i64 M)) (X + 1) #[.string ⟨#[]⟩, .int .i64 0, .bool false, .int .i64 0, .string ⟨#[]⟩, .slice none 0 0] 24 := (Below.heap_setCell _ _ _ _ (by simp)).trans hy
  have HB7 := Lib.hid ((HB5.out.setCell (p := ⟨X, 3, none⟩) (by show _ ≤ X; rw [HXE.out]; exact Nat.le_refl _) (.int .i64 M)).drew)
  have hx2 : RB (u0.setCell ⟨X, 3, none⟩ (.int .i64 M)).drew X #[.string N, .int .i64 k, .bool kp, .int .i64 M, .string B, .slice a n c] 24 := hx1.next ((Below.refl _ _).drew)
  have hy2 : RB (u0.setCell ⟨X, 3, none⟩ (.int .i64 M)).drew (X + 1) #[.string ⟨#[]⟩, .int .i64 0, .bool false, .int .i64 0, .string ⟨#[]⟩, .slice none 0 0] 24 := hy1.next ((Below.refl _ _).drew)
  clear hx0 hx1 hy1 hx hy
  generalize (u0.setCell ⟨X, 3, none⟩ (.int .i64 M)).drew = u at hx2 hy2 HB7 ⊢
  have hx := hx2
  have hy := hy2
  clear hx2 hy2
  have HB5 := HB7
  have x0 : u.cell? ⟨X, 0, none⟩ = some (.string N) := hx.cell
  have x1 : u.cell? ⟨X, 1, none⟩ = some (.int .i64 k) := hx.cell
  have x2 : u.cell? ⟨X, 2, none⟩ = some (.bool kp) := hx.cell
  have x3 : u.cell? ⟨X, 3, none⟩ = some (.int .i64 M) := hx.cell
  have x4 : u.cell? ⟨X, 4, none⟩ = some (.string B) := hx.cell
  have x5 : u.cell? ⟨X, 5, none⟩ = some (.slice a n c) := hx.cell
  have HXl : Hid (X + 1 < u.heap.size) := Lib.hid (lt_of_block hy)
  have HXu := Lib.hid hx
  have HYu := Lib.hid hy
  clear hx hy
  first | (go_region_law ((first
    | (go_simp; go_at_call 42; refine (HBy.out _).mono ?_; rintro e u1 ⟨rfl, hb1⟩; have hb1' := ((Below.refl u.heap.size u).drew).trans hb1; have w0 : u1.cell? ⟨X, 0, none⟩ = some (.string N) := (HXu.out.next hb1').cell; have w1 : u1.cell? ⟨X, 1, none⟩ = some (.int .i64 k) := (HXu.out.next hb1').cell; have w2 : u1.cell? ⟨X, 2, none⟩ = some (.bool kp) := (HXu.out.next hb1').cell; have w3 : u1.cell? ⟨X, 3, none⟩ = some (.int .i64 M) := (HXu.out.next hb1').cell; have w4 : u1.cell? ⟨X, 4, none⟩ = some (.string B) := (HXu.out.next hb1').cell; have w5 : u1.cell? ⟨X, 5, none⟩ = some (.slice a n c) := (HXu.out.next hb1').cell)
    | (go_simp; go_at_call 41; refine (HP.out _ (after HB5.out hb1')).mono ?_; rintro e v' ⟨a', c', rfl, hrow, hb2⟩; have hy : RB v' (X + 1) #[.string ⟨#[]⟩, .int .i64 0, .bool false, .int .i64 0, .string ⟨#[]⟩, .slice none 0 0] 24 := (HYu.out.next hb1').next hb2; have y0 : v'.cell? ⟨X + 1, 0, none⟩ = some (.string ⟨#[]⟩) := hy.cell; have z0 : v'.frozen? ⟨X + 1, 0, none⟩ = false := hy.frozen; have y1 : v'.cell? ⟨X + 1, 1, none⟩ = some (.int .i64 0) := hy.cell; have z1 : v'.frozen? ⟨X + 1, 1, none⟩ = false := hy.frozen; have y2 : v'.cell? ⟨X + 1, 2, none⟩ = some (.bool false) := hy.cell; have z2 : v'.frozen? ⟨X + 1, 2, none⟩ = false := hy.frozen; have y3 : v'.cell? ⟨X + 1, 3, none⟩ = some (.int .i64 0) := hy.cell; have z3 : v'.frozen? ⟨X + 1, 3, none⟩ = false := hy.frozen; have y4 : v'.cell? ⟨X + 1, 4, none⟩ = some (.string ⟨#[]⟩) := hy.cell; have z4 : v'.frozen? ⟨X + 1, 4, none⟩ = false := hy.frozen; have y5 : v'.cell? ⟨X + 1, 5, none⟩ = some (.slice none 0 0) := hy.cell; have z5 : v'.frozen? ⟨X + 1, 5, none⟩ = false := hy.frozen)))) | fail
  all_goals
    have HB6 := Lib.hid (after (after HB5.out hb1') hb2)
    have HQ := Lib.hid (gset_heap hy (.string ⟨t.name.toArray⟩) (.int .i64 t.kind) (.bool t.keep) (.int .i64 t.align) (.string ⟨t.data.toArray⟩) (.slice a' m c'))
    have HB8 := Lib.hid (gset_below HB6.out (Y := X + 1) (by rw [← HXE.out]; omega) (.string ⟨t.name.toArray⟩) (.int .i64 t.kind) (.bool t.keep) (.int .i64 t.align) (.string ⟨t.data.toArray⟩) (.slice a' m c'))
    have HR8 := Lib.hid ((gset_row hrow (Y := X + 1) (Nat.lt_of_lt_of_le HXl.out hb1'.size) (.string ⟨t.name.toArray⟩) (.int .i64 t.kind) (.bool t.keep) (.int .i64 t.align) (.string ⟨t.data.toArray⟩) (.slice a' m c')).mono (after HB5.out hb1').size)
    clear hy hrow hb1 hb1' hb2
    go_wp2
    refine bodyPost_ret (results_cell_two (P := Tryz.prog) rfl _ _ (X + 1) 24 _ (0, 0) _ (.int .i64 er) rfl HQ.out Tryz.underlying24 rfl (by kernel_rfl) rfl) rfl ?_
    exact SecR.full HR.out HM.out rfl HR8.out HB8.out
set_option maxRecDepth 100000 in
set_option maxHeartbeats 4000000 in
theorem pAlign_4 (N B : ByteArray) (k : Int) (kp : Bool) (al : Int) (a : Option Addr) (n c : Nat) (l : List Rl) (w : World) (hs : SL rlC 4 w w.heap.size a n l) (hz : a = none → n = 0 ∧ c = 0) (hN : N.size ≤ maxLen) (hBm : B.size ≤ maxLen) (hg : ∀ r ∈ l, GoodRl r) (hT : TabP w) (hsec : secR ⟨N.data.toList, k, kp, al, B.data.toList, l⟩ = true) : Calls Tryz.prog 19 #[.agg #[.string N, .int .i64 k, .bool kp, .int .i64 al, .string B, .slice a n c], .int .i64 4] w (SecR (pAlignL ⟨N.data.toList, k, kp, al, B.data.toList, l⟩ 4) w) := by
  have hBs : B.data.toList.length = B.size := by simp
  obtain ⟨-, -, -, -, -, g6, g7⟩ := head_iff.1 (sec_iff.1 hsec).1
  simp only at g6 g7
  have hln := hs.len
  obtain ⟨L, hL⟩ : ∃ L, L = lackN B.size 4 := ⟨_, rfl⟩
  have hLb : L < 16 := by rw [hL]; exact Nat.mod_lt _ (by decide)
  obtain ⟨M, hM⟩ : ∃ M, max al 4 = M := ⟨_, rfl⟩
  obtain ⟨t, er, ht⟩ : ∃ t er, placedL ⟨N.data.toList, k, kp, M, B.data.toList, l⟩ (nulB L) [] = (t, er) := ⟨_, _, rfl⟩
  have HR : Hid (pAlignL ⟨N.data.toList, k, kp, al, B.data.toList, l⟩ 4 = (t, er)) := Lib.hid (by unfold pAlignL; rw [if_pos hsec, if_neg (by decide)]; simp only [hBs, hM]; rw [hL] at ht; exact ht)
  have b1 : bits BinOp.and IntKind.i64 (-(B.size : Int)) 15 = (L : Int) := by rw [hL]; exact and_lack B.size 4 (by omega) (by decide)
  have b2 : IntKind.i64.wrap (-(B.size : Int)) = -(B.size : Int) := by rw [IntKind.wrap_i64]; omega
  have b3 : IntKind.i64.wrap 16 = 16 := rfl
  have b4 : IntKind.i64.wrap (16 - 1) = 15 := rfl
  obtain ⟨m, hm⟩ : ∃ m, m = t.rels.length := ⟨_, rfl⟩
  obtain ⟨D, hDD⟩ : ∃ D : ByteArray, D = ⟨(nulB L).toArray⟩ := ⟨_, rfl⟩
  have hDs : D.size = L := by rw [hDD]; show (nulB L).toArray.size = L; simp [nulB]
  have hDl : D.data.toList = nulB L := by rw [hDD]
  have HBy : Hid (∀ u, Calls Tryz.prog 42 #[.string ⟨#[0]⟩, .int .i64 (L : Int)] u (RetB (.string D) u)) := Lib.hid (fun u => by rw [hDD]; exact Rep_nul L (by omega) u)
  have HP : Hid (∀ u, Below w.heap.size w u → Calls Tryz.prog 41 #[.agg #[.string N, .int .i64 k, .bool kp, .int .i64 M, .string B, .slice a n c], .string D, .slice none 0 0] u (fun e v' => ∃ a' c', e = .returned (.tuple #[.agg #[.string ⟨t.name.toArray⟩, .int .i64 t.kind, .bool t.keep, .int .i64 t.align, .string ⟨t.data.toArray⟩, .slice a' m c'], .int .i64 er]) ∧ Row0 v' u.heap.size (.slice a' m c') m t.rels ∧ Below u.heap.size u v')) := Lib.hid (fun u hu => by
    have := placed_any N B D k kp M a none n c 0 0 l [] u (hs.next hu) hz (SL.nil _ _ _) (fun _ => ⟨rfl, rfl⟩) (by omega) (by omega) (by omega) (by omega)
    rw [hDl, ht] at this
    subst hm
    exact this)
  have HM := Lib.hid hm
  have HMx := Lib.hid hM
  have hZ := zeroSec
  have HI : Hid (∀ u, Below w.heap.size w u → Calls Tryz.prog 16 #[.agg #[.string N, .int .i64 k, .bool kp, .int .i64 al, .string B, .slice a n c]] u (RetB (.bool (secR ⟨N.data.toList, k, kp, al, B.data.toList, l⟩)) u)) := Lib.hid (fun u hu => pIs_core N B k kp al a n c l hN hBm u (hs.next hu) hg (hT.next hu))
  rw [hsec] at HI
  have HW := Lib.hid (two_rb (w := w) (A := #[.string N, .int .i64 k, .bool kp, .int .i64 al, .string B, .slice a n c]) (B := #[.string ⟨#[]⟩, .int .i64 0, .bool false, .int .i64 0, .string ⟨#[]⟩, .slice none 0 0]) (T := 24) (U := 24))
  obtain ⟨X, hX⟩ : ∃ X, X = w.heap.size := ⟨_, rfl⟩
  rw [← hX] at HW
  have HXE := Lib.hid hX
  clear g6 g7 hBs hln ht hm hDD hDs hDl hL hLb hM
  clear hs hz hN hBm hg hT hsec
  go_enter Tryz.func19, Tryz.ntmps19
  go_wp2_with fail
  rw [← hX]
  clear hX
  change Calls _ _ _ ((w.alloc (.cells #[.string N, .int .i64 k, .bool kp, .int .i64 al, .string B, .slice a n c] 24)).alloc (.cells #[.string ⟨#[]⟩, .int .i64 0, .bool false, .int .i64 0, .string ⟨#[]⟩, .slice none 0 0] 24)) _
  generalize (w.alloc (.cells #[.string N, .int .i64 k, .bool kp, .int .i64 al, .string B, .slice a n c] 24)).alloc (.cells #[.string ⟨#[]⟩, .int .i64 0, .bool false, .int .i64 0, .string ⟨#[]⟩, .slice none 0 0] 24) = W at HW ⊢
  have HB4 : Hid (Below w.heap.size w W) := Lib.hid (by have := HW.out.2.2; rw [HXE.out] at this; exact this)
  refine (HI.out _ HB4.out).mono ?_
  rintro e u0 ⟨rfl, hb⟩
  have hx : RB u0 X #[.string N, .int .i64 k, .bool kp, .int .i64 al, .string B, .slice a n c] 24 := HW.out.1.next hb
  have hy : RB u0 (X + 1) #[.string ⟨#[]⟩, .int .i64 0, .bool false, .int .i64 0, .string ⟨#[]⟩, .slice none 0 0] 24 := HW.out.2.1.next hb
  have HB5 := Lib.hid (after HB4.out hb)
  clear hb
  have x0 : u0.cell? ⟨X, 0, none⟩ = some (.string N) := hx.cell
  have x1 : u0.cell? ⟨X, 1, none⟩ = some (.int .i64 k) := hx.cell
  have x2 : u0.cell? ⟨X, 2, none⟩ = some (.bool kp) := hx.cell
  have x3 : u0.cell? ⟨X, 3, none⟩ = some (.int .i64 al) := hx.cell
  have x4 : u0.cell? ⟨X, 4, none⟩ = some (.string B) := hx.cell
  have x5 : u0.cell? ⟨X, 5, none⟩ = some (.slice a n c) := hx.cell
  go_wp2_with fail
  first | (go_region_law (fail)) | skip
  have hx0 : RB u0.drew X #[.string N, .int .i64 k, .bool kp, .int .i64 al, .string B, .slice a n c] 24 := hx.next ((Below.refl u0.heap.size u0).drew)
  clear x0 x1 x2 x3 x4 x5
  have x0 : u0.drew.cell? ⟨X, 0, none⟩ = some (.string N) := hx0.cell
  have z0 : u0.drew.frozen? ⟨X, 0, none⟩ = false := hx0.frozen
  have x1 : u0.drew.cell? ⟨X, 1, none⟩ = some (.int .i64 k) := hx0.cell
  have z1 : u0.drew.frozen? ⟨X, 1, none⟩ = false := hx0.frozen
  have x2 : u0.drew.cell? ⟨X, 2, none⟩ = some (.bool kp) := hx0.cell
  have z2 : u0.drew.frozen? ⟨X, 2, none⟩ = false := hx0.frozen
  have x3 : u0.drew.cell? ⟨X, 3, none⟩ = some (.int .i64 al) := hx0.cell
  have z3 : u0.drew.frozen? ⟨X, 3, none⟩ = false := hx0.frozen
  have x4 : u0.drew.cell? ⟨X, 4, none⟩ = some (.string B) := hx0.cell
  have z4 : u0.drew.frozen? ⟨X, 4, none⟩ = false := hx0.frozen
  have x5 : u0.drew.cell? ⟨X, 5, none⟩ = some (.slice a n c) := hx0.cell
  have z5 : u0.drew.frozen? ⟨X, 5, none⟩ = false := hx0.frozen
  have hM := HMx.out
  go_wp2_with fail
  simp only [b1]
  clear x0 x1 x2 x3 x4 x5 z0 z1 z2 z3 z4 z5 hM
  have hx1 : RB (u0.setCell ⟨X, 3, none⟩ (.int .i64 M)) X #[.string N, .int .i64 k, .bool kp, .int .i64 M, .string B, .slice a n c] 24 := RB.set (j := 3) hx (.int .i64 M)
  have hy1 : RB (u0.setCell ⟨X, 3, none⟩ (.int .i64 M)) (X + 1) #[.string ⟨#[]⟩, .int .i64 0, .bool false, .int .i64 0, .string ⟨#[]⟩, .slice none 0 0] 24 := (Below.heap_setCell _ _ _ _ (by simp)).trans hy
  have HB7 := Lib.hid ((HB5.out.setCell (p := ⟨X, 3, none⟩) (by show _ ≤ X; rw [HXE.out]; exact Nat.le_refl _) (.int .i64 M)).drew)
  have hx2 : RB (u0.setCell ⟨X, 3, none⟩ (.int .i64 M)).drew X #[.string N, .int .i64 k, .bool kp, .int .i64 M, .string B, .slice a n c] 24 := hx1.next ((Below.refl _ _).drew)
  have hy2 : RB (u0.setCell ⟨X, 3, none⟩ (.int .i64 M)).drew (X + 1) #[.string ⟨#[]⟩, .int .i64 0, .bool false, .int .i64 0, .string ⟨#[]⟩, .slice none 0 0] 24 := hy1.next ((Below.refl _ _).drew)
  clear hx0 hx1 hy1 hx hy
  generalize (u0.setCell ⟨X, 3, none⟩ (.int .i64 M)).drew = u at hx2 hy2 HB7 ⊢
  have hx := hx2
  have hy := hy2
  clear hx2 hy2
  have HB5 := HB7
  have x0 : u.cell? ⟨X, 0, none⟩ = some (.string N) := hx.cell
  have x1 : u.cell? ⟨X, 1, none⟩ = some (.int .i64 k) := hx.cell
  have x2 : u.cell? ⟨X, 2, none⟩ = some (.bool kp) := hx.cell
  have x3 : u.cell? ⟨X, 3, none⟩ = some (.int .i64 M) := hx.cell
  have x4 : u.cell? ⟨X, 4, none⟩ = some (.string B) := hx.cell
  have x5 : u.cell? ⟨X, 5, none⟩ = some (.slice a n c) := hx.cell
  have HXl : Hid (X + 1 < u.heap.size) := Lib.hid (lt_of_block hy)
  have HXu := Lib.hid hx
  have HYu := Lib.hid hy
  clear hx hy
  first | (go_region_law ((first
    | (go_simp; go_at_call 42; refine (HBy.out _).mono ?_; rintro e u1 ⟨rfl, hb1⟩; have hb1' := ((Below.refl u.heap.size u).drew).trans hb1; have w0 : u1.cell? ⟨X, 0, none⟩ = some (.string N) := (HXu.out.next hb1').cell; have w1 : u1.cell? ⟨X, 1, none⟩ = some (.int .i64 k) := (HXu.out.next hb1').cell; have w2 : u1.cell? ⟨X, 2, none⟩ = some (.bool kp) := (HXu.out.next hb1').cell; have w3 : u1.cell? ⟨X, 3, none⟩ = some (.int .i64 M) := (HXu.out.next hb1').cell; have w4 : u1.cell? ⟨X, 4, none⟩ = some (.string B) := (HXu.out.next hb1').cell; have w5 : u1.cell? ⟨X, 5, none⟩ = some (.slice a n c) := (HXu.out.next hb1').cell)
    | (go_simp; go_at_call 41; refine (HP.out _ (after HB5.out hb1')).mono ?_; rintro e v' ⟨a', c', rfl, hrow, hb2⟩; have hy : RB v' (X + 1) #[.string ⟨#[]⟩, .int .i64 0, .bool false, .int .i64 0, .string ⟨#[]⟩, .slice none 0 0] 24 := (HYu.out.next hb1').next hb2; have y0 : v'.cell? ⟨X + 1, 0, none⟩ = some (.string ⟨#[]⟩) := hy.cell; have z0 : v'.frozen? ⟨X + 1, 0, none⟩ = false := hy.frozen; have y1 : v'.cell? ⟨X + 1, 1, none⟩ = some (.int .i64 0) := hy.cell; have z1 : v'.frozen? ⟨X + 1, 1, none⟩ = false := hy.frozen; have y2 : v'.cell? ⟨X + 1, 2, none⟩ = some (.bool false) := hy.cell; have z2 : v'.frozen? ⟨X + 1, 2, none⟩ = false := hy.frozen; have y3 : v'.cell? ⟨X + 1, 3, none⟩ = some (.int .i64 0) := hy.cell; have z3 : v'.frozen? ⟨X + 1, 3, none⟩ = false := hy.frozen; have y4 : v'.cell? ⟨X + 1, 4, none⟩ = some (.string ⟨#[]⟩) := hy.cell; have z4 : v'.frozen? ⟨X + 1, 4, none⟩ = false := hy.frozen; have y5 : v'.cell? ⟨X + 1, 5, none⟩ = some (.slice none 0 0) := hy.cell; have z5 : v'.frozen? ⟨X + 1, 5, none⟩ = false := hy.frozen)))) | fail
  all_goals
    have HB6 := Lib.hid (after (after HB5.out hb1') hb2)
    have HQ := Lib.hid (gset_heap hy (.string ⟨t.name.toArray⟩) (.int .i64 t.kind) (.bool t.keep) (.int .i64 t.align) (.string ⟨t.data.toArray⟩) (.slice a' m c'))
    have HB8 := Lib.hid (gset_below HB6.out (Y := X + 1) (by rw [← HXE.out]; omega) (.string ⟨t.name.toArray⟩) (.int .i64 t.kind) (.bool t.keep) (.int .i64 t.align) (.string ⟨t.data.toArray⟩) (.slice a' m c'))
    have HR8 := Lib.hid ((gset_row hrow (Y := X + 1) (Nat.lt_of_lt_of_le HXl.out hb1'.size) (.string ⟨t.name.toArray⟩) (.int .i64 t.kind) (.bool t.keep) (.int .i64 t.align) (.string ⟨t.data.toArray⟩) (.slice a' m c')).mono (after HB5.out hb1').size)
    clear hy hrow hb1 hb1' hb2
    go_wp2
    refine bodyPost_ret (results_cell_two (P := Tryz.prog) rfl _ _ (X + 1) 24 _ (0, 0) _ (.int .i64 er) rfl HQ.out Tryz.underlying24 rfl (by kernel_rfl) rfl) rfl ?_
    exact SecR.full HR.out HM.out rfl HR8.out HB8.out
set_option maxRecDepth 100000 in
set_option maxHeartbeats 4000000 in
theorem pAlign_5 (N B : ByteArray) (k : Int) (kp : Bool) (al : Int) (a : Option Addr) (n c : Nat) (l : List Rl) (w : World) (hs : SL rlC 4 w w.heap.size a n l) (hz : a = none → n = 0 ∧ c = 0) (hN : N.size ≤ maxLen) (hBm : B.size ≤ maxLen) (hg : ∀ r ∈ l, GoodRl r) (hT : TabP w) (hsec : secR ⟨N.data.toList, k, kp, al, B.data.toList, l⟩ = true) : Calls Tryz.prog 19 #[.agg #[.string N, .int .i64 k, .bool kp, .int .i64 al, .string B, .slice a n c], .int .i64 5] w (SecR (pAlignL ⟨N.data.toList, k, kp, al, B.data.toList, l⟩ 5) w) := by
  have hBs : B.data.toList.length = B.size := by simp
  obtain ⟨-, -, -, -, -, g6, g7⟩ := head_iff.1 (sec_iff.1 hsec).1
  simp only at g6 g7
  have hln := hs.len
  obtain ⟨L, hL⟩ : ∃ L, L = lackN B.size 5 := ⟨_, rfl⟩
  have hLb : L < 32 := by rw [hL]; exact Nat.mod_lt _ (by decide)
  obtain ⟨M, hM⟩ : ∃ M, max al 5 = M := ⟨_, rfl⟩
  obtain ⟨t, er, ht⟩ : ∃ t er, placedL ⟨N.data.toList, k, kp, M, B.data.toList, l⟩ (nulB L) [] = (t, er) := ⟨_, _, rfl⟩
  have HR : Hid (pAlignL ⟨N.data.toList, k, kp, al, B.data.toList, l⟩ 5 = (t, er)) := Lib.hid (by unfold pAlignL; rw [if_pos hsec, if_neg (by decide)]; simp only [hBs, hM]; rw [hL] at ht; exact ht)
  have b1 : bits BinOp.and IntKind.i64 (-(B.size : Int)) 31 = (L : Int) := by rw [hL]; exact and_lack B.size 5 (by omega) (by decide)
  have b2 : IntKind.i64.wrap (-(B.size : Int)) = -(B.size : Int) := by rw [IntKind.wrap_i64]; omega
  have b3 : IntKind.i64.wrap 32 = 32 := rfl
  have b4 : IntKind.i64.wrap (32 - 1) = 31 := rfl
  obtain ⟨m, hm⟩ : ∃ m, m = t.rels.length := ⟨_, rfl⟩
  obtain ⟨D, hDD⟩ : ∃ D : ByteArray, D = ⟨(nulB L).toArray⟩ := ⟨_, rfl⟩
  have hDs : D.size = L := by rw [hDD]; show (nulB L).toArray.size = L; simp [nulB]
  have hDl : D.data.toList = nulB L := by rw [hDD]
  have HBy : Hid (∀ u, Calls Tryz.prog 42 #[.string ⟨#[0]⟩, .int .i64 (L : Int)] u (RetB (.string D) u)) := Lib.hid (fun u => by rw [hDD]; exact Rep_nul L (by omega) u)
  have HP : Hid (∀ u, Below w.heap.size w u → Calls Tryz.prog 41 #[.agg #[.string N, .int .i64 k, .bool kp, .int .i64 M, .string B, .slice a n c], .string D, .slice none 0 0] u (fun e v' => ∃ a' c', e = .returned (.tuple #[.agg #[.string ⟨t.name.toArray⟩, .int .i64 t.kind, .bool t.keep, .int .i64 t.align, .string ⟨t.data.toArray⟩, .slice a' m c'], .int .i64 er]) ∧ Row0 v' u.heap.size (.slice a' m c') m t.rels ∧ Below u.heap.size u v')) := Lib.hid (fun u hu => by
    have := placed_any N B D k kp M a none n c 0 0 l [] u (hs.next hu) hz (SL.nil _ _ _) (fun _ => ⟨rfl, rfl⟩) (by omega) (by omega) (by omega) (by omega)
    rw [hDl, ht] at this
    subst hm
    exact this)
  have HM := Lib.hid hm
  have HMx := Lib.hid hM
  have hZ := zeroSec
  have HI : Hid (∀ u, Below w.heap.size w u → Calls Tryz.prog 16 #[.agg #[.string N, .int .i64 k, .bool kp, .int .i64 al, .string B, .slice a n c]] u (RetB (.bool (secR ⟨N.data.toList, k, kp, al, B.data.toList, l⟩)) u)) := Lib.hid (fun u hu => pIs_core N B k kp al a n c l hN hBm u (hs.next hu) hg (hT.next hu))
  rw [hsec] at HI
  have HW := Lib.hid (two_rb (w := w) (A := #[.string N, .int .i64 k, .bool kp, .int .i64 al, .string B, .slice a n c]) (B := #[.string ⟨#[]⟩, .int .i64 0, .bool false, .int .i64 0, .string ⟨#[]⟩, .slice none 0 0]) (T := 24) (U := 24))
  obtain ⟨X, hX⟩ : ∃ X, X = w.heap.size := ⟨_, rfl⟩
  rw [← hX] at HW
  have HXE := Lib.hid hX
  clear g6 g7 hBs hln ht hm hDD hDs hDl hL hLb hM
  clear hs hz hN hBm hg hT hsec
  go_enter Tryz.func19, Tryz.ntmps19
  go_wp2_with fail
  rw [← hX]
  clear hX
  change Calls _ _ _ ((w.alloc (.cells #[.string N, .int .i64 k, .bool kp, .int .i64 al, .string B, .slice a n c] 24)).alloc (.cells #[.string ⟨#[]⟩, .int .i64 0, .bool false, .int .i64 0, .string ⟨#[]⟩, .slice none 0 0] 24)) _
  generalize (w.alloc (.cells #[.string N, .int .i64 k, .bool kp, .int .i64 al, .string B, .slice a n c] 24)).alloc (.cells #[.string ⟨#[]⟩, .int .i64 0, .bool false, .int .i64 0, .string ⟨#[]⟩, .slice none 0 0] 24) = W at HW ⊢
  have HB4 : Hid (Below w.heap.size w W) := Lib.hid (by have := HW.out.2.2; rw [HXE.out] at this; exact this)
  refine (HI.out _ HB4.out).mono ?_
  rintro e u0 ⟨rfl, hb⟩
  have hx : RB u0 X #[.string N, .int .i64 k, .bool kp, .int .i64 al, .string B, .slice a n c] 24 := HW.out.1.next hb
  have hy : RB u0 (X + 1) #[.string ⟨#[]⟩, .int .i64 0, .bool false, .int .i64 0, .string ⟨#[]⟩, .slice none 0 0] 24 := HW.out.2.1.next hb
  have HB5 := Lib.hid (after HB4.out hb)
  clear hb
  have x0 : u0.cell? ⟨X, 0, none⟩ = some (.string N) := hx.cell
  have x1 : u0.cell? ⟨X, 1, none⟩ = some (.int .i64 k) := hx.cell
  have x2 : u0.cell? ⟨X, 2, none⟩ = some (.bool kp) := hx.cell
  have x3 : u0.cell? ⟨X, 3, none⟩ = some (.int .i64 al) := hx.cell
  have x4 : u0.cell? ⟨X, 4, none⟩ = some (.string B) := hx.cell
  have x5 : u0.cell? ⟨X, 5, none⟩ = some (.slice a n c) := hx.cell
  go_wp2_with fail
  first | (go_region_law (fail)) | skip
  have hx0 : RB u0.drew X #[.string N, .int .i64 k, .bool kp, .int .i64 al, .string B, .slice a n c] 24 := hx.next ((Below.refl u0.heap.size u0).drew)
  clear x0 x1 x2 x3 x4 x5
  have x0 : u0.drew.cell? ⟨X, 0, none⟩ = some (.string N) := hx0.cell
  have z0 : u0.drew.frozen? ⟨X, 0, none⟩ = false := hx0.frozen
  have x1 : u0.drew.cell? ⟨X, 1, none⟩ = some (.int .i64 k) := hx0.cell
  have z1 : u0.drew.frozen? ⟨X, 1, none⟩ = false := hx0.frozen
  have x2 : u0.drew.cell? ⟨X, 2, none⟩ = some (.bool kp) := hx0.cell
  have z2 : u0.drew.frozen? ⟨X, 2, none⟩ = false := hx0.frozen
  have x3 : u0.drew.cell? ⟨X, 3, none⟩ = some (.int .i64 al) := hx0.cell
  have z3 : u0.drew.frozen? ⟨X, 3, none⟩ = false := hx0.frozen
  have x4 : u0.drew.cell? ⟨X, 4, none⟩ = some (.string B) := hx0.cell
  have z4 : u0.drew.frozen? ⟨X, 4, none⟩ = false := hx0.frozen
  have x5 : u0.drew.cell? ⟨X, 5, none⟩ = some (.slice a n c) := hx0.cell
  have z5 : u0.drew.frozen? ⟨X, 5, none⟩ = false := hx0.frozen
  have hM := HMx.out
  go_wp2_with fail
  simp only [b1]
  clear x0 x1 x2 x3 x4 x5 z0 z1 z2 z3 z4 z5 hM
  have hx1 : RB (u0.setCell ⟨X, 3, none⟩ (.int .i64 M)) X #[.string N, .int .i64 k, .bool kp, .int .i64 M, .string B, .slice a n c] 24 := RB.set (j := 3) hx (.int .i64 M)
  have hy1 : RB (u0.setCell ⟨X, 3, none⟩ (.int .i64 M)) (X + 1) #[.string ⟨#[]⟩, .int .i64 0, .bool false, .int .i64 0, .string ⟨#[]⟩, .slice none 0 0] 24 := (Below.heap_setCell _ _ _ _ (by simp)).trans hy
  have HB7 := Lib.hid ((HB5.out.setCell (p := ⟨X, 3, none⟩) (by show _ ≤ X; rw [HXE.out]; exact Nat.le_refl _) (.int .i64 M)).drew)
  have hx2 : RB (u0.setCell ⟨X, 3, none⟩ (.int .i64 M)).drew X #[.string N, .int .i64 k, .bool kp, .int .i64 M, .string B, .slice a n c] 24 := hx1.next ((Below.refl _ _).drew)
  have hy2 : RB (u0.setCell ⟨X, 3, none⟩ (.int .i64 M)).drew (X + 1) #[.string ⟨#[]⟩, .int .i64 0, .bool false, .int .i64 0, .string ⟨#[]⟩, .slice none 0 0] 24 := hy1.next ((Below.refl _ _).drew)
  clear hx0 hx1 hy1 hx hy
  generalize (u0.setCell ⟨X, 3, none⟩ (.int .i64 M)).drew = u at hx2 hy2 HB7 ⊢
  have hx := hx2
  have hy := hy2
  clear hx2 hy2
  have HB5 := HB7
  have x0 : u.cell? ⟨X, 0, none⟩ = some (.string N) := hx.cell
  have x1 : u.cell? ⟨X, 1, none⟩ = some (.int .i64 k) := hx.cell
  have x2 : u.cell? ⟨X, 2, none⟩ = some (.bool kp) := hx.cell
  have x3 : u.cell? ⟨X, 3, none⟩ = some (.int .i64 M) := hx.cell
  have x4 : u.cell? ⟨X, 4, none⟩ = some (.string B) := hx.cell
  have x5 : u.cell? ⟨X, 5, none⟩ = some (.slice a n c) := hx.cell
  have HXl : Hid (X + 1 < u.heap.size) := Lib.hid (lt_of_block hy)
  have HXu := Lib.hid hx
  have HYu := Lib.hid hy
  clear hx hy
  first | (go_region_law ((first
    | (go_simp; go_at_call 42; refine (HBy.out _).mono ?_; rintro e u1 ⟨rfl, hb1⟩; have hb1' := ((Below.refl u.heap.size u).drew).trans hb1; have w0 : u1.cell? ⟨X, 0, none⟩ = some (.string N) := (HXu.out.next hb1').cell; have w1 : u1.cell? ⟨X, 1, none⟩ = some (.int .i64 k) := (HXu.out.next hb1').cell; have w2 : u1.cell? ⟨X, 2, none⟩ = some (.bool kp) := (HXu.out.next hb1').cell; have w3 : u1.cell? ⟨X, 3, none⟩ = some (.int .i64 M) := (HXu.out.next hb1').cell; have w4 : u1.cell? ⟨X, 4, none⟩ = some (.string B) := (HXu.out.next hb1').cell; have w5 : u1.cell? ⟨X, 5, none⟩ = some (.slice a n c) := (HXu.out.next hb1').cell)
    | (go_simp; go_at_call 41; refine (HP.out _ (after HB5.out hb1')).mono ?_; rintro e v' ⟨a', c', rfl, hrow, hb2⟩; have hy : RB v' (X + 1) #[.string ⟨#[]⟩, .int .i64 0, .bool false, .int .i64 0, .string ⟨#[]⟩, .slice none 0 0] 24 := (HYu.out.next hb1').next hb2; have y0 : v'.cell? ⟨X + 1, 0, none⟩ = some (.string ⟨#[]⟩) := hy.cell; have z0 : v'.frozen? ⟨X + 1, 0, none⟩ = false := hy.frozen; have y1 : v'.cell? ⟨X + 1, 1, none⟩ = some (.int .i64 0) := hy.cell; have z1 : v'.frozen? ⟨X + 1, 1, none⟩ = false := hy.frozen; have y2 : v'.cell? ⟨X + 1, 2, none⟩ = some (.bool false) := hy.cell; have z2 : v'.frozen? ⟨X + 1, 2, none⟩ = false := hy.frozen; have y3 : v'.cell? ⟨X + 1, 3, none⟩ = some (.int .i64 0) := hy.cell; have z3 : v'.frozen? ⟨X + 1, 3, none⟩ = false := hy.frozen; have y4 : v'.cell? ⟨X + 1, 4, none⟩ = some (.string ⟨#[]⟩) := hy.cell; have z4 : v'.frozen? ⟨X + 1, 4, none⟩ = false := hy.frozen; have y5 : v'.cell? ⟨X + 1, 5, none⟩ = some (.slice none 0 0) := hy.cell; have z5 : v'.frozen? ⟨X + 1, 5, none⟩ = false := hy.frozen)))) | fail
  all_goals
    have HB6 := Lib.hid (after (after HB5.out hb1') hb2)
    have HQ := Lib.hid (gset_heap hy (.string ⟨t.name.toArray⟩) (.int .i64 t.kind) (.bool t.keep) (.int .i64 t.align) (.string ⟨t.data.toArray⟩) (.slice a' m c'))
    have HB8 := Lib.hid (gset_below HB6.out (Y := X + 1) (by rw [← HXE.out]; omega) (.string ⟨t.name.toArray⟩) (.int .i64 t.kind) (.bool t.keep) (.int .i64 t.align) (.string ⟨t.data.toArray⟩) (.slice a' m c'))
    have HR8 := Lib.hid ((gset_row hrow (Y := X + 1) (Nat.lt_of_lt_of_le HXl.out hb1'.size) (.string ⟨t.name.toArray⟩) (.int .i64 t.kind) (.bool t.keep) (.int .i64 t.align) (.string ⟨t.data.toArray⟩) (.slice a' m c')).mono (after HB5.out hb1').size)
    clear hy hrow hb1 hb1' hb2
    go_wp2
    refine bodyPost_ret (results_cell_two (P := Tryz.prog) rfl _ _ (X + 1) 24 _ (0, 0) _ (.int .i64 er) rfl HQ.out Tryz.underlying24 rfl (by kernel_rfl) rfl) rfl ?_
    exact SecR.full HR.out HM.out rfl HR8.out HB8.out
set_option maxRecDepth 100000 in
set_option maxHeartbeats 4000000 in
theorem pAlign_6 (N B : ByteArray) (k : Int) (kp : Bool) (al : Int) (a : Option Addr) (n c : Nat) (l : List Rl) (w : World) (hs : SL rlC 4 w w.heap.size a n l) (hz : a = none → n = 0 ∧ c = 0) (hN : N.size ≤ maxLen) (hBm : B.size ≤ maxLen) (hg : ∀ r ∈ l, GoodRl r) (hT : TabP w) (hsec : secR ⟨N.data.toList, k, kp, al, B.data.toList, l⟩ = true) : Calls Tryz.prog 19 #[.agg #[.string N, .int .i64 k, .bool kp, .int .i64 al, .string B, .slice a n c], .int .i64 6] w (SecR (pAlignL ⟨N.data.toList, k, kp, al, B.data.toList, l⟩ 6) w) := by
  have hBs : B.data.toList.length = B.size := by simp
  obtain ⟨-, -, -, -, -, g6, g7⟩ := head_iff.1 (sec_iff.1 hsec).1
  simp only at g6 g7
  have hln := hs.len
  obtain ⟨L, hL⟩ : ∃ L, L = lackN B.size 6 := ⟨_, rfl⟩
  have hLb : L < 64 := by rw [hL]; exact Nat.mod_lt _ (by decide)
  obtain ⟨M, hM⟩ : ∃ M, max al 6 = M := ⟨_, rfl⟩
  obtain ⟨t, er, ht⟩ : ∃ t er, placedL ⟨N.data.toList, k, kp, M, B.data.toList, l⟩ (nulB L) [] = (t, er) := ⟨_, _, rfl⟩
  have HR : Hid (pAlignL ⟨N.data.toList, k, kp, al, B.data.toList, l⟩ 6 = (t, er)) := Lib.hid (by unfold pAlignL; rw [if_pos hsec, if_neg (by decide)]; simp only [hBs, hM]; rw [hL] at ht; exact ht)
  have b1 : bits BinOp.and IntKind.i64 (-(B.size : Int)) 63 = (L : Int) := by rw [hL]; exact and_lack B.size 6 (by omega) (by decide)
  have b2 : IntKind.i64.wrap (-(B.size : Int)) = -(B.size : Int) := by rw [IntKind.wrap_i64]; omega
  have b3 : IntKind.i64.wrap 64 = 64 := rfl
  have b4 : IntKind.i64.wrap (64 - 1) = 63 := rfl
  obtain ⟨m, hm⟩ : ∃ m, m = t.rels.length := ⟨_, rfl⟩
  obtain ⟨D, hDD⟩ : ∃ D : ByteArray, D = ⟨(nulB L).toArray⟩ := ⟨_, rfl⟩
  have hDs : D.size = L := by rw [hDD]; show (nulB L).toArray.size = L; simp [nulB]
  have hDl : D.data.toList = nulB L := by rw [hDD]
  have HBy : Hid (∀ u, Calls Tryz.prog 42 #[.string ⟨#[0]⟩, .int .i64 (L : Int)] u (RetB (.string D) u)) := Lib.hid (fun u => by rw [hDD]; exact Rep_nul L (by omega) u)
  have HP : Hid (∀ u, Below w.heap.size w u → Calls Tryz.prog 41 #[.agg #[.string N, .int .i64 k, .bool kp, .int .i64 M, .string B, .slice a n c], .string D, .slice none 0 0] u (fun e v' => ∃ a' c', e = .returned (.tuple #[.agg #[.string ⟨t.name.toArray⟩, .int .i64 t.kind, .bool t.keep, .int .i64 t.align, .string ⟨t.data.toArray⟩, .slice a' m c'], .int .i64 er]) ∧ Row0 v' u.heap.size (.slice a' m c') m t.rels ∧ Below u.heap.size u v')) := Lib.hid (fun u hu => by
    have := placed_any N B D k kp M a none n c 0 0 l [] u (hs.next hu) hz (SL.nil _ _ _) (fun _ => ⟨rfl, rfl⟩) (by omega) (by omega) (by omega) (by omega)
    rw [hDl, ht] at this
    subst hm
    exact this)
  have HM := Lib.hid hm
  have HMx := Lib.hid hM
  have hZ := zeroSec
  have HI : Hid (∀ u, Below w.heap.size w u → Calls Tryz.prog 16 #[.agg #[.string N, .int .i64 k, .bool kp, .int .i64 al, .string B, .slice a n c]] u (RetB (.bool (secR ⟨N.data.toList, k, kp, al, B.data.toList, l⟩)) u)) := Lib.hid (fun u hu => pIs_core N B k kp al a n c l hN hBm u (hs.next hu) hg (hT.next hu))
  rw [hsec] at HI
  have HW := Lib.hid (two_rb (w := w) (A := #[.string N, .int .i64 k, .bool kp, .int .i64 al, .string B, .slice a n c]) (B := #[.string ⟨#[]⟩, .int .i64 0, .bool false, .int .i64 0, .string ⟨#[]⟩, .slice none 0 0]) (T := 24) (U := 24))
  obtain ⟨X, hX⟩ : ∃ X, X = w.heap.size := ⟨_, rfl⟩
  rw [← hX] at HW
  have HXE := Lib.hid hX
  clear g6 g7 hBs hln ht hm hDD hDs hDl hL hLb hM
  clear hs hz hN hBm hg hT hsec
  go_enter Tryz.func19, Tryz.ntmps19
  go_wp2_with fail
  rw [← hX]
  clear hX
  change Calls _ _ _ ((w.alloc (.cells #[.string N, .int .i64 k, .bool kp, .int .i64 al, .string B, .slice a n c] 24)).alloc (.cells #[.string ⟨#[]⟩, .int .i64 0, .bool false, .int .i64 0, .string ⟨#[]⟩, .slice none 0 0] 24)) _
  generalize (w.alloc (.cells #[.string N, .int .i64 k, .bool kp, .int .i64 al, .string B, .slice a n c] 24)).alloc (.cells #[.string ⟨#[]⟩, .int .i64 0, .bool false, .int .i64 0, .string ⟨#[]⟩, .slice none 0 0] 24) = W at HW ⊢
  have HB4 : Hid (Below w.heap.size w W) := Lib.hid (by have := HW.out.2.2; rw [HXE.out] at this; exact this)
  refine (HI.out _ HB4.out).mono ?_
  rintro e u0 ⟨rfl, hb⟩
  have hx : RB u0 X #[.string N, .int .i64 k, .bool kp, .int .i64 al, .string B, .slice a n c] 24 := HW.out.1.next hb
  have hy : RB u0 (X + 1) #[.string ⟨#[]⟩, .int .i64 0, .bool false, .int .i64 0, .string ⟨#[]⟩, .slice none 0 0] 24 := HW.out.2.1.next hb
  have HB5 := Lib.hid (after HB4.out hb)
  clear hb
  have x0 : u0.cell? ⟨X, 0, none⟩ = some (.string N) := hx.cell
  have x1 : u0.cell? ⟨X, 1, none⟩ = some (.int .i64 k) := hx.cell
  have x2 : u0.cell? ⟨X, 2, none⟩ = some (.bool kp) := hx.cell
  have x3 : u0.cell? ⟨X, 3, none⟩ = some (.int .i64 al) := hx.cell
  have x4 : u0.cell? ⟨X, 4, none⟩ = some (.string B) := hx.cell
  have x5 : u0.cell? ⟨X, 5, none⟩ = some (.slice a n c) := hx.cell
  go_wp2_with fail
  first | (go_region_law (fail)) | skip
  have hx0 : RB u0.drew X #[.string N, .int .i64 k, .bool kp, .int .i64 al, .string B, .slice a n c] 24 := hx.next ((Below.refl u0.heap.size u0).drew)
  clear x0 x1 x2 x3 x4 x5
  have x0 : u0.drew.cell? ⟨X, 0, none⟩ = some (.string N) := hx0.cell
  have z0 : u0.drew.frozen? ⟨X, 0, none⟩ = false := hx0.frozen
  have x1 : u0.drew.cell? ⟨X, 1, none⟩ = some (.int .i64 k) := hx0.cell
  have z1 : u0.drew.frozen? ⟨X, 1, none⟩ = false := hx0.frozen
  have x2 : u0.drew.cell? ⟨X, 2, none⟩ = some (.bool kp) := hx0.cell
  have z2 : u0.drew.frozen? ⟨X, 2, none⟩ = false := hx0.frozen
  have x3 : u0.drew.cell? ⟨X, 3, none⟩ = some (.int .i64 al) := hx0.cell
  have z3 : u0.drew.frozen? ⟨X, 3, none⟩ = false := hx0.frozen
  have x4 : u0.drew.cell? ⟨X, 4, none⟩ = some (.string B) := hx0.cell
  have z4 : u0.drew.frozen? ⟨X, 4, none⟩ = false := hx0.frozen
  have x5 : u0.drew.cell? ⟨X, 5, none⟩ = some (.slice a n c) := hx0.cell
  have z5 : u0.drew.frozen? ⟨X, 5, none⟩ = false := hx0.frozen
  have hM := HMx.out
  go_wp2_with fail
  simp only [b1]
  clear x0 x1 x2 x3 x4 x5 z0 z1 z2 z3 z4 z5 hM
  have hx1 : RB (u0.setCell ⟨X, 3, none⟩ (.int .i64 M)) X #[.string N, .int .i64 k, .bool kp, .int .i64 M, .string B, .slice a n c] 24 := RB.set (j := 3) hx (.int .i64 M)
  have hy1 : RB (u0.setCell ⟨X, 3, none⟩ (.int .i64 M)) (X + 1) #[.string ⟨#[]⟩, .int .i64 0, .bool false, .int .i64 0, .string ⟨#[]⟩, .slice none 0 0] 24 := (Below.heap_setCell _ _ _ _ (by simp)).trans hy
  have HB7 := Lib.hid ((HB5.out.setCell (p := ⟨X, 3, none⟩) (by show _ ≤ X; rw [HXE.out]; exact Nat.le_refl _) (.int .i64 M)).drew)
  have hx2 : RB (u0.setCell ⟨X, 3, none⟩ (.int .i64 M)).drew X #[.string N, .int .i64 k, .bool kp, .int .i64 M, .string B, .slice a n c] 24 := hx1.next ((Below.refl _ _).drew)
  have hy2 : RB (u0.setCell ⟨X, 3, none⟩ (.int .i64 M)).drew (X + 1) #[.string ⟨#[]⟩, .int .i64 0, .bool false, .int .i64 0, .string ⟨#[]⟩, .slice none 0 0] 24 := hy1.next ((Below.refl _ _).drew)
  clear hx0 hx1 hy1 hx hy
  generalize (u0.setCell ⟨X, 3, none⟩ (.int .i64 M)).drew = u at hx2 hy2 HB7 ⊢
  have hx := hx2
  have hy := hy2
  clear hx2 hy2
  have HB5 := HB7
  have x0 : u.cell? ⟨X, 0, none⟩ = some (.string N) := hx.cell
  have x1 : u.cell? ⟨X, 1, none⟩ = some (.int .i64 k) := hx.cell
  have x2 : u.cell? ⟨X, 2, none⟩ = some (.bool kp) := hx.cell
  have x3 : u.cell? ⟨X, 3, none⟩ = some (.int .i64 M) := hx.cell
  have x4 : u.cell? ⟨X, 4, none⟩ = some (.string B) := hx.cell
  have x5 : u.cell? ⟨X, 5, none⟩ = some (.slice a n c) := hx.cell
  have HXl : Hid (X + 1 < u.heap.size) := Lib.hid (lt_of_block hy)
  have HXu := Lib.hid hx
  have HYu := Lib.hid hy
  clear hx hy
  first | (go_region_law ((first
    | (go_simp; go_at_call 42; refine (HBy.out _).mono ?_; rintro e u1 ⟨rfl, hb1⟩; have hb1' := ((Below.refl u.heap.size u).drew).trans hb1; have w0 : u1.cell? ⟨X, 0, none⟩ = some (.string N) := (HXu.out.next hb1').cell; have w1 : u1.cell? ⟨X, 1, none⟩ = some (.int .i64 k) := (HXu.out.next hb1').cell; have w2 : u1.cell? ⟨X, 2, none⟩ = some (.bool kp) := (HXu.out.next hb1').cell; have w3 : u1.cell? ⟨X, 3, none⟩ = some (.int .i64 M) := (HXu.out.next hb1').cell; have w4 : u1.cell? ⟨X, 4, none⟩ = some (.string B) := (HXu.out.next hb1').cell; have w5 : u1.cell? ⟨X, 5, none⟩ = some (.slice a n c) := (HXu.out.next hb1').cell)
    | (go_simp; go_at_call 41; refine (HP.out _ (after HB5.out hb1')).mono ?_; rintro e v' ⟨a', c', rfl, hrow, hb2⟩; have hy : RB v' (X + 1) #[.string ⟨#[]⟩, .int .i64 0, .bool false, .int .i64 0, .string ⟨#[]⟩, .slice none 0 0] 24 := (HYu.out.next hb1').next hb2; have y0 : v'.cell? ⟨X + 1, 0, none⟩ = some (.string ⟨#[]⟩) := hy.cell; have z0 : v'.frozen? ⟨X + 1, 0, none⟩ = false := hy.frozen; have y1 : v'.cell? ⟨X + 1, 1, none⟩ = some (.int .i64 0) := hy.cell; have z1 : v'.frozen? ⟨X + 1, 1, none⟩ = false := hy.frozen; have y2 : v'.cell? ⟨X + 1, 2, none⟩ = some (.bool false) := hy.cell; have z2 : v'.frozen? ⟨X + 1, 2, none⟩ = false := hy.frozen; have y3 : v'.cell? ⟨X + 1, 3, none⟩ = some (.int .i64 0) := hy.cell; have z3 : v'.frozen? ⟨X + 1, 3, none⟩ = false := hy.frozen; have y4 : v'.cell? ⟨X + 1, 4, none⟩ = some (.string ⟨#[]⟩) := hy.cell; have z4 : v'.frozen? ⟨X + 1, 4, none⟩ = false := hy.frozen; have y5 : v'.cell? ⟨X + 1, 5, none⟩ = some (.slice none 0 0) := hy.cell; have z5 : v'.frozen? ⟨X + 1, 5, none⟩ = false := hy.frozen)))) | fail
  all_goals
    have HB6 := Lib.hid (after (after HB5.out hb1') hb2)
    have HQ := Lib.hid (gset_heap hy (.string ⟨t.name.toArray⟩) (.int .i64 t.kind) (.bool t.keep) (.int .i64 t.align) (.string ⟨t.data.toArray⟩) (.slice a' m c'))
    have HB8 := Lib.hid (gset_below HB6.out (Y := X + 1) (by rw [← HXE.out]; omega) (.string ⟨t.name.toArray⟩) (.int .i64 t.kind) (.bool t.keep) (.int .i64 t.align) (.string ⟨t.data.toArray⟩) (.slice a' m c'))
    have HR8 := Lib.hid ((gset_row hrow (Y := X + 1) (Nat.lt_of_lt_of_le HXl.out hb1'.size) (.string ⟨t.name.toArray⟩) (.int .i64 t.kind) (.bool t.keep) (.int .i64 t.align) (.string ⟨t.data.toArray⟩) (.slice a' m c')).mono (after HB5.out hb1').size)
    clear hy hrow hb1 hb1' hb2
    go_wp2
    refine bodyPost_ret (results_cell_two (P := Tryz.prog) rfl _ _ (X + 1) 24 _ (0, 0) _ (.int .i64 er) rfl HQ.out Tryz.underlying24 rfl (by kernel_rfl) rfl) rfl ?_
    exact SecR.full HR.out HM.out rfl HR8.out HB8.out
set_option maxRecDepth 100000 in
set_option maxHeartbeats 4000000 in
theorem pAlign_7 (N B : ByteArray) (k : Int) (kp : Bool) (al : Int) (a : Option Addr) (n c : Nat) (l : List Rl) (w : World) (hs : SL rlC 4 w w.heap.size a n l) (hz : a = none → n = 0 ∧ c = 0) (hN : N.size ≤ maxLen) (hBm : B.size ≤ maxLen) (hg : ∀ r ∈ l, GoodRl r) (hT : TabP w) (hsec : secR ⟨N.data.toList, k, kp, al, B.data.toList, l⟩ = true) : Calls Tryz.prog 19 #[.agg #[.string N, .int .i64 k, .bool kp, .int .i64 al, .string B, .slice a n c], .int .i64 7] w (SecR (pAlignL ⟨N.data.toList, k, kp, al, B.data.toList, l⟩ 7) w) := by
  have hBs : B.data.toList.length = B.size := by simp
  obtain ⟨-, -, -, -, -, g6, g7⟩ := head_iff.1 (sec_iff.1 hsec).1
  simp only at g6 g7
  have hln := hs.len
  obtain ⟨L, hL⟩ : ∃ L, L = lackN B.size 7 := ⟨_, rfl⟩
  have hLb : L < 128 := by rw [hL]; exact Nat.mod_lt _ (by decide)
  obtain ⟨M, hM⟩ : ∃ M, max al 7 = M := ⟨_, rfl⟩
  obtain ⟨t, er, ht⟩ : ∃ t er, placedL ⟨N.data.toList, k, kp, M, B.data.toList, l⟩ (nulB L) [] = (t, er) := ⟨_, _, rfl⟩
  have HR : Hid (pAlignL ⟨N.data.toList, k, kp, al, B.data.toList, l⟩ 7 = (t, er)) := Lib.hid (by unfold pAlignL; rw [if_pos hsec, if_neg (by decide)]; simp only [hBs, hM]; rw [hL] at ht; exact ht)
  have b1 : bits BinOp.and IntKind.i64 (-(B.size : Int)) 127 = (L : Int) := by rw [hL]; exact and_lack B.size 7 (by omega) (by decide)
  have b2 : IntKind.i64.wrap (-(B.size : Int)) = -(B.size : Int) := by rw [IntKind.wrap_i64]; omega
  have b3 : IntKind.i64.wrap 128 = 128 := rfl
  have b4 : IntKind.i64.wrap (128 - 1) = 127 := rfl
  obtain ⟨m, hm⟩ : ∃ m, m = t.rels.length := ⟨_, rfl⟩
  obtain ⟨D, hDD⟩ : ∃ D : ByteArray, D = ⟨(nulB L).toArray⟩ := ⟨_, rfl⟩
  have hDs : D.size = L := by rw [hDD]; show (nulB L).toArray.size = L; simp [nulB]
  have hDl : D.data.toList = nulB L := by rw [hDD]
  have HBy : Hid (∀ u, Calls Tryz.prog 42 #[.string ⟨#[0]⟩, .int .i64 (L : Int)] u (RetB (.string D) u)) := Lib.hid (fun u => by rw [hDD]; exact Rep_nul L (by omega) u)
  have HP : Hid (∀ u, Below w.heap.size w u → Calls Tryz.prog 41 #[.agg #[.string N, .int .i64 k, .bool kp, .int .i64 M, .string B, .slice a n c], .string D, .slice none 0 0] u (fun e v' => ∃ a' c', e = .returned (.tuple #[.agg #[.string ⟨t.name.toArray⟩, .int .i64 t.kind, .bool t.keep, .int .i64 t.align, .string ⟨t.data.toArray⟩, .slice a' m c'], .int .i64 er]) ∧ Row0 v' u.heap.size (.slice a' m c') m t.rels ∧ Below u.heap.size u v')) := Lib.hid (fun u hu => by
    have := placed_any N B D k kp M a none n c 0 0 l [] u (hs.next hu) hz (SL.nil _ _ _) (fun _ => ⟨rfl, rfl⟩) (by omega) (by omega) (by omega) (by omega)
    rw [hDl, ht] at this
    subst hm
    exact this)
  have HM := Lib.hid hm
  have HMx := Lib.hid hM
  have hZ := zeroSec
  have HI : Hid (∀ u, Below w.heap.size w u → Calls Tryz.prog 16 #[.agg #[.string N, .int .i64 k, .bool kp, .int .i64 al, .string B, .slice a n c]] u (RetB (.bool (secR ⟨N.data.toList, k, kp, al, B.data.toList, l⟩)) u)) := Lib.hid (fun u hu => pIs_core N B k kp al a n c l hN hBm u (hs.next hu) hg (hT.next hu))
  rw [hsec] at HI
  have HW := Lib.hid (two_rb (w := w) (A := #[.string N, .int .i64 k, .bool kp, .int .i64 al, .string B, .slice a n c]) (B := #[.string ⟨#[]⟩, .int .i64 0, .bool false, .int .i64 0, .string ⟨#[]⟩, .slice none 0 0]) (T := 24) (U := 24))
  obtain ⟨X, hX⟩ : ∃ X, X = w.heap.size := ⟨_, rfl⟩
  rw [← hX] at HW
  have HXE := Lib.hid hX
  clear g6 g7 hBs hln ht hm hDD hDs hDl hL hLb hM
  clear hs hz hN hBm hg hT hsec
  go_enter Tryz.func19, Tryz.ntmps19
  go_wp2_with fail
  rw [← hX]
  clear hX
  change Calls _ _ _ ((w.alloc (.cells #[.string N, .int .i64 k, .bool kp, .int .i64 al, .string B, .slice a n c] 24)).alloc (.cells #[.string ⟨#[]⟩, .int .i64 0, .bool false, .int .i64 0, .string ⟨#[]⟩, .slice none 0 0] 24)) _
  generalize (w.alloc (.cells #[.string N, .int .i64 k, .bool kp, .int .i64 al, .string B, .slice a n c] 24)).alloc (.cells #[.string ⟨#[]⟩, .int .i64 0, .bool false, .int .i64 0, .string ⟨#[]⟩, .slice none 0 0] 24) = W at HW ⊢
  have HB4 : Hid (Below w.heap.size w W) := Lib.hid (by have := HW.out.2.2; rw [HXE.out] at this; exact this)
  refine (HI.out _ HB4.out).mono ?_
  rintro e u0 ⟨rfl, hb⟩
  have hx : RB u0 X #[.string N, .int .i64 k, .bool kp, .int .i64 al, .string B, .slice a n c] 24 := HW.out.1.next hb
  have hy : RB u0 (X + 1) #[.string ⟨#[]⟩, .int .i64 0, .bool false, .int .i64 0, .string ⟨#[]⟩, .slice none 0 0] 24 := HW.out.2.1.next hb
  have HB5 := Lib.hid (after HB4.out hb)
  clear hb
  have x0 : u0.cell? ⟨X, 0, none⟩ = some (.string N) := hx.cell
  have x1 : u0.cell? ⟨X, 1, none⟩ = some (.int .i64 k) := hx.cell
  have x2 : u0.cell? ⟨X, 2, none⟩ = some (.bool kp) := hx.cell
  have x3 : u0.cell? ⟨X, 3, none⟩ = some (.int .i64 al) := hx.cell
  have x4 : u0.cell? ⟨X, 4, none⟩ = some (.string B) := hx.cell
  have x5 : u0.cell? ⟨X, 5, none⟩ = some (.slice a n c) := hx.cell
  go_wp2_with fail
  first | (go_region_law (fail)) | skip
  have hx0 : RB u0.drew X #[.string N, .int .i64 k, .bool kp, .int .i64 al, .string B, .slice a n c] 24 := hx.next ((Below.refl u0.heap.size u0).drew)
  clear x0 x1 x2 x3 x4 x5
  have x0 : u0.drew.cell? ⟨X, 0, none⟩ = some (.string N) := hx0.cell
  have z0 : u0.drew.frozen? ⟨X, 0, none⟩ = false := hx0.frozen
  have x1 : u0.drew.cell? ⟨X, 1, none⟩ = some (.int .i64 k) := hx0.cell
  have z1 : u0.drew.frozen? ⟨X, 1, none⟩ = false := hx0.frozen
  have x2 : u0.drew.cell? ⟨X, 2, none⟩ = some (.bool kp) := hx0.cell
  have z2 : u0.drew.frozen? ⟨X, 2, none⟩ = false := hx0.frozen
  have x3 : u0.drew.cell? ⟨X, 3, none⟩ = some (.int .i64 al) := hx0.cell
  have z3 : u0.drew.frozen? ⟨X, 3, none⟩ = false := hx0.frozen
  have x4 : u0.drew.cell? ⟨X, 4, none⟩ = some (.string B) := hx0.cell
  have z4 : u0.drew.frozen? ⟨X, 4, none⟩ = false := hx0.frozen
  have x5 : u0.drew.cell? ⟨X, 5, none⟩ = some (.slice a n c) := hx0.cell
  have z5 : u0.drew.frozen? ⟨X, 5, none⟩ = false := hx0.frozen
  have hM := HMx.out
  go_wp2_with fail
  simp only [b1]
  clear x0 x1 x2 x3 x4 x5 z0 z1 z2 z3 z4 z5 hM
  have hx1 : RB (u0.setCell ⟨X, 3, none⟩ (.int .i64 M)) X #[.string N, .int .i64 k, .bool kp, .int .i64 M, .string B, .slice a n c] 24 := RB.set (j := 3) hx (.int .i64 M)
  have hy1 : RB (u0.setCell ⟨X, 3, none⟩ (.int .i64 M)) (X + 1) #[.string ⟨#[]⟩, .int .i64 0, .bool false, .int .i64 0, .string ⟨#[]⟩, .slice none 0 0] 24 := (Below.heap_setCell _ _ _ _ (by simp)).trans hy
  have HB7 := Lib.hid ((HB5.out.setCell (p := ⟨X, 3, none⟩) (by show _ ≤ X; rw [HXE.out]; exact Nat.le_refl _) (.int .i64 M)).drew)
  have hx2 : RB (u0.setCell ⟨X, 3, none⟩ (.int .i64 M)).drew X #[.string N, .int .i64 k, .bool kp, .int .i64 M, .string B, .slice a n c] 24 := hx1.next ((Below.refl _ _).drew)
  have hy2 : RB (u0.setCell ⟨X, 3, none⟩ (.int .i64 M)).drew (X + 1) #[.string ⟨#[]⟩, .int .i64 0, .bool false, .int .i64 0, .string ⟨#[]⟩, .slice none 0 0] 24 := hy1.next ((Below.refl _ _).drew)
  clear hx0 hx1 hy1 hx hy
  generalize (u0.setCell ⟨X, 3, none⟩ (.int .i64 M)).drew = u at hx2 hy2 HB7 ⊢
  have hx := hx2
  have hy := hy2
  clear hx2 hy2
  have HB5 := HB7
  have x0 : u.cell? ⟨X, 0, none⟩ = some (.string N) := hx.cell
  have x1 : u.cell? ⟨X, 1, none⟩ = some (.int .i64 k) := hx.cell
  have x2 : u.cell? ⟨X, 2, none⟩ = some (.bool kp) := hx.cell
  have x3 : u.cell? ⟨X, 3, none⟩ = some (.int .i64 M) := hx.cell
  have x4 : u.cell? ⟨X, 4, none⟩ = some (.string B) := hx.cell
  have x5 : u.cell? ⟨X, 5, none⟩ = some (.slice a n c) := hx.cell
  have HXl : Hid (X + 1 < u.heap.size) := Lib.hid (lt_of_block hy)
  have HXu := Lib.hid hx
  have HYu := Lib.hid hy
  clear hx hy
  first | (go_region_law ((first
    | (go_simp; go_at_call 42; refine (HBy.out _).mono ?_; rintro e u1 ⟨rfl, hb1⟩; have hb1' := ((Below.refl u.heap.size u).drew).trans hb1; have w0 : u1.cell? ⟨X, 0, none⟩ = some (.string N) := (HXu.out.next hb1').cell; have w1 : u1.cell? ⟨X, 1, none⟩ = some (.int .i64 k) := (HXu.out.next hb1').cell; have w2 : u1.cell? ⟨X, 2, none⟩ = some (.bool kp) := (HXu.out.next hb1').cell; have w3 : u1.cell? ⟨X, 3, none⟩ = some (.int .i64 M) := (HXu.out.next hb1').cell; have w4 : u1.cell? ⟨X, 4, none⟩ = some (.string B) := (HXu.out.next hb1').cell; have w5 : u1.cell? ⟨X, 5, none⟩ = some (.slice a n c) := (HXu.out.next hb1').cell)
    | (go_simp; go_at_call 41; refine (HP.out _ (after HB5.out hb1')).mono ?_; rintro e v' ⟨a', c', rfl, hrow, hb2⟩; have hy : RB v' (X + 1) #[.string ⟨#[]⟩, .int .i64 0, .bool false, .int .i64 0, .string ⟨#[]⟩, .slice none 0 0] 24 := (HYu.out.next hb1').next hb2; have y0 : v'.cell? ⟨X + 1, 0, none⟩ = some (.string ⟨#[]⟩) := hy.cell; have z0 : v'.frozen? ⟨X + 1, 0, none⟩ = false := hy.frozen; have y1 : v'.cell? ⟨X + 1, 1, none⟩ = some (.int .i64 0) := hy.cell; have z1 : v'.frozen? ⟨X + 1, 1, none⟩ = false := hy.frozen; have y2 : v'.cell? ⟨X + 1, 2, none⟩ = some (.bool false) := hy.cell; have z2 : v'.frozen? ⟨X + 1, 2, none⟩ = false := hy.frozen; have y3 : v'.cell? ⟨X + 1, 3, none⟩ = some (.int .i64 0) := hy.cell; have z3 : v'.frozen? ⟨X + 1, 3, none⟩ = false := hy.frozen; have y4 : v'.cell? ⟨X + 1, 4, none⟩ = some (.string ⟨#[]⟩) := hy.cell; have z4 : v'.frozen? ⟨X + 1, 4, none⟩ = false := hy.frozen; have y5 : v'.cell? ⟨X + 1, 5, none⟩ = some (.slice none 0 0) := hy.cell; have z5 : v'.frozen? ⟨X + 1, 5, none⟩ = false := hy.frozen)))) | fail
  all_goals
    have HB6 := Lib.hid (after (after HB5.out hb1') hb2)
    have HQ := Lib.hid (gset_heap hy (.string ⟨t.name.toArray⟩) (.int .i64 t.kind) (.bool t.keep) (.int .i64 t.align) (.string ⟨t.data.toArray⟩) (.slice a' m c'))
    have HB8 := Lib.hid (gset_below HB6.out (Y := X + 1) (by rw [← HXE.out]; omega) (.string ⟨t.name.toArray⟩) (.int .i64 t.kind) (.bool t.keep) (.int .i64 t.align) (.string ⟨t.data.toArray⟩) (.slice a' m c'))
    have HR8 := Lib.hid ((gset_row hrow (Y := X + 1) (Nat.lt_of_lt_of_le HXl.out hb1'.size) (.string ⟨t.name.toArray⟩) (.int .i64 t.kind) (.bool t.keep) (.int .i64 t.align) (.string ⟨t.data.toArray⟩) (.slice a' m c')).mono (after HB5.out hb1').size)
    clear hy hrow hb1 hb1' hb2
    go_wp2
    refine bodyPost_ret (results_cell_two (P := Tryz.prog) rfl _ _ (X + 1) 24 _ (0, 0) _ (.int .i64 er) rfl HQ.out Tryz.underlying24 rfl (by kernel_rfl) rfl) rfl ?_
    exact SecR.full HR.out HM.out rfl HR8.out HB8.out
set_option maxRecDepth 100000 in
set_option maxHeartbeats 4000000 in
theorem pAlign_8 (N B : ByteArray) (k : Int) (kp : Bool) (al : Int) (a : Option Addr) (n c : Nat) (l : List Rl) (w : World) (hs : SL rlC 4 w w.heap.size a n l) (hz : a = none → n = 0 ∧ c = 0) (hN : N.size ≤ maxLen) (hBm : B.size ≤ maxLen) (hg : ∀ r ∈ l, GoodRl r) (hT : TabP w) (hsec : secR ⟨N.data.toList, k, kp, al, B.data.toList, l⟩ = true) : Calls Tryz.prog 19 #[.agg #[.string N, .int .i64 k, .bool kp, .int .i64 al, .string B, .slice a n c], .int .i64 8] w (SecR (pAlignL ⟨N.data.toList, k, kp, al, B.data.toList, l⟩ 8) w) := by
  have hBs : B.data.toList.length = B.size := by simp
  obtain ⟨-, -, -, -, -, g6, g7⟩ := head_iff.1 (sec_iff.1 hsec).1
  simp only at g6 g7
  have hln := hs.len
  obtain ⟨L, hL⟩ : ∃ L, L = lackN B.size 8 := ⟨_, rfl⟩
  have hLb : L < 256 := by rw [hL]; exact Nat.mod_lt _ (by decide)
  obtain ⟨M, hM⟩ : ∃ M, max al 8 = M := ⟨_, rfl⟩
  obtain ⟨t, er, ht⟩ : ∃ t er, placedL ⟨N.data.toList, k, kp, M, B.data.toList, l⟩ (nulB L) [] = (t, er) := ⟨_, _, rfl⟩
  have HR : Hid (pAlignL ⟨N.data.toList, k, kp, al, B.data.toList, l⟩ 8 = (t, er)) := Lib.hid (by unfold pAlignL; rw [if_pos hsec, if_neg (by decide)]; simp only [hBs, hM]; rw [hL] at ht; exact ht)
  have b1 : bits BinOp.and IntKind.i64 (-(B.size : Int)) 255 = (L : Int) := by rw [hL]; exact and_lack B.size 8 (by omega) (by decide)
  have b2 : IntKind.i64.wrap (-(B.size : Int)) = -(B.size : Int) := by rw [IntKind.wrap_i64]; omega
  have b3 : IntKind.i64.wrap 256 = 256 := rfl
  have b4 : IntKind.i64.wrap (256 - 1) = 255 := rfl
  obtain ⟨m, hm⟩ : ∃ m, m = t.rels.length := ⟨_, rfl⟩
  obtain ⟨D, hDD⟩ : ∃ D : ByteArray, D = ⟨(nulB L).toArray⟩ := ⟨_, rfl⟩
  have hDs : D.size = L := by rw [hDD]; show (nulB L).toArray.size = L; simp [nulB]
  have hDl : D.data.toList = nulB L := by rw [hDD]
  have HBy : Hid (∀ u, Calls Tryz.prog 42 #[.string ⟨#[0]⟩, .int .i64 (L : Int)] u (RetB (.string D) u)) := Lib.hid (fun u => by rw [hDD]; exact Rep_nul L (by omega) u)
  have HP : Hid (∀ u, Below w.heap.size w u → Calls Tryz.prog 41 #[.agg #[.string N, .int .i64 k, .bool kp, .int .i64 M, .string B, .slice a n c], .string D, .slice none 0 0] u (fun e v' => ∃ a' c', e = .returned (.tuple #[.agg #[.string ⟨t.name.toArray⟩, .int .i64 t.kind, .bool t.keep, .int .i64 t.align, .string ⟨t.data.toArray⟩, .slice a' m c'], .int .i64 er]) ∧ Row0 v' u.heap.size (.slice a' m c') m t.rels ∧ Below u.heap.size u v')) := Lib.hid (fun u hu => by
    have := placed_any N B D k kp M a none n c 0 0 l [] u (hs.next hu) hz (SL.nil _ _ _) (fun _ => ⟨rfl, rfl⟩) (by omega) (by omega) (by omega) (by omega)
    rw [hDl, ht] at this
    subst hm
    exact this)
  have HM := Lib.hid hm
  have HMx := Lib.hid hM
  have hZ := zeroSec
  have HI : Hid (∀ u, Below w.heap.size w u → Calls Tryz.prog 16 #[.agg #[.string N, .int .i64 k, .bool kp, .int .i64 al, .string B, .slice a n c]] u (RetB (.bool (secR ⟨N.data.toList, k, kp, al, B.data.toList, l⟩)) u)) := Lib.hid (fun u hu => pIs_core N B k kp al a n c l hN hBm u (hs.next hu) hg (hT.next hu))
  rw [hsec] at HI
  have HW := Lib.hid (two_rb (w := w) (A := #[.string N, .int .i64 k, .bool kp, .int .i64 al, .string B, .slice a n c]) (B := #[.string ⟨#[]⟩, .int .i64 0, .bool false, .int .i64 0, .string ⟨#[]⟩, .slice none 0 0]) (T := 24) (U := 24))
  obtain ⟨X, hX⟩ : ∃ X, X = w.heap.size := ⟨_, rfl⟩
  rw [← hX] at HW
  have HXE := Lib.hid hX
  clear g6 g7 hBs hln ht hm hDD hDs hDl hL hLb hM
  clear hs hz hN hBm hg hT hsec
  go_enter Tryz.func19, Tryz.ntmps19
  go_wp2_with fail
  rw [← hX]
  clear hX
  change Calls _ _ _ ((w.alloc (.cells #[.string N, .int .i64 k, .bool kp, .int .i64 al, .string B, .slice a n c] 24)).alloc (.cells #[.string ⟨#[]⟩, .int .i64 0, .bool false, .int .i64 0, .string ⟨#[]⟩, .slice none 0 0] 24)) _
  generalize (w.alloc (.cells #[.string N, .int .i64 k, .bool kp, .int .i64 al, .string B, .slice a n c] 24)).alloc (.cells #[.string ⟨#[]⟩, .int .i64 0, .bool false, .int .i64 0, .string ⟨#[]⟩, .slice none 0 0] 24) = W at HW ⊢
  have HB4 : Hid (Below w.heap.size w W) := Lib.hid (by have := HW.out.2.2; rw [HXE.out] at this; exact this)
  refine (HI.out _ HB4.out).mono ?_
  rintro e u0 ⟨rfl, hb⟩
  have hx : RB u0 X #[.string N, .int .i64 k, .bool kp, .int .i64 al, .string B, .slice a n c] 24 := HW.out.1.next hb
  have hy : RB u0 (X + 1) #[.string ⟨#[]⟩, .int .i64 0, .bool false, .int .i64 0, .string ⟨#[]⟩, .slice none 0 0] 24 := HW.out.2.1.next hb
  have HB5 := Lib.hid (after HB4.out hb)
  clear hb
  have x0 : u0.cell? ⟨X, 0, none⟩ = some (.string N) := hx.cell
  have x1 : u0.cell? ⟨X, 1, none⟩ = some (.int .i64 k) := hx.cell
  have x2 : u0.cell? ⟨X, 2, none⟩ = some (.bool kp) := hx.cell
  have x3 : u0.cell? ⟨X, 3, none⟩ = some (.int .i64 al) := hx.cell
  have x4 : u0.cell? ⟨X, 4, none⟩ = some (.string B) := hx.cell
  have x5 : u0.cell? ⟨X, 5, none⟩ = some (.slice a n c) := hx.cell
  go_wp2_with fail
  first | (go_region_law (fail)) | skip
  have hx0 : RB u0.drew X #[.string N, .int .i64 k, .bool kp, .int .i64 al, .string B, .slice a n c] 24 := hx.next ((Below.refl u0.heap.size u0).drew)
  clear x0 x1 x2 x3 x4 x5
  have x0 : u0.drew.cell? ⟨X, 0, none⟩ = some (.string N) := hx0.cell
  have z0 : u0.drew.frozen? ⟨X, 0, none⟩ = false := hx0.frozen
  have x1 : u0.drew.cell? ⟨X, 1, none⟩ = some (.int .i64 k) := hx0.cell
  have z1 : u0.drew.frozen? ⟨X, 1, none⟩ = false := hx0.frozen
  have x2 : u0.drew.cell? ⟨X, 2, none⟩ = some (.bool kp) := hx0.cell
  have z2 : u0.drew.frozen? ⟨X, 2, none⟩ = false := hx0.frozen
  have x3 : u0.drew.cell? ⟨X, 3, none⟩ = some (.int .i64 al) := hx0.cell
  have z3 : u0.drew.frozen? ⟨X, 3, none⟩ = false := hx0.frozen
  have x4 : u0.drew.cell? ⟨X, 4, none⟩ = some (.string B) := hx0.cell
  have z4 : u0.drew.frozen? ⟨X, 4, none⟩ = false := hx0.frozen
  have x5 : u0.drew.cell? ⟨X, 5, none⟩ = some (.slice a n c) := hx0.cell
  have z5 : u0.drew.frozen? ⟨X, 5, none⟩ = false := hx0.frozen
  have hM := HMx.out
  go_wp2_with fail
  simp only [b1]
  clear x0 x1 x2 x3 x4 x5 z0 z1 z2 z3 z4 z5 hM
  have hx1 : RB (u0.setCell ⟨X, 3, none⟩ (.int .i64 M)) X #[.string N, .int .i64 k, .bool kp, .int .i64 M, .string B, .slice a n c] 24 := RB.set (j := 3) hx (.int .i64 M)
  have hy1 : RB (u0.setCell ⟨X, 3, none⟩ (.int .i64 M)) (X + 1) #[.string ⟨#[]⟩, .int .i64 0, .bool false, .int .i64 0, .string ⟨#[]⟩, .slice none 0 0] 24 := (Below.heap_setCell _ _ _ _ (by simp)).trans hy
  have HB7 := Lib.hid ((HB5.out.setCell (p := ⟨X, 3, none⟩) (by show _ ≤ X; rw [HXE.out]; exact Nat.le_refl _) (.int .i64 M)).drew)
  have hx2 : RB (u0.setCell ⟨X, 3, none⟩ (.int .i64 M)).drew X #[.string N, .int .i64 k, .bool kp, .int .i64 M, .string B, .slice a n c] 24 := hx1.next ((Below.refl _ _).drew)
  have hy2 : RB (u0.setCell ⟨X, 3, none⟩ (.int .i64 M)).drew (X + 1) #[.string ⟨#[]⟩, .int .i64 0, .bool false, .int .i64 0, .string ⟨#[]⟩, .slice none 0 0] 24 := hy1.next ((Below.refl _ _).drew)
  clear hx0 hx1 hy1 hx hy
  generalize (u0.setCell ⟨X, 3, none⟩ (.int .i64 M)).drew = u at hx2 hy2 HB7 ⊢
  have hx := hx2
  have hy := hy2
  clear hx2 hy2
  have HB5 := HB7
  have x0 : u.cell? ⟨X, 0, none⟩ = some (.string N) := hx.cell
  have x1 : u.cell? ⟨X, 1, none⟩ = some (.int .i64 k) := hx.cell
  have x2 : u.cell? ⟨X, 2, none⟩ = some (.bool kp) := hx.cell
  have x3 : u.cell? ⟨X, 3, none⟩ = some (.int .i64 M) := hx.cell
  have x4 : u.cell? ⟨X, 4, none⟩ = some (.string B) := hx.cell
  have x5 : u.cell? ⟨X, 5, none⟩ = some (.slice a n c) := hx.cell
  have HXl : Hid (X + 1 < u.heap.size) := Lib.hid (lt_of_block hy)
  have HXu := Lib.hid hx
  have HYu := Lib.hid hy
  clear hx hy
  first | (go_region_law ((first
    | (go_simp; go_at_call 42; refine (HBy.out _).mono ?_; rintro e u1 ⟨rfl, hb1⟩; have hb1' := ((Below.refl u.heap.size u).drew).trans hb1; have w0 : u1.cell? ⟨X, 0, none⟩ = some (.string N) := (HXu.out.next hb1').cell; have w1 : u1.cell? ⟨X, 1, none⟩ = some (.int .i64 k) := (HXu.out.next hb1').cell; have w2 : u1.cell? ⟨X, 2, none⟩ = some (.bool kp) := (HXu.out.next hb1').cell; have w3 : u1.cell? ⟨X, 3, none⟩ = some (.int .i64 M) := (HXu.out.next hb1').cell; have w4 : u1.cell? ⟨X, 4, none⟩ = some (.string B) := (HXu.out.next hb1').cell; have w5 : u1.cell? ⟨X, 5, none⟩ = some (.slice a n c) := (HXu.out.next hb1').cell)
    | (go_simp; go_at_call 41; refine (HP.out _ (after HB5.out hb1')).mono ?_; rintro e v' ⟨a', c', rfl, hrow, hb2⟩; have hy : RB v' (X + 1) #[.string ⟨#[]⟩, .int .i64 0, .bool false, .int .i64 0, .string ⟨#[]⟩, .slice none 0 0] 24 := (HYu.out.next hb1').next hb2; have y0 : v'.cell? ⟨X + 1, 0, none⟩ = some (.string ⟨#[]⟩) := hy.cell; have z0 : v'.frozen? ⟨X + 1, 0, none⟩ = false := hy.frozen; have y1 : v'.cell? ⟨X + 1, 1, none⟩ = some (.int .i64 0) := hy.cell; have z1 : v'.frozen? ⟨X + 1, 1, none⟩ = false := hy.frozen; have y2 : v'.cell? ⟨X + 1, 2, none⟩ = some (.bool false) := hy.cell; have z2 : v'.frozen? ⟨X + 1, 2, none⟩ = false := hy.frozen; have y3 : v'.cell? ⟨X + 1, 3, none⟩ = some (.int .i64 0) := hy.cell; have z3 : v'.frozen? ⟨X + 1, 3, none⟩ = false := hy.frozen; have y4 : v'.cell? ⟨X + 1, 4, none⟩ = some (.string ⟨#[]⟩) := hy.cell; have z4 : v'.frozen? ⟨X + 1, 4, none⟩ = false := hy.frozen; have y5 : v'.cell? ⟨X + 1, 5, none⟩ = some (.slice none 0 0) := hy.cell; have z5 : v'.frozen? ⟨X + 1, 5, none⟩ = false := hy.frozen)))) | fail
  all_goals
    have HB6 := Lib.hid (after (after HB5.out hb1') hb2)
    have HQ := Lib.hid (gset_heap hy (.string ⟨t.name.toArray⟩) (.int .i64 t.kind) (.bool t.keep) (.int .i64 t.align) (.string ⟨t.data.toArray⟩) (.slice a' m c'))
    have HB8 := Lib.hid (gset_below HB6.out (Y := X + 1) (by rw [← HXE.out]; omega) (.string ⟨t.name.toArray⟩) (.int .i64 t.kind) (.bool t.keep) (.int .i64 t.align) (.string ⟨t.data.toArray⟩) (.slice a' m c'))
    have HR8 := Lib.hid ((gset_row hrow (Y := X + 1) (Nat.lt_of_lt_of_le HXl.out hb1'.size) (.string ⟨t.name.toArray⟩) (.int .i64 t.kind) (.bool t.keep) (.int .i64 t.align) (.string ⟨t.data.toArray⟩) (.slice a' m c')).mono (after HB5.out hb1').size)
    clear hy hrow hb1 hb1' hb2
    go_wp2
    refine bodyPost_ret (results_cell_two (P := Tryz.prog) rfl _ _ (X + 1) 24 _ (0, 0) _ (.int .i64 er) rfl HQ.out Tryz.underlying24 rfl (by kernel_rfl) rfl) rfl ?_
    exact SecR.full HR.out HM.out rfl HR8.out HB8.out
set_option maxRecDepth 100000 in
set_option maxHeartbeats 4000000 in
theorem pAlign_9 (N B : ByteArray) (k : Int) (kp : Bool) (al : Int) (a : Option Addr) (n c : Nat) (l : List Rl) (w : World) (hs : SL rlC 4 w w.heap.size a n l) (hz : a = none → n = 0 ∧ c = 0) (hN : N.size ≤ maxLen) (hBm : B.size ≤ maxLen) (hg : ∀ r ∈ l, GoodRl r) (hT : TabP w) (hsec : secR ⟨N.data.toList, k, kp, al, B.data.toList, l⟩ = true) : Calls Tryz.prog 19 #[.agg #[.string N, .int .i64 k, .bool kp, .int .i64 al, .string B, .slice a n c], .int .i64 9] w (SecR (pAlignL ⟨N.data.toList, k, kp, al, B.data.toList, l⟩ 9) w) := by
  have hBs : B.data.toList.length = B.size := by simp
  obtain ⟨-, -, -, -, -, g6, g7⟩ := head_iff.1 (sec_iff.1 hsec).1
  simp only at g6 g7
  have hln := hs.len
  obtain ⟨L, hL⟩ : ∃ L, L = lackN B.size 9 := ⟨_, rfl⟩
  have hLb : L < 512 := by rw [hL]; exact Nat.mod_lt _ (by decide)
  obtain ⟨M, hM⟩ : ∃ M, max al 9 = M := ⟨_, rfl⟩
  obtain ⟨t, er, ht⟩ : ∃ t er, placedL ⟨N.data.toList, k, kp, M, B.data.toList, l⟩ (nulB L) [] = (t, er) := ⟨_, _, rfl⟩
  have HR : Hid (pAlignL ⟨N.data.toList, k, kp, al, B.data.toList, l⟩ 9 = (t, er)) := Lib.hid (by unfold pAlignL; rw [if_pos hsec, if_neg (by decide)]; simp only [hBs, hM]; rw [hL] at ht; exact ht)
  have b1 : bits BinOp.and IntKind.i64 (-(B.size : Int)) 511 = (L : Int) := by rw [hL]; exact and_lack B.size 9 (by omega) (by decide)
  have b2 : IntKind.i64.wrap (-(B.size : Int)) = -(B.size : Int) := by rw [IntKind.wrap_i64]; omega
  have b3 : IntKind.i64.wrap 512 = 512 := rfl
  have b4 : IntKind.i64.wrap (512 - 1) = 511 := rfl
  obtain ⟨m, hm⟩ : ∃ m, m = t.rels.length := ⟨_, rfl⟩
  obtain ⟨D, hDD⟩ : ∃ D : ByteArray, D = ⟨(nulB L).toArray⟩ := ⟨_, rfl⟩
  have hDs : D.size = L := by rw [hDD]; show (nulB L).toArray.size = L; simp [nulB]
  have hDl : D.data.toList = nulB L := by rw [hDD]
  have HBy : Hid (∀ u, Calls Tryz.prog 42 #[.string ⟨#[0]⟩, .int .i64 (L : Int)] u (RetB (.string D) u)) := Lib.hid (fun u => by rw [hDD]; exact Rep_nul L (by omega) u)
  have HP : Hid (∀ u, Below w.heap.size w u → Calls Tryz.prog 41 #[.agg #[.string N, .int .i64 k, .bool kp, .int .i64 M, .string B, .slice a n c], .string D, .slice none 0 0] u (fun e v' => ∃ a' c', e = .returned (.tuple #[.agg #[.string ⟨t.name.toArray⟩, .int .i64 t.kind, .bool t.keep, .int .i64 t.align, .string ⟨t.data.toArray⟩, .slice a' m c'], .int .i64 er]) ∧ Row0 v' u.heap.size (.slice a' m c') m t.rels ∧ Below u.heap.size u v')) := Lib.hid (fun u hu => by
    have := placed_any N B D k kp M a none n c 0 0 l [] u (hs.next hu) hz (SL.nil _ _ _) (fun _ => ⟨rfl, rfl⟩) (by omega) (by omega) (by omega) (by omega)
    rw [hDl, ht] at this
    subst hm
    exact this)
  have HM := Lib.hid hm
  have HMx := Lib.hid hM
  have hZ := zeroSec
  have HI : Hid (∀ u, Below w.heap.size w u → Calls Tryz.prog 16 #[.agg #[.string N, .int .i64 k, .bool kp, .int .i64 al, .string B, .slice a n c]] u (RetB (.bool (secR ⟨N.data.toList, k, kp, al, B.data.toList, l⟩)) u)) := Lib.hid (fun u hu => pIs_core N B k kp al a n c l hN hBm u (hs.next hu) hg (hT.next hu))
  rw [hsec] at HI
  have HW := Lib.hid (two_rb (w := w) (A := #[.string N, .int .i64 k, .bool kp, .int .i64 al, .string B, .slice a n c]) (B := #[.string ⟨#[]⟩, .int .i64 0, .bool false, .int .i64 0, .string ⟨#[]⟩, .slice none 0 0]) (T := 24) (U := 24))
  obtain ⟨X, hX⟩ : ∃ X, X = w.heap.size := ⟨_, rfl⟩
  rw [← hX] at HW
  have HXE := Lib.hid hX
  clear g6 g7 hBs hln ht hm hDD hDs hDl hL hLb hM
  clear hs hz hN hBm hg hT hsec
  go_enter Tryz.func19, Tryz.ntmps19
  go_wp2_with fail
  rw [← hX]
  clear hX
  change Calls _ _ _ ((w.alloc (.cells #[.string N, .int .i64 k, .bool kp, .int .i64 al, .string B, .slice a n c] 24)).alloc (.cells #[.string ⟨#[]⟩, .int .i64 0, .bool false, .int .i64 0, .string ⟨#[]⟩, .slice none 0 0] 24)) _
  generalize (w.alloc (.cells #[.string N, .int .i64 k, .bool kp, .int .i64 al, .string B, .slice a n c] 24)).alloc (.cells #[.string ⟨#[]⟩, .int .i64 0, .bool false, .int .i64 0, .string ⟨#[]⟩, .slice none 0 0] 24) = W at HW ⊢
  have HB4 : Hid (Below w.heap.size w W) := Lib.hid (by have := HW.out.2.2; rw [HXE.out] at this; exact this)
  refine (HI.out _ HB4.out).mono ?_
  rintro e u0 ⟨rfl, hb⟩
  have hx : RB u0 X #[.string N, .int .i64 k, .bool kp, .int .i64 al, .string B, .slice a n c] 24 := HW.out.1.next hb
  have hy : RB u0 (X + 1) #[.string ⟨#[]⟩, .int .i64 0, .bool false, .int .i64 0, .string ⟨#[]⟩, .slice none 0 0] 24 := HW.out.2.1.next hb
  have HB5 := Lib.hid (after HB4.out hb)
  clear hb
  have x0 : u0.cell? ⟨X, 0, none⟩ = some (.string N) := hx.cell
  have x1 : u0.cell? ⟨X, 1, none⟩ = some (.int .i64 k) := hx.cell
  have x2 : u0.cell? ⟨X, 2, none⟩ = some (.bool kp) := hx.cell
  have x3 : u0.cell? ⟨X, 3, none⟩ = some (.int .i64 al) := hx.cell
  have x4 : u0.cell? ⟨X, 4, none⟩ = some (.string B) := hx.cell
  have x5 : u0.cell? ⟨X, 5, none⟩ = some (.slice a n c) := hx.cell
  go_wp2_with fail
  first | (go_region_law (fail)) | skip
  have hx0 : RB u0.drew X #[.string N, .int .i64 k, .bool kp, .int .i64 al, .string B, .slice a n c] 24 := hx.next ((Below.refl u0.heap.size u0).drew)
  clear x0 x1 x2 x3 x4 x5
  have x0 : u0.drew.cell? ⟨X, 0, none⟩ = some (.string N) := hx0.cell
  have z0 : u0.drew.frozen? ⟨X, 0, none⟩ = false := hx0.frozen
  have x1 : u0.drew.cell? ⟨X, 1, none⟩ = some (.int .i64 k) := hx0.cell
  have z1 : u0.drew.frozen? ⟨X, 1, none⟩ = false := hx0.frozen
  have x2 : u0.drew.cell? ⟨X, 2, none⟩ = some (.bool kp) := hx0.cell
  have z2 : u0.drew.frozen? ⟨X, 2, none⟩ = false := hx0.frozen
  have x3 : u0.drew.cell? ⟨X, 3, none⟩ = some (.int .i64 al) := hx0.cell
  have z3 : u0.drew.frozen? ⟨X, 3, none⟩ = false := hx0.frozen
  have x4 : u0.drew.cell? ⟨X, 4, none⟩ = some (.string B) := hx0.cell
  have z4 : u0.drew.frozen? ⟨X, 4, none⟩ = false := hx0.frozen
  have x5 : u0.drew.cell? ⟨X, 5, none⟩ = some (.slice a n c) := hx0.cell
  have z5 : u0.drew.frozen? ⟨X, 5, none⟩ = false := hx0.frozen
  have hM := HMx.out
  go_wp2_with fail
  simp only [b1]
  clear x0 x1 x2 x3 x4 x5 z0 z1 z2 z3 z4 z5 hM
  have hx1 : RB (u0.setCell ⟨X, 3, none⟩ (.int .i64 M)) X #[.string N, .int .i64 k, .bool kp, .int .i64 M, .string B, .slice a n c] 24 := RB.set (j := 3) hx (.int .i64 M)
  have hy1 : RB (u0.setCell ⟨X, 3, none⟩ (.int .i64 M)) (X + 1) #[.string ⟨#[]⟩, .int .i64 0, .bool false, .int .i64 0, .string ⟨#[]⟩, .slice none 0 0] 24 := (Below.heap_setCell _ _ _ _ (by simp)).trans hy
  have HB7 := Lib.hid ((HB5.out.setCell (p := ⟨X, 3, none⟩) (by show _ ≤ X; rw [HXE.out]; exact Nat.le_refl _) (.int .i64 M)).drew)
  have hx2 : RB (u0.setCell ⟨X, 3, none⟩ (.int .i64 M)).drew X #[.string N, .int .i64 k, .bool kp, .int .i64 M, .string B, .slice a n c] 24 := hx1.next ((Below.refl _ _).drew)
  have hy2 : RB (u0.setCell ⟨X, 3, none⟩ (.int .i64 M)).drew (X + 1) #[.string ⟨#[]⟩, .int .i64 0, .bool false, .int .i64 0, .string ⟨#[]⟩, .slice none 0 0] 24 := hy1.next ((Below.refl _ _).drew)
  clear hx0 hx1 hy1 hx hy
  generalize (u0.setCell ⟨X, 3, none⟩ (.int .i64 M)).drew = u at hx2 hy2 HB7 ⊢
  have hx := hx2
  have hy := hy2
  clear hx2 hy2
  have HB5 := HB7
  have x0 : u.cell? ⟨X, 0, none⟩ = some (.string N) := hx.cell
  have x1 : u.cell? ⟨X, 1, none⟩ = some (.int .i64 k) := hx.cell
  have x2 : u.cell? ⟨X, 2, none⟩ = some (.bool kp) := hx.cell
  have x3 : u.cell? ⟨X, 3, none⟩ = some (.int .i64 M) := hx.cell
  have x4 : u.cell? ⟨X, 4, none⟩ = some (.string B) := hx.cell
  have x5 : u.cell? ⟨X, 5, none⟩ = some (.slice a n c) := hx.cell
  have HXl : Hid (X + 1 < u.heap.size) := Lib.hid (lt_of_block hy)
  have HXu := Lib.hid hx
  have HYu := Lib.hid hy
  clear hx hy
  first | (go_region_law ((first
    | (go_simp; go_at_call 42; refine (HBy.out _).mono ?_; rintro e u1 ⟨rfl, hb1⟩; have hb1' := ((Below.refl u.heap.size u).drew).trans hb1; have w0 : u1.cell? ⟨X, 0, none⟩ = some (.string N) := (HXu.out.next hb1').cell; have w1 : u1.cell? ⟨X, 1, none⟩ = some (.int .i64 k) := (HXu.out.next hb1').cell; have w2 : u1.cell? ⟨X, 2, none⟩ = some (.bool kp) := (HXu.out.next hb1').cell; have w3 : u1.cell? ⟨X, 3, none⟩ = some (.int .i64 M) := (HXu.out.next hb1').cell; have w4 : u1.cell? ⟨X, 4, none⟩ = some (.string B) := (HXu.out.next hb1').cell; have w5 : u1.cell? ⟨X, 5, none⟩ = some (.slice a n c) := (HXu.out.next hb1').cell)
    | (go_simp; go_at_call 41; refine (HP.out _ (after HB5.out hb1')).mono ?_; rintro e v' ⟨a', c', rfl, hrow, hb2⟩; have hy : RB v' (X + 1) #[.string ⟨#[]⟩, .int .i64 0, .bool false, .int .i64 0, .string ⟨#[]⟩, .slice none 0 0] 24 := (HYu.out.next hb1').next hb2; have y0 : v'.cell? ⟨X + 1, 0, none⟩ = some (.string ⟨#[]⟩) := hy.cell; have z0 : v'.frozen? ⟨X + 1, 0, none⟩ = false := hy.frozen; have y1 : v'.cell? ⟨X + 1, 1, none⟩ = some (.int .i64 0) := hy.cell; have z1 : v'.frozen? ⟨X + 1, 1, none⟩ = false := hy.frozen; have y2 : v'.cell? ⟨X + 1, 2, none⟩ = some (.bool false) := hy.cell; have z2 : v'.frozen? ⟨X + 1, 2, none⟩ = false := hy.frozen; have y3 : v'.cell? ⟨X + 1, 3, none⟩ = some (.int .i64 0) := hy.cell; have z3 : v'.frozen? ⟨X + 1, 3, none⟩ = false := hy.frozen; have y4 : v'.cell? ⟨X + 1, 4, none⟩ = some (.string ⟨#[]⟩) := hy.cell; have z4 : v'.frozen? ⟨X + 1, 4, none⟩ = false := hy.frozen; have y5 : v'.cell? ⟨X + 1, 5, none⟩ = some (.slice none 0 0) := hy.cell; have z5 : v'.frozen? ⟨X + 1, 5, none⟩ = false := hy.frozen)))) | fail
  all_goals
    have HB6 := Lib.hid (after (after HB5.out hb1') hb2)
    have HQ := Lib.hid (gset_heap hy (.string ⟨t.name.toArray⟩) (.int .i64 t.kind) (.bool t.keep) (.int .i64 t.align) (.string ⟨t.data.toArray⟩) (.slice a' m c'))
    have HB8 := Lib.hid (gset_below HB6.out (Y := X + 1) (by rw [← HXE.out]; omega) (.string ⟨t.name.toArray⟩) (.int .i64 t.kind) (.bool t.keep) (.int .i64 t.align) (.string ⟨t.data.toArray⟩) (.slice a' m c'))
    have HR8 := Lib.hid ((gset_row hrow (Y := X + 1) (Nat.lt_of_lt_of_le HXl.out hb1'.size) (.string ⟨t.name.toArray⟩) (.int .i64 t.kind) (.bool t.keep) (.int .i64 t.align) (.string ⟨t.data.toArray⟩) (.slice a' m c')).mono (after HB5.out hb1').size)
    clear hy hrow hb1 hb1' hb2
    go_wp2
    refine bodyPost_ret (results_cell_two (P := Tryz.prog) rfl _ _ (X + 1) 24 _ (0, 0) _ (.int .i64 er) rfl HQ.out Tryz.underlying24 rfl (by kernel_rfl) rfl) rfl ?_
    exact SecR.full HR.out HM.out rfl HR8.out HB8.out
set_option maxRecDepth 100000 in
set_option maxHeartbeats 4000000 in
theorem pAlign_10 (N B : ByteArray) (k : Int) (kp : Bool) (al : Int) (a : Option Addr) (n c : Nat) (l : List Rl) (w : World) (hs : SL rlC 4 w w.heap.size a n l) (hz : a = none → n = 0 ∧ c = 0) (hN : N.size ≤ maxLen) (hBm : B.size ≤ maxLen) (hg : ∀ r ∈ l, GoodRl r) (hT : TabP w) (hsec : secR ⟨N.data.toList, k, kp, al, B.data.toList, l⟩ = true) : Calls Tryz.prog 19 #[.agg #[.string N, .int .i64 k, .bool kp, .int .i64 al, .string B, .slice a n c], .int .i64 10] w (SecR (pAlignL ⟨N.data.toList, k, kp, al, B.data.toList, l⟩ 10) w) := by
  have hBs : B.data.toList.length = B.size := by simp
  obtain ⟨-, -, -, -, -, g6, g7⟩ := head_iff.1 (sec_iff.1 hsec).1
  simp only at g6 g7
  have hln := hs.len
  obtain ⟨L, hL⟩ : ∃ L, L = lackN B.size 10 := ⟨_, rfl⟩
  have hLb : L < 1024 := by rw [hL]; exact Nat.mod_lt _ (by decide)
  obtain ⟨M, hM⟩ : ∃ M, max al 10 = M := ⟨_, rfl⟩
  obtain ⟨t, er, ht⟩ : ∃ t er, placedL ⟨N.data.toList, k, kp, M, B.data.toList, l⟩ (nulB L) [] = (t, er) := ⟨_, _, rfl⟩
  have HR : Hid (pAlignL ⟨N.data.toList, k, kp, al, B.data.toList, l⟩ 10 = (t, er)) := Lib.hid (by unfold pAlignL; rw [if_pos hsec, if_neg (by decide)]; simp only [hBs, hM]; rw [hL] at ht; exact ht)
  have b1 : bits BinOp.and IntKind.i64 (-(B.size : Int)) 1023 = (L : Int) := by rw [hL]; exact and_lack B.size 10 (by omega) (by decide)
  have b2 : IntKind.i64.wrap (-(B.size : Int)) = -(B.size : Int) := by rw [IntKind.wrap_i64]; omega
  have b3 : IntKind.i64.wrap 1024 = 1024 := rfl
  have b4 : IntKind.i64.wrap (1024 - 1) = 1023 := rfl
  obtain ⟨m, hm⟩ : ∃ m, m = t.rels.length := ⟨_, rfl⟩
  obtain ⟨D, hDD⟩ : ∃ D : ByteArray, D = ⟨(nulB L).toArray⟩ := ⟨_, rfl⟩
  have hDs : D.size = L := by rw [hDD]; show (nulB L).toArray.size = L; simp [nulB]
  have hDl : D.data.toList = nulB L := by rw [hDD]
  have HBy : Hid (∀ u, Calls Tryz.prog 42 #[.string ⟨#[0]⟩, .int .i64 (L : Int)] u (RetB (.string D) u)) := Lib.hid (fun u => by rw [hDD]; exact Rep_nul L (by omega) u)
  have HP : Hid (∀ u, Below w.heap.size w u → Calls Tryz.prog 41 #[.agg #[.string N, .int .i64 k, .bool kp, .int .i64 M, .string B, .slice a n c], .string D, .slice none 0 0] u (fun e v' => ∃ a' c', e = .returned (.tuple #[.agg #[.string ⟨t.name.toArray⟩, .int .i64 t.kind, .bool t.keep, .int .i64 t.align, .string ⟨t.data.toArray⟩, .slice a' m c'], .int .i64 er]) ∧ Row0 v' u.heap.size (.slice a' m c') m t.rels ∧ Below u.heap.size u v')) := Lib.hid (fun u hu => by
    have := placed_any N B D k kp M a none n c 0 0 l [] u (hs.next hu) hz (SL.nil _ _ _) (fun _ => ⟨rfl, rfl⟩) (by omega) (by omega) (by omega) (by omega)
    rw [hDl, ht] at this
    subst hm
    exact this)
  have HM := Lib.hid hm
  have HMx := Lib.hid hM
  have hZ := zeroSec
  have HI : Hid (∀ u, Below w.heap.size w u → Calls Tryz.prog 16 #[.agg #[.string N, .int .i64 k, .bool kp, .int .i64 al, .string B, .slice a n c]] u (RetB (.bool (secR ⟨N.data.toList, k, kp, al, B.data.toList, l⟩)) u)) := Lib.hid (fun u hu => pIs_core N B k kp al a n c l hN hBm u (hs.next hu) hg (hT.next hu))
  rw [hsec] at HI
  have HW := Lib.hid (two_rb (w := w) (A := #[.string N, .int .i64 k, .bool kp, .int .i64 al, .string B, .slice a n c]) (B := #[.string ⟨#[]⟩, .int .i64 0, .bool false, .int .i64 0, .string ⟨#[]⟩, .slice none 0 0]) (T := 24) (U := 24))
  obtain ⟨X, hX⟩ : ∃ X, X = w.heap.size := ⟨_, rfl⟩
  rw [← hX] at HW
  have HXE := Lib.hid hX
  clear g6 g7 hBs hln ht hm hDD hDs hDl hL hLb hM
  clear hs hz hN hBm hg hT hsec
  go_enter Tryz.func19, Tryz.ntmps19
  go_wp2_with fail
  rw [← hX]
  clear hX
  change Calls _ _ _ ((w.alloc (.cells #[.string N, .int .i64 k, .bool kp, .int .i64 al, .string B, .slice a n c] 24)).alloc (.cells #[.string ⟨#[]⟩, .int .i64 0, .bool false, .int .i64 0, .string ⟨#[]⟩, .slice none 0 0] 24)) _
  generalize (w.alloc (.cells #[.string N, .int .i64 k, .bool kp, .int .i64 al, .string B, .slice a n c] 24)).alloc (.cells #[.string ⟨#[]⟩, .int .i64 0, .bool false, .int .i64 0, .string ⟨#[]⟩, .slice none 0 0] 24) = W at HW ⊢
  have HB4 : Hid (Below w.heap.size w W) := Lib.hid (by have := HW.out.2.2; rw [HXE.out] at this; exact this)
  refine (HI.out _ HB4.out).mono ?_
  rintro e u0 ⟨rfl, hb⟩
  have hx : RB u0 X #[.string N, .int .i64 k, .bool kp, .int .i64 al, .string B, .slice a n c] 24 := HW.out.1.next hb
  have hy : RB u0 (X + 1) #[.string ⟨#[]⟩, .int .i64 0, .bool false, .int .i64 0, .string ⟨#[]⟩, .slice none 0 0] 24 := HW.out.2.1.next hb
  have HB5 := Lib.hid (after HB4.out hb)
  clear hb
  have x0 : u0.cell? ⟨X, 0, none⟩ = some (.string N) := hx.cell
  have x1 : u0.cell? ⟨X, 1, none⟩ = some (.int .i64 k) := hx.cell
  have x2 : u0.cell? ⟨X, 2, none⟩ = some (.bool kp) := hx.cell
  have x3 : u0.cell? ⟨X, 3, none⟩ = some (.int .i64 al) := hx.cell
  have x4 : u0.cell? ⟨X, 4, none⟩ = some (.string B) := hx.cell
  have x5 : u0.cell? ⟨X, 5, none⟩ = some (.slice a n c) := hx.cell
  go_wp2_with fail
  first | (go_region_law (fail)) | skip
  have hx0 : RB u0.drew X #[.string N, .int .i64 k, .bool kp, .int .i64 al, .string B, .slice a n c] 24 := hx.next ((Below.refl u0.heap.size u0).drew)
  clear x0 x1 x2 x3 x4 x5
  have x0 : u0.drew.cell? ⟨X, 0, none⟩ = some (.string N) := hx0.cell
  have z0 : u0.drew.frozen? ⟨X, 0, none⟩ = false := hx0.frozen
  have x1 : u0.drew.cell? ⟨X, 1, none⟩ = some (.int .i64 k) := hx0.cell
  have z1 : u0.drew.frozen? ⟨X, 1, none⟩ = false := hx0.frozen
  have x2 : u0.drew.cell? ⟨X, 2, none⟩ = some (.bool kp) := hx0.cell
  have z2 : u0.drew.frozen? ⟨X, 2, none⟩ = false := hx0.frozen
  have x3 : u0.drew.cell? ⟨X, 3, none⟩ = some (.int .i64 al) := hx0.cell
  have z3 : u0.drew.frozen? ⟨X, 3, none⟩ = false := hx0.frozen
  have x4 : u0.drew.cell? ⟨X, 4, none⟩ = some (.string B) := hx0.cell
  have z4 : u0.drew.frozen? ⟨X, 4, none⟩ = false := hx0.frozen
  have x5 : u0.drew.cell? ⟨X, 5, none⟩ = some (.slice a n c) := hx0.cell
  have z5 : u0.drew.frozen? ⟨X, 5, none⟩ = false := hx0.frozen
  have hM := HMx.out
  go_wp2_with fail
  simp only [b1]
  clear x0 x1 x2 x3 x4 x5 z0 z1 z2 z3 z4 z5 hM
  have hx1 : RB (u0.setCell ⟨X, 3, none⟩ (.int .i64 M)) X #[.string N, .int .i64 k, .bool kp, .int .i64 M, .string B, .slice a n c] 24 := RB.set (j := 3) hx (.int .i64 M)
  have hy1 : RB (u0.setCell ⟨X, 3, none⟩ (.int .i64 M)) (X + 1) #[.string ⟨#[]⟩, .int .i64 0, .bool false, .int .i64 0, .string ⟨#[]⟩, .slice none 0 0] 24 := (Below.heap_setCell _ _ _ _ (by simp)).trans hy
  have HB7 := Lib.hid ((HB5.out.setCell (p := ⟨X, 3, none⟩) (by show _ ≤ X; rw [HXE.out]; exact Nat.le_refl _) (.int .i64 M)).drew)
  have hx2 : RB (u0.setCell ⟨X, 3, none⟩ (.int .i64 M)).drew X #[.string N, .int .i64 k, .bool kp, .int .i64 M, .string B, .slice a n c] 24 := hx1.next ((Below.refl _ _).drew)
  have hy2 : RB (u0.setCell ⟨X, 3, none⟩ (.int .i64 M)).drew (X + 1) #[.string ⟨#[]⟩, .int .i64 0, .bool false, .int .i64 0, .string ⟨#[]⟩, .slice none 0 0] 24 := hy1.next ((Below.refl _ _).drew)
  clear hx0 hx1 hy1 hx hy
  generalize (u0.setCell ⟨X, 3, none⟩ (.int .i64 M)).drew = u at hx2 hy2 HB7 ⊢
  have hx := hx2
  have hy := hy2
  clear hx2 hy2
  have HB5 := HB7
  have x0 : u.cell? ⟨X, 0, none⟩ = some (.string N) := hx.cell
  have x1 : u.cell? ⟨X, 1, none⟩ = some (.int .i64 k) := hx.cell
  have x2 : u.cell? ⟨X, 2, none⟩ = some (.bool kp) := hx.cell
  have x3 : u.cell? ⟨X, 3, none⟩ = some (.int .i64 M) := hx.cell
  have x4 : u.cell? ⟨X, 4, none⟩ = some (.string B) := hx.cell
  have x5 : u.cell? ⟨X, 5, none⟩ = some (.slice a n c) := hx.cell
  have HXl : Hid (X + 1 < u.heap.size) := Lib.hid (lt_of_block hy)
  have HXu := Lib.hid hx
  have HYu := Lib.hid hy
  clear hx hy
  first | (go_region_law ((first
    | (go_simp; go_at_call 42; refine (HBy.out _).mono ?_; rintro e u1 ⟨rfl, hb1⟩; have hb1' := ((Below.refl u.heap.size u).drew).trans hb1; have w0 : u1.cell? ⟨X, 0, none⟩ = some (.string N) := (HXu.out.next hb1').cell; have w1 : u1.cell? ⟨X, 1, none⟩ = some (.int .i64 k) := (HXu.out.next hb1').cell; have w2 : u1.cell? ⟨X, 2, none⟩ = some (.bool kp) := (HXu.out.next hb1').cell; have w3 : u1.cell? ⟨X, 3, none⟩ = some (.int .i64 M) := (HXu.out.next hb1').cell; have w4 : u1.cell? ⟨X, 4, none⟩ = some (.string B) := (HXu.out.next hb1').cell; have w5 : u1.cell? ⟨X, 5, none⟩ = some (.slice a n c) := (HXu.out.next hb1').cell)
    | (go_simp; go_at_call 41; refine (HP.out _ (after HB5.out hb1')).mono ?_; rintro e v' ⟨a', c', rfl, hrow, hb2⟩; have hy : RB v' (X + 1) #[.string ⟨#[]⟩, .int .i64 0, .bool false, .int .i64 0, .string ⟨#[]⟩, .slice none 0 0] 24 := (HYu.out.next hb1').next hb2; have y0 : v'.cell? ⟨X + 1, 0, none⟩ = some (.string ⟨#[]⟩) := hy.cell; have z0 : v'.frozen? ⟨X + 1, 0, none⟩ = false := hy.frozen; have y1 : v'.cell? ⟨X + 1, 1, none⟩ = some (.int .i64 0) := hy.cell; have z1 : v'.frozen? ⟨X + 1, 1, none⟩ = false := hy.frozen; have y2 : v'.cell? ⟨X + 1, 2, none⟩ = some (.bool false) := hy.cell; have z2 : v'.frozen? ⟨X + 1, 2, none⟩ = false := hy.frozen; have y3 : v'.cell? ⟨X + 1, 3, none⟩ = some (.int .i64 0) := hy.cell; have z3 : v'.frozen? ⟨X + 1, 3, none⟩ = false := hy.frozen; have y4 : v'.cell? ⟨X + 1, 4, none⟩ = some (.string ⟨#[]⟩) := hy.cell; have z4 : v'.frozen? ⟨X + 1, 4, none⟩ = false := hy.frozen; have y5 : v'.cell? ⟨X + 1, 5, none⟩ = some (.slice none 0 0) := hy.cell; have z5 : v'.frozen? ⟨X + 1, 5, none⟩ = false := hy.frozen)))) | fail
  all_goals
    have HB6 := Lib.hid (after (after HB5.out hb1') hb2)
    have HQ := Lib.hid (gset_heap hy (.string ⟨t.name.toArray⟩) (.int .i64 t.kind) (.bool t.keep) (.int .i64 t.align) (.string ⟨t.data.toArray⟩) (.slice a' m c'))
    have HB8 := Lib.hid (gset_below HB6.out (Y := X + 1) (by rw [← HXE.out]; omega) (.string ⟨t.name.toArray⟩) (.int .i64 t.kind) (.bool t.keep) (.int .i64 t.align) (.string ⟨t.data.toArray⟩) (.slice a' m c'))
    have HR8 := Lib.hid ((gset_row hrow (Y := X + 1) (Nat.lt_of_lt_of_le HXl.out hb1'.size) (.string ⟨t.name.toArray⟩) (.int .i64 t.kind) (.bool t.keep) (.int .i64 t.align) (.string ⟨t.data.toArray⟩) (.slice a' m c')).mono (after HB5.out hb1').size)
    clear hy hrow hb1 hb1' hb2
    go_wp2
    refine bodyPost_ret (results_cell_two (P := Tryz.prog) rfl _ _ (X + 1) 24 _ (0, 0) _ (.int .i64 er) rfl HQ.out Tryz.underlying24 rfl (by kernel_rfl) rfl) rfl ?_
    exact SecR.full HR.out HM.out rfl HR8.out HB8.out
set_option maxRecDepth 100000 in
set_option maxHeartbeats 4000000 in
theorem pAlign_11 (N B : ByteArray) (k : Int) (kp : Bool) (al : Int) (a : Option Addr) (n c : Nat) (l : List Rl) (w : World) (hs : SL rlC 4 w w.heap.size a n l) (hz : a = none → n = 0 ∧ c = 0) (hN : N.size ≤ maxLen) (hBm : B.size ≤ maxLen) (hg : ∀ r ∈ l, GoodRl r) (hT : TabP w) (hsec : secR ⟨N.data.toList, k, kp, al, B.data.toList, l⟩ = true) : Calls Tryz.prog 19 #[.agg #[.string N, .int .i64 k, .bool kp, .int .i64 al, .string B, .slice a n c], .int .i64 11] w (SecR (pAlignL ⟨N.data.toList, k, kp, al, B.data.toList, l⟩ 11) w) := by
  have hBs : B.data.toList.length = B.size := by simp
  obtain ⟨-, -, -, -, -, g6, g7⟩ := head_iff.1 (sec_iff.1 hsec).1
  simp only at g6 g7
  have hln := hs.len
  obtain ⟨L, hL⟩ : ∃ L, L = lackN B.size 11 := ⟨_, rfl⟩
  have hLb : L < 2048 := by rw [hL]; exact Nat.mod_lt _ (by decide)
  obtain ⟨M, hM⟩ : ∃ M, max al 11 = M := ⟨_, rfl⟩
  obtain ⟨t, er, ht⟩ : ∃ t er, placedL ⟨N.data.toList, k, kp, M, B.data.toList, l⟩ (nulB L) [] = (t, er) := ⟨_, _, rfl⟩
  have HR : Hid (pAlignL ⟨N.data.toList, k, kp, al, B.data.toList, l⟩ 11 = (t, er)) := Lib.hid (by unfold pAlignL; rw [if_pos hsec, if_neg (by decide)]; simp only [hBs, hM]; rw [hL] at ht; exact ht)
  have b1 : bits BinOp.and IntKind.i64 (-(B.size : Int)) 2047 = (L : Int) := by rw [hL]; exact and_lack B.size 11 (by omega) (by decide)
  have b2 : IntKind.i64.wrap (-(B.size : Int)) = -(B.size : Int) := by rw [IntKind.wrap_i64]; omega
  have b3 : IntKind.i64.wrap 2048 = 2048 := rfl
  have b4 : IntKind.i64.wrap (2048 - 1) = 2047 := rfl
  obtain ⟨m, hm⟩ : ∃ m, m = t.rels.length := ⟨_, rfl⟩
  obtain ⟨D, hDD⟩ : ∃ D : ByteArray, D = ⟨(nulB L).toArray⟩ := ⟨_, rfl⟩
  have hDs : D.size = L := by rw [hDD]; show (nulB L).toArray.size = L; simp [nulB]
  have hDl : D.data.toList = nulB L := by rw [hDD]
  have HBy : Hid (∀ u, Calls Tryz.prog 42 #[.string ⟨#[0]⟩, .int .i64 (L : Int)] u (RetB (.string D) u)) := Lib.hid (fun u => by rw [hDD]; exact Rep_nul L (by omega) u)
  have HP : Hid (∀ u, Below w.heap.size w u → Calls Tryz.prog 41 #[.agg #[.string N, .int .i64 k, .bool kp, .int .i64 M, .string B, .slice a n c], .string D, .slice none 0 0] u (fun e v' => ∃ a' c', e = .returned (.tuple #[.agg #[.string ⟨t.name.toArray⟩, .int .i64 t.kind, .bool t.keep, .int .i64 t.align, .string ⟨t.data.toArray⟩, .slice a' m c'], .int .i64 er]) ∧ Row0 v' u.heap.size (.slice a' m c') m t.rels ∧ Below u.heap.size u v')) := Lib.hid (fun u hu => by
    have := placed_any N B D k kp M a none n c 0 0 l [] u (hs.next hu) hz (SL.nil _ _ _) (fun _ => ⟨rfl, rfl⟩) (by omega) (by omega) (by omega) (by omega)
    rw [hDl, ht] at this
    subst hm
    exact this)
  have HM := Lib.hid hm
  have HMx := Lib.hid hM
  have hZ := zeroSec
  have HI : Hid (∀ u, Below w.heap.size w u → Calls Tryz.prog 16 #[.agg #[.string N, .int .i64 k, .bool kp, .int .i64 al, .string B, .slice a n c]] u (RetB (.bool (secR ⟨N.data.toList, k, kp, al, B.data.toList, l⟩)) u)) := Lib.hid (fun u hu => pIs_core N B k kp al a n c l hN hBm u (hs.next hu) hg (hT.next hu))
  rw [hsec] at HI
  have HW := Lib.hid (two_rb (w := w) (A := #[.string N, .int .i64 k, .bool kp, .int .i64 al, .string B, .slice a n c]) (B := #[.string ⟨#[]⟩, .int .i64 0, .bool false, .int .i64 0, .string ⟨#[]⟩, .slice none 0 0]) (T := 24) (U := 24))
  obtain ⟨X, hX⟩ : ∃ X, X = w.heap.size := ⟨_, rfl⟩
  rw [← hX] at HW
  have HXE := Lib.hid hX
  clear g6 g7 hBs hln ht hm hDD hDs hDl hL hLb hM
  clear hs hz hN hBm hg hT hsec
  go_enter Tryz.func19, Tryz.ntmps19
  go_wp2_with fail
  rw [← hX]
  clear hX
  change Calls _ _ _ ((w.alloc (.cells #[.string N, .int .i64 k, .bool kp, .int .i64 al, .string B, .slice a n c] 24)).alloc (.cells #[.string ⟨#[]⟩, .int .i64 0, .bool false, .int .i64 0, .string ⟨#[]⟩, .slice none 0 0] 24)) _
  generalize (w.alloc (.cells #[.string N, .int .i64 k, .bool kp, .int .i64 al, .string B, .slice a n c] 24)).alloc (.cells #[.string ⟨#[]⟩, .int .i64 0, .bool false, .int .i64 0, .string ⟨#[]⟩, .slice none 0 0] 24) = W at HW ⊢
  have HB4 : Hid (Below w.heap.size w W) := Lib.hid (by have := HW.out.2.2; rw [HXE.out] at this; exact this)
  refine (HI.out _ HB4.out).mono ?_
  rintro e u0 ⟨rfl, hb⟩
  have hx : RB u0 X #[.string N, .int .i64 k, .bool kp, .int .i64 al, .string B, .slice a n c] 24 := HW.out.1.next hb
  have hy : RB u0 (X + 1) #[.string ⟨#[]⟩, .int .i64 0, .bool false, .int .i64 0, .string ⟨#[]⟩, .slice none 0 0] 24 := HW.out.2.1.next hb
  have HB5 := Lib.hid (after HB4.out hb)
  clear hb
  have x0 : u0.cell? ⟨X, 0, none⟩ = some (.string N) := hx.cell
  have x1 : u0.cell? ⟨X, 1, none⟩ = some (.int .i64 k) := hx.cell
  have x2 : u0.cell? ⟨X, 2, none⟩ = some (.bool kp) := hx.cell
  have x3 : u0.cell? ⟨X, 3, none⟩ = some (.int .i64 al) := hx.cell
  have x4 : u0.cell? ⟨X, 4, none⟩ = some (.string B) := hx.cell
  have x5 : u0.cell? ⟨X, 5, none⟩ = some (.slice a n c) := hx.cell
  go_wp2_with fail
  first | (go_region_law (fail)) | skip
  have hx0 : RB u0.drew X #[.string N, .int .i64 k, .bool kp, .int .i64 al, .string B, .slice a n c] 24 := hx.next ((Below.refl u0.heap.size u0).drew)
  clear x0 x1 x2 x3 x4 x5
  have x0 : u0.drew.cell? ⟨X, 0, none⟩ = some (.string N) := hx0.cell
  have z0 : u0.drew.frozen? ⟨X, 0, none⟩ = false := hx0.frozen
  have x1 : u0.drew.cell? ⟨X, 1, none⟩ = some (.int .i64 k) := hx0.cell
  have z1 : u0.drew.frozen? ⟨X, 1, none⟩ = false := hx0.frozen
  have x2 : u0.drew.cell? ⟨X, 2, none⟩ = some (.bool kp) := hx0.cell
  have z2 : u0.drew.frozen? ⟨X, 2, none⟩ = false := hx0.frozen
  have x3 : u0.drew.cell? ⟨X, 3, none⟩ = some (.int .i64 al) := hx0.cell
  have z3 : u0.drew.frozen? ⟨X, 3, none⟩ = false := hx0.frozen
  have x4 : u0.drew.cell? ⟨X, 4, none⟩ = some (.string B) := hx0.cell
  have z4 : u0.drew.frozen? ⟨X, 4, none⟩ = false := hx0.frozen
  have x5 : u0.drew.cell? ⟨X, 5, none⟩ = some (.slice a n c) := hx0.cell
  have z5 : u0.drew.frozen? ⟨X, 5, none⟩ = false := hx0.frozen
  have hM := HMx.out
  go_wp2_with fail
  simp only [b1]
  clear x0 x1 x2 x3 x4 x5 z0 z1 z2 z3 z4 z5 hM
  have hx1 : RB (u0.setCell ⟨X, 3, none⟩ (.int .i64 M)) X #[.string N, .int .i64 k, .bool kp, .int .i64 M, .string B, .slice a n c] 24 := RB.set (j := 3) hx (.int .i64 M)
  have hy1 : RB (u0.setCell ⟨X, 3, none⟩ (.int .i64 M)) (X + 1) #[.string ⟨#[]⟩, .int .i64 0, .bool false, .int .i64 0, .string ⟨#[]⟩, .slice none 0 0] 24 := (Below.heap_setCell _ _ _ _ (by simp)).trans hy
  have HB7 := Lib.hid ((HB5.out.setCell (p := ⟨X, 3, none⟩) (by show _ ≤ X; rw [HXE.out]; exact Nat.le_refl _) (.int .i64 M)).drew)
  have hx2 : RB (u0.setCell ⟨X, 3, none⟩ (.int .i64 M)).drew X #[.string N, .int .i64 k, .bool kp, .int .i64 M, .string B, .slice a n c] 24 := hx1.next ((Below.refl _ _).drew)
  have hy2 : RB (u0.setCell ⟨X, 3, none⟩ (.int .i64 M)).drew (X + 1) #[.string ⟨#[]⟩, .int .i64 0, .bool false, .int .i64 0, .string ⟨#[]⟩, .slice none 0 0] 24 := hy1.next ((Below.refl _ _).drew)
  clear hx0 hx1 hy1 hx hy
  generalize (u0.setCell ⟨X, 3, none⟩ (.int .i64 M)).drew = u at hx2 hy2 HB7 ⊢
  have hx := hx2
  have hy := hy2
  clear hx2 hy2
  have HB5 := HB7
  have x0 : u.cell? ⟨X, 0, none⟩ = some (.string N) := hx.cell
  have x1 : u.cell? ⟨X, 1, none⟩ = some (.int .i64 k) := hx.cell
  have x2 : u.cell? ⟨X, 2, none⟩ = some (.bool kp) := hx.cell
  have x3 : u.cell? ⟨X, 3, none⟩ = some (.int .i64 M) := hx.cell
  have x4 : u.cell? ⟨X, 4, none⟩ = some (.string B) := hx.cell
  have x5 : u.cell? ⟨X, 5, none⟩ = some (.slice a n c) := hx.cell
  have HXl : Hid (X + 1 < u.heap.size) := Lib.hid (lt_of_block hy)
  have HXu := Lib.hid hx
  have HYu := Lib.hid hy
  clear hx hy
  first | (go_region_law ((first
    | (go_simp; go_at_call 42; refine (HBy.out _).mono ?_; rintro e u1 ⟨rfl, hb1⟩; have hb1' := ((Below.refl u.heap.size u).drew).trans hb1; have w0 : u1.cell? ⟨X, 0, none⟩ = some (.string N) := (HXu.out.next hb1').cell; have w1 : u1.cell? ⟨X, 1, none⟩ = some (.int .i64 k) := (HXu.out.next hb1').cell; have w2 : u1.cell? ⟨X, 2, none⟩ = some (.bool kp) := (HXu.out.next hb1').cell; have w3 : u1.cell? ⟨X, 3, none⟩ = some (.int .i64 M) := (HXu.out.next hb1').cell; have w4 : u1.cell? ⟨X, 4, none⟩ = some (.string B) := (HXu.out.next hb1').cell; have w5 : u1.cell? ⟨X, 5, none⟩ = some (.slice a n c) := (HXu.out.next hb1').cell)
    | (go_simp; go_at_call 41; refine (HP.out _ (after HB5.out hb1')).mono ?_; rintro e v' ⟨a', c', rfl, hrow, hb2⟩; have hy : RB v' (X + 1) #[.string ⟨#[]⟩, .int .i64 0, .bool false, .int .i64 0, .string ⟨#[]⟩, .slice none 0 0] 24 := (HYu.out.next hb1').next hb2; have y0 : v'.cell? ⟨X + 1, 0, none⟩ = some (.string ⟨#[]⟩) := hy.cell; have z0 : v'.frozen? ⟨X + 1, 0, none⟩ = false := hy.frozen; have y1 : v'.cell? ⟨X + 1, 1, none⟩ = some (.int .i64 0) := hy.cell; have z1 : v'.frozen? ⟨X + 1, 1, none⟩ = false := hy.frozen; have y2 : v'.cell? ⟨X + 1, 2, none⟩ = some (.bool false) := hy.cell; have z2 : v'.frozen? ⟨X + 1, 2, none⟩ = false := hy.frozen; have y3 : v'.cell? ⟨X + 1, 3, none⟩ = some (.int .i64 0) := hy.cell; have z3 : v'.frozen? ⟨X + 1, 3, none⟩ = false := hy.frozen; have y4 : v'.cell? ⟨X + 1, 4, none⟩ = some (.string ⟨#[]⟩) := hy.cell; have z4 : v'.frozen? ⟨X + 1, 4, none⟩ = false := hy.frozen; have y5 : v'.cell? ⟨X + 1, 5, none⟩ = some (.slice none 0 0) := hy.cell; have z5 : v'.frozen? ⟨X + 1, 5, none⟩ = false := hy.frozen)))) | fail
  all_goals
    have HB6 := Lib.hid (after (after HB5.out hb1') hb2)
    have HQ := Lib.hid (gset_heap hy (.string ⟨t.name.toArray⟩) (.int .i64 t.kind) (.bool t.keep) (.int .i64 t.align) (.string ⟨t.data.toArray⟩) (.slice a' m c'))
    have HB8 := Lib.hid (gset_below HB6.out (Y := X + 1) (by rw [← HXE.out]; omega) (.string ⟨t.name.toArray⟩) (.int .i64 t.kind) (.bool t.keep) (.int .i64 t.align) (.string ⟨t.data.toArray⟩) (.slice a' m c'))
    have HR8 := Lib.hid ((gset_row hrow (Y := X + 1) (Nat.lt_of_lt_of_le HXl.out hb1'.size) (.string ⟨t.name.toArray⟩) (.int .i64 t.kind) (.bool t.keep) (.int .i64 t.align) (.string ⟨t.data.toArray⟩) (.slice a' m c')).mono (after HB5.out hb1').size)
    clear hy hrow hb1 hb1' hb2
    go_wp2
    refine bodyPost_ret (results_cell_two (P := Tryz.prog) rfl _ _ (X + 1) 24 _ (0, 0) _ (.int .i64 er) rfl HQ.out Tryz.underlying24 rfl (by kernel_rfl) rfl) rfl ?_
    exact SecR.full HR.out HM.out rfl HR8.out HB8.out
set_option maxRecDepth 100000 in
set_option maxHeartbeats 4000000 in
theorem pAlign_12 (N B : ByteArray) (k : Int) (kp : Bool) (al : Int) (a : Option Addr) (n c : Nat) (l : List Rl) (w : World) (hs : SL rlC 4 w w.heap.size a n l) (hz : a = none → n = 0 ∧ c = 0) (hN : N.size ≤ maxLen) (hBm : B.size ≤ maxLen) (hg : ∀ r ∈ l, GoodRl r) (hT : TabP w) (hsec : secR ⟨N.data.toList, k, kp, al, B.data.toList, l⟩ = true) : Calls Tryz.prog 19 #[.agg #[.string N, .int .i64 k, .bool kp, .int .i64 al, .string B, .slice a n c], .int .i64 12] w (SecR (pAlignL ⟨N.data.toList, k, kp, al, B.data.toList, l⟩ 12) w) := by
  have hBs : B.data.toList.length = B.size := by simp
  obtain ⟨-, -, -, -, -, g6, g7⟩ := head_iff.1 (sec_iff.1 hsec).1
  simp only at g6 g7
  have hln := hs.len
  obtain ⟨L, hL⟩ : ∃ L, L = lackN B.size 12 := ⟨_, rfl⟩
  have hLb : L < 4096 := by rw [hL]; exact Nat.mod_lt _ (by decide)
  obtain ⟨M, hM⟩ : ∃ M, max al 12 = M := ⟨_, rfl⟩
  obtain ⟨t, er, ht⟩ : ∃ t er, placedL ⟨N.data.toList, k, kp, M, B.data.toList, l⟩ (nulB L) [] = (t, er) := ⟨_, _, rfl⟩
  have HR : Hid (pAlignL ⟨N.data.toList, k, kp, al, B.data.toList, l⟩ 12 = (t, er)) := Lib.hid (by unfold pAlignL; rw [if_pos hsec, if_neg (by decide)]; simp only [hBs, hM]; rw [hL] at ht; exact ht)
  have b1 : bits BinOp.and IntKind.i64 (-(B.size : Int)) 4095 = (L : Int) := by rw [hL]; exact and_lack B.size 12 (by omega) (by decide)
  have b2 : IntKind.i64.wrap (-(B.size : Int)) = -(B.size : Int) := by rw [IntKind.wrap_i64]; omega
  have b3 : IntKind.i64.wrap 4096 = 4096 := rfl
  have b4 : IntKind.i64.wrap (4096 - 1) = 4095 := rfl
  obtain ⟨m, hm⟩ : ∃ m, m = t.rels.length := ⟨_, rfl⟩
  obtain ⟨D, hDD⟩ : ∃ D : ByteArray, D = ⟨(nulB L).toArray⟩ := ⟨_, rfl⟩
  have hDs : D.size = L := by rw [hDD]; show (nulB L).toArray.size = L; simp [nulB]
  have hDl : D.data.toList = nulB L := by rw [hDD]
  have HBy : Hid (∀ u, Calls Tryz.prog 42 #[.string ⟨#[0]⟩, .int .i64 (L : Int)] u (RetB (.string D) u)) := Lib.hid (fun u => by rw [hDD]; exact Rep_nul L (by omega) u)
  have HP : Hid (∀ u, Below w.heap.size w u → Calls Tryz.prog 41 #[.agg #[.string N, .int .i64 k, .bool kp, .int .i64 M, .string B, .slice a n c], .string D, .slice none 0 0] u (fun e v' => ∃ a' c', e = .returned (.tuple #[.agg #[.string ⟨t.name.toArray⟩, .int .i64 t.kind, .bool t.keep, .int .i64 t.align, .string ⟨t.data.toArray⟩, .slice a' m c'], .int .i64 er]) ∧ Row0 v' u.heap.size (.slice a' m c') m t.rels ∧ Below u.heap.size u v')) := Lib.hid (fun u hu => by
    have := placed_any N B D k kp M a none n c 0 0 l [] u (hs.next hu) hz (SL.nil _ _ _) (fun _ => ⟨rfl, rfl⟩) (by omega) (by omega) (by omega) (by omega)
    rw [hDl, ht] at this
    subst hm
    exact this)
  have HM := Lib.hid hm
  have HMx := Lib.hid hM
  have hZ := zeroSec
  have HI : Hid (∀ u, Below w.heap.size w u → Calls Tryz.prog 16 #[.agg #[.string N, .int .i64 k, .bool kp, .int .i64 al, .string B, .slice a n c]] u (RetB (.bool (secR ⟨N.data.toList, k, kp, al, B.data.toList, l⟩)) u)) := Lib.hid (fun u hu => pIs_core N B k kp al a n c l hN hBm u (hs.next hu) hg (hT.next hu))
  rw [hsec] at HI
  have HW := Lib.hid (two_rb (w := w) (A := #[.string N, .int .i64 k, .bool kp, .int .i64 al, .string B, .slice a n c]) (B := #[.string ⟨#[]⟩, .int .i64 0, .bool false, .int .i64 0, .string ⟨#[]⟩, .slice none 0 0]) (T := 24) (U := 24))
  obtain ⟨X, hX⟩ : ∃ X, X = w.heap.size := ⟨_, rfl⟩
  rw [← hX] at HW
  have HXE := Lib.hid hX
  clear g6 g7 hBs hln ht hm hDD hDs hDl hL hLb hM
  clear hs hz hN hBm hg hT hsec
  go_enter Tryz.func19, Tryz.ntmps19
  go_wp2_with fail
  rw [← hX]
  clear hX
  change Calls _ _ _ ((w.alloc (.cells #[.string N, .int .i64 k, .bool kp, .int .i64 al, .string B, .slice a n c] 24)).alloc (.cells #[.string ⟨#[]⟩, .int .i64 0, .bool false, .int .i64 0, .string ⟨#[]⟩, .slice none 0 0] 24)) _
  generalize (w.alloc (.cells #[.string N, .int .i64 k, .bool kp, .int .i64 al, .string B, .slice a n c] 24)).alloc (.cells #[.string ⟨#[]⟩, .int .i64 0, .bool false, .int .i64 0, .string ⟨#[]⟩, .slice none 0 0] 24) = W at HW ⊢
  have HB4 : Hid (Below w.heap.size w W) := Lib.hid (by have := HW.out.2.2; rw [HXE.out] at this; exact this)
  refine (HI.out _ HB4.out).mono ?_
  rintro e u0 ⟨rfl, hb⟩
  have hx : RB u0 X #[.string N, .int .i64 k, .bool kp, .int .i64 al, .string B, .slice a n c] 24 := HW.out.1.next hb
  have hy : RB u0 (X + 1) #[.string ⟨#[]⟩, .int .i64 0, .bool false, .int .i64 0, .string ⟨#[]⟩, .slice none 0 0] 24 := HW.out.2.1.next hb
  have HB5 := Lib.hid (after HB4.out hb)
  clear hb
  have x0 : u0.cell? ⟨X, 0, none⟩ = some (.string N) := hx.cell
  have x1 : u0.cell? ⟨X, 1, none⟩ = some (.int .i64 k) := hx.cell
  have x2 : u0.cell? ⟨X, 2, none⟩ = some (.bool kp) := hx.cell
  have x3 : u0.cell? ⟨X, 3, none⟩ = some (.int .i64 al) := hx.cell
  have x4 : u0.cell? ⟨X, 4, none⟩ = some (.string B) := hx.cell
  have x5 : u0.cell? ⟨X, 5, none⟩ = some (.slice a n c) := hx.cell
  go_wp2_with fail
  first | (go_region_law (fail)) | skip
  have hx0 : RB u0.drew X #[.string N, .int .i64 k, .bool kp, .int .i64 al, .string B, .slice a n c] 24 := hx.next ((Below.refl u0.heap.size u0).drew)
  clear x0 x1 x2 x3 x4 x5
  have x0 : u0.drew.cell? ⟨X, 0, none⟩ = some (.string N) := hx0.cell
  have z0 : u0.drew.frozen? ⟨X, 0, none⟩ = false := hx0.frozen
  have x1 : u0.drew.cell? ⟨X, 1, none⟩ = some (.int .i64 k) := hx0.cell
  have z1 : u0.drew.frozen? ⟨X, 1, none⟩ = false := hx0.frozen
  have x2 : u0.drew.cell? ⟨X, 2, none⟩ = some (.bool kp) := hx0.cell
  have z2 : u0.drew.frozen? ⟨X, 2, none⟩ = false := hx0.frozen
  have x3 : u0.drew.cell? ⟨X, 3, none⟩ = some (.int .i64 al) := hx0.cell
  have z3 : u0.drew.frozen? ⟨X, 3, none⟩ = false := hx0.frozen
  have x4 : u0.drew.cell? ⟨X, 4, none⟩ = some (.string B) := hx0.cell
  have z4 : u0.drew.frozen? ⟨X, 4, none⟩ = false := hx0.frozen
  have x5 : u0.drew.cell? ⟨X, 5, none⟩ = some (.slice a n c) := hx0.cell
  have z5 : u0.drew.frozen? ⟨X, 5, none⟩ = false := hx0.frozen
  have hM := HMx.out
  go_wp2_with fail
  simp only [b1]
  clear x0 x1 x2 x3 x4 x5 z0 z1 z2 z3 z4 z5 hM
  have hx1 : RB (u0.setCell ⟨X, 3, none⟩ (.int .i64 M)) X #[.string N, .int .i64 k, .bool kp, .int .i64 M, .string B, .slice a n c] 24 := RB.set (j := 3) hx (.int .i64 M)
  have hy1 : RB (u0.setCell ⟨X, 3, none⟩ (.int .i64 M)) (X + 1) #[.string ⟨#[]⟩, .int .i64 0, .bool false, .int .i64 0, .string ⟨#[]⟩, .slice none 0 0] 24 := (Below.heap_setCell _ _ _ _ (by simp)).trans hy
  have HB7 := Lib.hid ((HB5.out.setCell (p := ⟨X, 3, none⟩) (by show _ ≤ X; rw [HXE.out]; exact Nat.le_refl _) (.int .i64 M)).drew)
  have hx2 : RB (u0.setCell ⟨X, 3, none⟩ (.int .i64 M)).drew X #[.string N, .int .i64 k, .bool kp, .int .i64 M, .string B, .slice a n c] 24 := hx1.next ((Below.refl _ _).drew)
  have hy2 : RB (u0.setCell ⟨X, 3, none⟩ (.int .i64 M)).drew (X + 1) #[.string ⟨#[]⟩, .int .i64 0, .bool false, .int .i64 0, .string ⟨#[]⟩, .slice none 0 0] 24 := hy1.next ((Below.refl _ _).drew)
  clear hx0 hx1 hy1 hx hy
  generalize (u0.setCell ⟨X, 3, none⟩ (.int .i64 M)).drew = u at hx2 hy2 HB7 ⊢
  have hx := hx2
  have hy := hy2
  clear hx2 hy2
  have HB5 := HB7
  have x0 : u.cell? ⟨X, 0, none⟩ = some (.string N) := hx.cell
  have x1 : u.cell? ⟨X, 1, none⟩ = some (.int .i64 k) := hx.cell
  have x2 : u.cell? ⟨X, 2, none⟩ = some (.bool kp) := hx.cell
  have x3 : u.cell? ⟨X, 3, none⟩ = some (.int .i64 M) := hx.cell
  have x4 : u.cell? ⟨X, 4, none⟩ = some (.string B) := hx.cell
  have x5 : u.cell? ⟨X, 5, none⟩ = some (.slice a n c) := hx.cell
  have HXl : Hid (X + 1 < u.heap.size) := Lib.hid (lt_of_block hy)
  have HXu := Lib.hid hx
  have HYu := Lib.hid hy
  clear hx hy
  first | (go_region_law ((first
    | (go_simp; go_at_call 42; refine (HBy.out _).mono ?_; rintro e u1 ⟨rfl, hb1⟩; have hb1' := ((Below.refl u.heap.size u).drew).trans hb1; have w0 : u1.cell? ⟨X, 0, none⟩ = some (.string N) := (HXu.out.next hb1').cell; have w1 : u1.cell? ⟨X, 1, none⟩ = some (.int .i64 k) := (HXu.out.next hb1').cell; have w2 : u1.cell? ⟨X, 2, none⟩ = some (.bool kp) := (HXu.out.next hb1').cell; have w3 : u1.cell? ⟨X, 3, none⟩ = some (.int .i64 M) := (HXu.out.next hb1').cell; have w4 : u1.cell? ⟨X, 4, none⟩ = some (.string B) := (HXu.out.next hb1').cell; have w5 : u1.cell? ⟨X, 5, none⟩ = some (.slice a n c) := (HXu.out.next hb1').cell)
    | (go_simp; go_at_call 41; refine (HP.out _ (after HB5.out hb1')).mono ?_; rintro e v' ⟨a', c', rfl, hrow, hb2⟩; have hy : RB v' (X + 1) #[.string ⟨#[]⟩, .int .i64 0, .bool false, .int .i64 0, .string ⟨#[]⟩, .slice none 0 0] 24 := (HYu.out.next hb1').next hb2; have y0 : v'.cell? ⟨X + 1, 0, none⟩ = some (.string ⟨#[]⟩) := hy.cell; have z0 : v'.frozen? ⟨X + 1, 0, none⟩ = false := hy.frozen; have y1 : v'.cell? ⟨X + 1, 1, none⟩ = some (.int .i64 0) := hy.cell; have z1 : v'.frozen? ⟨X + 1, 1, none⟩ = false := hy.frozen; have y2 : v'.cell? ⟨X + 1, 2, none⟩ = some (.bool false) := hy.cell; have z2 : v'.frozen? ⟨X + 1, 2, none⟩ = false := hy.frozen; have y3 : v'.cell? ⟨X + 1, 3, none⟩ = some (.int .i64 0) := hy.cell; have z3 : v'.frozen? ⟨X + 1, 3, none⟩ = false := hy.frozen; have y4 : v'.cell? ⟨X + 1, 4, none⟩ = some (.string ⟨#[]⟩) := hy.cell; have z4 : v'.frozen? ⟨X + 1, 4, none⟩ = false := hy.frozen; have y5 : v'.cell? ⟨X + 1, 5, none⟩ = some (.slice none 0 0) := hy.cell; have z5 : v'.frozen? ⟨X + 1, 5, none⟩ = false := hy.frozen)))) | fail
  all_goals
    have HB6 := Lib.hid (after (after HB5.out hb1') hb2)
    have HQ := Lib.hid (gset_heap hy (.string ⟨t.name.toArray⟩) (.int .i64 t.kind) (.bool t.keep) (.int .i64 t.align) (.string ⟨t.data.toArray⟩) (.slice a' m c'))
    have HB8 := Lib.hid (gset_below HB6.out (Y := X + 1) (by rw [← HXE.out]; omega) (.string ⟨t.name.toArray⟩) (.int .i64 t.kind) (.bool t.keep) (.int .i64 t.align) (.string ⟨t.data.toArray⟩) (.slice a' m c'))
    have HR8 := Lib.hid ((gset_row hrow (Y := X + 1) (Nat.lt_of_lt_of_le HXl.out hb1'.size) (.string ⟨t.name.toArray⟩) (.int .i64 t.kind) (.bool t.keep) (.int .i64 t.align) (.string ⟨t.data.toArray⟩) (.slice a' m c')).mono (after HB5.out hb1').size)
    clear hy hrow hb1 hb1' hb2
    go_wp2
    refine bodyPost_ret (results_cell_two (P := Tryz.prog) rfl _ _ (X + 1) 24 _ (0, 0) _ (.int .i64 er) rfl HQ.out Tryz.underlying24 rfl (by kernel_rfl) rfl) rfl ?_
    exact SecR.full HR.out HM.out rfl HR8.out HB8.out
open Go.ChangeShapes Go.WideShapes Go.Deep Go.RowKit

theorem pAlign_any (N B : ByteArray) (k : Int) (kp : Bool) (al : Int) (a : Option Addr) (n c : Nat) (l : List Rl) (x : Int) (w : World) (hs : SL rlC 4 w w.heap.size a n l) (hz : a = none → n = 0 ∧ c = 0) (hN : N.size ≤ maxLen) (hBm : B.size ≤ maxLen) (hg : ∀ r ∈ l, GoodRl r) (hT : TabP w) : Calls Tryz.prog 19 #[.agg #[.string N, .int .i64 k, .bool kp, .int .i64 al, .string B, .slice a n c], .int .i64 x] w (SecR (pAlignL ⟨N.data.toList, k, kp, al, B.data.toList, l⟩ x) w) := by
  cases hsec : secR ⟨N.data.toList, k, kp, al, B.data.toList, l⟩
  · exact pAlign_no N B k kp al a n c l x w hs hz hN hBm hg hT hsec
  · by_cases hx0 : x < 0
    · exact pAlign_low N B k kp al a n c l x w hs hz hN hBm hg hT hsec hx0
    · by_cases hx1 : 12 < x
      · exact pAlign_high N B k kp al a n c l x w hs hz hN hBm hg hT hsec hx0 hx1
      · obtain h | h | h | h | h | h | h | h | h | h | h | h | h : x = 0 ∨ x = 1 ∨ x = 2 ∨ x = 3 ∨ x = 4 ∨ x = 5 ∨ x = 6 ∨ x = 7 ∨ x = 8 ∨ x = 9 ∨ x = 10 ∨ x = 11 ∨ x = 12 := by omega
        · subst h; exact pAlign_0 N B k kp al a n c l w hs hz hN hBm hg hT hsec
        · subst h; exact pAlign_1 N B k kp al a n c l w hs hz hN hBm hg hT hsec
        · subst h; exact pAlign_2 N B k kp al a n c l w hs hz hN hBm hg hT hsec
        · subst h; exact pAlign_3 N B k kp al a n c l w hs hz hN hBm hg hT hsec
        · subst h; exact pAlign_4 N B k kp al a n c l w hs hz hN hBm hg hT hsec
        · subst h; exact pAlign_5 N B k kp al a n c l w hs hz hN hBm hg hT hsec
        · subst h; exact pAlign_6 N B k kp al a n c l w hs hz hN hBm hg hT hsec
        · subst h; exact pAlign_7 N B k kp al a n c l w hs hz hN hBm hg hT hsec
        · subst h; exact pAlign_8 N B k kp al a n c l w hs hz hN hBm hg hT hsec
        · subst h; exact pAlign_9 N B k kp al a n c l w hs hz hN hBm hg hT hsec
        · subst h; exact pAlign_10 N B k kp al a n c l w hs hz hN hBm hg hT hsec
        · subst h; exact pAlign_11 N B k kp al a n c l w hs hz hN hBm hg hT hsec
        · subst h; exact pAlign_12 N B k kp al a n c l w hs hz hN hBm hg hT hsec
end Go.Proofs.YtmlofdolenmkoaaGreatDoor
