/- PartRel: a relocation. -/
import Derived.Test.YtmlofdolenmkoaaGreatDoorkQA
namespace Go.Proofs.YtmlofdolenmkoaaGreatDoor
set_option linter.unusedVariables false
set_option linter.unusedSimpArgs false
open Go.ChangeShapes Go.WideShapes Go.Deep Go.RowKit

set_option maxRecDepth 100000 in
set_option maxHeartbeats 2000000 in
theorem pRel_rel (N B : ByteArray) (k : Int) (kp : Bool) (al : Int) (a : Option Addr) (n c : Nat) (l : List Rl) (v : Nat) (hv : v < 4294967296) (kind sym add : Int) (w : World) (hs : SL rlC 4 w w.heap.size a n l) (hz : a = none → n = 0 ∧ c = 0) (hg : GoodB N k al B l) (hkk : i64ok kind) (hks : i64ok sym) (hka : i64ok add) (hT : TabP w) (hbig : bigS B.size n N.size = false) (NT BT : ByteArray) (kT : Int) (kpT : Bool) (alT : Int) (nT : Nat) (lT : List Rl) (er : Int) (ht : pWordL ⟨N.data.toList, k, kp, al, B.data.toList, l⟩ v kind sym add = (⟨NT.data.toList, kT, kpT, alT, BT.data.toList, lT⟩, er)) (hm : nT = lT.length) (i0 i1 i2 i3 i4 i5 i6 i7 i8 i9 f : Int) (hd : dI v = (⟨i0, i1, i2, i3, i4, i5, i6, i7, i8, i9⟩, f)) (he : er = 0) (hk0 : kind ≠ 0) : Calls Tryz.prog 6 #[.agg #[.string N, .int .i64 k, .bool kp, .int .i64 al, .string B, .slice a n c], .int .u32 (v : Int), .int .i64 kind, .int .i64 sym, .int .i64 add] w (RetB (.bool true) w) := by
  subst he
  obtain ⟨hsec, -, hsecT, hh⟩ := word_right hv ht
  obtain ⟨hk1, hfit, hsym, hT'⟩ : k = 1 ∧ fitsI kind (readW v) = true ∧ 0 ≤ sym ∧ (⟨NT.data.toList, kT, kpT, alT, BT.data.toList, lT⟩ : Sc) = ⟨N.data.toList, k, kp, al, B.data.toList ++ leB 4 v, l ++ [⟨B.data.toList.length, kind, sym, add⟩]⟩ := by
    rcases hh with ⟨h, -⟩ | ⟨-, h1, h2, h3, h4⟩
    · exact absurd h hk0
    · exact ⟨h1, h2, h3, h4⟩
  clear hh
  subst hk1
  simp only [Sc.mk.injEq] at hT'
  obtain ⟨e1, e2, e3, e4, e5, e6⟩ := hT'
  obtain ⟨-, hisI, himm⟩ := fits_kind hfit
  have hdd : dI v = (readW v, 0) := by unfold dI; rw [if_pos hisI]
  rw [hd] at hdd
  obtain ⟨hd1, hd2⟩ := Prod.mk.inj hdd
  subst hd2
  have h5 : i5 = 0 := by rw [← hd1] at himm; exact himm
  subst h5
  clear hdd hd1 himm hisI
  rw [ba_size] at e6
  have hnT : nT = n + 1 := by rw [hm, e6, List.length_append, ← hs.len]; rfl
  have hBT : BT.size = B.size + 4 := by rw [← ba_size BT, e5, List.length_append, leB_len, ba_size]
  obtain ⟨d1, d2, d3, d4, d5, d6, d7⟩ := head_iff.1 (sec_iff.1 hsecT).1
  simp only [ba_size] at d6 d7
  have hsecU : secR ⟨NT.data.toList, kT, kpT, alT, BT.data.toList, l⟩ = true := by
    obtain ⟨g1, g2, g3, g4, g5, g6, g7⟩ := head_iff.1 (sec_iff.1 hsec).1
    refine sec_iff.2 ⟨head_iff.2 ⟨d1, d2, d3, d4, d5, by simp only [ba_size]; exact d6, g7⟩, ?_⟩
    simp only []
    rw [e2, e5]
    exact rels_app (by omega) (sec_iff.1 hsec).2
  have hgT : NT.size ≤ maxLen ∧ BT.size ≤ maxLen := by
    refine ⟨?_, by unfold maxLen; omega⟩
    rw [← ba_size, e1, ba_size]; exact hg.name
  have HIs : Hid (∀ u, Below w.heap.size w u → Calls Tryz.prog 16 #[.agg #[.string NT, .int .i64 kT, .bool kpT, .int .i64 alT, .string BT, .slice a n c]] u (RetB (.bool true) u)) := Lib.hid fun u hu => by
    have := pIs_core NT BT kT kpT alT a n c l hgT.1 hgT.2 u (hs.next hu) hg.rels (hT.next hu)
    rwa [hsecU] at this
  have HF : Hid (∀ u, TabP u → Calls Tryz.prog 24 #[.int .i64 kind, .int .u32 (v : Int)] u (RetB (.bool true) u)) := Lib.hid fun u hu => by
    have := Fits_any kind v u hkk.1 hkk.2 hv hu.1
    rwa [hfit] at this
  have hlast : ∀ (h : n < lT.length), lT[n] = ⟨(B.size : Int), kind, sym, add⟩ := fun h => by
    have hn : n = l.length := hs.len
    subst e6 hn
    simp
  have HLast := Lib.hid hlast
  have HlT : Hid (n < lT.length) := Lib.hid (by omega)
  have heq : ∀ w, (Sem.run Tryz.prog (binOp BinOp.eql 48 (.agg #[.int .i64 (B.size : Int), .int .i64 kind, .int .i64 sym, .int .i64 add]) (.agg #[.int .i64 (B.size : Int), .int .i64 kind, .int .i64 sym, .int .i64 add])) w) = Result.ok (.bool true) w := fun w => (eql_rl ⟨B.size, kind, sym, add⟩ ⟨B.size, kind, sym, add⟩ w).trans (by rw [sameRl_iff.2 rfl])
  have rk1 : (kind == 0) = false := by simp; exact hk0
  have rk2 : (kind != 0) = true := by simp [bne_iff_ne]; exact hk0
  have HBig : Hid (∀ u, Calls Tryz.prog 17 #[.agg #[.string N, .int .i64 1, .bool kp, .int .i64 al, .string B, .slice a n c]] u (RetB (.bool false) u)) := Lib.hid fun u => by
    have := rBig_any N B 1 kp al a n c u
    rwa [hbig] at this
  have HB : Hid (Below w.heap.size w w) := Lib.hid (Below.refl _ w)
  have HT := Lib.hid hT
  have HS := Lib.hid hs
  have HG := Lib.hid (fun u (hu : TabP u) => grown_is u hu)
  have HW : Hid (∀ u, Below w.heap.size w u → Calls Tryz.prog 20 #[.agg #[.string N, .int .i64 1, .bool kp, .int .i64 al, .string B, .slice a n c], .int .u32 (v : Int), .int .i64 kind, .int .i64 sym, .int .i64 add] u (GotB u NT kT kpT alT BT nT lT 0)) := Lib.hid fun u hu =>
    (pWord_any N B 1 kp al a n c l v hv kind sym add u (hs.next hu) hz hg.name hg.data hg.rels hkk (hT.next hu)).mono fun e v h => h.got ht hm
  have HD : Hid (∀ u, TabP u → Calls Tryz.prog 23 #[.int .u32 (v : Int)] u (RetB (.tuple #[.agg #[.int .i64 i0, .int .i64 i1, .int .i64 i2, .int .i64 i3, .int .i64 i4, .int .i64 0, .int .u64 i6, .int .i64 i7, .int .i64 i8, .int .i64 i9], .int .i64 0]) u)) := Lib.hid fun u hu => by
    have := CDecode_any v hv u hu.1.1
    rw [hd] at this
    exact this
  have hBw : IntKind.i64.wrap ((B.size : Int) + 4) = (BT.size : Int) := by rw [IntKind.wrap_i64]; omega
  have hnw : IntKind.i64.wrap ((n : Int) + 1) = (nT : Int) := by rw [IntKind.wrap_i64]; omega
  have hlt : (n : Int) < (nT : Int) := by omega
  have hltn : n < nT := by omega
  have HN := Lib.hid hnT
  clear d1 d2 d3 d4 d5 d6 d7 hk0 hsec hsecT hsecU hfit hsym hgT hlast e1 e2 e3 e4 e5 e6 hnT hBT
  clear hv hs hz hg hkk hks hka hT hbig ht hm hd
  go_enter Tryz.func6, Tryz.ntmps6
  obtain ⟨X, hX⟩ : ∃ X, X = w.heap.size := ⟨_, rfl⟩
  have HEX := Lib.hid hX
  have HA : Hid (Below w.heap.size w (w.alloc (.cells #[.string N, .int .i64 1, .bool kp, .int .i64 al, .string B, .slice a n c] 24))) := Lib.hid ((Below.refl _ w).alloc (Nat.le_refl _) _)
  have HRX : Hid (RB (w.alloc (.cells #[.string N, .int .i64 1, .bool kp, .int .i64 al, .string B, .slice a n c] 24)) X #[.string N, .int .i64 1, .bool kp, .int .i64 al, .string B, .slice a n c] 24) := Lib.hid (by rw [hX]; exact (MapKept.heap_alloc w _).1)
  clear hX
  go_wp2_with fail
  try rw [← HEX.out]
  generalize (w.alloc (.cells #[.string N, .int .i64 1, .bool kp, .int .i64 al, .string B, .slice a n c] 24)) = W at HA HRX ⊢
  replace HB : Hid (Below w.heap.size w W) := Lib.hid (after HB.out HA.out)
  clear HA HEX
  refine (HBig.out _).mono ?_
  rintro e u ⟨rfl, hb⟩
  replace HB := Lib.hid (after HB.out hb)
  replace HRX := Lib.hid (HRX.out.next hb)
  clear hb
  have x_0 : u.cell? ⟨X, 0, none⟩ = some (.string N) := HRX.out.cell
  have x_1 : u.cell? ⟨X, 1, none⟩ = some (.int .i64 1) := HRX.out.cell
  have x_2 : u.cell? ⟨X, 2, none⟩ = some (.bool kp) := HRX.out.cell
  have x_3 : u.cell? ⟨X, 3, none⟩ = some (.int .i64 al) := HRX.out.cell
  have x_4 : u.cell? ⟨X, 4, none⟩ = some (.string B) := HRX.out.cell
  have x_5 : u.cell? ⟨X, 5, none⟩ = some (.slice a n c) := HRX.out.cell
  go_wp2_with fail
  clear x_0 x_1 x_2 x_3 x_4 x_5
  refine (HW.out _ HB.out).mono ?_
  rintro e u ⟨aT, cT, rfl, hs, hz, hc, hb⟩
  replace HB := Lib.hid (after HB.out hb)
  replace HRX := Lib.hid (HRX.out.next hb)
  have HST := Lib.hid hs
  clear hb hs hz hc
  obtain ⟨Y, hY⟩ : ∃ Y, Y = u.heap.size := ⟨_, rfl⟩
  have HEY := Lib.hid hY
  have HA : Hid (Below u.heap.size u (u.alloc (.cells #[.string NT, .int .i64 kT, .bool kpT, .int .i64 alT, .string BT, .slice aT nT cT] 24))) := Lib.hid ((Below.refl _ u).alloc (Nat.le_refl _) _)
  have HRY : Hid (RB (u.alloc (.cells #[.string NT, .int .i64 kT, .bool kpT, .int .i64 alT, .string BT, .slice aT nT cT] 24)) Y #[.string NT, .int .i64 kT, .bool kpT, .int .i64 alT, .string BT, .slice aT nT cT] 24) := Lib.hid (by rw [hY]; exact (MapKept.heap_alloc u _).1)
  clear hY
  replace HRX := Lib.hid (HRX.out.next HA.out)
  replace HST := Lib.hid (HST.out.next HA.out)
  go_wp2_with fail
  try rw [← HEY.out]
  generalize (u.alloc (.cells #[.string NT, .int .i64 kT, .bool kpT, .int .i64 alT, .string BT, .slice aT nT cT] 24)) = W at HA HRX HRY HST ⊢
  replace HB : Hid (Below w.heap.size w W) := Lib.hid (after HB.out HA.out)
  clear HA HEY
  refine (HD.out _ (HT.out.next HB.out)).mono ?_
  rintro e u ⟨rfl, hb⟩
  replace HB := Lib.hid (after HB.out hb)
  replace HRX := Lib.hid (HRX.out.next hb)
  replace HRY := Lib.hid (HRY.out.next hb)
  replace HST := Lib.hid (HST.out.next hb)
  clear hb
  obtain ⟨b, off, haT, hbT, hcT⟩ := HST.out.cells (HST.out.ne (k := n) (by have := HlT.out; have := HST.out.len; omega))
  subst haT
  obtain ⟨c0, c1, c2, c3⟩ := rl_cells (fun j hj => hcT n HlT.out j hj)
  rw [HLast.out HlT.out] at c0 c1 c2 c3
  simp only [] at c0 c1 c2 c3
  clear hcT
  obtain ⟨H, hH⟩ : ∃ H, H = u.heap.size := ⟨_, rfl⟩
  have HH := Lib.hid hH
  have HA1 : Hid (Below u.heap.size u (u.alloc (.cells #[.int .i64 i0, .int .i64 i1, .int .i64 i2, .int .i64 i3, .int .i64 i4, .int .i64 0, .int .u64 i6, .int .i64 i7, .int .i64 i8, .int .i64 i9] 44))) := Lib.hid ((Below.refl _ u).alloc (Nat.le_refl _) _)
  have HA2 : Hid (Below u.heap.size u ((u.alloc (.cells #[.int .i64 i0, .int .i64 i1, .int .i64 i2, .int .i64 i3, .int .i64 i4, .int .i64 0, .int .u64 i6, .int .i64 i7, .int .i64 i8, .int .i64 i9] 44)).alloc (.cells #[.int .i64 (B.size : Int), .int .i64 kind, .int .i64 sym, .int .i64 add] 48))) := Lib.hid (HA1.out.alloc HA1.out.size _)
  have HA3 : Hid (Below u.heap.size u (((u.alloc (.cells #[.int .i64 i0, .int .i64 i1, .int .i64 i2, .int .i64 i3, .int .i64 i4, .int .i64 0, .int .u64 i6, .int .i64 i7, .int .i64 i8, .int .i64 i9] 44)).alloc (.cells #[.int .i64 (B.size : Int), .int .i64 kind, .int .i64 sym, .int .i64 add] 48)).alloc (.cells #[.string NT, .int .i64 kT, .bool kpT, .int .i64 alT, .string BT, .slice a n c] 24))) := Lib.hid (HA2.out.alloc HA2.out.size _)
  have HA4 : Hid (Below u.heap.size u (((u.alloc (.cells #[.int .i64 i0, .int .i64 i1, .int .i64 i2, .int .i64 i3, .int .i64 i4, .int .i64 0, .int .u64 i6, .int .i64 i7, .int .i64 i8, .int .i64 i9] 44)).alloc (.cells #[.int .i64 (B.size : Int), .int .i64 kind, .int .i64 sym, .int .i64 add] 48)).alloc (.cells #[.string NT, .int .i64 kT, .bool kpT, .int .i64 alT, .string BT, .slice (some ⟨b, off, none⟩) nT cT] 24))) := Lib.hid (HA2.out.alloc HA2.out.size _)
  have HRR : Hid (RB ((u.alloc (.cells #[.int .i64 i0, .int .i64 i1, .int .i64 i2, .int .i64 i3, .int .i64 i4, .int .i64 0, .int .u64 i6, .int .i64 i7, .int .i64 i8, .int .i64 i9] 44)).alloc (.cells #[.int .i64 (B.size : Int), .int .i64 kind, .int .i64 sym, .int .i64 add] 48)) (H + 1) #[.int .i64 (B.size : Int), .int .i64 kind, .int .i64 sym, .int .i64 add] 48) := Lib.hid (by unfold RB; rw [hH, show u.heap.size + 1 = (u.alloc (.cells #[.int .i64 i0, .int .i64 i1, .int .i64 i2, .int .i64 i3, .int .i64 i4, .int .i64 0, .int .u64 i6, .int .i64 i7, .int .i64 i8, .int .i64 i9] 44)).heap.size from (World.size_alloc _ _).symm]; exact (MapKept.heap_alloc _ _).1)
  have HRU : Hid (RB (((u.alloc (.cells #[.int .i64 i0, .int .i64 i1, .int .i64 i2, .int .i64 i3, .int .i64 i4, .int .i64 0, .int .u64 i6, .int .i64 i7, .int .i64 i8, .int .i64 i9] 44)).alloc (.cells #[.int .i64 (B.size : Int), .int .i64 kind, .int .i64 sym, .int .i64 add] 48)).alloc (.cells #[.string NT, .int .i64 kT, .bool kpT, .int .i64 alT, .string BT, .slice a n c] 24)) (H + 1 + 1) #[.string NT, .int .i64 kT, .bool kpT, .int .i64 alT, .string BT, .slice a n c] 24) := Lib.hid (by unfold RB; rw [hH, show u.heap.size + 1 + 1 = ((u.alloc (.cells #[.int .i64 i0, .int .i64 i1, .int .i64 i2, .int .i64 i3, .int .i64 i4, .int .i64 0, .int .u64 i6, .int .i64 i7, .int .i64 i8, .int .i64 i9] 44)).alloc (.cells #[.int .i64 (B.size : Int), .int .i64 kind, .int .i64 sym, .int .i64 add] 48)).heap.size from by rw [World.size_alloc, World.size_alloc]]; exact (MapKept.heap_alloc _ _).1)
  replace HRR : Hid (RB (((u.alloc (.cells #[.int .i64 i0, .int .i64 i1, .int .i64 i2, .int .i64 i3, .int .i64 i4, .int .i64 0, .int .u64 i6, .int .i64 i7, .int .i64 i8, .int .i64 i9] 44)).alloc (.cells #[.int .i64 (B.size : Int), .int .i64 kind, .int .i64 sym, .int .i64 add] 48)).alloc (.cells #[.string NT, .int .i64 kT, .bool kpT, .int .i64 alT, .string BT, .slice a n c] 24)) (H + 1) #[.int .i64 (B.size : Int), .int .i64 kind, .int .i64 sym, .int .i64 add] 48) := Lib.hid (HRR.out.next ((Below.refl _ _).alloc (Nat.le_refl _) _))
  have i_5 : (u.alloc (.cells #[.int .i64 i0, .int .i64 i1, .int .i64 i2, .int .i64 i3, .int .i64 i4, .int .i64 0, .int .u64 i6, .int .i64 i7, .int .i64 i8, .int .i64 i9] 44)).cell? ⟨H, 5, none⟩ = some (.int .i64 0) := by
    have : RB (u.alloc (.cells #[.int .i64 i0, .int .i64 i1, .int .i64 i2, .int .i64 i3, .int .i64 i4, .int .i64 0, .int .u64 i6, .int .i64 i7, .int .i64 i8, .int .i64 i9] 44)) H #[.int .i64 i0, .int .i64 i1, .int .i64 i2, .int .i64 i3, .int .i64 i4, .int .i64 0, .int .u64 i6, .int .i64 i7, .int .i64 i8, .int .i64 i9] 44 := by unfold RB; rw [hH]; exact (MapKept.heap_alloc _ _).1
    exact this.cell
  have px_1 : (u.alloc (.cells #[.int .i64 i0, .int .i64 i1, .int .i64 i2, .int .i64 i3, .int .i64 i4, .int .i64 0, .int .u64 i6, .int .i64 i7, .int .i64 i8, .int .i64 i9] 44)).cell? ⟨X, 1, none⟩ = some (.int .i64 1) := (HRX.out.next HA1.out).cell
  have px_5 : (u.alloc (.cells #[.int .i64 i0, .int .i64 i1, .int .i64 i2, .int .i64 i3, .int .i64 i4, .int .i64 0, .int .u64 i6, .int .i64 i7, .int .i64 i8, .int .i64 i9] 44)).cell? ⟨X, 5, none⟩ = some (.slice a n c) := (HRX.out.next HA1.out).cell
  have py_5 : (u.alloc (.cells #[.int .i64 i0, .int .i64 i1, .int .i64 i2, .int .i64 i3, .int .i64 i4, .int .i64 0, .int .u64 i6, .int .i64 i7, .int .i64 i8, .int .i64 i9] 44)).cell? ⟨Y, 5, none⟩ = some (.slice (some ⟨b, off, none⟩) nT cT) := (HRY.out.next HA1.out).cell
  have qy_0 : ((u.alloc (.cells #[.int .i64 i0, .int .i64 i1, .int .i64 i2, .int .i64 i3, .int .i64 i4, .int .i64 0, .int .u64 i6, .int .i64 i7, .int .i64 i8, .int .i64 i9] 44)).alloc (.cells #[.int .i64 (B.size : Int), .int .i64 kind, .int .i64 sym, .int .i64 add] 48)).cell? ⟨Y, 0, none⟩ = some (.string NT) := (HRY.out.next HA2.out).cell
  have qy_1 : ((u.alloc (.cells #[.int .i64 i0, .int .i64 i1, .int .i64 i2, .int .i64 i3, .int .i64 i4, .int .i64 0, .int .u64 i6, .int .i64 i7, .int .i64 i8, .int .i64 i9] 44)).alloc (.cells #[.int .i64 (B.size : Int), .int .i64 kind, .int .i64 sym, .int .i64 add] 48)).cell? ⟨Y, 1, none⟩ = some (.int .i64 kT) := (HRY.out.next HA2.out).cell
  have qy_2 : ((u.alloc (.cells #[.int .i64 i0, .int .i64 i1, .int .i64 i2, .int .i64 i3, .int .i64 i4, .int .i64 0, .int .u64 i6, .int .i64 i7, .int .i64 i8, .int .i64 i9] 44)).alloc (.cells #[.int .i64 (B.size : Int), .int .i64 kind, .int .i64 sym, .int .i64 add] 48)).cell? ⟨Y, 2, none⟩ = some (.bool kpT) := (HRY.out.next HA2.out).cell
  have qy_3 : ((u.alloc (.cells #[.int .i64 i0, .int .i64 i1, .int .i64 i2, .int .i64 i3, .int .i64 i4, .int .i64 0, .int .u64 i6, .int .i64 i7, .int .i64 i8, .int .i64 i9] 44)).alloc (.cells #[.int .i64 (B.size : Int), .int .i64 kind, .int .i64 sym, .int .i64 add] 48)).cell? ⟨Y, 3, none⟩ = some (.int .i64 alT) := (HRY.out.next HA2.out).cell
  have qy_4 : ((u.alloc (.cells #[.int .i64 i0, .int .i64 i1, .int .i64 i2, .int .i64 i3, .int .i64 i4, .int .i64 0, .int .u64 i6, .int .i64 i7, .int .i64 i8, .int .i64 i9] 44)).alloc (.cells #[.int .i64 (B.size : Int), .int .i64 kind, .int .i64 sym, .int .i64 add] 48)).cell? ⟨Y, 4, none⟩ = some (.string BT) := (HRY.out.next HA2.out).cell
  have qy_5 : ((u.alloc (.cells #[.int .i64 i0, .int .i64 i1, .int .i64 i2, .int .i64 i3, .int .i64 i4, .int .i64 0, .int .u64 i6, .int .i64 i7, .int .i64 i8, .int .i64 i9] 44)).alloc (.cells #[.int .i64 (B.size : Int), .int .i64 kind, .int .i64 sym, .int .i64 add] 48)).cell? ⟨Y, 5, none⟩ = some (.slice (some ⟨b, off, none⟩) nT cT) := (HRY.out.next HA2.out).cell
  have tx_5 : (((u.alloc (.cells #[.int .i64 i0, .int .i64 i1, .int .i64 i2, .int .i64 i3, .int .i64 i4, .int .i64 0, .int .u64 i6, .int .i64 i7, .int .i64 i8, .int .i64 i9] 44)).alloc (.cells #[.int .i64 (B.size : Int), .int .i64 kind, .int .i64 sym, .int .i64 add] 48)).alloc (.cells #[.string NT, .int .i64 kT, .bool kpT, .int .i64 alT, .string BT, .slice (some ⟨b, off, none⟩) nT cT] 24)).cell? ⟨X, 5, none⟩ = some (.slice a n c) := (HRX.out.next HA4.out).cell
  have c0' : (u.alloc (.cells #[.int .i64 i0, .int .i64 i1, .int .i64 i2, .int .i64 i3, .int .i64 i4, .int .i64 0, .int .u64 i6, .int .i64 i7, .int .i64 i8, .int .i64 i9] 44)).cell? ⟨b, off + n * 4, none⟩ = some (.int .i64 (B.size : Int)) := (HA1.out.cell hbT).trans c0
  have c1' : (u.alloc (.cells #[.int .i64 i0, .int .i64 i1, .int .i64 i2, .int .i64 i3, .int .i64 i4, .int .i64 0, .int .u64 i6, .int .i64 i7, .int .i64 i8, .int .i64 i9] 44)).cell? ⟨b, off + n * 4 + 1, none⟩ = some (.int .i64 kind) := (HA1.out.cell hbT).trans c1
  have c2' : (u.alloc (.cells #[.int .i64 i0, .int .i64 i1, .int .i64 i2, .int .i64 i3, .int .i64 i4, .int .i64 0, .int .u64 i6, .int .i64 i7, .int .i64 i8, .int .i64 i9] 44)).cell? ⟨b, off + n * 4 + 2, none⟩ = some (.int .i64 sym) := (HA1.out.cell hbT).trans c2
  have c3' : (u.alloc (.cells #[.int .i64 i0, .int .i64 i1, .int .i64 i2, .int .i64 i3, .int .i64 i4, .int .i64 0, .int .u64 i6, .int .i64 i7, .int .i64 i8, .int .i64 i9] 44)).cell? ⟨b, off + n * 4 + 3, none⟩ = some (.int .i64 add) := (HA1.out.cell hbT).trans c3
  clear c0 c1 c2 c3 hH
  go_wp2_with fail
  clear c0' c1' c2' c3' i_5 px_1 px_5 py_5 qy_0 qy_1 qy_2 qy_3 qy_4 qy_5 tx_5
  try rw [← HH.out]
  replace HRX := Lib.hid (HRX.out.next HA3.out)
  replace HRY := Lib.hid (HRY.out.next HA3.out)
  replace HST := Lib.hid (HST.out.next HA3.out)
  generalize (((u.alloc (.cells #[.int .i64 i0, .int .i64 i1, .int .i64 i2, .int .i64 i3, .int .i64 i4, .int .i64 0, .int .u64 i6, .int .i64 i7, .int .i64 i8, .int .i64 i9] 44)).alloc (.cells #[.int .i64 (B.size : Int), .int .i64 kind, .int .i64 sym, .int .i64 add] 48)).alloc (.cells #[.string NT, .int .i64 kT, .bool kpT, .int .i64 alT, .string BT, .slice a n c] 24)) = W at HA3 HRR HRU HRX HRY HST ⊢
  replace HB : Hid (Below w.heap.size w W) := Lib.hid (after HB.out HA3.out)
  clear HA1 HA2 HA3 HA4 HH
  obtain ⟨R, hR⟩ : ∃ R, R = H + 1 := ⟨_, rfl⟩
  obtain ⟨U, hU⟩ : ∃ U, U = H + 1 + 1 := ⟨_, rfl⟩
  rw [← hU] at HRU
  rw [← hR] at HRR
  rw [← hU, ← hR]
  clear hR hU
  refine (HG.out _ (HT.out.next HB.out)).mono ?_
  rintro e u ⟨rfl, hb⟩
  replace HB := Lib.hid (after HB.out hb)
  replace HRX := Lib.hid (HRX.out.next hb)
  replace HRY := Lib.hid (HRY.out.next hb)
  replace HRR := Lib.hid (HRR.out.next hb)
  replace HRU := Lib.hid (HRU.out.next hb)
  replace HST := Lib.hid (HST.out.next hb)
  clear hb
  have x_4 : u.cell? ⟨X, 4, none⟩ = some (.string B) := HRX.out.cell
  have r_0 : u.cell? ⟨R, 0, none⟩ = some (.int .i64 (B.size : Int)) := HRR.out.cell
  have r_1 : u.cell? ⟨R, 1, none⟩ = some (.int .i64 kind) := HRR.out.cell
  have r_2 : u.cell? ⟨R, 2, none⟩ = some (.int .i64 sym) := HRR.out.cell
  have r_3 : u.cell? ⟨R, 3, none⟩ = some (.int .i64 add) := HRR.out.cell
  have u_0 : u.cell? ⟨U, 0, none⟩ = some (.string NT) := HRU.out.cell
  have u_1 : u.cell? ⟨U, 1, none⟩ = some (.int .i64 kT) := HRU.out.cell
  have u_2 : u.cell? ⟨U, 2, none⟩ = some (.bool kpT) := HRU.out.cell
  have u_3 : u.cell? ⟨U, 3, none⟩ = some (.int .i64 alT) := HRU.out.cell
  have u_4 : u.cell? ⟨U, 4, none⟩ = some (.string BT) := HRU.out.cell
  have u_5 : u.cell? ⟨U, 5, none⟩ = some (.slice a n c) := HRU.out.cell
  go_wp2_with fail
  clear x_4 r_0 r_1 r_2 r_3 u_0 u_1 u_2 u_3 u_4 u_5
  refine (HIs.out _ HB.out).mono ?_
  rintro e u ⟨rfl, hb⟩
  replace HB := Lib.hid (after HB.out hb)
  replace HRX := Lib.hid (HRX.out.next hb)
  replace HRY := Lib.hid (HRY.out.next hb)
  replace HRR := Lib.hid (HRR.out.next hb)
  replace HRU := Lib.hid (HRU.out.next hb)
  replace HST := Lib.hid (HST.out.next hb)
  clear hb
  go_wp2_with fail
  refine (HF.out _ (HT.out.next HB.out)).mono ?_
  rintro e u ⟨rfl, hb⟩
  replace HB := Lib.hid (after HB.out hb)
  replace HRX := Lib.hid (HRX.out.next hb)
  replace HRY := Lib.hid (HRY.out.next hb)
  replace HRR := Lib.hid (HRR.out.next hb)
  replace HRU := Lib.hid (HRU.out.next hb)
  replace HST := Lib.hid (HST.out.next hb)
  clear hb
  have x_4 : u.cell? ⟨X, 4, none⟩ = some (.string B) := HRX.out.cell
  have y_4 : u.cell? ⟨Y, 4, none⟩ = some (.string BT) := HRY.out.cell
  go_wp2
  go_ret
  exact retB_bool rfl HB.out
theorem pRel_core (N B : ByteArray) (k : Int) (kp : Bool) (al : Int) (a : Option Addr) (n c : Nat) (l : List Rl) (v : Nat) (hv : v < 4294967296) (kind sym add : Int) (w : World) (hs : SL rlC 4 w w.heap.size a n l) (hz : a = none → n = 0 ∧ c = 0) (hg : GoodB N k al B l) (hkk : i64ok kind) (hks : i64ok sym) (hka : i64ok add) (hT : TabP w) : Calls Tryz.prog 6 #[.agg #[.string N, .int .i64 k, .bool kp, .int .i64 al, .string B, .slice a n c], .int .u32 (v : Int), .int .i64 kind, .int .i64 sym, .int .i64 add] w (RetB (.bool true) w) := by
  cases hbig : bigS B.size n N.size
  · obtain ⟨NT, BT, kT, kpT, alT, nT, lT, er, ht, hm⟩ := sec_bytes (pWordL ⟨N.data.toList, k, kp, al, B.data.toList, l⟩ v kind sym add)
    rcases hd : dI v with ⟨⟨i0, i1, i2, i3, i4, i5, i6, i7, i8, i9⟩, f⟩
    by_cases he : er = 0
    · by_cases hk0 : kind = 0
      · exact pRel_bare N B k kp al a n c l v hv kind sym add w hs hz hg hkk hks hka hT hbig NT BT kT kpT alT nT lT er ht hm i0 i1 i2 i3 i4 i5 i6 i7 i8 i9 f hd he hk0
      · exact pRel_rel N B k kp al a n c l v hv kind sym add w hs hz hg hkk hks hka hT hbig NT BT kT kpT alT nT lT er ht hm i0 i1 i2 i3 i4 i5 i6 i7 i8 i9 f hd he hk0
    · exact pRel_err N B k kp al a n c l v hv kind sym add w hs hz hg hkk hks hka hT hbig NT BT kT kpT alT nT lT er ht hm i0 i1 i2 i3 i4 i5 i6 i7 i8 i9 f hd he
  · exact pRel_big N B k kp al a n c l v hv kind sym add w hs hz hg hkk hks hka hT hbig
theorem PartRel_walk (w : World) (s : Sc) (a : Option Addr) (n c : Nat) (hg : GoodSc s) (hs : SL rlC 4 w w.heap.size a n s.rels) (hz : a = none → n = 0 ∧ c = 0) (hnc : n ≤ c) (hn : n ≤ maxLen) (v : Int) (hv : 0 ≤ v ∧ v < 4294967296) (kind : Int) (hk : -9223372036854775808 ≤ kind ∧ kind ≤ 9223372036854775807) (sym : Int) (hs2 : -9223372036854775808 ≤ sym ∧ sym ≤ 9223372036854775807) (add : Int) (ha : -9223372036854775808 ≤ add ∧ add ≤ 9223372036854775807) (hT : TabP w) :
    Calls Tryz.prog 6 #[scV s a n c, .int .u32 v, .int .i64 kind, .int .i64 sym, .int .i64 add] w (RetB (.bool true) w) := by
  obtain ⟨x, rfl⟩ : ∃ x : Nat, v = x := ⟨v.toNat, by omega⟩
  exact pRel_core ⟨s.name.toArray⟩ ⟨s.data.toArray⟩ s.kind s.keep s.align a n c s.rels x (by omega) kind sym add w hs hz (GoodSc.b (kp := s.keep) hg) hk hs2 ha hT
end Go.Proofs.YtmlofdolenmkoaaGreatDoor
