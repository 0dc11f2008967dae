/- PartRel. -/
import Derived.Test.YtmlofdolenmkoaaGreatDoorkXE
import Derived.Test.YtmlofdolenmkoaaGreatDoorkC13
namespace Go.Proofs.YtmlofdolenmkoaaGreatDoor
set_option linter.unusedVariables false
set_option linter.unusedSimpArgs false
open Go.ChangeShapes Go.WideShapes Go.Deep Go.RowKit

set_option maxRecDepth 100000 in
set_option maxHeartbeats 600000 in
theorem pRel_big (N B : ByteArray) (k : Int) (kp : Bool) (al : Int) (a : Option Addr) (n c : Nat) (l : List Rl) (v : Nat) (hv : v < 4294967296) (kind sym add : Int) (w : World) (hs : SL rlC 4 w w.heap.size a n l) (hz : a = none → n = 0 ∧ c = 0) (hg : GoodB N k al B l) (hkk : i64ok kind) (hks : i64ok sym) (hka : i64ok add) (hT : TabP w) (hbig : bigS B.size n N.size = true) : Calls Tryz.prog 6 #[.agg #[.string N, .int .i64 k, .bool kp, .int .i64 al, .string B, .slice a n c], .int .u32 (v : Int), .int .i64 kind, .int .i64 sym, .int .i64 add] w (RetB (.bool true) w) := by
  have HBig : Hid (∀ u, Calls Tryz.prog 17 #[.agg #[.string N, .int .i64 k, .bool kp, .int .i64 al, .string B, .slice a n c]] u (RetB (.bool true) u)) := Lib.hid fun u => by
    have := rBig_any N B k kp al a n c u
    rwa [hbig] at this
  have HB : Hid (Below w.heap.size w w) := Lib.hid (Below.refl _ w)
  have HT := Lib.hid hT
  have HS := Lib.hid hs
  have HG := Lib.hid (fun u (hu : TabP u) => grown_is u hu)
  clear hv hs hz hg hkk hks hka hT hbig HT HS HG
  go_enter Tryz.func6, Tryz.ntmps6
  obtain ⟨X, hX⟩ : ∃ X, X = w.heap.size := ⟨_, rfl⟩
  have HEX := Lib.hid hX
  have HA : Hid (Below w.heap.size w (w.alloc (.cells #[.string N, .int .i64 k, .bool kp, .int .i64 al, .string B, .slice a n c] 24))) := Lib.hid ((Below.refl _ w).alloc (Nat.le_refl _) _)
  have HRX : Hid (RB (w.alloc (.cells #[.string N, .int .i64 k, .bool kp, .int .i64 al, .string B, .slice a n c] 24)) X #[.string N, .int .i64 k, .bool kp, .int .i64 al, .string B, .slice a n c] 24) := Lib.hid (by rw [hX]; exact (MapKept.heap_alloc w _).1)
  clear hX
  go_wp2_with fail
  try rw [← HEX.out]
  generalize (w.alloc (.cells #[.string N, .int .i64 k, .bool kp, .int .i64 al, .string B, .slice a n c] 24)) = W at HA HRX ⊢
  replace HB : Hid (Below w.heap.size w W) := Lib.hid (after HB.out HA.out)
  clear HA HEX
  refine (HBig.out _).mono ?_
  rintro e u ⟨rfl, hb⟩
  replace HB := Lib.hid (after HB.out hb)
  replace HRX := Lib.hid (HRX.out.next hb)
  clear hb
  go_wp2
  go_ret
  exact retB_bool rfl HB.out
set_option maxRecDepth 100000 in
set_option maxHeartbeats 600000 in
theorem pRel_err (N B : ByteArray) (k : Int) (kp : Bool) (al : Int) (a : Option Addr) (n c : Nat) (l : List Rl) (v : Nat) (hv : v < 4294967296) (kind sym add : Int) (w : World) (hs : SL rlC 4 w w.heap.size a n l) (hz : a = none → n = 0 ∧ c = 0) (hg : GoodB N k al B l) (hkk : i64ok kind) (hks : i64ok sym) (hka : i64ok add) (hT : TabP w) (hbig : bigS B.size n N.size = false) (NT BT : ByteArray) (kT : Int) (kpT : Bool) (alT : Int) (nT : Nat) (lT : List Rl) (er : Int) (ht : pWordL ⟨N.data.toList, k, kp, al, B.data.toList, l⟩ v kind sym add = (⟨NT.data.toList, kT, kpT, alT, BT.data.toList, lT⟩, er)) (hm : nT = lT.length) (i0 i1 i2 i3 i4 i5 i6 i7 i8 i9 f : Int) (hd : dI v = (⟨i0, i1, i2, i3, i4, i5, i6, i7, i8, i9⟩, f)) (he : er ≠ 0) : Calls Tryz.prog 6 #[.agg #[.string N, .int .i64 k, .bool kp, .int .i64 al, .string B, .slice a n c], .int .u32 (v : Int), .int .i64 kind, .int .i64 sym, .int .i64 add] w (RetB (.bool true) w) := by
  have HBig : Hid (∀ u, Calls Tryz.prog 17 #[.agg #[.string N, .int .i64 k, .bool kp, .int .i64 al, .string B, .slice a n c]] u (RetB (.bool false) u)) := Lib.hid fun u => by
    have := rBig_any N B k kp al a n c u
    rwa [hbig] at this
  have HB : Hid (Below w.heap.size w w) := Lib.hid (Below.refl _ w)
  have HT := Lib.hid hT
  have HS := Lib.hid hs
  have HG := Lib.hid (fun u (hu : TabP u) => grown_is u hu)
  have HW : Hid (∀ u, Below w.heap.size w u → Calls Tryz.prog 20 #[.agg #[.string N, .int .i64 k, .bool kp, .int .i64 al, .string B, .slice a n c], .int .u32 (v : Int), .int .i64 kind, .int .i64 sym, .int .i64 add] u (GotB u NT kT kpT alT BT nT lT er)) := Lib.hid fun u hu =>
    (pWord_any N B k kp al a n c l v hv kind sym add u (hs.next hu) hz hg.name hg.data hg.rels hkk (hT.next hu)).mono fun e v h => h.got ht hm
  have HD : Hid (∀ u, TabP u → Calls Tryz.prog 23 #[.int .u32 (v : Int)] u (RetB (.tuple #[.agg #[.int .i64 i0, .int .i64 i1, .int .i64 i2, .int .i64 i3, .int .i64 i4, .int .i64 i5, .int .u64 i6, .int .i64 i7, .int .i64 i8, .int .i64 i9], .int .i64 f]) u)) := Lib.hid fun u hu => by
    have := CDecode_any v hv u hu.1.1
    rw [hd] at this
    exact this
  have r1 : (er != 0) = true := by simp [bne_iff_ne]; exact he
  have r2 : (er == 0) = false := by simp; exact he
  clear hv hs hz hg hkk hks hka hT hbig ht hm hd
  clear he
  go_enter Tryz.func6, Tryz.ntmps6
  obtain ⟨X, hX⟩ : ∃ X, X = w.heap.size := ⟨_, rfl⟩
  have HEX := Lib.hid hX
  have HA : Hid (Below w.heap.size w (w.alloc (.cells #[.string N, .int .i64 k, .bool kp, .int .i64 al, .string B, .slice a n c] 24))) := Lib.hid ((Below.refl _ w).alloc (Nat.le_refl _) _)
  have HRX : Hid (RB (w.alloc (.cells #[.string N, .int .i64 k, .bool kp, .int .i64 al, .string B, .slice a n c] 24)) X #[.string N, .int .i64 k, .bool kp, .int .i64 al, .string B, .slice a n c] 24) := Lib.hid (by rw [hX]; exact (MapKept.heap_alloc w _).1)
  clear hX
  go_wp2_with fail
  try rw [← HEX.out]
  generalize (w.alloc (.cells #[.string N, .int .i64 k, .bool kp, .int .i64 al, .string B, .slice a n c] 24)) = W at HA HRX ⊢
  replace HB : Hid (Below w.heap.size w W) := Lib.hid (after HB.out HA.out)
  clear HA HEX
  refine (HBig.out _).mono ?_
  rintro e u ⟨rfl, hb⟩
  replace HB := Lib.hid (after HB.out hb)
  replace HRX := Lib.hid (HRX.out.next hb)
  clear hb
  have x_0 : u.cell? ⟨X, 0, none⟩ = some (.string N) := HRX.out.cell
  have x_1 : u.cell? ⟨X, 1, none⟩ = some (.int .i64 k) := HRX.out.cell
  have x_2 : u.cell? ⟨X, 2, none⟩ = some (.bool kp) := HRX.out.cell
  have x_3 : u.cell? ⟨X, 3, none⟩ = some (.int .i64 al) := HRX.out.cell
  have x_4 : u.cell? ⟨X, 4, none⟩ = some (.string B) := HRX.out.cell
  have x_5 : u.cell? ⟨X, 5, none⟩ = some (.slice a n c) := HRX.out.cell
  go_wp2_with fail
  clear x_0 x_1 x_2 x_3 x_4 x_5
  refine (HW.out _ HB.out).mono ?_
  rintro e u ⟨aT, cT, rfl, hs, hz, hc, hb⟩
  replace HB := Lib.hid (after HB.out hb)
  replace HRX := Lib.hid (HRX.out.next hb)
  have HST := Lib.hid hs
  clear hb hs hz hc
  obtain ⟨Y, hY⟩ : ∃ Y, Y = u.heap.size := ⟨_, rfl⟩
  have HEY := Lib.hid hY
  have HA : Hid (Below u.heap.size u (u.alloc (.cells #[.string NT, .int .i64 kT, .bool kpT, .int .i64 alT, .string BT, .slice aT nT cT] 24))) := Lib.hid ((Below.refl _ u).alloc (Nat.le_refl _) _)
  have HRY : Hid (RB (u.alloc (.cells #[.string NT, .int .i64 kT, .bool kpT, .int .i64 alT, .string BT, .slice aT nT cT] 24)) Y #[.string NT, .int .i64 kT, .bool kpT, .int .i64 alT, .string BT, .slice aT nT cT] 24) := Lib.hid (by rw [hY]; exact (MapKept.heap_alloc u _).1)
  clear hY
  replace HRX := Lib.hid (HRX.out.next HA.out)
  replace HST := Lib.hid (HST.out.next HA.out)
  go_wp2_with fail
  try rw [← HEY.out]
  generalize (u.alloc (.cells #[.string NT, .int .i64 kT, .bool kpT, .int .i64 alT, .string BT, .slice aT nT cT] 24)) = W at HA HRX HRY HST ⊢
  replace HB : Hid (Below w.heap.size w W) := Lib.hid (after HB.out HA.out)
  clear HA HEY
  refine (HD.out _ (HT.out.next HB.out)).mono ?_
  rintro e u ⟨rfl, hb⟩
  replace HB := Lib.hid (after HB.out hb)
  replace HRX := Lib.hid (HRX.out.next hb)
  replace HRY := Lib.hid (HRY.out.next hb)
  replace HST := Lib.hid (HST.out.next hb)
  clear hb
  obtain ⟨I, hI⟩ : ∃ I, I = u.heap.size := ⟨_, rfl⟩
  have HEI := Lib.hid hI
  have HA : Hid (Below u.heap.size u (u.alloc (.cells #[.int .i64 i0, .int .i64 i1, .int .i64 i2, .int .i64 i3, .int .i64 i4, .int .i64 i5, .int .u64 i6, .int .i64 i7, .int .i64 i8, .int .i64 i9] 44))) := Lib.hid ((Below.refl _ u).alloc (Nat.le_refl _) _)
  have HRI : Hid (RB (u.alloc (.cells #[.int .i64 i0, .int .i64 i1, .int .i64 i2, .int .i64 i3, .int .i64 i4, .int .i64 i5, .int .u64 i6, .int .i64 i7, .int .i64 i8, .int .i64 i9] 44)) I #[.int .i64 i0, .int .i64 i1, .int .i64 i2, .int .i64 i3, .int .i64 i4, .int .i64 i5, .int .u64 i6, .int .i64 i7, .int .i64 i8, .int .i64 i9] 44) := Lib.hid (by rw [hI]; exact (MapKept.heap_alloc u _).1)
  clear hI
  replace HRX := Lib.hid (HRX.out.next HA.out)
  replace HRY := Lib.hid (HRY.out.next HA.out)
  replace HST := Lib.hid (HST.out.next HA.out)
  go_wp2_with fail
  try rw [← HEI.out]
  generalize (u.alloc (.cells #[.int .i64 i0, .int .i64 i1, .int .i64 i2, .int .i64 i3, .int .i64 i4, .int .i64 i5, .int .u64 i6, .int .i64 i7, .int .i64 i8, .int .i64 i9] 44)) = W at HA HRX HRY HRI HST ⊢
  replace HB : Hid (Below w.heap.size w W) := Lib.hid (after HB.out HA.out)
  clear HA HEI
  refine (HG.out _ (HT.out.next HB.out)).mono ?_
  rintro e u ⟨rfl, hb⟩
  replace HB := Lib.hid (after HB.out hb)
  replace HRX := Lib.hid (HRX.out.next hb)
  replace HRY := Lib.hid (HRY.out.next hb)
  replace HRI := Lib.hid (HRI.out.next hb)
  replace HST := Lib.hid (HST.out.next hb)
  clear hb
  go_wp2
  go_ret
  exact retB_bool rfl HB.out
set_option maxRecDepth 100000 in
set_option maxHeartbeats 600000 in
theorem pRel_bare (N B : ByteArray) (k : Int) (kp : Bool) (al : Int) (a : Option Addr) (n c : Nat) (l : List Rl) (v : Nat) (hv : v < 4294967296) (kind sym add : Int) (w : World) (hs : SL rlC 4 w w.heap.size a n l) (hz : a = none → n = 0 ∧ c = 0) (hg : GoodB N k al B l) (hkk : i64ok kind) (hks : i64ok sym) (hka : i64ok add) (hT : TabP w) (hbig : bigS B.size n N.size = false) (NT BT : ByteArray) (kT : Int) (kpT : Bool) (alT : Int) (nT : Nat) (lT : List Rl) (er : Int) (ht : pWordL ⟨N.data.toList, k, kp, al, B.data.toList, l⟩ v kind sym add = (⟨NT.data.toList, kT, kpT, alT, BT.data.toList, lT⟩, er)) (hm : nT = lT.length) (i0 i1 i2 i3 i4 i5 i6 i7 i8 i9 f : Int) (hd : dI v = (⟨i0, i1, i2, i3, i4, i5, i6, i7, i8, i9⟩, f)) (he : er = 0) (hk0 : kind = 0) : Calls Tryz.prog 6 #[.agg #[.string N, .int .i64 k, .bool kp, .int .i64 al, .string B, .slice a n c], .int .u32 (v : Int), .int .i64 kind, .int .i64 sym, .int .i64 add] w (RetB (.bool true) w) := by
  subst he hk0
  have hlT : l = lT := by
    obtain ⟨-, -, -, h⟩ := word_right hv ht
    rcases h with ⟨-, h⟩ | ⟨h, -⟩
    · simp only [Sc.mk.injEq] at h; exact h.2.2.2.2.2.symm
    · exact absurd rfl h
  subst hlT
  obtain rfl : n = nT := hs.len.trans hm.symm
  have HBig : Hid (∀ u, Calls Tryz.prog 17 #[.agg #[.string N, .int .i64 k, .bool kp, .int .i64 al, .string B, .slice a n c]] u (RetB (.bool false) u)) := Lib.hid fun u => by
    have := rBig_any N B k kp al a n c u
    rwa [hbig] at this
  have HB : Hid (Below w.heap.size w w) := Lib.hid (Below.refl _ w)
  have HT := Lib.hid hT
  have HS := Lib.hid hs
  have HG := Lib.hid (fun u (hu : TabP u) => grown_is u hu)
  have HW : Hid (∀ u, Below w.heap.size w u → Calls Tryz.prog 20 #[.agg #[.string N, .int .i64 k, .bool kp, .int .i64 al, .string B, .slice a n c], .int .u32 (v : Int), .int .i64 0, .int .i64 sym, .int .i64 add] u (GotB u NT kT kpT alT BT n l 0)) := Lib.hid fun u hu =>
    (pWord_any N B k kp al a n c l v hv 0 sym add u (hs.next hu) hz hg.name hg.data hg.rels hkk (hT.next hu)).mono fun e v h => h.got ht hm
  have HD : Hid (∀ u, TabP u → Calls Tryz.prog 23 #[.int .u32 (v : Int)] u (RetB (.tuple #[.agg #[.int .i64 i0, .int .i64 i1, .int .i64 i2, .int .i64 i3, .int .i64 i4, .int .i64 i5, .int .u64 i6, .int .i64 i7, .int .i64 i8, .int .i64 i9], .int .i64 f]) u)) := Lib.hid fun u hu => by
    have := CDecode_any v hv u hu.1.1
    rw [hd] at this
    exact this
  clear hv hs hz hg hkk hks hka hT hbig ht hm hd
  go_enter Tryz.func6, Tryz.ntmps6
  obtain ⟨X, hX⟩ : ∃ X, X = w.heap.size := ⟨_, rfl⟩
  have HEX := Lib.hid hX
  have HA : Hid (Below w.heap.size w (w.alloc (.cells #[.string N, .int .i64 k, .bool kp, .int .i64 al, .string B, .slice a n c] 24))) := Lib.hid ((Below.refl _ w).alloc (Nat.le_refl _) _)
  have HRX : Hid (RB (w.alloc (.cells #[.string N, .int .i64 k, .bool kp, .int .i64 al, .string B, .slice a n c] 24)) X #[.string N, .int .i64 k, .bool kp, .int .i64 al, .string B, .slice a n c] 24) := Lib.hid (by rw [hX]; exact (MapKept.heap_alloc w _).1)
  clear hX
  go_wp2_with fail
  try rw [← HEX.out]
  generalize (w.alloc (.cells #[.string N, .int .i64 k, .bool kp, .int .i64 al, .string B, .slice a n c] 24)) = W at HA HRX ⊢
  replace HB : Hid (Below w.heap.size w W) := Lib.hid (after HB.out HA.out)
  clear HA HEX
  refine (HBig.out _).mono ?_
  rintro e u ⟨rfl, hb⟩
  replace HB := Lib.hid (after HB.out hb)
  replace HRX := Lib.hid (HRX.out.next hb)
  clear hb
  have x_0 : u.cell? ⟨X, 0, none⟩ = some (.string N) := HRX.out.cell
  have x_1 : u.cell? ⟨X, 1, none⟩ = some (.int .i64 k) := HRX.out.cell
  have x_2 : u.cell? ⟨X, 2, none⟩ = some (.bool kp) := HRX.out.cell
  have x_3 : u.cell? ⟨X, 3, none⟩ = some (.int .i64 al) := HRX.out.cell
  have x_4 : u.cell? ⟨X, 4, none⟩ = some (.string B) := HRX.out.cell
  have x_5 : u.cell? ⟨X, 5, none⟩ = some (.slice a n c) := HRX.out.cell
  go_wp2_with fail
  clear x_0 x_1 x_2 x_3 x_4 x_5
  refine (HW.out _ HB.out).mono ?_
  rintro e u ⟨aT, cT, rfl, hs, hz, hc, hb⟩
  replace HB := Lib.hid (after HB.out hb)
  replace HRX := Lib.hid (HRX.out.next hb)
  have HST := Lib.hid hs
  clear hb hs hz hc
  obtain ⟨Y, hY⟩ : ∃ Y, Y = u.heap.size := ⟨_, rfl⟩
  have HEY := Lib.hid hY
  have HA : Hid (Below u.heap.size u (u.alloc (.cells #[.string NT, .int .i64 kT, .bool kpT, .int .i64 alT, .string BT, .slice aT n cT] 24))) := Lib.hid ((Below.refl _ u).alloc (Nat.le_refl _) _)
  have HRY : Hid (RB (u.alloc (.cells #[.string NT, .int .i64 kT, .bool kpT, .int .i64 alT, .string BT, .slice aT n cT] 24)) Y #[.string NT, .int .i64 kT, .bool kpT, .int .i64 alT, .string BT, .slice aT n cT] 24) := Lib.hid (by rw [hY]; exact (MapKept.heap_alloc u _).1)
  clear hY
  replace HRX := Lib.hid (HRX.out.next HA.out)
  replace HST := Lib.hid (HST.out.next HA.out)
  go_wp2_with fail
  try rw [← HEY.out]
  generalize (u.alloc (.cells #[.string NT, .int .i64 kT, .bool kpT, .int .i64 alT, .string BT, .slice aT n cT] 24)) = W at HA HRX HRY HST ⊢
  replace HB : Hid (Below w.heap.size w W) := Lib.hid (after HB.out HA.out)
  clear HA HEY
  refine (HD.out _ (HT.out.next HB.out)).mono ?_
  rintro e u ⟨rfl, hb⟩
  replace HB := Lib.hid (after HB.out hb)
  replace HRX := Lib.hid (HRX.out.next hb)
  replace HRY := Lib.hid (HRY.out.next hb)
  replace HST := Lib.hid (HST.out.next hb)
  clear hb
  obtain ⟨I, hI⟩ : ∃ I, I = u.heap.size := ⟨_, rfl⟩
  have HEI := Lib.hid hI
  have HA : Hid (Below u.heap.size u (u.alloc (.cells #[.int .i64 i0, .int .i64 i1, .int .i64 i2, .int .i64 i3, .int .i64 i4, .int .i64 i5, .int .u64 i6, .int .i64 i7, .int .i64 i8, .int .i64 i9] 44))) := Lib.hid ((Below.refl _ u).alloc (Nat.le_refl _) _)
  have HRI : Hid (RB (u.alloc (.cells #[.int .i64 i0, .int .i64 i1, .int .i64 i2, .int .i64 i3, .int .i64 i4, .int .i64 i5, .int .u64 i6, .int .i64 i7, .int .i64 i8, .int .i64 i9] 44)) I #[.int .i64 i0, .int .i64 i1, .int .i64 i2, .int .i64 i3, .int .i64 i4, .int .i64 i5, .int .u64 i6, .int .i64 i7, .int .i64 i8, .int .i64 i9] 44) := Lib.hid (by rw [hI]; exact (MapKept.heap_alloc u _).1)
  clear hI
  replace HRX := Lib.hid (HRX.out.next HA.out)
  replace HRY := Lib.hid (HRY.out.next HA.out)
  replace HST := Lib.hid (HST.out.next HA.out)
  go_wp2_with fail
  try rw [← HEI.out]
  generalize (u.alloc (.cells #[.int .i64 i0, .int .i64 i1, .int .i64 i2, .int .i64 i3, .int .i64 i4, .int .i64 i5, .int .u64 i6, .int .i64 i7, .int .i64 i8, .int .i64 i9] 44)) = W at HA HRX HRY HRI HST ⊢
  replace HB : Hid (Below w.heap.size w W) := Lib.hid (after HB.out HA.out)
  clear HA HEI
  refine (HG.out _ (HT.out.next HB.out)).mono ?_
  rintro e u ⟨rfl, hb⟩
  replace HB := Lib.hid (after HB.out hb)
  replace HRX := Lib.hid (HRX.out.next hb)
  replace HRY := Lib.hid (HRY.out.next hb)
  replace HRI := Lib.hid (HRI.out.next hb)
  replace HST := Lib.hid (HST.out.next hb)
  clear hb
  have x_5 : u.cell? ⟨X, 5, none⟩ = some (.slice a n c) := HRX.out.cell
  have y_5 : u.cell? ⟨Y, 5, none⟩ = some (.slice aT n cT) := HRY.out.cell
  go_wp2
  go_ret
  exact retB_bool rfl HB.out
end Go.Proofs.YtmlofdolenmkoaaGreatDoor
