/- PartTwice. -/
import Derived.Test.YtmlofdolenmkoaaGreatDoorkXE
namespace Go.Proofs.YtmlofdolenmkoaaGreatDoor
set_option linter.unusedVariables false
set_option linter.unusedSimpArgs false
open Go.ChangeShapes Go.WideShapes Go.Deep Go.RowKit

theorem two_put {s t : Sc} {x y : List UInt8} (h : pPutL s x = (t, 0)) : pPutL t y = pPutL s (x ++ y) := by
  obtain ⟨h1, h2, h3⟩ := put_right h
  obtain ⟨g1, g2, g3, g4, g5, g6, g7⟩ := head_iff.1 (sec_iff.1 h2).1
  unfold pPutL
  rw [if_pos h2, if_pos h1]
  subst h3
  simp only [List.length_append] at g6 g7
  unfold placedL
  simp only [List.length_append, List.length_nil, List.append_nil, List.append_assoc]
  by_cases c : 4096 - s.data.length < x.length + y.length
  · rw [if_pos (.inl (by omega)), if_pos (.inl c)]
  · rw [if_neg (by omega), if_neg (by omega)]
theorem two_err {s t : Sc} {x y : List UInt8} {e : Int} (h : pPutL s x = (t, e)) (he : e ≠ 0) : (pPutL s (x ++ y)).2 = e := by
  unfold pPutL at h ⊢
  split at h
  · rename_i hs
    rw [if_pos hs]
    unfold placedL at h ⊢
    split at h
    · rename_i c
      cases h
      rw [if_pos (by rw [List.length_append]; simp only [List.length_nil] at c ⊢; omega)]
    · cases h; exact absurd rfl he
  · rename_i hs
    rw [if_neg hs]; cases h; rfl
theorem lack_none {n k m : Nat} (h : m ≤ k) : nulB (lackN (n + (nulB (lackN n k)).length) m) = [] := by
  rw [List.length_replicate, lack_zero h]; rfl
theorem twice {s t : Sc} {n m : Int} (h : pAlignL s n = (t, 0)) (h0 : 0 ≤ m) (h1 : m ≤ n) : pAlignL t m = (t, 0) := by
  obtain ⟨a1, a2, a3, a4, a5⟩ := align_right h
  obtain ⟨g1, g2, g3, g4, g5, g6, g7⟩ := head_iff.1 (sec_iff.1 a4).1
  unfold pAlignL
  rw [if_pos a4, if_neg (by omega)]
  subst a5
  simp only [List.length_append] at g6 g7 ⊢
  have hl := lack_none (n := s.data.length) (k := n.toNat) (m := m.toNat) (by omega)
  unfold placedL
  rw [hl]
  simp only [List.length_append, List.length_nil, List.append_nil, Nat.not_lt_zero, or_self, if_false]
  have : max (max s.align n) m = max s.align n := by omega
  rw [this]

set_option maxRecDepth 100000 in
set_option maxHeartbeats 600000 in
theorem pTw_big (N B D E : ByteArray) (k : Int) (kp : Bool) (al : Int) (a : Option Addr) (n c : Nat) (l : List Rl) (na nb : Int) (w : World) (hs : SL rlC 4 w w.heap.size a n l) (hz : a = none → n = 0 ∧ c = 0) (hn : True) (hg : GoodB N k al B l) (hD : D.size ≤ 140737488351232) (hE : E.size ≤ 140737488351232) (hT : TabP w) (hbig : bigS B.size n N.size = true) : Calls Tryz.prog 5 #[.agg #[.string N, .int .i64 k, .bool kp, .int .i64 al, .string B, .slice a n c], .string D, .string E, .int .i64 na, .int .i64 nb] w (RetB (.bool true) w) := by
  have HBig : Hid (∀ u, Calls Tryz.prog 17 #[.agg #[.string N, .int .i64 k, .bool kp, .int .i64 al, .string B, .slice a n c]] u (RetB (.bool true) u)) := Lib.hid fun u => by
    have := rBig_any N B k kp al a n c u
    rwa [hbig] at this
  have HB : Hid (Below w.heap.size w w) := Lib.hid (Below.refl _ w)
  have HT := Lib.hid hT
  have HS := Lib.hid hs
  have HG := Lib.hid (fun u (hu : TabP u) => grown_is u hu)
  clear hs hz hn hg hT hbig HT HS HG
  go_enter Tryz.func5, Tryz.ntmps5
  obtain ⟨X, hX⟩ : ∃ X, X = w.heap.size := ⟨_, rfl⟩
  have HEX := Lib.hid hX
  have HA : Hid (Below w.heap.size w (w.alloc (.cells #[.string N, .int .i64 k, .bool kp, .int .i64 al, .string B, .slice a n c] 24))) := Lib.hid ((Below.refl _ w).alloc (Nat.le_refl _) _)
  have HRX : Hid (RB (w.alloc (.cells #[.string N, .int .i64 k, .bool kp, .int .i64 al, .string B, .slice a n c] 24)) X #[.string N, .int .i64 k, .bool kp, .int .i64 al, .string B, .slice a n c] 24) := Lib.hid (by rw [hX]; exact (MapKept.heap_alloc w _).1)
  clear hX
  go_wp2_with fail
  try rw [← HEX.out]
  generalize (w.alloc (.cells #[.string N, .int .i64 k, .bool kp, .int .i64 al, .string B, .slice a n c] 24)) = W at HA HRX ⊢
  replace HB : Hid (Below w.heap.size w W) := Lib.hid (after HB.out HA.out)
  clear HA HEX
  refine (HBig.out _).mono ?_
  rintro e u ⟨rfl, hb⟩
  replace HB := Lib.hid (after HB.out hb)
  replace HRX := Lib.hid (HRX.out.next hb)
  clear hb
  go_wp2
  go_ret
  exact retB_bool rfl HB.out
set_option maxRecDepth 100000 in
set_option maxHeartbeats 600000 in
theorem pTw_long (N B D E : ByteArray) (k : Int) (kp : Bool) (al : Int) (a : Option Addr) (n c : Nat) (l : List Rl) (na nb : Int) (w : World) (hs : SL rlC 4 w w.heap.size a n l) (hz : a = none → n = 0 ∧ c = 0) (hn : n ≤ 1000000) (hg : GoodB N k al B l) (hD : D.size ≤ 140737488351232) (hE : E.size ≤ 140737488351232) (hT : TabP w) (hbig : bigS B.size n N.size = false) (hlong : (5000 : Int) < (D.size : Int) + E.size) : Calls Tryz.prog 5 #[.agg #[.string N, .int .i64 k, .bool kp, .int .i64 al, .string B, .slice a n c], .string D, .string E, .int .i64 na, .int .i64 nb] w (RetB (.bool true) w) := by
  have HBig : Hid (∀ u, Calls Tryz.prog 17 #[.agg #[.string N, .int .i64 k, .bool kp, .int .i64 al, .string B, .slice a n c]] u (RetB (.bool false) u)) := Lib.hid fun u => by
    have := rBig_any N B k kp al a n c u
    rwa [hbig] at this
  have HB : Hid (Below w.heap.size w w) := Lib.hid (Below.refl _ w)
  have HT := Lib.hid hT
  have HS := Lib.hid hs
  have HG := Lib.hid (fun u (hu : TabP u) => grown_is u hu)
  have hw : IntKind.i64.wrap ((D.size : Int) + E.size) = (D.size : Int) + E.size := by rw [IntKind.wrap_i64]; omega
  have hDi : (D.size : Int) ≤ 140737488351232 := by omega
  have hEi : (E.size : Int) ≤ 140737488351232 := by omega
  clear hs hz hn hg hT hbig HT HS HG
  go_enter Tryz.func5, Tryz.ntmps5
  obtain ⟨X, hX⟩ : ∃ X, X = w.heap.size := ⟨_, rfl⟩
  have HEX := Lib.hid hX
  have HA : Hid (Below w.heap.size w (w.alloc (.cells #[.string N, .int .i64 k, .bool kp, .int .i64 al, .string B, .slice a n c] 24))) := Lib.hid ((Below.refl _ w).alloc (Nat.le_refl _) _)
  have HRX : Hid (RB (w.alloc (.cells #[.string N, .int .i64 k, .bool kp, .int .i64 al, .string B, .slice a n c] 24)) X #[.string N, .int .i64 k, .bool kp, .int .i64 al, .string B, .slice a n c] 24) := Lib.hid (by rw [hX]; exact (MapKept.heap_alloc w _).1)
  clear hX
  go_wp2_with fail
  try rw [← HEX.out]
  generalize (w.alloc (.cells #[.string N, .int .i64 k, .bool kp, .int .i64 al, .string B, .slice a n c] 24)) = W at HA HRX ⊢
  replace HB : Hid (Below w.heap.size w W) := Lib.hid (after HB.out HA.out)
  clear HA HEX
  refine (HBig.out _).mono ?_
  rintro e u ⟨rfl, hb⟩
  replace HB := Lib.hid (after HB.out hb)
  replace HRX := Lib.hid (HRX.out.next hb)
  clear hb
  go_wp2
  go_ret
  exact retB_bool rfl HB.out
set_option maxRecDepth 100000 in
set_option maxHeartbeats 2000000 in
theorem pTw_kh (N B D E : ByteArray) (k : Int) (kp : Bool) (al : Int) (a : Option Addr) (n c : Nat) (l : List Rl) (na nb : Int) (w : World) (hs : SL rlC 4 w w.heap.size a n l) (hz : a = none → n = 0 ∧ c = 0) (hn : n ≤ 1000000) (hg : GoodB N k al B l) (hD : D.size ≤ 140737488351232) (hE : E.size ≤ 140737488351232) (hT : TabP w) (hbig : bigS B.size n N.size = false) (hlong : ¬ (5000 : Int) < (D.size : Int) + E.size) (NA BA : ByteArray) (kA : Int) (kpA : Bool) (alA : Int) (nA : Nat) (lA : List Rl) (eA : Int) (hA : pPutL ⟨N.data.toList, k, kp, al, B.data.toList, l⟩ D.data.toList = (⟨NA.data.toList, kA, kpA, alA, BA.data.toList, lA⟩, eA)) (mA : nA = lA.length) (NP BP : ByteArray) (kP : Int) (kpP : Bool) (alP : Int) (nP : Nat) (lP : List Rl) (eP : Int) (hP : pPutL ⟨NA.data.toList, kA, kpA, alA, BA.data.toList, lA⟩ E.data.toList = (⟨NP.data.toList, kP, kpP, alP, BP.data.toList, lP⟩, eP)) (mP : nP = lP.length) (NC BC : ByteArray) (kC : Int) (kpC : Bool) (alC : Int) (nC : Nat) (lC : List Rl) (eC : Int) (hC : pPutL ⟨N.data.toList, k, kp, al, B.data.toList, l⟩ (D.data.toList ++ E.data.toList) = (⟨NC.data.toList, kC, kpC, alC, BC.data.toList, lC⟩, eC)) (mC : nC = lC.length) (NF BF : ByteArray) (kF : Int) (kpF : Bool) (alF : Int) (nF : Nat) (lF : List Rl) (eF : Int) (hF : pAlignL ⟨N.data.toList, k, kp, al, B.data.toList, l⟩ na = (⟨NF.data.toList, kF, kpF, alF, BF.data.toList, lF⟩, eF)) (mF : nF = lF.length) (e0 : eA = 0) (f0 : eF ≠ 0) : Calls Tryz.prog 5 #[.agg #[.string N, .int .i64 k, .bool kp, .int .i64 al, .string B, .slice a n c], .string D, .string E, .int .i64 na, .int .i64 nb] w (RetB (.bool true) w) := by
  subst e0
  have hPC : (⟨NP.data.toList, kP, kpP, alP, BP.data.toList, lP⟩, eP) = ((⟨NC.data.toList, kC, kpC, alC, BC.data.toList, lC⟩, eC) : Sc × Int) := by rw [← hP, ← hC]; exact two_put hA
  simp only [Prod.mk.injEq, Sc.mk.injEq] at hPC
  obtain ⟨⟨q1, q2, q3, q4, q5, q6⟩, q7⟩ := hPC
  replace q1 : NP = NC := ByteArray.ext (Array.toList_inj.1 q1)
  replace q5 : BP = BC := ByteArray.ext (Array.toList_inj.1 q5)
  subst q1 q2 q3 q4 q5 q6 q7
  obtain rfl : nP = nC := mP.trans mC.symm
  have hnP : nP ≤ 1000000 := by
    have : lP.length ≤ l.length ∨ lP = [] := by
      rcases put_grows (hg.sc kp) (D.data.toList ++ E.data.toList) with ⟨h1, h2⟩ | ⟨-, h2, -⟩
      · rw [hC] at h1; simp only at h1; subst h1
        obtain ⟨-, -, h⟩ := put_right hC
        simp only [Sc.mk.injEq] at h
        exact .inl (by rw [h.2.2.2.2.2]; exact Nat.le_refl _)
      · rw [hC] at h2; simp only [Sc.mk.injEq] at h2; exact .inr h2.2.2.2.2.2
    have := hs.len
    rcases ‹_ ∨ _› with h | h
    · omega
    · rw [mP, h]; simp
  have HSame1 : Hid (∀ u a a' c c', SL rlC 4 u u.heap.size a nP lP → SL rlC 4 u u.heap.size a' nP lP → Calls Tryz.prog 15 #[.agg #[.string NP, .int .i64 kP, .bool kpP, .int .i64 alP, .string BP, .slice a nP c], .agg #[.string NP, .int .i64 kP, .bool kpP, .int .i64 alP, .string BP, .slice a' nP c']] u (RetB (.bool true) u)) := Lib.hid fun u a a' c c' h h' => rSame_is NP BP kP kpP alP a a' nP c c' lP u hnP h h'
  have HBig : Hid (∀ u, Calls Tryz.prog 17 #[.agg #[.string N, .int .i64 k, .bool kp, .int .i64 al, .string B, .slice a n c]] u (RetB (.bool false) u)) := Lib.hid fun u => by
    have := rBig_any N B k kp al a n c u
    rwa [hbig] at this
  have HB : Hid (Below w.heap.size w w) := Lib.hid (Below.refl _ w)
  have HT := Lib.hid hT
  have HS := Lib.hid hs
  have HG := Lib.hid (fun u (hu : TabP u) => grown_is u hu)
  have hw : IntKind.i64.wrap ((D.size : Int) + E.size) = (D.size : Int) + E.size := by rw [IntKind.wrap_i64]; omega
  have hDi : (D.size : Int) ≤ 140737488351232 := by omega
  have hEi : (E.size : Int) ≤ 140737488351232 := by omega
  have gA : GoodB NA kA alA BA lA := by have := (put_grows (hg.sc kp) D.data.toList).good; rw [hA] at this; exact GoodSc.b this
  have gF : GoodB NF kF alF BF lF := by have := (align_grows (hg.sc kp) na).good; rw [hF] at this; exact GoodSc.b this
  have hDE : (D ++ E).size = D.size + E.size := ByteArray.size_append
  have hDEi : ((D ++ E : ByteArray).size : Int) = (D.size : Int) + E.size := by rw [hDE]; omega
  have H1 : Hid (∀ u, Below w.heap.size w u → Calls Tryz.prog 18 #[.agg #[.string N, .int .i64 k, .bool kp, .int .i64 al, .string B, .slice a n c], .string D] u (GotB u NA kA kpA alA BA nA lA 0)) := Lib.hid fun u hu =>
    (pPut_any N B D k kp al a n c l u (hs.next hu) hz hg.name hg.data hg.rels (by omega) (hT.next hu)).mono fun e v h => h.got hA mA
  have H2 : Hid (∀ u a c, TabP u → SL rlC 4 u u.heap.size a nA lA → (a = none → nA = 0 ∧ c = 0) → Calls Tryz.prog 18 #[.agg #[.string NA, .int .i64 kA, .bool kpA, .int .i64 alA, .string BA, .slice a nA c], .string E] u (GotB u NP kP kpP alP BP nP lP eP)) := Lib.hid fun u a c hu hs hz =>
    (pPut_any NA BA E kA kpA alA a nA c lA u hs hz gA.name gA.data gA.rels (by omega) hu).mono fun e v h => h.got hP mP
  have H3 : Hid (∀ u, Below w.heap.size w u → Calls Tryz.prog 18 #[.agg #[.string N, .int .i64 k, .bool kp, .int .i64 al, .string B, .slice a n c], .string (D ++ E)] u (GotB u NP kP kpP alP BP nP lP eP)) := Lib.hid fun u hu => by
    have := pPut_any N B (D ++ E) k kp al a n c l u (hs.next hu) hz hg.name hg.data hg.rels (by omega) (hT.next hu)
    rw [cat_list] at this
    exact this.mono fun e v h => h.got hC mC
  have H4 : Hid (∀ u, Below w.heap.size w u → Calls Tryz.prog 19 #[.agg #[.string N, .int .i64 k, .bool kp, .int .i64 al, .string B, .slice a n c], .int .i64 na] u (GotB u NF kF kpF alF BF nF lF eF)) := Lib.hid fun u hu =>
    (pAlign_any N B k kp al a n c l na u (hs.next hu) hz hg.name hg.data hg.rels (hT.next hu)).mono fun e v h => h.got hF mF
  have r3 : (eF != 0) = true := by simp [bne_iff_ne]; exact f0
  have r4 : (eF == 0) = false := by simp; exact f0
  clear f0
  clear hnP
  clear hs hz hn hg hT hbig hA hP hC hF mA mP mC mF gA gF hDE
  go_enter Tryz.func5, Tryz.ntmps5
  obtain ⟨X, hX⟩ : ∃ X, X = w.heap.size := ⟨_, rfl⟩
  have HEX := Lib.hid hX
  have HA : Hid (Below w.heap.size w (w.alloc (.cells #[.string N, .int .i64 k, .bool kp, .int .i64 al, .string B, .slice a n c] 24))) := Lib.hid ((Below.refl _ w).alloc (Nat.le_refl _) _)
  have HRX : Hid (RB (w.alloc (.cells #[.string N, .int .i64 k, .bool kp, .int .i64 al, .string B, .slice a n c] 24)) X #[.string N, .int .i64 k, .bool kp, .int .i64 al, .string B, .slice a n c] 24) := Lib.hid (by rw [hX]; exact (MapKept.heap_alloc w _).1)
  clear hX
  go_wp2_with fail
  try rw [← HEX.out]
  generalize (w.alloc (.cells #[.string N, .int .i64 k, .bool kp, .int .i64 al, .string B, .slice a n c] 24)) = W at HA HRX ⊢
  replace HB : Hid (Below w.heap.size w W) := Lib.hid (after HB.out HA.out)
  clear HA HEX
  refine (HBig.out _).mono ?_
  rintro e u ⟨rfl, hb⟩
  replace HB := Lib.hid (after HB.out hb)
  replace HRX := Lib.hid (HRX.out.next hb)
  clear hb
  have x_0 : u.cell? ⟨X, 0, none⟩ = some (.string N) := HRX.out.cell
  have x_1 : u.cell? ⟨X, 1, none⟩ = some (.int .i64 k) := HRX.out.cell
  have x_2 : u.cell? ⟨X, 2, none⟩ = some (.bool kp) := HRX.out.cell
  have x_3 : u.cell? ⟨X, 3, none⟩ = some (.int .i64 al) := HRX.out.cell
  have x_4 : u.cell? ⟨X, 4, none⟩ = some (.string B) := HRX.out.cell
  have x_5 : u.cell? ⟨X, 5, none⟩ = some (.slice a n c) := HRX.out.cell
  go_wp2_with fail
  clear x_0 x_1 x_2 x_3 x_4 x_5
  refine (H1.out _ HB.out).mono ?_
  rintro e u ⟨aA, cA, rfl, hs, hz, hc, hb⟩
  replace HB := Lib.hid (after HB.out hb)
  replace HRX := Lib.hid (HRX.out.next hb)
  have HSA := Lib.hid hs
  have HZA := Lib.hid hz
  clear hb hs hz hc
  obtain ⟨Y, hY⟩ : ∃ Y, Y = u.heap.size := ⟨_, rfl⟩
  have HEY := Lib.hid hY
  have HA : Hid (Below u.heap.size u (u.alloc (.cells #[.string NA, .int .i64 kA, .bool kpA, .int .i64 alA, .string BA, .slice aA nA cA] 24))) := Lib.hid ((Below.refl _ u).alloc (Nat.le_refl _) _)
  have HRY : Hid (RB (u.alloc (.cells #[.string NA, .int .i64 kA, .bool kpA, .int .i64 alA, .string BA, .slice aA nA cA] 24)) Y #[.string NA, .int .i64 kA, .bool kpA, .int .i64 alA, .string BA, .slice aA nA cA] 24) := Lib.hid (by rw [hY]; exact (MapKept.heap_alloc u _).1)
  clear hY
  replace HRX := Lib.hid (HRX.out.next HA.out)
  replace HSA := Lib.hid (HSA.out.next HA.out)
  go_wp2_with fail
  try rw [← HEY.out]
  generalize (u.alloc (.cells #[.string NA, .int .i64 kA, .bool kpA, .int .i64 alA, .string BA, .slice aA nA cA] 24)) = W at HA HRX HRY HSA ⊢
  replace HB : Hid (Below w.heap.size w W) := Lib.hid (after HB.out HA.out)
  clear HA HEY
  refine (H2.out _ aA cA (HT.out.next HB.out) HSA.out HZA.out).mono ?_
  rintro e u ⟨aP, cP, rfl, hs, hz, hc, hb⟩
  replace HB := Lib.hid (after HB.out hb)
  replace HRX := Lib.hid (HRX.out.next hb)
  replace HRY := Lib.hid (HRY.out.next hb)
  replace HSA := Lib.hid (HSA.out.next hb)
  have HSP := Lib.hid hs
  clear hb hs hz hc
  obtain ⟨Z, hZ⟩ : ∃ Z, Z = u.heap.size := ⟨_, rfl⟩
  have HEZ := Lib.hid hZ
  have HA : Hid (Below u.heap.size u (u.alloc (.cells #[.string NP, .int .i64 kP, .bool kpP, .int .i64 alP, .string BP, .slice aP nP cP] 24))) := Lib.hid ((Below.refl _ u).alloc (Nat.le_refl _) _)
  have HRZ : Hid (RB (u.alloc (.cells #[.string NP, .int .i64 kP, .bool kpP, .int .i64 alP, .string BP, .slice aP nP cP] 24)) Z #[.string NP, .int .i64 kP, .bool kpP, .int .i64 alP, .string BP, .slice aP nP cP] 24) := Lib.hid (by rw [hZ]; exact (MapKept.heap_alloc u _).1)
  clear hZ
  replace HRX := Lib.hid (HRX.out.next HA.out)
  replace HRY := Lib.hid (HRY.out.next HA.out)
  replace HSA := Lib.hid (HSA.out.next HA.out)
  replace HSP := Lib.hid (HSP.out.next HA.out)
  have x_0 : (u.alloc (.cells #[.string NP, .int .i64 kP, .bool kpP, .int .i64 alP, .string BP, .slice aP nP cP] 24)).cell? ⟨X, 0, none⟩ = some (.string N) := HRX.out.cell
  have x_1 : (u.alloc (.cells #[.string NP, .int .i64 kP, .bool kpP, .int .i64 alP, .string BP, .slice aP nP cP] 24)).cell? ⟨X, 1, none⟩ = some (.int .i64 k) := HRX.out.cell
  have x_2 : (u.alloc (.cells #[.string NP, .int .i64 kP, .bool kpP, .int .i64 alP, .string BP, .slice aP nP cP] 24)).cell? ⟨X, 2, none⟩ = some (.bool kp) := HRX.out.cell
  have x_3 : (u.alloc (.cells #[.string NP, .int .i64 kP, .bool kpP, .int .i64 alP, .string BP, .slice aP nP cP] 24)).cell? ⟨X, 3, none⟩ = some (.int .i64 al) := HRX.out.cell
  have x_4 : (u.alloc (.cells #[.string NP, .int .i64 kP, .bool kpP, .int .i64 alP, .string BP, .slice aP nP cP] 24)).cell? ⟨X, 4, none⟩ = some (.string B) := HRX.out.cell
  have x_5 : (u.alloc (.cells #[.string NP, .int .i64 kP, .bool kpP, .int .i64 alP, .string BP, .slice aP nP cP] 24)).cell? ⟨X, 5, none⟩ = some (.slice a n c) := HRX.out.cell
  go_wp2_with fail
  clear x_0 x_1 x_2 x_3 x_4 x_5
  try rw [← HEZ.out]
  generalize (u.alloc (.cells #[.string NP, .int .i64 kP, .bool kpP, .int .i64 alP, .string BP, .slice aP nP cP] 24)) = W at HA HRX HRY HRZ HSA HSP ⊢
  replace HB : Hid (Below w.heap.size w W) := Lib.hid (after HB.out HA.out)
  clear HA HEZ
  refine (H3.out _ HB.out).mono ?_
  rintro e u ⟨aC, cC, rfl, hs, hz, hc, hb⟩
  replace HB := Lib.hid (after HB.out hb)
  replace HRX := Lib.hid (HRX.out.next hb)
  replace HRY := Lib.hid (HRY.out.next hb)
  replace HRZ := Lib.hid (HRZ.out.next hb)
  replace HSA := Lib.hid (HSA.out.next hb)
  replace HSP := Lib.hid (HSP.out.next hb)
  have HSC := Lib.hid hs
  clear hb hs hz hc
  obtain ⟨Q, hQ⟩ : ∃ Q, Q = u.heap.size := ⟨_, rfl⟩
  have HEQ := Lib.hid hQ
  have HA : Hid (Below u.heap.size u (u.alloc (.cells #[.string NP, .int .i64 kP, .bool kpP, .int .i64 alP, .string BP, .slice aC nP cC] 24))) := Lib.hid ((Below.refl _ u).alloc (Nat.le_refl _) _)
  have HRQ : Hid (RB (u.alloc (.cells #[.string NP, .int .i64 kP, .bool kpP, .int .i64 alP, .string BP, .slice aC nP cC] 24)) Q #[.string NP, .int .i64 kP, .bool kpP, .int .i64 alP, .string BP, .slice aC nP cC] 24) := Lib.hid (by rw [hQ]; exact (MapKept.heap_alloc u _).1)
  clear hQ
  replace HRX := Lib.hid (HRX.out.next HA.out)
  replace HRY := Lib.hid (HRY.out.next HA.out)
  replace HRZ := Lib.hid (HRZ.out.next HA.out)
  replace HSA := Lib.hid (HSA.out.next HA.out)
  replace HSP := Lib.hid (HSP.out.next HA.out)
  replace HSC := Lib.hid (HSC.out.next HA.out)
  have z_0 : (u.alloc (.cells #[.string NP, .int .i64 kP, .bool kpP, .int .i64 alP, .string BP, .slice aC nP cC] 24)).cell? ⟨Z, 0, none⟩ = some (.string NP) := HRZ.out.cell
  have z_1 : (u.alloc (.cells #[.string NP, .int .i64 kP, .bool kpP, .int .i64 alP, .string BP, .slice aC nP cC] 24)).cell? ⟨Z, 1, none⟩ = some (.int .i64 kP) := HRZ.out.cell
  have z_2 : (u.alloc (.cells #[.string NP, .int .i64 kP, .bool kpP, .int .i64 alP, .string BP, .slice aC nP cC] 24)).cell? ⟨Z, 2, none⟩ = some (.bool kpP) := HRZ.out.cell
  have z_3 : (u.alloc (.cells #[.string NP, .int .i64 kP, .bool kpP, .int .i64 alP, .string BP, .slice aC nP cC] 24)).cell? ⟨Z, 3, none⟩ = some (.int .i64 alP) := HRZ.out.cell
  have z_4 : (u.alloc (.cells #[.string NP, .int .i64 kP, .bool kpP, .int .i64 alP, .string BP, .slice aC nP cC] 24)).cell? ⟨Z, 4, none⟩ = some (.string BP) := HRZ.out.cell
  have z_5 : (u.alloc (.cells #[.string NP, .int .i64 kP, .bool kpP, .int .i64 alP, .string BP, .slice aC nP cC] 24)).cell? ⟨Z, 5, none⟩ = some (.slice aP nP cP) := HRZ.out.cell
  go_wp2_with fail
  clear z_0 z_1 z_2 z_3 z_4 z_5
  try rw [← HEQ.out]
  generalize (u.alloc (.cells #[.string NP, .int .i64 kP, .bool kpP, .int .i64 alP, .string BP, .slice aC nP cC] 24)) = W at HA HRX HRY HRZ HRQ HSA HSP HSC ⊢
  replace HB : Hid (Below w.heap.size w W) := Lib.hid (after HB.out HA.out)
  clear HA HEQ
  refine (HSame1.out _ aP aC cP cC HSP.out HSC.out).mono ?_
  rintro e u ⟨rfl, hb⟩
  replace HB := Lib.hid (after HB.out hb)
  replace HRX := Lib.hid (HRX.out.next hb)
  replace HRY := Lib.hid (HRY.out.next hb)
  replace HRZ := Lib.hid (HRZ.out.next hb)
  replace HRQ := Lib.hid (HRQ.out.next hb)
  replace HSA := Lib.hid (HSA.out.next hb)
  replace HSP := Lib.hid (HSP.out.next hb)
  replace HSC := Lib.hid (HSC.out.next hb)
  clear hb
  have x_0 : u.cell? ⟨X, 0, none⟩ = some (.string N) := HRX.out.cell
  have x_1 : u.cell? ⟨X, 1, none⟩ = some (.int .i64 k) := HRX.out.cell
  have x_2 : u.cell? ⟨X, 2, none⟩ = some (.bool kp) := HRX.out.cell
  have x_3 : u.cell? ⟨X, 3, none⟩ = some (.int .i64 al) := HRX.out.cell
  have x_4 : u.cell? ⟨X, 4, none⟩ = some (.string B) := HRX.out.cell
  have x_5 : u.cell? ⟨X, 5, none⟩ = some (.slice a n c) := HRX.out.cell
  go_wp2_with fail
  clear x_0 x_1 x_2 x_3 x_4 x_5
  refine (H4.out _ HB.out).mono ?_
  rintro e u ⟨aF, cF, rfl, hs, hz, hc, hb⟩
  replace HB := Lib.hid (after HB.out hb)
  replace HRX := Lib.hid (HRX.out.next hb)
  replace HRY := Lib.hid (HRY.out.next hb)
  replace HRZ := Lib.hid (HRZ.out.next hb)
  replace HRQ := Lib.hid (HRQ.out.next hb)
  replace HSA := Lib.hid (HSA.out.next hb)
  replace HSP := Lib.hid (HSP.out.next hb)
  replace HSC := Lib.hid (HSC.out.next hb)
  have HSF := Lib.hid hs
  have HZF := Lib.hid hz
  clear hb hs hz hc
  obtain ⟨V, hV⟩ : ∃ V, V = u.heap.size := ⟨_, rfl⟩
  have HEV := Lib.hid hV
  have HA : Hid (Below u.heap.size u (u.alloc (.cells #[.string NF, .int .i64 kF, .bool kpF, .int .i64 alF, .string BF, .slice aF nF cF] 24))) := Lib.hid ((Below.refl _ u).alloc (Nat.le_refl _) _)
  have HRV : Hid (RB (u.alloc (.cells #[.string NF, .int .i64 kF, .bool kpF, .int .i64 alF, .string BF, .slice aF nF cF] 24)) V #[.string NF, .int .i64 kF, .bool kpF, .int .i64 alF, .string BF, .slice aF nF cF] 24) := Lib.hid (by rw [hV]; exact (MapKept.heap_alloc u _).1)
  clear hV
  replace HRX := Lib.hid (HRX.out.next HA.out)
  replace HRY := Lib.hid (HRY.out.next HA.out)
  replace HRZ := Lib.hid (HRZ.out.next HA.out)
  replace HRQ := Lib.hid (HRQ.out.next HA.out)
  replace HSA := Lib.hid (HSA.out.next HA.out)
  replace HSP := Lib.hid (HSP.out.next HA.out)
  replace HSC := Lib.hid (HSC.out.next HA.out)
  replace HSF := Lib.hid (HSF.out.next HA.out)
  go_wp2_with fail
  try rw [← HEV.out]
  generalize (u.alloc (.cells #[.string NF, .int .i64 kF, .bool kpF, .int .i64 alF, .string BF, .slice aF nF cF] 24)) = W at HA HRX HRY HRZ HRQ HRV HSA HSP HSC HSF ⊢
  replace HB : Hid (Below w.heap.size w W) := Lib.hid (after HB.out HA.out)
  clear HA HEV
  refine (HG.out _ (HT.out.next HB.out)).mono ?_
  rintro e u ⟨rfl, hb⟩
  replace HB := Lib.hid (after HB.out hb)
  replace HRX := Lib.hid (HRX.out.next hb)
  replace HRY := Lib.hid (HRY.out.next hb)
  replace HRZ := Lib.hid (HRZ.out.next hb)
  replace HRQ := Lib.hid (HRQ.out.next hb)
  replace HRV := Lib.hid (HRV.out.next hb)
  replace HSA := Lib.hid (HSA.out.next hb)
  replace HSP := Lib.hid (HSP.out.next hb)
  replace HSC := Lib.hid (HSC.out.next hb)
  replace HSF := Lib.hid (HSF.out.next hb)
  clear hb
  go_wp2
  go_ret
  exact retB_bool rfl HB.out
set_option maxRecDepth 100000 in
set_option maxHeartbeats 2000000 in
theorem pTw_km (N B D E : ByteArray) (k : Int) (kp : Bool) (al : Int) (a : Option Addr) (n c : Nat) (l : List Rl) (na nb : Int) (w : World) (hs : SL rlC 4 w w.heap.size a n l) (hz : a = none → n = 0 ∧ c = 0) (hn : n ≤ 1000000) (hg : GoodB N k al B l) (hD : D.size ≤ 140737488351232) (hE : E.size ≤ 140737488351232) (hT : TabP w) (hbig : bigS B.size n N.size = false) (hlong : ¬ (5000 : Int) < (D.size : Int) + E.size) (NA BA : ByteArray) (kA : Int) (kpA : Bool) (alA : Int) (nA : Nat) (lA : List Rl) (eA : Int) (hA : pPutL ⟨N.data.toList, k, kp, al, B.data.toList, l⟩ D.data.toList = (⟨NA.data.toList, kA, kpA, alA, BA.data.toList, lA⟩, eA)) (mA : nA = lA.length) (NP BP : ByteArray) (kP : Int) (kpP : Bool) (alP : Int) (nP : Nat) (lP : List Rl) (eP : Int) (hP : pPutL ⟨NA.data.toList, kA, kpA, alA, BA.data.toList, lA⟩ E.data.toList = (⟨NP.data.toList, kP, kpP, alP, BP.data.toList, lP⟩, eP)) (mP : nP = lP.length) (NC BC : ByteArray) (kC : Int) (kpC : Bool) (alC : Int) (nC : Nat) (lC : List Rl) (eC : Int) (hC : pPutL ⟨N.data.toList, k, kp, al, B.data.toList, l⟩ (D.data.toList ++ E.data.toList) = (⟨NC.data.toList, kC, kpC, alC, BC.data.toList, lC⟩, eC)) (mC : nC = lC.length) (NF BF : ByteArray) (kF : Int) (kpF : Bool) (alF : Int) (nF : Nat) (lF : List Rl) (eF : Int) (hF : pAlignL ⟨N.data.toList, k, kp, al, B.data.toList, l⟩ na = (⟨NF.data.toList, kF, kpF, alF, BF.data.toList, lF⟩, eF)) (mF : nF = lF.length) (e0 : eA = 0) (f0 : eF = 0) (f1 : nb < 0) : Calls Tryz.prog 5 #[.agg #[.string N, .int .i64 k, .bool kp, .int .i64 al, .string B, .slice a n c], .string D, .string E, .int .i64 na, .int .i64 nb] w (RetB (.bool true) w) := by
  subst e0
  have hPC : (⟨NP.data.toList, kP, kpP, alP, BP.data.toList, lP⟩, eP) = ((⟨NC.data.toList, kC, kpC, alC, BC.data.toList, lC⟩, eC) : Sc × Int) := by rw [← hP, ← hC]; exact two_put hA
  simp only [Prod.mk.injEq, Sc.mk.injEq] at hPC
  obtain ⟨⟨q1, q2, q3, q4, q5, q6⟩, q7⟩ := hPC
  replace q1 : NP = NC := ByteArray.ext (Array.toList_inj.1 q1)
  replace q5 : BP = BC := ByteArray.ext (Array.toList_inj.1 q5)
  subst q1 q2 q3 q4 q5 q6 q7
  obtain rfl : nP = nC := mP.trans mC.symm
  have hnP : nP ≤ 1000000 := by
    have : lP.length ≤ l.length ∨ lP = [] := by
      rcases put_grows (hg.sc kp) (D.data.toList ++ E.data.toList) with ⟨h1, h2⟩ | ⟨-, h2, -⟩
      · rw [hC] at h1; simp only at h1; subst h1
        obtain ⟨-, -, h⟩ := put_right hC
        simp only [Sc.mk.injEq] at h
        exact .inl (by rw [h.2.2.2.2.2]; exact Nat.le_refl _)
      · rw [hC] at h2; simp only [Sc.mk.injEq] at h2; exact .inr h2.2.2.2.2.2
    have := hs.len
    rcases ‹_ ∨ _› with h | h
    · omega
    · rw [mP, h]; simp
  have HSame1 : Hid (∀ u a a' c c', SL rlC 4 u u.heap.size a nP lP → SL rlC 4 u u.heap.size a' nP lP → Calls Tryz.prog 15 #[.agg #[.string NP, .int .i64 kP, .bool kpP, .int .i64 alP, .string BP, .slice a nP c], .agg #[.string NP, .int .i64 kP, .bool kpP, .int .i64 alP, .string BP, .slice a' nP c']] u (RetB (.bool true) u)) := Lib.hid fun u a a' c c' h h' => rSame_is NP BP kP kpP alP a a' nP c c' lP u hnP h h'
  subst f0
  have HBig : Hid (∀ u, Calls Tryz.prog 17 #[.agg #[.string N, .int .i64 k, .bool kp, .int .i64 al, .string B, .slice a n c]] u (RetB (.bool false) u)) := Lib.hid fun u => by
    have := rBig_any N B k kp al a n c u
    rwa [hbig] at this
  have HB : Hid (Below w.heap.size w w) := Lib.hid (Below.refl _ w)
  have HT := Lib.hid hT
  have HS := Lib.hid hs
  have HG := Lib.hid (fun u (hu : TabP u) => grown_is u hu)
  have hw : IntKind.i64.wrap ((D.size : Int) + E.size) = (D.size : Int) + E.size := by rw [IntKind.wrap_i64]; omega
  have hDi : (D.size : Int) ≤ 140737488351232 := by omega
  have hEi : (E.size : Int) ≤ 140737488351232 := by omega
  have gA : GoodB NA kA alA BA lA := by have := (put_grows (hg.sc kp) D.data.toList).good; rw [hA] at this; exact GoodSc.b this
  have gF : GoodB NF kF alF BF lF := by have := (align_grows (hg.sc kp) na).good; rw [hF] at this; exact GoodSc.b this
  have hDE : (D ++ E).size = D.size + E.size := ByteArray.size_append
  have hDEi : ((D ++ E : ByteArray).size : Int) = (D.size : Int) + E.size := by rw [hDE]; omega
  have H1 : Hid (∀ u, Below w.heap.size w u → Calls Tryz.prog 18 #[.agg #[.string N, .int .i64 k, .bool kp, .int .i64 al, .string B, .slice a n c], .string D] u (GotB u NA kA kpA alA BA nA lA 0)) := Lib.hid fun u hu =>
    (pPut_any N B D k kp al a n c l u (hs.next hu) hz hg.name hg.data hg.rels (by omega) (hT.next hu)).mono fun e v h => h.got hA mA
  have H2 : Hid (∀ u a c, TabP u → SL rlC 4 u u.heap.size a nA lA → (a = none → nA = 0 ∧ c = 0) → Calls Tryz.prog 18 #[.agg #[.string NA, .int .i64 kA, .bool kpA, .int .i64 alA, .string BA, .slice a nA c], .string E] u (GotB u NP kP kpP alP BP nP lP eP)) := Lib.hid fun u a c hu hs hz =>
    (pPut_any NA BA E kA kpA alA a nA c lA u hs hz gA.name gA.data gA.rels (by omega) hu).mono fun e v h => h.got hP mP
  have H3 : Hid (∀ u, Below w.heap.size w u → Calls Tryz.prog 18 #[.agg #[.string N, .int .i64 k, .bool kp, .int .i64 al, .string B, .slice a n c], .string (D ++ E)] u (GotB u NP kP kpP alP BP nP lP eP)) := Lib.hid fun u hu => by
    have := pPut_any N B (D ++ E) k kp al a n c l u (hs.next hu) hz hg.name hg.data hg.rels (by omega) (hT.next hu)
    rw [cat_list] at this
    exact this.mono fun e v h => h.got hC mC
  have H4 : Hid (∀ u, Below w.heap.size w u → Calls Tryz.prog 19 #[.agg #[.string N, .int .i64 k, .bool kp, .int .i64 al, .string B, .slice a n c], .int .i64 na] u (GotB u NF kF kpF alF BF nF lF 0)) := Lib.hid fun u hu =>
    (pAlign_any N B k kp al a n c l na u (hs.next hu) hz hg.name hg.data hg.rels (hT.next hu)).mono fun e v h => h.got hF mF
  clear hnP
  clear hs hz hn hg hT hbig hA hP hC hF mA mP mC mF gA gF hDE
  go_enter Tryz.func5, Tryz.ntmps5
  obtain ⟨X, hX⟩ : ∃ X, X = w.heap.size := ⟨_, rfl⟩
  have HEX := Lib.hid hX
  have HA : Hid (Below w.heap.size w (w.alloc (.cells #[.string N, .int .i64 k, .bool kp, .int .i64 al, .string B, .slice a n c] 24))) := Lib.hid ((Below.refl _ w).alloc (Nat.le_refl _) _)
  have HRX : Hid (RB (w.alloc (.cells #[.string N, .int .i64 k, .bool kp, .int .i64 al, .string B, .slice a n c] 24)) X #[.string N, .int .i64 k, .bool kp, .int .i64 al, .string B, .slice a n c] 24) := Lib.hid (by rw [hX]; exact (MapKept.heap_alloc w _).1)
  clear hX
  go_wp2_with fail
  try rw [← HEX.out]
  generalize (w.alloc (.cells #[.string N, .int .i64 k, .bool kp, .int .i64 al, .string B, .slice a n c] 24)) = W at HA HRX ⊢
  replace HB : Hid (Below w.heap.size w W) := Lib.hid (after HB.out HA.out)
  clear HA HEX
  refine (HBig.out _).mono ?_
  rintro e u ⟨rfl, hb⟩
  replace HB := Lib.hid (after HB.out hb)
  replace HRX := Lib.hid (HRX.out.next hb)
  clear hb
  have x_0 : u.cell? ⟨X, 0, none⟩ = some (.string N) := HRX.out.cell
  have x_1 : u.cell? ⟨X, 1, none⟩ = some (.int .i64 k) := HRX.out.cell
  have x_2 : u.cell? ⟨X, 2, none⟩ = some (.bool kp) := HRX.out.cell
  have x_3 : u.cell? ⟨X, 3, none⟩ = some (.int .i64 al) := HRX.out.cell
  have x_4 : u.cell? ⟨X, 4, none⟩ = some (.string B) := HRX.out.cell
  have x_5 : u.cell? ⟨X, 5, none⟩ = some (.slice a n c) := HRX.out.cell
  go_wp2_with fail
  clear x_0 x_1 x_2 x_3 x_4 x_5
  refine (H1.out _ HB.out).mono ?_
  rintro e u ⟨aA, cA, rfl, hs, hz, hc, hb⟩
  replace HB := Lib.hid (after HB.out hb)
  replace HRX := Lib.hid (HRX.out.next hb)
  have HSA := Lib.hid hs
  have HZA := Lib.hid hz
  clear hb hs hz hc
  obtain ⟨Y, hY⟩ : ∃ Y, Y = u.heap.size := ⟨_, rfl⟩
  have HEY := Lib.hid hY
  have HA : Hid (Below u.heap.size u (u.alloc (.cells #[.string NA, .int .i64 kA, .bool kpA, .int .i64 alA, .string BA, .slice aA nA cA] 24))) := Lib.hid ((Below.refl _ u).alloc (Nat.le_refl _) _)
  have HRY : Hid (RB (u.alloc (.cells #[.string NA, .int .i64 kA, .bool kpA, .int .i64 alA, .string BA, .slice aA nA cA] 24)) Y #[.string NA, .int .i64 kA, .bool kpA, .int .i64 alA, .string BA, .slice aA nA cA] 24) := Lib.hid (by rw [hY]; exact (MapKept.heap_alloc u _).1)
  clear hY
  replace HRX := Lib.hid (HRX.out.next HA.out)
  replace HSA := Lib.hid (HSA.out.next HA.out)
  go_wp2_with fail
  try rw [← HEY.out]
  generalize (u.alloc (.cells #[.string NA, .int .i64 kA, .bool kpA, .int .i64 alA, .string BA, .slice aA nA cA] 24)) = W at HA HRX HRY HSA ⊢
  replace HB : Hid (Below w.heap.size w W) := Lib.hid (after HB.out HA.out)
  clear HA HEY
  refine (H2.out _ aA cA (HT.out.next HB.out) HSA.out HZA.out).mono ?_
  rintro e u ⟨aP, cP, rfl, hs, hz, hc, hb⟩
  replace HB := Lib.hid (after HB.out hb)
  replace HRX := Lib.hid (HRX.out.next hb)
  replace HRY := Lib.hid (HRY.out.next hb)
  replace HSA := Lib.hid (HSA.out.next hb)
  have HSP := Lib.hid hs
  clear hb hs hz hc
  obtain ⟨Z, hZ⟩ : ∃ Z, Z = u.heap.size := ⟨_, rfl⟩
  have HEZ := Lib.hid hZ
  have HA : Hid (Below u.heap.size u (u.alloc (.cells #[.string NP, .int .i64 kP, .bool kpP, .int .i64 alP, .string BP, .slice aP nP cP] 24))) := Lib.hid ((Below.refl _ u).alloc (Nat.le_refl _) _)
  have HRZ : Hid (RB (u.alloc (.cells #[.string NP, .int .i64 kP, .bool kpP, .int .i64 alP, .string BP, .slice aP nP cP] 24)) Z #[.string NP, .int .i64 kP, .bool kpP, .int .i64 alP, .string BP, .slice aP nP cP] 24) := Lib.hid (by rw [hZ]; exact (MapKept.heap_alloc u _).1)
  clear hZ
  replace HRX := Lib.hid (HRX.out.next HA.out)
  replace HRY := Lib.hid (HRY.out.next HA.out)
  replace HSA := Lib.hid (HSA.out.next HA.out)
  replace HSP := Lib.hid (HSP.out.next HA.out)
  have x_0 : (u.alloc (.cells #[.string NP, .int .i64 kP, .bool kpP, .int .i64 alP, .string BP, .slice aP nP cP] 24)).cell? ⟨X, 0, none⟩ = some (.string N) := HRX.out.cell
  have x_1 : (u.alloc (.cells #[.string NP, .int .i64 kP, .bool kpP, .int .i64 alP, .string BP, .slice aP nP cP] 24)).cell? ⟨X, 1, none⟩ = some (.int .i64 k) := HRX.out.cell
  have x_2 : (u.alloc (.cells #[.string NP, .int .i64 kP, .bool kpP, .int .i64 alP, .string BP, .slice aP nP cP] 24)).cell? ⟨X, 2, none⟩ = some (.bool kp) := HRX.out.cell
  have x_3 : (u.alloc (.cells #[.string NP, .int .i64 kP, .bool kpP, .int .i64 alP, .string BP, .slice aP nP cP] 24)).cell? ⟨X, 3, none⟩ = some (.int .i64 al) := HRX.out.cell
  have x_4 : (u.alloc (.cells #[.string NP, .int .i64 kP, .bool kpP, .int .i64 alP, .string BP, .slice aP nP cP] 24)).cell? ⟨X, 4, none⟩ = some (.string B) := HRX.out.cell
  have x_5 : (u.alloc (.cells #[.string NP, .int .i64 kP, .bool kpP, .int .i64 alP, .string BP, .slice aP nP cP] 24)).cell? ⟨X, 5, none⟩ = some (.slice a n c) := HRX.out.cell
  go_wp2_with fail
  clear x_0 x_1 x_2 x_3 x_4 x_5
  try rw [← HEZ.out]
  generalize (u.alloc (.cells #[.string NP, .int .i64 kP, .bool kpP, .int .i64 alP, .string BP, .slice aP nP cP] 24)) = W at HA HRX HRY HRZ HSA HSP ⊢
  replace HB : Hid (Below w.heap.size w W) := Lib.hid (after HB.out HA.out)
  clear HA HEZ
  refine (H3.out _ HB.out).mono ?_
  rintro e u ⟨aC, cC, rfl, hs, hz, hc, hb⟩
  replace HB := Lib.hid (after HB.out hb)
  replace HRX := Lib.hid (HRX.out.next hb)
  replace HRY := Lib.hid (HRY.out.next hb)
  replace HRZ := Lib.hid (HRZ.out.next hb)
  replace HSA := Lib.hid (HSA.out.next hb)
  replace HSP := Lib.hid (HSP.out.next hb)
  have HSC := Lib.hid hs
  clear hb hs hz hc
  obtain ⟨Q, hQ⟩ : ∃ Q, Q = u.heap.size := ⟨_, rfl⟩
  have HEQ := Lib.hid hQ
  have HA : Hid (Below u.heap.size u (u.alloc (.cells #[.string NP, .int .i64 kP, .bool kpP, .int .i64 alP, .string BP, .slice aC nP cC] 24))) := Lib.hid ((Below.refl _ u).alloc (Nat.le_refl _) _)
  have HRQ : Hid (RB (u.alloc (.cells #[.string NP, .int .i64 kP, .bool kpP, .int .i64 alP, .string BP, .slice aC nP cC] 24)) Q #[.string NP, .int .i64 kP, .bool kpP, .int .i64 alP, .string BP, .slice aC nP cC] 24) := Lib.hid (by rw [hQ]; exact (MapKept.heap_alloc u _).1)
  clear hQ
  replace HRX := Lib.hid (HRX.out.next HA.out)
  replace HRY := Lib.hid (HRY.out.next HA.out)
  replace HRZ := Lib.hid (HRZ.out.next HA.out)
  replace HSA := Lib.hid (HSA.out.next HA.out)
  replace HSP := Lib.hid (HSP.out.next HA.out)
  replace HSC := Lib.hid (HSC.out.next HA.out)
  have z_0 : (u.alloc (.cells #[.string NP, .int .i64 kP, .bool kpP, .int .i64 alP, .string BP, .slice aC nP cC] 24)).cell? ⟨Z, 0, none⟩ = some (.string NP) := HRZ.out.cell
  have z_1 : (u.alloc (.cells #[.string NP, .int .i64 kP, .bool kpP, .int .i64 alP, .string BP, .slice aC nP cC] 24)).cell? ⟨Z, 1, none⟩ = some (.int .i64 kP) := HRZ.out.cell
  have z_2 : (u.alloc (.cells #[.string NP, .int .i64 kP, .bool kpP, .int .i64 alP, .string BP, .slice aC nP cC] 24)).cell? ⟨Z, 2, none⟩ = some (.bool kpP) := HRZ.out.cell
  have z_3 : (u.alloc (.cells #[.string NP, .int .i64 kP, .bool kpP, .int .i64 alP, .string BP, .slice aC nP cC] 24)).cell? ⟨Z, 3, none⟩ = some (.int .i64 alP) := HRZ.out.cell
  have z_4 : (u.alloc (.cells #[.string NP, .int .i64 kP, .bool kpP, .int .i64 alP, .string BP, .slice aC nP cC] 24)).cell? ⟨Z, 4, none⟩ = some (.string BP) := HRZ.out.cell
  have z_5 : (u.alloc (.cells #[.string NP, .int .i64 kP, .bool kpP, .int .i64 alP, .string BP, .slice aC nP cC] 24)).cell? ⟨Z, 5, none⟩ = some (.slice aP nP cP) := HRZ.out.cell
  go_wp2_with fail
  clear z_0 z_1 z_2 z_3 z_4 z_5
  try rw [← HEQ.out]
  generalize (u.alloc (.cells #[.string NP, .int .i64 kP, .bool kpP, .int .i64 alP, .string BP, .slice aC nP cC] 24)) = W at HA HRX HRY HRZ HRQ HSA HSP HSC ⊢
  replace HB : Hid (Below w.heap.size w W) := Lib.hid (after HB.out HA.out)
  clear HA HEQ
  refine (HSame1.out _ aP aC cP cC HSP.out HSC.out).mono ?_
  rintro e u ⟨rfl, hb⟩
  replace HB := Lib.hid (after HB.out hb)
  replace HRX := Lib.hid (HRX.out.next hb)
  replace HRY := Lib.hid (HRY.out.next hb)
  replace HRZ := Lib.hid (HRZ.out.next hb)
  replace HRQ := Lib.hid (HRQ.out.next hb)
  replace HSA := Lib.hid (HSA.out.next hb)
  replace HSP := Lib.hid (HSP.out.next hb)
  replace HSC := Lib.hid (HSC.out.next hb)
  clear hb
  have x_0 : u.cell? ⟨X, 0, none⟩ = some (.string N) := HRX.out.cell
  have x_1 : u.cell? ⟨X, 1, none⟩ = some (.int .i64 k) := HRX.out.cell
  have x_2 : u.cell? ⟨X, 2, none⟩ = some (.bool kp) := HRX.out.cell
  have x_3 : u.cell? ⟨X, 3, none⟩ = some (.int .i64 al) := HRX.out.cell
  have x_4 : u.cell? ⟨X, 4, none⟩ = some (.string B) := HRX.out.cell
  have x_5 : u.cell? ⟨X, 5, none⟩ = some (.slice a n c) := HRX.out.cell
  go_wp2_with fail
  clear x_0 x_1 x_2 x_3 x_4 x_5
  refine (H4.out _ HB.out).mono ?_
  rintro e u ⟨aF, cF, rfl, hs, hz, hc, hb⟩
  replace HB := Lib.hid (after HB.out hb)
  replace HRX := Lib.hid (HRX.out.next hb)
  replace HRY := Lib.hid (HRY.out.next hb)
  replace HRZ := Lib.hid (HRZ.out.next hb)
  replace HRQ := Lib.hid (HRQ.out.next hb)
  replace HSA := Lib.hid (HSA.out.next hb)
  replace HSP := Lib.hid (HSP.out.next hb)
  replace HSC := Lib.hid (HSC.out.next hb)
  have HSF := Lib.hid hs
  have HZF := Lib.hid hz
  clear hb hs hz hc
  obtain ⟨V, hV⟩ : ∃ V, V = u.heap.size := ⟨_, rfl⟩
  have HEV := Lib.hid hV
  have HA : Hid (Below u.heap.size u (u.alloc (.cells #[.string NF, .int .i64 kF, .bool kpF, .int .i64 alF, .string BF, .slice aF nF cF] 24))) := Lib.hid ((Below.refl _ u).alloc (Nat.le_refl _) _)
  have HRV : Hid (RB (u.alloc (.cells #[.string NF, .int .i64 kF, .bool kpF, .int .i64 alF, .string BF, .slice aF nF cF] 24)) V #[.string NF, .int .i64 kF, .bool kpF, .int .i64 alF, .string BF, .slice aF nF cF] 24) := Lib.hid (by rw [hV]; exact (MapKept.heap_alloc u _).1)
  clear hV
  replace HRX := Lib.hid (HRX.out.next HA.out)
  replace HRY := Lib.hid (HRY.out.next HA.out)
  replace HRZ := Lib.hid (HRZ.out.next HA.out)
  replace HRQ := Lib.hid (HRQ.out.next HA.out)
  replace HSA := Lib.hid (HSA.out.next HA.out)
  replace HSP := Lib.hid (HSP.out.next HA.out)
  replace HSC := Lib.hid (HSC.out.next HA.out)
  replace HSF := Lib.hid (HSF.out.next HA.out)
  go_wp2_with fail
  try rw [← HEV.out]
  generalize (u.alloc (.cells #[.string NF, .int .i64 kF, .bool kpF, .int .i64 alF, .string BF, .slice aF nF cF] 24)) = W at HA HRX HRY HRZ HRQ HRV HSA HSP HSC HSF ⊢
  replace HB : Hid (Below w.heap.size w W) := Lib.hid (after HB.out HA.out)
  clear HA HEV
  refine (HG.out _ (HT.out.next HB.out)).mono ?_
  rintro e u ⟨rfl, hb⟩
  replace HB := Lib.hid (after HB.out hb)
  replace HRX := Lib.hid (HRX.out.next hb)
  replace HRY := Lib.hid (HRY.out.next hb)
  replace HRZ := Lib.hid (HRZ.out.next hb)
  replace HRQ := Lib.hid (HRQ.out.next hb)
  replace HRV := Lib.hid (HRV.out.next hb)
  replace HSA := Lib.hid (HSA.out.next hb)
  replace HSP := Lib.hid (HSP.out.next hb)
  replace HSC := Lib.hid (HSC.out.next hb)
  replace HSF := Lib.hid (HSF.out.next hb)
  clear hb
  go_wp2
  go_ret
  exact retB_bool rfl HB.out
set_option maxRecDepth 100000 in
set_option maxHeartbeats 2000000 in
theorem pTw_kn (N B D E : ByteArray) (k : Int) (kp : Bool) (al : Int) (a : Option Addr) (n c : Nat) (l : List Rl) (na nb : Int) (w : World) (hs : SL rlC 4 w w.heap.size a n l) (hz : a = none → n = 0 ∧ c = 0) (hn : n ≤ 1000000) (hg : GoodB N k al B l) (hD : D.size ≤ 140737488351232) (hE : E.size ≤ 140737488351232) (hT : TabP w) (hbig : bigS B.size n N.size = false) (hlong : ¬ (5000 : Int) < (D.size : Int) + E.size) (NA BA : ByteArray) (kA : Int) (kpA : Bool) (alA : Int) (nA : Nat) (lA : List Rl) (eA : Int) (hA : pPutL ⟨N.data.toList, k, kp, al, B.data.toList, l⟩ D.data.toList = (⟨NA.data.toList, kA, kpA, alA, BA.data.toList, lA⟩, eA)) (mA : nA = lA.length) (NP BP : ByteArray) (kP : Int) (kpP : Bool) (alP : Int) (nP : Nat) (lP : List Rl) (eP : Int) (hP : pPutL ⟨NA.data.toList, kA, kpA, alA, BA.data.toList, lA⟩ E.data.toList = (⟨NP.data.toList, kP, kpP, alP, BP.data.toList, lP⟩, eP)) (mP : nP = lP.length) (NC BC : ByteArray) (kC : Int) (kpC : Bool) (alC : Int) (nC : Nat) (lC : List Rl) (eC : Int) (hC : pPutL ⟨N.data.toList, k, kp, al, B.data.toList, l⟩ (D.data.toList ++ E.data.toList) = (⟨NC.data.toList, kC, kpC, alC, BC.data.toList, lC⟩, eC)) (mC : nC = lC.length) (NF BF : ByteArray) (kF : Int) (kpF : Bool) (alF : Int) (nF : Nat) (lF : List Rl) (eF : Int) (hF : pAlignL ⟨N.data.toList, k, kp, al, B.data.toList, l⟩ na = (⟨NF.data.toList, kF, kpF, alF, BF.data.toList, lF⟩, eF)) (mF : nF = lF.length) (e0 : eA = 0) (f0 : eF = 0) (f2 : 0 ≤ nb) (f3 : na < nb) : Calls Tryz.prog 5 #[.agg #[.string N, .int .i64 k, .bool kp, .int .i64 al, .string B, .slice a n c], .string D, .string E, .int .i64 na, .int .i64 nb] w (RetB (.bool true) w) := by
  subst e0
  have hPC : (⟨NP.data.toList, kP, kpP, alP, BP.data.toList, lP⟩, eP) = ((⟨NC.data.toList, kC, kpC, alC, BC.data.toList, lC⟩, eC) : Sc × Int) := by rw [← hP, ← hC]; exact two_put hA
  simp only [Prod.mk.injEq, Sc.mk.injEq] at hPC
  obtain ⟨⟨q1, q2, q3, q4, q5, q6⟩, q7⟩ := hPC
  replace q1 : NP = NC := ByteArray.ext (Array.toList_inj.1 q1)
  replace q5 : BP = BC := ByteArray.ext (Array.toList_inj.1 q5)
  subst q1 q2 q3 q4 q5 q6 q7
  obtain rfl : nP = nC := mP.trans mC.symm
  have hnP : nP ≤ 1000000 := by
    have : lP.length ≤ l.length ∨ lP = [] := by
      rcases put_grows (hg.sc kp) (D.data.toList ++ E.data.toList) with ⟨h1, h2⟩ | ⟨-, h2, -⟩
      · rw [hC] at h1; simp only at h1; subst h1
        obtain ⟨-, -, h⟩ := put_right hC
        simp only [Sc.mk.injEq] at h
        exact .inl (by rw [h.2.2.2.2.2]; exact Nat.le_refl _)
      · rw [hC] at h2; simp only [Sc.mk.injEq] at h2; exact .inr h2.2.2.2.2.2
    have := hs.len
    rcases ‹_ ∨ _› with h | h
    · omega
    · rw [mP, h]; simp
  have HSame1 : Hid (∀ u a a' c c', SL rlC 4 u u.heap.size a nP lP → SL rlC 4 u u.heap.size a' nP lP → Calls Tryz.prog 15 #[.agg #[.string NP, .int .i64 kP, .bool kpP, .int .i64 alP, .string BP, .slice a nP c], .agg #[.string NP, .int .i64 kP, .bool kpP, .int .i64 alP, .string BP, .slice a' nP c']] u (RetB (.bool true) u)) := Lib.hid fun u a a' c c' h h' => rSame_is NP BP kP kpP alP a a' nP c c' lP u hnP h h'
  subst f0
  have HBig : Hid (∀ u, Calls Tryz.prog 17 #[.agg #[.string N, .int .i64 k, .bool kp, .int .i64 al, .string B, .slice a n c]] u (RetB (.bool false) u)) := Lib.hid fun u => by
    have := rBig_any N B k kp al a n c u
    rwa [hbig] at this
  have HB : Hid (Below w.heap.size w w) := Lib.hid (Below.refl _ w)
  have HT := Lib.hid hT
  have HS := Lib.hid hs
  have HG := Lib.hid (fun u (hu : TabP u) => grown_is u hu)
  have hw : IntKind.i64.wrap ((D.size : Int) + E.size) = (D.size : Int) + E.size := by rw [IntKind.wrap_i64]; omega
  have hDi : (D.size : Int) ≤ 140737488351232 := by omega
  have hEi : (E.size : Int) ≤ 140737488351232 := by omega
  have gA : GoodB NA kA alA BA lA := by have := (put_grows (hg.sc kp) D.data.toList).good; rw [hA] at this; exact GoodSc.b this
  have gF : GoodB NF kF alF BF lF := by have := (align_grows (hg.sc kp) na).good; rw [hF] at this; exact GoodSc.b this
  have hDE : (D ++ E).size = D.size + E.size := ByteArray.size_append
  have hDEi : ((D ++ E : ByteArray).size : Int) = (D.size : Int) + E.size := by rw [hDE]; omega
  have H1 : Hid (∀ u, Below w.heap.size w u → Calls Tryz.prog 18 #[.agg #[.string N, .int .i64 k, .bool kp, .int .i64 al, .string B, .slice a n c], .string D] u (GotB u NA kA kpA alA BA nA lA 0)) := Lib.hid fun u hu =>
    (pPut_any N B D k kp al a n c l u (hs.next hu) hz hg.name hg.data hg.rels (by omega) (hT.next hu)).mono fun e v h => h.got hA mA
  have H2 : Hid (∀ u a c, TabP u → SL rlC 4 u u.heap.size a nA lA → (a = none → nA = 0 ∧ c = 0) → Calls Tryz.prog 18 #[.agg #[.string NA, .int .i64 kA, .bool kpA, .int .i64 alA, .string BA, .slice a nA c], .string E] u (GotB u NP kP kpP alP BP nP lP eP)) := Lib.hid fun u a c hu hs hz =>
    (pPut_any NA BA E kA kpA alA a nA c lA u hs hz gA.name gA.data gA.rels (by omega) hu).mono fun e v h => h.got hP mP
  have H3 : Hid (∀ u, Below w.heap.size w u → Calls Tryz.prog 18 #[.agg #[.string N, .int .i64 k, .bool kp, .int .i64 al, .string B, .slice a n c], .string (D ++ E)] u (GotB u NP kP kpP alP BP nP lP eP)) := Lib.hid fun u hu => by
    have := pPut_any N B (D ++ E) k kp al a n c l u (hs.next hu) hz hg.name hg.data hg.rels (by omega) (hT.next hu)
    rw [cat_list] at this
    exact this.mono fun e v h => h.got hC mC
  have H4 : Hid (∀ u, Below w.heap.size w u → Calls Tryz.prog 19 #[.agg #[.string N, .int .i64 k, .bool kp, .int .i64 al, .string B, .slice a n c], .int .i64 na] u (GotB u NF kF kpF alF BF nF lF 0)) := Lib.hid fun u hu =>
    (pAlign_any N B k kp al a n c l na u (hs.next hu) hz hg.name hg.data hg.rels (hT.next hu)).mono fun e v h => h.got hF mF
  have f1 : ¬ nb < 0 := by omega
  clear hnP
  clear hs hz hn hg hT hbig hA hP hC hF mA mP mC mF gA gF hDE
  go_enter Tryz.func5, Tryz.ntmps5
  obtain ⟨X, hX⟩ : ∃ X, X = w.heap.size := ⟨_, rfl⟩
  have HEX := Lib.hid hX
  have HA : Hid (Below w.heap.size w (w.alloc (.cells #[.string N, .int .i64 k, .bool kp, .int .i64 al, .string B, .slice a n c] 24))) := Lib.hid ((Below.refl _ w).alloc (Nat.le_refl _) _)
  have HRX : Hid (RB (w.alloc (.cells #[.string N, .int .i64 k, .bool kp, .int .i64 al, .string B, .slice a n c] 24)) X #[.string N, .int .i64 k, .bool kp, .int .i64 al, .string B, .slice a n c] 24) := Lib.hid (by rw [hX]; exact (MapKept.heap_alloc w _).1)
  clear hX
  go_wp2_with fail
  try rw [← HEX.out]
  generalize (w.alloc (.cells #[.string N, .int .i64 k, .bool kp, .int .i64 al, .string B, .slice a n c] 24)) = W at HA HRX ⊢
  replace HB : Hid (Below w.heap.size w W) := Lib.hid (after HB.out HA.out)
  clear HA HEX
  refine (HBig.out _).mono ?_
  rintro e u ⟨rfl, hb⟩
  replace HB := Lib.hid (after HB.out hb)
  replace HRX := Lib.hid (HRX.out.next hb)
  clear hb
  have x_0 : u.cell? ⟨X, 0, none⟩ = some (.string N) := HRX.out.cell
  have x_1 : u.cell? ⟨X, 1, none⟩ = some (.int .i64 k) := HRX.out.cell
  have x_2 : u.cell? ⟨X, 2, none⟩ = some (.bool kp) := HRX.out.cell
  have x_3 : u.cell? ⟨X, 3, none⟩ = some (.int .i64 al) := HRX.out.cell
  have x_4 : u.cell? ⟨X, 4, none⟩ = some (.string B) := HRX.out.cell
  have x_5 : u.cell? ⟨X, 5, none⟩ = some (.slice a n c) := HRX.out.cell
  go_wp2_with fail
  clear x_0 x_1 x_2 x_3 x_4 x_5
  refine (H1.out _ HB.out).mono ?_
  rintro e u ⟨aA, cA, rfl, hs, hz, hc, hb⟩
  replace HB := Lib.hid (after HB.out hb)
  replace HRX := Lib.hid (HRX.out.next hb)
  have HSA := Lib.hid hs
  have HZA := Lib.hid hz
  clear hb hs hz hc
  obtain ⟨Y, hY⟩ : ∃ Y, Y = u.heap.size := ⟨_, rfl⟩
  have HEY := Lib.hid hY
  have HA : Hid (Below u.heap.size u (u.alloc (.cells #[.string NA, .int .i64 kA, .bool kpA, .int .i64 alA, .string BA, .slice aA nA cA] 24))) := Lib.hid ((Below.refl _ u).alloc (Nat.le_refl _) _)
  have HRY : Hid (RB (u.alloc (.cells #[.string NA, .int .i64 kA, .bool kpA, .int .i64 alA, .string BA, .slice aA nA cA] 24)) Y #[.string NA, .int .i64 kA, .bool kpA, .int .i64 alA, .string BA, .slice aA nA cA] 24) := Lib.hid (by rw [hY]; exact (MapKept.heap_alloc u _).1)
  clear hY
  replace HRX := Lib.hid (HRX.out.next HA.out)
  replace HSA := Lib.hid (HSA.out.next HA.out)
  go_wp2_with fail
  try rw [← HEY.out]
  generalize (u.alloc (.cells #[.string NA, .int .i64 kA, .bool kpA, .int .i64 alA, .string BA, .slice aA nA cA] 24)) = W at HA HRX HRY HSA ⊢
  replace HB : Hid (Below w.heap.size w W) := Lib.hid (after HB.out HA.out)
  clear HA HEY
  refine (H2.out _ aA cA (HT.out.next HB.out) HSA.out HZA.out).mono ?_
  rintro e u ⟨aP, cP, rfl, hs, hz, hc, hb⟩
  replace HB := Lib.hid (after HB.out hb)
  replace HRX := Lib.hid (HRX.out.next hb)
  replace HRY := Lib.hid (HRY.out.next hb)
  replace HSA := Lib.hid (HSA.out.next hb)
  have HSP := Lib.hid hs
  clear hb hs hz hc
  obtain ⟨Z, hZ⟩ : ∃ Z, Z = u.heap.size := ⟨_, rfl⟩
  have HEZ := Lib.hid hZ
  have HA : Hid (Below u.heap.size u (u.alloc (.cells #[.string NP, .int .i64 kP, .bool kpP, .int .i64 alP, .string BP, .slice aP nP cP] 24))) := Lib.hid ((Below.refl _ u).alloc (Nat.le_refl _) _)
  have HRZ : Hid (RB (u.alloc (.cells #[.string NP, .int .i64 kP, .bool kpP, .int .i64 alP, .string BP, .slice aP nP cP] 24)) Z #[.string NP, .int .i64 kP, .bool kpP, .int .i64 alP, .string BP, .slice aP nP cP] 24) := Lib.hid (by rw [hZ]; exact (MapKept.heap_alloc u _).1)
  clear hZ
  replace HRX := Lib.hid (HRX.out.next HA.out)
  replace HRY := Lib.hid (HRY.out.next HA.out)
  replace HSA := Lib.hid (HSA.out.next HA.out)
  replace HSP := Lib.hid (HSP.out.next HA.out)
  have x_0 : (u.alloc (.cells #[.string NP, .int .i64 kP, .bool kpP, .int .i64 alP, .string BP, .slice aP nP cP] 24)).cell? ⟨X, 0, none⟩ = some (.string N) := HRX.out.cell
  have x_1 : (u.alloc (.cells #[.string NP, .int .i64 kP, .bool kpP, .int .i64 alP, .string BP, .slice aP nP cP] 24)).cell? ⟨X, 1, none⟩ = some (.int .i64 k) := HRX.out.cell
  have x_2 : (u.alloc (.cells #[.string NP, .int .i64 kP, .bool kpP, .int .i64 alP, .string BP, .slice aP nP cP] 24)).cell? ⟨X, 2, none⟩ = some (.bool kp) := HRX.out.cell
  have x_3 : (u.alloc (.cells #[.string NP, .int .i64 kP, .bool kpP, .int .i64 alP, .string BP, .slice aP nP cP] 24)).cell? ⟨X, 3, none⟩ = some (.int .i64 al) := HRX.out.cell
  have x_4 : (u.alloc (.cells #[.string NP, .int .i64 kP, .bool kpP, .int .i64 alP, .string BP, .slice aP nP cP] 24)).cell? ⟨X, 4, none⟩ = some (.string B) := HRX.out.cell
  have x_5 : (u.alloc (.cells #[.string NP, .int .i64 kP, .bool kpP, .int .i64 alP, .string BP, .slice aP nP cP] 24)).cell? ⟨X, 5, none⟩ = some (.slice a n c) := HRX.out.cell
  go_wp2_with fail
  clear x_0 x_1 x_2 x_3 x_4 x_5
  try rw [← HEZ.out]
  generalize (u.alloc (.cells #[.string NP, .int .i64 kP, .bool kpP, .int .i64 alP, .string BP, .slice aP nP cP] 24)) = W at HA HRX HRY HRZ HSA HSP ⊢
  replace HB : Hid (Below w.heap.size w W) := Lib.hid (after HB.out HA.out)
  clear HA HEZ
  refine (H3.out _ HB.out).mono ?_
  rintro e u ⟨aC, cC, rfl, hs, hz, hc, hb⟩
  replace HB := Lib.hid (after HB.out hb)
  replace HRX := Lib.hid (HRX.out.next hb)
  replace HRY := Lib.hid (HRY.out.next hb)
  replace HRZ := Lib.hid (HRZ.out.next hb)
  replace HSA := Lib.hid (HSA.out.next hb)
  replace HSP := Lib.hid (HSP.out.next hb)
  have HSC := Lib.hid hs
  clear hb hs hz hc
  obtain ⟨Q, hQ⟩ : ∃ Q, Q = u.heap.size := ⟨_, rfl⟩
  have HEQ := Lib.hid hQ
  have HA : Hid (Below u.heap.size u (u.alloc (.cells #[.string NP, .int .i64 kP, .bool kpP, .int .i64 alP, .string BP, .slice aC nP cC] 24))) := Lib.hid ((Below.refl _ u).alloc (Nat.le_refl _) _)
  have HRQ : Hid (RB (u.alloc (.cells #[.string NP, .int .i64 kP, .bool kpP, .int .i64 alP, .string BP, .slice aC nP cC] 24)) Q #[.string NP, .int .i64 kP, .bool kpP, .int .i64 alP, .string BP, .slice aC nP cC] 24) := Lib.hid (by rw [hQ]; exact (MapKept.heap_alloc u _).1)
  clear hQ
  replace HRX := Lib.hid (HRX.out.next HA.out)
  replace HRY := Lib.hid (HRY.out.next HA.out)
  replace HRZ := Lib.hid (HRZ.out.next HA.out)
  replace HSA := Lib.hid (HSA.out.next HA.out)
  replace HSP := Lib.hid (HSP.out.next HA.out)
  replace HSC := Lib.hid (HSC.out.next HA.out)
  have z_0 : (u.alloc (.cells #[.string NP, .int .i64 kP, .bool kpP, .int .i64 alP, .string BP, .slice aC nP cC] 24)).cell? ⟨Z, 0, none⟩ = some (.string NP) := HRZ.out.cell
  have z_1 : (u.alloc (.cells #[.string NP, .int .i64 kP, .bool kpP, .int .i64 alP, .string BP, .slice aC nP cC] 24)).cell? ⟨Z, 1, none⟩ = some (.int .i64 kP) := HRZ.out.cell
  have z_2 : (u.alloc (.cells #[.string NP, .int .i64 kP, .bool kpP, .int .i64 alP, .string BP, .slice aC nP cC] 24)).cell? ⟨Z, 2, none⟩ = some (.bool kpP) := HRZ.out.cell
  have z_3 : (u.alloc (.cells #[.string NP, .int .i64 kP, .bool kpP, .int .i64 alP, .string BP, .slice aC nP cC] 24)).cell? ⟨Z, 3, none⟩ = some (.int .i64 alP) := HRZ.out.cell
  have z_4 : (u.alloc (.cells #[.string NP, .int .i64 kP, .bool kpP, .int .i64 alP, .string BP, .slice aC nP cC] 24)).cell? ⟨Z, 4, none⟩ = some (.string BP) := HRZ.out.cell
  have z_5 : (u.alloc (.cells #[.string NP, .int .i64 kP, .bool kpP, .int .i64 alP, .string BP, .slice aC nP cC] 24)).cell? ⟨Z, 5, none⟩ = some (.slice aP nP cP) := HRZ.out.cell
  go_wp2_with fail
  clear z_0 z_1 z_2 z_3 z_4 z_5
  try rw [← HEQ.out]
  generalize (u.alloc (.cells #[.string NP, .int .i64 kP, .bool kpP, .int .i64 alP, .string BP, .slice aC nP cC] 24)) = W at HA HRX HRY HRZ HRQ HSA HSP HSC ⊢
  replace HB : Hid (Below w.heap.size w W) := Lib.hid (after HB.out HA.out)
  clear HA HEQ
  refine (HSame1.out _ aP aC cP cC HSP.out HSC.out).mono ?_
  rintro e u ⟨rfl, hb⟩
  replace HB := Lib.hid (after HB.out hb)
  replace HRX := Lib.hid (HRX.out.next hb)
  replace HRY := Lib.hid (HRY.out.next hb)
  replace HRZ := Lib.hid (HRZ.out.next hb)
  replace HRQ := Lib.hid (HRQ.out.next hb)
  replace HSA := Lib.hid (HSA.out.next hb)
  replace HSP := Lib.hid (HSP.out.next hb)
  replace HSC := Lib.hid (HSC.out.next hb)
  clear hb
  have x_0 : u.cell? ⟨X, 0, none⟩ = some (.string N) := HRX.out.cell
  have x_1 : u.cell? ⟨X, 1, none⟩ = some (.int .i64 k) := HRX.out.cell
  have x_2 : u.cell? ⟨X, 2, none⟩ = some (.bool kp) := HRX.out.cell
  have x_3 : u.cell? ⟨X, 3, none⟩ = some (.int .i64 al) := HRX.out.cell
  have x_4 : u.cell? ⟨X, 4, none⟩ = some (.string B) := HRX.out.cell
  have x_5 : u.cell? ⟨X, 5, none⟩ = some (.slice a n c) := HRX.out.cell
  go_wp2_with fail
  clear x_0 x_1 x_2 x_3 x_4 x_5
  refine (H4.out _ HB.out).mono ?_
  rintro e u ⟨aF, cF, rfl, hs, hz, hc, hb⟩
  replace HB := Lib.hid (after HB.out hb)
  replace HRX := Lib.hid (HRX.out.next hb)
  replace HRY := Lib.hid (HRY.out.next hb)
  replace HRZ := Lib.hid (HRZ.out.next hb)
  replace HRQ := Lib.hid (HRQ.out.next hb)
  replace HSA := Lib.hid (HSA.out.next hb)
  replace HSP := Lib.hid (HSP.out.next hb)
  replace HSC := Lib.hid (HSC.out.next hb)
  have HSF := Lib.hid hs
  have HZF := Lib.hid hz
  clear hb hs hz hc
  obtain ⟨V, hV⟩ : ∃ V, V = u.heap.size := ⟨_, rfl⟩
  have HEV := Lib.hid hV
  have HA : Hid (Below u.heap.size u (u.alloc (.cells #[.string NF, .int .i64 kF, .bool kpF, .int .i64 alF, .string BF, .slice aF nF cF] 24))) := Lib.hid ((Below.refl _ u).alloc (Nat.le_refl _) _)
  have HRV : Hid (RB (u.alloc (.cells #[.string NF, .int .i64 kF, .bool kpF, .int .i64 alF, .string BF, .slice aF nF cF] 24)) V #[.string NF, .int .i64 kF, .bool kpF, .int .i64 alF, .string BF, .slice aF nF cF] 24) := Lib.hid (by rw [hV]; exact (MapKept.heap_alloc u _).1)
  clear hV
  replace HRX := Lib.hid (HRX.out.next HA.out)
  replace HRY := Lib.hid (HRY.out.next HA.out)
  replace HRZ := Lib.hid (HRZ.out.next HA.out)
  replace HRQ := Lib.hid (HRQ.out.next HA.out)
  replace HSA := Lib.hid (HSA.out.next HA.out)
  replace HSP := Lib.hid (HSP.out.next HA.out)
  replace HSC := Lib.hid (HSC.out.next HA.out)
  replace HSF := Lib.hid (HSF.out.next HA.out)
  go_wp2_with fail
  try rw [← HEV.out]
  generalize (u.alloc (.cells #[.string NF, .int .i64 kF, .bool kpF, .int .i64 alF, .string BF, .slice aF nF cF] 24)) = W at HA HRX HRY HRZ HRQ HRV HSA HSP HSC HSF ⊢
  replace HB : Hid (Below w.heap.size w W) := Lib.hid (after HB.out HA.out)
  clear HA HEV
  refine (HG.out _ (HT.out.next HB.out)).mono ?_
  rintro e u ⟨rfl, hb⟩
  replace HB := Lib.hid (after HB.out hb)
  replace HRX := Lib.hid (HRX.out.next hb)
  replace HRY := Lib.hid (HRY.out.next hb)
  replace HRZ := Lib.hid (HRZ.out.next hb)
  replace HRQ := Lib.hid (HRQ.out.next hb)
  replace HRV := Lib.hid (HRV.out.next hb)
  replace HSA := Lib.hid (HSA.out.next hb)
  replace HSP := Lib.hid (HSP.out.next hb)
  replace HSC := Lib.hid (HSC.out.next hb)
  replace HSF := Lib.hid (HSF.out.next hb)
  clear hb
  go_wp2
  go_ret
  exact retB_bool rfl HB.out
set_option maxRecDepth 100000 in
set_option maxHeartbeats 2000000 in
theorem pTw_ky (N B D E : ByteArray) (k : Int) (kp : Bool) (al : Int) (a : Option Addr) (n c : Nat) (l : List Rl) (na nb : Int) (w : World) (hs : SL rlC 4 w w.heap.size a n l) (hz : a = none → n = 0 ∧ c = 0) (hn : n ≤ 1000000) (hg : GoodB N k al B l) (hD : D.size ≤ 140737488351232) (hE : E.size ≤ 140737488351232) (hT : TabP w) (hbig : bigS B.size n N.size = false) (hlong : ¬ (5000 : Int) < (D.size : Int) + E.size) (NA BA : ByteArray) (kA : Int) (kpA : Bool) (alA : Int) (nA : Nat) (lA : List Rl) (eA : Int) (hA : pPutL ⟨N.data.toList, k, kp, al, B.data.toList, l⟩ D.data.toList = (⟨NA.data.toList, kA, kpA, alA, BA.data.toList, lA⟩, eA)) (mA : nA = lA.length) (NP BP : ByteArray) (kP : Int) (kpP : Bool) (alP : Int) (nP : Nat) (lP : List Rl) (eP : Int) (hP : pPutL ⟨NA.data.toList, kA, kpA, alA, BA.data.toList, lA⟩ E.data.toList = (⟨NP.data.toList, kP, kpP, alP, BP.data.toList, lP⟩, eP)) (mP : nP = lP.length) (NC BC : ByteArray) (kC : Int) (kpC : Bool) (alC : Int) (nC : Nat) (lC : List Rl) (eC : Int) (hC : pPutL ⟨N.data.toList, k, kp, al, B.data.toList, l⟩ (D.data.toList ++ E.data.toList) = (⟨NC.data.toList, kC, kpC, alC, BC.data.toList, lC⟩, eC)) (mC : nC = lC.length) (NF BF : ByteArray) (kF : Int) (kpF : Bool) (alF : Int) (nF : Nat) (lF : List Rl) (eF : Int) (hF : pAlignL ⟨N.data.toList, k, kp, al, B.data.toList, l⟩ na = (⟨NF.data.toList, kF, kpF, alF, BF.data.toList, lF⟩, eF)) (mF : nF = lF.length) (e0 : eA = 0) (f0 : eF = 0) (f2 : 0 ≤ nb) (f3 : nb ≤ na) : Calls Tryz.prog 5 #[.agg #[.string N, .int .i64 k, .bool kp, .int .i64 al, .string B, .slice a n c], .string D, .string E, .int .i64 na, .int .i64 nb] w (RetB (.bool true) w) := by
  subst e0
  have hPC : (⟨NP.data.toList, kP, kpP, alP, BP.data.toList, lP⟩, eP) = ((⟨NC.data.toList, kC, kpC, alC, BC.data.toList, lC⟩, eC) : Sc × Int) := by rw [← hP, ← hC]; exact two_put hA
  simp only [Prod.mk.injEq, Sc.mk.injEq] at hPC
  obtain ⟨⟨q1, q2, q3, q4, q5, q6⟩, q7⟩ := hPC
  replace q1 : NP = NC := ByteArray.ext (Array.toList_inj.1 q1)
  replace q5 : BP = BC := ByteArray.ext (Array.toList_inj.1 q5)
  subst q1 q2 q3 q4 q5 q6 q7
  obtain rfl : nP = nC := mP.trans mC.symm
  have hnP : nP ≤ 1000000 := by
    have : lP.length ≤ l.length ∨ lP = [] := by
      rcases put_grows (hg.sc kp) (D.data.toList ++ E.data.toList) with ⟨h1, h2⟩ | ⟨-, h2, -⟩
      · rw [hC] at h1; simp only at h1; subst h1
        obtain ⟨-, -, h⟩ := put_right hC
        simp only [Sc.mk.injEq] at h
        exact .inl (by rw [h.2.2.2.2.2]; exact Nat.le_refl _)
      · rw [hC] at h2; simp only [Sc.mk.injEq] at h2; exact .inr h2.2.2.2.2.2
    have := hs.len
    rcases ‹_ ∨ _› with h | h
    · omega
    · rw [mP, h]; simp
  have HSame1 : Hid (∀ u a a' c c', SL rlC 4 u u.heap.size a nP lP → SL rlC 4 u u.heap.size a' nP lP → Calls Tryz.prog 15 #[.agg #[.string NP, .int .i64 kP, .bool kpP, .int .i64 alP, .string BP, .slice a nP c], .agg #[.string NP, .int .i64 kP, .bool kpP, .int .i64 alP, .string BP, .slice a' nP c']] u (RetB (.bool true) u)) := Lib.hid fun u a a' c c' h h' => rSame_is NP BP kP kpP alP a a' nP c c' lP u hnP h h'
  subst f0
  have HBig : Hid (∀ u, Calls Tryz.prog 17 #[.agg #[.string N, .int .i64 k, .bool kp, .int .i64 al, .string B, .slice a n c]] u (RetB (.bool false) u)) := Lib.hid fun u => by
    have := rBig_any N B k kp al a n c u
    rwa [hbig] at this
  have HB : Hid (Below w.heap.size w w) := Lib.hid (Below.refl _ w)
  have HT := Lib.hid hT
  have HS := Lib.hid hs
  have HG := Lib.hid (fun u (hu : TabP u) => grown_is u hu)
  have hw : IntKind.i64.wrap ((D.size : Int) + E.size) = (D.size : Int) + E.size := by rw [IntKind.wrap_i64]; omega
  have hDi : (D.size : Int) ≤ 140737488351232 := by omega
  have hEi : (E.size : Int) ≤ 140737488351232 := by omega
  have gA : GoodB NA kA alA BA lA := by have := (put_grows (hg.sc kp) D.data.toList).good; rw [hA] at this; exact GoodSc.b this
  have gF : GoodB NF kF alF BF lF := by have := (align_grows (hg.sc kp) na).good; rw [hF] at this; exact GoodSc.b this
  have hDE : (D ++ E).size = D.size + E.size := ByteArray.size_append
  have hDEi : ((D ++ E : ByteArray).size : Int) = (D.size : Int) + E.size := by rw [hDE]; omega
  have H1 : Hid (∀ u, Below w.heap.size w u → Calls Tryz.prog 18 #[.agg #[.string N, .int .i64 k, .bool kp, .int .i64 al, .string B, .slice a n c], .string D] u (GotB u NA kA kpA alA BA nA lA 0)) := Lib.hid fun u hu =>
    (pPut_any N B D k kp al a n c l u (hs.next hu) hz hg.name hg.data hg.rels (by omega) (hT.next hu)).mono fun e v h => h.got hA mA
  have H2 : Hid (∀ u a c, TabP u → SL rlC 4 u u.heap.size a nA lA → (a = none → nA = 0 ∧ c = 0) → Calls Tryz.prog 18 #[.agg #[.string NA, .int .i64 kA, .bool kpA, .int .i64 alA, .string BA, .slice a nA c], .string E] u (GotB u NP kP kpP alP BP nP lP eP)) := Lib.hid fun u a c hu hs hz =>
    (pPut_any NA BA E kA kpA alA a nA c lA u hs hz gA.name gA.data gA.rels (by omega) hu).mono fun e v h => h.got hP mP
  have H3 : Hid (∀ u, Below w.heap.size w u → Calls Tryz.prog 18 #[.agg #[.string N, .int .i64 k, .bool kp, .int .i64 al, .string B, .slice a n c], .string (D ++ E)] u (GotB u NP kP kpP alP BP nP lP eP)) := Lib.hid fun u hu => by
    have := pPut_any N B (D ++ E) k kp al a n c l u (hs.next hu) hz hg.name hg.data hg.rels (by omega) (hT.next hu)
    rw [cat_list] at this
    exact this.mono fun e v h => h.got hC mC
  have H4 : Hid (∀ u, Below w.heap.size w u → Calls Tryz.prog 19 #[.agg #[.string N, .int .i64 k, .bool kp, .int .i64 al, .string B, .slice a n c], .int .i64 na] u (GotB u NF kF kpF alF BF nF lF 0)) := Lib.hid fun u hu =>
    (pAlign_any N B k kp al a n c l na u (hs.next hu) hz hg.name hg.data hg.rels (hT.next hu)).mono fun e v h => h.got hF mF
  have f1 : ¬ nb < 0 := by omega
  have f4 : ¬ na < nb := by omega
  obtain ⟨-, p1, p2, -, -⟩ := align_right hF
  have hnF : nF ≤ 1000000 := by
    obtain ⟨-, -, -, -, h⟩ := align_right hF
    simp only [Sc.mk.injEq] at h
    rw [mF, h.2.2.2.2.2, ← hs.len]; exact hn
  have H5 : Hid (∀ u a c, TabP u → SL rlC 4 u u.heap.size a nF lF → (a = none → nF = 0 ∧ c = 0) → Calls Tryz.prog 19 #[.agg #[.string NF, .int .i64 kF, .bool kpF, .int .i64 alF, .string BF, .slice a nF c], .int .i64 na] u (GotB u NF kF kpF alF BF nF lF 0)) := Lib.hid fun u a c hu hs hz =>
    (pAlign_any NF BF kF kpF alF a nF c lF na u hs hz gF.name gF.data gF.rels hu).mono fun e v h => h.got (twice hF p1 (Int.le_refl _)) mF
  have H6 : Hid (∀ u a c, TabP u → SL rlC 4 u u.heap.size a nF lF → (a = none → nF = 0 ∧ c = 0) → Calls Tryz.prog 19 #[.agg #[.string NF, .int .i64 kF, .bool kpF, .int .i64 alF, .string BF, .slice a nF c], .int .i64 nb] u (GotB u NF kF kpF alF BF nF lF 0)) := Lib.hid fun u a c hu hs hz =>
    (pAlign_any NF BF kF kpF alF a nF c lF nb u hs hz gF.name gF.data gF.rels hu).mono fun e v h => h.got (twice hF f2 f3) mF
  have HSame2 : Hid (∀ u a a' c c', SL rlC 4 u u.heap.size a nF lF → SL rlC 4 u u.heap.size a' nF lF → Calls Tryz.prog 15 #[.agg #[.string NF, .int .i64 kF, .bool kpF, .int .i64 alF, .string BF, .slice a nF c], .agg #[.string NF, .int .i64 kF, .bool kpF, .int .i64 alF, .string BF, .slice a' nF c']] u (RetB (.bool true) u)) := Lib.hid fun u a a' c c' h h' => rSame_is NF BF kF kpF alF a a' nF c c' lF u hnF h h'
  clear p1 p2 hnF
  clear hnP
  clear hs hz hn hg hT hbig hA hP hC hF mA mP mC mF gA gF hDE
  go_enter Tryz.func5, Tryz.ntmps5
  obtain ⟨X, hX⟩ : ∃ X, X = w.heap.size := ⟨_, rfl⟩
  have HEX := Lib.hid hX
  have HA : Hid (Below w.heap.size w (w.alloc (.cells #[.string N, .int .i64 k, .bool kp, .int .i64 al, .string B, .slice a n c] 24))) := Lib.hid ((Below.refl _ w).alloc (Nat.le_refl _) _)
  have HRX : Hid (RB (w.alloc (.cells #[.string N, .int .i64 k, .bool kp, .int .i64 al, .string B, .slice a n c] 24)) X #[.string N, .int .i64 k, .bool kp, .int .i64 al, .string B, .slice a n c] 24) := Lib.hid (by rw [hX]; exact (MapKept.heap_alloc w _).1)
  clear hX
  go_wp2_with fail
  try rw [← HEX.out]
  generalize (w.alloc (.cells #[.string N, .int .i64 k, .bool kp, .int .i64 al, .string B, .slice a n c] 24)) = W at HA HRX ⊢
  replace HB : Hid (Below w.heap.size w W) := Lib.hid (after HB.out HA.out)
  clear HA HEX
  refine (HBig.out _).mono ?_
  rintro e u ⟨rfl, hb⟩
  replace HB := Lib.hid (after HB.out hb)
  replace HRX := Lib.hid (HRX.out.next hb)
  clear hb
  have x_0 : u.cell? ⟨X, 0, none⟩ = some (.string N) := HRX.out.cell
  have x_1 : u.cell? ⟨X, 1, none⟩ = some (.int .i64 k) := HRX.out.cell
  have x_2 : u.cell? ⟨X, 2, none⟩ = some (.bool kp) := HRX.out.cell
  have x_3 : u.cell? ⟨X, 3, none⟩ = some (.int .i64 al) := HRX.out.cell
  have x_4 : u.cell? ⟨X, 4, none⟩ = some (.string B) := HRX.out.cell
  have x_5 : u.cell? ⟨X, 5, none⟩ = some (.slice a n c) := HRX.out.cell
  go_wp2_with fail
  clear x_0 x_1 x_2 x_3 x_4 x_5
  refine (H1.out _ HB.out).mono ?_
  rintro e u ⟨aA, cA, rfl, hs, hz, hc, hb⟩
  replace HB := Lib.hid (after HB.out hb)
  replace HRX := Lib.hid (HRX.out.next hb)
  have HSA := Lib.hid hs
  have HZA := Lib.hid hz
  clear hb hs hz hc
  obtain ⟨Y, hY⟩ : ∃ Y, Y = u.heap.size := ⟨_, rfl⟩
  have HEY := Lib.hid hY
  have HA : Hid (Below u.heap.size u (u.alloc (.cells #[.string NA, .int .i64 kA, .bool kpA, .int .i64 alA, .string BA, .slice aA nA cA] 24))) := Lib.hid ((Below.refl _ u).alloc (Nat.le_refl _) _)
  have HRY : Hid (RB (u.alloc (.cells #[.string NA, .int .i64 kA, .bool kpA, .int .i64 alA, .string BA, .slice aA nA cA] 24)) Y #[.string NA, .int .i64 kA, .bool kpA, .int .i64 alA, .string BA, .slice aA nA cA] 24) := Lib.hid (by rw [hY]; exact (MapKept.heap_alloc u _).1)
  clear hY
  replace HRX := Lib.hid (HRX.out.next HA.out)
  replace HSA := Lib.hid (HSA.out.next HA.out)
  go_wp2_with fail
  try rw [← HEY.out]
  generalize (u.alloc (.cells #[.string NA, .int .i64 kA, .bool kpA, .int .i64 alA, .string BA, .slice aA nA cA] 24)) = W at HA HRX HRY HSA ⊢
  replace HB : Hid (Below w.heap.size w W) := Lib.hid (after HB.out HA.out)
  clear HA HEY
  refine (H2.out _ aA cA (HT.out.next HB.out) HSA.out HZA.out).mono ?_
  rintro e u ⟨aP, cP, rfl, hs, hz, hc, hb⟩
  replace HB := Lib.hid (after HB.out hb)
  replace HRX := Lib.hid (HRX.out.next hb)
  replace HRY := Lib.hid (HRY.out.next hb)
  replace HSA := Lib.hid (HSA.out.next hb)
  have HSP := Lib.hid hs
  clear hb hs hz hc
  obtain ⟨Z, hZ⟩ : ∃ Z, Z = u.heap.size := ⟨_, rfl⟩
  have HEZ := Lib.hid hZ
  have HA : Hid (Below u.heap.size u (u.alloc (.cells #[.string NP, .int .i64 kP, .bool kpP, .int .i64 alP, .string BP, .slice aP nP cP] 24))) := Lib.hid ((Below.refl _ u).alloc (Nat.le_refl _) _)
  have HRZ : Hid (RB (u.alloc (.cells #[.string NP, .int .i64 kP, .bool kpP, .int .i64 alP, .string BP, .slice aP nP cP] 24)) Z #[.string NP, .int .i64 kP, .bool kpP, .int .i64 alP, .string BP, .slice aP nP cP] 24) := Lib.hid (by rw [hZ]; exact (MapKept.heap_alloc u _).1)
  clear hZ
  replace HRX := Lib.hid (HRX.out.next HA.out)
  replace HRY := Lib.hid (HRY.out.next HA.out)
  replace HSA := Lib.hid (HSA.out.next HA.out)
  replace HSP := Lib.hid (HSP.out.next HA.out)
  have x_0 : (u.alloc (.cells #[.string NP, .int .i64 kP, .bool kpP, .int .i64 alP, .string BP, .slice aP nP cP] 24)).cell? ⟨X, 0, none⟩ = some (.string N) := HRX.out.cell
  have x_1 : (u.alloc (.cells #[.string NP, .int .i64 kP, .bool kpP, .int .i64 alP, .string BP, .slice aP nP cP] 24)).cell? ⟨X, 1, none⟩ = some (.int .i64 k) := HRX.out.cell
  have x_2 : (u.alloc (.cells #[.string NP, .int .i64 kP, .bool kpP, .int .i64 alP, .string BP, .slice aP nP cP] 24)).cell? ⟨X, 2, none⟩ = some (.bool kp) := HRX.out.cell
  have x_3 : (u.alloc (.cells #[.string NP, .int .i64 kP, .bool kpP, .int .i64 alP, .string BP, .slice aP nP cP] 24)).cell? ⟨X, 3, none⟩ = some (.int .i64 al) := HRX.out.cell
  have x_4 : (u.alloc (.cells #[.string NP, .int .i64 kP, .bool kpP, .int .i64 alP, .string BP, .slice aP nP cP] 24)).cell? ⟨X, 4, none⟩ = some (.string B) := HRX.out.cell
  have x_5 : (u.alloc (.cells #[.string NP, .int .i64 kP, .bool kpP, .int .i64 alP, .string BP, .slice aP nP cP] 24)).cell? ⟨X, 5, none⟩ = some (.slice a n c) := HRX.out.cell
  go_wp2_with fail
  clear x_0 x_1 x_2 x_3 x_4 x_5
  try rw [← HEZ.out]
  generalize (u.alloc (.cells #[.string NP, .int .i64 kP, .bool kpP, .int .i64 alP, .string BP, .slice aP nP cP] 24)) = W at HA HRX HRY HRZ HSA HSP ⊢
  replace HB : Hid (Below w.heap.size w W) := Lib.hid (after HB.out HA.out)
  clear HA HEZ
  refine (H3.out _ HB.out).mono ?_
  rintro e u ⟨aC, cC, rfl, hs, hz, hc, hb⟩
  replace HB := Lib.hid (after HB.out hb)
  replace HRX := Lib.hid (HRX.out.next hb)
  replace HRY := Lib.hid (HRY.out.next hb)
  replace HRZ := Lib.hid (HRZ.out.next hb)
  replace HSA := Lib.hid (HSA.out.next hb)
  replace HSP := Lib.hid (HSP.out.next hb)
  have HSC := Lib.hid hs
  clear hb hs hz hc
  obtain ⟨Q, hQ⟩ : ∃ Q, Q = u.heap.size := ⟨_, rfl⟩
  have HEQ := Lib.hid hQ
  have HA : Hid (Below u.heap.size u (u.alloc (.cells #[.string NP, .int .i64 kP, .bool kpP, .int .i64 alP, .string BP, .slice aC nP cC] 24))) := Lib.hid ((Below.refl _ u).alloc (Nat.le_refl _) _)
  have HRQ : Hid (RB (u.alloc (.cells #[.string NP, .int .i64 kP, .bool kpP, .int .i64 alP, .string BP, .slice aC nP cC] 24)) Q #[.string NP, .int .i64 kP, .bool kpP, .int .i64 alP, .string BP, .slice aC nP cC] 24) := Lib.hid (by rw [hQ]; exact (MapKept.heap_alloc u _).1)
  clear hQ
  replace HRX := Lib.hid (HRX.out.next HA.out)
  replace HRY := Lib.hid (HRY.out.next HA.out)
  replace HRZ := Lib.hid (HRZ.out.next HA.out)
  replace HSA := Lib.hid (HSA.out.next HA.out)
  replace HSP := Lib.hid (HSP.out.next HA.out)
  replace HSC := Lib.hid (HSC.out.next HA.out)
  have z_0 : (u.alloc (.cells #[.string NP, .int .i64 kP, .bool kpP, .int .i64 alP, .string BP, .slice aC nP cC] 24)).cell? ⟨Z, 0, none⟩ = some (.string NP) := HRZ.out.cell
  have z_1 : (u.alloc (.cells #[.string NP, .int .i64 kP, .bool kpP, .int .i64 alP, .string BP, .slice aC nP cC] 24)).cell? ⟨Z, 1, none⟩ = some (.int .i64 kP) := HRZ.out.cell
  have z_2 : (u.alloc (.cells #[.string NP, .int .i64 kP, .bool kpP, .int .i64 alP, .string BP, .slice aC nP cC] 24)).cell? ⟨Z, 2, none⟩ = some (.bool kpP) := HRZ.out.cell
  have z_3 : (u.alloc (.cells #[.string NP, .int .i64 kP, .bool kpP, .int .i64 alP, .string BP, .slice aC nP cC] 24)).cell? ⟨Z, 3, none⟩ = some (.int .i64 alP) := HRZ.out.cell
  have z_4 : (u.alloc (.cells #[.string NP, .int .i64 kP, .bool kpP, .int .i64 alP, .string BP, .slice aC nP cC] 24)).cell? ⟨Z, 4, none⟩ = some (.string BP) := HRZ.out.cell
  have z_5 : (u.alloc (.cells #[.string NP, .int .i64 kP, .bool kpP, .int .i64 alP, .string BP, .slice aC nP cC] 24)).cell? ⟨Z, 5, none⟩ = some (.slice aP nP cP) := HRZ.out.cell
  go_wp2_with fail
  clear z_0 z_1 z_2 z_3 z_4 z_5
  try rw [← HEQ.out]
  generalize (u.alloc (.cells #[.string NP, .int .i64 kP, .bool kpP, .int .i64 alP, .string BP, .slice aC nP cC] 24)) = W at HA HRX HRY HRZ HRQ HSA HSP HSC ⊢
  replace HB : Hid (Below w.heap.size w W) := Lib.hid (after HB.out HA.out)
  clear HA HEQ
  refine (HSame1.out _ aP aC cP cC HSP.out HSC.out).mono ?_
  rintro e u ⟨rfl, hb⟩
  replace HB := Lib.hid (after HB.out hb)
  replace HRX := Lib.hid (HRX.out.next hb)
  replace HRY := Lib.hid (HRY.out.next hb)
  replace HRZ := Lib.hid (HRZ.out.next hb)
  replace HRQ := Lib.hid (HRQ.out.next hb)
  replace HSA := Lib.hid (HSA.out.next hb)
  replace HSP := Lib.hid (HSP.out.next hb)
  replace HSC := Lib.hid (HSC.out.next hb)
  clear hb
  have x_0 : u.cell? ⟨X, 0, none⟩ = some (.string N) := HRX.out.cell
  have x_1 : u.cell? ⟨X, 1, none⟩ = some (.int .i64 k) := HRX.out.cell
  have x_2 : u.cell? ⟨X, 2, none⟩ = some (.bool kp) := HRX.out.cell
  have x_3 : u.cell? ⟨X, 3, none⟩ = some (.int .i64 al) := HRX.out.cell
  have x_4 : u.cell? ⟨X, 4, none⟩ = some (.string B) := HRX.out.cell
  have x_5 : u.cell? ⟨X, 5, none⟩ = some (.slice a n c) := HRX.out.cell
  go_wp2_with fail
  clear x_0 x_1 x_2 x_3 x_4 x_5
  refine (H4.out _ HB.out).mono ?_
  rintro e u ⟨aF, cF, rfl, hs, hz, hc, hb⟩
  replace HB := Lib.hid (after HB.out hb)
  replace HRX := Lib.hid (HRX.out.next hb)
  replace HRY := Lib.hid (HRY.out.next hb)
  replace HRZ := Lib.hid (HRZ.out.next hb)
  replace HRQ := Lib.hid (HRQ.out.next hb)
  replace HSA := Lib.hid (HSA.out.next hb)
  replace HSP := Lib.hid (HSP.out.next hb)
  replace HSC := Lib.hid (HSC.out.next hb)
  have HSF := Lib.hid hs
  have HZF := Lib.hid hz
  clear hb hs hz hc
  obtain ⟨V, hV⟩ : ∃ V, V = u.heap.size := ⟨_, rfl⟩
  have HEV := Lib.hid hV
  have HA : Hid (Below u.heap.size u (u.alloc (.cells #[.string NF, .int .i64 kF, .bool kpF, .int .i64 alF, .string BF, .slice aF nF cF] 24))) := Lib.hid ((Below.refl _ u).alloc (Nat.le_refl _) _)
  have HRV : Hid (RB (u.alloc (.cells #[.string NF, .int .i64 kF, .bool kpF, .int .i64 alF, .string BF, .slice aF nF cF] 24)) V #[.string NF, .int .i64 kF, .bool kpF, .int .i64 alF, .string BF, .slice aF nF cF] 24) := Lib.hid (by rw [hV]; exact (MapKept.heap_alloc u _).1)
  clear hV
  replace HRX := Lib.hid (HRX.out.next HA.out)
  replace HRY := Lib.hid (HRY.out.next HA.out)
  replace HRZ := Lib.hid (HRZ.out.next HA.out)
  replace HRQ := Lib.hid (HRQ.out.next HA.out)
  replace HSA := Lib.hid (HSA.out.next HA.out)
  replace HSP := Lib.hid (HSP.out.next HA.out)
  replace HSC := Lib.hid (HSC.out.next HA.out)
  replace HSF := Lib.hid (HSF.out.next HA.out)
  go_wp2_with fail
  try rw [← HEV.out]
  generalize (u.alloc (.cells #[.string NF, .int .i64 kF, .bool kpF, .int .i64 alF, .string BF, .slice aF nF cF] 24)) = W at HA HRX HRY HRZ HRQ HRV HSA HSP HSC HSF ⊢
  replace HB : Hid (Below w.heap.size w W) := Lib.hid (after HB.out HA.out)
  clear HA HEV
  refine (H5.out _ aF cF (HT.out.next HB.out) HSF.out HZF.out).mono ?_
  rintro e u ⟨aI, cI, rfl, hs, hz, hc, hb⟩
  replace HB := Lib.hid (after HB.out hb)
  replace HRX := Lib.hid (HRX.out.next hb)
  replace HRY := Lib.hid (HRY.out.next hb)
  replace HRZ := Lib.hid (HRZ.out.next hb)
  replace HRQ := Lib.hid (HRQ.out.next hb)
  replace HRV := Lib.hid (HRV.out.next hb)
  replace HSA := Lib.hid (HSA.out.next hb)
  replace HSP := Lib.hid (HSP.out.next hb)
  replace HSC := Lib.hid (HSC.out.next hb)
  replace HSF := Lib.hid (HSF.out.next hb)
  have HSI := Lib.hid hs
  clear hb hs hz hc
  obtain ⟨I, hI⟩ : ∃ I, I = u.heap.size := ⟨_, rfl⟩
  have HEI := Lib.hid hI
  have HA : Hid (Below u.heap.size u (u.alloc (.cells #[.string NF, .int .i64 kF, .bool kpF, .int .i64 alF, .string BF, .slice aI nF cI] 24))) := Lib.hid ((Below.refl _ u).alloc (Nat.le_refl _) _)
  have HRI : Hid (RB (u.alloc (.cells #[.string NF, .int .i64 kF, .bool kpF, .int .i64 alF, .string BF, .slice aI nF cI] 24)) I #[.string NF, .int .i64 kF, .bool kpF, .int .i64 alF, .string BF, .slice aI nF cI] 24) := Lib.hid (by rw [hI]; exact (MapKept.heap_alloc u _).1)
  clear hI
  replace HRX := Lib.hid (HRX.out.next HA.out)
  replace HRY := Lib.hid (HRY.out.next HA.out)
  replace HRZ := Lib.hid (HRZ.out.next HA.out)
  replace HRQ := Lib.hid (HRQ.out.next HA.out)
  replace HRV := Lib.hid (HRV.out.next HA.out)
  replace HSA := Lib.hid (HSA.out.next HA.out)
  replace HSP := Lib.hid (HSP.out.next HA.out)
  replace HSC := Lib.hid (HSC.out.next HA.out)
  replace HSF := Lib.hid (HSF.out.next HA.out)
  replace HSI := Lib.hid (HSI.out.next HA.out)
  have v_0 : (u.alloc (.cells #[.string NF, .int .i64 kF, .bool kpF, .int .i64 alF, .string BF, .slice aI nF cI] 24)).cell? ⟨V, 0, none⟩ = some (.string NF) := HRV.out.cell
  have v_1 : (u.alloc (.cells #[.string NF, .int .i64 kF, .bool kpF, .int .i64 alF, .string BF, .slice aI nF cI] 24)).cell? ⟨V, 1, none⟩ = some (.int .i64 kF) := HRV.out.cell
  have v_2 : (u.alloc (.cells #[.string NF, .int .i64 kF, .bool kpF, .int .i64 alF, .string BF, .slice aI nF cI] 24)).cell? ⟨V, 2, none⟩ = some (.bool kpF) := HRV.out.cell
  have v_3 : (u.alloc (.cells #[.string NF, .int .i64 kF, .bool kpF, .int .i64 alF, .string BF, .slice aI nF cI] 24)).cell? ⟨V, 3, none⟩ = some (.int .i64 alF) := HRV.out.cell
  have v_4 : (u.alloc (.cells #[.string NF, .int .i64 kF, .bool kpF, .int .i64 alF, .string BF, .slice aI nF cI] 24)).cell? ⟨V, 4, none⟩ = some (.string BF) := HRV.out.cell
  have v_5 : (u.alloc (.cells #[.string NF, .int .i64 kF, .bool kpF, .int .i64 alF, .string BF, .slice aI nF cI] 24)).cell? ⟨V, 5, none⟩ = some (.slice aF nF cF) := HRV.out.cell
  go_wp2_with fail
  clear v_0 v_1 v_2 v_3 v_4 v_5
  try rw [← HEI.out]
  generalize (u.alloc (.cells #[.string NF, .int .i64 kF, .bool kpF, .int .i64 alF, .string BF, .slice aI nF cI] 24)) = W at HA HRX HRY HRZ HRQ HRV HRI HSA HSP HSC HSF HSI ⊢
  replace HB : Hid (Below w.heap.size w W) := Lib.hid (after HB.out HA.out)
  clear HA HEI
  refine (H6.out _ aF cF (HT.out.next HB.out) HSF.out HZF.out).mono ?_
  rintro e u ⟨aK, cK, rfl, hs, hz, hc, hb⟩
  replace HB := Lib.hid (after HB.out hb)
  replace HRX := Lib.hid (HRX.out.next hb)
  replace HRY := Lib.hid (HRY.out.next hb)
  replace HRZ := Lib.hid (HRZ.out.next hb)
  replace HRQ := Lib.hid (HRQ.out.next hb)
  replace HRV := Lib.hid (HRV.out.next hb)
  replace HRI := Lib.hid (HRI.out.next hb)
  replace HSA := Lib.hid (HSA.out.next hb)
  replace HSP := Lib.hid (HSP.out.next hb)
  replace HSC := Lib.hid (HSC.out.next hb)
  replace HSF := Lib.hid (HSF.out.next hb)
  replace HSI := Lib.hid (HSI.out.next hb)
  have HSK := Lib.hid hs
  clear hb hs hz hc
  obtain ⟨K, hK⟩ : ∃ K, K = u.heap.size := ⟨_, rfl⟩
  have HEK := Lib.hid hK
  have HA : Hid (Below u.heap.size u (u.alloc (.cells #[.string NF, .int .i64 kF, .bool kpF, .int .i64 alF, .string BF, .slice aK nF cK] 24))) := Lib.hid ((Below.refl _ u).alloc (Nat.le_refl _) _)
  have HRK : Hid (RB (u.alloc (.cells #[.string NF, .int .i64 kF, .bool kpF, .int .i64 alF, .string BF, .slice aK nF cK] 24)) K #[.string NF, .int .i64 kF, .bool kpF, .int .i64 alF, .string BF, .slice aK nF cK] 24) := Lib.hid (by rw [hK]; exact (MapKept.heap_alloc u _).1)
  clear hK
  replace HRX := Lib.hid (HRX.out.next HA.out)
  replace HRY := Lib.hid (HRY.out.next HA.out)
  replace HRZ := Lib.hid (HRZ.out.next HA.out)
  replace HRQ := Lib.hid (HRQ.out.next HA.out)
  replace HRV := Lib.hid (HRV.out.next HA.out)
  replace HRI := Lib.hid (HRI.out.next HA.out)
  replace HSA := Lib.hid (HSA.out.next HA.out)
  replace HSP := Lib.hid (HSP.out.next HA.out)
  replace HSC := Lib.hid (HSC.out.next HA.out)
  replace HSF := Lib.hid (HSF.out.next HA.out)
  replace HSI := Lib.hid (HSI.out.next HA.out)
  replace HSK := Lib.hid (HSK.out.next HA.out)
  go_wp2_with fail
  try rw [← HEK.out]
  generalize (u.alloc (.cells #[.string NF, .int .i64 kF, .bool kpF, .int .i64 alF, .string BF, .slice aK nF cK] 24)) = W at HA HRX HRY HRZ HRQ HRV HRI HRK HSA HSP HSC HSF HSI HSK ⊢
  replace HB : Hid (Below w.heap.size w W) := Lib.hid (after HB.out HA.out)
  clear HA HEK
  refine (HG.out _ (HT.out.next HB.out)).mono ?_
  rintro e u ⟨rfl, hb⟩
  replace HB := Lib.hid (after HB.out hb)
  replace HRX := Lib.hid (HRX.out.next hb)
  replace HRY := Lib.hid (HRY.out.next hb)
  replace HRZ := Lib.hid (HRZ.out.next hb)
  replace HRQ := Lib.hid (HRQ.out.next hb)
  replace HRV := Lib.hid (HRV.out.next hb)
  replace HRI := Lib.hid (HRI.out.next hb)
  replace HRK := Lib.hid (HRK.out.next hb)
  replace HSA := Lib.hid (HSA.out.next hb)
  replace HSP := Lib.hid (HSP.out.next hb)
  replace HSC := Lib.hid (HSC.out.next hb)
  replace HSF := Lib.hid (HSF.out.next hb)
  replace HSI := Lib.hid (HSI.out.next hb)
  replace HSK := Lib.hid (HSK.out.next hb)
  clear hb
  have v_0 : u.cell? ⟨V, 0, none⟩ = some (.string NF) := HRV.out.cell
  have v_1 : u.cell? ⟨V, 1, none⟩ = some (.int .i64 kF) := HRV.out.cell
  have v_2 : u.cell? ⟨V, 2, none⟩ = some (.bool kpF) := HRV.out.cell
  have v_3 : u.cell? ⟨V, 3, none⟩ = some (.int .i64 alF) := HRV.out.cell
  have v_4 : u.cell? ⟨V, 4, none⟩ = some (.string BF) := HRV.out.cell
  have v_5 : u.cell? ⟨V, 5, none⟩ = some (.slice aF nF cF) := HRV.out.cell
  have i_0 : u.cell? ⟨I, 0, none⟩ = some (.string NF) := HRI.out.cell
  have i_1 : u.cell? ⟨I, 1, none⟩ = some (.int .i64 kF) := HRI.out.cell
  have i_2 : u.cell? ⟨I, 2, none⟩ = some (.bool kpF) := HRI.out.cell
  have i_3 : u.cell? ⟨I, 3, none⟩ = some (.int .i64 alF) := HRI.out.cell
  have i_4 : u.cell? ⟨I, 4, none⟩ = some (.string BF) := HRI.out.cell
  have i_5 : u.cell? ⟨I, 5, none⟩ = some (.slice aI nF cI) := HRI.out.cell
  go_wp2_with fail
  clear v_0 v_1 v_2 v_3 v_4 v_5 i_0 i_1 i_2 i_3 i_4 i_5
  refine (HSame2.out _ aI aF cI cF HSI.out HSF.out).mono ?_
  rintro e u ⟨rfl, hb⟩
  replace HB := Lib.hid (after HB.out hb)
  replace HRX := Lib.hid (HRX.out.next hb)
  replace HRY := Lib.hid (HRY.out.next hb)
  replace HRZ := Lib.hid (HRZ.out.next hb)
  replace HRQ := Lib.hid (HRQ.out.next hb)
  replace HRV := Lib.hid (HRV.out.next hb)
  replace HRI := Lib.hid (HRI.out.next hb)
  replace HRK := Lib.hid (HRK.out.next hb)
  replace HSA := Lib.hid (HSA.out.next hb)
  replace HSP := Lib.hid (HSP.out.next hb)
  replace HSC := Lib.hid (HSC.out.next hb)
  replace HSF := Lib.hid (HSF.out.next hb)
  replace HSI := Lib.hid (HSI.out.next hb)
  replace HSK := Lib.hid (HSK.out.next hb)
  clear hb
  have v_0 : u.cell? ⟨V, 0, none⟩ = some (.string NF) := HRV.out.cell
  have v_1 : u.cell? ⟨V, 1, none⟩ = some (.int .i64 kF) := HRV.out.cell
  have v_2 : u.cell? ⟨V, 2, none⟩ = some (.bool kpF) := HRV.out.cell
  have v_3 : u.cell? ⟨V, 3, none⟩ = some (.int .i64 alF) := HRV.out.cell
  have v_4 : u.cell? ⟨V, 4, none⟩ = some (.string BF) := HRV.out.cell
  have v_5 : u.cell? ⟨V, 5, none⟩ = some (.slice aF nF cF) := HRV.out.cell
  have k_0 : u.cell? ⟨K, 0, none⟩ = some (.string NF) := HRK.out.cell
  have k_1 : u.cell? ⟨K, 1, none⟩ = some (.int .i64 kF) := HRK.out.cell
  have k_2 : u.cell? ⟨K, 2, none⟩ = some (.bool kpF) := HRK.out.cell
  have k_3 : u.cell? ⟨K, 3, none⟩ = some (.int .i64 alF) := HRK.out.cell
  have k_4 : u.cell? ⟨K, 4, none⟩ = some (.string BF) := HRK.out.cell
  have k_5 : u.cell? ⟨K, 5, none⟩ = some (.slice aK nF cK) := HRK.out.cell
  go_wp2_with fail
  clear v_0 v_1 v_2 v_3 v_4 v_5 k_0 k_1 k_2 k_3 k_4 k_5
  refine (HSame2.out _ aK aF cK cF HSK.out HSF.out).mono ?_
  rintro e u ⟨rfl, hb⟩
  replace HB := Lib.hid (after HB.out hb)
  replace HRX := Lib.hid (HRX.out.next hb)
  replace HRY := Lib.hid (HRY.out.next hb)
  replace HRZ := Lib.hid (HRZ.out.next hb)
  replace HRQ := Lib.hid (HRQ.out.next hb)
  replace HRV := Lib.hid (HRV.out.next hb)
  replace HRI := Lib.hid (HRI.out.next hb)
  replace HRK := Lib.hid (HRK.out.next hb)
  replace HSA := Lib.hid (HSA.out.next hb)
  replace HSP := Lib.hid (HSP.out.next hb)
  replace HSC := Lib.hid (HSC.out.next hb)
  replace HSF := Lib.hid (HSF.out.next hb)
  replace HSI := Lib.hid (HSI.out.next hb)
  replace HSK := Lib.hid (HSK.out.next hb)
  clear hb
  go_wp2
  go_ret
  exact retB_bool rfl HB.out
set_option maxRecDepth 100000 in
set_option maxHeartbeats 2000000 in
theorem pTw_eh (N B D E : ByteArray) (k : Int) (kp : Bool) (al : Int) (a : Option Addr) (n c : Nat) (l : List Rl) (na nb : Int) (w : World) (hs : SL rlC 4 w w.heap.size a n l) (hz : a = none → n = 0 ∧ c = 0) (hn : n ≤ 1000000) (hg : GoodB N k al B l) (hD : D.size ≤ 140737488351232) (hE : E.size ≤ 140737488351232) (hT : TabP w) (hbig : bigS B.size n N.size = false) (hlong : ¬ (5000 : Int) < (D.size : Int) + E.size) (NA BA : ByteArray) (kA : Int) (kpA : Bool) (alA : Int) (nA : Nat) (lA : List Rl) (eA : Int) (hA : pPutL ⟨N.data.toList, k, kp, al, B.data.toList, l⟩ D.data.toList = (⟨NA.data.toList, kA, kpA, alA, BA.data.toList, lA⟩, eA)) (mA : nA = lA.length) (NP BP : ByteArray) (kP : Int) (kpP : Bool) (alP : Int) (nP : Nat) (lP : List Rl) (eP : Int) (hP : pPutL ⟨NA.data.toList, kA, kpA, alA, BA.data.toList, lA⟩ E.data.toList = (⟨NP.data.toList, kP, kpP, alP, BP.data.toList, lP⟩, eP)) (mP : nP = lP.length) (NC BC : ByteArray) (kC : Int) (kpC : Bool) (alC : Int) (nC : Nat) (lC : List Rl) (eC : Int) (hC : pPutL ⟨N.data.toList, k, kp, al, B.data.toList, l⟩ (D.data.toList ++ E.data.toList) = (⟨NC.data.toList, kC, kpC, alC, BC.data.toList, lC⟩, eC)) (mC : nC = lC.length) (NF BF : ByteArray) (kF : Int) (kpF : Bool) (alF : Int) (nF : Nat) (lF : List Rl) (eF : Int) (hF : pAlignL ⟨N.data.toList, k, kp, al, B.data.toList, l⟩ na = (⟨NF.data.toList, kF, kpF, alF, BF.data.toList, lF⟩, eF)) (mF : nF = lF.length) (e0 : eA ≠ 0) (f0 : eF ≠ 0) : Calls Tryz.prog 5 #[.agg #[.string N, .int .i64 k, .bool kp, .int .i64 al, .string B, .slice a n c], .string D, .string E, .int .i64 na, .int .i64 nb] w (RetB (.bool true) w) := by
  have hCe : eC = eA := by have := two_err (y := E.data.toList) hA e0; rw [hC] at this; exact this
  subst hCe
  have r1 : (eC == 0) = false := by simp; exact e0
  have r2 : (eC != 0) = true := by simp [bne_iff_ne]; exact e0
  have HBig : Hid (∀ u, Calls Tryz.prog 17 #[.agg #[.string N, .int .i64 k, .bool kp, .int .i64 al, .string B, .slice a n c]] u (RetB (.bool false) u)) := Lib.hid fun u => by
    have := rBig_any N B k kp al a n c u
    rwa [hbig] at this
  have HB : Hid (Below w.heap.size w w) := Lib.hid (Below.refl _ w)
  have HT := Lib.hid hT
  have HS := Lib.hid hs
  have HG := Lib.hid (fun u (hu : TabP u) => grown_is u hu)
  have hw : IntKind.i64.wrap ((D.size : Int) + E.size) = (D.size : Int) + E.size := by rw [IntKind.wrap_i64]; omega
  have hDi : (D.size : Int) ≤ 140737488351232 := by omega
  have hEi : (E.size : Int) ≤ 140737488351232 := by omega
  have gA : GoodB NA kA alA BA lA := by have := (put_grows (hg.sc kp) D.data.toList).good; rw [hA] at this; exact GoodSc.b this
  have gF : GoodB NF kF alF BF lF := by have := (align_grows (hg.sc kp) na).good; rw [hF] at this; exact GoodSc.b this
  have hDE : (D ++ E).size = D.size + E.size := ByteArray.size_append
  have hDEi : ((D ++ E : ByteArray).size : Int) = (D.size : Int) + E.size := by rw [hDE]; omega
  have H1 : Hid (∀ u, Below w.heap.size w u → Calls Tryz.prog 18 #[.agg #[.string N, .int .i64 k, .bool kp, .int .i64 al, .string B, .slice a n c], .string D] u (GotB u NA kA kpA alA BA nA lA eC)) := Lib.hid fun u hu =>
    (pPut_any N B D k kp al a n c l u (hs.next hu) hz hg.name hg.data hg.rels (by omega) (hT.next hu)).mono fun e v h => h.got hA mA
  have H2 : Hid (∀ u a c, TabP u → SL rlC 4 u u.heap.size a nA lA → (a = none → nA = 0 ∧ c = 0) → Calls Tryz.prog 18 #[.agg #[.string NA, .int .i64 kA, .bool kpA, .int .i64 alA, .string BA, .slice a nA c], .string E] u (GotB u NP kP kpP alP BP nP lP eP)) := Lib.hid fun u a c hu hs hz =>
    (pPut_any NA BA E kA kpA alA a nA c lA u hs hz gA.name gA.data gA.rels (by omega) hu).mono fun e v h => h.got hP mP
  have H3 : Hid (∀ u, Below w.heap.size w u → Calls Tryz.prog 18 #[.agg #[.string N, .int .i64 k, .bool kp, .int .i64 al, .string B, .slice a n c], .string (D ++ E)] u (GotB u NC kC kpC alC BC nC lC eC)) := Lib.hid fun u hu => by
    have := pPut_any N B (D ++ E) k kp al a n c l u (hs.next hu) hz hg.name hg.data hg.rels (by omega) (hT.next hu)
    rw [cat_list] at this
    exact this.mono fun e v h => h.got hC mC
  have H4 : Hid (∀ u, Below w.heap.size w u → Calls Tryz.prog 19 #[.agg #[.string N, .int .i64 k, .bool kp, .int .i64 al, .string B, .slice a n c], .int .i64 na] u (GotB u NF kF kpF alF BF nF lF eF)) := Lib.hid fun u hu =>
    (pAlign_any N B k kp al a n c l na u (hs.next hu) hz hg.name hg.data hg.rels (hT.next hu)).mono fun e v h => h.got hF mF
  have r3 : (eF != 0) = true := by simp [bne_iff_ne]; exact f0
  have r4 : (eF == 0) = false := by simp; exact f0
  clear e0
  clear f0
  clear hs hz hn hg hT hbig hA hP hC hF mA mP mC mF gA gF hDE
  go_enter Tryz.func5, Tryz.ntmps5
  obtain ⟨X, hX⟩ : ∃ X, X = w.heap.size := ⟨_, rfl⟩
  have HEX := Lib.hid hX
  have HA : Hid (Below w.heap.size w (w.alloc (.cells #[.string N, .int .i64 k, .bool kp, .int .i64 al, .string B, .slice a n c] 24))) := Lib.hid ((Below.refl _ w).alloc (Nat.le_refl _) _)
  have HRX : Hid (RB (w.alloc (.cells #[.string N, .int .i64 k, .bool kp, .int .i64 al, .string B, .slice a n c] 24)) X #[.string N, .int .i64 k, .bool kp, .int .i64 al, .string B, .slice a n c] 24) := Lib.hid (by rw [hX]; exact (MapKept.heap_alloc w _).1)
  clear hX
  go_wp2_with fail
  try rw [← HEX.out]
  generalize (w.alloc (.cells #[.string N, .int .i64 k, .bool kp, .int .i64 al, .string B, .slice a n c] 24)) = W at HA HRX ⊢
  replace HB : Hid (Below w.heap.size w W) := Lib.hid (after HB.out HA.out)
  clear HA HEX
  refine (HBig.out _).mono ?_
  rintro e u ⟨rfl, hb⟩
  replace HB := Lib.hid (after HB.out hb)
  replace HRX := Lib.hid (HRX.out.next hb)
  clear hb
  have x_0 : u.cell? ⟨X, 0, none⟩ = some (.string N) := HRX.out.cell
  have x_1 : u.cell? ⟨X, 1, none⟩ = some (.int .i64 k) := HRX.out.cell
  have x_2 : u.cell? ⟨X, 2, none⟩ = some (.bool kp) := HRX.out.cell
  have x_3 : u.cell? ⟨X, 3, none⟩ = some (.int .i64 al) := HRX.out.cell
  have x_4 : u.cell? ⟨X, 4, none⟩ = some (.string B) := HRX.out.cell
  have x_5 : u.cell? ⟨X, 5, none⟩ = some (.slice a n c) := HRX.out.cell
  go_wp2_with fail
  clear x_0 x_1 x_2 x_3 x_4 x_5
  refine (H1.out _ HB.out).mono ?_
  rintro e u ⟨aA, cA, rfl, hs, hz, hc, hb⟩
  replace HB := Lib.hid (after HB.out hb)
  replace HRX := Lib.hid (HRX.out.next hb)
  have HSA := Lib.hid hs
  have HZA := Lib.hid hz
  clear hb hs hz hc
  obtain ⟨Y, hY⟩ : ∃ Y, Y = u.heap.size := ⟨_, rfl⟩
  have HEY := Lib.hid hY
  have HA : Hid (Below u.heap.size u (u.alloc (.cells #[.string NA, .int .i64 kA, .bool kpA, .int .i64 alA, .string BA, .slice aA nA cA] 24))) := Lib.hid ((Below.refl _ u).alloc (Nat.le_refl _) _)
  have HRY : Hid (RB (u.alloc (.cells #[.string NA, .int .i64 kA, .bool kpA, .int .i64 alA, .string BA, .slice aA nA cA] 24)) Y #[.string NA, .int .i64 kA, .bool kpA, .int .i64 alA, .string BA, .slice aA nA cA] 24) := Lib.hid (by rw [hY]; exact (MapKept.heap_alloc u _).1)
  clear hY
  replace HRX := Lib.hid (HRX.out.next HA.out)
  replace HSA := Lib.hid (HSA.out.next HA.out)
  go_wp2_with fail
  try rw [← HEY.out]
  generalize (u.alloc (.cells #[.string NA, .int .i64 kA, .bool kpA, .int .i64 alA, .string BA, .slice aA nA cA] 24)) = W at HA HRX HRY HSA ⊢
  replace HB : Hid (Below w.heap.size w W) := Lib.hid (after HB.out HA.out)
  clear HA HEY
  refine (H2.out _ aA cA (HT.out.next HB.out) HSA.out HZA.out).mono ?_
  rintro e u ⟨aP, cP, rfl, hs, hz, hc, hb⟩
  replace HB := Lib.hid (after HB.out hb)
  replace HRX := Lib.hid (HRX.out.next hb)
  replace HRY := Lib.hid (HRY.out.next hb)
  replace HSA := Lib.hid (HSA.out.next hb)
  have HSP := Lib.hid hs
  clear hb hs hz hc
  obtain ⟨Z, hZ⟩ : ∃ Z, Z = u.heap.size := ⟨_, rfl⟩
  have HEZ := Lib.hid hZ
  have HA : Hid (Below u.heap.size u (u.alloc (.cells #[.string NP, .int .i64 kP, .bool kpP, .int .i64 alP, .string BP, .slice aP nP cP] 24))) := Lib.hid ((Below.refl _ u).alloc (Nat.le_refl _) _)
  have HRZ : Hid (RB (u.alloc (.cells #[.string NP, .int .i64 kP, .bool kpP, .int .i64 alP, .string BP, .slice aP nP cP] 24)) Z #[.string NP, .int .i64 kP, .bool kpP, .int .i64 alP, .string BP, .slice aP nP cP] 24) := Lib.hid (by rw [hZ]; exact (MapKept.heap_alloc u _).1)
  clear hZ
  replace HRX := Lib.hid (HRX.out.next HA.out)
  replace HRY := Lib.hid (HRY.out.next HA.out)
  replace HSA := Lib.hid (HSA.out.next HA.out)
  replace HSP := Lib.hid (HSP.out.next HA.out)
  have x_0 : (u.alloc (.cells #[.string NP, .int .i64 kP, .bool kpP, .int .i64 alP, .string BP, .slice aP nP cP] 24)).cell? ⟨X, 0, none⟩ = some (.string N) := HRX.out.cell
  have x_1 : (u.alloc (.cells #[.string NP, .int .i64 kP, .bool kpP, .int .i64 alP, .string BP, .slice aP nP cP] 24)).cell? ⟨X, 1, none⟩ = some (.int .i64 k) := HRX.out.cell
  have x_2 : (u.alloc (.cells #[.string NP, .int .i64 kP, .bool kpP, .int .i64 alP, .string BP, .slice aP nP cP] 24)).cell? ⟨X, 2, none⟩ = some (.bool kp) := HRX.out.cell
  have x_3 : (u.alloc (.cells #[.string NP, .int .i64 kP, .bool kpP, .int .i64 alP, .string BP, .slice aP nP cP] 24)).cell? ⟨X, 3, none⟩ = some (.int .i64 al) := HRX.out.cell
  have x_4 : (u.alloc (.cells #[.string NP, .int .i64 kP, .bool kpP, .int .i64 alP, .string BP, .slice aP nP cP] 24)).cell? ⟨X, 4, none⟩ = some (.string B) := HRX.out.cell
  have x_5 : (u.alloc (.cells #[.string NP, .int .i64 kP, .bool kpP, .int .i64 alP, .string BP, .slice aP nP cP] 24)).cell? ⟨X, 5, none⟩ = some (.slice a n c) := HRX.out.cell
  go_wp2_with fail
  clear x_0 x_1 x_2 x_3 x_4 x_5
  try rw [← HEZ.out]
  generalize (u.alloc (.cells #[.string NP, .int .i64 kP, .bool kpP, .int .i64 alP, .string BP, .slice aP nP cP] 24)) = W at HA HRX HRY HRZ HSA HSP ⊢
  replace HB : Hid (Below w.heap.size w W) := Lib.hid (after HB.out HA.out)
  clear HA HEZ
  refine (H3.out _ HB.out).mono ?_
  rintro e u ⟨aC, cC, rfl, hs, hz, hc, hb⟩
  replace HB := Lib.hid (after HB.out hb)
  replace HRX := Lib.hid (HRX.out.next hb)
  replace HRY := Lib.hid (HRY.out.next hb)
  replace HRZ := Lib.hid (HRZ.out.next hb)
  replace HSA := Lib.hid (HSA.out.next hb)
  replace HSP := Lib.hid (HSP.out.next hb)
  have HSC := Lib.hid hs
  clear hb hs hz hc
  obtain ⟨Q, hQ⟩ : ∃ Q, Q = u.heap.size := ⟨_, rfl⟩
  have HEQ := Lib.hid hQ
  have HA : Hid (Below u.heap.size u (u.alloc (.cells #[.string NC, .int .i64 kC, .bool kpC, .int .i64 alC, .string BC, .slice aC nC cC] 24))) := Lib.hid ((Below.refl _ u).alloc (Nat.le_refl _) _)
  have HRQ : Hid (RB (u.alloc (.cells #[.string NC, .int .i64 kC, .bool kpC, .int .i64 alC, .string BC, .slice aC nC cC] 24)) Q #[.string NC, .int .i64 kC, .bool kpC, .int .i64 alC, .string BC, .slice aC nC cC] 24) := Lib.hid (by rw [hQ]; exact (MapKept.heap_alloc u _).1)
  clear hQ
  replace HRX := Lib.hid (HRX.out.next HA.out)
  replace HRY := Lib.hid (HRY.out.next HA.out)
  replace HRZ := Lib.hid (HRZ.out.next HA.out)
  replace HSA := Lib.hid (HSA.out.next HA.out)
  replace HSP := Lib.hid (HSP.out.next HA.out)
  replace HSC := Lib.hid (HSC.out.next HA.out)
  have x_0 : (u.alloc (.cells #[.string NC, .int .i64 kC, .bool kpC, .int .i64 alC, .string BC, .slice aC nC cC] 24)).cell? ⟨X, 0, none⟩ = some (.string N) := HRX.out.cell
  have x_1 : (u.alloc (.cells #[.string NC, .int .i64 kC, .bool kpC, .int .i64 alC, .string BC, .slice aC nC cC] 24)).cell? ⟨X, 1, none⟩ = some (.int .i64 k) := HRX.out.cell
  have x_2 : (u.alloc (.cells #[.string NC, .int .i64 kC, .bool kpC, .int .i64 alC, .string BC, .slice aC nC cC] 24)).cell? ⟨X, 2, none⟩ = some (.bool kp) := HRX.out.cell
  have x_3 : (u.alloc (.cells #[.string NC, .int .i64 kC, .bool kpC, .int .i64 alC, .string BC, .slice aC nC cC] 24)).cell? ⟨X, 3, none⟩ = some (.int .i64 al) := HRX.out.cell
  have x_4 : (u.alloc (.cells #[.string NC, .int .i64 kC, .bool kpC, .int .i64 alC, .string BC, .slice aC nC cC] 24)).cell? ⟨X, 4, none⟩ = some (.string B) := HRX.out.cell
  have x_5 : (u.alloc (.cells #[.string NC, .int .i64 kC, .bool kpC, .int .i64 alC, .string BC, .slice aC nC cC] 24)).cell? ⟨X, 5, none⟩ = some (.slice a n c) := HRX.out.cell
  go_wp2_with fail
  clear x_0 x_1 x_2 x_3 x_4 x_5
  try rw [← HEQ.out]
  generalize (u.alloc (.cells #[.string NC, .int .i64 kC, .bool kpC, .int .i64 alC, .string BC, .slice aC nC cC] 24)) = W at HA HRX HRY HRZ HRQ HSA HSP HSC ⊢
  replace HB : Hid (Below w.heap.size w W) := Lib.hid (after HB.out HA.out)
  clear HA HEQ
  refine (H4.out _ HB.out).mono ?_
  rintro e u ⟨aF, cF, rfl, hs, hz, hc, hb⟩
  replace HB := Lib.hid (after HB.out hb)
  replace HRX := Lib.hid (HRX.out.next hb)
  replace HRY := Lib.hid (HRY.out.next hb)
  replace HRZ := Lib.hid (HRZ.out.next hb)
  replace HRQ := Lib.hid (HRQ.out.next hb)
  replace HSA := Lib.hid (HSA.out.next hb)
  replace HSP := Lib.hid (HSP.out.next hb)
  replace HSC := Lib.hid (HSC.out.next hb)
  have HSF := Lib.hid hs
  have HZF := Lib.hid hz
  clear hb hs hz hc
  obtain ⟨V, hV⟩ : ∃ V, V = u.heap.size := ⟨_, rfl⟩
  have HEV := Lib.hid hV
  have HA : Hid (Below u.heap.size u (u.alloc (.cells #[.string NF, .int .i64 kF, .bool kpF, .int .i64 alF, .string BF, .slice aF nF cF] 24))) := Lib.hid ((Below.refl _ u).alloc (Nat.le_refl _) _)
  have HRV : Hid (RB (u.alloc (.cells #[.string NF, .int .i64 kF, .bool kpF, .int .i64 alF, .string BF, .slice aF nF cF] 24)) V #[.string NF, .int .i64 kF, .bool kpF, .int .i64 alF, .string BF, .slice aF nF cF] 24) := Lib.hid (by rw [hV]; exact (MapKept.heap_alloc u _).1)
  clear hV
  replace HRX := Lib.hid (HRX.out.next HA.out)
  replace HRY := Lib.hid (HRY.out.next HA.out)
  replace HRZ := Lib.hid (HRZ.out.next HA.out)
  replace HRQ := Lib.hid (HRQ.out.next HA.out)
  replace HSA := Lib.hid (HSA.out.next HA.out)
  replace HSP := Lib.hid (HSP.out.next HA.out)
  replace HSC := Lib.hid (HSC.out.next HA.out)
  replace HSF := Lib.hid (HSF.out.next HA.out)
  go_wp2_with fail
  try rw [← HEV.out]
  generalize (u.alloc (.cells #[.string NF, .int .i64 kF, .bool kpF, .int .i64 alF, .string BF, .slice aF nF cF] 24)) = W at HA HRX HRY HRZ HRQ HRV HSA HSP HSC HSF ⊢
  replace HB : Hid (Below w.heap.size w W) := Lib.hid (after HB.out HA.out)
  clear HA HEV
  refine (HG.out _ (HT.out.next HB.out)).mono ?_
  rintro e u ⟨rfl, hb⟩
  replace HB := Lib.hid (after HB.out hb)
  replace HRX := Lib.hid (HRX.out.next hb)
  replace HRY := Lib.hid (HRY.out.next hb)
  replace HRZ := Lib.hid (HRZ.out.next hb)
  replace HRQ := Lib.hid (HRQ.out.next hb)
  replace HRV := Lib.hid (HRV.out.next hb)
  replace HSA := Lib.hid (HSA.out.next hb)
  replace HSP := Lib.hid (HSP.out.next hb)
  replace HSC := Lib.hid (HSC.out.next hb)
  replace HSF := Lib.hid (HSF.out.next hb)
  clear hb
  go_wp2
  go_ret
  exact retB_bool rfl HB.out
set_option maxRecDepth 100000 in
set_option maxHeartbeats 2000000 in
theorem pTw_em (N B D E : ByteArray) (k : Int) (kp : Bool) (al : Int) (a : Option Addr) (n c : Nat) (l : List Rl) (na nb : Int) (w : World) (hs : SL rlC 4 w w.heap.size a n l) (hz : a = none → n = 0 ∧ c = 0) (hn : n ≤ 1000000) (hg : GoodB N k al B l) (hD : D.size ≤ 140737488351232) (hE : E.size ≤ 140737488351232) (hT : TabP w) (hbig : bigS B.size n N.size = false) (hlong : ¬ (5000 : Int) < (D.size : Int) + E.size) (NA BA : ByteArray) (kA : Int) (kpA : Bool) (alA : Int) (nA : Nat) (lA : List Rl) (eA : Int) (hA : pPutL ⟨N.data.toList, k, kp, al, B.data.toList, l⟩ D.data.toList = (⟨NA.data.toList, kA, kpA, alA, BA.data.toList, lA⟩, eA)) (mA : nA = lA.length) (NP BP : ByteArray) (kP : Int) (kpP : Bool) (alP : Int) (nP : Nat) (lP : List Rl) (eP : Int) (hP : pPutL ⟨NA.data.toList, kA, kpA, alA, BA.data.toList, lA⟩ E.data.toList = (⟨NP.data.toList, kP, kpP, alP, BP.data.toList, lP⟩, eP)) (mP : nP = lP.length) (NC BC : ByteArray) (kC : Int) (kpC : Bool) (alC : Int) (nC : Nat) (lC : List Rl) (eC : Int) (hC : pPutL ⟨N.data.toList, k, kp, al, B.data.toList, l⟩ (D.data.toList ++ E.data.toList) = (⟨NC.data.toList, kC, kpC, alC, BC.data.toList, lC⟩, eC)) (mC : nC = lC.length) (NF BF : ByteArray) (kF : Int) (kpF : Bool) (alF : Int) (nF : Nat) (lF : List Rl) (eF : Int) (hF : pAlignL ⟨N.data.toList, k, kp, al, B.data.toList, l⟩ na = (⟨NF.data.toList, kF, kpF, alF, BF.data.toList, lF⟩, eF)) (mF : nF = lF.length) (e0 : eA ≠ 0) (f0 : eF = 0) (f1 : nb < 0) : Calls Tryz.prog 5 #[.agg #[.string N, .int .i64 k, .bool kp, .int .i64 al, .string B, .slice a n c], .string D, .string E, .int .i64 na, .int .i64 nb] w (RetB (.bool true) w) := by
  have hCe : eC = eA := by have := two_err (y := E.data.toList) hA e0; rw [hC] at this; exact this
  subst hCe
  have r1 : (eC == 0) = false := by simp; exact e0
  have r2 : (eC != 0) = true := by simp [bne_iff_ne]; exact e0
  subst f0
  have HBig : Hid (∀ u, Calls Tryz.prog 17 #[.agg #[.string N, .int .i64 k, .bool kp, .int .i64 al, .string B, .slice a n c]] u (RetB (.bool false) u)) := Lib.hid fun u => by
    have := rBig_any N B k kp al a n c u
    rwa [hbig] at this
  have HB : Hid (Below w.heap.size w w) := Lib.hid (Below.refl _ w)
  have HT := Lib.hid hT
  have HS := Lib.hid hs
  have HG := Lib.hid (fun u (hu : TabP u) => grown_is u hu)
  have hw : IntKind.i64.wrap ((D.size : Int) + E.size) = (D.size : Int) + E.size := by rw [IntKind.wrap_i64]; omega
  have hDi : (D.size : Int) ≤ 140737488351232 := by omega
  have hEi : (E.size : Int) ≤ 140737488351232 := by omega
  have gA : GoodB NA kA alA BA lA := by have := (put_grows (hg.sc kp) D.data.toList).good; rw [hA] at this; exact GoodSc.b this
  have gF : GoodB NF kF alF BF lF := by have := (align_grows (hg.sc kp) na).good; rw [hF] at this; exact GoodSc.b this
  have hDE : (D ++ E).size = D.size + E.size := ByteArray.size_append
  have hDEi : ((D ++ E : ByteArray).size : Int) = (D.size : Int) + E.size := by rw [hDE]; omega
  have H1 : Hid (∀ u, Below w.heap.size w u → Calls Tryz.prog 18 #[.agg #[.string N, .int .i64 k, .bool kp, .int .i64 al, .string B, .slice a n c], .string D] u (GotB u NA kA kpA alA BA nA lA eC)) := Lib.hid fun u hu =>
    (pPut_any N B D k kp al a n c l u (hs.next hu) hz hg.name hg.data hg.rels (by omega) (hT.next hu)).mono fun e v h => h.got hA mA
  have H2 : Hid (∀ u a c, TabP u → SL rlC 4 u u.heap.size a nA lA → (a = none → nA = 0 ∧ c = 0) → Calls Tryz.prog 18 #[.agg #[.string NA, .int .i64 kA, .bool kpA, .int .i64 alA, .string BA, .slice a nA c], .string E] u (GotB u NP kP kpP alP BP nP lP eP)) := Lib.hid fun u a c hu hs hz =>
    (pPut_any NA BA E kA kpA alA a nA c lA u hs hz gA.name gA.data gA.rels (by omega) hu).mono fun e v h => h.got hP mP
  have H3 : Hid (∀ u, Below w.heap.size w u → Calls Tryz.prog 18 #[.agg #[.string N, .int .i64 k, .bool kp, .int .i64 al, .string B, .slice a n c], .string (D ++ E)] u (GotB u NC kC kpC alC BC nC lC eC)) := Lib.hid fun u hu => by
    have := pPut_any N B (D ++ E) k kp al a n c l u (hs.next hu) hz hg.name hg.data hg.rels (by omega) (hT.next hu)
    rw [cat_list] at this
    exact this.mono fun e v h => h.got hC mC
  have H4 : Hid (∀ u, Below w.heap.size w u → Calls Tryz.prog 19 #[.agg #[.string N, .int .i64 k, .bool kp, .int .i64 al, .string B, .slice a n c], .int .i64 na] u (GotB u NF kF kpF alF BF nF lF 0)) := Lib.hid fun u hu =>
    (pAlign_any N B k kp al a n c l na u (hs.next hu) hz hg.name hg.data hg.rels (hT.next hu)).mono fun e v h => h.got hF mF
  clear e0
  clear hs hz hn hg hT hbig hA hP hC hF mA mP mC mF gA gF hDE
  go_enter Tryz.func5, Tryz.ntmps5
  obtain ⟨X, hX⟩ : ∃ X, X = w.heap.size := ⟨_, rfl⟩
  have HEX := Lib.hid hX
  have HA : Hid (Below w.heap.size w (w.alloc (.cells #[.string N, .int .i64 k, .bool kp, .int .i64 al, .string B, .slice a n c] 24))) := Lib.hid ((Below.refl _ w).alloc (Nat.le_refl _) _)
  have HRX : Hid (RB (w.alloc (.cells #[.string N, .int .i64 k, .bool kp, .int .i64 al, .string B, .slice a n c] 24)) X #[.string N, .int .i64 k, .bool kp, .int .i64 al, .string B, .slice a n c] 24) := Lib.hid (by rw [hX]; exact (MapKept.heap_alloc w _).1)
  clear hX
  go_wp2_with fail
  try rw [← HEX.out]
  generalize (w.alloc (.cells #[.string N, .int .i64 k, .bool kp, .int .i64 al, .string B, .slice a n c] 24)) = W at HA HRX ⊢
  replace HB : Hid (Below w.heap.size w W) := Lib.hid (after HB.out HA.out)
  clear HA HEX
  refine (HBig.out _).mono ?_
  rintro e u ⟨rfl, hb⟩
  replace HB := Lib.hid (after HB.out hb)
  replace HRX := Lib.hid (HRX.out.next hb)
  clear hb
  have x_0 : u.cell? ⟨X, 0, none⟩ = some (.string N) := HRX.out.cell
  have x_1 : u.cell? ⟨X, 1, none⟩ = some (.int .i64 k) := HRX.out.cell
  have x_2 : u.cell? ⟨X, 2, none⟩ = some (.bool kp) := HRX.out.cell
  have x_3 : u.cell? ⟨X, 3, none⟩ = some (.int .i64 al) := HRX.out.cell
  have x_4 : u.cell? ⟨X, 4, none⟩ = some (.string B) := HRX.out.cell
  have x_5 : u.cell? ⟨X, 5, none⟩ = some (.slice a n c) := HRX.out.cell
  go_wp2_with fail
  clear x_0 x_1 x_2 x_3 x_4 x_5
  refine (H1.out _ HB.out).mono ?_
  rintro e u ⟨aA, cA, rfl, hs, hz, hc, hb⟩
  replace HB := Lib.hid (after HB.out hb)
  replace HRX := Lib.hid (HRX.out.next hb)
  have HSA := Lib.hid hs
  have HZA := Lib.hid hz
  clear hb hs hz hc
  obtain ⟨Y, hY⟩ : ∃ Y, Y = u.heap.size := ⟨_, rfl⟩
  have HEY := Lib.hid hY
  have HA : Hid (Below u.heap.size u (u.alloc (.cells #[.string NA, .int .i64 kA, .bool kpA, .int .i64 alA, .string BA, .slice aA nA cA] 24))) := Lib.hid ((Below.refl _ u).alloc (Nat.le_refl _) _)
  have HRY : Hid (RB (u.alloc (.cells #[.string NA, .int .i64 kA, .bool kpA, .int .i64 alA, .string BA, .slice aA nA cA] 24)) Y #[.string NA, .int .i64 kA, .bool kpA, .int .i64 alA, .string BA, .slice aA nA cA] 24) := Lib.hid (by rw [hY]; exact (MapKept.heap_alloc u _).1)
  clear hY
  replace HRX := Lib.hid (HRX.out.next HA.out)
  replace HSA := Lib.hid (HSA.out.next HA.out)
  go_wp2_with fail
  try rw [← HEY.out]
  generalize (u.alloc (.cells #[.string NA, .int .i64 kA, .bool kpA, .int .i64 alA, .string BA, .slice aA nA cA] 24)) = W at HA HRX HRY HSA ⊢
  replace HB : Hid (Below w.heap.size w W) := Lib.hid (after HB.out HA.out)
  clear HA HEY
  refine (H2.out _ aA cA (HT.out.next HB.out) HSA.out HZA.out).mono ?_
  rintro e u ⟨aP, cP, rfl, hs, hz, hc, hb⟩
  replace HB := Lib.hid (after HB.out hb)
  replace HRX := Lib.hid (HRX.out.next hb)
  replace HRY := Lib.hid (HRY.out.next hb)
  replace HSA := Lib.hid (HSA.out.next hb)
  have HSP := Lib.hid hs
  clear hb hs hz hc
  obtain ⟨Z, hZ⟩ : ∃ Z, Z = u.heap.size := ⟨_, rfl⟩
  have HEZ := Lib.hid hZ
  have HA : Hid (Below u.heap.size u (u.alloc (.cells #[.string NP, .int .i64 kP, .bool kpP, .int .i64 alP, .string BP, .slice aP nP cP] 24))) := Lib.hid ((Below.refl _ u).alloc (Nat.le_refl _) _)
  have HRZ : Hid (RB (u.alloc (.cells #[.string NP, .int .i64 kP, .bool kpP, .int .i64 alP, .string BP, .slice aP nP cP] 24)) Z #[.string NP, .int .i64 kP, .bool kpP, .int .i64 alP, .string BP, .slice aP nP cP] 24) := Lib.hid (by rw [hZ]; exact (MapKept.heap_alloc u _).1)
  clear hZ
  replace HRX := Lib.hid (HRX.out.next HA.out)
  replace HRY := Lib.hid (HRY.out.next HA.out)
  replace HSA := Lib.hid (HSA.out.next HA.out)
  replace HSP := Lib.hid (HSP.out.next HA.out)
  have x_0 : (u.alloc (.cells #[.string NP, .int .i64 kP, .bool kpP, .int .i64 alP, .string BP, .slice aP nP cP] 24)).cell? ⟨X, 0, none⟩ = some (.string N) := HRX.out.cell
  have x_1 : (u.alloc (.cells #[.string NP, .int .i64 kP, .bool kpP, .int .i64 alP, .string BP, .slice aP nP cP] 24)).cell? ⟨X, 1, none⟩ = some (.int .i64 k) := HRX.out.cell
  have x_2 : (u.alloc (.cells #[.string NP, .int .i64 kP, .bool kpP, .int .i64 alP, .string BP, .slice aP nP cP] 24)).cell? ⟨X, 2, none⟩ = some (.bool kp) := HRX.out.cell
  have x_3 : (u.alloc (.cells #[.string NP, .int .i64 kP, .bool kpP, .int .i64 alP, .string BP, .slice aP nP cP] 24)).cell? ⟨X, 3, none⟩ = some (.int .i64 al) := HRX.out.cell
  have x_4 : (u.alloc (.cells #[.string NP, .int .i64 kP, .bool kpP, .int .i64 alP, .string BP, .slice aP nP cP] 24)).cell? ⟨X, 4, none⟩ = some (.string B) := HRX.out.cell
  have x_5 : (u.alloc (.cells #[.string NP, .int .i64 kP, .bool kpP, .int .i64 alP, .string BP, .slice aP nP cP] 24)).cell? ⟨X, 5, none⟩ = some (.slice a n c) := HRX.out.cell
  go_wp2_with fail
  clear x_0 x_1 x_2 x_3 x_4 x_5
  try rw [← HEZ.out]
  generalize (u.alloc (.cells #[.string NP, .int .i64 kP, .bool kpP, .int .i64 alP, .string BP, .slice aP nP cP] 24)) = W at HA HRX HRY HRZ HSA HSP ⊢
  replace HB : Hid (Below w.heap.size w W) := Lib.hid (after HB.out HA.out)
  clear HA HEZ
  refine (H3.out _ HB.out).mono ?_
  rintro e u ⟨aC, cC, rfl, hs, hz, hc, hb⟩
  replace HB := Lib.hid (after HB.out hb)
  replace HRX := Lib.hid (HRX.out.next hb)
  replace HRY := Lib.hid (HRY.out.next hb)
  replace HRZ := Lib.hid (HRZ.out.next hb)
  replace HSA := Lib.hid (HSA.out.next hb)
  replace HSP := Lib.hid (HSP.out.next hb)
  have HSC := Lib.hid hs
  clear hb hs hz hc
  obtain ⟨Q, hQ⟩ : ∃ Q, Q = u.heap.size := ⟨_, rfl⟩
  have HEQ := Lib.hid hQ
  have HA : Hid (Below u.heap.size u (u.alloc (.cells #[.string NC, .int .i64 kC, .bool kpC, .int .i64 alC, .string BC, .slice aC nC cC] 24))) := Lib.hid ((Below.refl _ u).alloc (Nat.le_refl _) _)
  have HRQ : Hid (RB (u.alloc (.cells #[.string NC, .int .i64 kC, .bool kpC, .int .i64 alC, .string BC, .slice aC nC cC] 24)) Q #[.string NC, .int .i64 kC, .bool kpC, .int .i64 alC, .string BC, .slice aC nC cC] 24) := Lib.hid (by rw [hQ]; exact (MapKept.heap_alloc u _).1)
  clear hQ
  replace HRX := Lib.hid (HRX.out.next HA.out)
  replace HRY := Lib.hid (HRY.out.next HA.out)
  replace HRZ := Lib.hid (HRZ.out.next HA.out)
  replace HSA := Lib.hid (HSA.out.next HA.out)
  replace HSP := Lib.hid (HSP.out.next HA.out)
  replace HSC := Lib.hid (HSC.out.next HA.out)
  have x_0 : (u.alloc (.cells #[.string NC, .int .i64 kC, .bool kpC, .int .i64 alC, .string BC, .slice aC nC cC] 24)).cell? ⟨X, 0, none⟩ = some (.string N) := HRX.out.cell
  have x_1 : (u.alloc (.cells #[.string NC, .int .i64 kC, .bool kpC, .int .i64 alC, .string BC, .slice aC nC cC] 24)).cell? ⟨X, 1, none⟩ = some (.int .i64 k) := HRX.out.cell
  have x_2 : (u.alloc (.cells #[.string NC, .int .i64 kC, .bool kpC, .int .i64 alC, .string BC, .slice aC nC cC] 24)).cell? ⟨X, 2, none⟩ = some (.bool kp) := HRX.out.cell
  have x_3 : (u.alloc (.cells #[.string NC, .int .i64 kC, .bool kpC, .int .i64 alC, .string BC, .slice aC nC cC] 24)).cell? ⟨X, 3, none⟩ = some (.int .i64 al) := HRX.out.cell
  have x_4 : (u.alloc (.cells #[.string NC, .int .i64 kC, .bool kpC, .int .i64 alC, .string BC, .slice aC nC cC] 24)).cell? ⟨X, 4, none⟩ = some (.string B) := HRX.out.cell
  have x_5 : (u.alloc (.cells #[.string NC, .int .i64 kC, .bool kpC, .int .i64 alC, .string BC, .slice aC nC cC] 24)).cell? ⟨X, 5, none⟩ = some (.slice a n c) := HRX.out.cell
  go_wp2_with fail
  clear x_0 x_1 x_2 x_3 x_4 x_5
  try rw [← HEQ.out]
  generalize (u.alloc (.cells #[.string NC, .int .i64 kC, .bool kpC, .int .i64 alC, .string BC, .slice aC nC cC] 24)) = W at HA HRX HRY HRZ HRQ HSA HSP HSC ⊢
  replace HB : Hid (Below w.heap.size w W) := Lib.hid (after HB.out HA.out)
  clear HA HEQ
  refine (H4.out _ HB.out).mono ?_
  rintro e u ⟨aF, cF, rfl, hs, hz, hc, hb⟩
  replace HB := Lib.hid (after HB.out hb)
  replace HRX := Lib.hid (HRX.out.next hb)
  replace HRY := Lib.hid (HRY.out.next hb)
  replace HRZ := Lib.hid (HRZ.out.next hb)
  replace HRQ := Lib.hid (HRQ.out.next hb)
  replace HSA := Lib.hid (HSA.out.next hb)
  replace HSP := Lib.hid (HSP.out.next hb)
  replace HSC := Lib.hid (HSC.out.next hb)
  have HSF := Lib.hid hs
  have HZF := Lib.hid hz
  clear hb hs hz hc
  obtain ⟨V, hV⟩ : ∃ V, V = u.heap.size := ⟨_, rfl⟩
  have HEV := Lib.hid hV
  have HA : Hid (Below u.heap.size u (u.alloc (.cells #[.string NF, .int .i64 kF, .bool kpF, .int .i64 alF, .string BF, .slice aF nF cF] 24))) := Lib.hid ((Below.refl _ u).alloc (Nat.le_refl _) _)
  have HRV : Hid (RB (u.alloc (.cells #[.string NF, .int .i64 kF, .bool kpF, .int .i64 alF, .string BF, .slice aF nF cF] 24)) V #[.string NF, .int .i64 kF, .bool kpF, .int .i64 alF, .string BF, .slice aF nF cF] 24) := Lib.hid (by rw [hV]; exact (MapKept.heap_alloc u _).1)
  clear hV
  replace HRX := Lib.hid (HRX.out.next HA.out)
  replace HRY := Lib.hid (HRY.out.next HA.out)
  replace HRZ := Lib.hid (HRZ.out.next HA.out)
  replace HRQ := Lib.hid (HRQ.out.next HA.out)
  replace HSA := Lib.hid (HSA.out.next HA.out)
  replace HSP := Lib.hid (HSP.out.next HA.out)
  replace HSC := Lib.hid (HSC.out.next HA.out)
  replace HSF := Lib.hid (HSF.out.next HA.out)
  go_wp2_with fail
  try rw [← HEV.out]
  generalize (u.alloc (.cells #[.string NF, .int .i64 kF, .bool kpF, .int .i64 alF, .string BF, .slice aF nF cF] 24)) = W at HA HRX HRY HRZ HRQ HRV HSA HSP HSC HSF ⊢
  replace HB : Hid (Below w.heap.size w W) := Lib.hid (after HB.out HA.out)
  clear HA HEV
  refine (HG.out _ (HT.out.next HB.out)).mono ?_
  rintro e u ⟨rfl, hb⟩
  replace HB := Lib.hid (after HB.out hb)
  replace HRX := Lib.hid (HRX.out.next hb)
  replace HRY := Lib.hid (HRY.out.next hb)
  replace HRZ := Lib.hid (HRZ.out.next hb)
  replace HRQ := Lib.hid (HRQ.out.next hb)
  replace HRV := Lib.hid (HRV.out.next hb)
  replace HSA := Lib.hid (HSA.out.next hb)
  replace HSP := Lib.hid (HSP.out.next hb)
  replace HSC := Lib.hid (HSC.out.next hb)
  replace HSF := Lib.hid (HSF.out.next hb)
  clear hb
  go_wp2
  go_ret
  exact retB_bool rfl HB.out
set_option maxRecDepth 100000 in
set_option maxHeartbeats 2000000 in
theorem pTw_en (N B D E : ByteArray) (k : Int) (kp : Bool) (al : Int) (a : Option Addr) (n c : Nat) (l : List Rl) (na nb : Int) (w : World) (hs : SL rlC 4 w w.heap.size a n l) (hz : a = none → n = 0 ∧ c = 0) (hn : n ≤ 1000000) (hg : GoodB N k al B l) (hD : D.size ≤ 140737488351232) (hE : E.size ≤ 140737488351232) (hT : TabP w) (hbig : bigS B.size n N.size = false) (hlong : ¬ (5000 : Int) < (D.size : Int) + E.size) (NA BA : ByteArray) (kA : Int) (kpA : Bool) (alA : Int) (nA : Nat) (lA : List Rl) (eA : Int) (hA : pPutL ⟨N.data.toList, k, kp, al, B.data.toList, l⟩ D.data.toList = (⟨NA.data.toList, kA, kpA, alA, BA.data.toList, lA⟩, eA)) (mA : nA = lA.length) (NP BP : ByteArray) (kP : Int) (kpP : Bool) (alP : Int) (nP : Nat) (lP : List Rl) (eP : Int) (hP : pPutL ⟨NA.data.toList, kA, kpA, alA, BA.data.toList, lA⟩ E.data.toList = (⟨NP.data.toList, kP, kpP, alP, BP.data.toList, lP⟩, eP)) (mP : nP = lP.length) (NC BC : ByteArray) (kC : Int) (kpC : Bool) (alC : Int) (nC : Nat) (lC : List Rl) (eC : Int) (hC : pPutL ⟨N.data.toList, k, kp, al, B.data.toList, l⟩ (D.data.toList ++ E.data.toList) = (⟨NC.data.toList, kC, kpC, alC, BC.data.toList, lC⟩, eC)) (mC : nC = lC.length) (NF BF : ByteArray) (kF : Int) (kpF : Bool) (alF : Int) (nF : Nat) (lF : List Rl) (eF : Int) (hF : pAlignL ⟨N.data.toList, k, kp, al, B.data.toList, l⟩ na = (⟨NF.data.toList, kF, kpF, alF, BF.data.toList, lF⟩, eF)) (mF : nF = lF.length) (e0 : eA ≠ 0) (f0 : eF = 0) (f2 : 0 ≤ nb) (f3 : na < nb) : Calls Tryz.prog 5 #[.agg #[.string N, .int .i64 k, .bool kp, .int .i64 al, .string B, .slice a n c], .string D, .string E, .int .i64 na, .int .i64 nb] w (RetB (.bool true) w) := by
  have hCe : eC = eA := by have := two_err (y := E.data.toList) hA e0; rw [hC] at this; exact this
  subst hCe
  have r1 : (eC == 0) = false := by simp; exact e0
  have r2 : (eC != 0) = true := by simp [bne_iff_ne]; exact e0
  subst f0
  have HBig : Hid (∀ u, Calls Tryz.prog 17 #[.agg #[.string N, .int .i64 k, .bool kp, .int .i64 al, .string B, .slice a n c]] u (RetB (.bool false) u)) := Lib.hid fun u => by
    have := rBig_any N B k kp al a n c u
    rwa [hbig] at this
  have HB : Hid (Below w.heap.size w w) := Lib.hid (Below.refl _ w)
  have HT := Lib.hid hT
  have HS := Lib.hid hs
  have HG := Lib.hid (fun u (hu : TabP u) => grown_is u hu)
  have hw : IntKind.i64.wrap ((D.size : Int) + E.size) = (D.size : Int) + E.size := by rw [IntKind.wrap_i64]; omega
  have hDi : (D.size : Int) ≤ 140737488351232 := by omega
  have hEi : (E.size : Int) ≤ 140737488351232 := by omega
  have gA : GoodB NA kA alA BA lA := by have := (put_grows (hg.sc kp) D.data.toList).good; rw [hA] at this; exact GoodSc.b this
  have gF : GoodB NF kF alF BF lF := by have := (align_grows (hg.sc kp) na).good; rw [hF] at this; exact GoodSc.b this
  have hDE : (D ++ E).size = D.size + E.size := ByteArray.size_append
  have hDEi : ((D ++ E : ByteArray).size : Int) = (D.size : Int) + E.size := by rw [hDE]; omega
  have H1 : Hid (∀ u, Below w.heap.size w u → Calls Tryz.prog 18 #[.agg #[.string N, .int .i64 k, .bool kp, .int .i64 al, .string B, .slice a n c], .string D] u (GotB u NA kA kpA alA BA nA lA eC)) := Lib.hid fun u hu =>
    (pPut_any N B D k kp al a n c l u (hs.next hu) hz hg.name hg.data hg.rels (by omega) (hT.next hu)).mono fun e v h => h.got hA mA
  have H2 : Hid (∀ u a c, TabP u → SL rlC 4 u u.heap.size a nA lA → (a = none → nA = 0 ∧ c = 0) → Calls Tryz.prog 18 #[.agg #[.string NA, .int .i64 kA, .bool kpA, .int .i64 alA, .string BA, .slice a nA c], .string E] u (GotB u NP kP kpP alP BP nP lP eP)) := Lib.hid fun u a c hu hs hz =>
    (pPut_any NA BA E kA kpA alA a nA c lA u hs hz gA.name gA.data gA.rels (by omega) hu).mono fun e v h => h.got hP mP
  have H3 : Hid (∀ u, Below w.heap.size w u → Calls Tryz.prog 18 #[.agg #[.string N, .int .i64 k, .bool kp, .int .i64 al, .string B, .slice a n c], .string (D ++ E)] u (GotB u NC kC kpC alC BC nC lC eC)) := Lib.hid fun u hu => by
    have := pPut_any N B (D ++ E) k kp al a n c l u (hs.next hu) hz hg.name hg.data hg.rels (by omega) (hT.next hu)
    rw [cat_list] at this
    exact this.mono fun e v h => h.got hC mC
  have H4 : Hid (∀ u, Below w.heap.size w u → Calls Tryz.prog 19 #[.agg #[.string N, .int .i64 k, .bool kp, .int .i64 al, .string B, .slice a n c], .int .i64 na] u (GotB u NF kF kpF alF BF nF lF 0)) := Lib.hid fun u hu =>
    (pAlign_any N B k kp al a n c l na u (hs.next hu) hz hg.name hg.data hg.rels (hT.next hu)).mono fun e v h => h.got hF mF
  have f1 : ¬ nb < 0 := by omega
  clear e0
  clear hs hz hn hg hT hbig hA hP hC hF mA mP mC mF gA gF hDE
  go_enter Tryz.func5, Tryz.ntmps5
  obtain ⟨X, hX⟩ : ∃ X, X = w.heap.size := ⟨_, rfl⟩
  have HEX := Lib.hid hX
  have HA : Hid (Below w.heap.size w (w.alloc (.cells #[.string N, .int .i64 k, .bool kp, .int .i64 al, .string B, .slice a n c] 24))) := Lib.hid ((Below.refl _ w).alloc (Nat.le_refl _) _)
  have HRX : Hid (RB (w.alloc (.cells #[.string N, .int .i64 k, .bool kp, .int .i64 al, .string B, .slice a n c] 24)) X #[.string N, .int .i64 k, .bool kp, .int .i64 al, .string B, .slice a n c] 24) := Lib.hid (by rw [hX]; exact (MapKept.heap_alloc w _).1)
  clear hX
  go_wp2_with fail
  try rw [← HEX.out]
  generalize (w.alloc (.cells #[.string N, .int .i64 k, .bool kp, .int .i64 al, .string B, .slice a n c] 24)) = W at HA HRX ⊢
  replace HB : Hid (Below w.heap.size w W) := Lib.hid (after HB.out HA.out)
  clear HA HEX
  refine (HBig.out _).mono ?_
  rintro e u ⟨rfl, hb⟩
  replace HB := Lib.hid (after HB.out hb)
  replace HRX := Lib.hid (HRX.out.next hb)
  clear hb
  have x_0 : u.cell? ⟨X, 0, none⟩ = some (.string N) := HRX.out.cell
  have x_1 : u.cell? ⟨X, 1, none⟩ = some (.int .i64 k) := HRX.out.cell
  have x_2 : u.cell? ⟨X, 2, none⟩ = some (.bool kp) := HRX.out.cell
  have x_3 : u.cell? ⟨X, 3, none⟩ = some (.int .i64 al) := HRX.out.cell
  have x_4 : u.cell? ⟨X, 4, none⟩ = some (.string B) := HRX.out.cell
  have x_5 : u.cell? ⟨X, 5, none⟩ = some (.slice a n c) := HRX.out.cell
  go_wp2_with fail
  clear x_0 x_1 x_2 x_3 x_4 x_5
  refine (H1.out _ HB.out).mono ?_
  rintro e u ⟨aA, cA, rfl, hs, hz, hc, hb⟩
  replace HB := Lib.hid (after HB.out hb)
  replace HRX := Lib.hid (HRX.out.next hb)
  have HSA := Lib.hid hs
  have HZA := Lib.hid hz
  clear hb hs hz hc
  obtain ⟨Y, hY⟩ : ∃ Y, Y = u.heap.size := ⟨_, rfl⟩
  have HEY := Lib.hid hY
  have HA : Hid (Below u.heap.size u (u.alloc (.cells #[.string NA, .int .i64 kA, .bool kpA, .int .i64 alA, .string BA, .slice aA nA cA] 24))) := Lib.hid ((Below.refl _ u).alloc (Nat.le_refl _) _)
  have HRY : Hid (RB (u.alloc (.cells #[.string NA, .int .i64 kA, .bool kpA, .int .i64 alA, .string BA, .slice aA nA cA] 24)) Y #[.string NA, .int .i64 kA, .bool kpA, .int .i64 alA, .string BA, .slice aA nA cA] 24) := Lib.hid (by rw [hY]; exact (MapKept.heap_alloc u _).1)
  clear hY
  replace HRX := Lib.hid (HRX.out.next HA.out)
  replace HSA := Lib.hid (HSA.out.next HA.out)
  go_wp2_with fail
  try rw [← HEY.out]
  generalize (u.alloc (.cells #[.string NA, .int .i64 kA, .bool kpA, .int .i64 alA, .string BA, .slice aA nA cA] 24)) = W at HA HRX HRY HSA ⊢
  replace HB : Hid (Below w.heap.size w W) := Lib.hid (after HB.out HA.out)
  clear HA HEY
  refine (H2.out _ aA cA (HT.out.next HB.out) HSA.out HZA.out).mono ?_
  rintro e u ⟨aP, cP, rfl, hs, hz, hc, hb⟩
  replace HB := Lib.hid (after HB.out hb)
  replace HRX := Lib.hid (HRX.out.next hb)
  replace HRY := Lib.hid (HRY.out.next hb)
  replace HSA := Lib.hid (HSA.out.next hb)
  have HSP := Lib.hid hs
  clear hb hs hz hc
  obtain ⟨Z, hZ⟩ : ∃ Z, Z = u.heap.size := ⟨_, rfl⟩
  have HEZ := Lib.hid hZ
  have HA : Hid (Below u.heap.size u (u.alloc (.cells #[.string NP, .int .i64 kP, .bool kpP, .int .i64 alP, .string BP, .slice aP nP cP] 24))) := Lib.hid ((Below.refl _ u).alloc (Nat.le_refl _) _)
  have HRZ : Hid (RB (u.alloc (.cells #[.string NP, .int .i64 kP, .bool kpP, .int .i64 alP, .string BP, .slice aP nP cP] 24)) Z #[.string NP, .int .i64 kP, .bool kpP, .int .i64 alP, .string BP, .slice aP nP cP] 24) := Lib.hid (by rw [hZ]; exact (MapKept.heap_alloc u _).1)
  clear hZ
  replace HRX := Lib.hid (HRX.out.next HA.out)
  replace HRY := Lib.hid (HRY.out.next HA.out)
  replace HSA := Lib.hid (HSA.out.next HA.out)
  replace HSP := Lib.hid (HSP.out.next HA.out)
  have x_0 : (u.alloc (.cells #[.string NP, .int .i64 kP, .bool kpP, .int .i64 alP, .string BP, .slice aP nP cP] 24)).cell? ⟨X, 0, none⟩ = some (.string N) := HRX.out.cell
  have x_1 : (u.alloc (.cells #[.string NP, .int .i64 kP, .bool kpP, .int .i64 alP, .string BP, .slice aP nP cP] 24)).cell? ⟨X, 1, none⟩ = some (.int .i64 k) := HRX.out.cell
  have x_2 : (u.alloc (.cells #[.string NP, .int .i64 kP, .bool kpP, .int .i64 alP, .string BP, .slice aP nP cP] 24)).cell? ⟨X, 2, none⟩ = some (.bool kp) := HRX.out.cell
  have x_3 : (u.alloc (.cells #[.string NP, .int .i64 kP, .bool kpP, .int .i64 alP, .string BP, .slice aP nP cP] 24)).cell? ⟨X, 3, none⟩ = some (.int .i64 al) := HRX.out.cell
  have x_4 : (u.alloc (.cells #[.string NP, .int .i64 kP, .bool kpP, .int .i64 alP, .string BP, .slice aP nP cP] 24)).cell? ⟨X, 4, none⟩ = some (.string B) := HRX.out.cell
  have x_5 : (u.alloc (.cells #[.string NP, .int .i64 kP, .bool kpP, .int .i64 alP, .string BP, .slice aP nP cP] 24)).cell? ⟨X, 5, none⟩ = some (.slice a n c) := HRX.out.cell
  go_wp2_with fail
  clear x_0 x_1 x_2 x_3 x_4 x_5
  try rw [← HEZ.out]
  generalize (u.alloc (.cells #[.string NP, .int .i64 kP, .bool kpP, .int .i64 alP, .string BP, .slice aP nP cP] 24)) = W at HA HRX HRY HRZ HSA HSP ⊢
  replace HB : Hid (Below w.heap.size w W) := Lib.hid (after HB.out HA.out)
  clear HA HEZ
  refine (H3.out _ HB.out).mono ?_
  rintro e u ⟨aC, cC, rfl, hs, hz, hc, hb⟩
  replace HB := Lib.hid (after HB.out hb)
  replace HRX := Lib.hid (HRX.out.next hb)
  replace HRY := Lib.hid (HRY.out.next hb)
  replace HRZ := Lib.hid (HRZ.out.next hb)
  replace HSA := Lib.hid (HSA.out.next hb)
  replace HSP := Lib.hid (HSP.out.next hb)
  have HSC := Lib.hid hs
  clear hb hs hz hc
  obtain ⟨Q, hQ⟩ : ∃ Q, Q = u.heap.size := ⟨_, rfl⟩
  have HEQ := Lib.hid hQ
  have HA : Hid (Below u.heap.size u (u.alloc (.cells #[.string NC, .int .i64 kC, .bool kpC, .int .i64 alC, .string BC, .slice aC nC cC] 24))) := Lib.hid ((Below.refl _ u).alloc (Nat.le_refl _) _)
  have HRQ : Hid (RB (u.alloc (.cells #[.string NC, .int .i64 kC, .bool kpC, .int .i64 alC, .string BC, .slice aC nC cC] 24)) Q #[.string NC, .int .i64 kC, .bool kpC, .int .i64 alC, .string BC, .slice aC nC cC] 24) := Lib.hid (by rw [hQ]; exact (MapKept.heap_alloc u _).1)
  clear hQ
  replace HRX := Lib.hid (HRX.out.next HA.out)
  replace HRY := Lib.hid (HRY.out.next HA.out)
  replace HRZ := Lib.hid (HRZ.out.next HA.out)
  replace HSA := Lib.hid (HSA.out.next HA.out)
  replace HSP := Lib.hid (HSP.out.next HA.out)
  replace HSC := Lib.hid (HSC.out.next HA.out)
  have x_0 : (u.alloc (.cells #[.string NC, .int .i64 kC, .bool kpC, .int .i64 alC, .string BC, .slice aC nC cC] 24)).cell? ⟨X, 0, none⟩ = some (.string N) := HRX.out.cell
  have x_1 : (u.alloc (.cells #[.string NC, .int .i64 kC, .bool kpC, .int .i64 alC, .string BC, .slice aC nC cC] 24)).cell? ⟨X, 1, none⟩ = some (.int .i64 k) := HRX.out.cell
  have x_2 : (u.alloc (.cells #[.string NC, .int .i64 kC, .bool kpC, .int .i64 alC, .string BC, .slice aC nC cC] 24)).cell? ⟨X, 2, none⟩ = some (.bool kp) := HRX.out.cell
  have x_3 : (u.alloc (.cells #[.string NC, .int .i64 kC, .bool kpC, .int .i64 alC, .string BC, .slice aC nC cC] 24)).cell? ⟨X, 3, none⟩ = some (.int .i64 al) := HRX.out.cell
  have x_4 : (u.alloc (.cells #[.string NC, .int .i64 kC, .bool kpC, .int .i64 alC, .string BC, .slice aC nC cC] 24)).cell? ⟨X, 4, none⟩ = some (.string B) := HRX.out.cell
  have x_5 : (u.alloc (.cells #[.string NC, .int .i64 kC, .bool kpC, .int .i64 alC, .string BC, .slice aC nC cC] 24)).cell? ⟨X, 5, none⟩ = some (.slice a n c) := HRX.out.cell
  go_wp2_with fail
  clear x_0 x_1 x_2 x_3 x_4 x_5
  try rw [← HEQ.out]
  generalize (u.alloc (.cells #[.string NC, .int .i64 kC, .bool kpC, .int .i64 alC, .string BC, .slice aC nC cC] 24)) = W at HA HRX HRY HRZ HRQ HSA HSP HSC ⊢
  replace HB : Hid (Below w.heap.size w W) := Lib.hid (after HB.out HA.out)
  clear HA HEQ
  refine (H4.out _ HB.out).mono ?_
  rintro e u ⟨aF, cF, rfl, hs, hz, hc, hb⟩
  replace HB := Lib.hid (after HB.out hb)
  replace HRX := Lib.hid (HRX.out.next hb)
  replace HRY := Lib.hid (HRY.out.next hb)
  replace HRZ := Lib.hid (HRZ.out.next hb)
  replace HRQ := Lib.hid (HRQ.out.next hb)
  replace HSA := Lib.hid (HSA.out.next hb)
  replace HSP := Lib.hid (HSP.out.next hb)
  replace HSC := Lib.hid (HSC.out.next hb)
  have HSF := Lib.hid hs
  have HZF := Lib.hid hz
  clear hb hs hz hc
  obtain ⟨V, hV⟩ : ∃ V, V = u.heap.size := ⟨_, rfl⟩
  have HEV := Lib.hid hV
  have HA : Hid (Below u.heap.size u (u.alloc (.cells #[.string NF, .int .i64 kF, .bool kpF, .int .i64 alF, .string BF, .slice aF nF cF] 24))) := Lib.hid ((Below.refl _ u).alloc (Nat.le_refl _) _)
  have HRV : Hid (RB (u.alloc (.cells #[.string NF, .int .i64 kF, .bool kpF, .int .i64 alF, .string BF, .slice aF nF cF] 24)) V #[.string NF, .int .i64 kF, .bool kpF, .int .i64 alF, .string BF, .slice aF nF cF] 24) := Lib.hid (by rw [hV]; exact (MapKept.heap_alloc u _).1)
  clear hV
  replace HRX := Lib.hid (HRX.out.next HA.out)
  replace HRY := Lib.hid (HRY.out.next HA.out)
  replace HRZ := Lib.hid (HRZ.out.next HA.out)
  replace HRQ := Lib.hid (HRQ.out.next HA.out)
  replace HSA := Lib.hid (HSA.out.next HA.out)
  replace HSP := Lib.hid (HSP.out.next HA.out)
  replace HSC := Lib.hid (HSC.out.next HA.out)
  replace HSF := Lib.hid (HSF.out.next HA.out)
  go_wp2_with fail
  try rw [← HEV.out]
  generalize (u.alloc (.cells #[.string NF, .int .i64 kF, .bool kpF, .int .i64 alF, .string BF, .slice aF nF cF] 24)) = W at HA HRX HRY HRZ HRQ HRV HSA HSP HSC HSF ⊢
  replace HB : Hid (Below w.heap.size w W) := Lib.hid (after HB.out HA.out)
  clear HA HEV
  refine (HG.out _ (HT.out.next HB.out)).mono ?_
  rintro e u ⟨rfl, hb⟩
  replace HB := Lib.hid (after HB.out hb)
  replace HRX := Lib.hid (HRX.out.next hb)
  replace HRY := Lib.hid (HRY.out.next hb)
  replace HRZ := Lib.hid (HRZ.out.next hb)
  replace HRQ := Lib.hid (HRQ.out.next hb)
  replace HRV := Lib.hid (HRV.out.next hb)
  replace HSA := Lib.hid (HSA.out.next hb)
  replace HSP := Lib.hid (HSP.out.next hb)
  replace HSC := Lib.hid (HSC.out.next hb)
  replace HSF := Lib.hid (HSF.out.next hb)
  clear hb
  go_wp2
  go_ret
  exact retB_bool rfl HB.out
set_option maxRecDepth 100000 in
set_option maxHeartbeats 2000000 in
theorem pTw_ey (N B D E : ByteArray) (k : Int) (kp : Bool) (al : Int) (a : Option Addr) (n c : Nat) (l : List Rl) (na nb : Int) (w : World) (hs : SL rlC 4 w w.heap.size a n l) (hz : a = none → n = 0 ∧ c = 0) (hn : n ≤ 1000000) (hg : GoodB N k al B l) (hD : D.size ≤ 140737488351232) (hE : E.size ≤ 140737488351232) (hT : TabP w) (hbig : bigS B.size n N.size = false) (hlong : ¬ (5000 : Int) < (D.size : Int) + E.size) (NA BA : ByteArray) (kA : Int) (kpA : Bool) (alA : Int) (nA : Nat) (lA : List Rl) (eA : Int) (hA : pPutL ⟨N.data.toList, k, kp, al, B.data.toList, l⟩ D.data.toList = (⟨NA.data.toList, kA, kpA, alA, BA.data.toList, lA⟩, eA)) (mA : nA = lA.length) (NP BP : ByteArray) (kP : Int) (kpP : Bool) (alP : Int) (nP : Nat) (lP : List Rl) (eP : Int) (hP : pPutL ⟨NA.data.toList, kA, kpA, alA, BA.data.toList, lA⟩ E.data.toList = (⟨NP.data.toList, kP, kpP, alP, BP.data.toList, lP⟩, eP)) (mP : nP = lP.length) (NC BC : ByteArray) (kC : Int) (kpC : Bool) (alC : Int) (nC : Nat) (lC : List Rl) (eC : Int) (hC : pPutL ⟨N.data.toList, k, kp, al, B.data.toList, l⟩ (D.data.toList ++ E.data.toList) = (⟨NC.data.toList, kC, kpC, alC, BC.data.toList, lC⟩, eC)) (mC : nC = lC.length) (NF BF : ByteArray) (kF : Int) (kpF : Bool) (alF : Int) (nF : Nat) (lF : List Rl) (eF : Int) (hF : pAlignL ⟨N.data.toList, k, kp, al, B.data.toList, l⟩ na = (⟨NF.data.toList, kF, kpF, alF, BF.data.toList, lF⟩, eF)) (mF : nF = lF.length) (e0 : eA ≠ 0) (f0 : eF = 0) (f2 : 0 ≤ nb) (f3 : nb ≤ na) : Calls Tryz.prog 5 #[.agg #[.string N, .int .i64 k, .bool kp, .int .i64 al, .string B, .slice a n c], .string D, .string E, .int .i64 na, .int .i64 nb] w (RetB (.bool true) w) := by
  have hCe : eC = eA := by have := two_err (y := E.data.toList) hA e0; rw [hC] at this; exact this
  subst hCe
  have r1 : (eC == 0) = false := by simp; exact e0
  have r2 : (eC != 0) = true := by simp [bne_iff_ne]; exact e0
  subst f0
  have HBig : Hid (∀ u, Calls Tryz.prog 17 #[.agg #[.string N, .int .i64 k, .bool kp, .int .i64 al, .string B, .slice a n c]] u (RetB (.bool false) u)) := Lib.hid fun u => by
    have := rBig_any N B k kp al a n c u
    rwa [hbig] at this
  have HB : Hid (Below w.heap.size w w) := Lib.hid (Below.refl _ w)
  have HT := Lib.hid hT
  have HS := Lib.hid hs
  have HG := Lib.hid (fun u (hu : TabP u) => grown_is u hu)
  have hw : IntKind.i64.wrap ((D.size : Int) + E.size) = (D.size : Int) + E.size := by rw [IntKind.wrap_i64]; omega
  have hDi : (D.size : Int) ≤ 140737488351232 := by omega
  have hEi : (E.size : Int) ≤ 140737488351232 := by omega
  have gA : GoodB NA kA alA BA lA := by have := (put_grows (hg.sc kp) D.data.toList).good; rw [hA] at this; exact GoodSc.b this
  have gF : GoodB NF kF alF BF lF := by have := (align_grows (hg.sc kp) na).good; rw [hF] at this; exact GoodSc.b this
  have hDE : (D ++ E).size = D.size + E.size := ByteArray.size_append
  have hDEi : ((D ++ E : ByteArray).size : Int) = (D.size : Int) + E.size := by rw [hDE]; omega
  have H1 : Hid (∀ u, Below w.heap.size w u → Calls Tryz.prog 18 #[.agg #[.string N, .int .i64 k, .bool kp, .int .i64 al, .string B, .slice a n c], .string D] u (GotB u NA kA kpA alA BA nA lA eC)) := Lib.hid fun u hu =>
    (pPut_any N B D k kp al a n c l u (hs.next hu) hz hg.name hg.data hg.rels (by omega) (hT.next hu)).mono fun e v h => h.got hA mA
  have H2 : Hid (∀ u a c, TabP u → SL rlC 4 u u.heap.size a nA lA → (a = none → nA = 0 ∧ c = 0) → Calls Tryz.prog 18 #[.agg #[.string NA, .int .i64 kA, .bool kpA, .int .i64 alA, .string BA, .slice a nA c], .string E] u (GotB u NP kP kpP alP BP nP lP eP)) := Lib.hid fun u a c hu hs hz =>
    (pPut_any NA BA E kA kpA alA a nA c lA u hs hz gA.name gA.data gA.rels (by omega) hu).mono fun e v h => h.got hP mP
  have H3 : Hid (∀ u, Below w.heap.size w u → Calls Tryz.prog 18 #[.agg #[.string N, .int .i64 k, .bool kp, .int .i64 al, .string B, .slice a n c], .string (D ++ E)] u (GotB u NC kC kpC alC BC nC lC eC)) := Lib.hid fun u hu => by
    have := pPut_any N B (D ++ E) k kp al a n c l u (hs.next hu) hz hg.name hg.data hg.rels (by omega) (hT.next hu)
    rw [cat_list] at this
    exact this.mono fun e v h => h.got hC mC
  have H4 : Hid (∀ u, Below w.heap.size w u → Calls Tryz.prog 19 #[.agg #[.string N, .int .i64 k, .bool kp, .int .i64 al, .string B, .slice a n c], .int .i64 na] u (GotB u NF kF kpF alF BF nF lF 0)) := Lib.hid fun u hu =>
    (pAlign_any N B k kp al a n c l na u (hs.next hu) hz hg.name hg.data hg.rels (hT.next hu)).mono fun e v h => h.got hF mF
  have f1 : ¬ nb < 0 := by omega
  have f4 : ¬ na < nb := by omega
  obtain ⟨-, p1, p2, -, -⟩ := align_right hF
  have hnF : nF ≤ 1000000 := by
    obtain ⟨-, -, -, -, h⟩ := align_right hF
    simp only [Sc.mk.injEq] at h
    rw [mF, h.2.2.2.2.2, ← hs.len]; exact hn
  have H5 : Hid (∀ u a c, TabP u → SL rlC 4 u u.heap.size a nF lF → (a = none → nF = 0 ∧ c = 0) → Calls Tryz.prog 19 #[.agg #[.string NF, .int .i64 kF, .bool kpF, .int .i64 alF, .string BF, .slice a nF c], .int .i64 na] u (GotB u NF kF kpF alF BF nF lF 0)) := Lib.hid fun u a c hu hs hz =>
    (pAlign_any NF BF kF kpF alF a nF c lF na u hs hz gF.name gF.data gF.rels hu).mono fun e v h => h.got (twice hF p1 (Int.le_refl _)) mF
  have H6 : Hid (∀ u a c, TabP u → SL rlC 4 u u.heap.size a nF lF → (a = none → nF = 0 ∧ c = 0) → Calls Tryz.prog 19 #[.agg #[.string NF, .int .i64 kF, .bool kpF, .int .i64 alF, .string BF, .slice a nF c], .int .i64 nb] u (GotB u NF kF kpF alF BF nF lF 0)) := Lib.hid fun u a c hu hs hz =>
    (pAlign_any NF BF kF kpF alF a nF c lF nb u hs hz gF.name gF.data gF.rels hu).mono fun e v h => h.got (twice hF f2 f3) mF
  have HSame2 : Hid (∀ u a a' c c', SL rlC 4 u u.heap.size a nF lF → SL rlC 4 u u.heap.size a' nF lF → Calls Tryz.prog 15 #[.agg #[.string NF, .int .i64 kF, .bool kpF, .int .i64 alF, .string BF, .slice a nF c], .agg #[.string NF, .int .i64 kF, .bool kpF, .int .i64 alF, .string BF, .slice a' nF c']] u (RetB (.bool true) u)) := Lib.hid fun u a a' c c' h h' => rSame_is NF BF kF kpF alF a a' nF c c' lF u hnF h h'
  clear e0
  clear p1 p2 hnF
  clear hs hz hn hg hT hbig hA hP hC hF mA mP mC mF gA gF hDE
  go_enter Tryz.func5, Tryz.ntmps5
  obtain ⟨X, hX⟩ : ∃ X, X = w.heap.size := ⟨_, rfl⟩
  have HEX := Lib.hid hX
  have HA : Hid (Below w.heap.size w (w.alloc (.cells #[.string N, .int .i64 k, .bool kp, .int .i64 al, .string B, .slice a n c] 24))) := Lib.hid ((Below.refl _ w).alloc (Nat.le_refl _) _)
  have HRX : Hid (RB (w.alloc (.cells #[.string N, .int .i64 k, .bool kp, .int .i64 al, .string B, .slice a n c] 24)) X #[.string N, .int .i64 k, .bool kp, .int .i64 al, .string B, .slice a n c] 24) := Lib.hid (by rw [hX]; exact (MapKept.heap_alloc w _).1)
  clear hX
  go_wp2_with fail
  try rw [← HEX.out]
  generalize (w.alloc (.cells #[.string N, .int .i64 k, .bool kp, .int .i64 al, .string B, .slice a n c] 24)) = W at HA HRX ⊢
  replace HB : Hid (Below w.heap.size w W) := Lib.hid (after HB.out HA.out)
  clear HA HEX
  refine (HBig.out _).mono ?_
  rintro e u ⟨rfl, hb⟩
  replace HB := Lib.hid (after HB.out hb)
  replace HRX := Lib.hid (HRX.out.next hb)
  clear hb
  have x_0 : u.cell? ⟨X, 0, none⟩ = some (.string N) := HRX.out.cell
  have x_1 : u.cell? ⟨X, 1, none⟩ = some (.int .i64 k) := HRX.out.cell
  have x_2 : u.cell? ⟨X, 2, none⟩ = some (.bool kp) := HRX.out.cell
  have x_3 : u.cell? ⟨X, 3, none⟩ = some (.int .i64 al) := HRX.out.cell
  have x_4 : u.cell? ⟨X, 4, none⟩ = some (.string B) := HRX.out.cell
  have x_5 : u.cell? ⟨X, 5, none⟩ = some (.slice a n c) := HRX.out.cell
  go_wp2_with fail
  clear x_0 x_1 x_2 x_3 x_4 x_5
  refine (H1.out _ HB.out).mono ?_
  rintro e u ⟨aA, cA, rfl, hs, hz, hc, hb⟩
  replace HB := Lib.hid (after HB.out hb)
  replace HRX := Lib.hid (HRX.out.next hb)
  have HSA := Lib.hid hs
  have HZA := Lib.hid hz
  clear hb hs hz hc
  obtain ⟨Y, hY⟩ : ∃ Y, Y = u.heap.size := ⟨_, rfl⟩
  have HEY := Lib.hid hY
  have HA : Hid (Below u.heap.size u (u.alloc (.cells #[.string NA, .int .i64 kA, .bool kpA, .int .i64 alA, .string BA, .slice aA nA cA] 24))) := Lib.hid ((Below.refl _ u).alloc (Nat.le_refl _) _)
  have HRY : Hid (RB (u.alloc (.cells #[.string NA, .int .i64 kA, .bool kpA, .int .i64 alA, .string BA, .slice aA nA cA] 24)) Y #[.string NA, .int .i64 kA, .bool kpA, .int .i64 alA, .string BA, .slice aA nA cA] 24) := Lib.hid (by rw [hY]; exact (MapKept.heap_alloc u _).1)
  clear hY
  replace HRX := Lib.hid (HRX.out.next HA.out)
  replace HSA := Lib.hid (HSA.out.next HA.out)
  go_wp2_with fail
  try rw [← HEY.out]
  generalize (u.alloc (.cells #[.string NA, .int .i64 kA, .bool kpA, .int .i64 alA, .string BA, .slice aA nA cA] 24)) = W at HA HRX HRY HSA ⊢
  replace HB : Hid (Below w.heap.size w W) := Lib.hid (after HB.out HA.out)
  clear HA HEY
  refine (H2.out _ aA cA (HT.out.next HB.out) HSA.out HZA.out).mono ?_
  rintro e u ⟨aP, cP, rfl, hs, hz, hc, hb⟩
  replace HB := Lib.hid (after HB.out hb)
  replace HRX := Lib.hid (HRX.out.next hb)
  replace HRY := Lib.hid (HRY.out.next hb)
  replace HSA := Lib.hid (HSA.out.next hb)
  have HSP := Lib.hid hs
  clear hb hs hz hc
  obtain ⟨Z, hZ⟩ : ∃ Z, Z = u.heap.size := ⟨_, rfl⟩
  have HEZ := Lib.hid hZ
  have HA : Hid (Below u.heap.size u (u.alloc (.cells #[.string NP, .int .i64 kP, .bool kpP, .int .i64 alP, .string BP, .slice aP nP cP] 24))) := Lib.hid ((Below.refl _ u).alloc (Nat.le_refl _) _)
  have HRZ : Hid (RB (u.alloc (.cells #[.string NP, .int .i64 kP, .bool kpP, .int .i64 alP, .string BP, .slice aP nP cP] 24)) Z #[.string NP, .int .i64 kP, .bool kpP, .int .i64 alP, .string BP, .slice aP nP cP] 24) := Lib.hid (by rw [hZ]; exact (MapKept.heap_alloc u _).1)
  clear hZ
  replace HRX := Lib.hid (HRX.out.next HA.out)
  replace HRY := Lib.hid (HRY.out.next HA.out)
  replace HSA := Lib.hid (HSA.out.next HA.out)
  replace HSP := Lib.hid (HSP.out.next HA.out)
  have x_0 : (u.alloc (.cells #[.string NP, .int .i64 kP, .bool kpP, .int .i64 alP, .string BP, .slice aP nP cP] 24)).cell? ⟨X, 0, none⟩ = some (.string N) := HRX.out.cell
  have x_1 : (u.alloc (.cells #[.string NP, .int .i64 kP, .bool kpP, .int .i64 alP, .string BP, .slice aP nP cP] 24)).cell? ⟨X, 1, none⟩ = some (.int .i64 k) := HRX.out.cell
  have x_2 : (u.alloc (.cells #[.string NP, .int .i64 kP, .bool kpP, .int .i64 alP, .string BP, .slice aP nP cP] 24)).cell? ⟨X, 2, none⟩ = some (.bool kp) := HRX.out.cell
  have x_3 : (u.alloc (.cells #[.string NP, .int .i64 kP, .bool kpP, .int .i64 alP, .string BP, .slice aP nP cP] 24)).cell? ⟨X, 3, none⟩ = some (.int .i64 al) := HRX.out.cell
  have x_4 : (u.alloc (.cells #[.string NP, .int .i64 kP, .bool kpP, .int .i64 alP, .string BP, .slice aP nP cP] 24)).cell? ⟨X, 4, none⟩ = some (.string B) := HRX.out.cell
  have x_5 : (u.alloc (.cells #[.string NP, .int .i64 kP, .bool kpP, .int .i64 alP, .string BP, .slice aP nP cP] 24)).cell? ⟨X, 5, none⟩ = some (.slice a n c) := HRX.out.cell
  go_wp2_with fail
  clear x_0 x_1 x_2 x_3 x_4 x_5
  try rw [← HEZ.out]
  generalize (u.alloc (.cells #[.string NP, .int .i64 kP, .bool kpP, .int .i64 alP, .string BP, .slice aP nP cP] 24)) = W at HA HRX HRY HRZ HSA HSP ⊢
  replace HB : Hid (Below w.heap.size w W) := Lib.hid (after HB.out HA.out)
  clear HA HEZ
  refine (H3.out _ HB.out).mono ?_
  rintro e u ⟨aC, cC, rfl, hs, hz, hc, hb⟩
  replace HB := Lib.hid (after HB.out hb)
  replace HRX := Lib.hid (HRX.out.next hb)
  replace HRY := Lib.hid (HRY.out.next hb)
  replace HRZ := Lib.hid (HRZ.out.next hb)
  replace HSA := Lib.hid (HSA.out.next hb)
  replace HSP := Lib.hid (HSP.out.next hb)
  have HSC := Lib.hid hs
  clear hb hs hz hc
  obtain ⟨Q, hQ⟩ : ∃ Q, Q = u.heap.size := ⟨_, rfl⟩
  have HEQ := Lib.hid hQ
  have HA : Hid (Below u.heap.size u (u.alloc (.cells #[.string NC, .int .i64 kC, .bool kpC, .int .i64 alC, .string BC, .slice aC nC cC] 24))) := Lib.hid ((Below.refl _ u).alloc (Nat.le_refl _) _)
  have HRQ : Hid (RB (u.alloc (.cells #[.string NC, .int .i64 kC, .bool kpC, .int .i64 alC, .string BC, .slice aC nC cC] 24)) Q #[.string NC, .int .i64 kC, .bool kpC, .int .i64 alC, .string BC, .slice aC nC cC] 24) := Lib.hid (by rw [hQ]; exact (MapKept.heap_alloc u _).1)
  clear hQ
  replace HRX := Lib.hid (HRX.out.next HA.out)
  replace HRY := Lib.hid (HRY.out.next HA.out)
  replace HRZ := Lib.hid (HRZ.out.next HA.out)
  replace HSA := Lib.hid (HSA.out.next HA.out)
  replace HSP := Lib.hid (HSP.out.next HA.out)
  replace HSC := Lib.hid (HSC.out.next HA.out)
  have x_0 : (u.alloc (.cells #[.string NC, .int .i64 kC, .bool kpC, .int .i64 alC, .string BC, .slice aC nC cC] 24)).cell? ⟨X, 0, none⟩ = some (.string N) := HRX.out.cell
  have x_1 : (u.alloc (.cells #[.string NC, .int .i64 kC, .bool kpC, .int .i64 alC, .string BC, .slice aC nC cC] 24)).cell? ⟨X, 1, none⟩ = some (.int .i64 k) := HRX.out.cell
  have x_2 : (u.alloc (.cells #[.string NC, .int .i64 kC, .bool kpC, .int .i64 alC, .string BC, .slice aC nC cC] 24)).cell? ⟨X, 2, none⟩ = some (.bool kp) := HRX.out.cell
  have x_3 : (u.alloc (.cells #[.string NC, .int .i64 kC, .bool kpC, .int .i64 alC, .string BC, .slice aC nC cC] 24)).cell? ⟨X, 3, none⟩ = some (.int .i64 al) := HRX.out.cell
  have x_4 : (u.alloc (.cells #[.string NC, .int .i64 kC, .bool kpC, .int .i64 alC, .string BC, .slice aC nC cC] 24)).cell? ⟨X, 4, none⟩ = some (.string B) := HRX.out.cell
  have x_5 : (u.alloc (.cells #[.string NC, .int .i64 kC, .bool kpC, .int .i64 alC, .string BC, .slice aC nC cC] 24)).cell? ⟨X, 5, none⟩ = some (.slice a n c) := HRX.out.cell
  go_wp2_with fail
  clear x_0 x_1 x_2 x_3 x_4 x_5
  try rw [← HEQ.out]
  generalize (u.alloc (.cells #[.string NC, .int .i64 kC, .bool kpC, .int .i64 alC, .string BC, .slice aC nC cC] 24)) = W at HA HRX HRY HRZ HRQ HSA HSP HSC ⊢
  replace HB : Hid (Below w.heap.size w W) := Lib.hid (after HB.out HA.out)
  clear HA HEQ
  refine (H4.out _ HB.out).mono ?_
  rintro e u ⟨aF, cF, rfl, hs, hz, hc, hb⟩
  replace HB := Lib.hid (after HB.out hb)
  replace HRX := Lib.hid (HRX.out.next hb)
  replace HRY := Lib.hid (HRY.out.next hb)
  replace HRZ := Lib.hid (HRZ.out.next hb)
  replace HRQ := Lib.hid (HRQ.out.next hb)
  replace HSA := Lib.hid (HSA.out.next hb)
  replace HSP := Lib.hid (HSP.out.next hb)
  replace HSC := Lib.hid (HSC.out.next hb)
  have HSF := Lib.hid hs
  have HZF := Lib.hid hz
  clear hb hs hz hc
  obtain ⟨V, hV⟩ : ∃ V, V = u.heap.size := ⟨_, rfl⟩
  have HEV := Lib.hid hV
  have HA : Hid (Below u.heap.size u (u.alloc (.cells #[.string NF, .int .i64 kF, .bool kpF, .int .i64 alF, .string BF, .slice aF nF cF] 24))) := Lib.hid ((Below.refl _ u).alloc (Nat.le_refl _) _)
  have HRV : Hid (RB (u.alloc (.cells #[.string NF, .int .i64 kF, .bool kpF, .int .i64 alF, .string BF, .slice aF nF cF] 24)) V #[.string NF, .int .i64 kF, .bool kpF, .int .i64 alF, .string BF, .slice aF nF cF] 24) := Lib.hid (by rw [hV]; exact (MapKept.heap_alloc u _).1)
  clear hV
  replace HRX := Lib.hid (HRX.out.next HA.out)
  replace HRY := Lib.hid (HRY.out.next HA.out)
  replace HRZ := Lib.hid (HRZ.out.next HA.out)
  replace HRQ := Lib.hid (HRQ.out.next HA.out)
  replace HSA := Lib.hid (HSA.out.next HA.out)
  replace HSP := Lib.hid (HSP.out.next HA.out)
  replace HSC := Lib.hid (HSC.out.next HA.out)
  replace HSF := Lib.hid (HSF.out.next HA.out)
  go_wp2_with fail
  try rw [← HEV.out]
  generalize (u.alloc (.cells #[.string NF, .int .i64 kF, .bool kpF, .int .i64 alF, .string BF, .slice aF nF cF] 24)) = W at HA HRX HRY HRZ HRQ HRV HSA HSP HSC HSF ⊢
  replace HB : Hid (Below w.heap.size w W) := Lib.hid (after HB.out HA.out)
  clear HA HEV
  refine (H5.out _ aF cF (HT.out.next HB.out) HSF.out HZF.out).mono ?_
  rintro e u ⟨aI, cI, rfl, hs, hz, hc, hb⟩
  replace HB := Lib.hid (after HB.out hb)
  replace HRX := Lib.hid (HRX.out.next hb)
  replace HRY := Lib.hid (HRY.out.next hb)
  replace HRZ := Lib.hid (HRZ.out.next hb)
  replace HRQ := Lib.hid (HRQ.out.next hb)
  replace HRV := Lib.hid (HRV.out.next hb)
  replace HSA := Lib.hid (HSA.out.next hb)
  replace HSP := Lib.hid (HSP.out.next hb)
  replace HSC := Lib.hid (HSC.out.next hb)
  replace HSF := Lib.hid (HSF.out.next hb)
  have HSI := Lib.hid hs
  clear hb hs hz hc
  obtain ⟨I, hI⟩ : ∃ I, I = u.heap.size := ⟨_, rfl⟩
  have HEI := Lib.hid hI
  have HA : Hid (Below u.heap.size u (u.alloc (.cells #[.string NF, .int .i64 kF, .bool kpF, .int .i64 alF, .string BF, .slice aI nF cI] 24))) := Lib.hid ((Below.refl _ u).alloc (Nat.le_refl _) _)
  have HRI : Hid (RB (u.alloc (.cells #[.string NF, .int .i64 kF, .bool kpF, .int .i64 alF, .string BF, .slice aI nF cI] 24)) I #[.string NF, .int .i64 kF, .bool kpF, .int .i64 alF, .string BF, .slice aI nF cI] 24) := Lib.hid (by rw [hI]; exact (MapKept.heap_alloc u _).1)
  clear hI
  replace HRX := Lib.hid (HRX.out.next HA.out)
  replace HRY := Lib.hid (HRY.out.next HA.out)
  replace HRZ := Lib.hid (HRZ.out.next HA.out)
  replace HRQ := Lib.hid (HRQ.out.next HA.out)
  replace HRV := Lib.hid (HRV.out.next HA.out)
  replace HSA := Lib.hid (HSA.out.next HA.out)
  replace HSP := Lib.hid (HSP.out.next HA.out)
  replace HSC := Lib.hid (HSC.out.next HA.out)
  replace HSF := Lib.hid (HSF.out.next HA.out)
  replace HSI := Lib.hid (HSI.out.next HA.out)
  have v_0 : (u.alloc (.cells #[.string NF, .int .i64 kF, .bool kpF, .int .i64 alF, .string BF, .slice aI nF cI] 24)).cell? ⟨V, 0, none⟩ = some (.string NF) := HRV.out.cell
  have v_1 : (u.alloc (.cells #[.string NF, .int .i64 kF, .bool kpF, .int .i64 alF, .string BF, .slice aI nF cI] 24)).cell? ⟨V, 1, none⟩ = some (.int .i64 kF) := HRV.out.cell
  have v_2 : (u.alloc (.cells #[.string NF, .int .i64 kF, .bool kpF, .int .i64 alF, .string BF, .slice aI nF cI] 24)).cell? ⟨V, 2, none⟩ = some (.bool kpF) := HRV.out.cell
  have v_3 : (u.alloc (.cells #[.string NF, .int .i64 kF, .bool kpF, .int .i64 alF, .string BF, .slice aI nF cI] 24)).cell? ⟨V, 3, none⟩ = some (.int .i64 alF) := HRV.out.cell
  have v_4 : (u.alloc (.cells #[.string NF, .int .i64 kF, .bool kpF, .int .i64 alF, .string BF, .slice aI nF cI] 24)).cell? ⟨V, 4, none⟩ = some (.string BF) := HRV.out.cell
  have v_5 : (u.alloc (.cells #[.string NF, .int .i64 kF, .bool kpF, .int .i64 alF, .string BF, .slice aI nF cI] 24)).cell? ⟨V, 5, none⟩ = some (.slice aF nF cF) := HRV.out.cell
  go_wp2_with fail
  clear v_0 v_1 v_2 v_3 v_4 v_5
  try rw [← HEI.out]
  generalize (u.alloc (.cells #[.string NF, .int .i64 kF, .bool kpF, .int .i64 alF, .string BF, .slice aI nF cI] 24)) = W at HA HRX HRY HRZ HRQ HRV HRI HSA HSP HSC HSF HSI ⊢
  replace HB : Hid (Below w.heap.size w W) := Lib.hid (after HB.out HA.out)
  clear HA HEI
  refine (H6.out _ aF cF (HT.out.next HB.out) HSF.out HZF.out).mono ?_
  rintro e u ⟨aK, cK, rfl, hs, hz, hc, hb⟩
  replace HB := Lib.hid (after HB.out hb)
  replace HRX := Lib.hid (HRX.out.next hb)
  replace HRY := Lib.hid (HRY.out.next hb)
  replace HRZ := Lib.hid (HRZ.out.next hb)
  replace HRQ := Lib.hid (HRQ.out.next hb)
  replace HRV := Lib.hid (HRV.out.next hb)
  replace HRI := Lib.hid (HRI.out.next hb)
  replace HSA := Lib.hid (HSA.out.next hb)
  replace HSP := Lib.hid (HSP.out.next hb)
  replace HSC := Lib.hid (HSC.out.next hb)
  replace HSF := Lib.hid (HSF.out.next hb)
  replace HSI := Lib.hid (HSI.out.next hb)
  have HSK := Lib.hid hs
  clear hb hs hz hc
  obtain ⟨K, hK⟩ : ∃ K, K = u.heap.size := ⟨_, rfl⟩
  have HEK := Lib.hid hK
  have HA : Hid (Below u.heap.size u (u.alloc (.cells #[.string NF, .int .i64 kF, .bool kpF, .int .i64 alF, .string BF, .slice aK nF cK] 24))) := Lib.hid ((Below.refl _ u).alloc (Nat.le_refl _) _)
  have HRK : Hid (RB (u.alloc (.cells #[.string NF, .int .i64 kF, .bool kpF, .int .i64 alF, .string BF, .slice aK nF cK] 24)) K #[.string NF, .int .i64 kF, .bool kpF, .int .i64 alF, .string BF, .slice aK nF cK] 24) := Lib.hid (by rw [hK]; exact (MapKept.heap_alloc u _).1)
  clear hK
  replace HRX := Lib.hid (HRX.out.next HA.out)
  replace HRY := Lib.hid (HRY.out.next HA.out)
  replace HRZ := Lib.hid (HRZ.out.next HA.out)
  replace HRQ := Lib.hid (HRQ.out.next HA.out)
  replace HRV := Lib.hid (HRV.out.next HA.out)
  replace HRI := Lib.hid (HRI.out.next HA.out)
  replace HSA := Lib.hid (HSA.out.next HA.out)
  replace HSP := Lib.hid (HSP.out.next HA.out)
  replace HSC := Lib.hid (HSC.out.next HA.out)
  replace HSF := Lib.hid (HSF.out.next HA.out)
  replace HSI := Lib.hid (HSI.out.next HA.out)
  replace HSK := Lib.hid (HSK.out.next HA.out)
  go_wp2_with fail
  try rw [← HEK.out]
  generalize (u.alloc (.cells #[.string NF, .int .i64 kF, .bool kpF, .int .i64 alF, .string BF, .slice aK nF cK] 24)) = W at HA HRX HRY HRZ HRQ HRV HRI HRK HSA HSP HSC HSF HSI HSK ⊢
  replace HB : Hid (Below w.heap.size w W) := Lib.hid (after HB.out HA.out)
  clear HA HEK
  refine (HG.out _ (HT.out.next HB.out)).mono ?_
  rintro e u ⟨rfl, hb⟩
  replace HB := Lib.hid (after HB.out hb)
  replace HRX := Lib.hid (HRX.out.next hb)
  replace HRY := Lib.hid (HRY.out.next hb)
  replace HRZ := Lib.hid (HRZ.out.next hb)
  replace HRQ := Lib.hid (HRQ.out.next hb)
  replace HRV := Lib.hid (HRV.out.next hb)
  replace HRI := Lib.hid (HRI.out.next hb)
  replace HRK := Lib.hid (HRK.out.next hb)
  replace HSA := Lib.hid (HSA.out.next hb)
  replace HSP := Lib.hid (HSP.out.next hb)
  replace HSC := Lib.hid (HSC.out.next hb)
  replace HSF := Lib.hid (HSF.out.next hb)
  replace HSI := Lib.hid (HSI.out.next hb)
  replace HSK := Lib.hid (HSK.out.next hb)
  clear hb
  have v_0 : u.cell? ⟨V, 0, none⟩ = some (.string NF) := HRV.out.cell
  have v_1 : u.cell? ⟨V, 1, none⟩ = some (.int .i64 kF) := HRV.out.cell
  have v_2 : u.cell? ⟨V, 2, none⟩ = some (.bool kpF) := HRV.out.cell
  have v_3 : u.cell? ⟨V, 3, none⟩ = some (.int .i64 alF) := HRV.out.cell
  have v_4 : u.cell? ⟨V, 4, none⟩ = some (.string BF) := HRV.out.cell
  have v_5 : u.cell? ⟨V, 5, none⟩ = some (.slice aF nF cF) := HRV.out.cell
  have i_0 : u.cell? ⟨I, 0, none⟩ = some (.string NF) := HRI.out.cell
  have i_1 : u.cell? ⟨I, 1, none⟩ = some (.int .i64 kF) := HRI.out.cell
  have i_2 : u.cell? ⟨I, 2, none⟩ = some (.bool kpF) := HRI.out.cell
  have i_3 : u.cell? ⟨I, 3, none⟩ = some (.int .i64 alF) := HRI.out.cell
  have i_4 : u.cell? ⟨I, 4, none⟩ = some (.string BF) := HRI.out.cell
  have i_5 : u.cell? ⟨I, 5, none⟩ = some (.slice aI nF cI) := HRI.out.cell
  go_wp2_with fail
  clear v_0 v_1 v_2 v_3 v_4 v_5 i_0 i_1 i_2 i_3 i_4 i_5
  refine (HSame2.out _ aI aF cI cF HSI.out HSF.out).mono ?_
  rintro e u ⟨rfl, hb⟩
  replace HB := Lib.hid (after HB.out hb)
  replace HRX := Lib.hid (HRX.out.next hb)
  replace HRY := Lib.hid (HRY.out.next hb)
  replace HRZ := Lib.hid (HRZ.out.next hb)
  replace HRQ := Lib.hid (HRQ.out.next hb)
  replace HRV := Lib.hid (HRV.out.next hb)
  replace HRI := Lib.hid (HRI.out.next hb)
  replace HRK := Lib.hid (HRK.out.next hb)
  replace HSA := Lib.hid (HSA.out.next hb)
  replace HSP := Lib.hid (HSP.out.next hb)
  replace HSC := Lib.hid (HSC.out.next hb)
  replace HSF := Lib.hid (HSF.out.next hb)
  replace HSI := Lib.hid (HSI.out.next hb)
  replace HSK := Lib.hid (HSK.out.next hb)
  clear hb
  have v_0 : u.cell? ⟨V, 0, none⟩ = some (.string NF) := HRV.out.cell
  have v_1 : u.cell? ⟨V, 1, none⟩ = some (.int .i64 kF) := HRV.out.cell
  have v_2 : u.cell? ⟨V, 2, none⟩ = some (.bool kpF) := HRV.out.cell
  have v_3 : u.cell? ⟨V, 3, none⟩ = some (.int .i64 alF) := HRV.out.cell
  have v_4 : u.cell? ⟨V, 4, none⟩ = some (.string BF) := HRV.out.cell
  have v_5 : u.cell? ⟨V, 5, none⟩ = some (.slice aF nF cF) := HRV.out.cell
  have k_0 : u.cell? ⟨K, 0, none⟩ = some (.string NF) := HRK.out.cell
  have k_1 : u.cell? ⟨K, 1, none⟩ = some (.int .i64 kF) := HRK.out.cell
  have k_2 : u.cell? ⟨K, 2, none⟩ = some (.bool kpF) := HRK.out.cell
  have k_3 : u.cell? ⟨K, 3, none⟩ = some (.int .i64 alF) := HRK.out.cell
  have k_4 : u.cell? ⟨K, 4, none⟩ = some (.string BF) := HRK.out.cell
  have k_5 : u.cell? ⟨K, 5, none⟩ = some (.slice aK nF cK) := HRK.out.cell
  go_wp2_with fail
  clear v_0 v_1 v_2 v_3 v_4 v_5 k_0 k_1 k_2 k_3 k_4 k_5
  refine (HSame2.out _ aK aF cK cF HSK.out HSF.out).mono ?_
  rintro e u ⟨rfl, hb⟩
  replace HB := Lib.hid (after HB.out hb)
  replace HRX := Lib.hid (HRX.out.next hb)
  replace HRY := Lib.hid (HRY.out.next hb)
  replace HRZ := Lib.hid (HRZ.out.next hb)
  replace HRQ := Lib.hid (HRQ.out.next hb)
  replace HRV := Lib.hid (HRV.out.next hb)
  replace HRI := Lib.hid (HRI.out.next hb)
  replace HRK := Lib.hid (HRK.out.next hb)
  replace HSA := Lib.hid (HSA.out.next hb)
  replace HSP := Lib.hid (HSP.out.next hb)
  replace HSC := Lib.hid (HSC.out.next hb)
  replace HSF := Lib.hid (HSF.out.next hb)
  replace HSI := Lib.hid (HSI.out.next hb)
  replace HSK := Lib.hid (HSK.out.next hb)
  clear hb
  go_wp2
  go_ret
  exact retB_bool rfl HB.out
theorem pTw_core (N B D E : ByteArray) (k : Int) (kp : Bool) (al : Int) (a : Option Addr) (n c : Nat) (l : List Rl) (na nb : Int) (w : World) (hs : SL rlC 4 w w.heap.size a n l) (hz : a = none → n = 0 ∧ c = 0) (hn : n ≤ 1000000) (hg : GoodB N k al B l) (hD : D.size ≤ 140737488351232) (hE : E.size ≤ 140737488351232) (hT : TabP w) : Calls Tryz.prog 5 #[.agg #[.string N, .int .i64 k, .bool kp, .int .i64 al, .string B, .slice a n c], .string D, .string E, .int .i64 na, .int .i64 nb] w (RetB (.bool true) w) := by
  cases hbig : bigS B.size n N.size
  · by_cases hlong : (5000 : Int) < (D.size : Int) + E.size
    · exact pTw_long N B D E k kp al a n c l na nb w hs hz hn hg hD hE hT hbig hlong
    · obtain ⟨NA, BA, kA, kpA, alA, nA, lA, eA, hA, mA⟩ := sec_bytes (pPutL ⟨N.data.toList, k, kp, al, B.data.toList, l⟩ D.data.toList)
      obtain ⟨NP, BP, kP, kpP, alP, nP, lP, eP, hP, mP⟩ := sec_bytes (pPutL ⟨NA.data.toList, kA, kpA, alA, BA.data.toList, lA⟩ E.data.toList)
      obtain ⟨NC, BC, kC, kpC, alC, nC, lC, eC, hC, mC⟩ := sec_bytes (pPutL ⟨N.data.toList, k, kp, al, B.data.toList, l⟩ (D.data.toList ++ E.data.toList))
      obtain ⟨NF, BF, kF, kpF, alF, nF, lF, eF, hF, mF⟩ := sec_bytes (pAlignL ⟨N.data.toList, k, kp, al, B.data.toList, l⟩ na)
      by_cases e0 : eA = 0
      · by_cases f0 : eF = 0
        · by_cases f1 : nb < 0
          · exact pTw_km N B D E k kp al a n c l na nb w hs hz hn hg hD hE hT hbig hlong NA BA kA kpA alA nA lA eA hA mA NP BP kP kpP alP nP lP eP hP mP NC BC kC kpC alC nC lC eC hC mC NF BF kF kpF alF nF lF eF hF mF e0 f0 f1
          · by_cases f3 : nb ≤ na
            · exact pTw_ky N B D E k kp al a n c l na nb w hs hz hn hg hD hE hT hbig hlong NA BA kA kpA alA nA lA eA hA mA NP BP kP kpP alP nP lP eP hP mP NC BC kC kpC alC nC lC eC hC mC NF BF kF kpF alF nF lF eF hF mF e0 f0 (by omega) f3
            · exact pTw_kn N B D E k kp al a n c l na nb w hs hz hn hg hD hE hT hbig hlong NA BA kA kpA alA nA lA eA hA mA NP BP kP kpP alP nP lP eP hP mP NC BC kC kpC alC nC lC eC hC mC NF BF kF kpF alF nF lF eF hF mF e0 f0 (by omega) (by omega)
        · exact pTw_kh N B D E k kp al a n c l na nb w hs hz hn hg hD hE hT hbig hlong NA BA kA kpA alA nA lA eA hA mA NP BP kP kpP alP nP lP eP hP mP NC BC kC kpC alC nC lC eC hC mC NF BF kF kpF alF nF lF eF hF mF e0 f0
      · by_cases f0 : eF = 0
        · by_cases f1 : nb < 0
          · exact pTw_em N B D E k kp al a n c l na nb w hs hz hn hg hD hE hT hbig hlong NA BA kA kpA alA nA lA eA hA mA NP BP kP kpP alP nP lP eP hP mP NC BC kC kpC alC nC lC eC hC mC NF BF kF kpF alF nF lF eF hF mF e0 f0 f1
          · by_cases f3 : nb ≤ na
            · exact pTw_ey N B D E k kp al a n c l na nb w hs hz hn hg hD hE hT hbig hlong NA BA kA kpA alA nA lA eA hA mA NP BP kP kpP alP nP lP eP hP mP NC BC kC kpC alC nC lC eC hC mC NF BF kF kpF alF nF lF eF hF mF e0 f0 (by omega) f3
            · exact pTw_en N B D E k kp al a n c l na nb w hs hz hn hg hD hE hT hbig hlong NA BA kA kpA alA nA lA eA hA mA NP BP kP kpP alP nP lP eP hP mP NC BC kC kpC alC nC lC eC hC mC NF BF kF kpF alF nF lF eF hF mF e0 f0 (by omega) (by omega)
        · exact pTw_eh N B D E k kp al a n c l na nb w hs hz hn hg hD hE hT hbig hlong NA BA kA kpA alA nA lA eA hA mA NP BP kP kpP alP nP lP eP hP mP NC BC kC kpC alC nC lC eC hC mC NF BF kF kpF alF nF lF eF hF mF e0 f0
  · exact pTw_big N B D E k kp al a n c l na nb w hs hz trivial hg hD hE hT hbig
theorem PartTwice_walk (w : World) (s : Sc) (a : Option Addr) (n c : Nat) (hg : GoodSc s) (hs : SL rlC 4 w w.heap.size a n s.rels) (hz : a = none → n = 0 ∧ c = 0) (hnc : n ≤ c) (hn : n ≤ maxLen) (D : ByteArray) (hD : D.size ≤ reachBytes) (E : ByteArray) (hE : E.size ≤ reachBytes) (na : Int) (h1 : -9223372036854775808 ≤ na ∧ na ≤ 9223372036854775807) (nb : Int) (h2 : -9223372036854775808 ≤ nb ∧ nb ≤ 9223372036854775807) (hT : TabP w) :
    Calls Tryz.prog 5 #[scV s a n c, .string D, .string E, .int .i64 na, .int .i64 nb] w (RetB (.bool true) w) := by
  by_cases hn : n ≤ 1000000
  · exact pTw_core ⟨s.name.toArray⟩ ⟨s.data.toArray⟩ D E s.kind s.keep s.align a n c s.rels na nb w hs hz hn (GoodSc.b (kp := s.keep) hg) (by unfold reachBytes at hD; omega) (by unfold reachBytes at hE; omega) hT
  · exact pTw_big ⟨s.name.toArray⟩ ⟨s.data.toArray⟩ D E s.kind s.keep s.align a n c s.rels na nb w hs hz trivial (GoodSc.b (kp := s.keep) hg) (by unfold reachBytes at hD; omega) (by unfold reachBytes at hE; omega) hT (by unfold bigS; rw [decide_eq_true_eq]; omega)
end Go.Proofs.YtmlofdolenmkoaaGreatDoor
