/- PartRight. -/
import Derived.Test.YtmlofdolenmkoaaGreatDoorkXE
import Derived.Deep.RegionHeld3
import Derived.Deep.QuietTactic
import Derived.BigQuiet
namespace Go.Proofs.YtmlofdolenmkoaaGreatDoor
set_option linter.unusedVariables false
set_option linter.unusedSimpArgs false
open Go.ChangeShapes Go.WideShapes Go.Deep Go.RowKit

theorem ext_pre {B Bt : ByteArray} {x : List UInt8} (h : Bt.data.toList = B.data.toList ++ x) : Bt.extract 0 B.size = B ∧ B.size ≤ Bt.size := by
  constructor
  · apply ByteArray.ext
    apply Array.toList_inj.1
    rw [ByteArray.data_extract, Array.toList_extract, h]
    simp
  · rw [← ba_size Bt, h, List.length_append, ba_size]; omega
theorem SL.pre {w : World} {B : Nat} {a : Option Addr} {n m : Nat} {l q : List Rl} (h : SL rlC 4 w B a m (l ++ q)) (hn : n = l.length) : SL rlC 4 w B a n l := by
  refine ⟨hn, fun hl => ?_⟩
  obtain ⟨b, off, e, hB, hc⟩ := h.cells (by simp [hl])
  refine ⟨b, off, e, hB, fun k hk j hj => ?_⟩
  have := hc k (by rw [List.length_append]; omega) j hj
  rwa [List.getElem_append_left hk] at this
/-- Behind a region's first two operations, whatever order is picked, if the rest only reads. -/
theorem wpAny_tail2 {P : Program} {Q : Exit → Act → World → Prop} {o p : Oper} {l : List Oper} {fuel : Nat} {listed : Array Bool} {a : Act} {w : World} (hf : fuel = l.length) (hs : Region.noSelect (o :: p :: l).toArray = true) (hB : Region.lexFrom .any (o :: p :: l).toArray l.length 2 listed = true)
    (h : wpQuiet P (o :: p :: l).toArray (fun u => ∃ n, u = w.drewN n) (fun a' => ∀ u, (∃ n, u = w.drewN n) → Q .normal a' u) l a) : wpAny P .any (o :: p :: l).toArray Q fuel listed a w := by
  subst hf
  exact wpAny_of_quiet (fun _ u hu h => h u hu) _ _ _ _ ⟨0, rfl⟩ (wpAnyQ_lex hs l 2 listed a (fun j => by simp [Nat.add_comm 2 j]) hB h)
set_option maxRecDepth 100000 in
set_option maxHeartbeats 1000000 in
theorem rls_quiet (a a' : Option Addr) (n c c' : Nat) (l : List Rl) (w : World) (hn : n ≤ 1000000) (h : SL rlC 4 w w.heap.size a n l) (h' : SL rlC 4 w w.heap.size a' n l) :
    Calls Tryz.prog 22 #[.slice a n c, .slice a' n c'] w (RetD (.bool true) w) := by
  have hl := Lib.hid h.len
  go_enter Tryz.func22, Tryz.ntmps22
  go_wp2
  go_loopw [5] (fun i wr => ∃ k z : Nat, k ≤ n ∧ i = .int .i64 k ∧ w.drewN z = wr) (fun i _ => n - (intOf i).toNat)
  case atStart => exact ⟨0, 0, by omega, rfl, rfl⟩
  case round =>
    obtain ⟨k, z, hk, rfl, hU⟩ := hrel
    have hb : Below w.heap.size w (w.drewN z) := below_refl_drewN w z
    rw [hU] at hb
    by_cases hlt : k < n
    · have hk1 : k < l.length := by have := hl.out; omega
      obtain ⟨b, off, rfl, hB, hc⟩ := (h.below hb).cells (h.ne hlt)
      obtain ⟨b', off', rfl, hB', hc'⟩ := (h'.below hb).cells (h'.ne hlt)
      obtain ⟨c0, c1, c2, c3⟩ := rl_cells (fun j hj => hc k hk1 j hj)
      obtain ⟨d0, d1, d2, d3⟩ := rl_cells (fun j hj => hc' k hk1 j hj)
      obtain ⟨x, hx⟩ : ∃ x, x = l[k] := ⟨_, rfl⟩
      rw [← hx] at c0 c1 c2 c3 d0 d1 d2 d3
      have hnq := neq_rl x x
      rw [sameRl_iff.2 rfl] at hnq
      have HU := Lib.hid hU
      clear hc hc' h h' hx hU
      go_wp2
      go_quiet (fail)
      go_wp2
      go_roundw
      case rel => exact ⟨k + 1, _, by omega, by go_num, by rw [← HU.out]; exact (World.drewN_drewN _ _ _).symm⟩
      case measure => simp [intOf]; omega
    · go_wp2
      go_ret
      exact ⟨rfl, z, hU.symm⟩
set_option maxRecDepth 100000 in
set_option maxHeartbeats 600000 in
theorem pRi_big (N B D : ByteArray) (k : Int) (kp : Bool) (al : Int) (a : Option Addr) (n c : Nat) (l : List Rl) (na : Int) (v : Nat) (hv : v < 4294967296) (kind sym add : Int) (v2 : Nat) (hv2 : v2 < 18446744073709551616) (w : World) (hs : SL rlC 4 w w.heap.size a n l) (hz : a = none → n = 0 ∧ c = 0) (hg : GoodB N k al B l) (hD : D.size ≤ 140737488351232) (hkk : i64ok kind) (hks : i64ok sym) (hka : i64ok add) (hT : TabP w) (hbig : bigS B.size n N.size = true) : Calls Tryz.prog 4 #[.agg #[.string N, .int .i64 k, .bool kp, .int .i64 al, .string B, .slice a n c], .string D, .int .i64 na, .int .u32 (v : Int), .int .i64 kind, .int .i64 sym, .int .i64 add, .int .u64 (v2 : Int)] w (RetB (.bool true) w) := by
  have HBig : Hid (∀ u, Calls Tryz.prog 17 #[.agg #[.string N, .int .i64 k, .bool kp, .int .i64 al, .string B, .slice a n c]] u (RetB (.bool true) u)) := Lib.hid fun u => by
    have := rBig_any N B k kp al a n c u
    rwa [hbig] at this
  have HB : Hid (Below w.heap.size w w) := Lib.hid (Below.refl _ w)
  have HT := Lib.hid hT
  have HS := Lib.hid hs
  have HG := Lib.hid (fun u (hu : TabP u) => grown_is u hu)
  have hDi : (D.size : Int) ≤ 140737488351232 := by omega
  clear hv hv2 hs hz hg hkk hks hka hT hbig HT HS HG
  go_enter Tryz.func4, Tryz.ntmps4
  obtain ⟨X, hX⟩ : ∃ X, X = w.heap.size := ⟨_, rfl⟩
  have HEX := Lib.hid hX
  have HA : Hid (Below w.heap.size w (w.alloc (.cells #[.string N, .int .i64 k, .bool kp, .int .i64 al, .string B, .slice a n c] 24))) := Lib.hid ((Below.refl _ w).alloc (Nat.le_refl _) _)
  have HRX : Hid (RB (w.alloc (.cells #[.string N, .int .i64 k, .bool kp, .int .i64 al, .string B, .slice a n c] 24)) X #[.string N, .int .i64 k, .bool kp, .int .i64 al, .string B, .slice a n c] 24) := Lib.hid (by rw [hX]; exact (MapKept.heap_alloc w _).1)
  clear hX
  go_wp2_with fail
  try rw [← HEX.out]
  generalize (w.alloc (.cells #[.string N, .int .i64 k, .bool kp, .int .i64 al, .string B, .slice a n c] 24)) = W at HA HRX ⊢
  replace HB : Hid (Below w.heap.size w W) := Lib.hid (after HB.out HA.out)
  clear HA HEX
  refine (HBig.out _).mono ?_
  rintro e u ⟨rfl, hb⟩
  replace HB := Lib.hid (after HB.out hb)
  replace HRX := Lib.hid (HRX.out.next hb)
  clear hb
  go_wp2
  go_ret
  exact retB_bool rfl HB.out
set_option maxRecDepth 100000 in
set_option maxHeartbeats 600000 in
theorem pRi_long (N B D : ByteArray) (k : Int) (kp : Bool) (al : Int) (a : Option Addr) (n c : Nat) (l : List Rl) (na : Int) (v : Nat) (hv : v < 4294967296) (kind sym add : Int) (v2 : Nat) (hv2 : v2 < 18446744073709551616) (w : World) (hs : SL rlC 4 w w.heap.size a n l) (hz : a = none → n = 0 ∧ c = 0) (hg : GoodB N k al B l) (hD : D.size ≤ 140737488351232) (hkk : i64ok kind) (hks : i64ok sym) (hka : i64ok add) (hT : TabP w) (hbig : bigS B.size n N.size = false) (hlong : (5000 : Int) < (D.size : Int)) : Calls Tryz.prog 4 #[.agg #[.string N, .int .i64 k, .bool kp, .int .i64 al, .string B, .slice a n c], .string D, .int .i64 na, .int .u32 (v : Int), .int .i64 kind, .int .i64 sym, .int .i64 add, .int .u64 (v2 : Int)] w (RetB (.bool true) w) := by
  have HBig : Hid (∀ u, Calls Tryz.prog 17 #[.agg #[.string N, .int .i64 k, .bool kp, .int .i64 al, .string B, .slice a n c]] u (RetB (.bool false) u)) := Lib.hid fun u => by
    have := rBig_any N B k kp al a n c u
    rwa [hbig] at this
  have HB : Hid (Below w.heap.size w w) := Lib.hid (Below.refl _ w)
  have HT := Lib.hid hT
  have HS := Lib.hid hs
  have HG := Lib.hid (fun u (hu : TabP u) => grown_is u hu)
  have hDi : (D.size : Int) ≤ 140737488351232 := by omega
  clear hv hv2 hs hz hg hkk hks hka hT hbig HT HS HG
  go_enter Tryz.func4, Tryz.ntmps4
  obtain ⟨X, hX⟩ : ∃ X, X = w.heap.size := ⟨_, rfl⟩
  have HEX := Lib.hid hX
  have HA : Hid (Below w.heap.size w (w.alloc (.cells #[.string N, .int .i64 k, .bool kp, .int .i64 al, .string B, .slice a n c] 24))) := Lib.hid ((Below.refl _ w).alloc (Nat.le_refl _) _)
  have HRX : Hid (RB (w.alloc (.cells #[.string N, .int .i64 k, .bool kp, .int .i64 al, .string B, .slice a n c] 24)) X #[.string N, .int .i64 k, .bool kp, .int .i64 al, .string B, .slice a n c] 24) := Lib.hid (by rw [hX]; exact (MapKept.heap_alloc w _).1)
  clear hX
  go_wp2_with fail
  try rw [← HEX.out]
  generalize (w.alloc (.cells #[.string N, .int .i64 k, .bool kp, .int .i64 al, .string B, .slice a n c] 24)) = W at HA HRX ⊢
  replace HB : Hid (Below w.heap.size w W) := Lib.hid (after HB.out HA.out)
  clear HA HEX
  refine (HBig.out _).mono ?_
  rintro e u ⟨rfl, hb⟩
  replace HB := Lib.hid (after HB.out hb)
  replace HRX := Lib.hid (HRX.out.next hb)
  clear hb
  go_wp2
  go_ret
  exact retB_bool rfl HB.out
set_option maxRecDepth 100000 in
set_option maxHeartbeats 4000000 in
theorem pRi_true (N B D : ByteArray) (k : Int) (kp : Bool) (al : Int) (a : Option Addr) (n c : Nat) (l : List Rl) (na : Int) (v : Nat) (hv : v < 4294967296) (kind sym add : Int) (v2 : Nat) (hv2 : v2 < 18446744073709551616) (w : World) (hs : SL rlC 4 w w.heap.size a n l) (hz : a = none → n = 0 ∧ c = 0) (hg : GoodB N k al B l) (hD : D.size ≤ 140737488351232) (hkk : i64ok kind) (hks : i64ok sym) (hka : i64ok add) (hT : TabP w) (hbig : bigS B.size n N.size = false) (hlong : ¬ (5000 : Int) < (D.size : Int)) (NA BA : ByteArray) (kA : Int) (kpA : Bool) (alA : Int) (nA : Nat) (lA : List Rl) (eA : Int) (hA : pPutL ⟨N.data.toList, k, kp, al, B.data.toList, l⟩ D.data.toList = (⟨NA.data.toList, kA, kpA, alA, BA.data.toList, lA⟩, eA)) (mA : nA = lA.length) (NF BF : ByteArray) (kF : Int) (kpF : Bool) (alF : Int) (nF : Nat) (lF : List Rl) (eF : Int) (hF : pAlignL ⟨N.data.toList, k, kp, al, B.data.toList, l⟩ na = (⟨NF.data.toList, kF, kpF, alF, BF.data.toList, lF⟩, eF)) (mF : nF = lF.length) (NC BC : ByteArray) (kC : Int) (kpC : Bool) (alC : Int) (nC : Nat) (lC : List Rl) (eC : Int) (hC : pWordL ⟨N.data.toList, k, kp, al, B.data.toList, l⟩ v kind sym add = (⟨NC.data.toList, kC, kpC, alC, BC.data.toList, lC⟩, eC)) (mC : nC = lC.length) (NP BP : ByteArray) (kP : Int) (kpP : Bool) (alP : Int) (nP : Nat) (lP : List Rl) (eP : Int) (hP : pQuadL ⟨N.data.toList, k, kp, al, B.data.toList, l⟩ v2 sym add = (⟨NP.data.toList, kP, kpP, alP, BP.data.toList, lP⟩, eP)) (mP : nP = lP.length) (hsec : secR ⟨N.data.toList, k, kp, al, B.data.toList, l⟩ = true) : Calls Tryz.prog 4 #[.agg #[.string N, .int .i64 k, .bool kp, .int .i64 al, .string B, .slice a n c], .string D, .int .i64 na, .int .u32 (v : Int), .int .i64 kind, .int .i64 sym, .int .i64 add, .int .u64 (v2 : Int)] w (RetB (.bool true) w) := by
  have gA : Grows ⟨N.data.toList, k, kp, al, B.data.toList, l⟩ (⟨NA.data.toList, kA, kpA, alA, BA.data.toList, lA⟩, eA) := by have := put_grows (hg.sc kp) D.data.toList; rwa [hA] at this
  have gF : Grows ⟨N.data.toList, k, kp, al, B.data.toList, l⟩ (⟨NF.data.toList, kF, kpF, alF, BF.data.toList, lF⟩, eF) := by have := align_grows (hg.sc kp) na; rwa [hF] at this
  have gC : Grows ⟨N.data.toList, k, kp, al, B.data.toList, l⟩ (⟨NC.data.toList, kC, kpC, alC, BC.data.toList, lC⟩, eC) := by have := word_grows (hg.sc kp) v hv kind sym add hkk hks hka; rwa [hC] at this
  have gP : Grows ⟨N.data.toList, k, kp, al, B.data.toList, l⟩ (⟨NP.data.toList, kP, kpP, alP, BP.data.toList, lP⟩, eP) := by have := quad_grows (hg.sc kp) v2 sym add hks hka; rwa [hP] at this
  have HBig : Hid (∀ u, Calls Tryz.prog 17 #[.agg #[.string N, .int .i64 k, .bool kp, .int .i64 al, .string B, .slice a n c]] u (RetB (.bool false) u)) := Lib.hid fun u => by
    have := rBig_any N B k kp al a n c u
    rwa [hbig] at this
  have HB : Hid (Below w.heap.size w w) := Lib.hid (Below.refl _ w)
  have HT := Lib.hid hT
  have HS := Lib.hid hs
  have HG := Lib.hid (fun u (hu : TabP u) => grown_is u hu)
  have hDi : (D.size : Int) ≤ 140737488351232 := by omega
  have HA : Hid (∀ u, Below w.heap.size w u → Calls Tryz.prog 18 #[.agg #[.string N, .int .i64 k, .bool kp, .int .i64 al, .string B, .slice a n c], .string D] u (GotB u NA kA kpA alA BA nA lA eA)) := Lib.hid fun u hu =>
    (pPut_any N B D k kp al a n c l u (hs.next hu) hz hg.name hg.data hg.rels (by omega) (hT.next hu)).mono fun e v h => h.got hA mA
  have HF : Hid (∀ u, Below w.heap.size w u → Calls Tryz.prog 19 #[.agg #[.string N, .int .i64 k, .bool kp, .int .i64 al, .string B, .slice a n c], .int .i64 na] u (GotB u NF kF kpF alF BF nF lF eF)) := Lib.hid fun u hu =>
    (pAlign_any N B k kp al a n c l na u (hs.next hu) hz hg.name hg.data hg.rels (hT.next hu)).mono fun e v h => h.got hF mF
  have HC : Hid (∀ u, Below w.heap.size w u → Calls Tryz.prog 20 #[.agg #[.string N, .int .i64 k, .bool kp, .int .i64 al, .string B, .slice a n c], .int .u32 (v : Int), .int .i64 kind, .int .i64 sym, .int .i64 add] u (GotB u NC kC kpC alC BC nC lC eC)) := Lib.hid fun u hu =>
    (pWord_any N B k kp al a n c l v hv kind sym add u (hs.next hu) hz hg.name hg.data hg.rels hkk (hT.next hu)).mono fun e v h => h.got hC mC
  have HP : Hid (∀ u, Below w.heap.size w u → Calls Tryz.prog 21 #[.agg #[.string N, .int .i64 k, .bool kp, .int .i64 al, .string B, .slice a n c], .int .u64 (v2 : Int), .int .i64 sym, .int .i64 add] u (GotB u NP kP kpP alP BP nP lP eP)) := Lib.hid fun u hu =>
    (pQuad_any N B k kp al a n c l v2 hv2 sym add u (hs.next hu) hz hg.name hg.data hg.rels (hT.next hu)).mono fun e v h => h.got hP mP
  have HIs : Hid (∀ u, Below w.heap.size w u → Calls Tryz.prog 16 #[.agg #[.string N, .int .i64 k, .bool kp, .int .i64 al, .string B, .slice a n c]] u (RetB (.bool true) u)) := Lib.hid fun u hu => by
    have := pIs_core N B k kp al a n c l hg.name hg.data u (hs.next hu) hg.rels (hT.next hu)
    rwa [hsec] at this
  have hBN : B.size ≤ 5000 ∧ n ≤ 80 := by unfold bigS at hbig; rw [decide_eq_false_iff_not] at hbig; omega
  have hBz : (B.size : Int) ≤ 5000 := by omega
  have hnz : (n : Int) ≤ 80 := by omega
  have HBN := Lib.hid hBN
  have hln := Lib.hid hs.len
  have HGA := Lib.hid gA
  have HMA := Lib.hid mA
  have HGF := Lib.hid gF
  have HMF := Lib.hid mF
  have HGC := Lib.hid gC
  have HMC := Lib.hid mC
  have HGP := Lib.hid gP
  have HMP := Lib.hid mP
  clear hv hv2 hs hz hg hkk hks hka hT hbig hsec hBN hA mA gA hF mF gF hC mC gC hP mP gP
  go_enter Tryz.func4, Tryz.ntmps4
  obtain ⟨X, hX⟩ : ∃ X, X = w.heap.size := ⟨_, rfl⟩
  have HEX := Lib.hid hX
  have HA : Hid (Below w.heap.size w (w.alloc (.cells #[.string N, .int .i64 k, .bool kp, .int .i64 al, .string B, .slice a n c] 24))) := Lib.hid ((Below.refl _ w).alloc (Nat.le_refl _) _)
  have HRX : Hid (RB (w.alloc (.cells #[.string N, .int .i64 k, .bool kp, .int .i64 al, .string B, .slice a n c] 24)) X #[.string N, .int .i64 k, .bool kp, .int .i64 al, .string B, .slice a n c] 24) := Lib.hid (by rw [hX]; exact (MapKept.heap_alloc w _).1)
  clear hX
  go_wp2_with fail
  try rw [← HEX.out]
  generalize (w.alloc (.cells #[.string N, .int .i64 k, .bool kp, .int .i64 al, .string B, .slice a n c] 24)) = W at HA HRX ⊢
  replace HB : Hid (Below w.heap.size w W) := Lib.hid (after HB.out HA.out)
  clear HA HEX
  refine (HBig.out _).mono ?_
  rintro e u ⟨rfl, hb⟩
  replace HB := Lib.hid (after HB.out hb)
  replace HRX := Lib.hid (HRX.out.next hb)
  clear hb
  have x_0 : u.cell? ⟨X, 0, none⟩ = some (.string N) := HRX.out.cell
  have x_1 : u.cell? ⟨X, 1, none⟩ = some (.int .i64 k) := HRX.out.cell
  have x_2 : u.cell? ⟨X, 2, none⟩ = some (.bool kp) := HRX.out.cell
  have x_3 : u.cell? ⟨X, 3, none⟩ = some (.int .i64 al) := HRX.out.cell
  have x_4 : u.cell? ⟨X, 4, none⟩ = some (.string B) := HRX.out.cell
  have x_5 : u.cell? ⟨X, 5, none⟩ = some (.slice a n c) := HRX.out.cell
  go_wp2_with fail
  clear x_0 x_1 x_2 x_3 x_4 x_5
  refine (HA.out _ HB.out).mono ?_
  rintro e u ⟨aA, cA, rfl, hs, hz, hc, hb⟩
  replace HB := Lib.hid (after HB.out hb)
  replace HRX := Lib.hid (HRX.out.next hb)
  have HSA := Lib.hid hs
  have HCA := Lib.hid hc
  clear hb hs hz hc
  obtain ⟨ZA, hZA⟩ : ∃ ZA, ZA = u.heap.size := ⟨_, rfl⟩
  have HEZA := Lib.hid hZA
  have HA : Hid (Below u.heap.size u (u.alloc (.cells #[.string NA, .int .i64 kA, .bool kpA, .int .i64 alA, .string BA, .slice aA nA cA] 24))) := Lib.hid ((Below.refl _ u).alloc (Nat.le_refl _) _)
  have HRZA : Hid (RB (u.alloc (.cells #[.string NA, .int .i64 kA, .bool kpA, .int .i64 alA, .string BA, .slice aA nA cA] 24)) ZA #[.string NA, .int .i64 kA, .bool kpA, .int .i64 alA, .string BA, .slice aA nA cA] 24) := Lib.hid (by rw [hZA]; exact (MapKept.heap_alloc u _).1)
  clear hZA
  replace HRX := Lib.hid (HRX.out.next HA.out)
  replace HSA := Lib.hid (HSA.out.next HA.out)
  have x_0 : (u.alloc (.cells #[.string NA, .int .i64 kA, .bool kpA, .int .i64 alA, .string BA, .slice aA nA cA] 24)).cell? ⟨X, 0, none⟩ = some (.string N) := HRX.out.cell
  have x_1 : (u.alloc (.cells #[.string NA, .int .i64 kA, .bool kpA, .int .i64 alA, .string BA, .slice aA nA cA] 24)).cell? ⟨X, 1, none⟩ = some (.int .i64 k) := HRX.out.cell
  have x_2 : (u.alloc (.cells #[.string NA, .int .i64 kA, .bool kpA, .int .i64 alA, .string BA, .slice aA nA cA] 24)).cell? ⟨X, 2, none⟩ = some (.bool kp) := HRX.out.cell
  have x_3 : (u.alloc (.cells #[.string NA, .int .i64 kA, .bool kpA, .int .i64 alA, .string BA, .slice aA nA cA] 24)).cell? ⟨X, 3, none⟩ = some (.int .i64 al) := HRX.out.cell
  have x_4 : (u.alloc (.cells #[.string NA, .int .i64 kA, .bool kpA, .int .i64 alA, .string BA, .slice aA nA cA] 24)).cell? ⟨X, 4, none⟩ = some (.string B) := HRX.out.cell
  have x_5 : (u.alloc (.cells #[.string NA, .int .i64 kA, .bool kpA, .int .i64 alA, .string BA, .slice aA nA cA] 24)).cell? ⟨X, 5, none⟩ = some (.slice a n c) := HRX.out.cell
  go_wp2_with fail
  clear x_0 x_1 x_2 x_3 x_4 x_5
  try rw [← HEZA.out]
  generalize (u.alloc (.cells #[.string NA, .int .i64 kA, .bool kpA, .int .i64 alA, .string BA, .slice aA nA cA] 24)) = W at HA HRX HRZA HSA ⊢
  replace HB : Hid (Below w.heap.size w W) := Lib.hid (after HB.out HA.out)
  clear HA HEZA
  refine (HF.out _ HB.out).mono ?_
  rintro e u ⟨aF, cF, rfl, hs, hz, hc, hb⟩
  replace HB := Lib.hid (after HB.out hb)
  replace HRX := Lib.hid (HRX.out.next hb)
  replace HRZA := Lib.hid (HRZA.out.next hb)
  replace HSA := Lib.hid (HSA.out.next hb)
  have HSF := Lib.hid hs
  have HCF := Lib.hid hc
  clear hb hs hz hc
  obtain ⟨ZF, hZF⟩ : ∃ ZF, ZF = u.heap.size := ⟨_, rfl⟩
  have HEZF := Lib.hid hZF
  have HA : Hid (Below u.heap.size u (u.alloc (.cells #[.string NF, .int .i64 kF, .bool kpF, .int .i64 alF, .string BF, .slice aF nF cF] 24))) := Lib.hid ((Below.refl _ u).alloc (Nat.le_refl _) _)
  have HRZF : Hid (RB (u.alloc (.cells #[.string NF, .int .i64 kF, .bool kpF, .int .i64 alF, .string BF, .slice aF nF cF] 24)) ZF #[.string NF, .int .i64 kF, .bool kpF, .int .i64 alF, .string BF, .slice aF nF cF] 24) := Lib.hid (by rw [hZF]; exact (MapKept.heap_alloc u _).1)
  clear hZF
  replace HRX := Lib.hid (HRX.out.next HA.out)
  replace HRZA := Lib.hid (HRZA.out.next HA.out)
  replace HSA := Lib.hid (HSA.out.next HA.out)
  replace HSF := Lib.hid (HSF.out.next HA.out)
  have x_0 : (u.alloc (.cells #[.string NF, .int .i64 kF, .bool kpF, .int .i64 alF, .string BF, .slice aF nF cF] 24)).cell? ⟨X, 0, none⟩ = some (.string N) := HRX.out.cell
  have x_1 : (u.alloc (.cells #[.string NF, .int .i64 kF, .bool kpF, .int .i64 alF, .string BF, .slice aF nF cF] 24)).cell? ⟨X, 1, none⟩ = some (.int .i64 k) := HRX.out.cell
  have x_2 : (u.alloc (.cells #[.string NF, .int .i64 kF, .bool kpF, .int .i64 alF, .string BF, .slice aF nF cF] 24)).cell? ⟨X, 2, none⟩ = some (.bool kp) := HRX.out.cell
  have x_3 : (u.alloc (.cells #[.string NF, .int .i64 kF, .bool kpF, .int .i64 alF, .string BF, .slice aF nF cF] 24)).cell? ⟨X, 3, none⟩ = some (.int .i64 al) := HRX.out.cell
  have x_4 : (u.alloc (.cells #[.string NF, .int .i64 kF, .bool kpF, .int .i64 alF, .string BF, .slice aF nF cF] 24)).cell? ⟨X, 4, none⟩ = some (.string B) := HRX.out.cell
  have x_5 : (u.alloc (.cells #[.string NF, .int .i64 kF, .bool kpF, .int .i64 alF, .string BF, .slice aF nF cF] 24)).cell? ⟨X, 5, none⟩ = some (.slice a n c) := HRX.out.cell
  go_wp2_with fail
  clear x_0 x_1 x_2 x_3 x_4 x_5
  try rw [← HEZF.out]
  generalize (u.alloc (.cells #[.string NF, .int .i64 kF, .bool kpF, .int .i64 alF, .string BF, .slice aF nF cF] 24)) = W at HA HRX HRZA HRZF HSA HSF ⊢
  replace HB : Hid (Below w.heap.size w W) := Lib.hid (after HB.out HA.out)
  clear HA HEZF
  refine (HC.out _ HB.out).mono ?_
  rintro e u ⟨aC, cC, rfl, hs, hz, hc, hb⟩
  replace HB := Lib.hid (after HB.out hb)
  replace HRX := Lib.hid (HRX.out.next hb)
  replace HRZA := Lib.hid (HRZA.out.next hb)
  replace HRZF := Lib.hid (HRZF.out.next hb)
  replace HSA := Lib.hid (HSA.out.next hb)
  replace HSF := Lib.hid (HSF.out.next hb)
  have HSC := Lib.hid hs
  have HCC := Lib.hid hc
  clear hb hs hz hc
  obtain ⟨ZC, hZC⟩ : ∃ ZC, ZC = u.heap.size := ⟨_, rfl⟩
  have HEZC := Lib.hid hZC
  have HA : Hid (Below u.heap.size u (u.alloc (.cells #[.string NC, .int .i64 kC, .bool kpC, .int .i64 alC, .string BC, .slice aC nC cC] 24))) := Lib.hid ((Below.refl _ u).alloc (Nat.le_refl _) _)
  have HRZC : Hid (RB (u.alloc (.cells #[.string NC, .int .i64 kC, .bool kpC, .int .i64 alC, .string BC, .slice aC nC cC] 24)) ZC #[.string NC, .int .i64 kC, .bool kpC, .int .i64 alC, .string BC, .slice aC nC cC] 24) := Lib.hid (by rw [hZC]; exact (MapKept.heap_alloc u _).1)
  clear hZC
  replace HRX := Lib.hid (HRX.out.next HA.out)
  replace HRZA := Lib.hid (HRZA.out.next HA.out)
  replace HRZF := Lib.hid (HRZF.out.next HA.out)
  replace HSA := Lib.hid (HSA.out.next HA.out)
  replace HSF := Lib.hid (HSF.out.next HA.out)
  replace HSC := Lib.hid (HSC.out.next HA.out)
  have x_0 : (u.alloc (.cells #[.string NC, .int .i64 kC, .bool kpC, .int .i64 alC, .string BC, .slice aC nC cC] 24)).cell? ⟨X, 0, none⟩ = some (.string N) := HRX.out.cell
  have x_1 : (u.alloc (.cells #[.string NC, .int .i64 kC, .bool kpC, .int .i64 alC, .string BC, .slice aC nC cC] 24)).cell? ⟨X, 1, none⟩ = some (.int .i64 k) := HRX.out.cell
  have x_2 : (u.alloc (.cells #[.string NC, .int .i64 kC, .bool kpC, .int .i64 alC, .string BC, .slice aC nC cC] 24)).cell? ⟨X, 2, none⟩ = some (.bool kp) := HRX.out.cell
  have x_3 : (u.alloc (.cells #[.string NC, .int .i64 kC, .bool kpC, .int .i64 alC, .string BC, .slice aC nC cC] 24)).cell? ⟨X, 3, none⟩ = some (.int .i64 al) := HRX.out.cell
  have x_4 : (u.alloc (.cells #[.string NC, .int .i64 kC, .bool kpC, .int .i64 alC, .string BC, .slice aC nC cC] 24)).cell? ⟨X, 4, none⟩ = some (.string B) := HRX.out.cell
  have x_5 : (u.alloc (.cells #[.string NC, .int .i64 kC, .bool kpC, .int .i64 alC, .string BC, .slice aC nC cC] 24)).cell? ⟨X, 5, none⟩ = some (.slice a n c) := HRX.out.cell
  go_wp2_with fail
  clear x_0 x_1 x_2 x_3 x_4 x_5
  try rw [← HEZC.out]
  generalize (u.alloc (.cells #[.string NC, .int .i64 kC, .bool kpC, .int .i64 alC, .string BC, .slice aC nC cC] 24)) = W at HA HRX HRZA HRZF HRZC HSA HSF HSC ⊢
  replace HB : Hid (Below w.heap.size w W) := Lib.hid (after HB.out HA.out)
  clear HA HEZC
  refine (HP.out _ HB.out).mono ?_
  rintro e u ⟨aP, cP, rfl, hs, hz, hc, hb⟩
  replace HB := Lib.hid (after HB.out hb)
  replace HRX := Lib.hid (HRX.out.next hb)
  replace HRZA := Lib.hid (HRZA.out.next hb)
  replace HRZF := Lib.hid (HRZF.out.next hb)
  replace HRZC := Lib.hid (HRZC.out.next hb)
  replace HSA := Lib.hid (HSA.out.next hb)
  replace HSF := Lib.hid (HSF.out.next hb)
  replace HSC := Lib.hid (HSC.out.next hb)
  have HSP := Lib.hid hs
  have HCP := Lib.hid hc
  clear hb hs hz hc
  obtain ⟨H, hH⟩ : ∃ H, H = u.heap.size := ⟨_, rfl⟩
  have HH := Lib.hid hH
  have HA1 : Hid (Below u.heap.size u (u.alloc (.cells #[.string NP, .int .i64 kP, .bool kpP, .int .i64 alP, .string BP, .slice aP nP cP] 24))) := Lib.hid ((Below.refl _ u).alloc (Nat.le_refl _) _)
  have HA3 : Hid (Below u.heap.size u (((u.alloc (.cells #[.string NP, .int .i64 kP, .bool kpP, .int .i64 alP, .string BP, .slice aP nP cP] 24)).alloc (.cells #[.string NA, .int .i64 kA, .bool kpA, .int .i64 alA, .string BA, .slice aA nA cA, .string NF, .int .i64 kF, .bool kpF, .int .i64 alF, .string BF, .slice aF nF cF, .string NC, .int .i64 kC, .bool kpC, .int .i64 alC, .string BC, .slice aC nC cC, .string NP, .int .i64 kP, .bool kpP, .int .i64 alP, .string BP, .slice aP nP cP] 24)).alloc (.cells #[.int .i64 eA, .int .i64 eF, .int .i64 eC, .int .i64 eP] 25))) := Lib.hid ((HA1.out.alloc HA1.out.size _).alloc (HA1.out.alloc HA1.out.size _).size _)
  have HRM : Hid (RB (((u.alloc (.cells #[.string NP, .int .i64 kP, .bool kpP, .int .i64 alP, .string BP, .slice aP nP cP] 24)).alloc (.cells #[.string NA, .int .i64 kA, .bool kpA, .int .i64 alA, .string BA, .slice aA nA cA, .string NF, .int .i64 kF, .bool kpF, .int .i64 alF, .string BF, .slice aF nF cF, .string NC, .int .i64 kC, .bool kpC, .int .i64 alC, .string BC, .slice aC nC cC, .string NP, .int .i64 kP, .bool kpP, .int .i64 alP, .string BP, .slice aP nP cP] 24)).alloc (.cells #[.int .i64 eA, .int .i64 eF, .int .i64 eC, .int .i64 eP] 25)) (H + 1) #[.string NA, .int .i64 kA, .bool kpA, .int .i64 alA, .string BA, .slice aA nA cA, .string NF, .int .i64 kF, .bool kpF, .int .i64 alF, .string BF, .slice aF nF cF, .string NC, .int .i64 kC, .bool kpC, .int .i64 alC, .string BC, .slice aC nC cC, .string NP, .int .i64 kP, .bool kpP, .int .i64 alP, .string BP, .slice aP nP cP] 24) := Lib.hid (by
    have : RB ((u.alloc (.cells #[.string NP, .int .i64 kP, .bool kpP, .int .i64 alP, .string BP, .slice aP nP cP] 24)).alloc (.cells #[.string NA, .int .i64 kA, .bool kpA, .int .i64 alA, .string BA, .slice aA nA cA, .string NF, .int .i64 kF, .bool kpF, .int .i64 alF, .string BF, .slice aF nF cF, .string NC, .int .i64 kC, .bool kpC, .int .i64 alC, .string BC, .slice aC nC cC, .string NP, .int .i64 kP, .bool kpP, .int .i64 alP, .string BP, .slice aP nP cP] 24)) (H + 1) #[.string NA, .int .i64 kA, .bool kpA, .int .i64 alA, .string BA, .slice aA nA cA, .string NF, .int .i64 kF, .bool kpF, .int .i64 alF, .string BF, .slice aF nF cF, .string NC, .int .i64 kC, .bool kpC, .int .i64 alC, .string BC, .slice aC nC cC, .string NP, .int .i64 kP, .bool kpP, .int .i64 alP, .string BP, .slice aP nP cP] 24 := by unfold RB; rw [hH, show u.heap.size + 1 = (u.alloc (.cells #[.string NP, .int .i64 kP, .bool kpP, .int .i64 alP, .string BP, .slice aP nP cP] 24)).heap.size from (World.size_alloc _ _).symm]; exact (MapKept.heap_alloc _ _).1
    exact this.next ((Below.refl _ _).alloc (Nat.le_refl _) _))
  have HRE : Hid (RB (((u.alloc (.cells #[.string NP, .int .i64 kP, .bool kpP, .int .i64 alP, .string BP, .slice aP nP cP] 24)).alloc (.cells #[.string NA, .int .i64 kA, .bool kpA, .int .i64 alA, .string BA, .slice aA nA cA, .string NF, .int .i64 kF, .bool kpF, .int .i64 alF, .string BF, .slice aF nF cF, .string NC, .int .i64 kC, .bool kpC, .int .i64 alC, .string BC, .slice aC nC cC, .string NP, .int .i64 kP, .bool kpP, .int .i64 alP, .string BP, .slice aP nP cP] 24)).alloc (.cells #[.int .i64 eA, .int .i64 eF, .int .i64 eC, .int .i64 eP] 25)) (H + 1 + 1) #[.int .i64 eA, .int .i64 eF, .int .i64 eC, .int .i64 eP] 25) := Lib.hid (by unfold RB; rw [hH, show u.heap.size + 1 + 1 = ((u.alloc (.cells #[.string NP, .int .i64 kP, .bool kpP, .int .i64 alP, .string BP, .slice aP nP cP] 24)).alloc (.cells #[.string NA, .int .i64 kA, .bool kpA, .int .i64 alA, .string BA, .slice aA nA cA, .string NF, .int .i64 kF, .bool kpF, .int .i64 alF, .string BF, .slice aF nF cF, .string NC, .int .i64 kC, .bool kpC, .int .i64 alC, .string BC, .slice aC nC cC, .string NP, .int .i64 kP, .bool kpP, .int .i64 alP, .string BP, .slice aP nP cP] 24)).heap.size from by rw [World.size_alloc, World.size_alloc]]; exact (MapKept.heap_alloc _ _).1)
  have za_0 : (u.alloc (.cells #[.string NP, .int .i64 kP, .bool kpP, .int .i64 alP, .string BP, .slice aP nP cP] 24)).cell? ⟨ZA, 0, none⟩ = some (.string NA) := (HRZA.out.next HA1.out).cell
  have za_1 : (u.alloc (.cells #[.string NP, .int .i64 kP, .bool kpP, .int .i64 alP, .string BP, .slice aP nP cP] 24)).cell? ⟨ZA, 1, none⟩ = some (.int .i64 kA) := (HRZA.out.next HA1.out).cell
  have za_2 : (u.alloc (.cells #[.string NP, .int .i64 kP, .bool kpP, .int .i64 alP, .string BP, .slice aP nP cP] 24)).cell? ⟨ZA, 2, none⟩ = some (.bool kpA) := (HRZA.out.next HA1.out).cell
  have za_3 : (u.alloc (.cells #[.string NP, .int .i64 kP, .bool kpP, .int .i64 alP, .string BP, .slice aP nP cP] 24)).cell? ⟨ZA, 3, none⟩ = some (.int .i64 alA) := (HRZA.out.next HA1.out).cell
  have za_4 : (u.alloc (.cells #[.string NP, .int .i64 kP, .bool kpP, .int .i64 alP, .string BP, .slice aP nP cP] 24)).cell? ⟨ZA, 4, none⟩ = some (.string BA) := (HRZA.out.next HA1.out).cell
  have za_5 : (u.alloc (.cells #[.string NP, .int .i64 kP, .bool kpP, .int .i64 alP, .string BP, .slice aP nP cP] 24)).cell? ⟨ZA, 5, none⟩ = some (.slice aA nA cA) := (HRZA.out.next HA1.out).cell
  have zf_0 : (u.alloc (.cells #[.string NP, .int .i64 kP, .bool kpP, .int .i64 alP, .string BP, .slice aP nP cP] 24)).cell? ⟨ZF, 0, none⟩ = some (.string NF) := (HRZF.out.next HA1.out).cell
  have zf_1 : (u.alloc (.cells #[.string NP, .int .i64 kP, .bool kpP, .int .i64 alP, .string BP, .slice aP nP cP] 24)).cell? ⟨ZF, 1, none⟩ = some (.int .i64 kF) := (HRZF.out.next HA1.out).cell
  have zf_2 : (u.alloc (.cells #[.string NP, .int .i64 kP, .bool kpP, .int .i64 alP, .string BP, .slice aP nP cP] 24)).cell? ⟨ZF, 2, none⟩ = some (.bool kpF) := (HRZF.out.next HA1.out).cell
  have zf_3 : (u.alloc (.cells #[.string NP, .int .i64 kP, .bool kpP, .int .i64 alP, .string BP, .slice aP nP cP] 24)).cell? ⟨ZF, 3, none⟩ = some (.int .i64 alF) := (HRZF.out.next HA1.out).cell
  have zf_4 : (u.alloc (.cells #[.string NP, .int .i64 kP, .bool kpP, .int .i64 alP, .string BP, .slice aP nP cP] 24)).cell? ⟨ZF, 4, none⟩ = some (.string BF) := (HRZF.out.next HA1.out).cell
  have zf_5 : (u.alloc (.cells #[.string NP, .int .i64 kP, .bool kpP, .int .i64 alP, .string BP, .slice aP nP cP] 24)).cell? ⟨ZF, 5, none⟩ = some (.slice aF nF cF) := (HRZF.out.next HA1.out).cell
  have zc_0 : (u.alloc (.cells #[.string NP, .int .i64 kP, .bool kpP, .int .i64 alP, .string BP, .slice aP nP cP] 24)).cell? ⟨ZC, 0, none⟩ = some (.string NC) := (HRZC.out.next HA1.out).cell
  have zc_1 : (u.alloc (.cells #[.string NP, .int .i64 kP, .bool kpP, .int .i64 alP, .string BP, .slice aP nP cP] 24)).cell? ⟨ZC, 1, none⟩ = some (.int .i64 kC) := (HRZC.out.next HA1.out).cell
  have zc_2 : (u.alloc (.cells #[.string NP, .int .i64 kP, .bool kpP, .int .i64 alP, .string BP, .slice aP nP cP] 24)).cell? ⟨ZC, 2, none⟩ = some (.bool kpC) := (HRZC.out.next HA1.out).cell
  have zc_3 : (u.alloc (.cells #[.string NP, .int .i64 kP, .bool kpP, .int .i64 alP, .string BP, .slice aP nP cP] 24)).cell? ⟨ZC, 3, none⟩ = some (.int .i64 alC) := (HRZC.out.next HA1.out).cell
  have zc_4 : (u.alloc (.cells #[.string NP, .int .i64 kP, .bool kpP, .int .i64 alP, .string BP, .slice aP nP cP] 24)).cell? ⟨ZC, 4, none⟩ = some (.string BC) := (HRZC.out.next HA1.out).cell
  have zc_5 : (u.alloc (.cells #[.string NP, .int .i64 kP, .bool kpP, .int .i64 alP, .string BP, .slice aP nP cP] 24)).cell? ⟨ZC, 5, none⟩ = some (.slice aC nC cC) := (HRZC.out.next HA1.out).cell
  clear hH
  go_wp2_with fail
  clear za_0 za_1 za_2 za_3 za_4 za_5 zf_0 zf_1 zf_2 zf_3 zf_4 zf_5 zc_0 zc_1 zc_2 zc_3 zc_4 zc_5
  try rw [← HH.out]
  replace HRX := Lib.hid (HRX.out.next HA3.out)
  clear HRZA HRZF HRZC
  replace HSA := Lib.hid (HSA.out.next HA3.out)
  replace HSF := Lib.hid (HSF.out.next HA3.out)
  replace HSC := Lib.hid (HSC.out.next HA3.out)
  replace HSP := Lib.hid (HSP.out.next HA3.out)
  generalize (((u.alloc (.cells #[.string NP, .int .i64 kP, .bool kpP, .int .i64 alP, .string BP, .slice aP nP cP] 24)).alloc (.cells #[.string NA, .int .i64 kA, .bool kpA, .int .i64 alA, .string BA, .slice aA nA cA, .string NF, .int .i64 kF, .bool kpF, .int .i64 alF, .string BF, .slice aF nF cF, .string NC, .int .i64 kC, .bool kpC, .int .i64 alC, .string BC, .slice aC nC cC, .string NP, .int .i64 kP, .bool kpP, .int .i64 alP, .string BP, .slice aP nP cP] 24)).alloc (.cells #[.int .i64 eA, .int .i64 eF, .int .i64 eC, .int .i64 eP] 25)) = W0 at HA3 HRM HRE HRX HSA HSF HSC HSP ⊢
  replace HB : Hid (Below w.heap.size w W0) := Lib.hid (after HB.out HA3.out)
  obtain ⟨M, hM⟩ : ∃ M, M = H + 1 := ⟨_, rfl⟩
  obtain ⟨R, hR⟩ : ∃ R, R = H + 1 + 1 := ⟨_, rfl⟩
  rw [← hR] at HRE
  rw [← hM] at HRM
  rw [← hR, ← hM]
  clear HA1 HA3 HH hM hR
  have HALL : Hid (∀ i : Nat, i < 4 → ∃ (Nt Bt : ByteArray) (kt : Int) (kpt : Bool) (alt : Int) (nt : Nat) (lt : List Rl) (er : Int) (at_ : Option Addr) (ct : Nat),
      W0.cell? ⟨M, i * 6, none⟩ = some (.string Nt) ∧ W0.cell? ⟨M, i * 6 + 1, none⟩ = some (.int .i64 kt) ∧ W0.cell? ⟨M, i * 6 + 2, none⟩ = some (.bool kpt) ∧ W0.cell? ⟨M, i * 6 + 3, none⟩ = some (.int .i64 alt) ∧ W0.cell? ⟨M, i * 6 + 4, none⟩ = some (.string Bt) ∧ W0.cell? ⟨M, i * 6 + 5, none⟩ = some (.slice at_ nt ct) ∧ W0.cell? ⟨R, i, none⟩ = some (.int .i64 er) ∧
      SL rlC 4 W0 W0.heap.size at_ nt lt ∧ Grows ⟨N.data.toList, k, kp, al, B.data.toList, l⟩ (⟨Nt.data.toList, kt, kpt, alt, Bt.data.toList, lt⟩, er) ∧ nt = lt.length ∧ nt ≤ ct) := Lib.hid (by
    intro i hi
    match i, hi with
    | 0, _ => exact ⟨NA, BA, kA, kpA, alA, nA, lA, _, aA, cA, HRM.out.cell, HRM.out.cell, HRM.out.cell, HRM.out.cell, HRM.out.cell, HRM.out.cell, HRE.out.cell, HSA.out, HGA.out, HMA.out, HCA.out⟩
    | 1, _ => exact ⟨NF, BF, kF, kpF, alF, nF, lF, _, aF, cF, HRM.out.cell, HRM.out.cell, HRM.out.cell, HRM.out.cell, HRM.out.cell, HRM.out.cell, HRE.out.cell, HSF.out, HGF.out, HMF.out, HCF.out⟩
    | 2, _ => exact ⟨NC, BC, kC, kpC, alC, nC, lC, _, aC, cC, HRM.out.cell, HRM.out.cell, HRM.out.cell, HRM.out.cell, HRM.out.cell, HRM.out.cell, HRE.out.cell, HSC.out, HGC.out, HMC.out, HCC.out⟩
    | 3, _ => exact ⟨NP, BP, kP, kpP, alP, nP, lP, _, aP, cP, HRM.out.cell, HRM.out.cell, HRM.out.cell, HRM.out.cell, HRM.out.cell, HRM.out.cell, HRE.out.cell, HSP.out, HGP.out, HMP.out, HCP.out⟩
    )
  clear HSA HGA HMA HCA HA HSF HGF HMF HCF HF HSC HGC HMC HCC HC HSP HGP HMP HCP HP HRM HRE
  have HX0 : Hid (RB W0 X #[.string N, .int .i64 k, .bool kp, .int .i64 al, .string B, .slice a n c] 24) := Lib.hid HRX.out
  have HB0 := Lib.hid HB.out
  clear HRX HB
  go_loopw [27] (fun i wr => ∃ (q : Nat) (wx : World), wx = wr ∧ q ≤ 4 ∧ i = .int .i64 q ∧ Below W0.heap.size W0 wx) (fun i _ => 4 - (intOf i).toNat)
  case atStart => exact ⟨0, _, rfl, by omega, rfl, Below.refl _ _⟩
  case round =>
    obtain ⟨q, wx, rfl, hq, rfl, hbr⟩ := hrel
    have HBR := Lib.hid hbr
    have HB := Lib.hid (after HB0.out hbr)
    have HRX := Lib.hid (HX0.out.next hbr)
    clear hbr HB0 HX0
    by_cases hlt : q < 4
    · obtain ⟨Nt, Bt, kt, kpt, alt, nt, lt, er, at_, ct, m0, m1, m2, m3, m4, m5, me, hst, hgr, hmt, hct⟩ := HALL.out q hlt
      have m0 := (HBR.out.cell (cell_lt m0)).trans m0
      have m1 := (HBR.out.cell (cell_lt m1)).trans m1
      have m2 := (HBR.out.cell (cell_lt m2)).trans m2
      have m3 := (HBR.out.cell (cell_lt m3)).trans m3
      have m4 := (HBR.out.cell (cell_lt m4)).trans m4
      have m5 := (HBR.out.cell (cell_lt m5)).trans m5
      have me := (HBR.out.cell (cell_lt me)).trans me
      have HST := Lib.hid (hst.next HBR.out)
      have HMT := Lib.hid hmt
      have HCT := Lib.hid hct
      have hqi : (q : Int) < 4 := by omega
      clear hst hmt hct HALL
      rcases hgr with ⟨he, hgw⟩ | ⟨he, hgz, -⟩
      · simp only at he
        subst he
        obtain ⟨-, hrt, hgd, hnm, hkd, hkp, hal, ⟨xd, hxd⟩, ⟨xr, hxr⟩⟩ := hgw
        simp only at hrt hgd hnm hkd hkp hal hxd hxr
        obtain ⟨hx1, hx2⟩ := ext_pre hxd
        replace hnm : N = Nt := ByteArray.ext (Array.toList_inj.1 hnm.symm)
        replace hkd := hkd.symm
        replace hkp := hkp.symm
        subst hnm hkd hkp
        have hgb := GoodSc.b hgd
        have hnn : n ≤ nt := by have h1 := HMT.out; have h2 := hln.out; rw [hxr, List.length_append] at h1; omega
        have hnc : n ≤ ct := by have := HCT.out; omega
        have hx2i : (B.size : Int) ≤ (Bt.size : Int) := by omega
        have hx2n : ¬ (Bt.size : Int) < (B.size : Int) := by omega
        have hnni : (n : Int) ≤ (nt : Int) := by omega
        have hnnn : ¬ (nt : Int) < (n : Int) := by omega
        have hnci : (n : Int) ≤ (ct : Int) := by omega
        have haln : ¬ alt < al := by omega
        have hd1 : decide (Bt.size < B.size) = false := decide_eq_false (by omega)
        have hd2 : decide (nt < n) = false := decide_eq_false (by omega)
        have hd3 : decide (alt < al) = false := decide_eq_false haln
        have hd7 : (k != k) = false := by simp
        have hd8 : (kp != kp) = false := by simp
        have HXR := Lib.hid hxr
        have HIt : Hid (∀ u, TabP u → SL rlC 4 u u.heap.size at_ nt lt → Calls Tryz.prog 16 #[.agg #[.string N, .int .i64 k, .bool kp, .int .i64 alt, .string Bt, .slice at_ nt ct]] u (RetB (.bool true) u)) := Lib.hid fun u hu hs => by
          have := pIs_core N Bt k kp alt at_ nt ct lt hgb.name hgb.data u hs hgb.rels hu
          rwa [hrt] at this
        have HSR : Hid (∀ (u : World) (ad : Option Addr) (c2 : Nat), SL rlC 4 u u.heap.size ad n l → SL rlC 4 u u.heap.size a n l → Calls Tryz.prog 22 #[.slice ad n c2, .slice a n c] u (RetD (.bool true) u)) := Lib.hid fun u ad c2 h h' => rls_quiet ad a n c2 c l u (by have := HBN.out; omega) h h'
        clear hrt hgd hal hxd hxr hgb
        obtain ⟨Z, hZ⟩ : ∃ Z, Z = wx.heap.size := ⟨_, rfl⟩
        have HEZ := Lib.hid hZ
        have HA : Hid (Below wx.heap.size wx (wx.alloc (.cells #[.string N, .int .i64 k, .bool kp, .int .i64 alt, .string Bt, .slice at_ nt ct] 24))) := Lib.hid ((Below.refl _ wx).alloc (Nat.le_refl _) _)
        have HRZ : Hid (RB (wx.alloc (.cells #[.string N, .int .i64 k, .bool kp, .int .i64 alt, .string Bt, .slice at_ nt ct] 24)) Z #[.string N, .int .i64 k, .bool kp, .int .i64 alt, .string Bt, .slice at_ nt ct] 24) := Lib.hid (by rw [hZ]; exact (MapKept.heap_alloc wx _).1)
        clear hZ
        replace HRX := Lib.hid (HRX.out.next HA.out)
        replace HST := Lib.hid (HST.out.next HA.out)
        replace HBR := Lib.hid (after HBR.out HA.out)
        have me' : (wx.alloc (.cells #[.string N, .int .i64 k, .bool kp, .int .i64 alt, .string Bt, .slice at_ nt ct] 24)).cell? ⟨R, q, none⟩ = some (.int .i64 0) := (HA.out.cell (cell_lt me)).trans me
        go_wp2_with fail
        try rw [← HEZ.out]
        generalize (wx.alloc (.cells #[.string N, .int .i64 k, .bool kp, .int .i64 alt, .string Bt, .slice at_ nt ct] 24)) = W at HA HRX HRZ HST HBR ⊢
        replace HB : Hid (Below w.heap.size w W) := Lib.hid (after HB.out HA.out)
        clear HA HEZ
        clear m0 m1 m2 m3 m4 m5 me me'
        refine wp_region_any (by kernel_rfl) ?_
        try (change wpAny _ _ _ _ _ _ _ (World.drew _))
        have hdw : Below W.heap.size W W.drew := (Below.refl _ W).drew
        replace HB := Lib.hid (after HB.out hdw)
        replace HBR := Lib.hid (after HBR.out hdw)
        replace HRX := Lib.hid (HRX.out.next hdw)
        replace HRZ := Lib.hid (HRZ.out.next hdw)
        replace HST := Lib.hid (HST.out.next hdw)
        clear hdw
        have z_0 : W.drew.cell? ⟨Z, 0, none⟩ = some (.string N) := HRZ.out.cell
        have z_1 : W.drew.cell? ⟨Z, 1, none⟩ = some (.int .i64 k) := HRZ.out.cell
        have z_2 : W.drew.cell? ⟨Z, 2, none⟩ = some (.bool kp) := HRZ.out.cell
        have z_3 : W.drew.cell? ⟨Z, 3, none⟩ = some (.int .i64 alt) := HRZ.out.cell
        have z_4 : W.drew.cell? ⟨Z, 4, none⟩ = some (.string Bt) := HRZ.out.cell
        have z_5 : W.drew.cell? ⟨Z, 5, none⟩ = some (.slice at_ nt ct) := HRZ.out.cell
        refine wpAny_ready (rs := [0]) (by kernel_rfl) (by simp) ?_
        refine AllReady.cons rfl (fun K hK => ?_) AllReady.nil
        go_simp
        refine hK _ _ ?_
        clear hK K
        try simp only [Act.put, List.setIfInBounds_toArray, List.set_cons_zero, List.set_cons_succ]
        clear z_0 z_1 z_2 z_3 z_4 z_5
        refine wpAny_ready (rs := [1]) (by kernel_rfl) (by simp) ?_
        refine AllReady.cons rfl (fun K hK => ?_) AllReady.nil
        go_simp
        go_at_call 16
        refine (HIt.out _ (HT.out.next HB.out) HST.out).mono ?_
        rintro e u ⟨rfl, hb⟩
        replace HB := Lib.hid (after HB.out hb)
        replace HRX := Lib.hid (HRX.out.next hb)
        replace HRZ := Lib.hid (HRZ.out.next hb)
        replace HST := Lib.hid (HST.out.next hb)
        replace HBR := Lib.hid (after HBR.out hb)
        clear hb
        refine hK _ _ ?_
        clear hK K
        try simp only [Act.put, List.setIfInBounds_toArray, List.set_cons_zero, List.set_cons_succ]
        have HSP := Lib.hid (fun z => (SL.pre (HXR.out ▸ HST.out) hln.out).next (below_refl_drewN u z))
        have HSA := Lib.hid (fun z => (HS.out.next HB.out).next (below_refl_drewN u z))
        have x_0 : u.cell? ⟨X, 0, none⟩ = some (.string N) := HRX.out.cell
        have x_1 : u.cell? ⟨X, 1, none⟩ = some (.int .i64 k) := HRX.out.cell
        have x_2 : u.cell? ⟨X, 2, none⟩ = some (.bool kp) := HRX.out.cell
        have x_3 : u.cell? ⟨X, 3, none⟩ = some (.int .i64 al) := HRX.out.cell
        have x_4 : u.cell? ⟨X, 4, none⟩ = some (.string B) := HRX.out.cell
        have x_5 : u.cell? ⟨X, 5, none⟩ = some (.slice a n c) := HRX.out.cell
        have z_0 : u.cell? ⟨Z, 0, none⟩ = some (.string N) := HRZ.out.cell
        have z_1 : u.cell? ⟨Z, 1, none⟩ = some (.int .i64 k) := HRZ.out.cell
        have z_2 : u.cell? ⟨Z, 2, none⟩ = some (.bool kp) := HRZ.out.cell
        have z_3 : u.cell? ⟨Z, 3, none⟩ = some (.int .i64 alt) := HRZ.out.cell
        have z_4 : u.cell? ⟨Z, 4, none⟩ = some (.string Bt) := HRZ.out.cell
        have z_5 : u.cell? ⟨Z, 5, none⟩ = some (.slice at_ nt ct) := HRZ.out.cell
        refine wpAny_tail2 (by rfl) (by kernel_rfl) (by kernel_rfl) ?_
        repeat (go_big_quiet_step ((go_at_call 22; exact Calls.quiet_of (HSR.out _ _ _ (HSP.out _) (HSA.out _)))))
        refine wpQuiet_nil ?_
        intro _ hw'
        obtain ⟨nq, hw''⟩ := hw'
        subst hw''
        replace HBR := Lib.hid (below_drewN HBR.out nq)
        go_wp2
        go_roundw
        case rel => exact ⟨q + 1, _, rfl, by omega, by go_num, HBR.out⟩
        case measure => simp [intOf]; omega
      · simp only at he
        simp only [Sc.mk.injEq] at hgz
        obtain ⟨z1, z2, z3, z4, z5, z6⟩ := hgz
        replace z1 : Nt = ⟨#[]⟩ := ByteArray.ext (Array.toList_inj.1 z1)
        replace z5 : Bt = ⟨#[]⟩ := ByteArray.ext (Array.toList_inj.1 z5)
        have z7 : nt = 0 := by have := HMT.out; rw [z6] at this; exact this
        subst z1 z2 z3 z4 z5 z6 z7
        have r1 : (er != 0) = true := by simp [bne_iff_ne]; exact he
        have r2 : (er == 0) = false := by simp; exact he
        have hba : Hid (Below wx.heap.size wx (wx.alloc (.cells #[.string ⟨#[]⟩, .int .i64 0, .bool false, .int .i64 0, .string ⟨#[]⟩, .slice at_ 0 ct] 24))) := Lib.hid ((Below.refl _ wx).alloc (Nat.le_refl _) _)
        have me' : (wx.alloc (.cells #[.string ⟨#[]⟩, .int .i64 0, .bool false, .int .i64 0, .string ⟨#[]⟩, .slice at_ 0 ct] 24)).cell? ⟨R, q, none⟩ = some (.int .i64 er) := (hba.out.cell (cell_lt me)).trans me
        have HBR' := Lib.hid (after HBR.out hba.out)
        clear he me HBR
        go_wp2
        go_roundw
        case rel => exact ⟨q + 1, _, rfl, by omega, by go_num, HBR'.out⟩
        case measure => simp [intOf]; omega
    · have hqn : ¬ (q : Int) < 4 := by omega
      clear HALL
      go_wp2_with fail
      refine (HG.out _ (HT.out.next HB.out)).mono ?_
      rintro e u ⟨rfl, hb⟩
      replace HB := Lib.hid (after HB.out hb)
      replace HRX := Lib.hid (HRX.out.next hb)
      clear hb
      have x_0 : u.cell? ⟨X, 0, none⟩ = some (.string N) := HRX.out.cell
      have x_1 : u.cell? ⟨X, 1, none⟩ = some (.int .i64 k) := HRX.out.cell
      have x_2 : u.cell? ⟨X, 2, none⟩ = some (.bool kp) := HRX.out.cell
      have x_3 : u.cell? ⟨X, 3, none⟩ = some (.int .i64 al) := HRX.out.cell
      have x_4 : u.cell? ⟨X, 4, none⟩ = some (.string B) := HRX.out.cell
      have x_5 : u.cell? ⟨X, 5, none⟩ = some (.slice a n c) := HRX.out.cell
      go_wp2_with fail
      clear x_0 x_1 x_2 x_3 x_4 x_5
      refine (HIs.out _ HB.out).mono ?_
      rintro e u ⟨rfl, hb⟩
      replace HB := Lib.hid (after HB.out hb)
      replace HRX := Lib.hid (HRX.out.next hb)
      clear hb
      go_wp2
      go_ret
      exact retB_bool rfl HB.out
set_option maxRecDepth 100000 in
set_option maxHeartbeats 4000000 in
theorem pRi_false (N B D : ByteArray) (k : Int) (kp : Bool) (al : Int) (a : Option Addr) (n c : Nat) (l : List Rl) (na : Int) (v : Nat) (hv : v < 4294967296) (kind sym add : Int) (v2 : Nat) (hv2 : v2 < 18446744073709551616) (w : World) (hs : SL rlC 4 w w.heap.size a n l) (hz : a = none → n = 0 ∧ c = 0) (hg : GoodB N k al B l) (hD : D.size ≤ 140737488351232) (hkk : i64ok kind) (hks : i64ok sym) (hka : i64ok add) (hT : TabP w) (hbig : bigS B.size n N.size = false) (hlong : ¬ (5000 : Int) < (D.size : Int)) (NA BA : ByteArray) (kA : Int) (kpA : Bool) (alA : Int) (nA : Nat) (lA : List Rl) (eA : Int) (hA : pPutL ⟨N.data.toList, k, kp, al, B.data.toList, l⟩ D.data.toList = (⟨NA.data.toList, kA, kpA, alA, BA.data.toList, lA⟩, eA)) (mA : nA = lA.length) (NF BF : ByteArray) (kF : Int) (kpF : Bool) (alF : Int) (nF : Nat) (lF : List Rl) (eF : Int) (hF : pAlignL ⟨N.data.toList, k, kp, al, B.data.toList, l⟩ na = (⟨NF.data.toList, kF, kpF, alF, BF.data.toList, lF⟩, eF)) (mF : nF = lF.length) (NC BC : ByteArray) (kC : Int) (kpC : Bool) (alC : Int) (nC : Nat) (lC : List Rl) (eC : Int) (hC : pWordL ⟨N.data.toList, k, kp, al, B.data.toList, l⟩ v kind sym add = (⟨NC.data.toList, kC, kpC, alC, BC.data.toList, lC⟩, eC)) (mC : nC = lC.length) (NP BP : ByteArray) (kP : Int) (kpP : Bool) (alP : Int) (nP : Nat) (lP : List Rl) (eP : Int) (hP : pQuadL ⟨N.data.toList, k, kp, al, B.data.toList, l⟩ v2 sym add = (⟨NP.data.toList, kP, kpP, alP, BP.data.toList, lP⟩, eP)) (mP : nP = lP.length) (hsec : secR ⟨N.data.toList, k, kp, al, B.data.toList, l⟩ = false) : Calls Tryz.prog 4 #[.agg #[.string N, .int .i64 k, .bool kp, .int .i64 al, .string B, .slice a n c], .string D, .int .i64 na, .int .u32 (v : Int), .int .i64 kind, .int .i64 sym, .int .i64 add, .int .u64 (v2 : Int)] w (RetB (.bool true) w) := by
  have gA : Grows ⟨N.data.toList, k, kp, al, B.data.toList, l⟩ (⟨NA.data.toList, kA, kpA, alA, BA.data.toList, lA⟩, eA) := by have := put_grows (hg.sc kp) D.data.toList; rwa [hA] at this
  have gF : Grows ⟨N.data.toList, k, kp, al, B.data.toList, l⟩ (⟨NF.data.toList, kF, kpF, alF, BF.data.toList, lF⟩, eF) := by have := align_grows (hg.sc kp) na; rwa [hF] at this
  have gC : Grows ⟨N.data.toList, k, kp, al, B.data.toList, l⟩ (⟨NC.data.toList, kC, kpC, alC, BC.data.toList, lC⟩, eC) := by have := word_grows (hg.sc kp) v hv kind sym add hkk hks hka; rwa [hC] at this
  have gP : Grows ⟨N.data.toList, k, kp, al, B.data.toList, l⟩ (⟨NP.data.toList, kP, kpP, alP, BP.data.toList, lP⟩, eP) := by have := quad_grows (hg.sc kp) v2 sym add hks hka; rwa [hP] at this
  obtain rfl : eA = 1 := by
    rcases gA with ⟨-, h⟩ | ⟨-, -, h⟩
    · exact absurd (h.was.symm.trans hsec) (by decide)
    · exact h hsec
  obtain rfl : eF = 1 := by
    rcases gF with ⟨-, h⟩ | ⟨-, -, h⟩
    · exact absurd (h.was.symm.trans hsec) (by decide)
    · exact h hsec
  obtain rfl : eC = 1 := by
    rcases gC with ⟨-, h⟩ | ⟨-, -, h⟩
    · exact absurd (h.was.symm.trans hsec) (by decide)
    · exact h hsec
  obtain rfl : eP = 1 := by
    rcases gP with ⟨-, h⟩ | ⟨-, -, h⟩
    · exact absurd (h.was.symm.trans hsec) (by decide)
    · exact h hsec
  have HBig : Hid (∀ u, Calls Tryz.prog 17 #[.agg #[.string N, .int .i64 k, .bool kp, .int .i64 al, .string B, .slice a n c]] u (RetB (.bool false) u)) := Lib.hid fun u => by
    have := rBig_any N B k kp al a n c u
    rwa [hbig] at this
  have HB : Hid (Below w.heap.size w w) := Lib.hid (Below.refl _ w)
  have HT := Lib.hid hT
  have HS := Lib.hid hs
  have HG := Lib.hid (fun u (hu : TabP u) => grown_is u hu)
  have hDi : (D.size : Int) ≤ 140737488351232 := by omega
  have HA : Hid (∀ u, Below w.heap.size w u → Calls Tryz.prog 18 #[.agg #[.string N, .int .i64 k, .bool kp, .int .i64 al, .string B, .slice a n c], .string D] u (GotB u NA kA kpA alA BA nA lA 1)) := Lib.hid fun u hu =>
    (pPut_any N B D k kp al a n c l u (hs.next hu) hz hg.name hg.data hg.rels (by omega) (hT.next hu)).mono fun e v h => h.got hA mA
  have HF : Hid (∀ u, Below w.heap.size w u → Calls Tryz.prog 19 #[.agg #[.string N, .int .i64 k, .bool kp, .int .i64 al, .string B, .slice a n c], .int .i64 na] u (GotB u NF kF kpF alF BF nF lF 1)) := Lib.hid fun u hu =>
    (pAlign_any N B k kp al a n c l na u (hs.next hu) hz hg.name hg.data hg.rels (hT.next hu)).mono fun e v h => h.got hF mF
  have HC : Hid (∀ u, Below w.heap.size w u → Calls Tryz.prog 20 #[.agg #[.string N, .int .i64 k, .bool kp, .int .i64 al, .string B, .slice a n c], .int .u32 (v : Int), .int .i64 kind, .int .i64 sym, .int .i64 add] u (GotB u NC kC kpC alC BC nC lC 1)) := Lib.hid fun u hu =>
    (pWord_any N B k kp al a n c l v hv kind sym add u (hs.next hu) hz hg.name hg.data hg.rels hkk (hT.next hu)).mono fun e v h => h.got hC mC
  have HP : Hid (∀ u, Below w.heap.size w u → Calls Tryz.prog 21 #[.agg #[.string N, .int .i64 k, .bool kp, .int .i64 al, .string B, .slice a n c], .int .u64 (v2 : Int), .int .i64 sym, .int .i64 add] u (GotB u NP kP kpP alP BP nP lP 1)) := Lib.hid fun u hu =>
    (pQuad_any N B k kp al a n c l v2 hv2 sym add u (hs.next hu) hz hg.name hg.data hg.rels (hT.next hu)).mono fun e v h => h.got hP mP
  have HIs : Hid (∀ u, Below w.heap.size w u → Calls Tryz.prog 16 #[.agg #[.string N, .int .i64 k, .bool kp, .int .i64 al, .string B, .slice a n c]] u (RetB (.bool false) u)) := Lib.hid fun u hu => by
    have := pIs_core N B k kp al a n c l hg.name hg.data u (hs.next hu) hg.rels (hT.next hu)
    rwa [hsec] at this
  have hBN : B.size ≤ 5000 ∧ n ≤ 80 := by unfold bigS at hbig; rw [decide_eq_false_iff_not] at hbig; omega
  have hBz : (B.size : Int) ≤ 5000 := by omega
  have hnz : (n : Int) ≤ 80 := by omega
  have HBN := Lib.hid hBN
  have hln := Lib.hid hs.len
  have HGA := Lib.hid gA
  have HMA := Lib.hid mA
  have HGF := Lib.hid gF
  have HMF := Lib.hid mF
  have HGC := Lib.hid gC
  have HMC := Lib.hid mC
  have HGP := Lib.hid gP
  have HMP := Lib.hid mP
  clear hv hv2 hs hz hg hkk hks hka hT hbig hsec hBN hA mA gA hF mF gF hC mC gC hP mP gP
  go_enter Tryz.func4, Tryz.ntmps4
  obtain ⟨X, hX⟩ : ∃ X, X = w.heap.size := ⟨_, rfl⟩
  have HEX := Lib.hid hX
  have HA : Hid (Below w.heap.size w (w.alloc (.cells #[.string N, .int .i64 k, .bool kp, .int .i64 al, .string B, .slice a n c] 24))) := Lib.hid ((Below.refl _ w).alloc (Nat.le_refl _) _)
  have HRX : Hid (RB (w.alloc (.cells #[.string N, .int .i64 k, .bool kp, .int .i64 al, .string B, .slice a n c] 24)) X #[.string N, .int .i64 k, .bool kp, .int .i64 al, .string B, .slice a n c] 24) := Lib.hid (by rw [hX]; exact (MapKept.heap_alloc w _).1)
  clear hX
  go_wp2_with fail
  try rw [← HEX.out]
  generalize (w.alloc (.cells #[.string N, .int .i64 k, .bool kp, .int .i64 al, .string B, .slice a n c] 24)) = W at HA HRX ⊢
  replace HB : Hid (Below w.heap.size w W) := Lib.hid (after HB.out HA.out)
  clear HA HEX
  refine (HBig.out _).mono ?_
  rintro e u ⟨rfl, hb⟩
  replace HB := Lib.hid (after HB.out hb)
  replace HRX := Lib.hid (HRX.out.next hb)
  clear hb
  have x_0 : u.cell? ⟨X, 0, none⟩ = some (.string N) := HRX.out.cell
  have x_1 : u.cell? ⟨X, 1, none⟩ = some (.int .i64 k) := HRX.out.cell
  have x_2 : u.cell? ⟨X, 2, none⟩ = some (.bool kp) := HRX.out.cell
  have x_3 : u.cell? ⟨X, 3, none⟩ = some (.int .i64 al) := HRX.out.cell
  have x_4 : u.cell? ⟨X, 4, none⟩ = some (.string B) := HRX.out.cell
  have x_5 : u.cell? ⟨X, 5, none⟩ = some (.slice a n c) := HRX.out.cell
  go_wp2_with fail
  clear x_0 x_1 x_2 x_3 x_4 x_5
  refine (HA.out _ HB.out).mono ?_
  rintro e u ⟨aA, cA, rfl, hs, hz, hc, hb⟩
  replace HB := Lib.hid (after HB.out hb)
  replace HRX := Lib.hid (HRX.out.next hb)
  have HSA := Lib.hid hs
  have HCA := Lib.hid hc
  clear hb hs hz hc
  obtain ⟨ZA, hZA⟩ : ∃ ZA, ZA = u.heap.size := ⟨_, rfl⟩
  have HEZA := Lib.hid hZA
  have HA : Hid (Below u.heap.size u (u.alloc (.cells #[.string NA, .int .i64 kA, .bool kpA, .int .i64 alA, .string BA, .slice aA nA cA] 24))) := Lib.hid ((Below.refl _ u).alloc (Nat.le_refl _) _)
  have HRZA : Hid (RB (u.alloc (.cells #[.string NA, .int .i64 kA, .bool kpA, .int .i64 alA, .string BA, .slice aA nA cA] 24)) ZA #[.string NA, .int .i64 kA, .bool kpA, .int .i64 alA, .string BA, .slice aA nA cA] 24) := Lib.hid (by rw [hZA]; exact (MapKept.heap_alloc u _).1)
  clear hZA
  replace HRX := Lib.hid (HRX.out.next HA.out)
  replace HSA := Lib.hid (HSA.out.next HA.out)
  have x_0 : (u.alloc (.cells #[.string NA, .int .i64 kA, .bool kpA, .int .i64 alA, .string BA, .slice aA nA cA] 24)).cell? ⟨X, 0, none⟩ = some (.string N) := HRX.out.cell
  have x_1 : (u.alloc (.cells #[.string NA, .int .i64 kA, .bool kpA, .int .i64 alA, .string BA, .slice aA nA cA] 24)).cell? ⟨X, 1, none⟩ = some (.int .i64 k) := HRX.out.cell
  have x_2 : (u.alloc (.cells #[.string NA, .int .i64 kA, .bool kpA, .int .i64 alA, .string BA, .slice aA nA cA] 24)).cell? ⟨X, 2, none⟩ = some (.bool kp) := HRX.out.cell
  have x_3 : (u.alloc (.cells #[.string NA, .int .i64 kA, .bool kpA, .int .i64 alA, .string BA, .slice aA nA cA] 24)).cell? ⟨X, 3, none⟩ = some (.int .i64 al) := HRX.out.cell
  have x_4 : (u.alloc (.cells #[.string NA, .int .i64 kA, .bool kpA, .int .i64 alA, .string BA, .slice aA nA cA] 24)).cell? ⟨X, 4, none⟩ = some (.string B) := HRX.out.cell
  have x_5 : (u.alloc (.cells #[.string NA, .int .i64 kA, .bool kpA, .int .i64 alA, .string BA, .slice aA nA cA] 24)).cell? ⟨X, 5, none⟩ = some (.slice a n c) := HRX.out.cell
  go_wp2_with fail
  clear x_0 x_1 x_2 x_3 x_4 x_5
  try rw [← HEZA.out]
  generalize (u.alloc (.cells #[.string NA, .int .i64 kA, .bool kpA, .int .i64 alA, .string BA, .slice aA nA cA] 24)) = W at HA HRX HRZA HSA ⊢
  replace HB : Hid (Below w.heap.size w W) := Lib.hid (after HB.out HA.out)
  clear HA HEZA
  refine (HF.out _ HB.out).mono ?_
  rintro e u ⟨aF, cF, rfl, hs, hz, hc, hb⟩
  replace HB := Lib.hid (after HB.out hb)
  replace HRX := Lib.hid (HRX.out.next hb)
  replace HRZA := Lib.hid (HRZA.out.next hb)
  replace HSA := Lib.hid (HSA.out.next hb)
  have HSF := Lib.hid hs
  have HCF := Lib.hid hc
  clear hb hs hz hc
  obtain ⟨ZF, hZF⟩ : ∃ ZF, ZF = u.heap.size := ⟨_, rfl⟩
  have HEZF := Lib.hid hZF
  have HA : Hid (Below u.heap.size u (u.alloc (.cells #[.string NF, .int .i64 kF, .bool kpF, .int .i64 alF, .string BF, .slice aF nF cF] 24))) := Lib.hid ((Below.refl _ u).alloc (Nat.le_refl _) _)
  have HRZF : Hid (RB (u.alloc (.cells #[.string NF, .int .i64 kF, .bool kpF, .int .i64 alF, .string BF, .slice aF nF cF] 24)) ZF #[.string NF, .int .i64 kF, .bool kpF, .int .i64 alF, .string BF, .slice aF nF cF] 24) := Lib.hid (by rw [hZF]; exact (MapKept.heap_alloc u _).1)
  clear hZF
  replace HRX := Lib.hid (HRX.out.next HA.out)
  replace HRZA := Lib.hid (HRZA.out.next HA.out)
  replace HSA := Lib.hid (HSA.out.next HA.out)
  replace HSF := Lib.hid (HSF.out.next HA.out)
  have x_0 : (u.alloc (.cells #[.string NF, .int .i64 kF, .bool kpF, .int .i64 alF, .string BF, .slice aF nF cF] 24)).cell? ⟨X, 0, none⟩ = some (.string N) := HRX.out.cell
  have x_1 : (u.alloc (.cells #[.string NF, .int .i64 kF, .bool kpF, .int .i64 alF, .string BF, .slice aF nF cF] 24)).cell? ⟨X, 1, none⟩ = some (.int .i64 k) := HRX.out.cell
  have x_2 : (u.alloc (.cells #[.string NF, .int .i64 kF, .bool kpF, .int .i64 alF, .string BF, .slice aF nF cF] 24)).cell? ⟨X, 2, none⟩ = some (.bool kp) := HRX.out.cell
  have x_3 : (u.alloc (.cells #[.string NF, .int .i64 kF, .bool kpF, .int .i64 alF, .string BF, .slice aF nF cF] 24)).cell? ⟨X, 3, none⟩ = some (.int .i64 al) := HRX.out.cell
  have x_4 : (u.alloc (.cells #[.string NF, .int .i64 kF, .bool kpF, .int .i64 alF, .string BF, .slice aF nF cF] 24)).cell? ⟨X, 4, none⟩ = some (.string B) := HRX.out.cell
  have x_5 : (u.alloc (.cells #[.string NF, .int .i64 kF, .bool kpF, .int .i64 alF, .string BF, .slice aF nF cF] 24)).cell? ⟨X, 5, none⟩ = some (.slice a n c) := HRX.out.cell
  go_wp2_with fail
  clear x_0 x_1 x_2 x_3 x_4 x_5
  try rw [← HEZF.out]
  generalize (u.alloc (.cells #[.string NF, .int .i64 kF, .bool kpF, .int .i64 alF, .string BF, .slice aF nF cF] 24)) = W at HA HRX HRZA HRZF HSA HSF ⊢
  replace HB : Hid (Below w.heap.size w W) := Lib.hid (after HB.out HA.out)
  clear HA HEZF
  refine (HC.out _ HB.out).mono ?_
  rintro e u ⟨aC, cC, rfl, hs, hz, hc, hb⟩
  replace HB := Lib.hid (after HB.out hb)
  replace HRX := Lib.hid (HRX.out.next hb)
  replace HRZA := Lib.hid (HRZA.out.next hb)
  replace HRZF := Lib.hid (HRZF.out.next hb)
  replace HSA := Lib.hid (HSA.out.next hb)
  replace HSF := Lib.hid (HSF.out.next hb)
  have HSC := Lib.hid hs
  have HCC := Lib.hid hc
  clear hb hs hz hc
  obtain ⟨ZC, hZC⟩ : ∃ ZC, ZC = u.heap.size := ⟨_, rfl⟩
  have HEZC := Lib.hid hZC
  have HA : Hid (Below u.heap.size u (u.alloc (.cells #[.string NC, .int .i64 kC, .bool kpC, .int .i64 alC, .string BC, .slice aC nC cC] 24))) := Lib.hid ((Below.refl _ u).alloc (Nat.le_refl _) _)
  have HRZC : Hid (RB (u.alloc (.cells #[.string NC, .int .i64 kC, .bool kpC, .int .i64 alC, .string BC, .slice aC nC cC] 24)) ZC #[.string NC, .int .i64 kC, .bool kpC, .int .i64 alC, .string BC, .slice aC nC cC] 24) := Lib.hid (by rw [hZC]; exact (MapKept.heap_alloc u _).1)
  clear hZC
  replace HRX := Lib.hid (HRX.out.next HA.out)
  replace HRZA := Lib.hid (HRZA.out.next HA.out)
  replace HRZF := Lib.hid (HRZF.out.next HA.out)
  replace HSA := Lib.hid (HSA.out.next HA.out)
  replace HSF := Lib.hid (HSF.out.next HA.out)
  replace HSC := Lib.hid (HSC.out.next HA.out)
  have x_0 : (u.alloc (.cells #[.string NC, .int .i64 kC, .bool kpC, .int .i64 alC, .string BC, .slice aC nC cC] 24)).cell? ⟨X, 0, none⟩ = some (.string N) := HRX.out.cell
  have x_1 : (u.alloc (.cells #[.string NC, .int .i64 kC, .bool kpC, .int .i64 alC, .string BC, .slice aC nC cC] 24)).cell? ⟨X, 1, none⟩ = some (.int .i64 k) := HRX.out.cell
  have x_2 : (u.alloc (.cells #[.string NC, .int .i64 kC, .bool kpC, .int .i64 alC, .string BC, .slice aC nC cC] 24)).cell? ⟨X, 2, none⟩ = some (.bool kp) := HRX.out.cell
  have x_3 : (u.alloc (.cells #[.string NC, .int .i64 kC, .bool kpC, .int .i64 alC, .string BC, .slice aC nC cC] 24)).cell? ⟨X, 3, none⟩ = some (.int .i64 al) := HRX.out.cell
  have x_4 : (u.alloc (.cells #[.string NC, .int .i64 kC, .bool kpC, .int .i64 alC, .string BC, .slice aC nC cC] 24)).cell? ⟨X, 4, none⟩ = some (.string B) := HRX.out.cell
  have x_5 : (u.alloc (.cells #[.string NC, .int .i64 kC, .bool kpC, .int .i64 alC, .string BC, .slice aC nC cC] 24)).cell? ⟨X, 5, none⟩ = some (.slice a n c) := HRX.out.cell
  go_wp2_with fail
  clear x_0 x_1 x_2 x_3 x_4 x_5
  try rw [← HEZC.out]
  generalize (u.alloc (.cells #[.string NC, .int .i64 kC, .bool kpC, .int .i64 alC, .string BC, .slice aC nC cC] 24)) = W at HA HRX HRZA HRZF HRZC HSA HSF HSC ⊢
  replace HB : Hid (Below w.heap.size w W) := Lib.hid (after HB.out HA.out)
  clear HA HEZC
  refine (HP.out _ HB.out).mono ?_
  rintro e u ⟨aP, cP, rfl, hs, hz, hc, hb⟩
  replace HB := Lib.hid (after HB.out hb)
  replace HRX := Lib.hid (HRX.out.next hb)
  replace HRZA := Lib.hid (HRZA.out.next hb)
  replace HRZF := Lib.hid (HRZF.out.next hb)
  replace HRZC := Lib.hid (HRZC.out.next hb)
  replace HSA := Lib.hid (HSA.out.next hb)
  replace HSF := Lib.hid (HSF.out.next hb)
  replace HSC := Lib.hid (HSC.out.next hb)
  have HSP := Lib.hid hs
  have HCP := Lib.hid hc
  clear hb hs hz hc
  obtain ⟨H, hH⟩ : ∃ H, H = u.heap.size := ⟨_, rfl⟩
  have HH := Lib.hid hH
  have HA1 : Hid (Below u.heap.size u (u.alloc (.cells #[.string NP, .int .i64 kP, .bool kpP, .int .i64 alP, .string BP, .slice aP nP cP] 24))) := Lib.hid ((Below.refl _ u).alloc (Nat.le_refl _) _)
  have HA3 : Hid (Below u.heap.size u (((u.alloc (.cells #[.string NP, .int .i64 kP, .bool kpP, .int .i64 alP, .string BP, .slice aP nP cP] 24)).alloc (.cells #[.string NA, .int .i64 kA, .bool kpA, .int .i64 alA, .string BA, .slice aA nA cA, .string NF, .int .i64 kF, .bool kpF, .int .i64 alF, .string BF, .slice aF nF cF, .string NC, .int .i64 kC, .bool kpC, .int .i64 alC, .string BC, .slice aC nC cC, .string NP, .int .i64 kP, .bool kpP, .int .i64 alP, .string BP, .slice aP nP cP] 24)).alloc (.cells #[.int .i64 1, .int .i64 1, .int .i64 1, .int .i64 1] 25))) := Lib.hid ((HA1.out.alloc HA1.out.size _).alloc (HA1.out.alloc HA1.out.size _).size _)
  have HRM : Hid (RB (((u.alloc (.cells #[.string NP, .int .i64 kP, .bool kpP, .int .i64 alP, .string BP, .slice aP nP cP] 24)).alloc (.cells #[.string NA, .int .i64 kA, .bool kpA, .int .i64 alA, .string BA, .slice aA nA cA, .string NF, .int .i64 kF, .bool kpF, .int .i64 alF, .string BF, .slice aF nF cF, .string NC, .int .i64 kC, .bool kpC, .int .i64 alC, .string BC, .slice aC nC cC, .string NP, .int .i64 kP, .bool kpP, .int .i64 alP, .string BP, .slice aP nP cP] 24)).alloc (.cells #[.int .i64 1, .int .i64 1, .int .i64 1, .int .i64 1] 25)) (H + 1) #[.string NA, .int .i64 kA, .bool kpA, .int .i64 alA, .string BA, .slice aA nA cA, .string NF, .int .i64 kF, .bool kpF, .int .i64 alF, .string BF, .slice aF nF cF, .string NC, .int .i64 kC, .bool kpC, .int .i64 alC, .string BC, .slice aC nC cC, .string NP, .int .i64 kP, .bool kpP, .int .i64 alP, .string BP, .slice aP nP cP] 24) := Lib.hid (by
    have : RB ((u.alloc (.cells #[.string NP, .int .i64 kP, .bool kpP, .int .i64 alP, .string BP, .slice aP nP cP] 24)).alloc (.cells #[.string NA, .int .i64 kA, .bool kpA, .int .i64 alA, .string BA, .slice aA nA cA, .string NF, .int .i64 kF, .bool kpF, .int .i64 alF, .string BF, .slice aF nF cF, .string NC, .int .i64 kC, .bool kpC, .int .i64 alC, .string BC, .slice aC nC cC, .string NP, .int .i64 kP, .bool kpP, .int .i64 alP, .string BP, .slice aP nP cP] 24)) (H + 1) #[.string NA, .int .i64 kA, .bool kpA, .int .i64 alA, .string BA, .slice aA nA cA, .string NF, .int .i64 kF, .bool kpF, .int .i64 alF, .string BF, .slice aF nF cF, .string NC, .int .i64 kC, .bool kpC, .int .i64 alC, .string BC, .slice aC nC cC, .string NP, .int .i64 kP, .bool kpP, .int .i64 alP, .string BP, .slice aP nP cP] 24 := by unfold RB; rw [hH, show u.heap.size + 1 = (u.alloc (.cells #[.string NP, .int .i64 kP, .bool kpP, .int .i64 alP, .string BP, .slice aP nP cP] 24)).heap.size from (World.size_alloc _ _).symm]; exact (MapKept.heap_alloc _ _).1
    exact this.next ((Below.refl _ _).alloc (Nat.le_refl _) _))
  have HRE : Hid (RB (((u.alloc (.cells #[.string NP, .int .i64 kP, .bool kpP, .int .i64 alP, .string BP, .slice aP nP cP] 24)).alloc (.cells #[.string NA, .int .i64 kA, .bool kpA, .int .i64 alA, .string BA, .slice aA nA cA, .string NF, .int .i64 kF, .bool kpF, .int .i64 alF, .string BF, .slice aF nF cF, .string NC, .int .i64 kC, .bool kpC, .int .i64 alC, .string BC, .slice aC nC cC, .string NP, .int .i64 kP, .bool kpP, .int .i64 alP, .string BP, .slice aP nP cP] 24)).alloc (.cells #[.int .i64 1, .int .i64 1, .int .i64 1, .int .i64 1] 25)) (H + 1 + 1) #[.int .i64 1, .int .i64 1, .int .i64 1, .int .i64 1] 25) := Lib.hid (by unfold RB; rw [hH, show u.heap.size + 1 + 1 = ((u.alloc (.cells #[.string NP, .int .i64 kP, .bool kpP, .int .i64 alP, .string BP, .slice aP nP cP] 24)).alloc (.cells #[.string NA, .int .i64 kA, .bool kpA, .int .i64 alA, .string BA, .slice aA nA cA, .string NF, .int .i64 kF, .bool kpF, .int .i64 alF, .string BF, .slice aF nF cF, .string NC, .int .i64 kC, .bool kpC, .int .i64 alC, .string BC, .slice aC nC cC, .string NP, .int .i64 kP, .bool kpP, .int .i64 alP, .string BP, .slice aP nP cP] 24)).heap.size from by rw [World.size_alloc, World.size_alloc]]; exact (MapKept.heap_alloc _ _).1)
  have za_0 : (u.alloc (.cells #[.string NP, .int .i64 kP, .bool kpP, .int .i64 alP, .string BP, .slice aP nP cP] 24)).cell? ⟨ZA, 0, none⟩ = some (.string NA) := (HRZA.out.next HA1.out).cell
  have za_1 : (u.alloc (.cells #[.string NP, .int .i64 kP, .bool kpP, .int .i64 alP, .string BP, .slice aP nP cP] 24)).cell? ⟨ZA, 1, none⟩ = some (.int .i64 kA) := (HRZA.out.next HA1.out).cell
  have za_2 : (u.alloc (.cells #[.string NP, .int .i64 kP, .bool kpP, .int .i64 alP, .string BP, .slice aP nP cP] 24)).cell? ⟨ZA, 2, none⟩ = some (.bool kpA) := (HRZA.out.next HA1.out).cell
  have za_3 : (u.alloc (.cells #[.string NP, .int .i64 kP, .bool kpP, .int .i64 alP, .string BP, .slice aP nP cP] 24)).cell? ⟨ZA, 3, none⟩ = some (.int .i64 alA) := (HRZA.out.next HA1.out).cell
  have za_4 : (u.alloc (.cells #[.string NP, .int .i64 kP, .bool kpP, .int .i64 alP, .string BP, .slice aP nP cP] 24)).cell? ⟨ZA, 4, none⟩ = some (.string BA) := (HRZA.out.next HA1.out).cell
  have za_5 : (u.alloc (.cells #[.string NP, .int .i64 kP, .bool kpP, .int .i64 alP, .string BP, .slice aP nP cP] 24)).cell? ⟨ZA, 5, none⟩ = some (.slice aA nA cA) := (HRZA.out.next HA1.out).cell
  have zf_0 : (u.alloc (.cells #[.string NP, .int .i64 kP, .bool kpP, .int .i64 alP, .string BP, .slice aP nP cP] 24)).cell? ⟨ZF, 0, none⟩ = some (.string NF) := (HRZF.out.next HA1.out).cell
  have zf_1 : (u.alloc (.cells #[.string NP, .int .i64 kP, .bool kpP, .int .i64 alP, .string BP, .slice aP nP cP] 24)).cell? ⟨ZF, 1, none⟩ = some (.int .i64 kF) := (HRZF.out.next HA1.out).cell
  have zf_2 : (u.alloc (.cells #[.string NP, .int .i64 kP, .bool kpP, .int .i64 alP, .string BP, .slice aP nP cP] 24)).cell? ⟨ZF, 2, none⟩ = some (.bool kpF) := (HRZF.out.next HA1.out).cell
  have zf_3 : (u.alloc (.cells #[.string NP, .int .i64 kP, .bool kpP, .int .i64 alP, .string BP, .slice aP nP cP] 24)).cell? ⟨ZF, 3, none⟩ = some (.int .i64 alF) := (HRZF.out.next HA1.out).cell
  have zf_4 : (u.alloc (.cells #[.string NP, .int .i64 kP, .bool kpP, .int .i64 alP, .string BP, .slice aP nP cP] 24)).cell? ⟨ZF, 4, none⟩ = some (.string BF) := (HRZF.out.next HA1.out).cell
  have zf_5 : (u.alloc (.cells #[.string NP, .int .i64 kP, .bool kpP, .int .i64 alP, .string BP, .slice aP nP cP] 24)).cell? ⟨ZF, 5, none⟩ = some (.slice aF nF cF) := (HRZF.out.next HA1.out).cell
  have zc_0 : (u.alloc (.cells #[.string NP, .int .i64 kP, .bool kpP, .int .i64 alP, .string BP, .slice aP nP cP] 24)).cell? ⟨ZC, 0, none⟩ = some (.string NC) := (HRZC.out.next HA1.out).cell
  have zc_1 : (u.alloc (.cells #[.string NP, .int .i64 kP, .bool kpP, .int .i64 alP, .string BP, .slice aP nP cP] 24)).cell? ⟨ZC, 1, none⟩ = some (.int .i64 kC) := (HRZC.out.next HA1.out).cell
  have zc_2 : (u.alloc (.cells #[.string NP, .int .i64 kP, .bool kpP, .int .i64 alP, .string BP, .slice aP nP cP] 24)).cell? ⟨ZC, 2, none⟩ = some (.bool kpC) := (HRZC.out.next HA1.out).cell
  have zc_3 : (u.alloc (.cells #[.string NP, .int .i64 kP, .bool kpP, .int .i64 alP, .string BP, .slice aP nP cP] 24)).cell? ⟨ZC, 3, none⟩ = some (.int .i64 alC) := (HRZC.out.next HA1.out).cell
  have zc_4 : (u.alloc (.cells #[.string NP, .int .i64 kP, .bool kpP, .int .i64 alP, .string BP, .slice aP nP cP] 24)).cell? ⟨ZC, 4, none⟩ = some (.string BC) := (HRZC.out.next HA1.out).cell
  have zc_5 : (u.alloc (.cells #[.string NP, .int .i64 kP, .bool kpP, .int .i64 alP, .string BP, .slice aP nP cP] 24)).cell? ⟨ZC, 5, none⟩ = some (.slice aC nC cC) := (HRZC.out.next HA1.out).cell
  clear hH
  go_wp2_with fail
  clear za_0 za_1 za_2 za_3 za_4 za_5 zf_0 zf_1 zf_2 zf_3 zf_4 zf_5 zc_0 zc_1 zc_2 zc_3 zc_4 zc_5
  try rw [← HH.out]
  replace HRX := Lib.hid (HRX.out.next HA3.out)
  clear HRZA HRZF HRZC
  replace HSA := Lib.hid (HSA.out.next HA3.out)
  replace HSF := Lib.hid (HSF.out.next HA3.out)
  replace HSC := Lib.hid (HSC.out.next HA3.out)
  replace HSP := Lib.hid (HSP.out.next HA3.out)
  generalize (((u.alloc (.cells #[.string NP, .int .i64 kP, .bool kpP, .int .i64 alP, .string BP, .slice aP nP cP] 24)).alloc (.cells #[.string NA, .int .i64 kA, .bool kpA, .int .i64 alA, .string BA, .slice aA nA cA, .string NF, .int .i64 kF, .bool kpF, .int .i64 alF, .string BF, .slice aF nF cF, .string NC, .int .i64 kC, .bool kpC, .int .i64 alC, .string BC, .slice aC nC cC, .string NP, .int .i64 kP, .bool kpP, .int .i64 alP, .string BP, .slice aP nP cP] 24)).alloc (.cells #[.int .i64 1, .int .i64 1, .int .i64 1, .int .i64 1] 25)) = W0 at HA3 HRM HRE HRX HSA HSF HSC HSP ⊢
  replace HB : Hid (Below w.heap.size w W0) := Lib.hid (after HB.out HA3.out)
  obtain ⟨M, hM⟩ : ∃ M, M = H + 1 := ⟨_, rfl⟩
  obtain ⟨R, hR⟩ : ∃ R, R = H + 1 + 1 := ⟨_, rfl⟩
  rw [← hR] at HRE
  rw [← hM] at HRM
  rw [← hR, ← hM]
  clear HA1 HA3 HH hM hR
  have HALL : Hid (∀ i : Nat, i < 4 → ∃ (Nt Bt : ByteArray) (kt : Int) (kpt : Bool) (alt : Int) (nt : Nat) (lt : List Rl) (er : Int) (at_ : Option Addr) (ct : Nat),
      W0.cell? ⟨M, i * 6, none⟩ = some (.string Nt) ∧ W0.cell? ⟨M, i * 6 + 1, none⟩ = some (.int .i64 kt) ∧ W0.cell? ⟨M, i * 6 + 2, none⟩ = some (.bool kpt) ∧ W0.cell? ⟨M, i * 6 + 3, none⟩ = some (.int .i64 alt) ∧ W0.cell? ⟨M, i * 6 + 4, none⟩ = some (.string Bt) ∧ W0.cell? ⟨M, i * 6 + 5, none⟩ = some (.slice at_ nt ct) ∧ W0.cell? ⟨R, i, none⟩ = some (.int .i64 er) ∧
      SL rlC 4 W0 W0.heap.size at_ nt lt ∧ Grows ⟨N.data.toList, k, kp, al, B.data.toList, l⟩ (⟨Nt.data.toList, kt, kpt, alt, Bt.data.toList, lt⟩, er) ∧ nt = lt.length ∧ nt ≤ ct) := Lib.hid (by
    intro i hi
    match i, hi with
    | 0, _ => exact ⟨NA, BA, kA, kpA, alA, nA, lA, _, aA, cA, HRM.out.cell, HRM.out.cell, HRM.out.cell, HRM.out.cell, HRM.out.cell, HRM.out.cell, HRE.out.cell, HSA.out, HGA.out, HMA.out, HCA.out⟩
    | 1, _ => exact ⟨NF, BF, kF, kpF, alF, nF, lF, _, aF, cF, HRM.out.cell, HRM.out.cell, HRM.out.cell, HRM.out.cell, HRM.out.cell, HRM.out.cell, HRE.out.cell, HSF.out, HGF.out, HMF.out, HCF.out⟩
    | 2, _ => exact ⟨NC, BC, kC, kpC, alC, nC, lC, _, aC, cC, HRM.out.cell, HRM.out.cell, HRM.out.cell, HRM.out.cell, HRM.out.cell, HRM.out.cell, HRE.out.cell, HSC.out, HGC.out, HMC.out, HCC.out⟩
    | 3, _ => exact ⟨NP, BP, kP, kpP, alP, nP, lP, _, aP, cP, HRM.out.cell, HRM.out.cell, HRM.out.cell, HRM.out.cell, HRM.out.cell, HRM.out.cell, HRE.out.cell, HSP.out, HGP.out, HMP.out, HCP.out⟩
    )
  clear HSA HGA HMA HCA HA HSF HGF HMF HCF HF HSC HGC HMC HCC HC HSP HGP HMP HCP HP HRM HRE
  have HX0 : Hid (RB W0 X #[.string N, .int .i64 k, .bool kp, .int .i64 al, .string B, .slice a n c] 24) := Lib.hid HRX.out
  have HB0 := Lib.hid HB.out
  clear HRX HB
  go_loopw [27] (fun i wr => ∃ (q : Nat) (wx : World), wx = wr ∧ q ≤ 4 ∧ i = .int .i64 q ∧ Below W0.heap.size W0 wx) (fun i _ => 4 - (intOf i).toNat)
  case atStart => exact ⟨0, _, rfl, by omega, rfl, Below.refl _ _⟩
  case round =>
    obtain ⟨q, wx, rfl, hq, rfl, hbr⟩ := hrel
    have HBR := Lib.hid hbr
    have HB := Lib.hid (after HB0.out hbr)
    have HRX := Lib.hid (HX0.out.next hbr)
    clear hbr HB0 HX0
    by_cases hlt : q < 4
    · obtain ⟨Nt, Bt, kt, kpt, alt, nt, lt, er, at_, ct, m0, m1, m2, m3, m4, m5, me, hst, hgr, hmt, hct⟩ := HALL.out q hlt
      have m0 := (HBR.out.cell (cell_lt m0)).trans m0
      have m1 := (HBR.out.cell (cell_lt m1)).trans m1
      have m2 := (HBR.out.cell (cell_lt m2)).trans m2
      have m3 := (HBR.out.cell (cell_lt m3)).trans m3
      have m4 := (HBR.out.cell (cell_lt m4)).trans m4
      have m5 := (HBR.out.cell (cell_lt m5)).trans m5
      have me := (HBR.out.cell (cell_lt me)).trans me
      have HST := Lib.hid (hst.next HBR.out)
      have HMT := Lib.hid hmt
      have HCT := Lib.hid hct
      have hqi : (q : Int) < 4 := by omega
      clear hst hmt hct HALL
      rcases hgr with ⟨he, hgw⟩ | ⟨he, hgz, -⟩
      · simp only at he
        subst he
        obtain ⟨-, hrt, hgd, hnm, hkd, hkp, hal, ⟨xd, hxd⟩, ⟨xr, hxr⟩⟩ := hgw
        simp only at hrt hgd hnm hkd hkp hal hxd hxr
        obtain ⟨hx1, hx2⟩ := ext_pre hxd
        replace hnm : N = Nt := ByteArray.ext (Array.toList_inj.1 hnm.symm)
        replace hkd := hkd.symm
        replace hkp := hkp.symm
        subst hnm hkd hkp
        have hgb := GoodSc.b hgd
        have hnn : n ≤ nt := by have h1 := HMT.out; have h2 := hln.out; rw [hxr, List.length_append] at h1; omega
        have hnc : n ≤ ct := by have := HCT.out; omega
        have hx2i : (B.size : Int) ≤ (Bt.size : Int) := by omega
        have hx2n : ¬ (Bt.size : Int) < (B.size : Int) := by omega
        have hnni : (n : Int) ≤ (nt : Int) := by omega
        have hnnn : ¬ (nt : Int) < (n : Int) := by omega
        have hnci : (n : Int) ≤ (ct : Int) := by omega
        have haln : ¬ alt < al := by omega
        have hd1 : decide (Bt.size < B.size) = false := decide_eq_false (by omega)
        have hd2 : decide (nt < n) = false := decide_eq_false (by omega)
        have hd3 : decide (alt < al) = false := decide_eq_false haln
        have hd7 : (k != k) = false := by simp
        have hd8 : (kp != kp) = false := by simp
        have HXR := Lib.hid hxr
        have HIt : Hid (∀ u, TabP u → SL rlC 4 u u.heap.size at_ nt lt → Calls Tryz.prog 16 #[.agg #[.string N, .int .i64 k, .bool kp, .int .i64 alt, .string Bt, .slice at_ nt ct]] u (RetB (.bool true) u)) := Lib.hid fun u hu hs => by
          have := pIs_core N Bt k kp alt at_ nt ct lt hgb.name hgb.data u hs hgb.rels hu
          rwa [hrt] at this
        have HSR : Hid (∀ (u : World) (ad : Option Addr) (c2 : Nat), SL rlC 4 u u.heap.size ad n l → SL rlC 4 u u.heap.size a n l → Calls Tryz.prog 22 #[.slice ad n c2, .slice a n c] u (RetD (.bool true) u)) := Lib.hid fun u ad c2 h h' => rls_quiet ad a n c2 c l u (by have := HBN.out; omega) h h'
        clear hrt hgd hal hxd hxr hgb
        obtain ⟨Z, hZ⟩ : ∃ Z, Z = wx.heap.size := ⟨_, rfl⟩
        have HEZ := Lib.hid hZ
        have HA : Hid (Below wx.heap.size wx (wx.alloc (.cells #[.string N, .int .i64 k, .bool kp, .int .i64 alt, .string Bt, .slice at_ nt ct] 24))) := Lib.hid ((Below.refl _ wx).alloc (Nat.le_refl _) _)
        have HRZ : Hid (RB (wx.alloc (.cells #[.string N, .int .i64 k, .bool kp, .int .i64 alt, .string Bt, .slice at_ nt ct] 24)) Z #[.string N, .int .i64 k, .bool kp, .int .i64 alt, .string Bt, .slice at_ nt ct] 24) := Lib.hid (by rw [hZ]; exact (MapKept.heap_alloc wx _).1)
        clear hZ
        replace HRX := Lib.hid (HRX.out.next HA.out)
        replace HST := Lib.hid (HST.out.next HA.out)
        replace HBR := Lib.hid (after HBR.out HA.out)
        have me' : (wx.alloc (.cells #[.string N, .int .i64 k, .bool kp, .int .i64 alt, .string Bt, .slice at_ nt ct] 24)).cell? ⟨R, q, none⟩ = some (.int .i64 0) := (HA.out.cell (cell_lt me)).trans me
        go_wp2_with fail
        try rw [← HEZ.out]
        generalize (wx.alloc (.cells #[.string N, .int .i64 k, .bool kp, .int .i64 alt, .string Bt, .slice at_ nt ct] 24)) = W at HA HRX HRZ HST HBR ⊢
        replace HB : Hid (Below w.heap.size w W) := Lib.hid (after HB.out HA.out)
        clear HA HEZ
        clear m0 m1 m2 m3 m4 m5 me me'
        refine wp_region_any (by kernel_rfl) ?_
        try (change wpAny _ _ _ _ _ _ _ (World.drew _))
        have hdw : Below W.heap.size W W.drew := (Below.refl _ W).drew
        replace HB := Lib.hid (after HB.out hdw)
        replace HBR := Lib.hid (after HBR.out hdw)
        replace HRX := Lib.hid (HRX.out.next hdw)
        replace HRZ := Lib.hid (HRZ.out.next hdw)
        replace HST := Lib.hid (HST.out.next hdw)
        clear hdw
        have z_0 : W.drew.cell? ⟨Z, 0, none⟩ = some (.string N) := HRZ.out.cell
        have z_1 : W.drew.cell? ⟨Z, 1, none⟩ = some (.int .i64 k) := HRZ.out.cell
        have z_2 : W.drew.cell? ⟨Z, 2, none⟩ = some (.bool kp) := HRZ.out.cell
        have z_3 : W.drew.cell? ⟨Z, 3, none⟩ = some (.int .i64 alt) := HRZ.out.cell
        have z_4 : W.drew.cell? ⟨Z, 4, none⟩ = some (.string Bt) := HRZ.out.cell
        have z_5 : W.drew.cell? ⟨Z, 5, none⟩ = some (.slice at_ nt ct) := HRZ.out.cell
        refine wpAny_ready (rs := [0]) (by kernel_rfl) (by simp) ?_
        refine AllReady.cons rfl (fun K hK => ?_) AllReady.nil
        go_simp
        refine hK _ _ ?_
        clear hK K
        try simp only [Act.put, List.setIfInBounds_toArray, List.set_cons_zero, List.set_cons_succ]
        clear z_0 z_1 z_2 z_3 z_4 z_5
        refine wpAny_ready (rs := [1]) (by kernel_rfl) (by simp) ?_
        refine AllReady.cons rfl (fun K hK => ?_) AllReady.nil
        go_simp
        go_at_call 16
        refine (HIt.out _ (HT.out.next HB.out) HST.out).mono ?_
        rintro e u ⟨rfl, hb⟩
        replace HB := Lib.hid (after HB.out hb)
        replace HRX := Lib.hid (HRX.out.next hb)
        replace HRZ := Lib.hid (HRZ.out.next hb)
        replace HST := Lib.hid (HST.out.next hb)
        replace HBR := Lib.hid (after HBR.out hb)
        clear hb
        refine hK _ _ ?_
        clear hK K
        try simp only [Act.put, List.setIfInBounds_toArray, List.set_cons_zero, List.set_cons_succ]
        have HSP := Lib.hid (fun z => (SL.pre (HXR.out ▸ HST.out) hln.out).next (below_refl_drewN u z))
        have HSA := Lib.hid (fun z => (HS.out.next HB.out).next (below_refl_drewN u z))
        have x_0 : u.cell? ⟨X, 0, none⟩ = some (.string N) := HRX.out.cell
        have x_1 : u.cell? ⟨X, 1, none⟩ = some (.int .i64 k) := HRX.out.cell
        have x_2 : u.cell? ⟨X, 2, none⟩ = some (.bool kp) := HRX.out.cell
        have x_3 : u.cell? ⟨X, 3, none⟩ = some (.int .i64 al) := HRX.out.cell
        have x_4 : u.cell? ⟨X, 4, none⟩ = some (.string B) := HRX.out.cell
        have x_5 : u.cell? ⟨X, 5, none⟩ = some (.slice a n c) := HRX.out.cell
        have z_0 : u.cell? ⟨Z, 0, none⟩ = some (.string N) := HRZ.out.cell
        have z_1 : u.cell? ⟨Z, 1, none⟩ = some (.int .i64 k) := HRZ.out.cell
        have z_2 : u.cell? ⟨Z, 2, none⟩ = some (.bool kp) := HRZ.out.cell
        have z_3 : u.cell? ⟨Z, 3, none⟩ = some (.int .i64 alt) := HRZ.out.cell
        have z_4 : u.cell? ⟨Z, 4, none⟩ = some (.string Bt) := HRZ.out.cell
        have z_5 : u.cell? ⟨Z, 5, none⟩ = some (.slice at_ nt ct) := HRZ.out.cell
        refine wpAny_tail2 (by rfl) (by kernel_rfl) (by kernel_rfl) ?_
        repeat (go_big_quiet_step ((go_at_call 22; exact Calls.quiet_of (HSR.out _ _ _ (HSP.out _) (HSA.out _)))))
        refine wpQuiet_nil ?_
        intro _ hw'
        obtain ⟨nq, hw''⟩ := hw'
        subst hw''
        replace HBR := Lib.hid (below_drewN HBR.out nq)
        go_wp2
        go_roundw
        case rel => exact ⟨q + 1, _, rfl, by omega, by go_num, HBR.out⟩
        case measure => simp [intOf]; omega
      · simp only at he
        simp only [Sc.mk.injEq] at hgz
        obtain ⟨z1, z2, z3, z4, z5, z6⟩ := hgz
        replace z1 : Nt = ⟨#[]⟩ := ByteArray.ext (Array.toList_inj.1 z1)
        replace z5 : Bt = ⟨#[]⟩ := ByteArray.ext (Array.toList_inj.1 z5)
        have z7 : nt = 0 := by have := HMT.out; rw [z6] at this; exact this
        subst z1 z2 z3 z4 z5 z6 z7
        have r1 : (er != 0) = true := by simp [bne_iff_ne]; exact he
        have r2 : (er == 0) = false := by simp; exact he
        have hba : Hid (Below wx.heap.size wx (wx.alloc (.cells #[.string ⟨#[]⟩, .int .i64 0, .bool false, .int .i64 0, .string ⟨#[]⟩, .slice at_ 0 ct] 24))) := Lib.hid ((Below.refl _ wx).alloc (Nat.le_refl _) _)
        have me' : (wx.alloc (.cells #[.string ⟨#[]⟩, .int .i64 0, .bool false, .int .i64 0, .string ⟨#[]⟩, .slice at_ 0 ct] 24)).cell? ⟨R, q, none⟩ = some (.int .i64 er) := (hba.out.cell (cell_lt me)).trans me
        have HBR' := Lib.hid (after HBR.out hba.out)
        clear he me HBR
        go_wp2
        go_roundw
        case rel => exact ⟨q + 1, _, rfl, by omega, by go_num, HBR'.out⟩
        case measure => simp [intOf]; omega
    · have hqn : ¬ (q : Int) < 4 := by omega
      clear HALL
      go_wp2_with fail
      refine (HG.out _ (HT.out.next HB.out)).mono ?_
      rintro e u ⟨rfl, hb⟩
      replace HB := Lib.hid (after HB.out hb)
      replace HRX := Lib.hid (HRX.out.next hb)
      clear hb
      have x_0 : u.cell? ⟨X, 0, none⟩ = some (.string N) := HRX.out.cell
      have x_1 : u.cell? ⟨X, 1, none⟩ = some (.int .i64 k) := HRX.out.cell
      have x_2 : u.cell? ⟨X, 2, none⟩ = some (.bool kp) := HRX.out.cell
      have x_3 : u.cell? ⟨X, 3, none⟩ = some (.int .i64 al) := HRX.out.cell
      have x_4 : u.cell? ⟨X, 4, none⟩ = some (.string B) := HRX.out.cell
      have x_5 : u.cell? ⟨X, 5, none⟩ = some (.slice a n c) := HRX.out.cell
      go_wp2_with fail
      clear x_0 x_1 x_2 x_3 x_4 x_5
      refine (HIs.out _ HB.out).mono ?_
      rintro e u ⟨rfl, hb⟩
      replace HB := Lib.hid (after HB.out hb)
      replace HRX := Lib.hid (HRX.out.next hb)
      clear hb
      go_wp2
      go_ret
      exact retB_bool rfl HB.out
theorem pRi_core (N B D : ByteArray) (k : Int) (kp : Bool) (al : Int) (a : Option Addr) (n c : Nat) (l : List Rl) (na : Int) (v : Nat) (hv : v < 4294967296) (kind sym add : Int) (v2 : Nat) (hv2 : v2 < 18446744073709551616) (w : World) (hs : SL rlC 4 w w.heap.size a n l) (hz : a = none → n = 0 ∧ c = 0) (hg : GoodB N k al B l) (hD : D.size ≤ 140737488351232) (hkk : i64ok kind) (hks : i64ok sym) (hka : i64ok add) (hT : TabP w) : Calls Tryz.prog 4 #[.agg #[.string N, .int .i64 k, .bool kp, .int .i64 al, .string B, .slice a n c], .string D, .int .i64 na, .int .u32 (v : Int), .int .i64 kind, .int .i64 sym, .int .i64 add, .int .u64 (v2 : Int)] w (RetB (.bool true) w) := by
  cases hbig : bigS B.size n N.size
  · by_cases hlong : (5000 : Int) < (D.size : Int)
    · exact pRi_long N B D k kp al a n c l na v hv kind sym add v2 hv2 w hs hz hg hD hkk hks hka hT hbig hlong
    · obtain ⟨NA, BA, kA, kpA, alA, nA, lA, eA, hA, mA⟩ := sec_bytes (pPutL ⟨N.data.toList, k, kp, al, B.data.toList, l⟩ D.data.toList)
      obtain ⟨NF, BF, kF, kpF, alF, nF, lF, eF, hF, mF⟩ := sec_bytes (pAlignL ⟨N.data.toList, k, kp, al, B.data.toList, l⟩ na)
      obtain ⟨NC, BC, kC, kpC, alC, nC, lC, eC, hC, mC⟩ := sec_bytes (pWordL ⟨N.data.toList, k, kp, al, B.data.toList, l⟩ v kind sym add)
      obtain ⟨NP, BP, kP, kpP, alP, nP, lP, eP, hP, mP⟩ := sec_bytes (pQuadL ⟨N.data.toList, k, kp, al, B.data.toList, l⟩ v2 sym add)
      cases hsec : secR ⟨N.data.toList, k, kp, al, B.data.toList, l⟩
      · exact pRi_false N B D k kp al a n c l na v hv kind sym add v2 hv2 w hs hz hg hD hkk hks hka hT hbig hlong NA BA kA kpA alA nA lA eA hA mA NF BF kF kpF alF nF lF eF hF mF NC BC kC kpC alC nC lC eC hC mC NP BP kP kpP alP nP lP eP hP mP hsec
      · exact pRi_true N B D k kp al a n c l na v hv kind sym add v2 hv2 w hs hz hg hD hkk hks hka hT hbig hlong NA BA kA kpA alA nA lA eA hA mA NF BF kF kpF alF nF lF eF hF mF NC BC kC kpC alC nC lC eC hC mC NP BP kP kpP alP nP lP eP hP mP hsec
  · exact pRi_big N B D k kp al a n c l na v hv kind sym add v2 hv2 w hs hz hg hD hkk hks hka hT hbig
theorem PartRight_walk (w : World) (s : Sc) (a : Option Addr) (n c : Nat) (hg : GoodSc s) (hs : SL rlC 4 w w.heap.size a n s.rels) (hz : a = none → n = 0 ∧ c = 0) (hnc : n ≤ c) (hn : n ≤ maxLen) (D : ByteArray) (hD : D.size ≤ reachBytes) (na : Int) (h1 : -9223372036854775808 ≤ na ∧ na ≤ 9223372036854775807) (v : Int) (hv : 0 ≤ v ∧ v < 4294967296) (kind : Int) (hk : -9223372036854775808 ≤ kind ∧ kind ≤ 9223372036854775807) (sym : Int) (hs2 : -9223372036854775808 ≤ sym ∧ sym ≤ 9223372036854775807) (add : Int) (ha : -9223372036854775808 ≤ add ∧ add ≤ 9223372036854775807) (v2 : Int) (hv2 : 0 ≤ v2 ∧ v2 < 18446744073709551616) (hT : TabP w) :
    Calls Tryz.prog 4 #[scV s a n c, .string D, .int .i64 na, .int .u32 v, .int .i64 kind, .int .i64 sym, .int .i64 add, .int .u64 v2] w (RetB (.bool true) w) := by
  obtain ⟨x, rfl⟩ : ∃ x : Nat, v = x := ⟨v.toNat, by omega⟩
  obtain ⟨y, rfl⟩ : ∃ y : Nat, v2 = y := ⟨v2.toNat, by omega⟩
  exact pRi_core ⟨s.name.toArray⟩ ⟨s.data.toArray⟩ D s.kind s.keep s.align a n c s.rels na x (by omega) kind sym add y (by omega) w hs hz (GoodSc.b (kp := s.keep) hg) (by unfold reachBytes at hD; omega) hk hs2 ha hT
end Go.Proofs.YtmlofdolenmkoaaGreatDoor
