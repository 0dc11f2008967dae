/- ObjBack: what is put is got; no bytes more, nor fewer, are that. -/
import Derived.Test.YtkdhomofagjcmaaGreatDoorkUB
import Derived.Test.YtkdhomofagjcmaaGreatDoorkUC
import Derived.Test.YtkdhomofagjcmaaGreatDoorkSN
namespace Go.Proofs.YtkdhomofagjcmaaGreatDoor
set_option linter.unusedVariables false
set_option linter.unusedSimpArgs false
open Go.ChangeShapes Go.WideShapes Go.Deep Go.RowKit
open Go.Proofs.YtkdhomofagjcmaaGreatDoor.Wi (putL putL_len)

theorem rOSameB (a a2 a' a2' : Option Addr) (n c n2 c2 n' c' n2' c2' : Nat) (p : Prop) (w : World) (h : ∀ u, Below w.heap.size w u → Calls Tryz.prog 72 #[.agg #[.slice a n c, .slice a2 n2 c2], .agg #[.slice a' n' c', .slice a2' n2' c2']] u (SameP p u)) : Calls Tryz.prog 26 #[.agg #[.slice a n c, .slice a2 n2 c2], .agg #[.slice a' n' c', .slice a2' n2' c2']] w (SameP p w) := by
  have H := Lib.hid h
  have HW := Lib.hid (two_rb (w := w) (A := #[.slice a n c, .slice a2 n2 c2]) (B := #[.slice a' n' c', .slice a2' n2' c2']) (T := 25) (U := 25)).2.2
  clear h
  go_enter Tryz.func26, Tryz.ntmps26
  go_wp2_with fail
  refine (H.out _ HW.out).mono ?_
  rintro e u ⟨r, rfl, hr, hb⟩
  have HR := Lib.hid hr
  have HB := Lib.hid (after HW.out hb)
  clear hr hb
  go_wp2
  go_ret
  exact ⟨r, rfl, HR.out, HB.out⟩
theorem txtL_le {d : List UInt8} (h : d.length ≤ 1000000) : (txtL d).length ≤ 10 + d.length := by
  unfold txtL
  have := putL_le (v := d.length) (by omega)
  rw [List.length_append]; omega
theorem secB_le {s : Sc} (hs : SecFull s) : (secB s).length ≤ 6800 := by
  obtain ⟨s1, s2⟩ := hs
  have a1 := s1.name; have a2 := s1.k0; have a3 := s1.k1; have a4 := s1.a0; have a5 := s1.a1; have a6 := s1.data; have a7 := s1.rels
  have ks : keepI s.keep ≤ 1 := by unfold keepI; split <;> omega
  have h1 := txtL_le (d := s.name) (by omega)
  have h2 := putL_le (v := s.kind.toNat) (by omega)
  have h3 := putL_le (v := keepI s.keep) (by omega)
  have h4 := putL_le (v := s.align.toNat) (by omega)
  have h5 := txtL_le (d := s.data) (by omega)
  have h6 := putL_le (v := s.rels.length) (by omega)
  have h7 := flat_le (f := relB) (m := 40) (l := s.rels) (fun r hr => relB_len (s1.all r hr) a6 (s2.rels r hr).2.2.2 (s2.rels r hr).2.2.1)
  unfold secB
  simp only [List.length_append]
  omega
theorem symB_le {s : Sy} (hs : SymOk s) : (symB s).length ≤ 80 := by
  have a1 := hs.name; have a2 := hs.b0; have a3 := hs.b1; have a4 := hs.s0; have a5 := hs.s1; have a6 := hs.o0; have a7 := hs.o1
  have h1 := txtL_le (d := s.name) (by omega)
  have h2 := putL_le (v := s.bind.toNat) (by omega)
  have h3 := putL_le (v := (s.sec + 1).toNat) (by omega)
  have h4 := putL_le (v := s.off.toNat) (by omega)
  unfold symB
  simp only [List.length_append]
  omega
theorem putO_le {o : Ob} (ho : isO o = true) (hg : ∀ s ∈ o.secs, GoodSc s) : (putO o).length ≤ 300000 := by
  obtain ⟨o1, o2, o3, o4⟩ := is_ok ho
  have h1 := putL_le (v := o.secs.length) (by omega)
  have h2 := putL_le (v := o.syms.length) (by omega)
  have h3 := flat_le (f := secB) (m := 6800) (l := o.secs) (fun s hs => secB_le ⟨o3 s hs, hg s hs⟩)
  have h4 := flat_le (f := symB) (m := 80) (l := o.syms) (fun s hs => symB_le (o4 s hs))
  unfold putO
  simp only [List.length_append, List.length_cons, List.length_nil]
  omega
theorem ba_app (x : List UInt8) (M : ByteArray) : bA x ++ M = bA (x ++ M.data.toList) := by
  rw [← bA_of (bA x ++ M)]
  simp [bA]
theorem ba_take (x : List UInt8) (q : Nat) : (bA x).extract 0 q = bA (x.take q) := by
  rw [← bA_of ((bA x).extract 0 q), ext_list]
  simp [bA]
def GetL (S : List Sc) (l : List Sy) (w : World) (e : Ending) (w' : World) : Prop := ∃ (L : List Ms) (a : Option Addr) (c : Nat) (a2 : Option Addr) (c2 B : Nat), L.map (·.sc) = S ∧ e = .returned (.tuple #[.agg #[.slice a L.length c, .slice a2 l.length c2], .int .i64 0]) ∧ GO w' B L a c l a2 c2 ∧ Below w.heap.size w w'
def GetE (er : Int) (w : World) (e : Ending) (w' : World) : Prop := ∃ (a0 a1 : Option Addr) (n0 c0 n1 c1 : Nat), e = .returned (.tuple #[.agg #[.slice a0 n0 c0, .slice a1 n1 c1], .int .i64 er]) ∧ Below w.heap.size w w'
theorem GetN.e {w w' : World} {e : Ending} (h : GetN w e w') : GetE 3 w e w' := ⟨none, none, 0, 0, 0, 0, h.1, h.2⟩
theorem GetL.e {S : List Sc} {l : List Sy} {w w' : World} {e : Ending} (h : GetL S l w e w') : GetE 0 w e w' := by
  obtain ⟨L, a, c, a2, c2, B, -, h1, -, h2⟩ := h
  exact ⟨a, a2, _, c, _, c2, h1, h2⟩
set_option maxRecDepth 100000 in
set_option maxHeartbeats 2000000 in
theorem oBk_no (w : World) (a : Option Addr) (n c : Nat) (L : List Ms) (a2 : Option Addr) (n2 c2 : Nat) (l : List Sy) (hn : n ≤ maxLen) (hn2 : n2 ≤ maxLen) (hs : SL msC 6 w w.heap.size a n L) (hno : Notes w w.heap.size L) (hg : ∀ m ∈ L, GoodSc m.sc) (hs2 : SL syC 4 w w.heap.size a2 n2 l) (hg2 : ∀ s ∈ l, GoodSy s) (M : ByteArray) (hM : M.size ≤ reachBytes) (k : Int) (hk : -9223372036854775808 ≤ k ∧ k ≤ 9223372036854775807) (hT : TabP w) (hq : isO ⟨L.map (·.sc), l⟩ = false) : Calls Tryz.prog 4 #[.agg #[.slice a n c, .slice a2 n2 c2], .string M, .int .i64 k] w (RetB (.bool true) w) := by
  have hMi : (M.size : Int) ≤ 140737488351232 := by unfold reachBytes at hM; omega
  have HBg : Hid (∀ u, Below w.heap.size w u → Calls Tryz.prog 15 #[.agg #[.slice a n c, .slice a2 n2 c2]] u (SomeB u)) := Lib.hid fun u hu => rOBig_any a n c L a2 n2 c2 l hn hn2 u (hs.next hu) (hs2.next hu)
  have HP : Hid (∀ u, Below w.heap.size w u → Calls Tryz.prog 17 #[.agg #[.slice a n c, .slice a2 n2 c2]] u (RetB (.tuple #[.string (bA (putR ⟨L.map (·.sc), l⟩).1), .int .i64 (putR ⟨L.map (·.sc), l⟩).2]) u)) := Lib.hid fun u hu => oPut_any a n c L a2 n2 c2 l hn hn2 u (hs.next hu) (hno.next hu) hg (hs2.next hu) hg2 (hT.next hu)
  have HIs : Hid (∀ u, Below w.heap.size w u → Calls Tryz.prog 24 #[.agg #[.slice a n c, .slice a2 n2 c2]] u (RetB (.bool (isO ⟨L.map (·.sc), l⟩)) u)) := Lib.hid fun u hu => oIs_any a n c L a2 n2 c2 l hn hn2 u (hs.next hu) (hno.next hu) hg (hs2.next hu) hg2 (hT.next hu)
  have HG := Lib.hid (fun u (hu : TabP u) => held_is u hu)
  have HT := Lib.hid hT
  have HB : Hid (Below w.heap.size w w) := Lib.hid (Below.refl _ w)
  rw [show putR ⟨L.map (·.sc), l⟩ = ([], 1) from by unfold putR; rw [hq]; rfl] at HP
  rw [hq] at HIs
  replace HP : Hid (∀ u, Below w.heap.size w u → Calls Tryz.prog 17 #[.agg #[.slice a n c, .slice a2 n2 c2]] u (RetB (.tuple #[.string ⟨#[]⟩, .int .i64 1]) u)) := HP
  clear hq hk
  clear hs hno hg hs2 hg2 hT hn hn2 hM
  go_enter Tryz.func4, Tryz.ntmps4
  obtain ⟨X, hX⟩ : ∃ X, X = w.heap.size := ⟨_, rfl⟩
  have HEX := Lib.hid hX
  have HA : Hid (Below w.heap.size w (w.alloc (.cells #[.slice a n c, .slice a2 n2 c2] 25))) := Lib.hid ((Below.refl _ w).alloc (Nat.le_refl _) _)
  have HRX : Hid (RB (w.alloc (.cells #[.slice a n c, .slice a2 n2 c2] 25)) X #[.slice a n c, .slice a2 n2 c2] 25) := Lib.hid (by rw [hX]; exact (MapKept.heap_alloc w _).1)
  clear hX
  go_wp2_with fail
  try rw [← HEX.out]
  generalize (w.alloc (.cells #[.slice a n c, .slice a2 n2 c2] 25)) = W at HA HRX ⊢
  replace HB : Hid (Below w.heap.size w W) := Lib.hid (after HB.out HA.out)
  clear HA HEX
  refine (HBg.out _ HB.out).mono ?_
  rintro e u ⟨r, rfl, hb⟩
  replace HB := Lib.hid (after HB.out hb)
  replace HRX := Lib.hid (HRX.out.next hb)
  clear hb
  cases r
  rotate_left
  · go_wp2
    go_ret
    exact retB_bool rfl HB.out
  by_cases h100 : (1000 : Int) < (M.size : Int)
  · go_wp2
    go_ret
    exact retB_bool rfl HB.out
  have x_0 : u.cell? ⟨X, 0, none⟩ = some (.slice a n c) := HRX.out.cell
  have x_1 : u.cell? ⟨X, 1, none⟩ = some (.slice a2 n2 c2) := HRX.out.cell
  go_wp2_with fail
  clear x_0 x_1
  refine (HP.out _ HB.out).mono ?_
  rintro e u ⟨rfl, hb⟩
  replace HB := Lib.hid (after HB.out hb)
  replace HRX := Lib.hid (HRX.out.next hb)
  clear hb
  go_wp2_with fail
  refine (HG.out _ (HT.out.next HB.out)).mono ?_
  rintro e u ⟨rfl, hb⟩
  replace HB := Lib.hid (after HB.out hb)
  replace HRX := Lib.hid (HRX.out.next hb)
  clear hb
  have x_0 : u.cell? ⟨X, 0, none⟩ = some (.slice a n c) := HRX.out.cell
  have x_1 : u.cell? ⟨X, 1, none⟩ = some (.slice a2 n2 c2) := HRX.out.cell
  go_wp2_with fail
  clear x_0 x_1
  refine (HIs.out _ HB.out).mono ?_
  rintro e u ⟨rfl, hb⟩
  replace HB := Lib.hid (after HB.out hb)
  replace HRX := Lib.hid (HRX.out.next hb)
  clear hb
  go_wp2
  go_ret
  exact retB_bool rfl HB.out
set_option maxRecDepth 100000 in
set_option maxHeartbeats 2000000 in
theorem oBk_0_low (w : World) (a : Option Addr) (n c : Nat) (L : List Ms) (a2 : Option Addr) (n2 c2 : Nat) (l : List Sy) (hn : n ≤ maxLen) (hn2 : n2 ≤ maxLen) (hs : SL msC 6 w w.heap.size a n L) (hno : Notes w w.heap.size L) (hg : ∀ m ∈ L, GoodSc m.sc) (hs2 : SL syC 4 w w.heap.size a2 n2 l) (hg2 : ∀ s ∈ l, GoodSy s) (M : ByteArray) (hM : M.size ≤ reachBytes) (k : Int) (hk : -9223372036854775808 ≤ k ∧ k ≤ 9223372036854775807) (hT : TabP w) (hq : isO ⟨L.map (·.sc), l⟩ = true) (hm : M.data.toList = []) (hk0 : k < 0) : Calls Tryz.prog 4 #[.agg #[.slice a n c, .slice a2 n2 c2], .string M, .int .i64 k] w (RetB (.bool true) w) := by
  have HBg : Hid (∀ u, Below w.heap.size w u → Calls Tryz.prog 15 #[.agg #[.slice a n c, .slice a2 n2 c2]] u (SomeB u)) := Lib.hid fun u hu => rOBig_any a n c L a2 n2 c2 l hn hn2 u (hs.next hu) (hs2.next hu)
  have HP : Hid (∀ u, Below w.heap.size w u → Calls Tryz.prog 17 #[.agg #[.slice a n c, .slice a2 n2 c2]] u (RetB (.tuple #[.string (bA (putR ⟨L.map (·.sc), l⟩).1), .int .i64 (putR ⟨L.map (·.sc), l⟩).2]) u)) := Lib.hid fun u hu => oPut_any a n c L a2 n2 c2 l hn hn2 u (hs.next hu) (hno.next hu) hg (hs2.next hu) hg2 (hT.next hu)
  have HIs : Hid (∀ u, Below w.heap.size w u → Calls Tryz.prog 24 #[.agg #[.slice a n c, .slice a2 n2 c2]] u (RetB (.bool (isO ⟨L.map (·.sc), l⟩)) u)) := Lib.hid fun u hu => oIs_any a n c L a2 n2 c2 l hn hn2 u (hs.next hu) (hno.next hu) hg (hs2.next hu) hg2 (hT.next hu)
  have HG := Lib.hid (fun u (hu : TabP u) => held_is u hu)
  have HT := Lib.hid hT
  have HB : Hid (Below w.heap.size w w) := Lib.hid (Below.refl _ w)
  have hgo1 : ∀ s ∈ (⟨L.map (·.sc), l⟩ : Ob).secs, GoodSc s := fun s hs => by obtain ⟨m, hm, rfl⟩ := List.mem_map.1 hs; exact hg m hm
  obtain ⟨S, hS⟩ : ∃ S, S = bA (putO ⟨L.map (·.sc), l⟩) := ⟨_, rfl⟩
  have hSs : S.size ≤ 300000 := by rw [hS, bA_size]; exact putO_le hq hgo1
  have hSi : (S.size : Int) ≤ 300000 := by omega
  have hMi : (M.size : Int) ≤ 140737488351232 := by unfold reachBytes at hM; omega
  have hSm : S.size ≤ maxLen := by unfold maxLen; omega
  rw [show putR ⟨L.map (·.sc), l⟩ = (putO ⟨L.map (·.sc), l⟩, 0) from by unfold putR; rw [if_pos hq]] at HP
  simp only at HP
  rw [← hS] at HP
  have hle : ∀ m ∈ L, m.sc.rels.length ≤ 1000000 := fun m hm => by
    have := ((is_ok hq).2.2.1 m.sc (List.mem_map_of_mem hm)).rels
    omega
  have hLl : L.length ≤ 32 ∧ l.length ≤ 128 := by
    obtain ⟨h1, h2, -, -⟩ := is_ok hq
    simp only [List.length_map] at h1
    exact ⟨h1, h2⟩
  have HGt1 : Hid (∀ u, TabP u → Calls Tryz.prog 19 #[.string S] u (GetL (L.map (·.sc)) l u)) := Lib.hid fun u hu => by
    have := Get_y (D := S) (by rw [hS]; exact getO_back hq hgo1) hSm u hu
    exact this
  have HSm : Hid (∀ u (L' : List Ms) (a' : Option Addr) (c' : Nat) (ax : Option Addr) (cx B : Nat), Below w.heap.size w u → GO u B L' a' c' l ax cx → L'.map (·.sc) = L.map (·.sc) → Calls Tryz.prog 26 #[.agg #[.slice a' L'.length c', .slice ax l.length cx], .agg #[.slice a n c, .slice a2 n2 c2]] u (RetB (.bool true) u)) := Lib.hid fun u L' a' c' ax cx B hu hG hL => by
    have hl' : L'.length ≤ 32 := by have := congrArg List.length hL; rw [List.length_map, List.length_map] at this; omega
    have hle' : ∀ m ∈ L', m.sc.rels.length ≤ 1000000 := fun m hm => by
      have h1 : m.sc ∈ L'.map (·.sc) := List.mem_map.2 ⟨m, hm, rfl⟩
      rw [hL] at h1
      obtain ⟨m2, hm2, he⟩ := List.mem_map.1 h1
      rw [← he]; exact hle m2 hm2
    refine (rOSameB a' ax a a2 L'.length c' l.length cx n c n2 c2 (L'.map (·.sc) = L.map (·.sc) ∧ l = l) u (fun v hv => rOSame_any a' ax a a2 L'.length c' l.length cx n c n2 c2 L' L l l v (by unfold maxLen; omega) (by unfold maxLen; omega) hn hn2 (hG.secs.next hv) (hG.syms.next hv) ((hs.next hu).next hv) ((hs2.next hu).next hv) (hG.notes.next hv) ((hno.next hu).next hv) hle' hle)).mono ?_
    rintro e v ⟨r, rfl, hr, hb⟩
    exact ⟨by rw [hr.2 ⟨hL, rfl⟩], hb⟩
  have hMe : M = ⟨#[]⟩ := by rw [← bA_of M, hm]
  have HGt2 : Hid (∀ u, TabP u → Calls Tryz.prog 19 #[.string (S ++ M)] u (GetE 0 u)) := Lib.hid fun u hu => by
    have e1 : S ++ M = S := by rw [hS, ba_app, hm, List.append_nil]
    rw [e1]
    exact (HGt1.out u hu).mono fun e w' h => h.e
  have e1 : (M.toList == []) = true := by rw [Lib.toList_data, hm]; rfl
  have e2 : M.toList.isEmpty = true := by rw [Lib.toList_data, hm]; rfl
  have e3 : (M.toList != []) = false := by rw [bne, e1]; rfl
  have e4 : M.toList = [] := by rw [Lib.toList_data, hm]
  clear hMe
  clear hq hm hk hgo1 hS hSs hSm hle hLl HIs
  clear hs hno hg hs2 hg2 hT hn hn2 hM
  go_enter Tryz.func4, Tryz.ntmps4
  obtain ⟨X, hX⟩ : ∃ X, X = w.heap.size := ⟨_, rfl⟩
  have HEX := Lib.hid hX
  have HA : Hid (Below w.heap.size w (w.alloc (.cells #[.slice a n c, .slice a2 n2 c2] 25))) := Lib.hid ((Below.refl _ w).alloc (Nat.le_refl _) _)
  have HRX : Hid (RB (w.alloc (.cells #[.slice a n c, .slice a2 n2 c2] 25)) X #[.slice a n c, .slice a2 n2 c2] 25) := Lib.hid (by rw [hX]; exact (MapKept.heap_alloc w _).1)
  clear hX
  go_wp2_with fail
  try rw [← HEX.out]
  generalize (w.alloc (.cells #[.slice a n c, .slice a2 n2 c2] 25)) = W at HA HRX ⊢
  replace HB : Hid (Below w.heap.size w W) := Lib.hid (after HB.out HA.out)
  clear HA HEX
  refine (HBg.out _ HB.out).mono ?_
  rintro e u ⟨r, rfl, hb⟩
  replace HB := Lib.hid (after HB.out hb)
  replace HRX := Lib.hid (HRX.out.next hb)
  clear hb
  cases r
  rotate_left
  · go_wp2
    go_ret
    exact retB_bool rfl HB.out
  by_cases h100 : (1000 : Int) < (M.size : Int)
  · go_wp2
    go_ret
    exact retB_bool rfl HB.out
  have x_0 : u.cell? ⟨X, 0, none⟩ = some (.slice a n c) := HRX.out.cell
  have x_1 : u.cell? ⟨X, 1, none⟩ = some (.slice a2 n2 c2) := HRX.out.cell
  go_wp2_with fail
  clear x_0 x_1
  refine (HP.out _ HB.out).mono ?_
  rintro e u ⟨rfl, hb⟩
  replace HB := Lib.hid (after HB.out hb)
  replace HRX := Lib.hid (HRX.out.next hb)
  clear hb
  go_wp2_with fail
  refine (HGt1.out _ (HT.out.next HB.out)).mono ?_
  rintro e u ⟨L', a', c', ax, cx, B0, hL, rfl, hgo, hb⟩
  replace HB := Lib.hid (after HB.out hb)
  replace HRX := Lib.hid (HRX.out.next hb)
  have HGO := Lib.hid hgo
  have HL := Lib.hid hL
  clear hb hgo hL
  obtain ⟨Y, hY⟩ : ∃ Y, Y = u.heap.size := ⟨_, rfl⟩
  have HEY := Lib.hid hY
  have HA : Hid (Below u.heap.size u (u.alloc (.cells #[.slice a' L'.length c', .slice ax l.length cx] 25))) := Lib.hid ((Below.refl _ u).alloc (Nat.le_refl _) _)
  have HRY : Hid (RB (u.alloc (.cells #[.slice a' L'.length c', .slice ax l.length cx] 25)) Y #[.slice a' L'.length c', .slice ax l.length cx] 25) := Lib.hid (by rw [hY]; exact (MapKept.heap_alloc u _).1)
  clear hY
  replace HRX := Lib.hid (HRX.out.next HA.out)
  replace HGO := Lib.hid (HGO.out.next HA.out)
  go_wp2_with fail
  try rw [← HEY.out]
  generalize (u.alloc (.cells #[.slice a' L'.length c', .slice ax l.length cx] 25)) = W at HA HRX HRY HGO ⊢
  replace HB : Hid (Below w.heap.size w W) := Lib.hid (after HB.out HA.out)
  clear HA HEY
  refine (HGt2.out _ (HT.out.next HB.out)).mono ?_
  rintro e u ⟨a0, a1, n0, c0, n1, c1, rfl, hb⟩
  replace HB := Lib.hid (after HB.out hb)
  replace HRX := Lib.hid (HRX.out.next hb)
  replace HRY := Lib.hid (HRY.out.next hb)
  replace HGO := Lib.hid (HGO.out.next hb)
  clear hb
  obtain ⟨Z, hZ⟩ : ∃ Z, Z = u.heap.size := ⟨_, rfl⟩
  have HEZ := Lib.hid hZ
  have HA : Hid (Below u.heap.size u (u.alloc (.cells #[.slice a0 n0 c0, .slice a1 n1 c1] 25))) := Lib.hid ((Below.refl _ u).alloc (Nat.le_refl _) _)
  have HRZ : Hid (RB (u.alloc (.cells #[.slice a0 n0 c0, .slice a1 n1 c1] 25)) Z #[.slice a0 n0 c0, .slice a1 n1 c1] 25) := Lib.hid (by rw [hZ]; exact (MapKept.heap_alloc u _).1)
  clear hZ
  replace HRX := Lib.hid (HRX.out.next HA.out)
  replace HRY := Lib.hid (HRY.out.next HA.out)
  replace HGO := Lib.hid (HGO.out.next HA.out)
  have x_0 : (u.alloc (.cells #[.slice a0 n0 c0, .slice a1 n1 c1] 25)).cell? ⟨X, 0, none⟩ = some (.slice a n c) := HRX.out.cell
  have x_1 : (u.alloc (.cells #[.slice a0 n0 c0, .slice a1 n1 c1] 25)).cell? ⟨X, 1, none⟩ = some (.slice a2 n2 c2) := HRX.out.cell
  have y_0 : (u.alloc (.cells #[.slice a0 n0 c0, .slice a1 n1 c1] 25)).cell? ⟨Y, 0, none⟩ = some (.slice a' L'.length c') := HRY.out.cell
  have y_1 : (u.alloc (.cells #[.slice a0 n0 c0, .slice a1 n1 c1] 25)).cell? ⟨Y, 1, none⟩ = some (.slice ax l.length cx) := HRY.out.cell
  go_wp2_with fail
  clear x_0 x_1 y_0 y_1
  try rw [← HEZ.out]
  generalize (u.alloc (.cells #[.slice a0 n0 c0, .slice a1 n1 c1] 25)) = W at HA HRX HRY HRZ HGO ⊢
  replace HB : Hid (Below w.heap.size w W) := Lib.hid (after HB.out HA.out)
  clear HA HEZ
  refine (HSm.out _ _ _ _ _ _ _ HB.out HGO.out HL.out).mono ?_
  rintro e u ⟨rfl, hb⟩
  replace HB := Lib.hid (after HB.out hb)
  replace HRX := Lib.hid (HRX.out.next hb)
  replace HRY := Lib.hid (HRY.out.next hb)
  replace HRZ := Lib.hid (HRZ.out.next hb)
  replace HGO := Lib.hid (HGO.out.next hb)
  clear hb
  go_wp2_with fail
  refine (HG.out _ (HT.out.next HB.out)).mono ?_
  rintro e u ⟨rfl, hb⟩
  replace HB := Lib.hid (after HB.out hb)
  replace HRX := Lib.hid (HRX.out.next hb)
  replace HRY := Lib.hid (HRY.out.next hb)
  replace HRZ := Lib.hid (HRZ.out.next hb)
  replace HGO := Lib.hid (HGO.out.next hb)
  clear hb
  go_wp2
  go_ret
  exact retB_bool rfl HB.out
set_option maxRecDepth 100000 in
set_option maxHeartbeats 2000000 in
theorem oBk_0_high (w : World) (a : Option Addr) (n c : Nat) (L : List Ms) (a2 : Option Addr) (n2 c2 : Nat) (l : List Sy) (hn : n ≤ maxLen) (hn2 : n2 ≤ maxLen) (hs : SL msC 6 w w.heap.size a n L) (hno : Notes w w.heap.size L) (hg : ∀ m ∈ L, GoodSc m.sc) (hs2 : SL syC 4 w w.heap.size a2 n2 l) (hg2 : ∀ s ∈ l, GoodSy s) (M : ByteArray) (hM : M.size ≤ reachBytes) (k : Int) (hk : -9223372036854775808 ≤ k ∧ k ≤ 9223372036854775807) (hT : TabP w) (hq : isO ⟨L.map (·.sc), l⟩ = true) (hm : M.data.toList = []) (hk0 : ¬ k < 0) (hk1 : ((bA (putO ⟨L.map (·.sc), l⟩)).size : Int) ≤ k) : Calls Tryz.prog 4 #[.agg #[.slice a n c, .slice a2 n2 c2], .string M, .int .i64 k] w (RetB (.bool true) w) := by
  have HBg : Hid (∀ u, Below w.heap.size w u → Calls Tryz.prog 15 #[.agg #[.slice a n c, .slice a2 n2 c2]] u (SomeB u)) := Lib.hid fun u hu => rOBig_any a n c L a2 n2 c2 l hn hn2 u (hs.next hu) (hs2.next hu)
  have HP : Hid (∀ u, Below w.heap.size w u → Calls Tryz.prog 17 #[.agg #[.slice a n c, .slice a2 n2 c2]] u (RetB (.tuple #[.string (bA (putR ⟨L.map (·.sc), l⟩).1), .int .i64 (putR ⟨L.map (·.sc), l⟩).2]) u)) := Lib.hid fun u hu => oPut_any a n c L a2 n2 c2 l hn hn2 u (hs.next hu) (hno.next hu) hg (hs2.next hu) hg2 (hT.next hu)
  have HIs : Hid (∀ u, Below w.heap.size w u → Calls Tryz.prog 24 #[.agg #[.slice a n c, .slice a2 n2 c2]] u (RetB (.bool (isO ⟨L.map (·.sc), l⟩)) u)) := Lib.hid fun u hu => oIs_any a n c L a2 n2 c2 l hn hn2 u (hs.next hu) (hno.next hu) hg (hs2.next hu) hg2 (hT.next hu)
  have HG := Lib.hid (fun u (hu : TabP u) => held_is u hu)
  have HT := Lib.hid hT
  have HB : Hid (Below w.heap.size w w) := Lib.hid (Below.refl _ w)
  have hgo1 : ∀ s ∈ (⟨L.map (·.sc), l⟩ : Ob).secs, GoodSc s := fun s hs => by obtain ⟨m, hm, rfl⟩ := List.mem_map.1 hs; exact hg m hm
  obtain ⟨S, hS⟩ : ∃ S, S = bA (putO ⟨L.map (·.sc), l⟩) := ⟨_, rfl⟩
  have hSs : S.size ≤ 300000 := by rw [hS, bA_size]; exact putO_le hq hgo1
  have hSi : (S.size : Int) ≤ 300000 := by omega
  have hMi : (M.size : Int) ≤ 140737488351232 := by unfold reachBytes at hM; omega
  have hSm : S.size ≤ maxLen := by unfold maxLen; omega
  rw [show putR ⟨L.map (·.sc), l⟩ = (putO ⟨L.map (·.sc), l⟩, 0) from by unfold putR; rw [if_pos hq]] at HP
  simp only at HP
  rw [← hS] at HP
  have hle : ∀ m ∈ L, m.sc.rels.length ≤ 1000000 := fun m hm => by
    have := ((is_ok hq).2.2.1 m.sc (List.mem_map_of_mem hm)).rels
    omega
  have hLl : L.length ≤ 32 ∧ l.length ≤ 128 := by
    obtain ⟨h1, h2, -, -⟩ := is_ok hq
    simp only [List.length_map] at h1
    exact ⟨h1, h2⟩
  have HGt1 : Hid (∀ u, TabP u → Calls Tryz.prog 19 #[.string S] u (GetL (L.map (·.sc)) l u)) := Lib.hid fun u hu => by
    have := Get_y (D := S) (by rw [hS]; exact getO_back hq hgo1) hSm u hu
    exact this
  have HSm : Hid (∀ u (L' : List Ms) (a' : Option Addr) (c' : Nat) (ax : Option Addr) (cx B : Nat), Below w.heap.size w u → GO u B L' a' c' l ax cx → L'.map (·.sc) = L.map (·.sc) → Calls Tryz.prog 26 #[.agg #[.slice a' L'.length c', .slice ax l.length cx], .agg #[.slice a n c, .slice a2 n2 c2]] u (RetB (.bool true) u)) := Lib.hid fun u L' a' c' ax cx B hu hG hL => by
    have hl' : L'.length ≤ 32 := by have := congrArg List.length hL; rw [List.length_map, List.length_map] at this; omega
    have hle' : ∀ m ∈ L', m.sc.rels.length ≤ 1000000 := fun m hm => by
      have h1 : m.sc ∈ L'.map (·.sc) := List.mem_map.2 ⟨m, hm, rfl⟩
      rw [hL] at h1
      obtain ⟨m2, hm2, he⟩ := List.mem_map.1 h1
      rw [← he]; exact hle m2 hm2
    refine (rOSameB a' ax a a2 L'.length c' l.length cx n c n2 c2 (L'.map (·.sc) = L.map (·.sc) ∧ l = l) u (fun v hv => rOSame_any a' ax a a2 L'.length c' l.length cx n c n2 c2 L' L l l v (by unfold maxLen; omega) (by unfold maxLen; omega) hn hn2 (hG.secs.next hv) (hG.syms.next hv) ((hs.next hu).next hv) ((hs2.next hu).next hv) (hG.notes.next hv) ((hno.next hu).next hv) hle' hle)).mono ?_
    rintro e v ⟨r, rfl, hr, hb⟩
    exact ⟨by rw [hr.2 ⟨hL, rfl⟩], hb⟩
  have hMe : M = ⟨#[]⟩ := by rw [← bA_of M, hm]
  have HGt2 : Hid (∀ u, TabP u → Calls Tryz.prog 19 #[.string (S ++ M)] u (GetE 0 u)) := Lib.hid fun u hu => by
    have e1 : S ++ M = S := by rw [hS, ba_app, hm, List.append_nil]
    rw [e1]
    exact (HGt1.out u hu).mono fun e w' h => h.e
  have e1 : (M.toList == []) = true := by rw [Lib.toList_data, hm]; rfl
  have e2 : M.toList.isEmpty = true := by rw [Lib.toList_data, hm]; rfl
  have e3 : (M.toList != []) = false := by rw [bne, e1]; rfl
  have e4 : M.toList = [] := by rw [Lib.toList_data, hm]
  clear hMe
  rw [← hS] at hk1
  clear hq hm hk hgo1 hS hSs hSm hle hLl HIs
  clear hs hno hg hs2 hg2 hT hn hn2 hM
  go_enter Tryz.func4, Tryz.ntmps4
  obtain ⟨X, hX⟩ : ∃ X, X = w.heap.size := ⟨_, rfl⟩
  have HEX := Lib.hid hX
  have HA : Hid (Below w.heap.size w (w.alloc (.cells #[.slice a n c, .slice a2 n2 c2] 25))) := Lib.hid ((Below.refl _ w).alloc (Nat.le_refl _) _)
  have HRX : Hid (RB (w.alloc (.cells #[.slice a n c, .slice a2 n2 c2] 25)) X #[.slice a n c, .slice a2 n2 c2] 25) := Lib.hid (by rw [hX]; exact (MapKept.heap_alloc w _).1)
  clear hX
  go_wp2_with fail
  try rw [← HEX.out]
  generalize (w.alloc (.cells #[.slice a n c, .slice a2 n2 c2] 25)) = W at HA HRX ⊢
  replace HB : Hid (Below w.heap.size w W) := Lib.hid (after HB.out HA.out)
  clear HA HEX
  refine (HBg.out _ HB.out).mono ?_
  rintro e u ⟨r, rfl, hb⟩
  replace HB := Lib.hid (after HB.out hb)
  replace HRX := Lib.hid (HRX.out.next hb)
  clear hb
  cases r
  rotate_left
  · go_wp2
    go_ret
    exact retB_bool rfl HB.out
  by_cases h100 : (1000 : Int) < (M.size : Int)
  · go_wp2
    go_ret
    exact retB_bool rfl HB.out
  have x_0 : u.cell? ⟨X, 0, none⟩ = some (.slice a n c) := HRX.out.cell
  have x_1 : u.cell? ⟨X, 1, none⟩ = some (.slice a2 n2 c2) := HRX.out.cell
  go_wp2_with fail
  clear x_0 x_1
  refine (HP.out _ HB.out).mono ?_
  rintro e u ⟨rfl, hb⟩
  replace HB := Lib.hid (after HB.out hb)
  replace HRX := Lib.hid (HRX.out.next hb)
  clear hb
  go_wp2_with fail
  refine (HGt1.out _ (HT.out.next HB.out)).mono ?_
  rintro e u ⟨L', a', c', ax, cx, B0, hL, rfl, hgo, hb⟩
  replace HB := Lib.hid (after HB.out hb)
  replace HRX := Lib.hid (HRX.out.next hb)
  have HGO := Lib.hid hgo
  have HL := Lib.hid hL
  clear hb hgo hL
  obtain ⟨Y, hY⟩ : ∃ Y, Y = u.heap.size := ⟨_, rfl⟩
  have HEY := Lib.hid hY
  have HA : Hid (Below u.heap.size u (u.alloc (.cells #[.slice a' L'.length c', .slice ax l.length cx] 25))) := Lib.hid ((Below.refl _ u).alloc (Nat.le_refl _) _)
  have HRY : Hid (RB (u.alloc (.cells #[.slice a' L'.length c', .slice ax l.length cx] 25)) Y #[.slice a' L'.length c', .slice ax l.length cx] 25) := Lib.hid (by rw [hY]; exact (MapKept.heap_alloc u _).1)
  clear hY
  replace HRX := Lib.hid (HRX.out.next HA.out)
  replace HGO := Lib.hid (HGO.out.next HA.out)
  go_wp2_with fail
  try rw [← HEY.out]
  generalize (u.alloc (.cells #[.slice a' L'.length c', .slice ax l.length cx] 25)) = W at HA HRX HRY HGO ⊢
  replace HB : Hid (Below w.heap.size w W) := Lib.hid (after HB.out HA.out)
  clear HA HEY
  refine (HGt2.out _ (HT.out.next HB.out)).mono ?_
  rintro e u ⟨a0, a1, n0, c0, n1, c1, rfl, hb⟩
  replace HB := Lib.hid (after HB.out hb)
  replace HRX := Lib.hid (HRX.out.next hb)
  replace HRY := Lib.hid (HRY.out.next hb)
  replace HGO := Lib.hid (HGO.out.next hb)
  clear hb
  obtain ⟨Z, hZ⟩ : ∃ Z, Z = u.heap.size := ⟨_, rfl⟩
  have HEZ := Lib.hid hZ
  have HA : Hid (Below u.heap.size u (u.alloc (.cells #[.slice a0 n0 c0, .slice a1 n1 c1] 25))) := Lib.hid ((Below.refl _ u).alloc (Nat.le_refl _) _)
  have HRZ : Hid (RB (u.alloc (.cells #[.slice a0 n0 c0, .slice a1 n1 c1] 25)) Z #[.slice a0 n0 c0, .slice a1 n1 c1] 25) := Lib.hid (by rw [hZ]; exact (MapKept.heap_alloc u _).1)
  clear hZ
  replace HRX := Lib.hid (HRX.out.next HA.out)
  replace HRY := Lib.hid (HRY.out.next HA.out)
  replace HGO := Lib.hid (HGO.out.next HA.out)
  have x_0 : (u.alloc (.cells #[.slice a0 n0 c0, .slice a1 n1 c1] 25)).cell? ⟨X, 0, none⟩ = some (.slice a n c) := HRX.out.cell
  have x_1 : (u.alloc (.cells #[.slice a0 n0 c0, .slice a1 n1 c1] 25)).cell? ⟨X, 1, none⟩ = some (.slice a2 n2 c2) := HRX.out.cell
  have y_0 : (u.alloc (.cells #[.slice a0 n0 c0, .slice a1 n1 c1] 25)).cell? ⟨Y, 0, none⟩ = some (.slice a' L'.length c') := HRY.out.cell
  have y_1 : (u.alloc (.cells #[.slice a0 n0 c0, .slice a1 n1 c1] 25)).cell? ⟨Y, 1, none⟩ = some (.slice ax l.length cx) := HRY.out.cell
  go_wp2_with fail
  clear x_0 x_1 y_0 y_1
  try rw [← HEZ.out]
  generalize (u.alloc (.cells #[.slice a0 n0 c0, .slice a1 n1 c1] 25)) = W at HA HRX HRY HRZ HGO ⊢
  replace HB : Hid (Below w.heap.size w W) := Lib.hid (after HB.out HA.out)
  clear HA HEZ
  refine (HSm.out _ _ _ _ _ _ _ HB.out HGO.out HL.out).mono ?_
  rintro e u ⟨rfl, hb⟩
  replace HB := Lib.hid (after HB.out hb)
  replace HRX := Lib.hid (HRX.out.next hb)
  replace HRY := Lib.hid (HRY.out.next hb)
  replace HRZ := Lib.hid (HRZ.out.next hb)
  replace HGO := Lib.hid (HGO.out.next hb)
  clear hb
  go_wp2_with fail
  refine (HG.out _ (HT.out.next HB.out)).mono ?_
  rintro e u ⟨rfl, hb⟩
  replace HB := Lib.hid (after HB.out hb)
  replace HRX := Lib.hid (HRX.out.next hb)
  replace HRY := Lib.hid (HRY.out.next hb)
  replace HRZ := Lib.hid (HRZ.out.next hb)
  replace HGO := Lib.hid (HGO.out.next hb)
  clear hb
  go_wp2
  go_ret
  exact retB_bool rfl HB.out
set_option maxRecDepth 100000 in
set_option maxHeartbeats 2000000 in
theorem oBk_0_in (w : World) (a : Option Addr) (n c : Nat) (L : List Ms) (a2 : Option Addr) (n2 c2 : Nat) (l : List Sy) (hn : n ≤ maxLen) (hn2 : n2 ≤ maxLen) (hs : SL msC 6 w w.heap.size a n L) (hno : Notes w w.heap.size L) (hg : ∀ m ∈ L, GoodSc m.sc) (hs2 : SL syC 4 w w.heap.size a2 n2 l) (hg2 : ∀ s ∈ l, GoodSy s) (M : ByteArray) (hM : M.size ≤ reachBytes) (k : Int) (hk : -9223372036854775808 ≤ k ∧ k ≤ 9223372036854775807) (hT : TabP w) (hq : isO ⟨L.map (·.sc), l⟩ = true) (hm : M.data.toList = []) (q : Nat) (hkq : k = (q : Int)) (hk1 : q < (bA (putO ⟨L.map (·.sc), l⟩)).size) : Calls Tryz.prog 4 #[.agg #[.slice a n c, .slice a2 n2 c2], .string M, .int .i64 k] w (RetB (.bool true) w) := by
  have HBg : Hid (∀ u, Below w.heap.size w u → Calls Tryz.prog 15 #[.agg #[.slice a n c, .slice a2 n2 c2]] u (SomeB u)) := Lib.hid fun u hu => rOBig_any a n c L a2 n2 c2 l hn hn2 u (hs.next hu) (hs2.next hu)
  have HP : Hid (∀ u, Below w.heap.size w u → Calls Tryz.prog 17 #[.agg #[.slice a n c, .slice a2 n2 c2]] u (RetB (.tuple #[.string (bA (putR ⟨L.map (·.sc), l⟩).1), .int .i64 (putR ⟨L.map (·.sc), l⟩).2]) u)) := Lib.hid fun u hu => oPut_any a n c L a2 n2 c2 l hn hn2 u (hs.next hu) (hno.next hu) hg (hs2.next hu) hg2 (hT.next hu)
  have HIs : Hid (∀ u, Below w.heap.size w u → Calls Tryz.prog 24 #[.agg #[.slice a n c, .slice a2 n2 c2]] u (RetB (.bool (isO ⟨L.map (·.sc), l⟩)) u)) := Lib.hid fun u hu => oIs_any a n c L a2 n2 c2 l hn hn2 u (hs.next hu) (hno.next hu) hg (hs2.next hu) hg2 (hT.next hu)
  have HG := Lib.hid (fun u (hu : TabP u) => held_is u hu)
  have HT := Lib.hid hT
  have HB : Hid (Below w.heap.size w w) := Lib.hid (Below.refl _ w)
  have hgo1 : ∀ s ∈ (⟨L.map (·.sc), l⟩ : Ob).secs, GoodSc s := fun s hs => by obtain ⟨m, hm, rfl⟩ := List.mem_map.1 hs; exact hg m hm
  obtain ⟨S, hS⟩ : ∃ S, S = bA (putO ⟨L.map (·.sc), l⟩) := ⟨_, rfl⟩
  have hSs : S.size ≤ 300000 := by rw [hS, bA_size]; exact putO_le hq hgo1
  have hSi : (S.size : Int) ≤ 300000 := by omega
  have hMi : (M.size : Int) ≤ 140737488351232 := by unfold reachBytes at hM; omega
  have hSm : S.size ≤ maxLen := by unfold maxLen; omega
  rw [show putR ⟨L.map (·.sc), l⟩ = (putO ⟨L.map (·.sc), l⟩, 0) from by unfold putR; rw [if_pos hq]] at HP
  simp only at HP
  rw [← hS] at HP
  have hle : ∀ m ∈ L, m.sc.rels.length ≤ 1000000 := fun m hm => by
    have := ((is_ok hq).2.2.1 m.sc (List.mem_map_of_mem hm)).rels
    omega
  have hLl : L.length ≤ 32 ∧ l.length ≤ 128 := by
    obtain ⟨h1, h2, -, -⟩ := is_ok hq
    simp only [List.length_map] at h1
    exact ⟨h1, h2⟩
  have HGt1 : Hid (∀ u, TabP u → Calls Tryz.prog 19 #[.string S] u (GetL (L.map (·.sc)) l u)) := Lib.hid fun u hu => by
    have := Get_y (D := S) (by rw [hS]; exact getO_back hq hgo1) hSm u hu
    exact this
  have HSm : Hid (∀ u (L' : List Ms) (a' : Option Addr) (c' : Nat) (ax : Option Addr) (cx B : Nat), Below w.heap.size w u → GO u B L' a' c' l ax cx → L'.map (·.sc) = L.map (·.sc) → Calls Tryz.prog 26 #[.agg #[.slice a' L'.length c', .slice ax l.length cx], .agg #[.slice a n c, .slice a2 n2 c2]] u (RetB (.bool true) u)) := Lib.hid fun u L' a' c' ax cx B hu hG hL => by
    have hl' : L'.length ≤ 32 := by have := congrArg List.length hL; rw [List.length_map, List.length_map] at this; omega
    have hle' : ∀ m ∈ L', m.sc.rels.length ≤ 1000000 := fun m hm => by
      have h1 : m.sc ∈ L'.map (·.sc) := List.mem_map.2 ⟨m, hm, rfl⟩
      rw [hL] at h1
      obtain ⟨m2, hm2, he⟩ := List.mem_map.1 h1
      rw [← he]; exact hle m2 hm2
    refine (rOSameB a' ax a a2 L'.length c' l.length cx n c n2 c2 (L'.map (·.sc) = L.map (·.sc) ∧ l = l) u (fun v hv => rOSame_any a' ax a a2 L'.length c' l.length cx n c n2 c2 L' L l l v (by unfold maxLen; omega) (by unfold maxLen; omega) hn hn2 (hG.secs.next hv) (hG.syms.next hv) ((hs.next hu).next hv) ((hs2.next hu).next hv) (hG.notes.next hv) ((hno.next hu).next hv) hle' hle)).mono ?_
    rintro e v ⟨r, rfl, hr, hb⟩
    exact ⟨by rw [hr.2 ⟨hL, rfl⟩], hb⟩
  have hMe : M = ⟨#[]⟩ := by rw [← bA_of M, hm]
  have HGt2 : Hid (∀ u, TabP u → Calls Tryz.prog 19 #[.string (S ++ M)] u (GetE 0 u)) := Lib.hid fun u hu => by
    have e1 : S ++ M = S := by rw [hS, ba_app, hm, List.append_nil]
    rw [e1]
    exact (HGt1.out u hu).mono fun e w' h => h.e
  have e1 : (M.toList == []) = true := by rw [Lib.toList_data, hm]; rfl
  have e2 : M.toList.isEmpty = true := by rw [Lib.toList_data, hm]; rfl
  have e3 : (M.toList != []) = false := by rw [bne, e1]; rfl
  have e4 : M.toList = [] := by rw [Lib.toList_data, hm]
  clear hMe
  subst hkq
  have HGt3 : Hid (∀ u, TabP u → Calls Tryz.prog 19 #[.string (S.extract 0 q)] u (GetN u)) := Lib.hid fun u hu => by
    have e1 : getO (S.extract 0 q) = none := by rw [hS, ba_take]; exact getO_less hq hgo1 (by rw [bA_size] at hk1; exact hk1)
    exact Get_n e1 (by rw [ByteArray.size_extract]; unfold maxLen; omega) u hu
  rw [← hS] at hk1
  have hk2 : (q : Int) < (S.size : Int) := by omega
  have hk3 : ¬ (S.size : Int) ≤ (q : Int) := by omega
  have hk4 : ¬ (q : Int) < 0 := by omega
  have hk5 : q ≤ S.size := by omega
  clear hk1
  clear hq hm hk hgo1 hS hSs hSm hle hLl HIs
  clear hs hno hg hs2 hg2 hT hn hn2 hM
  go_enter Tryz.func4, Tryz.ntmps4
  obtain ⟨X, hX⟩ : ∃ X, X = w.heap.size := ⟨_, rfl⟩
  have HEX := Lib.hid hX
  have HA : Hid (Below w.heap.size w (w.alloc (.cells #[.slice a n c, .slice a2 n2 c2] 25))) := Lib.hid ((Below.refl _ w).alloc (Nat.le_refl _) _)
  have HRX : Hid (RB (w.alloc (.cells #[.slice a n c, .slice a2 n2 c2] 25)) X #[.slice a n c, .slice a2 n2 c2] 25) := Lib.hid (by rw [hX]; exact (MapKept.heap_alloc w _).1)
  clear hX
  go_wp2_with fail
  try rw [← HEX.out]
  generalize (w.alloc (.cells #[.slice a n c, .slice a2 n2 c2] 25)) = W at HA HRX ⊢
  replace HB : Hid (Below w.heap.size w W) := Lib.hid (after HB.out HA.out)
  clear HA HEX
  refine (HBg.out _ HB.out).mono ?_
  rintro e u ⟨r, rfl, hb⟩
  replace HB := Lib.hid (after HB.out hb)
  replace HRX := Lib.hid (HRX.out.next hb)
  clear hb
  cases r
  rotate_left
  · go_wp2
    go_ret
    exact retB_bool rfl HB.out
  by_cases h100 : (1000 : Int) < (M.size : Int)
  · go_wp2
    go_ret
    exact retB_bool rfl HB.out
  have x_0 : u.cell? ⟨X, 0, none⟩ = some (.slice a n c) := HRX.out.cell
  have x_1 : u.cell? ⟨X, 1, none⟩ = some (.slice a2 n2 c2) := HRX.out.cell
  go_wp2_with fail
  clear x_0 x_1
  refine (HP.out _ HB.out).mono ?_
  rintro e u ⟨rfl, hb⟩
  replace HB := Lib.hid (after HB.out hb)
  replace HRX := Lib.hid (HRX.out.next hb)
  clear hb
  go_wp2_with fail
  refine (HGt1.out _ (HT.out.next HB.out)).mono ?_
  rintro e u ⟨L', a', c', ax, cx, B0, hL, rfl, hgo, hb⟩
  replace HB := Lib.hid (after HB.out hb)
  replace HRX := Lib.hid (HRX.out.next hb)
  have HGO := Lib.hid hgo
  have HL := Lib.hid hL
  clear hb hgo hL
  obtain ⟨Y, hY⟩ : ∃ Y, Y = u.heap.size := ⟨_, rfl⟩
  have HEY := Lib.hid hY
  have HA : Hid (Below u.heap.size u (u.alloc (.cells #[.slice a' L'.length c', .slice ax l.length cx] 25))) := Lib.hid ((Below.refl _ u).alloc (Nat.le_refl _) _)
  have HRY : Hid (RB (u.alloc (.cells #[.slice a' L'.length c', .slice ax l.length cx] 25)) Y #[.slice a' L'.length c', .slice ax l.length cx] 25) := Lib.hid (by rw [hY]; exact (MapKept.heap_alloc u _).1)
  clear hY
  replace HRX := Lib.hid (HRX.out.next HA.out)
  replace HGO := Lib.hid (HGO.out.next HA.out)
  go_wp2_with fail
  try rw [← HEY.out]
  generalize (u.alloc (.cells #[.slice a' L'.length c', .slice ax l.length cx] 25)) = W at HA HRX HRY HGO ⊢
  replace HB : Hid (Below w.heap.size w W) := Lib.hid (after HB.out HA.out)
  clear HA HEY
  refine (HGt2.out _ (HT.out.next HB.out)).mono ?_
  rintro e u ⟨a0, a1, n0, c0, n1, c1, rfl, hb⟩
  replace HB := Lib.hid (after HB.out hb)
  replace HRX := Lib.hid (HRX.out.next hb)
  replace HRY := Lib.hid (HRY.out.next hb)
  replace HGO := Lib.hid (HGO.out.next hb)
  clear hb
  obtain ⟨Z, hZ⟩ : ∃ Z, Z = u.heap.size := ⟨_, rfl⟩
  have HEZ := Lib.hid hZ
  have HA : Hid (Below u.heap.size u (u.alloc (.cells #[.slice a0 n0 c0, .slice a1 n1 c1] 25))) := Lib.hid ((Below.refl _ u).alloc (Nat.le_refl _) _)
  have HRZ : Hid (RB (u.alloc (.cells #[.slice a0 n0 c0, .slice a1 n1 c1] 25)) Z #[.slice a0 n0 c0, .slice a1 n1 c1] 25) := Lib.hid (by rw [hZ]; exact (MapKept.heap_alloc u _).1)
  clear hZ
  replace HRX := Lib.hid (HRX.out.next HA.out)
  replace HRY := Lib.hid (HRY.out.next HA.out)
  replace HGO := Lib.hid (HGO.out.next HA.out)
  have x_0 : (u.alloc (.cells #[.slice a0 n0 c0, .slice a1 n1 c1] 25)).cell? ⟨X, 0, none⟩ = some (.slice a n c) := HRX.out.cell
  have x_1 : (u.alloc (.cells #[.slice a0 n0 c0, .slice a1 n1 c1] 25)).cell? ⟨X, 1, none⟩ = some (.slice a2 n2 c2) := HRX.out.cell
  have y_0 : (u.alloc (.cells #[.slice a0 n0 c0, .slice a1 n1 c1] 25)).cell? ⟨Y, 0, none⟩ = some (.slice a' L'.length c') := HRY.out.cell
  have y_1 : (u.alloc (.cells #[.slice a0 n0 c0, .slice a1 n1 c1] 25)).cell? ⟨Y, 1, none⟩ = some (.slice ax l.length cx) := HRY.out.cell
  go_wp2_with fail
  clear x_0 x_1 y_0 y_1
  try rw [← HEZ.out]
  generalize (u.alloc (.cells #[.slice a0 n0 c0, .slice a1 n1 c1] 25)) = W at HA HRX HRY HRZ HGO ⊢
  replace HB : Hid (Below w.heap.size w W) := Lib.hid (after HB.out HA.out)
  clear HA HEZ
  refine (HSm.out _ _ _ _ _ _ _ HB.out HGO.out HL.out).mono ?_
  rintro e u ⟨rfl, hb⟩
  replace HB := Lib.hid (after HB.out hb)
  replace HRX := Lib.hid (HRX.out.next hb)
  replace HRY := Lib.hid (HRY.out.next hb)
  replace HRZ := Lib.hid (HRZ.out.next hb)
  replace HGO := Lib.hid (HGO.out.next hb)
  clear hb
  go_wp2_with fail
  refine (HGt3.out _ (HT.out.next HB.out)).mono ?_
  rintro e u ⟨rfl, hb⟩
  replace HB := Lib.hid (after HB.out hb)
  replace HRX := Lib.hid (HRX.out.next hb)
  replace HRY := Lib.hid (HRY.out.next hb)
  replace HRZ := Lib.hid (HRZ.out.next hb)
  replace HGO := Lib.hid (HGO.out.next hb)
  clear hb
  obtain ⟨V, hV⟩ : ∃ V, V = u.heap.size := ⟨_, rfl⟩
  have HEV := Lib.hid hV
  have HA : Hid (Below u.heap.size u (u.alloc (.cells #[.slice none 0 0, .slice none 0 0] 25))) := Lib.hid ((Below.refl _ u).alloc (Nat.le_refl _) _)
  have HRV : Hid (RB (u.alloc (.cells #[.slice none 0 0, .slice none 0 0] 25)) V #[.slice none 0 0, .slice none 0 0] 25) := Lib.hid (by rw [hV]; exact (MapKept.heap_alloc u _).1)
  clear hV
  replace HRX := Lib.hid (HRX.out.next HA.out)
  replace HRY := Lib.hid (HRY.out.next HA.out)
  replace HRZ := Lib.hid (HRZ.out.next HA.out)
  replace HGO := Lib.hid (HGO.out.next HA.out)
  go_wp2_with fail
  try rw [← HEV.out]
  generalize (u.alloc (.cells #[.slice none 0 0, .slice none 0 0] 25)) = W at HA HRX HRY HRZ HRV HGO ⊢
  replace HB : Hid (Below w.heap.size w W) := Lib.hid (after HB.out HA.out)
  clear HA HEV
  refine (HG.out _ (HT.out.next HB.out)).mono ?_
  rintro e u ⟨rfl, hb⟩
  replace HB := Lib.hid (after HB.out hb)
  replace HRX := Lib.hid (HRX.out.next hb)
  replace HRY := Lib.hid (HRY.out.next hb)
  replace HRZ := Lib.hid (HRZ.out.next hb)
  replace HRV := Lib.hid (HRV.out.next hb)
  replace HGO := Lib.hid (HGO.out.next hb)
  clear hb
  go_wp2
  go_ret
  exact retB_bool rfl HB.out
set_option maxRecDepth 100000 in
set_option maxHeartbeats 2000000 in
theorem oBk_3_low (w : World) (a : Option Addr) (n c : Nat) (L : List Ms) (a2 : Option Addr) (n2 c2 : Nat) (l : List Sy) (hn : n ≤ maxLen) (hn2 : n2 ≤ maxLen) (hs : SL msC 6 w w.heap.size a n L) (hno : Notes w w.heap.size L) (hg : ∀ m ∈ L, GoodSc m.sc) (hs2 : SL syC 4 w w.heap.size a2 n2 l) (hg2 : ∀ s ∈ l, GoodSy s) (M : ByteArray) (hM : M.size ≤ reachBytes) (k : Int) (hk : -9223372036854775808 ≤ k ∧ k ≤ 9223372036854775807) (hT : TabP w) (hq : isO ⟨L.map (·.sc), l⟩ = true) (hm : M.data.toList ≠ []) (hk0 : k < 0) : Calls Tryz.prog 4 #[.agg #[.slice a n c, .slice a2 n2 c2], .string M, .int .i64 k] w (RetB (.bool true) w) := by
  have HBg : Hid (∀ u, Below w.heap.size w u → Calls Tryz.prog 15 #[.agg #[.slice a n c, .slice a2 n2 c2]] u (SomeB u)) := Lib.hid fun u hu => rOBig_any a n c L a2 n2 c2 l hn hn2 u (hs.next hu) (hs2.next hu)
  have HP : Hid (∀ u, Below w.heap.size w u → Calls Tryz.prog 17 #[.agg #[.slice a n c, .slice a2 n2 c2]] u (RetB (.tuple #[.string (bA (putR ⟨L.map (·.sc), l⟩).1), .int .i64 (putR ⟨L.map (·.sc), l⟩).2]) u)) := Lib.hid fun u hu => oPut_any a n c L a2 n2 c2 l hn hn2 u (hs.next hu) (hno.next hu) hg (hs2.next hu) hg2 (hT.next hu)
  have HIs : Hid (∀ u, Below w.heap.size w u → Calls Tryz.prog 24 #[.agg #[.slice a n c, .slice a2 n2 c2]] u (RetB (.bool (isO ⟨L.map (·.sc), l⟩)) u)) := Lib.hid fun u hu => oIs_any a n c L a2 n2 c2 l hn hn2 u (hs.next hu) (hno.next hu) hg (hs2.next hu) hg2 (hT.next hu)
  have HG := Lib.hid (fun u (hu : TabP u) => held_is u hu)
  have HT := Lib.hid hT
  have HB : Hid (Below w.heap.size w w) := Lib.hid (Below.refl _ w)
  have hgo1 : ∀ s ∈ (⟨L.map (·.sc), l⟩ : Ob).secs, GoodSc s := fun s hs => by obtain ⟨m, hm, rfl⟩ := List.mem_map.1 hs; exact hg m hm
  obtain ⟨S, hS⟩ : ∃ S, S = bA (putO ⟨L.map (·.sc), l⟩) := ⟨_, rfl⟩
  have hSs : S.size ≤ 300000 := by rw [hS, bA_size]; exact putO_le hq hgo1
  have hSi : (S.size : Int) ≤ 300000 := by omega
  have hMi : (M.size : Int) ≤ 140737488351232 := by unfold reachBytes at hM; omega
  have hSm : S.size ≤ maxLen := by unfold maxLen; omega
  rw [show putR ⟨L.map (·.sc), l⟩ = (putO ⟨L.map (·.sc), l⟩, 0) from by unfold putR; rw [if_pos hq]] at HP
  simp only at HP
  rw [← hS] at HP
  have hle : ∀ m ∈ L, m.sc.rels.length ≤ 1000000 := fun m hm => by
    have := ((is_ok hq).2.2.1 m.sc (List.mem_map_of_mem hm)).rels
    omega
  have hLl : L.length ≤ 32 ∧ l.length ≤ 128 := by
    obtain ⟨h1, h2, -, -⟩ := is_ok hq
    simp only [List.length_map] at h1
    exact ⟨h1, h2⟩
  have HGt1 : Hid (∀ u, TabP u → Calls Tryz.prog 19 #[.string S] u (GetL (L.map (·.sc)) l u)) := Lib.hid fun u hu => by
    have := Get_y (D := S) (by rw [hS]; exact getO_back hq hgo1) hSm u hu
    exact this
  have HSm : Hid (∀ u (L' : List Ms) (a' : Option Addr) (c' : Nat) (ax : Option Addr) (cx B : Nat), Below w.heap.size w u → GO u B L' a' c' l ax cx → L'.map (·.sc) = L.map (·.sc) → Calls Tryz.prog 26 #[.agg #[.slice a' L'.length c', .slice ax l.length cx], .agg #[.slice a n c, .slice a2 n2 c2]] u (RetB (.bool true) u)) := Lib.hid fun u L' a' c' ax cx B hu hG hL => by
    have hl' : L'.length ≤ 32 := by have := congrArg List.length hL; rw [List.length_map, List.length_map] at this; omega
    have hle' : ∀ m ∈ L', m.sc.rels.length ≤ 1000000 := fun m hm => by
      have h1 : m.sc ∈ L'.map (·.sc) := List.mem_map.2 ⟨m, hm, rfl⟩
      rw [hL] at h1
      obtain ⟨m2, hm2, he⟩ := List.mem_map.1 h1
      rw [← he]; exact hle m2 hm2
    refine (rOSameB a' ax a a2 L'.length c' l.length cx n c n2 c2 (L'.map (·.sc) = L.map (·.sc) ∧ l = l) u (fun v hv => rOSame_any a' ax a a2 L'.length c' l.length cx n c n2 c2 L' L l l v (by unfold maxLen; omega) (by unfold maxLen; omega) hn hn2 (hG.secs.next hv) (hG.syms.next hv) ((hs.next hu).next hv) ((hs2.next hu).next hv) (hG.notes.next hv) ((hno.next hu).next hv) hle' hle)).mono ?_
    rintro e v ⟨r, rfl, hr, hb⟩
    exact ⟨by rw [hr.2 ⟨hL, rfl⟩], hb⟩
  have HGt2 : Hid (∀ u, TabP u → Calls Tryz.prog 19 #[.string (S ++ M)] u (GetE 3 u)) := Lib.hid fun u hu => by
    have hz : (S ++ M).size ≤ maxLen := by rw [ByteArray.size_append]; unfold maxLen; omega
    have e1 : getO (S ++ M) = none := by rw [hS, ba_app]; exact getO_more hq hgo1 hm
    exact (Get_n e1 hz u hu).mono fun e w' h => h.e
  have e1 : (M.toList == []) = false := by rw [Lib.toList_data]; simpa using hm
  have e2 : M.toList.isEmpty = false := by rw [Lib.toList_data]; simpa using hm
  have e3 : (M.toList != []) = true := by rw [bne, e1]; rfl
  have e4 : ¬ M.toList = [] := by rw [Lib.toList_data]; exact hm
  clear hq hm hk hgo1 hS hSs hSm hle hLl HIs
  clear hs hno hg hs2 hg2 hT hn hn2 hM
  go_enter Tryz.func4, Tryz.ntmps4
  obtain ⟨X, hX⟩ : ∃ X, X = w.heap.size := ⟨_, rfl⟩
  have HEX := Lib.hid hX
  have HA : Hid (Below w.heap.size w (w.alloc (.cells #[.slice a n c, .slice a2 n2 c2] 25))) := Lib.hid ((Below.refl _ w).alloc (Nat.le_refl _) _)
  have HRX : Hid (RB (w.alloc (.cells #[.slice a n c, .slice a2 n2 c2] 25)) X #[.slice a n c, .slice a2 n2 c2] 25) := Lib.hid (by rw [hX]; exact (MapKept.heap_alloc w _).1)
  clear hX
  go_wp2_with fail
  try rw [← HEX.out]
  generalize (w.alloc (.cells #[.slice a n c, .slice a2 n2 c2] 25)) = W at HA HRX ⊢
  replace HB : Hid (Below w.heap.size w W) := Lib.hid (after HB.out HA.out)
  clear HA HEX
  refine (HBg.out _ HB.out).mono ?_
  rintro e u ⟨r, rfl, hb⟩
  replace HB := Lib.hid (after HB.out hb)
  replace HRX := Lib.hid (HRX.out.next hb)
  clear hb
  cases r
  rotate_left
  · go_wp2
    go_ret
    exact retB_bool rfl HB.out
  by_cases h100 : (1000 : Int) < (M.size : Int)
  · go_wp2
    go_ret
    exact retB_bool rfl HB.out
  have x_0 : u.cell? ⟨X, 0, none⟩ = some (.slice a n c) := HRX.out.cell
  have x_1 : u.cell? ⟨X, 1, none⟩ = some (.slice a2 n2 c2) := HRX.out.cell
  go_wp2_with fail
  clear x_0 x_1
  refine (HP.out _ HB.out).mono ?_
  rintro e u ⟨rfl, hb⟩
  replace HB := Lib.hid (after HB.out hb)
  replace HRX := Lib.hid (HRX.out.next hb)
  clear hb
  go_wp2_with fail
  refine (HGt1.out _ (HT.out.next HB.out)).mono ?_
  rintro e u ⟨L', a', c', ax, cx, B0, hL, rfl, hgo, hb⟩
  replace HB := Lib.hid (after HB.out hb)
  replace HRX := Lib.hid (HRX.out.next hb)
  have HGO := Lib.hid hgo
  have HL := Lib.hid hL
  clear hb hgo hL
  obtain ⟨Y, hY⟩ : ∃ Y, Y = u.heap.size := ⟨_, rfl⟩
  have HEY := Lib.hid hY
  have HA : Hid (Below u.heap.size u (u.alloc (.cells #[.slice a' L'.length c', .slice ax l.length cx] 25))) := Lib.hid ((Below.refl _ u).alloc (Nat.le_refl _) _)
  have HRY : Hid (RB (u.alloc (.cells #[.slice a' L'.length c', .slice ax l.length cx] 25)) Y #[.slice a' L'.length c', .slice ax l.length cx] 25) := Lib.hid (by rw [hY]; exact (MapKept.heap_alloc u _).1)
  clear hY
  replace HRX := Lib.hid (HRX.out.next HA.out)
  replace HGO := Lib.hid (HGO.out.next HA.out)
  go_wp2_with fail
  try rw [← HEY.out]
  generalize (u.alloc (.cells #[.slice a' L'.length c', .slice ax l.length cx] 25)) = W at HA HRX HRY HGO ⊢
  replace HB : Hid (Below w.heap.size w W) := Lib.hid (after HB.out HA.out)
  clear HA HEY
  refine (HGt2.out _ (HT.out.next HB.out)).mono ?_
  rintro e u ⟨a0, a1, n0, c0, n1, c1, rfl, hb⟩
  replace HB := Lib.hid (after HB.out hb)
  replace HRX := Lib.hid (HRX.out.next hb)
  replace HRY := Lib.hid (HRY.out.next hb)
  replace HGO := Lib.hid (HGO.out.next hb)
  clear hb
  obtain ⟨Z, hZ⟩ : ∃ Z, Z = u.heap.size := ⟨_, rfl⟩
  have HEZ := Lib.hid hZ
  have HA : Hid (Below u.heap.size u (u.alloc (.cells #[.slice a0 n0 c0, .slice a1 n1 c1] 25))) := Lib.hid ((Below.refl _ u).alloc (Nat.le_refl _) _)
  have HRZ : Hid (RB (u.alloc (.cells #[.slice a0 n0 c0, .slice a1 n1 c1] 25)) Z #[.slice a0 n0 c0, .slice a1 n1 c1] 25) := Lib.hid (by rw [hZ]; exact (MapKept.heap_alloc u _).1)
  clear hZ
  replace HRX := Lib.hid (HRX.out.next HA.out)
  replace HRY := Lib.hid (HRY.out.next HA.out)
  replace HGO := Lib.hid (HGO.out.next HA.out)
  have x_0 : (u.alloc (.cells #[.slice a0 n0 c0, .slice a1 n1 c1] 25)).cell? ⟨X, 0, none⟩ = some (.slice a n c) := HRX.out.cell
  have x_1 : (u.alloc (.cells #[.slice a0 n0 c0, .slice a1 n1 c1] 25)).cell? ⟨X, 1, none⟩ = some (.slice a2 n2 c2) := HRX.out.cell
  have y_0 : (u.alloc (.cells #[.slice a0 n0 c0, .slice a1 n1 c1] 25)).cell? ⟨Y, 0, none⟩ = some (.slice a' L'.length c') := HRY.out.cell
  have y_1 : (u.alloc (.cells #[.slice a0 n0 c0, .slice a1 n1 c1] 25)).cell? ⟨Y, 1, none⟩ = some (.slice ax l.length cx) := HRY.out.cell
  go_wp2_with fail
  clear x_0 x_1 y_0 y_1
  try rw [← HEZ.out]
  generalize (u.alloc (.cells #[.slice a0 n0 c0, .slice a1 n1 c1] 25)) = W at HA HRX HRY HRZ HGO ⊢
  replace HB : Hid (Below w.heap.size w W) := Lib.hid (after HB.out HA.out)
  clear HA HEZ
  refine (HSm.out _ _ _ _ _ _ _ HB.out HGO.out HL.out).mono ?_
  rintro e u ⟨rfl, hb⟩
  replace HB := Lib.hid (after HB.out hb)
  replace HRX := Lib.hid (HRX.out.next hb)
  replace HRY := Lib.hid (HRY.out.next hb)
  replace HRZ := Lib.hid (HRZ.out.next hb)
  replace HGO := Lib.hid (HGO.out.next hb)
  clear hb
  go_wp2_with fail
  refine (HG.out _ (HT.out.next HB.out)).mono ?_
  rintro e u ⟨rfl, hb⟩
  replace HB := Lib.hid (after HB.out hb)
  replace HRX := Lib.hid (HRX.out.next hb)
  replace HRY := Lib.hid (HRY.out.next hb)
  replace HRZ := Lib.hid (HRZ.out.next hb)
  replace HGO := Lib.hid (HGO.out.next hb)
  clear hb
  go_wp2
  go_ret
  exact retB_bool rfl HB.out
set_option maxRecDepth 100000 in
set_option maxHeartbeats 2000000 in
theorem oBk_3_high (w : World) (a : Option Addr) (n c : Nat) (L : List Ms) (a2 : Option Addr) (n2 c2 : Nat) (l : List Sy) (hn : n ≤ maxLen) (hn2 : n2 ≤ maxLen) (hs : SL msC 6 w w.heap.size a n L) (hno : Notes w w.heap.size L) (hg : ∀ m ∈ L, GoodSc m.sc) (hs2 : SL syC 4 w w.heap.size a2 n2 l) (hg2 : ∀ s ∈ l, GoodSy s) (M : ByteArray) (hM : M.size ≤ reachBytes) (k : Int) (hk : -9223372036854775808 ≤ k ∧ k ≤ 9223372036854775807) (hT : TabP w) (hq : isO ⟨L.map (·.sc), l⟩ = true) (hm : M.data.toList ≠ []) (hk0 : ¬ k < 0) (hk1 : ((bA (putO ⟨L.map (·.sc), l⟩)).size : Int) ≤ k) : Calls Tryz.prog 4 #[.agg #[.slice a n c, .slice a2 n2 c2], .string M, .int .i64 k] w (RetB (.bool true) w) := by
  have HBg : Hid (∀ u, Below w.heap.size w u → Calls Tryz.prog 15 #[.agg #[.slice a n c, .slice a2 n2 c2]] u (SomeB u)) := Lib.hid fun u hu => rOBig_any a n c L a2 n2 c2 l hn hn2 u (hs.next hu) (hs2.next hu)
  have HP : Hid (∀ u, Below w.heap.size w u → Calls Tryz.prog 17 #[.agg #[.slice a n c, .slice a2 n2 c2]] u (RetB (.tuple #[.string (bA (putR ⟨L.map (·.sc), l⟩).1), .int .i64 (putR ⟨L.map (·.sc), l⟩).2]) u)) := Lib.hid fun u hu => oPut_any a n c L a2 n2 c2 l hn hn2 u (hs.next hu) (hno.next hu) hg (hs2.next hu) hg2 (hT.next hu)
  have HIs : Hid (∀ u, Below w.heap.size w u → Calls Tryz.prog 24 #[.agg #[.slice a n c, .slice a2 n2 c2]] u (RetB (.bool (isO ⟨L.map (·.sc), l⟩)) u)) := Lib.hid fun u hu => oIs_any a n c L a2 n2 c2 l hn hn2 u (hs.next hu) (hno.next hu) hg (hs2.next hu) hg2 (hT.next hu)
  have HG := Lib.hid (fun u (hu : TabP u) => held_is u hu)
  have HT := Lib.hid hT
  have HB : Hid (Below w.heap.size w w) := Lib.hid (Below.refl _ w)
  have hgo1 : ∀ s ∈ (⟨L.map (·.sc), l⟩ : Ob).secs, GoodSc s := fun s hs => by obtain ⟨m, hm, rfl⟩ := List.mem_map.1 hs; exact hg m hm
  obtain ⟨S, hS⟩ : ∃ S, S = bA (putO ⟨L.map (·.sc), l⟩) := ⟨_, rfl⟩
  have hSs : S.size ≤ 300000 := by rw [hS, bA_size]; exact putO_le hq hgo1
  have hSi : (S.size : Int) ≤ 300000 := by omega
  have hMi : (M.size : Int) ≤ 140737488351232 := by unfold reachBytes at hM; omega
  have hSm : S.size ≤ maxLen := by unfold maxLen; omega
  rw [show putR ⟨L.map (·.sc), l⟩ = (putO ⟨L.map (·.sc), l⟩, 0) from by unfold putR; rw [if_pos hq]] at HP
  simp only at HP
  rw [← hS] at HP
  have hle : ∀ m ∈ L, m.sc.rels.length ≤ 1000000 := fun m hm => by
    have := ((is_ok hq).2.2.1 m.sc (List.mem_map_of_mem hm)).rels
    omega
  have hLl : L.length ≤ 32 ∧ l.length ≤ 128 := by
    obtain ⟨h1, h2, -, -⟩ := is_ok hq
    simp only [List.length_map] at h1
    exact ⟨h1, h2⟩
  have HGt1 : Hid (∀ u, TabP u → Calls Tryz.prog 19 #[.string S] u (GetL (L.map (·.sc)) l u)) := Lib.hid fun u hu => by
    have := Get_y (D := S) (by rw [hS]; exact getO_back hq hgo1) hSm u hu
    exact this
  have HSm : Hid (∀ u (L' : List Ms) (a' : Option Addr) (c' : Nat) (ax : Option Addr) (cx B : Nat), Below w.heap.size w u → GO u B L' a' c' l ax cx → L'.map (·.sc) = L.map (·.sc) → Calls Tryz.prog 26 #[.agg #[.slice a' L'.length c', .slice ax l.length cx], .agg #[.slice a n c, .slice a2 n2 c2]] u (RetB (.bool true) u)) := Lib.hid fun u L' a' c' ax cx B hu hG hL => by
    have hl' : L'.length ≤ 32 := by have := congrArg List.length hL; rw [List.length_map, List.length_map] at this; omega
    have hle' : ∀ m ∈ L', m.sc.rels.length ≤ 1000000 := fun m hm => by
      have h1 : m.sc ∈ L'.map (·.sc) := List.mem_map.2 ⟨m, hm, rfl⟩
      rw [hL] at h1
      obtain ⟨m2, hm2, he⟩ := List.mem_map.1 h1
      rw [← he]; exact hle m2 hm2
    refine (rOSameB a' ax a a2 L'.length c' l.length cx n c n2 c2 (L'.map (·.sc) = L.map (·.sc) ∧ l = l) u (fun v hv => rOSame_any a' ax a a2 L'.length c' l.length cx n c n2 c2 L' L l l v (by unfold maxLen; omega) (by unfold maxLen; omega) hn hn2 (hG.secs.next hv) (hG.syms.next hv) ((hs.next hu).next hv) ((hs2.next hu).next hv) (hG.notes.next hv) ((hno.next hu).next hv) hle' hle)).mono ?_
    rintro e v ⟨r, rfl, hr, hb⟩
    exact ⟨by rw [hr.2 ⟨hL, rfl⟩], hb⟩
  have HGt2 : Hid (∀ u, TabP u → Calls Tryz.prog 19 #[.string (S ++ M)] u (GetE 3 u)) := Lib.hid fun u hu => by
    have hz : (S ++ M).size ≤ maxLen := by rw [ByteArray.size_append]; unfold maxLen; omega
    have e1 : getO (S ++ M) = none := by rw [hS, ba_app]; exact getO_more hq hgo1 hm
    exact (Get_n e1 hz u hu).mono fun e w' h => h.e
  have e1 : (M.toList == []) = false := by rw [Lib.toList_data]; simpa using hm
  have e2 : M.toList.isEmpty = false := by rw [Lib.toList_data]; simpa using hm
  have e3 : (M.toList != []) = true := by rw [bne, e1]; rfl
  have e4 : ¬ M.toList = [] := by rw [Lib.toList_data]; exact hm
  rw [← hS] at hk1
  clear hq hm hk hgo1 hS hSs hSm hle hLl HIs
  clear hs hno hg hs2 hg2 hT hn hn2 hM
  go_enter Tryz.func4, Tryz.ntmps4
  obtain ⟨X, hX⟩ : ∃ X, X = w.heap.size := ⟨_, rfl⟩
  have HEX := Lib.hid hX
  have HA : Hid (Below w.heap.size w (w.alloc (.cells #[.slice a n c, .slice a2 n2 c2] 25))) := Lib.hid ((Below.refl _ w).alloc (Nat.le_refl _) _)
  have HRX : Hid (RB (w.alloc (.cells #[.slice a n c, .slice a2 n2 c2] 25)) X #[.slice a n c, .slice a2 n2 c2] 25) := Lib.hid (by rw [hX]; exact (MapKept.heap_alloc w _).1)
  clear hX
  go_wp2_with fail
  try rw [← HEX.out]
  generalize (w.alloc (.cells #[.slice a n c, .slice a2 n2 c2] 25)) = W at HA HRX ⊢
  replace HB : Hid (Below w.heap.size w W) := Lib.hid (after HB.out HA.out)
  clear HA HEX
  refine (HBg.out _ HB.out).mono ?_
  rintro e u ⟨r, rfl, hb⟩
  replace HB := Lib.hid (after HB.out hb)
  replace HRX := Lib.hid (HRX.out.next hb)
  clear hb
  cases r
  rotate_left
  · go_wp2
    go_ret
    exact retB_bool rfl HB.out
  by_cases h100 : (1000 : Int) < (M.size : Int)
  · go_wp2
    go_ret
    exact retB_bool rfl HB.out
  have x_0 : u.cell? ⟨X, 0, none⟩ = some (.slice a n c) := HRX.out.cell
  have x_1 : u.cell? ⟨X, 1, none⟩ = some (.slice a2 n2 c2) := HRX.out.cell
  go_wp2_with fail
  clear x_0 x_1
  refine (HP.out _ HB.out).mono ?_
  rintro e u ⟨rfl, hb⟩
  replace HB := Lib.hid (after HB.out hb)
  replace HRX := Lib.hid (HRX.out.next hb)
  clear hb
  go_wp2_with fail
  refine (HGt1.out _ (HT.out.next HB.out)).mono ?_
  rintro e u ⟨L', a', c', ax, cx, B0, hL, rfl, hgo, hb⟩
  replace HB := Lib.hid (after HB.out hb)
  replace HRX := Lib.hid (HRX.out.next hb)
  have HGO := Lib.hid hgo
  have HL := Lib.hid hL
  clear hb hgo hL
  obtain ⟨Y, hY⟩ : ∃ Y, Y = u.heap.size := ⟨_, rfl⟩
  have HEY := Lib.hid hY
  have HA : Hid (Below u.heap.size u (u.alloc (.cells #[.slice a' L'.length c', .slice ax l.length cx] 25))) := Lib.hid ((Below.refl _ u).alloc (Nat.le_refl _) _)
  have HRY : Hid (RB (u.alloc (.cells #[.slice a' L'.length c', .slice ax l.length cx] 25)) Y #[.slice a' L'.length c', .slice ax l.length cx] 25) := Lib.hid (by rw [hY]; exact (MapKept.heap_alloc u _).1)
  clear hY
  replace HRX := Lib.hid (HRX.out.next HA.out)
  replace HGO := Lib.hid (HGO.out.next HA.out)
  go_wp2_with fail
  try rw [← HEY.out]
  generalize (u.alloc (.cells #[.slice a' L'.length c', .slice ax l.length cx] 25)) = W at HA HRX HRY HGO ⊢
  replace HB : Hid (Below w.heap.size w W) := Lib.hid (after HB.out HA.out)
  clear HA HEY
  refine (HGt2.out _ (HT.out.next HB.out)).mono ?_
  rintro e u ⟨a0, a1, n0, c0, n1, c1, rfl, hb⟩
  replace HB := Lib.hid (after HB.out hb)
  replace HRX := Lib.hid (HRX.out.next hb)
  replace HRY := Lib.hid (HRY.out.next hb)
  replace HGO := Lib.hid (HGO.out.next hb)
  clear hb
  obtain ⟨Z, hZ⟩ : ∃ Z, Z = u.heap.size := ⟨_, rfl⟩
  have HEZ := Lib.hid hZ
  have HA : Hid (Below u.heap.size u (u.alloc (.cells #[.slice a0 n0 c0, .slice a1 n1 c1] 25))) := Lib.hid ((Below.refl _ u).alloc (Nat.le_refl _) _)
  have HRZ : Hid (RB (u.alloc (.cells #[.slice a0 n0 c0, .slice a1 n1 c1] 25)) Z #[.slice a0 n0 c0, .slice a1 n1 c1] 25) := Lib.hid (by rw [hZ]; exact (MapKept.heap_alloc u _).1)
  clear hZ
  replace HRX := Lib.hid (HRX.out.next HA.out)
  replace HRY := Lib.hid (HRY.out.next HA.out)
  replace HGO := Lib.hid (HGO.out.next HA.out)
  have x_0 : (u.alloc (.cells #[.slice a0 n0 c0, .slice a1 n1 c1] 25)).cell? ⟨X, 0, none⟩ = some (.slice a n c) := HRX.out.cell
  have x_1 : (u.alloc (.cells #[.slice a0 n0 c0, .slice a1 n1 c1] 25)).cell? ⟨X, 1, none⟩ = some (.slice a2 n2 c2) := HRX.out.cell
  have y_0 : (u.alloc (.cells #[.slice a0 n0 c0, .slice a1 n1 c1] 25)).cell? ⟨Y, 0, none⟩ = some (.slice a' L'.length c') := HRY.out.cell
  have y_1 : (u.alloc (.cells #[.slice a0 n0 c0, .slice a1 n1 c1] 25)).cell? ⟨Y, 1, none⟩ = some (.slice ax l.length cx) := HRY.out.cell
  go_wp2_with fail
  clear x_0 x_1 y_0 y_1
  try rw [← HEZ.out]
  generalize (u.alloc (.cells #[.slice a0 n0 c0, .slice a1 n1 c1] 25)) = W at HA HRX HRY HRZ HGO ⊢
  replace HB : Hid (Below w.heap.size w W) := Lib.hid (after HB.out HA.out)
  clear HA HEZ
  refine (HSm.out _ _ _ _ _ _ _ HB.out HGO.out HL.out).mono ?_
  rintro e u ⟨rfl, hb⟩
  replace HB := Lib.hid (after HB.out hb)
  replace HRX := Lib.hid (HRX.out.next hb)
  replace HRY := Lib.hid (HRY.out.next hb)
  replace HRZ := Lib.hid (HRZ.out.next hb)
  replace HGO := Lib.hid (HGO.out.next hb)
  clear hb
  go_wp2_with fail
  refine (HG.out _ (HT.out.next HB.out)).mono ?_
  rintro e u ⟨rfl, hb⟩
  replace HB := Lib.hid (after HB.out hb)
  replace HRX := Lib.hid (HRX.out.next hb)
  replace HRY := Lib.hid (HRY.out.next hb)
  replace HRZ := Lib.hid (HRZ.out.next hb)
  replace HGO := Lib.hid (HGO.out.next hb)
  clear hb
  go_wp2
  go_ret
  exact retB_bool rfl HB.out
set_option maxRecDepth 100000 in
set_option maxHeartbeats 2000000 in
theorem oBk_3_in (w : World) (a : Option Addr) (n c : Nat) (L : List Ms) (a2 : Option Addr) (n2 c2 : Nat) (l : List Sy) (hn : n ≤ maxLen) (hn2 : n2 ≤ maxLen) (hs : SL msC 6 w w.heap.size a n L) (hno : Notes w w.heap.size L) (hg : ∀ m ∈ L, GoodSc m.sc) (hs2 : SL syC 4 w w.heap.size a2 n2 l) (hg2 : ∀ s ∈ l, GoodSy s) (M : ByteArray) (hM : M.size ≤ reachBytes) (k : Int) (hk : -9223372036854775808 ≤ k ∧ k ≤ 9223372036854775807) (hT : TabP w) (hq : isO ⟨L.map (·.sc), l⟩ = true) (hm : M.data.toList ≠ []) (q : Nat) (hkq : k = (q : Int)) (hk1 : q < (bA (putO ⟨L.map (·.sc), l⟩)).size) : Calls Tryz.prog 4 #[.agg #[.slice a n c, .slice a2 n2 c2], .string M, .int .i64 k] w (RetB (.bool true) w) := by
  have HBg : Hid (∀ u, Below w.heap.size w u → Calls Tryz.prog 15 #[.agg #[.slice a n c, .slice a2 n2 c2]] u (SomeB u)) := Lib.hid fun u hu => rOBig_any a n c L a2 n2 c2 l hn hn2 u (hs.next hu) (hs2.next hu)
  have HP : Hid (∀ u, Below w.heap.size w u → Calls Tryz.prog 17 #[.agg #[.slice a n c, .slice a2 n2 c2]] u (RetB (.tuple #[.string (bA (putR ⟨L.map (·.sc), l⟩).1), .int .i64 (putR ⟨L.map (·.sc), l⟩).2]) u)) := Lib.hid fun u hu => oPut_any a n c L a2 n2 c2 l hn hn2 u (hs.next hu) (hno.next hu) hg (hs2.next hu) hg2 (hT.next hu)
  have HIs : Hid (∀ u, Below w.heap.size w u → Calls Tryz.prog 24 #[.agg #[.slice a n c, .slice a2 n2 c2]] u (RetB (.bool (isO ⟨L.map (·.sc), l⟩)) u)) := Lib.hid fun u hu => oIs_any a n c L a2 n2 c2 l hn hn2 u (hs.next hu) (hno.next hu) hg (hs2.next hu) hg2 (hT.next hu)
  have HG := Lib.hid (fun u (hu : TabP u) => held_is u hu)
  have HT := Lib.hid hT
  have HB : Hid (Below w.heap.size w w) := Lib.hid (Below.refl _ w)
  have hgo1 : ∀ s ∈ (⟨L.map (·.sc), l⟩ : Ob).secs, GoodSc s := fun s hs => by obtain ⟨m, hm, rfl⟩ := List.mem_map.1 hs; exact hg m hm
  obtain ⟨S, hS⟩ : ∃ S, S = bA (putO ⟨L.map (·.sc), l⟩) := ⟨_, rfl⟩
  have hSs : S.size ≤ 300000 := by rw [hS, bA_size]; exact putO_le hq hgo1
  have hSi : (S.size : Int) ≤ 300000 := by omega
  have hMi : (M.size : Int) ≤ 140737488351232 := by unfold reachBytes at hM; omega
  have hSm : S.size ≤ maxLen := by unfold maxLen; omega
  rw [show putR ⟨L.map (·.sc), l⟩ = (putO ⟨L.map (·.sc), l⟩, 0) from by unfold putR; rw [if_pos hq]] at HP
  simp only at HP
  rw [← hS] at HP
  have hle : ∀ m ∈ L, m.sc.rels.length ≤ 1000000 := fun m hm => by
    have := ((is_ok hq).2.2.1 m.sc (List.mem_map_of_mem hm)).rels
    omega
  have hLl : L.length ≤ 32 ∧ l.length ≤ 128 := by
    obtain ⟨h1, h2, -, -⟩ := is_ok hq
    simp only [List.length_map] at h1
    exact ⟨h1, h2⟩
  have HGt1 : Hid (∀ u, TabP u → Calls Tryz.prog 19 #[.string S] u (GetL (L.map (·.sc)) l u)) := Lib.hid fun u hu => by
    have := Get_y (D := S) (by rw [hS]; exact getO_back hq hgo1) hSm u hu
    exact this
  have HSm : Hid (∀ u (L' : List Ms) (a' : Option Addr) (c' : Nat) (ax : Option Addr) (cx B : Nat), Below w.heap.size w u → GO u B L' a' c' l ax cx → L'.map (·.sc) = L.map (·.sc) → Calls Tryz.prog 26 #[.agg #[.slice a' L'.length c', .slice ax l.length cx], .agg #[.slice a n c, .slice a2 n2 c2]] u (RetB (.bool true) u)) := Lib.hid fun u L' a' c' ax cx B hu hG hL => by
    have hl' : L'.length ≤ 32 := by have := congrArg List.length hL; rw [List.length_map, List.length_map] at this; omega
    have hle' : ∀ m ∈ L', m.sc.rels.length ≤ 1000000 := fun m hm => by
      have h1 : m.sc ∈ L'.map (·.sc) := List.mem_map.2 ⟨m, hm, rfl⟩
      rw [hL] at h1
      obtain ⟨m2, hm2, he⟩ := List.mem_map.1 h1
      rw [← he]; exact hle m2 hm2
    refine (rOSameB a' ax a a2 L'.length c' l.length cx n c n2 c2 (L'.map (·.sc) = L.map (·.sc) ∧ l = l) u (fun v hv => rOSame_any a' ax a a2 L'.length c' l.length cx n c n2 c2 L' L l l v (by unfold maxLen; omega) (by unfold maxLen; omega) hn hn2 (hG.secs.next hv) (hG.syms.next hv) ((hs.next hu).next hv) ((hs2.next hu).next hv) (hG.notes.next hv) ((hno.next hu).next hv) hle' hle)).mono ?_
    rintro e v ⟨r, rfl, hr, hb⟩
    exact ⟨by rw [hr.2 ⟨hL, rfl⟩], hb⟩
  have HGt2 : Hid (∀ u, TabP u → Calls Tryz.prog 19 #[.string (S ++ M)] u (GetE 3 u)) := Lib.hid fun u hu => by
    have hz : (S ++ M).size ≤ maxLen := by rw [ByteArray.size_append]; unfold maxLen; omega
    have e1 : getO (S ++ M) = none := by rw [hS, ba_app]; exact getO_more hq hgo1 hm
    exact (Get_n e1 hz u hu).mono fun e w' h => h.e
  have e1 : (M.toList == []) = false := by rw [Lib.toList_data]; simpa using hm
  have e2 : M.toList.isEmpty = false := by rw [Lib.toList_data]; simpa using hm
  have e3 : (M.toList != []) = true := by rw [bne, e1]; rfl
  have e4 : ¬ M.toList = [] := by rw [Lib.toList_data]; exact hm
  subst hkq
  have HGt3 : Hid (∀ u, TabP u → Calls Tryz.prog 19 #[.string (S.extract 0 q)] u (GetN u)) := Lib.hid fun u hu => by
    have e1 : getO (S.extract 0 q) = none := by rw [hS, ba_take]; exact getO_less hq hgo1 (by rw [bA_size] at hk1; exact hk1)
    exact Get_n e1 (by rw [ByteArray.size_extract]; unfold maxLen; omega) u hu
  rw [← hS] at hk1
  have hk2 : (q : Int) < (S.size : Int) := by omega
  have hk3 : ¬ (S.size : Int) ≤ (q : Int) := by omega
  have hk4 : ¬ (q : Int) < 0 := by omega
  have hk5 : q ≤ S.size := by omega
  clear hk1
  clear hq hm hk hgo1 hS hSs hSm hle hLl HIs
  clear hs hno hg hs2 hg2 hT hn hn2 hM
  go_enter Tryz.func4, Tryz.ntmps4
  obtain ⟨X, hX⟩ : ∃ X, X = w.heap.size := ⟨_, rfl⟩
  have HEX := Lib.hid hX
  have HA : Hid (Below w.heap.size w (w.alloc (.cells #[.slice a n c, .slice a2 n2 c2] 25))) := Lib.hid ((Below.refl _ w).alloc (Nat.le_refl _) _)
  have HRX : Hid (RB (w.alloc (.cells #[.slice a n c, .slice a2 n2 c2] 25)) X #[.slice a n c, .slice a2 n2 c2] 25) := Lib.hid (by rw [hX]; exact (MapKept.heap_alloc w _).1)
  clear hX
  go_wp2_with fail
  try rw [← HEX.out]
  generalize (w.alloc (.cells #[.slice a n c, .slice a2 n2 c2] 25)) = W at HA HRX ⊢
  replace HB : Hid (Below w.heap.size w W) := Lib.hid (after HB.out HA.out)
  clear HA HEX
  refine (HBg.out _ HB.out).mono ?_
  rintro e u ⟨r, rfl, hb⟩
  replace HB := Lib.hid (after HB.out hb)
  replace HRX := Lib.hid (HRX.out.next hb)
  clear hb
  cases r
  rotate_left
  · go_wp2
    go_ret
    exact retB_bool rfl HB.out
  by_cases h100 : (1000 : Int) < (M.size : Int)
  · go_wp2
    go_ret
    exact retB_bool rfl HB.out
  have x_0 : u.cell? ⟨X, 0, none⟩ = some (.slice a n c) := HRX.out.cell
  have x_1 : u.cell? ⟨X, 1, none⟩ = some (.slice a2 n2 c2) := HRX.out.cell
  go_wp2_with fail
  clear x_0 x_1
  refine (HP.out _ HB.out).mono ?_
  rintro e u ⟨rfl, hb⟩
  replace HB := Lib.hid (after HB.out hb)
  replace HRX := Lib.hid (HRX.out.next hb)
  clear hb
  go_wp2_with fail
  refine (HGt1.out _ (HT.out.next HB.out)).mono ?_
  rintro e u ⟨L', a', c', ax, cx, B0, hL, rfl, hgo, hb⟩
  replace HB := Lib.hid (after HB.out hb)
  replace HRX := Lib.hid (HRX.out.next hb)
  have HGO := Lib.hid hgo
  have HL := Lib.hid hL
  clear hb hgo hL
  obtain ⟨Y, hY⟩ : ∃ Y, Y = u.heap.size := ⟨_, rfl⟩
  have HEY := Lib.hid hY
  have HA : Hid (Below u.heap.size u (u.alloc (.cells #[.slice a' L'.length c', .slice ax l.length cx] 25))) := Lib.hid ((Below.refl _ u).alloc (Nat.le_refl _) _)
  have HRY : Hid (RB (u.alloc (.cells #[.slice a' L'.length c', .slice ax l.length cx] 25)) Y #[.slice a' L'.length c', .slice ax l.length cx] 25) := Lib.hid (by rw [hY]; exact (MapKept.heap_alloc u _).1)
  clear hY
  replace HRX := Lib.hid (HRX.out.next HA.out)
  replace HGO := Lib.hid (HGO.out.next HA.out)
  go_wp2_with fail
  try rw [← HEY.out]
  generalize (u.alloc (.cells #[.slice a' L'.length c', .slice ax l.length cx] 25)) = W at HA HRX HRY HGO ⊢
  replace HB : Hid (Below w.heap.size w W) := Lib.hid (after HB.out HA.out)
  clear HA HEY
  refine (HGt2.out _ (HT.out.next HB.out)).mono ?_
  rintro e u ⟨a0, a1, n0, c0, n1, c1, rfl, hb⟩
  replace HB := Lib.hid (after HB.out hb)
  replace HRX := Lib.hid (HRX.out.next hb)
  replace HRY := Lib.hid (HRY.out.next hb)
  replace HGO := Lib.hid (HGO.out.next hb)
  clear hb
  obtain ⟨Z, hZ⟩ : ∃ Z, Z = u.heap.size := ⟨_, rfl⟩
  have HEZ := Lib.hid hZ
  have HA : Hid (Below u.heap.size u (u.alloc (.cells #[.slice a0 n0 c0, .slice a1 n1 c1] 25))) := Lib.hid ((Below.refl _ u).alloc (Nat.le_refl _) _)
  have HRZ : Hid (RB (u.alloc (.cells #[.slice a0 n0 c0, .slice a1 n1 c1] 25)) Z #[.slice a0 n0 c0, .slice a1 n1 c1] 25) := Lib.hid (by rw [hZ]; exact (MapKept.heap_alloc u _).1)
  clear hZ
  replace HRX := Lib.hid (HRX.out.next HA.out)
  replace HRY := Lib.hid (HRY.out.next HA.out)
  replace HGO := Lib.hid (HGO.out.next HA.out)
  have x_0 : (u.alloc (.cells #[.slice a0 n0 c0, .slice a1 n1 c1] 25)).cell? ⟨X, 0, none⟩ = some (.slice a n c) := HRX.out.cell
  have x_1 : (u.alloc (.cells #[.slice a0 n0 c0, .slice a1 n1 c1] 25)).cell? ⟨X, 1, none⟩ = some (.slice a2 n2 c2) := HRX.out.cell
  have y_0 : (u.alloc (.cells #[.slice a0 n0 c0, .slice a1 n1 c1] 25)).cell? ⟨Y, 0, none⟩ = some (.slice a' L'.length c') := HRY.out.cell
  have y_1 : (u.alloc (.cells #[.slice a0 n0 c0, .slice a1 n1 c1] 25)).cell? ⟨Y, 1, none⟩ = some (.slice ax l.length cx) := HRY.out.cell
  go_wp2_with fail
  clear x_0 x_1 y_0 y_1
  try rw [← HEZ.out]
  generalize (u.alloc (.cells #[.slice a0 n0 c0, .slice a1 n1 c1] 25)) = W at HA HRX HRY HRZ HGO ⊢
  replace HB : Hid (Below w.heap.size w W) := Lib.hid (after HB.out HA.out)
  clear HA HEZ
  refine (HSm.out _ _ _ _ _ _ _ HB.out HGO.out HL.out).mono ?_
  rintro e u ⟨rfl, hb⟩
  replace HB := Lib.hid (after HB.out hb)
  replace HRX := Lib.hid (HRX.out.next hb)
  replace HRY := Lib.hid (HRY.out.next hb)
  replace HRZ := Lib.hid (HRZ.out.next hb)
  replace HGO := Lib.hid (HGO.out.next hb)
  clear hb
  go_wp2_with fail
  refine (HGt3.out _ (HT.out.next HB.out)).mono ?_
  rintro e u ⟨rfl, hb⟩
  replace HB := Lib.hid (after HB.out hb)
  replace HRX := Lib.hid (HRX.out.next hb)
  replace HRY := Lib.hid (HRY.out.next hb)
  replace HRZ := Lib.hid (HRZ.out.next hb)
  replace HGO := Lib.hid (HGO.out.next hb)
  clear hb
  obtain ⟨V, hV⟩ : ∃ V, V = u.heap.size := ⟨_, rfl⟩
  have HEV := Lib.hid hV
  have HA : Hid (Below u.heap.size u (u.alloc (.cells #[.slice none 0 0, .slice none 0 0] 25))) := Lib.hid ((Below.refl _ u).alloc (Nat.le_refl _) _)
  have HRV : Hid (RB (u.alloc (.cells #[.slice none 0 0, .slice none 0 0] 25)) V #[.slice none 0 0, .slice none 0 0] 25) := Lib.hid (by rw [hV]; exact (MapKept.heap_alloc u _).1)
  clear hV
  replace HRX := Lib.hid (HRX.out.next HA.out)
  replace HRY := Lib.hid (HRY.out.next HA.out)
  replace HRZ := Lib.hid (HRZ.out.next HA.out)
  replace HGO := Lib.hid (HGO.out.next HA.out)
  go_wp2_with fail
  try rw [← HEV.out]
  generalize (u.alloc (.cells #[.slice none 0 0, .slice none 0 0] 25)) = W at HA HRX HRY HRZ HRV HGO ⊢
  replace HB : Hid (Below w.heap.size w W) := Lib.hid (after HB.out HA.out)
  clear HA HEV
  refine (HG.out _ (HT.out.next HB.out)).mono ?_
  rintro e u ⟨rfl, hb⟩
  replace HB := Lib.hid (after HB.out hb)
  replace HRX := Lib.hid (HRX.out.next hb)
  replace HRY := Lib.hid (HRY.out.next hb)
  replace HRZ := Lib.hid (HRZ.out.next hb)
  replace HRV := Lib.hid (HRV.out.next hb)
  replace HGO := Lib.hid (HGO.out.next hb)
  clear hb
  go_wp2
  go_ret
  exact retB_bool rfl HB.out
theorem ObjBack_walk (w : World) (a : Option Addr) (n c : Nat) (L : List Ms) (a2 : Option Addr) (n2 c2 : Nat) (l : List Sy) (hn : n ≤ maxLen) (hn2 : n2 ≤ maxLen) (hs : SL msC 6 w w.heap.size a n L) (hno : Notes w w.heap.size L) (hg : ∀ m ∈ L, GoodSc m.sc) (hs2 : SL syC 4 w w.heap.size a2 n2 l) (hg2 : ∀ s ∈ l, GoodSy s) (M : ByteArray) (hM : M.size ≤ reachBytes) (k : Int) (hk : -9223372036854775808 ≤ k ∧ k ≤ 9223372036854775807) (hT : TabP w) : Calls Tryz.prog 4 #[.agg #[.slice a n c, .slice a2 n2 c2], .string M, .int .i64 k] w (RetB (.bool true) w) := by
  cases hq : isO ⟨L.map (·.sc), l⟩
  · exact oBk_no w a n c L a2 n2 c2 l hn hn2 hs hno hg hs2 hg2 M hM k hk hT hq
  · by_cases hm : M.data.toList = []
    · by_cases h0 : k < 0
      · exact oBk_0_low w a n c L a2 n2 c2 l hn hn2 hs hno hg hs2 hg2 M hM k hk hT hq hm h0
      · by_cases h1 : ((bA (putO ⟨L.map (·.sc), l⟩)).size : Int) ≤ k
        · exact oBk_0_high w a n c L a2 n2 c2 l hn hn2 hs hno hg hs2 hg2 M hM k hk hT hq hm h0 h1
        · exact oBk_0_in w a n c L a2 n2 c2 l hn hn2 hs hno hg hs2 hg2 M hM k hk hT hq hm k.toNat (by omega) (by omega)
    · by_cases h0 : k < 0
      · exact oBk_3_low w a n c L a2 n2 c2 l hn hn2 hs hno hg hs2 hg2 M hM k hk hT hq hm h0
      · by_cases h1 : ((bA (putO ⟨L.map (·.sc), l⟩)).size : Int) ≤ k
        · exact oBk_3_high w a n c L a2 n2 c2 l hn hn2 hs hno hg hs2 hg2 M hM k hk hT hq hm h0 h1
        · exact oBk_3_in w a n c L a2 n2 c2 l hn hn2 hs hno hg hs2 hg2 M hM k hk hT hq hm k.toNat (by omega) (by omega)
end Go.Proofs.YtkdhomofagjcmaaGreatDoor
