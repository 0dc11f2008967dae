/- obj: Put. -/
import Derived.Test.YtkdhomofagjcmaaGreatDoorkSG
namespace Go.Proofs.YtkdhomofagjcmaaGreatDoor
set_option linter.unusedVariables false
set_option linter.unusedSimpArgs false
open Go.ChangeShapes Go.WideShapes Go.Deep Go.RowKit
open Go.Proofs.YtkdhomofagjcmaaGreatDoor.Wi (putL putL_len putB putB_size putB_list Put_at PutText_any PutInt_any zig zig_lt)

theorem KU.le {b : Nat} {w u : World} (h : KU b w u) (hb : b ≤ w.heap.size) : b ≤ u.heap.size := Nat.le_trans hb h.below.size
theorem KU.add {b : Nat} {w u v : World} (h : KU b w u) (hw : b ≤ w.heap.size) (k : Below u.heap.size u v) : KU b w v := h.trans (KU.of k (h.le hw))
theorem KU.up {b : Nat} {w0 w u : World} (h : Below w0.heap.size w0 w) (hb : w0.heap.size ≤ b) (k : KU b w u) : Below w0.heap.size w0 u := h.trans (k.below.mono hb)
theorem textB_list (s : ByteArray) : (Wi.textB s).data.toList = txtL s.data.toList := by
  show putL s.size ++ s.data.toList = putL s.data.toList.length ++ s.data.toList
  rw [show s.data.toList.length = s.size by simp]
theorem take_map_succ {α β : Type} {f : α → List β} {l : List α} {k : Nat} (h : k < l.length) : (l.take (k + 1)).flatMap f = (l.take k).flatMap f ++ f l[k] := by
  rw [List.take_succ_eq_append_getElem h, List.flatMap_append]; simp
theorem secB_len {s : Sc} (h : SecOk s) (hg : GoodSc s) : (secB s).length ≤ 7000 := by
  unfold secB txtL
  have h0 := h.rels
  have h1 := putL_le (v := s.name.length) (by have := h.name; omega)
  have h2 := putL_le (v := s.kind.toNat) (by have := h.k0; have := h.k1; omega)
  have h3 := putL_le (v := keepI s.keep) (by unfold keepI; split <;> omega)
  have h4 := putL_le (v := s.align.toNat) (by have := h.a0; have := h.a1; omega)
  have h5 := putL_le (v := s.data.length) (by have := h.data; omega)
  have h6 := putL_le (v := s.rels.length) (by omega)
  have h7 := flat_le (f := relB) (m := 40) (l := s.rels) (fun r hr => relB_len (h.all r hr) h.data (hg.rels r hr).2.2.2 (hg.rels r hr).2.2.1)
  have := h.name
  have := h.data
  simp only [List.length_append]
  have : s.rels.length * 40 ≤ 64 * 40 := Nat.mul_le_mul_right 40 h0
  omega
theorem symB_len {s : Sy} (h : SymOk s) : (symB s).length ≤ 100 := by
  unfold symB txtL
  have h1 := putL_le (v := s.name.length) (by have := h.name; omega)
  have h2 := putL_le (v := s.bind.toNat) (by have := h.b0; have := h.b1; omega)
  have h3 := putL_le (v := (s.sec + 1).toNat) (by have := h.s0; have := h.s1; omega)
  have h4 := putL_le (v := s.off.toNat) (by have := h.o0; have := h.o1; omega)
  have := h.name
  simp only [List.length_append]; omega
set_option maxRecDepth 100000 in
set_option maxHeartbeats 1000000 in
theorem oPut_no (a : Option Addr) (n c : Nat) (L : List Ms) (a2 : Option Addr) (n2 c2 : Nat) (l : List Sy) (hn : n ≤ maxLen) (hn2 : n2 ≤ maxLen) (w : World) (hs : SL msC 6 w w.heap.size a n L) (hno : Notes w w.heap.size L) (hg : ∀ m ∈ L, GoodSc m.sc) (hs2 : SL syC 4 w w.heap.size a2 n2 l) (hg2 : ∀ s ∈ l, GoodSy s) (hT : TabP w) (hq : isO ⟨L.map (·.sc), l⟩ = false) :
    Calls Tryz.prog 17 #[.agg #[.slice a n c, .slice a2 n2 c2]] w (RetB (.tuple #[.string ⟨#[]⟩, .int .i64 1]) w) := by
  have HIs : Hid (∀ u, Below w.heap.size w u → Calls Tryz.prog 24 #[.agg #[.slice a n c, .slice a2 n2 c2]] u (RetB (.bool (isO ⟨L.map (·.sc), l⟩)) u)) := Lib.hid fun u hu => oIs_any a n c L a2 n2 c2 l hn hn2 u (hs.next hu) (hno.next hu) hg (hs2.next hu) hg2 (hT.next hu)
  rw [hq] at HIs
  have HA : Hid (Below w.heap.size w (w.alloc (.cells #[.slice a n c, .slice a2 n2 c2] 25))) := Lib.hid ((Below.refl _ w).alloc (Nat.le_refl _) _)
  clear hs hno hg hs2 hg2 hT hq
  go_enter Tryz.func17, Tryz.ntmps17
  go_wp2_with fail
  refine (HIs.out _ HA.out).mono ?_
  rintro e u ⟨rfl, hb⟩
  have HB := Lib.hid (after HA.out hb)
  clear hb
  go_wp2
  go_ret2
  exact ⟨rfl, HB.out⟩
set_option maxRecDepth 100000 in
set_option maxHeartbeats 8000000 in
theorem oPut_yes (a : Option Addr) (n c : Nat) (L : List Ms) (a2 : Option Addr) (n2 c2 : Nat) (l : List Sy) (hn : n ≤ maxLen) (hn2 : n2 ≤ maxLen) (w : World) (hs : SL msC 6 w w.heap.size a n L) (hno : Notes w w.heap.size L) (hg : ∀ m ∈ L, GoodSc m.sc) (hs2 : SL syC 4 w w.heap.size a2 n2 l) (hg2 : ∀ s ∈ l, GoodSy s) (hT : TabP w) (hq : isO ⟨L.map (·.sc), l⟩ = true) :
    Calls Tryz.prog 17 #[.agg #[.slice a n c, .slice a2 n2 c2]] w (RetB (.tuple #[.string ⟨(putO ⟨L.map (·.sc), l⟩).toArray⟩, .int .i64 0]) w) := by
  have HIs : Hid (∀ u, Below w.heap.size w u → Calls Tryz.prog 24 #[.agg #[.slice a n c, .slice a2 n2 c2]] u (RetB (.bool (isO ⟨L.map (·.sc), l⟩)) u)) := Lib.hid fun u hu => oIs_any a n c L a2 n2 c2 l hn hn2 u (hs.next hu) (hno.next hu) hg (hs2.next hu) hg2 (hT.next hu)
  obtain ⟨q1, q2, q3, q4⟩ := is_ok hq
  simp only [List.length_map] at q1 q2 q3 q4
  have hok : ∀ m ∈ L, SecOk m.sc := fun m hm => q3 m.sc (List.mem_map_of_mem hm)
  rw [hq] at HIs
  have hln := hs.len
  have hln2 := hs2.len
  have hn32 : n ≤ 32 := by omega
  have hn128 : n2 ≤ 128 := by omega
  have hni : (n : Int) ≤ 32 := by omega
  have hni2 : (n2 : Int) ≤ 128 := by omega
  obtain ⟨O, hO⟩ : ∃ O : List UInt8, O = putO ⟨L.map (·.sc), l⟩ := ⟨_, rfl⟩
  rw [← hO]
  have HO : Hid (O = [67, 76, 69, 65, 84, 1] ++ putL n ++ L.flatMap (fun m => secB m.sc) ++ putL n2 ++ l.flatMap symB) := Lib.hid (by
    rw [hO]; unfold putO; simp only [List.length_map, ← hln, ← hln2]; rw [List.flatMap_map])
  have HS := Lib.hid hs
  have HNo := Lib.hid hno
  have HG := Lib.hid hg
  have HS2 := Lib.hid hs2
  have HG2 := Lib.hid hg2
  have HOk := Lib.hid hok
  have HOk2 := Lib.hid q4
  have HLn := Lib.hid hln
  have HLn2 := Lib.hid hln2
  obtain ⟨X, hX⟩ : ∃ X, X = w.heap.size := ⟨_, rfl⟩
  have HXE := Lib.hid hX
  have HA : Hid (Below w.heap.size w (w.alloc (.cells #[.slice a n c, .slice a2 n2 c2] 25))) := Lib.hid ((Below.refl _ w).alloc (Nat.le_refl _) _)
  have HRX : Hid (RB (w.alloc (.cells #[.slice a n c, .slice a2 n2 c2] 25)) X #[.slice a n c, .slice a2 n2 c2] 25) := Lib.hid (by rw [hX]; exact (MapKept.heap_alloc w _).1)
  have HXl : Hid (X < (w.alloc (.cells #[.slice a n c, .slice a2 n2 c2] 25)).heap.size) := Lib.hid (by rw [hX, World.size_alloc]; omega)
  clear hs hno hg hs2 hg2 hT hq q1 q2 q3 q4 hok hln hln2 hO hX
  go_enter Tryz.func17, Tryz.ntmps17
  go_wp2_with fail
  try rw [← HXE.out]
  generalize (w.alloc (.cells #[.slice a n c, .slice a2 n2 c2] 25)) = W at HA HRX HXl ⊢
  refine (HIs.out _ HA.out).mono ?_
  rintro e u1 ⟨rfl, hb⟩
  have HW1 := Lib.hid (after HA.out hb)
  replace HRX := Lib.hid (HRX.out.next hb)
  have hXb : X < u1.heap.size := Nat.lt_of_lt_of_le HXl.out hb.size
  clear hb
  obtain ⟨b, hbb⟩ : ∃ b, b = u1.heap.size := ⟨_, rfl⟩
  have HBE := Lib.hid hbb
  have HFr : Hid (St b [] (u1.alloc (.cells #[.pointer none, .slice none 0 0] 91))) := Lib.hid (by rw [hbb]; exact Lib.fresh_isBuilder 91 5 u1)
  have HW0 : Hid (Below w.heap.size w (u1.alloc (.cells #[.pointer none, .slice none 0 0] 91))) := Lib.hid (HW1.out.alloc HW1.out.size _)
  replace HRX : Hid (RB (u1.alloc (.cells #[.pointer none, .slice none 0 0] 91)) X #[.slice a n c, .slice a2 n2 c2] 25) := Lib.hid (HRX.out.next ((Below.refl _ _).alloc (Nat.le_refl _) _))
  have HLe : Hid (b ≤ (u1.alloc (.cells #[.pointer none, .slice none 0 0] 91)).heap.size) := Lib.hid (by rw [hbb, World.size_alloc]; omega)
  have HNX : Hid (X ≠ b) := Lib.hid (by omega)
  have HBw : Hid (w.heap.size ≤ b) := Lib.hid (by rw [hbb]; exact HW1.out.size)
  obtain ⟨D0, hD0⟩ : ∃ D0 : ByteArray, D0 = ⟨#[67, 76, 69, 65, 84, 1]⟩ := ⟨_, rfl⟩
  have HWm : Hid (∀ (l : List UInt8) (u : World), St b l u → l.length ≤ 900000000 → b ≤ u.heap.size → Calls Tryz.prog 54 #[.pointer (some ⟨b, 0, none⟩), .string ⟨#[67, 76, 69, 65, 84, 1]⟩] u fun e u' => e = .returned (.tuple #[.int .i64 (6 : Nat), .nilIface]) ∧ St b (l ++ [67, 76, 69, 65, 84, 1]) u' ∧ KU b u u') := Lib.hid fun l u h hl hb => ws_any b l ⟨#[67, 76, 69, 65, 84, 1]⟩ u h (by show l.length + 6 ≤ 1000000000; omega) hb
  have HNum := Lib.hid (fun (v : Nat) (hv : v < 9223372036854775808) (l : List UInt8) (u : World) (h : St b l u) (hl : l.length ≤ 900000000) (hb : b ≤ u.heap.size) => num_any b l v hv u h hl hb)
  have hpl : ∀ v, v < 18446744073709551616 → (putL v).length ≤ 10 := fun v hv => putL_le hv
  have HPL := Lib.hid hpl
  clear hbb hXb HW1 hpl hD0 D0
  go_wp2_with fail
  try rw [← HBE.out]
  generalize hW0 : (u1.alloc (.cells #[.pointer none, .slice none 0 0] 91)) = W0 at HFr HW0 HRX HLe ⊢
  have HSt := Lib.hid HFr.out
  have HK := Lib.hid (KU.refl b W0)
  clear hW0 HBE
  refine (HWm.out _ _ HSt.out (by simp) (HK.out.le HLe.out)).mono ?_
  rintro e u ⟨rfl, hst, hku⟩
  replace HK := Lib.hid (HK.out.trans hku)
  replace HSt := Lib.hid hst
  replace HRX := Lib.hid (HRX.out.ku hku (by decide) HNX.out)
  clear hst hku
  have x_0 : u.cell? ⟨X, 0, none⟩ = some (.slice a n c) := HRX.out.cell
  go_wp2_with fail
  clear x_0
  refine (HNum.out n (by omega) _ _ HSt.out (by simp) (HK.out.le HLe.out)).mono ?_
  rintro e u ⟨rfl, hst, hku⟩
  replace HK := Lib.hid (HK.out.trans hku)
  replace HSt := Lib.hid hst
  replace HRX := Lib.hid (HRX.out.ku hku (by decide) HNX.out)
  clear hst hku
  have x_0 : u.cell? ⟨X, 0, none⟩ = some (.slice a n c) := HRX.out.cell
  go_wp2
  clear x_0
  obtain ⟨P1, hP1⟩ : ∃ P1 : List UInt8, P1 = [] ++ [67, 76, 69, 65, 84, 1] ++ putL n := ⟨_, rfl⟩
  have hP1l : P1.length ≤ 16 := by
    have := HPL.out n (by omega)
    rw [hP1]; simp only [List.length_append, List.length_nil, List.length_cons]; omega
  rw [← hP1] at HSt
  have HP1 := Lib.hid hP1
  have HKs := Lib.hid HK.out
  have HSts := Lib.hid HSt.out
  clear hP1 HK HSt HFr
  go_loopw [25] (fun i wr => ∃ (k : Nat) (wx : World), wx = wr ∧ k ≤ n ∧ i = .int .i64 k ∧ KU b W0 wx ∧ RB wx X #[.slice a n c, .slice a2 n2 c2] 25 ∧ St b (P1 ++ (L.take k).flatMap (fun m => secB m.sc)) wx) (fun i _ => n - (intOf i).toNat)
  case atStart => exact ⟨0, _, rfl, by omega, rfl, HKs.out, HRX.out, by simpa using HSts.out⟩
  case round =>
    clear HKs HSts HRX
    obtain ⟨k, wx, rfl, hk, rfl, hkx, hrx, hst0⟩ := hrel
    have HK := Lib.hid hkx
    have HRX := Lib.hid hrx
    have HSt := Lib.hid hst0
    clear hkx hrx hst0
    by_cases hlt : k < n
    · have hlti : (k : Int) < (n : Int) := by omega
      have hk1 : k < L.length := by have := HLn.out; omega
      obtain ⟨bb, off, rfl, hB, hc⟩ := (HS.out.next (KU.up HW0.out HBw.out HK.out)).cells (HS.out.ne hlt)
      obtain ⟨c0, c1, c2, c3, c4, c5⟩ := ms_cells (fun j hj => hc k hk1 j hj)
      have hgk := HG.out L[k] (List.getElem_mem hk1)
      have hnk := HNo.out L[k] (List.getElem_mem hk1)
      have hokk := HOk.out L[k] (List.getElem_mem hk1)
      have htk := take_map_succ (f := fun m : Ms => secB m.sc) hk1
      obtain ⟨ms, hms⟩ : ∃ ms, ms = L[k] := ⟨_, rfl⟩
      rw [← hms] at c0 c1 c2 c3 c4 c5 hgk hnk hokk htk
      clear hms hc
      obtain ⟨⟨nm, ki, kp, al, dt, rl⟩, ad, cp⟩ := ms
      obtain ⟨N, hN⟩ : ∃ N : ByteArray, N = ⟨nm.toArray⟩ := ⟨_, rfl⟩
      obtain ⟨B, hBB⟩ : ∃ B : ByteArray, B = ⟨dt.toArray⟩ := ⟨_, rfl⟩
      have hNl : nm = N.data.toList := by rw [hN]
      have hBl : dt = B.data.toList := by rw [hBB]
      simp only [] at c0 c1 c2 c3 c4 c5 hnk htk
      rw [← hN] at c0
      rw [← hBB] at c4
      clear hN hBB
      subst hNl hBl
      obtain ⟨o1, o2, o3, o4, o5, o6, o7, o8⟩ := hokk
      simp only [] at o1 o2 o3 o4 o5 o6 o7 o8
      have hgr := hgk.rels
      simp only [] at hgr
      have hNs : N.size ≤ 31 := by simpa using o1
      have hBs : B.size ≤ 4096 := by simpa using o6
      obtain ⟨kn, rfl⟩ : ∃ kn : Nat, ki = kn := ⟨ki.toNat, by omega⟩
      obtain ⟨an, rfl⟩ : ∃ an : Nat, al = an := ⟨al.toNat, by omega⟩
      obtain ⟨nr, hnr⟩ : ∃ nr, nr = rl.length := ⟨_, rfl⟩
      rw [← hnr] at c5 hnk
      have hnr64 : nr ≤ 64 := by omega
      have hnri : (nr : Int) ≤ 64 := by omega
      obtain ⟨p, hp⟩ : ∃ p : List UInt8, p = P1 ++ (L.take k).flatMap (fun m => secB m.sc) := ⟨_, rfl⟩
      have hpl : p.length ≤ 300000 := by
        rw [hp, List.length_append]
        have h1 := flat_le (f := fun m : Ms => secB m.sc) (m := 7000) (l := L.take k) (fun m hm => secB_len (HOk.out m (List.mem_of_mem_take hm)) (HG.out m (List.mem_of_mem_take hm)))
        have h2 : (L.take k).length ≤ 32 := by rw [List.length_take]; omega
        have h3 : (L.take k).length * 7000 ≤ 32 * 7000 := Nat.mul_le_mul_right 7000 h2
        omega
      rw [← hp] at HSt
      obtain ⟨kv, hkv⟩ : ∃ kv, kv = keepI kp := ⟨_, rfl⟩
      have hkv1 : kv ≤ 1 := by rw [hkv]; unfold keepI; split <;> omega
      have HKe : Hid (∀ u, Calls Tryz.prog 57 #[.bool kp] u (Ret (.int .i64 (kv : Int)) u)) := Lib.hid fun u => by
        have := keep_any kp u
        rw [hkv]; unfold keepI
        cases kp <;> exact this
      obtain ⟨X1, hX1⟩ : ∃ X1 : ByteArray, X1 = Wi.textB N := ⟨_, rfl⟩
      obtain ⟨X5, hX5⟩ : ∃ X5 : ByteArray, X5 = Wi.textB B := ⟨_, rfl⟩
      obtain ⟨t1, ht1⟩ : ∃ t1, t1 = txtL N.data.toList := ⟨_, rfl⟩
      obtain ⟨t5, ht5⟩ : ∃ t5, t5 = txtL B.data.toList := ⟨_, rfl⟩
      have HT1 : Hid (∀ u, Calls Tryz.prog 56 #[.string N] u (RetB (.string X1) u)) := Lib.hid fun u => by rw [hX1]; exact PutText_any N (by omega) u
      have HT5 : Hid (∀ u, Calls Tryz.prog 56 #[.string B] u (RetB (.string X5) u)) := Lib.hid fun u => by rw [hX5]; exact PutText_any B (by omega) u
      have e1 : t1.length ≤ 41 := by
        have := HPL.out N.data.toList.length (by omega)
        rw [ht1]; unfold txtL; rw [List.length_append]; omega
      have e5 : t5.length ≤ 4106 := by
        have := HPL.out B.data.toList.length (by omega)
        rw [ht5]; unfold txtL; rw [List.length_append]; omega
      have hX1l : X1.data.toList = t1 := by rw [hX1, ht1, textB_list]
      have hX5l : X5.data.toList = t5 := by rw [hX5, ht5, textB_list]
      have hX1s : X1.size ≤ 41 := by rw [← ba_size, hX1l]; exact e1
      have hX5s : X5.size ≤ 4106 := by rw [← ba_size, hX5l]; exact e5
      have HW1 : Hid (∀ (l : List UInt8) (u : World), St b l u → l.length ≤ 900000000 → b ≤ u.heap.size → Calls Tryz.prog 54 #[.pointer (some ⟨b, 0, none⟩), .string X1] u fun e u' => e = .returned (.tuple #[.int .i64 X1.size, .nilIface]) ∧ St b (l ++ t1) u' ∧ KU b u u') := Lib.hid fun l u h hl hb => by
        have := ws_any b l X1 u h (by omega) hb
        rwa [hX1l] at this
      have HW5 : Hid (∀ (l : List UInt8) (u : World), St b l u → l.length ≤ 900000000 → b ≤ u.heap.size → Calls Tryz.prog 54 #[.pointer (some ⟨b, 0, none⟩), .string X5] u fun e u' => e = .returned (.tuple #[.int .i64 X5.size, .nilIface]) ∧ St b (l ++ t5) u' ∧ KU b u u') := Lib.hid fun l u h hl hb => by
        have := ws_any b l X5 u h (by omega) hb
        rwa [hX5l] at this
      have HNa := Lib.hid (HNum.out kn (by omega))
      have HNb := Lib.hid (HNum.out kv (by omega))
      have HNc := Lib.hid (HNum.out an (by omega))
      have HNd := Lib.hid (HNum.out nr (by omega))
      have d2 := HPL.out kn (by omega)
      have d3 := HPL.out kv (by omega)
      have d4 := HPL.out an (by omega)
      have d6 := HPL.out nr (by omega)
      generalize hv2 : putL kn = v2 at HNa d2
      generalize hv3 : putL kv = v3 at HNb d3
      generalize hv4 : putL an = v4 at HNc d4
      generalize hv6 : putL nr = v6 at HNd d6
      have HSecB : Hid (P1 ++ (L.take (k + 1)).flatMap (fun m => secB m.sc) = p ++ t1 ++ v2 ++ v3 ++ v4 ++ t5 ++ v6 ++ rl.flatMap relB) := Lib.hid (by
        rw [htk, ← List.append_assoc, ← hp]
        unfold secB
        simp only [Int.toNat_natCast, ← hnr, ← hkv, hv2, hv3, hv4, hv6, ← ht1, ← ht5, List.append_assoc])
      have HRl : Hid (SL rlC 4 w w.heap.size ad nr rl) := Lib.hid hnk
      have HNr := Lib.hid hnr
      have HRok := Lib.hid o8
      have HRg := Lib.hid hgr
      obtain ⟨Z, hZ⟩ : ∃ Z, Z = wx.heap.size := ⟨_, rfl⟩
      have HEZ := Lib.hid hZ
      have HA2 : Hid (Below wx.heap.size wx (wx.alloc (.cells #[.string N, .int .i64 (kn : Int), .bool kp, .int .i64 (an : Int), .string B, .slice ad nr cp] 83))) := Lib.hid ((Below.refl _ wx).alloc (Nat.le_refl _) _)
      have HRZ : Hid (RB (wx.alloc (.cells #[.string N, .int .i64 (kn : Int), .bool kp, .int .i64 (an : Int), .string B, .slice ad nr cp] 83)) Z #[.string N, .int .i64 (kn : Int), .bool kp, .int .i64 (an : Int), .string B, .slice ad nr cp] 83) := Lib.hid (by rw [hZ]; exact (MapKept.heap_alloc wx _).1)
      have HNZ : Hid (Z ≠ b) := Lib.hid (by
        have h1 := HK.out.below.size
        rcases HSt.out with ⟨-, v, hh, -⟩ | ⟨-, v, hh, -⟩
        · have := lt_of_block hh; omega
        · have := lt_of_block hh; omega)
      replace HK := Lib.hid (HK.out.add HLe.out HA2.out)
      replace HSt := Lib.hid (HSt.out.next HA2.out)
      replace HRX := Lib.hid (HRX.out.next HA2.out)
      clear hnk hnr o8 hgr hZ hX1 hX5 ht1 ht5 hX1l hX5l hv2 hv3 hv4 hv6 htk hp hkv hgk hB o1 o2 o3 o4 o5 o6 o7
      go_wp2_with fail
      clear c0 c1 c2 c3 c4 c5
      try rw [← HEZ.out]
      generalize (wx.alloc (.cells #[.string N, .int .i64 (kn : Int), .bool kp, .int .i64 (an : Int), .string B, .slice ad nr cp] 83)) = W at HA2 HRZ HK HSt HRX ⊢
      clear HEZ HA2
      refine (HT1.out _).mono ?_
      rintro e u ⟨rfl, hb⟩
      replace HK := Lib.hid (HK.out.add HLe.out hb)
      replace HSt := Lib.hid (HSt.out.next hb)
      replace HRX := Lib.hid (HRX.out.next hb)
      replace HRZ := Lib.hid (HRZ.out.next hb)
      clear hb
      go_wp2_with fail
      refine (HW1.out _ _ HSt.out (by first | omega | (simp only [List.length_append]; omega)) (HK.out.le HLe.out)).mono ?_
      rintro e u ⟨rfl, hst, hku⟩
      replace HK := Lib.hid (HK.out.trans hku)
      replace HSt := Lib.hid hst
      replace HRX := Lib.hid (HRX.out.ku hku (by decide) HNX.out)
      replace HRZ := Lib.hid (HRZ.out.ku hku (by decide) HNZ.out)
      clear hst hku
      have z_1 : u.cell? ⟨Z, 1, none⟩ = some (.int .i64 (kn : Int)) := HRZ.out.cell
      go_wp2_with fail
      clear z_1
      refine (HNa.out _ _ HSt.out (by first | omega | (simp only [List.length_append]; omega)) (HK.out.le HLe.out)).mono ?_
      rintro e u ⟨rfl, hst, hku⟩
      replace HK := Lib.hid (HK.out.trans hku)
      replace HSt := Lib.hid hst
      replace HRX := Lib.hid (HRX.out.ku hku (by decide) HNX.out)
      replace HRZ := Lib.hid (HRZ.out.ku hku (by decide) HNZ.out)
      clear hst hku
      have z_2 : u.cell? ⟨Z, 2, none⟩ = some (.bool kp) := HRZ.out.cell
      go_wp2_with fail
      clear z_2
      refine (HKe.out _).mono ?_
      rintro e u0 ⟨rfl, rfl⟩
      go_wp2_with fail
      refine (HNb.out _ _ HSt.out (by first | omega | (simp only [List.length_append]; omega)) (HK.out.le HLe.out)).mono ?_
      rintro e u ⟨rfl, hst, hku⟩
      replace HK := Lib.hid (HK.out.trans hku)
      replace HSt := Lib.hid hst
      replace HRX := Lib.hid (HRX.out.ku hku (by decide) HNX.out)
      replace HRZ := Lib.hid (HRZ.out.ku hku (by decide) HNZ.out)
      clear hst hku
      have z_3 : u.cell? ⟨Z, 3, none⟩ = some (.int .i64 (an : Int)) := HRZ.out.cell
      go_wp2_with fail
      clear z_3
      refine (HNc.out _ _ HSt.out (by first | omega | (simp only [List.length_append]; omega)) (HK.out.le HLe.out)).mono ?_
      rintro e u ⟨rfl, hst, hku⟩
      replace HK := Lib.hid (HK.out.trans hku)
      replace HSt := Lib.hid hst
      replace HRX := Lib.hid (HRX.out.ku hku (by decide) HNX.out)
      replace HRZ := Lib.hid (HRZ.out.ku hku (by decide) HNZ.out)
      clear hst hku
      have z_4 : u.cell? ⟨Z, 4, none⟩ = some (.string B) := HRZ.out.cell
      go_wp2_with fail
      clear z_4
      refine (HT5.out _).mono ?_
      rintro e u ⟨rfl, hb⟩
      replace HK := Lib.hid (HK.out.add HLe.out hb)
      replace HSt := Lib.hid (HSt.out.next hb)
      replace HRX := Lib.hid (HRX.out.next hb)
      replace HRZ := Lib.hid (HRZ.out.next hb)
      clear hb
      go_wp2_with fail
      refine (HW5.out _ _ HSt.out (by first | omega | (simp only [List.length_append]; omega)) (HK.out.le HLe.out)).mono ?_
      rintro e u ⟨rfl, hst, hku⟩
      replace HK := Lib.hid (HK.out.trans hku)
      replace HSt := Lib.hid hst
      replace HRX := Lib.hid (HRX.out.ku hku (by decide) HNX.out)
      replace HRZ := Lib.hid (HRZ.out.ku hku (by decide) HNZ.out)
      clear hst hku
      have z_5 : u.cell? ⟨Z, 5, none⟩ = some (.slice ad nr cp) := HRZ.out.cell
      go_wp2_with fail
      clear z_5
      refine (HNd.out _ _ HSt.out (by first | omega | (simp only [List.length_append]; omega)) (HK.out.le HLe.out)).mono ?_
      rintro e u ⟨rfl, hst, hku⟩
      replace HK := Lib.hid (HK.out.trans hku)
      replace HSt := Lib.hid hst
      replace HRX := Lib.hid (HRX.out.ku hku (by decide) HNX.out)
      replace HRZ := Lib.hid (HRZ.out.ku hku (by decide) HNZ.out)
      clear hst hku
      have z_5 : u.cell? ⟨Z, 5, none⟩ = some (.slice ad nr cp) := HRZ.out.cell
      go_wp2
      clear z_5
      obtain ⟨g, hgp⟩ : ∃ g : List UInt8, g = p ++ t1 ++ v2 ++ v3 ++ v4 ++ t5 ++ v6 := ⟨_, rfl⟩
      have hgl : g.length ≤ 310000 := by rw [hgp]; simp only [List.length_append]; omega
      rw [← hgp] at HSecB HSt
      have HKs := Lib.hid HK.out
      have HSts := Lib.hid HSt.out
      clear hgp HK HSt HRZ HNZ e1 e5 d2 d3 d4 d6 hpl
      go_loopw [58] (fun i wr => ∃ (j : Nat) (wy : World), wy = wr ∧ j ≤ nr ∧ i = .int .i64 j ∧ KU b W0 wy ∧ RB wy X #[.slice (some ⟨bb, off, none⟩) n c, .slice a2 n2 c2] 25 ∧ St b (g ++ (rl.take j).flatMap relB) wy) (fun i _ => nr - (intOf i).toNat)
      case atStart => exact ⟨0, _, rfl, by omega, rfl, HKs.out, HRX.out, by simpa using HSts.out⟩
      case round =>
        clear HKs HSts HRX
        obtain ⟨j, wy, rfl, hj, rfl, hkx, hrx, hst0⟩ := hrel
        have HK := Lib.hid hkx
        have HRX := Lib.hid hrx
        have HSt := Lib.hid hst0
        clear hkx hrx hst0
        by_cases hlt2 : j < nr
        · have hlti2 : (j : Int) < (nr : Int) := by omega
          have hj1 : j < rl.length := by have := HNr.out; omega
          obtain ⟨b2, off2, rfl, hB2, hc2⟩ := (HRl.out.next (KU.up HW0.out HBw.out HK.out)).cells (HRl.out.ne hlt2)
          obtain ⟨d0, d1, d2, d3⟩ := rl_cells (fun q hq => hc2 j hj1 q hq)
          have hro := HRok.out rl[j] (List.getElem_mem hj1)
          have hrg := HRg.out rl[j] (List.getElem_mem hj1)
          have htk := take_map_succ (f := relB) hj1
          obtain ⟨x, hx⟩ : ∃ x, x = rl[j] := ⟨_, rfl⟩
          rw [← hx] at d0 d1 d2 d3 hro hrg htk
          clear hx hc2
          obtain ⟨r0, r1, r2, r3⟩ := x
          obtain ⟨o1, o2, o3, o4, o5⟩ := hro
          simp only [] at d0 d1 d2 d3 o1 o2 o3 o4 o5
          have hdl : B.data.toList.length ≤ 4096 := by simpa using hBs
          obtain ⟨r0, rfl⟩ : ∃ m : Nat, r0 = m := ⟨r0.toNat, by omega⟩
          obtain ⟨r1, rfl⟩ : ∃ m : Nat, r1 = m := ⟨r1.toNat, by omega⟩
          obtain ⟨r2, rfl⟩ : ∃ m : Nat, r2 = m := ⟨r2.toNat, by omega⟩
          have hr2 : (r2 : Int) ≤ 9223372036854775807 := hrg.2.2.1.2
          have hr3 : i64ok r3 := hrg.2.2.2
          obtain ⟨p, hp⟩ : ∃ p : List UInt8, p = g ++ (rl.take j).flatMap relB := ⟨_, rfl⟩
          have hpl : p.length ≤ 400000 := by
            rw [hp, List.length_append]
            have h1 := flat_le (f := relB) (m := 40) (l := rl.take j) (fun r hr => relB_len (HRok.out r (List.mem_of_mem_take hr)) hdl (HRg.out r (List.mem_of_mem_take hr)).2.2.2 (HRg.out r (List.mem_of_mem_take hr)).2.2.1)
            have h2 : (rl.take j).length ≤ 64 := by rw [List.length_take]; omega
            have h3 : (rl.take j).length * 40 ≤ 64 * 40 := Nat.mul_le_mul_right 40 h2
            omega
          rw [← hp] at HSt
          obtain ⟨X3, hX3⟩ : ∃ X3 : ByteArray, X3 = putB (zig r3) := ⟨_, rfl⟩
          have hX3l : X3.data.toList = putL (zig r3) := by rw [hX3, putB_list]
          have hzl := zig_lt hr3.1 hr3.2
          have d7 := HPL.out (zig r3) hzl
          have hX3s : X3.size ≤ 10 := by rw [← ba_size, hX3l]; exact d7
          have HT3 : Hid (∀ u, Calls Tryz.prog 58 #[.int .i64 r3] u (RetB (.string X3) u)) := Lib.hid fun u => by rw [hX3]; exact PutInt_any r3 hr3.1 hr3.2 u
          have HW3 : Hid (∀ (l : List UInt8) (u : World), St b l u → l.length ≤ 900000000 → b ≤ u.heap.size → Calls Tryz.prog 54 #[.pointer (some ⟨b, 0, none⟩), .string X3] u fun e u' => e = .returned (.tuple #[.int .i64 X3.size, .nilIface]) ∧ St b (l ++ (putL (zig r3))) u' ∧ KU b u u') := Lib.hid fun l u h hl hb => by
            have := ws_any b l X3 u h (by omega) hb
            rwa [hX3l] at this
          have HNa := Lib.hid (HNum.out r0 (by omega))
          have HNb := Lib.hid (HNum.out r1 (by omega))
          have HNc := Lib.hid (HNum.out r2 (by omega))
          have d4 := HPL.out r0 (by omega)
          have d5 := HPL.out r1 (by omega)
          have d6 := HPL.out r2 (by omega)
          have HRelB : Hid (g ++ (rl.take (j + 1)).flatMap relB = p ++ putL r0 ++ putL r1 ++ putL r2 ++ putL (zig r3)) := Lib.hid (by
            rw [htk, ← List.append_assoc, ← hp]
            unfold relB
            simp only [Int.toNat_natCast, List.append_assoc])
          generalize putL r0 = v0 at HNa d4 HRelB
          generalize putL r1 = v1 at HNb d5 HRelB
          generalize putL r2 = v2 at HNc d6 HRelB
          generalize putL (zig r3) = v3 at HW3 d7 HRelB hX3l
          obtain ⟨Y, hY⟩ : ∃ Y, Y = wy.heap.size := ⟨_, rfl⟩
          have HEY := Lib.hid hY
          have HA2 : Hid (Below wy.heap.size wy (wy.alloc (.cells #[.int .i64 (r0 : Int), .int .i64 (r1 : Int), .int .i64 (r2 : Int), .int .i64 r3] 102))) := Lib.hid ((Below.refl _ wy).alloc (Nat.le_refl _) _)
          have HRY : Hid (RB (wy.alloc (.cells #[.int .i64 (r0 : Int), .int .i64 (r1 : Int), .int .i64 (r2 : Int), .int .i64 r3] 102)) Y #[.int .i64 (r0 : Int), .int .i64 (r1 : Int), .int .i64 (r2 : Int), .int .i64 r3] 102) := Lib.hid (by rw [hY]; exact (MapKept.heap_alloc wy _).1)
          have HNY : Hid (Y ≠ b) := Lib.hid (by
            rcases HSt.out with ⟨-, v, hh, -⟩ | ⟨-, v, hh, -⟩
            · have := lt_of_block hh; omega
            · have := lt_of_block hh; omega)
          replace HK := Lib.hid (HK.out.add HLe.out HA2.out)
          replace HSt := Lib.hid (HSt.out.next HA2.out)
          replace HRX := Lib.hid (HRX.out.next HA2.out)
          clear hY hX3 hX3l htk hp hB2 o1 o2 o3 o4 o5 hr2 hr3 hrg hzl hdl
          go_wp2_with fail
          clear d0 d1 d2 d3
          try rw [← HEY.out]
          generalize (wy.alloc (.cells #[.int .i64 (r0 : Int), .int .i64 (r1 : Int), .int .i64 (r2 : Int), .int .i64 r3] 102)) = W at HA2 HRY HK HSt HRX ⊢
          clear HEY HA2
          refine (HNa.out _ _ HSt.out (by first | omega | (simp only [List.length_append]; omega)) (HK.out.le HLe.out)).mono ?_
          rintro e u ⟨rfl, hst, hku⟩
          replace HK := Lib.hid (HK.out.trans hku)
          replace HSt := Lib.hid hst
          replace HRX := Lib.hid (HRX.out.ku hku (by decide) HNX.out)
          replace HRY := Lib.hid (HRY.out.ku hku (by decide) HNY.out)
          clear hst hku
          have y_1 : u.cell? ⟨Y, 1, none⟩ = some (.int .i64 (r1 : Int)) := HRY.out.cell
          go_wp2_with fail
          clear y_1
          refine (HNb.out _ _ HSt.out (by first | omega | (simp only [List.length_append]; omega)) (HK.out.le HLe.out)).mono ?_
          rintro e u ⟨rfl, hst, hku⟩
          replace HK := Lib.hid (HK.out.trans hku)
          replace HSt := Lib.hid hst
          replace HRX := Lib.hid (HRX.out.ku hku (by decide) HNX.out)
          replace HRY := Lib.hid (HRY.out.ku hku (by decide) HNY.out)
          clear hst hku
          have y_2 : u.cell? ⟨Y, 2, none⟩ = some (.int .i64 (r2 : Int)) := HRY.out.cell
          go_wp2_with fail
          clear y_2
          refine (HNc.out _ _ HSt.out (by first | omega | (simp only [List.length_append]; omega)) (HK.out.le HLe.out)).mono ?_
          rintro e u ⟨rfl, hst, hku⟩
          replace HK := Lib.hid (HK.out.trans hku)
          replace HSt := Lib.hid hst
          replace HRX := Lib.hid (HRX.out.ku hku (by decide) HNX.out)
          replace HRY := Lib.hid (HRY.out.ku hku (by decide) HNY.out)
          clear hst hku
          have y_3 : u.cell? ⟨Y, 3, none⟩ = some (.int .i64 r3) := HRY.out.cell
          go_wp2_with fail
          clear y_3
          refine (HT3.out _).mono ?_
          rintro e u ⟨rfl, hb⟩
          replace HK := Lib.hid (HK.out.add HLe.out hb)
          replace HSt := Lib.hid (HSt.out.next hb)
          replace HRX := Lib.hid (HRX.out.next hb)
          replace HRY := Lib.hid (HRY.out.next hb)
          clear hb
          go_wp2_with fail
          refine (HW3.out _ _ HSt.out (by first | omega | (simp only [List.length_append]; omega)) (HK.out.le HLe.out)).mono ?_
          rintro e u ⟨rfl, hst, hku⟩
          replace HK := Lib.hid (HK.out.trans hku)
          replace HSt := Lib.hid hst
          replace HRX := Lib.hid (HRX.out.ku hku (by decide) HNX.out)
          replace HRY := Lib.hid (HRY.out.ku hku (by decide) HNY.out)
          clear hst hku
          go_wp2
          go_roundw
          case rel => exact ⟨j + 1, _, rfl, by omega, by go_num, HK.out, HRX.out, by rw [HRelB.out]; exact HSt.out⟩
          case measure => simp [intOf]; omega
        · have hlti2 : ¬ (j : Int) < (nr : Int) := by omega
          have HSt2 : Hid (St b (P1 ++ (L.take (k + 1)).flatMap (fun m => secB m.sc)) wy) := Lib.hid (by
            have := HSt.out
            rw [List.take_of_length_le (by have := HNr.out; omega)] at this
            rw [HSecB.out]; exact this)
          go_wp2
          go_roundw
          case rel => exact ⟨k + 1, _, rfl, by omega, by go_num, HK.out, HRX.out, HSt2.out⟩
          case measure => simp [intOf]; omega
    · have hlti : ¬ (k : Int) < (n : Int) := by omega
      obtain ⟨p, hp⟩ : ∃ p : List UInt8, p = P1 ++ L.flatMap (fun m => secB m.sc) := ⟨_, rfl⟩
      rw [List.take_of_length_le (by have := HLn.out; omega), ← hp] at HSt
      have hpl : p.length ≤ 300000 := by
        rw [hp, List.length_append]
        have h1 := flat_le (f := fun m : Ms => secB m.sc) (m := 7000) (l := L) (fun m hm => secB_len (HOk.out m hm) (HG.out m hm))
        have h2 : L.length ≤ 32 := by have := HLn.out; omega
        have h3 : L.length * 7000 ≤ 32 * 7000 := Nat.mul_le_mul_right 7000 h2
        omega
      have HP := Lib.hid hp
      clear hp
      have x_1 : wx.cell? ⟨X, 1, none⟩ = some (.slice a2 n2 c2) := HRX.out.cell
      go_wp2_with fail
      clear x_1
      refine (HNum.out n2 (by omega) _ _ HSt.out (by first | omega | (simp only [List.length_append]; omega)) (HK.out.le HLe.out)).mono ?_
      rintro e u ⟨rfl, hst, hku⟩
      replace HK := Lib.hid (HK.out.trans hku)
      replace HSt := Lib.hid hst
      replace HRX := Lib.hid (HRX.out.ku hku (by decide) HNX.out)
      clear hst hku
      have x_1 : u.cell? ⟨X, 1, none⟩ = some (.slice a2 n2 c2) := HRX.out.cell
      go_wp2
      clear x_1
      obtain ⟨g, hgp⟩ : ∃ g : List UInt8, g = p ++ putL n2 := ⟨_, rfl⟩
      have hgl : g.length ≤ 310000 := by
        have := HPL.out n2 (by omega)
        rw [hgp, List.length_append]; omega
      rw [← hgp] at HSt
      have HOE : Hid (O = g ++ l.flatMap symB) := Lib.hid (by rw [HO.out, hgp, HP.out, HP1.out]; simp only [List.nil_append])
      have HKs := Lib.hid HK.out
      have HSts := Lib.hid HSt.out
      clear hgp HK HSt hpl
      go_loopw [88] (fun i wr => ∃ (j : Nat) (wy : World), wy = wr ∧ j ≤ n2 ∧ i = .int .i64 j ∧ KU b W0 wy ∧ St b (g ++ (l.take j).flatMap symB) wy) (fun i _ => n2 - (intOf i).toNat)
      case atStart => exact ⟨0, _, rfl, by omega, rfl, HKs.out, by simpa using HSts.out⟩
      case round =>
        clear HKs HSts HRX
        obtain ⟨j, wy, rfl, hj, rfl, hkx, hst0⟩ := hrel
        have HK := Lib.hid hkx
        have HSt := Lib.hid hst0
        clear hkx hst0
        by_cases hlt2 : j < n2
        · have hlti2 : (j : Int) < (n2 : Int) := by omega
          have hj1 : j < l.length := by have := HLn2.out; omega
          obtain ⟨b2, off2, rfl, hB2, hc2⟩ := (HS2.out.next (KU.up HW0.out HBw.out HK.out)).cells (HS2.out.ne hlt2)
          obtain ⟨d0, d1, d2, d3⟩ := sy_cells (fun q hq => hc2 j hj1 q hq)
          have hro := HOk2.out l[j] (List.getElem_mem hj1)
          have htk := take_map_succ (f := symB) hj1
          obtain ⟨x, hx⟩ : ∃ x, x = l[j] := ⟨_, rfl⟩
          rw [← hx] at d0 d1 d2 d3 hro htk
          clear hx hc2
          obtain ⟨nm, bi, se, of⟩ := x
          obtain ⟨N, hN⟩ : ∃ N : ByteArray, N = ⟨nm.toArray⟩ := ⟨_, rfl⟩
          have hNl : nm = N.data.toList := by rw [hN]
          simp only [] at d0 d1 d2 d3
          rw [← hN] at d0
          clear hN
          subst hNl
          obtain ⟨o1, o2, o3, o4, o5, o6, o7⟩ := hro
          simp only [] at o1 o2 o3 o4 o5 o6 o7
          have hNs : N.size ≤ 31 := by simpa using o1
          obtain ⟨bn, rfl⟩ : ∃ m : Nat, bi = m := ⟨bi.toNat, by omega⟩
          obtain ⟨on, rfl⟩ : ∃ m : Nat, of = m := ⟨of.toNat, by omega⟩
          obtain ⟨sn, hsn⟩ : ∃ m : Nat, se + 1 = m := ⟨(se + 1).toNat, by omega⟩
          have hsw : IntKind.i64.wrap (se + 1) = (sn : Int) := by rw [IntKind.wrap_i64]; omega
          have hsw2 : IntKind.i64.wrap (sn : Int) = (sn : Int) := by rw [IntKind.wrap_i64]; omega
          obtain ⟨p, hp⟩ : ∃ p : List UInt8, p = g ++ (l.take j).flatMap symB := ⟨_, rfl⟩
          have hpl : p.length ≤ 400000 := by
            rw [hp, List.length_append]
            have h1 := flat_le (f := symB) (m := 100) (l := l.take j) (fun r hr => symB_len (HOk2.out r (List.mem_of_mem_take hr)))
            have h2 : (l.take j).length ≤ 128 := by rw [List.length_take]; omega
            have h3 : (l.take j).length * 100 ≤ 128 * 100 := Nat.mul_le_mul_right 100 h2
            omega
          rw [← hp] at HSt
          obtain ⟨X1, hX1⟩ : ∃ X1 : ByteArray, X1 = Wi.textB N := ⟨_, rfl⟩
          obtain ⟨t1, ht1⟩ : ∃ t1, t1 = txtL N.data.toList := ⟨_, rfl⟩
          have HT1 : Hid (∀ u, Calls Tryz.prog 56 #[.string N] u (RetB (.string X1) u)) := Lib.hid fun u => by rw [hX1]; exact PutText_any N (by omega) u
          have e1 : t1.length ≤ 41 := by
            have := HPL.out N.data.toList.length (by omega)
            rw [ht1]; unfold txtL; rw [List.length_append]; omega
          have hX1l : X1.data.toList = t1 := by rw [hX1, ht1, textB_list]
          have hX1s : X1.size ≤ 41 := by rw [← ba_size, hX1l]; exact e1
          have HW1 : Hid (∀ (l : List UInt8) (u : World), St b l u → l.length ≤ 900000000 → b ≤ u.heap.size → Calls Tryz.prog 54 #[.pointer (some ⟨b, 0, none⟩), .string X1] u fun e u' => e = .returned (.tuple #[.int .i64 X1.size, .nilIface]) ∧ St b (l ++ t1) u' ∧ KU b u u') := Lib.hid fun l u h hl hb => by
            have := ws_any b l X1 u h (by omega) hb
            rwa [hX1l] at this
          have HNa := Lib.hid (HNum.out bn (by omega))
          have HNb := Lib.hid (HNum.out sn (by omega))
          have HNc := Lib.hid (HNum.out on (by omega))
          have d4 := HPL.out bn (by omega)
          have d5 := HPL.out sn (by omega)
          have d6 := HPL.out on (by omega)
          have HSymB : Hid (g ++ (l.take (j + 1)).flatMap symB = p ++ t1 ++ putL bn ++ putL sn ++ putL on) := Lib.hid (by
            rw [htk, ← List.append_assoc, ← hp]
            unfold symB
            simp only [Int.toNat_natCast, hsn, ← ht1, List.append_assoc])
          generalize putL bn = v0 at HNa d4 HSymB
          generalize putL sn = v1 at HNb d5 HSymB
          generalize putL on = v2 at HNc d6 HSymB
          obtain ⟨Y, hY⟩ : ∃ Y, Y = wy.heap.size := ⟨_, rfl⟩
          have HEY := Lib.hid hY
          have HA2 : Hid (Below wy.heap.size wy (wy.alloc (.cells #[.string N, .int .i64 (bn : Int), .int .i64 se, .int .i64 (on : Int)] 56))) := Lib.hid ((Below.refl _ wy).alloc (Nat.le_refl _) _)
          have HRY : Hid (RB (wy.alloc (.cells #[.string N, .int .i64 (bn : Int), .int .i64 se, .int .i64 (on : Int)] 56)) Y #[.string N, .int .i64 (bn : Int), .int .i64 se, .int .i64 (on : Int)] 56) := Lib.hid (by rw [hY]; exact (MapKept.heap_alloc wy _).1)
          have HNY : Hid (Y ≠ b) := Lib.hid (by
            rcases HSt.out with ⟨-, v, hh, -⟩ | ⟨-, v, hh, -⟩
            · have := lt_of_block hh; omega
            · have := lt_of_block hh; omega)
          replace HK := Lib.hid (HK.out.add HLe.out HA2.out)
          replace HSt := Lib.hid (HSt.out.next HA2.out)
          have hse : se = (sn : Int) - 1 := by omega
          clear hY hX1 hX1l htk hp hB2 o1 o2 o3 o4 o5 o6 o7 ht1 hsn hse
          go_wp2_with fail
          clear d0 d1 d2 d3
          try rw [← HEY.out]
          generalize (wy.alloc (.cells #[.string N, .int .i64 (bn : Int), .int .i64 se, .int .i64 (on : Int)] 56)) = W at HA2 HRY HK HSt ⊢
          clear HEY HA2
          refine (HT1.out _).mono ?_
          rintro e u ⟨rfl, hb⟩
          replace HK := Lib.hid (HK.out.add HLe.out hb)
          replace HSt := Lib.hid (HSt.out.next hb)
          replace HRY := Lib.hid (HRY.out.next hb)
          clear hb
          go_wp2_with fail
          refine (HW1.out _ _ HSt.out (by first | omega | (simp only [List.length_append]; omega)) (HK.out.le HLe.out)).mono ?_
          rintro e u ⟨rfl, hst, hku⟩
          replace HK := Lib.hid (HK.out.trans hku)
          replace HSt := Lib.hid hst
          replace HRY := Lib.hid (HRY.out.ku hku (by decide) HNY.out)
          clear hst hku
          have y_1 : u.cell? ⟨Y, 1, none⟩ = some (.int .i64 (bn : Int)) := HRY.out.cell
          go_wp2_with fail
          clear y_1
          refine (HNa.out _ _ HSt.out (by first | omega | (simp only [List.length_append]; omega)) (HK.out.le HLe.out)).mono ?_
          rintro e u ⟨rfl, hst, hku⟩
          replace HK := Lib.hid (HK.out.trans hku)
          replace HSt := Lib.hid hst
          replace HRY := Lib.hid (HRY.out.ku hku (by decide) HNY.out)
          clear hst hku
          have y_2 : u.cell? ⟨Y, 2, none⟩ = some (.int .i64 se) := HRY.out.cell
          go_wp2_with fail
          clear y_2
          refine (HNb.out _ _ HSt.out (by first | omega | (simp only [List.length_append]; omega)) (HK.out.le HLe.out)).mono ?_
          rintro e u ⟨rfl, hst, hku⟩
          replace HK := Lib.hid (HK.out.trans hku)
          replace HSt := Lib.hid hst
          replace HRY := Lib.hid (HRY.out.ku hku (by decide) HNY.out)
          clear hst hku
          have y_3 : u.cell? ⟨Y, 3, none⟩ = some (.int .i64 (on : Int)) := HRY.out.cell
          go_wp2_with fail
          clear y_3
          refine (HNc.out _ _ HSt.out (by first | omega | (simp only [List.length_append]; omega)) (HK.out.le HLe.out)).mono ?_
          rintro e u ⟨rfl, hst, hku⟩
          replace HK := Lib.hid (HK.out.trans hku)
          replace HSt := Lib.hid hst
          replace HRY := Lib.hid (HRY.out.ku hku (by decide) HNY.out)
          clear hst hku
          go_wp2
          go_roundw
          case rel => exact ⟨j + 1, _, rfl, by omega, by go_num, HK.out, by rw [HSymB.out]; exact HSt.out⟩
          case measure => simp [intOf]; omega
        · have hlti2 : ¬ (j : Int) < (n2 : Int) := by omega
          have HSt2 : Hid (St b O wy) := Lib.hid (by
            have := HSt.out
            rw [List.take_of_length_le (by have := HLn2.out; omega)] at this
            rw [HOE.out]; exact this)
          have HOne : Hid (O ≠ []) := Lib.hid (fun h => by
            have := congrArg List.length h
            rw [HO.out] at this
            simp at this)
          have HStr : Hid (Calls Tryz.prog 59 #[.pointer (some ⟨b, 0, none⟩)] wy fun e w' => e = .returned (.string ⟨O.toArray⟩) ∧ Below b wy w') := Lib.hid (string_some b b O wy HSt2.out HOne.out)
          have HBY := Lib.hid (KU.up HW0.out HBw.out HK.out)
          go_wp2_with fail
          refine (HStr.out).mono ?_
          rintro e u ⟨rfl, hb⟩
          have HB5 := Lib.hid (HBY.out.trans (hb.mono HBw.out))
          clear hb
          go_wp2
          go_ret2
          exact ⟨rfl, HB5.out⟩
theorem oPut_any (a : Option Addr) (n c : Nat) (L : List Ms) (a2 : Option Addr) (n2 c2 : Nat) (l : List Sy) (hn : n ≤ maxLen) (hn2 : n2 ≤ maxLen) (w : World) (hs : SL msC 6 w w.heap.size a n L) (hno : Notes w w.heap.size L) (hg : ∀ m ∈ L, GoodSc m.sc) (hs2 : SL syC 4 w w.heap.size a2 n2 l) (hg2 : ∀ s ∈ l, GoodSy s) (hT : TabP w) :
    Calls Tryz.prog 17 #[.agg #[.slice a n c, .slice a2 n2 c2]] w (RetB (.tuple #[.string ⟨(putR ⟨L.map (·.sc), l⟩).1.toArray⟩, .int .i64 (putR ⟨L.map (·.sc), l⟩).2]) w) := by
  unfold putR
  cases hq : isO ⟨L.map (·.sc), l⟩
  · exact oPut_no a n c L a2 n2 c2 l hn hn2 w hs hno hg hs2 hg2 hT hq
  · exact oPut_yes a n c L a2 n2 c2 l hn hn2 w hs hno hg hs2 hg2 hT hq
end Go.Proofs.YtkdhomofagjcmaaGreatDoor
