/- The reference's Same of two objects. -/
import Derived.Test.YtmlofdolenmkoaaGreatDoorkSR
namespace Go.Proofs.YtmlofdolenmkoaaGreatDoor
set_option linter.unusedVariables false
set_option linter.unusedSimpArgs false
open Go.ChangeShapes Go.WideShapes Go.Deep Go.RowKit

def SameP (p : Prop) (w : World) (e : Ending) (w' : World) : Prop := ∃ r : Bool, e = .returned (.bool r) ∧ (r = true ↔ p) ∧ Below w.heap.size w w'
set_option maxRecDepth 100000 in
set_option maxHeartbeats 3000000 in
theorem rOSame_any (a a2 a' a2' : Option Addr) (n c n2 c2 n' c' n2' c2' : Nat) (L L' : List Ms) (l l' : List Sy) (w : World) (hn : n ≤ maxLen) (hn2 : n2 ≤ maxLen) (hn' : n' ≤ maxLen) (hn2' : n2' ≤ maxLen)
    (hs : SL msC 6 w w.heap.size a n L) (hs2 : SL syC 4 w w.heap.size a2 n2 l) (hs' : SL msC 6 w w.heap.size a' n' L') (hs2' : SL syC 4 w w.heap.size a2' n2' l') (hno : Notes w w.heap.size L) (hno' : Notes w w.heap.size L') (hr : ∀ m ∈ L, m.sc.rels.length ≤ 1000000) (hr' : ∀ m ∈ L', m.sc.rels.length ≤ 1000000) :
    Calls Tryz.prog 67 #[.agg #[.slice a n c, .slice a2 n2 c2], .agg #[.slice a' n' c', .slice a2' n2' c2']] w (SameP (L.map (·.sc) = L'.map (·.sc) ∧ l = l') w) := by
  have HSy : Hid (∀ u, Below w.heap.size w u → Calls Tryz.prog 101 #[.slice a2 n2 c2, .slice a2' n2' c2'] u (fun e w' => ∃ r : Bool, e = .returned (.bool r) ∧ (r = true ↔ l = l') ∧ Below u.heap.size u w')) := Lib.hid fun u hu => rSyms_any a2 a2' n2 n2' c2 c2' l l' u hn2 hn2' (hs2.next hu) (hs2'.next hu)
  have HS := Lib.hid hs
  have HS' := Lib.hid hs'
  have HNo := Lib.hid hno
  have HNo' := Lib.hid hno'
  have HRb := Lib.hid hr
  have HRb' := Lib.hid hr'
  have HLn := Lib.hid hs.len
  have HLn' := Lib.hid hs'.len
  have hni : (n : Int) ≤ 9223372036854775807 := by unfold maxLen at hn; omega
  have HW := Lib.hid (two_rb (w := w) (A := #[.slice a n c, .slice a2 n2 c2]) (B := #[.slice a' n' c', .slice a2' n2' c2']) (T := 53) (U := 53))
  by_cases h1 : n = n'
  rotate_left
  · have e1 : ((n : Int) != (n' : Int)) = true := by rw [bne_iff_ne]; omega
    have hne : Hid (L.map (·.sc) ≠ L'.map (·.sc)) := Lib.hid (fun h => by
      have := congrArg List.length h
      simp only [List.length_map] at this
      exact h1 (HLn.out.trans (this.trans HLn'.out.symm)))
    have HB0 := Lib.hid HW.out.2.2
    clear hs hs2 hs' hs2' hno hno' hr hr' h1 HW HSy
    go_enter Tryz.func67, Tryz.ntmps67
    go_wp2
    go_ret
    exact ⟨false, rfl, ⟨fun h => (by cases h), fun h => absurd h.1 hne.out⟩, HB0.out⟩
  subst h1
  obtain ⟨X, hX⟩ : ∃ X, X = w.heap.size := ⟨_, rfl⟩
  rw [← hX] at HW
  have HXE := Lib.hid hX
  clear hs hs2 hs' hs2' hno hno' hr hr' hX
  go_enter Tryz.func67, Tryz.ntmps67
  go_wp2_with fail
  try rw [← HXE.out]
  generalize (w.alloc (.cells #[.slice a n c, .slice a2 n2 c2] 53)).alloc (.cells #[.slice a' n c', .slice a2' n2' c2'] 53) = W at HW ⊢
  have HB : Hid (Below w.heap.size w W) := Lib.hid (by have := HW.out.2.2; rw [HXE.out] at this; exact this)
  have HRX := Lib.hid HW.out.1
  have HRY := Lib.hid HW.out.2.1
  clear HW HXE
  refine (HSy.out _ HB.out).mono ?_
  rintro e u ⟨r, rfl, hr, hb⟩
  have HR := Lib.hid hr
  replace HB := Lib.hid (after HB.out hb)
  replace HRX := Lib.hid (HRX.out.next hb)
  replace HRY := Lib.hid (HRY.out.next hb)
  clear hb hr
  cases r
  · go_wp2
    go_ret
    exact ⟨false, rfl, ⟨fun h => (by cases h), fun h => (by have := HR.out.2 h.2; cases this)⟩, HB.out⟩
  have HEl : Hid (l = l') := Lib.hid (HR.out.1 rfl)
  go_wp2
  have HBs := Lib.hid HB.out
  have HXs := Lib.hid HRX.out
  have HYs := Lib.hid HRY.out
  clear HB HRX HRY HSy HR
  go_loopw [5] (fun i wr => ∃ (k : Nat) (wx : World), wx = wr ∧ k ≤ n ∧ i = .int .i64 k ∧ Below w.heap.size w wx ∧ RB wx X #[.slice a n c, .slice a2 n2 c2] 53 ∧ RB wx (X + 1) #[.slice a' n c', .slice a2' n2' c2'] 53 ∧ Hid ((L.take k).map (·.sc) = (L'.take k).map (·.sc))) (fun i _ => n - (intOf i).toNat)
  case atStart => exact ⟨0, _, rfl, by omega, rfl, HBs.out, HXs.out, HYs.out, Lib.hid (by simp)⟩
  case round =>
    clear HBs HXs HYs
    obtain ⟨k, wx, rfl, hk, rfl, hb, hrx, hry, HI⟩ := hrel
    have HB := Lib.hid hb
    have HRX := Lib.hid hrx
    have HRY := Lib.hid hry
    clear hb hrx hry
    by_cases hlt : k < n
    · have hlti : (k : Int) < (n : Int) := by omega
      have hk1 : k < L.length := by have := HLn.out; omega
      have hk2 : k < L'.length := by have := HLn'.out; omega
      obtain ⟨bb, off, rfl, hB1, hc⟩ := (HS.out.next HB.out).cells (HS.out.ne hlt)
      obtain ⟨bd, ofd, rfl, hB2, hd⟩ := (HS'.out.next HB.out).cells (HS'.out.ne hlt)
      obtain ⟨c0, c1, c2', c3, c4, c5⟩ := ms_cells (fun j hj => hc k hk1 j hj)
      obtain ⟨d0, d1, d2, d3, d4, d5⟩ := ms_cells (fun j hj => hd k hk2 j hj)
      have hnk := HNo.out L[k] (List.getElem_mem hk1)
      have hnk' := HNo'.out L'[k] (List.getElem_mem hk2)
      have hbk := HRb.out L[k] (List.getElem_mem hk1)
      have hbk' := HRb'.out L'[k] (List.getElem_mem hk2)
      obtain ⟨ms, hms⟩ : ∃ ms, ms = L[k] := ⟨_, rfl⟩
      obtain ⟨mt, hmt⟩ : ∃ mt, mt = L'[k] := ⟨_, rfl⟩
      rw [← hms] at c0 c1 c2' c3 c4 c5 hnk hbk
      rw [← hmt] at d0 d1 d2 d3 d4 d5 hnk' hbk'
      have HMs := Lib.hid hms
      have HMt := Lib.hid hmt
      clear hms hmt hc hd hB1 hB2
      obtain ⟨⟨nm, ki, kp, al, dt, rl⟩, ad, cp⟩ := ms
      obtain ⟨⟨nm', ki', kp', al', dt', rl'⟩, ad', cp'⟩ := mt
      obtain ⟨N, hN⟩ : ∃ N : ByteArray, N = ⟨nm.toArray⟩ := ⟨_, rfl⟩
      obtain ⟨B, hBB⟩ : ∃ B : ByteArray, B = ⟨dt.toArray⟩ := ⟨_, rfl⟩
      obtain ⟨N', hN'⟩ : ∃ N : ByteArray, N = ⟨nm'.toArray⟩ := ⟨_, rfl⟩
      obtain ⟨B', hBB'⟩ : ∃ B : ByteArray, B = ⟨dt'.toArray⟩ := ⟨_, rfl⟩
      have hNl : nm = N.data.toList := by rw [hN]
      have hBl : dt = B.data.toList := by rw [hBB]
      have hNl' : nm' = N'.data.toList := by rw [hN']
      have hBl' : dt' = B'.data.toList := by rw [hBB']
      simp only [] at c0 c1 c2' c3 c4 c5 d0 d1 d2 d3 d4 d5 hnk hnk' hbk hbk'
      rw [← hN] at c0
      rw [← hBB] at c4
      rw [← hN'] at d0
      rw [← hBB'] at d4
      clear hN hBB hN' hBB'
      subst hNl hBl hNl' hBl'
      obtain ⟨nr, hnr⟩ : ∃ nr, nr = rl.length := ⟨_, rfl⟩
      obtain ⟨nr', hnr'⟩ : ∃ nr, nr = rl'.length := ⟨_, rfl⟩
      rw [← hnr] at c5 hnk hbk
      rw [← hnr'] at d5 hnk' hbk'
      have HC : Hid (∀ u, Below w.heap.size w u → Calls Tryz.prog 15 #[.agg #[.string N, .int .i64 ki, .bool kp, .int .i64 al, .string B, .slice ad nr cp], .agg #[.string N', .int .i64 ki', .bool kp', .int .i64 al', .string B', .slice ad' nr' cp']] u (fun e w' => ∃ r : Bool, e = .returned (.bool r) ∧ (r = true ↔ (N = N' ∧ ki = ki' ∧ kp = kp' ∧ al = al' ∧ B = B' ∧ rl = rl')) ∧ Below u.heap.size u w')) := Lib.hid fun u hu => rSame_any N B N' B' ki ki' kp kp' al al' ad ad' nr cp nr' cp' rl rl' u hbk hbk' (hnk.next hu) (hnk'.next hu)
      have HT1 : Hid ((L.take (k + 1)).map (·.sc) = (L.take k).map (·.sc) ++ [⟨N.data.toList, ki, kp, al, B.data.toList, rl⟩]) := Lib.hid (by
        rw [List.take_succ_eq_append_getElem hk1, List.map_append, List.map_cons, List.map_nil, ← HMs.out])
      have HT2 : Hid ((L'.take (k + 1)).map (·.sc) = (L'.take k).map (·.sc) ++ [⟨N'.data.toList, ki', kp', al', B'.data.toList, rl'⟩]) := Lib.hid (by
        rw [List.take_succ_eq_append_getElem hk2, List.map_append, List.map_cons, List.map_nil, ← HMt.out])
      clear hnr hnr' hnk hnk' hbk hbk' HMs HMt
      have x0 : wx.cell? ⟨X, 0, none⟩ = some (.slice (some ⟨bb, off, none⟩) n c) := HRX.out.cell
      have y0 : wx.cell? ⟨X + 1, 0, none⟩ = some (.slice (some ⟨bd, ofd, none⟩) n c') := HRY.out.cell
      go_wp2_with fail
      first | (go_region_with (go_at_call 15; refine (HC.out _ (HB.out.trans (((Below.refl wx.heap.size wx).drew).mono HB.out.size))).mono ?_; rintro e u ⟨r, rfl, hr, hb⟩; have hb2 : Below wx.heap.size wx u := ((Below.refl wx.heap.size wx).drew).trans hb)) | fail
      all_goals
        replace HRX := Lib.hid (HRX.out.next hb2)
        replace HRY := Lib.hid (HRY.out.next hb2)
        replace HB := Lib.hid (after HB.out hb2)
        have HR := Lib.hid hr
        clear hb2 hr x0 y0 c0 c1 c2' c3 c4 c5 d0 d1 d2 d3 d4 d5
        cases r
        · have HNE : Hid (L.map (·.sc) ≠ L'.map (·.sc)) := Lib.hid (fun h => by
            have h2 := congrArg (List.take (k + 1)) h
            rw [← List.map_take, ← List.map_take, HT1.out, HT2.out, HI.out] at h2
            have h3 := List.append_cancel_left h2
            simp only [List.cons.injEq, Sc.mk.injEq, and_true] at h3
            obtain ⟨q1, q2, q3, q4, q5, q6⟩ := h3
            have := HR.out.2 ⟨ByteArray.ext (Array.toList_inj.1 q1), q2, q3, q4, ByteArray.ext (Array.toList_inj.1 q5), q6⟩
            cases this)
          go_wp2
          go_ret
          exact ⟨false, rfl, ⟨fun h => (by cases h), fun h => absurd h.1 HNE.out⟩, HB.out⟩
        · have HI2 : Hid ((L.take (k + 1)).map (·.sc) = (L'.take (k + 1)).map (·.sc)) := Lib.hid (by
            obtain ⟨q1, q2, q3, q4, q5, q6⟩ := HR.out.1 rfl
            rw [HT1.out, HT2.out, HI.out, q1, q2, q3, q4, q5, q6])
          go_wp2
          go_roundw
          case rel => exact ⟨k + 1, _, rfl, by omega, by go_num, HB.out, HRX.out, HRY.out, HI2⟩
          case measure => simp [intOf]; omega
    · have hlti : ¬ (k : Int) < (n : Int) := by omega
      have x0 : wx.cell? ⟨X, 0, none⟩ = some (.slice a n c) := HRX.out.cell
      have HE : Hid (L.map (·.sc) = L'.map (·.sc)) := Lib.hid (by
        have := HI.out
        rwa [List.take_of_length_le (by have := HLn.out; omega), List.take_of_length_le (by have := HLn'.out; omega)] at this)
      go_wp2
      go_ret
      exact ⟨true, rfl, ⟨fun _ => ⟨HE.out, HEl.out⟩, fun _ => rfl⟩, HB.out⟩
end Go.Proofs.YtmlofdolenmkoaaGreatDoor
