/- lex: quoted, Quote, IsWord; the references' Same and Ints. -/
import Derived.Test.YtngoipcjipbelaaDoorLK
import Derived.Deep.QuietTactic
namespace Go.Proofs.YtngoipcjipbelaaDoor
set_option linter.unusedVariables false
set_option linter.unusedSimpArgs false
open Go.ChangeShapes Go.WideShapes Go.Deep Go.RowKit

def escB (r : Nat) : ByteArray := ⟨((escR r).flatMap encL).toArray⟩
theorem ba_ext {a b : ByteArray} (h : a.data.toList = b.data.toList) : a = b := by
  cases a; cases b
  congr 1
  exact Array.ext' h
theorem encode_ba {r : Nat} (h : VR r) : Utf8.encode (r : Int) = ⟨(encL r).toArray⟩ := ba_ext (by rw [encode_encL h])
theorem esc_size {r : Nat} (h : VR r) : (escB r).size ≤ 5 := by
  unfold escB
  show ((escR r).flatMap encL).toArray.size ≤ 5
  have e := (encL_len h).2
  have e1 : (encL 92).length = 1 := by decide
  simp only [List.size_toArray]
  unfold escR
  split
  · decide
  split
  · decide
  split
  · decide
  split
  · simp only [List.flatMap_cons, List.flatMap_nil, List.append_nil, List.length_append]; omega
  · simp only [List.flatMap_cons, List.flatMap_nil, List.append_nil]; omega
set_option maxRecDepth 100000 in
set_option maxHeartbeats 1000000 in
theorem quoted_any (r : Nat) (h : VR r) (w : World) : Calls Tryd.prog 37 #[.int .i64 (r : Int)] w (Ret (.string (escB r)) w) := by
  have hle : (r : Int) ≤ 1114111 := by unfold VR at h; omega
  by_cases h0 : r = 0
  · subst h0
    clear h hle
    have HE : Hid (escB 0 = ⟨#[92, 48]⟩) := Lib.hid rfl
    go_enter Tryd.func37, Tryd.ntmps37
    go_wp2
    go_ret
    exact ⟨by rw [HE.out]; rfl, rfl⟩
  by_cases h1 : r = 9
  · subst h1
    clear h hle
    have HE : Hid (escB 9 = ⟨#[92, 116]⟩) := Lib.hid rfl
    go_enter Tryd.func37, Tryd.ntmps37
    go_wp2
    go_ret
    exact ⟨by rw [HE.out]; rfl, rfl⟩
  by_cases h2 : r = 10
  · subst h2
    clear h hle
    have HE : Hid (escB 10 = ⟨#[92, 110]⟩) := Lib.hid rfl
    go_enter Tryd.func37, Tryd.ntmps37
    go_wp2
    go_ret
    exact ⟨by rw [HE.out]; rfl, rfl⟩
  by_cases h3 : r = 92
  · subst h3
    clear h hle
    have HE : Hid (escB 92 = ⟨#[92]⟩ ++ Utf8.encode 92) := Lib.hid rfl
    have hz : (Utf8.encode 92).size = 1 := rfl
    have hw : IntKind.i32.wrap 92 = 92 := by decide
    go_enter Tryd.func37, Tryd.ntmps37
    go_wp2
    all_goals first | (go_ret; exact ⟨by rw [HE.out]; rfl, rfl⟩) | (exfalso; simp_all; done) | (simp_all; done)
  by_cases h4 : r = 34
  · subst h4
    clear h hle
    have HE : Hid (escB 34 = ⟨#[92]⟩ ++ Utf8.encode 34) := Lib.hid rfl
    have hz : (Utf8.encode 34).size = 1 := rfl
    have hw : IntKind.i32.wrap 34 = 34 := by decide
    go_enter Tryd.func37, Tryd.ntmps37
    go_wp2
    all_goals first | (go_ret; exact ⟨by rw [HE.out]; rfl, rfl⟩) | (exfalso; simp_all; done) | (simp_all; done)
  have HE : Hid (escB r = Utf8.encode (r : Int)) := Lib.hid (by
    rw [encode_ba h]; unfold escB escR
    rw [if_neg h0, if_neg h1, if_neg h2, if_neg (by omega)]; simp)
  have n0 : ((r : Int) == 0) = false := by rw [beq_eq_false_iff_ne]; omega
  have n1 : ((r : Int) == 9) = false := by rw [beq_eq_false_iff_ne]; omega
  have n2 : ((r : Int) == 10) = false := by rw [beq_eq_false_iff_ne]; omega
  have n3 : ((r : Int) == 92) = false := by rw [beq_eq_false_iff_ne]; omega
  have n4 : ((r : Int) == 34) = false := by rw [beq_eq_false_iff_ne]; omega
  have hw : IntKind.i32.wrap (r : Int) = r := by rw [IntKind.wrap_i32]; omega
  clear h h0 h1 h2 h3 h4 hle
  go_enter Tryd.func37, Tryd.ntmps37
  go_wp2
  go_ret
  exact ⟨by rw [HE.out]; rfl, rfl⟩
def quoteL (rs : List Nat) : List Nat := 34 :: (rs.flatMap escR ++ [34])
def QuoteP (rs : List Nat) (w : World) (e : Ending) (w' : World) : Prop :=
  (e = if rs.all quoR then .returned (.tuple #[.string (bytesOf (quoteL rs)), .int .i64 0]) else .returned (.tuple #[.string ⟨#[]⟩, .int .i64 3])) ∧ Below w.heap.size w w'
theorem flat_flat (rs : List Nat) : (rs.flatMap escR).flatMap encL = rs.flatMap fun r => (escR r).flatMap encL := by
  induction rs with
  | nil => rfl
  | cons r t ih => rw [List.flatMap_cons, List.flatMap_append, ih, List.flatMap_cons]
theorem bytes_quote (rs : List Nat) : ((quoteL rs).flatMap encL) = (34 : UInt8) :: ((rs.flatMap escR).flatMap encL ++ [34]) := by
  unfold quoteL
  rw [List.flatMap_cons, List.flatMap_append]
  rfl
theorem quo_bool (r : Nat) : quoR r = true ∨ (quoR r = false ∧ r < 32 ∧ r ≠ 0 ∧ r ≠ 9 ∧ r ≠ 10) := by
  unfold quoR
  by_cases h : r < 32 ∧ r ≠ 0 ∧ r ≠ 9 ∧ r ≠ 10
  · right
    refine ⟨?_, h⟩
    simp [h.1, h.2.1, h.2.2.1, h.2.2.2]
  · left
    simp only [bne, Bool.not_eq_true', Bool.and_eq_false_iff, decide_eq_false_iff_not, Bool.not_eq_false', beq_iff_eq]
    omega
theorem quo_yes {r : Nat} (h : quoR r = true) : 32 ≤ r ∨ r = 0 ∨ r = 9 ∨ r = 10 := by
  rcases quo_bool r with h1 | h1
  · unfold quoR at h1
    simp only [bne, Bool.not_eq_true', Bool.and_eq_false_iff, decide_eq_false_iff_not, Bool.not_eq_false', beq_iff_eq] at h1
    omega
  · rw [h] at h1; cases h1.1
theorem all_take {rs : List Nat} {k : Nat} (h : k < rs.length) (hp : ∀ r ∈ rs.take k, quoR r = true) (hr : quoR rs[k] = true) : ∀ r ∈ rs.take (k + 1), quoR r = true := by
  intro r hm
  rw [List.take_succ_eq_append_getElem h] at hm
  rcases List.mem_append.1 hm with hm | hm
  · exact hp r hm
  · simp at hm; rw [hm]; exact hr
theorem take_flat {rs : List Nat} {k : Nat} (h : k < rs.length) : (rs.take (k + 1)).flatMap escR = (rs.take k).flatMap escR ++ escR rs[k] := by
  rw [List.take_succ_eq_append_getElem h, List.flatMap_append]; simp
theorem esc_vr {r : Nat} (h : VR r) : ∀ x ∈ escR r, VR x := by
  intro x hx
  unfold escR at hx
  split at hx
  · simp at hx; rcases hx with rfl | rfl <;> exact .inl (by omega)
  split at hx
  · simp at hx; rcases hx with rfl | rfl <;> exact .inl (by omega)
  split at hx
  · simp at hx; rcases hx with rfl | rfl <;> exact .inl (by omega)
  split at hx
  · simp at hx; rcases hx with rfl | rfl
    · exact .inl (by omega)
    · exact h
  · simp at hx; rw [hx]; exact h
theorem flat_esc_len {rs : List Nat} (h : ∀ r ∈ rs, VR r) : ((rs.flatMap escR).flatMap encL).length ≤ 5 * rs.length := by
  induction rs with
  | nil => simp
  | cons r t ih =>
    rw [List.flatMap_cons, List.flatMap_append, List.length_append, List.length_cons]
    have h1 := esc_size (h r (by simp))
    have h2 := ih fun x hx => h x (by simp [hx])
    have h3 : (escB r).size = ((escR r).flatMap encL).length := by unfold escB; show ((escR r).flatMap encL).toArray.size = _; simp
    omega
def QuI (rs : List Nat) (B : Nat) (w wl : World) (k : Nat) : Prop :=
  k ≤ rs.length ∧ (∀ r ∈ rs.take k, quoR r = true) ∧ Wr B B (Lib.byteCells ((34 : UInt8) :: ((rs.take k).flatMap escR).flatMap encL)) wl ∧ Below w.heap.size w wl ∧ B ≤ wl.heap.size
set_option maxRecDepth 100000 in
set_option maxHeartbeats 4000000 in
theorem Quote_any (s : ByteArray) (rs : List Nat) (hu : U s.data.toList rs) (hs : s.size ≤ 1000) (w : World) (hT : Tab w) : Calls Tryd.prog 14 #[.string s] w (QuoteP rs w) := by
  have HC := Lib.hid (Runes_yes s rs hu (by omega) w hT)
  have HL : Hid (rs.length ≤ 1000) := Lib.hid (by
    have := hu.len
    have h2 : s.data.toList.length = s.size := by simp
    omega)
  have HVR := Lib.hid hu.2
  clear hs hu hT
  go_enter Tryd.func14, Tryd.ntmps14
  go_wp2_with fail
  refine HC.out.mono ?_
  rintro e w1 ⟨a, c, rfl, hsl, hnil, hb⟩
  obtain ⟨B, hB⟩ : ∃ B, B = w1.heap.size := ⟨_, rfl⟩
  have hbb : Below w1.heap.size w1 (w1.alloc (.cells #[.pointer none, .slice none 0 0] 64)) := (Below.refl _ _).alloc (Nat.le_refl _) _
  have HW0 : Hid (Wr B B [] (w1.alloc (.cells #[.pointer none, .slice none 0 0] 64))) := Lib.hid (by rw [hB]; exact Lib.fresh_isBuilder 64 5 w1)
  have HS : Hid (SL runC 1 (w1.alloc (.cells #[.pointer none, .slice none 0 0] 64)) B a rs.length rs) := Lib.hid (by rw [hB]; exact hsl.below hbb)
  have HB0 := Lib.hid (hb.trans (hbb.mono hb.size))
  have HBB : Hid (B = w1.heap.size ∧ w.heap.size ≤ B ∧ B ≤ (w1.alloc (.cells #[.pointer none, .slice none 0 0] 64)).heap.size) := Lib.hid ⟨hB, by rw [hB]; exact hb.size, by rw [hB]; simp⟩
  clear hsl hnil hb hbb
  go_wp2_with fail
  rw [← hB]
  clear hB
  generalize w1.alloc (.cells #[.pointer none, .slice none 0 0] 64) = W0 at HW0 HS HB0 HBB ⊢
  refine (writeByte_any B B [] 34 W0 HW0.out (by simp) HBB.out.2.2).mono ?_
  rintro e W1 ⟨rfl, h1, hb1, -⟩
  have HS1 := Lib.hid (HS.out.below hb1)
  have HI : Hid (QuI rs B w W1 0) := Lib.hid ⟨by omega, by simp, .inr h1, HB0.out.trans (hb1.mono HBB.out.2.1), Nat.le_trans HBB.out.2.2 hb1.size⟩
  obtain ⟨n, hn⟩ : ∃ n, n = rs.length := ⟨_, rfl⟩
  have hn9 : (n : Int) ≤ 1000 := by have := HL.out; omega
  rw [← hn]
  have HN := Lib.hid hn
  clear h1 hb1 HW0 HS HB0 hn
  go_wp2
  go_loopg [20] (n) (fun g iv wl => ∃ k : Nat, iv = .int .i64 k ∧ Hid (QuI rs B w wl k) ∧ Hid (SL runC 1 wl B a rs.length rs) ∧ Hid (g = n - k) ∧ k ≤ n)
  case atStart => exact ⟨0, rfl, HI, HS1, Lib.hid rfl, by omega⟩
  case round =>
    clear HI HS1
    obtain ⟨k, rfl, HA, HS, HG, hkn⟩ := hrel
    by_cases hlt : k < n
    · have hk : k < rs.length := by have := HN.out; omega
      obtain ⟨b, off, rfl, hBb, hc⟩ := HS.out.cells (HS.out.ne hk)
      have c0 := hc k hk 0 (by omega)
      have HX : Hid (VR rs[k]) := Lib.hid (HVR.out _ (List.getElem_mem hk))
      have HTK := Lib.hid (take_flat hk)
      have HAT : Hid (quoR rs[k] = true → ∀ r ∈ rs.take (k + 1), quoR r = true) := Lib.hid (all_take hk HA.out.2.1)
      have HIN : Hid (rs[k] ∈ rs) := Lib.hid (List.getElem_mem hk)
      obtain ⟨x, hx⟩ : ∃ x : Nat, x = rs[k] := ⟨_, rfl⟩
      rw [← hx] at c0 HX HTK HAT HIN
      simp only [runC, Nat.add_zero, Nat.mul_one, List.getElem?_cons_zero] at c0
      clear hc hx hBb hk
      rcases quo_bool x with hq | ⟨hq, q0, q1, q2, q3⟩
      · -- it may stand there
        have HQ := Lib.hid hq
        have HW : Hid (∀ u, Wr B B (Lib.byteCells ((34 : UInt8) :: ((rs.take k).flatMap escR).flatMap encL)) u → B ≤ u.heap.size → Calls Tryd.prog 36 #[.pointer (some ⟨B, 0, none⟩), .string (escB x)] u fun e w' => e = .returned (.tuple #[.int .i64 (escB x).size, .nilIface]) ∧ Wr B B (Lib.byteCells ((34 : UInt8) :: ((rs.take (k + 1)).flatMap escR).flatMap encL)) w' ∧ Below B u w') := Lib.hid fun u h1 h2 => by
          refine (writeString_any B B _ (escB x) u h1 ?_ h2).mono ?_
          · rw [Lib.byteCells_length]
            have h3 := esc_size HX.out
            have h4 := flat_esc_len (rs := rs.take k) fun r hr => HVR.out r (List.mem_of_mem_take hr)
            rw [List.length_take] at h4
            have := HL.out
            simp only [List.length_cons]; omega
          · rintro e w' ⟨he, h3, h4⟩
            refine ⟨he, .inr ?_, h4⟩
            rw [HTK.out, List.flatMap_append, ← List.cons_append, Lib.byteCells_append]
            have : Lib.strCells (escB x) = Lib.byteCells ((escR x).flatMap encL) := by unfold Lib.strCells escB; simp [Lib.byteCells]
            rw [← this]; exact h3
        have hx32 := quo_yes hq
        clear hq
        have HEND : Hid (∀ u, Wr B B (Lib.byteCells ((34 : UInt8) :: ((rs.take (k + 1)).flatMap escR).flatMap encL)) u → Below B wr u → QuI rs B w u (k + 1) ∧ SL runC 1 u B (some ⟨b, off, none⟩) rs.length rs ∧ n - (k + 1) < gk) := Lib.hid fun u h1 h2 => by
          refine ⟨⟨by have := HN.out; omega, HAT.out HQ.out, h1, HA.out.2.2.2.1.trans (h2.mono HBB.out.2.1), Nat.le_trans HA.out.2.2.2.2 h2.size⟩, HS.out.below h2, by have := HG.out; omega⟩
        rcases hx32 with hx32 | hx32 | hx32 | hx32
        · have hx32z : (32 : Int) ≤ x := by omega
          clear hx32
          go_wp2_with fail
          refine (quoted_any x HX.out _).mono ?_
          rintro e w' ⟨rfl, rfl⟩
          go_wp2_with fail
          refine (HW.out _ HA.out.2.2.1 HA.out.2.2.2.2).mono ?_
          rintro e u2 ⟨rfl, h1, h2⟩
          have HE := Lib.hid (HEND.out _ h1 h2)
          clear h1 h2
          go_wp2
          go_roundg (n - (k + 1))
          case measure => exact HE.out.2.2
          case rel => exact ⟨k + 1, by go_num, Lib.hid HE.out.1, Lib.hid HE.out.2.1, Lib.hid rfl, by omega⟩
        all_goals
          have hx32z : (x : Int) < 32 := by omega
          subst hx32
          go_wp2_with fail
          refine (quoted_any _ HX.out _).mono ?_
          rintro e w' ⟨rfl, rfl⟩
          go_wp2_with fail
          refine (HW.out _ HA.out.2.2.1 HA.out.2.2.2.2).mono ?_
          rintro e u2 ⟨rfl, h1, h2⟩
          have HE := Lib.hid (HEND.out _ h1 h2)
          clear h1 h2
          go_wp2
          go_roundg (n - (k + 1))
          case measure => exact HE.out.2.2
          case rel => exact ⟨k + 1, by go_num, Lib.hid HE.out.1, Lib.hid HE.out.2.1, Lib.hid rfl, by omega⟩
      · -- it may not
        have HQ : Hid (rs.all quoR = false) := Lib.hid (by
          rw [Bool.eq_false_iff]
          intro hall
          rw [List.all_eq_true] at hall
          have := hall x HIN.out
          rw [hq] at this; cases this)
        have z0 : (x : Int) < 32 := by omega
        have z1 : ((x : Int) != 0) = true := by rw [bne_iff_ne]; omega
        have z2 : ((x : Int) != 9) = true := by rw [bne_iff_ne]; omega
        have z3 : ((x : Int) != 10) = true := by rw [bne_iff_ne]; omega
        have HB := Lib.hid HA.out.2.2.2.1
        clear hq q0 q1 q2 q3
        go_wp2
        go_ret2
        exact ⟨by rw [HQ.out]; rfl, HB.out⟩
    · have HE : Hid (rs.take k = rs) := Lib.hid (List.take_of_length_le (by have := HN.out; omega))
      have hkn2 : ¬ (k : Int) < n := by omega
      have HF : Hid (rs.all quoR = true) := Lib.hid (by
        rw [List.all_eq_true]
        have := HA.out.2.1
        rwa [HE.out] at this)
      have HWW := Lib.hid HA.out.2.2.1
      rw [HE.out] at HWW
      go_wp2_with fail
      refine (writeByte_any B B _ 34 wr HWW.out (by
          rw [Lib.byteCells_length]
          have h4 := flat_esc_len (rs := rs) HVR.out
          have := HL.out
          simp only [List.length_cons]; omega) HA.out.2.2.2.2).mono ?_
      rintro e u1 ⟨rfl, h1, hb1, -⟩
      have HW2 : Hid (Wr B B (Lib.byteCells ((quoteL rs).flatMap encL)) u1) := Lib.hid (.inr (by
        rw [bytes_quote, ← List.cons_append, Lib.byteCells_append]; exact h1))
      have HB1 := Lib.hid (HA.out.2.2.2.1.trans (hb1.mono HBB.out.2.1))
      have HS1 := Lib.hid (Nat.le_trans HA.out.2.2.2.2 hb1.size)
      clear h1 hb1
      go_wp2_with fail
      refine (Tryd.Builder_String_any B B _ u1 HW2.out HS1.out).mono ?_
      rintro e u2 ⟨rfl, hb2⟩
      have HB2 := Lib.hid (HB1.out.trans (hb2.mono HBB.out.2.1))
      clear hb2
      go_wp2
      go_ret2
      exact ⟨by rw [HF.out]; rfl, HB2.out⟩
set_option maxRecDepth 100000 in
set_option maxHeartbeats 1000000 in
theorem Quote_bad (s : ByteArray) (hu : Lib.validD s.data.toList = false) (hs : s.size ≤ 1000) (w : World) (hT : Tab w) : Calls Tryd.prog 14 #[.string s] w (RetB (.tuple #[.string ⟨#[]⟩, .int .i64 3]) w) := by
  have HC := Lib.hid (Runes_no s hu (by omega) w hT)
  clear hs hu hT
  go_enter Tryd.func14, Tryd.ntmps14
  go_wp2_with fail
  refine HC.out.mono ?_
  rintro e w1 ⟨rfl, hb⟩
  have HB := Lib.hid hb
  clear hb
  go_wp2
  go_ret2
  exact ⟨rfl, HB.out⟩
end Go.Proofs.YtngoipcjipbelaaDoor
