/- operand's law: OperandJoins. -/
import Derived.Test.YtngoipcjipbelaaDoorXA
import Derived.Test.YtngoipcjipbelaaDoorS2
namespace Go.Proofs.YtngoipcjipbelaaDoor
set_option linter.unusedVariables false
set_option linter.unusedSimpArgs false
open Go.ChangeShapes Go.WideShapes Go.Deep Go.RowKit

theorem items_len : ∀ (n : Nat) {l r : List Ti} {os : List Po} {g : Bool}, itemsN n l = some (os, r, g) → os.length ≤ l.length
  | 0, _, _, _, _, h => by cases h
  | n + 1, l, r, os, g, h => by
    rw [items_rest] at h
    cases ho : operP l with
    | none => rw [ho] at h; cases h
    | some x =>
      obtain ⟨o, l', g'⟩ := x
      have hs := oper_short ho
      rw [ho] at h
      simp only [] at h
      cases l' with
      | nil =>
        simp only [restN, Option.some.injEq, Prod.mk.injEq] at h
        obtain ⟨rfl, -, -⟩ := h
        simp only [List.length_cons, List.length_nil] at *
        omega
      | cons t q =>
        unfold restN at h
        by_cases c : isSg coB t = true
        · simp only [c, if_true] at h
          cases hi : itemsN n q with
          | none => rw [hi] at h; cases h
          | some y =>
            obtain ⟨os2, r2, g2⟩ := y
            have ih := items_len n hi
            rw [hi] at h
            simp only [Option.some.injEq, Prod.mk.injEq] at h
            obtain ⟨rfl, -, -⟩ := h
            simp only [List.length_cons] at *
            omega
        · simp only [c] at h
          cases h
theorem parse_len {l : List Ti} {os : List Po} {er : Int} (h : parseL l = (os, er)) : os.length ≤ l.length := by
  unfold parseL itemsL at h
  by_cases hl : l = []
  · rw [if_pos hl] at h; cases h; simp
  rw [if_neg hl] at h
  cases hi : itemsN (l.length + 1) l with
  | none => rw [hi] at h; cases h; simp
  | some x =>
    obtain ⟨o, r, g⟩ := x
    have := items_len _ hi
    rw [hi] at h
    simp only [] at h
    split at h <;> cases h <;> first | exact this | simp
/-- What Parse hands back, its length a number of its own. -/
def ParseR (os : List Po) (k : Nat) (er : Int) (w : World) (e : Ending) (w' : World) : Prop :=
  ∃ a c, e = .returned (.tuple #[.slice a k c, .int .i64 er]) ∧ SL poC 7 w' w'.heap.size a k os ∧ ((a = none → k = 0 ∧ c = 0) ∧ k ≤ c) ∧ Below w.heap.size w w'
theorem Parse_R {ts : List Ti} {os : List Po} {er : Int} {n k : Nat} (hp : parseL ts = (os, er)) (hk : k = os.length) (hg : GoodTs ts) (hn : ts.length ≤ 1000000) (hnn : n = ts.length) (u : World) (a : Option Addr) (c : Nat)
    (h : SL tiC 3 u u.heap.size a n ts) (hT : TabO u) : Calls Tryd.prog 27 #[.slice a n c] u (ParseR os k er u) := by
  subst hk hnn
  have q := Parse_any (w := u) (a := a) (c := c) (ts := ts) h hT hg hn
  refine q.mono ?_
  intro e w' hq
  unfold ParseP at hq
  rw [hp] at hq
  exact hq
theorem SL.lit' {α : Type} {enc : α → List Value} {sz : Nat} (w : World) (T : TypeId) (l : List α) (henc : ∀ x, (enc x).length = sz) (hsz : 0 < sz) (cs : Array Value) (hcs : cs.toList = l.flatMap enc) (n : Nat) (hn : n = l.length) :
    SL enc sz (w.alloc (.cells cs T)) (w.alloc (.cells cs T)).heap.size (some ⟨w.heap.size, 0, none⟩) n l := by
  rw [World.size_alloc]; exact SL.lit w T l henc hsz cs hcs n hn
theorem goodTs_join {l m : List Ti} (h : GoodTs l) (k : GoodTs m) : GoodTs (l ++ coT :: m) := by
  intro t ht
  rcases List.mem_append.1 ht with h1 | h1
  · exact h t h1
  · rcases List.mem_cons.1 h1 with rfl | h2
    · exact ⟨by decide, by decide, by decide⟩
    · exact k t h2
set_option maxRecDepth 100000 in
set_option maxHeartbeats 8000000 in
theorem OperandJoins_walk (w : World) (a1 : Option Addr) (n1 c1 : Nat) (l : List Ti) (hr1 : n1 * 32 ≤ reachBytes) (hg1 : GoodTs l) (hs1 : SL tiC 3 w w.heap.size a1 n1 l) (hz1 : a1 = none → n1 = 0 ∧ c1 = 0) (hb1 : n1 ≤ c1)
    (a2 : Option Addr) (n2 c2 : Nat) (m : List Ti) (hr2 : n2 * 32 ≤ reachBytes) (hg2 : GoodTs m) (hs2 : SL tiC 3 w w.heap.size a2 n2 m) (hz2 : a2 = none → n2 = 0 ∧ c2 = 0) (hb2 : n2 ≤ c2) (hT : TabO w) :
    Calls Tryd.prog 9 #[.slice a1 n1 c1, .slice a2 n2 c2] w (RetB (.bool true) w) := by
  obtain ⟨i0, hi, hi0, hi1, hi2⟩ := info_parts info_tok
  obtain ⟨j0, hj, hj0, hj1, hj2⟩ := info_parts info_opnd
  have hw : IntKind.i64.wrap ((n1 : Int) + n2) = (n1 : Int) + n2 := by unfold reachBytes at hr1 hr2; rw [IntKind.wrap_i64]; omega
  clear hr1 hr2
  by_cases hz : (60 : Int) < (n1 : Int) + n2
  · clear hT hi hj hi0 hi1 hi2 hj0 hj1 hj2 hg1 hs1 hz1 hb1 hg2 hs2 hz2 hb2
    go_enter Tryd.func9, Tryd.ntmps9
    go_wp2
    go_ret
    exact ⟨rfl, Below.refl _ _⟩
  have hn : n1 + n2 ≤ 60 := by omega
  have l1 := hs1.len
  have l2 := hs2.len
  obtain ⟨o1, e1, hp1⟩ : ∃ o e, parseL l = (o, e) := ⟨_, _, rfl⟩
  obtain ⟨o2, e2, hp2⟩ : ∃ o e, parseL m = (o, e) := ⟨_, _, rfl⟩
  obtain ⟨o3, e3, hp3⟩ : ∃ o e, parseL (l ++ coT :: m) = (o, e) := ⟨_, _, rfl⟩
  obtain ⟨k1, hk1⟩ : ∃ k, k = o1.length := ⟨_, rfl⟩
  obtain ⟨k2, hk2⟩ : ∃ k, k = o2.length := ⟨_, rfl⟩
  obtain ⟨k3, hk3⟩ : ∃ k, k = o3.length := ⟨_, rfl⟩
  obtain ⟨n3, hn3⟩ : ∃ n, n = (l ++ coT :: m).length := ⟨_, rfl⟩
  have hn3' : n3 = 0 + n1 + 1 + n2 := by rw [hn3, List.length_append, List.length_cons]; omega
  have HP1 := Lib.hid (Parse_R (n := n1) hp1 hk1 hg1 (by omega) l1)
  have HP2 := Lib.hid (Parse_R (n := n2) hp2 hk2 hg2 (by omega) l2)
  have HP3 := Lib.hid (Parse_R (n := n3) hp3 hk3 (goodTs_join hg1 hg2) (by omega) hn3)
  have HE3 : Hid (n1 = 0 ∨ n2 = 0 → e3 = 3) := Lib.hid (by
    intro h
    have : l = [] ∨ m = [] := by
      rcases h with h | h
      · left; exact List.length_eq_zero_iff.1 (by omega)
      · right; exact List.length_eq_zero_iff.1 (by omega)
    rw [parse_edge this] at hp3
    cases hp3; rfl)
  have HJ : Hid (n1 ≠ 0 → n2 ≠ 0 → e1 = 0 → e2 = 0 → e3 = 0 ∧ o3 = o1 ++ o2) := Lib.hid (by
    intro h1 h2 h3 h4
    subst h3 h4
    have := parse_join hp1 hp2 (by rintro rfl; exact h1 (by simpa using l1)) (by rintro rfl; exact h2 (by simpa using l2))
    rw [this] at hp3
    cases hp3
    exact ⟨rfl, rfl⟩)
  have HK : Hid (k1 = o1.length ∧ k2 = o2.length ∧ k3 = o3.length ∧ k1 ≤ 60 ∧ k2 ≤ 60) := Lib.hid (by
    have := parse_len hp1
    have := parse_len hp2
    exact ⟨hk1, hk2, hk3, by omega, by omega⟩)
  have HN3 := Lib.hid hn3'
  have HL1 := Lib.hid hs1
  have HL2 := Lib.hid hs2
  have HN1 := Lib.hid hz1
  have HN2 := Lib.hid hz2
  have HN := Lib.hid hn
  have HT := Lib.hid hT
  have HGv : Hid (∀ u, TabO u → Calls Tryd.prog 26 #[] u (RetB (.bool true) u)) := Lib.hid given_true
  have HWZ := Lib.hid (And.intro hw hz)
  clear hp1 hp2 hp3 hk1 hk2 hk3 hn3 hn3' hg1 hg2 hs1 hs2 hz1 hz2 hb1 hb2 hT hn l1 l2
  go_enter Tryd.func9, Tryd.ntmps9
  go_wp2_with fail
  clear hw hz
  refine (HP1.out _ _ _ HL1.out HT.out).mono ?_
  rintro e u1 ⟨p1, q1, rfl, hs, hz, hb⟩
  have HO1 := Lib.hid hs
  have HZ1 := Lib.hid hz.1
  have HB1 := Lib.hid hb
  replace HL1 := Lib.hid (HL1.out.next hb)
  replace HL2 := Lib.hid (HL2.out.next hb)
  clear hs hz hb
  go_wp2_with fail
  refine (HP2.out _ _ _ HL2.out (HT.out.next HB1.out)).mono ?_
  rintro e u2 ⟨p2, q2, rfl, hs, hz, hb⟩
  replace HO1 := Lib.hid (HO1.out.next hb)
  have HO2 := Lib.hid hs
  have HZ2 := Lib.hid hz.1
  have HB2 := Lib.hid (after HB1.out hb)
  replace HL1 := Lib.hid (HL1.out.next hb)
  replace HL2 := Lib.hid (HL2.out.next hb)
  clear hs hz hb
  have m1 : 0 + n1 ≤ maxLen := by have := HN.out; unfold maxLen; omega
  have m2 : (0 + n1) * 32 ≤ 140737488355328 := by have := HN.out; omega
  have m3 : 0 + n1 + 1 ≤ maxLen := by have := HN.out; unfold maxLen; omega
  have m4 : (0 + n1 + 1) * 32 ≤ 140737488355328 := by have := HN.out; omega
  have m5 : 0 + n1 + 1 + n2 ≤ maxLen := by have := HN.out; unfold maxLen; omega
  have m6 : (0 + n1 + 1 + n2) * 32 ≤ 140737488355328 := by have := HN.out; omega
  have tok1 : True := trivial
  go_wp2_with (first
    | (at_builtin; refine append_SL rfl _ _ 26 rfl u2.heap.size 31 i0 _ 32 Tryd.underlying26 hi hi0 hi1 hi2 rfl (by decide) ti_len (fun t => ti_one t) _ (0 + n1 + 1) ([] ++ l ++ [coT]) rfl hown2 a2 n2 c2 m rfl (HL2.out.next ((hbl1.alloc hbl1.size _).trans hbl2)) HN2.out m5 m6 (Nat.le_trans (hbl1.alloc hbl1.size _).size hbl2.size) ?_; intro v3 w6 hown3 hbl3 hgr3)
    | (at_builtin; refine append_SL rfl _ _ 26 rfl u2.heap.size 31 i0 _ 32 Tryd.underlying26 hi hi0 hi1 hi2 rfl (by decide) ti_len (fun t => ti_one t) _ (0 + n1) ([] ++ l) rfl (hown1.alloc _) (some ⟨w4.heap.size, 0, none⟩) 1 1 [coT] rfl (SL.lit' w4 _ [coT] ti_len (by decide) _ rfl 1 rfl) (by simp) m3 m4 (hbl1.alloc hbl1.size _).size ?_; intro v2 w5 hown2 hbl2 hgr2)
    | (at_builtin; have _t := tok1; refine append_SL rfl _ _ 26 rfl u2.heap.size 31 i0 _ 32 Tryd.underlying26 hi hi0 hi1 hi2 rfl (by decide) ti_len (fun t => ti_one t) _ 0 [] rfl (World.ownsRow_nil _ _ _ _) a1 n1 c1 l rfl HL1.out HN1.out m1 m2 (Nat.le_refl _) ?_; intro v1 w4 hown1 hbl1 hgr1; clear tok1)
    | fail)
  have hB6 : Below u2.heap.size u2 w6 := ((hbl1.alloc hbl1.size _).trans hbl2).trans hbl3
  rw [← HN3.out] at hown3
  rw [show [] ++ l ++ [coT] ++ m = l ++ coT :: m by simp] at hown3
  obtain ⟨p3, q3, hv3, hsl, -⟩ := SL.ofOwns ti_len (by decide) hown3
  subst hv3
  have HS3 := Lib.hid hsl
  have HB3 := Lib.hid (after HB2.out hB6)
  replace HO1 := Lib.hid (HO1.out.next hB6)
  replace HO2 := Lib.hid (HO2.out.next hB6)
  clear hown1 hown2 hown3 hbl1 hbl2 hbl3 hgr1 hgr2 hgr3 hsl hB6 m1 m2 m3 m4 m5 m6 HL1 HL2
  refine (HP3.out _ _ _ HS3.out (HT.out.next HB3.out)).mono ?_
  rintro e u3 ⟨p4, q4, rfl, hs, -, hb⟩
  have HO3 := Lib.hid hs
  have HB4 := Lib.hid (after HB3.out hb)
  replace HO1 := Lib.hid (HO1.out.next hb)
  replace HO2 := Lib.hid (HO2.out.next hb)
  clear hs hb
  by_cases z1 : n1 = 0
  · obtain rfl : e3 = 3 := HE3.out (.inl z1)
    subst z1
    go_wp2_with fail
    refine (HGv.out _ (HT.out.next HB4.out)).mono ?_
    rintro e v1 ⟨rfl, hb⟩
    have HB5 := Lib.hid (after HB4.out hb)
    clear hb
    go_wp2
    go_ret
    exact ⟨rfl, HB5.out⟩
  by_cases z2 : n2 = 0
  · obtain rfl : e3 = 3 := HE3.out (.inr z2)
    subst z2
    have y1 : ((n1 : Int) == 0) = false := by rw [beq_eq_false_iff_ne]; omega
    clear z1
    go_wp2_with fail
    refine (HGv.out _ (HT.out.next HB4.out)).mono ?_
    rintro e v1 ⟨rfl, hb⟩
    have HB5 := Lib.hid (after HB4.out hb)
    clear hb
    go_wp2
    go_ret
    exact ⟨rfl, HB5.out⟩
  have y1 : ((n1 : Int) == 0) = false := by rw [beq_eq_false_iff_ne]; omega
  have y2 : ((n2 : Int) == 0) = false := by rw [beq_eq_false_iff_ne]; omega
  replace HJ := Lib.hid (HJ.out z1 z2)
  clear z1 z2
  by_cases x1 : e1 = 0
  rotate_left
  · have r1 : (e1 != 0) = true := by rw [bne_iff_ne]; exact x1
    clear x1
    go_wp2_with fail
    refine (HGv.out _ (HT.out.next HB4.out)).mono ?_
    rintro e v1 ⟨rfl, hb⟩
    have HB5 := Lib.hid (after HB4.out hb)
    clear hb
    go_wp2
    go_ret
    exact ⟨rfl, HB5.out⟩
  subst x1
  by_cases x2 : e2 = 0
  rotate_left
  · have r2 : (e2 != 0) = true := by rw [bne_iff_ne]; exact x2
    clear x2
    go_wp2_with fail
    refine (HGv.out _ (HT.out.next HB4.out)).mono ?_
    rintro e v1 ⟨rfl, hb⟩
    have HB5 := Lib.hid (after HB4.out hb)
    clear hb
    go_wp2
    go_ret
    exact ⟨rfl, HB5.out⟩
  subst x2
  obtain ⟨rfl, ho3⟩ := HJ.out rfl rfl
  have m1 : 0 + k1 ≤ maxLen := by have := HK.out; unfold maxLen; omega
  have m2 : (0 + k1) * 56 ≤ 140737488355328 := by have := HK.out; omega
  have m3 : 0 + k1 + k2 ≤ maxLen := by have := HK.out; unfold maxLen; omega
  have m4 : (0 + k1 + k2) * 56 ≤ 140737488355328 := by have := HK.out; omega
  have HO3L := Lib.hid ho3
  clear ho3 HJ
  have tok1 : True := trivial
  go_wp2_with (first
    | (at_builtin; refine append_SL rfl _ _ 44 rfl u3.heap.size 86 j0 _ 56 Tryd.underlying44 hj hj0 hj1 hj2 rfl (by decide) po_len (fun t => po_one t) _ (0 + k1) ([] ++ o1) rfl hown1 p2 k2 q2 o2 rfl (HO2.out.next hbl1) HZ2.out m3 m4 hbl1.size ?_; intro v2 w5 hown2 hbl2 hgr2)
    | (at_builtin; have _t := tok1; refine append_SL rfl _ _ 44 rfl u3.heap.size 86 j0 _ 56 Tryd.underlying44 hj hj0 hj1 hj2 rfl (by decide) po_len (fun t => po_one t) _ 0 [] rfl (World.ownsRow_nil _ _ _ _) p1 k1 q1 o1 rfl HO1.out HZ1.out m1 m2 (Nat.le_refl _) ?_; intro v1 w4 hown1 hbl1 hgr1; clear tok1)
    | fail)
  have hB6 : Below u3.heap.size u3 w5 := hbl1.trans hbl2
  have hk3 : 0 + k1 + k2 = k3 := by
    obtain ⟨t1, t2, t3, -, -⟩ := HK.out
    rw [t3, HO3L.out, List.length_append, t1, t2]; omega
  rw [hk3, List.nil_append, ← HO3L.out] at hown2
  obtain ⟨p5, q5, hv5, hsl, -⟩ := SL.ofOwns po_len (by decide) hown2
  subst hv5
  have HS5 := Lib.hid hsl
  replace HO3 := Lib.hid (HO3.out.next hB6)
  have HB5 := Lib.hid (after HB4.out hB6)
  clear hown1 hown2 hbl1 hbl2 hgr1 hgr2 hsl hB6 m1 m2 m3 m4 hk3
  refine (HGv.out _ (HT.out.next HB5.out)).mono ?_
  rintro e v1 ⟨rfl, hb⟩
  have HB6 := Lib.hid (after HB5.out hb)
  replace HO3 := Lib.hid (HO3.out.next hb)
  replace HS5 := Lib.hid (HS5.out.next hb)
  clear hb
  have HSM : Hid (Calls Tryd.prog 28 #[.slice p4 k3 q4, .slice p5 k3 q5] v1 (RetD (.bool true) v1)) := Lib.hid (by
    obtain ⟨t1, t2, t3, t4, t5⟩ := HK.out
    have h1 := HO3.out
    have h2 := HS5.out
    have h4 : o3.length ≤ 1000000 := by rw [HO3L.out, List.length_append]; omega
    rw [t3] at h1 h2 ⊢
    exact Same_eq h1 h2 h4)
  go_wp2_with fail
  refine HSM.out.mono ?_
  rintro e v2 ⟨rfl, z, rfl⟩
  go_wp2
  go_ret
  exact ⟨rfl, below_drewN HB6.out z⟩
end Go.Proofs.YtngoipcjipbelaaDoor
