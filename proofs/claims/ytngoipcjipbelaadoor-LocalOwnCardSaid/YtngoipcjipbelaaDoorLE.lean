/- lex: meant (a map of six numbers), one. -/
import Derived.Test.YtngoipcjipbelaaDoorLD
import Derived.Maps.Own
import Derived.Maps.OwnOps
import Derived.Maps.Keyed
import Derived.Carry
namespace Go.Proofs.YtngoipcjipbelaaDoor
set_option linter.unusedVariables false
set_option linter.unusedSimpArgs false
open Go.ChangeShapes Go.WideShapes Go.Deep Go.RowKit

theorem KP.trans' {p : Nat} {a b c : World} (h : KP p a b) (k : KP p b c) : KP p a c := h.trans k
theorem iKey : Maps.Keyed Tryd.prog 3 := Maps.int_keyed Tryd.underlying3
theorem iKeyOf {k : Int} (h : (Lit.int .i64 k).wf = true) : keyOf Tryd.prog 3 (.int .i64 k) = some (.int .i64 k) := Maps.keyOf_int_mk Tryd.underlying3 h
theorem zero_int (w : World) : (zeroValue 3).run Tryd.prog w = .ok (.int .i64 0) w := by kernel_rfl
abbrev i64ok (k : Int) : Prop := -9223372036854775808 ≤ k ∧ k ≤ 9223372036854775807
theorem i64_wf {k : Int} (h : i64ok k) : (Lit.int .i64 k).wf = true := by simp [Lit.wf, IntKind.min, IntKind.max, IntKind.bits, IntKind.signed]; omega
def pairV (p : Int × Int) : Value × Value := (.int .i64 p.1, .int .i64 p.2)
/-- Block b is a map that has just these pairs. -/
def IM (w : World) (b : Nat) (l : List (Int × Int)) : Prop := ∃ es clock, w.heap[b]? = some (.map es clock) ∧ es.toList.map (fun e => (e.key, e.val)) = l.map pairV
theorem im_key {l : List (Int × Int)} {es : Array MapEntry} (h : es.toList.map (fun e => (e.key, e.val)) = l.map pairV) {e : MapEntry} (he : e ∈ es.toList) : ∃ p ∈ l, e.key = .int .i64 p.1 ∧ e.val = .int .i64 p.2 := by
  have : (e.key, e.val) ∈ es.toList.map (fun e => (e.key, e.val)) := List.mem_map.2 ⟨e, he, rfl⟩
  rw [h] at this
  obtain ⟨p, hp, hh⟩ := List.mem_map.1 this
  simp only [pairV, Prod.mk.injEq] at hh
  exact ⟨p, hp, hh.1.symm, hh.2.symm⟩
theorem im_keys {l : List (Int × Int)} {es : Array MapEntry} (h : es.toList.map (fun e => (e.key, e.val)) = l.map pairV) (hg : ∀ p ∈ l, i64ok p.1) : ∀ e ∈ es.toList, ∃ k, keyOf Tryd.prog 3 e.key = some k := by
  intro e he
  obtain ⟨p, hp, hk, -⟩ := im_key h he
  rw [hk]
  exact ⟨_, iKeyOf (i64_wf (hg p hp))⟩
theorem im_no {l : List (Int × Int)} {b : Nat} {w : World} (h : IM w b l) (hg : ∀ p ∈ l, i64ok p.1) {k : Int} (hk : i64ok k) (hn : ∀ p ∈ l, p.1 ≠ k) :
    (Instr.lookup 135 (.map (some b)) (.int .i64 k) true).run Tryd.prog w = .ok (.tuple #[.int .i64 0, .bool false]) w := by
  obtain ⟨es, clock, hb, he⟩ := h
  have hkey := iKeyOf (i64_wf hk)
  rcases iKey.find w hkey es.toList (im_keys he hg) with ⟨h1, -⟩ | ⟨j, e, h1, h2, h3⟩
  · simp [Instr.lookup, run_underlying Tryd.underlying135, MapKept.run_getObj_map hb, iKey.check w _ hkey, h1, zero_int, Result.andThen]
  · obtain ⟨p, hp, hpk, -⟩ := im_key he (List.mem_of_getElem? h2)
    rw [h3] at hpk
    simp only [Value.int.injEq, true_and] at hpk
    exact absurd hpk.symm (hn p hp)
theorem im_yes {l : List (Int × Int)} {b : Nat} {w : World} (h : IM w b l) (hg : ∀ p ∈ l, i64ok p.1) {k v : Int} (hk : (k, v) ∈ l) (hu : ∀ p ∈ l, p.1 = k → p.2 = v) :
    (Instr.lookup 135 (.map (some b)) (.int .i64 k) true).run Tryd.prog w = .ok (.tuple #[.int .i64 v, .bool true]) w := by
  obtain ⟨es, clock, hb, he⟩ := h
  have hkey := iKeyOf (i64_wf (hg _ hk))
  rcases iKey.find w hkey es.toList (im_keys he hg) with ⟨h1, h2⟩ | ⟨j, e, h1, h2, h3⟩
  · exfalso
    have : pairV (k, v) ∈ l.map pairV := List.mem_map.2 ⟨_, hk, rfl⟩
    rw [← he] at this
    obtain ⟨e, hee, heq⟩ := List.mem_map.1 this
    simp only [pairV, Prod.mk.injEq] at heq
    exact h2 e hee heq.1
  · obtain ⟨p, hp, hpk, hpv⟩ := im_key he (List.mem_of_getElem? h2)
    rw [h3] at hpk
    simp only [Value.int.injEq, true_and] at hpk
    have hv := hu p hp hpk.symm
    rw [hv] at hpv
    simp [Instr.lookup, run_underlying Tryd.underlying135, MapKept.run_getObj_map hb, iKey.check w _ hkey, h1, hpv, Result.andThen]
theorem im_put {l : List (Int × Int)} {b : Nat} {w : World} (h : IM w b l) (hg : ∀ p ∈ l, i64ok p.1) (k v : Int) (hk : i64ok k) (hn : ∀ p ∈ l, p.1 ≠ k) :
    ∃ w', (Instr.mapUpdate 135 (.map (some b)) (.int .i64 k) (.int .i64 v)).run Tryd.prog w = .ok () w' ∧ IM w' b (l ++ [(k, v)]) ∧ w.grownBy w' (some b) := by
  obtain ⟨es, clock, hb, he⟩ := h
  have hkey := iKeyOf (i64_wf hk)
  rcases iKey.find w hkey es.toList (im_keys he hg) with ⟨h1, -⟩ | ⟨j, e, h1, h2, h3⟩
  · refine ⟨ChangeMaps.setBlock w b (.map (es.push ⟨.int .i64 k, .int .i64 v, clock⟩) (clock + 1)), ?_, ⟨es.push ⟨.int .i64 k, .int .i64 v, clock⟩, clock + 1, ?_, ?_⟩, ?_⟩
    · simp [Instr.mapUpdate, run_underlying Tryd.underlying135, MapKept.run_getObj_map hb, iKey.check w false hkey, h1, MapKept.run_setObj_map _ hb, Result.andThen, ChangeMaps.setBlock]
    · have := lt_of_block hb
      simp [ChangeMaps.setBlock, this]
    · rw [Array.toList_push, List.map_append, he, List.map_append]; rfl
    · refine ⟨rfl, rfl, rfl, by simp [ChangeMaps.setBlock], fun i hi hne => ?_⟩
      simp only [ChangeMaps.setBlock]
      rw [Array.getElem?_setIfInBounds_ne (fun e => hne (by rw [e]))]
  · obtain ⟨p, hp, hpk, -⟩ := im_key he (List.mem_of_getElem? h2)
    rw [h3] at hpk
    simp only [Value.int.injEq, true_and] at hpk
    exact absurd hpk.symm (hn p hp)
def meantT : List (Int × Int) := [(110, 10), (116, 9), (48, 0), (92, 92), (34, 34), (39, 39)]
set_option maxRecDepth 100000 in
set_option maxHeartbeats 1000000 in
theorem meant_any (w : World) : Calls Tryd.prog 99 #[] w fun e w' => e = .returned (.map (some w.heap.size)) ∧ IM w' w.heap.size meantT ∧ Below w.heap.size w w' := by
  obtain ⟨b, hb⟩ : ∃ b, b = w.heap.size := ⟨_, rfl⟩
  have I0 : IM (w.alloc (.map #[] 0)) b [] := ⟨#[], 0, by rw [hb]; exact (MapKept.heap_alloc w _).1, rfl⟩
  have B0 : Below b w (w.alloc (.map #[] 0)) := by rw [hb]; exact (Below.refl _ _).alloc (Nat.le_refl _) _
  obtain ⟨w1, e1, I1, g1⟩ := im_put I0 (by decide) 110 10 (by decide) (by decide)
  obtain ⟨w2, e2, I2, g2⟩ := im_put I1 (by decide) 116 9 (by decide) (by decide)
  obtain ⟨w3, e3, I3, g3⟩ := im_put I2 (by decide) 48 0 (by decide) (by decide)
  obtain ⟨w4, e4, I4, g4⟩ := im_put I3 (by decide) 92 92 (by decide) (by decide)
  obtain ⟨w5, e5, I5, g5⟩ := im_put I4 (by decide) 34 34 (by decide) (by decide)
  obtain ⟨w6, e6, I6, g6⟩ := im_put I5 (by decide) 39 39 (by decide) (by decide)
  have hg := ((((g1.trans g2).trans g3).trans g4).trans g5).trans g6
  have HI := Lib.hid I6
  have HG := Lib.hid (B0.grown hg (by rw [hb]; simp) (fun k hk => by cases hk; exact Nat.le_refl _))
  have HB := Lib.hid hb
  rw [hb] at e1 e2 e3 e4 e5 e6
  clear I0 B0 I1 I2 I3 I4 I5 I6 g1 g2 g3 g4 g5 g6 hg hb
  have hmm := @run_makeMap Tryd.prog
  go_enter Tryd.func99, Tryd.ntmps99
  go_wp2
  go_ret
  exact ⟨rfl, HB.out ▸ HI.out, HB.out ▸ HG.out⟩

theorem meantT_ok : ∀ p ∈ meantT, i64ok p.1 := by decide
theorem meant_yes {c v : Nat} (h : meantL c = some v) : ((c : Int), (v : Int)) ∈ meantT ∧ ∀ p ∈ meantT, p.1 = (c : Int) → p.2 = (v : Int) := by
  unfold meantL at h
  split at h
  · rename_i e; cases h; subst e; decide
  split at h
  · rename_i e; cases h; subst e; decide
  split at h
  · rename_i e; cases h; subst e; decide
  split at h
  · rename_i e; cases h; subst e; decide
  split at h
  · rename_i e; cases h; subst e; decide
  split at h
  · rename_i e; cases h; subst e; decide
  · cases h
theorem meant_no {c : Nat} (h : meantL c = none) : ∀ p ∈ meantT, p.1 ≠ (c : Int) := by
  unfold meantL at h
  repeat (split at h; · cases h)
  intro p hp
  unfold meantT at hp
  simp only [List.mem_cons, List.not_mem_nil, or_false] at hp
  rcases hp with rfl | rfl | rfl | rfl | rfl | rfl <;> simp only [ne_eq] <;> omega
theorem meant_end : ∀ p ∈ meantT, p.1 ≠ (-1 : Int) := by decide
/-- What one hands back. -/
def OneP (p : Nat) (rs : List Nat) (q at0 : Nat) (w : World) (e : Ending) (w' : World) : Prop :=
  match oneL q (rs.drop at0) with
  | some (v, t) => ∃ a1, a1 ≤ rs.length ∧ rs.drop a1 = t ∧ e = .returned (.tuple #[.int .i64 (v : Int), .bool true]) ∧ RD w' p rs a1 ∧ KP p w w'
  | none => ∃ (v : Int) (a1 : Nat), e = .returned (.tuple #[.int .i64 v, .bool false]) ∧ RD w' p rs a1 ∧ KP p w w'
theorem OneP.some_mk {p : Nat} {rs : List Nat} {q at0 : Nat} {w : World} {e : Ending} {w' : World} {v : Nat} {t : List Nat} (h : oneL q (rs.drop at0) = some (v, t)) {a1 : Nat} (h1 : a1 ≤ rs.length) (h2 : rs.drop a1 = t)
    (h3 : e = .returned (.tuple #[.int .i64 (v : Int), .bool true])) (h4 : RD w' p rs a1) (h5 : KP p w w') : OneP p rs q at0 w e w' := by
  unfold OneP; rw [h]; exact ⟨a1, h1, h2, h3, h4, h5⟩
theorem OneP.none_mk {p : Nat} {rs : List Nat} {q at0 : Nat} {w : World} {e : Ending} {w' : World} (h : oneL q (rs.drop at0) = none) (v : Int) {a1 : Nat}
    (h3 : e = .returned (.tuple #[.int .i64 v, .bool false])) (h4 : RD w' p rs a1) (h5 : KP p w w') : OneP p rs q at0 w e w' := by
  unfold OneP; rw [h]; exact ⟨v, a1, h3, h4, h5⟩
theorem oneL_nil {q : Nat} {l : List Nat} (h : l = []) : oneL q l = none := by subst h; rfl
theorem IM.kept {w w' : World} {b p : Nat} {l : List (Int × Int)} (h : IM w b l) (hk : KP p w w') (hne : b ≠ p) : IM w' b l := by
  obtain ⟨es, clock, h1, h2⟩ := h
  exact ⟨es, clock, (hk.block b (lt_of_block h1) (fun e => hne (by cases e; rfl))).trans h1, h2⟩
theorem peek_i64 {l : List Nat} (h : ∀ r ∈ l, VR r) (k : Nat) : i64ok (peekZ (l.drop k)) := by
  by_cases hl : k < l.length
  · rw [peekZ_at hl]
    have := h _ (List.getElem_mem hl)
    unfold VR at this
    constructor <;> omega
  · rw [peekZ_end (by omega)]; decide
set_option maxRecDepth 100000 in
set_option maxHeartbeats 2000000 in
theorem one_any {w : World} {p at0 : Nat} {rs : List Nat} (q : Nat) (h : RD w p rs at0) (h1 : at0 ≤ rs.length) (h2 : rs.length ≤ 300) (hvr : ∀ r ∈ rs, VR r) :
    Calls Tryd.prog 89 #[.pointer (some ⟨p, 0, none⟩), .int .i64 (q : Int)] w (OneP p rs q at0 w) := by
  obtain ⟨v, hv⟩ : ∃ v, v = peekZ (rs.drop at0) := ⟨_, rfl⟩
  have HP := Lib.hid (peek0 h (by omega) (by omega))
  rw [← hv] at HP
  have HV := Lib.hid hv
  obtain ⟨m, hm⟩ : ∃ m, m = at0 + 1 := ⟨_, rfl⟩
  have HW : Hid (IntKind.i64.wrap ((at0 : Int) + 1) = (m : Int)) := Lib.hid (by rw [wrap_at at0 (by omega), hm])
  have HM := Lib.hid hm
  have HL := Lib.hid (And.intro h1 h2)
  have HVR := Lib.hid hvr
  clear hv h h1 h2 hm hvr
  by_cases c : (v != 92) = true
  · -- no backslash
    have HC := Lib.hid c
    cases d : decide (32 ≤ v)
    · have HN : Hid (oneL q (rs.drop at0) = none) := Lib.hid (by
        have hv := HV.out
        by_cases hl : at0 < rs.length
        · rw [peekZ_at hl] at hv
          rw [drop_cons hl]
          unfold oneL
          simp only
          have d' := of_decide_eq_false d
          have c' : v ≠ 92 := by rw [bne_iff_ne] at c; exact c
          rw [if_neg (by omega), if_neg (by omega)]
        · exact oneL_nil (List.drop_eq_nil_of_le (by omega)))
      have d' := of_decide_eq_false d
      clear d
      go_enter Tryd.func89, Tryd.ntmps89
      go_wp2_with fail
      refine (HP.out).mono ?_
      rintro e u1 ⟨rfl, hR, hK⟩
      have HR1 := Lib.hid hR
      have HK1 := Lib.hid hK
      obtain ⟨a, cc, c0, c1, f1⟩ := hR.cells
      clear hR hK
      have hw := HW.out
      go_wp2
      go_ret2
      exact OneP.none_mk HN.out _ rfl (HR1.out.step _) (HK1.out.trans (KP.step _ _ _ _))
    · have d' := of_decide_eq_true d
      clear d
      have hl : at0 < rs.length := by
        apply Classical.byContradiction; intro hn
        have hv := HV.out
        rw [peekZ_end (by omega)] at hv; omega
      obtain ⟨x, hx⟩ : ∃ x, x = rs[at0] := ⟨_, rfl⟩
      have hv : v = (x : Int) := by rw [HV.out, peekZ_at hl, hx]
      have hD : rs.drop at0 = x :: rs.drop m := by rw [drop_cons hl, hx, HM.out]
      have HLT := Lib.hid hl
      clear hx hl
      subst hv
      cases f : (x : Int) != (q : Int)
      · have HN : Hid (oneL q (rs.drop at0) = none) := Lib.hid (by
          rw [hD]
          unfold oneL
          simp only
          rw [bne_iff_ne] at c
          rw [bne_eq_false_iff_eq] at f
          rw [if_neg (by omega), if_neg (by omega)])
        clear hD
        go_enter Tryd.func89, Tryd.ntmps89
        go_wp2_with fail
        refine (HP.out).mono ?_
        rintro e u1 ⟨rfl, hR, hK⟩
        have HR1 := Lib.hid hR
        have HK1 := Lib.hid hK
        obtain ⟨a, cc, c0, c1, f1⟩ := hR.cells
        clear hR hK
        have hw := HW.out
        go_wp2
        go_ret2
        exact OneP.none_mk HN.out _ rfl (HR1.out.step _) (HK1.out.trans (KP.step _ _ _ _))
      · have HN : Hid (oneL q (rs.drop at0) = some (x, rs.drop m)) := Lib.hid (by
          rw [hD]
          rw [bne_iff_ne] at c f
          exact one_self _ (by omega) (by omega) (by omega))
        clear hD
        go_enter Tryd.func89, Tryd.ntmps89
        go_wp2_with fail
        refine (HP.out).mono ?_
        rintro e u1 ⟨rfl, hR, hK⟩
        have HR1 := Lib.hid hR
        have HK1 := Lib.hid hK
        obtain ⟨a, cc, c0, c1, f1⟩ := hR.cells
        clear hR hK
        have hw := HW.out
        go_wp2
        go_ret2
        exact OneP.some_mk HN.out (a1 := m) (by have := HLT.out; have := HM.out; omega) rfl rfl (HR1.out.step _) (HK1.out.trans (KP.step _ _ _ _))
  · -- a backslash
    have hv92 : v = 92 := by
      apply Classical.byContradiction; intro hn
      exact c (by rw [bne_iff_ne]; exact hn)
    clear c
    subst hv92
    have hl : at0 < rs.length := by
      apply Classical.byContradiction; intro hn
      have hv := HV.out
      rw [peekZ_end (by omega)] at hv; cases hv
    have hD : rs.drop at0 = 92 :: rs.drop m := by
      have hv := HV.out
      rw [peekZ_at hl] at hv
      rw [drop_cons hl, HM.out]
      congr 1
      omega
    have hO : oneL q (rs.drop at0) = escL (rs.drop m) := by
      rw [hD]; unfold oneL; simp only [if_true]
    obtain ⟨r, hr⟩ : ∃ r, r = peekZ (rs.drop m) := ⟨_, rfl⟩
    have HR := Lib.hid hr
    have HO := Lib.hid hO
    have HP2 : Hid (∀ u, RD u p rs m → Calls Tryd.prog 61 #[.pointer (some ⟨p, 0, none⟩), .int .i64 0] u (PeekP p rs m r u)) := Lib.hid fun u hu => by
      rw [hr]; exact peek0 hu (by have := HL.out; have := HM.out; omega) (by have := HL.out; omega)
    obtain ⟨m2, hm2⟩ : ∃ m2, m2 = m + 1 := ⟨_, rfl⟩
    have HW2 : Hid (IntKind.i64.wrap ((m : Int) + 1) = (m2 : Int)) := Lib.hid (by rw [wrap_at m (by have := HL.out; have := HM.out; omega), hm2])
    have HM2 := Lib.hid hm2
    clear hm2
    have hro : i64ok r := by rw [hr]; exact peek_i64 HVR.out m
    -- what the table says of it
    have hT : (∃ (t : List Nat) (k x : Nat), r = (k : Int) ∧ rs.drop m = k :: t ∧ meantL k = some x) ∨ (escL (rs.drop m) = none ∧ ∀ p ∈ meantT, p.1 ≠ r) := by
      by_cases hl1 : m < rs.length
      · cases hm : meantL rs[m] with
        | some x => exact .inl ⟨_, _, x, by rw [hr, peekZ_at hl1], drop_cons hl1, hm⟩
        | none =>
          refine .inr ⟨?_, ?_⟩
          · rw [drop_cons hl1]; unfold escL; simp only [hm]
          · rw [hr, peekZ_at hl1]; exact meant_no hm
      · refine .inr ⟨?_, ?_⟩
        · rw [List.drop_eq_nil_of_le (by omega)]; rfl
        · rw [hr, peekZ_end (by omega)]; exact meant_end
    have HLT := Lib.hid hl
    clear hO hD hr hl
    have HRO := Lib.hid hro
    clear hro
    have hT2 : ∃ (y : Int) (ok : Bool), (∀ (u : World) (b : Nat), IM u b meantT → (Instr.lookup 135 (.map (some b)) (.int .i64 r) true).run Tryd.prog u = .ok (.tuple #[.int .i64 y, .bool ok]) u) ∧
        ((ok = true ∧ ∃ x : Nat, y = x ∧ oneL q (rs.drop at0) = some (x, rs.drop m2) ∧ m2 ≤ rs.length) ∨ (ok = false ∧ oneL q (rs.drop at0) = none)) := by
      rcases hT with ⟨t, k, x, hrk, ht, hm⟩ | ⟨hn, hne⟩
      · refine ⟨x, true, fun u b hI => ?_, .inl ⟨rfl, x, rfl, ?_, ?_⟩⟩
        · rw [hrk]; exact im_yes hI meantT_ok (meant_yes hm).1 (meant_yes hm).2
        · have hd : rs.drop m2 = t := by
            have := congrArg List.tail ht
            rw [List.tail_drop] at this
            rw [HM2.out]; exact this
          rw [HO.out, ht, hd]
          unfold escL
          simp only [hm]
        · have h0 := congrArg List.length ht
          rw [List.length_drop, List.length_cons] at h0
          have := HM2.out; omega
      · exact ⟨0, false, fun u b hI => im_no hI meantT_ok HRO.out hne, .inr ⟨rfl, by rw [HO.out, hn]⟩⟩
    obtain ⟨y, ok, hlook, hres⟩ := hT2
    clear hT
    have HLK := Lib.hid hlook
    have HRES := Lib.hid hres
    clear hlook hres
    go_enter Tryd.func89, Tryd.ntmps89
    go_wp2_with fail
    refine (HP.out).mono ?_
    rintro e u1 ⟨rfl, hR, hK⟩
    have HR1 := Lib.hid (hR.step m)
    have HK1 := Lib.hid (KP.trans' hK (KP.step p u1 1 (.int .i64 (m : Int))))
    obtain ⟨a, cc, c0, c1, f1⟩ := hR.cells
    clear hR hK
    have hw := HW.out
    go_wp2_with fail
    clear c0 c1 f1 hw
    generalize u1.setCell ⟨p, 1, none⟩ (.int .i64 (m : Int)) = W2 at HR1 HK1 ⊢
    refine (meant_any W2).mono ?_
    rintro e u2 ⟨rfl, hI, hB⟩
    obtain ⟨b, hb⟩ : ∃ b, b = W2.heap.size := ⟨_, rfl⟩
    rw [← hb] at hI hB ⊢
    have HR2 := Lib.hid (HR1.out.below hB (by rw [hb]; exact HR1.out.lt))
    have HK2 := Lib.hid (KP.trans' HK1.out (KP.of_below (hb ▸ hB)))
    have HI := Lib.hid hI
    have HNE : Hid (b ≠ p) := Lib.hid (by have := HR1.out.lt; omega)
    clear hI hB hb
    go_wp2_with fail
    refine (HP2.out u2 HR2.out).mono ?_
    rintro e u3 ⟨rfl, hR, hK⟩
    have hlk := HLK.out u3 b (HI.out.kept hK HNE.out)
    have HR3 := Lib.hid (hR.step m2)
    have HK3 := Lib.hid (KP.trans' (KP.trans' HK2.out hK) (KP.step p u3 1 (.int .i64 (m2 : Int))))
    obtain ⟨a, cc, c0, c1, f1⟩ := hR.cells
    clear hR hK
    have hw := HW2.out
    go_wp2
    go_ret2
    rcases HRES.out with ⟨rfl, x, rfl, h1, h2⟩ | ⟨rfl, h1⟩
    · exact OneP.some_mk h1 h2 rfl rfl HR3.out HK3.out
    · exact OneP.none_mk h1 _ rfl HR3.out HK3.out
end Go.Proofs.YtngoipcjipbelaaDoor
