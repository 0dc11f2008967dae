/- lex: Line. -/
import Derived.Test.YtngoipcjipbelaaDoorLJ
namespace Go.Proofs.YtngoipcjipbelaaDoor
set_option linter.unusedVariables false
set_option linter.unusedSimpArgs false
open Go.ChangeShapes Go.WideShapes Go.Deep Go.RowKit

theorem tkC_len (t : Tk) : (tkC t).length = 3 := rfl
theorem tkA (t : Tk) : (tkC t).toArray = #[.int .i64 (t.kind : Int), .string ⟨t.text.toArray⟩, .int .u64 (t.v : Int)] := rfl
theorem info_tok : (Tryd.prog.info? 31).map (fun i => (i.zero, i.size, i.bytes)) = some (some (.agg #[.int .i64 0, .string ByteArray.empty, .int .u64 0]), 3, 32) := by kernel_rfl
def addL (acc : List Tk) (o : Option (List Tk)) : Option (List Tk) := match o with | none => none | some ts => some (acc ++ ts)
/-- What Line hands back. -/
def LineP (rs : List Nat) (w : World) (e : Ending) (w' : World) : Prop :=
  match lineL rs with
  | none => e = .returned (.tuple #[.slice none 0 0, .int .i64 3]) ∧ Below w.heap.size w w'
  | some ts => ∃ a c, e = .returned (.tuple #[.slice a ts.length c, .int .i64 0]) ∧ SL tkC 3 w' w'.heap.size a ts.length ts ∧ ((a = none → ts.length = 0 ∧ c = 0) ∧ ts.length ≤ c) ∧ Below w.heap.size w w'
theorem LineP.none_mk {rs : List Nat} {w : World} {e : Ending} {w' : World} (h : lineL rs = none) (he : e = .returned (.tuple #[.slice none 0 0, .int .i64 3])) (hb : Below w.heap.size w w') : LineP rs w e w' := by unfold LineP; rw [h]; exact ⟨he, hb⟩
theorem LineP.some_mk {rs : List Nat} {w : World} {e : Ending} {w' : World} {ts : List Tk} (h : lineL rs = some ts) {a : Option Addr} {c : Nat} (he : e = .returned (.tuple #[.slice a ts.length c, .int .i64 0])) (hs : SL tkC 3 w' w'.heap.size a ts.length ts)
    (hn : (a = none → ts.length = 0 ∧ c = 0) ∧ ts.length ≤ c) (hb : Below w.heap.size w w') : LineP rs w e w' := by unfold LineP; rw [h]; exact ⟨a, c, he, hs, hn, hb⟩
/-- The rounds of Line. -/
def LinI (p : Nat) (rs : List Nat) (w : World) (lv : Value) (wl : World) (a1 : Nat) (acc : List Tk) : Prop :=
  wl.ownsRow (p + 1) 31 3 lv acc.length (acc.flatMap tkC) ∧ RD wl p rs a1 ∧ Below w.heap.size w wl ∧ a1 ≤ rs.length ∧ acc.length ≤ a1 ∧ lineL rs = addL acc (lineL (rs.drop a1))
theorem KP.to_below {w u u' : World} {p : Nat} (hw : Below w.heap.size w u) (h : KP p u u') (hp : w.heap.size ≤ p) : Below w.heap.size w u' :=
  hw.trans ⟨h.os, h.tape, h.output, h.size, fun k hk => h.block k (by have := hw.size; omega) (by simp; omega)⟩
theorem own_kp {w w' : World} {p B e n : Nat} {v : Value} {xs : List Value} {sz : Nat} (h : w.ownsRow (p + 1) e sz v n xs) (hk : KP p w w') : w'.ownsRow (p + 1) e sz v n xs := by
  refine h.kept hk ?_
  cases hv : v.ownBlock with
  | none => exact .inl rfl
  | some g => right; have := (h.lt g hv).1; simp; omega
theorem own_cap {w : World} {B e sz n c : Nat} {a : Option Addr} {xs : List Value} (h : w.ownsRow B e sz (.slice a n c) n xs) : n ≤ c := by
  rcases h.2 with ⟨hv, h0⟩ | ⟨g, cap, cur, hv, _, _, h3, _⟩
  · omega
  · simp only [Value.slice.injEq] at hv; omega
theorem cell_three_new (w : World) (t : TypeId) (x y z : Value) : ∀ j u, [x, y, z][j]? = some u → (w.alloc (.cells #[x, y, z] t)).cell? ((⟨w.heap.size, 0, none⟩ : Addr).add j) = some u := by
  intro j u hj
  match j, hj with
  | 0, hj => simp at hj; subst hj; simp [Addr.add]
  | 1, hj => simp at hj; subst hj; simp [Addr.add]
  | 2, hj => simp at hj; subst hj; simp [Addr.add]
theorem tk_one (t : Tk) : ∀ u ∈ [Value.int .i64 (t.kind : Int), Value.string ⟨t.text.toArray⟩, Value.int .u64 (t.v : Int)], u.oneCell' = true := by simp [Value.oneCell']
set_option maxRecDepth 100000 in
set_option maxHeartbeats 1000000 in
theorem Line_long (s : ByteArray) (hs : 200 < s.size) (hm : s.size ≤ maxLen) (w : World) : Calls Tryd.prog 16 #[.string s] w (RetB (.tuple #[.slice none 0 0, .int .i64 2]) w) := by
  have h1 : (200 : Int) < (s.size : Int) := by omega
  have hz : (s.size : Int) ≤ 9223372036854775807 := by unfold maxLen at hm; omega
  clear hs hm
  go_enter Tryd.func16, Tryd.ntmps16
  go_wp2
  go_ret2
  exact ⟨rfl, Below.refl _ _⟩
set_option maxRecDepth 100000 in
set_option maxHeartbeats 1000000 in
theorem Line_bad (s : ByteArray) (hu : Lib.validD s.data.toList = false) (hs : s.size ≤ 200) (w : World) (hT : Tab w) : Calls Tryd.prog 16 #[.string s] w (RetB (.tuple #[.slice none 0 0, .int .i64 3]) w) := by
  have h1 : ¬ (200 : Int) < (s.size : Int) := by omega
  have HC := Lib.hid (Runes_no s hu (by omega) w hT)
  clear hs hu hT
  go_enter Tryd.func16, Tryd.ntmps16
  go_wp2_with fail
  refine HC.out.mono ?_
  rintro e w1 ⟨rfl, hb⟩
  have HB := Lib.hid hb
  clear hb
  go_wp2
  go_ret2
  exact ⟨rfl, HB.out⟩
set_option maxRecDepth 100000 in
set_option maxHeartbeats 4000000 in
theorem Line_any (s : ByteArray) (rs : List Nat) (hu : U s.data.toList rs) (hs : s.size ≤ 200) (w : World) (hT : Tab w) : Calls Tryd.prog 16 #[.string s] w (LineP rs w) := by
  obtain ⟨i0, hi, hz0, hz1, hz2⟩ := info_parts info_tok
  have h1 : ¬ (200 : Int) < (s.size : Int) := by omega
  have HC := Lib.hid (Runes_yes s rs hu (by omega) w hT)
  have HL : Hid (rs.length ≤ 300) := Lib.hid (by
    have := hu.len
    have h2 : s.data.toList.length = s.size := by simp
    omega)
  have HVR := Lib.hid hu.2
  clear hs hu hT
  go_enter Tryd.func16, Tryd.ntmps16
  go_wp2_with fail
  refine HC.out.mono ?_
  rintro e w1 ⟨a, c, rfl, hsl, hnil, hb⟩
  obtain ⟨p, hp⟩ : ∃ p, p = w1.heap.size := ⟨_, rfl⟩
  have HI : Hid (LinI p rs w (.slice none 0 0) (w1.alloc (.cells #[.slice a rs.length c, .int .i64 0] 75)) 0 []) := Lib.hid ⟨World.ownsRow_nil _ _ _ _, ⟨a, c, by rw [hp]; exact (MapKept.heap_alloc w1 _).1, by
      rw [hp]; exact hsl.below ((Below.refl _ _).alloc (Nat.le_refl _) _)⟩, hb.alloc hb.size _, by omega, by simp, by cases h : lineL rs with | none => rw [List.drop_zero, h]; rfl | some x => rw [List.drop_zero, h]; rfl⟩
  have HPW : Hid (w.heap.size ≤ p) := Lib.hid (by rw [hp]; exact hb.size)
  clear hsl hnil hb
  go_wp2
  rw [← hp]
  clear hp
  generalize w1.alloc (.cells #[.slice a rs.length c, .int .i64 0] 75) = W0 at HI ⊢
  go_loopg [7] (rs.length) (fun k lv wl => ∃ a1 acc, Hid (LinI p rs w lv wl a1 acc) ∧ Hid (k = rs.length - a1))
  case atStart => exact ⟨0, [], HI, Lib.hid rfl⟩
  case round =>
    clear HI
    obtain ⟨a1, acc, HA, HK⟩ := hrel
    cases hst : stops ((rs.drop a1).dropWhile whiR)
    · -- a token stands there
      go_wp2_with fail
      refine (more_any HA.out.2.1 HA.out.2.2.2.1 HL.out).mono ?_
      rintro e u1 ⟨a2, q1, q2, q3, rfl, hR, hK⟩
      have hlt : a2 < rs.length := by
        apply Classical.byContradiction; intro hn
        rw [← q3, List.drop_eq_nil_of_le (by omega)] at hst
        exact absurd hst (by decide)
      have hst2 : stops (rs.drop a2) = false := by rw [q3]; exact hst
      rw [hst2]
      have HR1 := Lib.hid hR
      have HO1 := Lib.hid (own_kp (B := 0) HA.out.1 hK)
      have HB1 := Lib.hid (KP.to_below HA.out.2.2.1 hK HPW.out)
      have HQ := Lib.hid (And.intro q1 (And.intro q3 hlt))
      have HST := Lib.hid hst
      clear hR hK q1 q2 q3 hlt hst hst2
      cases ht : tokL (rs.drop a2) with
      | none =>
        have HT : Hid (lineL rs = none) := Lib.hid (by
          have e := HQ.out.2.1
          rw [HA.out.2.2.2.2.2, lineL_none HST.out (by rw [← e]; exact ht)]; rfl)
        go_wp2_with fail
        refine (token_any HR1.out HQ.out.2.2 HL.out HVR.out).mono ?_
        intro e u2 hO
        unfold TokP at hO
        rw [ht] at hO
        obtain ⟨k, tx, y, rfl, hK⟩ := hO
        have HB2 := Lib.hid (KP.to_below HB1.out hK HPW.out)
        have HTT := Lib.hid ht
        clear hK ht
        go_wp2
        go_ret2
        exact LineP.none_mk HT.out rfl (by first | exact HB2.out | exact HB2.out.alloc HB2.out.size _)
      | some x =>
        obtain ⟨t, uu⟩ := x
        have HT : Hid (lineL rs = addL (acc ++ [t]) (lineL uu) ∧ uu.length < (rs.drop a2).length) := Lib.hid (by
          have e := HQ.out.2.1
          refine ⟨?_, tok_short ht⟩
          rw [HA.out.2.2.2.2.2, lineL_some HST.out (by rw [← e]; exact ht)]
          cases lineL uu with | none => rfl | some y => simp [addL])
        go_wp2_with fail
        refine (token_any HR1.out HQ.out.2.2 HL.out HVR.out).mono ?_
        intro e u2 hO
        unfold TokP at hO
        rw [ht] at hO
        obtain ⟨a3, r1, r2, rfl, hR, hK⟩ := hO
        rw [tkA]
        have HR2 := Lib.hid hR
        have HO2 := Lib.hid (own_kp (B := 0) HO1.out hK)
        have HB2 := Lib.hid (KP.to_below HB1.out hK HPW.out)
        have HX := Lib.hid (And.intro r1 r2)
        have HTT := Lib.hid ht
        clear hR hK ht r1 r2
        obtain ⟨V, hV⟩ : ∃ V, V = u2.alloc (.cells #[.int .i64 (t.kind : Int), .string ⟨t.text.toArray⟩, .int .u64 (t.v : Int)] 31) := ⟨_, rfl⟩
        have hbV : Below u2.heap.size u2 V := by rw [hV]; exact (Below.refl _ _).alloc (Nat.le_refl _) _
        have HO3 : Hid (V.ownsRow (p + 1) 31 3 u7 acc.length (acc.flatMap tkC)) := Lib.hid (by rw [hV]; exact HO2.out.alloc _)
        have HR3 : Hid (RD V p rs a3) := Lib.hid (HR2.out.below hbV HR2.out.lt)
        have HB3 : Hid (Below w.heap.size w V) := Lib.hid (HB2.out.trans (hbV.mono HB2.out.size))
        have HVE := Lib.hid hV
        have HVS : Hid (V.heap.size = u2.heap.size + 1) := Lib.hid (by rw [hV]; simp)
        have HAL : Hid (acc.length + 1 ≤ 301) := Lib.hid (by have := HA.out.2.2.2.1; have := HA.out.2.2.2.2.1; have := HL.out; omega)
        generalize hal : acc.length = al at HO3 HAL
        have hm : al + 1 ≤ maxLen := by have := HAL.out; unfold maxLen; omega
        have hby : (al + 1) * 32 ≤ 140737488355328 := by have := HAL.out; omega
        have hpV : p + 1 ≤ V.heap.size := by have := HR3.out.lt; omega
        clear hV hbV
        go_wp2_with (at_builtin; rw [← HVE.out]; refine wpList_append_own _ rfl _ _ 26 rfl (p + 1) 31 i0 _ 3 32 Tryd.underlying26 hi hz0 hz1 hz2 rfl (by decide) _ al (acc.flatMap tkC) rfl (HO3.out.alloc _) ⟨u2.heap.size + 1, 0, none⟩ 1 1 (tkC t) rfl rfl (by rw [← HVS.out]; exact cell_three_new _ _ _ _ _) (tk_one t) hm hby (by simp; omega) ?_; intro v' w2 hown2 hgrow2 hiff)
        go_roundg (rs.length - a3)
        case measure =>
          have h0 := HT.out.2
          rw [← HX.out.2, List.length_drop, List.length_drop] at h0
          have := HK.out; have := HQ.out.1; have := HX.out.1; have := HQ.out.2.2; omega
        case rel =>
          have hbw : Below (p + 1) V w2 := ((Below.refl (p + 1) V).alloc hpV _).grown hgrow2 (by simp; omega) (fun j hj => (HO3.out.lt j hj).1)
          refine ⟨a3, acc ++ [t], Lib.hid ⟨?_, HR3.out.below hbw (by omega), HB3.out.trans (hbw.mono (by have := HPW.out; omega)), HX.out.1, ?_, ?_⟩, Lib.hid rfl⟩
          · rw [List.flatMap_append, List.length_append, hal, show ([t] : List Tk).flatMap tkC = tkC t by simp]; exact hown2
          · have h0 := HT.out.2
            rw [← HX.out.2, List.length_drop, List.length_drop] at h0
            rw [List.length_append, List.length_singleton]
            have := HA.out.2.2.2.2.1; have := HQ.out.1; have := HX.out.1; have := HQ.out.2.2; omega
          · rw [HT.out.1, HX.out.2]
    · -- the end
      have HT : Hid (lineL rs = some acc) := Lib.hid (by rw [HA.out.2.2.2.2.2, lineL_end hst]; simp [addL])
      go_wp2_with fail
      refine (more_any HA.out.2.1 HA.out.2.2.2.1 HL.out).mono ?_
      rintro e u1 ⟨a2, q1, q2, q3, rfl, hR, hK⟩
      have hst2 : stops (rs.drop a2) = true := by rw [q3]; exact hst
      rw [hst2]
      have HO1 := Lib.hid (own_kp (B := 0) HA.out.1 hK)
      have HB1 := Lib.hid (KP.to_below HA.out.2.2.1 hK HPW.out)
      clear hR hK q1 q2 q3 hst hst2
      go_wp2
      go_ret2
      obtain ⟨a', c', rfl, hsl, hnil⟩ := SL.ofOwns tkC_len (by omega) HO1.out
      exact LineP.some_mk HT.out rfl hsl ⟨hnil, own_cap HO1.out⟩ HB1.out
end Go.Proofs.YtngoipcjipbelaaDoor
