/- lex: lines and words. -/
import Derived.Test.YthejefldnpeciaaGreatDoorzL2
import Derived.Shelf.Unicode.DecodeSlow
import Derived.Lib.OthersKept
namespace Go.Proofs.YthejefldnpeciaaGreatDoor
set_option linter.unusedVariables false
set_option linter.unusedSimpArgs false
open Go.ChangeShapes Go.WideShapes Go.Deep Go.RowKit

theorem token_any {w : World} {p at0 : Nat} {rs : List Nat} (h : RD w p rs at0) (h1 : at0 < rs.length) (h2 : rs.length ≤ 300) (hvr : ∀ r ∈ rs, VR r) :
    Calls Tryz.prog 29 #[.pointer (some ⟨p, 0, none⟩)] w (TokP p rs at0 w) := by
  obtain ⟨r, hr⟩ : ∃ r, rs[at0]? = some r := ⟨_, List.getElem?_eq_getElem h1⟩
  cases c : letterI (r : Int)
  · cases d : digI (r : Int)
    · by_cases e34 : r = 34
      · cases f : textL (rs.drop (at0 + 1)) with
        | none => exact token_text_no h h1 h2 hvr hr c d e34 f
        | some x => exact token_text h h1 h2 hvr hr c d e34 f
      · by_cases e39 : r = 39
        · cases f : charL (rs.drop (at0 + 1)) with
          | none => exact token_character_no h h1 h2 hvr hr c d e39 f
          | some x =>
            obtain ⟨v, u⟩ := x
            refine token_character h h1 h2 hvr hr c d e39 f ?_
            unfold charL at f
            split at f
            · cases f
            · rename_i y t ho
              have := one_vr ho fun r hr => hvr r (List.mem_of_mem_drop hr)
              split at f
              · cases f
                unfold VR at this; omega
              · cases f
        · cases f : signR r
          · exact token_none h h1 h2 hvr hr c d e34 e39 f
          · exact token_sign h h1 h2 hvr hr c d e34 e39 f
    · exact token_number h h1 h2 hvr hr c d
  · exact token_word h h1 h2 hvr hr c
/-- The two tables of the library. -/
def RTab (w : World) : Prop := Lib.Utf8Tabs 3 4 w
theorem RTab.next {w w' : World} (h : RTab w) (hb : Below w.heap.size w w') : RTab w' := by
  obtain ⟨h1, h2⟩ := h
  have l1 := cell_lt (h1 0 (by omega))
  have l2 := cell_lt (h2 0 (by omega)).1
  refine ⟨fun c hc => ?_, fun i hi => ?_⟩
  · rw [hb.cell (p := ⟨3, c, none⟩) l1]; exact h1 c hc
  · rw [hb.cell (p := ⟨4, 2 * i, none⟩) l2, hb.cell (p := ⟨4, 2 * i + 1, none⟩) l2]; exact h2 i hi
theorem runC_len (r : Nat) : (runC r).length = 1 := rfl
theorem own_it {w : World} {B e size n : Nat} {v : Value} {xs : List Value} {k : Nat} {s : ByteArray} {pos : Nat} (h : w.ownsRow B e size v n xs) (hk : w.heap[k]? = some (.stringIter s pos)) (pos' : Nat) : (w.iterAt k s pos').ownsRow B e size v n xs := by
  refine ⟨h.1, ?_⟩
  rcases h.2 with h0 | ⟨g, cap, cur, hv, hb, hg, rest⟩
  · exact .inl h0
  · refine .inr ⟨g, cap, cur, hv, hb, ?_, rest⟩
    rw [Lib.iterAt_other _ _ _ _ _ (fun e => by subst e; rw [hk] at hg; cases hg)]
    exact hg
theorem own_ne_it {w : World} {B e size n : Nat} {v : Value} {xs : List Value} {k : Nat} {s : ByteArray} {pos : Nat} (h : w.ownsRow B e size v n xs) (hk : w.heap[k]? = some (.stringIter s pos)) : some k ≠ v.ownBlock := by
  rcases h.2 with ⟨rfl, _⟩ | ⟨g, cap, cur, rfl, hb, hg, rest⟩
  · simp [Value.ownBlock]
  · intro e
    simp only [Value.ownBlock, Option.some.injEq] at e
    subst e
    rw [hk] at hg
    cases hg
theorem cell_one_new' (w : World) (t : TypeId) (u : Value) : ∀ j x, [u][j]? = some x → (w.alloc (.cells #[u] t)).cell? ((⟨w.heap.size, 0, none⟩ : Addr).add j) = some x := by
  intro j x hj
  match j, hj with
  | 0, hj => simp at hj; subst hj; simp [Addr.add]
theorem one_one' {k : Int} : ∀ u ∈ [Value.int .i64 k], u.oneCell' = true := by simp [Value.oneCell']
theorem info_int : (Tryz.prog.info? 3).map (fun i => (i.zero, i.size, i.bytes)) = some (some (.int .i64 0), 1, 8) := by kernel_rfl
/-- What Runes hands back of a text that is UTF-8. -/
def RunesP (rs : List Nat) (w : World) (e : Ending) (w' : World) : Prop :=
  ∃ a c, e = .returned (.tuple #[.slice a rs.length c, .int .i64 0]) ∧ SL runC 1 w' w'.heap.size a rs.length rs ∧ (a = none → rs.length = 0 ∧ c = 0) ∧ Below w.heap.size w w'
def RunI (s : ByteArray) (rs : List Nat) (it : Nat) (w : World) (k : Nat) (lv : Value) (wl : World) (pos : Nat) (acc rest : List Nat) : Prop :=
  wl.ownsRow w.heap.size 3 1 lv acc.length (acc.flatMap runC) ∧ wl.heap[it]? = some (.stringIter s pos) ∧ Below w.heap.size w wl ∧ rs = acc ++ rest ∧ U (s.data.toList.drop pos) rest ∧ k = rest.length
set_option maxRecDepth 100000 in
set_option maxHeartbeats 2000000 in
theorem Runes_yes (s : ByteArray) (rs : List Nat) (hu : U s.data.toList rs) (hs : s.size ≤ 1000000) (w : World) (hT : RTab w) :
    Calls Tryz.prog 27 #[.string s] w (RunesP rs w) := by
  obtain ⟨i0, hi, hz0, hz1, hz2⟩ := info_parts info_int
  have HC := Lib.hid (Tryz.utf8_ValidString s w (by omega) hT)
  rw [hu.valid] at HC
  have HU := Lib.hid hu
  have HS := Lib.hid hs
  have HL := Lib.hid hu.len
  clear hu hs hT
  go_enter Tryz.func27, Tryz.ntmps27
  go_wp2_with fail
  refine HC.out.mono ?_
  rintro e w1 ⟨rfl, hb⟩
  obtain ⟨it, hit⟩ : ∃ it, it = w1.heap.size := ⟨_, rfl⟩
  have HI : Hid (RunI s rs it w rs.length (.slice none 0 0) (w1.iter s 0) 0 [] rs) := Lib.hid ⟨World.ownsRow_nil _ _ _ _, by rw [hit]; exact World.iter_heap _ _ _, hb.alloc hb.size _, rfl, by simpa using HU.out, rfl⟩
  have HIT : Hid (w.heap.size ≤ it) := Lib.hid (by rw [hit]; exact hb.size)
  clear hb
  go_wp2
  rw [← hit]
  clear hit
  generalize w1.iter s 0 = W0 at HI ⊢
  go_loopg [4] (rs.length) (fun k lv wl => ∃ pos acc rest, Hid (RunI s rs it w k lv wl pos acc rest))
  case atStart => exact ⟨0, [], rs, HI⟩
  case round =>
    clear HI
    obtain ⟨pos, acc, rest, HA⟩ := hrel
    obtain ⟨hown, hh, hb, hrs, hur, hk⟩ := HA.out
    cases rest with
    | nil =>
      have hp : ¬ pos < s.size := by
        have h0 := hur.1
        have h1 := congrArg List.length h0
        rw [List.length_drop] at h1
        simp only [List.flatMap_nil, List.length_nil] at h1
        have h2 : s.data.toList.length = s.size := by simp
        omega
      have hnx : ∀ ty, (Instr.next (.pointer (some ⟨it, 0, none⟩)) true ty).run Tryz.prog wr = _ := fun ty => Lib.run_next_end_at wr it s pos ty hh hp
      have HR : Hid (rs = acc) := Lib.hid (by rw [hrs, List.append_nil])
      have HO := Lib.hid hown
      have HB := Lib.hid hb
      clear hown hh hb hrs hur hk hp
      go_wp2
      go_ret2
      obtain ⟨a', c', rfl, hsl, hnil⟩ := SL.ofOwns runC_len (by omega) HO.out
      rw [← HR.out] at hsl hnil ⊢
      exact ⟨a', c', rfl, hsl, hnil, HB.out⟩
    | cons r rest =>
      obtain ⟨hvr, hd, hu2, hle⟩ := hur.head
      have hp : pos < s.size := by
        have h1 := (encL_len hvr).1
        rw [List.length_drop] at hle
        have h2 : s.data.toList.length = s.size := by simp
        omega
      rw [Lib.decodeL_drop] at hd
      obtain ⟨pos2, hpos2⟩ : ∃ pos2, pos2 = pos + (encL r).length := ⟨_, rfl⟩
      have hnx : ∀ ty, (Instr.next (.pointer (some ⟨it, 0, none⟩)) true ty).run Tryz.prog wr = .ok (.tuple #[.bool true, .int .i64 pos, .int .i32 (r : Nat)]) (wr.iterAt it s pos2) := fun ty => by
        have := Lib.run_next_any_at (P := Tryz.prog) wr it s pos ty hh hp
        rw [hd] at this
        rw [this, hpos2]
      have hu3 : U (s.data.toList.drop pos2) rest := by rw [hpos2, ← List.drop_drop]; exact hu2
      obtain ⟨W2, hW2⟩ : ∃ W2, W2 = wr.iterAt it s pos2 := ⟨_, rfl⟩
      have HO2 : Hid (W2.ownsRow w.heap.size 3 1 u4 acc.length (acc.flatMap runC)) := Lib.hid (by rw [hW2]; exact own_it hown hh pos2)
      have HH2 : Hid (W2.heap[it]? = some (.stringIter s pos2)) := Lib.hid (by rw [hW2]; exact Lib.iterAt_heap wr it s pos pos2 hh)
      have HB2 : Hid (Below w.heap.size w W2) := Lib.hid (by rw [hW2]; exact Lib.below_iterAt hb HIT.out s pos2)
      rw [← hW2] at hnx
      have hacc : acc.length + 1 ≤ rs.length := by rw [hrs, List.length_append, List.length_cons]; omega
      have hm : acc.length + 1 ≤ maxLen := by have := HS.out; have := HL.out; have h2 : s.data.toList.length = s.size := by simp
                                              unfold maxLen; omega
      have hby : (acc.length + 1) * 8 ≤ 140737488355328 := by
        have := HS.out; have := HL.out; have h2 : s.data.toList.length = s.size := by simp
        omega
      have hbs := HB2.out.size
      have HRS := Lib.hid hrs
      have HU3 := Lib.hid hu3
      have HK := Lib.hid hk
      have HVR := Lib.hid hvr
      clear hown hh hb hrs hur hk hvr hd hu2 hle hp hpos2 hu3 hW2 hacc HA
      generalize hal : acc.length = al at hm hby HO2
      have hw64 : IntKind.i64.wrap (r : Int) = r := by have := HVR.out; unfold VR at this; rw [IntKind.wrap_i64]; omega
      go_wp2_with (at_builtin; refine wpList_append_own _ rfl _ _ 36 rfl w.heap.size 3 i0 (.int .i64 0) 1 8 Tryz.underlying36 hi hz0 hz1 hz2 rfl (by decide) _ al (acc.flatMap runC) rfl (HO2.out.alloc _) ⟨W2.heap.size, 0, none⟩ 1 1 [.int .i64 (r : Int)] rfl rfl (cell_one_new' _ _ _) one_one' hm hby (by simp; omega) ?_; intro v' w2 hown2 hgrow2 hiff)
      go_roundg rest.length
      case measure => rw [HK.out, List.length_cons]; omega
      case rel =>
        refine ⟨pos2, acc ++ [r], rest, Lib.hid ⟨?_, ?_, ?_, ?_, HU3.out, rfl⟩⟩
        · rw [List.flatMap_append, List.length_append, hal]; exact hown2
        · rw [hgrow2.block it (by have := lt_of_block HH2.out; simp; omega) (own_ne_it HO2.out HH2.out)]
          exact (Below.heap_alloc _ _ _ (lt_of_block HH2.out)).trans HH2.out
        · exact (HB2.out.alloc hbs _).grown hgrow2 (by simp; omega) (fun j hj => by have := (HO2.out.lt j hj).1; omega)
        · rw [HRS.out]; simp
set_option maxRecDepth 100000 in
set_option maxHeartbeats 1000000 in
theorem Runes_no (s : ByteArray) (hu : Lib.validD s.data.toList = false) (hs : s.size ≤ 1000000) (w : World) (hT : RTab w) :
    Calls Tryz.prog 27 #[.string s] w (RetB (.tuple #[.slice none 0 0, .int .i64 3]) w) := by
  have HC := Lib.hid (Tryz.utf8_ValidString s w (by omega) hT)
  rw [hu] at HC
  clear hu hs hT
  go_enter Tryz.func27, Tryz.ntmps27
  go_wp2_with fail
  refine HC.out.mono ?_
  rintro e w1 ⟨rfl, hb⟩
  have HB := Lib.hid hb
  clear hb
  go_wp2
  go_ret2
  exact ⟨rfl, HB.out⟩
open Go.ChangeShapes Go.WideShapes Go.Deep Go.RowKit

theorem tkC_len (t : Tk) : (tkC t).length = 3 := rfl
theorem tkA (t : Tk) : (tkC t).toArray = #[.int .i64 (t.kind : Int), .string ⟨t.text.toArray⟩, .int .u64 (t.v : Int)] := rfl
theorem info_tok : (Tryz.prog.info? 78).map (fun i => (i.zero, i.size, i.bytes)) = some (some (.agg #[.int .i64 0, .string ByteArray.empty, .int .u64 0]), 3, 32) := by kernel_rfl
def addL (acc : List Tk) (o : Option (List Tk)) : Option (List Tk) := match o with | none => none | some ts => some (acc ++ ts)
/-- What Line hands back. -/
def LineP (rs : List Nat) (w : World) (e : Ending) (w' : World) : Prop :=
  match lineL rs with
  | none => e = .returned (.tuple #[.slice none 0 0, .int .i64 3]) ∧ Below w.heap.size w w'
  | some ts => ∃ a c, e = .returned (.tuple #[.slice a ts.length c, .int .i64 0]) ∧ SL tkC 3 w' w'.heap.size a ts.length ts ∧ ((a = none → ts.length = 0 ∧ c = 0) ∧ ts.length ≤ c) ∧ Below w.heap.size w w'
theorem LineP.none_mk {rs : List Nat} {w : World} {e : Ending} {w' : World} (h : lineL rs = none) (he : e = .returned (.tuple #[.slice none 0 0, .int .i64 3])) (hb : Below w.heap.size w w') : LineP rs w e w' := by unfold LineP; rw [h]; exact ⟨he, hb⟩
theorem LineP.some_mk {rs : List Nat} {w : World} {e : Ending} {w' : World} {ts : List Tk} (h : lineL rs = some ts) {a : Option Addr} {c : Nat} (he : e = .returned (.tuple #[.slice a ts.length c, .int .i64 0])) (hs : SL tkC 3 w' w'.heap.size a ts.length ts)
    (hn : (a = none → ts.length = 0 ∧ c = 0) ∧ ts.length ≤ c) (hb : Below w.heap.size w w') : LineP rs w e w' := by unfold LineP; rw [h]; exact ⟨a, c, he, hs, hn, hb⟩
/-- The rounds of Line. -/
def LinI (p : Nat) (rs : List Nat) (w : World) (lv : Value) (wl : World) (a1 : Nat) (acc : List Tk) : Prop :=
  wl.ownsRow (p + 1) 78 3 lv acc.length (acc.flatMap tkC) ∧ RD wl p rs a1 ∧ Below w.heap.size w wl ∧ a1 ≤ rs.length ∧ acc.length ≤ a1 ∧ lineL rs = addL acc (lineL (rs.drop a1))
theorem KP.to_below {w u u' : World} {p : Nat} (hw : Below w.heap.size w u) (h : KP p u u') (hp : w.heap.size ≤ p) : Below w.heap.size w u' :=
  hw.trans ⟨h.os, h.tape, h.output, h.size, fun k hk => h.block k (by have := hw.size; omega) (by simp; omega)⟩
theorem own_kp {w w' : World} {p B e n : Nat} {v : Value} {xs : List Value} {sz : Nat} (h : w.ownsRow (p + 1) e sz v n xs) (hk : KP p w w') : w'.ownsRow (p + 1) e sz v n xs := by
  refine h.kept hk ?_
  cases hv : v.ownBlock with
  | none => exact .inl rfl
  | some g => right; have := (h.lt g hv).1; simp; omega
theorem own_cap {w : World} {B e sz n c : Nat} {a : Option Addr} {xs : List Value} (h : w.ownsRow B e sz (.slice a n c) n xs) : n ≤ c := by
  rcases h.2 with ⟨hv, h0⟩ | ⟨g, cap, cur, hv, _, _, h3, _⟩
  · omega
  · simp only [Value.slice.injEq] at hv; omega
theorem cell_three_new (w : World) (t : TypeId) (x y z : Value) : ∀ j u, [x, y, z][j]? = some u → (w.alloc (.cells #[x, y, z] t)).cell? ((⟨w.heap.size, 0, none⟩ : Addr).add j) = some u := by
  intro j u hj
  match j, hj with
  | 0, hj => simp at hj; subst hj; simp [Addr.add]
  | 1, hj => simp at hj; subst hj; simp [Addr.add]
  | 2, hj => simp at hj; subst hj; simp [Addr.add]
theorem tk_one (t : Tk) : ∀ u ∈ [Value.int .i64 (t.kind : Int), Value.string ⟨t.text.toArray⟩, Value.int .u64 (t.v : Int)], u.oneCell' = true := by simp [Value.oneCell']
set_option maxRecDepth 100000 in
set_option maxHeartbeats 1000000 in
theorem Line_long (s : ByteArray) (hs : 200 < s.size) (hm : s.size ≤ maxLen) (w : World) : Calls Tryz.prog 17 #[.string s] w (RetB (.tuple #[.slice none 0 0, .int .i64 2]) w) := by
  have h1 : (200 : Int) < (s.size : Int) := by omega
  have hz : (s.size : Int) ≤ 9223372036854775807 := by unfold maxLen at hm; omega
  clear hs hm
  go_enter Tryz.func17, Tryz.ntmps17
  go_wp2
  go_ret2
  exact ⟨rfl, Below.refl _ _⟩
set_option maxRecDepth 100000 in
set_option maxHeartbeats 1000000 in
theorem Line_bad (s : ByteArray) (hu : Lib.validD s.data.toList = false) (hs : s.size ≤ 200) (w : World) (hT : RTab w) : Calls Tryz.prog 17 #[.string s] w (RetB (.tuple #[.slice none 0 0, .int .i64 3]) w) := by
  have h1 : ¬ (200 : Int) < (s.size : Int) := by omega
  have HC := Lib.hid (Runes_no s hu (by omega) w hT)
  clear hs hu hT
  go_enter Tryz.func17, Tryz.ntmps17
  go_wp2_with fail
  refine HC.out.mono ?_
  rintro e w1 ⟨rfl, hb⟩
  have HB := Lib.hid hb
  clear hb
  go_wp2
  go_ret2
  exact ⟨rfl, HB.out⟩
set_option maxRecDepth 100000 in
set_option maxHeartbeats 4000000 in
theorem Line_any (s : ByteArray) (rs : List Nat) (hu : U s.data.toList rs) (hs : s.size ≤ 200) (w : World) (hT : RTab w) : Calls Tryz.prog 17 #[.string s] w (LineP rs w) := by
  obtain ⟨i0, hi, hz0, hz1, hz2⟩ := info_parts info_tok
  have h1 : ¬ (200 : Int) < (s.size : Int) := by omega
  have HC := Lib.hid (Runes_yes s rs hu (by omega) w hT)
  have HL : Hid (rs.length ≤ 300) := Lib.hid (by
    have := hu.len
    have h2 : s.data.toList.length = s.size := by simp
    omega)
  have HVR := Lib.hid hu.2
  clear hs hu hT
  go_enter Tryz.func17, Tryz.ntmps17
  go_wp2_with fail
  refine HC.out.mono ?_
  rintro e w1 ⟨a, c, rfl, hsl, hnil, hb⟩
  obtain ⟨p, hp⟩ : ∃ p, p = w1.heap.size := ⟨_, rfl⟩
  have HI : Hid (LinI p rs w (.slice none 0 0) (w1.alloc (.cells #[.slice a rs.length c, .int .i64 0] 76)) 0 []) := Lib.hid ⟨World.ownsRow_nil _ _ _ _, ⟨a, c, by rw [hp]; exact (MapKept.heap_alloc w1 _).1, by
      rw [hp]; exact hsl.below ((Below.refl _ _).alloc (Nat.le_refl _) _)⟩, hb.alloc hb.size _, by omega, by simp, by cases h : lineL rs with | none => rw [List.drop_zero, h]; rfl | some x => rw [List.drop_zero, h]; rfl⟩
  have HPW : Hid (w.heap.size ≤ p) := Lib.hid (by rw [hp]; exact hb.size)
  clear hsl hnil hb
  go_wp2
  rw [← hp]
  clear hp
  generalize w1.alloc (.cells #[.slice a rs.length c, .int .i64 0] 76) = W0 at HI ⊢
  go_loopg [7] (rs.length) (fun k lv wl => ∃ a1 acc, Hid (LinI p rs w lv wl a1 acc) ∧ Hid (k = rs.length - a1))
  case atStart => exact ⟨0, [], HI, Lib.hid rfl⟩
  case round =>
    clear HI
    obtain ⟨a1, acc, HA, HK⟩ := hrel
    cases hst : stops ((rs.drop a1).dropWhile whiR)
    · -- a token stands there
      go_wp2_with fail
      refine (more_any HA.out.2.1 HA.out.2.2.2.1 HL.out).mono ?_
      rintro e u1 ⟨a2, q1, q2, q3, rfl, hR, hK⟩
      have hlt : a2 < rs.length := by
        apply Classical.byContradiction; intro hn
        rw [← q3, List.drop_eq_nil_of_le (by omega)] at hst
        exact absurd hst (by decide)
      have hst2 : stops (rs.drop a2) = false := by rw [q3]; exact hst
      rw [hst2]
      have HR1 := Lib.hid hR
      have HO1 := Lib.hid (own_kp (B := 0) HA.out.1 hK)
      have HB1 := Lib.hid (KP.to_below HA.out.2.2.1 hK HPW.out)
      have HQ := Lib.hid (And.intro q1 (And.intro q3 hlt))
      have HST := Lib.hid hst
      clear hR hK q1 q2 q3 hlt hst hst2
      cases ht : tokL (rs.drop a2) with
      | none =>
        have HT : Hid (lineL rs = none) := Lib.hid (by
          have e := HQ.out.2.1
          rw [HA.out.2.2.2.2.2, lineL_none HST.out (by rw [← e]; exact ht)]; rfl)
        go_wp2_with fail
        refine (token_any HR1.out HQ.out.2.2 HL.out HVR.out).mono ?_
        intro e u2 hO
        unfold TokP at hO
        rw [ht] at hO
        obtain ⟨k, tx, y, rfl, hK⟩ := hO
        have HB2 := Lib.hid (KP.to_below HB1.out hK HPW.out)
        have HTT := Lib.hid ht
        clear hK ht
        go_wp2
        go_ret2
        exact LineP.none_mk HT.out rfl (by first | exact HB2.out | exact HB2.out.alloc HB2.out.size _)
      | some x =>
        obtain ⟨t, uu⟩ := x
        have HT : Hid (lineL rs = addL (acc ++ [t]) (lineL uu) ∧ uu.length < (rs.drop a2).length) := Lib.hid (by
          have e := HQ.out.2.1
          refine ⟨?_, tok_short ht⟩
          rw [HA.out.2.2.2.2.2, lineL_some HST.out (by rw [← e]; exact ht)]
          cases lineL uu with | none => rfl | some y => simp [addL])
        go_wp2_with fail
        refine (token_any HR1.out HQ.out.2.2 HL.out HVR.out).mono ?_
        intro e u2 hO
        unfold TokP at hO
        rw [ht] at hO
        obtain ⟨a3, r1, r2, rfl, hR, hK⟩ := hO
        rw [tkA]
        have HR2 := Lib.hid hR
        have HO2 := Lib.hid (own_kp (B := 0) HO1.out hK)
        have HB2 := Lib.hid (KP.to_below HB1.out hK HPW.out)
        have HX := Lib.hid (And.intro r1 r2)
        have HTT := Lib.hid ht
        clear hR hK ht r1 r2
        obtain ⟨V, hV⟩ : ∃ V, V = u2.alloc (.cells #[.int .i64 (t.kind : Int), .string ⟨t.text.toArray⟩, .int .u64 (t.v : Int)] 78) := ⟨_, rfl⟩
        have hbV : Below u2.heap.size u2 V := by rw [hV]; exact (Below.refl _ _).alloc (Nat.le_refl _) _
        have HO3 : Hid (V.ownsRow (p + 1) 78 3 u7 acc.length (acc.flatMap tkC)) := Lib.hid (by rw [hV]; exact HO2.out.alloc _)
        have HR3 : Hid (RD V p rs a3) := Lib.hid (HR2.out.below hbV HR2.out.lt)
        have HB3 : Hid (Below w.heap.size w V) := Lib.hid (HB2.out.trans (hbV.mono HB2.out.size))
        have HVE := Lib.hid hV
        have HVS : Hid (V.heap.size = u2.heap.size + 1) := Lib.hid (by rw [hV]; simp)
        have HAL : Hid (acc.length + 1 ≤ 301) := Lib.hid (by have := HA.out.2.2.2.1; have := HA.out.2.2.2.2.1; have := HL.out; omega)
        generalize hal : acc.length = al at HO3 HAL
        have hm : al + 1 ≤ maxLen := by have := HAL.out; unfold maxLen; omega
        have hby : (al + 1) * 32 ≤ 140737488355328 := by have := HAL.out; omega
        have hpV : p + 1 ≤ V.heap.size := by have := HR3.out.lt; omega
        clear hV hbV
        go_wp2_with (at_builtin; rw [← HVE.out]; refine wpList_append_own _ rfl _ _ 46 rfl (p + 1) 78 i0 _ 3 32 Tryz.underlying46 hi hz0 hz1 hz2 rfl (by decide) _ al (acc.flatMap tkC) rfl (HO3.out.alloc _) ⟨u2.heap.size + 1, 0, none⟩ 1 1 (tkC t) rfl rfl (by rw [← HVS.out]; exact cell_three_new _ _ _ _ _) (tk_one t) hm hby (by simp; omega) ?_; intro v' w2 hown2 hgrow2 hiff)
        go_roundg (rs.length - a3)
        case measure =>
          have h0 := HT.out.2
          rw [← HX.out.2, List.length_drop, List.length_drop] at h0
          have := HK.out; have := HQ.out.1; have := HX.out.1; have := HQ.out.2.2; omega
        case rel =>
          have hbw : Below (p + 1) V w2 := ((Below.refl (p + 1) V).alloc hpV _).grown hgrow2 (by simp; omega) (fun j hj => (HO3.out.lt j hj).1)
          refine ⟨a3, acc ++ [t], Lib.hid ⟨?_, HR3.out.below hbw (by omega), HB3.out.trans (hbw.mono (by have := HPW.out; omega)), HX.out.1, ?_, ?_⟩, Lib.hid rfl⟩
          · rw [List.flatMap_append, List.length_append, hal, show ([t] : List Tk).flatMap tkC = tkC t by simp]; exact hown2
          · have h0 := HT.out.2
            rw [← HX.out.2, List.length_drop, List.length_drop] at h0
            rw [List.length_append, List.length_singleton]
            have := HA.out.2.2.2.2.1; have := HQ.out.1; have := HX.out.1; have := HQ.out.2.2; omega
          · rw [HT.out.1, HX.out.2]
    · -- the end
      have HT : Hid (lineL rs = some acc) := Lib.hid (by rw [HA.out.2.2.2.2.2, lineL_end hst]; simp [addL])
      go_wp2_with fail
      refine (more_any HA.out.2.1 HA.out.2.2.2.1 HL.out).mono ?_
      rintro e u1 ⟨a2, q1, q2, q3, rfl, hR, hK⟩
      have hst2 : stops (rs.drop a2) = true := by rw [q3]; exact hst
      rw [hst2]
      have HO1 := Lib.hid (own_kp (B := 0) HA.out.1 hK)
      have HB1 := Lib.hid (KP.to_below HA.out.2.2.1 hK HPW.out)
      clear hR hK q1 q2 q3 hst hst2
      go_wp2
      go_ret2
      obtain ⟨a', c', rfl, hsl, hnil⟩ := SL.ofOwns tkC_len (by omega) HO1.out
      exact LineP.some_mk HT.out rfl hsl ⟨hnil, own_cap HO1.out⟩ HB1.out
theorem ba_ext {a b : ByteArray} (h : a.data.toList = b.data.toList) : a = b := by
  cases a; cases b
  congr 1
  exact Array.ext' h
def wordB (b : UInt8) : Bool := wordR b.toNat
def isWordL (l : List UInt8) : Bool := match l with | [] => false | b :: t => decide (l.length ≤ 31) && letterI (b.toNat : Int) && l.all wordB
theorem wordB_high {b : UInt8} (h : 128 ≤ b.toNat) : wordB b = false := by
  cases hb : wordB b with
  | false => rfl
  | true => have := wordR_lt hb; omega
theorem word_high {r : Int} (h : 128 ≤ r) : letterI r = false ∧ digI r = false := by
  unfold letterI digI
  simp only [Bool.or_eq_false_iff, Bool.and_eq_false_iff, decide_eq_false_iff_not, beq_eq_false_iff_ne, ne_eq]
  omega
theorem get_drop {s : ByteArray} {pos : Nat} (h : pos < s.size) : s.data.toList.drop pos = s[pos] :: s.data.toList.drop (pos + 1) := by
  have h2 : pos < s.data.toList.length := by simpa using h
  rw [drop_cons h2]; rfl
set_option maxRecDepth 100000 in
set_option maxHeartbeats 2000000 in
theorem IsWord_any (s : ByteArray) (hs : s.size ≤ maxLen) (w : World) : Calls Tryz.prog 103 #[.string s] w (RetB (.bool (isWordL s.data.toList)) w) := by
  have hlen : s.data.toList.length = s.size := by simp
  have hs9 : (s.size : Int) ≤ 9223372036854775807 := by unfold maxLen at hs; omega
  by_cases h0 : s.size < 1
  · have h0z : (s.size : Int) < 1 := by omega
    have HE : Hid (isWordL s.data.toList = false) := Lib.hid (by
      have : s.data.toList = [] := List.length_eq_zero_iff.1 (by omega)
      rw [this]; rfl)
    clear hs hlen h0
    go_enter Tryz.func103, Tryz.ntmps103
    go_wp2
    go_ret
    exact retB_bool HE.out.symm (Below.refl _ _)
  obtain ⟨b, t, hbt⟩ : ∃ b t, s.data.toList = b :: t := by
    cases h : s.data.toList with
    | nil => rw [h] at hlen; simp at hlen; omega
    | cons b t => exact ⟨b, t, rfl⟩
  by_cases h31 : 31 < s.size
  · have h31z : (31 : Int) < (s.size : Int) := by omega
    have h0z : ¬ (s.size : Int) < 1 := by omega
    have HE : Hid (isWordL s.data.toList = false) := Lib.hid (by
      rw [hbt] at hlen ⊢
      unfold isWordL
      simp only
      rw [decide_eq_false (by omega)]; rfl)
    clear hs hlen h0 h31 hbt
    go_enter Tryz.func103, Tryz.ntmps103
    go_wp2
    go_ret
    exact retB_bool HE.out.symm (Below.refl _ _)
  have h31z : ¬ (31 : Int) < (s.size : Int) := by omega
  have h0z : ¬ (s.size : Int) < 1 := by omega
  have h0s : 0 < s.size := by omega
  have hb0 : s[0] = b := by
    have := get_drop h0s
    rw [List.drop_zero, hbt] at this
    simp only [List.cons.injEq] at this
    exact this.1.symm
  have hE : isWordL s.data.toList = (letterI (b.toNat : Int) && s.data.toList.all wordB) := by
    rw [hbt] at hlen ⊢
    unfold isWordL
    simp only
    rw [decide_eq_true (by omega), Bool.true_and]
  have HE := Lib.hid hE
  have hne : ¬ s.toList = [] := fun h => by
    have := congrArg List.length h
    rw [ByteArray.toList_eq, hlen] at this
    simp only [List.length_nil] at this; omega
  have hne2 : (0 : Int) < (s.size : Int) := by omega
  obtain ⟨B, hB⟩ : ∃ B, B = b.toNat := ⟨_, rfl⟩
  have hBl : B < 256 := by rw [hB]; exact b.toNat_lt
  have hi64 : IntKind.i64.wrap ((s[0].toNat : Nat) : Int) = (B : Int) := by rw [hb0, ← hB, IntKind.wrap_i64]; omega
  have hi64' : IntKind.i64.wrap (B : Int) = (B : Int) := by rw [IntKind.wrap_i64]; omega
  have hB0 : s[0].toNat = B := by rw [hb0, hB]
  have HL := Lib.hid hlen
  rw [← hB] at HE
  clear hs hlen h0 h31 hbt hb0 hE hB hBl
  cases c : letterI (B : Int)
  · rw [c, Bool.false_and] at HE
    go_enter Tryz.func103, Tryz.ntmps103
    go_wp2_with fail
    refine (isLetter_any _ _).mono ?_
    rintro e w' ⟨rfl, rfl⟩
    go_wp2
    go_ret
    exact retB_bool HE.out.symm (Below.refl _ _)
  · rw [c, Bool.true_and] at HE
    go_enter Tryz.func103, Tryz.ntmps103
    go_wp2_with fail
    refine (isLetter_any _ _).mono ?_
    rintro e w' ⟨rfl, rfl⟩
    go_wp2
    clear hne hne2 hi64 hi64' hB0 h0z h31z
    go_loopg [] (s.size) (fun k wl => ∃ pos : Nat, wl = w.iter s pos ∧ Hid (s.data.toList.all wordB = (s.data.toList.drop pos).all wordB) ∧ Hid (k = s.size - pos))
    case atStart => exact ⟨0, rfl, Lib.hid (by rw [List.drop_zero]), Lib.hid rfl⟩
    case round =>
      obtain ⟨pos, rfl, HA, HK⟩ := hrel
      by_cases hp : pos < s.size
      · obtain ⟨x, hx⟩ : ∃ x, x = s[pos] := ⟨_, rfl⟩
        have hd := get_drop hp
        rw [← hx] at hd
        by_cases ha : x.toNat < 128
        · obtain ⟨r, hr⟩ : ∃ r, r = x.toNat := ⟨_, rfl⟩
          have hnx : ∀ ty, (Instr.next (.pointer (some ⟨w.heap.size, 0, none⟩)) true ty).run Tryz.prog (w.iter s pos) = .ok (.tuple #[.bool true, .int .i64 pos, .int .i32 (r : Int)]) (w.iter s (pos + 1)) := fun ty => by
            have := run_next_ascii (P := Tryz.prog) w s pos ty hp (by rw [← hx]; exact ha)
            rw [this, ← hx, hr]
          have hw : IntKind.i64.wrap (r : Int) = r := by rw [IntKind.wrap_i64]; omega
          have HW : Hid (wordB x = (letterI (r : Int) || digI (r : Int))) := Lib.hid (by unfold wordB wordR; rw [hr])
          have HD := Lib.hid hd
          have HP := Lib.hid hp
          clear hx hd ha hr hp
          cases c1 : letterI (r : Int)
          · cases c2 : digI (r : Int)
            · have HF : Hid (s.data.toList.all wordB = false) := Lib.hid (by rw [HA.out, HD.out, List.all_cons, HW.out, c1, c2]; rfl)
              go_wp2_with fail
              refine (isLetter_any _ _).mono ?_
              rintro e w' ⟨rfl, rfl⟩
              go_wp2_with fail
              refine (isDigit_any _ _).mono ?_
              rintro e w' ⟨rfl, rfl⟩
              go_wp2
              go_ret
              exact retB_bool (by rw [HE.out, HF.out]) ((Below.refl _ _).alloc (Nat.le_refl _) _)
            · have HF : Hid (s.data.toList.all wordB = (s.data.toList.drop (pos + 1)).all wordB) := Lib.hid (by rw [HA.out, HD.out, List.all_cons, HW.out, c1, c2]; rfl)
              go_wp2_with fail
              refine (isLetter_any _ _).mono ?_
              rintro e w' ⟨rfl, rfl⟩
              go_wp2_with fail
              refine (isDigit_any _ _).mono ?_
              rintro e w' ⟨rfl, rfl⟩
              go_wp2
              go_roundg (s.size - (pos + 1))
              case measure => have := HP.out; have := HK.out; omega
              case rel => exact ⟨pos + 1, rfl, HF, Lib.hid rfl⟩
          · have HF : Hid (s.data.toList.all wordB = (s.data.toList.drop (pos + 1)).all wordB) := Lib.hid (by rw [HA.out, HD.out, List.all_cons, HW.out, c1]; rfl)
            go_wp2_with fail
            refine (isLetter_any _ _).mono ?_
            rintro e w' ⟨rfl, rfl⟩
            go_wp2
            go_roundg (s.size - (pos + 1))
            case measure => have := HP.out; have := HK.out; omega
            case rel => exact ⟨pos + 1, rfl, HF, Lib.hid rfl⟩
        · have hhi := decode_high s pos hp (by rw [← hx]; omega)
          obtain ⟨r, hr⟩ : ∃ r, r = (Utf8.decode s pos).1 := ⟨_, rfl⟩
          have hrl : r ≤ 1114111 := by rw [hr]; exact Lib.rune_le s pos
          obtain ⟨q, hq⟩ : ∃ q, q = pos + (Utf8.decode s pos).2 := ⟨_, rfl⟩
          have hnx : ∀ ty, (Instr.next (.pointer (some ⟨w.heap.size, 0, none⟩)) true ty).run Tryz.prog (w.iter s pos) = .ok (.tuple #[.bool true, .int .i64 pos, .int .i32 (r : Nat)]) (w.iter s q) := fun ty => by
            have := run_next_any (P := Tryz.prog) w s pos ty hp
            rw [this, hr, hq]
          rw [← hr] at hhi
          have hw : IntKind.i64.wrap (r : Int) = r := by rw [IntKind.wrap_i64]; omega
          have hwh := word_high (r := (r : Int)) (by omega)
          have c1 := hwh.1
          have c2 := hwh.2
          have HF : Hid (s.data.toList.all wordB = false) := Lib.hid (by rw [HA.out, hd, List.all_cons, wordB_high (by omega)]; rfl)
          clear hx hd ha hr hq hhi hrl hwh
          go_wp2_with fail
          refine (isLetter_any _ _).mono ?_
          rintro e w' ⟨rfl, rfl⟩
          go_wp2_with fail
          refine (isDigit_any _ _).mono ?_
          rintro e w' ⟨rfl, rfl⟩
          go_wp2
          go_ret
          exact retB_bool (by rw [HE.out, HF.out]) ((Below.refl _ _).alloc (Nat.le_refl _) _)
      · have hnx : ∀ ty, (Instr.next (.pointer (some ⟨w.heap.size, 0, none⟩)) true ty).run Tryz.prog (w.iter s pos) = _ := fun ty => run_next_end w s pos ty hp
        have HF : Hid (s.data.toList.all wordB = true) := Lib.hid (by
          rw [HA.out, List.drop_eq_nil_of_le (by have := HL.out; omega)]; rfl)
        clear hp
        go_wp2
        go_ret
        exact retB_bool (by rw [HE.out, HF.out]) ((Below.refl _ _).alloc (Nat.le_refl _) _)
-- the references
theorem ba_list (l : List UInt8) : (⟨l.toArray⟩ : ByteArray).toList = l := by
  rw [ByteArray.toList_eq]
end Go.Proofs.YthejefldnpeciaaGreatDoor
