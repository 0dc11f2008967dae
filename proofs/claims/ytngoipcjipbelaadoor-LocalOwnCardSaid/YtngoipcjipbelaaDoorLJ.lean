/- lex: token, all kinds; Runes. -/
import Derived.Test.YtngoipcjipbelaaDoorLI
import Derived.Test.YtngoipcjipbelaaDoorS2
import Derived.Lib.OthersKept
namespace Go.Proofs.YtngoipcjipbelaaDoor
set_option linter.unusedVariables false
set_option linter.unusedSimpArgs false
open Go.ChangeShapes Go.WideShapes Go.Deep Go.RowKit

theorem token_any {w : World} {p at0 : Nat} {rs : List Nat} (h : RD w p rs at0) (h1 : at0 < rs.length) (h2 : rs.length ≤ 300) (hvr : ∀ r ∈ rs, VR r) :
    Calls Tryd.prog 41 #[.pointer (some ⟨p, 0, none⟩)] w (TokP p rs at0 w) := by
  obtain ⟨r, hr⟩ : ∃ r, rs[at0]? = some r := ⟨_, List.getElem?_eq_getElem h1⟩
  cases c : letterI (r : Int)
  · cases d : digI (r : Int)
    · by_cases e34 : r = 34
      · cases f : textL (rs.drop (at0 + 1)) with
        | none => exact token_text_no h h1 h2 hvr hr c d e34 f
        | some x => exact token_text h h1 h2 hvr hr c d e34 f
      · by_cases e39 : r = 39
        · cases f : charL (rs.drop (at0 + 1)) with
          | none => exact token_character_no h h1 h2 hvr hr c d e39 f
          | some x =>
            obtain ⟨v, u⟩ := x
            refine token_character h h1 h2 hvr hr c d e39 f ?_
            unfold charL at f
            split at f
            · cases f
            · rename_i y t ho
              have := one_vr ho fun r hr => hvr r (List.mem_of_mem_drop hr)
              split at f
              · cases f
                unfold VR at this; omega
              · cases f
        · cases f : signR r
          · exact token_none h h1 h2 hvr hr c d e34 e39 f
          · exact token_sign h h1 h2 hvr hr c d e34 e39 f
    · exact token_number h h1 h2 hvr hr c d
  · exact token_word h h1 h2 hvr hr c
/-- The two tables of the library. -/
def Tab (w : World) : Prop := Lib.Utf8Tabs 0 1 w
theorem Tab.next {w w' : World} (h : Tab w) (hb : Below w.heap.size w w') : Tab w' := by
  obtain ⟨h1, h2⟩ := h
  have l1 := cell_lt (h1 0 (by omega))
  have l2 := cell_lt (h2 0 (by omega)).1
  refine ⟨fun c hc => ?_, fun i hi => ?_⟩
  · rw [hb.cell (p := ⟨0, c, none⟩) l1]; exact h1 c hc
  · rw [hb.cell (p := ⟨1, 2 * i, none⟩) l2, hb.cell (p := ⟨1, 2 * i + 1, none⟩) l2]; exact h2 i hi
theorem runC_len (r : Nat) : (runC r).length = 1 := rfl
theorem own_it {w : World} {B e size n : Nat} {v : Value} {xs : List Value} {k : Nat} {s : ByteArray} {pos : Nat} (h : w.ownsRow B e size v n xs) (hk : w.heap[k]? = some (.stringIter s pos)) (pos' : Nat) : (w.iterAt k s pos').ownsRow B e size v n xs := by
  refine ⟨h.1, ?_⟩
  rcases h.2 with h0 | ⟨g, cap, cur, hv, hb, hg, rest⟩
  · exact .inl h0
  · refine .inr ⟨g, cap, cur, hv, hb, ?_, rest⟩
    rw [Lib.iterAt_other _ _ _ _ _ (fun e => by subst e; rw [hk] at hg; cases hg)]
    exact hg
theorem own_ne_it {w : World} {B e size n : Nat} {v : Value} {xs : List Value} {k : Nat} {s : ByteArray} {pos : Nat} (h : w.ownsRow B e size v n xs) (hk : w.heap[k]? = some (.stringIter s pos)) : some k ≠ v.ownBlock := by
  rcases h.2 with ⟨rfl, _⟩ | ⟨g, cap, cur, rfl, hb, hg, rest⟩
  · simp [Value.ownBlock]
  · intro e
    simp only [Value.ownBlock, Option.some.injEq] at e
    subst e
    rw [hk] at hg
    cases hg
theorem cell_one_new' (w : World) (t : TypeId) (u : Value) : ∀ j x, [u][j]? = some x → (w.alloc (.cells #[u] t)).cell? ((⟨w.heap.size, 0, none⟩ : Addr).add j) = some x := by
  intro j x hj
  match j, hj with
  | 0, hj => simp at hj; subst hj; simp [Addr.add]
theorem one_one' {k : Int} : ∀ u ∈ [Value.int .i64 k], u.oneCell' = true := by simp [Value.oneCell']
theorem info_int : (Tryd.prog.info? 3).map (fun i => (i.zero, i.size, i.bytes)) = some (some (.int .i64 0), 1, 8) := by kernel_rfl
/-- What Runes hands back of a text that is UTF-8. -/
def RunesP (rs : List Nat) (w : World) (e : Ending) (w' : World) : Prop :=
  ∃ a c, e = .returned (.tuple #[.slice a rs.length c, .int .i64 0]) ∧ SL runC 1 w' w'.heap.size a rs.length rs ∧ (a = none → rs.length = 0 ∧ c = 0) ∧ Below w.heap.size w w'
def RunI (s : ByteArray) (rs : List Nat) (it : Nat) (w : World) (k : Nat) (lv : Value) (wl : World) (pos : Nat) (acc rest : List Nat) : Prop :=
  wl.ownsRow w.heap.size 3 1 lv acc.length (acc.flatMap runC) ∧ wl.heap[it]? = some (.stringIter s pos) ∧ Below w.heap.size w wl ∧ rs = acc ++ rest ∧ U (s.data.toList.drop pos) rest ∧ k = rest.length
set_option maxRecDepth 100000 in
set_option maxHeartbeats 2000000 in
theorem Runes_yes (s : ByteArray) (rs : List Nat) (hu : U s.data.toList rs) (hs : s.size ≤ 1000000) (w : World) (hT : Tab w) :
    Calls Tryd.prog 18 #[.string s] w (RunesP rs w) := by
  obtain ⟨i0, hi, hz0, hz1, hz2⟩ := info_parts info_int
  have HC := Lib.hid (Tryd.utf8_ValidString s w (by omega) hT)
  rw [hu.valid] at HC
  have HU := Lib.hid hu
  have HS := Lib.hid hs
  have HL := Lib.hid hu.len
  clear hu hs hT
  go_enter Tryd.func18, Tryd.ntmps18
  go_wp2_with fail
  refine HC.out.mono ?_
  rintro e w1 ⟨rfl, hb⟩
  obtain ⟨it, hit⟩ : ∃ it, it = w1.heap.size := ⟨_, rfl⟩
  have HI : Hid (RunI s rs it w rs.length (.slice none 0 0) (w1.iter s 0) 0 [] rs) := Lib.hid ⟨World.ownsRow_nil _ _ _ _, by rw [hit]; exact World.iter_heap _ _ _, hb.alloc hb.size _, rfl, by simpa using HU.out, rfl⟩
  have HIT : Hid (w.heap.size ≤ it) := Lib.hid (by rw [hit]; exact hb.size)
  clear hb
  go_wp2
  rw [← hit]
  clear hit
  generalize w1.iter s 0 = W0 at HI ⊢
  go_loopg [4] (rs.length) (fun k lv wl => ∃ pos acc rest, Hid (RunI s rs it w k lv wl pos acc rest))
  case atStart => exact ⟨0, [], rs, HI⟩
  case round =>
    clear HI
    obtain ⟨pos, acc, rest, HA⟩ := hrel
    obtain ⟨hown, hh, hb, hrs, hur, hk⟩ := HA.out
    cases rest with
    | nil =>
      have hp : ¬ pos < s.size := by
        have h0 := hur.1
        have h1 := congrArg List.length h0
        rw [List.length_drop] at h1
        simp only [List.flatMap_nil, List.length_nil] at h1
        have h2 : s.data.toList.length = s.size := by simp
        omega
      have hnx : ∀ ty, (Instr.next (.pointer (some ⟨it, 0, none⟩)) true ty).run Tryd.prog wr = _ := fun ty => Lib.run_next_end_at wr it s pos ty hh hp
      have HR : Hid (rs = acc) := Lib.hid (by rw [hrs, List.append_nil])
      have HO := Lib.hid hown
      have HB := Lib.hid hb
      clear hown hh hb hrs hur hk hp
      go_wp2
      go_ret2
      obtain ⟨a', c', rfl, hsl, hnil⟩ := SL.ofOwns runC_len (by omega) HO.out
      rw [← HR.out] at hsl hnil ⊢
      exact ⟨a', c', rfl, hsl, hnil, HB.out⟩
    | cons r rest =>
      obtain ⟨hvr, hd, hu2, hle⟩ := hur.head
      have hp : pos < s.size := by
        have h1 := (encL_len hvr).1
        rw [List.length_drop] at hle
        have h2 : s.data.toList.length = s.size := by simp
        omega
      rw [Lib.decodeL_drop] at hd
      obtain ⟨pos2, hpos2⟩ : ∃ pos2, pos2 = pos + (encL r).length := ⟨_, rfl⟩
      have hnx : ∀ ty, (Instr.next (.pointer (some ⟨it, 0, none⟩)) true ty).run Tryd.prog wr = .ok (.tuple #[.bool true, .int .i64 pos, .int .i32 (r : Nat)]) (wr.iterAt it s pos2) := fun ty => by
        have := Lib.run_next_any_at (P := Tryd.prog) wr it s pos ty hh hp
        rw [hd] at this
        rw [this, hpos2]
      have hu3 : U (s.data.toList.drop pos2) rest := by rw [hpos2, ← List.drop_drop]; exact hu2
      obtain ⟨W2, hW2⟩ : ∃ W2, W2 = wr.iterAt it s pos2 := ⟨_, rfl⟩
      have HO2 : Hid (W2.ownsRow w.heap.size 3 1 u4 acc.length (acc.flatMap runC)) := Lib.hid (by rw [hW2]; exact own_it hown hh pos2)
      have HH2 : Hid (W2.heap[it]? = some (.stringIter s pos2)) := Lib.hid (by rw [hW2]; exact Lib.iterAt_heap wr it s pos pos2 hh)
      have HB2 : Hid (Below w.heap.size w W2) := Lib.hid (by rw [hW2]; exact Lib.below_iterAt hb HIT.out s pos2)
      rw [← hW2] at hnx
      have hacc : acc.length + 1 ≤ rs.length := by rw [hrs, List.length_append, List.length_cons]; omega
      have hm : acc.length + 1 ≤ maxLen := by have := HS.out; have := HL.out; have h2 : s.data.toList.length = s.size := by simp
                                              unfold maxLen; omega
      have hby : (acc.length + 1) * 8 ≤ 140737488355328 := by
        have := HS.out; have := HL.out; have h2 : s.data.toList.length = s.size := by simp
        omega
      have hbs := HB2.out.size
      have HRS := Lib.hid hrs
      have HU3 := Lib.hid hu3
      have HK := Lib.hid hk
      have HVR := Lib.hid hvr
      clear hown hh hb hrs hur hk hvr hd hu2 hle hp hpos2 hu3 hW2 hacc HA
      generalize hal : acc.length = al at hm hby HO2
      have hw64 : IntKind.i64.wrap (r : Int) = r := by have := HVR.out; unfold VR at this; rw [IntKind.wrap_i64]; omega
      go_wp2_with (at_builtin; refine wpList_append_own _ rfl _ _ 34 rfl w.heap.size 3 i0 (.int .i64 0) 1 8 Tryd.underlying34 hi hz0 hz1 hz2 rfl (by decide) _ al (acc.flatMap runC) rfl (HO2.out.alloc _) ⟨W2.heap.size, 0, none⟩ 1 1 [.int .i64 (r : Int)] rfl rfl (cell_one_new' _ _ _) one_one' hm hby (by simp; omega) ?_; intro v' w2 hown2 hgrow2 hiff)
      go_roundg rest.length
      case measure => rw [HK.out, List.length_cons]; omega
      case rel =>
        refine ⟨pos2, acc ++ [r], rest, Lib.hid ⟨?_, ?_, ?_, ?_, HU3.out, rfl⟩⟩
        · rw [List.flatMap_append, List.length_append, hal]; exact hown2
        · rw [hgrow2.block it (by have := lt_of_block HH2.out; simp; omega) (own_ne_it HO2.out HH2.out)]
          exact (Below.heap_alloc _ _ _ (lt_of_block HH2.out)).trans HH2.out
        · exact (HB2.out.alloc hbs _).grown hgrow2 (by simp; omega) (fun j hj => by have := (HO2.out.lt j hj).1; omega)
        · rw [HRS.out]; simp
set_option maxRecDepth 100000 in
set_option maxHeartbeats 1000000 in
theorem Runes_no (s : ByteArray) (hu : Lib.validD s.data.toList = false) (hs : s.size ≤ 1000000) (w : World) (hT : Tab w) :
    Calls Tryd.prog 18 #[.string s] w (RetB (.tuple #[.slice none 0 0, .int .i64 3]) w) := by
  have HC := Lib.hid (Tryd.utf8_ValidString s w (by omega) hT)
  rw [hu] at HC
  clear hu hs hT
  go_enter Tryd.func18, Tryd.ntmps18
  go_wp2_with fail
  refine HC.out.mono ?_
  rintro e w1 ⟨rfl, hb⟩
  have HB := Lib.hid hb
  clear hb
  go_wp2
  go_ret2
  exact ⟨rfl, HB.out⟩
end Go.Proofs.YtngoipcjipbelaaDoor
