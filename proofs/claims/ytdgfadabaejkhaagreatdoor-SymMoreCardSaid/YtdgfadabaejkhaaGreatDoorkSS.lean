/- obj, plain: what a right object is; and maps keyed by names. obj: stands. obj: areSyms. obj: areSecs. obj: Is, Find. -/
import Derived.Test.YtdgfadabaejkhaaGreatDoorkXA
import Derived.Maps.Own
import Derived.Maps.OwnOps
import Derived.Maps.Keyed
import Derived.Carry
import Derived.StringKeys
import Derived.Test.YtdgfadabaejkhaaGreatDoorkXB
import Derived.Deep.QuietTactic
import Derived.BigQuiet
namespace Go.Proofs.YtdgfadabaejkhaaGreatDoor
set_option linter.unusedVariables false
set_option linter.unusedSimpArgs false
open Go.RowKit
open Go.ChangeShapes Go.WideShapes Go.Deep Go.RowKit

structure Sy where
  name : List UInt8
  bind : Int
  sec : Int
  off : Int
def syC (s : Sy) : List Value := [.string ⟨s.name.toArray⟩, .int .i64 s.bind, .int .i64 s.sec, .int .i64 s.off]
theorem sy_len (s : Sy) : (syC s).length = 4 := rfl
structure GoodSy (s : Sy) : Prop where
  name : s.name.length ≤ maxLen
  bind : i64ok s.bind
  sec : i64ok s.sec
  off : i64ok s.off
/-- A section as it lies in a row of sections: its notes lie elsewhere. -/
structure Ms where
  sc : Sc
  ad : Option Addr
  cap : Nat
def msC (m : Ms) : List Value := [.string ⟨m.sc.name.toArray⟩, .int .i64 m.sc.kind, .bool m.sc.keep, .int .i64 m.sc.align, .string ⟨m.sc.data.toArray⟩, .slice m.ad m.sc.rels.length m.cap]
theorem ms_len (m : Ms) : (msC m).length = 6 := rfl
/-- The notes of all sections of a row lie below block B. -/
def Notes (w : World) (B : Nat) (L : List Ms) : Prop := ∀ m ∈ L, SL rlC 4 w B m.ad m.sc.rels.length m.sc.rels
theorem Notes.next {w w' : World} {L : List Ms} (h : Notes w w.heap.size L) (hb : Below w.heap.size w w') : Notes w' w'.heap.size L := fun m hm => (h m hm).next hb
/-- A symbol is bound, and stands where it may. -/
def standsL (s : Sy) (secs : List Sc) : Bool :=
  if s.bind < 1 ∨ 3 < s.bind then false
  else if s.sec = -1 then decide (s.bind ≠ 1) && decide (s.off = 0)
  else decide (0 ≤ s.sec) && decide (s.sec < (secs.length : Int)) && decide (0 ≤ s.off) && (match secs[s.sec.toNat]? with | some t => decide (s.off ≤ (t.data.length : Int)) | none => false)
/-- Symbols, behind those of some names. -/
def symsR (secs : List Sc) : List (List UInt8) → List Sy → Bool
  | _, [] => true
  | seen, s :: t => if standsL s secs = false then false else if s.name = [] ∧ s.bind = 1 then symsR secs seen t else if s.name ∈ seen ∨ isNmL s.name = false then false else symsR secs (seen ++ [s.name]) t
def symsL (l : List Sy) (secs : List Sc) : Bool := decide (l.length ≤ 128) && symsR secs [] l
def secsR (k : Int) : List (List UInt8) → List Sc → Bool
  | _, [] => true
  | seen, s :: t => if s.name ∈ seen ∨ secR s = false then false else if s.rels.any (fun r => decide (k ≤ r.sym)) = true then false else secsR k (seen ++ [s.name]) t
def secsL (l : List Sc) (k : Int) : Bool := decide (l.length ≤ 32) && secsR k [] l
structure Ob where
  secs : List Sc
  syms : List Sy
def isO (o : Ob) : Bool := secsL o.secs (o.syms.length : Nat) && symsL o.syms o.secs
/-- The place of a name among some symbols, from a place on. -/
def findR (nm : List UInt8) : Nat → List Sy → Option Nat
  | _, [] => none
  | k, s :: t => if s.name = nm then some k else findR nm (k + 1) t
def findL (o : Ob) (nm : List UInt8) : Int × Bool := if nm = [] ∨ isO o = false then (0, false) else match findR nm 0 o.syms with | some k => ((k : Nat), true) | none => (0, false)

/- Maps from names to numbers: the names that are in. -/
theorem sKey : Maps.Keyed Tryz.prog 9 := Maps.string_keyed Tryz.underlying9
theorem sKeyOf {s : ByteArray} (h : s.size ≤ maxLen) : keyOf Tryz.prog 9 (.string s) = some (.string s.data.toList) := Go.WideMaps.keyOf_string_mk Tryz.underlying9 h
theorem zeroInt (w : World) : (zeroValue 3).run Tryz.prog w = .ok (.int .i64 0) w := by kernel_rfl
def pairS (p : ByteArray × Int) : Value × Value := (.string p.1, .int .i64 p.2)
def NM (w : World) (b : Nat) (l : List (ByteArray × Int)) : Prop := ∃ es clock, w.heap[b]? = some (.map es clock) ∧ es.toList.map (fun e => (e.key, e.val)) = l.map pairS
theorem nm_key {l : List (ByteArray × Int)} {es : Array MapEntry} (h : es.toList.map (fun e => (e.key, e.val)) = l.map pairS) {e : MapEntry} (he : e ∈ es.toList) : ∃ p ∈ l, e.key = .string p.1 ∧ e.val = .int .i64 p.2 := by
  have : (e.key, e.val) ∈ es.toList.map (fun e => (e.key, e.val)) := List.mem_map.2 ⟨e, he, rfl⟩
  rw [h] at this
  obtain ⟨p, hp, hh⟩ := List.mem_map.1 this
  simp only [pairS, Prod.mk.injEq] at hh
  exact ⟨p, hp, hh.1.symm, hh.2.symm⟩
theorem nm_keys {l : List (ByteArray × Int)} {es : Array MapEntry} (h : es.toList.map (fun e => (e.key, e.val)) = l.map pairS) (hg : ∀ p ∈ l, p.1.size ≤ maxLen) : ∀ e ∈ es.toList, ∃ k, keyOf Tryz.prog 9 e.key = some k := by
  intro e he
  obtain ⟨p, hp, hk, -⟩ := nm_key h he
  rw [hk]
  exact ⟨_, sKeyOf (hg p hp)⟩
theorem nm_no {l : List (ByteArray × Int)} {b : Nat} {w : World} (h : NM w b l) (hg : ∀ p ∈ l, p.1.size ≤ maxLen) {k : ByteArray} (hk : k.size ≤ maxLen) (hn : ∀ p ∈ l, p.1 ≠ k) :
    (Instr.lookup 159 (.map (some b)) (.string k) true).run Tryz.prog w = .ok (.tuple #[.int .i64 0, .bool false]) w := by
  obtain ⟨es, clock, hb, he⟩ := h
  have hkey := sKeyOf hk
  rcases sKey.find w hkey es.toList (nm_keys he hg) with ⟨h1, -⟩ | ⟨j, e, h1, h2, h3⟩
  · simp [Instr.lookup, run_underlying Tryz.underlying159, MapKept.run_getObj_map hb, sKey.check w _ hkey, h1, zeroInt, Result.andThen]
  · obtain ⟨p, hp, hpk, -⟩ := nm_key he (List.mem_of_getElem? h2)
    rw [h3] at hpk
    simp only [Value.string.injEq] at hpk
    exact absurd hpk.symm (hn p hp)
theorem nm_yes {l : List (ByteArray × Int)} {b : Nat} {w : World} (h : NM w b l) (hg : ∀ p ∈ l, p.1.size ≤ maxLen) {k : ByteArray} (hk : ∃ p ∈ l, p.1 = k) :
    ∃ v : Int, (Instr.lookup 159 (.map (some b)) (.string k) true).run Tryz.prog w = .ok (.tuple #[.int .i64 v, .bool true]) w := by
  obtain ⟨es, clock, hb, he⟩ := h
  obtain ⟨p0, hp0, rfl⟩ := hk
  have hkey := sKeyOf (hg _ hp0)
  rcases sKey.find w hkey es.toList (nm_keys he hg) with ⟨h1, h2⟩ | ⟨j, e, h1, h2, h3⟩
  · exfalso
    have : pairS p0 ∈ l.map pairS := List.mem_map.2 ⟨_, hp0, rfl⟩
    rw [← he] at this
    obtain ⟨e, hee, heq⟩ := List.mem_map.1 this
    simp only [pairS, Prod.mk.injEq] at heq
    exact h2 e hee heq.1
  · obtain ⟨p, hp, hpk, hpv⟩ := nm_key he (List.mem_of_getElem? h2)
    exact ⟨p.2, by simp [Instr.lookup, run_underlying Tryz.underlying159, MapKept.run_getObj_map hb, sKey.check w _ hkey, h1, hpv, Result.andThen]⟩
theorem nm_put {l : List (ByteArray × Int)} {b : Nat} {w : World} (h : NM w b l) (hg : ∀ p ∈ l, p.1.size ≤ maxLen) (k : ByteArray) (v : Int) (hk : k.size ≤ maxLen) (hn : ∀ p ∈ l, p.1 ≠ k) :
    ∃ w', (Instr.mapUpdate 159 (.map (some b)) (.string k) (.int .i64 v)).run Tryz.prog w = .ok () w' ∧ NM w' b (l ++ [(k, v)]) ∧ w.grownBy w' (some b) := by
  obtain ⟨es, clock, hb, he⟩ := h
  have hkey := sKeyOf hk
  rcases sKey.find w hkey es.toList (nm_keys he hg) with ⟨h1, -⟩ | ⟨j, e, h1, h2, h3⟩
  · refine ⟨ChangeMaps.setBlock w b (.map (es.push ⟨.string k, .int .i64 v, clock⟩) (clock + 1)), ?_, ⟨es.push ⟨.string k, .int .i64 v, clock⟩, clock + 1, ?_, ?_⟩, ?_⟩
    · simp [Instr.mapUpdate, run_underlying Tryz.underlying159, MapKept.run_getObj_map hb, sKey.check w false hkey, h1, MapKept.run_setObj_map _ hb, Result.andThen, ChangeMaps.setBlock]
    · have := lt_of_block hb
      simp [ChangeMaps.setBlock, this]
    · rw [Array.toList_push, List.map_append, he, List.map_append]; rfl
    · refine ⟨rfl, rfl, rfl, by simp [ChangeMaps.setBlock], fun i hi hne => ?_⟩
      simp only [ChangeMaps.setBlock]
      rw [Array.getElem?_setIfInBounds_ne (fun e => hne (by rw [e]))]
  · obtain ⟨p, hp, hpk, -⟩ := nm_key he (List.mem_of_getElem? h2)
    rw [h3] at hpk
    simp only [Value.string.injEq] at hpk
    exact absurd hpk.symm (hn p hp)
theorem NM.next {w w' : World} {b : Nat} {l : List (ByteArray × Int)} (h : NM w b l) (hb : Below w.heap.size w w') : NM w' b l := by
  obtain ⟨es, clock, h1, h2⟩ := h
  exact ⟨es, clock, (hb.block b (lt_of_block h1)).trans h1, h2⟩
open Go.ChangeShapes Go.WideShapes Go.Deep Go.RowKit

theorem ms_cells {w : World} {b off k : Nat} {m : Ms} (h : ∀ j, j < 6 → w.cell? ⟨b, off + k * 6 + j, none⟩ = (msC m)[j]?) :
    w.cell? ⟨b, off + k * 6, none⟩ = some (.string ⟨m.sc.name.toArray⟩) ∧ w.cell? ⟨b, off + k * 6 + 1, none⟩ = some (.int .i64 m.sc.kind) ∧ w.cell? ⟨b, off + k * 6 + 2, none⟩ = some (.bool m.sc.keep) ∧ w.cell? ⟨b, off + k * 6 + 3, none⟩ = some (.int .i64 m.sc.align) ∧ w.cell? ⟨b, off + k * 6 + 4, none⟩ = some (.string ⟨m.sc.data.toArray⟩) ∧ w.cell? ⟨b, off + k * 6 + 5, none⟩ = some (.slice m.ad m.sc.rels.length m.cap) :=
  ⟨h 0 (by omega), h 1 (by omega), h 2 (by omega), h 3 (by omega), h 4 (by omega), h 5 (by omega)⟩
theorem sy_cells {w : World} {b off k : Nat} {s : Sy} (h : ∀ j, j < 4 → w.cell? ⟨b, off + k * 4 + j, none⟩ = (syC s)[j]?) :
    w.cell? ⟨b, off + k * 4, none⟩ = some (.string ⟨s.name.toArray⟩) ∧ w.cell? ⟨b, off + k * 4 + 1, none⟩ = some (.int .i64 s.bind) ∧ w.cell? ⟨b, off + k * 4 + 2, none⟩ = some (.int .i64 s.sec) ∧ w.cell? ⟨b, off + k * 4 + 3, none⟩ = some (.int .i64 s.off) :=
  ⟨h 0 (by omega), h 1 (by omega), h 2 (by omega), h 3 (by omega)⟩
abbrev syV (s : Sy) : Value := .agg #[.string ⟨s.name.toArray⟩, .int .i64 s.bind, .int .i64 s.sec, .int .i64 s.off]
set_option maxRecDepth 100000 in
set_option maxHeartbeats 1000000 in
theorem stands_any (N : ByteArray) (bi se of : Int) (a : Option Addr) (n c : Nat) (L : List Ms) (hn : n ≤ 1000000) (w : World) (hs : SL msC 6 w w.heap.size a n L) (R : Bool) (hR : R = standsL ⟨N.data.toList, bi, se, of⟩ (L.map (·.sc))) :
    Calls Tryz.prog 114 #[.agg #[.string N, .int .i64 bi, .int .i64 se, .int .i64 of], .slice a n c] w (RetB (.bool R) w) := by
  have hX : RB (w.alloc (.cells #[.string N, .int .i64 bi, .int .i64 se, .int .i64 of] 54)) w.heap.size #[.string N, .int .i64 bi, .int .i64 se, .int .i64 of] 54 := (MapKept.heap_alloc w _).1
  have HB : Hid (Below w.heap.size w (w.alloc (.cells #[.string N, .int .i64 bi, .int .i64 se, .int .i64 of] 54))) := Lib.hid ((Below.refl _ w).alloc (Nat.le_refl _) _)
  have x1 : (w.alloc (.cells #[.string N, .int .i64 bi, .int .i64 se, .int .i64 of] 54)).cell? ⟨w.heap.size, 1, none⟩ = some (.int .i64 bi) := hX.cell
  have x2 : (w.alloc (.cells #[.string N, .int .i64 bi, .int .i64 se, .int .i64 of] 54)).cell? ⟨w.heap.size, 2, none⟩ = some (.int .i64 se) := hX.cell
  have x3 : (w.alloc (.cells #[.string N, .int .i64 bi, .int .i64 se, .int .i64 of] 54)).cell? ⟨w.heap.size, 3, none⟩ = some (.int .i64 of) := hX.cell
  have hL : n = (L.map (·.sc)).length := by rw [List.length_map]; exact hs.len
  clear hX
  unfold standsL at hR
  simp only [] at hR
  rw [← hL] at hR
  by_cases t1 : bi < 1
  · have HR : Hid (R = false) := Lib.hid (by rw [hR, if_pos (.inl t1)])
    clear hR hs hL
    go_enter Tryz.func114, Tryz.ntmps114
    go_wp2
    go_ret
    exact retB_bool HR.out.symm HB.out
  by_cases t2 : 3 < bi
  · have HR : Hid (R = false) := Lib.hid (by rw [hR, if_pos (.inr t2)])
    clear hR hs hL
    go_enter Tryz.func114, Tryz.ntmps114
    go_wp2
    go_ret
    exact retB_bool HR.out.symm HB.out
  rw [if_neg (by omega)] at hR
  by_cases t3 : se = -1
  · rw [if_pos t3] at hR
    subst t3
    by_cases t4 : bi = 1
    · have HR : Hid (R = false) := Lib.hid (by rw [hR, decide_eq_false (by simpa using t4)]; rfl)
      subst t4
      clear hR hs hL
      go_enter Tryz.func114, Tryz.ntmps114
      go_wp2
      go_ret
      exact retB_bool HR.out.symm HB.out
    · have e1 : (bi != 1) = true := by rw [bne_iff_ne]; exact t4
      have e2 : (bi == 1) = false := by simp; exact t4
      by_cases t5 : of = 0
      · have HR : Hid (R = true) := Lib.hid (by rw [hR, decide_eq_true t4, decide_eq_true t5]; rfl)
        subst t5
        clear hR hs hL t4
        go_enter Tryz.func114, Tryz.ntmps114
        go_wp2
        go_ret
        exact retB_bool HR.out.symm HB.out
      · have HR : Hid (R = false) := Lib.hid (by rw [hR, decide_eq_false t5, Bool.and_false])
        have e3 : (of == 0) = false := by simp; exact t5
        clear hR hs hL t4 t5
        go_enter Tryz.func114, Tryz.ntmps114
        go_wp2
        go_ret
        exact retB_bool HR.out.symm HB.out
  rw [if_neg t3] at hR
  have e1 : (se == -1) = false := by simp; exact t3
  have e1' : (se != -1) = true := by rw [bne_iff_ne]; exact t3
  by_cases t4 : se < 0
  · have HR : Hid (R = false) := Lib.hid (by rw [hR, decide_eq_false (p := 0 ≤ se) (by omega)]; simp)
    have d1 : decide (se ≥ 0) = false := decide_eq_false (by omega)
    have d2 : decide (0 ≤ se) = false := decide_eq_false (by omega)
    clear hR hs hL t3
    go_enter Tryz.func114, Tryz.ntmps114
    go_wp2
    go_quiet (fail)
    go_wp2
    go_ret
    exact retB_bool HR.out.symm (below_drewN HB.out _)
  obtain ⟨p, rfl⟩ : ∃ p : Nat, se = p := ⟨se.toNat, by omega⟩
  clear t3 t4
  by_cases t5 : p < n
  · have hpi : (p : Int) < (n : Int) := by omega
    have d3 : decide ((p : Int) < (n : Int)) = true := decide_eq_true hpi
    have d3' : decide (p < n) = true := decide_eq_true t5
    have hpl : p < L.length := by have := hs.len; omega
    by_cases t6 : of < 0
    · have HR : Hid (R = false) := Lib.hid (by rw [hR, decide_eq_false (p := 0 ≤ of) (by omega)]; simp)
      have d1 : decide (of ≥ 0) = false := decide_eq_false (by omega)
      have d2 : decide (0 ≤ of) = false := decide_eq_false (by omega)
      clear hR hs hL
      go_enter Tryz.func114, Tryz.ntmps114
      go_wp2
      go_quiet (fail)
      go_wp2
      go_ret
      exact retB_bool HR.out.symm (below_drewN HB.out _)
    obtain ⟨b, off, rfl, hB, hc⟩ := (hs.next HB.out).cells (hs.ne t5)
    obtain ⟨c0, c1, c2, c3, c4, c5⟩ := ms_cells (fun j hj => hc p hpl j hj)
    clear hc c0 c1 c2 c3 c5
    have hg : (L.map (·.sc))[p]? = some L[p].sc := by rw [List.getElem?_map, List.getElem?_eq_getElem hpl]; rfl
    obtain ⟨D, hD⟩ : ∃ D : ByteArray, D = ⟨L[p].sc.data.toArray⟩ := ⟨_, rfl⟩
    have hDs : D.size = L[p].sc.data.length := by rw [hD]; show L[p].sc.data.toArray.size = _; simp
    rw [← hD] at c4
    have hR2 : R = decide (of ≤ (D.size : Int)) := by
      rw [hR, decide_eq_true (p := 0 ≤ (p : Int)) (by omega), decide_eq_true (p := 0 ≤ of) (by omega), d3, Int.toNat_natCast, hg, hDs]; simp
    have HR := Lib.hid hR2
    have t6i : (0 : Int) ≤ of := by omega
    have d1 : decide (of ≥ 0) = true := decide_eq_true t6i
    have d2 : decide (0 ≤ of) = true := decide_eq_true t6i
    clear hR hR2 hs hL hg hD hDs hB
    go_enter Tryz.func114, Tryz.ntmps114
    go_wp2
    go_quiet (fail)
    go_wp2
    go_ret
    exact retB_bool HR.out.symm (below_drewN HB.out _)
  · have HR : Hid (R = false) := Lib.hid (by rw [hR, decide_eq_false (p := (p : Int) < (n : Int)) (by omega)]; simp)
    have hpi : ¬ (p : Int) < (n : Int) := by omega
    have d3 : decide ((p : Int) < (n : Int)) = false := decide_eq_false hpi
    have d3' : decide (p < n) = false := decide_eq_false t5
    clear hR hs hL
    go_enter Tryz.func114, Tryz.ntmps114
    go_wp2
    go_quiet (fail)
    go_wp2
    go_ret
    exact retB_bool HR.out.symm (below_drewN HB.out _)
open Go.ChangeShapes Go.WideShapes Go.Deep Go.RowKit

theorem ba_ne {N : ByteArray} (h : N.data.toList ≠ []) : (N.toList == []) = false ∧ N.toList.isEmpty = false ∧ ¬ N.toList = [] := by
  have h2 : ¬ N.toList = [] := by rw [ByteArray.toList_eq]; exact h
  refine ⟨by rw [beq_eq_false_iff_ne]; exact h2, ?_, h2⟩
  cases e : N.toList with
  | nil => exact absurd e h2
  | cons => rfl
theorem ba_none {N : ByteArray} (h : N.data.toList = []) : N = ⟨#[]⟩ := ByteArray.ext (Array.toList_inj.1 h)
def keysOf (ps : List (ByteArray × Int)) : List (List UInt8) := ps.map (·.1.data.toList)
theorem keys_mem {ps : List (ByteArray × Int)} {N : ByteArray} : N.data.toList ∈ keysOf ps ↔ ∃ p ∈ ps, p.1 = N := by
  unfold keysOf
  rw [List.mem_map]
  constructor
  · rintro ⟨p, hp, h⟩; exact ⟨p, hp, ByteArray.ext (Array.toList_inj.1 h)⟩
  · rintro ⟨p, hp, h⟩; exact ⟨p, hp, by rw [h]⟩
theorem keys_snoc (ps : List (ByteArray × Int)) (N : ByteArray) (v : Int) : keysOf (ps ++ [(N, v)]) = keysOf ps ++ [N.data.toList] := by unfold keysOf; simp
set_option maxRecDepth 100000 in
set_option maxHeartbeats 4000000 in
theorem areSyms_any (a : Option Addr) (n c : Nat) (l : List Sy) (a2 : Option Addr) (n2 c2 : Nat) (L : List Ms) (hn2 : n2 ≤ 1000000) (hn : n ≤ maxLen) (w : World) (hs : SL syC 4 w w.heap.size a n l) (hs2 : SL msC 6 w w.heap.size a2 n2 L) (hg : ∀ s ∈ l, GoodSy s) (hT : TabO w) :
    Calls Tryz.prog 77 #[.slice a n c, .slice a2 n2 c2] w (RetB (.bool (symsL l (L.map (·.sc)))) w) := by
  have hln := hs.len
  obtain ⟨R, hR⟩ : ∃ R, R = symsL l (L.map (·.sc)) := ⟨_, rfl⟩
  rw [← hR]
  have hni : (n : Int) ≤ 9223372036854775807 := by unfold maxLen at hn; omega
  by_cases h1 : 128 < n
  · have h1i : (128 : Int) < (n : Int) := by omega
    have HR : Hid (R = false) := Lib.hid (by rw [hR]; unfold symsL; rw [decide_eq_false (by omega)]; rfl)
    clear hs hs2 hg hT hR hln
    go_enter Tryz.func77, Tryz.ntmps77
    go_wp2
    go_ret
    exact retB_bool HR.out.symm (Below.refl _ _)
  have h1i : ¬ (128 : Int) < (n : Int) := by omega
  have hR1 : R = symsR (L.map (·.sc)) [] l := by rw [hR]; unfold symsL; rw [decide_eq_true (by omega)]; rfl
  have HR1 := Lib.hid hR1
  have HS := Lib.hid hs
  have HS2 := Lib.hid hs2
  have HG := Lib.hid hg
  have HT := Lib.hid hT
  have HLn := Lib.hid hln
  obtain ⟨M, hM⟩ : ∃ M, M = w.heap.size := ⟨_, rfl⟩
  have HME := Lib.hid hM
  have HN0 : Hid (NM (w.alloc (.map #[] 0)) M []) := Lib.hid ⟨#[], 0, by rw [hM]; exact (MapKept.heap_alloc w _).1, rfl⟩
  have HB0 : Hid (Below w.heap.size w (w.alloc (.map #[] 0))) := Lib.hid ((Below.refl _ _).alloc (Nat.le_refl _) _)
  have hmm := @run_makeMap Tryz.prog
  clear hs hs2 hg hT hR hR1 hln hM h1
  go_enter Tryz.func77, Tryz.ntmps77
  go_wp2
  try rw [← HME.out]
  clear hmm
  go_loopw [16] (fun i wr => ∃ (k : Nat) (wx : World) (ps : List (ByteArray × Int)), wx = wr ∧ k ≤ n ∧ i = .int .i64 k ∧ Below w.heap.size w wx ∧ NM wx M ps ∧ Hid ((∀ p ∈ ps, p.1.size ≤ maxLen) ∧ R = symsR (L.map (·.sc)) (keysOf ps) (l.drop k))) (fun i _ => n - (intOf i).toNat)
  case atStart => exact ⟨0, _, [], rfl, by omega, rfl, HB0.out, HN0.out, Lib.hid ⟨by simp, by rw [HR1.out]; rfl⟩⟩
  case round =>
    obtain ⟨k, wx, ps, rfl, hk, rfl, hb, hm, HP⟩ := hrel
    have HBR := Lib.hid hb
    have HMP := Lib.hid hm
    clear hb hm HB0 HN0
    by_cases hlt : k < n
    · have hlti : (k : Int) < (n : Int) := by omega
      have hk1 : k < l.length := by have := HLn.out; omega
      obtain ⟨b, off, rfl, hB, hc⟩ := (HS.out.next HBR.out).cells (HS.out.ne hlt)
      obtain ⟨c0, c1, c2', c3⟩ := sy_cells (fun j hj => hc k hk1 j hj)
      have hgk := HG.out l[k] (List.getElem_mem hk1)
      have hdr : l.drop k = l[k] :: l.drop (k + 1) := drop_cons hk1
      obtain ⟨sy, hsy⟩ : ∃ sy, sy = l[k] := ⟨_, rfl⟩
      rw [← hsy] at c0 c1 c2' c3 hgk hdr
      clear hsy hc
      obtain ⟨nm, bi, se, of⟩ := sy
      obtain ⟨N, hN⟩ : ∃ N : ByteArray, N = ⟨nm.toArray⟩ := ⟨_, rfl⟩
      have hNl : nm = N.data.toList := by rw [hN]
      have hNs : N.size ≤ maxLen := by have h1 := hgk.name; simp only [] at h1; rw [hNl] at h1; simpa using h1
      simp only [] at c0 c1 c2' c3
      rw [← hN] at c0
      clear hN
      subst hNl
      have hP : R = symsR (L.map (·.sc)) (keysOf ps) (⟨N.data.toList, bi, se, of⟩ :: l.drop (k + 1)) := by rw [← hdr]; exact HP.out.2
      unfold symsR at hP
      simp only [] at hP
      obtain ⟨st, hst⟩ : ∃ st, st = standsL ⟨N.data.toList, bi, se, of⟩ (L.map (·.sc)) := ⟨_, rfl⟩
      rw [← hst] at hP
      have HSt : Hid (∀ u, SL msC 6 u u.heap.size a2 n2 L → Calls Tryz.prog 114 #[.agg #[.string N, .int .i64 bi, .int .i64 se, .int .i64 of], .slice a2 n2 c2] u (RetB (.bool st) u)) := Lib.hid fun u hu => stands_any N bi se of a2 n2 c2 L hn2 u hu st hst
      have HNs := Lib.hid hNs
      have HIs : Hid (∀ u, TabO u → Calls Tryz.prog 115 #[.string N] u (RetB (.bool (isNmL N.data.toList)) u)) := Lib.hid fun u hu => IsName_any N hNs u hu
      obtain ⟨Z, hZ⟩ : ∃ Z, Z = wx.heap.size := ⟨_, rfl⟩
      have HEZ := Lib.hid hZ
      have HA : Hid (Below wx.heap.size wx (wx.alloc (.cells #[.string N, .int .i64 bi, .int .i64 se, .int .i64 of] 54))) := Lib.hid ((Below.refl _ wx).alloc (Nat.le_refl _) _)
      have HRZ : Hid (RB (wx.alloc (.cells #[.string N, .int .i64 bi, .int .i64 se, .int .i64 of] 54)) Z #[.string N, .int .i64 bi, .int .i64 se, .int .i64 of] 54) := Lib.hid (by rw [hZ]; exact (MapKept.heap_alloc wx _).1)
      have HSec : Hid (SL msC 6 (wx.alloc (.cells #[.string N, .int .i64 bi, .int .i64 se, .int .i64 of] 54)) (wx.alloc (.cells #[.string N, .int .i64 bi, .int .i64 se, .int .i64 of] 54)).heap.size a2 n2 L) := Lib.hid ((HS2.out.next HBR.out).next HA.out)
      have HMap : Hid (NM (wx.alloc (.cells #[.string N, .int .i64 bi, .int .i64 se, .int .i64 of] 54)) M ps) := Lib.hid (HMP.out.next HA.out)
      have HPS := Lib.hid HP.out.1
      clear hdr hgk hst hB HP hZ hNs HMP
      cases st
      · have HF : Hid (R = false) := Lib.hid (by rw [hP, if_pos rfl])
        clear hP
        have HBR2 := Lib.hid (after HBR.out HA.out)
        go_wp2_with fail
        try rw [← HEZ.out]
        generalize (wx.alloc (.cells #[.string N, .int .i64 bi, .int .i64 se, .int .i64 of] 54)) = W at HA HRZ HBR2 HSec HMap ⊢
        refine (HSt.out _ HSec.out).mono ?_
        rintro e u ⟨rfl, hb⟩
        have HBR3 := Lib.hid (after HBR2.out hb)
        replace HMap := Lib.hid (HMap.out.next hb)
        replace HRZ := Lib.hid (HRZ.out.next hb)
        clear hb
        have z0 : u.cell? ⟨Z, 0, none⟩ = some (.string N) := HRZ.out.cell
        have z1 : u.cell? ⟨Z, 1, none⟩ = some (.int .i64 bi) := HRZ.out.cell
        clear z0 z1
        go_wp2
        go_ret
        exact retB_bool HF.out.symm HBR3.out
      rw [if_neg (by decide)] at hP
      by_cases hem : N.data.toList = [] ∧ bi = 1
      · rw [if_pos hem] at hP
        obtain ⟨he1, he2⟩ := hem
        have he3 := ba_none he1
        clear he1
        subst he3 he2
        have HF := Lib.hid hP
        clear hP
        have HBR2 := Lib.hid (after HBR.out HA.out)
        go_wp2_with fail
        try rw [← HEZ.out]
        generalize (wx.alloc (.cells #[.string ⟨#[]⟩, .int .i64 1, .int .i64 se, .int .i64 of] 54)) = W at HA HRZ HBR2 HSec HMap ⊢
        refine (HSt.out _ HSec.out).mono ?_
        rintro e u ⟨rfl, hb⟩
        have HBR3 := Lib.hid (after HBR2.out hb)
        replace HMap := Lib.hid (HMap.out.next hb)
        replace HRZ := Lib.hid (HRZ.out.next hb)
        clear hb
        have z0 : u.cell? ⟨Z, 0, none⟩ = some (.string ⟨#[]⟩) := HRZ.out.cell
        have z1 : u.cell? ⟨Z, 1, none⟩ = some (.int .i64 1) := HRZ.out.cell
        go_wp2
        go_roundw
        case rel => exact ⟨k + 1, _, ps, rfl, by omega, by go_num, HBR3.out, HMap.out, Lib.hid ⟨HPS.out, HF.out⟩⟩
        case measure => simp [intOf]; omega
      rw [if_neg hem] at hP
      by_cases hin : N.data.toList ∈ keysOf ps
      · rw [if_pos (.inl hin)] at hP
        have HF := Lib.hid hP
        have HIN := Lib.hid (keys_mem.1 hin)
        clear hP hin
        by_cases hne : N.data.toList = []
        · have he3 := ba_none hne
          have hbi : bi ≠ 1 := fun h => hem ⟨hne, h⟩
          have e1 : (bi == 1) = false := by simp; exact hbi
          have e2 : (bi != 1) = true := by rw [bne_iff_ne]; exact hbi
          clear hne hem hbi
          subst he3
          have HBR2 := Lib.hid (after HBR.out HA.out)
          go_wp2_with fail
          try rw [← HEZ.out]
          generalize (wx.alloc (.cells #[.string ⟨#[]⟩, .int .i64 bi, .int .i64 se, .int .i64 of] 54)) = W at HA HRZ HBR2 HSec HMap ⊢
          refine (HSt.out _ HSec.out).mono ?_
          rintro e u ⟨rfl, hb⟩
          have HBR3 := Lib.hid (after HBR2.out hb)
          replace HMap := Lib.hid (HMap.out.next hb)
          replace HRZ := Lib.hid (HRZ.out.next hb)
          clear hb
          have z0 : u.cell? ⟨Z, 0, none⟩ = some (.string ⟨#[]⟩) := HRZ.out.cell
          have z1 : u.cell? ⟨Z, 1, none⟩ = some (.int .i64 bi) := HRZ.out.cell
          obtain ⟨vv, hlk⟩ := nm_yes HMap.out HPS.out HIN.out
          go_wp2
          go_ret
          exact retB_bool HF.out.symm HBR3.out
        · obtain ⟨e1, e2, e3⟩ := ba_ne hne
          clear hne hem
          have HBR2 := Lib.hid (after HBR.out HA.out)
          go_wp2_with fail
          try rw [← HEZ.out]
          generalize (wx.alloc (.cells #[.string N, .int .i64 bi, .int .i64 se, .int .i64 of] 54)) = W at HA HRZ HBR2 HSec HMap ⊢
          refine (HSt.out _ HSec.out).mono ?_
          rintro e u ⟨rfl, hb⟩
          have HBR3 := Lib.hid (after HBR2.out hb)
          replace HMap := Lib.hid (HMap.out.next hb)
          replace HRZ := Lib.hid (HRZ.out.next hb)
          clear hb
          have z0 : u.cell? ⟨Z, 0, none⟩ = some (.string N) := HRZ.out.cell
          have z1 : u.cell? ⟨Z, 1, none⟩ = some (.int .i64 bi) := HRZ.out.cell
          obtain ⟨vv, hlk⟩ := nm_yes HMap.out HPS.out HIN.out
          go_wp2
          go_ret
          exact retB_bool HF.out.symm HBR3.out
      have HNI : Hid (∀ p ∈ ps, p.1 ≠ N) := Lib.hid (fun p hp h => hin (keys_mem.2 ⟨p, hp, h⟩))
      cases hnm : isNmL N.data.toList
      · rw [if_pos (.inr hnm)] at hP
        have HF := Lib.hid hP
        rw [hnm] at HIs
        clear hP hin hnm
        by_cases hne : N.data.toList = []
        · have he3 := ba_none hne
          have hbi : bi ≠ 1 := fun h => hem ⟨hne, h⟩
          have e1 : (bi == 1) = false := by simp; exact hbi
          have e2 : (bi != 1) = true := by rw [bne_iff_ne]; exact hbi
          clear hne hem hbi
          subst he3
          have HBR2 := Lib.hid (after HBR.out HA.out)
          go_wp2_with fail
          try rw [← HEZ.out]
          generalize (wx.alloc (.cells #[.string ⟨#[]⟩, .int .i64 bi, .int .i64 se, .int .i64 of] 54)) = W at HA HRZ HBR2 HSec HMap ⊢
          refine (HSt.out _ HSec.out).mono ?_
          rintro e u ⟨rfl, hb⟩
          have HBR3 := Lib.hid (after HBR2.out hb)
          replace HMap := Lib.hid (HMap.out.next hb)
          replace HRZ := Lib.hid (HRZ.out.next hb)
          clear hb
          have z0 : u.cell? ⟨Z, 0, none⟩ = some (.string ⟨#[]⟩) := HRZ.out.cell
          have z1 : u.cell? ⟨Z, 1, none⟩ = some (.int .i64 bi) := HRZ.out.cell
          have hlk := nm_no HMap.out HPS.out HNs.out HNI.out
          go_wp2_with fail
          refine (HIs.out _ ((HT.out.next HBR3.out))).mono ?_
          rintro e u2 ⟨rfl, hb⟩
          have HBR4 := Lib.hid (after HBR3.out hb)
          clear hb hlk z0 z1
          go_wp2
          go_ret
          exact retB_bool HF.out.symm HBR4.out
        · obtain ⟨e1, e2, e3⟩ := ba_ne hne
          clear hne hem
          have HBR2 := Lib.hid (after HBR.out HA.out)
          go_wp2_with fail
          try rw [← HEZ.out]
          generalize (wx.alloc (.cells #[.string N, .int .i64 bi, .int .i64 se, .int .i64 of] 54)) = W at HA HRZ HBR2 HSec HMap ⊢
          refine (HSt.out _ HSec.out).mono ?_
          rintro e u ⟨rfl, hb⟩
          have HBR3 := Lib.hid (after HBR2.out hb)
          replace HMap := Lib.hid (HMap.out.next hb)
          replace HRZ := Lib.hid (HRZ.out.next hb)
          clear hb
          have z0 : u.cell? ⟨Z, 0, none⟩ = some (.string N) := HRZ.out.cell
          have z1 : u.cell? ⟨Z, 1, none⟩ = some (.int .i64 bi) := HRZ.out.cell
          have hlk := nm_no HMap.out HPS.out HNs.out HNI.out
          go_wp2_with fail
          refine (HIs.out _ ((HT.out.next HBR3.out))).mono ?_
          rintro e u2 ⟨rfl, hb⟩
          have HBR4 := Lib.hid (after HBR3.out hb)
          clear hb hlk z0 z1
          go_wp2
          go_ret
          exact retB_bool HF.out.symm HBR4.out
      · rw [if_neg (by rw [hnm]; rintro (h | h); exact hin h; cases h)] at hP
        have HF := Lib.hid hP
        rw [hnm] at HIs
        clear hP hin hnm
        by_cases hne : N.data.toList = []
        · have he3 := ba_none hne
          have hbi : bi ≠ 1 := fun h => hem ⟨hne, h⟩
          have e1 : (bi == 1) = false := by simp; exact hbi
          have e2 : (bi != 1) = true := by rw [bne_iff_ne]; exact hbi
          clear hne hem hbi
          subst he3
          have HBR2 := Lib.hid (after HBR.out HA.out)
          go_wp2_with fail
          try rw [← HEZ.out]
          generalize (wx.alloc (.cells #[.string ⟨#[]⟩, .int .i64 bi, .int .i64 se, .int .i64 of] 54)) = W at HA HRZ HBR2 HSec HMap ⊢
          refine (HSt.out _ HSec.out).mono ?_
          rintro e u ⟨rfl, hb⟩
          have HBR3 := Lib.hid (after HBR2.out hb)
          replace HMap := Lib.hid (HMap.out.next hb)
          replace HRZ := Lib.hid (HRZ.out.next hb)
          clear hb
          have z0 : u.cell? ⟨Z, 0, none⟩ = some (.string ⟨#[]⟩) := HRZ.out.cell
          have z1 : u.cell? ⟨Z, 1, none⟩ = some (.int .i64 bi) := HRZ.out.cell
          have hlk := nm_no HMap.out HPS.out HNs.out HNI.out
          go_wp2_with fail
          refine (HIs.out _ ((HT.out.next HBR3.out))).mono ?_
          rintro e u2 ⟨rfl, hb⟩
          have HBR4 := Lib.hid (after HBR3.out hb)
          replace HMap := Lib.hid (HMap.out.next hb)
          replace HRZ := Lib.hid (HRZ.out.next hb)
          clear hb hlk z0 z1
          have z0 : u2.cell? ⟨Z, 0, none⟩ = some (.string ⟨#[]⟩) := HRZ.out.cell
          obtain ⟨u3, hput, hmap, hgr⟩ := nm_put HMap.out HPS.out ⟨#[]⟩ (k : Int) HNs.out HNI.out
          have HMap3 := Lib.hid hmap
          have HBR5 : Hid (Below w.heap.size w u3) := Lib.hid (HBR4.out.grown hgr HBR4.out.size (fun j hj => by cases hj; rw [HME.out]; exact Nat.le_refl _))
          clear hmap hgr
          go_wp2
          go_roundw
          case rel => exact ⟨k + 1, _, _, rfl, by omega, by go_num, HBR5.out, HMap3.out, Lib.hid ⟨by
            intro p hp
            rcases List.mem_append.1 hp with hp | hp
            · exact HPS.out p hp
            · rw [List.mem_singleton] at hp; subst hp; exact HNs.out, by rw [keys_snoc]; exact HF.out⟩⟩
          case measure => simp [intOf]; omega
        · obtain ⟨e1, e2, e3⟩ := ba_ne hne
          clear hne hem
          have HBR2 := Lib.hid (after HBR.out HA.out)
          go_wp2_with fail
          try rw [← HEZ.out]
          generalize (wx.alloc (.cells #[.string N, .int .i64 bi, .int .i64 se, .int .i64 of] 54)) = W at HA HRZ HBR2 HSec HMap ⊢
          refine (HSt.out _ HSec.out).mono ?_
          rintro e u ⟨rfl, hb⟩
          have HBR3 := Lib.hid (after HBR2.out hb)
          replace HMap := Lib.hid (HMap.out.next hb)
          replace HRZ := Lib.hid (HRZ.out.next hb)
          clear hb
          have z0 : u.cell? ⟨Z, 0, none⟩ = some (.string N) := HRZ.out.cell
          have z1 : u.cell? ⟨Z, 1, none⟩ = some (.int .i64 bi) := HRZ.out.cell
          have hlk := nm_no HMap.out HPS.out HNs.out HNI.out
          go_wp2_with fail
          refine (HIs.out _ ((HT.out.next HBR3.out))).mono ?_
          rintro e u2 ⟨rfl, hb⟩
          have HBR4 := Lib.hid (after HBR3.out hb)
          replace HMap := Lib.hid (HMap.out.next hb)
          replace HRZ := Lib.hid (HRZ.out.next hb)
          clear hb hlk z0 z1
          have z0 : u2.cell? ⟨Z, 0, none⟩ = some (.string N) := HRZ.out.cell
          obtain ⟨u3, hput, hmap, hgr⟩ := nm_put HMap.out HPS.out N (k : Int) HNs.out HNI.out
          have HMap3 := Lib.hid hmap
          have HBR5 : Hid (Below w.heap.size w u3) := Lib.hid (HBR4.out.grown hgr HBR4.out.size (fun j hj => by cases hj; rw [HME.out]; exact Nat.le_refl _))
          clear hmap hgr
          go_wp2
          go_roundw
          case rel => exact ⟨k + 1, _, _, rfl, by omega, by go_num, HBR5.out, HMap3.out, Lib.hid ⟨by
            intro p hp
            rcases List.mem_append.1 hp with hp | hp
            · exact HPS.out p hp
            · rw [List.mem_singleton] at hp; subst hp; exact HNs.out, by rw [keys_snoc]; exact HF.out⟩⟩
          case measure => simp [intOf]; omega
    · have hlti : ¬ (k : Int) < (n : Int) := by omega
      have HF : Hid (R = true) := Lib.hid (by
        have := HP.out.2
        rw [List.drop_eq_nil_of_le (by have := HLn.out; omega)] at this
        exact this)
      go_wp2
      go_ret
      exact retB_bool HF.out.symm HBR.out
open Go.ChangeShapes Go.WideShapes Go.Deep Go.RowKit

set_option maxRecDepth 100000 in
set_option maxHeartbeats 4000000 in
theorem areSecs_any (a : Option Addr) (n c : Nat) (L : List Ms) (sy : Int) (hn : n ≤ maxLen) (w : World) (hs : SL msC 6 w w.heap.size a n L) (hno : Notes w w.heap.size L) (hg : ∀ m ∈ L, GoodSc m.sc) (hT : TabP w) :
    Calls Tryz.prog 76 #[.slice a n c, .int .i64 sy] w (RetB (.bool (secsL (L.map (·.sc)) sy)) w) := by
  have hln := hs.len
  obtain ⟨R, hR⟩ : ∃ R, R = secsL (L.map (·.sc)) sy := ⟨_, rfl⟩
  rw [← hR]
  have hni : (n : Int) ≤ 9223372036854775807 := by unfold maxLen at hn; omega
  by_cases h1 : 32 < n
  · have h1i : (32 : Int) < (n : Int) := by omega
    have HR : Hid (R = false) := Lib.hid (by rw [hR]; unfold secsL; rw [decide_eq_false (by rw [List.length_map]; omega)]; rfl)
    clear hs hno hg hT hR hln
    go_enter Tryz.func76, Tryz.ntmps76
    go_wp2
    go_ret
    exact retB_bool HR.out.symm (Below.refl _ _)
  have h1i : ¬ (32 : Int) < (n : Int) := by omega
  have hR1 : R = secsR sy [] (L.map (·.sc)) := by rw [hR]; unfold secsL; rw [decide_eq_true (by rw [List.length_map]; omega)]; rfl
  have HR1 := Lib.hid hR1
  have HS := Lib.hid hs
  have HNo := Lib.hid hno
  have HG := Lib.hid hg
  have HT := Lib.hid hT
  have HLn := Lib.hid hln
  obtain ⟨M, hM⟩ : ∃ M, M = w.heap.size := ⟨_, rfl⟩
  have HME := Lib.hid hM
  have HN0 : Hid (NM (w.alloc (.map #[] 0)) M []) := Lib.hid ⟨#[], 0, by rw [hM]; exact (MapKept.heap_alloc w _).1, rfl⟩
  have HB0 : Hid (Below w.heap.size w (w.alloc (.map #[] 0))) := Lib.hid ((Below.refl _ _).alloc (Nat.le_refl _) _)
  have hmm := @run_makeMap Tryz.prog
  clear hs hno hg hT hR hR1 hln hM h1
  go_enter Tryz.func76, Tryz.ntmps76
  go_wp2
  try rw [← HME.out]
  clear hmm
  go_loopw [18] (fun i wr => ∃ (k : Nat) (wx : World) (ps : List (ByteArray × Int)), wx = wr ∧ k ≤ n ∧ i = .int .i64 k ∧ Below w.heap.size w wx ∧ NM wx M ps ∧ Hid ((∀ p ∈ ps, p.1.size ≤ maxLen) ∧ R = secsR sy (keysOf ps) ((L.drop k).map (·.sc)))) (fun i _ => n - (intOf i).toNat)
  case atStart => exact ⟨0, _, [], rfl, by omega, rfl, HB0.out, HN0.out, Lib.hid ⟨by simp, by rw [HR1.out]; rfl⟩⟩
  case round =>
    obtain ⟨k, wx, ps, rfl, hk, rfl, hb, hm, HP⟩ := hrel
    have HBR := Lib.hid hb
    have HMP := Lib.hid hm
    clear hb hm HB0 HN0
    by_cases hlt : k < n
    · have hlti : (k : Int) < (n : Int) := by omega
      have hk1 : k < L.length := by have := HLn.out; omega
      obtain ⟨b, off, rfl, hB, hc⟩ := (HS.out.next HBR.out).cells (HS.out.ne hlt)
      obtain ⟨c0, c1, c2, c3, c4, c5⟩ := ms_cells (fun j hj => hc k hk1 j hj)
      have hgk := HG.out L[k] (List.getElem_mem hk1)
      have hnk := HNo.out L[k] (List.getElem_mem hk1)
      have hdr : L.drop k = L[k] :: L.drop (k + 1) := drop_cons hk1
      obtain ⟨ms, hms⟩ : ∃ ms, ms = L[k] := ⟨_, rfl⟩
      rw [← hms] at c0 c1 c2 c3 c4 c5 hgk hdr hnk
      clear hms hc
      obtain ⟨⟨nm, ki, kp, al, dt, rl⟩, ad, cp⟩ := ms
      simp only [] at c0 c1 c2 c3 c4 c5 hnk
      obtain ⟨N, hN⟩ : ∃ N : ByteArray, N = ⟨nm.toArray⟩ := ⟨_, rfl⟩
      obtain ⟨B, hBB⟩ : ∃ B : ByteArray, B = ⟨dt.toArray⟩ := ⟨_, rfl⟩
      have hNl : nm = N.data.toList := by rw [hN]
      have hBl : dt = B.data.toList := by rw [hBB]
      rw [← hN] at c0
      rw [← hBB] at c4
      clear hN hBB
      subst hNl hBl
      have hNs : N.size ≤ maxLen := by have h1 := hgk.name; simp only [] at h1; simpa using h1
      have hBs : B.size ≤ maxLen := by have h1 := hgk.data; simp only [] at h1; simpa using h1
      have hgr := hgk.rels
      simp only [] at hgr
      obtain ⟨nr, hnr⟩ : ∃ nr, nr = rl.length := ⟨_, rfl⟩
      rw [← hnr] at c5 hnk
      have HNr := Lib.hid hnr
      have hP : R = secsR sy (keysOf ps) (⟨N.data.toList, ki, kp, al, B.data.toList, rl⟩ :: (L.drop (k + 1)).map (·.sc)) := by
        have := HP.out.2
        rw [hdr, List.map_cons] at this
        exact this
      unfold secsR at hP
      simp only [] at hP
      have HNs := Lib.hid hNs
      have HIs : Hid (∀ u, TabP u → SL rlC 4 u u.heap.size ad nr rl → Calls Tryz.prog 91 #[.agg #[.string N, .int .i64 ki, .bool kp, .int .i64 al, .string B, .slice ad nr cp]] u (RetB (.bool (secR ⟨N.data.toList, ki, kp, al, B.data.toList, rl⟩)) u)) := Lib.hid fun u hu h => pIs_core N B ki kp al ad nr cp rl hNs hBs u h hgr hu
      have h64 : secR ⟨N.data.toList, ki, kp, al, B.data.toList, rl⟩ = true → nr ≤ 64 := fun h => by
        have := (head_iff.1 (sec_iff.1 h).1).2.2.2.2.2.2
        simp only [] at this; omega
      generalize secR ⟨N.data.toList, ki, kp, al, B.data.toList, rl⟩ = st at HIs hP h64
      obtain ⟨Z, hZ⟩ : ∃ Z, Z = wx.heap.size := ⟨_, rfl⟩
      have HEZ := Lib.hid hZ
      have HA : Hid (Below wx.heap.size wx (wx.alloc (.cells #[.string N, .int .i64 ki, .bool kp, .int .i64 al, .string B, .slice ad nr cp] 74))) := Lib.hid ((Below.refl _ wx).alloc (Nat.le_refl _) _)
      have HRZ : Hid (RB (wx.alloc (.cells #[.string N, .int .i64 ki, .bool kp, .int .i64 al, .string B, .slice ad nr cp] 74)) Z #[.string N, .int .i64 ki, .bool kp, .int .i64 al, .string B, .slice ad nr cp] 74) := Lib.hid (by rw [hZ]; exact (MapKept.heap_alloc wx _).1)
      have HMap : Hid (NM (wx.alloc (.cells #[.string N, .int .i64 ki, .bool kp, .int .i64 al, .string B, .slice ad nr cp] 74)) M ps) := Lib.hid (HMP.out.next HA.out)
      have HBR2 := Lib.hid (after HBR.out HA.out)
      have H64 := Lib.hid h64
      clear h64
      have HRl : Hid (SL rlC 4 w w.heap.size ad nr rl) := Lib.hid hnk
      have HPS := Lib.hid HP.out.1
      have HZM : Hid (M < Z) := Lib.hid (by obtain ⟨es, cl, h, -⟩ := HMP.out; rw [hZ]; exact lt_of_block h)
      clear hdr hgk hB HP hNs hBs HMP hnk hgr hnr
      by_cases hin : N.data.toList ∈ keysOf ps
      · rw [if_pos (.inl hin)] at hP
        have HF := Lib.hid hP
        have HIN := Lib.hid (keys_mem.1 hin)
        obtain ⟨vv, hlk⟩ := nm_yes HMap.out HPS.out HIN.out
        rw [hZ] at HRZ
        have z0 : (wx.alloc (.cells #[.string N, .int .i64 ki, .bool kp, .int .i64 al, .string B, .slice ad nr cp] 74)).cell? ⟨wx.heap.size, 0, none⟩ = some (.string N) := HRZ.out.cell
        clear hP hin hZ
        go_wp2
        go_ret
        exact retB_bool HF.out.symm HBR2.out
      have hlk := nm_no HMap.out HPS.out HNs.out (fun p hp h => hin (keys_mem.2 ⟨p, hp, h⟩))
      have HNI : Hid (∀ p ∈ ps, p.1 ≠ N) := Lib.hid (fun p hp h => hin (keys_mem.2 ⟨p, hp, h⟩))
      cases st
      · have HF : Hid (R = false) := Lib.hid (by rw [hP, if_pos (.inr rfl)])
        clear hP hin hZ
        go_wp2_with fail
        clear hlk
        try rw [← HEZ.out]
        refine (HIs.out _ (HT.out.next HBR2.out) (HRl.out.next HBR2.out)).mono ?_
        rintro e u ⟨rfl, hb⟩
        have HBR3 := Lib.hid (after HBR2.out hb)
        clear hb c0 c1 c2 c3 c4 c5
        go_wp2
        go_ret
        exact retB_bool HF.out.symm HBR3.out
      rw [if_neg (by rintro (h | h); exact hin h; cases h)] at hP
      clear hin hZ
      go_wp2_with fail
      clear hlk
      try rw [← HEZ.out]
      generalize (wx.alloc (.cells #[.string N, .int .i64 ki, .bool kp, .int .i64 al, .string B, .slice ad nr cp] 74)) = W at HA HRZ HBR2 HMap ⊢
      refine (HIs.out _ (HT.out.next HBR2.out) (HRl.out.next HBR2.out)).mono ?_
      rintro e u ⟨rfl, hb⟩
      have HBR3 := Lib.hid (after HBR2.out hb)
      replace HMap := Lib.hid (HMap.out.next hb)
      replace HRZ := Lib.hid (HRZ.out.next hb)
      clear hb c0 c1 c2 c3 c4 c5 HBR2 HA
      have z0 : u.cell? ⟨Z, 0, none⟩ = some (.string N) := HRZ.out.cell
      obtain ⟨u3, hput, hmap, hgr⟩ := nm_put HMap.out HPS.out N (k : Int) HNs.out HNI.out
      have HMap3 := Lib.hid hmap
      have HBR5 : Hid (Below w.heap.size w u3) := Lib.hid (HBR3.out.grown hgr HBR3.out.size (fun j hj => by cases hj; rw [HME.out]; exact Nat.le_refl _))
      have HRZ3 : Hid (RB u3 Z #[.string N, .int .i64 ki, .bool kp, .int .i64 al, .string B, .slice ad nr cp] 74) := Lib.hid ((hgr.block Z (lt_of_block HRZ.out) (fun e => by
        have h1 : M = Z := by cases e; rfl
        have h2 := HZM.out
        omega)).trans HRZ.out)
      have hr64 : nr ≤ 64 := H64.out (by first | trivial | rfl)
      have hnri : (nr : Int) ≤ 64 := by omega
      have z5 : u3.cell? ⟨Z, 5, none⟩ = some (.slice ad nr cp) := HRZ3.out.cell
      have HP3 := Lib.hid hP
      clear hmap hgr hP
      go_wp2
      clear hput z0 z5
      go_loopw [43] (fun i wr => ∃ (j : Nat) (wy : World), wy = wr ∧ j ≤ nr ∧ i = .int .i64 j ∧ Below u3.heap.size u3 wy ∧ Hid (∀ q (h : q < rl.length), q < j → ¬ sy ≤ rl[q].sym)) (fun i _ => nr - (intOf i).toNat)
      case atStart => exact ⟨0, _, rfl, by omega, rfl, Below.refl _ _, Lib.hid (fun q h hq => by omega)⟩
      case round =>
        obtain ⟨j, wy, rfl, hj, rfl, hby, HQ⟩ := hrel
        have HBY := Lib.hid hby
        have HBW := Lib.hid (after HBR5.out hby)
        clear hby
        by_cases hlt2 : j < nr
        · have hlti2 : (j : Int) < (nr : Int) := by omega
          have hj1 : j < rl.length := by have := HNr.out; omega
          obtain ⟨b2, off2, rfl, hB2, hc2⟩ := (HRl.out.next HBW.out).cells (HRl.out.ne hlt2)
          obtain ⟨d0, d1, d2, d3⟩ := rl_cells (fun q hq => hc2 j hj1 q hq)
          obtain ⟨x, hx⟩ : ∃ x, x = rl[j] := ⟨_, rfl⟩
          rw [← hx] at d0 d1 d2 d3
          have HX := Lib.hid hx
          clear hx hc2
          obtain ⟨r0, r1, r2, r3⟩ := x
          simp only [] at d0 d1 d2 d3
          by_cases hge : sy ≤ r2
          · have HF : Hid (R = false) := Lib.hid (by
              rw [HP3.out, if_pos]
              rw [List.any_eq_true]
              exact ⟨rl[j], List.getElem_mem hj1, by rw [← HX.out]; exact decide_eq_true hge⟩)
            have hBA : Hid (Below w.heap.size w (wy.alloc (.cells #[.int .i64 r0, .int .i64 r1, .int .i64 r2, .int .i64 r3] 103))) := Lib.hid (HBW.out.alloc HBW.out.size _)
            go_wp2
            go_ret
            exact retB_bool HF.out.symm hBA.out
          · have HQ2 : Hid (∀ q (h : q < rl.length), q < j + 1 → ¬ sy ≤ rl[q].sym) := Lib.hid (fun q h hq => by
              by_cases e : q = j
              · subst e; rw [← HX.out]; exact hge
              · exact HQ.out q h (by omega))
            have hBA : Hid (Below u3.heap.size u3 (wy.alloc (.cells #[.int .i64 r0, .int .i64 r1, .int .i64 r2, .int .i64 r3] 103))) := Lib.hid (HBY.out.alloc HBY.out.size _)
            go_wp2
            go_roundw
            case rel => exact ⟨j + 1, _, rfl, by omega, by go_num, hBA.out, HQ2⟩
            case measure => simp [intOf]; omega
        · have hlti2 : ¬ (j : Int) < (nr : Int) := by omega
          have HF : Hid (R = secsR sy (keysOf ps ++ [N.data.toList]) ((L.drop (k + 1)).map (·.sc))) := Lib.hid (by
            rw [HP3.out, if_neg]
            intro h
            obtain ⟨y, hy, h2⟩ := List.any_eq_true.1 h
            obtain ⟨q, hq, rfl⟩ := List.getElem_of_mem hy
            exact HQ.out q hq (by have := HNr.out; omega) (of_decide_eq_true h2))
          have HM4 : Hid (NM wy M (ps ++ [(N, (k : Int))])) := Lib.hid (HMap3.out.next HBY.out)
          go_wp2
          go_roundw
          case rel => exact ⟨k + 1, _, _, rfl, by omega, by go_num, HBW.out, HM4.out, Lib.hid ⟨by
            intro p hp
            rcases List.mem_append.1 hp with hp | hp
            · exact HPS.out p hp
            · rw [List.mem_singleton] at hp; subst hp; exact HNs.out, by rw [keys_snoc]; exact HF.out⟩⟩
          case measure => simp [intOf]; omega
    · have hlti : ¬ (k : Int) < (n : Int) := by omega
      have HF : Hid (R = true) := Lib.hid (by
        have := HP.out.2
        rw [List.drop_eq_nil_of_le (by have := HLn.out; omega)] at this
        exact this)
      go_wp2
      go_ret
      exact retB_bool HF.out.symm HBR.out
open Go.ChangeShapes Go.WideShapes Go.Deep Go.RowKit

set_option maxRecDepth 100000 in
set_option maxHeartbeats 1000000 in
theorem oIs_any (a : Option Addr) (n c : Nat) (L : List Ms) (a2 : Option Addr) (n2 c2 : Nat) (l : List Sy) (hn : n ≤ maxLen) (hn2 : n2 ≤ maxLen) (w : World) (hs : SL msC 6 w w.heap.size a n L) (hno : Notes w w.heap.size L) (hg : ∀ m ∈ L, GoodSc m.sc) (hs2 : SL syC 4 w w.heap.size a2 n2 l) (hg2 : ∀ s ∈ l, GoodSy s) (hT : TabP w) :
    Calls Tryz.prog 24 #[.agg #[.slice a n c, .slice a2 n2 c2]] w (RetB (.bool (isO ⟨L.map (·.sc), l⟩)) w) := by
  have hl2 := hs2.len
  have HSec : Hid (∀ u, Below w.heap.size w u → Calls Tryz.prog 76 #[.slice a n c, .int .i64 (n2 : Int)] u (RetB (.bool (secsL (L.map (·.sc)) (n2 : Int))) u)) := Lib.hid fun u hu => areSecs_any a n c L n2 hn u (hs.next hu) (hno.next hu) hg (hT.next hu)
  obtain ⟨R, hR⟩ : ∃ R, R = isO ⟨L.map (·.sc), l⟩ := ⟨_, rfl⟩
  rw [← hR]
  unfold isO at hR
  simp only [] at hR
  rw [← hl2] at hR
  have HX : Hid (RB (w.alloc (.cells #[.slice a n c, .slice a2 n2 c2] 25)) w.heap.size #[.slice a n c, .slice a2 n2 c2] 25) := Lib.hid (MapKept.heap_alloc w _).1
  have HA : Hid (Below w.heap.size w (w.alloc (.cells #[.slice a n c, .slice a2 n2 c2] 25))) := Lib.hid ((Below.refl _ w).alloc (Nat.le_refl _) _)
  cases hq : secsL (L.map (·.sc)) (n2 : Int)
  · rw [hq] at hR HSec
    have HR := Lib.hid hR
    clear hs hno hg hs2 hg2 hT hR hq hl2
    go_enter Tryz.func24, Tryz.ntmps24
    have x0 : (w.alloc (.cells #[.slice a n c, .slice a2 n2 c2] 25)).cell? ⟨w.heap.size, 0, none⟩ = some (.slice a n c) := HX.out.cell
    have x1 : (w.alloc (.cells #[.slice a n c, .slice a2 n2 c2] 25)).cell? ⟨w.heap.size, 1, none⟩ = some (.slice a2 n2 c2) := HX.out.cell
    go_wp2_with fail
    refine (HSec.out _ HA.out).mono ?_
    rintro e u ⟨rfl, hb⟩
    have HB := Lib.hid (after HA.out hb)
    clear hb x0 x1
    go_wp2
    go_ret
    exact retB_bool (by rw [HR.out]; rfl) HB.out
  · have h32 : n ≤ 1000000 := by
      unfold secsL at hq
      rw [Bool.and_eq_true, decide_eq_true_eq, List.length_map] at hq
      have := hs.len
      omega
    have HSym : Hid (∀ u, Below w.heap.size w u → Calls Tryz.prog 77 #[.slice a2 n2 c2, .slice a n c] u (RetB (.bool (symsL l (L.map (·.sc)))) u)) := Lib.hid fun u hu => areSyms_any a2 n2 c2 l a n c L h32 hn2 u (hs2.next hu) (hs.next hu) hg2 (hT.next hu).2
    rw [hq] at hR HSec
    have HR := Lib.hid hR
    generalize symsL l (L.map (·.sc)) = st at HSym HR
    obtain ⟨X, hX⟩ : ∃ X, X = w.heap.size := ⟨_, rfl⟩
    have HXE := Lib.hid hX
    rw [← hX] at HX
    clear hs hno hg hs2 hg2 hT hR hq hl2 h32 hX
    go_enter Tryz.func24, Tryz.ntmps24
    have x0 : (w.alloc (.cells #[.slice a n c, .slice a2 n2 c2] 25)).cell? ⟨X, 0, none⟩ = some (.slice a n c) := HX.out.cell
    have x1 : (w.alloc (.cells #[.slice a n c, .slice a2 n2 c2] 25)).cell? ⟨X, 1, none⟩ = some (.slice a2 n2 c2) := HX.out.cell
    rw [HXE.out] at x0 x1
    go_wp2_with fail
    clear x0 x1
    try rw [← HXE.out]
    generalize (w.alloc (.cells #[.slice a n c, .slice a2 n2 c2] 25)) = W at HX HA ⊢
    refine (HSec.out _ HA.out).mono ?_
    rintro e u ⟨rfl, hb⟩
    have HB := Lib.hid (after HA.out hb)
    replace HX := Lib.hid (HX.out.next hb)
    clear hb
    have x0 : u.cell? ⟨X, 0, none⟩ = some (.slice a n c) := HX.out.cell
    have x1 : u.cell? ⟨X, 1, none⟩ = some (.slice a2 n2 c2) := HX.out.cell
    go_wp2_with fail
    refine (HSym.out _ HB.out).mono ?_
    rintro e u2 ⟨rfl, hb⟩
    have HB2 := Lib.hid (after HB.out hb)
    clear hb x0 x1
    go_wp2
    go_ret
    exact retB_bool (by rw [HR.out]; rfl) HB2.out
theorem findR_at {nm : List UInt8} {l : List Sy} {k : Nat} (h : k < l.length) : findR nm k (l.drop k) = if l[k].name = nm then some k else findR nm (k + 1) (l.drop (k + 1)) := by
  rw [drop_cons h]; rfl
set_option maxRecDepth 100000 in
set_option maxHeartbeats 2000000 in
theorem oFind_any (a : Option Addr) (n c : Nat) (L : List Ms) (a2 : Option Addr) (n2 c2 : Nat) (l : List Sy) (hn : n ≤ maxLen) (hn2 : n2 ≤ maxLen) (w : World) (hs : SL msC 6 w w.heap.size a n L) (hno : Notes w w.heap.size L) (hg : ∀ m ∈ L, GoodSc m.sc) (hs2 : SL syC 4 w w.heap.size a2 n2 l) (hg2 : ∀ s ∈ l, GoodSy s) (hT : TabP w) (D : ByteArray) :
    Calls Tryz.prog 21 #[.agg #[.slice a n c, .slice a2 n2 c2], .string D] w (RetB (.tuple #[.int .i64 (findL ⟨L.map (·.sc), l⟩ D.data.toList).1, .bool (findL ⟨L.map (·.sc), l⟩ D.data.toList).2]) w) := by
  have hl2 := hs2.len
  have HIs : Hid (∀ u, Below w.heap.size w u → Calls Tryz.prog 24 #[.agg #[.slice a n c, .slice a2 n2 c2]] u (RetB (.bool (isO ⟨L.map (·.sc), l⟩)) u)) := Lib.hid fun u hu => oIs_any a n c L a2 n2 c2 l hn hn2 u (hs.next hu) (hno.next hu) hg (hs2.next hu) hg2 (hT.next hu)
  have hn2i : (n2 : Int) ≤ 9223372036854775807 := by unfold maxLen at hn2; omega
  obtain ⟨f0, f1, hR⟩ : ∃ f0 f1, (f0, f1) = findL ⟨L.map (·.sc), l⟩ D.data.toList := ⟨_, _, rfl⟩
  rw [← hR]
  simp only []
  unfold findL at hR
  simp only [] at hR
  have HX : Hid (RB (w.alloc (.cells #[.slice a n c, .slice a2 n2 c2] 25)) w.heap.size #[.slice a n c, .slice a2 n2 c2] 25) := Lib.hid (MapKept.heap_alloc w _).1
  have HA : Hid (Below w.heap.size w (w.alloc (.cells #[.slice a n c, .slice a2 n2 c2] 25))) := Lib.hid ((Below.refl _ w).alloc (Nat.le_refl _) _)
  by_cases hem : D.data.toList = []
  · rw [if_pos (.inl hem)] at hR
    obtain ⟨h1, h2⟩ := Prod.mk.inj hR
    obtain rfl := ba_none hem
    have HR := Lib.hid hR
    clear hs hno hg hs2 hg2 hT hR hem hl2
    subst h1 h2
    go_enter Tryz.func21, Tryz.ntmps21
    go_wp2
    go_ret2
    exact ⟨rfl, HA.out⟩
  obtain ⟨e1, e2, e3⟩ := ba_ne hem
  cases hq : isO ⟨L.map (·.sc), l⟩
  · rw [hq] at HIs
    rw [if_pos (.inr hq)] at hR
    obtain ⟨h1, h2⟩ := Prod.mk.inj hR
    clear hs hno hg hs2 hg2 hT hR hem hq hl2
    subst h1 h2
    go_enter Tryz.func21, Tryz.ntmps21
    go_wp2_with fail
    refine (HIs.out _ HA.out).mono ?_
    rintro e u ⟨rfl, hb⟩
    have HB := Lib.hid (after HA.out hb)
    clear hb
    go_wp2
    go_ret2
    exact ⟨rfl, HB.out⟩
  rw [hq] at HIs
  rw [if_neg (by rintro (h | h); exact hem h; rw [hq] at h; cases h)] at hR
  have HR0 := Lib.hid hR
  have HS2 := Lib.hid hs2
  have HLn := Lib.hid hl2
  obtain ⟨X, hX⟩ : ∃ X, X = w.heap.size := ⟨_, rfl⟩
  have HXE := Lib.hid hX
  rw [← hX] at HX
  clear hs hno hg hs2 hg2 hT hR hem hq hl2 hX
  go_enter Tryz.func21, Tryz.ntmps21
  go_wp2_with fail
  try rw [← HXE.out]
  generalize (w.alloc (.cells #[.slice a n c, .slice a2 n2 c2] 25)) = W at HX HA ⊢
  refine (HIs.out _ HA.out).mono ?_
  rintro e u ⟨rfl, hb⟩
  have HB := Lib.hid (after HA.out hb)
  replace HX := Lib.hid (HX.out.next hb)
  clear hb e1 e2 e3
  have x1 : u.cell? ⟨X, 1, none⟩ = some (.slice a2 n2 c2) := HX.out.cell
  go_wp2
  clear x1
  go_loopw [18] (fun i wr => ∃ (k : Nat) (wx : World), wx = wr ∧ k ≤ n2 ∧ i = .int .i64 k ∧ Below w.heap.size w wx ∧ Hid ((f0, f1) = match findR D.data.toList k (l.drop k) with | some k => (((k : Nat) : Int), true) | none => (0, false))) (fun i _ => n2 - (intOf i).toNat)
  case atStart => exact ⟨0, _, rfl, by omega, rfl, HB.out, Lib.hid (by rw [HR0.out]; rfl)⟩
  case round =>
    obtain ⟨k, wx, rfl, hk, rfl, hb, HP⟩ := hrel
    have HBR := Lib.hid hb
    clear hb HB HX
    by_cases hlt : k < n2
    · have hlti : (k : Int) < (n2 : Int) := by omega
      have hk1 : k < l.length := by have := HLn.out; omega
      obtain ⟨b, off, rfl, hB, hc⟩ := (HS2.out.next HBR.out).cells (HS2.out.ne hlt)
      obtain ⟨c0, c1, c2', c3⟩ := sy_cells (fun j hj => hc k hk1 j hj)
      have hP := HP.out
      rw [findR_at hk1] at hP
      obtain ⟨sy, hsy⟩ : ∃ sy, sy = l[k] := ⟨_, rfl⟩
      rw [← hsy] at c0 c1 c2' c3 hP
      clear hsy hc
      obtain ⟨nm, bi, se, of⟩ := sy
      obtain ⟨N, hN⟩ : ∃ N : ByteArray, N = ⟨nm.toArray⟩ := ⟨_, rfl⟩
      have hNl : nm = N.data.toList := by rw [hN]
      simp only [] at c0 c1 c2' c3
      rw [← hN] at c0
      clear hN
      subst hNl
      simp only [] at hP
      have HBA : Hid (Below w.heap.size w (wx.alloc (.cells #[.string N, .int .i64 bi, .int .i64 se, .int .i64 of] 54))) := Lib.hid (HBR.out.alloc HBR.out.size _)
      by_cases he : N = D
      · subst he
        rw [if_pos rfl] at hP
        simp only [] at hP
        obtain ⟨h1, h2⟩ := Prod.mk.inj hP
        clear hP hB
        subst h1 h2
        go_wp2
        go_ret2
        exact ⟨rfl, HBA.out⟩
      · have hne : N.data.toList ≠ D.data.toList := fun h => he (ByteArray.ext (Array.toList_inj.1 h))
        rw [if_neg hne] at hP
        have e1 : (N.toList == D.toList) = false := by rw [beq_eq_false_iff_ne, ByteArray.toList_eq, ByteArray.toList_eq]; exact hne
        have e2 : ¬ N.toList = D.toList := by rw [ByteArray.toList_eq, ByteArray.toList_eq]; exact hne
        have HF := Lib.hid hP
        clear hP hB hne he
        go_wp2
        go_roundw
        case rel => exact ⟨k + 1, _, rfl, by omega, by go_num, HBA.out, HF⟩
        case measure => simp [intOf]; omega
    · have hlti : ¬ (k : Int) < (n2 : Int) := by omega
      have hP := HP.out
      rw [List.drop_eq_nil_of_le (by have := HLn.out; omega)] at hP
      obtain ⟨h1, h2⟩ := Prod.mk.inj hP
      clear hP HP HR0
      subst h1 h2
      go_wp2
      go_ret2
      exact ⟨rfl, HBR.out⟩
end Go.Proofs.YtdgfadabaejkhaaGreatDoor
