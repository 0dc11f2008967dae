/- operand: Parse. -/
import Derived.Test.YthejefldnpeciaaGreatDoorzO7
import Derived.Defers
import Derived.Recover
import Derived.Deep.RegionLaw
import Derived.Deep.AppendLies
namespace Go.Proofs.YthejefldnpeciaaGreatDoor
set_option linter.unusedVariables false
set_option linter.unusedSimpArgs false
open Go.ChangeShapes Go.WideShapes Go.Deep Go.RowKit

def restN (m : Nat) (l : List Ti) : Option (List Po × List Ti × Bool) := match l with | [] => some ([], [], false) | t :: r => if isSg coB t = true then itemsN m r else none
theorem items_rest (n : Nat) (l : List Ti) : itemsN (n + 1) l = match operP l with | none => none | some (o, l', g) => match restN n l' with | none => none | some (os, r', g') => some (o :: os, r', g || g') := by
  cases h : operP l with
  | none => rw [items_none h]
  | some x =>
    obtain ⟨o, l', g⟩ := x
    cases l' with
    | nil => rw [items_one h]; simp [restN]
    | cons t r =>
      rw [items_more h]
      unfold restN
      by_cases c : isSg coB t = true
      · simp only [c, if_true]
        cases itemsN n r with
        | none => rfl
        | some x => rfl
      · rw [if_neg c]
        simp only []
        rw [if_neg c]
/-- What comes of the rest, behind what has been read. -/
def aft (acc : List Po) (g : Bool) (l : List Ti) : Option (List Po × Bool) := match restN l.length l with | none => none | some (os, _, g') => some (acc ++ os, g || g')
theorem rest_fuel {m : Nat} {l : List Ti} (h : l.length ≤ m) : restN m l = restN l.length l := by
  cases l with
  | nil => rfl
  | cons t r =>
    unfold restN
    simp only [List.length_cons] at *
    rw [items_fuel (n := m) (m := r.length + 1) (by omega) (by omega)]
theorem aft_first {l l' : List Ti} {o : Po} {g : Bool} (h : operP l = some (o, l', g)) : itemsL l = aft [o] g l' := by
  have hs := oper_short h
  unfold itemsL aft
  rw [items_rest, h]
  simp only []
  rw [rest_fuel (by omega)]
  cases restN l'.length l' with
  | none => rfl
  | some x => obtain ⟨os, r, g'⟩ := x; rfl
theorem aft_none {acc : List Po} {g : Bool} {t : Ti} {r : List Ti} (h : isSg coB t = false ∨ operP r = none) : aft acc g (t :: r) = none := by
  unfold aft restN
  rcases h with h | h
  · simp only [h]; rfl
  · by_cases c : isSg coB t = true
    · simp only [c, if_true]; rw [items_none h]
    · simp only [c]; rfl
theorem aft_more {acc : List Po} {g g2 : Bool} {t : Ti} {r l2 : List Ti} {o : Po} (hc : isSg coB t = true) (h : operP r = some (o, l2, g2)) : aft acc g (t :: r) = aft (acc ++ [o]) (g || g2) l2 := by
  have hs := oper_short h
  unfold aft
  rw [show restN (t :: r).length (t :: r) = itemsN (r.length + 1) r by unfold restN; simp only [hc, if_true, List.length_cons]]
  rw [items_rest, h]
  simp only []
  rw [rest_fuel (by omega)]
  cases restN l2.length l2 with
  | none => rfl
  | some x => obtain ⟨os, r, g'⟩ := x; simp [Bool.or_assoc]
theorem aft_end (acc : List Po) (g : Bool) : aft acc g [] = some (acc, g) := by unfold aft restN; simp
def resP (x : Option (List Po × Bool)) : List Po × Int := match x with | none => ([], 3) | some (os, g) => if g = true then ([], 4) else (os, 0)
theorem parse_res {l : List Ti} (h : l ≠ []) : parseL l = resP (itemsL l) := by unfold parseL resP; rw [if_neg h]; rfl
set_option maxHeartbeats 1000000 in
theorem pcatch (B C : Nat) (v : Value) (y : Int) (u : TypeId) (pv : Value) (older : List PanicEntry) (w : World) (h1 : w.heap[B]? = some (.cells #[v] 22 (0, 0))) (h2 : w.heap[C]? = some (.cells #[.int .i64 y] 29 (0, 0))) (hBC : B ≠ C) :
    CallsD Tryz.prog 30 #[.pointer (some ⟨B, 0, none⟩), .pointer (some ⟨C, 0, none⟩)] (.panicking ({ v := .iface u pv, recovered := false } :: older)) w fun e u' w' =>
      e = .returned (.tuple #[]) ∧ u' = .panicking ({ v := .iface u pv, recovered := true } :: older) ∧ w' = (w.setCell ⟨B, 0, none⟩ (.slice none 0 0)).setCell ⟨C, 0, none⟩ (.int .i64 3) := by
  refine callsD_of_wpS Tryz.func30 rfl fun c₀ cs hu => ?_
  apply wpS_seq
  apply wpS_region
  simp [wpOpsS, go_sem, recoverD, hu, Tryz.ntmps30, Exit.thenS]
  refine wpS_cond (t := true) (by simp [Act.eval, Array.replicate]) ?_
  simp only [if_true]
  have c0 : w.cell? ⟨B, 0, none⟩ = some v := by rw [World.cell?, h1]; rfl
  have q0 : w.frozen? ⟨B, 0, none⟩ = false := by rw [World.frozen?, h1]; rfl
  have e0 : w.cell? ⟨C, 0, none⟩ = some (.int .i64 y) := by rw [World.cell?, h2]; rfl
  have e1 : w.frozen? ⟨C, 0, none⟩ = false := by rw [World.frozen?, h2]; rfl
  refine wpS_of_wp ?_
  go_wp2
  cases c₀
  simp_all [bodyPostS, results, Tryz.results30]
theorem pidle (B C : Nat) (w : World) : CallsD Tryz.prog 30 #[.pointer (some ⟨B, 0, none⟩), .pointer (some ⟨C, 0, none⟩)] .returning w fun e u' w' => e = .returned (.tuple #[]) ∧ u' = .returning ∧ w' = w := by
  refine callsD_of_wpS Tryz.func30 rfl fun c₀ cs hu => ?_
  apply wpS_seq
  apply wpS_region
  simp [wpOpsS, go_sem, recoverD, hu, Tryz.ntmps30, Exit.thenS]
  refine wpS_cond (t := false) (by simp [Act.eval, Array.replicate]) ?_
  simp only [Bool.false_eq_true, if_false]
  refine wpS_of_wp (wp_skip ?_)
  cases c₀
  simp_all [bodyPostS, results, Tryz.results30]
open Go.ChangeShapes Go.WideShapes Go.Deep Go.RowKit

theorem hset {w : World} {b o : Nat} {x : Value} {cs : Array Value} {T : TypeId} {fr : Nat × Nat} (hb : w.heap[b]? = some (.cells cs T fr)) : (w.setCell ⟨b, o, none⟩ x).heap[b]? = some (.cells (cs.setIfInBounds o x) T fr) := by
  simp [World.setCell, Array.getElem?_modify, hb]
theorem hother {w : World} {b c o : Nat} {x : Value} (h : c ≠ b) : (w.setCell ⟨b, o, none⟩ x).heap[c]? = w.heap[c]? := Below.heap_setCell _ _ _ _ h
theorem po_len (o : Po) : (poC o).length = 7 := rfl
theorem info_opnd : (Tryz.prog.info? 38).map (fun i => (i.zero, i.size, i.bytes)) = some (some (.agg #[.int .i64 0, .int .i64 0, .bool false, .bool false, .int .u64 0, .string ByteArray.empty, .int .i64 0]), 7, 56) := by kernel_rfl
theorem own_slice {w : World} {B e sz n : Nat} {v : Value} {xs : List Value} (h : w.ownsRow B e sz v n xs) : ∃ a c, v = .slice a n c := by
  rcases h.2 with ⟨hv, h0⟩ | ⟨g, cap, cur, hv, -⟩
  · refine ⟨none, 0, ?_⟩
    subst h0; exact hv
  · exact ⟨_, _, hv⟩
structure PSt (w u : World) (B : Nat) (v : Value) (os : List Po) (l : List Ti) (g : Bool) : Prop where
  r : RR u (B + 2) l g
  b : u.heap[B]? = some (.cells #[v] 22 (0, 0))
  o : u.ownsRow (B + 3) 38 7 v os.length (os.flatMap poC)
  c : u.heap[B + 1]? = some (.cells #[.int .i64 0] 29 (0, 0))
  k : Below w.heap.size w u
  e : B = w.heap.size
  n : os.length + l.length ≤ 1000000
theorem PSt.call {w u u' : World} {B : Nat} {v : Value} {os : List Po} {l l' : List Ti} {g g' : Bool} (h : PSt w u B v os l g) (hR : RR u' (B + 2) l' g') (hK : KP (B + 2) u u') (hl : l'.length ≤ l.length) : PSt w u' B v os l' g' :=
  ⟨hR, (hK.block B (lt_of_block h.b) (fun e => by simp at e)).trans h.b, own_kp (B := 0) (p := B + 2) h.o hK, (hK.block (B + 1) (lt_of_block h.c) (fun e => by simp at e)).trans h.c, KP.to_below h.k hK (by rw [h.e]; omega), h.e, by have := h.n; omega⟩
theorem PSt.next {w u u' : World} {B : Nat} {v : Value} {os : List Po} {l : List Ti} {g : Bool} (h : PSt w u B v os l g) (hb : Below u.heap.size u u') : PSt w u' B v os l g :=
  h.call (h.r.next hb) (KP.of_below hb) (Nat.le_refl _)
theorem PSt.drewN {w u : World} {B : Nat} {v : Value} {os : List Po} {l : List Ti} {g : Bool} (h : PSt w u B v os l g) (n : Nat) : PSt w (u.drewN n) B v os l g := h.next (below_drewN (Below.refl _ _) n)
theorem PSt.facts {w u : World} {B : Nat} {v : Value} {os : List Po} {l : List Ti} {g : Bool} (h : PSt w u B v os l g) :
    u.cell? ⟨B, 0, none⟩ = some v ∧ u.frozen? ⟨B, 0, none⟩ = false ∧ u.cell? ⟨B + 1, 0, none⟩ = some (.int .i64 0) ∧ u.frozen? ⟨B + 1, 0, none⟩ = false ∧ B < u.heap.size ∧ B + 3 ≤ u.heap.size :=
  ⟨by rw [World.cell?, h.b]; rfl, by rw [World.frozen?, h.b]; rfl, by rw [World.cell?, h.c]; rfl, by rw [World.frozen?, h.c]; rfl, lt_of_block h.b, h.r.lt⟩
/-- An operand, appended, and the row laid in its variable. -/
theorem PSt.append {w u w3 : World} {B : Nat} {v v' : Value} {os : List Po} {l : List Ti} {g : Bool} {o : Po} (h : PSt w u B v os l g) (hn : os.length + 1 + l.length ≤ 1000000)
    (hown : w3.ownsRow (B + 3) 38 7 v' (os.length + 1) (os.flatMap poC ++ poC o)) (hgrow : (u.alloc (.cells (poA o) 38)).grownBy w3 v.ownBlock) :
    PSt w (w3.setCell ⟨B, 0, none⟩ v') B v' (os ++ [o]) l g := by
  have hp := h.r.lt
  have hbV : Below (B + 3) u (u.alloc (.cells (poA o) 38)) := (Below.refl (B + 3) u).alloc (by omega) _
  have hbw : Below (B + 3) u w3 := hbV.grown hgrow (by have := hbV.size; omega) (fun j hj => (h.o.lt j hj).1)
  have hB3 : w3.heap[B]? = some (.cells #[v] 22 (0, 0)) := (hbw.block B (by omega)).trans h.b
  have hC3 : w3.heap[B + 1]? = some (.cells #[.int .i64 0] 29 (0, 0)) := (hbw.block (B + 1) (by omega)).trans h.c
  refine ⟨(h.r.below hbw (by omega)).side (by omega) (by omega) _, hset hB3, ?_, (hother (by omega)).trans hC3, ?_, h.e, ?_⟩
  · rw [List.flatMap_append, List.length_append, show ([o] : List Po).flatMap poC = poC o by simp]
    refine hown.kept (KP.step B w3 0 v') ?_
    cases hv : v'.ownBlock with
    | none => exact .inl rfl
    | some g => right; have := (hown.lt g hv).1; simp; omega
  · exact (h.k.trans (hbw.mono (by have := h.e; omega))).setCell (p := ⟨B, 0, none⟩) (by show w.heap.size ≤ B; rw [h.e]; exact Nat.le_refl _) _
  · simp only [List.length_append, List.length_singleton]; exact hn
def ParseP (l : List Ti) (w : World) (e : Ending) (w' : World) : Prop :=
  ∃ a c, e = .returned (.tuple #[.slice a (parseL l).1.length c, .int .i64 (parseL l).2]) ∧ SL poC 7 w' w'.heap.size a (parseL l).1.length (parseL l).1 ∧ ((a = none → (parseL l).1.length = 0 ∧ c = 0) ∧ (parseL l).1.length ≤ c) ∧ Below w.heap.size w w'
theorem ParseP.bad {l : List Ti} {w w' : World} {e : Ending} {er : Int} (h : parseL l = ([], er)) (he : e = .returned (.tuple #[.slice none 0 0, .int .i64 er])) (hb : Below w.heap.size w w') : ParseP l w e w' := by
  unfold ParseP; rw [h]
  exact ⟨none, 0, he, SL.nil _ _ _, ⟨fun _ => ⟨rfl, rfl⟩, Nat.le_refl _⟩, hb⟩
open Go.ChangeShapes Go.WideShapes Go.Deep Go.RowKit

theorem PSt.thr {w u u' : World} {B : Nat} {v : Value} {os : List Po} {l : List Ti} {g : Bool} (h : PSt w u B v os l g) (hK : KP (B + 2) u u') :
    u'.heap[B]? = some (.cells #[v] 22 (0, 0)) ∧ u'.heap[B + 1]? = some (.cells #[.int .i64 0] 29 (0, 0)) ∧ Below w.heap.size w u' :=
  ⟨(hK.block B (lt_of_block h.b) (fun e => by simp at e)).trans h.b, (hK.block (B + 1) (lt_of_block h.c) (fun e => by simp at e)).trans h.c, KP.to_below h.k hK (by rw [h.e]; omega)⟩
abbrev pW0 (w : World) (a : Option Addr) (n c : Nat) : World := ((w.alloc (.cells #[.slice none 0 0] 22)).alloc (.cells #[.int .i64 0] 29)).alloc (.cells #[.slice a n c, .int .i64 0, .bool false] 83)
theorem PSt.mk0 {w : World} {a : Option Addr} {c : Nat} {ts : List Ti} (hsl : SL tiC 3 w w.heap.size a ts.length ts) (hT : TabO w) (hg : GoodTs ts) (hn : ts.length ≤ 1000000) : PSt w (pW0 w a ts.length c) w.heap.size (.slice none 0 0) [] ts false := by
  have s1 : (w.alloc (.cells #[.slice none 0 0] 22)).heap.size = w.heap.size + 1 := World.size_alloc _ _
  have s2 : ((w.alloc (.cells #[.slice none 0 0] 22)).alloc (.cells #[.int .i64 0] 29)).heap.size = w.heap.size + 2 := by rw [World.size_alloc, s1]
  have hb : Below w.heap.size w (pW0 w a ts.length c) := (((Below.refl _ w).alloc (Nat.le_refl _) _).alloc (by rw [s1]; omega) _).alloc (by rw [s2]; omega) _
  have e0 : (pW0 w a ts.length c).heap[w.heap.size + 2]? = some (.cells #[.slice a ts.length c, .int .i64 0, .bool false] 83 (0, 0)) := by
    rw [← s2]; exact (MapKept.heap_alloc _ _).1
  have e1 : (pW0 w a ts.length c).heap[w.heap.size + 1]? = some (.cells #[.int .i64 0] 29 (0, 0)) := by
    rw [Below.heap_alloc _ _ _ (by rw [s2]; omega), ← s1]; exact (MapKept.heap_alloc _ _).1
  have e2 : (pW0 w a ts.length c).heap[w.heap.size]? = some (.cells #[.slice none 0 0] 22 (0, 0)) := by
    rw [Below.heap_alloc _ _ _ (by rw [s2]; omega), Below.heap_alloc _ _ _ (by rw [s1]; omega)]; exact (MapKept.heap_alloc _ _).1
  exact ⟨⟨ts, 0, hn, hg, by omega, rfl, ⟨a, c, e0, hsl.below hb⟩, w, hT, by omega, hb⟩, e2, World.ownsRow_nil _ _ _ _, e1, hb, rfl, by simpa using hn⟩
theorem PSt.put2 {w u : World} {B : Nat} {v x : Value} {os : List Po} {l : List Ti} {g : Bool} {y : Int} (h : PSt w u B v os l g) :
    ((u.setCell ⟨B, 0, none⟩ x).setCell ⟨B + 1, 0, none⟩ (.int .i64 y)).heap[B]? = some (.cells #[x] 22 (0, 0)) ∧ ((u.setCell ⟨B, 0, none⟩ x).setCell ⟨B + 1, 0, none⟩ (.int .i64 y)).heap[B + 1]? = some (.cells #[.int .i64 y] 29 (0, 0)) ∧
    Below w.heap.size w ((u.setCell ⟨B, 0, none⟩ x).setCell ⟨B + 1, 0, none⟩ (.int .i64 y)) := by
  have he := h.e
  refine ⟨(hother (by omega)).trans (hset h.b), hset ((hother (by omega)).trans h.c), ?_⟩
  exact (h.k.setCell (p := ⟨B, 0, none⟩) (by show w.heap.size ≤ B; omega) _).setCell (p := ⟨B + 1, 0, none⟩) (by show w.heap.size ≤ B + 1; omega) _
theorem PSt.own2 {w u : World} {B : Nat} {v : Value} {os : List Po} {l : List Ti} {g : Bool} {y : Int} (h : PSt w u B v os l g) :
    ((u.setCell ⟨B, 0, none⟩ v).setCell ⟨B + 1, 0, none⟩ (.int .i64 y)).ownsRow (B + 3) 38 7 v os.length (os.flatMap poC) := by
  have key : ∀ (u' : World) (k : Nat) (x : Value), k < B + 3 → u'.ownsRow (B + 3) 38 7 v os.length (os.flatMap poC) → (u'.setCell ⟨k, 0, none⟩ x).ownsRow (B + 3) 38 7 v os.length (os.flatMap poC) := by
    intro u' k x hk ho
    refine ho.kept (KP.step k u' 0 x) ?_
    cases hv : v.ownBlock with
    | none => exact .inl rfl
    | some g => right; have := (ho.lt g hv).1; simp; omega
  exact key _ _ _ (by omega) (key _ _ _ (by omega) h.o)
set_option maxRecDepth 100000 in
set_option maxHeartbeats 8000000 in
theorem Parse_empty {w : World} {a : Option Addr} {c : Nat} {ts : List Ti} (hsl : SL tiC 3 w w.heap.size a ts.length ts) (hT : TabO w) (hg : GoodTs ts) (hn : ts.length ≤ 1000000) (hts : ts.isEmpty = true) :
    Calls Tryz.prog 18 #[.slice a ts.length c] w (ParseP ts w) := by
  have HR : Hid (parseL ts = ([], 0)) := Lib.hid (by cases ts with | nil => rfl | cons t r => cases hts)
  have hmf : ∀ (fn : Fn) (first cap : Array Value) (w : World), (Instr.makeFunc fn first cap).run Tryz.prog w = .ok (.func fn first cap) w := fun _ _ _ _ => rfl
  have hE : ∀ w, (zeroValue 29).run Tryz.prog w = .ok (.int .i64 0) w := fun w => by kernel_rfl
  obtain ⟨B, hB⟩ : ∃ B, B = w.heap.size := ⟨_, rfl⟩
  have h0 := Lib.hid (PSt.mk0 (c := c) hsl hT hg hn)
  rw [← hB] at h0
  obtain ⟨n, hnn⟩ : ∃ n, n = ts.length := ⟨_, rfl⟩
  rw [← hnn] at h0 ⊢
  have HE := Lib.hid hts
  clear hsl hT hg hn hnn hts
  go_enter_defers Tryz.func18, Tryz.ntmps18
  go_wp2_with fail
  rw [← hB]
  clear hB
  rw [show B + 1 + 1 = B + 2 from rfl]
  change Hid (PSt w (((w.alloc (.cells #[.slice none 0 0] 22)).alloc (.cells #[.int .i64 0] 29)).alloc (.cells #[.slice a n c, .int .i64 0, .bool false] 83)) B (.slice none 0 0) [] ts false) at h0
  generalize ((w.alloc (.cells #[.slice none 0 0] 22)).alloc (.cells #[.int .i64 0] 29)).alloc (.cells #[.slice a n c, .int .i64 0, .bool false] 83) = W0 at h0 ⊢
  refine (ended_r h0.out.r).mono ?_
  rintro e u1 ⟨rfl, hR, hK⟩
  rw [HE.out]
  have H1 := Lib.hid (h0.out.call hR hK (Nat.le_refl _))
  clear hR hK
  obtain ⟨f0, f1, f2, f3, f4, f5⟩ := H1.out.facts
  have HQ := Lib.hid (H1.out.put2 (x := .slice none 0 0) (y := 0))
  go_wp2
  refine leaves_cons (f := 30) (args := #[.pointer (some ⟨B, 0, none⟩), .pointer (some ⟨B + 1, 0, none⟩)]) (by simp) (by simp [go_sem]) ?_
  refine (pidle B (B + 1) _).mono ?_
  rintro e u' w4 ⟨rfl, rfl, hw4⟩
  have b0 : w4.cell? ⟨B, 0, none⟩ = some (.slice none 0 0) := by rw [hw4, World.cell?, HQ.out.1]; rfl
  have d0 : w4.cell? ⟨B + 1, 0, none⟩ = some (.int .i64 0) := by rw [hw4, World.cell?, HQ.out.2.1]; rfl
  simp [Leaves, settle, results, Tryz.results18, go_sem, b0, d0]
  rw [hw4]
  exact ParseP.bad HR.out rfl HQ.out.2.2
set_option maxRecDepth 100000 in
set_option maxHeartbeats 8000000 in
theorem Parse_no1 {w : World} {a : Option Addr} {c : Nat} {ts : List Ti} (hsl : SL tiC 3 w w.heap.size a ts.length ts) (hT : TabO w) (hg : GoodTs ts) (hn : ts.length ≤ 1000000) (hts : ts.isEmpty = false) (hop : operP ts = none) :
    Calls Tryz.prog 18 #[.slice a ts.length c] w (ParseP ts w) := by
  have HR : Hid (parseL ts = ([], 3)) := Lib.hid (by
    rw [parse_res (by rintro rfl; cases hts)]
    unfold itemsL; rw [items_none hop]; rfl)
  have HO := Lib.hid hop
  have HBE := Lib.hid (rfl : w.heap.size = w.heap.size)
  clear hop
  have hmf : ∀ (fn : Fn) (first cap : Array Value) (w : World), (Instr.makeFunc fn first cap).run Tryz.prog w = .ok (.func fn first cap) w := fun _ _ _ _ => rfl
  have hE : ∀ w, (zeroValue 29).run Tryz.prog w = .ok (.int .i64 0) w := fun w => by kernel_rfl
  obtain ⟨B, hB⟩ : ∃ B, B = w.heap.size := ⟨_, rfl⟩
  have h0 := Lib.hid (PSt.mk0 (c := c) hsl hT hg hn)
  rw [← hB] at h0
  obtain ⟨n, hnn⟩ : ∃ n, n = ts.length := ⟨_, rfl⟩
  rw [← hnn] at h0 ⊢
  have HE := Lib.hid hts
  clear hsl hT hg hn hnn hts
  go_enter_defers Tryz.func18, Tryz.ntmps18
  go_wp2_with fail
  rw [← hB]
  replace HBE := Lib.hid hB
  clear hB
  rw [show B + 1 + 1 = B + 2 from rfl]
  change Hid (PSt w (((w.alloc (.cells #[.slice none 0 0] 22)).alloc (.cells #[.int .i64 0] 29)).alloc (.cells #[.slice a n c, .int .i64 0, .bool false] 83)) B (.slice none 0 0) [] ts false) at h0
  generalize ((w.alloc (.cells #[.slice none 0 0] 22)).alloc (.cells #[.int .i64 0] 29)).alloc (.cells #[.slice a n c, .int .i64 0, .bool false] 83) = W0 at h0 ⊢
  refine (ended_r h0.out.r).mono ?_
  rintro e u1 ⟨rfl, hR, hK⟩
  rw [HE.out]
  have H1 := Lib.hid (h0.out.call hR hK (Nat.le_refl _))
  clear hR hK
  obtain ⟨f0, f1, f2, f3, f4, f5⟩ := H1.out.facts
  go_wp2_with fail
  refine wp_region_any (by kernel_rfl) ?_
  try (change wpAny _ _ _ _ _ _ _ (World.drew _))
  refine wpAny_ready (rs := [0, 1]) (by kernel_rfl) (by simp) ?_
  refine AllReady.cons rfl (fun K hK => ?_) (AllReady.cons rfl (fun K hK => ?_) AllReady.nil)
  · go_simp
    refine hK _ _ ?_
    clear hK K
    refine wpAny_ready (rs := [1]) (by kernel_rfl) (by simp) ?_
    refine AllReady.cons rfl (fun K hK => ?_) AllReady.nil
    go_simp
    refine hK _ _ ?_
    clear hK K
    refine wpAny_ready (rs := [2]) (by kernel_rfl) (by simp) ?_
    refine AllReady.cons rfl (fun K hK => ?_) AllReady.nil
    go_simp
    go_at_call 32
    refine (oper_none (H1.out.r.drewN 1) HO.out).mono ?_
    rintro e u2 ⟨rfl, hK⟩
    have HF := Lib.hid ((H1.out.drewN 1).thr hK)
    refine leaves_cons (f := 30) (args := #[.pointer (some ⟨B, 0, none⟩), .pointer (some ⟨B + 1, 0, none⟩)]) (by simp) (by simp [go_sem]) ?_
    refine (pcatch B (B + 1) _ 0 _ _ [] _ HF.out.1 HF.out.2.1 (by omega)).mono ?_
    rintro e u' w4 ⟨rfl, rfl, hw4⟩
    have hB4 : w4.heap[B]? = some (.cells #[.slice none 0 0] 22 (0, 0)) := by rw [hw4]; exact (hother (by omega)).trans (hset HF.out.1)
    have hC4 : w4.heap[B + 1]? = some (.cells #[.int .i64 3] 29 (0, 0)) := by rw [hw4]; exact hset ((hother (by omega)).trans HF.out.2.1)
    have hb4 : Below w.heap.size w w4 := by
      rw [hw4]
      exact (HF.out.2.2.setCell (p := ⟨B, 0, none⟩) (by show w.heap.size ≤ B; rw [HBE.out]; exact Nat.le_refl _) _).setCell (p := ⟨B + 1, 0, none⟩) (by show w.heap.size ≤ B + 1; rw [HBE.out]; omega) _
    have b0 : w4.cell? ⟨B, 0, none⟩ = some (.slice none 0 0) := by rw [World.cell?, hB4]; rfl
    have d0 : w4.cell? ⟨B + 1, 0, none⟩ = some (.int .i64 3) := by rw [World.cell?, hC4]; rfl
    simp [Leaves, settle, results, Tryz.results18, go_sem, b0, d0]
    exact ParseP.bad HR.out rfl hb4
  · go_simp
    refine hK _ _ ?_
    clear hK K
    refine wpAny_ready (rs := [0, 2]) (by kernel_rfl) (by simp) ?_
    refine AllReady.cons rfl (fun K hK => ?_) (AllReady.cons rfl (fun K hK => ?_) AllReady.nil)
    · go_simp
      refine hK _ _ ?_
      clear hK K
      refine wpAny_ready (rs := [2]) (by kernel_rfl) (by simp) ?_
      refine AllReady.cons rfl (fun K hK => ?_) AllReady.nil
      go_simp
      go_at_call 32
      refine (oper_none (H1.out.r.drewN 1) HO.out).mono ?_
      rintro e u2 ⟨rfl, hK⟩
      have HF := Lib.hid ((H1.out.drewN 1).thr hK)
      refine leaves_cons (f := 30) (args := #[.pointer (some ⟨B, 0, none⟩), .pointer (some ⟨B + 1, 0, none⟩)]) (by simp) (by simp [go_sem]) ?_
      refine (pcatch B (B + 1) _ 0 _ _ [] _ HF.out.1 HF.out.2.1 (by omega)).mono ?_
      rintro e u' w4 ⟨rfl, rfl, hw4⟩
      have hB4 : w4.heap[B]? = some (.cells #[.slice none 0 0] 22 (0, 0)) := by rw [hw4]; exact (hother (by omega)).trans (hset HF.out.1)
      have hC4 : w4.heap[B + 1]? = some (.cells #[.int .i64 3] 29 (0, 0)) := by rw [hw4]; exact hset ((hother (by omega)).trans HF.out.2.1)
      have hb4 : Below w.heap.size w w4 := by
        rw [hw4]
        exact (HF.out.2.2.setCell (p := ⟨B, 0, none⟩) (by show w.heap.size ≤ B; rw [HBE.out]; exact Nat.le_refl _) _).setCell (p := ⟨B + 1, 0, none⟩) (by show w.heap.size ≤ B + 1; rw [HBE.out]; omega) _
      have b0 : w4.cell? ⟨B, 0, none⟩ = some (.slice none 0 0) := by rw [World.cell?, hB4]; rfl
      have d0 : w4.cell? ⟨B + 1, 0, none⟩ = some (.int .i64 3) := by rw [World.cell?, hC4]; rfl
      simp [Leaves, settle, results, Tryz.results18, go_sem, b0, d0]
      exact ParseP.bad HR.out rfl hb4
    · go_simp
      go_at_call 32
      refine (oper_none (H1.out.r.drewN 1) HO.out).mono ?_
      rintro e u2 ⟨rfl, hK⟩
      have HF := Lib.hid ((H1.out.drewN 1).thr hK)
      refine leaves_cons (f := 30) (args := #[.pointer (some ⟨B, 0, none⟩), .pointer (some ⟨B + 1, 0, none⟩)]) (by simp) (by simp [go_sem]) ?_
      refine (pcatch B (B + 1) _ 0 _ _ [] _ HF.out.1 HF.out.2.1 (by omega)).mono ?_
      rintro e u' w4 ⟨rfl, rfl, hw4⟩
      have hB4 : w4.heap[B]? = some (.cells #[.slice none 0 0] 22 (0, 0)) := by rw [hw4]; exact (hother (by omega)).trans (hset HF.out.1)
      have hC4 : w4.heap[B + 1]? = some (.cells #[.int .i64 3] 29 (0, 0)) := by rw [hw4]; exact hset ((hother (by omega)).trans HF.out.2.1)
      have hb4 : Below w.heap.size w w4 := by
        rw [hw4]
        exact (HF.out.2.2.setCell (p := ⟨B, 0, none⟩) (by show w.heap.size ≤ B; rw [HBE.out]; exact Nat.le_refl _) _).setCell (p := ⟨B + 1, 0, none⟩) (by show w.heap.size ≤ B + 1; rw [HBE.out]; omega) _
      have b0 : w4.cell? ⟨B, 0, none⟩ = some (.slice none 0 0) := by rw [World.cell?, hB4]; rfl
      have d0 : w4.cell? ⟨B + 1, 0, none⟩ = some (.int .i64 3) := by rw [World.cell?, hC4]; rfl
      simp [Leaves, settle, results, Tryz.results18, go_sem, b0, d0]
      exact ParseP.bad HR.out rfl hb4
open Go.ChangeShapes Go.WideShapes Go.Deep Go.RowKit

theorem po_one (o : Po) : ∀ u ∈ poC o, u.oneCell' = true := by simp [poC, Value.oneCell']
set_option maxRecDepth 100000 in
set_option maxHeartbeats 8000000 in
theorem Parse_main {w : World} {a : Option Addr} {c : Nat} {ts : List Ti} (hsl : SL tiC 3 w w.heap.size a ts.length ts) (hT : TabO w) (hg : GoodTs ts) (hn : ts.length ≤ 1000000) (hts : ts.isEmpty = false) {o : Po} {l1 : List Ti} {g1 : Bool} (hop : operP ts = some (o, l1, g1)) :
    Calls Tryz.prog 18 #[.slice a ts.length c] w (ParseP ts w) := by
  have HRes : Hid (parseL ts = resP (aft [o] g1 l1)) := Lib.hid (by
    rw [parse_res (by rintro rfl; cases hts), aft_first hop])
  have HO := Lib.hid hop
  have HBE := Lib.hid (rfl : w.heap.size = w.heap.size)
  clear hop
  have hmf : ∀ (fn : Fn) (first cap : Array Value) (w : World), (Instr.makeFunc fn first cap).run Tryz.prog w = .ok (.func fn first cap) w := fun _ _ _ _ => rfl
  have hE : ∀ w, (zeroValue 29).run Tryz.prog w = .ok (.int .i64 0) w := fun w => by kernel_rfl
  obtain ⟨B, hB⟩ : ∃ B, B = w.heap.size := ⟨_, rfl⟩
  have h0 := Lib.hid (PSt.mk0 (c := c) hsl hT hg hn)
  rw [← hB] at h0
  obtain ⟨n, hnn⟩ : ∃ n, n = ts.length := ⟨_, rfl⟩
  rw [← hnn] at h0 ⊢
  have HE := Lib.hid hts
  clear hsl hT hg hn hnn hts
  go_enter_defers Tryz.func18, Tryz.ntmps18
  go_wp2_with fail
  rw [← hB]
  replace HBE := Lib.hid hB
  clear hB
  rw [show B + 1 + 1 = B + 2 from rfl]
  change Hid (PSt w (((w.alloc (.cells #[.slice none 0 0] 22)).alloc (.cells #[.int .i64 0] 29)).alloc (.cells #[.slice a n c, .int .i64 0, .bool false] 83)) B (.slice none 0 0) [] ts false) at h0
  generalize ((w.alloc (.cells #[.slice none 0 0] 22)).alloc (.cells #[.int .i64 0] 29)).alloc (.cells #[.slice a n c, .int .i64 0, .bool false] 83) = W0 at h0 ⊢
  refine (ended_r h0.out.r).mono ?_
  rintro e u1 ⟨rfl, hR, hK⟩
  rw [HE.out]
  have H1 := Lib.hid (h0.out.call hR hK (Nat.le_refl _))
  clear hR hK
  obtain ⟨os, va, vc, hos, hv⟩ : ∃ os va vc, os = ([] : List Po) ∧ Value.slice none 0 0 = .slice va os.length vc := ⟨[], none, 0, rfl, rfl⟩
  rw [← hos, hv] at H1
  have HOS := Lib.hid hos
  clear hos hv
  have hno : (Value.slice va os.length vc).ownBlock ≠ some B := fun e => by have := (H1.out.o.lt B e).1; omega
  have hlen := Lib.hid (Nat.le_of_lt (oper_short HO.out))
  have hkn : os.length + 1 + l1.length ≤ 1000000 := by have := H1.out.n; have := oper_short HO.out; (try simp only [List.length_cons] at *); omega
  have p0 : _ := H1.out.facts.1
  have p4 : _ := H1.out.facts.2.1
  obtain ⟨i0, hi0, hz0, hz1, hz2⟩ := info_parts info_opnd
  go_wp2_with fail
  first | (go_region_law ((first
    | (go_simp; go_at_call 32; refine (oper_ok (H1.out.r.drewN 1) HO.out).mono ?_; rintro e u2 ⟨rfl, hR, hK⟩; have H2 := Lib.hid ((H1.out.drewN 1).call hR hK hlen.out); have s0 := H2.out.facts.1; have s4 := H2.out.facts.2.1; have s5 := H2.out.facts.2.2.2.2.1; have s6 := H2.out.facts.2.2.2.2.2; clear hR hK)
    | (refine step_append_lies _ (by rfl) _ _ _ (by rfl) (B + 3) 38 i0 _ 7 56 Tryz.underlying22 hi0 hz0 hz1 hz2 rfl (by omega) (.slice va os.length vc) os.length (os.flatMap poC) (by rfl) (H2.out.o.alloc _) ⟨u2.heap.size, 0, none⟩ 1 1 (poC o) (by rfl) (by rfl) (World.news_of_block (cs := poA o) (t := 38) (fr := (0, 0)) (heap_alloc_new u2 _)) (po_one o) (by omega) (by unfold maxLen; omega) (by omega) (by simp; omega) (u2.heap.size + 1) (by simp) ?_; intro g3 cap w3 hown3 hgrow hat hlt3; have t0 : w3.cell? ⟨B, 0, none⟩ = some (.slice va os.length vc) := (hgrow.cell_far _ (by simp; omega) (Ne.symm hno)).trans ((World.cell?_alloc_past (w := u2) _ _ _ s5).trans s0); have t4 : w3.frozen? ⟨B, 0, none⟩ = false := (hgrow.frozen_far _ (by simp; omega) (Ne.symm hno)).trans ((World.frozen?_alloc_past (w := u2) _ _ _ s5).trans s4))))) | fail
  all_goals
    have H3 := Lib.hid (H2.out.append hkn hown3 hgrow)
    have HI : Hid (parseL ts = resP (aft (os ++ [o]) (false || g1) l1)) := Lib.hid (by rw [HOS.out]; exact HRes.out)
    generalize w3.setCell ⟨B, 0, none⟩ (.slice (some ⟨g3, 0, none⟩) (os.length + 1) cap) = W3 at H3 ⊢
    clear t0 t4 s0 s4 s5 s6 p0 p4 hown3 hgrow hat hlt3 H2 H1 hno hkn hlen
    go_wp2_with fail
    go_loopg [] (l1.length) (fun k wl => ∃ v os l g, Hid (PSt w wl B v os l g) ∧ Hid (parseL ts = resP (aft os g l)) ∧ Hid (k = l.length))
    case atStart => exact ⟨_, _, _, _, H3, HI, Lib.hid rfl⟩
    case round =>
      clear H3 HI HOS HO
      obtain ⟨v, os, l, g, HA, HP, HK⟩ := hrel
      obtain ⟨va, vc, hv⟩ := own_slice HA.out.o
      subst hv
      cases l with
      | nil =>
        have HEn : Hid (Calls Tryz.prog 31 #[.pointer (some ⟨B + 2, 0, none⟩)] _ (Did (.bool true) (B + 2) [] g _)) := Lib.hid (ended_r HA.out.r)
        go_wp2_with fail
        refine HEn.out.mono ?_
        rintro e u3 ⟨rfl, hR, hK⟩
        have H4 := Lib.hid (HA.out.call hR hK (Nat.le_refl _))
        clear hR hK
        obtain ⟨gf, gc, -⟩ := H4.out.r.great
        obtain ⟨f0, f1, f2, f3, f4, f5⟩ := H4.out.facts
        cases g
        · have HRv : Hid (parseL ts = (os, 0)) := Lib.hid (by rw [HP.out, aft_end]; rfl)
          have HQ := Lib.hid (H4.out.put2 (x := .slice va os.length vc) (y := 0))
          have HW := Lib.hid (H4.out.own2 (y := 0))
          go_wp2
          refine leaves_cons (f := 30) (args := #[.pointer (some ⟨B, 0, none⟩), .pointer (some ⟨B + 1, 0, none⟩)]) (by simp) (by simp [go_sem]) ?_
          refine (pidle B (B + 1) _).mono ?_
          rintro e u' w4 ⟨rfl, rfl, hw4⟩
          have b0 : w4.cell? ⟨B, 0, none⟩ = some (.slice va os.length vc) := by rw [hw4, World.cell?, HQ.out.1]; rfl
          have d0 : w4.cell? ⟨B + 1, 0, none⟩ = some (.int .i64 0) := by rw [hw4, World.cell?, HQ.out.2.1]; rfl
          simp [Leaves, settle, results, Tryz.results18, go_sem, b0, d0]
          rw [hw4]
          obtain ⟨a', c', hv2, hsl, hnil⟩ := SL.ofOwns po_len (by omega) HW.out
          cases hv2
          unfold ParseP
          rw [HRv.out]
          exact ⟨va, vc, rfl, hsl, ⟨hnil, own_cap HW.out⟩, HQ.out.2.2⟩
        · have HR : Hid (parseL ts = ([], 4)) := Lib.hid (by rw [HP.out, aft_end]; rfl)
          have HQ := Lib.hid (H4.out.put2 (x := .slice none 0 0) (y := 4))
          go_wp2
          refine leaves_cons (f := 30) (args := #[.pointer (some ⟨B, 0, none⟩), .pointer (some ⟨B + 1, 0, none⟩)]) (by simp) (by simp [go_sem]) ?_
          refine (pidle B (B + 1) _).mono ?_
          rintro e u' w4 ⟨rfl, rfl, hw4⟩
          have b0 : w4.cell? ⟨B, 0, none⟩ = some (.slice none 0 0) := by rw [hw4, World.cell?, HQ.out.1]; rfl
          have d0 : w4.cell? ⟨B + 1, 0, none⟩ = some (.int .i64 4) := by rw [hw4, World.cell?, HQ.out.2.1]; rfl
          simp [Leaves, settle, results, Tryz.results18, go_sem, b0, d0]
          rw [hw4]
          exact ParseP.bad HR.out rfl HQ.out.2.2
      | cons t r =>
        have HEn : Hid (Calls Tryz.prog 31 #[.pointer (some ⟨B + 2, 0, none⟩)] _ (Did (.bool false) (B + 2) (t :: r) g _)) := Lib.hid (ended_r HA.out.r)
        go_wp2_with fail
        refine HEn.out.mono ?_
        rintro e u3 ⟨rfl, hR, hK⟩
        have H4 := Lib.hid (HA.out.call hR hK (Nat.le_refl _))
        clear hR hK
        cases hc : isSg coB t
        · have HR : Hid (parseL ts = ([], 3)) := Lib.hid (by rw [HP.out, aft_none (.inl hc)]; rfl)
          have HC : Hid (isSg coB (nextT (t :: r)) = false) := Lib.hid hc
          clear hc
          go_wp2_with fail
          refine (want_no H4.out.r coB HC.out).mono ?_
          rintro e u4 ⟨rfl, hK⟩
          have HF := Lib.hid (H4.out.thr hK)
          clear hK
          refine leaves_cons (f := 30) (args := #[.pointer (some ⟨B, 0, none⟩), .pointer (some ⟨B + 1, 0, none⟩)]) (by simp) (by simp [go_sem]) ?_
          refine (pcatch B (B + 1) _ 0 _ _ [] _ HF.out.1 HF.out.2.1 (by omega)).mono ?_
          rintro e u' w4 ⟨rfl, rfl, hw4⟩
          have hB4 : w4.heap[B]? = some (.cells #[.slice none 0 0] 22 (0, 0)) := by rw [hw4]; exact (hother (by omega)).trans (hset HF.out.1)
          have hC4 : w4.heap[B + 1]? = some (.cells #[.int .i64 3] 29 (0, 0)) := by rw [hw4]; exact hset ((hother (by omega)).trans HF.out.2.1)
          have hb4 : Below w.heap.size w w4 := by
            rw [hw4]
            exact (HF.out.2.2.setCell (p := ⟨B, 0, none⟩) (by show w.heap.size ≤ B; rw [HBE.out]; exact Nat.le_refl _) _).setCell (p := ⟨B + 1, 0, none⟩) (by show w.heap.size ≤ B + 1; rw [HBE.out]; omega) _
          have b0 : w4.cell? ⟨B, 0, none⟩ = some (.slice none 0 0) := by rw [World.cell?, hB4]; rfl
          have d0 : w4.cell? ⟨B + 1, 0, none⟩ = some (.int .i64 3) := by rw [World.cell?, hC4]; rfl
          simp [Leaves, settle, results, Tryz.results18, go_sem, b0, d0]
          exact ParseP.bad HR.out rfl hb4
        · have HC := Lib.hid hc
          clear hc
          cases hop : operP r with
          | none =>
            have HR : Hid (parseL ts = ([], 3)) := Lib.hid (by rw [HP.out, aft_none (.inr hop)]; rfl)
            have HO := Lib.hid hop
            clear hop
            go_wp2_with fail
            refine (want_yes H4.out.r coB HC.out).mono ?_
            rintro e u4 ⟨rfl, hR, hK⟩
            have H5 := Lib.hid (H4.out.call hR hK (by simp))
            clear hR hK
            obtain ⟨f0, f1, f2, f3, f4, f5⟩ := H5.out.facts
            go_wp2_with fail
            refine wp_region_any (by kernel_rfl) ?_
            try (change wpAny _ _ _ _ _ _ _ (World.drew _))
            refine wpAny_ready (rs := [0, 1]) (by kernel_rfl) (by simp) ?_
            refine AllReady.cons rfl (fun K hK => ?_) (AllReady.cons rfl (fun K hK => ?_) AllReady.nil)
            · go_simp
              refine hK _ _ ?_
              clear hK K
              refine wpAny_ready (rs := [1]) (by kernel_rfl) (by simp) ?_
              refine AllReady.cons rfl (fun K hK => ?_) AllReady.nil
              go_simp
              refine hK _ _ ?_
              clear hK K
              refine wpAny_ready (rs := [2]) (by kernel_rfl) (by simp) ?_
              refine AllReady.cons rfl (fun K hK => ?_) AllReady.nil
              go_simp
              go_at_call 32
              refine (oper_none (H5.out.r.drewN 1) HO.out).mono ?_
              rintro e u2 ⟨rfl, hK⟩
              have HF := Lib.hid ((H5.out.drewN 1).thr hK)
              refine leaves_cons (f := 30) (args := #[.pointer (some ⟨B, 0, none⟩), .pointer (some ⟨B + 1, 0, none⟩)]) (by simp) (by simp [go_sem]) ?_
              refine (pcatch B (B + 1) _ 0 _ _ [] _ HF.out.1 HF.out.2.1 (by omega)).mono ?_
              rintro e u' w4 ⟨rfl, rfl, hw4⟩
              have hB4 : w4.heap[B]? = some (.cells #[.slice none 0 0] 22 (0, 0)) := by rw [hw4]; exact (hother (by omega)).trans (hset HF.out.1)
              have hC4 : w4.heap[B + 1]? = some (.cells #[.int .i64 3] 29 (0, 0)) := by rw [hw4]; exact hset ((hother (by omega)).trans HF.out.2.1)
              have hb4 : Below w.heap.size w w4 := by
                rw [hw4]
                exact (HF.out.2.2.setCell (p := ⟨B, 0, none⟩) (by show w.heap.size ≤ B; rw [HBE.out]; exact Nat.le_refl _) _).setCell (p := ⟨B + 1, 0, none⟩) (by show w.heap.size ≤ B + 1; rw [HBE.out]; omega) _
              have b0 : w4.cell? ⟨B, 0, none⟩ = some (.slice none 0 0) := by rw [World.cell?, hB4]; rfl
              have d0 : w4.cell? ⟨B + 1, 0, none⟩ = some (.int .i64 3) := by rw [World.cell?, hC4]; rfl
              simp [Leaves, settle, results, Tryz.results18, go_sem, b0, d0]
              exact ParseP.bad HR.out rfl hb4
            · go_simp
              refine hK _ _ ?_
              clear hK K
              refine wpAny_ready (rs := [0, 2]) (by kernel_rfl) (by simp) ?_
              refine AllReady.cons rfl (fun K hK => ?_) (AllReady.cons rfl (fun K hK => ?_) AllReady.nil)
              · go_simp
                refine hK _ _ ?_
                clear hK K
                refine wpAny_ready (rs := [2]) (by kernel_rfl) (by simp) ?_
                refine AllReady.cons rfl (fun K hK => ?_) AllReady.nil
                go_simp
                go_at_call 32
                refine (oper_none (H5.out.r.drewN 1) HO.out).mono ?_
                rintro e u2 ⟨rfl, hK⟩
                have HF := Lib.hid ((H5.out.drewN 1).thr hK)
                refine leaves_cons (f := 30) (args := #[.pointer (some ⟨B, 0, none⟩), .pointer (some ⟨B + 1, 0, none⟩)]) (by simp) (by simp [go_sem]) ?_
                refine (pcatch B (B + 1) _ 0 _ _ [] _ HF.out.1 HF.out.2.1 (by omega)).mono ?_
                rintro e u' w4 ⟨rfl, rfl, hw4⟩
                have hB4 : w4.heap[B]? = some (.cells #[.slice none 0 0] 22 (0, 0)) := by rw [hw4]; exact (hother (by omega)).trans (hset HF.out.1)
                have hC4 : w4.heap[B + 1]? = some (.cells #[.int .i64 3] 29 (0, 0)) := by rw [hw4]; exact hset ((hother (by omega)).trans HF.out.2.1)
                have hb4 : Below w.heap.size w w4 := by
                  rw [hw4]
                  exact (HF.out.2.2.setCell (p := ⟨B, 0, none⟩) (by show w.heap.size ≤ B; rw [HBE.out]; exact Nat.le_refl _) _).setCell (p := ⟨B + 1, 0, none⟩) (by show w.heap.size ≤ B + 1; rw [HBE.out]; omega) _
                have b0 : w4.cell? ⟨B, 0, none⟩ = some (.slice none 0 0) := by rw [World.cell?, hB4]; rfl
                have d0 : w4.cell? ⟨B + 1, 0, none⟩ = some (.int .i64 3) := by rw [World.cell?, hC4]; rfl
                simp [Leaves, settle, results, Tryz.results18, go_sem, b0, d0]
                exact ParseP.bad HR.out rfl hb4
              · go_simp
                go_at_call 32
                refine (oper_none (H5.out.r.drewN 1) HO.out).mono ?_
                rintro e u2 ⟨rfl, hK⟩
                have HF := Lib.hid ((H5.out.drewN 1).thr hK)
                refine leaves_cons (f := 30) (args := #[.pointer (some ⟨B, 0, none⟩), .pointer (some ⟨B + 1, 0, none⟩)]) (by simp) (by simp [go_sem]) ?_
                refine (pcatch B (B + 1) _ 0 _ _ [] _ HF.out.1 HF.out.2.1 (by omega)).mono ?_
                rintro e u' w4 ⟨rfl, rfl, hw4⟩
                have hB4 : w4.heap[B]? = some (.cells #[.slice none 0 0] 22 (0, 0)) := by rw [hw4]; exact (hother (by omega)).trans (hset HF.out.1)
                have hC4 : w4.heap[B + 1]? = some (.cells #[.int .i64 3] 29 (0, 0)) := by rw [hw4]; exact hset ((hother (by omega)).trans HF.out.2.1)
                have hb4 : Below w.heap.size w w4 := by
                  rw [hw4]
                  exact (HF.out.2.2.setCell (p := ⟨B, 0, none⟩) (by show w.heap.size ≤ B; rw [HBE.out]; exact Nat.le_refl _) _).setCell (p := ⟨B + 1, 0, none⟩) (by show w.heap.size ≤ B + 1; rw [HBE.out]; omega) _
                have b0 : w4.cell? ⟨B, 0, none⟩ = some (.slice none 0 0) := by rw [World.cell?, hB4]; rfl
                have d0 : w4.cell? ⟨B + 1, 0, none⟩ = some (.int .i64 3) := by rw [World.cell?, hC4]; rfl
                simp [Leaves, settle, results, Tryz.results18, go_sem, b0, d0]
                exact ParseP.bad HR.out rfl hb4
          | some x =>
            obtain ⟨o, l2, g2⟩ := x
            have HP2 : Hid (parseL ts = resP (aft (os ++ [o]) (g || g2) l2)) := Lib.hid (by rw [HP.out, aft_more HC.out hop])
            have HO := Lib.hid hop
            clear hop
            go_wp2_with fail
            refine (want_yes H4.out.r coB HC.out).mono ?_
            rintro e u4 ⟨rfl, hR, hK⟩
            have H5 := Lib.hid (H4.out.call hR hK (by simp))
            clear hR hK
            have hno : (Value.slice va os.length vc).ownBlock ≠ some B := fun e => by have := (H5.out.o.lt B e).1; omega
            have hlen := Lib.hid (Nat.le_of_lt (oper_short HO.out))
            have hkn : os.length + 1 + l2.length ≤ 1000000 := by have := H5.out.n; have := oper_short HO.out; (try simp only [List.length_cons] at *); omega
            have p0 : _ := H5.out.facts.1
            have p4 : _ := H5.out.facts.2.1
            obtain ⟨i0, hi0, hz0, hz1, hz2⟩ := info_parts info_opnd
            go_wp2_with fail
            first | (go_region_law ((first
              | (go_simp; go_at_call 32; refine (oper_ok (H5.out.r.drewN 1) HO.out).mono ?_; rintro e u2 ⟨rfl, hR, hK⟩; have H2 := Lib.hid ((H5.out.drewN 1).call hR hK hlen.out); have s0 := H2.out.facts.1; have s4 := H2.out.facts.2.1; have s5 := H2.out.facts.2.2.2.2.1; have s6 := H2.out.facts.2.2.2.2.2; clear hR hK)
              | (refine step_append_lies _ (by rfl) _ _ _ (by rfl) (B + 3) 38 i0 _ 7 56 Tryz.underlying22 hi0 hz0 hz1 hz2 rfl (by omega) (.slice va os.length vc) os.length (os.flatMap poC) (by rfl) (H2.out.o.alloc _) ⟨u2.heap.size, 0, none⟩ 1 1 (poC o) (by rfl) (by rfl) (World.news_of_block (cs := poA o) (t := 38) (fr := (0, 0)) (heap_alloc_new u2 _)) (po_one o) (by omega) (by unfold maxLen; omega) (by omega) (by simp; omega) (u2.heap.size + 1) (by simp) ?_; intro g3 cap w3 hown3 hgrow hat hlt3; have t0 : w3.cell? ⟨B, 0, none⟩ = some (.slice va os.length vc) := (hgrow.cell_far _ (by simp; omega) (Ne.symm hno)).trans ((World.cell?_alloc_past (w := u2) _ _ _ s5).trans s0); have t4 : w3.frozen? ⟨B, 0, none⟩ = false := (hgrow.frozen_far _ (by simp; omega) (Ne.symm hno)).trans ((World.frozen?_alloc_past (w := u2) _ _ _ s5).trans s4))))) | fail
            all_goals
              have H6 := Lib.hid (H2.out.append hkn hown3 hgrow)
              have HLL := Lib.hid (oper_short HO.out)
              clear t0 t4 s0 s4 s5 s6 p0 p4 hown3 hgrow hat hlt3 H2 hno hkn hlen
              go_wp2_with fail
              go_roundg (l2.length)
              case measure => have := HLL.out; have := HK.out; simp only [List.length_cons] at *; omega
              case rel => exact ⟨_, _, _, _, H6, HP2, Lib.hid rfl⟩
theorem Parse_any {w : World} {a : Option Addr} {c : Nat} {ts : List Ti} (hsl : SL tiC 3 w w.heap.size a ts.length ts) (hT : TabO w) (hg : GoodTs ts) (hn : ts.length ≤ 1000000) :
    Calls Tryz.prog 18 #[.slice a ts.length c] w (ParseP ts w) := by
  cases he : ts.isEmpty with
  | true => exact Parse_empty hsl hT hg hn he
  | false =>
    cases hop : operP ts with
    | none => exact Parse_no1 hsl hT hg hn he hop
    | some x => obtain ⟨o, l1, g1⟩ := x; exact Parse_main hsl hT hg hn he hop
end Go.Proofs.YthejefldnpeciaaGreatDoor
