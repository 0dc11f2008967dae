/- operand: Parse, plain; what its closure catches. -/
import Derived.Test.YtngoipcjipbelaaDoorOP
import Derived.Defers
import Derived.Recover
import Derived.Deep.RegionLaw
namespace Go.Proofs.YtngoipcjipbelaaDoor
set_option linter.unusedVariables false
set_option linter.unusedSimpArgs false
open Go.ChangeShapes Go.WideShapes Go.Deep Go.RowKit

def restN (m : Nat) (l : List Ti) : Option (List Po × List Ti × Bool) := match l with | [] => some ([], [], false) | t :: r => if isSg coB t = true then itemsN m r else none
theorem items_rest (n : Nat) (l : List Ti) : itemsN (n + 1) l = match operP l with | none => none | some (o, l', g) => match restN n l' with | none => none | some (os, r', g') => some (o :: os, r', g || g') := by
  cases h : operP l with
  | none => rw [items_none h]
  | some x =>
    obtain ⟨o, l', g⟩ := x
    cases l' with
    | nil => rw [items_one h]; simp [restN]
    | cons t r =>
      rw [items_more h]
      unfold restN
      by_cases c : isSg coB t = true
      · simp only [c, if_true]
        cases itemsN n r with
        | none => rfl
        | some x => rfl
      · rw [if_neg c]
        simp only []
        rw [if_neg c]
/-- What comes of the rest, behind what has been read. -/
def aft (acc : List Po) (g : Bool) (l : List Ti) : Option (List Po × Bool) := match restN l.length l with | none => none | some (os, _, g') => some (acc ++ os, g || g')
theorem rest_fuel {m : Nat} {l : List Ti} (h : l.length ≤ m) : restN m l = restN l.length l := by
  cases l with
  | nil => rfl
  | cons t r =>
    unfold restN
    simp only [List.length_cons] at *
    rw [items_fuel (n := m) (m := r.length + 1) (by omega) (by omega)]
theorem aft_first {l l' : List Ti} {o : Po} {g : Bool} (h : operP l = some (o, l', g)) : itemsL l = aft [o] g l' := by
  have hs := oper_short h
  unfold itemsL aft
  rw [items_rest, h]
  simp only []
  rw [rest_fuel (by omega)]
  cases restN l'.length l' with
  | none => rfl
  | some x => obtain ⟨os, r, g'⟩ := x; rfl
theorem aft_none {acc : List Po} {g : Bool} {t : Ti} {r : List Ti} (h : isSg coB t = false ∨ operP r = none) : aft acc g (t :: r) = none := by
  unfold aft restN
  rcases h with h | h
  · simp only [h]; rfl
  · by_cases c : isSg coB t = true
    · simp only [c, if_true]; rw [items_none h]
    · simp only [c]; rfl
theorem aft_more {acc : List Po} {g g2 : Bool} {t : Ti} {r l2 : List Ti} {o : Po} (hc : isSg coB t = true) (h : operP r = some (o, l2, g2)) : aft acc g (t :: r) = aft (acc ++ [o]) (g || g2) l2 := by
  have hs := oper_short h
  unfold aft
  rw [show restN (t :: r).length (t :: r) = itemsN (r.length + 1) r by unfold restN; simp only [hc, if_true, List.length_cons]]
  rw [items_rest, h]
  simp only []
  rw [rest_fuel (by omega)]
  cases restN l2.length l2 with
  | none => rfl
  | some x => obtain ⟨os, r, g'⟩ := x; simp [Bool.or_assoc]
theorem aft_end (acc : List Po) (g : Bool) : aft acc g [] = some (acc, g) := by unfold aft restN; simp
def resP (x : Option (List Po × Bool)) : List Po × Int := match x with | none => ([], 3) | some (os, g) => if g = true then ([], 4) else (os, 0)
theorem parse_res {l : List Ti} (h : l ≠ []) : parseL l = resP (itemsL l) := by unfold parseL resP; rw [if_neg h]; rfl
set_option maxHeartbeats 1000000 in
theorem pcatch (B C : Nat) (v : Value) (y : Int) (u : TypeId) (pv : Value) (older : List PanicEntry) (w : World) (h1 : w.heap[B]? = some (.cells #[v] 44 (0, 0))) (h2 : w.heap[C]? = some (.cells #[.int .i64 y] 22 (0, 0))) (hBC : B ≠ C) :
    CallsD Tryd.prog 50 #[.pointer (some ⟨B, 0, none⟩), .pointer (some ⟨C, 0, none⟩)] (.panicking ({ v := .iface u pv, recovered := false } :: older)) w fun e u' w' =>
      e = .returned (.tuple #[]) ∧ u' = .panicking ({ v := .iface u pv, recovered := true } :: older) ∧ w' = (w.setCell ⟨B, 0, none⟩ (.slice none 0 0)).setCell ⟨C, 0, none⟩ (.int .i64 3) := by
  refine callsD_of_wpS Tryd.func50 rfl fun c₀ cs hu => ?_
  apply wpS_seq
  apply wpS_region
  simp [wpOpsS, go_sem, recoverD, hu, Tryd.ntmps50, Exit.thenS]
  refine wpS_cond (t := true) (by simp [Act.eval, Array.replicate]) ?_
  simp only [if_true]
  have c0 : w.cell? ⟨B, 0, none⟩ = some v := by rw [World.cell?, h1]; rfl
  have q0 : w.frozen? ⟨B, 0, none⟩ = false := by rw [World.frozen?, h1]; rfl
  have e0 : w.cell? ⟨C, 0, none⟩ = some (.int .i64 y) := by rw [World.cell?, h2]; rfl
  have e1 : w.frozen? ⟨C, 0, none⟩ = false := by rw [World.frozen?, h2]; rfl
  refine wpS_of_wp ?_
  go_wp2
  cases c₀
  simp_all [bodyPostS, results, Tryd.results50]
theorem pidle (B C : Nat) (w : World) : CallsD Tryd.prog 50 #[.pointer (some ⟨B, 0, none⟩), .pointer (some ⟨C, 0, none⟩)] .returning w fun e u' w' => e = .returned (.tuple #[]) ∧ u' = .returning ∧ w' = w := by
  refine callsD_of_wpS Tryd.func50 rfl fun c₀ cs hu => ?_
  apply wpS_seq
  apply wpS_region
  simp [wpOpsS, go_sem, recoverD, hu, Tryd.ntmps50, Exit.thenS]
  refine wpS_cond (t := false) (by simp [Act.eval, Array.replicate]) ?_
  simp only [Bool.false_eq_true, if_false]
  refine wpS_of_wp (wp_skip ?_)
  cases c₀
  simp_all [bodyPostS, results, Tryd.results50]
end Go.Proofs.YtngoipcjipbelaaDoor
