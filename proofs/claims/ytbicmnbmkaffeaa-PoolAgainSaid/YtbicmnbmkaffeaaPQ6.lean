/- pool: Of, Size, take. -/
import Derived.Test.YtbicmnbmkaffeaaPQ5
import Derived.Lib.Strings
namespace Go.Proofs.Ytbicmnbmkaffeaa
set_option linter.unusedVariables false
set_option linter.unusedSimpArgs false
open Go.ChangeShapes Go.WideShapes Go.Deep Go.RowKit

structure Nd where
  kind : Int
  sym : ByteArray
  add : Int
  minus : Bool
  v : Int
abbrev ndV (n : Nd) : Value := .agg #[.int .i64 n.kind, .string n.sym, .int .i64 n.add, .bool n.minus, .int .u64 n.v]
structure GoodN (n : Nd) : Prop where
  kind : -9223372036854775808 ≤ n.kind ∧ n.kind ≤ 9223372036854775807
  sym : n.sym.size ≤ maxLen
  add : -9223372036854775808 ≤ n.add ∧ n.add ≤ 9223372036854775807
  v : 0 ≤ n.v ∧ n.v < 18446744073709551616
abbrev lz : Lt := ⟨⟨#[]⟩, 0, 0⟩
def ofL (n : Nd) : Lt × Int :=
  if n.kind ≠ 10 ∨ (n.sym ≠ ⟨#[]⟩ ∧ (n.v ≠ 0 ∨ n.minus = true)) then (lz, 1)
  else if n.sym ≠ ⟨#[]⟩ then (⟨n.sym, n.add, 0⟩, 0)
  else if n.minus = true then (⟨⟨#[]⟩, 0, (-n.v) % 18446744073709551616⟩, 0) else (⟨⟨#[]⟩, 0, n.v⟩, 0)
abbrev outL (p : Lt × Int) : Value := .tuple #[litV p.1, .int .i64 p.2]
theorem good_lz : GoodL lz := ⟨by decide, by decide, by decide⟩
theorem ofL_good {n : Nd} (h : GoodN n) : GoodL (ofL n).1 := by
  unfold ofL
  split
  · exact good_lz
  · split
    · exact ⟨h.sym, h.add, by simp⟩
    · split
      · exact ⟨by simp only []; decide, by simp, by simp only []; omega⟩
      · exact ⟨by simp only []; decide, by simp, h.v⟩
set_option maxRecDepth 100000 in
set_option maxHeartbeats 4000000 in
theorem Of_any (n : Nd) (w : World) (h : GoodN n) : Calls Try.prog 14 #[ndV n] w (RetB (outL (ofL n)) w) := by
  obtain ⟨k, s, d, m, v⟩ := n
  have hvb : 0 ≤ v ∧ v < 18446744073709551616 := h.v
  clear h
  by_cases hk : k = 10
  · subst hk
    by_cases hs : s = ⟨#[]⟩
    · subst hs
      cases m
      · have HE : Hid (ofL ⟨10, ⟨#[]⟩, d, false, v⟩ = (⟨⟨#[]⟩, 0, v⟩, 0)) := Lib.hid (by simp [ofL])
        go_enter Try.func14, Try.ntmps14
        go_wp2
        refine bodyPost_ret (v := outL (ofL ⟨10, ⟨#[]⟩, d, false, v⟩)) (by rw [HE.out]; simp [results, Try.results14, go_sem]) rfl ⟨rfl, ?_⟩
        exact ((Below.refl _ _).alloc (Nat.le_refl _) _).alloc (by simp) _
      · have HE : Hid (ofL ⟨10, ⟨#[]⟩, d, true, v⟩ = (⟨⟨#[]⟩, 0, IntKind.u64.wrap (-v)⟩, 0)) := Lib.hid (by simp [ofL, IntKind.wrap_u64])
        go_enter Try.func14, Try.ntmps14
        go_wp2
        refine bodyPost_ret (v := outL (ofL ⟨10, ⟨#[]⟩, d, true, v⟩)) (by rw [HE.out]; simp [results, Try.results14, go_sem]) rfl ⟨rfl, ?_⟩
        exact ((Below.refl _ _).alloc (Nat.le_refl _) _).alloc (by simp) _
    · have hl : s.toList.isEmpty = false := by
        rw [Lib.toList_data]; refine List.isEmpty_eq_false_iff.2 fun e => hs ?_
        cases s; congr 1; exact Array.toList_inj.1 e
      by_cases hv : v = 0
      · subst hv
        cases m
        · have HE : Hid (ofL ⟨10, s, d, false, 0⟩ = (⟨s, d, 0⟩, 0)) := Lib.hid (by simp [ofL, hs])
          clear hs
          go_enter Try.func14, Try.ntmps14
          go_wp2
          refine bodyPost_ret (v := outL (ofL ⟨10, s, d, false, 0⟩)) (by rw [HE.out]; simp [results, Try.results14, go_sem]) rfl ⟨rfl, ?_⟩
          exact ((Below.refl _ _).alloc (Nat.le_refl _) _).alloc (by simp) _
        · have HE : Hid (ofL ⟨10, s, d, true, 0⟩ = (lz, 1)) := Lib.hid (by simp [ofL, hs])
          clear hs
          go_enter Try.func14, Try.ntmps14
          go_wp2
          refine bodyPost_ret (v := outL (ofL ⟨10, s, d, true, 0⟩)) (by rw [HE.out]; simp [results, Try.results14, go_sem]) rfl ⟨rfl, ?_⟩
          exact ((Below.refl _ _).alloc (Nat.le_refl _) _).alloc (by simp) _
      · have HE : Hid (ofL ⟨10, s, d, m, v⟩ = (lz, 1)) := Lib.hid (by simp [ofL, hs, hv])
        have q : (v == 0) = false := by rw [beq_eq_false_iff_ne]; exact hv
        have q2 : (v != 0) = true := by rw [bne_iff_ne]; exact hv
        have q3 : 1 ≤ v := by omega
        have q4 : ¬ v = 0 := hv
        clear hs hv
        go_enter Try.func14, Try.ntmps14
        go_wp2
        refine bodyPost_ret (v := outL (ofL ⟨10, s, d, m, v⟩)) (by rw [HE.out]; simp [results, Try.results14, go_sem]) rfl ⟨rfl, ?_⟩
        exact ((Below.refl _ _).alloc (Nat.le_refl _) _).alloc (by simp) _
  · have HE : Hid (ofL ⟨k, s, d, m, v⟩ = (lz, 1)) := Lib.hid (by simp [ofL, hk])
    have q : (k == 10) = false := by rw [beq_eq_false_iff_ne]; exact hk
    have q2 : (k != 10) = true := by rw [bne_iff_ne]; exact hk
    go_enter Try.func14, Try.ntmps14
    go_wp2
    refine bodyPost_ret (v := outL (ofL ⟨k, s, d, m, v⟩)) (by rw [HE.out]; simp [results, Try.results14, go_sem]) rfl ⟨rfl, ?_⟩
    exact ((Below.refl _ _).alloc (Nat.le_refl _) _).alloc (by simp) _
end Go.Proofs.Ytbicmnbmkaffeaa
