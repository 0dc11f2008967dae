/- The law PoolAgain: what Put does, as a function; its memory. -/
import Derived.Test.YtbicmnbmkaffeaaPQE
import Derived.Test.YtbicmnbmkaffeaaJN
import Derived.Laws.AppendOwnNone
namespace Go.Proofs.Ytbicmnbmkaffeaa
set_option linter.unusedVariables false
set_option linter.unusedSimpArgs false
open Go.ChangeShapes Go.WideShapes Go.Deep Go.RowKit

instance decLt : DecidableEq Lt := fun x y => decidable_of_iff _ sameL_iff
/-- What is in a pool after Put, and what it tells. -/
def putF (L : List Lt) (n : Nd) : List Lt × (Int × Int) :=
  if (ofL n).2 ≠ 0 then (L, (0, 1)) else if (ofL n).1 ∈ L then (L, ((L.idxOf (ofL n).1 : Nat), 0)) else if L.length = 64 then (L, (0, 2)) else (L ++ [(ofL n).1], ((L.length : Nat), 0))
structure GoodP (L : List Lt) : Prop where
  good : ∀ y ∈ L, GoodL y
  nodup : L.Nodup
  len : L.length ≤ 64
theorem goodP_nil : GoodP [] := ⟨by simp, by simp, by simp⟩
theorem putF_good {L : List Lt} (h : GoodP L) {n : Nd} (hn : GoodN n) : GoodP (putF L n).1 := by
  unfold putF
  split
  · exact h
  · split
    · exact h
    · split
      · exact h
      · rename_i h1 h2 h3
        refine ⟨fun y hy => ?_, List.nodup_append.2 ⟨h.nodup, by simp, fun a ha b hb => ?_⟩, by rw [List.length_append]; have := h.len; simp; omega⟩
        · rcases List.mem_append.1 hy with h4 | h4
          · exact h.good y h4
          · rw [List.mem_singleton.1 h4]; exact ofL_good hn
        · rw [List.mem_singleton.1 hb]
          intro e; subst e; exact h2 ha
theorem Put_fun {w : World} {base p : Nat} {L : List Lt} (h : PS w base p L) (hg : GoodP L) (n : Nd) (hn : GoodN n) : Calls Try.prog 13 #[.pointer (some ⟨p, 0, none⟩), ndV n] w (PutP base p (putF L n).1 (putF L n).2 w) := by
  unfold putF
  by_cases h0 : (ofL n).2 = 0
  · rw [if_neg (by rw [h0]; decide)]
    by_cases hm : (ofL n).1 ∈ L
    · rw [if_pos hm]
      exact Put_old h hg.good hg.nodup n hn h0 _ (by rw [List.getElem?_eq_getElem (List.idxOf_lt_length_iff.2 hm), List.getElem_idxOf])
    · rw [if_neg hm]
      by_cases hf : L.length = 64
      · rw [if_pos hf]
        exact Put_full h hg.good hg.nodup n hn h0 hm hf
      · rw [if_neg hf]
        exact Put_new h hg.good hg.nodup n hn h0 hm (by have := hg.len; omega)
  · rw [if_pos h0]
    have := Put_bad h n hn h0
    rwa [show (ofL n).2 = 1 from by rw [ofL_bad h0]] at this
theorem putF_b {L : List Lt} (h : GoodP L) (n : Nd) : 0 ≤ (putF L n).2.1 ∧ (putF L n).2.1 ≤ 64 ∧ 0 ≤ (putF L n).2.2 ∧ (putF L n).2.2 ≤ 2 := by
  unfold putF
  have := h.len
  split
  · simp
  · split
    · rename_i hm
      have := List.idxOf_lt_length_iff.2 hm
      simp only []; omega
    · split
      · simp
      · simp only []; omega
/-- The pool, and what was told, after so many needs. -/
def runP (l : List Nd) : Nat → List Lt × List Int
  | 0 => ([], [])
  | k + 1 => match l[k]? with
    | none => runP l k
    | some n => ((putF (runP l k).1 n).1, (runP l k).2 ++ [if (putF (runP l k).1 n).2.2 = 0 then (putF (runP l k).1 n).2.1 else -1])
theorem runP_succ {l : List Nd} {k : Nat} (h : k < l.length) : runP l (k + 1) = ((putF (runP l k).1 l[k]).1, (runP l k).2 ++ [if (putF (runP l k).1 l[k]).2.2 = 0 then (putF (runP l k).1 l[k]).2.1 else -1]) := by
  rw [runP, List.getElem?_eq_getElem h]
theorem runP_good {l : List Nd} (hg : ∀ n ∈ l, GoodN n) (k : Nat) (h : k ≤ l.length) : GoodP (runP l k).1 ∧ (runP l k).2.length = k := by
  induction k with
  | zero => exact ⟨goodP_nil, rfl⟩
  | succ k ih =>
    obtain ⟨h1, h2⟩ := ih (by omega)
    rw [runP_succ (by omega)]
    exact ⟨putF_good h1 (hg _ (List.getElem_mem _)), by rw [List.length_append, h2]; rfl⟩
theorem runP_at {l : List Nd} (k i : Nat) (h : k ≤ l.length) (hi : i < k) (hil : i < l.length) (hg : ∀ n ∈ l, GoodN n) : (runP l k).2[i]? = some (if (putF (runP l i).1 l[i]).2.2 = 0 then (putF (runP l i).1 l[i]).2.1 else -1) := by
  induction k with
  | zero => omega
  | succ k ih =>
    have hl := (runP_good hg k (by omega)).2
    rw [runP_succ (by omega)]
    by_cases e : i = k
    · subst e
      rw [List.getElem?_append_right (by omega), hl, Nat.sub_self]; rfl
    · rw [List.getElem?_append_left (by omega)]
      exact ih (by omega) (by omega)
/-- A pool stays where a row of another type grows. -/
theorem PS.other {w w' : World} {base p : Nat} {l : List Lt} (h : PS w base p l) (hk : ∀ (k : Nat) (o : Obj), w.heap[k]? = some o → (∀ cs fr, o ≠ .cells cs 3 fr) → w'.heap[k]? = some o) : PS w' base p l := by
  obtain ⟨lv, mv, h1, h2, h3, h4⟩ := h
  refine ⟨lv, mv, hk p _ h1 (by intro cs fr e; injection e with _ e _; cases e), h2, ?_, ?_⟩
  · obtain ⟨k1, k2⟩ := h3
    refine ⟨k1, ?_⟩
    rcases k2 with k2 | ⟨g, cap, cur, e1, e2, e3, e4⟩
    · exact .inl k2
    · exact .inr ⟨g, cap, cur, e1, e2, hk g _ e3 (by intro cs fr e; injection e with _ e _; cases e), e4⟩
  · rcases h4 with h4 | ⟨b, e1, e2, es, c, e3, e4⟩
    · exact .inl h4
    · exact .inr ⟨b, e1, e2, es, c, hk b _ e3 (by intro cs fr e; cases e), e4⟩
end Go.Proofs.Ytbicmnbmkaffeaa
