/- An object as an argument; names of a right object, plain. -/
import Derived.Test.YtkdhomofagjcmaaGreatDoorkST
namespace Go.Proofs.YtkdhomofagjcmaaGreatDoor
set_option linter.unusedVariables false
set_option linter.unusedSimpArgs false
open Go.ChangeShapes Go.WideShapes Go.Deep Go.RowKit

theorem two_cells {cs : Array Value} {c0 c1 : Value} (hs : cs.size = 2) (h0 : cs[0]? = some c0) (h1 : cs[1]? = some c1) : cs = #[c0, c1] := by
  refine Array.ext_getElem? fun j => ?_
  match j with
  | 0 => exact h0 | 1 => exact h1
  | j + 2 => rw [Array.getElem?_eq_none (by omega), Array.getElem?_eq_none (by simp)]
set_option maxRecDepth 10000 in
theorem open_Obj {H : Type} {encH : TypeId × Value → H} {W : World} {base : Nat} {v : Value} {d : DataW H} {p : List MemPlace}
    (hv : Value.okWide Tryz.prog W .any base 25 v) (h : DataW.Trod encH Tryz.prog W 0 (fun _ => true) true 25 v d p) :
    ∃ (a : Option Addr) (n c : Nat) (L : List Ms) (a2 : Option Addr) (n2 c2 : Nat) (l : List Sy), v = .agg #[.slice a n c, .slice a2 n2 c2] ∧ n ≤ maxLen ∧ n2 ≤ maxLen ∧ SL msC 6 W W.heap.size a n L ∧ Notes W W.heap.size L ∧ (∀ m ∈ L, GoodSc m.sc) ∧ SL syC 4 W W.heap.size a2 n2 l ∧ (∀ s ∈ l, GoodSy s) := by
  obtain ⟨cs, m, rfl, hs, hf⟩ := open_cells Tryz.underlying25 (by kernel_rfl) (by kernel_rfl) hv h
  obtain ⟨v0, y0, c0, t0⟩ := hf 0 _ rfl
  obtain ⟨v1, y1, c1, t1⟩ := hf 1 _ rfl
  obtain ⟨a, n, c, L, rfl, h2, h3, h4, h5, h6, -⟩ := open_SL3 (sz := 6) (enc := msC) (fun m : Ms => GoodSc m.sc ∧ SL rlC 4 W W.heap.size m.ad m.sc.rels.length m.sc.rels) ⟨scZ, none, 0⟩ Tryz.underlying22 Tryz.underlying83 (by kernel_rfl) (by kernel_rfl) rfl (by decide) ms_len (by
    intro cell m hc
    obtain ⟨u0, z0, g0, s0⟩ := hc 0 _ rfl
    obtain ⟨u1, z1, g1, s1⟩ := hc 1 _ rfl
    obtain ⟨u2, z2, g2, s2⟩ := hc 2 _ rfl
    obtain ⟨u3, z3, g3, s3⟩ := hc 3 _ rfl
    obtain ⟨u4, z4, g4, s4⟩ := hc 4 _ rfl
    obtain ⟨u5, z5, g5, s5⟩ := hc 5 _ rfl
    obtain ⟨x0, e0, -, w0⟩ := DataW.trod_string Tryz.underlying9 s0
    obtain ⟨x1, e1, -, w1⟩ := DataW.trod_int Tryz.underlying3 s1
    obtain ⟨x2, e2, -⟩ := DataW.trod_bool Tryz.underlying4 s2
    obtain ⟨x3, e3, -, w3⟩ := DataW.trod_int Tryz.underlying3 s3
    obtain ⟨x4, e4, -, w4⟩ := DataW.trod_string Tryz.underlying9 s4
    simp only [List.cons.injEq, and_true] at e0 e1 e2 e3 e4
    subst e0 e1 e2 e3 e4
    obtain ⟨ra, rn, rc, rl, rfl, r2, r3, r4, r5, r6, -⟩ := open_SL3 (sz := 4) (enc := rlC) GoodRl ⟨0, 0, 0, 0⟩ Tryz.underlying81 Tryz.underlying102 (by kernel_rfl) (by kernel_rfl) rfl (by decide) rl_len (by
      intro cell m hc
      obtain ⟨u0, z0, g0, s0⟩ := hc 0 _ rfl
      obtain ⟨u1, z1, g1, s1⟩ := hc 1 _ rfl
      obtain ⟨u2, z2, g2, s2⟩ := hc 2 _ rfl
      obtain ⟨u3, z3, g3, s3⟩ := hc 3 _ rfl
      obtain ⟨k0, e0, -, w0⟩ := DataW.trod_int Tryz.underlying3 s0
      obtain ⟨k1, e1, -, w1⟩ := DataW.trod_int Tryz.underlying3 s1
      obtain ⟨k2, e2, -, w2⟩ := DataW.trod_int Tryz.underlying3 s2
      obtain ⟨k3, e3, -, w3⟩ := DataW.trod_int Tryz.underlying3 s3
      simp only [List.cons.injEq, and_true] at e0 e1 e2 e3
      subst e0 e1 e2 e3
      refine ⟨⟨k0, k1, k2, k3⟩, ⟨bounds_i64 w0, bounds_i64 w1, bounds_i64 w2, bounds_i64 w3⟩, fun j hj => ?_⟩
      match j, hj with
      | 0, _ => exact g0
      | 1, _ => exact g1
      | 2, _ => exact g2
      | 3, _ => rw [show (rlC ⟨k0, k1, k2, k3⟩)[3]? = some (.int .i64 k3) from rfl]; exact g3) s5
    have hrl := r4.len
    subst hrl
    refine ⟨⟨⟨x0.data.toList, x1, x2, x3, x4.data.toList, rl⟩, ra, rc⟩, ⟨⟨?_, bounds_i64 w1, bounds_i64 w3, ?_, r3⟩, r4⟩, fun j hj => ?_⟩
    · show x0.data.toList.length ≤ maxLen
      rw [Array.length_toList]; exact w0
    · show x4.data.toList.length ≤ maxLen
      rw [Array.length_toList]; exact w4
    match j, hj with
    | 0, _ => exact g0
    | 1, _ => exact g1
    | 2, _ => exact g2
    | 3, _ => exact g3
    | 4, _ => exact g4
    | 5, _ => exact g5) t0
  obtain ⟨a2, n2, c2, l, rfl, k2, k3, k4, k5, k6, -⟩ := open_SL3 (sz := 4) (enc := syC) GoodSy ⟨[], 0, 0, 0⟩ Tryz.underlying23 Tryz.underlying56 (by kernel_rfl) (by kernel_rfl) rfl (by decide) sy_len (by
    intro cell m hc
    obtain ⟨u0, z0, g0, s0⟩ := hc 0 _ rfl
    obtain ⟨u1, z1, g1, s1⟩ := hc 1 _ rfl
    obtain ⟨u2, z2, g2, s2⟩ := hc 2 _ rfl
    obtain ⟨u3, z3, g3, s3⟩ := hc 3 _ rfl
    obtain ⟨x0, e0, -, w0⟩ := DataW.trod_string Tryz.underlying9 s0
    obtain ⟨x1, e1, -, w1⟩ := DataW.trod_int Tryz.underlying3 s1
    obtain ⟨x2, e2, -, w2⟩ := DataW.trod_int Tryz.underlying3 s2
    obtain ⟨x3, e3, -, w3⟩ := DataW.trod_int Tryz.underlying3 s3
    simp only [List.cons.injEq, and_true] at e0 e1 e2 e3
    subst e0 e1 e2 e3
    refine ⟨⟨x0.data.toList, x1, x2, x3⟩, ⟨?_, bounds_i64 w1, bounds_i64 w2, bounds_i64 w3⟩, fun j hj => ?_⟩
    · show x0.data.toList.length ≤ maxLen
      rw [Array.length_toList]; exact w0
    match j, hj with
    | 0, _ => exact g0
    | 1, _ => exact g1
    | 2, _ => exact g2
    | 3, _ => exact g3) t1
  exact ⟨a, n, c, L, a2, n2, c2, l, by rw [two_cells hs c0 c1], h2, k2, h4, fun m hm => (h3 m hm).2, fun m hm => (h3 m hm).1, k4, k3⟩

/-- A name that is found stands there. -/
theorem findR_some {nm : List UInt8} : ∀ {l : List Sy} {k j : Nat}, findR nm k l = some j → k ≤ j ∧ ∃ h : j - k < l.length, l[j - k].name = nm
  | [], k, j, h => by cases h
  | s :: t, k, j, h => by
    unfold findR at h
    split at h
    · rename_i e
      cases h
      refine ⟨Nat.le_refl _, by simp, ?_⟩
      simpa using e
    · obtain ⟨h1, h2, h3⟩ := findR_some h
      refine ⟨by omega, by simp only [List.length_cons]; omega, ?_⟩
      have e : j - k = (j - (k + 1)) + 1 := by omega
      simp only [e, List.getElem_cons_succ]
      exact h3
theorem findR_none {nm : List UInt8} : ∀ {l : List Sy} {k : Nat}, findR nm k l = none → ∀ s ∈ l, s.name ≠ nm
  | [], _, _, s, hs => by cases hs
  | q :: t, k, h, s, hs => by
    unfold findR at h
    split at h
    · cases h
    · rename_i e
      rcases List.mem_cons.1 hs with rfl | hs
      · exact e
      · exact findR_none h s hs
theorem findR_first {l : List Sy} : ∀ {k i : Nat} (h : i < l.length), (∀ j (hj : j < l.length), j < i → l[j].name ≠ l[i].name) → findR l[i].name k l = some (k + i) := by
  induction l with
  | nil => intro k i h; simp at h
  | cons s t ih =>
    intro k i h hd
    unfold findR
    cases i with
    | zero => simp
    | succ i =>
      have h0 := hd 0 (by simp) (by omega)
      simp only [List.getElem_cons_zero, List.getElem_cons_succ] at h0
      simp only [List.getElem_cons_succ]
      rw [if_neg h0, ih (k := k + 1) (i := i) (by simpa using h) (fun j hj hji => by
        have := hd (j + 1) (by simpa using hj) (by omega)
        simpa using this)]
      congr 1; omega
/-- Names that are some are not two times there. -/
theorem syms_names {secs : List Sc} : ∀ {l : List Sy} {seen : List (List UInt8)}, symsR secs seen l = true → (∀ s ∈ l, s.name ≠ [] → s.name ∉ seen) ∧ ∀ i j (hi : i < l.length) (hj : j < l.length), j < i → l[i].name ≠ [] → l[j].name ≠ l[i].name
  | [], _, _ => ⟨fun s hs => (by cases hs), fun i j hi => (by simp at hi)⟩
  | q :: t, seen, h => by
    unfold symsR at h
    split at h
    · cases h
    · split at h
      · rename_i e
        obtain ⟨h1, h2⟩ := syms_names h
        refine ⟨fun s hs hne => ?_, fun i j hi hj hji hne => ?_⟩
        · rcases List.mem_cons.1 hs with rfl | hs
          · exact absurd e.1 hne
          · exact h1 s hs hne
        · cases i with
          | zero => omega
          | succ i =>
            cases j with
            | zero =>
              simp only [List.getElem_cons_zero, List.getElem_cons_succ] at hne ⊢
              rw [e.1]; exact fun x => hne x.symm
            | succ j =>
              simp only [List.getElem_cons_succ] at hne ⊢
              exact h2 i j (by simpa using hi) (by simpa using hj) (by omega) hne
      · split at h
        · cases h
        · rename_i c
          have c1 : q.name ∉ seen := fun x => c (.inl x)
          obtain ⟨h1, h2⟩ := syms_names h
          refine ⟨fun s hs hne => ?_, fun i j hi hj hji hne => ?_⟩
          · rcases List.mem_cons.1 hs with rfl | hs
            · exact c1
            · exact fun x => h1 s hs hne (List.mem_append_left _ x)
          · cases i with
            | zero => omega
            | succ i =>
              cases j with
              | zero =>
                simp only [List.getElem_cons_zero, List.getElem_cons_succ] at hne ⊢
                have hit : i < t.length := by simpa using hi
                have := h1 t[i] (List.getElem_mem hit) hne
                exact fun x => this (by rw [← x]; simp)
              | succ j =>
                simp only [List.getElem_cons_succ] at hne ⊢
                exact h2 i j (by simpa using hi) (by simpa using hj) (by omega) hne
theorem find_own {o : Ob} (h : isO o = true) {i : Nat} (hi : i < o.syms.length) (hne : o.syms[i].name ≠ []) : findL o o.syms[i].name = (((i : Nat) : Int), true) := by
  have hs : symsR o.secs [] o.syms = true := by
    unfold isO symsL at h
    simp only [Bool.and_eq_true] at h
    exact h.2.2
  unfold findL
  rw [if_neg (by rintro (x | x); exact hne x; rw [h] at x; cases x), findR_first hi (fun j hj hji => (syms_names hs).2 i j hi hj hji hne)]
  simp
end Go.Proofs.YtkdhomofagjcmaaGreatDoor
