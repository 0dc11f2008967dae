/- obj, plain: the bytes of an object. -/
import Derived.Test.YtkdhomofagjcmaaGreatDoorkSF
import Derived.Test.YtkdhomofagjcmaaGreatDoorkXE
namespace Go.Proofs.YtkdhomofagjcmaaGreatDoor
set_option linter.unusedVariables false
set_option linter.unusedSimpArgs false
open Go.ChangeShapes Go.WideShapes Go.Deep Go.RowKit
open Go.Proofs.YtkdhomofagjcmaaGreatDoor.Wi (putL putL_len putB putB_size putB_list Put_at textB PutText_any PutInt_any zig zig_lt)

def txtL (d : List UInt8) : List UInt8 := putL d.length ++ d
def relB (r : Rl) : List UInt8 := putL r.pos.toNat ++ putL r.kind.toNat ++ putL r.sym.toNat ++ putL (zig r.add)
def keepI (k : Bool) : Nat := if k then 1 else 0
def secB (s : Sc) : List UInt8 := txtL s.name ++ putL s.kind.toNat ++ putL (keepI s.keep) ++ putL s.align.toNat ++ txtL s.data ++ putL s.rels.length ++ s.rels.flatMap relB
def symB (s : Sy) : List UInt8 := txtL s.name ++ putL s.bind.toNat ++ putL (s.sec + 1).toNat ++ putL s.off.toNat
def putO (o : Ob) : List UInt8 := [67, 76, 69, 65, 84, 1] ++ putL o.secs.length ++ o.secs.flatMap secB ++ putL o.syms.length ++ o.syms.flatMap symB
def putR (o : Ob) : List UInt8 × Int := if isO o = true then (putO o, 0) else ([], 1)
theorem nm_len {l : List UInt8} (h : isNmL l = true) : l.length ≤ 31 := by
  unfold isNmL at h
  simp only [Bool.and_eq_true] at h
  have h1 := h.1.1
  cases l with
  | nil => simp
  | cons b t =>
    unfold isWordL at h1
    simp only [Bool.and_eq_true, decide_eq_true_eq] at h1
    exact h1.1.1
theorem fit_range {k : Int} {i : In} (h : fitsI k i = true) : 0 ≤ k ∧ k ≤ 9 := by
  unfold fitsI at h
  simp only [Bool.and_eq_true] at h
  have h1 := h.2
  unfold fitK at h1
  split at h1
  · simp at h1
  · omega
structure RelOk (r : Rl) (d : Nat) : Prop where
  p0 : 0 ≤ r.pos
  p1 : r.pos ≤ d
  k0 : 0 ≤ r.kind
  k1 : r.kind ≤ 9
  s0 : 0 ≤ r.sym
theorem rels_ok {kind : Int} {d : List UInt8} : ∀ {l : List Rl} {e : Int}, 0 ≤ e → relsR kind d e l = true → ∀ r ∈ l, RelOk r d.length
  | [], _, _, _, r, hr => by cases hr
  | q :: t, e, h0, h, r, hr => by
    unfold relsR at h
    by_cases c : badR kind d e q
    · rw [if_pos c] at h; cases h
    · rw [if_neg c] at h
      have c1 : ¬ q.pos < e := fun hh => c (.inl hh)
      have c2 : ¬ (d.length : Int) - szR q.kind < q.pos := fun hh => c (.inr (.inl hh))
      have c3 : ¬ q.sym < 0 := fun hh => c (.inr (.inr (.inl hh)))
      have c4 : covR kind d q = true := by
        cases hh : covR kind d q
        · exact absurd (.inr (.inr (.inr hh))) c
        · rfl
      have hs := szR_two q.kind
      have hk : 0 ≤ q.kind ∧ q.kind ≤ 9 := by
        unfold covR at c4
        split at c4
        · rename_i h1; omega
        · simp only [Bool.and_eq_true] at c4
          exact fit_range c4.2.2
      rcases List.mem_cons.1 hr with rfl | hr
      · exact ⟨by omega, by omega, hk.1, hk.2, by omega⟩
      · exact rels_ok (by omega) h r hr
structure SecOk (s : Sc) : Prop where
  name : s.name.length ≤ 31
  k0 : 0 ≤ s.kind
  k1 : s.kind ≤ 3
  a0 : 0 ≤ s.align
  a1 : s.align ≤ 12
  data : s.data.length ≤ 4096
  rels : s.rels.length ≤ 64
  all : ∀ r ∈ s.rels, RelOk r s.data.length
theorem sec_ok {s : Sc} (h : secR s = true) : SecOk s := by
  obtain ⟨hh, hr⟩ := sec_iff.1 h
  obtain ⟨h1, h2, h3, h4, h5, h6, h7⟩ := head_iff.1 hh
  exact ⟨nm_len h1, by omega, h3, h4, h5, h6, h7, rels_ok (by omega) hr⟩
theorem secsR_ok {k : Int} : ∀ {l : List Sc} {seen : List (List UInt8)}, secsR k seen l = true → ∀ s ∈ l, SecOk s
  | [], _, _, s, hs => by cases hs
  | q :: t, seen, h, s, hs => by
    unfold secsR at h
    split at h
    · cases h
    · rename_i c
      split at h
      · cases h
      · rcases List.mem_cons.1 hs with rfl | hs
        · refine sec_ok ?_
          cases hh : secR s
          · exact absurd (.inr hh) c
          · rfl
        · exact secsR_ok h s hs
structure SymOk (s : Sy) : Prop where
  name : s.name.length ≤ 31
  b0 : 0 ≤ s.bind
  b1 : s.bind ≤ 3
  s0 : -1 ≤ s.sec
  s1 : s.sec ≤ 100
  o0 : 0 ≤ s.off
  o1 : s.off ≤ 4096
theorem stands_ok {s : Sy} {secs : List Sc} (hn : secs.length ≤ 32) (hd : ∀ t ∈ secs, t.data.length ≤ 4096) (h : standsL s secs = true) : 0 ≤ s.bind ∧ s.bind ≤ 3 ∧ -1 ≤ s.sec ∧ s.sec ≤ 100 ∧ 0 ≤ s.off ∧ s.off ≤ 4096 := by
  unfold standsL at h
  split at h
  · cases h
  · rename_i c
    have c1 : ¬ s.bind < 1 := fun hh => c (.inl hh)
    have c2 : ¬ 3 < s.bind := fun hh => c (.inr hh)
    split at h
    · rename_i e
      simp only [Bool.and_eq_true, decide_eq_true_eq] at h
      omega
    · simp only [Bool.and_eq_true, decide_eq_true_eq] at h
      obtain ⟨⟨⟨h1, h2⟩, h3⟩, h4⟩ := h
      cases hg : secs[s.sec.toNat]? with
      | none => rw [hg] at h4; cases h4
      | some t =>
        rw [hg] at h4
        simp only [decide_eq_true_eq] at h4
        have := hd t (List.mem_of_getElem? hg)
        omega
theorem symsR_ok {secs : List Sc} (hn : secs.length ≤ 32) (hd : ∀ t ∈ secs, t.data.length ≤ 4096) : ∀ {l : List Sy} {seen : List (List UInt8)}, symsR secs seen l = true → ∀ s ∈ l, SymOk s
  | [], _, _, s, hs => by cases hs
  | q :: t, seen, h, s, hs => by
    unfold symsR at h
    split at h
    · cases h
    · rename_i c
      have hst : standsL q secs = true := by
        cases hh : standsL q secs
        · exact absurd hh c
        · rfl
      obtain ⟨g1, g2, g3, g4, g5, g6⟩ := stands_ok hn hd hst
      split at h
      · rename_i e
        rcases List.mem_cons.1 hs with rfl | hs
        · exact ⟨by rw [e.1]; simp, g1, g2, g3, g4, g5, g6⟩
        · exact symsR_ok hn hd h s hs
      · split at h
        · cases h
        · rename_i c2
          rcases List.mem_cons.1 hs with rfl | hs
          · refine ⟨nm_len ?_, g1, g2, g3, g4, g5, g6⟩
            cases hh : isNmL s.name
            · exact absurd (.inr hh) c2
            · rfl
          · exact symsR_ok hn hd h s hs
theorem is_ok {o : Ob} (h : isO o = true) : o.secs.length ≤ 32 ∧ o.syms.length ≤ 128 ∧ (∀ s ∈ o.secs, SecOk s) ∧ ∀ s ∈ o.syms, SymOk s := by
  unfold isO secsL symsL at h
  simp only [Bool.and_eq_true, decide_eq_true_eq] at h
  obtain ⟨⟨h1, h2⟩, h3, h4⟩ := h
  have hs := secsR_ok h2
  exact ⟨h1, h3, hs, symsR_ok h1 (fun t ht => (hs t ht).data) h4⟩
theorem putL_le {v : Nat} (h : v < 18446744073709551616) : (putL v).length ≤ 10 := (putL_len h).2.1
theorem relB_len {r : Rl} {d : Nat} (h : RelOk r d) (hd : d ≤ 4096) (ha : i64ok r.add) (hs : i64ok r.sym) : (relB r).length ≤ 40 := by
  unfold relB
  have h1 := putL_le (v := r.pos.toNat) (by have := h.p0; have := h.p1; omega)
  have h2 := putL_le (v := r.kind.toNat) (by have := h.k0; have := h.k1; omega)
  have h3 := putL_le (v := r.sym.toNat) (by have := h.s0; have := hs.2; omega)
  have h4 := putL_le (v := zig r.add) (zig_lt ha.1 ha.2)
  simp only [List.length_append]; omega
theorem flat_le {α : Type} {f : α → List UInt8} {m : Nat} : ∀ {l : List α}, (∀ x ∈ l, (f x).length ≤ m) → (l.flatMap f).length ≤ l.length * m
  | [], _ => by simp
  | x :: t, h => by
    rw [List.flatMap_cons, List.length_append, List.length_cons, Nat.succ_mul]
    have h1 := h x (List.mem_cons_self ..)
    have h2 := flat_le (l := t) fun y hy => h y (List.mem_cons_of_mem _ hy)
    omega
end Go.Proofs.YtkdhomofagjcmaaGreatDoor
