/- part, plain: what a right section is, and how it grows. part, plain: what grows is right. part: a section in a block; New. part: a section as an argument. part: covers. part: Is. -/
import Derived.Test.YtdgfadabaejkhaaGreatDoorkH6
import Derived.Test.YtdgfadabaejkhaaGreatDoorkHB
import Derived.Test.YtdgfadabaejkhaaGreatDoorkYA
import Derived.Deep.RegionHeld3
import Derived.BigQuiet
namespace Go.Proofs.YtdgfadabaejkhaaGreatDoor
set_option linter.unusedVariables false
set_option linter.unusedSimpArgs false
open Go.RowKit
open Go.ChangeShapes Go.WideShapes Go.Deep Go.RowKit

structure Rl where
  pos : Int
  kind : Int
  sym : Int
  add : Int
def rlC (r : Rl) : List Value := [.int .i64 r.pos, .int .i64 r.kind, .int .i64 r.sym, .int .i64 r.add]
theorem rl_len (r : Rl) : (rlC r).length = 4 := rfl
theorem rl_one (r : Rl) : ∀ u ∈ rlC r, u.oneCell' = true := by
  intro u hu
  simp only [rlC, List.mem_cons, List.mem_nil_iff, or_false] at hu
  rcases hu with rfl | rfl | rfl | rfl <;> rfl
def GoodRl (r : Rl) : Prop := i64ok r.pos ∧ i64ok r.kind ∧ i64ok r.sym ∧ i64ok r.add
structure Sc where
  name : List UInt8
  kind : Int
  keep : Bool
  align : Int
  data : List UInt8
  rels : List Rl
structure GoodSc (s : Sc) : Prop where
  name : s.name.length ≤ maxLen
  kind : i64ok s.kind
  align : i64ok s.align
  data : s.data.length ≤ maxLen
  rels : ∀ r ∈ s.rels, GoodRl r
abbrev scZ : Sc := ⟨[], 0, false, 0, [], []⟩
abbrev scV (s : Sc) (a : Option Addr) (n c : Nat) : Value := .agg #[.string ⟨s.name.toArray⟩, .int .i64 s.kind, .bool s.keep, .int .i64 s.align, .string ⟨s.data.toArray⟩, .slice a n c]
def szR (k : Int) : Int := if k = 1 then 8 else 4
theorem szR_two (k : Int) : szR k = 8 ∧ k = 1 ∨ szR k = 4 ∧ k ≠ 1 := by
  unfold szR
  by_cases h : k = 1
  · exact .inl ⟨if_pos h, h⟩
  · exact .inr ⟨if_neg h, h⟩
abbrev nulB (n : Nat) : List UInt8 := List.replicate n 0
def covR (kind : Int) (d : List UInt8) (r : Rl) : Bool :=
  if r.kind = 1 then (d.drop r.pos.toNat).take 8 == nulB 8 else kind == 1 && (r.pos % 4 == 0 && fitsI r.kind (readW (leV ((d.drop r.pos.toNat).take 4))))
def badR (kind : Int) (d : List UInt8) (e : Int) (r : Rl) : Prop := r.pos < e ∨ (d.length : Int) - szR r.kind < r.pos ∨ r.sym < 0 ∨ covR kind d r = false
instance (kind : Int) (d : List UInt8) (e : Int) (r : Rl) : Decidable (badR kind d e r) := by unfold badR; infer_instance
def relsR (kind : Int) (d : List UInt8) : Int → List Rl → Bool
  | _, [] => true
  | e, r :: t => if badR kind d e r then false else relsR kind d (r.pos + szR r.kind) t
def headR (s : Sc) : Bool := isNmL s.name && decide (1 ≤ s.kind) && decide (s.kind ≤ 3) && decide (0 ≤ s.align) && decide (s.align ≤ 12) && decide (s.data.length ≤ 4096) && decide (s.rels.length ≤ 64)
def secR (s : Sc) : Bool := headR s && relsR s.kind s.data 0 s.rels
/-- Where the last of some relocations ends. -/
def endR : Int → List Rl → Int
  | e, [] => e
  | _, r :: t => endR (r.pos + szR r.kind) t
theorem slice_app {d x : List UInt8} {i n : Nat} (h : i + n ≤ d.length) : ((d ++ x).drop i).take n = (d.drop i).take n := by
  rw [List.drop_append_of_le_length (by omega), List.take_append_of_le_length (by rw [List.length_drop]; omega)]
theorem cov_app {kind : Int} {d x : List UInt8} {r : Rl} (h0 : 0 ≤ r.pos) (h1 : r.pos ≤ (d.length : Int) - szR r.kind) : covR kind (d ++ x) r = covR kind d r := by
  unfold covR
  rcases szR_two r.kind with ⟨e, hk⟩ | ⟨e, hk⟩
  · rw [if_pos hk, if_pos hk, slice_app (by omega)]
  · rw [if_neg hk, if_neg hk, slice_app (by omega)]
/-- More bytes turn nothing. -/
theorem rels_app {kind : Int} {d x : List UInt8} : ∀ {l : List Rl} {e : Int}, 0 ≤ e → relsR kind d e l = true → relsR kind (d ++ x) e l = true
  | [], _, _, _ => rfl
  | r :: t, e, h0, h => by
    unfold relsR at *
    by_cases c : badR kind d e r
    · rw [if_pos c] at h; cases h
    · rw [if_neg c] at h
      have c1 : ¬ r.pos < e := fun hh => c (.inl hh)
      have c2 : ¬ (d.length : Int) - szR r.kind < r.pos := fun hh => c (.inr (.inl hh))
      have c3 : ¬ r.sym < 0 := fun hh => c (.inr (.inr (.inl hh)))
      have c4 : ¬ covR kind d r = false := fun hh => c (.inr (.inr (.inr hh)))
      have hs := szR_two r.kind
      rw [if_neg, rels_app (by omega) h]
      rintro (hh | hh | hh | hh)
      · exact c1 hh
      · rw [List.length_append] at hh; omega
      · exact c3 hh
      · rw [cov_app (by omega) (by omega)] at hh; exact c4 hh
theorem rels_end {kind : Int} {d : List UInt8} : ∀ {l : List Rl} {e : Int}, e ≤ d.length → relsR kind d e l = true → endR e l ≤ d.length
  | [], _, h, _ => h
  | r :: t, e, h0, h => by
    unfold relsR at h
    by_cases c : badR kind d e r
    · rw [if_pos c] at h; cases h
    · rw [if_neg c] at h
      have c2 : ¬ (d.length : Int) - szR r.kind < r.pos := fun hh => c (.inr (.inl hh))
      have := rels_end (l := t) (e := r.pos + szR r.kind) (by omega) h
      exact this
/-- One more relocation, behind all others. -/
theorem rels_snoc {kind : Int} {d : List UInt8} {q : Rl} : ∀ {l : List Rl} {e : Int}, relsR kind d e l = true → ¬ badR kind d (endR e l) q → relsR kind d e (l ++ [q]) = true
  | [], e, _, hq => by
    show (if badR kind d e q then false else relsR kind d (q.pos + szR q.kind) []) = true
    have hq' : ¬ badR kind d e q := hq
    rw [if_neg hq']; rfl
  | r :: t, e, h, hq => by
    rw [List.cons_append]
    unfold relsR at *
    by_cases c : badR kind d e r
    · rw [if_pos c] at h; cases h
    · rw [if_neg c] at h ⊢
      exact rels_snoc h hq
/-- Bytes and relocations put behind, if there is room. -/
def placedL (s : Sc) (x : List UInt8) (q : List Rl) : Sc × Int := if 4096 - s.data.length < x.length ∨ 64 - s.rels.length < q.length then (scZ, 2) else ({ s with data := s.data ++ x, rels := s.rels ++ q }, 0)
def pPutL (s : Sc) (x : List UInt8) : Sc × Int := if secR s = true then placedL s x [] else (scZ, 1)
def lackN (n k : Nat) : Nat := (2 ^ k - n % 2 ^ k) % 2 ^ k
def pAlignL (s : Sc) (n : Int) : Sc × Int := if secR s = true then (if n < 0 ∨ 12 < n then (scZ, 4) else placedL { s with align := max s.align n } (nulB (lackN s.data.length n.toNat)) []) else (scZ, 1)
def pWordL (s : Sc) (w : Nat) (kind sym add : Int) : Sc × Int :=
  if secR s = true then (if s.data.length % 4 ≠ 0 then (scZ, 5) else if kind = 0 then placedL s (leB 4 w) [] else if s.kind ≠ 1 ∨ fitsI kind (readW w) = false ∨ sym < 0 then (scZ, 1) else placedL s (leB 4 w) [⟨s.data.length, kind, sym, add⟩]) else (scZ, 1)
def pQuadL (s : Sc) (v : Nat) (sym add : Int) : Sc × Int :=
  if secR s = true then (if sym < 0 then placedL s (leB 8 v) [] else placedL s (leB 8 0) [⟨s.data.length, 1, sym, add⟩]) else (scZ, 1)
def pNewL (name : List UInt8) (kind : Int) (keep : Bool) : Sc × Int := if isNmL name = true then (if kind < 1 ∨ 3 < kind then (scZ, 1) else (⟨name, kind, keep, 0, [], []⟩, 0)) else (scZ, 6)
open Go.ChangeShapes Go.WideShapes Go.Deep Go.RowKit

theorem head_iff {s : Sc} : headR s = true ↔ isNmL s.name = true ∧ 1 ≤ s.kind ∧ s.kind ≤ 3 ∧ 0 ≤ s.align ∧ s.align ≤ 12 ∧ s.data.length ≤ 4096 ∧ s.rels.length ≤ 64 := by
  unfold headR
  simp only [Bool.and_eq_true, decide_eq_true_eq, and_assoc]
theorem sec_iff {s : Sc} : secR s = true ↔ headR s = true ∧ relsR s.kind s.data 0 s.rels = true := by
  unfold secR; rw [Bool.and_eq_true]
theorem placed_yes {s t : Sc} {x : List UInt8} {q : List Rl} (h : placedL s x q = (t, 0)) : ¬ 4096 - s.data.length < x.length ∧ ¬ 64 - s.rels.length < q.length ∧ t = { s with data := s.data ++ x, rels := s.rels ++ q } := by
  unfold placedL at h
  split at h
  · cases h
  · rename_i c
    cases h
    exact ⟨fun hh => c (.inl hh), fun hh => c (.inr hh), rfl⟩
theorem placed_two (s : Sc) (x : List UInt8) (q : List Rl) : (∃ t, placedL s x q = (t, 0)) ∨ placedL s x q = (scZ, 2) := by
  unfold placedL
  split
  · exact .inr rfl
  · exact .inl ⟨_, rfl⟩
theorem placed_right {s t : Sc} {x : List UInt8} {q : List Rl} (hs : headR s = true) (h : placedL s x q = (t, 0)) (hr : relsR s.kind (s.data ++ x) 0 (s.rels ++ q) = true) : secR t = true := by
  obtain ⟨c1, c2, rfl⟩ := placed_yes h
  obtain ⟨h1, h2, h3, h4, h5, h6, h7⟩ := head_iff.1 hs
  refine sec_iff.2 ⟨head_iff.2 ⟨h1, h2, h3, h4, h5, ?_, ?_⟩, hr⟩
  · show (s.data ++ x).length ≤ 4096
    rw [List.length_append]; omega
  · show (s.rels ++ q).length ≤ 64
    rw [List.length_append]; omega
theorem put_right {s t : Sc} {x : List UInt8} (h : pPutL s x = (t, 0)) : secR s = true ∧ secR t = true ∧ t = { s with data := s.data ++ x } := by
  unfold pPutL at h
  split at h
  · rename_i hs
    obtain ⟨hh, hr⟩ := sec_iff.1 hs
    refine ⟨hs, placed_right hh h ?_, ?_⟩
    · rw [List.append_nil]; exact rels_app (by omega) hr
    · rw [(placed_yes h).2.2, List.append_nil]
  · cases h
theorem align_right {s t : Sc} {n : Int} (h : pAlignL s n = (t, 0)) : secR s = true ∧ 0 ≤ n ∧ n ≤ 12 ∧ secR t = true ∧ t = { s with align := max s.align n, data := s.data ++ nulB (lackN s.data.length n.toNat) } := by
  unfold pAlignL at h
  split at h
  · rename_i hs
    split at h
    · cases h
    · rename_i c
      have c0 : ¬ n < 0 := fun hh => c (.inl hh)
      have c1 : ¬ 12 < n := fun hh => c (.inr hh)
      obtain ⟨hh, hr⟩ := sec_iff.1 hs
      refine ⟨hs, by omega, by omega, placed_right (s := { s with align := max s.align n }) ?_ h ?_, ?_⟩
      · obtain ⟨h1, h2, h3, h4, h5, h6, h7⟩ := head_iff.1 hh
        exact head_iff.2 ⟨h1, h2, h3, (by show (0 : Int) ≤ max s.align n; omega), (by show max s.align n ≤ 12; omega), h6, h7⟩
      · show relsR s.kind (s.data ++ _) 0 (s.rels ++ []) = true
        rw [List.append_nil]; exact rels_app (by omega) hr
      · rw [(placed_yes h).2.2, List.append_nil]
  · cases h
theorem fits_kind {kind : Int} {i : In} (h : fitsI kind i = true) : kind ≠ 1 ∧ isI i = true ∧ i.imm = 0 := by
  unfold fitsI at h
  simp only [Bool.and_eq_true, beq_iff_eq] at h
  obtain ⟨⟨⟨h1, h2⟩, h3⟩, h4⟩ := h
  refine ⟨?_, h1, h2⟩
  rintro rfl
  have ho : i.op = 0 := by
    have : fitK 1 = [0, 0, 0] := rfl
    rw [this] at h4
    simp only [List.any_cons, List.any_nil, Bool.or_false, Bool.or_self, beq_iff_eq] at h4
    exact h4.symm
  unfold isI at h1
  rw [ho] at h1
  revert h1
  simp [shapeI]
theorem word_right {s t : Sc} {w : Nat} {kind sym add : Int} (hw : w < 4294967296) (h : pWordL s w kind sym add = (t, 0)) :
    secR s = true ∧ s.data.length % 4 = 0 ∧ secR t = true ∧ ((kind = 0 ∧ t = { s with data := s.data ++ leB 4 w }) ∨ (kind ≠ 0 ∧ s.kind = 1 ∧ fitsI kind (readW w) = true ∧ 0 ≤ sym ∧ t = { s with data := s.data ++ leB 4 w, rels := s.rels ++ [⟨s.data.length, kind, sym, add⟩] })) := by
  unfold pWordL at h
  split at h
  · rename_i hs
    obtain ⟨hh, hr⟩ := sec_iff.1 hs
    split at h
    · cases h
    · rename_i c
      replace c : s.data.length % 4 = 0 := Classical.byContradiction fun x => c x
      split at h
      · rename_i k0
        refine ⟨hs, c, placed_right hh h ?_, .inl ⟨k0, ?_⟩⟩
        · rw [List.append_nil]; exact rels_app (by omega) hr
        · rw [(placed_yes h).2.2, List.append_nil]
      · rename_i k0
        split at h
        · cases h
        · rename_i c2
          have d1 : s.kind = 1 := Classical.byContradiction fun x => c2 (.inl x)
          have d2 : fitsI kind (readW w) = true := by
            cases e : fitsI kind (readW w) with
            | true => rfl
            | false => exact absurd (.inr (.inl e)) c2
          have d3 : ¬ sym < 0 := fun x => c2 (.inr (.inr x))
          obtain ⟨n1, -, -⟩ := fits_kind d2
          have hz : szR kind = 4 := by unfold szR; rw [if_neg n1]
          refine ⟨hs, c, placed_right hh h ?_, .inr ⟨k0, d1, d2, by omega, (placed_yes h).2.2⟩⟩
          refine rels_snoc (rels_app (by omega) hr) ?_
          have he := rels_end (l := s.rels) (e := 0) (by omega) hr
          rintro (x | x | x | x)
          · simp only at x; omega
          · simp only [hz] at x
            rw [List.length_append, leB_len] at x; omega
          · exact d3 x
          · unfold covR at x
            rw [if_neg n1] at x
            simp only [Int.toNat_natCast, List.drop_left'] at x
            rw [List.take_of_length_le (by rw [leB_len]; omega), leV_leB 4 w (by omega), d2, d1] at x
            have : ((s.data.length : Nat) : Int) % 4 = 0 := by omega
            rw [this] at x
            simp at x
  · cases h
theorem quad_right {s t : Sc} {v : Nat} {sym add : Int} (h : pQuadL s v sym add = (t, 0)) :
    secR s = true ∧ secR t = true ∧ ((sym < 0 ∧ t = { s with data := s.data ++ leB 8 v }) ∨ (0 ≤ sym ∧ t = { s with data := s.data ++ leB 8 0, rels := s.rels ++ [⟨s.data.length, 1, sym, add⟩] })) := by
  unfold pQuadL at h
  split at h
  · rename_i hs
    obtain ⟨hh, hr⟩ := sec_iff.1 hs
    split at h
    · rename_i c
      refine ⟨hs, placed_right hh h ?_, .inl ⟨c, ?_⟩⟩
      · rw [List.append_nil]; exact rels_app (by omega) hr
      · rw [(placed_yes h).2.2, List.append_nil]
    · rename_i c
      refine ⟨hs, placed_right hh h ?_, .inr ⟨by omega, (placed_yes h).2.2⟩⟩
      refine rels_snoc (rels_app (by omega) hr) ?_
      have he := rels_end (l := s.rels) (e := 0) (by omega) hr
      rintro (x | x | x | x)
      · simp only at x; omega
      · simp only [show szR 1 = 8 from rfl] at x
        rw [List.length_append, leB_len] at x; omega
      · exact c x
      · unfold covR at x
        simp only [if_pos, Int.toNat_natCast, List.drop_left'] at x
        rw [List.take_of_length_le (by rw [leB_len]; omega)] at x
        exact absurd x (by decide)
  · cases h
theorem lack_zero {n k m : Nat} (h : m ≤ k) : lackN (n + lackN n k) m = 0 := by
  have hd : 2 ^ k ∣ n + lackN n k := by
    unfold lackN
    have hp : 0 < 2 ^ k := Nat.two_pow_pos k
    by_cases c : n % 2 ^ k = 0
    · rw [c, Nat.sub_zero, Nat.mod_self, Nat.add_zero]; exact Nat.dvd_of_mod_eq_zero c
    · have hlt := Nat.mod_lt n hp
      rw [Nat.mod_eq_of_lt (by omega)]
      have hdm := Nat.div_add_mod n (2 ^ k)
      refine ⟨n / 2 ^ k + 1, ?_⟩
      rw [Nat.mul_add, Nat.mul_one]; omega
  have hm : (n + lackN n k) % 2 ^ m = 0 := Nat.mod_eq_zero_of_dvd (Nat.dvd_trans (Nat.pow_dvd_pow 2 h) hd)
  unfold lackN at *
  rw [hm, Nat.sub_zero, Nat.mod_self]
open Go.ChangeShapes Go.WideShapes Go.Deep Go.RowKit

def TabP (w : World) : Prop := Tab7 w ∧ TabO w
theorem TabP.next {w w' : World} (h : TabP w) (hb : Below w.heap.size w w') : TabP w' := ⟨Tab7.below h.1 hb, h.2.next hb⟩
section
variable {P : Program}
theorem results_cell_two {fn : Func} {p q : Tmp} {ty : TypeId} (h : fn.results = #[.cell p ty, .tmp q]) (tmps : Array Value) (w : World) (g : Nat) (t : TypeId) (cs : Array Value) (fr : Nat × Nat) (d : TypeDesc) (x : Value)
    (hp : tmps.getD p undef = .pointer (some ⟨g, 0, none⟩)) (hg : w.heap[g]? = some (.cells cs t fr))
    (hu : P.underlying ty = some d) (hd : (match d with | .struct _ | .array _ _ => true | _ => false) = true) (hi : (P.info? ty).map (·.size) = some cs.size) (hx : tmps.getD q undef = x) :
    (results fn tmps).run P w = .ok (.tuple #[.agg cs, x]) w := by
  have hp' : tmps[p]?.getD undef = .pointer (some ⟨g, 0, none⟩) := by simpa using hp
  have hx' : tmps[q]?.getD undef = x := by simpa using hx
  simp [results, h, hp', hx', asAddr, run_loadVar_row w g t ty cs fr d hg hu hd hi]
end
abbrev scA (s : Sc) (a : Option Addr) (n c : Nat) : Array Value := #[.string ⟨s.name.toArray⟩, .int .i64 s.kind, .bool s.keep, .int .i64 s.align, .string ⟨s.data.toArray⟩, .slice a n c]
abbrev sset (u : World) (X : Nat) (s : Sc) (a : Option Addr) (n c : Nat) : World :=
  ((((((u.setCell ⟨X, 0, none⟩ (.string ⟨s.name.toArray⟩)).setCell ⟨X, 1, none⟩ (.int .i64 s.kind)).setCell ⟨X, 2, none⟩ (.bool s.keep)).setCell ⟨X, 3, none⟩ (.int .i64 s.align)).setCell ⟨X, 4, none⟩ (.string ⟨s.data.toArray⟩)).setCell ⟨X, 5, none⟩ (.slice a n c))
theorem sset_heap {u : World} {X : Nat} {s' : Sc} {a' : Option Addr} {n' c' : Nat} (h : RB u X (scA s' a' n' c') 74) (s : Sc) (a : Option Addr) (n c : Nat) : RB (sset u X s a n c) X (scA s a n c) 74 := by
  have h0 : RB (u.setCell ⟨X, 0, none⟩ (.string ⟨s.name.toArray⟩)) X #[.string ⟨s.name.toArray⟩, .int .i64 s'.kind, .bool s'.keep, .int .i64 s'.align, .string ⟨s'.data.toArray⟩, .slice a' n' c'] 74 := h.set (j := 0) _
  have h1 : RB ((u.setCell ⟨X, 0, none⟩ (.string ⟨s.name.toArray⟩)).setCell ⟨X, 1, none⟩ (.int .i64 s.kind)) X #[.string ⟨s.name.toArray⟩, .int .i64 s.kind, .bool s'.keep, .int .i64 s'.align, .string ⟨s'.data.toArray⟩, .slice a' n' c'] 74 := h0.set (j := 1) _
  have h2 : RB (((u.setCell ⟨X, 0, none⟩ (.string ⟨s.name.toArray⟩)).setCell ⟨X, 1, none⟩ (.int .i64 s.kind)).setCell ⟨X, 2, none⟩ (.bool s.keep)) X #[.string ⟨s.name.toArray⟩, .int .i64 s.kind, .bool s.keep, .int .i64 s'.align, .string ⟨s'.data.toArray⟩, .slice a' n' c'] 74 := h1.set (j := 2) _
  have h3 : RB ((((u.setCell ⟨X, 0, none⟩ (.string ⟨s.name.toArray⟩)).setCell ⟨X, 1, none⟩ (.int .i64 s.kind)).setCell ⟨X, 2, none⟩ (.bool s.keep)).setCell ⟨X, 3, none⟩ (.int .i64 s.align)) X #[.string ⟨s.name.toArray⟩, .int .i64 s.kind, .bool s.keep, .int .i64 s.align, .string ⟨s'.data.toArray⟩, .slice a' n' c'] 74 := h2.set (j := 3) _
  have h4 : RB (((((u.setCell ⟨X, 0, none⟩ (.string ⟨s.name.toArray⟩)).setCell ⟨X, 1, none⟩ (.int .i64 s.kind)).setCell ⟨X, 2, none⟩ (.bool s.keep)).setCell ⟨X, 3, none⟩ (.int .i64 s.align)).setCell ⟨X, 4, none⟩ (.string ⟨s.data.toArray⟩)) X #[.string ⟨s.name.toArray⟩, .int .i64 s.kind, .bool s.keep, .int .i64 s.align, .string ⟨s.data.toArray⟩, .slice a' n' c'] 74 := h3.set (j := 4) _
  have h5 : RB ((((((u.setCell ⟨X, 0, none⟩ (.string ⟨s.name.toArray⟩)).setCell ⟨X, 1, none⟩ (.int .i64 s.kind)).setCell ⟨X, 2, none⟩ (.bool s.keep)).setCell ⟨X, 3, none⟩ (.int .i64 s.align)).setCell ⟨X, 4, none⟩ (.string ⟨s.data.toArray⟩)).setCell ⟨X, 5, none⟩ (.slice a n c)) X #[.string ⟨s.name.toArray⟩, .int .i64 s.kind, .bool s.keep, .int .i64 s.align, .string ⟨s.data.toArray⟩, .slice a n c] 74 := h4.set (j := 5) _
  exact h5
theorem sset_below {w u : World} {X B : Nat} (h : Below B w u) (hX : B ≤ X) (s : Sc) (a : Option Addr) (n c : Nat) : Below B w (sset u X s a n c) :=
  ((((((h).setCell (p := ⟨X, 0, none⟩) hX _).setCell (p := ⟨X, 1, none⟩) hX _).setCell (p := ⟨X, 2, none⟩) hX _).setCell (p := ⟨X, 3, none⟩) hX _).setCell (p := ⟨X, 4, none⟩) hX _).setCell (p := ⟨X, 5, none⟩) hX _
theorem RB.six {u : World} {X : Nat} {s : Sc} {a : Option Addr} {n c : Nat} (h : RB u X (scA s a n c) 74) :
    u.cell? ⟨X, 0, none⟩ = some (.string ⟨s.name.toArray⟩) ∧ u.cell? ⟨X, 1, none⟩ = some (.int .i64 s.kind) ∧ u.cell? ⟨X, 2, none⟩ = some (.bool s.keep) ∧ u.cell? ⟨X, 3, none⟩ = some (.int .i64 s.align) ∧ u.cell? ⟨X, 4, none⟩ = some (.string ⟨s.data.toArray⟩) ∧ u.cell? ⟨X, 5, none⟩ = some (.slice a n c) ∧ (∀ j, u.frozen? ⟨X, j, none⟩ = false) ∧ X < u.heap.size :=
  ⟨h.cell, h.cell, h.cell, h.cell, h.cell, h.cell, fun j => h.frozen, lt_of_block h⟩
/-- A row of the call's own, or an empty slice of whatever memory that has no room. -/
def Row0 (w : World) (B : Nat) (v : Value) (n : Nat) (l : List Rl) : Prop := w.ownsRow B 103 4 v n (l.flatMap rlC) ∨ ∃ ad, v = .slice (some ad) 0 0 ∧ n = 0 ∧ l = []
/-- What hands back a section and an error. -/
def SecR (x : Sc × Int) (w : World) (e : Ending) (w' : World) : Prop :=
  ∃ a c, e = .returned (.tuple #[scV x.1 a x.1.rels.length c, .int .i64 x.2]) ∧ Row0 w' w.heap.size (.slice a x.1.rels.length c) x.1.rels.length x.1.rels ∧ Below w.heap.size w w'
theorem zeroSec (w : World) : (zeroValue 74).run Tryz.prog w = .ok (.agg (scA scZ none 0 0)) w := by kernel_rfl
theorem SecR.bare {s : Sc} {er : Int} {x : Sc × Int} {w w' : World} (hx : x = (s, er)) (hr : s.rels = []) (hb : Below w.heap.size w w') : SecR x w (.returned (.tuple #[scV s none 0 0, .int .i64 er])) w' := by
  subst hx
  refine ⟨none, 0, ?_, .inl ?_, hb⟩
  · show _ = Ending.returned (.tuple #[scV s none s.rels.length 0, .int .i64 er])
    rw [hr]; rfl
  · show w'.ownsRow _ _ 4 (.slice none s.rels.length 0) s.rels.length (s.rels.flatMap rlC)
    rw [hr]; exact World.ownsRow_nil _ _ _ _
section
variable {α : Type} {enc : α → List Value} {sz : Nat}
theorem open_SL3 {H : Type} {encH : TypeId × Value → H} {P : Program} {W : World} {u : Value} {fuel : Nat} {d : DataW H × List MemPlace} {t e : TypeId} {fs : Array Field} (good : α → Prop) (dummy : α)
    (ht : P.underlying t = some (.slice e)) (he : P.underlying e = some (.struct fs)) (hone : oneCellFields P fs = true) (hC : P.cellsOf e = fs.size) (hfs : fs.size = sz) (h0 : 0 < sz)
    (henc : ∀ x, (enc x).length = sz)
    (hel : ∀ (cell : Nat → Option Value) (m : Nat), (∀ (j : Nat) (f : Field), fs[j]? = some f → ∃ (u : Value) (y : DataW H × List MemPlace), cell j = some u ∧ DataW.trod encH P W 0 (fun _ => true) true m f.type [u] = some y) → ∃ x : α, good x ∧ ∀ j, j < sz → cell j = (enc x)[j]?)
    (hf : DataW.trod encH P W 0 (fun _ => true) true fuel t [u] = some d) :
    ∃ (a : Option Addr) (n c : Nat) (l : List α), u = .slice a n c ∧ n ≤ maxLen ∧ (∀ x ∈ l, good x) ∧ SL enc sz W W.heap.size a n l ∧ (a = none → n = 0 ∧ c = 0) ∧ n ≤ c ∧ ∀ R bt : Nat, (∀ el sp, d.1 = .slice el sp → (el.length + sp.length) * bt ≤ R) → n * bt ≤ R := by
  rcases open_slice_fields ht he hone hC hf with ⟨hcs, hx⟩ | ⟨a, len, cap, m, D, Pl, hcs, hb, hl, hm, hmm, hx, hi⟩
  · simp only [List.cons.injEq, and_true] at hcs
    subst hcs
    exact ⟨none, 0, 0, [], rfl, by unfold maxLen; omega, by simp, SL.nil _ _ _, fun _ => ⟨rfl, rfl⟩, Nat.le_refl _, by intro R bt _; omega⟩
  · simp only [List.cons.injEq, and_true] at hcs
    subst hcs
    have hlm : len ≤ m := by split at hmm <;> omega
    have hc : ∀ i, i < len → ∃ x : α, good x ∧ ∀ j, j < sz → W.cell? (a.add (i * sz + j)) = (enc x)[j]? := by
      intro i hi'
      obtain ⟨ys, k, -, -, -, hfs'⟩ := hi i (by omega)
      exact hel (fun j => W.cell? (a.add (i * sz + j))) k (fun j f hj => by obtain ⟨u, y, c1, _, c2⟩ := hfs' j f hj; rw [hfs] at c1; exact ⟨u, y, c1, c2⟩)
    have hall : ∃ g : Nat → α, ∀ i, i < len → good (g i) ∧ ∀ j, j < sz → W.cell? (a.add (i * sz + j)) = (enc (g i))[j]? :=
      ⟨fun i => if h : i < len then Classical.choose (hc i h) else dummy, fun i h => by simp only [h, dite_true]; exact Classical.choose_spec (hc i h)⟩
    obtain ⟨g, hg⟩ := hall
    refine ⟨some a, len, cap, (List.range len).map g, rfl, by omega, ?_, ⟨by simp, ?_⟩, by simp, hl, fun R bt hR => ?_⟩
    rotate_left 2
    · have := hR _ _ (by rw [hx])
      simp only [List.length_map, List.length_range] at this
      exact Nat.le_trans (Nat.mul_le_mul_right _ (Nat.le_add_right _ _)) this
    · intro f hf
      obtain ⟨i, hi2, rfl⟩ := List.mem_map.1 hf
      exact (hg i (by simpa using hi2)).1
    · intro hne
      have hlen : 0 < len := by
        rcases Nat.eq_zero_or_pos len with h | h
        · subst h; simp at hne
        · exact h
      have h00 := (hg 0 hlen).2 0 h0
      have hsome : ∃ u, W.cell? (a.add (0 * sz + 0)) = some u := by
        rw [h00]; exact ⟨_, List.getElem?_eq_getElem (by rw [henc]; exact h0)⟩
      obtain ⟨u, hu⟩ := hsome
      have ea : a.add (0 * sz + 0) = a := by simp [Addr.add]
      rw [ea] at hu
      have hal : a.block < W.heap.size := cell_lt hu
      obtain ⟨b, off, el⟩ := a
      have hel' : el = none := cell_spot hu
      subst hel'
      refine ⟨b, off, rfl, hal, fun k hk j hj => ?_⟩
      have hk' : k < len := by simpa using hk
      have := (hg k hk').2 j hj
      rw [add_none] at this
      simpa only [Nat.add_assoc, List.getElem_map, List.getElem_range] using this
end
theorem open_cells {H : Type} {encH : TypeId × Value → H} {P : Program} {W : World} {base : Nat} {spare : Nat → Bool} {held : Bool} {v : Value} {d : DataW H} {p : List MemPlace} {t : TypeId} {fs : Array Field}
    (ht : P.underlying t = some (.struct fs)) (hone : oneCellFields P fs = true) (hC : P.cellsOf t = fs.size) (hv : Value.okWide P W .any base t v) (h : DataW.Trod encH P W 0 spare held t v d p) :
    ∃ (cs : Array Value) (n : Nat), v = .agg cs ∧ cs.size = fs.size ∧ ∀ (j : Nat) (f : Field), fs[j]? = some f → ∃ (u : Value) (y : DataW H × List MemPlace), cs[j]? = some u ∧ DataW.trod encH P W 0 spare held n f.type [u] = some y := by
  obtain ⟨cs, rfl, hsz⟩ := okWide_struct ht hv
  obtain ⟨fuel, hf⟩ := h
  obtain ⟨ys, n, _, _, hlen, hyl, hfs⟩ := DataW.trod_struct ht hf
  refine ⟨cs, n, rfl, hsz.trans hC, fun j f hj => ?_⟩
  obtain ⟨ho, hk⟩ := hone_of hone j f hj
  have hjl : j < fs.size := (Array.getElem?_eq_some_iff.1 hj).1
  have hjc : j < cs.size := by rw [hsz, hC]; exact hjl
  have h1 := hfs j f hj
  rw [ho, hk] at h1
  have e1 : ((Value.cells (.agg cs)).toList.drop j).take 1 = [cs[j]] := by
    show (cs.toList.drop j).take 1 = _
    rw [List.drop_eq_getElem_cons (by simpa using hjc)]
    rfl
  rw [e1] at h1
  have hys : ys[j]? = some (ys[j]'(by omega)) := List.getElem?_eq_getElem (by omega)
  exact ⟨cs[j], ys[j]'(by omega), Array.getElem?_eq_getElem hjc, h1.trans hys⟩
theorem six_cells {cs : Array Value} {c0 c1 c2 c3 c4 c5 : Value} (hs : cs.size = 6) (h0 : cs[0]? = some c0) (h1 : cs[1]? = some c1) (h2 : cs[2]? = some c2) (h3 : cs[3]? = some c3) (h4 : cs[4]? = some c4) (h5 : cs[5]? = some c5) : cs = #[c0, c1, c2, c3, c4, c5] := by
  refine Array.ext_getElem? fun j => ?_
  match j with
  | 0 => exact h0 | 1 => exact h1 | 2 => exact h2 | 3 => exact h3 | 4 => exact h4 | 5 => exact h5
  | j + 6 => rw [Array.getElem?_eq_none (by omega), Array.getElem?_eq_none (by simp)]
set_option maxRecDepth 10000 in
theorem open_Sec {H : Type} {encH : TypeId × Value → H} {W : World} {base : Nat} {v : Value} {d : DataW H} {p : List MemPlace}
    (hv : Value.okWide Tryz.prog W .any base 74 v) (h : DataW.Trod encH Tryz.prog W 0 (fun _ => true) true 74 v d p) :
    ∃ (s : Sc) (a : Option Addr) (n c : Nat), v = scV s a n c ∧ GoodSc s ∧ SL rlC 4 W W.heap.size a n s.rels ∧ (a = none → n = 0 ∧ c = 0) ∧ n ≤ c ∧ n ≤ maxLen := by
  obtain ⟨cs, m, rfl, hs, hf⟩ := open_cells Tryz.underlying74 (by kernel_rfl) (by kernel_rfl) hv h
  obtain ⟨v0, y0, c0, t0⟩ := hf 0 _ rfl
  obtain ⟨v1, y1, c1, t1⟩ := hf 1 _ rfl
  obtain ⟨v2, y2, c2, t2⟩ := hf 2 _ rfl
  obtain ⟨v3, y3, c3, t3⟩ := hf 3 _ rfl
  obtain ⟨v4, y4, c4, t4⟩ := hf 4 _ rfl
  obtain ⟨v5, y5, c5, t5⟩ := hf 5 _ rfl
  obtain ⟨x0, e0, -, w0⟩ := DataW.trod_string Tryz.underlying9 t0
  obtain ⟨x1, e1, -, w1⟩ := DataW.trod_int Tryz.underlying3 t1
  obtain ⟨x2, e2, -⟩ := DataW.trod_bool Tryz.underlying4 t2
  obtain ⟨x3, e3, -, w3⟩ := DataW.trod_int Tryz.underlying3 t3
  obtain ⟨x4, e4, -, w4⟩ := DataW.trod_string Tryz.underlying9 t4
  simp only [List.cons.injEq, and_true] at e0 e1 e2 e3 e4
  subst e0 e1 e2 e3 e4
  obtain ⟨a, n, c, l, rfl, h2, h3, h4, h5, h6, -⟩ := open_SL3 (sz := 4) (enc := rlC) GoodRl ⟨0, 0, 0, 0⟩ Tryz.underlying72 Tryz.underlying103 (by kernel_rfl) (by kernel_rfl) rfl (by decide) rl_len (by
    intro cell m hc
    obtain ⟨u0, z0, g0, s0⟩ := hc 0 _ rfl
    obtain ⟨u1, z1, g1, s1⟩ := hc 1 _ rfl
    obtain ⟨u2, z2, g2, s2⟩ := hc 2 _ rfl
    obtain ⟨u3, z3, g3, s3⟩ := hc 3 _ rfl
    obtain ⟨k0, e0, -, w0⟩ := DataW.trod_int Tryz.underlying3 s0
    obtain ⟨k1, e1, -, w1⟩ := DataW.trod_int Tryz.underlying3 s1
    obtain ⟨k2, e2, -, w2⟩ := DataW.trod_int Tryz.underlying3 s2
    obtain ⟨k3, e3, -, w3⟩ := DataW.trod_int Tryz.underlying3 s3
    simp only [List.cons.injEq, and_true] at e0 e1 e2 e3
    subst e0 e1 e2 e3
    refine ⟨⟨k0, k1, k2, k3⟩, ⟨bounds_i64 w0, bounds_i64 w1, bounds_i64 w2, bounds_i64 w3⟩, fun j hj => ?_⟩
    match j, hj with
    | 0, _ => exact g0
    | 1, _ => exact g1
    | 2, _ => exact g2
    | 3, _ => rw [show (rlC ⟨k0, k1, k2, k3⟩)[3]? = some (.int .i64 k3) from rfl]; exact g3) t5
  refine ⟨⟨x0.data.toList, x1, x2, x3, x4.data.toList, l⟩, a, n, c, ?_, ⟨?_, bounds_i64 w1, bounds_i64 w3, ?_, h3⟩, h4, h5, h6, h2⟩
  · rw [six_cells hs c0 c1 c2 c3 c4 c5]
  · show x0.data.toList.length ≤ maxLen
    rw [Array.length_toList]; exact w0
  · show x4.data.toList.length ≤ maxLen
    rw [Array.length_toList]; exact w4
open Go.ChangeShapes Go.WideShapes Go.Deep Go.RowKit

theorem repL_list (l : List UInt8) : ∀ n, Lib.repeatL l n = (List.replicate n l).flatten := by
  intro n
  induction n with
  | zero => rfl
  | succ n ih => first | (rw [Lib.repeatL, ih]; rfl) | (simp [Lib.repeatL, List.replicate_succ])
theorem nul_rep (n : Nat) : (List.replicate n [(0 : UInt8)]).flatten = nulB n := by
  induction n with
  | zero => rfl
  | succ n ih => rw [List.replicate_succ, List.flatten_cons, ih]; rfl
theorem Rep_nul (n : Nat) (hn : n ≤ 100000) (w : World) : Calls Tryz.prog 144 #[.string ⟨#[0]⟩, .int .i64 (n : Int)] w (RetB (.string ⟨(nulB n).toArray⟩) w) := by
  refine (Tryz.strings_Repeat ⟨#[0]⟩ n w (by omega) (by show 1 * n ≤ _; omega)).mono ?_
  rintro e w' ⟨rfl, hb⟩
  refine ⟨?_, hb⟩
  rw [show (⟨#[0]⟩ : ByteArray).data.toList = [0] from rfl, repL_list, nul_rep]
abbrev rlA (r : Rl) : Array Value := #[.int .i64 r.pos, .int .i64 r.kind, .int .i64 r.sym, .int .i64 r.add]
theorem two_rb {w : World} {A B : Array Value} {T U : TypeId} : RB ((w.alloc (.cells A T)).alloc (.cells B U)) w.heap.size A T ∧ RB ((w.alloc (.cells A T)).alloc (.cells B U)) (w.heap.size + 1) B U ∧ Below w.heap.size w ((w.alloc (.cells A T)).alloc (.cells B U)) := by
  have s1 : (w.alloc (.cells A T)).heap.size = w.heap.size + 1 := World.size_alloc _ _
  refine ⟨?_, ?_, ((Below.refl _ w).alloc (Nat.le_refl _) _).alloc (by rw [s1]; omega) _⟩
  · exact (Below.heap_alloc _ _ _ (by rw [s1]; omega)).trans (MapKept.heap_alloc _ _).1
  · unfold RB; rw [← s1]; exact (MapKept.heap_alloc _ _).1
set_option maxRecDepth 100000 in
set_option maxHeartbeats 4000000 in
theorem cov_abs (N B D : ByteArray) (k : Int) (kp : Bool) (al : Int) (a : Option Addr) (n c p : Nat) (sy ad : Int) (hD : B.extract p (p + 8) = D) (hp : p + 8 ≤ B.size) (hB : B.size ≤ 4096) (w : World) :
    Calls Tryz.prog 125 #[.agg #[.string N, .int .i64 k, .bool kp, .int .i64 al, .string B, .slice a n c], .agg #[.int .i64 (p : Int), .int .i64 1, .int .i64 sy, .int .i64 ad]] w (RetB (.bool (D.data.toList == nulB 8)) w) := by
  obtain ⟨q, hq⟩ : ∃ q, q = p + 8 := ⟨_, rfl⟩
  rw [← hq] at hD
  have hwq : IntKind.i64.wrap ((p : Int) + 8) = (q : Int) := by rw [IntKind.wrap_i64]; omega
  have b0 : (0 : Int) ≤ (p : Int) := by omega
  have b1 : (p : Int) ≤ (q : Int) := by omega
  have b2 : (q : Int) ≤ (B.size : Int) := by omega
  have HR : Hid (∀ u, Calls Tryz.prog 144 #[.string ⟨#[0]⟩, .int .i64 8] u (RetB (.string ⟨(nulB 8).toArray⟩) u)) := Lib.hid (fun u => Rep_nul 8 (by decide) u)
  have HW := Lib.hid (two_rb (w := w) (A := #[.string N, .int .i64 k, .bool kp, .int .i64 al, .string B, .slice a n c]) (B := #[.int .i64 (p : Int), .int .i64 1, .int .i64 sy, .int .i64 ad]) (T := 74) (U := 103))
  obtain ⟨X, hX⟩ : ∃ X, X = w.heap.size := ⟨_, rfl⟩
  rw [← hX] at HW
  clear hq hp hB
  go_enter Tryz.func125, Tryz.ntmps125
  go_wp2_with fail
  rw [← hX]
  have HXE := Lib.hid hX
  clear hX
  generalize (w.alloc (.cells #[.string N, .int .i64 k, .bool kp, .int .i64 al, .string B, .slice a n c] 74)).alloc (.cells #[.int .i64 (p : Int), .int .i64 1, .int .i64 sy, .int .i64 ad] 103) = W at HW ⊢
  have c4 : W.cell? ⟨X, 4, none⟩ = some (.string B) := HW.out.1.cell
  have c0 : W.cell? ⟨X + 1, 0, none⟩ = some (.int .i64 (p : Int)) := HW.out.2.1.cell
  (go_region_held3 (fun w' => w'.cell? ⟨X, 4, none⟩ = some (.string B) ∧ w'.cell? ⟨X + 1, 0, none⟩ = some (.int .i64 (p : Int))) (go_keep) ((first
    | (go_at_call 144; refine (HR.out _).mono ?_; rintro e u ⟨rfl, hb⟩; have hb' := ((Below.refl W.heap.size W).drew).trans hb; have s0 : u.cell? ⟨X, 4, none⟩ = some (.string B) := (HW.out.1.next hb').cell; have s1 : u.cell? ⟨X + 1, 0, none⟩ = some (.int .i64 (p : Int)) := (HW.out.2.1.next hb').cell)
    | fail)))
  go_wp2
  go_ret
  refine retB_bool ?_ (by rw [HXE.out] at HW; exact after HW.out.2.2 hb')
  show (D.toList == (⟨Array.replicate 8 0⟩ : ByteArray).toList) = _
  rw [ByteArray.toList_eq, ByteArray.toList_eq]
  rfl
set_option maxRecDepth 100000 in
set_option maxHeartbeats 4000000 in
theorem cov_sec (N B : ByteArray) (k : Int) (kp : Bool) (al : Int) (a : Option Addr) (n c p : Nat) (kk sy ad : Int) (rk : (kk == 1) = false) (r1 : (k == 1) = false) (w : World) : Calls Tryz.prog 125 #[.agg #[.string N, .int .i64 k, .bool kp, .int .i64 al, .string B, .slice a n c], .agg #[.int .i64 (p : Int), .int .i64 kk, .int .i64 sy, .int .i64 ad]] w (RetB (.bool false) w) := by
  have HW := Lib.hid (two_rb (w := w) (A := #[.string N, .int .i64 k, .bool kp, .int .i64 al, .string B, .slice a n c]) (B := #[.int .i64 (p : Int), .int .i64 kk, .int .i64 sy, .int .i64 ad]) (T := 74) (U := 103))
  obtain ⟨X, hX⟩ : ∃ X, X = w.heap.size := ⟨_, rfl⟩
  rw [← hX] at HW
  go_enter Tryz.func125, Tryz.ntmps125
  go_wp2_with fail
  rw [← hX]
  have HXE := Lib.hid hX
  clear hX
  generalize (w.alloc (.cells #[.string N, .int .i64 k, .bool kp, .int .i64 al, .string B, .slice a n c] 74)).alloc (.cells #[.int .i64 (p : Int), .int .i64 kk, .int .i64 sy, .int .i64 ad] 103) = W at HW ⊢
  have c4 : W.cell? ⟨X, 4, none⟩ = some (.string B) := HW.out.1.cell
  have c1 : W.cell? ⟨X, 1, none⟩ = some (.int .i64 k) := HW.out.1.cell
  have c0 : W.cell? ⟨X + 1, 0, none⟩ = some (.int .i64 (p : Int)) := HW.out.2.1.cell
  have e1 : W.cell? ⟨X + 1, 1, none⟩ = some (.int .i64 kk) := HW.out.2.1.cell
  clear c4 c0 e1
  go_quiet (fail)
  go_wp2
  go_ret
  exact ⟨rfl, by rw [HXE.out] at HW; exact below_drewN HW.out.2.2 nq⟩
set_option maxRecDepth 100000 in
set_option maxHeartbeats 4000000 in
theorem cov_odd (N B : ByteArray) (k : Int) (kp : Bool) (al : Int) (a : Option Addr) (n c p : Nat) (kk sy ad : Int) (rk : (kk == 1) = false) (r1 : (k == 1) = true) (b0 : (0 : Int) ≤ (p : Int)) (t1 : ((p : Int).tmod 4 == 0) = false) (t2 : ((p : Int) % 4 == 0) = false) (w : World) : Calls Tryz.prog 125 #[.agg #[.string N, .int .i64 k, .bool kp, .int .i64 al, .string B, .slice a n c], .agg #[.int .i64 (p : Int), .int .i64 kk, .int .i64 sy, .int .i64 ad]] w (RetB (.bool false) w) := by
  have HW := Lib.hid (two_rb (w := w) (A := #[.string N, .int .i64 k, .bool kp, .int .i64 al, .string B, .slice a n c]) (B := #[.int .i64 (p : Int), .int .i64 kk, .int .i64 sy, .int .i64 ad]) (T := 74) (U := 103))
  obtain ⟨X, hX⟩ : ∃ X, X = w.heap.size := ⟨_, rfl⟩
  rw [← hX] at HW
  go_enter Tryz.func125, Tryz.ntmps125
  go_wp2_with fail
  rw [← hX]
  have HXE := Lib.hid hX
  clear hX
  generalize (w.alloc (.cells #[.string N, .int .i64 k, .bool kp, .int .i64 al, .string B, .slice a n c] 74)).alloc (.cells #[.int .i64 (p : Int), .int .i64 kk, .int .i64 sy, .int .i64 ad] 103) = W at HW ⊢
  have c4 : W.cell? ⟨X, 4, none⟩ = some (.string B) := HW.out.1.cell
  have c1 : W.cell? ⟨X, 1, none⟩ = some (.int .i64 k) := HW.out.1.cell
  have c0 : W.cell? ⟨X + 1, 0, none⟩ = some (.int .i64 (p : Int)) := HW.out.2.1.cell
  have e1 : W.cell? ⟨X + 1, 1, none⟩ = some (.int .i64 kk) := HW.out.2.1.cell
  clear c4 e1
  go_quiet (fail)
  go_wp2
  go_ret
  exact ⟨rfl, by rw [HXE.out] at HW; exact below_drewN HW.out.2.2 nq⟩
set_option maxRecDepth 100000 in
set_option maxHeartbeats 4000000 in
theorem cov_fits (N B : ByteArray) (k : Int) (kp : Bool) (al : Int) (a : Option Addr) (n c p : Nat) (kk sy ad : Int) (rk : (kk == 1) = false) (hkk : i64ok kk) (r1 : (k == 1) = true) (t1 : ((p : Int).tmod 4 == 0) = true) (t2 : ((p : Int) % 4 == 0) = true) (D : ByteArray) (hD : B.extract p (p + 4) = D) (hp : p + 4 ≤ B.size) (hB : B.size ≤ 4096) (hDs : D.size = 4) (w : World) (hT : TabP w) : Calls Tryz.prog 125 #[.agg #[.string N, .int .i64 k, .bool kp, .int .i64 al, .string B, .slice a n c], .agg #[.int .i64 (p : Int), .int .i64 kk, .int .i64 sy, .int .i64 ad]] w (RetB (.bool (fitsI kk (readW (leV D.data.toList)))) w) := by
  obtain ⟨q, hq⟩ : ∃ q, q = p + 4 := ⟨_, rfl⟩
  rw [← hq] at hD
  have hwq : IntKind.i64.wrap ((p : Int) + 4) = (q : Int) := by rw [IntKind.wrap_i64]; omega
  have b0 : (0 : Int) ≤ (p : Int) := by omega
  have b1 : (p : Int) ≤ (q : Int) := by omega
  have b2 : (q : Int) ≤ (B.size : Int) := by omega
  have hv := leV_lt D.data.toList
  rw [show D.data.toList.length = 4 by rw [Array.length_toList]; exact hDs] at hv
  have HN := Lib.hid (fun u => fnumber_any D u (by omega))
  have HF := Lib.hid (fun u (hu : TabP u) => Fits_any kk (leV D.data.toList) u hkk.1 hkk.2 (by omega) hu.1)
  generalize leV D.data.toList = v at *
  have hwv : IntKind.u32.wrap (v : Int) = (v : Int) := by rw [IntKind.wrap_u32]; omega
  have HT := Lib.hid hT
  clear hq hp hB hDs hv hT hkk
  have HW := Lib.hid (two_rb (w := w) (A := #[.string N, .int .i64 k, .bool kp, .int .i64 al, .string B, .slice a n c]) (B := #[.int .i64 (p : Int), .int .i64 kk, .int .i64 sy, .int .i64 ad]) (T := 74) (U := 103))
  obtain ⟨X, hX⟩ : ∃ X, X = w.heap.size := ⟨_, rfl⟩
  rw [← hX] at HW
  go_enter Tryz.func125, Tryz.ntmps125
  go_wp2_with fail
  rw [← hX]
  have HXE := Lib.hid hX
  clear hX
  generalize (w.alloc (.cells #[.string N, .int .i64 k, .bool kp, .int .i64 al, .string B, .slice a n c] 74)).alloc (.cells #[.int .i64 (p : Int), .int .i64 kk, .int .i64 sy, .int .i64 ad] 103) = W at HW ⊢
  have c4 : W.cell? ⟨X, 4, none⟩ = some (.string B) := HW.out.1.cell
  have c1 : W.cell? ⟨X, 1, none⟩ = some (.int .i64 k) := HW.out.1.cell
  have c0 : W.cell? ⟨X + 1, 0, none⟩ = some (.int .i64 (p : Int)) := HW.out.2.1.cell
  have e1 : W.cell? ⟨X + 1, 1, none⟩ = some (.int .i64 kk) := HW.out.2.1.cell
  have HB := Lib.hid HW.out.2.2
  rw [HXE.out] at HB
  first | (go_region_held3 (fun w' => w'.cell? ⟨X, 4, none⟩ = some (.string B) ∧ w'.cell? ⟨X, 1, none⟩ = some (.int .i64 k) ∧ w'.cell? ⟨X + 1, 0, none⟩ = some (.int .i64 (p : Int)) ∧ w'.cell? ⟨X + 1, 1, none⟩ = some (.int .i64 kk)) (go_keep) ((first
    | (go_at_call 146; refine (HN.out _).mono ?_; rintro e u ⟨rfl, rfl⟩)
    | (go_at_call 145; refine (HF.out _ (HT.out.next (HB.out.trans (((Below.refl W.heap.size W).drew).mono HB.out.size)))).mono ?_; rintro e u ⟨rfl, hb⟩; have hb' := ((Below.refl W.heap.size W).drew).trans hb; have s0 : u.cell? ⟨X, 4, none⟩ = some (.string B) := (HW.out.1.next hb').cell; have s1 : u.cell? ⟨X, 1, none⟩ = some (.int .i64 k) := (HW.out.1.next hb').cell; have s2 : u.cell? ⟨X + 1, 0, none⟩ = some (.int .i64 (p : Int)) := (HW.out.2.1.next hb').cell; have s3 : u.cell? ⟨X + 1, 1, none⟩ = some (.int .i64 kk) := (HW.out.2.1.next hb').cell)
    | fail))) | fail
  go_wp2
  go_ret
  exact ⟨rfl, after HB.out hb'⟩
open Go.ChangeShapes Go.WideShapes Go.Deep Go.RowKit

theorem rl_cells {w : World} {b off : Nat} {k : Nat} {t : Rl} (hc : ∀ j, j < 4 → w.cell? ⟨b, off + k * 4 + j, none⟩ = (rlC t)[j]?) :
    w.cell? ⟨b, off + k * 4, none⟩ = some (.int .i64 t.pos) ∧ w.cell? ⟨b, off + k * 4 + 1, none⟩ = some (.int .i64 t.kind) ∧ w.cell? ⟨b, off + k * 4 + 2, none⟩ = some (.int .i64 t.sym) ∧ w.cell? ⟨b, off + k * 4 + 3, none⟩ = some (.int .i64 t.add) :=
  ⟨hc 0 (by omega), hc 1 (by omega), hc 2 (by omega), hc 3 (by omega)⟩
/-- covers, at a relocation that lies within the bytes. -/
theorem cov_any (N B : ByteArray) (k : Int) (kp : Bool) (al : Int) (a : Option Addr) (n c : Nat) (r : Rl) (hr : GoodRl r) (h0 : 0 ≤ r.pos) (h1 : r.pos ≤ (B.size : Int) - szR r.kind) (hB : B.size ≤ 4096) (w : World) (hT : TabP w) :
    Calls Tryz.prog 125 #[.agg #[.string N, .int .i64 k, .bool kp, .int .i64 al, .string B, .slice a n c], .agg #[.int .i64 r.pos, .int .i64 r.kind, .int .i64 r.sym, .int .i64 r.add]] w (RetB (.bool (covR k B.data.toList r)) w) := by
  obtain ⟨pos, kk, sy, ad⟩ := r
  simp only at h0 h1
  obtain ⟨p, rfl⟩ : ∃ p : Nat, pos = p := ⟨pos.toNat, by omega⟩
  have hlen : B.data.toList.length = B.size := by simp
  have hex : ∀ q, (B.extract p q).data.toList = (B.data.toList.drop p).take (q - p) := fun q => by
    rw [ByteArray.data_extract, Array.toList_extract]
  unfold covR
  simp only [Int.toNat_natCast]
  rcases szR_two kk with ⟨e, rfl⟩ | ⟨e, hk⟩
  · rw [e] at h1
    rw [if_pos rfl]
    have := cov_abs N B _ k kp al a n c p sy ad rfl (by omega) hB w
    rw [hex, show p + 8 - p = 8 by omega] at this
    exact this
  · rw [e] at h1
    rw [if_neg hk]
    have rk : (kk == 1) = false := by rw [beq_eq_false_iff_ne]; exact hk
    cases r1 : (k == 1)
    · rw [Bool.false_and]
      exact cov_sec N B k kp al a n c p kk sy ad rk r1 w
    · rw [Bool.true_and]
      have ht : (p : Int).tmod 4 = (p : Int) % 4 := Int.tmod_eq_emod_of_nonneg (by omega)
      cases t2 : ((p : Int) % 4 == 0)
      · rw [Bool.false_and]
        exact cov_odd N B k kp al a n c p kk sy ad rk r1 (by omega) (by rw [ht]; exact t2) t2 w
      · rw [Bool.true_and]
        have hDl := hex (p + 4)
        rw [show p + 4 - p = 4 by omega] at hDl
        have hDs : (B.extract p (p + 4)).size = 4 := by rw [ByteArray.size_extract]; omega
        have := cov_fits N B k kp al a n c p kk sy ad rk hr.2.1 r1 (by rw [ht]; exact t2) t2 _ rfl (by omega) hB hDs w hT
        rw [hDl] at this
        exact this
set_option maxRecDepth 100000 in
set_option maxHeartbeats 8000000 in
theorem pIs_core (N B : ByteArray) (k : Int) (kp : Bool) (al : Int) (a : Option Addr) (n c : Nat) (l : List Rl) (hN : N.size ≤ maxLen) (hBm : B.size ≤ maxLen) (w : World) (hs : SL rlC 4 w w.heap.size a n l) (hg : ∀ r ∈ l, GoodRl r) (hT : TabP w) :
    Calls Tryz.prog 91 #[.agg #[.string N, .int .i64 k, .bool kp, .int .i64 al, .string B, .slice a n c]] w (RetB (.bool (secR ⟨N.data.toList, k, kp, al, B.data.toList, l⟩)) w) := by
  have HT := Lib.hid hT
  have HS := Lib.hid hs
  have hl := Lib.hid hs.len
  have HG := Lib.hid hg
  have hlen : B.data.toList.length = B.size := by simp
  have HLn := Lib.hid hlen
  have HSec : Hid (secR ⟨N.data.toList, k, kp, al, B.data.toList, l⟩ = (isNmL N.data.toList && decide (1 ≤ k) && decide (k ≤ 3) && decide (0 ≤ al) && decide (al ≤ 12) && decide (B.size ≤ 4096) && decide (n ≤ 64) && relsR k B.data.toList 0 l)) := Lib.hid (by
    unfold secR headR
    simp only
    rw [hlen, ← hs.len])
  have HNm := Lib.hid (fun u (hu : TabP u) => IsName_any N hN u hu.2)
  have HB0 : Hid (Below w.heap.size w (w.alloc (.cells #[.string N, .int .i64 k, .bool kp, .int .i64 al, .string B, .slice a n c] 74))) := Lib.hid ((Below.refl _ w).alloc (Nat.le_refl _) _)
  have HX0 : Hid (RB (w.alloc (.cells #[.string N, .int .i64 k, .bool kp, .int .i64 al, .string B, .slice a n c] 74)) w.heap.size #[.string N, .int .i64 k, .bool kp, .int .i64 al, .string B, .slice a n c] 74) := Lib.hid (MapKept.heap_alloc w _).1
  obtain ⟨X, hX⟩ : ∃ X, X = w.heap.size := ⟨_, rfl⟩
  rw [← hX] at HX0
  have HXE := Lib.hid hX
  have hB9 : (B.size : Int) ≤ 9223372036854775807 := by unfold maxLen at hBm; omega
  generalize isNmL N.data.toList = nm at HNm HSec
  generalize secR ⟨N.data.toList, k, kp, al, B.data.toList, l⟩ = R at HSec ⊢
  clear hs hg hT hN hBm hlen
  go_enter Tryz.func91, Tryz.ntmps91
  go_wp2_with fail
  rw [← hX]
  clear hX
  generalize w.alloc (.cells #[.string N, .int .i64 k, .bool kp, .int .i64 al, .string B, .slice a n c] 74) = W0 at HB0 HX0 ⊢
  refine (HNm.out _ (HT.out.next HB0.out)).mono ?_
  rintro e u ⟨rfl, hb⟩
  have HBX := Lib.hid (after HB0.out hb)
  have HX := Lib.hid (HX0.out.next hb)
  have f0 : u.cell? ⟨X, 1, none⟩ = some (.int .i64 k) := HX.out.cell
  have f1 : u.cell? ⟨X, 3, none⟩ = some (.int .i64 al) := HX.out.cell
  have f2 : u.cell? ⟨X, 4, none⟩ = some (.string B) := HX.out.cell
  have f3 : u.cell? ⟨X, 5, none⟩ = some (.slice a n c) := HX.out.cell
  clear hb
  cases nm
  · have HF : Hid (R = false) := Lib.hid (by rw [HSec.out]; rfl)
    go_wp2
    go_ret
    exact retB_bool HF.out.symm HBX.out
  by_cases t1 : k < 1
  · have HF : Hid (R = false) := Lib.hid (by rw [HSec.out, decide_eq_false (p := 1 ≤ k) (by omega)]; simp)
    go_wp2
    go_ret
    exact retB_bool HF.out.symm HBX.out
  by_cases t2 : 3 < k
  · have HF : Hid (R = false) := Lib.hid (by rw [HSec.out, decide_eq_false (p := k ≤ 3) (by omega)]; simp)
    go_wp2
    go_ret
    exact retB_bool HF.out.symm HBX.out
  by_cases t3 : al < 0
  · have HF : Hid (R = false) := Lib.hid (by rw [HSec.out, decide_eq_false (p := 0 ≤ al) (by omega)]; simp)
    go_wp2
    go_ret
    exact retB_bool HF.out.symm HBX.out
  by_cases t4 : 12 < al
  · have HF : Hid (R = false) := Lib.hid (by rw [HSec.out, decide_eq_false (p := al ≤ 12) (by omega)]; simp)
    go_wp2
    go_ret
    exact retB_bool HF.out.symm HBX.out
  by_cases t5 : 4096 < B.size
  · have t5z : (4096 : Int) < (B.size : Int) := by omega
    have HF : Hid (R = false) := Lib.hid (by rw [HSec.out, decide_eq_false (p := B.size ≤ 4096) (by omega)]; simp)
    clear t5
    go_wp2
    go_ret
    exact retB_bool HF.out.symm HBX.out
  have t5z : ¬ (4096 : Int) < (B.size : Int) := by omega
  by_cases t6 : 64 < n
  · have t6z : (64 : Int) < (n : Int) := by omega
    have HF : Hid (R = false) := Lib.hid (by rw [HSec.out, decide_eq_false (p := n ≤ 64) (by omega)]; simp)
    clear t5 t6
    go_wp2
    go_ret
    exact retB_bool HF.out.symm HBX.out
  have t6z : ¬ (64 : Int) < (n : Int) := by omega
  have HR : Hid (R = relsR k B.data.toList 0 l) := Lib.hid (by
    rw [HSec.out, decide_eq_true (p := 1 ≤ k) (by omega), decide_eq_true (p := k ≤ 3) (by omega), decide_eq_true (p := 0 ≤ al) (by omega), decide_eq_true (p := al ≤ 12) (by omega), decide_eq_true (p := B.size ≤ 4096) (by omega), decide_eq_true (p := n ≤ 64) (by omega)]
    rfl)
  have hB4 : B.size ≤ 4096 := by omega
  have hn6 : n ≤ 64 := by omega
  have hws : ∀ z : Int, z = 4 ∨ z = 8 → IntKind.i64.wrap ((B.size : Int) - z) = (B.size : Int) - z := fun z hz => by rw [IntKind.wrap_i64]; omega
  have hw4 := hws 4 (.inl rfl)
  have hw8 := hws 8 (.inr rfl)
  have HB4 := Lib.hid hB4
  clear HSec HNm hws t5 t6 hB9
  go_wp2_with fail
  clear t1 t2 t3 t4 t5z t6z f0 f1 f2 f3
  go_loopg [3, 44] (n) (fun g ev iv wl => ∃ (j : Nat) (e : Int) (u : World), ev = .int .i64 e ∧ iv = .int .i64 (j : Int) ∧ u = wl ∧ j ≤ n ∧ 0 ≤ e ∧ Hid (R = relsR k B.data.toList e (l.drop j)) ∧ Hid (g = n - j) ∧ Hid (Below w.heap.size w u) ∧ Hid (RB u X #[.string N, .int .i64 k, .bool kp, .int .i64 al, .string B, .slice a n c] 74))
  case atStart => exact ⟨0, 0, _, rfl, rfl, rfl, by omega, by omega, Lib.hid (by rw [List.drop_zero]; exact HR.out), Lib.hid rfl, HBX, HX⟩
  case round =>
    clear HBX HX HR
    obtain ⟨j, e, u', rfl, rfl, rfl, hj, he, HA, HGk, HBX, HX⟩ := hrel
    have f2 : u'.cell? ⟨X, 4, none⟩ = some (.string B) := HX.out.cell
    by_cases hlt : j < n
    · have hjl : j < l.length := by rw [← hl.out]; exact hlt
      obtain ⟨b, off, rfl, hbB, hc⟩ := (HS.out.below HBX.out).cells (HS.out.ne (k := j) hlt)
      obtain ⟨d0, d1, d2, d3⟩ := rl_cells (fun i hi => hc j hjl i hi)
      have HD := Lib.hid (drop_cons hjl)
      have HGr : Hid (GoodRl l[j]) := Lib.hid (HG.out _ (List.getElem_mem _))
      generalize l[j] = r at *
      have hji : (j : Int) < (n : Int) := by omega
      have hj0 : (0 : Int) ≤ (j : Int) := by omega
      have HX1 : Hid (R = if badR k B.data.toList e r then false else relsR k B.data.toList (r.pos + szR r.kind) (l.drop (j + 1))) := Lib.hid (by rw [HA.out, HD.out]; rfl)
      clear hc hbB hjl
      have f0 : u'.cell? ⟨X, 1, none⟩ = some (.int .i64 k) := HX.out.cell
      have f1 : u'.cell? ⟨X, 3, none⟩ = some (.int .i64 al) := HX.out.cell
      have f3 : u'.cell? ⟨X, 5, none⟩ = some (.slice _ n c) := HX.out.cell
      have f4 : u'.cell? ⟨X, 0, none⟩ = some (.string N) := HX.out.cell
      have f5 : u'.cell? ⟨X, 2, none⟩ = some (.bool kp) := HX.out.cell
      have HBr : Hid (Below w.heap.size w (u'.alloc (.cells #[.int .i64 r.pos, .int .i64 r.kind, .int .i64 r.sym, .int .i64 r.add] 103))) := Lib.hid (HBX.out.alloc HBX.out.size _)
      have HXr : Hid (RB (u'.alloc (.cells #[.int .i64 r.pos, .int .i64 r.kind, .int .i64 r.sym, .int .i64 r.add] 103)) X #[.string N, .int .i64 k, .bool kp, .int .i64 al, .string B, .slice (some ⟨b, off, none⟩) n c] 74) := Lib.hid (HX.out.next ((Below.refl _ _).alloc (Nat.le_refl _) _))
      have hXl : X < u'.heap.size := lt_of_block HX.out
      rcases szR_two r.kind with ⟨hz, hk⟩ | ⟨hz, hk⟩
      · have rk : (r.kind == 1) = true := by rw [hk]; rfl
        clear hk
        have HZ : Hid (szR r.kind = 8) := Lib.hid hz
        clear hz
        by_cases p1 : r.pos < e
        · have HF : Hid (R = false) := Lib.hid (by rw [HX1.out, if_pos (.inl p1)])
          go_wp2
          go_ret
          exact retB_bool HF.out.symm HBr.out
        by_cases p2 : (B.size : Int) - 8 < r.pos
        · have HF : Hid (R = false) := Lib.hid (by rw [HX1.out, if_pos (.inr (.inl (by rw [HZ.out, HLn.out]; exact p2)))])
          go_wp2
          go_ret
          exact retB_bool HF.out.symm HBr.out
        by_cases p3 : r.sym < 0
        · have HF : Hid (R = false) := Lib.hid (by rw [HX1.out, if_pos (.inr (.inr (.inl p3)))])
          go_wp2
          go_ret
          exact retB_bool HF.out.symm HBr.out
        have HCv := Lib.hid (fun v (hv : TabP v) => cov_any N B k kp al (some ⟨b, off, none⟩) n c r HGr.out (by omega) (by rw [HZ.out]; omega) HB4.out v hv)
        have hwp : IntKind.i64.wrap (r.pos + 8) = r.pos + 8 := by have := HB4.out; rw [IntKind.wrap_i64]; omega
        have hep : 0 ≤ r.pos + 8 := by omega
        cases hcv : covR k B.data.toList r
        · have HF : Hid (R = false) := Lib.hid (by rw [HX1.out, if_pos (.inr (.inr (.inr hcv)))])
          rw [hcv] at HCv
          clear hcv
          go_wp2_with fail
          refine (HCv.out _ (HT.out.next HBr.out)).mono ?_
          rintro e v ⟨rfl, hb⟩
          have HBv := Lib.hid (after HBr.out hb)
          clear hb
          go_wp2
          go_ret
          exact retB_bool HF.out.symm HBv.out
        · have HF : Hid (R = relsR k B.data.toList (r.pos + 8) (l.drop (j + 1))) := Lib.hid (by rw [HX1.out, if_neg (by rintro (h | h | h | h); exact p1 h; rw [HZ.out, HLn.out] at h; exact p2 h; exact p3 h; rw [hcv] at h; cases h), HZ.out])
          rw [hcv] at HCv
          clear hcv
          have hrb : RB (u'.alloc (.cells #[.int .i64 r.pos, .int .i64 r.kind, .int .i64 r.sym, .int .i64 r.add] 103)) u'.heap.size #[.int .i64 r.pos, .int .i64 r.kind, .int .i64 r.sym, .int .i64 r.add] 103 := (MapKept.heap_alloc _ _).1
          have HRB := Lib.hid hrb
          clear hrb
          go_wp2_with fail
          refine (HCv.out _ (HT.out.next HBr.out)).mono ?_
          rintro e v ⟨rfl, hb⟩
          have HBv := Lib.hid (after HBr.out hb)
          have HXv := Lib.hid (HXr.out.next hb)
          have g0 : v.cell? ⟨u'.heap.size, 0, none⟩ = some (.int .i64 r.pos) := (HRB.out.next hb).cell
          clear hb
          go_wp2
          go_roundg (n - (j + 1))
          case measure => have := HGk.out; omega
          case rel => exact ⟨j + 1, r.pos + 8, _, rfl, by go_num, rfl, by omega, hep, HF, Lib.hid rfl, HBv, HXv⟩
      · have rk : (r.kind == 1) = false := by rw [beq_eq_false_iff_ne]; exact hk
        clear hk
        have HZ : Hid (szR r.kind = 4) := Lib.hid hz
        clear hz
        by_cases p1 : r.pos < e
        · have HF : Hid (R = false) := Lib.hid (by rw [HX1.out, if_pos (.inl p1)])
          go_wp2
          go_ret
          exact retB_bool HF.out.symm HBr.out
        by_cases p2 : (B.size : Int) - 4 < r.pos
        · have HF : Hid (R = false) := Lib.hid (by rw [HX1.out, if_pos (.inr (.inl (by rw [HZ.out, HLn.out]; exact p2)))])
          go_wp2
          go_ret
          exact retB_bool HF.out.symm HBr.out
        by_cases p3 : r.sym < 0
        · have HF : Hid (R = false) := Lib.hid (by rw [HX1.out, if_pos (.inr (.inr (.inl p3)))])
          go_wp2
          go_ret
          exact retB_bool HF.out.symm HBr.out
        have HCv := Lib.hid (fun v (hv : TabP v) => cov_any N B k kp al (some ⟨b, off, none⟩) n c r HGr.out (by omega) (by rw [HZ.out]; omega) HB4.out v hv)
        have hwp : IntKind.i64.wrap (r.pos + 4) = r.pos + 4 := by have := HB4.out; rw [IntKind.wrap_i64]; omega
        have hep : 0 ≤ r.pos + 4 := by omega
        cases hcv : covR k B.data.toList r
        · have HF : Hid (R = false) := Lib.hid (by rw [HX1.out, if_pos (.inr (.inr (.inr hcv)))])
          rw [hcv] at HCv
          clear hcv
          go_wp2_with fail
          refine (HCv.out _ (HT.out.next HBr.out)).mono ?_
          rintro e v ⟨rfl, hb⟩
          have HBv := Lib.hid (after HBr.out hb)
          clear hb
          go_wp2
          go_ret
          exact retB_bool HF.out.symm HBv.out
        · have HF : Hid (R = relsR k B.data.toList (r.pos + 4) (l.drop (j + 1))) := Lib.hid (by rw [HX1.out, if_neg (by rintro (h | h | h | h); exact p1 h; rw [HZ.out, HLn.out] at h; exact p2 h; exact p3 h; rw [hcv] at h; cases h), HZ.out])
          rw [hcv] at HCv
          clear hcv
          have hrb : RB (u'.alloc (.cells #[.int .i64 r.pos, .int .i64 r.kind, .int .i64 r.sym, .int .i64 r.add] 103)) u'.heap.size #[.int .i64 r.pos, .int .i64 r.kind, .int .i64 r.sym, .int .i64 r.add] 103 := (MapKept.heap_alloc _ _).1
          have HRB := Lib.hid hrb
          clear hrb
          go_wp2_with fail
          refine (HCv.out _ (HT.out.next HBr.out)).mono ?_
          rintro e v ⟨rfl, hb⟩
          have HBv := Lib.hid (after HBr.out hb)
          have HXv := Lib.hid (HXr.out.next hb)
          have g0 : v.cell? ⟨u'.heap.size, 0, none⟩ = some (.int .i64 r.pos) := (HRB.out.next hb).cell
          clear hb
          go_wp2
          go_roundg (n - (j + 1))
          case measure => have := HGk.out; omega
          case rel => exact ⟨j + 1, r.pos + 4, _, rfl, by go_num, rfl, by omega, hep, HF, Lib.hid rfl, HBv, HXv⟩
    · have HF : Hid (R = true) := Lib.hid (by rw [HA.out, List.drop_eq_nil_of_le (by have := hl.out; omega)]; rfl)
      have hnj : ¬ (j : Int) < (n : Int) := by omega
      go_wp2
      go_ret
      exact retB_bool HF.out.symm HBX.out
theorem pIs_any (s : Sc) (a : Option Addr) (n c : Nat) (w : World) (hs : SL rlC 4 w w.heap.size a n s.rels) (hg : GoodSc s) (hT : TabP w) : Calls Tryz.prog 91 #[scV s a n c] w (RetB (.bool (secR s)) w) :=
  pIs_core ⟨s.name.toArray⟩ ⟨s.data.toArray⟩ s.kind s.keep s.align a n c s.rels (by show s.name.toArray.size ≤ maxLen; simpa using hg.name) (by show s.data.toArray.size ≤ maxLen; simpa using hg.data) w hs hg.rels hT
end Go.Proofs.YtdgfadabaejkhaaGreatDoor
