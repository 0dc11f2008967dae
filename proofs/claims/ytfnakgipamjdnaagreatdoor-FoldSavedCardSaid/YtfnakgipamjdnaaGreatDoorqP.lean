/- fold, plain: what the laws ask of what is told; rows of bools as an argument. fold's law: good. -/
import Derived.Test.YtfnakgipamjdnaaGreatDoorqO
import Derived.Deep.Grids

namespace Go.Proofs.YtfnakgipamjdnaaGreatDoor
set_option linter.unusedVariables false
set_option linter.unusedSimpArgs false
open Go.ChangeShapes Go.WideShapes Go.Deep Go.RowKit

/- What a good partition is. -/
def RefQ (n : Nat) (ins : List Bool) (l : List Int) (a b : Int) : Prop :=
  0 ≤ a ∧ a < n ∧ 0 ≤ b ∧ b < n ∧ (a = b ∨ (ins[a.toNat]? = some true ∧ ins[b.toNat]? = some true ∧ l[a.toNat]? = l[b.toNat]?))
def PairQ (S : List Sc) (ins : List Bool) (l : List Int) (i k : Nat) : Prop :=
  ins[i]? = some true → ins[k]? = some true → l[i]? = l[k]? → ∀ (s t : Sc), S[i]? = some s → S[k]? = some t →
    alikeB s t = true ∧ ∀ (j : Nat) (r r' : Rl), s.rels[j]? = some r → t.rels[j]? = some r' → RefQ S.length ins l r.sym r'.sym
def GoodQ (S : List Sc) (ins : List Bool) (l : List Int) : Prop := ∀ (i k : Nat), i < S.length → k < i → PairQ S ins l i k
theorem alike_len {s t : Sc} (h : alikeB s t = true) : s.rels.length = t.rels.length := by
  unfold alikeB alRs at h
  simp only [Bool.and_eq_true, decide_eq_true_eq] at h
  exact h.2.2.2.1
theorem alR_iff {x y : Rl} : alR x y = true ↔ x.pos = y.pos ∧ x.kind = y.kind ∧ x.add = y.add := by
  unfold alR
  simp only [Bool.and_eq_true, beq_iff_eq]
theorem alike_iff {S : List Sc} {i k : Nat} {s t : Sc} (hs : S[i]? = some s) (ht : S[k]? = some t) : alikeB s t = true ↔ s.kind = 1 ∧ t.kind = 1 ∧ sgnA S i = sgnA S k := by
  rw [sgnA_eq hs ht, num3_eq]
  unfold alikeB
  simp only [Bool.and_eq_true, decide_eq_true_eq]
  constructor
  · rintro ⟨h1, h2, h3, h4⟩
    have hl : s.rels.length = t.rels.length := by
      unfold alRs at h4
      simp only [Bool.and_eq_true, decide_eq_true_eq] at h4
      exact h4.1
    exact ⟨h1, h2, h3, hl, fun j r r' hr hr' => alR_iff.1 ((alRs_iff hl).1 h4 j r r' hr hr')⟩
  · rintro ⟨h1, h2, h3, hl, h4⟩
    exact ⟨h1, h2, h3, (alRs_iff hl).2 fun j r r' hr hr' => alR_iff.2 (h4 j r r' hr hr')⟩
theorem okU_of {S : List Sc} {ins : List Bool} {k : Nat} {s : Sc} (h1 : ins[k]? = some true) (hs : S[k]? = some s) (h2 : s.kind = 1) : okU S ins k = true := by
  unfold okU
  rw [h1, hs]
  simp [h2]
theorem foldN_get (S : List Sc) (ins : List Bool) (j : Nat) {k : Nat} (h : k < S.length) : ∃ sg, (∀ q, q < S.length → (foldN S ins j)[q]? = some ((partG (okU S ins) sg q : Nat) : Int)) := by
  obtain ⟨sg, hsg⟩ := (foldN_fix S ins j).isP
  exact ⟨sg, fun q hq => by rw [hsg]; exact partZ_get hq⟩
theorem endL_len (ins : List Bool) (P : List Int) : (endL ins P).length = P.length := by unfold endL; simp
theorem endL_get {ins : List Bool} {P : List Int} {k : Nat} {v : Int} (h : P[k]? = some v) : (endL ins P)[k]? = some (if ins[k]? = some true then v else -1) := by
  have hk : k < P.length := (List.getElem?_eq_some_iff.1 h).1
  unfold endL
  rw [List.getElem?_map, List.getElem?_range hk]
  simp only [Option.map_some, h, Option.getD_some]
theorem endL_in {ins : List Bool} {P : List Int} {k : Nat} (hk : k < P.length) (h : ins[k]? = some true) : (endL ins P)[k]? = P[k]? := by
  rw [endL_get (List.getElem?_eq_getElem hk), if_pos h, List.getElem?_eq_getElem hk]
theorem endL_out {ins : List Bool} {P : List Int} {k : Nat} (hk : k < P.length) (h : ins[k]? = some false) : (endL ins P)[k]? = some (-1) := by
  rw [endL_get (List.getElem?_eq_getElem hk), if_neg (by rw [h]; simp)]
/-- Of a unit that is in its own least one is told. -/
theorem end_least {S : List Sc} {ins : List Bool} {j k : Nat} (hk : k < S.length) (hi : ins[k]? = some true) :
    ∃ p : Nat, (endL ins (foldN S ins j))[k]? = some (p : Int) ∧ p ≤ k ∧ ins[p]? = some true ∧ (endL ins (foldN S ins j))[p]? = some (p : Int) := by
  obtain ⟨sg, hsg⟩ := foldN_get S ins j hk
  have hl := foldN_len S ins j
  have hle := partG_le (ok := okU S ins) (sg := sg) k
  have hip : ins[partG (okU S ins) sg k]? = some true := by
    cases ho : okU S ins k
    · rw [partG_not ho]; exact hi
    · exact (okU_lt (partG_ok (sg := sg) ho).2.1).2.1
  refine ⟨partG (okU S ins) sg k, ?_, hle, hip, ?_⟩
  · rw [endL_in (by omega) hi, hsg k hk]
  · rw [endL_in (by omega) hip, hsg _ (by omega), partG_idem]
theorem end_out {S : List Sc} {ins : List Bool} {j k : Nat} (hk : k < S.length) (hi : ins[k]? = some false) : (endL ins (foldN S ins j))[k]? = some (-1) :=
  endL_out (by rw [foldN_len]; exact hk) hi
theorem encT_get {P : List Int} {s t : Sc} (h : encT (refsP P s) = encT (refsP P t)) {j : Nat} {r r' : Rl} (hr : s.rels[j]? = some r) (hr' : t.rels[j]? = some r') : (P[r.sym.toNat]?).getD 0 = (P[r'.sym.toNat]?).getD 0 := by
  have h1 := congrArg (fun x => x[j]?) (encT_inj h)
  simp only [refsP, List.getElem?_map, hr, hr', Option.map_some, Option.some.injEq] at h1
  exact h1
/-- What is told is good. -/
theorem end_good {S : List Sc} {ins : List Bool} {j : Nat} (hu : unitsR S = true) (hin : ins.length = S.length) (hfx : nextP S ins (foldN S ins j) = foldN S ins j) : GoodQ S ins (endL ins (foldN S ins j)) := by
  intro i k hi hki hii hik hl s t hs ht
  have hk : k < S.length := by omega
  have hlen := foldN_len S ins j
  rw [endL_in (by omega) hii, endL_in (by omega) hik] at hl
  obtain ⟨sg, hsg⟩ := foldN_get S ins j hi
  have hne : i ≠ k := by omega
  have hpe : partG (okU S ins) sg i = partG (okU S ins) sg k := by
    rw [hsg i hi, hsg k hk] at hl
    have := Option.some.inj hl; omega
  obtain ⟨o1, o2⟩ := partG_both hpe hne
  obtain ⟨-, -, s', hs', ks⟩ := okU_lt o1
  obtain ⟨-, -, t', ht', kt⟩ := okU_lt o2
  rw [hs] at hs'; cases hs'
  rw [ht] at ht'; cases ht'
  refine ⟨(alike_iff hs ht).2 ⟨ks, kt, (foldN_fix S ins j).alike i k hi hk o1 o2 hl⟩, fun q r r' hr hr' => ?_⟩
  obtain ⟨a0, a1⟩ := (units_sec hu hs).2 r (List.mem_of_getElem? hr)
  obtain ⟨b0, b1⟩ := (units_sec hu ht).2 r' (List.mem_of_getElem? hr')
  refine ⟨a0, a1, b0, b1, ?_⟩
  by_cases e : r.sym = r'.sym
  · exact .inl e
  right
  have hn : partG (okU S ins) (sgnB S (foldN S ins j)) i = partG (okU S ins) (sgnB S (foldN S ins j)) k := by
    have h1 := hl
    rw [← hfx] at h1
    unfold nextP at h1
    rw [partZ_get hi, partZ_get hk] at h1
    have := Option.some.inj h1; omega
  have hsb := congrArg Sg.refs ((partG_eq o1 o2).1 hn)
  simp only [sgnB, hs, ht] at hsb
  have hv := encT_get hsb hr hr'
  have la : r.sym.toNat < S.length := by omega
  have lb : r'.sym.toNat < S.length := by omega
  rw [hsg _ la, hsg _ lb, Option.getD_some, Option.getD_some] at hv
  have hv2 : partG (okU S ins) sg r.sym.toNat = partG (okU S ins) sg r'.sym.toNat := by omega
  obtain ⟨p1, p2⟩ := partG_both hv2 (by omega)
  have i1 := (okU_lt p1).2.1
  have i2 := (okU_lt p2).2.1
  refine ⟨i1, i2, ?_⟩
  rw [endL_in (by omega) i1, endL_in (by omega) i2, hsg _ la, hsg _ lb, hv2]
/-- Each good partition is finer. -/
theorem good_finer {S : List Sc} {ins : List Bool} {j : Nat} {Q : List Int} (hq : Q.length = S.length) (hg : GoodQ S ins Q) {i k : Nat} (hi : i < S.length) (hki : k < i) (h1 : ins[i]? = some true) (h2 : ins[k]? = some true) (h3 : Q[i]? = Q[k]?) :
    (endL ins (foldN S ins j))[i]? = (endL ins (foldN S ins j))[k]? := by
  have hlen := foldN_len S ins j
  rw [endL_in (by omega) h1, endL_in (by omega) h2]
  have back : ∀ x y, x < S.length → y < S.length → (Q[x]?).getD 0 = (Q[y]?).getD 0 → Q[x]? = Q[y]? := by
    intro x y hx hy h
    rw [List.getElem?_eq_getElem (by omega), List.getElem?_eq_getElem (by omega)] at h ⊢
    simpa using h
  refine (foldN_fix S ins j).coarse (fun x => (Q[x]?).getD 0) ?_ i k hi (by omega) h1 h2 (by show (Q[i]?).getD 0 = (Q[k]?).getD 0; rw [h3])
  intro a b ha hb ia ib hQ
  have hs := List.getElem?_eq_getElem ha
  have ht := List.getElem?_eq_getElem (show b < S.length by omega)
  obtain ⟨g1, g2⟩ := hg a b ha hb ia ib (back a b ha (by omega) hQ) _ _ hs ht
  obtain ⟨k1, k2, k3⟩ := (alike_iff hs ht).1 g1
  refine ⟨okU_of ia hs k1, okU_of ib ht k2, k3, ?_⟩
  intro s t hs' ht'
  rw [hs] at hs'; cases hs'
  rw [ht] at ht'; cases ht'
  refine ⟨alike_len g1, fun q r r' hr hr' => ?_⟩
  obtain ⟨a0, a1, b0, b1, h⟩ := g2 q r r' hr hr'
  rcases h with h | ⟨c1, c2, c3⟩
  · exact .inl (by rw [h])
  · exact .inr ⟨by omega, by omega, c1, c2, by rw [c3]⟩

/- What is saved is what there is, less what is left. -/
def allS (S : List Sc) (ins : List Bool) : Nat → Nat
  | 0 => 0
  | k + 1 => allS S ins k + (if ins[k]? = some true then dataN S k else 0)
def leftS (S : List Sc) (l : List Int) : Nat → Nat
  | 0 => 0
  | k + 1 => leftS S l k + (if l[k]? = some (k : Int) then dataN S k else 0)
theorem all_left {S : List Sc} {ins : List Bool} {j : Nat} : ∀ k, k ≤ S.length → ins.length = S.length → allS S ins k = leftS S (endL ins (foldN S ins j)) k + savS S ins (endL ins (foldN S ins j)) k
  | 0, _, _ => rfl
  | k + 1, h, hin => by
    have ih := all_left (j := j) k (by omega) hin
    show allS S ins k + _ = (leftS S _ k + _) + (savS S ins _ k + _)
    rw [ih]
    by_cases hi : ins[k]? = some true
    · rw [if_pos hi]
      by_cases hl : (endL ins (foldN S ins j))[k]? = some (k : Int)
      · rw [if_pos hl, if_neg (by rw [hl]; simp)]; omega
      · rw [if_neg hl, if_pos ⟨hi, hl⟩]; omega
    · have hf : ins[k]? = some false := by
        rw [List.getElem?_eq_getElem (by omega)] at hi ⊢
        cases h : ins[k] <;> simp_all
      rw [if_neg hi, if_neg (by rw [end_out (by omega) hf]; intro h; have := Option.some.inj h; omega), if_neg (fun h => hi h.1)]; omega
theorem allS_le {S : List Sc} {ins : List Bool} (h : ∀ s ∈ S, s.data.length ≤ 4096) : ∀ k, allS S ins k ≤ 4096 * k
  | 0 => Nat.le_refl _
  | k + 1 => by
    have h1 := allS_le (ins := ins) h k
    have h2 : dataN S k ≤ 4096 := by
      unfold dataN
      cases hs : S[k]? with
      | none => simp
      | some s => exact h s (List.mem_of_getElem? hs)
    show allS S ins k + _ ≤ _
    split <;> omega

set_option maxRecDepth 100000 in
set_option maxHeartbeats 600000 in
theorem open_Bools {H : Type} {encH : TypeId × Value → H} {W : World} {base : Nat} {v : Value} {d : DataW H} {p : List MemPlace}
    (hv : Value.okWide Tryz.prog W .any base 58 v) (h : DataW.Trod encH Tryz.prog W 0 (fun _ => true) true 58 v d p) :
    ∃ (a : Option Addr) (n c : Nat) (l : List Bool), v = .slice a n c ∧ n ≤ maxLen ∧ SL enB 1 W W.heap.size a n l ∧ (a = none → n = 0 ∧ c = 0) := by
  obtain ⟨a0, len0, cap0, rfl⟩ := okWide_slice Tryz.underlying58 hv
  obtain ⟨fuel, hf⟩ := h
  simp only [Value.cells] at hf
  rcases Go.Deep.open_bools Tryz.underlying58 Tryz.underlying4 (by kernel_rfl) hf with ⟨hcs, hx⟩ | ⟨a, len, cap, F, hcs, hb, hl, hm, hx, hc⟩
  · simp only [List.cons.injEq, and_true] at hcs
    cases hcs
    exact ⟨none, 0, 0, [], rfl, by unfold maxLen; omega, SL.nil _ _ _, fun _ => ⟨rfl, rfl⟩⟩
  · simp only [List.cons.injEq, and_true] at hcs
    cases hcs
    refine ⟨some a, len0, cap0, (List.range len0).map F, rfl, by omega, ⟨by simp, fun hne => ?_⟩, by simp⟩
    have hl0 : 0 < len0 := by
      rcases Nat.eq_zero_or_pos len0 with h | h
      · subst h; simp at hne
      · exact h
    have h00 := hc 0 (by omega)
    have ea : a.add 0 = a := by simp [Addr.add]
    rw [ea] at h00
    have hal : a.block < W.heap.size := cell_lt h00
    obtain ⟨b, off, el⟩ := a
    have hel' : el = none := cell_spot h00
    subst hel'
    refine ⟨b, off, rfl, hal, fun k hk j hj => ?_⟩
    have : j = 0 := by omega
    subst this
    have hk' : k < len0 := by simpa using hk
    have := hc k (by omega)
    rw [add_none] at this
    rw [show off + k * 1 + 0 = off + k from by omega, this]
    simp [enB]
end Go.Proofs.YtfnakgipamjdnaaGreatDoor

namespace Go.Proofs.YtfnakgipamjdnaaGreatDoor
set_option linter.unusedVariables false
set_option linter.unusedSimpArgs false
open Go.ChangeShapes Go.WideShapes Go.Deep Go.RowKit

theorem goodQ_no {S : List Sc} {ins : List Bool} {l : List Int} {i k : Nat} (hi : i < S.length) (hk : k < i) (h : ¬ PairQ S ins l i k) : ¬ GoodQ S ins l := fun hg => h (hg i k hi hk)
def GoodP (S : List Sc) (ins : List Bool) (l : List Int) (w : World) (e : Ending) (w' : World) : Prop := ∃ r : Bool, e = .returned (.bool r) ∧ (r = true ↔ GoodQ S ins l) ∧ Below w.heap.size w w'
/-- What stands while a unit is held against those ahead of it. -/
structure GQ (w : World) (S : List Sc) (ins : List Bool) (l : List Int) (i k : Nat) (u : World) : Prop where
  kk : Below w.heap.size w u
  before : ∀ (a b : Nat), a < i → b < a → PairQ S ins l a b
  row : ∀ b, b < k → PairQ S ins l i b
theorem GQ.drew {w u v : World} {S : List Sc} {ins : List Bool} {l : List Int} {i k : Nat} (h : GQ w S ins l i k u) (hb : Below u.heap.size u v) : GQ w S ins l i k v := ⟨after h.kk hb, h.before, h.row⟩
theorem GQ.one {w u : World} {S : List Sc} {ins : List Bool} {l : List Int} {i k : Nat} (h : GQ w S ins l i k u) (hp : PairQ S ins l i k) : GQ w S ins l i (k + 1) u :=
  ⟨h.kk, h.before, fun b hb => by rcases Nat.lt_or_ge b k with h1 | h1; exact h.row b h1; rwa [show b = k by omega]⟩
theorem GQ.up {w u : World} {S : List Sc} {ins : List Bool} {l : List Int} {i : Nat} (h : GQ w S ins l i i u) : GQ w S ins l (i + 1) 0 u :=
  ⟨h.kk, fun a b ha hb => by rcases Nat.lt_or_ge a i with h1 | h1; exact h.before a b h1 hb; rw [show a = i by omega] at hb ⊢; exact h.row b hb, fun b hb => by omega⟩
set_option maxRecDepth 100000 in
set_option maxHeartbeats 12000000 in
theorem good_any (w : World) (ua : Option Addr) (n uc : Nat) (L : List Ms) (ia : Option Addr) (ic : Nat) (ins : List Bool) (la : Option Addr) (lc : Nat) (l : List Int) (hs : SL msC 6 w w.heap.size ua n L) (hno : Notes w w.heap.size L) (hi : SL enB 1 w w.heap.size ia n ins) (hl : SL enZ 1 w w.heap.size la n l) (h : unitsR (L.map (·.sc)) = true) :
    Calls Tryz.prog 58 #[.slice ua n uc, .slice ia n ic, .slice la n lc] w (GoodP (L.map (·.sc)) ins l w) := by
  obtain ⟨S, hS⟩ : ∃ S, S = L.map (·.sc) := ⟨_, rfl⟩
  have hSl : S.length = n := by rw [hS, List.length_map]; exact hs.len.symm
  have hn2 : n ≤ 256 := by have := units_len h; rw [← hS, hSl] at this; exact this
  have hni : (n : Int) ≤ 256 := by omega
  have HSec : Hid (∀ (q : Nat) (s : Sc), S[q]? = some s → SecOk s ∧ ∀ r ∈ s.rels, 0 ≤ r.sym ∧ r.sym < (n : Int)) := Lib.hid (by
    intro q s hq
    have := units_sec h (by rw [← hS]; exact hq)
    rw [← hS, hSl] at this; exact this)
  have HU := Lib.hid (fun u (hu : Below w.heap.size w u) => hs.next hu)
  have HNo := Lib.hid (fun u (hu : Below w.heap.size w u) => hno.next hu)
  have HIn := Lib.hid (fun u (hu : Below w.heap.size w u) => hi.next hu)
  have HLi := Lib.hid (fun u (hu : Below w.heap.size w u) => hl.next hu)
  have HSe := Lib.hid hS
  have HSl := Lib.hid hSl
  have HUl := Lib.hid hs.len
  have HIl := Lib.hid hi.len
  have HLl := Lib.hid hl.len
  have HG0 : Hid (GQ w S ins l 0 0 w) := Lib.hid ⟨Below.refl _ _, fun a b ha => by omega, fun b hb => by omega⟩
  rw [← hS]
  clear hs hno hi hl h hS hSl hn2
  go_enter Tryz.func58, Tryz.ntmps58
  go_wp2_with fail
  go_loopw [7] (fun i wr => ∃ (k : Nat) (wx : World), wx = wr ∧ k ≤ n ∧ i = .int .i64 k ∧ Hid (GQ w S ins l k 0 wx)) (fun i _ => n - (intOf i).toNat)
  case atStart => exact ⟨0, _, rfl, by omega, rfl, HG0⟩
  case round =>
    clear HG0
    obtain ⟨i, wx, rfl, hi, rfl, HG⟩ := hrel
    by_cases hlt : i < n
    · have hlti : (i : Int) < (n : Int) := by omega
      have HLT := Lib.hid hlt
      go_wp2
      go_loopw [8] (fun k wr => ∃ (j : Nat) (wx : World), wx = wr ∧ j ≤ i ∧ k = .int .i64 j ∧ Hid (GQ w S ins l i j wx)) (fun k _ => i - (intOf k).toNat)
      case atStart => exact ⟨0, _, rfl, by omega, rfl, HG⟩
      case round =>
        clear HG
        obtain ⟨k, wx, rfl, hk, rfl, HG⟩ := hrel
        by_cases hlk : k < i
        · have hlki : (k : Int) < (i : Int) := by omega
          have hlkn : (k : Int) < (n : Int) := by omega
          have HLK := Lib.hid hlk
          have hkk := HG.out.kk
          have hsl := HIn.out wx hkk
          have hul := HU.out wx hkk
          have hll := HLi.out wx hkk
          have hiI : i < ins.length := by rw [← HIl.out]; exact hlt
          have hkI : k < ins.length := by omega
          have hiL : i < L.length := by rw [← HUl.out]; exact hlt
          have hkL : k < L.length := by omega
          have hil : i < l.length := by rw [← HLl.out]; exact hlt
          have hkl : k < l.length := by omega
          obtain ⟨ib, io, hia, -, -⟩ := hsl.cells (by intro e; rw [e] at hkI; simp at hkI)
          obtain ⟨ub, uo, hua, -, -⟩ := hul.cells (by intro e; rw [e] at hkL; simp at hkL)
          obtain ⟨lb, lo, hla, -, -⟩ := hll.cells (by intro e; rw [e] at hkl; simp at hkl)
          subst hia
          subst hua
          subst hla
          obtain ⟨bi, hbi⟩ : ∃ b, ins[i]? = some b := ⟨_, List.getElem?_eq_getElem hiI⟩
          obtain ⟨bk, hbk⟩ : ∃ b, ins[k]? = some b := ⟨_, List.getElem?_eq_getElem hkI⟩
          obtain ⟨vi, hvi⟩ : ∃ b, l[i]? = some b := ⟨_, List.getElem?_eq_getElem hil⟩
          obtain ⟨vk, hvk⟩ : ∃ b, l[k]? = some b := ⟨_, List.getElem?_eq_getElem hkl⟩
          obtain ⟨mi, hmi⟩ : ∃ m, L[i]? = some m := ⟨_, List.getElem?_eq_getElem hiL⟩
          obtain ⟨mk, hmk⟩ : ∃ m, L[k]? = some m := ⟨_, List.getElem?_eq_getElem hkL⟩
          have i0 : wx.cell? ⟨ib, io + i, none⟩ = some (.bool bi) := bools_cells hsl (Below.refl _ _) hbi
          have i1 : wx.cell? ⟨ib, io + k, none⟩ = some (.bool bk) := bools_cells hsl (Below.refl _ _) hbk
          have l0 : wx.cell? ⟨lb, lo + i, none⟩ = some (.int .i64 vi) := ints_cells hll (Below.refl _ _) hvi
          have l1 : wx.cell? ⟨lb, lo + k, none⟩ = some (.int .i64 vk) := ints_cells hll (Below.refl _ _) hvk
          have HCi := Lib.hid (unit_cells hul (Below.refl _ _) hmi)
          have HCk := Lib.hid (unit_cells hul (Below.refl _ _) hmk)
          have HNi := Lib.hid (HNo.out wx hkk mi (List.mem_of_getElem? hmi))
          have HNk := Lib.hid (HNo.out wx hkk mk (List.mem_of_getElem? hmk))
          have HSi : Hid (S[i]? = some mi.sc) := Lib.hid (by rw [HSe.out, List.getElem?_map, hmi]; rfl)
          have HSk : Hid (S[k]? = some mk.sc) := Lib.hid (by rw [HSe.out, List.getElem?_map, hmk]; rfl)
          have HMi := Lib.hid hmi
          have HMk := Lib.hid hmk
          have HBi := Lib.hid hbi
          have HBk := Lib.hid hbk
          have HVi := Lib.hid hvi
          have HVk := Lib.hid hvk
          clear hkk hsl hul hll hiI hkI hiL hkL hil hkl hbi hbk hvi hvk hmi hmk hlt hlk
          have hcs : (bi = false ∨ bk = false ∨ vi ≠ vk) ∨ (bi = true ∧ bk = true ∧ vi = vk) := by
            cases bi
            · exact .inl (.inl rfl)
            · cases bk
              · exact .inl (.inr (.inl rfl))
              · by_cases e : vi = vk
                · exact .inr ⟨rfl, rfl, e⟩
                · exact .inl (.inr (.inr e))
          rcases hcs with hcs | ⟨rfl, rfl, rfl⟩
          · have HN : Hid (GQ w S ins l i (k + 1) wx) := Lib.hid (HG.out.one (fun h1 h2 h3 => by
              rw [HBi.out] at h1
              rw [HBk.out] at h2
              rw [HVi.out, HVk.out] at h3
              rcases hcs with h | h | h
              · rw [h] at h1; cases h1
              · rw [h] at h2; cases h2
              · exact absurd (Option.some.inj h3) h))
            rcases hcs with rfl | rfl | hne
            · go_wp2
              go_quiet (fail)
              go_wp2
              go_roundw
              case rel => exact ⟨k + 1, _, rfl, by have := HLK.out; omega, by go_num, Lib.hid (HN.out.drew (below_drewN (Below.refl _ _) _))⟩
              case measure => have := HLK.out; simp [intOf]; omega
            · cases bi
              all_goals
                go_wp2
                go_quiet (fail)
                go_wp2
                go_roundw
                case rel => exact ⟨k + 1, _, rfl, by have := HLK.out; omega, by go_num, Lib.hid (HN.out.drew (below_drewN (Below.refl _ _) _))⟩
                case measure => have := HLK.out; simp [intOf]; omega
            · have t1 : (vi != vk) = true := by simp [hne]
              have t2 : (vi == vk) = false := by simp [hne]
              clear hne
              cases bi
              · go_wp2
                go_quiet (fail)
                go_wp2
                go_roundw
                case rel => exact ⟨k + 1, _, rfl, by have := HLK.out; omega, by go_num, Lib.hid (HN.out.drew (below_drewN (Below.refl _ _) _))⟩
                case measure => have := HLK.out; simp [intOf]; omega
              · cases bk
                all_goals
                  go_wp2
                  go_quiet (fail)
                  go_wp2
                  go_roundw
                  case rel => exact ⟨k + 1, _, rfl, by have := HLK.out; omega, by go_num, Lib.hid (HN.out.drew (below_drewN (Below.refl _ _) _))⟩
                  case measure => have := HLK.out; simp [intOf]; omega
          · have t1 : (vi != vi) = false := by simp
            have t2 : (vi == vi) = true := by simp
            go_wp2
            go_quiet (fail)
            obtain ⟨wq, hwq⟩ : ∃ x, x = wx.drewN nq := ⟨_, rfl⟩
            have hbq : Below wx.heap.size wx wq := by rw [hwq]; exact below_drewN (Below.refl _ _) _
            rw [← hwq]
            clear hwq i0 i1 l0 l1 HCi HCk
            replace HG := Lib.hid (HG.out.drew hbq)
            clear HNi HNk hbq
            go_wp2_with fail
            obtain ⟨v0, hv0⟩ : ∃ x, x = wq.drew := ⟨_, rfl⟩
            have hbd : Below wq.heap.size wq v0 := by rw [hv0]; exact (Below.refl _ _).drew
            replace HG := Lib.hid (HG.out.drew hbd)
            have hkk := HG.out.kk
            have hul := HU.out v0 hkk
            obtain ⟨y0, y1, y2, y3, y4, y5⟩ := unit_cells hul (Below.refl _ _) HMi.out
            obtain ⟨z0, z1, z2, z3, z4, z5⟩ := unit_cells hul (Below.refl _ _) HMk.out
            have HNi := Lib.hid (HNo.out v0 hkk mi (List.mem_of_getElem? HMi.out))
            have HNk := Lib.hid (HNo.out v0 hkk mk (List.mem_of_getElem? HMk.out))
            clear hkk hul hbd HMi HMk
            have HV0 := Lib.hid hv0
            clear hv0
            obtain ⟨⟨mn, mk0, mp, ml, md, mr⟩, ma, mc⟩ := mi
            obtain ⟨⟨nn, nk0, np, nl, nd, nr⟩, na, nc⟩ := mk
            simp only at y0 y1 y2 y3 y4 y5 z0 z1 z2 z3 z4 z5 HNi HNk HSi HSk
            obtain ⟨si, hsi⟩ : ∃ s, s = (⟨mn, mk0, mp, ml, md, mr⟩ : Sc) := ⟨_, rfl⟩
            obtain ⟨sk, hsk⟩ : ∃ s, s = (⟨nn, nk0, np, nl, nd, nr⟩ : Sc) := ⟨_, rfl⟩
            have hoi := (HSec.out i _ HSi.out).1.rels
            have hok := (HSec.out k _ HSk.out).1.rels
            simp only at hoi hok
            have HAl := Lib.hid (alike_any ⟨mn.toArray⟩ ⟨md.toArray⟩ ⟨nn.toArray⟩ ⟨nd.toArray⟩ mk0 nk0 ml nl mp np ma na mr.length nr.length mc nc mr nr v0 (by omega) (by omega) HNi.out HNk.out mn nn)
            have HQi : Hid (∀ r ∈ mr, 0 ≤ r.sym ∧ r.sym < (n : Int)) := Lib.hid (HSec.out i _ HSi.out).2
            have HQk : Hid (∀ r ∈ nr, 0 ≤ r.sym ∧ r.sym < (n : Int)) := Lib.hid (HSec.out k _ HSk.out).2
            obtain ⟨N1, hN1⟩ : ∃ N : ByteArray, N = ⟨mn.toArray⟩ := ⟨_, rfl⟩
            obtain ⟨D1, hD1⟩ : ∃ N : ByteArray, N = ⟨md.toArray⟩ := ⟨_, rfl⟩
            obtain ⟨N2, hN2⟩ : ∃ N : ByteArray, N = ⟨nn.toArray⟩ := ⟨_, rfl⟩
            obtain ⟨D2, hD2⟩ : ∃ N : ByteArray, N = ⟨nd.toArray⟩ := ⟨_, rfl⟩
            obtain ⟨B, hB⟩ : ∃ B, B = alikeB ⟨mn, mk0, mp, ml, md, mr⟩ ⟨nn, nk0, np, nl, nd, nr⟩ := ⟨_, rfl⟩
            rw [← hsi] at hB HSi
            rw [← hsk] at hB HSk
            have e1 : (⟨mn, mk0, mp, ml, (⟨md.toArray⟩ : ByteArray).data.toList, mr⟩ : Sc) = si := hsi.symm
            have e2 : (⟨nn, nk0, np, nl, (⟨nd.toArray⟩ : ByteArray).data.toList, nr⟩ : Sc) = sk := hsk.symm
            rw [e1, e2, ← hB] at HAl
            rw [← hN1] at y0 HAl
            rw [← hD1] at y4 HAl
            rw [← hN2] at z0 HAl
            rw [← hD2] at z4 HAl
            have HRi : Hid (si.rels = mr) := Lib.hid (by rw [hsi])
            have HRk : Hid (sk.rels = nr) := Lib.hid (by rw [hsk])
            obtain ⟨pn, hpn⟩ : ∃ r, r = mr.length := ⟨_, rfl⟩
            obtain ⟨qn, hqn⟩ : ∃ r, r = nr.length := ⟨_, rfl⟩
            rw [← hpn] at y5 HAl hoi
            rw [← hqn] at z5 HAl hok
            have HPn := Lib.hid hpn
            have HQn := Lib.hid hqn
            have HBe := Lib.hid hB
            have hpi : (pn : Int) ≤ 64 := by omega
            have hqi : (qn : Int) ≤ 64 := by omega
            clear e1 e2 hsi hsk hN1 hD1 hN2 hD2 hpn hqn hB hoi hok
            have HKp : Hid (∀ u', Below v0.heap.size v0 u' → (fun u' => (u'.cell? ⟨ub, uo + i * 6, none⟩ = some (.string N1) ∧ u'.cell? ⟨ub, uo + i * 6 + 1, none⟩ = some (.int .i64 mk0) ∧ u'.cell? ⟨ub, uo + i * 6 + 2, none⟩ = some (.bool mp) ∧ u'.cell? ⟨ub, uo + i * 6 + 3, none⟩ = some (.int .i64 ml) ∧ u'.cell? ⟨ub, uo + i * 6 + 4, none⟩ = some (.string D1) ∧ u'.cell? ⟨ub, uo + i * 6 + 5, none⟩ = some (.slice ma pn mc)) ∧ u'.cell? ⟨ub, uo + k * 6, none⟩ = some (.string N2) ∧ u'.cell? ⟨ub, uo + k * 6 + 1, none⟩ = some (.int .i64 nk0) ∧ u'.cell? ⟨ub, uo + k * 6 + 2, none⟩ = some (.bool np) ∧ u'.cell? ⟨ub, uo + k * 6 + 3, none⟩ = some (.int .i64 nl) ∧ u'.cell? ⟨ub, uo + k * 6 + 4, none⟩ = some (.string D2) ∧ u'.cell? ⟨ub, uo + k * 6 + 5, none⟩ = some (.slice na qn nc)) u') := Lib.hid (fun u' hu => ⟨⟨(hu.cell (p := ⟨ub, uo + i * 6, none⟩) (cell_lt y0)).trans y0, (hu.cell (p := ⟨ub, uo + i * 6 + 1, none⟩) (cell_lt y1)).trans y1, (hu.cell (p := ⟨ub, uo + i * 6 + 2, none⟩) (cell_lt y2)).trans y2, (hu.cell (p := ⟨ub, uo + i * 6 + 3, none⟩) (cell_lt y3)).trans y3, (hu.cell (p := ⟨ub, uo + i * 6 + 4, none⟩) (cell_lt y4)).trans y4, (hu.cell (p := ⟨ub, uo + i * 6 + 5, none⟩) (cell_lt y5)).trans y5⟩, (hu.cell (p := ⟨ub, uo + k * 6, none⟩) (cell_lt z0)).trans z0, (hu.cell (p := ⟨ub, uo + k * 6 + 1, none⟩) (cell_lt z1)).trans z1, (hu.cell (p := ⟨ub, uo + k * 6 + 2, none⟩) (cell_lt z2)).trans z2, (hu.cell (p := ⟨ub, uo + k * 6 + 3, none⟩) (cell_lt z3)).trans z3, (hu.cell (p := ⟨ub, uo + k * 6 + 4, none⟩) (cell_lt z4)).trans z4, (hu.cell (p := ⟨ub, uo + k * 6 + 5, none⟩) (cell_lt z5)).trans z5⟩)
            have HY5 := Lib.hid y5
            have HZ5 := Lib.hid z5
            clear y0 y1 y2 y3 y4 y5 z0 z1 z2 z3 z4 z5
            refine wp_region_held_drew (S := fun u' => (u'.cell? ⟨ub, uo + i * 6, none⟩ = some (.string N1) ∧ u'.cell? ⟨ub, uo + i * 6 + 1, none⟩ = some (.int .i64 mk0) ∧ u'.cell? ⟨ub, uo + i * 6 + 2, none⟩ = some (.bool mp) ∧ u'.cell? ⟨ub, uo + i * 6 + 3, none⟩ = some (.int .i64 ml) ∧ u'.cell? ⟨ub, uo + i * 6 + 4, none⟩ = some (.string D1) ∧ u'.cell? ⟨ub, uo + i * 6 + 5, none⟩ = some (.slice ma pn mc)) ∧ u'.cell? ⟨ub, uo + k * 6, none⟩ = some (.string N2) ∧ u'.cell? ⟨ub, uo + k * 6 + 1, none⟩ = some (.int .i64 nk0) ∧ u'.cell? ⟨ub, uo + k * 6 + 2, none⟩ = some (.bool np) ∧ u'.cell? ⟨ub, uo + k * 6 + 3, none⟩ = some (.int .i64 nl) ∧ u'.cell? ⟨ub, uo + k * 6 + 4, none⟩ = some (.string D2) ∧ u'.cell? ⟨ub, uo + k * 6 + 5, none⟩ = some (.slice na qn nc)) (by kernel_rfl) (by rw [← HV0.out]; exact HKp.out _ (Below.refl _ _)) (fun hHeld => ?_)
            rw [← HV0.out]
            have hHeld0 := HKp.out _ (Below.refl _ _)
            clear hHeld
            refine wpAnyH_take (i := 0) (v := ?_) rfl (by kernel_rfl) (by kernel_rfl) (by kernel_rfl) (fun _ _ _ h => h) (Or.inl ⟨by kernel_rfl, ?_⟩) hHeld0 ?_
            rotate_left 1
            · intro w hSw; (try dsimp only at hSw); obtain ⟨⟨y0, y1, y2, y3, y4, y5⟩, z0, z1, z2, z3, z4, z5⟩ := hSw; go_simp; (try with_reducible rfl)
            (try simp only [Act.put, List.setIfInBounds_toArray, List.set_cons_zero, List.set_cons_succ])
            refine wpAnyH_take (i := 1) (v := ?_) rfl (by kernel_rfl) (by kernel_rfl) (by kernel_rfl) (fun _ _ _ h => h) (Or.inl ⟨by kernel_rfl, ?_⟩) hHeld0 ?_
            rotate_left 1
            · intro w hSw; (try dsimp only at hSw); obtain ⟨⟨y0, y1, y2, y3, y4, y5⟩, z0, z1, z2, z3, z4, z5⟩ := hSw; go_simp; (try with_reducible rfl)
            (try simp only [Act.put, List.setIfInBounds_toArray, List.set_cons_zero, List.set_cons_succ])
            refine wpAnyH_take (i := 2) (v := ?_) rfl (by kernel_rfl) (by kernel_rfl) (by kernel_rfl) (fun _ _ _ h => h) (Or.inl ⟨by kernel_rfl, ?_⟩) hHeld0 ?_
            rotate_left 1
            · intro w hSw; (try dsimp only at hSw); obtain ⟨⟨y0, y1, y2, y3, y4, y5⟩, z0, z1, z2, z3, z4, z5⟩ := hSw; go_simp; (try with_reducible rfl)
            (try simp only [Act.put, List.setIfInBounds_toArray, List.set_cons_zero, List.set_cons_succ])
            refine wpAnyH_take (i := 3) (v := ?_) rfl (by kernel_rfl) (by kernel_rfl) (by kernel_rfl) (fun _ _ _ h => h) (Or.inl ⟨by kernel_rfl, ?_⟩) hHeld0 ?_
            rotate_left 1
            · intro w hSw; (try dsimp only at hSw); obtain ⟨⟨y0, y1, y2, y3, y4, y5⟩, z0, z1, z2, z3, z4, z5⟩ := hSw; go_simp; (try with_reducible rfl)
            (try simp only [Act.put, List.setIfInBounds_toArray, List.set_cons_zero, List.set_cons_succ])
            refine wpAnyH_take (i := 4) (v := ?_) rfl (by kernel_rfl) (by kernel_rfl) (by kernel_rfl) (fun _ _ _ h => h) (Or.inl ⟨by kernel_rfl, ?_⟩) hHeld0 ?_
            rotate_left 1
            · intro w hSw; (try dsimp only at hSw); obtain ⟨⟨y0, y1, y2, y3, y4, y5⟩, z0, z1, z2, z3, z4, z5⟩ := hSw; go_simp; (try with_reducible rfl)
            (try simp only [Act.put, List.setIfInBounds_toArray, List.set_cons_zero, List.set_cons_succ])
            refine wpAnyH_take (i := 5) (v := ?_) rfl (by kernel_rfl) (by kernel_rfl) (by kernel_rfl) (fun _ _ _ h => h) (Or.inl ⟨by kernel_rfl, ?_⟩) hHeld0 ?_
            rotate_left 1
            · intro w hSw; (try dsimp only at hSw); obtain ⟨⟨y0, y1, y2, y3, y4, y5⟩, z0, z1, z2, z3, z4, z5⟩ := hSw; go_simp; (try with_reducible rfl)
            (try simp only [Act.put, List.setIfInBounds_toArray, List.set_cons_zero, List.set_cons_succ])
            refine wpAnyH_take (i := 6) (v := ?_) rfl (by kernel_rfl) (by kernel_rfl) (by kernel_rfl) (fun _ _ _ h => h) (Or.inl ⟨by kernel_rfl, ?_⟩) hHeld0 ?_
            rotate_left 1
            · intro w hSw; (try dsimp only at hSw); obtain ⟨⟨y0, y1, y2, y3, y4, y5⟩, z0, z1, z2, z3, z4, z5⟩ := hSw; go_simp; (try with_reducible rfl)
            (try simp only [Act.put, List.setIfInBounds_toArray, List.set_cons_zero, List.set_cons_succ])
            refine wpAnyH_take (i := 7) (v := ?_) rfl (by kernel_rfl) (by kernel_rfl) (by kernel_rfl) (fun _ _ _ h => h) (Or.inl ⟨by kernel_rfl, ?_⟩) hHeld0 ?_
            rotate_left 1
            · intro w hSw; (try dsimp only at hSw); obtain ⟨⟨y0, y1, y2, y3, y4, y5⟩, z0, z1, z2, z3, z4, z5⟩ := hSw; go_simp; (try with_reducible rfl)
            (try simp only [Act.put, List.setIfInBounds_toArray, List.set_cons_zero, List.set_cons_succ])
            refine wpAnyH_ready (rs := [8]) (by kernel_rfl) (by simp) ?_
            refine AllReadyH.cons rfl (fun K hK => ?_) ?_
            rotate_left 1
            · exact AllReadyH.nil
            go_simp
            go_wp2_with (go_at_call 56; refine HAl.out.mono ?_; rintro e v ⟨rfl, hb⟩)
            have HSv := Lib.hid (HKp.out _ hb)
            have HG2 := Lib.hid (HG.out.drew hb)
            have HPr : Hid (GoodQ S ins l → alikeB si sk = true ∧ ∀ (j : Nat) (r r' : Rl), si.rels[j]? = some r → sk.rels[j]? = some r' → RefQ S.length ins l r.sym r'.sym) := Lib.hid (fun hg => hg i k (by rw [HSl.out]; exact HLT.out) HLK.out HBi.out HBk.out (by rw [HVi.out, HVk.out]) si sk HSi.out HSk.out)
            have h5 : v.cell? ⟨ub, uo + i * 6 + 5, none⟩ = some (.slice ma pn mc) := (hb.cell (p := ⟨ub, uo + i * 6 + 5, none⟩) (cell_lt HY5.out)).trans HY5.out
            have g5 : v.cell? ⟨ub, uo + k * 6 + 5, none⟩ = some (.slice na qn nc) := (hb.cell (p := ⟨ub, uo + k * 6 + 5, none⟩) (cell_lt HZ5.out)).trans HZ5.out
            have HNi2 := Lib.hid (HNi.out.next hb)
            have HNk2 := Lib.hid (HNk.out.next hb)
            clear HAl HNi HNk HG HV0 HY5 HZ5
            refine hK.out _ _ (HKp.out _ hb) (fun hHeld => ?_)
            clear hK K hb HKp
            cases B
            · have HNg : Hid (¬ GoodQ S ins l) := Lib.hid (fun hg => by have := (HPr.out hg).1; rw [← HBe.out] at this; cases this)
              refine wpAnyH_take (i := 9) (v := ?_) rfl (by kernel_rfl) (by kernel_rfl) (by kernel_rfl) (fun _ _ _ h => h) (Or.inl ⟨by kernel_rfl, ?_⟩) hHeld ?_
              rotate_left 1
              · intro w hSw; (try dsimp only at hSw); obtain ⟨⟨y0, y1, y2, y3, y4, y5⟩, z0, z1, z2, z3, z4, z5⟩ := hSw; go_simp; (try with_reducible rfl)
              (try simp only [Act.put, List.setIfInBounds_toArray, List.set_cons_zero, List.set_cons_succ])
              refine wpAnyH_take (i := 10) (v := ?_) rfl (by kernel_rfl) (by kernel_rfl) (by kernel_rfl) (fun _ _ _ h => h) (Or.inl ⟨by kernel_rfl, ?_⟩) hHeld ?_
              rotate_left 1
              · intro w hSw; (try dsimp only at hSw); obtain ⟨⟨y0, y1, y2, y3, y4, y5⟩, z0, z1, z2, z3, z4, z5⟩ := hSw; go_simp; (try with_reducible rfl)
              (try simp only [Act.put, List.setIfInBounds_toArray, List.set_cons_zero, List.set_cons_succ])
              refine wpAnyH_take (i := 11) (v := undef) rfl (by kernel_rfl) (by kernel_rfl) (by kernel_rfl) (fun _ _ _ h => h) (Or.inr ⟨by kernel_rfl, rfl⟩) hHeld ?_
              (try simp only [Act.put, List.setIfInBounds_toArray, List.set_cons_zero, List.set_cons_succ])
              refine wpAnyH_take (i := 12) (v := undef) rfl (by kernel_rfl) (by kernel_rfl) (by kernel_rfl) (fun _ _ _ h => h) (Or.inr ⟨by kernel_rfl, rfl⟩) hHeld ?_
              (try simp only [Act.put, List.setIfInBounds_toArray, List.set_cons_zero, List.set_cons_succ])
              refine wpAnyH_take (i := 13) (v := undef) rfl (by kernel_rfl) (by kernel_rfl) (by kernel_rfl) (fun _ _ _ h => h) (Or.inr ⟨by kernel_rfl, rfl⟩) hHeld ?_
              (try simp only [Act.put, List.setIfInBounds_toArray, List.set_cons_zero, List.set_cons_succ])
              refine wpAnyH_take (i := 14) (v := undef) rfl (by kernel_rfl) (by kernel_rfl) (by kernel_rfl) (fun _ _ _ h => h) (Or.inr ⟨by kernel_rfl, rfl⟩) hHeld ?_
              (try simp only [Act.put, List.setIfInBounds_toArray, List.set_cons_zero, List.set_cons_succ])
              refine wpAnyH_take (i := 15) (v := undef) rfl (by kernel_rfl) (by kernel_rfl) (by kernel_rfl) (fun _ _ _ h => h) (Or.inr ⟨by kernel_rfl, rfl⟩) hHeld ?_
              (try simp only [Act.put, List.setIfInBounds_toArray, List.set_cons_zero, List.set_cons_succ])
              refine wpAnyH_take (i := 16) (v := undef) rfl (by kernel_rfl) (by kernel_rfl) (by kernel_rfl) (fun _ _ _ h => h) (Or.inr ⟨by kernel_rfl, rfl⟩) hHeld ?_
              (try simp only [Act.put, List.setIfInBounds_toArray, List.set_cons_zero, List.set_cons_succ])
              refine wpAnyH_take (i := 17) (v := undef) rfl (by kernel_rfl) (by kernel_rfl) (by kernel_rfl) (fun _ _ _ h => h) (Or.inr ⟨by kernel_rfl, rfl⟩) hHeld ?_
              (try simp only [Act.put, List.setIfInBounds_toArray, List.set_cons_zero, List.set_cons_succ])
              refine wpAnyH_take (i := 18) (v := undef) rfl (by kernel_rfl) (by kernel_rfl) (by kernel_rfl) (fun _ _ _ h => h) (Or.inr ⟨by kernel_rfl, rfl⟩) hHeld ?_
              (try simp only [Act.put, List.setIfInBounds_toArray, List.set_cons_zero, List.set_cons_succ])
              refine wpAnyH_take (i := 19) (v := undef) rfl (by kernel_rfl) (by kernel_rfl) (by kernel_rfl) (fun _ _ _ h => h) (Or.inr ⟨by kernel_rfl, rfl⟩) hHeld ?_
              (try simp only [Act.put, List.setIfInBounds_toArray, List.set_cons_zero, List.set_cons_succ])
              refine wpAnyH_take (i := 20) (v := undef) rfl (by kernel_rfl) (by kernel_rfl) (by kernel_rfl) (fun _ _ _ h => h) (Or.inr ⟨by kernel_rfl, rfl⟩) hHeld ?_
              (try simp only [Act.put, List.setIfInBounds_toArray, List.set_cons_zero, List.set_cons_succ])
              refine wpAnyH_take (i := 21) (v := undef) rfl (by kernel_rfl) (by kernel_rfl) (by kernel_rfl) (fun _ _ _ h => h) (Or.inr ⟨by kernel_rfl, rfl⟩) hHeld ?_
              (try simp only [Act.put, List.setIfInBounds_toArray, List.set_cons_zero, List.set_cons_succ])
              refine wpAnyH_take (i := 22) (v := undef) rfl (by kernel_rfl) (by kernel_rfl) (by kernel_rfl) (fun _ _ _ h => h) (Or.inr ⟨by kernel_rfl, rfl⟩) hHeld ?_
              (try simp only [Act.put, List.setIfInBounds_toArray, List.set_cons_zero, List.set_cons_succ])
              refine wpAnyH_take (i := 23) (v := undef) rfl (by kernel_rfl) (by kernel_rfl) (by kernel_rfl) (fun _ _ _ h => h) (Or.inr ⟨by kernel_rfl, rfl⟩) hHeld ?_
              (try simp only [Act.put, List.setIfInBounds_toArray, List.set_cons_zero, List.set_cons_succ])
              refine wpAnyH_ready (rs := [24]) (by kernel_rfl) (by simp) ?_
              refine AllReadyH.cons rfl (fun K hK => ?_) ?_
              · go_simp
                refine hK.out _ _ (HSv.out) (fun hHeld => ?_)
                clear hK K
                refine wpAnyH_done (by kernel_rfl) ?_ _
                go_wp2
                go_ret
                exact ⟨false, rfl, ⟨fun h => (by cases h), fun hg => absurd hg HNg.out⟩, HG2.out.kk⟩
              exact AllReadyH.nil
            · have hpq : pn = qn := by rw [HPn.out, HQn.out, ← HRi.out, ← HRk.out]; exact alike_len HBe.out.symm
              subst hpq
              have t3 : ((pn : Int) != (pn : Int)) = false := by simp
              have t4 : ((pn : Int) == (pn : Int)) = true := by simp
              have H5 := Lib.hid h5
              have G5 := Lib.hid g5
              clear h5 g5 t1 t2
              refine wpAnyH_take (i := 9) (v := ?_) rfl (by kernel_rfl) (by kernel_rfl) (by kernel_rfl) (fun _ _ _ h => h) (Or.inl ⟨by kernel_rfl, ?_⟩) hHeld ?_
              rotate_left 1
              · intro w hSw; (try dsimp only at hSw); obtain ⟨⟨y0, y1, y2, y3, y4, y5⟩, z0, z1, z2, z3, z4, z5⟩ := hSw; go_simp; (try with_reducible rfl)
              (try simp only [Act.put, List.setIfInBounds_toArray, List.set_cons_zero, List.set_cons_succ])
              refine wpAnyH_take (i := 10) (v := ?_) rfl (by kernel_rfl) (by kernel_rfl) (by kernel_rfl) (fun _ _ _ h => h) (Or.inl ⟨by kernel_rfl, ?_⟩) hHeld ?_
              rotate_left 1
              · intro w hSw; (try dsimp only at hSw); obtain ⟨⟨y0, y1, y2, y3, y4, y5⟩, z0, z1, z2, z3, z4, z5⟩ := hSw; go_simp; (try with_reducible rfl)
              (try simp only [Act.put, List.setIfInBounds_toArray, List.set_cons_zero, List.set_cons_succ])
              refine wpAnyH_take (i := 11) (v := ?_) rfl (by kernel_rfl) (by kernel_rfl) (by kernel_rfl) (fun _ _ _ h => h) (Or.inl ⟨by kernel_rfl, ?_⟩) hHeld ?_
              rotate_left 1
              · intro w hSw; (try dsimp only at hSw); obtain ⟨⟨y0, y1, y2, y3, y4, y5⟩, z0, z1, z2, z3, z4, z5⟩ := hSw; go_simp; (try with_reducible rfl)
              (try simp only [Act.put, List.setIfInBounds_toArray, List.set_cons_zero, List.set_cons_succ])
              refine wpAnyH_take (i := 12) (v := ?_) rfl (by kernel_rfl) (by kernel_rfl) (by kernel_rfl) (fun _ _ _ h => h) (Or.inl ⟨by kernel_rfl, ?_⟩) hHeld ?_
              rotate_left 1
              · intro w hSw; (try dsimp only at hSw); obtain ⟨⟨y0, y1, y2, y3, y4, y5⟩, z0, z1, z2, z3, z4, z5⟩ := hSw; go_simp; (try with_reducible rfl)
              (try simp only [Act.put, List.setIfInBounds_toArray, List.set_cons_zero, List.set_cons_succ])
              refine wpAnyH_take (i := 13) (v := ?_) rfl (by kernel_rfl) (by kernel_rfl) (by kernel_rfl) (fun _ _ _ h => h) (Or.inl ⟨by kernel_rfl, ?_⟩) hHeld ?_
              rotate_left 1
              · intro w hSw; (try dsimp only at hSw); obtain ⟨⟨y0, y1, y2, y3, y4, y5⟩, z0, z1, z2, z3, z4, z5⟩ := hSw; go_simp; (try with_reducible rfl)
              (try simp only [Act.put, List.setIfInBounds_toArray, List.set_cons_zero, List.set_cons_succ])
              refine wpAnyH_take (i := 14) (v := ?_) rfl (by kernel_rfl) (by kernel_rfl) (by kernel_rfl) (fun _ _ _ h => h) (Or.inl ⟨by kernel_rfl, ?_⟩) hHeld ?_
              rotate_left 1
              · intro w hSw; (try dsimp only at hSw); obtain ⟨⟨y0, y1, y2, y3, y4, y5⟩, z0, z1, z2, z3, z4, z5⟩ := hSw; go_simp; (try with_reducible rfl)
              (try simp only [Act.put, List.setIfInBounds_toArray, List.set_cons_zero, List.set_cons_succ])
              refine wpAnyH_take (i := 15) (v := ?_) rfl (by kernel_rfl) (by kernel_rfl) (by kernel_rfl) (fun _ _ _ h => h) (Or.inl ⟨by kernel_rfl, ?_⟩) hHeld ?_
              rotate_left 1
              · intro w hSw; (try dsimp only at hSw); obtain ⟨⟨y0, y1, y2, y3, y4, y5⟩, z0, z1, z2, z3, z4, z5⟩ := hSw; go_simp; (try with_reducible rfl)
              (try simp only [Act.put, List.setIfInBounds_toArray, List.set_cons_zero, List.set_cons_succ])
              refine wpAnyH_take (i := 16) (v := ?_) rfl (by kernel_rfl) (by kernel_rfl) (by kernel_rfl) (fun _ _ _ h => h) (Or.inl ⟨by kernel_rfl, ?_⟩) hHeld ?_
              rotate_left 1
              · intro w hSw; (try dsimp only at hSw); obtain ⟨⟨y0, y1, y2, y3, y4, y5⟩, z0, z1, z2, z3, z4, z5⟩ := hSw; go_simp; (try with_reducible rfl)
              (try simp only [Act.put, List.setIfInBounds_toArray, List.set_cons_zero, List.set_cons_succ])
              refine wpAnyH_take (i := 17) (v := ?_) rfl (by kernel_rfl) (by kernel_rfl) (by kernel_rfl) (fun _ _ _ h => h) (Or.inl ⟨by kernel_rfl, ?_⟩) hHeld ?_
              rotate_left 1
              · intro w hSw; (try dsimp only at hSw); obtain ⟨⟨y0, y1, y2, y3, y4, y5⟩, z0, z1, z2, z3, z4, z5⟩ := hSw; go_simp; (try with_reducible rfl)
              (try simp only [Act.put, List.setIfInBounds_toArray, List.set_cons_zero, List.set_cons_succ])
              refine wpAnyH_take (i := 18) (v := ?_) rfl (by kernel_rfl) (by kernel_rfl) (by kernel_rfl) (fun _ _ _ h => h) (Or.inl ⟨by kernel_rfl, ?_⟩) hHeld ?_
              rotate_left 1
              · intro w hSw; (try dsimp only at hSw); obtain ⟨⟨y0, y1, y2, y3, y4, y5⟩, z0, z1, z2, z3, z4, z5⟩ := hSw; go_simp; (try with_reducible rfl)
              (try simp only [Act.put, List.setIfInBounds_toArray, List.set_cons_zero, List.set_cons_succ])
              refine wpAnyH_take (i := 19) (v := ?_) rfl (by kernel_rfl) (by kernel_rfl) (by kernel_rfl) (fun _ _ _ h => h) (Or.inl ⟨by kernel_rfl, ?_⟩) hHeld ?_
              rotate_left 1
              · intro w hSw; (try dsimp only at hSw); obtain ⟨⟨y0, y1, y2, y3, y4, y5⟩, z0, z1, z2, z3, z4, z5⟩ := hSw; go_simp; (try with_reducible rfl)
              (try simp only [Act.put, List.setIfInBounds_toArray, List.set_cons_zero, List.set_cons_succ])
              refine wpAnyH_take (i := 20) (v := ?_) rfl (by kernel_rfl) (by kernel_rfl) (by kernel_rfl) (fun _ _ _ h => h) (Or.inl ⟨by kernel_rfl, ?_⟩) hHeld ?_
              rotate_left 1
              · intro w hSw; (try dsimp only at hSw); obtain ⟨⟨y0, y1, y2, y3, y4, y5⟩, z0, z1, z2, z3, z4, z5⟩ := hSw; go_simp; (try with_reducible rfl)
              (try simp only [Act.put, List.setIfInBounds_toArray, List.set_cons_zero, List.set_cons_succ])
              refine wpAnyH_take (i := 21) (v := ?_) rfl (by kernel_rfl) (by kernel_rfl) (by kernel_rfl) (fun _ _ _ h => h) (Or.inl ⟨by kernel_rfl, ?_⟩) hHeld ?_
              rotate_left 1
              · intro w hSw; (try dsimp only at hSw); obtain ⟨⟨y0, y1, y2, y3, y4, y5⟩, z0, z1, z2, z3, z4, z5⟩ := hSw; go_simp; (try with_reducible rfl)
              (try simp only [Act.put, List.setIfInBounds_toArray, List.set_cons_zero, List.set_cons_succ])
              refine wpAnyH_take (i := 22) (v := ?_) rfl (by kernel_rfl) (by kernel_rfl) (by kernel_rfl) (fun _ _ _ h => h) (Or.inl ⟨by kernel_rfl, ?_⟩) hHeld ?_
              rotate_left 1
              · intro w hSw; (try dsimp only at hSw); obtain ⟨⟨y0, y1, y2, y3, y4, y5⟩, z0, z1, z2, z3, z4, z5⟩ := hSw; go_simp; (try with_reducible rfl)
              (try simp only [Act.put, List.setIfInBounds_toArray, List.set_cons_zero, List.set_cons_succ])
              refine wpAnyH_take (i := 23) (v := ?_) rfl (by kernel_rfl) (by kernel_rfl) (by kernel_rfl) (fun _ _ _ h => h) (Or.inl ⟨by kernel_rfl, ?_⟩) hHeld ?_
              rotate_left 1
              · intro w hSw; (try dsimp only at hSw); obtain ⟨⟨y0, y1, y2, y3, y4, y5⟩, z0, z1, z2, z3, z4, z5⟩ := hSw; go_simp; (try with_reducible rfl)
              (try simp only [Act.put, List.setIfInBounds_toArray, List.set_cons_zero, List.set_cons_succ])
              refine wpAnyH_ready (rs := [24]) (by kernel_rfl) (by simp) ?_
              refine AllReadyH.cons rfl (fun K hK => ?_) ?_
              · go_simp
                refine hK.out _ _ (HSv.out) (fun hHeld => ?_)
                clear hK K
                refine wpAnyH_done (by kernel_rfl) ?_ _
                go_wp2
                go_loopw [9] (fun j wr => ∃ (q : Nat) (wy : World), wy = wr ∧ q ≤ pn ∧ j = .int .i64 q ∧ Hid (Below v.heap.size v wy ∧ ∀ z, z < q → ∀ (r r' : Rl), mr[z]? = some r → nr[z]? = some r' → RefQ S.length ins l r.sym r'.sym)) (fun j _ => pn - (intOf j).toNat)
                case atStart => exact ⟨0, _, rfl, by omega, rfl, Lib.hid ⟨Below.refl _ _, fun z hz => by omega⟩⟩
                case round =>
                  obtain ⟨q, wy, rfl, hq, rfl, HK⟩ := hrel
                  have hby := HK.out.1
                  have h5 : wy.cell? ⟨ub, uo + i * 6 + 5, none⟩ = some (.slice ma pn mc) := (hby.cell (p := ⟨ub, uo + i * 6 + 5, none⟩) (cell_lt H5.out)).trans H5.out
                  have g5 : wy.cell? ⟨ub, uo + k * 6 + 5, none⟩ = some (.slice na pn nc) := (hby.cell (p := ⟨ub, uo + k * 6 + 5, none⟩) (cell_lt G5.out)).trans G5.out
                  by_cases hlq : q < pn
                  · have hlqi : (q : Int) < (pn : Int) := by omega
                    have HLQ := Lib.hid hlq
                    have hk1 : q < mr.length := by rw [← HPn.out]; exact hlq
                    have hk2 : q < nr.length := by rw [← HQn.out]; exact hlq
                    obtain ⟨b1, o1, hae1, hB1, hc1⟩ := (HNi2.out.next hby).cells (by intro e; rw [e] at hk1; simp at hk1)
                    subst hae1
                    obtain ⟨b2, o2, hae2, hB2, hc2⟩ := (HNk2.out.next hby).cells (by intro e; rw [e] at hk2; simp at hk2)
                    subst hae2
                    obtain ⟨-, -, c2, -⟩ := rl_cells (fun q' hq' => hc1 q hk1 q' hq')
                    obtain ⟨-, -, d2, -⟩ := rl_cells (fun q' hq' => hc2 q hk2 q' hq')
                    obtain ⟨x, hx⟩ : ∃ x, x = mr[q] := ⟨_, rfl⟩
                    obtain ⟨y, hy⟩ : ∃ y, y = nr[q] := ⟨_, rfl⟩
                    have hxx : mr[q]? = some x := by rw [hx]; exact List.getElem?_eq_getElem hk1
                    have hyy : nr[q]? = some y := by rw [hy]; exact List.getElem?_eq_getElem hk2
                    obtain ⟨a0, a1⟩ := HQi.out x (List.mem_of_getElem? hxx)
                    obtain ⟨b0, b1'⟩ := HQk.out y (List.mem_of_getElem? hyy)
                    rw [← hx] at c2
                    rw [← hy] at d2
                    obtain ⟨a, ha⟩ : ∃ a : Nat, x.sym = (a : Int) := ⟨x.sym.toNat, by omega⟩
                    obtain ⟨b, hbb⟩ : ∃ b : Nat, y.sym = (b : Int) := ⟨y.sym.toNat, by omega⟩
                    rw [ha] at c2 a1
                    rw [hbb] at d2 b1'
                    have han : a < n := by omega
                    have hbn : b < n := by omega
                    have hkk := after HG2.out.kk hby
                    have hsl := HIn.out wy hkk
                    have hll := HLi.out wy hkk
                    obtain ⟨pa, hpa⟩ : ∃ b, ins[a]? = some b := ⟨_, List.getElem?_eq_getElem (by rw [← HIl.out]; exact han)⟩
                    obtain ⟨pb, hpb⟩ : ∃ v, ins[b]? = some v := ⟨_, List.getElem?_eq_getElem (by rw [← HIl.out]; exact hbn)⟩
                    obtain ⟨va, hva⟩ : ∃ b, l[a]? = some b := ⟨_, List.getElem?_eq_getElem (by rw [← HLl.out]; exact han)⟩
                    obtain ⟨vb, hvb⟩ : ∃ v, l[b]? = some v := ⟨_, List.getElem?_eq_getElem (by rw [← HLl.out]; exact hbn)⟩
                    have i0 : wy.cell? ⟨ib, io + a, none⟩ = some (.bool pa) := bools_cells hsl (Below.refl _ _) hpa
                    have i1 : wy.cell? ⟨ib, io + b, none⟩ = some (.bool pb) := bools_cells hsl (Below.refl _ _) hpb
                    have l0 : wy.cell? ⟨lb, lo + a, none⟩ = some (.int .i64 va) := ints_cells hll (Below.refl _ _) hva
                    have l1 : wy.cell? ⟨lb, lo + b, none⟩ = some (.int .i64 vb) := ints_cells hll (Below.refl _ _) hvb
                    have HXx := Lib.hid hxx
                    have HYy := Lib.hid hyy
                    have HAa := Lib.hid ha
                    have HBb := Lib.hid hbb
                    have HPa := Lib.hid hpa
                    have HPb := Lib.hid hpb
                    have HVa := Lib.hid hva
                    have HVb := Lib.hid hvb
                    have HAn := Lib.hid (And.intro han hbn)
                    have a2 : ¬ (a : Int) < 0 := by omega
                    have b2' : ¬ (b : Int) < 0 := by omega
                    have a3 : (a : Int) < (n : Int) := by omega
                    have b3 : (b : Int) < (n : Int) := by omega
                    have a4 : ¬ (n : Int) ≤ (a : Int) := by omega
                    have b4 : ¬ (n : Int) ≤ (b : Int) := by omega
                    have a5 : ¬ n ≤ a := by omega
                    have b5 : ¬ n ≤ b := by omega
                    have a6 : a < n := by omega
                    have b6 : b < n := by omega
                    have HRow : Hid (RefQ S.length ins l x.sym y.sym → ∀ z, z < q + 1 → ∀ (r r' : Rl), mr[z]? = some r → nr[z]? = some r' → RefQ S.length ins l r.sym r'.sym) := Lib.hid (fun h0 z hz r r' hr hr' => by
                      rcases Nat.lt_or_ge z q with h1 | h1
                      · exact HK.out.2 z h1 r r' hr hr'
                      · have : z = q := by omega
                        subst this
                        rw [hxx] at hr; cases hr
                        rw [hyy] at hr'; cases hr'
                        exact h0)
                    have HBy := Lib.hid hby
                    have HNg : Hid (¬ RefQ S.length ins l x.sym y.sym → ¬ GoodQ S ins l) := Lib.hid (fun h0 hg => h0 ((HPr.out hg).2 q x y (by rw [HRi.out]; exact hxx) (by rw [HRk.out]; exact hyy)))
                    have HKk := Lib.hid hkk
                    clear hk1 hk2 hB1 hc1 hB2 hc2 hx hy hxx hyy a0 a1 b0 b1' ha hbb han hbn hsl hll hpa hpb hva hvb hby hq hlq HK hkk
                    have hcs : a = b ∨ (a ≠ b ∧ pa = true ∧ pb = true ∧ va = vb) ∨ (a ≠ b ∧ (pa = false ∨ (pa = true ∧ pb = false) ∨ (pa = true ∧ pb = true ∧ va ≠ vb))) := by
                      by_cases e : a = b
                      · exact .inl e
                      · cases pa
                        · exact .inr (.inr ⟨e, .inl rfl⟩)
                        · cases pb
                          · exact .inr (.inr ⟨e, .inr (.inl ⟨rfl, rfl⟩)⟩)
                          · by_cases e2 : va = vb
                            · exact .inr (.inl ⟨e, rfl, rfl, e2⟩)
                            · exact .inr (.inr ⟨e, .inr (.inr ⟨rfl, rfl, e2⟩)⟩)
                    rcases hcs with hab | ⟨hab, rfl, rfl, rfl⟩ | ⟨hab, hcs⟩
                    · have HR := Lib.hid (HRow.out ⟨by rw [HAa.out]; omega, by rw [HAa.out, HSl.out]; exact a3, by rw [HBb.out]; omega, by rw [HBb.out, HSl.out]; exact b3, .inl (by rw [HAa.out, HBb.out, hab])⟩)
                      have u1 : ((a : Int) != (b : Int)) = false := by simp [hab]
                      have u2 : ((a : Int) == (b : Int)) = true := by simp [hab]
                      clear hab
                      go_wp2
                      have e1 : ¬ (a : Int) < 0 := by omega
                      have e2 : ¬ (b : Int) < 0 := by omega
                      have e3 : ¬ (n : Int) ≤ (a : Int) := by omega
                      have e4 : ¬ (n : Int) ≤ (b : Int) := by omega
                      clear hHeld hHeld0
                      go_big_quiet (fail)
                      go_wp2
                      go_roundw
                      case rel => exact ⟨q + 1, _, rfl, by have := HLQ.out; omega, by go_num, Lib.hid ⟨below_drewN HBy.out _, HR.out⟩⟩
                      case measure => have := HLQ.out; simp [intOf]; omega
                    · have HR := Lib.hid (HRow.out ⟨by rw [HAa.out]; omega, by rw [HAa.out, HSl.out]; exact a3, by rw [HBb.out]; omega, by rw [HBb.out, HSl.out]; exact b3, .inr ⟨by rw [HAa.out, Int.toNat_natCast]; exact HPa.out, by rw [HBb.out, Int.toNat_natCast]; exact HPb.out, by rw [HAa.out, HBb.out, Int.toNat_natCast, Int.toNat_natCast, HVa.out, HVb.out]⟩⟩)
                      have u0 : ¬ (a : Int) = (b : Int) := by omega
                      have u1 : ((a : Int) != (b : Int)) = true := by rw [bne_iff_ne]; exact u0
                      have u2 : ((a : Int) == (b : Int)) = false := by simp; omega
                      have u3 : (va != va) = false := by simp
                      have u4 : (va == va) = true := by simp
                      clear hab u0
                      go_wp2
                      have e1 : ¬ (a : Int) < 0 := by omega
                      have e2 : ¬ (b : Int) < 0 := by omega
                      have e3 : ¬ (n : Int) ≤ (a : Int) := by omega
                      have e4 : ¬ (n : Int) ≤ (b : Int) := by omega
                      clear hHeld hHeld0
                      go_big_quiet (fail)
                      go_wp2
                      go_roundw
                      case rel => exact ⟨q + 1, _, rfl, by have := HLQ.out; omega, by go_num, Lib.hid ⟨below_drewN HBy.out _, HR.out⟩⟩
                      case measure => have := HLQ.out; simp [intOf]; omega
                    · have HR : Hid (¬ GoodQ S ins l) := Lib.hid (HNg.out (by
                        rintro ⟨-, -, -, -, h⟩
                        rw [HAa.out, HBb.out, Int.toNat_natCast, Int.toNat_natCast, HPa.out, HPb.out, HVa.out, HVb.out] at h
                        rcases h with h | ⟨h1, h2, h3⟩
                        · exact hab (by omega)
                        · rcases hcs with h | ⟨-, h⟩ | ⟨-, -, h⟩
                          · rw [h] at h1; cases h1
                          · rw [h] at h2; cases h2
                          · exact h (Option.some.inj h3)))
                      have u0 : ¬ (a : Int) = (b : Int) := by omega
                      have u1 : ((a : Int) != (b : Int)) = true := by rw [bne_iff_ne]; exact u0
                      have u2 : ((a : Int) == (b : Int)) = false := by simp; omega
                      clear hab u0
                      rcases hcs with rfl | ⟨rfl, rfl⟩ | ⟨rfl, rfl, hne⟩
                      · go_wp2
                        have e1 : ¬ (a : Int) < 0 := by omega
                        have e2 : ¬ (b : Int) < 0 := by omega
                        have e3 : ¬ (n : Int) ≤ (a : Int) := by omega
                        have e4 : ¬ (n : Int) ≤ (b : Int) := by omega
                        clear hHeld hHeld0
                        go_big_quiet (fail)
                        go_wp2
                        go_ret
                        exact ⟨false, rfl, ⟨fun h => (by cases h), fun hg => absurd hg HR.out⟩, below_drewN HKk.out _⟩
                      · go_wp2
                        have e1 : ¬ (a : Int) < 0 := by omega
                        have e2 : ¬ (b : Int) < 0 := by omega
                        have e3 : ¬ (n : Int) ≤ (a : Int) := by omega
                        have e4 : ¬ (n : Int) ≤ (b : Int) := by omega
                        clear hHeld hHeld0
                        go_big_quiet (fail)
                        go_wp2
                        go_ret
                        exact ⟨false, rfl, ⟨fun h => (by cases h), fun hg => absurd hg HR.out⟩, below_drewN HKk.out _⟩
                      · have u3 : (va != vb) = true := by simp [hne]
                        have u4 : (va == vb) = false := by simp [hne]
                        clear hne
                        go_wp2
                        have e1 : ¬ (a : Int) < 0 := by omega
                        have e2 : ¬ (b : Int) < 0 := by omega
                        have e3 : ¬ (n : Int) ≤ (a : Int) := by omega
                        have e4 : ¬ (n : Int) ≤ (b : Int) := by omega
                        clear hHeld hHeld0
                        go_big_quiet (fail)
                        go_wp2
                        go_ret
                        exact ⟨false, rfl, ⟨fun h => (by cases h), fun hg => absurd hg HR.out⟩, below_drewN HKk.out _⟩
                  · have hlqi : ¬ (q : Int) < (pn : Int) := by omega
                    have hqe : q = pn := by omega
                    have HN : Hid (GQ w S ins l i (k + 1) wy) := Lib.hid ((HG2.out.drew hby).one (fun h1 h2 h3 s t hs ht => by
                      rw [HSi.out] at hs; cases hs
                      rw [HSk.out] at ht; cases ht
                      refine ⟨HBe.out.symm, fun z r r' hr hr' => ?_⟩
                      rw [HRi.out] at hr
                      rw [HRk.out] at hr'
                      have hz := (List.getElem?_eq_some_iff.1 hr).1
                      exact HK.out.2 z (by rw [hqe, HPn.out]; exact hz) r r' hr hr'))
                    clear hlq hqe hq HK hby
                    go_wp2
                    go_roundw
                    case rel => exact ⟨k + 1, _, rfl, by have := HLK.out; omega, by go_num, HN⟩
                    case measure => have := HLK.out; simp [intOf]; omega
              exact AllReadyH.nil
        · have hlki : ¬ (k : Int) < (i : Int) := by omega
          have HKI : Hid (k = i) := Lib.hid (by omega)
          have HN : Hid (GQ w S ins l (i + 1) 0 wx) := Lib.hid (by have := HG.out; rw [HKI.out] at this; exact this.up)
          clear hlk hk HG
          go_wp2
          go_roundw
          case rel => exact ⟨i + 1, _, rfl, by have := HLT.out; omega, by go_num, HN⟩
          case measure => have := HLT.out; simp [intOf]; omega
    · have hlti : ¬ (i : Int) < (n : Int) := by omega
      have hin : i = n := by omega
      have HT : Hid (GoodQ S ins l) := Lib.hid (fun a b ha hb => HG.out.before a b (by rw [HSl.out] at ha; omega) hb)
      have HB := Lib.hid HG.out.kk
      clear hi hlt hin HG
      go_wp2
      go_ret
      exact ⟨true, rfl, ⟨fun _ => HT.out, fun _ => rfl⟩, HB.out⟩
end Go.Proofs.YtfnakgipamjdnaaGreatDoor
