/- line: Plain, at a text whose tokens and operands the kernel knows. -/
import Derived.Test.YthejefldnpeciaaGreatDooryQ
namespace Go.Proofs.YthejefldnpeciaaGreatDoor
set_option linter.unusedVariables false
set_option linter.unusedSimpArgs false
open Go.ChangeShapes Go.WideShapes Go.Deep Go.RowKit

def toTi (t : Tk) : Ti := ⟨(t.kind : Int), t.text, (t.v : Int)⟩
theorem sl_ti {w : World} {B n : Nat} {a : Option Addr} {ts : List Tk} (h : SL tkC 3 w B a n ts) : SL tiC 3 w B a n (ts.map toTi) := by
  refine ⟨by rw [List.length_map]; exact h.len, fun hne => ?_⟩
  obtain ⟨b, off, e, hB, hc⟩ := h.cells (fun e => hne (by rw [e]; rfl))
  refine ⟨b, off, e, hB, fun k hk j hj => ?_⟩
  rw [List.length_map] at hk
  rw [hc k hk j hj, List.getElem_map]; rfl
def goodB (t : Ti) : Bool := decide (0 ≤ t.kind) && decide (t.kind ≤ 10) && decide (t.text.length ≤ 1000) && decide (0 ≤ t.v) && decide (t.v < 18446744073709551616)
theorem good_of {t : Ti} (h : goodB t = true) : GoodTi t := by
  unfold goodB at h
  simp only [Bool.and_eq_true, decide_eq_true_eq] at h
  obtain ⟨⟨⟨⟨h1, h2⟩, h3⟩, h4⟩, h5⟩ := h
  exact ⟨by unfold i64ok; omega, by unfold maxLen; omega, h4, h5⟩
def goodPb (o : Po) : Bool := decide (-9223372036854775808 ≤ o.kind) && decide (o.kind ≤ 9223372036854775807) && decide (-9223372036854775808 ≤ o.reg) && decide (o.reg ≤ 9223372036854775807) && decide (-9223372036854775808 ≤ o.add) && decide (o.add ≤ 9223372036854775807) && decide (0 ≤ o.v) && decide (o.v < 18446744073709551616)
theorem goodP_of {o : Po} (h : goodPb o = true) : GoodPo o := by
  unfold goodPb at h
  simp only [Bool.and_eq_true, decide_eq_true_eq] at h
  obtain ⟨⟨⟨⟨⟨⟨⟨h1, h2⟩, h3⟩, h4⟩, h5⟩, h6⟩, h7⟩, h8⟩ := h
  exact ⟨⟨h1, h2⟩, ⟨h3, h4⟩, ⟨h5, h6⟩, ⟨h7, h8⟩⟩
/-- What Plain comes to, where all goes well up to Make. -/
def plainOf (l : List UInt8) : Option ((List UInt8 × List Po) × Bool) :=
  match lineL (l.map (·.toNat)) with
  | some (t :: ts) => if t.kind = 1 ∧ (parseL (ts.map toTi)).2 = 0 then some ((t.text, (parseL (ts.map toTi)).1), (ts.map toTi).all goodB && (parseL (ts.map toTi)).1.all goodPb && decide (ts.length ≤ 1000) && decide ((parseL (ts.map toTi)).1.length ≤ 1000) && decide (t.text.length ≤ 1000)) else none
  | _ => none
theorem U_low {s : ByteArray} {l : List UInt8} (h : s.data.toList = l) (hl : (l.all fun b => decide (b.toNat < 128)) = true) : U s.data.toList (l.map UInt8.toNat) := by
  rw [h]
  refine U.ascii fun b hb => ?_
  rw [List.all_eq_true] at hl
  exact of_decide_eq_true (hl b hb)
def RetTs (ts : List Tk) (w : World) (e : Ending) (w' : World) : Prop := ∃ a c, e = .returned (.tuple #[.slice a ts.length c, .int .i64 0]) ∧ SL tkC 3 w' w'.heap.size a ts.length ts ∧ ((a = none → ts.length = 0 ∧ c = 0) ∧ ts.length ≤ c) ∧ Below w.heap.size w w'
theorem Line_yes (s : ByteArray) {rs : List Nat} (hu : U s.data.toList rs) (hs : s.size ≤ 200) {ts : List Tk} (hl : lineL rs = some ts) (w : World) (hT : RTab w) : Calls Tryz.prog 17 #[.string s] w (RetTs ts w) := by
  refine (Line_any s rs hu hs w hT).mono ?_
  intro e w' h
  unfold LineP at h
  rw [hl] at h
  exact h
theorem tk_cells {w : World} {b off k : Nat} {t : Tk} (hc : ∀ j, j < 3 → w.cell? ⟨b, off + k * 3 + j, none⟩ = (tkC t)[j]?) :
    w.cell? ⟨b, off + k * 3, none⟩ = some (.int .i64 (t.kind : Int)) ∧ w.cell? ⟨b, off + k * 3 + 1, none⟩ = some (.string ⟨t.text.toArray⟩) ∧ w.cell? ⟨b, off + k * 3 + 2, none⟩ = some (.int .u64 (t.v : Int)) :=
  ⟨hc 0 (by omega), hc 1 (by omega), hc 2 (by omega)⟩
theorem sl_tail {w : World} {B b off n : Nat} {t : Tk} {ts : List Tk} (h : SL tkC 3 w B (some ⟨b, off, none⟩) n (t :: ts)) (a : Option Addr) (ha : ts ≠ [] → a = some ⟨b, off + 3, none⟩) : SL tkC 3 w B a ts.length ts := by
  refine ⟨rfl, fun hne => ?_⟩
  obtain ⟨b', off', e, hB, hc⟩ := h.cells (by simp)
  cases e
  refine ⟨b, off + 3, ha hne, hB, fun k hk j hj => ?_⟩
  have := hc (k + 1) (by simp; omega) j hj
  rw [show off + 3 + k * 3 + j = off + (k + 1) * 3 + j by omega, this]
  rfl
theorem results_plain (tmps : Array Value) (w : World) (R S : Nat) (i : In) (n : Nd) (e : Int) (h4 : tmps.getD 2 undef = .pointer (some ⟨R, 0, none⟩)) (h5 : tmps.getD 3 undef = .pointer (some ⟨S, 0, none⟩)) (h6 : tmps.getD 4 undef = .int .i64 e)
    (hR : RB w R (inC i) 26) (hS : RB w S (ndA n) 28) : (results Tryz.f23 tmps).run Tryz.prog w = .ok (mkV (i, n, e)) w := by
  have h4' : tmps[2]?.getD undef = .pointer (some ⟨R, 0, none⟩) := by simpa using h4
  have h5' : tmps[3]?.getD undef = .pointer (some ⟨S, 0, none⟩) := by simpa using h5
  have h6' : tmps[4]?.getD undef = .int .i64 e := by simpa using h6
  have q1 := run_loadVar_row (P := Tryz.prog) w R 26 26 (inC i) (0, 0) _ hR Tryz.underlying26 rfl (by kernel_rfl)
  have q2 := run_loadVar_row (P := Tryz.prog) w S 28 28 (ndA n) (0, 0) _ hS Tryz.underlying28 rfl (by kernel_rfl)
  simp [results, Tryz.results23, h4', h5', h6', asAddr, q1, q2]
set_option maxRecDepth 100000 in
set_option maxHeartbeats 4000000 in
theorem Plain_is {l : List UInt8} {nm : List UInt8} {os : List Po} (h : plainOf l = some ((nm, os), true)) (hl : l.length ≤ 200) (hlow : (l.all fun b => decide (b.toNat < 128)) = true) (w : World) (hT : TabL w) :
    Calls Tryz.prog 23 #[.string ⟨l.toArray⟩] w (RetB (mkV (makeL nm os)) w) := by
  obtain ⟨t, ts, hL, hk, hp, ht, hg1, hg2, hn1, hn2, hn3⟩ : ∃ t ts, lineL (l.map (·.toNat)) = some (t :: ts) ∧ t.kind = 1 ∧ parseL (ts.map toTi) = (os, 0) ∧ t.text = nm ∧ (∀ x ∈ ts.map toTi, GoodTi x) ∧ (∀ o ∈ os, GoodPo o) ∧ ts.length ≤ 1000 ∧ os.length ≤ 1000 ∧ nm.length ≤ 1000 := by
    unfold plainOf at h
    split at h
    · rename_i t ts hL
      split at h
      · rename_i hc
        simp only [Option.some.injEq, Prod.mk.injEq, Bool.and_eq_true, decide_eq_true_eq, List.all_eq_true] at h
        obtain ⟨⟨h1, h2⟩, ⟨⟨⟨h3, h4⟩, h5⟩, h6⟩, h7⟩ := h
        refine ⟨t, ts, hL, hc.1, ?_, h1, fun x hx => good_of (h3 x hx), fun o ho => goodP_of (h4 o (by rw [h2]; exact ho)), h5, by rw [← h2]; exact h6, by rw [← h1]; exact h7⟩
        rw [← h2, ← hc.2]
      · cases h
    · cases h
  have hu : U (⟨l.toArray⟩ : ByteArray).data.toList (l.map (·.toNat)) := U_low (by simp) hlow
  have hzi := zeroInst
  have hzn := zeroNeed
  obtain ⟨W, hW⟩ : ∃ W, W = (w.alloc (.cells (inC inZ) 26)).alloc (.cells (ndA ndZ) 28) := ⟨_, rfl⟩
  obtain ⟨R, hR⟩ : ∃ R, R = w.heap.size := ⟨_, rfl⟩
  obtain ⟨Q, hQ⟩ : ∃ Q, Q = w.heap.size + 1 := ⟨_, rfl⟩
  have HZ : Hid (ZZ w W R Q) := Lib.hid (by rw [hW, hR, hQ]; exact ZZ.start w)
  have HL := Lib.hid (Line_yes ⟨l.toArray⟩ hu (by show l.toArray.size ≤ 200; simpa using hl) hL W (hT.next HZ.out.k).2.1.1)
  have HW := Lib.hid hW.symm
  have HRe := Lib.hid hR.symm
  have HQe := Lib.hid hQ.symm
  have HT := Lib.hid hT
  obtain ⟨N, hN⟩ : ∃ N : ByteArray, N = ⟨nm.toArray⟩ := ⟨_, rfl⟩
  have HPa : Hid (∀ u (a : Option Addr) c, Below w.heap.size w u → SL tkC 3 u u.heap.size a ts.length ts → Calls Tryz.prog 18 #[.slice a ts.length c] u fun e u' => ∃ a' c', e = .returned (.tuple #[.slice a' os.length c', .int .i64 0]) ∧ SL poC 7 u' u'.heap.size a' os.length os ∧ Below u.heap.size u u') := Lib.hid fun u a c hb hsl => by
    have q := Parse_any (w := u) (a := a) (c := c) (ts := ts.map toTi) (by rw [List.length_map]; exact sl_ti hsl) (hT.next hb).2.1 hg1 (by rw [List.length_map]; omega)
    rw [List.length_map] at q
    refine q.mono ?_
    intro e u' hO
    unfold ParseP at hO
    rw [hp] at hO
    obtain ⟨a', c', h1, h2, -, h4⟩ := hO
    exact ⟨a', c', h1, h2, h4⟩
  have HMk : Hid (∀ u (a : Option Addr) c, Below w.heap.size w u → SL poC 7 u u.heap.size a os.length os → Calls Tryz.prog 8 #[.string N, .slice a os.length c] u (RetB (mkV (makeL nm os)) u)) := Lib.hid fun u a c hb hsl => by
    have := Make_any (hT.next hb) N (by rw [hN]; show nm.toArray.size ≤ _; simp; unfold maxLen; omega) a os.length c os hsl (by omega) hg2
    rwa [show N.data.toList = nm by rw [hN]] at this
  obtain ⟨r, hr⟩ : ∃ r, makeL nm os = r := ⟨_, rfl⟩
  rw [hr] at HMk ⊢
  have HNe : Hid ((⟨t.text.toArray⟩ : ByteArray) = N) := Lib.hid (by rw [hN, ht])
  have HKd : Hid ((t.kind : Int) = 1) := Lib.hid (by rw [hk]; rfl)
  have HN1 := Lib.hid hn1
  have HN2 := Lib.hid hn2
  clear h hl hlow hL hk hp ht hg1 hg2 hn1 hn2 hn3 hu hW hR hQ hT hN hr
  go_enter Tryz.func23, Tryz.ntmps23
  go_wp2_with fail
  rw [HW.out, HQe.out, HRe.out]
  refine HL.out.mono ?_
  rintro e u ⟨a, c, rfl, hsl, hnil, hb⟩
  replace HZ := Lib.hid (HZ.out.next hb)
  obtain ⟨b, off, ha, -, hc⟩ := hsl.cells (by simp)
  subst ha
  have c0 := tk_cells (fun j hj => hc 0 (by simp) j hj)
  simp only [Nat.zero_mul, Nat.add_zero, List.getElem_cons_zero] at c0
  obtain ⟨k0, k1, -⟩ := c0
  rw [HKd.out] at k0
  rw [HNe.out] at k1
  obtain ⟨m, hm⟩ : ∃ m, m = ts.length := ⟨_, rfl⟩
  have hlen : (t :: ts).length = m + 1 := by rw [hm]; rfl
  rw [hlen] at hsl hnil ⊢
  have HSl := Lib.hid hsl
  have hmc : m + 1 ≤ c := hnil.2
  have hmi : (m : Int) ≤ 1000 := by have := HN1.out; omega
  have HMe := Lib.hid hm
  have t1 : (((m + 1 : Nat) : Int) == 0) = false := by rw [beq_eq_false_iff_ne]; omega
  rw [← hm] at HPa
  clear hb hnil hc hlen HL hsl hm
  by_cases hc1 : c = 1
  · have HP2 : Hid (∀ v, Below u.heap.size u v → Calls Tryz.prog 18 #[.slice (some ⟨b, off, none⟩) m (0)] v fun e u' => ∃ a' c', e = .returned (.tuple #[.slice a' os.length c', .int .i64 0]) ∧ SL poC 7 u' u'.heap.size a' os.length os ∧ Below v.heap.size v u') := Lib.hid fun v hv => HPa.out v _ _ (after HZ.out.k hv) (by
      have := sl_tail (HSl.out.next hv) (some ⟨b, off, none⟩) (fun hne => by exact absurd (List.length_eq_zero_iff.1 (by have := HMe.out; omega)) hne)
      rw [HMe.out]; exact this)
    clear HPa
    go_wp2_with fail
    refine (HP2.out u (Below.refl _ _)).mono ?_
    rintro e u2 ⟨a', c', rfl, hso, hb⟩
    replace HZ := Lib.hid (HZ.out.next hb)
    have k2 : u2.cell? ⟨b, off + 1, none⟩ = some (.string N) := by rw [hb.cell (p := ⟨b, off + 1, none⟩) (cell_lt k1)]; exact k1
    have HMq := Lib.hid (HMk.out u2 a' c' HZ.out.k hso)
    obtain ⟨q, hq⟩ : ∃ q, q = os.length := ⟨_, rfl⟩
    rw [← hq] at HMq ⊢
    clear hb hso hq HP2 HMk
    go_wp2_with fail
    refine HMq.out.mono ?_
    rintro e u3 ⟨rfl, hb⟩
    replace HZ := Lib.hid (HZ.out.next hb)
    clear hb HMq
    obtain ⟨i, nd, er⟩ := r
    obtain ⟨x0, x1, x2, x3, x4, x5, x6, x7, x8, x9, xf⟩ := ten_cells HZ.out.r
    obtain ⟨y0, y1, y2, y3, y4, yf⟩ := five_cells HZ.out.s
    have n1 : R ≠ Q := HZ.out.ne
    have n2 : Q ≠ R := Ne.symm n1
    obtain ⟨hr1, hs1, hb1⟩ := HZ.out.told i nd
    have H1 := Lib.hid hr1
    have H2 := Lib.hid hs1
    have H3 := Lib.hid hb1
    clear hr1 hs1 hb1
    go_wp2
    refine bodyPost_ret (results_plain _ _ R Q i nd er rfl rfl rfl H1.out H2.out) rfl ?_
    exact ⟨rfl, H3.out⟩
  · have HP2 : Hid (∀ v, Below u.heap.size u v → Calls Tryz.prog 18 #[.slice (some ⟨b, off + 3, none⟩) m (c - 1)] v fun e u' => ∃ a' c', e = .returned (.tuple #[.slice a' os.length c', .int .i64 0]) ∧ SL poC 7 u' u'.heap.size a' os.length os ∧ Below v.heap.size v u') := Lib.hid fun v hv => HPa.out v _ _ (after HZ.out.k hv) (by
      have := sl_tail (HSl.out.next hv) (some ⟨b, off + 3, none⟩) (fun hne => by rfl)
      rw [HMe.out]; exact this)
    clear HPa
    go_wp2_with fail
    refine (HP2.out u (Below.refl _ _)).mono ?_
    rintro e u2 ⟨a', c', rfl, hso, hb⟩
    replace HZ := Lib.hid (HZ.out.next hb)
    have k2 : u2.cell? ⟨b, off + 1, none⟩ = some (.string N) := by rw [hb.cell (p := ⟨b, off + 1, none⟩) (cell_lt k1)]; exact k1
    have HMq := Lib.hid (HMk.out u2 a' c' HZ.out.k hso)
    obtain ⟨q, hq⟩ : ∃ q, q = os.length := ⟨_, rfl⟩
    rw [← hq] at HMq ⊢
    clear hb hso hq HP2 HMk
    go_wp2_with fail
    refine HMq.out.mono ?_
    rintro e u3 ⟨rfl, hb⟩
    replace HZ := Lib.hid (HZ.out.next hb)
    clear hb HMq
    obtain ⟨i, nd, er⟩ := r
    obtain ⟨x0, x1, x2, x3, x4, x5, x6, x7, x8, x9, xf⟩ := ten_cells HZ.out.r
    obtain ⟨y0, y1, y2, y3, y4, yf⟩ := five_cells HZ.out.s
    have n1 : R ≠ Q := HZ.out.ne
    have n2 : Q ≠ R := Ne.symm n1
    obtain ⟨hr1, hs1, hb1⟩ := HZ.out.told i nd
    have H1 := Lib.hid hr1
    have H2 := Lib.hid hs1
    have H3 := Lib.hid hb1
    clear hr1 hs1 hb1
    go_wp2
    refine bodyPost_ret (results_plain _ _ R Q i nd er rfl rfl rfl H1.out H2.out) rfl ?_
    exact ⟨rfl, H3.out⟩
end Go.Proofs.YthejefldnpeciaaGreatDoor
