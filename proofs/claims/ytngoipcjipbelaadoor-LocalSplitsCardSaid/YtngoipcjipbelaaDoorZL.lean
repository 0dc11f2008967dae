/- local's law: LocalSplits. -/
import Derived.Test.YtngoipcjipbelaaDoorYD
import Derived.BigQuiet
import Derived.Laws.OwnMore
namespace Go.Proofs.YtngoipcjipbelaaDoor
set_option linter.unusedVariables false
set_option linter.unusedSimpArgs false
open Go.ChangeShapes Go.WideShapes Go.Deep Go.RowKit

/-- Split, where labels stand or none do; the lengths are numbers of their own. -/
def SplitK (la : List (List UInt8)) (k : Nat) (r : List Ti) (m : Nat) (w : World) (e : Ending) (w' : World) : Prop :=
  ∃ a1 c1 a2 c2, e = .returned (.tuple #[.slice a1 k c1, .slice a2 m c2, .int .i64 0]) ∧ SL stC 1 w' w'.heap.size a1 k la ∧ SL tiC 3 w' w'.heap.size a2 m r ∧ (a2 = none → m = 0 ∧ c2 = 0) ∧ m ≤ c2 ∧ Below w.heap.size w w'
theorem Split_K {l r : List Ti} {la : List (List UInt8)} {n k m : Nat} (hF : splitL l = some (la, r)) (hk : k = la.length) (hm : m = r.length) (hg : GoodTs l) (hn : n ≤ 1000000) (w : World) (a : Option Addr) (c : Nat)
    (h : SL tiC 3 w w.heap.size a n l) (hz : a = none → n = 0 ∧ c = 0) (hc : n ≤ c) (hT : TabO w) : Calls Tryd.prog 29 #[.slice a n c] w (SplitK la k r m w) := by
  subst hk hm
  refine (Split_any h hz hc hg hn hT).mono ?_
  intro e w' hh
  unfold SplitR at hh
  rw [hF] at hh
  exact hh
theorem Split_N {l : List Ti} {n : Nat} (hF : splitL l = none) (hg : GoodTs l) (hn : n ≤ 1000000) (w : World) (a : Option Addr) (c : Nat)
    (h : SL tiC 3 w w.heap.size a n l) (hz : a = none → n = 0 ∧ c = 0) (hc : n ≤ c) (hT : TabO w) : Calls Tryd.prog 29 #[.slice a n c] w (RetB (.tuple #[.slice none 0 0, .slice none 0 0, .int .i64 3]) w) := by
  refine (Split_any h hz hc hg hn hT).mono ?_
  intro e w' hh
  unfold SplitR at hh
  rw [hF] at hh
  exact hh
/-- A label laid ahead. -/
theorem lit2 (u : World) (s : ByteArray) : (u.alloc (.cells #[.int .i64 1, .string s, .int .u64 0, .int .i64 4, .string ⟨#[58]⟩, .int .u64 0] 31)).ownsRow u.heap.size 31 3 (.slice (some ⟨u.heap.size, 0, none⟩) 2 2) 2 (([⟨1, s.data.toList, 0⟩, ⟨4, [58], 0⟩] : List Ti).flatMap tiC) := by
  have h := World.ownsRow_lit (base := u.heap.size) (e := 31) (size := 3) u #[.int .i64 1, .string s, .int .u64 0, .int .i64 4, .string ⟨#[58]⟩, .int .u64 0] 2 (Nat.le_refl _) (by unfold maxLen; omega) rfl
  have e : (#[Value.int .i64 1, .string s, .int .u64 0, .int .i64 4, .string ⟨#[58]⟩, .int .u64 0] : Array Value).toList = ([⟨1, s.data.toList, 0⟩, ⟨4, [58], 0⟩] : List Ti).flatMap tiC := by
    show _ = ([.int .i64 1, .string ⟨s.data.toList.toArray⟩, .int .u64 0, .int .i64 4, .string ⟨#[58]⟩, .int .u64 0] : List Value)
    rw [ba_back]
  rw [← e]
  exact h
theorem neq_ti (x : Ti) : ∀ w, (Sem.run Tryd.prog (binOp BinOp.neq 31 (tiV x) (tiV x)) w) = Result.ok (.bool false) w := by
  intro w
  obtain ⟨k, t, v⟩ := x
  simp [go_sem]
set_option maxRecDepth 100000 in
set_option maxHeartbeats 8000000 in
theorem LocalSplits_walk (w : World) (a : Option Addr) (n c : Nat) (l : List Ti) (hr : n * 32 ≤ reachBytes) (hg : GoodTs l) (hs : SL tiC 3 w w.heap.size a n l) (hz : a = none → n = 0 ∧ c = 0) (hb : n ≤ c)
    (s : ByteArray) (hss : s.size ≤ reachBytes) (hT : TabO w) :
    Calls Tryd.prog 10 #[.slice a n c, .string s] w (RetB (.bool true) w) := by
  have HT := Lib.hid hT
  by_cases h60 : 60 < n
  · have h60z : (60 : Int) < (n : Int) := by omega
    clear hT hs hz hb hg hr hss
    go_enter Tryd.func10, Tryd.ntmps10
    go_wp2
    go_ret
    exact ⟨rfl, Below.refl _ _⟩
  have h60z : ¬ (60 : Int) < (n : Int) := by omega
  by_cases h100 : 100 < s.size
  · have h100z : (100 : Int) < (s.size : Int) := by omega
    clear hT hs hz hb hg hr hss
    go_enter Tryd.func10, Tryd.ntmps10
    go_wp2
    go_ret
    exact ⟨rfl, Below.refl _ _⟩
  have h100z : ¬ (100 : Int) < (s.size : Int) := by omega
  have hn6 : n ≤ 1000000 := by omega
  have hsm : s.size ≤ maxLen := by unfold maxLen; omega
  have HLb : Hid (∀ u, TabO u → Calls Tryd.prog 30 #[] u (RetB (.bool true) u)) := Lib.hid labeled_true
  cases hsp : splitL l with
  | none =>
    have HX1 := Lib.hid (Split_N hsp hg hn6 w a c hs hz hb hT)
    clear hT hs hz hb hg hr hss hsp hsm
    go_enter Tryd.func10, Tryd.ntmps10
    go_wp2_with fail
    refine HX1.out.mono ?_
    rintro e u1 ⟨rfl, hb⟩
    have HB1 := Lib.hid hb
    clear hb
    go_wp2_with fail
    refine (HLb.out _ (HT.out.next HB1.out)).mono ?_
    rintro e u3 ⟨rfl, hb⟩
    have HB3 := Lib.hid (after HB1.out hb)
    clear hb
    go_wp2
    go_ret
    exact ⟨rfl, HB3.out⟩
  | some x =>
    obtain ⟨la, r⟩ := x
    have hS := split_is hsp
    have hlen := hs.len
    obtain ⟨k1, hk1⟩ : ∃ k, k = la.length := ⟨_, rfl⟩
    obtain ⟨m1, hm1⟩ : ∃ m, m = r.length := ⟨_, rfl⟩
    obtain ⟨t1, ht1⟩ : ∃ t, t = 2 * k1 := ⟨_, rfl⟩
    obtain ⟨kk, hkk⟩ : ∃ k, k = k1 + 1 := ⟨_, rfl⟩
    obtain ⟨n3, hn3⟩ : ∃ k, k = 2 + n := ⟨_, rfl⟩
    have hsum : t1 + m1 = n := by have := hS.len; omega
    have hgr : GoodTs r := fun t ht => hg t (by rw [← hS.left] at ht; exact List.mem_of_mem_drop ht)
    have HX1 := Lib.hid (Split_K hsp hk1 hm1 hg hn6 w a c hs hz hb hT)
    have HX2 := Lib.hid (Split_K (n := m1) (k := 0) (m := m1) (split_no hS.none) rfl hm1 hgr (by omega))
    have HX3 : Hid (isNmL s.data.toList = true → ∀ (u : World) (a : Option Addr) (c : Nat), SL tiC 3 u u.heap.size a n3 (⟨1, s.data.toList, 0⟩ :: ⟨4, [58], 0⟩ :: l) → (a = none → n3 = 0 ∧ c = 0) → n3 ≤ c → TabO u → Calls Tryd.prog 29 #[.slice a n3 c] u (SplitK (s.data.toList :: la) kk r m1 u)) := Lib.hid (fun hnm u a c h1 h2 h3 h4 =>
      Split_K (split_more hnm hsp) (by rw [List.length_cons, ← hk1, hkk]) hm1 (by
        intro t ht
        rcases List.mem_cons.1 ht with rfl | ht
        · exact ⟨(by show i64ok 1; decide), (by simpa using hsm), (by show (0 : Int) ≤ 0 ∧ (0 : Int) < 18446744073709551616; decide)⟩
        rcases List.mem_cons.1 ht with rfl | ht
        · exact ⟨by decide, by decide, by decide⟩
        · exact hg t ht) (by omega) u a c h1 h2 h3 h4)
    have HNm : Hid (∀ u, TabO u → Calls Tryd.prog 31 #[.string s] u (RetB (.bool (isNmL s.data.toList)) u)) := Lib.hid (fun u hu => IsName_any s hsm u hu)
    have HSL := Lib.hid hs
    have HZ := Lib.hid hz
    have HSp := Lib.hid hS
    have HK := Lib.hid (And.intro hk1 (And.intro hm1 (And.intro ht1 (And.intro hkk (And.intro hn3 hlen)))))
    have w1 : IntKind.i64.wrap (2 * (k1 : Int)) = (t1 : Int) := by rw [IntKind.wrap_i64]; omega
    have w2 : IntKind.i64.wrap ((t1 : Int) + m1) = (n : Int) := by rw [IntKind.wrap_i64]; omega
    have w3 : IntKind.i64.wrap ((k1 : Int) + 1) = (kk : Int) := by rw [IntKind.wrap_i64]; omega
    have hkb : k1 ≤ 60 := by omega
    have hmb : m1 ≤ 60 := by omega
    have HW := Lib.hid (And.intro w1 (And.intro w2 w3))
    have HN := Lib.hid (And.intro hsum (And.intro hn6 h60))
    clear hT hs hz hb hg hr hss hsp hsm hS hgr hk1 hm1 ht1 hkk hn3 hlen hsum w3 h60 h100
    go_enter Tryd.func10, Tryd.ntmps10
    go_wp2_with fail
    refine HX1.out.mono ?_
    rintro e u1 ⟨b1, d1, b2, d2, rfl, hla, hrr, hrz, hrc, hb⟩
    have HB1 := Lib.hid hb
    have HLA := Lib.hid hla
    have HR := Lib.hid hrr
    have HRZ := Lib.hid (And.intro hrz hrc)
    replace HSL := Lib.hid (HSL.out.next hb)
    clear hla hrr hrz hrc hb h60z h100z HX1
    go_wp2_with fail
    clear w2
    go_loopw [8] (fun i wr => ∃ k : Nat, k ≤ k1 ∧ i = .int .i64 k ∧ ∃ z, wr = u1.drewN z) (fun i _ => k1 - (intOf i).toNat)
    case atStart => exact ⟨0, by omega, rfl, 0, rfl⟩
    case round =>
      obtain ⟨k, hk, rfl, z, rfl⟩ := hrel
      by_cases hlt : k < k1
      · obtain ⟨e1, e2, e3, -, -, e6⟩ := HK.out
        have hkl : k < la.length := by rw [← e1]; exact hlt
        obtain ⟨q1, q2, q3⟩ := HN.out
        have hj0 : 2 * k < l.length := by omega
        have hj1 : 2 * k + 1 < l.length := by omega
        obtain ⟨tx1, tx2⟩ := HSp.out.text k hkl hj0 hj1
        obtain ⟨b, off, rfl, hB, hc⟩ := HLA.out.cells (HLA.out.ne (k := k) hlt)
        obtain ⟨b', off', rfl, hB', hc'⟩ := HSL.out.cells (HSL.out.ne (k := 2 * k) (by omega))
        have c0 := hc k hkl 0 (by omega)
        obtain ⟨-, c1, -⟩ := ti_cells (fun j hj => hc' (2 * k) hj0 j hj)
        obtain ⟨-, c2, -⟩ := ti_cells (fun j hj => hc' (2 * k + 1) hj1 j hj)
        rw [tx1] at c1
        rw [tx2] at c2
        generalize la[k] = T at *
        rw [show (stC T)[0]? = some (.string ⟨T.toArray⟩) from rfl] at c0
        rw [Nat.mul_one, Nat.add_zero] at c0
        obtain ⟨j, hj⟩ : ∃ j, j = 2 * k := ⟨_, rfl⟩
        obtain ⟨j1, hj1'⟩ : ∃ j1, j1 = 2 * k + 1 := ⟨_, rfl⟩
        rw [← hj] at c1
        rw [← hj1'] at c2
        have v1 : IntKind.i64.wrap (2 * (k : Int)) = (j : Int) := by rw [IntKind.wrap_i64]; omega
        have v2 : IntKind.i64.wrap ((j : Int) + 1) = (j1 : Int) := by rw [IntKind.wrap_i64]; omega
        have i1 : (0 : Int) ≤ (j : Int) ∧ (j : Int) < (n : Int) := by omega
        have i2 : (0 : Int) ≤ (j1 : Int) ∧ (j1 : Int) < (n : Int) := by omega
        have i3 : (0 : Int) ≤ (k : Int) ∧ (k : Int) < (k1 : Int) := by omega
        have hki : (k : Int) < (k1 : Int) := by omega
        clear hc hc' hB hB' hkl hj hj1' hj0 hj1 tx1 tx2 e1 e2 e3 e6 q1 q2 q3
        generalize hU : u1.drewN z = U
        have f0 : ∀ p, U.cell? p = u1.cell? p := fun p => by rw [← hU]; rfl
        rw [← f0] at c0 c1 c2
        clear f0
        go_wp2
        go_quiet (fail)
        go_wp2
        go_roundw
        case rel => exact ⟨k + 1, by omega, by go_num, z + nq, by rw [← hU]; exact (World.drewN_drewN _ _ _)⟩
        case measure => simp [intOf]; omega
      · obtain rfl : k1 = k := by omega
        have HB2 := Lib.hid (below_drewN (Below.refl u1.heap.size u1) z)
        generalize u1.drewN z = U2 at HB2 ⊢
        go_wp2_with fail
        clear w1
        replace HSL := Lib.hid (HSL.out.next HB2.out)
        replace HLA := Lib.hid (HLA.out.next HB2.out)
        replace HR := Lib.hid (HR.out.next HB2.out)
        replace HB2 := Lib.hid (after HB1.out HB2.out)
        have w1 := HW.out.1
        go_loopw [9] (fun i wr => ∃ k : Nat, k ≤ m1 ∧ i = .int .i64 k ∧ ∃ z, wr = U2.drewN z) (fun i _ => m1 - (intOf i).toNat)
        case atStart => exact ⟨0, by omega, rfl, 0, rfl⟩
        case round =>
          obtain ⟨k, hk, rfl, z, rfl⟩ := hrel
          by_cases hlt : k < m1
          · obtain ⟨e1, e2, e3, -, -, e6⟩ := HK.out
            have hkl : k < r.length := by rw [← e2]; exact hlt
            obtain ⟨q1, q2, q3⟩ := HN.out
            have hjl : t1 + k < l.length := by omega
            have hel : l[t1 + k] = r[k] := by
              have hh := HSp.out.left
              rw [← e1, ← e3] at hh
              simp only [← hh, List.getElem_drop]
            obtain ⟨b, off, rfl, hB, hc⟩ := HR.out.cells (HR.out.ne (k := k) hlt)
            obtain ⟨b', off', rfl, hB', hc'⟩ := HSL.out.cells (HSL.out.ne (k := t1 + k) (by omega))
            obtain ⟨c0, c1, c2⟩ := ti_cells (fun j hj => hc k hkl j hj)
            obtain ⟨g0, g1, g2⟩ := ti_cells (fun j hj => hc' (t1 + k) hjl j hj)
            rw [hel] at g0 g1 g2
            generalize r[k] = T at *
            obtain ⟨j, hj⟩ : ∃ j, j = t1 + k := ⟨_, rfl⟩
            rw [← hj] at g0 g1 g2
            have v1 : IntKind.i64.wrap ((t1 : Int) + k) = (j : Int) := by rw [IntKind.wrap_i64]; omega
            have i1 : (0 : Int) ≤ (j : Int) ∧ (j : Int) < (n : Int) := by omega
            have i3 : (0 : Int) ≤ (k : Int) ∧ (k : Int) < (m1 : Int) := by omega
            have hki : (k : Int) < (m1 : Int) := by omega
            have hnq := neq_ti T
            clear hc hc' hB hB' hkl hj hjl hel e1 e2 e3 e6 q1 q2 q3
            generalize hU : U2.drewN z = U
            have f0 : ∀ p, U.cell? p = U2.cell? p := fun p => by rw [← hU]; rfl
            rw [← f0] at c0 c1 c2 g0 g1 g2
            clear f0
            go_wp2
            go_quiet (fail)
            go_wp2
            go_roundw
            case rel => exact ⟨k + 1, by omega, by go_num, z + nq, by rw [← hU]; exact (World.drewN_drewN _ _ _)⟩
            case measure => simp [intOf]; omega
          · obtain rfl : m1 = k := by omega
            have HB3 := Lib.hid (below_drewN (Below.refl U2.heap.size U2) z)
            generalize U2.drewN z = U3 at HB3 ⊢
            replace HSL := Lib.hid (HSL.out.next HB3.out)
            replace HLA := Lib.hid (HLA.out.next HB3.out)
            replace HR := Lib.hid (HR.out.next HB3.out)
            replace HB3 := Lib.hid (after HB2.out HB3.out)
            clear w1
            go_wp2_with fail
            refine (HX2.out _ _ _ HR.out HRZ.out.1 HRZ.out.2 (HT.out.next HB3.out)).mono ?_
            rintro e u4 ⟨b3, d3, b4, d4, rfl, -, -, -, -, hb⟩
            have HB4 := Lib.hid (after HB3.out hb)
            replace HSL := Lib.hid (HSL.out.next hb)
            clear hb
            cases hnm : isNmL s.data.toList
            · rw [hnm] at HNm
              go_wp2_with fail
              refine (HNm.out _ (HT.out.next HB4.out)).mono ?_
              rintro e u5 ⟨rfl, hb⟩
              have HB5 := Lib.hid (after HB4.out hb)
              clear hb
              go_wp2_with fail
              refine (HLb.out _ (HT.out.next HB5.out)).mono ?_
              rintro e u6 ⟨rfl, hb⟩
              have HB6 := Lib.hid (after HB5.out hb)
              clear hb
              go_wp2
              go_ret
              exact ⟨rfl, HB6.out⟩
            · rw [hnm] at HNm
              replace HX3 := Lib.hid (HX3.out hnm)
              clear hnm
              obtain ⟨i0, hi, hi0, hi1, hi2⟩ := info_parts info_tok
              have x1 : 2 + n ≤ maxLen := by have := HN.out.2.1; unfold maxLen; omega
              have x2 : (2 + n) * 32 ≤ 140737488355328 := by have := HN.out.2.1; omega
              go_wp2_with fail
              refine (HNm.out _ (HT.out.next HB4.out)).mono ?_
              rintro e u5 ⟨rfl, hb⟩
              have HB5 := Lib.hid (after HB4.out hb)
              replace HSL := Lib.hid (HSL.out.next hb)
              clear hb
              go_wp2_with (first
                | (at_builtin; refine append_SL rfl _ _ 26 rfl u5.heap.size 31 i0 _ 32 Tryd.underlying26 hi hi0 hi1 hi2 rfl (by decide) ti_len (fun t => ti_one t) _ 2 [⟨1, s.data.toList, 0⟩, ⟨4, [58], 0⟩] rfl (lit2 u5 s) a n c l rfl (HSL.out.next ((Below.refl _ _).alloc (Nat.le_refl _) _)) HZ.out x1 x2 (by rw [World.size_alloc]; omega) ?_; intro v1 u7 hown1 hbl1 hgr1)
                | fail)
              have hB7 : Below u5.heap.size u5 u7 := ((Below.refl _ _).alloc (Nat.le_refl _) _).trans hbl1
              have hn3 : 2 + n = n3 := HK.out.2.2.2.2.1.symm
              rw [hn3] at hown1
              obtain ⟨a7, c7, hv7, hsl, hnil⟩ := SL.ofOwns ti_len (by decide) hown1
              subst hv7
              have hcap := own_cap hown1
              have HB7 := Lib.hid (after HB5.out hB7)
              have HX4 := Lib.hid (HX3.out _ _ _ hsl hnil hcap (HT.out.next HB7.out))
              clear hown1 hbl1 hgr1 hsl hnil hcap hB7 hn3 x1 x2
              refine HX4.out.mono ?_
              rintro e u8 ⟨b5, d5, b6, d6, rfl, hla2, -, -, -, hb⟩
              have HB8 := Lib.hid (after HB7.out hb)
              have hkk1 : kk = k1 + 1 := HK.out.2.2.2.1
              obtain ⟨b, off, rfl, hB, hc⟩ := hla2.cells (by simp)
              have c0 := hc 0 (by simp) 0 (by omega)
              rw [show (stC (s.data.toList :: la)[0])[0]? = some (.string ⟨s.data.toList.toArray⟩) from rfl, ba_back] at c0
              simp only [Nat.zero_mul, Nat.add_zero] at c0
              have y1 : (0 : Int) < (kk : Int) := by omega
              have w3 := HW.out.2.2
              clear hb hla2 hB hc hkk1 HX3 HX4
              go_wp2_with fail
              refine (HLb.out _ (HT.out.next HB8.out)).mono ?_
              rintro e u9 ⟨rfl, hb⟩
              have HB9 := Lib.hid (after HB8.out hb)
              rw [← hb.cell (cell_lt c0)] at c0
              clear hb
              go_wp2
              go_ret
              exact ⟨rfl, HB9.out⟩
end Go.Proofs.YtngoipcjipbelaaDoor
