/- line's law: LineConds. -/
import Derived.Test.YthejefldnpeciaaGreatDooryS
namespace Go.Proofs.YthejefldnpeciaaGreatDoor
set_option linter.unusedVariables false
set_option linter.unusedSimpArgs false
open Go.ChangeShapes Go.WideShapes Go.Deep Go.RowKit

theorem cond_cases (s : List UInt8) : (∃ k, k < 14 ∧ condsT.getD k [] = s ∧ condM s = ((k : Int), 0)) ∨ condM s = (0, 6) := by
  by_cases h : s ∈ condsT
  · obtain ⟨k, hk, e⟩ := List.getElem_of_mem h
    have hk' : k < 14 := hk
    have hg : condsT.getD k [] = s := by rw [List.getD_eq_getElem?_getD, List.getElem?_eq_getElem hk]; exact e
    exact .inl ⟨k, hk', hg, by rw [← hg]; exact cond_at hk'⟩
  · exact .inr (by unfold condM; rw [if_neg h])
theorem condTx_at {k : Nat} (h : k < 14) : condTx (k : Int) = (condsT.getD k [], 0) := by unfold condTx; rw [if_pos ⟨by omega, by omega⟩]; rfl
abbrev os8 : List Po := [⟨2, 0, false, false, 8, [], 0⟩]
def linesOf (l : List UInt8) : Option ((List Po × Int) × Bool) := match lineL (l.map (·.toNat)) with | none => none | some ts => some (parseL (ts.map toTi), (ts.map toTi).all goodB && decide (ts.length ≤ 1000))
theorem l8 : linesOf [56] = some ((os8, 0), true) := by kernel_rfl
theorem line8 : ∃ ts, lineL (([56] : List UInt8).map (·.toNat)) = some ts ∧ parseL (ts.map toTi) = (os8, 0) ∧ (∀ x ∈ ts.map toTi, GoodTi x) ∧ ts.length ≤ 1000 := by
  have h := l8
  unfold linesOf at h
  cases hL : lineL (([56] : List UInt8).map (·.toNat)) with
  | none => rw [hL] at h; cases h
  | some ts =>
    rw [hL] at h
    simp only [Option.some.injEq, Prod.mk.injEq, Bool.and_eq_true, decide_eq_true_eq, List.all_eq_true] at h
    obtain ⟨h1, h2, h3⟩ := h
    exact ⟨ts, rfl, h1, fun x hx => good_of (h2 x hx), h3⟩
theorem make8 {k : Nat} (h : k < 14) : makeL ([98, 46] ++ condsT.getD k []) os8 = (⟨31, 0, 0, 0, 0, 8, 0, 0, 0, (k : Int)⟩, ndZ, 0) := by
  rcases k14 h with rfl | rfl | rfl | rfl | rfl | rfl | rfl | rfl | rfl | rfl | rfl | rfl | rfl | rfl <;> (show _ = _; kernel_rfl)
theorem eq8 {k : Nat} (h : k < 14) (u : World) : Sem.run Tryz.prog (binOp .eql 26 (.agg (inC ⟨31, 0, 0, 0, 0, 8, 0, 0, 0, (k : Int)⟩)) (.agg (inC ⟨31, 0, 0, 0, 0, 8, 0, 0, 0, (k : Int)⟩))) u = .ok (.bool true) u := by
  rcases k14 h with rfl | rfl | rfl | rfl | rfl | rfl | rfl | rfl | rfl | rfl | rfl | rfl | rfl | rfl <;> (show _ = _; kernel_rfl)
set_option maxRecDepth 100000 in
set_option maxHeartbeats 8000000 in
theorem LineConds_walk (s : ByteArray) (hs : s.size ≤ reachBytes) (c : Int) (hc : -9223372036854775808 ≤ c ∧ c ≤ 9223372036854775807) (w : World) (hT : TabL w) :
    Calls Tryz.prog 6 #[.string s, .int .i64 c] w (RetB (.bool true) w) := by
  have HM : Hid (∀ u, Below w.heap.size w u → Calls Tryz.prog 9 #[] u (RetB (.bool true) u)) := Lib.hid fun u hu => made_is u (hT.next hu)
  have HC : Hid (∀ (S : ByteArray) u, Below w.heap.size w u → Calls Tryz.prog 16 #[.string S] u (Ret (two .i64 .i64 (condM S.data.toList)) u)) := Lib.hid fun S u hu => Cond_any S u (hT.next hu).2.2
  have HCt : Hid (∀ (n : Int) u, i64ok n → Below w.heap.size w u → Calls Tryz.prog 15 #[.int .i64 n] u (Ret (.tuple #[.string ⟨(condTx n).1.toArray⟩, .int .i64 (condTx n).2]) u)) := Lib.hid fun n u hn hu => CondText_any n u (hT.next hu).2.2 hn
  obtain ⟨ts, hL, hp, hg, hn⟩ := line8
  have HLn : Hid (∀ u, Below w.heap.size w u → Calls Tryz.prog 17 #[.string ⟨#[56]⟩] u (RetTs ts u)) := Lib.hid fun u hu => Line_yes ⟨#[56]⟩ (U_low (l := [56]) rfl (by decide)) (by decide) hL u (hT.next hu).2.1.1
  have HPa : Hid (∀ u (a : Option Addr) cc, Below w.heap.size w u → SL tkC 3 u u.heap.size a ts.length ts → Calls Tryz.prog 18 #[.slice a ts.length cc] u fun e u' => ∃ a' c', e = .returned (.tuple #[.slice a' 1 c', .int .i64 0]) ∧ SL poC 7 u' u'.heap.size a' 1 os8 ∧ Below u.heap.size u u') := Lib.hid fun u a cc hb hsl => by
    have q := Parse_any (w := u) (a := a) (c := cc) (ts := ts.map toTi) (by rw [List.length_map]; exact sl_ti hsl) (hT.next hb).2.1 hg (by rw [List.length_map]; omega)
    rw [List.length_map] at q
    refine q.mono ?_
    intro e u' hO
    unfold ParseP at hO
    rw [hp] at hO
    obtain ⟨a', c', h1, h2, -, h4⟩ := hO
    exact ⟨a', c', h1, h2, h4⟩
  have HMk : Hid (∀ (k : Nat) u (a : Option Addr) cc, k < 14 → Below w.heap.size w u → SL poC 7 u u.heap.size a 1 os8 → Calls Tryz.prog 8 #[.string ((⟨#[98, 46]⟩ : ByteArray) ++ cdB k), .slice a 1 cc] u (RetB (mkV (⟨31, 0, 0, 0, 0, 8, 0, 0, 0, (k : Int)⟩, ndZ, 0)) u)) := Lib.hid fun k u a cc hk hb hsl => by
    have := Make_any (hT.next hb) ((⟨#[98, 46]⟩ : ByteArray) ++ cdB k) (by have := bcat_size hk; unfold maxLen; omega) a 1 cc os8 hsl (by omega) (by
      intro o ho
      simp only [List.mem_singleton] at ho
      subst ho
      exact goodP_of (by decide))
    rwa [bcat, make8 hk] at this
  have HB : Hid (Below w.heap.size w w) := Lib.hid (Below.refl _ _)
  have HCi := Lib.hid hc
  clear hT hL hp hg hn hc
  by_cases hlen : (100 : Int) < (s.size : Int)
  · clear hs
    go_enter Tryz.func6, Tryz.ntmps6
    go_wp2
    go_ret
    exact ⟨rfl, HB.out⟩
  clear hs
  rcases cond_cases s.data.toList with ⟨k, hk, hks, hcm⟩ | hcm
  · have HC1 : Hid (Calls Tryz.prog 16 #[.string s] w (Ret (two .i64 .i64 ((k : Int), 0)) w)) := Lib.hid (by have := HC.out s w HB.out; rwa [hcm] at this)
    have HT1 : Hid (Calls Tryz.prog 15 #[.int .i64 (k : Int)] w (Ret (.tuple #[.string s, .int .i64 0]) w)) := Lib.hid (by
      have := HCt.out (k : Int) w (by unfold i64ok; omega) HB.out
      rw [condTx_at hk] at this
      rwa [show (⟨(condsT.getD k []).toArray⟩ : ByteArray) = s from ba_ext (by rw [hks])] at this)
    have k1 : ¬ (k : Int) < 0 := by omega
    have k2 : ¬ (13 : Int) < (k : Int) := by omega
    clear hk hks hcm
    go_enter Tryz.func6, Tryz.ntmps6
    go_wp2_with fail
    refine HC1.out.mono ?_
    rintro e w' ⟨rfl, rfl⟩
    go_wp2_with fail
    refine HT1.out.mono ?_
    rintro e w' ⟨rfl, rfl⟩
    by_cases hcc : 0 ≤ c ∧ c < 14
    rotate_left
    · have HTx : Hid (Calls Tryz.prog 15 #[.int .i64 c] w (Ret (.tuple #[.string ⟨#[]⟩, .int .i64 1]) w)) := Lib.hid (by have := HCt.out c w HCi.out HB.out; rwa [show condTx c = ([], 1) by unfold condTx; rw [if_neg hcc]] at this)
      have hcs : c < 0 ∨ (¬ c < 0 ∧ 13 < c) := by omega
      clear hcc
      rcases hcs with h1 | ⟨h1, h2⟩
      all_goals
        go_wp2_with fail
        refine HTx.out.mono ?_
        rintro e w' ⟨rfl, rfl⟩
        go_wp2_with fail
        refine (HM.out _ HB.out).mono ?_
        rintro e u ⟨rfl, hb⟩
        have HB1 := Lib.hid (after HB.out hb)
        clear hb
        go_wp2
        go_ret
        exact ⟨rfl, HB1.out⟩
    · obtain ⟨q, rfl⟩ := Int.eq_ofNat_of_zero_le hcc.1
      have hq : q < 14 := by omega
      have HTx : Hid (Calls Tryz.prog 15 #[.int .i64 (q : Int)] w (Ret (.tuple #[.string (cdB q), .int .i64 0]) w)) := Lib.hid (by have := HCt.out (q : Int) w HCi.out HB.out; rwa [condTx_at hq] at this)
      have HCq : Hid (Calls Tryz.prog 16 #[.string (cdB q)] w (Ret (two .i64 .i64 ((q : Int), 0)) w)) := Lib.hid (by have := HC.out (cdB q) w HB.out; rwa [cdB_list, cond_at hq] at this)
      have hsz : (cdB q).size ≤ 2 := cd_size hq
      have HQ := Lib.hid hq
      have HEq : Hid (∀ u, Sem.run Tryz.prog (binOp .eql 26 (.agg (inC ⟨31, 0, 0, 0, 0, 8, 0, 0, 0, (q : Int)⟩)) (.agg (inC ⟨31, 0, 0, 0, 0, 8, 0, 0, 0, (q : Int)⟩))) u = .ok (.bool true) u) := Lib.hid (eq8 hq)
      have hqi : (q : Int) < 14 := by omega
      clear hcc hq
      go_wp2_with fail
      refine HTx.out.mono ?_
      rintro e w' ⟨rfl, rfl⟩
      go_wp2_with fail
      refine HCq.out.mono ?_
      rintro e w'' ⟨rfl, rfl⟩
      go_wp2_with fail
      refine (HLn.out _ HB.out).mono ?_
      rintro e u1 ⟨ta, tc, rfl, hsl, -, hb⟩
      replace HB := Lib.hid (after HB.out hb)
      have HP1 := Lib.hid (HPa.out u1 ta tc HB.out hsl)
      clear hb hsl
      obtain ⟨tn, htn⟩ : ∃ x, x = ts.length := ⟨_, rfl⟩
      rw [← htn] at HP1 ⊢
      clear htn
      go_wp2_with fail
      refine HP1.out.mono ?_
      rintro e u2 ⟨pa, pc, rfl, hso, hb⟩
      replace HB := Lib.hid (after HB.out hb)
      have HM1 := Lib.hid (HMk.out q u2 pa pc HQ.out HB.out hso)
      clear hb hso HP1
      go_wp2_with fail
      refine HM1.out.mono ?_
      rintro e u3 ⟨rfl, hb⟩
      replace HB := Lib.hid (after HB.out hb)
      clear hb HM1
      obtain ⟨I, hI⟩ : ∃ I : In, I = ⟨31, 0, 0, 0, 0, 8, 0, 0, 0, (q : Int)⟩ := ⟨_, rfl⟩
      obtain ⟨X, hX⟩ : ∃ X, X = u3.heap.size := ⟨_, rfl⟩
      obtain ⟨V, hV⟩ : ∃ V, V = (u3.alloc (.cells (inC ⟨31, 0, 0, 0, 0, 8, 0, 0, 0, (q : Int)⟩) 26)).alloc (.cells (ndA ndZ) 28) := ⟨_, rfl⟩
      have s1 : (u3.alloc (.cells (inC ⟨31, 0, 0, 0, 0, 8, 0, 0, 0, (q : Int)⟩) 26)).heap.size = u3.heap.size + 1 := World.size_alloc _ _
      have b1 : Below u3.heap.size u3 (u3.alloc (.cells (inC ⟨31, 0, 0, 0, 0, 8, 0, 0, 0, (q : Int)⟩) 26)) := (Below.refl _ _).alloc (Nat.le_refl _) _
      have b2 : Below (u3.alloc (.cells (inC ⟨31, 0, 0, 0, 0, 8, 0, 0, 0, (q : Int)⟩) 26)).heap.size (u3.alloc (.cells (inC ⟨31, 0, 0, 0, 0, 8, 0, 0, 0, (q : Int)⟩) 26)) V := by rw [hV]; exact (Below.refl _ _).alloc (Nat.le_refl _) _
      have b3 := after b1 b2
      replace HB := Lib.hid (after HB.out b3)
      have HR : Hid (RB V X (inC ⟨31, 0, 0, 0, 0, 8, 0, 0, 0, (q : Int)⟩) 26) := Lib.hid (by rw [hX]; exact RB.next (MapKept.heap_alloc u3 _).1 b2)
      have HV := Lib.hid hV.symm
      have HXe := Lib.hid hX.symm
      clear hV hX s1 b1 b2 b3 hI
      go_wp2_with fail
      rw [HV.out, HXe.out]
      refine (HM.out _ HB.out).mono ?_
      rintro e u4 ⟨rfl, hb⟩
      replace HB := Lib.hid (after HB.out hb)
      obtain ⟨x0, x1, x2, x3, x4, x5, x6, x7, x8, x9, -⟩ := ten_cells (HR.out.next hb)
      have hee := HEq.out
      have hqq : ((q : Int) == (q : Int)) = true := by simp
      clear hb
      go_wp2
      go_ret
      exact ⟨rfl, HB.out⟩
  · have HC1 : Hid (Calls Tryz.prog 16 #[.string s] w (Ret (two .i64 .i64 (0, 6)) w)) := Lib.hid (by have := HC.out s w HB.out; rwa [hcm] at this)
    clear hcm
    go_enter Tryz.func6, Tryz.ntmps6
    go_wp2_with fail
    refine HC1.out.mono ?_
    rintro e w' ⟨rfl, rfl⟩
    by_cases hcc : 0 ≤ c ∧ c < 14
    rotate_left
    · have HTx : Hid (Calls Tryz.prog 15 #[.int .i64 c] w (Ret (.tuple #[.string ⟨#[]⟩, .int .i64 1]) w)) := Lib.hid (by have := HCt.out c w HCi.out HB.out; rwa [show condTx c = ([], 1) by unfold condTx; rw [if_neg hcc]] at this)
      have hcs : c < 0 ∨ (¬ c < 0 ∧ 13 < c) := by omega
      clear hcc
      rcases hcs with h1 | ⟨h1, h2⟩
      all_goals
        go_wp2_with fail
        refine HTx.out.mono ?_
        rintro e w' ⟨rfl, rfl⟩
        go_wp2_with fail
        refine (HM.out _ HB.out).mono ?_
        rintro e u ⟨rfl, hb⟩
        have HB1 := Lib.hid (after HB.out hb)
        clear hb
        go_wp2
        go_ret
        exact ⟨rfl, HB1.out⟩
    · obtain ⟨q, rfl⟩ := Int.eq_ofNat_of_zero_le hcc.1
      have hq : q < 14 := by omega
      have HTx : Hid (Calls Tryz.prog 15 #[.int .i64 (q : Int)] w (Ret (.tuple #[.string (cdB q), .int .i64 0]) w)) := Lib.hid (by have := HCt.out (q : Int) w HCi.out HB.out; rwa [condTx_at hq] at this)
      have HCq : Hid (Calls Tryz.prog 16 #[.string (cdB q)] w (Ret (two .i64 .i64 ((q : Int), 0)) w)) := Lib.hid (by have := HC.out (cdB q) w HB.out; rwa [cdB_list, cond_at hq] at this)
      have hsz : (cdB q).size ≤ 2 := cd_size hq
      have HQ := Lib.hid hq
      have HEq : Hid (∀ u, Sem.run Tryz.prog (binOp .eql 26 (.agg (inC ⟨31, 0, 0, 0, 0, 8, 0, 0, 0, (q : Int)⟩)) (.agg (inC ⟨31, 0, 0, 0, 0, 8, 0, 0, 0, (q : Int)⟩))) u = .ok (.bool true) u) := Lib.hid (eq8 hq)
      have hqi : (q : Int) < 14 := by omega
      clear hcc hq
      go_wp2_with fail
      refine HTx.out.mono ?_
      rintro e w' ⟨rfl, rfl⟩
      go_wp2_with fail
      refine HCq.out.mono ?_
      rintro e w'' ⟨rfl, rfl⟩
      go_wp2_with fail
      refine (HLn.out _ HB.out).mono ?_
      rintro e u1 ⟨ta, tc, rfl, hsl, -, hb⟩
      replace HB := Lib.hid (after HB.out hb)
      have HP1 := Lib.hid (HPa.out u1 ta tc HB.out hsl)
      clear hb hsl
      obtain ⟨tn, htn⟩ : ∃ x, x = ts.length := ⟨_, rfl⟩
      rw [← htn] at HP1 ⊢
      clear htn
      go_wp2_with fail
      refine HP1.out.mono ?_
      rintro e u2 ⟨pa, pc, rfl, hso, hb⟩
      replace HB := Lib.hid (after HB.out hb)
      have HM1 := Lib.hid (HMk.out q u2 pa pc HQ.out HB.out hso)
      clear hb hso HP1
      go_wp2_with fail
      refine HM1.out.mono ?_
      rintro e u3 ⟨rfl, hb⟩
      replace HB := Lib.hid (after HB.out hb)
      clear hb HM1
      obtain ⟨I, hI⟩ : ∃ I : In, I = ⟨31, 0, 0, 0, 0, 8, 0, 0, 0, (q : Int)⟩ := ⟨_, rfl⟩
      obtain ⟨X, hX⟩ : ∃ X, X = u3.heap.size := ⟨_, rfl⟩
      obtain ⟨V, hV⟩ : ∃ V, V = (u3.alloc (.cells (inC ⟨31, 0, 0, 0, 0, 8, 0, 0, 0, (q : Int)⟩) 26)).alloc (.cells (ndA ndZ) 28) := ⟨_, rfl⟩
      have s1 : (u3.alloc (.cells (inC ⟨31, 0, 0, 0, 0, 8, 0, 0, 0, (q : Int)⟩) 26)).heap.size = u3.heap.size + 1 := World.size_alloc _ _
      have b1 : Below u3.heap.size u3 (u3.alloc (.cells (inC ⟨31, 0, 0, 0, 0, 8, 0, 0, 0, (q : Int)⟩) 26)) := (Below.refl _ _).alloc (Nat.le_refl _) _
      have b2 : Below (u3.alloc (.cells (inC ⟨31, 0, 0, 0, 0, 8, 0, 0, 0, (q : Int)⟩) 26)).heap.size (u3.alloc (.cells (inC ⟨31, 0, 0, 0, 0, 8, 0, 0, 0, (q : Int)⟩) 26)) V := by rw [hV]; exact (Below.refl _ _).alloc (Nat.le_refl _) _
      have b3 := after b1 b2
      replace HB := Lib.hid (after HB.out b3)
      have HR : Hid (RB V X (inC ⟨31, 0, 0, 0, 0, 8, 0, 0, 0, (q : Int)⟩) 26) := Lib.hid (by rw [hX]; exact RB.next (MapKept.heap_alloc u3 _).1 b2)
      have HV := Lib.hid hV.symm
      have HXe := Lib.hid hX.symm
      clear hV hX s1 b1 b2 b3 hI
      go_wp2_with fail
      rw [HV.out, HXe.out]
      refine (HM.out _ HB.out).mono ?_
      rintro e u4 ⟨rfl, hb⟩
      replace HB := Lib.hid (after HB.out hb)
      obtain ⟨x0, x1, x2, x3, x4, x5, x6, x7, x8, x9, -⟩ := ten_cells (HR.out.next hb)
      have hee := HEq.out
      have hqq : ((q : Int) == (q : Int)) = true := by simp
      clear hb
      go_wp2
      go_ret
      exact ⟨rfl, HB.out⟩
end Go.Proofs.YthejefldnpeciaaGreatDoor
