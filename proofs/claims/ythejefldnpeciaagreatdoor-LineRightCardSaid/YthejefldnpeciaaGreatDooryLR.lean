/- line's law: LineRight. -/
import Derived.Test.YthejefldnpeciaaGreatDooryX
import Derived.Test.YthejefldnpeciaaGreatDooryV
import Derived.Deep.QuietTactic
import Derived.BigQuiet
namespace Go.Proofs.YthejefldnpeciaaGreatDoor
set_option linter.unusedVariables false
set_option linter.unusedSimpArgs false
open Go.ChangeShapes Go.WideShapes Go.Deep Go.RowKit

theorem eqZ (n : Nd) (h : n = ndZ) (u : World) : Sem.run Tryz.prog (binOp .eql 28 (.agg #[.int .i64 n.kind, .string ⟨n.sym.toArray⟩, .int .i64 n.add, .bool n.minus, .int .u64 n.v]) (.agg #[.int .i64 0, .string ⟨#[]⟩, .int .i64 0, .bool false, .int .u64 0])) u = .ok (.bool true) u := by
  subst h; kernel_rfl
theorem eqI (i : In) (h : i = inZ) (u : World) : Sem.run Tryz.prog (binOp .eql 26 (.agg #[.int .i64 i.op, .int .i64 i.d, .int .i64 i.n, .int .i64 i.m, .int .i64 i.a, .int .i64 i.imm, .int .u64 i.mask, .int .i64 i.shift, .int .i64 i.amount, .int .i64 i.cond]) (.agg (inC inZ))) u = .ok (.bool true) u := by
  subst h; kernel_rfl
theorem own_at {i : In} {j : Nat} (h : j < 5) : (#[Value.int .i64 0, .int .i64 i.d, .int .i64 i.n, .int .i64 i.m, .int .i64 i.a] : Array Value)[j]? = some (.int .i64 ((ownL i).getD j 0)) := by
  have hc : j = 0 ∨ j = 1 ∨ j = 2 ∨ j = 3 ∨ j = 4 := by omega
  rcases hc with rfl | rfl | rfl | rfl | rfl <;> rfl
theorem own_take {i : In} {j : Nat} (h : j < 5) (r : Int) : ((ownL i).take (j + 1)).any (· == r) = (((ownL i).take j).any (· == r) || ((ownL i).getD j 0 == r)) := by
  have hc : j = 0 ∨ j = 1 ∨ j = 2 ∨ j = 3 ∨ j = 4 := by omega
  rcases hc with rfl | rfl | rfl | rfl | rfl <;> simp [ownL, Bool.or_assoc]
set_option maxRecDepth 100000 in
set_option maxHeartbeats 8000000 in
theorem LineRight_walk (w : World) (S : ByteArray) (hS : S.size ≤ reachBytes) (oa : Option Addr) (n oc : Nat) (L : List Po) (hn : n ≤ maxLen) (hg : ∀ o ∈ L, GoodPo o) (hs : SL poC 7 w w.heap.size oa n L) (hT : TabM w) :
    Calls Tryz.prog 3 #[.string S, .slice oa n oc] w (RetB (.bool true) w) := by
  have HM : Hid (∀ u, Below w.heap.size w u → Calls Tryz.prog 9 #[] u (RetB (.bool true) u)) := Lib.hid fun u hu => made_is u (hT.next hu).1
  have HSh := Lib.hid (short_any w oa n oc L hs hn)
  have HB : Hid (Below w.heap.size w w) := Lib.hid (Below.refl _ _)
  by_cases hlen : (100 : Int) < (S.size : Int)
  · clear hS hn hs hg hT
    go_enter Tryz.func3, Tryz.ntmps3
    go_wp2
    go_ret
    exact ⟨rfl, HB.out⟩
  have HMk : Hid (n ≤ 12 → Calls Tryz.prog 8 #[.string S, .slice oa n oc] w (RetB (mkV (makeL S.data.toList L)) w)) := Lib.hid fun h12 => Make_any hT.1 S (by unfold maxLen; omega) oa n oc L hs (by omega) hg
  have HSl : Hid (∀ u, Below w.heap.size w u → SL poC 7 u u.heap.size oa n L) := Lib.hid fun u hu => hs.next hu
  have HLn := Lib.hid hs.len
  have HT := Lib.hid hT
  obtain ⟨i, nd, er, hr⟩ : ∃ i nd er, makeL S.data.toList L = (i, nd, er) := ⟨_, _, _, rfl⟩
  rw [hr] at HMk
  have HNo : Hid (er ≠ 0 → i = inZ ∧ nd = ndZ) := Lib.hid fun h0 => make_no hr h0
  have HOk : Hid (er = 0 → ((nameI i.op).2 = 0 ∧ ((nameI i.op).1.data.toList = S.data.toList ∨ ((nameI i.op).1.data.toList = [98] ∧ i.op = 31 ∧ S.data.toList.length = 4))) ∧ isI i = true ∧ (∀ o ∈ L, o.kind = 1 ∨ o.kind = 4 → o.reg ∈ ownL i) ∧ (0 ≤ nd.kind ∧ nd.kind ≤ 10)) := Lib.hid fun h0 => right_ok (by rw [hr, h0])
  have HIB : Hid (n ≤ 12 → er = 0 → InB i) := Lib.hid fun h12 h0 => makeL_in hg (by rw [hr, h0])
  clear hS hn hs hg hT hr
  go_enter Tryz.func3, Tryz.ntmps3
  go_wp2_with fail
  refine HSh.out.mono ?_
  rintro e w1 ⟨r, rfl, hr, rfl⟩
  cases r
  · clear hr HSh
    go_wp2
    go_ret
    exact ⟨rfl, HB.out⟩
  have h12 : n ≤ 12 := hr rfl
  have hni : (n : Int) ≤ 12 := by omega
  replace HMk := Lib.hid (HMk.out h12)
  replace HIB := Lib.hid (HIB.out h12)
  clear hr HSh h12
  go_wp2_with fail
  refine HMk.out.mono ?_
  rintro e u ⟨rfl, hb⟩
  replace HB := Lib.hid (after HB.out hb)
  clear hb HMk
  obtain ⟨X, hX⟩ : ∃ X, X = u.heap.size := ⟨_, rfl⟩
  obtain ⟨V, hV⟩ : ∃ V, V = (u.alloc (.cells (inC i) 26)).alloc (.cells (ndA nd) 28) := ⟨_, rfl⟩
  have s1 : (u.alloc (.cells (inC i) 26)).heap.size = u.heap.size + 1 := World.size_alloc _ _
  have b1 : Below u.heap.size u (u.alloc (.cells (inC i) 26)) := (Below.refl _ _).alloc (Nat.le_refl _) _
  have b2 : Below (u.alloc (.cells (inC i) 26)).heap.size (u.alloc (.cells (inC i) 26)) V := by rw [hV]; exact (Below.refl _ _).alloc (Nat.le_refl _) _
  have b3 := after b1 b2
  have HBV : Hid (Below w.heap.size w V) := Lib.hid (after HB.out b3)
  have HR : Hid (∀ v, Below V.heap.size V v → RB v X (inC i) 26) := Lib.hid (fun v hv => RB.next (by rw [hX]; exact RB.next (MapKept.heap_alloc u _).1 b2) hv)
  have HS : Hid (∀ v, Below V.heap.size V v → RB v (X + 1) (ndA nd) 28) := Lib.hid (fun v hv => RB.next (by
    have := (MapKept.heap_alloc (u.alloc (.cells (inC i) 26)) (.cells (ndA nd) 28)).1
    rw [s1, ← hX, ← hV] at this
    exact this) hv)
  have HV := Lib.hid hV.symm
  have HXe := Lib.hid hX.symm
  clear hV hX s1 b1 b2 b3
  by_cases h0 : er = 0
  rotate_left
  · have t1 : (er != 0) = true := by simpa using h0
    obtain ⟨hz1, hz2⟩ := HNo.out h0
    have q1 := eqI i hz1
    have q2 := eqZ nd hz2
    clear h0 HNo HOk HIB hz1 hz2
    go_wp2_with fail
    rw [HV.out, HXe.out]
    refine (HM.out _ HBV.out).mono ?_
    rintro e u2 ⟨rfl, hb⟩
    have HB2 := Lib.hid (after HBV.out hb)
    obtain ⟨x0, x1, x2, x3, x4, x5, x6, x7, x8, x9, -⟩ := ten_cells (HR.out u2 hb)
    obtain ⟨y0, y1, y2, y3, y4, -⟩ := five_cells (HS.out u2 hb)
    clear hb
    go_wp2
    go_ret
    exact ⟨rfl, HB2.out⟩
  have t1 : (er != 0) = false := by simpa using h0
  obtain ⟨⟨hq0, hq1⟩, hq2, hq3, hq4⟩ := HOk.out h0
  have HIb := Lib.hid (HIB.out h0)
  have HRg : Hid (∀ o ∈ L, o.kind = 1 ∨ o.kind = 4 → o.reg ∈ ownL i) := Lib.hid hq3
  have HNm : Hid (Calls Tryz.prog 10 #[.int .i64 i.op] V (Ret (sb (nameI i.op)) V)) := Lib.hid (Name_any i.op V (HT.out.next HBV.out).five)
  have HIs : Hid (Calls Tryz.prog 11 #[inV i] V (RetB (.bool true) V)) := Lib.hid (by have := InstIs_any i V (HT.out.next HBV.out).1.1 HIb.out; rwa [hq2] at this)
  obtain ⟨N, er2, hN⟩ : ∃ N er2, nameI i.op = (N, er2) := ⟨_, _, rfl⟩
  rw [hN] at hq0 hq1 HNm
  simp only at hq0 hq1
  subst hq0
  have hnm : ((N.toList == S.toList) = true ∧ (N.toList != S.toList) = false) ∨ ((N.toList == S.toList) = false ∧ (N.toList != S.toList) = true ∧ N = ⟨#[98]⟩ ∧ (i.op != 31) = false ∧ ((S.size : Int) != 4) = false) := by
    rw [ByteArray.toList_eq, ByteArray.toList_eq]
    by_cases he : N.data.toList = S.data.toList
    · exact .inl ⟨by rw [he]; simp, by rw [he]; simp⟩
    · refine .inr ⟨by simpa using he, by simpa using he, ?_⟩
      rcases hq1 with h | ⟨h1, h2, h3⟩
      · exact absurd h he
      · have h3' : S.size = 4 := by have e : S.size = S.data.toList.length := by simp
                                    omega
        exact ⟨ba_ext h1, by rw [h2]; rfl, by rw [h3']; rfl⟩
  have k1 : (0 : Int) ≤ nd.kind := hq4.1
  have k2 : nd.kind ≤ 10 := hq4.2
  obtain ⟨x0, x1, x2, x3, x4, x5, x6, x7, x8, x9, -⟩ := ten_cells (HR.out V (Below.refl _ _))
  clear h0 HNo HOk HIB hq1 hq2 hq3 hq4 hN
  have x0a := x0
  rw [← HV.out, ← HXe.out] at x0a
  go_wp2_with fail
  rw [HV.out, HXe.out]
  clear x0a
  refine HNm.out.mono ?_
  rintro e w' ⟨rfl, rfl⟩
  rcases hnm with ⟨s1, s2⟩ | ⟨s1, s2, rfl, s3, s4⟩
  · go_wp2_with fail
    refine HIs.out.mono ?_
    rintro e v ⟨rfl, hb⟩
    have HBv := Lib.hid (after HBV.out hb)
    obtain ⟨z0, z1, z2, z3, z4, z5, z6, z7, z8, z9, -⟩ := ten_cells (HR.out v hb)
    obtain ⟨O, hO⟩ : ∃ O, O = v.heap.size := ⟨_, rfl⟩
    obtain ⟨U, hU⟩ : ∃ U, U = v.alloc (.cells #[.int .i64 0, .int .i64 i.d, .int .i64 i.n, .int .i64 i.m, .int .i64 i.a] 3) := ⟨_, rfl⟩
    have hbU : Below v.heap.size v U := by rw [hU]; exact (Below.refl _ _).alloc (Nat.le_refl _) _
    have HO : Hid (∀ x, Below U.heap.size U x → RB x O #[.int .i64 0, .int .i64 i.d, .int .i64 i.n, .int .i64 i.m, .int .i64 i.a] 3) := Lib.hid (fun x hx => RB.next (by rw [hO, hU]; exact (MapKept.heap_alloc v _).1) hx)
    have HBU := Lib.hid (after HBv.out hbU)
    have HS2 : Hid (∀ x, Below U.heap.size U x → RB x (X + 1) (ndA nd) 28) := Lib.hid (fun x hx => HS.out x (after hb (after hbU hx)))
    have HUe := Lib.hid hU.symm
    have HOe := Lib.hid hO.symm
    have HL0 : Hid (Below U.heap.size U U) := Lib.hid (Below.refl _ _)
    clear hb hO hU hbU
    go_wp2_with fail
    rw [HUe.out, HOe.out]
    clear HUe HOe HNm HIs z0 z1 z2 z3 z4 z5 z6 z7 z8 z9 x0 x1 x2 x3 x4 x5 x6 x7 x8 x9 HV HXe
    go_loopw [11] (fun kv wr => ∃ (k : Nat) (wx : World), wx = wr ∧ k ≤ n ∧ kv = .int .i64 k ∧ Hid (Below U.heap.size U wx)) (fun kv _ => n - (intOf kv).toNat)
    case atStart => exact ⟨0, _, rfl, by omega, rfl, HL0⟩
    case round =>
      clear HL0
      obtain ⟨k, wx, rfl, hk, rfl, HX⟩ := hrel
      by_cases hlt : k < n
      · have hlti : (k : Int) < (n : Int) := by omega
        have HLT := Lib.hid hlt
        obtain ⟨o, ho⟩ : ∃ o, L[k]? = some o := ⟨_, List.getElem?_eq_getElem (by rw [← HLn.out]; exact hlt)⟩
        obtain ⟨b, of, hoa, -, -⟩ := (HSl.out _ (after HBU.out HX.out)).cells (by intro e; rw [e] at ho; cases ho)
        subst hoa
        have HCl : Hid (∀ x, Below U.heap.size U x → x.cell? ⟨b, of + k * 7, none⟩ = some (.int .i64 o.kind) ∧ x.cell? ⟨b, of + k * 7 + 1, none⟩ = some (.int .i64 o.reg)) := Lib.hid (fun x hx => by
          obtain ⟨b', of', e, -, hc⟩ := (HSl.out _ (after HBU.out hx)).cells (by intro e; rw [e] at ho; cases ho)
          cases e
          obtain ⟨hkl, hoe⟩ := List.getElem?_eq_some_iff.1 ho
          obtain ⟨y0, y1, -⟩ := po_cells (fun j hj => hc k hkl j hj)
          rw [hoe] at y0 y1
          exact ⟨y0, y1⟩)
        have HRo : Hid ((o.kind = 1 ∨ o.kind = 4) → o.reg ∈ ownL i) := Lib.hid (HRg.out o (List.mem_of_getElem? ho))
        obtain ⟨y0, y1⟩ := HCl.out wx HX.out
        obtain ⟨c0, hc0⟩ : ∃ c0 : Bool, c0 = ((o.kind != 1) && (o.kind != 4)) := ⟨_, rfl⟩
        have HRc : Hid ((c0 || (ownL i).any (· == o.reg)) = true) := Lib.hid (by
          cases hcc : c0
          · have hkk : o.kind = 1 ∨ o.kind = 4 := by
              rw [hcc] at hc0
              by_cases e1 : o.kind = 1
              · exact .inl e1
              · by_cases e4 : o.kind = 4
                · exact .inr e4
                · exfalso
                  have a1 : (o.kind != 1) = true := by simpa using e1
                  have a4 : (o.kind != 4) = true := by simpa using e4
                  rw [a1, a4] at hc0; cases hc0
            rw [Bool.false_or, List.any_eq_true]
            exact ⟨o.reg, HRo.out hkk, by simp⟩
          · rfl)
        have hck : ((o.kind != 1) = false ∧ c0 = false) ∨ ((o.kind != 1) = true ∧ (o.kind != 4) = false ∧ c0 = false) ∨ ((o.kind != 1) = true ∧ (o.kind != 4) = true ∧ c0 = true) := by
          cases e1 : (o.kind != 1) <;> cases e4 : (o.kind != 4) <;> rw [e1, e4] at hc0 <;> simp [hc0]
        clear ho hk hlt hc0 HRo
        rcases hck with ⟨e1, rfl⟩ | ⟨e1, e4, rfl⟩ | ⟨e1, e4, rfl⟩
        · go_wp2_with fail
          go_loopw [12, 13] (fun cv jv wr => ∃ (j : Nat) (c : Bool) (wy : World), wy = wr ∧ j ≤ 5 ∧ cv = .bool c ∧ jv = .int .i64 j ∧ Hid (Below U.heap.size U wy) ∧ Hid (c = (false || ((ownL i).take j).any (· == o.reg)))) (fun _ jv _ => 5 - (intOf jv).toNat)
          case atStart => exact ⟨0, false, _, rfl, by omega, rfl, rfl, HX, Lib.hid (by simp)⟩
          case round =>
            obtain ⟨j, c, wy, rfl, hj, rfl, rfl, HY, HC⟩ := hrel
            cases c
            rotate_left
            · by_cases hj5i : (j : Int) < 5
              · clear hj
                go_wp2
                go_roundw
                case rel => exact ⟨k + 1, _, rfl, by have := HLT.out; omega, by go_num, HY⟩
                case measure => have := HLT.out; simp [intOf]; omega
              · clear hj
                go_wp2
                go_roundw
                case rel => exact ⟨k + 1, _, rfl, by have := HLT.out; omega, by go_num, HY⟩
                case measure => have := HLT.out; simp [intOf]; omega
            · by_cases hj5 : j < 5
              · have hj5i : (j : Int) < 5 := by omega
                have HJ := Lib.hid hj5
                obtain ⟨v0, v1⟩ := HCl.out wy HY.out
                obtain ⟨ov, hov⟩ : ∃ ov, ov = (ownL i).getD j 0 := ⟨_, rfl⟩
                have o0 : wy.cell? ⟨O, j, none⟩ = some (.int .i64 ov) := by
                  have : wy.cell? ⟨O, j, none⟩ = (#[Value.int .i64 0, .int .i64 i.d, .int .i64 i.n, .int .i64 i.m, .int .i64 i.a] : Array Value)[j]? := RB.cell (HO.out wy HY.out)
                  rw [this, own_at hj5, hov]
                have HC1 : Hid ((false || ((ownL i).take (j + 1)).any (· == o.reg)) = (o.reg == ov)) := Lib.hid (by
                  rw [own_take hj5, ← Bool.or_assoc, ← HC.out, Bool.false_or, hov]
                  exact Bool.eq_iff_iff.2 (by simp only [beq_iff_eq]; exact eq_comm))
                clear hj hj5 hov
                cases hb2 : (o.reg == ov)
                all_goals
                  rw [hb2] at HC1
                  go_wp2_with fail
                  go_big_quiet (fail)
                  go_wp2
                  go_roundw
                  case rel => exact ⟨j + 1, _, _, rfl, by have := HJ.out; omega, rfl, by go_num, Lib.hid (below_drewN HY.out _), Lib.hid HC1.out.symm⟩
                  case measure => have := HJ.out; simp [intOf]; omega
              · exfalso
                have hj5' : j = 5 := by omega
                have h := HC.out
                rw [hj5', show (ownL i).take 5 = ownL i from rfl, HRc.out] at h
                cases h
        · go_wp2_with fail
          go_loopw [12, 13] (fun cv jv wr => ∃ (j : Nat) (c : Bool) (wy : World), wy = wr ∧ j ≤ 5 ∧ cv = .bool c ∧ jv = .int .i64 j ∧ Hid (Below U.heap.size U wy) ∧ Hid (c = (false || ((ownL i).take j).any (· == o.reg)))) (fun _ jv _ => 5 - (intOf jv).toNat)
          case atStart => exact ⟨0, false, _, rfl, by omega, rfl, rfl, HX, Lib.hid (by simp)⟩
          case round =>
            obtain ⟨j, c, wy, rfl, hj, rfl, rfl, HY, HC⟩ := hrel
            cases c
            rotate_left
            · by_cases hj5i : (j : Int) < 5
              · clear hj
                go_wp2
                go_roundw
                case rel => exact ⟨k + 1, _, rfl, by have := HLT.out; omega, by go_num, HY⟩
                case measure => have := HLT.out; simp [intOf]; omega
              · clear hj
                go_wp2
                go_roundw
                case rel => exact ⟨k + 1, _, rfl, by have := HLT.out; omega, by go_num, HY⟩
                case measure => have := HLT.out; simp [intOf]; omega
            · by_cases hj5 : j < 5
              · have hj5i : (j : Int) < 5 := by omega
                have HJ := Lib.hid hj5
                obtain ⟨v0, v1⟩ := HCl.out wy HY.out
                obtain ⟨ov, hov⟩ : ∃ ov, ov = (ownL i).getD j 0 := ⟨_, rfl⟩
                have o0 : wy.cell? ⟨O, j, none⟩ = some (.int .i64 ov) := by
                  have : wy.cell? ⟨O, j, none⟩ = (#[Value.int .i64 0, .int .i64 i.d, .int .i64 i.n, .int .i64 i.m, .int .i64 i.a] : Array Value)[j]? := RB.cell (HO.out wy HY.out)
                  rw [this, own_at hj5, hov]
                have HC1 : Hid ((false || ((ownL i).take (j + 1)).any (· == o.reg)) = (o.reg == ov)) := Lib.hid (by
                  rw [own_take hj5, ← Bool.or_assoc, ← HC.out, Bool.false_or, hov]
                  exact Bool.eq_iff_iff.2 (by simp only [beq_iff_eq]; exact eq_comm))
                clear hj hj5 hov
                cases hb2 : (o.reg == ov)
                all_goals
                  rw [hb2] at HC1
                  go_wp2_with fail
                  go_big_quiet (fail)
                  go_wp2
                  go_roundw
                  case rel => exact ⟨j + 1, _, _, rfl, by have := HJ.out; omega, rfl, by go_num, Lib.hid (below_drewN HY.out _), Lib.hid HC1.out.symm⟩
                  case measure => have := HJ.out; simp [intOf]; omega
              · exfalso
                have hj5' : j = 5 := by omega
                have h := HC.out
                rw [hj5', show (ownL i).take 5 = ownL i from rfl, HRc.out] at h
                cases h
        · go_wp2_with fail
          go_loopw [12, 13] (fun cv jv wr => ∃ (j : Nat) (c : Bool) (wy : World), wy = wr ∧ j ≤ 5 ∧ cv = .bool c ∧ jv = .int .i64 j ∧ Hid (Below U.heap.size U wy) ∧ Hid (c = (true || ((ownL i).take j).any (· == o.reg)))) (fun _ jv _ => 5 - (intOf jv).toNat)
          case atStart => exact ⟨0, true, _, rfl, by omega, rfl, rfl, HX, Lib.hid (by simp)⟩
          case round =>
            obtain ⟨j, c, wy, rfl, hj, rfl, rfl, HY, HC⟩ := hrel
            cases c
            rotate_left
            · by_cases hj5i : (j : Int) < 5
              · clear hj
                go_wp2
                go_roundw
                case rel => exact ⟨k + 1, _, rfl, by have := HLT.out; omega, by go_num, HY⟩
                case measure => have := HLT.out; simp [intOf]; omega
              · clear hj
                go_wp2
                go_roundw
                case rel => exact ⟨k + 1, _, rfl, by have := HLT.out; omega, by go_num, HY⟩
                case measure => have := HLT.out; simp [intOf]; omega
            · by_cases hj5 : j < 5
              · have hj5i : (j : Int) < 5 := by omega
                have HJ := Lib.hid hj5
                obtain ⟨v0, v1⟩ := HCl.out wy HY.out
                obtain ⟨ov, hov⟩ : ∃ ov, ov = (ownL i).getD j 0 := ⟨_, rfl⟩
                have o0 : wy.cell? ⟨O, j, none⟩ = some (.int .i64 ov) := by
                  have : wy.cell? ⟨O, j, none⟩ = (#[Value.int .i64 0, .int .i64 i.d, .int .i64 i.n, .int .i64 i.m, .int .i64 i.a] : Array Value)[j]? := RB.cell (HO.out wy HY.out)
                  rw [this, own_at hj5, hov]
                have HC1 : Hid ((true || ((ownL i).take (j + 1)).any (· == o.reg)) = (o.reg == ov)) := Lib.hid (by
                  rw [own_take hj5, ← Bool.or_assoc, ← HC.out, Bool.false_or, hov]
                  exact Bool.eq_iff_iff.2 (by simp only [beq_iff_eq]; exact eq_comm))
                clear hj hj5 hov
                cases hb2 : (o.reg == ov)
                all_goals
                  rw [hb2] at HC1
                  go_wp2_with fail
                  go_big_quiet (fail)
                  go_wp2
                  go_roundw
                  case rel => exact ⟨j + 1, _, _, rfl, by have := HJ.out; omega, rfl, by go_num, Lib.hid (below_drewN HY.out _), Lib.hid HC1.out.symm⟩
                  case measure => have := HJ.out; simp [intOf]; omega
              · exfalso
                have hj5' : j = 5 := by omega
                have h := HC.out
                rw [hj5', show (ownL i).take 5 = ownL i from rfl, HRc.out] at h
                cases h
      · have hlti : ¬ (k : Int) < (n : Int) := by omega
        have HBX := Lib.hid (after HBU.out HX.out)
        clear hk hlt
        go_wp2_with fail
        refine (HM.out _ HBX.out).mono ?_
        rintro e v2 ⟨rfl, hb⟩
        obtain ⟨q0, q1, q2, q3, q4, -⟩ := five_cells (HS2.out v2 (after HX.out hb))
        have HB2 := Lib.hid (after HBX.out hb)
        clear hb
        go_wp2
        go_ret
        exact ⟨rfl, HB2.out⟩
  · have s5 : (([98] : List UInt8) == S.toList) = false := by have h := s1; rw [ByteArray.toList_eq] at h; exact h
    have s6 : (([98] : List UInt8) != S.toList) = true := by have h := s2; rw [ByteArray.toList_eq] at h; exact h
    have s7 : ¬ ([98] : List UInt8) = S.toList := by simpa using s5
    have s8 : (i.op == 31) = true := by simpa using s3
    have s9 : ((S.size : Int) == 4) = true := by simpa using s4
    go_wp2_with fail
    refine HIs.out.mono ?_
    rintro e v ⟨rfl, hb⟩
    have HBv := Lib.hid (after HBV.out hb)
    obtain ⟨z0, z1, z2, z3, z4, z5, z6, z7, z8, z9, -⟩ := ten_cells (HR.out v hb)
    obtain ⟨O, hO⟩ : ∃ O, O = v.heap.size := ⟨_, rfl⟩
    obtain ⟨U, hU⟩ : ∃ U, U = v.alloc (.cells #[.int .i64 0, .int .i64 i.d, .int .i64 i.n, .int .i64 i.m, .int .i64 i.a] 3) := ⟨_, rfl⟩
    have hbU : Below v.heap.size v U := by rw [hU]; exact (Below.refl _ _).alloc (Nat.le_refl _) _
    have HO : Hid (∀ x, Below U.heap.size U x → RB x O #[.int .i64 0, .int .i64 i.d, .int .i64 i.n, .int .i64 i.m, .int .i64 i.a] 3) := Lib.hid (fun x hx => RB.next (by rw [hO, hU]; exact (MapKept.heap_alloc v _).1) hx)
    have HBU := Lib.hid (after HBv.out hbU)
    have HS2 : Hid (∀ x, Below U.heap.size U x → RB x (X + 1) (ndA nd) 28) := Lib.hid (fun x hx => HS.out x (after hb (after hbU hx)))
    have HUe := Lib.hid hU.symm
    have HOe := Lib.hid hO.symm
    have HL0 : Hid (Below U.heap.size U U) := Lib.hid (Below.refl _ _)
    clear hb hO hU hbU
    go_wp2_with fail
    rw [HUe.out, HOe.out]
    clear HUe HOe HNm HIs z0 z1 z2 z3 z4 z5 z6 z7 z8 z9 x0 x1 x2 x3 x4 x5 x6 x7 x8 x9 HV HXe
    go_loopw [11] (fun kv wr => ∃ (k : Nat) (wx : World), wx = wr ∧ k ≤ n ∧ kv = .int .i64 k ∧ Hid (Below U.heap.size U wx)) (fun kv _ => n - (intOf kv).toNat)
    case atStart => exact ⟨0, _, rfl, by omega, rfl, HL0⟩
    case round =>
      clear HL0
      obtain ⟨k, wx, rfl, hk, rfl, HX⟩ := hrel
      by_cases hlt : k < n
      · have hlti : (k : Int) < (n : Int) := by omega
        have HLT := Lib.hid hlt
        obtain ⟨o, ho⟩ : ∃ o, L[k]? = some o := ⟨_, List.getElem?_eq_getElem (by rw [← HLn.out]; exact hlt)⟩
        obtain ⟨b, of, hoa, -, -⟩ := (HSl.out _ (after HBU.out HX.out)).cells (by intro e; rw [e] at ho; cases ho)
        subst hoa
        have HCl : Hid (∀ x, Below U.heap.size U x → x.cell? ⟨b, of + k * 7, none⟩ = some (.int .i64 o.kind) ∧ x.cell? ⟨b, of + k * 7 + 1, none⟩ = some (.int .i64 o.reg)) := Lib.hid (fun x hx => by
          obtain ⟨b', of', e, -, hc⟩ := (HSl.out _ (after HBU.out hx)).cells (by intro e; rw [e] at ho; cases ho)
          cases e
          obtain ⟨hkl, hoe⟩ := List.getElem?_eq_some_iff.1 ho
          obtain ⟨y0, y1, -⟩ := po_cells (fun j hj => hc k hkl j hj)
          rw [hoe] at y0 y1
          exact ⟨y0, y1⟩)
        have HRo : Hid ((o.kind = 1 ∨ o.kind = 4) → o.reg ∈ ownL i) := Lib.hid (HRg.out o (List.mem_of_getElem? ho))
        obtain ⟨y0, y1⟩ := HCl.out wx HX.out
        obtain ⟨c0, hc0⟩ : ∃ c0 : Bool, c0 = ((o.kind != 1) && (o.kind != 4)) := ⟨_, rfl⟩
        have HRc : Hid ((c0 || (ownL i).any (· == o.reg)) = true) := Lib.hid (by
          cases hcc : c0
          · have hkk : o.kind = 1 ∨ o.kind = 4 := by
              rw [hcc] at hc0
              by_cases e1 : o.kind = 1
              · exact .inl e1
              · by_cases e4 : o.kind = 4
                · exact .inr e4
                · exfalso
                  have a1 : (o.kind != 1) = true := by simpa using e1
                  have a4 : (o.kind != 4) = true := by simpa using e4
                  rw [a1, a4] at hc0; cases hc0
            rw [Bool.false_or, List.any_eq_true]
            exact ⟨o.reg, HRo.out hkk, by simp⟩
          · rfl)
        have hck : ((o.kind != 1) = false ∧ c0 = false) ∨ ((o.kind != 1) = true ∧ (o.kind != 4) = false ∧ c0 = false) ∨ ((o.kind != 1) = true ∧ (o.kind != 4) = true ∧ c0 = true) := by
          cases e1 : (o.kind != 1) <;> cases e4 : (o.kind != 4) <;> rw [e1, e4] at hc0 <;> simp [hc0]
        clear ho hk hlt hc0 HRo
        rcases hck with ⟨e1, rfl⟩ | ⟨e1, e4, rfl⟩ | ⟨e1, e4, rfl⟩
        · go_wp2_with fail
          go_loopw [12, 13] (fun cv jv wr => ∃ (j : Nat) (c : Bool) (wy : World), wy = wr ∧ j ≤ 5 ∧ cv = .bool c ∧ jv = .int .i64 j ∧ Hid (Below U.heap.size U wy) ∧ Hid (c = (false || ((ownL i).take j).any (· == o.reg)))) (fun _ jv _ => 5 - (intOf jv).toNat)
          case atStart => exact ⟨0, false, _, rfl, by omega, rfl, rfl, HX, Lib.hid (by simp)⟩
          case round =>
            obtain ⟨j, c, wy, rfl, hj, rfl, rfl, HY, HC⟩ := hrel
            cases c
            rotate_left
            · by_cases hj5i : (j : Int) < 5
              · clear hj
                go_wp2
                go_roundw
                case rel => exact ⟨k + 1, _, rfl, by have := HLT.out; omega, by go_num, HY⟩
                case measure => have := HLT.out; simp [intOf]; omega
              · clear hj
                go_wp2
                go_roundw
                case rel => exact ⟨k + 1, _, rfl, by have := HLT.out; omega, by go_num, HY⟩
                case measure => have := HLT.out; simp [intOf]; omega
            · by_cases hj5 : j < 5
              · have hj5i : (j : Int) < 5 := by omega
                have HJ := Lib.hid hj5
                obtain ⟨v0, v1⟩ := HCl.out wy HY.out
                obtain ⟨ov, hov⟩ : ∃ ov, ov = (ownL i).getD j 0 := ⟨_, rfl⟩
                have o0 : wy.cell? ⟨O, j, none⟩ = some (.int .i64 ov) := by
                  have : wy.cell? ⟨O, j, none⟩ = (#[Value.int .i64 0, .int .i64 i.d, .int .i64 i.n, .int .i64 i.m, .int .i64 i.a] : Array Value)[j]? := RB.cell (HO.out wy HY.out)
                  rw [this, own_at hj5, hov]
                have HC1 : Hid ((false || ((ownL i).take (j + 1)).any (· == o.reg)) = (o.reg == ov)) := Lib.hid (by
                  rw [own_take hj5, ← Bool.or_assoc, ← HC.out, Bool.false_or, hov]
                  exact Bool.eq_iff_iff.2 (by simp only [beq_iff_eq]; exact eq_comm))
                clear hj hj5 hov
                cases hb2 : (o.reg == ov)
                all_goals
                  rw [hb2] at HC1
                  go_wp2_with fail
                  go_big_quiet (fail)
                  go_wp2
                  go_roundw
                  case rel => exact ⟨j + 1, _, _, rfl, by have := HJ.out; omega, rfl, by go_num, Lib.hid (below_drewN HY.out _), Lib.hid HC1.out.symm⟩
                  case measure => have := HJ.out; simp [intOf]; omega
              · exfalso
                have hj5' : j = 5 := by omega
                have h := HC.out
                rw [hj5', show (ownL i).take 5 = ownL i from rfl, HRc.out] at h
                cases h
        · go_wp2_with fail
          go_loopw [12, 13] (fun cv jv wr => ∃ (j : Nat) (c : Bool) (wy : World), wy = wr ∧ j ≤ 5 ∧ cv = .bool c ∧ jv = .int .i64 j ∧ Hid (Below U.heap.size U wy) ∧ Hid (c = (false || ((ownL i).take j).any (· == o.reg)))) (fun _ jv _ => 5 - (intOf jv).toNat)
          case atStart => exact ⟨0, false, _, rfl, by omega, rfl, rfl, HX, Lib.hid (by simp)⟩
          case round =>
            obtain ⟨j, c, wy, rfl, hj, rfl, rfl, HY, HC⟩ := hrel
            cases c
            rotate_left
            · by_cases hj5i : (j : Int) < 5
              · clear hj
                go_wp2
                go_roundw
                case rel => exact ⟨k + 1, _, rfl, by have := HLT.out; omega, by go_num, HY⟩
                case measure => have := HLT.out; simp [intOf]; omega
              · clear hj
                go_wp2
                go_roundw
                case rel => exact ⟨k + 1, _, rfl, by have := HLT.out; omega, by go_num, HY⟩
                case measure => have := HLT.out; simp [intOf]; omega
            · by_cases hj5 : j < 5
              · have hj5i : (j : Int) < 5 := by omega
                have HJ := Lib.hid hj5
                obtain ⟨v0, v1⟩ := HCl.out wy HY.out
                obtain ⟨ov, hov⟩ : ∃ ov, ov = (ownL i).getD j 0 := ⟨_, rfl⟩
                have o0 : wy.cell? ⟨O, j, none⟩ = some (.int .i64 ov) := by
                  have : wy.cell? ⟨O, j, none⟩ = (#[Value.int .i64 0, .int .i64 i.d, .int .i64 i.n, .int .i64 i.m, .int .i64 i.a] : Array Value)[j]? := RB.cell (HO.out wy HY.out)
                  rw [this, own_at hj5, hov]
                have HC1 : Hid ((false || ((ownL i).take (j + 1)).any (· == o.reg)) = (o.reg == ov)) := Lib.hid (by
                  rw [own_take hj5, ← Bool.or_assoc, ← HC.out, Bool.false_or, hov]
                  exact Bool.eq_iff_iff.2 (by simp only [beq_iff_eq]; exact eq_comm))
                clear hj hj5 hov
                cases hb2 : (o.reg == ov)
                all_goals
                  rw [hb2] at HC1
                  go_wp2_with fail
                  go_big_quiet (fail)
                  go_wp2
                  go_roundw
                  case rel => exact ⟨j + 1, _, _, rfl, by have := HJ.out; omega, rfl, by go_num, Lib.hid (below_drewN HY.out _), Lib.hid HC1.out.symm⟩
                  case measure => have := HJ.out; simp [intOf]; omega
              · exfalso
                have hj5' : j = 5 := by omega
                have h := HC.out
                rw [hj5', show (ownL i).take 5 = ownL i from rfl, HRc.out] at h
                cases h
        · go_wp2_with fail
          go_loopw [12, 13] (fun cv jv wr => ∃ (j : Nat) (c : Bool) (wy : World), wy = wr ∧ j ≤ 5 ∧ cv = .bool c ∧ jv = .int .i64 j ∧ Hid (Below U.heap.size U wy) ∧ Hid (c = (true || ((ownL i).take j).any (· == o.reg)))) (fun _ jv _ => 5 - (intOf jv).toNat)
          case atStart => exact ⟨0, true, _, rfl, by omega, rfl, rfl, HX, Lib.hid (by simp)⟩
          case round =>
            obtain ⟨j, c, wy, rfl, hj, rfl, rfl, HY, HC⟩ := hrel
            cases c
            rotate_left
            · by_cases hj5i : (j : Int) < 5
              · clear hj
                go_wp2
                go_roundw
                case rel => exact ⟨k + 1, _, rfl, by have := HLT.out; omega, by go_num, HY⟩
                case measure => have := HLT.out; simp [intOf]; omega
              · clear hj
                go_wp2
                go_roundw
                case rel => exact ⟨k + 1, _, rfl, by have := HLT.out; omega, by go_num, HY⟩
                case measure => have := HLT.out; simp [intOf]; omega
            · by_cases hj5 : j < 5
              · have hj5i : (j : Int) < 5 := by omega
                have HJ := Lib.hid hj5
                obtain ⟨v0, v1⟩ := HCl.out wy HY.out
                obtain ⟨ov, hov⟩ : ∃ ov, ov = (ownL i).getD j 0 := ⟨_, rfl⟩
                have o0 : wy.cell? ⟨O, j, none⟩ = some (.int .i64 ov) := by
                  have : wy.cell? ⟨O, j, none⟩ = (#[Value.int .i64 0, .int .i64 i.d, .int .i64 i.n, .int .i64 i.m, .int .i64 i.a] : Array Value)[j]? := RB.cell (HO.out wy HY.out)
                  rw [this, own_at hj5, hov]
                have HC1 : Hid ((true || ((ownL i).take (j + 1)).any (· == o.reg)) = (o.reg == ov)) := Lib.hid (by
                  rw [own_take hj5, ← Bool.or_assoc, ← HC.out, Bool.false_or, hov]
                  exact Bool.eq_iff_iff.2 (by simp only [beq_iff_eq]; exact eq_comm))
                clear hj hj5 hov
                cases hb2 : (o.reg == ov)
                all_goals
                  rw [hb2] at HC1
                  go_wp2_with fail
                  go_big_quiet (fail)
                  go_wp2
                  go_roundw
                  case rel => exact ⟨j + 1, _, _, rfl, by have := HJ.out; omega, rfl, by go_num, Lib.hid (below_drewN HY.out _), Lib.hid HC1.out.symm⟩
                  case measure => have := HJ.out; simp [intOf]; omega
              · exfalso
                have hj5' : j = 5 := by omega
                have h := HC.out
                rw [hj5', show (ownL i).take 5 = ownL i from rfl, HRc.out] at h
                cases h
      · have hlti : ¬ (k : Int) < (n : Int) := by omega
        have HBX := Lib.hid (after HBU.out HX.out)
        clear hk hlt
        go_wp2_with fail
        refine (HM.out _ HBX.out).mono ?_
        rintro e v2 ⟨rfl, hb⟩
        obtain ⟨q0, q1, q2, q3, q4, -⟩ := five_cells (HS2.out v2 (after HX.out hb))
        have HB2 := Lib.hid (after HBX.out hb)
        clear hb
        go_wp2
        go_ret
        exact ⟨rfl, HB2.out⟩
end Go.Proofs.YthejefldnpeciaaGreatDoor
