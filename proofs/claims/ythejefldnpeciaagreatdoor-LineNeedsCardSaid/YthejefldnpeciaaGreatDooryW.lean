/- line's law: LineNeeds. -/
import Derived.Test.YthejefldnpeciaaGreatDooryU
import Derived.Test.YthejefldnpeciaaGreatDooryV
namespace Go.Proofs.YthejefldnpeciaaGreatDoor
set_option linter.unusedVariables false
set_option linter.unusedSimpArgs false
open Go.ChangeShapes Go.WideShapes Go.Deep Go.RowKit

theorem eqZ (n : Nd) (h : n = ndZ) (u : World) : Sem.run Tryz.prog (binOp .eql 28 (.agg #[.int .i64 n.kind, .string ⟨n.sym.toArray⟩, .int .i64 n.add, .bool n.minus, .int .u64 n.v]) (.agg #[.int .i64 0, .string ⟨#[]⟩, .int .i64 0, .bool false, .int .u64 0])) u = .ok (.bool true) u := by
  subst h; kernel_rfl
theorem sym_cases (o : Po) : ((o.kind == 3) = true ∧ symB o = true) ∨ ((o.kind == 3) = false ∧ (o.kind == 5) = true ∧ symB o = true) ∨ ((o.kind == 3) = false ∧ (o.kind == 5) = false ∧ (o.kind == 6) = true ∧ symB o = true) ∨
    ((o.kind == 3) = false ∧ (o.kind == 5) = false ∧ (o.kind == 6) = false ∧ (o.kind == 4) = true ∧ o.sym.isEmpty = false ∧ symB o = true) ∨ ((o.kind == 3) = false ∧ (o.kind == 5) = false ∧ (o.kind == 6) = false ∧ (o.kind == 4) = true ∧ o.sym.isEmpty = true ∧ symB o = false) ∨
    ((o.kind == 3) = false ∧ (o.kind == 5) = false ∧ (o.kind == 6) = false ∧ (o.kind == 4) = false ∧ symB o = false) := by
  unfold symB
  cases h3 : (o.kind == 3) <;> cases h5 : (o.kind == 5) <;> cases h6 : (o.kind == 6) <;> cases h4 : (o.kind == 4) <;> cases he : o.sym.isEmpty <;> simp
theorem any_take {L : List Po} {k : Nat} {o : Po} (h : L[k]? = some o) : (L.take (k + 1)).any symB = ((L.take k).any symB || symB o) := by
  rw [List.take_add_one, h]; simp
set_option maxRecDepth 100000 in
set_option maxHeartbeats 8000000 in
theorem LineNeeds_walk (w : World) (S : ByteArray) (hS : S.size ≤ reachBytes) (oa : Option Addr) (n oc : Nat) (L : List Po) (hn : n ≤ maxLen) (hg : ∀ o ∈ L, GoodPo o) (hs : SL poC 7 w w.heap.size oa n L) (hT : TabL w) :
    Calls Tryz.prog 4 #[.string S, .slice oa n oc] w (RetB (.bool true) w) := by
  have HM : Hid (∀ u, Below w.heap.size w u → Calls Tryz.prog 9 #[] u (RetB (.bool true) u)) := Lib.hid fun u hu => made_is u (hT.next hu)
  have HSh := Lib.hid (short_any w oa n oc L hs hn)
  have HB : Hid (Below w.heap.size w w) := Lib.hid (Below.refl _ _)
  by_cases hlen : (100 : Int) < (S.size : Int)
  · clear hS hn hs hg hT
    go_enter Tryz.func4, Tryz.ntmps4
    go_wp2
    go_ret
    exact ⟨rfl, HB.out⟩
  have HMk : Hid (n ≤ 12 → Calls Tryz.prog 8 #[.string S, .slice oa n oc] w (RetB (mkV (makeL S.data.toList L)) w)) := Lib.hid fun h12 => Make_any hT S (by unfold maxLen; omega) oa n oc L hs (by omega) hg
  have HSl : Hid (∀ u, Below w.heap.size w u → SL poC 7 u u.heap.size oa n L) := Lib.hid fun u hu => hs.next hu
  have HLn := Lib.hid hs.len
  obtain ⟨i, nd, er, hr⟩ : ∃ i nd er, makeL S.data.toList L = (i, nd, er) := ⟨_, _, _, rfl⟩
  rw [hr] at HMk
  have HNe : Hid (er = 0 → (i.op = 39 → nd = ndZ) ∧ (L = [] → nd = ndZ) ∧ (∀ (last : Po), i.op ≠ 39 → L.getLast? = some last → (L.any symB = true → 0 < nd.kind ∧ nd.sym = last.sym ∧ nd.add = last.add ∧ i.imm = 0) ∧ (L.any symB = false → nd = ndZ))) := Lib.hid fun h0 => needs_ok (by rw [hr, h0])
  clear hS hn hs hg hT hr
  go_enter Tryz.func4, Tryz.ntmps4
  go_wp2_with fail
  refine HSh.out.mono ?_
  rintro e w1 ⟨r, rfl, hr, rfl⟩
  cases r
  · clear hr HSh
    go_wp2
    go_ret
    exact ⟨rfl, HB.out⟩
  have h12 : n ≤ 12 := hr rfl
  have hni : (n : Int) ≤ 12 := by omega
  replace HMk := Lib.hid (HMk.out h12)
  clear hr HSh h12
  go_wp2_with fail
  refine HMk.out.mono ?_
  rintro e u ⟨rfl, hb⟩
  replace HB := Lib.hid (after HB.out hb)
  clear hb HMk
  obtain ⟨X, hX⟩ : ∃ X, X = u.heap.size := ⟨_, rfl⟩
  obtain ⟨V, hV⟩ : ∃ V, V = (u.alloc (.cells (inC i) 26)).alloc (.cells (ndA nd) 28) := ⟨_, rfl⟩
  have s1 : (u.alloc (.cells (inC i) 26)).heap.size = u.heap.size + 1 := World.size_alloc _ _
  have b1 : Below u.heap.size u (u.alloc (.cells (inC i) 26)) := (Below.refl _ _).alloc (Nat.le_refl _) _
  have b2 : Below (u.alloc (.cells (inC i) 26)).heap.size (u.alloc (.cells (inC i) 26)) V := by rw [hV]; exact (Below.refl _ _).alloc (Nat.le_refl _) _
  have b3 := after b1 b2
  have HBV : Hid (Below w.heap.size w V) := Lib.hid (after HB.out b3)
  have HR : Hid (∀ v, Below V.heap.size V v → RB v X (inC i) 26) := Lib.hid (fun v hv => RB.next (by rw [hX]; exact RB.next (MapKept.heap_alloc u _).1 b2) hv)
  have HS : Hid (∀ v, Below V.heap.size V v → RB v (X + 1) (ndA nd) 28) := Lib.hid (fun v hv => RB.next (by
    have := (MapKept.heap_alloc (u.alloc (.cells (inC i) 26)) (.cells (ndA nd) 28)).1
    rw [s1, ← hX, ← hV] at this
    exact this) hv)
  have HV := Lib.hid hV.symm
  have HXe := Lib.hid hX.symm
  clear hV hX s1 b1 b2 b3
  by_cases h0 : er = 0
  rotate_left
  · have t1 : (er != 0) = true := by simpa using h0
    clear h0 HNe
    go_wp2_with fail
    rw [HV.out]
    refine (HM.out _ HBV.out).mono ?_
    rintro e u2 ⟨rfl, hb⟩
    have HB2 := Lib.hid (after HBV.out hb)
    clear hb
    go_wp2
    go_ret
    exact ⟨rfl, HB2.out⟩
  have t1 : (er != 0) = false := by simpa using h0
  replace HNe := Lib.hid (HNe.out h0)
  clear h0
  go_wp2_with fail
  rw [HV.out, HXe.out]
  clear HV HXe
  go_loop [8, 9] (fun b j => ∃ (k : Nat) (c : Bool), k ≤ n ∧ b = .bool c ∧ j = .int .i64 k ∧ Hid (c = (L.take k).any symB)) (fun _ j => n - (intOf j).toNat)
  case atStart => exact ⟨0, false, by omega, rfl, rfl, Lib.hid rfl⟩
  case round =>
    obtain ⟨k, c, hk, rfl, rfl, HC⟩ := hrel
    by_cases hlt : k < n
    · have hlti : (k : Int) < (n : Int) := by omega
      have HLT := Lib.hid hlt
      obtain ⟨o, ho⟩ : ∃ o, L[k]? = some o := ⟨_, List.getElem?_eq_getElem (by rw [← HLn.out]; exact hlt)⟩
      obtain ⟨b, of, hoa, -, hc⟩ := (HSl.out _ HBV.out).cells (by intro e; rw [e] at ho; cases ho)
      subst hoa
      obtain ⟨hkl, hoe⟩ := List.getElem?_eq_some_iff.1 ho
      obtain ⟨y0, -, -, -, -, y5, -⟩ := po_cells (fun j hj => hc k hkl j hj)
      rw [hoe] at y0 y5
      have HC2 : Hid ((L.take (k + 1)).any symB = (c || symB o)) := Lib.hid (by rw [any_take ho, HC.out])
      clear hc ho hkl hoe hk hlt HC
      cases c
      · rcases sym_cases o with ⟨t3, hsb⟩ | ⟨t3, t5, hsb⟩ | ⟨t3, t5, t6, hsb⟩ | ⟨t3, t5, t6, t4, te, hsb⟩ | ⟨t3, t5, t6, t4, te, hsb⟩ | ⟨t3, t5, t6, t4, hsb⟩
        all_goals
          rw [hsb] at HC2
          clear hsb
          go_wp2
          go_round
          case rel => exact ⟨k + 1, _, by have := HLT.out; omega, rfl, by go_num, Lib.hid (by rw [HC2.out]; rfl)⟩
          case measure => have := HLT.out; simp [intOf]; omega
      · go_wp2
        go_round
        case rel => exact ⟨k + 1, _, by have := HLT.out; omega, rfl, by go_num, Lib.hid (by rw [HC2.out]; rfl)⟩
        case measure => have := HLT.out; simp [intOf]; omega
    · have hlti : ¬ (k : Int) < (n : Int) := by omega
      have hkn : k = n := by omega
      have HCe : Hid (c = L.any symB) := Lib.hid (by rw [HC.out, hkn, HLn.out, List.take_length])
      have x0 : V.cell? ⟨X, 0, none⟩ = some (.int .i64 i.op) := (ten_cells (HR.out V (Below.refl _ _))).1
      clear hkn hk hlt HC
      by_cases h39 : i.op = 39
      · have t39 : (i.op == 39) = true := by simpa using h39
        have hz := HNe.out.1 h39
        have heq := eqZ nd hz
        clear hz h39
        go_wp2_with fail
        refine (HM.out _ HBV.out).mono ?_
        rintro e v ⟨rfl, hb⟩
        obtain ⟨y0, y1, y2, y3, y4, -⟩ := five_cells (HS.out v hb)
        have HB2 := Lib.hid (after HBV.out hb)
        clear hb
        go_wp2
        go_ret
        exact ⟨rfl, HB2.out⟩
      have t39 : (i.op == 39) = false := by simpa using h39
      by_cases hn0 : n = 0
      · have tn : ((n : Int) == 0) = true := by simp [hn0]
        have hz := HNe.out.2.1 (List.length_eq_zero_iff.1 (by rw [← HLn.out]; exact hn0))
        have heq := eqZ nd hz
        clear hz hn0 h39
        go_wp2_with fail
        refine (HM.out _ HBV.out).mono ?_
        rintro e v ⟨rfl, hb⟩
        obtain ⟨y0, y1, y2, y3, y4, -⟩ := five_cells (HS.out v hb)
        have HB2 := Lib.hid (after HBV.out hb)
        clear hb
        go_wp2
        go_ret
        exact ⟨rfl, HB2.out⟩
      have tn : ((n : Int) == 0) = false := by simp [hn0]
      obtain ⟨m, hm⟩ : ∃ m, n = m + 1 := ⟨n - 1, by omega⟩
      subst hm
      have hml : m < L.length := by have := HLn.out; omega
      obtain ⟨last, hla⟩ : ∃ last, L[m]? = some last := ⟨_, List.getElem?_eq_getElem hml⟩
      have HNd := Lib.hid (HNe.out.2.2 last h39 (by rw [List.getLast?_eq_getElem?, ← HLn.out]; exact hla))
      obtain ⟨b, of, hoa, -, hc⟩ := (HSl.out _ HBV.out).cells (by intro e; rw [e] at hla; cases hla)
      subst hoa
      obtain ⟨hkl, hoe⟩ := List.getElem?_eq_some_iff.1 hla
      obtain ⟨y0, y1, y2, y3, y4, y5, y6⟩ := po_cells (fun j hj => hc m hkl j hj)
      rw [hoe] at y0 y1 y2 y3 y4 y5 y6
      have hm1 : ((m + 1 : Nat) : Int) - 1 = (m : Int) := by omega
      clear hc hla hkl hoe hml hn0 h39 HNe x0
      obtain ⟨U, hU⟩ : ∃ U, U = V.alloc (.cells #[.int .i64 last.kind, .int .i64 last.reg, .bool last.stack, .bool last.minus, .int .u64 last.v, .string ⟨last.sym.toArray⟩, .int .i64 last.add] 38) := ⟨_, rfl⟩
      have hbU : Below V.heap.size V U := by rw [hU]; exact (Below.refl _ _).alloc (Nat.le_refl _) _
      obtain ⟨x0, x1, x2, x3, x4, x5, x6, x7, x8, x9, -⟩ := ten_cells (HR.out U hbU)
      obtain ⟨z0, z1, z2, z3, z4, -⟩ := five_cells (HS.out U hbU)
      have HBU := Lib.hid (after HBV.out hbU)
      have HSU : Hid (∀ v, Below U.heap.size U v → RB v (X + 1) (ndA nd) 28) := Lib.hid (fun v hv => HS.out v (after hbU hv))
      rw [hU] at x0 x1 x2 x3 x4 x5 x6 x7 x8 x9 z0 z1 z2 z3 z4
      have x00 : V.cell? ⟨X, 0, none⟩ = some (.int .i64 i.op) := (ten_cells (HR.out V (Below.refl _ _))).1
      have HU := Lib.hid hU.symm
      clear hU hbU
      cases c
      · have hz := HNd.out.2 HCe.out.symm
        have heq := eqZ nd hz
        have HK : Hid (nd.kind = 0) := Lib.hid (by rw [hz])
        have hk0 : decide ((0 : Int) < nd.kind) = false := by rw [HK.out]; rfl
        have hcs : (nd.sym == last.sym) = false ∨ ((nd.sym == last.sym) = true ∧ (nd.add == last.add) = false) ∨ ((nd.sym == last.sym) = true ∧ (nd.add == last.add) = true ∧ (i.imm == 0) = false) ∨ ((nd.sym == last.sym) = true ∧ (nd.add == last.add) = true ∧ (i.imm == 0) = true) := by
          cases (nd.sym == last.sym) <;> cases (nd.add == last.add) <;> cases (i.imm == 0) <;> simp
        clear hz HNd HCe
        rcases hcs with e1 | ⟨e1, e2⟩ | ⟨e1, e2, e3⟩ | ⟨e1, e2, e3⟩
        all_goals
          go_wp2_with fail
          rw [HU.out]
          refine (HM.out _ HBU.out).mono ?_
          rintro e v ⟨rfl, hb⟩
          obtain ⟨q0, q1, q2, q3, q4, -⟩ := five_cells (HSU.out v hb)
          have HB2 := Lib.hid (after HBU.out hb)
          clear hb
          go_wp2
          go_ret
          exact ⟨rfl, HB2.out⟩
      · obtain ⟨g1, g2, g3, g4⟩ := HNd.out.1 HCe.out.symm
        have e1 : (nd.sym == last.sym) = true := by rw [g2]; simp
        have e2 : (nd.add == last.add) = true := by rw [g3]; simp
        have e3 : (i.imm == 0) = true := by rw [g4]; rfl
        have hk1 : (0 : Int) < nd.kind := g1
        clear g1 g2 g3 g4 HNd HCe
        go_wp2_with fail
        rw [HU.out]
        refine (HM.out _ HBU.out).mono ?_
        rintro e v ⟨rfl, hb⟩
        obtain ⟨q0, q1, q2, q3, q4, -⟩ := five_cells (HSU.out v hb)
        have HB2 := Lib.hid (after HBU.out hb)
        clear hb
        go_wp2
        go_ret
        exact ⟨rfl, HB2.out⟩
end Go.Proofs.YthejefldnpeciaaGreatDoor
