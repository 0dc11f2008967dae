/- line's law: LineTold. -/
import Derived.Test.YthejefldnpeciaaGreatDooryLS
import Derived.Deep.QuietTactic
import Derived.BigQuiet
namespace Go.Proofs.YthejefldnpeciaaGreatDoor
set_option linter.unusedVariables false
set_option linter.unusedSimpArgs false
open Go.ChangeShapes Go.WideShapes Go.Deep Go.RowKit

theorem amount_told {i : In} (hI : isI i = true) : 0 ≤ i.amount ∧ i.amount ≤ 63 := by
  have h0 := isI_shape hI
  have hb := shapeI_b i.op
  have hc : shapeI i.op = 1 ∨ shapeI i.op = 2 ∨ shapeI i.op = 3 ∨ shapeI i.op = 4 ∨ shapeI i.op = 5 ∨ shapeI i.op = 6 ∨ shapeI i.op = 7 ∨ shapeI i.op = 8 ∨ shapeI i.op = 9 ∨ shapeI i.op = 10 ∨ shapeI i.op = 11 ∨ shapeI i.op = 12 ∨ shapeI i.op = 13 ∨ shapeI i.op = 14 ∨ shapeI i.op = 15 ∨ shapeI i.op = 16 := by omega
  rcases hc with hs | hs | hs | hs | hs | hs | hs | hs | hs | hs | hs | hs | hs | hs | hs | hs
  all_goals
    obtain ⟨own, num⟩ := own_of hI hs
    first
    | (have h : i.amount = 0 := (congrArg In.amount own).symm; omega)
    | (have h := within_of (b_within num).2; omega)
set_option maxRecDepth 100000 in
set_option maxHeartbeats 40000000 in
theorem LineTold_a (w : World) (i : In) (hI : InB i) (hT : TabM w) (hgr : spO i.op = false ∧ shapeI i.op ≤ 8) : Calls Tryz.prog 5 #[inV i] w (RetB (.bool true) w) := by
  have HM : Hid (∀ u, Below w.heap.size w u → Calls Tryz.prog 9 #[] u (RetB (.bool true) u)) := Lib.hid fun u hu => made_is u (hT.next hu).1
  have HIs : Hid (∀ u, Below w.heap.size w u → Calls Tryz.prog 11 #[inV i] u (RetB (.bool (isI i)) u)) := Lib.hid fun u hu => InstIs_any i u (hT.next hu).1.1 hI
  have HSh : Hid (∀ u, Below w.heap.size w u → Calls Tryz.prog 14 #[.int .i64 i.op] u (Ret (.int .i64 (shapeI i.op)) u)) := Lib.hid fun u hu => Shape_any i.op u (hT.next hu).1.1
  have HNm : Hid (∀ u, Below w.heap.size w u → Calls Tryz.prog 10 #[.int .i64 i.op] u (Ret (sb (nameI i.op)) u)) := Lib.hid fun u hu => Name_any i.op u (hT.next hu).five
  have HCt : Hid (∀ u, Below w.heap.size w u → Calls Tryz.prog 15 #[.int .i64 i.cond] u (Ret (.tuple #[.string ⟨(condTx i.cond).1.toArray⟩, .int .i64 (condTx i.cond).2]) u)) := Lib.hid fun u hu => CondText_any i.cond u (hT.next hu).1.2.2 hI.cond
  have HOf : Hid (∀ u, Calls Tryz.prog 13 #[.int .i64 i.imm] u (Ret (.tuple #[.bool (decide (i.imm < 0)), .int .u64 (farS i.imm)]) u)) := Lib.hid fun u => Of_any i.imm u hI.imm.1 hI.imm.2
  have HT := Lib.hid hT
  have HGr := Lib.hid hgr
  have HI := Lib.hid hI
  obtain ⟨B, hB⟩ : ∃ B, B = w.heap.size := ⟨_, rfl⟩
  obtain ⟨V, hV⟩ : ∃ V, V = w.alloc (.cells (inC i) 26) := ⟨_, rfl⟩
  have hb0 : Below w.heap.size w V := by rw [hV]; exact (Below.refl _ _).alloc (Nat.le_refl _) _
  have HBV := Lib.hid hb0
  have HR : Hid (∀ u, Below V.heap.size V u → RB u B (inC i) 26) := Lib.hid fun u hu => RB.next (by rw [hB, hV]; exact (MapKept.heap_alloc w _).1) hu
  have HV : Hid (w.alloc (.cells (inC i) 26) = V) := Lib.hid hV.symm
  have HBe : Hid (w.heap.size = B) := Lib.hid hB.symm
  clear hT hI hB hV hb0 hgr
  obtain ⟨x0, x1, x2, x3, x4, x5, x6, x7, x8, x9, -⟩ := ten_cells (HR.out V (Below.refl _ _))
  have x0a := x0
  rw [← HV.out, ← HBe.out] at x0a
  go_enter Tryz.func5, Tryz.ntmps5
  go_wp2_with fail
  rw [HV.out, HBe.out]
  refine (HIs.out _ HBV.out).mono ?_
  rintro e u ⟨rfl, hb⟩
  have HBu := Lib.hid (after HBV.out hb)
  have HRu : Hid (∀ v, Below u.heap.size u v → RB v B (inC i) 26) := Lib.hid fun v hv => HR.out v (after hb hv)
  obtain ⟨y0, y1, y2, y3, y4, y5, y6, y7, y8, y9, -⟩ := ten_cells (HR.out u hb)
  clear x0 x1 x2 x3 x4 x5 x6 x7 x8 x9 x0a HR HIs
  by_cases hq : isI i = true
  rotate_left
  · have hq' : isI i = false := by simpa using hq
    rw [hq']
    clear hq hq' HV HBe
    go_wp2_with fail
    refine (HM.out _ HBu.out).mono ?_
    rintro e v ⟨rfl, hb'⟩
    have HBv := Lib.hid (after HBu.out hb')
    clear hb hb'
    go_wp2
    go_ret
    exact ⟨rfl, HBv.out⟩
  rw [hq]
  have HTo : Hid (makeL (toldN i) (toldL i) = (i, ndZ, 0)) := Lib.hid (told_ok hq HI.out)
  have HNi : Hid ((nameI i.op).2 = 0) := Lib.hid (by unfold nameI; rw [if_neg (isI_shape hq)])
  have HQ := Lib.hid hq
  clear hb hq
  go_wp2_with fail
  refine (HNm.out _ HBu.out).mono ?_
  rintro e w' ⟨rfl, rfl⟩
  have HAm := Lib.hid (amount_told HQ.out)
  have ham0 := HAm.out.1
  have ham1 := HAm.out.2
  have hwa : IntKind.u64.wrap i.amount = i.amount := by rw [IntKind.wrap_u64]; omega
  have HMake : Hid (∀ (S : ByteArray) u a c, S.data.toList = toldN i → S.size ≤ 102 → Below w.heap.size w u → SL poC 7 u u.heap.size a (toldL i).length (toldL i) → Calls Tryz.prog 8 #[.string S, .slice a (toldL i).length c] u (RetB (mkV (i, ndZ, 0)) u)) := Lib.hid fun S u a c h1 h2 hu hsl => by
    have := Make_any (HT.out.next hu).1 S (by unfold maxLen; omega) a (toldL i).length c (toldL i) hsl (by have := told_len i; omega) (told_good HI.out HAm.out)
    rwa [h1, HTo.out] at this
  have HNs : Hid ((nameI i.op).1.size ≤ 102) := Lib.hid (by have := name_size i.op; omega)
  have HNt : Hid (shapeI i.op ≠ 12 → (nameI i.op).1.data.toList = toldN i) := Lib.hid name_told
  obtain ⟨N, er, hN⟩ : ∃ N er, nameI i.op = (N, er) := ⟨_, _, rfl⟩
  rw [hN] at HNs HNt ⊢
  have he0 : er = 0 := by have := HNi.out; rw [hN] at this; exact this
  subst he0
  clear hN HNi HNm HV HBe HTo
  have z7 : (u.alloc (.cells #[.int .i64 2, .int .i64 0, .bool false, .bool (decide (i.imm < 0)), .int .u64 (farS i.imm), .string ⟨#[]⟩, .int .i64 0] 38)).cell? ⟨B, 7, none⟩ = some (.int .i64 i.shift) := RB.cell (HRu.out _ ((Below.refl _ _).alloc (Nat.le_refl _) _))
  have z8 : (u.alloc (.cells #[.int .i64 2, .int .i64 0, .bool false, .bool (decide (i.imm < 0)), .int .u64 (farS i.imm), .string ⟨#[]⟩, .int .i64 0] 38)).cell? ⟨B, 8, none⟩ = some (.int .i64 i.amount) := RB.cell (HRu.out _ ((Below.refl _ _).alloc (Nat.le_refl _) _))
  have zz0 : ((u.alloc (.cells #[.int .i64 2, .int .i64 0, .bool false, .bool (decide (i.imm < 0)), .int .u64 (farS i.imm), .string ⟨#[]⟩, .int .i64 0] 38)).alloc (.cells #[.int .i64 7, .int .i64 i.shift, .bool false, .bool false, .int .u64 i.amount, .string ⟨#[]⟩, .int .i64 0] 38)).cell? ⟨B, 0, none⟩ = some (.int .i64 i.op) := RB.cell (HRu.out _ (((Below.refl _ _).alloc (Nat.le_refl _) _).alloc (by rw [World.size_alloc]; omega) _))
  obtain ⟨P, hP⟩ : ∃ P, P = u.heap.size := ⟨_, rfl⟩
  obtain ⟨W, hW⟩ : ∃ W, W = (u.alloc (.cells #[.int .i64 2, .int .i64 0, .bool false, .bool (decide (i.imm < 0)), .int .u64 (farS i.imm), .string ⟨#[]⟩, .int .i64 0] 38)).alloc (.cells #[.int .i64 7, .int .i64 i.shift, .bool false, .bool false, .int .u64 i.amount, .string ⟨#[]⟩, .int .i64 0] 38) := ⟨_, rfl⟩
  have b1 : Below u.heap.size u W := by rw [hW]; exact ((Below.refl _ _).alloc (Nat.le_refl _) _).alloc (by rw [World.size_alloc]; omega) _
  have hs1 : W.heap.size = P + 2 := by rw [hW, hP, World.size_alloc, World.size_alloc]
  have HRi : Hid (RB W P (poA (immO i.imm)) 38) := Lib.hid (by
    rw [hW, hP]
    exact RB.next (X := u.heap.size) (MapKept.heap_alloc u _).1 ((Below.refl _ _).alloc (Nat.le_refl _) _))
  have HRs : Hid (RB W (P + 1) (poA (shO i.shift i.amount)) 38) := Lib.hid (by
    have := (MapKept.heap_alloc (u.alloc (.cells #[.int .i64 2, .int .i64 0, .bool false, .bool (decide (i.imm < 0)), .int .u64 (farS i.imm), .string ⟨#[]⟩, .int .i64 0] 38)) (.cells #[.int .i64 7, .int .i64 i.shift, .bool false, .bool false, .int .u64 i.amount, .string ⟨#[]⟩, .int .i64 0] 38)).1
    rw [World.size_alloc, ← hP, ← hW] at this
    exact this)
  have HcX : Hid (∀ v, Below W.heap.size W v → v.cell? ⟨B, 0, none⟩ = some (.int .i64 i.op) ∧ v.cell? ⟨B, 1, none⟩ = some (.int .i64 i.d) ∧ v.cell? ⟨B, 2, none⟩ = some (.int .i64 i.n) ∧ v.cell? ⟨B, 3, none⟩ = some (.int .i64 i.m) ∧ v.cell? ⟨B, 4, none⟩ = some (.int .i64 i.a) ∧ v.cell? ⟨B, 5, none⟩ = some (.int .i64 i.imm) ∧ v.cell? ⟨B, 6, none⟩ = some (.int .u64 i.mask) ∧ v.cell? ⟨B, 7, none⟩ = some (.int .i64 i.shift) ∧ v.cell? ⟨B, 8, none⟩ = some (.int .i64 i.amount) ∧ v.cell? ⟨B, 9, none⟩ = some (.int .i64 i.cond) ∧ v.cell? ⟨P, 0, none⟩ = some (.int .i64 2) ∧ v.cell? ⟨P, 1, none⟩ = some (.int .i64 0) ∧ v.cell? ⟨P, 2, none⟩ = some (.bool false) ∧ v.cell? ⟨P, 3, none⟩ = some (.bool (decide (i.imm < 0))) ∧ v.cell? ⟨P, 4, none⟩ = some (.int .u64 (farS i.imm)) ∧ v.cell? ⟨P, 5, none⟩ = some (.string ⟨#[]⟩) ∧ v.cell? ⟨P, 6, none⟩ = some (.int .i64 0) ∧ v.cell? ⟨P + 1, 0, none⟩ = some (.int .i64 7) ∧ v.cell? ⟨P + 1, 1, none⟩ = some (.int .i64 i.shift) ∧ v.cell? ⟨P + 1, 2, none⟩ = some (.bool false) ∧ v.cell? ⟨P + 1, 3, none⟩ = some (.bool false) ∧ v.cell? ⟨P + 1, 4, none⟩ = some (.int .u64 i.amount) ∧ v.cell? ⟨P + 1, 5, none⟩ = some (.string ⟨#[]⟩) ∧ v.cell? ⟨P + 1, 6, none⟩ = some (.int .i64 0)) := Lib.hid fun v hv => by
    have r1 := HRu.out v (after b1 hv)
    have r2 := RB.next HRi.out hv
    have r3 := RB.next HRs.out hv
    exact ⟨RB.cell r1, RB.cell r1, RB.cell r1, RB.cell r1, RB.cell r1, RB.cell r1, RB.cell r1, RB.cell r1, RB.cell r1, RB.cell r1, RB.cell r2, RB.cell r2, RB.cell r2, RB.cell r2, RB.cell r2, RB.cell r2, RB.cell r2, RB.cell r3, RB.cell r3, RB.cell r3, RB.cell r3, RB.cell r3, RB.cell r3, RB.cell r3⟩
  have HBW := Lib.hid (after HBu.out b1)
  have HPe : Hid (u.heap.size = P) := Lib.hid hP.symm
  have HWe := Lib.hid hW.symm
  clear b1 hs1 hP hW HRi HRs HRu
  have hops : ∃ b : Bool, b = spO i.op ∧ (((i.op == 4) = false ∧ (i.op == 5) = false ∧ (i.op == 8) = false ∧ (i.op == 9) = false ∧ (i.op == 10) = false ∧ b = false) ∨ ((i.op == 4) = true ∧ b = true) ∨ ((i.op == 4) = false ∧ (i.op == 5) = true ∧ b = true) ∨ ((i.op == 4) = false ∧ (i.op == 5) = false ∧ (i.op == 8) = true ∧ b = true) ∨ ((i.op == 4) = false ∧ (i.op == 5) = false ∧ (i.op == 8) = false ∧ (i.op == 9) = true ∧ b = true) ∨ ((i.op == 4) = false ∧ (i.op == 5) = false ∧ (i.op == 8) = false ∧ (i.op == 9) = false ∧ (i.op == 10) = true ∧ b = true)) := by
    refine ⟨_, rfl, ?_⟩
    unfold spO
    cases i.op == 4 <;> cases i.op == 5 <;> cases i.op == 8 <;> cases i.op == 9 <;> cases i.op == 10 <;> simp
  obtain ⟨b, hbs, hops⟩ := hops
  have HSb := Lib.hid hbs
  clear hbs
  have hshp : shapeI i.op = 1 ∨ shapeI i.op = 2 ∨ shapeI i.op = 3 ∨ shapeI i.op = 4 ∨ shapeI i.op = 5 ∨ shapeI i.op = 6 ∨ shapeI i.op = 7 ∨ shapeI i.op = 8 ∨ shapeI i.op = 9 ∨ shapeI i.op = 10 ∨ shapeI i.op = 11 ∨ shapeI i.op = 12 ∨ shapeI i.op = 13 ∨ shapeI i.op = 14 ∨ shapeI i.op = 15 ∨ shapeI i.op = 16 := by
    have h0 := isI_shape HQ.out
    have h1 := shapeI_b i.op
    omega
  rcases hops with ⟨q4, q5, q8, q9, q10, rfl⟩ | ⟨q4, rfl⟩ | ⟨q4, q5, rfl⟩ | ⟨q4, q5, q8, rfl⟩ | ⟨q4, q5, q8, q9, rfl⟩ | ⟨q4, q5, q8, q9, q10, rfl⟩
  · rcases hshp with hs | hs | hs | hs | hs | hs | hs | hs | hs | hs | hs | hs | hs | hs | hs | hs
    · go_wp2_with fail
      refine (HOf.out _).mono ?_
      rintro e w' ⟨rfl, rfl⟩
      go_wp2_with fail
      rw [HWe.out, HPe.out]
      refine (HSh.out _ HBW.out).mono ?_
      rintro e w' ⟨rfl, rfl⟩
      rw [hs]
      go_wp2_with fail
      obtain ⟨V0, hV0⟩ : ∃ x, x = W.drew := ⟨_, rfl⟩
      have HcV : Hid (∀ v, Below V0.heap.size V0 v → v.cell? ⟨B, 0, none⟩ = some (.int .i64 i.op) ∧ v.cell? ⟨B, 1, none⟩ = some (.int .i64 i.d) ∧ v.cell? ⟨B, 2, none⟩ = some (.int .i64 i.n) ∧ v.cell? ⟨B, 3, none⟩ = some (.int .i64 i.m) ∧ v.cell? ⟨B, 4, none⟩ = some (.int .i64 i.a) ∧ v.cell? ⟨B, 5, none⟩ = some (.int .i64 i.imm) ∧ v.cell? ⟨B, 6, none⟩ = some (.int .u64 i.mask) ∧ v.cell? ⟨B, 7, none⟩ = some (.int .i64 i.shift) ∧ v.cell? ⟨B, 8, none⟩ = some (.int .i64 i.amount) ∧ v.cell? ⟨B, 9, none⟩ = some (.int .i64 i.cond) ∧ v.cell? ⟨P, 0, none⟩ = some (.int .i64 2) ∧ v.cell? ⟨P, 1, none⟩ = some (.int .i64 0) ∧ v.cell? ⟨P, 2, none⟩ = some (.bool false) ∧ v.cell? ⟨P, 3, none⟩ = some (.bool (decide (i.imm < 0))) ∧ v.cell? ⟨P, 4, none⟩ = some (.int .u64 (farS i.imm)) ∧ v.cell? ⟨P, 5, none⟩ = some (.string ⟨#[]⟩) ∧ v.cell? ⟨P, 6, none⟩ = some (.int .i64 0) ∧ v.cell? ⟨P + 1, 0, none⟩ = some (.int .i64 7) ∧ v.cell? ⟨P + 1, 1, none⟩ = some (.int .i64 i.shift) ∧ v.cell? ⟨P + 1, 2, none⟩ = some (.bool false) ∧ v.cell? ⟨P + 1, 3, none⟩ = some (.bool false) ∧ v.cell? ⟨P + 1, 4, none⟩ = some (.int .u64 i.amount) ∧ v.cell? ⟨P + 1, 5, none⟩ = some (.string ⟨#[]⟩) ∧ v.cell? ⟨P + 1, 6, none⟩ = some (.int .i64 0)) := Lib.hid fun v hv => HcX.out v (by rw [hV0] at hv; exact after (Below.refl _ _).drew hv)
      have HB0 : Hid (Below w.heap.size w V0) := Lib.hid (by rw [hV0]; exact after HBW.out (Below.refl _ _).drew)
      have HV0 := Lib.hid hV0.symm
      have G0 : Hid (Below V0.heap.size V0 V0) := Lib.hid (Below.refl _ _)
      clear hV0
      refine wp_region_held_drew (S := fun v => v.cell? ⟨B, 0, none⟩ = some (.int .i64 i.op) ∧ v.cell? ⟨B, 1, none⟩ = some (.int .i64 i.d) ∧ v.cell? ⟨B, 2, none⟩ = some (.int .i64 i.n) ∧ v.cell? ⟨B, 3, none⟩ = some (.int .i64 i.m) ∧ v.cell? ⟨B, 4, none⟩ = some (.int .i64 i.a) ∧ v.cell? ⟨B, 5, none⟩ = some (.int .i64 i.imm) ∧ v.cell? ⟨B, 6, none⟩ = some (.int .u64 i.mask) ∧ v.cell? ⟨B, 7, none⟩ = some (.int .i64 i.shift) ∧ v.cell? ⟨B, 8, none⟩ = some (.int .i64 i.amount) ∧ v.cell? ⟨B, 9, none⟩ = some (.int .i64 i.cond) ∧ v.cell? ⟨P, 0, none⟩ = some (.int .i64 2) ∧ v.cell? ⟨P, 1, none⟩ = some (.int .i64 0) ∧ v.cell? ⟨P, 2, none⟩ = some (.bool false) ∧ v.cell? ⟨P, 3, none⟩ = some (.bool (decide (i.imm < 0))) ∧ v.cell? ⟨P, 4, none⟩ = some (.int .u64 (farS i.imm)) ∧ v.cell? ⟨P, 5, none⟩ = some (.string ⟨#[]⟩) ∧ v.cell? ⟨P, 6, none⟩ = some (.int .i64 0) ∧ v.cell? ⟨P + 1, 0, none⟩ = some (.int .i64 7) ∧ v.cell? ⟨P + 1, 1, none⟩ = some (.int .i64 i.shift) ∧ v.cell? ⟨P + 1, 2, none⟩ = some (.bool false) ∧ v.cell? ⟨P + 1, 3, none⟩ = some (.bool false) ∧ v.cell? ⟨P + 1, 4, none⟩ = some (.int .u64 i.amount) ∧ v.cell? ⟨P + 1, 5, none⟩ = some (.string ⟨#[]⟩) ∧ v.cell? ⟨P + 1, 6, none⟩ = some (.int .i64 0)) (by kernel_rfl) (by rw [HV0.out]; exact HcV.out _ G0.out) (fun hHeld => ?_)
      rw [HV0.out]
      have hHeld0 := HcV.out _ G0.out
      clear hHeld
      refine tk 0 ?_ rfl hHeld0 ?_ ?_
      rotate_left 1
      · intro w hS; obtain ⟨_, _, _, _, _, _, _, _, _, _, _, _, _, _, _, _, _, _, _, _, _, _, _, _⟩ := hS; go_simp; (try with_reducible rfl)
      (try simp only [Act.put, List.setIfInBounds_toArray, List.set_cons_zero, List.set_cons_succ])
      refine tk 1 ?_ rfl hHeld0 ?_ ?_
      rotate_left 1
      · intro w hS; obtain ⟨_, _, _, _, _, _, _, _, _, _, _, _, _, _, _, _, _, _, _, _, _, _, _, _⟩ := hS; go_simp; (try with_reducible rfl)
      (try simp only [Act.put, List.setIfInBounds_toArray, List.set_cons_zero, List.set_cons_succ])
      refine tk 2 ?_ rfl hHeld0 ?_ ?_
      rotate_left 1
      · intro w hS; obtain ⟨_, _, _, _, _, _, _, _, _, _, _, _, _, _, _, _, _, _, _, _, _, _, _, _⟩ := hS; go_simp; (try with_reducible rfl)
      (try simp only [Act.put, List.setIfInBounds_toArray, List.set_cons_zero, List.set_cons_succ])
      refine tk 3 ?_ rfl hHeld0 ?_ ?_
      rotate_left 1
      · intro w hS; obtain ⟨_, _, _, _, _, _, _, _, _, _, _, _, _, _, _, _, _, _, _, _, _, _, _, _⟩ := hS; go_simp; (try with_reducible rfl)
      (try simp only [Act.put, List.setIfInBounds_toArray, List.set_cons_zero, List.set_cons_succ])
      refine tk 5 ?_ rfl hHeld0 ?_ ?_
      rotate_left 1
      · intro w hS; obtain ⟨_, _, _, _, _, _, _, _, _, _, _, _, _, _, _, _, _, _, _, _, _, _, _, _⟩ := hS; go_simp; (try with_reducible rfl)
      (try simp only [Act.put, List.setIfInBounds_toArray, List.set_cons_zero, List.set_cons_succ])
      refine tk 6 ?_ rfl hHeld0 ?_ ?_
      rotate_left 1
      · intro w hS; obtain ⟨_, _, _, _, _, _, _, _, _, _, _, _, _, _, _, _, _, _, _, _, _, _, _, _⟩ := hS; go_simp; (try with_reducible rfl)
      (try simp only [Act.put, List.setIfInBounds_toArray, List.set_cons_zero, List.set_cons_succ])
      refine rd 4 rfl (fun K hK => ?_)
      go_simp
      go_wp2_with (go_at_call 12; refine (reg1_any _ _ _).mono ?_; rintro e v1 ⟨rfl, hb1⟩)
      have G1 := Lib.hid (after G0.out hb1)
      clear hb1
      refine hK.out _ _ (HcV.out _ G1.out) (fun hHeld1 => ?_)
      clear hK K
      refine rd 7 rfl (fun K hK => ?_)
      go_simp
      generalize hVs : World.alloc _ _ = Vs
      have hbs : Below v1.heap.size v1 Vs := by rw [← hVs]; exact (Below.refl _ _).alloc (Nat.le_refl _) _
      have hsz : Vs.heap.size = v1.heap.size + 1 := by rw [← hVs]; exact World.size_alloc _ _
      have hsl : SL poC 7 Vs (v1.heap.size + 1) (some ⟨v1.heap.size, 0, none⟩) 3 [regO i.d false, immO i.imm, shO i.shift i.amount] := by rw [← hVs]; exact SL.lit v1 _ [regO i.d false, immO i.imm, shO i.shift i.amount] po_len (by decide) _ (by first | rfl | simp [poC, regO, immO, shO, maskO, memO, cdO]) _ rfl
      rw [← hsz] at hsl
      have GS := Lib.hid (after G1.out hbs)
      refine hK.out _ _ (HcV.out _ GS.out) (fun hHeldS => ?_)
      clear hK K
      obtain ⟨a', c', Va, happ, hsa, hba⟩ := app_po (c := 3) hsl (by decide) 22
      have HAp := Lib.hid happ
      have HSa := Lib.hid hsa
      have GA := Lib.hid (after GS.out hba)
      clear hsl happ hsa hba hbs hsz hVs
      generalize v1.heap.size = bi at *
      refine rd 8 rfl (fun K hK => ?_)
      refine step_run rfl _ _ 22 rfl _ _ (by rfl) (by rfl) HAp.out ?_
      refine hK.out _ _ (HcV.out _ GA.out) (fun hHeldA => ?_)
      clear hK K
      refine rd 9 rfl (fun K hK => ?_)
      go_simp
      refine hK.out _ _ (HcV.out _ GA.out) (fun hHeldB => ?_)
      clear hK K
      refine wpAnyH_done (by kernel_rfl) ?_ _
      have HBA : Hid (Below w.heap.size w Va) := Lib.hid (after HB0.out GA.out)
      have HTL : Hid (toldL i = [regO i.d false, immO i.imm, shO i.shift i.amount]) := Lib.hid (by unfold toldL; simp [hs, ← HSb.out])
      have HMk : Hid (Calls Tryz.prog 8 #[.string N, .slice a' 3 c'] Va (RetB (mkV (i, ndZ, 0)) Va)) := Lib.hid (by
        have := HMake.out N Va a' c' (HNt.out (by rw [hs]; decide)) (HNs.out) HBA.out (by rw [HTL.out]; exact HSa.out)
        rw [HTL.out] at this
        exact this)
      clear HMake HNs HNt HTL HSa
      go_wp2_with fail
      refine HMk.out.mono ?_
      rintro e u5 ⟨rfl, hb⟩
      have HB5 := Lib.hid (after HBA.out hb)
      have G5 := Lib.hid (after GA.out hb)
      clear hb HMk
      obtain ⟨X, hX⟩ : ∃ X, X = u5.heap.size := ⟨_, rfl⟩
      obtain ⟨U, hU⟩ : ∃ U, U = (u5.alloc (.cells (inC i) 26)).alloc (.cells (ndA ndZ) 28) := ⟨_, rfl⟩
      have s1 : (u5.alloc (.cells (inC i) 26)).heap.size = u5.heap.size + 1 := World.size_alloc _ _
      have b1 : Below u5.heap.size u5 (u5.alloc (.cells (inC i) 26)) := (Below.refl _ _).alloc (Nat.le_refl _) _
      have b2 : Below (u5.alloc (.cells (inC i) 26)).heap.size (u5.alloc (.cells (inC i) 26)) U := by rw [hU]; exact (Below.refl _ _).alloc (Nat.le_refl _) _
      have b3 := after b1 b2
      have HB6 := Lib.hid (after HB5.out b3)
      have G6 := Lib.hid (after G5.out b3)
      have HR6 : Hid (RB U X (inC i) 26) := Lib.hid (by rw [hX]; exact RB.next (MapKept.heap_alloc u5 _).1 b2)
      have HS6 : Hid (RB U (X + 1) (ndA ndZ) 28) := Lib.hid (by
        have := (MapKept.heap_alloc (u5.alloc (.cells (inC i) 26)) (.cells (ndA ndZ) 28)).1
        rw [s1, ← hX, ← hU] at this
        exact this)
      have HUe := Lib.hid hU.symm
      have HXe := Lib.hid hX.symm
      clear hU hX s1 b1 b2 b3
      go_wp2_with fail
      rw [HUe.out, HXe.out]
      refine (HM.out _ HB6.out).mono ?_
      rintro e u7 ⟨rfl, hb⟩
      have HB7 := Lib.hid (after HB6.out hb)
      obtain ⟨x0, x1, x2, x3, x4, x5, x6, x7, x8, x9, -⟩ := ten_cells (HR6.out.next hb)
      obtain ⟨y0, y1, y2, y3, y4, -⟩ := five_cells (HS6.out.next hb)
      obtain ⟨z0, z1, z2, z3, z4, z5, z6, z7, z8, z9, -⟩ := HcV.out _ (after G6.out hb)
      have hei := eqI i
      clear hb
      go_wp2
      go_ret
      exact ⟨rfl, HB7.out⟩
    · go_wp2_with fail
      refine (HOf.out _).mono ?_
      rintro e w' ⟨rfl, rfl⟩
      go_wp2_with fail
      rw [HWe.out, HPe.out]
      refine (HSh.out _ HBW.out).mono ?_
      rintro e w' ⟨rfl, rfl⟩
      rw [hs]
      go_wp2_with fail
      obtain ⟨V0, hV0⟩ : ∃ x, x = W.drew := ⟨_, rfl⟩
      have HcV : Hid (∀ v, Below V0.heap.size V0 v → v.cell? ⟨B, 0, none⟩ = some (.int .i64 i.op) ∧ v.cell? ⟨B, 1, none⟩ = some (.int .i64 i.d) ∧ v.cell? ⟨B, 2, none⟩ = some (.int .i64 i.n) ∧ v.cell? ⟨B, 3, none⟩ = some (.int .i64 i.m) ∧ v.cell? ⟨B, 4, none⟩ = some (.int .i64 i.a) ∧ v.cell? ⟨B, 5, none⟩ = some (.int .i64 i.imm) ∧ v.cell? ⟨B, 6, none⟩ = some (.int .u64 i.mask) ∧ v.cell? ⟨B, 7, none⟩ = some (.int .i64 i.shift) ∧ v.cell? ⟨B, 8, none⟩ = some (.int .i64 i.amount) ∧ v.cell? ⟨B, 9, none⟩ = some (.int .i64 i.cond) ∧ v.cell? ⟨P, 0, none⟩ = some (.int .i64 2) ∧ v.cell? ⟨P, 1, none⟩ = some (.int .i64 0) ∧ v.cell? ⟨P, 2, none⟩ = some (.bool false) ∧ v.cell? ⟨P, 3, none⟩ = some (.bool (decide (i.imm < 0))) ∧ v.cell? ⟨P, 4, none⟩ = some (.int .u64 (farS i.imm)) ∧ v.cell? ⟨P, 5, none⟩ = some (.string ⟨#[]⟩) ∧ v.cell? ⟨P, 6, none⟩ = some (.int .i64 0) ∧ v.cell? ⟨P + 1, 0, none⟩ = some (.int .i64 7) ∧ v.cell? ⟨P + 1, 1, none⟩ = some (.int .i64 i.shift) ∧ v.cell? ⟨P + 1, 2, none⟩ = some (.bool false) ∧ v.cell? ⟨P + 1, 3, none⟩ = some (.bool false) ∧ v.cell? ⟨P + 1, 4, none⟩ = some (.int .u64 i.amount) ∧ v.cell? ⟨P + 1, 5, none⟩ = some (.string ⟨#[]⟩) ∧ v.cell? ⟨P + 1, 6, none⟩ = some (.int .i64 0)) := Lib.hid fun v hv => HcX.out v (by rw [hV0] at hv; exact after (Below.refl _ _).drew hv)
      have HB0 : Hid (Below w.heap.size w V0) := Lib.hid (by rw [hV0]; exact after HBW.out (Below.refl _ _).drew)
      have HV0 := Lib.hid hV0.symm
      have G0 : Hid (Below V0.heap.size V0 V0) := Lib.hid (Below.refl _ _)
      clear hV0
      refine wp_region_held_drew (S := fun v => v.cell? ⟨B, 0, none⟩ = some (.int .i64 i.op) ∧ v.cell? ⟨B, 1, none⟩ = some (.int .i64 i.d) ∧ v.cell? ⟨B, 2, none⟩ = some (.int .i64 i.n) ∧ v.cell? ⟨B, 3, none⟩ = some (.int .i64 i.m) ∧ v.cell? ⟨B, 4, none⟩ = some (.int .i64 i.a) ∧ v.cell? ⟨B, 5, none⟩ = some (.int .i64 i.imm) ∧ v.cell? ⟨B, 6, none⟩ = some (.int .u64 i.mask) ∧ v.cell? ⟨B, 7, none⟩ = some (.int .i64 i.shift) ∧ v.cell? ⟨B, 8, none⟩ = some (.int .i64 i.amount) ∧ v.cell? ⟨B, 9, none⟩ = some (.int .i64 i.cond) ∧ v.cell? ⟨P, 0, none⟩ = some (.int .i64 2) ∧ v.cell? ⟨P, 1, none⟩ = some (.int .i64 0) ∧ v.cell? ⟨P, 2, none⟩ = some (.bool false) ∧ v.cell? ⟨P, 3, none⟩ = some (.bool (decide (i.imm < 0))) ∧ v.cell? ⟨P, 4, none⟩ = some (.int .u64 (farS i.imm)) ∧ v.cell? ⟨P, 5, none⟩ = some (.string ⟨#[]⟩) ∧ v.cell? ⟨P, 6, none⟩ = some (.int .i64 0) ∧ v.cell? ⟨P + 1, 0, none⟩ = some (.int .i64 7) ∧ v.cell? ⟨P + 1, 1, none⟩ = some (.int .i64 i.shift) ∧ v.cell? ⟨P + 1, 2, none⟩ = some (.bool false) ∧ v.cell? ⟨P + 1, 3, none⟩ = some (.bool false) ∧ v.cell? ⟨P + 1, 4, none⟩ = some (.int .u64 i.amount) ∧ v.cell? ⟨P + 1, 5, none⟩ = some (.string ⟨#[]⟩) ∧ v.cell? ⟨P + 1, 6, none⟩ = some (.int .i64 0)) (by kernel_rfl) (by rw [HV0.out]; exact HcV.out _ G0.out) (fun hHeld => ?_)
      rw [HV0.out]
      have hHeld0 := HcV.out _ G0.out
      clear hHeld
      refine tk 0 ?_ rfl hHeld0 ?_ ?_
      rotate_left 1
      · intro w hS; obtain ⟨_, _, _, _, _, _, _, _, _, _, _, _, _, _, _, _, _, _, _, _, _, _, _, _⟩ := hS; go_simp; (try with_reducible rfl)
      (try simp only [Act.put, List.setIfInBounds_toArray, List.set_cons_zero, List.set_cons_succ])
      refine tk 1 ?_ rfl hHeld0 ?_ ?_
      rotate_left 1
      · intro w hS; obtain ⟨_, _, _, _, _, _, _, _, _, _, _, _, _, _, _, _, _, _, _, _, _, _, _, _⟩ := hS; go_simp; (try with_reducible rfl)
      (try simp only [Act.put, List.setIfInBounds_toArray, List.set_cons_zero, List.set_cons_succ])
      refine tk 2 ?_ rfl hHeld0 ?_ ?_
      rotate_left 1
      · intro w hS; obtain ⟨_, _, _, _, _, _, _, _, _, _, _, _, _, _, _, _, _, _, _, _, _, _, _, _⟩ := hS; go_simp; (try with_reducible rfl)
      (try simp only [Act.put, List.setIfInBounds_toArray, List.set_cons_zero, List.set_cons_succ])
      refine tk 3 ?_ rfl hHeld0 ?_ ?_
      rotate_left 1
      · intro w hS; obtain ⟨_, _, _, _, _, _, _, _, _, _, _, _, _, _, _, _, _, _, _, _, _, _, _, _⟩ := hS; go_simp; (try with_reducible rfl)
      (try simp only [Act.put, List.setIfInBounds_toArray, List.set_cons_zero, List.set_cons_succ])
      refine tk 4 ?_ rfl hHeld0 ?_ ?_
      rotate_left 1
      · intro w hS; obtain ⟨_, _, _, _, _, _, _, _, _, _, _, _, _, _, _, _, _, _, _, _, _, _, _, _⟩ := hS; go_simp; (try with_reducible rfl)
      (try simp only [Act.put, List.setIfInBounds_toArray, List.set_cons_zero, List.set_cons_succ])
      refine tk 6 ?_ rfl hHeld0 ?_ ?_
      rotate_left 1
      · intro w hS; obtain ⟨_, _, _, _, _, _, _, _, _, _, _, _, _, _, _, _, _, _, _, _, _, _, _, _⟩ := hS; go_simp; (try with_reducible rfl)
      (try simp only [Act.put, List.setIfInBounds_toArray, List.set_cons_zero, List.set_cons_succ])
      refine tk 7 ?_ rfl hHeld0 ?_ ?_
      rotate_left 1
      · intro w hS; obtain ⟨_, _, _, _, _, _, _, _, _, _, _, _, _, _, _, _, _, _, _, _, _, _, _, _⟩ := hS; go_simp; (try with_reducible rfl)
      (try simp only [Act.put, List.setIfInBounds_toArray, List.set_cons_zero, List.set_cons_succ])
      refine tk 8 ?_ rfl hHeld0 ?_ ?_
      rotate_left 1
      · intro w hS; obtain ⟨_, _, _, _, _, _, _, _, _, _, _, _, _, _, _, _, _, _, _, _, _, _, _, _⟩ := hS; go_simp; (try with_reducible rfl)
      (try simp only [Act.put, List.setIfInBounds_toArray, List.set_cons_zero, List.set_cons_succ])
      refine tk 10 ?_ rfl hHeld0 ?_ ?_
      rotate_left 1
      · intro w hS; obtain ⟨_, _, _, _, _, _, _, _, _, _, _, _, _, _, _, _, _, _, _, _, _, _, _, _⟩ := hS; go_simp; (try with_reducible rfl)
      (try simp only [Act.put, List.setIfInBounds_toArray, List.set_cons_zero, List.set_cons_succ])
      refine tk 11 ?_ rfl hHeld0 ?_ ?_
      rotate_left 1
      · intro w hS; obtain ⟨_, _, _, _, _, _, _, _, _, _, _, _, _, _, _, _, _, _, _, _, _, _, _, _⟩ := hS; go_simp; (try with_reducible rfl)
      (try simp only [Act.put, List.setIfInBounds_toArray, List.set_cons_zero, List.set_cons_succ])
      refine rd 5 rfl (fun K hK => ?_)
      go_simp
      go_wp2_with (go_at_call 12; refine (reg1_any _ _ _).mono ?_; rintro e v1 ⟨rfl, hb1⟩)
      have G1 := Lib.hid (after G0.out hb1)
      clear hb1
      refine hK.out _ _ (HcV.out _ G1.out) (fun hHeld1 => ?_)
      clear hK K
      refine rd 9 rfl (fun K hK => ?_)
      go_simp
      go_wp2_with (go_at_call 12; refine (reg1_any _ _ _).mono ?_; rintro e v2 ⟨rfl, hb2⟩)
      have G2 := Lib.hid (after G1.out hb2)
      clear hb2
      refine hK.out _ _ (HcV.out _ G2.out) (fun hHeld2 => ?_)
      clear hK K
      refine rd 12 rfl (fun K hK => ?_)
      go_simp
      generalize hVs : World.alloc _ _ = Vs
      have hbs : Below v2.heap.size v2 Vs := by rw [← hVs]; exact (Below.refl _ _).alloc (Nat.le_refl _) _
      have hsz : Vs.heap.size = v2.heap.size + 1 := by rw [← hVs]; exact World.size_alloc _ _
      have hsl : SL poC 7 Vs (v2.heap.size + 1) (some ⟨v2.heap.size, 0, none⟩) 4 [regO i.d false, regO i.n true, immO i.imm, shO i.shift i.amount] := by rw [← hVs]; exact SL.lit v2 _ [regO i.d false, regO i.n true, immO i.imm, shO i.shift i.amount] po_len (by decide) _ (by first | rfl | simp [poC, regO, immO, shO, maskO, memO, cdO]) _ rfl
      rw [← hsz] at hsl
      have GS := Lib.hid (after G2.out hbs)
      refine hK.out _ _ (HcV.out _ GS.out) (fun hHeldS => ?_)
      clear hK K
      obtain ⟨a', c', Va, happ, hsa, hba⟩ := app_po (c := 4) hsl (by decide) 22
      have HAp := Lib.hid happ
      have HSa := Lib.hid hsa
      have GA := Lib.hid (after GS.out hba)
      clear hsl happ hsa hba hbs hsz hVs
      generalize v2.heap.size = bi at *
      refine rd 13 rfl (fun K hK => ?_)
      refine step_run rfl _ _ 22 rfl _ _ (by rfl) (by rfl) HAp.out ?_
      refine hK.out _ _ (HcV.out _ GA.out) (fun hHeldA => ?_)
      clear hK K
      refine rd 14 rfl (fun K hK => ?_)
      go_simp
      refine hK.out _ _ (HcV.out _ GA.out) (fun hHeldB => ?_)
      clear hK K
      refine wpAnyH_done (by kernel_rfl) ?_ _
      have HBA : Hid (Below w.heap.size w Va) := Lib.hid (after HB0.out GA.out)
      have HTL : Hid (toldL i = [regO i.d false, regO i.n true, immO i.imm, shO i.shift i.amount]) := Lib.hid (by unfold toldL; simp [hs, ← HSb.out])
      have HMk : Hid (Calls Tryz.prog 8 #[.string N, .slice a' 4 c'] Va (RetB (mkV (i, ndZ, 0)) Va)) := Lib.hid (by
        have := HMake.out N Va a' c' (HNt.out (by rw [hs]; decide)) (HNs.out) HBA.out (by rw [HTL.out]; exact HSa.out)
        rw [HTL.out] at this
        exact this)
      clear HMake HNs HNt HTL HSa
      go_wp2_with fail
      refine HMk.out.mono ?_
      rintro e u5 ⟨rfl, hb⟩
      have HB5 := Lib.hid (after HBA.out hb)
      have G5 := Lib.hid (after GA.out hb)
      clear hb HMk
      obtain ⟨X, hX⟩ : ∃ X, X = u5.heap.size := ⟨_, rfl⟩
      obtain ⟨U, hU⟩ : ∃ U, U = (u5.alloc (.cells (inC i) 26)).alloc (.cells (ndA ndZ) 28) := ⟨_, rfl⟩
      have s1 : (u5.alloc (.cells (inC i) 26)).heap.size = u5.heap.size + 1 := World.size_alloc _ _
      have b1 : Below u5.heap.size u5 (u5.alloc (.cells (inC i) 26)) := (Below.refl _ _).alloc (Nat.le_refl _) _
      have b2 : Below (u5.alloc (.cells (inC i) 26)).heap.size (u5.alloc (.cells (inC i) 26)) U := by rw [hU]; exact (Below.refl _ _).alloc (Nat.le_refl _) _
      have b3 := after b1 b2
      have HB6 := Lib.hid (after HB5.out b3)
      have G6 := Lib.hid (after G5.out b3)
      have HR6 : Hid (RB U X (inC i) 26) := Lib.hid (by rw [hX]; exact RB.next (MapKept.heap_alloc u5 _).1 b2)
      have HS6 : Hid (RB U (X + 1) (ndA ndZ) 28) := Lib.hid (by
        have := (MapKept.heap_alloc (u5.alloc (.cells (inC i) 26)) (.cells (ndA ndZ) 28)).1
        rw [s1, ← hX, ← hU] at this
        exact this)
      have HUe := Lib.hid hU.symm
      have HXe := Lib.hid hX.symm
      clear hU hX s1 b1 b2 b3
      go_wp2_with fail
      rw [HUe.out, HXe.out]
      refine (HM.out _ HB6.out).mono ?_
      rintro e u7 ⟨rfl, hb⟩
      have HB7 := Lib.hid (after HB6.out hb)
      obtain ⟨x0, x1, x2, x3, x4, x5, x6, x7, x8, x9, -⟩ := ten_cells (HR6.out.next hb)
      obtain ⟨y0, y1, y2, y3, y4, -⟩ := five_cells (HS6.out.next hb)
      obtain ⟨z0, z1, z2, z3, z4, z5, z6, z7, z8, z9, -⟩ := HcV.out _ (after G6.out hb)
      have hei := eqI i
      clear hb
      go_wp2
      go_ret
      exact ⟨rfl, HB7.out⟩
    · go_wp2_with fail
      refine (HOf.out _).mono ?_
      rintro e w' ⟨rfl, rfl⟩
      go_wp2_with fail
      rw [HWe.out, HPe.out]
      refine (HSh.out _ HBW.out).mono ?_
      rintro e w' ⟨rfl, rfl⟩
      rw [hs]
      go_wp2_with fail
      obtain ⟨V0, hV0⟩ : ∃ x, x = W.drew := ⟨_, rfl⟩
      have HcV : Hid (∀ v, Below V0.heap.size V0 v → v.cell? ⟨B, 0, none⟩ = some (.int .i64 i.op) ∧ v.cell? ⟨B, 1, none⟩ = some (.int .i64 i.d) ∧ v.cell? ⟨B, 2, none⟩ = some (.int .i64 i.n) ∧ v.cell? ⟨B, 3, none⟩ = some (.int .i64 i.m) ∧ v.cell? ⟨B, 4, none⟩ = some (.int .i64 i.a) ∧ v.cell? ⟨B, 5, none⟩ = some (.int .i64 i.imm) ∧ v.cell? ⟨B, 6, none⟩ = some (.int .u64 i.mask) ∧ v.cell? ⟨B, 7, none⟩ = some (.int .i64 i.shift) ∧ v.cell? ⟨B, 8, none⟩ = some (.int .i64 i.amount) ∧ v.cell? ⟨B, 9, none⟩ = some (.int .i64 i.cond) ∧ v.cell? ⟨P, 0, none⟩ = some (.int .i64 2) ∧ v.cell? ⟨P, 1, none⟩ = some (.int .i64 0) ∧ v.cell? ⟨P, 2, none⟩ = some (.bool false) ∧ v.cell? ⟨P, 3, none⟩ = some (.bool (decide (i.imm < 0))) ∧ v.cell? ⟨P, 4, none⟩ = some (.int .u64 (farS i.imm)) ∧ v.cell? ⟨P, 5, none⟩ = some (.string ⟨#[]⟩) ∧ v.cell? ⟨P, 6, none⟩ = some (.int .i64 0) ∧ v.cell? ⟨P + 1, 0, none⟩ = some (.int .i64 7) ∧ v.cell? ⟨P + 1, 1, none⟩ = some (.int .i64 i.shift) ∧ v.cell? ⟨P + 1, 2, none⟩ = some (.bool false) ∧ v.cell? ⟨P + 1, 3, none⟩ = some (.bool false) ∧ v.cell? ⟨P + 1, 4, none⟩ = some (.int .u64 i.amount) ∧ v.cell? ⟨P + 1, 5, none⟩ = some (.string ⟨#[]⟩) ∧ v.cell? ⟨P + 1, 6, none⟩ = some (.int .i64 0)) := Lib.hid fun v hv => HcX.out v (by rw [hV0] at hv; exact after (Below.refl _ _).drew hv)
      have HB0 : Hid (Below w.heap.size w V0) := Lib.hid (by rw [hV0]; exact after HBW.out (Below.refl _ _).drew)
      have HV0 := Lib.hid hV0.symm
      have G0 : Hid (Below V0.heap.size V0 V0) := Lib.hid (Below.refl _ _)
      clear hV0
      refine wp_region_held_drew (S := fun v => v.cell? ⟨B, 0, none⟩ = some (.int .i64 i.op) ∧ v.cell? ⟨B, 1, none⟩ = some (.int .i64 i.d) ∧ v.cell? ⟨B, 2, none⟩ = some (.int .i64 i.n) ∧ v.cell? ⟨B, 3, none⟩ = some (.int .i64 i.m) ∧ v.cell? ⟨B, 4, none⟩ = some (.int .i64 i.a) ∧ v.cell? ⟨B, 5, none⟩ = some (.int .i64 i.imm) ∧ v.cell? ⟨B, 6, none⟩ = some (.int .u64 i.mask) ∧ v.cell? ⟨B, 7, none⟩ = some (.int .i64 i.shift) ∧ v.cell? ⟨B, 8, none⟩ = some (.int .i64 i.amount) ∧ v.cell? ⟨B, 9, none⟩ = some (.int .i64 i.cond) ∧ v.cell? ⟨P, 0, none⟩ = some (.int .i64 2) ∧ v.cell? ⟨P, 1, none⟩ = some (.int .i64 0) ∧ v.cell? ⟨P, 2, none⟩ = some (.bool false) ∧ v.cell? ⟨P, 3, none⟩ = some (.bool (decide (i.imm < 0))) ∧ v.cell? ⟨P, 4, none⟩ = some (.int .u64 (farS i.imm)) ∧ v.cell? ⟨P, 5, none⟩ = some (.string ⟨#[]⟩) ∧ v.cell? ⟨P, 6, none⟩ = some (.int .i64 0) ∧ v.cell? ⟨P + 1, 0, none⟩ = some (.int .i64 7) ∧ v.cell? ⟨P + 1, 1, none⟩ = some (.int .i64 i.shift) ∧ v.cell? ⟨P + 1, 2, none⟩ = some (.bool false) ∧ v.cell? ⟨P + 1, 3, none⟩ = some (.bool false) ∧ v.cell? ⟨P + 1, 4, none⟩ = some (.int .u64 i.amount) ∧ v.cell? ⟨P + 1, 5, none⟩ = some (.string ⟨#[]⟩) ∧ v.cell? ⟨P + 1, 6, none⟩ = some (.int .i64 0)) (by kernel_rfl) (by rw [HV0.out]; exact HcV.out _ G0.out) (fun hHeld => ?_)
      rw [HV0.out]
      have hHeld0 := HcV.out _ G0.out
      clear hHeld
      refine tk 0 ?_ rfl hHeld0 ?_ ?_
      rotate_left 1
      · intro w hS; obtain ⟨_, _, _, _, _, _, _, _, _, _, _, _, _, _, _, _, _, _, _, _, _, _, _, _⟩ := hS; go_simp; (try with_reducible rfl)
      (try simp only [Act.put, List.setIfInBounds_toArray, List.set_cons_zero, List.set_cons_succ])
      refine tk 1 ?_ rfl hHeld0 ?_ ?_
      rotate_left 1
      · intro w hS; obtain ⟨_, _, _, _, _, _, _, _, _, _, _, _, _, _, _, _, _, _, _, _, _, _, _, _⟩ := hS; go_simp; (try with_reducible rfl)
      (try simp only [Act.put, List.setIfInBounds_toArray, List.set_cons_zero, List.set_cons_succ])
      refine tk 2 ?_ rfl hHeld0 ?_ ?_
      rotate_left 1
      · intro w hS; obtain ⟨_, _, _, _, _, _, _, _, _, _, _, _, _, _, _, _, _, _, _, _, _, _, _, _⟩ := hS; go_simp; (try with_reducible rfl)
      (try simp only [Act.put, List.setIfInBounds_toArray, List.set_cons_zero, List.set_cons_succ])
      refine tk 3 ?_ rfl hHeld0 ?_ ?_
      rotate_left 1
      · intro w hS; obtain ⟨_, _, _, _, _, _, _, _, _, _, _, _, _, _, _, _, _, _, _, _, _, _, _, _⟩ := hS; go_simp; (try with_reducible rfl)
      (try simp only [Act.put, List.setIfInBounds_toArray, List.set_cons_zero, List.set_cons_succ])
      refine tk 4 ?_ rfl hHeld0 ?_ ?_
      rotate_left 1
      · intro w hS; obtain ⟨_, _, _, _, _, _, _, _, _, _, _, _, _, _, _, _, _, _, _, _, _, _, _, _⟩ := hS; go_simp; (try with_reducible rfl)
      (try simp only [Act.put, List.setIfInBounds_toArray, List.set_cons_zero, List.set_cons_succ])
      refine tk 6 ?_ rfl hHeld0 ?_ ?_
      rotate_left 1
      · intro w hS; obtain ⟨_, _, _, _, _, _, _, _, _, _, _, _, _, _, _, _, _, _, _, _, _, _, _, _⟩ := hS; go_simp; (try with_reducible rfl)
      (try simp only [Act.put, List.setIfInBounds_toArray, List.set_cons_zero, List.set_cons_succ])
      refine tk 7 ?_ rfl hHeld0 ?_ ?_
      rotate_left 1
      · intro w hS; obtain ⟨_, _, _, _, _, _, _, _, _, _, _, _, _, _, _, _, _, _, _, _, _, _, _, _⟩ := hS; go_simp; (try with_reducible rfl)
      (try simp only [Act.put, List.setIfInBounds_toArray, List.set_cons_zero, List.set_cons_succ])
      refine tk 8 ?_ rfl hHeld0 ?_ ?_
      rotate_left 1
      · intro w hS; obtain ⟨_, _, _, _, _, _, _, _, _, _, _, _, _, _, _, _, _, _, _, _, _, _, _, _⟩ := hS; go_simp; (try with_reducible rfl)
      (try simp only [Act.put, List.setIfInBounds_toArray, List.set_cons_zero, List.set_cons_succ])
      refine tk 10 ?_ rfl hHeld0 ?_ ?_
      rotate_left 1
      · intro w hS; obtain ⟨_, _, _, _, _, _, _, _, _, _, _, _, _, _, _, _, _, _, _, _, _, _, _, _⟩ := hS; go_simp; (try with_reducible rfl)
      (try simp only [Act.put, List.setIfInBounds_toArray, List.set_cons_zero, List.set_cons_succ])
      refine tk 11 ?_ rfl hHeld0 ?_ ?_
      rotate_left 1
      · intro w hS; obtain ⟨_, _, _, _, _, _, _, _, _, _, _, _, _, _, _, _, _, _, _, _, _, _, _, _⟩ := hS; go_simp; (try with_reducible rfl)
      (try simp only [Act.put, List.setIfInBounds_toArray, List.set_cons_zero, List.set_cons_succ])
      refine tk 12 ?_ rfl hHeld0 ?_ ?_
      rotate_left 1
      · intro w hS; obtain ⟨_, _, _, _, _, _, _, _, _, _, _, _, _, _, _, _, _, _, _, _, _, _, _, _⟩ := hS; go_simp; (try with_reducible rfl)
      (try simp only [Act.put, List.setIfInBounds_toArray, List.set_cons_zero, List.set_cons_succ])
      refine rd 5 rfl (fun K hK => ?_)
      go_simp
      go_wp2_with (go_at_call 12; refine (reg1_any _ _ _).mono ?_; rintro e v1 ⟨rfl, hb1⟩)
      have G1 := Lib.hid (after G0.out hb1)
      clear hb1
      refine hK.out _ _ (HcV.out _ G1.out) (fun hHeld1 => ?_)
      clear hK K
      refine rd 9 rfl (fun K hK => ?_)
      go_simp
      go_wp2_with (go_at_call 12; refine (reg1_any _ _ _).mono ?_; rintro e v2 ⟨rfl, hb2⟩)
      have G2 := Lib.hid (after G1.out hb2)
      clear hb2
      refine hK.out _ _ (HcV.out _ G2.out) (fun hHeld2 => ?_)
      clear hK K
      refine rd 13 rfl (fun K hK => ?_)
      go_simp
      generalize hVs : World.alloc _ _ = Vs
      have hbs : Below v2.heap.size v2 Vs := by rw [← hVs]; exact (Below.refl _ _).alloc (Nat.le_refl _) _
      have hsz : Vs.heap.size = v2.heap.size + 1 := by rw [← hVs]; exact World.size_alloc _ _
      have hsl : SL poC 7 Vs (v2.heap.size + 1) (some ⟨v2.heap.size, 0, none⟩) 3 [regO i.d false, regO i.n false, maskO i.mask] := by rw [← hVs]; exact SL.lit v2 _ [regO i.d false, regO i.n false, maskO i.mask] po_len (by decide) _ (by first | rfl | simp [poC, regO, immO, shO, maskO, memO, cdO]) _ rfl
      rw [← hsz] at hsl
      have GS := Lib.hid (after G2.out hbs)
      refine hK.out _ _ (HcV.out _ GS.out) (fun hHeldS => ?_)
      clear hK K
      obtain ⟨a', c', Va, happ, hsa, hba⟩ := app_po (c := 3) hsl (by decide) 22
      have HAp := Lib.hid happ
      have HSa := Lib.hid hsa
      have GA := Lib.hid (after GS.out hba)
      clear hsl happ hsa hba hbs hsz hVs
      generalize v2.heap.size = bi at *
      refine rd 14 rfl (fun K hK => ?_)
      refine step_run rfl _ _ 22 rfl _ _ (by rfl) (by rfl) HAp.out ?_
      refine hK.out _ _ (HcV.out _ GA.out) (fun hHeldA => ?_)
      clear hK K
      refine rd 15 rfl (fun K hK => ?_)
      go_simp
      refine hK.out _ _ (HcV.out _ GA.out) (fun hHeldB => ?_)
      clear hK K
      refine wpAnyH_done (by kernel_rfl) ?_ _
      have HBA : Hid (Below w.heap.size w Va) := Lib.hid (after HB0.out GA.out)
      have HTL : Hid (toldL i = [regO i.d false, regO i.n false, maskO i.mask]) := Lib.hid (by unfold toldL; simp [hs, ← HSb.out])
      have HMk : Hid (Calls Tryz.prog 8 #[.string N, .slice a' 3 c'] Va (RetB (mkV (i, ndZ, 0)) Va)) := Lib.hid (by
        have := HMake.out N Va a' c' (HNt.out (by rw [hs]; decide)) (HNs.out) HBA.out (by rw [HTL.out]; exact HSa.out)
        rw [HTL.out] at this
        exact this)
      clear HMake HNs HNt HTL HSa
      go_wp2_with fail
      refine HMk.out.mono ?_
      rintro e u5 ⟨rfl, hb⟩
      have HB5 := Lib.hid (after HBA.out hb)
      have G5 := Lib.hid (after GA.out hb)
      clear hb HMk
      obtain ⟨X, hX⟩ : ∃ X, X = u5.heap.size := ⟨_, rfl⟩
      obtain ⟨U, hU⟩ : ∃ U, U = (u5.alloc (.cells (inC i) 26)).alloc (.cells (ndA ndZ) 28) := ⟨_, rfl⟩
      have s1 : (u5.alloc (.cells (inC i) 26)).heap.size = u5.heap.size + 1 := World.size_alloc _ _
      have b1 : Below u5.heap.size u5 (u5.alloc (.cells (inC i) 26)) := (Below.refl _ _).alloc (Nat.le_refl _) _
      have b2 : Below (u5.alloc (.cells (inC i) 26)).heap.size (u5.alloc (.cells (inC i) 26)) U := by rw [hU]; exact (Below.refl _ _).alloc (Nat.le_refl _) _
      have b3 := after b1 b2
      have HB6 := Lib.hid (after HB5.out b3)
      have G6 := Lib.hid (after G5.out b3)
      have HR6 : Hid (RB U X (inC i) 26) := Lib.hid (by rw [hX]; exact RB.next (MapKept.heap_alloc u5 _).1 b2)
      have HS6 : Hid (RB U (X + 1) (ndA ndZ) 28) := Lib.hid (by
        have := (MapKept.heap_alloc (u5.alloc (.cells (inC i) 26)) (.cells (ndA ndZ) 28)).1
        rw [s1, ← hX, ← hU] at this
        exact this)
      have HUe := Lib.hid hU.symm
      have HXe := Lib.hid hX.symm
      clear hU hX s1 b1 b2 b3
      go_wp2_with fail
      rw [HUe.out, HXe.out]
      refine (HM.out _ HB6.out).mono ?_
      rintro e u7 ⟨rfl, hb⟩
      have HB7 := Lib.hid (after HB6.out hb)
      obtain ⟨x0, x1, x2, x3, x4, x5, x6, x7, x8, x9, -⟩ := ten_cells (HR6.out.next hb)
      obtain ⟨y0, y1, y2, y3, y4, -⟩ := five_cells (HS6.out.next hb)
      obtain ⟨z0, z1, z2, z3, z4, z5, z6, z7, z8, z9, -⟩ := HcV.out _ (after G6.out hb)
      have hei := eqI i
      clear hb
      go_wp2
      go_ret
      exact ⟨rfl, HB7.out⟩
    · go_wp2_with fail
      refine (HOf.out _).mono ?_
      rintro e w' ⟨rfl, rfl⟩
      go_wp2_with fail
      rw [HWe.out, HPe.out]
      refine (HSh.out _ HBW.out).mono ?_
      rintro e w' ⟨rfl, rfl⟩
      rw [hs]
      go_wp2_with fail
      obtain ⟨V0, hV0⟩ : ∃ x, x = W.drew := ⟨_, rfl⟩
      have HcV : Hid (∀ v, Below V0.heap.size V0 v → v.cell? ⟨B, 0, none⟩ = some (.int .i64 i.op) ∧ v.cell? ⟨B, 1, none⟩ = some (.int .i64 i.d) ∧ v.cell? ⟨B, 2, none⟩ = some (.int .i64 i.n) ∧ v.cell? ⟨B, 3, none⟩ = some (.int .i64 i.m) ∧ v.cell? ⟨B, 4, none⟩ = some (.int .i64 i.a) ∧ v.cell? ⟨B, 5, none⟩ = some (.int .i64 i.imm) ∧ v.cell? ⟨B, 6, none⟩ = some (.int .u64 i.mask) ∧ v.cell? ⟨B, 7, none⟩ = some (.int .i64 i.shift) ∧ v.cell? ⟨B, 8, none⟩ = some (.int .i64 i.amount) ∧ v.cell? ⟨B, 9, none⟩ = some (.int .i64 i.cond) ∧ v.cell? ⟨P, 0, none⟩ = some (.int .i64 2) ∧ v.cell? ⟨P, 1, none⟩ = some (.int .i64 0) ∧ v.cell? ⟨P, 2, none⟩ = some (.bool false) ∧ v.cell? ⟨P, 3, none⟩ = some (.bool (decide (i.imm < 0))) ∧ v.cell? ⟨P, 4, none⟩ = some (.int .u64 (farS i.imm)) ∧ v.cell? ⟨P, 5, none⟩ = some (.string ⟨#[]⟩) ∧ v.cell? ⟨P, 6, none⟩ = some (.int .i64 0) ∧ v.cell? ⟨P + 1, 0, none⟩ = some (.int .i64 7) ∧ v.cell? ⟨P + 1, 1, none⟩ = some (.int .i64 i.shift) ∧ v.cell? ⟨P + 1, 2, none⟩ = some (.bool false) ∧ v.cell? ⟨P + 1, 3, none⟩ = some (.bool false) ∧ v.cell? ⟨P + 1, 4, none⟩ = some (.int .u64 i.amount) ∧ v.cell? ⟨P + 1, 5, none⟩ = some (.string ⟨#[]⟩) ∧ v.cell? ⟨P + 1, 6, none⟩ = some (.int .i64 0)) := Lib.hid fun v hv => HcX.out v (by rw [hV0] at hv; exact after (Below.refl _ _).drew hv)
      have HB0 : Hid (Below w.heap.size w V0) := Lib.hid (by rw [hV0]; exact after HBW.out (Below.refl _ _).drew)
      have HV0 := Lib.hid hV0.symm
      have G0 : Hid (Below V0.heap.size V0 V0) := Lib.hid (Below.refl _ _)
      clear hV0
      refine wp_region_held_drew (S := fun v => v.cell? ⟨B, 0, none⟩ = some (.int .i64 i.op) ∧ v.cell? ⟨B, 1, none⟩ = some (.int .i64 i.d) ∧ v.cell? ⟨B, 2, none⟩ = some (.int .i64 i.n) ∧ v.cell? ⟨B, 3, none⟩ = some (.int .i64 i.m) ∧ v.cell? ⟨B, 4, none⟩ = some (.int .i64 i.a) ∧ v.cell? ⟨B, 5, none⟩ = some (.int .i64 i.imm) ∧ v.cell? ⟨B, 6, none⟩ = some (.int .u64 i.mask) ∧ v.cell? ⟨B, 7, none⟩ = some (.int .i64 i.shift) ∧ v.cell? ⟨B, 8, none⟩ = some (.int .i64 i.amount) ∧ v.cell? ⟨B, 9, none⟩ = some (.int .i64 i.cond) ∧ v.cell? ⟨P, 0, none⟩ = some (.int .i64 2) ∧ v.cell? ⟨P, 1, none⟩ = some (.int .i64 0) ∧ v.cell? ⟨P, 2, none⟩ = some (.bool false) ∧ v.cell? ⟨P, 3, none⟩ = some (.bool (decide (i.imm < 0))) ∧ v.cell? ⟨P, 4, none⟩ = some (.int .u64 (farS i.imm)) ∧ v.cell? ⟨P, 5, none⟩ = some (.string ⟨#[]⟩) ∧ v.cell? ⟨P, 6, none⟩ = some (.int .i64 0) ∧ v.cell? ⟨P + 1, 0, none⟩ = some (.int .i64 7) ∧ v.cell? ⟨P + 1, 1, none⟩ = some (.int .i64 i.shift) ∧ v.cell? ⟨P + 1, 2, none⟩ = some (.bool false) ∧ v.cell? ⟨P + 1, 3, none⟩ = some (.bool false) ∧ v.cell? ⟨P + 1, 4, none⟩ = some (.int .u64 i.amount) ∧ v.cell? ⟨P + 1, 5, none⟩ = some (.string ⟨#[]⟩) ∧ v.cell? ⟨P + 1, 6, none⟩ = some (.int .i64 0)) (by kernel_rfl) (by rw [HV0.out]; exact HcV.out _ G0.out) (fun hHeld => ?_)
      rw [HV0.out]
      have hHeld0 := HcV.out _ G0.out
      clear hHeld
      refine tk 0 ?_ rfl hHeld0 ?_ ?_
      rotate_left 1
      · intro w hS; obtain ⟨_, _, _, _, _, _, _, _, _, _, _, _, _, _, _, _, _, _, _, _, _, _, _, _⟩ := hS; go_simp; (try with_reducible rfl)
      (try simp only [Act.put, List.setIfInBounds_toArray, List.set_cons_zero, List.set_cons_succ])
      refine tk 1 ?_ rfl hHeld0 ?_ ?_
      rotate_left 1
      · intro w hS; obtain ⟨_, _, _, _, _, _, _, _, _, _, _, _, _, _, _, _, _, _, _, _, _, _, _, _⟩ := hS; go_simp; (try with_reducible rfl)
      (try simp only [Act.put, List.setIfInBounds_toArray, List.set_cons_zero, List.set_cons_succ])
      refine tk 2 ?_ rfl hHeld0 ?_ ?_
      rotate_left 1
      · intro w hS; obtain ⟨_, _, _, _, _, _, _, _, _, _, _, _, _, _, _, _, _, _, _, _, _, _, _, _⟩ := hS; go_simp; (try with_reducible rfl)
      (try simp only [Act.put, List.setIfInBounds_toArray, List.set_cons_zero, List.set_cons_succ])
      refine tk 3 ?_ rfl hHeld0 ?_ ?_
      rotate_left 1
      · intro w hS; obtain ⟨_, _, _, _, _, _, _, _, _, _, _, _, _, _, _, _, _, _, _, _, _, _, _, _⟩ := hS; go_simp; (try with_reducible rfl)
      (try simp only [Act.put, List.setIfInBounds_toArray, List.set_cons_zero, List.set_cons_succ])
      refine tk 5 ?_ rfl hHeld0 ?_ ?_
      rotate_left 1
      · intro w hS; obtain ⟨_, _, _, _, _, _, _, _, _, _, _, _, _, _, _, _, _, _, _, _, _, _, _, _⟩ := hS; go_simp; (try with_reducible rfl)
      (try simp only [Act.put, List.setIfInBounds_toArray, List.set_cons_zero, List.set_cons_succ])
      refine tk 6 ?_ rfl hHeld0 ?_ ?_
      rotate_left 1
      · intro w hS; obtain ⟨_, _, _, _, _, _, _, _, _, _, _, _, _, _, _, _, _, _, _, _, _, _, _, _⟩ := hS; go_simp; (try with_reducible rfl)
      (try simp only [Act.put, List.setIfInBounds_toArray, List.set_cons_zero, List.set_cons_succ])
      refine tk 7 ?_ rfl hHeld0 ?_ ?_
      rotate_left 1
      · intro w hS; obtain ⟨_, _, _, _, _, _, _, _, _, _, _, _, _, _, _, _, _, _, _, _, _, _, _, _⟩ := hS; go_simp; (try with_reducible rfl)
      (try simp only [Act.put, List.setIfInBounds_toArray, List.set_cons_zero, List.set_cons_succ])
      refine tk 9 ?_ rfl hHeld0 ?_ ?_
      rotate_left 1
      · intro w hS; obtain ⟨_, _, _, _, _, _, _, _, _, _, _, _, _, _, _, _, _, _, _, _, _, _, _, _⟩ := hS; go_simp; (try with_reducible rfl)
      (try simp only [Act.put, List.setIfInBounds_toArray, List.set_cons_zero, List.set_cons_succ])
      refine tk 10 ?_ rfl hHeld0 ?_ ?_
      rotate_left 1
      · intro w hS; obtain ⟨_, _, _, _, _, _, _, _, _, _, _, _, _, _, _, _, _, _, _, _, _, _, _, _⟩ := hS; go_simp; (try with_reducible rfl)
      (try simp only [Act.put, List.setIfInBounds_toArray, List.set_cons_zero, List.set_cons_succ])
      refine tk 11 ?_ rfl hHeld0 ?_ ?_
      rotate_left 1
      · intro w hS; obtain ⟨_, _, _, _, _, _, _, _, _, _, _, _, _, _, _, _, _, _, _, _, _, _, _, _⟩ := hS; go_simp; (try with_reducible rfl)
      (try simp only [Act.put, List.setIfInBounds_toArray, List.set_cons_zero, List.set_cons_succ])
      refine tk 13 ?_ rfl hHeld0 ?_ ?_
      rotate_left 1
      · intro w hS; obtain ⟨_, _, _, _, _, _, _, _, _, _, _, _, _, _, _, _, _, _, _, _, _, _, _, _⟩ := hS; go_simp; (try with_reducible rfl)
      (try simp only [Act.put, List.setIfInBounds_toArray, List.set_cons_zero, List.set_cons_succ])
      refine rd 4 rfl (fun K hK => ?_)
      go_simp
      go_wp2_with (go_at_call 12; refine (reg1_any _ _ _).mono ?_; rintro e v1 ⟨rfl, hb1⟩)
      have G1 := Lib.hid (after G0.out hb1)
      clear hb1
      refine hK.out _ _ (HcV.out _ G1.out) (fun hHeld1 => ?_)
      clear hK K
      refine rd 8 rfl (fun K hK => ?_)
      go_simp
      go_wp2_with (go_at_call 12; refine (reg1_any _ _ _).mono ?_; rintro e v2 ⟨rfl, hb2⟩)
      have G2 := Lib.hid (after G1.out hb2)
      clear hb2
      refine hK.out _ _ (HcV.out _ G2.out) (fun hHeld2 => ?_)
      clear hK K
      refine rd 12 rfl (fun K hK => ?_)
      go_simp
      go_wp2_with (go_at_call 12; refine (reg1_any _ _ _).mono ?_; rintro e v3 ⟨rfl, hb3⟩)
      have G3 := Lib.hid (after G2.out hb3)
      clear hb3
      refine hK.out _ _ (HcV.out _ G3.out) (fun hHeld3 => ?_)
      clear hK K
      refine rd 14 rfl (fun K hK => ?_)
      go_simp
      generalize hVs : World.alloc _ _ = Vs
      have hbs : Below v3.heap.size v3 Vs := by rw [← hVs]; exact (Below.refl _ _).alloc (Nat.le_refl _) _
      have hsz : Vs.heap.size = v3.heap.size + 1 := by rw [← hVs]; exact World.size_alloc _ _
      have hsl : SL poC 7 Vs (v3.heap.size + 1) (some ⟨v3.heap.size, 0, none⟩) 4 [regO i.d false, regO i.n false, regO i.m false, shO i.shift i.amount] := by rw [← hVs]; exact SL.lit v3 _ [regO i.d false, regO i.n false, regO i.m false, shO i.shift i.amount] po_len (by decide) _ (by first | rfl | simp [poC, regO, immO, shO, maskO, memO, cdO]) _ rfl
      rw [← hsz] at hsl
      have GS := Lib.hid (after G3.out hbs)
      refine hK.out _ _ (HcV.out _ GS.out) (fun hHeldS => ?_)
      clear hK K
      obtain ⟨a', c', Va, happ, hsa, hba⟩ := app_po (c := 4) hsl (by decide) 22
      have HAp := Lib.hid happ
      have HSa := Lib.hid hsa
      have GA := Lib.hid (after GS.out hba)
      clear hsl happ hsa hba hbs hsz hVs
      generalize v3.heap.size = bi at *
      refine rd 15 rfl (fun K hK => ?_)
      refine step_run rfl _ _ 22 rfl _ _ (by rfl) (by rfl) HAp.out ?_
      refine hK.out _ _ (HcV.out _ GA.out) (fun hHeldA => ?_)
      clear hK K
      refine rd 16 rfl (fun K hK => ?_)
      go_simp
      refine hK.out _ _ (HcV.out _ GA.out) (fun hHeldB => ?_)
      clear hK K
      refine wpAnyH_done (by kernel_rfl) ?_ _
      have HBA : Hid (Below w.heap.size w Va) := Lib.hid (after HB0.out GA.out)
      have HTL : Hid (toldL i = [regO i.d false, regO i.n false, regO i.m false, shO i.shift i.amount]) := Lib.hid (by unfold toldL; simp [hs, ← HSb.out])
      have HMk : Hid (Calls Tryz.prog 8 #[.string N, .slice a' 4 c'] Va (RetB (mkV (i, ndZ, 0)) Va)) := Lib.hid (by
        have := HMake.out N Va a' c' (HNt.out (by rw [hs]; decide)) (HNs.out) HBA.out (by rw [HTL.out]; exact HSa.out)
        rw [HTL.out] at this
        exact this)
      clear HMake HNs HNt HTL HSa
      go_wp2_with fail
      refine HMk.out.mono ?_
      rintro e u5 ⟨rfl, hb⟩
      have HB5 := Lib.hid (after HBA.out hb)
      have G5 := Lib.hid (after GA.out hb)
      clear hb HMk
      obtain ⟨X, hX⟩ : ∃ X, X = u5.heap.size := ⟨_, rfl⟩
      obtain ⟨U, hU⟩ : ∃ U, U = (u5.alloc (.cells (inC i) 26)).alloc (.cells (ndA ndZ) 28) := ⟨_, rfl⟩
      have s1 : (u5.alloc (.cells (inC i) 26)).heap.size = u5.heap.size + 1 := World.size_alloc _ _
      have b1 : Below u5.heap.size u5 (u5.alloc (.cells (inC i) 26)) := (Below.refl _ _).alloc (Nat.le_refl _) _
      have b2 : Below (u5.alloc (.cells (inC i) 26)).heap.size (u5.alloc (.cells (inC i) 26)) U := by rw [hU]; exact (Below.refl _ _).alloc (Nat.le_refl _) _
      have b3 := after b1 b2
      have HB6 := Lib.hid (after HB5.out b3)
      have G6 := Lib.hid (after G5.out b3)
      have HR6 : Hid (RB U X (inC i) 26) := Lib.hid (by rw [hX]; exact RB.next (MapKept.heap_alloc u5 _).1 b2)
      have HS6 : Hid (RB U (X + 1) (ndA ndZ) 28) := Lib.hid (by
        have := (MapKept.heap_alloc (u5.alloc (.cells (inC i) 26)) (.cells (ndA ndZ) 28)).1
        rw [s1, ← hX, ← hU] at this
        exact this)
      have HUe := Lib.hid hU.symm
      have HXe := Lib.hid hX.symm
      clear hU hX s1 b1 b2 b3
      go_wp2_with fail
      rw [HUe.out, HXe.out]
      refine (HM.out _ HB6.out).mono ?_
      rintro e u7 ⟨rfl, hb⟩
      have HB7 := Lib.hid (after HB6.out hb)
      obtain ⟨x0, x1, x2, x3, x4, x5, x6, x7, x8, x9, -⟩ := ten_cells (HR6.out.next hb)
      obtain ⟨y0, y1, y2, y3, y4, -⟩ := five_cells (HS6.out.next hb)
      obtain ⟨z0, z1, z2, z3, z4, z5, z6, z7, z8, z9, -⟩ := HcV.out _ (after G6.out hb)
      have hei := eqI i
      clear hb
      go_wp2
      go_ret
      exact ⟨rfl, HB7.out⟩
    · go_wp2_with fail
      refine (HOf.out _).mono ?_
      rintro e w' ⟨rfl, rfl⟩
      go_wp2_with fail
      rw [HWe.out, HPe.out]
      refine (HSh.out _ HBW.out).mono ?_
      rintro e w' ⟨rfl, rfl⟩
      rw [hs]
      go_wp2_with fail
      obtain ⟨V0, hV0⟩ : ∃ x, x = W.drew := ⟨_, rfl⟩
      have HcV : Hid (∀ v, Below V0.heap.size V0 v → v.cell? ⟨B, 0, none⟩ = some (.int .i64 i.op) ∧ v.cell? ⟨B, 1, none⟩ = some (.int .i64 i.d) ∧ v.cell? ⟨B, 2, none⟩ = some (.int .i64 i.n) ∧ v.cell? ⟨B, 3, none⟩ = some (.int .i64 i.m) ∧ v.cell? ⟨B, 4, none⟩ = some (.int .i64 i.a) ∧ v.cell? ⟨B, 5, none⟩ = some (.int .i64 i.imm) ∧ v.cell? ⟨B, 6, none⟩ = some (.int .u64 i.mask) ∧ v.cell? ⟨B, 7, none⟩ = some (.int .i64 i.shift) ∧ v.cell? ⟨B, 8, none⟩ = some (.int .i64 i.amount) ∧ v.cell? ⟨B, 9, none⟩ = some (.int .i64 i.cond) ∧ v.cell? ⟨P, 0, none⟩ = some (.int .i64 2) ∧ v.cell? ⟨P, 1, none⟩ = some (.int .i64 0) ∧ v.cell? ⟨P, 2, none⟩ = some (.bool false) ∧ v.cell? ⟨P, 3, none⟩ = some (.bool (decide (i.imm < 0))) ∧ v.cell? ⟨P, 4, none⟩ = some (.int .u64 (farS i.imm)) ∧ v.cell? ⟨P, 5, none⟩ = some (.string ⟨#[]⟩) ∧ v.cell? ⟨P, 6, none⟩ = some (.int .i64 0) ∧ v.cell? ⟨P + 1, 0, none⟩ = some (.int .i64 7) ∧ v.cell? ⟨P + 1, 1, none⟩ = some (.int .i64 i.shift) ∧ v.cell? ⟨P + 1, 2, none⟩ = some (.bool false) ∧ v.cell? ⟨P + 1, 3, none⟩ = some (.bool false) ∧ v.cell? ⟨P + 1, 4, none⟩ = some (.int .u64 i.amount) ∧ v.cell? ⟨P + 1, 5, none⟩ = some (.string ⟨#[]⟩) ∧ v.cell? ⟨P + 1, 6, none⟩ = some (.int .i64 0)) := Lib.hid fun v hv => HcX.out v (by rw [hV0] at hv; exact after (Below.refl _ _).drew hv)
      have HB0 : Hid (Below w.heap.size w V0) := Lib.hid (by rw [hV0]; exact after HBW.out (Below.refl _ _).drew)
      have HV0 := Lib.hid hV0.symm
      have G0 : Hid (Below V0.heap.size V0 V0) := Lib.hid (Below.refl _ _)
      clear hV0
      refine wp_region_held_drew (S := fun v => v.cell? ⟨B, 0, none⟩ = some (.int .i64 i.op) ∧ v.cell? ⟨B, 1, none⟩ = some (.int .i64 i.d) ∧ v.cell? ⟨B, 2, none⟩ = some (.int .i64 i.n) ∧ v.cell? ⟨B, 3, none⟩ = some (.int .i64 i.m) ∧ v.cell? ⟨B, 4, none⟩ = some (.int .i64 i.a) ∧ v.cell? ⟨B, 5, none⟩ = some (.int .i64 i.imm) ∧ v.cell? ⟨B, 6, none⟩ = some (.int .u64 i.mask) ∧ v.cell? ⟨B, 7, none⟩ = some (.int .i64 i.shift) ∧ v.cell? ⟨B, 8, none⟩ = some (.int .i64 i.amount) ∧ v.cell? ⟨B, 9, none⟩ = some (.int .i64 i.cond) ∧ v.cell? ⟨P, 0, none⟩ = some (.int .i64 2) ∧ v.cell? ⟨P, 1, none⟩ = some (.int .i64 0) ∧ v.cell? ⟨P, 2, none⟩ = some (.bool false) ∧ v.cell? ⟨P, 3, none⟩ = some (.bool (decide (i.imm < 0))) ∧ v.cell? ⟨P, 4, none⟩ = some (.int .u64 (farS i.imm)) ∧ v.cell? ⟨P, 5, none⟩ = some (.string ⟨#[]⟩) ∧ v.cell? ⟨P, 6, none⟩ = some (.int .i64 0) ∧ v.cell? ⟨P + 1, 0, none⟩ = some (.int .i64 7) ∧ v.cell? ⟨P + 1, 1, none⟩ = some (.int .i64 i.shift) ∧ v.cell? ⟨P + 1, 2, none⟩ = some (.bool false) ∧ v.cell? ⟨P + 1, 3, none⟩ = some (.bool false) ∧ v.cell? ⟨P + 1, 4, none⟩ = some (.int .u64 i.amount) ∧ v.cell? ⟨P + 1, 5, none⟩ = some (.string ⟨#[]⟩) ∧ v.cell? ⟨P + 1, 6, none⟩ = some (.int .i64 0)) (by kernel_rfl) (by rw [HV0.out]; exact HcV.out _ G0.out) (fun hHeld => ?_)
      rw [HV0.out]
      have hHeld0 := HcV.out _ G0.out
      clear hHeld
      refine tk 0 ?_ rfl hHeld0 ?_ ?_
      rotate_left 1
      · intro w hS; obtain ⟨_, _, _, _, _, _, _, _, _, _, _, _, _, _, _, _, _, _, _, _, _, _, _, _⟩ := hS; go_simp; (try with_reducible rfl)
      (try simp only [Act.put, List.setIfInBounds_toArray, List.set_cons_zero, List.set_cons_succ])
      refine tk 1 ?_ rfl hHeld0 ?_ ?_
      rotate_left 1
      · intro w hS; obtain ⟨_, _, _, _, _, _, _, _, _, _, _, _, _, _, _, _, _, _, _, _, _, _, _, _⟩ := hS; go_simp; (try with_reducible rfl)
      (try simp only [Act.put, List.setIfInBounds_toArray, List.set_cons_zero, List.set_cons_succ])
      refine tk 2 ?_ rfl hHeld0 ?_ ?_
      rotate_left 1
      · intro w hS; obtain ⟨_, _, _, _, _, _, _, _, _, _, _, _, _, _, _, _, _, _, _, _, _, _, _, _⟩ := hS; go_simp; (try with_reducible rfl)
      (try simp only [Act.put, List.setIfInBounds_toArray, List.set_cons_zero, List.set_cons_succ])
      refine tk 3 ?_ rfl hHeld0 ?_ ?_
      rotate_left 1
      · intro w hS; obtain ⟨_, _, _, _, _, _, _, _, _, _, _, _, _, _, _, _, _, _, _, _, _, _, _, _⟩ := hS; go_simp; (try with_reducible rfl)
      (try simp only [Act.put, List.setIfInBounds_toArray, List.set_cons_zero, List.set_cons_succ])
      refine tk 5 ?_ rfl hHeld0 ?_ ?_
      rotate_left 1
      · intro w hS; obtain ⟨_, _, _, _, _, _, _, _, _, _, _, _, _, _, _, _, _, _, _, _, _, _, _, _⟩ := hS; go_simp; (try with_reducible rfl)
      (try simp only [Act.put, List.setIfInBounds_toArray, List.set_cons_zero, List.set_cons_succ])
      refine tk 6 ?_ rfl hHeld0 ?_ ?_
      rotate_left 1
      · intro w hS; obtain ⟨_, _, _, _, _, _, _, _, _, _, _, _, _, _, _, _, _, _, _, _, _, _, _, _⟩ := hS; go_simp; (try with_reducible rfl)
      (try simp only [Act.put, List.setIfInBounds_toArray, List.set_cons_zero, List.set_cons_succ])
      refine tk 7 ?_ rfl hHeld0 ?_ ?_
      rotate_left 1
      · intro w hS; obtain ⟨_, _, _, _, _, _, _, _, _, _, _, _, _, _, _, _, _, _, _, _, _, _, _, _⟩ := hS; go_simp; (try with_reducible rfl)
      (try simp only [Act.put, List.setIfInBounds_toArray, List.set_cons_zero, List.set_cons_succ])
      refine tk 9 ?_ rfl hHeld0 ?_ ?_
      rotate_left 1
      · intro w hS; obtain ⟨_, _, _, _, _, _, _, _, _, _, _, _, _, _, _, _, _, _, _, _, _, _, _, _⟩ := hS; go_simp; (try with_reducible rfl)
      (try simp only [Act.put, List.setIfInBounds_toArray, List.set_cons_zero, List.set_cons_succ])
      refine tk 10 ?_ rfl hHeld0 ?_ ?_
      rotate_left 1
      · intro w hS; obtain ⟨_, _, _, _, _, _, _, _, _, _, _, _, _, _, _, _, _, _, _, _, _, _, _, _⟩ := hS; go_simp; (try with_reducible rfl)
      (try simp only [Act.put, List.setIfInBounds_toArray, List.set_cons_zero, List.set_cons_succ])
      refine tk 11 ?_ rfl hHeld0 ?_ ?_
      rotate_left 1
      · intro w hS; obtain ⟨_, _, _, _, _, _, _, _, _, _, _, _, _, _, _, _, _, _, _, _, _, _, _, _⟩ := hS; go_simp; (try with_reducible rfl)
      (try simp only [Act.put, List.setIfInBounds_toArray, List.set_cons_zero, List.set_cons_succ])
      refine tk 13 ?_ rfl hHeld0 ?_ ?_
      rotate_left 1
      · intro w hS; obtain ⟨_, _, _, _, _, _, _, _, _, _, _, _, _, _, _, _, _, _, _, _, _, _, _, _⟩ := hS; go_simp; (try with_reducible rfl)
      (try simp only [Act.put, List.setIfInBounds_toArray, List.set_cons_zero, List.set_cons_succ])
      refine rd 4 rfl (fun K hK => ?_)
      go_simp
      go_wp2_with (go_at_call 12; refine (reg1_any _ _ _).mono ?_; rintro e v1 ⟨rfl, hb1⟩)
      have G1 := Lib.hid (after G0.out hb1)
      clear hb1
      refine hK.out _ _ (HcV.out _ G1.out) (fun hHeld1 => ?_)
      clear hK K
      refine rd 8 rfl (fun K hK => ?_)
      go_simp
      go_wp2_with (go_at_call 12; refine (reg1_any _ _ _).mono ?_; rintro e v2 ⟨rfl, hb2⟩)
      have G2 := Lib.hid (after G1.out hb2)
      clear hb2
      refine hK.out _ _ (HcV.out _ G2.out) (fun hHeld2 => ?_)
      clear hK K
      refine rd 12 rfl (fun K hK => ?_)
      go_simp
      go_wp2_with (go_at_call 12; refine (reg1_any _ _ _).mono ?_; rintro e v3 ⟨rfl, hb3⟩)
      have G3 := Lib.hid (after G2.out hb3)
      clear hb3
      refine hK.out _ _ (HcV.out _ G3.out) (fun hHeld3 => ?_)
      clear hK K
      refine rd 14 rfl (fun K hK => ?_)
      go_simp
      generalize hVs : World.alloc _ _ = Vs
      have hbs : Below v3.heap.size v3 Vs := by rw [← hVs]; exact (Below.refl _ _).alloc (Nat.le_refl _) _
      have hsz : Vs.heap.size = v3.heap.size + 1 := by rw [← hVs]; exact World.size_alloc _ _
      have hsl : SL poC 7 Vs (v3.heap.size + 1) (some ⟨v3.heap.size, 0, none⟩) 4 [regO i.d false, regO i.n false, regO i.m false, shO i.shift i.amount] := by rw [← hVs]; exact SL.lit v3 _ [regO i.d false, regO i.n false, regO i.m false, shO i.shift i.amount] po_len (by decide) _ (by first | rfl | simp [poC, regO, immO, shO, maskO, memO, cdO]) _ rfl
      rw [← hsz] at hsl
      have GS := Lib.hid (after G3.out hbs)
      refine hK.out _ _ (HcV.out _ GS.out) (fun hHeldS => ?_)
      clear hK K
      obtain ⟨a', c', Va, happ, hsa, hba⟩ := app_po (c := 4) hsl (by decide) 22
      have HAp := Lib.hid happ
      have HSa := Lib.hid hsa
      have GA := Lib.hid (after GS.out hba)
      clear hsl happ hsa hba hbs hsz hVs
      generalize v3.heap.size = bi at *
      refine rd 15 rfl (fun K hK => ?_)
      refine step_run rfl _ _ 22 rfl _ _ (by rfl) (by rfl) HAp.out ?_
      refine hK.out _ _ (HcV.out _ GA.out) (fun hHeldA => ?_)
      clear hK K
      refine rd 16 rfl (fun K hK => ?_)
      go_simp
      refine hK.out _ _ (HcV.out _ GA.out) (fun hHeldB => ?_)
      clear hK K
      refine wpAnyH_done (by kernel_rfl) ?_ _
      have HBA : Hid (Below w.heap.size w Va) := Lib.hid (after HB0.out GA.out)
      have HTL : Hid (toldL i = [regO i.d false, regO i.n false, regO i.m false, shO i.shift i.amount]) := Lib.hid (by unfold toldL; simp [hs, ← HSb.out])
      have HMk : Hid (Calls Tryz.prog 8 #[.string N, .slice a' 4 c'] Va (RetB (mkV (i, ndZ, 0)) Va)) := Lib.hid (by
        have := HMake.out N Va a' c' (HNt.out (by rw [hs]; decide)) (HNs.out) HBA.out (by rw [HTL.out]; exact HSa.out)
        rw [HTL.out] at this
        exact this)
      clear HMake HNs HNt HTL HSa
      go_wp2_with fail
      refine HMk.out.mono ?_
      rintro e u5 ⟨rfl, hb⟩
      have HB5 := Lib.hid (after HBA.out hb)
      have G5 := Lib.hid (after GA.out hb)
      clear hb HMk
      obtain ⟨X, hX⟩ : ∃ X, X = u5.heap.size := ⟨_, rfl⟩
      obtain ⟨U, hU⟩ : ∃ U, U = (u5.alloc (.cells (inC i) 26)).alloc (.cells (ndA ndZ) 28) := ⟨_, rfl⟩
      have s1 : (u5.alloc (.cells (inC i) 26)).heap.size = u5.heap.size + 1 := World.size_alloc _ _
      have b1 : Below u5.heap.size u5 (u5.alloc (.cells (inC i) 26)) := (Below.refl _ _).alloc (Nat.le_refl _) _
      have b2 : Below (u5.alloc (.cells (inC i) 26)).heap.size (u5.alloc (.cells (inC i) 26)) U := by rw [hU]; exact (Below.refl _ _).alloc (Nat.le_refl _) _
      have b3 := after b1 b2
      have HB6 := Lib.hid (after HB5.out b3)
      have G6 := Lib.hid (after G5.out b3)
      have HR6 : Hid (RB U X (inC i) 26) := Lib.hid (by rw [hX]; exact RB.next (MapKept.heap_alloc u5 _).1 b2)
      have HS6 : Hid (RB U (X + 1) (ndA ndZ) 28) := Lib.hid (by
        have := (MapKept.heap_alloc (u5.alloc (.cells (inC i) 26)) (.cells (ndA ndZ) 28)).1
        rw [s1, ← hX, ← hU] at this
        exact this)
      have HUe := Lib.hid hU.symm
      have HXe := Lib.hid hX.symm
      clear hU hX s1 b1 b2 b3
      go_wp2_with fail
      rw [HUe.out, HXe.out]
      refine (HM.out _ HB6.out).mono ?_
      rintro e u7 ⟨rfl, hb⟩
      have HB7 := Lib.hid (after HB6.out hb)
      obtain ⟨x0, x1, x2, x3, x4, x5, x6, x7, x8, x9, -⟩ := ten_cells (HR6.out.next hb)
      obtain ⟨y0, y1, y2, y3, y4, -⟩ := five_cells (HS6.out.next hb)
      obtain ⟨z0, z1, z2, z3, z4, z5, z6, z7, z8, z9, -⟩ := HcV.out _ (after G6.out hb)
      have hei := eqI i
      clear hb
      go_wp2
      go_ret
      exact ⟨rfl, HB7.out⟩
    · go_wp2_with fail
      refine (HOf.out _).mono ?_
      rintro e w' ⟨rfl, rfl⟩
      go_wp2_with fail
      rw [HWe.out, HPe.out]
      refine (HSh.out _ HBW.out).mono ?_
      rintro e w' ⟨rfl, rfl⟩
      rw [hs]
      go_wp2_with fail
      obtain ⟨V0, hV0⟩ : ∃ x, x = W.drew := ⟨_, rfl⟩
      have HcV : Hid (∀ v, Below V0.heap.size V0 v → v.cell? ⟨B, 0, none⟩ = some (.int .i64 i.op) ∧ v.cell? ⟨B, 1, none⟩ = some (.int .i64 i.d) ∧ v.cell? ⟨B, 2, none⟩ = some (.int .i64 i.n) ∧ v.cell? ⟨B, 3, none⟩ = some (.int .i64 i.m) ∧ v.cell? ⟨B, 4, none⟩ = some (.int .i64 i.a) ∧ v.cell? ⟨B, 5, none⟩ = some (.int .i64 i.imm) ∧ v.cell? ⟨B, 6, none⟩ = some (.int .u64 i.mask) ∧ v.cell? ⟨B, 7, none⟩ = some (.int .i64 i.shift) ∧ v.cell? ⟨B, 8, none⟩ = some (.int .i64 i.amount) ∧ v.cell? ⟨B, 9, none⟩ = some (.int .i64 i.cond) ∧ v.cell? ⟨P, 0, none⟩ = some (.int .i64 2) ∧ v.cell? ⟨P, 1, none⟩ = some (.int .i64 0) ∧ v.cell? ⟨P, 2, none⟩ = some (.bool false) ∧ v.cell? ⟨P, 3, none⟩ = some (.bool (decide (i.imm < 0))) ∧ v.cell? ⟨P, 4, none⟩ = some (.int .u64 (farS i.imm)) ∧ v.cell? ⟨P, 5, none⟩ = some (.string ⟨#[]⟩) ∧ v.cell? ⟨P, 6, none⟩ = some (.int .i64 0) ∧ v.cell? ⟨P + 1, 0, none⟩ = some (.int .i64 7) ∧ v.cell? ⟨P + 1, 1, none⟩ = some (.int .i64 i.shift) ∧ v.cell? ⟨P + 1, 2, none⟩ = some (.bool false) ∧ v.cell? ⟨P + 1, 3, none⟩ = some (.bool false) ∧ v.cell? ⟨P + 1, 4, none⟩ = some (.int .u64 i.amount) ∧ v.cell? ⟨P + 1, 5, none⟩ = some (.string ⟨#[]⟩) ∧ v.cell? ⟨P + 1, 6, none⟩ = some (.int .i64 0)) := Lib.hid fun v hv => HcX.out v (by rw [hV0] at hv; exact after (Below.refl _ _).drew hv)
      have HB0 : Hid (Below w.heap.size w V0) := Lib.hid (by rw [hV0]; exact after HBW.out (Below.refl _ _).drew)
      have HV0 := Lib.hid hV0.symm
      have G0 : Hid (Below V0.heap.size V0 V0) := Lib.hid (Below.refl _ _)
      clear hV0
      refine wp_region_held_drew (S := fun v => v.cell? ⟨B, 0, none⟩ = some (.int .i64 i.op) ∧ v.cell? ⟨B, 1, none⟩ = some (.int .i64 i.d) ∧ v.cell? ⟨B, 2, none⟩ = some (.int .i64 i.n) ∧ v.cell? ⟨B, 3, none⟩ = some (.int .i64 i.m) ∧ v.cell? ⟨B, 4, none⟩ = some (.int .i64 i.a) ∧ v.cell? ⟨B, 5, none⟩ = some (.int .i64 i.imm) ∧ v.cell? ⟨B, 6, none⟩ = some (.int .u64 i.mask) ∧ v.cell? ⟨B, 7, none⟩ = some (.int .i64 i.shift) ∧ v.cell? ⟨B, 8, none⟩ = some (.int .i64 i.amount) ∧ v.cell? ⟨B, 9, none⟩ = some (.int .i64 i.cond) ∧ v.cell? ⟨P, 0, none⟩ = some (.int .i64 2) ∧ v.cell? ⟨P, 1, none⟩ = some (.int .i64 0) ∧ v.cell? ⟨P, 2, none⟩ = some (.bool false) ∧ v.cell? ⟨P, 3, none⟩ = some (.bool (decide (i.imm < 0))) ∧ v.cell? ⟨P, 4, none⟩ = some (.int .u64 (farS i.imm)) ∧ v.cell? ⟨P, 5, none⟩ = some (.string ⟨#[]⟩) ∧ v.cell? ⟨P, 6, none⟩ = some (.int .i64 0) ∧ v.cell? ⟨P + 1, 0, none⟩ = some (.int .i64 7) ∧ v.cell? ⟨P + 1, 1, none⟩ = some (.int .i64 i.shift) ∧ v.cell? ⟨P + 1, 2, none⟩ = some (.bool false) ∧ v.cell? ⟨P + 1, 3, none⟩ = some (.bool false) ∧ v.cell? ⟨P + 1, 4, none⟩ = some (.int .u64 i.amount) ∧ v.cell? ⟨P + 1, 5, none⟩ = some (.string ⟨#[]⟩) ∧ v.cell? ⟨P + 1, 6, none⟩ = some (.int .i64 0)) (by kernel_rfl) (by rw [HV0.out]; exact HcV.out _ G0.out) (fun hHeld => ?_)
      rw [HV0.out]
      have hHeld0 := HcV.out _ G0.out
      clear hHeld
      refine tk 0 ?_ rfl hHeld0 ?_ ?_
      rotate_left 1
      · intro w hS; obtain ⟨_, _, _, _, _, _, _, _, _, _, _, _, _, _, _, _, _, _, _, _, _, _, _, _⟩ := hS; go_simp; (try with_reducible rfl)
      (try simp only [Act.put, List.setIfInBounds_toArray, List.set_cons_zero, List.set_cons_succ])
      refine tk 1 ?_ rfl hHeld0 ?_ ?_
      rotate_left 1
      · intro w hS; obtain ⟨_, _, _, _, _, _, _, _, _, _, _, _, _, _, _, _, _, _, _, _, _, _, _, _⟩ := hS; go_simp; (try with_reducible rfl)
      (try simp only [Act.put, List.setIfInBounds_toArray, List.set_cons_zero, List.set_cons_succ])
      refine tk 2 ?_ rfl hHeld0 ?_ ?_
      rotate_left 1
      · intro w hS; obtain ⟨_, _, _, _, _, _, _, _, _, _, _, _, _, _, _, _, _, _, _, _, _, _, _, _⟩ := hS; go_simp; (try with_reducible rfl)
      (try simp only [Act.put, List.setIfInBounds_toArray, List.set_cons_zero, List.set_cons_succ])
      refine tk 3 ?_ rfl hHeld0 ?_ ?_
      rotate_left 1
      · intro w hS; obtain ⟨_, _, _, _, _, _, _, _, _, _, _, _, _, _, _, _, _, _, _, _, _, _, _, _⟩ := hS; go_simp; (try with_reducible rfl)
      (try simp only [Act.put, List.setIfInBounds_toArray, List.set_cons_zero, List.set_cons_succ])
      refine tk 5 ?_ rfl hHeld0 ?_ ?_
      rotate_left 1
      · intro w hS; obtain ⟨_, _, _, _, _, _, _, _, _, _, _, _, _, _, _, _, _, _, _, _, _, _, _, _⟩ := hS; go_simp; (try with_reducible rfl)
      (try simp only [Act.put, List.setIfInBounds_toArray, List.set_cons_zero, List.set_cons_succ])
      refine tk 6 ?_ rfl hHeld0 ?_ ?_
      rotate_left 1
      · intro w hS; obtain ⟨_, _, _, _, _, _, _, _, _, _, _, _, _, _, _, _, _, _, _, _, _, _, _, _⟩ := hS; go_simp; (try with_reducible rfl)
      (try simp only [Act.put, List.setIfInBounds_toArray, List.set_cons_zero, List.set_cons_succ])
      refine tk 7 ?_ rfl hHeld0 ?_ ?_
      rotate_left 1
      · intro w hS; obtain ⟨_, _, _, _, _, _, _, _, _, _, _, _, _, _, _, _, _, _, _, _, _, _, _, _⟩ := hS; go_simp; (try with_reducible rfl)
      (try simp only [Act.put, List.setIfInBounds_toArray, List.set_cons_zero, List.set_cons_succ])
      refine tk 9 ?_ rfl hHeld0 ?_ ?_
      rotate_left 1
      · intro w hS; obtain ⟨_, _, _, _, _, _, _, _, _, _, _, _, _, _, _, _, _, _, _, _, _, _, _, _⟩ := hS; go_simp; (try with_reducible rfl)
      (try simp only [Act.put, List.setIfInBounds_toArray, List.set_cons_zero, List.set_cons_succ])
      refine tk 10 ?_ rfl hHeld0 ?_ ?_
      rotate_left 1
      · intro w hS; obtain ⟨_, _, _, _, _, _, _, _, _, _, _, _, _, _, _, _, _, _, _, _, _, _, _, _⟩ := hS; go_simp; (try with_reducible rfl)
      (try simp only [Act.put, List.setIfInBounds_toArray, List.set_cons_zero, List.set_cons_succ])
      refine tk 11 ?_ rfl hHeld0 ?_ ?_
      rotate_left 1
      · intro w hS; obtain ⟨_, _, _, _, _, _, _, _, _, _, _, _, _, _, _, _, _, _, _, _, _, _, _, _⟩ := hS; go_simp; (try with_reducible rfl)
      (try simp only [Act.put, List.setIfInBounds_toArray, List.set_cons_zero, List.set_cons_succ])
      refine tk 13 ?_ rfl hHeld0 ?_ ?_
      rotate_left 1
      · intro w hS; obtain ⟨_, _, _, _, _, _, _, _, _, _, _, _, _, _, _, _, _, _, _, _, _, _, _, _⟩ := hS; go_simp; (try with_reducible rfl)
      (try simp only [Act.put, List.setIfInBounds_toArray, List.set_cons_zero, List.set_cons_succ])
      refine tk 14 ?_ rfl hHeld0 ?_ ?_
      rotate_left 1
      · intro w hS; obtain ⟨_, _, _, _, _, _, _, _, _, _, _, _, _, _, _, _, _, _, _, _, _, _, _, _⟩ := hS; go_simp; (try with_reducible rfl)
      (try simp only [Act.put, List.setIfInBounds_toArray, List.set_cons_zero, List.set_cons_succ])
      refine tk 15 ?_ rfl hHeld0 ?_ ?_
      rotate_left 1
      · intro w hS; obtain ⟨_, _, _, _, _, _, _, _, _, _, _, _, _, _, _, _, _, _, _, _, _, _, _, _⟩ := hS; go_simp; (try with_reducible rfl)
      (try simp only [Act.put, List.setIfInBounds_toArray, List.set_cons_zero, List.set_cons_succ])
      refine rd 4 rfl (fun K hK => ?_)
      go_simp
      go_wp2_with (go_at_call 12; refine (reg1_any _ _ _).mono ?_; rintro e v1 ⟨rfl, hb1⟩)
      have G1 := Lib.hid (after G0.out hb1)
      clear hb1
      refine hK.out _ _ (HcV.out _ G1.out) (fun hHeld1 => ?_)
      clear hK K
      refine rd 8 rfl (fun K hK => ?_)
      go_simp
      go_wp2_with (go_at_call 12; refine (reg1_any _ _ _).mono ?_; rintro e v2 ⟨rfl, hb2⟩)
      have G2 := Lib.hid (after G1.out hb2)
      clear hb2
      refine hK.out _ _ (HcV.out _ G2.out) (fun hHeld2 => ?_)
      clear hK K
      refine rd 12 rfl (fun K hK => ?_)
      go_simp
      go_wp2_with (go_at_call 12; refine (reg1_any _ _ _).mono ?_; rintro e v3 ⟨rfl, hb3⟩)
      have G3 := Lib.hid (after G2.out hb3)
      clear hb3
      refine hK.out _ _ (HcV.out _ G3.out) (fun hHeld3 => ?_)
      clear hK K
      refine rd 16 rfl (fun K hK => ?_)
      go_simp
      go_wp2_with (go_at_call 12; refine (reg1_any _ _ _).mono ?_; rintro e v4 ⟨rfl, hb4⟩)
      have G4 := Lib.hid (after G3.out hb4)
      clear hb4
      refine hK.out _ _ (HcV.out _ G4.out) (fun hHeld4 => ?_)
      clear hK K
      refine rd 17 rfl (fun K hK => ?_)
      go_simp
      generalize hVs : World.alloc _ _ = Vs
      have hbs : Below v4.heap.size v4 Vs := by rw [← hVs]; exact (Below.refl _ _).alloc (Nat.le_refl _) _
      have hsz : Vs.heap.size = v4.heap.size + 1 := by rw [← hVs]; exact World.size_alloc _ _
      have hsl : SL poC 7 Vs (v4.heap.size + 1) (some ⟨v4.heap.size, 0, none⟩) 4 [regO i.d false, regO i.n false, regO i.m false, regO i.a false] := by rw [← hVs]; exact SL.lit v4 _ [regO i.d false, regO i.n false, regO i.m false, regO i.a false] po_len (by decide) _ (by first | rfl | simp [poC, regO, immO, shO, maskO, memO, cdO]) _ rfl
      rw [← hsz] at hsl
      have GS := Lib.hid (after G4.out hbs)
      refine hK.out _ _ (HcV.out _ GS.out) (fun hHeldS => ?_)
      clear hK K
      obtain ⟨a', c', Va, happ, hsa, hba⟩ := app_po (c := 4) hsl (by decide) 22
      have HAp := Lib.hid happ
      have HSa := Lib.hid hsa
      have GA := Lib.hid (after GS.out hba)
      clear hsl happ hsa hba hbs hsz hVs
      generalize v4.heap.size = bi at *
      refine rd 18 rfl (fun K hK => ?_)
      refine step_run rfl _ _ 22 rfl _ _ (by rfl) (by rfl) HAp.out ?_
      refine hK.out _ _ (HcV.out _ GA.out) (fun hHeldA => ?_)
      clear hK K
      refine rd 19 rfl (fun K hK => ?_)
      go_simp
      refine hK.out _ _ (HcV.out _ GA.out) (fun hHeldB => ?_)
      clear hK K
      refine wpAnyH_done (by kernel_rfl) ?_ _
      have HBA : Hid (Below w.heap.size w Va) := Lib.hid (after HB0.out GA.out)
      have HTL : Hid (toldL i = [regO i.d false, regO i.n false, regO i.m false, regO i.a false]) := Lib.hid (by unfold toldL; simp [hs, ← HSb.out])
      have HMk : Hid (Calls Tryz.prog 8 #[.string N, .slice a' 4 c'] Va (RetB (mkV (i, ndZ, 0)) Va)) := Lib.hid (by
        have := HMake.out N Va a' c' (HNt.out (by rw [hs]; decide)) (HNs.out) HBA.out (by rw [HTL.out]; exact HSa.out)
        rw [HTL.out] at this
        exact this)
      clear HMake HNs HNt HTL HSa
      go_wp2_with fail
      refine HMk.out.mono ?_
      rintro e u5 ⟨rfl, hb⟩
      have HB5 := Lib.hid (after HBA.out hb)
      have G5 := Lib.hid (after GA.out hb)
      clear hb HMk
      obtain ⟨X, hX⟩ : ∃ X, X = u5.heap.size := ⟨_, rfl⟩
      obtain ⟨U, hU⟩ : ∃ U, U = (u5.alloc (.cells (inC i) 26)).alloc (.cells (ndA ndZ) 28) := ⟨_, rfl⟩
      have s1 : (u5.alloc (.cells (inC i) 26)).heap.size = u5.heap.size + 1 := World.size_alloc _ _
      have b1 : Below u5.heap.size u5 (u5.alloc (.cells (inC i) 26)) := (Below.refl _ _).alloc (Nat.le_refl _) _
      have b2 : Below (u5.alloc (.cells (inC i) 26)).heap.size (u5.alloc (.cells (inC i) 26)) U := by rw [hU]; exact (Below.refl _ _).alloc (Nat.le_refl _) _
      have b3 := after b1 b2
      have HB6 := Lib.hid (after HB5.out b3)
      have G6 := Lib.hid (after G5.out b3)
      have HR6 : Hid (RB U X (inC i) 26) := Lib.hid (by rw [hX]; exact RB.next (MapKept.heap_alloc u5 _).1 b2)
      have HS6 : Hid (RB U (X + 1) (ndA ndZ) 28) := Lib.hid (by
        have := (MapKept.heap_alloc (u5.alloc (.cells (inC i) 26)) (.cells (ndA ndZ) 28)).1
        rw [s1, ← hX, ← hU] at this
        exact this)
      have HUe := Lib.hid hU.symm
      have HXe := Lib.hid hX.symm
      clear hU hX s1 b1 b2 b3
      go_wp2_with fail
      rw [HUe.out, HXe.out]
      refine (HM.out _ HB6.out).mono ?_
      rintro e u7 ⟨rfl, hb⟩
      have HB7 := Lib.hid (after HB6.out hb)
      obtain ⟨x0, x1, x2, x3, x4, x5, x6, x7, x8, x9, -⟩ := ten_cells (HR6.out.next hb)
      obtain ⟨y0, y1, y2, y3, y4, -⟩ := five_cells (HS6.out.next hb)
      obtain ⟨z0, z1, z2, z3, z4, z5, z6, z7, z8, z9, -⟩ := HcV.out _ (after G6.out hb)
      have hei := eqI i
      clear hb
      go_wp2
      go_ret
      exact ⟨rfl, HB7.out⟩
    · go_wp2_with fail
      refine (HOf.out _).mono ?_
      rintro e w' ⟨rfl, rfl⟩
      go_wp2_with fail
      rw [HWe.out, HPe.out]
      refine (HSh.out _ HBW.out).mono ?_
      rintro e w' ⟨rfl, rfl⟩
      rw [hs]
      go_wp2_with fail
      obtain ⟨V0, hV0⟩ : ∃ x, x = W.drew := ⟨_, rfl⟩
      have HcV : Hid (∀ v, Below V0.heap.size V0 v → v.cell? ⟨B, 0, none⟩ = some (.int .i64 i.op) ∧ v.cell? ⟨B, 1, none⟩ = some (.int .i64 i.d) ∧ v.cell? ⟨B, 2, none⟩ = some (.int .i64 i.n) ∧ v.cell? ⟨B, 3, none⟩ = some (.int .i64 i.m) ∧ v.cell? ⟨B, 4, none⟩ = some (.int .i64 i.a) ∧ v.cell? ⟨B, 5, none⟩ = some (.int .i64 i.imm) ∧ v.cell? ⟨B, 6, none⟩ = some (.int .u64 i.mask) ∧ v.cell? ⟨B, 7, none⟩ = some (.int .i64 i.shift) ∧ v.cell? ⟨B, 8, none⟩ = some (.int .i64 i.amount) ∧ v.cell? ⟨B, 9, none⟩ = some (.int .i64 i.cond) ∧ v.cell? ⟨P, 0, none⟩ = some (.int .i64 2) ∧ v.cell? ⟨P, 1, none⟩ = some (.int .i64 0) ∧ v.cell? ⟨P, 2, none⟩ = some (.bool false) ∧ v.cell? ⟨P, 3, none⟩ = some (.bool (decide (i.imm < 0))) ∧ v.cell? ⟨P, 4, none⟩ = some (.int .u64 (farS i.imm)) ∧ v.cell? ⟨P, 5, none⟩ = some (.string ⟨#[]⟩) ∧ v.cell? ⟨P, 6, none⟩ = some (.int .i64 0) ∧ v.cell? ⟨P + 1, 0, none⟩ = some (.int .i64 7) ∧ v.cell? ⟨P + 1, 1, none⟩ = some (.int .i64 i.shift) ∧ v.cell? ⟨P + 1, 2, none⟩ = some (.bool false) ∧ v.cell? ⟨P + 1, 3, none⟩ = some (.bool false) ∧ v.cell? ⟨P + 1, 4, none⟩ = some (.int .u64 i.amount) ∧ v.cell? ⟨P + 1, 5, none⟩ = some (.string ⟨#[]⟩) ∧ v.cell? ⟨P + 1, 6, none⟩ = some (.int .i64 0)) := Lib.hid fun v hv => HcX.out v (by rw [hV0] at hv; exact after (Below.refl _ _).drew hv)
      have HB0 : Hid (Below w.heap.size w V0) := Lib.hid (by rw [hV0]; exact after HBW.out (Below.refl _ _).drew)
      have HV0 := Lib.hid hV0.symm
      have G0 : Hid (Below V0.heap.size V0 V0) := Lib.hid (Below.refl _ _)
      clear hV0
      refine wp_region_held_drew (S := fun v => v.cell? ⟨B, 0, none⟩ = some (.int .i64 i.op) ∧ v.cell? ⟨B, 1, none⟩ = some (.int .i64 i.d) ∧ v.cell? ⟨B, 2, none⟩ = some (.int .i64 i.n) ∧ v.cell? ⟨B, 3, none⟩ = some (.int .i64 i.m) ∧ v.cell? ⟨B, 4, none⟩ = some (.int .i64 i.a) ∧ v.cell? ⟨B, 5, none⟩ = some (.int .i64 i.imm) ∧ v.cell? ⟨B, 6, none⟩ = some (.int .u64 i.mask) ∧ v.cell? ⟨B, 7, none⟩ = some (.int .i64 i.shift) ∧ v.cell? ⟨B, 8, none⟩ = some (.int .i64 i.amount) ∧ v.cell? ⟨B, 9, none⟩ = some (.int .i64 i.cond) ∧ v.cell? ⟨P, 0, none⟩ = some (.int .i64 2) ∧ v.cell? ⟨P, 1, none⟩ = some (.int .i64 0) ∧ v.cell? ⟨P, 2, none⟩ = some (.bool false) ∧ v.cell? ⟨P, 3, none⟩ = some (.bool (decide (i.imm < 0))) ∧ v.cell? ⟨P, 4, none⟩ = some (.int .u64 (farS i.imm)) ∧ v.cell? ⟨P, 5, none⟩ = some (.string ⟨#[]⟩) ∧ v.cell? ⟨P, 6, none⟩ = some (.int .i64 0) ∧ v.cell? ⟨P + 1, 0, none⟩ = some (.int .i64 7) ∧ v.cell? ⟨P + 1, 1, none⟩ = some (.int .i64 i.shift) ∧ v.cell? ⟨P + 1, 2, none⟩ = some (.bool false) ∧ v.cell? ⟨P + 1, 3, none⟩ = some (.bool false) ∧ v.cell? ⟨P + 1, 4, none⟩ = some (.int .u64 i.amount) ∧ v.cell? ⟨P + 1, 5, none⟩ = some (.string ⟨#[]⟩) ∧ v.cell? ⟨P + 1, 6, none⟩ = some (.int .i64 0)) (by kernel_rfl) (by rw [HV0.out]; exact HcV.out _ G0.out) (fun hHeld => ?_)
      rw [HV0.out]
      have hHeld0 := HcV.out _ G0.out
      clear hHeld
      refine tk 0 ?_ rfl hHeld0 ?_ ?_
      rotate_left 1
      · intro w hS; obtain ⟨_, _, _, _, _, _, _, _, _, _, _, _, _, _, _, _, _, _, _, _, _, _, _, _⟩ := hS; go_simp; (try with_reducible rfl)
      (try simp only [Act.put, List.setIfInBounds_toArray, List.set_cons_zero, List.set_cons_succ])
      refine tk 1 ?_ rfl hHeld0 ?_ ?_
      rotate_left 1
      · intro w hS; obtain ⟨_, _, _, _, _, _, _, _, _, _, _, _, _, _, _, _, _, _, _, _, _, _, _, _⟩ := hS; go_simp; (try with_reducible rfl)
      (try simp only [Act.put, List.setIfInBounds_toArray, List.set_cons_zero, List.set_cons_succ])
      refine tk 2 ?_ rfl hHeld0 ?_ ?_
      rotate_left 1
      · intro w hS; obtain ⟨_, _, _, _, _, _, _, _, _, _, _, _, _, _, _, _, _, _, _, _, _, _, _, _⟩ := hS; go_simp; (try with_reducible rfl)
      (try simp only [Act.put, List.setIfInBounds_toArray, List.set_cons_zero, List.set_cons_succ])
      refine tk 3 ?_ rfl hHeld0 ?_ ?_
      rotate_left 1
      · intro w hS; obtain ⟨_, _, _, _, _, _, _, _, _, _, _, _, _, _, _, _, _, _, _, _, _, _, _, _⟩ := hS; go_simp; (try with_reducible rfl)
      (try simp only [Act.put, List.setIfInBounds_toArray, List.set_cons_zero, List.set_cons_succ])
      refine tk 5 ?_ rfl hHeld0 ?_ ?_
      rotate_left 1
      · intro w hS; obtain ⟨_, _, _, _, _, _, _, _, _, _, _, _, _, _, _, _, _, _, _, _, _, _, _, _⟩ := hS; go_simp; (try with_reducible rfl)
      (try simp only [Act.put, List.setIfInBounds_toArray, List.set_cons_zero, List.set_cons_succ])
      refine tk 6 ?_ rfl hHeld0 ?_ ?_
      rotate_left 1
      · intro w hS; obtain ⟨_, _, _, _, _, _, _, _, _, _, _, _, _, _, _, _, _, _, _, _, _, _, _, _⟩ := hS; go_simp; (try with_reducible rfl)
      (try simp only [Act.put, List.setIfInBounds_toArray, List.set_cons_zero, List.set_cons_succ])
      refine tk 7 ?_ rfl hHeld0 ?_ ?_
      rotate_left 1
      · intro w hS; obtain ⟨_, _, _, _, _, _, _, _, _, _, _, _, _, _, _, _, _, _, _, _, _, _, _, _⟩ := hS; go_simp; (try with_reducible rfl)
      (try simp only [Act.put, List.setIfInBounds_toArray, List.set_cons_zero, List.set_cons_succ])
      refine tk 8 ?_ rfl hHeld0 ?_ ?_
      rotate_left 1
      · intro w hS; obtain ⟨_, _, _, _, _, _, _, _, _, _, _, _, _, _, _, _, _, _, _, _, _, _, _, _⟩ := hS; go_simp; (try with_reducible rfl)
      (try simp only [Act.put, List.setIfInBounds_toArray, List.set_cons_zero, List.set_cons_succ])
      refine tk 9 ?_ rfl hHeld0 ?_ ?_
      rotate_left 1
      · intro w hS; obtain ⟨_, _, _, _, _, _, _, _, _, _, _, _, _, _, _, _, _, _, _, _, _, _, _, _⟩ := hS; go_simp; (try with_reducible rfl)
      (try simp only [Act.put, List.setIfInBounds_toArray, List.set_cons_zero, List.set_cons_succ])
      refine tk 10 ?_ rfl hHeld0 ?_ ?_
      rotate_left 1
      · intro w hS; obtain ⟨_, _, _, _, _, _, _, _, _, _, _, _, _, _, _, _, _, _, _, _, _, _, _, _⟩ := hS; go_simp; (try with_reducible rfl)
      (try simp only [Act.put, List.setIfInBounds_toArray, List.set_cons_zero, List.set_cons_succ])
      refine tk 11 ?_ rfl hHeld0 ?_ ?_
      rotate_left 1
      · intro w hS; obtain ⟨_, _, _, _, _, _, _, _, _, _, _, _, _, _, _, _, _, _, _, _, _, _, _, _⟩ := hS; go_simp; (try with_reducible rfl)
      (try simp only [Act.put, List.setIfInBounds_toArray, List.set_cons_zero, List.set_cons_succ])
      refine rd 4 rfl (fun K hK => ?_)
      go_simp
      go_wp2_with (go_at_call 12; refine (reg1_any _ _ _).mono ?_; rintro e v1 ⟨rfl, hb1⟩)
      have G1 := Lib.hid (after G0.out hb1)
      clear hb1
      refine hK.out _ _ (HcV.out _ G1.out) (fun hHeld1 => ?_)
      clear hK K
      refine rd 12 rfl (fun K hK => ?_)
      go_simp
      generalize hVs : World.alloc _ _ = Vs
      have hbs : Below v1.heap.size v1 Vs := by rw [← hVs]; exact (Below.refl _ _).alloc (Nat.le_refl _) _
      have hsz : Vs.heap.size = v1.heap.size + 1 := by rw [← hVs]; exact World.size_alloc _ _
      have hsl : SL poC 7 Vs (v1.heap.size + 1) (some ⟨v1.heap.size, 0, none⟩) 2 [regO i.d false, memO i.n i.imm] := by rw [← hVs]; exact SL.lit v1 _ [regO i.d false, memO i.n i.imm] po_len (by decide) _ (by first | rfl | simp [poC, regO, immO, shO, maskO, memO, cdO]) _ rfl
      rw [← hsz] at hsl
      have GS := Lib.hid (after G1.out hbs)
      refine hK.out _ _ (HcV.out _ GS.out) (fun hHeldS => ?_)
      clear hK K
      obtain ⟨a', c', Va, happ, hsa, hba⟩ := app_po (c := 2) hsl (by decide) 22
      have HAp := Lib.hid happ
      have HSa := Lib.hid hsa
      have GA := Lib.hid (after GS.out hba)
      clear hsl happ hsa hba hbs hsz hVs
      generalize v1.heap.size = bi at *
      refine rd 13 rfl (fun K hK => ?_)
      refine step_run rfl _ _ 22 rfl _ _ (by rfl) (by rfl) HAp.out ?_
      refine hK.out _ _ (HcV.out _ GA.out) (fun hHeldA => ?_)
      clear hK K
      refine rd 14 rfl (fun K hK => ?_)
      go_simp
      refine hK.out _ _ (HcV.out _ GA.out) (fun hHeldB => ?_)
      clear hK K
      refine wpAnyH_done (by kernel_rfl) ?_ _
      have HBA : Hid (Below w.heap.size w Va) := Lib.hid (after HB0.out GA.out)
      have HTL : Hid (toldL i = [regO i.d false, memO i.n i.imm]) := Lib.hid (by unfold toldL; simp [hs, ← HSb.out])
      have HMk : Hid (Calls Tryz.prog 8 #[.string N, .slice a' 2 c'] Va (RetB (mkV (i, ndZ, 0)) Va)) := Lib.hid (by
        have := HMake.out N Va a' c' (HNt.out (by rw [hs]; decide)) (HNs.out) HBA.out (by rw [HTL.out]; exact HSa.out)
        rw [HTL.out] at this
        exact this)
      clear HMake HNs HNt HTL HSa
      go_wp2_with fail
      refine HMk.out.mono ?_
      rintro e u5 ⟨rfl, hb⟩
      have HB5 := Lib.hid (after HBA.out hb)
      have G5 := Lib.hid (after GA.out hb)
      clear hb HMk
      obtain ⟨X, hX⟩ : ∃ X, X = u5.heap.size := ⟨_, rfl⟩
      obtain ⟨U, hU⟩ : ∃ U, U = (u5.alloc (.cells (inC i) 26)).alloc (.cells (ndA ndZ) 28) := ⟨_, rfl⟩
      have s1 : (u5.alloc (.cells (inC i) 26)).heap.size = u5.heap.size + 1 := World.size_alloc _ _
      have b1 : Below u5.heap.size u5 (u5.alloc (.cells (inC i) 26)) := (Below.refl _ _).alloc (Nat.le_refl _) _
      have b2 : Below (u5.alloc (.cells (inC i) 26)).heap.size (u5.alloc (.cells (inC i) 26)) U := by rw [hU]; exact (Below.refl _ _).alloc (Nat.le_refl _) _
      have b3 := after b1 b2
      have HB6 := Lib.hid (after HB5.out b3)
      have G6 := Lib.hid (after G5.out b3)
      have HR6 : Hid (RB U X (inC i) 26) := Lib.hid (by rw [hX]; exact RB.next (MapKept.heap_alloc u5 _).1 b2)
      have HS6 : Hid (RB U (X + 1) (ndA ndZ) 28) := Lib.hid (by
        have := (MapKept.heap_alloc (u5.alloc (.cells (inC i) 26)) (.cells (ndA ndZ) 28)).1
        rw [s1, ← hX, ← hU] at this
        exact this)
      have HUe := Lib.hid hU.symm
      have HXe := Lib.hid hX.symm
      clear hU hX s1 b1 b2 b3
      go_wp2_with fail
      rw [HUe.out, HXe.out]
      refine (HM.out _ HB6.out).mono ?_
      rintro e u7 ⟨rfl, hb⟩
      have HB7 := Lib.hid (after HB6.out hb)
      obtain ⟨x0, x1, x2, x3, x4, x5, x6, x7, x8, x9, -⟩ := ten_cells (HR6.out.next hb)
      obtain ⟨y0, y1, y2, y3, y4, -⟩ := five_cells (HS6.out.next hb)
      obtain ⟨z0, z1, z2, z3, z4, z5, z6, z7, z8, z9, -⟩ := HcV.out _ (after G6.out hb)
      have hei := eqI i
      clear hb
      go_wp2
      go_ret
      exact ⟨rfl, HB7.out⟩
    · go_wp2_with fail
      refine (HOf.out _).mono ?_
      rintro e w' ⟨rfl, rfl⟩
      go_wp2_with fail
      rw [HWe.out, HPe.out]
      refine (HSh.out _ HBW.out).mono ?_
      rintro e w' ⟨rfl, rfl⟩
      rw [hs]
      go_wp2_with fail
      obtain ⟨V0, hV0⟩ : ∃ x, x = W.drew := ⟨_, rfl⟩
      have HcV : Hid (∀ v, Below V0.heap.size V0 v → v.cell? ⟨B, 0, none⟩ = some (.int .i64 i.op) ∧ v.cell? ⟨B, 1, none⟩ = some (.int .i64 i.d) ∧ v.cell? ⟨B, 2, none⟩ = some (.int .i64 i.n) ∧ v.cell? ⟨B, 3, none⟩ = some (.int .i64 i.m) ∧ v.cell? ⟨B, 4, none⟩ = some (.int .i64 i.a) ∧ v.cell? ⟨B, 5, none⟩ = some (.int .i64 i.imm) ∧ v.cell? ⟨B, 6, none⟩ = some (.int .u64 i.mask) ∧ v.cell? ⟨B, 7, none⟩ = some (.int .i64 i.shift) ∧ v.cell? ⟨B, 8, none⟩ = some (.int .i64 i.amount) ∧ v.cell? ⟨B, 9, none⟩ = some (.int .i64 i.cond) ∧ v.cell? ⟨P, 0, none⟩ = some (.int .i64 2) ∧ v.cell? ⟨P, 1, none⟩ = some (.int .i64 0) ∧ v.cell? ⟨P, 2, none⟩ = some (.bool false) ∧ v.cell? ⟨P, 3, none⟩ = some (.bool (decide (i.imm < 0))) ∧ v.cell? ⟨P, 4, none⟩ = some (.int .u64 (farS i.imm)) ∧ v.cell? ⟨P, 5, none⟩ = some (.string ⟨#[]⟩) ∧ v.cell? ⟨P, 6, none⟩ = some (.int .i64 0) ∧ v.cell? ⟨P + 1, 0, none⟩ = some (.int .i64 7) ∧ v.cell? ⟨P + 1, 1, none⟩ = some (.int .i64 i.shift) ∧ v.cell? ⟨P + 1, 2, none⟩ = some (.bool false) ∧ v.cell? ⟨P + 1, 3, none⟩ = some (.bool false) ∧ v.cell? ⟨P + 1, 4, none⟩ = some (.int .u64 i.amount) ∧ v.cell? ⟨P + 1, 5, none⟩ = some (.string ⟨#[]⟩) ∧ v.cell? ⟨P + 1, 6, none⟩ = some (.int .i64 0)) := Lib.hid fun v hv => HcX.out v (by rw [hV0] at hv; exact after (Below.refl _ _).drew hv)
      have HB0 : Hid (Below w.heap.size w V0) := Lib.hid (by rw [hV0]; exact after HBW.out (Below.refl _ _).drew)
      have HV0 := Lib.hid hV0.symm
      have G0 : Hid (Below V0.heap.size V0 V0) := Lib.hid (Below.refl _ _)
      clear hV0
      refine wp_region_held_drew (S := fun v => v.cell? ⟨B, 0, none⟩ = some (.int .i64 i.op) ∧ v.cell? ⟨B, 1, none⟩ = some (.int .i64 i.d) ∧ v.cell? ⟨B, 2, none⟩ = some (.int .i64 i.n) ∧ v.cell? ⟨B, 3, none⟩ = some (.int .i64 i.m) ∧ v.cell? ⟨B, 4, none⟩ = some (.int .i64 i.a) ∧ v.cell? ⟨B, 5, none⟩ = some (.int .i64 i.imm) ∧ v.cell? ⟨B, 6, none⟩ = some (.int .u64 i.mask) ∧ v.cell? ⟨B, 7, none⟩ = some (.int .i64 i.shift) ∧ v.cell? ⟨B, 8, none⟩ = some (.int .i64 i.amount) ∧ v.cell? ⟨B, 9, none⟩ = some (.int .i64 i.cond) ∧ v.cell? ⟨P, 0, none⟩ = some (.int .i64 2) ∧ v.cell? ⟨P, 1, none⟩ = some (.int .i64 0) ∧ v.cell? ⟨P, 2, none⟩ = some (.bool false) ∧ v.cell? ⟨P, 3, none⟩ = some (.bool (decide (i.imm < 0))) ∧ v.cell? ⟨P, 4, none⟩ = some (.int .u64 (farS i.imm)) ∧ v.cell? ⟨P, 5, none⟩ = some (.string ⟨#[]⟩) ∧ v.cell? ⟨P, 6, none⟩ = some (.int .i64 0) ∧ v.cell? ⟨P + 1, 0, none⟩ = some (.int .i64 7) ∧ v.cell? ⟨P + 1, 1, none⟩ = some (.int .i64 i.shift) ∧ v.cell? ⟨P + 1, 2, none⟩ = some (.bool false) ∧ v.cell? ⟨P + 1, 3, none⟩ = some (.bool false) ∧ v.cell? ⟨P + 1, 4, none⟩ = some (.int .u64 i.amount) ∧ v.cell? ⟨P + 1, 5, none⟩ = some (.string ⟨#[]⟩) ∧ v.cell? ⟨P + 1, 6, none⟩ = some (.int .i64 0)) (by kernel_rfl) (by rw [HV0.out]; exact HcV.out _ G0.out) (fun hHeld => ?_)
      rw [HV0.out]
      have hHeld0 := HcV.out _ G0.out
      clear hHeld
      refine tk 0 ?_ rfl hHeld0 ?_ ?_
      rotate_left 1
      · intro w hS; obtain ⟨_, _, _, _, _, _, _, _, _, _, _, _, _, _, _, _, _, _, _, _, _, _, _, _⟩ := hS; go_simp; (try with_reducible rfl)
      (try simp only [Act.put, List.setIfInBounds_toArray, List.set_cons_zero, List.set_cons_succ])
      refine tk 1 ?_ rfl hHeld0 ?_ ?_
      rotate_left 1
      · intro w hS; obtain ⟨_, _, _, _, _, _, _, _, _, _, _, _, _, _, _, _, _, _, _, _, _, _, _, _⟩ := hS; go_simp; (try with_reducible rfl)
      (try simp only [Act.put, List.setIfInBounds_toArray, List.set_cons_zero, List.set_cons_succ])
      refine tk 2 ?_ rfl hHeld0 ?_ ?_
      rotate_left 1
      · intro w hS; obtain ⟨_, _, _, _, _, _, _, _, _, _, _, _, _, _, _, _, _, _, _, _, _, _, _, _⟩ := hS; go_simp; (try with_reducible rfl)
      (try simp only [Act.put, List.setIfInBounds_toArray, List.set_cons_zero, List.set_cons_succ])
      refine tk 3 ?_ rfl hHeld0 ?_ ?_
      rotate_left 1
      · intro w hS; obtain ⟨_, _, _, _, _, _, _, _, _, _, _, _, _, _, _, _, _, _, _, _, _, _, _, _⟩ := hS; go_simp; (try with_reducible rfl)
      (try simp only [Act.put, List.setIfInBounds_toArray, List.set_cons_zero, List.set_cons_succ])
      refine tk 5 ?_ rfl hHeld0 ?_ ?_
      rotate_left 1
      · intro w hS; obtain ⟨_, _, _, _, _, _, _, _, _, _, _, _, _, _, _, _, _, _, _, _, _, _, _, _⟩ := hS; go_simp; (try with_reducible rfl)
      (try simp only [Act.put, List.setIfInBounds_toArray, List.set_cons_zero, List.set_cons_succ])
      refine tk 6 ?_ rfl hHeld0 ?_ ?_
      rotate_left 1
      · intro w hS; obtain ⟨_, _, _, _, _, _, _, _, _, _, _, _, _, _, _, _, _, _, _, _, _, _, _, _⟩ := hS; go_simp; (try with_reducible rfl)
      (try simp only [Act.put, List.setIfInBounds_toArray, List.set_cons_zero, List.set_cons_succ])
      refine tk 7 ?_ rfl hHeld0 ?_ ?_
      rotate_left 1
      · intro w hS; obtain ⟨_, _, _, _, _, _, _, _, _, _, _, _, _, _, _, _, _, _, _, _, _, _, _, _⟩ := hS; go_simp; (try with_reducible rfl)
      (try simp only [Act.put, List.setIfInBounds_toArray, List.set_cons_zero, List.set_cons_succ])
      refine tk 8 ?_ rfl hHeld0 ?_ ?_
      rotate_left 1
      · intro w hS; obtain ⟨_, _, _, _, _, _, _, _, _, _, _, _, _, _, _, _, _, _, _, _, _, _, _, _⟩ := hS; go_simp; (try with_reducible rfl)
      (try simp only [Act.put, List.setIfInBounds_toArray, List.set_cons_zero, List.set_cons_succ])
      refine tk 9 ?_ rfl hHeld0 ?_ ?_
      rotate_left 1
      · intro w hS; obtain ⟨_, _, _, _, _, _, _, _, _, _, _, _, _, _, _, _, _, _, _, _, _, _, _, _⟩ := hS; go_simp; (try with_reducible rfl)
      (try simp only [Act.put, List.setIfInBounds_toArray, List.set_cons_zero, List.set_cons_succ])
      refine tk 10 ?_ rfl hHeld0 ?_ ?_
      rotate_left 1
      · intro w hS; obtain ⟨_, _, _, _, _, _, _, _, _, _, _, _, _, _, _, _, _, _, _, _, _, _, _, _⟩ := hS; go_simp; (try with_reducible rfl)
      (try simp only [Act.put, List.setIfInBounds_toArray, List.set_cons_zero, List.set_cons_succ])
      refine tk 11 ?_ rfl hHeld0 ?_ ?_
      rotate_left 1
      · intro w hS; obtain ⟨_, _, _, _, _, _, _, _, _, _, _, _, _, _, _, _, _, _, _, _, _, _, _, _⟩ := hS; go_simp; (try with_reducible rfl)
      (try simp only [Act.put, List.setIfInBounds_toArray, List.set_cons_zero, List.set_cons_succ])
      refine rd 4 rfl (fun K hK => ?_)
      go_simp
      go_wp2_with (go_at_call 12; refine (reg1_any _ _ _).mono ?_; rintro e v1 ⟨rfl, hb1⟩)
      have G1 := Lib.hid (after G0.out hb1)
      clear hb1
      refine hK.out _ _ (HcV.out _ G1.out) (fun hHeld1 => ?_)
      clear hK K
      refine rd 12 rfl (fun K hK => ?_)
      go_simp
      generalize hVs : World.alloc _ _ = Vs
      have hbs : Below v1.heap.size v1 Vs := by rw [← hVs]; exact (Below.refl _ _).alloc (Nat.le_refl _) _
      have hsz : Vs.heap.size = v1.heap.size + 1 := by rw [← hVs]; exact World.size_alloc _ _
      have hsl : SL poC 7 Vs (v1.heap.size + 1) (some ⟨v1.heap.size, 0, none⟩) 2 [regO i.d false, memO i.n i.imm] := by rw [← hVs]; exact SL.lit v1 _ [regO i.d false, memO i.n i.imm] po_len (by decide) _ (by first | rfl | simp [poC, regO, immO, shO, maskO, memO, cdO]) _ rfl
      rw [← hsz] at hsl
      have GS := Lib.hid (after G1.out hbs)
      refine hK.out _ _ (HcV.out _ GS.out) (fun hHeldS => ?_)
      clear hK K
      obtain ⟨a', c', Va, happ, hsa, hba⟩ := app_po (c := 2) hsl (by decide) 22
      have HAp := Lib.hid happ
      have HSa := Lib.hid hsa
      have GA := Lib.hid (after GS.out hba)
      clear hsl happ hsa hba hbs hsz hVs
      generalize v1.heap.size = bi at *
      refine rd 13 rfl (fun K hK => ?_)
      refine step_run rfl _ _ 22 rfl _ _ (by rfl) (by rfl) HAp.out ?_
      refine hK.out _ _ (HcV.out _ GA.out) (fun hHeldA => ?_)
      clear hK K
      refine rd 14 rfl (fun K hK => ?_)
      go_simp
      refine hK.out _ _ (HcV.out _ GA.out) (fun hHeldB => ?_)
      clear hK K
      refine wpAnyH_done (by kernel_rfl) ?_ _
      have HBA : Hid (Below w.heap.size w Va) := Lib.hid (after HB0.out GA.out)
      have HTL : Hid (toldL i = [regO i.d false, memO i.n i.imm]) := Lib.hid (by unfold toldL; simp [hs, ← HSb.out])
      have HMk : Hid (Calls Tryz.prog 8 #[.string N, .slice a' 2 c'] Va (RetB (mkV (i, ndZ, 0)) Va)) := Lib.hid (by
        have := HMake.out N Va a' c' (HNt.out (by rw [hs]; decide)) (HNs.out) HBA.out (by rw [HTL.out]; exact HSa.out)
        rw [HTL.out] at this
        exact this)
      clear HMake HNs HNt HTL HSa
      go_wp2_with fail
      refine HMk.out.mono ?_
      rintro e u5 ⟨rfl, hb⟩
      have HB5 := Lib.hid (after HBA.out hb)
      have G5 := Lib.hid (after GA.out hb)
      clear hb HMk
      obtain ⟨X, hX⟩ : ∃ X, X = u5.heap.size := ⟨_, rfl⟩
      obtain ⟨U, hU⟩ : ∃ U, U = (u5.alloc (.cells (inC i) 26)).alloc (.cells (ndA ndZ) 28) := ⟨_, rfl⟩
      have s1 : (u5.alloc (.cells (inC i) 26)).heap.size = u5.heap.size + 1 := World.size_alloc _ _
      have b1 : Below u5.heap.size u5 (u5.alloc (.cells (inC i) 26)) := (Below.refl _ _).alloc (Nat.le_refl _) _
      have b2 : Below (u5.alloc (.cells (inC i) 26)).heap.size (u5.alloc (.cells (inC i) 26)) U := by rw [hU]; exact (Below.refl _ _).alloc (Nat.le_refl _) _
      have b3 := after b1 b2
      have HB6 := Lib.hid (after HB5.out b3)
      have G6 := Lib.hid (after G5.out b3)
      have HR6 : Hid (RB U X (inC i) 26) := Lib.hid (by rw [hX]; exact RB.next (MapKept.heap_alloc u5 _).1 b2)
      have HS6 : Hid (RB U (X + 1) (ndA ndZ) 28) := Lib.hid (by
        have := (MapKept.heap_alloc (u5.alloc (.cells (inC i) 26)) (.cells (ndA ndZ) 28)).1
        rw [s1, ← hX, ← hU] at this
        exact this)
      have HUe := Lib.hid hU.symm
      have HXe := Lib.hid hX.symm
      clear hU hX s1 b1 b2 b3
      go_wp2_with fail
      rw [HUe.out, HXe.out]
      refine (HM.out _ HB6.out).mono ?_
      rintro e u7 ⟨rfl, hb⟩
      have HB7 := Lib.hid (after HB6.out hb)
      obtain ⟨x0, x1, x2, x3, x4, x5, x6, x7, x8, x9, -⟩ := ten_cells (HR6.out.next hb)
      obtain ⟨y0, y1, y2, y3, y4, -⟩ := five_cells (HS6.out.next hb)
      obtain ⟨z0, z1, z2, z3, z4, z5, z6, z7, z8, z9, -⟩ := HcV.out _ (after G6.out hb)
      have hei := eqI i
      clear hb
      go_wp2
      go_ret
      exact ⟨rfl, HB7.out⟩
    · exact absurd HGr.out.2 (by omega)
    · exact absurd HGr.out.2 (by omega)
    · exact absurd HGr.out.2 (by omega)
    · exact absurd HGr.out.2 (by omega)
    · exact absurd HGr.out.2 (by omega)
    · exact absurd HGr.out.2 (by omega)
    · exact absurd HGr.out.2 (by omega)
    · exact absurd HGr.out.2 (by omega)
  · exact absurd (HSb.out.trans HGr.out.1) (by decide)
  · exact absurd (HSb.out.trans HGr.out.1) (by decide)
  · exact absurd (HSb.out.trans HGr.out.1) (by decide)
  · exact absurd (HSb.out.trans HGr.out.1) (by decide)
  · exact absurd (HSb.out.trans HGr.out.1) (by decide)
end Go.Proofs.YthejefldnpeciaaGreatDoor
