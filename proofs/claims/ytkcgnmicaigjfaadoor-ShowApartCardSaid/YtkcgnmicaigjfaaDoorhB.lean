/- inst: Writes; the registers that are read, noted. -/
import Derived.Test.YtkcgnmicaigjfaaDoorkI5
import Derived.Deep.MidRow
import Derived.Deep.RegionHeld3
namespace Go.Proofs.YtkcgnmicaigjfaaDoor
set_option linter.unusedVariables false
set_option linter.unusedSimpArgs false
open Go.ChangeShapes Go.WideShapes Go.Deep Go.RowKit

abbrev ib (p : Int × Bool) : Value := .tuple #[.int .i64 p.1, .bool p.2]
theorem retB_ib {x : Int} {b : Bool} {p : Int × Bool} {w w' : World} (h : p = (x, b)) (hb : Below w.heap.size w w') : RetB (ib p) w (.returned (.tuple #[.int .i64 x, .bool b])) w' := by subst h; exact ⟨rfl, hb⟩
def writesI (i : In) : Int × Bool :=
  if isI i = false ∨ i.op = 23 ∨ i.op = 25 ∨ i.op = 32 ∨ i.op = 33 then (0, false)
  else if i.op = 30 ∨ i.op = 35 then (30, true)
  else if hasDb (shapeI i.op) = false ∨ (i.d = 31 ∧ stackDb i.op = false) then (0, false) else (i.d, true)

set_option maxRecDepth 100000 in
set_option maxHeartbeats 2000000 in
theorem Writes_any (i : In) (w : World) (hw : Tab4 w) (hi : InB i) : Calls Tryd.prog 40 #[inV i] w (RetB (ib (writesI i)) w) := by
  have HIs : Hid (∀ w, Tab4 w → Calls Tryd.prog 9 #[inV i] w (RetB (.bool (isI i)) w)) := Lib.hid fun w h => InstIs_any i w h hi
  have hwr : writesI i = writesI i := rfl
  generalize hq : isI i = b at HIs
  obtain ⟨o, d, n, m, a, x, k, h, t, c⟩ := i
  have HW : Hid (writesI ⟨o, d, n, m, a, x, k, h, t, c⟩ = if b = false ∨ o = 23 ∨ o = 25 ∨ o = 32 ∨ o = 33 then (0, false)
    else if o = 30 ∨ o = 35 then (30, true) else if hasDb (shapeI o) = false ∨ (d = 31 ∧ stackDb o = false) then (0, false) else (d, true)) := Lib.hid (by unfold writesI; rw [hq])
  have HT := Lib.hid hw
  have HBA := Lib.hid ((Below.refl w.heap.size w).alloc (Nat.le_refl _) (.cells (inC ⟨o, d, n, m, a, x, k, h, t, c⟩) 24))
  have HSh : Hid (∀ w, Tab4 w → Calls Tryd.prog 14 #[.int .i64 o] w (Ret (.int .i64 (shapeI o)) w)) := Lib.hid fun w h => Shape_any o w h
  have HD : Hid (∀ w, Calls Tryd.prog 34 #[.int .i64 (shapeI o)] w (Ret (.bool (hasDb (shapeI o))) w)) := Lib.hid fun w => hasD_any _ w
  have HS : Hid (∀ w, Calls Tryd.prog 49 #[.int .i64 o] w (Ret (.bool (stackDb o)) w)) := Lib.hid fun w => stackD_any _ w
  clear hq hwr hw hi
  generalize hasDb (shapeI o) = bd at *
  generalize stackDb o = bs at *
  generalize shapeI o = s at *
  have cases : (b = false) ∨ (b = true ∧ (o = 23 ∨ o = 25 ∨ o = 32 ∨ o = 33 ∨ o = 30 ∨ o = 35)) ∨ (b = true ∧ ¬ (o = 23 ∨ o = 25 ∨ o = 32 ∨ o = 33 ∨ o = 30 ∨ o = 35)) := by
    cases b
    · exact .inl rfl
    · by_cases c : (o = 23 ∨ o = 25 ∨ o = 32 ∨ o = 33 ∨ o = 30 ∨ o = 35)
      · exact .inr (.inl ⟨rfl, c⟩)
      · exact .inr (.inr ⟨rfl, c⟩)
  rcases cases with rfl | ⟨rfl, ho⟩ | ⟨rfl, ho⟩
  · go_enter Tryd.func40, Tryd.ntmps40
    go_wp2_with fail
    refine (HIs.out _ (HT.out.below HBA.out)).mono ?_
    rintro e w1 ⟨rfl, hb⟩
    have HB := Lib.hid (after HBA.out hb)
    clear hb
    go_wp2
    go_ret2
    exact retB_ib (by rw [HW.out]; simp) HB.out
  · rcases ho with rfl | rfl | rfl | rfl | rfl | rfl
    · go_enter Tryd.func40, Tryd.ntmps40
      go_wp2_with fail
      obtain ⟨R, hR⟩ : ∃ R, R = w.heap.size := ⟨_, rfl⟩
      obtain ⟨wa, hwa⟩ : ∃ wa, wa = w.alloc (.cells (inC ⟨23, d, n, m, a, x, k, h, t, c⟩) 24) := ⟨_, rfl⟩
      have hten : Ten R ⟨23, d, n, m, a, x, k, h, t, c⟩ wa := by rw [hwa, hR]; exact Ten.made _ _ _
      have hRl : R < wa.heap.size := by rw [hwa, hR]; simp
      rw [← hwa] at HBA
      rw [← hR, ← hwa]
      refine (HIs.out _ (HT.out.below HBA.out)).mono ?_
      rintro e w1 ⟨rfl, hb⟩
      obtain ⟨g0, g1, g2, g3, g4, g5, g6, g7, g8, g9⟩ := hten.below hb hRl
      have HB := Lib.hid (after HBA.out hb)
      clear hb hten hwa hR
      go_wp2
      go_ret2
      exact retB_ib (by rw [HW.out]; simp) HB.out
    · go_enter Tryd.func40, Tryd.ntmps40
      go_wp2_with fail
      obtain ⟨R, hR⟩ : ∃ R, R = w.heap.size := ⟨_, rfl⟩
      obtain ⟨wa, hwa⟩ : ∃ wa, wa = w.alloc (.cells (inC ⟨25, d, n, m, a, x, k, h, t, c⟩) 24) := ⟨_, rfl⟩
      have hten : Ten R ⟨25, d, n, m, a, x, k, h, t, c⟩ wa := by rw [hwa, hR]; exact Ten.made _ _ _
      have hRl : R < wa.heap.size := by rw [hwa, hR]; simp
      rw [← hwa] at HBA
      rw [← hR, ← hwa]
      refine (HIs.out _ (HT.out.below HBA.out)).mono ?_
      rintro e w1 ⟨rfl, hb⟩
      obtain ⟨g0, g1, g2, g3, g4, g5, g6, g7, g8, g9⟩ := hten.below hb hRl
      have HB := Lib.hid (after HBA.out hb)
      clear hb hten hwa hR
      go_wp2
      go_ret2
      exact retB_ib (by rw [HW.out]; simp) HB.out
    · go_enter Tryd.func40, Tryd.ntmps40
      go_wp2_with fail
      obtain ⟨R, hR⟩ : ∃ R, R = w.heap.size := ⟨_, rfl⟩
      obtain ⟨wa, hwa⟩ : ∃ wa, wa = w.alloc (.cells (inC ⟨32, d, n, m, a, x, k, h, t, c⟩) 24) := ⟨_, rfl⟩
      have hten : Ten R ⟨32, d, n, m, a, x, k, h, t, c⟩ wa := by rw [hwa, hR]; exact Ten.made _ _ _
      have hRl : R < wa.heap.size := by rw [hwa, hR]; simp
      rw [← hwa] at HBA
      rw [← hR, ← hwa]
      refine (HIs.out _ (HT.out.below HBA.out)).mono ?_
      rintro e w1 ⟨rfl, hb⟩
      obtain ⟨g0, g1, g2, g3, g4, g5, g6, g7, g8, g9⟩ := hten.below hb hRl
      have HB := Lib.hid (after HBA.out hb)
      clear hb hten hwa hR
      go_wp2
      go_ret2
      exact retB_ib (by rw [HW.out]; simp) HB.out
    · go_enter Tryd.func40, Tryd.ntmps40
      go_wp2_with fail
      obtain ⟨R, hR⟩ : ∃ R, R = w.heap.size := ⟨_, rfl⟩
      obtain ⟨wa, hwa⟩ : ∃ wa, wa = w.alloc (.cells (inC ⟨33, d, n, m, a, x, k, h, t, c⟩) 24) := ⟨_, rfl⟩
      have hten : Ten R ⟨33, d, n, m, a, x, k, h, t, c⟩ wa := by rw [hwa, hR]; exact Ten.made _ _ _
      have hRl : R < wa.heap.size := by rw [hwa, hR]; simp
      rw [← hwa] at HBA
      rw [← hR, ← hwa]
      refine (HIs.out _ (HT.out.below HBA.out)).mono ?_
      rintro e w1 ⟨rfl, hb⟩
      obtain ⟨g0, g1, g2, g3, g4, g5, g6, g7, g8, g9⟩ := hten.below hb hRl
      have HB := Lib.hid (after HBA.out hb)
      clear hb hten hwa hR
      go_wp2
      go_ret2
      exact retB_ib (by rw [HW.out]; simp) HB.out
    · go_enter Tryd.func40, Tryd.ntmps40
      go_wp2_with fail
      obtain ⟨R, hR⟩ : ∃ R, R = w.heap.size := ⟨_, rfl⟩
      obtain ⟨wa, hwa⟩ : ∃ wa, wa = w.alloc (.cells (inC ⟨30, d, n, m, a, x, k, h, t, c⟩) 24) := ⟨_, rfl⟩
      have hten : Ten R ⟨30, d, n, m, a, x, k, h, t, c⟩ wa := by rw [hwa, hR]; exact Ten.made _ _ _
      have hRl : R < wa.heap.size := by rw [hwa, hR]; simp
      rw [← hwa] at HBA
      rw [← hR, ← hwa]
      refine (HIs.out _ (HT.out.below HBA.out)).mono ?_
      rintro e w1 ⟨rfl, hb⟩
      obtain ⟨g0, g1, g2, g3, g4, g5, g6, g7, g8, g9⟩ := hten.below hb hRl
      have HB := Lib.hid (after HBA.out hb)
      clear hb hten hwa hR
      go_wp2
      go_ret2
      exact retB_ib (by rw [HW.out]; simp) HB.out
    · go_enter Tryd.func40, Tryd.ntmps40
      go_wp2_with fail
      obtain ⟨R, hR⟩ : ∃ R, R = w.heap.size := ⟨_, rfl⟩
      obtain ⟨wa, hwa⟩ : ∃ wa, wa = w.alloc (.cells (inC ⟨35, d, n, m, a, x, k, h, t, c⟩) 24) := ⟨_, rfl⟩
      have hten : Ten R ⟨35, d, n, m, a, x, k, h, t, c⟩ wa := by rw [hwa, hR]; exact Ten.made _ _ _
      have hRl : R < wa.heap.size := by rw [hwa, hR]; simp
      rw [← hwa] at HBA
      rw [← hR, ← hwa]
      refine (HIs.out _ (HT.out.below HBA.out)).mono ?_
      rintro e w1 ⟨rfl, hb⟩
      obtain ⟨g0, g1, g2, g3, g4, g5, g6, g7, g8, g9⟩ := hten.below hb hRl
      have HB := Lib.hid (after HBA.out hb)
      clear hb hten hwa hR
      go_wp2
      go_ret2
      exact retB_ib (by rw [HW.out]; simp) HB.out
  · have q1 : (o == 23) = false := by rw [beq_eq_false_iff_ne]; omega
    have q2 : (o == 25) = false := by rw [beq_eq_false_iff_ne]; omega
    have q3 : (o == 32) = false := by rw [beq_eq_false_iff_ne]; omega
    have q4 : (o == 33) = false := by rw [beq_eq_false_iff_ne]; omega
    have q5 : (o == 30) = false := by rw [beq_eq_false_iff_ne]; omega
    have q6 : (o == 35) = false := by rw [beq_eq_false_iff_ne]; omega
    have HW2 : Hid (writesI ⟨o, d, n, m, a, x, k, h, t, c⟩ = if bd = false ∨ (d = 31 ∧ bs = false) then (0, false) else (d, true)) := Lib.hid (by
      rw [HW.out, if_neg (by simp; omega), if_neg (by omega)])
    clear ho HW
    by_cases hd : d = 31
    all_goals
      first | have q7 : (d == 31) = true := by (rw [beq_iff_eq]; exact hd) | have q7 : (d == 31) = false := by (rw [beq_eq_false_iff_ne]; exact hd)
      have HDd := Lib.hid hd
      clear hd
      cases bd <;> cases bs
      all_goals
        go_enter Tryd.func40, Tryd.ntmps40
        go_wp2_with fail
        obtain ⟨R, hR⟩ : ∃ R, R = w.heap.size := ⟨_, rfl⟩
        obtain ⟨wa, hwa⟩ : ∃ wa, wa = w.alloc (.cells (inC ⟨o, d, n, m, a, x, k, h, t, c⟩) 24) := ⟨_, rfl⟩
        have hten : Ten R ⟨o, d, n, m, a, x, k, h, t, c⟩ wa := by rw [hwa, hR]; exact Ten.made _ _ _
        have hRl : R < wa.heap.size := by rw [hwa, hR]; simp
        rw [← hwa] at HBA
        rw [← hR, ← hwa]
        refine (HIs.out _ (HT.out.below HBA.out)).mono ?_
        rintro e w1 ⟨rfl, hb⟩
        obtain ⟨g0, g1, g2, g3, g4, g5, g6, g7, g8, g9⟩ := hten.below hb hRl
        have HB := Lib.hid (after HBA.out hb)
        clear hb hten hwa hR
        go_wp2_with (first | (go_at_call 14; ((with_reducible refine (HSh.out _ (HT.out.below HB.out)).mono ?_); rintro e w' ⟨rfl, rfl⟩)) | (go_at_call 34; ((with_reducible refine (HD.out _).mono ?_); rintro e w' ⟨rfl, rfl⟩)) | (go_at_call 49; ((with_reducible refine (HS.out _).mono ?_); rintro e w' ⟨rfl, rfl⟩)))
        go_ret2
        exact retB_ib (by rw [HW2.out]; simp [HDd.out]) HB.out

set_option maxHeartbeats 400000 in
theorem hasN_any (s : Int) (w : World) : Calls Tryd.prog 35 #[.int .i64 s] w (Ret (.bool (hasNb s)) w) := by
  unfold hasNb
  by_cases h1 : 2 ≤ s
  · rw [decide_eq_true h1]
    by_cases h2 : s ≤ 8
    · rw [decide_eq_true h2]
      go_enter Tryd.func35, Tryd.ntmps35
      go_wp2
      go_ret
      exact ret_bool rfl
    · rw [decide_eq_false h2]
      cases h3 : (s == 13)
      all_goals
        go_enter Tryd.func35, Tryd.ntmps35
        go_wp2
        go_ret
        exact ret_bool rfl
  · rw [decide_eq_false h1]
    cases h3 : (s == 13)
    all_goals
      go_enter Tryd.func35, Tryd.ntmps35
      go_wp2
      go_ret
      exact ret_bool rfl
set_option maxHeartbeats 400000 in
theorem hasM_any (s : Int) (w : World) : Calls Tryd.prog 36 #[.int .i64 s] w (Ret (.bool (hasMb s)) w) := by
  unfold hasMb
  by_cases h1 : 4 ≤ s
  · rw [decide_eq_true h1]
    by_cases h2 : s ≤ 6
    · rw [decide_eq_true h2]
      go_enter Tryd.func36, Tryd.ntmps36
      go_wp2
      go_ret
      exact ret_bool rfl
    · rw [decide_eq_false h2]
      go_enter Tryd.func36, Tryd.ntmps36
      go_wp2
      go_ret
      exact ret_bool rfl
  · rw [decide_eq_false h1]
    go_enter Tryd.func36, Tryd.ntmps36
    go_wp2
    go_ret
    exact ret_bool rfl
def stackNb (s : Int) : Bool := s == 2 || s == 7 || s == 8
set_option maxHeartbeats 400000 in
theorem stackN_any (s : Int) (w : World) : Calls Tryd.prog 70 #[.int .i64 s] w (Ret (.bool (stackNb s)) w) := by
  unfold stackNb
  cases q2 : (s == 2) <;> cases q7 : (s == 7)
  all_goals
    go_enter Tryd.func70, Tryd.ntmps70
    go_wp2
    go_ret
    exact ret_bool rfl
def encI (x : Int) : List Value := [.int .i64 x]
theorem encI_len : ∀ x, (encI x).length = 1 := fun _ => rfl
theorem cell_one_new' (w : World) (u : Value) (T : TypeId) : ∀ j x, [u][j]? = some x → (w.alloc (.cells #[u] T)).cell? ((⟨w.heap.size, 0, none⟩ : Addr).add j) = some x := by
  intro j x hj
  match j, hj with
  | 0, hj => simp at hj; subst hj; simp [Addr.add]
theorem one_one' (x : Int) : ∀ u ∈ [Value.int .i64 x], u.oneCell' = true := by intro u hu; simp at hu; subst hu; rfl
theorem infoI : (Tryd.prog.info? 3).map (fun i => (i.zero, i.size, i.bytes)) = some (some (.int .i64 0), 1, 8) := by kernel_rfl
/-- A row of ints is returned, made anew. -/
def RetL (l : List Int) (w : World) (e : Ending) (w' : World) : Prop :=
  ∃ a c, e = .returned (.slice a l.length c) ∧ SL encI 1 w' w'.heap.size a l.length l ∧ (a = none → l.length = 0 ∧ c = 0) ∧ Below w.heap.size w w'

def memB (l : List Int) (v : Int) : Bool := l.any (· == v)
theorem memB_cons (x : Int) (l : List Int) (v : Int) : memB (x :: l) v = ((x == v) || memB l v) := rfl
theorem memB_iff {l : List Int} {v : Int} : memB l v = true ↔ v ∈ l := by simp [memB]
def boolsL (f : Nat → Bool) : List Value := (List.range 32).map fun j => .bool (f j)
def riseK (f : Nat → Bool) (k : Nat) : List Int := ((List.range k).filter f).map Int.ofNat
def riseL (f : Nat → Bool) : List Int := riseK f 32
theorem boolsL_len (f : Nat → Bool) : (boolsL f).length = 32 := by simp [boolsL]
theorem boolsL_at (f : Nat → Bool) (k : Nat) (h : k < 32) : (boolsL f)[k]? = some (.bool (f k)) := by simp [boolsL, h]
theorem riseK_yes {f : Nat → Bool} {k : Nat} (h : f k = true) : riseK f (k + 1) = riseK f k ++ [(k : Int)] := by simp [riseK, List.range_succ, h]
theorem riseK_no {f : Nat → Bool} {k : Nat} (h : f k = false) : riseK f (k + 1) = riseK f k := by simp [riseK, List.range_succ, h]
theorem riseK_len (f : Nat → Bool) (k : Nat) : (riseK f k).length ≤ k := by
  simp only [riseK, List.length_map]; exact Nat.le_trans (List.length_filter_le _ _) (by simp)
theorem range_bools (f : Nat → Bool) (w : World) (b : Nat) (T : TypeId) (fr : Nat × Nat) (hb : w.heap[b]? = some (.cells (boolsL f).toArray T fr)) : w.rangeAt b 0 (boolsL f) := fun j v hj => by
  rw [Nat.zero_add, World.cell?, hb]
  simpa using hj
theorem size_bools (f : Nat → Bool) : (Tryd.prog.info? 105).map (·.size) = some (boolsL f).length := by rw [boolsL_len]; kernel_rfl
theorem idx_bools (B : List Value) (k : Nat) (v : Value) (w : World) (hk : k < 32) (h : B.toArray[k]? = some v) : (Instr.index 105 (.agg B.toArray) (.int .i64 k)).run Tryd.prog w = .ok v w := by
  have hu : Tryd.prog.underlying 105 = some (.array 32 4) := by kernel_rfl
  rw [List.getElem?_toArray] at h
  have ho : v.oneCell' = true ∨ True := .inr trivial
  simp [Instr.index, run_underlying hu, asIntOf, go_sem, hk, h]

set_option maxRecDepth 100000 in
set_option maxHeartbeats 1000000 in
theorem rising_any (f : Nat → Bool) (w : World) : Calls Tryd.prog 71 #[.agg (boolsL f).toArray] w (RetL (riseL f) w) := by
  obtain ⟨i0, hi, hz0, hz1, hz2⟩ := info_parts infoI
  have HR : Hid ((w.alloc (.cells (boolsL f).toArray 105)).rangeAt w.heap.size 0 (boolsL f)) := Lib.hid (range_bools f _ _ _ (0, 0) (MapKept.heap_alloc w _).1)
  have HA : Hid (∀ k, k < 32 → (boolsL f).toArray[k]? = some (.bool (f k))) := Lib.hid fun k hk => by rw [List.getElem?_toArray]; exact boolsL_at f k hk
  have HZ := Lib.hid (size_bools f)
  obtain ⟨B, hBd⟩ : ∃ B, B = boolsL f := ⟨_, rfl⟩
  rw [← hBd] at HR HA HZ ⊢
  clear hBd
  go_enter Tryd.func71, Tryd.ntmps71
  go_wp2_with (refine wpList_load_mid rfl 105 _ rfl w.heap.size 0 rfl B _ HR.out Tryd.underlying105 rfl HZ.out ?_)
  obtain ⟨W1, hW1⟩ : ∃ W1, W1 = w.alloc (.cells B.toArray 105) := ⟨_, rfl⟩
  have hb0 : Below w.heap.size w W1 := by rw [hW1]; exact (Below.refl _ w).alloc (Nat.le_refl _) _
  rw [← hW1] at HR ⊢
  clear hW1
  go_loopw [3, 7] (fun v i wl => ∃ (k : Nat), k ≤ 32 ∧ i = .int .i64 k ∧ wl.ownsRow w.heap.size 3 1 v (riseK f k).length ((riseK f k).flatMap encI) ∧ Below w.heap.size w wl) (fun _ i _ => 32 - (intOf i).toNat)
  case atStart => exact ⟨0, by omega, rfl, World.ownsRow_nil _ _ _ _, hb0⟩
  case round =>
    clear hb0
    obtain ⟨k, hk, rfl, hown, hb⟩ := hrel
    have hbs := hb.size
    have HOWN := Lib.hid hown
    clear hown
    by_cases hlt : k < 32
    · have hcell := HA.out k hlt
      have hcell2 := hcell
      rw [List.getElem?_toArray] at hcell2
      have hidx := idx_bools B k _ wr hlt (HA.out k hlt)
      have hm : (riseK f k).length + 1 ≤ maxLen := by have := riseK_len f k; unfold maxLen; omega
      have hby : ((riseK f k).length + 1) * 8 ≤ 140737488355328 := by have := riseK_len f k; omega
      cases hf : f k
      · have HE := Lib.hid (riseK_no hf)
        rw [hf] at hidx
        clear hf hm hby
        go_wp2
        go_roundw
        case rel => exact ⟨k + 1, by omega, by go_num, by rw [HE.out]; exact HOWN.out, hb⟩
        case measure => simp [intOf]; omega
      · have HE := Lib.hid (riseK_yes hf)
        rw [hf] at hidx
        clear hf
        generalize riseK f k = acc at *
        go_wp2_with (at_builtin; refine wpList_append_own _ rfl _ _ 91 rfl w.heap.size 3 i0 (.int .i64 0) 1 8 Tryd.underlying91 hi hz0 hz1 hz2 rfl (by decide) _ acc.length (acc.flatMap encI) rfl (HOWN.out.alloc _) ⟨wr.heap.size, 0, none⟩ 1 1 [.int .i64 k] rfl rfl (cell_one_new' _ _ _) (one_one' k) hm hby (by simp; omega) ?_; intro v' w2 hown2 hgrow2 hiff)
        go_roundw
        case rel =>
          refine ⟨k + 1, by omega, by go_num, ?_, (hb.alloc hbs _).grown hgrow2 (by simp; omega) (fun j hj => by have := (HOWN.out.lt j hj).1; omega)⟩
          rw [HE.out, List.flatMap_append, List.length_append]
          exact hown2
        case measure => simp [intOf]; omega
    · obtain rfl : k = 32 := by omega
      go_wp2
      go_ret
      obtain ⟨a', c', rfl, hsl, hnil⟩ := SL.ofOwns encI_len (by omega) HOWN.out
      exact ⟨a', c', rfl, hsl, hnil, hb⟩


def markF (f : Nat → Bool) (n : Nat) (st : Bool) : Nat → Bool := fun j => f j || (decide (j = n) && (n != 31 || st))
theorem bools_set (f : Nat → Bool) (n : Nat) (hn : n < 32) : (boolsL f).toArray.setIfInBounds n (.bool true) = (boolsL fun j => f j || decide (j = n)).toArray := by
  rw [List.setIfInBounds_toArray]
  congr 1
  refine List.ext_getElem? fun k => ?_
  rw [List.getElem?_set]
  by_cases hk : k < 32
  · rw [boolsL_at _ k hk, boolsL_at _ k hk, boolsL_len]
    by_cases e : n = k
    · subst e; simp [hn]
    · have : ¬ k = n := fun h => e h.symm
      simp [e, this]
  · have h0 : ∀ g : Nat → Bool, (boolsL g)[k]? = none := fun g => List.getElem?_eq_none (by rw [boolsL_len]; omega)
    rw [h0, h0]
    have : ¬ n = k := by omega
    simp [this]
theorem markF_eq {f : Nat → Bool} {n : Nat} {st : Bool} (h : (n != 31 || st) = true) : markF f n st = fun j => f j || decide (j = n) := by funext j; simp only [markF, h, Bool.and_true]
theorem markF_id {f : Nat → Bool} {n : Nat} {st : Bool} (h : (n != 31 || st) = false) : markF f n st = f := by funext j; simp only [markF, h, Bool.and_false, Bool.or_false]
/-- What a call of note leaves. -/
def NoteP (B : Nat) (f : Nat → Bool) (w : World) (e : Ending) (w' : World) : Prop :=
  e = .returned (.tuple #[]) ∧ w'.heap[B]? = some (.cells (boolsL f).toArray 105 (0, 0)) ∧ w.grownBy w' (some B)
theorem grown_set' (w : World) (b o : Nat) (x : Value) : w.grownBy (w.setCell ⟨b, o, none⟩ x) (some b) :=
  ⟨rfl, rfl, rfl, by simp [World.setCell], fun k _ hk => Below.heap_setCell _ _ _ _ (fun e => hk (by simp [e]))⟩
theorem heap_setCell' {w : World} {b o : Nat} {x : Value} {cs : Array Value} {T : TypeId} {fr : Nat × Nat} (hb : w.heap[b]? = some (.cells cs T fr)) : (w.setCell ⟨b, o, none⟩ x).heap[b]? = some (.cells (cs.setIfInBounds o x) T fr) := by
  simp [World.setCell, Array.getElem?_modify, hb]
set_option maxHeartbeats 1000000 in
theorem note_any (n B : Nat) (st : Bool) (f : Nat → Bool) (w : World) (hn : n < 32) (hb : w.heap[B]? = some (.cells (boolsL f).toArray 105 (0, 0))) :
    Calls Tryd.prog 69 #[.int .i64 n, .bool st, .pointer (some ⟨B, 0, none⟩)] w (NoteP B (markF f n st) w) := by
  have hc : w.cell? ⟨B, n, none⟩ = some (.bool (f n)) := by
    rw [World.cell?, hb]; simp [boolsL_at f n hn]
  have hfz : w.frozen? ⟨B, n, none⟩ = false := by simp [World.frozen?, hb]
  cases hq : (n != 31 || st)
  · have HM := Lib.hid (markF_id (f := f) hq)
    simp only [Bool.or_eq_false_iff, bne_eq_false_iff_eq] at hq
    obtain ⟨rfl, rfl⟩ := hq
    have HB := Lib.hid hb
    clear hb
    go_enter Tryd.func69, Tryd.ntmps69
    go_wp2
    go_end0
    exact ⟨rfl, by rw [HM.out]; exact HB.out, World.grownBy.refl _ _⟩
  · have HM := Lib.hid (markF_eq (f := f) hq)
    have HS : Hid ((w.setCell ⟨B, n, none⟩ (.bool true)).heap[B]? = some (.cells (boolsL (markF f n st)).toArray 105 (0, 0))) := Lib.hid (by
      rw [heap_setCell' hb, bools_set f n hn, HM.out])
    clear hb
    by_cases e : n = 31
    · subst e
      have : st = true := by simpa using hq
      subst this
      clear hq
      go_enter Tryd.func69, Tryd.ntmps69
      go_wp2
      go_end0
      exact ⟨rfl, HS.out, grown_set' _ _ _ _⟩
    · have q : ((n : Int) != 31) = true := by rw [bne_iff_ne]; omega
      clear hq e
      go_enter Tryd.func69, Tryd.ntmps69
      go_wp2
      go_end0
      exact ⟨rfl, HS.out, grown_set' _ _ _ _⟩

theorem note_zero (B : Nat) (st : Bool) (f : Nat → Bool) (w : World) (hb : w.heap[B]? = some (.cells (boolsL f).toArray 105 (0, 0))) :
    Calls Tryd.prog 69 #[.int .i64 0, .bool st, .pointer (some ⟨B, 0, none⟩)] w (NoteP B (markF f 0 st) w) := note_any 0 B st f w (by omega) hb
/-- What holds between two calls of note: the instruction, and what was noted. -/
def RS (R B : Nat) (i : In) (f : Nat → Bool) (w0 W : World) : Prop :=
  W.heap[R]? = some (.cells (inC i) 24 (0, 0)) ∧ W.heap[B]? = some (.cells (boolsL f).toArray 105 (0, 0)) ∧ Below w0.heap.size w0 W ∧ w0.heap.size ≤ R ∧ R < B
theorem RS.ten {R B : Nat} {i : In} {f : Nat → Bool} {w0 W : World} (h : RS R B i f w0 W) : Ten R i W := by
  have hk : ∀ j, W.cell? ⟨R, j, none⟩ = (inC i)[j]? := fun j => by rw [World.cell?, h.1]; rfl
  exact ⟨hk 0, hk 1, hk 2, hk 3, hk 4, hk 5, hk 6, hk 7, hk 8, hk 9⟩
theorem RS.drew {R B : Nat} {i : In} {f : Nat → Bool} {w0 W : World} (h : RS R B i f w0 W) : RS R B i f w0 W.drew := ⟨h.1, h.2.1, h.2.2.1.drew, h.2.2.2⟩
theorem RS.note {R B : Nat} {i : In} {f f' : Nat → Bool} {w0 W W' : World} (h : RS R B i f w0 W) (hb : W'.heap[B]? = some (.cells (boolsL f').toArray 105 (0, 0))) (hg : W.grownBy W' (some B)) : RS R B i f' w0 W' := by
  refine ⟨(hg.block R (Array.getElem?_eq_some_iff.1 h.1).1 ?_).trans h.1, hb, h.2.2.1.grown hg h.2.2.1.size ?_, h.2.2.2⟩
  · intro e; have := h.2.2.2.2; simp at e; omega
  · intro k e; cases e; have := h.2.2.2; omega
theorem zero_bools : ∀ w, (zeroValue 105).run Tryd.prog w = .ok (.agg (boolsL fun _ => false).toArray) w := by intro w; kernel_rfl

def readF (i : In) : Nat → Bool :=
  let s := shapeI i.op
  let f1 := if hasNb s then markF (fun _ => false) i.n.toNat (stackNb s) else fun _ => false
  let f2 := if hasMb s then markF f1 i.m.toNat false else f1
  let f3 := if s == 6 then markF f2 i.a.toNat false else f2
  if i.op = 3 ∨ i.op = 23 ∨ i.op = 25 ∨ i.op = 32 ∨ i.op = 33 then markF f3 i.d.toNat false else if i.op = 37 then markF f3 0 false else f3
def readsI (i : In) : List Int := if isI i then riseL (readF i) else []
end Go.Proofs.YtkcgnmicaigjfaaDoor
