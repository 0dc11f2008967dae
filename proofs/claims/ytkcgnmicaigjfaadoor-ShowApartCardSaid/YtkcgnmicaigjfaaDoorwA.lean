/- show: the lines of instructions, plain. -/
import Derived.Test.YtkcgnmicaigjfaaDoorhA
import Derived.Test.YtkcgnmicaigjfaaDoorhE
import Derived.Test.YtkcgnmicaigjfaaDoorhC
namespace Go.Proofs.YtkcgnmicaigjfaaDoor
set_option linter.unusedVariables false
set_option linter.unusedSimpArgs false
open Go.ChangeShapes Go.WideShapes Go.Deep Go.RowKit

def intT (n : Int) : List UInt8 := if n < 0 then 35 :: 45 :: digL 10 (-n).toNat else 35 :: digL 10 n.toNat
def rT (n : Int) (st : Bool) : List UInt8 := (regTextL n st).1
def dSt (i : In) : Bool := (writesI i).2 && decide ((writesI i).1 = 31)
def nSt (i : In) : Bool := decide (i.n = 31) && memB (readsI i) 31
def dT (i : In) : List UInt8 := rT i.d (dSt i)
def bT (i : In) : List UInt8 := rT i.n (nSt i)
def mT (i : In) : List UInt8 := rT i.m false
def aT (i : In) : List UInt8 := rT i.a false
def maT (i : In) : List UInt8 := 35 :: 48 :: 120 :: digL 16 i.mask.toNat
def coT (i : In) : List UInt8 := (condTx i.cond).1
def shNm (k : Int) : List UInt8 := if k = 0 then [108, 115, 108] else if k = 1 then [108, 115, 114] else if k = 2 then [97, 115, 114] else [114, 111, 114]
def shP (i : In) : List (List UInt8) := if i.shift = 0 ∧ i.amount = 0 then [] else [shNm i.shift ++ 32 :: intT i.amount]
/-- What stands between commas. -/
def piecesI (i : In) : List (List UInt8) :=
  let s := shapeI i.op
  if s = 1 then [dT i, intT i.imm] ++ shP i
  else if s = 2 then [dT i, bT i, intT i.imm] ++ shP i
  else if s = 3 then [dT i, bT i, maT i]
  else if s = 4 ∨ s = 5 then [dT i, bT i, mT i] ++ shP i
  else if s = 6 then [dT i, bT i, mT i, aT i]
  else if s = 7 ∨ s = 8 then [dT i, 91 :: bT i, intT i.imm ++ [93]]
  else if s = 9 ∨ s = 10 then [dT i, intT i.imm]
  else if s = 11 ∨ s = 12 ∨ s = 14 then [intT i.imm]
  else if s = 13 then [bT i]
  else if s = 16 then [dT i, bT i, mT i, coT i]
  else []
def joinC (l : List (List UInt8)) : List UInt8 := l.flatMap fun q => 44 :: 32 :: q
def joinP : List (List UInt8) → List UInt8
  | [] => []
  | p :: ps => 32 :: (p ++ joinC ps)
def headT (i : In) : List UInt8 := nmL.getD i.op.toNat [] ++ (if i.op = 31 then 46 :: coT i else [])
def showT (i : In) : List UInt8 := headT i ++ joinP (piecesI i)
def showS (i : In) : List UInt8 × Int := if isI i then (showT i, 0) else ([], 1)

/-! Two texts that are cut at the first of some letters. -/
theorem cutP (p : UInt8 → Bool) : ∀ (a b r s : List UInt8), (∀ x ∈ a, p x = false) → (∀ x ∈ b, p x = false) → (∀ c t, r = c :: t → p c = true) → (∀ c t, s = c :: t → p c = true) → a ++ r = b ++ s → a = b ∧ r = s
  | [], [], r, s, _, _, _, _, h => ⟨rfl, h⟩
  | [], y :: b, r, s, _, hb, hr, _, h => by
    have := hr y (b ++ s) h
    rw [hb y (by simp)] at this; cases this
  | x :: a, [], r, s, ha, _, _, hs, h => by
    have := hs x (a ++ r) h.symm
    rw [ha x (by simp)] at this; cases this
  | x :: a, y :: b, r, s, ha, hb, hr, hs, h => by
    simp only [List.cons_append, List.cons.injEq] at h
    obtain ⟨h1, h2⟩ := cutP p a b r s (fun z hz => ha z (List.mem_cons_of_mem _ hz)) (fun z hz => hb z (List.mem_cons_of_mem _ hz)) hr hs h.2
    exact ⟨by rw [h.1, h1], h2⟩
def cm (c : UInt8) : Bool := c == 44
def sp (c : UInt8) : Bool := c == 32
theorem joinC_head (l : List (List UInt8)) : ∀ c t, joinC l = c :: t → cm c = true := by
  intro c t h
  cases l with
  | nil => cases h
  | cons q l => simp only [joinC, List.flatMap_cons, List.cons_append, List.cons.injEq] at h; rw [← h.1]; rfl
theorem joinP_head (l : List (List UInt8)) : ∀ c t, joinP l = c :: t → sp c = true := by
  intro c t h
  cases l with
  | nil => cases h
  | cons q l => simp only [joinP, List.cons.injEq] at h; rw [← h.1]; rfl
def NoC (l : List (List UInt8)) : Prop := ∀ q ∈ l, ∀ x ∈ q, cm x = false
theorem joinC_inj : ∀ (l m : List (List UInt8)), NoC l → NoC m → joinC l = joinC m → l = m
  | [], [], _, _, _ => rfl
  | [], y :: m, _, _, h => by simp [joinC] at h
  | x :: l, [], _, _, h => by simp [joinC] at h
  | x :: l, y :: m, hl, hm, h => by
    simp only [joinC, List.flatMap_cons, List.cons_append, List.cons.injEq, true_and] at h
    obtain ⟨h1, h2⟩ := cutP cm x y (joinC l) (joinC m) (hl x (by simp)) (hm y (by simp)) (joinC_head l) (joinC_head m) h
    rw [h1, joinC_inj l m (fun q hq => hl q (List.mem_cons_of_mem _ hq)) (fun q hq => hm q (List.mem_cons_of_mem _ hq)) h2]
theorem joinP_inj (l m : List (List UInt8)) (hl : NoC l) (hm : NoC m) (h : joinP l = joinP m) : l = m := by
  cases l with
  | nil => cases m with
    | nil => rfl
    | cons y m => simp [joinP] at h
  | cons x l => cases m with
    | nil => simp [joinP] at h
    | cons y m =>
      simp only [joinP, List.cons.injEq, true_and] at h
      obtain ⟨h1, h2⟩ := cutP cm x y (joinC l) (joinC m) (hl x (by simp)) (hm y (by simp)) (joinC_head l) (joinC_head m) h
      rw [h1, joinC_inj l m (fun q hq => hl q (List.mem_cons_of_mem _ hq)) (fun q hq => hm q (List.mem_cons_of_mem _ hq)) h2]

/-! The letters of the parts. -/
theorem dgB_of {d : Nat} (h : d < 16) : (dgB d).toNat = if d < 10 then 48 + d else 87 + d := by
  unfold dgB
  split <;> (simp only [UInt8.toNat_ofNat']; omega)
theorem digL_mem {b : Nat} (hb : 2 ≤ b) (hb' : b ≤ 16) (u : Nat) : ∀ x ∈ digL b u, 48 ≤ x.toNat ∧ x.toNat ≤ 102 := by
  induction u using Nat.strongRecOn with
  | _ u ih =>
    intro x hx
    by_cases h : u < b
    · rw [digL_small h, List.mem_singleton] at hx
      rw [hx, dgB_of (by omega)]; split <;> omega
    · rw [digL_big (by omega) hb, List.mem_append, List.mem_singleton] at hx
      rcases hx with hx | hx
      · exact ih _ (Nat.div_lt_self (by omega) (by omega)) x hx
      · have := Nat.mod_lt u (show 0 < b by omega)
        rw [hx, dgB_of (by omega)]; split <;> omega
theorem dgB_inj {b c d : Nat} (hb : b ≤ 16) (hc : c < b) (hd : d < b) (h : dgB c = dgB d) : c = d := by
  have := congrArg UInt8.toNat h
  rw [dgB_of (by omega), dgB_of (by omega)] at this
  split at this <;> split at this <;> omega
theorem digL_ne (b u : Nat) : digL b u ≠ [] := by
  intro h
  rw [digL] at h
  split at h <;> simp at h
theorem digL_inj {b : Nat} (hb : 2 ≤ b) (hb' : b ≤ 16) : ∀ (u v : Nat), digL b u = digL b v → u = v := by
  intro u
  induction u using Nat.strongRecOn with
  | _ u ih =>
    intro v h
    by_cases hu : u < b
    · by_cases hv : v < b
      · rw [digL_small hu, digL_small hv] at h
        exact dgB_inj hb' hu hv (List.cons.inj h).1
      · rw [digL_small hu, digL_big (u := v) (by omega) hb] at h
        have h2 := congrArg List.length h
        have := List.length_pos_iff.2 (digL_ne b (v / b))
        simp only [List.length_append, List.length_singleton, List.length_cons, List.length_nil] at h2; omega
    · by_cases hv : v < b
      · rw [digL_small hv, digL_big (u := u) (by omega) hb] at h
        have h2 := congrArg List.length h
        have := List.length_pos_iff.2 (digL_ne b (u / b))
        simp only [List.length_append, List.length_singleton, List.length_cons, List.length_nil] at h2; omega
      · rw [digL_big (u := u) (by omega) hb, digL_big (u := v) (by omega) hb] at h
        obtain ⟨h1, h2⟩ := List.append_inj' h rfl
        have e1 := ih _ (Nat.div_lt_self (by omega) (by omega)) _ h1
        have e2 := dgB_inj hb' (Nat.mod_lt _ (by omega)) (Nat.mod_lt _ (by omega)) (List.cons.inj h2).1
        rw [← Nat.div_add_mod u b, ← Nat.div_add_mod v b, e1, e2]
/-- A letter that is neither a blank, nor a comma, nor a bracket, nor a dot. -/
def pl (c : UInt8) : Bool := !(c == 32 || c == 44 || c == 93 || c == 46 || c == 91)
theorem pl_of {x : UInt8} (h : (48 ≤ x.toNat ∧ x.toNat ≤ 90) ∨ 96 ≤ x.toNat ∨ x = 35 ∨ x = 45) : pl x = true := by
  unfold pl
  rcases h with h | h | rfl | rfl
  · have : ∀ n : Fin 256, 48 ≤ n.val ∧ n.val ≤ 90 → pl (UInt8.ofNat n.val) = true := by decide +kernel
    have h2 := this ⟨x.toNat, x.toNat_lt⟩ h
    rwa [UInt8.ofNat_toNat] at h2
  · have : ∀ n : Fin 256, 96 ≤ n.val → pl (UInt8.ofNat n.val) = true := by decide +kernel
    have h2 := this ⟨x.toNat, x.toNat_lt⟩ h
    rwa [UInt8.ofNat_toNat] at h2
  · rfl
  · rfl
theorem dig_pl {b : Nat} (hb : b = 10 ∨ b = 16) (u : Nat) : ∀ x ∈ digL b u, pl x = true := by
  induction u using Nat.strongRecOn with
  | _ u ih =>
    intro x hx
    by_cases h : u < b
    · rw [digL_small h, List.mem_singleton] at hx
      exact pl_of (by rw [hx, dgB_of (by omega)]; split <;> omega)
    · rw [digL_big (by omega) (by omega), List.mem_append, List.mem_singleton] at hx
      rcases hx with hx | hx
      · exact ih _ (Nat.div_lt_self (by omega) (by omega)) x hx
      · have := Nat.mod_lt u (show 0 < b by omega)
        exact pl_of (by rw [hx, dgB_of (by omega)]; split <;> omega)
theorem int_pl (n : Int) : ∀ x ∈ intT n, pl x = true := by
  intro x hx
  unfold intT at hx
  split at hx
  · rcases List.mem_cons.1 hx with rfl | hx
    · rfl
    · rcases List.mem_cons.1 hx with rfl | hx
      · rfl
      · exact dig_pl (.inl rfl) _ x hx
  · rcases List.mem_cons.1 hx with rfl | hx
    · rfl
    · exact dig_pl (.inl rfl) _ x hx
theorem int_inj {m n : Int} (h : intT m = intT n) : m = n := by
  unfold intT at h
  have h45 : ∀ u, ∀ t, digL 10 u = 45 :: t → False := fun u t e => by
    have := digL_mem (b := 10) (by decide) (by decide) u 45 (by rw [e]; simp)
    exact absurd this.1 (by decide)
  split at h <;> split at h <;> simp only [List.cons.injEq, true_and] at h
  · have := digL_inj (by decide) (by decide) _ _ h; omega
  · exact (h45 _ _ h.symm).elim
  · exact (h45 _ _ h).elim
  · have := digL_inj (by decide) (by decide) _ _ h; omega
theorem reg_pl : ∀ n : Fin 32, ∀ st : Bool, (rT (n.val : Int) st).all pl = true := by decide +kernel
theorem reg_inj' : ∀ n m : Fin 32, ∀ s t : Bool, (s = true → n.val = 31) → (t = true → m.val = 31) → rT (n.val : Int) s = rT (m.val : Int) t → n = m := by decide +kernel
theorem reg_head' : ∀ n : Fin 32, ∀ s : Bool, (s = true → n.val = 31) → ∃ c ∈ [(120 : UInt8), 115], (rT (n.val : Int) s).head? = some c := by decide +kernel
def Reg32 (n : Int) : Prop := 0 ≤ n ∧ n ≤ 31
theorem rT_pl {n : Int} (h : Reg32 n) (st : Bool) : ∀ x ∈ rT n st, pl x = true := by
  obtain ⟨k, rfl⟩ := Int.eq_ofNat_of_zero_le h.1
  exact List.all_eq_true.1 (reg_pl ⟨k, by have := h.2; omega⟩ st)
theorem rT_inj {n m : Int} {s t : Bool} (hn : Reg32 n) (hm : Reg32 m) (hs : s = true → n = 31) (ht : t = true → m = 31) (h : rT n s = rT m t) : n = m := by
  obtain ⟨k, rfl⟩ := Int.eq_ofNat_of_zero_le hn.1
  obtain ⟨l, rfl⟩ := Int.eq_ofNat_of_zero_le hm.1
  have := reg_inj' ⟨k, by have := hn.2; omega⟩ ⟨l, by have := hm.2; omega⟩ s t (fun e => by have := hs e; simp only; omega) (fun e => by have := ht e; simp only; omega) h
  simp only [Fin.mk.injEq] at this
  rw [this]
theorem rT_head {n : Int} {s : Bool} (hn : Reg32 n) (hs : s = true → n = 31) : (rT n s).head? = some 120 ∨ (rT n s).head? = some 115 := by
  obtain ⟨k, rfl⟩ := Int.eq_ofNat_of_zero_le hn.1
  obtain ⟨c, hc, h⟩ := reg_head' ⟨k, by have := hn.2; omega⟩ s (fun e => by have := hs e; simp only; omega)
  simp only [List.mem_cons, List.not_mem_nil, or_false] at hc
  rcases hc with rfl | rfl
  · exact .inl h
  · exact .inr h
theorem int_head (n : Int) : (intT n).head? = some 35 := by unfold intT; split <;> rfl
theorem coT_pl (i : In) : ∀ x ∈ coT i, pl x = true := by
  unfold coT condTx
  split
  · rename_i h
    obtain ⟨k, hk⟩ := Int.eq_ofNat_of_zero_le h.1
    have h2 : ∀ k : Fin 14, (condsT.getD k.val []).all pl = true := by decide +kernel
    have h3 := h2 ⟨k, by omega⟩
    rw [hk]
    exact List.all_eq_true.1 h3
  · intro x hx; cases hx
theorem coT_inj {i j : In} (hi : 0 ≤ i.cond ∧ i.cond ≤ 13) (hj : 0 ≤ j.cond ∧ j.cond ≤ 13) (h : coT i = coT j) : i.cond = j.cond := by
  have h2 : ∀ k l : Fin 14, condsT.getD k.val [] = condsT.getD l.val [] → k = l := by decide +kernel
  unfold coT condTx at h
  rw [if_pos ⟨hi.1, by omega⟩, if_pos ⟨hj.1, by omega⟩] at h
  have := h2 ⟨i.cond.toNat, by omega⟩ ⟨j.cond.toNat, by omega⟩ h
  simp only [Fin.mk.injEq] at this
  omega
theorem ma_pl (i : In) : ∀ x ∈ maT i, pl x = true := by
  intro x hx
  unfold maT at hx
  rcases List.mem_cons.1 hx with rfl | hx
  · rfl
  · rcases List.mem_cons.1 hx with rfl | hx
    · rfl
    · rcases List.mem_cons.1 hx with rfl | hx
      · rfl
      · exact dig_pl (.inr rfl) _ x hx
theorem shNm_pl (k : Int) : ∀ x ∈ shNm k, pl x = true := by
  unfold shNm
  split
  · decide
  · split
    · decide
    · split <;> decide
theorem shNm_inj {k l : Int} (hk : 0 ≤ k ∧ k ≤ 3) (hl : 0 ≤ l ∧ l ≤ 3) (h : shNm k = shNm l) : k = l := by
  have h1 : k = 0 ∨ k = 1 ∨ k = 2 ∨ k = 3 := by omega
  have h2 : l = 0 ∨ l = 1 ∨ l = 2 ∨ l = 3 := by omega
  rcases h1 with rfl | rfl | rfl | rfl <;> rcases h2 with rfl | rfl | rfl | rfl <;> first | rfl | exact absurd h (by decide)
theorem shP_inj {i j : In} (hi : 0 ≤ i.shift ∧ i.shift ≤ 3) (hj : 0 ≤ j.shift ∧ j.shift ≤ 3) (h : shP i = shP j) : i.shift = j.shift ∧ i.amount = j.amount := by
  unfold shP at h
  split at h <;> split at h
  · rename_i a b; exact ⟨by rw [a.1, b.1], by rw [a.2, b.2]⟩
  · cases h
  · cases h
  · simp only [List.cons.injEq, and_true] at h
    have hp : ∀ (k : Int) x, x ∈ shNm k → sp x = false := fun k x hx => by
      have := shNm_pl k x hx
      unfold pl at this; unfold sp
      simp only [Bool.not_eq_true', Bool.or_eq_false_iff] at this
      exact this.1.1.1.1
    obtain ⟨h1, h2⟩ := cutP sp _ _ _ _ (hp _) (hp _) (fun c t e => by rw [← (List.cons.inj e).1]; rfl) (fun c t e => by rw [← (List.cons.inj e).1]; rfl) h
    exact ⟨shNm_inj hi hj h1, int_inj (List.cons.inj h2).2⟩
theorem pl_cm {x : UInt8} (h : pl x = true) : cm x = false := by
  unfold pl at h; unfold cm
  simp only [Bool.not_eq_true', Bool.or_eq_false_iff] at h
  exact h.1.1.1.2
theorem pl_sp {x : UInt8} (h : pl x = true) : sp x = false := by
  unfold pl at h; unfold sp
  simp only [Bool.not_eq_true', Bool.or_eq_false_iff] at h
  exact h.1.1.1.1
end Go.Proofs.YtkcgnmicaigjfaaDoor
