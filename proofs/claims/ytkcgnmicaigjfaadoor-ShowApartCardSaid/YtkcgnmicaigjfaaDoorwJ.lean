/- show: Word; lists, plain. -/
import Derived.Test.YtkcgnmicaigjfaaDoorwI
namespace Go.Proofs.YtkcgnmicaigjfaaDoor
set_option linter.unusedVariables false
set_option linter.unusedSimpArgs false
open Go.ChangeShapes Go.WideShapes Go.Deep Go.RowKit

/-- `.word ` and Hex. -/
def wordT (x : Nat) : List UInt8 := if (dI x).2 = 0 then showT (dI x).1 else [46, 119, 111, 114, 100, 32] ++ 48 :: 120 :: digL 16 x
theorem dI_cases (x : Nat) : (∃ i, dI x = (i, 0) ∧ i = readW x ∧ isI i = true) ∨ dI x = (inZ, 11) := by
  unfold dI
  split
  · rename_i h; exact .inl ⟨_, rfl, rfl, h⟩
  · exact .inr rfl
set_option maxRecDepth 100000 in
set_option maxHeartbeats 3000000 in
theorem SWord_any (x : Nat) (hx : x < 4294967296) (w : World) (hT : TabS w) : Calls Tryd.prog 17 #[.int .u32 (x : Int)] w (RetB (.string ⟨(wordT x).toArray⟩) w) := by
  have HD : Hid (Calls Tryd.prog 33 #[.int .u32 (x : Int)] w (RetB (out2 (dI x)) w)) := Lib.hid (CDecode_any x hx w hT.t6)
  rcases dI_cases x with ⟨i, he, hr, hi⟩ | he
  · have hB : InB i := by rw [hr]; exact readW_inB x hx
    have HX : Hid (∀ u, Below w.heap.size w u → Calls Tryd.prog 5 #[inV i] u (RetB (.tuple #[.string ⟨(wordT x).toArray⟩, .int .i64 0]) u)) := Lib.hid fun u hu => by
      have := SText_any i hB u (hT.next hu)
      unfold showS at this
      rw [if_pos hi] at this
      unfold wordT
      rw [he]
      exact this
    rw [he] at HD
    clear hT hB hr he hi
    generalize (⟨(wordT x).toArray⟩ : ByteArray) = TT at *
    obtain ⟨o, d, n, m, a, y, q, h, t, c⟩ := i
    go_enter Tryd.func17, Tryd.ntmps17
    go_wp2_with fail
    refine HD.out.mono ?_
    rintro e u ⟨rfl, hb⟩
    have HB := Lib.hid hb
    clear hb
    have HB2 : Hid (Below w.heap.size w (u.alloc (.cells (inC ⟨o, d, n, m, a, y, q, h, t, c⟩) 24))) := Lib.hid (after HB.out (lit_b u _))
    go_wp2_with fail
    refine (HX.out _ HB2.out).mono ?_
    rintro e v ⟨rfl, hb⟩
    have HB3 := Lib.hid (after HB2.out hb)
    clear hb
    go_wp2
    go_ret
    exact ⟨rfl, HB3.out⟩
  · have HX : Hid (∀ u, Below w.heap.size w u → Calls Tryd.prog 16 #[.int .u64 (x : Int)] u (RetB (.string (hexB x)) u)) := Lib.hid fun u hu => Hex_any x u (by omega) (hT.next hu).t4.1
    have HE : Hid ((⟨(wordT x).toArray⟩ : ByteArray) = ⟨#[46, 119, 111, 114, 100, 32]⟩ ++ hexB x) := Lib.hid (by
      apply ba_ext
      rw [cat_list]
      unfold wordT hexB
      rw [he, if_neg (by decide)])
    have hsz : (hexB x).size ≤ 18 := by
      have := dig16_len x (by omega)
      show (48 :: 120 :: digL 16 x).length ≤ 18
      simp only [List.length_cons]; omega
    have hu : IntKind.u64.wrap (x : Int) = (x : Int) := by rw [IntKind.wrap_u64]; omega
    rw [he] at HD
    clear hT he
    go_enter Tryd.func17, Tryd.ntmps17
    go_wp2_with fail
    refine HD.out.mono ?_
    rintro e u ⟨rfl, hb⟩
    have HB := Lib.hid hb
    clear hb
    have HB2 : Hid (Below w.heap.size w (u.alloc (.cells (inC inZ) 24))) := Lib.hid (after HB.out (lit_b u _))
    go_wp2_with fail
    refine (HX.out _ HB2.out).mono ?_
    rintro e v ⟨rfl, hb⟩
    have HB3 := Lib.hid (after HB2.out hb)
    clear hb
    go_wp2
    go_ret
    exact ⟨by rw [HE.out]; rfl, HB3.out⟩

theorem showT_len {i : In} (hi : InB i) (h : isI i = true) : (showT i).length ≤ 500 := by
  have h1 := runM_len i hi (headT i) (mths (shapeI i.op)) (mths (shapeI i.op)).length (Nat.le_refl _)
  rw [List.take_length] at h1
  have h2 := run_pieces i (headT i)
  have h3 := headT_len h
  have h4 := (mths_mem (shapeI_b i.op)).2
  have h5 : (runM i (headT i) (mths (shapeI i.op))).1 = showT i := h2
  rw [h5] at h1
  omega
theorem wordT_len {x : Nat} (hx : x < 4294967296) : (wordT x).length ≤ 500 := by
  unfold wordT
  rcases dI_cases x with ⟨i, he, hr, hi⟩ | he
  · rw [he, if_pos rfl]
    exact showT_len (by rw [hr]; exact readW_inB x hx) hi
  · rw [he, if_neg (by decide)]
    have := dig16_len x (by omega)
    simp only [List.length_append, List.length_cons, List.length_nil]; omega

/-! Lists, plain. -/
def wrd (a b c d : UInt8) : Nat := a.toNat + 256 * b.toNat + 65536 * c.toNat + 16777216 * d.toNat
theorem wrd_lt (a b c d : UInt8) : wrd a b c d < 4294967296 := by
  have := a.toNat_lt; have := b.toNat_lt; have := c.toNat_lt; have := d.toNat_lt
  unfold wrd; omega
def lineAt (p x : Nat) : List UInt8 := (48 :: 120 :: digL 16 p) ++ [58, 32] ++ wordT x
def listL : Nat → List UInt8 → List (List UInt8)
  | p, a :: b :: c :: d :: t => lineAt p (wrd a b c d) :: listL (p + 4) t
  | _, [] => []
  | _, [_] => []
  | _, [_, _] => []
  | _, [_, _, _] => []
theorem listL_app : ∀ (n p : Nat) (l m : List UInt8), l.length = 4 * n → listL p (l ++ m) = listL p l ++ listL (p + l.length) m
  | 0, p, l, m, h => by
    have : l = [] := by cases l with | nil => rfl | cons => simp at h
    subst this
    simp [listL]
  | n + 1, p, a :: b :: c :: d :: t, m, h => by
    simp only [List.cons_append, listL, List.length_cons]
    rw [listL_app n (p + 4) t m (by simp only [List.length_cons] at h; omega)]
    rw [show p + 4 + t.length = p + (t.length + 1 + 1 + 1 + 1) by omega]
  | n + 1, p, [], m, h => by simp at h
  | n + 1, p, [_], m, h => by simp at h; omega
  | n + 1, p, [_, _], m, h => by simp at h; omega
  | n + 1, p, [_, _, _], m, h => by simp at h; omega
theorem listL_len : ∀ (n p : Nat) (l : List UInt8), l.length = 4 * n → (listL p l).length = n
  | 0, p, l, h => by
    have : l = [] := by cases l with | nil => rfl | cons => simp at h
    subst this; rfl
  | n + 1, p, a :: b :: c :: d :: t, h => by
    simp only [listL, List.length_cons]
    rw [listL_len n (p + 4) t (by simp only [List.length_cons] at h; omega)]
  | n + 1, p, [], h => by simp at h
  | n + 1, p, [_], h => by simp at h; omega
  | n + 1, p, [_, _], h => by simp at h; omega
  | n + 1, p, [_, _, _], h => by simp at h; omega
theorem listL_snoc (p n : Nat) (l : List UInt8) (h : 4 * n + 4 ≤ l.length) : listL p (l.take (4 * (n + 1))) = listL p (l.take (4 * n)) ++ [lineAt (p + 4 * n) (wrd (l[4 * n]'(by omega)) (l[4 * n + 1]'(by omega)) (l[4 * n + 2]'(by omega)) (l[4 * n + 3]'(by omega)))] := by
  have e : l.take (4 * (n + 1)) = l.take (4 * n) ++ [l[4 * n]'(by omega), l[4 * n + 1]'(by omega), l[4 * n + 2]'(by omega), l[4 * n + 3]'(by omega)] := by
    rw [show 4 * (n + 1) = 4 * n + 1 + 1 + 1 + 1 from by omega, List.take_succ_eq_append_getElem (i := 4 * n + 1 + 1 + 1) (by omega), List.take_succ_eq_append_getElem (i := 4 * n + 1 + 1) (by omega), List.take_succ_eq_append_getElem (i := 4 * n + 1) (by omega), List.take_succ_eq_append_getElem (i := 4 * n) (by omega)]
    simp only [List.append_assoc, List.cons_append, List.nil_append]
  rw [e, listL_app n p _ _ (by rw [List.length_take]; omega), List.length_take, Nat.min_eq_left (by omega)]
  rfl
theorem listL_snoc' (p n : Nat) (l : List UInt8) (h : 4 * n + 4 ≤ l.length) : listL p (l.take (4 * (n + 1))) = listL p (l.take (4 * n)) ++ [lineAt (p + 4 * n) (wrd (l.getD (4 * n) 0) (l.getD (4 * n + 1) 0) (l.getD (4 * n + 2) 0) (l.getD (4 * n + 3) 0))] := by
  have g : ∀ j (hj : j < l.length), l.getD j 0 = l[j] := fun j hj => by rw [List.getD_eq_getElem?_getD, List.getElem?_eq_getElem hj]; rfl
  rw [g _ (by omega), g _ (by omega), g _ (by omega), g _ (by omega)]
  exact listL_snoc p n l h
/-- What List tells. -/
def listS (p : Nat) (l : List UInt8) : List (List UInt8) × Int :=
  if 4096 < l.length ∨ 4611686018427387904 < p then ([], 1) else if p % 4 ≠ 0 ∨ l.length % 4 ≠ 0 then ([], 5) else (listL p l, 0)
theorem bits_or_u32_nat (a b : Nat) (ha : a < 4294967296) (hb : b < 4294967296) :
    bits .or .u32 (a : Int) (b : Int) = ((a ||| b : Nat) : Int) := by
  have hx : a ||| b < 2 ^ 32 := Nat.or_lt_two_pow (by omega) (by omega)
  have h1 : (BitVec.ofInt 32 (a : Int)).toNat = a := by
    rw [BitVec.ofInt_natCast, BitVec.toNat_ofNat]; exact Nat.mod_eq_of_lt (by omega)
  have h2 : (BitVec.ofInt 32 (b : Int)).toNat = b := by
    rw [BitVec.ofInt_natCast, BitVec.toNat_ofNat]; exact Nat.mod_eq_of_lt (by omega)
  show IntKind.u32.wrap ((BitVec.ofInt 32 (a : Int) ||| BitVec.ofInt 32 (b : Int)).toNat : Int) = _
  rw [BitVec.toNat_or, h1, h2, IntKind.wrap_u32]
  omega
theorem or_add (a b k : Nat) (h : a < 2 ^ k) : a ||| 2 ^ k * b = 2 ^ k * b + a := by
  rw [Nat.or_comm]
  exact (Nat.two_pow_add_eq_or_of_lt h b).symm
end Go.Proofs.YtkcgnmicaigjfaaDoor
