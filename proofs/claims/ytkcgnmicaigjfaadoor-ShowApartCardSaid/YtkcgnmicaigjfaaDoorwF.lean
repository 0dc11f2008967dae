/- show: the writer's methods. -/
import Derived.Test.YtkcgnmicaigjfaaDoorwE
namespace Go.Proofs.YtkcgnmicaigjfaaDoor
set_option linter.unusedVariables false
set_option linter.unusedSimpArgs false
open Go.ChangeShapes Go.WideShapes Go.Deep Go.RowKit

/-- What a method leaves that writes an operand. -/
def MP (B b k : Nat) (bs T : List UInt8) (u : World) (e : Ending) (w' : World) : Prop :=
  e = .returned (.tuple #[]) ∧ IsW B b ((k + 1 : Nat) : Int) (bs ++ (if k = 0 then [32] else [44, 32]) ++ T) w' ∧ Below B u w' ∧ OK b u w'
theorem sput_any {B b k : Nat} {bs : List UInt8} (T : List UInt8) {w : World} (h : IsW B b (k : Int) bs w) (hk : k ≤ 50) (hlen : bs.length ≤ 1000) (hT : T.length ≤ 100) (hBw : B ≤ w.heap.size) :
    Calls Tryd.prog 41 #[.pointer (some ⟨b, 0, none⟩), .string ⟨T.toArray⟩] w (MP B b k bs T w) := by
  have hs : (⟨T.toArray⟩ : ByteArray).size = T.length := by simp [ByteArray.size]
  exact put_any B b k bs ⟨T.toArray⟩ w h (by omega) (by omega) hBw
theorem ok_lit {b : Nat} (u : World) (o : Obj) : OK b u (u.alloc o) := OK.of_below (lit_b u o)
theorem i64ok_of {x : Int} (h : i64B x) : i64ok x := h
theorem below_le {B : Nat} {w w' : World} (h : Below w.heap.size w w') (hB : B ≤ w.heap.size) : Below B w w' := h.mono hB
theorem sz_le {B : Nat} {w w' : World} (h : Below B w w') (hB : B ≤ w.heap.size) : B ≤ w'.heap.size := Nat.le_trans hB h.size
set_option maxRecDepth 100000 in
set_option maxHeartbeats 3000000 in
theorem wn_any (i : In) (hi : InB i) {B b k : Nat} {bs : List UInt8} (u : World) (hT : TB B u) (hW : IsW B b (k : Int) bs u) (hk : k ≤ 50) (hl : bs.length ≤ 1000) (hB : B ≤ u.heap.size) : Calls Tryd.prog 26 #[.pointer (some ⟨b, 0, none⟩), inV i] u (MP B b k bs (bT i) u) := by
  have HP : Hid (∀ v, Below B u v → IsW B b (k : Int) bs v → Calls Tryd.prog 41 #[.pointer (some ⟨b, 0, none⟩), .string ⟨(bT i).toArray⟩] v (MP B b k bs (bT i) v)) := Lib.hid fun v hv hw => sput_any (bT i) hw hk hl (by have := rT_len i.n (nSt i); unfold bT; omega) (sz_le hv hB)
  have HBu := Lib.hid hB
  have HWu := Lib.hid hW
  have HC : Hid (∀ v, Below B u v → Calls Tryd.prog 44 #[inV i] v (RetB (.string ⟨(bT i).toArray⟩) v)) := Lib.hid fun v hv => baseText_any i hi v (hT.next hv).tab
  clear hT hi hW hk hl hB
  generalize (bT i) = TT at *
  obtain ⟨o, d, n, m, a, x, q, h, t, c⟩ := i
  have HL0 : Hid (Below u.heap.size u (u.alloc (.cells (inC ⟨o, d, n, m, a, x, q, h, t, c⟩) 24))) := Lib.hid (lit_b u _)
  have HW0 := Lib.hid (HWu.out.below HL0.out)
  have HB0 := Lib.hid (below_le HL0.out HBu.out)
  have HK0 : Hid (OK b u (u.alloc (.cells (inC ⟨o, d, n, m, a, x, q, h, t, c⟩) 24))) := Lib.hid (OK.of_below HL0.out)
  try simp only [] at HC
  go_enter Tryd.func26, Tryd.ntmps26
  go_wp2_with fail
  refine (HC.out _ HB0.out).mono ?_
  rintro e v1 ⟨rfl, hb⟩
  have HW1 := Lib.hid (HW0.out.below hb)
  have HB1 := Lib.hid (HB0.out.trans (hb.mono (sz_le HB0.out HBu.out)))
  have HK1 := Lib.hid (HK0.out.trans (OK.of_below hb))
  clear hb
  go_wp2_with fail
  refine (HP.out _ HB1.out HW1.out).mono ?_
  rintro e v2 ⟨rfl, hw, hb, hk⟩
  have HW2 := Lib.hid hw
  have HB2 := Lib.hid (HB1.out.trans hb)
  have HK2 := Lib.hid (HK1.out.trans hk)
  clear hw hb hk
  go_wp2
  go_end0
  exact ⟨rfl, HW2.out, HB2.out, HK2.out⟩
set_option maxRecDepth 100000 in
set_option maxHeartbeats 3000000 in
theorem wm_any (i : In) (hi : InB i) {B b k : Nat} {bs : List UInt8} (u : World) (hT : TB B u) (hW : IsW B b (k : Int) bs u) (hk : k ≤ 50) (hl : bs.length ≤ 1000) (hB : B ≤ u.heap.size) : Calls Tryd.prog 28 #[.pointer (some ⟨b, 0, none⟩), inV i] u (MP B b k bs (mT i) u) := by
  have HP : Hid (∀ v, Below B u v → IsW B b (k : Int) bs v → Calls Tryd.prog 41 #[.pointer (some ⟨b, 0, none⟩), .string ⟨(mT i).toArray⟩] v (MP B b k bs (mT i) v)) := Lib.hid fun v hv hw => sput_any (mT i) hw hk hl (by have := rT_len i.m false; unfold mT; omega) (sz_le hv hB)
  have HBu := Lib.hid hB
  have HWu := Lib.hid hW
  have HC : Hid (∀ v, Below B u v → Calls Tryd.prog 42 #[.int .i64 i.m, .bool false] v (RetB (.string ⟨(mT i).toArray⟩) v)) := Lib.hid fun v hv => sregText_any i.m hi.m false v (hT.next hv).tab
  clear hT hi hW hk hl hB
  generalize (mT i) = TT at *
  obtain ⟨o, d, n, m, a, x, q, h, t, c⟩ := i
  have HL0 : Hid (Below u.heap.size u (u.alloc (.cells (inC ⟨o, d, n, m, a, x, q, h, t, c⟩) 24))) := Lib.hid (lit_b u _)
  have HW0 := Lib.hid (HWu.out.below HL0.out)
  have HB0 := Lib.hid (below_le HL0.out HBu.out)
  have HK0 : Hid (OK b u (u.alloc (.cells (inC ⟨o, d, n, m, a, x, q, h, t, c⟩) 24))) := Lib.hid (OK.of_below HL0.out)
  try simp only [] at HC
  go_enter Tryd.func28, Tryd.ntmps28
  go_wp2_with fail
  refine (HC.out _ HB0.out).mono ?_
  rintro e v1 ⟨rfl, hb⟩
  have HW1 := Lib.hid (HW0.out.below hb)
  have HB1 := Lib.hid (HB0.out.trans (hb.mono (sz_le HB0.out HBu.out)))
  have HK1 := Lib.hid (HK0.out.trans (OK.of_below hb))
  clear hb
  go_wp2_with fail
  refine (HP.out _ HB1.out HW1.out).mono ?_
  rintro e v2 ⟨rfl, hw, hb, hk⟩
  have HW2 := Lib.hid hw
  have HB2 := Lib.hid (HB1.out.trans hb)
  have HK2 := Lib.hid (HK1.out.trans hk)
  clear hw hb hk
  go_wp2
  go_end0
  exact ⟨rfl, HW2.out, HB2.out, HK2.out⟩
set_option maxRecDepth 100000 in
set_option maxHeartbeats 3000000 in
theorem wa_any (i : In) (hi : InB i) {B b k : Nat} {bs : List UInt8} (u : World) (hT : TB B u) (hW : IsW B b (k : Int) bs u) (hk : k ≤ 50) (hl : bs.length ≤ 1000) (hB : B ≤ u.heap.size) : Calls Tryd.prog 29 #[.pointer (some ⟨b, 0, none⟩), inV i] u (MP B b k bs (aT i) u) := by
  have HP : Hid (∀ v, Below B u v → IsW B b (k : Int) bs v → Calls Tryd.prog 41 #[.pointer (some ⟨b, 0, none⟩), .string ⟨(aT i).toArray⟩] v (MP B b k bs (aT i) v)) := Lib.hid fun v hv hw => sput_any (aT i) hw hk hl (by have := rT_len i.a false; unfold aT; omega) (sz_le hv hB)
  have HBu := Lib.hid hB
  have HWu := Lib.hid hW
  have HC : Hid (∀ v, Below B u v → Calls Tryd.prog 42 #[.int .i64 i.a, .bool false] v (RetB (.string ⟨(aT i).toArray⟩) v)) := Lib.hid fun v hv => sregText_any i.a hi.a false v (hT.next hv).tab
  clear hT hi hW hk hl hB
  generalize (aT i) = TT at *
  obtain ⟨o, d, n, m, a, x, q, h, t, c⟩ := i
  have HL0 : Hid (Below u.heap.size u (u.alloc (.cells (inC ⟨o, d, n, m, a, x, q, h, t, c⟩) 24))) := Lib.hid (lit_b u _)
  have HW0 := Lib.hid (HWu.out.below HL0.out)
  have HB0 := Lib.hid (below_le HL0.out HBu.out)
  have HK0 : Hid (OK b u (u.alloc (.cells (inC ⟨o, d, n, m, a, x, q, h, t, c⟩) 24))) := Lib.hid (OK.of_below HL0.out)
  try simp only [] at HC
  go_enter Tryd.func29, Tryd.ntmps29
  go_wp2_with fail
  refine (HC.out _ HB0.out).mono ?_
  rintro e v1 ⟨rfl, hb⟩
  have HW1 := Lib.hid (HW0.out.below hb)
  have HB1 := Lib.hid (HB0.out.trans (hb.mono (sz_le HB0.out HBu.out)))
  have HK1 := Lib.hid (HK0.out.trans (OK.of_below hb))
  clear hb
  go_wp2_with fail
  refine (HP.out _ HB1.out HW1.out).mono ?_
  rintro e v2 ⟨rfl, hw, hb, hk⟩
  have HW2 := Lib.hid hw
  have HB2 := Lib.hid (HB1.out.trans hb)
  have HK2 := Lib.hid (HK1.out.trans hk)
  clear hw hb hk
  go_wp2
  go_end0
  exact ⟨rfl, HW2.out, HB2.out, HK2.out⟩
set_option maxRecDepth 100000 in
set_option maxHeartbeats 3000000 in
theorem wimm_any (i : In) (hi : InB i) {B b k : Nat} {bs : List UInt8} (u : World) (hT : TB B u) (hW : IsW B b (k : Int) bs u) (hk : k ≤ 50) (hl : bs.length ≤ 1000) (hB : B ≤ u.heap.size) : Calls Tryd.prog 24 #[.pointer (some ⟨b, 0, none⟩), inV i] u (MP B b k bs (intT i.imm) u) := by
  have HP : Hid (∀ v, Below B u v → IsW B b (k : Int) bs v → Calls Tryd.prog 41 #[.pointer (some ⟨b, 0, none⟩), .string ⟨(intT i.imm).toArray⟩] v (MP B b k bs (intT i.imm) v)) := Lib.hid fun v hv hw => sput_any (intT i.imm) hw hk hl (by have := intT_len hi.imm; omega) (sz_le hv hB)
  have HBu := Lib.hid hB
  have HWu := Lib.hid hW
  have HC : Hid (∀ v, Below B u v → Calls Tryd.prog 43 #[.int .i64 i.imm] v (RetB (.string ⟨(intT i.imm).toArray⟩) v)) := Lib.hid fun v hv => intText_any i.imm hi.imm v (hT.next hv).tab
  clear hT hi hW hk hl hB
  generalize (intT i.imm) = TT at *
  obtain ⟨o, d, n, m, a, x, q, h, t, c⟩ := i
  have HL0 : Hid (Below u.heap.size u (u.alloc (.cells (inC ⟨o, d, n, m, a, x, q, h, t, c⟩) 24))) := Lib.hid (lit_b u _)
  have HW0 := Lib.hid (HWu.out.below HL0.out)
  have HB0 := Lib.hid (below_le HL0.out HBu.out)
  have HK0 : Hid (OK b u (u.alloc (.cells (inC ⟨o, d, n, m, a, x, q, h, t, c⟩) 24))) := Lib.hid (OK.of_below HL0.out)
  try simp only [] at HC
  go_enter Tryd.func24, Tryd.ntmps24
  go_wp2_with fail
  refine (HC.out _ HB0.out).mono ?_
  rintro e v1 ⟨rfl, hb⟩
  have HW1 := Lib.hid (HW0.out.below hb)
  have HB1 := Lib.hid (HB0.out.trans (hb.mono (sz_le HB0.out HBu.out)))
  have HK1 := Lib.hid (HK0.out.trans (OK.of_below hb))
  clear hb
  go_wp2_with fail
  refine (HP.out _ HB1.out HW1.out).mono ?_
  rintro e v2 ⟨rfl, hw, hb, hk⟩
  have HW2 := Lib.hid hw
  have HB2 := Lib.hid (HB1.out.trans hb)
  have HK2 := Lib.hid (HK1.out.trans hk)
  clear hw hb hk
  go_wp2
  go_end0
  exact ⟨rfl, HW2.out, HB2.out, HK2.out⟩
set_option maxRecDepth 100000 in
set_option maxHeartbeats 3000000 in
theorem wcond_any (i : In) (hi : InB i) {B b k : Nat} {bs : List UInt8} (u : World) (hT : TB B u) (hW : IsW B b (k : Int) bs u) (hk : k ≤ 50) (hl : bs.length ≤ 1000) (hB : B ≤ u.heap.size) : Calls Tryd.prog 31 #[.pointer (some ⟨b, 0, none⟩), inV i] u (MP B b k bs (coT i) u) := by
  have HP : Hid (∀ v, Below B u v → IsW B b (k : Int) bs v → Calls Tryd.prog 41 #[.pointer (some ⟨b, 0, none⟩), .string ⟨(coT i).toArray⟩] v (MP B b k bs (coT i) v)) := Lib.hid fun v hv hw => sput_any (coT i) hw hk hl (by have := coT_len i; omega) (sz_le hv hB)
  have HBu := Lib.hid hB
  have HWu := Lib.hid hW
  have HC : Hid (∀ v, Below B u v → Calls Tryd.prog 12 #[inV i] v (RetB (.string ⟨(coT i).toArray⟩) v)) := Lib.hid fun v hv => condText_any i hi v (hT.next hv).tab
  clear hT hi hW hk hl hB
  generalize (coT i) = TT at *
  obtain ⟨o, d, n, m, a, x, q, h, t, c⟩ := i
  have HL0 : Hid (Below u.heap.size u (u.alloc (.cells (inC ⟨o, d, n, m, a, x, q, h, t, c⟩) 24))) := Lib.hid (lit_b u _)
  have HW0 := Lib.hid (HWu.out.below HL0.out)
  have HB0 := Lib.hid (below_le HL0.out HBu.out)
  have HK0 : Hid (OK b u (u.alloc (.cells (inC ⟨o, d, n, m, a, x, q, h, t, c⟩) 24))) := Lib.hid (OK.of_below HL0.out)
  try simp only [] at HC
  go_enter Tryd.func31, Tryd.ntmps31
  go_wp2_with fail
  refine (HC.out _ HB0.out).mono ?_
  rintro e v1 ⟨rfl, hb⟩
  have HW1 := Lib.hid (HW0.out.below hb)
  have HB1 := Lib.hid (HB0.out.trans (hb.mono (sz_le HB0.out HBu.out)))
  have HK1 := Lib.hid (HK0.out.trans (OK.of_below hb))
  clear hb
  go_wp2_with fail
  refine (HP.out _ HB1.out HW1.out).mono ?_
  rintro e v2 ⟨rfl, hw, hb, hk⟩
  have HW2 := Lib.hid hw
  have HB2 := Lib.hid (HB1.out.trans hb)
  have HK2 := Lib.hid (HK1.out.trans hk)
  clear hw hb hk
  go_wp2
  go_end0
  exact ⟨rfl, HW2.out, HB2.out, HK2.out⟩
theorem ma_cat (i : In) : (⟨(maT i).toArray⟩ : ByteArray) = ⟨#[35]⟩ ++ hexB i.mask.toNat := by
  apply ba_ext
  rw [cat_list]
  rfl
set_option maxRecDepth 100000 in
set_option maxHeartbeats 3000000 in
theorem wmask_any (i : In) (hi : InB i) {B b k : Nat} {bs : List UInt8} (u : World) (hT : TB B u) (hW : IsW B b (k : Int) bs u) (hk : k ≤ 50) (hl : bs.length ≤ 1000) (hB : B ≤ u.heap.size) : Calls Tryd.prog 27 #[.pointer (some ⟨b, 0, none⟩), inV i] u (MP B b k bs (maT i) u) := by
  have HP : Hid (∀ v, Below B u v → IsW B b (k : Int) bs v → Calls Tryd.prog 41 #[.pointer (some ⟨b, 0, none⟩), .string ⟨(maT i).toArray⟩] v (MP B b k bs (maT i) v)) := Lib.hid fun v hv hw => sput_any (maT i) hw hk hl (by have := maT_len hi; omega) (sz_le hv hB)
  have HBu := Lib.hid hB
  have HWu := Lib.hid hW
  have HC : Hid (∀ v, Below B u v → Calls Tryd.prog 16 #[.int .u64 i.mask] v (RetB (.string (hexB i.mask.toNat)) v)) := Lib.hid fun v hv => by
    have := Hex_any i.mask.toNat v (by have := hi.mask; omega) (hT.next hv).tab.t4.1
    rwa [Int.toNat_of_nonneg hi.mask.1] at this
  have hsz : (hexB i.mask.toNat).size ≤ 18 := by
    have := dig16_len i.mask.toNat (by have := hi.mask; omega)
    show (48 :: 120 :: digL 16 i.mask.toNat).length ≤ 18
    simp only [List.length_cons]; omega
  have HE := Lib.hid (ma_cat i)
  clear hT hi hW hk hl hB
  generalize hexB i.mask.toNat = XX at *
  generalize maT i = TT at *
  obtain ⟨o, d, n, m, a, x, q, h, t, c⟩ := i
  have HL0 : Hid (Below u.heap.size u (u.alloc (.cells (inC ⟨o, d, n, m, a, x, q, h, t, c⟩) 24))) := Lib.hid (lit_b u _)
  have HW0 := Lib.hid (HWu.out.below HL0.out)
  have HB0 := Lib.hid (below_le HL0.out HBu.out)
  have HK0 : Hid (OK b u (u.alloc (.cells (inC ⟨o, d, n, m, a, x, q, h, t, c⟩) 24))) := Lib.hid (OK.of_below HL0.out)
  try simp only [] at HC
  go_enter Tryd.func27, Tryd.ntmps27
  go_wp2_with fail
  refine (HC.out _ HB0.out).mono ?_
  rintro e v1 ⟨rfl, hb⟩
  have HW1 := Lib.hid (HW0.out.below hb)
  have HB1 := Lib.hid (HB0.out.trans (hb.mono (sz_le HB0.out HBu.out)))
  have HK1 := Lib.hid (HK0.out.trans (OK.of_below hb))
  have HP1 := Lib.hid (HP.out _ HB1.out HW1.out)
  rw [HE.out] at HP1
  clear hb
  go_wp2_with fail
  refine HP1.out.mono ?_
  rintro e v2 ⟨rfl, hw, hb, hk⟩
  have HW2 := Lib.hid hw
  have HB2 := Lib.hid (HB1.out.trans hb)
  have HK2 := Lib.hid (HK1.out.trans hk)
  clear hw hb hk
  go_wp2
  go_end0
  exact ⟨rfl, HW2.out, HB2.out, HK2.out⟩
set_option maxRecDepth 100000 in
set_option maxHeartbeats 3000000 in
theorem wd_no (i : In) (hi : InB i) {B b k : Nat} {bs : List UInt8} (u : World) (hT : TB B u) (hW : IsW B b (k : Int) bs u) (hk : k ≤ 50) (hl : bs.length ≤ 1000) (hB : B ≤ u.heap.size) (ho : (writesI i).2 = false) : Calls Tryd.prog 23 #[.pointer (some ⟨b, 0, none⟩), inV i] u (MP B b k bs (dT i) u) := by
  have HP : Hid (∀ v, Below B u v → IsW B b (k : Int) bs v → Calls Tryd.prog 41 #[.pointer (some ⟨b, 0, none⟩), .string ⟨(dT i).toArray⟩] v (MP B b k bs (dT i) v)) := Lib.hid fun v hv hw => sput_any (dT i) hw hk hl (by have := rT_len i.d (dSt i); unfold dT; omega) (sz_le hv hB)
  have HBu := Lib.hid hB
  have HWu := Lib.hid hW
  have HWr : Hid (∀ v, Below B u v → Calls Tryd.prog 40 #[inV i] v (RetB (ib (writesI i)) v)) := Lib.hid fun v hv => Writes_any i v (hT.next hv).tab.t4 hi
  have HC : Hid (∀ v, Below B u v → Calls Tryd.prog 42 #[.int .i64 i.d, .bool (dSt i)] v (RetB (.string ⟨(dT i).toArray⟩) v)) := Lib.hid fun v hv => sregText_any i.d hi.d (dSt i) v (hT.next hv).tab
  clear hT hi hW hk hl hB
  have hd : dSt i = false := by unfold dSt; rw [ho]; rfl
  rw [hd] at HC
  obtain ⟨p1, p2⟩ : ∃ p1, p1 = (writesI i).1 := ⟨_, rfl⟩
  have hw : writesI i = (p1, false) := by rw [p2, ← ho]
  rw [hw] at HWr
  clear ho hd p2 hw
  generalize dT i = TT at *
  obtain ⟨o, d, n, m, a, x, q, h, t, c⟩ := i
  have HL0 : Hid (Below u.heap.size u (u.alloc (.cells (inC ⟨o, d, n, m, a, x, q, h, t, c⟩) 24))) := Lib.hid (lit_b u _)
  have HW0 := Lib.hid (HWu.out.below HL0.out)
  have HB0 := Lib.hid (below_le HL0.out HBu.out)
  have HK0 : Hid (OK b u (u.alloc (.cells (inC ⟨o, d, n, m, a, x, q, h, t, c⟩) 24))) := Lib.hid (OK.of_below HL0.out)
  try simp only [] at HC
  go_enter Tryd.func23, Tryd.ntmps23
  go_wp2_with fail
  refine (HWr.out _ HB0.out).mono ?_
  rintro e v1 ⟨rfl, hb⟩
  have HW1 := Lib.hid (HW0.out.below hb)
  have HB1 := Lib.hid (HB0.out.trans (hb.mono (sz_le HB0.out HBu.out)))
  have HK1 := Lib.hid (HK0.out.trans (OK.of_below hb))
  have hx : Ten u.heap.size ⟨o, d, n, m, a, x, q, h, t, c⟩ v1 := (Ten.made u ⟨o, d, n, m, a, x, q, h, t, c⟩ 24).below hb (by simp)
  obtain ⟨x0, x1, x2, x3, x4, x5, x6, x7, x8, x9⟩ := hx
  clear hb
  go_wp2_with fail
  refine (HC.out _ HB1.out).mono ?_
  rintro e v2 ⟨rfl, hb⟩
  have HW2 := Lib.hid (HW1.out.below hb)
  have HB2 := Lib.hid (HB1.out.trans (hb.mono (sz_le HB1.out HBu.out)))
  have HK2 := Lib.hid (HK1.out.trans (OK.of_below hb))
  clear hb x0 x1 x2 x3 x4 x5 x6 x7 x8 x9
  go_wp2_with fail
  refine (HP.out _ HB2.out HW2.out).mono ?_
  rintro e v3 ⟨rfl, hw, hb, hk⟩
  have HW3 := Lib.hid hw
  have HB3 := Lib.hid (HB2.out.trans hb)
  have HK3 := Lib.hid (HK2.out.trans hk)
  clear hw hb hk
  go_wp2
  go_end0
  exact ⟨rfl, HW3.out, HB3.out, HK3.out⟩
set_option maxRecDepth 100000 in
set_option maxHeartbeats 3000000 in
theorem wd_31 (i : In) (hi : InB i) {B b k : Nat} {bs : List UInt8} (u : World) (hT : TB B u) (hW : IsW B b (k : Int) bs u) (hk : k ≤ 50) (hl : bs.length ≤ 1000) (hB : B ≤ u.heap.size) (ho : (writesI i).2 = true) (h1 : (writesI i).1 = 31) : Calls Tryd.prog 23 #[.pointer (some ⟨b, 0, none⟩), inV i] u (MP B b k bs (dT i) u) := by
  have HP : Hid (∀ v, Below B u v → IsW B b (k : Int) bs v → Calls Tryd.prog 41 #[.pointer (some ⟨b, 0, none⟩), .string ⟨(dT i).toArray⟩] v (MP B b k bs (dT i) v)) := Lib.hid fun v hv hw => sput_any (dT i) hw hk hl (by have := rT_len i.d (dSt i); unfold dT; omega) (sz_le hv hB)
  have HBu := Lib.hid hB
  have HWu := Lib.hid hW
  have HWr : Hid (∀ v, Below B u v → Calls Tryd.prog 40 #[inV i] v (RetB (ib (writesI i)) v)) := Lib.hid fun v hv => Writes_any i v (hT.next hv).tab.t4 hi
  have HC : Hid (∀ v, Below B u v → Calls Tryd.prog 42 #[.int .i64 i.d, .bool (dSt i)] v (RetB (.string ⟨(dT i).toArray⟩) v)) := Lib.hid fun v hv => sregText_any i.d hi.d (dSt i) v (hT.next hv).tab
  clear hT hi hW hk hl hB
  have hd : dSt i = true := by unfold dSt; rw [ho, h1]; rfl
  rw [hd] at HC
  have hw : writesI i = (31, true) := by rw [← ho, ← h1]
  rw [hw] at HWr
  clear ho h1 hd hw
  generalize dT i = TT at *
  obtain ⟨o, d, n, m, a, x, q, h, t, c⟩ := i
  have HL0 : Hid (Below u.heap.size u (u.alloc (.cells (inC ⟨o, d, n, m, a, x, q, h, t, c⟩) 24))) := Lib.hid (lit_b u _)
  have HW0 := Lib.hid (HWu.out.below HL0.out)
  have HB0 := Lib.hid (below_le HL0.out HBu.out)
  have HK0 : Hid (OK b u (u.alloc (.cells (inC ⟨o, d, n, m, a, x, q, h, t, c⟩) 24))) := Lib.hid (OK.of_below HL0.out)
  try simp only [] at HC
  go_enter Tryd.func23, Tryd.ntmps23
  go_wp2_with fail
  refine (HWr.out _ HB0.out).mono ?_
  rintro e v1 ⟨rfl, hb⟩
  have HW1 := Lib.hid (HW0.out.below hb)
  have HB1 := Lib.hid (HB0.out.trans (hb.mono (sz_le HB0.out HBu.out)))
  have HK1 := Lib.hid (HK0.out.trans (OK.of_below hb))
  have hx : Ten u.heap.size ⟨o, d, n, m, a, x, q, h, t, c⟩ v1 := (Ten.made u ⟨o, d, n, m, a, x, q, h, t, c⟩ 24).below hb (by simp)
  obtain ⟨x0, x1, x2, x3, x4, x5, x6, x7, x8, x9⟩ := hx
  clear hb
  go_wp2_with fail
  refine (HC.out _ HB1.out).mono ?_
  rintro e v2 ⟨rfl, hb⟩
  have HW2 := Lib.hid (HW1.out.below hb)
  have HB2 := Lib.hid (HB1.out.trans (hb.mono (sz_le HB1.out HBu.out)))
  have HK2 := Lib.hid (HK1.out.trans (OK.of_below hb))
  clear hb x0 x1 x2 x3 x4 x5 x6 x7 x8 x9
  go_wp2_with fail
  refine (HP.out _ HB2.out HW2.out).mono ?_
  rintro e v3 ⟨rfl, hw, hb, hk⟩
  have HW3 := Lib.hid hw
  have HB3 := Lib.hid (HB2.out.trans hb)
  have HK3 := Lib.hid (HK2.out.trans hk)
  clear hw hb hk
  go_wp2
  go_end0
  exact ⟨rfl, HW3.out, HB3.out, HK3.out⟩
set_option maxRecDepth 100000 in
set_option maxHeartbeats 3000000 in
theorem wd_n (i : In) (hi : InB i) {B b k : Nat} {bs : List UInt8} (u : World) (hT : TB B u) (hW : IsW B b (k : Int) bs u) (hk : k ≤ 50) (hl : bs.length ≤ 1000) (hB : B ≤ u.heap.size) (ho : (writesI i).2 = true) (h1 : (writesI i).1 ≠ 31) : Calls Tryd.prog 23 #[.pointer (some ⟨b, 0, none⟩), inV i] u (MP B b k bs (dT i) u) := by
  have HP : Hid (∀ v, Below B u v → IsW B b (k : Int) bs v → Calls Tryd.prog 41 #[.pointer (some ⟨b, 0, none⟩), .string ⟨(dT i).toArray⟩] v (MP B b k bs (dT i) v)) := Lib.hid fun v hv hw => sput_any (dT i) hw hk hl (by have := rT_len i.d (dSt i); unfold dT; omega) (sz_le hv hB)
  have HBu := Lib.hid hB
  have HWu := Lib.hid hW
  have HWr : Hid (∀ v, Below B u v → Calls Tryd.prog 40 #[inV i] v (RetB (ib (writesI i)) v)) := Lib.hid fun v hv => Writes_any i v (hT.next hv).tab.t4 hi
  have HC : Hid (∀ v, Below B u v → Calls Tryd.prog 42 #[.int .i64 i.d, .bool (dSt i)] v (RetB (.string ⟨(dT i).toArray⟩) v)) := Lib.hid fun v hv => sregText_any i.d hi.d (dSt i) v (hT.next hv).tab
  clear hT hi hW hk hl hB
  have hd : dSt i = false := by unfold dSt; rw [ho, decide_eq_false h1]; rfl
  rw [hd] at HC
  obtain ⟨p1, p2⟩ : ∃ p1, p1 = (writesI i).1 := ⟨_, rfl⟩
  have hw : writesI i = (p1, true) := by rw [p2, ← ho]
  have hn31 : (p1 == 31) = false := by rw [beq_eq_false_iff_ne, p2]; exact h1
  rw [hw] at HWr
  clear ho h1 hd p2 hw
  generalize dT i = TT at *
  obtain ⟨o, d, n, m, a, x, q, h, t, c⟩ := i
  have HL0 : Hid (Below u.heap.size u (u.alloc (.cells (inC ⟨o, d, n, m, a, x, q, h, t, c⟩) 24))) := Lib.hid (lit_b u _)
  have HW0 := Lib.hid (HWu.out.below HL0.out)
  have HB0 := Lib.hid (below_le HL0.out HBu.out)
  have HK0 : Hid (OK b u (u.alloc (.cells (inC ⟨o, d, n, m, a, x, q, h, t, c⟩) 24))) := Lib.hid (OK.of_below HL0.out)
  try simp only [] at HC
  go_enter Tryd.func23, Tryd.ntmps23
  go_wp2_with fail
  refine (HWr.out _ HB0.out).mono ?_
  rintro e v1 ⟨rfl, hb⟩
  have HW1 := Lib.hid (HW0.out.below hb)
  have HB1 := Lib.hid (HB0.out.trans (hb.mono (sz_le HB0.out HBu.out)))
  have HK1 := Lib.hid (HK0.out.trans (OK.of_below hb))
  have hx : Ten u.heap.size ⟨o, d, n, m, a, x, q, h, t, c⟩ v1 := (Ten.made u ⟨o, d, n, m, a, x, q, h, t, c⟩ 24).below hb (by simp)
  obtain ⟨x0, x1, x2, x3, x4, x5, x6, x7, x8, x9⟩ := hx
  clear hb
  go_wp2_with fail
  refine (HC.out _ HB1.out).mono ?_
  rintro e v2 ⟨rfl, hb⟩
  have HW2 := Lib.hid (HW1.out.below hb)
  have HB2 := Lib.hid (HB1.out.trans (hb.mono (sz_le HB1.out HBu.out)))
  have HK2 := Lib.hid (HK1.out.trans (OK.of_below hb))
  clear hb x0 x1 x2 x3 x4 x5 x6 x7 x8 x9
  go_wp2_with fail
  refine (HP.out _ HB2.out HW2.out).mono ?_
  rintro e v3 ⟨rfl, hw, hb, hk⟩
  have HW3 := Lib.hid hw
  have HB3 := Lib.hid (HB2.out.trans hb)
  have HK3 := Lib.hid (HK2.out.trans hk)
  clear hw hb hk
  go_wp2
  go_end0
  exact ⟨rfl, HW3.out, HB3.out, HK3.out⟩
theorem wd_any (i : In) (hi : InB i) {B b k : Nat} {bs : List UInt8} (u : World) (hT : TB B u) (hW : IsW B b (k : Int) bs u) (hk : k ≤ 50) (hl : bs.length ≤ 1000) (hB : B ≤ u.heap.size) : Calls Tryd.prog 23 #[.pointer (some ⟨b, 0, none⟩), inV i] u (MP B b k bs (dT i) u) := by
  cases ho : (writesI i).2
  · exact wd_no i hi u hT hW hk hl hB ho
  · by_cases h1 : (writesI i).1 = 31
    · exact wd_31 i hi u hT hW hk hl hB ho h1
    · exact wd_n i hi u hT hW hk hl hB ho h1
end Go.Proofs.YtkcgnmicaigjfaaDoor
