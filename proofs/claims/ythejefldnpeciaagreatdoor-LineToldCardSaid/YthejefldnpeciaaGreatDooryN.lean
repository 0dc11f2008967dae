/- line: Make, refused. -/
import Derived.Test.YthejefldnpeciaaGreatDooryM
namespace Go.Proofs.YthejefldnpeciaaGreatDoor
set_option linter.unusedVariables false
set_option linter.unusedSimpArgs false
open Go.ChangeShapes Go.WideShapes Go.Deep Go.RowKit

abbrev set10 (w : World) (X : Nat) (i : In) : World :=
  (((((((((w.setCell ⟨X, 0, none⟩ (.int .i64 i.op)).setCell ⟨X, 1, none⟩ (.int .i64 i.d)).setCell ⟨X, 2, none⟩ (.int .i64 i.n)).setCell ⟨X, 3, none⟩ (.int .i64 i.m)).setCell ⟨X, 4, none⟩ (.int .i64 i.a)).setCell ⟨X, 5, none⟩ (.int .i64 i.imm)).setCell ⟨X, 6, none⟩ (.int .u64 i.mask)).setCell ⟨X, 7, none⟩ (.int .i64 i.shift)).setCell ⟨X, 8, none⟩ (.int .i64 i.amount)).setCell ⟨X, 9, none⟩ (.int .i64 i.cond)
abbrev set5b (w : World) (X : Nat) (n : Nd) : World :=
  ((((w.setCell ⟨X, 0, none⟩ (.int .i64 n.kind)).setCell ⟨X, 1, none⟩ (.string ⟨n.sym.toArray⟩)).setCell ⟨X, 2, none⟩ (.int .i64 n.add)).setCell ⟨X, 3, none⟩ (.bool n.minus)).setCell ⟨X, 4, none⟩ (.int .u64 n.v)
set_option maxRecDepth 100000 in
theorem rb10 {w : World} {X : Nat} {i j : In} {T : TypeId} (h : RB w X (inC j) T) : RB (set10 w X i) X (inC i) T := by
  have h0 : RB w X #[.int .i64 j.op, .int .i64 j.d, .int .i64 j.n, .int .i64 j.m, .int .i64 j.a, .int .i64 j.imm, .int .u64 j.mask, .int .i64 j.shift, .int .i64 j.amount, .int .i64 j.cond] T := h
  have h1 : RB (w.setCell ⟨X, 0, none⟩ (.int .i64 i.op)) X #[.int .i64 i.op, .int .i64 j.d, .int .i64 j.n, .int .i64 j.m, .int .i64 j.a, .int .i64 j.imm, .int .u64 j.mask, .int .i64 j.shift, .int .i64 j.amount, .int .i64 j.cond] T := RB.set h0 (j := 0) _
  have h2 : RB ((w.setCell ⟨X, 0, none⟩ (.int .i64 i.op)).setCell ⟨X, 1, none⟩ (.int .i64 i.d)) X #[.int .i64 i.op, .int .i64 i.d, .int .i64 j.n, .int .i64 j.m, .int .i64 j.a, .int .i64 j.imm, .int .u64 j.mask, .int .i64 j.shift, .int .i64 j.amount, .int .i64 j.cond] T := RB.set h1 (j := 1) _
  have h3 : RB (((w.setCell ⟨X, 0, none⟩ (.int .i64 i.op)).setCell ⟨X, 1, none⟩ (.int .i64 i.d)).setCell ⟨X, 2, none⟩ (.int .i64 i.n)) X #[.int .i64 i.op, .int .i64 i.d, .int .i64 i.n, .int .i64 j.m, .int .i64 j.a, .int .i64 j.imm, .int .u64 j.mask, .int .i64 j.shift, .int .i64 j.amount, .int .i64 j.cond] T := RB.set h2 (j := 2) _
  have h4 : RB ((((w.setCell ⟨X, 0, none⟩ (.int .i64 i.op)).setCell ⟨X, 1, none⟩ (.int .i64 i.d)).setCell ⟨X, 2, none⟩ (.int .i64 i.n)).setCell ⟨X, 3, none⟩ (.int .i64 i.m)) X #[.int .i64 i.op, .int .i64 i.d, .int .i64 i.n, .int .i64 i.m, .int .i64 j.a, .int .i64 j.imm, .int .u64 j.mask, .int .i64 j.shift, .int .i64 j.amount, .int .i64 j.cond] T := RB.set h3 (j := 3) _
  have h5 : RB (((((w.setCell ⟨X, 0, none⟩ (.int .i64 i.op)).setCell ⟨X, 1, none⟩ (.int .i64 i.d)).setCell ⟨X, 2, none⟩ (.int .i64 i.n)).setCell ⟨X, 3, none⟩ (.int .i64 i.m)).setCell ⟨X, 4, none⟩ (.int .i64 i.a)) X #[.int .i64 i.op, .int .i64 i.d, .int .i64 i.n, .int .i64 i.m, .int .i64 i.a, .int .i64 j.imm, .int .u64 j.mask, .int .i64 j.shift, .int .i64 j.amount, .int .i64 j.cond] T := RB.set h4 (j := 4) _
  have h6 : RB ((((((w.setCell ⟨X, 0, none⟩ (.int .i64 i.op)).setCell ⟨X, 1, none⟩ (.int .i64 i.d)).setCell ⟨X, 2, none⟩ (.int .i64 i.n)).setCell ⟨X, 3, none⟩ (.int .i64 i.m)).setCell ⟨X, 4, none⟩ (.int .i64 i.a)).setCell ⟨X, 5, none⟩ (.int .i64 i.imm)) X #[.int .i64 i.op, .int .i64 i.d, .int .i64 i.n, .int .i64 i.m, .int .i64 i.a, .int .i64 i.imm, .int .u64 j.mask, .int .i64 j.shift, .int .i64 j.amount, .int .i64 j.cond] T := RB.set h5 (j := 5) _
  have h7 : RB (((((((w.setCell ⟨X, 0, none⟩ (.int .i64 i.op)).setCell ⟨X, 1, none⟩ (.int .i64 i.d)).setCell ⟨X, 2, none⟩ (.int .i64 i.n)).setCell ⟨X, 3, none⟩ (.int .i64 i.m)).setCell ⟨X, 4, none⟩ (.int .i64 i.a)).setCell ⟨X, 5, none⟩ (.int .i64 i.imm)).setCell ⟨X, 6, none⟩ (.int .u64 i.mask)) X #[.int .i64 i.op, .int .i64 i.d, .int .i64 i.n, .int .i64 i.m, .int .i64 i.a, .int .i64 i.imm, .int .u64 i.mask, .int .i64 j.shift, .int .i64 j.amount, .int .i64 j.cond] T := RB.set h6 (j := 6) _
  have h8 : RB ((((((((w.setCell ⟨X, 0, none⟩ (.int .i64 i.op)).setCell ⟨X, 1, none⟩ (.int .i64 i.d)).setCell ⟨X, 2, none⟩ (.int .i64 i.n)).setCell ⟨X, 3, none⟩ (.int .i64 i.m)).setCell ⟨X, 4, none⟩ (.int .i64 i.a)).setCell ⟨X, 5, none⟩ (.int .i64 i.imm)).setCell ⟨X, 6, none⟩ (.int .u64 i.mask)).setCell ⟨X, 7, none⟩ (.int .i64 i.shift)) X #[.int .i64 i.op, .int .i64 i.d, .int .i64 i.n, .int .i64 i.m, .int .i64 i.a, .int .i64 i.imm, .int .u64 i.mask, .int .i64 i.shift, .int .i64 j.amount, .int .i64 j.cond] T := RB.set h7 (j := 7) _
  have h9 : RB (((((((((w.setCell ⟨X, 0, none⟩ (.int .i64 i.op)).setCell ⟨X, 1, none⟩ (.int .i64 i.d)).setCell ⟨X, 2, none⟩ (.int .i64 i.n)).setCell ⟨X, 3, none⟩ (.int .i64 i.m)).setCell ⟨X, 4, none⟩ (.int .i64 i.a)).setCell ⟨X, 5, none⟩ (.int .i64 i.imm)).setCell ⟨X, 6, none⟩ (.int .u64 i.mask)).setCell ⟨X, 7, none⟩ (.int .i64 i.shift)).setCell ⟨X, 8, none⟩ (.int .i64 i.amount)) X #[.int .i64 i.op, .int .i64 i.d, .int .i64 i.n, .int .i64 i.m, .int .i64 i.a, .int .i64 i.imm, .int .u64 i.mask, .int .i64 i.shift, .int .i64 i.amount, .int .i64 j.cond] T := RB.set h8 (j := 8) _
  have h10 : RB ((((((((((w.setCell ⟨X, 0, none⟩ (.int .i64 i.op)).setCell ⟨X, 1, none⟩ (.int .i64 i.d)).setCell ⟨X, 2, none⟩ (.int .i64 i.n)).setCell ⟨X, 3, none⟩ (.int .i64 i.m)).setCell ⟨X, 4, none⟩ (.int .i64 i.a)).setCell ⟨X, 5, none⟩ (.int .i64 i.imm)).setCell ⟨X, 6, none⟩ (.int .u64 i.mask)).setCell ⟨X, 7, none⟩ (.int .i64 i.shift)).setCell ⟨X, 8, none⟩ (.int .i64 i.amount)).setCell ⟨X, 9, none⟩ (.int .i64 i.cond)) X #[.int .i64 i.op, .int .i64 i.d, .int .i64 i.n, .int .i64 i.m, .int .i64 i.a, .int .i64 i.imm, .int .u64 i.mask, .int .i64 i.shift, .int .i64 i.amount, .int .i64 i.cond] T := RB.set h9 (j := 9) _
  exact h10
theorem rb5 {w : World} {X : Nat} {n m : Nd} {T : TypeId} (h : RB w X (ndA m) T) : RB (set5b w X n) X (ndA n) T :=
  ((((RB.set h (j := 0) (.int .i64 n.kind)).set (j := 1) (.string ⟨n.sym.toArray⟩)).set (j := 2) (.int .i64 n.add)).set (j := 3) (.bool n.minus)).set (j := 4) (.int .u64 n.v)
theorem kp10 (w : World) (X : Nat) (i : In) : KP X w (set10 w X i) :=
  KP.trans' (KP.trans' (KP.trans' (KP.trans' (KP.trans' (KP.trans' (KP.trans' (KP.trans' (KP.trans' (KP.step X w 0 _) (KP.step X _ 1 _)) (KP.step X _ 2 _)) (KP.step X _ 3 _)) (KP.step X _ 4 _)) (KP.step X _ 5 _)) (KP.step X _ 6 _)) (KP.step X _ 7 _)) (KP.step X _ 8 _)) (KP.step X _ 9 _)
theorem kp5 (w : World) (X : Nat) (n : Nd) : KP X w (set5b w X n) :=
  KP.trans' (KP.trans' (KP.trans' (KP.trans' (KP.step X w 0 _) (KP.step X _ 1 _)) (KP.step X _ 2 _)) (KP.step X _ 3 _)) (KP.step X _ 4 _)
/-- The blocks of the results, as they were laid. -/
structure ZZ (w u : World) (R S : Nat) : Prop where
  k : Below w.heap.size w u
  r : RB u R (inC inZ) 26
  s : RB u S (ndA ndZ) 28
  lr : w.heap.size ≤ R
  ls : w.heap.size ≤ S
  ne : R ≠ S
theorem ZZ.next {w u v : World} {R S : Nat} (h : ZZ w u R S) (hb : Below u.heap.size u v) : ZZ w v R S := ⟨after h.k hb, h.r.next hb, h.s.next hb, h.lr, h.ls, h.ne⟩
theorem ZZ.start (w : World) : ZZ w ((w.alloc (.cells (inC inZ) 26)).alloc (.cells (ndA ndZ) 28)) w.heap.size (w.heap.size + 1) := by
  have s1 : (w.alloc (.cells (inC inZ) 26)).heap.size = w.heap.size + 1 := World.size_alloc _ _
  refine ⟨((Below.refl _ _).alloc (Nat.le_refl _) _).alloc (by rw [s1]; omega) _, RB.next (MapKept.heap_alloc w _).1 ((Below.refl _ _).alloc (Nat.le_refl _) _), ?_, Nat.le_refl _, by omega, by omega⟩
  have := (MapKept.heap_alloc (w.alloc (.cells (inC inZ) 26)) (.cells (ndA ndZ) 28)).1
  rw [s1] at this
  exact this
theorem ZZ.kept {w u v : World} {R S p : Nat} (h : ZZ w u R S) (hk : KP p u v) (hR : R ≠ p) (hS : S ≠ p) (hp : w.heap.size ≤ p) : ZZ w v R S := ⟨KP.to_below h.k hk hp, h.r.kept hk hR, h.s.kept hk hS, h.lr, h.ls, h.ne⟩
/-- Both results told. -/
theorem ZZ.told {w u : World} {R S : Nat} (h : ZZ w u R S) (i : In) (n : Nd) : RB (set5b (set10 u R i) S n) R (inC i) 26 ∧ RB (set5b (set10 u R i) S n) S (ndA n) 28 ∧ Below w.heap.size w (set5b (set10 u R i) S n) := by
  have h1 := rb10 (i := i) h.r
  have k1 := kp10 u R i
  have h2 := h.s.kept k1 (Ne.symm h.ne)
  exact ⟨h1.kept (kp5 _ S n) h.ne, rb5 h2, KP.to_below (KP.to_below h.k k1 h.lr) (kp5 _ S n) h.ls⟩
theorem ten_cells {u : World} {R : Nat} {i : In} {T : TypeId} (h : RB u R (inC i) T) :
    u.cell? ⟨R, 0, none⟩ = some (.int .i64 i.op) ∧ u.cell? ⟨R, 1, none⟩ = some (.int .i64 i.d) ∧ u.cell? ⟨R, 2, none⟩ = some (.int .i64 i.n) ∧ u.cell? ⟨R, 3, none⟩ = some (.int .i64 i.m) ∧ u.cell? ⟨R, 4, none⟩ = some (.int .i64 i.a) ∧ u.cell? ⟨R, 5, none⟩ = some (.int .i64 i.imm) ∧ u.cell? ⟨R, 6, none⟩ = some (.int .u64 i.mask) ∧ u.cell? ⟨R, 7, none⟩ = some (.int .i64 i.shift) ∧ u.cell? ⟨R, 8, none⟩ = some (.int .i64 i.amount) ∧ u.cell? ⟨R, 9, none⟩ = some (.int .i64 i.cond) ∧ ∀ j, u.frozen? ⟨R, j, none⟩ = false :=
  ⟨RB.cell h, RB.cell h, RB.cell h, RB.cell h, RB.cell h, RB.cell h, RB.cell h, RB.cell h, RB.cell h, RB.cell h, fun j => RB.frozen h⟩
theorem five_cells {u : World} {S : Nat} {n : Nd} {T : TypeId} (h : RB u S (ndA n) T) :
    u.cell? ⟨S, 0, none⟩ = some (.int .i64 n.kind) ∧ u.cell? ⟨S, 1, none⟩ = some (.string ⟨n.sym.toArray⟩) ∧ u.cell? ⟨S, 2, none⟩ = some (.int .i64 n.add) ∧ u.cell? ⟨S, 3, none⟩ = some (.bool n.minus) ∧ u.cell? ⟨S, 4, none⟩ = some (.int .u64 n.v) ∧ ∀ j, u.frozen? ⟨S, j, none⟩ = false :=
  ⟨RB.cell h, RB.cell h, RB.cell h, RB.cell h, RB.cell h, fun j => RB.frozen h⟩
theorem zeroInst (w : World) : (zeroValue 26).run Tryz.prog w = .ok (.agg (inC inZ)) w := by kernel_rfl
theorem zeroNeed (w : World) : (zeroValue 28).run Tryz.prog w = .ok (.agg #[.int .i64 0, .string ⟨#[]⟩, .int .i64 0, .bool false, .int .u64 0]) w := by kernel_rfl
theorem fldBook (M : Nat) (w : World) : (Instr.field 56 (.agg #[.map (some M)]) 0).run Tryz.prog w = .ok (.map (some M)) w := by kernel_rfl
abbrev mkV (r : In × Nd × Int) : Value := .tuple #[.agg (inC r.1), .agg (ndA r.2.1), .int .i64 r.2.2]
theorem results_make (tmps : Array Value) (w : World) (R S : Nat) (i : In) (n : Nd) (e : Int) (h4 : tmps.getD 4 undef = .pointer (some ⟨R, 0, none⟩)) (h5 : tmps.getD 5 undef = .pointer (some ⟨S, 0, none⟩)) (h6 : tmps.getD 6 undef = .int .i64 e)
    (hR : RB w R (inC i) 26) (hS : RB w S (ndA n) 28) : (results Tryz.f8 tmps).run Tryz.prog w = .ok (mkV (i, n, e)) w := by
  have h4' : tmps[4]?.getD undef = .pointer (some ⟨R, 0, none⟩) := by simpa using h4
  have h5' : tmps[5]?.getD undef = .pointer (some ⟨S, 0, none⟩) := by simpa using h5
  have h6' : tmps[6]?.getD undef = .int .i64 e := by simpa using h6
  have q1 := run_loadVar_row (P := Tryz.prog) w R 26 26 (inC i) (0, 0) _ hR Tryz.underlying26 rfl (by kernel_rfl)
  have q2 := run_loadVar_row (P := Tryz.prog) w S 28 28 (ndA n) (0, 0) _ hS Tryz.underlying28 rfl (by kernel_rfl)
  simp [results, Tryz.results8, h4', h5', h6', asAddr, q1, q2]
set_option maxRecDepth 100000 in
set_option maxHeartbeats 4000000 in
theorem make_name {w : World} (hT : TabL w) (S : ByteArray) (hS : S.size ≤ maxLen) (oa : Option Addr) (n oc : Nat) (h : nameT S.data.toList = none) :
    Calls Tryz.prog 8 #[.string S, .slice oa n oc] w (RetB (mkV (inZ, ndZ, 6)) w) := by
  have hzi := zeroInst
  have hzn := zeroNeed
  have hfb := fldBook
  obtain ⟨W, hW⟩ : ∃ W, W = (w.alloc (.cells (inC inZ) 26)).alloc (.cells (ndA ndZ) 28) := ⟨_, rfl⟩
  obtain ⟨R, hR⟩ : ∃ R, R = w.heap.size := ⟨_, rfl⟩
  obtain ⟨Q, hQ⟩ : ∃ Q, Q = w.heap.size + 1 := ⟨_, rfl⟩
  have HZ : Hid (ZZ w W R Q) := Lib.hid (by rw [hW, hR, hQ]; exact ZZ.start w)
  have HN := Lib.hid (newBook_any W (hT.next HZ.out.k).2.2)
  have HW := Lib.hid hW.symm
  have HRe := Lib.hid hR.symm
  have HQe := Lib.hid hQ.symm
  have HA : Hid (∀ u M, BO u M bookT → (Instr.lookup 54 (.map (some M)) (.string S) true).run Tryz.prog u = .ok (.tuple #[.nilFunc, .bool false]) u) := Lib.hid fun u M hb => hb.absent book_short hS (name_none h)
  clear hT hW hR hQ h hS
  go_enter Tryz.func8, Tryz.ntmps8
  go_wp2_with fail
  rw [HW.out, HQe.out, HRe.out]
  refine HN.out.mono ?_
  rintro e u ⟨M, rfl, hbo, hb⟩
  have hlk := HA.out u M hbo
  have HZu := Lib.hid (HZ.out.next hb)
  obtain ⟨x0, x1, x2, x3, x4, x5, x6, x7, x8, x9, xf⟩ := ten_cells HZu.out.r
  obtain ⟨y0, y1, y2, y3, y4, yf⟩ := five_cells HZu.out.s
  have n1 : R ≠ Q := HZu.out.ne
  have n2 : Q ≠ R := Ne.symm n1
  obtain ⟨hr1, hs1, hb1⟩ := HZu.out.told inZ ndZ
  have H1 := Lib.hid hr1
  have H2 := Lib.hid hs1
  have H3 := Lib.hid hb1
  clear hbo hb hr1 hs1 hb1
  go_wp2
  refine bodyPost_ret (results_make _ _ R Q inZ ndZ 6 rfl rfl rfl H1.out H2.out) rfl ?_
  exact ⟨rfl, H3.out⟩
end Go.Proofs.YthejefldnpeciaaGreatDoor
