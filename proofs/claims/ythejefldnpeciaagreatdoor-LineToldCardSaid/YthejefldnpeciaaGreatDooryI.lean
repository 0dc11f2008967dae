/- line: kinds. -/
import Derived.Test.YthejefldnpeciaaGreatDoorzO8
import Derived.Laws.BytesArg
namespace Go.Proofs.YthejefldnpeciaaGreatDoor
set_option linter.unusedVariables false
set_option linter.unusedSimpArgs false
open Go.ChangeShapes Go.WideShapes Go.Deep Go.RowKit

theorem info_u8 : (Tryz.prog.info? 5).map (fun i => (i.zero, i.size, i.bytes)) = some (some (.int .u8 0), 1, 1) := by kernel_rfl
def enB (b : UInt8) : List Value := [.int .u8 (b.toNat : Int)]
theorem enB_len (b : UInt8) : (enB b).length = 1 := rfl
def lettersL : List UInt8 := [63, 114, 110, 115, 109, 61, 108, 104]
def letL (k : Int) : UInt8 := if 0 ≤ k ∧ k < 8 then lettersL.getD k.toNat 63 else 63
def kindsL (l : List Po) : List UInt8 := l.map fun o => letL o.kind
theorem po_cells {w : World} {b off k : Nat} {o : Po} (hc : ∀ j, j < 7 → w.cell? ⟨b, off + k * 7 + j, none⟩ = (poC o)[j]?) :
    w.cell? ⟨b, off + k * 7, none⟩ = some (.int .i64 o.kind) ∧ w.cell? ⟨b, off + k * 7 + 1, none⟩ = some (.int .i64 o.reg) ∧ w.cell? ⟨b, off + k * 7 + 2, none⟩ = some (.bool o.stack) ∧ w.cell? ⟨b, off + k * 7 + 3, none⟩ = some (.bool o.minus) ∧
    w.cell? ⟨b, off + k * 7 + 4, none⟩ = some (.int .u64 o.v) ∧ w.cell? ⟨b, off + k * 7 + 5, none⟩ = some (.string ⟨o.sym.toArray⟩) ∧ w.cell? ⟨b, off + k * 7 + 6, none⟩ = some (.int .i64 o.add) :=
  ⟨hc 0 (by omega), hc 1 (by omega), hc 2 (by omega), hc 3 (by omega), hc 4 (by omega), hc 5 (by omega), hc 6 (by omega)⟩
structure BB (w u : World) (l : List UInt8) (a : Option Addr) (c : Nat) : Prop where
  oo : u.ownsRow w.heap.size 5 1 (.slice a l.length c) l.length (l.flatMap enB)
  kk : Below w.heap.size w u
theorem BB.grow {w u w2 : World} {l : List UInt8} {a a' : Option Addr} {c c' : Nat} {r : UInt8} (h : BB w u l a c) (hown : w2.ownsRow w.heap.size 5 1 (.slice a' (l.length + 1) c') (l.length + 1) (l.flatMap enB ++ enB r)) {o : Obj}
    (hgrow : (u.alloc o).grownBy w2 (Value.slice a l.length c).ownBlock) : BB w w2 (l ++ [r]) a' c' := by
  refine ⟨by simpa [List.flatMap_append] using hown, ?_⟩
  exact (h.kk.alloc h.kk.size _).grown hgrow (by have := h.kk.size; rw [World.size_alloc]; omega) (fun j hj => (h.oo.lt j hj).1)
theorem BB.alloc {w u : World} {l : List UInt8} {a : Option Addr} {c : Nat} (h : BB w u l a c) (o : Obj) : BB w (u.alloc o) l a c := ⟨h.oo.alloc _, h.kk.alloc h.kk.size _⟩
theorem BB.sl {w u : World} {l : List UInt8} {a : Option Addr} {c : Nat} (h : BB w u l a c) : SL enB 1 u u.heap.size a l.length l := by
  obtain ⟨a', c', e, h', -⟩ := SL.ofOwns enB_len (by decide) h.oo
  injection e with e1 e2 e3
  subst e1
  exact h'
theorem BB.next {w u v : World} {l : List UInt8} {a : Option Addr} {c : Nat} (h : BB w u l a c) (hb : Below u.heap.size u v) : BB w v l a c := by
  refine ⟨⟨h.oo.1, ?_⟩, after h.kk hb⟩
  rcases h.oo.2 with h1 | ⟨g, cap, cur, hv, hg, hh, h3⟩
  · exact .inl h1
  · exact .inr ⟨g, cap, cur, hv, hg, (hb.block g (lt_of_block hh)).trans hh, h3⟩
theorem BB.make (w : World) (n : Nat) (hn : n ≤ maxLen) : BB w (w.alloc (.cells (madeCells #[.int .u8 0] n) 5)) [] (some ⟨w.heap.size, 0, none⟩) n := by
  refine ⟨⟨by simp, .inr ⟨w.heap.size, n, madeCells #[.int .u8 0] n, rfl, Nat.le_refl _, (MapKept.heap_alloc w _).1, Nat.zero_le _, hn, by rw [size_madeCells]; simp, by simp⟩⟩, (Below.refl _ _).alloc (Nat.le_refl _) _⟩
theorem strOf_u8 (s : List UInt8) : strOfNums (s.map fun b => (b.toNat : Int)) = ⟨s.toArray⟩ := by
  unfold strOfNums
  rw [List.map_map]
  congr 1
  rw [show ((fun n : Int => UInt8.ofNat n.toNat) ∘ fun b : UInt8 => (b.toNat : Int)) = id from by funext b; simp]
  simp
set_option maxRecDepth 100000 in
theorem conv_own {w u : World} {l : List UInt8} {a : Option Addr} {c : Nat} (h : BB w u l a c) : (convert 89 9 (.slice a l.length c)).run Tryz.prog u = .ok (.string ⟨l.toArray⟩) u := by
  cases a with
  | none =>
    have hl : l = [] := by
      rcases h.oo.2 with ⟨-, h0⟩ | ⟨g, cap, cur, hv, -⟩
      · exact List.length_eq_zero_iff.1 h0
      · cases hv
    subst hl
    exact run_convert_bytes_nil u 89 5 Tryz.underlying89 Tryz.underlying5 0 c 9 Tryz.underlying9
  | some ad =>
    cases hl : l with
    | nil =>
      have : (convert 89 9 (.slice (some ad) 0 c)).run Tryz.prog u = .ok (.string ⟨([] : List UInt8).toArray⟩) u := by
        have := run_convert_bytes_arg (P := Tryz.prog) u 89 5 Tryz.underlying89 Tryz.underlying5 ad.block ad.off 0 c [] rfl (fun i hi => absurd hi (by omega)) 9 Tryz.underlying9
        rcases h.oo.2 with ⟨hv, -⟩ | ⟨g, cap, cur, hv, -⟩
        · cases hv
        · cases hv; exact this
      exact this
    | cons x t =>
      rw [← hl]
      obtain ⟨b, o, e, -, hc⟩ := h.sl.cells (by rw [hl]; simp)
      injection e with e
      subst e
      have := run_convert_bytes_arg (P := Tryz.prog) u 89 5 Tryz.underlying89 Tryz.underlying5 b o l.length c (l.map fun b => (b.toNat : Int)) (by simp) (fun i hi => by
        have := hc i hi 0 (by omega)
        simp only [Nat.mul_one, Nat.add_zero] at this
        rw [this]
        simp [enB, List.getD, hi]) 9 Tryz.underlying9
      rw [strOf_u8] at this
      exact this
theorem letters_at (k : Int) (h0 : 0 ≤ k) (h1 : k < 8) (w : World) : (Instr.index 9 (.string ⟨#[63, 114, 110, 115, 109, 61, 108, 104]⟩) (.int .i64 k)).run Tryz.prog w = .ok (.int .u8 ((letL k).toNat : Int)) w := by
  have hc : k = 0 ∨ k = 1 ∨ k = 2 ∨ k = 3 ∨ k = 4 ∨ k = 5 ∨ k = 6 ∨ k = 7 := by omega
  clear h0 h1
  rcases hc with rfl | rfl | rfl | rfl | rfl | rfl | rfl | rfl
  all_goals (show _ = _; kernel_rfl)
theorem letters_out (k : Int) (h : ¬ (0 ≤ k ∧ k < 8)) : letL k = letL 0 := by unfold letL; rw [if_neg h]; rfl
theorem make_bytes (n : Nat) (hn : n ≤ 1000000) (w : World) : (Instr.makeSlice 89 (.int .i64 0) (.int .i64 (n : Int))).run Tryz.prog w = .ok (.slice (some ⟨w.heap.size, 0, none⟩) 0 n) (w.alloc (.cells (madeCells #[.int .u8 0] n) 5)) := by
  obtain ⟨i0, hi0, hz0, hz1, hz2⟩ := info_parts info_u8
  have := run_makeSlice (P := Tryz.prog) w 89 5 i0 (.int .u8 0) Tryz.underlying89 hi0 hz0 .i64 .i64 0 n (by omega) (by omega) (by rw [hz1]; omega) (by rw [hz2]; omega) (by omega)
  rw [hz1] at this
  simp only [Int.toNat_natCast, Nat.mul_one] at this
  exact this
def KiP (l : List Po) (w : World) (e : Ending) (w' : World) : Prop := e = .returned (.string ⟨(kindsL l).toArray⟩) ∧ Below w.heap.size w w'
set_option maxRecDepth 100000 in
set_option maxHeartbeats 3000000 in
theorem kinds_any (w : World) (oa : Option Addr) (n oc : Nat) (L : List Po) (hs : SL poC 7 w w.heap.size oa n L) (hn : n ≤ 1000000) (hi : ∀ o ∈ L, i64ok o.kind) :
    Calls Tryz.prog 20 #[.slice oa n oc] w (KiP L w) := by
  obtain ⟨i0, hiu, hz0, hz1, hz2⟩ := info_parts info_u8
  have hni : (n : Int) ≤ 1000000 := by omega
  have HN := Lib.hid hn
  have HL := Lib.hid hs.len
  have HI := Lib.hid hi
  have HS : Hid (∀ u, Below w.heap.size w u → SL poC 7 u u.heap.size oa n L) := Lib.hid fun u hu => hs.next hu
  have hmk := make_bytes n hn w
  obtain ⟨W1, hW1⟩ : ∃ x, x = w.alloc (.cells (madeCells #[.int .u8 0] n) 5) := ⟨_, rfl⟩
  obtain ⟨B, hB⟩ : ∃ x, x = w.heap.size := ⟨_, rfl⟩
  have HQ0 : Hid (BB w W1 [] (some ⟨B, 0, none⟩) n) := Lib.hid (by rw [hW1, hB]; exact BB.make w n (by unfold maxLen; omega))
  have HW1 := Lib.hid hW1.symm
  have HBe := Lib.hid hB.symm
  clear hs hi hn hW1 hB
  go_enter Tryz.func20, Tryz.ntmps20
  go_wp2_with fail
  rw [HW1.out, HBe.out]
  go_loopw [3, 12] (fun b i wr => ∃ (q : Nat) (wx : World) (rs : List UInt8) (a : Option Addr) (m c : Nat), wx = wr ∧ q ≤ n ∧ b = .slice a m c ∧ i = .int .i64 q ∧ Hid (m = rs.length) ∧ Hid (BB w wx rs a c) ∧ Hid (rs = kindsL (L.take q))) (fun _ i _ => n - (intOf i).toNat)
  case atStart => exact ⟨0, _, [], _, 0, _, rfl, by omega, rfl, rfl, Lib.hid rfl, HQ0, Lib.hid rfl⟩
  case round =>
    clear HQ0
    obtain ⟨q, wx, rs, a, m, c, rfl, hq, rfl, rfl, HQq, HQ, HRs⟩ := hrel
    by_cases hlt : q < n
    · have hlti : (q : Int) < (n : Int) := by omega
      have HLT := Lib.hid hlt
      obtain ⟨o, ho⟩ : ∃ o, L[q]? = some o := ⟨_, List.getElem?_eq_getElem (by rw [← HL.out]; exact hlt)⟩
      have hsx := HS.out wx HQ.out.kk
      obtain ⟨b, of, hoa, -, hc⟩ := hsx.cells (by intro e; rw [e] at ho; cases ho)
      subst hoa
      obtain ⟨hql', hoe⟩ := List.getElem?_eq_some_iff.1 ho
      obtain ⟨y0, y1, y2, y3, y4, y5, y6⟩ := po_cells (fun j hj => hc q hql' j hj)
      rw [hoe] at y0 y1 y2 y3 y4 y5 y6
      obtain ⟨x, hx⟩ : ∃ x, letL o.kind = x := ⟨_, rfl⟩
      have HR5 : Hid (rs ++ [x] = kindsL (L.take (q + 1))) := Lib.hid (by
        rw [HRs.out, List.take_add_one, ho]; unfold kindsL; simp [hx])
      have hql : Hid (m ≤ 1000000) := Lib.hid (by rw [HQq.out, HRs.out]; unfold kindsL; rw [List.length_map, List.length_take]; have := HN.out; omega)
      have hx0 : Hid (w.heap.size ≤ wx.heap.size) := Lib.hid HQ.out.kk.size
      have HNw : Hid (((wx.alloc (.cells #[.int .i64 o.kind, .int .i64 o.reg, .bool o.stack, .bool o.minus, .int .u64 o.v, .string ⟨o.sym.toArray⟩, .int .i64 o.add] 38)).alloc (.cells #[.int .u8 (x.toNat : Int)] 5)).heap[wx.heap.size + 1]? = some (.cells #[.int .u8 (x.toNat : Int)] 5)) := Lib.hid (by
        have := heap_alloc_new (wx.alloc (.cells #[.int .i64 o.kind, .int .i64 o.reg, .bool o.stack, .bool o.minus, .int .u64 o.v, .string ⟨o.sym.toArray⟩, .int .i64 o.add] 38)) (.cells #[.int .u8 (x.toNat : Int)] 5)
        rwa [World.size_alloc] at this)
      have hki := HI.out o (List.mem_of_getElem? ho)
      clear hsx hc ho hoe hql' hlt hq
      by_cases hk : 0 ≤ o.kind ∧ o.kind < 8
      · have hI := letters_at o.kind hk.1 hk.2
        rw [hx] at hI
        have k1 : ¬ o.kind < 0 := by omega
        have k2 : o.kind < 8 := hk.2
        clear hk hki hx
        go_wp2_with (at_builtin; refine wpList_append_lies _ rfl _ _ 89 rfl w.heap.size 5 i0 (.int .u8 0) 1 1 Tryz.underlying89 hiu hz0 hz1 hz2 rfl (by decide) (.slice a m c) m (rs.flatMap enB) rfl (by have := HQ.out.oo; rw [← HQq.out] at this; exact (this.alloc _).alloc _) ⟨wx.heap.size + 1, 0, none⟩ 1 1 (enB x) rfl rfl (World.news_of_block (cs := #[.int .u8 (x.toNat : Int)]) (t := 5) (fr := (0, 0)) HNw.out) (by simp [enB, Value.oneCell']) (by decide) (by have := hql.out; unfold maxLen; omega) (by have := hql.out; omega) (by have := hx0.out; simp; omega) (wx.heap.size + 1 + 1) (by simp) ?_; intro g cap w2 hown2 hgrow2 hlie2 hlt2)
        rw [HQq.out] at hown2 hgrow2
        have HQ2 := Lib.hid (BB.grow (HQ.out.alloc _) hown2 hgrow2)
        have HQq2 : Hid (m + 1 = (rs ++ [x]).length) := Lib.hid (by rw [HQq.out]; simp)
        clear hown2 hgrow2 hlie2 hlt2 HNw
        go_roundw
        case rel => exact ⟨q + 1, _, _, _, _, _, rfl, by have := HLT.out; omega, rfl, by go_num, HQq2, HQ2, HR5⟩
        case measure => have := HLT.out; simp [intOf]; omega
      · have hI := letters_at 0 (by omega) (by omega)
        rw [← letters_out o.kind hk, hx] at hI
        by_cases k1 : o.kind < 0
        · clear hk hki hx
          go_wp2_with (at_builtin; refine wpList_append_lies _ rfl _ _ 89 rfl w.heap.size 5 i0 (.int .u8 0) 1 1 Tryz.underlying89 hiu hz0 hz1 hz2 rfl (by decide) (.slice a m c) m (rs.flatMap enB) rfl (by have := HQ.out.oo; rw [← HQq.out] at this; exact (this.alloc _).alloc _) ⟨wx.heap.size + 1, 0, none⟩ 1 1 (enB x) rfl rfl (World.news_of_block (cs := #[.int .u8 (x.toNat : Int)]) (t := 5) (fr := (0, 0)) HNw.out) (by simp [enB, Value.oneCell']) (by decide) (by have := hql.out; unfold maxLen; omega) (by have := hql.out; omega) (by have := hx0.out; simp; omega) (wx.heap.size + 1 + 1) (by simp) ?_; intro g cap w2 hown2 hgrow2 hlie2 hlt2)
          rw [HQq.out] at hown2 hgrow2
          have HQ2 := Lib.hid (BB.grow (HQ.out.alloc _) hown2 hgrow2)
          have HQq2 : Hid (m + 1 = (rs ++ [x]).length) := Lib.hid (by rw [HQq.out]; simp)
          clear hown2 hgrow2 hlie2 hlt2 HNw
          go_roundw
          case rel => exact ⟨q + 1, _, _, _, _, _, rfl, by have := HLT.out; omega, rfl, by go_num, HQq2, HQ2, HR5⟩
          case measure => have := HLT.out; simp [intOf]; omega
        · have k2 : ¬ o.kind < 8 := by omega
          clear hk hki hx
          go_wp2_with (at_builtin; refine wpList_append_lies _ rfl _ _ 89 rfl w.heap.size 5 i0 (.int .u8 0) 1 1 Tryz.underlying89 hiu hz0 hz1 hz2 rfl (by decide) (.slice a m c) m (rs.flatMap enB) rfl (by have := HQ.out.oo; rw [← HQq.out] at this; exact (this.alloc _).alloc _) ⟨wx.heap.size + 1, 0, none⟩ 1 1 (enB x) rfl rfl (World.news_of_block (cs := #[.int .u8 (x.toNat : Int)]) (t := 5) (fr := (0, 0)) HNw.out) (by simp [enB, Value.oneCell']) (by decide) (by have := hql.out; unfold maxLen; omega) (by have := hql.out; omega) (by have := hx0.out; simp; omega) (wx.heap.size + 1 + 1) (by simp) ?_; intro g cap w2 hown2 hgrow2 hlie2 hlt2)
          rw [HQq.out] at hown2 hgrow2
          have HQ2 := Lib.hid (BB.grow (HQ.out.alloc _) hown2 hgrow2)
          have HQq2 : Hid (m + 1 = (rs ++ [x]).length) := Lib.hid (by rw [HQq.out]; simp)
          clear hown2 hgrow2 hlie2 hlt2 HNw
          go_roundw
          case rel => exact ⟨q + 1, _, _, _, _, _, rfl, by have := HLT.out; omega, rfl, by go_num, HQq2, HQ2, HR5⟩
          case measure => have := HLT.out; simp [intOf]; omega
    · have hlti : ¬ (q : Int) < (n : Int) := by omega
      have hqe : q = n := by omega
      have HEnd : Hid (rs = kindsL L) := Lib.hid (by rw [HRs.out, hqe, HL.out, List.take_length])
      have hcv := conv_own HQ.out
      rw [← HQq.out] at hcv
      clear hq hlt hqe
      go_wp2
      go_ret
      exact ⟨by rw [← HEnd.out]; rfl, HQ.out.kk⟩
end Go.Proofs.YthejefldnpeciaaGreatDoor
