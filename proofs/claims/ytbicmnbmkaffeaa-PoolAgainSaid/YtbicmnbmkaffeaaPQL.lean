/- The law PoolAgain, walked. -/
import Derived.Test.YtbicmnbmkaffeaaPQJ
namespace Go.Proofs.Ytbicmnbmkaffeaa
set_option linter.unusedVariables false
set_option linter.unusedSimpArgs false
open Go.ChangeShapes Go.WideShapes Go.Deep Go.RowKit

theorem info_int : (Try.prog.info? 3).map (fun i => (i.zero, i.size, i.bytes)) = some (some (.int .i64 0), 1, 8) := by kernel_rfl
abbrev intC (l : List Int) : List Value := l.map (Value.int .i64)
/-- A row of numbers stays where the pool's memory turns. -/
theorem owns_fr {w w' : World} {base : Nat} {v : Value} {n : Nat} {xs : List Value} (h : w.ownsRow base 3 1 v n xs) (hf : Fr w w') : w'.ownsRow base 3 1 v n xs := by
  obtain ⟨k1, k2⟩ := h
  refine ⟨k1, ?_⟩
  rcases k2 with k2 | ⟨g, cap, cur, e1, e2, e3, e4⟩
  · exact .inl k2
  · exact .inr ⟨g, cap, cur, e1, e2, (hf g cur _ (by decide) (by decide) e3).trans e3, e4⟩
theorem sl_cells {w : World} {B : Nat} {a : Option Addr} {n : Nat} {l : List Nd} (h : SL ndC 5 w B a n l) {k : Nat} (hk : k < n) (hl : k < l.length) :
    ∃ b off, a = some ⟨b, off, none⟩ ∧ b < B ∧ w.cell? ⟨b, off + k * 5, none⟩ = some (.int .i64 l[k].kind) ∧ w.cell? ⟨b, off + k * 5 + 1, none⟩ = some (.string l[k].sym) ∧ w.cell? ⟨b, off + k * 5 + 2, none⟩ = some (.int .i64 l[k].add) ∧ w.cell? ⟨b, off + k * 5 + 3, none⟩ = some (.bool l[k].minus) ∧ w.cell? ⟨b, off + k * 5 + 4, none⟩ = some (.int .u64 l[k].v) := by
  obtain ⟨b, off, e, h1, h2⟩ := h.cells (h.ne hk)
  refine ⟨b, off, e, h1, ?_, ?_, ?_, ?_, ?_⟩
  · exact h2 k hl 0 (by omega)
  · exact h2 k hl 1 (by omega)
  · exact h2 k hl 2 (by omega)
  · exact h2 k hl 3 (by omega)
  · exact h2 k hl 4 (by omega)
theorem own_int {w : World} {base : Nat} {v : Value} {n : Nat} {xs : List Value} (h : w.ownsRow base 3 1 v n xs) {k : Nat} (hk : v.ownBlock = some k) : base ≤ k ∧ ∃ cur, w.heap[k]? = some (.cells cur 3 (0, 0)) := by
  rcases h.2 with ⟨h, -⟩ | ⟨g, cap, cur, e1, e2, e3, -⟩
  · rw [h] at hk; cases hk
  · rw [e1] at hk
    simp only [Value.ownBlock, Option.some.injEq] at hk
    subst hk; exact ⟨e2, cur, e3⟩
theorem ps_grown {w w' : World} {base p n : Nat} {L : List Lt} {v : Value} {xs : List Value} {U : Obj} (h : PS w base p L) (ho : w.ownsRow base 3 1 v n xs) (hg : (w.alloc U).grownBy w' v.ownBlock) : PS w' base p L :=
  h.other fun k o hk hno => by
    have hkl := lt_of_block hk
    rw [hg.block k (by simp; omega) (fun e => by obtain ⟨-, cur, hc⟩ := own_int ho e.symm; rw [hk] at hc; exact hno _ _ (Option.some.inj hc))]
    exact (Below.heap_alloc w U k hkl).trans hk
/-- The memory that was taken, of which the pool has nothing more. -/
def XR (w : World) (g m : Nat) : Prop := ∃ cs, w.heap[g]? = some (.cells cs 31 (0, 0)) ∧ m * 3 ≤ cs.size
theorem PS0.set {w : World} {base p g o : Nat} {v : Value} {cs : Array Value} (h : PS0 w base p) (hg : w.heap[g]? = some (.cells cs 31 (0, 0))) : PS0 (w.setCell ⟨g, o, none⟩ v) base p := by
  obtain ⟨mv, h1, h2, h3⟩ := h
  refine ⟨mv, ?_, h2, ?_⟩
  · rw [Below.heap_setCell _ _ _ _ (fun e => by simp only [] at e; rw [e, hg] at h1; simp at h1)]; exact h1
  · rcases h3 with h3 | ⟨b, e1, e2, es, c, e3, e4⟩
    · exact .inl h3
    · refine .inr ⟨b, e1, e2, es, c, ?_, e4⟩
      rw [Below.heap_setCell _ _ _ _ (fun e => by simp only [] at e; rw [e, hg] at e3; cases e3)]; exact e3
theorem owns_set {w : World} {base g o n : Nat} {v u : Value} {xs : List Value} {cs : Array Value} (h : w.ownsRow base 3 1 u n xs) (hg : w.heap[g]? = some (.cells cs 31 (0, 0))) : (w.setCell ⟨g, o, none⟩ v).ownsRow base 3 1 u n xs := by
  obtain ⟨k1, k2⟩ := h
  refine ⟨k1, ?_⟩
  rcases k2 with k2 | ⟨g', cap, cur, e1, e2, e3, e4⟩
  · exact .inl k2
  · refine .inr ⟨g', cap, cur, e1, e2, ?_, e4⟩
    rw [Below.heap_setCell _ _ _ _ (fun e => by simp only [] at e; rw [e, hg] at e3; simp at e3)]; exact e3
theorem XR.set {w : World} {g m o : Nat} {v : Value} (h : XR w g m) : XR (w.setCell ⟨g, o, none⟩ v) g m := by
  obtain ⟨cs, h1, h2⟩ := h
  refine ⟨cs.setIfInBounds o v, ?_, by simpa using h2⟩
  unfold World.setCell
  simp [h1, Array.getElem?_modify]
theorem owns_below' {w w' : World} {base : Nat} {v : Value} {n : Nat} {xs : List Value} (h : w.ownsRow base 3 1 v n xs) (hf : ∀ (k : Nat) (cs : Array Value) (T : TypeId), T ≠ 65 → w.heap[k]? = some (.cells cs T (0, 0)) → w'.heap[k]? = w.heap[k]?) : w'.ownsRow base 3 1 v n xs :=
  owns_fr h fun k cs T h1 _ hk => hf k cs T h1 hk
set_option maxRecDepth 100000 in
set_option maxHeartbeats 8000000 in
theorem PoolAgain_walk (a : Option Addr) (n c : Nat) (l : List Nd) (hn : n ≤ maxLen) (hg : ∀ x ∈ l, GoodN x) (w : World) (hl : SL ndC 5 w w.heap.size a n l) : Calls Try.prog 4 #[.slice a n c] w (RetB (.bool true) w) := by
  unfold maxLen at hn
  by_cases h100 : 100 < n
  · go_enter Try.func4, Try.ntmps4
    go_wp2
    go_ret
    exact retB_bool rfl (Below.refl _ _)
  have HK : Hid (∀ w, Calls Try.prog 15 #[] w (RetB (.bool true) w)) := Lib.hid fun w => pooled_any w
  have hln := hl.len
  have HL := Lib.hid hl
  have HLN := Lib.hid hln
  have HG := Lib.hid hg
  obtain ⟨p, hp⟩ : ∃ p, p = w.heap.size := ⟨_, rfl⟩
  have HN := Lib.hid (New_any w)
  have HPE := Lib.hid hp
  obtain ⟨i0, hi0, hz0, hz1, hz2⟩ := info_parts info_int
  clear hp hl hln hg
  go_enter Try.func4, Try.ntmps4
  go_wp2_with fail
  refine HN.out.mono ?_
  rintro e w1 ⟨rfl, h1, hb1⟩
  rw [← HPE.out] at h1 ⊢
  have HP := Lib.hid h1
  have HB := Lib.hid hb1
  clear h1 hb1 HN
  go_wp2
  go_loopw [4, 5] (fun atv i wr => ∃ k : Nat, k ≤ n ∧ i = .int .i64 k ∧ PS wr p p (runP l k).1 ∧ wr.ownsRow p 3 1 atv k (intC (runP l k).2) ∧ Below w.heap.size w wr) (fun _ i _ => n - (intOf i).toNat)
  case atStart => exact ⟨0, by omega, rfl, HP.out, ⟨rfl, .inl ⟨rfl, rfl⟩⟩, HB.out⟩
  case round =>
    obtain ⟨k, hk, rfl, hps, hown, hbw⟩ := hrel
    replace HP := Lib.hid hps
    replace HB := Lib.hid hbw
    have HO := Lib.hid hown
    clear hps hbw hown
    by_cases hlt : k < n
    · have hkl : k < l.length := by rw [← HLN.out]; exact hlt
      obtain ⟨b, off, rfl, hbB, c0, c1, c2, c3, c4⟩ := sl_cells (HL.out.below HB.out) hlt hkl
      have hgk := HG.out l[k] (List.getElem_mem _)
      have hsz := hgk.sym
      unfold maxLen at hsz
      have HR := Lib.hid (runP_succ hkl)
      obtain ⟨hgp, hlen⟩ := runP_good HG.out k (by omega)
      have HPut := Lib.hid (Put_fun (n := l[k]) HP.out hgp hgk)
      have hpb := putF_b hgp l[k]
      obtain ⟨qq, hqq⟩ : ∃ qq, qq = putF (runP l k).1 l[k] := ⟨_, rfl⟩
      rw [← hqq] at HR HPut hpb
      obtain ⟨L2, kr, er⟩ := qq
      simp only [] at HR HPut hpb
      clear hqq
      generalize l[k] = nk at *
      obtain ⟨nk1, nk2, nk3, nk4, nk5⟩ := nk
      by_cases hs : 100 < nk2.size
      · clear hpb
        go_wp2
        go_ret
        exact retB_bool rfl HB.out
      · by_cases he : er = 0
        · subst he
          have HRR : Hid (runP l (k + 1) = (L2, (runP l k).2 ++ [kr])) := Lib.hid (by rw [HR.out, if_pos rfl])
          go_wp2_with fail
          refine (HPut.out).mono ?_
          rintro e w2 ⟨rfl, hp2, hb2, hf2⟩
          replace HP := Lib.hid hp2
          replace HB := Lib.hid (HB.out.trans (hb2.mono (by rw [HPE.out]; exact Nat.le_refl _)))
          replace HO := Lib.hid (owns_fr HO.out hf2)
          have hbase : p ≤ w2.heap.size := by rw [HPE.out]; exact HB.out.size
          have hk100 : k ≤ 100 := by omega
          clear hp2 hb2 hf2 HPut 
          go_wp2_with (at_builtin; refine wpList_append_own _ rfl _ _ 39 rfl p 3 i0 (.int .i64 0) 1 8 Try.underlying39 hi0 hz0 hz1 hz2 rfl (by decide) _ _ _ rfl (HO.out.alloc _) ⟨w2.heap.size, 0, none⟩ 1 1 [.int .i64 (kr)] rfl rfl ?c1 ?c2 ?c3 ?c4 ?c5 ?_)
          case c1 => exact World.news_of_block (cs := #[.int .i64 (kr)]) (MapKept.heap_alloc w2 _).1
          case c2 => intro u hu; simp at hu; subst hu; rfl
          case c3 => unfold maxLen; omega
          case c4 => omega
          case c5 => simp; omega
          intro v' w3 hown3 hgrow _
          replace HP := Lib.hid (ps_grown HP.out HO.out hgrow)
          replace HB := Lib.hid ((HB.out.alloc HB.out.size _).grown hgrow (by have := HB.out.size; simp; omega) (fun k hk => by rw [← HPE.out]; exact (own_int HO.out hk).1))
          have HO3 := Lib.hid hown3
          clear hown3 hgrow hbase
          go_wp2
          go_roundw
          case rel => exact ⟨k + 1, by omega, by go_num, by rw [HRR.out]; exact HP.out, by rw [HRR.out]; have := HO3.out; simpa [intC] using this, HB.out⟩
          case measure => simp [intOf]; omega
        · have HRR : Hid (runP l (k + 1) = (L2, (runP l k).2 ++ [-1])) := Lib.hid (by rw [HR.out, if_neg he])
          have q1 : (er != 0) = true := by rw [bne_iff_ne]; exact he
          go_wp2_with fail
          refine (HPut.out).mono ?_
          rintro e w2 ⟨rfl, hp2, hb2, hf2⟩
          replace HP := Lib.hid hp2
          replace HB := Lib.hid (HB.out.trans (hb2.mono (by rw [HPE.out]; exact Nat.le_refl _)))
          replace HO := Lib.hid (owns_fr HO.out hf2)
          have hbase : p ≤ w2.heap.size := by rw [HPE.out]; exact HB.out.size
          have hk100 : k ≤ 100 := by omega
          clear hp2 hb2 hf2 HPut he
          go_wp2_with (at_builtin; refine wpList_append_own _ rfl _ _ 39 rfl p 3 i0 (.int .i64 0) 1 8 Try.underlying39 hi0 hz0 hz1 hz2 rfl (by decide) _ _ _ rfl (HO.out.alloc _) ⟨w2.heap.size, 0, none⟩ 1 1 [.int .i64 (-1)] rfl rfl ?c1 ?c2 ?c3 ?c4 ?c5 ?_)
          case c1 => exact World.news_of_block (cs := #[.int .i64 (-1)]) (MapKept.heap_alloc w2 _).1
          case c2 => intro u hu; simp at hu; subst hu; rfl
          case c3 => unfold maxLen; omega
          case c4 => omega
          case c5 => simp; omega
          intro v' w3 hown3 hgrow _
          replace HP := Lib.hid (ps_grown HP.out HO.out hgrow)
          replace HB := Lib.hid ((HB.out.alloc HB.out.size _).grown hgrow (by have := HB.out.size; simp; omega) (fun k hk => by rw [← HPE.out]; exact (own_int HO.out hk).1))
          have HO3 := Lib.hid hown3
          clear hown3 hgrow hbase
          go_wp2
          go_roundw
          case rel => exact ⟨k + 1, by omega, by go_num, by rw [HRR.out]; exact HP.out, by rw [HRR.out]; have := HO3.out; simpa [intC] using this, HB.out⟩
          case measure => simp [intOf]; omega
    · obtain rfl : n = k := by omega
      obtain ⟨m, hm⟩ : ∃ m, m = (runP l n).1.length := ⟨_, rfl⟩
      have hm64 : m ≤ 64 := by rw [hm]; exact (runP_good HG.out n (by rw [← HLN.out]; exact Nat.le_refl _)).1.len
      have HM := Lib.hid hm
      by_cases npos : 0 < n
      · by_cases mpos : 0 < m
        · clear hm
          obtain ⟨ga, ca, hav, hga, hgl, -⟩ := owns_cells HO.out npos
          subst hav
          go_wp2_with fail
          refine (Take_any HP.out).mono ?_
          rintro e w2 ⟨lv, rfl, hown, hp0, hbt, hfr⟩
          have HP0 := Lib.hid hp0
          replace HB := Lib.hid (HB.out.trans (hbt.mono (by rw [HPE.out]; exact Nat.le_refl _)))
          replace HO := Lib.hid (owns_below' HO.out hfr)
          rw [← HM.out] at hown
          obtain ⟨gx, cx, hlv, hgx, hgxl, -⟩ := owns_cells hown mpos
          subst hlv
          have hxr : XR w2 gx m := by
            rcases hown.2 with ⟨h, -⟩ | ⟨g', cap', cur, e1, e2, e3, e4, e5, e6, e7⟩
            · cases h
            · injection e1 with e1; injection e1 with e1; injection e1 with e1
              subst e1
              exact ⟨cur, e3, by rw [e6]; exact Nat.mul_le_mul_right _ e4⟩
          have HX := Lib.hid hxr
          clear hxr
          clear hown hp0 hbt hfr HP
          go_wp2
          go_loopw [9] (fun i wr => ∃ j : Nat, j ≤ m ∧ i = .int .i64 j ∧ PS0 wr p p ∧ wr.ownsRow p 3 1 (.slice (some ⟨ga, 0, none⟩) n ca) n (intC (runP l n).2) ∧ XR wr gx m ∧ Below w.heap.size w wr) (fun i _ => m - (intOf i).toNat)
          case atStart => exact ⟨0, by omega, rfl, HP0.out, HO.out, HX.out, HB.out⟩
          case round =>
            obtain ⟨j, hj, rfl, h1, h2, h3, h4⟩ := hrel
            replace HP0 := Lib.hid h1
            replace HO := Lib.hid h2
            replace HX := Lib.hid h3
            replace HB := Lib.hid h4
            clear h1 h2 h3 h4
            by_cases hjm : j < m
            · obtain ⟨cs, x1, x2⟩ := HX.out
              have hjc : j * 3 + 2 < cs.size := by omega
              have d0 : wr.cell? ⟨gx, j * 3 + 2, none⟩ = some cs[j * 3 + 2] := by rw [World.cell?, x1]; simp [hjc]
              have d1 : wr.frozen? ⟨gx, j * 3 + 2, none⟩ = false := by rw [World.frozen?, x1]; rfl
              generalize cs[j * 3 + 2] = od at *
              have HX1 := Lib.hid x1
              clear x1 x2 hjc
              go_wp2
              go_roundw
              case rel => exact ⟨j + 1, by omega, by go_num, HP0.out.set HX1.out, owns_set HO.out HX1.out, HX.out.set, HB.out.setCell (by rw [← HPE.out]; exact hgx) _⟩
              case measure => simp [intOf]; omega
            · obtain rfl : j = m := by omega
              go_wp2_with fail
              refine (Take_any HP0.out.ps).mono ?_
              rintro e w4 ⟨lv4, rfl, hown4, hp4, hbt4, hfr4⟩
              replace HP0 := Lib.hid hp4
              replace HB := Lib.hid (HB.out.trans (hbt4.mono (by rw [HPE.out]; exact Nat.le_refl _)))
              replace HO := Lib.hid (owns_below' HO.out hfr4)
              obtain ⟨a4, c4, hlv4⟩ := owns_form hown4
              subst hlv4
              clear hown4 hp4 hbt4 hfr4
              simp only [List.length_nil]
              go_wp2_with (go_at_call 17; ((with_reducible refine ((Size_any HP0.out.ps)).mono ?_); rintro e w' ⟨rfl, rfl⟩))

              go_loopw [10] (fun i wr => ∃ k : Nat, k ≤ n ∧ i = .int .i64 k ∧ PS wr p p (runP l k).1 ∧ wr.ownsRow p 3 1 (.slice (some ⟨ga, 0, none⟩) n ca) n (intC (runP l n).2) ∧ Below w.heap.size w wr) (fun i _ => n - (intOf i).toNat)
              case atStart => exact ⟨0, by omega, rfl, HP0.out.ps, HO.out, HB.out⟩
              case round =>
                obtain ⟨k, hk, rfl, h1, h2, h3⟩ := hrel
                have HP := Lib.hid h1
                replace HO := Lib.hid h2
                replace HB := Lib.hid h3
                clear h1 h2 h3
                by_cases hlt : k < n
                · have hkl : k < l.length := by rw [← HLN.out]; exact hlt
                  obtain ⟨b, off, hae, hbB, c0, c1, c2, c3, c4⟩ := sl_cells (HL.out.below HB.out) hlt hkl
                  subst hae
                  have hgk := HG.out l[k] (List.getElem_mem _)
                  have hR := runP_succ hkl
                  obtain ⟨hgp, hlen⟩ := runP_good HG.out k (by omega)
                  have HPut := Lib.hid (Put_fun (n := l[k]) HP.out hgp hgk)
                  have hpb := putF_b hgp l[k]
                  have hat := runP_at (l := l) n k (by rw [← HLN.out]; exact Nat.le_refl _) hlt hkl HG.out
                  obtain ⟨qq, hqq⟩ : ∃ qq, qq = putF (runP l k).1 l[k] := ⟨_, rfl⟩
                  rw [← hqq] at hR HPut hpb hat
                  obtain ⟨L2, kr, er⟩ := qq
                  simp only [] at hR HPut hpb hat
                  have HR := Lib.hid (show (runP l (k + 1)).1 = L2 by rw [hR])
                  obtain ⟨kr0, kr1, er0, er1⟩ := hpb
                  clear hqq hR
                  generalize l[k] = nk at *
                  obtain ⟨nk1, nk2, nk3, nk4, nk5⟩ := nk
                  by_cases he : er = 0
                  · subst he
                    rw [if_pos rfl] at hat
                    have HAT := Lib.hid hat
                    clear hat er0 er1
                    go_wp2_with fail
                    refine (HPut.out).mono ?_
                    rintro e w5 ⟨rfl, hp2, hb2, hf2⟩
                    replace HP := Lib.hid hp2
                    replace HB := Lib.hid (HB.out.trans (hb2.mono (by rw [HPE.out]; exact Nat.le_refl _)))
                    replace HO := Lib.hid (owns_fr HO.out hf2)
                    clear hp2 hb2 hf2 HPut
                    have gk : w5.cell? ⟨ga, k, none⟩ = some (.int .i64 kr) := by
                      rw [HO.out.cellAt k (by omega)]
                      simp only [intC, List.getElem?_map, HAT.out]; rfl
                    go_wp2
                    go_roundw
                    case rel => exact ⟨k + 1, by omega, by go_num, by rw [HR.out]; exact HP.out, HO.out, HB.out⟩
                    case measure => simp [intOf]; omega
                  · rw [if_neg he] at hat
                    have HAT := Lib.hid hat
                    have q1 : (er == 0) = false := by rw [beq_eq_false_iff_ne]; exact he
                    have q2 : 1 ≤ er := by omega
                    clear hat he
                    go_wp2_with fail
                    refine (HPut.out).mono ?_
                    rintro e w5 ⟨rfl, hp2, hb2, hf2⟩
                    replace HP := Lib.hid hp2
                    replace HB := Lib.hid (HB.out.trans (hb2.mono (by rw [HPE.out]; exact Nat.le_refl _)))
                    replace HO := Lib.hid (owns_fr HO.out hf2)
                    clear hp2 hb2 hf2 HPut
                    have gk : w5.cell? ⟨ga, k, none⟩ = some (.int .i64 (-1)) := by
                      rw [HO.out.cellAt k (by omega)]
                      simp only [intC, List.getElem?_map, HAT.out]; rfl
                    go_wp2
                    go_roundw
                    case rel => exact ⟨k + 1, by omega, by go_num, by rw [HR.out]; exact HP.out, HO.out, HB.out⟩
                    case measure => simp [intOf]; omega
                · obtain rfl : n = k := by omega
                  have HSz := HM.out.symm
                  go_wp2_with (first
                    | (go_at_call 15; ((with_reducible refine (HK.out _).mono ?_); rintro e w6 ⟨rfl, hb⟩; replace HP := Lib.hid (HP.out.below hb); replace HB := Lib.hid (after HB.out hb); clear hb))
                    | (go_at_call 17; ((with_reducible refine ((Size_any HP.out)).mono ?_); rintro e w' ⟨rfl, rfl⟩)))
                  go_ret
                  exact retB_bool (by simp [HSz]) HB.out
        · obtain rfl : m = 0 := by omega
          clear hm
          obtain ⟨ga, ca, hav, hga, hgl, -⟩ := owns_cells HO.out npos
          subst hav
          go_wp2_with fail
          refine (Take_any HP.out).mono ?_
          rintro e w2 ⟨lv, rfl, hown, hp0, hbt, hfr⟩
          have HP0 := Lib.hid hp0
          replace HB := Lib.hid (HB.out.trans (hbt.mono (by rw [HPE.out]; exact Nat.le_refl _)))
          replace HO := Lib.hid (owns_below' HO.out hfr)
          rw [← HM.out] at hown
          obtain ⟨ax, cx, hlv⟩ := owns_form hown
          subst hlv
          clear hown hp0 hbt hfr HP
          go_wp2
          go_loopw [9] (fun i wr => i = .int .i64 0 ∧ wr = w2) (fun i _ => 0)
          case atStart => exact ⟨rfl, rfl⟩
          case round =>
            obtain ⟨rfl, rfl⟩ := hrel
            go_wp2_with fail
            refine (Take_any HP0.out.ps).mono ?_
            rintro e w4 ⟨lv4, rfl, hown4, hp4, hbt4, hfr4⟩
            replace HP0 := Lib.hid hp4
            replace HB := Lib.hid (HB.out.trans (hbt4.mono (by rw [HPE.out]; exact Nat.le_refl _)))
            replace HO := Lib.hid (owns_below' HO.out hfr4)
            obtain ⟨a4, c4, hlv4⟩ := owns_form hown4
            subst hlv4
            clear hown4 hp4 hbt4 hfr4
            simp only [List.length_nil]
            go_wp2_with (go_at_call 17; ((with_reducible refine ((Size_any HP0.out.ps)).mono ?_); rintro e w' ⟨rfl, rfl⟩))

            go_loopw [10] (fun i wr => ∃ k : Nat, k ≤ n ∧ i = .int .i64 k ∧ PS wr p p (runP l k).1 ∧ wr.ownsRow p 3 1 (.slice (some ⟨ga, 0, none⟩) n ca) n (intC (runP l n).2) ∧ Below w.heap.size w wr) (fun i _ => n - (intOf i).toNat)
            case atStart => exact ⟨0, by omega, rfl, HP0.out.ps, HO.out, HB.out⟩
            case round =>
              obtain ⟨k, hk, rfl, h1, h2, h3⟩ := hrel
              have HP := Lib.hid h1
              replace HO := Lib.hid h2
              replace HB := Lib.hid h3
              clear h1 h2 h3
              by_cases hlt : k < n
              · have hkl : k < l.length := by rw [← HLN.out]; exact hlt
                obtain ⟨b, off, hae, hbB, c0, c1, c2, c3, c4⟩ := sl_cells (HL.out.below HB.out) hlt hkl
                subst hae
                have hgk := HG.out l[k] (List.getElem_mem _)
                have hR := runP_succ hkl
                obtain ⟨hgp, hlen⟩ := runP_good HG.out k (by omega)
                have HPut := Lib.hid (Put_fun (n := l[k]) HP.out hgp hgk)
                have hpb := putF_b hgp l[k]
                have hat := runP_at (l := l) n k (by rw [← HLN.out]; exact Nat.le_refl _) hlt hkl HG.out
                obtain ⟨qq, hqq⟩ : ∃ qq, qq = putF (runP l k).1 l[k] := ⟨_, rfl⟩
                rw [← hqq] at hR HPut hpb hat
                obtain ⟨L2, kr, er⟩ := qq
                simp only [] at hR HPut hpb hat
                have HR := Lib.hid (show (runP l (k + 1)).1 = L2 by rw [hR])
                obtain ⟨kr0, kr1, er0, er1⟩ := hpb
                clear hqq hR
                generalize l[k] = nk at *
                obtain ⟨nk1, nk2, nk3, nk4, nk5⟩ := nk
                by_cases he : er = 0
                · subst he
                  rw [if_pos rfl] at hat
                  have HAT := Lib.hid hat
                  clear hat er0 er1
                  go_wp2_with fail
                  refine (HPut.out).mono ?_
                  rintro e w5 ⟨rfl, hp2, hb2, hf2⟩
                  replace HP := Lib.hid hp2
                  replace HB := Lib.hid (HB.out.trans (hb2.mono (by rw [HPE.out]; exact Nat.le_refl _)))
                  replace HO := Lib.hid (owns_fr HO.out hf2)
                  clear hp2 hb2 hf2 HPut
                  have gk : w5.cell? ⟨ga, k, none⟩ = some (.int .i64 kr) := by
                    rw [HO.out.cellAt k (by omega)]
                    simp only [intC, List.getElem?_map, HAT.out]; rfl
                  go_wp2
                  go_roundw
                  case rel => exact ⟨k + 1, by omega, by go_num, by rw [HR.out]; exact HP.out, HO.out, HB.out⟩
                  case measure => simp [intOf]; omega
                · rw [if_neg he] at hat
                  have HAT := Lib.hid hat
                  have q1 : (er == 0) = false := by rw [beq_eq_false_iff_ne]; exact he
                  have q2 : 1 ≤ er := by omega
                  clear hat he
                  go_wp2_with fail
                  refine (HPut.out).mono ?_
                  rintro e w5 ⟨rfl, hp2, hb2, hf2⟩
                  replace HP := Lib.hid hp2
                  replace HB := Lib.hid (HB.out.trans (hb2.mono (by rw [HPE.out]; exact Nat.le_refl _)))
                  replace HO := Lib.hid (owns_fr HO.out hf2)
                  clear hp2 hb2 hf2 HPut
                  have gk : w5.cell? ⟨ga, k, none⟩ = some (.int .i64 (-1)) := by
                    rw [HO.out.cellAt k (by omega)]
                    simp only [intC, List.getElem?_map, HAT.out]; rfl
                  go_wp2
                  go_roundw
                  case rel => exact ⟨k + 1, by omega, by go_num, by rw [HR.out]; exact HP.out, HO.out, HB.out⟩
                  case measure => simp [intOf]; omega
              · obtain rfl : n = k := by omega
                have HSz := HM.out.symm
                go_wp2_with (first
                  | (go_at_call 15; ((with_reducible refine (HK.out _).mono ?_); rintro e w6 ⟨rfl, hb⟩; replace HP := Lib.hid (HP.out.below hb); replace HB := Lib.hid (after HB.out hb); clear hb))
                  | (go_at_call 17; ((with_reducible refine ((Size_any HP.out)).mono ?_); rintro e w' ⟨rfl, rfl⟩)))
                go_ret
                exact retB_bool (by simp [HSz]) HB.out
      · obtain rfl : n = 0 := by omega
        obtain rfl : m = 0 := hm
        obtain ⟨aa, ca, hav⟩ := owns_form HO.out
        subst hav
        go_wp2_with fail
        refine (Take_any HP.out).mono ?_
        rintro e w2 ⟨lv, rfl, hown, hp0, hbt, hfr⟩
        have HP0 := Lib.hid hp0
        replace HB := Lib.hid (HB.out.trans (hbt.mono (by rw [HPE.out]; exact Nat.le_refl _)))
        replace HO := Lib.hid (owns_below' HO.out hfr)
        rw [← HM.out] at hown
        obtain ⟨ax, cx, hlv⟩ := owns_form hown
        subst hlv
        clear hown hp0 hbt hfr HP
        go_wp2
        go_loopw [9] (fun i wr => i = .int .i64 0 ∧ wr = w2) (fun i _ => 0)
        case atStart => exact ⟨rfl, rfl⟩
        case round =>
          obtain ⟨rfl, rfl⟩ := hrel
          go_wp2_with fail
          refine (Take_any HP0.out.ps).mono ?_
          rintro e w4 ⟨lv4, rfl, hown4, hp4, hbt4, hfr4⟩
          replace HP0 := Lib.hid hp4
          replace HB := Lib.hid (HB.out.trans (hbt4.mono (by rw [HPE.out]; exact Nat.le_refl _)))
          replace HO := Lib.hid (owns_below' HO.out hfr4)
          obtain ⟨a4, c4, hlv4⟩ := owns_form hown4
          subst hlv4
          clear hown4 hp4 hbt4 hfr4
          simp only [List.length_nil]
          go_wp2_with (go_at_call 17; ((with_reducible refine ((Size_any HP0.out.ps)).mono ?_); rintro e w' ⟨rfl, rfl⟩))

          go_loopw [10] (fun i wr => i = .int .i64 0 ∧ wr = w4) (fun i _ => 0)
          case atStart => exact ⟨rfl, rfl⟩
          case round =>
            obtain ⟨rfl, rfl⟩ := hrel
            go_wp2_with (first
              | (go_at_call 15; ((with_reducible refine (HK.out _).mono ?_); rintro e w6 ⟨rfl, hb⟩; replace HP0 := Lib.hid (HP0.out.ps.below hb); replace HB := Lib.hid (after HB.out hb); clear hb))
              | (go_at_call 17; ((with_reducible refine ((Size_any HP0.out)).mono ?_); rintro e w' ⟨rfl, rfl⟩)))
            go_ret
            exact retB_bool rfl HB.out
end Go.Proofs.Ytbicmnbmkaffeaa
