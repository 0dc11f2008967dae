/- mem: New. -/
import Derived.Test.YtogigmehclmjcaaMET
namespace Go.Proofs.Ytogigmehclmjcaa
set_option linter.unusedVariables false
set_option linter.unusedSimpArgs false
open Go.ChangeShapes Go.WideShapes Go.Deep Go.RowKit

def keyA (a : Ar) : Nat × Int × List UInt8 := (a.pos, a.kind, a.bs)
def keyR (r : Rg) : Nat × Int × List UInt8 := (r.pos, r.kind, r.data.data.toList)
def NewP (l : List Rg) (w : World) (e : Ending) (w' : World) : Prop :=
  (∃ er : Int, er ≠ 0 ∧ e = .returned (.tuple #[.pointer none, .int .i64 er]) ∧ Below w.heap.size w w' ∧ ((∃ r ∈ l, ¬ (GoodR r ∧ r.pos ≤ 4611686018427387904)) ∨ 2 ≤ l.length)) ∨
  (∃ p L, e = .returned (.tuple #[.pointer (some ⟨p, 0, none⟩), .int .i64 0]) ∧ MS w' w.heap.size p L ∧ Good L ∧ (L.map keyA).Perm (l.map keyR) ∧ Below w.heap.size w w')
theorem new_bad {l : List Rg} {k : Nat} (hk : k < l.length) (h : ¬ (GoodR l[k] ∧ l[k].pos ≤ 4611686018427387904)) : (∃ r ∈ l, ¬ (GoodR r ∧ r.pos ≤ 4611686018427387904)) ∨ 2 ≤ l.length := .inl ⟨l[k], List.getElem_mem _, h⟩
theorem len_of {l : List Rg} {L L' : List Ar} (hk : L.map keyA = l.map keyR) (hp : L'.Perm L) (h1 : ∀ (j : Nat) (h : j < l.length), GoodR l[j]) {a : Ar} (ha : a ∈ L') : a.bs.length ≤ 65536 := by
  have hK : (L'.map keyA).Perm (l.map keyR) := by rw [← hk]; exact hp.map keyA
  have hm : keyA a ∈ l.map keyR := hK.mem_iff.1 (List.mem_map_of_mem ha)
  obtain ⟨r, hr, he⟩ := List.mem_map.1 hm
  obtain ⟨j, hj, rfl⟩ := List.getElem_of_mem hr
  obtain ⟨-, -, g3, g4⟩ := h1 j hj
  unfold keyA keyR at he
  simp only [Prod.mk.injEq] at he
  obtain ⟨e1, -, e3⟩ := he
  have e4 : a.bs.length = l[j].data.size := by rw [← e3]; rfl
  omega
theorem pos_of {l : List Rg} {L L' : List Ar} (hk : L.map keyA = l.map keyR) (hp : L'.Perm L) (h1 : ∀ (j : Nat) (h : j < l.length), l[j].pos ≤ 4611686018427387904) {a : Ar} (ha : a ∈ L') : a.pos ≤ 4611686018427387904 := by
  have hK : (L'.map keyA).Perm (l.map keyR) := by rw [← hk]; exact hp.map keyA
  have hm : keyA a ∈ l.map keyR := hK.mem_iff.1 (List.mem_map_of_mem ha)
  obtain ⟨r, hr, he⟩ := List.mem_map.1 hm
  obtain ⟨j, hj, rfl⟩ := List.getElem_of_mem hr
  have := h1 j hj
  unfold keyA keyR at he
  simp only [Prod.mk.injEq] at he
  omega
theorem good_of {l : List Rg} {L L' : List Ar} (hk : L.map keyA = l.map keyR) (hp : L'.Perm L) (hr : Rises L') (hadj : ∀ (j : Nat) (h : j + 1 < L'.length), L'[j].pos + L'[j].bs.length ≤ L'[j + 1].pos)
    (h1 : ∀ (j : Nat) (h : j < l.length), GoodR l[j]) (h2 : ∀ (j : Nat) (h : j < l.length), l[j].pos ≤ 4611686018427387904) (hn : l.length ≤ 1000) : Good L' ∧ (L'.map keyA).Perm (l.map keyR) := by
  have hK : (L'.map keyA).Perm (l.map keyR) := by rw [← hk]; exact hp.map keyA
  refine ⟨⟨fun i j hi hj hij => ?_, fun a ha => ?_, ?_⟩, hK⟩
  · have h3 := hadj i (by omega)
    have h4 := hr (i + 1) j (by omega) hj (by omega)
    omega
  · have hm : keyA a ∈ l.map keyR := hK.mem_iff.1 (List.mem_map_of_mem ha)
    obtain ⟨r, hr, he⟩ := List.mem_map.1 hm
    obtain ⟨j, hj, rfl⟩ := List.getElem_of_mem hr
    obtain ⟨-, -, g3, g4⟩ := h1 j hj
    have g5 := h2 j hj
    unfold keyA keyR at he
    simp only [Prod.mk.injEq] at he
    obtain ⟨e1, -, e3⟩ := he
    have e4 : a.bs.length = l[j].data.size := by rw [← e3]; rfl
    exact ⟨by omega, by omega, by omega⟩
  · have := hK.length_eq
    simp only [List.length_map] at this
    omega
set_option maxRecDepth 100000 in
set_option maxHeartbeats 8000000 in
theorem New_walk (a : Option Addr) (n c : Nat) (l : List Rg) (w : World) (hl : SL rgC 3 w w.heap.size a n l) (hn : n ≤ 1000) (hp : ∀ r ∈ l, r.pos < 18446744073709551616) (hz : ∀ r ∈ l, r.data.size ≤ maxLen) :
    Calls Try.prog 7 #[.slice a n c] w (NewP l w) := by
  have hln := hl.len
  have HL := Lib.hid hl
  have HLN := Lib.hid hln
  have HZ := Lib.hid hz
  have HPP := Lib.hid hp
  have HB := Lib.hid (Below.refl w.heap.size w)
  clear hl hln hz hp
  go_enter Try.func7, Try.ntmps7
  go_wp2
  go_loopw [15] (fun i wr => ∃ k : Nat, k ≤ n ∧ i = .int .i64 k ∧ Hid (∀ (j : Nat) (h : j < l.length), j < k → GoodR l[j]) ∧ Below w.heap.size w wr) (fun i _ => n - (intOf i).toNat)
  case atStart => exact ⟨0, by omega, rfl, Lib.hid (fun j h hj => by omega), HB.out⟩
  case round =>
    obtain ⟨k, hk, rfl, H1, hb⟩ := hrel
    replace HB := Lib.hid hb
    clear hb
    by_cases hlt : k < n
    · have hkl : k < l.length := by rw [← HLN.out]; exact hlt
      obtain ⟨b, off, rfl, hbB, c0, c1, c2⟩ := sl_rg (HL.out.below HB.out) hlt hkl
      have hz := HZ.out l[k] (List.getElem_mem _)
      have HN : Hid (GoodR l[k] → ∀ (j : Nat) (h : j < l.length), j < k + 1 → GoodR l[j]) := Lib.hid (fun h0 j h hj => by
        by_cases e : j = k
        · subst e; exact h0
        · exact H1.out j h (by omega))
      have HX := Lib.hid (new_bad hkl)
      generalize l[k] = r at *
      obtain ⟨P, K, D⟩ := r
      simp only [] at c0 c1 c2 hz
      unfold maxLen at hz
      clear hkl
      by_cases g1 : K < 1
      · go_wp2
        go_ret2
        exact .inl ⟨1, by decide, rfl, HB.out.alloc HB.out.size _, HX.out (fun h => by have := h.1.1; (try simp only [] at this); omega)⟩
      by_cases g2 : 3 < K
      · go_wp2
        go_ret2
        exact .inl ⟨1, by decide, rfl, HB.out.alloc HB.out.size _, HX.out (fun h => by have := h.1.2.1; (try simp only [] at this); omega)⟩
      by_cases g3 : D.size = 0
      · have g3' : ((D.size : Nat) : Int) = 0 := by omega
        go_wp2
        go_ret2
        exact .inl ⟨1, by decide, rfl, HB.out.alloc HB.out.size _, HX.out (fun h => by have := h.1.2.2.1; (try simp only [] at this); omega)⟩
      by_cases g4 : 65536 < D.size
      · go_wp2
        go_ret2
        exact .inl ⟨1, by decide, rfl, HB.out.alloc HB.out.size _, HX.out (fun h => by have := h.1.2.2.2; simp only [] at this; omega)⟩
      have g3' : ((D.size : Int) == 0) = false := by rw [beq_eq_false_iff_ne]; omega
      have g5 : 1 ≤ D.size := by omega
      clear g3
      go_wp2
      go_roundw
      case rel => exact ⟨k + 1, by omega, by go_num, Lib.hid (HN.out ⟨by simp only []; omega, by simp only []; omega, by simp only []; omega, by simp only []; omega⟩), HB.out.alloc HB.out.size _⟩
      case measure => simp [intOf]; omega
    · obtain rfl : n = k := by omega
      have HG1 : Hid (∀ (j : Nat) (h : j < l.length), GoodR l[j]) := Lib.hid (fun j h => H1.out j h (by rw [HLN.out]; exact h))
      clear H1
      go_wp2
      go_loopw [42] (fun i wr => ∃ k : Nat, k ≤ n ∧ i = .int .i64 k ∧ Hid (∀ (j : Nat) (h : j < l.length), j < k → l[j].pos ≤ 4611686018427387904) ∧ Below w.heap.size w wr) (fun i _ => n - (intOf i).toNat)
      case atStart => exact ⟨0, by omega, rfl, Lib.hid (fun j h hj => by omega), HB.out⟩
      case round =>
        obtain ⟨k, hk, rfl, H1, hb⟩ := hrel
        replace HB := Lib.hid hb
        clear hb
        by_cases hlt : k < n
        · have hkl : k < l.length := by rw [← HLN.out]; exact hlt
          obtain ⟨b, off, hae, hbB, c0, c1, c2⟩ := sl_rg (HL.out.below HB.out) hlt hkl
          subst hae
          have HN : Hid (l[k].pos ≤ 4611686018427387904 → ∀ (j : Nat) (h : j < l.length), j < k + 1 → l[j].pos ≤ 4611686018427387904) := Lib.hid (fun h0 j h hj => by
            by_cases e : j = k
            · subst e; exact h0
            · exact H1.out j h (by omega))
          have HX := Lib.hid (new_bad hkl)
          generalize l[k] = r at *
          obtain ⟨P, K, D⟩ := r
          simp only [] at c0 c1 c2
          clear hkl
          by_cases g1 : 4611686018427387904 < P
          · go_wp2
            go_ret2
            exact .inl ⟨4, by decide, rfl, HB.out.alloc HB.out.size _, HX.out (fun h => by have := h.2; omega)⟩
          go_wp2
          go_roundw
          case rel => exact ⟨k + 1, by omega, by go_num, Lib.hid (HN.out (by simp only []; omega)), HB.out.alloc HB.out.size _⟩
          case measure => simp [intOf]; omega
        · obtain rfl : n = k := by omega
          have HG2 : Hid (∀ (j : Nat) (h : j < l.length), l[j].pos ≤ 4611686018427387904) := Lib.hid (fun j h => H1.out j h (by rw [HLN.out]; exact h))
          clear H1
          obtain ⟨p, hp⟩ : ∃ p, p = wr.heap.size := ⟨_, rfl⟩
          have HM0 : Hid (MS (wr.alloc (.cells #[.slice none 0 0] 46)) w.heap.size p []) := Lib.hid ⟨.slice none 0 0, by rw [hp]; exact (MapKept.heap_alloc wr _).1, by rw [hp]; exact HB.out.size, ⟨rfl, .inl ⟨rfl, rfl⟩⟩, by simp, by simp⟩
          replace HB := Lib.hid (HB.out.alloc HB.out.size (.cells #[.slice none 0 0] 46))
          have hpb : w.heap.size ≤ p := by have := HM0.out; obtain ⟨-, -, h, -⟩ := this; exact h
          have HPE := Lib.hid hp
          clear hp
          go_wp2
          rw [← HPE.out]
          go_loopw [54] (fun i wr => ∃ (k : Nat) (L : List Ar), k ≤ n ∧ i = .int .i64 k ∧ L.length = k ∧ Hid (L.map keyA = (l.take k).map keyR) ∧ MS wr w.heap.size p L ∧ Below w.heap.size w wr) (fun i _ => n - (intOf i).toNat)
          case atStart => exact ⟨0, [], by omega, rfl, rfl, Lib.hid rfl, HM0.out, HB.out⟩
          case round =>
            obtain ⟨k, L, hk, rfl, hLk, HK, hms, hb⟩ := hrel
            replace HB := Lib.hid hb
            have HM := Lib.hid hms
            clear hb hms HM0
            by_cases hlt : k < n
            · have hkl : k < l.length := by rw [← HLN.out]; exact hlt
              obtain ⟨b, off, hae, hbB, c0, c1, c2⟩ := sl_rg (HL.out.below HB.out) hlt hkl
              subst hae
              have HKN : Hid (∀ x : Ar, keyA x = keyR l[k] → (L ++ [x]).map keyA = (l.take (k + 1)).map keyR) := Lib.hid (fun x hx => by
                rw [List.map_append, HK.out, List.take_succ_eq_append_getElem hkl, List.map_append, List.map_singleton, List.map_singleton, hx])
              have hgr := HG1.out k hkl
              generalize l[k] = r at *
              obtain ⟨P, K, D⟩ := r
              obtain ⟨-, -, d1, d2⟩ := hgr
              simp only [] at c0 c1 c2 d1 d2
              clear hkl
              obtain ⟨v, h1, h2, h3, h4, h5⟩ := HM.out
              rw [hLk] at h3
              obtain ⟨va, vc, rfl⟩ := owns_form h3
              obtain ⟨R, hR⟩ : ∃ R, R = wr.heap.size := ⟨_, rfl⟩
              obtain ⟨W, hW⟩ : ∃ W, W = wr.alloc (.cells #[.int .u64 P, .int .i64 K, .string D] 42) := ⟨_, rfl⟩
              have hWB : Below wr.heap.size wr W := by rw [hW]; exact (Below.refl _ _).alloc (Nat.le_refl _) _
              have hRW : W.heap[R]? = some (.cells #[.int .u64 P, .int .i64 K, .string D] 42 (0, 0)) := by rw [hW, hR]; exact (MapKept.heap_alloc wr _).1
              have hpW := (hWB.block p (lt_of_block h1)).trans h1
              have c3 : W.cell? ⟨R, 0, none⟩ = some (.int .u64 P) := by rw [World.cell?, hRW]; rfl
              have c4 : W.cell? ⟨R, 1, none⟩ = some (.int .i64 K) := by rw [World.cell?, hRW]; rfl
              have c5 : W.cell? ⟨R, 2, none⟩ = some (.string D) := by rw [World.cell?, hRW]; rfl
              have p0 : W.cell? ⟨p, 0, none⟩ = some (.slice va k vc) := by rw [World.cell?, hpW]; rfl
              have HMW := Lib.hid (HM.out.below hWB)
              have HOW := Lib.hid (owns_below h3 hWB)
              have HpW := Lib.hid hpW
              have hRl : R < W.heap.size := lt_of_block hRW
              have hpl : p < W.heap.size := lt_of_block hpW
              have HWB := Lib.hid hWB
              have HW := Lib.hid hW
              have HRE := Lib.hid hR
              have hWb : w.heap.size ≤ W.heap.size := by omega
              have hnr : (Value.slice va k vc).ownBlock ≠ some R := fun e => by
                obtain ⟨-, cur, hc⟩ := own_ar h3 e
                have := lt_of_block hc; omega
              clear h1 h2 h3 h4 h5 hR hW hWB hRW hpW
              obtain ⟨i0, hi0, hz0, hz1, hz2⟩ := info_parts info_area
              go_wp2_with fail
              rw [← HW.out, ← HRE.out]
              have hno : (Value.slice va k vc).ownBlock ≠ some p := fun e => by
                obtain ⟨-, cur, hc⟩ := own_ar HOW.out e
                have := HpW.out
                rw [this] at hc; simp at hc
              go_region_law ((first
                | (go_simp; go_at_call 14; refine (newArea_any P K D W.drew d1 d2).mono ?_; rintro e w2 ⟨b2, hb2, rfl, hb3, hb4⟩; have hb5 := ((Below.refl W.heap.size W).drew).trans hb4; have hp2 : p < w2.heap.size := Nat.lt_of_lt_of_le hpl hb5.size; have hR2 : R < w2.heap.size := Nat.lt_of_lt_of_le hRl hb5.size; have HM2 := Lib.hid (HMW.out.below hb5); have HO2 := Lib.hid (owns_below HOW.out hb5); have s0 : w2.cell? ⟨p, 0, none⟩ = some (.slice va k vc) := (hb4.cell (p := ⟨p, 0, none⟩) hpl).trans p0; have s1 : w2.cell? ⟨R, 0, none⟩ = some (.int .u64 P) := (hb4.cell (p := ⟨R, 0, none⟩) hRl).trans c3; have s2 : w2.cell? ⟨R, 1, none⟩ = some (.int .i64 K) := (hb4.cell (p := ⟨R, 1, none⟩) hRl).trans c4; have s3 : w2.cell? ⟨R, 2, none⟩ = some (.string D) := (hb4.cell (p := ⟨R, 2, none⟩) hRl).trans c5; have HB5 := Lib.hid hb5; have HB3 := Lib.hid hb3; have s4 : w2.frozen? ⟨p, 0, none⟩ = false := (by rw [World.frozen?, (HB5.out.block p hpl).trans HpW.out]; rfl); clear hb3 hb4 hb5)
                | (refine step_append_lies _ (by rfl) _ _ _ (by rfl) w.heap.size 51 i0 _ 3 40 Try.underlying44 hi0 hz0 hz1 hz2 rfl (by omega) (.slice va k vc) k (L.flatMap arC) (by rfl) (HO2.out.alloc _) ⟨w2.heap.size, 0, none⟩ 1 1 (arC ⟨P, K, b2, D.data.toList⟩) (by rfl) (by rfl) (World.news_of_block (cs := #[.int .u64 P, .int .i64 K, .slice (some ⟨b2, 0, none⟩) D.size D.size]) (t := 51) (fr := (0, 0)) (heap_alloc_new w2 _)) (by simp [arC, Value.oneCell']) (by omega) (by unfold maxLen; omega) (by omega) (by simp; omega) (w2.heap.size + 1) (by simp) ?_; intro g cap w3 hown3 hgrow hat hlt3; have t0 : w3.cell? ⟨p, 0, none⟩ = some (.slice va k vc) := (hgrow.cell_far _ (by simp; omega) (Ne.symm hno)).trans ((World.cell?_alloc_past (w := w2) _ _ _ hp2).trans s0); have t1 : w3.cell? ⟨R, 0, none⟩ = some (.int .u64 P) := (hgrow.cell_far _ (by simp; omega) (Ne.symm hnr)).trans ((World.cell?_alloc_past (w := w2) _ _ _ hR2).trans s1); have t2 : w3.cell? ⟨R, 1, none⟩ = some (.int .i64 K) := (hgrow.cell_far _ (by simp; omega) (Ne.symm hnr)).trans ((World.cell?_alloc_past (w := w2) _ _ _ hR2).trans s2); have t3 : w3.cell? ⟨R, 2, none⟩ = some (.string D) := (hgrow.cell_far _ (by simp; omega) (Ne.symm hnr)).trans ((World.cell?_alloc_past (w := w2) _ _ _ hR2).trans s3); have t4 : w3.frozen? ⟨p, 0, none⟩ = false := (hgrow.frozen_far _ (by simp; omega) (Ne.symm hno)).trans ((World.frozen?_alloc_past (w := w2) _ _ _ hp2).trans s4))))
              all_goals
                have hp2' := (HB5.out.block p hpl).trans HpW.out
                have hnew : b2 ∉ L.map Ar.blk := fun hm => by
                  obtain ⟨y, hy, hye⟩ := List.mem_map.1 hm
                  have hay : AB W w.heap.size y := by obtain ⟨-, -, -, -, h4, -⟩ := HMW.out; exact h4 y hy
                  have h9 := lt_of_block hay.2
                  have h8 : W.heap.size ≤ b2 := hb2
                  omega
                have hE := ms_end HM2.out hp2' (a := ⟨P, K, b2, D.data.toList⟩) ⟨Nat.le_trans hWb hb2, HB3.out⟩ hnew (by rw [hLk]; exact hown3) hgrow
                have HE := Lib.hid hE
                rw [hLk] at HE
                have HKN2 := Lib.hid (HKN.out ⟨P, K, b2, D.data.toList⟩ rfl)
                clear hE hp2' hnew hown3 hgrow hat
                go_wp2
                go_roundw
                case rel => exact ⟨k + 1, L ++ [⟨P, K, b2, D.data.toList⟩], by omega, by go_num, by simp [hLk], HKN2, HE.out.1, ((HB.out.trans (HWB.out.mono HB.out.size)).trans (HB5.out.mono hWb)).trans HE.out.2⟩
                case measure => simp [intOf]; omega
            · obtain rfl : n = k := by omega
              have hkeys : (L.map keyA) = l.map keyR := by rw [HK.out, List.take_of_length_le (by rw [HLN.out]; exact Nat.le_refl _)]
              obtain ⟨v, h1, -⟩ := HM.out
              have HS := Lib.hid (sort_any HM.out h1 (by omega))
              have p0 : wr.cell? ⟨p, 0, none⟩ = some v := by rw [World.cell?, h1]; rfl
              have HKE := Lib.hid hkeys
              clear h1 hkeys HK
              go_wp2_with fail
              refine HS.out.mono ?_
              rintro e w2 ⟨rfl, L', hperm, hris, hms, hb⟩
              have HM2 := Lib.hid hms
              have HP2 := Lib.hid hperm
              have HR2 := Lib.hid hris
              replace HB := Lib.hid (HB.out.trans hb)
              have hLn : L'.length = n := by rw [hperm.length_eq, hLk]
              clear hb hms hperm hris HM HS p0
              go_wp2
              go_loopw [11] (fun i wr => ∃ k : Nat, 1 ≤ k ∧ (k = 1 ∨ k ≤ n) ∧ i = .int .i64 k ∧ Hid (∀ (j : Nat) (h : j + 1 < L'.length), j + 1 < k → L'[j].pos + L'[j].bs.length ≤ L'[j + 1].pos) ∧ MS wr w.heap.size p L' ∧ Below w.heap.size w wr) (fun i _ => n - (intOf i).toNat)
              case atStart => exact ⟨1, by omega, .inl rfl, rfl, Lib.hid (fun j h hj => by omega), HM2.out, HB.out⟩
              case round =>
                obtain ⟨k, hk1, hk, rfl, H1, hms, hb⟩ := hrel
                replace HB := Lib.hid hb
                have HM := Lib.hid hms
                clear hb hms
                obtain ⟨v', h1, -, h3, -⟩ := HM.out
                rw [hLn] at h3
                obtain ⟨va, vc, rfl⟩ := owns_form h3
                have p0 : wr.cell? ⟨p, 0, none⟩ = some (.slice va n vc) := by rw [World.cell?, h1]; rfl
                have hpl : p < wr.heap.size := lt_of_block h1
                clear h1 h3
                by_cases hlt : k < n
                · obtain ⟨j, rfl⟩ : ∃ j, k = j + 1 := ⟨k - 1, by omega⟩
                  obtain ⟨g, cap, p1, hgl, c0, c1, c2⟩ := ar_cells HM.out (show j < L'.length by omega)
                  obtain ⟨g', cap', p2, -, c3, c4, c5⟩ := ar_cells HM.out (show j + 1 < L'.length by omega)
                  rw [p0] at p1 p2
                  injection p1 with p1
                  injection p1 with p1 p1n p1c
                  injection p2 with p2
                  injection p2 with p2 p2n p2c
                  clear p1n p2n
                  rw [p1] at p2
                  injection p2 with p2
                  injection p2 with p2 p2o p2s
                  clear p2o p2s
                  subst p1 p1c p2 p2c
                  have hle := HR2.out j (j + 1) (by omega) (by omega) (by omega)
                  have HN : Hid (L'[j].pos + L'[j].bs.length ≤ L'[j + 1].pos → ∀ (i : Nat) (h : i + 1 < L'.length), i + 1 < j + 1 + 1 → L'[i].pos + L'[i].bs.length ≤ L'[i + 1].pos) := Lib.hid (fun h0 i h hi => by
                    by_cases e : i = j
                    · subst e; exact h0
                    · exact H1.out i h (by omega))
                  have hM65 := len_of HKE.out HP2.out HG1.out (a := L'[j]) (List.getElem_mem _)
                  have hP2 := pos_of HKE.out HP2.out HG2.out (a := L'[j + 1]) (List.getElem_mem _)
                  generalize L'[j + 1] = A2 at *
                  generalize L'[j] = A1 at *
                  obtain ⟨P1, K1, X1, S1⟩ := A1
                  obtain ⟨P2, K2, X2, S2⟩ := A2
                  simp only [] at c0 c1 c2 c3 c4 c5 hle hM65 hP2
                  obtain ⟨M, hM⟩ : ∃ M, M = S1.length := ⟨_, rfl⟩
                  rw [← hM] at hM65 c2
                  have HMM := Lib.hid hM
                  obtain ⟨R, hR⟩ : ∃ R, R = wr.heap.size := ⟨_, rfl⟩
                  obtain ⟨W, hW⟩ : ∃ W, W = wr.alloc (.cells #[.int .u64 P1, .int .i64 K1, .slice (some ⟨X1, 0, none⟩) M M] 51) := ⟨_, rfl⟩
                  have hWB : Below wr.heap.size wr W := by rw [hW]; exact (Below.refl _ _).alloc (Nat.le_refl _) _
                  have hRW : W.heap[R]? = some (.cells #[.int .u64 P1, .int .i64 K1, .slice (some ⟨X1, 0, none⟩) M M] 51 (0, 0)) := by rw [hW, hR]; exact (MapKept.heap_alloc wr _).1
                  have HMW := Lib.hid (HM.out.below hWB)
                  have HB2 := Lib.hid (HB.out.trans (hWB.mono HB.out.size))
                  have w0 : W.cell? ⟨p, 0, none⟩ = some (.slice (some ⟨g, 0, none⟩) n vc) := (hWB.cell (p := ⟨p, 0, none⟩) hpl).trans p0
                  have w3 : W.cell? ⟨g, (j + 1) * 3, none⟩ = some (.int .u64 P2) := (hWB.cell (p := ⟨g, (j + 1) * 3, none⟩) hgl).trans c3
                  have r0 : W.cell? ⟨R, 0, none⟩ = some (.int .u64 P1) := by rw [World.cell?, hRW]; rfl
                  have r2 : W.cell? ⟨R, 2, none⟩ = some (.slice (some ⟨X1, 0, none⟩) M M) := by rw [World.cell?, hRW]; rfl
                  obtain ⟨F, hF⟩ : ∃ F, F = P2 - P1 := ⟨_, rfl⟩
                  have hxF : (P2 : Int) - P1 = (F : Int) := by omega
                  have hFeq : P1 + F = P2 := by omega
                  have hFw : IntKind.u64.wrap (F : Int) = (F : Int) := by rw [IntKind.wrap_u64, Int.emod_eq_of_lt (by omega) (by omega)]
                  have HW := Lib.hid hW
                  have HRE := Lib.hid hR
                  have HFE := Lib.hid hFeq
                  have hn2 : 2 ≤ l.length := by rw [← HLN.out]; omega
                  clear hW hR hWB hRW hF hFeq hle hM hP2
                  by_cases hov : F < M
                  · go_wp2_with fail
                    rw [← HW.out, ← HRE.out]
                    go_quiet (fail)
                    go_wp2
                    go_ret2
                    exact .inl ⟨7, by decide, rfl, below_drewN HB2.out _, .inr hn2⟩
                  · go_wp2_with fail
                    rw [← HW.out, ← HRE.out]
                    go_quiet (fail)
                    go_wp2
                    go_roundw
                    case rel => exact ⟨j + 1 + 1, by omega, .inr (by omega), by go_num, Lib.hid (HN.out (by have h1 := HFE.out; have h2 := HMM.out; show P1 + S1.length ≤ P2; omega)), HMW.out.below (below_refl_drewN _ _), below_drewN HB2.out _⟩
                    case measure => simp [intOf]; omega
                · have HF : Hid (Good L' ∧ (L'.map keyA).Perm (l.map keyR)) := Lib.hid (good_of HKE.out HP2.out HR2.out (fun j h => H1.out j h (by omega)) HG1.out HG2.out (by rw [← HLN.out]; exact hn))
                  go_wp2
                  go_ret2
                  exact .inr ⟨p, L', rfl, HM.out, HF.out.1, HF.out.2, HB.out⟩
end Go.Proofs.Ytogigmehclmjcaa
