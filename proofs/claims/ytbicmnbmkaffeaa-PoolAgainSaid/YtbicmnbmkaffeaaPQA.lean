/- The document's rows of layer 15. -/
import Derived.Test.YtbicmnbmkaffeaaPQ9
namespace Go.Proofs.Ytbicmnbmkaffeaa
set_option linter.unusedVariables false
set_option linter.unusedSimpArgs false
open Go.ChangeShapes Go.WideShapes Go.Deep Go.RowKit

abbrev pn1 : Nd := ⟨10, ⟨#[]⟩, 0, true, 1⟩
abbrev pn2 : Nd := ⟨10, ⟨#[]⟩, 0, false, 18446744073709551615⟩
abbrev pn3 : Nd := ⟨10, ⟨#[97]⟩, 8, false, 0⟩
abbrev pn4 : Nd := ⟨10, ⟨#[97]⟩, 0, false, 0⟩
abbrev pn5 : Nd := ⟨4, ⟨#[97]⟩, 0, false, 0⟩
abbrev lA : Lt := ⟨⟨#[]⟩, 0, 18446744073709551615⟩
abbrev lB : Lt := ⟨⟨#[97]⟩, 8, 0⟩
abbrev lC : Lt := ⟨⟨#[97]⟩, 0, 0⟩
theorem e97 : (⟨#[97]⟩ : ByteArray) ≠ ⟨#[]⟩ := by intro h; injection h with h; simp at h
theorem po1 : ofL pn1 = (lA, 0) := by simp [ofL]
theorem po2 : ofL pn2 = (lA, 0) := by simp [ofL]
theorem po3 : ofL pn3 = (lB, 0) := by simp [ofL]
theorem po4 : ofL pn4 = (lC, 0) := by simp [ofL]
theorem po5 : ofL pn5 = (lz, 1) := by simp [ofL]
theorem gn1 : GoodN pn1 := ⟨by decide, by decide, by decide, by decide⟩
theorem gn2 : GoodN pn2 := ⟨by decide, by decide, by decide, by decide⟩
theorem gn3 : GoodN pn3 := ⟨by decide, by decide, by decide, by decide⟩
theorem gn4 : GoodN pn4 := ⟨by decide, by decide, by decide, by decide⟩
theorem gn5 : GoodN pn5 := ⟨by decide, by decide, by decide, by decide⟩
theorem gA : GoodL lA := by have := ofL_good gn1; rwa [po1] at this
theorem gB : GoodL lB := by have := ofL_good gn3; rwa [po3] at this
theorem gC : GoodL lC := by have := ofL_good gn4; rwa [po4] at this
theorem lAB : lA ≠ lB := by intro h; injection h with h; exact e97 h.symm
theorem lAC : lA ≠ lC := by intro h; injection h with h; exact e97 h.symm
theorem lBC : lB ≠ lC := by intro h; injection h with _ h; simp at h

theorem pc1 {w : World} {base p : Nat} (h : PS w base p []) : Calls Try.prog 13 #[.pointer (some ⟨p, 0, none⟩), ndV pn1] w (PutP base p [lA] (0, 0) w) := by
  have := Put_new h (by simp) (by simp) pn1 gn1 (by rw [po1]) (by simp) (by simp)
  rwa [po1] at this
theorem pc2 {w : World} {base p : Nat} (h : PS w base p [lA]) : Calls Try.prog 13 #[.pointer (some ⟨p, 0, none⟩), ndV pn2] w (PutP base p [lA] (0, 0) w) :=
  Put_old h (by intro y hy; simp at hy; subst hy; exact gA) (by simp) pn2 gn2 (by rw [po2]) 0 (by rw [po2]; rfl)
theorem pc3 {w : World} {base p : Nat} (h : PS w base p [lA]) : Calls Try.prog 13 #[.pointer (some ⟨p, 0, none⟩), ndV pn3] w (PutP base p [lA, lB] (1, 0) w) := by
  have := Put_new h (by intro y hy; simp only [List.mem_singleton] at hy; subst hy; exact gA) (by simp) pn3 gn3 (by rw [po3]) (by rw [po3]; intro hm; exact lAB (List.mem_singleton.1 hm).symm) (by simp)
  rwa [po3] at this
theorem two_mem {y a b : Lt} (hy : y ∈ [a, b]) : y = a ∨ y = b := by
  rcases List.mem_cons.1 hy with h | h
  · exact .inl h
  · exact .inr (List.mem_singleton.1 h)
theorem good2 : ∀ y ∈ [lA, lB], GoodL y := by
  intro y hy
  rcases two_mem hy with rfl | rfl
  · exact gA
  · exact gB
theorem new2 : lC ∉ [lA, lB] := by
  intro hm
  rcases two_mem hm with h | h
  · exact lAC h.symm
  · exact lBC h.symm
theorem pc4 {w : World} {base p : Nat} (h : PS w base p [lA, lB]) : Calls Try.prog 13 #[.pointer (some ⟨p, 0, none⟩), ndV pn4] w (PutP base p [lA, lB, lC] (2, 0) w) := by
  have := Put_new h good2 (List.nodup_cons.2 ⟨fun hm => lAB (List.mem_singleton.1 hm), by simp⟩) pn4 gn4 (by rw [po4]) (by rw [po4]; exact new2) (by simp)
  rwa [po4] at this
theorem pc5 {w : World} {base p : Nat} {l : List Lt} (h : PS w base p l) : Calls Try.prog 13 #[.pointer (some ⟨p, 0, none⟩), ndV pn5] w (PutP base p l (0, 1) w) := by
  have := Put_bad h pn5 gn5 (by rw [po5]; decide)
  rwa [po5] at this
theorem pc6 (w : World) : Calls Try.prog 18 #[litV ⟨⟨#[]⟩, 0, 258⟩] w (RetB (.tuple #[.string ⟨#[2, 1, 0, 0, 0, 0, 0, 0]⟩, .int .i64 0]) w) := by
  have := Value_any ⟨⟨#[]⟩, 0, 258⟩ w ⟨by decide, by decide, by decide⟩ (by simp) (by simp)
  rwa [show leB 8 (258 : Int).toNat = [2, 1, 0, 0, 0, 0, 0, 0] from by decide +kernel] at this

set_option maxRecDepth 100000 in
set_option maxHeartbeats 4000000 in
theorem pooled_any (w : World) : Calls Try.prog 15 #[] w (RetB (.bool true) w) := by
  obtain ⟨p, hp⟩ : ∃ p, p = w.heap.size := ⟨_, rfl⟩
  have HN := Lib.hid (New_any w)
  have HPE := Lib.hid hp
  clear hp
  go_enter Try.func15, Try.ntmps15
  go_wp2_with fail
  refine HN.out.mono ?_
  rintro e w1 ⟨rfl, h1, hb1⟩
  rw [← HPE.out] at h1 ⊢
  have HP := Lib.hid h1
  have HB := Lib.hid hb1
  clear h1 hb1 HN
  go_wp2_with fail
  refine (pc1 HP.out).mono ?_
  rintro e w2 ⟨rfl, h2, hb2, -⟩
  replace HP := Lib.hid h2
  replace HB := Lib.hid (HB.out.trans (hb2.mono (by rw [HPE.out]; exact Nat.le_refl _)))
  clear h2 hb2
  go_wp2_with fail
  refine (pc2 HP.out).mono ?_
  rintro e w3 ⟨rfl, h3, hb3, -⟩
  replace HP := Lib.hid h3
  replace HB := Lib.hid (HB.out.trans (hb3.mono (by rw [HPE.out]; exact Nat.le_refl _)))
  clear h3 hb3
  go_wp2_with fail
  refine (pc3 HP.out).mono ?_
  rintro e w4 ⟨rfl, h4, hb4, -⟩
  replace HP := Lib.hid h4
  replace HB := Lib.hid (HB.out.trans (hb4.mono (by rw [HPE.out]; exact Nat.le_refl _)))
  clear h4 hb4
  go_wp2_with fail
  refine (pc4 HP.out).mono ?_
  rintro e w5 ⟨rfl, h5, hb5, -⟩
  replace HP := Lib.hid h5
  replace HB := Lib.hid (HB.out.trans (hb5.mono (by rw [HPE.out]; exact Nat.le_refl _)))
  clear h5 hb5
  go_wp2_with fail
  refine (pc5 HP.out).mono ?_
  rintro e w6 ⟨rfl, h6, hb6, -⟩
  replace HP := Lib.hid h6
  replace HB := Lib.hid (HB.out.trans (hb6.mono (by rw [HPE.out]; exact Nat.le_refl _)))
  clear h6 hb6
  go_wp2_with fail
  refine (pc6 w6).mono ?_
  rintro e w7 ⟨rfl, hb7⟩
  replace HP := Lib.hid (HP.out.below hb7)
  replace HB := Lib.hid (after HB.out (hb7))
  clear hb7
  go_wp2_with (go_at_call 17; ((with_reducible refine ((Size_any HP.out)).mono ?_); rintro e w' ⟨rfl, rfl⟩))
  go_ret
  exact retB_bool rfl HB.out
end Go.Proofs.Ytbicmnbmkaffeaa
