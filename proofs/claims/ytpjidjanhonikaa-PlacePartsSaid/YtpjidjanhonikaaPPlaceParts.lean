/- 'cleatlaw24.PlaceParts' answers true, and leaves its arguments as they were, for every input that its row lets in. No condition of ours. -/
import Derived.Test.YtpjidjanhonikaaL
import Derived.SizedLaws
import Derived.Test.YtpjidjanhonikaaG7
import Derived.Test.YtpjidjanhonikaaQ24
namespace Go.Proofs.Ytpjidjanhonikaa.placeParts
open Go.ChangeShapes Go.WideShapes Go.ChangeAt Go.RowKit
open Go.ChangeMaps (open_string)
set_option linter.unusedVariables false

theorem readable : ∀ t ∈ Try.f6.params.toList, Try.prog.readableRec t = true ∧ t < Try.prog.types.size := by
  rw [Try.params6]
  intro t ht
  simp only [List.mem_cons, List.mem_nil_iff, or_false] at ht
  rcases ht with rfl | rfl | rfl
  · exact ⟨by kernel_rfl, of_decide_eq_true (by kernel_rfl)⟩
  · exact ⟨by kernel_rfl, of_decide_eq_true (by kernel_rfl)⟩
  · exact ⟨by kernel_rfl, of_decide_eq_true (by kernel_rfl)⟩

set_option maxRecDepth 100000 in
theorem lifted (os : Os) (started : os.Started) (H : Type) (enc : TypeId × Value → H) :
    ReturnsInHanded {} Try.checked os 6 .any (Rows.placePartsSpec.pre6 enc Try.prog Try.f6 Rows.placePartsRow.domain false) (Rows.placePartsSpec.post enc Try.prog Try.f6 false true false false) := by
  refine returnsInHanded_of_change_sized (C := Try.checked) own started (by kernel_rfl) Try.func6
    (ChangeSpec.witness6 (enc := enc) (C := Try.checked) false ⟨#[], #[.slice none 0 0, .slice none 0 0, .int .u64 0], []⟩ 8 (by kernel_rfl) (by kernel_rfl) (by kernel_rfl) (by kernel_rfl)) ?_
  intro W base args ds gs before hval0 hW hcnd hsz0 _
  have hsz : (DataW.weightsEach Try.prog (Try.f6.params.toList ++ Rows.placePartsSpec.plain.varTypes Try.prog) (ds ++ gs)).all (· ≤ reachBytes) = true := hsz0
  clear hsz0
  have hval : ∀ (j : Nat) t v, Try.f6.params[j]? = some t → args[j]? = some v → Value.okWide Try.prog W .any base t v := hval0
  have hW' := hW
  have hlt : ∀ x ∈ before, x.block < W.heap.size := fun x hx => hW'.lt x hx
  obtain ⟨p, q, hA0, hV, rfl, hfz, hnd⟩ := hW
  have hA : DataW.TrodAll enc Try.prog W 0 (fun _ => true) true Try.f6.params.toList args.toList ds p := hA0
  rw [Try.params6] at hA hval hsz
  obtain ⟨v0, vs0, d0, ds0, p0, q0, hargs, rfl, rfl, h0, r0⟩ := trodAll_cons hA
  obtain ⟨v1, vs1, d1, ds1, p1, q1, rfl, rfl, rfl, h1, r1⟩ := trodAll_cons r0
  obtain ⟨v2, vs2, d2, ds2, p2, q2, rfl, rfl, rfl, h2, r2⟩ := trodAll_cons r1
  obtain ⟨rfl, rfl, rfl⟩ := trodAll_nil r2
  obtain rfl : args = #[v0, v1, v2] := by cases args; simp_all
  obtain ⟨rfl, rfl⟩ := trodVars_none hV
  obtain ⟨a0, n0, c0, l0, rfl, m0, g0, w0, z0, y0⟩ := _root_.Go.Proofs.Ytpjidjanhonikaa.open_Blocks (hval 0 25 v0 rfl rfl) h0
  have s0 : n0 * 16 ≤ reachBytes := y0 _ _ (fun el sp hd => by have := sized_slice hsz (j := 0) (t := 25) (e := 34) (elems := el) (spare := sp) rfl (by rw [← hd]; rfl) Try.underlying25; rwa [show Try.prog.bytesOf 34 = 16 from by kernel_rfl] at this)
  obtain ⟨a1, n1, c1, l1, rfl, m1, g1, w1, z1, y1⟩ := _root_.Go.Proofs.Ytpjidjanhonikaa.open_Blocks (hval 1 25 v1 rfl rfl) h1
  have s1 : n1 * 16 ≤ reachBytes := y1 _ _ (fun el sp hd => by have := sized_slice hsz (j := 1) (t := 25) (e := 34) (elems := el) (spare := sp) rfl (by rw [← hd]; rfl) Try.underlying25; rwa [show Try.prog.bytesOf 34 = 16 from by kernel_rfl] at this)
  obtain ⟨a2, rfl, rfl, rfl, w2⟩ := open_int Try.underlying22 (hval 2 22 v2 rfl rfl) h2
  clear hA0 hval0
  refine (_root_.Go.Proofs.Ytpjidjanhonikaa.PlaceParts_walk W a0 n0 c0 l0 s0 g0 w0 z0 a1 n1 c1 l1 s1 g1 w1 z1 a2 (wf_u64 w2)).mono fun e W' ⟨he, hb⟩ => ?_
  subst he
  exact ⟨_, rfl, law_post (by kernel_rfl) readable rfl rfl Try.underlying4 rfl rfl hW' hb⟩

theorem over : Rows.placePartsRow.holds Try.pinned (OpenSpec.ofChange Rows.placePartsSpec) :=
  OpenClaim.holds_of_wide 6 Try.f6 rfl rfl rfl rfl rfl rfl rfl ⟨rfl, rfl, rfl, rfl, rfl⟩ rfl rfl rfl rfl rfl (by kernel_rfl) Try.func6 (by kernel_rfl)
    (of_decide_eq_true (by kernel_rfl)) (by unfold Func.isWrapper; first | (rw [if_pos (by decide +kernel)]; kernel_rfl) | (rw [if_neg (by decide +kernel)]; exact ⟨rfl, rfl⟩))
    (fun os started H enc _ => lifted os started H enc)

theorem proved : Rows.PlacePartsSaid := over
end Go.Proofs.Ytpjidjanhonikaa.placeParts
