/- 'cleatlaw25.VeneerApart' answers true, and leaves its arguments as they were, for every input, where the library's table holds what its text lays. No condition of ours. -/
import Derived.Test.YtobdldadfipcgaaGreatDoorPVeneerApartA
namespace Go.Proofs.YtobdldadfipcgaaGreatDoor.veneerApart
open Go.ChangeShapes Go.WideShapes Go.ChangeAt Go.RowKit
open Go.ChangeMaps (open_string)
set_option linter.unusedVariables false
set_option linter.unusedSimpArgs false

theorem both_true {a b : Bool} (h : a = true) (h2 : b = true) : (a && b) = true := by rw [h, h2]; rfl
set_option maxRecDepth 100000 in
theorem piece1 : (fun (P : Program) (f : FuncId) (fn : Func) (s : ChangeSpec) (c : OpenClaim) => c.wf (OpenSpec.ofChange s)) Tryz.pinned.checked.prog 3 Tryz.f3 (OpenSpec.ofChange Rows.veneerApartSpec).bare Rows.veneerApartRow = true := by kernel_rfl
set_option maxRecDepth 100000 in
theorem piece2 : (fun (P : Program) (f : FuncId) (fn : Func) (s : ChangeSpec) (c : OpenClaim) => laidOutB P) Tryz.pinned.checked.prog 3 Tryz.f3 (OpenSpec.ofChange Rows.veneerApartSpec).bare Rows.veneerApartRow = true := by kernel_rfl
set_option maxRecDepth 100000 in
theorem piece3 : (fun (P : Program) (f : FuncId) (fn : Func) (s : ChangeSpec) (c : OpenClaim) => mapsRowed P) Tryz.pinned.checked.prog 3 Tryz.f3 (OpenSpec.ofChange Rows.veneerApartSpec).bare Rows.veneerApartRow = true := by kernel_rfl
set_option maxRecDepth 100000 in
theorem piece4 : (fun (P : Program) (f : FuncId) (fn : Func) (s : ChangeSpec) (c : OpenClaim) => fn.params.all (P.readableRec ·)) Tryz.pinned.checked.prog 3 Tryz.f3 (OpenSpec.ofChange Rows.veneerApartSpec).bare Rows.veneerApartRow = true := by kernel_rfl
set_option maxRecDepth 100000 in
theorem piece5 : (fun (P : Program) (f : FuncId) (fn : Func) (s : ChangeSpec) (c : OpenClaim) => namedTie P c.named s.vars) Tryz.pinned.checked.prog 3 Tryz.f3 (OpenSpec.ofChange Rows.veneerApartSpec).bare Rows.veneerApartRow = true := by kernel_rfl
set_option maxRecDepth 100000 in
theorem piece6 : (fun (P : Program) (f : FuncId) (fn : Func) (s : ChangeSpec) (c : OpenClaim) => (c.stops == [])) Tryz.pinned.checked.prog 3 Tryz.f3 (OpenSpec.ofChange Rows.veneerApartSpec).bare Rows.veneerApartRow = true := by kernel_rfl
set_option maxRecDepth 100000 in
theorem piece7 : (fun (P : Program) (f : FuncId) (fn : Func) (s : ChangeSpec) (c : OpenClaim) => (P.stops == [])) Tryz.pinned.checked.prog 3 Tryz.f3 (OpenSpec.ofChange Rows.veneerApartSpec).bare Rows.veneerApartRow = true := by kernel_rfl
set_option maxRecDepth 100000 in
theorem piece8 : (fun (P : Program) (f : FuncId) (fn : Func) (s : ChangeSpec) (c : OpenClaim) => (c.knobs == [])) Tryz.pinned.checked.prog 3 Tryz.f3 (OpenSpec.ofChange Rows.veneerApartSpec).bare Rows.veneerApartRow = true := by kernel_rfl
set_option maxRecDepth 100000 in
theorem piece9 : (fun (P : Program) (f : FuncId) (fn : Func) (s : ChangeSpec) (c : OpenClaim) => (P.stopKnobs == [])) Tryz.pinned.checked.prog 3 Tryz.f3 (OpenSpec.ofChange Rows.veneerApartSpec).bare Rows.veneerApartRow = true := by kernel_rfl
set_option maxRecDepth 100000 in
theorem piece10 : (fun (P : Program) (f : FuncId) (fn : Func) (s : ChangeSpec) (c : OpenClaim) => (c.inPlace == P.inPlace f)) Tryz.pinned.checked.prog 3 Tryz.f3 (OpenSpec.ofChange Rows.veneerApartSpec).bare Rows.veneerApartRow = true := by kernel_rfl
set_option maxRecDepth 100000 in
theorem piece11 : (fun (P : Program) (f : FuncId) (fn : Func) (s : ChangeSpec) (c : OpenClaim) => (c.unfollowed == P.unfollowed f)) Tryz.pinned.checked.prog 3 Tryz.f3 (OpenSpec.ofChange Rows.veneerApartSpec).bare Rows.veneerApartRow = true := by kernel_rfl
set_option maxRecDepth 100000 in
theorem piece12 : (fun (P : Program) (f : FuncId) (fn : Func) (s : ChangeSpec) (c : OpenClaim) => (c.recurses == P.recurses f)) Tryz.pinned.checked.prog 3 Tryz.f3 (OpenSpec.ofChange Rows.veneerApartSpec).bare Rows.veneerApartRow = true := by kernel_rfl
set_option maxRecDepth 100000 in
theorem piece13 : (fun (P : Program) (f : FuncId) (fn : Func) (s : ChangeSpec) (c : OpenClaim) => (c.named == P.varsNamed f)) Tryz.pinned.checked.prog 3 Tryz.f3 (OpenSpec.ofChange Rows.veneerApartSpec).bare Rows.veneerApartRow = true := by kernel_rfl
set_option maxRecDepth 100000 in
theorem piece14 : (fun (P : Program) (f : FuncId) (fn : Func) (s : ChangeSpec) (c : OpenClaim) => (c.maps == (fn.params.toList ++ s.plain.varTypes P).any (P.mapsRec ·))) Tryz.pinned.checked.prog 3 Tryz.f3 (OpenSpec.ofChange Rows.veneerApartSpec).bare Rows.veneerApartRow = true := by kernel_rfl
set_option maxRecDepth 100000 in
theorem piece15 : (fun (P : Program) (f : FuncId) (fn : Func) (s : ChangeSpec) (c : OpenClaim) => (c.ifaces == (fn.params.toList ++ s.plain.varTypes P).any (P.ifacesRec ·))) Tryz.pinned.checked.prog 3 Tryz.f3 (OpenSpec.ofChange Rows.veneerApartSpec).bare Rows.veneerApartRow = true := by kernel_rfl
set_option maxRecDepth 100000 in
theorem piece16 : (fun (P : Program) (f : FuncId) (fn : Func) (s : ChangeSpec) (c : OpenClaim) => (c.mapsOut == P.mapsAmong fn.resultTypes.toList)) Tryz.pinned.checked.prog 3 Tryz.f3 (OpenSpec.ofChange Rows.veneerApartSpec).bare Rows.veneerApartRow = true := by kernel_rfl
set_option maxRecDepth 100000 in
theorem piece17 : (fun (P : Program) (f : FuncId) (fn : Func) (s : ChangeSpec) (c : OpenClaim) => (c.loops == (fn.params.toList ++ s.plain.varTypes P).any (P.loopsFrom ·))) Tryz.pinned.checked.prog 3 Tryz.f3 (OpenSpec.ofChange Rows.veneerApartSpec).bare Rows.veneerApartRow = true := by kernel_rfl
set_option maxRecDepth 100000 in
theorem piece18 : (fun (P : Program) (f : FuncId) (fn : Func) (s : ChangeSpec) (c : OpenClaim) => (c.wideKeys == (fn.params.toList ++ s.plain.varTypes P ++ fn.resultTypes.toList).any (P.wideKeysFrom ·))) Tryz.pinned.checked.prog 3 Tryz.f3 (OpenSpec.ofChange Rows.veneerApartSpec).bare Rows.veneerApartRow = true := by kernel_rfl
set_option maxRecDepth 100000 in
theorem piece19 : (fun (P : Program) (f : FuncId) (fn : Func) (s : ChangeSpec) (c : OpenClaim) => s.vars.all (P.varReadable ·)) Tryz.pinned.checked.prog 3 Tryz.f3 (OpenSpec.ofChange Rows.veneerApartSpec).bare Rows.veneerApartRow = true := by kernel_rfl
set_option maxRecDepth 100000 in
theorem piece20 : (fun (P : Program) (f : FuncId) (fn : Func) (s : ChangeSpec) (c : OpenClaim) => fn.resultTypes.all (fun t => P.readableRec t && decide (t < P.types.size))) Tryz.pinned.checked.prog 3 Tryz.f3 (OpenSpec.ofChange Rows.veneerApartSpec).bare Rows.veneerApartRow = true := by kernel_rfl
set_option maxRecDepth 100000 in
theorem piece21 : (fun (P : Program) (f : FuncId) (fn : Func) (s : ChangeSpec) (c : OpenClaim) => (c.ifacesOut == fn.resultTypes.toList.any (P.ifacesRec ·))) Tryz.pinned.checked.prog 3 Tryz.f3 (OpenSpec.ofChange Rows.veneerApartSpec).bare Rows.veneerApartRow = true := by kernel_rfl
set_option maxRecDepth 100000 in
theorem piece22 : (fun (P : Program) (f : FuncId) (fn : Func) (s : ChangeSpec) (c : OpenClaim) => (c.loopsOut == fn.resultTypes.toList.any (P.loopsFrom ·))) Tryz.pinned.checked.prog 3 Tryz.f3 (OpenSpec.ofChange Rows.veneerApartSpec).bare Rows.veneerApartRow = true := by kernel_rfl
set_option maxRecDepth 100000 in
theorem piece23 : (fun (P : Program) (f : FuncId) (fn : Func) (s : ChangeSpec) (c : OpenClaim) => (c.plainKeys == P.plainKeys)) Tryz.pinned.checked.prog 3 Tryz.f3 (OpenSpec.ofChange Rows.veneerApartSpec).bare Rows.veneerApartRow = true := by kernel_rfl
set_option maxRecDepth 100000 in
theorem piece24 : (fun (P : Program) (f : FuncId) (fn : Func) (s : ChangeSpec) (c : OpenClaim) => c.shortTexts.isNone) Tryz.pinned.checked.prog 3 Tryz.f3 (OpenSpec.ofChange Rows.veneerApartSpec).bare Rows.veneerApartRow = true := by kernel_rfl
set_option maxRecDepth 100000 in
theorem piece25 : (fun (P : Program) (f : FuncId) (fn : Func) (s : ChangeSpec) (c : OpenClaim) => P.stopsHeard) Tryz.pinned.checked.prog 3 Tryz.f3 (OpenSpec.ofChange Rows.veneerApartSpec).bare Rows.veneerApartRow = true := by kernel_rfl
set_option maxRecDepth 100000 in
theorem piece26 : (fun (P : Program) (f : FuncId) (fn : Func) (s : ChangeSpec) (c : OpenClaim) => P.mayEnter) Tryz.pinned.checked.prog 3 Tryz.f3 (OpenSpec.ofChange Rows.veneerApartSpec).bare Rows.veneerApartRow = true := by kernel_rfl
set_option maxRecDepth 100000 in
theorem piece27 : (fun (P : Program) (f : FuncId) (fn : Func) (s : ChangeSpec) (c : OpenClaim) => (c.lifted == P.liftsFinal)) Tryz.pinned.checked.prog 3 Tryz.f3 (OpenSpec.ofChange Rows.veneerApartSpec).bare Rows.veneerApartRow = true := by kernel_rfl
set_option maxRecDepth 100000 in
theorem piece28 : (fun (P : Program) (f : FuncId) (fn : Func) (s : ChangeSpec) (c : OpenClaim) => (P.make == some c.make)) Tryz.pinned.checked.prog 3 Tryz.f3 (OpenSpec.ofChange Rows.veneerApartSpec).bare Rows.veneerApartRow = true := by kernel_rfl
set_option maxRecDepth 100000 in
theorem piece29 : (fun (P : Program) (f : FuncId) (fn : Func) (s : ChangeSpec) (c : OpenClaim) => (c.kinds == (if c.domain.isEmpty then [] else fn.params.toList.map fun t => match P.underlying t with | some (.int k) => some k | _ => none))) Tryz.pinned.checked.prog 3 Tryz.f3 (OpenSpec.ofChange Rows.veneerApartSpec).bare Rows.veneerApartRow = true := by kernel_rfl
set_option maxRecDepth 100000 in
theorem piece30 : (fun (P : Program) (f : FuncId) (fn : Func) (s : ChangeSpec) (c : OpenClaim) => (c.pinned == c.pinnedBy)) Tryz.pinned.checked.prog 3 Tryz.f3 (OpenSpec.ofChange Rows.veneerApartSpec).bare Rows.veneerApartRow = true := by kernel_rfl
set_option maxRecDepth 100000 in
theorem piece31 : (fun (P : Program) (f : FuncId) (fn : Func) (s : ChangeSpec) (c : OpenClaim) => (c.veiled == (fn.params.toList ++ s.plain.varTypes P ++ fn.resultTypes.toList).any (P.veiledRec ·))) Tryz.pinned.checked.prog 3 Tryz.f3 (OpenSpec.ofChange Rows.veneerApartSpec).bare Rows.veneerApartRow = true := by kernel_rfl
set_option maxRecDepth 100000 in
theorem piece32 : (fun (P : Program) (f : FuncId) (fn : Func) (s : ChangeSpec) (c : OpenClaim) => c.veiledFits P fn.params.toList (fn.params.toList ++ s.plain.varTypes P ++ fn.resultTypes.toList)) Tryz.pinned.checked.prog 3 Tryz.f3 (OpenSpec.ofChange Rows.veneerApartSpec).bare Rows.veneerApartRow = true := by kernel_rfl
set_option maxRecDepth 100000 in
theorem closed : joinedFacts Tryz.pinned.checked.prog 3 Tryz.f3 (OpenSpec.ofChange Rows.veneerApartSpec).bare Rows.veneerApartRow = true := (both_true (both_true (both_true (both_true (both_true (both_true (both_true (both_true (both_true (both_true (both_true (both_true (both_true (both_true (both_true (both_true (both_true (both_true (both_true (both_true (both_true (both_true (both_true (both_true (both_true (both_true (both_true (both_true (both_true (both_true (both_true piece1 piece2) piece3) piece4) piece5) piece6) piece7) piece8) piece9) piece10) piece11) piece12) piece13) piece14) piece15) piece16) piece17) piece18) piece19) piece20) piece21) piece22) piece23) piece24) piece25) piece26) piece27) piece28) piece29) piece30) piece31) piece32)

theorem said : Rows.VeneerApartSaid :=
  OpenClaim.holds_of_cond 3 Tryz.f3 rfl rfl rfl rfl rfl rfl rfl ⟨rfl, rfl, rfl, rfl, rfl⟩ rfl rfl rfl rfl rfl (by kernel_rfl) Tryz.func3 closed
    (of_decide_eq_true (by kernel_rfl)) (by unfold Func.isWrapper; first | (rw [if_pos (by decide +kernel)]; kernel_rfl) | (rw [if_neg (by decide +kernel)]; exact ⟨rfl, rfl⟩))
    (fun os started H enc _ F => by rw [OpenClaim.pre_eq_preRow]; exact lifted os started H enc F)

/-- No parameter wants a stand-in; the program's own looks are off. -/
theorem plain (f : FuncId) (fn : Func) (hf : Tryz.pinned.checked.prog.funcNamed "cleat/cleatlaw25.VeneerApart" = some f) (hfn : Tryz.pinned.checked.prog.funcs[f]? = some fn) :
    false = Tryz.pinned.checked.prog.looks [] ∧ ∀ (j : Nat) t, fn.params[j]? = some t → Tryz.pinned.checked.prog.wantsStandIn t = false := by
  obtain rfl : f = 3 := Option.some.inj ((show Tryz.prog.funcNamed "cleat/cleatlaw25.VeneerApart" = some 3 by kernel_rfl).symm.trans hf) |>.symm
  obtain rfl : fn = Tryz.f3 := (Option.some.inj (Tryz.func3.symm.trans hfn)).symm
  refine ⟨by kernel_rfl, fun j t ht => ?_⟩
  rw [Tryz.params3] at ht
  have hm := Array.mem_of_getElem? ht
  simp only [List.mem_toArray, List.mem_cons, List.mem_nil_iff, or_false] at hm
  rcases hm with rfl | rfl | rfl
  · exact (show Tryz.prog.wantsStandIn 22 = false by kernel_rfl)
  · exact (show Tryz.prog.wantsStandIn 25 = false by kernel_rfl)
  · exact (show Tryz.prog.wantsStandIn 28 = false by kernel_rfl)

theorem card : Rows.VeneerApartCardSaid :=
  Claim7.holds_tied_plain_at .later [] _ _ _ _ said (fun _ h => by cases h) (by kernel_rfl) (fun _ h => by cases h) veneerApart_row_tie rfl ⟨rfl, rfl⟩ (by kernel_rfl) rfl plain (by kernel_rfl)
end Go.Proofs.YtobdldadfipcgaaGreatDoor.veneerApart
