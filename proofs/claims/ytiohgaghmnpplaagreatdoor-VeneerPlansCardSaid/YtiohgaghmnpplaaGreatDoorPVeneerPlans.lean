/- 'cleatlaw25.VeneerPlans' answers true, and leaves its arguments as they were, for every input, where the library's table holds what its text lays. No condition of ours. -/
import Derived.Test.YtiohgaghmnpplaaGreatDoorPVeneerPlansA
set_option maxRecDepth 100000
set_option linter.unusedVariables false
set_option linter.unusedSimpArgs false
namespace Go.Proofs.YtiohgaghmnpplaaGreatDoor.veneerPlans
open Go.ChangeShapes Go.WideShapes Go.ChangeAt Go.RowKit
open Go.ChangeMaps (open_string)
theorem bT {a b:Bool}(h:a=true)(h2:b=true):(a&&b)=true:=by rw[h,h2];rfl
set_option maxRecDepth 100000
noncomputable abbrev aV (g:Program->FuncId->Func->ChangeSpec->OpenClaim->Bool):Bool:=g Tryz.pinned.checked.prog 4 Tryz.f4 (OpenSpec.ofChange Rows.veneerPlansSpec).bare Rows.veneerPlansRow
theorem p1:aV (fun P f fn s c=>c.wf (OpenSpec.ofChange s))=true:=by kernel_rfl
theorem p2:aV (fun P f fn s c=>laidOutB P)=true:=by kernel_rfl
theorem p3:aV (fun P f fn s c=>mapsRowed P)=true:=by kernel_rfl
theorem p4:aV (fun P f fn s c=>fn.params.all (P.readableRec ·))=true:=by kernel_rfl
theorem p5:aV (fun P f fn s c=>namedTie P c.named s.vars)=true:=by kernel_rfl
theorem p6:aV (fun P f fn s c=>(c.stops== []))=true:=by kernel_rfl
theorem p7:aV (fun P f fn s c=>(P.stops== []))=true:=by kernel_rfl
theorem p8:aV (fun P f fn s c=>(c.knobs== []))=true:=by kernel_rfl
theorem p9:aV (fun P f fn s c=>(P.stopKnobs== []))=true:=by kernel_rfl
theorem p10:aV (fun P f fn s c=>(c.inPlace==P.inPlace f))=true:=by kernel_rfl
theorem p11:aV (fun P f fn s c=>(c.unfollowed==P.unfollowed f))=true:=by kernel_rfl
theorem p12:aV (fun P f fn s c=>(c.recurses==P.recurses f))=true:=by kernel_rfl
theorem p13:aV (fun P f fn s c=>(c.named==P.varsNamed f))=true:=by kernel_rfl
theorem p14:aV (fun P f fn s c=>(c.maps==(fn.params.toList++s.plain.varTypes P).any (P.mapsRec ·)))=true:=by kernel_rfl
theorem p15:aV (fun P f fn s c=>(c.ifaces==(fn.params.toList++s.plain.varTypes P).any (P.ifacesRec ·)))=true:=by kernel_rfl
theorem p16:aV (fun P f fn s c=>(c.mapsOut==P.mapsAmong fn.resultTypes.toList))=true:=by kernel_rfl
theorem p17:aV (fun P f fn s c=>(c.loops==(fn.params.toList++s.plain.varTypes P).any (P.loopsFrom ·)))=true:=by kernel_rfl
theorem p18:aV (fun P f fn s c=>(c.wideKeys==(fn.params.toList++s.plain.varTypes P++fn.resultTypes.toList).any (P.wideKeysFrom ·)))=true:=by kernel_rfl
theorem p19:aV (fun P f fn s c=>s.vars.all (P.varReadable ·))=true:=by kernel_rfl
theorem p20:aV (fun P f fn s c=>fn.resultTypes.all (fun t=>P.readableRec t && decide (t < P.types.size)))=true:=by kernel_rfl
theorem p21:aV (fun P f fn s c=>(c.ifacesOut==fn.resultTypes.toList.any (P.ifacesRec ·)))=true:=by kernel_rfl
theorem p22:aV (fun P f fn s c=>(c.loopsOut==fn.resultTypes.toList.any (P.loopsFrom ·)))=true:=by kernel_rfl
theorem p23:aV (fun P f fn s c=>(c.plainKeys==P.plainKeys))=true:=by kernel_rfl
theorem p24:aV (fun P f fn s c=>c.shortTexts.isNone)=true:=by kernel_rfl
theorem p25:aV (fun P f fn s c=>P.stopsHeard)=true:=by kernel_rfl
theorem p26:aV (fun P f fn s c=>P.mayEnter)=true:=by kernel_rfl
theorem p27:aV (fun P f fn s c=>(c.lifted==P.liftsFinal))=true:=by kernel_rfl
theorem p28:aV (fun P f fn s c=>(P.make==some c.make))=true:=by kernel_rfl
theorem p29:aV (fun P f fn s c=>(c.kinds==(if c.domain.isEmpty then []else fn.params.toList.map fun t=>match P.underlying t with|some (.int k)=>some k|_=>none)))=true:=by kernel_rfl
theorem p30:aV (fun P f fn s c=>(c.pinned==c.pinnedBy))=true:=by kernel_rfl
theorem p31:aV (fun P f fn s c=>(c.veiled==(fn.params.toList++s.plain.varTypes P++fn.resultTypes.toList).any (P.veiledRec ·)))=true:=by kernel_rfl
theorem p32:aV (fun P f fn s c=>c.veiledFits P fn.params.toList (fn.params.toList++s.plain.varTypes P++fn.resultTypes.toList))=true:=by kernel_rfl
theorem closed:joinedFacts Tryz.pinned.checked.prog 4 Tryz.f4 (OpenSpec.ofChange Rows.veneerPlansSpec).bare Rows.veneerPlansRow=true:=(bT (bT (bT (bT (bT (bT (bT (bT (bT (bT (bT (bT (bT (bT (bT (bT (bT (bT (bT (bT (bT (bT (bT (bT (bT (bT (bT (bT (bT (bT (bT p1 p2) p3) p4) p5) p6) p7) p8) p9) p10) p11) p12) p13) p14) p15) p16) p17) p18) p19) p20) p21) p22) p23) p24) p25) p26) p27) p28) p29) p30) p31) p32)
theorem said:Rows.VeneerPlansSaid:=
 OpenClaim.holds_of_cond 4 Tryz.f4 rfl rfl rfl rfl rfl rfl rfl ⟨rfl,rfl,rfl,rfl,rfl⟩ rfl rfl rfl rfl rfl (by kernel_rfl) Tryz.func4 closed
  (of_decide_eq_true (by kernel_rfl)) (by unfold Func.isWrapper;first|(rw[if_pos (by decide+kernel)];kernel_rfl)|(rw[if_neg (by decide+kernel)];exact⟨rfl,rfl⟩))
  (fun os started H enc _ F=>by rw[OpenClaim.pre_eq_preRow];exact lifted os started H enc F)
theorem plain (f:FuncId)(fn:Func)(hf:Tryz.pinned.checked.prog.funcNamed "cleat/cleatlaw25.VeneerPlans" =some f)(hfn:Tryz.pinned.checked.prog.funcs[f]?=some fn):
  false=Tryz.pinned.checked.prog.looks []/\∀(j:Nat) t,fn.params[j]?=some t->Tryz.pinned.checked.prog.wantsStandIn t=false:=by
 obtain rfl:f=4:=Option.some.inj ((show Tryz.prog.funcNamed "cleat/cleatlaw25.VeneerPlans" =some 4 by kernel_rfl).symm.trans hf)|>.symm;obtain rfl:fn=Tryz.f4:=(Option.some.inj (Tryz.func4.symm.trans hfn)).symm;refine⟨by kernel_rfl,fun j t ht=>?_⟩;rw[Tryz.params4]at ht;have hm:=Array.mem_of_getElem? ht;simp only[List.mem_toArray,List.mem_cons,List.mem_nil_iff,or_false]at hm;rcases hm with rfl|rfl|rfl|rfl|rfl|rfl
 ·exact(show Tryz.prog.wantsStandIn 22=false by kernel_rfl)
 ·exact(show Tryz.prog.wantsStandIn 25=false by kernel_rfl)
 ·exact(show Tryz.prog.wantsStandIn 28=false by kernel_rfl)
 ·exact(show Tryz.prog.wantsStandIn 44=false by kernel_rfl)
 ·exact(show Tryz.prog.wantsStandIn 3=false by kernel_rfl)
 ·exact(show Tryz.prog.wantsStandIn 3=false by kernel_rfl)
theorem card:Rows.VeneerPlansCardSaid:=
 Claim7.holds_tied_plain_at .later [] _ _ _ _ said (fun _ h=>by cases h) (by kernel_rfl) (fun _ h=>by cases h) veneerPlans_row_tie rfl ⟨rfl,rfl⟩ (by kernel_rfl) rfl plain (by kernel_rfl)
end Go.Proofs.YtiohgaghmnpplaaGreatDoor.veneerPlans
