/- 'cleatlaw25.VeneerPlans' answers true, and leaves its arguments as they were, for every input, where the library's table holds what its text lays. No condition of ours. -/
import Derived.Test.YtiohgaghmnpplaaGreatDoorCards
import Derived.Test.YtiohgaghmnpplaaGreatDoorTie
import Derived.Test.YtiohgaghmnpplaaGreatDoorqA
import Derived.Deep.DeepHandedRow
import Derived.Lib.LaidTab
import Derived.Stop.LaidErr
import Derived.SizedLaws
import Derived.Lib.LaidU8T
import Derived.PinnedBridge
import Derived.Test.YtiohgaghmnpplaaGreatDoory3
import Derived.Test.YtiohgaghmnpplaaGreatDoorqT
set_option maxRecDepth 100000
set_option linter.unusedVariables false
set_option linter.unusedSimpArgs false
namespace Go.Proofs.YtiohgaghmnpplaaGreatDoor.veneerPlans
open Go.ChangeShapes Go.WideShapes Go.ChangeAt Go.RowKit
open Go.ChangeMaps (open_string)
theorem gTab0:Tryz.prog.globalNamed "math/bits.deBruijn32tab" =some 8:=by kernel_rfl
theorem gTabType0:(Tryz.prog.globals[8]?).map (·.type)=some 284:=by kernel_rfl
theorem gCells0:Tryz.prog.cellsOf 284=32:=by kernel_rfl
theorem gElem0:Tryz.prog.cellsOf 5=1:=by kernel_rfl
theorem table0 {W:World}(h:laidMetH Tryz.prog Rows.veneerPlansRow.laid W):Lib.TabIs Tryz.prog W "math/bits.deBruijn32tab" .u8 [0,1,28,2,29,14,24,3,30,22,20,15,25,17,4,8,31,27,13,23,21,19,16,7,26,12,18,6,11,5,10,9]:=
 Lib.tabIs_of_head (rest:=_) gTab0 gTabType0 Tryz.underlying284 Tryz.underlying5 gElem0 gCells0 h
theorem gTab1:Tryz.prog.globalNamed "math/bits.deBruijn64tab" =some 3:=by kernel_rfl
theorem gTabType1:(Tryz.prog.globals[3]?).map (·.type)=some 248:=by kernel_rfl
theorem gCells1:Tryz.prog.cellsOf 248=64:=by kernel_rfl
theorem gElem1:Tryz.prog.cellsOf 5=1:=by kernel_rfl
theorem table1 {W:World}(h:laidMetH Tryz.prog Rows.veneerPlansRow.laid W):Lib.TabIs Tryz.prog W "math/bits.deBruijn64tab" .u8 [0,1,56,2,57,49,28,3,61,58,42,50,38,29,17,4,62,47,59,36,45,43,51,22,53,39,33,30,24,18,12,5,63,55,48,27,60,41,37,16,46,35,44,21,52,32,23,11,54,26,40,15,34,20,31,10,25,14,19,9,13,8,7,6]:=
 Lib.tabIs_of_head (rest:=_) gTab1 gTabType1 Tryz.underlying248 Tryz.underlying5 gElem1 gCells1 (laidMet.tail h)
theorem gTab2:Tryz.prog.globalNamed "cleat/inst.shapes" =some 1:=by kernel_rfl
theorem gTabType2:(Tryz.prog.globals[1]?).map (·.type)=some 163:=by kernel_rfl
theorem gCells2:Tryz.prog.cellsOf 163=40:=by kernel_rfl
theorem gElem2:Tryz.prog.cellsOf 3=1:=by kernel_rfl
theorem table2 {W:World}(h:laidMetH Tryz.prog Rows.veneerPlansRow.laid W):Lib.TabIs Tryz.prog W "cleat/inst.shapes" .i64 [0,1,1,1,2,2,2,2,3,3,3,3,4,4,4,4,5,5,5,5,6,6,7,7,8,8,9,10,10,11,11,12,9,9,13,13,13,14,15,16]:=
 Lib.tabIs_of_head (rest:=_) gTab2 gTabType2 Tryz.underlying163 Tryz.underlying3 gElem2 gCells2 (laidMet.tail (laidMet.tail h))
theorem gTab3:Tryz.prog.globalNamed "cleat/code.bases" =some 0:=by kernel_rfl
theorem gTabType3:(Tryz.prog.globals[0]?).map (·.type)=some 116:=by kernel_rfl
theorem gCells3:Tryz.prog.cellsOf 116=40:=by kernel_rfl
theorem gElem3:Tryz.prog.cellsOf 70=1:=by kernel_rfl
theorem table3 {W:World}(h:laidMetH Tryz.prog Rows.veneerPlansRow.laid W):Lib.TabIs Tryz.prog W "cleat/code.bases" .u32 [0,3531603968,2457862144,4068474880,2432696320,3506438144,2969567232,4043309056,2449473536,2986344448,3523215360,4060086272,2332033024,3405774848,2868903936,3942645760,2315255808,2852126720,3388997632,3925868544,2600468480,2600501248,4181721088,4177526784,960495616,956301312,1476395008,268435456,2415919104,335544320,2483027968,1409286144,3019898880,3036676096,3592355840,3594452992,3596550144,3556769793,3573751839,2592079872]:=
 Lib.tabIs_of_head (rest:=_) gTab3 gTabType3 Tryz.underlying116 Tryz.underlying70 gElem3 gCells3 (laidMet.tail (laidMet.tail (laidMet.tail h)))
theorem gTab4:Tryz.prog.globalNamed "cleat/code.loose" =some 6:=by kernel_rfl
theorem gTabType4:(Tryz.prog.globals[6]?).map (·.type)=some 269:=by kernel_rfl
theorem gCells4:Tryz.prog.cellsOf 269=17:=by kernel_rfl
theorem gElem4:Tryz.prog.cellsOf 70=1:=by kernel_rfl
theorem table4 {W:World}(h:laidMetH Tryz.prog Rows.veneerPlansRow.laid W):Lib.TabIs Tryz.prog W "cleat/code.loose" .u32 [0,8388607,8388607,8388607,14680063,14680063,2064383,4194303,4194303,16777215,1627389951,67108863,16777199,992,2097120,0,2094079]:=
 Lib.tabIs_of_head (rest:=_) gTab4 gTabType4 Tryz.underlying269 Tryz.underlying70 gElem4 gCells4 (laidMet.tail (laidMet.tail (laidMet.tail (laidMet.tail h))))
theorem gTab5:Tryz.prog.globalNamed "internal/strconv.uint64pow10" =some 7:=by kernel_rfl
theorem gTabType5:(Tryz.prog.globals[7]?).map (·.type)=some 282:=by kernel_rfl
theorem gCells5:Tryz.prog.cellsOf 282=20:=by kernel_rfl
theorem gElem5:Tryz.prog.cellsOf 26=1:=by kernel_rfl
theorem table5 {W:World}(h:laidMetH Tryz.prog Rows.veneerPlansRow.laid W):Lib.TabIs Tryz.prog W "internal/strconv.uint64pow10" .u64 [1,10,100,1000,10000,100000,1000000,10000000,100000000,1000000000,10000000000,100000000000,1000000000000,10000000000000,100000000000000,1000000000000000,10000000000000000,100000000000000000,1000000000000000000,10000000000000000000]:=
 Lib.tabIs_of_head (rest:=_) gTab5 gTabType5 Tryz.underlying282 Tryz.underlying26 gElem5 gCells5 (laidMet.tail (laidMet.tail (laidMet.tail (laidMet.tail (laidMet.tail h)))))
theorem gTab6:Tryz.prog.globalNamed "cleat/operand.shiftNames" =some 4:=by kernel_rfl
theorem gTabType6:(Tryz.prog.globals[4]?).map (·.type)=some 268:=by kernel_rfl
theorem gCells6:Tryz.prog.cellsOf 268=4:=by kernel_rfl
theorem gElem6:Tryz.prog.cellsOf 9=1:=by kernel_rfl
theorem table6 {W:World}(h:laidMetH Tryz.prog Rows.veneerPlansRow.laid W):StrIs Tryz.prog W "cleat/operand.shiftNames" [[108,115,108],[108,115,114],[97,115,114],[114,111,114]]:=
 strIs_of_head (rest:=_) gTab6 gTabType6 Tryz.underlying268 Tryz.underlying9 gElem6 gCells6 (laidMet.tail (laidMet.tail (laidMet.tail (laidMet.tail (laidMet.tail (laidMet.tail h))))))
theorem gTab7:Tryz.prog.globalNamed "cleat/part.fitting" =some 2:=by kernel_rfl
theorem gTabType7:(Tryz.prog.globals[2]?).map (·.type)=some 222:=by kernel_rfl
theorem gCells7:Tryz.prog.cellsOf 222=10*3:=by kernel_rfl
theorem gElem7:Tryz.prog.cellsOf 221=3:=by kernel_rfl
theorem gCell7:Tryz.prog.cellsOf 3=1:=by kernel_rfl
theorem table7 {W:World}(h:laidMetH Tryz.prog Rows.veneerPlansRow.laid W):oG Tryz.prog W "cleat/part.fitting" .i64 [[0,0,0],[0,0,0],[29,30,0],[31,32,33],[26,0,0],[27,0,0],[28,0,0],[4,0,0],[22,23,0],[24,25,0]]:=
 rowsIs_of_head (rest:=_) gTab7 gTabType7 Tryz.underlying222 Tryz.underlying221 Tryz.underlying3 gCell7 gElem7 gCells7 (laidMet.tail (laidMet.tail (laidMet.tail (laidMet.tail (laidMet.tail (laidMet.tail (laidMet.tail h)))))))
theorem readable:∀t∈Tryz.f4.params.toList,Tryz.prog.readableRec t=true/\t<Tryz.prog.types.size:=by
 rw[Tryz.params4];intro t ht;simp only[List.mem_cons,List.mem_nil_iff,or_false]at ht;rcases ht with rfl|rfl|rfl|rfl|rfl|rfl
 ·exact⟨by kernel_rfl,of_decide_eq_true (by kernel_rfl)⟩
 ·exact⟨by kernel_rfl,of_decide_eq_true (by kernel_rfl)⟩
 ·exact⟨by kernel_rfl,of_decide_eq_true (by kernel_rfl)⟩
 ·exact⟨by kernel_rfl,of_decide_eq_true (by kernel_rfl)⟩
 ·exact⟨by kernel_rfl,of_decide_eq_true (by kernel_rfl)⟩
 ·exact⟨by kernel_rfl,of_decide_eq_true (by kernel_rfl)⟩
theorem contract (H:Type)(enc:TypeId×Value->H)(W:World)(base:Nat)(args:Array Value)(ds gs:List (DataW H))(before:List MemPlace)
  (hval:∀(j:Nat) t v,Tryz.f4.params[j]?=some t->args[j]?=some v->Value.okWide Tryz.prog W .any base t v)
  (hW:DataW.Whole enc Tryz.prog Tryz.f4.params.toList Rows.veneerPlansSpec.vars false W args.toList ds gs before) (hsz0:(DataW.weightsEach Tryz.prog (Tryz.f4.params.toList++(OpenSpec.ofChange Rows.veneerPlansSpec).bare.plain.varTypes Tryz.prog) (ds++gs)).all (·<=reachBytes)=true) (hL:laidMetH Tryz.prog Rows.veneerPlansRow.laid W):
  Calls Tryz.prog 4 args W fun e W'=>∃v,e=.returned v/\Rows.veneerPlansSpec.post enc Tryz.prog Tryz.f4 false true false false W args v W':=by
 have hsz:(DataW.weightsEach Tryz.prog (Tryz.f4.params.toList++Rows.veneerPlansSpec.plain.varTypes Tryz.prog) (ds++gs)).all (·<=reachBytes)=true:=hsz0;clear hsz0;have hW':=hW;have hlt:∀x∈before,x.block<W.heap.size:=fun x hx=>hW'.lt x hx
 obtain⟨p,q,hA0,hV,rfl,hfz,hnd⟩:=hW;have hA:DataW.TrodAll enc Tryz.prog W 0 (fun _=>true) true Tryz.f4.params.toList args.toList ds p:=hA0;rw[Tryz.params4]at hA hval hsz;obtain⟨v0,vs0,d0,ds0,p0,q0,hargs,rfl,rfl,h0,r0⟩:=trodAll_cons hA;obtain⟨v1,vs1,d1,ds1,p1,q1,rfl,rfl,rfl,h1,r1⟩:=trodAll_cons r0;obtain⟨v2,vs2,d2,ds2,p2,q2,rfl,rfl,rfl,h2,r2⟩:=trodAll_cons r1;obtain⟨v3,vs3,d3,ds3,p3,q3,rfl,rfl,rfl,h3,r3⟩:=trodAll_cons r2;obtain⟨v4,vs4,d4,ds4,p4,q4,rfl,rfl,rfl,h4,r4⟩:=trodAll_cons r3;obtain⟨v5,vs5,d5,ds5,p5,q5,rfl,rfl,rfl,h5,r5⟩:=trodAll_cons r4;obtain⟨rfl,rfl,rfl⟩:=trodAll_nil r5;obtain rfl:args=#[v0,v1,v2,v3,v4,v5]:=by cases args;simp_all
 obtain⟨rfl,rfl⟩:=trodVars_none hV;obtain⟨a0,n0,c0,l0,rfl,m0,s0,k0,g0,b0⟩:=_root_.Go.Proofs.YtiohgaghmnpplaaGreatDoor.open_Units (hval 0 22 v0 rfl rfl) h0 (fun z hz=>by simpa using List.all_eq_true.1 hsz _ (DataW.weights_mem_each (j:=0) (t:=22) rfl rfl z hz));obtain⟨ra1,rn1,rc1,la1,ln1,lc1,aa1,an1,ac1,re1,li1,al1,rfl,kk1,kr1,kl1,ka1,zr1,zl1,za1⟩:=_root_.Go.Proofs.YtiohgaghmnpplaaGreatDoor.open_Kept (hval 1 25 v1 rfl rfl) h1;obtain⟨t2,u2,x2,y2,rfl,bt2,bu2,bx2,bz2⟩:=_root_.Go.Proofs.YtiohgaghmnpplaaGreatDoor.open_Options (hval 2 28 v2 rfl rfl) h2;obtain⟨pA3,nA3,cA3,pV3,nV3,cV3,pW3,nW3,cW3,pk3,lA3,lV3,lW3,rfl,sl3,gl3,bl3⟩:=_root_.Go.Proofs.YtiohgaghmnpplaaGreatDoor.open_Plan (hval 3 44 v3 rfl rfl) h3;obtain⟨a4,rfl,rfl,rfl,w4⟩:=open_int Tryz.underlying3 (hval 4 3 v4 rfl rfl) h4;obtain⟨a5,rfl,rfl,rfl,w5⟩:=open_int Tryz.underlying3 (hval 5 3 v5 rfl rfl) h5;clear hA0;have hT:jL W:=tabP_of (table0 hL) (table1 hL) (table2 hL) (table3 hL) (table4 hL) (table5 hL) (table6 hL) (table7 hL);refine(_root_.Go.Proofs.YtiohgaghmnpplaaGreatDoor.VeneerPlans_walk W a0 n0 c0 l0 m0 s0 k0 g0 b0 ra1 rn1 rc1 la1 ln1 lc1 aa1 an1 ac1 re1 li1 al1 kk1 kr1 kl1 ka1 zr1 zl1 za1 t2 u2 x2 y2 bt2 bu2 bx2 bz2 pA3 nA3 cA3 pV3 nV3 cV3 pW3 nW3 cW3 pk3 lA3 lV3 lW3 sl3 gl3 bl3 a4 (wf_i64 w4) a5 (wf_i64 w5) hT).mono fun e W' ⟨he,hb⟩=>?_
 subst he;exact⟨_,rfl,law_post (by kernel_rfl) readable rfl rfl Tryz.underlying4 rfl rfl hW' hb⟩
noncomputable def laidWorld (os:Os):World:=
 { (World.holding Tryz.prog os ⟨#[],#[],[]⟩)with heap:=(((((((((((((((((World.holding Tryz.prog os ⟨#[],#[],[]⟩).heap).modify 8 fun
   | .cells _ t frozen=>.cells #[.int .u8 0,.int .u8 1,.int .u8 28,.int .u8 2,.int .u8 29,.int .u8 14,.int .u8 24,.int .u8 3,.int .u8 30,.int .u8 22,.int .u8 20,.int .u8 15,.int .u8 25,.int .u8 17,.int .u8 4,.int .u8 8,.int .u8 31,.int .u8 27,.int .u8 13,.int .u8 23,.int .u8 21,.int .u8 19,.int .u8 16,.int .u8 7,.int .u8 26,.int .u8 12,.int .u8 18,.int .u8 6,.int .u8 11,.int .u8 5,.int .u8 10,.int .u8 9] t frozen
   |o=>o)).modify 3 fun
   | .cells _ t frozen=>.cells #[.int .u8 0,.int .u8 1,.int .u8 56,.int .u8 2,.int .u8 57,.int .u8 49,.int .u8 28,.int .u8 3,.int .u8 61,.int .u8 58,.int .u8 42,.int .u8 50,.int .u8 38,.int .u8 29,.int .u8 17,.int .u8 4,.int .u8 62,.int .u8 47,.int .u8 59,.int .u8 36,.int .u8 45,.int .u8 43,.int .u8 51,.int .u8 22,.int .u8 53,.int .u8 39,.int .u8 33,.int .u8 30,.int .u8 24,.int .u8 18,.int .u8 12,.int .u8 5,.int .u8 63,.int .u8 55,.int .u8 48,.int .u8 27,.int .u8 60,.int .u8 41,.int .u8 37,.int .u8 16,.int .u8 46,.int .u8 35,.int .u8 44,.int .u8 21,.int .u8 52,.int .u8 32,.int .u8 23,.int .u8 11,.int .u8 54,.int .u8 26,.int .u8 40,.int .u8 15,.int .u8 34,.int .u8 20,.int .u8 31,.int .u8 10,.int .u8 25,.int .u8 14,.int .u8 19,.int .u8 9,.int .u8 13,.int .u8 8,.int .u8 7,.int .u8 6] t frozen
   |o=>o)).modify 1 fun
   | .cells _ t frozen=>.cells #[.int .i64 0,.int .i64 1,.int .i64 1,.int .i64 1,.int .i64 2,.int .i64 2,.int .i64 2,.int .i64 2,.int .i64 3,.int .i64 3,.int .i64 3,.int .i64 3,.int .i64 4,.int .i64 4,.int .i64 4,.int .i64 4,.int .i64 5,.int .i64 5,.int .i64 5,.int .i64 5,.int .i64 6,.int .i64 6,.int .i64 7,.int .i64 7,.int .i64 8,.int .i64 8,.int .i64 9,.int .i64 10,.int .i64 10,.int .i64 11,.int .i64 11,.int .i64 12,.int .i64 9,.int .i64 9,.int .i64 13,.int .i64 13,.int .i64 13,.int .i64 14,.int .i64 15,.int .i64 16] t frozen
   |o=>o)).modify 0 fun
   | .cells _ t frozen=>.cells #[.int .u32 0,.int .u32 3531603968,.int .u32 2457862144,.int .u32 4068474880,.int .u32 2432696320,.int .u32 3506438144,.int .u32 2969567232,.int .u32 4043309056,.int .u32 2449473536,.int .u32 2986344448,.int .u32 3523215360,.int .u32 4060086272,.int .u32 2332033024,.int .u32 3405774848,.int .u32 2868903936,.int .u32 3942645760,.int .u32 2315255808,.int .u32 2852126720,.int .u32 3388997632,.int .u32 3925868544,.int .u32 2600468480,.int .u32 2600501248,.int .u32 4181721088,.int .u32 4177526784,.int .u32 960495616,.int .u32 956301312,.int .u32 1476395008,.int .u32 268435456,.int .u32 2415919104,.int .u32 335544320,.int .u32 2483027968,.int .u32 1409286144,.int .u32 3019898880,.int .u32 3036676096,.int .u32 3592355840,.int .u32 3594452992,.int .u32 3596550144,.int .u32 3556769793,.int .u32 3573751839,.int .u32 2592079872] t frozen
   |o=>o)).modify 6 fun
   | .cells _ t frozen=>.cells #[.int .u32 0,.int .u32 8388607,.int .u32 8388607,.int .u32 8388607,.int .u32 14680063,.int .u32 14680063,.int .u32 2064383,.int .u32 4194303,.int .u32 4194303,.int .u32 16777215,.int .u32 1627389951,.int .u32 67108863,.int .u32 16777199,.int .u32 992,.int .u32 2097120,.int .u32 0,.int .u32 2094079] t frozen
   |o=>o)).modify 7 fun
   | .cells _ t frozen=>.cells #[.int .u64 1,.int .u64 10,.int .u64 100,.int .u64 1000,.int .u64 10000,.int .u64 100000,.int .u64 1000000,.int .u64 10000000,.int .u64 100000000,.int .u64 1000000000,.int .u64 10000000000,.int .u64 100000000000,.int .u64 1000000000000,.int .u64 10000000000000,.int .u64 100000000000000,.int .u64 1000000000000000,.int .u64 10000000000000000,.int .u64 100000000000000000,.int .u64 1000000000000000000,.int .u64 10000000000000000000] t frozen
   |o=>o)).modify 4 fun
   | .cells _ t frozen=>.cells #[.string ⟨#[108,115,108]⟩,.string ⟨#[108,115,114]⟩,.string ⟨#[97,115,114]⟩,.string ⟨#[114,111,114]⟩] t frozen
   |o=>o)).modify 2 fun
   | .cells _ t frozen=>.cells #[.int .i64 0,.int .i64 0,.int .i64 0,.int .i64 0,.int .i64 0,.int .i64 0,.int .i64 29,.int .i64 30,.int .i64 0,.int .i64 31,.int .i64 32,.int .i64 33,.int .i64 26,.int .i64 0,.int .i64 0,.int .i64 27,.int .i64 0,.int .i64 0,.int .i64 28,.int .i64 0,.int .i64 0,.int .i64 4,.int .i64 0,.int .i64 0,.int .i64 22,.int .i64 23,.int .i64 0,.int .i64 24,.int .i64 25,.int .i64 0] t frozen
   |o=>o) }
theorem laid_met (os:Os):laidMet Tryz.prog Rows.veneerPlansRow.laid ((laidWorld os).forCall (fun _ _=>0) ⟨#[],#[.slice none 0 0,.agg #[.slice none 0 0,.slice none 0 0,.slice none 0 0],.agg #[.int .u64 0,.int .u64 0,.int .u64 0,.int .i64 0],.agg #[.slice none 0 0,.slice none 0 0,.slice none 0 0,.int .i64 0],.int .i64 0,.int .i64 0],[]⟩).memory:=
 laidMet_of_run' 8 (by kernel_rfl) (by kernel_rfl)
theorem reads (os:Os){H:Type}(enc:TypeId×Value->H):∃places,DataW.whole enc Tryz.prog ((laidWorld os).forCall (fun _ _=>0) ⟨#[],#[.slice none 0 0,.agg #[.slice none 0 0,.slice none 0 0,.slice none 0 0],.agg #[.int .u64 0,.int .u64 0,.int .u64 0,.int .i64 0],.agg #[.slice none 0 0,.slice none 0 0,.slice none 0 0,.int .i64 0],.int .i64 0,.int .i64 0],[]⟩).memory Tryz.f4.params.toList Rows.veneerPlansSpec.vars false (#[.slice none 0 0,.agg #[.slice none 0 0,.slice none 0 0,.slice none 0 0],.agg #[.int .u64 0,.int .u64 0,.int .u64 0,.int .i64 0],.agg #[.slice none 0 0,.slice none 0 0,.slice none 0 0,.int .i64 0],.int .i64 0,.int .i64 0]:Array Value).toList 8=some ([.nil,.agg [.nil,.nil,.nil],.agg [.lit (.int .u64 0),.lit (.int .u64 0),.lit (.int .u64 0),.lit (.int .i64 0)],.agg [.nil,.nil,.nil,.lit (.int .i64 0)],.lit (.int .i64 0),.lit (.int .i64 0)],[],places):=
 ⟨[],by kernel_rfl⟩
theorem lifted (os:Os)(started:os.Started)(H:Type)(enc:TypeId×Value->H)(F:Stop.Interp):
  ReturnsInHanded {} Tryz.checked os 4 .any ((OpenSpec.ofChange Rows.veneerPlansSpec).preRow enc Tryz.prog Tryz.f4 Rows.veneerPlansRow.domain false Rows.veneerPlansRow.laid) (((OpenSpec.ofChange Rows.veneerPlansSpec).at F).post enc Tryz.prog Tryz.f4 false true false false):=by
 obtain⟨places,hx⟩:=reads os enc;refine returnsInHanded_of_row (C:=Tryz.checked) (s:=OpenSpec.ofChange Rows.veneerPlansSpec) own started (by kernel_rfl) Tryz.func4
  (witness_row_at (enc:=enc) (C:=Tryz.checked) false (laidWorld os) #[.slice none 0 0,.agg #[.slice none 0 0,.slice none 0 0,.slice none 0 0],.agg #[.int .u64 0,.int .u64 0,.int .u64 0,.int .i64 0],.agg #[.slice none 0 0,.slice none 0 0,.slice none 0 0,.int .i64 0],.int .i64 0,.int .i64 0] rfl (by kernel_rfl) (by kernel_rfl) (by kernel_rfl)
    (OpenSpec.preRow_of_cond 8 hx (by kernel_rfl) (fun k hk=>by cases hk) (by kernel_rfl) (laid_met os))) ?_
 intro W base args ds gs before hval hW _ _ hsz hL _ _;exact contract H enc W base args ds gs before hval hW hsz hL
end Go.Proofs.YtiohgaghmnpplaaGreatDoor.veneerPlans
