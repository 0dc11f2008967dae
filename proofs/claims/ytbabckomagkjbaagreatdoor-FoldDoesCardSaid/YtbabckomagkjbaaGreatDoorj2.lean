/- fold: Saved. fold's law: caller. fold's law: what the document's rows are folded to. fold, plain: what the laws ask of what is told; rows of bools as an argument. shrink, plain: what is left, in order. -/
import Derived.Test.YtbabckomagkjbaaGreatDoorqN
import Derived.Deep.Grids
set_option maxRecDepth 100000
set_option maxHeartbeats 1500000
set_option linter.unusedVariables false
set_option linter.unusedSimpArgs false
namespace Go.Proofs.YtbabckomagkjbaaGreatDoor
open Go.ChangeShapes Go.WideShapes Go.Deep Go.RowKit
def dataN (S:List Sc) (k:Nat):Nat:=match S[k]? with | some s=>s.data.length | none=>0
def savS (S:List Sc) (ins:List Bool) (l:List Int):Nat->Nat
 | 0=>0
 | k+1=>savS S ins l k+(if ins[k]?=some true/\l[k]? ≠ some (k:Int) then dataN S k else 0)
theorem savS_le {S:List Sc} {ins:List Bool} {l:List Int} (h:∀ s ∈ S,s.data.length<=4096):∀ k,savS S ins l k<=4096*k
 | 0=>Nat.le_refl _
 | k+1=>by
  have h1:=savS_le (ins:=ins) (l:=l) h k
  have h2:dataN S k<=4096:=by
   unfold dataN
   cases hs:S[k]? with
   | none=>simp
   | some s=>exact h s (List.mem_of_getElem? hs)
  show savS S ins l k+_<=_
  split <;> omega
theorem savS_add {S:List Sc} {ins:List Bool} {l:List Int} {k:Nat} (h1:ins[k]?=some true) (h2:l[k]? ≠ some (k:Int)):savS S ins l (k+1)=savS S ins l k+dataN S k:=by
 show savS S ins l k+_=_
 rw [if_pos ⟨h1,h2⟩]
theorem savS_not {S:List Sc} {ins:List Bool} {l:List Int} {k:Nat} (h:ins[k]?=some false\/l[k]?=some (k:Int)):savS S ins l (k+1)=savS S ins l k:=by
 show savS S ins l k+_=_
 rw [if_neg (by rcases h with h | h <;> simp [h])];rfl
theorem saved_no (w:World) (ua:Option Addr) (n uc:Nat) (L:List Ms) (ia:Option Addr) (m ic:Nat) (hn:n<=maxLen) (hm:m<=maxLen) (hs:SL msC 6 w w.heap.size ua n L) (hno:Notes w w.heap.size L) (hg:∀ x ∈ L,GoodSc x.sc) (hb:∀ x ∈ L,x.sc.rels.length*32<=reachBytes) (hT:TabP w) (h:m ≠ n\/unitsR (L.map (·.sc))=false):
  Calls Tryz.prog 22 #[.slice ua n uc,.slice ia m ic] w (RetB (.tuple #[.int .i64 0,.int .i64 1]) w):=by
 have HF:=Lib.hid (fold_no w ua n uc L ia m ic hn hm hs hno hg hb hT h)
 clear hn hm hs hno hg hb hT h
 go_enter Tryz.func22,Tryz.ntmps22
 go_wp2_with fail
 refine HF.out.mono ?_
 rintro e u ⟨rfl,hb⟩
 have HB:=Lib.hid hb
 clear hb
 go_wp2
 go_ret2
 exact ⟨rfl,HB.out⟩
def SavP (S:List Sc) (ins:List Bool) (n:Nat) (w:World) (e:Ending) (w':World):Prop:=
 ∃ j,nextP S ins (foldN S ins j)=foldN S ins j/\e=.returned (.tuple #[.int .i64 (savS S ins (endL ins (foldN S ins j)) n:Nat),.int .i64 0])/\Below w.heap.size w w'
theorem saved_yes (w:World) (ua:Option Addr) (n uc:Nat) (L:List Ms) (ia:Option Addr) (ic:Nat) (ins:List Bool) (hn:n<=maxLen) (hs:SL msC 6 w w.heap.size ua n L) (hno:Notes w w.heap.size L) (hg:∀ x ∈ L,GoodSc x.sc) (hb:∀ x ∈ L,x.sc.rels.length*32<=reachBytes) (hi:SL enB 1 w w.heap.size ia n ins) (hT:TabP w) (h:unitsR (L.map (·.sc))=true):
  Calls Tryz.prog 22 #[.slice ua n uc,.slice ia n ic] w (SavP (L.map (·.sc)) ins n w):=by
 have HF:=Lib.hid (fold_yes w ua n uc L ia ic ins hn hs hno hg hb hi hT h)
 obtain ⟨S,hS⟩:∃ S,S=L.map (·.sc):=⟨_,rfl⟩
 have hSl:S.length=n:=by rw [hS,List.length_map];exact hs.len.symm
 have hn2:n<=256:=by have:=units_len h;rw [<-hS,hSl] at this;exact this
 have HD:Hid (∀ s ∈ S,s.data.length<=4096):=Lib.hid (by
  intro s hs1
  obtain ⟨i,hi1⟩:=List.getElem?_of_mem hs1
  exact (units_sec h (by rw [<-hS];exact hi1)).1.data)
 have HU:=Lib.hid (fun u (hu:Below w.heap.size w u)=>hs.next hu)
 have HIn:=Lib.hid (fun u (hu:Below w.heap.size w u)=>hi.next hu)
 have HSe:=Lib.hid hS
 have HSl:=Lib.hid hSl
 have hni:(n:Int)<=256:=by omega
 have HN:=Lib.hid hn2
 rw [<-hS] at HF ⊢
 clear hn hs hno hg hb hi hT h hS hSl hn2
 go_enter Tryz.func22,Tryz.ntmps22
 go_wp2_with fail
 refine HF.out.mono ?_
 rintro e u ⟨j,Z,hfx,rfl,hr,hb⟩
 have HB:=Lib.hid hb
 have HR:=Lib.hid hr
 have HFx:=Lib.hid hfx
 obtain ⟨l,hl⟩:∃ l,l=endL ins (foldN S ins j):=⟨_,rfl⟩
 have HLe:=Lib.hid hl
 have HLl:Hid (l.length=n):=Lib.hid (by rw [hl];unfold endL;rw [List.length_map,List.length_range,foldN_len];exact HSl.out)
 rw [<-hl] at HR
 clear hb hr hfx hl HF
 go_wp2_with fail
 go_loopw [8,22] (fun nv i wr=>∃ (k:Nat),wr=u/\k<=n/\nv=.int .i64 (savS S ins l k:Nat)/\i=.int .i64 k) (fun _ i _=>n - (intOf i).toNat)
 case atStart=>exact ⟨0,rfl,by omega,rfl,rfl⟩
 case round=>
  obtain ⟨k,rfl,hk,rfl,rfl⟩:=hrel
  by_cases hlt:k < n
  ·have hlti:(k:Int) < (n:Int):=by omega
   have hsl:=HIn.out wr HB.out
   have hul:=HU.out wr HB.out
   have hkI:k < ins.length:=by rw [<-hsl.len];exact hlt
   have hkL:k < L.length:=by rw [<-hul.len];exact hlt
   have hkl:k < l.length:=by rw [HLl.out];exact hlt
   obtain ⟨ib,io,hia,-,-⟩:=hsl.cells (by intro e;rw [e] at hkI;simp at hkI)
   obtain ⟨ub,uo,hua,-,-⟩:=hul.cells (by intro e;rw [e] at hkL;simp at hkL)
   subst hia
   subst hua
   obtain ⟨b,hbe⟩:∃ b,b=ins[k]:=⟨_,rfl⟩
   have hbk:ins[k]?=some b:=by rw [hbe];exact List.getElem?_eq_getElem hkI
   obtain ⟨v,hv⟩:∃ v,v=l[k]:=⟨_,rfl⟩
   have hvk:l[k]?=some v:=by rw [hv];exact List.getElem?_eq_getElem hkl
   have i0:wr.cell? ⟨ib,io+k,none⟩=some (.bool b):=bools_cells hsl (Below.refl _ _) hbk
   have z0:wr.cell? ⟨Z,k,none⟩=some (.int .i64 v):=by rw [HR.out.cell];exact inA_get hvk
   obtain ⟨m,hm⟩:∃ m,L[k]?=some m:=⟨_,List.getElem?_eq_getElem hkL⟩
   obtain ⟨-,-,-,-,y4,-⟩:=unit_cells hul (Below.refl _ _) hm
   have hdn:dataN S k=m.sc.data.length:=by unfold dataN;rw [HSe.out,List.getElem?_map,hm];rfl
   obtain ⟨D,hD⟩:∃ N:ByteArray,N=⟨m.sc.data.toArray⟩:=⟨_,rfl⟩
   have HDs:Hid (D.size=dataN S k):=Lib.hid (by rw [hdn,hD];show m.sc.data.toArray.size=_;simp)
   rw [<-hD] at y4
   have HBk:=Lib.hid hbk
   have HVk:=Lib.hid hvk
   have HLT:=Lib.hid hlt
   have hle:=savS_le (ins:=ins) (l:=l) HD.out (k+1)
   have HLe2:=Lib.hid hle
   clear hsl hul hkI hkL hkl hbe hbk hv hvk hm hdn hD hle
   cases b
   ·have HSv:Hid (savS S ins l (k+1)=savS S ins l k):=Lib.hid (savS_not (.inl HBk.out))
    go_wp2
    go_roundw
    case rel=>exact ⟨k+1,trivial,by have:=HLT.out;omega,by rw [HSv.out],by go_num⟩
    case measure=>have:=HLT.out;simp [intOf];omega
   ·by_cases hvv:v=(k:Int)
    ·have t1:(v != (k:Int))=false:=by simp [hvv]
     have HSv:Hid (savS S ins l (k+1)=savS S ins l k):=Lib.hid (savS_not (.inr (by rw [HVk.out,hvv])))
     clear hvv
     go_wp2
     go_roundw
     case rel=>exact ⟨k+1,trivial,by have:=HLT.out;omega,by rw [HSv.out],by go_num⟩
     case measure=>have:=HLT.out;simp [intOf];omega
    ·have t1:(v != (k:Int))=true:=by simp [hvv]
     have HSv:Hid (savS S ins l (k+1)=savS S ins l k+D.size):=Lib.hid (by rw [HDs.out];exact savS_add HBk.out (by rw [HVk.out];simpa using hvv))
     have hw1:IntKind.i64.wrap (((savS S ins l k:Nat):Int)+(D.size:Int))=((savS S ins l k:Nat):Int)+(D.size:Int):=by
      have h1:=HSv.out
      have h2:=HLe2.out
      have h3:=HN.out
      rw [IntKind.wrap_i64];omega
     clear hvv
     go_wp2
     go_roundw
     case rel=>exact ⟨k+1,trivial,by have:=HLT.out;omega,by rw [HSv.out];go_num,by go_num⟩
     case measure=>have:=HLT.out;simp [intOf];omega
  ·have hlti:¬ (k:Int) < (n:Int):=by omega
   have HKN:Hid (k=n):=Lib.hid (by omega)
   go_wp2
   go_ret2
   refine ⟨j,HFx.out,?_,HB.out⟩
   rw [<-HLe.out,HKN.out];rfl
end Go.Proofs.YtbabckomagkjbaaGreatDoor
namespace Go.Proofs.YtbabckomagkjbaaGreatDoor
open Go.ChangeShapes Go.WideShapes Go.Deep Go.RowKit
def CalP (N:ByteArray) (tt:Int) (w:World) (e:Ending) (w':World):Prop:=
 ∃ b,e=.returned (.agg #[.string N,.int .i64 1,.bool false,.int .i64 0,.string ⟨#[0,0,0,148]⟩,.slice (some ⟨b,0,none⟩) 1 1])/\RB w' b #[.int .i64 0,.int .i64 2,.int .i64 tt,.int .i64 0] 61/\w.heap.size<=b/\Below w.heap.size w w'
theorem caller_any (N:ByteArray) (tt:Int) (w:World):Calls Tryz.prog 57 #[.string N,.int .i64 tt] w (CalP N tt w):=by
 have HQ:Hid (RB ((w.alloc (.cells #[.string N,.int .i64 1,.bool false,.int .i64 0,.string ⟨#[0,0,0,148]⟩,.slice (some ⟨w.heap.size+1,0,none⟩) 1 1] 43)).alloc (.cells #[.int .i64 0,.int .i64 2,.int .i64 tt,.int .i64 0] 61)) w.heap.size #[.string N,.int .i64 1,.bool false,.int .i64 0,.string ⟨#[0,0,0,148]⟩,.slice (some ⟨w.heap.size+1,0,none⟩) 1 1] 43/\RB ((w.alloc (.cells #[.string N,.int .i64 1,.bool false,.int .i64 0,.string ⟨#[0,0,0,148]⟩,.slice (some ⟨w.heap.size+1,0,none⟩) 1 1] 43)).alloc (.cells #[.int .i64 0,.int .i64 2,.int .i64 tt,.int .i64 0] 61)) (w.heap.size+1) #[.int .i64 0,.int .i64 2,.int .i64 tt,.int .i64 0] 61/\Below w.heap.size w ((w.alloc (.cells #[.string N,.int .i64 1,.bool false,.int .i64 0,.string ⟨#[0,0,0,148]⟩,.slice (some ⟨w.heap.size+1,0,none⟩) 1 1] 43)).alloc (.cells #[.int .i64 0,.int .i64 2,.int .i64 tt,.int .i64 0] 61))):=Lib.hid (by
  have hz1:(w.alloc (.cells #[.string N,.int .i64 1,.bool false,.int .i64 0,.string ⟨#[0,0,0,148]⟩,.slice (some ⟨w.heap.size+1,0,none⟩) 1 1] 43)).heap.size=w.heap.size+1:=World.size_alloc _ _
  refine ⟨(rb_new w _ _).next (lit_below _ _),?_,after (lit_below w _) (lit_below _ _)⟩
  have:=rb_new (w.alloc (.cells #[.string N,.int .i64 1,.bool false,.int .i64 0,.string ⟨#[0,0,0,148]⟩,.slice (some ⟨w.heap.size+1,0,none⟩) 1 1] 43)) #[.int .i64 0,.int .i64 2,.int .i64 tt,.int .i64 0] 61
  rw [hz1] at this
  exact this)
 go_enter Tryz.func57,Tryz.ntmps57
 go_wp2
 refine bodyPost_ret (results_cell_row (P:=Tryz.prog) rfl _ _ w.heap.size 43 _ (0,0) _ rfl HQ.out.1 Tryz.underlying43 rfl (by kernel_rfl)) rfl ?_
 exact ⟨w.heap.size+1,rfl,HQ.out.2.1,Nat.le_succ _,HQ.out.2.2⟩
end Go.Proofs.YtbabckomagkjbaaGreatDoor
namespace Go.Proofs.YtbabckomagkjbaaGreatDoor
open Go.ChangeShapes Go.WideShapes Go.Deep Go.RowKit
def partR {β:Type} [DecidableEq β] (n:Nat) (ok:Nat->Bool) (r:Nat->β):List Int:=(List.range n).map (fun k=>((if ok k=true then ((List.range (k+1)).find? (fun j=>ok j && decide (r j=r k))).getD k else k:Nat):Int))
theorem partZ_raw {β:Type} [DecidableEq β] {n:Nat} {ok:Nat->Bool} {sg:Nat->Sg} (r:Nat->β) (h:∀ i j,sg i=sg j ↔ r i=r j):partZ n ok sg=partR n ok r:=by
 unfold partZ partR partG
 apply List.map_congr_left
 intro k hk
 have e:(fun j=>ok j && decide (sg j=sg k))=(fun j=>ok j && decide (r j=r k)):=by
  funext j
  rw [decide_eq_decide.2 (h j k)]
 rw [e]
def rawA (L:List Sc) (k:Nat):List UInt8 × List Int:=match L[k]? with | some s=>(s.data,s.rels.flatMap num3) | none=>([],[])
def rawB (L:List Sc) (P:List Int) (k:Nat):Int × List Int:=((P[k]?).getD 0,match L[k]? with | some s=>refsP P s | none=>[])
theorem sgnA_raw (L:List Sc) (k:Nat):sgnA L k=⟨0,(rawA L k).1,encT (rawA L k).2⟩:=by
 unfold sgnA rawA
 cases L[k]? <;> rfl
theorem sgnB_raw (L:List Sc) (P:List Int) (k:Nat):sgnB L P k=⟨(rawB L P k).1,[],encT (rawB L P k).2⟩:=by
 unfold sgnB rawB
 cases L[k]? <;> rfl
theorem part1_raw (L:List Sc) (ins:List Bool):part1 L ins=partR L.length (okU L ins) (rawA L):=by
 unfold part1
 apply partZ_raw
 intro i j
 rw [sgnA_raw,sgnA_raw]
 simp only [Sg.mk.injEq,true_and]
 constructor
 ·intro h;exact Prod.ext h.1 (encT_inj h.2)
 ·intro h;rw [h];exact ⟨rfl,rfl⟩
theorem nextP_raw (L:List Sc) (ins:List Bool) (P:List Int):nextP L ins P=partR L.length (okU L ins) (rawB L P):=by
 unfold nextP
 apply partZ_raw
 intro i j
 rw [sgnB_raw,sgnB_raw]
 simp only [Sg.mk.injEq,true_and]
 constructor
 ·intro h;exact Prod.ext h.1 (encT_inj h.2)
 ·intro h;rw [h];exact ⟨rfl,rfl⟩
def calSc (nm:List UInt8) (tt:Int):Sc:=⟨nm,1,false,0,[0,0,0,148],[⟨0,2,tt,0⟩]⟩
def retSc:Sc:=⟨[114],1,false,0,[192,3,95,214],[]⟩
def rowA:List Sc:=[calSc [97] 2,calSc [98] 3,retSc,retSc]
def rowB:List Sc:=[calSc [97] 1,calSc [98] 0]
def rowC:List Sc:=[retSc,retSc]
theorem rowA_is:unitsR rowA=true:=by kernel_rfl
theorem rowB_is:unitsR rowB=true:=by kernel_rfl
theorem rowC_is:unitsR rowC=true:=by kernel_rfl
theorem rowA_0:foldN rowA [true,true,true,true] 0=[0,0,2,2]:=by
 show part1 _ _=_
 rw [part1_raw];decide +kernel
theorem rowB_0:foldN rowB [true,true] 0=[0,0]:=by
 show part1 _ _=_
 rw [part1_raw];decide +kernel
theorem rowC_0:foldN rowC [true,true] 0=[0,0]:=by
 show part1 _ _=_
 rw [part1_raw];decide +kernel
theorem rowA_fix {j:Nat} (h:nextP rowA [true,true,true,true] (foldN rowA [true,true,true,true] j)=foldN rowA [true,true,true,true] j):foldN rowA [true,true,true,true] j=[0,0,2,2]:=by
 rw [<-rowA_0]
 exact foldN_one h (by rw [rowA_0,nextP_raw];decide +kernel)
theorem rowB_fix {j:Nat} (h:nextP rowB [true,true] (foldN rowB [true,true] j)=foldN rowB [true,true] j):foldN rowB [true,true] j=[0,0]:=by
 rw [<-rowB_0]
 exact foldN_one h (by rw [rowB_0,nextP_raw];decide +kernel)
theorem rowC_fix {j:Nat} (h:nextP rowC [true,true] (foldN rowC [true,true] j)=foldN rowC [true,true] j):foldN rowC [true,true] j=[0,0]:=by
 rw [<-rowC_0]
 exact foldN_one h (by rw [rowC_0,nextP_raw];decide +kernel)
theorem rowA_end:endL [true,true,true,true] [0,0,2,2]=[0,0,2,2]:=by decide +kernel
theorem rowB_end:endL [true,true] [0,0]=[0,0]:=by decide +kernel
theorem rowC_sav:savS rowC [true,true] (endL [true,true] [0,0]) 2=4:=by decide +kernel
end Go.Proofs.YtbabckomagkjbaaGreatDoor
namespace Go.Proofs.YtbabckomagkjbaaGreatDoor
open Go.ChangeShapes Go.WideShapes Go.Deep Go.RowKit
def RefQ (n:Nat) (ins:List Bool) (l:List Int) (a b:Int):Prop:=
 0<=a/\a < n/\0<=b/\b < n/\(a=b\/(ins[a.toNat]?=some true/\ins[b.toNat]?=some true/\l[a.toNat]?=l[b.toNat]?))
def PairQ (S:List Sc) (ins:List Bool) (l:List Int) (i k:Nat):Prop:=
 ins[i]?=some true->ins[k]?=some true->l[i]?=l[k]?->∀ (s t:Sc),S[i]?=some s->S[k]?=some t->
  alikeB s t=true/\∀ (j:Nat) (r r':Rl),s.rels[j]?=some r->t.rels[j]?=some r'->RefQ S.length ins l r.sym r'.sym
def GoodQ (S:List Sc) (ins:List Bool) (l:List Int):Prop:=∀ (i k:Nat),i < S.length->k < i->PairQ S ins l i k
theorem alike_len {s t:Sc} (h:alikeB s t=true):s.rels.length=t.rels.length:=by
 unfold alikeB alRs at h
 simp only [Bool.and_eq_true,decide_eq_true_eq] at h
 exact h.2.2.2.1
theorem alR_iff {x y:Rl}:alR x y=true ↔ x.pos=y.pos/\x.kind=y.kind/\x.add=y.add:=by
 unfold alR
 simp only [Bool.and_eq_true,beq_iff_eq]
theorem alike_iff {S:List Sc} {i k:Nat} {s t:Sc} (hs:S[i]?=some s) (ht:S[k]?=some t):alikeB s t=true ↔ s.kind=1/\t.kind=1/\sgnA S i=sgnA S k:=by
 rw [sgnA_eq hs ht,num3_eq]
 unfold alikeB
 simp only [Bool.and_eq_true,decide_eq_true_eq]
 constructor
 ·rintro ⟨h1,h2,h3,h4⟩
  have hl:s.rels.length=t.rels.length:=by
   unfold alRs at h4
   simp only [Bool.and_eq_true,decide_eq_true_eq] at h4
   exact h4.1
  exact ⟨h1,h2,h3,hl,fun j r r' hr hr'=>alR_iff.1 ((alRs_iff hl).1 h4 j r r' hr hr')⟩
 ·rintro ⟨h1,h2,h3,hl,h4⟩
  exact ⟨h1,h2,h3,(alRs_iff hl).2 fun j r r' hr hr'=>alR_iff.2 (h4 j r r' hr hr')⟩
theorem okU_of {S:List Sc} {ins:List Bool} {k:Nat} {s:Sc} (h1:ins[k]?=some true) (hs:S[k]?=some s) (h2:s.kind=1):okU S ins k=true:=by
 unfold okU
 rw [h1,hs]
 simp [h2]
theorem foldN_get (S:List Sc) (ins:List Bool) (j:Nat) {k:Nat} (h:k < S.length):∃ sg,(∀ q,q < S.length->(foldN S ins j)[q]?=some ((partG (okU S ins) sg q:Nat):Int)):=by
 obtain ⟨sg,hsg⟩:=(foldN_fix S ins j).isP
 exact ⟨sg,fun q hq=>by rw [hsg];exact partZ_get hq⟩
theorem endL_get {ins:List Bool} {P:List Int} {k:Nat} {v:Int} (h:P[k]?=some v):(endL ins P)[k]?=some (if ins[k]?=some true then v else -1):=by
 have hk:k < P.length:=(List.getElem?_eq_some_iff.1 h).1
 unfold endL
 rw [List.getElem?_map,List.getElem?_range hk]
 simp only [Option.map_some,h,Option.getD_some]
theorem endL_in {ins:List Bool} {P:List Int} {k:Nat} (hk:k < P.length) (h:ins[k]?=some true):(endL ins P)[k]?=P[k]?:=by
 rw [endL_get (List.getElem?_eq_getElem hk),if_pos h,List.getElem?_eq_getElem hk]
theorem endL_out {ins:List Bool} {P:List Int} {k:Nat} (hk:k < P.length) (h:ins[k]?=some false):(endL ins P)[k]?=some (-1):=by
 rw [endL_get (List.getElem?_eq_getElem hk),if_neg (by rw [h];simp)]
theorem end_least {S:List Sc} {ins:List Bool} {j k:Nat} (hk:k < S.length) (hi:ins[k]?=some true):
  ∃ p:Nat,(endL ins (foldN S ins j))[k]?=some (p:Int)/\p<=k/\ins[p]?=some true/\(endL ins (foldN S ins j))[p]?=some (p:Int):=by
 obtain ⟨sg,hsg⟩:=foldN_get S ins j hk
 have hl:=foldN_len S ins j
 have hle:=partG_le (ok:=okU S ins) (sg:=sg) k
 have hip:ins[partG (okU S ins) sg k]?=some true:=by
  cases ho:okU S ins k
  ·rw [partG_not ho];exact hi
  ·exact (okU_lt (partG_ok (sg:=sg) ho).2.1).2.1
 refine ⟨partG (okU S ins) sg k,?_,hle,hip,?_⟩
 ·rw [endL_in (by omega) hi,hsg k hk]
 ·rw [endL_in (by omega) hip,hsg _ (by omega),partG_idem]
theorem end_out {S:List Sc} {ins:List Bool} {j k:Nat} (hk:k < S.length) (hi:ins[k]?=some false):(endL ins (foldN S ins j))[k]?=some (-1):=
 endL_out (by rw [foldN_len];exact hk) hi
theorem encT_get {P:List Int} {s t:Sc} (h:encT (refsP P s)=encT (refsP P t)) {j:Nat} {r r':Rl} (hr:s.rels[j]?=some r) (hr':t.rels[j]?=some r'):(P[r.sym.toNat]?).getD 0=(P[r'.sym.toNat]?).getD 0:=by
 have h1:=congrArg (fun x=>x[j]?) (encT_inj h)
 simp only [refsP,List.getElem?_map,hr,hr',Option.map_some,Option.some.injEq] at h1
 exact h1
theorem end_good {S:List Sc} {ins:List Bool} {j:Nat} (hu:unitsR S=true) (hin:ins.length=S.length) (hfx:nextP S ins (foldN S ins j)=foldN S ins j):GoodQ S ins (endL ins (foldN S ins j)):=by
 intro i k hi hki hii hik hl s t hs ht
 have hk:k < S.length:=by omega
 have hlen:=foldN_len S ins j
 rw [endL_in (by omega) hii,endL_in (by omega) hik] at hl
 obtain ⟨sg,hsg⟩:=foldN_get S ins j hi
 have hne:i ≠ k:=by omega
 have hpe:partG (okU S ins) sg i=partG (okU S ins) sg k:=by
  rw [hsg i hi,hsg k hk] at hl
  have:=Option.some.inj hl;omega
 obtain ⟨o1,o2⟩:=partG_both hpe hne
 obtain ⟨-,-,s',hs',ks⟩:=okU_lt o1
 obtain ⟨-,-,t',ht',kt⟩:=okU_lt o2
 rw [hs] at hs';cases hs'
 rw [ht] at ht';cases ht'
 refine ⟨(alike_iff hs ht).2 ⟨ks,kt,(foldN_fix S ins j).alike i k hi hk o1 o2 hl⟩,fun q r r' hr hr'=>?_⟩
 obtain ⟨a0,a1⟩:=(units_sec hu hs).2 r (List.mem_of_getElem? hr)
 obtain ⟨b0,b1⟩:=(units_sec hu ht).2 r' (List.mem_of_getElem? hr')
 refine ⟨a0,a1,b0,b1,?_⟩
 by_cases e:r.sym=r'.sym
 ·exact .inl e
 right
 have hn:partG (okU S ins) (sgnB S (foldN S ins j)) i=partG (okU S ins) (sgnB S (foldN S ins j)) k:=by
  have h1:=hl
  rw [<-hfx] at h1
  unfold nextP at h1
  rw [partZ_get hi,partZ_get hk] at h1
  have:=Option.some.inj h1;omega
 have hsb:=congrArg Sg.refs ((partG_eq o1 o2).1 hn)
 simp only [sgnB,hs,ht] at hsb
 have hv:=encT_get hsb hr hr'
 have la:r.sym.toNat < S.length:=by omega
 have lb:r'.sym.toNat < S.length:=by omega
 rw [hsg _ la,hsg _ lb,Option.getD_some,Option.getD_some] at hv
 have hv2:partG (okU S ins) sg r.sym.toNat=partG (okU S ins) sg r'.sym.toNat:=by omega
 obtain ⟨p1,p2⟩:=partG_both hv2 (by omega)
 have i1:=(okU_lt p1).2.1
 have i2:=(okU_lt p2).2.1
 refine ⟨i1,i2,?_⟩
 rw [endL_in (by omega) i1,endL_in (by omega) i2,hsg _ la,hsg _ lb,hv2]
end Go.Proofs.YtbabckomagkjbaaGreatDoor
namespace Go.Proofs.YtbabckomagkjbaaGreatDoor
open Go.ChangeShapes Go.WideShapes Go.Deep Go.RowKit
section
variable (f:Nat->Int)
variable {f}
end
theorem alike_symm {s t:Sc} (h:alikeB s t=true):alikeB t s=true:=by
 have hs:[s,t][0]?=some s:=rfl
 have ht:[s,t][1]?=some t:=rfl
 obtain ⟨h1,h2,h3⟩:=(alike_iff hs ht).1 h
 exact (alike_iff ht hs).2 ⟨h2,h1,h3.symm⟩
end Go.Proofs.YtbabckomagkjbaaGreatDoor
