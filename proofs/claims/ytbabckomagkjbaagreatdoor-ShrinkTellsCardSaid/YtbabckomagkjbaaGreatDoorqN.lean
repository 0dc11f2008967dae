/- fold: parted. fold: the two closures. fold: Fold. -/
import Derived.Test.YtbabckomagkjbaaGreatDoorqM
import Derived.Test.YtbabckomagkjbaaGreatDoorShelf
import Derived.Scope
import Derived.WalkMore
set_option maxRecDepth 100000
set_option maxHeartbeats 2500000
set_option linter.unusedVariables false
set_option linter.unusedSimpArgs false
namespace Go.Proofs.YtbabckomagkjbaaGreatDoor
open Go.ChangeShapes Go.WideShapes Go.Deep Go.RowKit
abbrev inA (l:List Int):Array Value:=(l.map (Value.int .i64)).toArray
theorem inA_get {l:List Int} {k:Nat} {b:Int} (h:l[k]?=some b):(inA l)[k]?=some (.int .i64 b):=by
 show (l.map (Value.int .i64)).toArray[k]?=_
 simp [h]
theorem inA_set (l:List Int) (k:Nat) (b:Int):(inA l).setIfInBounds k (.int .i64 b)=inA (l.set k b):=by
 simp [inA,List.map_set]
theorem make_ints (n:Nat) (hn:n<=1000000) (w:World):(Instr.makeSlice 23 (.int .i64 (n:Int)) (.int .i64 (n:Int))).run Tryz.prog w=.ok (.slice (some ⟨w.heap.size,0,none⟩) n n) (w.alloc (.cells (inA (List.replicate n 0)) 3)):=by
 obtain ⟨i0,hi0,hz0,hz1,hz2⟩:=info_parts info_intG
 have:=run_makeSlice (P:=Tryz.prog) w 23 3 i0 (.int .i64 0) Tryz.underlying23 hi0 hz0 .i64 .i64 n n (by omega) (by omega) (by rw [hz1];omega) (by rw [hz2];omega) (by omega)
 rw [hz1] at this
 simp only [Int.toNat_natCast,Nat.mul_one] at this
 rw [this,show madeCells (Value.int .i64 0).cells n=inA (List.replicate n 0) from by
  apply Array.ext
  ·rw [size_madeCells];simp
  ·intro i h1 h2
   have:i % 1=0:=Nat.mod_one i
   simp [madeCells,inA,Value.cells,this]]
def pref (ok:Nat->Bool) (sg:Nat->Sg) (n k:Nat):List Int:=(List.range n).map (fun i=>if i < k then ((partG ok sg i:Nat):Int) else 0)
theorem pref_len (ok:Nat->Bool) (sg:Nat->Sg) (n k:Nat):(pref ok sg n k).length=n:=by unfold pref;simp
theorem pref_get {ok:Nat->Bool} {sg:Nat->Sg} {n k i:Nat} (h:i < n):(pref ok sg n k)[i]?=some (if i < k then ((partG ok sg i:Nat):Int) else 0):=by
 unfold pref
 rw [List.getElem?_map,List.getElem?_range h];rfl
theorem pref_zero (ok:Nat->Bool) (sg:Nat->Sg) (n:Nat):pref ok sg n 0=List.replicate n 0:=by
 apply List.ext_getElem?
 intro i
 by_cases h:i < n
 ·rw [pref_get h,if_neg (by omega),List.getElem?_replicate,if_pos h]
 ·rw [List.getElem?_eq_none (by rw [pref_len];omega),List.getElem?_eq_none (by simp;omega)]
theorem pref_step {ok:Nat->Bool} {sg:Nat->Sg} {n k:Nat} (h:k < n):(pref ok sg n k).set k ((partG ok sg k:Nat):Int)=pref ok sg n (k+1):=by
 apply List.ext_getElem?
 intro i
 by_cases hi:i < n
 ·rw [pref_get hi,List.getElem?_set]
  by_cases e:k=i
  ·subst e
   rw [if_pos rfl,if_pos (by rw [pref_len];exact h),if_pos (by omega)]
  ·rw [if_neg e,pref_get hi]
   by_cases e2:i < k
   ·rw [if_pos e2,if_pos (by omega)]
   ·rw [if_neg e2,if_neg (by omega)]
 ·rw [List.getElem?_eq_none (by rw [List.length_set,pref_len];omega),List.getElem?_eq_none (by rw [pref_len];omega)]
theorem pref_full (ok:Nat->Bool) (sg:Nat->Sg) (n:Nat):pref ok sg n n=partZ n ok sg:=by
 apply List.ext_getElem?
 intro i
 by_cases hi:i < n
 ·rw [pref_get hi,partZ_get hi,if_pos hi]
 ·rw [List.getElem?_eq_none (by rw [pref_len];omega),List.getElem?_eq_none (by rw [partZ_len];omega)]
theorem bools_cells {w:World} {ib io m:Nat} {l:List Bool} (h:SL enB 1 w w.heap.size (some ⟨ib,io,none⟩) m l) {u:World} (hu:Below w.heap.size w u) {q:Nat} {v:Bool} (hq:l[q]?=some v):u.cell? ⟨ib,io+q,none⟩=some (.bool v):=by
 have hl:=(List.getElem?_eq_some_iff.1 hq).1
 have hv:=(List.getElem?_eq_some_iff.1 hq).2
 obtain ⟨b,off,e,hB,hc⟩:=(h.next hu).cells (by intro e;rw [e] at hl;simp at hl)
 cases e
 have d0:=hc q hl 0 (by decide)
 simp only [enB,Nat.add_zero,Nat.mul_one,List.getElem?_cons_zero] at d0
 rw [d0,hv]
def PartP (P:List Int) (w:World) (e:Ending) (w':World):Prop:=∃ Z,e=.returned (.slice (some ⟨Z,0,none⟩) P.length P.length)/\RB w' Z (inA P) 3/\w.heap.size<=Z/\Below w.heap.size w w'
theorem parted_any (w:World) (ua:Option Addr) (n uc:Nat) (L:List Ms) (ia:Option Addr) (ic:Nat) (ins:List Bool) (F:Nat) (caps:Array Value) (hcf:∀ (xs:Array Value) (w:World),Sem.run Tryz.prog (callFunc F xs) w=.ok (.enter F xs) w) (sg:Nat->Sg)
  (hn:n<=256) (hu:SL msC 6 w w.heap.size ua n L) (hi:SL enB 1 w w.heap.size ia n ins)
  (hgs:∀ k,k < n->okU (L.map (·.sc)) ins k=true->GoodSg (sg k))
  (hc:∀ u,Below w.heap.size w u->∀ k,k < n->okU (L.map (·.sc)) ins k=true->Calls Tryz.prog F (#[.int .i64 (k:Int)] ++ caps) u (fun e u'=>e=.returned (sgV (sg k))/\Below u.heap.size u u')):
  Calls Tryz.prog 50 #[.slice ua n uc,.slice ia n ic,.func (.func F) #[] caps] w (PartP (partZ n (okU (L.map (·.sc)) ins) sg) w):=by
 have hmm:=@run_makeMap Tryz.prog
 have hmk:=make_ints n (by omega)
 obtain ⟨ok,hok⟩:∃ ok,ok=okU (L.map (·.sc)) ins:=⟨_,rfl⟩
 rw [<-hok] at hgs hc ⊢
 obtain ⟨M,hM⟩:∃ M,M=w.heap.size:=⟨_,rfl⟩
 obtain ⟨A1,hA1⟩:∃ A,A=w.alloc (.map #[] 0):=⟨_,rfl⟩
 obtain ⟨A2,hA2⟩:∃ A,A=A1.alloc (.cells (inA (List.replicate n 0)) 3):=⟨_,rfl⟩
 have hz1:A1.heap.size=M+1:=by rw [hA1,World.size_alloc,hM]
 have hb1:Below w.heap.size w A1:=by rw [hA1];exact lit_below w _
 have hb2:Below A1.heap.size A1 A2:=by rw [hA2];exact lit_below A1 _
 have HB:=Lib.hid (after hb1 hb2)
 have HSM:Hid (SM A2 M (leastS ok sg 0)):=Lib.hid (by
  have h1:SM A1 M (fun _=>none):=SM.none _ _ (by rw [hA1,hM];exact (MapKept.heap_alloc w _).1)
  rw [leastS_zero]
  exact h1.same (hb2.block M (by omega)))
 have HRZ:Hid (RB A2 (M+1) (inA (pref ok sg n 0)) 3):=Lib.hid (by rw [hA2,<-hz1,pref_zero];exact rb_new A1 _ _)
 have HAE:Hid ((w.alloc (.map #[] 0)).alloc (.cells (inA (List.replicate n 0)) 3)=A2):=Lib.hid (by rw [hA2,hA1])
 have HM:=Lib.hid hM
 have HU:=Lib.hid hu
 have HI:=Lib.hid hi
 have HC:=Lib.hid hc
 have HG:=Lib.hid hgs
 have HOK:=Lib.hid hok
 have HUl:=Lib.hid hu.len
 have HIl:=Lib.hid hi.len
 have hni:(n:Int)<=256:=by omega
 clear hA1 hA2 hz1 hb1 hb2 hM hu hi hc hgs hok
 go_enter Tryz.func50,Tryz.ntmps50
 go_wp2
 rw [HAE.out,<-HM.out]
 go_loopw [19] (fun i wr=>∃ (k:Nat) (wx:World),wx=wr/\k<=n/\i=.int .i64 k/\Hid (Below w.heap.size w wx/\SM wx M (leastS ok sg k)/\RB wx (M+1) (inA (pref ok sg n k)) 3)) (fun i _=>n - (intOf i).toNat)
 case atStart=>exact ⟨0,_,rfl,by omega,rfl,Lib.hid ⟨HB.out,HSM.out,HRZ.out⟩⟩
 case round=>
  clear HSM HRZ HB HAE hmm hmk
  obtain ⟨k,wx,rfl,hk,rfl,HK⟩:=hrel
  by_cases hlt:k < n
  ·have hlti:(k:Int) < (n:Int):=by omega
   have hle1:w.heap.size<=M+1:=by rw [<-HM.out];omega
   have hle0:w.heap.size<=M:=by rw [<-HM.out];exact Nat.le_refl _
   have z0:wx.cell? ⟨M+1,k,none⟩=some (.int .i64 0):=by rw [HK.out.2.2.cell];refine inA_get ?_;rw [pref_get hlt,if_neg (by omega)]
   have z1:wx.frozen? ⟨M+1,k,none⟩=false:=HK.out.2.2.frozen
   obtain ⟨W1,hW1⟩:∃ x,x=wx.setCell ⟨M+1,k,none⟩ (.int .i64 (k:Int)):=⟨_,rfl⟩
   have hB1:Below w.heap.size w W1:=by rw [hW1];exact HK.out.1.setCell (p:=⟨M+1,k,none⟩) hle1 _
   have HM1:Hid (SM W1 M (leastS ok sg k)):=Lib.hid (by rw [hW1];exact HK.out.2.1.same (Below.heap_setCell _ _ _ _ (by simp)))
   have HR1:Hid (RB W1 (M+1) (inA ((pref ok sg n k).set k (k:Int))) 3):=Lib.hid (by
    have:=HK.out.2.2.set (j:=k) (.int .i64 (k:Int))
    rw [inA_set] at this
    rw [hW1];exact this)
   have hkI:k < ins.length:=by have:=HIl.out;omega
   have hkL:k < L.length:=by have:=HUl.out;omega
   obtain ⟨ib,io,hia,-,-⟩:=HI.out.cells (by intro e;rw [e] at hkI;simp at hkI)
   subst hia
   obtain ⟨b,hb⟩:∃ b,b=ins[k]:=⟨_,rfl⟩
   have hbk:ins[k]?=some b:=by rw [hb];exact List.getElem?_eq_getElem hkI
   have i0:W1.cell? ⟨ib,io+k,none⟩=some (.bool b):=bools_cells HI.out hB1 hbk
   obtain ⟨b1,o1,hae1,-,hc1⟩:=(HU.out.next hB1).cells (by intro e;rw [e] at hkL;simp at hkL)
   subst hae1
   obtain ⟨-,c1,-,-,-,-⟩:=ms_cells (fun q hq=>hc1 k hkL q hq)
   obtain ⟨sc,hsc⟩:∃ sc,sc=L[k].sc:=⟨_,rfl⟩
   have hLk:(L.map (·.sc))[k]?=some sc:=by rw [List.getElem?_map,List.getElem?_eq_getElem hkL,hsc];rfl
   rw [<-hsc] at c1
   obtain ⟨ki,hki⟩:∃ ki,ki=sc.kind:=⟨_,rfl⟩
   rw [<-hki] at c1
   have hokk:ok k=(b && decide (ki=1)):=by
    rw [HOK.out,okU,hbk,hLk,hki]
    cases b <;> simp
   have HB1:=Lib.hid hB1
   have HLT:=Lib.hid hlt
   rw [hW1] at i0 c1
   have HWE:Hid (wx.setCell ⟨M+1,k,none⟩ (.int .i64 (k:Int))=W1):=Lib.hid hW1.symm
   clear hc1 hW1 hb hsc hkI hkL hbk hLk hki hB1 hle0 hle1
   cases b
   ·have HP:Hid (partG ok sg k=k/\leastS ok sg (k+1)=leastS ok sg k):=Lib.hid ⟨partG_not (by rw [hokk];rfl),leastS_not (by rw [hokk];rfl)⟩
    clear hokk c1
    go_wp2
    rw [HWE.out]
    go_roundw
    case rel=>
     refine ⟨k+1,_,rfl,by have:=HLT.out;omega,by go_num,Lib.hid ⟨HB1.out,?_,?_⟩⟩
     ·rw [HP.out.2];exact HM1.out
     ·rw [<-pref_step HLT.out,HP.out.1];exact HR1.out
    case measure=>have:=HLT.out;simp [intOf];omega
   ·by_cases h1:ki=1
    ·subst h1
     have ho:ok k=true:=by rw [hokk];simp
     have hg:=HG.out k HLT.out ho
     have HCl:=Lib.hid (HC.out W1 HB1.out k HLT.out ho)
     have HO:=Lib.hid ho
     obtain ⟨s,hs⟩:∃ s,s=sg k:=⟨_,rfl⟩
     rw [<-hs] at hg HCl
     have HSk:=Lib.hid hs
     have HGd:=Lib.hid hg
     clear hokk ho hg hs
     go_wp2_with fail
     rw [HWE.out]
     clear z0 z1 i0 c1
     refine HCl.out.mono ?_
     rintro e u ⟨rfl,hub⟩
     have hBu:Below w.heap.size w u:=after HB1.out hub
     have hMu:SM u M (leastS ok sg k):=HM1.out.same (hub.block M HM1.out.lt)
     have hRu:RB u (M+1) (inA ((pref ok sg n k).set k (k:Int))) 3:=HR1.out.next hub
     have hgs:=HGd.out
     obtain ⟨sp,sd,sr⟩:=s
     obtain ⟨D,hD⟩:∃ D:ByteArray,D=⟨sd.toArray⟩:=⟨_,rfl⟩
     obtain ⟨R,hR⟩:∃ D:ByteArray,D=⟨sr.toArray⟩:=⟨_,rfl⟩
     simp only [sgV]
     rw [<-hD,<-hR]
     obtain ⟨W2,hW2⟩:∃ x,x=u.alloc (.cells #[.int .i64 sp,.string D,.string R] 76):=⟨_,rfl⟩
     have hb2:Below u.heap.size u W2:=by rw [hW2];exact lit_below u _
     have hM2:SM W2 M (leastS ok sg k):=hMu.same (hb2.block M hMu.lt)
     have hR2:=hRu.next hb2
     have hlk:=sm_look hM2 hgs
     simp only [sgV] at hlk
     rw [<-hD,<-hR] at hlk
     have hrv:RB W2 u.heap.size #[.int .i64 sp,.string D,.string R] 76:=by rw [hW2];exact rb_new u _ _
     have v0:W2.cell? ⟨u.heap.size,0,none⟩=some (.int .i64 sp):=hrv.cell
     have v1:W2.cell? ⟨u.heap.size,1,none⟩=some (.string D):=hrv.cell
     have v2:W2.cell? ⟨u.heap.size,2,none⟩=some (.string R):=hrv.cell
     have HB2:=Lib.hid (after hBu hb2)
     have HWE2:Hid (u.alloc (.cells #[.int .i64 sp,.string D,.string R] 76)=W2):=Lib.hid hW2.symm
     cases hF:leastS ok sg k ⟨sp,sd,sr⟩ with
     | some v=>
      rw [hF] at hlk
      simp only [Option.getD_some,Option.isSome_some] at hlk
      have HP:Hid (partG ok sg k=v/\leastS ok sg (k+1)=leastS ok sg k):=Lib.hid ⟨by rw [partG_least HO.out,<-HSk.out,hF];rfl,leastS_yes (by rw [<-HSk.out,hF];rfl)⟩
      have HM3:Hid (SM (W2.setCell ⟨M+1,k,none⟩ (.int .i64 (v:Int))) M (leastS ok sg k)):=Lib.hid (hM2.same (Below.heap_setCell _ _ _ _ (by simp)))
      have HR3:Hid (RB (W2.setCell ⟨M+1,k,none⟩ (.int .i64 (v:Int))) (M+1) (inA ((pref ok sg n k).set k (v:Int))) 3):=Lib.hid (by
       have:=hR2.set (j:=k) (.int .i64 (v:Int))
       rw [inA_set,List.set_set] at this
       exact this)
      have HB3:Hid (Below w.heap.size w (W2.setCell ⟨M+1,k,none⟩ (.int .i64 (v:Int)))):=Lib.hid (HB2.out.setCell (p:=⟨M+1,k,none⟩) (by rw [<-HM.out];exact Nat.le_succ _) _)
      have z0:W2.cell? ⟨M+1,k,none⟩=some (.int .i64 (k:Int)):=by
       rw [hR2.cell];refine inA_get ?_
       rw [List.getElem?_set,if_pos rfl,if_pos (by rw [pref_len];exact HLT.out)]
      have z1:W2.frozen? ⟨M+1,k,none⟩=false:=hR2.frozen
      rw [hW2] at v0 v1 v2 hlk z0 z1
      clear hW2 hb2 hM2 hR2 hrv hMu hRu hBu hgs hF hub hD hR
      go_wp2
      rw [HWE2.out]
      go_roundw
      case rel=>
       refine ⟨k+1,_,rfl,by have:=HLT.out;omega,by go_num,Lib.hid ⟨HB3.out,?_,?_⟩⟩
       ·rw [HP.out.2];exact HM3.out
       ·rw [<-pref_step HLT.out,HP.out.1];exact HR3.out
      case measure=>have:=HLT.out;simp [intOf];omega
     | none=>
      rw [hF] at hlk
      simp only [Option.getD_none,Option.isSome_none] at hlk
      have HP:Hid (partG ok sg k=k/\leastS ok sg (k+1)=fun t=>if t=sg k then some k else leastS ok sg k t):=Lib.hid ⟨by rw [partG_least HO.out,<-HSk.out,hF];rfl,leastS_new HO.out (by rw [<-HSk.out,hF])⟩
      obtain ⟨w',hput,hsm,hgr⟩:=sm_put hM2 ⟨sp,sd,sr⟩ k hgs hF
      simp only [sgV] at hput
      rw [<-hD,<-hR] at hput
      have HM3:Hid (SM w' M (leastS ok sg (k+1))):=Lib.hid (by rw [HP.out.2,<-HSk.out];exact hsm)
      have HR3:Hid (RB w' (M+1) (inA ((pref ok sg n k).set k (k:Int))) 3):=Lib.hid ((hgr.block (M+1) (lt_of_block hR2) (fun e=>by cases e)).trans hR2)
      have HB3:Hid (Below w.heap.size w w'):=Lib.hid (HB2.out.grown hgr HB2.out.size (fun j hj=>by cases hj;rw [<-HM.out];exact Nat.le_refl _))
      rw [hW2] at v0 v1 v2 hlk hput
      clear hW2 hb2 hM2 hR2 hrv hMu hRu hBu hgs hF hub hsm hgr hD hR
      go_wp2
      go_roundw
      case rel=>
       refine ⟨k+1,_,rfl,by have:=HLT.out;omega,by go_num,Lib.hid ⟨HB3.out,HM3.out,?_⟩⟩
       rw [<-pref_step HLT.out,HP.out.1];exact HR3.out
      case measure=>have:=HLT.out;simp [intOf];omega
    ·have t1:(ki != 1)=true:=by simp [h1]
     have HP:Hid (partG ok sg k=k/\leastS ok sg (k+1)=leastS ok sg k):=Lib.hid ⟨partG_not (by rw [hokk];simp [h1]),leastS_not (by rw [hokk];simp [h1])⟩
     clear hokk h1
     go_wp2
     rw [HWE.out]
     go_roundw
     case rel=>
      refine ⟨k+1,_,rfl,by have:=HLT.out;omega,by go_num,Lib.hid ⟨HB1.out,?_,?_⟩⟩
      ·rw [HP.out.2];exact HM1.out
      ·rw [<-pref_step HLT.out,HP.out.1];exact HR1.out
     case measure=>have:=HLT.out;simp [intOf];omega
  ·have hlti:¬ (k:Int) < (n:Int):=by omega
   have HKN:Hid (k=n):=Lib.hid (by omega)
   have HR:=Lib.hid HK.out.2.2
   have HBx:=Lib.hid HK.out.1
   clear HK
   go_wp2
   go_ret
   refine ⟨M+1,?_,?_,by rw [<-HM.out];exact Nat.le_succ _,HBx.out⟩
   ·trace_state;rw [partZ_len];rfl
   rw [<-pref_full];have:=HR.out;rw [HKN.out] at this;exact this
end Go.Proofs.YtbabckomagkjbaaGreatDoor
namespace Go.Proofs.YtbabckomagkjbaaGreatDoor
open Go.ChangeShapes Go.WideShapes Go.Deep Go.RowKit
theorem rb_slI {u:World} {g:Nat} {l:List Int} (h:RB u g (inA l) 3):SL enZ 1 u u.heap.size (some ⟨g,0,none⟩) l.length l:=by
 refine ⟨rfl,fun _=>⟨g,0,rfl,lt_of_block h,fun k hk j hj=>?_⟩⟩
 have:j=0:=by omega
 subst this
 rw [show 0+k*1+0=k from by omega,h.cell,inA_get (List.getElem?_eq_getElem hk)]
 rfl
def SgP (x:Sg) (u:World) (e:Ending) (u':World):Prop:=e=.returned (sgV x)/\Below u.heap.size u u'
theorem unit_cells {w:World} {ub uo n:Nat} {L:List Ms} (h:SL msC 6 w w.heap.size (some ⟨ub,uo,none⟩) n L) {u:World} (hu:Below w.heap.size w u) {k:Nat} {m:Ms} (hk:L[k]?=some m):
  u.cell? ⟨ub,uo+k*6,none⟩=some (.string ⟨m.sc.name.toArray⟩)/\u.cell? ⟨ub,uo+k*6+1,none⟩=some (.int .i64 m.sc.kind)/\u.cell? ⟨ub,uo+k*6+2,none⟩=some (.bool m.sc.keep)/\u.cell? ⟨ub,uo+k*6+3,none⟩=some (.int .i64 m.sc.align)/\u.cell? ⟨ub,uo+k*6+4,none⟩=some (.string ⟨m.sc.data.toArray⟩)/\u.cell? ⟨ub,uo+k*6+5,none⟩=some (.slice m.ad m.sc.rels.length m.cap):=by
 have hl:=(List.getElem?_eq_some_iff.1 hk).1
 have hv:=(List.getElem?_eq_some_iff.1 hk).2
 obtain ⟨b,off,e,hB,hc⟩:=(h.next hu).cells (by intro e;rw [e] at hl;simp at hl)
 cases e
 have:=ms_cells (fun q hq=>hc k hl q hq)
 rw [hv] at this
 exact this
theorem fold1_any (u:World) (c:Nat) (ua:Option Addr) (n uc:Nat) (L:List Ms) (k:Nat) (hn:n<=256) (hk:k < n) (hbx:RB u c #[.slice ua n uc] 22) (hs:SL msC 6 u u.heap.size ua n L) (hno:Notes u u.heap.size L) (hg:∀ m ∈ L,∀ r ∈ m.sc.rels,GoodRl r) (hl:∀ m ∈ L,m.sc.rels.length<=64) (hT:TabP u):
  Calls Tryz.prog 51 #[.int .i64 (k:Int),.pointer (some ⟨c,0,none⟩)] u (SgP (sgnA (L.map (·.sc)) k) u):=by
 have hkL:k < L.length:=by rw [<-hs.len];exact hk
 obtain ⟨ub,uo,hae,-,-⟩:=hs.cells (by intro e;rw [e] at hkL;simp at hkL)
 subst hae
 obtain ⟨m,hm⟩:∃ m,L[k]?=some m:=⟨_,List.getElem?_eq_getElem hkL⟩
 have hmem:m ∈ L:=List.mem_of_getElem? hm
 obtain ⟨A1,hA1⟩:∃ A,A=u.alloc (.cells #[.int .i64 0,.string ⟨#[]⟩,.string ⟨#[]⟩] 76):=⟨_,rfl⟩
 have hb1:Below u.heap.size u A1:=by rw [hA1];exact lit_below u _
 obtain ⟨y0,y1,y2,y3,y4,y5⟩:=unit_cells hs hb1 hm
 have hRY:RB A1 u.heap.size #[.int .i64 0,.string ⟨#[]⟩,.string ⟨#[]⟩] 76:=by rw [hA1];exact rb_new u _ _
 have g0:A1.cell? ⟨c,0,none⟩=some (.slice (some ⟨ub,uo,none⟩) n uc):=(hbx.next hb1).cell
 have HSg:Hid (sgnA (L.map (·.sc)) k=⟨0,m.sc.data,encT (m.sc.rels.flatMap num3)⟩):=Lib.hid (by unfold sgnA;rw [List.getElem?_map,hm];rfl)
 have HF:=Lib.hid (first_any ⟨m.sc.name.toArray⟩ ⟨m.sc.data.toArray⟩ m.sc.kind m.sc.align m.sc.keep m.ad m.sc.rels.length m.cap m.sc.rels A1 (hl m hmem) ((hno m hmem).next hb1) (hg m hmem) (hT.next hb1))
 have hki:(k:Int) < (n:Int):=by omega
 have hni:(n:Int)<=256:=by omega
 have HB1:=Lib.hid hb1
 have HRY:=Lib.hid hRY
 obtain ⟨⟨mn,mk,mp,ml,md,mr⟩,ma,mc⟩:=m
 simp only at y0 y1 y2 y3 y4 y5 HF HSg
 obtain ⟨rn,hrn⟩:∃ r,r=mr.length:=⟨_,rfl⟩
 obtain ⟨N,hN⟩:∃ N:ByteArray,N=⟨mn.toArray⟩:=⟨_,rfl⟩
 obtain ⟨D,hD⟩:∃ N:ByteArray,N=⟨md.toArray⟩:=⟨_,rfl⟩
 rw [<-hN] at y0 HF
 rw [<-hD] at y4 HF
 rw [<-hrn] at y5 HF
 have HD:=Lib.hid hD
 rw [hA1] at y0 y1 y2 y3 y4 y5 g0
 have HWE:Hid (u.alloc (.cells #[.int .i64 0,.string ⟨#[]⟩,.string ⟨#[]⟩] 76)=A1):=Lib.hid hA1.symm
 obtain ⟨H,hH⟩:∃ H,H=u.heap.size:=⟨_,rfl⟩
 rw [<-hH] at HRY
 have HH:=Lib.hid hH
 clear hbx hs hno hg hl hT hm hmem hA1 hb1 hRY hrn hN hD hk hkL hn hH
 go_enter Tryz.func51,Tryz.ntmps51
 go_wp2_with fail
 rw [HWE.out,<-HH.out]
 clear y0 y1 y2 y3 y4 y5 g0
 refine HF.out.mono ?_
 rintro e v ⟨rfl,hb⟩
 have hrv:=HRY.out.next hb
 have HRF:Hid (RB (((v.setCell ⟨H,0,none⟩ (.int .i64 0)).setCell ⟨H,1,none⟩ (.string D)).setCell ⟨H,2,none⟩ (.string ⟨(encT (mr.flatMap num3)).toArray⟩)) H #[.int .i64 0,.string D,.string ⟨(encT (mr.flatMap num3)).toArray⟩] 76):=Lib.hid (((hrv.set (j:=0) _).set (j:=1) _).set (j:=2) _)
 have hle:u.heap.size<=H:=by rw [<-HH.out];exact Nat.le_refl _
 have HBF:Hid (Below u.heap.size u (((v.setCell ⟨H,0,none⟩ (.int .i64 0)).setCell ⟨H,1,none⟩ (.string D)).setCell ⟨H,2,none⟩ (.string ⟨(encT (mr.flatMap num3)).toArray⟩))):=Lib.hid ((((after HB1.out hb).setCell (p:=⟨H,0,none⟩) hle _).setCell (p:=⟨H,1,none⟩) hle _).setCell (p:=⟨H,2,none⟩) hle _)
 have z0:v.cell? ⟨H,0,none⟩=some (.int .i64 0):=hrv.cell
 have z1:v.cell? ⟨H,1,none⟩=some (.string ⟨#[]⟩):=hrv.cell
 have z2:v.cell? ⟨H,2,none⟩=some (.string ⟨#[]⟩):=hrv.cell
 have q0:v.frozen? ⟨H,0,none⟩=false:=hrv.frozen
 have q1:v.frozen? ⟨H,1,none⟩=false:=hrv.frozen
 have q2:v.frozen? ⟨H,2,none⟩=false:=hrv.frozen
 clear hrv hb hle
 go_wp2
 refine bodyPost_ret (results_cell_row (P:=Tryz.prog) rfl _ _ H 76 _ (0,0) _ rfl HRF.out Tryz.underlying76 rfl (by kernel_rfl)) rfl ?_
 refine ⟨?_,HBF.out⟩
 rw [HSg.out,HD.out]
theorem fold2_any (u:World) (c c2:Nat) (ua:Option Addr) (n uc:Nat) (L:List Ms) (k:Nat) (pa:Option Addr) (pc:Nat) (P:List Int) (hn:n<=256) (hk:k < n) (hbx:RB u c #[.slice ua n uc] 22) (hbp:RB u c2 #[.slice pa n pc] 23) (hs:SL msC 6 u u.heap.size ua n L) (hno:Notes u u.heap.size L) (hg:∀ m ∈ L,∀ r ∈ m.sc.rels,0<=r.sym/\r.sym < (n:Int)) (hl:∀ m ∈ L,m.sc.rels.length<=64) (hP:SL enZ 1 u u.heap.size pa n P) (hPo:∀ x ∈ P,i64ok x) (hT:TabP u):
  Calls Tryz.prog 53 #[.int .i64 (k:Int),.pointer (some ⟨c,0,none⟩),.pointer (some ⟨c2,0,none⟩)] u (SgP (sgnB (L.map (·.sc)) P k) u):=by
 have hkL:k < L.length:=by rw [<-hs.len];exact hk
 have hkP:k < P.length:=by rw [<-hP.len];exact hk
 obtain ⟨ub,uo,hae,-,-⟩:=hs.cells (by intro e;rw [e] at hkL;simp at hkL)
 subst hae
 obtain ⟨m,hm⟩:∃ m,L[k]?=some m:=⟨_,List.getElem?_eq_getElem hkL⟩
 obtain ⟨vk,hvk⟩:∃ m,P[k]?=some m:=⟨_,List.getElem?_eq_getElem hkP⟩
 have hmem:m ∈ L:=List.mem_of_getElem? hm
 obtain ⟨A1,hA1⟩:∃ A,A=u.alloc (.cells #[.int .i64 0,.string ⟨#[]⟩,.string ⟨#[]⟩] 76):=⟨_,rfl⟩
 have hb1:Below u.heap.size u A1:=by rw [hA1];exact lit_below u _
 have hb2:Below u.heap.size u A1.drew:=hb1.trans ((Below.refl _ _).drew.mono (by have:=hb1.size;omega))
 have hRY:RB A1.drew u.heap.size #[.int .i64 0,.string ⟨#[]⟩,.string ⟨#[]⟩] 76:=by
  have:RB A1 u.heap.size #[.int .i64 0,.string ⟨#[]⟩,.string ⟨#[]⟩] 76:=by rw [hA1];exact rb_new u _ _
  exact this.next (Below.refl _ _).drew
 have HSg:Hid (sgnB (L.map (·.sc)) P k=⟨vk,[],encT (m.sc.rels.map (atP P))⟩):=Lib.hid (by unfold sgnB;rw [List.getElem?_map,hm,hvk];rfl)
 have HF:=Lib.hid (finer_any ⟨m.sc.name.toArray⟩ ⟨m.sc.data.toArray⟩ m.sc.kind m.sc.align m.sc.keep m.ad m.sc.rels.length m.cap m.sc.rels k vk pa n pc P A1.drew (hl m hmem) ((hno m hmem).next hb2) (by rw [<-hP.len];exact hg m hmem) (by omega) (hP.next hb2) hPo hvk (hT.next hb2))
 have hki:(k:Int) < (n:Int):=by omega
 have hni:(n:Int)<=256:=by omega
 have HBd:=Lib.hid hb2
 have HRY:=Lib.hid hRY
 obtain ⟨⟨mn,mk,mp,ml,md,mr⟩,ma,mc⟩:=m
 simp only at HF HSg
 obtain ⟨rn,hrn⟩:∃ r,r=mr.length:=⟨_,rfl⟩
 obtain ⟨N,hN⟩:∃ N:ByteArray,N=⟨mn.toArray⟩:=⟨_,rfl⟩
 obtain ⟨D,hD⟩:∃ N:ByteArray,N=⟨md.toArray⟩:=⟨_,rfl⟩
 have HK:Hid (∀ v,Below u.heap.size u v->(v.cell? ⟨c,0,none⟩=some (.slice (some ⟨ub,uo,none⟩) n uc)/\v.cell? ⟨c2,0,none⟩=some (.slice pa n pc)/\v.cell? ⟨ub,uo+k*6,none⟩=some (.string N)/\v.cell? ⟨ub,uo+k*6+1,none⟩=some (.int .i64 mk)/\v.cell? ⟨ub,uo+k*6+2,none⟩=some (.bool mp)/\v.cell? ⟨ub,uo+k*6+3,none⟩=some (.int .i64 ml)/\v.cell? ⟨ub,uo+k*6+4,none⟩=some (.string D)/\v.cell? ⟨ub,uo+k*6+5,none⟩=some (.slice ma rn mc))):=Lib.hid (fun v hv=>by
  obtain ⟨y0,y1,y2,y3,y4,y5⟩:=unit_cells hs hv hm
  rw [hN,hD,hrn]
  exact ⟨(hbx.next hv).cell,(hbp.next hv).cell,y0,y1,y2,y3,y4,y5⟩)
 rw [<-hN,<-hD,<-hrn] at HF
 have HWE:Hid (u.alloc (.cells #[.int .i64 0,.string ⟨#[]⟩,.string ⟨#[]⟩] 76)=A1):=Lib.hid hA1.symm
 obtain ⟨H,hH⟩:∃ H,H=u.heap.size:=⟨_,rfl⟩
 rw [<-hH] at HRY
 have HH:=Lib.hid hH
 clear hbx hbp hs hno hg hl hP hPo hT hm hvk hmem hA1 hb1 hb2 hRY hrn hN hD hk hkL hkP hn hH
 go_enter Tryz.func53,Tryz.ntmps53
 go_wp2_with fail
 rw [HWE.out,<-HH.out]
 have hle:u.heap.size<=H:=by rw [<-HH.out];exact Nat.le_refl _
 refine wp_region_held_drew (S:=fun v=>v.cell? ⟨c,0,none⟩=some (.slice (some ⟨ub,uo,none⟩) n uc)/\v.cell? ⟨c2,0,none⟩=some (.slice pa n pc)/\v.cell? ⟨ub,uo+k*6,none⟩=some (.string N)/\v.cell? ⟨ub,uo+k*6+1,none⟩=some (.int .i64 mk)/\v.cell? ⟨ub,uo+k*6+2,none⟩=some (.bool mp)/\v.cell? ⟨ub,uo+k*6+3,none⟩=some (.int .i64 ml)/\v.cell? ⟨ub,uo+k*6+4,none⟩=some (.string D)/\v.cell? ⟨ub,uo+k*6+5,none⟩=some (.slice ma rn mc)) (by kernel_rfl) (HK.out _ HBd.out) (fun hHeld=>?_)
 refine wpAnyH_take (i:=0) (v:=?_) rfl (by kernel_rfl) (by kernel_rfl) (by kernel_rfl) (fun _ _ _ h=>h) (Or.inl ⟨by kernel_rfl,?_⟩) (by assumption) ?_
 rotate_left 1
 ·intro w hSw;(try dsimp only at hSw);obtain ⟨g0,g1,y0,y1,y2,y3,y4,y5⟩:=hSw;go_simp;(try with_reducible rfl)
 (try simp only [Act.put,List.setIfInBounds_toArray,List.set_cons_zero,List.set_cons_succ])
 refine wpAnyH_take (i:=1) (v:=?_) rfl (by kernel_rfl) (by kernel_rfl) (by kernel_rfl) (fun _ _ _ h=>h) (Or.inl ⟨by kernel_rfl,?_⟩) (by assumption) ?_
 rotate_left 1
 ·intro w hSw;(try dsimp only at hSw);obtain ⟨g0,g1,y0,y1,y2,y3,y4,y5⟩:=hSw;go_simp;(try with_reducible rfl)
 (try simp only [Act.put,List.setIfInBounds_toArray,List.set_cons_zero,List.set_cons_succ])
 refine wpAnyH_take (i:=2) (v:=?_) rfl (by kernel_rfl) (by kernel_rfl) (by kernel_rfl) (fun _ _ _ h=>h) (Or.inl ⟨by kernel_rfl,?_⟩) (by assumption) ?_
 rotate_left 1
 ·intro w hSw;(try dsimp only at hSw);obtain ⟨g0,g1,y0,y1,y2,y3,y4,y5⟩:=hSw;go_simp;(try with_reducible rfl)
 (try simp only [Act.put,List.setIfInBounds_toArray,List.set_cons_zero,List.set_cons_succ])
 refine wpAnyH_take (i:=3) (v:=?_) rfl (by kernel_rfl) (by kernel_rfl) (by kernel_rfl) (fun _ _ _ h=>h) (Or.inl ⟨by kernel_rfl,?_⟩) (by assumption) ?_
 rotate_left 1
 ·intro w hSw;(try dsimp only at hSw);obtain ⟨g0,g1,y0,y1,y2,y3,y4,y5⟩:=hSw;go_simp;(try with_reducible rfl)
 (try simp only [Act.put,List.setIfInBounds_toArray,List.set_cons_zero,List.set_cons_succ])
 refine wpAnyH_take (i:=4) (v:=?_) rfl (by kernel_rfl) (by kernel_rfl) (by kernel_rfl) (fun _ _ _ h=>h) (Or.inl ⟨by kernel_rfl,?_⟩) (by assumption) ?_
 rotate_left 1
 ·intro w hSw;(try dsimp only at hSw);obtain ⟨g0,g1,y0,y1,y2,y3,y4,y5⟩:=hSw;go_simp;(try with_reducible rfl)
 (try simp only [Act.put,List.setIfInBounds_toArray,List.set_cons_zero,List.set_cons_succ])
 refine wpAnyH_take (i:=5) (v:=?_) rfl (by kernel_rfl) (by kernel_rfl) (by kernel_rfl) (fun _ _ _ h=>h) (Or.inl ⟨by kernel_rfl,?_⟩) (by assumption) ?_
 rotate_left 1
 ·intro w hSw;(try dsimp only at hSw);obtain ⟨g0,g1,y0,y1,y2,y3,y4,y5⟩:=hSw;go_simp;(try with_reducible rfl)
 (try simp only [Act.put,List.setIfInBounds_toArray,List.set_cons_zero,List.set_cons_succ])
 refine wpAnyH_ready (rs:=[6]) (by kernel_rfl) (by simp) ?_
 refine AllReadyH.cons rfl (fun K hK=>?_) ?_
 ·go_simp;go_wp2_with (go_at_call 54;refine HF.out.mono ?_;rintro e v ⟨rfl,hv⟩)
  have HYu:Hid (RB v H #[.int .i64 0,.string ⟨#[]⟩,.string ⟨#[]⟩] 76):=Lib.hid (HRY.out.next hv)
  have HBu:Hid (Below u.heap.size u v):=Lib.hid (after HBd.out hv)
  have HRF:Hid (RB (((v.setCell ⟨H,0,none⟩ (.int .i64 vk)).setCell ⟨H,1,none⟩ (.string ⟨#[]⟩)).setCell ⟨H,2,none⟩ (.string ⟨(encT (mr.map (atP P))).toArray⟩)) H #[.int .i64 vk,.string ⟨#[]⟩,.string ⟨(encT (mr.map (atP P))).toArray⟩] 76):=Lib.hid (((HYu.out.set (j:=0) _).set (j:=1) _).set (j:=2) _)
  have HBF:Hid (Below u.heap.size u (((v.setCell ⟨H,0,none⟩ (.int .i64 vk)).setCell ⟨H,1,none⟩ (.string ⟨#[]⟩)).setCell ⟨H,2,none⟩ (.string ⟨(encT (mr.map (atP P))).toArray⟩))):=Lib.hid (((HBu.out.setCell (p:=⟨H,0,none⟩) hle _).setCell (p:=⟨H,1,none⟩) hle _).setCell (p:=⟨H,2,none⟩) hle _)
  refine hK.out _ _ (HK.out _ HBu.out) (fun hHeld=>?_)
  clear hK K
  have z0:v.cell? ⟨H,0,none⟩=some (.int .i64 0):=HYu.out.cell
  have z1:v.cell? ⟨H,1,none⟩=some (.string ⟨#[]⟩):=HYu.out.cell
  have z2:v.cell? ⟨H,2,none⟩=some (.string ⟨#[]⟩):=HYu.out.cell
  have q0:v.frozen? ⟨H,0,none⟩=false:=HYu.out.frozen
  have q1:v.frozen? ⟨H,1,none⟩=false:=HYu.out.frozen
  have q2:v.frozen? ⟨H,2,none⟩=false:=HYu.out.frozen
  refine wpAnyH_ready (rs:=[7]) (by kernel_rfl) (by simp) ?_
  refine AllReadyH.cons rfl (fun K hK=>?_) ?_
  ·go_simp
   refine hK.out _ _ (HK.out _ HBF.out) (fun hHeld=>?_)
   clear hK K
   refine wpAnyH_done (by kernel_rfl) ?_ _
   go_wp2_with fail
   refine bodyPost_ret (results_cell_row (P:=Tryz.prog) rfl _ _ H 76 _ (0,0) _ rfl HRF.out Tryz.underlying76 rfl (by kernel_rfl)) rfl ?_
   refine ⟨?_,HBF.out⟩
   rw [HSg.out]
  exact AllReadyH.nil
 exact AllReadyH.nil
end Go.Proofs.YtbabckomagkjbaaGreatDoor
namespace Go.Proofs.YtbabckomagkjbaaGreatDoor
open Go.ChangeShapes Go.WideShapes Go.Deep Go.RowKit
def foldN (L:List Sc) (ins:List Bool):Nat->List Int
 | 0=>part1 L ins
 | j+1=>nextP L ins (foldN L ins j)
theorem foldN_fix (L:List Sc) (ins:List Bool):∀ j,Fix L ins (foldN L ins j)
 | 0=>fix_first L ins
 | j+1=>(foldN_fix L ins j).next
theorem foldN_len (L:List Sc) (ins:List Bool):∀ j,(foldN L ins j).length=L.length
 | 0=>partZ_len _ _ _
 | j+1=>partZ_len _ _ _
theorem foldN_stay {L:List Sc} {ins:List Bool} {j:Nat} (h:nextP L ins (foldN L ins j)=foldN L ins j):∀ d,foldN L ins (j+d)=foldN L ins j
 | 0=>rfl
 | d+1=>by
  show nextP L ins (foldN L ins (j+d))=_
  rw [foldN_stay h d,h]
theorem foldN_one {L:List Sc} {ins:List Bool} {i j:Nat} (hi:nextP L ins (foldN L ins i)=foldN L ins i) (hj:nextP L ins (foldN L ins j)=foldN L ins j):foldN L ins i=foldN L ins j:=by
 rcases Nat.le_total i j with h | h
 ·obtain ⟨d,rfl⟩:=Nat.le.dest h
  exact (foldN_stay hi d).symm
 ·obtain ⟨d,rfl⟩:=Nat.le.dest h
  exact foldN_stay hj d
theorem partZ_ok {n:Nat} (hn:n<=256) (ok:Nat->Bool) (sg:Nat->Sg):∀ x ∈ partZ n ok sg,i64ok x:=by
 intro x hx
 unfold partZ at hx
 obtain ⟨k,hk,rfl⟩:=List.mem_map.1 hx
 have:=partG_le (ok:=ok) (sg:=sg) k
 have:=List.mem_range.1 hk
 unfold i64ok
 omega
theorem foldN_ok {L:List Sc} (hn:L.length<=256) (ins:List Bool):∀ j,∀ x ∈ foldN L ins j,i64ok x
 | 0=>partZ_ok hn _ _
 | j+1=>partZ_ok hn _ _
theorem num3_ok {l:List Rl} (h:∀ r ∈ l,GoodRl r):∀ x ∈ l.flatMap num3,i64ok x:=by
 intro x hx
 obtain ⟨r,hr,hx⟩:=List.mem_flatMap.1 hx
 have g:=h r hr
 simp only [num3,List.mem_cons,List.not_mem_nil,or_false] at hx
 rcases hx with rfl | rfl | rfl
 ·exact g.1
 ·exact g.2.1
 ·exact g.2.2.2
theorem num3_len (l:List Rl):(l.flatMap num3).length=3*l.length:=by
 induction l with
 | nil=>rfl
 | cons r t ih=>rw [List.flatMap_cons,List.length_append,ih,List.length_cons];simp [num3];omega
theorem goodA {L:List Sc} (hg:∀ s ∈ L,(∀ r ∈ s.rels,GoodRl r)/\s.rels.length<=64/\s.data.length<=4096) (k:Nat):GoodSg (sgnA L k):=by
 unfold sgnA
 cases h:L[k]? with
 | none=>exact ⟨by unfold i64ok;simp,by simp [maxLen],by simp [maxLen]⟩
 | some s=>
  obtain ⟨h1,h2,h3⟩:=hg s (List.mem_of_getElem? h)
  have h4:=encT_len _ (num3_ok h1)
  rw [num3_len] at h4
  exact ⟨by unfold i64ok;simp,by show s.data.length<=_;unfold maxLen;omega,by show (encT _).length<=_;unfold maxLen;omega⟩
theorem goodB {L:List Sc} (hg:∀ s ∈ L,s.rels.length<=64) {P:List Int} (hP:∀ x ∈ P,i64ok x) (k:Nat):GoodSg (sgnB L P k):=by
 have hz:i64ok 0:=by unfold i64ok;simp
 have key:∀ q:Nat,i64ok ((P[q]?).getD 0):=by
  intro q
  cases h:P[q]? with
  | none=>exact hz
  | some v=>exact hP v (List.mem_of_getElem? h)
 unfold sgnB
 refine ⟨key k,by simp [maxLen],?_⟩
 cases h:L[k]? with
 | none=>simp [maxLen]
 | some s=>
  have h4:=encT_len (refsP P s) (by
   intro x hx
   unfold refsP at hx
   obtain ⟨r,-,rfl⟩:=List.mem_map.1 hx
   exact key _)
  have h5:(refsP P s).length<=64:=by unfold refsP;rw [List.length_map];exact hg s (List.mem_of_getElem? h)
  show (encT (refsP P s)).length<=_
  unfold maxLen;omega
def repsA (ds:Array Value):Nat:=(List.range ds.size).countP (fun (k:Nat)=>match ds[k]? with | some (.int _ v)=>v == ((k:Nat):Int) | _=>false)
theorem repsA_in (P:List Int):repsA (inA P)=repsN P:=by
 unfold repsA repsN
 rw [show (inA P).size=P.length by simp [inA]]
 apply List.countP_congr
 intro k hk
 have hl:k < P.length:=List.mem_range.1 hk
 rw [inA_get (List.getElem?_eq_getElem hl),List.getElem?_eq_getElem hl]
 simp
def partsN (c2:Nat) (u:World):Nat:=match u.heap[c2]? with
 | some (.cells cs _ _)=>(match (cs[0]?:Option Value) with
  | some (Value.slice (some a) _ _)=>(match u.heap[a.block]? with | some (.cells ds _ _)=>repsA ds | _=>0)
  | _=>0)
 | _=>0
theorem partsN_eq {c2 Z n m:Nat} {T T':TypeId} {u:World} {P:List Int} (h1:RB u c2 #[.slice (some ⟨Z,0,none⟩) n m] T) (h2:RB u Z (inA P) T'):partsN c2 u=repsN P:=by
 unfold partsN
 rw [show u.heap[c2]?=some (.cells #[.slice (some ⟨Z,0,none⟩) n m] T (0,0)) from h1]
 show (match u.heap[Z]? with | some (.cells ds _ _)=>repsA ds | _=>0)=_
 rw [show u.heap[Z]?=some (.cells (inA P) T' (0,0)) from h2]
 exact repsA_in P
structure FI (w:World) (c2 Z:Nat) (ua:Option Addr) (n uc:Nat) (P:List Int) (u:World):Prop where
 kk:Below w.heap.size w u
 bx:RB u w.heap.size #[.slice ua n uc] 22
 bp:RB u c2 #[.slice (some ⟨Z,0,none⟩) n n] 23
 ps:RB u Z (inA P) 3
 le:w.heap.size < c2
 ne:Z ≠ c2
 lz:w.heap.size < Z
theorem FI.next {w u v:World} {c2 Z n uc:Nat} {ua:Option Addr} {P:List Int} (h:FI w c2 Z ua n uc P u) (hb:Below u.heap.size u v):FI w c2 Z ua n uc P v:=
 ⟨after h.kk hb,h.bx.next hb,h.bp.next hb,h.ps.next hb,h.le,h.ne,h.lz⟩
theorem FI.turn {w u:World} {c2 Z Z' n uc:Nat} {ua:Option Addr} {P P':List Int} (h:FI w c2 Z ua n uc P u) (hr:RB u Z' (inA P') 3) (hne:Z' ≠ c2) (hl:w.heap.size < Z'):FI w c2 Z' ua n uc P' (u.setCell ⟨c2,0,none⟩ (.slice (some ⟨Z',0,none⟩) n n)):=by
 have hle:=h.le
 refine ⟨h.kk.setCell (p:=⟨c2,0,none⟩) (by show w.heap.size<=c2;omega) _,(hother (by omega)).trans h.bx,h.bp.set (j:=0) _,(hother (by omega)).trans hr,h.le,hne,hl⟩
def endK (ins:List Bool) (P:List Int) (k:Nat):List Int:=(List.range P.length).map (fun i=>if i < k/\ins[i]? ≠ some true then -1 else (P[i]?).getD 0)
theorem endK_len (ins:List Bool) (P:List Int) (k:Nat):(endK ins P k).length=P.length:=by unfold endK;simp
theorem endK_get {ins:List Bool} {P:List Int} {k i:Nat} (h:i < P.length):(endK ins P k)[i]?=some (if i < k/\ins[i]? ≠ some true then -1 else (P[i]?).getD 0):=by
 unfold endK
 rw [List.getElem?_map,List.getElem?_range h];rfl
theorem endK_zero (ins:List Bool) (P:List Int):endK ins P 0=P:=by
 apply List.ext_getElem?
 intro i
 by_cases h:i < P.length
 ·rw [endK_get h,if_neg (by omega),List.getElem?_eq_getElem h];rfl
 ·rw [List.getElem?_eq_none (by rw [endK_len];omega),List.getElem?_eq_none (by omega)]
theorem endK_full (ins:List Bool) (P:List Int):endK ins P P.length=endL ins P:=by
 unfold endK endL
 apply List.map_congr_left
 intro i hi
 have:=List.mem_range.1 hi
 by_cases h:ins[i]?=some true
 ·rw [if_neg (by simp [h]),if_pos h]
 ·rw [if_pos ⟨this,h⟩,if_neg h]
theorem endK_in {ins:List Bool} {P:List Int} {k:Nat} (h:ins[k]?=some true):endK ins P (k+1)=endK ins P k:=by
 unfold endK
 apply List.map_congr_left
 intro i hi
 by_cases e:i=k
 ·subst e;rw [if_neg (by simp [h]),if_neg (by simp [h])]
 ·by_cases h2:i < k/\ins[i]? ≠ some true
  ·rw [if_pos h2,if_pos ⟨by omega,h2.2⟩]
  ·rw [if_neg h2,if_neg (fun x=>h2 ⟨by omega,x.2⟩)]
theorem endK_out {ins:List Bool} {P:List Int} {k:Nat} (hk:k < P.length) (h:ins[k]?=some false):(endK ins P k).set k (-1)=endK ins P (k+1):=by
 apply List.ext_getElem?
 intro i
 by_cases hi:i < P.length
 ·rw [endK_get hi,List.getElem?_set]
  by_cases e:k=i
  ·subst e
   rw [if_pos rfl,if_pos (by rw [endK_len];exact hk),if_pos ⟨by omega,by rw [h];simp⟩]
  ·rw [if_neg e,endK_get hi]
   by_cases h2:i < k/\ins[i]? ≠ some true
   ·rw [if_pos h2,if_pos ⟨by omega,h2.2⟩]
   ·rw [if_neg h2,if_neg (fun x=>h2 ⟨by omega,x.2⟩)]
 ·rw [List.getElem?_eq_none (by rw [List.length_set,endK_len];omega),List.getElem?_eq_none (by rw [endK_len];omega)]
def FoldP (L:List Sc) (ins:List Bool) (n:Nat) (w:World) (e:Ending) (w':World):Prop:=
 ∃ j Z,nextP L ins (foldN L ins j)=foldN L ins j/\e=.returned (.tuple #[.slice (some ⟨Z,0,none⟩) n n,.int .i64 0])/\RB w' Z (inA (endL ins (foldN L ins j))) 3/\Below w.heap.size w w'
theorem fold_yes (w:World) (ua:Option Addr) (n uc:Nat) (L:List Ms) (ia:Option Addr) (ic:Nat) (ins:List Bool) (hn:n<=maxLen) (hs:SL msC 6 w w.heap.size ua n L) (hno:Notes w w.heap.size L) (hg:∀ x ∈ L,GoodSc x.sc) (hb:∀ x ∈ L,x.sc.rels.length*32<=reachBytes) (hi:SL enB 1 w w.heap.size ia n ins) (hT:TabP w) (h:unitsR (L.map (·.sc))=true):
  Calls Tryz.prog 20 #[.slice ua n uc,.slice ia n ic] w (FoldP (L.map (·.sc)) ins n w):=by
 obtain ⟨S,hS⟩:∃ S,S=L.map (·.sc):=⟨_,rfl⟩
 have hSl:S.length=n:=by rw [hS,List.length_map];exact hs.len.symm
 have hn2:n<=256:=by have:=units_len h;rw [<-hS,hSl] at this;exact this
 have hsec:∀ s ∈ S,SecOk s/\∀ r ∈ s.rels,0<=r.sym/\r.sym < (n:Int):=by
  intro s hs1
  obtain ⟨i,hi1⟩:=List.getElem?_of_mem hs1
  have:=units_sec h (by rw [<-hS];exact hi1)
  rw [<-hS,hSl] at this;exact this
 have hmS:∀ m ∈ L,m.sc ∈ S:=fun m hm=>by rw [hS];exact List.mem_map.2 ⟨m,hm,rfl⟩
 have hgA:∀ s ∈ S,(∀ r ∈ s.rels,GoodRl r)/\s.rels.length<=64/\s.data.length<=4096:=by
  intro s hs1
  have h1:=(hsec s hs1).1
  rw [hS] at hs1
  obtain ⟨m,hm,rfl⟩:=List.mem_map.1 hs1
  exact ⟨(hg m hm).rels,h1.rels,h1.data⟩
 have hmf:∀ (fn:Fn) (first cap:Array Value) (w:World),(Instr.makeFunc fn first cap).run Tryz.prog w=.ok (.func fn first cap) w:=fun _ _ _ _=>rfl
 have hni:(n:Int)<=256:=by omega
 obtain ⟨W0,hW0⟩:∃ x,x=w.alloc (.cells #[.slice ua n uc] 22):=⟨_,rfl⟩
 have hb0:Below w.heap.size w W0:=by rw [hW0];exact lit_below w _
 have hr0:RB W0 w.heap.size #[.slice ua n uc] 22:=by rw [hW0];exact rb_new w _ _
 have x0:W0.cell? ⟨w.heap.size,0,none⟩=some (.slice ua n uc):=hr0.cell
 have hIs:=gIs_any ua n uc L W0 hn (hs.next hb0) (hno.next hb0) hg hb (hT.next hb0)
 rw [h] at hIs
 have HIs:=Lib.hid hIs
 have HB0:=Lib.hid hb0
 have HR0:=Lib.hid hr0
 have HWE:Hid (w.alloc (.cells #[.slice ua n uc] 22)=W0):=Lib.hid hW0.symm
 have HPart:Hid (∀ u,Below w.heap.size w u->∀ (F:Nat) (caps:Array Value) (hcf:∀ (xs:Array Value) (w:World),Sem.run Tryz.prog (callFunc F xs) w=.ok (.enter F xs) w) (sg:Nat->Sg),(∀ k,GoodSg (sg k))->
   (∀ v,Below u.heap.size u v->∀ k,k < n->Calls Tryz.prog F (#[.int .i64 (k:Int)] ++ caps) v (SgP (sg k) v))->Calls Tryz.prog 50 #[.slice ua n uc,.slice ia n ic,.func (.func F) #[] caps] u (PartP (partZ n (okU S ins) sg) u)):=Lib.hid (fun u hu F caps hcf sg hgs hc=>by
  rw [hS]
  exact parted_any u ua n uc L ia ic ins F caps hcf sg hn2 (hs.next hu) (hi.next hu) (fun k _ _=>hgs k) (fun v hv k hk _=>hc v hv k hk))
 have HOne:Hid (∀ u,Below w.heap.size w u->RB u w.heap.size #[.slice ua n uc] 22->∀ k,k < n->Calls Tryz.prog 51 #[.int .i64 (k:Int),.pointer (some ⟨w.heap.size,0,none⟩)] u (SgP (sgnA S k) u)):=Lib.hid (fun u hu hx k hk=>by
  rw [hS]
  exact fold1_any u w.heap.size ua n uc L k hn2 hk hx (hs.next hu) (hno.next hu) (fun m hm=>(hg m hm).rels) (fun m hm=>(hsec _ (hmS m hm)).1.rels) (hT.next hu))
 have HTwo:Hid (∀ u c2 Z P,FI w c2 Z ua n uc P u->P.length=n->(∀ x ∈ P,i64ok x)->∀ k,k < n->Calls Tryz.prog 53 #[.int .i64 (k:Int),.pointer (some ⟨w.heap.size,0,none⟩),.pointer (some ⟨c2,0,none⟩)] u (SgP (sgnB S P k) u)):=Lib.hid (fun u c2 Z P hf hPl hPo k hk=>by
  rw [hS]
  exact fold2_any u w.heap.size c2 ua n uc L k (some ⟨Z,0,none⟩) n P hn2 hk hf.bx hf.bp (hs.next hf.kk) (hno.next hf.kk) (fun m hm=>(hsec _ (hmS m hm)).2) (fun m hm=>(hsec _ (hmS m hm)).1.rels) (by have:=rb_slI hf.ps;rw [hPl] at this;exact this) hPo (hT.next hf.kk))
 have HIn:Hid (∀ u,Below w.heap.size w u->SL enB 1 u u.heap.size ia n ins):=Lib.hid (fun u hu=>hi.next hu)
 have HGA:Hid (∀ k,GoodSg (sgnA S k)):=Lib.hid (goodA hgA)
 have HGB:Hid (∀ j k,GoodSg (sgnB S (foldN S ins j) k)):=Lib.hid (fun j k=>goodB (fun s hs=>(hgA s hs).2.1) (foldN_ok (by omega) ins j) k)
 have HFo:Hid (∀ j,∀ x ∈ foldN S ins j,i64ok x):=Lib.hid (foldN_ok (by omega) ins)
 have HSl:=Lib.hid hSl
 rw [<-hS]
 rw [hW0] at x0
 clear hW0 hb0 hr0 hs hno hg hb hT h hn2 hsec hmS hgA hIs hi hS hSl hn
 go_enter Tryz.func20,Tryz.ntmps20
 go_wp2_with fail
 refine wp_scope_straight ?_
 go_wp2_with fail
 rw [HWE.out]
 clear x0
 refine HIs.out.mono ?_
 rintro e u1 ⟨rfl,hb⟩
 have hB1:=after HB0.out hb
 have hX1:=HR0.out.next hb
 have x0:u1.cell? ⟨w.heap.size,0,none⟩=some (.slice ua n uc):=hX1.cell
 have HP1:=Lib.hid (HPart.out u1 hB1 51 #[.pointer (some ⟨w.heap.size,0,none⟩)] (fun _ _=>by kernel_rfl) (sgnA S) HGA.out (fun v hv k hk=>HOne.out v (after hB1 hv) (hX1.next hv) k hk))
 have HB1:=Lib.hid hB1
 have HX1:=Lib.hid hX1
 clear hb hB1 hX1
 go_wp2_with fail
 clear x0
 refine HP1.out.mono ?_
 rintro e u2 ⟨Z,rfl,hr,hz,hb⟩
 have HE0:Hid (partZ n (okU S ins) (sgnA S)=foldN S ins 0):=Lib.hid (by show _=part1 S ins;unfold part1;rw [HSl.out])
 rw [partZ_len]
 rw [HE0.out] at hr
 obtain ⟨c2,hc2⟩:∃ x,x=u2.heap.size:=⟨_,rfl⟩
 obtain ⟨W3,hW3⟩:∃ x,x=u2.alloc (.cells #[.slice (some ⟨Z,0,none⟩) n n] 23):=⟨_,rfl⟩
 have hb3:Below u2.heap.size u2 W3:=by rw [hW3];exact lit_below u2 _
 have HF0:Hid (FI w c2 Z ua n uc (foldN S ins 0) W3):=Lib.hid (by
  have h1:=lt_of_block HX1.out
  have h2:=hb.size
  have h3:=lt_of_block hr
  exact ⟨after (after HB1.out hb) hb3,(HX1.out.next hb).next hb3,by rw [hW3,hc2];exact rb_new u2 _ _,hr.next hb3,by omega,by omega,by omega⟩)
 have HWE3:Hid (u2.alloc (.cells #[.slice (some ⟨Z,0,none⟩) n n] 23)=W3):=Lib.hid hW3.symm
 have HC2:=Lib.hid hc2
 clear hr hz hb hb3 hW3 hc2 HWE HIs
 go_wp2_with fail
 rw [HWE3.out,<-HC2.out]
 refine wp_label ?_
 go_wp2_with fail
 go_loopw [7] (fun i wr=>∃ (j Z:Nat),Hid (FI w c2 Z ua n uc (foldN S ins j) wr)) (fun _ wr=>n - partsN c2 wr)
 case atStart=>exact ⟨0,Z,HF0⟩
 case round=>
  clear HF0 HWE3 HE0
  obtain ⟨j,Z,HK⟩:=hrel
  have x0:wr.cell? ⟨w.heap.size,0,none⟩=some (.slice ua n uc):=HK.out.bx.cell
  have HP2:=Lib.hid (HPart.out wr HK.out.kk 53 #[.pointer (some ⟨w.heap.size,0,none⟩),.pointer (some ⟨c2,0,none⟩)] (fun _ _=>by kernel_rfl) (sgnB S (foldN S ins j)) (HGB.out j) (fun v hv k hk=>HTwo.out v c2 Z _ (HK.out.next hv) (by rw [foldN_len];exact HSl.out) (HFo.out j) k hk))
  go_wp2_with fail
  clear x0
  refine HP2.out.mono ?_
  rintro e u3 ⟨Z',rfl,hr,hz,hb⟩
  have HE1:Hid (partZ n (okU S ins) (sgnB S (foldN S ins j))=foldN S ins (j+1)):=Lib.hid (by show _=nextP S ins (foldN S ins j);unfold nextP;rw [HSl.out])
  rw [partZ_len]
  rw [HE1.out] at hr
  have hK3:=HK.out.next hb
  have g0:u3.cell? ⟨c2,0,none⟩=some (.slice (some ⟨Z,0,none⟩) n n):=hK3.bp.cell
  have hZ1:Z' ≠ c2:=by have:=lt_of_block HK.out.bp;omega
  have hZ2:w.heap.size < Z':=by have:=lt_of_block HK.out.bx;omega
  have hl1:(foldN S ins (j+1)).length=n:=by rw [foldN_len];exact HSl.out
  have hl2:(foldN S ins j).length=n:=by rw [foldN_len];exact HSl.out
  have hEq:=Tryz.slices_Equal_int Z' 0 n n Z 0 n n (foldN S ins (j+1)) (foldN S ins j) u3 (by omega) (by omega) (by omega) (by omega)
   (fun q hq=>by rw [Nat.zero_add,hr.cell,inA_get (List.getElem?_eq_getElem hq)];simp [List.getD,List.getElem?_eq_getElem hq])
   (fun q hq=>by rw [Nat.zero_add,hK3.ps.cell,inA_get (List.getElem?_eq_getElem hq)];simp [List.getD,List.getElem?_eq_getElem hq])
  rw [List.take_of_length_le (by omega),List.take_of_length_le (by omega)] at hEq
  have HEq:=Lib.hid hEq
  have HK3:=Lib.hid hK3
  have HR3:=Lib.hid hr
  have HZs:=Lib.hid (And.intro hZ1 hZ2)
  have HLs:=Lib.hid (And.intro hl1 hl2)
  have HPN:Hid (partsN c2 wr=repsN (foldN S ins j)):=Lib.hid (partsN_eq HK.out.bp HK.out.ps)
  clear hr hz hb hK3 hZ1 hZ2 hl1 hl2 hEq
  go_wp2_with fail
  refine HEq.out.mono ?_
  rintro e u4 ⟨rfl,q,hq4⟩
  have hb4:Below u3.heap.size u3 u4:=by rw [hq4];exact ⟨rfl,rfl,rfl,Nat.le_refl _,fun _ _=>rfl⟩
  have HK4:=Lib.hid (HK3.out.next hb4)
  have HR4:=Lib.hid (HR3.out.next hb4)
  clear hq4 hb4 g0 HEq
  by_cases hfx:foldN S ins (j+1)=foldN S ins j
  ·have t1:(foldN S ins (j+1) == foldN S ins j)=true:=by simp [hfx]
   rw [t1]
   have HFx:=Lib.hid hfx
   have g0:u4.cell? ⟨c2,0,none⟩=some (.slice (some ⟨Z,0,none⟩) n n):=HK4.out.bp.cell
   clear t1 hfx
   go_wp2_with fail
   clear g0
   have HP0:Hid (RB u4 Z (inA (endK ins (foldN S ins j) 0)) 3):=Lib.hid (by rw [endK_zero];exact HK4.out.ps)
   have HB4:Hid (RB u4 c2 #[.slice (some ⟨Z,0,none⟩) n n] 23):=Lib.hid HK4.out.bp
   have HKK:Hid (Below w.heap.size w u4):=Lib.hid HK4.out.kk
   have HZZ:Hid (Z ≠ c2/\w.heap.size<=Z):=Lib.hid ⟨HK4.out.ne,by have:=HK4.out.lz;omega⟩
   clear HK3 HR3 HK4 HR4 HPN HP2
   go_loopw [33] (fun i wr=>∃ (k:Nat) (wx:World),wx=wr/\k<=n/\i=.int .i64 k/\Hid (Below w.heap.size w wx/\RB wx c2 #[.slice (some ⟨Z,0,none⟩) n n] 23/\RB wx Z (inA (endK ins (foldN S ins j) k)) 3)) (fun i _=>n - (intOf i).toNat)
   case atStart=>exact ⟨0,_,rfl,by omega,rfl,Lib.hid ⟨HKK.out,HB4.out,HP0.out⟩⟩
   case round=>
    obtain ⟨k,wx,rfl,hk,rfl,HQ⟩:=hrel
    clear HP0 HB4 HKK
    by_cases hlt:k < n
    ·have hlti:(k:Int) < (n:Int):=by omega
     have hsl:=HIn.out wx HQ.out.1
     have hkI:k < ins.length:=by rw [<-hsl.len];exact hlt
     obtain ⟨ib,io,hia,-,-⟩:=hsl.cells (by intro e;rw [e] at hkI;simp at hkI)
     subst hia
     obtain ⟨b,hb⟩:∃ b,b=ins[k]:=⟨_,rfl⟩
     have hbk:ins[k]?=some b:=by rw [hb];exact List.getElem?_eq_getElem hkI
     have i0:wx.cell? ⟨ib,io+k,none⟩=some (.bool b):=bools_cells hsl (Below.refl _ _) hbk
     have HLT:=Lib.hid hlt
     have HBk:=Lib.hid hbk
     have HPl:Hid (k < (foldN S ins j).length):=Lib.hid (by rw [HLs.out.2];exact hlt)
     clear hsl hkI hb hbk
     cases b
     ·have g0:wx.cell? ⟨c2,0,none⟩=some (.slice (some ⟨Z,0,none⟩) n n):=HQ.out.2.1.cell
      have z0:wx.cell? ⟨Z,k,none⟩=some (.int .i64 ((foldN S ins j)[k]?.getD 0)):=by
       rw [HQ.out.2.2.cell];refine inA_get ?_
       rw [endK_get HPl.out,if_neg (by omega)]
      have z1:wx.frozen? ⟨Z,k,none⟩=false:=HQ.out.2.2.frozen
      have hne:=HZZ.out.1
      have HNx:Hid (Below w.heap.size w (wx.setCell ⟨Z,k,none⟩ (.int .i64 (-1)))/\RB (wx.setCell ⟨Z,k,none⟩ (.int .i64 (-1))) c2 #[.slice (some ⟨Z,0,none⟩) n n] 23/\RB (wx.setCell ⟨Z,k,none⟩ (.int .i64 (-1))) Z (inA (endK ins (foldN S ins j) (k+1))) 3):=Lib.hid ⟨HQ.out.1.setCell (p:=⟨Z,k,none⟩) HZZ.out.2 _,(hother (Ne.symm hne)).trans HQ.out.2.1,by
       have:=HQ.out.2.2.set (j:=k) (.int .i64 (-1))
       rw [inA_set,endK_out HPl.out HBk.out] at this
       exact this⟩
      generalize ((foldN S ins j)[k]?.getD 0)=vv at z0
      clear hne
      go_wp2
      go_roundw
      case rel=>exact ⟨k+1,_,rfl,by have:=HLT.out;omega,by go_num,HNx⟩
      case measure=>have:=HLT.out;simp [intOf];omega
     ·go_wp2
      go_roundw
      case rel=>exact ⟨k+1,_,rfl,by have:=HLT.out;omega,by go_num,Lib.hid ⟨HQ.out.1,HQ.out.2.1,by rw [endK_in HBk.out];exact HQ.out.2.2⟩⟩
      case measure=>have:=HLT.out;simp [intOf];omega
    ·have hlti:¬ (k:Int) < (n:Int):=by omega
     have HKN:Hid (k=n):=Lib.hid (by omega)
     have g0:wx.cell? ⟨c2,0,none⟩=some (.slice (some ⟨Z,0,none⟩) n n):=HQ.out.2.1.cell
     go_wp2
     go_ret2
     refine ⟨j,Z,HFx.out,rfl,?_,HQ.out.1⟩
     have:=HQ.out.2.2
     rw [HKN.out,<-HLs.out.2,endK_full] at this
     exact this
  ·have t1:(foldN S ins (j+1) == foldN S ins j)=false:=by simp [hfx]
   rw [t1]
   have g0:u4.cell? ⟨c2,0,none⟩=some (.slice (some ⟨Z,0,none⟩) n n):=HK4.out.bp.cell
   have f0:u4.frozen? ⟨c2,0,none⟩=false:=HK4.out.bp.frozen
   have HT4:=Lib.hid (HK4.out.turn HR4.out HZs.out.1 HZs.out.2)
   have HMo:Hid (repsN (foldN S ins j) < repsN (foldN S ins (j+1))):=Lib.hid (next_more (foldN_fix S ins j).isP hfx)
   have HLe:Hid (repsN (foldN S ins (j+1))<=n):=Lib.hid (by have:=repsN_le (foldN S ins (j+1));rw [HLs.out.1] at this;exact this)
   clear t1 hfx
   go_wp2
   go_roundw
   case rel=>exact ⟨j+1,Z',HT4⟩
   case measure=>
    rw [HPN.out,partsN_eq HT4.out.bp HT4.out.ps]
    have:=HMo.out
    have:=HLe.out
    omega
end Go.Proofs.YtbabckomagkjbaaGreatDoor
