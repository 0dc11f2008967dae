/- The document's objects: Is. The document's objects: the reference's Find. What Big leaves of an object. -/
import Derived.Test.YthkolmebokfagaaGreatDoorr1
import Derived.Test.YthkolmebokfagaaGreatDoorn3
import Derived.Test.YthkolmebokfagaaGreatDoorqI
set_option maxRecDepth 100000
set_option maxHeartbeats 8000000
set_option linter.unusedVariables false
set_option linter.unusedSimpArgs false
namespace Go.Proofs.YthkolmebokfagaaGreatDoor
open Go.ChangeShapes Go.WideShapes Go.Deep Go.RowKit
theorem rsym_any (a:Option Addr) (n c:Nat) (L:List Ms) (a2:Option Addr) (n2 c2:Nat) (l:List Sy) (hn:n<=1000000) (hn2:n2<=1000000) (w:World) (hs:SL msC 6 w w.heap.size a n L) (hs2:SL syC 4 w w.heap.size a2 n2 l) (k:Nat) (hkl:k < l.length) (hnl:∀ t ∈ l,t.name.length<=6000):
  Calls Tryz.prog 51 #[.agg #[.slice a n c,.slice a2 n2 c2],.int .i64 (k:Int)] w (RetB (.bool (rSyB (L.map (·.sc)) l k)) w):=by
 obtain ⟨⟨nm,bi,se,of⟩,hs0⟩:∃ s,s=l[k]:=⟨_,rfl⟩
 have hk0:l[k]?=some ⟨nm,bi,se,of⟩:=by rw [hs0];exact List.getElem?_eq_getElem hkl
 obtain ⟨N,hN⟩:∃ N:ByteArray,N=⟨nm.toArray⟩:=⟨_,rfl⟩
 have hNn:N.data.toList=nm:=by rw [hN]
 have hk:l[k]?=some ⟨N.data.toList,bi,se,of⟩:=by rw [hNn];exact hk0
 have hLn:((L.map (·.sc)).length:Int)=(n:Int):=by rw [List.length_map,hs.len]
 have E:rSyB (L.map (·.sc)) l k=(standsL ⟨N.data.toList,bi,se,of⟩ (L.map (·.sc)) && (if N.data.toList=[] then decide (bi=1) else isNmL N.data.toList && (l.take k).all fun t=>decide (t.name ≠ N.data.toList))):=by
  unfold rSyB
  rw [hk]
 rw [E]
 clear E hs0 hk0 hN hNn
 have S:standsL ⟨N.data.toList,bi,se,of⟩ (L.map (·.sc))=if bi < 1\/3 < bi then false
   else if se = -1 then decide (bi ≠ 1) && decide (of=0)
   else decide (0<=se) && decide (se < (n:Int)) && decide (0<=of) && (match (L.map (·.sc))[se.toNat]? with | some t=>decide (of<=(t.data.length:Int)) | none=>false):=by
  unfold standsL
  simp only [hLn]
  rfl
 rw [S]
 clear S
 by_cases h0:bi < 1
 ·rw [if_pos (.inl h0),Bool.false_and];exact rsym_1 a n c L a2 n2 c2 l hn hn2 w hs hs2 k N bi se of hk h0
 by_cases h1:3 < bi
 ·rw [if_pos (.inr h1),Bool.false_and];exact rsym_2 a n c L a2 n2 c2 l hn hn2 w hs hs2 k N bi se of hk h0 h1
 rw [if_neg (by omega)]
 by_cases h2:se < -1
 ·rw [if_neg (by omega),decide_eq_false (p:=0<=se) (by omega),Bool.false_and,Bool.false_and,Bool.false_and,Bool.false_and];exact rsym_3 a n c L a2 n2 c2 l hn hn2 w hs hs2 k N bi se of hk h0 h1 h2
 by_cases h3:(n:Int)<=se
 ·rw [if_neg (by omega),decide_eq_false (p:=se < (n:Int)) (by omega),Bool.and_false,Bool.false_and,Bool.false_and,Bool.false_and];exact rsym_4 a n c L a2 n2 c2 l hn hn2 w hs hs2 k N bi se of hk h0 h1 h2 h3
 by_cases h4:of < 0
 ·have e:(if se = -1 then decide (bi ≠ 1) && decide (of=0) else decide (0<=se) && decide (se < (n:Int)) && decide (0<=of) && (match (L.map (·.sc))[se.toNat]? with | some t=>decide (of<=(t.data.length:Int)) | none=>false))=false:=by
   split
   ·rw [decide_eq_false (p:=of=0) (by omega),Bool.and_false]
   ·rw [decide_eq_false (p:=0<=of) (by omega),Bool.and_false,Bool.false_and]
  rw [e,Bool.false_and];exact rsym_5 a n c L a2 n2 c2 l hn hn2 w hs hs2 k N bi se of hk h0 h1 h2 h3 h4
 by_cases h5:se = -1
 ·rw [if_pos h5]
  by_cases h6:bi=1
  ·rw [decide_eq_false (p:=bi ≠ 1) (by omega),Bool.false_and,Bool.false_and];exact rsym_6 a n c L a2 n2 c2 l hn hn2 w hs hs2 k N bi se of hk h0 h1 h2 h3 h4 h5 h6
  by_cases h7:of=0
  ·rw [decide_eq_true (p:=bi ≠ 1) h6,decide_eq_true h7,Bool.true_and,Bool.true_and]
   by_cases hne:N.data.toList=[]
   ·rw [if_pos hne,decide_eq_false h6];exact rsym_E1 a n c L a2 n2 c2 l hn hn2 w hs hs2 k N bi se of hk h0 h1 h2 h3 h4 h5 h6 h7 hne
   ·rw [if_neg hne];exact rsym_N1 a n c L a2 n2 c2 l hn hn2 w hs hs2 k N bi se of hk h0 h1 h2 h3 h4 h5 h6 h7 hne hnl
  ·rw [decide_eq_false h7,Bool.and_false,Bool.false_and];exact rsym_7 a n c L a2 n2 c2 l hn hn2 w hs hs2 k N bi se of hk h0 h1 h2 h3 h4 h5 h6 h7
 ·rw [if_neg h5,decide_eq_true (p:=0<=se) (by omega),decide_eq_true (p:=se < (n:Int)) (by omega),decide_eq_true (p:=0<=of) (by omega),Bool.true_and,Bool.true_and,Bool.true_and]
  cases ht:(L.map (·.sc))[se.toNat]? with
  | none=>exfalso;have:=List.getElem?_eq_none_iff.1 ht;omega
  | some t=>
   simp only
   by_cases h6:of<=(t.data.length:Int)
   ·have h6':∀ u,(L.map (·.sc))[se.toNat]?=some u->of<=(u.data.length:Int):=fun u hu=>by rw [ht] at hu;cases hu;exact h6
    rw [decide_eq_true h6,Bool.true_and]
    by_cases hne:N.data.toList=[]
    ·rw [if_pos hne,show decide (bi=1)=(bi == 1) from rfl];exact rsym_E2 a n c L a2 n2 c2 l hn hn2 w hs hs2 k N bi se of hk h0 h1 h2 h3 h4 h5 h6' hne
    ·rw [if_neg hne];exact rsym_N2 a n c L a2 n2 c2 l hn hn2 w hs hs2 k N bi se of hk h0 h1 h2 h3 h4 h5 h6' hne hnl
   ·have h6':∀ u,(L.map (·.sc))[se.toNat]?=some u->(u.data.length:Int) < of:=fun u hu=>by rw [ht] at hu;cases hu;omega
    rw [decide_eq_false h6,Bool.false_and];exact rsym_8 a n c L a2 n2 c2 l hn hn2 w hs hs2 k N bi se of hk h0 h1 h2 h3 h4 h5 h6'
structure IOj (w u:World) (X:Nat) (a:Option Addr) (n c:Nat) (L:List Ms) (a2:Option Addr) (n2 c2:Nat) (l:List Sy):Prop where
 k:Below w.heap.size w u
 x:RB u X #[.slice a n c,.slice a2 n2 c2] 25
 s:SL msC 6 u u.heap.size a n L
 no:Notes u u.heap.size L
 s2:SL syC 4 u u.heap.size a2 n2 l
theorem IOj.next {w u v:World} {X:Nat} {a:Option Addr} {n c:Nat} {L:List Ms} {a2:Option Addr} {n2 c2:Nat} {l:List Sy} (h:IOj w u X a n c L a2 n2 c2 l) (hb:Below u.heap.size u v):IOj w v X a n c L a2 n2 c2 l:=
 ⟨after h.k hb,h.x.next hb,h.s.next hb,h.no.next hb,h.s2.next hb⟩
theorem secAt_no {o:Ob} {i:Nat} (hi:i < o.secs.length) (h:¬ SecAt (o.syms.length:Nat) o.secs i):isO o=false:=by
 cases hh:isO o
 ·rfl
 ·exact absurd (((isO_iff o).1 hh).1.2 i hi) h
theorem symAt_no {o:Ob} {i:Nat} (hi:i < o.syms.length) (h:rSyB o.secs o.syms i=false):isO o=false:=by
 cases hh:isO o
 ·rfl
 ·exact absurd ((rSyB_iff _ _ _).2 (((isO_iff o).1 hh).2.2 i hi)) (by rw [h];decide)
theorem many_no {o:Ob} (h:32 < o.secs.length\/128 < o.syms.length):isO o=false:=by
 cases hh:isO o
 ·rfl
 ·obtain ⟨⟨h1,-⟩,h2,-⟩:=(isO_iff o).1 hh
  omega
theorem rOIs_any (a:Option Addr) (n c:Nat) (L:List Ms) (a2:Option Addr) (n2 c2:Nat) (l:List Sy) (hn:n<=maxLen) (hn2:n2<=maxLen) (w:World) (hs:SL msC 6 w w.heap.size a n L) (hno:Notes w w.heap.size L) (hs2:SL syC 4 w w.heap.size a2 n2 l)
  (hg:∀ m ∈ L,GoodSc m.sc) (hrl:∀ m ∈ L,m.sc.rels.length<=maxLen) (hnm:∀ m ∈ L,m.sc.name.length<=6000) (hnl:∀ t ∈ l,t.name.length<=6000):
  Calls Tryz.prog 16 #[.agg #[.slice a n c,.slice a2 n2 c2]] w (RetB (.bool (isO ⟨L.map (·.sc),l⟩)) w):=by
 have hLn:(L.map (·.sc)).length=n:=by rw [List.length_map];exact hs.len.symm
 have hln:=hs2.len
 have HNo1:Hid (∀ i,i < n->¬ SecAt (n2:Nat) (L.map (·.sc)) i->isO ⟨L.map (·.sc),l⟩=false):=Lib.hid fun i hi h=>secAt_no (o:=⟨L.map (·.sc),l⟩) (by show i < (L.map (·.sc)).length;omega) (by show ¬ SecAt ((l.length:Nat):Int) (L.map (·.sc)) i;rw [<-hln];exact h)
 have HNo2:Hid (∀ i,i < n2->rSyB (L.map (·.sc)) l i=false->isO ⟨L.map (·.sc),l⟩=false):=Lib.hid fun i hi h=>symAt_no (o:=⟨L.map (·.sc),l⟩) (by show i < l.length;omega) h
 have HNo3:Hid (32 < n\/128 < n2->isO ⟨L.map (·.sc),l⟩=false):=Lib.hid fun h=>many_no (o:=⟨L.map (·.sc),l⟩) (by show 32 < (L.map (·.sc)).length\/128 < l.length;omega)
 have HYes:Hid (n<=32->n2<=128->(∀ i,i < n->SecAt (n2:Nat) (L.map (·.sc)) i)->(∀ i,i < n2->rSyB (L.map (·.sc)) l i=true)->isO ⟨L.map (·.sc),l⟩=true):=Lib.hid fun h1 h2 h3 h4=>(isO_iff _).2 ⟨⟨by show (L.map (·.sc)).length<=32;omega,fun i hi=>by show SecAt ((l.length:Nat):Int) (L.map (·.sc)) i;rw [<-hln];exact h3 i (by have:i < (L.map (·.sc)).length:=hi;omega)⟩,by show l.length<=128;omega,fun i hi=>(rSyB_iff _ _ _).1 (h4 i (by have:i < l.length:=hi;omega))⟩
 have HIO:Hid (IOj w (w.alloc (.cells #[.slice a n c,.slice a2 n2 c2] 25)) w.heap.size a n c L a2 n2 c2 l):=Lib.hid ⟨lit_below w _,rb_new w _ _,hs.next (lit_below w _),hno.next (lit_below w _),hs2.next (lit_below w _)⟩
 have HPI:Hid (∀ m ∈ L,∀ u,SL rlC 4 u u.heap.size m.ad m.sc.rels.length m.sc.rels->Calls Tryz.prog 50 #[scV m.sc m.ad m.sc.rels.length m.cap] u (RetB (.bool (secR m.sc)) u)):=Lib.hid fun m hm u hu=>rpIs_any m.sc m.ad _ m.cap u hu (hrl m hm) (hg m hm) (hnm m hm)
 have HLn:Hid (n=L.length/\n2=l.length):=Lib.hid ⟨hs.len,hs2.len⟩
 have HNl:=Lib.hid hnl
 have HRl:=Lib.hid hrl
 generalize isO ⟨L.map (·.sc),l⟩=R at*
 obtain ⟨V,hV⟩:∃ V,V=(w.alloc (.cells #[.slice a n c,.slice a2 n2 c2] 25)):=⟨_,rfl⟩
 obtain ⟨X,hX⟩:∃ X,X=w.heap.size:=⟨_,rfl⟩
 rw [<-hV,<-hX] at HIO
 have HV:=Lib.hid hV.symm
 have HX:=Lib.hid hX.symm
 have x0:V.cell? ⟨X,0,none⟩=some (.slice a n c):=HIO.out.x.cell
 have x1:V.cell? ⟨X,1,none⟩=some (.slice a2 n2 c2):=HIO.out.x.cell
 rw [hV,hX] at x0 x1
 have hni:(n:Int)<=9223372036854775807:=by unfold maxLen at hn;omega
 have hn2i:(n2:Int)<=9223372036854775807:=by unfold maxLen at hn2;omega
 clear hV hX hs hs2 hno hg hrl hnm hnl hLn hln hn hn2
 by_cases h1:32 < n
 ·have HR:=Lib.hid (HNo3.out (.inl h1))
  have t1:(32:Int) < (n:Int):=by omega
  clear h1
  go_enter Tryz.func16,Tryz.ntmps16
  go_wp2
  rw [HV.out]
  go_ret
  exact ⟨by rw [HR.out];rfl,HIO.out.k⟩
 have t1:¬ (32:Int) < (n:Int):=by omega
 by_cases h2:128 < n2
 ·have HR:=Lib.hid (HNo3.out (.inr h2))
  have t2:(128:Int) < (n2:Int):=by omega
  clear h1 h2
  go_enter Tryz.func16,Tryz.ntmps16
  go_wp2
  rw [HV.out]
  go_ret
  exact ⟨by rw [HR.out];rfl,HIO.out.k⟩
 have t2:¬ (128:Int) < (n2:Int):=by omega
 have HSz:Hid (n<=32/\n2<=128):=Lib.hid ⟨by omega,by omega⟩
 clear h1 h2
 go_enter Tryz.func16,Tryz.ntmps16
 go_wp2_with fail
 rw [HV.out,HX.out]
 go_loopw [3] (fun i wr=>∃ (k:Nat) (wx:World),wx=wr/\k<=n/\i=.int .i64 k/\Hid (IOj w wx X a n c L a2 n2 c2 l)/\Hid (∀ i,i < k->SecAt (n2:Nat) (L.map (·.sc)) i)) (fun i _=>n - (intOf i).toNat)
 case atStart=>exact ⟨0,_,rfl,by omega,rfl,HIO,Lib.hid (fun i hi=>absurd hi (by omega))⟩
 case round=>
  obtain ⟨k,wx,rfl,hk,rfl,HI,HD⟩:=hrel
  have x0:wx.cell? ⟨X,0,none⟩=some (.slice a n c):=HI.out.x.cell
  have x1:wx.cell? ⟨X,1,none⟩=some (.slice a2 n2 c2):=HI.out.x.cell
  by_cases hlt:k < n
  ·have hlti:(k:Int) < (n:Int):=by omega
   have hkl:k < L.length:=by have:=HLn.out;omega
   obtain ⟨b1,o1,e1,-,hc1⟩:=HI.out.s.cells (by intro e;rw [e] at hkl;simp at hkl)
   subst e1
   obtain ⟨m,hm⟩:∃ m,m=L[k]:=⟨_,rfl⟩
   have HMm:Hid (m ∈ L):=Lib.hid (by rw [hm];exact List.getElem_mem hkl)
   have HMk:Hid (L[k]?=some m):=Lib.hid (by rw [hm];exact List.getElem?_eq_getElem hkl)
   obtain ⟨c0,c1,c2',c3,c4,c5⟩:=ms_cells (fun j hj=>hc1 k hkl j hj)
   rw [<-hm] at c0 c1 c2' c3 c4 c5
   have HNt:=Lib.hid (HI.out.no m HMm.out)
   have HC:=Lib.hid (HPI.out m HMm.out wx HNt.out)
   have HSg:Hid ((L.map (·.sc))[k]?=some m.sc):=Lib.hid (by rw [List.getElem?_map,HMk.out];rfl)
   have HLt:=Lib.hid hlt
   have HNoK:Hid (¬ SecAt (n2:Nat) (L.map (·.sc)) k->R=false):=Lib.hid (HNo1.out k hlt)
   obtain ⟨mc,mad,mcap⟩:=m
   obtain ⟨nm,ki,kp,al,dt,rl⟩:=mc
   simp only [] at c0 c1 c2' c3 c4 c5 HC
   have HRl2:Hid ((rl.length:Int)<=9223372036854775807):=Lib.hid (by have:=HRl.out _ HMm.out;simp only at this;unfold maxLen at this;omega)
   clear hc1 hm hkl hlt hk
   obtain ⟨rn,hrn⟩:∃ rn,rn=rl.length:=⟨_,rfl⟩
   have HRn:=Lib.hid hrn
   rw [<-hrn] at c5 HC
   clear hrn
   go_wp2_with fail
   refine HC.out.mono ?_
   rintro e u1 ⟨rfl,hb⟩
   have HI1:=Lib.hid (HI.out.next hb)
   clear hb c0 c1 c2' c3 c4 c5 x0 x1
   cases hsr:secR ⟨nm,ki,kp,al,dt,rl⟩
   ·have HR:=Lib.hid (HNoK.out (by rintro ⟨s',h1,h2,-⟩;rw [HSg.out] at h1;cases h1;rw [hsr] at h2;cases h2))
    clear hsr
    go_wp2
    go_ret
    exact ⟨by rw [HR.out];rfl,HI1.out.k⟩
   have HSr:=Lib.hid hsr
   clear hsr
   go_wp2_with fail
   go_loopw [4] (fun i wr=>∃ (j:Nat) (wy:World),wy=wr/\j<=k/\i=.int .i64 j/\Hid (IOj w wy X (some ⟨b1,o1,none⟩) n c L a2 n2 c2 l)/\Hid (∀ (q:Nat) t,q < j->(L.map (·.sc))[q]?=some t->t.name ≠ nm)) (fun i _=>k - (intOf i).toNat)
   case atStart=>exact ⟨0,_,rfl,by omega,rfl,HI1,Lib.hid (fun q t hq=>absurd hq (by omega))⟩
   case round=>
    clear HI HI1 HC HNt
    obtain ⟨j,wy,rfl,hj,rfl,HI,HQ⟩:=hrel
    have x0:wy.cell? ⟨X,0,none⟩=some (.slice (some ⟨b1,o1,none⟩) n c):=HI.out.x.cell
    have x1:wy.cell? ⟨X,1,none⟩=some (.slice a2 n2 c2):=HI.out.x.cell
    have hkl:k < L.length:=by have:=HLn.out;have:=HLt.out;omega
    obtain ⟨b3,o3,e3,-,hc1⟩:=HI.out.s.cells (by intro e;rw [e] at hkl;simp at hkl)
    cases e3
    have hmk:L[k]=⟨⟨nm,ki,kp,al,dt,rl⟩,mad,mcap⟩:=by have:=HMk.out;rw [List.getElem?_eq_getElem hkl] at this;exact Option.some.inj this
    obtain ⟨e0,-,-,-,-,e5⟩:=ms_cells (fun j hj=>hc1 k hkl j hj)
    rw [hmk] at e0 e5
    simp only [] at e0 e5
    rw [<-HRn.out] at e5
    have hkn:(k:Int) < (n:Int):=by have:=HLt.out;omega
    by_cases hlt:j < k
    ·have hlti:(j:Int) < (k:Int):=by omega
     have hjl:j < L.length:=by omega
     have hjn:(j:Int) < (n:Int):=by omega
     obtain ⟨d0,-,-,-,-,-⟩:=ms_cells (fun q hq=>hc1 j hjl q hq)
     obtain ⟨M,hM⟩:∃ M:ByteArray,M=⟨L[j].sc.name.toArray⟩:=⟨_,rfl⟩
     obtain ⟨N,hN⟩:∃ N:ByteArray,N=⟨nm.toArray⟩:=⟨_,rfl⟩
     rw [<-hM] at d0
     rw [<-hN] at e0
     have hgj:(L.map (·.sc))[j]?=some L[j].sc:=by rw [List.getElem?_map,List.getElem?_eq_getElem hjl];rfl
     have hML:M.data.toList=L[j].sc.name:=by rw [hM]
     have hNL:N.data.toList=nm:=by rw [hN]
     have HLj:=Lib.hid hlt
     by_cases he:L[j].sc.name=nm
     ·have hME:M=N:=ba_ext (by rw [hML,hNL,he])
      have HR:=Lib.hid (HNoK.out (by rintro ⟨s',h1,-,h3,-⟩;rw [HSg.out] at h1;cases h1;exact h3 j _ hlt hgj he))
      have hqq:(N.toList == N.toList)=true:=by simp
      rw [hME] at d0
      clear hc1 hM hN hML hNL hgj he hME hlt hj hmk hkl hjl
      go_wp2_with fail
      go_big_quiet (fail)
      go_wp2
      go_ret
      exact ⟨by rw [HR.out];rfl,below_drewN HI.out.k _⟩
     ·have hqq:(M.toList == N.toList)=false:=by rw [beq_eq_false_iff_ne,ByteArray.toList_eq,ByteArray.toList_eq,hML,hNL];exact he
      have HQ2:Hid (∀ (q:Nat) t,q < j+1->(L.map (·.sc))[q]?=some t->t.name ≠ nm):=Lib.hid (by
       intro q t hq ht
       rcases Nat.lt_succ_iff_lt_or_eq.1 hq with h | h
       ·exact HQ.out q t h ht
       ·subst h;rw [hgj] at ht;cases ht;exact he)
      clear hc1 hM hN hML hNL hgj he hlt hj hmk hkl hjl
      go_wp2_with fail
      go_big_quiet (fail)
      go_wp2
      go_roundw
      case rel=>exact ⟨j+1,_,rfl,by have:=HLj.out;omega,by go_num,Lib.hid (HI.out.next (below_refl_drewN _ _)),HQ2⟩
      case measure=>have:=HLj.out;simp [intOf];omega
    ·obtain rfl:j=k:=by omega
     have hge:¬ (j:Int) < (j:Int):=by omega
     have HIe:=HI
     clear hc1 hmk hkl hj hlt e0
     go_wp2_with fail
     clear x0 x1 e5
     go_loopw [5] (fun i wr=>∃ (q:Nat) (wz:World),wz=wr/\q<=rn/\i=.int .i64 q/\Hid (IOj w wz X (some ⟨b1,o1,none⟩) n c L a2 n2 c2 l)/\Hid (∀ r ∈ rl.take q,r.sym < (n2:Int))) (fun i _=>rn - (intOf i).toNat)
     case atStart=>exact ⟨0,_,rfl,by omega,rfl,HI,Lib.hid (fun r hr=>by simp at hr)⟩
     case round=>
      clear HI HIe
      obtain ⟨q,wz,rfl,hq,rfl,HI,HS⟩:=hrel
      have x0:wz.cell? ⟨X,0,none⟩=some (.slice (some ⟨b1,o1,none⟩) n c):=HI.out.x.cell
      have x1:wz.cell? ⟨X,1,none⟩=some (.slice a2 n2 c2):=HI.out.x.cell
      have hkl:j < L.length:=by have:=HLn.out;have:=HLt.out;omega
      obtain ⟨b3,o3,e3,-,hc1⟩:=HI.out.s.cells (by intro e;rw [e] at hkl;simp at hkl)
      cases e3
      have hmk:L[j]=⟨⟨nm,ki,kp,al,dt,rl⟩,mad,mcap⟩:=by have:=HMk.out;rw [List.getElem?_eq_getElem hkl] at this;exact Option.some.inj this
      obtain ⟨-,-,-,-,-,e5⟩:=ms_cells (fun j' hj'=>hc1 j hkl j' hj')
      rw [hmk] at e5
      simp only [] at e5
      rw [<-HRn.out] at e5
      have hrb:=HRl2.out
      rw [<-HRn.out] at hrb
      by_cases hlq:q < rn
      ·have hlqi:(q:Int) < (rn:Int):=by omega
       have hql:q < rl.length:=by rw [<-HRn.out];exact hlq
       obtain ⟨b4,o4,e4,-,hc4⟩:=(HI.out.no _ HMm.out).cells (by intro e;simp only at e;rw [e] at hql;simp at hql)
       simp only [] at e4
       subst e4
       have g2:=hc4 q hql 2 (by omega)
       simp only [] at g2
       obtain ⟨r,hr⟩:∃ r,r=rl[q]:=⟨_,rfl⟩
       rw [<-hr] at g2
       obtain ⟨rp,rk,rs,ra⟩:=r
       simp only [rlC,List.getElem?_cons_succ,List.getElem?_cons_zero] at g2
       have hrm:(⟨rp,rk,rs,ra⟩:Rl) ∈ rl:=by rw [hr];exact List.getElem_mem hql
       have HLq:=Lib.hid hlq
       by_cases he:rs < (n2:Int)
       ·have hef:¬ (n2:Int)<=rs:=by omega
        have HS2:Hid (∀ r ∈ rl.take (q+1),r.sym < (n2:Int)):=Lib.hid (by
         intro r hr'
         rw [List.take_succ_eq_append_getElem hql,List.mem_append,List.mem_singleton] at hr'
         rcases hr' with h | h
         ·exact HS.out r h
         ·rw [h,<-hr];exact he)
        clear hc1 hmk hkl hq hlq hql hc4 hr hrm he
        go_wp2_with fail
        go_big_quiet (fail)
        go_wp2
        go_roundw
        case rel=>exact ⟨q+1,_,rfl,by have:=HLq.out;omega,by go_num,Lib.hid (HI.out.next (below_refl_drewN _ _)),HS2⟩
        case measure=>have:=HLq.out;simp [intOf];omega
       ·have hef:(n2:Int)<=rs:=by omega
        have HR:=Lib.hid (HNoK.out (by rintro ⟨s',h1,-,-,h4⟩;rw [HSg.out] at h1;cases h1;have:=h4 _ hrm;simp only at this;omega))
        clear hc1 hmk hkl hq hlq hql hc4 hr hrm he
        go_wp2_with fail
        go_big_quiet (fail)
        go_wp2
        go_ret
        exact ⟨by rw [HR.out];rfl,below_drewN HI.out.k _⟩
      ·obtain rfl:q=rn:=by omega
       have hge:¬ (q:Int) < (q:Int):=by omega
       have HD2:Hid (∀ i,i < j+1->SecAt (n2:Nat) (L.map (·.sc)) i):=Lib.hid (by
        intro i hi
        rcases Nat.lt_succ_iff_lt_or_eq.1 hi with h | h
        ·exact HD.out i h
        ·subst h
         refine ⟨_,HSg.out,HSr.out,fun q t hq ht=>HQ.out q t hq ht,fun r hr=>HS.out r ?_⟩
         rw [HRn.out,List.take_length];exact hr)
       clear hc1 hmk hkl hq hlq
       go_wp2
       go_roundw
       case rel=>exact ⟨j+1,_,rfl,by have:=HLt.out;omega,by go_num,HI,HD2⟩
       case measure=>have:=HLt.out;simp [intOf];omega
  ·obtain rfl:k=n:=by omega
   have hge:¬ (k:Int) < (k:Int):=by omega
   clear hlt hk
   go_wp2_with fail
   clear x0 x1
   go_loopw [6] (fun i wr=>∃ (q:Nat) (wz:World),wz=wr/\q<=n2/\i=.int .i64 q/\Hid (IOj w wz X a k c L a2 n2 c2 l)/\Hid (∀ i,i < q->rSyB (L.map (·.sc)) l i=true)) (fun i _=>n2 - (intOf i).toNat)
   case atStart=>exact ⟨0,_,rfl,by omega,rfl,HI,Lib.hid (fun i hi=>absurd hi (by omega))⟩
   case round=>
    clear HI
    obtain ⟨q,wz,rfl,hq,rfl,HI,HS⟩:=hrel
    have x0:wz.cell? ⟨X,0,none⟩=some (.slice a k c):=HI.out.x.cell
    have x1:wz.cell? ⟨X,1,none⟩=some (.slice a2 n2 c2):=HI.out.x.cell
    by_cases hlq:q < n2
    ·have hlqi:(q:Int) < (n2:Int):=by omega
     have HLq:=Lib.hid hlq
     have HC:=Lib.hid (rsym_any a k c L a2 n2 c2 l (by have:=HSz.out;omega) (by have:=HSz.out;omega) wz HI.out.s HI.out.s2 q (by have:=HLn.out;omega) HNl.out)
     have HNoQ:Hid (rSyB (L.map (·.sc)) l q=false->R=false):=Lib.hid (HNo2.out q hlq)
     clear hlq hq
     go_wp2_with fail
     refine HC.out.mono ?_
     rintro e u1 ⟨rfl,hb⟩
     have HI1:=Lib.hid (HI.out.next hb)
     clear hb x0 x1
     cases hsr:rSyB (L.map (·.sc)) l q
     ·have HR:=Lib.hid (HNoQ.out hsr)
      clear hsr
      go_wp2
      go_ret
      exact ⟨by rw [HR.out];rfl,HI1.out.k⟩
     ·have HS2:Hid (∀ i,i < q+1->rSyB (L.map (·.sc)) l i=true):=Lib.hid (by
       intro i hi
       rcases Nat.lt_succ_iff_lt_or_eq.1 hi with h | h
       ·exact HS.out i h
       ·subst h;exact hsr)
      clear hsr
      go_wp2
      go_roundw
      case rel=>exact ⟨q+1,_,rfl,by have:=HLq.out;omega,by go_num,HI1,HS2⟩
      case measure=>have:=HLq.out;simp [intOf];omega
    ·obtain rfl:q=n2:=by omega
     have hge2:¬ (q:Int) < (q:Int):=by omega
     have HR:Hid (R=true):=Lib.hid (HYes.out HSz.out.1 HSz.out.2 HD.out HS.out)
     clear hlq hq
     go_wp2
     go_ret
     exact ⟨by rw [HR.out];rfl,HI.out.k⟩
end Go.Proofs.YthkolmebokfagaaGreatDoor
namespace Go.Proofs.YthkolmebokfagaaGreatDoor
open Go.ChangeShapes Go.WideShapes Go.Deep Go.RowKit
abbrev fndV (p:Int × Bool):Value:=.tuple #[.int .i64 p.1,.bool p.2]
theorem findL_or {o:Ob} {nm:List UInt8} (h:nm=[]\/isO o=false):findL o nm=(0,false):=by unfold findL;rw [if_pos h]
theorem findL_go {o:Ob} {nm:List UInt8} (h1:nm ≠ []) (h2:isO o=true):findL o nm=match findR nm 0 o.syms with | some k=>((k:Nat),true) | none=>(0,false):=by
 unfold findL;rw [if_neg (by rintro (h | h);exact h1 h;rw [h2] at h;cases h)];cases findR nm 0 o.syms <;> rfl
theorem rOFind_any (a:Option Addr) (n c:Nat) (L:List Ms) (a2:Option Addr) (n2 c2:Nat) (l:List Sy) (D:ByteArray) (hn:n<=maxLen) (hn2:n2<=maxLen) (w:World) (hs:SL msC 6 w w.heap.size a n L) (hno:Notes w w.heap.size L) (hs2:SL syC 4 w w.heap.size a2 n2 l)
  (hg:∀ m ∈ L,GoodSc m.sc) (hrl:∀ m ∈ L,m.sc.rels.length<=maxLen) (hnm:∀ m ∈ L,m.sc.name.length<=6000) (hnl:∀ t ∈ l,t.name.length<=6000):
  Calls Tryz.prog 13 #[.agg #[.slice a n c,.slice a2 n2 c2],.string D] w (RetB (fndV (findL ⟨L.map (·.sc),l⟩ D.data.toList)) w):=by
 have HI:Hid (∀ u,Below w.heap.size w u->Calls Tryz.prog 16 #[.agg #[.slice a n c,.slice a2 n2 c2]] u (RetB (.bool (isO ⟨L.map (·.sc),l⟩)) u)):=Lib.hid fun u hu=>rOIs_any a n c L a2 n2 c2 l hn hn2 u (hs.next hu) (hno.next hu) (hs2.next hu) hg hrl hnm hnl
 have hni:(n2:Int)<=9223372036854775807:=by unfold maxLen at hn2;omega
 have HS2:=Lib.hid hs2
 have HLn:=Lib.hid hs2.len
 obtain ⟨X,hX⟩:∃ X,X=w.heap.size:=⟨_,rfl⟩
 obtain ⟨W,hW⟩:∃ W,W=w.alloc (.cells #[.slice a n c,.slice a2 n2 c2] 25):=⟨_,rfl⟩
 have HB0:Hid (Below w.heap.size w W):=Lib.hid (by rw [hW];exact lit_below w _)
 have HX0:Hid (RB W X #[.slice a n c,.slice a2 n2 c2] 25):=Lib.hid (by rw [hW,hX];exact rb_new w _ _)
 have HW:=Lib.hid hW.symm
 have HXe:=Lib.hid hX.symm
 obtain ⟨R,hR⟩:∃ R,R=findL ⟨L.map (·.sc),l⟩ D.data.toList:=⟨_,rfl⟩
 have HOr:Hid (D.data.toList=[]\/isO ⟨L.map (·.sc),l⟩=false->R=(0,false)):=Lib.hid fun h=>by rw [hR];exact findL_or h
 have HGo:Hid (D.data.toList ≠ []->isO ⟨L.map (·.sc),l⟩=true->R=match findR D.data.toList 0 l with | some k=>((k:Nat),true) | none=>(0,false)):=Lib.hid fun h1 h2=>by rw [hR];exact findL_go h1 h2
 rw [<-hR]
 clear hs hno hs2 hg hrl hnm hnl hW hX hR hn hn2
 obtain ⟨q,hq⟩:∃ q,q=isO ⟨L.map (·.sc),l⟩:=⟨_,rfl⟩
 rw [<-hq] at HI HOr HGo
 clear hq
 go_enter Tryz.func13,Tryz.ntmps13
 go_wp2_with fail
 rw [HW.out,HXe.out]
 go_loopw [6] (fun i wr=>∃ (k:Nat) (wx:World),wx=wr/\k<=n2/\i=.int .i64 k/\Hid (Below w.heap.size w wx)/\Hid (RB wx X #[.slice a n c,.slice a2 n2 c2] 25)/\Hid (findR D.data.toList 0 l=findR D.data.toList k (l.drop k))) (fun i _=>n2 - (intOf i).toNat)
 case atStart=>exact ⟨0,_,rfl,by omega,rfl,HB0,HX0,Lib.hid rfl⟩
 case round=>
  clear HB0 HX0
  obtain ⟨k,wx,rfl,hk,rfl,HB,HX,HF⟩:=hrel
  have x0:wx.cell? ⟨X,0,none⟩=some (.slice a n c):=HX.out.cell
  have x1:wx.cell? ⟨X,1,none⟩=some (.slice a2 n2 c2):=HX.out.cell
  by_cases hlt:k < n2
  ·have hlti:(k:Int) < (n2:Int):=by omega
   have HLt:=Lib.hid hlt
   by_cases hD:D.data.toList=[]
   ·have HR:=Lib.hid (HOr.out (.inl hD))
    obtain rfl:=ba_none hD
    clear hD hlt hk
    go_wp2
    go_ret2
    exact ⟨by rw [HR.out];rfl,HB.out⟩
   ·obtain ⟨e1,e2,e3⟩:=ba_ne hD
    have HD:=Lib.hid hD
    clear hD hlt hk
    go_wp2_with fail
    refine (HI.out _ HB.out).mono ?_
    rintro e u ⟨rfl,hb⟩
    have HB2:=Lib.hid (after HB.out hb)
    have HX2:=Lib.hid (HX.out.next hb)
    clear hb x0 x1
    have x1:u.cell? ⟨X,1,none⟩=some (.slice a2 n2 c2):=HX2.out.cell
    cases q
    ·have HR:=Lib.hid (HOr.out (.inr rfl))
     go_wp2
     go_ret2
     exact ⟨by rw [HR.out];rfl,HB2.out⟩
    ·have HGo2:=Lib.hid (HGo.out HD.out rfl)
     have hkl:k < l.length:=by have:=HLn.out;have:=HLt.out;omega
     obtain ⟨b,off,hae,-,hc⟩:=(HS2.out.next HB2.out).cells (by intro e;rw [e] at hkl;simp at hkl)
     subst hae
     obtain ⟨c0,c1,c2',c3⟩:=sy_cells (fun j hj=>hc k hkl j hj)
     have HFs:Hid (findR D.data.toList k (l.drop k)=if l[k].name=D.data.toList then some k else findR D.data.toList (k+1) (l.drop (k+1))):=Lib.hid (findR_at hkl)
     generalize l[k]=y at c0 c1 c2' c3 HFs
     obtain ⟨yn,yb,ys,yo⟩:=y
     simp only [] at c0 c1 c2' c3 HFs
     obtain ⟨M,hM⟩:∃ M:ByteArray,M=⟨yn.toArray⟩:=⟨_,rfl⟩
     rw [<-hM] at c0
     have hMn:M.data.toList=yn:=by rw [hM]
     clear hc hkl hM c1 c2' c3
     by_cases hq:yn=D.data.toList
     ·have hMD:M=D:=ba_ext (by rw [hMn,hq])
      have HR:Hid (R=((k:Int),true)):=Lib.hid (by rw [HGo2.out,HF.out,HFs.out,if_pos hq])
      have hqq:(D.toList == D.toList)=true:=by simp
      rw [hMD] at c0
      clear hMn hMD hq
      go_wp2
      go_ret2
      exact ⟨by rw [HR.out];rfl,HB2.out⟩
     ·have hqq:(M.toList == D.toList)=false:=by rw [beq_eq_false_iff_ne,ByteArray.toList_eq,ByteArray.toList_eq,hMn];exact hq
      have HF2:Hid (findR D.data.toList 0 l=findR D.data.toList (k+1) (l.drop (k+1))):=Lib.hid (by rw [HF.out,HFs.out,if_neg hq])
      clear hMn hq
      go_wp2
      go_roundw
      case rel=>exact ⟨k+1,_,rfl,by have:=HLt.out;omega,by go_num,HB2,HX2,HF2⟩
      case measure=>have:=HLt.out;simp [intOf];omega
  ·obtain rfl:n2=k:=by omega
   have hge:¬ (n2:Int) < (n2:Int):=by omega
   have HR:Hid (R=(0,false)):=Lib.hid (by
    by_cases h1:D.data.toList=[]
    ·exact HOr.out (.inl h1)
    ·cases q
     ·exact HOr.out (.inr rfl)
     ·have h2:=HF.out
      rw [HLn.out,List.drop_length] at h2
      rw [HGo.out h1 rfl,h2];rfl)
   clear hlt hk
   go_wp2
   go_ret2
   exact ⟨by rw [HR.out];rfl,HB.out⟩
end Go.Proofs.YthkolmebokfagaaGreatDoor
namespace Go.Proofs.YthkolmebokfagaaGreatDoor
open Go.ChangeShapes Go.WideShapes Go.Deep Go.RowKit
def FewM (m:Ms):Prop:=m.sc.name.length<=100/\m.sc.rels.length<=80/\m.sc.data.length<=5000
def FewO (L:List Ms) (l:List Sy):Prop:=L.length<=40/\l.length<=140/\(∀ m ∈ L,FewM m)/\∀ t ∈ l,t.name.length<=100
def BigO (P:Prop) (w:World) (e:Ending) (w':World):Prop:=∃ r:Bool,e=.returned (.bool r)/\(r=false->P)/\Below w.heap.size w w'
theorem bigS_no {x n y:Nat} (h:bigS x n y=false):y<=100/\n<=80/\x<=5000:=by
 unfold bigS at h
 have:=of_decide_eq_false h
 omega
theorem all_step {α:Type} {l:List α} {P:α->Prop} {k:Nat} {x:α} (h:∀ i y,i < k->l[i]?=some y->P y) (hx:l[k]?=some x) (hP:P x):∀ i y,i < k+1->l[i]?=some y->P y:=by
 intro i y hi hy
 rcases Nat.lt_succ_iff_lt_or_eq.1 hi with h1 | h1
 ·exact h i y h1 hy
 ·subst h1;rw [hx] at hy;cases hy;exact hP
theorem all_mem {α:Type} {l:List α} {P:α->Prop} {n:Nat} (hn:l.length<=n) (h:∀ i y,i < n->l[i]?=some y->P y):∀ y ∈ l,P y:=by
 intro y hy
 obtain ⟨i,hi⟩:=List.getElem?_of_mem hy
 exact h i y (by have:=(List.getElem?_eq_some_iff.1 hi).1;omega) hi
theorem rOBigF_any (a:Option Addr) (n c:Nat) (L:List Ms) (a2:Option Addr) (n2 c2:Nat) (l:List Sy) (hn:n<=maxLen) (hn2:n2<=maxLen) (w:World) (hs:SL msC 6 w w.heap.size a n L) (hs2:SL syC 4 w w.heap.size a2 n2 l):
  Calls Tryz.prog 6 #[.agg #[.slice a n c,.slice a2 n2 c2]] w (BigO (FewO L l) w):=by
 have HS:=Lib.hid hs
 have HS2:=Lib.hid hs2
 have HLn:=Lib.hid hs.len
 have HLn2:=Lib.hid hs2.len
 have hni:(n:Int)<=9223372036854775807:=by unfold maxLen at hn;omega
 have hni2:(n2:Int)<=9223372036854775807:=by unfold maxLen at hn2;omega
 obtain ⟨X,hX⟩:∃ X,X=w.heap.size:=⟨_,rfl⟩
 have HXE:=Lib.hid hX
 have HA:Hid (Below w.heap.size w (w.alloc (.cells #[.slice a n c,.slice a2 n2 c2] 25))):=Lib.hid ((Below.refl _ w).alloc (Nat.le_refl _) _)
 have HRX0:Hid (RB (w.alloc (.cells #[.slice a n c,.slice a2 n2 c2] 25)) X #[.slice a n c,.slice a2 n2 c2] 25):=Lib.hid (by rw [hX];exact (MapKept.heap_alloc w _).1)
 clear hs hs2 hX
 go_enter Tryz.func6,Tryz.ntmps6
 go_wp2
 try rw [<-HXE.out]
 generalize (w.alloc (.cells #[.slice a n c,.slice a2 n2 c2] 25))=W at HA HRX0 ⊢
 go_loopw [3] (fun i wr=>∃ (k:Nat) (wx:World),wx=wr/\k<=n/\i=.int .i64 k/\Below w.heap.size w wx/\RB wx X #[.slice a n c,.slice a2 n2 c2] 25/\Hid (∀ i m,i < k->L[i]?=some m->FewM m)) (fun i _=>n - (intOf i).toNat)
 case atStart=>exact ⟨0,_,rfl,by omega,rfl,HA.out,HRX0.out,Lib.hid (fun i m hi=>absurd hi (by omega))⟩
 case round=>
  clear HA HRX0
  obtain ⟨k,wx,rfl,hk,rfl,hb,hrx,HF⟩:=hrel
  have HB:=Lib.hid hb
  have HRX:=Lib.hid hrx
  clear hb hrx
  have x0:wx.cell? ⟨X,0,none⟩=some (.slice a n c):=HRX.out.cell
  have x1:wx.cell? ⟨X,1,none⟩=some (.slice a2 n2 c2):=HRX.out.cell
  by_cases hgo:k < n/\n<=40
  ·obtain ⟨hlt,h40⟩:=hgo
   have hlti:(k:Int) < (n:Int):=by omega
   have h40i:(n:Int)<=40:=by omega
   have hk1:k < L.length:=by have:=HLn.out;omega
   obtain ⟨bb,off,rfl,hB,hc⟩:=(HS.out.next HB.out).cells (HS.out.ne hlt)
   obtain ⟨c0,c1,c2',c3,c4,c5⟩:=ms_cells (fun j hj=>hc k hk1 j hj)
   obtain ⟨ms,hms⟩:∃ ms,ms=L[k]'hk1:=⟨_,rfl⟩
   have HMk:Hid (L[k]?=some ms):=Lib.hid (by rw [hms];exact List.getElem?_eq_getElem hk1)
   rw [<-hms] at c0 c1 c2' c3 c4 c5
   clear hc hms
   obtain ⟨⟨nm,ki,kp,al,dt,rl⟩,ad,cp⟩:=ms
   obtain ⟨N,hN⟩:∃ N:ByteArray,N=⟨nm.toArray⟩:=⟨_,rfl⟩
   obtain ⟨B,hBB⟩:∃ B:ByteArray,B=⟨dt.toArray⟩:=⟨_,rfl⟩
   obtain ⟨nr,hnr⟩:∃ nr,nr=rl.length:=⟨_,rfl⟩
   simp only [] at c0 c1 c2' c3 c4 c5
   rw [<-hN] at c0
   rw [<-hBB] at c4
   rw [<-hnr] at c5
   have HSz:Hid (N.size=nm.length/\B.size=dt.length/\nr=rl.length):=Lib.hid ⟨by rw [hN];simp [ByteArray.size],by rw [hBB];simp [ByteArray.size],hnr⟩
   clear hN hBB hnr hB
   have HBg:=Lib.hid (fun u=>rBig_any N B ki kp al ad nr cp u)
   obtain ⟨bg,hbg⟩:∃ bg,bg=bigS B.size nr N.size:=⟨_,rfl⟩
   rw [<-hbg] at HBg
   have HBq:=Lib.hid hbg.symm
   clear hbg
   cases bg
   ·go_wp2_with fail
    refine (HBg.out _).mono ?_
    rintro e u ⟨rfl,hb⟩
    have HB2:=Lib.hid (after HB.out hb)
    replace HRX:=Lib.hid (HRX.out.next hb)
    clear hb
    go_wp2
    go_roundw
    case rel=>exact ⟨k+1,_,rfl,by omega,by go_num,HB2.out,HRX.out,Lib.hid (all_step HF.out HMk.out (by have:=bigS_no HBq.out;have:=HSz.out;unfold FewM;simp only;omega))⟩
    case measure=>simp [intOf];omega
   ·go_wp2_with fail
    refine (HBg.out _).mono ?_
    rintro e u ⟨rfl,hb⟩
    have HB2:=Lib.hid (after HB.out hb)
    clear hb
    go_wp2
    go_ret
    exact ⟨true,rfl,(fun h=>by cases h),HB2.out⟩
  ·have HFk:=Lib.hid (And.intro hk HF.out)
   have HBB:=Lib.hid HB.out
   have HRX1:=Lib.hid HRX.out
   have hcs:¬ (k:Int) < (n:Int)\/((k:Int) < (n:Int)/\¬ (n:Int)<=40):=by omega
   clear hgo
   rcases hcs with hn1 | ⟨hn1,hn3⟩
   all_goals
    go_wp2
    clear x0 x1
    go_loopw [4] (fun i wr=>∃ (k:Nat) (wx:World),wx=wr/\k<=n2/\i=.int .i64 k/\Below w.heap.size w wx/\RB wx X #[.slice a n c,.slice a2 n2 c2] 25/\Hid (∀ i t,i < k->l[i]?=some t->t.name.length<=100)) (fun i _=>n2 - (intOf i).toNat)
    case atStart=>exact ⟨0,_,rfl,by omega,rfl,HBB.out,HRX1.out,Lib.hid (fun i m hi=>absurd hi (by omega))⟩
    case round=>
     clear HB HRX HBB HRX1
     obtain ⟨q,wy,rfl,hq,rfl,hb,hrx,HG⟩:=hrel
     have HB:=Lib.hid hb
     have HRX:=Lib.hid hrx
     clear hb hrx
     have x0:wy.cell? ⟨X,0,none⟩=some (.slice a n c):=HRX.out.cell
     have x1:wy.cell? ⟨X,1,none⟩=some (.slice a2 n2 c2):=HRX.out.cell
     by_cases hgo:q < n2/\n2<=140
     ·obtain ⟨hlt,h40⟩:=hgo
      have hlti:(q:Int) < (n2:Int):=by omega
      have h40i:(n2:Int)<=140:=by omega
      have hk1:q < l.length:=by have:=HLn2.out;omega
      obtain ⟨bb,off,rfl,hB,hc⟩:=(HS2.out.next HB.out).cells (HS2.out.ne hlt)
      obtain ⟨c0,c1,c2',c3⟩:=sy_cells (fun j hj=>hc q hk1 j hj)
      obtain ⟨sy,hsy⟩:∃ sy,sy=l[q]'hk1:=⟨_,rfl⟩
      have HMq:Hid (l[q]?=some sy):=Lib.hid (by rw [hsy];exact List.getElem?_eq_getElem hk1)
      rw [<-hsy] at c0 c1 c2' c3
      clear hc hsy
      obtain ⟨nm,bi,se,of⟩:=sy
      obtain ⟨N,hN⟩:∃ N:ByteArray,N=⟨nm.toArray⟩:=⟨_,rfl⟩
      simp only [] at c0 c1 c2' c3
      rw [<-hN] at c0
      have HNz:Hid (N.size=nm.length):=Lib.hid (by rw [hN];simp [ByteArray.size])
      clear hN hB
      by_cases hbig:(100:Int) < (N.size:Int)
      ·go_wp2
       go_ret
       exact ⟨true,rfl,(fun h=>by cases h),HB.out⟩
      ·go_wp2
       go_roundw
       case rel=>exact ⟨q+1,_,rfl,by omega,by go_num,HB.out,HRX.out,Lib.hid (all_step HG.out HMq.out (by have:=HNz.out;simp only;omega))⟩
       case measure=>simp [intOf];omega
     ·have hcs:¬ (q:Int) < (n2:Int)\/((q:Int) < (n2:Int)/\¬ (n2:Int)<=140):=by omega
      clear hgo
      rcases hcs with hm1 | ⟨hm1,hm3⟩
      all_goals
       by_cases h41:(40:Int) < (n:Int)
       ·first | (exfalso;omega) | (go_wp2;go_ret;exact ⟨true,rfl,(fun h=>by cases h),HB.out⟩)
       ·by_cases h141:(140:Int) < (n2:Int)
        ·first | (exfalso;omega) | (go_wp2;go_ret;exact ⟨true,rfl,(fun h=>by cases h),HB.out⟩)
        ·have HE:Hid (FewO L l):=Lib.hid (by
          have e1:=HLn.out
          have e2:=HLn2.out
          exact ⟨by omega,by omega,all_mem (n:=k) (by omega) HFk.out.2,all_mem (n:=q) (by omega) HG.out⟩)
         first | (exfalso;omega) | (go_wp2;go_ret;exact ⟨false,rfl,fun _=>HE.out,HB.out⟩)
end Go.Proofs.YthkolmebokfagaaGreatDoor
