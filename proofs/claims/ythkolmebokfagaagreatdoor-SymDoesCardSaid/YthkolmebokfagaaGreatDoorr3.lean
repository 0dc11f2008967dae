/- The document's objects: Is. -/
import Derived.Test.YthkolmebokfagaaGreatDoorr1
import Derived.Test.YthkolmebokfagaaGreatDoorn3
set_option maxRecDepth 100000
set_option maxHeartbeats 8000000
set_option linter.unusedVariables false
set_option linter.unusedSimpArgs false
namespace Go.Proofs.YthkolmebokfagaaGreatDoor
open Go.ChangeShapes Go.WideShapes Go.Deep Go.RowKit
theorem rsym_any (a:Option Addr) (n c:Nat) (L:List Ms) (a2:Option Addr) (n2 c2:Nat) (l:List Sy) (hn:n<=1000000) (hn2:n2<=1000000) (w:World) (hs:SL msC 6 w w.heap.size a n L) (hs2:SL syC 4 w w.heap.size a2 n2 l) (k:Nat) (hkl:k < l.length) (hnl:∀ t ∈ l,t.name.length<=1000):
  Calls Tryz.prog 51 #[.agg #[.slice a n c,.slice a2 n2 c2],.int .i64 (k:Int)] w (RetB (.bool (rSyB (L.map (·.sc)) l k)) w):=by
 obtain ⟨⟨nm,bi,se,of⟩,hs0⟩:∃ s,s=l[k]:=⟨_,rfl⟩
 have hk0:l[k]?=some ⟨nm,bi,se,of⟩:=by rw [hs0];exact List.getElem?_eq_getElem hkl
 obtain ⟨N,hN⟩:∃ N:ByteArray,N=⟨nm.toArray⟩:=⟨_,rfl⟩
 have hNn:N.data.toList=nm:=by rw [hN]
 have hk:l[k]?=some ⟨N.data.toList,bi,se,of⟩:=by rw [hNn];exact hk0
 have hLn:((L.map (·.sc)).length:Int)=(n:Int):=by rw [List.length_map,hs.len]
 have E:rSyB (L.map (·.sc)) l k=(standsL ⟨N.data.toList,bi,se,of⟩ (L.map (·.sc)) && (if N.data.toList=[] then decide (bi=1) else isNmL N.data.toList && (l.take k).all fun t=>decide (t.name ≠ N.data.toList))):=by
  unfold rSyB
  rw [hk]
 rw [E]
 clear E hs0 hk0 hN hNn
 have S:standsL ⟨N.data.toList,bi,se,of⟩ (L.map (·.sc))=if bi < 1\/3 < bi then false
   else if se = -1 then decide (bi ≠ 1) && decide (of=0)
   else decide (0<=se) && decide (se < (n:Int)) && decide (0<=of) && (match (L.map (·.sc))[se.toNat]? with | some t=>decide (of<=(t.data.length:Int)) | none=>false):=by
  unfold standsL
  simp only [hLn]
  rfl
 rw [S]
 clear S
 by_cases h0:bi < 1
 ·rw [if_pos (.inl h0),Bool.false_and];exact rsym_1 a n c L a2 n2 c2 l hn hn2 w hs hs2 k N bi se of hk h0
 by_cases h1:3 < bi
 ·rw [if_pos (.inr h1),Bool.false_and];exact rsym_2 a n c L a2 n2 c2 l hn hn2 w hs hs2 k N bi se of hk h0 h1
 rw [if_neg (by omega)]
 by_cases h2:se < -1
 ·rw [if_neg (by omega),decide_eq_false (p:=0<=se) (by omega),Bool.false_and,Bool.false_and,Bool.false_and,Bool.false_and];exact rsym_3 a n c L a2 n2 c2 l hn hn2 w hs hs2 k N bi se of hk h0 h1 h2
 by_cases h3:(n:Int)<=se
 ·rw [if_neg (by omega),decide_eq_false (p:=se < (n:Int)) (by omega),Bool.and_false,Bool.false_and,Bool.false_and,Bool.false_and];exact rsym_4 a n c L a2 n2 c2 l hn hn2 w hs hs2 k N bi se of hk h0 h1 h2 h3
 by_cases h4:of < 0
 ·have e:(if se = -1 then decide (bi ≠ 1) && decide (of=0) else decide (0<=se) && decide (se < (n:Int)) && decide (0<=of) && (match (L.map (·.sc))[se.toNat]? with | some t=>decide (of<=(t.data.length:Int)) | none=>false))=false:=by
   split
   ·rw [decide_eq_false (p:=of=0) (by omega),Bool.and_false]
   ·rw [decide_eq_false (p:=0<=of) (by omega),Bool.and_false,Bool.false_and]
  rw [e,Bool.false_and];exact rsym_5 a n c L a2 n2 c2 l hn hn2 w hs hs2 k N bi se of hk h0 h1 h2 h3 h4
 by_cases h5:se = -1
 ·rw [if_pos h5]
  by_cases h6:bi=1
  ·rw [decide_eq_false (p:=bi ≠ 1) (by omega),Bool.false_and,Bool.false_and];exact rsym_6 a n c L a2 n2 c2 l hn hn2 w hs hs2 k N bi se of hk h0 h1 h2 h3 h4 h5 h6
  by_cases h7:of=0
  ·rw [decide_eq_true (p:=bi ≠ 1) h6,decide_eq_true h7,Bool.true_and,Bool.true_and]
   by_cases hne:N.data.toList=[]
   ·rw [if_pos hne,decide_eq_false h6];exact rsym_E1 a n c L a2 n2 c2 l hn hn2 w hs hs2 k N bi se of hk h0 h1 h2 h3 h4 h5 h6 h7 hne
   ·rw [if_neg hne];exact rsym_N1 a n c L a2 n2 c2 l hn hn2 w hs hs2 k N bi se of hk h0 h1 h2 h3 h4 h5 h6 h7 hne hnl
  ·rw [decide_eq_false h7,Bool.and_false,Bool.false_and];exact rsym_7 a n c L a2 n2 c2 l hn hn2 w hs hs2 k N bi se of hk h0 h1 h2 h3 h4 h5 h6 h7
 ·rw [if_neg h5,decide_eq_true (p:=0<=se) (by omega),decide_eq_true (p:=se < (n:Int)) (by omega),decide_eq_true (p:=0<=of) (by omega),Bool.true_and,Bool.true_and,Bool.true_and]
  cases ht:(L.map (·.sc))[se.toNat]? with
  | none=>exfalso;have:=List.getElem?_eq_none_iff.1 ht;omega
  | some t=>
   simp only
   by_cases h6:of<=(t.data.length:Int)
   ·have h6':∀ u,(L.map (·.sc))[se.toNat]?=some u->of<=(u.data.length:Int):=fun u hu=>by rw [ht] at hu;cases hu;exact h6
    rw [decide_eq_true h6,Bool.true_and]
    by_cases hne:N.data.toList=[]
    ·rw [if_pos hne,show decide (bi=1)=(bi == 1) from rfl];exact rsym_E2 a n c L a2 n2 c2 l hn hn2 w hs hs2 k N bi se of hk h0 h1 h2 h3 h4 h5 h6' hne
    ·rw [if_neg hne];exact rsym_N2 a n c L a2 n2 c2 l hn hn2 w hs hs2 k N bi se of hk h0 h1 h2 h3 h4 h5 h6' hne hnl
   ·have h6':∀ u,(L.map (·.sc))[se.toNat]?=some u->(u.data.length:Int) < of:=fun u hu=>by rw [ht] at hu;cases hu;omega
    rw [decide_eq_false h6,Bool.false_and];exact rsym_8 a n c L a2 n2 c2 l hn hn2 w hs hs2 k N bi se of hk h0 h1 h2 h3 h4 h5 h6'
structure IOj (w u:World) (X:Nat) (a:Option Addr) (n c:Nat) (L:List Ms) (a2:Option Addr) (n2 c2:Nat) (l:List Sy):Prop where
 k:Below w.heap.size w u
 x:RB u X #[.slice a n c,.slice a2 n2 c2] 25
 s:SL msC 6 u u.heap.size a n L
 no:Notes u u.heap.size L
 s2:SL syC 4 u u.heap.size a2 n2 l
theorem IOj.next {w u v:World} {X:Nat} {a:Option Addr} {n c:Nat} {L:List Ms} {a2:Option Addr} {n2 c2:Nat} {l:List Sy} (h:IOj w u X a n c L a2 n2 c2 l) (hb:Below u.heap.size u v):IOj w v X a n c L a2 n2 c2 l:=
 ⟨after h.k hb,h.x.next hb,h.s.next hb,h.no.next hb,h.s2.next hb⟩
theorem secAt_no {o:Ob} {i:Nat} (hi:i < o.secs.length) (h:¬ SecAt (o.syms.length:Nat) o.secs i):isO o=false:=by
 cases hh:isO o
 ·rfl
 ·exact absurd (((isO_iff o).1 hh).1.2 i hi) h
theorem symAt_no {o:Ob} {i:Nat} (hi:i < o.syms.length) (h:rSyB o.secs o.syms i=false):isO o=false:=by
 cases hh:isO o
 ·rfl
 ·exact absurd ((rSyB_iff _ _ _).2 (((isO_iff o).1 hh).2.2 i hi)) (by rw [h];decide)
theorem many_no {o:Ob} (h:32 < o.secs.length\/128 < o.syms.length):isO o=false:=by
 cases hh:isO o
 ·rfl
 ·obtain ⟨⟨h1,-⟩,h2,-⟩:=(isO_iff o).1 hh
  omega
theorem rOIs_any (a:Option Addr) (n c:Nat) (L:List Ms) (a2:Option Addr) (n2 c2:Nat) (l:List Sy) (hn:n<=maxLen) (hn2:n2<=maxLen) (w:World) (hs:SL msC 6 w w.heap.size a n L) (hno:Notes w w.heap.size L) (hs2:SL syC 4 w w.heap.size a2 n2 l)
  (hg:∀ m ∈ L,GoodSc m.sc) (hrl:∀ m ∈ L,m.sc.rels.length<=maxLen) (hnm:∀ m ∈ L,m.sc.name.length<=1000) (hnl:∀ t ∈ l,t.name.length<=1000):
  Calls Tryz.prog 16 #[.agg #[.slice a n c,.slice a2 n2 c2]] w (RetB (.bool (isO ⟨L.map (·.sc),l⟩)) w):=by
 have hLn:(L.map (·.sc)).length=n:=by rw [List.length_map];exact hs.len.symm
 have hln:=hs2.len
 have HNo1:Hid (∀ i,i < n->¬ SecAt (n2:Nat) (L.map (·.sc)) i->isO ⟨L.map (·.sc),l⟩=false):=Lib.hid fun i hi h=>secAt_no (o:=⟨L.map (·.sc),l⟩) (by show i < (L.map (·.sc)).length;omega) (by show ¬ SecAt ((l.length:Nat):Int) (L.map (·.sc)) i;rw [<-hln];exact h)
 have HNo2:Hid (∀ i,i < n2->rSyB (L.map (·.sc)) l i=false->isO ⟨L.map (·.sc),l⟩=false):=Lib.hid fun i hi h=>symAt_no (o:=⟨L.map (·.sc),l⟩) (by show i < l.length;omega) h
 have HNo3:Hid (32 < n\/128 < n2->isO ⟨L.map (·.sc),l⟩=false):=Lib.hid fun h=>many_no (o:=⟨L.map (·.sc),l⟩) (by show 32 < (L.map (·.sc)).length\/128 < l.length;omega)
 have HYes:Hid (n<=32->n2<=128->(∀ i,i < n->SecAt (n2:Nat) (L.map (·.sc)) i)->(∀ i,i < n2->rSyB (L.map (·.sc)) l i=true)->isO ⟨L.map (·.sc),l⟩=true):=Lib.hid fun h1 h2 h3 h4=>(isO_iff _).2 ⟨⟨by show (L.map (·.sc)).length<=32;omega,fun i hi=>by show SecAt ((l.length:Nat):Int) (L.map (·.sc)) i;rw [<-hln];exact h3 i (by have:i < (L.map (·.sc)).length:=hi;omega)⟩,by show l.length<=128;omega,fun i hi=>(rSyB_iff _ _ _).1 (h4 i (by have:i < l.length:=hi;omega))⟩
 have HIO:Hid (IOj w (w.alloc (.cells #[.slice a n c,.slice a2 n2 c2] 25)) w.heap.size a n c L a2 n2 c2 l):=Lib.hid ⟨lit_below w _,rb_new w _ _,hs.next (lit_below w _),hno.next (lit_below w _),hs2.next (lit_below w _)⟩
 have HPI:Hid (∀ m ∈ L,∀ u,SL rlC 4 u u.heap.size m.ad m.sc.rels.length m.sc.rels->Calls Tryz.prog 50 #[scV m.sc m.ad m.sc.rels.length m.cap] u (RetB (.bool (secR m.sc)) u)):=Lib.hid fun m hm u hu=>rpIs_any m.sc m.ad _ m.cap u hu (hrl m hm) (hg m hm) (hnm m hm)
 have HLn:Hid (n=L.length/\n2=l.length):=Lib.hid ⟨hs.len,hs2.len⟩
 have HNl:=Lib.hid hnl
 have HRl:=Lib.hid hrl
 generalize isO ⟨L.map (·.sc),l⟩=R at*
 obtain ⟨V,hV⟩:∃ V,V=(w.alloc (.cells #[.slice a n c,.slice a2 n2 c2] 25)):=⟨_,rfl⟩
 obtain ⟨X,hX⟩:∃ X,X=w.heap.size:=⟨_,rfl⟩
 rw [<-hV,<-hX] at HIO
 have HV:=Lib.hid hV.symm
 have HX:=Lib.hid hX.symm
 have x0:V.cell? ⟨X,0,none⟩=some (.slice a n c):=HIO.out.x.cell
 have x1:V.cell? ⟨X,1,none⟩=some (.slice a2 n2 c2):=HIO.out.x.cell
 rw [hV,hX] at x0 x1
 have hni:(n:Int)<=9223372036854775807:=by unfold maxLen at hn;omega
 have hn2i:(n2:Int)<=9223372036854775807:=by unfold maxLen at hn2;omega
 clear hV hX hs hs2 hno hg hrl hnm hnl hLn hln hn hn2
 by_cases h1:32 < n
 ·have HR:=Lib.hid (HNo3.out (.inl h1))
  have t1:(32:Int) < (n:Int):=by omega
  clear h1
  go_enter Tryz.func16,Tryz.ntmps16
  go_wp2
  rw [HV.out]
  go_ret
  exact ⟨by rw [HR.out];rfl,HIO.out.k⟩
 have t1:¬ (32:Int) < (n:Int):=by omega
 by_cases h2:128 < n2
 ·have HR:=Lib.hid (HNo3.out (.inr h2))
  have t2:(128:Int) < (n2:Int):=by omega
  clear h1 h2
  go_enter Tryz.func16,Tryz.ntmps16
  go_wp2
  rw [HV.out]
  go_ret
  exact ⟨by rw [HR.out];rfl,HIO.out.k⟩
 have t2:¬ (128:Int) < (n2:Int):=by omega
 have HSz:Hid (n<=32/\n2<=128):=Lib.hid ⟨by omega,by omega⟩
 clear h1 h2
 go_enter Tryz.func16,Tryz.ntmps16
 go_wp2_with fail
 rw [HV.out,HX.out]
 go_loopw [3] (fun i wr=>∃ (k:Nat) (wx:World),wx=wr/\k<=n/\i=.int .i64 k/\Hid (IOj w wx X a n c L a2 n2 c2 l)/\Hid (∀ i,i < k->SecAt (n2:Nat) (L.map (·.sc)) i)) (fun i _=>n - (intOf i).toNat)
 case atStart=>exact ⟨0,_,rfl,by omega,rfl,HIO,Lib.hid (fun i hi=>absurd hi (by omega))⟩
 case round=>
  obtain ⟨k,wx,rfl,hk,rfl,HI,HD⟩:=hrel
  have x0:wx.cell? ⟨X,0,none⟩=some (.slice a n c):=HI.out.x.cell
  have x1:wx.cell? ⟨X,1,none⟩=some (.slice a2 n2 c2):=HI.out.x.cell
  by_cases hlt:k < n
  ·have hlti:(k:Int) < (n:Int):=by omega
   have hkl:k < L.length:=by have:=HLn.out;omega
   obtain ⟨b1,o1,e1,-,hc1⟩:=HI.out.s.cells (by intro e;rw [e] at hkl;simp at hkl)
   subst e1
   obtain ⟨m,hm⟩:∃ m,m=L[k]:=⟨_,rfl⟩
   have HMm:Hid (m ∈ L):=Lib.hid (by rw [hm];exact List.getElem_mem hkl)
   have HMk:Hid (L[k]?=some m):=Lib.hid (by rw [hm];exact List.getElem?_eq_getElem hkl)
   obtain ⟨c0,c1,c2',c3,c4,c5⟩:=ms_cells (fun j hj=>hc1 k hkl j hj)
   rw [<-hm] at c0 c1 c2' c3 c4 c5
   have HNt:=Lib.hid (HI.out.no m HMm.out)
   have HC:=Lib.hid (HPI.out m HMm.out wx HNt.out)
   have HSg:Hid ((L.map (·.sc))[k]?=some m.sc):=Lib.hid (by rw [List.getElem?_map,HMk.out];rfl)
   have HLt:=Lib.hid hlt
   have HNoK:Hid (¬ SecAt (n2:Nat) (L.map (·.sc)) k->R=false):=Lib.hid (HNo1.out k hlt)
   obtain ⟨mc,mad,mcap⟩:=m
   obtain ⟨nm,ki,kp,al,dt,rl⟩:=mc
   simp only [] at c0 c1 c2' c3 c4 c5 HC
   have HRl2:Hid ((rl.length:Int)<=9223372036854775807):=Lib.hid (by have:=HRl.out _ HMm.out;simp only at this;unfold maxLen at this;omega)
   clear hc1 hm hkl hlt hk
   obtain ⟨rn,hrn⟩:∃ rn,rn=rl.length:=⟨_,rfl⟩
   have HRn:=Lib.hid hrn
   rw [<-hrn] at c5 HC
   clear hrn
   go_wp2_with fail
   refine HC.out.mono ?_
   rintro e u1 ⟨rfl,hb⟩
   have HI1:=Lib.hid (HI.out.next hb)
   clear hb c0 c1 c2' c3 c4 c5 x0 x1
   cases hsr:secR ⟨nm,ki,kp,al,dt,rl⟩
   ·have HR:=Lib.hid (HNoK.out (by rintro ⟨s',h1,h2,-⟩;rw [HSg.out] at h1;cases h1;rw [hsr] at h2;cases h2))
    clear hsr
    go_wp2
    go_ret
    exact ⟨by rw [HR.out];rfl,HI1.out.k⟩
   have HSr:=Lib.hid hsr
   clear hsr
   go_wp2_with fail
   go_loopw [4] (fun i wr=>∃ (j:Nat) (wy:World),wy=wr/\j<=k/\i=.int .i64 j/\Hid (IOj w wy X (some ⟨b1,o1,none⟩) n c L a2 n2 c2 l)/\Hid (∀ (q:Nat) t,q < j->(L.map (·.sc))[q]?=some t->t.name ≠ nm)) (fun i _=>k - (intOf i).toNat)
   case atStart=>exact ⟨0,_,rfl,by omega,rfl,HI1,Lib.hid (fun q t hq=>absurd hq (by omega))⟩
   case round=>
    clear HI HI1 HC HNt
    obtain ⟨j,wy,rfl,hj,rfl,HI,HQ⟩:=hrel
    have x0:wy.cell? ⟨X,0,none⟩=some (.slice (some ⟨b1,o1,none⟩) n c):=HI.out.x.cell
    have x1:wy.cell? ⟨X,1,none⟩=some (.slice a2 n2 c2):=HI.out.x.cell
    have hkl:k < L.length:=by have:=HLn.out;have:=HLt.out;omega
    obtain ⟨b3,o3,e3,-,hc1⟩:=HI.out.s.cells (by intro e;rw [e] at hkl;simp at hkl)
    cases e3
    have hmk:L[k]=⟨⟨nm,ki,kp,al,dt,rl⟩,mad,mcap⟩:=by have:=HMk.out;rw [List.getElem?_eq_getElem hkl] at this;exact Option.some.inj this
    obtain ⟨e0,-,-,-,-,e5⟩:=ms_cells (fun j hj=>hc1 k hkl j hj)
    rw [hmk] at e0 e5
    simp only [] at e0 e5
    rw [<-HRn.out] at e5
    have hkn:(k:Int) < (n:Int):=by have:=HLt.out;omega
    by_cases hlt:j < k
    ·have hlti:(j:Int) < (k:Int):=by omega
     have hjl:j < L.length:=by omega
     have hjn:(j:Int) < (n:Int):=by omega
     obtain ⟨d0,-,-,-,-,-⟩:=ms_cells (fun q hq=>hc1 j hjl q hq)
     obtain ⟨M,hM⟩:∃ M:ByteArray,M=⟨L[j].sc.name.toArray⟩:=⟨_,rfl⟩
     obtain ⟨N,hN⟩:∃ N:ByteArray,N=⟨nm.toArray⟩:=⟨_,rfl⟩
     rw [<-hM] at d0
     rw [<-hN] at e0
     have hgj:(L.map (·.sc))[j]?=some L[j].sc:=by rw [List.getElem?_map,List.getElem?_eq_getElem hjl];rfl
     have hML:M.data.toList=L[j].sc.name:=by rw [hM]
     have hNL:N.data.toList=nm:=by rw [hN]
     have HLj:=Lib.hid hlt
     by_cases he:L[j].sc.name=nm
     ·have hME:M=N:=ba_ext (by rw [hML,hNL,he])
      have HR:=Lib.hid (HNoK.out (by rintro ⟨s',h1,-,h3,-⟩;rw [HSg.out] at h1;cases h1;exact h3 j _ hlt hgj he))
      have hqq:(N.toList == N.toList)=true:=by simp
      rw [hME] at d0
      clear hc1 hM hN hML hNL hgj he hME hlt hj hmk hkl hjl
      go_wp2_with fail
      go_big_quiet (fail)
      go_wp2
      go_ret
      exact ⟨by rw [HR.out];rfl,below_drewN HI.out.k _⟩
     ·have hqq:(M.toList == N.toList)=false:=by rw [beq_eq_false_iff_ne,ByteArray.toList_eq,ByteArray.toList_eq,hML,hNL];exact he
      have HQ2:Hid (∀ (q:Nat) t,q < j+1->(L.map (·.sc))[q]?=some t->t.name ≠ nm):=Lib.hid (by
       intro q t hq ht
       rcases Nat.lt_succ_iff_lt_or_eq.1 hq with h | h
       ·exact HQ.out q t h ht
       ·subst h;rw [hgj] at ht;cases ht;exact he)
      clear hc1 hM hN hML hNL hgj he hlt hj hmk hkl hjl
      go_wp2_with fail
      go_big_quiet (fail)
      go_wp2
      go_roundw
      case rel=>exact ⟨j+1,_,rfl,by have:=HLj.out;omega,by go_num,Lib.hid (HI.out.next (below_refl_drewN _ _)),HQ2⟩
      case measure=>have:=HLj.out;simp [intOf];omega
    ·obtain rfl:j=k:=by omega
     have hge:¬ (j:Int) < (j:Int):=by omega
     have HIe:=HI
     clear hc1 hmk hkl hj hlt e0
     go_wp2_with fail
     clear x0 x1 e5
     go_loopw [5] (fun i wr=>∃ (q:Nat) (wz:World),wz=wr/\q<=rn/\i=.int .i64 q/\Hid (IOj w wz X (some ⟨b1,o1,none⟩) n c L a2 n2 c2 l)/\Hid (∀ r ∈ rl.take q,r.sym < (n2:Int))) (fun i _=>rn - (intOf i).toNat)
     case atStart=>exact ⟨0,_,rfl,by omega,rfl,HI,Lib.hid (fun r hr=>by simp at hr)⟩
     case round=>
      clear HI HIe
      obtain ⟨q,wz,rfl,hq,rfl,HI,HS⟩:=hrel
      have x0:wz.cell? ⟨X,0,none⟩=some (.slice (some ⟨b1,o1,none⟩) n c):=HI.out.x.cell
      have x1:wz.cell? ⟨X,1,none⟩=some (.slice a2 n2 c2):=HI.out.x.cell
      have hkl:j < L.length:=by have:=HLn.out;have:=HLt.out;omega
      obtain ⟨b3,o3,e3,-,hc1⟩:=HI.out.s.cells (by intro e;rw [e] at hkl;simp at hkl)
      cases e3
      have hmk:L[j]=⟨⟨nm,ki,kp,al,dt,rl⟩,mad,mcap⟩:=by have:=HMk.out;rw [List.getElem?_eq_getElem hkl] at this;exact Option.some.inj this
      obtain ⟨-,-,-,-,-,e5⟩:=ms_cells (fun j' hj'=>hc1 j hkl j' hj')
      rw [hmk] at e5
      simp only [] at e5
      rw [<-HRn.out] at e5
      have hrb:=HRl2.out
      rw [<-HRn.out] at hrb
      by_cases hlq:q < rn
      ·have hlqi:(q:Int) < (rn:Int):=by omega
       have hql:q < rl.length:=by rw [<-HRn.out];exact hlq
       obtain ⟨b4,o4,e4,-,hc4⟩:=(HI.out.no _ HMm.out).cells (by intro e;simp only at e;rw [e] at hql;simp at hql)
       simp only [] at e4
       subst e4
       have g2:=hc4 q hql 2 (by omega)
       simp only [] at g2
       obtain ⟨r,hr⟩:∃ r,r=rl[q]:=⟨_,rfl⟩
       rw [<-hr] at g2
       obtain ⟨rp,rk,rs,ra⟩:=r
       simp only [rlC,List.getElem?_cons_succ,List.getElem?_cons_zero] at g2
       have hrm:(⟨rp,rk,rs,ra⟩:Rl) ∈ rl:=by rw [hr];exact List.getElem_mem hql
       have HLq:=Lib.hid hlq
       by_cases he:rs < (n2:Int)
       ·have hef:¬ (n2:Int)<=rs:=by omega
        have HS2:Hid (∀ r ∈ rl.take (q+1),r.sym < (n2:Int)):=Lib.hid (by
         intro r hr'
         rw [List.take_succ_eq_append_getElem hql,List.mem_append,List.mem_singleton] at hr'
         rcases hr' with h | h
         ·exact HS.out r h
         ·rw [h,<-hr];exact he)
        clear hc1 hmk hkl hq hlq hql hc4 hr hrm he
        go_wp2_with fail
        go_big_quiet (fail)
        go_wp2
        go_roundw
        case rel=>exact ⟨q+1,_,rfl,by have:=HLq.out;omega,by go_num,Lib.hid (HI.out.next (below_refl_drewN _ _)),HS2⟩
        case measure=>have:=HLq.out;simp [intOf];omega
       ·have hef:(n2:Int)<=rs:=by omega
        have HR:=Lib.hid (HNoK.out (by rintro ⟨s',h1,-,-,h4⟩;rw [HSg.out] at h1;cases h1;have:=h4 _ hrm;simp only at this;omega))
        clear hc1 hmk hkl hq hlq hql hc4 hr hrm he
        go_wp2_with fail
        go_big_quiet (fail)
        go_wp2
        go_ret
        exact ⟨by rw [HR.out];rfl,below_drewN HI.out.k _⟩
      ·obtain rfl:q=rn:=by omega
       have hge:¬ (q:Int) < (q:Int):=by omega
       have HD2:Hid (∀ i,i < j+1->SecAt (n2:Nat) (L.map (·.sc)) i):=Lib.hid (by
        intro i hi
        rcases Nat.lt_succ_iff_lt_or_eq.1 hi with h | h
        ·exact HD.out i h
        ·subst h
         refine ⟨_,HSg.out,HSr.out,fun q t hq ht=>HQ.out q t hq ht,fun r hr=>HS.out r ?_⟩
         rw [HRn.out,List.take_length];exact hr)
       clear hc1 hmk hkl hq hlq
       go_wp2
       go_roundw
       case rel=>exact ⟨j+1,_,rfl,by have:=HLt.out;omega,by go_num,HI,HD2⟩
       case measure=>have:=HLt.out;simp [intOf];omega
  ·obtain rfl:k=n:=by omega
   have hge:¬ (k:Int) < (k:Int):=by omega
   clear hlt hk
   go_wp2_with fail
   clear x0 x1
   go_loopw [6] (fun i wr=>∃ (q:Nat) (wz:World),wz=wr/\q<=n2/\i=.int .i64 q/\Hid (IOj w wz X a k c L a2 n2 c2 l)/\Hid (∀ i,i < q->rSyB (L.map (·.sc)) l i=true)) (fun i _=>n2 - (intOf i).toNat)
   case atStart=>exact ⟨0,_,rfl,by omega,rfl,HI,Lib.hid (fun i hi=>absurd hi (by omega))⟩
   case round=>
    clear HI
    obtain ⟨q,wz,rfl,hq,rfl,HI,HS⟩:=hrel
    have x0:wz.cell? ⟨X,0,none⟩=some (.slice a k c):=HI.out.x.cell
    have x1:wz.cell? ⟨X,1,none⟩=some (.slice a2 n2 c2):=HI.out.x.cell
    by_cases hlq:q < n2
    ·have hlqi:(q:Int) < (n2:Int):=by omega
     have HLq:=Lib.hid hlq
     have HC:=Lib.hid (rsym_any a k c L a2 n2 c2 l (by have:=HSz.out;omega) (by have:=HSz.out;omega) wz HI.out.s HI.out.s2 q (by have:=HLn.out;omega) HNl.out)
     have HNoQ:Hid (rSyB (L.map (·.sc)) l q=false->R=false):=Lib.hid (HNo2.out q hlq)
     clear hlq hq
     go_wp2_with fail
     refine HC.out.mono ?_
     rintro e u1 ⟨rfl,hb⟩
     have HI1:=Lib.hid (HI.out.next hb)
     clear hb x0 x1
     cases hsr:rSyB (L.map (·.sc)) l q
     ·have HR:=Lib.hid (HNoQ.out hsr)
      clear hsr
      go_wp2
      go_ret
      exact ⟨by rw [HR.out];rfl,HI1.out.k⟩
     ·have HS2:Hid (∀ i,i < q+1->rSyB (L.map (·.sc)) l i=true):=Lib.hid (by
       intro i hi
       rcases Nat.lt_succ_iff_lt_or_eq.1 hi with h | h
       ·exact HS.out i h
       ·subst h;exact hsr)
      clear hsr
      go_wp2
      go_roundw
      case rel=>exact ⟨q+1,_,rfl,by have:=HLq.out;omega,by go_num,HI1,HS2⟩
      case measure=>have:=HLq.out;simp [intOf];omega
    ·obtain rfl:q=n2:=by omega
     have hge2:¬ (q:Int) < (q:Int):=by omega
     have HR:Hid (R=true):=Lib.hid (HYes.out HSz.out.1 HSz.out.2 HD.out HS.out)
     clear hlq hq
     go_wp2
     go_ret
     exact ⟨by rw [HR.out];rfl,HI.out.k⟩
end Go.Proofs.YthkolmebokfagaaGreatDoor
