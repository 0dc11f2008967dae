/- the reference of fold, plain: pairs that may not be of one part. The reference of fold: Alike. The reference of fold: apart: rows of rows. -/
import Derived.Test.YtbabckomagkjbaaGreatDoorsV
import Derived.Test.YtbabckomagkjbaaGreatDoorqM
import Derived.Test.YtbabckomagkjbaaGreatDoorw1
set_option maxRecDepth 100000
set_option maxHeartbeats 8000000
set_option linter.unusedVariables false
set_option linter.unusedSimpArgs false
namespace Go.Proofs.YtbabckomagkjbaaGreatDoor
open Go.ChangeShapes Go.WideShapes Go.Deep Go.RowKit
def unG (U:List (List Bool)) (i k:Nat):Bool:=((U[i]?).getD [])[k]?.getD false
def unZ (S:List Sc) (ins:List Bool) (i k:Nat):Bool:=decide (i ≠ k) && (!(ins[i]?.getD false) || !(ins[k]?.getD false) || !(match S[i]?,S[k]? with | some s,some t=>alikeB s t | _,_=>false))
def SqU (n:Nat) (U:List (List Bool)):Prop:=U.length=n/\∀ r ∈ U,r.length=n
def setU (U:List (List Bool)) (i k:Nat):List (List Bool):=U.set i (((U[i]?).getD []).set k true)
theorem sq_row {n:Nat} {U:List (List Bool)} (h:SqU n U) {i:Nat} (hi:i < n):∃ r,U[i]?=some r/\r.length=n:=by
 have h1:=List.getElem?_eq_getElem (show i < U.length by rw [h.1];exact hi)
 exact ⟨_,h1,h.2 _ (List.mem_of_getElem? h1)⟩
theorem sq_get {n:Nat} {U:List (List Bool)} (h:SqU n U) {i k:Nat} (hi:i < n) (hk:k < n):∃ r,U[i]?=some r/\r[k]?=some (unG U i k):=by
 obtain ⟨r,h1,h2⟩:=sq_row h hi
 refine ⟨r,h1,?_⟩
 unfold unG
 rw [h1,Option.getD_some,List.getElem?_eq_getElem (by omega),Option.getD_some]
theorem sq_set {n:Nat} {U:List (List Bool)} (h:SqU n U) (i k:Nat):SqU n (setU U i k):=by
 unfold setU
 refine ⟨by rw [List.length_set];exact h.1,fun r hr=>?_⟩
 by_cases hi:i < U.length
 ·rcases List.mem_or_eq_of_mem_set hr with h1 | h1
  ·exact h.2 r h1
  ·rw [h1,List.length_set,List.getElem?_eq_getElem hi,Option.getD_some]
   exact h.2 _ (List.getElem_mem hi)
 ·rw [List.set_eq_of_length_le (by omega)] at hr
  exact h.2 r hr
theorem set_get {n:Nat} {U:List (List Bool)} (h:SqU n U) {i k:Nat} (hi:i < n) (hk:k < n) (a b:Nat):unG (setU U i k) a b=if a=i/\b=k then true else unG U a b:=by
 obtain ⟨r,h1,h2⟩:=sq_row h hi
 unfold unG setU
 rw [h1,Option.getD_some]
 by_cases e:a=i
 ·subst e
  rw [List.getElem?_set_self (by rw [h.1];exact hi),Option.getD_some,h1,Option.getD_some]
  by_cases e2:b=k
  ·subst e2
   rw [List.getElem?_set_self (by omega),if_pos ⟨rfl,rfl⟩];rfl
  ·rw [List.getElem?_set_ne (fun z=>e2 z.symm),if_neg (fun z=>e2 z.2)]
 ·rw [List.getElem?_set_ne (fun z=>e z.symm),if_neg (fun z=>e z.1)]
def leftU (U:List (List Bool)):Nat:=(U.map (fun r=>r.count false)).sum
theorem count_setF:∀ {l:List Bool} {k:Nat},l[k]?=some false->(l.set k true).count false+1=l.count false
 | [],k,h=>by simp at h
 | b :: t,0,h=>by
  simp only [List.getElem?_cons_zero,Option.some.injEq] at h
  subst h
  simp
 | b :: t,k+1,h=>by
  have h2:t[k]?=some false:=by simpa using h
  have:=count_setF h2
  rw [List.set_cons_succ,List.count_cons,List.count_cons]
  omega
theorem leftU_set:∀ {U:List (List Bool)} {i:Nat} {r r':List Bool},U[i]?=some r->r'.count false+1=r.count false->leftU (U.set i r')+1=leftU U
 | [],i,r,r',h,_=>by simp at h
 | x :: t,0,r,r',h,hc=>by
  simp only [List.getElem?_cons_zero,Option.some.injEq] at h
  subst h
  simp only [leftU,List.set_cons_zero,List.map_cons,List.sum_cons]
  omega
 | x :: t,i+1,r,r',h,hc=>by
  have h2:t[i]?=some r:=by simpa using h
  have:=leftU_set h2 hc
  simp only [leftU,List.set_cons_succ,List.map_cons,List.sum_cons] at*
  omega
theorem leftU_one {n:Nat} {U:List (List Bool)} (h:SqU n U) {i k:Nat} (hi:i < n) (hk:k < n) (hf:unG U i k=false):leftU (setU U i k)+1=leftU U:=by
 obtain ⟨r,h1,h2⟩:=sq_get h hi hk
 rw [hf] at h2
 unfold setU
 rw [h1,Option.getD_some]
 exact leftU_set h1 (count_setF h2)
structure UnI (S:List Sc) (ins:List Bool) (P:List Int) (U:List (List Bool)):Prop where
 sq:SqU S.length U
 mono:∀ i k,i < S.length->k < S.length->unZ S ins i k=true->unG U i k=true
 snd:∀ i k,i < S.length->k < S.length->unG U i k=true->i ≠ k/\(ins[i]?=some true->ins[k]?=some true->P[i]? ≠ P[k]?)
theorem unZ_false {S:List Sc} {ins:List Bool} {i k:Nat} {s t:Sc} (hs:S[i]?=some s) (ht:S[k]?=some t) (h:unZ S ins i k=false) (hne:i ≠ k):ins[i]?=some true/\ins[k]?=some true/\alikeB s t=true:=by
 unfold unZ at h
 rw [hs,ht] at h
 have hd:decide (i ≠ k)=true:=by simp [hne]
 rw [hd] at h
 cases h1:ins[i]? <;> cases h2:ins[k]? <;> rw [h1,h2] at h <;> simp_all
theorem UnI.put {S:List Sc} {ins:List Bool} {j:Nat} {U:List (List Bool)} (hu:unitsR S=true) (hin:ins.length=S.length) (hfx:nextP S ins (foldN S ins j)=foldN S ins j) (h:UnI S ins (endL ins (foldN S ins j)) U)
  {i k q:Nat} {s t:Sc} {r r':Rl} (hs:S[i]?=some s) (ht:S[k]?=some t) (hr:s.rels[q]?=some r) (hr':t.rels[q]?=some r') (hU:unG U r.sym.toNat r'.sym.toNat=true):
  UnI S ins (endL ins (foldN S ins j)) (setU U i k):=by
 have hi:=(List.getElem?_eq_some_iff.1 hs).1
 have hk:=(List.getElem?_eq_some_iff.1 ht).1
 obtain ⟨a0,a1⟩:=(units_sec hu hs).2 r (List.mem_of_getElem? hr)
 obtain ⟨b0,b1⟩:=(units_sec hu ht).2 r' (List.mem_of_getElem? hr')
 obtain ⟨s1,s2⟩:=h.snd _ _ (by omega) (by omega) hU
 have hg:=end_good (j:=j) hu hin hfx
 refine ⟨sq_set h.sq i k,fun a b ha hb hz=>?_,fun a b ha hb hz=>?_⟩
 ·rw [set_get h.sq hi hk]
  split
  ·rfl
  ·exact h.mono a b ha hb hz
 ·rw [set_get h.sq hi hk] at hz
  split at hz
  ·rename_i e
   obtain ⟨rfl,rfl⟩:=e
   have hne:a ≠ b:=by
    intro e
    subst e
    rw [hs] at ht;cases ht
    rw [hr] at hr';cases hr'
    exact s1 rfl
   refine ⟨hne,fun ia ib hP=>?_⟩
   have key:RefQ S.length ins (endL ins (foldN S ins j)) r.sym r'.sym:=by
    rcases Nat.lt_or_ge b a with hlt | hlt
    ·exact (hg a b ha hlt ia ib hP s t hs ht).2 q r r' hr hr'
    ·obtain ⟨x0,x1,y0,y1,h⟩:=(hg b a hb (by omega) ib ia hP.symm t s ht hs).2 q r' r hr' hr
     refine ⟨y0,y1,x0,x1,?_⟩
     rcases h with h | ⟨c1,c2,c3⟩
     ·exact .inl h.symm
     ·exact .inr ⟨c2,c1,c3.symm⟩
   obtain ⟨-,-,-,-,h3⟩:=key
   rcases h3 with h3 | ⟨c1,c2,c3⟩
   ·exact s1 (by rw [h3])
   ·exact s2 c1 c2 c3
  ·exact h.snd a b ha hb hz
def ClosedU (S:List Sc) (U:List (List Bool)):Prop:=∀ (i k:Nat) (s t:Sc),S[i]?=some s->S[k]?=some t->unG U i k=false->∀ (q:Nat) (r r':Rl),s.rels[q]?=some r->t.rels[q]?=some r'->unG U r.sym.toNat r'.sym.toNat=false
theorem un_part {S:List Sc} {ins:List Bool} {P:List Int} {U:List (List Bool)} (hu:unitsR S=true) (h:UnI S ins P U) (hc:ClosedU S U):∀ (j i k:Nat),i < S.length->k < S.length->unG U i k=false->(foldN S ins j)[i]?=(foldN S ins j)[k]?
 | 0,i,k,hi,hk,hU=>by
  by_cases e:i=k
  ·rw [e]
  have hs:=List.getElem?_eq_getElem hi
  have ht:=List.getElem?_eq_getElem hk
  have hz:unZ S ins i k=false:=by
   cases hz:unZ S ins i k
   ·rfl
   ·rw [h.mono i k hi hk hz] at hU;cases hU
  obtain ⟨i1,i2,ha⟩:=unZ_false hs ht hz e
  obtain ⟨k1,k2,hsg⟩:=(alike_iff hs ht).1 ha
  show (part1 S ins)[i]?=(part1 S ins)[k]?
  unfold part1
  rw [partZ_get hi,partZ_get hk,(partG_eq (okU_of i1 hs k1) (okU_of i2 ht k2)).2 hsg]
 | j+1,i,k,hi,hk,hU=>by
  by_cases e:i=k
  ·rw [e]
  have hs:=List.getElem?_eq_getElem hi
  have ht:=List.getElem?_eq_getElem hk
  have hz:unZ S ins i k=false:=by
   cases hz:unZ S ins i k
   ·rfl
   ·rw [h.mono i k hi hk hz] at hU;cases hU
  obtain ⟨i1,i2,ha⟩:=unZ_false hs ht hz e
  obtain ⟨k1,k2,hsg⟩:=(alike_iff hs ht).1 ha
  show (nextP S ins (foldN S ins j))[i]?=(nextP S ins (foldN S ins j))[k]?
  unfold nextP
  have hrefs:refsP (foldN S ins j) S[i]=refsP (foldN S ins j) S[k]:=by
   unfold refsP
   apply List.ext_getElem?
   intro q
   rw [List.getElem?_map,List.getElem?_map]
   have hlen:=alike_len ha
   by_cases hq:q < S[i].rels.length
   ·have h1:=List.getElem?_eq_getElem hq
    have h2:=List.getElem?_eq_getElem (show q < S[k].rels.length by omega)
    have h3:=hc i k _ _ hs ht hU q _ _ h1 h2
    obtain ⟨a0,a1⟩:=(units_sec hu hs).2 _ (List.mem_of_getElem? h1)
    obtain ⟨b0,b1⟩:=(units_sec hu ht).2 _ (List.mem_of_getElem? h2)
    rw [h1,h2,Option.map_some,Option.map_some,un_part hu h hc j _ _ (by omega) (by omega) h3]
   ·rw [List.getElem?_eq_none (by omega),List.getElem?_eq_none (by omega)]
  have hsb:sgnB S (foldN S ins j) i=sgnB S (foldN S ins j) k:=by
   unfold sgnB
   rw [hs,ht,un_part hu h hc j i k hi hk hU]
   simp only []
   rw [hrefs]
  rw [partZ_get hi,partZ_get hk,(partG_eq (okU_of i1 hs k1) (okU_of i2 ht k2)).2 hsb]
theorem un_least {S:List Sc} {ins:List Bool} {j:Nat} {U:List (List Bool)} (hu:unitsR S=true) (hin:ins.length=S.length) (h:UnI S ins (endL ins (foldN S ins j)) U) (hc:ClosedU S U) {i:Nat} (hi:i < S.length) (hii:ins[i]?=some true):
  ∃ p:Nat,(endL ins (foldN S ins j))[i]?=some (p:Int)/\p<=i/\unG U i p=false/\∀ k,k < p->unG U i k=true:=by
 obtain ⟨p,h1,h2,h3,h4⟩:=end_least (j:=j) hi hii
 refine ⟨p,h1,h2,?_,fun k hk=>?_⟩
 ·cases hU:unG U i p
  ·rfl
  ·exact absurd (h1.trans h4.symm) ((h.snd i p hi (by omega) hU).2 hii h3)
 ·cases hU:unG U i k
  ·exfalso
   have hkl:k < S.length:=by omega
   have hs:=List.getElem?_eq_getElem hi
   have ht:=List.getElem?_eq_getElem hkl
   have hz:unZ S ins i k=false:=by
    cases hz:unZ S ins i k
    ·rfl
    ·rw [h.mono i k hi hkl hz] at hU;cases hU
   obtain ⟨-,i2,-⟩:=unZ_false hs ht hz (by omega)
   have he:=un_part hu h hc j i k hi hkl hU
   have hl:=foldN_len S ins j
   obtain ⟨p',g1,g2,-,-⟩:=end_least (j:=j) hkl i2
   rw [endL_in (by omega) hii,he,<-endL_in (by omega) i2,g1] at h1
   have:=Option.some.inj h1
   omega
  ·rfl
theorem unI_start {S:List Sc} {ins:List Bool} {j:Nat} (hu:unitsR S=true) (hin:ins.length=S.length) (hfx:nextP S ins (foldN S ins j)=foldN S ins j) {U:List (List Bool)} (hsq:SqU S.length U) (hU:∀ i k,i < S.length->k < S.length->unG U i k=unZ S ins i k):
  UnI S ins (endL ins (foldN S ins j)) U:=by
 have hg:=end_good (j:=j) hu hin hfx
 refine ⟨hsq,fun i k hi hk h=>by rw [hU i k hi hk];exact h,fun i k hi hk h=>?_⟩
 rw [hU i k hi hk] at h
 have hne:i ≠ k:=by
  intro e
  subst e
  unfold unZ at h
  simp at h
 refine ⟨hne,fun i1 i2 hP=>?_⟩
 have hs:=List.getElem?_eq_getElem hi
 have ht:=List.getElem?_eq_getElem hk
 have hal:alikeB S[i] S[k]=true:=by
  rcases Nat.lt_or_ge k i with hlt | hlt
  ·exact (hg i k hi hlt i1 i2 hP _ _ hs ht).1
  ·exact alike_symm (hg k i hk (by omega) i2 i1 hP.symm _ _ ht hs).1
 unfold unZ at h
 rw [hs,ht,i1,i2] at h
 simp [hal] at h
end Go.Proofs.YtbabckomagkjbaaGreatDoor
namespace Go.Proofs.YtbabckomagkjbaaGreatDoor
open Go.ChangeShapes Go.WideShapes Go.Deep Go.RowKit
theorem rAlike_any (N D N' D':ByteArray) (ki ki' al al':Int) (kp kp':Bool) (a a':Option Addr) (n n' c c':Nat) (l l':List Rl) (w:World) (hn:n<=maxLen) (hn':n'<=maxLen) (hs:SL rlC 4 w w.heap.size a n l) (hs':SL rlC 4 w w.heap.size a' n' l') (nm nm':List UInt8):
  Calls Tryz.prog 26 #[.agg (uCe N ki kp al D a n c),.agg (uCe N' ki' kp' al' D' a' n' c')] w (RetB (.bool (alikeB ⟨nm,ki,kp,al,D.data.toList,l⟩ ⟨nm',ki',kp',al',D'.data.toList,l'⟩)) w):=by
 obtain ⟨R,hR⟩:∃ R,R=alikeB ⟨nm,ki,kp,al,D.data.toList,l⟩ ⟨nm',ki',kp',al',D'.data.toList,l'⟩:=⟨_,rfl⟩
 rw [<-hR]
 unfold alikeB at hR
 simp only [] at hR
 have HB:=Lib.hid ((two_rb (w:=w) (A:=uCe N ki kp al D a n c) (B:=uCe N' ki' kp' al' D' a' n' c') (T:=43) (U:=43)))
 obtain ⟨P,hP⟩:∃ P,P=w.heap.size:=⟨_,rfl⟩
 have HB0:=Lib.hid HB.out.2.2
 rw [<-hP] at HB
 have hni:(n:Int)<=9223372036854775807:=by unfold maxLen at hn;omega
 have hni':(n':Int)<=9223372036854775807:=by unfold maxLen at hn';omega
 have HS:=Lib.hid (fun u (hu:Below w.heap.size w u)=>hs.next hu)
 have HS':=Lib.hid (fun u (hu:Below w.heap.size w u)=>hs'.next hu)
 have HLn:=Lib.hid hs.len
 have HLn':=Lib.hid hs'.len
 have hDD:(D.toList=D'.toList) ↔ D.data.toList=D'.data.toList:=by rw [Lib.toList_data,Lib.toList_data]
 have hcs:(ki ≠ 1/\R=false)\/(ki=1/\ki' ≠ 1/\R=false)\/(ki=1/\ki'=1/\¬ D.toList=D'.toList/\R=false)\/(ki=1/\ki'=1/\D.toList=D'.toList/\n ≠ n'/\R=false)\/(ki=1/\ki'=1/\D.toList=D'.toList/\n=n'/\R=alRs l l'):=by
  by_cases e1:ki=1
  ·by_cases e2:ki'=1
   ·by_cases e3:D.toList=D'.toList
    ·by_cases e4:n=n'
     ·exact .inr (.inr (.inr (.inr ⟨e1,e2,e3,e4,by rw [hR,decide_eq_true e1,decide_eq_true e2,decide_eq_true (hDD.1 e3)];rfl⟩)))
     ·refine .inr (.inr (.inr (.inl ⟨e1,e2,e3,e4,?_⟩)))
      rw [hR,alRs,decide_eq_false (p:=l.length=l'.length) (by have:=hs.len;have:=hs'.len;omega)]
      simp
    ·refine .inr (.inr (.inl ⟨e1,e2,e3,?_⟩))
     rw [hR,decide_eq_false (fun h=>e3 (hDD.2 h))]
     simp
   ·refine .inr (.inl ⟨e1,e2,?_⟩)
    rw [hR,decide_eq_false e2]
    simp
  ·refine .inl ⟨e1,?_⟩
   rw [hR,decide_eq_false e1]
   simp
 clear hs hs' hn hn' hDD hR
 obtain ⟨W0,hW0⟩:∃ x,x=(w.alloc (.cells (uCe N ki kp al D a n c) 43)).alloc (.cells (uCe N' ki' kp' al' D' a' n' c') 43):=⟨_,rfl⟩
 rw [<-hW0] at HB HB0
 have x1:W0.cell? ⟨P,1,none⟩=some (.int .i64 ki):=HB.out.1.cell
 have x4:W0.cell? ⟨P,4,none⟩=some (.string D):=HB.out.1.cell
 have x5:W0.cell? ⟨P,5,none⟩=some (.slice a n c):=HB.out.1.cell
 have y1:W0.cell? ⟨P+1,1,none⟩=some (.int .i64 ki'):=HB.out.2.1.cell
 have y4:W0.cell? ⟨P+1,4,none⟩=some (.string D'):=HB.out.2.1.cell
 have y5:W0.cell? ⟨P+1,5,none⟩=some (.slice a' n' c'):=HB.out.2.1.cell
 rw [hW0] at x1 x4 x5 y1 y4 y5
 rw [hP] at x1 x4 x5 y1 y4 y5
 have HWE:Hid ((w.alloc (.cells (uCe N ki kp al D a n c) 43)).alloc (.cells (uCe N' ki' kp' al' D' a' n' c') 43)=W0):=Lib.hid hW0.symm
 have HPe:=Lib.hid hP
 clear hW0 hP
 rcases hcs with ⟨e1,hR⟩ | ⟨e1,e2,hR⟩ | ⟨e1,e2,e3,hR⟩ | ⟨e1,e2,e3,e4,hR⟩ | ⟨e1,e2,e3,e4,hR⟩
 ·have t1:(ki != 1)=true:=by simp [e1]
  have HR:=Lib.hid hR
  clear e1 hR
  go_enter Tryz.func26,Tryz.ntmps26
  go_wp2
  go_ret
  exact retB_bool HR.out.symm (by have:=HB0.out;rw [<-HWE.out] at this;exact this)
 ·have t1:(ki != 1)=false:=by simp [e1]
  have t2:(ki' != 1)=true:=by simp [e2]
  have HR:=Lib.hid hR
  clear e1 e2 hR
  go_enter Tryz.func26,Tryz.ntmps26
  go_wp2
  go_ret
  exact retB_bool HR.out.symm (by have:=HB0.out;rw [<-HWE.out] at this;exact this)
 ·have t1:(ki != 1)=false:=by simp [e1]
  have t2:(ki' != 1)=false:=by simp [e2]
  have t3:(D.toList == D'.toList)=false:=beq_eq_false_iff_ne.2 e3
  have t3':(D.toList != D'.toList)=true:=by simp only [bne,t3];rfl
  have HR:=Lib.hid hR
  clear e1 e2 e3 hR
  go_enter Tryz.func26,Tryz.ntmps26
  go_wp2
  go_ret
  exact retB_bool HR.out.symm (by have:=HB0.out;rw [<-HWE.out] at this;exact this)
 ·have t1:(ki != 1)=false:=by simp [e1]
  have t2:(ki' != 1)=false:=by simp [e2]
  have t3:(D.toList == D'.toList)=true:=beq_iff_eq.2 e3
  have t3':(D.toList != D'.toList)=false:=by simp only [bne,t3];rfl
  have t4:((n:Int) != (n':Int))=true:=by rw [bne_iff_ne];omega
  have HR:=Lib.hid hR
  clear e1 e2 e3 e4 hR
  go_enter Tryz.func26,Tryz.ntmps26
  go_wp2
  go_ret
  exact retB_bool HR.out.symm (by have:=HB0.out;rw [<-HWE.out] at this;exact this)
 have t1:(ki != 1)=false:=by simp [e1]
 have t2:(ki' != 1)=false:=by simp [e2]
 have t3:(D.toList == D'.toList)=true:=beq_iff_eq.2 e3
 have t3':(D.toList != D'.toList)=false:=by simp only [bne,t3];rfl
 subst e4
 have t4:((n:Int) != (n:Int))=false:=by simp
 have hll:l.length=l'.length:=by rw [<-HLn.out,<-HLn'.out]
 have HIff:=Lib.hid (alRs_iff hll)
 have HR:=Lib.hid hR
 clear e1 e2 e3 hR hll
 go_enter Tryz.func26,Tryz.ntmps26
 go_wp2_with fail
 rw [HWE.out,<-HPe.out]
 clear x1 x4 x5 y1 y4 y5 t1 t2 t3 t3' t4
 go_loopw [5] (fun i wr=>∃ (k:Nat) (wx:World),wx=wr/\k<=n/\i=.int .i64 k/\Hid (Below W0.heap.size W0 wx)/\Hid (∀ (j:Nat) (r r':Rl),j < k->l[j]?=some r->l'[j]?=some r'->alR r r'=true)) (fun i _=>n - (intOf i).toNat)
 case atStart=>exact ⟨0,_,rfl,by omega,rfl,Lib.hid (Below.refl _ _),Lib.hid (fun j r r' h=>by omega)⟩
 case round=>
  obtain ⟨k,wx,rfl,hk,rfl,HK,HA⟩:=hrel
  have x5:wx.cell? ⟨P,5,none⟩=some (.slice a n c):=(HB.out.1.next HK.out).cell
  by_cases hlt:k < n
  ·have hlti:(k:Int) < (n:Int):=by omega
   have HLT:=Lib.hid hlt
   have hk1:k < l.length:=by have:=HLn.out;omega
   have hk2:k < l'.length:=by have:=HLn'.out;omega
   have hbx:=after HB0.out HK.out
   obtain ⟨b1,o1,hae1,hB1,hc1⟩:=(HS.out _ hbx).cells (by intro e;rw [e] at hk1;simp at hk1)
   subst hae1
   obtain ⟨b2,o2,hae2,hB2,hc2⟩:=(HS'.out _ hbx).cells (by intro e;rw [e] at hk2;simp at hk2)
   subst hae2
   obtain ⟨c0,c1,c2,c3⟩:=rl_cells (fun q hq=>hc1 k hk1 q hq)
   obtain ⟨d0,d1,d2,d3⟩:=rl_cells (fun q hq=>hc2 k hk2 q hq)
   have HXx:Hid (l[k]?=some l[k]):=Lib.hid (List.getElem?_eq_getElem hk1)
   have HYy:Hid (l'[k]?=some l'[k]):=Lib.hid (List.getElem?_eq_getElem hk2)
   generalize l[k]'hk1=x at c0 c1 c2 c3 HXx
   generalize l'[k]'hk2=y at d0 d1 d2 d3 HYy
   obtain ⟨xp,xk,xs,xa⟩:=x
   obtain ⟨yp,yk,ys,ya⟩:=y
   simp only [] at c0 c1 c2 c3 d0 d1 d2 d3
   obtain ⟨Wa,hWa⟩:∃ x,x=wx.alloc (.cells #[.int .i64 xp,.int .i64 xk,.int .i64 xs,.int .i64 xa] 61):=⟨_,rfl⟩
   have hba:Below wx.heap.size wx Wa:=by rw [hWa];exact lit_below wx _
   have y5:Wa.cell? ⟨P+1,5,none⟩=some (.slice (some ⟨b2,o2,none⟩) n c'):=(HB.out.2.1.next (after HK.out hba)).cell
   have f0:Wa.cell? ⟨b2,o2+k*4,none⟩=some (.int .i64 yp):=(hba.cell (p:=⟨b2,o2+k*4,none⟩) (cell_lt d0)).trans d0
   have f1:Wa.cell? ⟨b2,o2+k*4+1,none⟩=some (.int .i64 yk):=(hba.cell (p:=⟨b2,o2+k*4+1,none⟩) (cell_lt d1)).trans d1
   have f2:Wa.cell? ⟨b2,o2+k*4+2,none⟩=some (.int .i64 ys):=(hba.cell (p:=⟨b2,o2+k*4+2,none⟩) (cell_lt d2)).trans d2
   have f3:Wa.cell? ⟨b2,o2+k*4+3,none⟩=some (.int .i64 ya):=(hba.cell (p:=⟨b2,o2+k*4+3,none⟩) (cell_lt d3)).trans d3
   rw [hWa] at y5 f0 f1 f2 f3
   have HB2:=Lib.hid (two_rb (w:=wx) (A:=#[.int .i64 xp,.int .i64 xk,.int .i64 xs,.int .i64 xa]) (B:=#[.int .i64 yp,.int .i64 yk,.int .i64 ys,.int .i64 ya]) (T:=61) (U:=61))
   have HKx:=Lib.hid (after HK.out HB2.out.2.2)
   obtain ⟨Wb,hWb⟩:∃ x,x=(wx.alloc (.cells #[.int .i64 xp,.int .i64 xk,.int .i64 xs,.int .i64 xa] 61)).alloc (.cells #[.int .i64 yp,.int .i64 yk,.int .i64 ys,.int .i64 ya] 61):=⟨_,rfl⟩
   rw [<-hWb] at HB2 HKx
   have u0:Wb.cell? ⟨wx.heap.size,0,none⟩=some (.int .i64 xp):=HB2.out.1.cell
   have u1:Wb.cell? ⟨wx.heap.size,1,none⟩=some (.int .i64 xk):=HB2.out.1.cell
   have u3:Wb.cell? ⟨wx.heap.size,3,none⟩=some (.int .i64 xa):=HB2.out.1.cell
   have w0:Wb.cell? ⟨wx.heap.size+1,0,none⟩=some (.int .i64 yp):=HB2.out.2.1.cell
   have w1:Wb.cell? ⟨wx.heap.size+1,1,none⟩=some (.int .i64 yk):=HB2.out.2.1.cell
   have w3:Wb.cell? ⟨wx.heap.size+1,3,none⟩=some (.int .i64 ya):=HB2.out.2.1.cell
   rw [hWb] at u0 u1 u3 w0 w1 w3
   have HWb:=Lib.hid hWb.symm
   have hcs:(xp ≠ yp/\alR ⟨xp,xk,xs,xa⟩ ⟨yp,yk,ys,ya⟩=false)\/(xp=yp/\xk ≠ yk/\alR ⟨xp,xk,xs,xa⟩ ⟨yp,yk,ys,ya⟩=false)\/(xp=yp/\xk=yk/\xa ≠ ya/\alR ⟨xp,xk,xs,xa⟩ ⟨yp,yk,ys,ya⟩=false)\/(xp=yp/\xk=yk/\xa=ya/\alR ⟨xp,xk,xs,xa⟩ ⟨yp,yk,ys,ya⟩=true):=by
    unfold alR
    simp only []
    by_cases e1:xp=yp
    ·by_cases e2:xk=yk
     ·by_cases e3:xa=ya
      ·exact .inr (.inr (.inr ⟨e1,e2,e3,by simp [e1,e2,e3]⟩))
      ·exact .inr (.inr (.inl ⟨e1,e2,e3,by simp [e3]⟩))
     ·exact .inr (.inl ⟨e1,e2,by simp [e2]⟩)
    ·exact .inl ⟨e1,by simp [e1]⟩
   clear hbx hc1 hc2 hB1 hB2 hk1 hk2 hWa hba d0 d1 d2 d3 hWb hlt hk
   rcases hcs with ⟨e1,h⟩ | ⟨e1,e2,h⟩ | ⟨e1,e2,e3,h⟩ | ⟨e1,e2,e3,h⟩
   rotate_left 3
   ·have HA2:Hid (∀ (j:Nat) (r r':Rl),j < k+1->l[j]?=some r->l'[j]?=some r'->alR r r'=true):=Lib.hid (fun j r r' hj hr hr'=>by
     rcases Nat.lt_or_ge j k with h1 | h1
     ·exact HA.out j r r' h1 hr hr'
     ·have:j=k:=by omega
      subst this
      rw [HXx.out] at hr;cases hr
      rw [HYy.out] at hr';cases hr'
      exact h)
    have s1:(xp != yp)=false:=by simp [e1]
    have s2:(xk != yk)=false:=by simp [e2]
    have s3:(xa != ya)=false:=by simp [e3]
    clear e1 e2 e3 h
    go_wp2
    rw [HWb.out]
    go_roundw
    case rel=>exact ⟨k+1,_,rfl,by have:=HLT.out;omega,by go_num,HKx,HA2⟩
    case measure=>have:=HLT.out;simp [intOf];omega
   all_goals
    have HE:Hid (R=false):=Lib.hid (by
     rw [HR.out]
     cases ha:alRs l l'
     ·rfl
     ·have:=(HIff.out.1 ha) k _ _ HXx.out HYy.out
      rw [h] at this;cases this)
    have HBf:=Lib.hid (after HB0.out HKx.out)
    first
     | (have s1:(xp != yp)=true:=by simpa using e1)
     | (have s1:(xp != yp)=false:=by simp [e1])
    (try first
      | (have s2:(xk != yk)=true:=by simpa using e2)
      | (have s2:(xk != yk)=false:=by simp [e2]))
    (try (have s3:(xa != ya)=true:=by simpa using e3))
    (try clear e1)
    (try clear e2)
    (try clear e3)
    clear h
    go_wp2
    go_ret
    exact retB_bool HE.out.symm (by have:=HBf.out;rw [<-HWb.out] at this;exact this)
  ·have hnlt:¬ (k:Int) < (n:Int):=by omega
   have HE:Hid (R=true):=Lib.hid (by
    rw [HR.out]
    exact HIff.out.2 (fun j r r' hr hr'=>HA.out j r r' (by have:=(List.getElem?_eq_some_iff.1 hr).1;have:=HLn.out;omega) hr hr'))
   have HBf:=Lib.hid (after HB0.out HK.out)
   clear hk hlt
   go_wp2
   go_ret
   exact retB_bool HE.out.symm HBf.out
end Go.Proofs.YtbabckomagkjbaaGreatDoor
namespace Go.Proofs.YtbabckomagkjbaaGreatDoor
open Go.ChangeShapes Go.WideShapes Go.Deep Go.RowKit
theorem info_boolsG:(Tryz.prog.info? 29).map (fun i=>(i.zero,i.size,i.bytes))=some (some (.slice none 0 0),1,24):=by kernel_rfl
def gV (n g:Nat):Value:=.slice (some ⟨g,0,none⟩) n n
def enG (n:Nat) (g:Nat):List Value:=[gV n g]
theorem enG_flat (n:Nat) (l:List Nat):l.flatMap (enG n)=l.map (gV n):=by
 induction l with
 | nil=>rfl
 | cons x t ih=>rw [List.flatMap_cons,ih];rfl
structure UR (w u:World) (n:Nat) (Gs:List Nat) (U:List (List Bool)) (a:Option Addr) (c:Nat):Prop where
 oo:u.ownsRow w.heap.size 29 1 (.slice a Gs.length c) Gs.length (Gs.map (gV n))
 rr:∀ (i g:Nat) (r:List Bool),Gs[i]?=some g->U[i]?=some r->w.heap.size<=g/\RB u g (blA r) 4
 nd:Gs.Nodup
 ln:U.length=Gs.length
 kk:Below w.heap.size w u
theorem UR.nil (w:World) (n:Nat):UR w w n [] [] none 0:=⟨World.ownsRow_nil _ _ _ _,(fun i g r h=>by simp at h),List.nodup_nil,rfl,Below.refl _ _⟩
theorem owns_same2 {w w':World} {base:Nat} {e:TypeId} {size:Nat} {v:Value} {n:Nat} {xs:List Value} (h:w.ownsRow base e size v n xs) (hk:∀ g,v.ownBlock=some g->w'.heap[g]?=w.heap[g]?):w'.ownsRow base e size v n xs:=by
 refine ⟨h.1,?_⟩
 rcases h.2 with hn | ⟨g,cap,cur,rfl,hbg,hgg,rest⟩
 ·exact .inl hn
 ·exact .inr ⟨g,cap,cur,rfl,hbg,(hk g rfl).trans hgg,rest⟩
theorem UR.next {w u v:World} {n:Nat} {Gs:List Nat} {U:List (List Bool)} {a:Option Addr} {c:Nat} (h:UR w u n Gs U a c) (hb:Below u.heap.size u v):UR w v n Gs U a c:=
 ⟨owns_same2 h.oo (fun g hg=>hb.block g (h.oo.lt g hg).2),fun i g r hg hr=>⟨(h.rr i g r hg hr).1,(h.rr i g r hg hr).2.next hb⟩,h.nd,h.ln,after h.kk hb⟩
theorem UR.row {w u:World} {n:Nat} {Gs:List Nat} {U:List (List Bool)} {a:Option Addr} {c i g:Nat} (h:UR w u n Gs U a c) (hg:Gs[i]?=some g):∃ ob,a=some ⟨ob,0,none⟩/\u.cell? ⟨ob,i,none⟩=some (.slice (some ⟨g,0,none⟩) n n):=by
 have hi:=(List.getElem?_eq_some_iff.1 hg).1
 have hx:=(List.getElem?_eq_some_iff.1 hg).2
 rcases h.oo.2 with ⟨hv,h0⟩ | ⟨ob,cap,cur,hv,hb,hgg,h1,h2,h3,h4⟩
 ·omega
 ·injection hv with e1 e2 e3
  subst e1
  refine ⟨ob,rfl,?_⟩
  have:=h.oo.cellAt i (by omega)
  have hw:=this
  rw [hw,List.getElem?_map,hg]
  rfl
theorem UR.put {w u:World} {n:Nat} {Gs:List Nat} {U:List (List Bool)} {a:Option Addr} {c i g k:Nat} {r:List Bool} (h:UR w u n Gs U a c) (hg:Gs[i]?=some g) (hr:U[i]?=some r):UR w (u.setCell ⟨g,k,none⟩ (.bool true)) n Gs (setU U i k) a c:=by
 obtain ⟨h1,h2⟩:=h.rr i g r hg hr
 have hi:=(List.getElem?_eq_some_iff.1 hr).1
 refine ⟨owns_same2 h.oo (fun g' hg'=>Below.heap_setCell _ _ _ _ (fun e=>?_)),fun i' g' r' hg' hr'=>?_,h.nd,by unfold setU;rw [List.length_set];exact h.ln,h.kk.setCell (p:=⟨g,k,none⟩) h1 _⟩
 ·rcases h.oo.2 with ⟨hv,h0⟩ | ⟨ob,cap,cur,hv,hb,hgg,-⟩
  ·rw [hv] at hg';cases hg'
  ·rw [hv] at hg'
   simp only [Value.ownBlock,Option.some.injEq] at hg'
   have e:g'=g:=e
   rw [<-hg'] at e
   rw [e] at hgg
   unfold RB at h2
   rw [h2] at hgg
   simp only [Option.some.injEq,Obj.cells.injEq] at hgg
   exact absurd hgg.2.1 (by decide)
 ·unfold setU at hr'
  rw [hr,Option.getD_some] at hr'
  by_cases e:i'=i
  ·subst e
   rw [hg] at hg';cases hg'
   rw [List.getElem?_set_self hi] at hr'
   cases hr'
   refine ⟨h1,?_⟩
   have:=h2.set (j:=k) (.bool true)
   rw [blA_set] at this
   exact this
  ·rw [List.getElem?_set_ne (fun z=>e z.symm)] at hr'
   obtain ⟨h3,h4⟩:=h.rr i' g' r' hg' hr'
   refine ⟨h3,?_⟩
   have hne:g' ≠ g:=by
    intro z
    subst z
    obtain ⟨l1,e1⟩:=List.getElem?_eq_some_iff.1 hg
    obtain ⟨l2,e2⟩:=List.getElem?_eq_some_iff.1 hg'
    rcases Nat.lt_or_ge i i' with h5 | h5
    ·exact List.pairwise_iff_getElem.1 h.nd i i' l1 l2 h5 (e1.trans e2.symm)
    ·exact List.pairwise_iff_getElem.1 h.nd i' i l2 l1 (by omega) (e2.trans e1.symm)
   exact (Below.heap_setCell _ _ _ _ hne).trans h4
theorem UR.grow {w u w2:World} {n:Nat} {Gs:List Nat} {U:List (List Bool)} {a a':Option Addr} {c c' g:Nat} {r:List Bool} (h:UR w u n Gs U a c) (hr:RB u g (blA r) 4) (hg:w.heap.size<=g) (hn:g ∉ Gs) (hown:w2.ownsRow w.heap.size 29 1 (.slice a' (Gs.length+1) c') (Gs.length+1) (Gs.map (gV n) ++ [gV n g]))
  (hgrow:(u.alloc (.cells #[gV n g] 29)).grownBy w2 (Value.slice a Gs.length c).ownBlock):UR w w2 n (Gs ++ [g]) (U ++ [r]) a' c':=by
 have key:∀ g' r',RB u g' (blA r') 4->RB w2 g' (blA r') 4:=by
  intro g' r' h'
  have hl:=lt_of_block h'
  have h2:RB (u.alloc (.cells #[gV n g] 29)) g' (blA r') 4:=h'.next (lit_below _ _)
  refine (hgrow.block g' (by rw [World.size_alloc];omega) (fun e=>?_)).trans h2
  rcases h.oo.2 with ⟨hv,h0⟩ | ⟨ob,cap,cur,hv,hb,hgg,-⟩
  ·rw [hv] at e;cases e
  ·rw [hv] at e
   simp only [Value.ownBlock,Option.some.injEq] at e
   rw [<-e] at hgg
   unfold RB at h'
   rw [h'] at hgg
   simp only [Option.some.injEq,Obj.cells.injEq] at hgg
   exact absurd hgg.2.1 (by decide)
 refine ⟨by simpa using hown,fun i g' r' hg' hr'=>?_,?_,by simp [h.ln],(h.kk.alloc h.kk.size _).grown hgrow (by have:=h.kk.size;rw [World.size_alloc];omega) (fun j hj=>(h.oo.lt j hj).1)⟩
 ·by_cases hi:i < Gs.length
  ·rw [List.getElem?_append_left hi] at hg'
   rw [List.getElem?_append_left (by rw [h.ln];exact hi)] at hr'
   obtain ⟨h1,h2⟩:=h.rr i g' r' hg' hr'
   exact ⟨h1,key _ _ h2⟩
  ·rw [List.getElem?_append_right (by omega)] at hg'
   rw [List.getElem?_append_right (by rw [h.ln];omega)] at hr'
   obtain ⟨e1,e2⟩:i - Gs.length=0/\i - U.length=0:=by
    have:=(List.getElem?_eq_some_iff.1 hg').1
    simp at this
    rw [h.ln];omega
   rw [e1] at hg'
   rw [e2] at hr'
   cases hg';cases hr'
   exact ⟨hg,key _ _ hr⟩
 ·rw [List.nodup_append]
  exact ⟨h.nd,List.pairwise_singleton _ _,fun x hx y hy=>by rw [List.mem_singleton.1 hy];intro e;exact hn (e ▸ hx)⟩
structure UcI (S:List Sc) (ins:List Bool) (P:List Int) (U0 U:List (List Bool)) (tb:Bool) (i k q:Nat):Prop where
 un:UnI S ins P U
 cnt:leftU U<=leftU U0
 trn:tb=true->leftU U < leftU U0
 cls:tb=false->∀ (i' k':Nat) (s t:Sc),S[i']?=some s->S[k']?=some t->unG U i' k'=false->∀ (q':Nat) (r r':Rl),s.rels[q']?=some r->t.rels[q']?=some r'->(i' < i\/(i'=i/\(k' < k\/(k'=k/\q' < q))))->unG U r.sym.toNat r'.sym.toNat=false
theorem UcI.first {S:List Sc} {ins:List Bool} {P:List Int} {U:List (List Bool)} (h:UnI S ins P U):UcI S ins P U U false 0 0 0:=⟨h,Nat.le_refl _,(fun h=>by cases h),fun _ i' k' s t _ _ _ q' r r' _ _ hc=>by omega⟩
theorem UcI.skip {S:List Sc} {ins:List Bool} {P:List Int} {U0 U:List (List Bool)} {tb:Bool} {i k q:Nat} {s t:Sc} {r r':Rl} (h:UcI S ins P U0 U tb i k q) (hs:S[i]?=some s) (ht:S[k]?=some t) (hr:s.rels[q]?=some r) (hr':t.rels[q]?=some r') (hf:unG U r.sym.toNat r'.sym.toNat=false):UcI S ins P U0 U tb i k (q+1):=by
 refine ⟨h.un,h.cnt,h.trn,fun hb i' k' s' t' hs' ht' hu q' x x' hx hx' hc=>?_⟩
 by_cases e:i'=i/\k'=k/\q'=q
 ·obtain ⟨rfl,rfl,rfl⟩:=e
  rw [hs] at hs';cases hs'
  rw [ht] at ht';cases ht'
  rw [hr] at hx;cases hx
  rw [hr'] at hx';cases hx'
  exact hf
 ·exact h.cls hb i' k' s' t' hs' ht' hu q' x x' hx hx' (by omega)
theorem UcI.put {S:List Sc} {ins:List Bool} {j:Nat} {U0 U:List (List Bool)} {tb:Bool} {i k q:Nat} {s t:Sc} {r r':Rl} (hu:unitsR S=true) (hin:ins.length=S.length) (hfx:nextP S ins (foldN S ins j)=foldN S ins j) (h:UcI S ins (endL ins (foldN S ins j)) U0 U tb i k q) (hs:S[i]?=some s) (ht:S[k]?=some t) (hr:s.rels[q]?=some r) (hr':t.rels[q]?=some r') (hf:unG U i k=false) (hU:unG U r.sym.toNat r'.sym.toNat=true):UcI S ins (endL ins (foldN S ins j)) U0 (setU U i k) true i k (q+1):=by
 have hi:=(List.getElem?_eq_some_iff.1 hs).1
 have hk:=(List.getElem?_eq_some_iff.1 ht).1
 have h1:=leftU_one h.un.sq hi hk hf
 have h2:=h.cnt
 exact ⟨h.un.put hu hin hfx hs ht hr hr' hU,by omega,fun _=>by omega,(fun h=>by cases h)⟩
theorem UcI.cell {S:List Sc} {ins:List Bool} {P:List Int} {U0 U:List (List Bool)} {tb:Bool} {i k q:Nat} {s:Sc} (h:UcI S ins P U0 U tb i k q) (hs:S[i]?=some s) (hc:unG U i k=true\/s.rels.length<=q):UcI S ins P U0 U tb i (k+1) 0:=by
 refine ⟨h.un,h.cnt,h.trn,fun hb i' k' s' t' hs' ht' hu q' x x' hx hx' hc'=>?_⟩
 by_cases e:i'=i/\k'=k
 ·obtain ⟨rfl,rfl⟩:=e
  rcases hc with hc | hc
  ·rw [hc] at hu;cases hu
  ·rw [hs] at hs';cases hs'
   have:=(List.getElem?_eq_some_iff.1 hx).1
   exact h.cls hb i' k' s t' hs ht' hu q' x x' hx hx' (by omega)
 ·exact h.cls hb i' k' s' t' hs' ht' hu q' x x' hx hx' (by omega)
theorem UcI.row {S:List Sc} {ins:List Bool} {P:List Int} {U0 U:List (List Bool)} {tb:Bool} {i k:Nat} (h:UcI S ins P U0 U tb i k 0) (hk:S.length<=k):UcI S ins P U0 U tb (i+1) 0 0:=by
 refine ⟨h.un,h.cnt,h.trn,fun hb i' k' s' t' hs' ht' hu q' x x' hx hx' hc'=>?_⟩
 have:=(List.getElem?_eq_some_iff.1 ht').1
 exact h.cls hb i' k' s' t' hs' ht' hu q' x x' hx hx' (by omega)
theorem UcI.done {S:List Sc} {ins:List Bool} {P:List Int} {U0 U:List (List Bool)} {i:Nat} (h:UcI S ins P U0 U false i 0 0) (hi:S.length<=i):ClosedU S U:=by
 intro a b s t hs ht hu q r r' hr hr'
 have:=(List.getElem?_eq_some_iff.1 hs).1
 exact h.cls rfl a b s t hs ht hu q r r' hr hr' (by omega)
def countG (w:World) (Gs:List Nat):Nat:=(Gs.map (fun g=>match w.heap[g]? with | some (.cells cs _ _)=>cs.toList.countP (fun v=>match v with | .bool false=>true | _=>false) | _=>0)).sum
theorem countP_bl (r:List Bool):((r.map Value.bool).toArray.toList).countP (fun v=>match v with | .bool false=>true | _=>false)=r.count false:=by
 rw [List.toList_toArray,List.countP_map,List.count_eq_countP]
 congr 1
 funext b
 cases b <;> rfl
theorem countG_is {w u:World} {n:Nat} {Gs:List Nat} {U:List (List Bool)} {a:Option Addr} {c:Nat} (h:UR w u n Gs U a c):countG u Gs=leftU U:=by
 unfold countG leftU
 congr 1
 apply List.ext_getElem?
 intro i
 rw [List.getElem?_map,List.getElem?_map]
 by_cases hi:i < Gs.length
 ·have h1:=List.getElem?_eq_getElem hi
  have h2:=List.getElem?_eq_getElem (show i < U.length by rw [h.ln];exact hi)
  obtain ⟨-,h3⟩:=h.rr i _ _ h1 h2
  unfold RB at h3
  rw [h1,h2,Option.map_some,Option.map_some,h3]
  congr 1
  exact countP_bl _
 ·rw [List.getElem?_eq_none (by omega),List.getElem?_eq_none (by rw [h.ln];omega)];rfl
def ApartP (S:List Sc) (ins:List Bool) (P:List Int) (n:Nat) (w:World) (e:Ending) (w':World):Prop:=∃ (a:Option Addr) (c:Nat) (Gs:List Nat) (U:List (List Bool)),e=.returned (.slice a n c)/\Gs.length=n/\UR w w' n Gs U a c/\UnI S ins P U/\ClosedU S U
theorem ms_at {w:World} {a:Option Addr} {n:Nat} {L:List Ms} (hs:SL msC 6 w w.heap.size a n L) {i:Nat} {m:Ms} (h:L[i]?=some m):∃ b off,a=some ⟨b,off,none⟩/\∀ v,Below w.heap.size w v->v.cell? ⟨b,off+i*6,none⟩=some (.string ⟨m.sc.name.toArray⟩)/\v.cell? ⟨b,off+i*6+1,none⟩=some (.int .i64 m.sc.kind)/\v.cell? ⟨b,off+i*6+2,none⟩=some (.bool m.sc.keep)/\v.cell? ⟨b,off+i*6+3,none⟩=some (.int .i64 m.sc.align)/\v.cell? ⟨b,off+i*6+4,none⟩=some (.string ⟨m.sc.data.toArray⟩)/\v.cell? ⟨b,off+i*6+5,none⟩=some (.slice m.ad m.sc.rels.length m.cap):=by
 have hi:=(List.getElem?_eq_some_iff.1 h).1
 have he:=(List.getElem?_eq_some_iff.1 h).2
 obtain ⟨b,off,e,-,-⟩:=hs.cells (hs.ne (by rw [hs.len];exact hi))
 subst e
 refine ⟨b,off,rfl,fun v hv=>?_⟩
 obtain ⟨b',off',e,-,hc⟩:=(hs.next hv).cells ((hs.next hv).ne (by rw [hs.len];exact hi))
 injection e with e
 injection e with e1 e2
 subst e1 e2
 have:=ms_cells (fun j hj=>hc i hi j hj)
 rw [he] at this
 exact this
theorem rl_at {w:World} {a:Option Addr} {n:Nat} {l:List Rl} (hs:SL rlC 4 w w.heap.size a n l) {q:Nat} {r:Rl} (h:l[q]?=some r):∃ b off,a=some ⟨b,off,none⟩/\∀ v,Below w.heap.size w v->v.cell? ⟨b,off+q*4+2,none⟩=some (.int .i64 r.sym):=by
 have hi:=(List.getElem?_eq_some_iff.1 h).1
 have he:=(List.getElem?_eq_some_iff.1 h).2
 obtain ⟨b,off,e,-,-⟩:=hs.cells (hs.ne (by rw [hs.len];exact hi))
 subst e
 refine ⟨b,off,rfl,fun v hv=>?_⟩
 obtain ⟨b',off',e,-,hc⟩:=(hs.next hv).cells ((hs.next hv).ne (by rw [hs.len];exact hi))
 injection e with e
 injection e with e1 e2
 subst e1 e2
 have:=(rl_cells (fun j hj=>hc q hi j hj)).2.2.1
 rw [he] at this
 exact this
theorem rowZ {S:List Sc} {ins:List Bool} {un i k:Nat} {x:List Bool} {b:Bool} (h:x.length=un/\∀ q,q < k->x[q]?=some (unZ S ins i q)) (hk:k < un) (hb:b=unZ S ins i k):(x.set k b).length=un/\∀ q,q < k+1->(x.set k b)[q]?=some (unZ S ins i q):=by
 refine ⟨by rw [List.length_set];exact h.1,fun q hq=>?_⟩
 by_cases e:q=k
 ·subst e
  rw [List.getElem?_set_self (by rw [h.1];exact hk),hb]
 ·rw [List.getElem?_set_ne (fun z=>e z.symm)]
  exact h.2 q (by omega)
structure ApI (S:List Sc) (ins:List Bool) (i:Nat) (U:List (List Bool)):Prop where
 ln:U.length=i
 sq:∀ r ∈ U,r.length=S.length
 eq:∀ a b,a < i->b < S.length->unG U a b=unZ S ins a b
theorem ApI.grow {S:List Sc} {ins:List Bool} {i un:Nat} {U:List (List Bool)} {x:List Bool} (h:ApI S ins i U) (hn:S.length=un) (hx:x.length=un/\∀ q,q < un->x[q]?=some (unZ S ins i q)):ApI S ins (i+1) (U ++ [x]):=by
 refine ⟨by simp [h.ln],fun r hr=>?_,fun a b ha hb=>?_⟩
 ·rcases List.mem_append.1 hr with h1 | h1
  ·exact h.sq r h1
  ·rw [List.mem_singleton.1 h1,hx.1,hn]
 ·by_cases e:a=i
  ·subst e
   unfold unG
   rw [List.getElem?_append_right (by rw [h.ln];omega),h.ln,Nat.sub_self]
   simp only [List.getElem?_cons_zero,Option.getD_some]
   rw [hx.2 b (by omega)];rfl
  ·rw [<-h.eq a b (by omega) hb]
   unfold unG
   rw [List.getElem?_append_left (by rw [h.ln];omega)]
theorem ApI.un {S:List Sc} {ins:List Bool} {j:Nat} {U:List (List Bool)} (h:ApI S ins S.length U) (hu:unitsR S=true) (hin:ins.length=S.length) (hfx:nextP S ins (foldN S ins j)=foldN S ins j):UnI S ins (endL ins (foldN S ins j)) U:=
 unI_start hu hin hfx ⟨h.ln,h.sq⟩ (fun i k hi hk=>h.eq i k hi hk)
theorem rApart_any (ua:Option Addr) (un uc:Nat) (L:List Ms) (ia:Option Addr) (ic:Nat) (ins:List Bool) (j:Nat) (w:World) (hs:SL msC 6 w w.heap.size ua un L) (hno:Notes w w.heap.size L) (hu:unitsR (L.map (·.sc))=true) (hi:SL enB 1 w w.heap.size ia un ins) (hfx:nextP (L.map (·.sc)) ins (foldN (L.map (·.sc)) ins j)=foldN (L.map (·.sc)) ins j):
  Calls Tryz.prog 56 #[.slice ua un uc,.slice ia un ic] w (ApartP (L.map (·.sc)) ins (endL ins (foldN (L.map (·.sc)) ins j)) un w):=by
 have hlen:(L.map (·.sc)).length=un:=by rw [List.length_map];exact hs.len.symm
 have hun:un<=256:=by rw [<-hlen];exact units_len hu
 have hni:(un:Int)<=256:=by omega
 have hmk:=make_bools un (by omega)
 obtain ⟨S,hS⟩:∃ S,S=L.map (·.sc):=⟨_,rfl⟩
 have HLS:Hid (∀ (i:Nat) (m:Ms),L[i]?=some m->S[i]?=some m.sc):=Lib.hid (fun i m h=>by rw [hS,List.getElem?_map,h];rfl)
 have HLL:=Lib.hid hs.len
 rw [<-hS] at hlen hu hfx ⊢
 have HLn:=Lib.hid hlen
 have HIn:Hid (ins.length=S.length):=Lib.hid (by rw [hlen];exact hi.len.symm)
 have HUn:=Lib.hid hun
 have HU:=Lib.hid hu
 have HFx:=Lib.hid hfx
 have HMs:=Lib.hid hs
 have HIs:=Lib.hid hi
 have HNo:=Lib.hid hno
 obtain ⟨i0,hgi,hz0,hz1,hz2⟩:=info_parts info_boolsG
 have HO0:Hid (UR w w un [] [] none 0):=Lib.hid (UR.nil w un)
 have HA0:Hid (ApI S ins 0 []):=Lib.hid ⟨rfl,fun r h=>(by cases h),fun a b h=>(by omega)⟩
 clear hs hno hu hi hfx hlen hun hS
 go_enter Tryz.func56,Tryz.ntmps56
 go_wp2_with fail
 go_loopw [5,6] (fun ov iv wr=>∃ (i:Nat) (wx:World) (Gs:List Nat) (U:List (List Bool)) (a:Option Addr) (c:Nat),wx=wr/\i<=un/\ov=.slice a i c/\iv=.int .i64 i/\Hid (Gs.length=i)/\Hid (UR w wx un Gs U a c)/\Hid (ApI S ins i U)) (fun _ iv _=>un - (intOf iv).toNat)
 case atStart=>exact ⟨0,_,[],[],none,0,rfl,by omega,rfl,rfl,Lib.hid rfl,HO0,HA0⟩
 case round=>
  clear HO0 HA0
  obtain ⟨i,wx,Gs,U,a,c,rfl,hi,rfl,rfl,HGn,HO,HAp⟩:=hrel
  by_cases hlt:i < un
  ·have hlti:(i:Int) < (un:Int):=by omega
   have HLT:=Lib.hid hlt
   obtain ⟨g,hg⟩:∃ x,x=wx.heap.size:=⟨_,rfl⟩
   obtain ⟨V,hV⟩:∃ x,x=wx.alloc (.cells (blA (List.replicate un false)) 4):=⟨_,rfl⟩
   have HGx:Hid (wx.heap.size<=g):=Lib.hid (by omega)
   have HGl:Hid (w.heap.size<=g):=Lib.hid (by rw [hg];exact HO.out.kk.size)
   have HB:Hid (Below wx.heap.size wx V):=Lib.hid (by rw [hV];exact lit_below _ _)
   have HG:Hid (RB V g (blA (List.replicate un false)) 4):=Lib.hid (by rw [hV,hg];exact rb_new _ _ _)
   have HX:Hid ((List.replicate un false).length=un/\∀ q,q < 0->(List.replicate un false)[q]?=some (unZ S ins i q)):=Lib.hid ⟨List.length_replicate,fun q h=>(by omega)⟩
   have HVE:Hid (wx.alloc (.cells (blA (List.replicate un false)) 4)=V):=Lib.hid hV.symm
   have HGe:=Lib.hid hg
   have hk1:i < L.length:=by have:=HLL.out;omega
   have HMi:Hid (L[i]?=some L[i]):=Lib.hid (List.getElem?_eq_getElem hk1)
   generalize L[i]'hk1=m at HMi
   obtain ⟨b,off,hua,hcs⟩:=ms_at HMs.out HMi.out
   have HSi:=Lib.hid (HLS.out _ _ HMi.out)
   obtain ⟨⟨nm,ki,kp,al,dt,rl⟩,ad,cp⟩:=m
   simp only at hcs HSi
   obtain ⟨bi,hbi⟩:∃ x,ins[i]?=some x:=⟨_,List.getElem?_eq_getElem (by rw [HIn.out,HLn.out];exact hlt)⟩
   obtain ⟨pb,po,hia,-,-⟩:=HIs.out.cells (by intro e;rw [e] at hbi;cases hbi)
   subst hua hia
   obtain ⟨N,hN⟩:∃ x:ByteArray,x=⟨nm.toArray⟩:=⟨_,rfl⟩
   obtain ⟨D,hD⟩:∃ x:ByteArray,x=⟨dt.toArray⟩:=⟨_,rfl⟩
   have HDd:Hid (D.data.toList=dt):=Lib.hid (by rw [hD])
   rw [<-hN,<-hD] at hcs
   obtain ⟨nr,hnr⟩:∃ nr,nr=rl.length:=⟨_,rfl⟩
   rw [<-hnr] at hcs
   have HNr:=Lib.hid hnr
   have HCi:=Lib.hid hcs
   have HBi:=Lib.hid hbi
   clear hV hg hlt hi hk1 hcs hbi hN hD hnr
   go_wp2_with fail
   rw [HVE.out,<-HGe.out]
   go_loopw [8] (fun kv wr=>∃ (k:Nat) (wy:World) (x:List Bool),wy=wr/\k<=un/\kv=.int .i64 k/\Hid (Below wx.heap.size wx wy)/\Hid (RB wy g (blA x) 4)/\Hid (x.length=un/\∀ q,q < k->x[q]?=some (unZ S ins i q))) (fun kv _=>un - (intOf kv).toNat)
   case atStart=>exact ⟨0,_,_,rfl,by omega,rfl,HB,HG,HX⟩
   case round=>
    clear HB HG HX HVE hmk
    obtain ⟨k,wy,x,rfl,hk,rfl,HB,HG,HX⟩:=hrel
    by_cases hltk:k < un
    ·have hltki:(k:Int) < (un:Int):=by omega
     have hlti':(i:Int) < (un:Int):=hlti
     have HLTk:=Lib.hid hltk
     have hk1:k < L.length:=by have:=HLL.out;omega
     have HMk:Hid (L[k]?=some L[k]):=Lib.hid (List.getElem?_eq_getElem hk1)
     generalize L[k]'hk1=m at HMk
     obtain ⟨b',off',hua',hcs⟩:=ms_at HMs.out HMk.out
     injection hua' with e
     injection e with e1 e2
     subst e1 e2
     have HSk:=Lib.hid (HLS.out _ _ HMk.out)
     obtain ⟨⟨nm',ki',kp',al',dt',rl'⟩,ad',cp'⟩:=m
     simp only at hcs HSk
     obtain ⟨N',hN⟩:∃ x:ByteArray,x=⟨nm'.toArray⟩:=⟨_,rfl⟩
     obtain ⟨D',hD⟩:∃ x:ByteArray,x=⟨dt'.toArray⟩:=⟨_,rfl⟩
     have HDd':Hid (D'.data.toList=dt'):=Lib.hid (by rw [hD])
     rw [<-hN,<-hD] at hcs
     obtain ⟨nr',hnr⟩:∃ nr,nr=rl'.length:=⟨_,rfl⟩
     rw [<-hnr] at hcs
     obtain ⟨bk,hbk⟩:∃ x,ins[k]?=some x:=⟨_,List.getElem?_eq_getElem (by rw [HIn.out,HLn.out];exact hltk)⟩
     obtain ⟨R,hR⟩:∃ R,R=alikeB ⟨nm,ki,kp,al,dt,rl⟩ ⟨nm',ki',kp',al',dt',rl'⟩:=⟨_,rfl⟩
     have HZ:Hid (unZ S ins i k=(decide (i ≠ k) && (!bi || !bk || !R))):=Lib.hid (by unfold unZ;rw [HSi.out,HSk.out,HBi.out,hbk,hR];rfl)
     have HAl:Hid (∀ v,Below w.heap.size w v->Calls Tryz.prog 26 #[.agg (uCe N ki kp al D ad nr cp),.agg (uCe N' ki' kp' al' D' ad' nr' cp')] v (RetB (.bool R) v)):=Lib.hid (fun v hv=>by
      rw [hR,<-HDd.out,<-HDd'.out,hnr,HNr.out]
      have h1:=units_sec HU.out HSi.out
      have h2:=units_sec HU.out HSk.out
      have r1:=h1.1.rels
      have r2:=h2.1.rels
      simp only at r1 r2
      exact rAlike_any N D N' D' ki ki' al al' kp kp' ad ad' rl.length rl'.length cp cp' rl rl' v (by unfold maxLen;omega) (by unfold maxLen;omega) ((HNo.out _ (List.mem_of_getElem? HMi.out)).next hv) ((HNo.out _ (List.mem_of_getElem? HMk.out)).next hv) nm nm')
     have HcX:Hid (∀ v,Below w.heap.size w v->v.cell? ⟨b,off+i*6,none⟩=some (.string N)/\v.cell? ⟨b,off+i*6+1,none⟩=some (.int .i64 ki)/\v.cell? ⟨b,off+i*6+2,none⟩=some (.bool kp)/\v.cell? ⟨b,off+i*6+3,none⟩=some (.int .i64 al)/\v.cell? ⟨b,off+i*6+4,none⟩=some (.string D)/\v.cell? ⟨b,off+i*6+5,none⟩=some (.slice ad nr cp)/\v.cell? ⟨b,off+k*6,none⟩=some (.string N')/\v.cell? ⟨b,off+k*6+1,none⟩=some (.int .i64 ki')/\v.cell? ⟨b,off+k*6+2,none⟩=some (.bool kp')/\v.cell? ⟨b,off+k*6+3,none⟩=some (.int .i64 al')/\v.cell? ⟨b,off+k*6+4,none⟩=some (.string D')/\v.cell? ⟨b,off+k*6+5,none⟩=some (.slice ad' nr' cp')/\v.cell? ⟨pb,po+i,none⟩=some (.bool bi)/\v.cell? ⟨pb,po+k,none⟩=some (.bool bk)):=Lib.hid (fun v hv=>by
      obtain ⟨c0,c1,c2,c3,c4,c5⟩:=HCi.out v hv
      obtain ⟨d0,d1,d2,d3,d4,d5⟩:=hcs v hv
      exact ⟨c0,c1,c2,c3,c4,c5,d0,d1,d2,d3,d4,d5,bools_cells HIs.out hv HBi.out,bools_cells HIs.out hv hbk⟩)
     obtain ⟨v0,hv0⟩:∃ x,x=wy.drew:=⟨_,rfl⟩
     have hbd:Below wy.heap.size wy v0:=by rw [hv0];exact (Below.refl _ _).drew
     have HBx:=Lib.hid (after HB.out hbd)
     have HBw:=Lib.hid (after HO.out.kk HBx.out)
     have HG0:=Lib.hid (HG.out.next hbd)
     have HV0:Hid (wy.drew=v0):=Lib.hid hv0.symm
     obtain ⟨c0,c1,c2,c3,c4,c5,d0,d1,d2,d3,d4,d5,j0,j1⟩:=HcX.out wy (after HO.out.kk HB.out)
     have hcc:i=k\/(i ≠ k/\bi=false)\/(i ≠ k/\bi=true/\bk=false)\/(i ≠ k/\bi=true/\bk=true):=by
      by_cases e:i=k
      ·exact .inl e
      ·cases bi
       ·exact .inr (.inl ⟨e,rfl⟩)
       ·cases bk
        ·exact .inr (.inr (.inl ⟨e,rfl,rfl⟩))
        ·exact .inr (.inr (.inr ⟨e,rfl,rfl⟩))
     have HBk:=Lib.hid hbk
     clear hk hltk hk1 hcs hN hD hnr hbk hR hv0 hbd c0 c1 c2 c3 c4 c5 d0 d1 d2 d3 d4 d5 j0 j1
     rcases hcc with he | ⟨he,hbe⟩ | ⟨he,hbe,hbe'⟩ | ⟨he,hbe,hbe'⟩
     ·have tik:((i:Int) != (k:Int))=false:=by simp [he]
      have HIK:=Lib.hid he
      clear he
      have HRz:Hid (false=unZ S ins i k):=Lib.hid (by rw [HZ.out,HIK.out];simp)
      go_wp2_with fail
      refine wp_region_held_drew (S:=fun v=>v.cell? ⟨b,off+i*6,none⟩=some (.string N)/\v.cell? ⟨b,off+i*6+1,none⟩=some (.int .i64 ki)/\v.cell? ⟨b,off+i*6+2,none⟩=some (.bool kp)/\v.cell? ⟨b,off+i*6+3,none⟩=some (.int .i64 al)/\v.cell? ⟨b,off+i*6+4,none⟩=some (.string D)/\v.cell? ⟨b,off+i*6+5,none⟩=some (.slice ad nr cp)/\v.cell? ⟨b,off+k*6,none⟩=some (.string N')/\v.cell? ⟨b,off+k*6+1,none⟩=some (.int .i64 ki')/\v.cell? ⟨b,off+k*6+2,none⟩=some (.bool kp')/\v.cell? ⟨b,off+k*6+3,none⟩=some (.int .i64 al')/\v.cell? ⟨b,off+k*6+4,none⟩=some (.string D')/\v.cell? ⟨b,off+k*6+5,none⟩=some (.slice ad' nr' cp')/\v.cell? ⟨pb,po+i,none⟩=some (.bool bi)/\v.cell? ⟨pb,po+k,none⟩=some (.bool bk)) (by kernel_rfl) (by rw [HV0.out];exact HcX.out _ HBw.out) (fun hHeld=>?_)
      rw [HV0.out]
      have hHeld0:=HcX.out _ HBw.out
      clear hHeld
      refine tk 0 ?_ rfl hHeld0 ?_ ?_
      rotate_left 1
      ·intro w hS;obtain ⟨_,_,_,_,_,_,_,_,_,_,_,_,_,_⟩:=hS;go_simp;(try with_reducible rfl)
      (try simp only [Act.put,List.setIfInBounds_toArray,List.set_cons_zero,List.set_cons_succ])
      refine tk 1 ?_ rfl hHeld0 ?_ ?_
      rotate_left 1
      ·intro w hS;obtain ⟨_,_,_,_,_,_,_,_,_,_,_,_,_,_⟩:=hS;go_simp;(try with_reducible rfl)
      (try simp only [Act.put,List.setIfInBounds_toArray,List.set_cons_zero,List.set_cons_succ])
      refine tk 2 ?_ rfl hHeld0 ?_ ?_
      rotate_left 1
      ·intro w hS;obtain ⟨_,_,_,_,_,_,_,_,_,_,_,_,_,_⟩:=hS;go_simp;(try with_reducible rfl)
      (try simp only [Act.put,List.setIfInBounds_toArray,List.set_cons_zero,List.set_cons_succ])
      refine tk 3 ?_ rfl hHeld0 ?_ ?_
      rotate_left 1
      ·intro w hS;obtain ⟨_,_,_,_,_,_,_,_,_,_,_,_,_,_⟩:=hS;go_simp;(try with_reducible rfl)
      (try simp only [Act.put,List.setIfInBounds_toArray,List.set_cons_zero,List.set_cons_succ])
      refine tk 4 ?_ rfl hHeld0 ?_ ?_
      rotate_left 1
      ·intro w hS;obtain ⟨_,_,_,_,_,_,_,_,_,_,_,_,_,_⟩:=hS;go_simp;(try with_reducible rfl)
      (try simp only [Act.put,List.setIfInBounds_toArray,List.set_cons_zero,List.set_cons_succ])
      refine tk 5 ?_ rfl hHeld0 ?_ ?_
      rotate_left 1
      ·intro w hS;obtain ⟨_,_,_,_,_,_,_,_,_,_,_,_,_,_⟩:=hS;go_simp;(try with_reducible rfl)
      (try simp only [Act.put,List.setIfInBounds_toArray,List.set_cons_zero,List.set_cons_succ])
      refine sk 6 rfl hHeld0 ?_
      refine sk 7 rfl hHeld0 ?_
      refine sk 8 rfl hHeld0 ?_
      refine sk 9 rfl hHeld0 ?_
      refine sk 10 rfl hHeld0 ?_
      refine sk 11 rfl hHeld0 ?_
      refine sk 12 rfl hHeld0 ?_
      refine sk 13 rfl hHeld0 ?_
      refine sk 14 rfl hHeld0 ?_
      refine sk 15 rfl hHeld0 ?_
      refine sk 16 rfl hHeld0 ?_
      refine sk 17 rfl hHeld0 ?_
      refine sk 18 rfl hHeld0 ?_
      refine sk 19 rfl hHeld0 ?_
      refine sk 20 rfl hHeld0 ?_
      refine sk 21 rfl hHeld0 ?_
      refine sk 22 rfl hHeld0 ?_
      refine sk 23 rfl hHeld0 ?_
      refine sk 24 rfl hHeld0 ?_
      refine sk 25 rfl hHeld0 ?_
      refine sk 26 rfl hHeld0 ?_
      refine sk 27 rfl hHeld0 ?_
      refine sk 28 rfl hHeld0 ?_
      refine sk 29 rfl hHeld0 ?_
      (try simp only [Act.put,List.setIfInBounds_toArray,List.set_cons_zero,List.set_cons_succ])
      refine rd 30 rfl (fun K hK=>?_)
      go_simp
      refine hK.out _ _ (HcX.out _ HBw.out) (fun hHeld4=>?_)
      clear hK K
      refine tk 31 ?_ rfl hHeld0 ?_ ?_
      rotate_left 1
      ·intro w hS;obtain ⟨_,_,_,_,_,_,_,_,_,_,_,_,_,_⟩:=hS;go_simp;(try with_reducible rfl)
      (try simp only [Act.put,List.setIfInBounds_toArray,List.set_cons_zero,List.set_cons_succ])
      have fz:v0.frozen? ⟨g,k,none⟩=false:=HG0.out.frozen
      obtain ⟨ob,hob⟩:∃ b,v0.cell? ⟨g,k,none⟩=some (.bool b):=⟨_,by rw [HG0.out.cell];exact blA_get (List.getElem?_eq_getElem (show k < x.length by rw [HX.out.1];exact HLTk.out))⟩
      have HGn:Hid (RB (v0.setCell ⟨g,k,none⟩ (.bool false)) g (blA (x.set k false)) 4):=Lib.hid (by have:=HG0.out.set (j:=k) (.bool false);rw [blA_set] at this;exact this)
      have HBn:Hid (Below wx.heap.size wx (v0.setCell ⟨g,k,none⟩ (.bool false))):=Lib.hid (HBx.out.setCell (p:=⟨g,k,none⟩) HGx.out _)
      have HBnw:Hid (Below w.heap.size w (v0.setCell ⟨g,k,none⟩ (.bool false))):=Lib.hid (HBw.out.setCell (p:=⟨g,k,none⟩) HGl.out _)
      have HXn:Hid ((x.set k false).length=un/\∀ q,q < k+1->(x.set k false)[q]?=some (unZ S ins i q)):=Lib.hid (rowZ HX.out HLTk.out HRz.out)
      refine rd 32 rfl (fun K hK=>?_)
      go_simp
      refine hK.out _ _ (HcX.out _ HBnw.out) (fun hHeld5=>?_)
      clear hK K
      refine wpAnyH_done (by kernel_rfl) ?_ _
      go_wp2
      go_roundw
      case rel=>exact ⟨k+1,_,_,rfl,by have:=HLTk.out;omega,by go_num,HBn,HGn,HXn⟩
      case measure=>have:=HLTk.out;simp [intOf];omega
     ·have tik:((i:Int) != (k:Int))=true:=by simp;omega
      have HIK:Hid (i ≠ k):=Lib.hid he
      subst hbe
      clear he
      have HRz:Hid (true=unZ S ins i k):=Lib.hid (by rw [HZ.out,decide_eq_true HIK.out];simp)
      go_wp2_with fail
      refine wp_region_held_drew (S:=fun v=>v.cell? ⟨b,off+i*6,none⟩=some (.string N)/\v.cell? ⟨b,off+i*6+1,none⟩=some (.int .i64 ki)/\v.cell? ⟨b,off+i*6+2,none⟩=some (.bool kp)/\v.cell? ⟨b,off+i*6+3,none⟩=some (.int .i64 al)/\v.cell? ⟨b,off+i*6+4,none⟩=some (.string D)/\v.cell? ⟨b,off+i*6+5,none⟩=some (.slice ad nr cp)/\v.cell? ⟨b,off+k*6,none⟩=some (.string N')/\v.cell? ⟨b,off+k*6+1,none⟩=some (.int .i64 ki')/\v.cell? ⟨b,off+k*6+2,none⟩=some (.bool kp')/\v.cell? ⟨b,off+k*6+3,none⟩=some (.int .i64 al')/\v.cell? ⟨b,off+k*6+4,none⟩=some (.string D')/\v.cell? ⟨b,off+k*6+5,none⟩=some (.slice ad' nr' cp')/\v.cell? ⟨pb,po+i,none⟩=some (.bool false)/\v.cell? ⟨pb,po+k,none⟩=some (.bool bk)) (by kernel_rfl) (by rw [HV0.out];exact HcX.out _ HBw.out) (fun hHeld=>?_)
      rw [HV0.out]
      have hHeld0:=HcX.out _ HBw.out
      clear hHeld
      refine tk 0 ?_ rfl hHeld0 ?_ ?_
      rotate_left 1
      ·intro w hS;obtain ⟨_,_,_,_,_,_,_,_,_,_,_,_,_,_⟩:=hS;go_simp;(try with_reducible rfl)
      (try simp only [Act.put,List.setIfInBounds_toArray,List.set_cons_zero,List.set_cons_succ])
      refine tk 1 ?_ rfl hHeld0 ?_ ?_
      rotate_left 1
      ·intro w hS;obtain ⟨_,_,_,_,_,_,_,_,_,_,_,_,_,_⟩:=hS;go_simp;(try with_reducible rfl)
      (try simp only [Act.put,List.setIfInBounds_toArray,List.set_cons_zero,List.set_cons_succ])
      refine tk 2 ?_ rfl hHeld0 ?_ ?_
      rotate_left 1
      ·intro w hS;obtain ⟨_,_,_,_,_,_,_,_,_,_,_,_,_,_⟩:=hS;go_simp;(try with_reducible rfl)
      (try simp only [Act.put,List.setIfInBounds_toArray,List.set_cons_zero,List.set_cons_succ])
      refine tk 3 ?_ rfl hHeld0 ?_ ?_
      rotate_left 1
      ·intro w hS;obtain ⟨_,_,_,_,_,_,_,_,_,_,_,_,_,_⟩:=hS;go_simp;(try with_reducible rfl)
      (try simp only [Act.put,List.setIfInBounds_toArray,List.set_cons_zero,List.set_cons_succ])
      refine tk 4 ?_ rfl hHeld0 ?_ ?_
      rotate_left 1
      ·intro w hS;obtain ⟨_,_,_,_,_,_,_,_,_,_,_,_,_,_⟩:=hS;go_simp;(try with_reducible rfl)
      (try simp only [Act.put,List.setIfInBounds_toArray,List.set_cons_zero,List.set_cons_succ])
      refine tk 5 ?_ rfl hHeld0 ?_ ?_
      rotate_left 1
      ·intro w hS;obtain ⟨_,_,_,_,_,_,_,_,_,_,_,_,_,_⟩:=hS;go_simp;(try with_reducible rfl)
      (try simp only [Act.put,List.setIfInBounds_toArray,List.set_cons_zero,List.set_cons_succ])
      refine tk 6 ?_ rfl hHeld0 ?_ ?_
      rotate_left 1
      ·intro w hS;obtain ⟨_,_,_,_,_,_,_,_,_,_,_,_,_,_⟩:=hS;go_simp;(try with_reducible rfl)
      (try simp only [Act.put,List.setIfInBounds_toArray,List.set_cons_zero,List.set_cons_succ])
      refine tk 7 ?_ rfl hHeld0 ?_ ?_
      rotate_left 1
      ·intro w hS;obtain ⟨_,_,_,_,_,_,_,_,_,_,_,_,_,_⟩:=hS;go_simp;(try with_reducible rfl)
      (try simp only [Act.put,List.setIfInBounds_toArray,List.set_cons_zero,List.set_cons_succ])
      refine tk 8 ?_ rfl hHeld0 ?_ ?_
      rotate_left 1
      ·intro w hS;obtain ⟨_,_,_,_,_,_,_,_,_,_,_,_,_,_⟩:=hS;go_simp;(try with_reducible rfl)
      (try simp only [Act.put,List.setIfInBounds_toArray,List.set_cons_zero,List.set_cons_succ])
      refine tk 9 ?_ rfl hHeld0 ?_ ?_
      rotate_left 1
      ·intro w hS;obtain ⟨_,_,_,_,_,_,_,_,_,_,_,_,_,_⟩:=hS;go_simp;(try with_reducible rfl)
      (try simp only [Act.put,List.setIfInBounds_toArray,List.set_cons_zero,List.set_cons_succ])
      refine tk 10 ?_ rfl hHeld0 ?_ ?_
      rotate_left 1
      ·intro w hS;obtain ⟨_,_,_,_,_,_,_,_,_,_,_,_,_,_⟩:=hS;go_simp;(try with_reducible rfl)
      (try simp only [Act.put,List.setIfInBounds_toArray,List.set_cons_zero,List.set_cons_succ])
      refine tk 11 ?_ rfl hHeld0 ?_ ?_
      rotate_left 1
      ·intro w hS;obtain ⟨_,_,_,_,_,_,_,_,_,_,_,_,_,_⟩:=hS;go_simp;(try with_reducible rfl)
      (try simp only [Act.put,List.setIfInBounds_toArray,List.set_cons_zero,List.set_cons_succ])
      refine sk 12 rfl hHeld0 ?_
      refine sk 13 rfl hHeld0 ?_
      refine sk 14 rfl hHeld0 ?_
      refine sk 15 rfl hHeld0 ?_
      refine sk 16 rfl hHeld0 ?_
      (try simp only [Act.put,List.setIfInBounds_toArray,List.set_cons_zero,List.set_cons_succ])
      refine rd 17 rfl (fun K hK=>?_)
      go_simp
      refine hK.out _ _ (HcX.out _ HBw.out) (fun hHeld1=>?_)
      clear hK K
      refine tk 18 ?_ rfl hHeld0 ?_ ?_
      rotate_left 1
      ·intro w hS;obtain ⟨_,_,_,_,_,_,_,_,_,_,_,_,_,_⟩:=hS;go_simp;(try with_reducible rfl)
      (try simp only [Act.put,List.setIfInBounds_toArray,List.set_cons_zero,List.set_cons_succ])
      refine sk 19 rfl hHeld0 ?_
      refine sk 20 rfl hHeld0 ?_
      refine sk 21 rfl hHeld0 ?_
      refine sk 22 rfl hHeld0 ?_
      refine sk 23 rfl hHeld0 ?_
      refine sk 24 rfl hHeld0 ?_
      refine sk 25 rfl hHeld0 ?_
      refine sk 26 rfl hHeld0 ?_
      refine sk 27 rfl hHeld0 ?_
      refine sk 28 rfl hHeld0 ?_
      (try simp only [Act.put,List.setIfInBounds_toArray,List.set_cons_zero,List.set_cons_succ])
      refine rd 29 rfl (fun K hK=>?_)
      go_simp
      refine hK.out _ _ (HcX.out _ HBw.out) (fun hHeld3=>?_)
      clear hK K
      refine rd 30 rfl (fun K hK=>?_)
      go_simp
      refine hK.out _ _ (HcX.out _ HBw.out) (fun hHeld4=>?_)
      clear hK K
      refine tk 31 ?_ rfl hHeld0 ?_ ?_
      rotate_left 1
      ·intro w hS;obtain ⟨_,_,_,_,_,_,_,_,_,_,_,_,_,_⟩:=hS;go_simp;(try with_reducible rfl)
      (try simp only [Act.put,List.setIfInBounds_toArray,List.set_cons_zero,List.set_cons_succ])
      have fz:v0.frozen? ⟨g,k,none⟩=false:=HG0.out.frozen
      obtain ⟨ob,hob⟩:∃ b,v0.cell? ⟨g,k,none⟩=some (.bool b):=⟨_,by rw [HG0.out.cell];exact blA_get (List.getElem?_eq_getElem (show k < x.length by rw [HX.out.1];exact HLTk.out))⟩
      have HGn:Hid (RB (v0.setCell ⟨g,k,none⟩ (.bool true)) g (blA (x.set k true)) 4):=Lib.hid (by have:=HG0.out.set (j:=k) (.bool true);rw [blA_set] at this;exact this)
      have HBn:Hid (Below wx.heap.size wx (v0.setCell ⟨g,k,none⟩ (.bool true))):=Lib.hid (HBx.out.setCell (p:=⟨g,k,none⟩) HGx.out _)
      have HBnw:Hid (Below w.heap.size w (v0.setCell ⟨g,k,none⟩ (.bool true))):=Lib.hid (HBw.out.setCell (p:=⟨g,k,none⟩) HGl.out _)
      have HXn:Hid ((x.set k true).length=un/\∀ q,q < k+1->(x.set k true)[q]?=some (unZ S ins i q)):=Lib.hid (rowZ HX.out HLTk.out HRz.out)
      refine rd 32 rfl (fun K hK=>?_)
      go_simp
      refine hK.out _ _ (HcX.out _ HBnw.out) (fun hHeld5=>?_)
      clear hK K
      refine wpAnyH_done (by kernel_rfl) ?_ _
      go_wp2
      go_roundw
      case rel=>exact ⟨k+1,_,_,rfl,by have:=HLTk.out;omega,by go_num,HBn,HGn,HXn⟩
      case measure=>have:=HLTk.out;simp [intOf];omega
     ·have tik:((i:Int) != (k:Int))=true:=by simp;omega
      have HIK:Hid (i ≠ k):=Lib.hid he
      subst hbe hbe'
      clear he
      have HRz:Hid (true=unZ S ins i k):=Lib.hid (by rw [HZ.out,decide_eq_true HIK.out];simp)
      go_wp2_with fail
      refine wp_region_held_drew (S:=fun v=>v.cell? ⟨b,off+i*6,none⟩=some (.string N)/\v.cell? ⟨b,off+i*6+1,none⟩=some (.int .i64 ki)/\v.cell? ⟨b,off+i*6+2,none⟩=some (.bool kp)/\v.cell? ⟨b,off+i*6+3,none⟩=some (.int .i64 al)/\v.cell? ⟨b,off+i*6+4,none⟩=some (.string D)/\v.cell? ⟨b,off+i*6+5,none⟩=some (.slice ad nr cp)/\v.cell? ⟨b,off+k*6,none⟩=some (.string N')/\v.cell? ⟨b,off+k*6+1,none⟩=some (.int .i64 ki')/\v.cell? ⟨b,off+k*6+2,none⟩=some (.bool kp')/\v.cell? ⟨b,off+k*6+3,none⟩=some (.int .i64 al')/\v.cell? ⟨b,off+k*6+4,none⟩=some (.string D')/\v.cell? ⟨b,off+k*6+5,none⟩=some (.slice ad' nr' cp')/\v.cell? ⟨pb,po+i,none⟩=some (.bool true)/\v.cell? ⟨pb,po+k,none⟩=some (.bool false)) (by kernel_rfl) (by rw [HV0.out];exact HcX.out _ HBw.out) (fun hHeld=>?_)
      rw [HV0.out]
      have hHeld0:=HcX.out _ HBw.out
      clear hHeld
      refine tk 0 ?_ rfl hHeld0 ?_ ?_
      rotate_left 1
      ·intro w hS;obtain ⟨_,_,_,_,_,_,_,_,_,_,_,_,_,_⟩:=hS;go_simp;(try with_reducible rfl)
      (try simp only [Act.put,List.setIfInBounds_toArray,List.set_cons_zero,List.set_cons_succ])
      refine tk 1 ?_ rfl hHeld0 ?_ ?_
      rotate_left 1
      ·intro w hS;obtain ⟨_,_,_,_,_,_,_,_,_,_,_,_,_,_⟩:=hS;go_simp;(try with_reducible rfl)
      (try simp only [Act.put,List.setIfInBounds_toArray,List.set_cons_zero,List.set_cons_succ])
      refine tk 2 ?_ rfl hHeld0 ?_ ?_
      rotate_left 1
      ·intro w hS;obtain ⟨_,_,_,_,_,_,_,_,_,_,_,_,_,_⟩:=hS;go_simp;(try with_reducible rfl)
      (try simp only [Act.put,List.setIfInBounds_toArray,List.set_cons_zero,List.set_cons_succ])
      refine tk 3 ?_ rfl hHeld0 ?_ ?_
      rotate_left 1
      ·intro w hS;obtain ⟨_,_,_,_,_,_,_,_,_,_,_,_,_,_⟩:=hS;go_simp;(try with_reducible rfl)
      (try simp only [Act.put,List.setIfInBounds_toArray,List.set_cons_zero,List.set_cons_succ])
      refine tk 4 ?_ rfl hHeld0 ?_ ?_
      rotate_left 1
      ·intro w hS;obtain ⟨_,_,_,_,_,_,_,_,_,_,_,_,_,_⟩:=hS;go_simp;(try with_reducible rfl)
      (try simp only [Act.put,List.setIfInBounds_toArray,List.set_cons_zero,List.set_cons_succ])
      refine tk 5 ?_ rfl hHeld0 ?_ ?_
      rotate_left 1
      ·intro w hS;obtain ⟨_,_,_,_,_,_,_,_,_,_,_,_,_,_⟩:=hS;go_simp;(try with_reducible rfl)
      (try simp only [Act.put,List.setIfInBounds_toArray,List.set_cons_zero,List.set_cons_succ])
      refine tk 6 ?_ rfl hHeld0 ?_ ?_
      rotate_left 1
      ·intro w hS;obtain ⟨_,_,_,_,_,_,_,_,_,_,_,_,_,_⟩:=hS;go_simp;(try with_reducible rfl)
      (try simp only [Act.put,List.setIfInBounds_toArray,List.set_cons_zero,List.set_cons_succ])
      refine tk 7 ?_ rfl hHeld0 ?_ ?_
      rotate_left 1
      ·intro w hS;obtain ⟨_,_,_,_,_,_,_,_,_,_,_,_,_,_⟩:=hS;go_simp;(try with_reducible rfl)
      (try simp only [Act.put,List.setIfInBounds_toArray,List.set_cons_zero,List.set_cons_succ])
      refine tk 8 ?_ rfl hHeld0 ?_ ?_
      rotate_left 1
      ·intro w hS;obtain ⟨_,_,_,_,_,_,_,_,_,_,_,_,_,_⟩:=hS;go_simp;(try with_reducible rfl)
      (try simp only [Act.put,List.setIfInBounds_toArray,List.set_cons_zero,List.set_cons_succ])
      refine tk 9 ?_ rfl hHeld0 ?_ ?_
      rotate_left 1
      ·intro w hS;obtain ⟨_,_,_,_,_,_,_,_,_,_,_,_,_,_⟩:=hS;go_simp;(try with_reducible rfl)
      (try simp only [Act.put,List.setIfInBounds_toArray,List.set_cons_zero,List.set_cons_succ])
      refine tk 10 ?_ rfl hHeld0 ?_ ?_
      rotate_left 1
      ·intro w hS;obtain ⟨_,_,_,_,_,_,_,_,_,_,_,_,_,_⟩:=hS;go_simp;(try with_reducible rfl)
      (try simp only [Act.put,List.setIfInBounds_toArray,List.set_cons_zero,List.set_cons_succ])
      refine tk 11 ?_ rfl hHeld0 ?_ ?_
      rotate_left 1
      ·intro w hS;obtain ⟨_,_,_,_,_,_,_,_,_,_,_,_,_,_⟩:=hS;go_simp;(try with_reducible rfl)
      (try simp only [Act.put,List.setIfInBounds_toArray,List.set_cons_zero,List.set_cons_succ])
      refine tk 12 ?_ rfl hHeld0 ?_ ?_
      rotate_left 1
      ·intro w hS;obtain ⟨_,_,_,_,_,_,_,_,_,_,_,_,_,_⟩:=hS;go_simp;(try with_reducible rfl)
      (try simp only [Act.put,List.setIfInBounds_toArray,List.set_cons_zero,List.set_cons_succ])
      refine tk 13 ?_ rfl hHeld0 ?_ ?_
      rotate_left 1
      ·intro w hS;obtain ⟨_,_,_,_,_,_,_,_,_,_,_,_,_,_⟩:=hS;go_simp;(try with_reducible rfl)
      (try simp only [Act.put,List.setIfInBounds_toArray,List.set_cons_zero,List.set_cons_succ])
      refine tk 14 ?_ rfl hHeld0 ?_ ?_
      rotate_left 1
      ·intro w hS;obtain ⟨_,_,_,_,_,_,_,_,_,_,_,_,_,_⟩:=hS;go_simp;(try with_reducible rfl)
      (try simp only [Act.put,List.setIfInBounds_toArray,List.set_cons_zero,List.set_cons_succ])
      refine tk 15 ?_ rfl hHeld0 ?_ ?_
      rotate_left 1
      ·intro w hS;obtain ⟨_,_,_,_,_,_,_,_,_,_,_,_,_,_⟩:=hS;go_simp;(try with_reducible rfl)
      (try simp only [Act.put,List.setIfInBounds_toArray,List.set_cons_zero,List.set_cons_succ])
      refine tk 16 ?_ rfl hHeld0 ?_ ?_
      rotate_left 1
      ·intro w hS;obtain ⟨_,_,_,_,_,_,_,_,_,_,_,_,_,_⟩:=hS;go_simp;(try with_reducible rfl)
      (try simp only [Act.put,List.setIfInBounds_toArray,List.set_cons_zero,List.set_cons_succ])
      refine rd 17 rfl (fun K hK=>?_)
      go_simp
      refine hK.out _ _ (HcX.out _ HBw.out) (fun hHeld1=>?_)
      clear hK K
      refine tk 18 ?_ rfl hHeld0 ?_ ?_
      rotate_left 1
      ·intro w hS;obtain ⟨_,_,_,_,_,_,_,_,_,_,_,_,_,_⟩:=hS;go_simp;(try with_reducible rfl)
      (try simp only [Act.put,List.setIfInBounds_toArray,List.set_cons_zero,List.set_cons_succ])
      refine sk 19 rfl hHeld0 ?_
      refine sk 20 rfl hHeld0 ?_
      refine sk 21 rfl hHeld0 ?_
      refine sk 22 rfl hHeld0 ?_
      refine sk 23 rfl hHeld0 ?_
      refine sk 24 rfl hHeld0 ?_
      refine sk 25 rfl hHeld0 ?_
      refine sk 26 rfl hHeld0 ?_
      refine sk 27 rfl hHeld0 ?_
      refine sk 28 rfl hHeld0 ?_
      (try simp only [Act.put,List.setIfInBounds_toArray,List.set_cons_zero,List.set_cons_succ])
      refine rd 29 rfl (fun K hK=>?_)
      go_simp
      refine hK.out _ _ (HcX.out _ HBw.out) (fun hHeld3=>?_)
      clear hK K
      refine rd 30 rfl (fun K hK=>?_)
      go_simp
      refine hK.out _ _ (HcX.out _ HBw.out) (fun hHeld4=>?_)
      clear hK K
      refine tk 31 ?_ rfl hHeld0 ?_ ?_
      rotate_left 1
      ·intro w hS;obtain ⟨_,_,_,_,_,_,_,_,_,_,_,_,_,_⟩:=hS;go_simp;(try with_reducible rfl)
      (try simp only [Act.put,List.setIfInBounds_toArray,List.set_cons_zero,List.set_cons_succ])
      have fz:v0.frozen? ⟨g,k,none⟩=false:=HG0.out.frozen
      obtain ⟨ob,hob⟩:∃ b,v0.cell? ⟨g,k,none⟩=some (.bool b):=⟨_,by rw [HG0.out.cell];exact blA_get (List.getElem?_eq_getElem (show k < x.length by rw [HX.out.1];exact HLTk.out))⟩
      have HGn:Hid (RB (v0.setCell ⟨g,k,none⟩ (.bool true)) g (blA (x.set k true)) 4):=Lib.hid (by have:=HG0.out.set (j:=k) (.bool true);rw [blA_set] at this;exact this)
      have HBn:Hid (Below wx.heap.size wx (v0.setCell ⟨g,k,none⟩ (.bool true))):=Lib.hid (HBx.out.setCell (p:=⟨g,k,none⟩) HGx.out _)
      have HBnw:Hid (Below w.heap.size w (v0.setCell ⟨g,k,none⟩ (.bool true))):=Lib.hid (HBw.out.setCell (p:=⟨g,k,none⟩) HGl.out _)
      have HXn:Hid ((x.set k true).length=un/\∀ q,q < k+1->(x.set k true)[q]?=some (unZ S ins i q)):=Lib.hid (rowZ HX.out HLTk.out HRz.out)
      refine rd 32 rfl (fun K hK=>?_)
      go_simp
      refine hK.out _ _ (HcX.out _ HBnw.out) (fun hHeld5=>?_)
      clear hK K
      refine wpAnyH_done (by kernel_rfl) ?_ _
      go_wp2
      go_roundw
      case rel=>exact ⟨k+1,_,_,rfl,by have:=HLTk.out;omega,by go_num,HBn,HGn,HXn⟩
      case measure=>have:=HLTk.out;simp [intOf];omega
     ·have tik:((i:Int) != (k:Int))=true:=by simp;omega
      have HIK:Hid (i ≠ k):=Lib.hid he
      subst hbe hbe'
      clear he
      have HRz:Hid ((!R)=unZ S ins i k):=Lib.hid (by rw [HZ.out,decide_eq_true HIK.out];simp)
      go_wp2_with fail
      refine wp_region_held_drew (S:=fun v=>v.cell? ⟨b,off+i*6,none⟩=some (.string N)/\v.cell? ⟨b,off+i*6+1,none⟩=some (.int .i64 ki)/\v.cell? ⟨b,off+i*6+2,none⟩=some (.bool kp)/\v.cell? ⟨b,off+i*6+3,none⟩=some (.int .i64 al)/\v.cell? ⟨b,off+i*6+4,none⟩=some (.string D)/\v.cell? ⟨b,off+i*6+5,none⟩=some (.slice ad nr cp)/\v.cell? ⟨b,off+k*6,none⟩=some (.string N')/\v.cell? ⟨b,off+k*6+1,none⟩=some (.int .i64 ki')/\v.cell? ⟨b,off+k*6+2,none⟩=some (.bool kp')/\v.cell? ⟨b,off+k*6+3,none⟩=some (.int .i64 al')/\v.cell? ⟨b,off+k*6+4,none⟩=some (.string D')/\v.cell? ⟨b,off+k*6+5,none⟩=some (.slice ad' nr' cp')/\v.cell? ⟨pb,po+i,none⟩=some (.bool true)/\v.cell? ⟨pb,po+k,none⟩=some (.bool true)) (by kernel_rfl) (by rw [HV0.out];exact HcX.out _ HBw.out) (fun hHeld=>?_)
      rw [HV0.out]
      have hHeld0:=HcX.out _ HBw.out
      clear hHeld
      refine tk 0 ?_ rfl hHeld0 ?_ ?_
      rotate_left 1
      ·intro w hS;obtain ⟨_,_,_,_,_,_,_,_,_,_,_,_,_,_⟩:=hS;go_simp;(try with_reducible rfl)
      (try simp only [Act.put,List.setIfInBounds_toArray,List.set_cons_zero,List.set_cons_succ])
      refine tk 1 ?_ rfl hHeld0 ?_ ?_
      rotate_left 1
      ·intro w hS;obtain ⟨_,_,_,_,_,_,_,_,_,_,_,_,_,_⟩:=hS;go_simp;(try with_reducible rfl)
      (try simp only [Act.put,List.setIfInBounds_toArray,List.set_cons_zero,List.set_cons_succ])
      refine tk 2 ?_ rfl hHeld0 ?_ ?_
      rotate_left 1
      ·intro w hS;obtain ⟨_,_,_,_,_,_,_,_,_,_,_,_,_,_⟩:=hS;go_simp;(try with_reducible rfl)
      (try simp only [Act.put,List.setIfInBounds_toArray,List.set_cons_zero,List.set_cons_succ])
      refine tk 3 ?_ rfl hHeld0 ?_ ?_
      rotate_left 1
      ·intro w hS;obtain ⟨_,_,_,_,_,_,_,_,_,_,_,_,_,_⟩:=hS;go_simp;(try with_reducible rfl)
      (try simp only [Act.put,List.setIfInBounds_toArray,List.set_cons_zero,List.set_cons_succ])
      refine tk 4 ?_ rfl hHeld0 ?_ ?_
      rotate_left 1
      ·intro w hS;obtain ⟨_,_,_,_,_,_,_,_,_,_,_,_,_,_⟩:=hS;go_simp;(try with_reducible rfl)
      (try simp only [Act.put,List.setIfInBounds_toArray,List.set_cons_zero,List.set_cons_succ])
      refine tk 5 ?_ rfl hHeld0 ?_ ?_
      rotate_left 1
      ·intro w hS;obtain ⟨_,_,_,_,_,_,_,_,_,_,_,_,_,_⟩:=hS;go_simp;(try with_reducible rfl)
      (try simp only [Act.put,List.setIfInBounds_toArray,List.set_cons_zero,List.set_cons_succ])
      refine tk 6 ?_ rfl hHeld0 ?_ ?_
      rotate_left 1
      ·intro w hS;obtain ⟨_,_,_,_,_,_,_,_,_,_,_,_,_,_⟩:=hS;go_simp;(try with_reducible rfl)
      (try simp only [Act.put,List.setIfInBounds_toArray,List.set_cons_zero,List.set_cons_succ])
      refine tk 7 ?_ rfl hHeld0 ?_ ?_
      rotate_left 1
      ·intro w hS;obtain ⟨_,_,_,_,_,_,_,_,_,_,_,_,_,_⟩:=hS;go_simp;(try with_reducible rfl)
      (try simp only [Act.put,List.setIfInBounds_toArray,List.set_cons_zero,List.set_cons_succ])
      refine tk 8 ?_ rfl hHeld0 ?_ ?_
      rotate_left 1
      ·intro w hS;obtain ⟨_,_,_,_,_,_,_,_,_,_,_,_,_,_⟩:=hS;go_simp;(try with_reducible rfl)
      (try simp only [Act.put,List.setIfInBounds_toArray,List.set_cons_zero,List.set_cons_succ])
      refine tk 9 ?_ rfl hHeld0 ?_ ?_
      rotate_left 1
      ·intro w hS;obtain ⟨_,_,_,_,_,_,_,_,_,_,_,_,_,_⟩:=hS;go_simp;(try with_reducible rfl)
      (try simp only [Act.put,List.setIfInBounds_toArray,List.set_cons_zero,List.set_cons_succ])
      refine tk 10 ?_ rfl hHeld0 ?_ ?_
      rotate_left 1
      ·intro w hS;obtain ⟨_,_,_,_,_,_,_,_,_,_,_,_,_,_⟩:=hS;go_simp;(try with_reducible rfl)
      (try simp only [Act.put,List.setIfInBounds_toArray,List.set_cons_zero,List.set_cons_succ])
      refine tk 11 ?_ rfl hHeld0 ?_ ?_
      rotate_left 1
      ·intro w hS;obtain ⟨_,_,_,_,_,_,_,_,_,_,_,_,_,_⟩:=hS;go_simp;(try with_reducible rfl)
      (try simp only [Act.put,List.setIfInBounds_toArray,List.set_cons_zero,List.set_cons_succ])
      refine tk 12 ?_ rfl hHeld0 ?_ ?_
      rotate_left 1
      ·intro w hS;obtain ⟨_,_,_,_,_,_,_,_,_,_,_,_,_,_⟩:=hS;go_simp;(try with_reducible rfl)
      (try simp only [Act.put,List.setIfInBounds_toArray,List.set_cons_zero,List.set_cons_succ])
      refine tk 13 ?_ rfl hHeld0 ?_ ?_
      rotate_left 1
      ·intro w hS;obtain ⟨_,_,_,_,_,_,_,_,_,_,_,_,_,_⟩:=hS;go_simp;(try with_reducible rfl)
      (try simp only [Act.put,List.setIfInBounds_toArray,List.set_cons_zero,List.set_cons_succ])
      refine tk 14 ?_ rfl hHeld0 ?_ ?_
      rotate_left 1
      ·intro w hS;obtain ⟨_,_,_,_,_,_,_,_,_,_,_,_,_,_⟩:=hS;go_simp;(try with_reducible rfl)
      (try simp only [Act.put,List.setIfInBounds_toArray,List.set_cons_zero,List.set_cons_succ])
      refine tk 15 ?_ rfl hHeld0 ?_ ?_
      rotate_left 1
      ·intro w hS;obtain ⟨_,_,_,_,_,_,_,_,_,_,_,_,_,_⟩:=hS;go_simp;(try with_reducible rfl)
      (try simp only [Act.put,List.setIfInBounds_toArray,List.set_cons_zero,List.set_cons_succ])
      refine tk 16 ?_ rfl hHeld0 ?_ ?_
      rotate_left 1
      ·intro w hS;obtain ⟨_,_,_,_,_,_,_,_,_,_,_,_,_,_⟩:=hS;go_simp;(try with_reducible rfl)
      (try simp only [Act.put,List.setIfInBounds_toArray,List.set_cons_zero,List.set_cons_succ])
      refine rd 17 rfl (fun K hK=>?_)
      go_simp
      refine hK.out _ _ (HcX.out _ HBw.out) (fun hHeld1=>?_)
      clear hK K
      refine tk 18 ?_ rfl hHeld0 ?_ ?_
      rotate_left 1
      ·intro w hS;obtain ⟨_,_,_,_,_,_,_,_,_,_,_,_,_,_⟩:=hS;go_simp;(try with_reducible rfl)
      (try simp only [Act.put,List.setIfInBounds_toArray,List.set_cons_zero,List.set_cons_succ])
      refine tk 19 ?_ rfl hHeld0 ?_ ?_
      rotate_left 1
      ·intro w hS;obtain ⟨_,_,_,_,_,_,_,_,_,_,_,_,_,_⟩:=hS;go_simp;(try with_reducible rfl)
      (try simp only [Act.put,List.setIfInBounds_toArray,List.set_cons_zero,List.set_cons_succ])
      refine tk 20 ?_ rfl hHeld0 ?_ ?_
      rotate_left 1
      ·intro w hS;obtain ⟨_,_,_,_,_,_,_,_,_,_,_,_,_,_⟩:=hS;go_simp;(try with_reducible rfl)
      (try simp only [Act.put,List.setIfInBounds_toArray,List.set_cons_zero,List.set_cons_succ])
      refine tk 21 ?_ rfl hHeld0 ?_ ?_
      rotate_left 1
      ·intro w hS;obtain ⟨_,_,_,_,_,_,_,_,_,_,_,_,_,_⟩:=hS;go_simp;(try with_reducible rfl)
      (try simp only [Act.put,List.setIfInBounds_toArray,List.set_cons_zero,List.set_cons_succ])
      refine tk 22 ?_ rfl hHeld0 ?_ ?_
      rotate_left 1
      ·intro w hS;obtain ⟨_,_,_,_,_,_,_,_,_,_,_,_,_,_⟩:=hS;go_simp;(try with_reducible rfl)
      (try simp only [Act.put,List.setIfInBounds_toArray,List.set_cons_zero,List.set_cons_succ])
      refine tk 23 ?_ rfl hHeld0 ?_ ?_
      rotate_left 1
      ·intro w hS;obtain ⟨_,_,_,_,_,_,_,_,_,_,_,_,_,_⟩:=hS;go_simp;(try with_reducible rfl)
      (try simp only [Act.put,List.setIfInBounds_toArray,List.set_cons_zero,List.set_cons_succ])
      refine tk 24 ?_ rfl hHeld0 ?_ ?_
      rotate_left 1
      ·intro w hS;obtain ⟨_,_,_,_,_,_,_,_,_,_,_,_,_,_⟩:=hS;go_simp;(try with_reducible rfl)
      (try simp only [Act.put,List.setIfInBounds_toArray,List.set_cons_zero,List.set_cons_succ])
      refine tk 25 ?_ rfl hHeld0 ?_ ?_
      rotate_left 1
      ·intro w hS;obtain ⟨_,_,_,_,_,_,_,_,_,_,_,_,_,_⟩:=hS;go_simp;(try with_reducible rfl)
      (try simp only [Act.put,List.setIfInBounds_toArray,List.set_cons_zero,List.set_cons_succ])
      refine tk 26 ?_ rfl hHeld0 ?_ ?_
      rotate_left 1
      ·intro w hS;obtain ⟨_,_,_,_,_,_,_,_,_,_,_,_,_,_⟩:=hS;go_simp;(try with_reducible rfl)
      (try simp only [Act.put,List.setIfInBounds_toArray,List.set_cons_zero,List.set_cons_succ])
      refine rd 27 rfl (fun K hK=>?_)
      go_simp
      go_wp2_with (go_at_call 26;refine (HAl.out _ HBw.out).mono ?_;rintro e v1 ⟨rfl,hb1⟩)
      have HBw1:=Lib.hid (after HBw.out hb1)
      have HBx1:=Lib.hid (after HBx.out hb1)
      have HG1:=Lib.hid (HG0.out.next hb1)
      clear hb1
      refine hK.out _ _ (HcX.out _ HBw1.out) (fun hHeld2=>?_)
      clear hK K
      refine tk 28 ?_ rfl hHeld2 ?_ ?_
      rotate_left 1
      ·intro w hS;obtain ⟨_,_,_,_,_,_,_,_,_,_,_,_,_,_⟩:=hS;go_simp;(try with_reducible rfl)
      (try simp only [Act.put,List.setIfInBounds_toArray,List.set_cons_zero,List.set_cons_succ])
      refine rd 29 rfl (fun K hK=>?_)
      go_simp
      refine hK.out _ _ (HcX.out _ HBw1.out) (fun hHeld3=>?_)
      clear hK K
      refine rd 30 rfl (fun K hK=>?_)
      go_simp
      refine hK.out _ _ (HcX.out _ HBw1.out) (fun hHeld4=>?_)
      clear hK K
      refine tk 31 ?_ rfl hHeld2 ?_ ?_
      rotate_left 1
      ·intro w hS;obtain ⟨_,_,_,_,_,_,_,_,_,_,_,_,_,_⟩:=hS;go_simp;(try with_reducible rfl)
      (try simp only [Act.put,List.setIfInBounds_toArray,List.set_cons_zero,List.set_cons_succ])
      have fz:v1.frozen? ⟨g,k,none⟩=false:=HG1.out.frozen
      obtain ⟨ob,hob⟩:∃ b,v1.cell? ⟨g,k,none⟩=some (.bool b):=⟨_,by rw [HG1.out.cell];exact blA_get (List.getElem?_eq_getElem (show k < x.length by rw [HX.out.1];exact HLTk.out))⟩
      have HGn:Hid (RB (v1.setCell ⟨g,k,none⟩ (.bool (!R))) g (blA (x.set k (!R))) 4):=Lib.hid (by have:=HG1.out.set (j:=k) (.bool (!R));rw [blA_set] at this;exact this)
      have HBn:Hid (Below wx.heap.size wx (v1.setCell ⟨g,k,none⟩ (.bool (!R)))):=Lib.hid (HBx1.out.setCell (p:=⟨g,k,none⟩) HGx.out _)
      have HBnw:Hid (Below w.heap.size w (v1.setCell ⟨g,k,none⟩ (.bool (!R)))):=Lib.hid (HBw1.out.setCell (p:=⟨g,k,none⟩) HGl.out _)
      have HXn:Hid ((x.set k (!R)).length=un/\∀ q,q < k+1->(x.set k (!R))[q]?=some (unZ S ins i q)):=Lib.hid (rowZ HX.out HLTk.out HRz.out)
      refine rd 32 rfl (fun K hK=>?_)
      go_simp
      refine hK.out _ _ (HcX.out _ HBnw.out) (fun hHeld5=>?_)
      clear hK K
      refine wpAnyH_done (by kernel_rfl) ?_ _
      go_wp2
      go_roundw
      case rel=>exact ⟨k+1,_,_,rfl,by have:=HLTk.out;omega,by go_num,HBn,HGn,HXn⟩
      case measure=>have:=HLTk.out;simp [intOf];omega
    ·have hnk:¬ (k:Int) < (un:Int):=by omega
     have hke:k=un:=by omega
     subst hke
     have HO1:=Lib.hid (HO.out.next HB.out)
     have HNw:Hid ((wy.alloc (.cells #[.slice (some ⟨g,0,none⟩) k k] 29)).heap[wy.heap.size]?=some (.cells #[.slice (some ⟨g,0,none⟩) k k] 29)):=Lib.hid (heap_alloc_new wy _)
     have HNg:Hid (g ∉ Gs):=Lib.hid (fun hm=>by
      obtain ⟨p,hp⟩:=List.getElem?_of_mem hm
      have hpl:=(List.getElem?_eq_some_iff.1 hp).1
      obtain ⟨-,h2⟩:=HO.out.rr p g _ hp (List.getElem?_eq_getElem (show p < U.length by rw [HO.out.ln];exact hpl))
      have:=lt_of_block h2
      have:=HGe.out
      omega)
     have hx0:Hid (w.heap.size<=wy.heap.size):=Lib.hid HO1.out.kk.size
     have HAn:=Lib.hid (HAp.out.grow HLn.out HX.out)
     clear hk hltk
     go_wp2_with (at_builtin;refine wpList_append_lies _ rfl _ _ 80 rfl w.heap.size 29 i0 (.slice none 0 0) 1 24 Tryz.underlying80 hgi hz0 hz1 hz2 rfl (by decide) (.slice a i c) i (Gs.map (gV k)) rfl (by have:=HO1.out.oo;rw [HGn.out] at this;exact this.alloc _) ⟨wy.heap.size,0,none⟩ 1 1 [gV k g] rfl rfl (World.news_of_block (cs:=#[.slice (some ⟨g,0,none⟩) k k]) (t:=29) (fr:=(0,0)) HNw.out) (by simp [gV,Value.oneCell']) (by decide) (by have:=HLT.out;have:=HUn.out;unfold maxLen;omega) (by have:=HLT.out;have:=HUn.out;omega) (by have:=hx0.out;simp;omega) (wy.heap.size+1) (by simp) ?_;intro g2 cap w2 hown2 hgrow2 hlie2 hlt2)
     rw [<-HGn.out] at hown2 hgrow2
     have HO2:=Lib.hid (HO1.out.grow HG.out HGl.out HNg.out hown2 hgrow2)
     have HGn2:Hid ((Gs ++ [g]).length=i+1):=Lib.hid (by rw [List.length_append,HGn.out];rfl)
     clear hown2 hgrow2 hlie2 hlt2 HNw
     go_wp2
     go_roundw
     case rel=>exact ⟨i+1,_,_,_,_,_,rfl,by have:=HLT.out;omega,rfl,by go_num,HGn2,HO2,HAn⟩
     case measure=>have:=HLT.out;simp [intOf];omega
  ·have hnlt:¬ (i:Int) < (un:Int):=by omega
   have hie:i=un:=by omega
   subst hie
   have HUi:Hid (UnI S ins (endL ins (foldN S ins j)) U):=Lib.hid (by have:=HAp.out;rw [<-HLn.out] at this;exact this.un HU.out HIn.out HFx.out)
   clear hi hlt hmk
   obtain ⟨P,hP⟩:∃ P,P=endL ins (foldN S ins j):=⟨_,rfl⟩
   have HPe:=Lib.hid hP
   rw [<-hP] at HUi ⊢
   clear hP
   have HD0:Hid (true=false->ClosedU S U):=Lib.hid (fun h=>by cases h)
   go_wp2_with fail
   go_loopw [9] (fun tv wr=>∃ (tb:Bool) (wx:World) (U:List (List Bool)),wx=wr/\tv=.bool tb/\Hid (UR w wx i Gs U a c)/\Hid (UnI S ins P U)/\Hid (tb=false->ClosedU S U)) (fun tv wr=>2*countG wr Gs+(match tv with | .bool true=>1 | _=>0))
   case atStart=>exact ⟨true,_,U,rfl,rfl,HO,HUi,HD0⟩
   case round=>
    clear HO HUi HD0 HAp
    obtain ⟨tb,wx,U,rfl,rfl,HO,HUi,HD⟩:=hrel
    cases tb
    ·have hcl:=HD.out rfl
     have HCl:=Lib.hid hcl
     clear hcl
     go_wp2
     go_ret
     exact ⟨a,c,Gs,U,rfl,HGn.out,HO.out,by rw [<-HPe.out];exact HUi.out,HCl.out⟩
    have HCx:=Lib.hid (countG_is HO.out)
    have HF:Hid (UcI S ins P U U false 0 0 0):=Lib.hid (UcI.first HUi.out)
    clear HD
    obtain ⟨wu,hwu⟩:∃ y,y=wx:=⟨_,rfl⟩
    rw [<-hwu] at HCx
    have HUe:=Lib.hid hwu
    clear hwu
    obtain ⟨U0,hU0⟩:∃ y,y=U:=⟨_,rfl⟩
    rw [<-hU0] at HCx HF
    clear HUi
    have HF:Hid (UcI S ins P U0 U false 0 0 0):=Lib.hid (by have:=HF.out;rw [hU0] at this ⊢;exact this)
    clear hU0
    go_wp2_with fail
    go_loopw [9,10] (fun tv iv wr=>∃ (tb:Bool) (p:Nat) (wy:World) (U:List (List Bool)),wy=wr/\p<=i/\tv=.bool tb/\iv=.int .i64 p/\Hid (UR w wy i Gs U a c)/\Hid (UcI S ins P U0 U tb p 0 0)) (fun _ iv _=>i - (intOf iv).toNat)
    case atStart=>exact ⟨false,0,_,U,rfl,by omega,rfl,rfl,HO,HF⟩
    case round=>
     clear HO HF
     obtain ⟨tb,p,wy,U,rfl,hp,rfl,rfl,HO,HI⟩:=hrel
     by_cases hlt:p < i
     ·have hlti:(p:Int) < (i:Int):=by omega
      have HLT:=Lib.hid hlt
      have hk1:p < L.length:=by have:=HLL.out;omega
      have HMi:Hid (L[p]?=some L[p]):=Lib.hid (List.getElem?_eq_getElem hk1)
      generalize L[p]'hk1=m at HMi
      obtain ⟨b,off,hua,hcs⟩:=ms_at HMs.out HMi.out
      have HSi:=Lib.hid (HLS.out _ _ HMi.out)
      have HRi:=Lib.hid (HNo.out _ (List.mem_of_getElem? HMi.out))
      have HCi:Hid (∀ v,Below w.heap.size w v->v.cell? ⟨b,off+p*6+5,none⟩=some (.slice m.ad m.sc.rels.length m.cap)):=Lib.hid (fun v hv=>(hcs v hv).2.2.2.2.2)
      obtain ⟨s,ad,cp⟩:=m
      simp only at HCi HSi HRi
      have hse:=units_sec HU.out HSi.out
      obtain ⟨nr,hnr⟩:∃ nr,nr=s.rels.length:=⟨_,rfl⟩
      rw [<-hnr] at HCi HRi
      have hnr9:(nr:Int)<=64:=by have:=hse.1.rels;omega
      have HNr:=Lib.hid hnr
      have HRg:Hid (∀ r ∈ s.rels,0<=r.sym/\r.sym < (i:Int)):=Lib.hid (by rw [<-HLn.out];exact hse.2)
      subst hua
      clear hp hlt hk1 hcs hnr hse
      go_wp2_with fail
      go_loopw [9,11] (fun tv kv wr=>∃ (tb:Bool) (k:Nat) (wz:World) (U:List (List Bool)),wz=wr/\k<=i/\tv=.bool tb/\kv=.int .i64 k/\Hid (UR w wz i Gs U a c)/\Hid (UcI S ins P U0 U tb p k 0)) (fun _ kv _=>i - (intOf kv).toNat)
      case atStart=>exact ⟨tb,0,_,U,rfl,by omega,rfl,rfl,HO,HI⟩
      case round=>
       clear HO HI
       obtain ⟨tb,k,wz,U,rfl,hk,rfl,rfl,HO,HI⟩:=hrel
       by_cases hltk:k < i
       ·have hltki:(k:Int) < (i:Int):=by omega
        have HLTk:=Lib.hid hltk
        have hk1:k < L.length:=by have:=HLL.out;omega
        have HMk:Hid (L[k]?=some L[k]):=Lib.hid (List.getElem?_eq_getElem hk1)
        generalize L[k]'hk1=m at HMk
        obtain ⟨b',off',hua',hcs⟩:=ms_at HMs.out HMk.out
        injection hua' with e
        injection e with e1 e2
        subst e1 e2
        have HSk:=Lib.hid (HLS.out _ _ HMk.out)
        have HRk:=Lib.hid (HNo.out _ (List.mem_of_getElem? HMk.out))
        have HCk:Hid (∀ v,Below w.heap.size w v->v.cell? ⟨b,off+k*6+5,none⟩=some (.slice m.ad m.sc.rels.length m.cap)):=Lib.hid (fun v hv=>(hcs v hv).2.2.2.2.2)
        obtain ⟨t,ad',cp'⟩:=m
        simp only at HCk HSk HRk
        have hse:=units_sec HU.out HSk.out
        obtain ⟨nr',hnr⟩:∃ nr,nr=t.rels.length:=⟨_,rfl⟩
        rw [<-hnr] at HCk HRk
        have hnr9':(nr':Int)<=64:=by have:=hse.1.rels;omega
        have HNr':=Lib.hid hnr
        have HRg':Hid (∀ r ∈ t.rels,0<=r.sym/\r.sym < (i:Int)):=Lib.hid (by rw [<-HLn.out];exact hse.2)
        obtain ⟨gp,hgp⟩:∃ x,Gs[p]?=some x:=⟨_,List.getElem?_eq_getElem (by rw [HGn.out];exact HLT.out)⟩
        obtain ⟨ob,hoa,-⟩:=HO.out.row hgp
        subst hoa
        have HGp:=Lib.hid hgp
        clear hk hltk hk1 hcs hnr hse hgp
        go_wp2_with fail
        go_loopw [9,12] (fun tv qv wr=>∃ (tb:Bool) (q:Nat) (wv:World) (U:List (List Bool)),wv=wr/\q<=nr/\tv=.bool tb/\qv=.int .i64 q/\Hid (UR w wv i Gs U (some ⟨ob,0,none⟩) c)/\Hid (UcI S ins P U0 U tb p k q)) (fun _ qv _=>nr - (intOf qv).toNat)
        case atStart=>exact ⟨tb,0,_,U,rfl,by omega,rfl,rfl,HO,HI⟩
        case round=>
         clear HO HI
         obtain ⟨tb,q,wv,U,rfl,hq,rfl,rfl,HO,HI⟩:=hrel
         have c5:=HCi.out _ HO.out.kk
         obtain ⟨ob',e,r0⟩:=HO.out.row HGp.out
         injection e with e
         injection e with e1
         subst e1
         have hpi:(p:Int) < (i:Int):=by have:=HLT.out;omega
         have hki:(k:Int) < (i:Int):=by have:=HLTk.out;omega
         obtain ⟨xp,hxp,hxk⟩:=sq_get HI.out.un.sq (show p < S.length by rw [HLn.out];exact HLT.out) (show k < S.length by rw [HLn.out];exact HLTk.out)
         have HBp:=Lib.hid (HO.out.rr _ _ _ HGp.out hxp)
         have r1:wv.cell? ⟨gp,k,none⟩=some (.bool (unG U p k)):=by rw [HBp.out.2.cell];exact blA_get hxk
         by_cases hltq:q < nr
         ·have hltqi:(q:Int) < (nr:Int):=by omega
          have HLTq:=Lib.hid hltq
          cases hU:unG U p k
          rotate_left
          ·rw [hU] at r1
           have HI1:Hid (UcI S ins P U0 U tb p (k+1) 0):=Lib.hid (HI.out.cell HSi.out (.inl hU))
           clear hq hltq hxp hxk hU
           go_wp2
           go_roundw
           case rel=>exact ⟨tb,k+1,_,_,rfl,by have:=HLTk.out;omega,rfl,by go_num,HO,HI1⟩
           case measure=>have:=HLTk.out;simp [intOf];omega
          rw [hU] at r1
          have HUf:=Lib.hid hU
          have hle:nr=nr':=by
           rw [HNr.out,HNr'.out]
           by_cases e:p=k
           ·have h1:=HSi.out
            rw [e,HSk.out] at h1
            cases h1;rfl
           ·have hz:unZ S ins p k=false:=by
             cases hz:unZ S ins p k
             ·rfl
             ·rw [HI.out.un.mono p k (by rw [HLn.out];exact HLT.out) (by rw [HLn.out];exact HLTk.out) hz] at hU;cases hU
            exact alike_len (unZ_false HSi.out HSk.out hz e).2.2
          have hq':(q:Int) < (nr':Int):=by omega
          obtain ⟨r,hr⟩:∃ x,s.rels[q]?=some x:=⟨_,List.getElem?_eq_getElem (by rw [<-HNr.out];exact hltq)⟩
          obtain ⟨r',hr'⟩:∃ x,t.rels[q]?=some x:=⟨_,List.getElem?_eq_getElem (by rw [<-HNr'.out];omega)⟩
          obtain ⟨b1,o1,ha1,hc1⟩:=rl_at HRi.out hr
          obtain ⟨b2,o2,ha2,hc2⟩:=rl_at HRk.out hr'
          subst ha1 ha2
          have d1:=hc1 _ HO.out.kk
          have d2:=hc2 _ HO.out.kk
          have c6:=HCk.out _ HO.out.kk
          obtain ⟨s0,s1⟩:=HRg.out _ (List.mem_of_getElem? hr)
          obtain ⟨s2,s3⟩:=HRg'.out _ (List.mem_of_getElem? hr')
          obtain ⟨sy,hsy⟩:∃ x:Nat,r.sym=(x:Int):=⟨r.sym.toNat,by omega⟩
          obtain ⟨sz,hsz⟩:∃ x:Nat,r'.sym=(x:Int):=⟨r'.sym.toNat,by omega⟩
          rw [hsy] at d1 s1
          rw [hsz] at d2 s3
          obtain ⟨gs,hgs⟩:∃ x,Gs[sy]?=some x:=⟨_,List.getElem?_eq_getElem (by rw [HGn.out];omega)⟩
          obtain ⟨ob',e,r2⟩:=HO.out.row hgs
          injection e with e
          injection e with e1
          subst e1
          obtain ⟨xs,hxs,hxz⟩:=sq_get HI.out.un.sq (show sy < S.length by rw [HLn.out];omega) (show sz < S.length by rw [HLn.out];omega)
          have r3:wv.cell? ⟨gs,sz,none⟩=some (.bool (unG U sy sz)):=by rw [(HO.out.rr _ _ _ hgs hxs).2.cell];exact blA_get hxz
          have HRr:=Lib.hid hr
          have HRr':=Lib.hid hr'
          have HSy:=Lib.hid hsy
          have HSz:=Lib.hid hsz
          cases hV:unG U sy sz
          ·rw [hV] at r3
           have HI1:Hid (UcI S ins P U0 U tb p k (q+1)):=Lib.hid (HI.out.skip HSi.out HSk.out HRr.out HRr'.out (by rw [HSy.out,HSz.out];exact hV))
           clear hq hltq hxp hxk hU hle hr hr' hc1 hc2 s0 s2 hsy hsz hgs hxs hxz hV
           go_wp2_with fail
           go_big_quiet (fail)
           go_wp2
           go_roundw
           case rel=>exact ⟨tb,q+1,_,_,rfl,by have:=HLTq.out;omega,rfl,by go_num,Lib.hid (HO.out.next (below_drewN (Below.refl _ _) _)),HI1⟩
           case measure=>have:=HLTq.out;simp [intOf];omega
          ·rw [hV] at r3
           have HI1:Hid (UcI S ins P U0 (setU U p k) true p k (q+1)):=Lib.hid (by
            have h1:=HI.out
            rw [HPe.out] at h1 ⊢
            exact h1.put HU.out HIn.out HFx.out HSi.out HSk.out HRr.out HRr'.out HUf.out (by rw [HSy.out,HSz.out];exact hV))
           have HXp:=Lib.hid hxp
           have HXk:=Lib.hid hxk
           clear hq hltq hxk hU hle hr hr' hc1 hc2 s0 s2 hsy hsz hgs hxs hxz hV hxp
           go_wp2_with fail
           go_big_quiet (fail)
           rename_i nq
           obtain ⟨v,hv⟩:∃ x,x=wv.drewN nq:=⟨_,rfl⟩
           rw [<-hv]
           have HO1:=Lib.hid (HO.out.next (show Below wv.heap.size wv v by rw [hv];exact below_drewN (Below.refl _ _) _))
           clear hv r0 r1 r2 r3 c5 c6 d1 d2
           obtain ⟨ob',e,r0⟩:=HO1.out.row HGp.out
           injection e with e
           injection e with e1
           subst e1
           have HBv:=Lib.hid (HO1.out.rr _ _ _ HGp.out HXp.out)
           have fz:v.frozen? ⟨gp,k,none⟩=false:=HBv.out.2.frozen
           obtain ⟨bv,r1⟩:∃ b,v.cell? ⟨gp,k,none⟩=some (.bool b):=⟨_,by rw [HBv.out.2.cell];exact blA_get HXk.out⟩
           have HO2:=Lib.hid (HO1.out.put (k:=k) HGp.out HXp.out)
           go_wp2
           go_roundw
           case rel=>exact ⟨true,q+1,_,_,rfl,by have:=HLTq.out;omega,rfl,by go_num,HO2,HI1⟩
           case measure=>have:=HLTq.out;simp [intOf];omega
         ·have hnq:¬ (q:Int) < (nr:Int):=by omega
          have HI1:Hid (UcI S ins P U0 U tb p (k+1) 0):=Lib.hid (HI.out.cell HSi.out (.inr (by rw [<-HNr.out];omega)))
          clear hq hltq hxp hxk
          go_wp2
          go_roundw
          case rel=>exact ⟨tb,k+1,_,_,rfl,by have:=HLTk.out;omega,rfl,by go_num,HO,HI1⟩
          case measure=>have:=HLTk.out;simp [intOf];omega
       ·have hnk:¬ (k:Int) < (i:Int):=by omega
        have HI1:Hid (UcI S ins P U0 U tb (p+1) 0 0):=Lib.hid (HI.out.row (by rw [HLn.out];omega))
        clear hk hltk
        go_wp2
        go_roundw
        case rel=>exact ⟨tb,p+1,_,_,rfl,by have:=HLT.out;omega,rfl,by go_num,HO,HI1⟩
        case measure=>have:=HLT.out;simp [intOf];omega
     ·have hnp:¬ (p:Int) < (i:Int):=by omega
      have hie:S.length<=p:=by rw [HLn.out];omega
      have HDn:Hid (tb=false->ClosedU S U):=Lib.hid (fun h=>by
       have h1:=HI.out
       rw [h] at h1
       exact h1.done hie)
      have HFn:Hid (UnI S ins P U):=Lib.hid HI.out.un
      have HMx:Hid (2*leftU U+(match tb with | true=>1 | false=>0) < 2*leftU U0+1):=Lib.hid (by
       have h1:=HI.out.cnt
       cases tb
       ·show 2*leftU U+0 < _;omega
       ·have h2:=HI.out.trn rfl;show 2*leftU U+1 < _;omega)
      have HCy:=Lib.hid (countG_is HO.out)
      clear hp hlt hie
      go_wp2
      go_roundw
      case rel=>exact ⟨tb,_,_,rfl,rfl,HO,HFn,HDn⟩
      case measure=>
       rw [HCy.out,<-HUe.out,HCx.out]
       have h:=HMx.out
       cases tb
       ·exact h
       ·exact h
end Go.Proofs.YtbabckomagkjbaaGreatDoor
