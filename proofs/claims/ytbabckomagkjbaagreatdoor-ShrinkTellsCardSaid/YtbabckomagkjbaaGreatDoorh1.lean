/- the reference of fold, plain: pairs that may not be of one part. The reference of fold: Alike. The reference of fold: apart: rows of rows. -/
import Derived.Test.YtbabckomagkjbaaGreatDoorsV
import Derived.Test.YtbabckomagkjbaaGreatDoorqM
import Derived.Test.YtbabckomagkjbaaGreatDoorw1
set_option maxRecDepth 100000
set_option maxHeartbeats 4000000
set_option linter.unusedVariables false
set_option linter.unusedSimpArgs false
namespace Go.Proofs.YtbabckomagkjbaaGreatDoor
open Go.ChangeShapes Go.WideShapes Go.Deep Go.RowKit
def unG (U:List (List Bool)) (i k:Nat):Bool:=((U[i]?).getD [])[k]?.getD false
def unZ (S:List Sc) (ins:List Bool) (i k:Nat):Bool:=decide (i ≠ k) && (!(ins[i]?.getD false) || !(ins[k]?.getD false) || !(match S[i]?,S[k]? with | some s,some t=>alikeB s t | _,_=>false))
def SqU (n:Nat) (U:List (List Bool)):Prop:=U.length=n/\∀ r ∈ U,r.length=n
def setU (U:List (List Bool)) (i k:Nat):List (List Bool):=U.set i (((U[i]?).getD []).set k true)
theorem sq_row {n:Nat} {U:List (List Bool)} (h:SqU n U) {i:Nat} (hi:i < n):∃ r,U[i]?=some r/\r.length=n:=by
 have h1:=List.getElem?_eq_getElem (show i < U.length by rw [h.1];exact hi)
 exact ⟨_,h1,h.2 _ (List.mem_of_getElem? h1)⟩
theorem sq_get {n:Nat} {U:List (List Bool)} (h:SqU n U) {i k:Nat} (hi:i < n) (hk:k < n):∃ r,U[i]?=some r/\r[k]?=some (unG U i k):=by
 obtain ⟨r,h1,h2⟩:=sq_row h hi
 refine ⟨r,h1,?_⟩
 unfold unG
 rw [h1,Option.getD_some,List.getElem?_eq_getElem (by omega),Option.getD_some]
theorem sq_set {n:Nat} {U:List (List Bool)} (h:SqU n U) (i k:Nat):SqU n (setU U i k):=by
 unfold setU
 refine ⟨by rw [List.length_set];exact h.1,fun r hr=>?_⟩
 by_cases hi:i < U.length
 ·rcases List.mem_or_eq_of_mem_set hr with h1 | h1
  ·exact h.2 r h1
  ·rw [h1,List.length_set,List.getElem?_eq_getElem hi,Option.getD_some]
   exact h.2 _ (List.getElem_mem hi)
 ·rw [List.set_eq_of_length_le (by omega)] at hr
  exact h.2 r hr
theorem set_get {n:Nat} {U:List (List Bool)} (h:SqU n U) {i k:Nat} (hi:i < n) (hk:k < n) (a b:Nat):unG (setU U i k) a b=if a=i/\b=k then true else unG U a b:=by
 obtain ⟨r,h1,h2⟩:=sq_row h hi
 unfold unG setU
 rw [h1,Option.getD_some]
 by_cases e:a=i
 ·subst e
  rw [List.getElem?_set_self (by rw [h.1];exact hi),Option.getD_some,h1,Option.getD_some]
  by_cases e2:b=k
  ·subst e2
   rw [List.getElem?_set_self (by omega),if_pos ⟨rfl,rfl⟩];rfl
  ·rw [List.getElem?_set_ne (fun z=>e2 z.symm),if_neg (fun z=>e2 z.2)]
 ·rw [List.getElem?_set_ne (fun z=>e z.symm),if_neg (fun z=>e z.1)]
def leftU (U:List (List Bool)):Nat:=(U.map (fun r=>r.count false)).sum
theorem count_setF:∀ {l:List Bool} {k:Nat},l[k]?=some false->(l.set k true).count false+1=l.count false
 | [],k,h=>by simp at h
 | b :: t,0,h=>by
  simp only [List.getElem?_cons_zero,Option.some.injEq] at h
  subst h
  simp
 | b :: t,k+1,h=>by
  have h2:t[k]?=some false:=by simpa using h
  have:=count_setF h2
  rw [List.set_cons_succ,List.count_cons,List.count_cons]
  omega
theorem leftU_set:∀ {U:List (List Bool)} {i:Nat} {r r':List Bool},U[i]?=some r->r'.count false+1=r.count false->leftU (U.set i r')+1=leftU U
 | [],i,r,r',h,_=>by simp at h
 | x :: t,0,r,r',h,hc=>by
  simp only [List.getElem?_cons_zero,Option.some.injEq] at h
  subst h
  simp only [leftU,List.set_cons_zero,List.map_cons,List.sum_cons]
  omega
 | x :: t,i+1,r,r',h,hc=>by
  have h2:t[i]?=some r:=by simpa using h
  have:=leftU_set h2 hc
  simp only [leftU,List.set_cons_succ,List.map_cons,List.sum_cons] at*
  omega
theorem leftU_one {n:Nat} {U:List (List Bool)} (h:SqU n U) {i k:Nat} (hi:i < n) (hk:k < n) (hf:unG U i k=false):leftU (setU U i k)+1=leftU U:=by
 obtain ⟨r,h1,h2⟩:=sq_get h hi hk
 rw [hf] at h2
 unfold setU
 rw [h1,Option.getD_some]
 exact leftU_set h1 (count_setF h2)
structure UnI (S:List Sc) (ins:List Bool) (P:List Int) (U:List (List Bool)):Prop where
 sq:SqU S.length U
 mono:∀ i k,i < S.length->k < S.length->unZ S ins i k=true->unG U i k=true
 snd:∀ i k,i < S.length->k < S.length->unG U i k=true->i ≠ k/\(ins[i]?=some true->ins[k]?=some true->P[i]? ≠ P[k]?)
theorem UnI.put {S:List Sc} {ins:List Bool} {j:Nat} {U:List (List Bool)} (hu:unitsR S=true) (hin:ins.length=S.length) (hfx:nextP S ins (foldN S ins j)=foldN S ins j) (h:UnI S ins (endL ins (foldN S ins j)) U)
  {i k q:Nat} {s t:Sc} {r r':Rl} (hs:S[i]?=some s) (ht:S[k]?=some t) (hr:s.rels[q]?=some r) (hr':t.rels[q]?=some r') (hU:unG U r.sym.toNat r'.sym.toNat=true):
  UnI S ins (endL ins (foldN S ins j)) (setU U i k):=by
 have hi:=(List.getElem?_eq_some_iff.1 hs).1
 have hk:=(List.getElem?_eq_some_iff.1 ht).1
 obtain ⟨a0,a1⟩:=(units_sec hu hs).2 r (List.mem_of_getElem? hr)
 obtain ⟨b0,b1⟩:=(units_sec hu ht).2 r' (List.mem_of_getElem? hr')
 obtain ⟨s1,s2⟩:=h.snd _ _ (by omega) (by omega) hU
 have hg:=end_good (j:=j) hu hin hfx
 refine ⟨sq_set h.sq i k,fun a b ha hb hz=>?_,fun a b ha hb hz=>?_⟩
 ·rw [set_get h.sq hi hk]
  split
  ·rfl
  ·exact h.mono a b ha hb hz
 ·rw [set_get h.sq hi hk] at hz
  split at hz
  ·rename_i e
   obtain ⟨rfl,rfl⟩:=e
   have hne:a ≠ b:=by
    intro e
    subst e
    rw [hs] at ht;cases ht
    rw [hr] at hr';cases hr'
    exact s1 rfl
   refine ⟨hne,fun ia ib hP=>?_⟩
   have key:RefQ S.length ins (endL ins (foldN S ins j)) r.sym r'.sym:=by
    rcases Nat.lt_or_ge b a with hlt | hlt
    ·exact (hg a b ha hlt ia ib hP s t hs ht).2 q r r' hr hr'
    ·obtain ⟨x0,x1,y0,y1,h⟩:=(hg b a hb (by omega) ib ia hP.symm t s ht hs).2 q r' r hr' hr
     refine ⟨y0,y1,x0,x1,?_⟩
     rcases h with h | ⟨c1,c2,c3⟩
     ·exact .inl h.symm
     ·exact .inr ⟨c2,c1,c3.symm⟩
   obtain ⟨-,-,-,-,h3⟩:=key
   rcases h3 with h3 | ⟨c1,c2,c3⟩
   ·exact s1 (by rw [h3])
   ·exact s2 c1 c2 c3
  ·exact h.snd a b ha hb hz
def ClosedU (S:List Sc) (U:List (List Bool)):Prop:=∀ (i k:Nat) (s t:Sc),S[i]?=some s->S[k]?=some t->unG U i k=false->∀ (q:Nat) (r r':Rl),s.rels[q]?=some r->t.rels[q]?=some r'->unG U r.sym.toNat r'.sym.toNat=false
theorem unI_start {S:List Sc} {ins:List Bool} {j:Nat} (hu:unitsR S=true) (hin:ins.length=S.length) (hfx:nextP S ins (foldN S ins j)=foldN S ins j) {U:List (List Bool)} (hsq:SqU S.length U) (hU:∀ i k,i < S.length->k < S.length->unG U i k=unZ S ins i k):
  UnI S ins (endL ins (foldN S ins j)) U:=by
 have hg:=end_good (j:=j) hu hin hfx
 refine ⟨hsq,fun i k hi hk h=>by rw [hU i k hi hk];exact h,fun i k hi hk h=>?_⟩
 rw [hU i k hi hk] at h
 have hne:i ≠ k:=by
  intro e
  subst e
  unfold unZ at h
  simp at h
 refine ⟨hne,fun i1 i2 hP=>?_⟩
 have hs:=List.getElem?_eq_getElem hi
 have ht:=List.getElem?_eq_getElem hk
 have hal:alikeB S[i] S[k]=true:=by
  rcases Nat.lt_or_ge k i with hlt | hlt
  ·exact (hg i k hi hlt i1 i2 hP _ _ hs ht).1
  ·exact alike_symm (hg k i hk (by omega) i2 i1 hP.symm _ _ ht hs).1
 unfold unZ at h
 rw [hs,ht,i1,i2] at h
 simp [hal] at h
end Go.Proofs.YtbabckomagkjbaaGreatDoor
namespace Go.Proofs.YtbabckomagkjbaaGreatDoor
open Go.ChangeShapes Go.WideShapes Go.Deep Go.RowKit
theorem rAlike_any (N D N' D':ByteArray) (ki ki' al al':Int) (kp kp':Bool) (a a':Option Addr) (n n' c c':Nat) (l l':List Rl) (w:World) (hn:n<=maxLen) (hn':n'<=maxLen) (hs:SL rlC 4 w w.heap.size a n l) (hs':SL rlC 4 w w.heap.size a' n' l') (nm nm':List UInt8):
  Calls Tryz.prog 26 #[.agg (uCe N ki kp al D a n c),.agg (uCe N' ki' kp' al' D' a' n' c')] w (RetB (.bool (alikeB ⟨nm,ki,kp,al,D.data.toList,l⟩ ⟨nm',ki',kp',al',D'.data.toList,l'⟩)) w):=by
 obtain ⟨R,hR⟩:∃ R,R=alikeB ⟨nm,ki,kp,al,D.data.toList,l⟩ ⟨nm',ki',kp',al',D'.data.toList,l'⟩:=⟨_,rfl⟩
 rw [<-hR]
 unfold alikeB at hR
 simp only [] at hR
 have HB:=Lib.hid ((two_rb (w:=w) (A:=uCe N ki kp al D a n c) (B:=uCe N' ki' kp' al' D' a' n' c') (T:=43) (U:=43)))
 obtain ⟨P,hP⟩:∃ P,P=w.heap.size:=⟨_,rfl⟩
 have HB0:=Lib.hid HB.out.2.2
 rw [<-hP] at HB
 have hni:(n:Int)<=9223372036854775807:=by unfold maxLen at hn;omega
 have hni':(n':Int)<=9223372036854775807:=by unfold maxLen at hn';omega
 have HS:=Lib.hid (fun u (hu:Below w.heap.size w u)=>hs.next hu)
 have HS':=Lib.hid (fun u (hu:Below w.heap.size w u)=>hs'.next hu)
 have HLn:=Lib.hid hs.len
 have HLn':=Lib.hid hs'.len
 have hDD:(D.toList=D'.toList) ↔ D.data.toList=D'.data.toList:=by rw [Lib.toList_data,Lib.toList_data]
 have hcs:(ki ≠ 1/\R=false)\/(ki=1/\ki' ≠ 1/\R=false)\/(ki=1/\ki'=1/\¬ D.toList=D'.toList/\R=false)\/(ki=1/\ki'=1/\D.toList=D'.toList/\n ≠ n'/\R=false)\/(ki=1/\ki'=1/\D.toList=D'.toList/\n=n'/\R=alRs l l'):=by
  by_cases e1:ki=1
  ·by_cases e2:ki'=1
   ·by_cases e3:D.toList=D'.toList
    ·by_cases e4:n=n'
     ·exact .inr (.inr (.inr (.inr ⟨e1,e2,e3,e4,by rw [hR,decide_eq_true e1,decide_eq_true e2,decide_eq_true (hDD.1 e3)];rfl⟩)))
     ·refine .inr (.inr (.inr (.inl ⟨e1,e2,e3,e4,?_⟩)))
      rw [hR,alRs,decide_eq_false (p:=l.length=l'.length) (by have:=hs.len;have:=hs'.len;omega)]
      simp
    ·refine .inr (.inr (.inl ⟨e1,e2,e3,?_⟩))
     rw [hR,decide_eq_false (fun h=>e3 (hDD.2 h))]
     simp
   ·refine .inr (.inl ⟨e1,e2,?_⟩)
    rw [hR,decide_eq_false e2]
    simp
  ·refine .inl ⟨e1,?_⟩
   rw [hR,decide_eq_false e1]
   simp
 clear hs hs' hn hn' hDD hR
 obtain ⟨W0,hW0⟩:∃ x,x=(w.alloc (.cells (uCe N ki kp al D a n c) 43)).alloc (.cells (uCe N' ki' kp' al' D' a' n' c') 43):=⟨_,rfl⟩
 rw [<-hW0] at HB HB0
 have x1:W0.cell? ⟨P,1,none⟩=some (.int .i64 ki):=HB.out.1.cell
 have x4:W0.cell? ⟨P,4,none⟩=some (.string D):=HB.out.1.cell
 have x5:W0.cell? ⟨P,5,none⟩=some (.slice a n c):=HB.out.1.cell
 have y1:W0.cell? ⟨P+1,1,none⟩=some (.int .i64 ki'):=HB.out.2.1.cell
 have y4:W0.cell? ⟨P+1,4,none⟩=some (.string D'):=HB.out.2.1.cell
 have y5:W0.cell? ⟨P+1,5,none⟩=some (.slice a' n' c'):=HB.out.2.1.cell
 rw [hW0] at x1 x4 x5 y1 y4 y5
 rw [hP] at x1 x4 x5 y1 y4 y5
 have HWE:Hid ((w.alloc (.cells (uCe N ki kp al D a n c) 43)).alloc (.cells (uCe N' ki' kp' al' D' a' n' c') 43)=W0):=Lib.hid hW0.symm
 have HPe:=Lib.hid hP
 clear hW0 hP
 rcases hcs with ⟨e1,hR⟩ | ⟨e1,e2,hR⟩ | ⟨e1,e2,e3,hR⟩ | ⟨e1,e2,e3,e4,hR⟩ | ⟨e1,e2,e3,e4,hR⟩
 ·have t1:(ki != 1)=true:=by simp [e1]
  have HR:=Lib.hid hR
  clear e1 hR
  go_enter Tryz.func26,Tryz.ntmps26
  go_wp2
  go_ret
  exact retB_bool HR.out.symm (by have:=HB0.out;rw [<-HWE.out] at this;exact this)
 ·have t1:(ki != 1)=false:=by simp [e1]
  have t2:(ki' != 1)=true:=by simp [e2]
  have HR:=Lib.hid hR
  clear e1 e2 hR
  go_enter Tryz.func26,Tryz.ntmps26
  go_wp2
  go_ret
  exact retB_bool HR.out.symm (by have:=HB0.out;rw [<-HWE.out] at this;exact this)
 ·have t1:(ki != 1)=false:=by simp [e1]
  have t2:(ki' != 1)=false:=by simp [e2]
  have t3:(D.toList == D'.toList)=false:=beq_eq_false_iff_ne.2 e3
  have t3':(D.toList != D'.toList)=true:=by simp only [bne,t3];rfl
  have HR:=Lib.hid hR
  clear e1 e2 e3 hR
  go_enter Tryz.func26,Tryz.ntmps26
  go_wp2
  go_ret
  exact retB_bool HR.out.symm (by have:=HB0.out;rw [<-HWE.out] at this;exact this)
 ·have t1:(ki != 1)=false:=by simp [e1]
  have t2:(ki' != 1)=false:=by simp [e2]
  have t3:(D.toList == D'.toList)=true:=beq_iff_eq.2 e3
  have t3':(D.toList != D'.toList)=false:=by simp only [bne,t3];rfl
  have t4:((n:Int) != (n':Int))=true:=by rw [bne_iff_ne];omega
  have HR:=Lib.hid hR
  clear e1 e2 e3 e4 hR
  go_enter Tryz.func26,Tryz.ntmps26
  go_wp2
  go_ret
  exact retB_bool HR.out.symm (by have:=HB0.out;rw [<-HWE.out] at this;exact this)
 have t1:(ki != 1)=false:=by simp [e1]
 have t2:(ki' != 1)=false:=by simp [e2]
 have t3:(D.toList == D'.toList)=true:=beq_iff_eq.2 e3
 have t3':(D.toList != D'.toList)=false:=by simp only [bne,t3];rfl
 subst e4
 have t4:((n:Int) != (n:Int))=false:=by simp
 have hll:l.length=l'.length:=by rw [<-HLn.out,<-HLn'.out]
 have HIff:=Lib.hid (alRs_iff hll)
 have HR:=Lib.hid hR
 clear e1 e2 e3 hR hll
 go_enter Tryz.func26,Tryz.ntmps26
 go_wp2_with fail
 rw [HWE.out,<-HPe.out]
 clear x1 x4 x5 y1 y4 y5 t1 t2 t3 t3' t4
 go_loopw [5] (fun i wr=>∃ (k:Nat) (wx:World),wx=wr/\k<=n/\i=.int .i64 k/\Hid (Below W0.heap.size W0 wx)/\Hid (∀ (j:Nat) (r r':Rl),j < k->l[j]?=some r->l'[j]?=some r'->alR r r'=true)) (fun i _=>n - (intOf i).toNat)
 case atStart=>exact ⟨0,_,rfl,by omega,rfl,Lib.hid (Below.refl _ _),Lib.hid (fun j r r' h=>by omega)⟩
 case round=>
  obtain ⟨k,wx,rfl,hk,rfl,HK,HA⟩:=hrel
  have x5:wx.cell? ⟨P,5,none⟩=some (.slice a n c):=(HB.out.1.next HK.out).cell
  by_cases hlt:k < n
  ·have hlti:(k:Int) < (n:Int):=by omega
   have HLT:=Lib.hid hlt
   have hk1:k < l.length:=by have:=HLn.out;omega
   have hk2:k < l'.length:=by have:=HLn'.out;omega
   have hbx:=after HB0.out HK.out
   obtain ⟨b1,o1,hae1,hB1,hc1⟩:=(HS.out _ hbx).cells (by intro e;rw [e] at hk1;simp at hk1)
   subst hae1
   obtain ⟨b2,o2,hae2,hB2,hc2⟩:=(HS'.out _ hbx).cells (by intro e;rw [e] at hk2;simp at hk2)
   subst hae2
   obtain ⟨c0,c1,c2,c3⟩:=rl_cells (fun q hq=>hc1 k hk1 q hq)
   obtain ⟨d0,d1,d2,d3⟩:=rl_cells (fun q hq=>hc2 k hk2 q hq)
   have HXx:Hid (l[k]?=some l[k]):=Lib.hid (List.getElem?_eq_getElem hk1)
   have HYy:Hid (l'[k]?=some l'[k]):=Lib.hid (List.getElem?_eq_getElem hk2)
   generalize l[k]'hk1=x at c0 c1 c2 c3 HXx
   generalize l'[k]'hk2=y at d0 d1 d2 d3 HYy
   obtain ⟨xp,xk,xs,xa⟩:=x
   obtain ⟨yp,yk,ys,ya⟩:=y
   simp only [] at c0 c1 c2 c3 d0 d1 d2 d3
   obtain ⟨Wa,hWa⟩:∃ x,x=wx.alloc (.cells #[.int .i64 xp,.int .i64 xk,.int .i64 xs,.int .i64 xa] 61):=⟨_,rfl⟩
   have hba:Below wx.heap.size wx Wa:=by rw [hWa];exact lit_below wx _
   have y5:Wa.cell? ⟨P+1,5,none⟩=some (.slice (some ⟨b2,o2,none⟩) n c'):=(HB.out.2.1.next (after HK.out hba)).cell
   have f0:Wa.cell? ⟨b2,o2+k*4,none⟩=some (.int .i64 yp):=(hba.cell (p:=⟨b2,o2+k*4,none⟩) (cell_lt d0)).trans d0
   have f1:Wa.cell? ⟨b2,o2+k*4+1,none⟩=some (.int .i64 yk):=(hba.cell (p:=⟨b2,o2+k*4+1,none⟩) (cell_lt d1)).trans d1
   have f2:Wa.cell? ⟨b2,o2+k*4+2,none⟩=some (.int .i64 ys):=(hba.cell (p:=⟨b2,o2+k*4+2,none⟩) (cell_lt d2)).trans d2
   have f3:Wa.cell? ⟨b2,o2+k*4+3,none⟩=some (.int .i64 ya):=(hba.cell (p:=⟨b2,o2+k*4+3,none⟩) (cell_lt d3)).trans d3
   rw [hWa] at y5 f0 f1 f2 f3
   have HB2:=Lib.hid (two_rb (w:=wx) (A:=#[.int .i64 xp,.int .i64 xk,.int .i64 xs,.int .i64 xa]) (B:=#[.int .i64 yp,.int .i64 yk,.int .i64 ys,.int .i64 ya]) (T:=61) (U:=61))
   have HKx:=Lib.hid (after HK.out HB2.out.2.2)
   obtain ⟨Wb,hWb⟩:∃ x,x=(wx.alloc (.cells #[.int .i64 xp,.int .i64 xk,.int .i64 xs,.int .i64 xa] 61)).alloc (.cells #[.int .i64 yp,.int .i64 yk,.int .i64 ys,.int .i64 ya] 61):=⟨_,rfl⟩
   rw [<-hWb] at HB2 HKx
   have u0:Wb.cell? ⟨wx.heap.size,0,none⟩=some (.int .i64 xp):=HB2.out.1.cell
   have u1:Wb.cell? ⟨wx.heap.size,1,none⟩=some (.int .i64 xk):=HB2.out.1.cell
   have u3:Wb.cell? ⟨wx.heap.size,3,none⟩=some (.int .i64 xa):=HB2.out.1.cell
   have w0:Wb.cell? ⟨wx.heap.size+1,0,none⟩=some (.int .i64 yp):=HB2.out.2.1.cell
   have w1:Wb.cell? ⟨wx.heap.size+1,1,none⟩=some (.int .i64 yk):=HB2.out.2.1.cell
   have w3:Wb.cell? ⟨wx.heap.size+1,3,none⟩=some (.int .i64 ya):=HB2.out.2.1.cell
   rw [hWb] at u0 u1 u3 w0 w1 w3
   have HWb:=Lib.hid hWb.symm
   have hcs:(xp ≠ yp/\alR ⟨xp,xk,xs,xa⟩ ⟨yp,yk,ys,ya⟩=false)\/(xp=yp/\xk ≠ yk/\alR ⟨xp,xk,xs,xa⟩ ⟨yp,yk,ys,ya⟩=false)\/(xp=yp/\xk=yk/\xa ≠ ya/\alR ⟨xp,xk,xs,xa⟩ ⟨yp,yk,ys,ya⟩=false)\/(xp=yp/\xk=yk/\xa=ya/\alR ⟨xp,xk,xs,xa⟩ ⟨yp,yk,ys,ya⟩=true):=by
    unfold alR
    simp only []
    by_cases e1:xp=yp
    ·by_cases e2:xk=yk
     ·by_cases e3:xa=ya
      ·exact .inr (.inr (.inr ⟨e1,e2,e3,by simp [e1,e2,e3]⟩))
      ·exact .inr (.inr (.inl ⟨e1,e2,e3,by simp [e3]⟩))
     ·exact .inr (.inl ⟨e1,e2,by simp [e2]⟩)
    ·exact .inl ⟨e1,by simp [e1]⟩
   clear hbx hc1 hc2 hB1 hB2 hk1 hk2 hWa hba d0 d1 d2 d3 hWb hlt hk
   rcases hcs with ⟨e1,h⟩ | ⟨e1,e2,h⟩ | ⟨e1,e2,e3,h⟩ | ⟨e1,e2,e3,h⟩
   rotate_left 3
   ·have HA2:Hid (∀ (j:Nat) (r r':Rl),j < k+1->l[j]?=some r->l'[j]?=some r'->alR r r'=true):=Lib.hid (fun j r r' hj hr hr'=>by
     rcases Nat.lt_or_ge j k with h1 | h1
     ·exact HA.out j r r' h1 hr hr'
     ·have:j=k:=by omega
      subst this
      rw [HXx.out] at hr;cases hr
      rw [HYy.out] at hr';cases hr'
      exact h)
    have s1:(xp != yp)=false:=by simp [e1]
    have s2:(xk != yk)=false:=by simp [e2]
    have s3:(xa != ya)=false:=by simp [e3]
    clear e1 e2 e3 h
    go_wp2
    rw [HWb.out]
    go_roundw
    case rel=>exact ⟨k+1,_,rfl,by have:=HLT.out;omega,by go_num,HKx,HA2⟩
    case measure=>have:=HLT.out;simp [intOf];omega
   all_goals
    have HE:Hid (R=false):=Lib.hid (by
     rw [HR.out]
     cases ha:alRs l l'
     ·rfl
     ·have:=(HIff.out.1 ha) k _ _ HXx.out HYy.out
      rw [h] at this;cases this)
    have HBf:=Lib.hid (after HB0.out HKx.out)
    first
     | (have s1:(xp != yp)=true:=by simpa using e1)
     | (have s1:(xp != yp)=false:=by simp [e1])
    (try first
      | (have s2:(xk != yk)=true:=by simpa using e2)
      | (have s2:(xk != yk)=false:=by simp [e2]))
    (try (have s3:(xa != ya)=true:=by simpa using e3))
    (try clear e1)
    (try clear e2)
    (try clear e3)
    clear h
    go_wp2
    go_ret
    exact retB_bool HE.out.symm (by have:=HBf.out;rw [<-HWb.out] at this;exact this)
  ·have hnlt:¬ (k:Int) < (n:Int):=by omega
   have HE:Hid (R=true):=Lib.hid (by
    rw [HR.out]
    exact HIff.out.2 (fun j r r' hr hr'=>HA.out j r r' (by have:=(List.getElem?_eq_some_iff.1 hr).1;have:=HLn.out;omega) hr hr'))
   have HBf:=Lib.hid (after HB0.out HK.out)
   clear hk hlt
   go_wp2
   go_ret
   exact retB_bool HE.out.symm HBf.out
end Go.Proofs.YtbabckomagkjbaaGreatDoor
namespace Go.Proofs.YtbabckomagkjbaaGreatDoor
open Go.ChangeShapes Go.WideShapes Go.Deep Go.RowKit
def gV (n g:Nat):Value:=.slice (some ⟨g,0,none⟩) n n
structure UR (w u:World) (n:Nat) (Gs:List Nat) (U:List (List Bool)) (a:Option Addr) (c:Nat):Prop where
 oo:u.ownsRow w.heap.size 29 1 (.slice a Gs.length c) Gs.length (Gs.map (gV n))
 rr:∀ (i g:Nat) (r:List Bool),Gs[i]?=some g->U[i]?=some r->w.heap.size<=g/\RB u g (blA r) 4
 nd:Gs.Nodup
 ln:U.length=Gs.length
 kk:Below w.heap.size w u
theorem UR.nil (w:World) (n:Nat):UR w w n [] [] none 0:=⟨World.ownsRow_nil _ _ _ _,(fun i g r h=>by simp at h),List.nodup_nil,rfl,Below.refl _ _⟩
theorem owns_same2 {w w':World} {base:Nat} {e:TypeId} {size:Nat} {v:Value} {n:Nat} {xs:List Value} (h:w.ownsRow base e size v n xs) (hk:∀ g,v.ownBlock=some g->w'.heap[g]?=w.heap[g]?):w'.ownsRow base e size v n xs:=by
 refine ⟨h.1,?_⟩
 rcases h.2 with hn | ⟨g,cap,cur,rfl,hbg,hgg,rest⟩
 ·exact .inl hn
 ·exact .inr ⟨g,cap,cur,rfl,hbg,(hk g rfl).trans hgg,rest⟩
theorem UR.next {w u v:World} {n:Nat} {Gs:List Nat} {U:List (List Bool)} {a:Option Addr} {c:Nat} (h:UR w u n Gs U a c) (hb:Below u.heap.size u v):UR w v n Gs U a c:=
 ⟨owns_same2 h.oo (fun g hg=>hb.block g (h.oo.lt g hg).2),fun i g r hg hr=>⟨(h.rr i g r hg hr).1,(h.rr i g r hg hr).2.next hb⟩,h.nd,h.ln,after h.kk hb⟩
theorem UR.row {w u:World} {n:Nat} {Gs:List Nat} {U:List (List Bool)} {a:Option Addr} {c i g:Nat} (h:UR w u n Gs U a c) (hg:Gs[i]?=some g):∃ ob,a=some ⟨ob,0,none⟩/\u.cell? ⟨ob,i,none⟩=some (.slice (some ⟨g,0,none⟩) n n):=by
 have hi:=(List.getElem?_eq_some_iff.1 hg).1
 have hx:=(List.getElem?_eq_some_iff.1 hg).2
 rcases h.oo.2 with ⟨hv,h0⟩ | ⟨ob,cap,cur,hv,hb,hgg,h1,h2,h3,h4⟩
 ·omega
 ·injection hv with e1 e2 e3
  subst e1
  refine ⟨ob,rfl,?_⟩
  have:=h.oo.cellAt i (by omega)
  have hw:=this
  rw [hw,List.getElem?_map,hg]
  rfl
theorem UR.put {w u:World} {n:Nat} {Gs:List Nat} {U:List (List Bool)} {a:Option Addr} {c i g k:Nat} {r:List Bool} (h:UR w u n Gs U a c) (hg:Gs[i]?=some g) (hr:U[i]?=some r):UR w (u.setCell ⟨g,k,none⟩ (.bool true)) n Gs (setU U i k) a c:=by
 obtain ⟨h1,h2⟩:=h.rr i g r hg hr
 have hi:=(List.getElem?_eq_some_iff.1 hr).1
 refine ⟨owns_same2 h.oo (fun g' hg'=>Below.heap_setCell _ _ _ _ (fun e=>?_)),fun i' g' r' hg' hr'=>?_,h.nd,by unfold setU;rw [List.length_set];exact h.ln,h.kk.setCell (p:=⟨g,k,none⟩) h1 _⟩
 ·rcases h.oo.2 with ⟨hv,h0⟩ | ⟨ob,cap,cur,hv,hb,hgg,-⟩
  ·rw [hv] at hg';cases hg'
  ·rw [hv] at hg'
   simp only [Value.ownBlock,Option.some.injEq] at hg'
   have e:g'=g:=e
   rw [<-hg'] at e
   rw [e] at hgg
   unfold RB at h2
   rw [h2] at hgg
   simp only [Option.some.injEq,Obj.cells.injEq] at hgg
   exact absurd hgg.2.1 (by decide)
 ·unfold setU at hr'
  rw [hr,Option.getD_some] at hr'
  by_cases e:i'=i
  ·subst e
   rw [hg] at hg';cases hg'
   rw [List.getElem?_set_self hi] at hr'
   cases hr'
   refine ⟨h1,?_⟩
   have:=h2.set (j:=k) (.bool true)
   rw [blA_set] at this
   exact this
  ·rw [List.getElem?_set_ne (fun z=>e z.symm)] at hr'
   obtain ⟨h3,h4⟩:=h.rr i' g' r' hg' hr'
   refine ⟨h3,?_⟩
   have hne:g' ≠ g:=by
    intro z
    subst z
    obtain ⟨l1,e1⟩:=List.getElem?_eq_some_iff.1 hg
    obtain ⟨l2,e2⟩:=List.getElem?_eq_some_iff.1 hg'
    rcases Nat.lt_or_ge i i' with h5 | h5
    ·exact List.pairwise_iff_getElem.1 h.nd i i' l1 l2 h5 (e1.trans e2.symm)
    ·exact List.pairwise_iff_getElem.1 h.nd i' i l2 l1 (by omega) (e2.trans e1.symm)
   exact (Below.heap_setCell _ _ _ _ hne).trans h4
theorem UR.grow {w u w2:World} {n:Nat} {Gs:List Nat} {U:List (List Bool)} {a a':Option Addr} {c c' g:Nat} {r:List Bool} (h:UR w u n Gs U a c) (hr:RB u g (blA r) 4) (hg:w.heap.size<=g) (hn:g ∉ Gs) (hown:w2.ownsRow w.heap.size 29 1 (.slice a' (Gs.length+1) c') (Gs.length+1) (Gs.map (gV n) ++ [gV n g]))
  (hgrow:(u.alloc (.cells #[gV n g] 29)).grownBy w2 (Value.slice a Gs.length c).ownBlock):UR w w2 n (Gs ++ [g]) (U ++ [r]) a' c':=by
 have key:∀ g' r',RB u g' (blA r') 4->RB w2 g' (blA r') 4:=by
  intro g' r' h'
  have hl:=lt_of_block h'
  have h2:RB (u.alloc (.cells #[gV n g] 29)) g' (blA r') 4:=h'.next (lit_below _ _)
  refine (hgrow.block g' (by rw [World.size_alloc];omega) (fun e=>?_)).trans h2
  rcases h.oo.2 with ⟨hv,h0⟩ | ⟨ob,cap,cur,hv,hb,hgg,-⟩
  ·rw [hv] at e;cases e
  ·rw [hv] at e
   simp only [Value.ownBlock,Option.some.injEq] at e
   rw [<-e] at hgg
   unfold RB at h'
   rw [h'] at hgg
   simp only [Option.some.injEq,Obj.cells.injEq] at hgg
   exact absurd hgg.2.1 (by decide)
 refine ⟨by simpa using hown,fun i g' r' hg' hr'=>?_,?_,by simp [h.ln],(h.kk.alloc h.kk.size _).grown hgrow (by have:=h.kk.size;rw [World.size_alloc];omega) (fun j hj=>(h.oo.lt j hj).1)⟩
 ·by_cases hi:i < Gs.length
  ·rw [List.getElem?_append_left hi] at hg'
   rw [List.getElem?_append_left (by rw [h.ln];exact hi)] at hr'
   obtain ⟨h1,h2⟩:=h.rr i g' r' hg' hr'
   exact ⟨h1,key _ _ h2⟩
  ·rw [List.getElem?_append_right (by omega)] at hg'
   rw [List.getElem?_append_right (by rw [h.ln];omega)] at hr'
   obtain ⟨e1,e2⟩:i - Gs.length=0/\i - U.length=0:=by
    have:=(List.getElem?_eq_some_iff.1 hg').1
    simp at this
    rw [h.ln];omega
   rw [e1] at hg'
   rw [e2] at hr'
   cases hg';cases hr'
   exact ⟨hg,key _ _ hr⟩
 ·rw [List.nodup_append]
  exact ⟨h.nd,List.pairwise_singleton _ _,fun x hx y hy=>by rw [List.mem_singleton.1 hy];intro e;exact hn (e ▸ hx)⟩
structure UcI (S:List Sc) (ins:List Bool) (P:List Int) (U0 U:List (List Bool)) (tb:Bool) (i k q:Nat):Prop where
 un:UnI S ins P U
 cnt:leftU U<=leftU U0
 trn:tb=true->leftU U < leftU U0
 cls:tb=false->∀ (i' k':Nat) (s t:Sc),S[i']?=some s->S[k']?=some t->unG U i' k'=false->∀ (q':Nat) (r r':Rl),s.rels[q']?=some r->t.rels[q']?=some r'->(i' < i\/(i'=i/\(k' < k\/(k'=k/\q' < q))))->unG U r.sym.toNat r'.sym.toNat=false
theorem UcI.first {S:List Sc} {ins:List Bool} {P:List Int} {U:List (List Bool)} (h:UnI S ins P U):UcI S ins P U U false 0 0 0:=⟨h,Nat.le_refl _,(fun h=>by cases h),fun _ i' k' s t _ _ _ q' r r' _ _ hc=>by omega⟩
theorem UcI.skip {S:List Sc} {ins:List Bool} {P:List Int} {U0 U:List (List Bool)} {tb:Bool} {i k q:Nat} {s t:Sc} {r r':Rl} (h:UcI S ins P U0 U tb i k q) (hs:S[i]?=some s) (ht:S[k]?=some t) (hr:s.rels[q]?=some r) (hr':t.rels[q]?=some r') (hf:unG U r.sym.toNat r'.sym.toNat=false):UcI S ins P U0 U tb i k (q+1):=by
 refine ⟨h.un,h.cnt,h.trn,fun hb i' k' s' t' hs' ht' hu q' x x' hx hx' hc=>?_⟩
 by_cases e:i'=i/\k'=k/\q'=q
 ·obtain ⟨rfl,rfl,rfl⟩:=e
  rw [hs] at hs';cases hs'
  rw [ht] at ht';cases ht'
  rw [hr] at hx;cases hx
  rw [hr'] at hx';cases hx'
  exact hf
 ·exact h.cls hb i' k' s' t' hs' ht' hu q' x x' hx hx' (by omega)
theorem UcI.put {S:List Sc} {ins:List Bool} {j:Nat} {U0 U:List (List Bool)} {tb:Bool} {i k q:Nat} {s t:Sc} {r r':Rl} (hu:unitsR S=true) (hin:ins.length=S.length) (hfx:nextP S ins (foldN S ins j)=foldN S ins j) (h:UcI S ins (endL ins (foldN S ins j)) U0 U tb i k q) (hs:S[i]?=some s) (ht:S[k]?=some t) (hr:s.rels[q]?=some r) (hr':t.rels[q]?=some r') (hf:unG U i k=false) (hU:unG U r.sym.toNat r'.sym.toNat=true):UcI S ins (endL ins (foldN S ins j)) U0 (setU U i k) true i k (q+1):=by
 have hi:=(List.getElem?_eq_some_iff.1 hs).1
 have hk:=(List.getElem?_eq_some_iff.1 ht).1
 have h1:=leftU_one h.un.sq hi hk hf
 have h2:=h.cnt
 exact ⟨h.un.put hu hin hfx hs ht hr hr' hU,by omega,fun _=>by omega,(fun h=>by cases h)⟩
theorem UcI.cell {S:List Sc} {ins:List Bool} {P:List Int} {U0 U:List (List Bool)} {tb:Bool} {i k q:Nat} {s:Sc} (h:UcI S ins P U0 U tb i k q) (hs:S[i]?=some s) (hc:unG U i k=true\/s.rels.length<=q):UcI S ins P U0 U tb i (k+1) 0:=by
 refine ⟨h.un,h.cnt,h.trn,fun hb i' k' s' t' hs' ht' hu q' x x' hx hx' hc'=>?_⟩
 by_cases e:i'=i/\k'=k
 ·obtain ⟨rfl,rfl⟩:=e
  rcases hc with hc | hc
  ·rw [hc] at hu;cases hu
  ·rw [hs] at hs';cases hs'
   have:=(List.getElem?_eq_some_iff.1 hx).1
   exact h.cls hb i' k' s t' hs ht' hu q' x x' hx hx' (by omega)
 ·exact h.cls hb i' k' s' t' hs' ht' hu q' x x' hx hx' (by omega)
theorem UcI.row {S:List Sc} {ins:List Bool} {P:List Int} {U0 U:List (List Bool)} {tb:Bool} {i k:Nat} (h:UcI S ins P U0 U tb i k 0) (hk:S.length<=k):UcI S ins P U0 U tb (i+1) 0 0:=by
 refine ⟨h.un,h.cnt,h.trn,fun hb i' k' s' t' hs' ht' hu q' x x' hx hx' hc'=>?_⟩
 have:=(List.getElem?_eq_some_iff.1 ht').1
 exact h.cls hb i' k' s' t' hs' ht' hu q' x x' hx hx' (by omega)
theorem UcI.done {S:List Sc} {ins:List Bool} {P:List Int} {U0 U:List (List Bool)} {i:Nat} (h:UcI S ins P U0 U false i 0 0) (hi:S.length<=i):ClosedU S U:=by
 intro a b s t hs ht hu q r r' hr hr'
 have:=(List.getElem?_eq_some_iff.1 hs).1
 exact h.cls rfl a b s t hs ht hu q r r' hr hr' (by omega)
theorem ms_at {w:World} {a:Option Addr} {n:Nat} {L:List Ms} (hs:SL msC 6 w w.heap.size a n L) {i:Nat} {m:Ms} (h:L[i]?=some m):∃ b off,a=some ⟨b,off,none⟩/\∀ v,Below w.heap.size w v->v.cell? ⟨b,off+i*6,none⟩=some (.string ⟨m.sc.name.toArray⟩)/\v.cell? ⟨b,off+i*6+1,none⟩=some (.int .i64 m.sc.kind)/\v.cell? ⟨b,off+i*6+2,none⟩=some (.bool m.sc.keep)/\v.cell? ⟨b,off+i*6+3,none⟩=some (.int .i64 m.sc.align)/\v.cell? ⟨b,off+i*6+4,none⟩=some (.string ⟨m.sc.data.toArray⟩)/\v.cell? ⟨b,off+i*6+5,none⟩=some (.slice m.ad m.sc.rels.length m.cap):=by
 have hi:=(List.getElem?_eq_some_iff.1 h).1
 have he:=(List.getElem?_eq_some_iff.1 h).2
 obtain ⟨b,off,e,-,-⟩:=hs.cells (hs.ne (by rw [hs.len];exact hi))
 subst e
 refine ⟨b,off,rfl,fun v hv=>?_⟩
 obtain ⟨b',off',e,-,hc⟩:=(hs.next hv).cells ((hs.next hv).ne (by rw [hs.len];exact hi))
 injection e with e
 injection e with e1 e2
 subst e1 e2
 have:=ms_cells (fun j hj=>hc i hi j hj)
 rw [he] at this
 exact this
theorem rl_at {w:World} {a:Option Addr} {n:Nat} {l:List Rl} (hs:SL rlC 4 w w.heap.size a n l) {q:Nat} {r:Rl} (h:l[q]?=some r):∃ b off,a=some ⟨b,off,none⟩/\∀ v,Below w.heap.size w v->v.cell? ⟨b,off+q*4+2,none⟩=some (.int .i64 r.sym):=by
 have hi:=(List.getElem?_eq_some_iff.1 h).1
 have he:=(List.getElem?_eq_some_iff.1 h).2
 obtain ⟨b,off,e,-,-⟩:=hs.cells (hs.ne (by rw [hs.len];exact hi))
 subst e
 refine ⟨b,off,rfl,fun v hv=>?_⟩
 obtain ⟨b',off',e,-,hc⟩:=(hs.next hv).cells ((hs.next hv).ne (by rw [hs.len];exact hi))
 injection e with e
 injection e with e1 e2
 subst e1 e2
 have:=(rl_cells (fun j hj=>hc q hi j hj)).2.2.1
 rw [he] at this
 exact this
structure ApI (S:List Sc) (ins:List Bool) (i:Nat) (U:List (List Bool)):Prop where
 ln:U.length=i
 sq:∀ r ∈ U,r.length=S.length
 eq:∀ a b,a < i->b < S.length->unG U a b=unZ S ins a b
theorem ApI.grow {S:List Sc} {ins:List Bool} {i un:Nat} {U:List (List Bool)} {x:List Bool} (h:ApI S ins i U) (hn:S.length=un) (hx:x.length=un/\∀ q,q < un->x[q]?=some (unZ S ins i q)):ApI S ins (i+1) (U ++ [x]):=by
 refine ⟨by simp [h.ln],fun r hr=>?_,fun a b ha hb=>?_⟩
 ·rcases List.mem_append.1 hr with h1 | h1
  ·exact h.sq r h1
  ·rw [List.mem_singleton.1 h1,hx.1,hn]
 ·by_cases e:a=i
  ·subst e
   unfold unG
   rw [List.getElem?_append_right (by rw [h.ln];omega),h.ln,Nat.sub_self]
   simp only [List.getElem?_cons_zero,Option.getD_some]
   rw [hx.2 b (by omega)];rfl
  ·rw [<-h.eq a b (by omega) hb]
   unfold unG
   rw [List.getElem?_append_left (by rw [h.ln];omega)]
theorem ApI.un {S:List Sc} {ins:List Bool} {j:Nat} {U:List (List Bool)} (h:ApI S ins S.length U) (hu:unitsR S=true) (hin:ins.length=S.length) (hfx:nextP S ins (foldN S ins j)=foldN S ins j):UnI S ins (endL ins (foldN S ins j)) U:=
 unI_start hu hin hfx ⟨h.ln,h.sq⟩ (fun i k hi hk=>h.eq i k hi hk)
end Go.Proofs.YtbabckomagkjbaaGreatDoor
