/- fold, plain: parting by signs, till nothing turns. fold: Alike. fold: the first sign of a unit. fold: the finer sign of a unit. fold: the map that is keyed by signs; the two closures. fold: parted. fold: the two closures. fold: Fold. fold, plain: what the laws ask of what is told; rows of bools as an argument. -/
import Derived.Test.YtobdldadfipcgaaGreatDoorw1
import Derived.Lib.ItoaNum
import Derived.Lib.ItoaLen
import Derived.DeepKeys4
import Derived.Maps.Own
import Derived.Maps.OwnOps
import Derived.Test.YtobdldadfipcgaaGreatDoorShelf
import Derived.Scope
import Derived.WalkMore
import Derived.Deep.Grids
set_option maxRecDepth 100000
set_option maxHeartbeats 1500000
set_option linter.unusedVariables false
set_option linter.unusedSimpArgs false
namespace Go.Proofs.YtobdldadfipcgaaGreatDoor
open Go.ChangeShapes Go.WideShapes Go.Deep Go.RowKit
def encT (l:List Int):List UInt8:=l.flatMap (fun n=>Lib.itoa n ++ [32])
theorem encT_cons (x:Int) (l:List Int):encT (x :: l)=Lib.itoa x ++ 32 :: encT l:=by
 show (Lib.itoa x ++ [32]) ++ encT l=_
 rw [List.append_assoc];rfl
structure Sg where
 part:Int
 data:List UInt8
 refs:List UInt8
deriving DecidableEq
section
variable (ok:Nat->Bool) (sg:Nat->Sg)
def partG (k:Nat):Nat:=if ok k=true then ((List.range (k+1)).find? (fun j=>ok j && decide (sg j=sg k))).getD k else k
variable {ok sg}
theorem partG_not {k:Nat} (h:ok k=false):partG ok sg k=k:=by unfold partG;rw [if_neg (by rw [h];simp)]
theorem partG_ok {k:Nat} (h:ok k=true):partG ok sg k<=k/\ok (partG ok sg k)=true/\sg (partG ok sg k)=sg k/\∀ j,j < partG ok sg k->ok j=true->sg j ≠ sg k:=by
 unfold partG
 rw [if_pos h]
 cases hf:(List.range (k+1)).find? (fun j=>ok j && decide (sg j=sg k)) with
 | none=>
  have:=List.find?_eq_none.1 hf k (by simp)
  simp [h] at this
 | some p=>
  have h1:=List.find?_some hf
  have h2:=List.mem_of_find?_eq_some hf
  simp only [Bool.and_eq_true,decide_eq_true_eq] at h1
  simp only [Option.getD_some]
  refine ⟨by simpa [Nat.lt_succ_iff] using h2,h1.1,h1.2,fun j hj hoj hsj=>?_⟩
  obtain ⟨-,aa,bb,hl,hno⟩:=List.find?_eq_some_iff_append.1 hf
  have hlt:p < k+1:=by simpa using h2
  have hjm:j ∈ List.range (k+1):=by simp;omega
  rw [hl] at hjm
  rcases List.mem_append.1 hjm with hm | hm
  ·have:=hno j hm
   simp [hoj,hsj] at this
  ·have hso:=List.pairwise_lt_range (n:=k+1)
   rw [hl] at hso
   have h3:=(List.pairwise_append.1 hso).2.1
   rcases List.mem_cons.1 hm with e | hm
   ·omega
   ·have:=(List.pairwise_cons.1 h3).1 j hm
    omega
theorem partG_eq {i k:Nat} (hi:ok i=true) (hk:ok k=true):partG ok sg i=partG ok sg k ↔ sg i=sg k:=by
 obtain ⟨-,a1,a2,a3⟩:=partG_ok (sg:=sg) hi
 obtain ⟨-,b1,b2,b3⟩:=partG_ok (sg:=sg) hk
 constructor
 ·intro h;rw [<-a2,h,b2]
 ·intro h
  rcases Nat.lt_trichotomy (partG ok sg i) (partG ok sg k) with hl | hl | hl
  ·exact absurd (a2.trans h) (b3 _ hl a1)
  ·exact hl
  ·exact absurd (b2.trans h.symm) (a3 _ hl b1)
theorem partG_both {i k:Nat} (h:partG ok sg i=partG ok sg k) (hne:i ≠ k):ok i=true/\ok k=true:=by
 cases hi:ok i
 ·rw [partG_not hi] at h
  cases hk:ok k
  ·rw [partG_not hk] at h;exact absurd h hne
  ·have:=(partG_ok (sg:=sg) hk).2.1
   rw [<-h,hi] at this;cases this
 ·cases hk:ok k
  ·rw [partG_not hk] at h
   have:=(partG_ok (sg:=sg) hi).2.1
   rw [h,hk] at this;cases this
  ·exact ⟨rfl,rfl⟩
end
def partZ (n:Nat) (ok:Nat->Bool) (sg:Nat->Sg):List Int:=(List.range n).map (fun k=>((partG ok sg k:Nat):Int))
theorem partZ_get {n:Nat} {ok:Nat->Bool} {sg:Nat->Sg} {k:Nat} (h:k < n):(partZ n ok sg)[k]?=some ((partG ok sg k:Nat):Int):=by
 unfold partZ
 rw [List.getElem?_map,List.getElem?_range h];rfl
def okU (L:List Sc) (ins:List Bool) (k:Nat):Bool:=(ins[k]? == some true) && (match L[k]? with | some s=>decide (s.kind=1) | none=>false)
def num3 (r:Rl):List Int:=[r.pos,r.kind,r.add]
def sgnA (L:List Sc) (k:Nat):Sg:=match L[k]? with | some s=>⟨0,s.data,encT (s.rels.flatMap num3)⟩ | none=>⟨0,[],[]⟩
def refsP (P:List Int) (s:Sc):List Int:=s.rels.map (fun r=>(P[r.sym.toNat]?).getD 0)
def sgnB (L:List Sc) (P:List Int) (k:Nat):Sg:=⟨(P[k]?).getD 0,[],match L[k]? with | some s=>encT (refsP P s) | none=>[]⟩
def nextP (L:List Sc) (ins:List Bool) (P:List Int):List Int:=partZ L.length (okU L ins) (sgnB L P)
def IsP (L:List Sc) (ins:List Bool) (P:List Int):Prop:=∃ sg,P=partZ L.length (okU L ins) sg
theorem next_finer {L:List Sc} {ins:List Bool} {P:List Int} {i k:Nat} (hp:IsP L ins P) (hi:i < L.length) (hk:k < L.length) (h:(nextP L ins P)[i]?=(nextP L ins P)[k]?):P[i]?=P[k]?:=by
 by_cases e:i=k
 ·rw [e]
 unfold nextP at h
 rw [partZ_get hi,partZ_get hk] at h
 have h1:partG (okU L ins) (sgnB L P) i=partG (okU L ins) (sgnB L P) k:=by have:=Option.some.inj h;omega
 obtain ⟨o1,o2⟩:=partG_both h1 e
 have h2:=(partG_eq o1 o2).1 h1
 have h3:=congrArg Sg.part h2
 obtain ⟨sg,rfl⟩:=hp
 simp only [sgnB,partZ_get hi,partZ_get hk,Option.getD_some] at h3
 rw [partZ_get hi,partZ_get hk,h3]
structure Fix (L:List Sc) (ins:List Bool) (P:List Int):Prop where
 isP:IsP L ins P
 alike:∀ (i k:Nat),i < L.length->k < L.length->okU L ins i=true->okU L ins k=true->P[i]?=P[k]?->sgnA L i=sgnA L k
 coarse:∀ Q:Nat->Int,(∀ (i k:Nat),i < L.length->k < i->ins[i]?=some true->ins[k]?=some true->Q i=Q k->okU L ins i=true/\okU L ins k=true/\sgnA L i=sgnA L k/\∀ (s t:Sc),L[i]?=some s->L[k]?=some t->s.rels.length=t.rels.length/\∀ (j:Nat) (r r':Rl),s.rels[j]?=some r->t.rels[j]?=some r'->r.sym.toNat=r'.sym.toNat\/(r.sym.toNat < L.length/\r'.sym.toNat < L.length/\ins[r.sym.toNat]?=some true/\ins[r'.sym.toNat]?=some true/\Q r.sym.toNat=Q r'.sym.toNat))->
  ∀ (i k:Nat),i < L.length->k < L.length->ins[i]?=some true->ins[k]?=some true->Q i=Q k->P[i]?=P[k]?
theorem refsP_eq {L:List Sc} {ins:List Bool} {P:List Int} {Q:Nat->Int} (hP:∀ (i k:Nat),i < L.length->k < L.length->ins[i]?=some true->ins[k]?=some true->Q i=Q k->P[i]?=P[k]?) {s t:Sc} (hlen:s.rels.length=t.rels.length)
  (h:∀ (j:Nat) (r r':Rl),s.rels[j]?=some r->t.rels[j]?=some r'->r.sym.toNat=r'.sym.toNat\/(r.sym.toNat < L.length/\r'.sym.toNat < L.length/\ins[r.sym.toNat]?=some true/\ins[r'.sym.toNat]?=some true/\Q r.sym.toNat=Q r'.sym.toNat)):refsP P s=refsP P t:=by
 unfold refsP
 apply List.ext_getElem?
 intro j
 rw [List.getElem?_map,List.getElem?_map]
 by_cases hj:j < s.rels.length
 ·rw [List.getElem?_eq_getElem hj,List.getElem?_eq_getElem (by omega)]
  simp only [Option.map_some,Option.some.injEq]
  rcases h j _ _ (List.getElem?_eq_getElem hj) (List.getElem?_eq_getElem (by omega)) with e | ⟨h1,h2,h3,h4,h5⟩
  ·rw [e]
  ·rw [hP _ _ h1 h2 h3 h4 h5]
 ·rw [List.getElem?_eq_none (by omega),List.getElem?_eq_none (by omega)]
theorem okU_lt {L:List Sc} {ins:List Bool} {k:Nat} (h:okU L ins k=true):k < L.length/\ins[k]?=some true/\∃ s,L[k]?=some s/\s.kind=1:=by
 unfold okU at h
 simp only [Bool.and_eq_true,beq_iff_eq] at h
 obtain ⟨h1,h2⟩:=h
 cases hs:L[k]? with
 | none=>rw [hs] at h2;cases h2
 | some s=>
  rw [hs] at h2
  exact ⟨(List.getElem?_eq_some_iff.1 hs).1,h1,s,rfl,of_decide_eq_true h2⟩
theorem Fix.next {L:List Sc} {ins:List Bool} {P:List Int} (h:Fix L ins P):Fix L ins (nextP L ins P):=by
 refine ⟨⟨_,rfl⟩,?_,?_⟩
 ·intro i k hi hk oi ok he
  exact h.alike i k hi hk oi ok (next_finer h.isP hi hk he)
 ·intro Q hQ i k hi hk ii ik hq
  have hP:=h.coarse Q hQ
  have key:∀ i k,i < L.length->k < i->ins[i]?=some true->ins[k]?=some true->Q i=Q k->partG (okU L ins) (sgnB L P) i=partG (okU L ins) (sgnB L P) k:=by
   intro i k hi hk ii ik hq
   obtain ⟨o1,o2,-,h4⟩:=hQ i k hi hk ii ik hq
   refine (partG_eq o1 o2).2 ?_
   obtain ⟨-,-,s,hs,-⟩:=okU_lt o1
   obtain ⟨-,-,t,ht,-⟩:=okU_lt o2
   obtain ⟨h5,h6⟩:=h4 s t hs ht
   unfold sgnB
   rw [hs,ht,hP i k hi (by omega) ii ik hq]
   simp only []
   rw [refsP_eq hP h5 h6]
  unfold nextP
  rw [partZ_get hi,partZ_get hk]
  rcases Nat.lt_trichotomy i k with hl | hl | hl
  ·rw [key k i hk hl ik ii hq.symm]
  ·rw [hl]
  ·rw [key i k hi hl ii ik hq]
end Go.Proofs.YtobdldadfipcgaaGreatDoor
namespace Go.Proofs.YtobdldadfipcgaaGreatDoor
open Go.ChangeShapes Go.WideShapes Go.Deep Go.RowKit
def alR (x y:Rl):Bool:=x.pos == y.pos && (x.kind == y.kind && x.add == y.add)
def alRs (a b:List Rl):Bool:=decide (a.length=b.length) && (a.zip b).all (fun p=>alR p.1 p.2)
def alikeB (s t:Sc):Bool:=decide (s.kind=1) && (decide (t.kind=1) && (decide (s.data=t.data) && alRs s.rels t.rels))
abbrev rfV (x:Rl):Value:=.agg #[.int .i64 x.pos,.int .i64 x.kind,.int .i64 x.sym,.int .i64 x.add]
theorem neq_rf (x y:Rl):∀ w,(Sem.run Tryz.prog (binOp BinOp.neq 61 (rfV x) (rfV y)) w)=Result.ok (.bool (!sameRl x y)) w:=by
 intro w
 obtain ⟨p,k,s,a⟩:=x
 obtain ⟨p',k',s',a'⟩:=y
 simp [go_sem,sameRl]
 repeat' split
 all_goals first | (simp_all;done) | (simp_all;omega)
theorem alRs_iff {a b:List Rl} (h:a.length=b.length):alRs a b=true ↔ ∀ (j:Nat) (r r':Rl),a[j]?=some r->b[j]?=some r'->alR r r'=true:=by
 unfold alRs
 rw [decide_eq_true h,Bool.true_and,List.all_eq_true]
 constructor
 ·intro hall j r r' hr hr'
  exact hall (r,r') (List.mem_of_getElem? (i:=j) (by rw [List.getElem?_zip_eq_some];exact ⟨hr,hr'⟩))
 ·intro hall p hp
  obtain ⟨j,hj⟩:=List.getElem?_of_mem hp
  rw [List.getElem?_zip_eq_some] at hj
  exact hall j _ _ hj.1 hj.2
abbrev uCe (N:ByteArray) (ki:Int) (kp:Bool) (al:Int) (D:ByteArray) (a:Option Addr) (n c:Nat):Array Value:=#[.string N,.int .i64 ki,.bool kp,.int .i64 al,.string D,.slice a n c]
theorem alike_any (N D N' D':ByteArray) (ki ki' al al':Int) (kp kp':Bool) (a a':Option Addr) (n n' c c':Nat) (l l':List Rl) (w:World) (hn:n<=1000000) (hn':n'<=1000000) (hs:SL rlC 4 w w.heap.size a n l) (hs':SL rlC 4 w w.heap.size a' n' l') (nm nm':List UInt8):
  Calls Tryz.prog 45 #[.agg (uCe N ki kp al D a n c),.agg (uCe N' ki' kp' al' D' a' n' c')] w (RetB (.bool (alikeB ⟨nm,ki,kp,al,D.data.toList,l⟩ ⟨nm',ki',kp',al',D'.data.toList,l'⟩)) w):=by
 obtain ⟨R,hR⟩:∃ R,R=alikeB ⟨nm,ki,kp,al,D.data.toList,l⟩ ⟨nm',ki',kp',al',D'.data.toList,l'⟩:=⟨_,rfl⟩
 rw [<-hR]
 unfold alikeB at hR
 simp only [] at hR
 obtain ⟨P,hP⟩:∃ P,P=w.heap.size:=⟨_,rfl⟩
 obtain ⟨A1,hA1⟩:∃ A,A=w.alloc (.cells (uCe N ki kp al D a n c) 41):=⟨_,rfl⟩
 obtain ⟨A2,hA2⟩:∃ A,A=A1.alloc (.cells (uCe N' ki' kp' al' D' a' n' c') 41):=⟨_,rfl⟩
 have hz1:A1.heap.size=P+1:=by rw [hA1,World.size_alloc,hP]
 have hb1:Below w.heap.size w A1:=by rw [hA1];exact lit_below w _
 have hb2:Below A1.heap.size A1 A2:=by rw [hA2];exact lit_below A1 _
 have HB:=Lib.hid (after hb1 hb2)
 have HX:Hid (RB A2 P (uCe N ki kp al D a n c) 41):=Lib.hid (by
  have:RB A1 P (uCe N ki kp al D a n c) 41:=by rw [hA1,hP];exact rb_new w _ _
  exact this.next hb2)
 have HY:Hid (RB A2 (P+1) (uCe N' ki' kp' al' D' a' n' c') 41):=Lib.hid (by rw [hA2,<-hz1];exact rb_new A1 _ _)
 have x1:A2.cell? ⟨P,1,none⟩=some (.int .i64 ki):=HX.out.cell
 have x4:A2.cell? ⟨P,4,none⟩=some (.string D):=HX.out.cell
 have x5:A2.cell? ⟨P,5,none⟩=some (.slice a n c):=HX.out.cell
 have y1:A2.cell? ⟨P+1,1,none⟩=some (.int .i64 ki'):=HY.out.cell
 have y4:A2.cell? ⟨P+1,4,none⟩=some (.string D'):=HY.out.cell
 have y5:A2.cell? ⟨P+1,5,none⟩=some (.slice a' n' c'):=HY.out.cell
 rw [hA2,hA1] at x1 x4 x5 y1 y4 y5
 rw [hP] at x1 x4 x5 y1 y4 y5
 have HAE:Hid ((w.alloc (.cells (uCe N ki kp al D a n c) 41)).alloc (.cells (uCe N' ki' kp' al' D' a' n' c') 41)=A2):=Lib.hid (by rw [hA2,hA1])
 have HP:=Lib.hid hP
 have hni:(n:Int)<=1000000:=by omega
 have hni':(n':Int)<=1000000:=by omega
 have HS:=Lib.hid hs
 have HS':=Lib.hid hs'
 have HLn:=Lib.hid hs.len
 have HLn':=Lib.hid hs'.len
 clear hA1 hA2 hz1 hb1 hb2 hP hs hs'
 by_cases e1:ki=1
 ·have t1:(ki != 1)=false:=by simp [e1]
  rw [decide_eq_true e1,Bool.true_and] at hR
  by_cases e2:ki'=1
  ·have t2:(ki' != 1)=false:=by simp [e2]
   rw [decide_eq_true e2,Bool.true_and] at hR
   by_cases e3:D=D'
   ·have t3:(D.toList == D'.toList)=true:=by rw [e3];simp
    have t3':(D.toList != D'.toList)=false:=by simp only [bne,t3];rfl
    rw [decide_eq_true (by rw [e3]),Bool.true_and] at hR
    by_cases e4:n=n'
    ·subst e4
     have hll:l.length=l'.length:=by rw [<-HLn.out,<-HLn'.out]
     have HIff:=Lib.hid (alRs_iff hll)
     have HR:=Lib.hid hR
     have t4:((n:Int) != (n:Int))=false:=by simp
     clear hR e1 e2 hll
     subst e3
     go_enter Tryz.func45,Tryz.ntmps45
     go_wp2
     rw [HAE.out,<-HP.out]
     clear x1 x4 x5 y1 y4 y5 t1 t2 t3 t3' t4
     go_loopw [34] (fun i wr=>∃ (k:Nat) (wx:World),wx=wr/\k<=n/\i=.int .i64 k/\Hid (Below A2.heap.size A2 wx/\∀ (j:Nat) (r r':Rl),j < k->l[j]?=some r->l'[j]?=some r'->alR r r'=true)) (fun i _=>n - (intOf i).toNat)
     case atStart=>exact ⟨0,_,rfl,by omega,rfl,Lib.hid ⟨Below.refl _ _,fun j r r' h=>by omega⟩⟩
     case round=>
      obtain ⟨k,wx,rfl,hk,rfl,HK⟩:=hrel
      have HBx:=Lib.hid (after HB.out HK.out.1)
      by_cases hlt:k < n
      ·have hlti:(k:Int) < (n:Int):=by omega
       have hk1:k < l.length:=by have:=HLn.out;omega
       have hk2:k < l'.length:=by have:=HLn'.out;omega
       obtain ⟨b1,o1,hae1,hB1,hc1⟩:=(HS.out.next HBx.out).cells (by intro e;rw [e] at hk1;simp at hk1)
       subst hae1
       obtain ⟨b2,o2,hae2,hB2,hc2⟩:=(HS'.out.next HBx.out).cells (by intro e;rw [e] at hk2;simp at hk2)
       subst hae2
       obtain ⟨c0,c1,c2,c3⟩:=rl_cells (fun q hq=>hc1 k hk1 q hq)
       obtain ⟨d0,d1,d2,d3⟩:=rl_cells (fun q hq=>hc2 k hk2 q hq)
       obtain ⟨x,hx⟩:∃ x,x=l[k]:=⟨_,rfl⟩
       obtain ⟨y,hy⟩:∃ y,y=l'[k]:=⟨_,rfl⟩
       have HXx:Hid (l[k]?=some x):=Lib.hid (by rw [hx];exact List.getElem?_eq_getElem hk1)
       have HYy:Hid (l'[k]?=some y):=Lib.hid (by rw [hy];exact List.getElem?_eq_getElem hk2)
       rw [<-hx] at c0 c1 c2 c3
       rw [<-hy] at d0 d1 d2 d3
       clear hc1 hc2 hB1 hB2 hx hy
       obtain ⟨xp,xk,xs,xa⟩:=x
       obtain ⟨yp,yk,ys,ya⟩:=y
       simp only [] at c0 c1 c2 c3 d0 d1 d2 d3
       obtain ⟨V,hV⟩:∃ V,V=wx.heap.size:=⟨_,rfl⟩
       obtain ⟨Wa,hWa⟩:∃ x,x=wx.alloc (.cells #[.int .i64 xp,.int .i64 xk,.int .i64 xs,.int .i64 xa] 61):=⟨_,rfl⟩
       obtain ⟨Wb,hWb⟩:∃ x,x=wx.alloc (.cells #[.int .i64 xp,.int .i64 xk,.int .i64 ys,.int .i64 xa] 61):=⟨_,rfl⟩
       have hba:Below wx.heap.size wx Wa:=by rw [hWa];exact lit_below wx _
       have hbb:Below wx.heap.size wx Wb:=by rw [hWb];exact lit_below wx _
       have HBb:=Lib.hid (after HK.out.1 hbb)
       have y5:Wa.cell? ⟨P+1,5,none⟩=some (.slice (some ⟨b2,o2,none⟩) n c'):=(HY.out.next (after HK.out.1 hba)).cell
       have z5:Wb.cell? ⟨P+1,5,none⟩=some (.slice (some ⟨b2,o2,none⟩) n c'):=(HY.out.next HBb.out).cell
       have f2:Wa.cell? ⟨b2,o2+k*4+2,none⟩=some (.int .i64 ys):=(hba.cell (p:=⟨b2,o2+k*4+2,none⟩) (cell_lt d2)).trans d2
       have g0:Wb.cell? ⟨b2,o2+k*4,none⟩=some (.int .i64 yp):=(hbb.cell (p:=⟨b2,o2+k*4,none⟩) (cell_lt d0)).trans d0
       have g1:Wb.cell? ⟨b2,o2+k*4+1,none⟩=some (.int .i64 yk):=(hbb.cell (p:=⟨b2,o2+k*4+1,none⟩) (cell_lt d1)).trans d1
       have g2:Wb.cell? ⟨b2,o2+k*4+2,none⟩=some (.int .i64 ys):=(hbb.cell (p:=⟨b2,o2+k*4+2,none⟩) (cell_lt d2)).trans d2
       have g3:Wb.cell? ⟨b2,o2+k*4+3,none⟩=some (.int .i64 ya):=(hbb.cell (p:=⟨b2,o2+k*4+3,none⟩) (cell_lt d3)).trans d3
       have hrv:RB Wb V #[.int .i64 xp,.int .i64 xk,.int .i64 ys,.int .i64 xa] 61:=by rw [hWb,hV];exact rb_new wx _ _
       have v0:Wb.cell? ⟨V,0,none⟩=some (.int .i64 xp):=hrv.cell
       have v1:Wb.cell? ⟨V,1,none⟩=some (.int .i64 xk):=hrv.cell
       have v2:Wb.cell? ⟨V,2,none⟩=some (.int .i64 ys):=hrv.cell
       have v3:Wb.cell? ⟨V,3,none⟩=some (.int .i64 xa):=hrv.cell
       rw [hWa] at y5 f2
       rw [hWb] at z5 g0 g1 g2 g3 v0 v1 v2 v3
       rw [hV] at v0 v1 v2 v3
       have HWE:Hid (wx.alloc (.cells #[.int .i64 xp,.int .i64 xk,.int .i64 ys,.int .i64 xa] 61)=Wb):=Lib.hid hWb.symm
       have hnq:=neq_rf ⟨xp,xk,ys,xa⟩ ⟨yp,yk,ys,ya⟩
       have hsm:sameRl ⟨xp,xk,ys,xa⟩ ⟨yp,yk,ys,ya⟩=alR ⟨xp,xk,xs,xa⟩ ⟨yp,yk,ys,ya⟩:=by simp [sameRl,alR]
       rw [hsm] at hnq
       simp only [rfV] at hnq
       clear hsm hWa hWb hba hbb hrv hV d0 d1 d2 d3
       cases e:alR ⟨xp,xk,xs,xa⟩ ⟨yp,yk,ys,ya⟩
       ·have HE:Hid (R=false):=Lib.hid (by
         rw [HR.out]
         cases ha:alRs l l'
         ·rfl
         ·have:=(HIff.out.1 ha) k _ _ HXx.out HYy.out
          rw [e] at this;cases this)
        rw [e] at hnq
        clear e
        go_wp2
        rw [HWE.out]
        rw [HWE.out] at z5 g0 g1 g2 g3 v0 v1 v2 v3
        go_quiet (fail)
        go_wp2
        go_ret
        exact retB_bool HE.out.symm (below_drewN (after HB.out HBb.out) _)
       ·have HE:=Lib.hid e
        rw [e] at hnq
        clear e
        go_wp2
        rw [HWE.out]
        rw [HWE.out] at z5 g0 g1 g2 g3 v0 v1 v2 v3
        go_quiet (fail)
        go_wp2
        go_roundw
        case rel=>
         refine ⟨k+1,_,rfl,by omega,by go_num,Lib.hid ⟨below_drewN HBb.out _,fun j r r' hj hr hr'=>?_⟩⟩
         by_cases ejk:j=k
         ·subst ejk
          rw [HXx.out] at hr
          rw [HYy.out] at hr'
          cases hr
          cases hr'
          exact HE.out
         ·exact HK.out.2 j r r' (by omega) hr hr'
        case measure=>simp [intOf];omega
      ·have hlti:¬ (k:Int) < (n:Int):=by omega
       have HE:Hid (R=true):=Lib.hid (by
        rw [HR.out]
        refine HIff.out.2 (fun j r r' hr hr'=>HK.out.2 j r r' ?_ hr hr')
        have h1:=(List.getElem?_eq_some_iff.1 hr).1
        have:=HLn.out
        omega)
       go_wp2
       go_ret
       exact retB_bool HE.out.symm HBx.out
    ·have t4:((n:Int) != (n':Int))=true:=by rw [bne_iff_ne];omega
     have HR:Hid (R=false):=Lib.hid (by rw [hR];unfold alRs;rw [decide_eq_false (by rw [<-HLn.out,<-HLn'.out];exact e4)];rfl)
     clear hR e1 e2 e4
     subst e3
     go_enter Tryz.func45,Tryz.ntmps45
     go_wp2
     rw [HAE.out]
     go_ret
     exact retB_bool HR.out.symm HB.out
   ·have hne:D.data.toList ≠ D'.data.toList:=fun h=>e3 (ByteArray.ext (Array.toList_inj.1 h))
    have t3:(D.toList == D'.toList)=false:=by rw [beq_eq_false_iff_ne,ByteArray.toList_eq,ByteArray.toList_eq];exact hne
    have t3':(D.toList != D'.toList)=true:=by simp only [bne,t3];rfl
    have HR:Hid (R=false):=Lib.hid (by rw [hR,decide_eq_false hne];rfl)
    clear hR e1 e2 e3 hne
    go_enter Tryz.func45,Tryz.ntmps45
    go_wp2
    rw [HAE.out]
    go_ret
    exact retB_bool HR.out.symm HB.out
  ·have t2:(ki' != 1)=true:=by simp [e2]
   have HR:Hid (R=false):=Lib.hid (by rw [hR,decide_eq_false e2];rfl)
   clear hR e1 e2
   go_enter Tryz.func45,Tryz.ntmps45
   go_wp2
   rw [HAE.out]
   go_ret
   exact retB_bool HR.out.symm HB.out
 ·have t1:(ki != 1)=true:=by simp [e1]
  have HR:Hid (R=false):=Lib.hid (by rw [hR,decide_eq_false e1];rfl)
  clear hR e1
  go_enter Tryz.func45,Tryz.ntmps45
  go_wp2
  rw [HAE.out]
  go_ret
  exact retB_bool HR.out.symm HB.out
end Go.Proofs.YtobdldadfipcgaaGreatDoor
namespace Go.Proofs.YtobdldadfipcgaaGreatDoor
open Go.ChangeShapes Go.WideShapes Go.Deep Go.RowKit
theorem owns_next {w w':World} {base:Nat} {e:TypeId} {size:Nat} {v:Value} {n:Nat} {xs:List Value} (h:w.ownsRow base e size v n xs) (hb:Below w.heap.size w w'):w'.ownsRow base e size v n xs:=by
 refine ⟨h.1,?_⟩
 rcases h.2 with hn | ⟨g,cap,cur,rfl,hbg,hgg,rest⟩
 ·exact .inl hn
 ·exact .inr ⟨g,cap,cur,rfl,hbg,(hb.block g (lt_of_block hgg)).trans hgg,rest⟩
theorem encT_len (l:List Int) (h:∀ x ∈ l,i64ok x):(encT l).length<=22*l.length:=by
 induction l with
 | nil=>simp [encT]
 | cons x t ih=>
  have h1:=Lib.itoa_length_le x (h x (List.mem_cons_self ..)).1 (h x (List.mem_cons_self ..)).2
  have h2:=ih (fun y hy=>h y (List.mem_cons_of_mem _ hy))
  rw [encT_cons,List.length_append,List.length_cons,List.length_cons]
  omega
end Go.Proofs.YtobdldadfipcgaaGreatDoor
namespace Go.Proofs.YtobdldadfipcgaaGreatDoor
open Go.ChangeShapes Go.WideShapes Go.Deep Go.RowKit
theorem ints_cells {w:World} {pb po pn:Nat} {P:List Int} (h:SL enZ 1 w w.heap.size (some ⟨pb,po,none⟩) pn P) {u:World} (hu:Below w.heap.size w u) {q:Nat} {v:Int} (hq:P[q]?=some v):u.cell? ⟨pb,po+q,none⟩=some (.int .i64 v):=by
 have hl:=(List.getElem?_eq_some_iff.1 hq).1
 have hv:=(List.getElem?_eq_some_iff.1 hq).2
 obtain ⟨b,off,e,hB,hc⟩:=(h.next hu).cells (by intro e;rw [e] at hl;simp at hl)
 cases e
 have d0:=hc q hl 0 (by decide)
 simp only [enZ,Nat.add_zero,Nat.mul_one,List.getElem?_cons_zero] at d0
 rw [d0,hv]
end Go.Proofs.YtobdldadfipcgaaGreatDoor
namespace Go.Proofs.YtobdldadfipcgaaGreatDoor
open Go.ChangeShapes Go.WideShapes Go.Deep Go.RowKit
abbrev sgV (x:Sg):Value:=.agg #[.int .i64 x.part,.string ⟨x.data.toArray⟩,.string ⟨x.refs.toArray⟩]
structure GoodSg (x:Sg):Prop where
 part:i64ok x.part
 data:x.data.length<=maxLen
 refs:x.refs.length<=maxLen
def entS (p:Sg × Nat):Value × Value:=(sgV p.1,.int .i64 p.2)
structure SMs (es:Array MapEntry) (l:List (Sg × Nat)):Prop where
 eq:es.toList.map (fun e=>(e.key,e.val))=l.map entS
 gd:∀ p ∈ l,GoodSg p.1
 nd:(l.map (·.1)).Nodup
def lookS (l:List (Sg × Nat)) (s:Sg):Option Nat:=(l.find? (fun p=>decide (p.1=s))).map (·.2)
def SM (w:World) (b:Nat) (F:Sg->Option Nat):Prop:=∃ es clock l,w.heap[b]?=some (.map es clock)/\SMs es l/\∀ s,F s=lookS l s
theorem SM.same {w w':World} {b:Nat} {F:Sg->Option Nat} (h:SM w b F) (hb:w'.heap[b]?=w.heap[b]?):SM w' b F:=by
 obtain ⟨es,clock,l,h1,h2⟩:=h
 exact ⟨es,clock,l,hb.trans h1,h2⟩
theorem SM.lt {w:World} {b:Nat} {F:Sg->Option Nat} (h:SM w b F):b < w.heap.size:=by
 obtain ⟨es,clock,l,h1,h2⟩:=h
 exact lt_of_block h1
theorem SM.none (w:World) (b:Nat) (h:w.heap[b]?=some (.map #[] 0)):SM w b (fun _=>none):=
 ⟨#[],0,[],h,⟨rfl,by simp,List.nodup_nil⟩,fun _=>rfl⟩
end Go.Proofs.YtobdldadfipcgaaGreatDoor
namespace Go.Proofs.YtobdldadfipcgaaGreatDoor
open Go.ChangeShapes Go.WideShapes Go.Deep Go.RowKit
abbrev inA (l:List Int):Array Value:=(l.map (Value.int .i64)).toArray
theorem inA_get {l:List Int} {k:Nat} {b:Int} (h:l[k]?=some b):(inA l)[k]?=some (.int .i64 b):=by
 show (l.map (Value.int .i64)).toArray[k]?=_
 simp [h]
theorem inA_set (l:List Int) (k:Nat) (b:Int):(inA l).setIfInBounds k (.int .i64 b)=inA (l.set k b):=by
 simp [inA,List.map_set]
theorem make_ints (n:Nat) (hn:n<=1000000) (w:World):(Instr.makeSlice 23 (.int .i64 (n:Int)) (.int .i64 (n:Int))).run Tryz.prog w=.ok (.slice (some ⟨w.heap.size,0,none⟩) n n) (w.alloc (.cells (inA (List.replicate n 0)) 3)):=by
 obtain ⟨i0,hi0,hz0,hz1,hz2⟩:=info_parts info_intG
 have:=run_makeSlice (P:=Tryz.prog) w 23 3 i0 (.int .i64 0) Tryz.underlying23 hi0 hz0 .i64 .i64 n n (by omega) (by omega) (by rw [hz1];omega) (by rw [hz2];omega) (by omega)
 rw [hz1] at this
 simp only [Int.toNat_natCast,Nat.mul_one] at this
 rw [this,show madeCells (Value.int .i64 0).cells n=inA (List.replicate n 0) from by
  apply Array.ext
  ·rw [size_madeCells];simp
  ·intro i h1 h2
   have:i % 1=0:=Nat.mod_one i
   simp [madeCells,inA,Value.cells,this]]
end Go.Proofs.YtobdldadfipcgaaGreatDoor
namespace Go.Proofs.YtobdldadfipcgaaGreatDoor
open Go.ChangeShapes Go.WideShapes Go.Deep Go.RowKit
theorem unit_cells {w:World} {ub uo n:Nat} {L:List Ms} (h:SL msC 6 w w.heap.size (some ⟨ub,uo,none⟩) n L) {u:World} (hu:Below w.heap.size w u) {k:Nat} {m:Ms} (hk:L[k]?=some m):
  u.cell? ⟨ub,uo+k*6,none⟩=some (.string ⟨m.sc.name.toArray⟩)/\u.cell? ⟨ub,uo+k*6+1,none⟩=some (.int .i64 m.sc.kind)/\u.cell? ⟨ub,uo+k*6+2,none⟩=some (.bool m.sc.keep)/\u.cell? ⟨ub,uo+k*6+3,none⟩=some (.int .i64 m.sc.align)/\u.cell? ⟨ub,uo+k*6+4,none⟩=some (.string ⟨m.sc.data.toArray⟩)/\u.cell? ⟨ub,uo+k*6+5,none⟩=some (.slice m.ad m.sc.rels.length m.cap):=by
 have hl:=(List.getElem?_eq_some_iff.1 hk).1
 have hv:=(List.getElem?_eq_some_iff.1 hk).2
 obtain ⟨b,off,e,hB,hc⟩:=(h.next hu).cells (by intro e;rw [e] at hl;simp at hl)
 cases e
 have:=ms_cells (fun q hq=>hc k hl q hq)
 rw [hv] at this
 exact this
end Go.Proofs.YtobdldadfipcgaaGreatDoor
namespace Go.Proofs.YtobdldadfipcgaaGreatDoor
open Go.ChangeShapes Go.WideShapes Go.Deep Go.RowKit
theorem goodB {L:List Sc} (hg:∀ s ∈ L,s.rels.length<=64) {P:List Int} (hP:∀ x ∈ P,i64ok x) (k:Nat):GoodSg (sgnB L P k):=by
 have hz:i64ok 0:=by unfold i64ok;simp
 have key:∀ q:Nat,i64ok ((P[q]?).getD 0):=by
  intro q
  cases h:P[q]? with
  | none=>exact hz
  | some v=>exact hP v (List.mem_of_getElem? h)
 unfold sgnB
 refine ⟨key k,by simp [maxLen],?_⟩
 cases h:L[k]? with
 | none=>simp [maxLen]
 | some s=>
  have h4:=encT_len (refsP P s) (by
   intro x hx
   unfold refsP at hx
   obtain ⟨r,-,rfl⟩:=List.mem_map.1 hx
   exact key _)
  have h5:(refsP P s).length<=64:=by unfold refsP;rw [List.length_map];exact hg s (List.mem_of_getElem? h)
  show (encT (refsP P s)).length<=_
  unfold maxLen;omega
structure FI (w:World) (c2 Z:Nat) (ua:Option Addr) (n uc:Nat) (P:List Int) (u:World):Prop where
 kk:Below w.heap.size w u
 bx:RB u w.heap.size #[.slice ua n uc] 22
 bp:RB u c2 #[.slice (some ⟨Z,0,none⟩) n n] 23
 ps:RB u Z (inA P) 3
 le:w.heap.size < c2
 ne:Z ≠ c2
 lz:w.heap.size < Z
theorem FI.next {w u v:World} {c2 Z n uc:Nat} {ua:Option Addr} {P:List Int} (h:FI w c2 Z ua n uc P u) (hb:Below u.heap.size u v):FI w c2 Z ua n uc P v:=
 ⟨after h.kk hb,h.bx.next hb,h.bp.next hb,h.ps.next hb,h.le,h.ne,h.lz⟩
theorem FI.turn {w u:World} {c2 Z Z' n uc:Nat} {ua:Option Addr} {P P':List Int} (h:FI w c2 Z ua n uc P u) (hr:RB u Z' (inA P') 3) (hne:Z' ≠ c2) (hl:w.heap.size < Z'):FI w c2 Z' ua n uc P' (u.setCell ⟨c2,0,none⟩ (.slice (some ⟨Z',0,none⟩) n n)):=by
 have hle:=h.le
 refine ⟨h.kk.setCell (p:=⟨c2,0,none⟩) (by show w.heap.size<=c2;omega) _,(hother (by omega)).trans h.bx,h.bp.set (j:=0) _,(hother (by omega)).trans hr,h.le,hne,hl⟩
end Go.Proofs.YtobdldadfipcgaaGreatDoor
namespace Go.Proofs.YtobdldadfipcgaaGreatDoor
open Go.ChangeShapes Go.WideShapes Go.Deep Go.RowKit
theorem alike_len {s t:Sc} (h:alikeB s t=true):s.rels.length=t.rels.length:=by
 unfold alikeB alRs at h
 simp only [Bool.and_eq_true,decide_eq_true_eq] at h
 exact h.2.2.2.1
end Go.Proofs.YtobdldadfipcgaaGreatDoor
