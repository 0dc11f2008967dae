/- fold, plain: parting by signs, till nothing turns. fold: Alike. fold: the first sign of a unit. fold: the finer sign of a unit. fold: the map that is keyed by signs; the two closures. fold: parted. fold: the two closures. fold: Fold. fold, plain: what the laws ask of what is told; rows of bools as an argument. -/
import Derived.Test.YtiohgaghmnpplaaGreatDoorqA
import Derived.Test.YtiohgaghmnpplaaGreatDoorw1
import Derived.Lib.ItoaNum
import Derived.Lib.ItoaLen
import Derived.DeepKeys4
import Derived.Maps.Own
import Derived.Maps.OwnOps
import Derived.Test.YtiohgaghmnpplaaGreatDoorShelf
import Derived.Scope
import Derived.WalkMore
import Derived.Deep.Grids
set_option maxRecDepth 100000
set_option maxHeartbeats 1500000
set_option linter.unusedVariables false
set_option linter.unusedSimpArgs false
namespace Go.Proofs.YtiohgaghmnpplaaGreatDoor
open Go.ChangeShapes Go.WideShapes Go.Deep Go.RowKit
def valZ (l:List UInt8):Nat:=l.foldl (fun a c=>10*a+(c.toNat-48)) 0
theorem valZ_snoc (l:List UInt8)(c:UInt8):valZ (l++ [c])=10*valZ l+(c.toNat-48):=by unfold valZ;rw[List.foldl_append];rfl
theorem dec_step {u:Nat}(h:¬u<10):Lib.decDigits u=Lib.decDigits (u/10)++ [UInt8.ofNat (48+u%10)]:=by rw[Lib.decDigits,dif_neg h]
theorem dec_val:∀u:Nat,valZ (Lib.decDigits u)=u:=by
 intro u;induction u using Nat.strongRecOn with
 |_ u ih=>
  by_cases h:u<10
  ·rw[Lib.decDigits_one h];show 10*0+((UInt8.ofNat (48+u)).toNat-48)=u
   rw[UInt8.toNat_ofNat'];omega
  ·rw[dec_step h,valZ_snoc,ih (u/10) (by omega),UInt8.toNat_ofNat'];omega
theorem pC:∀u:Nat,∀c∈Lib.decDigits u,48<=c.toNat/\c.toNat<=57:=by
 intro u;induction u using Nat.strongRecOn with
 |_ u ih=>
  intro c hc;by_cases h:u<10
  ·rw[Lib.decDigits_one h,List.mem_singleton]at hc;rw[hc,UInt8.toNat_ofNat'];omega
  ·rw[dec_step h,List.mem_append,List.mem_singleton]at hc;rcases hc with hc|hc
   ·exact ih (u/10) (by omega) c hc
   ·rw[hc,UInt8.toNat_ofNat'];omega
theorem itoa_no32 (n:Int):∀c∈Lib.itoa n,c≠32:=by
 intro c hc e;subst e;unfold Lib.itoa at hc;split at hc
 ·rcases List.mem_cons.1 hc with h|h
  ·exact absurd h (by decide)
  ·have:=pC _ _ h;simp at this
 ·have:=pC _ _ hc;simp at this
theorem itoa_inj {m n:Int}(h:Lib.itoa m=Lib.itoa n):m=n:=by
 unfold Lib.itoa at h;split at h
 ·split at h
  ·have h2:=congrArg valZ (List.cons.inj h).2;rw[dec_val,dec_val]at h2;omega
  ·exfalso;have:(45:UInt8)∈Lib.decDigits n.toNat:=by rw[<-h];exact List.mem_cons_self ..
   have:=pC _ _ this;simp at this
 ·split at h
  ·exfalso;have:(45:UInt8)∈Lib.decDigits m.toNat:=by rw[h];exact List.mem_cons_self ..
   have:=pC _ _ this;simp at this
  ·have h2:=congrArg valZ h;rw[dec_val,dec_val]at h2;omega
def encT (l:List Int):List UInt8:=l.flatMap (fun n=>Lib.itoa n++ [32])
theorem split32 {a b s t:List UInt8}(ha:∀c∈a,c≠32)(hb:∀c∈b,c≠32)(h:a++32 :: s=b++32 :: t):a=b/\s=t:=by
 induction a generalizing b with
 |nil=>
  cases b with
  |nil=>exact⟨rfl,(List.cons.inj h).2⟩
  |cons y b=>exact absurd (List.cons.inj h).1.symm (hb y (List.mem_cons_self ..))
 |cons x a ih=>
  cases b with
  |nil=>exact absurd (List.cons.inj h).1 (ha x (List.mem_cons_self ..))
  |cons y b=>
   obtain⟨e1,e2⟩:=List.cons.inj h;obtain⟨r1,r2⟩:=ih (fun c hc=>ha c (List.mem_cons_of_mem _ hc)) (fun c hc=>hb c (List.mem_cons_of_mem _ hc)) e2;exact⟨by rw[e1,r1],r2⟩
theorem lX (x:Int)(l:List Int):encT (x :: l)=Lib.itoa x++32 :: encT l:=by
 show(Lib.itoa x++ [32])++encT l=_
 rw[List.append_assoc];rfl
theorem encT_inj:∀ {l m:List Int},encT l=encT m->l=m
 | [],[],_=>rfl
 | [],y :: m,h=>by rw[lX]at h;exact absurd h.symm (by simp[encT])
 |x :: l,[],h=>by rw[lX]at h;exact absurd h (by simp[encT])
 |x :: l,y :: m,h=>by
  rw[lX,lX]at h;obtain⟨h1,h2⟩:=split32 (itoa_no32 x) (itoa_no32 y) h;rw[itoa_inj h1,encT_inj h2]
structure Sg where
 part:Int
 data:List UInt8
 refs:List UInt8
deriving DecidableEq
section
variable (ok:Nat->Bool) (sg:Nat->Sg)
def eY (k:Nat):Nat:=if ok k=true then ((List.range (k+1)).find? (fun j=>ok j && decide (sg j=sg k))).getD k else k
variable {ok sg}
theorem partG_not {k:Nat}(h:ok k=false):eY ok sg k=k:=by unfold eY;rw[if_neg (by rw[h];simp)]
theorem rT {k:Nat}(h:ok k=true):eY ok sg k<=k/\ok (eY ok sg k)=true/\sg (eY ok sg k)=sg k/\∀j,j<eY ok sg k->ok j=true->sg j≠sg k:=by
 unfold eY;rw[if_pos h];cases hf:(List.range (k+1)).find? (fun j=>ok j && decide (sg j=sg k)) with
 |none=>
  have:=List.find?_eq_none.1 hf k (by simp);simp[h]at this
 |some p=>
  have h1:=List.find?_some hf;have h2:=List.mem_of_find?_eq_some hf;simp only[Bool.and_eq_true,decide_eq_true_eq]at h1;simp only[Option.getD_some];refine⟨by simpa[Nat.lt_succ_iff]using h2,h1.1,h1.2,fun j hj hoj hsj=>?_⟩;obtain⟨-,aa,bb,hl,hno⟩:=List.find?_eq_some_iff_append.1 hf;have hlt:p<k+1:=by simpa using h2
  have hjm:j∈List.range (k+1):=by simp;omega
  rw[hl]at hjm;rcases List.mem_append.1 hjm with hm|hm
  ·have:=hno j hm;simp[hoj,hsj]at this
  ·have hso:=List.pairwise_lt_range (n:=k+1);rw[hl]at hso;have h3:=(List.pairwise_append.1 hso).2.1;rcases List.mem_cons.1 hm with e|hm
   ·omega
   ·have:=(List.pairwise_cons.1 h3).1 j hm;omega
theorem lS {i k:Nat}(hi:ok i=true)(hk:ok k=true):eY ok sg i=eY ok sg k↔sg i=sg k:=by
 obtain⟨-,a1,a2,a3⟩:=rT (sg:=sg) hi;obtain⟨-,b1,b2,b3⟩:=rT (sg:=sg) hk;constructor
 ·intro h;rw[<-a2,h,b2]
 ·intro h;rcases Nat.lt_trichotomy (eY ok sg i) (eY ok sg k)with hl|hl|hl
  ·exact absurd (a2.trans h) (b3 _ hl a1)
  ·exact hl
  ·exact absurd (b2.trans h.symm) (a3 _ hl b1)
theorem qF {i k:Nat}(h:eY ok sg i=eY ok sg k)(hne:i≠k):ok i=true/\ok k=true:=by
 cases hi:ok i
 ·rw[partG_not hi]at h;cases hk:ok k
  ·rw[partG_not hk]at h;exact absurd h hne
  ·have:=(rT (sg:=sg) hk).2.1;rw[<-h,hi]at this;cases this
 ·cases hk:ok k
  ·rw[partG_not hk]at h;have:=(rT (sg:=sg) hi).2.1;rw[h,hk]at this;cases this
  ·exact⟨rfl,rfl⟩
end
def partZ (n:Nat)(ok:Nat->Bool)(sg:Nat->Sg):List Int:=(List.range n).map (fun k=>((eY ok sg k:Nat):Int))
theorem partZ_len (n:Nat)(ok:Nat->Bool)(sg:Nat->Sg):(partZ n ok sg).length=n:=by unfold partZ;simp
theorem dK {n:Nat}{ok:Nat->Bool}{sg:Nat->Sg}{k:Nat}(h:k<n):(partZ n ok sg)[k]?=some ((eY ok sg k:Nat):Int):=by
 unfold partZ;rw[List.getElem?_map,List.getElem?_range h];rfl
def okU (L:List Sc) (ins:List Bool) (k:Nat):Bool:=(ins[k]? == some true) && (match L[k]? with | some s=>decide (s.kind=1) | none=>false)
def sA (r:Rl):List Int:=[r.pos,r.kind,r.add]
def sgnA (L:List Sc)(k:Nat):Sg:=match L[k]? with|some s=>⟨0,s.data,encT (s.rels.flatMap sA)⟩|none=>⟨0,[],[]⟩
def mS (P:List Int)(s:Sc):List Int:=s.rels.map (fun r=>(P[r.sym.toNat]?).getD 0)
def sgnB (L:List Sc)(P:List Int)(k:Nat):Sg:=⟨(P[k]?).getD 0,[],match L[k]? with|some s=>encT (mS P s)|none=>[]⟩
def part1 (L:List Sc)(ins:List Bool):List Int:=partZ L.length (okU L ins) (sgnA L)
def mT (L:List Sc)(ins:List Bool)(P:List Int):List Int:=partZ L.length (okU L ins) (sgnB L P)
def IsP (L:List Sc)(ins:List Bool)(P:List Int):Prop:=∃sg,P=partZ L.length (okU L ins) sg
theorem next_finer {L:List Sc}{ins:List Bool}{P:List Int}{i k:Nat}(hp:IsP L ins P)(hi:i<L.length)(hk:k<L.length)(h:(mT L ins P)[i]?=(mT L ins P)[k]?):P[i]?=P[k]?:=by
 by_cases e:i=k
 ·rw[e]
 unfold mT at h;rw[dK hi,dK hk]at h;have h1:eY (okU L ins) (sgnB L P) i=eY (okU L ins) (sgnB L P) k:=by have:=Option.some.inj h;omega
 obtain⟨o1,o2⟩:=qF h1 e;have h2:=(lS o1 o2).1 h1;have h3:=congrArg Sg.part h2;obtain⟨sg,rfl⟩:=hp;simp only[sgnB,dK hi,dK hk,Option.getD_some]at h3;rw[dK hi,dK hk,h3]
def endL (ins:List Bool)(P:List Int):List Int:=(List.range P.length).map (fun k=>if ins[k]?=some true then(P[k]?).getD 0 else -1)
structure Fix (L:List Sc)(ins:List Bool)(P:List Int):Prop where
 isP:IsP L ins P
 alike:∀(i k:Nat),i<L.length->k<L.length->okU L ins i=true->okU L ins k=true->P[i]?=P[k]?->sgnA L i=sgnA L k
 coarse:∀Q:Nat->Int,(∀(i k:Nat),i<L.length->k<i->ins[i]?=some true->ins[k]?=some true->Q i=Q k->okU L ins i=true/\okU L ins k=true/\sgnA L i=sgnA L k/\∀(s t:Sc),L[i]?=some s->L[k]?=some t->s.rels.length=t.rels.length/\∀(j:Nat) (r r':Rl),s.rels[j]?=some r->t.rels[j]?=some r'->r.sym.toNat=r'.sym.toNat\/(r.sym.toNat<L.length/\r'.sym.toNat<L.length/\ins[r.sym.toNat]?=some true/\ins[r'.sym.toNat]?=some true/\Q r.sym.toNat=Q r'.sym.toNat))->
  ∀(i k:Nat),i<L.length->k<L.length->ins[i]?=some true->ins[k]?=some true->Q i=Q k->P[i]?=P[k]?
theorem fix_first (L:List Sc)(ins:List Bool):Fix L ins (part1 L ins):=by
 refine⟨⟨_,rfl⟩,?_,?_⟩
 ·intro i k hi hk oi ok h;unfold part1 at h;rw[dK hi,dK hk]at h;exact(lS oi ok).1 (by have:=Option.some.inj h;omega)
 ·intro Q hQ i k hi hk ii ik hq;unfold part1;rw[dK hi,dK hk];rcases Nat.lt_trichotomy i k with hl|hl|hl
  ·obtain⟨h1,h2,h3,-⟩:=hQ k i hk hl ik ii hq.symm;rw[(lS h1 h2).2 h3]
  ·rw[hl]
  ·obtain⟨h1,h2,h3,-⟩:=hQ i k hi hl ii ik hq;rw[(lS h1 h2).2 h3]
theorem refsP_eq {L:List Sc}{ins:List Bool}{P:List Int}{Q:Nat->Int}(hP:∀(i k:Nat),i<L.length->k<L.length->ins[i]?=some true->ins[k]?=some true->Q i=Q k->P[i]?=P[k]?){s t:Sc}(hlen:s.rels.length=t.rels.length)
  (h:∀(j:Nat) (r r':Rl),s.rels[j]?=some r->t.rels[j]?=some r'->r.sym.toNat=r'.sym.toNat\/(r.sym.toNat<L.length/\r'.sym.toNat<L.length/\ins[r.sym.toNat]?=some true/\ins[r'.sym.toNat]?=some true/\Q r.sym.toNat=Q r'.sym.toNat)):mS P s=mS P t:=by
 unfold mS;apply List.ext_getElem?;intro j;rw[List.getElem?_map,List.getElem?_map];by_cases hj:j<s.rels.length
 ·rw[iS hj,iS (by omega)];simp only[Option.map_some,Option.some.injEq];rcases h j _ _ (iS hj) (iS (by omega))with e|⟨h1,h2,h3,h4,h5⟩
  ·rw[e]
  ·rw[hP _ _ h1 h2 h3 h4 h5]
 ·rw[List.getElem?_eq_none (by omega),List.getElem?_eq_none (by omega)]
theorem okU_lt {L:List Sc}{ins:List Bool}{k:Nat}(h:okU L ins k=true):k<L.length/\ins[k]?=some true/\∃s,L[k]?=some s/\s.kind=1:=by
 unfold okU at h;simp only[Bool.and_eq_true,beq_iff_eq]at h;obtain⟨h1,h2⟩:=h;cases hs:L[k]? with
 |none=>rw[hs]at h2;cases h2
 |some s=>
  rw[hs]at h2;exact⟨(eX hs).1,h1,s,rfl,of_decide_eq_true h2⟩
theorem Fix.next {L:List Sc}{ins:List Bool}{P:List Int}(h:Fix L ins P):Fix L ins (mT L ins P):=by
 refine⟨⟨_,rfl⟩,?_,?_⟩
 ·intro i k hi hk oi ok he;exact h.alike i k hi hk oi ok (next_finer h.isP hi hk he)
 ·intro Q hQ i k hi hk ii ik hq;have hP:=h.coarse Q hQ;have key:∀i k,i<L.length->k<i->ins[i]?=some true->ins[k]?=some true->Q i=Q k->eY (okU L ins) (sgnB L P) i=eY (okU L ins) (sgnB L P) k:=by
   intro i k hi hk ii ik hq;obtain⟨o1,o2,-,h4⟩:=hQ i k hi hk ii ik hq;refine(lS o1 o2).2 ?_;obtain⟨-,-,s,hs,-⟩:=okU_lt o1;obtain⟨-,-,t,ht,-⟩:=okU_lt o2;obtain⟨h5,h6⟩:=h4 s t hs ht;unfold sgnB;rw[hs,ht,hP i k hi (by omega) ii ik hq];simp only[];rw[refsP_eq hP h5 h6]
  unfold mT;rw[dK hi,dK hk];rcases Nat.lt_trichotomy i k with hl|hl|hl
  ·rw[key k i hk hl ik ii hq.symm]
  ·rw[hl]
  ·rw[key i k hi hl ii ik hq]
theorem sgnA_eq {L:List Sc}{i k:Nat}{s t:Sc}(hs:L[i]?=some s)(ht:L[k]?=some t):sgnA L i=sgnA L k↔s.data=t.data/\s.rels.flatMap sA=t.rels.flatMap sA:=by
 unfold sgnA;rw[hs,ht];simp only[Sg.mk.injEq,true_and];exact⟨fun h=>⟨h.1,encT_inj h.2⟩,fun h=>⟨h.1,by rw[h.2]⟩⟩
theorem num3_eq:∀ {a b:List Rl},a.flatMap sA=b.flatMap sA↔a.length=b.length/\∀(j:Nat)(r r':Rl),a[j]?=some r->b[j]?=some r'->r.pos=r'.pos/\r.kind=r'.kind/\r.add=r'.add
 | [],[]=>by simp
 | [],y :: b=>by
  constructor
  ·intro h;rw[List.flatMap_cons]at h;exact absurd h (by simp[sA])
  ·intro h;exact absurd h.1 (by simp)
 |x :: a,[]=>by
  constructor
  ·intro h;rw[List.flatMap_cons]at h;exact absurd h (by simp[sA])
  ·intro h;exact absurd h.1 (by simp)
 |x :: a,y :: b=>by
  rw[List.flatMap_cons,List.flatMap_cons];have e:(sA x++a.flatMap sA=sA y++b.flatMap sA)↔(x.pos=y.pos/\x.kind=y.kind/\x.add=y.add)/\a.flatMap sA=b.flatMap sA:=by
   simp[sA,and_assoc]
  rw[e,num3_eq (a:=a) (b:=b)];constructor
  ·rintro⟨h1,h2,h3⟩;refine⟨by simp[h2],fun j r r' hr hr'=>?_⟩;cases j with
   |zero=>
    simp only[List.getElem?_cons_zero,Option.some.injEq]at hr hr';subst hr hr';exact h1
   |succ j=>exact h3 j r r' (by simpa using hr) (by simpa using hr')
  ·rintro⟨h1,h2⟩;exact⟨h2 0 x y rfl rfl,by simpa using h1,fun j r r' hr hr'=>h2 (j+1) r r' (by simpa using hr) (by simpa using hr')⟩
def alR (x y:Rl):Bool:=x.pos==y.pos&&(x.kind==y.kind&&x.add==y.add)
def alRs (a b:List Rl):Bool:=decide (a.length=b.length) && (a.zip b).all (fun p=>alR p.1 p.2)
def dU (s t:Sc):Bool:=decide (s.kind=1) && (decide (t.kind=1) && (decide (s.data=t.data) && alRs s.rels t.rels))
abbrev rfV (x:Rl):Value:=.agg #[.int .i64 x.pos,.int .i64 x.kind,.int .i64 x.sym,.int .i64 x.add]
theorem neq_rf (x y:Rl):∀w,(Sem.run Tryz.prog (binOp BinOp.neq 57 (rfV x) (rfV y)) w)=Result.ok (.bool (!sameRl x y)) w:=by
 intro w;obtain⟨p,k,s,a⟩:=x;obtain⟨p',k',s',a'⟩:=y;simp[go_sem,sameRl];repeat' split
 all_goals first|(simp_all;done)|(simp_all;omega)
theorem alRs_iff {a b:List Rl}(h:a.length=b.length):alRs a b=true↔ ∀(j:Nat) (r r':Rl),a[j]?=some r->b[j]?=some r'->alR r r'=true:=by
 unfold alRs;rw[decide_eq_true h,Bool.true_and,List.all_eq_true];constructor
 ·intro hall j r r' hr hr';exact hall (r,r') (eQ (i:=j) (by rw[List.getElem?_zip_eq_some];exact⟨hr,hr'⟩))
 ·intro hall p hp;obtain⟨j,hj⟩:=List.getElem?_of_mem hp;rw[List.getElem?_zip_eq_some]at hj;exact hall j _ _ hj.1 hj.2
abbrev uCe (N:ByteArray)(ki:Int)(kp:Bool)(al:Int)(D:ByteArray)(a:Option Addr)(n c:Nat):Array Value:=#[.string N,.int .i64 ki,.bool kp,.int .i64 al,.string D,.slice a n c]
theorem alike_any (N D N' D':ByteArray)(ki ki' al al':Int)(kp kp':Bool)(a a':Option Addr)(n n' c c':Nat)(l l':List Rl)(w:World)(hn:n<=1000000)(hn':n'<=1000000)(hs:SL kY 4 w w.heap.size a n l)(hs':SL kY 4 w w.heap.size a' n' l')(nm nm':List UInt8):
  Calls Tryz.prog 78 #[.agg (uCe N ki kp al D a n c),.agg (uCe N' ki' kp' al' D' a' n' c')] w (aP (.bool (dU ⟨nm,ki,kp,al,D.data.toList,l⟩ ⟨nm',ki',kp',al',D'.data.toList,l'⟩)) w):=by
 obtain⟨R,hR⟩:=aE (dU ⟨nm,ki,kp,al,D.data.toList,l⟩ ⟨nm',ki',kp',al',D'.data.toList,l'⟩);rw[<-hR];unfold dU at hR;simp only[]at hR;obtain⟨P,hP⟩:=aE w.heap.size;obtain⟨A1,hA1⟩:=aE (w.alloc (.cells (uCe N ki kp al D a n c) 55));obtain⟨A2,hA2⟩:=aE (A1.alloc (.cells (uCe N' ki' kp' al' D' a' n' c') 55));have hz1:A1.heap.size=P+1:=by rw[hA1,World.size_alloc,hP]
 have hb1:Below w.heap.size w A1:=by rw[hA1];exact aC w _
 have hb2:Below A1.heap.size A1 A2:=by rw[hA2];exact aC A1 _
 have HB:=aH (after hb1 hb2);have HX:Hid (RB A2 P (uCe N ki kp al D a n c) 55):=aH (by
  have:RB A1 P (uCe N ki kp al D a n c) 55:=by rw[hA1,hP];exact aQ w _ _
  exact this.next hb2)
 have HY:Hid (RB A2 (P+1) (uCe N' ki' kp' al' D' a' n' c') 55):=aH (by rw[hA2,<-hz1];exact aQ A1 _ _);have x1:A2.cell? ⟨P,1,none⟩=some (.int .i64 ki):=HX.out.cell;have x4:A2.cell? ⟨P,4,none⟩=some (.string D):=HX.out.cell;have x5:A2.cell? ⟨P,5,none⟩=some (.slice a n c):=HX.out.cell;have y1:A2.cell? ⟨P+1,1,none⟩=some (.int .i64 ki'):=HY.out.cell;have y4:A2.cell? ⟨P+1,4,none⟩=some (.string D'):=HY.out.cell;have y5:A2.cell? ⟨P+1,5,none⟩=some (.slice a' n' c'):=HY.out.cell;rw[hA2,hA1]at x1 x4 x5 y1 y4 y5;rw[hP]at x1 x4 x5 y1 y4 y5;have HAE:Hid ((w.alloc (.cells (uCe N ki kp al D a n c) 55)).alloc (.cells (uCe N' ki' kp' al' D' a' n' c') 55)=A2):=aH (by rw[hA2,hA1]);have HP:=aH hP;have hni:(n:Int)<=1000000:=by omega
 have hni':(n':Int)<=1000000:=by omega
 have HS:=aH hs;have HS':=aH hs';have HLn:=aH hs.len;have HLn':=aH hs'.len;clear hA1 hA2 hz1 hb1 hb2 hP hs hs';by_cases e1:ki=1
 ·have t1:(ki !=1)=false:=by simp[e1]
  rw[decide_eq_true e1,Bool.true_and]at hR;by_cases e2:ki'=1
  ·have t2:(ki' !=1)=false:=by simp[e2]
   rw[decide_eq_true e2,Bool.true_and]at hR;by_cases e3:D=D'
   ·have t3:(D.toList==D'.toList)=true:=by rw[e3];simp
    have t3':(D.toList !=D'.toList)=false:=by simp only[bne,t3];rfl
    rw[decide_eq_true (by rw[e3]),Bool.true_and]at hR;by_cases e4:n=n'
    ·subst e4;have hll:l.length=l'.length:=by rw[<-HLn.out,<-HLn'.out]
     have HIff:=aH (alRs_iff hll);have HR:=aH hR;have t4:((n:Int) !=(n:Int))=false:=by simp
     clear hR e1 e2 hll;subst e3;go_enter Tryz.func78,Tryz.ntmps78;go_wp2;rw[HAE.out,<-HP.out];clear x1 x4 x5 y1 y4 y5 t1 t2 t3 t3' t4;go_loopw [34] (fun i wr=>∃(k:Nat) (wx:World),wx=wr/\k<=n/\i=.int .i64 k/\Hid (Below A2.heap.size A2 wx/\∀(j:Nat) (r r':Rl),j<k->l[j]?=some r->l'[j]?=some r'->alR r r'=true)) (fun i _=>n-(intOf i).toNat)
     case atStart=>exact⟨0,_,rfl,by omega,rfl,aH ⟨Below.refl _ _,fun j r r' h=>by omega⟩⟩
     case round=>
      obtain⟨k,wx,rfl,hk,rfl,HK⟩:=hrel;have HBx:=aH (after HB.out HK.out.1);by_cases hlt:k<n
      ·have hlti:(k:Int)<(n:Int):=by omega
       have hk1:k<l.length:=by have:=HLn.out;omega
       have hk2:k<l'.length:=by have:=HLn'.out;omega
       obtain⟨b1,o1,hae1,hB1,hc1⟩:=(HS.out.next HBx.out).cells (by intro e;rw[e]at hk1;simp at hk1);subst hae1;obtain⟨b2,o2,hae2,hB2,hc2⟩:=(HS'.out.next HBx.out).cells (by intro e;rw[e]at hk2;simp at hk2);subst hae2;obtain⟨c0,c1,c2,c3⟩:=dN (fun q hq=>hc1 k hk1 q hq);obtain⟨d0,d1,d2,d3⟩:=dN (fun q hq=>hc2 k hk2 q hq);obtain⟨x,hx⟩:=aE (l[k]);obtain⟨y,hy⟩:=aE (l'[k]);have HXx:Hid (l[k]?=some x):=aH (by rw[hx];exact iS hk1);have HYy:Hid (l'[k]?=some y):=aH (by rw[hy];exact iS hk2);rw[<-hx]at c0 c1 c2 c3;rw[<-hy]at d0 d1 d2 d3;clear hc1 hc2 hB1 hB2 hx hy;obtain⟨xp,xk,xs,xa⟩:=x;obtain⟨yp,yk,ys,ya⟩:=y;simp only[]at c0 c1 c2 c3 d0 d1 d2 d3;obtain⟨V,hV⟩:=aE wx.heap.size;obtain⟨Wa,hWa⟩:=aE (wx.alloc (.cells #[.int .i64 xp,.int .i64 xk,.int .i64 xs,.int .i64 xa] 57));obtain⟨Wb,hWb⟩:=aE (wx.alloc (.cells #[.int .i64 xp,.int .i64 xk,.int .i64 ys,.int .i64 xa] 57));have hba:Below wx.heap.size wx Wa:=by rw[hWa];exact aC wx _
       have hbb:Below wx.heap.size wx Wb:=by rw[hWb];exact aC wx _
       have HBb:=aH (after HK.out.1 hbb);have y5:Wa.cell? ⟨P+1,5,none⟩=some (.slice (some ⟨b2,o2,none⟩) n c'):=(HY.out.next (after HK.out.1 hba)).cell;have z5:Wb.cell? ⟨P+1,5,none⟩=some (.slice (some ⟨b2,o2,none⟩) n c'):=(HY.out.next HBb.out).cell;have f2:Wa.cell? ⟨b2,o2+k*4+2,none⟩=some (.int .i64 ys):=(hba.cell (p:=⟨b2,o2+k*4+2,none⟩) (bM d2)).trans d2;have g0:Wb.cell? ⟨b2,o2+k*4,none⟩=some (.int .i64 yp):=(hbb.cell (p:=⟨b2,o2+k*4,none⟩) (bM d0)).trans d0;have g1:Wb.cell? ⟨b2,o2+k*4+1,none⟩=some (.int .i64 yk):=(hbb.cell (p:=⟨b2,o2+k*4+1,none⟩) (bM d1)).trans d1;have g2:Wb.cell? ⟨b2,o2+k*4+2,none⟩=some (.int .i64 ys):=(hbb.cell (p:=⟨b2,o2+k*4+2,none⟩) (bM d2)).trans d2;have g3:Wb.cell? ⟨b2,o2+k*4+3,none⟩=some (.int .i64 ya):=(hbb.cell (p:=⟨b2,o2+k*4+3,none⟩) (bM d3)).trans d3;have hrv:RB Wb V #[.int .i64 xp,.int .i64 xk,.int .i64 ys,.int .i64 xa] 57:=by rw[hWb,hV];exact aQ wx _ _
       have v0:Wb.cell? ⟨V,0,none⟩=some (.int .i64 xp):=hrv.cell;have v1:Wb.cell? ⟨V,1,none⟩=some (.int .i64 xk):=hrv.cell;have v2:Wb.cell? ⟨V,2,none⟩=some (.int .i64 ys):=hrv.cell;have v3:Wb.cell? ⟨V,3,none⟩=some (.int .i64 xa):=hrv.cell;rw[hWa]at y5 f2;rw[hWb]at z5 g0 g1 g2 g3 v0 v1 v2 v3;rw[hV]at v0 v1 v2 v3;have HWE:Hid (wx.alloc (.cells #[.int .i64 xp,.int .i64 xk,.int .i64 ys,.int .i64 xa] 57)=Wb):=aH hWb.symm;have hnq:=neq_rf ⟨xp,xk,ys,xa⟩ ⟨yp,yk,ys,ya⟩;have hsm:sameRl ⟨xp,xk,ys,xa⟩ ⟨yp,yk,ys,ya⟩=alR ⟨xp,xk,xs,xa⟩ ⟨yp,yk,ys,ya⟩:=by simp[sameRl,alR]
       rw[hsm]at hnq;simp only[rfV]at hnq;clear hsm hWa hWb hba hbb hrv hV d0 d1 d2 d3;cases e:alR ⟨xp,xk,xs,xa⟩ ⟨yp,yk,ys,ya⟩
       ·have HE:Hid (R=false):=aH (by
         rw[HR.out];cases ha:alRs l l'
         ·rfl
         ·have:=(HIff.out.1 ha) k _ _ HXx.out HYy.out;rw[e]at this;cases this)
        rw[e]at hnq;clear e;go_wp2;rw[HWE.out];rw[HWE.out]at z5 g0 g1 g2 g3 v0 v1 v2 v3;go_quiet (fail);go_wp2;go_ret;exact aB HE.out.symm (below_drewN (after HB.out HBb.out) _)
       ·have HE:=aH e;rw[e]at hnq;clear e;go_wp2;rw[HWE.out];rw[HWE.out]at z5 g0 g1 g2 g3 v0 v1 v2 v3;go_quiet (fail);go_wp2;go_roundw
        case rel=>
         refine⟨k+1,_,rfl,by omega,by go_num,aH ⟨below_drewN HBb.out _,fun j r r' hj hr hr'=>?_⟩⟩;by_cases ejk:j=k
         ·subst ejk;rw[HXx.out]at hr;rw[HYy.out]at hr';cases hr
          cases hr'
          exact HE.out
         ·exact HK.out.2 j r r' (by omega) hr hr'
        case measure=>simp[intOf];omega
      ·have hlti:¬(k:Int)<(n:Int):=by omega
       have HE:Hid (R=true):=aH (by
        rw[HR.out];refine HIff.out.2 (fun j r r' hr hr'=>HK.out.2 j r r' ?_ hr hr');have h1:=(eX hr).1;have:=HLn.out;omega)
       go_wp2;go_ret;exact aB HE.out.symm HBx.out
    ·have t4:((n:Int) !=(n':Int))=true:=by rw[bne_iff_ne];omega
     have HR:Hid (R=false):=aH (by rw[hR];unfold alRs;rw[decide_eq_false (by rw[<-HLn.out,<-HLn'.out];exact e4)];rfl);clear hR e1 e2 e4;subst e3;go_enter Tryz.func78,Tryz.ntmps78;go_wp2;rw[HAE.out];go_ret;exact aB HR.out.symm HB.out
   ·have hne:D.data.toList≠D'.data.toList:=fun h=>e3 (ByteArray.ext (Array.toList_inj.1 h))
    have t3:(D.toList==D'.toList)=false:=by rw[beq_eq_false_iff_ne,ByteArray.toList_eq,ByteArray.toList_eq];exact hne
    have t3':(D.toList !=D'.toList)=true:=by simp only[bne,t3];rfl
    have HR:Hid (R=false):=aH (by rw[hR,decide_eq_false hne];rfl);clear hR e1 e2 e3 hne;go_enter Tryz.func78,Tryz.ntmps78;go_wp2;rw[HAE.out];go_ret;exact aB HR.out.symm HB.out
  ·have t2:(ki' !=1)=true:=by simp[e2]
   have HR:Hid (R=false):=aH (by rw[hR,decide_eq_false e2];rfl);clear hR e1 e2;go_enter Tryz.func78,Tryz.ntmps78;go_wp2;rw[HAE.out];go_ret;exact aB HR.out.symm HB.out
 ·have t1:(ki !=1)=true:=by simp[e1]
  have HR:Hid (R=false):=aH (by rw[hR,decide_eq_false e1];rfl);clear hR e1;go_enter Tryz.func78,Tryz.ntmps78;go_wp2;rw[HAE.out];go_ret;exact aB HR.out.symm HB.out
theorem owns_next {w w':World}{base:Nat}{e:TypeId}{size:Nat}{v:Value}{n:Nat}{xs:List Value}(h:w.ownsRow base e size v n xs)(hb:Below w.heap.size w w'):w'.ownsRow base e size v n xs:=by
 refine⟨h.1,?_⟩;rcases h.2 with hn|⟨g,cap,cur,rfl,hbg,hgg,rest⟩
 ·exact .inl hn
 ·exact .inr ⟨g,cap,cur,rfl,hbg,(hb.block g (lt_of_block hgg)).trans hgg,rest⟩
theorem encT_len (l:List Int)(h:∀x∈l,cS x):(encT l).length<=22*l.length:=by
 induction l with
 |nil=>simp[encT]
 |cons x t ih=>
  have h1:=Lib.itoa_length_le x (h x (List.mem_cons_self ..)).1 (h x (List.mem_cons_self ..)).2;have h2:=ih (fun y hy=>h y (List.mem_cons_of_mem _ hy));rw[lX,List.length_append,List.length_cons,List.length_cons];omega
theorem bR {w:World}{pb po pn:Nat}{P:List Int}(h:SL dT 1 w w.heap.size (some ⟨pb,po,none⟩) pn P){u:World}(hu:Below w.heap.size w u){q:Nat}{v:Int}(hq:P[q]?=some v):u.cell? ⟨pb,po+q,none⟩=some (.int .i64 v):=by
 have hl:=(eX hq).1;have hv:=(eX hq).2;obtain⟨b,off,e,hB,hc⟩:=(h.next hu).cells (by intro e;rw[e]at hl;simp at hl);cases e
 have d0:=hc q hl 0 (by decide);simp only[dT,Nat.add_zero,Nat.mul_one,List.getElem?_cons_zero]at d0;rw[d0,hv]
abbrev sgV (x:Sg):Value:=.agg #[.int .i64 x.part,.string ⟨x.data.toArray⟩,.string ⟨x.refs.toArray⟩]
structure GoodSg (x:Sg):Prop where
 part:cS x.part
 data:x.data.length<=maxLen
 refs:x.refs.length<=maxLen
def entS (p:Sg×Nat):Value×Value:=(sgV p.1,.int .i64 p.2)
structure SMs (es:Array MapEntry)(l:List (Sg×Nat)):Prop where
 eq:es.toList.map (fun e=>(e.key,e.val))=l.map entS
 gd:∀p∈l,GoodSg p.1
 nd:(l.map (·.1)).Nodup
def lookS (l:List (Sg × Nat)) (s:Sg):Option Nat:=(l.find? (fun p=>decide (p.1=s))).map (·.2)
def SM (w:World)(b:Nat)(F:Sg->Option Nat):Prop:=∃es clock l,w.heap[b]?=some (.map es clock)/\SMs es l/\∀s,F s=lookS l s
theorem SM.same {w w':World}{b:Nat}{F:Sg->Option Nat}(h:SM w b F)(hb:w'.heap[b]?=w.heap[b]?):SM w' b F:=by
 obtain⟨es,clock,l,h1,h2⟩:=h;exact⟨es,clock,l,hb.trans h1,h2⟩
theorem SM.lt {w:World}{b:Nat}{F:Sg->Option Nat}(h:SM w b F):b<w.heap.size:=by
 obtain⟨es,clock,l,h1,h2⟩:=h;exact lt_of_block h1
theorem SM.none (w:World)(b:Nat)(h:w.heap[b]?=some (.map #[] 0)):SM w b (fun _=>none):=
 ⟨#[],0,[],h,⟨rfl,by simp,List.nodup_nil⟩,fun _=>rfl⟩
abbrev iJ (l:List Int):Array Value:=(l.map (Value.int .i64)).toArray
theorem gG {l:List Int}{k:Nat}{b:Int}(h:l[k]?=some b):(iJ l)[k]?=some (.int .i64 b):=by
 show(l.map (Value.int .i64)).toArray[k]?=_
 simp[h]
theorem sD (l:List Int)(k:Nat)(b:Int):(iJ l).setIfInBounds k (.int .i64 b)=iJ (l.set k b):=by
 simp[iJ,List.map_set]
theorem jX (n:Nat)(hn:n<=1000000)(w:World):(Instr.makeSlice 23 (.int .i64 (n:Int)) (.int .i64 (n:Int))).run Tryz.prog w=.ok (.slice (some ⟨w.heap.size,0,none⟩) n n) (w.alloc (.cells (iJ (List.replicate n 0)) 3)):=by
 obtain⟨i0,hi0,hz0,hz1,hz2⟩:=info_parts pA;have:=run_makeSlice (P:=Tryz.prog) w 23 3 i0 (.int .i64 0) Tryz.underlying23 hi0 hz0 .i64 .i64 n n (by omega) (by omega) (by rw[hz1];omega) (by rw[hz2];omega) (by omega);rw[hz1]at this;simp only[Int.toNat_natCast,Nat.mul_one]at this;rw[this,show madeCells (Value.int .i64 0).cells n=iJ (List.replicate n 0)from by
  apply Array.ext
  ·rw[size_madeCells];simp
  ·intro i h1 h2;have:i%1=0:=Nat.mod_one i;simp[madeCells,iJ,Value.cells,this]]
theorem cO {w:World}{ub uo n:Nat}{L:List Ms}(h:SL mX 6 w w.heap.size (some ⟨ub,uo,none⟩) n L){u:World}(hu:Below w.heap.size w u){k:Nat}{m:Ms}(hk:L[k]?=some m):
  u.cell? ⟨ub,uo+k*6,none⟩=some (.string ⟨m.sc.name.toArray⟩)/\u.cell? ⟨ub,uo+k*6+1,none⟩=some (.int .i64 m.sc.kind)/\u.cell? ⟨ub,uo+k*6+2,none⟩=some (.bool m.sc.keep)/\u.cell? ⟨ub,uo+k*6+3,none⟩=some (.int .i64 m.sc.align)/\u.cell? ⟨ub,uo+k*6+4,none⟩=some (.string ⟨m.sc.data.toArray⟩)/\u.cell? ⟨ub,uo+k*6+5,none⟩=some (.slice m.ad m.sc.rels.length m.cap):=by
 have hl:=(eX hk).1;have hv:=(eX hk).2;obtain⟨b,off,e,hB,hc⟩:=(h.next hu).cells (by intro e;rw[e]at hl;simp at hl);cases e
 have:=lT (fun q hq=>hc k hl q hq);rw[hv]at this;exact this
def fT (L:List Sc)(ins:List Bool):Nat->List Int
 |0=>part1 L ins
 |j+1=>mT L ins (fT L ins j)
theorem foldN_fix (L:List Sc)(ins:List Bool):∀j,Fix L ins (fT L ins j)
 |0=>fix_first L ins
 |j+1=>(foldN_fix L ins j).next
theorem foldN_len (L:List Sc)(ins:List Bool):∀j,(fT L ins j).length=L.length
 |0=>partZ_len _ _ _
 |j+1=>partZ_len _ _ _
theorem goodB {L:List Sc}(hg:∀s∈L,s.rels.length<=64){P:List Int}(hP:∀x∈P,cS x)(k:Nat):GoodSg (sgnB L P k):=by
 have hz:cS 0:=by unfold cS;simp
 have key:∀q:Nat,cS ((P[q]?).getD 0):=by
  intro q;cases h:P[q]? with
  |none=>exact hz
  |some v=>exact hP v (eQ h)
 unfold sgnB;refine⟨key k,by simp[maxLen],?_⟩;cases h:L[k]? with
 |none=>simp[maxLen]
 |some s=>
  have h4:=encT_len (mS P s) (by
   intro x hx;unfold mS at hx;obtain⟨r,-,rfl⟩:=List.mem_map.1 hx;exact key _)
  have h5:(mS P s).length<=64:=by unfold mS;rw[List.length_map];exact hg s (eQ h)
  show(encT (mS P s)).length<=_
  unfold maxLen;omega
structure FI (w:World)(c2 Z:Nat)(ua:Option Addr)(n uc:Nat)(P:List Int)(u:World):Prop where
 kk:Below w.heap.size w u
 bx:RB u w.heap.size #[.slice ua n uc] 22
 bp:RB u c2 #[.slice (some ⟨Z,0,none⟩) n n] 23
 ps:RB u Z (iJ P) 3
 le:w.heap.size<c2
 ne:Z≠c2
 lz:w.heap.size<Z
theorem FI.next {w u v:World}{c2 Z n uc:Nat}{ua:Option Addr}{P:List Int}(h:FI w c2 Z ua n uc P u)(hb:Below u.heap.size u v):FI w c2 Z ua n uc P v:=
 ⟨after h.kk hb,h.bx.next hb,h.bp.next hb,h.ps.next hb,h.le,h.ne,h.lz⟩
theorem FI.turn {w u:World}{c2 Z Z' n uc:Nat}{ua:Option Addr}{P P':List Int}(h:FI w c2 Z ua n uc P u)(hr:RB u Z' (iJ P') 3)(hne:Z'≠c2)(hl:w.heap.size<Z'):FI w c2 Z' ua n uc P' (u.setCell ⟨c2,0,none⟩ (.slice (some ⟨Z',0,none⟩) n n)):=by
 have hle:=h.le;refine⟨h.kk.setCell (p:=⟨c2,0,none⟩) (by show w.heap.size<=c2;omega) _,(cC (by omega)).trans h.bx,h.bp.set (j:=0) _,(cC (by omega)).trans hr,h.le,hne,hl⟩
def RefQ (n:Nat)(ins:List Bool)(l:List Int)(a b:Int):Prop:=
 0<=a/\a<n/\0<=b/\b<n/\(a=b\/(ins[a.toNat]?=some true/\ins[b.toNat]?=some true/\l[a.toNat]?=l[b.toNat]?))
def PairQ (S:List Sc)(ins:List Bool)(l:List Int)(i k:Nat):Prop:=
 ins[i]?=some true->ins[k]?=some true->l[i]?=l[k]?->∀(s t:Sc),S[i]?=some s->S[k]?=some t->
  dU s t=true/\∀(j:Nat) (r r':Rl),s.rels[j]?=some r->t.rels[j]?=some r'->RefQ S.length ins l r.sym r'.sym
def GoodQ (S:List Sc)(ins:List Bool)(l:List Int):Prop:=∀(i k:Nat),i<S.length->k<i->PairQ S ins l i k
theorem alike_len {s t:Sc}(h:dU s t=true):s.rels.length=t.rels.length:=by
 unfold dU alRs at h;simp only[Bool.and_eq_true,decide_eq_true_eq]at h;exact h.2.2.2.1
theorem alR_iff {x y:Rl}:alR x y=true↔x.pos=y.pos/\x.kind=y.kind/\x.add=y.add:=by
 unfold alR;simp only[Bool.and_eq_true,beq_iff_eq]
theorem alike_iff {S:List Sc}{i k:Nat}{s t:Sc}(hs:S[i]?=some s)(ht:S[k]?=some t):dU s t=true↔s.kind=1/\t.kind=1/\sgnA S i=sgnA S k:=by
 rw[sgnA_eq hs ht,num3_eq];unfold dU;simp only[Bool.and_eq_true,decide_eq_true_eq];constructor
 ·rintro⟨h1,h2,h3,h4⟩;have hl:s.rels.length=t.rels.length:=by
   unfold alRs at h4;simp only[Bool.and_eq_true,decide_eq_true_eq]at h4;exact h4.1
  exact⟨h1,h2,h3,hl,fun j r r' hr hr'=>alR_iff.1 ((alRs_iff hl).1 h4 j r r' hr hr')⟩
 ·rintro⟨h1,h2,h3,hl,h4⟩;exact⟨h1,h2,h3,(alRs_iff hl).2 fun j r r' hr hr'=>alR_iff.2 (h4 j r r' hr hr')⟩
theorem foldN_get (S:List Sc)(ins:List Bool)(j:Nat){k:Nat}(h:k<S.length):∃sg,(∀q,q<S.length->(fT S ins j)[q]?=some ((eY (okU S ins) sg q:Nat):Int)):=by
 obtain⟨sg,hsg⟩:=(foldN_fix S ins j).isP;exact⟨sg,fun q hq=>by rw[hsg];exact dK hq⟩
theorem endL_get {ins:List Bool}{P:List Int}{k:Nat}{v:Int}(h:P[k]?=some v):(endL ins P)[k]?=some (if ins[k]?=some true then v else -1):=by
 have hk:k<P.length:=(eX h).1;unfold endL;rw[List.getElem?_map,List.getElem?_range hk];simp only[Option.map_some,h,Option.getD_some]
theorem endL_in {ins:List Bool}{P:List Int}{k:Nat}(hk:k<P.length)(h:ins[k]?=some true):(endL ins P)[k]?=P[k]?:=by
 rw[endL_get (iS hk),if_pos h,iS hk]
theorem encT_get {P:List Int}{s t:Sc}(h:encT (mS P s)=encT (mS P t)){j:Nat}{r r':Rl}(hr:s.rels[j]?=some r)(hr':t.rels[j]?=some r'):(P[r.sym.toNat]?).getD 0=(P[r'.sym.toNat]?).getD 0:=by
 have h1:=congrArg (fun x=>x[j]?) (encT_inj h);simp only[mS,List.getElem?_map,hr,hr',Option.map_some,Option.some.injEq]at h1;exact h1
theorem end_good {S:List Sc}{ins:List Bool}{j:Nat}(hu:bN S=true)(hin:ins.length=S.length)(hfx:mT S ins (fT S ins j)=fT S ins j):GoodQ S ins (endL ins (fT S ins j)):=by
 intro i k hi hki hii hik hl s t hs ht;have hk:k<S.length:=by omega
 have hlen:=foldN_len S ins j;rw[endL_in (by omega) hii,endL_in (by omega) hik]at hl;obtain⟨sg,hsg⟩:=foldN_get S ins j hi;have hne:i≠k:=by omega
 have hpe:eY (okU S ins) sg i=eY (okU S ins) sg k:=by
  rw[hsg i hi,hsg k hk]at hl;have:=Option.some.inj hl;omega
 obtain⟨o1,o2⟩:=qF hpe hne;obtain⟨-,-,s',hs',ks⟩:=okU_lt o1;obtain⟨-,-,t',ht',kt⟩:=okU_lt o2;rw[hs]at hs';cases hs';rw[ht]at ht';cases ht';refine⟨(alike_iff hs ht).2 ⟨ks,kt,(foldN_fix S ins j).alike i k hi hk o1 o2 hl⟩,fun q r r' hr hr'=>?_⟩;obtain⟨a0,a1⟩:=(dZ hu hs).2 r (eQ hr);obtain⟨b0,b1⟩:=(dZ hu ht).2 r' (eQ hr');refine⟨a0,a1,b0,b1,?_⟩;by_cases e:r.sym=r'.sym
 ·exact .inl e
 right;have hn:eY (okU S ins) (sgnB S (fT S ins j)) i=eY (okU S ins) (sgnB S (fT S ins j)) k:=by
  have h1:=hl;rw[<-hfx]at h1;unfold mT at h1;rw[dK hi,dK hk]at h1;have:=Option.some.inj h1;omega
 have hsb:=congrArg Sg.refs ((lS o1 o2).1 hn);simp only[sgnB,hs,ht]at hsb;have hv:=encT_get hsb hr hr';have la:r.sym.toNat<S.length:=by omega
 have lb:r'.sym.toNat<S.length:=by omega
 rw[hsg _ la,hsg _ lb,Option.getD_some,Option.getD_some]at hv;have hv2:eY (okU S ins) sg r.sym.toNat=eY (okU S ins) sg r'.sym.toNat:=by omega
 obtain⟨p1,p2⟩:=qF hv2 (by omega);have i1:=(okU_lt p1).2.1;have i2:=(okU_lt p2).2.1;refine⟨i1,i2,?_⟩;rw[endL_in (by omega) i1,endL_in (by omega) i2,hsg _ la,hsg _ lb,hv2]
end Go.Proofs.YtiohgaghmnpplaaGreatDoor
