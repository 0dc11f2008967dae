/- fold, plain: parting by signs, till nothing turns. fold: Alike. fold: the first sign of a unit. fold: the finer sign of a unit. fold: the map that is keyed by signs; the two closures. -/
import Derived.Test.YtbabckomagkjbaaGreatDoorqL
import Derived.Lib.ItoaNum
import Derived.Lib.ItoaLen
import Derived.DeepKeys4
import Derived.Maps.Own
import Derived.Maps.OwnOps
set_option maxRecDepth 100000
set_option maxHeartbeats 1500000
set_option linter.unusedVariables false
set_option linter.unusedSimpArgs false
namespace Go.Proofs.YtbabckomagkjbaaGreatDoor
open Go.ChangeShapes Go.WideShapes Go.Deep Go.RowKit
def valZ (l:List UInt8):Nat:=l.foldl (fun a c=>10*a+(c.toNat - 48)) 0
theorem valZ_snoc (l:List UInt8) (c:UInt8):valZ (l ++ [c])=10*valZ l+(c.toNat - 48):=by unfold valZ;rw [List.foldl_append];rfl
theorem dec_step {u:Nat} (h:¬ u < 10):Lib.decDigits u=Lib.decDigits (u / 10) ++ [UInt8.ofNat (48+u % 10)]:=by rw [Lib.decDigits,dif_neg h]
theorem dec_val:∀ u:Nat,valZ (Lib.decDigits u)=u:=by
 intro u
 induction u using Nat.strongRecOn with
 | _ u ih=>
  by_cases h:u < 10
  ·rw [Lib.decDigits_one h]
   show 10*0+((UInt8.ofNat (48+u)).toNat - 48)=u
   rw [UInt8.toNat_ofNat'];omega
  ·rw [dec_step h,valZ_snoc,ih (u / 10) (by omega),UInt8.toNat_ofNat'];omega
theorem dec_digit:∀ u:Nat,∀ c ∈ Lib.decDigits u,48<=c.toNat/\c.toNat<=57:=by
 intro u
 induction u using Nat.strongRecOn with
 | _ u ih=>
  intro c hc
  by_cases h:u < 10
  ·rw [Lib.decDigits_one h,List.mem_singleton] at hc
   rw [hc,UInt8.toNat_ofNat'];omega
  ·rw [dec_step h,List.mem_append,List.mem_singleton] at hc
   rcases hc with hc | hc
   ·exact ih (u / 10) (by omega) c hc
   ·rw [hc,UInt8.toNat_ofNat'];omega
theorem itoa_no32 (n:Int):∀ c ∈ Lib.itoa n,c ≠ 32:=by
 intro c hc e
 subst e
 unfold Lib.itoa at hc
 split at hc
 ·rcases List.mem_cons.1 hc with h | h
  ·exact absurd h (by decide)
  ·have:=dec_digit _ _ h;simp at this
 ·have:=dec_digit _ _ hc;simp at this
theorem itoa_inj {m n:Int} (h:Lib.itoa m=Lib.itoa n):m=n:=by
 unfold Lib.itoa at h
 split at h
 ·split at h
  ·have h2:=congrArg valZ (List.cons.inj h).2
   rw [dec_val,dec_val] at h2;omega
  ·exfalso
   have:(45:UInt8) ∈ Lib.decDigits n.toNat:=by rw [<-h];exact List.mem_cons_self ..
   have:=dec_digit _ _ this;simp at this
 ·split at h
  ·exfalso
   have:(45:UInt8) ∈ Lib.decDigits m.toNat:=by rw [h];exact List.mem_cons_self ..
   have:=dec_digit _ _ this;simp at this
  ·have h2:=congrArg valZ h
   rw [dec_val,dec_val] at h2;omega
def encT (l:List Int):List UInt8:=l.flatMap (fun n=>Lib.itoa n ++ [32])
theorem split32 {a b s t:List UInt8} (ha:∀ c ∈ a,c ≠ 32) (hb:∀ c ∈ b,c ≠ 32) (h:a ++ 32 :: s=b ++ 32 :: t):a=b/\s=t:=by
 induction a generalizing b with
 | nil=>
  cases b with
  | nil=>exact ⟨rfl,(List.cons.inj h).2⟩
  | cons y b=>exact absurd (List.cons.inj h).1.symm (hb y (List.mem_cons_self ..))
 | cons x a ih=>
  cases b with
  | nil=>exact absurd (List.cons.inj h).1 (ha x (List.mem_cons_self ..))
  | cons y b=>
   obtain ⟨e1,e2⟩:=List.cons.inj h
   obtain ⟨r1,r2⟩:=ih (fun c hc=>ha c (List.mem_cons_of_mem _ hc)) (fun c hc=>hb c (List.mem_cons_of_mem _ hc)) e2
   exact ⟨by rw [e1,r1],r2⟩
theorem encT_cons (x:Int) (l:List Int):encT (x :: l)=Lib.itoa x ++ 32 :: encT l:=by
 show (Lib.itoa x ++ [32]) ++ encT l=_
 rw [List.append_assoc];rfl
theorem encT_inj:∀ {l m:List Int},encT l=encT m->l=m
 | [],[],_=>rfl
 | [],y :: m,h=>by rw [encT_cons] at h;exact absurd h.symm (by simp [encT])
 | x :: l,[],h=>by rw [encT_cons] at h;exact absurd h (by simp [encT])
 | x :: l,y :: m,h=>by
  rw [encT_cons,encT_cons] at h
  obtain ⟨h1,h2⟩:=split32 (itoa_no32 x) (itoa_no32 y) h
  rw [itoa_inj h1,encT_inj h2]
structure Sg where
 part:Int
 data:List UInt8
 refs:List UInt8
deriving DecidableEq
section
variable (ok:Nat->Bool) (sg:Nat->Sg)
def partG (k:Nat):Nat:=if ok k=true then ((List.range (k+1)).find? (fun j=>ok j && decide (sg j=sg k))).getD k else k
variable {ok sg}
theorem partG_not {k:Nat} (h:ok k=false):partG ok sg k=k:=by unfold partG;rw [if_neg (by rw [h];simp)]
theorem partG_ok {k:Nat} (h:ok k=true):partG ok sg k<=k/\ok (partG ok sg k)=true/\sg (partG ok sg k)=sg k/\∀ j,j < partG ok sg k->ok j=true->sg j ≠ sg k:=by
 unfold partG
 rw [if_pos h]
 cases hf:(List.range (k+1)).find? (fun j=>ok j && decide (sg j=sg k)) with
 | none=>
  have:=List.find?_eq_none.1 hf k (by simp)
  simp [h] at this
 | some p=>
  have h1:=List.find?_some hf
  have h2:=List.mem_of_find?_eq_some hf
  simp only [Bool.and_eq_true,decide_eq_true_eq] at h1
  simp only [Option.getD_some]
  refine ⟨by simpa [Nat.lt_succ_iff] using h2,h1.1,h1.2,fun j hj hoj hsj=>?_⟩
  obtain ⟨-,aa,bb,hl,hno⟩:=List.find?_eq_some_iff_append.1 hf
  have hlt:p < k+1:=by simpa using h2
  have hjm:j ∈ List.range (k+1):=by simp;omega
  rw [hl] at hjm
  rcases List.mem_append.1 hjm with hm | hm
  ·have:=hno j hm
   simp [hoj,hsj] at this
  ·have hso:=List.pairwise_lt_range (n:=k+1)
   rw [hl] at hso
   have h3:=(List.pairwise_append.1 hso).2.1
   rcases List.mem_cons.1 hm with e | hm
   ·omega
   ·have:=(List.pairwise_cons.1 h3).1 j hm
    omega
theorem partG_le (k:Nat):partG ok sg k<=k:=by
 cases h:ok k
 ·rw [partG_not h];exact Nat.le_refl _
 ·exact (partG_ok h).1
theorem partG_eq {i k:Nat} (hi:ok i=true) (hk:ok k=true):partG ok sg i=partG ok sg k ↔ sg i=sg k:=by
 obtain ⟨-,a1,a2,a3⟩:=partG_ok (sg:=sg) hi
 obtain ⟨-,b1,b2,b3⟩:=partG_ok (sg:=sg) hk
 constructor
 ·intro h;rw [<-a2,h,b2]
 ·intro h
  rcases Nat.lt_trichotomy (partG ok sg i) (partG ok sg k) with hl | hl | hl
  ·exact absurd (a2.trans h) (b3 _ hl a1)
  ·exact hl
  ·exact absurd (b2.trans h.symm) (a3 _ hl b1)
theorem partG_idem (k:Nat):partG ok sg (partG ok sg k)=partG ok sg k:=by
 cases h:ok k
 ·rw [partG_not h,partG_not h]
 ·obtain ⟨-,a1,a2,a3⟩:=partG_ok (sg:=sg) h
  exact (partG_eq a1 h).2 a2
theorem partG_both {i k:Nat} (h:partG ok sg i=partG ok sg k) (hne:i ≠ k):ok i=true/\ok k=true:=by
 cases hi:ok i
 ·rw [partG_not hi] at h
  cases hk:ok k
  ·rw [partG_not hk] at h;exact absurd h hne
  ·have:=(partG_ok (sg:=sg) hk).2.1
   rw [<-h,hi] at this;cases this
 ·cases hk:ok k
  ·rw [partG_not hk] at h
   have:=(partG_ok (sg:=sg) hi).2.1
   rw [h,hk] at this;cases this
  ·exact ⟨rfl,rfl⟩
end
def partZ (n:Nat) (ok:Nat->Bool) (sg:Nat->Sg):List Int:=(List.range n).map (fun k=>((partG ok sg k:Nat):Int))
theorem partZ_len (n:Nat) (ok:Nat->Bool) (sg:Nat->Sg):(partZ n ok sg).length=n:=by unfold partZ;simp
theorem partZ_get {n:Nat} {ok:Nat->Bool} {sg:Nat->Sg} {k:Nat} (h:k < n):(partZ n ok sg)[k]?=some ((partG ok sg k:Nat):Int):=by
 unfold partZ
 rw [List.getElem?_map,List.getElem?_range h];rfl
def okU (L:List Sc) (ins:List Bool) (k:Nat):Bool:=(ins[k]? == some true) && (match L[k]? with | some s=>decide (s.kind=1) | none=>false)
def num3 (r:Rl):List Int:=[r.pos,r.kind,r.add]
def sgnA (L:List Sc) (k:Nat):Sg:=match L[k]? with | some s=>⟨0,s.data,encT (s.rels.flatMap num3)⟩ | none=>⟨0,[],[]⟩
def refsP (P:List Int) (s:Sc):List Int:=s.rels.map (fun r=>(P[r.sym.toNat]?).getD 0)
def sgnB (L:List Sc) (P:List Int) (k:Nat):Sg:=⟨(P[k]?).getD 0,[],match L[k]? with | some s=>encT (refsP P s) | none=>[]⟩
def part1 (L:List Sc) (ins:List Bool):List Int:=partZ L.length (okU L ins) (sgnA L)
def nextP (L:List Sc) (ins:List Bool) (P:List Int):List Int:=partZ L.length (okU L ins) (sgnB L P)
def repsN (P:List Int):Nat:=(List.range P.length).countP (fun (k:Nat)=>P[k]? == some ((k:Nat):Int))
theorem repsN_le (P:List Int):repsN P<=P.length:=by
 unfold repsN
 exact Nat.le_trans List.countP_le_length (by simp)
def IsP (L:List Sc) (ins:List Bool) (P:List Int):Prop:=∃ sg,P=partZ L.length (okU L ins) sg
theorem next_finer {L:List Sc} {ins:List Bool} {P:List Int} {i k:Nat} (hp:IsP L ins P) (hi:i < L.length) (hk:k < L.length) (h:(nextP L ins P)[i]?=(nextP L ins P)[k]?):P[i]?=P[k]?:=by
 by_cases e:i=k
 ·rw [e]
 unfold nextP at h
 rw [partZ_get hi,partZ_get hk] at h
 have h1:partG (okU L ins) (sgnB L P) i=partG (okU L ins) (sgnB L P) k:=by have:=Option.some.inj h;omega
 obtain ⟨o1,o2⟩:=partG_both h1 e
 have h2:=(partG_eq o1 o2).1 h1
 have h3:=congrArg Sg.part h2
 obtain ⟨sg,rfl⟩:=hp
 simp only [sgnB,partZ_get hi,partZ_get hk,Option.getD_some] at h3
 rw [partZ_get hi,partZ_get hk,h3]
theorem countP_lt {α:Type} {p q:α->Bool}:∀ {l:List α},(∀ x ∈ l,p x=true->q x=true)->(∃ x ∈ l,p x=false/\q x=true)->l.countP p < l.countP q
 | [],_,h=>by obtain ⟨x,hx,_⟩:=h;cases hx
 | y :: t,hs,hx=>by
  have hle:t.countP p<=t.countP q:=List.countP_mono_left (fun x hx=>hs x (List.mem_cons_of_mem _ hx))
  rw [List.countP_cons,List.countP_cons]
  obtain ⟨x,hx,h1,h2⟩:=hx
  rcases List.mem_cons.1 hx with rfl | hx
  ·rw [if_neg (by rw [h1];simp),if_pos h2];omega
  ·have:=countP_lt (fun x hx=>hs x (List.mem_cons_of_mem _ hx)) ⟨x,hx,h1,h2⟩
   cases hp:p y
   ·simp;split <;> omega
   ·rw [if_pos rfl,if_pos (hs y (List.mem_cons_self ..) hp)];omega
theorem next_more {L:List Sc} {ins:List Bool} {P:List Int} (hp:IsP L ins P) (hne:nextP L ins P ≠ P):repsN P < repsN (nextP L ins P):=by
 obtain ⟨sg,hsg⟩:=hp
 have hPl:P.length=L.length:=by rw [hsg,partZ_len]
 have hNl:(nextP L ins P).length=L.length:=partZ_len _ _ _
 have hex:∃ k,k < L.length/\(nextP L ins P)[k]? ≠ P[k]?:=by
  apply Classical.byContradiction
  intro hn
  apply hne
  apply List.ext_getElem?
  intro k
  by_cases hk:k < L.length
  ·apply Classical.byContradiction
   intro h
   exact hn ⟨k,hk,h⟩
  ·rw [List.getElem?_eq_none (by omega),List.getElem?_eq_none (by omega)]
 obtain ⟨k,hk,hkn⟩:=hex
 have hok:okU L ins k=true:=by
  cases h:okU L ins k
  ·exfalso
   apply hkn
   unfold nextP
   rw [hsg,partZ_get hk,partZ_get hk,partG_not h,partG_not h]
  ·rfl
 have gN:∀ i,i < L.length->(nextP L ins P)[i]?=some ((partG (okU L ins) (sgnB L P) i:Nat):Int):=fun i hi=>partZ_get hi
 have gP:∀ i,i < L.length->P[i]?=some ((partG (okU L ins) sg i:Nat):Int):=fun i hi=>by rw [hsg];exact partZ_get hi
 obtain ⟨a0,a1,a2,a3⟩:=partG_ok (sg:=sgnB L P) hok
 obtain ⟨b0,b1,b2,b3⟩:=partG_ok (sg:=sg) hok
 obtain ⟨q,hq⟩:∃ q,q=partG (okU L ins) (sgnB L P) k:=⟨_,rfl⟩
 obtain ⟨p,hpp⟩:∃ p,p=partG (okU L ins) sg k:=⟨_,rfl⟩
 rw [<-hq] at a0 a1 a2 a3
 rw [<-hpp] at b0 b1 b2 b3
 have hql:q < L.length:=by omega
 have hqk:P[q]?=P[k]?:=by
  have h3:=congrArg Sg.part a2
  simp only [sgnB] at h3
  rw [gP q hql,gP k hk] at h3 ⊢
  simpa using h3
 have hqp:q ≠ p:=fun e=>hkn (by rw [gN k hk,gP k hk,<-hq,<-hpp,e])
 unfold repsN
 rw [hPl,hNl]
 apply countP_lt
 ·intro i hi h
  have hil:i < L.length:=by simpa using hi
  rw [gP i hil] at h
  have hii:partG (okU L ins) sg i=i:=by have:=Option.some.inj (beq_iff_eq.1 h);omega
  rw [gN i hil]
  have:partG (okU L ins) (sgnB L P) i=i:=by
   cases hoi:okU L ins i
   ·exact partG_not hoi
   ·obtain ⟨c0,c1,c2,c3⟩:=partG_ok (sg:=sgnB L P) hoi
    obtain ⟨d0,d1,d2,d3⟩:=partG_ok (sg:=sg) hoi
    have h3:=congrArg Sg.part c2
    simp only [sgnB] at h3
    rw [gP _ (by omega),gP i hil,Option.getD_some,Option.getD_some] at h3
    have h4:partG (okU L ins) sg (partG (okU L ins) (sgnB L P) i)=partG (okU L ins) sg i:=by omega
    have h5:=partG_le (ok:=okU L ins) (sg:=sg) (partG (okU L ins) (sgnB L P) i)
    rw [h4,hii] at h5
    omega
  rw [this];simp
 ·refine ⟨q,by simpa using hql,?_,?_⟩
  ·rw [hqk,gP k hk,<-hpp]
   have:((p:Nat):Int) ≠ (q:Int):=by omega
   simpa using this
  ·rw [gN q hql,hq,partG_idem];simp
def endL (ins:List Bool) (P:List Int):List Int:=(List.range P.length).map (fun k=>if ins[k]?=some true then (P[k]?).getD 0 else -1)
structure Fix (L:List Sc) (ins:List Bool) (P:List Int):Prop where
 isP:IsP L ins P
 alike:∀ (i k:Nat),i < L.length->k < L.length->okU L ins i=true->okU L ins k=true->P[i]?=P[k]?->sgnA L i=sgnA L k
 coarse:∀ Q:Nat->Int,(∀ (i k:Nat),i < L.length->k < i->ins[i]?=some true->ins[k]?=some true->Q i=Q k->okU L ins i=true/\okU L ins k=true/\sgnA L i=sgnA L k/\∀ (s t:Sc),L[i]?=some s->L[k]?=some t->s.rels.length=t.rels.length/\∀ (j:Nat) (r r':Rl),s.rels[j]?=some r->t.rels[j]?=some r'->r.sym.toNat=r'.sym.toNat\/(r.sym.toNat < L.length/\r'.sym.toNat < L.length/\ins[r.sym.toNat]?=some true/\ins[r'.sym.toNat]?=some true/\Q r.sym.toNat=Q r'.sym.toNat))->
  ∀ (i k:Nat),i < L.length->k < L.length->ins[i]?=some true->ins[k]?=some true->Q i=Q k->P[i]?=P[k]?
theorem fix_first (L:List Sc) (ins:List Bool):Fix L ins (part1 L ins):=by
 refine ⟨⟨_,rfl⟩,?_,?_⟩
 ·intro i k hi hk oi ok h
  unfold part1 at h
  rw [partZ_get hi,partZ_get hk] at h
  exact (partG_eq oi ok).1 (by have:=Option.some.inj h;omega)
 ·intro Q hQ i k hi hk ii ik hq
  unfold part1
  rw [partZ_get hi,partZ_get hk]
  rcases Nat.lt_trichotomy i k with hl | hl | hl
  ·obtain ⟨h1,h2,h3,-⟩:=hQ k i hk hl ik ii hq.symm
   rw [(partG_eq h1 h2).2 h3]
  ·rw [hl]
  ·obtain ⟨h1,h2,h3,-⟩:=hQ i k hi hl ii ik hq
   rw [(partG_eq h1 h2).2 h3]
theorem refsP_eq {L:List Sc} {ins:List Bool} {P:List Int} {Q:Nat->Int} (hP:∀ (i k:Nat),i < L.length->k < L.length->ins[i]?=some true->ins[k]?=some true->Q i=Q k->P[i]?=P[k]?) {s t:Sc} (hlen:s.rels.length=t.rels.length)
  (h:∀ (j:Nat) (r r':Rl),s.rels[j]?=some r->t.rels[j]?=some r'->r.sym.toNat=r'.sym.toNat\/(r.sym.toNat < L.length/\r'.sym.toNat < L.length/\ins[r.sym.toNat]?=some true/\ins[r'.sym.toNat]?=some true/\Q r.sym.toNat=Q r'.sym.toNat)):refsP P s=refsP P t:=by
 unfold refsP
 apply List.ext_getElem?
 intro j
 rw [List.getElem?_map,List.getElem?_map]
 by_cases hj:j < s.rels.length
 ·rw [List.getElem?_eq_getElem hj,List.getElem?_eq_getElem (by omega)]
  simp only [Option.map_some,Option.some.injEq]
  rcases h j _ _ (List.getElem?_eq_getElem hj) (List.getElem?_eq_getElem (by omega)) with e | ⟨h1,h2,h3,h4,h5⟩
  ·rw [e]
  ·rw [hP _ _ h1 h2 h3 h4 h5]
 ·rw [List.getElem?_eq_none (by omega),List.getElem?_eq_none (by omega)]
theorem okU_lt {L:List Sc} {ins:List Bool} {k:Nat} (h:okU L ins k=true):k < L.length/\ins[k]?=some true/\∃ s,L[k]?=some s/\s.kind=1:=by
 unfold okU at h
 simp only [Bool.and_eq_true,beq_iff_eq] at h
 obtain ⟨h1,h2⟩:=h
 cases hs:L[k]? with
 | none=>rw [hs] at h2;cases h2
 | some s=>
  rw [hs] at h2
  exact ⟨(List.getElem?_eq_some_iff.1 hs).1,h1,s,rfl,of_decide_eq_true h2⟩
theorem Fix.next {L:List Sc} {ins:List Bool} {P:List Int} (h:Fix L ins P):Fix L ins (nextP L ins P):=by
 refine ⟨⟨_,rfl⟩,?_,?_⟩
 ·intro i k hi hk oi ok he
  exact h.alike i k hi hk oi ok (next_finer h.isP hi hk he)
 ·intro Q hQ i k hi hk ii ik hq
  have hP:=h.coarse Q hQ
  have key:∀ i k,i < L.length->k < i->ins[i]?=some true->ins[k]?=some true->Q i=Q k->partG (okU L ins) (sgnB L P) i=partG (okU L ins) (sgnB L P) k:=by
   intro i k hi hk ii ik hq
   obtain ⟨o1,o2,-,h4⟩:=hQ i k hi hk ii ik hq
   refine (partG_eq o1 o2).2 ?_
   obtain ⟨-,-,s,hs,-⟩:=okU_lt o1
   obtain ⟨-,-,t,ht,-⟩:=okU_lt o2
   obtain ⟨h5,h6⟩:=h4 s t hs ht
   unfold sgnB
   rw [hs,ht,hP i k hi (by omega) ii ik hq]
   simp only []
   rw [refsP_eq hP h5 h6]
  unfold nextP
  rw [partZ_get hi,partZ_get hk]
  rcases Nat.lt_trichotomy i k with hl | hl | hl
  ·rw [key k i hk hl ik ii hq.symm]
  ·rw [hl]
  ·rw [key i k hi hl ii ik hq]
theorem sgnA_eq {L:List Sc} {i k:Nat} {s t:Sc} (hs:L[i]?=some s) (ht:L[k]?=some t):sgnA L i=sgnA L k ↔ s.data=t.data/\s.rels.flatMap num3=t.rels.flatMap num3:=by
 unfold sgnA
 rw [hs,ht]
 simp only [Sg.mk.injEq,true_and]
 exact ⟨fun h=>⟨h.1,encT_inj h.2⟩,fun h=>⟨h.1,by rw [h.2]⟩⟩
theorem num3_eq:∀ {a b:List Rl},a.flatMap num3=b.flatMap num3 ↔ a.length=b.length/\∀ (j:Nat) (r r':Rl),a[j]?=some r->b[j]?=some r'->r.pos=r'.pos/\r.kind=r'.kind/\r.add=r'.add
 | [],[]=>by simp
 | [],y :: b=>by
  constructor
  ·intro h;rw [List.flatMap_cons] at h;exact absurd h (by simp [num3])
  ·intro h;exact absurd h.1 (by simp)
 | x :: a,[]=>by
  constructor
  ·intro h;rw [List.flatMap_cons] at h;exact absurd h (by simp [num3])
  ·intro h;exact absurd h.1 (by simp)
 | x :: a,y :: b=>by
  rw [List.flatMap_cons,List.flatMap_cons]
  have e:(num3 x ++ a.flatMap num3=num3 y ++ b.flatMap num3) ↔ (x.pos=y.pos/\x.kind=y.kind/\x.add=y.add)/\a.flatMap num3=b.flatMap num3:=by
   simp [num3,and_assoc]
  rw [e,num3_eq (a:=a) (b:=b)]
  constructor
  ·rintro ⟨h1,h2,h3⟩
   refine ⟨by simp [h2],fun j r r' hr hr'=>?_⟩
   cases j with
   | zero=>
    simp only [List.getElem?_cons_zero,Option.some.injEq] at hr hr'
    subst hr hr'
    exact h1
   | succ j=>exact h3 j r r' (by simpa using hr) (by simpa using hr')
  ·rintro ⟨h1,h2⟩
   exact ⟨h2 0 x y rfl rfl,by simpa using h1,fun j r r' hr hr'=>h2 (j+1) r r' (by simpa using hr) (by simpa using hr')⟩
end Go.Proofs.YtbabckomagkjbaaGreatDoor
namespace Go.Proofs.YtbabckomagkjbaaGreatDoor
open Go.ChangeShapes Go.WideShapes Go.Deep Go.RowKit
def alR (x y:Rl):Bool:=x.pos == y.pos && (x.kind == y.kind && x.add == y.add)
def alRs (a b:List Rl):Bool:=decide (a.length=b.length) && (a.zip b).all (fun p=>alR p.1 p.2)
def alikeB (s t:Sc):Bool:=decide (s.kind=1) && (decide (t.kind=1) && (decide (s.data=t.data) && alRs s.rels t.rels))
abbrev rfV (x:Rl):Value:=.agg #[.int .i64 x.pos,.int .i64 x.kind,.int .i64 x.sym,.int .i64 x.add]
theorem neq_rf (x y:Rl):∀ w,(Sem.run Tryz.prog (binOp BinOp.neq 61 (rfV x) (rfV y)) w)=Result.ok (.bool (!sameRl x y)) w:=by
 intro w
 obtain ⟨p,k,s,a⟩:=x
 obtain ⟨p',k',s',a'⟩:=y
 simp [go_sem,sameRl]
 repeat' split
 all_goals first | (simp_all;done) | (simp_all;omega)
theorem alRs_iff {a b:List Rl} (h:a.length=b.length):alRs a b=true ↔ ∀ (j:Nat) (r r':Rl),a[j]?=some r->b[j]?=some r'->alR r r'=true:=by
 unfold alRs
 rw [decide_eq_true h,Bool.true_and,List.all_eq_true]
 constructor
 ·intro hall j r r' hr hr'
  exact hall (r,r') (List.mem_of_getElem? (i:=j) (by rw [List.getElem?_zip_eq_some];exact ⟨hr,hr'⟩))
 ·intro hall p hp
  obtain ⟨j,hj⟩:=List.getElem?_of_mem hp
  rw [List.getElem?_zip_eq_some] at hj
  exact hall j _ _ hj.1 hj.2
abbrev uCe (N:ByteArray) (ki:Int) (kp:Bool) (al:Int) (D:ByteArray) (a:Option Addr) (n c:Nat):Array Value:=#[.string N,.int .i64 ki,.bool kp,.int .i64 al,.string D,.slice a n c]
theorem alike_any (N D N' D':ByteArray) (ki ki' al al':Int) (kp kp':Bool) (a a':Option Addr) (n n' c c':Nat) (l l':List Rl) (w:World) (hn:n<=1000000) (hn':n'<=1000000) (hs:SL rlC 4 w w.heap.size a n l) (hs':SL rlC 4 w w.heap.size a' n' l') (nm nm':List UInt8):
  Calls Tryz.prog 25 #[.agg (uCe N ki kp al D a n c),.agg (uCe N' ki' kp' al' D' a' n' c')] w (RetB (.bool (alikeB ⟨nm,ki,kp,al,D.data.toList,l⟩ ⟨nm',ki',kp',al',D'.data.toList,l'⟩)) w):=by
 obtain ⟨R,hR⟩:∃ R,R=alikeB ⟨nm,ki,kp,al,D.data.toList,l⟩ ⟨nm',ki',kp',al',D'.data.toList,l'⟩:=⟨_,rfl⟩
 rw [<-hR]
 unfold alikeB at hR
 simp only [] at hR
 obtain ⟨P,hP⟩:∃ P,P=w.heap.size:=⟨_,rfl⟩
 obtain ⟨A1,hA1⟩:∃ A,A=w.alloc (.cells (uCe N ki kp al D a n c) 43):=⟨_,rfl⟩
 obtain ⟨A2,hA2⟩:∃ A,A=A1.alloc (.cells (uCe N' ki' kp' al' D' a' n' c') 43):=⟨_,rfl⟩
 have hz1:A1.heap.size=P+1:=by rw [hA1,World.size_alloc,hP]
 have hb1:Below w.heap.size w A1:=by rw [hA1];exact lit_below w _
 have hb2:Below A1.heap.size A1 A2:=by rw [hA2];exact lit_below A1 _
 have HB:=Lib.hid (after hb1 hb2)
 have HX:Hid (RB A2 P (uCe N ki kp al D a n c) 43):=Lib.hid (by
  have:RB A1 P (uCe N ki kp al D a n c) 43:=by rw [hA1,hP];exact rb_new w _ _
  exact this.next hb2)
 have HY:Hid (RB A2 (P+1) (uCe N' ki' kp' al' D' a' n' c') 43):=Lib.hid (by rw [hA2,<-hz1];exact rb_new A1 _ _)
 have x1:A2.cell? ⟨P,1,none⟩=some (.int .i64 ki):=HX.out.cell
 have x4:A2.cell? ⟨P,4,none⟩=some (.string D):=HX.out.cell
 have x5:A2.cell? ⟨P,5,none⟩=some (.slice a n c):=HX.out.cell
 have y1:A2.cell? ⟨P+1,1,none⟩=some (.int .i64 ki'):=HY.out.cell
 have y4:A2.cell? ⟨P+1,4,none⟩=some (.string D'):=HY.out.cell
 have y5:A2.cell? ⟨P+1,5,none⟩=some (.slice a' n' c'):=HY.out.cell
 rw [hA2,hA1] at x1 x4 x5 y1 y4 y5
 rw [hP] at x1 x4 x5 y1 y4 y5
 have HAE:Hid ((w.alloc (.cells (uCe N ki kp al D a n c) 43)).alloc (.cells (uCe N' ki' kp' al' D' a' n' c') 43)=A2):=Lib.hid (by rw [hA2,hA1])
 have HP:=Lib.hid hP
 have hni:(n:Int)<=1000000:=by omega
 have hni':(n':Int)<=1000000:=by omega
 have HS:=Lib.hid hs
 have HS':=Lib.hid hs'
 have HLn:=Lib.hid hs.len
 have HLn':=Lib.hid hs'.len
 clear hA1 hA2 hz1 hb1 hb2 hP hs hs'
 by_cases e1:ki=1
 ·have t1:(ki != 1)=false:=by simp [e1]
  rw [decide_eq_true e1,Bool.true_and] at hR
  by_cases e2:ki'=1
  ·have t2:(ki' != 1)=false:=by simp [e2]
   rw [decide_eq_true e2,Bool.true_and] at hR
   by_cases e3:D=D'
   ·have t3:(D.toList == D'.toList)=true:=by rw [e3];simp
    have t3':(D.toList != D'.toList)=false:=by simp only [bne,t3];rfl
    rw [decide_eq_true (by rw [e3]),Bool.true_and] at hR
    by_cases e4:n=n'
    ·subst e4
     have hll:l.length=l'.length:=by rw [<-HLn.out,<-HLn'.out]
     have HIff:=Lib.hid (alRs_iff hll)
     have HR:=Lib.hid hR
     have t4:((n:Int) != (n:Int))=false:=by simp
     clear hR e1 e2 hll
     subst e3
     go_enter Tryz.func25,Tryz.ntmps25
     go_wp2
     rw [HAE.out,<-HP.out]
     clear x1 x4 x5 y1 y4 y5 t1 t2 t3 t3' t4
     go_loopw [34] (fun i wr=>∃ (k:Nat) (wx:World),wx=wr/\k<=n/\i=.int .i64 k/\Hid (Below A2.heap.size A2 wx/\∀ (j:Nat) (r r':Rl),j < k->l[j]?=some r->l'[j]?=some r'->alR r r'=true)) (fun i _=>n - (intOf i).toNat)
     case atStart=>exact ⟨0,_,rfl,by omega,rfl,Lib.hid ⟨Below.refl _ _,fun j r r' h=>by omega⟩⟩
     case round=>
      obtain ⟨k,wx,rfl,hk,rfl,HK⟩:=hrel
      have HBx:=Lib.hid (after HB.out HK.out.1)
      by_cases hlt:k < n
      ·have hlti:(k:Int) < (n:Int):=by omega
       have hk1:k < l.length:=by have:=HLn.out;omega
       have hk2:k < l'.length:=by have:=HLn'.out;omega
       obtain ⟨b1,o1,hae1,hB1,hc1⟩:=(HS.out.next HBx.out).cells (by intro e;rw [e] at hk1;simp at hk1)
       subst hae1
       obtain ⟨b2,o2,hae2,hB2,hc2⟩:=(HS'.out.next HBx.out).cells (by intro e;rw [e] at hk2;simp at hk2)
       subst hae2
       obtain ⟨c0,c1,c2,c3⟩:=rl_cells (fun q hq=>hc1 k hk1 q hq)
       obtain ⟨d0,d1,d2,d3⟩:=rl_cells (fun q hq=>hc2 k hk2 q hq)
       obtain ⟨x,hx⟩:∃ x,x=l[k]:=⟨_,rfl⟩
       obtain ⟨y,hy⟩:∃ y,y=l'[k]:=⟨_,rfl⟩
       have HXx:Hid (l[k]?=some x):=Lib.hid (by rw [hx];exact List.getElem?_eq_getElem hk1)
       have HYy:Hid (l'[k]?=some y):=Lib.hid (by rw [hy];exact List.getElem?_eq_getElem hk2)
       rw [<-hx] at c0 c1 c2 c3
       rw [<-hy] at d0 d1 d2 d3
       clear hc1 hc2 hB1 hB2 hx hy
       obtain ⟨xp,xk,xs,xa⟩:=x
       obtain ⟨yp,yk,ys,ya⟩:=y
       simp only [] at c0 c1 c2 c3 d0 d1 d2 d3
       obtain ⟨V,hV⟩:∃ V,V=wx.heap.size:=⟨_,rfl⟩
       obtain ⟨Wa,hWa⟩:∃ x,x=wx.alloc (.cells #[.int .i64 xp,.int .i64 xk,.int .i64 xs,.int .i64 xa] 61):=⟨_,rfl⟩
       obtain ⟨Wb,hWb⟩:∃ x,x=wx.alloc (.cells #[.int .i64 xp,.int .i64 xk,.int .i64 ys,.int .i64 xa] 61):=⟨_,rfl⟩
       have hba:Below wx.heap.size wx Wa:=by rw [hWa];exact lit_below wx _
       have hbb:Below wx.heap.size wx Wb:=by rw [hWb];exact lit_below wx _
       have HBb:=Lib.hid (after HK.out.1 hbb)
       have y5:Wa.cell? ⟨P+1,5,none⟩=some (.slice (some ⟨b2,o2,none⟩) n c'):=(HY.out.next (after HK.out.1 hba)).cell
       have z5:Wb.cell? ⟨P+1,5,none⟩=some (.slice (some ⟨b2,o2,none⟩) n c'):=(HY.out.next HBb.out).cell
       have f2:Wa.cell? ⟨b2,o2+k*4+2,none⟩=some (.int .i64 ys):=(hba.cell (p:=⟨b2,o2+k*4+2,none⟩) (cell_lt d2)).trans d2
       have g0:Wb.cell? ⟨b2,o2+k*4,none⟩=some (.int .i64 yp):=(hbb.cell (p:=⟨b2,o2+k*4,none⟩) (cell_lt d0)).trans d0
       have g1:Wb.cell? ⟨b2,o2+k*4+1,none⟩=some (.int .i64 yk):=(hbb.cell (p:=⟨b2,o2+k*4+1,none⟩) (cell_lt d1)).trans d1
       have g2:Wb.cell? ⟨b2,o2+k*4+2,none⟩=some (.int .i64 ys):=(hbb.cell (p:=⟨b2,o2+k*4+2,none⟩) (cell_lt d2)).trans d2
       have g3:Wb.cell? ⟨b2,o2+k*4+3,none⟩=some (.int .i64 ya):=(hbb.cell (p:=⟨b2,o2+k*4+3,none⟩) (cell_lt d3)).trans d3
       have hrv:RB Wb V #[.int .i64 xp,.int .i64 xk,.int .i64 ys,.int .i64 xa] 61:=by rw [hWb,hV];exact rb_new wx _ _
       have v0:Wb.cell? ⟨V,0,none⟩=some (.int .i64 xp):=hrv.cell
       have v1:Wb.cell? ⟨V,1,none⟩=some (.int .i64 xk):=hrv.cell
       have v2:Wb.cell? ⟨V,2,none⟩=some (.int .i64 ys):=hrv.cell
       have v3:Wb.cell? ⟨V,3,none⟩=some (.int .i64 xa):=hrv.cell
       rw [hWa] at y5 f2
       rw [hWb] at z5 g0 g1 g2 g3 v0 v1 v2 v3
       rw [hV] at v0 v1 v2 v3
       have HWE:Hid (wx.alloc (.cells #[.int .i64 xp,.int .i64 xk,.int .i64 ys,.int .i64 xa] 61)=Wb):=Lib.hid hWb.symm
       have hnq:=neq_rf ⟨xp,xk,ys,xa⟩ ⟨yp,yk,ys,ya⟩
       have hsm:sameRl ⟨xp,xk,ys,xa⟩ ⟨yp,yk,ys,ya⟩=alR ⟨xp,xk,xs,xa⟩ ⟨yp,yk,ys,ya⟩:=by simp [sameRl,alR]
       rw [hsm] at hnq
       simp only [rfV] at hnq
       clear hsm hWa hWb hba hbb hrv hV d0 d1 d2 d3
       cases e:alR ⟨xp,xk,xs,xa⟩ ⟨yp,yk,ys,ya⟩
       ·have HE:Hid (R=false):=Lib.hid (by
         rw [HR.out]
         cases ha:alRs l l'
         ·rfl
         ·have:=(HIff.out.1 ha) k _ _ HXx.out HYy.out
          rw [e] at this;cases this)
        rw [e] at hnq
        clear e
        go_wp2
        rw [HWE.out]
        rw [HWE.out] at z5 g0 g1 g2 g3 v0 v1 v2 v3
        go_quiet (fail)
        go_wp2
        go_ret
        exact retB_bool HE.out.symm (below_drewN (after HB.out HBb.out) _)
       ·have HE:=Lib.hid e
        rw [e] at hnq
        clear e
        go_wp2
        rw [HWE.out]
        rw [HWE.out] at z5 g0 g1 g2 g3 v0 v1 v2 v3
        go_quiet (fail)
        go_wp2
        go_roundw
        case rel=>
         refine ⟨k+1,_,rfl,by omega,by go_num,Lib.hid ⟨below_drewN HBb.out _,fun j r r' hj hr hr'=>?_⟩⟩
         by_cases ejk:j=k
         ·subst ejk
          rw [HXx.out] at hr
          rw [HYy.out] at hr'
          cases hr
          cases hr'
          exact HE.out
         ·exact HK.out.2 j r r' (by omega) hr hr'
        case measure=>simp [intOf];omega
      ·have hlti:¬ (k:Int) < (n:Int):=by omega
       have HE:Hid (R=true):=Lib.hid (by
        rw [HR.out]
        refine HIff.out.2 (fun j r r' hr hr'=>HK.out.2 j r r' ?_ hr hr')
        have h1:=(List.getElem?_eq_some_iff.1 hr).1
        have:=HLn.out
        omega)
       go_wp2
       go_ret
       exact retB_bool HE.out.symm HBx.out
    ·have t4:((n:Int) != (n':Int))=true:=by rw [bne_iff_ne];omega
     have HR:Hid (R=false):=Lib.hid (by rw [hR];unfold alRs;rw [decide_eq_false (by rw [<-HLn.out,<-HLn'.out];exact e4)];rfl)
     clear hR e1 e2 e4
     subst e3
     go_enter Tryz.func25,Tryz.ntmps25
     go_wp2
     rw [HAE.out]
     go_ret
     exact retB_bool HR.out.symm HB.out
   ·have hne:D.data.toList ≠ D'.data.toList:=fun h=>e3 (ByteArray.ext (Array.toList_inj.1 h))
    have t3:(D.toList == D'.toList)=false:=by rw [beq_eq_false_iff_ne,ByteArray.toList_eq,ByteArray.toList_eq];exact hne
    have t3':(D.toList != D'.toList)=true:=by simp only [bne,t3];rfl
    have HR:Hid (R=false):=Lib.hid (by rw [hR,decide_eq_false hne];rfl)
    clear hR e1 e2 e3 hne
    go_enter Tryz.func25,Tryz.ntmps25
    go_wp2
    rw [HAE.out]
    go_ret
    exact retB_bool HR.out.symm HB.out
  ·have t2:(ki' != 1)=true:=by simp [e2]
   have HR:Hid (R=false):=Lib.hid (by rw [hR,decide_eq_false e2];rfl)
   clear hR e1 e2
   go_enter Tryz.func25,Tryz.ntmps25
   go_wp2
   rw [HAE.out]
   go_ret
   exact retB_bool HR.out.symm HB.out
 ·have t1:(ki != 1)=true:=by simp [e1]
  have HR:Hid (R=false):=Lib.hid (by rw [hR,decide_eq_false e1];rfl)
  clear hR e1
  go_enter Tryz.func25,Tryz.ntmps25
  go_wp2
  rw [HAE.out]
  go_ret
  exact retB_bool HR.out.symm HB.out
end Go.Proofs.YtbabckomagkjbaaGreatDoor
namespace Go.Proofs.YtbabckomagkjbaaGreatDoor
open Go.ChangeShapes Go.WideShapes Go.Deep Go.RowKit
theorem owns_next {w w':World} {base:Nat} {e:TypeId} {size:Nat} {v:Value} {n:Nat} {xs:List Value} (h:w.ownsRow base e size v n xs) (hb:Below w.heap.size w w'):w'.ownsRow base e size v n xs:=by
 refine ⟨h.1,?_⟩
 rcases h.2 with hn | ⟨g,cap,cur,rfl,hbg,hgg,rest⟩
 ·exact .inl hn
 ·exact .inr ⟨g,cap,cur,rfl,hbg,(hb.block g (lt_of_block hgg)).trans hgg,rest⟩
theorem wr_next {B b:Nat} {bs:List Value} {w w':World} (h:Wr B b bs w) (hb:Below w.heap.size w w'):Wr B b bs w':=by
 have key:∀ p,WrAt B b p bs w->WrAt B b p bs w':=by
  rintro p ⟨h1,v,h2,h3,h4⟩
  exact ⟨h1,v,(hb.block b (lt_of_block h2)).trans h2,owns_next h3 hb,h4⟩
 rcases h with h | h
 ·exact .inl (key _ h)
 ·exact .inr (key _ h)
theorem wr_fresh (w:World):Wr w.heap.size w.heap.size [] (w.alloc (.cells #[.pointer none,.slice none 0 0] 122)):=
 .inl ⟨Nat.le_refl _,_,rb_new w _ _,World.ownsRow_nil _ _ _ _,by simp [Value.ownBlock]⟩
theorem encT_snoc (l:List Int) (x:Int):encT (l ++ [x])=encT l ++ (Lib.itoa x ++ [32]):=by
 unfold encT;rw [List.flatMap_append];simp
theorem encT_len (l:List Int) (h:∀ x ∈ l,i64ok x):(encT l).length<=22*l.length:=by
 induction l with
 | nil=>simp [encT]
 | cons x t ih=>
  have h1:=Lib.itoa_length_le x (h x (List.mem_cons_self ..)).1 (h x (List.mem_cons_self ..)).2
  have h2:=ih (fun y hy=>h y (List.mem_cons_of_mem _ hy))
  rw [encT_cons,List.length_append,List.length_cons,List.length_cons]
  omega
theorem bytes_app (a b:ByteArray):(a ++ b).data.toList=a.data.toList ++ b.data.toList:=by
 rw [ByteArray.data_append,Array.toList_append]
def FirstP (D:ByteArray) (T:List UInt8) (w:World) (e:Ending) (w':World):Prop:=e=.returned (.agg #[.int .i64 0,.string D,.string ⟨T.toArray⟩])/\Below w.heap.size w w'
theorem first_any (N D:ByteArray) (ki al:Int) (kp:Bool) (a:Option Addr) (n c:Nat) (l:List Rl) (w:World) (hn:n<=64) (hs:SL rlC 4 w w.heap.size a n l) (hg:∀ r ∈ l,GoodRl r) (hT:TabP w):
  Calls Tryz.prog 52 #[.agg (uCe N ki kp al D a n c)] w (FirstP D (encT (l.flatMap num3)) w):=by
 obtain ⟨P,hP⟩:∃ P,P=w.heap.size:=⟨_,rfl⟩
 obtain ⟨A1,hA1⟩:∃ A,A=w.alloc (.cells (uCe N ki kp al D a n c) 43):=⟨_,rfl⟩
 obtain ⟨A2,hA2⟩:∃ A,A=A1.alloc (.cells #[.int .i64 0,.string ⟨#[]⟩,.string ⟨#[]⟩] 76):=⟨_,rfl⟩
 obtain ⟨A3,hA3⟩:∃ A,A=A2.alloc (.cells #[.pointer none,.slice none 0 0] 122):=⟨_,rfl⟩
 have hz1:A1.heap.size=P+1:=by rw [hA1,World.size_alloc,hP]
 have hz2:A2.heap.size=P+1+1:=by rw [hA2,World.size_alloc,hz1]
 have hb1:Below w.heap.size w A1:=by rw [hA1];exact lit_below w _
 have hb2:Below A1.heap.size A1 A2:=by rw [hA2];exact lit_below A1 _
 have hb3:Below A2.heap.size A2 A3:=by rw [hA3];exact lit_below A2 _
 have HB:=Lib.hid (after (after hb1 hb2) hb3)
 have HX:Hid (RB A3 P (uCe N ki kp al D a n c) 43):=Lib.hid (by
  have:RB A1 P (uCe N ki kp al D a n c) 43:=by rw [hA1,hP];exact rb_new w _ _
  exact (this.next hb2).next hb3)
 have HY:Hid (RB A3 (P+1) #[.int .i64 0,.string ⟨#[]⟩,.string ⟨#[]⟩] 76):=Lib.hid (by
  have:RB A2 (P+1) #[.int .i64 0,.string ⟨#[]⟩,.string ⟨#[]⟩] 76:=by rw [hA2,<-hz1];exact rb_new A1 _ _
  exact this.next hb3)
 have HW:Hid (Wr (P+1+1) (P+1+1) (Lib.byteCells []) A3):=Lib.hid (by rw [hA3,<-hz2];exact wr_fresh A2)
 have x5:A3.cell? ⟨P,5,none⟩=some (.slice a n c):=HX.out.cell
 rw [hA3,hA2,hA1] at x5
 rw [hP] at x5
 have HAE:Hid (((w.alloc (.cells (uCe N ki kp al D a n c) 43)).alloc (.cells #[.int .i64 0,.string ⟨#[]⟩,.string ⟨#[]⟩] 76)).alloc (.cells #[.pointer none,.slice none 0 0] 122)=A3):=Lib.hid (by rw [hA3,hA2,hA1])
 have HS:=Lib.hid hs
 have HG:=Lib.hid hg
 have HT:=Lib.hid hT
 have HLn:=Lib.hid hs.len
 have HP:=Lib.hid hP
 have hni:(n:Int)<=64:=by omega
 have HZ:Hid (A3.heap.size=P+1+1+1):=Lib.hid (by rw [hA3,World.size_alloc,hz2])
 clear hA1 hA2 hA3 hz1 hz2 hb1 hb2 hb3 hs hg hT hP
 go_enter Tryz.func52,Tryz.ntmps52
 go_wp2
 clear x5
 rw [HAE.out,<-HP.out]
 go_loopw [11] (fun i wr=>∃ (k:Nat) (wx:World),wx=wr/\k<=n/\i=.int .i64 k/\Hid (Below (P+1+1) A3 wx/\Wr (P+1+1) (P+1+1) (Lib.byteCells (encT ((l.take k).flatMap num3))) wx)) (fun i _=>n - (intOf i).toNat)
 case atStart=>exact ⟨0,_,rfl,by omega,rfl,Lib.hid ⟨Below.refl _ _,HW.out⟩⟩
 case round=>
  clear HW
  obtain ⟨k,wx,rfl,hk,rfl,HK⟩:=hrel
  by_cases hlt:k < n
  ·have hlti:(k:Int) < (n:Int):=by omega
   have hk1:k < l.length:=by have:=HLn.out;omega
   have HBx:Hid (Below w.heap.size w wx):=Lib.hid (HB.out.trans (HK.out.1.mono (by have:=HP.out;omega)))
   obtain ⟨b1,o1,hae1,hB1,hc1⟩:=(HS.out.next HBx.out).cells (by intro e;rw [e] at hk1;simp at hk1)
   subst hae1
   obtain ⟨c0,c1,c2,c3⟩:=rl_cells (fun q hq=>hc1 k hk1 q hq)
   obtain ⟨x,hx⟩:∃ x,x=l[k]:=⟨_,rfl⟩
   have HXx:Hid (l[k]?=some x):=Lib.hid (by rw [hx];exact List.getElem?_eq_getElem hk1)
   have HGx:Hid (GoodRl x):=Lib.hid (HG.out x (by rw [hx];exact List.getElem_mem hk1))
   rw [<-hx] at c0 c1 c2 c3
   clear hc1 hB1 hx
   obtain ⟨xp,xk,xs,xa⟩:=x
   simp only [] at c0 c1 c2 c3
   obtain ⟨V,hV⟩:∃ V,V=wx.heap.size:=⟨_,rfl⟩
   obtain ⟨Wa,hWa⟩:∃ x,x=wx.alloc (.cells #[.int .i64 xp,.int .i64 xk,.int .i64 xs,.int .i64 xa] 61):=⟨_,rfl⟩
   have hba:Below wx.heap.size wx Wa:=by rw [hWa];exact lit_below wx _
   have hrv:RB Wa V #[.int .i64 xp,.int .i64 xk,.int .i64 xs,.int .i64 xa] 61:=by rw [hWa,hV];exact rb_new wx _ _
   have v0:Wa.cell? ⟨V,0,none⟩=some (.int .i64 xp):=hrv.cell
   have v1:Wa.cell? ⟨V,1,none⟩=some (.int .i64 xk):=hrv.cell
   have v3:Wa.cell? ⟨V,3,none⟩=some (.int .i64 xa):=hrv.cell
   rw [hWa] at v0 v1 v3
   rw [hV] at v0 v1 v3
   have HWE:Hid (wx.alloc (.cells #[.int .i64 xp,.int .i64 xk,.int .i64 xs,.int .i64 xa] 61)=Wa):=Lib.hid hWa.symm
   have hs3:P+1+1<=wx.heap.size:=by have:=HK.out.1.size;have:=HZ.out;omega
   have HBa:Hid (Below (P+1+1) A3 Wa):=Lib.hid (HK.out.1.trans (hba.mono hs3))
   have HWa:Hid (Wr (P+1+1) (P+1+1) (Lib.byteCells (encT ((l.take k).flatMap num3))) Wa):=Lib.hid (wr_next HK.out.2 hba)
   obtain ⟨X,hX⟩:∃ X,X=(l.take k).flatMap num3:=⟨_,rfl⟩
   rw [<-hX] at HWa
   have HXe:=Lib.hid hX
   have HXl:Hid (X.length<=192/\∀ x ∈ X,i64ok x):=Lib.hid (by
    have e:∀ (L:List Rl),(L.flatMap num3).length=3*L.length:=by
     intro L
     induction L with
     | nil=>rfl
     | cons r t ih=>rw [List.flatMap_cons,List.length_append,ih,List.length_cons];simp [num3];omega
    refine ⟨by rw [hX,e,List.length_take];omega,?_⟩
    intro x hx
    rw [hX] at hx
    obtain ⟨r,hr,hx⟩:=List.mem_flatMap.1 hx
    have g:=HG.out r (List.mem_of_mem_take hr)
    simp only [num3,List.mem_cons,List.not_mem_nil,or_false] at hx
    rcases hx with rfl | rfl | rfl
    ·exact g.1
    ·exact g.2.1
    ·exact g.2.2.2)
   have hi0:∀ u,(Instr.index 123 (.agg #[.int .i64 xp,.int .i64 xk,.int .i64 xa]) (.int .i64 0)).run Tryz.prog u=.ok (.int .i64 xp) u:=fun u=>by kernel_rfl
   have hi1:∀ u,(Instr.index 123 (.agg #[.int .i64 xp,.int .i64 xk,.int .i64 xa]) (.int .i64 1)).run Tryz.prog u=.ok (.int .i64 xk) u:=fun u=>by kernel_rfl
   have hi2:∀ u,(Instr.index 123 (.agg #[.int .i64 xp,.int .i64 xk,.int .i64 xa]) (.int .i64 2)).run Tryz.prog u=.ok (.int .i64 xa) u:=fun u=>by kernel_rfl
   clear hWa hba hrv hV hs3 hX
   go_wp2
   rw [HWE.out]
   clear v0 v1 v3 c0 c1 c2 c3
   go_loopw [22] (fun i wr=>∃ (j:Nat) (wy:World),wy=wr/\j<=3/\i=.int .i64 j/\Hid (Below (P+1+1) A3 wy/\Wr (P+1+1) (P+1+1) (Lib.byteCells (encT (X ++ [xp,xk,xa].take j))) wy)) (fun i _=>3 - (intOf i).toNat)
   case atStart=>exact ⟨0,_,rfl,by omega,rfl,Lib.hid ⟨HBa.out,by simpa using HWa.out⟩⟩
   case round=>
    obtain ⟨j,wy,rfl,hj,rfl,HJ⟩:=hrel
    have HBy:Hid (Below w.heap.size w wy):=Lib.hid (HB.out.trans (HJ.out.1.mono (by have:=HP.out;omega)))
    have HTy:=Lib.hid (HT.out.next HBy.out)
    have HSz:Hid (P+1+1<=wy.heap.size):=Lib.hid (by have:=HJ.out.1.size;have:=HZ.out;omega)
    rcases (by omega:j=0\/j=1\/j=2\/j=3) with rfl | rfl | rfl | rfl
    ·have hgx:i64ok xp:=HGx.out.1
     have hI:=Tryz.strconv_Itoa xp hgx.1 hgx.2 wy HTy.out.2.2.1
     have hIl:=Lib.itoa_length_le xp hgx.1 hgx.2
     obtain ⟨Tx,hTx⟩:∃ Tx:ByteArray,Tx=⟨(Lib.itoa xp).toArray⟩:=⟨_,rfl⟩
     have hTl:Tx.size<=21:=by rw [hTx];exact hIl
     rw [<-hTx] at hI
     have HI:=Lib.hid hI
     have HTx:=Lib.hid hTx
     have hsum:(Tx.size:Int)+1<=9223372036854775807:=by omega
     have HTl:=Lib.hid hTl
     clear hI hIl hTx hTl hgx
     go_wp2_with fail
     refine HI.out.mono ?_
     rintro e u ⟨rfl,kq,os,eo⟩
     have hbu:Below wy.heap.size wy u:=by rw [eo];exact Lib.below_grow _ wy (Nat.le_refl _) kq os
     have HWu:=Lib.hid (wr_next HJ.out.2 hbu)
     have HBu:=Lib.hid (HJ.out.1.trans (hbu.mono HSz.out))
     have HSu:Hid (P+1+1<=u.heap.size):=Lib.hid (Nat.le_trans HSz.out hbu.size)
     clear eo hbu
     go_wp2_with fail
     have hlL:(encT (X ++ [xp,xk,xa].take 0)).length<=22*195:=by
      have h1:=HXl.out
      have h2:∀ x ∈ X ++ [xp,xk,xa].take 0,i64ok x:=by
       intro x hx
       rcases List.mem_append.1 hx with hx | hx
       ·exact h1.2 x hx
       ·have:=List.mem_of_mem_take hx
        simp only [List.mem_cons,List.not_mem_nil,or_false] at this
        rcases this with rfl | rfl | rfl
        ·exact HGx.out.1
        ·exact HGx.out.2.1
        ·exact HGx.out.2.2.2
      have h3:=encT_len _ h2
      have h4:(X ++ [xp,xk,xa].take 0).length<=195:=by simp;omega
      omega
     have hTT:(Tx ++ ⟨#[32]⟩:ByteArray).size<=22:=by
      have:=HTl.out
      rw [ByteArray.size_append]
      have e1:(⟨#[32]⟩:ByteArray).size=1:=rfl
      omega
     refine (writeString_any (P+1+1) (P+1+1) _ _ u HWu.out (by rw [Lib.byteCells_length];omega) HSu.out).mono ?_
     clear hlL hTT
     rintro e w2 ⟨rfl,hwr,hb⟩
     have HB2:=Lib.hid (HBu.out.trans hb)
     have HW2:Hid (Wr (P+1+1) (P+1+1) (Lib.byteCells (encT (X ++ [xp,xk,xa].take (0+1)))) w2):=Lib.hid (Or.inr (by
      have e1:X ++ [xp,xk,xa].take (0+1)=(X ++ [xp,xk,xa].take 0) ++ [xp]:=by simp
      have e2:(Tx ++ ⟨#[32]⟩:ByteArray).data.toList=Lib.itoa xp ++ [32]:=by rw [bytes_app,HTx.out]
      have e3:Lib.byteCells (encT (X ++ [xp,xk,xa].take (0+1)))=Lib.byteCells (encT (X ++ [xp,xk,xa].take 0)) ++ Lib.strCells (Tx ++ ⟨#[32]⟩):=by
       rw [e1,encT_snoc,Lib.byteCells_append]
       unfold Lib.strCells
       rw [e2];rfl
      rw [e3];exact hwr))
     clear hwr hb HBu HWu HSu HI
     go_wp2
     go_roundw
     case rel=>exact ⟨0+1,_,rfl,by omega,by go_num,Lib.hid ⟨HB2.out,HW2.out⟩⟩
     case measure=>simp [intOf]
    ·have hgx:i64ok xk:=HGx.out.2.1
     have hI:=Tryz.strconv_Itoa xk hgx.1 hgx.2 wy HTy.out.2.2.1
     have hIl:=Lib.itoa_length_le xk hgx.1 hgx.2
     obtain ⟨Tx,hTx⟩:∃ Tx:ByteArray,Tx=⟨(Lib.itoa xk).toArray⟩:=⟨_,rfl⟩
     have hTl:Tx.size<=21:=by rw [hTx];exact hIl
     rw [<-hTx] at hI
     have HI:=Lib.hid hI
     have HTx:=Lib.hid hTx
     have hsum:(Tx.size:Int)+1<=9223372036854775807:=by omega
     have HTl:=Lib.hid hTl
     clear hI hIl hTx hTl hgx
     go_wp2_with fail
     refine HI.out.mono ?_
     rintro e u ⟨rfl,kq,os,eo⟩
     have hbu:Below wy.heap.size wy u:=by rw [eo];exact Lib.below_grow _ wy (Nat.le_refl _) kq os
     have HWu:=Lib.hid (wr_next HJ.out.2 hbu)
     have HBu:=Lib.hid (HJ.out.1.trans (hbu.mono HSz.out))
     have HSu:Hid (P+1+1<=u.heap.size):=Lib.hid (Nat.le_trans HSz.out hbu.size)
     clear eo hbu
     go_wp2_with fail
     have hlL:(encT (X ++ [xp,xk,xa].take 1)).length<=22*195:=by
      have h1:=HXl.out
      have h2:∀ x ∈ X ++ [xp,xk,xa].take 1,i64ok x:=by
       intro x hx
       rcases List.mem_append.1 hx with hx | hx
       ·exact h1.2 x hx
       ·have:=List.mem_of_mem_take hx
        simp only [List.mem_cons,List.not_mem_nil,or_false] at this
        rcases this with rfl | rfl | rfl
        ·exact HGx.out.1
        ·exact HGx.out.2.1
        ·exact HGx.out.2.2.2
      have h3:=encT_len _ h2
      have h4:(X ++ [xp,xk,xa].take 1).length<=195:=by simp;omega
      omega
     have hTT:(Tx ++ ⟨#[32]⟩:ByteArray).size<=22:=by
      have:=HTl.out
      rw [ByteArray.size_append]
      have e1:(⟨#[32]⟩:ByteArray).size=1:=rfl
      omega
     refine (writeString_any (P+1+1) (P+1+1) _ _ u HWu.out (by rw [Lib.byteCells_length];omega) HSu.out).mono ?_
     clear hlL hTT
     rintro e w2 ⟨rfl,hwr,hb⟩
     have HB2:=Lib.hid (HBu.out.trans hb)
     have HW2:Hid (Wr (P+1+1) (P+1+1) (Lib.byteCells (encT (X ++ [xp,xk,xa].take (1+1)))) w2):=Lib.hid (Or.inr (by
      have e1:X ++ [xp,xk,xa].take (1+1)=(X ++ [xp,xk,xa].take 1) ++ [xk]:=by simp
      have e2:(Tx ++ ⟨#[32]⟩:ByteArray).data.toList=Lib.itoa xk ++ [32]:=by rw [bytes_app,HTx.out]
      have e3:Lib.byteCells (encT (X ++ [xp,xk,xa].take (1+1)))=Lib.byteCells (encT (X ++ [xp,xk,xa].take 1)) ++ Lib.strCells (Tx ++ ⟨#[32]⟩):=by
       rw [e1,encT_snoc,Lib.byteCells_append]
       unfold Lib.strCells
       rw [e2];rfl
      rw [e3];exact hwr))
     clear hwr hb HBu HWu HSu HI
     go_wp2
     go_roundw
     case rel=>exact ⟨1+1,_,rfl,by omega,by go_num,Lib.hid ⟨HB2.out,HW2.out⟩⟩
     case measure=>simp [intOf]
    ·have hgx:i64ok xa:=HGx.out.2.2.2
     have hI:=Tryz.strconv_Itoa xa hgx.1 hgx.2 wy HTy.out.2.2.1
     have hIl:=Lib.itoa_length_le xa hgx.1 hgx.2
     obtain ⟨Tx,hTx⟩:∃ Tx:ByteArray,Tx=⟨(Lib.itoa xa).toArray⟩:=⟨_,rfl⟩
     have hTl:Tx.size<=21:=by rw [hTx];exact hIl
     rw [<-hTx] at hI
     have HI:=Lib.hid hI
     have HTx:=Lib.hid hTx
     have hsum:(Tx.size:Int)+1<=9223372036854775807:=by omega
     have HTl:=Lib.hid hTl
     clear hI hIl hTx hTl hgx
     go_wp2_with fail
     refine HI.out.mono ?_
     rintro e u ⟨rfl,kq,os,eo⟩
     have hbu:Below wy.heap.size wy u:=by rw [eo];exact Lib.below_grow _ wy (Nat.le_refl _) kq os
     have HWu:=Lib.hid (wr_next HJ.out.2 hbu)
     have HBu:=Lib.hid (HJ.out.1.trans (hbu.mono HSz.out))
     have HSu:Hid (P+1+1<=u.heap.size):=Lib.hid (Nat.le_trans HSz.out hbu.size)
     clear eo hbu
     go_wp2_with fail
     have hlL:(encT (X ++ [xp,xk,xa].take 2)).length<=22*195:=by
      have h1:=HXl.out
      have h2:∀ x ∈ X ++ [xp,xk,xa].take 2,i64ok x:=by
       intro x hx
       rcases List.mem_append.1 hx with hx | hx
       ·exact h1.2 x hx
       ·have:=List.mem_of_mem_take hx
        simp only [List.mem_cons,List.not_mem_nil,or_false] at this
        rcases this with rfl | rfl | rfl
        ·exact HGx.out.1
        ·exact HGx.out.2.1
        ·exact HGx.out.2.2.2
      have h3:=encT_len _ h2
      have h4:(X ++ [xp,xk,xa].take 2).length<=195:=by simp;omega
      omega
     have hTT:(Tx ++ ⟨#[32]⟩:ByteArray).size<=22:=by
      have:=HTl.out
      rw [ByteArray.size_append]
      have e1:(⟨#[32]⟩:ByteArray).size=1:=rfl
      omega
     refine (writeString_any (P+1+1) (P+1+1) _ _ u HWu.out (by rw [Lib.byteCells_length];omega) HSu.out).mono ?_
     clear hlL hTT
     rintro e w2 ⟨rfl,hwr,hb⟩
     have HB2:=Lib.hid (HBu.out.trans hb)
     have HW2:Hid (Wr (P+1+1) (P+1+1) (Lib.byteCells (encT (X ++ [xp,xk,xa].take (2+1)))) w2):=Lib.hid (Or.inr (by
      have e1:X ++ [xp,xk,xa].take (2+1)=(X ++ [xp,xk,xa].take 2) ++ [xa]:=by simp
      have e2:(Tx ++ ⟨#[32]⟩:ByteArray).data.toList=Lib.itoa xa ++ [32]:=by rw [bytes_app,HTx.out]
      have e3:Lib.byteCells (encT (X ++ [xp,xk,xa].take (2+1)))=Lib.byteCells (encT (X ++ [xp,xk,xa].take 2)) ++ Lib.strCells (Tx ++ ⟨#[32]⟩):=by
       rw [e1,encT_snoc,Lib.byteCells_append]
       unfold Lib.strCells
       rw [e2];rfl
      rw [e3];exact hwr))
     clear hwr hb HBu HWu HSu HI
     go_wp2
     go_roundw
     case rel=>exact ⟨2+1,_,rfl,by omega,by go_num,Lib.hid ⟨HB2.out,HW2.out⟩⟩
     case measure=>simp [intOf]
    ·go_wp2
     go_roundw
     case rel=>
      refine ⟨k+1,_,rfl,by omega,by go_num,Lib.hid ⟨HJ.out.1,?_⟩⟩
      have e:(l.take (k+1)).flatMap num3=X ++ [xp,xk,xa]:=by rw [List.take_add_one,HXx.out,List.flatMap_append,HXe.out];simp [num3]
      rw [e]
      exact HJ.out.2
     case measure=>simp [intOf];omega
  ·have hlti:¬ (k:Int) < (n:Int):=by omega
   have HWx:Hid (Wr (P+1+1) (P+1+1) (Lib.byteCells (encT (l.flatMap num3))) wx):=Lib.hid (by
    have:=HK.out.2
    rw [List.take_of_length_le (by have:=HLn.out;omega)] at this;exact this)
   have HBx:=Lib.hid HK.out.1
   clear HK
   go_wp2_with fail
   have hbd:Below wx.heap.size wx wx.drew:=(Below.refl _ _).drew
   have hBd:Below (P+1+1) A3 wx.drew:=HBx.out.trans (hbd.mono (by have:=HBx.out.size;have:=HZ.out;omega))
   have HWd:=Lib.hid (wr_next HWx.out hbd)
   have HSd:Hid (P+1+1<=wx.drew.heap.size):=Lib.hid (by have:=hBd.size;have:=HZ.out;omega)
   have hXd:RB wx.drew P (uCe N ki kp al D a n c) 43:=(hBd.block P (by omega)).trans HX.out
   have HYd:Hid (RB wx.drew (P+1) #[.int .i64 0,.string ⟨#[]⟩,.string ⟨#[]⟩] 76):=Lib.hid ((hBd.block (P+1) (by omega)).trans HY.out)
   have hBw:Below w.heap.size w wx.drew:=HB.out.trans (hBd.mono (by rw [<-HP.out];omega))
   have HXd:=Lib.hid hXd
   have HBw:=Lib.hid hBw
   have hkeep:Below w.heap.size w wx.drew/\wx.drew.cell? ⟨P,4,none⟩=some (.string D):=⟨hBw,hXd.cell⟩
   clear hbd hBd hXd hBw
   refine wp_region_held_drew (S:=fun w'=>Below w.heap.size w w'/\w'.cell? ⟨P,4,none⟩=some (.string D)) (by kernel_rfl) (hkeep) (fun hHeld=>?_)
   refine wpAnyH_take (i:=0) (v:=?_) rfl (by kernel_rfl) (by kernel_rfl) (by kernel_rfl) (fun _ _ _ h=>h) (Or.inl ⟨by kernel_rfl,?_⟩) (by assumption) ?_
   rotate_left 1
   ·intro w hSw;(try dsimp only at hSw);obtain ⟨y,y1⟩:=hSw;go_simp;(try with_reducible rfl)
   (try simp only [Act.put,List.setIfInBounds_toArray,List.set_cons_zero,List.set_cons_succ])
   refine wpAnyH_take (i:=1) (v:=?_) rfl (by kernel_rfl) (by kernel_rfl) (by kernel_rfl) (fun _ _ _ h=>h) (Or.inl ⟨by kernel_rfl,?_⟩) (by assumption) ?_
   rotate_left 1
   ·intro w hSw;(try dsimp only at hSw);obtain ⟨y,y1⟩:=hSw;go_simp;(try with_reducible rfl)
   (try simp only [Act.put,List.setIfInBounds_toArray,List.set_cons_zero,List.set_cons_succ])
   refine wpAnyH_ready (rs:=[2]) (by kernel_rfl) (by simp) ?_
   refine AllReadyH.cons rfl (fun K hK=>?_) ?_
   ·go_simp;go_wp2_with (go_at_call 78;refine (Tryz.Builder_String_any (P+1+1) (P+1+1) _ _ HWd.out HSd.out).mono ?_;rintro e u ⟨rfl,hu⟩)
    have HYu:Hid (RB u (P+1) #[.int .i64 0,.string ⟨#[]⟩,.string ⟨#[]⟩] 76):=Lib.hid ((hu.block (P+1) (by omega)).trans HYd.out)
    have HXu:Hid (RB u P (uCe N ki kp al D a n c) 43):=Lib.hid ((hu.block P (by omega)).trans HXd.out)
    have HBu:Hid (Below w.heap.size w u):=Lib.hid (HBw.out.trans (hu.mono (by rw [<-HP.out];omega)))
    have HYf:Hid (RB (((u.setCell ⟨P+1,0,none⟩ (.int .i64 0)).setCell ⟨P+1,1,none⟩ (.string D)).setCell ⟨P+1,2,none⟩ (.string ⟨(encT (l.flatMap num3)).toArray⟩)) (P+1) #[.int .i64 0,.string D,.string ⟨(encT (l.flatMap num3)).toArray⟩] 76):=Lib.hid (((HYu.out.set (j:=0) _).set (j:=1) _).set (j:=2) _)
    have hle:w.heap.size<=P+1:=by rw [<-HP.out];omega
    have HKeep2:Hid (Below w.heap.size w (((u.setCell ⟨P+1,0,none⟩ (.int .i64 0)).setCell ⟨P+1,1,none⟩ (.string D)).setCell ⟨P+1,2,none⟩ (.string ⟨(encT (l.flatMap num3)).toArray⟩))/\(((u.setCell ⟨P+1,0,none⟩ (.int .i64 0)).setCell ⟨P+1,1,none⟩ (.string D)).setCell ⟨P+1,2,none⟩ (.string ⟨(encT (l.flatMap num3)).toArray⟩)).cell? ⟨P,4,none⟩=some (.string D)):=Lib.hid ⟨((HBu.out.setCell (p:=⟨P+1,0,none⟩) hle _).setCell (p:=⟨P+1,1,none⟩) hle _).setCell (p:=⟨P+1,2,none⟩) hle _,by
     have h1:RB (((u.setCell ⟨P+1,0,none⟩ (.int .i64 0)).setCell ⟨P+1,1,none⟩ (.string D)).setCell ⟨P+1,2,none⟩ (.string ⟨(encT (l.flatMap num3)).toArray⟩)) P (uCe N ki kp al D a n c) 43:=(hother (by omega)).trans ((hother (by omega)).trans ((hother (by omega)).trans HXu.out))
     exact h1.cell⟩
    refine hK.out _ _ (⟨HBu.out,HXu.out.cell⟩) (fun hHeld=>?_)
    clear hK K
    refine wpAnyH_take (i:=3) (v:=?_) rfl (by kernel_rfl) (by kernel_rfl) (by kernel_rfl) (fun _ _ _ h=>h) (Or.inl ⟨by kernel_rfl,?_⟩) (by assumption) ?_
    rotate_left 1
    ·intro w hSw;(try dsimp only at hSw);obtain ⟨y,y1⟩:=hSw;go_simp;(try with_reducible rfl)
    (try simp only [Act.put,List.setIfInBounds_toArray,List.set_cons_zero,List.set_cons_succ])
    have y0:u.cell? ⟨P+1,0,none⟩=some (.int .i64 0):=HYu.out.cell
    have y1:u.cell? ⟨P+1,1,none⟩=some (.string ⟨#[]⟩):=HYu.out.cell
    have y2:u.cell? ⟨P+1,2,none⟩=some (.string ⟨#[]⟩):=HYu.out.cell
    have z0:u.frozen? ⟨P+1,0,none⟩=false:=HYu.out.frozen
    have z1:u.frozen? ⟨P+1,1,none⟩=false:=HYu.out.frozen
    have z2:u.frozen? ⟨P+1,2,none⟩=false:=HYu.out.frozen
    refine wpAnyH_ready (rs:=[4]) (by kernel_rfl) (by simp) ?_
    refine AllReadyH.cons rfl (fun K hK=>?_) ?_
    ·go_simp
     refine hK.out _ _ (HKeep2.out) (fun hHeld=>?_)
     clear hK K
     refine wpAnyH_done (by kernel_rfl) ?_ _
     go_wp2_with fail
     refine bodyPost_ret (results_cell_row (P:=Tryz.prog) rfl _ _ (P+1) 76 _ (0,0) _ rfl HYf.out Tryz.underlying76 rfl (by kernel_rfl)) rfl ?_
     exact ⟨rfl,HKeep2.out.1⟩
    exact AllReadyH.nil
   exact AllReadyH.nil
end Go.Proofs.YtbabckomagkjbaaGreatDoor
namespace Go.Proofs.YtbabckomagkjbaaGreatDoor
open Go.ChangeShapes Go.WideShapes Go.Deep Go.RowKit
def FinP (v:Int) (T:List UInt8) (w:World) (e:Ending) (w':World):Prop:=e=.returned (.agg #[.int .i64 v,.string ⟨#[]⟩,.string ⟨T.toArray⟩])/\Below w.heap.size w w'
theorem ints_cells {w:World} {pb po pn:Nat} {P:List Int} (h:SL enZ 1 w w.heap.size (some ⟨pb,po,none⟩) pn P) {u:World} (hu:Below w.heap.size w u) {q:Nat} {v:Int} (hq:P[q]?=some v):u.cell? ⟨pb,po+q,none⟩=some (.int .i64 v):=by
 have hl:=(List.getElem?_eq_some_iff.1 hq).1
 have hv:=(List.getElem?_eq_some_iff.1 hq).2
 obtain ⟨b,off,e,hB,hc⟩:=(h.next hu).cells (by intro e;rw [e] at hl;simp at hl)
 cases e
 have d0:=hc q hl 0 (by decide)
 simp only [enZ,Nat.add_zero,Nat.mul_one,List.getElem?_cons_zero] at d0
 rw [d0,hv]
abbrev atP (P:List Int) (r:Rl):Int:=(P[r.sym.toNat]?).getD 0
theorem finer_any (N D:ByteArray) (ki al:Int) (kp:Bool) (a:Option Addr) (n c:Nat) (l:List Rl) (at':Nat) (vat:Int) (pa:Option Addr) (pn pc:Nat) (P:List Int) (w:World) (hn:n<=64) (hs:SL rlC 4 w w.heap.size a n l) (hg:∀ r ∈ l,0<=r.sym/\r.sym < (P.length:Int)) (hpn:pn<=1000000) (hsP:SL enZ 1 w w.heap.size pa pn P) (hPo:∀ x ∈ P,i64ok x) (hat:P[at']?=some vat) (hT:TabP w):
  Calls Tryz.prog 54 #[.agg (uCe N ki kp al D a n c),.int .i64 at',.slice pa pn pc] w (FinP vat (encT (l.map (atP P))) w):=by
 have hatl:=(List.getElem?_eq_some_iff.1 hat).1
 obtain ⟨pb,po,hae,-,-⟩:=hsP.cells (by intro e;rw [e] at hatl;simp at hatl)
 subst hae
 have HPc:Hid (∀ u,Below w.heap.size w u->∀ (q:Nat) (v:Int),P[q]?=some v->u.cell? ⟨pb,po+q,none⟩=some (.int .i64 v)):=Lib.hid (fun u hu q v hq=>ints_cells hsP hu hq)
 have hPl:=hsP.len
 have HPl:=Lib.hid hPl
 have HPo:=Lib.hid hPo
 obtain ⟨Q,hP⟩:∃ P,P=w.heap.size:=⟨_,rfl⟩
 obtain ⟨A1,hA1⟩:∃ A,A=w.alloc (.cells (uCe N ki kp al D a n c) 43):=⟨_,rfl⟩
 obtain ⟨A2,hA2⟩:∃ A,A=A1.alloc (.cells #[.int .i64 0,.string ⟨#[]⟩,.string ⟨#[]⟩] 76):=⟨_,rfl⟩
 obtain ⟨A3,hA3⟩:∃ A,A=A2.alloc (.cells #[.pointer none,.slice none 0 0] 122):=⟨_,rfl⟩
 have hz1:A1.heap.size=Q+1:=by rw [hA1,World.size_alloc,hP]
 have hz2:A2.heap.size=Q+1+1:=by rw [hA2,World.size_alloc,hz1]
 have hb1:Below w.heap.size w A1:=by rw [hA1];exact lit_below w _
 have hb2:Below A1.heap.size A1 A2:=by rw [hA2];exact lit_below A1 _
 have hb3:Below A2.heap.size A2 A3:=by rw [hA3];exact lit_below A2 _
 have HB:=Lib.hid (after (after hb1 hb2) hb3)
 have HX:Hid (RB A3 Q (uCe N ki kp al D a n c) 43):=Lib.hid (by
  have:RB A1 Q (uCe N ki kp al D a n c) 43:=by rw [hA1,hP];exact rb_new w _ _
  exact (this.next hb2).next hb3)
 have HY:Hid (RB A3 (Q+1) #[.int .i64 0,.string ⟨#[]⟩,.string ⟨#[]⟩] 76):=Lib.hid (by
  have:RB A2 (Q+1) #[.int .i64 0,.string ⟨#[]⟩,.string ⟨#[]⟩] 76:=by rw [hA2,<-hz1];exact rb_new A1 _ _
  exact this.next hb3)
 have HW:Hid (Wr (Q+1+1) (Q+1+1) (Lib.byteCells []) A3):=Lib.hid (by rw [hA3,<-hz2];exact wr_fresh A2)
 have x5:A3.cell? ⟨Q,5,none⟩=some (.slice a n c):=HX.out.cell
 rw [hA3,hA2,hA1] at x5
 rw [hP] at x5
 have HAE:Hid (((w.alloc (.cells (uCe N ki kp al D a n c) 43)).alloc (.cells #[.int .i64 0,.string ⟨#[]⟩,.string ⟨#[]⟩] 76)).alloc (.cells #[.pointer none,.slice none 0 0] 122)=A3):=Lib.hid (by rw [hA3,hA2,hA1])
 have HS:=Lib.hid hs
 have HG:=Lib.hid hg
 have HT:=Lib.hid hT
 have HLn:=Lib.hid hs.len
 have HP:=Lib.hid hP
 have HAt:=Lib.hid hat
 have hni:(n:Int)<=64:=by omega
 have hpi:(pn:Int)<=1000000:=by omega
 have hai:(at':Int) < (pn:Int):=by omega
 have HZ:Hid (A3.heap.size=Q+1+1+1):=Lib.hid (by rw [hA3,World.size_alloc,hz2])
 clear hA1 hA2 hA3 hz1 hz2 hb1 hb2 hb3 hs hg hT hP hsP hPo hat hatl hPl
 go_enter Tryz.func54,Tryz.ntmps54
 go_wp2
 clear x5
 rw [HAE.out,<-HP.out]
 go_loopw [13] (fun i wr=>∃ (k:Nat) (wx:World),wx=wr/\k<=n/\i=.int .i64 k/\Hid (Below (Q+1+1) A3 wx/\Wr (Q+1+1) (Q+1+1) (Lib.byteCells (encT ((l.take k).map (atP P)))) wx)) (fun i _=>n - (intOf i).toNat)
 case atStart=>exact ⟨0,_,rfl,by omega,rfl,Lib.hid ⟨Below.refl _ _,HW.out⟩⟩
 case round=>
  clear HW
  obtain ⟨k,wx,rfl,hk,rfl,HK⟩:=hrel
  by_cases hlt:k < n
  ·have hlti:(k:Int) < (n:Int):=by omega
   have hk1:k < l.length:=by have:=HLn.out;omega
   have HBx:Hid (Below w.heap.size w wx):=Lib.hid (HB.out.trans (HK.out.1.mono (by have:=HP.out;omega)))
   obtain ⟨b1,o1,hae1,hB1,hc1⟩:=(HS.out.next HBx.out).cells (by intro e;rw [e] at hk1;simp at hk1)
   subst hae1
   obtain ⟨c0,c1,c2,c3⟩:=rl_cells (fun q hq=>hc1 k hk1 q hq)
   obtain ⟨x,hx⟩:∃ x,x=l[k]:=⟨_,rfl⟩
   have HXx:Hid (l[k]?=some x):=Lib.hid (by rw [hx];exact List.getElem?_eq_getElem hk1)
   have hGx:=HG.out x (by rw [hx];exact List.getElem_mem hk1)
   rw [<-hx] at c0 c1 c2 c3
   clear hc1 hB1 hx
   obtain ⟨xp,xk,xs,xa⟩:=x
   simp only [] at c0 c1 c2 c3 hGx
   obtain ⟨q,rfl⟩:=Int.eq_ofNat_of_zero_le hGx.1
   have hqP:q < P.length:=by omega
   obtain ⟨v,hv⟩:∃ v,v=P[q]:=⟨_,rfl⟩
   have hPq:P[q]?=some v:=by rw [hv];exact List.getElem?_eq_getElem hqP
   have hvo:i64ok v:=HPo.out v (by rw [hv];exact List.getElem_mem hqP)
   have hqi:(q:Int) < (pn:Int):=by have:=HPl.out;omega
   have HPq:=Lib.hid hPq
   obtain ⟨Wa,hWa⟩:∃ x,x=wx.alloc (.cells #[.int .i64 xp,.int .i64 xk,.int .i64 (q:Int),.int .i64 xa] 61):=⟨_,rfl⟩
   have hba:Below wx.heap.size wx Wa:=by rw [hWa];exact lit_below wx _
   have hrv:RB Wa wx.heap.size #[.int .i64 xp,.int .i64 xk,.int .i64 (q:Int),.int .i64 xa] 61:=by rw [hWa];exact rb_new wx _ _
   have v2:Wa.cell? ⟨wx.heap.size,2,none⟩=some (.int .i64 (q:Int)):=hrv.cell
   have d0:Wa.cell? ⟨pb,po+q,none⟩=some (.int .i64 v):=HPc.out Wa (after HBx.out hba) q v hPq
   rw [hWa] at v2 d0
   have HWE:Hid (wx.alloc (.cells #[.int .i64 xp,.int .i64 xk,.int .i64 (q:Int),.int .i64 xa] 61)=Wa):=Lib.hid hWa.symm
   have hs3:Q+1+1<=wx.heap.size:=by have:=HK.out.1.size;have:=HZ.out;omega
   have HBa:Hid (Below (Q+1+1) A3 Wa):=Lib.hid (HK.out.1.trans (hba.mono hs3))
   have HWa:Hid (Wr (Q+1+1) (Q+1+1) (Lib.byteCells (encT ((l.take k).map (atP P)))) Wa):=Lib.hid (wr_next HK.out.2 hba)
   have HSa:Hid (Q+1+1<=Wa.heap.size):=Lib.hid (Nat.le_trans hs3 hba.size)
   obtain ⟨X,hX⟩:∃ X,X=(l.take k).map (atP P):=⟨_,rfl⟩
   rw [<-hX] at HWa
   have HXe:=Lib.hid hX
   have hTa:=(HT.out.next HBx.out).next hba
   have hI:=Tryz.strconv_Itoa v hvo.1 hvo.2 Wa hTa.2.2.1
   have hIl:=Lib.itoa_length_le v hvo.1 hvo.2
   obtain ⟨Tx,hTx⟩:∃ Tx:ByteArray,Tx=⟨(Lib.itoa v).toArray⟩:=⟨_,rfl⟩
   have hTl:Tx.size<=21:=by rw [hTx];exact hIl
   rw [<-hTx] at hI
   have HI:=Lib.hid hI
   have HTx:=Lib.hid hTx
   have hsum:(Tx.size:Int)+1<=9223372036854775807:=by omega
   have HTl:=Lib.hid hTl
   have HXl:Hid ((encT X).length<=22*64):=Lib.hid (by
    have h1:∀ x ∈ X,i64ok x:=by
     intro x hx
     rw [hX] at hx
     obtain ⟨r,hr,rfl⟩:=List.mem_map.1 hx
     have g:=HG.out r (List.mem_of_mem_take hr)
     have hl:r.sym.toNat < P.length:=by omega
     unfold atP
     rw [List.getElem?_eq_getElem hl]
     exact HPo.out _ (List.getElem_mem hl)
    have h2:=encT_len X h1
    have h3:X.length<=64:=by rw [hX,List.length_map,List.length_take];omega
    omega)
   clear hWa hba hrv hs3 hX hTa hI hIl hTx hTl hvo hPq hv hGx
   go_wp2_with fail
   rw [HWE.out]
   clear v2 d0 c0 c1 c2 c3
   refine HI.out.mono ?_
   rintro e u ⟨rfl,kq,os,eo⟩
   have hbu:Below Wa.heap.size Wa u:=by rw [eo];exact Lib.below_grow _ Wa (Nat.le_refl _) kq os
   have HWu:=Lib.hid (wr_next HWa.out hbu)
   have HBu:=Lib.hid (HBa.out.trans (hbu.mono HSa.out))
   have HSu:Hid (Q+1+1<=u.heap.size):=Lib.hid (Nat.le_trans HSa.out hbu.size)
   clear eo hbu
   go_wp2_with fail
   have hlL:=HXl.out
   have hTT:(Tx ++ ⟨#[32]⟩:ByteArray).size<=22:=by
    have:=HTl.out
    rw [ByteArray.size_append]
    have e1:(⟨#[32]⟩:ByteArray).size=1:=rfl
    omega
   refine (writeString_any (Q+1+1) (Q+1+1) _ _ u HWu.out (by rw [Lib.byteCells_length];omega) HSu.out).mono ?_
   clear hlL hTT
   rintro e w2 ⟨rfl,hwr,hb⟩
   have HB2:=Lib.hid (HBu.out.trans hb)
   have HW2:Hid (Wr (Q+1+1) (Q+1+1) (Lib.byteCells (encT ((l.take (k+1)).map (atP P)))) w2):=Lib.hid (Or.inr (by
    have e1:(l.take (k+1)).map (atP P)=X ++ [v]:=by
     rw [List.take_add_one,HXx.out,List.map_append,HXe.out]
     simp [atP,HPq.out]
    have e2:(Tx ++ ⟨#[32]⟩:ByteArray).data.toList=Lib.itoa v ++ [32]:=by rw [bytes_app,HTx.out]
    have e3:Lib.byteCells (encT ((l.take (k+1)).map (atP P)))=Lib.byteCells (encT X) ++ Lib.strCells (Tx ++ ⟨#[32]⟩):=by
     rw [e1,encT_snoc,Lib.byteCells_append]
     unfold Lib.strCells
     rw [e2];rfl
    rw [e3];exact hwr))
   clear hwr hb HBu HWu HSu HI
   go_wp2
   go_roundw
   case rel=>exact ⟨k+1,_,rfl,by omega,by go_num,Lib.hid ⟨HB2.out,HW2.out⟩⟩
   case measure=>simp [intOf];omega
  ·have hlti:¬ (k:Int) < (n:Int):=by omega
   have HWx:Hid (Wr (Q+1+1) (Q+1+1) (Lib.byteCells (encT (l.map (atP P)))) wx):=Lib.hid (by
    have:=HK.out.2
    rw [List.take_of_length_le (by have:=HLn.out;omega)] at this;exact this)
   have HBx:=Lib.hid HK.out.1
   clear HK
   go_wp2_with fail
   have hbd:Below wx.heap.size wx wx.drew:=(Below.refl _ _).drew
   have hBd:Below (Q+1+1) A3 wx.drew:=HBx.out.trans (hbd.mono (by have:=HBx.out.size;have:=HZ.out;omega))
   have HWd:=Lib.hid (wr_next HWx.out hbd)
   have HSd:Hid (Q+1+1<=wx.drew.heap.size):=Lib.hid (by have:=hBd.size;have:=HZ.out;omega)
   have HYd:Hid (RB wx.drew (Q+1) #[.int .i64 0,.string ⟨#[]⟩,.string ⟨#[]⟩] 76):=Lib.hid ((hBd.block (Q+1) (by omega)).trans HY.out)
   have hBw:Below w.heap.size w wx.drew:=HB.out.trans (hBd.mono (by rw [<-HP.out];omega))
   have HBw:=Lib.hid hBw
   have hkeep:Below w.heap.size w wx.drew/\wx.drew.cell? ⟨pb,po+at',none⟩=some (.int .i64 vat):=⟨hBw,HPc.out _ hBw _ _ HAt.out⟩
   clear hbd hBd hBw
   refine wp_region_held_drew (S:=fun w'=>Below w.heap.size w w'/\w'.cell? ⟨pb,po+at',none⟩=some (.int .i64 vat)) (by kernel_rfl) (hkeep) (fun hHeld=>?_)
   refine wpAnyH_take (i:=0) (v:=?_) rfl (by kernel_rfl) (by kernel_rfl) (by kernel_rfl) (fun _ _ _ h=>h) (Or.inl ⟨by kernel_rfl,?_⟩) (by assumption) ?_
   rotate_left 1
   ·intro w hSw;(try dsimp only at hSw);obtain ⟨y,y1⟩:=hSw;go_simp;(try with_reducible rfl)
   (try simp only [Act.put,List.setIfInBounds_toArray,List.set_cons_zero,List.set_cons_succ])
   refine wpAnyH_take (i:=1) (v:=?_) rfl (by kernel_rfl) (by kernel_rfl) (by kernel_rfl) (fun _ _ _ h=>h) (Or.inl ⟨by kernel_rfl,?_⟩) (by assumption) ?_
   rotate_left 1
   ·intro w hSw;(try dsimp only at hSw);obtain ⟨y,y1⟩:=hSw;go_simp;(try with_reducible rfl)
   (try simp only [Act.put,List.setIfInBounds_toArray,List.set_cons_zero,List.set_cons_succ])
   refine wpAnyH_take (i:=2) (v:=?_) rfl (by kernel_rfl) (by kernel_rfl) (by kernel_rfl) (fun _ _ _ h=>h) (Or.inl ⟨by kernel_rfl,?_⟩) (by assumption) ?_
   rotate_left 1
   ·intro w hSw;(try dsimp only at hSw);obtain ⟨y,y1⟩:=hSw;go_simp;(try with_reducible rfl)
   (try simp only [Act.put,List.setIfInBounds_toArray,List.set_cons_zero,List.set_cons_succ])
   refine wpAnyH_take (i:=3) (v:=?_) rfl (by kernel_rfl) (by kernel_rfl) (by kernel_rfl) (fun _ _ _ h=>h) (Or.inl ⟨by kernel_rfl,?_⟩) (by assumption) ?_
   rotate_left 1
   ·intro w hSw;(try dsimp only at hSw);obtain ⟨y,y1⟩:=hSw;go_simp;(try with_reducible rfl)
   (try simp only [Act.put,List.setIfInBounds_toArray,List.set_cons_zero,List.set_cons_succ])
   refine wpAnyH_ready (rs:=[4]) (by kernel_rfl) (by simp) ?_
   refine AllReadyH.cons rfl (fun K hK=>?_) ?_
   ·go_simp;go_wp2_with (go_at_call 78;refine (Tryz.Builder_String_any (Q+1+1) (Q+1+1) _ _ HWd.out HSd.out).mono ?_;rintro e u ⟨rfl,hu⟩)
    have HYu:Hid (RB u (Q+1) #[.int .i64 0,.string ⟨#[]⟩,.string ⟨#[]⟩] 76):=Lib.hid ((hu.block (Q+1) (by omega)).trans HYd.out)
    have HBu:Hid (Below w.heap.size w u):=Lib.hid (HBw.out.trans (hu.mono (by rw [<-HP.out];omega)))
    have HYf:Hid (RB (((u.setCell ⟨Q+1,0,none⟩ (.int .i64 vat)).setCell ⟨Q+1,1,none⟩ (.string ⟨#[]⟩)).setCell ⟨Q+1,2,none⟩ (.string ⟨(encT (l.map (atP P))).toArray⟩)) (Q+1) #[.int .i64 vat,.string ⟨#[]⟩,.string ⟨(encT (l.map (atP P))).toArray⟩] 76):=Lib.hid (((HYu.out.set (j:=0) _).set (j:=1) _).set (j:=2) _)
    have hle:w.heap.size<=Q+1:=by rw [<-HP.out];omega
    have HKeep2:Hid (Below w.heap.size w (((u.setCell ⟨Q+1,0,none⟩ (.int .i64 vat)).setCell ⟨Q+1,1,none⟩ (.string ⟨#[]⟩)).setCell ⟨Q+1,2,none⟩ (.string ⟨(encT (l.map (atP P))).toArray⟩))):=Lib.hid (((HBu.out.setCell (p:=⟨Q+1,0,none⟩) hle _).setCell (p:=⟨Q+1,1,none⟩) hle _).setCell (p:=⟨Q+1,2,none⟩) hle _)
    refine hK.out _ _ (⟨HBu.out,HPc.out _ HBu.out _ _ HAt.out⟩) (fun hHeld=>?_)
    clear hK K
    refine wpAnyH_take (i:=5) (v:=?_) rfl (by kernel_rfl) (by kernel_rfl) (by kernel_rfl) (fun _ _ _ h=>h) (Or.inl ⟨by kernel_rfl,?_⟩) (by assumption) ?_
    rotate_left 1
    ·intro w hSw;(try dsimp only at hSw);obtain ⟨y,y1⟩:=hSw;go_simp;(try with_reducible rfl)
    (try simp only [Act.put,List.setIfInBounds_toArray,List.set_cons_zero,List.set_cons_succ])
    have y0:u.cell? ⟨Q+1,0,none⟩=some (.int .i64 0):=HYu.out.cell
    have y1:u.cell? ⟨Q+1,1,none⟩=some (.string ⟨#[]⟩):=HYu.out.cell
    have y2:u.cell? ⟨Q+1,2,none⟩=some (.string ⟨#[]⟩):=HYu.out.cell
    have z0:u.frozen? ⟨Q+1,0,none⟩=false:=HYu.out.frozen
    have z1:u.frozen? ⟨Q+1,1,none⟩=false:=HYu.out.frozen
    have z2:u.frozen? ⟨Q+1,2,none⟩=false:=HYu.out.frozen
    refine wpAnyH_ready (rs:=[6]) (by kernel_rfl) (by simp) ?_
    refine AllReadyH.cons rfl (fun K hK=>?_) ?_
    ·go_simp
     refine hK.out _ _ (⟨HKeep2.out,HPc.out _ HKeep2.out _ _ HAt.out⟩) (fun hHeld=>?_)
     clear hK K
     refine wpAnyH_done (by kernel_rfl) ?_ _
     go_wp2_with fail
     refine bodyPost_ret (results_cell_row (P:=Tryz.prog) rfl _ _ (Q+1) 76 _ (0,0) _ rfl HYf.out Tryz.underlying76 rfl (by kernel_rfl)) rfl ?_
     exact ⟨rfl,HKeep2.out⟩
    exact AllReadyH.nil
   exact AllReadyH.nil
end Go.Proofs.YtbabckomagkjbaaGreatDoor
namespace Go.Proofs.YtbabckomagkjbaaGreatDoor
open Go.ChangeShapes Go.WideShapes Go.Deep Go.RowKit
abbrev sgV (x:Sg):Value:=.agg #[.int .i64 x.part,.string ⟨x.data.toArray⟩,.string ⟨x.refs.toArray⟩]
structure GoodSg (x:Sg):Prop where
 part:i64ok x.part
 data:x.data.length<=maxLen
 refs:x.refs.length<=maxLen
theorem sgV_inj {x y:Sg} (h:sgV x=sgV y):x=y:=by
 obtain ⟨a,b,c⟩:=x
 obtain ⟨d,e,f⟩:=y
 simp only [sgV,Value.agg.injEq,Array.mk.injEq,List.cons.injEq,Value.string.injEq,Value.int.injEq,true_and,and_true,ByteArray.mk.injEq] at h
 obtain ⟨rfl,h1,h2⟩:=h
 rw [h1,h2]
theorem sgKey:WideMaps.KeyLaw Tryz.prog 76:=
 deep_law_laid (by kernel_rfl) (m:=3) (by decide) (of_decide_eq_true (by kernel_rfl)) (by kernel_rfl) (by kernel_rfl)
theorem keyLits_sg (d:Nat) (x:Sg) (hx:GoodSg x):Tryz.prog.keyLits (d+2) 76 [.int .i64 x.part,.string ⟨x.data.toArray⟩,.string ⟨x.refs.toArray⟩]=some [.int .i64 x.part,.string x.data,.string x.refs]:=by
 have h1:(Lit.int .i64 x.part).wf=true:=by have:=hx.part;unfold i64ok at this;simp [Lit.wf,IntKind.min,IntKind.max,IntKind.bits,IntKind.signed];omega
 have h2:(⟨x.data.toArray⟩:ByteArray).size<=maxLen:=hx.data
 have h3:(⟨x.refs.toArray⟩:ByteArray).size<=maxLen:=hx.refs
 have c0:Tryz.prog.cellsOf 76=3:=by kernel_rfl
 have c1:Tryz.prog.cellsOf 9=1:=by kernel_rfl
 have c2:Tryz.prog.cellsOf 3=1:=by kernel_rfl
 simp [Program.keyLits,Tryz.underlying76,Tryz.underlying9,Tryz.underlying3,c0,c1,c2,h1,h2,h3]
theorem types_suc:∃ m,Tryz.prog.types.size=m+1:=⟨Tryz.prog.types.size - 1,by kernel_rfl⟩
theorem sgKeyOf (x:Sg) (hx:GoodSg x):∃ l,keyOf Tryz.prog 76 (sgV x)=some l:=by
 obtain ⟨m,hm⟩:=types_suc
 have hk:Tryz.prog.keyType 76=true:=by kernel_rfl
 have hf:(sgV x).formed Tryz.prog 76=true:=by
  have c0:Tryz.prog.cellsOf 76=3:=by kernel_rfl
  simp [Value.formed,Tryz.underlying76,c0]
 have h:=keyLits_sg m x hx
 rw [<-show Tryz.prog.types.size+1=m+2 from by omega] at h
 refine ⟨.string (keyBytes [.int .i64 x.part,.string x.data,.string x.refs]),?_⟩
 unfold keyOf
 rw [Tryz.underlying76]
 simp only [hk,hf,Bool.and_self,if_true]
 rw [show (sgV x).cells.toList=[.int .i64 x.part,.string ⟨x.data.toArray⟩,.string ⟨x.refs.toArray⟩] from rfl,h]
 rfl
def entS (p:Sg × Nat):Value × Value:=(sgV p.1,.int .i64 p.2)
structure SMs (es:Array MapEntry) (l:List (Sg × Nat)):Prop where
 eq:es.toList.map (fun e=>(e.key,e.val))=l.map entS
 gd:∀ p ∈ l,GoodSg p.1
 nd:(l.map (·.1)).Nodup
def lookS (l:List (Sg × Nat)) (s:Sg):Option Nat:=(l.find? (fun p=>decide (p.1=s))).map (·.2)
def SM (w:World) (b:Nat) (F:Sg->Option Nat):Prop:=∃ es clock l,w.heap[b]?=some (.map es clock)/\SMs es l/\∀ s,F s=lookS l s
theorem sm_key {es:Array MapEntry} {l:List (Sg × Nat)} (h:SMs es l) {e:MapEntry} (he:e ∈ es.toList):∃ p ∈ l,e.key=sgV p.1/\e.val=.int .i64 p.2:=by
 have:(e.key,e.val) ∈ es.toList.map (fun e=>(e.key,e.val)):=List.mem_map.2 ⟨e,he,rfl⟩
 rw [h.eq] at this
 obtain ⟨p,hp,hh⟩:=List.mem_map.1 this
 simp only [entS,Prod.mk.injEq] at hh
 exact ⟨p,hp,hh.1.symm,hh.2.symm⟩
theorem sm_keys {es:Array MapEntry} {l:List (Sg × Nat)} (h:SMs es l):∀ e ∈ es.toList,∃ k,keyOf Tryz.prog 76 e.key=some k:=by
 intro e he
 obtain ⟨p,hp,hk,-⟩:=sm_key h he
 rw [hk]
 exact sgKeyOf p.1 (h.gd p hp)
theorem nodup_is {α β:Type} {f:α->β}:∀ {l:List α},(l.map f).Nodup->∀ {a b:α},a ∈ l->b ∈ l->f a=f b->a=b
 | [],_,a,b,ha,_,_=>by cases ha
 | x :: t,h,a,b,ha,hb,e=>by
  rw [List.map_cons,List.nodup_cons] at h
  rcases List.mem_cons.1 ha with rfl | ha
  ·rcases List.mem_cons.1 hb with rfl | hb
   ·rfl
   ·exact (h.1 (List.mem_map.2 ⟨b,hb,e.symm⟩)).elim
  ·rcases List.mem_cons.1 hb with hbx | hb
   ·exact (h.1 (hbx ▸ List.mem_map.2 ⟨a,ha,e⟩)).elim
   ·exact nodup_is h.2 ha hb e
theorem lookS_of {l:List (Sg × Nat)} (hd:(l.map (·.1)).Nodup) {p:Sg × Nat} (hp:p ∈ l):lookS l p.1=some p.2:=by
 unfold lookS
 cases hf:l.find? (fun q=>decide (q.1=p.1)) with
 | none=>
  have:=List.find?_eq_none.1 hf p hp
  simp at this
 | some q=>
  have h1:=List.find?_some hf
  have h2:=List.mem_of_find?_eq_some hf
  have:=nodup_is hd h2 hp (of_decide_eq_true h1)
  rw [this];rfl
theorem lookS_none {l:List (Sg × Nat)} {s:Sg} (h:∀ p ∈ l,p.1 ≠ s):lookS l s=none:=by
 unfold lookS
 rw [List.find?_eq_none.2 (fun p hp=>by simpa using h p hp)];rfl
theorem zeroI (w:World):(zeroValue 3).run Tryz.prog w=.ok (.int .i64 0) w:=by kernel_rfl
theorem sm_look {F:Sg->Option Nat} {b:Nat} {w:World} (h:SM w b F) {s:Sg} (hs:GoodSg s):
  (Instr.lookup 118 (.map (some b)) (sgV s) true).run Tryz.prog w=.ok (.tuple #[.int .i64 (((F s).getD 0:Nat):Int),.bool (F s).isSome]) w:=by
 obtain ⟨es,clock,l,hb,hm,hF⟩:=h
 obtain ⟨kl,hkey⟩:=sgKeyOf s hs
 rcases sgKey.find w hkey es.toList (sm_keys hm) with ⟨h1,h2⟩ | ⟨j,e,h1,h2,h3⟩
 ·have hn:F s=none:=by
   rw [hF]
   apply lookS_none
   intro p hp e
   have:entS p ∈ l.map entS:=List.mem_map.2 ⟨_,hp,rfl⟩
   rw [<-hm.eq] at this
   obtain ⟨x,hx,hxe⟩:=List.mem_map.1 this
   simp only [entS,Prod.mk.injEq] at hxe
   exact h2 x hx (by rw [hxe.1,e])
  rw [hn]
  simp [Instr.lookup,run_underlying Tryz.underlying118,MapKept.run_getObj_map hb,sgKey.check w _ hkey,h1,zeroI,Result.andThen]
 ·obtain ⟨p,hp,hpk,hpv⟩:=sm_key hm (List.mem_of_getElem? h2)
  rw [h3] at hpk
  have hse:F s=some p.2:=by rw [hF,sgV_inj hpk];exact lookS_of hm.nd hp
  rw [hse]
  simp [Instr.lookup,run_underlying Tryz.underlying118,MapKept.run_getObj_map hb,sgKey.check w _ hkey,h1,hpv,Result.andThen]
theorem sm_put {F:Sg->Option Nat} {b:Nat} {w:World} (h:SM w b F) (s:Sg) (v:Nat) (hs:GoodSg s) (hn:F s=none):
  ∃ w',(Instr.mapUpdate 118 (.map (some b)) (sgV s) (.int .i64 (v:Int))).run Tryz.prog w=.ok () w'/\SM w' b (fun t=>if t=s then some v else F t)/\w.grownBy w' (some b):=by
 obtain ⟨es,clock,l,hb,hm,hF⟩:=h
 obtain ⟨kl,hkey⟩:=sgKeyOf s hs
 have hno:∀ p ∈ l,p.1 ≠ s:=by
  intro p hp e
  have:=lookS_of hm.nd hp
  rw [e,<-hF,hn] at this
  cases this
 rcases sgKey.find w hkey es.toList (sm_keys hm) with ⟨h1,-⟩ | ⟨j,e,h1,h2,h3⟩
 ·refine ⟨ChangeMaps.setBlock w b (.map (es.push ⟨sgV s,.int .i64 (v:Int),clock⟩) (clock+1)),?_,⟨es.push ⟨sgV s,.int .i64 (v:Int),clock⟩,clock+1,l ++ [(s,v)],?_,⟨?_,?_,?_⟩,?_⟩,?_⟩
  ·simp [Instr.mapUpdate,run_underlying Tryz.underlying118,MapKept.run_getObj_map hb,sgKey.check w false hkey,h1,MapKept.run_setObj_map _ hb,Result.andThen,ChangeMaps.setBlock]
  ·have:=lt_of_block hb
   simp [ChangeMaps.setBlock,this]
  ·rw [Array.toList_push,List.map_append,hm.eq,List.map_append];rfl
  ·intro p hp
   rcases List.mem_append.1 hp with hp | hp
   ·exact hm.gd p hp
   ·rw [List.mem_singleton] at hp;subst hp;exact hs
  ·rw [List.map_append,List.nodup_append]
   refine ⟨hm.nd,by simp,?_⟩
   intro a ha c hc e
   obtain ⟨p,hp,rfl⟩:=List.mem_map.1 ha
   simp only [List.map_cons,List.map_nil,List.mem_singleton] at hc
   exact hno p hp (e.trans hc)
  ·intro t
   show (if t=s then some v else F t)=_
   unfold lookS
   rw [List.find?_append]
   by_cases e:t=s
   ·subst e
    rw [if_pos rfl,show l.find? (fun p=>decide (p.1=t))=none from List.find?_eq_none.2 (fun p hp h=>hno p hp (of_decide_eq_true h))]
    simp
   ·rw [if_neg e,hF]
    unfold lookS
    rw [show [(s,v)].find? (fun p=>decide (p.1=t))=none from List.find?_eq_none.2 (fun p hp h=>by
     rw [List.mem_singleton] at hp;subst hp;exact e (of_decide_eq_true h).symm),Option.or_none]
  ·refine ⟨rfl,rfl,rfl,by simp [ChangeMaps.setBlock],fun i hi hne=>?_⟩
   simp only [ChangeMaps.setBlock]
   rw [Array.getElem?_setIfInBounds_ne (fun e=>hne (by rw [e]))]
 ·obtain ⟨p,hp,hpk,-⟩:=sm_key hm (List.mem_of_getElem? h2)
  rw [h3] at hpk
  exact absurd (sgV_inj hpk).symm (hno p hp)
theorem SM.same {w w':World} {b:Nat} {F:Sg->Option Nat} (h:SM w b F) (hb:w'.heap[b]?=w.heap[b]?):SM w' b F:=by
 obtain ⟨es,clock,l,h1,h2⟩:=h
 exact ⟨es,clock,l,hb.trans h1,h2⟩
theorem SM.lt {w:World} {b:Nat} {F:Sg->Option Nat} (h:SM w b F):b < w.heap.size:=by
 obtain ⟨es,clock,l,h1,h2⟩:=h
 exact lt_of_block h1
theorem SM.none (w:World) (b:Nat) (h:w.heap[b]?=some (.map #[] 0)):SM w b (fun _=>none):=
 ⟨#[],0,[],h,⟨rfl,by simp,List.nodup_nil⟩,fun _=>rfl⟩
def leastS (ok:Nat->Bool) (sg:Nat->Sg) (k:Nat) (s:Sg):Option Nat:=(List.range k).find? (fun j=>ok j && decide (sg j=s))
theorem leastS_zero (ok:Nat->Bool) (sg:Nat->Sg):leastS ok sg 0=fun _=>none:=rfl
theorem leastS_not {ok:Nat->Bool} {sg:Nat->Sg} {k:Nat} (h:ok k=false):leastS ok sg (k+1)=leastS ok sg k:=by
 funext s
 unfold leastS
 rw [List.range_succ,List.find?_append]
 simp [h]
theorem leastS_yes {ok:Nat->Bool} {sg:Nat->Sg} {k:Nat} (h:(leastS ok sg k (sg k)).isSome=true):leastS ok sg (k+1)=leastS ok sg k:=by
 funext s
 unfold leastS at h ⊢
 rw [List.range_succ,List.find?_append]
 by_cases e:sg k=s
 ·subst e
  obtain ⟨v,hv⟩:=Option.isSome_iff_exists.1 h
  rw [hv];rfl
 ·simp [e]
theorem leastS_new {ok:Nat->Bool} {sg:Nat->Sg} {k:Nat} (ho:ok k=true) (h:leastS ok sg k (sg k)=none):leastS ok sg (k+1)=fun t=>if t=sg k then some k else leastS ok sg k t:=by
 funext s
 show leastS ok sg (k+1) s=if s=sg k then some k else leastS ok sg k s
 by_cases e:s=sg k
 ·subst e
  rw [if_pos rfl]
  unfold leastS at h ⊢
  rw [List.range_succ,List.find?_append,h]
  simp [ho]
 ·rw [if_neg e]
  unfold leastS
  rw [List.range_succ,List.find?_append]
  have e':¬ sg k=s:=fun x=>e x.symm
  simp [e']
theorem partG_least {ok:Nat->Bool} {sg:Nat->Sg} {k:Nat} (ho:ok k=true):partG ok sg k=(leastS ok sg k (sg k)).getD k:=by
 unfold partG leastS
 rw [if_pos ho,List.range_succ,List.find?_append]
 cases (List.range k).find? (fun j=>ok j && decide (sg j=sg k)) with
 | none=>simp [ho]
 | some v=>rfl
end Go.Proofs.YtbabckomagkjbaaGreatDoor
