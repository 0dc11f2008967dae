/- shrink, plain: for ShrinkLeft. shrink, plain: units made of what is left, shrunk again, all stay. -/
import Derived.Test.YtbabckomagkjbaaGreatDoorsV
import Derived.Test.YtbabckomagkjbaaGreatDoorsX
set_option linter.unusedVariables false
set_option linter.unusedSimpArgs false
namespace Go.Proofs.YtbabckomagkjbaaGreatDoor
open Go.ChangeShapes Go.WideShapes Go.Deep Go.RowKit
theorem alike_fields {s t:Sc}:alikeB s t=true ↔ s.kind=1/\t.kind=1/\s.data=t.data/\s.rels.length=t.rels.length/\∀ (j:Nat) (r r':Rl),s.rels[j]?=some r->t.rels[j]?=some r'->r.pos=r'.pos/\r.kind=r'.kind/\r.add=r'.add:=by
 have hs:[s,t][0]?=some s:=rfl
 have ht:[s,t][1]?=some t:=rfl
 rw [alike_iff hs ht,sgnA_eq hs ht,num3_eq]
theorem alike_trans {a b c:Sc} (h1:alikeB a b=true) (h2:alikeB b c=true):alikeB a c=true:=by
 obtain ⟨a1,a2,a3,a4,a5⟩:=alike_fields.1 h1
 obtain ⟨b1,b2,b3,b4,b5⟩:=alike_fields.1 h2
 refine alike_fields.2 ⟨a1,b2,a3.trans b3,a4.trans b4,fun j r r' hr hr'=>?_⟩
 have hj:j < b.rels.length:=by have:=(List.getElem?_eq_some_iff.1 hr).1;omega
 have hb:=List.getElem?_eq_getElem hj
 obtain ⟨c1,c2,c3⟩:=a5 j r _ hr hb
 obtain ⟨d1,d2,d3⟩:=b5 j _ r' hb hr'
 exact ⟨c1.trans d1,c2.trans d2,c3.trans d3⟩
def placeN (S:List Sc) (rep:List Int) (k:Nat):Nat:=(standL S rep).idxOf k
theorem place_get {S:List Sc} {rep:List Int} {k:Nat} (h:rep[k]?=some (k:Int)):(standL S rep)[placeN S rep k]?=some k:=by
 have hm:k ∈ standL S rep:=standL_mem.2 h
 unfold placeN
 rw [List.getElem?_eq_getElem (List.idxOf_lt_length_of_mem hm)]
 congr 1
 exact List.getElem_idxOf (List.idxOf_lt_length_of_mem hm)
def keepK (S:List Sc) (rep:List Int) (k:Nat):Bool:=(List.range rep.length).any (fun (j:Nat)=>decide (rep[j]?=some (k:Int)) && keepB S j)
def newRel (S:List Sc) (rep:List Int) (r:Rl):Rl:=⟨r.pos,r.kind,((placeN S rep ((rep[r.sym.toNat]?).getD 0).toNat:Nat):Int),r.add⟩
def newS (S:List Sc) (rep:List Int) (k:Nat):Sc:=match S[k]? with | some s=>⟨s.name,s.kind,keepK S rep k,mostN S rep k rep.length,s.data,s.rels.map (newRel S rep)⟩ | none=>⟨[],0,false,0,[],[]⟩
def newR (S:List Sc) (rep:List Int):List Sc:=(standL S rep).map (newS S rep)
theorem newR_len (S:List Sc) (rep:List Int):(newR S rep).length=(standL S rep).length:=by unfold newR;rw [List.length_map]
theorem newR_get {S:List Sc} {rep:List Int} {i k:Nat} {s:Sc} (h:(standL S rep)[i]?=some k) (hs:S[k]?=some s):(newR S rep)[i]?=some ⟨s.name,s.kind,keepK S rep k,mostN S rep k rep.length,s.data,s.rels.map (newRel S rep)⟩:=by
 unfold newR
 rw [List.getElem?_map,h]
 show some (newS S rep k)=_
 unfold newS
 rw [hs]
theorem keepK_of {S:List Sc} {rep:List Int} {j k:Nat} {s:Sc} (hj:rep[j]?=some (k:Int)) (hs:S[j]?=some s) (hk:s.keep=true):keepK S rep k=true:=by
 unfold keepK
 rw [List.any_eq_true]
 refine ⟨j,by simpa using (List.getElem?_eq_some_iff.1 hj).1,?_⟩
 simp [hj,keepB,hs,hk]
theorem newRel_is {S:List Sc} {rep:List Int} {r:Rl} {y:Nat} (h:rep[r.sym.toNat]?=some (y:Int)):newRel S rep r=⟨r.pos,r.kind,((placeN S rep y:Nat):Int),r.add⟩:=by
 unfold newRel;rw [h];rfl
theorem new_reached {S:List Sc} {R R':List Int} {rep:List Int} (hu:unitsR S=true) (hq:RepsQ S rep) (hl:LeadQ S rep)
  (hin:∀ x,Rch S R x->∃ k:Nat,rep[x]?=some (k:Int))
  (hroot:∀ (x k:Nat),(x:Int) ∈ R->rep[x]?=some (k:Int)->((placeN S rep k:Nat):Int) ∈ R') {x:Nat} (h:Rch S R x):
  ∀ k:Nat,rep[x]?=some (k:Int)->Rch (newR S rep) R' (placeN S rep k):=by
 induction h with
 | root h=>exact fun k hk=>.root (hroot _ k h hk)
 | @step i x s r h hs hr hx ih=>
  intro y hy
  obtain ⟨k,hk⟩:=hin i h
  have hkk:rep[k]?=some (k:Int):=by
   rcases hq.2 i _ hk with h0 | ⟨-,-,h2,-⟩
   ·omega
   ·simpa using h2
  have hkl:k < S.length:=by have:=(List.getElem?_eq_some_iff.1 hkk).1;rw [hq.1] at this;exact this
  have hst:=List.getElem?_eq_getElem hkl
  obtain ⟨j,hj⟩:=List.getElem?_of_mem hr
  have hlen:s.rels.length=S[k].rels.length:=by
   rcases hq.2 i _ hk with h0 | ⟨-,-,-,h3 | h3⟩
   ·omega
   ·have:k=i:=by omega
    subst this
    rw [hst] at hs;cases hs;rfl
   ·exact alike_len (h3 s S[k] hs (by rw [Int.toNat_natCast];exact hst))
  have hj2:j < S[k].rels.length:=by have:=(List.getElem?_eq_some_iff.1 hj).1;omega
  obtain ⟨z,z0,z1,z2⟩:=hl i _ hk (by omega) s S[k] hs (by rw [Int.toNat_natCast];exact hst) j r _ hj (List.getElem?_eq_getElem hj2)
  rw [hx,Int.toNat_natCast,hy] at z1
  have hz:z=(y:Int):=(Option.some.inj z1).symm
  rw [hz] at z2
  refine .step (ih k hk) (newR_get (place_get hkk) hst) (List.mem_map.2 ⟨_,List.getElem_mem hj2,rfl⟩) ?_
  rw [newRel_is z2]
end Go.Proofs.YtbabckomagkjbaaGreatDoor
namespace Go.Proofs.YtbabckomagkjbaaGreatDoor
open Go.ChangeShapes Go.WideShapes Go.Deep Go.RowKit
theorem cov_new {kind:Int} {d:List UInt8} {r r':Rl} (h1:r'.pos=r.pos) (h2:r'.kind=r.kind):covR kind d r'=covR kind d r:=by
 unfold covR
 rw [h1,h2]
theorem rels_new {kind:Int} {d:List UInt8} {f:Rl->Rl} (hf:∀ r,(f r).pos=r.pos/\(f r).kind=r.kind/\0<=(f r).sym):∀ {l:List Rl} {e:Int},relsR kind d e l=true->relsR kind d e (l.map f)=true
 | [],_,_=>rfl
 | r :: t,e,h=>by
  unfold relsR at h
  by_cases c:badR kind d e r
  ·rw [if_pos c] at h;cases h
  ·rw [if_neg c] at h
   obtain ⟨f1,f2,f3⟩:=hf r
   rw [List.map_cons]
   unfold relsR
   have c2:¬ badR kind d e (f r):=by
    unfold badR at*
    rw [f1,f2,cov_new (kind:=kind) (d:=d) f1 f2]
    intro h
    rcases h with h | h | h | h
    ·exact c (.inl h)
    ·exact c (.inr (.inl h))
    ·omega
    ·exact c (.inr (.inr (.inr h)))
   rw [if_neg c2,f1,f2]
   exact rels_new hf h
theorem head_new {s:Sc} {k:Bool} {a:Int} {l:List Rl} (h:headR s=true) (h0:0<=a) (h1:a<=12) (hl:l.length=s.rels.length):headR ⟨s.name,s.kind,k,a,s.data,l⟩=true:=by
 unfold headR at*
 simp only [Bool.and_eq_true,decide_eq_true_eq] at*
 obtain ⟨⟨⟨⟨⟨⟨a1,a2⟩,a3⟩,a4⟩,a5⟩,a6⟩,a7⟩:=h
 exact ⟨⟨⟨⟨⟨⟨a1,a2⟩,a3⟩,h0⟩,h1⟩,a6⟩,by rw [hl];exact a7⟩
theorem align_range {S:List Sc} (hu:unitsR S=true) (j:Nat):0<=alignN S j/\alignN S j<=12:=by
 unfold alignN
 cases h:S[j]? with
 | none=>exact ⟨by decide,by decide⟩
 | some s=>
  have:=(units_sec hu h).1
  exact ⟨this.a0,this.a1⟩
theorem mostN_le {S:List Sc} {rep:List Int} {a:Nat} (hu:unitsR S=true):∀ m,mostN S rep a m<=12
 | 0=>by show (0:Int)<=12;decide
 | m+1=>by
  have:=mostN_le (rep:=rep) (a:=a) hu m
  have:=(align_range hu m).2
  unfold mostN
  split <;> omega
theorem newRel_ok (S:List Sc) (rep:List Int) (r:Rl):(newRel S rep r).pos=r.pos/\(newRel S rep r).kind=r.kind/\0<=(newRel S rep r).sym:=by
 refine ⟨rfl,rfl,?_⟩
 show 0<=((placeN S rep _:Nat):Int)
 omega
theorem stand_rep {S:List Sc} {rep:List Int} {i k:Nat} (h:(standL S rep)[i]?=some k):rep[k]?=some (k:Int):=standL_mem.1 (List.mem_of_getElem? h)
theorem stand_nodup (S:List Sc) (rep:List Int):(standL S rep).Nodup:=by
 refine (List.Perm.nodup_iff (sortK_perm _)).2 ?_
 unfold selfL
 exact List.Pairwise.filter _ List.nodup_range
theorem place_lt {S:List Sc} {rep:List Int} {k:Nat} (h:rep[k]?=some (k:Int)):placeN S rep k < (standL S rep).length:=(List.getElem?_eq_some_iff.1 (place_get h)).1
theorem place_stand {S:List Sc} {rep:List Int} {i k:Nat} (h:(standL S rep)[i]?=some k):placeN S rep k=i:=by
 have h1:=place_get (S:=S) (stand_rep h)
 obtain ⟨l1,e1⟩:=List.getElem?_eq_some_iff.1 h
 obtain ⟨l2,e2⟩:=List.getElem?_eq_some_iff.1 h1
 have hn:=List.pairwise_iff_getElem.1 (stand_nodup S rep)
 rcases Nat.lt_trichotomy (placeN S rep k) i with h2 | h2 | h2
 ·exact absurd (e2.trans e1.symm) (hn _ _ l2 l1 h2)
 ·exact h2
 ·exact absurd (e1.trans e2.symm) (hn _ _ l1 l2 h2)
theorem rep_self {S:List Sc} {rep:List Int} (hq:RepsQ S rep) {i k:Nat} (h:rep[i]?=some (k:Int)):rep[k]?=some (k:Int)/\k < S.length:=by
 rcases hq.2 i _ h with h0 | ⟨-,h1,h2,-⟩
 ·omega
 ·exact ⟨by simpa using h2,by omega⟩
theorem lead_at {S:List Sc} {rep:List Int} (hu:unitsR S=true) (hq:RepsQ S rep) (hl:LeadQ S rep) {i k:Nat} {s:Sc} {r:Rl} (h:rep[i]?=some (k:Int)) (hs:S[i]?=some s) (hr:r ∈ s.rels):
  ∃ y:Nat,rep[r.sym.toNat]?=some (y:Int):=by
 obtain ⟨j,hj⟩:=List.getElem?_of_mem hr
 obtain ⟨hk,hkl⟩:=rep_self hq h
 have hst:=List.getElem?_eq_getElem hkl
 have hlen:s.rels.length=S[k].rels.length:=by
  rcases hq.2 i _ h with h0 | ⟨-,-,-,h3 | h3⟩
  ·omega
  ·have:k=i:=by omega
   subst this
   rw [hst] at hs;cases hs;rfl
  ·exact alike_len (h3 s S[k] hs (by rw [Int.toNat_natCast];exact hst))
 have hj2:j < S[k].rels.length:=by have:=(List.getElem?_eq_some_iff.1 hj).1;omega
 obtain ⟨z,z0,z1,-⟩:=hl i _ h (by omega) s S[k] hs (by rw [Int.toNat_natCast];exact hst) j r _ hj (List.getElem?_eq_getElem hj2)
 exact ⟨z.toNat,by rw [z1];congr 1;omega⟩
theorem newRel_lt {S:List Sc} {rep:List Int} (hq:RepsQ S rep) {r:Rl} {y:Nat} (h:rep[r.sym.toNat]?=some (y:Int)):(newRel S rep r).sym < ((standL S rep).length:Int):=by
 rw [newRel_is h]
 show ((placeN S rep y:Nat):Int) < _
 have:=place_lt (S:=S) (rep_self hq h).1
 omega
theorem newR_right {S:List Sc} {rep:List Int} (hu:unitsR S=true) (hq:RepsQ S rep) (hl:LeadQ S rep):unitsR (newR S rep)=true:=by
 have hn:=units_len hu
 have hlen:(standL S rep).length<=256:=by
  have h1:=selfL_len rep
  have h2:=hq.1
  rw [standL_len];omega
 unfold unitsR
 simp only [Bool.and_eq_true,decide_eq_true_eq,List.all_eq_true]
 refine ⟨by rw [newR_len];exact hlen,fun v hv=>?_⟩
 obtain ⟨i,hi⟩:=List.getElem?_of_mem hv
 have hil:i < (standL S rep).length:=by have:=(List.getElem?_eq_some_iff.1 hi).1;rwa [newR_len] at this
 have hk:=List.getElem?_eq_getElem hil
 obtain ⟨k,hkk⟩:∃ k,k=(standL S rep)[i]:=⟨_,rfl⟩
 rw [<-hkk] at hk
 have hrk:=stand_rep hk
 have hkl:k < S.length:=by have:=(List.getElem?_eq_some_iff.1 hrk).1;rw [hq.1] at this;exact this
 have hs:=List.getElem?_eq_getElem hkl
 rw [newR_get hk hs] at hi
 have hi:=(Option.some.inj hi).symm
 subst hi
 have hus:unitOk S.length S[k]=true:=by
  unfold unitsR at hu
  simp only [Bool.and_eq_true,List.all_eq_true] at hu
  exact hu.2 _ (List.getElem_mem hkl)
 unfold unitOk at hus ⊢
 simp only [Bool.and_eq_true,List.all_eq_true,decide_eq_true_eq] at hus ⊢
 unfold secR at*
 rw [Bool.and_eq_true] at*
 refine ⟨⟨head_new hus.1.1 (mostN_pos _) (mostN_le hu _) (by simp),rels_new (newRel_ok S rep) hus.1.2⟩,fun r hr=>?_⟩
 obtain ⟨q,hq1,rfl⟩:=List.mem_map.1 hr
 obtain ⟨y,hy⟩:=lead_at hu hq hl hrk hs hq1
 rw [newR_len]
 exact newRel_lt hq hy
theorem new_alike {S:List Sc} {rep:List Int} {i k a b:Nat} {s t v w:Sc} (ha:(standL S rep)[i]?=some a) (hb:(standL S rep)[k]?=some b) (hs:S[a]?=some s) (ht:S[b]?=some t)
  (hv:(newR S rep)[i]?=some v) (hw:(newR S rep)[k]?=some w) (h:alikeB v w=true):alikeB s t=true:=by
 rw [newR_get ha hs] at hv
 rw [newR_get hb ht] at hw
 have hv:=(Option.some.inj hv).symm
 have hw:=(Option.some.inj hw).symm
 subst hv hw
 obtain ⟨h1,h2,h3,h4,h5⟩:=alike_fields.1 h
 simp only [List.length_map] at h4
 refine alike_fields.2 ⟨h1,h2,h3,h4,fun j r r' hr hr'=>?_⟩
 exact h5 j (newRel S rep r) (newRel S rep r') (by simp only [List.getElem?_map,hr];rfl) (by simp only [List.getElem?_map,hr'];rfl)
theorem new_apart {S:List Sc} {R R':List Int} {j j':Nat} (hu:unitsR S=true) (hr:rootsB R S.length=true) (hfx:nextP S (reachB S R) (foldN S (reachB S R) j)=foldN S (reachB S R) j)
  {rep:List Int} (hrep:rep=endL (reachB S R) (foldN S (reachB S R) j))
  {P:List Int} (hP:P=endL (reachB (newR S rep) R') (foldN (newR S rep) (reachB (newR S rep) R') j'))
  (hfx':nextP (newR S rep) (reachB (newR S rep) R') (foldN (newR S rep) (reachB (newR S rep) R') j')=foldN (newR S rep) (reachB (newR S rep) R') j')
  (hall:∀ i,i < (newR S rep).length->(reachB (newR S rep) R')[i]?=some true)
  {i k:Nat} (hi:i < (newR S rep).length) (hki:k < i) (h:P[i]?=P[k]?):False:=by
 have hq:RepsQ S rep:=by rw [hrep];exact left_reps hu (reachB_len _ _) hfx
 have hld:LeadQ S rep:=by rw [hrep];exact left_lead hu hr hfx
 have huV:=newR_right hu hq hld
 have hgV:GoodQ (newR S rep) (reachB (newR S rep) R') P:=by rw [hP];exact end_good huV (reachB_len _ _) hfx'
 have hlV:=newR_len S rep
 obtain ⟨ins,hins⟩:∃ x,x=reachB S R:=⟨_,rfl⟩
 have hil:ins.length=S.length:=by rw [hins];exact reachB_len _ _
 have hinV:∀ x,x < (standL S rep).length->(reachB (newR S rep) R')[x]?=some true:=fun x hx=>hall x (by rw [hlV];exact hx)
 have hin:∀ x:Nat,ins[x]?=some true->∃ a:Nat,rep[x]?=some (a:Int)/\a < S.length/\rep[a]?=some (a:Int):=by
  intro x hx
  have hxl:x < S.length:=by have:=(List.getElem?_eq_some_iff.1 hx).1;omega
  obtain ⟨v,h1,h2,-⟩:=left_iff (j:=j) hil hxl
  rw [hins,<-hrep] at h1
  have h0:=h2.2 hx
  have h3:rep[x]?=some ((v.toNat:Nat):Int):=by rw [h1];congr 1;omega
  exact ⟨v.toNat,h3,(rep_self hq h3).2,(rep_self hq h3).1⟩
 obtain ⟨Q,hQ⟩:∃ Q:List Int,Q=(List.range S.length).map (fun x=>(P[placeN S rep ((rep[x]?).getD 0).toNat]?).getD 0):=⟨_,rfl⟩
 have hQl:Q.length=S.length:=by rw [hQ];simp
 have hQg:∀ x a:Nat,rep[x]?=some (a:Int)->Q[x]?=some ((P[placeN S rep a]?).getD 0):=by
  intro x a hx
  have hxl:x < S.length:=by have:=(List.getElem?_eq_some_iff.1 hx).1;rw [hq.1] at this;exact this
  rw [hQ,List.getElem?_map,List.getElem?_range hxl]
  simp only [Option.map_some,hx,Option.getD_some,Int.toNat_natCast]
 have hPl:P.length=(standL S rep).length:=by rw [hP,endL_len,foldN_len,hlV]
 have hPe:∀ x y,x < (standL S rep).length->y < (standL S rep).length->(P[x]?).getD 0=(P[y]?).getD 0->P[x]?=P[y]?:=by
  intro x y hx hy h
  rw [List.getElem?_eq_getElem (by omega),List.getElem?_eq_getElem (by omega)] at h ⊢
  simpa using h
 have same_or:∀ (x a:Nat) (s t:Sc),rep[x]?=some (a:Int)->S[x]?=some s->S[a]?=some t->s=t/\x=a\/alikeB s t=true:=by
  intro x a s t hx hs ht
  rcases hq.2 x _ hx with h0 | ⟨-,-,-,h3 | h3⟩
  ·omega
  ·have:a=x:=by omega
   subst this
   rw [hs] at ht;cases ht;exact .inl ⟨rfl,rfl⟩
  ·exact .inr (h3 s t hs (by rw [Int.toNat_natCast];exact ht))
 have hgood:GoodQ S ins Q:=by
  intro x y hx hyx ix iy hQe s t hs ht
  obtain ⟨a,ha,hal,haa⟩:=hin x ix
  obtain ⟨b,hb,hbl,hbb⟩:=hin y iy
  have hsa:=List.getElem?_eq_getElem hal
  have hsb:=List.getElem?_eq_getElem hbl
  rw [hQg x a ha,hQg y b hb] at hQe
  have hpa:=place_lt (S:=S) haa
  have hpb:=place_lt (S:=S) hbb
  have hPab:=hPe _ _ hpa hpb (Option.some.inj hQe)
  have hga:=place_get (S:=S) haa
  have hgb:=place_get (S:=S) hbb
  obtain ⟨va,hva⟩:∃ v,(newR S rep)[placeN S rep a]?=some v:=⟨_,newR_get hga hsa⟩
  obtain ⟨vb,hvb⟩:∃ v,(newR S rep)[placeN S rep b]?=some v:=⟨_,newR_get hgb hsb⟩
  have hab:a=b\/(alikeB va vb=true/\∀ (q:Nat) (r r':Rl),va.rels[q]?=some r->vb.rels[q]?=some r'->(P[r.sym.toNat]?).getD 0=(P[r'.sym.toNat]?).getD 0):=by
   rcases Nat.lt_trichotomy (placeN S rep a) (placeN S rep b) with hlt | hlt | hlt
   ·right
    obtain ⟨g1,g2⟩:=hgV _ _ (by rw [hlV];exact hpb) hlt (hinV _ hpb) (hinV _ hpa) hPab.symm vb va hvb hva
    refine ⟨alike_symm g1,fun q r r' hr hr'=>?_⟩
    obtain ⟨-,-,-,-,h⟩:=g2 q r' r hr' hr
    rcases h with h | ⟨-,-,h⟩
    ·rw [h]
    ·rw [h]
   ·left
    have:some a=some b:=by rw [<-hga,<-hgb,hlt]
    exact Option.some.inj this
   ·right
    obtain ⟨g1,g2⟩:=hgV _ _ (by rw [hlV];exact hpa) hlt (hinV _ hpa) (hinV _ hpb) hPab va vb hva hvb
    refine ⟨g1,fun q r r' hr hr'=>?_⟩
    obtain ⟨-,-,-,-,h⟩:=g2 q r r' hr hr'
    rcases h with h | ⟨-,-,h⟩
    ·rw [h]
    ·rw [h]
  have hal2:alikeB s t=true:=by
   have h1:=same_or x a s S[a] ha hs hsa
   have h2:=same_or y b t S[b] hb ht hsb
   rcases hab with e | ⟨g,-⟩
   ·subst e
    rcases h1 with ⟨e1,e2⟩ | h1
    ·rcases h2 with ⟨e3,e4⟩ | h2
     ·omega
     ·rw [e1];exact alike_symm h2
    ·rcases h2 with ⟨e3,e4⟩ | h2
     ·rw [e3];exact h1
     ·exact alike_trans h1 (alike_symm h2)
   ·have g2:=new_alike hga hgb hsa hsb hva hvb g
    have h3:alikeB s S[b]=true:=by
     rcases h1 with ⟨e1,-⟩ | h1
     ·rw [e1];exact g2
     ·exact alike_trans h1 g2
    rcases h2 with ⟨e3,-⟩ | h2
    ·rw [e3];exact h3
    ·exact alike_trans h3 (alike_symm h2)
  refine ⟨hal2,fun q r r' hr hr'=>?_⟩
  have hxR:Rch S R x:=(reachB_iff hx).1 (by rw [<-hins];exact ix)
  have hyl:y < S.length:=by omega
  have hyR:Rch S R y:=(reachB_iff hyl).1 (by rw [<-hins];exact iy)
  obtain ⟨a0,a1⟩:=(units_sec hu hs).2 r (List.mem_of_getElem? hr)
  obtain ⟨b0,b1⟩:=(units_sec hu ht).2 r' (List.mem_of_getElem? hr')
  refine ⟨a0,a1,b0,b1,.inr ?_⟩
  have i1:ins[r.sym.toNat]?=some true:=by rw [hins];exact (reachB_iff (by omega)).2 (.step hxR hs (List.mem_of_getElem? hr) (by omega))
  have i2:ins[r'.sym.toNat]?=some true:=by rw [hins];exact (reachB_iff (by omega)).2 (.step hyR ht (List.mem_of_getElem? hr') (by omega))
  refine ⟨i1,i2,?_⟩
  have hsla:s.rels.length=S[a].rels.length:=by
   rcases same_or x a s S[a] ha hs hsa with ⟨e,-⟩ | h
   ·rw [e]
   ·exact alike_len h
  have hslb:t.rels.length=S[b].rels.length:=by
   rcases same_or y b t S[b] hb ht hsb with ⟨e,-⟩ | h
   ·rw [e]
   ·exact alike_len h
  have hqa:q < S[a].rels.length:=by have:=(List.getElem?_eq_some_iff.1 hr).1;omega
  have hqb:q < S[b].rels.length:=by have:=(List.getElem?_eq_some_iff.1 hr').1;omega
  obtain ⟨z,z0,z1,z2⟩:=hld x _ ha (by omega) s S[a] hs (by rw [Int.toNat_natCast];exact hsa) q r _ hr (List.getElem?_eq_getElem hqa)
  obtain ⟨y',y0,y1,y2⟩:=hld y _ hb (by omega) t S[b] ht (by rw [Int.toNat_natCast];exact hsb) q r' _ hr' (List.getElem?_eq_getElem hqb)
  obtain ⟨zn,rfl⟩:∃ n:Nat,z=(n:Int):=⟨z.toNat,by omega⟩
  obtain ⟨yn,rfl⟩:∃ n:Nat,y'=(n:Int):=⟨y'.toNat,by omega⟩
  rw [hQg _ zn z1,hQg _ yn y1]
  rcases hab with e | ⟨-,g⟩
  ·subst e
   rw [z2] at y2
   have:zn=yn:=by have:=Option.some.inj y2;omega
   rw [this]
  ·rw [newR_get hga hsa] at hva
   rw [newR_get hgb hsb] at hvb
   have hva:=(Option.some.inj hva).symm
   have hvb:=(Option.some.inj hvb).symm
   subst hva hvb
   have:=g q (newRel S rep S[a].rels[q]) (newRel S rep S[b].rels[q]) (by simp only [List.getElem?_map,List.getElem?_eq_getElem hqa];rfl) (by simp only [List.getElem?_map,List.getElem?_eq_getElem hqb];rfl)
   rw [newRel_is z2,newRel_is y2] at this
   simp only [Int.toNat_natCast] at this
   rw [this]
 have hi':i < (standL S rep).length:=by rw [hlV] at hi;exact hi
 have hk':k < (standL S rep).length:=by omega
 have hgi:=List.getElem?_eq_getElem hi'
 have hgk:=List.getElem?_eq_getElem hk'
 obtain ⟨a,ha⟩:∃ a,a=(standL S rep)[i]:=⟨_,rfl⟩
 obtain ⟨b,hb⟩:∃ b,b=(standL S rep)[k]:=⟨_,rfl⟩
 rw [<-ha] at hgi
 rw [<-hb] at hgk
 have hra:=stand_rep hgi
 have hrb:=stand_rep hgk
 have hpa:=place_stand hgi
 have hpb:=place_stand hgk
 have hal:a < S.length:=by have:=(List.getElem?_eq_some_iff.1 hra).1;rw [hq.1] at this;exact this
 have hbl:b < S.length:=by have:=(List.getElem?_eq_some_iff.1 hrb).1;rw [hq.1] at this;exact this
 have hne:a ≠ b:=by
  intro e
  rw [e,hpb] at hpa
  omega
 have inn:∀ x:Nat,rep[x]?=some (x:Int)->x < S.length->ins[x]?=some true:=by
  intro x hx hxl
  obtain ⟨v,h1,h2,-⟩:=left_iff (j:=j) hil hxl
  rw [hins,<-hrep,hx] at h1
  have:=Option.some.inj h1
  exact h2.1 (by omega)
 have hQab:Q[a]?=Q[b]?:=by
  rw [hQg a a hra,hQg b b hrb,hpa,hpb,h]
 have fin:rep[a]?=rep[b]?:=by
  rw [hrep,<-hins]
  rcases Nat.lt_or_ge b a with hlt | hlt
  ·exact good_finer hQl hgood hal hlt (inn a hra hal) (inn b hrb hbl) hQab
  ·exact (good_finer hQl hgood hbl (by omega) (inn b hrb hbl) (inn a hra hal) hQab.symm).symm
 rw [hra,hrb] at fin
 have:=Option.some.inj fin
 omega
theorem again_stays {S:List Sc} {t:Nat} {j j':Nat} (hu:unitsR S=true) (ht:t < S.length) (hfx:nextP S (inS S t) (foldN S (inS S t) j)=foldN S (inS S t) j)
  {rep:List Int} (hrep:rep=endL (inS S t) (foldN S (inS S t) j)) {k e':Nat} (hk:rep[t]?=some (k:Int)) (he:e'=placeN S rep k)
  (hfx':nextP (newR S rep) (inS (newR S rep) e') (foldN (newR S rep) (inS (newR S rep) e') j')=foldN (newR S rep) (inS (newR S rep) e') j'):
  unitsR (newR S rep)=true/\e' < (newR S rep).length/\
  (∀ i,i < (newR S rep).length->(endL (inS (newR S rep) e') (foldN (newR S rep) (inS (newR S rep) e') j'))[i]?=some (i:Int))/\
  alignL (newR S rep) (endL (inS (newR S rep) e') (foldN (newR S rep) (inS (newR S rep) e') j'))=alignL S rep:=by
 unfold inS at*
 have hq:RepsQ S rep:=by rw [hrep];exact left_reps hu (reachB_len _ _) hfx
 have hld:LeadQ S rep:=by rw [hrep];exact left_lead hu (roots_in S _) hfx
 have huV:=newR_right hu hq hld
 have hlV:=newR_len S rep
 have hkk:=rep_self hq hk
 have hel:e' < (newR S rep).length:=by rw [he,hlV];exact place_lt hkk.1
 obtain ⟨ins,hins⟩:∃ x,x=reachB S (rootZ S t):=⟨_,rfl⟩
 have hil:ins.length=S.length:=by rw [hins];exact reachB_len _ _
 have hin:∀ x,Rch S (rootZ S t) x->∃ k:Nat,rep[x]?=some (k:Int):=by
  intro x hx
  have hxl:x < S.length:=rch_lt hu (fun k hk=>(roots_yes.1 (roots_in S t) k hk).2) hx
  obtain ⟨v,h1,h2,-⟩:=left_iff (j:=j) hil hxl
  rw [hins,<-hrep] at h1
  have h0:=h2.2 (by rw [hins];exact (reachB_iff hxl).2 hx)
  exact ⟨v.toNat,by rw [h1];congr 1;omega⟩
 have hroot:∀ (x k:Nat),(x:Int) ∈ rootZ S t->rep[x]?=some (k:Int)->((placeN S rep k:Nat):Int) ∈ rootZ (newR S rep) e':=by
  intro x y hx hy
  obtain ⟨x',hx',hxe⟩:=List.mem_map.1 hx
  have hxe:x'=x:=by have:(x':Int)=(x:Int):=hxe;omega
  subst hxe
  obtain ⟨q,s,h1,h2,h3⟩:=(root_keep S 0 t x').1 hx'
  have h1:q=x':=by omega
  subst h1
  obtain ⟨y1,y2⟩:=rep_self hq hy
  have hg:=place_get (S:=S) y1
  have hn:=newR_get hg (List.getElem?_eq_getElem y2)
  refine List.mem_map.2 ⟨placeN S rep y,(root_keep _ 0 e' _).2 ⟨placeN S rep y,_,by omega,hn,?_⟩,rfl⟩
  rcases h3 with h3 | h3
  ·exact .inl (keepK_of hy h2 h3)
  ·right
   have:q=t:=by omega
   subst this
   rw [hk] at hy
   have:k=y:=by have:=Option.some.inj hy;omega
   rw [he,this]
 have hall:∀ i,i < (newR S rep).length->(reachB (newR S rep) (rootZ (newR S rep) e'))[i]?=some true:=by
  intro i hi
  have hi':i < (standL S rep).length:=by rw [hlV] at hi;exact hi
  have hgi:=List.getElem?_eq_getElem hi'
  obtain ⟨a,ha⟩:∃ a,a=(standL S rep)[i]:=⟨_,rfl⟩
  rw [<-ha] at hgi
  have hra:=stand_rep hgi
  have hal:a < S.length:=by have:=(List.getElem?_eq_some_iff.1 hra).1;rw [hq.1] at this;exact this
  have hia:ins[a]?=some true:=by
   obtain ⟨v,h1,h2,-⟩:=left_iff (j:=j) hil hal
   rw [hins,<-hrep,hra] at h1
   have:=Option.some.inj h1
   exact h2.1 (by omega)
  have hR:Rch S (rootZ S t) a:=(reachB_iff hal).1 (by rw [<-hins];exact hia)
  have:=new_reached hu hq hld hin hroot hR a hra
  rw [place_stand hgi] at this
  exact (reachB_iff hi).2 this
 obtain ⟨P,hP⟩:∃ P,P=endL (reachB (newR S rep) (rootZ (newR S rep) e')) (foldN (newR S rep) (reachB (newR S rep) (rootZ (newR S rep) e')) j'):=⟨_,rfl⟩
 rw [<-hP]
 have hself:∀ i,i < (newR S rep).length->P[i]?=some (i:Int):=by
  intro i hi
  obtain ⟨p,h1,h2,h3,h4⟩:=end_least (j:=j') hi (hall i hi)
  rw [<-hP] at h1 h4
  by_cases e:p=i
  ·rw [h1,e]
  ·exact (new_apart hu (roots_in S _) hfx hrep hP hfx' hall hi (show p < i by omega) (by rw [h1,h4])).elim
 refine ⟨huV,hel,hself,?_⟩
 have hPl:P.length=(newR S rep).length:=by rw [hP,endL_len,foldN_len]
 obtain ⟨m,hm⟩:∃ m,m=(newR S rep).length:=⟨_,rfl⟩
 have hm256:m<=256:=by rw [hm];exact units_len huV
 have hmS:m=(standL S rep).length:=by rw [hm,hlV]
 have hsl:selfL P=List.range m:=by
  unfold selfL
  rw [hPl,<-hm]
  apply List.filter_eq_self.2
  intro i hi
  simpa using hself i (by rw [<-hm];simpa using hi)
 have hkind:∀ (i a:Nat),(standL S rep)[i]?=some a->kindN (newR S rep) i=kindN S a/\alignN (newR S rep) i=mostN S rep a rep.length/\a < 256:=by
  intro i a h
  have hra:=stand_rep h
  have hal:a < S.length:=by have:=(List.getElem?_eq_some_iff.1 hra).1;rw [hq.1] at this;exact this
  have hs:=List.getElem?_eq_getElem hal
  have hn:=newR_get h hs
  unfold kindN alignN
  rw [hn,hs]
  have:=units_len hu
  exact ⟨rfl,rfl,by omega⟩
 have hst:standL (newR S rep) P=List.range m:=by
  refine (standL_one (by rw [hPl,<-hm];exact hm256) (by rw [hsl]) ?_).symm
  rw [List.pairwise_iff_getElem]
  intro x y hx hy hxy
  simp only [List.length_range] at hx hy
  rw [List.getElem_range,List.getElem_range]
  have gx:=List.getElem?_eq_getElem (show x < (standL S rep).length by omega)
  have gy:=List.getElem?_eq_getElem (show y < (standL S rep).length by omega)
  obtain ⟨k1,-,l1⟩:=hkind x _ gx
  obtain ⟨k2,-,l2⟩:=hkind y _ gy
  have hup:=List.pairwise_iff_getElem.1 (standL_up (S:=S) (rep:=rep)) x y (by omega) (by omega) hxy
  unfold keyU at hup ⊢
  rw [k1,k2]
  omega
 unfold alignL
 rw [hst]
 apply List.ext_getElem
 ·simp [hmS]
 intro i h1 h2
 simp only [List.length_map,List.length_range] at h1
 simp only [List.getElem_map,List.getElem_range]
 have gi:=List.getElem?_eq_getElem (show i < (standL S rep).length by omega)
 obtain ⟨-,ka,-⟩:=hkind i _ gi
 rw [<-ka,hPl,<-hm]
 have hmost:∀ q,q<=m->mostN (newR S rep) P i q=if i < q then alignN (newR S rep) i else 0:=by
  intro q hq
  induction q with
  | zero=>rfl
  | succ q ih=>
   have hq2:q < (newR S rep).length:=by omega
   unfold mostN
   rw [ih (by omega),hself q hq2]
   by_cases e:q=i
   ·subst e
    rw [if_pos rfl,if_neg (by omega),if_pos (by omega)]
    have:0<=alignN (newR S rep) q:=by rw [ka];exact mostN_pos _
    omega
   ·rw [if_neg (by intro h;have:=Option.some.inj h;omega)]
    by_cases h:i < q
    ·rw [if_pos h,if_pos (by omega)]
    ·rw [if_neg h,if_neg (by omega)]
 rw [hmost m (Nat.le_refl _),if_pos (by omega)]
end Go.Proofs.YtbabckomagkjbaaGreatDoor
