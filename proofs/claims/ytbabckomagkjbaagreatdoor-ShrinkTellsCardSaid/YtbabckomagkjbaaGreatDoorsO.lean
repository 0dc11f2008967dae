/- fold's law: what the document's rows are folded to. fold, plain: what the laws ask of what is told; rows of bools as an argument. -/
import Derived.Test.YtbabckomagkjbaaGreatDoorqN
import Derived.Deep.Grids
set_option linter.unusedVariables false
set_option linter.unusedSimpArgs false
namespace Go.Proofs.YtbabckomagkjbaaGreatDoor
open Go.ChangeShapes Go.WideShapes Go.Deep Go.RowKit
def partR {β:Type} [DecidableEq β] (n:Nat) (ok:Nat->Bool) (r:Nat->β):List Int:=(List.range n).map (fun k=>((if ok k=true then ((List.range (k+1)).find? (fun j=>ok j && decide (r j=r k))).getD k else k:Nat):Int))
theorem partZ_raw {β:Type} [DecidableEq β] {n:Nat} {ok:Nat->Bool} {sg:Nat->Sg} (r:Nat->β) (h:∀ i j,sg i=sg j ↔ r i=r j):partZ n ok sg=partR n ok r:=by
 unfold partZ partR partG
 apply List.map_congr_left
 intro k hk
 have e:(fun j=>ok j && decide (sg j=sg k))=(fun j=>ok j && decide (r j=r k)):=by
  funext j
  rw [decide_eq_decide.2 (h j k)]
 rw [e]
def rawA (L:List Sc) (k:Nat):List UInt8 × List Int:=match L[k]? with | some s=>(s.data,s.rels.flatMap num3) | none=>([],[])
def rawB (L:List Sc) (P:List Int) (k:Nat):Int × List Int:=((P[k]?).getD 0,match L[k]? with | some s=>refsP P s | none=>[])
theorem sgnA_raw (L:List Sc) (k:Nat):sgnA L k=⟨0,(rawA L k).1,encT (rawA L k).2⟩:=by
 unfold sgnA rawA
 cases L[k]? <;> rfl
theorem sgnB_raw (L:List Sc) (P:List Int) (k:Nat):sgnB L P k=⟨(rawB L P k).1,[],encT (rawB L P k).2⟩:=by
 unfold sgnB rawB
 cases L[k]? <;> rfl
theorem part1_raw (L:List Sc) (ins:List Bool):part1 L ins=partR L.length (okU L ins) (rawA L):=by
 unfold part1
 apply partZ_raw
 intro i j
 rw [sgnA_raw,sgnA_raw]
 simp only [Sg.mk.injEq,true_and]
 constructor
 ·intro h;exact Prod.ext h.1 (encT_inj h.2)
 ·intro h;rw [h];exact ⟨rfl,rfl⟩
theorem nextP_raw (L:List Sc) (ins:List Bool) (P:List Int):nextP L ins P=partR L.length (okU L ins) (rawB L P):=by
 unfold nextP
 apply partZ_raw
 intro i j
 rw [sgnB_raw,sgnB_raw]
 simp only [Sg.mk.injEq,true_and]
 constructor
 ·intro h;exact Prod.ext h.1 (encT_inj h.2)
 ·intro h;rw [h];exact ⟨rfl,rfl⟩
end Go.Proofs.YtbabckomagkjbaaGreatDoor
namespace Go.Proofs.YtbabckomagkjbaaGreatDoor
open Go.ChangeShapes Go.WideShapes Go.Deep Go.RowKit
def RefQ (n:Nat) (ins:List Bool) (l:List Int) (a b:Int):Prop:=
 0<=a/\a < n/\0<=b/\b < n/\(a=b\/(ins[a.toNat]?=some true/\ins[b.toNat]?=some true/\l[a.toNat]?=l[b.toNat]?))
def PairQ (S:List Sc) (ins:List Bool) (l:List Int) (i k:Nat):Prop:=
 ins[i]?=some true->ins[k]?=some true->l[i]?=l[k]?->∀ (s t:Sc),S[i]?=some s->S[k]?=some t->
  alikeB s t=true/\∀ (j:Nat) (r r':Rl),s.rels[j]?=some r->t.rels[j]?=some r'->RefQ S.length ins l r.sym r'.sym
def GoodQ (S:List Sc) (ins:List Bool) (l:List Int):Prop:=∀ (i k:Nat),i < S.length->k < i->PairQ S ins l i k
theorem alike_len {s t:Sc} (h:alikeB s t=true):s.rels.length=t.rels.length:=by
 unfold alikeB alRs at h
 simp only [Bool.and_eq_true,decide_eq_true_eq] at h
 exact h.2.2.2.1
theorem alR_iff {x y:Rl}:alR x y=true ↔ x.pos=y.pos/\x.kind=y.kind/\x.add=y.add:=by
 unfold alR
 simp only [Bool.and_eq_true,beq_iff_eq]
theorem alike_iff {S:List Sc} {i k:Nat} {s t:Sc} (hs:S[i]?=some s) (ht:S[k]?=some t):alikeB s t=true ↔ s.kind=1/\t.kind=1/\sgnA S i=sgnA S k:=by
 rw [sgnA_eq hs ht,num3_eq]
 unfold alikeB
 simp only [Bool.and_eq_true,decide_eq_true_eq]
 constructor
 ·rintro ⟨h1,h2,h3,h4⟩
  have hl:s.rels.length=t.rels.length:=by
   unfold alRs at h4
   simp only [Bool.and_eq_true,decide_eq_true_eq] at h4
   exact h4.1
  exact ⟨h1,h2,h3,hl,fun j r r' hr hr'=>alR_iff.1 ((alRs_iff hl).1 h4 j r r' hr hr')⟩
 ·rintro ⟨h1,h2,h3,hl,h4⟩
  exact ⟨h1,h2,h3,(alRs_iff hl).2 fun j r r' hr hr'=>alR_iff.2 (h4 j r r' hr hr')⟩
theorem foldN_get (S:List Sc) (ins:List Bool) (j:Nat) {k:Nat} (h:k < S.length):∃ sg,(∀ q,q < S.length->(foldN S ins j)[q]?=some ((partG (okU S ins) sg q:Nat):Int)):=by
 obtain ⟨sg,hsg⟩:=(foldN_fix S ins j).isP
 exact ⟨sg,fun q hq=>by rw [hsg];exact partZ_get hq⟩
theorem endL_len (ins:List Bool) (P:List Int):(endL ins P).length=P.length:=by unfold endL;simp
theorem endL_get {ins:List Bool} {P:List Int} {k:Nat} {v:Int} (h:P[k]?=some v):(endL ins P)[k]?=some (if ins[k]?=some true then v else -1):=by
 have hk:k < P.length:=(List.getElem?_eq_some_iff.1 h).1
 unfold endL
 rw [List.getElem?_map,List.getElem?_range hk]
 simp only [Option.map_some,h,Option.getD_some]
theorem endL_in {ins:List Bool} {P:List Int} {k:Nat} (hk:k < P.length) (h:ins[k]?=some true):(endL ins P)[k]?=P[k]?:=by
 rw [endL_get (List.getElem?_eq_getElem hk),if_pos h,List.getElem?_eq_getElem hk]
theorem endL_out {ins:List Bool} {P:List Int} {k:Nat} (hk:k < P.length) (h:ins[k]?=some false):(endL ins P)[k]?=some (-1):=by
 rw [endL_get (List.getElem?_eq_getElem hk),if_neg (by rw [h];simp)]
theorem end_least {S:List Sc} {ins:List Bool} {j k:Nat} (hk:k < S.length) (hi:ins[k]?=some true):
  ∃ p:Nat,(endL ins (foldN S ins j))[k]?=some (p:Int)/\p<=k/\ins[p]?=some true/\(endL ins (foldN S ins j))[p]?=some (p:Int):=by
 obtain ⟨sg,hsg⟩:=foldN_get S ins j hk
 have hl:=foldN_len S ins j
 have hle:=partG_le (ok:=okU S ins) (sg:=sg) k
 have hip:ins[partG (okU S ins) sg k]?=some true:=by
  cases ho:okU S ins k
  ·rw [partG_not ho];exact hi
  ·exact (okU_lt (partG_ok (sg:=sg) ho).2.1).2.1
 refine ⟨partG (okU S ins) sg k,?_,hle,hip,?_⟩
 ·rw [endL_in (by omega) hi,hsg k hk]
 ·rw [endL_in (by omega) hip,hsg _ (by omega),partG_idem]
theorem end_out {S:List Sc} {ins:List Bool} {j k:Nat} (hk:k < S.length) (hi:ins[k]?=some false):(endL ins (foldN S ins j))[k]?=some (-1):=
 endL_out (by rw [foldN_len];exact hk) hi
theorem encT_get {P:List Int} {s t:Sc} (h:encT (refsP P s)=encT (refsP P t)) {j:Nat} {r r':Rl} (hr:s.rels[j]?=some r) (hr':t.rels[j]?=some r'):(P[r.sym.toNat]?).getD 0=(P[r'.sym.toNat]?).getD 0:=by
 have h1:=congrArg (fun x=>x[j]?) (encT_inj h)
 simp only [refsP,List.getElem?_map,hr,hr',Option.map_some,Option.some.injEq] at h1
 exact h1
theorem end_good {S:List Sc} {ins:List Bool} {j:Nat} (hu:unitsR S=true) (hin:ins.length=S.length) (hfx:nextP S ins (foldN S ins j)=foldN S ins j):GoodQ S ins (endL ins (foldN S ins j)):=by
 intro i k hi hki hii hik hl s t hs ht
 have hk:k < S.length:=by omega
 have hlen:=foldN_len S ins j
 rw [endL_in (by omega) hii,endL_in (by omega) hik] at hl
 obtain ⟨sg,hsg⟩:=foldN_get S ins j hi
 have hne:i ≠ k:=by omega
 have hpe:partG (okU S ins) sg i=partG (okU S ins) sg k:=by
  rw [hsg i hi,hsg k hk] at hl
  have:=Option.some.inj hl;omega
 obtain ⟨o1,o2⟩:=partG_both hpe hne
 obtain ⟨-,-,s',hs',ks⟩:=okU_lt o1
 obtain ⟨-,-,t',ht',kt⟩:=okU_lt o2
 rw [hs] at hs';cases hs'
 rw [ht] at ht';cases ht'
 refine ⟨(alike_iff hs ht).2 ⟨ks,kt,(foldN_fix S ins j).alike i k hi hk o1 o2 hl⟩,fun q r r' hr hr'=>?_⟩
 obtain ⟨a0,a1⟩:=(units_sec hu hs).2 r (List.mem_of_getElem? hr)
 obtain ⟨b0,b1⟩:=(units_sec hu ht).2 r' (List.mem_of_getElem? hr')
 refine ⟨a0,a1,b0,b1,?_⟩
 by_cases e:r.sym=r'.sym
 ·exact .inl e
 right
 have hn:partG (okU S ins) (sgnB S (foldN S ins j)) i=partG (okU S ins) (sgnB S (foldN S ins j)) k:=by
  have h1:=hl
  rw [<-hfx] at h1
  unfold nextP at h1
  rw [partZ_get hi,partZ_get hk] at h1
  have:=Option.some.inj h1;omega
 have hsb:=congrArg Sg.refs ((partG_eq o1 o2).1 hn)
 simp only [sgnB,hs,ht] at hsb
 have hv:=encT_get hsb hr hr'
 have la:r.sym.toNat < S.length:=by omega
 have lb:r'.sym.toNat < S.length:=by omega
 rw [hsg _ la,hsg _ lb,Option.getD_some,Option.getD_some] at hv
 have hv2:partG (okU S ins) sg r.sym.toNat=partG (okU S ins) sg r'.sym.toNat:=by omega
 obtain ⟨p1,p2⟩:=partG_both hv2 (by omega)
 have i1:=(okU_lt p1).2.1
 have i2:=(okU_lt p2).2.1
 refine ⟨i1,i2,?_⟩
 rw [endL_in (by omega) i1,endL_in (by omega) i2,hsg _ la,hsg _ lb,hv2]
end Go.Proofs.YtbabckomagkjbaaGreatDoor
