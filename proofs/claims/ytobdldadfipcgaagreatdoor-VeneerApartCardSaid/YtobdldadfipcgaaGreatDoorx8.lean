/- What is left, and options, as arguments. veneer, plain: what stands does not overlap. veneer, plain: a plan's regions. -/
import Derived.Test.YtobdldadfipcgaaGreatDoorw5
import Derived.Test.YtobdldadfipcgaaGreatDoorw1
import Derived.Lib.SmallJoins
import Derived.Test.YtobdldadfipcgaaGreatDoorx1
set_option maxRecDepth 100000
set_option linter.unusedVariables false
set_option linter.unusedSimpArgs false
namespace Go.Proofs.YtobdldadfipcgaaGreatDoor
open Go.ChangeShapes Go.WideShapes Go.Deep Go.RowKit
theorem open_intsK {H:Type} {encH:TypeId × Value->H} {W:World} {cell:Value} {fuel:Nat} {x:DataW H × List MemPlace} (hf:DataW.trod encH Tryz.prog W 0 (fun _=>true) true fuel 23 [cell]=some x):
  ∃ (a:Option Addr) (n c:Nat) (l:List Int),cell=.slice a n c/\n<=maxLen/\SL enZ 1 W W.heap.size a n l/\(a=none->n=0/\c=0):=by
 rcases Go.ChangeShapes.open_ints Tryz.underlying23 Tryz.underlying3 (by kernel_rfl) hf with ⟨hcs,hx⟩ | ⟨a,len,cap,zs,hcs,hb,hl,hm,hlen,hx,hc,hw⟩
 ·simp only [List.cons.injEq,and_true] at hcs
  subst hcs
  exact ⟨none,0,0,[],rfl,by unfold maxLen;omega,SL.nil _ _ _,fun _=>⟨rfl,rfl⟩⟩
 ·simp only [List.cons.injEq,and_true] at hcs
  subst hcs
  simp only [if_true] at hlen
  refine ⟨some a,len,cap,zs.take len,rfl,by omega,⟨by rw [List.length_take];omega,fun hne=>?_⟩,by simp⟩
  have hl0:0 < len:=by
   rcases Nat.eq_zero_or_pos len with h | h
   ·subst h;simp at hne
   ·exact h
  have h00:=hc 0 (by omega)
  have ea:a.add 0=a:=by simp [Addr.add]
  rw [ea] at h00
  have hal:a.block < W.heap.size:=cell_lt h00
  obtain ⟨b,off,el⟩:=a
  have hel':el=none:=cell_spot h00
  subst hel'
  refine ⟨b,off,rfl,hal,fun k hk j hj=>?_⟩
  have:j=0:=by omega
  subst this
  have hk':k < len/\k < zs.length:=by rw [List.length_take] at hk;omega
  have:=hc k hk'.2
  rw [add_none] at this
  rw [show off+k*1+0=off+k from by omega,this,List.getElem_take]
  simp [enZ,List.getD_eq_getElem?_getD,List.getElem?_eq_getElem hk'.2]
theorem open_Kept {H:Type} {encH:TypeId × Value->H} {W:World} {base:Nat} {v:Value} {d:DataW H} {p:List MemPlace}
  (hv:Value.okWide Tryz.prog W .any base 25 v) (h:DataW.Trod encH Tryz.prog W 0 (fun _=>true) true 25 v d p):
  ∃ (ra:Option Addr) (rn rc:Nat) (la:Option Addr) (ln lc:Nat) (aa:Option Addr) (an ac:Nat) (rep live align:List Int),v=.agg (kpV ra rn rc la ln lc aa an ac)/\(rn<=maxLen/\ln<=maxLen/\an<=maxLen)/\
   SL enZ 1 W W.heap.size ra rn rep/\SL enZ 1 W W.heap.size la ln live/\SL enZ 1 W W.heap.size aa an align/\(ra=none->rn=0/\rc=0)/\(la=none->ln=0/\lc=0)/\(aa=none->an=0/\ac=0):=by
 obtain ⟨c0,c1,c2,y0,y1,y2,m,rfl,-,-,h0,h1,h2⟩:=Go.Joins.open_agg3 Tryz.underlying25 (by kernel_rfl) (by kernel_rfl) hv h
 obtain ⟨ra,rn,rc,rep,rfl,a1,a2,a3⟩:=open_intsK h0
 obtain ⟨la,ln,lc,live,rfl,b1,b2,b3⟩:=open_intsK h1
 obtain ⟨aa,an,ac,align,rfl,d1,d2,d3⟩:=open_intsK h2
 exact ⟨ra,rn,rc,la,ln,lc,aa,an,ac,rep,live,align,rfl,⟨a1,b1,d1⟩,a2,b2,d2,a3,b3,d3⟩
theorem open_Options {H:Type} {encH:TypeId × Value->H} {W:World} {base:Nat} {v:Value} {d:DataW H} {p:List MemPlace}
  (hv:Value.okWide Tryz.prog W .any base 28 v) (h:DataW.Trod encH Tryz.prog W 0 (fun _=>true) true 28 v d p):
  ∃ t d s r:Int,v=.agg #[.int .u64 t,.int .u64 d,.int .u64 s,.int .i64 r]/\(0<=t/\t < 18446744073709551616)/\(0<=d/\d < 18446744073709551616)/\(0<=s/\s < 18446744073709551616)/\(-9223372036854775808<=r/\r<=9223372036854775807):=by
 obtain ⟨c0,c1,c2,c3,y0,y1,y2,y3,m,rfl,-,-,h0,h1,h2,h3⟩:=Go.Joins.open_agg4 Tryz.underlying28 (by kernel_rfl) (by kernel_rfl) hv h
 obtain ⟨x0,e0,-,w0⟩:=DataW.trod_int Tryz.underlying26 h0
 obtain ⟨x1,e1,-,w1⟩:=DataW.trod_int Tryz.underlying26 h1
 obtain ⟨x2,e2,-,w2⟩:=DataW.trod_int Tryz.underlying26 h2
 obtain ⟨x3,e3,-,w3⟩:=DataW.trod_int Tryz.underlying3 h3
 simp only [List.cons.injEq,and_true] at e0 e1 e2 e3
 subst e0 e1 e2 e3
 have b0:=bounds_u64 w0
 have b1:=bounds_u64 w1
 have b2:=bounds_u64 w2
 exact ⟨x0,x1,x2,x3,rfl,by omega,by omega,by omega,bounds_i64 w3⟩
end Go.Proofs.YtobdldadfipcgaaGreatDoor
namespace Go.Proofs.YtobdldadfipcgaaGreatDoor
open Go.ChangeShapes Go.WideShapes Go.Deep Go.RowKit
open Go.Proofs.YtobdldadfipcgaaGreatDoor.Pl (Bk layL layS upS nearB)
theorem up_al {a n:Int} (h0:0<=n) (h1:n<=12) (a0:0<=a) (a1:a<=9223372036854775807):(upS a n).1 % 2 ^ n.toNat=0:=by
 have e:upS a n=((a+(2 ^ n.toNat - 1)) / 2 ^ n.toNat*2 ^ n.toNat,0):=by
  unfold upS;rw [if_neg (by omega),if_neg (by omega)]
 rw [e]
 exact Int.mul_emod_left _ _
theorem pow_dvd_pow2 {a b:Nat} (h:a<=b):(2:Int) ^ a ∣ 2 ^ b:=⟨2 ^ (b - a),by rw [<-Int.pow_add];congr 1;omega⟩
def BkOk (b:Bk):Prop:=0<=b.1/\b.1<=16384/\0<=b.2/\b.2<=12
theorem lay_at:∀ (l:List Bk) (e:Int),(∀ b ∈ l,BkOk b)->0<=e->e+l.length*20480<=9223372036854775807->∀ (i:Nat) (b:Bk) (p:Int),l[i]?=some b->(layL l e).1[i]?=some p->
  e<=p/\p+b.1<=e+(i+1:Nat)*20480/\p % 2 ^ b.2.toNat=0/\∀ (j:Nat) (q:Int),i < j->(layL l e).1[j]?=some q->p+b.1<=q
 | [],e,_,_,_,i,b,p,hb,hp=>by simp at hb
 | c :: t,e,hok,h0,h1,i,b,p,hb,hp=>by
  obtain ⟨b1,b2,b3,b4⟩:=hok c (List.mem_cons_self ..)
  have hl:((c :: t).length:Int)=t.length+1:=by simp
  obtain ⟨u1,u2⟩:=up_bd b3 b4 h0 (by omega)
  have ua:=up_al b3 b4 h0 (by omega)
  have hok':∀ b ∈ t,BkOk b:=fun c hc=>hok c (List.mem_cons_of_mem _ hc)
  have ih:=lay_at t ((upS e c.2).1+c.1) hok' (by omega) (by omega)
  cases i with
  | zero=>
   simp only [List.getElem?_cons_zero,Option.some.injEq] at hb
   subst hb
   have hp':(upS e c.2).1=p:=by simpa [layL] using hp
   subst hp'
   refine ⟨u1,by omega,ua,fun j q hj hq=>?_⟩
   obtain ⟨j',rfl⟩:∃ j',j=j'+1:=⟨j - 1,by omega⟩
   have hq':(layL t ((upS e c.2).1+c.1)).1[j']?=some q:=by simpa [layL] using hq
   have hjl:j' < t.length:=by
    have:=(List.getElem?_eq_some_iff.1 hq').1
    rw [layL_n] at this;exact this
   obtain ⟨g1,-⟩:=ih j' t[j'] q (List.getElem?_eq_getElem hjl) hq'
   exact g1
  | succ i=>
   have hb':t[i]?=some b:=by simpa using hb
   have hp':(layL t ((upS e c.2).1+c.1)).1[i]?=some p:=by simpa [layL] using hp
   obtain ⟨g1,g2,g3,g4⟩:=ih i b p hb' hp'
   refine ⟨by omega,by omega,g3,fun j q hj hq=>?_⟩
   obtain ⟨j',rfl⟩:∃ j',j=j'+1:=⟨j - 1,by omega⟩
   exact g4 j' q (by omega) (by simpa [layL] using hq)
theorem split_code (S:List Sc):∀ zl:List (Nat × Int),(∀ (i j:Nat) (x y:Nat × Int),i<=j->zl[i]?=some x->zl[j]?=some y->kindN S y.1=1->kindN S x.1=1)->
  ∃ za zb,zl=za ++ zb/\(∀ x ∈ za,kindN S x.1=1)/\(∀ x ∈ zb,¬ kindN S x.1=1)
 | [],_=>⟨[],[],rfl,(fun x h=>by cases h),(fun x h=>by cases h)⟩
 | a :: t,h=>by
  by_cases ha:kindN S a.1=1
  ·obtain ⟨za,zb,e,h1,h2⟩:=split_code S t (fun i j x y hij hx hy=>h (i+1) (j+1) x y (by omega) (by simpa using hx) (by simpa using hy))
   refine ⟨a :: za,zb,by rw [e];rfl,fun x hx=>?_,h2⟩
   rcases List.mem_cons.1 hx with rfl | hx
   ·exact ha
   ·exact h1 x hx
  ·refine ⟨[],a :: t,rfl,(fun x hx=>by cases hx),fun x hx hk=>?_⟩
   obtain ⟨j,hj⟩:=List.getElem?_of_mem hx
   exact ha (h 0 j a x (by omega) rfl hj hk)
def blkC (S:List Sc) (v:List Vn) (x:Nat × Int):Bk:=((endN S x.1+12*cntV v x.1:Nat),max x.2 2)
def blkD (S:List Sc) (x:Nat × Int):Bk:=((lenN S x.1:Nat),x.2)
theorem vtx_map {S:List Sc} {v:List Vn}:∀ {l:List (Nat × Int)},(∀ x ∈ l,kindN S x.1=1)->vtxB S v l=l.map (blkC S v)/\vdatB S l=[]
 | [],_=>⟨rfl,rfl⟩
 | a :: t,h=>by
  obtain ⟨h1,h2⟩:=vtx_map (v:=v) (fun x hx=>h x (List.mem_cons_of_mem _ hx))
  have ha:=h a (List.mem_cons_self ..)
  unfold vtxB at h1 ⊢
  unfold vdatB at h2 ⊢
  rw [List.filterMap_cons,List.filterMap_cons,if_pos ha,if_pos ha,h1,h2]
  exact ⟨rfl,rfl⟩
theorem vdat_map {S:List Sc} {v:List Vn}:∀ {l:List (Nat × Int)},(∀ x ∈ l,¬ kindN S x.1=1)->vtxB S v l=[]/\vdatB S l=l.map (blkD S)
 | [],_=>⟨rfl,rfl⟩
 | a :: t,h=>by
  obtain ⟨h1,h2⟩:=vdat_map (v:=v) (fun x hx=>h x (List.mem_cons_of_mem _ hx))
  have ha:=h a (List.mem_cons_self ..)
  unfold vtxB at h1 ⊢
  unfold vdatB at h2 ⊢
  rw [List.filterMap_cons,List.filterMap_cons,if_neg ha,if_neg ha,h1,h2]
  exact ⟨rfl,rfl⟩
theorem vtx_app {S:List Sc} {v:List Vn} {a b:List (Nat × Int)}:vtxB S v (a ++ b)=vtxB S v a ++ vtxB S v b:=by unfold vtxB;rw [List.filterMap_append]
theorem vdat_app {S:List Sc} {a b:List (Nat × Int)}:vdatB S (a ++ b)=vdatB S a ++ vdatB S b:=by unfold vdatB;rw [List.filterMap_append]
def sizeN (S:List Sc) (v:List Vn) (k:Nat):Nat:=if kindN S k=1 then endN S k+12*cntV v k else lenN S k
section
variable {S:List Sc} {rep:List Int} {L:List Nat} {align:List Int} (h:LeftQ S rep L align) {v:List Vn} (hv:∀ k,cntV v k<=64) {t d st r:Int} (hg:Pl.goodB t d st r=true) (t0:0<=t) (d0:0<=d)
include h hv hg t0 d0
theorem place_at {i k:Nat} {a:Int} (hk:L[i]?=some k) (ha:align[i]?=some a) {p:Int} (hp:(placesV S L align t d v)[i]?=some p):
  (0<=p/\p<=4611686018432630784)/\p % 2 ^ a.toNat=0/\(kindN S k=1->p % 4=0)/\
  ∀ (j k':Nat) (q:Int),i ≠ j->L[j]?=some k'->(placesV S L align t d v)[j]?=some q->p+sizeN S v k<=q\/q+sizeN S v k'<=p:=by
 have hgg:=hg
 unfold Pl.goodB Pl.evB Pl.apB at hgg
 simp only [Bool.and_eq_true,decide_eq_true_eq] at hgg
 obtain ⟨⟨⟨⟨-,e1⟩,⟨-,e2⟩,-⟩,e3,-⟩,-⟩:=hgg
 have hb:=places_bd h hv t0 (by omega) d0 (by omega) p (List.mem_of_getElem? hp)
 have hzl:∀ {i k:Nat} {a:Int},L[i]?=some k->align[i]?=some a->(L.zip align)[i]?=some (k,a):=fun h1 h2=>by
  rw [List.getElem?_zip_eq_some.2 (show L[_]?=some (_,_).1/\align[_]?=some (_,_).2 from ⟨h1,h2⟩)]
 obtain ⟨za,zb,ez,ha1,hb1⟩:=split_code S (L.zip align) (fun i j x y hij hx hy hk=>by
  obtain ⟨x1,x2⟩:=List.getElem?_zip_eq_some.1 hx
  obtain ⟨y1,y2⟩:=List.getElem?_zip_eq_some.1 hy
  obtain ⟨i1,i2⟩:=List.getElem?_eq_some_iff.1 x1
  obtain ⟨j1,j2⟩:=List.getElem?_eq_some_iff.1 y1
  have:=h.up i j i1 j1 hij (by rw [j2];exact hk)
  rw [i2] at this;exact this)
 have hzlen:(L.zip align).length<=256:=by rw [List.length_zip];have:=h.n256;omega
 have hab:za.length+zb.length<=256:=by rw [ez,List.length_append] at hzlen;exact hzlen
 have hP:placesV S L align t d v=(layL (za.map (blkC S v)) t).1 ++ (layL (zb.map (blkD S)) d).1:=by
  unfold placesV
  rw [ez,vtx_app,vdat_app,(vtx_map ha1).1,(vtx_map (v:=v) ha1).2,(vdat_map (v:=v) hb1).1,(vdat_map (v:=v) hb1).2,List.append_nil,List.nil_append]
 have okA:∀ b ∈ za.map (blkC S v),BkOk b:=fun b hb=>by
  obtain ⟨x,hx,rfl⟩:=List.mem_map.1 hb
  have hm:x ∈ L.zip align:=by rw [ez];exact List.mem_append_left _ hx
  refine vtx_ok h hv _ (List.mem_filterMap.2 ⟨x,hm,?_⟩)
  rw [if_pos (ha1 x hx)];rfl
 have okB:∀ b ∈ zb.map (blkD S),BkOk b:=fun b hb=>by
  obtain ⟨x,hx,rfl⟩:=List.mem_map.1 hb
  have hm:x ∈ L.zip align:=by rw [ez];exact List.mem_append_right _ hx
  refine vdat_ok h _ (List.mem_filterMap.2 ⟨x,hm,?_⟩)
  rw [if_neg (hb1 x hx)];rfl
 have lA:(za.map (blkC S v)).length=za.length:=List.length_map ..
 have lB:(zb.map (blkD S)).length=zb.length:=List.length_map ..
 have LA:=lay_at _ t okA t0 (by rw [lA];omega)
 have LB:=lay_at _ d okB d0 (by rw [lB];omega)
 have nA:(layL (za.map (blkC S v)) t).1.length=za.length:=by rw [layL_n,lA]
 have atA:∀ (j k:Nat) (q:Int),j < za.length->L[j]?=some k->(placesV S L align t d v)[j]?=some q->∃ x,za[j]?=some x/\x.1=k/\(za.map (blkC S v))[j]?=some (blkC S v x)/\(layL (za.map (blkC S v)) t).1[j]?=some q/\sizeN S v k=endN S k+12*cntV v k/\kindN S k=1:=by
  intro j k q hj hk hq
  obtain ⟨x,hx⟩:∃ x,za[j]?=some x:=⟨_,List.getElem?_eq_getElem hj⟩
  have hz:(L.zip align)[j]?=some x:=by rw [ez,List.getElem?_append_left hj];exact hx
  obtain ⟨x1,x2⟩:=List.getElem?_zip_eq_some.1 hz
  have e:x.1=k:=by rw [hk] at x1;exact (Option.some.inj x1).symm
  have hkk:kindN S k=1:=by rw [<-e];exact ha1 x (List.mem_of_getElem? hx)
  rw [hP,List.getElem?_append_left (by rw [nA];exact hj)] at hq
  exact ⟨x,hx,e,by rw [List.getElem?_map,hx];rfl,hq,by unfold sizeN;rw [if_pos hkk],hkk⟩
 have atB:∀ (j k:Nat) (q:Int),za.length<=j->L[j]?=some k->(placesV S L align t d v)[j]?=some q->∃ x,zb[j - za.length]?=some x/\x.1=k/\(zb.map (blkD S))[j - za.length]?=some (blkD S x)/\(layL (zb.map (blkD S)) d).1[j - za.length]?=some q/\sizeN S v k=lenN S k/\¬ kindN S k=1:=by
  intro j k q hj hk hq
  have hjl:j < align.length:=by rw [h.al];exact (List.getElem?_eq_some_iff.1 hk).1
  have hz:=hzl hk (List.getElem?_eq_getElem hjl)
  rw [ez,List.getElem?_append_right hj] at hz
  have hkk:¬ kindN S k=1:=hb1 _ (List.mem_of_getElem? hz)
  rw [hP,List.getElem?_append_right (by rw [nA];exact hj),nA] at hq
  exact ⟨_,hz,rfl,by rw [List.getElem?_map,hz];rfl,hq,by unfold sizeN;rw [if_neg hkk],hkk⟩
 have ziel:∀ (j:Nat) (b:Bk) (q:Int),(za.map (blkC S v))[j]?=some b->(layL (za.map (blkC S v)) t).1[j]?=some q->t<=q/\q+b.1<=t+5242880:=fun j b q hb hq=>by
  obtain ⟨g1,g2,-⟩:=LA j b q hb hq
  have:j < za.length:=by have:=(List.getElem?_eq_some_iff.1 hb).1;rw [lA] at this;exact this
  omega
 have ziel2:∀ (j:Nat) (b:Bk) (q:Int),(zb.map (blkD S))[j]?=some b->(layL (zb.map (blkD S)) d).1[j]?=some q->d<=q/\q+b.1<=d+5242880:=fun j b q hb hq=>by
  obtain ⟨g1,g2,-⟩:=LB j b q hb hq
  have:j < zb.length:=by have:=(List.getElem?_eq_some_iff.1 hb).1;rw [lB] at this;exact this
  omega
 refine ⟨hb,?_⟩
 rcases Nat.lt_or_ge i za.length with hi | hi
 ·obtain ⟨x,x1,x2,x3,x4,x5,x6⟩:=atA i k p hi hk hp
  obtain ⟨g1,g2,g3,g4⟩:=LA i _ p x3 x4
  have hxa:x=(k,a):=by
   have hz:(L.zip align)[i]?=some x:=by rw [ez,List.getElem?_append_left hi];exact x1
   rw [hzl hk ha] at hz;exact (Option.some.inj hz).symm
  have ha12:=(zip_in h (List.mem_of_getElem? (hzl hk ha))).2
  subst hxa
  have g3':p % 2 ^ (max a 2).toNat=0:=g3
  refine ⟨?_,fun _=>?_,fun j k' q hij hk' hq=>?_⟩
  ·exact Int.emod_eq_zero_of_dvd (Int.dvd_trans (pow_dvd_pow2 (by omega)) (Int.dvd_of_emod_eq_zero g3'))
  ·have:(4:Int)=2 ^ 2:=rfl
   rw [this]
   exact Int.emod_eq_zero_of_dvd (Int.dvd_trans (pow_dvd_pow2 (by omega)) (Int.dvd_of_emod_eq_zero g3'))
  ·have hs:p+(sizeN S v k:Nat)=p+(blkC S v (k,a)).1:=by rw [x5];rfl
   rcases Nat.lt_or_ge j za.length with hj | hj
   ·obtain ⟨y,y1,y2,y3,y4,y5,y6⟩:=atA j k' q hj hk' hq
    rcases Nat.lt_or_ge i j with hlt | hge
    ·left;rw [hs];exact g4 j q hlt y4
    ·right
     obtain ⟨-,-,-,q4⟩:=LA j _ q y3 y4
     have hs2:q+(sizeN S v k':Nat)=q+(blkC S v y).1:=by rw [y5,<-y2];rfl
     rw [hs2];exact q4 i p (by omega) x4
   ·obtain ⟨y,y1,y2,y3,y4,y5,y6⟩:=atB j k' q hj hk' hq
    have r1:=ziel i _ p x3 x4
    have r2:=ziel2 _ _ q y3 y4
    have hs2:q+(sizeN S v k':Nat)=q+(blkD S y).1:=by rw [y5,<-y2];rfl
    rw [hs,hs2];omega
 ·obtain ⟨x,x1,x2,x3,x4,x5,x6⟩:=atB i k p hi hk hp
  obtain ⟨g1,g2,g3,g4⟩:=LB _ _ p x3 x4
  have hxa:x=(k,a):=by
   have hz:=hzl hk ha
   rw [ez,List.getElem?_append_right hi,x1] at hz;exact Option.some.inj hz
  subst hxa
  refine ⟨g3,fun hk1=>absurd hk1 x6,fun j k' q hij hk' hq=>?_⟩
  have hs:p+(sizeN S v k:Nat)=p+(blkD S (k,a)).1:=by rw [x5];rfl
  rcases Nat.lt_or_ge j za.length with hj | hj
  ·obtain ⟨y,y1,y2,y3,y4,y5,y6⟩:=atA j k' q hj hk' hq
   have r1:=ziel2 _ _ p x3 x4
   have r2:=ziel j _ q y3 y4
   have hs2:q+(sizeN S v k':Nat)=q+(blkC S v y).1:=by rw [y5,<-y2];rfl
   rw [hs,hs2];omega
  ·obtain ⟨y,y1,y2,y3,y4,y5,y6⟩:=atB j k' q hj hk' hq
   have hs2:q+(sizeN S v k':Nat)=q+(blkD S y).1:=by rw [y5,<-y2];rfl
   rcases Nat.lt_or_ge i j with hlt | hge
   ·left;rw [hs];exact g4 _ q (by omega) y4
   ·right
    obtain ⟨-,-,-,q4⟩:=LB _ _ q y3 y4
    rw [hs2];exact q4 _ p (by omega) x4
end
def DisjI (x y:Int × Int):Prop:=x.1+x.2<=y.1\/y.1+y.2<=x.1
theorem cnt_lt {v:List Vn} {i:Nat} {x:Vn} (hx:v[i]?=some x):cntV (v.take (i+1)) x.1=cntV (v.take i) x.1+1:=by
 rw [List.take_add_one,hx,Option.toList_some,cnt_app,cnt_one,if_pos rfl]
theorem cnt_mono {v:List Vn} {i j:Nat} (h:i<=j) (k:Int):cntV (v.take i) k<=cntV (v.take j) k:=by
 have e:v.take i=(v.take j).take i:=by rw [List.take_take,Nat.min_eq_left h]
 have e2:v.take j=(v.take j).take i ++ (v.take j).drop i:=(List.take_append_drop ..).symm
 rw [e]
 conv=>rhs;rw [e2]
 rw [cnt_app];omega
theorem cnt_all {v:List Vn} {i:Nat} {x:Vn} (hx:v[i]?=some x):cntV (v.take i) x.1+1<=cntV v x.1:=by
 have h1:=cnt_mono (v:=v) (show i+1<=v.length by have:=(List.getElem?_eq_some_iff.1 hx).1;omega) x.1
 rw [List.take_length,cnt_lt hx] at h1
 exact h1
def datI (S:List Sc) (x:Nat × Int):Option (Int × Int):=if lenN S x.1=0 then none else some (x.2,((lenN S x.1:Nat):Int))
section
variable {S:List Sc} {rep:List Int} {L:List Nat} {align:List Int} (h:LeftQ S rep L align) {v:List Vn} (hvr:rightV S L [] v=true) {t d st r:Int} (hg:Pl.goodB t d st r=true) (t0:0<=t) (d0:0<=d)
include h hvr
theorem ven_at {i:Nat} {x:Vn} (hx:v[i]?=some x):∃ (k ix:Nat) (p:Int),x.1=(k:Int)/\L[ix]?=some k/\(placesV S L align t d v)[ix]?=some p/\kindN S k=1/\(venL S L (placesV S L align t d v) v)[i]?=some (p+((endN S k+12*cntV (v.take i) (k:Int):Nat):Int))/\
  cntV (v.take i) (k:Int)+1<=cntV v (k:Int):=by
 have hc:=((rightV_of.1 hvr).2.1 x (List.mem_of_getElem? hx)).1
 unfold codeB standB at hc
 simp only [Bool.and_eq_true,decide_eq_true_eq] at hc
 obtain ⟨k,hk⟩:∃ k:Nat,x.1=(k:Int):=⟨x.1.toNat,by omega⟩
 rw [hk,Int.toNat_natCast] at hc
 have hil:=List.idxOf_lt_length_of_mem hc.1.2
 have hp:L.idxOf k < (placesV S L align t d v).length:=by rw [places_len S L align t d v h.al];exact hil
 refine ⟨k,L.idxOf k,_,hk,by rw [List.getElem?_eq_getElem hil,List.getElem_idxOf],List.getElem?_eq_getElem hp,hc.2,?_,by have:=cnt_all hx;rw [hk] at this;exact this⟩
 unfold venL
 rw [venR_at (S:=S) (live:=L) (P:=placesV S L align t d v) v [] i x hx,hk,List.nil_append]
 unfold plcN
 rw [Int.toNat_natCast,List.getElem?_eq_getElem hp];rfl
include hg t0 d0
theorem apart_all:((L.zip (placesV S L align t d v)).filterMap (datI S) ++ (venL S L (placesV S L align t d v) v).map (fun q=>(q,(12:Int)))).Pairwise DisjI:=by
 obtain ⟨v1,v2,v3⟩:=rightV_of.1 hvr
 have hal:∀ {i k:Nat},L[i]?=some k->∃ a,align[i]?=some a:=fun hk=>⟨_,List.getElem?_eq_getElem (by rw [h.al];exact (List.getElem?_eq_some_iff.1 hk).1)⟩
 have hsz:∀ k,k ∈ L->lenN S k<=sizeN S v k:=fun k hk=>by
  obtain ⟨e1,e2,e3⟩:=end_le h hk
  unfold sizeN;split <;> omega
 have hdat:∀ x ∈ (L.zip (placesV S L align t d v)).filterMap (datI S),∃ (i k:Nat) (p:Int),L[i]?=some k/\(placesV S L align t d v)[i]?=some p/\x=(p,((lenN S k:Nat):Int)):=fun x hx=>by
  obtain ⟨y,hy,e⟩:=List.mem_filterMap.1 hx
  obtain ⟨i,hi⟩:=List.getElem?_of_mem hy
  obtain ⟨a1,a2⟩:=List.getElem?_zip_eq_some.1 hi
  unfold datI at e
  split at e
  ·cases e
  ·exact ⟨i,y.1,y.2,a1,a2,(Option.some.inj e).symm⟩
 have hven:∀ x ∈ (venL S L (placesV S L align t d v) v).map (fun q=>(q,(12:Int))),∃ (j:Nat) (y:Vn),v[j]?=some y/\(venL S L (placesV S L align t d v) v)[j]?=some x.1/\x.2=12:=fun x hx=>by
  obtain ⟨q,hq,rfl⟩:=List.mem_map.1 hx
  obtain ⟨j,hj⟩:=List.getElem?_of_mem hq
  have hjl:j < v.length:=by have:=(List.getElem?_eq_some_iff.1 hj).1;unfold venL at this;rw [venR_len] at this;exact this
  exact ⟨j,v[j],List.getElem?_eq_getElem hjl,hj,rfl⟩
 rw [List.pairwise_append]
 refine ⟨?_,?_,fun x hx y hy=>?_⟩
 ·rw [List.pairwise_filterMap,List.pairwise_iff_getElem]
  intro i j hi hj hij a ha b hb
  obtain ⟨i1,i2⟩:=List.getElem?_zip_eq_some.1 (List.getElem?_eq_getElem hi)
  obtain ⟨j1,j2⟩:=List.getElem?_zip_eq_some.1 (List.getElem?_eq_getElem hj)
  unfold datI at ha hb
  split at ha
  ·cases ha
  split at hb
  ·cases hb
  obtain rfl:=Option.some.inj ha
  obtain rfl:=Option.some.inj hb
  obtain ⟨al,hal'⟩:=hal i1
  obtain ⟨-,-,-,g⟩:=place_at h v3 hg t0 d0 i1 hal' i2
  have h1:=hsz _ (List.mem_of_getElem? i1)
  have h2:=hsz _ (List.mem_of_getElem? j1)
  unfold DisjI
  simp only
  rcases g j _ _ (by omega) j1 j2 with g | g <;> omega
 ·rw [List.pairwise_map,List.pairwise_iff_getElem]
  intro i j hi hj hij
  have hil:i < v.length:=by unfold venL at hi;rw [venR_len] at hi;exact hi
  have hjl:j < v.length:=by unfold venL at hj;rw [venR_len] at hj;exact hj
  obtain ⟨k,ix,p,k1,k2,k3,k4,k5,k6⟩:=ven_at h hvr (t:=t) (d:=d) (List.getElem?_eq_getElem hil)
  obtain ⟨k',ix',p',l1,l2,l3,l4,l5,l6⟩:=ven_at h hvr (t:=t) (d:=d) (List.getElem?_eq_getElem hjl)
  rw [List.getElem?_eq_getElem hi] at k5
  rw [List.getElem?_eq_getElem hj] at l5
  rw [Option.some.inj k5,Option.some.inj l5]
  unfold DisjI
  simp only
  by_cases e:ix=ix'
  ·subst e
   obtain rfl:k=k':=by rw [k2] at l2;exact Option.some.inj l2
   obtain rfl:p=p':=by rw [k3] at l3;exact Option.some.inj l3
   have h1:=cnt_lt (List.getElem?_eq_getElem hil)
   have h2:=cnt_mono (v:=v) (show i+1<=j by omega) (v[i]).1
   rw [h1,k1] at h2
   left;omega
  ·obtain ⟨al,hal'⟩:=hal k2
   obtain ⟨-,-,-,g⟩:=place_at h v3 hg t0 d0 k2 hal' k3
   have s1:sizeN S v k=endN S k+12*cntV v k:=by unfold sizeN;rw [if_pos k4]
   have s2:sizeN S v k'=endN S k'+12*cntV v k':=by unfold sizeN;rw [if_pos l4]
   rcases g ix' _ _ e l2 l3 with g | g <;> omega
 ·obtain ⟨i,k,p,i1,i2,rfl⟩:=hdat x hx
  obtain ⟨j,z,hz,hq,hy2⟩:=hven y hy
  obtain ⟨k',ix',p',l1,l2,l3,l4,l5,l6⟩:=ven_at h hvr (t:=t) (d:=d) hz
  rw [l5] at hq
  obtain ⟨y1,y2⟩:=y
  simp only at hq hy2
  subst hy2
  rw [<-Option.some.inj hq]
  unfold DisjI
  simp only
  by_cases e:i=ix'
  ·subst e
   obtain rfl:k=k':=by rw [i1] at l2;exact Option.some.inj l2
   obtain rfl:p=p':=by rw [i2] at l3;exact Option.some.inj l3
   obtain ⟨e1,e2,e3⟩:=end_le h (List.mem_of_getElem? i1)
   left;omega
  ·obtain ⟨al,hal'⟩:=hal i1
   obtain ⟨-,-,-,g⟩:=place_at h v3 hg t0 d0 i1 hal' i2
   have s2:sizeN S v k'=endN S k'+12*cntV v k':=by unfold sizeN;rw [if_pos l4]
   have h1:=hsz _ (List.mem_of_getElem? i1)
   rcases g ix' _ _ e l2 l3 with g | g <;> omega
end
end Go.Proofs.YtobdldadfipcgaaGreatDoor
namespace Go.Proofs.YtobdldadfipcgaaGreatDoor
open Go.ChangeShapes Go.WideShapes Go.Deep Go.RowKit
open Go.Proofs.YtobdldadfipcgaaGreatDoor.Pl (Bk layL layS upS nearB)
abbrev Ky:=Nat × Int × List UInt8
def DisjY (x y:Ky):Prop:=x.1+x.2.2.length<=y.1\/y.1+y.2.2.length<=x.1
def dataY (S:List Sc) (k:Nat):List UInt8:=match S[k]? with | some s=>s.data | none=>[]
theorem dataY_len (S:List Sc) (k:Nat):(dataY S k).length=lenN S k:=by unfold dataY lenN;cases S[k]? <;> rfl
def datY (S:List Sc) (x:Nat × Int):Option Ky:=if lenN S x.1=0 then none else some (x.2.toNat,1,dataY S x.1)
def regsY (S:List Sc) (L:List Nat) (P:List Int):List Ky:=(L.zip P).filterMap (datY S)
def vtext:List UInt8:=[49,50,51,52,53,54,55,56,57,97,98,99]
def vensY (Q:List Int):List Ky:=Q.map (fun q=>(q.toNat,1,vtext))
def lowY (x:Ky):Int × Int:=((x.1:Int),(x.2.2.length:Int))
theorem regsY_step {S:List Sc} {L:List Nat} {P:List Int} {k x:Nat} {p:Int} (h1:L[k]?=some x) (h2:P[k]?=some p):
  regsY S (L.take (k+1)) (P.take (k+1))=regsY S (L.take k) (P.take k) ++ (if lenN S x=0 then [] else [(p.toNat,1,dataY S x)]):=by
 have l1:=(List.getElem?_eq_some_iff.1 h1).1
 have l2:=(List.getElem?_eq_some_iff.1 h2).1
 unfold regsY
 rw [List.take_add_one,List.take_add_one,h1,h2,Option.toList_some,Option.toList_some,List.zip_append (by rw [List.length_take,List.length_take];omega),List.filterMap_append]
 congr 1
 show (List.filterMap (datY S) [(x,p)])=_
 unfold datY
 by_cases e:lenN S x=0
 ·simp [e]
 ·simp [e]
theorem regsY_len (S:List Sc) (L:List Nat) (P:List Int):(regsY S L P).length<=L.length:=by
 unfold regsY
 have h1:=List.length_filterMap_le (datY S) (L.zip P)
 rw [List.length_zip] at h1
 omega
theorem fm_congr {α β:Type} {f g:α->Option β}:∀ {l:List α},(∀ x ∈ l,f x=g x)->l.filterMap f=l.filterMap g
 | [],_=>rfl
 | a :: t,h=>by rw [List.filterMap_cons,List.filterMap_cons,h a (List.mem_cons_self ..),fm_congr (fun x hx=>h x (List.mem_cons_of_mem _ hx))]
theorem regsY_low {S:List Sc} {L:List Nat} {P:List Int} (h:∀ p ∈ P,0<=p):(regsY S L P).map lowY=(L.zip P).filterMap (datI S):=by
 unfold regsY
 rw [List.map_filterMap]
 refine fm_congr fun x hx=>?_
 have hp:=h x.2 (List.of_mem_zip hx).2
 unfold datY datI
 by_cases e:lenN S x.1=0
 ·rw [if_pos e,if_pos e];rfl
 ·rw [if_neg e,if_neg e]
  show some (lowY _)=_
  unfold lowY
  rw [dataY_len]
  rw [show ((x.2.toNat:Nat):Int)=x.2 from by omega]
theorem vensY_low {Q:List Int} (h:∀ q ∈ Q,0<=q):(vensY Q).map lowY=Q.map (fun q=>(q,(12:Int))):=by
 unfold vensY
 rw [List.map_map]
 refine List.map_congr_left fun q hq=>?_
 have:=h q hq
 show lowY _=_
 unfold lowY vtext
 simp only [Prod.mk.injEq]
 exact ⟨by omega,rfl⟩
section
variable {S:List Sc} {rep:List Int} {L:List Nat} {align:List Int} (h:LeftQ S rep L align) {v:List Vn} (hvr:rightV S L [] v=true) {t d st r:Int} (hg:Pl.goodB t d st r=true) (t0:0<=t) (d0:0<=d)
include h hvr hg t0 d0
theorem place_lim:∀ p ∈ placesV S L align t d v,0<=p/\p<=2305843009218936832:=by
 intro p hp
 have hgg:=hg
 unfold Pl.goodB Pl.evB Pl.apB at hgg
 simp only [Bool.and_eq_true,decide_eq_true_eq] at hgg
 obtain ⟨⟨⟨⟨-,e1⟩,⟨-,e2⟩,-⟩,e3,-⟩,-⟩:=hgg
 obtain ⟨v1,v2,hv⟩:=rightV_of.1 hvr
 have hl:=parts_len S v (L.zip align)
 have hz:(L.zip align).length<=256:=by rw [List.length_zip];have:=h.n256;omega
 rcases List.mem_append.1 hp with hp | hp
 ·have:=layL_bd _ _ (vtx_ok h hv) t0 (by omega) p hp;omega
 ·have:=layL_bd _ _ (vdat_ok h) d0 (by omega) p hp;omega
theorem ven_gap {i:Nat} {x:Vn} {k ix:Nat} {p q:Int} (hx:v[i]?=some x) (hk:x.1=(k:Int)) (hL:L[ix]?=some k) (hp:(placesV S L align t d v)[ix]?=some p) (hq:(venL S L (placesV S L align t d v) v)[i]?=some q):
  p+lenN S k<=q/\q - (p+lenN S k)<=771/\q % 4=0:=by
 obtain ⟨k',ix',p',k1,k2,k3,k4,k5,k6⟩:=ven_at h hvr (t:=t) (d:=d) hx
 obtain rfl:k'=k:=by omega
 have hix:ix'=ix:=by
  obtain ⟨a1,a2⟩:=List.getElem?_eq_some_iff.1 k2
  obtain ⟨b1,b2⟩:=List.getElem?_eq_some_iff.1 hL
  rw [<-h.nd.idxOf_getElem ix' a1,<-h.nd.idxOf_getElem ix b1,a2,b2]
 subst hix
 rw [hp] at k3
 obtain rfl:=Option.some.inj k3
 rw [hq] at k5
 rw [Option.some.inj k5]
 obtain ⟨v1,v2,v3⟩:=rightV_of.1 hvr
 obtain ⟨al,ha⟩:∃ a,align[ix']?=some a:=⟨_,List.getElem?_eq_getElem (by rw [h.al];exact (List.getElem?_eq_some_iff.1 hL).1)⟩
 obtain ⟨-,-,g,-⟩:=place_at h v3 hg t0 d0 hL ha hp
 have g4:=g k4
 obtain ⟨e1,e2,e3⟩:=end_le h (List.mem_of_getElem? hL)
 have e4:endN S k' % 4=0:=by unfold endN;omega
 have h64:=v3 (k':Int)
 omega
theorem ven_lim:∀ q ∈ venL S L (placesV S L align t d v) v,0<=q/\q<=2305843009218941963:=by
 intro q hq
 obtain ⟨i,hi⟩:=List.getElem?_of_mem hq
 have hil:i < v.length:=by have:=(List.getElem?_eq_some_iff.1 hi).1;unfold venL at this;rw [venR_len] at this;exact this
 obtain ⟨k,ix,p,k1,k2,k3,k4,k5,k6⟩:=ven_at h hvr (t:=t) (d:=d) (List.getElem?_eq_getElem hil)
 rw [hi] at k5
 rw [Option.some.inj k5]
 have hp:=place_lim h hvr hg t0 d0 p (List.mem_of_getElem? k3)
 obtain ⟨e1,e2,e3⟩:=end_le h (List.mem_of_getElem? k2)
 have h64:=(rightV_of.1 hvr).2.2 (k:Int)
 omega
theorem regs_apart:(regsY S L (placesV S L align t d v) ++ vensY (venL S L (placesV S L align t d v) v)).Pairwise DisjY:=by
 have h1:=apart_all h hvr hg t0 d0
 rw [<-regsY_low (fun p hp=>(place_lim h hvr hg t0 d0 p hp).1),<-vensY_low (fun q hq=>(ven_lim h hvr hg t0 d0 q hq).1),<-List.map_append,List.pairwise_map] at h1
 refine h1.imp fun {x y} hd=>?_
 unfold DisjI lowY at hd
 simp only at hd
 unfold DisjY
 omega
theorem regs_good:∀ x ∈ regsY S L (placesV S L align t d v) ++ vensY (venL S L (placesV S L align t d v) v),x.1<=4611686018427387904/\x.2.1=1/\1<=x.2.2.length/\x.2.2.length<=65536:=by
 intro x hx
 rcases List.mem_append.1 hx with hx | hx
 ·unfold regsY at hx
  obtain ⟨y,hy,e⟩:=List.mem_filterMap.1 hx
  obtain ⟨y1,y2⟩:=List.of_mem_zip hy
  have hp:=place_lim h hvr hg t0 d0 y.2 y2
  obtain ⟨e1,e2,e3⟩:=end_le h y1
  unfold datY at e
  split at e
  ·cases e
  ·rename_i hn
   obtain rfl:=Option.some.inj e
   have:=dataY_len S y.1
   simp only
   exact ⟨by omega,trivial,by omega,by omega⟩
 ·unfold vensY at hx
  obtain ⟨q,hq,rfl⟩:=List.mem_map.1 hx
  have hp:=ven_lim h hvr hg t0 d0 q hq
  simp only
  exact ⟨by omega,trivial,by decide,by decide⟩
end
end Go.Proofs.YtobdldadfipcgaaGreatDoor
