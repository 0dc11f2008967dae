/- veneer, the document's answer: its small functions. veneer, the document's answer: may veneers be so? veneer, the document's answer: pages, and one that is to be laid. place, the document: Up, Lay. veneer, the document's answer: where all is laid. -/
import Derived.Test.YtiohgaghmnpplaaGreatDoorqA
import Derived.Test.YtiohgaghmnpplaaGreatDoorx7
set_option maxRecDepth 100000
set_option maxHeartbeats 6000000
set_option linter.unusedVariables false
set_option linter.unusedSimpArgs false
namespace Go.Proofs.YtiohgaghmnpplaaGreatDoor
section
open Go.ChangeShapes Go.WideShapes Go.Deep Go.RowKit
open Go.Proofs.YtiohgaghmnpplaaGreatDoor.Pl (encU encU_len)
theorem idx_at {α:Type}[DecidableEq α]{l:List α}{x:α}{k:Nat}(hk:k<l.length)(h:l[k]=x)(hn:x∉l.take k):l.idxOf x=k:=by
 have e:l=l.take k++l.drop k:=(List.take_append_drop ..).symm;rw[e,List.idxOf_append,if_neg hn,List.drop_eq_getElem_cons hk,h,List.idxOf_cons_self,List.length_take];omega
theorem not_take {α:Type}[DecidableEq α]{l:List α}{x:α}{k:Nat}(hk:k<l.length)(h:l[k]≠x)(hn:x∉l.take k):x∉l.take (k+1):=by
 rw[List.take_succ_eq_append_getElem hk,List.mem_append];rintro(h1|h1)
 ·exact hn h1
 ·exact h (List.mem_singleton.1 h1).symm
def kF (live:List Int)(x:Int):Int:=if x∈live then(live.idxOf x:Int)else -1
theorem oQ (ra:Option Addr)(rn rc:Nat)(la:Option Addr)(ln lc:Nat)(aa:Option Addr)(an ac:Nat)(live:List Int)(x:Int)(w:World)(hl:SL dT 1 w w.heap.size la ln live)(hn:ln<=1000000):
  Calls Tryz.prog 45 #[.agg #[.slice ra rn rc,.slice la ln lc,.slice aa an ac],.int .i64 x] w (aP (.int .i64 (kF live x)) w):=by
 have HL:=aH hl;have HN:=aH hl.len;obtain⟨X,hX⟩:=aE w.heap.size;obtain⟨W,hW⟩:=aE (w.alloc (.cells #[.slice ra rn rc,.slice la ln lc,.slice aa an ac] 25));have HB:Hid (Below w.heap.size w W):=aH (by rw[hW];exact aC _ _);have HK:Hid (RB W X #[.slice ra rn rc,.slice la ln lc,.slice aa an ac] 25):=aH (by rw[hW,hX];exact aQ _ _ _);have HWe:=aH hW.symm;have HXe:=aH hX.symm;clear hW hX hl;go_enter Tryz.func45,Tryz.ntmps45;go_wp2_with fail
 rw[HWe.out,HXe.out];go_loopw [5] (fun i wr=>∃(k:Nat) (wx:World),wx=wr/\k<=ln/\i=.int .i64 k/\Hid (x∉live.take k)/\Hid (Below W.heap.size W wx)) (fun i _=>ln-(intOf i).toNat)
 case atStart=>exact⟨0,_,rfl,by omega,rfl,aH (by simp),aH (Below.refl _ _)⟩
 case round=>
  obtain⟨k,wx,rfl,hk,rfl,HT,HBx⟩:=hrel;have k1:wx.cell? ⟨X,1,none⟩=some (.slice la ln lc):=(HK.out.next HBx.out).cell;by_cases hlt:k<ln
  ·have hk1:k<live.length:=by have:=HN.out;omega
   have hki:(k:Int)<(ln:Int):=by omega
   obtain⟨b,off,rfl,hB,hc⟩:=(HL.out.next (after HB.out HBx.out)).cells (by intro e;rw[e]at hk1;simp at hk1);have c0:=hc k hk1 0 (by simp[dT]);obtain⟨y,hy⟩:=aE (live[k]);rw[<-hy]at c0;simp only[dT,Nat.add_zero,Nat.mul_one,List.getElem?_cons_zero]at c0;have HY:=aH hy;clear hc hy hB;by_cases e:y=x
   ·have hb2:(y==x)=true:=by simp[e]
    have HR:Hid (kF live x=(k:Int)):=aH (by
     unfold kF;rw[if_pos (by rw[<-e,HY.out];exact List.getElem_mem _),idx_at hk1 (by rw[<-HY.out,e]) HT.out])
    clear e;go_wp2_with fail
    go_ret;exact⟨by rw[HR.out];rfl,after HB.out HBx.out⟩
   ·have hb2:(y==x)=false:=by simp[e]
    have HT2:=aH (not_take hk1 (by rw[<-HY.out];exact e) HT.out);clear e;go_wp2_with fail
    go_roundw
    case rel=>exact⟨k+1,_,rfl,by omega,by go_num,HT2,HBx⟩
    case measure=>simp[intOf];omega
  ·have hge:¬(k:Int)<(ln:Int):=by omega
   have HR:Hid (kF live x= -1):=aH (by
    unfold kF;rw[if_neg (by have:=HT.out;rwa[List.take_of_length_le (by have:=HN.out;omega)]at this)])
   go_wp2_with fail
   go_ret;exact⟨by rw[HR.out];rfl,after HB.out HBx.out⟩
theorem rup_any (n:Nat)(w:World)(hn:n<=1000000):Calls Tryz.prog 62 #[.int .i64 n] w (bQ (.int .i64 ((n+3)/4*4:Nat)) w):=by
 have h1:wrap64 ((n:Int)+3)=(n:Int)+3:=by unfold wrap64;omega
 have h2:((n:Int)+3).tdiv 4=(((n+3)/4:Nat):Int):=by rw[Int.tdiv_eq_ediv_of_nonneg (by omega)];omega
 have h3:wrap64 ((((n+3)/4:Nat):Int))=(((n+3)/4:Nat):Int):=by unfold wrap64;omega
 have h4:wrap64 ((((n+3)/4:Nat):Int)*4)=(((n+3)/4*4:Nat):Int):=by unfold wrap64;omega
 go_enter Tryz.func62,Tryz.ntmps62;go_wp2;go_ret;refine⟨?_,rfl⟩;show Ending.returned (.int .i64 (((n:Int)+3)/4*4))=_
 rw[show(((n:Int)+3)/4*4)=(((n+3)/4*4:Nat):Int)from by omega]
theorem rhas_any (a:Option Addr)(n c:Nat)(l:List Vn)(x:Vn)(w:World)(hn:n<=1000000)(h:SL gB 3 w w.heap.size a n l):
  Calls Tryz.prog 64 #[.slice a n c,.agg #[.int .i64 x.1,.int .i64 x.2.1,.int .i64 x.2.2]] w (aP (.bool (decide (x ∈ l))) w):=by
 have HL:=aH h;have HN:=aH h.len;obtain⟨X,hX⟩:=aE w.heap.size;obtain⟨W,hW⟩:=aE (w.alloc (.cells #[.int .i64 x.1,.int .i64 x.2.1,.int .i64 x.2.2] 80));have HB:Hid (Below w.heap.size w W):=aH (by rw[hW];exact aC _ _);have HK:Hid (RB W X #[.int .i64 x.1,.int .i64 x.2.1,.int .i64 x.2.2] 80):=aH (by rw[hW,hX];exact aQ _ _ _);have HWe:=aH hW.symm;have HXe:=aH hX.symm;clear hW hX h;go_enter Tryz.func64,Tryz.ntmps64;go_wp2_with fail
 rw[HWe.out,HXe.out];go_loopw [5] (fun i wr=>∃(k:Nat) (wx:World),wx=wr/\k<=n/\i=.int .i64 k/\Hid (x∉l.take k)/\Hid (Below W.heap.size W wx)) (fun i _=>n-(intOf i).toNat)
 case atStart=>exact⟨0,_,rfl,by omega,rfl,aH (by simp),aH (Below.refl _ _)⟩
 case round=>
  obtain⟨k,wx,rfl,hk,rfl,HT,HBx⟩:=hrel;have k0:wx.cell? ⟨X,0,none⟩=some (.int .i64 x.1):=(HK.out.next HBx.out).cell;have k1:wx.cell? ⟨X,1,none⟩=some (.int .i64 x.2.1):=(HK.out.next HBx.out).cell;have k2:wx.cell? ⟨X,2,none⟩=some (.int .i64 x.2.2):=(HK.out.next HBx.out).cell;by_cases hlt:k<n
  ·have hk1:k<l.length:=by have:=HN.out;omega
   have hki:(k:Int)<(n:Int):=by omega
   obtain⟨b,off,rfl,hB,hc⟩:=(HL.out.next (after HB.out HBx.out)).cells (by intro e;rw[e]at hk1;simp at hk1);obtain⟨c0,c1,c2⟩:=fI (off:=off) (k:=k) (x:=l[k]) (fun j hj=>hc k hk1 j hj);obtain⟨y,hy⟩:=aE (l[k]);rw[<-hy]at c0 c1 c2;have heq:=eq_vn y x;have HY:=aH hy;clear hc hy hB;by_cases e:y=x
   ·have hb2:decide (y=x)=true:=decide_eq_true e;have HR:Hid (decide (x ∈ l)=true):=aH (decide_eq_true (by rw [<-e,HY.out];exact List.getElem_mem _));clear e;go_wp2_with fail
    go_quiet (fail);go_wp2_with fail
    go_ret;exact⟨by rw[HR.out];rfl,after HB.out (below_drewN HBx.out _)⟩
   ·have hb2:decide (y=x)=false:=decide_eq_false e;have HT2:=aH (not_take hk1 (by rw[<-HY.out];exact e) HT.out);clear e;go_wp2_with fail
    go_quiet (fail);go_wp2_with fail
    go_roundw
    case rel=>exact⟨k+1,_,rfl,by omega,by go_num,HT2,aH (below_drewN HBx.out _)⟩
    case measure=>simp[intOf];omega
  ·have hge:¬(k:Int)<(n:Int):=by omega
   have HR:Hid (decide (x ∈ l)=false):=aH (decide_eq_false (by have:=HT.out;rwa [List.take_of_length_le (by have:=HN.out;omega)] at this));go_wp2_with fail
   go_ret;exact⟨by rw[HR.out];rfl,after HB.out HBx.out⟩
theorem map_mem {L:List Nat}{x:Int}:x∈L.map Int.ofNat↔0<=x/\x.toNat∈L:=by
 rw[List.mem_map];constructor
 ·rintro⟨k,hk,rfl⟩;exact⟨Int.natCast_nonneg _,hk⟩
 ·rintro⟨h1,h2⟩;exact⟨x.toNat,h2,by show((x.toNat:Nat):Int)=x;omega⟩
theorem live_no {L:List Nat}{x:Int}(h:bC L x=false):kF (L.map Int.ofNat) x= -1:=by
 unfold kF;rw[if_neg (by rw[map_mem];rintro⟨h1,h2⟩;unfold bC at h;simp[h1,h2]at h)]
theorem idx_map {L:List Nat}{k:Nat}:(L.map Int.ofNat).idxOf (k:Int)=L.idxOf k:=by
 induction L with
 |nil=>rfl
 |cons a t ih=>
  rw[List.map_cons,List.idxOf_cons,List.idxOf_cons,ih];by_cases e:a=k
  ·have h1:(Int.ofNat a==(k:Int))=true:=by rw[e];exact beq_self_eq_true (k:Int)
   rw[h1,show(a==k)=true from by rw[e];exact beq_self_eq_true k]
  ·have h1:(Int.ofNat a==(k:Int))=false:=beq_eq_false_iff_ne.2 (fun h=>e (Int.ofNat.inj h));rw[h1,show(a==k)=false from beq_eq_false_iff_ne.2 e]
theorem lV {L:List Nat}{x:Int}(h:bC L x=true):kF (L.map Int.ofNat) x=((L.idxOf x.toNat:Nat):Int):=by
 unfold bC at h;simp only[Bool.and_eq_true,decide_eq_true_eq]at h;unfold kF;rw[if_pos (map_mem.2 h)];obtain⟨k,hk⟩:∃k:Nat,x=(k:Int):=⟨x.toNat,by omega⟩;rw[hk,Int.toNat_natCast,idx_map]
theorem rveneers_any (ua:Option Addr)(n uc:Nat)(ra:Option Addr)(rn rc:Nat)(la:Option Addr)(ln lc:Nat)(aa:Option Addr)(an ac:Nat)(va:Option Addr)(vn vc:Nat)(Lm:List Ms)(S:List Sc)(L:List Nat)(v:List Vn)(w:World)(hS:S=Lm.map (·.sc))
  (hs:SL mX 6 w w.heap.size ua n Lm) (hl:SL dT 1 w w.heap.size la ln (L.map Int.ofNat)) (hlt:∀x∈L,x<n) (hln:ln<=1000000) (hn:n<=1000000) (hv:SL gB 3 w w.heap.size va vn v) (hvn:vn<=100000):
  Calls Tryz.prog 44 #[.slice ua n uc,.agg #[.slice ra rn rc,.slice la ln lc,.slice aa an ac],.slice va vn vc] w (aP (.bool (aX S L [] v)) w):=by
 have HRl:Hid (∀u x,Below w.heap.size w u->Calls Tryz.prog 45 #[.agg #[.slice ra rn rc,.slice la ln lc,.slice aa an ac],.int .i64 x] u (aP (.int .i64 (kF (L.map Int.ofNat) x)) u)):=aH fun u x hu=>oQ ra rn rc la ln lc aa an ac _ x u (hl.next hu) hln
 have HV:=aH hv;have HVl:Hid (v.length=vn):=aH hv.len.symm;have HVn:=aH hvn;have HSs:=aH hs;have HSe:=aH hS;have HLt:=aH hlt;obtain⟨X,hX⟩:=aE w.heap.size;obtain⟨W,hW⟩:=aE (w.alloc (.cells #[.slice ra rn rc,.slice la ln lc,.slice aa an ac] 25));have HB:Hid (Below w.heap.size w W):=aH (by rw[hW];exact aC _ _);have HK:Hid (RB W X #[.slice ra rn rc,.slice la ln lc,.slice aa an ac] 25):=aH (by rw[hW,hX];exact aQ _ _ _);have HWe:=aH hW.symm;have HXe:=aH hX.symm;clear hW hX hS hs hl hlt hln hn hv hvn;go_enter Tryz.func44,Tryz.ntmps44;go_wp2_with fail
 rw[HWe.out,HXe.out];go_loopw [7] (fun i wr=>∃(k:Nat) (wx:World),wx=wr/\k<=vn/\i=.int .i64 k/\Hid (aX S L (v.take k) (v.drop k)=aX S L [] v)/\Hid (Below W.heap.size W wx)) (fun i _=>vn-(intOf i).toNat)
 case atStart=>exact⟨0,_,rfl,by omega,rfl,aH rfl,aH (Below.refl _ _)⟩
 case round=>
  obtain⟨k,wx,rfl,hk,rfl,HR,HBx⟩:=hrel;by_cases hlt:k<vn
  ·have hlti:(k:Int)<(vn:Int):=by omega
   have HLT:=aH hlt;have HWk:Hid (wrap64 ((k:Int)+1)=(k:Int)+1):=aH (by have:=HVn.out;unfold wrap64;omega);have hkl:k<v.length:=by rw[HVl.out];exact hlt
   obtain⟨x,hx⟩:=aG (l:=v) (i:=k) hkl;obtain⟨vb,vo,hva,-,-⟩:=HV.out.cells (by intro e;rw[e]at hkl;simp at hkl);subst hva;have HVc:Hid (∀(u:World) (q:Nat) (y:Vn),Below w.heap.size w u->v[q]?=some y->u.cell? ⟨vb,vo+q*3,none⟩=some (.int .i64 y.1)/\u.cell? ⟨vb,vo+q*3+1,none⟩=some (.int .i64 y.2.1)/\u.cell? ⟨vb,vo+q*3+2,none⟩=some (.int .i64 y.2.2)):=aH fun u q y hu hq=>by
    obtain⟨b,o,e,-,hc⟩:=(HV.out.next hu).cells (by intro e;rw[e]at hkl;simp at hkl);cases e
    exact fI (off:=vo) (k:=q) (x:=y) (fun j hj=>by have h1:=hc q (eX hq).1 j hj;rw[(eX hq).2]at h1;exact h1)
   have HN1:=aH (right_snoc hx HR.out);have HTk:Hid (v.take (k+1)=v.take k++ [x]):=aH (by rw[List.take_add_one,hx];rfl);have HXk:=aH hx;clear hx hkl hk hlt HR;obtain⟨se,tt,ad⟩:=x;by_cases hc:bC L se=true;rotate_left
   ·have hcf:bC L se=false:=by cases h:bC L se;rfl;exact absurd h hc
    have HF:Hid (aX S L [] v=false):=aH (by rw[<-HN1.out,if_pos (.inr (.inl (by unfold eF;rw[hcf];rfl)))]);have HL1:=aH (live_no hcf);clear hc hcf;go_wp2_with fail
    obtain⟨V,hV,hT⟩:=aD wx;have HBV:=aH (after HBx.out hT);have HcS:Hid (∀v',Below W.heap.size W v'->v'.cell? ⟨X,0,none⟩=some (.slice ra rn rc)/\v'.cell? ⟨X,1,none⟩=some (.slice la ln lc)/\v'.cell? ⟨X,2,none⟩=some (.slice aa an ac)/\v'.cell? ⟨vb,vo+k*3,none⟩=some (.int .i64 se)/\v'.cell? ⟨vb,vo+k*3+1,none⟩=some (.int .i64 tt)/\True/\True):=aH fun v' h1=>⟨(HK.out.next h1).cell,(HK.out.next h1).cell,(HK.out.next h1).cell,(HVc.out v' k _ (after HB.out h1) HXk.out).1,(HVc.out v' k _ (after HB.out h1) HXk.out).2.1,trivial,trivial⟩
    have hS0:=HcS.out V HBV.out;refine aR hV HcS.out HBV.out ?_;clear hV hT;iterate 6 refine aN _ rfl hS0 ?_
    refine rd 6 rfl (fun K hK=>?_);go_simp;refine(HRl.out V se (after HB.out HBV.out)).mono ?_;rintro e u1 ⟨rfl,hb1⟩;rw[HL1.out];have HB1:=aH (after HBV.out hb1);have hS1:=HcS.out u1 HB1.out;refine hK.out _ _ hS1 (fun hX9=>?_);clear hK K hX9 hb1 hS0;refine aI 7 (.bool true) rfl hS1 ?_;refine aI 8 (.bool true) rfl hS1 ?_;iterate 8 refine aO rfl hS1 ?_
    refine aI 17 (.bool true) rfl hS1 ?_;refine aI 18 (.bool true) rfl hS1 ?_;iterate 10 refine aO rfl hS1 ?_
    refine aI 29 (.bool true) rfl hS1 ?_;refine wpAnyH_done (by kernel_rfl) ?_ _;clear hS1;go_simp;go_wp2_with fail
    go_ret;exact⟨by rw[HF.out];rfl,after HB.out HB1.out⟩
   have hse:=hc;unfold bC at hse;simp only[Bool.and_eq_true,decide_eq_true_eq]at hse;obtain⟨hse0,hseL⟩:=hse;obtain⟨ks,hks⟩:∃ks:Nat,se=(ks:Int):=⟨se.toNat,by omega⟩;subst hks;rw[Int.toNat_natCast]at hseL;obtain⟨i1,hi1⟩:∃i1:Nat,kF (L.map Int.ofNat) (ks:Int)=(i1:Int):=⟨_,lV hc⟩;have HL1:=aH hi1;have hn1:¬((i1:Int)<0):=by omega
   have HCs:=aH hc;clear hi1 hc hse0;by_cases hd:bC L tt=true;rotate_left
   ·have hdf:bC L tt=false:=by cases h:bC L tt;rfl;exact absurd h hd
    have HF:Hid (aX S L [] v=false):=aH (by rw[<-HN1.out,if_pos (.inr (.inr hdf))]);have HL2:=aH (live_no hdf);clear hd hdf;go_wp2_with fail
    obtain⟨V,hV,hT⟩:=aD wx;have HBV:=aH (after HBx.out hT);have HcS:Hid (∀v',Below W.heap.size W v'->v'.cell? ⟨X,0,none⟩=some (.slice ra rn rc)/\v'.cell? ⟨X,1,none⟩=some (.slice la ln lc)/\v'.cell? ⟨X,2,none⟩=some (.slice aa an ac)/\v'.cell? ⟨vb,vo+k*3,none⟩=some (.int .i64 (ks:Int))/\v'.cell? ⟨vb,vo+k*3+1,none⟩=some (.int .i64 tt)/\True/\True):=aH fun v' h1=>⟨(HK.out.next h1).cell,(HK.out.next h1).cell,(HK.out.next h1).cell,(HVc.out v' k _ (after HB.out h1) HXk.out).1,(HVc.out v' k _ (after HB.out h1) HXk.out).2.1,trivial,trivial⟩
    have hS0:=HcS.out V HBV.out;refine aR hV HcS.out HBV.out ?_;clear hV hT;iterate 6 refine aN _ rfl hS0 ?_
    refine rd 6 rfl (fun K hK=>?_);go_simp;refine(HRl.out V (ks:Int) (after HB.out HBV.out)).mono ?_;rintro e u1 ⟨rfl,hb1⟩;rw[HL1.out];have HB1:=aH (after HBV.out hb1);have hS1:=HcS.out u1 HB1.out;refine hK.out _ _ hS1 (fun hX9=>?_);clear hK K hX9 hb1 hS0;refine aI 7 (.bool false) rfl hS1 ?_;refine aI 8 (.bool false) rfl hS1 ?_;iterate 6 refine aN _ rfl hS1 ?_
    refine rd 15 rfl (fun K hK=>?_);go_simp;refine(HRl.out u1 tt (after HB.out HB1.out)).mono ?_;rintro e u2 ⟨rfl,hb2⟩;rw[HL2.out];have HB2:=aH (after HB1.out hb2);have hS2:=HcS.out u2 HB2.out;refine hK.out _ _ hS2 (fun hX9=>?_);clear hK K hX9 hb2 hS1;refine aI 16 (.bool true) rfl hS2 ?_;refine aI 17 (.bool true) rfl hS2 ?_;refine aI 18 (.bool true) rfl hS2 ?_;iterate 10 refine aO rfl hS2 ?_
    refine aI 29 (.bool true) rfl hS2 ?_;refine wpAnyH_done (by kernel_rfl) ?_ _;clear hS2;go_simp;go_wp2_with fail
    go_ret;exact⟨by rw[HF.out];rfl,after HB.out HB2.out⟩
   obtain⟨i2,hi2⟩:∃i2:Nat,kF (L.map Int.ofNat) tt=(i2:Int):=⟨_,lV hd⟩;have HL2:=aH hi2;have hn2:¬((i2:Int)<0):=by omega
   have HDs:=aH hd;clear hi2 hd;have hkn:ks<n:=HLt.out ks hseL;have hki:(ks:Int)<(n:Int):=by omega
   obtain⟨m2,hm⟩:=aG (l:=Lm) (i:=ks) (by have h9:=HSs.out.len;omega);obtain⟨ub,uo,hua,-,-⟩:=HSs.out.cells (by intro e;rw[e]at hm;cases hm);subst hua;obtain⟨kd,hkd⟩:=aE m2.sc.kind;have hkin:bG S ks=kd:=by unfold bG;rw[HSe.out,List.getElem?_map,hm,hkd];rfl
   have HKd:Hid (∀u,Below w.heap.size w u->u.cell? ⟨ub,uo+ks*6+1,none⟩=some (.int .i64 kd)):=aH fun u hu=>by rw[hkd];exact(cO HSs.out hu hm).2.1
   have HKi:=aH hkin;clear hm hkd hkin hseL;by_cases hk1:kd=1;rotate_left
   ·have HF:Hid (aX S L [] v=false):=aH (by rw[<-HN1.out,if_pos (.inr (.inl (by unfold eF;rw[HCs.out,Int.toNat_natCast,HKi.out,decide_eq_false hk1];rfl)))]);have hk2:(kd !=1)=true:=by simp[hk1]
    clear hk1;go_wp2_with fail
    obtain⟨V,hV,hT⟩:=aD wx;have HBV:=aH (after HBx.out hT);have HcS:Hid (∀v',Below W.heap.size W v'->v'.cell? ⟨X,0,none⟩=some (.slice ra rn rc)/\v'.cell? ⟨X,1,none⟩=some (.slice la ln lc)/\v'.cell? ⟨X,2,none⟩=some (.slice aa an ac)/\v'.cell? ⟨vb,vo+k*3,none⟩=some (.int .i64 (ks:Int))/\v'.cell? ⟨vb,vo+k*3+1,none⟩=some (.int .i64 tt)/\v'.cell? ⟨ub,uo+ks*6+1,none⟩=some (.int .i64 kd)/\True):=aH fun v' h1=>⟨(HK.out.next h1).cell,(HK.out.next h1).cell,(HK.out.next h1).cell,(HVc.out v' k _ (after HB.out h1) HXk.out).1,(HVc.out v' k _ (after HB.out h1) HXk.out).2.1,HKd.out v' (after HB.out h1),trivial⟩
    have hS0:=HcS.out V HBV.out;refine aR hV HcS.out HBV.out ?_;clear hV hT;iterate 6 refine aN _ rfl hS0 ?_
    refine rd 6 rfl (fun K hK=>?_);go_simp;refine(HRl.out V (ks:Int) (after HB.out HBV.out)).mono ?_;rintro e u1 ⟨rfl,hb1⟩;rw[HL1.out];have HB1:=aH (after HBV.out hb1);have hS1:=HcS.out u1 HB1.out;refine hK.out _ _ hS1 (fun hX9=>?_);clear hK K hX9 hb1 hS0;refine aI 7 (.bool false) rfl hS1 ?_;refine aI 8 (.bool false) rfl hS1 ?_;iterate 6 refine aN _ rfl hS1 ?_
    refine rd 15 rfl (fun K hK=>?_);go_simp;refine(HRl.out u1 tt (after HB.out HB1.out)).mono ?_;rintro e u2 ⟨rfl,hb2⟩;rw[HL2.out];have HB2:=aH (after HB1.out hb2);have hS2:=HcS.out u2 HB2.out;refine hK.out _ _ hS2 (fun hX9=>?_);clear hK K hX9 hb2 hS1;refine aI 16 (.bool false) rfl hS2 ?_;refine aI 17 (.bool false) rfl hS2 ?_;refine aI 18 (.bool false) rfl hS2 ?_;iterate 9 refine aN _ rfl hS2 ?_
    refine aI 28 (.bool true) rfl hS2 ?_;refine aI 29 (.bool true) rfl hS2 ?_;refine wpAnyH_done (by kernel_rfl) ?_ _;clear hS2;go_simp;go_wp2_with fail
    go_ret;exact⟨by rw[HF.out];rfl,after HB.out HB2.out⟩
   have HNx:Hid (((ks:Int),tt,ad)∉v.take k->(if 64<cZ (v.take (k+1)) (ks:Int)then false else aX S L (v.take (k+1)) (v.drop (k+1)))=aX S L [] v):=aH fun hni=>by
    have h9:=HN1.out;rw[if_neg (show¬(((ks:Int),tt,ad)∈v.take k\/eF S L (ks:Int)=false\/bC L tt=false)from by
     rintro(h|h|h)
     ·exact hni h
     ·unfold eF at h;rw[HCs.out,Int.toNat_natCast,HKi.out,decide_eq_true hk1]at h;cases h
     ·rw[HDs.out]at h;cases h)]at h9
    exact h9
   have HFn:Hid (((ks:Int),tt,ad)∈v.take k->aX S L [] v=false):=aH fun hin=>by rw[<-HN1.out,if_pos (.inl hin)]
   have hk2:(kd !=1)=false:=by simp[hk1]
   have HC1:Hid (cZ (v.take (k+1)) (ks:Int)=cZ (v.take k) (ks:Int)+1):=aH (by rw[HTk.out,gV,jD,if_pos rfl]);clear HN1 hk1;go_wp2_with fail
   obtain⟨V,hV,hT⟩:=aD wx;have HBV:=aH (after HBx.out hT);have HcS:Hid (∀v',Below W.heap.size W v'->v'.cell? ⟨X,0,none⟩=some (.slice ra rn rc)/\v'.cell? ⟨X,1,none⟩=some (.slice la ln lc)/\v'.cell? ⟨X,2,none⟩=some (.slice aa an ac)/\v'.cell? ⟨vb,vo+k*3,none⟩=some (.int .i64 (ks:Int))/\v'.cell? ⟨vb,vo+k*3+1,none⟩=some (.int .i64 tt)/\v'.cell? ⟨ub,uo+ks*6+1,none⟩=some (.int .i64 kd)/\True):=aH fun v' h1=>⟨(HK.out.next h1).cell,(HK.out.next h1).cell,(HK.out.next h1).cell,(HVc.out v' k _ (after HB.out h1) HXk.out).1,(HVc.out v' k _ (after HB.out h1) HXk.out).2.1,HKd.out v' (after HB.out h1),trivial⟩
   have hS0:=HcS.out V HBV.out;refine aR hV HcS.out HBV.out ?_;clear hV hT;iterate 6 refine aN _ rfl hS0 ?_
   refine rd 6 rfl (fun K hK=>?_);go_simp;refine(HRl.out V (ks:Int) (after HB.out HBV.out)).mono ?_;rintro e u1 ⟨rfl,hb1⟩;rw[HL1.out];have HB1:=aH (after HBV.out hb1);have hS1:=HcS.out u1 HB1.out;refine hK.out _ _ hS1 (fun hX9=>?_);clear hK K hX9 hb1 hS0;refine aI 7 (.bool false) rfl hS1 ?_;refine aI 8 (.bool false) rfl hS1 ?_;iterate 6 refine aN _ rfl hS1 ?_
   refine rd 15 rfl (fun K hK=>?_);go_simp;refine(HRl.out u1 tt (after HB.out HB1.out)).mono ?_;rintro e u2 ⟨rfl,hb2⟩;rw[HL2.out];have HB2:=aH (after HB1.out hb2);have hS2:=HcS.out u2 HB2.out;refine hK.out _ _ hS2 (fun hX9=>?_);clear hK K hX9 hb2 hS1;refine aI 16 (.bool false) rfl hS2 ?_;refine aI 17 (.bool false) rfl hS2 ?_;refine aI 18 (.bool false) rfl hS2 ?_;iterate 9 refine aN _ rfl hS2 ?_
   refine aI 28 (.bool false) rfl hS2 ?_;refine aI 29 (.bool false) rfl hS2 ?_;refine wpAnyH_done (by kernel_rfl) ?_ _;clear hS2;go_simp;go_wp2_with fail
   clear hk2;have hvk:k<vn:=HLT.out;have HV10:Hid (vn<=100000/\k<vn):=aH ⟨HVn.out,hvk⟩;go_loopw [8,9] (fun mv jv wr=>∃(j:Nat) (wy:World),wy=wr/\j<=k/\mv=.int .i64 ((1+cZ (v.take j) (ks:Int):Nat):Int)/\jv=.int .i64 j/\Hid (((ks:Int),tt,ad)∉v.take j)/\Hid (Below W.heap.size W wy)) (fun _ jv _=>k-(intOf jv).toNat)
   case atStart=>exact⟨0,_,rfl,by omega,rfl,rfl,aH (by simp),HB2⟩
   case round=>
    obtain⟨j,wy,rfl,hj,rfl,rfl,HNt,HBy⟩:=hrel;have hcj:cZ (v.take j) (ks:Int)<=100000:=by have h1:=cnt_len (v.take j) (ks:Int);rw[List.length_take]at h1;have h2:=HV10.out;omega
    have HMw:Hid (wrap64 (((1+cZ (v.take j) (ks:Int):Nat):Int)+1)=((1+cZ (v.take j) (ks:Int):Nat):Int)+1):=aH (by unfold wrap64;omega);obtain⟨mc,hmc⟩:=aE (1+cZ (v.take j) (ks:Int));rw[<-hmc]at HMw⊢;have HMc:=aH hmc;by_cases hjl:j<k
    ·have hjk:(j:Int)<(k:Int):=by omega
     have hjv:(j:Int)<(vn:Int):=by omega
     have HJT:=aH hjl;have HWj:Hid (wrap64 ((j:Int)+1)=(j:Int)+1):=aH (by have:=HV10.out;unfold wrap64;omega);obtain⟨y,hy⟩:=aG (l:=v) (i:=j) (by rw[HVl.out];omega);have HVy:=aH (fun u (hu:Below W.heap.size W u)=>HVc.out u j y (after HB.out hu) hy);have HVx:=aH (fun u (hu:Below W.heap.size W u)=>HVc.out u k _ (after HB.out hu) HXk.out);obtain⟨c0,c1,c2⟩:=HVy.out wy HBy.out;obtain⟨d0,d1,d2⟩:=HVx.out wy HBy.out;have hyl:=(eX hy).1;have hyv:=(eX hy).2;have heq:=eq_vn y ((ks:Int),tt,ad);dsimp only at heq d0 d1 d2;have HTj:Hid (v.take (j+1)=v.take j++ [y]):=aH (by rw[List.take_add_one,hy];rfl);have HYm:Hid (y∈v.take k):=aH (by rw[<-hyv];exact List.mem_take_iff_getElem.2 ⟨j,by omega,rfl⟩);clear hy hyl hyv hmc hcj hj hjl;by_cases e:y=((ks:Int),tt,ad)
     ·have hb2:decide (y=((ks:Int),tt,ad))=true:=decide_eq_true e;have HF:=aH (HFn.out (by rw[<-e];exact HYm.out));clear e;go_wp2_with fail
      go_quiet (fail);go_wp2_with fail
      go_ret;exact⟨by rw[HF.out];rfl,after HB.out (below_drewN HBy.out _)⟩
     have hb2:decide (y=((ks:Int),tt,ad))=false:=decide_eq_false e;have HNt2:Hid (((ks:Int),tt,ad)∉v.take (j+1)):=aH (by
      rw[HTj.out,List.mem_append];rintro(h|h)
      ·exact HNt.out h
      ·exact e (List.mem_singleton.1 h).symm)
     clear e;by_cases hsx:y.1=(ks:Int)
     ·have hb3:(y.1==(ks:Int))=true:=by simp[hsx]
      have HCn:Hid ((mc:Int)+1=((1+cZ (v.take (j+1)) (ks:Int):Nat):Int)):=aH (by rw[HTj.out,gV,jD,if_pos hsx,HMc.out];omega);clear hsx;go_wp2_with fail
      go_quiet (fail);go_wp2_with fail
      go_quiet (fail);go_wp2_with fail
      go_roundw
      case rel=>exact⟨j+1,_,rfl,by have:=HJT.out;omega,by rw[HMw.out,HCn.out],by first|go_num|(rw[HWj.out];go_num),HNt2,aH (below_drewN HBy.out _)⟩
      case measure=>first|exact aL HJT HWj|exact aK HJT HWj
     ·have hb3:(y.1==(ks:Int))=false:=by simp[hsx]
      have HCn:Hid ((mc:Int)=((1+cZ (v.take (j+1)) (ks:Int):Nat):Int)):=aH (by rw[HTj.out,gV,jD,if_neg hsx,HMc.out];omega);clear hsx;go_wp2_with fail
      go_quiet (fail);go_wp2_with fail
      go_quiet (fail);go_wp2_with fail
      go_roundw
      case rel=>exact⟨j+1,_,rfl,by have:=HJT.out;omega,by rw[HCn.out],by first|go_num|(rw[HWj.out];go_num),HNt2,aH (below_drewN HBy.out _)⟩
      case measure=>first|exact aL HJT HWj|exact aK HJT HWj
    ·obtain rfl:k=j:=by omega
     have hge:¬(k:Int)<(k:Int):=by omega
     have HNk:=aH (HNx.out HNt.out);by_cases hgt:64<mc
     ·have hgi:(64:Int)<(mc:Int):=by omega
      have HF:Hid (aX S L [] v=false):=aH (by rw[<-HNk.out,if_pos (by rw[HC1.out];have:=HMc.out;omega)]);clear hgt hmc hcj;go_wp2_with fail
      go_ret;exact⟨by rw[HF.out];rfl,after HB.out HBy.out⟩
     ·have hgi:¬(64:Int)<(mc:Int):=by omega
      have HR2:Hid (aX S L (v.take (k+1)) (v.drop (k+1))=aX S L [] v):=aH (by have h9:=HNk.out;rw[if_neg (by rw[HC1.out];have:=HMc.out;omega)]at h9;exact h9);clear hgt hmc hcj;go_wp2_with fail
      go_roundw
      case rel=>exact⟨k+1,_,rfl,by have:=HLT.out;omega,by first|go_num|(rw[HWk.out];go_num),HR2,HBy⟩
      case measure=>first|exact aL HLT HWk|exact aK HLT HWk
  ·obtain rfl:vn=k:=by omega
   have hge:¬(vn:Int)<(vn:Int):=by omega
   have HE:Hid (aX S L [] v=true):=aH (by rw[<-HR.out,List.drop_of_length_le (by rw[HVl.out];exact Nat.le_refl _)];rfl);clear hk hlt;go_wp2_with fail
   go_ret;exact⟨by rw[HE.out];rfl,after HB.out HBx.out⟩
section
variable {P:Program} {ops:Array Oper} {Q:Exit->Act->World->Prop} {md:Region.Mode} {S:World->Prop} {o:Oper} {fuel:Nat} {listed:Array Bool} {a:Act} {w:World}
theorem tk7d (i d:Nat)(v:Value)(hi:ops[i]?=some o)(hS:S w)(h:wpAnyH P md ops Q S fuel (listed.setIfInBounds i true) (a.put (some d) v) w)
  (hd:o.dst=some d:=by kernel_rfl)
  (hy:∀w,S w->(execOp a.eval o).run P w=.ok (.value v) w:=by intro w hS;obtain⟨_,_,_,_,_,_,_⟩:=hS;go_simp;(try with_reducible rfl))
  (hw:Region.wanted o (yielded ops a.tmps)=true:=by kernel_rfl) (hs:Region.noSelect ops=true:=by kernel_rfl) (hf:Region.free md ops listed i=true:=by kernel_rfl) (hr:(Region.ready md ops listed).contains i=true:=by kernel_rfl)
  (hQ:∀c a w,Q (.panic c) (a.put o.dst v) w->Q (.panic c) a w:=by exact fun _ _ _ h=>h):wpAnyH P md ops Q S (fuel+1) listed a w:=
 tk i v hi hS hy (by rw[hd];exact h) hw hs hf hr hQ
end
def pN (S:List Sc)(v:List Vn)(x:Nat)(a:Int):Int×Int:=if bG S x=1 then(((gN S x+12*cZ v x:Nat):Int),max a 2)else(((iI S x:Nat):Int),a)
theorem rblock_any (ua:Option Addr)(n uc:Nat)(ra:Option Addr)(rn rc:Nat)(la:Option Addr)(ln lc:Nat)(aa:Option Addr)(an ac:Nat)(va:Option Addr)(vn vc:Nat)(Lm:List Ms)(S:List Sc)(L:List Nat)(align:List Int)(v:List Vn)(i x:Nat)(a:Int)(w:World)(hS:S=Lm.map (·.sc))
  (hs:SL mX 6 w w.heap.size ua n Lm) (hl:SL dT 1 w w.heap.size la ln (L.map Int.ofNat)) (ha:SL dT 1 w w.heap.size aa an align) (hx:L[i]?=some x) (hxa:align[i]?=some a) (ha0:0<=a/\a<=12) (hxn:x<n) (hd:iI S x<=4096) (hn:n<=1000000) (hln:ln<=1000000) (hv:SL gB 3 w w.heap.size va vn v) (hvn:vn<=100000):
  Calls Tryz.prog 60 #[.slice ua n uc,.agg #[.slice ra rn rc,.slice la ln lc,.slice aa an ac],.slice va vn vc,.int .i64 i] w (aP (.agg #[.int .i64 (pN S v x a).1,.int .i64 (pN S v x a).2]) w):=by
 have hil:=(eX hx).1;have hll:ln=L.length:=by have:=hl.len;rw[List.length_map]at this;exact this
 have hial:=(eX hxa).1;have hi1:(i:Int)<(ln:Int):=by omega
 have hi2:(i:Int)<(an:Int):=by have:=ha.len;omega
 have hxi:(x:Int)<(n:Int):=by omega
 obtain⟨m,hm⟩:=aG (l:=Lm) (i:=x) (by have:=hs.len;omega);obtain⟨ub,uo,hua,-,-⟩:=hs.cells (by intro e;rw[e]at hm;cases hm);obtain⟨lb,lo,hla,-,-⟩:=hl.cells (by intro e;rw[List.map_eq_nil_iff]at e;rw[e]at hx;cases hx);obtain⟨ab,ao,haa,-,-⟩:=ha.cells (by intro e;rw[e]at hxa;cases hxa);subst hua;subst hla;subst haa;have HU:=aH (fun u (hu:Below w.heap.size w u)=>cO hs hu hm);have HLc:=aH (fun u (hu:Below w.heap.size w u)=>bR hl hu (show(L.map Int.ofNat)[i]?=some (x:Int) by rw[List.getElem?_map,hx];rfl));have HAc:=aH (fun u (hu:Below w.heap.size w u)=>bR ha hu hxa);have HV:=aH hv;have hkin:bG S x=m.sc.kind:=by unfold bG;rw[hS,List.getElem?_map,hm];rfl
 have hlen:iI S x=m.sc.data.length:=by unfold iI;rw[hS,List.getElem?_map,hm];rfl
 obtain⟨X,hX⟩:=aE w.heap.size;obtain⟨W0,hW0⟩:=aE ((w.alloc (.cells #[.slice ra rn rc,.slice (some ⟨lb,lo,none⟩) ln lc,.slice (some ⟨ab,ao,none⟩) an ac] 25)).alloc (.cells #[.int .i64 0,.int .i64 0] 106));have z1:(w.alloc (.cells #[.slice ra rn rc,.slice (some ⟨lb,lo,none⟩) ln lc,.slice (some ⟨ab,ao,none⟩) an ac] 25)).heap.size=X+1:=by rw[World.size_alloc,hX]
 have HB:Hid (Below w.heap.size w W0):=aH (by rw[hW0];exact after (aC _ _) (aC _ _));have HK:Hid (RB W0 X #[.slice ra rn rc,.slice (some ⟨lb,lo,none⟩) ln lc,.slice (some ⟨ab,ao,none⟩) an ac] 25):=aH (by rw[hW0,hX];exact(aQ _ _ _).next (aC _ _));have HR8:Hid (RB W0 (X+1) #[.int .i64 0,.int .i64 0] 106):=aH (by rw[hW0,<-z1];exact aQ _ _ _);obtain⟨k0,k1,k2⟩:W0.cell? ⟨X,0,none⟩=some (.slice ra rn rc)/\W0.cell? ⟨X,1,none⟩=some (.slice (some ⟨lb,lo,none⟩) ln lc)/\W0.cell? ⟨X,2,none⟩=some (.slice (some ⟨ab,ao,none⟩) an ac):=⟨HK.out.cell,HK.out.cell,HK.out.cell⟩;have l0:=HLc.out W0 HB.out;have a0:=HAc.out W0 HB.out;obtain⟨u0,u1,u2,u3,u4,u5⟩:=HU.out W0 HB.out;rw[hW0,hX]at k0 k1 k2;rw[hW0]at l0 a0 u0 u1 u2 u3 u4 u5;have HWe:=aH hW0.symm;have HXe:=aH hX.symm;have HKi:=aH hkin;have HLe:=aH hlen;clear hW0 hX z1 hS hs hl ha hx hxa hm hkin hlen hv hil hial hll;go_enter Tryz.func60,Tryz.ntmps60;go_wp2_with fail
 rw[HWe.out,HXe.out];have hz0:W0.heap.size=X+1+1:=by rw[<-HWe.out,World.size_alloc,World.size_alloc,HXe.out]
 obtain⟨W1,hW1⟩:=aE (W0.alloc (.cells #[.string ⟨m.sc.name.toArray⟩,.int .i64 m.sc.kind,.bool m.sc.keep,.int .i64 m.sc.align,.string ⟨m.sc.data.toArray⟩,.slice m.ad m.sc.rels.length m.cap] 55));have hb1:Below W0.heap.size W0 W1:=by rw[hW1];exact aC _ _
 have HX2:Hid (RB W1 (X+1+1) #[.string ⟨m.sc.name.toArray⟩,.int .i64 m.sc.kind,.bool m.sc.keep,.int .i64 m.sc.align,.string ⟨m.sc.data.toArray⟩,.slice m.ad m.sc.rels.length m.cap] 55):=aH (by rw[hW1,<-hz0];exact aQ _ _ _);have HB1:=aH (And.intro hb1 (after HB.out hb1));rw[<-hW1];obtain⟨V,hV,hT⟩:=aD W1;have HBV:=aH (And.intro (after HB1.out.1 hT) (after HB1.out.2 hT));have HX2V:=aH (HX2.out.next hT);have hS0:V.cell? ⟨X+1+1,4,none⟩=some (.string ⟨m.sc.data.toArray⟩)/\V.cell? ⟨X,2,none⟩=some (.slice (some ⟨ab,ao,none⟩) an ac)/\V.cell? ⟨ab,ao+i,none⟩=some (.int .i64 a)/\True/\True/\True/\True:=⟨HX2V.out.cell,(HK.out.next HBV.out.1).cell,HAc.out V HBV.out.2,trivial,trivial,trivial,trivial⟩;refine aS (S:=fun v'=>v'.cell? ⟨X+1+1,4,none⟩=some (.string ⟨m.sc.data.toArray⟩)/\v'.cell? ⟨X,2,none⟩=some (.slice (some ⟨ab,ao,none⟩) an ac)/\v'.cell? ⟨ab,ao+i,none⟩=some (.int .i64 a)/\True/\True/\True/\True) hV hS0 ?_;have hzV:V.heap.size=X+1+1+1:=by rw[hV];show W1.heap.size=_;rw[hW1,World.size_alloc,hz0]
 clear hV hT k0 k1 k2 l0 a0 u0 u1 u2 u3 u4 u5 hb1;refine tk7d 0 20 _ rfl hS0 ?_;simp only[Act.put,List.setIfInBounds_toArray,List.set_cons_zero,List.set_cons_succ];refine tk7d 1 21 _ rfl hS0 ?_;simp only[Act.put,List.setIfInBounds_toArray,List.set_cons_zero,List.set_cons_succ];refine tk7d 2 22 _ rfl hS0 ?_;simp only[Act.put,List.setIfInBounds_toArray,List.set_cons_zero,List.set_cons_succ];refine tk7d 3 23 _ rfl hS0 ?_;simp only[Act.put,List.setIfInBounds_toArray,List.set_cons_zero,List.set_cons_succ];refine tk7d 4 24 _ rfl hS0 ?_;simp only[Act.put,List.setIfInBounds_toArray,List.set_cons_zero,List.set_cons_succ];refine tk7d 5 25 _ rfl hS0 ?_;simp only[Act.put,List.setIfInBounds_toArray,List.set_cons_zero,List.set_cons_succ];refine tk7d 6 26 _ rfl hS0 ?_;simp only[Act.put,List.setIfInBounds_toArray,List.set_cons_zero,List.set_cons_succ];refine tk7d 7 27 _ rfl hS0 ?_;simp only[Act.put,List.setIfInBounds_toArray,List.set_cons_zero,List.set_cons_succ];refine tk7d 8 28 _ rfl hS0 ?_;simp only[Act.put,List.setIfInBounds_toArray,List.set_cons_zero,List.set_cons_succ];refine rd 9 rfl (fun K hK=>?_);go_simp;have hb2:Below V.heap.size V (V.alloc (.cells #[.int .i64 0,.int .i64 0] 106)):=aC _ _;have hS2:=(show∀u,Below V.heap.size V u->u.cell? ⟨X+1+1,4,none⟩=some (.string ⟨m.sc.data.toArray⟩)/\u.cell? ⟨X,2,none⟩=some (.slice (some ⟨ab,ao,none⟩) an ac)/\u.cell? ⟨ab,ao+i,none⟩=some (.int .i64 a)/\True/\True/\True/\True from fun u hu=>⟨(HX2V.out.next hu).cell,(HK.out.next (after HBV.out.1 hu)).cell,HAc.out u (after HBV.out.2 hu),trivial,trivial,trivial,trivial⟩);refine hK.out _ _ (hS2 _ hb2) (fun hX9=>?_);clear hK K hX9;refine rd 10 rfl (fun K hK=>?_);go_simp;obtain⟨W2,hW2⟩:=aE (V.alloc (.cells #[.int .i64 (m.sc.data.length:Nat),.int .i64 a] 106));have hb3:Below V.heap.size V W2:=by rw[hW2];exact aC _ _
 have HBk:Hid (RB W2 (X+1+1+1) #[.int .i64 (m.sc.data.length:Nat),.int .i64 a] 106):=aH (by rw[hW2,<-hzV];exact aQ _ _ _);have HB2:=aH (And.intro (after HBV.out.1 hb3) (after HBV.out.2 hb3));have HX22:=aH (HX2V.out.next hb3);have HR82:=aH (HR8.out.next HB2.out.1);rw[<-hW2];refine hK.out _ _ (hS2 _ hb3) (fun hX9=>?_);clear hK K hX9 hS2 hb2 hb3 hW2 hS0 hzV hW1;refine wpAnyH_done (by kernel_rfl) ?_ _;have HXs:Hid (w.heap.size<=X):=aH (by rw[<-HXe.out];exact Nat.le_refl _);have b0:W2.cell? ⟨X+1+1+1,0,none⟩=some (.int .i64 (m.sc.data.length:Nat)):=HBk.out.cell;have b1:W2.cell? ⟨X+1+1+1,1,none⟩=some (.int .i64 a):=HBk.out.cell;have c1:W2.cell? ⟨X+1+1,1,none⟩=some (.int .i64 m.sc.kind):=HX22.out.cell;have f8:W2.frozen? ⟨X+1,0,none⟩=false:=HR82.out.frozen;have f9:W2.frozen? ⟨X+1,1,none⟩=false:=HR82.out.frozen;have r8:W2.cell? ⟨X+1,0,none⟩=some (.int .i64 0):=HR82.out.cell;have r9:W2.cell? ⟨X+1,1,none⟩=some (.int .i64 0):=HR82.out.cell;by_cases hkd:m.sc.kind=1;rotate_left
 ·have hk2:(m.sc.kind !=1)=true:=by simp[hkd]
  have HV1:Hid (pN S v x a=(((m.sc.data.length:Nat):Int),a)):=aH (by unfold pN;rw[if_neg (by rw[HKi.out];exact hkd),HLe.out]);clear hkd;go_wp2_with fail
  have h1:=HR82.out.set (j:=0) (.int .i64 (m.sc.data.length:Nat));have h2:=h1.set (j:=1) (.int .i64 a);refine bodyPost_ret (results_cell_row (P:=Tryz.prog) rfl _ _ (X+1) 106 _ (0,0) _ rfl h2 Tryz.underlying106 rfl (by kernel_rfl)) rfl ?_;rw[HV1.out];exact⟨rfl,(HB2.out.2.setCell (by have:=HXs.out;show w.heap.size<=X+1;omega) _).setCell (by have:=HXs.out;show w.heap.size<=X+1;omega) _⟩
 have hk2:(m.sc.kind !=1)=false:=by simp[hkd]
 have HD:Hid (m.sc.data.length<=4096):=aH (by rw[<-HLe.out];exact hd);have HUp:Hid (∀u,Calls Tryz.prog 62 #[.int .i64 (m.sc.data.length:Nat)] u (bQ (.int .i64 ((m.sc.data.length+3)/4*4:Nat)) u)):=aH fun u=>rup_any _ u (by have:=HD.out;omega)
 have g8:W2.frozen? ⟨X+1+1+1,0,none⟩=false:=HBk.out.frozen;have g9:W2.frozen? ⟨X+1+1+1,1,none⟩=false:=HBk.out.frozen;have HKd:=aH hkd;clear hkd f8 f9 r8 r9;go_wp2_with (go_at_call 62;refine(HUp.out _).mono ?_;rintro e u ⟨rfl,rfl⟩)
 obtain⟨en,hen⟩:∃en:Nat,en=(m.sc.data.length+3)/4*4:=⟨_,rfl⟩;have hen2:((m.sc.data.length:Nat):Int)+3=((m.sc.data.length+3:Nat):Int):=by omega
 have hen3:(((m.sc.data.length:Nat):Int)+3)/4*4=(en:Int):=by omega
 have HEn:Hid (gN S x=en/\en<=5000):=aH ⟨by rw[hen,<-HLe.out];rfl,by have:=HD.out;omega⟩;rw[hen3];obtain⟨mx,hmx⟩:=aE (max a 2);rw[<-hmx];obtain⟨W4,hW4⟩:=aE ((W2.setCell ⟨X+1+1+1,1,none⟩ (.int .i64 mx)).setCell ⟨X+1+1+1,0,none⟩ (.int .i64 (en:Int)));have far:∀(u:World) (j b:Nat) (y:Value) (cs:Array Value) (T:TypeId),RB u b cs T->b≠X+1+1+1->RB (u.setCell ⟨X+1+1+1,j,none⟩ y) b cs T:=fun u j b y cs T h1 h2=>(Below.heap_setCell u ⟨X+1+1+1,j,none⟩ y b h2).trans h1
 have HFar:=aH far;have HX4:Hid (RB W4 X #[.slice ra rn rc,.slice (some ⟨lb,lo,none⟩) ln lc,.slice (some ⟨ab,ao,none⟩) an ac] 25):=aH (by rw[hW4];exact far _ _ _ _ _ _ (far _ _ _ _ _ _ (HK.out.next HB2.out.1) (by omega)) (by omega));have HY4:Hid (RB W4 (X+1) #[.int .i64 0,.int .i64 0] 106):=aH (by rw[hW4];exact far _ _ _ _ _ _ (far _ _ _ _ _ _ HR82.out (by omega)) (by omega));have HZ4:Hid (RB W4 (X+1+1+1) #[.int .i64 ((en+12*cZ (v.take 0) x:Nat):Int),.int .i64 mx] 106):=aH (by rw[hW4];exact(HBk.out.set (j:=1) (.int .i64 mx)).set (j:=0) (.int .i64 (en:Int)));have HBB:Hid (Below w.heap.size w W4):=aH (by
  rw[hW4];exact(HB2.out.2.setCell (p:=⟨X+1+1+1,1,none⟩) (by have:=HXs.out;show w.heap.size<=X+1+1+1;omega) _).setCell (p:=⟨X+1+1+1,0,none⟩) (by have:=HXs.out;show w.heap.size<=X+1+1+1;omega) _)
 have HVl:Hid (v.length=vn/\vn<=100000):=aH ⟨HV.out.len.symm,hvn⟩;rw[<-hW4];have HMx:=aH hmx;clear hW4 hen hen2 hen3 far b0 b1 c1 g8 g9 hk2 hmx;go_loopw [11] (fun jv wr=>∃(j:Nat) (wy:World),wy=wr/\j<=vn/\jv=.int .i64 j/\Hid (Below w.heap.size w wy)/\Hid (RB wy X #[.slice ra rn rc,.slice (some ⟨lb,lo,none⟩) ln lc,.slice (some ⟨ab,ao,none⟩) an ac] 25)/\Hid (RB wy (X+1) #[.int .i64 0,.int .i64 0] 106)/\Hid (RB wy (X+1+1+1) #[.int .i64 ((en+12*cZ (v.take j) x:Nat):Int),.int .i64 mx] 106)) (fun jv _=>vn-(intOf jv).toNat)
 case atStart=>exact⟨0,_,rfl,by omega,rfl,HBB,HX4,HY4,HZ4⟩
 case round=>
  clear HBB HX4 HY4 HZ4;obtain⟨j,wy,rfl,hj,rfl,HBB,HX4,HY4,HZ4⟩:=hrel;obtain⟨sz,hsz⟩:∃sz:Nat,sz=en+12*cZ (v.take j) x:=⟨_,rfl⟩;rw[<-hsz]at HZ4;have hcb:sz<=2000000:=by
   have h1:=cnt_len (v.take j) (x:Int);rw[List.length_take]at h1;have h2:=HVl.out;have h3:=HEn.out.2;omega
  have hw:wrap64 ((sz:Int)+12)=(sz:Int)+12:=by unfold wrap64;omega
  have e0:wy.cell? ⟨X+1+1+1,0,none⟩=some (.int .i64 (sz:Int)):=HZ4.out.cell;have e1:wy.cell? ⟨X+1+1+1,1,none⟩=some (.int .i64 mx):=HZ4.out.cell;have l0:=HLc.out wy HBB.out;have HSz:=aH hsz;by_cases hjl:j<vn
  ·have hji:(j:Int)<(vn:Int):=by omega
   have HJT:=aH hjl;have HWj:Hid (wrap64 ((j:Int)+1)=(j:Int)+1):=aH (by have:=HVl.out;unfold wrap64;omega);have f0:wy.frozen? ⟨X+1+1+1,0,none⟩=false:=HZ4.out.frozen;have p1:wy.cell? ⟨X,1,none⟩=some (.slice (some ⟨lb,lo,none⟩) ln lc):=HX4.out.cell;obtain⟨y,hy⟩:=aG (l:=v) (i:=j) (by rw[HVl.out.1];exact hjl);obtain⟨vb,vo,hva,-,hvc⟩:=(HV.out.next HBB.out).cells (by intro e;rw[e]at hy;cases hy);subst hva;obtain⟨c0,-,-⟩:=fI (off:=vo) (k:=j) (x:=y) (fun q hq=>by have h1:=hvc j (eX hy).1 q hq;rw[(eX hy).2]at h1;exact h1);have HTj:Hid (v.take (j+1)=v.take j++ [y]):=aH (by rw[List.take_add_one,hy];rfl);clear hvc hy hsz hcb hjl hj;by_cases hsx:y.1=(x:Int)
   ·have hb3:(y.1==(x:Int))=true:=by simp[hsx]
    have HCn:Hid ((sz:Int)+12=((en+12*cZ (v.take (j+1)) x:Nat):Int)):=aH (by rw[HTj.out,gV,jD,if_pos hsx,HSz.out];omega);clear hsx;go_wp2_with fail
    go_quiet (fail);go_wp2_with fail
    go_roundw
    case rel=>
     refine⟨j+1,_,rfl,by have:=HJT.out;omega,by first|go_num|(rw[HWj.out];go_num),aH ((below_drewN HBB.out _).setCell (p:=⟨X+1+1+1,0,none⟩) (by have:=HXs.out;show w.heap.size<=X+1+1+1;omega) _),aH (HFar.out _ _ _ _ _ _ HX4.out (by omega)),aH (HFar.out _ _ _ _ _ _ HY4.out (by omega)),?_⟩;rw[<-HCn.out];exact aH (HZ4.out.set (j:=0) (.int .i64 ((sz:Int)+12)))
    case measure=>first|exact aL HJT HWj|exact aK HJT HWj
   ·have hb3:(y.1==(x:Int))=false:=by simp[hsx]
    have HCn:Hid (sz=en+12*cZ (v.take (j+1)) x):=aH (by rw[HTj.out,gV,jD,if_neg hsx,HSz.out,Nat.add_zero]);clear hsx;go_wp2_with fail
    go_quiet (fail);go_wp2_with fail
    go_roundw
    case rel=>
     refine⟨j+1,_,rfl,by have:=HJT.out;omega,by first|go_num|(rw[HWj.out];go_num),aH (below_drewN HBB.out _),HX4,HY4,?_⟩;rw[<-HCn.out];exact HZ4
    case measure=>first|exact aL HJT HWj|exact aK HJT HWj
  ·obtain rfl:vn=j:=by omega
   have hge:¬(vn:Int)<(vn:Int):=by omega
   have r8:wy.cell? ⟨X+1,0,none⟩=some (.int .i64 0):=HY4.out.cell;have r9:wy.cell? ⟨X+1,1,none⟩=some (.int .i64 0):=HY4.out.cell;have f8:wy.frozen? ⟨X+1,0,none⟩=false:=HY4.out.frozen;have f9:wy.frozen? ⟨X+1,1,none⟩=false:=HY4.out.frozen;have HV1:Hid (pN S v x a=((sz:Int),mx)):=aH (by
    unfold pN;rw[if_pos (by rw[HKi.out];exact HKd.out),HEn.out.1,HMx.out,HSz.out,show v.take vn=v from by rw[<-HVl.out.1,List.take_length]])
   clear hsz hcb hjl hj;go_wp2_with fail
   have h1:=HY4.out.set (j:=0) (.int .i64 (sz:Int));have h2:=h1.set (j:=1) (.int .i64 mx);refine bodyPost_ret (results_cell_row (P:=Tryz.prog) rfl _ _ (X+1) 106 _ (0,0) _ rfl h2 Tryz.underlying106 rfl (by kernel_rfl)) rfl ?_;rw[HV1.out];exact⟨rfl,(HBB.out.setCell (by have:=HXs.out;show w.heap.size<=X+1;omega) _).setCell (by have:=HXs.out;show w.heap.size<=X+1;omega) _⟩
end
section
open Go.RowKit
theorem zz_y1_vRE_RecDepth:True:=trivial
namespace Pl
def LayQ (w:World)(p:List Int×Int×Int)(e:Ending)(w':World):Prop:=
 ∃a n c,e=.returned (.tuple #[.slice a n c,.int .u64 p.2.1,.int .i64 p.2.2])/\SL encU 1 w' w'.heap.size a n p.1/\(a=none->n=0/\c=0)/\Below w.heap.size w w'
theorem refUp_eq (v n:Int)(w:World)(x e:Int)(h:0<=v/\v<18446744073709551616)(he:rG v n=(x,e)):
  Calls Tryz.prog 89 #[.int .u64 v,.int .i64 n] w (bQ (.tuple #[.int .u64 x,.int .i64 e]) w):=by
 have:=refUp_any v n w h.1 h.2;rwa[he]at this
theorem refLay_any (a:Option Addr)(n c:Nat)(l:List Bk)(base:Int)(w:World)(hn:n<=600)(h:SL pL 2 w w.heap.size a n l)(hg:∀b∈l,bkB b)(b0:0<=base)(b1:base<18446744073709551616):
  Calls Tryz.prog 61 #[.slice a n c,.int .u64 base] w (LayQ w (fY l base)):=by
 have hlen:=h.len;have HL:=aH hlen;clear hlen;go_enter Tryz.func61,Tryz.ntmps61;go_wp2;go_loopw [7] (fun i wr=>∃k:Nat,k<=n/\i=.int .i64 k/\(∀j (h:j<l.length),j<k->okB l[j]=true)/\Below w.heap.size w wr) (fun i _=>n-(intOf i).toNat)
 case atStart=>exact⟨0,by omega,rfl,by intro j _ hj;omega,Below.refl _ _⟩
 case round=>
  obtain⟨k,hk,rfl,hok,hb⟩:=hrel;have HOK:=aH hok;clear hok;by_cases hlt:k<n
  ·have hkl:k<l.length:=by have:=HL.out;omega
   obtain⟨b,off,rfl,hB,hc⟩:=(h.below hb).cells (h.ne hlt);have c0:=hc k hkl 0 (by omega);have c1:=hc k hkl 1 (by omega);obtain⟨⟨g0,g1⟩,g2,g3⟩:=hg l[k] (List.getElem_mem _);obtain⟨f,hf⟩:=aE (l[k]);rw[<-hf]at c0 c1 g0 g1 g2 g3;obtain⟨S,A⟩:=f;simp only[pL,Nat.add_zero,List.getElem?_cons_zero,List.getElem?_cons_succ]at c0 c1;have HF:=aH hf;clear hc hf h hg;by_cases hk0:0<=S/\S<=16384/\0<=A/\A<=12
   ·obtain⟨k1,k2,k3,k4⟩:=hk0;go_wp2;go_roundw
    case rel=>
     refine⟨k+1,by omega,by go_num,?_,hb⟩;intro j hj hjk;by_cases e:j=k
     ·subst e;rw[<-HF.out];simp[okB];omega
     ·exact HOK.out j hj (by omega)
    case measure=>simp[intOf];omega
   ·have hno:fY l base=([],0,1):=by
     unfold fY;rw[if_pos];rw[List.all_eq_false];exact⟨_,List.getElem_mem hkl,by rw[<-HF.out];simp[okB];omega⟩
    have HNO:=aH hno;have hk1:S<0\/(0<=S/\16384<S)\/(0<=S/\S<=16384/\A<0)\/(0<=S/\S<=16384/\0<=A/\12<A):=by omega
    clear hk0 hno;rcases hk1 with k1|⟨k1,k2⟩|⟨k1,k2,k3⟩|⟨k1,k2,k3,k4⟩
    all_goals
     go_wp2;go_ret3;exact⟨none,0,0,by rw[HNO.out];rfl,by rw[HNO.out];exact SL.nil _ _ _,fun _=>⟨rfl,rfl⟩,hb⟩
  ·have hall:∀x∈l,okB x=true:=by
    intro x hx;obtain⟨j,hj,rfl⟩:=List.getElem_of_mem hx;exact HOK.out j hj (by have:=HL.out;omega)
   have HA:=aH hall;clear hall HOK;have hnf:¬l.all okB=false:=by rw[List.all_eq_false];intro⟨x,hx,hn⟩;exact hn (HA.out x hx)
   have HNF:=aH hnf;clear hnf;by_cases h256:256<n
   ·have hno:fY l base=([],0,2):=by
     unfold fY;rw[if_neg HNF.out,if_pos (by have:=HL.out;omega)]
    have HNO:=aH hno;clear hno h;go_wp2;go_ret3;exact⟨none,0,0,by rw[HNO.out];rfl,by rw[HNO.out];exact SL.nil _ _ _,fun _=>⟨rfl,rfl⟩,hb⟩
   by_cases h62:4611686018427387904<base
   ·have hno:fY l base=([],0,4):=by
     unfold fY;rw[if_neg HNF.out,if_neg (by have:=HL.out;omega),if_pos h62]
    have HNO:=aH hno;clear hno h;go_wp2;go_ret3;exact⟨none,0,0,by rw[HNO.out];rfl,by rw[HNO.out];exact SL.nil _ _ _,fun _=>⟨rfl,rfl⟩,hb⟩
   have hno:fY l base=((gW l base).1,(gW l base).2,0):=by
    unfold fY;rw[if_neg HNF.out,if_neg (by have:=HL.out;omega),if_neg h62]
   have HNO:=aH hno;clear hno;obtain⟨i0,hi,hz0,hz1,hz2⟩:=info_parts info26;go_wp2;have h':=aH h;have hg':=aH hg;clear h hg;go_loopw [1,8,9] (fun bs v i wl=>∃(k:Nat) (e:Int) (acc:List Int),k<=n/\i=.int .i64 k/\bs=.int .u64 e/\wl.ownsRow w.heap.size 26 1 v k (acc.flatMap encU)/\
    0<=e/\e<=4611686018427387904+k*20480/\gW l base=(acc++(gW (l.drop k) e).1,(gW (l.drop k) e).2)/\Below w.heap.size w wl) (fun _ _ i _=>n-(intOf i).toNat)
   case atStart=>exact⟨0,base,[],by omega,rfl,rfl,World.ownsRow_nil _ _ _ _,b0,by omega,rfl,hb⟩
   case round=>
    clear hb;obtain⟨k,e,acc,hk,rfl,rfl,hown,e0,e1,hlay,hb⟩:=hrel;have HLAY:=aH hlay;clear hlay;by_cases hlt:k<n
    ·have hkl:k<l.length:=by have:=HL.out;omega
     obtain⟨b,off,rfl,hBb,hc⟩:=(h'.out.below hb).cells (h'.out.ne hlt);have c0:=hc k hkl 0 (by omega);have c1:=hc k hkl 1 (by omega);have hokk:=HA.out _ (List.getElem_mem hkl);have hd:=eW hkl;generalize l[k]=f at c0 c1 hokk hd;obtain⟨S,A⟩:=f;simp only[pL,Nat.add_zero,List.getElem?_cons_zero,List.getElem?_cons_succ]at c0 c1;have HD:=aH hd;obtain⟨k1,k2,k3,k4⟩:=(show 0<=S/\S<=16384/\0<=A/\A<=12 from of_decide_eq_true hokk);have hu:=rF e A e0 (by omega) k3 k4;have hp:=pow12 A k4;have hx1:(rG e A).1=(e+(2^A.toNat-1))/2^A.toNat*2^A.toNat:=by rw[upS2 k3 k4 (by omega)]
     have hx2:rG e A=((rG e A).1,0):=by rw[upS2 k3 k4 (by omega)]
     rw[<-hx1]at hu;obtain⟨u,hU⟩:=aE ((rG e A).1);rw[<-hU]at hu hx2;obtain⟨u1,u2,-⟩:=hu;have HU:=aH hU;have HX:=aH hx2;have HOWN:=aH hown;have hm:k+1<=maxLen:=by unfold maxLen;omega
     have hby:(k+1)*8<=140737488355328:=by omega
     have hsz:=hb.size;clear hc hd hokk hown hx1 hx2 hU;have hcB:∀(w2:World),Below w.heap.size w w2->w2.cell? ⟨b,off+k*2,none⟩=some (.int .i64 S):=fun w2 h2=>
      ((h2.cell (p:=⟨b,off+k*2,none⟩) hBb).trans (hb.cell (p:=⟨b,off+k*2,none⟩) hBb).symm).trans c0
     have HCB:=aH hcB;clear hcB;go_wp2_with fail
     refine(refUp_eq e A _ u 0 (by omega) HX.out).mono ?_;rintro en w' ⟨rfl,rfl⟩;go_wp2_with (at_builtin;refine wpList_append_own _ rfl _ _ 31 rfl w.heap.size 26 i0 (.int .u64 0) 1 8 Tryz.underlying31 hi hz0 hz1 hz2 rfl (by decide) _ k (acc.flatMap encU) rfl (HOWN.out.alloc _) ⟨wr.heap.size,0,none⟩ 1 1 [.int .u64 u] rfl rfl (cell_one_new _ _ _) (one_one u) hm hby (by simp;omega) ?_;intro v' w2 hown2 hgrow2 hiff;have hbw2:=(hb.alloc hb.size (.cells #[.int .u64 u] 26)).grown hgrow2 (by simp;omega) (fun j hj=>(HOWN.out.lt j hj).1);have hcc:=HCB.out w2 hbw2)
     go_roundw
     case rel=>
      refine⟨k+1,u+S,acc++ [u],by omega,by go_num,by first|rfl|go_num,?_,by omega,by omega,?_,hbw2⟩
      ·simpa[encU]using hown2
      ·rw[HLAY.out,HD.out,gW];simp[<-HU.out]
     case measure=>simp[intOf];omega
    ·have HOWN:=aH hown;clear hown;go_wp2;go_ret3;have hkn:k=n:=by omega
     have hown:=HOWN.out;rw[hkn]at hown;have hl:gW l base=(acc,e):=by
      rw[HLAY.out,List.drop_of_length_le (by have:=HL.out;omega)];simp[gW]
     obtain⟨a',c',rfl,hsl,hnil⟩:=SL.ofOwns encU_len (by omega) hown;have hfin:fY l base=(acc,e,0):=by rw[HNO.out,hl]
     refine⟨a',n,c',?_,?_,hnil,hb⟩
     ·rw[hfin];rfl
     ·rw[hfin];exact hsl
end Pl
end
section
open Go.ChangeShapes Go.WideShapes Go.Deep Go.RowKit
open Go.Proofs.YtiohgaghmnpplaaGreatDoor.Pl (encU encU_len Bk pL lY gW fY)
structure BD (W u:World)(la lb:List Bk)(a:Option Addr)(q c:Nat)(a2:Option Addr)(q2 c2:Nat):Prop where
 bb:Below W.heap.size W u
 o1:u.ownsRow W.heap.size 106 2 (.slice a q c) q (la.flatMap pL)
 o2:u.ownsRow W.heap.size 106 2 (.slice a2 q2 c2) q2 (lb.flatMap pL)
 ap:∀g,(Value.slice a q c).ownBlock=some g->(Value.slice a2 q2 c2).ownBlock≠some g
section
variable {W u:World} {la lb:List Bk} {a:Option Addr} {q c:Nat} {a2:Option Addr} {q2 c2:Nat}
theorem BD.next {u':World}(h:BD W u la lb a q c a2 q2 c2)(hb:Below u.heap.size u u'):BD W u' la lb a q c a2 q2 c2:=
 ⟨after h.bb hb,Pl.own_next h.o1 hb,Pl.own_next h.o2 hb,h.ap⟩
theorem BD.swap (h:BD W u la lb a q c a2 q2 c2):BD W u lb la a2 q2 c2 a q c:=
 ⟨h.bb,h.o2,h.o1,fun g h1 h2=>h.ap g h2 h1⟩
theorem BD.app (h:BD W u la lb a q c a2 q2 c2)(b:Bk)(hq:q<=1000000):
  ∃g cap w',(Builtin.append_ #[103,103] 103 #[.slice a q c,.slice (some ⟨u.heap.size,0,none⟩) 1 1]).run Tryz.prog (u.alloc (.cells #[.int .i64 b.1,.int .i64 b.2] 106))=.ok (.slice (some ⟨g,0,none⟩) (q+1) cap) w'/\
   BD W w' (la++ [b]) lb (some ⟨g,0,none⟩) (q+1) cap a2 q2 c2:=by
 obtain⟨i0,hi,hz0,hz1,hz2⟩:=info_parts info_blk;obtain⟨W4,hW4⟩:=aE (u.alloc (.cells #[.int .i64 b.1,.int .i64 b.2] 106));have hb4:Below u.heap.size u W4:=by rw[hW4];exact aC _ _
 have h4:=h.next hb4;have hz4:W4.heap.size=u.heap.size+1:=by rw[hW4];exact World.size_alloc _ _
 have hnews:∀j x,[Value.int .i64 b.1,.int .i64 b.2][j]?=some x->W4.cell? ((⟨u.heap.size,0,none⟩:Addr).add j)=some x:=by
  rw[hW4];exact World.news_of_block (cs:=#[.int .i64 b.1,.int .i64 b.2]) (t:=106) (fr:=(0,0)) (heap_alloc_new u _)
 obtain ⟨g,cap,w',hr,ho,hgr,hlie,hlt⟩:=run_append_lies (P:=Tryz.prog) (w:=W4) 103 103 W.heap.size 106 i0 _ 2 16 Tryz.underlying103 hi hz0 hz1 hz2 rfl (by decide) (.slice a q c) q (la.flatMap pL) h4.o1 ⟨u.heap.size,0,none⟩ 1 1 [.int .i64 b.1,.int .i64 b.2] rfl hnews (by intro x hx;simp only [List.mem_cons,List.not_mem_nil,or_false] at hx;rcases hx with rfl | rfl <;> rfl) (by decide) (by unfold maxLen;omega) (by omega) h4.bb.size (u.heap.size+1) hz4;rw[<-hW4];refine⟨g,cap,w',hr,⟨h4.bb.grown hgr h4.bb.size (fun j hj=>(h4.o1.lt j hj).1),by rw[List.flatMap_append];exact ho,h4.o2.kept hgr ?_,fun g' hg' he=>?_⟩⟩
 ·cases e:(Value.slice a2 q2 c2).ownBlock with
  |none=>exact .inl rfl
  |some j=>exact .inr (fun e2=>h.ap j e2.symm (by rw[e]))
 ·simp only[Value.ownBlock,Option.map_some,Option.some.injEq]at hg';subst hg';rcases hlie with h1|h1
  ·exact h.ap g h1 he
  ·have:=(h.o2.lt g he).2;omega
end
theorem blkV_code {S:List Sc}{v:List Vn}{x:Nat}{a:Int}(h:bG S x=1):pN S v x a=(((gN S x+12*cZ v x:Nat):Int),max a 2):=by unfold pN;rw[if_pos h]
theorem blkV_data {S:List Sc}{v:List Vn}{x:Nat}{a:Int}(h:¬bG S x=1):pN S v x a=(((iI S x:Nat):Int),a):=by unfold pN;rw[if_neg h]
theorem rlay_any (p:Yp)(Lm:List Ms)(S:List Sc)(rep:List Int)(L:List Nat)(align:List Int)(va:Option Addr)(vn vc:Nat)(v:List Vn)(t d st r:Int)(w:World)(hS:S=Lm.map (·.sc))(hQ:iT S rep L align)
  (hs:SL mX 6 w w.heap.size p.ua p.n Lm) (hl:SL dT 1 w w.heap.size p.la p.ln (L.map Int.ofNat)) (ha:SL dT 1 w w.heap.size p.aa p.an align) (hlt:∀x∈L,x<p.n) (hn:p.n<=1000000) (hv:SL gB 3 w w.heap.size va vn v) (hvr:aX S L [] v=true) (hvn:vn<=100000) (t0:0<=t) (t1:t<=4611686018427387904) (d0:0<=d) (d1:d<=4611686018427387904):
  Calls Tryz.prog 30 #[.slice p.ua p.n p.uc,p.kp,.agg (fV t d st r),.slice va vn vc] w (TwoU (bF S L align t d v) (kS S L (bF S L align t d v) v) w):=by
 obtain⟨ua,n,uc,ra,rn,rc,la,ln,lc,aa,an,ac⟩:=p;simp only[]at hs hl ha hlt hn⊢;have HLl:Hid (L.length=ln):=aH (by have:=hl.len;simpa using this.symm);have HAl:Hid (align.length=ln):=aH (by rw[hQ.al];exact HLl.out);have HLn:Hid (ln<=256):=aH (by rw[<-HLl.out];exact hQ.n256);have HV:=aH hv;have HV3:=aH (gZ.1 hvr).2.2;have HBl:Hid (∀(u:World) (i x:Nat) (a:Int),Below w.heap.size w u->L[i]?=some x->align[i]?=some a->Calls Tryz.prog 60 #[.slice ua n uc,.agg #[.slice ra rn rc,.slice la ln lc,.slice aa an ac],.slice va vn vc,.int .i64 i] u (aP (.agg #[.int .i64 (pN S v x a).1,.int .i64 (pN S v x a).2]) u)):=aH fun u i x a hu h1 h2=>by
  have hxL:=eQ h1;exact rblock_any ua n uc ra rn rc la ln lc aa an ac va vn vc Lm S L align v i x a u hS (hs.next hu) (hl.next hu) (ha.next hu) h1 h2 (hQ.a0 a (eQ h2)) (hlt x hxL) (by obtain⟨s,h3,h4,-⟩:=hQ.inn x hxL;unfold iI;rw[h3];exact h4) hn (by have:=HLn.out;omega) (hv.next hu) hvn
 have HQ:=aH hQ;have HSe:=aH hS;have HSs:=aH hs;have HLs:=aH hl;have HLt:=aH hlt;have HT:=aH (And.intro (And.intro t0 t1) (And.intro d0 d1));have HVr:=aH hvr;have HVn:=aH (And.intro hv.len hvn);obtain⟨X,hX⟩:=aE w.heap.size;obtain⟨W,hW⟩:=aE ((w.alloc (.cells #[.slice ra rn rc,.slice la ln lc,.slice aa an ac] 25)).alloc (.cells (fV t d st r) 28));have z1:(w.alloc (.cells #[.slice ra rn rc,.slice la ln lc,.slice aa an ac] 25)).heap.size=X+1:=by rw[World.size_alloc,hX]
 have HB:Hid (Below w.heap.size w W):=aH (by rw[hW];exact after (aC _ _) (aC _ _));have HK:Hid (RB W X #[.slice ra rn rc,.slice la ln lc,.slice aa an ac] 25):=aH (by rw[hW,hX];exact(aQ _ _ _).next (aC _ _));have HO:Hid (RB W (X+1) (fV t d st r) 28):=aH (by rw[hW,<-z1];exact aQ _ _ _);have HWe:=aH hW.symm;have HXe:=aH hX.symm;have HB0:Hid (BD W W (gK S v ((L.zip align).take 0)) (dP S ((L.zip align).take 0)) none 0 0 none 0 0):=aH ⟨Below.refl _ _,World.ownsRow_nil _ _ _ _,World.ownsRow_nil _ _ _ _,fun g h=>by cases h⟩;clear hX hW z1 hS hQ hs hl ha hlt hn hv hvr hvn t0 t1 d0 d1;go_enter Tryz.func30,Tryz.ntmps30;go_wp2_with fail
 rw[HWe.out,HXe.out];go_loopw [10,11,12] (fun tv dv i wr=>∃(k:Nat) (wy:World) (a:Option Addr) (q c:Nat) (a2:Option Addr) (q2 c2:Nat),wy=wr/\k<=ln/\tv=.slice a q c/\dv=.slice a2 q2 c2/\i=.int .i64 k/\Hid (q=(gK S v ((L.zip align).take k)).length)/\Hid (q2=(dP S ((L.zip align).take k)).length)/\Hid (BD W wy (gK S v ((L.zip align).take k)) (dP S ((L.zip align).take k)) a q c a2 q2 c2)) (fun _ _ i _=>ln-(intOf i).toNat)
 case atStart=>exact⟨0,_,none,0,0,none,0,0,rfl,by omega,rfl,rfl,rfl,aH rfl,aH rfl,HB0⟩
 case round=>
  clear HB0;obtain⟨k,wy,a,q,c,a2,q2,c2,rfl,hk,rfl,rfl,rfl,HQ1,HQ2,HBD⟩:=hrel;have HKy:=aH (HK.out.next HBD.out.bb);have k0:wy.cell? ⟨X,0,none⟩=some (.slice ra rn rc):=HKy.out.cell;have k1:wy.cell? ⟨X,1,none⟩=some (.slice la ln lc):=HKy.out.cell;have k2:wy.cell? ⟨X,2,none⟩=some (.slice aa an ac):=HKy.out.cell;by_cases hlt:k<ln
  ·have hlti:(k:Int)<(ln:Int):=by omega
   have HLT:=aH hlt;have HWk:Hid (wrap64 ((k:Int)+1)=(k:Int)+1):=aH (by have:=HLn.out;unfold wrap64;omega);obtain⟨x,hx⟩:=aG (l:=L) (i:=k) (by rw[HLl.out];exact hlt);obtain⟨al,hal⟩:=aG (l:=align) (i:=k) (by rw[HAl.out];exact hlt);have HTk:Hid ((L.zip align).take (k+1)=(L.zip align).take k++ [(x,al)]):=aH (by
    rw[List.take_add_one];congr 1;rw[List.getElem?_zip_eq_some.2 (show L[k]?=some (x,al).1/\align[k]?=some (x,al).2 from⟨hx,hal⟩)];rfl)
   have hxn:x<n:=HLt.out x (eQ hx);have hxi:(x:Int)<(n:Int):=by omega
   have HBw:Hid (Below w.heap.size w wy):=aH (after HB.out HBD.out.bb);obtain⟨lb,lo,hla,-,-⟩:=HLs.out.cells (by intro e;rw[List.map_eq_nil_iff]at e;rw[e]at hx;cases hx);subst hla;have l0:wy.cell? ⟨lb,lo+k,none⟩=some (.int .i64 (x:Int)):=bR HLs.out HBw.out (by rw[List.getElem?_map,hx];rfl);obtain⟨m,hm⟩:=aG (l:=Lm) (i:=x) (by have:=HSs.out.len;omega);obtain⟨ub,uo,hua,-,-⟩:=HSs.out.cells (by intro e;rw[e]at hm;cases hm);subst hua;obtain⟨kd,hkd⟩:=aE m.sc.kind;have hkin:bG S x=kd:=by unfold bG;rw[HSe.out,List.getElem?_map,hm,hkd];rfl
   have d1:wy.cell? ⟨ub,uo+x*6+1,none⟩=some (.int .i64 kd):=by rw[hkd];exact(cO HSs.out HBw.out hm).2.1
   have HQl:Hid (q<=1000000/\q2<=1000000):=aH (by
    have h1:=HQ1.out;have h2:=vtx_len (S:=S) (v:=v) (l:=(L.zip align).take k);have h3:=HQ2.out;have h4:=rD (S:=S) (l:=(L.zip align).take k);have h5:((L.zip align).take k).length<=k:=by rw[List.length_take];omega
    have:=HLn.out;omega)
   have HXk:=aH hx;have HAk:=aH hal;clear hx hal hxn hm hkd hlt hk;by_cases hk1:kd=1
   ·have hke:(kd==1)=true:=by simp[hk1]
    have hvt:gK S v ((L.zip align).take (k+1))=gK S v ((L.zip align).take k)++ [pN S v x al]:=by rw[HTk.out,qY,if_pos (by rw[hkin];exact hk1),blkV_code (by rw[hkin];exact hk1)]
    have hvd:dP S ((L.zip align).take (k+1))=dP S ((L.zip align).take k):=by rw[HTk.out,oM,if_pos (by rw[hkin];exact hk1),List.append_nil]
    have HVt:=aH hvt;have HVd:=aH hvd;clear hvt hvd hk1 hkin;go_wp2_with fail
    refine(HBl.out wy k x al HBw.out HXk.out HAk.out).mono ?_;rintro e u1 ⟨rfl,hb1⟩;have HBD1:=aH (HBD.out.next hb1);obtain⟨g,cap,W5,hr,hB5⟩:=HBD1.out.app (pN S v x al) HQl.out.1;have HAp:=aH hr;have HQ1n:Hid (q+1=(gK S v ((L.zip align).take (k+1))).length):=aH (by rw[HVt.out,HQ1.out,List.length_append];rfl);have HQ2n:Hid (q2=(dP S ((L.zip align).take (k+1))).length):=aH (by rw[HVd.out];exact HQ2.out);have HBn:Hid (BD W W5 (gK S v ((L.zip align).take (k+1))) (dP S ((L.zip align).take (k+1))) (some ⟨g,0,none⟩) (q+1) cap a2 q2 c2):=aH (by rw[HVt.out,HVd.out];exact hB5);clear hr hB5 hb1 k0 k1 k2 l0 d1;go_wp2_with (at_builtin;refine Lib.wpList_append_run _ rfl _ _ 103 103 rfl _ _ (by rfl) (by rfl) _ _ HAp.out ?_)
    go_roundw
    case rel=>exact⟨k+1,_,some ⟨g,0,none⟩,q+1,cap,a2,q2,c2,rfl,by have:=HLT.out;omega,rfl,rfl,by first|go_num|(rw[HWk.out];go_num),HQ1n,HQ2n,HBn⟩
    case measure=>first|exact aL HLT HWk|exact aK HLT HWk
   ·have hke:(kd==1)=false:=by simp[hk1]
    have hvt:gK S v ((L.zip align).take (k+1))=gK S v ((L.zip align).take k):=by rw[HTk.out,qY,if_neg (by rw[hkin];exact hk1),List.append_nil]
    have hvd:dP S ((L.zip align).take (k+1))=dP S ((L.zip align).take k)++ [pN S v x al]:=by rw[HTk.out,oM,if_neg (by rw[hkin];exact hk1),blkV_data (by rw[hkin];exact hk1)]
    have HVt:=aH hvt;have HVd:=aH hvd;clear hvt hvd hk1 hkin;go_wp2_with fail
    refine(HBl.out wy k x al HBw.out HXk.out HAk.out).mono ?_;rintro e u1 ⟨rfl,hb1⟩;have HBD1:=aH (HBD.out.next hb1);obtain⟨g,cap,W5,hr,hB5⟩:=HBD1.out.swap.app (pN S v x al) HQl.out.2;have HAp:=aH hr;have HQ1n:Hid (q=(gK S v ((L.zip align).take (k+1))).length):=aH (by rw[HVt.out];exact HQ1.out);have HQ2n:Hid (q2+1=(dP S ((L.zip align).take (k+1))).length):=aH (by rw[HVd.out,HQ2.out,List.length_append];rfl);have HBn:Hid (BD W W5 (gK S v ((L.zip align).take (k+1))) (dP S ((L.zip align).take (k+1))) a q c (some ⟨g,0,none⟩) (q2+1) cap):=aH (by rw[HVt.out,HVd.out];exact hB5.swap);clear hr hB5 hb1 k0 k1 k2 l0 d1;go_wp2_with (at_builtin;refine Lib.wpList_append_run _ rfl _ _ 103 103 rfl _ _ (by rfl) (by rfl) _ _ HAp.out ?_)
    go_roundw
    case rel=>exact⟨k+1,_,a,q,c,some ⟨g,0,none⟩,q2+1,cap,rfl,by have:=HLT.out;omega,rfl,rfl,by first|go_num|(rw[HWk.out];go_num),HQ1n,HQ2n,HBn⟩
    case measure=>first|exact aL HLT HWk|exact aK HLT HWk
  ·obtain rfl:ln=k:=by omega
   have hge:¬(ln:Int)<(ln:Int):=by omega
   clear hk hlt;have HTz:Hid ((L.zip align).take ln=L.zip align):=aH (List.take_of_length_le (by rw[List.length_zip,HLl.out,HAl.out];omega));rw[HTz.out]at HQ1 HQ2 HBD;obtain⟨l1,hl1⟩:=aE (gK S v (L.zip align));obtain⟨l2,hl2⟩:=aE (dP S (L.zip align));rw[<-hl1]at HQ1 HBD;rw[<-hl2]at HQ2 HBD;have hk1:=vtx_ok HQ.out (v:=v) HV3.out;have hk2:=vdat_ok HQ.out;rw[<-hl1]at hk1;rw[<-hl2]at hk2;have hz1:(L.zip align).length<=256:=by rw[List.length_zip,HLl.out];have:=HLn.out;omega
   have hn1:l1.length<=256:=by rw[hl1];exact Nat.le_trans vtx_len hz1
   have hn2:l2.length<=256:=by rw[hl2];exact Nat.le_trans rD hz1
   have HOy:=aH (HO.out.next HBD.out.bb);have x0:wy.cell? ⟨X+1,0,none⟩=some (.int .u64 t):=HOy.out.cell;obtain⟨⟨t0,t1⟩,d0,d1⟩:=HT.out;have hPe:(fY l1 t).1++(fY l2 d).1=bF S L align t d v:=by rw[lC hk1 hn1 t1,lC hk2 hn2 d1,hl1,hl2];rfl
   have HPe:=aH hPe;have HK1:=aH hk1;have HK2:=aH hk2;have HN12:Hid (l1.length<=256/\l2.length<=256):=aH ⟨hn1,hn2⟩;have HLL:Hid (((fY l1 t).1).length<=256/\((fY l2 d).1).length<=256):=aH ⟨by rw[lC hk1 hn1 t1,layL_n];exact hn1,by rw[lC hk2 hn2 d1,layL_n];exact hn2⟩;clear hk1 hk2 hz1 hn1 hn2 t0 t1 d0 d1 hPe hl1 hl2;go_wp2_with fail
   refine(Pl.refLay_any a q c l1 t wy (by have:=HQ1.out;have:=HN12.out.1;omega) (by obtain⟨a',c',e',h9,-⟩:=SL.ofOwns lY (by decide) HBD.out.o1;injection e' with e1 e2 e3;subst e1;rw[HQ1.out];rw[HQ1.out]at h9;exact h9) (fun b hb=>by have:=HK1.out b hb;unfold Pl.bkB Pl.i64B;omega) HT.out.1.1 (by have:=HT.out.1.2;omega)).mono ?_;rintro e u1 ⟨a1,n1,c1,rfl,hs1,hnil1,hb1⟩;have x1:u1.cell? ⟨X+1,1,none⟩=some (.int .u64 d):=(HOy.out.next hb1).cell;have HB1:=aH (HBD.out.next hb1);have HS1:=aH (And.intro hs1 hnil1);have HS1l:Hid (n1=((fY l1 t).1).length):=aH hs1.len;clear x0 k0 k1 k2 hs1 hnil1 hb1;go_wp2_with fail
   refine(Pl.refLay_any a2 q2 c2 l2 d u1 (by have:=HQ2.out;have:=HN12.out.2;omega) (by obtain⟨a',c',e',h9,-⟩:=SL.ofOwns lY (by decide) HB1.out.o2;injection e' with e1 e2 e3;subst e1;rw[HQ2.out];rw[HQ2.out]at h9;exact h9) (fun b hb=>by have:=HK2.out b hb;unfold Pl.bkB Pl.i64B;omega) HT.out.2.1 (by have:=HT.out.2.2;omega)).mono ?_;rintro e u2 ⟨a3,n3,c3,rfl,hs3,hnil3,hb3⟩;have hl3:=hs3.len;have hBs:W.heap.size<=u2.heap.size:=(after HB1.out.bb hb3).size;obtain⟨a4,c4,u3,hr,ho4,hg4⟩:=app_words (w:=u2) (B:=W.heap.size) (n:=0) (c:=0) (xs:=[]) (a:=none) (World.ownsRow_nil _ _ _ _) (HS1.out.1.next hb3) HS1.out.2 (by omega) (by rw[HS1l.out];have:=HLL.out.1;omega) hBs 31;rw[Nat.zero_add,List.nil_append]at ho4;rw[Nat.zero_add]at hr;have HAp:=aH hr;have hb34:Below u2.heap.size u2 u3:=(Below.refl _ _).grown hg4 (Nat.le_refl _) (fun j hj=>by cases hj);obtain⟨a5,c5,u4,hr5,ho5,hg5⟩:=app_words ho4 (hs3.next hb34) hnil3 (by rw[HS1l.out];have:=HLL.out.1;omega) (by rw[hl3];have:=HLL.out.2;omega) (Nat.le_trans hBs hb34.size) 31;have HAp5:=aH hr5;have HB3:=aH (after (after HB1.out.bb hb3) hb34);have HB4:Hid (Below W.heap.size W u4):=aH (HB3.out.grown hg5 HB3.out.size (fun j hj=>(ho4.lt j hj).1));rw[HPe.out]at ho5;have hpl:=iX S L align t d v HQ.out.al;have hnn:n1+n3=(bF S L align t d v).length:=by rw[<-HPe.out,List.length_append,HS1l.out,hl3]
   rw[hnn]at ho5 HAp5;obtain⟨P,hP⟩:=aE (bF S L align t d v);rw[<-hP]at ho5 hpl hnn HAp5;have HPb:Hid (∀p∈P,0<=p/\p<=4611686018432630784):=aH (by rw[hP];exact lR HQ.out HV3.out HT.out.1.1 HT.out.1.2 HT.out.2.1 HT.out.2.2);have HPs:Hid (SL encU 1 u4 u4.heap.size a5 P.length P):=aH (by obtain⟨a',c',e',h9,-⟩:=SL.ofOwns encU_len (by decide) ho5;injection e' with e1 e2 e3;subst e1;exact h9);have HO5:=aH ho5;have HPl:=aH hpl;have HPe2:=aH hP;rw[<-hP];clear hr hr5 ho4 ho5 hg4 hg5 hs3 hnil3 hb3 hb34 hl3 hBs hpl hnn x1 hP;go_upto_region 13 with(at_builtin;refine Lib.wpList_append_run _ rfl _ _ 31 31 rfl _ _ (by rfl) (by rfl) _ _ HAp.out ?_)
   go_upto_region 14 with(at_builtin;refine Lib.wpList_append_run _ rfl _ _ 31 31 rfl _ _ (by rfl) (by rfl) _ _ HAp5.out ?_)
   obtain⟨U,hU⟩:=aE u4;rw[<-hU];rw[<-hU]at HB4 HPs HO5;clear hU;obtain⟨R,hR⟩:=aE (kS S L P v);have HRl:Hid (R.length=vn):=aH (by rw[hR];unfold kS;rw[venR_n];exact HVn.out.1.symm);have HRe:=aH hR;clear hR;obtain⟨i0,hi,hz0,hz1,hz2⟩:=info_parts Pl.info26;have HI:=aH (And.intro hi (And.intro hz0 (And.intro hz1 hz2)));clear hi hz0 hz1 hz2;go_wp2_with fail
   go_loopw [20,21] (fun l i wr=>∃(k:Nat) (wx:World) (a:Option Addr) (c:Nat),wx=wr/\k<=vn/\l=.slice a k c/\i=.int .i64 k/\Hid (Below U.heap.size U wx/\wx.ownsRow U.heap.size 26 1 (.slice a k c) k ((R.take k).flatMap encU))) (fun _ i _=>vn-(intOf i).toNat)
   case atStart=>exact⟨0,_,none,0,rfl,by omega,rfl,rfl,aH ⟨Below.refl _ _,World.ownsRow_nil _ _ _ _⟩⟩
   case round=>
    obtain⟨k,wx,a9,c9,rfl,hk,rfl,rfl,HSt⟩:=hrel;by_cases hlt:k<vn
    ·have hlti:(k:Int)<(vn:Int):=by omega
     have HLT:=aH hlt;have HWk:Hid (wrap64 ((k:Int)+1)=(k:Int)+1):=aH (by have:=HVn.out.2;unfold wrap64;omega);have hkl:k<v.length:=by have:=HVn.out.1;omega
     obtain⟨x,hx⟩:=aG (l:=v) (i:=k) hkl;obtain⟨vb,vo,hva,-,-⟩:=HV.out.cells (by intro e;rw[e]at hkl;simp at hkl);subst hva;have HVc:Hid (∀(u:World) (q:Nat) (y:Vn),Below w.heap.size w u->v[q]?=some y->u.cell? ⟨vb,vo+q*3,none⟩=some (.int .i64 y.1)/\u.cell? ⟨vb,vo+q*3+1,none⟩=some (.int .i64 y.2.1)/\u.cell? ⟨vb,vo+q*3+2,none⟩=some (.int .i64 y.2.2)):=aH fun u q y hu hq=>by
      obtain⟨b,o,e,-,hc⟩:=(HV.out.next hu).cells (by intro e;rw[e]at hkl;simp at hkl);cases e
      exact fI (off:=vo) (k:=q) (x:=y) (fun j hj=>by have h1:=hc q (eX hq).1 j hj;rw[(eX hq).2]at h1;exact h1)
     obtain⟨ks,hks,hst,hkL⟩:∃q:Nat,x.1=(q:Int)/\bC L x.1=true/\q∈L:=by
      have h1:=((gZ.1 HVr.out).2.1 x (eQ hx)).1;unfold eF at h1;simp only[Bool.and_eq_true]at h1;have h2:=h1.1;unfold bC at h2;simp only[Bool.and_eq_true,decide_eq_true_eq]at h2;exact⟨x.1.toNat,by omega,h1.1,h2.2⟩
     have hkn:=HLt.out ks hkL;have hRk:R[k]?=some (pK L P (ks:Int)+((gN S ks+12*cZ (v.take k) (ks:Int):Nat):Int)):=by
      have:=venR_at (S:=S) (live:=L) (P:=P) v [] k x hx;rw[hks,List.nil_append,Int.toNat_natCast]at this;rw[HRe.out];exact this
     have hc64:cZ (v.take k) (ks:Int)<=64:=Nat.le_trans (cnt_take k) (HV3.out _);obtain⟨m,hm⟩:=aG (l:=Lm) (i:=ks) (by have:=HSs.out.len;omega);obtain⟨ub,uo,hua,-,-⟩:=HSs.out.cells (by intro e;rw[e]at hm;cases hm);subst hua;have hlen:iI S ks=m.sc.data.length:=by unfold iI;rw[HSe.out,List.getElem?_map,hm];rfl
     have hd:m.sc.data.length<=4096:=by
      obtain⟨s,h3,h4,-⟩:=HQ.out.inn ks hkL;rw[HSe.out,List.getElem?_map,hm]at h3;cases h3;exact h4
     obtain⟨D,hD⟩:∃D:ByteArray,D=⟨m.sc.data.toArray⟩:=⟨_,rfl⟩;have hDs:D.size=m.sc.data.length:=by rw[hD];show m.sc.data.toArray.size=_;simp
     have HDc:Hid (∀u,Below w.heap.size w u->u.cell? ⟨ub,uo+ks*6+4,none⟩=some (.string D)):=aH fun u hu=>by rw[hD];exact(cO HSs.out hu hm).2.2.2.2.1
     obtain⟨en,hene⟩:=aE ((D.size+3)/4*4);have hene2:gN S ks=en:=by unfold gN;rw[hlen,hene,hDs]
     rw[hene2]at hRk;have HUp:Hid (∀u,Calls Tryz.prog 62 #[.int .i64 (D.size:Nat)] u (bQ (.int .i64 ((D.size+3)/4*4:Nat)) u)):=aH fun u=>rup_any _ u (by omega)
     have hen:en<=5000:=by omega
     obtain⟨j,hj⟩:=aE (L.idxOf ks);have hjl:j<P.length:=by rw[HPl.out,hj];exact List.idxOf_lt_length_iff.2 hkL
     obtain⟨pv,hpv⟩:=aG (l:=P) (i:=j) hjl;obtain⟨pv0,pv1⟩:=HPb.out pv (eQ hpv);rw[plc_at (by rw[<-hj];exact hpv)]at hRk;obtain⟨pb,po,hpa,-,-⟩:=HPs.out.cells (by intro e;rw[e]at hpv;cases hpv);subst hpa;have HPc:=aH (fun u (hu:Below U.heap.size U u)=>gC HPs.out hu hpv);have HLv:Hid (kF (L.map Int.ofNat) (ks:Int)=(j:Int)):=aH (by rw[<-hks,lV hst,hks,Int.toNat_natCast,hj]);have HRl2:Hid (∀u,Below w.heap.size w u->Calls Tryz.prog 45 #[.agg #[.slice ra rn rc,.slice la ln lc,.slice aa an ac],.int .i64 (ks:Int)] u (aP (.int .i64 (j:Int)) u)):=aH fun u hu=>by
      rw[<-HLv.out];exact oQ ra rn rc la ln lc aa an ac _ _ u (HLs.out.next hu) (by have:=HLn.out;omega)
     have HBw:Hid (∀u,Below U.heap.size U u->Below w.heap.size w u):=aH fun u hu=>after HB.out (after HB4.out hu)
     have HBK:Hid (∀u,Below U.heap.size U u->RB u X #[.slice ra rn rc,.slice la ln lc,.slice aa an ac] 25):=aH fun u hu=>HK.out.next (after HB4.out hu)
     have HRk:=aH hRk;have HXk:=aH hx;have HEe:=aH (And.intro hene hen);have HPv:=aH (And.intro pv0 pv1);have hji:(j:Int)<((P.length:Nat):Int):=by omega
     have hki:(ks:Int)<(n:Int):=by omega
     obtain⟨se,tt,ad⟩:=x;simp only[]at hks;subst hks;have HXc:Hid (∀(u:World),Below w.heap.size w u->u.cell? ⟨vb,vo+k*3,none⟩=some (.int .i64 (ks:Int))):=aH fun u hu=>(HVc.out u k _ hu HXk.out).1
     clear hk hlt hkl hx hst hkL hkn hRk hc64 hm hlen hd hD hDs hene hene2 hen hj hjl hpv pv0 pv1;go_wp2_with fail
     obtain⟨V,hV,hT⟩:=aD wx;have HBV:=aH (after HSt.out.1 hT);have HOV:=aH (Pl.own_next HSt.out.2 hT);have HcS:Hid (∀v',Below U.heap.size U v'->v'.cell? ⟨X,0,none⟩=some (.slice ra rn rc)/\v'.cell? ⟨X,1,none⟩=some (.slice la ln lc)/\v'.cell? ⟨X,2,none⟩=some (.slice aa an ac)/\v'.cell? ⟨vb,vo+k*3,none⟩=some (.int .i64 (ks:Int))/\True/\True/\True):=aH fun v' h1=>⟨(HBK.out v' h1).cell,(HBK.out v' h1).cell,(HBK.out v' h1).cell,HXc.out v' (HBw.out v' h1),trivial,trivial,trivial⟩
     have hS0:=HcS.out V HBV.out;refine aR hV HcS.out HBV.out ?_;clear hV hT;iterate 6 refine aN _ rfl hS0 ?_
     refine rd 6 rfl (fun K hK=>?_);go_simp;refine(HRl2.out V (HBw.out _ HBV.out)).mono ?_;rintro e u6 ⟨rfl,hb6⟩;have HB6:=aH (after HBV.out hb6);have HO6:=aH (Pl.own_next HOV.out hb6);have hS1:=HcS.out u6 HB6.out;refine hK.out _ _ hS1 (fun hX9=>?_);clear hK K hX9 hb6 hS0;refine rd 7 rfl (fun K hK=>?_);go_simp;refine hK.out _ _ hS1 (fun hX9=>?_);clear hK K hX9;refine wpAnyH_done (by kernel_rfl) ?_ _;clear HcS hS1;have c0:=HXc.out u6 (HBw.out _ HB6.out);have d4:=HDc.out u6 (HBw.out _ HB6.out);go_wp2_with (go_at_call 62;refine(HUp.out _).mono ?_;rintro e u7 ⟨rfl,rfl⟩)
     obtain⟨hene,hen⟩:=HEe.out;rw[show((D.size:Int)+3)/4*4=((en+12*cZ (v.take 0) (ks:Int):Nat):Int)from by show _=((en+0:Nat):Int);rw[hene];omega];clear hene hen c0 d4 HBV HOV;go_loopw [23,24] (fun nv mv wr=>∃(z:Nat) (wy:World),wy=wr/\z<=k/\nv=.int .i64 ((en+12*cZ (v.take z) (ks:Int):Nat):Int)/\mv=.int .i64 z/\Hid (Below U.heap.size U wy/\wy.ownsRow U.heap.size 26 1 (.slice a9 k c9) k ((R.take k).flatMap encU))) (fun _ mv _=>k-(intOf mv).toNat)
     case atStart=>exact⟨0,_,rfl,by omega,rfl,rfl,aH ⟨HB6.out,HO6.out⟩⟩
     case round=>
      clear HB6 HO6;obtain⟨z,wy,rfl,hz,rfl,rfl,HZ⟩:=hrel;obtain⟨cz,hcz⟩:=aE (en+12*cZ (v.take z) (ks:Int));have hcb:cz<=10000:=by
       have h1:cZ (v.take z) (ks:Int)<=64:=Nat.le_trans (cnt_take z) (HV3.out _);have h2:=HEe.out.2;omega
      rw[<-hcz];have HMw:Hid (wrap64 ((cz:Int)+12)=(cz:Int)+12):=aH (by unfold wrap64;omega);have HCz:=aH hcz;have HVk:=aH (And.intro HLT.out HVn.out);by_cases hjl:z<k
      ·have hjk:(z:Int)<(k:Int):=by omega
       have hzv:(z:Int)<(vn:Int):=by have:=HLT.out;omega
       have HJT:=aH hjl;have HWj:Hid (wrap64 ((z:Int)+1)=(z:Int)+1):=aH (by have:=HVk.out;unfold wrap64;omega);obtain⟨y,hy⟩:=aG (l:=v) (i:=z) (by have:=HVk.out;omega);have HTj:Hid (v.take (z+1)=v.take z++ [y]):=aH (by rw[List.take_add_one,hy];rfl);obtain⟨e0,-,-⟩:=HVc.out wy z y (HBw.out _ HZ.out.1) hy;have c0:=HXc.out wy (HBw.out _ HZ.out.1);have HZn:Hid (∀q,Below U.heap.size U (wy.drewN q)/\(wy.drewN q).ownsRow U.heap.size 26 1 (.slice a9 k c9) k ((R.take k).flatMap encU)):=aH fun q=>⟨below_drewN HZ.out.1 _,Pl.own_next HZ.out.2 (below_drewN (Below.refl _ _) _)⟩
       clear hy hcz hcb hz hjl;by_cases hsx:y.1=(ks:Int)
       ·have hb3:(y.1==(ks:Int))=true:=by simp[hsx]
        have HCn:Hid ((cz:Int)+12=((en+12*cZ (v.take (z+1)) (ks:Int):Nat):Int)):=aH (by rw[HTj.out,gV,jD,if_pos hsx,HCz.out];omega);clear hsx;go_wp2_with fail
        go_quiet (fail);go_wp2_with fail
        go_roundw
        case rel=>exact⟨z+1,_,rfl,by have:=HJT.out;omega,by rw[HMw.out,HCn.out],by first|go_num|(rw[HWj.out];go_num),aH (HZn.out _)⟩
        case measure=>first|exact aL HJT HWj|exact aK HJT HWj
       ·have hb3:(y.1==(ks:Int))=false:=by simp[hsx]
        have HCn:Hid (cz=en+12*cZ (v.take (z+1)) (ks:Int)):=aH (by rw[HTj.out,gV,jD,if_neg hsx,HCz.out,Nat.add_zero]);clear hsx;go_wp2_with fail
        go_quiet (fail);go_wp2_with fail
        go_roundw
        case rel=>exact⟨z+1,_,rfl,by have:=HJT.out;omega,by rw[<-HCn.out],by first|go_num|(rw[HWj.out];go_num),aH (HZn.out _)⟩
        case measure=>first|exact aL HJT HWj|exact aK HJT HWj
      ·obtain rfl:k=z:=by omega
       have hge:¬(k:Int)<(k:Int):=by omega
       have hp:=HPc.out wy HZ.out.1;obtain⟨z9,hz9⟩:=aE (pv+(cz:Int));have hZ9:IntKind.u64.wrap (pv+IntKind.u64.wrap (cz:Int))=z9:=by
        have:=HPv.out;rw[IntKind.wrap_u64,IntKind.wrap_u64,hz9];omega
       have hRt:R.take (k+1)=R.take k++ [z9]:=by rw[List.take_add_one,HRk.out,hz9,hcz];rfl
       obtain⟨W4,hW4⟩:=aE (wy.alloc (.cells #[.int .u64 z9] 26));have hb4:Below wy.heap.size wy W4:=by rw[hW4];exact aC _ _
       obtain⟨hi,hz0,hz1,hz2⟩:=HI.out;obtain ⟨v',W5,hr,ho,hgr,-⟩:=run_append_own (P:=Tryz.prog) W4 U.heap.size 31 31 26 i0 (.int .u64 0) 1 8 Tryz.underlying31 hi hz0 hz1 hz2 rfl (by decide) (.slice a9 k c9) k ((R.take k).flatMap encU) (by rw [hW4];exact HZ.out.2.alloc _) ⟨wy.heap.size,0,none⟩ 1 1 [.int .u64 z9] rfl (by rw [hW4];exact cell_one_new _ _ _) (Pl.one_one z9) (by have:=HVk.out;unfold maxLen;omega) (by have:=HVk.out;omega) (by have h1:=HZ.out.1.size;have:=hb4.size;omega);obtain⟨a',c',rfl⟩:∃a' c',v'=.slice a' (k+1) c':=by
        rcases ho.2 with⟨h,h0⟩|⟨g,cap,cur,h,-⟩
        ·omega
        ·exact⟨_,_,h⟩
       have HB5:Hid (Below U.heap.size U W5):=aH ((after HZ.out.1 hb4).grown hgr (after HZ.out.1 hb4).size (fun jb hjb=>(HZ.out.2.lt jb hjb).1));have HO5:Hid (W5.ownsRow U.heap.size 26 1 (.slice a' (k+1) c') (k+1) ((R.take (k+1)).flatMap encU)):=aH (by rw[hRt,List.flatMap_append];exact ho);rw[hW4]at hr;have HAp9:=aH hr;clear hcz hcb hz hjl hz9 hRt hW4 hb4 hi hz0 hz1 hz2 hr ho hgr;go_wp2_with (at_builtin;refine Lib.wpList_append_run _ rfl _ _ 31 31 rfl _ _ (by rfl) (by rfl) _ _ HAp9.out ?_)
       go_roundw
       case rel=>exact⟨k+1,_,a',c',rfl,by have:=HLT.out;omega,rfl,by first|go_num|(rw[HWk.out];go_num),aH ⟨HB5.out,HO5.out⟩⟩
       case measure=>first|exact aL HLT HWk|exact aK HLT HWk
    ·obtain rfl:vn=k:=by omega
     have hge:¬(vn:Int)<(vn:Int):=by omega
     have HE:Hid (R.take vn=R):=aH (by rw[<-HRl.out,List.take_length]);clear hk hlt;go_wp2_with fail
     go_ret2;rw[<-HPe2.out,<-HRe.out];refine⟨_,_,a9,c9,by rw[HRl.out];rfl,Pl.own_down (Pl.own_next HO5.out HSt.out.1) HB.out.size,?_,?_,after HB.out (after HB4.out HSt.out.1)⟩
     ·rw[HRl.out];have h9:=HSt.out.2;rw[HE.out]at h9;exact Pl.own_down h9 (Nat.le_trans HB.out.size HB4.out.size)
     ·intro g h1 h2;rw[HRl.out]at h2;have:=(HO5.out.lt g h1).2;have:=(HSt.out.2.lt g h2).1;omega
end
end Go.Proofs.YtiohgaghmnpplaaGreatDoor
