/- The reference of shrink: pair. The reference of shrink: Is. -/
import Derived.Test.YtiohgaghmnpplaaGreatDoorqA
import Derived.Test.YtiohgaghmnpplaaGreatDoorh1
import Derived.Test.YtiohgaghmnpplaaGreatDoorw5
set_option maxRecDepth 100000
set_option maxHeartbeats 4000000
set_option linter.unusedVariables false
set_option linter.unusedSimpArgs false
namespace Go.Proofs.YtiohgaghmnpplaaGreatDoor
open Go.ChangeShapes Go.WideShapes Go.Deep Go.RowKit
def PairT (S:List Sc)(rep:List Int)(p q:Nat):Prop:=∀(s t:Sc),S[p]?=some s->S[q]?=some t->(p=q\/dU s t=true)/\∀(i:Nat) (r r':Rl),s.rels[i]?=some r->t.rels[i]?=some r'->rep[r.sym.toNat]?=rep[r'.sym.toNat]?
open Classical in
noncomputable def pairT (S:List Sc) (rep:List Int) (p q:Nat):Bool:=decide (PairT S rep p q)
open Classical in
theorem pairT_iff {S:List Sc}{rep:List Int}{p q:Nat}:pairT S rep p q=true↔PairT S rep p q:=by unfold pairT;exact decide_eq_true_iff
open Classical in
theorem rPair_any (ua:Option Addr)(un uc:Nat)(L:List Ms)(ra:Option Addr)(rc:Nat)(rep:List Int)(w:World)(hs:SL mX 6 w w.heap.size ua un L)(hno:iQ w w.heap.size L)(hu:bN (L.map (·.sc))=true)(hr:SL dT 1 w w.heap.size ra un rep)(p q:Nat)(hp:p<un)(hq:q<un):
  Calls Tryz.prog 73 #[.slice ua un uc,.slice ra un rc,.int .i64 p,.int .i64 q] w (aP (.bool (pairT (L.map (·.sc)) rep p q)) w):=by
 have hlen:(L.map (·.sc)).length=un:=by rw[List.length_map];exact hs.len.symm
 have hun:un<=256:=by rw[<-hlen];exact fK hu
 have hni:(un:Int)<=256:=by omega
 obtain⟨S,hS⟩:=aE (L.map (·.sc));have HLS:Hid (∀(i:Nat) (m:Ms),L[i]?=some m->S[i]?=some m.sc):=aH (fun i m h=>by rw[hS,List.getElem?_map,h];rfl);rw[<-hS]at hlen hu⊢;unfold pairT;have HRs:=aH hr;have HRl:Hid (rep.length=un):=aH hr.len.symm;obtain⟨m,hm⟩:=aG (l:=L) (i:=p) (by rw[<-hs.len];exact hp);obtain⟨m',hm'⟩:=aG (l:=L) (i:=q) (by rw[<-hs.len];exact hq);obtain⟨b,off,hua,hcs⟩:=ms_at hs hm;obtain⟨b',off',hua',hcs'⟩:=ms_at hs hm';rw[hua]at hua';injection hua' with e
 injection e with e1 e2
 subst e1 e2;have HSi:=aH (HLS.out _ _ hm);have HSk:=aH (HLS.out _ _ hm');have HRi:=aH (hno _ (eQ hm));have HRk:=aH (hno _ (eQ hm'));obtain⟨s,ad,cp⟩:=m;obtain⟨t,ad',cp'⟩:=m';simp only at hcs hcs' HSi HSk HRi HRk;have hse:=dZ hu HSi.out;have hse':=dZ hu HSk.out;have HRg:Hid (∀r∈s.rels,0<=r.sym/\r.sym<(un:Int)):=aH (by rw[<-hlen];exact hse.2);have HRg':Hid (∀r∈t.rels,0<=r.sym/\r.sym<(un:Int)):=aH (by rw[<-hlen];exact hse'.2);obtain⟨nr,hnr⟩:=aE s.rels.length;obtain⟨nr',hnr'⟩:=aE t.rels.length;have hnr9:(nr:Int)<=64:=by have:=hse.1.rels;omega
 have hnr9':(nr':Int)<=64:=by have:=hse'.1.rels;omega
 rw[<-hnr]at hcs HRi;rw[<-hnr']at hcs' HRk;have HNr:=aH hnr;have HNr':=aH hnr';obtain⟨N,hN⟩:∃x:ByteArray,x=⟨s.name.toArray⟩:=⟨_,rfl⟩;obtain⟨D,hD⟩:∃x:ByteArray,x=⟨s.data.toArray⟩:=⟨_,rfl⟩;obtain⟨N',hN'⟩:∃x:ByteArray,x=⟨t.name.toArray⟩:=⟨_,rfl⟩;obtain⟨D',hD'⟩:∃x:ByteArray,x=⟨t.data.toArray⟩:=⟨_,rfl⟩;have hd:D.data.toList=s.data:=by rw[hD]
 have hd':D'.data.toList=t.data:=by rw[hD']
 rw[<-hN,<-hD]at hcs;rw[<-hN',<-hD']at hcs';have HAl:Hid (∀v,Below w.heap.size w v->Calls Tryz.prog 105 #[.agg (uCe N s.kind s.keep s.align D ad nr cp),.agg (uCe N' t.kind t.keep t.align D' ad' nr' cp')] v (aP (.bool (dU s t)) v)):=aH (fun v hv=>by
  have:=rAlike_any N D N' D' s.kind t.kind s.align t.align s.keep t.keep ad ad' nr nr' cp cp' s.rels t.rels v (by unfold maxLen;omega) (by unfold maxLen;omega) (HRi.out.next hv) (HRk.out.next hv) s.name t.name;rw[hd,hd']at this;exact this)
 obtain⟨ki,hki⟩:=aE s.kind;obtain⟨kp,hkp⟩:=aE s.keep;obtain⟨al,hal⟩:=aE s.align;obtain⟨ki',hki'⟩:=aE t.kind;obtain⟨kp',hkp'⟩:=aE t.keep;obtain⟨al',hal'⟩:=aE t.align;rw[<-hki,<-hkp,<-hal]at hcs;rw[<-hki',<-hkp',<-hal']at hcs';rw[<-hki,<-hkp,<-hal,<-hki',<-hkp',<-hal']at HAl;have HcX:Hid (∀v,Below w.heap.size w v->v.cell? ⟨b,off+p*6,none⟩=some (.string N)/\v.cell? ⟨b,off+p*6+1,none⟩=some (.int .i64 ki)/\v.cell? ⟨b,off+p*6+2,none⟩=some (.bool kp)/\v.cell? ⟨b,off+p*6+3,none⟩=some (.int .i64 al)/\v.cell? ⟨b,off+p*6+4,none⟩=some (.string D)/\v.cell? ⟨b,off+p*6+5,none⟩=some (.slice ad nr cp)/\v.cell? ⟨b,off+q*6,none⟩=some (.string N')/\v.cell? ⟨b,off+q*6+1,none⟩=some (.int .i64 ki')/\v.cell? ⟨b,off+q*6+2,none⟩=some (.bool kp')/\v.cell? ⟨b,off+q*6+3,none⟩=some (.int .i64 al')/\v.cell? ⟨b,off+q*6+4,none⟩=some (.string D')/\v.cell? ⟨b,off+q*6+5,none⟩=some (.slice ad' nr' cp')):=aH (fun v hv=>by
  obtain⟨c0,c1,c2,c3,c4,c5⟩:=hcs v hv;obtain⟨d0,d1,d2,d3,d4,d5⟩:=hcs' v hv;exact⟨c0,c1,c2,c3,c4,c5,d0,d1,d2,d3,d4,d5⟩)
 obtain⟨v0,hv0⟩:=aE w.drew;have HBw:Hid (Below w.heap.size w v0):=aH (by rw[hv0];exact(Below.refl _ _).drew);have HV0:Hid (w.drew=v0):=aH hv0.symm;have hpi:(p:Int)<(un:Int):=by omega
 have hqi:(q:Int)<(un:Int):=by omega
 obtain⟨A,hA⟩:=aE (dU s t);rw[<-hA]at HAl;have HAe:=aH hA;have hcc:p=q\/(p≠q/\A=false)\/(p≠q/\A=true):=by
  by_cases e:p=q
  ·exact .inl e
  ·cases A
   ·exact .inr (.inl ⟨e,rfl⟩)
   ·exact .inr (.inr ⟨e,rfl⟩)
 subst hua;have HN9:Hid (p=q->nr=nr'):=aH (fun e=>by
  have h1:=HSi.out;rw[e,HSk.out]at h1;cases h1
  rw[hnr,hnr'])
 clear hs hno hu hr hp hq hlen hun hS hm hm' hcs hcs' hse hse' hnr hnr' hN hN' hD hD' hd hd' hki hkp hal hki' hkp' hal' hv0 hA;rcases hcc with e|⟨e,hAe⟩|⟨e,hAe⟩
 ·have t1:((p:Int) !=(q:Int))=false:=by simp[e]
  have HPQ:Hid (p=q\/dU s t=true):=aH (.inl e);have HNn:Hid (nr=nr'):=aH (HN9.out e);clear e;go_enter Tryz.func73,Tryz.ntmps73;go_wp2_with fail
  refine wp_region_held_drew (S:=fun v=>v.cell? ⟨b,off+p*6,none⟩=some (.string N)/\v.cell? ⟨b,off+p*6+1,none⟩=some (.int .i64 ki)/\v.cell? ⟨b,off+p*6+2,none⟩=some (.bool kp)/\v.cell? ⟨b,off+p*6+3,none⟩=some (.int .i64 al)/\v.cell? ⟨b,off+p*6+4,none⟩=some (.string D)/\v.cell? ⟨b,off+p*6+5,none⟩=some (.slice ad nr cp)/\v.cell? ⟨b,off+q*6,none⟩=some (.string N')/\v.cell? ⟨b,off+q*6+1,none⟩=some (.int .i64 ki')/\v.cell? ⟨b,off+q*6+2,none⟩=some (.bool kp')/\v.cell? ⟨b,off+q*6+3,none⟩=some (.int .i64 al')/\v.cell? ⟨b,off+q*6+4,none⟩=some (.string D')/\v.cell? ⟨b,off+q*6+5,none⟩=some (.slice ad' nr' cp')) (by kernel_rfl) (by rw[HV0.out];exact HcX.out _ HBw.out) (fun hHeld=>?_);rw[HV0.out];have hHeld0:=HcX.out _ HBw.out;clear hHeld;iterate 4 refine aN _ rfl hHeld0 ?_
  iterate 10 refine aO rfl hHeld0 ?_
  refine rd 14 rfl (fun K hK=>?_);go_simp;refine hK.out _ _ (HcX.out _ HBw.out) (fun hHeld3=>?_);clear hK K;refine wpAnyH_done (by kernel_rfl) ?_ _;go_wp2_with fail
  go_loopw [9] (fun jv wr=>∃(j:Nat) (wx:World),wx=wr/\j<=nr/\jv=.int .i64 j/\Hid (Below w.heap.size w wx)/\Hid (∀i r r',i<j->s.rels[i]?=some r->t.rels[i]?=some r'->rep[r.sym.toNat]?=rep[r'.sym.toNat]?)) (fun jv _=>nr-(intOf jv).toNat)
  case atStart=>exact⟨0,_,rfl,by omega,rfl,HBw,aH (fun i r r' h=>by omega)⟩
  case round=>
   obtain⟨j,wx,rfl,hj,rfl,HBx,HI⟩:=hrel;have c5:=(HcX.out _ HBx.out).2.2.2.2.2.1;by_cases hlt:j<nr
   ·have hlti:(j:Int)<(nr:Int):=by omega
    have hlti':(j:Int)<(nr':Int):=by have:=HNn.out;omega
    have HLT:=aH hlt;obtain⟨r,hr⟩:=aG (l:=s.rels) (i:=j) (by rw[<-HNr.out];exact hlt);obtain⟨r',hr'⟩:=aG (l:=t.rels) (i:=j) (by rw[<-HNr'.out];omega);obtain⟨b1,o1,ha1,hc1⟩:=rl_at HRi.out hr;obtain⟨b2,o2,ha2,hc2⟩:=rl_at HRk.out hr';subst ha1 ha2;have d1:=hc1 _ HBx.out;have d2:=hc2 _ HBx.out;have c6:=(HcX.out _ HBx.out).2.2.2.2.2.2.2.2.2.2.2;obtain⟨s0,s1⟩:=HRg.out _ (eQ hr);obtain⟨s2,s3⟩:=HRg'.out _ (eQ hr');obtain⟨sy,hsy⟩:∃x:Nat,r.sym=(x:Int):=⟨r.sym.toNat,by omega⟩;obtain⟨sz,hsz⟩:∃x:Nat,r'.sym=(x:Int):=⟨r'.sym.toNat,by omega⟩;rw[hsy]at d1 s1;rw[hsz]at d2 s3;obtain⟨v1,hv1⟩:=aG (l:=rep) (i:=sy) (by rw[HRl.out];omega);obtain⟨v2,hv2⟩:=aG (l:=rep) (i:=sz) (by rw[HRl.out];omega);obtain⟨rb,ro,hra,-,-⟩:=HRs.out.cells (by intro e;rw[e]at hv1;cases hv1);subst hra;have r1:wx.cell? ⟨rb,ro+sy,none⟩=some (.int .i64 v1):=dX HRs.out HBx.out hv1;have r2:wx.cell? ⟨rb,ro+sz,none⟩=some (.int .i64 v2):=dX HRs.out HBx.out hv2;have HEq:Hid (rep[r.sym.toNat]?=some v1/\rep[r'.sym.toNat]?=some v2):=aH ⟨by rw[hsy];exact hv1,by rw[hsz];exact hv2⟩;have HRr:=aH hr;have HRr':=aH hr';clear hlt hj hr hr' hc1 hc2 s0 s2 hsy hsz hv1 hv2;by_cases hvv:v1=v2
    ·have t2:(v1 !=v2)=false:=by simp[hvv]
     have HI1:Hid (∀i r r',i<j+1->s.rels[i]?=some r->t.rels[i]?=some r'->rep[r.sym.toNat]?=rep[r'.sym.toNat]?):=aH (fun i x x' hi hx hx'=>by
      by_cases e:i=j
      ·subst e;rw[HRr.out]at hx;cases hx;rw[HRr'.out]at hx';cases hx';rw[HEq.out.1,HEq.out.2,hvv]
      ·exact HI.out i x x' (by omega) hx hx')
     clear hvv;go_wp2_with fail
     go_big_quiet (fail);go_wp2;go_roundw
     case rel=>exact⟨j+1,_,rfl,by have:=HLT.out;omega,by go_num,aH (below_drewN HBx.out _),HI1⟩
     case measure=>have:=HLT.out;simp[intOf];omega
    ·have t2:(v1 !=v2)=true:=by simp[hvv]
     have HF:Hid (decide (PairT S rep p q)=false):=aH (decide_eq_false (fun h=>hvv (by
      have:=(h s t HSi.out HSk.out).2 j r r' HRr.out HRr'.out;rw[HEq.out.1,HEq.out.2]at this;exact Option.some.inj this)))
     clear hvv;go_wp2_with fail
     go_big_quiet (fail);go_wp2;go_ret;exact aB HF.out.symm (below_drewN HBx.out _)
   ·have hnj:¬(j:Int)<(nr:Int):=by omega
    have HT:Hid (decide (PairT S rep p q)=true):=aH (decide_eq_true (fun s' t' h1 h2=>by
     rw[HSi.out]at h1;cases h1;rw[HSk.out]at h2;cases h2;exact⟨HPQ.out,fun i r r' h3 h4=>HI.out i r r' (by have:=(eX h3).1;rw[<-HNr.out]at this;omega) h3 h4⟩))
    clear hj hlt;go_wp2;go_ret;exact aB HT.out.symm HBx.out
 ·have t1:((p:Int) !=(q:Int))=true:=by simp;omega
  have HF:Hid (decide (PairT S rep p q)=false):=aH (decide_eq_false (fun h=>by
   rcases(h s t HSi.out HSk.out).1 with h1|h1
   ·exact e h1
   ·rw[<-HAe.out,hAe]at h1;cases h1))
  subst hAe;clear e;go_enter Tryz.func73,Tryz.ntmps73;go_wp2_with fail
  refine wp_region_held_drew (S:=fun v=>v.cell? ⟨b,off+p*6,none⟩=some (.string N)/\v.cell? ⟨b,off+p*6+1,none⟩=some (.int .i64 ki)/\v.cell? ⟨b,off+p*6+2,none⟩=some (.bool kp)/\v.cell? ⟨b,off+p*6+3,none⟩=some (.int .i64 al)/\v.cell? ⟨b,off+p*6+4,none⟩=some (.string D)/\v.cell? ⟨b,off+p*6+5,none⟩=some (.slice ad nr cp)/\v.cell? ⟨b,off+q*6,none⟩=some (.string N')/\v.cell? ⟨b,off+q*6+1,none⟩=some (.int .i64 ki')/\v.cell? ⟨b,off+q*6+2,none⟩=some (.bool kp')/\v.cell? ⟨b,off+q*6+3,none⟩=some (.int .i64 al')/\v.cell? ⟨b,off+q*6+4,none⟩=some (.string D')/\v.cell? ⟨b,off+q*6+5,none⟩=some (.slice ad' nr' cp')) (by kernel_rfl) (by rw[HV0.out];exact HcX.out _ HBw.out) (fun hHeld=>?_);rw[HV0.out];have hHeld0:=HcX.out _ HBw.out;clear hHeld;iterate 12 refine aN _ rfl hHeld0 ?_
  refine rd 12 rfl (fun K hK=>?_);go_simp;go_wp2_with (go_at_call 105;refine(HAl.out _ HBw.out).mono ?_;rintro e v1 ⟨rfl,hb1⟩)
  have HBw1:=aH (after HBw.out hb1);clear hb1;refine hK.out _ _ (HcX.out _ HBw1.out) (fun hHeld2=>?_);clear hK K;refine aI 13 _ rfl hHeld2 ?_;refine rd 14 rfl (fun K hK=>?_);go_simp;refine hK.out _ _ (HcX.out _ HBw1.out) (fun hHeld3=>?_);clear hK K;refine wpAnyH_done (by kernel_rfl) ?_ _;go_wp2;go_ret;exact aB HF.out.symm HBw1.out
 ·have t1:((p:Int) !=(q:Int))=true:=by simp;omega
  have HPQ:Hid (p=q\/dU s t=true):=aH (.inr (by rw[<-HAe.out,hAe]));have HNn:Hid (nr=nr'):=aH (by rw[HNr.out,HNr'.out];exact alike_len (by rw[<-HAe.out,hAe]));subst hAe;clear e;go_enter Tryz.func73,Tryz.ntmps73;go_wp2_with fail
  refine wp_region_held_drew (S:=fun v=>v.cell? ⟨b,off+p*6,none⟩=some (.string N)/\v.cell? ⟨b,off+p*6+1,none⟩=some (.int .i64 ki)/\v.cell? ⟨b,off+p*6+2,none⟩=some (.bool kp)/\v.cell? ⟨b,off+p*6+3,none⟩=some (.int .i64 al)/\v.cell? ⟨b,off+p*6+4,none⟩=some (.string D)/\v.cell? ⟨b,off+p*6+5,none⟩=some (.slice ad nr cp)/\v.cell? ⟨b,off+q*6,none⟩=some (.string N')/\v.cell? ⟨b,off+q*6+1,none⟩=some (.int .i64 ki')/\v.cell? ⟨b,off+q*6+2,none⟩=some (.bool kp')/\v.cell? ⟨b,off+q*6+3,none⟩=some (.int .i64 al')/\v.cell? ⟨b,off+q*6+4,none⟩=some (.string D')/\v.cell? ⟨b,off+q*6+5,none⟩=some (.slice ad' nr' cp')) (by kernel_rfl) (by rw[HV0.out];exact HcX.out _ HBw.out) (fun hHeld=>?_);rw[HV0.out];have hHeld0:=HcX.out _ HBw.out;clear hHeld;iterate 12 refine aN _ rfl hHeld0 ?_
  refine rd 12 rfl (fun K hK=>?_);go_simp;go_wp2_with (go_at_call 105;refine(HAl.out _ HBw.out).mono ?_;rintro e v1 ⟨rfl,hb1⟩)
  have HBw1:=aH (after HBw.out hb1);clear hb1;refine hK.out _ _ (HcX.out _ HBw1.out) (fun hHeld2=>?_);clear hK K;refine aI 13 _ rfl hHeld2 ?_;refine rd 14 rfl (fun K hK=>?_);go_simp;refine hK.out _ _ (HcX.out _ HBw1.out) (fun hHeld3=>?_);clear hK K;refine wpAnyH_done (by kernel_rfl) ?_ _;go_wp2_with fail
  go_loopw [9] (fun jv wr=>∃(j:Nat) (wx:World),wx=wr/\j<=nr/\jv=.int .i64 j/\Hid (Below w.heap.size w wx)/\Hid (∀i r r',i<j->s.rels[i]?=some r->t.rels[i]?=some r'->rep[r.sym.toNat]?=rep[r'.sym.toNat]?)) (fun jv _=>nr-(intOf jv).toNat)
  case atStart=>exact⟨0,_,rfl,by omega,rfl,HBw1,aH (fun i r r' h=>by omega)⟩
  case round=>
   obtain⟨j,wx,rfl,hj,rfl,HBx,HI⟩:=hrel;have c5:=(HcX.out _ HBx.out).2.2.2.2.2.1;by_cases hlt:j<nr
   ·have hlti:(j:Int)<(nr:Int):=by omega
    have hlti':(j:Int)<(nr':Int):=by have:=HNn.out;omega
    have HLT:=aH hlt;obtain⟨r,hr⟩:=aG (l:=s.rels) (i:=j) (by rw[<-HNr.out];exact hlt);obtain⟨r',hr'⟩:=aG (l:=t.rels) (i:=j) (by rw[<-HNr'.out];omega);obtain⟨b1,o1,ha1,hc1⟩:=rl_at HRi.out hr;obtain⟨b2,o2,ha2,hc2⟩:=rl_at HRk.out hr';subst ha1 ha2;have d1:=hc1 _ HBx.out;have d2:=hc2 _ HBx.out;have c6:=(HcX.out _ HBx.out).2.2.2.2.2.2.2.2.2.2.2;obtain⟨s0,s1⟩:=HRg.out _ (eQ hr);obtain⟨s2,s3⟩:=HRg'.out _ (eQ hr');obtain⟨sy,hsy⟩:∃x:Nat,r.sym=(x:Int):=⟨r.sym.toNat,by omega⟩;obtain⟨sz,hsz⟩:∃x:Nat,r'.sym=(x:Int):=⟨r'.sym.toNat,by omega⟩;rw[hsy]at d1 s1;rw[hsz]at d2 s3;obtain⟨v1,hv1⟩:=aG (l:=rep) (i:=sy) (by rw[HRl.out];omega);obtain⟨v2,hv2⟩:=aG (l:=rep) (i:=sz) (by rw[HRl.out];omega);obtain⟨rb,ro,hra,-,-⟩:=HRs.out.cells (by intro e;rw[e]at hv1;cases hv1);subst hra;have r1:wx.cell? ⟨rb,ro+sy,none⟩=some (.int .i64 v1):=dX HRs.out HBx.out hv1;have r2:wx.cell? ⟨rb,ro+sz,none⟩=some (.int .i64 v2):=dX HRs.out HBx.out hv2;have HEq:Hid (rep[r.sym.toNat]?=some v1/\rep[r'.sym.toNat]?=some v2):=aH ⟨by rw[hsy];exact hv1,by rw[hsz];exact hv2⟩;have HRr:=aH hr;have HRr':=aH hr';clear hlt hj hr hr' hc1 hc2 s0 s2 hsy hsz hv1 hv2;by_cases hvv:v1=v2
    ·have t2:(v1 !=v2)=false:=by simp[hvv]
     have HI1:Hid (∀i r r',i<j+1->s.rels[i]?=some r->t.rels[i]?=some r'->rep[r.sym.toNat]?=rep[r'.sym.toNat]?):=aH (fun i x x' hi hx hx'=>by
      by_cases e:i=j
      ·subst e;rw[HRr.out]at hx;cases hx;rw[HRr'.out]at hx';cases hx';rw[HEq.out.1,HEq.out.2,hvv]
      ·exact HI.out i x x' (by omega) hx hx')
     clear hvv;go_wp2_with fail
     go_big_quiet (fail);go_wp2;go_roundw
     case rel=>exact⟨j+1,_,rfl,by have:=HLT.out;omega,by go_num,aH (below_drewN HBx.out _),HI1⟩
     case measure=>have:=HLT.out;simp[intOf];omega
    ·have t2:(v1 !=v2)=true:=by simp[hvv]
     have HF:Hid (decide (PairT S rep p q)=false):=aH (decide_eq_false (fun h=>hvv (by
      have:=(h s t HSi.out HSk.out).2 j r r' HRr.out HRr'.out;rw[HEq.out.1,HEq.out.2]at this;exact Option.some.inj this)))
     clear hvv;go_wp2_with fail
     go_big_quiet (fail);go_wp2;go_ret;exact aB HF.out.symm (below_drewN HBx.out _)
   ·have hnj:¬(j:Int)<(nr:Int):=by omega
    have HT:Hid (decide (PairT S rep p q)=true):=aH (decide_eq_true (fun s' t' h1 h2=>by
     rw[HSi.out]at h1;cases h1;rw[HSk.out]at h2;cases h2;exact⟨HPQ.out,fun i r r' h3 h4=>HI.out i r r' (by have:=(eX h3).1;rw[<-HNr.out]at this;omega) h3 h4⟩))
    clear hj hlt;go_wp2;go_ret;exact aB HT.out.symm HBx.out
def RngZ (S:List Sc)(rep:List Int)(i:Nat):Prop:=∀v,rep[i]?=some v -> -1<=v/\v<(S.length:Int)
def OkAt (S:List Sc)(rep:List Int)(i:Nat):Prop:=∀v,rep[i]?=some v->v= -1\/(0<=v/\rep[v.toNat]?=some v/\PairT S rep i v.toNat/\∀(s:Sc),S[i]?=some s->∀(j:Nat) (r:Rl),s.rels[j]?=some r->rep[r.sym.toNat]? ≠some (-1))
theorem reps_rng {S:List Sc}{rep:List Int}(h:jP S rep)(i:Nat):RngZ S rep i:=fun v hv=>by
 rcases h.2 i v hv with h1|⟨h1,h2,-⟩
 ·subst h1;exact⟨by omega,by have:=reps_lt h i _ hv;omega⟩
 ·exact⟨by omega,h2⟩
theorem reps_ok {S:List Sc}{rep:List Int}(hu:bN S=true)(h:jP S rep)(hl:pS S rep)(i:Nat):OkAt S rep i:=fun v hv=>by
 rcases h.2 i v hv with h1|⟨h1,h2,h3,h4⟩
 ·exact .inl h1
 ·have hi:i<S.length:=by rw[<-h.1];exact(eX hv).1
  have hal:∀(s t:Sc),S[i]?=some s->S[v.toNat]?=some t->(i=v.toNat\/dU s t=true):=fun s t hs ht=>by
   rcases h4 with h4|h4
   ·exact .inl (by omega)
   ·exact .inr (h4 s t hs ht)
  have hlen:∀(s t:Sc),S[i]?=some s->S[v.toNat]?=some t->s.rels.length=t.rels.length:=fun s t hs ht=>by
   rcases hal s t hs ht with h5|h5
   ·rw[<-h5,hs]at ht;cases ht;rfl
   ·exact alike_len h5
  refine .inr ⟨h1,h3,fun s t hs ht=>⟨hal s t hs ht,fun j r r' hr hr'=>?_⟩,fun s hs j r hr=>?_⟩
  ·obtain⟨x,-,e1,e2⟩:=hl i v hv h1 s t hs ht j r r' hr hr';rw[e1,e2]
  ·have ht:=iS (show v.toNat<S.length by omega);have hj:=(eX hr).1;rw[hlen s _ hs ht]at hj;obtain⟨x,hx,e1,-⟩:=hl i v hv h1 s _ hs ht j r _ hr (iS hj);rw[e1];intro e;have:=Option.some.inj e;omega
theorem ok_reps {S:List Sc}{rep:List Int}(hu:bN S=true)(hn:rep.length=S.length)(hr:∀i,i<S.length->RngZ S rep i)(h:∀i,i<S.length->OkAt S rep i):jP S rep/\pS S rep:=by
 have hin:∀(i:Nat) (v:Int),rep[i]?=some v->i<S.length:=fun i v hv=>by rw[<-hn];exact(eX hv).1
 refine⟨⟨hn,fun k v hv=>?_⟩,fun k v hv h0 s t hs ht j r r' hrr hrr'=>?_⟩
 ·have hk:=hin k v hv;rcases h k hk v hv with h1|⟨h1,h2,h3,-⟩
  ·exact .inl h1
  ·refine .inr ⟨h1,(hr k hk v hv).2,h2,?_⟩;by_cases e:v=(k:Int)
   ·exact .inl e
   ·exact .inr (fun s t hs ht=>by
     rcases(h3 s t hs ht).1 with h4|h4
     ·exact absurd (by omega) e
     ·exact h4)
 ·have hk:=hin k v hv;rcases h k hk v hv with h1|⟨-,-,h3,h4⟩
  ·omega
  ·have e1:=(h3 s t hs ht).2 j r r' hrr hrr';obtain⟨s0,s1⟩:=(dZ hu hs).2 r (eQ hrr);have hx:=iS (show r.sym.toNat<rep.length by omega);have h5:=h4 s hs j r hrr;have h6:=hr _ (by omega) _ hx;refine⟨_,?_,hx,by rw[<-e1];exact hx⟩;rw[hx]at h5;have:rep[r.sym.toNat]'(by omega)≠ -1:=fun e=>h5 (by rw[e])
   omega
theorem rShrIs_any (w:World)(ua:Option Addr)(n uc:Nat)(L:List Ms)(ra:Option Addr)(rn rc:Nat)(rep:List Int)(la:Option Addr)(ln lc:Nat)(live:List Int)(aa:Option Addr)(an ac:Nat)(align:List Int)(hn:n<=maxLen)(hs:SL mX 6 w w.heap.size ua n L)(hno:iQ w w.heap.size L)(hg:∀x∈L,fP x.sc)(hb:∀x∈L,x.sc.rels.length*32<=reachBytes)
  (hr:SL dT 1 w w.heap.size ra rn rep) (hl:SL dT 1 w w.heap.size la ln live) (ha:SL dT 1 w w.heap.size aa an align) (hrn:rn<=1000000) (hln:ln<=1000000) (han:an<=1000000) (hf:qV n L):
  Calls Tryz.prog 43 #[.slice ua n uc,.agg (kpV ra rn rc la ln lc aa an ac)] w (oI (lE (L.map (·.sc)) rep live align) w):=by
 obtain⟨W1,hW1⟩:=aE (w.alloc (.cells (kpV ra rn rc la ln lc aa an ac) 25));have hb1:Below w.heap.size w W1:=by rw[hW1];exact aC w _
 have hr1:RB W1 w.heap.size (kpV ra rn rc la ln lc aa an ac) 25:=by rw[hW1];exact aQ w _ _
 have HIs:=aH (rIsU_any ua n uc L W1 hn (hs.next hb1) (hno.next hb1) hg hb hf);have HWE:Hid (w.alloc (.cells (kpV ra rn rc la ln lc aa an ac) 25)=W1):=aH hW1.symm;have HBu:=aH hb1;have HR1:=aH hr1;obtain⟨X,hX⟩:=aE w.heap.size;have HX:=aH hX;rw[<-hX]at HR1;have hlen:(L.map (·.sc)).length=n:=by rw[List.length_map];exact hs.len.symm
 have hni:(n:Int)<=9223372036854775807:=by unfold maxLen at hn;omega
 have hrni:(rn:Int)<=1000000:=by omega
 by_cases hu:bN (L.map (·.sc))=true;rotate_left
 ·have huf:bN (L.map (·.sc))=false:=by cases h:bN (L.map (·.sc));rfl;exact absurd h hu
  have HNg:Hid (¬lE (L.map (·.sc)) rep live align):=aH (fun hq=>hu hq.1);rw[huf]at HIs;clear hs hno hg hb hr hl ha hrn hln han hf hW1 hb1 hr1 hX hlen hu huf hn;go_enter Tryz.func43,Tryz.ntmps43;go_wp2_with fail
  have hwe:=HWE.out;simp only[kpV]at hwe;rw[hwe,<-HX.out];refine HIs.out.mono ?_;rintro e u ⟨rfl,hb⟩;have HB:=aH (after HBu.out hb);clear hb hwe;go_wp2;go_ret;exact⟨false,rfl,⟨fun h=>(by cases h),fun hq=>absurd hq HNg.out⟩,HB.out⟩
 rw[hu]at HIs;by_cases hnn:rn=n;rotate_left
 ·have t1:((rn:Int) !=(n:Int))=true:=by simp;omega
  have HNg:Hid (¬lE (L.map (·.sc)) rep live align):=aH (fun hq=>hnn (by rw[hr.len,hq.2.1.1,hlen]));clear hs hno hg hb hr hl ha hrn hln han hf hW1 hb1 hr1 hX hlen hu hn hnn;go_enter Tryz.func43,Tryz.ntmps43;go_wp2_with fail
  have hwe:=HWE.out;simp only[kpV]at hwe;rw[hwe,<-HX.out];refine HIs.out.mono ?_;rintro e u ⟨rfl,hb⟩;have HB:=aH (after HBu.out hb);have x0:u.cell? ⟨X,0,none⟩=some (.slice ra rn rc):=(HR1.out.next hb).cell;clear hb hwe;go_wp2;go_ret;exact⟨false,rfl,⟨fun h=>(by cases h),fun hq=>absurd hq HNg.out⟩,HB.out⟩
 subst hnn;have t1:((rn:Int) !=(rn:Int))=false:=by simp
 have hn2:rn<=256:=by have:=fK hu;rw[hlen]at this;exact this
 have hni2:(rn:Int)<=256:=by omega
 have HLv:Hid (∀u,Below w.heap.size w u->Calls Tryz.prog 74 #[.slice ua rn uc,.slice ra rn rc] u (LiveP (L.map (·.sc)) rep u)):=aH fun u hk=>rLive_any ua rn uc L ra rc rep u (hs.next hk) hu (hr.next hk)
 have HPr:Hid (∀u (p q:Nat),Below w.heap.size w u->p<rn->q<rn->Calls Tryz.prog 73 #[.slice ua rn uc,.slice ra rn rc,.int .i64 p,.int .i64 q] u (aP (.bool (pairT (L.map (·.sc)) rep p q)) u)):=aH fun u p q hk hp hq=>rPair_any ua rn uc L ra rc rep u (hs.next hk) (hno.next hk) hu (hr.next hk) p q hp hq
 have HCl:=aH (fun u (hk:Below w.heap.size w u)=>hl.next hk);have HCa:=aH (fun u (hk:Below w.heap.size w u)=>ha.next hk);have HRs:=aH hr;have HRl:Hid (rep.length=rn):=aH hr.len.symm;have HMs:=aH hs;have HNo:=aH hno;have HLL:=aH hs.len;have HLb:Hid (ln<=1000000/\an<=1000000):=aH ⟨hln,han⟩;obtain⟨S,hS⟩:=aE (L.map (·.sc));have HLS:Hid (∀(i:Nat) (m:Ms),L[i]?=some m->S[i]?=some m.sc):=aH (fun i m h=>by rw[hS,List.getElem?_map,h];rfl);rw[<-hS]at hlen hu HLv HPr⊢;have HU:=aH hu;have HLn:=aH hlen;have HN2:=aH hn2;have HK:Hid (∀v,Below W1.heap.size W1 v->v.cell? ⟨X,0,none⟩=some (.slice ra rn rc)/\v.cell? ⟨X,1,none⟩=some (.slice la ln lc)/\v.cell? ⟨X,2,none⟩=some (.slice aa an ac)/\Below w.heap.size w v):=aH (fun v hv=>⟨(HR1.out.next hv).cell,(HR1.out.next hv).cell,(HR1.out.next hv).cell,after HBu.out hv⟩);clear hs hno hg hb hr hl ha hrn hln han hf hW1 hb1 hr1 hX hlen hu hn hn2 hS;go_enter Tryz.func43,Tryz.ntmps43;go_wp2_with fail
 have hwe:=HWE.out;simp only[kpV]at hwe;rw[hwe,<-HX.out];refine HIs.out.mono ?_;rintro e u ⟨rfl,hb⟩;have HB:=aH hb;obtain⟨x0,x1,x2,-⟩:=HK.out _ hb;clear hb hwe HIs;go_wp2_with fail
 clear x0 x1 x2;go_loopw [5] (fun iv wr=>∃(i:Nat),wr=u/\i<=rn/\iv=.int .i64 i/\Hid (∀k,k<i->RngZ S rep k)) (fun iv _=>rn-(intOf iv).toNat)
 case atStart=>exact⟨0,rfl,by omega,rfl,aH (fun k h=>by omega)⟩
 case round=>
  obtain⟨i,rfl,hi,rfl,HI⟩:=hrel;obtain⟨x0,x1,x2,hbw⟩:=HK.out _ HB.out;by_cases hlt:i<rn
  ·have hlti:(i:Int)<(rn:Int):=by omega
   have HLT:=aH hlt;obtain⟨v,hv⟩:=aG (l:=rep) (i:=i) (by rw[HRl.out];exact hlt);obtain⟨rb,ro,hra,-,-⟩:=HRs.out.cells (by intro e;rw[e]at hv;cases hv);subst hra;have r0:wr.cell? ⟨rb,ro+i,none⟩=some (.int .i64 v):=dX HRs.out hbw hv;have HVv:=aH hv;by_cases hbad:v< -1\/(rn:Int)<=v
   ·have HNg:Hid (¬lE S rep live align):=aH (fun hq=>by
     have:=reps_rng hq.2.1 i v hv;rw[HLn.out]at this;omega)
    have hcs:v< -1\/(¬v< -1/\(rn:Int)<=v):=by omega
    have HBw:=aH hbw;clear hbad hlt hi hv hbw;rcases hcs with h1|⟨h1,h2⟩
    all_goals
     go_wp2;go_ret;exact⟨false,rfl,⟨fun h=>(by cases h),fun hq=>absurd hq HNg.out⟩,HBw.out⟩
   ·have h1:¬v< -1:=fun h=>hbad (.inl h)
    have h2:¬(rn:Int)<=v:=fun h=>hbad (.inr h)
    have HI1:Hid (∀k,k<i+1->RngZ S rep k):=aH (fun k hk=>by
     by_cases e:k=i
     ·subst e;intro x hx;rw[HVv.out]at hx;cases hx;rw[HLn.out];exact⟨by omega,by omega⟩
     ·exact HI.out k (by omega))
    clear hbad hlt hi hv hbw;go_wp2;go_roundw
    case rel=>exact⟨i+1,trivial,by have:=HLT.out;omega,by go_num,HI1⟩
    case measure=>have:=HLT.out;simp[intOf];omega
  ·have hnlt:¬(i:Int)<(rn:Int):=by omega
   have HRg:Hid (∀k,k<rn->RngZ S rep k):=aH (fun k hk=>HI.out k (by omega));clear hi hlt hbw HI;go_wp2_with fail
   clear x0 x1 x2;go_loopw [6] (fun iv wr=>∃(i:Nat) (wx:World),wx=wr/\i<=rn/\iv=.int .i64 i/\Hid (Below W1.heap.size W1 wx)/\Hid (∀k,k<i->OkAt S rep k)) (fun iv _=>rn-(intOf iv).toNat)
   case atStart=>exact⟨0,_,rfl,by omega,rfl,HB,aH (fun k h=>by omega)⟩
   case round=>
    clear HB;obtain⟨i,wx,rfl,hi,rfl,HB,HI⟩:=hrel;obtain⟨x0,x1,x2,hbw⟩:=HK.out _ HB.out;by_cases hlt:i<rn
    ·have hlti:(i:Int)<(rn:Int):=by omega
     have HLT:=aH hlt;obtain⟨v,hv⟩:=aG (l:=rep) (i:=i) (by rw[HRl.out];exact hlt);obtain⟨rb,ro,hra,-,-⟩:=HRs.out.cells (by intro e;rw[e]at hv;cases hv);subst hra;have r0:wx.cell? ⟨rb,ro+i,none⟩=some (.int .i64 v):=dX HRs.out hbw hv;have HVv:=aH hv;have hrg:=HRg.out i hlt v hv;rw[HLn.out]at hrg;by_cases hv1:v= -1
     ·have t2:(v== -1)=true:=by simp[hv1]
      have HI1:Hid (∀k,k<i+1->OkAt S rep k):=aH (fun k hk=>by
       by_cases e:k=i
       ·subst e;intro x hx;rw[HVv.out]at hx;cases hx;exact .inl hv1
       ·exact HI.out k (by omega))
      clear hlt hi hv hbw hrg hv1;go_wp2;go_roundw
      case rel=>exact⟨i+1,_,rfl,by have:=HLT.out;omega,by go_num,HB,HI1⟩
      case measure=>have:=HLT.out;simp[intOf];omega
     ·obtain⟨p,rfl⟩:∃p:Nat,v=(p:Int):=⟨v.toNat,by omega⟩;have t2:((p:Int)== -1)=false:=by simp
      have hpi:(p:Int)<(rn:Int):=hrg.2;have hp:p<rn:=by omega
      obtain⟨v2,hv2⟩:=aG (l:=rep) (i:=p) (by rw[HRl.out];exact hp);have r1:wx.cell? ⟨rb,ro+p,none⟩=some (.int .i64 v2):=dX HRs.out hbw hv2;by_cases hv3:v2=(p:Int);rotate_left
      ·have t3:(v2 !=(p:Int))=true:=by simp[hv3]
       have HNg:Hid (¬lE S rep live align):=aH (fun hq=>by
        rcases reps_ok HU.out hq.2.1 hq.2.2.1 i _ hv with h1|⟨-,h2,-⟩
        ·omega
        ·rw[Int.toNat_natCast,hv2]at h2;exact hv3 (Option.some.inj h2))
       have HBw:=aH hbw;clear hlt hi hv hbw hrg hv1 hv2 hv3 hp;go_wp2;go_ret;exact⟨false,rfl,⟨fun h=>(by cases h),fun hq=>absurd hq HNg.out⟩,HBw.out⟩
      have t3:(v2 !=(p:Int))=false:=by simp[hv3]
      have HV2:Hid (rep[p]?=some (p:Int)):=aH (by rw[hv2,hv3]);have HPc:=aH (HPr.out wx i p hbw hlt hp);obtain⟨B,hB⟩:=aE (pairT S rep i p);rw[<-hB]at HPc;have HBe:=aH hB;clear hi hbw hrg hv1 hv2 hv3 hB;go_wp2_with fail
      refine HPc.out.mono ?_;rintro e u2 ⟨rfl,hb⟩;have HB2:=aH (after HB.out hb);clear hb HPc x0 x1 x2 r0 r1;cases B
      ·have HNg:Hid (¬lE S rep live align):=aH (fun hq=>by
        rcases reps_ok HU.out hq.2.1 hq.2.2.1 i _ hv with h1|⟨-,-,h2,-⟩
        ·omega
        ·rw[Int.toNat_natCast]at h2;have h3:=HBe.out;rw[pairT_iff.2 h2]at h3;cases h3)
       clear hv hp hlt;go_wp2;go_ret;exact⟨false,rfl,⟨fun h=>(by cases h),fun hq=>absurd hq HNg.out⟩,(HK.out _ HB2.out).2.2.2⟩
      have HPt:Hid (PairT S rep i p):=aH (by
       exact pairT_iff.1 HBe.out.symm)
      have hki:i<L.length:=by have:=HLL.out;omega
      have HMi:Hid (L[i]?=some L[i]):=aH (iS hki);generalize L[i]'hki=m at HMi;obtain⟨b,off,hua,hcs⟩:=ms_at HMs.out HMi.out;have HSi:=aH (HLS.out _ _ HMi.out);have HRi:=aH (HNo.out _ (eQ HMi.out));have HCi:Hid (∀v,Below w.heap.size w v->v.cell? ⟨b,off+i*6+5,none⟩=some (.slice m.ad m.sc.rels.length m.cap)):=aH (fun v hv=>(hcs v hv).2.2.2.2.2);obtain⟨s,ad,cp⟩:=m;simp only at HCi HSi HRi;have hse:=dZ HU.out HSi.out;obtain⟨nr,hnr⟩:=aE s.rels.length;rw[<-hnr]at HCi HRi;have hnr9:(nr:Int)<=64:=by have:=hse.1.rels;omega
      have HNr:=aH hnr;have HRgs:Hid (∀r∈s.rels,0<=r.sym/\r.sym<(rn:Int)):=aH (by rw[<-HLn.out];exact hse.2);subst hua;have HVp:Hid (rep[i]?=some (p:Int)):=aH hv;clear hv hp hlt hki hcs hnr hse;go_wp2_with fail
      go_loopw [8] (fun jv wr=>∃(j:Nat) (wy:World),wy=wr/\j<=nr/\jv=.int .i64 j/\Hid (Below W1.heap.size W1 wy)/\Hid (∀k r,k<j->s.rels[k]?=some r->rep[r.sym.toNat]? ≠some (-1))) (fun jv _=>nr-(intOf jv).toNat)
      case atStart=>exact⟨0,_,rfl,by omega,rfl,HB2,aH (fun k r h=>by omega)⟩
      case round=>
       clear HB2;obtain⟨j,wy,rfl,hj,rfl,HBy,HJ⟩:=hrel;obtain⟨x0,x1,x2,hbw⟩:=HK.out _ HBy.out;have c5:=HCi.out _ hbw;by_cases hltj:j<nr
       ·have hltji:(j:Int)<(nr:Int):=by omega
        have HLTj:=aH hltj;obtain⟨r,hr⟩:=aG (l:=s.rels) (i:=j) (by rw[<-HNr.out];exact hltj);obtain⟨b1,o1,ha1,hc1⟩:=rl_at HRi.out hr;subst ha1;have d1:=hc1 _ hbw;obtain⟨s0,s1⟩:=HRgs.out _ (eQ hr);obtain⟨sy,hsy⟩:∃x:Nat,r.sym=(x:Int):=⟨r.sym.toNat,by omega⟩;rw[hsy]at d1 s1;obtain⟨v3,hv3⟩:=aG (l:=rep) (i:=sy) (by rw[HRl.out];omega);have r2:wy.cell? ⟨rb,ro+sy,none⟩=some (.int .i64 v3):=dX HRs.out hbw hv3;have HV3:Hid (rep[r.sym.toNat]?=some v3):=aH (by rw[hsy];exact hv3);have HRr:=aH hr;have HBw:=aH hbw;clear hltj hj hr hc1 s0 hsy hv3 hbw;by_cases hm:v3= -1
        ·have t4:(v3== -1)=true:=by simp[hm]
         have HNg:Hid (¬lE S rep live align):=aH (fun hq=>by
          rcases reps_ok HU.out hq.2.1 hq.2.2.1 i _ HVp.out with h1|⟨-,-,-,h2⟩
          ·omega
          ·exact h2 s HSi.out j r HRr.out (by rw[HV3.out,hm]))
         clear hm;go_wp2_with fail
         go_big_quiet (fail);go_wp2;go_ret;exact⟨false,rfl,⟨fun h=>(by cases h),fun hq=>absurd hq HNg.out⟩,below_drewN HBw.out _⟩
        ·have t4:(v3== -1)=false:=by simp[hm]
         have HJ1:Hid (∀k r,k<j+1->s.rels[k]?=some r->rep[r.sym.toNat]? ≠some (-1)):=aH (fun k x hk hx=>by
          by_cases e:k=j
          ·subst e;rw[HRr.out]at hx;cases hx;rw[HV3.out];intro h;exact hm (Option.some.inj h)
          ·exact HJ.out k x (by omega) hx)
         clear hm;go_wp2_with fail
         go_big_quiet (fail);go_wp2;go_roundw
         case rel=>exact⟨j+1,_,rfl,by have:=HLTj.out;omega,by go_num,aH (below_drewN HBy.out _),HJ1⟩
         case measure=>have:=HLTj.out;simp[intOf];omega
       ·have hnj:¬(j:Int)<(nr:Int):=by omega
        have HI1:Hid (∀k,k<i+1->OkAt S rep k):=aH (fun k hk=>by
         by_cases e:k=i
         ·subst e;intro x hx;rw[HVp.out]at hx;cases hx;refine .inr ⟨by omega,by rw[Int.toNat_natCast];exact HV2.out,by rw[Int.toNat_natCast];exact HPt.out,fun s' hs' q r hr=>?_⟩;rw[HSi.out]at hs';cases hs';exact HJ.out q r (by have:=(eX hr).1;rw[<-HNr.out]at this;omega) hr
         ·exact HI.out k (by omega))
        clear hj hltj hbw;go_wp2;go_roundw
        case rel=>exact⟨i+1,_,rfl,by have:=HLT.out;omega,by go_num,HBy,HI1⟩
        case measure=>have:=HLT.out;simp[intOf];omega
    ·have hnlt2:¬(i:Int)<(rn:Int):=by omega
     have HQ:Hid (jP S rep/\pS S rep):=aH (ok_reps HU.out (by rw[HRl.out,HLn.out]) (fun k hk=>HRg.out k (by rw[<-HLn.out];exact hk)) (fun k hk=>HI.out k (by rw[HLn.out]at hk;omega)));have HLc:=aH (HLv.out wx hbw);clear hi hlt hbw;go_wp2_with fail
     refine HLc.out.mono ?_;rintro e u2 ⟨qa,qc,qa',qc',rfl,ho1,ho2,hb⟩;have HB2:=aH (after HB.out hb);obtain⟨x0,x1,x2,hbw2⟩:=HK.out _ HB2.out;obtain⟨sn,hsn⟩:=aE ((aJ S rep).length);rw[<-hsn]at ho1 ho2⊢;have hsl:sn<=256:=by rw[hsn,qB];have:=oO rep;have:=HRl.out;have:=HN2.out;omega
     have h1:SL dT 1 u2 u2.heap.size qa sn ((aJ S rep).map Int.ofNat):=by
      have e1:((aJ S rep).map Int.ofNat).length=sn:=by rw[List.length_map,hsn]
      have h:=ho1;rw[<-e1]at h⊢;exact rU h
     have h2:SL dT 1 u2 u2.heap.size qa' sn (eP S rep):=by
      have e1:(eP S rep).length=sn:=by unfold eP;rw[List.length_map,hsn]
      have h:=ho2;rw[<-e1]at h⊢;exact rU h
     have HS1:=aH (sameI_any qa la sn ln qc lc _ live u2 (by omega) HLb.out.1 h1 (HCl.out _ hbw2));have HS2:Hid (∀ u3,Below u2.heap.size u2 u3->Calls Tryz.prog 75 #[.slice qa' sn qc',.slice aa an ac] u3 (aP (.bool (decide (eP S rep=align))) u3)):=aH (fun u3 hv=>sameI_any qa' aa sn an qc' ac _ align u3 (by omega) HLb.out.2 (h2.next hv) (HCa.out _ (after hbw2 hv)));have HIff:Hid (lE S rep live align↔((aJ S rep).map Int.ofNat=live/\eP S rep=align)):=aH ⟨fun h=>⟨h.2.2.2.1.symm,h.2.2.2.2.symm⟩,fun h=>⟨HU.out,HQ.out.1,HQ.out.2,h.1.symm,h.2.symm⟩⟩;obtain ⟨A1,hA1⟩:=aE (decide ((aJ S rep).map Int.ofNat=live));obtain ⟨A2,hA2⟩:=aE (decide (eP S rep=align));rw[<-hA1]at HS1;rw[<-hA2]at HS2;have HA1:=aH hA1;have HA2:=aH hA2;clear hb hsn hsl h1 h2 ho1 ho2 hbw2 hA1 hA2 HLc;go_wp2_with fail
     refine HS1.out.mono ?_;rintro e u3 ⟨rfl,hb⟩;have HB3:=aH (after HB2.out hb);have HS3:=aH (HS2.out u3 hb);obtain⟨x0,x1,x2,-⟩:=HK.out _ HB3.out;clear hb HS1 HS2;cases A1
     ·have HNg:Hid (¬lE S rep live align):=aH (fun hq=>by
       have:=HA1.out;rw[decide_eq_true (HIff.out.1 hq).1]at this;cases this)
      go_wp2;go_ret;exact⟨false,rfl,⟨fun h=>(by cases h),fun hq=>absurd hq HNg.out⟩,(HK.out _ HB3.out).2.2.2⟩
     go_wp2_with fail
     refine HS3.out.mono ?_;rintro e u4 ⟨rfl,hb⟩;have HB4:=aH (after HB3.out hb);clear hb HS3 x0 x1 x2;go_wp2;go_ret;refine⟨A2,rfl,?_,(HK.out _ HB4.out).2.2.2⟩;rw[HIff.out,HA2.out];have:=HA1.out;constructor
     ·intro h;exact⟨of_decide_eq_true this.symm,of_decide_eq_true h⟩
     ·intro h;exact decide_eq_true h.2
end Go.Proofs.YtiohgaghmnpplaaGreatDoor
