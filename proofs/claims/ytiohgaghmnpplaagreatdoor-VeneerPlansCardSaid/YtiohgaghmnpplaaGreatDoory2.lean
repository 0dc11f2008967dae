/- veneer, the document's answer: what is wanted. veneer, the document's answer: may all be so, what is planned. -/
import Derived.Test.YtiohgaghmnpplaaGreatDoorqA
import Derived.Test.YtiohgaghmnpplaaGreatDoory1
import Derived.Test.YtiohgaghmnpplaaGreatDoorh2
set_option maxRecDepth 100000
set_option maxHeartbeats 6000000
set_option linter.unusedVariables false
set_option linter.unusedSimpArgs false
namespace Go.Proofs.YtiohgaghmnpplaaGreatDoor
section
open Go.ChangeShapes Go.WideShapes Go.Deep Go.RowKit
open Go.Proofs.YtiohgaghmnpplaaGreatDoor.Pl (encU encU_len mU)
theorem rels_data {kind:Int}{d:List UInt8}(hk:¬kind=1):∀ {l:List Rl} {e:Int},gT kind d e l=true->∀r∈l,r.kind=1
 | [],_,_=>fun r hr=>by cases hr
 |q :: t,e,h=>fun r hr=>by
  unfold gT at h;split at h
  ·cases h
  ·rename_i hb;rcases List.mem_cons.1 hr with rfl|hr
   ·apply Classical.byContradiction;intro hn;exact hb (.inr (.inr (.inr (by unfold mK;rw[if_neg hn];simp[hk]))))
   ·exact rels_data hk h r hr
theorem data_calls {S:List Sc}(hu:bN S=true)(k:Nat)(hk:¬bG S k=1):∀f∈bZ S k,¬f.kind=2:=by
 intro f hf;unfold bZ bG at*
 cases e:S[k]? with
 |none=>rw[e]at hf;cases hf
 |some s=>
  rw[e]at hf hk;unfold bN at hu;simp only[Bool.and_eq_true,List.all_eq_true]at hu;have h1:=hu.2 s (eQ e);unfold dO at h1;simp only[Bool.and_eq_true]at h1;have h2:=rels_data hk (sec_iff.1 h1.1).2 f hf;omega
theorem doneI_end {S:List Sc}{L:List Nat}{P rep:List Int}{r:Int}{v:List Vn}{k x:Nat}(hx:L[k]?=some x)(hk:¬bG S x=1->∀f∈bZ S x,¬f.kind=2):aY S L P rep r v k x (bZ S x).length=eD S L P rep r v (k+1):=by
 by_cases h:bG S x=1
 ·exact doneW_in hx h
 ·rw[doneW_out hx h];unfold aY kM;rw[List.take_length,List.filter_eq_nil_iff.2 (fun f hf hd=>hk h f hf (of_decide_eq_true hd))];rfl
structure RW (U u:World)(l:List Vn)(a:Option Addr)(q c:Nat):Prop where
 bb:Below U.heap.size U u
 oo:u.ownsRow U.heap.size 80 3 (.slice a q c) q (l.flatMap gB)
 em:q=0->a=none/\c=0
theorem RW.next {U u u':World}{l:List Vn}{a:Option Addr}{q c:Nat}(h:RW U u l a q c)(hb:Below u.heap.size u u'):RW U u' l a q c:=⟨after h.bb hb,Pl.own_next h.oo hb,h.em⟩
theorem jA (x:Vn):(gB x).length=3:=rfl
theorem rwants_any (p:Yp)(Lm:List Ms)(S:List Sc)(rep:List Int)(L:List Nat)(align:List Int)(va:Option Addr)(vn vc:Nat)(v:List Vn)(t d st r:Int)(P:List Int)(w:World)(hS:S=Lm.map (·.sc))(hQ:iT S rep L align)(hu:bN S=true)
  (hs:SL mX 6 w w.heap.size p.ua p.n Lm) (hno:iQ w w.heap.size Lm) (hgr:∀m∈Lm,∀r∈m.sc.rels,jN r) (hrp:SL dT 1 w w.heap.size p.ra p.rn rep) (hl:SL dT 1 w w.heap.size p.la p.ln (L.map Int.ofNat)) (ha:SL dT 1 w w.heap.size p.aa p.an align) (hlt:∀x∈L,x<p.n) (hn:p.n<=256) (hv:SL gB 3 w w.heap.size va vn v) (hvr:aX S L [] v=true) (hvn:vn<=100000) (t0:0<=t) (t1:t<=4611686018427387904) (d0:0<=d) (d1:d<=4611686018427387904)
  (hsy:∀k∈L,∀f∈bZ S k,0<=f.sym/\∃z,rep[f.sym.toNat]?=some z) (hr0:cS r) (hP:P=bF S L align t d v):
  Calls Tryz.prog 32 #[.slice p.ua p.n p.uc,p.kp,.agg (fV t d st r),.slice va vn vc] w (RowV (gJ S L P rep r v) w):=by
 obtain⟨ua,n,uc,ra,rn,rc,la,ln,lc,aa,an,ac⟩:=p;simp only[]at hs hrp hl ha hlt hn⊢;have HLay:Hid (∀u,Below w.heap.size w u->Calls Tryz.prog 30 #[.slice ua n uc,.agg #[.slice ra rn rc,.slice la ln lc,.slice aa an ac],.agg (fV t d st r),.slice va vn vc] u (TwoU P (kS S L P v) u)):=aH fun u hu=>by
  rw[hP];exact rlay_any ⟨ua,n,uc,ra,rn,rc,la,ln,lc,aa,an,ac⟩ Lm S rep L align va vn vc v t d st r u hS hQ (hs.next hu) (hl.next hu) (ha.next hu) hlt (by show n<=_;omega) (hv.next hu) hvr hvn t0 t1 d0 d1
 have HLl:Hid (L.length=ln):=aH (by have:=hl.len;simpa using this.symm);have HLn:Hid (ln<=256):=aH (by rw[<-HLl.out];exact hQ.n256);have HPl:Hid (P.length=L.length):=aH (by rw[hP];exact iX S L align t d v hQ.al);have HPb:Hid (∀p∈P,0<=p/\p<=4611686018432630784):=aH (by rw[hP];exact lR hQ (gZ.1 hvr).2.2 t0 t1 d0 d1);have HHv:Hid (∀ u (y:Vn),Below w.heap.size w u->Calls Tryz.prog 64 #[.slice va vn vc,.agg #[.int .i64 y.1,.int .i64 y.2.1,.int .i64 y.2.2]] u (aP (.bool (decide (y ∈ v))) u)):=aH fun u y hu=>rhas_any va vn vc v y u (by omega) (hv.next hu)
 have HRl:Hid (∀u x,Below w.heap.size w u->Calls Tryz.prog 45 #[.agg #[.slice ra rn rc,.slice la ln lc,.slice aa an ac],.int .i64 x] u (aP (.int .i64 (kF (L.map Int.ofNat) x)) u)):=aH fun u x hu=>oQ ra rn rc la ln lc aa an ac _ x u (hl.next hu) (by have:=HLn.out;omega)
 have HDc:=aH (data_calls hu);have HQ:=aH hQ;have HSe:=aH hS;have HMs:=aH hs;have HNo:=aH hno;have HGr:=aH hgr;have HRp:=aH hrp;have HLs:=aH hl;have HLt:=aH hlt;have HSy:=aH hsy;have HR0:=aH hr0;obtain⟨X,hX⟩:=aE w.heap.size;obtain⟨W,hW⟩:=aE ((w.alloc (.cells #[.slice ra rn rc,.slice la ln lc,.slice aa an ac] 25)).alloc (.cells (fV t d st r) 28));have z1:(w.alloc (.cells #[.slice ra rn rc,.slice la ln lc,.slice aa an ac] 25)).heap.size=X+1:=by rw[World.size_alloc,hX]
 have HB:Hid (Below w.heap.size w W):=aH (by rw[hW];exact after (aC _ _) (aC _ _));have HK:Hid (RB W X #[.slice ra rn rc,.slice la ln lc,.slice aa an ac] 25):=aH (by rw[hW,hX];exact(aQ _ _ _).next (aC _ _));have HO:Hid (RB W (X+1) (fV t d st r) 28):=aH (by rw[hW,<-z1];exact aQ _ _ _);have k0:W.cell? ⟨X,0,none⟩=some (.slice ra rn rc):=HK.out.cell;have k1:W.cell? ⟨X,1,none⟩=some (.slice la ln lc):=HK.out.cell;have k2:W.cell? ⟨X,2,none⟩=some (.slice aa an ac):=HK.out.cell;have o0:W.cell? ⟨X+1,0,none⟩=some (.int .u64 t):=HO.out.cell;have o1:W.cell? ⟨X+1,1,none⟩=some (.int .u64 d):=HO.out.cell;have o2:W.cell? ⟨X+1,2,none⟩=some (.int .u64 st):=HO.out.cell;have o3:W.cell? ⟨X+1,3,none⟩=some (.int .i64 r):=HO.out.cell;have HWe:=aH hW.symm;have HXe:=aH hX.symm;clear hX hW z1 hS hQ hu hs hno hgr hrp hl ha hlt hn hv hvr hvn t0 t1 d0 d1 hsy hr0 hP;go_enter Tryz.func32,Tryz.ntmps32;go_wp2_with fail
 rw[HWe.out,HXe.out];go_wp2_with fail
 refine(HLay.out W HB.out).mono ?_;rintro e U ⟨pa,pc,a9,c9,rfl,ho1,-,-,hbU⟩;have HBU:=aH (after HB.out hbU);have HKU:=aH (HK.out.next hbU);have HOU:=aH (HO.out.next hbU);have HPs:Hid (SL Pl.encU 1 U U.heap.size pa P.length P):=aH (by obtain⟨a',c',e',h9,-⟩:=SL.ofOwns Pl.encU_len (by decide) ho1;injection e' with e1 e2 e3;subst e1;exact h9);clear k0 k1 k2 o0 o1 o2 o3 hbU ho1 HB HK HO HLay;have HQ0:Hid (RW U U (eD S L P rep r v 0) none 0 0):=aH ⟨Below.refl _ _,World.ownsRow_nil _ _ _ _,fun _=>⟨rfl,rfl⟩⟩;go_wp2_with fail
 go_loopw [11,12] (fun lv i wr=>∃(k:Nat) (wy:World) (a:Option Addr) (q c:Nat),wy=wr/\k<=ln/\lv=.slice a q c/\i=.int .i64 k/\Hid (q=(eD S L P rep r v k).length)/\Hid (RW U wy (eD S L P rep r v k) a q c)) (fun _ i _=>ln-(intOf i).toNat)
 case atStart=>exact⟨0,_,none,0,0,rfl,by omega,rfl,rfl,aH rfl,HQ0⟩
 case round=>
  clear HQ0;obtain⟨k,wy,a,q,c,rfl,hk,rfl,rfl,HQ1,HRW⟩:=hrel;have k1:wy.cell? ⟨X,1,none⟩=some (.slice la ln lc):=(HKU.out.next HRW.out.bb).cell;by_cases hlt:k<ln
  ·have hlti:(k:Int)<(ln:Int):=by omega
   have HLT:=aH hlt;have HWk:Hid (wrap64 ((k:Int)+1)=(k:Int)+1):=aH (by have:=HLn.out;unfold wrap64;omega);obtain⟨x,hx⟩:=aG (l:=L) (i:=k) (by rw[HLl.out];exact hlt);have hxn:x<n:=HLt.out x (eQ hx);have hxi:(x:Int)<(n:Int):=by omega
   obtain⟨m,hm⟩:=aG (l:=Lm) (i:=x) (by have h9:=HMs.out.len;omega);obtain⟨ub,uo,hua,-,-⟩:=HMs.out.cells (by intro e;rw[e]at hm;cases hm);subst hua;have hrl:bZ S x=m.sc.rels:=by unfold bZ;rw[HSe.out,List.getElem?_map,hm];rfl
   have HRf:=aH (HNo.out m (eQ hm));obtain⟨lb,lo,hla,-,-⟩:=HLs.out.cells (by intro e;rw[List.map_eq_nil_iff]at e;rw[e]at hx;cases hx);subst hla;have HBy:=aH (after HBU.out HRW.out.bb);have HLc:Hid (∀u,Below w.heap.size w u->u.cell? ⟨lb,lo+k,none⟩=some (.int .i64 (x:Int))):=aH fun u hu=>bR HLs.out hu (by rw[List.getElem?_map,hx];rfl)
   have l0:=HLc.out wy HBy.out;obtain⟨u0,u1,u2,u3,u4,u5⟩:=cO HMs.out HBy.out hm;have HKi:Hid (aY S L P rep r v k x (bZ S x).length=eD S L P rep r v (k+1)):=aH (doneI_end hx (HDc.out x));have HI0:Hid (aY S L P rep r v k x 0=eD S L P rep r v k):=aH rfl;have HRl2:Hid (m.sc.rels.length=(bZ S x).length):=aH (by rw[hrl]);have HR64:Hid ((bZ S x).length<=64):=aH (by obtain⟨s,h1,-,h2,-⟩:=HQ.out.inn x (eQ hx);unfold bZ;rw[h1];exact h2);have HRg:Hid (∀f∈bZ S x,jN f):=aH (by rw[hrl];exact HGr.out m (eQ hm));rw[<-hrl]at HRf;have HXm:=aH hx;obtain⟨rn2,hrn2⟩:=aE m.sc.rels.length;rw[<-hrn2]at HRl2 u5;obtain⟨ma,hma⟩:=aE m.ad;obtain⟨mc,hmc⟩:=aE m.cap;rw[<-hma,<-hmc]at u5;rw[<-hma]at HRf;obtain⟨X3,hX3⟩:=aE wy.heap.size;obtain⟨W3,hW3⟩:=aE (wy.alloc (.cells #[.string ⟨m.sc.name.toArray⟩,.int .i64 m.sc.kind,.bool m.sc.keep,.int .i64 m.sc.align,.string ⟨m.sc.data.toArray⟩,.slice ma rn2 mc] 55));have hb3:Below wy.heap.size wy W3:=by rw[hW3];exact aC _ _
   have HX3:Hid (RB W3 X3 #[.string ⟨m.sc.name.toArray⟩,.int .i64 m.sc.kind,.bool m.sc.keep,.int .i64 m.sc.align,.string ⟨m.sc.data.toArray⟩,.slice ma rn2 mc] 55):=aH (by rw[hW3,hX3];exact aQ _ _ _);have HI:Hid (RW U W3 (aY S L P rep r v k x 0) a q c/\RB W3 X3 #[.string ⟨m.sc.name.toArray⟩,.int .i64 m.sc.kind,.bool m.sc.keep,.int .i64 m.sc.align,.string ⟨m.sc.data.toArray⟩,.slice ma rn2 mc] 55/\∀g,(Value.slice a q c).ownBlock=some g->g≠X3):=aH ⟨by rw[HI0.out];exact HRW.out.next hb3,HX3.out,fun g hg=>by have:=(HRW.out.oo.lt g hg).2;omega⟩;have HQi:Hid (q=(aY S L P rep r v k x 0).length):=aH (by rw[HI0.out];exact HQ1.out);have HW3e:=aH hW3.symm;have HX3e:=aH hX3.symm;clear hrl hx hxn hm hlt hk hX3 hW3 hb3 HI0 HRW HX3 HQ1 hrn2 hma hmc;go_wp2_with fail
   rw[HW3e.out,HX3e.out];clear l0 u0 u1 u2 u3 u4 u5 k1;go_loopw [11,14] (fun lv jv wr=>∃(j:Nat) (wz:World) (a:Option Addr) (q c:Nat),wz=wr/\j<=rn2/\lv=.slice a q c/\jv=.int .i64 j/\Hid (q=(aY S L P rep r v k x j).length)/\Hid (RW U wz (aY S L P rep r v k x j) a q c/\RB wz X3 #[.string ⟨m.sc.name.toArray⟩,.int .i64 m.sc.kind,.bool m.sc.keep,.int .i64 m.sc.align,.string ⟨m.sc.data.toArray⟩,.slice ma rn2 mc] 55/\∀g,(Value.slice a q c).ownBlock=some g->g≠X3)) (fun _ jv _=>rn2-(intOf jv).toNat)
   case atStart=>exact⟨0,_,a,q,c,rfl,by omega,rfl,rfl,HQi,HI⟩
   case round=>
    clear HQi HI;obtain⟨j,wz,a,q,c,rfl,hj,rfl,rfl,HQ1,HI⟩:=hrel;have x5:wz.cell? ⟨X3,5,none⟩=some (.slice ma rn2 mc):=HI.out.2.1.cell;by_cases hjl:j<rn2
    ·have hjli:(j:Int)<(rn2:Int):=by omega
     have HJT:=aH hjl;have hjr:j<(bZ S x).length:=by rw[<-HRl2.out];exact hjl
     obtain⟨f,hf⟩:=aG (l:=(bZ S x)) (i:=j) hjr;have hfm:=eQ hf;obtain⟨mb,mo,hma,-,hmc⟩:=(HRf.out.next (after HBU.out HI.out.1.bb)).cells (by intro e;rw[e]at hf;cases hf);subst hma;obtain⟨f0,f1,f2,f3⟩:=dN (off:=mo) (k:=j) (t:=f) (fun i hi=>by have h1:=hmc j hjr i hi;rw[(eX hf).2]at h1;exact h1);obtain⟨hs0,z,hz⟩:=HSy.out x (eQ HXm.out) f hfm;have HFg:=aH (HRg.out f hfm);have HFj:=aH hf;have HNx:=aH (doneI_snoc (L:=L) (P:=P) (rep:=rep) (r:=r) (v:=v) (k:=k) hf);have HZ:Hid (pJ rep f.sym=z):=aH (by unfold pJ;rw[hz];rfl);obtain⟨sy,hsy⟩:∃sy:Nat,f.sym=(sy:Int):=⟨f.sym.toNat,by omega⟩;obtain⟨rb,ro,hra,-,-⟩:=HRp.out.cells (by intro e;rw[e]at hz;cases hz);subst hra;rw[hsy,Int.toNat_natCast]at hz;have hsyn:(sy:Int)<(rn:Int):=by have h1:=(eX hz).1;have h2:=HRp.out.len;omega
     have HRc:Hid (∀u,Below w.heap.size w u->u.cell? ⟨rb,ro+sy,none⟩=some (.int .i64 z)):=aH fun u hu=>bR HRp.out hu hz
     obtain⟨fp,fk,fs,fa⟩:=f;simp only[]at f0 f1 f2 f3 HFg HZ HNx hsy;subst hsy;obtain⟨X4,hX4⟩:=aE wz.heap.size;obtain⟨W4,hW4⟩:=aE (wz.alloc (.cells #[.int .i64 fp,.int .i64 fk,.int .i64 (sy:Int),.int .i64 fa] 57));have hb4:Below wz.heap.size wz W4:=by rw[hW4];exact aC _ _
     have HB4:=aH hb4;have HR4:Hid (RB W4 X4 #[.int .i64 fp,.int .i64 fk,.int .i64 (sy:Int),.int .i64 fa] 57):=aH (by rw[hW4,hX4];exact aQ _ _ _);have HIn:Hid (∀u,Below wz.heap.size wz u->RW U u (aY S L P rep r v k x j) a q c/\RB u X3 #[.string ⟨m.sc.name.toArray⟩,.int .i64 m.sc.kind,.bool m.sc.keep,.int .i64 m.sc.align,.string ⟨m.sc.data.toArray⟩,.slice (some ⟨mb,mo,none⟩) rn2 mc] 55/\∀g,(Value.slice a q c).ownBlock=some g->g≠X3):=aH fun u hu=>⟨HI.out.1.next hu,HI.out.2.1.next hu,HI.out.2.2⟩
     have HUz:Hid (∀u,Below wz.heap.size wz u->Below U.heap.size U u):=aH fun u hu=>after HI.out.1.bb hu
     have HJk:Hid (wrap64 ((j:Int)+1)=(j:Int)+1):=aH (by have h1:=HJT.out;have h2:=HRl2.out;have h3:=HR64.out;unfold wrap64;omega);have g1:W4.cell? ⟨X4,1,none⟩=some (.int .i64 fk):=HR4.out.cell;have g2:W4.cell? ⟨X4,2,none⟩=some (.int .i64 (sy:Int)):=HR4.out.cell;have k0:W4.cell? ⟨X,0,none⟩=some (.slice (some ⟨rb,ro,none⟩) rn rc):=(HKU.out.next (HUz.out W4 hb4)).cell;have r0:=HRc.out W4 (after HBU.out (HUz.out W4 hb4));rw[hW4,hX4]at g1 g2;rw[hW4]at k0 r0;have HW4e:=aH hW4.symm;have HX4e:=aH hX4.symm;clear hmc hj hjl hjr hf hfm hs0 hz hW4 hX4 hb4 HI;by_cases hk2:fk=2
     ·subst hk2;obtain⟨sx,hsx,-,-,hsr⟩:=HQ.out.inn x (eQ HXm.out);have hrx:bZ S x=sx.rels:=by unfold bZ;rw[hsx]
      have hfm2:=eQ HFj.out;rw[hrx]at hfm2;have hst:=(hsr _ hfm2).2.2;have hp0:=(hsr _ hfm2).1;rw[show pJ rep (Rl.mk fp 2 (sy:Int) fa).sym=z from HZ.out]at hst;have hst2:=hst;unfold bC at hst;simp only[Bool.and_eq_true,decide_eq_true_eq]at hst;obtain⟨zq,rfl⟩:∃zq:Nat,z=(zq:Int):=⟨z.toNat,by omega⟩;have hzL:zq∈L:=by simpa using hst.2
      obtain⟨i1,hi1⟩:=aE (L.idxOf zq);have hil:i1<P.length:=by rw[HPl.out,hi1];exact List.idxOf_lt_length_of_mem hzL
      obtain⟨c0,hc⟩:=aG (l:=P) (i:=i1) hil;have hcb:=HPb.out c0 (eQ hc);have hkp:k<P.length:=by rw[HPl.out,HLl.out];exact HLT.out
      obtain⟨pv,hpv⟩:=aG (l:=P) (i:=k) hkp;have hpvb:=HPb.out pv (eQ hpv);have hpw:pK L P (x:Int)=pv:=by
       have hxl:L[k]?=some x:=HXm.out;have h1:L.idxOf x=k:=by
        obtain⟨hk1,hk2⟩:=eX hxl;rw[<-hk2];exact HQ.out.nd.idxOf_getElem k hk1
       unfold pK;rw[Int.toNat_natCast,h1,hpv];rfl
      obtain⟨fz,hfz⟩:=aE ((pv+fp)%18446744073709551616);obtain⟨gz,hgz⟩:=aE ((c0+fa)%18446744073709551616);obtain⟨nb,hnb⟩:=aE (mU fz gz r);have hZ:IntKind.u64.wrap (pv+IntKind.u64.wrap fp)=fz:=by
       rw[hfz];simp only[IntKind.wrap_u64];omega
      have hG:IntKind.u64.wrap (c0+IntKind.u64.wrap fa)=gz:=by
       rw[hgz];simp only[IntKind.wrap_u64];omega
      have hgo:mZ L P ((x:Int),(zq:Int),fa)=gz:=by
       unfold mZ pK;rw[Int.toNat_natCast,<-hi1,hc,hgz];rfl
      have HVy:Hid (eM rep x (Rl.mk fp 2 (sy:Int) fa)=((x:Int),(zq:Int),fa)):=aH (by unfold eM;rw[HZ.out]);have HNear:Hid (lI L P rep r (x,Rl.mk fp 2 (sy:Int) fa)=nb):=aH (by
       unfold lI;rw[show eM rep (x,Rl.mk fp 2 (sy:Int) fa).1 (x,Rl.mk fp 2 (sy:Int) fa).2=((x:Int),(zq:Int),fa)from HVy.out,hgo,hnb,hfz];show mU ((pK L P (x:Int)+fp)%18446744073709551616) gz r=_
       rw[hpw])
      have HNe:Hid (∀u',Calls Tryz.prog 63 #[.int .u64 fz,.int .u64 gz,.int .i64 r] u' (bQ (.bool nb) u')):=aH fun u'=>by
       rw[hnb];exact Pl.refNear_any fz gz r u' (by omega) (by omega) (by omega) (by omega) HR0.out.1 HR0.out.2
      have HNx2:Hid (aY S L P rep r v k x (j+1)=if nb=true then aY S L P rep r v k x j else qT v (aY S L P rep r v k x j) ((x:Int),(zq:Int),fa)):=aH (by
       rw[HNx.out,if_pos rfl];show(if lI L P rep r (x,Rl.mk fp 2 (sy:Int) fa)=true then _ else qT v _ (eM rep x (Rl.mk fp 2 (sy:Int) fa)))=_
       rw[HNear.out,HVy.out])
      have HQl:Hid (q<=1000000):=aH (by
       have h9:=doneI_len (P:=P) (rep:=rep) (r:=r) (v:=v) (i:=j) HXm.out (by rw[HLl.out];exact HLn.out) (fun a ha=>by
        obtain⟨s,h1,-,h2,-⟩:=HQ.out.inn a ha;unfold bZ;rw[h1];exact h2)
       have:=HQ1.out;omega)
      have HLz:Hid (∀u,Below wz.heap.size wz u->Calls Tryz.prog 45 #[.agg #[.slice (some ⟨rb,ro,none⟩) rn rc,.slice (some ⟨lb,lo,none⟩) ln lc,.slice aa an ac],.int .i64 (zq:Int)] u (aP (.int .i64 (i1:Int)) u)):=aH fun u hu=>by
       have h9:=HRl.out u (zq:Int) (after HBU.out (HUz.out u hu));rw[lV hst2,Int.toNat_natCast,<-hi1]at h9;exact h9
      obtain⟨pb,po,hpa,-,-⟩:=HPs.out.cells (by intro e;rw[e]at hpv;cases hpv);have hka:(k:Int)<((P.length:Nat):Int):=by omega
      have hia:(i1:Int)<((P.length:Nat):Int):=by omega
      subst hpa;have HSc:Hid (∀v',Below wz.heap.size wz v'->RB v' X4 #[.int .i64 fp,.int .i64 2,.int .i64 (sy:Int),.int .i64 fa] 57->v'.cell? ⟨X,0,none⟩=some (.slice (some ⟨rb,ro,none⟩) rn rc)/\v'.cell? ⟨X,1,none⟩=some (.slice (some ⟨lb,lo,none⟩) ln lc)/\v'.cell? ⟨X,2,none⟩=some (.slice aa an ac)/\v'.cell? ⟨pb,po+k,none⟩=some (.int .u64 pv)/\v'.cell? ⟨pb,po+i1,none⟩=some (.int .u64 c0)/\v'.cell? ⟨X4,0,none⟩=some (.int .i64 fp)/\v'.cell? ⟨X4,3,none⟩=some (.int .i64 fa)/\v'.cell? ⟨X+1,3,none⟩=some (.int .i64 r)/\v'.cell? ⟨lb,lo+k,none⟩=some (.int .i64 (x:Int))):=aH fun v' h1 h2=>⟨(HKU.out.next (HUz.out v' h1)).cell,(HKU.out.next (HUz.out v' h1)).cell,(HKU.out.next (HUz.out v' h1)).cell,gC HPs.out (HUz.out v' h1) hpv,gC HPs.out (HUz.out v' h1) hc,h2.cell,h2.cell,(HOU.out.next (HUz.out v' h1)).cell,HLc.out v' (after HBU.out (HUz.out v' h1))⟩
      clear hsx hsr hrx hfm2 hst hst2 hp0 hzL hi1 hil hc hcb hkp hpv hpvb hpw hfz hgz hnb hgo HNx;go_wp2_with fail
      rw[HW4e.out,HX4e.out];obtain⟨V,hV,hT⟩:=aD W4;have HBV:=aH (after HB4.out hT);have HRV:=aH (HR4.out.next hT);have hS0:=HSc.out V HBV.out HRV.out;refine aR2 hV HSc.out HBV.out HRV.out ?_;clear hV hT g1 g2 k0 r0;iterate 9 refine aN _ rfl hS0 ?_
      refine rd 9 rfl (fun K hK=>?_);go_simp;have hS2:=(show∀u,Below V.heap.size V u->_ from fun u hu=>HSc.out u (after HBV.out hu) (HRV.out.next hu));refine hK.out _ _ (hS2 _ (aC _ _)) (fun hX9=>?_);clear hK K hX9;refine rd 10 rfl (fun K hK=>?_);go_simp;obtain⟨X5,hX5⟩:=aE V.heap.size;obtain⟨W5,hW5⟩:=aE (V.alloc (.cells #[.int .i64 (x:Int),.int .i64 (zq:Int),.int .i64 fa] 80));have hb5:Below V.heap.size V W5:=by rw[hW5];exact aC _ _
      have HV5:Hid (RB W5 X5 #[.int .i64 (x:Int),.int .i64 (zq:Int),.int .i64 fa] 80):=aH (by rw[hW5,hX5];exact aQ _ _ _);have HB5:=aH (after HBV.out hb5);have HR5:=aH (HRV.out.next hb5);rw[<-hW5,<-hX5];refine hK.out _ _ (hS2 _ hb5) (fun hX9=>?_);clear hK K hX9 hS2 hb5 hW5 hX5 hS0;refine wpAnyH_done (by kernel_rfl) ?_ _;go_wp2_with fail
      obtain⟨V6,hV,hT⟩:=aD W5;have HB6:=aH (after HB5.out hT);have HR6:=aH (HR5.out.next hT);have HV6:=aH (HV5.out.next hT);have hS0:=HSc.out V6 HB6.out HR6.out;refine aR2 hV HSc.out HB6.out HR6.out ?_;clear hV hT;iterate 11 refine aN _ rfl hS0 ?_
      refine aI 14 _ rfl hS0 ?_;refine aI 15 _ rfl hS0 ?_;refine aI 16 _ rfl hS0 ?_;refine aI 18 _ rfl hS0 ?_;refine aI 19 _ rfl hS0 ?_;refine rd 11 rfl (fun K hK=>?_);go_simp;refine(HLz.out V6 HB6.out).mono ?_;rintro e u7 ⟨rfl,hb7⟩;have HB7:=aH (after HB6.out hb7);have HV7:=aH (HV6.out.next hb7);have hS1:=HSc.out u7 HB7.out (HR6.out.next hb7);refine hK.out _ _ hS1 (fun hX9=>?_);clear hK K hX9 hb7 hS0;refine aI 12 _ rfl hS1 ?_;refine aI 13 _ rfl hS1 ?_;refine aI 17 _ rfl hS1 ?_;refine rd 20 rfl (fun K hK=>?_);go_simp;refine(HNe.out u7).mono ?_;rintro e u9 ⟨rfl,rfl⟩;refine hK.out _ _ hS1 (fun hX9=>?_);clear hK K hX9;refine aI 21 _ rfl hS1 ?_;refine rd 22 rfl (fun K hK=>?_);go_simp;refine hK.out _ _ hS1 (fun hX9=>?_);clear hK K hX9;refine wpAnyH_done (by kernel_rfl) ?_ _;clear hS1 HSc;cases nb
      ·have HNx3:Hid (aY S L P rep r v k x (j+1)=qT v (aY S L P rep r v k x j) ((x:Int),(zq:Int),fa)):=aH (by rw[HNx2.out,if_neg (by simp)]);have y0:u7.cell? ⟨X5,0,none⟩=some (.int .i64 (x:Int)):=HV7.out.cell;have y1:u7.cell? ⟨X5,1,none⟩=some (.int .i64 (zq:Int)):=HV7.out.cell;have y2:u7.cell? ⟨X5,2,none⟩=some (.int .i64 fa):=HV7.out.cell;go_wp2_with fail
       refine(HHv.out u7 ((x:Int),(zq:Int),fa) (after HBU.out (HUz.out u7 HB7.out))).mono ?_;rintro e u8 ⟨rfl,hb8⟩;have HB8:=aH (after HB7.out hb8);have HV8:=aH (HV7.out.next hb8);clear hb8 y0 y1 y2;by_cases hin:((x:Int),(zq:Int),fa)∈v
       ·have hd:decide (((x:Int),(zq:Int),fa) ∈ v)=true:=decide_eq_true hin;have HNn:Hid (aY S L P rep r v k x (j+1)=aY S L P rep r v k x j):=aH (by rw[HNx3.out];unfold qT;rw[if_pos (.inl hin)]);have HQ1n:Hid (q=(aY S L P rep r v k x (j+1)).length):=aH (by rw[HNn.out];exact HQ1.out);have HBn:=aH (HIn.out u8 HB8.out);rw[<-HNn.out]at HBn;rw[hd];clear hin hd;go_wp2_with fail
        go_roundw
        case rel=>exact⟨j+1,_,_,_,_,rfl,by have:=HJT.out;omega,rfl,by first|go_num|(rw[HJk.out];go_num),HQ1n,HBn⟩
        case measure=>first|exact aL HJT HJk|exact aK HJT HJk
       ·have hd:decide (((x:Int),(zq:Int),fa) ∈ v)=false:=decide_eq_false hin;have y0:u8.cell? ⟨X5,0,none⟩=some (.int .i64 (x:Int)):=HV8.out.cell;have y1:u8.cell? ⟨X5,1,none⟩=some (.int .i64 (zq:Int)):=HV8.out.cell;have y2:u8.cell? ⟨X5,2,none⟩=some (.int .i64 fa):=HV8.out.cell;have HHo:Hid (Calls Tryz.prog 64 #[.slice a q c,.agg #[.int .i64 (x:Int),.int .i64 (zq:Int),.int .i64 fa]] u8 (aP (.bool (decide (((x:Int),(zq:Int),fa) ∈ aY S L P rep r v k x j))) u8)):=aH (rhas_any a q c (aY S L P rep r v k x j) ((x:Int),(zq:Int),fa) u8 HQl.out (by obtain ⟨a',c',e',h9,-⟩:=SL.ofOwns jA (by decide) (HIn.out u8 HB8.out).1.oo;injection e' with e1 e2 e3;subst e1;rw [HQ1.out] at h9 ⊢;exact h9));rw[hd];have HNv:=aH hin;clear hin hd;go_wp2_with fail
        refine HHo.out.mono ?_;rintro e u9 ⟨rfl,hb9⟩;have HB9:=aH (after HB8.out hb9);have HV9:=aH (HV8.out.next hb9);clear hb9 y0 y1 y2;by_cases hin:((x:Int),(zq:Int),fa)∈aY S L P rep r v k x j
        ·have hd:decide (((x:Int),(zq:Int),fa) ∈ aY S L P rep r v k x j)=true:=decide_eq_true hin;have HNn:Hid (aY S L P rep r v k x (j+1)=aY S L P rep r v k x j):=aH (by rw[HNx3.out];unfold qT;rw[if_pos (.inr hin)]);have HQ1n:Hid (q=(aY S L P rep r v k x (j+1)).length):=aH (by rw[HNn.out];exact HQ1.out);have HBn:=aH (HIn.out u9 HB9.out);rw[<-HNn.out]at HBn;rw[hd];clear hin hd;go_wp2_with fail
         go_roundw
         case rel=>exact⟨j+1,_,_,_,_,rfl,by have:=HJT.out;omega,rfl,by first|go_num|(rw[HJk.out];go_num),HQ1n,HBn⟩
         case measure=>first|exact aL HJT HJk|exact aK HJT HJk
        ·have hd:decide (((x:Int),(zq:Int),fa) ∈ aY S L P rep r v k x j)=false:=decide_eq_false hin;have HNn:Hid (aY S L P rep r v k x (j+1)=aY S L P rep r v k x j++ [((x:Int),(zq:Int),fa)]):=aH (by rw[HNx3.out];unfold qT;rw[if_neg (fun h=>h.elim HNv.out hin)]);have y0:u9.cell? ⟨X5,0,none⟩=some (.int .i64 (x:Int)):=HV9.out.cell;have y1:u9.cell? ⟨X5,1,none⟩=some (.int .i64 (zq:Int)):=HV9.out.cell;have y2:u9.cell? ⟨X5,2,none⟩=some (.int .i64 fa):=HV9.out.cell;have hR9:=HIn.out u9 HB9.out;obtain⟨g6,cap,W6,hr6,ho6,hg6,hlie⟩:=own_app hR9.1.oo ((x:Int),(zq:Int),fa) HQl.out hR9.1.bb.size;have HQ1n:Hid (q+1=(aY S L P rep r v k x (j+1)).length):=aH (by rw[HNn.out,List.length_append,<-HQ1.out];rfl);have hX3l:=lt_of_block hR9.2.1;have HBn:Hid (RW U W6 (aY S L P rep r v k x (j+1)) (some ⟨g6,0,none⟩) (q+1) cap/\RB W6 X3 #[.string ⟨m.sc.name.toArray⟩,.int .i64 m.sc.kind,.bool m.sc.keep,.int .i64 m.sc.align,.string ⟨m.sc.data.toArray⟩,.slice (some ⟨mb,mo,none⟩) rn2 mc] 55/\∀g,(Value.slice (some ⟨g6,0,none⟩) (q+1) cap).ownBlock=some g->g≠X3):=aH ⟨⟨hR9.1.bb.grown hg6 hR9.1.bb.size (fun b hb=>(hR9.1.oo.lt b hb).1),by rw[HNn.out];exact ho6,fun h9=>by omega⟩,(hg6.block X3 hX3l (fun e=>hR9.2.2 X3 e.symm rfl)).trans hR9.2.1,fun g hg=>by
          simp only[Value.ownBlock,Option.map_some,Option.some.injEq]at hg;subst hg;rcases hlie with h1|h1
          ·exact hR9.2.2 _ h1
          ·omega⟩
         have HAp:=aH hr6;rw[hd];clear hin hd hR9 hr6 ho6 hg6 hlie hX3l;go_wp2_with (at_builtin;refine Lib.wpList_append_run _ rfl _ _ 29 29 rfl _ _ (by rfl) (by rfl) _ _ HAp.out ?_)
         go_roundw
         case rel=>exact⟨j+1,_,_,_,_,rfl,by have:=HJT.out;omega,rfl,by first|go_num|(rw[HJk.out];go_num),HQ1n,HBn⟩
         case measure=>first|exact aL HJT HJk|exact aK HJT HJk
      ·have HNn:Hid (aY S L P rep r v k x (j+1)=aY S L P rep r v k x j):=aH (by rw[HNx2.out,if_pos rfl]);have HQ1n:Hid (q=(aY S L P rep r v k x (j+1)).length):=aH (by rw[HNn.out];exact HQ1.out);have HBn:=aH (HIn.out u7 HB7.out);rw[<-HNn.out]at HBn;go_wp2_with fail
       go_roundw
       case rel=>exact⟨j+1,_,_,_,_,rfl,by have:=HJT.out;omega,rfl,by first|go_num|(rw[HJk.out];go_num),HQ1n,HBn⟩
       case measure=>first|exact aL HJT HJk|exact aK HJT HJk
     ·have hk3:(fk !=2)=true:=by simp[hk2]
      have HNn:Hid (aY S L P rep r v k x (j+1)=aY S L P rep r v k x j):=aH (by rw[HNx.out,if_neg hk2]);have HQ1n:Hid (q=(aY S L P rep r v k x (j+1)).length):=aH (by rw[HNn.out];exact HQ1.out);have HBn:=aH (HIn.out W4 HB4.out);rw[<-HNn.out]at HBn;clear hk2;go_wp2_with fail
      rw[HW4e.out];go_roundw
      case rel=>exact⟨j+1,_,_,_,_,rfl,by have:=HJT.out;omega,rfl,by first|go_num|(rw[HJk.out];go_num),HQ1n,HBn⟩
      case measure=>first|exact aL HJT HJk|exact aK HJT HJk
    ·obtain rfl:rn2=j:=by omega
     have hge:¬(rn2:Int)<(rn2:Int):=by omega
     have HQ1n:Hid (q=(eD S L P rep r v (k+1)).length):=aH (by rw[<-HKi.out,<-HRl2.out];exact HQ1.out);have HBn:Hid (RW U wz (eD S L P rep r v (k+1)) a q c):=aH (by rw[<-HKi.out,<-HRl2.out];exact HI.out.1);clear hj hjl;go_wp2_with fail
     go_roundw
     case rel=>exact⟨k+1,_,_,_,_,rfl,by have:=HLT.out;omega,rfl,by first|go_num|(rw[HWk.out];go_num),HQ1n,HBn⟩
     case measure=>first|exact aL HLT HWk|exact aK HLT HWk
  ·obtain rfl:ln=k:=by omega
   have hge:¬(ln:Int)<(ln:Int):=by omega
   have HLe:Hid (eD S L P rep r v ln=gJ S L P rep r v):=aH (by unfold eD gJ;rw[<-HLl.out,List.take_length]);have HQ1n:Hid (q=(gJ S L P rep r v).length):=aH (by rw[<-HLe.out];exact HQ1.out);have HBn:Hid (RW U wy (gJ S L P rep r v) a q c):=aH (by rw[<-HLe.out];exact HRW.out);clear hk hlt;go_wp2_with fail
   go_ret;obtain⟨b1,b2,b3⟩:=HBn.out;rw[HQ1n.out]at b2;exact⟨a,c,by rw[HQ1n.out];rfl,Pl.own_down b2 HBU.out.size,fun h9=>b3 (by rw[HQ1n.out,h9];rfl),after HBU.out b1⟩
end
section
open Go.ChangeShapes Go.WideShapes Go.Deep Go.RowKit
open Go.Proofs.YtiohgaghmnpplaaGreatDoor.Pl (encU encU_len)
theorem box2 (w:World)(a b c t d st r:Value)(T:TypeId):∃(X:Nat) (W:World),Hid (w.heap.size=X)/\Hid ((w.alloc (.cells #[a,b,c] 25)).alloc (.cells #[t,d,st,r] T)=W)/\Hid (Below w.heap.size w W)/\W.heap.size=X+2/\
  Hid (∀u,Below W.heap.size W u->(u.cell? ⟨X,0,none⟩=some a/\u.cell? ⟨X,1,none⟩=some b/\u.cell? ⟨X,2,none⟩=some c)/\u.cell? ⟨X+1,0,none⟩=some t/\u.cell? ⟨X+1,1,none⟩=some d/\u.cell? ⟨X+1,2,none⟩=some st/\u.cell? ⟨X+1,3,none⟩=some r):=by
 have z1:(w.alloc (.cells #[a,b,c] 25)).heap.size=w.heap.size+1:=World.size_alloc _ _;refine⟨_,_,aH rfl,aH rfl,aH (after (aC _ _) (aC _ _)),by rw[World.size_alloc,z1],aH fun u hu=>?_⟩;have h1:=((aQ w #[a,b,c] 25).next (aC _ (.cells #[t,d,st,r] T))).next hu;have h2:=(aQ (w.alloc (.cells #[a,b,c] 25)) #[t,d,st,r] T).next hu;rw[z1]at h2;exact⟨⟨h1.cell,h1.cell,h1.cell⟩,(fD h2).1⟩
theorem small_le {n:Nat}(h:n<=40):n<=1000000:=by omega
section
variable {p:Yp} {Lm:List Ms} {rep live align:List Int} {w:World} {t d st r:Int}
theorem LQ.ris (h:LQ p Lm rep live align w)(hf:qV p.n Lm)(hk:p.rn<=40/\p.ln<=40/\p.an<=40):Calls Tryz.prog 43 #[.slice p.ua p.n p.uc,.agg #[.slice p.ra p.rn p.rc,.slice p.la p.ln p.lc,.slice p.aa p.an p.ac]] w (oI (lE (Lm.map (·.sc)) rep live align) w):=
 rShrIs_any w p.ua p.n p.uc Lm p.ra p.rn p.rc rep p.la p.ln p.lc live p.aa p.an p.ac align h.hn h.hs h.hno h.hg h.hb h.hr h.hl h.ha (small_le hk.1) (small_le hk.2.1) (small_le hk.2.2) hf
theorem LQ.rven (h:LQ p Lm rep live align w)(hq:lE (Lm.map (·.sc)) rep live align){va:Option Addr}{vn vc:Nat}{v:List Vn}(hv:SL gB 3 w w.heap.size va vn v)(hvn:vn<=100000):
  Calls Tryz.prog 44 #[.slice p.ua p.n p.uc,.agg #[.slice p.ra p.rn p.rc,.slice p.la p.ln p.lc,.slice p.aa p.an p.ac],.slice va vn vc] w (aP (.bool (aX (Lm.map (·.sc)) (aJ (Lm.map (·.sc)) rep) [] v)) w):=by
 obtain⟨hLQ,hn,hlt,hln,hla,-⟩:=h.left hq;exact rveneers_any p.ua p.n p.uc p.ra p.rn p.rc p.la p.ln p.lc p.aa p.an p.ac va vn vc Lm _ _ v w rfl h.hs hla hlt (by omega) (by omega) hv hvn
theorem LQ.rlay (h:LQ p Lm rep live align w)(hq:lE (Lm.map (·.sc)) rep live align)(hg:Pl.goodB t d st r=true)(t0:0<=t)(d0:0<=d){va:Option Addr}{vn vc:Nat}{v:List Vn}(hv:SL gB 3 w w.heap.size va vn v)(hvr:aX (Lm.map (·.sc)) (aJ (Lm.map (·.sc)) rep) [] v=true)(hvn:vn<=100000):
  Calls Tryz.prog 30 #[.slice p.ua p.n p.uc,.agg #[.slice p.ra p.rn p.rc,.slice p.la p.ln p.lc,.slice p.aa p.an p.ac],.agg (fV t d st r),.slice va vn vc] w (TwoU (bF (Lm.map (·.sc)) (aJ (Lm.map (·.sc)) rep) align t d v) (kS (Lm.map (·.sc)) (aJ (Lm.map (·.sc)) rep) (bF (Lm.map (·.sc)) (aJ (Lm.map (·.sc)) rep) align t d v) v) w):=by
 obtain⟨hLQ,hn,hlt,hln,hla,-⟩:=h.left hq;obtain⟨g1,g2,-⟩:=sE hg;exact rlay_any p Lm _ rep _ align va vn vc v t d st r w rfl hLQ h.hs hla h.ha hlt (by omega) hv hvr hvn t0 g1 d0 g2
theorem LQ.rwants (h:LQ p Lm rep live align w)(hq:lE (Lm.map (·.sc)) rep live align)(hg:Pl.goodB t d st r=true)(t0:0<=t)(d0:0<=d){va:Option Addr}{vn vc:Nat}{v:List Vn}(hv:SL gB 3 w w.heap.size va vn v)(hvr:aX (Lm.map (·.sc)) (aJ (Lm.map (·.sc)) rep) [] v=true)(hvn:vn<=100000):
  Calls Tryz.prog 32 #[.slice p.ua p.n p.uc,.agg #[.slice p.ra p.rn p.rc,.slice p.la p.ln p.lc,.slice p.aa p.an p.ac],.agg (fV t d st r),.slice va vn vc] w (RowV (qW (Lm.map (·.sc)) (aJ (Lm.map (·.sc)) rep) align rep t d r v) w):=by
 obtain⟨hLQ,hn,hlt,hln,hla,hlv,hsy,hgc⟩:=h.left hq;obtain⟨g1,g2,g3,g4⟩:=sE hg;exact rwants_any p Lm _ rep _ align va vn vc v t d st r _ w rfl hLQ hq.1 h.hs h.hno (fun m hm=>(h.hg m hm).rels) h.hr hla h.ha hlt hn hv hvr hvn t0 g1 d0 g2 hsy (by unfold cS;omega) rfl
end
theorem rRight_any (p:Yp)(Lm:List Ms)(rep live align:List Int)(t d st r:Int)(va:Option Addr)(vn vc:Nat)(v:List Vn)(w:World)(h:LQ p Lm rep live align w)(hf:qV p.n Lm)(hk:p.rn<=40/\p.ln<=40/\p.an<=40)(t0:0<=t)(t1:t<18446744073709551616)(d0:0<=d)(d1:d<18446744073709551616)(s0:0<=st)(s1:st<18446744073709551616)
  (hv:SL gB 3 w w.heap.size va vn v) (hvn:vn<=100000):
  Calls Tryz.prog 29 #[.slice p.ua p.n p.uc,p.kp,.agg (fV t d st r),.slice va vn vc] w (oI (okV Lm rep live align t d st r v) w):=by
 obtain⟨gb,hgb⟩:=aE (Pl.goodB t d st r);obtain⟨rv,hrv⟩:=aE (aX (Lm.map (·.sc)) (aJ (Lm.map (·.sc)) rep) [] v);obtain⟨Q,hQ⟩:=aE (lE (Lm.map (·.sc)) rep live align);have HIs:Hid (∀u,Below w.heap.size w u->Calls Tryz.prog 43 #[.slice p.ua p.n p.uc,.agg #[.slice p.ra p.rn p.rc,.slice p.la p.ln p.lc,.slice p.aa p.an p.ac]] u (oI Q u)):=aH fun u hu=>by rw[hQ];exact(h.next hu).ris hf hk
 have HGo:Hid (∀u,Calls Tryz.prog 59 #[.agg #[.int .u64 t,.int .u64 d,.int .u64 st,.int .i64 r]] u (aP (.bool gb) u)):=aH fun u=>by rw[hgb];exact Pl.refGood_any t d st r u t0 t1 d0 d1 s0 s1
 have HVe:Hid (Q->∀u,Below w.heap.size w u->Calls Tryz.prog 44 #[.slice p.ua p.n p.uc,.agg #[.slice p.ra p.rn p.rc,.slice p.la p.ln p.lc,.slice p.aa p.an p.ac],.slice va vn vc] u (aP (.bool rv) u)):=aH fun hq u hu=>by rw[hrv];rw[hQ]at hq;exact(h.next hu).rven hq (hv.next hu) hvn
 unfold okV;rw[<-hgb,<-hrv,<-hQ];obtain⟨X,W,HXe,HWe,HB,-,HC⟩:=box2 w (.slice p.ra p.rn p.rc) (.slice p.la p.ln p.lc) (.slice p.aa p.an p.ac) (.int .u64 t) (.int .u64 d) (.int .u64 st) (.int .i64 r) 28;obtain⟨⟨k0,k1,k2⟩,-⟩:=HC.out W (Below.refl _ _);rw[<-HWe.out,<-HXe.out]at k0 k1 k2;clear hgb hrv hQ h hf hk t0 t1 d0 d1 s0 s1 hv hvn;go_enter Tryz.func29,Tryz.ntmps29;go_wp2_with fail
 rw[HWe.out,HXe.out];refine(HIs.out W HB.out).mono ?_;rintro e u1 ⟨b,rfl,hb,hb1⟩;have HB1:=aH hb1;have HBq:=aH hb;clear k0 k1 k2 hb hb1;cases b
 ·go_wp2_with fail
  go_ret;exact⟨false,rfl,⟨fun h9=>(by cases h9),fun h9=>HBq.out.2 h9.2.1⟩,after HB.out HB1.out⟩
 obtain⟨-,o0,o1,o2,o3⟩:=HC.out u1 HB1.out;go_wp2_with fail
 refine(HGo.out u1).mono ?_;rintro e u2 ⟨rfl,hb2⟩;have HB2:=aH (after HB1.out hb2);clear o0 o1 o2 o3 hb2;cases gb
 ·go_wp2_with fail
  go_ret;exact⟨false,rfl,⟨fun h9=>(by cases h9),fun h9=>h9.1⟩,after HB.out HB2.out⟩
 obtain⟨⟨k0,k1,k2⟩,-⟩:=HC.out u2 HB2.out;go_wp2_with fail
 refine(HVe.out (HBq.out.1 (by trivial)) u2 (after HB.out HB2.out)).mono ?_;rintro e u3 ⟨rfl,hb3⟩;have HB3:=aH (after HB2.out hb3);clear k0 k1 k2 hb3;go_wp2_with fail
 go_ret;exact⟨rv,rfl,⟨fun h9=>⟨(by trivial),HBq.out.1 (by trivial),h9⟩,fun h9=>h9.2.2⟩,after HB.out HB3.out⟩
theorem own_set4 {u:World}{P n q c sz:Nat}{e:TypeId}{xs:List Value}{ad:Option Addr}{a b x y:Value}(h:u.ownsRow n e sz (.slice ad q c) q xs)(hn:P<n):(set4 u P a b x y).ownsRow n e sz (.slice ad q c) q xs:=
 own_set y (own_set x (own_set b (own_set a h hn) hn) hn) hn
structure RPl (S:List Sc)(L:List Nat)(align rep:List Int)(t d r:Int)(U u:World)(j:Nat)(aV:Option Addr)(nV cV:Nat)(aM:Option Addr)(nM cM:Nat):Prop where
 bb:Below U.heap.size U u
 oV:u.ownsRow U.heap.size 80 3 (.slice aV nV cV) nV ((iH S L align rep t d r j).flatMap gB)
 sM:SL gB 3 u u.heap.size aM nM (qW S L align rep t d r (iH S L align rep t d r j))
 em:aM=none->nM=0/\cM=0
 ne:∀i,i<j->qW S L align rep t d r (iH S L align rep t d r i)≠ []
theorem rPlan_any (p:Yp)(Lm:List Ms)(rep live align:List Int)(t d st r:Int)(w:World)(h:LQ p Lm rep live align w)(hf:qV p.n Lm)(hk:p.rn<=40/\p.ln<=40/\p.an<=40)(t0:0<=t)(t1:t<18446744073709551616)(d0:0<=d)(d1:d<18446744073709551616)(s0:0<=st)(s1:st<18446744073709551616):
  Calls Tryz.prog 18 #[.slice p.ua p.n p.uc,p.kp,.agg (fV t d st r)] w (PlanP (Pl.goodB t d st r=true/\lE (Lm.map (·.sc)) rep live align) (Lm.map (·.sc)) (aJ (Lm.map (·.sc)) rep) align rep t d r w):=by
 obtain⟨S,hS⟩:=aE (Lm.map (·.sc));obtain⟨L,hL⟩:=aE (aJ S rep);obtain⟨ok,hok⟩:=aE ((Pl.goodB t d st r=true/\lE S rep live align));have HRi:Hid (∀u,Below w.heap.size w u->Calls Tryz.prog 29 #[.slice p.ua p.n p.uc,.agg #[.slice p.ra p.rn p.rc,.slice p.la p.ln p.lc,.slice p.aa p.an p.ac],.agg #[.int .u64 t,.int .u64 d,.int .u64 st,.int .i64 r],.slice none 0 0] u (oI ok u)):=aH fun u hu=>by
  refine(rRight_any p Lm rep live align t d st r none 0 0 [] u (h.next hu) hf hk t0 t1 d0 d1 s0 s1 (SL.nil _ _ _) (by omega)).mono ?_;rintro e w' ⟨b,e1,e2,e3⟩;exact⟨b,e1,e2.trans (by rw[hok,hS];exact⟨fun h9=>⟨h9.1,h9.2.1⟩,fun h9=>⟨h9.1,h9.2,rfl⟩⟩),e3⟩
 have HLf:Hid (ok->iT S rep L align):=aH fun h9=>by rw[hok,hS]at h9;rw[hL,hS];exact(h.left h9.2).1
 have HWa:Hid (ok->∀(u:World) (va:Option Addr) (vn vc:Nat) (v:List Vn),Below w.heap.size w u->SL gB 3 u u.heap.size va vn v->aX S L [] v=true->vn<=100000->Calls Tryz.prog 32 #[.slice p.ua p.n p.uc,.agg #[.slice p.ra p.rn p.rc,.slice p.la p.ln p.lc,.slice p.aa p.an p.ac],.agg #[.int .u64 t,.int .u64 d,.int .u64 st,.int .i64 r],.slice va vn vc] u (RowV (qW S L align rep t d r v) u)):=aH fun h9 u va vn vc v hu hv hvr hvn=>by
  rw[hok,hS]at h9;rw[hL,hS]at hvr⊢;exact(h.next hu).rwants h9.2 h9.1 t0 d0 hv hvr hvn
 have HLa:Hid (ok->∀(u:World) (va:Option Addr) (vn vc:Nat) (v:List Vn),Below w.heap.size w u->SL gB 3 u u.heap.size va vn v->aX S L [] v=true->vn<=100000->Calls Tryz.prog 30 #[.slice p.ua p.n p.uc,.agg #[.slice p.ra p.rn p.rc,.slice p.la p.ln p.lc,.slice p.aa p.an p.ac],.agg #[.int .u64 t,.int .u64 d,.int .u64 st,.int .i64 r],.slice va vn vc] u (TwoU (bF S L align t d v) (kS S L (bF S L align t d v) v) u)):=aH fun h9 u va vn vc v hu hv hvr hvn=>by
  rw[hok,hS]at h9;rw[hL,hS]at hvr⊢;exact(h.next hu).rlay h9.2 h9.1 t0 d0 hv hvr hvn
 rw[<-hS,<-hL,<-hok];obtain⟨X,W,HXe,HWe,HB,hWs,HC⟩:=box2 w (.slice p.ra p.rn p.rc) (.slice p.la p.ln p.lc) (.slice p.aa p.an p.ac) (.int .u64 t) (.int .u64 d) (.int .u64 st) (.int .i64 r) 28;obtain⟨W1,hW1⟩:=aE (W.alloc (.cells kD 44));have hb1:Below W.heap.size W W1:=by rw[hW1];exact aC _ _
 have HZ:Hid (RB W1 (X+1+1) kD 44):=aH (by rw[hW1,<-hWs];exact aQ _ _ _);have HB1:=aH (And.intro hb1 (after HB.out hb1));have HXs:Hid (X+1+1<W1.heap.size/\w.heap.size=X):=aH ⟨lt_of_block HZ.out,HXe.out⟩;obtain⟨⟨k0,k1,k2⟩,o0,o1,o2,o3⟩:=HC.out W1 hb1;rw[hW1,<-HWe.out,<-HXe.out]at k0 k1 k2 o0 o1 o2 o3;have HW1e:=aH hW1.symm;clear hS hL hok h hf hk t0 t1 d0 d1 s0 s1 hWs hW1 hb1;go_enter Tryz.func18,Tryz.ntmps18;go_wp2_with fail
 rw[HWe.out,HXe.out,HW1e.out];refine(HRi.out W1 HB1.out.2).mono ?_;rintro e u1 ⟨b,rfl,hb,hb1⟩;have HBq:=aH hb;have HU:Hid (Below W.heap.size W u1/\Below w.heap.size w u1/\RB u1 (X+1+1) kD 44/\X+1+1<u1.heap.size):=aH ⟨after HB1.out.1 hb1,after HB1.out.2 hb1,HZ.out.next hb1,lt_of_block (HZ.out.next hb1)⟩;clear k0 k1 k2 o0 o1 o2 o3 hb hb1;cases b
 ·obtain⟨⟨z0,z1,z2,z3⟩,q0,q1,q2,q3⟩:=fD HU.out.2.2.1;have HF:=aH (oT (a:=.slice none 0 0) (b:=.slice none 0 0) (c:=.slice none 0 0) (d:=.int .i64 0) HU.out.2.2.1);go_wp2_with fail
  refine bodyPost_ret (eU (P:=Tryz.prog) rfl _ _ (X+1+1) 44 _ (0,0) _ (.int .i64 1) rfl HF.out Tryz.underlying44 rfl (by kernel_rfl) rfl) rfl ?_;exact .inr ⟨fun h=>(by have:=HBq.out.2 h;cases this),rfl,kN HU.out.2.1 (by have:=HXs.out;omega)⟩
 have HOk:=aH (HBq.out.1 (by trivial));have HQ:=aH (HLf.out HOk.out);obtain⟨⟨k0,k1,k2⟩,o0,o1,o2,o3⟩:=HC.out u1 HU.out.1;go_wp2_with fail
 refine (HWa.out HOk.out u1 none 0 0 [] HU.out.2.1 (SL.nil _ _ _) rfl (by omega)).mono ?_;rintro e u2 ⟨aM,cM,rfl,hoM,heM,hb2⟩;obtain⟨nM,hnM⟩:=aE ((qW S L align rep t d r []).length);rw[<-hnM]at hoM⊢;have HR0:Hid (RPl S L align rep t d r u1 u2 0 none 0 0 aM nM cM):=aH ⟨hb2,World.ownsRow_nil _ _ _ _,by obtain⟨a',c',e',h9,-⟩:=SL.ofOwns jA (by decide) hoM;injection e' with e1 e2 e3;subst e1;exact h9,by obtain⟨a',c',e',-,h9⟩:=SL.ofOwns jA (by decide) hoM;injection e' with e1 e2 e3;subst e1;subst e3;exact h9,fun i hi=>by omega⟩;clear k0 k1 k2 o0 o1 o2 o3 hoM heM hb2 hnM;obtain⟨C,hC⟩:=aE ((kL S L rep).length);have HCe:=aH (And.intro hC (qP HQ.out));clear hC;go_wp2_with fail
 go_loopw [8,9,10] (fun vv rv mv wr=>∃(j:Nat) (wx:World) (aV:Option Addr) (nV cV:Nat) (aM:Option Addr) (nM cM:Nat),wx=wr/\vv=.slice aV nV cV/\rv=.int .i64 ((j+1:Nat):Int)/\mv=.slice aM nM cM/\Hid (RPl S L align rep t d r u1 wx j aV nV cV aM nM cM)) (fun _ rv _ _=>C+1-(intOf rv).toNat)
 case atStart=>exact⟨0,_,none,0,0,aM,nM,cM,rfl,rfl,rfl,rfl,HR0⟩
 case round=>
  clear HR0;obtain⟨j,wx,aV,nV,cV,aM,nM,cM,rfl,rfl,rfl,rfl,HR⟩:=hrel;have HNV:Hid (nV=(iH S L align rep t d r j).length/\nV<=16384):=aH (by
   obtain⟨a',c',e',h9,-⟩:=SL.ofOwns jA (by decide) HR.out.oV;have h1:=h9.len;have h2:=rE (t:=t) (d:=d) (r:=r) HQ.out j;omega)
  by_cases hz:nM=0
  ·have hE:EndsAt S L align rep t d r j:=⟨List.eq_nil_of_length_eq_zero (by rw[<-HR.out.sM.len,hz]),HR.out.ne⟩;subst hz;have HE:=aH hE;have HB4:=aH (after HU.out.1 HR.out.bb);have HBw:=aH (after HU.out.2.1 HR.out.bb);have HSv:Hid (SL gB 3 wx wx.heap.size aV nV (iH S L align rep t d r j)):=aH (by obtain⟨a',c',e',h9,-⟩:=SL.ofOwns jA (by decide) HR.out.oV;injection e' with e1 e2 e3;subst e1;exact h9);have HZ4:=aH (HU.out.2.2.1.next HR.out.bb);obtain⟨⟨k0,k1,k2⟩,o0,o1,o2,o3⟩:=HC.out wx HB4.out;clear hE;go_wp2_with fail
   refine(HLa.out HOk.out wx aV nV cV _ HBw.out HSv.out (oN HQ.out j) (by have:=HNV.out;omega)).mono ?_;rintro e u5 ⟨a5,c5,a6,c6,rfl,ho5,ho6,-,hb5⟩;obtain⟨n5,hn5⟩:=aE ((bF S L align t d (iH S L align rep t d r j)).length);obtain⟨n6,hn6⟩:=aE ((kS S L (bF S L align t d (iH S L align rep t d r j)) (iH S L align rep t d r j)).length);rw[<-hn5]at ho5⊢;rw[<-hn6]at ho6⊢;have HZ5:=aH (HZ4.out.next hb5);have HB5:=aH (after HBw.out hb5);obtain⟨⟨z0,z1,z2,z3⟩,q0,q1,q2,q3⟩:=fD HZ5.out;have HF:=aH (oT (a:=.slice a5 n5 c5) (b:=.slice aV nV cV) (c:=.slice a6 n6 c6) (d:=.int .i64 ((j+1:Nat):Int)) HZ5.out);have HP:Hid (∀x,x=.agg #[.slice a5 n5 c5,.slice aV nV cV,.slice a6 n6 c6,.int .i64 ((j+1:Nat):Int)]->PlanV S L align rep t d r u1.heap.size x u5):=aH fun x hx=>by
    have hs:=HR.out.bb.size;exact⟨j,a5,n5,c5,aV,nV,cV,a6,n6,c6,HE.out,hx,Pl.own_down ho5 hs,Pl.own_next HR.out.oV hb5,Pl.own_down ho6 hs⟩
   obtain⟨j1,hj1⟩:∃j1:Int,j1=((j+1:Nat):Int):=⟨_,rfl⟩;rw[<-hj1]at HP HF⊢;clear ho5 ho6 hn5 hn6 hb5 k0 k1 k2 o0 o1 o2 o3 HSv HZ4 hj1;go_wp2_with fail
   refine bodyPost_ret (eU (P:=Tryz.prog) rfl _ _ (X+1+1) 44 _ (0,0) _ (.int .i64 0) rfl HF.out Tryz.underlying44 rfl (by kernel_rfl) rfl) rfl ?_;exact .inl ⟨HOk.out,_,rfl,(HP.out _ rfl).to (fun e sz ad q c xs h9=>Pl.own_down (own_set4 h9 HU.out.2.2.2) HU.out.2.1.size),kN HB5.out (by have:=HXs.out;omega)⟩
  ·have hzi:(0:Int)<(nM:Int):=by omega
   have hne:qW S L align rep t d r (iH S L align rep t d r j)≠ []:=by
    intro e;have:=HR.out.sM.len;rw[e]at this;exact hz this
   have hall:∀i,i<j+1->qW S L align rep t d r (iH S L align rep t d r i)≠ []:=fun i hi=>by
    rcases Nat.lt_or_ge i j with h9|h9
    ·exact HR.out.ne i h9
    ·rw[show i=j from by omega];exact hne
   have HJC:Hid (j+1<C+1):=aH (by
    have h9:=vens_ends (nH (S:=S) (L:=L) (align:=align) (rep:=rep) (t:=t) (d:=d) (r:=r)) (j+1) hall;have:=HCe.out.1;omega)
   have HWj:Hid (wrap64 (((j+1:Nat):Int)+1)=((j+1:Nat):Int)+1):=aH (by have:=HJC.out;have:=HCe.out;unfold wrap64;omega);have HWk:Hid (wrap64 ((j:Int)+1+1)=((j+1+1:Nat):Int)):=aH (by have:=HJC.out;have:=HCe.out;unfold wrap64;omega);have hMl:nM<=16384:=by
    have h9:=HR.out.sM.len;have h8:=nS _ _ (nH (S:=S) (L:=L) (align:=align) (rep:=rep) (t:=t) (d:=d) (r:=r) (iH S L align rep t d r j)).1 (fun x hx=>((nH _).2 x hx).2);have:=HCe.out;omega
   obtain⟨a',c',w',hr,ho',hg',-⟩:=app_vens HR.out.oV HR.out.sM HR.out.em (by have:=HNV.out;omega) (by omega) HR.out.bb.size 29;have hbb:Below u1.heap.size u1 w':=HR.out.bb.grown hg' HR.out.bb.size (fun b hb=>(HR.out.oV.lt b hb).1);have HAp:=aH hr;have HO':Hid (w'.ownsRow u1.heap.size 80 3 (.slice a' (nV+nM) c') (nV+nM) ((iH S L align rep t d r (j+1)).flatMap gB)):=aH ho';have HB':=aH hbb;have HS':Hid (SL gB 3 w' w'.heap.size a' (nV+nM) (iH S L align rep t d r (j+1))):=aH (by obtain⟨a'',c'',e',h9,-⟩:=SL.ofOwns jA (by decide) HO'.out;injection e' with e1 e2 e3;subst e1;exact h9);have HWc:Hid (Calls Tryz.prog 32 #[.slice p.ua p.n p.uc,.agg #[.slice p.ra p.rn p.rc,.slice p.la p.ln p.lc,.slice p.aa p.an p.ac],.agg #[.int .u64 t,.int .u64 d,.int .u64 st,.int .i64 r],.slice a' (nV+nM) c'] w' (RowV (qW S L align rep t d r (iH S L align rep t d r (j+1))) w')):=aH (HWa.out HOk.out w' a' (nV+nM) c' _ (after HU.out.2.1 hbb) HS'.out (oN HQ.out (j+1)) (by have:=HNV.out;omega));have HAll:=aH hall;obtain⟨⟨k0,k1,k2⟩,o0,o1,o2,o3⟩:=HC.out w' (after HU.out.1 hbb);clear hne hall hMl hr ho' hg' hbb hz;go_wp2_with (at_builtin;refine Lib.wpList_append_run _ rfl _ _ 29 29 rfl _ _ (by rfl) (by rfl) _ _ HAp.out ?_)
   refine HWc.out.mono ?_;rintro e u6 ⟨aM',cM',rfl,hoM,-,hb6⟩;obtain⟨nM',hnM⟩:=aE ((qW S L align rep t d r (iH S L align rep t d r (j+1))).length);rw[<-hnM]at hoM⊢;have HRn:Hid (RPl S L align rep t d r u1 u6 (j+1) a' (nV+nM) c' aM' nM' cM'):=aH ⟨after HB'.out hb6,Pl.own_next HO'.out hb6,by obtain⟨a'',c'',e',h9,-⟩:=SL.ofOwns jA (by decide) hoM;injection e' with e1 e2 e3;subst e1;exact h9,by obtain⟨a'',c'',e',-,h9⟩:=SL.ofOwns jA (by decide) hoM;injection e' with e1 e2 e3;subst e1;subst e3;exact h9,HAll.out⟩;clear hoM hnM hb6 k0 k1 k2 o0 o1 o2 o3;go_wp2_with fail
   go_roundw
   case rel=>exact⟨j+1,_,_,_,_,_,_,_,rfl,rfl,by rw[HWk.out],rfl,HRn⟩
   case measure=>have h9:=fX (n:=C+1) (j:=j+1) HJC.out HWj.out;first|exact h9|(rw[HWj.out]at h9;exact h9)
end
end Go.Proofs.YtiohgaghmnpplaaGreatDoor
