/- veneer, the document's answer: where a call goes. veneer's law: VeneerPlans. What is left, and options, as arguments. veneer: a plan and veneers, as arguments. -/
import Derived.Test.YtiohgaghmnpplaaGreatDoorqA
import Derived.Test.YtiohgaghmnpplaaGreatDoory2
import Derived.Test.YtiohgaghmnpplaaGreatDoorw5
import Derived.Test.YtiohgaghmnpplaaGreatDoorw1
import Derived.Lib.SmallJoins
set_option maxRecDepth 100000
set_option maxHeartbeats 6000000
set_option linter.unusedVariables false
set_option linter.unusedSimpArgs false
namespace Go.Proofs.YtiohgaghmnpplaaGreatDoor
open Go.ChangeShapes Go.WideShapes Go.Deep Go.RowKit
theorem rGoal_any (p:Yp)(Lm:List Ms)(rep live align:List Int)(aA:Option Addr)(nA cA:Nat)(A:List Int)(aV:Option Addr)(nV cV:Nat)(v:List Vn)(aW:Option Addr)(nW cW:Nat)(Wl:List Int)(kk at' ref:Int)(w:World)(h:LQ p Lm rep live align w)(hf:qV p.n Lm)(hk:p.rn<=40/\p.ln<=40/\p.an<=40)
  (hA:SL Pl.encU 1 w w.heap.size aA nA A) (hV:SL gB 3 w w.heap.size aV nV v) (hW:SL Pl.encU 1 w w.heap.size aW nW Wl) (hvn:nV<=100000) (hAb:∀x∈A,0<=x/\x<18446744073709551616):
  Calls Tryz.prog 20 #[.slice p.ua p.n p.uc,p.kp,.agg (plV aA nA cA aV nV cV aW nW cW kk),.int .i64 at',.int .i64 ref] w (GoalP (Lm.map (·.sc)) rep live align A Wl v nA p.ln nW nV at' ref w):=by
 obtain⟨S,hS⟩:=aE (Lm.map (·.sc));have HIs:Hid (∀u,Below w.heap.size w u->Calls Tryz.prog 43 #[.slice p.ua p.n p.uc,.agg #[.slice p.ra p.rn p.rc,.slice p.la p.ln p.lc,.slice p.aa p.an p.ac]] u (oI (lE S rep live align) u)):=aH fun u hu=>by rw[hS];exact(h.next hu).ris hf hk
 have HVe:Hid (lE S rep live align->∀u,Below w.heap.size w u->Calls Tryz.prog 44 #[.slice p.ua p.n p.uc,.agg #[.slice p.ra p.rn p.rc,.slice p.la p.ln p.lc,.slice p.aa p.an p.ac],.slice aV nV cV] u (aP (.bool (aX S (aJ S rep) [] v)) u)):=aH fun hq u hu=>by rw[hS]at hq⊢;exact(h.next hu).rven hq (hV.next hu) hvn
 have HLf:Hid (lE S rep live align->iT S rep (aJ S rep) align/\p.n<=256/\(∀x∈aJ S rep,x<p.n)/\p.ln<=256/\SL dT 1 w w.heap.size p.la p.ln ((aJ S rep).map Int.ofNat)/\live=(aJ S rep).map Int.ofNat/\
  (∀k∈aJ S rep,∀f∈bZ S k,0<=f.sym/\∃z,rep[f.sym.toNat]?=some z)/\(∀a∈aJ S rep,∀f∈bZ S a,cR (eM rep a f))):=aH (by rw[hS];exact h.left)
 rw[<-hS];have HSe:=aH hS;have HH:=aH h;have HA:=aH (And.intro hA (And.intro hV (And.intro hW (And.intro hvn hAb))));obtain⟨ua,n,uc,ra,rn,rc,la,ln,lc,aa,an,ac⟩:=p;simp only[]at HIs HVe HLf;obtain⟨L,hL⟩:=aE (aJ S rep);have HLe:=aH hL;obtain⟨no,hno⟩:∃no:Prop,no=(∀f,¬gX S rep live align v nA ln nW nV at' ref f):=⟨_,rfl⟩;have HNo:Hid (∀u,no->Below w.heap.size w u->GoalP S rep live align A Wl v nA ln nW nV at' ref w (.returned (.tuple #[.int .u64 0,.int .i64 1])) u):=aH fun u h1 h2=>by rw[hno]at h1;exact .inr ⟨h1,rfl,h2⟩
 have HNe:=aH hno;rw[<-hL]at HVe HLf;show Calls Tryz.prog 20 _ w (GoalP S rep live align A Wl v nA ln nW nV at' ref w)
 obtain⟨X,W,HXe,HWe,HB,-,HC⟩:=box2 w (.slice ra rn rc) (.slice la ln lc) (.slice aa an ac) (.slice aA nA cA) (.slice aV nV cV) (.slice aW nW cW) (.int .i64 kk) 44;obtain⟨⟨k0,k1,k2⟩,-⟩:=HC.out W (Below.refl _ _);rw[<-HWe.out,<-HXe.out]at k0 k1 k2;clear hS h hf hk hA hV hW hvn hAb hL hno;go_enter Tryz.func20,Tryz.ntmps20;go_wp2_with fail
 rw[HWe.out,HXe.out];refine(HIs.out W HB.out).mono ?_;rintro e u1 ⟨b,rfl,hb,hb1⟩;have HB1:=aH (And.intro hb1 (after HB.out hb1));have HBq:=aH hb;clear k0 k1 k2 hb hb1;cases b
 ·go_wp2_with fail
  go_ret2;exact HNo.out _ (by rw[HNe.out];intro f hf;have:=HBq.out.2 hf.2.2.1.1;cases this) HB1.out.2
 have HIq:=aH (HBq.out.1 (by trivial));have HLq:=aH (HLf.out HIq.out);obtain⟨⟨k0,k1,k2⟩,o0,o1,o2,o3⟩:=HC.out u1 HB1.out.1;by_cases c1:nA=ln
 case neg=>
  have HN1:Hid no:=aH (by rw[HNe.out];exact fun f hf=>c1 hf.1);have t1:((nA:Int) !=(ln:Int))=true:=by simp;omega
  have t2:((nA:Int)==(ln:Int))=false:=by simp;omega
  clear c1;go_wp2_with fail
  go_ret2;exact HNo.out _ HN1.out HB1.out.2
 have t1:((nA:Int) !=(ln:Int))=false:=by simp;omega
 have t2:((nA:Int)==(ln:Int))=true:=by simp;omega
 have HC1:=aH c1;by_cases c2:nW=nV
 case neg=>
  have HN1:Hid no:=aH (by rw[HNe.out];exact fun f hf=>c2 hf.2.1);have t3:((nW:Int) !=(nV:Int))=true:=by simp;omega
  have t4:((nW:Int)==(nV:Int))=false:=by simp;omega
  clear c1 c2;go_wp2_with fail
  go_ret2;exact HNo.out _ HN1.out HB1.out.2
 have t3:((nW:Int) !=(nV:Int))=false:=by simp;omega
 have t4:((nW:Int)==(nV:Int))=true:=by simp;omega
 have HC2:=aH c2;clear c1 c2;obtain⟨rv,hrv⟩:=aE (aX S L [] v);rw[<-hrv]at HVe;have HRv:=aH hrv;clear hrv;go_wp2_with fail
 refine(HVe.out HIq.out u1 HB1.out.2).mono ?_;rintro e u2 ⟨rfl,hb2⟩;have HB2:=aH (And.intro (after HB1.out.1 hb2) (after HB1.out.2 hb2));clear k0 k1 k2 o0 o1 o2 o3 hb2 t1 t2 t3 t4;cases rv
 ·go_wp2_with fail
  go_ret2;exact HNo.out _ (by rw[HNe.out];intro f hf;have h9:=hf.2.2.1.2;rw[<-HLe.out,<-HRv.out]at h9;cases h9) HB2.out.2
 have HRl:Hid (∀u x,Below w.heap.size w u->Calls Tryz.prog 45 #[.agg #[.slice ra rn rc,.slice la ln lc,.slice aa an ac],.int .i64 x] u (aP (.int .i64 (kF (L.map Int.ofNat) x)) u)):=aH fun u x hu=>oQ ra rn rc la ln lc aa an ac _ x u (HLq.out.2.2.2.2.1.next hu) (by have:=HLq.out.2.2.2.1;show ln<=_;omega)
 obtain⟨⟨k0,k1,k2⟩,-⟩:=HC.out u2 HB2.out.1;go_wp2_with fail
 refine(HRl.out u2 at' HB2.out.2).mono ?_;rintro e u3 ⟨rfl,hb3⟩;have HB3:=aH (And.intro (after HB2.out.1 hb3) (after HB2.out.2 hb3));clear k0 k1 k2 hb3;by_cases hst:bC L at'=true
 case neg=>
  have hst2:bC L at'=false:=by cases h:bC L at';rfl;exact absurd h hst
  have HN1:Hid no:=aH (by rw[HNe.out];intro f hf;have h9:=hf.2.2.2.1;rw[<-HLe.out]at h9;unfold eF at h9;rw[hst2]at h9;cases h9);rw[live_no hst2];clear hst hst2;go_wp2_with fail
  go_ret2;exact HNo.out _ HN1.out HB3.out.2
 rw[lV hst];have hst9:=hst;unfold bC at hst9;simp only[Bool.and_eq_true,decide_eq_true_eq]at hst9;obtain⟨ks,rfl⟩:∃ks:Nat,at'=(ks:Int):=⟨at'.toNat,by omega⟩;have hkL:ks∈L:=by simpa using hst9.2
 have hkn:ks<n:=HLq.out.2.2.1 ks hkL;have hki:(ks:Int)<(n:Int):=by omega
 have hn1:¬(((L.idxOf (ks:Int).toNat:Nat):Int)<0):=by omega
 have hSs:SL mX 6 w w.heap.size ua n Lm:=HH.out.hs;obtain⟨m,hm⟩:=aG (l:=Lm) (i:=ks) (by have h9:=hSs.len;omega);obtain⟨ub,uo,hua,-,-⟩:=hSs.cells (by intro e;rw[e]at hm;cases hm);subst hua;have hrl:bZ S ks=m.sc.rels:=by unfold bZ;rw[HSe.out,List.getElem?_map,hm];rfl
 have hkd:bG S ks=m.sc.kind:=by unfold bG;rw[HSe.out,List.getElem?_map,hm];rfl
 have HUc:=aH (fun u (hu:Below w.heap.size w u)=>cO hSs hu hm);obtain⟨kd,hkd2⟩:=aE m.sc.kind;obtain⟨rn2,hrn2⟩:=aE m.sc.rels.length;obtain⟨ma,hma⟩:=aE m.ad;obtain⟨mc,hmc⟩:=aE m.cap;have HRf:Hid (SL kY 4 w w.heap.size ma rn2 (bZ S ks)):=aH (by rw[hma,hrn2,hrl];exact HH.out.hno m (eQ hm));obtain⟨-,u1',-,-,-,u5⟩:=HUc.out u3 HB3.out.2;rw[<-hkd2]at u1';rw[<-hma,<-hrn2,<-hmc]at u5;have HKd:Hid (bG S ks=kd):=aH (by rw[hkd,hkd2]);have HSt:=aH (And.intro hst hkL);clear hst hst9 hkL hkn hrl hkd hkd2 hrn2 hma hmc hm hSs;by_cases c1:kd=1
 case neg=>
  have HN1:Hid no:=aH (by rw[HNe.out];intro f hf;have h9:=hf.2.2.2.1;unfold eF at h9;simp only[Bool.and_eq_true,decide_eq_true_eq]at h9;rw[Int.toNat_natCast,HKd.out]at h9;exact c1 h9.2);have t1:(kd !=1)=true:=by simp[c1]
  clear c1;go_wp2_with fail
  go_ret2;exact HNo.out _ HN1.out HB3.out.2
 subst c1;have HCb:Hid (eF S L (ks:Int)=true):=aH (by unfold eF;rw[HSt.out.1,Int.toNat_natCast,HKd.out];rfl);by_cases c2:ref<0
 ·have HN1:Hid no:=aH (by rw[HNe.out];intro f hf;have:=hf.2.2.2.2.1;omega);go_wp2_with fail
  go_ret2;exact HNo.out _ HN1.out HB3.out.2
 obtain⟨rf,rfl⟩:∃rf:Nat,ref=(rf:Int):=⟨ref.toNat,by omega⟩;by_cases c3:rn2<=rf
 ·have HN1:Hid no:=aH (by rw[HNe.out];intro f hf;have h9:=hf.2.2.2.2.2.1;simp only[Int.toNat_natCast]at h9;have:=(eX h9).1;have:=HRf.out.len;omega);have c4:(rn2:Int)<=(rf:Int):=by omega
  clear c3;go_wp2_with fail
  go_ret2;exact HNo.out _ HN1.out HB3.out.2
 have c4:¬(rn2:Int)<=(rf:Int):=by omega
 have c5:(rf:Int)<(rn2:Int):=by omega
 have hrl:rf<(bZ S ks).length:=by have:=HRf.out.len;omega
 obtain⟨f,hfj⟩:=aG (l:=(bZ S ks)) (i:=rf) hrl;obtain⟨mb,mo,hma,-,hmc⟩:=(HRf.out.next HB3.out.2).cells (by intro e;rw[e]at hfj;cases hfj);subst hma;obtain⟨f0,f1,f2,f3⟩:=dN (off:=mo) (k:=rf) (t:=f) (fun i hi=>by have h1:=hmc rf hrl i hi;rw[(eX hfj).2]at h1;exact h1);have HFj:=aH hfj;obtain⟨fp,fk,fs,fa⟩:=f;simp only[]at f0 f1 f2 f3;clear hmc hrl hfj c3 c2;have c2:¬((rf:Int)<0):=by omega
 by_cases c6:fk=2
 case neg=>
  have HN1:Hid no:=aH (by rw[HNe.out];intro f hf;have h9:=hf.2.2.2.2.2.1;simp only[Int.toNat_natCast]at h9;rw[HFj.out]at h9;cases h9;exact c6 hf.2.2.2.2.2.2);have t1:(fk !=2)=true:=by simp[c6]
  clear c6;go_wp2_with fail
  go_ret2;exact HNo.out _ HN1.out HB3.out.2
 subst c6;obtain⟨hs0,z,hz⟩:=HLq.out.2.2.2.2.2.2.1 ks HSt.out.2 _ (eQ HFj.out);have HZ:Hid (pJ rep (Rl.mk fp 2 fs fa).sym=z):=aH (by unfold pJ;rw[hz];rfl);have HSr:Hid (SL dT 1 w w.heap.size ra rn rep):=aH HH.out.hr;simp only[]at hs0 hz;obtain⟨sy,rfl⟩:∃sy:Nat,fs=(sy:Int):=⟨fs.toNat,by omega⟩;rw[Int.toNat_natCast]at hz;obtain⟨rb,ro,hra,-,-⟩:=HSr.out.cells (by intro e;rw[e]at hz;cases hz);subst hra;have hsyn:(sy:Int)<(rn:Int):=by have h1:=(eX hz).1;have h2:=HSr.out.len;omega
 obtain⟨y,hy⟩:∃y:Vn,y=((ks:Int),z,fa):=⟨_,rfl⟩;have HVy:Hid (eM rep ks (Rl.mk fp 2 (sy:Int) fa)=y):=aH (by unfold eM;rw[HZ.out,hy]);have Hy:=aH hy;clear hy;have HOk:Hid (gX S rep live align v nA ln nW nV (ks:Int) (rf:Int) (Rl.mk fp 2 (sy:Int) fa)):=aH ⟨HC1.out,HC2.out,⟨HIq.out,by rw[<-HLe.out];exact HRv.out.symm⟩,by rw[<-HLe.out];exact HCb.out,by omega,by simp only[Int.toNat_natCast];exact HFj.out,rfl⟩;have HFin:Hid (∀u g,mY L A Wl rep v ks (Rl.mk fp 2 (sy:Int) fa)=g->Below w.heap.size w u->GoalP S rep live align A Wl v nA ln nW nV (ks:Int) (rf:Int) w (.returned (.tuple #[.int .u64 g,.int .i64 0])) u):=aH fun u g h1 h2=>by
  refine .inl ⟨_,HOk.out,?_,h2⟩;rw[<-HLe.out,Int.toNat_natCast,h1]
 obtain⟨X4,hX4⟩:=aE u3.heap.size;obtain⟨W4,hW4⟩:=aE (u3.alloc (.cells #[.int .i64 fp,.int .i64 2,.int .i64 (sy:Int),.int .i64 fa] 57));have hb4:Below u3.heap.size u3 W4:=by rw[hW4];exact aC _ _
 have HB4:=aH (And.intro (after HB3.out.1 hb4) (after HB3.out.2 hb4));have HR4:Hid (RB W4 X4 #[.int .i64 fp,.int .i64 2,.int .i64 (sy:Int),.int .i64 fa] 57):=aH (by rw[hW4,hX4];exact aQ _ _ _);have g2:W4.cell? ⟨X4,2,none⟩=some (.int .i64 (sy:Int)):=HR4.out.cell;have r0:W4.cell? ⟨rb,ro+sy,none⟩=some (.int .i64 z):=bR HSr.out HB4.out.2 hz;obtain⟨⟨k0,k1,k2⟩,-⟩:=HC.out W4 HB4.out.1;rw[hW4]at k0 k1 k2 r0;rw[hW4,hX4]at g2;have HW4e:=aH hW4.symm;have HX4e:=aH hX4.symm;clear hs0 hz hW4 hX4 hb4;go_wp2_with fail
 rw[HW4e.out,HX4e.out];clear k0 k1 k2 g2 r0 u1' u5 f0 f1 f2 f3;go_loopw [14] (fun iv wr=>∃(i:Nat) (wx:World),wx=wr/\i<=nV/\iv=.int .i64 i/\Hid (y∉v.take i)/\Hid (Below W4.heap.size W4 wx)) (fun iv _=>nV-(intOf iv).toNat)
 case atStart=>exact⟨0,_,rfl,by omega,rfl,aH (by simp),aH (Below.refl _ _)⟩
 case round=>
  obtain⟨i,wx,rfl,hi,rfl,HT,HBx⟩:=hrel;have HBX:=aH (And.intro (after HB4.out.1 HBx.out) (after HB4.out.2 HBx.out));obtain⟨⟨k0,k1,k2⟩,o0,o1,o2,o3⟩:=HC.out wx HBX.out.1;have g3:wx.cell? ⟨X4,3,none⟩=some (.int .i64 fa):=(HR4.out.next HBx.out).cell;by_cases hlt:i<nV
  ·have hlti:(i:Int)<(nV:Int):=by omega
   have HLT:=aH hlt;have HWi:Hid (wrap64 ((i:Int)+1)=(i:Int)+1):=aH (by have:=HA.out.2.2.2.1;unfold wrap64;omega);have hil:i<v.length:=by have:=HA.out.2.1.len;omega
   obtain⟨vb,vo,hva,-,hc⟩:=(HA.out.2.1.next HBX.out.2).cells (by intro e;rw[e]at hil;simp at hil);subst hva;obtain⟨c0,c1,c2'⟩:=fI (off:=vo) (k:=i) (x:=v[i]) (fun j hj=>hc i hil j hj);obtain⟨x,hx⟩:=aE (v[i]);rw[<-hx]at c0 c1 c2';have heq:=eq_vn x y;have HY:=aH hx;have HIl:=aH hil;have hcy:(#[.int .i64 y.1,.int .i64 y.2.1,.int .i64 y.2.2]:Array Value)=#[.int .i64 (ks:Int),.int .i64 z,.int .i64 fa]:=by rw[Hy.out]
   rw[hcy]at heq;clear hc hx hcy hlt hi;by_cases e:x=y
   ·have hb2:decide (x=y)=true:=decide_eq_true e;have hwl:i<Wl.length:=by have h1:=HA.out.2.2.1.len;have h2:=HC2.out;have:=HLT.out;omega
    obtain⟨g,hg⟩:=aG (l:=Wl) (i:=i) hwl;obtain⟨wb,wo,hwa,-,-⟩:=HA.out.2.2.1.cells (by intro e;rw[e]at hg;cases hg);subst hwa;have g9:=gC HA.out.2.2.1 HBX.out.2 hg;have hiw:(i:Int)<(nW:Int):=by have:=HC2.out;have:=HLT.out;omega
    have HG:Hid (mY L A Wl rep v ks (Rl.mk fp 2 (sy:Int) fa)=g):=aH (by
     unfold mY;rw[HVy.out,if_pos (by rw[<-e,HY.out];exact List.getElem_mem _),idx_first (by rw[iS HIl.out,<-HY.out,e]) HT.out,hg];rfl)
    clear e hg hwl;go_wp2_with fail
    go_quiet (fail);go_wp2_with fail
    go_ret2;exact HFin.out _ _ HG.out (below_drewN HBX.out.2 _)
   ·have hb2:decide (x=y)=false:=decide_eq_false e;have HT2:=aH (not_take HIl.out (by rw[<-HY.out];exact e) HT.out);clear e;go_wp2_with fail
    go_quiet (fail);go_wp2_with fail
    go_roundw
    case rel=>exact⟨i+1,_,rfl,by have:=HLT.out;omega,by first|go_num|(rw[HWi.out];go_num),HT2,aH (below_drewN HBx.out _)⟩
    case measure=>first|exact aL HLT HWi|exact aK HLT HWi
  ·obtain rfl:nV=i:=by omega
   have hge:¬(nV:Int)<(nV:Int):=by omega
   have hni:y∉v:=by have h9:=HT.out;rwa[List.take_of_length_le (by have:=HA.out.2.1.len;omega)]at h9
   clear hi hlt;obtain⟨sx,hsx,-,-,hsr⟩:=HLq.out.1.inn ks HSt.out.2;have hrx:bZ S ks=sx.rels:=by unfold bZ;rw[hsx]
   have hfm2:=eQ HFj.out;rw[hrx]at hfm2;have hst2:=(hsr _ hfm2).2.2;rw[HZ.out]at hst2;have hst:=hst2;unfold bC at hst;simp only[Bool.and_eq_true,decide_eq_true_eq]at hst;obtain⟨zq,rfl⟩:∃zq:Nat,z=(zq:Int):=⟨z.toNat,by omega⟩;have hzL:zq∈L:=by simpa[HLe.out]using hst.2
   obtain⟨i1,hi1⟩:=aE (L.idxOf zq);have hLn:L.length=ln:=by have h9:=HLq.out.2.2.2.2.1.len;simpa using h9.symm
   have hil:i1<A.length:=by have h1:=HA.out.1.len;have h2:=HC1.out;have h3:=List.idxOf_lt_length_of_mem hzL;omega
   obtain⟨c0,hc⟩:=aG (l:=A) (i:=i1) hil;have hcb:=HA.out.2.2.2.2 c0 (eQ hc);obtain⟨gz,hgz⟩:=aE ((c0+fa)%18446744073709551616);have hG:IntKind.u64.wrap (c0+IntKind.u64.wrap fa)=gz:=by
    rw[hgz];simp only[IntKind.wrap_u64];omega
   have HG:Hid (mY L A Wl rep v ks (Rl.mk fp 2 (sy:Int) fa)=gz):=aH (by
    unfold mY;rw[HVy.out,if_neg hni];unfold mZ pK;rw[Hy.out];show((A[L.idxOf ((zq:Int)).toNat]?).getD 0+fa)%_=_
    rw[Int.toNat_natCast,<-hi1,hc,hgz];rfl)
   have HLz:Hid (∀u,Below w.heap.size w u->Calls Tryz.prog 45 #[.agg #[.slice (some ⟨rb,ro,none⟩) rn rc,.slice la ln lc,.slice aa an ac],.int .i64 (zq:Int)] u (aP (.int .i64 (i1:Int)) u)):=aH fun u hu=>by
    have h9:=HRl.out u (zq:Int) hu;rw[lV hst2,Int.toNat_natCast,<-hi1]at h9;exact h9
   obtain⟨pb,po,hpa,-,-⟩:=HA.out.1.cells (by intro e;rw[e]at hc;cases hc);subst hpa;have hia:(i1:Int)<(nA:Int):=by have h1:=HA.out.1.len;omega
   have HSc:Hid (∀v',Below wx.heap.size wx v'->v'.cell? ⟨X,0,none⟩=some (.slice (some ⟨rb,ro,none⟩) rn rc)/\v'.cell? ⟨X,1,none⟩=some (.slice la ln lc)/\v'.cell? ⟨X,2,none⟩=some (.slice aa an ac)/\v'.cell? ⟨X+1,0,none⟩=some (.slice (some ⟨pb,po,none⟩) nA cA)/\v'.cell? ⟨pb,po+i1,none⟩=some (.int .u64 c0)/\v'.cell? ⟨X4,3,none⟩=some (.int .i64 fa)):=aH fun v' h1=>by
    obtain⟨⟨k0,k1,k2⟩,o0,-⟩:=HC.out v' (after HBX.out.1 h1);exact⟨k0,k1,k2,o0,gC HA.out.1 (after HBX.out.2 h1) hc,(HR4.out.next (after HBx.out h1)).cell⟩
   clear hni hsx hsr hrx hfm2 hst2 hst hzL hi1 hLn hil hc hcb hgz;go_wp2_with fail
   obtain⟨V,hV,hT⟩:=aD wx;have HBV:=aH hT;have hS0:=HSc.out V hT;refine aR hV HSc.out hT ?_;clear hV hT;iterate 4 refine aN _ rfl hS0 ?_
   refine aI 7 _ rfl hS0 ?_;refine aI 8 _ rfl hS0 ?_;refine aI 9 _ rfl hS0 ?_;refine rd 4 rfl (fun K hK=>?_);go_simp;refine(HLz.out V (after HBX.out.2 HBV.out)).mono ?_;rintro e u7 ⟨rfl,hb7⟩;have HB7:=aH (after HBV.out hb7);have hS1:=HSc.out u7 HB7.out;refine hK.out _ _ hS1 (fun hX9=>?_);clear hK K hX9 hb7 hS0;refine aI 5 _ rfl hS1 ?_;refine aI 6 _ rfl hS1 ?_;refine aI 10 _ rfl hS1 ?_;refine rd 11 rfl (fun K hK=>?_);go_simp;refine hK.out _ _ hS1 (fun hX9=>?_);clear hK K hX9;refine rd 12 rfl (fun K hK=>?_);go_simp;refine hK.out _ _ hS1 (fun hX9=>?_);clear hK K hX9;refine wpAnyH_done (by kernel_rfl) ?_ _;clear hS1 HSc;go_wp2_with fail
   go_ret2;exact HFin.out _ _ HG.out (after HBX.out.2 HB7.out)
def Few2 (p:Yp)(Lm:List Ms)(vn:Nat)(w:World)(e:Ending)(w':World):Prop:=∃b:Bool,e=.returned (.bool b)/\(b=true->qV p.n Lm/\(p.rn<=40/\p.ln<=40/\p.an<=40)/\vn<=100)/\Below w.heap.size w w'
theorem few2_any (p:Yp)(Lm:List Ms)(rep live align:List Int)(va:Option Addr)(vn vc:Nat)(w:World)(h:LQ p Lm rep live align w):
  Calls Tryz.prog 7 #[.slice p.ua p.n p.uc,p.kp,.slice va vn vc] w (Few2 p Lm vn w):=by
 have HBg:Hid (∀u,Below w.heap.size w u->Calls Tryz.prog 25 #[.slice p.ua p.n p.uc] u (BigP p.n Lm u)):=aH fun u hu=>rBigU2_any p.ua p.n p.uc Lm u h.hn (h.hs.next hu) (h.hno.next hu) h.hb
 obtain⟨X,hX⟩:=aE w.heap.size;obtain⟨W,hW⟩:=aE (w.alloc (.cells #[.slice p.ra p.rn p.rc,.slice p.la p.ln p.lc,.slice p.aa p.an p.ac] 25));have HB:Hid (Below w.heap.size w W):=aH (by rw[hW];exact aC _ _);have HK:Hid (RB W X #[.slice p.ra p.rn p.rc,.slice p.la p.ln p.lc,.slice p.aa p.an p.ac] 25):=aH (by rw[hW,hX];exact aQ _ _ _);have HWe:=aH hW.symm;have HXe:=aH hX.symm;clear h hX hW;go_enter Tryz.func7,Tryz.ntmps7;go_wp2_with fail
 rw[HWe.out,HXe.out];refine(HBg.out W HB.out).mono ?_;rintro e u ⟨b,rfl,hf,hb⟩;have HBu:=aH (after HB.out hb);have HKu:=aH (HK.out.next hb);have HF:=aH hf;clear hb hf;cases b
 case true=>
  go_wp2_with fail
  go_ret;exact⟨_,rfl,(fun h=>by cases h),HBu.out⟩
 have k0:u.cell? ⟨X,0,none⟩=some (.slice p.ra p.rn p.rc):=HKu.out.cell;have k1:u.cell? ⟨X,1,none⟩=some (.slice p.la p.ln p.lc):=HKu.out.cell;have k2:u.cell? ⟨X,2,none⟩=some (.slice p.aa p.an p.ac):=HKu.out.cell;by_cases c1:(p.rn:Int)<=40
 ·by_cases c2:(p.ln:Int)<=40
  ·by_cases c3:(p.an:Int)<=40
   ·have HR:Hid (qV p.n Lm/\(p.rn<=40/\p.ln<=40/\p.an<=40)):=aH ⟨HF.out rfl,by omega⟩;go_wp2_with fail
    go_ret;exact⟨_,rfl,(fun h9=>⟨HR.out.1,HR.out.2,by have:=of_decide_eq_true h9;omega⟩),HBu.out⟩
   ·go_wp2_with fail
    go_ret;exact⟨false,rfl,(fun h=>by cases h),HBu.out⟩
  ·go_wp2_with fail
   go_ret;exact⟨false,rfl,(fun h=>by cases h),HBu.out⟩
 ·go_wp2_with fail
  go_ret;exact⟨false,rfl,(fun h=>by cases h),HBu.out⟩
def PlanT (ok:Prop)(S:List Sc)(L:List Nat)(align rep:List Int)(t d r:Int)(A:List Int)(v:List Vn)(Wl:List Int)(k er:Int):Prop:=
 (ok/\∃m:Nat,EndsAt S L align rep t d r m/\A=bF S L align t d (iH S L align rep t d r m)/\v=iH S L align rep t d r m/\Wl=kS S L A v/\k=((m+1:Nat):Int)/\er=0)\/(¬ok/\A=[]/\v=[]/\Wl=[]/\k=0/\er=1)
theorem planT_one {ok:Prop}{S:List Sc}{L:List Nat}{align rep:List Int}{t d r:Int}{A A':List Int}{v v':List Vn}{Wl Wl':List Int}{k k' er er':Int}(h:PlanT ok S L align rep t d r A v Wl k er)(h':PlanT ok S L align rep t d r A' v' Wl' k' er'):A=A'/\v=v'/\Wl=Wl'/\k=k'/\er=er':=by
 rcases h with⟨o,m,e,rfl,rfl,rfl,rfl,rfl⟩|⟨o,rfl,rfl,rfl,rfl,rfl⟩<;>rcases h' with⟨o',m',e',rfl,rfl,rfl,rfl,rfl⟩|⟨o',rfl,rfl,rfl,rfl,rfl⟩
 ·obtain rfl:=ends_one e e';exact⟨rfl,rfl,rfl,rfl,rfl⟩
 ·exact absurd o o'
 ·exact absurd o' o
 ·exact⟨rfl,rfl,rfl,rfl,rfl⟩
def PlanO (ok:Prop)(S:List Sc)(L:List Nat)(align rep:List Int)(t d r:Int)(w:World)(e:Ending)(w':World):Prop:=
 ∃(A:List Int) (v:List Vn) (Wl:List Int) (k er:Int) (aA:Option Addr) (nA cA:Nat) (aV:Option Addr) (nV cV:Nat) (aW:Option Addr) (nW cW:Nat),PlanT ok S L align rep t d r A v Wl k er/\e=.returned (.tuple #[.agg (plV aA nA cA aV nV cV aW nW cW k),.int .i64 er])/\
  (SL Pl.encU 1 w' w'.heap.size aA nA A/\SL gB 3 w' w'.heap.size aV nV v/\SL Pl.encU 1 w' w'.heap.size aW nW Wl)/\(nA<=1000000/\nV<=1000000/\nW<=1000000)/\Below w.heap.size w w'
theorem plan_out {ok:Prop}{S:List Sc}{L:List Nat}{align rep:List Int}{t d r:Int}{w:World}{e:Ending}{w':World}(hQ:ok->iT S rep L align)(h:PlanP ok S L align rep t d r w e w'):PlanO ok S L align rep t d r w e w':=by
 rcases h with⟨hok,x,rfl,⟨m,aA,nA,cA,aV,nV,cV,aW,nW,cW,hE,rfl,h1,h2,h3⟩,hb⟩|⟨hok,rfl,hb⟩
 ·have hq:=hQ hok;have hvl:(iH S L align rep t d r m).length<=16384:=rE hq m;have hpl:(bF S L align t d (iH S L align rep t d r m)).length<=256:=by rw[iX S L align t d _ hq.al];exact hq.n256
  have hwl:(kS S L (bF S L align t d (iH S L align rep t d r m)) (iH S L align rep t d r m)).length<=16384:=by unfold kS;rw[venR_n];exact hvl
  obtain⟨a',c',e9,s1,-⟩:=SL.ofOwns Pl.encU_len (by decide) h1;injection e9 with e1 e2 e3
  subst e1;obtain⟨a',c',e9,s2,-⟩:=SL.ofOwns jA (by decide) h2;injection e9 with e1 e4 e5
  subst e1;obtain⟨a',c',e9,s3,-⟩:=SL.ofOwns Pl.encU_len (by decide) h3;injection e9 with e1 e6 e7
  subst e1;have l1:=s1.len;have l2:=s2.len;have l3:=s3.len;exact⟨_,_,_,_,_,_,_,_,_,_,_,_,_,_,.inl ⟨hok,m,hE,rfl,rfl,rfl,rfl,rfl⟩,rfl,⟨s1,s2,s3⟩,⟨by omega,by omega,by omega⟩,hb⟩
 ·exact⟨[],[],[],0,1,none,0,0,none,0,0,none,0,0,.inr ⟨hok,rfl,rfl,rfl,rfl,rfl⟩,rfl,⟨SL.nil _ _ _,SL.nil _ _ _,SL.nil _ _ _⟩,⟨by omega,by omega,by omega⟩,hb⟩
def GoalT (S:List Sc)(rep live align:List Int)(A Wl:List Int)(v:List Vn)(nA ln nW nV:Nat)(at' ref g er:Int):Prop:=
 (∃f,gX S rep live align v nA ln nW nV at' ref f/\g=mY (aJ S rep) A Wl rep v at'.toNat f/\er=0)\/((∀f,¬gX S rep live align v nA ln nW nV at' ref f)/\g=0/\er=1)
theorem goalT_one {S:List Sc}{rep live align A Wl:List Int}{v:List Vn}{nA ln nW nV:Nat}{at' ref g er g' er':Int}(h:GoalT S rep live align A Wl v nA ln nW nV at' ref g er)(h':GoalT S rep live align A Wl v nA ln nW nV at' ref g' er'):g=g'/\er=er':=by
 rcases h with⟨f,o,rfl,rfl⟩|⟨o,rfl,rfl⟩<;>rcases h' with⟨f',o',rfl,rfl⟩|⟨o',rfl,rfl⟩
 ·have h1:=o.2.2.2.2.2.1;have h2:=o'.2.2.2.2.2.1;rw[h1]at h2;cases h2
  exact⟨rfl,rfl⟩
 ·exact absurd o (o' f)
 ·exact absurd o' (o f')
 ·exact⟨rfl,rfl⟩
theorem goal_out {S:List Sc}{rep live align A Wl:List Int}{v:List Vn}{nA ln nW nV:Nat}{at' ref:Int}{w:World}{e:Ending}{w':World}(h:GoalP S rep live align A Wl v nA ln nW nV at' ref w e w'):∃g er,GoalT S rep live align A Wl v nA ln nW nV at' ref g er/\e=.returned (.tuple #[.int .u64 g,.int .i64 er])/\Below w.heap.size w w':=by
 rcases h with⟨f,o,rfl,hb⟩|⟨o,rfl,hb⟩
 ·exact⟨_,_,.inl ⟨f,o,rfl,rfl⟩,rfl,hb⟩
 ·exact⟨_,_,.inr ⟨o,rfl,rfl⟩,rfl,hb⟩
theorem and4 {A A':List Int} {v v':List Vn} {Wl Wl':List Int} {k k':Int} (h1:A=A') (h2:v=v') (h3:Wl=Wl') (h4:k=k'):(decide (A=A') && decide (v=v') && decide (Wl=Wl') && decide (k=k'))=true:=by
 simp[h1,h2,h3,h4]
theorem vPlans (p:Yp)(Lm:List Ms)(rep live align:List Int)(t d st r:Int)(aA:Option Addr)(nA cA:Nat)(A:List Int)(aV:Option Addr)(nV cV:Nat)(v:List Vn)(aW:Option Addr)(nW cW:Nat)(Wl:List Int)(kk at' ref:Int)(w:World)(h:LQ p Lm rep live align w)(t0:0<=t)(t1:t<18446744073709551616)(d0:0<=d)(d1:d<18446744073709551616)(s0:0<=st)(s1:st<18446744073709551616)
  (hA:SL Pl.encU 1 w w.heap.size aA nA A) (hV:SL gB 3 w w.heap.size aV nV v) (hW:SL Pl.encU 1 w w.heap.size aW nW Wl) (hgv:∀x∈v,cR x) (hAb:∀x∈A,0<=x/\x<18446744073709551616):
  Calls Tryz.prog 4 #[.slice p.ua p.n p.uc,p.kp,.agg (fV t d st r),.agg (plV aA nA cA aV nV cV aW nW cW kk),.int .i64 at',.int .i64 ref] w (aP (.bool true) w):=by
 obtain⟨S,hS⟩:=aE (Lm.map (·.sc));obtain⟨L,hL⟩:=aE (aJ S rep);obtain⟨ok,hok⟩:=aE ((Pl.goodB t d st r=true/\lE S rep live align));have HFe:Hid (∀u,Below w.heap.size w u->Calls Tryz.prog 7 #[.slice p.ua p.n p.uc,.agg #[.slice p.ra p.rn p.rc,.slice p.la p.ln p.lc,.slice p.aa p.an p.ac],.slice aV nV cV] u (Few2 p Lm nV u)):=aH fun u hu=>few2_any p Lm rep live align aV nV cV u (h.next hu)
 have HLf:Hid (ok->iT S rep L align):=aH fun h9=>by rw[hok,hS]at h9;rw[hL,hS];exact(h.left h9.2).1
 have HPl:Hid (∀u,Below w.heap.size w u->Calls Tryz.prog 17 #[.slice p.ua p.n p.uc,.agg #[.slice p.ra p.rn p.rc,.slice p.la p.ln p.lc,.slice p.aa p.an p.ac],.agg #[.int .u64 t,.int .u64 d,.int .u64 st,.int .i64 r]] u (PlanO ok S L align rep t d r u)):=aH fun u hu=>(show Calls _ _ _ u (PlanP ok S L align rep t d r u)from by rw[hok,hL,hS];exact Plan_any p Lm rep live align t d st r u (h.next hu) t0 t1 d0 d1 s0 s1).mono fun e w'=>plan_out HLf.out
 have HPr:Hid (qV p.n Lm->(p.rn<=40/\p.ln<=40/\p.an<=40)->∀u,Below w.heap.size w u->Calls Tryz.prog 18 #[.slice p.ua p.n p.uc,.agg #[.slice p.ra p.rn p.rc,.slice p.la p.ln p.lc,.slice p.aa p.an p.ac],.agg #[.int .u64 t,.int .u64 d,.int .u64 st,.int .i64 r]] u (PlanO ok S L align rep t d r u)):=aH fun hf hk u hu=>(show Calls _ _ _ u (PlanP ok S L align rep t d r u)from by rw[hok,hL,hS];exact rPlan_any p Lm rep live align t d st r u (h.next hu) hf hk t0 t1 d0 d1 s0 s1).mono fun e w'=>plan_out HLf.out
 have HGo:Hid (nV<=100->∀u,Below w.heap.size w u->Calls Tryz.prog 19 #[.slice p.ua p.n p.uc,.agg #[.slice p.ra p.rn p.rc,.slice p.la p.ln p.lc,.slice p.aa p.an p.ac],.agg #[.slice aA nA cA,.slice aV nV cV,.slice aW nW cW,.int .i64 kk],.int .i64 at',.int .i64 ref] u (fun e w'=>∃g er,GoalT S rep live align A Wl v nA p.ln nW nV at' ref g er/\e=.returned (.tuple #[.int .u64 g,.int .i64 er])/\Below u.heap.size u w')):=aH fun hn u hu=>by
  rw[hS];exact(Goal_any p Lm rep live align aA nA cA A aV nV cV v aW nW cW Wl kk at' ref u (h.next hu) (hA.next hu) (hV.next hu) (hW.next hu) hgv (by omega) hAb).mono fun e w'=>goal_out
 have HGr:Hid (qV p.n Lm->(p.rn<=40/\p.ln<=40/\p.an<=40)->nV<=100->∀u,Below w.heap.size w u->Calls Tryz.prog 20 #[.slice p.ua p.n p.uc,.agg #[.slice p.ra p.rn p.rc,.slice p.la p.ln p.lc,.slice p.aa p.an p.ac],.agg #[.slice aA nA cA,.slice aV nV cV,.slice aW nW cW,.int .i64 kk],.int .i64 at',.int .i64 ref] u (fun e w'=>∃g er,GoalT S rep live align A Wl v nA p.ln nW nV at' ref g er/\e=.returned (.tuple #[.int .u64 g,.int .i64 er])/\Below u.heap.size u w')):=aH fun hf hk hn u hu=>by
  rw[hS];exact(rGoal_any p Lm rep live align aA nA cA A aV nV cV v aW nW cW Wl kk at' ref u (h.next hu) hf hk (hA.next hu) (hV.next hu) (hW.next hu) (by omega) hAb).mono fun e w'=>goal_out
 have HGn:Hid (∀u,Below w.heap.size w u->Calls Tryz.prog 14 #[] u (aP (.bool true) u)):=aH fun u hu=>gone_is u (h.hT.next hu)
 obtain⟨X,W0,HXe,HWe,HB0,hWs,HC0⟩:=box2 w (.slice p.ra p.rn p.rc) (.slice p.la p.ln p.lc) (.slice p.aa p.an p.ac) (.int .u64 t) (.int .u64 d) (.int .u64 st) (.int .i64 r) 28;obtain⟨W,hW1⟩:=aE (W0.alloc (.cells (plV aA nA cA aV nV cV aW nW cW kk) 44));have hb1:Below W0.heap.size W0 W:=by rw[hW1];exact aC _ _
 have HZ:Hid (RB W (X+1+1) (plV aA nA cA aV nV cV aW nW cW kk) 44):=aH (by rw[hW1,<-hWs];exact aQ _ _ _);have HB:Hid (Below w.heap.size w W):=aH (after HB0.out hb1);have HC:Hid (∀u,Below W.heap.size W u->((u.cell? ⟨X,0,none⟩=some (.slice p.ra p.rn p.rc)/\u.cell? ⟨X,1,none⟩=some (.slice p.la p.ln p.lc)/\u.cell? ⟨X,2,none⟩=some (.slice p.aa p.an p.ac))/\u.cell? ⟨X+1,0,none⟩=some (.int .u64 t)/\u.cell? ⟨X+1,1,none⟩=some (.int .u64 d)/\u.cell? ⟨X+1,2,none⟩=some (.int .u64 st)/\u.cell? ⟨X+1,3,none⟩=some (.int .i64 r))/\u.cell? ⟨X+1+1,0,none⟩=some (.slice aA nA cA)/\u.cell? ⟨X+1+1,1,none⟩=some (.slice aV nV cV)/\u.cell? ⟨X+1+1,2,none⟩=some (.slice aW nW cW)/\u.cell? ⟨X+1+1,3,none⟩=some (.int .i64 kk)):=aH fun u hu=>⟨HC0.out u (after hb1 hu),(fD (HZ.out.next hu)).1⟩
 obtain⟨⟨⟨k0,k1,k2⟩,o0,o1,o2,o3⟩,x0,x1,x2,x3⟩:=HC.out W (Below.refl _ _);have HW1e:=aH hW1.symm;rw[hW1,<-HWe.out,<-HXe.out]at k0 k1 k2 x1;clear hS hL hok h t0 t1 d0 d1 s0 s1 hA hV hW hgv hAb hWs hW1 hb1 o0 o1 o2 o3 x0 x2 x3 HC0 HZ HB0;go_enter Tryz.func4,Tryz.ntmps4;go_wp2_with fail
 rw[HWe.out,HXe.out,HW1e.out];refine(HFe.out W HB.out).mono ?_;rintro e u1 ⟨b,rfl,hfw,hb1⟩;have HB1:=aH (And.intro hb1 (after HB.out hb1));have HFw:=aH hfw;clear hb1 k0 k1 k2 x1 hfw;cases b
 ·go_wp2_with fail
  go_ret;exact⟨rfl,HB1.out.2⟩
 have HF:=aH (HFw.out rfl);obtain⟨⟨⟨k0,k1,k2⟩,o0,o1,o2,o3⟩,x0,x1,x2,x3⟩:=HC.out u1 HB1.out.1;by_cases c1:(100:Int)<(nA:Int)
 ·go_wp2_with fail
  go_ret;exact⟨rfl,HB1.out.2⟩
 by_cases c2:(200:Int)<(nW:Int)
 ·go_wp2_with fail
  go_ret;exact⟨rfl,HB1.out.2⟩
 go_wp2_with fail
 refine(HPl.out u1 HB1.out.2).mono ?_;rintro e u2 ⟨A1,v1,Wl1,m1,e1,a1,n1,q1,a2,n2,q2,a3,n3,q3,hT1,rfl,hs1,hn1,hb2⟩;clear k0 k1 k2 o0 o1 o2 o3 x0 x1 x2 x3 c1 c2;have HT1:=aH hT1;obtain⟨X3,hX3⟩:=aE u2.heap.size;obtain⟨W3,hW3⟩:=aE (u2.alloc (.cells (plV a1 n1 q1 a2 n2 q2 a3 n3 q3 m1) 44));have hb3:Below u2.heap.size u2 W3:=by rw[hW3];exact aC _ _
 have HB3:=aH (And.intro (after HB1.out.1 (after hb2 hb3)) (after HB1.out.2 (after hb2 hb3)));have HP3:Hid (RB W3 X3 (plV a1 n1 q1 a2 n2 q2 a3 n3 q3 m1) 44/\SL Pl.encU 1 W3 W3.heap.size a1 n1 A1/\SL gB 3 W3 W3.heap.size a2 n2 v1/\SL Pl.encU 1 W3 W3.heap.size a3 n3 Wl1):=aH ⟨by rw[hW3,hX3];exact aQ _ _ _,hs1.1.next hb3,hs1.2.1.next hb3,hs1.2.2.next hb3⟩;have HN1:=aH hn1;obtain⟨⟨⟨k0,k1,k2⟩,o0,o1,o2,o3⟩,-⟩:=HC.out W3 HB3.out.1;rw[hW3]at k0 k1 k2 o0 o1 o2 o3;have HW3e:=aH hW3.symm;have HX3e:=aH hX3.symm;clear hT1 hs1 hn1 hb2 hb3 hX3 hW3;go_wp2_with fail
 rw[HW3e.out,HX3e.out];refine(HPr.out HF.out.1 HF.out.2.1 W3 HB3.out.2).mono ?_;rintro e u4 ⟨A4,v4,Wl4,m4,e4,a4,n4,q4,a5,n5,q5,a6,n6,q6,hT4,rfl,hs4,hn4,hb4⟩;clear k0 k1 k2 o0 o1 o2 o3;obtain⟨hAA,hvv,hWW,hmm,hee⟩:=planT_one HT1.out hT4;have HSm:=aH (and4 hAA hvv hWW hmm);subst hee;obtain⟨X5,hX5⟩:=aE u4.heap.size;obtain⟨W5,hW5⟩:=aE (u4.alloc (.cells (plV a4 n4 q4 a5 n5 q5 a6 n6 q6 m4) 44));have hb5:Below u4.heap.size u4 W5:=by rw[hW5];exact aC _ _
 have hb45:=after hb4 hb5;have HB5:=aH (And.intro (after HB3.out.1 hb45) (after HB3.out.2 hb45));have HP5:Hid (RB W5 X3 (plV a1 n1 q1 a2 n2 q2 a3 n3 q3 m1) 44/\SL Pl.encU 1 W5 W5.heap.size a1 n1 A1/\SL gB 3 W5 W5.heap.size a2 n2 v1/\SL Pl.encU 1 W5 W5.heap.size a3 n3 Wl1):=aH ⟨HP3.out.1.next hb45,HP3.out.2.1.next hb45,HP3.out.2.2.1.next hb45,HP3.out.2.2.2.next hb45⟩;have HQ5:Hid (RB W5 X5 (plV a4 n4 q4 a5 n5 q5 a6 n6 q6 m4) 44/\SL Pl.encU 1 W5 W5.heap.size a4 n4 A4/\SL gB 3 W5 W5.heap.size a5 n5 v4/\SL Pl.encU 1 W5 W5.heap.size a6 n6 Wl4):=aH ⟨by rw[hW5,hX5];exact aQ _ _ _,hs4.1.next hb5,hs4.2.1.next hb5,hs4.2.2.next hb5⟩;have HN4:=aH hn4;obtain⟨⟨⟨k0,k1,k2⟩,-⟩,x0,x1,x2,x3⟩:=HC.out W5 HB5.out.1;rw[hW5]at k0 k1 k2 x0 x1 x2 x3;have HW5e:=aH hW5.symm;have HX5e:=aH hX5.symm;clear hT4 hs4 hn4 hb4 hb5 hb45 hX5 hW5 hAA hvv hWW hmm;go_wp2_with fail
 rw[HW5e.out,HX5e.out];refine(HGo.out HF.out.2.2 W5 HB5.out.2).mono ?_;rintro e u6 ⟨g6,e6,hT6,rfl,hb6⟩;clear k0 k1 k2 x0 x1 x2 x3;have HB6:=aH (And.intro (after HB5.out.1 hb6) (after HB5.out.2 hb6));have HW6:=aH hb6;have HT6:=aH hT6;clear hT6 hb6;obtain⟨⟨⟨k0,k1,k2⟩,-⟩,x0,x1,x2,x3⟩:=HC.out u6 HB6.out.1;go_wp2_with fail
 refine(HGr.out HF.out.1 HF.out.2.1 HF.out.2.2 u6 HB6.out.2).mono ?_;rintro e u7 ⟨g7,e7,hT7,rfl,hb7⟩;clear k0 k1 k2 x0 x1 x2 x3;obtain⟨hgg,hee⟩:=goalT_one HT6.out hT7;subst hgg;subst hee;have HB7:=aH (after HB6.out.2 hb7);have HW7:=aH (after HW6.out hb7);clear hT7 hb7;go_wp2_with fail
 refine(HGn.out u7 HB7.out).mono ?_;rintro e u8 ⟨rfl,hb8⟩;have HB8:=aH (after HB7.out hb8);have hb58:=after HW7.out hb8;obtain⟨⟨y0,y1,y2,y3⟩,-⟩:=fD (HP5.out.1.next hb58);obtain⟨⟨z0,z1,z2,z3⟩,-⟩:=fD (HQ5.out.1.next hb58);have HSp:=aH (rK a1 n1 q1 A1 a2 n2 q2 v1 a3 n3 q3 Wl1 m1 a4 n4 q4 A4 a5 n5 q5 v4 a6 n6 q6 Wl4 m4 u8 HN1.out HN4.out (HP5.out.2.1.next hb58) (HP5.out.2.2.1.next hb58) (HP5.out.2.2.2.next hb58) (HQ5.out.2.1.next hb58) (HQ5.out.2.2.1.next hb58) (HQ5.out.2.2.2.next hb58));clear hb8 hb58;go_wp2_with fail
 refine HSp.out.mono ?_;rintro e u9 ⟨rfl,hb9⟩;rw[HSm.out];have HB9:=aH (after HB8.out hb9);have t1:(e1==e1)=true:=by simp
 have t2:(e6==e6)=true:=by simp
 have t3:(g6==g6)=true:=by simp
 clear hb9 y0 y1 y2 y3 z0 z1 z2 z3;go_wp2_with fail
 go_ret;exact⟨rfl,HB9.out⟩
theorem qG {H:Type}{encH:TypeId×Value->H}{W:World}{cell:Value}{fuel:Nat}{x:DataW H×List MemPlace}{t e:TypeId}{k:IntKind}(ht:Tryz.prog.underlying t=some (.slice e))(he:Tryz.prog.underlying e=some (.int k))(hC:Tryz.prog.cellsOf e=1)
  (hf:DataW.trod encH Tryz.prog W 0 (fun _=>true) true fuel t [cell]=some x):
  ∃(a:Option Addr) (n c:Nat) (l:List Int),cell=.slice a n c/\n<=maxLen/\SL (fun x=>[Value.int k x]) 1 W W.heap.size a n l/\(a=none->n=0/\c=0)/\∀x∈l,(Lit.int k x).wf=true:=by
 rcases Go.ChangeShapes.open_ints ht he hC hf with⟨hcs,hx⟩|⟨a,len,cap,zs,hcs,hb,hl,hm,hlen,hx,hc,hw⟩
 ·simp only[List.cons.injEq,and_true]at hcs;subst hcs;exact⟨none,0,0,[],rfl,by unfold maxLen;omega,SL.nil _ _ _,fun _=>⟨rfl,rfl⟩,fun x hx=>by cases hx⟩
 ·simp only[List.cons.injEq,and_true]at hcs;subst hcs;simp only[if_true]at hlen;refine⟨some a,len,cap,zs.take len,rfl,by omega,⟨by rw[List.length_take];omega,fun hne=>?_⟩,by simp,fun x hx=>hw x (List.mem_of_mem_take hx)⟩;have hl0:0<len:=by
   rcases Nat.eq_zero_or_pos len with h|h
   ·subst h;simp at hne
   ·exact h
  have h00:=hc 0 (by omega);have ea:a.add 0=a:=by simp[Addr.add]
  rw[ea]at h00;have hal:a.block<W.heap.size:=bM h00;obtain⟨b,off,el⟩:=a;have hel':el=none:=cell_spot h00;subst hel';refine⟨b,off,rfl,hal,fun k hk j hj=>?_⟩;have:j=0:=by omega
  subst this;have hk':k<len/\k<zs.length:=by rw[List.length_take]at hk;omega
  have:=hc k hk'.2;rw[add_none]at this;rw[show off+k*1+0=off+k from by omega,this,List.getElem_take];simp[List.getD_eq_getElem?_getD,iS hk'.2]
theorem qH {H:Type}{encH:TypeId×Value->H}{W:World}{cell:Value}{fuel:Nat}{x:DataW H×List MemPlace}(hf:DataW.trod encH Tryz.prog W 0 (fun _=>true) true fuel 23 [cell]=some x):
  ∃(a:Option Addr) (n c:Nat) (l:List Int),cell=.slice a n c/\n<=maxLen/\SL dT 1 W W.heap.size a n l/\(a=none->n=0/\c=0):=by
 obtain⟨a,n,c,l,h1,h2,h3,h4,-⟩:=qG Tryz.underlying23 Tryz.underlying3 (by kernel_rfl) hf;exact⟨a,n,c,l,h1,h2,h3,h4⟩
theorem open_Kept {H:Type}{encH:TypeId×Value->H}{W:World}{base:Nat}{v:Value}{d:DataW H}{p:List MemPlace}
  (hv:Value.okWide Tryz.prog W .any base 25 v) (h:DataW.Trod encH Tryz.prog W 0 (fun _=>true) true 25 v d p):
  ∃(ra:Option Addr) (rn rc:Nat) (la:Option Addr) (ln lc:Nat) (aa:Option Addr) (an ac:Nat) (rep live align:List Int),v=.agg (kpV ra rn rc la ln lc aa an ac)/\(rn<=maxLen/\ln<=maxLen/\an<=maxLen)/\
   SL dT 1 W W.heap.size ra rn rep/\SL dT 1 W W.heap.size la ln live/\SL dT 1 W W.heap.size aa an align/\(ra=none->rn=0/\rc=0)/\(la=none->ln=0/\lc=0)/\(aa=none->an=0/\ac=0):=by
 obtain⟨c0,c1,c2,y0,y1,y2,m,rfl,-,-,h0,h1,h2⟩:=Go.Joins.open_agg3 Tryz.underlying25 (by kernel_rfl) (by kernel_rfl) hv h;obtain⟨ra,rn,rc,rep,rfl,a1,a2,a3⟩:=qH h0;obtain⟨la,ln,lc,live,rfl,b1,b2,b3⟩:=qH h1;obtain⟨aa,an,ac,align,rfl,d1,d2,d3⟩:=qH h2;exact⟨ra,rn,rc,la,ln,lc,aa,an,ac,rep,live,align,rfl,⟨a1,b1,d1⟩,a2,b2,d2,a3,b3,d3⟩
theorem open_Options {H:Type}{encH:TypeId×Value->H}{W:World}{base:Nat}{v:Value}{d:DataW H}{p:List MemPlace}
  (hv:Value.okWide Tryz.prog W .any base 28 v) (h:DataW.Trod encH Tryz.prog W 0 (fun _=>true) true 28 v d p):
  ∃t d s r:Int,v=.agg #[.int .u64 t,.int .u64 d,.int .u64 s,.int .i64 r]/\(0<=t/\t<18446744073709551616)/\(0<=d/\d<18446744073709551616)/\(0<=s/\s<18446744073709551616)/\(-9223372036854775808<=r/\r<=9223372036854775807):=by
 obtain⟨c0,c1,c2,c3,y0,y1,y2,y3,m,rfl,-,-,h0,h1,h2,h3⟩:=Go.Joins.open_agg4 Tryz.underlying28 (by kernel_rfl) (by kernel_rfl) hv h;obtain⟨x0,e0,-,w0⟩:=DataW.trod_int Tryz.underlying26 h0;obtain⟨x1,e1,-,w1⟩:=DataW.trod_int Tryz.underlying26 h1;obtain⟨x2,e2,-,w2⟩:=DataW.trod_int Tryz.underlying26 h2;obtain⟨x3,e3,-,w3⟩:=DataW.trod_int Tryz.underlying3 h3;simp only[List.cons.injEq,and_true]at e0 e1 e2 e3;subst e0 e1 e2 e3;have b0:=bounds_u64 w0;have b1:=bounds_u64 w1;have b2:=bounds_u64 w2;exact⟨x0,x1,x2,x3,rfl,by omega,by omega,by omega,bounds_i64 w3⟩
theorem open_vensK {H:Type}{encH:TypeId×Value->H}{W:World}{cell:Value}{fuel:Nat}{x:DataW H×List MemPlace}(hf:DataW.trod encH Tryz.prog W 0 (fun _=>true) true fuel 29 [cell]=some x):
  ∃(a:Option Addr) (n c:Nat) (l:List Vn),cell=.slice a n c/\n<=maxLen/\(∀x∈l,cR x)/\SL gB 3 W W.heap.size a n l:=by
 obtain ⟨a,n,c,l,rfl,h2,h3,h4,-⟩:=open_SL3 (sz:=3) (enc:=gB) cR (0,0,0) Tryz.underlying29 Tryz.underlying80 (by kernel_rfl) (by kernel_rfl) rfl (by decide) jA (by
  intro cell m hc;obtain⟨u0,z0,g0,s0⟩:=hc 0 _ rfl;obtain⟨u1,z1,g1,s1⟩:=hc 1 _ rfl;obtain⟨u2,z2,g2,s2⟩:=hc 2 _ rfl;obtain⟨k0,e0,-,w0⟩:=DataW.trod_int Tryz.underlying3 s0;obtain⟨k1,e1,-,w1⟩:=DataW.trod_int Tryz.underlying3 s1;obtain⟨k2,e2,-,w2⟩:=DataW.trod_int Tryz.underlying3 s2;simp only[List.cons.injEq,and_true]at e0 e1 e2;subst e0 e1 e2;refine⟨(k0,k1,k2),⟨bounds_i64 w0,bounds_i64 w1,bounds_i64 w2⟩,fun j hj=>?_⟩;match j,hj with
  |0,_=>exact g0
  |1,_=>exact g1
  |2,_=>rw[show(gB (k0,k1,k2))[2]?=some (.int .i64 k2)from rfl];exact g2) hf
 exact⟨a,n,c,l,rfl,h2,h3,h4⟩
theorem open_Plan {H:Type}{encH:TypeId×Value->H}{W:World}{base:Nat}{v:Value}{d:DataW H}{p:List MemPlace}
  (hv:Value.okWide Tryz.prog W .any base 44 v) (h:DataW.Trod encH Tryz.prog W 0 (fun _=>true) true 44 v d p):
  ∃(aA:Option Addr) (nA cA:Nat) (aV:Option Addr) (nV cV:Nat) (aW:Option Addr) (nW cW:Nat) (k:Int) (A:List Int) (l:List Vn) (Wl:List Int),v=.agg (plV aA nA cA aV nV cV aW nW cW k)/\
   (SL Pl.encU 1 W W.heap.size aA nA A/\SL gB 3 W W.heap.size aV nV l/\SL Pl.encU 1 W W.heap.size aW nW Wl)/\(∀x∈l,cR x)/\∀x∈A,0<=x/\x<18446744073709551616:=by
 obtain⟨c0,c1,c2,c3,y0,y1,y2,y3,m,rfl,-,-,h0,h1,h2,h3⟩:=Go.Joins.open_agg4 Tryz.underlying44 (by kernel_rfl) (by kernel_rfl) hv h;obtain⟨aA,nA,cA,A,rfl,-,a2,-,a4⟩:=qG Tryz.underlying31 Tryz.underlying26 (by kernel_rfl) h0;obtain⟨aV,nV,cV,l,rfl,-,b2,b3⟩:=open_vensK h1;obtain⟨aW,nW,cW,Wl,rfl,-,d2,-⟩:=qG Tryz.underlying31 Tryz.underlying26 (by kernel_rfl) h2;obtain⟨k,e3,-⟩:=DataW.trod_int Tryz.underlying3 h3;simp only[List.cons.injEq,and_true]at e3;subst e3;exact⟨aA,nA,cA,aV,nV,cV,aW,nW,cW,k,A,l,Wl,rfl,⟨a2,b3,d2⟩,b2,fun x hx=>by have:=bounds_u64 (a4 x hx);omega⟩
theorem VeneerPlans_walk (w:World)(ua:Option Addr)(un uc:Nat)(Lm:List Ms)(hun:un<=maxLen)(hs:SL mX 6 w w.heap.size ua un Lm)(hno:iQ w w.heap.size Lm)(hg:∀m∈Lm,fP m.sc)(hb:∀m∈Lm,m.sc.rels.length*32<=reachBytes)
  (ra:Option Addr) (rn rc:Nat) (la:Option Addr) (ln lc:Nat) (aa:Option Addr) (an ac:Nat) (rep live align:List Int) (hk:rn<=maxLen/\ln<=maxLen/\an<=maxLen) (hr:SL dT 1 w w.heap.size ra rn rep) (hl:SL dT 1 w w.heap.size la ln live) (ha:SL dT 1 w w.heap.size aa an align) (zr:ra=none->rn=0/\rc=0) (zl:la=none->ln=0/\lc=0) (za:aa=none->an=0/\ac=0)
  (t d st r:Int) (ht:0<=t/\t<18446744073709551616) (hd:0<=d/\d<18446744073709551616) (hst:0<=st/\st<18446744073709551616) (hR : -9223372036854775808<=r/\r<=9223372036854775807)
  (aA:Option Addr) (nA cA:Nat) (aV:Option Addr) (nV cV:Nat) (aW:Option Addr) (nW cW:Nat) (k:Int) (A:List Int) (l:List Vn) (Wl:List Int) (hsl:SL Pl.encU 1 w w.heap.size aA nA A/\SL gB 3 w w.heap.size aV nV l/\SL Pl.encU 1 w w.heap.size aW nW Wl) (hgl:∀x∈l,cR x) (hA:∀x∈A,0<=x/\x<18446744073709551616)
  (at':Int) (hat : -9223372036854775808<=at'/\at'<=9223372036854775807) (ref:Int) (href : -9223372036854775808<=ref/\ref<=9223372036854775807) (hT:jL w):
  Calls Tryz.prog 4 #[.slice ua un uc,.agg (kpV ra rn rc la ln lc aa an ac),.agg #[.int .u64 t,.int .u64 d,.int .u64 st,.int .i64 r],.agg (plV aA nA cA aV nV cV aW nW cW k),.int .i64 at',.int .i64 ref] w (aP (.bool true) w):=
 vPlans ⟨ua,un,uc,ra,rn,rc,la,ln,lc,aa,an,ac⟩ Lm rep live align t d st r aA nA cA A aV nV cV l aW nW cW Wl k at' ref w ⟨hun,hs,hno,hg,hb,hr,hl,ha,hk.1,hk.2.1,hk.2.2,hT⟩ ht.1 ht.2 hd.1 hd.2 hst.1 hst.2 hsl.1 hsl.2.1 hsl.2.2 hgl hA
end Go.Proofs.YtiohgaghmnpplaaGreatDoor
