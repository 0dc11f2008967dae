/- shrink: areReps. shrink: lead. shrink: Is. -/
import Derived.Test.YtiohgaghmnpplaaGreatDoorqA
import Derived.Test.YtiohgaghmnpplaaGreatDoorw4
set_option maxRecDepth 100000
set_option maxHeartbeats 6000000
set_option linter.unusedVariables false
set_option linter.unusedSimpArgs false
namespace Go.Proofs.YtiohgaghmnpplaaGreatDoor
open Go.ChangeShapes Go.WideShapes Go.Deep Go.RowKit
def oI (P:Prop)(w:World)(e:Ending)(w':World):Prop:=∃r:Bool,e=.returned (.bool r)/\(r=true↔P)/\Below w.heap.size w w'
def RepQ (S:List Sc)(rep:List Int)(k:Nat)(v:Int):Prop:=v= -1\/(0<=v/\v<S.length/\rep[v.toNat]?=some v/\(v=k\/∀(s t:Sc),S[k]?=some s->S[v.toNat]?=some t->dU s t=true))
structure oH (w:World)(S:List Sc)(rep:List Int)(k:Nat)(u:World):Prop where
 kk:Below w.heap.size w u
 row:∀(b:Nat) (v:Int),b<k->rep[b]?=some v->RepQ S rep b v
theorem oH.next {w u v:World}{S:List Sc}{rep:List Int}{k:Nat}(h:oH w S rep k u)(hb:Below u.heap.size u v):oH w S rep k v:=⟨after h.kk hb,h.row⟩
theorem oH.one {w u:World}{S:List Sc}{rep:List Int}{k:Nat}{v:Int}(h:oH w S rep k u)(hv:rep[k]?=some v)(hq:RepQ S rep k v):oH w S rep (k+1) u:=
 ⟨h.kk,fun b x hb hx=>by
  rcases Nat.lt_or_ge b k with h1|h1
  ·exact h.row b x h1 hx
  ·have:b=k:=by omega
   subst this;rw[hv]at hx;cases hx;exact hq⟩
theorem areReps_any (w:World)(ua:Option Addr)(n uc:Nat)(L:List Ms)(ra:Option Addr)(m rc:Nat)(rep:List Int)(hm:m<=maxLen)(hs:SL mX 6 w w.heap.size ua n L)(hno:iQ w w.heap.size L)(hr:SL dT 1 w w.heap.size ra m rep)(h:bN (L.map (·.sc))=true):
  Calls Tryz.prog 47 #[.slice ua n uc,.slice ra m rc] w (oI (jP (L.map (·.sc)) rep) w):=by
 obtain⟨S,hS⟩:=aE (L.map (·.sc));have hSl:S.length=n:=by rw[hS,List.length_map];exact hs.len.symm
 have hn2:n<=256:=by have:=fK h;rw[<-hS,hSl]at this;exact this
 have hni:(n:Int)<=256:=by omega
 have hmi:(m:Int)<=9223372036854775807:=by unfold maxLen at hm;omega
 by_cases hmn:m=n;rotate_left
 ·have t1:((m:Int) !=(n:Int))=true:=by rw[bne_iff_ne];omega
  have HNg:Hid (¬jP S rep):=aH (fun hq=>hmn (by rw[hr.len,hq.1,hSl]));rw[<-hS];clear hs hno hr h hS hSl hn2 hmn hm;go_enter Tryz.func47,Tryz.ntmps47;go_wp2;go_ret;exact⟨false,rfl,⟨fun h=>(by cases h),fun hq=>absurd hq HNg.out⟩,Below.refl _ _⟩
 subst hmn;have t0:((m:Int) !=(m:Int))=false:=by simp
 have HSec:Hid (∀(q:Nat) (s:Sc),S[q]?=some s->SecOk s):=aH (by
  intro q s hq;exact(dZ h (by rw[<-hS];exact hq)).1)
 have HU:=aH (fun u (hu:Below w.heap.size w u)=>hs.next hu);have HNo:=aH (fun u (hu:Below w.heap.size w u)=>hno.next hu);have HR:=aH (fun u (hu:Below w.heap.size w u)=>hr.next hu);have HSe:=aH hS;have HSl:=aH hSl;have HUl:=aH hs.len;have HRl:=aH hr.len;have HK0:Hid (oH w S rep 0 w):=aH ⟨Below.refl _ _,fun b v hb=>by omega⟩;rw[<-hS];clear hs hno hr h hS hSl hn2 hm;go_enter Tryz.func47,Tryz.ntmps47;go_wp2_with fail
 go_loopw [14] (fun i wr=>∃(k:Nat) (wx:World),wx=wr/\k<=m/\i=.int .i64 k/\Hid (oH w S rep k wx)) (fun i _=>m-(intOf i).toNat)
 case atStart=>exact⟨0,_,rfl,by omega,rfl,HK0⟩
 case round=>
  clear HK0;obtain⟨k,wx,rfl,hk,rfl,HK⟩:=hrel;by_cases hlt:k<m
  ·have hlti:(k:Int)<(m:Int):=by omega
   have HLT:=aH hlt;have hkk:=HK.out.kk;have hrl:=HR.out wx hkk;have hul:=HU.out wx hkk;obtain⟨v,hv⟩:=aG (l:=rep) (i:=k) (by rw[<-HRl.out];exact hlt);obtain⟨mi,hmi2⟩:=aG (l:=L) (i:=k) (by rw[<-HUl.out];exact hlt);obtain⟨rb,ro,hra,-,-⟩:=hrl.cells (by intro e;rw[e]at hv;cases hv);obtain⟨ub,uo,hua,-,-⟩:=hul.cells (by intro e;rw[e]at hmi2;cases hmi2);subst hra;subst hua;have r0:wx.cell? ⟨rb,ro+k,none⟩=some (.int .i64 v):=bR hrl (Below.refl _ _) hv;have HVk:=aH hv;have HMi:=aH hmi2;clear hkk hrl hul hv hmi2 hk hlt;by_cases h1:v= -1
   ·have t1:(v== -1)=true:=by simp[h1]
    have HNx:Hid (oH w S rep (k+1) wx):=aH (HK.out.one HVk.out (.inl h1));subst h1;go_wp2;go_roundw
    case rel=>exact⟨k+1,_,rfl,by have:=HLT.out;omega,by go_num,HNx⟩
    case measure=>have:=HLT.out;simp[intOf];omega
   have t1:(v== -1)=false:=by simp[h1]
   have HBk:Hid (Below w.heap.size w wx):=aH HK.out.kk;by_cases h2:0<=v/\v<(m:Int);rotate_left
   ·have HNg:Hid (¬jP S rep):=aH (fun hq=>by
     rcases hq.2 k _ HVk.out with h|⟨a,b,-⟩
     ·exact h1 h
     ·rw[HSl.out]at b;exact h2 ⟨a,b⟩)
    have hcs:v<0\/(¬v<0/\(m:Int)<=v):=by omega
    clear h1 h2;rcases hcs with h|⟨h,h'⟩
    ·go_wp2;have e1:v<0:=by omega
     go_big_quiet (fail);go_wp2;go_ret;exact⟨false,rfl,⟨fun h=>(by cases h),fun hq=>absurd hq HNg.out⟩,below_drewN HBk.out _⟩
    ·go_wp2;have e1:¬v<0:=by omega
     have e2:(m:Int)<=v:=by omega
     go_big_quiet (fail);go_wp2;go_ret;exact⟨false,rfl,⟨fun h=>(by cases h),fun hq=>absurd hq HNg.out⟩,below_drewN HBk.out _⟩
   obtain⟨p,hp⟩:∃p:Nat,v=(p:Int):=⟨v.toNat,by omega⟩;subst hp;have hpn:p<m:=by omega
   have hpi:(p:Int)<(m:Int):=h2.2;obtain⟨x,hx⟩:=aG (l:=rep) (i:=p) (by rw[<-HRl.out];exact hpn);have x0:wx.cell? ⟨rb,ro+p,none⟩=some (.int .i64 x):=bR (HR.out wx HBk.out) (Below.refl _ _) hx;have HPx:=aH hx;have HPn:=aH hpn;clear h1 h2 hx hpn;by_cases h3:x=(p:Int);rotate_left
   ·have HNg:Hid (¬jP S rep):=aH (fun hq=>by
     rcases hq.2 k _ HVk.out with h|⟨-,-,a,-⟩
     ·omega
     ·rw[Int.toNat_natCast,HPx.out]at a;exact h3 (Option.some.inj a))
    have t2:(x !=(p:Int))=true:=by simp[h3]
    clear h3;go_wp2;have e1:¬(p:Int)<0:=by omega
    have e2:¬(m:Int)<=(p:Int):=by omega
    have e3:¬m<=p:=by omega
    go_big_quiet (fail);go_wp2;go_ret;exact⟨false,rfl,⟨fun h=>(by cases h),fun hq=>absurd hq HNg.out⟩,below_drewN HBk.out _⟩
   subst h3;have t2:((p:Int) !=(p:Int))=false:=by simp
   have HPv:Hid (rep[p]?=some (p:Int)):=HPx;by_cases h4:p=k
   ·subst h4;have HNx:Hid (oH w S rep (p+1) wx):=aH (HK.out.one HVk.out (.inr ⟨by omega,by rw[HSl.out];omega,by rw[Int.toNat_natCast];exact HPv.out,.inl rfl⟩));go_wp2;have e1:¬(p:Int)<0:=by omega
    have e2:¬(m:Int)<=(p:Int):=by omega
    have e3:¬m<=p:=by omega
    go_big_quiet (fail);go_wp2;go_roundw
    case rel=>exact⟨p+1,_,rfl,by have:=HLT.out;omega,by go_num,aH (HNx.out.next (below_drewN (Below.refl _ _) _))⟩
    case measure=>have:=HLT.out;simp[intOf];omega
   have t3:((p:Int) !=(k:Int))=true:=by rw[bne_iff_ne];omega
   have HNe:Hid (¬p=k):=aH h4;obtain⟨mk,hmk⟩:=aG (l:=L) (i:=p) (by rw[<-HUl.out];exact HPn.out);have HMk:=aH hmk;clear h4 hmk x0;go_wp2_with fail
   clear r0;obtain⟨v0,hv0,hbd⟩:=aD wx;have HDB:=aH hbd;have hkk:=after HBk.out hbd;have hul:=HU.out v0 hkk;obtain⟨y0,y1,y2,y3,y4,y5⟩:=cO hul (Below.refl _ _) HMi.out;obtain⟨z0,z1,z2,z3,z4,z5⟩:=cO hul (Below.refl _ _) HMk.out;have x0:v0.cell? ⟨rb,ro+p,none⟩=some (.int .i64 (p:Int)):=bR (HR.out v0 hkk) (Below.refl _ _) HPv.out;have HNi:=aH (HNo.out v0 hkk mi (eQ HMi.out));have HNk:=aH (HNo.out v0 hkk mk (eQ HMk.out));have HSi:Hid (S[k]?=some mi.sc):=aH (by rw[HSe.out,List.getElem?_map,HMi.out];rfl);have HSk:Hid (S[p]?=some mk.sc):=aH (by rw[HSe.out,List.getElem?_map,HMk.out];rfl);clear hkk hul hbd HMi HMk;have HV0:=aH hv0;clear hv0;obtain⟨⟨mn,mk0,mp,ml,md,mr⟩,ma,mc⟩:=mi;obtain⟨⟨nn,nk0,np,nl,nd,nr⟩,na,nc⟩:=mk;simp only at y0 y1 y2 y3 y4 y5 z0 z1 z2 z3 z4 z5 HNi HNk HSi HSk;obtain⟨si,hsi⟩:=aE ((⟨mn,mk0,mp,ml,md,mr⟩:Sc));obtain⟨sk,hsk⟩:=aE ((⟨nn,nk0,np,nl,nd,nr⟩:Sc));have hoi:=(HSec.out k _ HSi.out).rels;have hok:=(HSec.out p _ HSk.out).rels;simp only at hoi hok;have HAl:=aH (alike_any ⟨mn.toArray⟩ ⟨md.toArray⟩ ⟨nn.toArray⟩ ⟨nd.toArray⟩ mk0 nk0 ml nl mp np ma na mr.length nr.length mc nc mr nr v0 (by omega) (by omega) HNi.out HNk.out mn nn);obtain⟨N1,hN1⟩:∃N:ByteArray,N=⟨mn.toArray⟩:=⟨_,rfl⟩;obtain⟨D1,hD1⟩:∃N:ByteArray,N=⟨md.toArray⟩:=⟨_,rfl⟩;obtain⟨N2,hN2⟩:∃N:ByteArray,N=⟨nn.toArray⟩:=⟨_,rfl⟩;obtain⟨D2,hD2⟩:∃N:ByteArray,N=⟨nd.toArray⟩:=⟨_,rfl⟩;obtain⟨B,hB⟩:=aE (dU ⟨mn,mk0,mp,ml,md,mr⟩ ⟨nn,nk0,np,nl,nd,nr⟩);rw[<-hsi]at hB HSi;rw[<-hsk]at hB HSk;have e1:(⟨mn,mk0,mp,ml,(⟨md.toArray⟩:ByteArray).data.toList,mr⟩:Sc)=si:=hsi.symm;have e2:(⟨nn,nk0,np,nl,(⟨nd.toArray⟩:ByteArray).data.toList,nr⟩:Sc)=sk:=hsk.symm;rw[e1,e2,<-hB]at HAl;rw[<-hN1]at y0 HAl;rw[<-hD1]at y4 HAl;rw[<-hN2]at z0 HAl;rw[<-hD2]at z4 HAl;obtain⟨pn,hpn⟩:=aE mr.length;obtain⟨qn,hqn⟩:=aE nr.length;rw[<-hpn]at y5 HAl hoi;rw[<-hqn]at z5 HAl hok;have HBe:=aH hB;have HKp:Hid (∀u',Below v0.heap.size v0 u'->(fun u'=>(u'.cell? ⟨ub,uo+k*6,none⟩=some (.string N1)/\u'.cell? ⟨ub,uo+k*6+1,none⟩=some (.int .i64 mk0)/\u'.cell? ⟨ub,uo+k*6+2,none⟩=some (.bool mp)/\u'.cell? ⟨ub,uo+k*6+3,none⟩=some (.int .i64 ml)/\u'.cell? ⟨ub,uo+k*6+4,none⟩=some (.string D1)/\u'.cell? ⟨ub,uo+k*6+5,none⟩=some (.slice ma pn mc))/\(u'.cell? ⟨ub,uo+p*6,none⟩=some (.string N2)/\u'.cell? ⟨ub,uo+p*6+1,none⟩=some (.int .i64 nk0)/\u'.cell? ⟨ub,uo+p*6+2,none⟩=some (.bool np)/\u'.cell? ⟨ub,uo+p*6+3,none⟩=some (.int .i64 nl)/\u'.cell? ⟨ub,uo+p*6+4,none⟩=some (.string D2)/\u'.cell? ⟨ub,uo+p*6+5,none⟩=some (.slice na qn nc))/\u'.cell? ⟨rb,ro+p,none⟩=some (.int .i64 (p:Int))) u'):=aH (fun u' hu=>⟨⟨(hu.cell (p:=⟨ub,uo+k*6,none⟩) (bM y0)).trans y0,(hu.cell (p:=⟨ub,uo+k*6+1,none⟩) (bM y1)).trans y1,(hu.cell (p:=⟨ub,uo+k*6+2,none⟩) (bM y2)).trans y2,(hu.cell (p:=⟨ub,uo+k*6+3,none⟩) (bM y3)).trans y3,(hu.cell (p:=⟨ub,uo+k*6+4,none⟩) (bM y4)).trans y4,(hu.cell (p:=⟨ub,uo+k*6+5,none⟩) (bM y5)).trans y5⟩,⟨(hu.cell (p:=⟨ub,uo+p*6,none⟩) (bM z0)).trans z0,(hu.cell (p:=⟨ub,uo+p*6+1,none⟩) (bM z1)).trans z1,(hu.cell (p:=⟨ub,uo+p*6+2,none⟩) (bM z2)).trans z2,(hu.cell (p:=⟨ub,uo+p*6+3,none⟩) (bM z3)).trans z3,(hu.cell (p:=⟨ub,uo+p*6+4,none⟩) (bM z4)).trans z4,(hu.cell (p:=⟨ub,uo+p*6+5,none⟩) (bM z5)).trans z5⟩,(hu.cell (p:=⟨rb,ro+p,none⟩) (bM x0)).trans x0⟩);clear e1 e2 hsi hsk hN1 hD1 hN2 hD2 hpn hqn hB hoi hok y0 y1 y2 y3 y4 y5 z0 z1 z2 z3 z4 z5 x0 HNi HNk;have e1:¬(p:Int)<0:=by omega
   have e2:¬(m:Int)<=(p:Int):=by omega
   have e3:¬m<=p:=by omega
   refine wp_region_held_drew (S:=fun u'=>(u'.cell? ⟨ub,uo+k*6,none⟩=some (.string N1)/\u'.cell? ⟨ub,uo+k*6+1,none⟩=some (.int .i64 mk0)/\u'.cell? ⟨ub,uo+k*6+2,none⟩=some (.bool mp)/\u'.cell? ⟨ub,uo+k*6+3,none⟩=some (.int .i64 ml)/\u'.cell? ⟨ub,uo+k*6+4,none⟩=some (.string D1)/\u'.cell? ⟨ub,uo+k*6+5,none⟩=some (.slice ma pn mc))/\(u'.cell? ⟨ub,uo+p*6,none⟩=some (.string N2)/\u'.cell? ⟨ub,uo+p*6+1,none⟩=some (.int .i64 nk0)/\u'.cell? ⟨ub,uo+p*6+2,none⟩=some (.bool np)/\u'.cell? ⟨ub,uo+p*6+3,none⟩=some (.int .i64 nl)/\u'.cell? ⟨ub,uo+p*6+4,none⟩=some (.string D2)/\u'.cell? ⟨ub,uo+p*6+5,none⟩=some (.slice na qn nc))/\u'.cell? ⟨rb,ro+p,none⟩=some (.int .i64 (p:Int))) (by kernel_rfl) (by rw[<-HV0.out];exact HKp.out _ (Below.refl _ _)) (fun hHeld=>?_);rw[<-HV0.out];have hHeld0:=HKp.out _ (Below.refl _ _);clear hHeld;iterate 7 refine aN _ rfl hHeld0 ?_
   refine rd 7 rfl (fun K hK=>?_);go_simp;refine hK.out _ _ (HKp.out _ (Below.refl _ _)) (fun hHeld=>?_);clear hK K;iterate 7 refine aN _ rfl hHeld0 ?_
   refine rd 15 rfl (fun K hK=>?_);go_simp;refine hK.out _ _ (HKp.out _ (Below.refl _ _)) (fun hHeld=>?_);clear hK K;iterate 13 refine aN _ rfl hHeld0 ?_
   refine rd 29 rfl (fun K hK=>?_);go_simp;go_wp2_with (go_at_call 78;refine HAl.out.mono ?_;rintro e v ⟨rfl,hb⟩)
   have HKv:=aH (HKp.out _ hb);have HVb:=aH hb;refine hK.out _ _ HKv.out (fun hHeld1=>?_);clear hK K hb HAl hHeld;cases B
   ·refine aI 30 _ rfl hHeld1 ?_;refine rd 31 rfl (fun K hK=>?_);go_simp;refine hK.out _ _ (HKv.out) (fun hHeld=>?_);clear hK K;refine rd 32 rfl (fun K hK=>?_);go_simp;refine hK.out _ _ (HKv.out) (fun hHeld=>?_);clear hK K;refine wpAnyH_done (by kernel_rfl) ?_ _;have HNg:Hid (¬jP S rep):=aH (fun hq=>by
     rcases hq.2 k _ HVk.out with h|⟨-,-,-,h|h⟩
     ·omega
     ·exact absurd h (by have:=HNe.out;omega)
     ·have:=h si sk HSi.out (by rw[Int.toNat_natCast];exact HSk.out);rw[<-HBe.out]at this;cases this)
    have HBx:=aH (after HK.out.kk (after HDB.out HVb.out));go_wp2;go_ret;exact⟨false,rfl,⟨fun h=>(by cases h),fun hq=>absurd hq HNg.out⟩,HBx.out⟩
   ·refine aI 30 _ rfl hHeld1 ?_;refine rd 31 rfl (fun K hK=>?_);go_simp;refine hK.out _ _ (HKv.out) (fun hHeld=>?_);clear hK K;refine rd 32 rfl (fun K hK=>?_);go_simp;refine hK.out _ _ (HKv.out) (fun hHeld=>?_);clear hK K;refine wpAnyH_done (by kernel_rfl) ?_ _;have HNx:Hid (oH w S rep (k+1) v):=aH ((HK.out.next (after HDB.out HVb.out)).one HVk.out (.inr ⟨by omega,by rw[HSl.out];omega,by simpa using HPv.out,.inr (fun s t hs ht=>by rw[HSi.out]at hs;cases hs;rw[Int.toNat_natCast,HSk.out]at ht;cases ht;exact HBe.out.symm)⟩));go_wp2;go_roundw
    case rel=>exact⟨k+1,_,rfl,by have:=HLT.out;omega,by go_num,HNx⟩
    case measure=>have:=HLT.out;simp[intOf];omega
  ·have hlti:¬(k:Int)<(m:Int):=by omega
   have HT:Hid (jP S rep):=aH ⟨by rw[<-HRl.out,HSl.out],fun b v hv=>HK.out.row b v (by have:=(eX hv).1;have:=HRl.out;omega) hv⟩;have HB:=aH HK.out.kk;clear hk hlt HK;go_wp2;go_ret;exact⟨true,rfl,⟨fun _=>HT.out,fun _=>rfl⟩,HB.out⟩
def LeadAt (S:List Sc)(rep:List Int)(k:Nat)(v:Int):Prop:=0<=v->∀(s t:Sc),S[k]?=some s->S[v.toNat]?=some t->∀(j:Nat) (r r':Rl),s.rels[j]?=some r->t.rels[j]?=some r'->∃x:Int,0<=x/\rep[r.sym.toNat]?=some x/\rep[r'.sym.toNat]?=some x
structure pT (w:World)(S:List Sc)(rep:List Int)(k:Nat)(u:World):Prop where
 kk:Below w.heap.size w u
 row:∀(b:Nat) (v:Int),b<k->rep[b]?=some v->LeadAt S rep b v
theorem pT.next {w u v:World}{S:List Sc}{rep:List Int}{k:Nat}(h:pT w S rep k u)(hb:Below u.heap.size u v):pT w S rep k v:=⟨after h.kk hb,h.row⟩
theorem pT.one {w u:World}{S:List Sc}{rep:List Int}{k:Nat}{v:Int}(h:pT w S rep k u)(hv:rep[k]?=some v)(hq:LeadAt S rep k v):pT w S rep (k+1) u:=
 ⟨h.kk,fun b x hb hx=>by
  rcases Nat.lt_or_ge b k with h1|h1
  ·exact h.row b x h1 hx
  ·have:b=k:=by omega
   subst this;rw[hv]at hx;cases hx;exact hq⟩
theorem shrLead_any (w:World)(ua:Option Addr)(n uc:Nat)(L:List Ms)(ra:Option Addr)(rc:Nat)(rep:List Int)(hs:SL mX 6 w w.heap.size ua n L)(hno:iQ w w.heap.size L)(hr:SL dT 1 w w.heap.size ra n rep)(h:bN (L.map (·.sc))=true)(hq:jP (L.map (·.sc)) rep):
  Calls Tryz.prog 48 #[.slice ua n uc,.slice ra n rc] w (oI (pS (L.map (·.sc)) rep) w):=by
 obtain⟨S,hS⟩:=aE (L.map (·.sc));have hSl:S.length=n:=by rw[hS,List.length_map];exact hs.len.symm
 have hn2:n<=256:=by have:=fK h;rw[<-hS,hSl]at this;exact this
 have hni:(n:Int)<=256:=by omega
 have HSec:Hid (∀(q:Nat) (s:Sc),S[q]?=some s->SecOk s/\∀r∈s.rels,0<=r.sym/\r.sym<(n:Int)):=aH (by
  intro q s hq;have:=dZ h (by rw[<-hS];exact hq);rw[<-hS,hSl]at this;exact this)
 have HU:=aH (fun u (hu:Below w.heap.size w u)=>hs.next hu);have HNo:=aH (fun u (hu:Below w.heap.size w u)=>hno.next hu);have HR:=aH (fun u (hu:Below w.heap.size w u)=>hr.next hu);have HSe:=aH hS;have HSl:=aH hSl;have HUl:=aH hs.len;have HRl:=aH hr.len;rw[<-hS]at hq⊢;have HRQ:=aH hq;have HK0:Hid (pT w S rep 0 w):=aH ⟨Below.refl _ _,fun b v hb=>by omega⟩;clear hs hno hr h hS hSl hn2 hq;go_enter Tryz.func48,Tryz.ntmps48;go_wp2_with fail
 go_loopw [11] (fun i wr=>∃(k:Nat) (wx:World),wx=wr/\k<=n/\i=.int .i64 k/\Hid (pT w S rep k wx)) (fun i _=>n-(intOf i).toNat)
 case atStart=>exact⟨0,_,rfl,by omega,rfl,HK0⟩
 case round=>
  clear HK0;obtain⟨k,wx,rfl,hk,rfl,HK⟩:=hrel;by_cases hlt:k<n
  ·have hlti:(k:Int)<(n:Int):=by omega
   have HLT:=aH hlt;have hkk:=HK.out.kk;have hrl:=HR.out wx hkk;have hul:=HU.out wx hkk;obtain⟨v,hv⟩:=aG (l:=rep) (i:=k) (by rw[<-HRl.out];exact hlt);obtain⟨mi,hmi2⟩:=aG (l:=L) (i:=k) (by rw[<-HUl.out];exact hlt);obtain⟨rb,ro,hra,-,-⟩:=hrl.cells (by intro e;rw[e]at hv;cases hv);obtain⟨ub,uo,hua,-,-⟩:=hul.cells (by intro e;rw[e]at hmi2;cases hmi2);subst hra;subst hua;have r0:wx.cell? ⟨rb,ro+k,none⟩=some (.int .i64 v):=bR hrl (Below.refl _ _) hv;obtain⟨-,-,-,-,-,y5⟩:=cO hul (Below.refl _ _) hmi2;have HVk:=aH hv;have HBk:=aH hkk;by_cases h1:v<0
   ·have HNx:Hid (pT w S rep (k+1) wx):=aH (HK.out.one HVk.out (fun h0=>by omega));clear hkk hrl hul hv hmi2 hk hlt;go_wp2;go_roundw
    case rel=>exact⟨k+1,_,rfl,by have:=HLT.out;omega,by go_num,HNx⟩
    case measure=>have:=HLT.out;simp[intOf];omega
   rcases HRQ.out.2 k v hv with h2|⟨-,h2,h3,h4⟩
   ·omega
   rw[HSl.out]at h2;obtain⟨p,hp⟩:∃p:Nat,v=(p:Int):=⟨v.toNat,by omega⟩;subst hp;have hpn:p<n:=by omega
   have hpi:(p:Int)<(n:Int):=h2;obtain⟨mk,hmk⟩:=aG (l:=L) (i:=p) (by rw[<-HUl.out];exact hpn);have HSi:Hid (S[k]?=some mi.sc):=aH (by rw[HSe.out,List.getElem?_map,hmi2];rfl);have HSk:Hid (S[p]?=some mk.sc):=aH (by rw[HSe.out,List.getElem?_map,hmk];rfl);have hll:mi.sc.rels.length=mk.sc.rels.length:=by
    rcases h4 with h4|h4
    ·have:p=k:=by omega
     subst this;rw[hmi2]at hmk;cases hmk;rfl
    ·exact alike_len (h4 _ _ HSi.out (by rw[Int.toNat_natCast];exact HSk.out))
   have HQi:=aH (HSec.out k _ HSi.out);have HQk:=aH (HSec.out p _ HSk.out);have HNi:=aH (HNo.out wx hkk mi (eQ hmi2));have HNk:=aH (HNo.out wx hkk mk (eQ hmk));obtain⟨-,-,-,-,-,z5⟩:=cO hul (Below.refl _ _) hmk;have h1':¬(p:Int)<0:=by omega
   clear hkk hrl hul hv hmi2 hk hlt h2 h3 h4 hmk h1;obtain⟨⟨mn,mk0,mp,ml,md,mr⟩,ma,mc⟩:=mi;obtain⟨⟨nn,nk0,np,nl,nd,nr⟩,na,nc⟩:=mk;simp only at y5 z5 hll HNi HNk;obtain⟨si,hsi⟩:=aE ((⟨mn,mk0,mp,ml,md,mr⟩:Sc));obtain⟨sk,hsk⟩:=aE ((⟨nn,nk0,np,nl,nd,nr⟩:Sc));simp only at HSi HSk HQi HQk;rw[<-hsi]at HSi HQi;rw[<-hsk]at HSk HQk;have HRi:Hid (si.rels=mr):=aH (by rw[hsi]);have HRk:Hid (sk.rels=nr):=aH (by rw[hsk]);obtain⟨pn,hpn2⟩:=aE mr.length;rw[<-hll,<-hpn2]at z5;rw[<-hpn2]at y5;have HPn:=aH hpn2;have HQn:Hid (pn=nr.length):=aH (by rw[hpn2,hll]);have hpi2:(pn:Int)<=64:=by have:=HQi.out.1.rels;rw[HRi.out]at this;omega
   have HZ5:=aH z5;clear hsi hsk hll hpn2 hpn z5;go_wp2;go_loopw [24] (fun j wr=>∃(q:Nat) (wy:World),wy=wr/\q<=pn/\j=.int .i64 q/\Hid (Below wx.heap.size wx wy/\∀z,z<q->∀(r r':Rl),mr[z]?=some r->nr[z]?=some r'->∃x:Int,0<=x/\rep[r.sym.toNat]?=some x/\rep[r'.sym.toNat]?=some x)) (fun j _=>pn-(intOf j).toNat)
   case atStart=>exact⟨0,_,rfl,by omega,rfl,aH ⟨Below.refl _ _,fun z hz=>by omega⟩⟩
   case round=>
    clear r0 y5;obtain⟨q,wy,rfl,hq,rfl,HQ⟩:=hrel;by_cases hlq:q<pn
    ·have hlqi:(q:Int)<(pn:Int):=by omega
     have HLQ:=aH hlq;have hby:=HQ.out.1;have hk1:q<mr.length:=by rw[<-HPn.out];exact hlq
     have hk2:q<nr.length:=by rw[<-HQn.out];exact hlq
     obtain⟨b1,o1,hae1,hB1,hc1⟩:=(HNi.out.next hby).cells (by intro e;rw[e]at hk1;simp at hk1);subst hae1;obtain⟨b2,o2,hae2,hB2,hc2⟩:=(HNk.out.next hby).cells (by intro e;rw[e]at hk2;simp at hk2);subst hae2;obtain⟨c0,c1,c2,c3⟩:=dN (fun q' hq'=>hc1 q hk1 q' hq');obtain⟨-,-,d2,-⟩:=dN (fun q' hq'=>hc2 q hk2 q' hq');obtain⟨x,hx⟩:=aE (mr[q]);obtain⟨y,hy⟩:=aE (nr[q]);have hxx:mr[q]?=some x:=by rw[hx];exact iS hk1
     have hyy:nr[q]?=some y:=by rw[hy];exact iS hk2
     obtain⟨a0,a1⟩:=HQi.out.2 x (eQ hxx);obtain⟨b0,b1'⟩:=HQk.out.2 y (eQ hyy);rw[<-hx]at c0 c1 c2 c3;rw[<-hy]at d2;obtain⟨a,ha⟩:∃a:Nat,x.sym=(a:Int):=⟨x.sym.toNat,by omega⟩;obtain⟨b,hbb⟩:∃b:Nat,y.sym=(b:Int):=⟨y.sym.toNat,by omega⟩;rw[ha]at c2 a1;rw[hbb]at d2 b1';have han:a<n:=by omega
     have hbn:b<n:=by omega
     obtain⟨xv,hxv⟩:=aG (l:=rep) (i:=a) (by rw[<-HRl.out];exact han);obtain⟨yv,hyv⟩:=aG (l:=rep) (i:=b) (by rw[<-HRl.out];exact hbn);obtain⟨xp,hxp⟩:=aE x.pos;obtain⟨xk,hxk⟩:=aE x.kind;obtain⟨xa,hxa⟩:=aE x.add;rw[<-hxp]at c0;rw[<-hxk]at c1;rw[<-hxa]at c3;obtain⟨V,hV⟩:=aE wy.heap.size;obtain⟨Wb,hWb⟩:=aE (wy.alloc (.cells #[.int .i64 xp,.int .i64 xk,.int .i64 (a:Int),.int .i64 xa] 57));have hbb2:Below wy.heap.size wy Wb:=by rw[hWb];exact aC wy _
     have hrv:RB Wb V #[.int .i64 xp,.int .i64 xk,.int .i64 (a:Int),.int .i64 xa] 57:=by rw[hWb,hV];exact aQ wy _ _
     have hbw:=after hby hbb2;have hrl:=HR.out Wb (after HBk.out hbw);have v2:Wb.cell? ⟨V,2,none⟩=some (.int .i64 (a:Int)):=hrv.cell;have ra0:Wb.cell? ⟨rb,ro+a,none⟩=some (.int .i64 xv):=bR hrl (Below.refl _ _) hxv;have rb0:Wb.cell? ⟨rb,ro+b,none⟩=some (.int .i64 yv):=bR hrl (Below.refl _ _) hyv;have zz5:Wb.cell? ⟨ub,uo+p*6+5,none⟩=some (.slice (some ⟨b2,o2,none⟩) pn nc):=(hbw.cell (p:=⟨ub,uo+p*6+5,none⟩) (bM HZ5.out)).trans HZ5.out;have dd2:Wb.cell? ⟨b2,o2+q*4+2,none⟩=some (.int .i64 (b:Int)):=(hbb2.cell (p:=⟨b2,o2+q*4+2,none⟩) (bM d2)).trans d2;have HWE:Hid (wy.alloc (.cells #[.int .i64 xp,.int .i64 xk,.int .i64 (a:Int),.int .i64 xa] 57)=Wb):=aH hWb.symm;have HVe:Hid (wy.heap.size=V):=aH hV.symm;have HBw:=aH hbw;have HXv:=aH hxv;have HYv:=aH hyv;have HRow:Hid ((∃z:Int,0<=z/\rep[x.sym.toNat]?=some z/\rep[y.sym.toNat]?=some z)->∀z,z<q+1->∀(r r':Rl),mr[z]?=some r->nr[z]?=some r'->∃x:Int,0<=x/\rep[r.sym.toNat]?=some x/\rep[r'.sym.toNat]?=some x):=aH (fun h0 z hz r r' hr hr'=>by
      rcases Nat.lt_or_ge z q with h1|h1
      ·exact HQ.out.2 z h1 r r' hr hr'
      ·have:z=q:=by omega
       subst this;rw[hxx]at hr;cases hr;rw[hyy]at hr';cases hr';exact h0)
     have HNg:Hid (¬(0<=xv/\xv=yv)->¬pS S rep):=aH (fun h0 hq=>by
      obtain⟨z,z0,z1,z2⟩:=hq k _ HVk.out (by omega) si sk HSi.out (by rw[Int.toNat_natCast];exact HSk.out) q x y (by rw[HRi.out];exact hxx) (by rw[HRk.out];exact hyy);rw[ha,Int.toNat_natCast,hxv]at z1;rw[hbb,Int.toNat_natCast,hyv]at z2;exact h0 ⟨by rw[Option.some.inj z1];exact z0,by rw[Option.some.inj z1,Option.some.inj z2]⟩)
     have HXs:Hid (x.sym.toNat=a/\y.sym.toNat=b):=aH ⟨by rw[ha];rfl,by rw[hbb];rfl⟩;have hai:(a:Int)<(n:Int):=a1;have hbi:(b:Int)<(n:Int):=b1';clear hby hk1 hk2 hB1 hc1 hB2 hc2 hx hy hxx hyy a0 a1 b0 b1' ha hbb han hbn hxv hyv hxp hxk hxa hWb hbb2 hrv hbw hrl hV d2 hq hlq HQ;go_wp2_with fail
     rw[HWE.out,HVe.out];clear c0 c1 c2 c3;have HBB:=aH (after HBk.out HBw.out);by_cases hc:0<=xv/\xv=yv
     ·obtain⟨hc0,hc1⟩:=hc;subst hc1;have HR2:=aH (HRow.out ⟨xv,hc0,by rw[HXs.out.1];exact HXv.out,by rw[HXs.out.2];exact HYv.out⟩);have e1:¬xv<0:=by omega
      have e2:(xv !=xv)=false:=by simp
      clear hc0;go_big_quiet (fail);go_wp2;go_roundw
      case rel=>exact⟨q+1,_,rfl,by have:=HLQ.out;omega,by go_num,aH ⟨below_drewN HBw.out _,HR2.out⟩⟩
      case measure=>have:=HLQ.out;simp[intOf];omega
     ·have HN:=aH (HNg.out hc);have hcs:xv<0\/(¬xv<0/\xv≠yv):=by omega
      clear hc;rcases hcs with h|⟨h,h'⟩
      ·go_big_quiet (fail);go_wp2;go_ret;exact⟨false,rfl,⟨fun h=>(by cases h),fun hq=>absurd hq HN.out⟩,below_drewN HBB.out _⟩
      ·have e2:(xv !=yv)=true:=by simp[h']
       clear h';go_big_quiet (fail);go_wp2;go_ret;exact⟨false,rfl,⟨fun h=>(by cases h),fun hq=>absurd hq HN.out⟩,below_drewN HBB.out _⟩
    ·have hlqi:¬(q:Int)<(pn:Int):=by omega
     have hqe:q=pn:=by omega
     have HNx:Hid (pT w S rep (k+1) wy):=aH ((HK.out.next HQ.out.1).one HVk.out (fun h0 s t hs ht j r r' hr hr'=>by
      rw[HSi.out]at hs;cases hs;rw[Int.toNat_natCast,HSk.out]at ht;cases ht;rw[HRi.out]at hr;rw[HRk.out]at hr';have hz:=(eX hr).1;exact HQ.out.2 j (by rw[hqe,HPn.out];exact hz) r r' hr hr'))
     clear hlq hqe hq HQ;go_wp2;go_roundw
     case rel=>exact⟨k+1,_,rfl,by have:=HLT.out;omega,by go_num,HNx⟩
     case measure=>have:=HLT.out;simp[intOf];omega
  ·have hlti:¬(k:Int)<(n:Int):=by omega
   have HT:Hid (pS S rep):=aH (fun b v hv=>HK.out.row b v (by have:=(eX hv).1;have:=HRl.out;omega) hv);have HB:=aH HK.out.kk;clear hk hlt HK;go_wp2;go_ret;exact⟨true,rfl,⟨fun _=>HT.out,fun _=>rfl⟩,HB.out⟩
theorem equalZ_any (w:World)(a1 a2:Option Addr)(n c m d:Nat)(xs ys:List Int)(h1:SL dT 1 w w.heap.size a1 n xs)(h2:SL dT 1 w w.heap.size a2 m ys)(hn:n<=maxLen)(hm:m<=maxLen):
  Calls Tryz.prog 50 #[.slice a1 n c,.slice a2 m d] w (fun e w'=>e=.returned (.bool (decide (xs=ys)))/\∃ q,w'=w.drewN q):=by
 have l1:=h1.len;have l2:=h2.len;unfold maxLen at hn hm;by_cases hz:n=0
 ·subst hz;have hx:xs=[]:=List.length_eq_zero_iff.1 l1.symm;refine(Tryz.slices_Equal_int_empty a1 a2 c m d w (by omega)).mono ?_;rintro e w' ⟨rfl,hw⟩;refine⟨?_,0,by rw[hw];rfl⟩;congr 2;rw[decide_eq_decide,hx];constructor
  ·intro h;rw[h]at l2;exact(List.length_eq_zero_iff.1 l2.symm).symm
  ·intro h;rw[l2,<-h];rfl
 by_cases hnm:n=m;rotate_left
 ·refine(Tryz.slices_Equal_int_lens a1 a2 n c m d w hnm).mono ?_;rintro e w' ⟨rfl,hw⟩;refine⟨?_,0,by rw[hw];rfl⟩;rw[decide_eq_false (fun h=>hnm (by rw[l1,l2,h]))]
 subst hnm;obtain⟨b1,o1,e1,-,-⟩:=h1.cells (by intro e;rw[e]at l1;exact hz l1);obtain⟨b2,o2,e2,-,-⟩:=h2.cells (by intro e;rw[e]at l2;exact hz l2);subst e1 e2;refine(Tryz.slices_Equal_int b1 o1 n c b2 o2 n d xs ys w (by omega) (by omega) (by omega) (by omega)
  (fun q hq=>by rw[bR h1 (Below.refl _ _) (iS hq)];simp[List.getD,iS hq])
  (fun q hq=>by rw[bR h2 (Below.refl _ _) (iS hq)];simp[List.getD,iS hq])).mono ?_
 rintro e w' ⟨rfl,q,hq⟩;refine⟨?_,q,hq⟩;rw[List.take_of_length_le (by omega),List.take_of_length_le (by omega)];congr 2;rw[Bool.eq_iff_iff];simp
def lE (S:List Sc)(rep live align:List Int):Prop:=bN S=true/\jP S rep/\pS S rep/\live=(aJ S rep).map Int.ofNat/\align=eP S rep
abbrev kpV (ra:Option Addr)(rn rc:Nat)(la:Option Addr)(ln lc:Nat)(aa:Option Addr)(an ac:Nat):Array Value:=#[.slice ra rn rc,.slice la ln lc,.slice aa an ac]
theorem reps_lt {S:List Sc}{rep:List Int}(h:jP S rep):∀(k:Nat) (v:Int),rep[k]?=some v->v<(S.length:Int):=by
 intro k v hv;have hk:=(eX hv).1;rw[h.1]at hk;rcases h.2 k v hv with h1|⟨-,h1,-⟩
 ·omega
 ·exact h1
theorem shrIs_any (w:World)(ua:Option Addr)(n uc:Nat)(L:List Ms)(ra:Option Addr)(rn rc:Nat)(rep:List Int)(la:Option Addr)(ln lc:Nat)(live:List Int)(aa:Option Addr)(an ac:Nat)(align:List Int)(hn:n<=maxLen)(hs:SL mX 6 w w.heap.size ua n L)(hno:iQ w w.heap.size L)(hg:∀x∈L,fP x.sc)(hb:∀x∈L,x.sc.rels.length*32<=reachBytes)
  (hr:SL dT 1 w w.heap.size ra rn rep) (hl:SL dT 1 w w.heap.size la ln live) (ha:SL dT 1 w w.heap.size aa an align) (hrn:rn<=maxLen) (hln:ln<=maxLen) (han:an<=maxLen) (hT:jL w):
  Calls Tryz.prog 22 #[.slice ua n uc,.agg (kpV ra rn rc la ln lc aa an ac)] w (oI (lE (L.map (·.sc)) rep live align) w):=by
 obtain⟨W1,hW1⟩:=aE (w.alloc (.cells (kpV ra rn rc la ln lc aa an ac) 25));have hb1:Below w.heap.size w W1:=by rw[hW1];exact aC w _
 have hr1:RB W1 w.heap.size (kpV ra rn rc la ln lc aa an ac) 25:=by rw[hW1];exact aQ w _ _
 have HIs:=aH (gIs_any ua n uc L W1 hn (hs.next hb1) (hno.next hb1) hg hb (hT.next hb1));have HWE:Hid (w.alloc (.cells (kpV ra rn rc la ln lc aa an ac) 25)=W1):=aH hW1.symm;have HBu:=aH hb1;have HR1:=aH hr1;obtain⟨X,hX⟩:=aE w.heap.size;have HX:=aH hX;rw[<-hX]at HR1;have hlen:(L.map (·.sc)).length=n:=by rw[List.length_map];exact hs.len.symm
 by_cases hu:bN (L.map (·.sc))=true;rotate_left
 ·have huf:bN (L.map (·.sc))=false:=by cases h:bN (L.map (·.sc));rfl;exact absurd h hu
  have HNg:Hid (¬lE (L.map (·.sc)) rep live align):=aH (fun hq=>hu hq.1);rw[huf]at HIs;clear hs hno hg hb hr hl ha hrn hln han hT hW1 hb1 hr1 hX hlen hu huf hn;go_enter Tryz.func22,Tryz.ntmps22;go_wp2_with fail
  have hwe:=HWE.out;simp only[kpV]at hwe;rw[hwe,<-HX.out];refine HIs.out.mono ?_;rintro e u ⟨rfl,hb⟩;have HB:=aH (after HBu.out hb);clear hb hwe;go_wp2;go_ret;exact⟨false,rfl,⟨fun h=>(by cases h),fun hq=>absurd hq HNg.out⟩,HB.out⟩
 rw[hu]at HIs;have hn2:n<=256:=by have:=fK hu;rw[hlen]at this;exact this
 have HAr:Hid (∀u,Below w.heap.size w u->Calls Tryz.prog 47 #[.slice ua n uc,.slice ra rn rc] u (oI (jP (L.map (·.sc)) rep) u)):=aH fun u hk=>areReps_any u ua n uc L ra rn rc rep hrn (hs.next hk) (hno.next hk) (hr.next hk) hu
 obtain⟨S,hS⟩:=aE (L.map (·.sc));by_cases hq1:jP S rep;rotate_left
 ·have HNg:Hid (¬lE S rep live align):=aH (fun hq=>hq1 hq.2.1);rw[<-hS]at HAr⊢;have HN1:=aH hq1;clear hs hno hg hb hr hl ha hrn hln han hT hW1 hb1 hr1 hX hlen hu hn hn2 hS hq1;have x0:W1.cell? ⟨X,0,none⟩=some (.slice ra rn rc):=HR1.out.cell;go_enter Tryz.func22,Tryz.ntmps22;go_wp2_with fail
  have hwe:=HWE.out;simp only[kpV]at hwe;rw[hwe,<-HX.out];refine HIs.out.mono ?_;rintro e u ⟨rfl,hb⟩;have HB:=aH (after HBu.out hb);have x0:u.cell? ⟨X,0,none⟩=some (.slice ra rn rc):=(HR1.out.next hb).cell;clear hb hwe;go_wp2_with fail
  refine(HAr.out u HB.out).mono ?_;rintro e u2 ⟨r,rfl,hr,hb⟩;have hrf:r=false:=by cases r;rfl;exact absurd (hr.1 rfl) HN1.out
  subst hrf;replace HB:=aH (after HB.out hb);clear hb hr x0;go_wp2;go_ret;exact⟨false,rfl,⟨fun h=>(by cases h),fun hq=>absurd hq HNg.out⟩,HB.out⟩
 have hrnn:rn=n:=by rw[hr.len,hq1.1,hS,hlen]
 subst hrnn;have HLd:Hid (∀u,Below w.heap.size w u->Calls Tryz.prog 48 #[.slice ua rn uc,.slice ra rn rc] u (oI (pS (L.map (·.sc)) rep) u)):=aH fun u hk=>shrLead_any u ua rn uc L ra rc rep (hs.next hk) (hno.next hk) (hr.next hk) hu (by rw[<-hS];exact hq1)
 have HQ1:=aH hq1;by_cases hq2:pS S rep;rotate_left
 ·have HNg:Hid (¬lE S rep live align):=aH (fun hq=>hq2 hq.2.2.1);have HN2:=aH hq2;rw[<-hS]at HAr HLd⊢;clear hs hno hg hb hr hl ha hrn hln han hT hW1 hb1 hr1 hX hlen hu hn hn2 hS hq1 hq2;go_enter Tryz.func22,Tryz.ntmps22;go_wp2_with fail
  have hwe:=HWE.out;simp only[kpV]at hwe;rw[hwe,<-HX.out];refine HIs.out.mono ?_;rintro e u ⟨rfl,hb⟩;have HB:=aH (after HBu.out hb);have HR2:=aH (HR1.out.next hb);have x0:u.cell? ⟨X,0,none⟩=some (.slice ra rn rc):=HR2.out.cell;clear hb hwe;go_wp2_with fail
  refine(HAr.out u HB.out).mono ?_;rintro e u2 ⟨r,rfl,hr,hb⟩;have hrt:r=true:=hr.2 HQ1.out;subst hrt;replace HB:=aH (after HB.out hb);replace HR2:=aH (HR2.out.next hb);clear hb hr x0;have x0:u2.cell? ⟨X,0,none⟩=some (.slice ra rn rc):=HR2.out.cell;go_wp2_with fail
  refine(HLd.out u2 HB.out).mono ?_;rintro e u3 ⟨r,rfl,hr,hb⟩;have hrf:r=false:=by cases r;rfl;exact absurd (hr.1 rfl) HN2.out
  subst hrf;replace HB:=aH (after HB.out hb);clear hb hr x0;go_wp2;go_ret;exact⟨false,rfl,⟨fun h=>(by cases h),fun hq=>absurd hq HNg.out⟩,HB.out⟩
 have HY:Hid (bN S=true/\jP S rep/\pS S rep):=aH ⟨by rw[hS];exact hu,hq1,hq2⟩;have HSt:Hid (∀u,Below w.heap.size w u->Calls Tryz.prog 49 #[.slice ua rn uc,.slice ra rn rc] u (RowP (aJ (L.map (·.sc)) rep) u)):=aH fun u hk=>standing_any u ua rn uc L ra rc rep hn2 (hs.next hk) (hr.next hk)
 have hSn:S.length=rn:=by rw[hS];exact hlen
 have HLr:∀x∈(aJ S rep).map Int.ofNat,0<=x/\x<(rn:Int):=by rw[<-hSn];exact live_rng hq1.1
 have hsl:(aJ S rep).length<=256:=by rw[qB];have:=oO rep;have:=hq1.1;omega
 have HAlg:Hid (∀u za zc,Below w.heap.size w u->SL dT 1 u u.heap.size za (aJ S rep).length ((aJ S rep).map Int.ofNat)->Calls Tryz.prog 51 #[.slice ua rn uc,.slice ra rn rc,.slice za (aJ S rep).length zc] u (RowZ (((aJ S rep).map Int.ofNat).map (fun x=>eE (L.map (·.sc)) rep x.toNat rn)) u)):=aH fun u za zc hk hz=>aligns_any u ua rn uc L ra rc rep za (aJ S rep).length zc _ hn2 (hs.next hk) (hr.next hk) hz (by rw[<-hSn];exact reps_lt hq1) HLr hsl
 have HSl:=aH (fun u (hu:Below w.heap.size w u)=>hl.next hu);have HSa:=aH (fun u (hu:Below w.heap.size w u)=>ha.next hu);have HLm:=aH hln;have HAm:=aH han;obtain⟨sn,hsn⟩:=aE ((aJ S rep).length);have HSm:Hid (sn<=maxLen):=aH (by rw[hsn];unfold maxLen;omega);have HAn:Hid ((eP S rep).length=sn):=aH (by unfold eP;rw[List.length_map,hsn]);have HAe:Hid (((aJ S rep).map Int.ofNat).map (fun x=>eE S rep x.toNat rn)=eP S rep):=aH (by
  unfold eP;rw[List.map_map,hq1.1,hSn];rfl)
 rw[<-hS]at HAr HLd HSt HAlg⊢;rw[<-hsn]at HAlg;have HSn:=aH hsn;clear hs hno hg hb hr hl ha hrn hln han hT hW1 hb1 hr1 hX hlen hu hn hn2 hS hq1 hq2 hSn HLr hsl hsn;go_enter Tryz.func22,Tryz.ntmps22;go_wp2_with fail
 have hwe:=HWE.out;simp only[kpV]at hwe;rw[hwe,<-HX.out];refine HIs.out.mono ?_;rintro e u ⟨rfl,hb⟩;replace HBu:=aH (after HBu.out hb);have HR2:=aH (HR1.out.next hb);have x0:u.cell? ⟨X,0,none⟩=some (.slice ra rn rc):=HR2.out.cell;clear hb hwe;go_wp2_with fail
 refine(HAr.out u HBu.out).mono ?_;rintro e u2 ⟨r,rfl,hr,hb⟩;have hrt:r=true:=hr.2 HY.out.2.1;subst hrt;replace HBu:=aH (after HBu.out hb);replace HR2:=aH (HR2.out.next hb);clear hb hr x0;have x0:u2.cell? ⟨X,0,none⟩=some (.slice ra rn rc):=HR2.out.cell;go_wp2_with fail
 refine(HLd.out u2 HBu.out).mono ?_;rintro e u3 ⟨r,rfl,hr,hb⟩;have hrt:r=true:=hr.2 HY.out.2.2;subst hrt;replace HBu:=aH (after HBu.out hb);replace HR2:=aH (HR2.out.next hb);clear hb hr x0;have x0:u3.cell? ⟨X,0,none⟩=some (.slice ra rn rc):=HR2.out.cell;go_wp2_with fail
 refine(HSt.out u3 HBu.out).mono ?_;rintro e u4 ⟨za,zc,rfl,hoo,hb⟩;replace HBu:=aH (after HBu.out hb);replace HR2:=aH (HR2.out.next hb);have HZ:=aH (owns_slN hoo);rw[<-HSn.out]at HZ⊢;clear hb hoo x0;go_wp2_with fail
 obtain⟨v0,hv0,hbd⟩:=aD u4;have HBd:=aH hbd;have hrv:=HR2.out.next hbd;have HKp:Hid (∀u',Below v0.heap.size v0 u'->(fun u'=>u'.cell? ⟨X,0,none⟩=some (.slice ra rn rc)/\u'.cell? ⟨X,1,none⟩=some (.slice la ln lc)/\u'.cell? ⟨X,2,none⟩=some (.slice aa an ac)) u'):=aH (fun u' hu=>⟨(hrv.next hu).cell,(hrv.next hu).cell,(hrv.next hu).cell⟩);have HE1:=aH (equalZ_any v0 la za ln lc sn zc live ((aJ S rep).map Int.ofNat) (HSl.out v0 (after HBu.out hbd)) (HZ.out.next hbd) HLm.out HSm.out);have HAl:Hid (∀v,Below u4.heap.size u4 v->Calls Tryz.prog 51 #[.slice ua rn uc,.slice ra rn rc,.slice za sn zc] v (fun e w'=>∃a c,e=.returned (.slice a sn c)/\SL dT 1 w' w'.heap.size a sn (eP S rep)/\Below v.heap.size v w')):=aH (fun v hv=>(HAlg.out v za zc (after HBu.out hv) (HZ.out.next hv)).mono (by
  rintro e w' ⟨a,c,rfl,hoo,hb⟩;rw[HAe.out]at hoo⊢;have hsz:=rU hoo;rw[HAn.out]at hsz⊢;exact⟨a,c,rfl,hsz,hb⟩))
 have HV0:=aH hv0;clear hv0 hbd hrv HAlg HZ HAr HLd HSt;refine wp_region_held_drew (S:=fun u'=>u'.cell? ⟨X,0,none⟩=some (.slice ra rn rc)/\u'.cell? ⟨X,1,none⟩=some (.slice la ln lc)/\u'.cell? ⟨X,2,none⟩=some (.slice aa an ac)) (by kernel_rfl) (by rw[<-HV0.out];exact HKp.out _ (Below.refl _ _)) (fun hHeld=>?_);rw[<-HV0.out];have hHeld0:=HKp.out _ (Below.refl _ _);clear hHeld;iterate 3 refine aN _ rfl hHeld0 ?_
 refine rd 3 rfl (fun K hK=>?_);go_simp;go_wp2_with (go_at_call 50;refine HE1.out.mono ?_;rintro e v1 ⟨rfl,q1,hq1⟩;have HB1:Hid (Below v0.heap.size v0 v1):=aH (by rw[hq1];exact below_drewN (Below.refl _ _) _);clear hq1)
 refine hK.out _ _ (HKp.out _ HB1.out) (fun hHeld=>?_);clear hK K;by_cases hlv:live=(aJ S rep).map Int.ofNat;rotate_left
 ·rw[decide_eq_false hlv];refine aI 4 _ rfl hHeld ?_;iterate 8 refine aO rfl hHeld ?_
  refine rd 13 rfl (fun K hK=>?_);go_simp;refine hK.out _ _ (HKp.out _ HB1.out) (fun hHeld=>?_);clear hK K;refine rd 14 rfl (fun K hK=>?_);go_simp;refine hK.out _ _ (HKp.out _ HB1.out) (fun hHeld=>?_);clear hK K;refine wpAnyH_done (by kernel_rfl) ?_ _;have HNg:Hid (¬lE S rep live align):=aH (fun hq=>hlv hq.2.2.2.1);have HBx:=aH (after HBu.out (after HBd.out HB1.out));go_wp2;go_ret;exact⟨false,rfl,⟨fun h=>(by cases h),fun hq=>absurd hq HNg.out⟩,HBx.out⟩
 rw[decide_eq_true hlv];have HLv:=aH hlv;clear hlv;refine aI 4 _ rfl hHeld ?_;refine aI 5 _ rfl hHeld ?_;refine aI 6 _ rfl hHeld ?_;refine aI 7 _ rfl hHeld ?_;refine aI 8 _ rfl hHeld ?_;refine aI 9 _ rfl hHeld ?_;refine aI 10 _ rfl hHeld ?_;refine rd 11 rfl (fun K hK=>?_);have HA1:=aH (HAl.out v1 (after HBd.out HB1.out));go_simp;go_wp2_with (go_at_call 51;refine HA1.out.mono ?_;rintro e v2 ⟨za,zc,rfl,hsz,hb2⟩)
 have HSz:=aH hsz;have HB2:=aH (after HB1.out hb2);clear hb2 hsz;refine hK.out _ _ (HKp.out _ HB2.out) (fun hHeld=>?_);clear hK K;refine rd 12 rfl (fun K hK=>?_);have HE2:=aH (equalZ_any v2 aa za an ac sn zc align (eP S rep) (HSa.out v2 (after HBu.out (after HBd.out HB2.out))) HSz.out HAm.out HSm.out);go_simp;go_wp2_with (go_at_call 50;refine HE2.out.mono ?_;rintro e v3 ⟨rfl,q3,hq3⟩;have HB3:Hid (Below v0.heap.size v0 v3):=aH (after HB2.out (by rw[hq3];exact below_drewN (Below.refl _ _) _));clear hq3)
 refine hK.out _ _ (HKp.out _ HB3.out) (fun hHeld=>?_);clear hK K;refine rd 13 rfl (fun K hK=>?_);go_simp;refine hK.out _ _ (HKp.out _ HB3.out) (fun hHeld=>?_);clear hK K;refine rd 14 rfl (fun K hK=>?_);go_simp;refine hK.out _ _ (HKp.out _ HB3.out) (fun hHeld=>?_);clear hK K;refine wpAnyH_done (by kernel_rfl) ?_ _;have HBx:=aH (after HBu.out (after HBd.out HB3.out));have HFi:Hid (decide (align=eP S rep)=true ↔ lE S rep live align):=aH (by
  rw[decide_eq_true_iff];exact⟨fun h=>⟨HY.out.1,HY.out.2.1,HY.out.2.2,HLv.out,h⟩,fun h=>h.2.2.2.2⟩)
 obtain ⟨D,hD⟩:=aE (decide (align=eP S rep));rw[<-hD]at HFi⊢;clear hD;go_wp2;go_ret;exact⟨D,rfl,HFi.out,HBx.out⟩
end Go.Proofs.YtiohgaghmnpplaaGreatDoor
