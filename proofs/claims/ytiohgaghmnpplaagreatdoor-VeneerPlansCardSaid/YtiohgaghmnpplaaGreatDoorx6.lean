/- veneer: Lay, Wants. veneer: slices.Index; Goal. -/
import Derived.Test.YtiohgaghmnpplaaGreatDoorx5
import Derived.Test.YtiohgaghmnpplaaGreatDoorqA
set_option maxRecDepth 100000
set_option maxHeartbeats 3000000
set_option linter.unusedVariables false
set_option linter.unusedSimpArgs false
namespace Go.Proofs.YtiohgaghmnpplaaGreatDoor
open Go.ChangeShapes Go.WideShapes Go.Deep Go.RowKit
open Go.Proofs.YtiohgaghmnpplaaGreatDoor.Pl (encU encU_len)
section
variable {p:Yp} {Lm:List Ms} {rep live align:List Int} {w:World} {t d st r:Int}
theorem LQ.yard (h:LQ p Lm rep live align w)(hq:lE (Lm.map (·.sc)) rep live align){u:World}(hu:Below w.heap.size w u):
  Calls Tryz.prog 27 #[.slice p.ua p.n p.uc,p.kp] u (NewYP p (aJ (Lm.map (·.sc)) rep) u):=by
 obtain⟨hLQ,hn,hlt,hln,hla,hlv,hsy,hgc⟩:=h.left hq;exact nT p _ u hn (hla.next hu) hLQ.nd hlt hln
theorem LQ.lay (h:LQ p Lm rep live align w)(hq:lE (Lm.map (·.sc)) rep live align)(hg:Pl.goodB t d st r=true)(t0:0<=t)(d0:0<=d){u:World}(hu:Below w.heap.size w u){Y g:Nat}(hyd:YD p (aJ (Lm.map (·.sc)) rep) u Y g)
  {va:Option Addr} {vn vc:Nat} {v:List Vn} (hv:SL gB 3 u u.heap.size va vn v) (hvr:aX (Lm.map (·.sc)) (aJ (Lm.map (·.sc)) rep) [] v=true) (hvn:vn<=1000000):
  Calls Tryz.prog 28 #[.pointer (some ⟨Y,0,none⟩),.agg (fV t d st r),.slice va vn vc] u (TwoU (bF (Lm.map (·.sc)) (aJ (Lm.map (·.sc)) rep) align t d v) (kS (Lm.map (·.sc)) (aJ (Lm.map (·.sc)) rep) (bF (Lm.map (·.sc)) (aJ (Lm.map (·.sc)) rep) align t d v) v) u):=by
 obtain⟨hLQ,hn,hlt,hln,hla,hlv,hsy,hgc⟩:=h.left hq;obtain⟨g1,g2,-⟩:=sE hg;exact yLay_any p _ rep _ align Y g t d st r va vn vc v u ⟨hyd,hn,hlt,⟨Lm,rfl,h.hs.next hu⟩,hla.next hu,h.ha.next hu⟩ hLQ hv hvr hvn t0 g1 d0 g2
theorem LQ.wants (h:LQ p Lm rep live align w)(hq:lE (Lm.map (·.sc)) rep live align)(hg:Pl.goodB t d st r=true)(t0:0<=t)(d0:0<=d){u:World}(hu:Below w.heap.size w u){Y g:Nat}(hyd:YD p (aJ (Lm.map (·.sc)) rep) u Y g)
  {va:Option Addr} {vn vc:Nat} {v:List Vn} (hv:SL gB 3 u u.heap.size va vn v) (hvr:aX (Lm.map (·.sc)) (aJ (Lm.map (·.sc)) rep) [] v=true) (hgv:∀x∈v,cR x) (hvn:vn<=1000000)
  {pa:Option Addr} {pn pc:Nat} (hP:SL encU 1 u u.heap.size pa pn (bF (Lm.map (·.sc)) (aJ (Lm.map (·.sc)) rep) align t d v)):
  Calls Tryz.prog 31 #[.pointer (some ⟨Y,0,none⟩),.agg (fV t d st r),.slice va vn vc,.slice pa pn pc] u (RowV (qW (Lm.map (·.sc)) (aJ (Lm.map (·.sc)) rep) align rep t d r v) u):=by
 obtain⟨hLQ,hn,hlt,hln,hla,hlv,hsy,hgc⟩:=h.left hq;obtain⟨g1,g2,g3,g4⟩:=sE hg;exact yWants_any p _ rep _ align Y g t d st r va vn vc v pa pn pc _ u ⟨hyd,hn,hlt,⟨Lm,rfl,h.hs.next hu⟩,hla.next hu,h.ha.next hu⟩ hLQ hv (gZ.1 hvr).1 hgv hvn Lm rfl (h.hs.next hu) (h.hno.next hu) (fun m hm=>(h.hg m hm).rels) (h.hr.next hu) hP hsy (iX _ _ align t d _ hLQ.al) (lR hLQ (gZ.1 hvr).2.2 t0 g1 d0 g2) (by unfold cS;omega)
theorem LQ.right (h:LQ p Lm rep live align w){u:World}(hu:Below w.heap.size w u){va:Option Addr}{vn vc:Nat}{v:List Vn}(hv:SL gB 3 u u.heap.size va vn v)(hgv:∀x∈v,cR x)(hvn:vn<=1000000):
  Calls Tryz.prog 26 #[.slice p.ua p.n p.uc,.agg #[.slice p.ra p.rn p.rc,.slice p.la p.ln p.lc,.slice p.aa p.an p.ac],.slice va vn vc] u (oI (lE (Lm.map (·.sc)) rep live align/\aX (Lm.map (·.sc)) (aJ (Lm.map (·.sc)) rep) [] v=true) u):=
 have k:=h.next hu
 vRight_any p Lm rep live align va vn vc v u k.hn k.hs k.hno k.hg k.hb k.hr k.hl k.ha k.hrn k.hln k.han k.hT hv hgv (by unfold maxLen;omega)
end
abbrev okV (Lm:List Ms)(rep live align:List Int)(t d st r:Int)(v:List Vn):Prop:=Pl.goodB t d st r=true/\lE (Lm.map (·.sc)) rep live align/\aX (Lm.map (·.sc)) (aJ (Lm.map (·.sc)) rep) [] v=true
theorem eq_vn (x y:Vn):∀ w,(Sem.run Tryz.prog (binOp BinOp.eql 80 (.agg #[.int .i64 x.1,.int .i64 x.2.1,.int .i64 x.2.2]) (.agg #[.int .i64 y.1,.int .i64 y.2.1,.int .i64 y.2.2])) w)=Result.ok (.bool (decide (x=y))) w:=by
 intro w;obtain⟨a,b,c⟩:=x;obtain⟨a',b',c'⟩:=y;simp[go_sem];repeat' split
 all_goals simp_all
theorem neq_vn (x y:Vn):∀ w,(Sem.run Tryz.prog (binOp BinOp.neq 80 (.agg #[.int .i64 x.1,.int .i64 x.2.1,.int .i64 x.2.2]) (.agg #[.int .i64 y.1,.int .i64 y.2.1,.int .i64 y.2.2])) w)=Result.ok (.bool (!decide (x=y))) w:=by
 intro w;obtain⟨a,b,c⟩:=x;obtain⟨a',b',c'⟩:=y;simp[go_sem];repeat' split
 all_goals simp_all
def mH (l:List Vn)(v:Vn):Int:=if v∈l then((l.idxOf v:Nat):Int)else -1
theorem idx_first {l:List Vn}{k:Nat}{v:Vn}(hk:l[k]?=some v)(h:v∉l.take k):l.idxOf v=k:=by
 obtain⟨h1,h2⟩:=eX hk;have e:l=l.take k++v :: l.drop (k+1):=by
  rw[<-h2,<-List.drop_eq_getElem_cons h1,List.take_append_drop]
 have h3:(l.take k).length=k:=by rw[List.length_take];omega
 rw[e,List.idxOf_append];rw[if_neg h];rw[List.idxOf_cons_self,h3];omega
theorem vIndex_any (w:World)(a:Option Addr)(n c:Nat)(l:List Vn)(v:Vn)(hn:n<=1000000)(hl:SL gB 3 w w.heap.size a n l):
  Calls Tryz.prog 41 #[.slice a n c,.agg #[.int .i64 v.1,.int .i64 v.2.1,.int .i64 v.2.2]] w (aP (.int .i64 (mH l v)) w):=by
 have hni:(n:Int)<=1000000:=by omega
 have HL:=aH hl;have HLn:Hid (n=l.length):=aH hl.len;obtain⟨X,hX⟩:=aE w.heap.size;obtain⟨W,hW⟩:=aE (w.alloc (.cells #[.int .i64 v.1,.int .i64 v.2.1,.int .i64 v.2.2] 80));have HB:Hid (Below w.heap.size w W):=aH (by rw[hW];exact aC _ _);have HR:Hid (RB W X #[.int .i64 v.1,.int .i64 v.2.1,.int .i64 v.2.2] 80):=aH (by rw[hW,hX];exact aQ _ _ _);have HWe:=aH hW.symm;have HXe:=aH hX.symm;clear hl hn hW hX;go_enter Tryz.func41,Tryz.ntmps41;go_wp2_with fail
 rw[HWe.out,HXe.out];go_loopw [8] (fun i wr=>∃(k:Nat) (wx:World),wx=wr/\Hid (Below W.heap.size W wx)/\k<=n/\i=.int .i64 k/\Hid (v∉l.take k)) (fun i _=>n-(intOf i).toNat)
 case atStart=>exact⟨0,_,rfl,aH (Below.refl _ _),by omega,rfl,aH (by simp)⟩
 case round=>
  obtain⟨k,wx,rfl,HBx,hk,rfl,HN⟩:=hrel;by_cases hlt:k<n
  ·have hlti:(k:Int)<(n:Int):=by omega
   have HLT:=aH hlt;have HWk:Hid (wrap64 ((k:Int)+1)=(k:Int)+1):=aH (by unfold wrap64;omega);have hkl:k<l.length:=by rw[<-HLn.out];exact hlt
   obtain⟨x,hx⟩:=aG (l:=l) (i:=k) hkl;have HSl:=aH (fun u (hu:Below W.heap.size W u)=>HL.out.next (after HB.out hu));obtain⟨b,o,hae,-,-⟩:=(HSl.out wx HBx.out).cells (by intro e;rw[e]at hx;cases hx);subst hae;obtain⟨V,hV,hT⟩:=aD wx;have HBv:=aH (after HBx.out hT);have hc:V.cell? ⟨b,o+k*3+0,none⟩=some (.int .i64 x.1)/\V.cell? ⟨b,o+k*3+1,none⟩=some (.int .i64 x.2.1)/\V.cell? ⟨b,o+k*3+2,none⟩=some (.int .i64 x.2.2):=by
    obtain⟨b',o',hae,-,hvc⟩:=(HSl.out V HBv.out).cells (by intro e;rw[e]at hx;cases hx);cases hae
    exact fI (off:=o) (k:=k) (x:=x) (fun j hj=>by have h1:=hvc k hkl j hj;rw[(eX hx).2]at h1;exact h1)
   have HX:=aH hx;have hS7:V.cell? ⟨X,0,none⟩=some (.int .i64 v.1)/\V.cell? ⟨X,1,none⟩=some (.int .i64 v.2.1)/\V.cell? ⟨X,2,none⟩=some (.int .i64 v.2.2)/\V.cell? ⟨b,o+k*3,none⟩=some (.int .i64 x.1)/\V.cell? ⟨b,o+k*3+1,none⟩=some (.int .i64 x.2.1)/\V.cell? ⟨b,o+k*3+2,none⟩=some (.int .i64 x.2.2)/\True:=
    ⟨(HR.out.next HBv.out).cell,(HR.out.next HBv.out).cell,(HR.out.next HBv.out).cell,hc.1,hc.2.1,hc.2.2,trivial⟩
   have hE:=eq_vn v x;clear hc hT hx hkl hk hlt;go_wp2_with fail
   refine aS (S:=fun v'=>v'.cell? ⟨X,0,none⟩=some (.int .i64 v.1)/\v'.cell? ⟨X,1,none⟩=some (.int .i64 v.2.1)/\v'.cell? ⟨X,2,none⟩=some (.int .i64 v.2.2)/\v'.cell? ⟨b,o+k*3,none⟩=some (.int .i64 x.1)/\v'.cell? ⟨b,o+k*3+1,none⟩=some (.int .i64 x.2.1)/\v'.cell? ⟨b,o+k*3+2,none⟩=some (.int .i64 x.2.2)/\True) hV hS7 ?_;clear hV;iterate 6 refine aN _ rfl hS7 ?_
   refine wpAnyH_done (by kernel_rfl) ?_ _;clear hS7 hE;by_cases e:v=x
   ·have HI:Hid (mH l v=(k:Int)):=aH (by
     subst e;unfold mH;rw[if_pos (eQ HX.out),idx_first HX.out HN.out])
    have HBe:Hid (Below w.heap.size w V):=aH (after HB.out HBv.out);have t1:decide (v=x)=true:=decide_eq_true e;clear e;go_simp;go_wp2_with fail
    go_ret;exact⟨by rw[HI.out];rfl,HBe.out⟩
   ·have HB2:Hid (v∉l.take (k+1)):=aH (by
     rw[List.take_add_one,HX.out];intro h;rcases List.mem_append.1 h with h|h
     ·exact HN.out h
     ·simp at h;exact e h)
    have t1:decide (v=x)=false:=decide_eq_false e;clear e;go_simp;go_wp2_with fail
    first
     |exact⟨⟨k+1,_,rfl,HBv,by have:=HLT.out;omega,by rw[HWk.out];go_num,HB2⟩,fX HLT.out HWk.out⟩
     |exact⟨⟨k+1,_,rfl,HBv,by have:=HLT.out;omega,by go_num,HB2⟩,by exact aK HLT HWk⟩
  ·obtain rfl:n=k:=by omega
   have hge:¬(n:Int)<(n:Int):=by omega
   have HI:Hid (mH l v= -1):=aH (by
    have:=HN.out;rw[HLn.out,List.take_length]at this;unfold mH;rw[if_neg this])
   have HBe:Hid (Below w.heap.size w wx):=aH (after HB.out HBx.out);clear hlt hk;go_wp2;go_ret;exact⟨by rw[HI.out];rfl,HBe.out⟩
def gX (S:List Sc)(rep live align:List Int)(v:List Vn)(nA ln nW nV:Nat)(at' ref:Int)(f:Rl):Prop:=
 nA=ln/\nW=nV/\(lE S rep live align/\aX S (aJ S rep) [] v=true)/\eF S (aJ S rep) at'=true/\0<=ref/\(bZ S at'.toNat)[ref.toNat]?=some f/\f.kind=2
def mY (L:List Nat)(A Wl:List Int)(rep:List Int)(v:List Vn)(k:Nat)(f:Rl):Int:=if eM rep k f∈v then(Wl[v.idxOf (eM rep k f)]?).getD 0 else mZ L A (eM rep k f)
def GoalP (S:List Sc)(rep live align:List Int)(A Wl:List Int)(v:List Vn)(nA ln nW nV:Nat)(at' ref:Int)(w:World)(e:Ending)(w':World):Prop:=
 (∃f,gX S rep live align v nA ln nW nV at' ref f/\e=.returned (.tuple #[.int .u64 (mY (aJ S rep) A Wl rep v at'.toNat f),.int .i64 0])/\Below w.heap.size w w')\/
 ((∀f,¬gX S rep live align v nA ln nW nV at' ref f)/\e=.returned (.tuple #[.int .u64 0,.int .i64 1])/\Below w.heap.size w w')
abbrev plV (aA:Option Addr)(nA cA:Nat)(aV:Option Addr)(nV cV:Nat)(aW:Option Addr)(nW cW:Nat)(kk:Int):Array Value:=#[.slice aA nA cA,.slice aV nV cV,.slice aW nW cW,.int .i64 kk]
theorem Goal_any (p:Yp)(Lm:List Ms)(rep live align:List Int)(aA:Option Addr)(nA cA:Nat)(A:List Int)(aV:Option Addr)(nV cV:Nat)(v:List Vn)(aW:Option Addr)(nW cW:Nat)(Wl:List Int)(kk at' ref:Int)(w:World)(h:LQ p Lm rep live align w)
  (hA:SL encU 1 w w.heap.size aA nA A) (hV:SL gB 3 w w.heap.size aV nV v) (hW:SL encU 1 w w.heap.size aW nW Wl) (hgv:∀x∈v,cR x) (hvn:nV<=1000000) (hAb:∀x∈A,0<=x/\x<18446744073709551616):
  Calls Tryz.prog 19 #[.slice p.ua p.n p.uc,p.kp,.agg (plV aA nA cA aV nV cV aW nW cW kk),.int .i64 at',.int .i64 ref] w (GoalP (Lm.map (·.sc)) rep live align A Wl v nA p.ln nW nV at' ref w):=by
 obtain⟨S,hS⟩:=aE (Lm.map (·.sc));have HRi:Hid (∀u,Below w.heap.size w u->Calls Tryz.prog 26 #[.slice p.ua p.n p.uc,.agg #[.slice p.ra p.rn p.rc,.slice p.la p.ln p.lc,.slice p.aa p.an p.ac],.slice aV nV cV] u (oI (lE S rep live align/\aX S (aJ S rep) [] v=true) u)):=aH fun u hu=>by rw[hS];exact h.right hu (hV.next hu) hgv hvn
 rw[<-hS];have HSe:=aH hS;have HH:=aH h;have HA:=aH (And.intro hA (And.intro hV (And.intro hW (And.intro hgv (And.intro hvn hAb)))));obtain⟨X,hX⟩:=aE w.heap.size;obtain⟨W,hWw⟩:=aE ((w.alloc (.cells #[.slice p.ra p.rn p.rc,.slice p.la p.ln p.lc,.slice p.aa p.an p.ac] 25)).alloc (.cells (plV aA nA cA aV nV cV aW nW cW kk) 44));have z1:(w.alloc (.cells #[.slice p.ra p.rn p.rc,.slice p.la p.ln p.lc,.slice p.aa p.an p.ac] 25)).heap.size=X+1:=by rw[World.size_alloc,hX]
 have HB:Hid (Below w.heap.size w W):=aH (by rw[hWw];exact after (aC _ _) (aC _ _));have HK:Hid (RB W X #[.slice p.ra p.rn p.rc,.slice p.la p.ln p.lc,.slice p.aa p.an p.ac] 25):=aH (by rw[hWw,hX];exact(aQ _ _ _).next (aC _ _));have HP:Hid (RB W (X+1) (plV aA nA cA aV nV cV aW nW cW kk) 44):=aH (by rw[hWw,<-z1];exact aQ _ _ _);have HWe:=aH hWw.symm;have HXe:=aH hX.symm;have o0:W.cell? ⟨X+1,0,none⟩=some (.slice aA nA cA):=HP.out.cell;have o1:W.cell? ⟨X+1,1,none⟩=some (.slice aV nV cV):=HP.out.cell;have o2:W.cell? ⟨X+1,2,none⟩=some (.slice aW nW cW):=HP.out.cell;have k0:W.cell? ⟨X,0,none⟩=some (.slice p.ra p.rn p.rc):=HK.out.cell;have k1:W.cell? ⟨X,1,none⟩=some (.slice p.la p.ln p.lc):=HK.out.cell;have k2:W.cell? ⟨X,2,none⟩=some (.slice p.aa p.an p.ac):=HK.out.cell;rw[hWw,hX]at o0 o1 o2 k0 k1 k2;clear hS h hA hV hW hgv hvn hAb hX hWw z1;go_enter Tryz.func19,Tryz.ntmps19;by_cases c1:nA=p.ln
 case neg=>
  have HNo:Hid (∀f,¬gX S rep live align v nA p.ln nW nV at' ref f):=aH fun f hf=>c1 hf.1
  have t1:((nA:Int) !=(p.ln:Int))=true:=by simp;omega
  have t2:((nA:Int)==(p.ln:Int))=false:=by simp;omega
  go_wp2_with fail
  rw[HWe.out];go_ret2;exact .inr ⟨HNo.out,rfl,HB.out⟩
 have t1:((nA:Int) !=(p.ln:Int))=false:=by simp;omega
 have t2:((nA:Int)==(p.ln:Int))=true:=by simp;omega
 by_cases c2:nW=nV
 case neg=>
  have HNo:Hid (∀f,¬gX S rep live align v nA p.ln nW nV at' ref f):=aH fun f hf=>c2 hf.2.1
  have t3:((nW:Int) !=(nV:Int))=true:=by simp;omega
  have t4:((nW:Int)==(nV:Int))=false:=by simp;omega
  clear c1 c2;go_wp2_with fail
  rw[HWe.out];go_ret2;exact .inr ⟨HNo.out,rfl,HB.out⟩
 have t3:((nW:Int) !=(nV:Int))=false:=by simp;omega
 have t4:((nW:Int)==(nV:Int))=true:=by simp;omega
 have HC:=aH (And.intro c1 c2);have HRi2:=aH (HRi.out W HB.out);clear c1 c2;go_wp2_with fail
 rw[HWe.out,HXe.out];refine HRi2.out.mono ?_;rintro e u2 ⟨b,rfl,hbq,hb2⟩;have HBq:=aH hbq;have HU2:Hid (Below w.heap.size w u2/\RB u2 X #[.slice p.ra p.rn p.rc,.slice p.la p.ln p.lc,.slice p.aa p.an p.ac] 25/\RB u2 (X+1) (plV aA nA cA aV nV cV aW nW cW kk) 44):=aH ⟨after HB.out hb2,HK.out.next hb2,HP.out.next hb2⟩;clear hbq hb2 k0 k1 k2 o0 o1 o2 HRi2 t1 t2 t3 t4;cases b
 ·have HNo:Hid (∀f,¬gX S rep live align v nA p.ln nW nV at' ref f):=aH fun f hf=>by have:=HBq.out.2 hf.2.2.1;cases this
  go_wp2_with fail
  go_ret2;exact .inr ⟨HNo.out,rfl,HU2.out.1⟩
 have HQ:=aH (HBq.out.1 rfl);have HYd:Hid (Calls Tryz.prog 27 #[.slice p.ua p.n p.uc,.agg #[.slice p.ra p.rn p.rc,.slice p.la p.ln p.lc,.slice p.aa p.an p.ac]] u2 (NewYP p (aJ S rep) u2)):=aH (by have h1:=HQ.out.1;rw[HSe.out]at h1⊢;exact HH.out.yard h1 HU2.out.1);have HLf:Hid (iT S rep (aJ S rep) align/\p.n<=256/\(∀x∈aJ S rep,x<p.n)/\p.ln<=256/\SL dT 1 w w.heap.size p.la p.ln ((aJ S rep).map Int.ofNat)/\live=(aJ S rep).map Int.ofNat/\
  (∀k∈aJ S rep,∀f∈bZ S k,0<=f.sym/\∃z,rep[f.sym.toNat]?=some z)/\(∀a∈aJ S rep,∀f∈bZ S a,cR (eM rep a f))):=aH (by have h1:=HQ.out.1;rw[HSe.out]at h1⊢;exact HH.out.left h1)
 have k0:u2.cell? ⟨X,0,none⟩=some (.slice p.ra p.rn p.rc):=HU2.out.2.1.cell;have k1:u2.cell? ⟨X,1,none⟩=some (.slice p.la p.ln p.lc):=HU2.out.2.1.cell;have k2:u2.cell? ⟨X,2,none⟩=some (.slice p.aa p.an p.ac):=HU2.out.2.1.cell;go_wp2_with fail
 refine HYd.out.mono ?_;rintro e u3 ⟨Y,g,rfl,hyd,hY1,hg1,hb3⟩;obtain⟨L,hL⟩:=aE (aJ S rep);rw[<-hL]at hyd HLf;have HLe:=aH hL;have HU3:Hid (Below w.heap.size w u3/\YD p L u3 Y g/\RB u3 (X+1) (plV aA nA cA aV nV cV aW nW cW kk) 44):=aH ⟨after HU2.out.1 hb3,hyd,HU2.out.2.2.next hb3⟩;have HIc:Hid (Calls Tryz.prog 39 #[.pointer (some ⟨Y,0,none⟩),.int .i64 at'] u3 (bQ (.bool (eF S L at')) u3)):=aH (by rw[HSe.out];exact isCode_any p L Lm Y g at' u3 HLf.out.2.1 HLf.out.2.2.1 (HH.out.hs.next HU3.out.1) HU3.out.2.1);obtain⟨cb,hcb⟩:=aE (eF S L at');rw[<-hcb]at HIc;have HCb:=aH hcb;clear hyd hY1 hg1 hb3 k0 k1 k2 hL hcb;go_wp2_with fail
 refine HIc.out.mono ?_;rintro e u3' ⟨rfl,rfl⟩;cases cb
 ·have HNo:Hid (∀f,¬gX S rep live align v nA p.ln nW nV at' ref f):=aH fun f hf=>by have h1:=hf.2.2.2.1;rw[<-HLe.out,<-HCb.out]at h1;cases h1
  go_wp2_with fail
  go_ret2;exact .inr ⟨HNo.out,rfl,HU3.out.1⟩
 have hcd:=HCb.out.symm;unfold eF bC at hcd;simp only[Bool.and_eq_true,decide_eq_true_eq]at hcd;obtain⟨⟨ha0,haL⟩,haK⟩:=hcd;obtain⟨k,rfl⟩:∃k:Nat,at'=(k:Int):=⟨at'.toNat,by omega⟩;rw[Int.toNat_natCast]at haL haK;have hkn:k<p.n:=HLf.out.2.2.1 k haL;have hki:(k:Int)<(p.n:Int):=by omega
 have hn:=HLf.out.2.1;obtain⟨m,hm⟩:=aG (l:=Lm) (i:=k) (by have h9:=HH.out.hs.len;omega);obtain⟨ub,uo,hua,-,-⟩:=HH.out.hs.cells (by intro e;rw[e]at hm;cases hm);have HU:=aH (fun u (hu:Below w.heap.size w u)=>cO (by have:=HH.out.hs;rw[hua]at this;exact this) hu hm);have hrl:bZ S k=m.sc.rels:=by unfold bZ;rw[HSe.out,List.getElem?_map,hm];rfl
 have HRf:=aH (HH.out.hno m (eQ hm));have HRg:=aH ((HH.out.hg m (eQ hm)).rels);obtain⟨rr,hrr⟩:=aE m.sc.rels;obtain⟨rn2,hrn2⟩:=aE rr.length;obtain⟨ma,hma⟩:=aE m.ad;obtain⟨mc,hmc⟩:=aE m.cap;have k5:u3.cell? ⟨ub,uo+k*6+5,none⟩=some (.slice ma rn2 mc):=by rw[hma,hmc,hrn2,hrr];exact(HU.out u3 HU3.out.1).2.2.2.2.2
 rw[<-hrr]at hrl HRf HRg;rw[<-hma,<-hrn2]at HRf;have HRl:=aH hrl;have HRn:=aH hrn2;have HKL:=aH haL;have hrb:rn2*32<=reachBytes:=by rw[hrn2,hrr];exact HH.out.hb m (eQ hm)
 have hrni:(rn2:Int)<=9223372036854775807:=by unfold reachBytes at hrb;omega
 clear hm hrr hrn2 hma hmc hrl hrb haL haK ha0 hkn hn HU;rw[hua];by_cases c3:ref<0
 ·have HNo:Hid (∀f,¬gX S rep live align v nA p.ln nW nV (k:Int) ref f):=aH fun f hf=>by have h1:=hf.2.2.2.2.1;omega
  have t1:decide (ref < 0)=true:=decide_eq_true c3;go_wp2_with fail
  go_ret2;exact .inr ⟨HNo.out,rfl,HU3.out.1⟩
 obtain⟨j,rfl⟩:∃j:Nat,ref=(j:Int):=⟨ref.toNat,by omega⟩;by_cases c4:rn2<=j
 ·have HNo:Hid (∀f,¬gX S rep live align v nA p.ln nW nV (k:Int) (j:Int) f):=aH fun f hf=>by
   have h1:=hf.2.2.2.2.2.1;rw[Int.toNat_natCast,Int.toNat_natCast,HRl.out]at h1;have h2:=(eX h1).1;have:=HRn.out;omega
  have t1:((rn2:Int)<=(j:Int)):=by omega
  have t2:¬((j:Int)<(rn2:Int)):=by omega
  clear c4;go_wp2_with fail
  go_ret2;exact .inr ⟨HNo.out,rfl,HU3.out.1⟩
 have hjn:j<rn2:=by omega
 have hji:(j:Int)<(rn2:Int):=by omega
 have t5:¬((rn2:Int)<=(j:Int)):=by omega
 obtain⟨f,hf⟩:=aG (l:=rr) (i:=j) (by rw[<-HRn.out];exact hjn);obtain⟨mb,mo,hma,-,hmc⟩:=(HRf.out.next HU3.out.1).cells (by intro e;rw[e]at hf;cases hf);subst hma;have hjr:j<rr.length:=by rw[<-HRn.out];exact hjn
 obtain⟨f0,f1,f2,f3⟩:=dN (off:=mo) (k:=j) (t:=f) (fun i hi=>by have h1:=hmc j hjr i hi;rw[(eX hf).2]at h1;exact h1);have HFj:Hid ((bZ S k)[j]?=some f):=aH (by rw[HRl.out];exact hf);have HFg:=aH (HRg.out f (eQ hf));obtain⟨fp,fk,fs,fa⟩:=f;simp only[]at f0 f1 f2 f3;clear hmc hjr hjn hf c3 c4;by_cases c5:fk=2
 case neg=>
  have HNo:Hid (∀f,¬gX S rep live align v nA p.ln nW nV (k:Int) (j:Int) f):=aH fun f hf=>by
   have h1:=hf.2.2.2.2.2.1;rw[Int.toNat_natCast,Int.toNat_natCast,HFj.out]at h1;cases h1
   exact c5 hf.2.2.2.2.2.2
  have t6:(fk==2)=false:=by simp[c5]
  have t7:(fk !=2)=true:=by simp[c5]
  clear c5;go_wp2_with fail
  go_ret2;exact .inr ⟨HNo.out,rfl,HU3.out.1⟩
 subst c5;have HOk:Hid (gX S rep live align v nA p.ln nW nV (k:Int) (j:Int) ⟨fp,2,fs,fa⟩):=aH ⟨HC.out.1,HC.out.2,HQ.out,by rw[<-HLe.out,<-HCb.out],by omega,by rw[Int.toNat_natCast,Int.toNat_natCast];exact HFj.out,rfl⟩;obtain⟨hs0,z,hz⟩:=HLf.out.2.2.2.2.2.2.1 k HKL.out _ (eQ HFj.out);have HVy:Hid (eM rep k ⟨fp,2,fs,fa⟩=((k:Int),z,fa)):=aH (by unfold eM pJ;rw[hz];rfl);have HVe:Hid (Calls Tryz.prog 40 #[.pointer (some ⟨Y,0,none⟩),.int .i64 (k:Int),.agg #[.int .i64 fp,.int .i64 2,.int .i64 fs,.int .i64 fa]] u3 (aP (lG ((k:Int),z,fa)) u3)):=aH (veneer_any p L Y g (k:Int) ⟨fp,2,fs,fa⟩ rep z u3 HU3.out.2.1 (HH.out.hr.next HU3.out.1) hs0 hz);have hst:bC L z=true:=by
  obtain⟨sx,hsx,-,-,hsr⟩:=HLf.out.1.inn k HKL.out;have e:bZ S k=sx.rels:=by unfold bZ;rw[hsx]
  have h1:=(hsr ⟨fp,2,fs,fa⟩ (by rw[<-e];exact eQ HFj.out)).2.2;unfold pJ at h1;rw[hz]at h1;exact h1
 unfold bC at hst;simp only[Bool.and_eq_true,decide_eq_true_eq]at hst;obtain⟨zq,rfl⟩:∃zq:Nat,z=(zq:Int):=⟨z.toNat,by omega⟩;have HzL:Hid (zq∈L):=aH (by simpa using hst.2);clear hs0 hz hst;go_wp2_with fail
 refine HVe.out.mono ?_;rintro e u4 ⟨rfl,hb4⟩;have HU4:Hid (Below w.heap.size w u4/\YD p L u4 Y g/\RB u4 (X+1) (plV aA nA cA aV nV cV aW nW cW kk) 44):=aH ⟨after HU3.out.1 hb4,HU3.out.2.1.next hb4,HU3.out.2.2.next hb4⟩;obtain⟨X5,hX5⟩:=aE u4.heap.size;obtain⟨W5,hW5⟩:=aE (u4.alloc (.cells #[.int .i64 (k:Int),.int .i64 (zq:Int),.int .i64 fa] 80));have hb5:Below u4.heap.size u4 W5:=by rw[hW5];exact aC _ _
 have HU5:Hid (Below w.heap.size w W5/\YD p L W5 Y g/\RB W5 (X+1) (plV aA nA cA aV nV cV aW nW cW kk) 44/\RB W5 X5 #[.int .i64 (k:Int),.int .i64 (zq:Int),.int .i64 fa] 80):=aH ⟨after HU4.out.1 hb5,HU4.out.2.1.next hb5,HU4.out.2.2.next hb5,by rw[hW5,hX5];exact aQ _ _ _⟩;have HIx:=aH (vIndex_any W5 aV nV cV v ((k:Int),(zq:Int),fa) HA.out.2.2.2.2.1 (HA.out.2.1.next HU5.out.1));have p1:W5.cell? ⟨X+1,1,none⟩=some (.slice aV nV cV):=HU5.out.2.2.1.cell;have x0:W5.cell? ⟨X5,0,none⟩=some (.int .i64 (k:Int)):=HU5.out.2.2.2.cell;have x1:W5.cell? ⟨X5,1,none⟩=some (.int .i64 (zq:Int)):=HU5.out.2.2.2.cell;have x2:W5.cell? ⟨X5,2,none⟩=some (.int .i64 fa):=HU5.out.2.2.2.cell;rw[hW5]at p1 x0 x1 x2;rw[hX5]at x0 x1 x2;have HW5:=aH hW5.symm;have HX5:=aH hX5.symm;clear hb4 hb5 hW5 hX5 f0 f1 f2 f3 k5;go_wp2_with fail
 rw[HW5.out,HX5.out];refine HIx.out.mono ?_;rintro e u6 ⟨rfl,hb6⟩;have HU6:Hid (Below w.heap.size w u6/\YD p L u6 Y g/\RB u6 (X+1) (plV aA nA cA aV nV cV aW nW cW kk) 44/\RB u6 X5 #[.int .i64 (k:Int),.int .i64 (zq:Int),.int .i64 fa] 80):=aH ⟨after HU5.out.1 hb6,HU5.out.2.1.next hb6,HU5.out.2.2.1.next hb6,HU5.out.2.2.2.next hb6⟩;clear hb6 p1 x0 x1 x2;by_cases hin:((k:Int),(zq:Int),fa)∈v
 ·obtain⟨ix,hix⟩:=aE (v.idxOf ((k:Int),(zq:Int),fa));have hI:mH v ((k:Int),(zq:Int),fa)=(ix:Int):=by unfold mH;rw[if_pos hin,hix]
  have hil:ix<nW:=by
   have h1:=List.idxOf_lt_length_of_mem hin;have h2:=HA.out.2.1.len;have h3:=HC.out.2;omega
  have hili:(ix:Int)<(nW:Int):=by omega
  obtain⟨wv,hwv⟩:=aG (l:=Wl) (i:=ix) (by have:=HA.out.2.2.1.len;omega);obtain⟨wb,wo,hwa,-,-⟩:=HA.out.2.2.1.cells (by intro e;rw[e]at hwv;cases hwv);have hc9:=gC (by have:=HA.out.2.2.1;rw[hwa]at this;exact this) HU6.out.1 hwv;have p2:u6.cell? ⟨X+1,2,none⟩=some (.slice aW nW cW):=HU6.out.2.2.1.cell;rw[hwa]at p2;have HR:Hid (mY (aJ S rep) A Wl rep v (k:Int).toNat ⟨fp,2,fs,fa⟩=wv):=aH (by
   unfold mY;rw[Int.toNat_natCast,HVy.out,if_pos hin,<-hix,hwv];rfl)
  rw[hI];clear hin hix hI hil hwv hwa;go_wp2_with fail
  go_ret2;exact .inl ⟨_,HOk.out,by rw[HR.out];rfl,HU6.out.1⟩
 ·have hI:mH v ((k:Int),(zq:Int),fa)= -1:=by unfold mH;rw[if_neg hin]
  obtain⟨c0,hc0⟩:=aG (l:=A) (i:=L.idxOf zq) (by
   have h1:=List.idxOf_lt_length_of_mem HzL.out;have h2:=HA.out.1.len;have h3:=HC.out.1;have h4:=HLf.out.2.2.2.2.1.len;rw[List.length_map]at h4;omega)
  have hcb:=HA.out.2.2.2.2.2 c0 (eQ hc0);have HGo:=aH (goal_any p L Y g ((k:Int),(zq:Int),fa) aA nA cA A zq c0 u6 HU6.out.2.1 HLf.out.2.1 rfl HzL.out (HLf.out.2.2.1 zq HzL.out) (HA.out.1.next HU6.out.1) hc0 hcb.1 hcb.2 HFg.out.2.2.2);have HR:Hid (mY (aJ S rep) A Wl rep v (k:Int).toNat ⟨fp,2,fs,fa⟩=mZ L A ((k:Int),(zq:Int),fa)):=aH (by
   unfold mY;rw[Int.toNat_natCast,HVy.out,if_neg hin,HLe.out])
  have p0:u6.cell? ⟨X+1,0,none⟩=some (.slice aA nA cA):=HU6.out.2.2.1.cell;have x0:u6.cell? ⟨X5,0,none⟩=some (.int .i64 (k:Int)):=HU6.out.2.2.2.cell;have x1:u6.cell? ⟨X5,1,none⟩=some (.int .i64 (zq:Int)):=HU6.out.2.2.2.cell;have x2:u6.cell? ⟨X5,2,none⟩=some (.int .i64 fa):=HU6.out.2.2.2.cell;rw[hI];clear hin hI hc0 hcb;go_wp2_with fail
  refine HGo.out.mono ?_;rintro e u7 ⟨rfl,hb7⟩;have HU7:=aH (after HU6.out.1 hb7);clear hb7 p0 x0 x1 x2;go_wp2_with fail
  go_ret2;exact .inl ⟨_,HOk.out,by rw[HR.out];rfl,HU7.out⟩
end Go.Proofs.YtiohgaghmnpplaaGreatDoor
