/- What is left, and options, as arguments. veneer's law: VeneerStays. -/
import Derived.Test.YtiohgaghmnpplaaGreatDoorw5
import Derived.Test.YtiohgaghmnpplaaGreatDoorw1
import Derived.Lib.SmallJoins
import Derived.Test.YtiohgaghmnpplaaGreatDoorx7
set_option maxRecDepth 100000
set_option maxHeartbeats 6000000
set_option linter.unusedVariables false
set_option linter.unusedSimpArgs false
namespace Go.Proofs.YtiohgaghmnpplaaGreatDoor
open Go.ChangeShapes Go.WideShapes Go.Deep Go.RowKit
theorem open_intsK {H:Type} {encH:TypeId × Value->H} {W:World} {cell:Value} {fuel:Nat} {x:DataW H × List MemPlace} (hf:DataW.trod encH Tryz.prog W 0 (fun _=>true) true fuel 23 [cell]=some x):
  ∃ (a:Option Addr) (n c:Nat) (l:List Int),cell=.slice a n c/\n<=maxLen/\SL enZ 1 W W.heap.size a n l/\(a=none->n=0/\c=0):=by
 rcases Go.ChangeShapes.open_ints Tryz.underlying23 Tryz.underlying3 (by kernel_rfl) hf with ⟨hcs,hx⟩ | ⟨a,len,cap,zs,hcs,hb,hl,hm,hlen,hx,hc,hw⟩
 ·simp only [List.cons.injEq,and_true] at hcs
  subst hcs
  exact ⟨none,0,0,[],rfl,by unfold maxLen;omega,SL.nil _ _ _,fun _=>⟨rfl,rfl⟩⟩
 ·simp only [List.cons.injEq,and_true] at hcs
  subst hcs
  simp only [if_true] at hlen
  refine ⟨some a,len,cap,zs.take len,rfl,by omega,⟨by rw [List.length_take];omega,fun hne=>?_⟩,by simp⟩
  have hl0:0 < len:=by
   rcases Nat.eq_zero_or_pos len with h | h
   ·subst h;simp at hne
   ·exact h
  have h00:=hc 0 (by omega)
  have ea:a.add 0=a:=by simp [Addr.add]
  rw [ea] at h00
  have hal:a.block < W.heap.size:=cell_lt h00
  obtain ⟨b,off,el⟩:=a
  have hel':el=none:=cell_spot h00
  subst hel'
  refine ⟨b,off,rfl,hal,fun k hk j hj=>?_⟩
  have:j=0:=by omega
  subst this
  have hk':k < len/\k < zs.length:=by rw [List.length_take] at hk;omega
  have:=hc k hk'.2
  rw [add_none] at this
  rw [show off+k*1+0=off+k from by omega,this,List.getElem_take]
  simp [enZ,List.getD_eq_getElem?_getD,List.getElem?_eq_getElem hk'.2]
theorem open_Kept {H:Type} {encH:TypeId × Value->H} {W:World} {base:Nat} {v:Value} {d:DataW H} {p:List MemPlace}
  (hv:Value.okWide Tryz.prog W .any base 25 v) (h:DataW.Trod encH Tryz.prog W 0 (fun _=>true) true 25 v d p):
  ∃ (ra:Option Addr) (rn rc:Nat) (la:Option Addr) (ln lc:Nat) (aa:Option Addr) (an ac:Nat) (rep live align:List Int),v=.agg (kpV ra rn rc la ln lc aa an ac)/\(rn<=maxLen/\ln<=maxLen/\an<=maxLen)/\
   SL enZ 1 W W.heap.size ra rn rep/\SL enZ 1 W W.heap.size la ln live/\SL enZ 1 W W.heap.size aa an align/\(ra=none->rn=0/\rc=0)/\(la=none->ln=0/\lc=0)/\(aa=none->an=0/\ac=0):=by
 obtain ⟨c0,c1,c2,y0,y1,y2,m,rfl,-,-,h0,h1,h2⟩:=Go.Joins.open_agg3 Tryz.underlying25 (by kernel_rfl) (by kernel_rfl) hv h
 obtain ⟨ra,rn,rc,rep,rfl,a1,a2,a3⟩:=open_intsK h0
 obtain ⟨la,ln,lc,live,rfl,b1,b2,b3⟩:=open_intsK h1
 obtain ⟨aa,an,ac,align,rfl,d1,d2,d3⟩:=open_intsK h2
 exact ⟨ra,rn,rc,la,ln,lc,aa,an,ac,rep,live,align,rfl,⟨a1,b1,d1⟩,a2,b2,d2,a3,b3,d3⟩
theorem open_Options {H:Type} {encH:TypeId × Value->H} {W:World} {base:Nat} {v:Value} {d:DataW H} {p:List MemPlace}
  (hv:Value.okWide Tryz.prog W .any base 28 v) (h:DataW.Trod encH Tryz.prog W 0 (fun _=>true) true 28 v d p):
  ∃ t d s r:Int,v=.agg #[.int .u64 t,.int .u64 d,.int .u64 s,.int .i64 r]/\(0<=t/\t < 18446744073709551616)/\(0<=d/\d < 18446744073709551616)/\(0<=s/\s < 18446744073709551616)/\(-9223372036854775808<=r/\r<=9223372036854775807):=by
 obtain ⟨c0,c1,c2,c3,y0,y1,y2,y3,m,rfl,-,-,h0,h1,h2,h3⟩:=Go.Joins.open_agg4 Tryz.underlying28 (by kernel_rfl) (by kernel_rfl) hv h
 obtain ⟨x0,e0,-,w0⟩:=DataW.trod_int Tryz.underlying26 h0
 obtain ⟨x1,e1,-,w1⟩:=DataW.trod_int Tryz.underlying26 h1
 obtain ⟨x2,e2,-,w2⟩:=DataW.trod_int Tryz.underlying26 h2
 obtain ⟨x3,e3,-,w3⟩:=DataW.trod_int Tryz.underlying3 h3
 simp only [List.cons.injEq,and_true] at e0 e1 e2 e3
 subst e0 e1 e2 e3
 have b0:=bounds_u64 w0
 have b1:=bounds_u64 w1
 have b2:=bounds_u64 w2
 exact ⟨x0,x1,x2,x3,rfl,by omega,by omega,by omega,bounds_i64 w3⟩
end Go.Proofs.YtiohgaghmnpplaaGreatDoor
namespace Go.Proofs.YtiohgaghmnpplaaGreatDoor
open Go.ChangeShapes Go.WideShapes Go.Deep Go.RowKit
open Go.Proofs.YtiohgaghmnpplaaGreatDoor.Pl (encU encU_len)
section
variable {S:List Sc} {L:List Nat} {align rep:List Int} {t d r:Int}
theorem vAt_mono {i j:Nat} (h:i<=j):(vAt S L align rep t d r i).length<=(vAt S L align rep t d r j).length:=by
 obtain ⟨q,rfl⟩:∃ q,j=i+q:=⟨j - i,by omega⟩
 clear h
 induction q with
 | zero=>exact Nat.le_refl _
 | succ q ih=>
  show _<=(vAt S L align rep t d r (i+q) ++ wOf S L align rep t d r (vAt S L align rep t d r (i+q))).length
  rw [List.length_append];omega
theorem ends_zero {m:Nat} (h:EndsAt S L align rep t d r m):((wOf S L align rep t d r []).length=0 ↔ (vAt S L align rep t d r m).length=0)/\(wOf S L align rep t d r []).length<=(vAt S L align rep t d r m).length:=by
 have h0:vAt S L align rep t d r 0=[]:=rfl
 have h1:(vAt S L align rep t d r 1).length=(wOf S L align rep t d r []).length:=by
  show ([] ++ wOf S L align rep t d r []).length=_
  rw [List.nil_append]
 rcases Nat.eq_zero_or_pos m with rfl | hm
 ·have h2:=h.1
  rw [h0] at h2
  rw [h2,h0]
  exact ⟨Iff.rfl,Nat.le_refl _⟩
 ·have h3:=h.2 0 hm
  rw [h0] at h3
  have h4:0 < (wOf S L align rep t d r []).length:=Nat.pos_of_ne_zero fun e=>h3 (List.eq_nil_of_length_eq_zero e)
  have h5:=vAt_mono (S:=S) (L:=L) (align:=align) (rep:=rep) (t:=t) (d:=d) (r:=r) (show 1<=m by omega)
  omega
end
theorem sameU_self (a a':Option Addr) (n n' c c':Nat) (l:List Int) (w:World) (hn:n<=1000000) (hn':n'<=1000000) (h:SL encU 1 w w.heap.size a n l) (h':SL encU 1 w w.heap.size a' n' l):Calls Tryz.prog 15 #[.slice a n c,.slice a' n' c'] w (RetB (.bool true) w):=by
 have:=sameU_any a a' n n' c c' l l w hn hn' h h'
 rw [decide_eq_true rfl] at this
 exact this
theorem vStays (p:Yp) (Lm:List Ms) (rep live align:List Int) (t d st r:Int) (w:World) (h:LQ p Lm rep live align w) (t0:0<=t) (t1:t < 18446744073709551616) (d0:0<=d) (d1:d < 18446744073709551616) (s0:0<=st) (s1:st < 18446744073709551616):
  Calls Tryz.prog 6 #[.slice p.ua p.n p.uc,p.kp,.agg (opV t d st r)] w (RetB (.bool true) w):=by
 obtain ⟨S,hS⟩:∃ S,S=Lm.map (·.sc):=⟨_,rfl⟩
 obtain ⟨L,hL⟩:∃ L,L=standL S rep:=⟨_,rfl⟩
 have HFe:Hid (∀ u,Below w.heap.size w u->Calls Tryz.prog 7 #[.slice p.ua p.n p.uc,.agg #[.slice p.ra p.rn p.rc,.slice p.la p.ln p.lc,.slice p.aa p.an p.ac],.slice none 0 0] u (BoolP u)):=Lib.hid fun u hu=>few_any p Lm rep live align none 0 0 u (h.next hu)
 have HPl:Hid (∀ u,Below w.heap.size w u->Calls Tryz.prog 17 #[.slice p.ua p.n p.uc,.agg #[.slice p.ra p.rn p.rc,.slice p.la p.ln p.lc,.slice p.aa p.an p.ac],.agg #[.int .u64 t,.int .u64 d,.int .u64 st,.int .i64 r]] u (PlanP (Pl.goodB t d st r=true/\IsQ S rep live align) S L align rep t d r u)):=Lib.hid fun u hu=>by rw [hL,hS];exact Plan_any p Lm rep live align t d st r u (h.next hu) t0 t1 d0 d1 s0 s1
 have HGn:Hid (∀ u,Below w.heap.size w u->Calls Tryz.prog 14 #[] u (RetB (.bool true) u)):=Lib.hid fun u hu=>gone_is u (h.hT.next hu)
 have HWa:Hid (∀ (u:World) (va:Option Addr) (vn vc:Nat) (v:List Vn),Below w.heap.size w u->SL vnC 3 u u.heap.size va vn v->(∀ x ∈ v,GoodV x)->vn<=1000000->Calls Tryz.prog 10 #[.slice p.ua p.n p.uc,.agg #[.slice p.ra p.rn p.rc,.slice p.la p.ln p.lc,.slice p.aa p.an p.ac],.agg #[.int .u64 t,.int .u64 d,.int .u64 st,.int .i64 r],.slice va vn vc] u (WantsP (Pl.goodB t d st r=true/\IsQ S rep live align/\rightV S L [] v=true) (wOf S L align rep t d r v) u)):=Lib.hid fun u va vn vc v hu hv hg hn=>by
  rw [hL,hS];exact Wants_any p Lm rep live align t d st r va vn vc v u (h.next hu) t0 t1 d0 d1 s0 s1 hv hg hn
 have HLa:Hid (∀ (u:World) (va:Option Addr) (vn vc:Nat) (v:List Vn),Below w.heap.size w u->SL vnC 3 u u.heap.size va vn v->(∀ x ∈ v,GoodV x)->vn<=1000000->Calls Tryz.prog 8 #[.slice p.ua p.n p.uc,.agg #[.slice p.ra p.rn p.rc,.slice p.la p.ln p.lc,.slice p.aa p.an p.ac],.agg #[.int .u64 t,.int .u64 d,.int .u64 st,.int .i64 r],.slice va vn vc] u (LayP (Pl.goodB t d st r=true/\IsQ S rep live align/\rightV S L [] v=true) (placesV S L align t d v) (venL S L (placesV S L align t d v) v) u)):=Lib.hid fun u va vn vc v hu hv hg hn=>by
  rw [hL,hS];exact Lay_any p Lm rep live align t d st r va vn vc v u (h.next hu) t0 t1 d0 d1 s0 s1 hv hg hn
 have HLf:Hid (IsQ S rep live align->LeftQ S rep L align/\(∀ a ∈ L,∀ f ∈ relN S a,GoodV (vnOf rep a f))):=Lib.hid fun hq=>by
  rw [hL];rw [hS] at hq ⊢
  obtain ⟨a1,-,-,-,-,-,-,a2⟩:=h.left hq
  exact ⟨a1,a2⟩
 obtain ⟨X,hX⟩:∃ X,X=w.heap.size:=⟨_,rfl⟩
 obtain ⟨W,hW⟩:∃ W,W=(w.alloc (.cells #[.slice p.ra p.rn p.rc,.slice p.la p.ln p.lc,.slice p.aa p.an p.ac] 25)).alloc (.cells (opV t d st r) 28):=⟨_,rfl⟩
 have z1:(w.alloc (.cells #[.slice p.ra p.rn p.rc,.slice p.la p.ln p.lc,.slice p.aa p.an p.ac] 25)).heap.size=X+1:=by rw [World.size_alloc,hX]
 have HB:Hid (Below w.heap.size w W):=Lib.hid (by rw [hW];exact after (lit_below _ _) (lit_below _ _))
 have HK:Hid (RB W X #[.slice p.ra p.rn p.rc,.slice p.la p.ln p.lc,.slice p.aa p.an p.ac] 25):=Lib.hid (by rw [hW,hX];exact (rb_new _ _ _).next (lit_below _ _))
 have HO:Hid (RB W (X+1) (opV t d st r) 28):=Lib.hid (by rw [hW,<-z1];exact rb_new _ _ _)
 have HC:Hid (∀ u,Below W.heap.size W u->(u.cell? ⟨X,0,none⟩=some (.slice p.ra p.rn p.rc)/\u.cell? ⟨X,1,none⟩=some (.slice p.la p.ln p.lc)/\u.cell? ⟨X,2,none⟩=some (.slice p.aa p.an p.ac))/\u.cell? ⟨X+1,0,none⟩=some (.int .u64 t)/\u.cell? ⟨X+1,1,none⟩=some (.int .u64 d)/\u.cell? ⟨X+1,2,none⟩=some (.int .u64 st)/\u.cell? ⟨X+1,3,none⟩=some (.int .i64 r)):=Lib.hid fun u hu=>⟨⟨(HK.out.next hu).cell,(HK.out.next hu).cell,(HK.out.next hu).cell⟩,(rb_four (HO.out.next hu)).1⟩
 have HWe:=Lib.hid hW.symm
 have HXe:=Lib.hid hX.symm
 obtain ⟨⟨k0,k1,k2⟩,o0,o1,o2,o3⟩:=HC.out W (Below.refl _ _)
 rw [hW,hX] at k0 k1 k2
 clear hS hL h t0 t1 d0 d1 s0 s1 hX hW z1 HK HO o0 o1 o2 o3
 go_enter Tryz.func6,Tryz.ntmps6
 go_wp2_with fail
 rw [HWe.out,HXe.out]
 refine (HFe.out W HB.out).mono ?_
 rintro e u1 ⟨b,rfl,hb1⟩
 have HB1:=Lib.hid (And.intro hb1 (after HB.out hb1))
 clear hb1 k0 k1 k2
 cases b
 ·go_wp2_with fail
  go_ret
  exact ⟨rfl,HB1.out.2⟩
 obtain ⟨⟨k0,k1,k2⟩,o0,o1,o2,o3⟩:=HC.out u1 HB1.out.1
 go_wp2_with fail
 refine (HPl.out u1 HB1.out.2).mono ?_
 rintro e u2 hp
 clear k0 k1 k2 o0 o1 o2 o3
 rcases hp with ⟨hok,x,rfl,hpv,hb2⟩ | ⟨-,rfl,hb2⟩
 case inr=>
  obtain ⟨W3,hW3⟩:∃ W3,W3=u2.alloc (.cells planZ 44):=⟨_,rfl⟩
  have HB3:Hid (Below w.heap.size w W3):=Lib.hid (by rw [hW3];exact after HB1.out.2 (after hb2 (lit_below _ _)))
  have HW3:=Lib.hid hW3.symm
  clear hb2 hW3
  go_wp2_with fail
  rw [HW3.out]
  refine (HGn.out W3 HB3.out).mono ?_
  rintro e u4 ⟨rfl,hb4⟩
  have HB4:=Lib.hid (after HB3.out hb4)
  clear hb4
  go_wp2_with fail
  go_ret
  exact ⟨rfl,HB4.out⟩
 obtain ⟨m,aA,nA,cA,aV,nV,cV,aW,nW,cW,hE1,rfl,ho1,ho2,ho3⟩:=hpv
 obtain ⟨hLQ,hgc⟩:=HLf.out hok.2
 obtain ⟨v,hv⟩:∃ v,v=vAt S L align rep t d r m:=⟨_,rfl⟩
 obtain ⟨PP,hPP⟩:∃ PP,PP=placesV S L align t d v:=⟨_,rfl⟩
 obtain ⟨QQ,hQQ⟩:∃ QQ,QQ=venL S L PP v:=⟨_,rfl⟩
 have hvr:rightV S L [] v=true:=by rw [hv];exact vAt_right hLQ m
 have hvg:∀ x ∈ v,GoodV x:=by rw [hv];exact vAt_good hgc m
 have hvl:v.length<=16384:=by rw [hv];exact vAt_len hLQ m
 have hPl2:PP.length<=256:=by rw [hPP,places_len S L align t d v hLQ.al];exact hLQ.n256
 have hQl:QQ.length<=16384:=by rw [hQQ];unfold venL;rw [venR_len];exact hvl
 have hwv:wOf S L align rep t d r v=[]:=by rw [hv];exact hE1.1
 have hz:=ends_zero hE1
 rw [<-hv] at ho1 ho2 ho3 hz
 rw [<-hPP] at ho1 ho3
 rw [<-hQQ] at ho3
 obtain ⟨aA',cA',e9,hsA,-⟩:=SL.ofOwns encU_len (by decide) ho1
 injection e9 with e1 e2 e3
 subst e1;subst e3
 obtain ⟨aV',cV',e9,hsV,-⟩:=SL.ofOwns vn_len (by decide) ho2
 injection e9 with e4 e5 e6
 subst e4;subst e6
 obtain ⟨aW',cW',e9,hsW,-⟩:=SL.ofOwns encU_len (by decide) ho3
 injection e9 with e7 e8 e10
 subst e7;subst e10
 obtain ⟨mi,hmi⟩:∃ mi:Int,mi=((m+1:Nat):Int):=⟨_,rfl⟩
 rw [<-hmi]
 obtain ⟨X3,hX3⟩:∃ X3,X3=u2.heap.size:=⟨_,rfl⟩
 obtain ⟨W3,hW3⟩:∃ W3,W3=u2.alloc (.cells #[.slice aA nA cA,.slice aV nV cV,.slice aW nW cW,.int .i64 mi] 44):=⟨_,rfl⟩
 have hb3:Below u2.heap.size u2 W3:=by rw [hW3];exact lit_below _ _
 have HB3:=Lib.hid (And.intro (after HB1.out.1 (after hb2 hb3)) (after HB1.out.2 (after hb2 hb3)))
 have HS3:Hid (SL encU 1 W3 W3.heap.size aA nA PP/\SL vnC 3 W3 W3.heap.size aV nV v/\SL encU 1 W3 W3.heap.size aW nW QQ):=Lib.hid ⟨hsA.next hb3,hsV.next hb3,hsW.next hb3⟩
 have HP3:Hid (RB W3 X3 #[.slice aA nA cA,.slice aV nV cV,.slice aW nW cW,.int .i64 mi] 44):=Lib.hid (by rw [hW3,hX3];exact rb_new _ _ _)
 have HN:Hid ((nA<=256/\nV<=16384/\nW<=16384)/\nV=v.length):=Lib.hid (by have h1:=hsA.len;have h2:=hsV.len;have h3:=hsW.len;omega)
 have HF:=Lib.hid (And.intro hok (And.intro hvr (And.intro hvg (And.intro hwv (And.intro hPP (And.intro hQQ (And.intro hz hPl2)))))))
 have HF2:=Lib.hid (And.intro hPl2 hQl)
 obtain ⟨⟨k0,k1,k2⟩,o0,o1,o2,o3⟩:=HC.out W3 HB3.out.1
 obtain ⟨⟨x0,x1,x2,x3⟩,-⟩:=rb_four HP3.out
 rw [hW3] at k0 k1 k2 o0 o1 o2 o3 x0 x1 x2 x3
 rw [hX3] at x0 x1 x2 x3
 have HW3:=Lib.hid hW3.symm
 have HX3:=Lib.hid hX3.symm
 clear hE1 hok ho1 ho2 ho3 hLQ hgc hv hPP hQQ hvr hvg hvl hPl2 hQl hwv hz hsA hsV hsW e2 e5 e8 hmi hX3 hW3 hb2 hb3
 go_wp2_with fail
 rw [HW3.out,HX3.out]
 refine (HWa.out W3 aV nV cV v HB3.out.2 HS3.out.2.1 HF.out.2.2.1 (by have:=HN.out;omega)).mono ?_
 rintro e u4 hp
 clear k0 k1 k2 o0 o1 o2 o3 x0 x1 x2 x3
 rcases hp with ⟨-,a4,c4,rfl,ho4,hb4⟩ | ⟨hno,-,-⟩
 case inr=>exact absurd ⟨HF.out.1.1,HF.out.1.2,HF.out.2.1⟩ hno
 rw [HF.out.2.2.2.1]
 have HB4:=Lib.hid (And.intro (after HB3.out.1 hb4) (after HB3.out.2 hb4))
 have HS4:Hid (SL encU 1 u4 u4.heap.size aA nA PP/\SL vnC 3 u4 u4.heap.size aV nV v/\SL encU 1 u4 u4.heap.size aW nW QQ):=Lib.hid ⟨HS3.out.1.next hb4,HS3.out.2.1.next hb4,HS3.out.2.2.next hb4⟩
 have HP4:=Lib.hid (HP3.out.next hb4)
 clear ho4 hb4
 obtain ⟨⟨k0,k1,k2⟩,o0,o1,o2,o3⟩:=HC.out u4 HB4.out.1
 obtain ⟨⟨x0,x1,x2,x3⟩,-⟩:=rb_four HP4.out
 go_wp2_with fail
 refine (HLa.out u4 aV nV cV v HB4.out.2 HS4.out.2.1 HF.out.2.2.1 (by have:=HN.out;omega)).mono ?_
 rintro e u5 hp
 clear k0 k1 k2 o0 o1 o2 o3 x0 x1 x2 x3
 rcases hp with ⟨-,a5,c5,a6,c6,rfl,ho5,ho6,hb5⟩ | ⟨hno,-,-⟩
 case inr=>exact absurd ⟨HF.out.1.1,HF.out.1.2,HF.out.2.1⟩ hno
 rw [<-HF.out.2.2.2.2.1] at ho5 ho6 ⊢
 rw [<-HF.out.2.2.2.2.2.1] at ho6 ⊢
 obtain ⟨a5',c5',e9,hsB,-⟩:=SL.ofOwns encU_len (by decide) ho5
 injection e9 with e1 e2 e3
 subst e1;subst e3
 obtain ⟨a6',c6',e9,hsC,-⟩:=SL.ofOwns encU_len (by decide) ho6
 injection e9 with e4 e5 e6
 subst e4;subst e6
 have HB5:=Lib.hid (And.intro (after HB4.out.1 hb5) (after HB4.out.2 hb5))
 have HS5:Hid ((SL encU 1 u5 u5.heap.size aA nA PP/\SL vnC 3 u5 u5.heap.size aV nV v/\SL encU 1 u5 u5.heap.size aW nW QQ)/\SL encU 1 u5 u5.heap.size a5 PP.length PP/\SL encU 1 u5 u5.heap.size a6 QQ.length QQ):=Lib.hid ⟨⟨HS4.out.1.next hb5,HS4.out.2.1.next hb5,HS4.out.2.2.next hb5⟩,hsB,hsC⟩
 have HP5:=Lib.hid (HP4.out.next hb5)
 obtain ⟨n5,hn5⟩:∃ n5,n5=PP.length:=⟨_,rfl⟩
 obtain ⟨n6,hn6⟩:∃ n6,n6=QQ.length:=⟨_,rfl⟩
 have HN5:Hid (n5<=1000000/\n6<=1000000):=Lib.hid (by have:=HF2.out;omega)
 rw [<-hn5,<-hn6] at HS5 ⊢
 clear ho5 ho6 hb5 hsB hsC e2 e5 hn5 hn6
 obtain ⟨⟨k0,k1,k2⟩,o0,o1,o2,o3⟩:=HC.out u5 HB5.out.1
 obtain ⟨⟨x0,x1,x2,x3⟩,-⟩:=rb_four HP5.out
 go_wp2_with fail
 refine (HWa.out u5 none 0 0 [] HB5.out.2 (SL.nil _ _ _) (fun x hx=>by cases hx) (by omega)).mono ?_
 rintro e u6 hp
 clear k0 k1 k2 o0 o1 o2 o3 x0 x1 x2 x3
 rcases hp with ⟨-,a7,c7,rfl,ho7,hb6⟩ | ⟨hno,-,-⟩
 case inr=>exact absurd ⟨HF.out.1.1,HF.out.1.2,rfl⟩ hno
 obtain ⟨q,hq⟩:∃ q,q=(wOf S L align rep t d r []).length:=⟨_,rfl⟩
 have HQz:=Lib.hid HF.out.2.2.2.2.2.2.1
 rw [<-hq] at HQz ⊢
 have HB6:=Lib.hid (And.intro (after HB5.out.1 hb6) (after HB5.out.2 hb6))
 have HS6:Hid ((SL encU 1 u6 u6.heap.size aA nA PP/\SL vnC 3 u6 u6.heap.size aV nV v/\SL encU 1 u6 u6.heap.size aW nW QQ)/\SL encU 1 u6 u6.heap.size a5 n5 PP/\SL encU 1 u6 u6.heap.size a6 n6 QQ):=Lib.hid ⟨⟨HS5.out.1.1.next hb6,HS5.out.1.2.1.next hb6,HS5.out.1.2.2.next hb6⟩,HS5.out.2.1.next hb6,HS5.out.2.2.next hb6⟩
 have HP6:=Lib.hid (HP5.out.next hb6)
 clear ho7 hb6 hq
 go_wp2_with fail
 refine (HGn.out u6 HB6.out.2).mono ?_
 rintro e u7 ⟨rfl,hb7⟩
 have HB7:=Lib.hid (And.intro (after HB6.out.1 hb7) (after HB6.out.2 hb7))
 have HS7:Hid ((SL encU 1 u7 u7.heap.size aA nA PP/\SL vnC 3 u7 u7.heap.size aV nV v/\SL encU 1 u7 u7.heap.size aW nW QQ)/\SL encU 1 u7 u7.heap.size a5 n5 PP/\SL encU 1 u7 u7.heap.size a6 n6 QQ):=Lib.hid ⟨⟨HS6.out.1.1.next hb7,HS6.out.1.2.1.next hb7,HS6.out.1.2.2.next hb7⟩,HS6.out.2.1.next hb7,HS6.out.2.2.next hb7⟩
 have HP7:=Lib.hid (HP6.out.next hb7)
 have HSa:=Lib.hid (sameU_self a5 aA n5 nA c5 cA PP u7 HN5.out.1 (by have:=HN.out;omega) HS7.out.2.1 HS7.out.1.1)
 clear hb7
 obtain ⟨⟨x0,x1,x2,x3⟩,-⟩:=rb_four HP7.out
 go_wp2_with fail
 refine HSa.out.mono ?_
 rintro e u8 ⟨rfl,hb8⟩
 have HB8:=Lib.hid (after HB7.out.2 hb8)
 have HP8:=Lib.hid (HP7.out.next hb8)
 have HSb:=Lib.hid (sameU_self a6 aW n6 nW c6 cW QQ u8 HN5.out.2 (by have:=HN.out;omega) (HS7.out.2.2.next hb8) (HS7.out.1.2.2.next hb8))
 clear hb8 x0 x1 x2 x3
 obtain ⟨⟨x0,x1,x2,x3⟩,-⟩:=rb_four HP8.out
 go_wp2_with fail
 refine HSb.out.mono ?_
 rintro e u9 ⟨rfl,hb9⟩
 have HB9:=Lib.hid (after HB8.out hb9)
 have HP9:=Lib.hid (HP8.out.next hb9)
 clear hb9 x0 x1 x2 x3
 obtain ⟨⟨x0,x1,x2,x3⟩,-⟩:=rb_four HP9.out
 have hle:(q:Int)<=(nV:Int):=by have h1:=HQz.out.2;have h2:=HN.out.2;omega
 by_cases hq:q=0
 ·have hv0:nV=0:=by have h1:=HQz.out.1.1 hq;have h2:=HN.out.2;omega
  subst hq
  subst hv0
  clear hle
  go_wp2_with fail
  go_ret
  exact ⟨rfl,HB9.out⟩
 ·have t1:((q:Int) == 0)=false:=by simp;omega
  have t2:((nV:Int) == 0)=false:=by have h1:=HQz.out.1;have h2:=HN.out.2;simp;omega
  clear hq
  go_wp2_with fail
  go_ret
  exact ⟨rfl,HB9.out⟩
theorem VeneerStays_walk (w:World) (ua:Option Addr) (un uc:Nat) (Lm:List Ms) (hun:un<=maxLen) (hs:SL msC 6 w w.heap.size ua un Lm) (hno:Notes w w.heap.size Lm) (hg:∀ m ∈ Lm,GoodSc m.sc) (hb:∀ m ∈ Lm,m.sc.rels.length*32<=reachBytes)
  (ra:Option Addr) (rn rc:Nat) (la:Option Addr) (ln lc:Nat) (aa:Option Addr) (an ac:Nat) (rep live align:List Int) (hk:rn<=maxLen/\ln<=maxLen/\an<=maxLen) (hr:SL enZ 1 w w.heap.size ra rn rep) (hl:SL enZ 1 w w.heap.size la ln live) (ha:SL enZ 1 w w.heap.size aa an align) (zr:ra=none->rn=0/\rc=0) (zl:la=none->ln=0/\lc=0) (za:aa=none->an=0/\ac=0)
  (t d st r:Int) (ht:0<=t/\t < 18446744073709551616) (hd:0<=d/\d < 18446744073709551616) (hst:0<=st/\st < 18446744073709551616) (hR : -9223372036854775808<=r/\r<=9223372036854775807) (hT:TabP w):
  Calls Tryz.prog 6 #[.slice ua un uc,.agg (kpV ra rn rc la ln lc aa an ac),.agg #[.int .u64 t,.int .u64 d,.int .u64 st,.int .i64 r]] w (RetB (.bool true) w):=
 vStays ⟨ua,un,uc,ra,rn,rc,la,ln,lc,aa,an,ac⟩ Lm rep live align t d st r w ⟨hun,hs,hno,hg,hb,hr,hl,ha,hk.1,hk.2.1,hk.2.2,hT⟩ ht.1 ht.2 hd.1 hd.2 hst.1 hst.2
end Go.Proofs.YtiohgaghmnpplaaGreatDoor
