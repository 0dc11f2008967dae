/- veneer's law: VeneerNear. -/
import Derived.Test.YtiohgaghmnpplaaGreatDoorx8
set_option maxRecDepth 100000
set_option maxHeartbeats 6000000
set_option linter.unusedVariables false
set_option linter.unusedSimpArgs false
namespace Go.Proofs.YtiohgaghmnpplaaGreatDoor
open Go.ChangeShapes Go.WideShapes Go.Deep Go.RowKit
open Go.Proofs.YtiohgaghmnpplaaGreatDoor.Pl (encU encU_len nearB)
theorem rels_cov {kind:Int} {d:List UInt8}:∀ (l:List Rl) (e:Int),relsR kind d e l=true->∀ r ∈ l,covR kind d r=true
 | [],_,_,r,hr=>by cases hr
 | x :: t,e,h,r,hr=>by
  unfold relsR at h
  split at h
  ·cases h
  ·rename_i hb
   rcases List.mem_cons.1 hr with rfl | hr
   ·cases hc:covR kind d r with
    | true=>rfl
    | false=>exact absurd (.inr (.inr (.inr hc))) hb
   ·exact rels_cov t _ h r hr
theorem call_code {S:List Sc} (hu:unitsR S=true) {k:Nat} {f:Rl} (hf:f ∈ relN S k) (h2:f.kind=2):kindN S k=1:=by
 unfold relN at hf
 cases hs:S[k]? with
 | none=>rw [hs] at hf;cases hf
 | some s=>
  rw [hs] at hf
  have h1:secR s=true:=by
   unfold unitsR at hu
   simp only [Bool.and_eq_true,List.all_eq_true] at hu
   have:=hu.2 s (List.mem_of_getElem? hs)
   unfold unitOk at this
   simp only [Bool.and_eq_true] at this
   exact this.1
  unfold secR at h1
  simp only [Bool.and_eq_true] at h1
  have h3:=rels_cov _ _ h1.2 f hf
  unfold covR at h3
  rw [if_neg (by omega)] at h3
  simp only [Bool.and_eq_true,beq_iff_eq] at h3
  unfold kindN;rw [hs];exact h3.1
theorem callsI_full {S:List Sc} (hu:unitsR S=true) (k:Nat):callsI S k (relN S k).length=callsK S k:=by
 by_cases h:kindN S k=1
 ·exact callsI_all h
 ·unfold callsI callsK
  rw [if_neg h,List.take_length]
  have:(relN S k).filter (fun r=>decide (r.kind=2))=[]:=by
   rw [List.filter_eq_nil_iff]
   intro f hf hd
   exact h (call_code hu hf (of_decide_eq_true hd))
  rw [this];rfl
theorem callsI_count {S:List Sc} {k i:Nat} {r:Rl} (h:(relN S k)[i]?=some r):(callsI S k (i+1)).length=(callsI S k i).length+(if r.kind=2 then 1 else 0):=by
 rw [callsI_snoc h,List.length_append]
 split <;> rfl
section
variable {S:List Sc} {L:List Nat} {align rep:List Int} {t d r:Int}
theorem plan_near (hQ:LeftQ S rep L align) {m:Nat} (hE:EndsAt S L align rep t d r m) (t0:0<=t) (t1:t<=4611686018427387904) (d0:0<=d) (d1:d<=4611686018427387904) (r0:8192<=r) (r1:r<=134217724) {x:Nat} {f:Rl} (hx:x ∈ L) (hf:f ∈ relN S x) (hk:f.kind=2) (hc:kindN S x=1):
  nearB ((plcN L (placesV S L align t d (vAt S L align rep t d r m)) (x:Int)+f.pos) % 18446744073709551616) (goalR L (placesV S L align t d (vAt S L align rep t d r m)) (venL S L (placesV S L align t d (vAt S L align rep t d r m)) (vAt S L align rep t d r m)) rep (vAt S L align rep t d r m) x f) r=true:=by
 obtain ⟨v,hv⟩:∃ v,v=vAt S L align rep t d r m:=⟨_,rfl⟩
 have hvr:rightV S L [] v=true:=by rw [hv];exact vAt_right hQ m
 have hw:wOf S L align rep t d r v=[]:=by rw [hv];exact hE.1
 rw [<-hv]
 obtain ⟨v1,v2,v3⟩:=rightV_of.1 hvr
 have hP:=places_bd hQ v3 t0 t1 d0 d1
 unfold goalR
 by_cases hin:vnOf rep x f ∈ v
 ·rw [if_pos hin]
  have hi:v[v.idxOf (vnOf rep x f)]?=some (vnOf rep x f):=by
   have h1:=List.idxOf_lt_length_of_mem hin
   rw [List.getElem?_eq_getElem h1,List.getElem_idxOf]
  have h2:=venR_at (S:=S) (live:=L) (P:=placesV S L align t d v) v [] _ _ hi
  unfold venL
  rw [h2]
  have h3:=cnt_ahead hi (v3 _)
  rw [List.nil_append]
  have h4:=ven_near hQ hP r0 r1 hx hf h3
  exact h4
 ·rw [if_neg hin]
  obtain ⟨-,-,h1⟩:=wants_inv S L (placesV S L align t d v) rep r v
  have h2:(x,f) ∈ callsL S L:=calls_mem.2 ⟨hx,hc,hf,hk⟩
  rcases h1 _ h2 with h3 | h3 | h3
  ·exact h3
  ·exact absurd h3 hin
  ·unfold wOf at hw
   rw [hw] at h3
   cases h3
theorem goalR_bd (hQ:LeftQ S rep L align) {m:Nat} (t0:0<=t) (t1:t<=4611686018427387904) (d0:0<=d) (d1:d<=4611686018427387904) (x:Nat) (f:Rl):
  0<=goalR L (placesV S L align t d (vAt S L align rep t d r m)) (venL S L (placesV S L align t d (vAt S L align rep t d r m)) (vAt S L align rep t d r m)) rep (vAt S L align rep t d r m) x f/\goalR L (placesV S L align t d (vAt S L align rep t d r m)) (venL S L (placesV S L align t d (vAt S L align rep t d r m)) (vAt S L align rep t d r m)) rep (vAt S L align rep t d r m) x f < 18446744073709551616:=by
 obtain ⟨v,hv⟩:∃ v,v=vAt S L align rep t d r m:=⟨_,rfl⟩
 have hvr:rightV S L [] v=true:=by rw [hv];exact vAt_right hQ m
 rw [<-hv]
 obtain ⟨v1,v2,v3⟩:=rightV_of.1 hvr
 have hP:=places_bd hQ v3 t0 t1 d0 d1
 unfold goalR
 by_cases hin:vnOf rep x f ∈ v
 ·rw [if_pos hin]
  have hi:v[v.idxOf (vnOf rep x f)]?=some (vnOf rep x f):=by
   have h1:=List.idxOf_lt_length_of_mem hin
   rw [List.getElem?_eq_getElem h1,List.getElem_idxOf]
  have h2:=venR_at (S:=S) (live:=L) (P:=placesV S L align t d v) v [] _ _ hi
  unfold venL
  rw [h2,List.nil_append]
  have h3:=cnt_ahead hi (v3 _)
  have hcd:=(v2 _ hin).1
  unfold codeB standB at hcd
  simp only [Bool.and_eq_true,decide_eq_true_eq] at hcd
  obtain ⟨e1,-⟩:=end_le hQ hcd.1.2
  obtain ⟨p0,p1⟩:=plc_bd (live:=L) hP (vnOf rep x f).1
  show 0<=plcN L _ _+_/\plcN L _ _+_ < _
  omega
 ·rw [if_neg hin]
  unfold goalN;omega
end
theorem vNear (ua:Option Addr) (n uc:Nat) (ra:Option Addr) (rn rc:Nat) (la:Option Addr) (ln lc:Nat) (aa:Option Addr) (an ac:Nat) (Lm:List Ms) (rep live align:List Int) (t d st r:Int) (w:World) (h:LQ ⟨ua,n,uc,ra,rn,rc,la,ln,lc,aa,an,ac⟩ Lm rep live align w) (t0:0<=t) (t1:t < 18446744073709551616) (d0:0<=d) (d1:d < 18446744073709551616) (s0:0<=st) (s1:st < 18446744073709551616):
  Calls Tryz.prog 5 #[.slice ua n uc,.agg #[.slice ra rn rc,.slice la ln lc,.slice aa an ac],.agg (opV t d st r)] w (RetB (.bool true) w):=by
 obtain ⟨S,hS⟩:∃ S,S=Lm.map (·.sc):=⟨_,rfl⟩
 obtain ⟨L,hL⟩:∃ L,L=standL S rep:=⟨_,rfl⟩
 have HFe:Hid (∀ u,Below w.heap.size w u->Calls Tryz.prog 7 #[.slice ua n uc,.agg #[.slice ra rn rc,.slice la ln lc,.slice aa an ac],.slice none 0 0] u (BoolP u)):=Lib.hid fun u hu=>few_any ⟨ua,n,uc,ra,rn,rc,la,ln,lc,aa,an,ac⟩ Lm rep live align none 0 0 u (h.next hu)
 have HPl:Hid (∀ u,Below w.heap.size w u->Calls Tryz.prog 17 #[.slice ua n uc,.agg #[.slice ra rn rc,.slice la ln lc,.slice aa an ac],.agg #[.int .u64 t,.int .u64 d,.int .u64 st,.int .i64 r]] u (PlanP (Pl.goodB t d st r=true/\IsQ S rep live align) S L align rep t d r u)):=Lib.hid fun u hu=>by rw [hL,hS];exact Plan_any ⟨ua,n,uc,ra,rn,rc,la,ln,lc,aa,an,ac⟩ Lm rep live align t d st r u (h.next hu) t0 t1 d0 d1 s0 s1
 have HGn:Hid (∀ u,Below w.heap.size w u->Calls Tryz.prog 14 #[] u (RetB (.bool true) u)):=Lib.hid fun u hu=>gone_is u (h.hT.next hu)
 have HIs:Hid (∀ u,Below w.heap.size w u->Calls Tryz.prog 22 #[.slice ua n uc,.agg #[.slice ra rn rc,.slice la ln lc,.slice aa an ac]] u (IffP (IsQ S rep live align) u)):=Lib.hid fun u hu=>by rw [hS];exact (h.next hu).is
 obtain ⟨gb,hgb⟩:∃ gb,gb=Pl.goodB t d st r:=⟨_,rfl⟩
 have HGo:Hid (∀ u,Calls Tryz.prog 23 #[.agg #[.int .u64 t,.int .u64 d,.int .u64 st,.int .i64 r]] u (RetB (.bool gb) u)):=Lib.hid fun u=>by rw [hgb];exact Pl.good_any t d st r u t0 t1 d0 d1 s0 s1
 have HGb:=Lib.hid hgb
 have HH:=Lib.hid h
 have HSe:=Lib.hid hS
 have HLe:=Lib.hid hL
 have HT0:=Lib.hid (And.intro t0 d0)
 have HLf:Hid (IsQ S rep live align->LeftQ S rep L align/\(∀ a ∈ L,∀ f ∈ relN S a,GoodV (vnOf rep a f))/\(∀ x ∈ L,x < n)/\n<=256/\SL enZ 1 w w.heap.size la ln (L.map Int.ofNat)):=Lib.hid fun hq=>by
  rw [hL];rw [hS] at hq ⊢
  obtain ⟨a1,a3,a4,-,a5,-,-,a2⟩:=h.left hq
  exact ⟨a1,a2,a4,a3,a5⟩
 obtain ⟨X,hX⟩:∃ X,X=w.heap.size:=⟨_,rfl⟩
 obtain ⟨W,hW⟩:∃ W,W=(w.alloc (.cells #[.slice ra rn rc,.slice la ln lc,.slice aa an ac] 25)).alloc (.cells (opV t d st r) 28):=⟨_,rfl⟩
 have z1:(w.alloc (.cells #[.slice ra rn rc,.slice la ln lc,.slice aa an ac] 25)).heap.size=X+1:=by rw [World.size_alloc,hX]
 have HB:Hid (Below w.heap.size w W):=Lib.hid (by rw [hW];exact after (lit_below _ _) (lit_below _ _))
 have HK:Hid (RB W X #[.slice ra rn rc,.slice la ln lc,.slice aa an ac] 25):=Lib.hid (by rw [hW,hX];exact (rb_new _ _ _).next (lit_below _ _))
 have HO:Hid (RB W (X+1) (opV t d st r) 28):=Lib.hid (by rw [hW,<-z1];exact rb_new _ _ _)
 have HC:Hid (∀ u,Below W.heap.size W u->(u.cell? ⟨X,0,none⟩=some (.slice ra rn rc)/\u.cell? ⟨X,1,none⟩=some (.slice la ln lc)/\u.cell? ⟨X,2,none⟩=some (.slice aa an ac))/\u.cell? ⟨X+1,0,none⟩=some (.int .u64 t)/\u.cell? ⟨X+1,1,none⟩=some (.int .u64 d)/\u.cell? ⟨X+1,2,none⟩=some (.int .u64 st)/\u.cell? ⟨X+1,3,none⟩=some (.int .i64 r)):=Lib.hid fun u hu=>⟨⟨(HK.out.next hu).cell,(HK.out.next hu).cell,(HK.out.next hu).cell⟩,(rb_four (HO.out.next hu)).1⟩
 have HWe:=Lib.hid hW.symm
 have HXe:=Lib.hid hX.symm
 obtain ⟨⟨k0,k1,k2⟩,o0,o1,o2,o3⟩:=HC.out W (Below.refl _ _)
 rw [hW,hX] at k0 k1 k2
 clear hS hL h hgb t0 t1 d0 d1 s0 s1 hX hW z1 HK HO o0 o1 o2 o3
 go_enter Tryz.func5,Tryz.ntmps5
 go_wp2_with fail
 rw [HWe.out,HXe.out]
 refine (HFe.out W HB.out).mono ?_
 rintro e u1 ⟨b,rfl,hb1⟩
 have HB1:=Lib.hid (And.intro hb1 (after HB.out hb1))
 clear hb1 k0 k1 k2
 cases b
 ·go_wp2_with fail
  go_ret
  exact ⟨rfl,HB1.out.2⟩
 obtain ⟨⟨k0,k1,k2⟩,o0,o1,o2,o3⟩:=HC.out u1 HB1.out.1
 go_wp2_with fail
 refine (HPl.out u1 HB1.out.2).mono ?_
 rintro e u2 hp
 clear k0 k1 k2 o0 o1 o2 o3
 rcases hp with ⟨hok,x,rfl,hpv,hb2⟩ | ⟨hno,rfl,hb2⟩
 case inr=>
  obtain ⟨W3,hW3⟩:∃ W3,W3=u2.alloc (.cells planZ 44):=⟨_,rfl⟩
  have HB3:Hid (Below w.heap.size w W3/\Below W.heap.size W W3):=Lib.hid (by rw [hW3];exact ⟨after HB1.out.2 (after hb2 (lit_below _ _)),after HB1.out.1 (after hb2 (lit_below _ _))⟩)
  have HW3:=Lib.hid hW3.symm
  have HNo:=Lib.hid hno
  clear hb2 hW3 hno
  go_wp2_with fail
  rw [HW3.out]
  refine (HGn.out W3 HB3.out.1).mono ?_
  rintro e u4 ⟨rfl,hb4⟩
  have HB4:Hid (Below w.heap.size w u4/\Below W.heap.size W u4):=Lib.hid ⟨after HB3.out.1 hb4,after HB3.out.2 hb4⟩
  clear hb4
  obtain ⟨⟨k0,k1,k2⟩,o0,o1,o2,o3⟩:=HC.out u4 HB4.out.2
  go_wp2_with fail
  refine (HIs.out u4 HB4.out.1).mono ?_
  rintro e u5 ⟨b,rfl,hbq,hb5⟩
  have HBq:=Lib.hid hbq
  have HB5:Hid (Below w.heap.size w u5/\Below W.heap.size W u5):=Lib.hid ⟨after HB4.out.1 hb5,after HB4.out.2 hb5⟩
  clear hbq hb5 k0 k1 k2 o0 o1 o2 o3
  cases b
  ·go_wp2_with fail
   go_ret
   exact ⟨rfl,HB5.out.1⟩
  have hgf:gb=false:=by
   cases hg:gb with
   | false=>rfl
   | true=>exact absurd ⟨by rw [<-HGb.out];exact hg,HBq.out.1 rfl⟩ HNo.out
  have HGo5:=Lib.hid (HGo.out u5)
  rw [hgf] at HGo5
  obtain ⟨⟨k0,k1,k2⟩,o0,o1,o2,o3⟩:=HC.out u5 HB5.out.2
  clear hgf
  go_wp2_with fail
  refine HGo5.out.mono ?_
  rintro e u6 ⟨rfl,hb6⟩
  have HB6:=Lib.hid (after HB5.out.1 hb6)
  clear hb6
  go_wp2_with fail
  go_ret
  exact ⟨rfl,HB6.out⟩
 obtain ⟨m,aA,nA,cA,aV,nV,cV,aW,nW,cW,hE1,rfl,ho1,ho2,ho3⟩:=hpv
 obtain ⟨hLQ,hgc,hlt,hn,hla⟩:=HLf.out hok.2
 have HEm:=Lib.hid hE1
 obtain ⟨v,hv⟩:∃ v,v=vAt S L align rep t d r m:=⟨_,rfl⟩
 obtain ⟨PP,hPP⟩:∃ PP,PP=placesV S L align t d v:=⟨_,rfl⟩
 obtain ⟨QQ,hQQ⟩:∃ QQ,QQ=venL S L PP v:=⟨_,rfl⟩
 have hvr:rightV S L [] v=true:=by rw [hv];exact vAt_right hLQ m
 have hvg:∀ x ∈ v,GoodV x:=by rw [hv];exact vAt_good hgc m
 have hvl:v.length<=16384:=by rw [hv];exact vAt_len hLQ m
 have hPl2:PP.length<=256:=by rw [hPP,places_len S L align t d v hLQ.al];exact hLQ.n256
 have hQl:QQ.length<=16384:=by rw [hQQ];unfold venL;rw [venR_len];exact hvl
 have hwv:wOf S L align rep t d r v=[]:=by rw [hv];exact hE1.1
 have hz:=ends_zero hE1
 rw [<-hv] at ho1 ho2 ho3 hz
 rw [<-hPP] at ho1 ho3
 rw [<-hQQ] at ho3
 obtain ⟨aA',cA',e9,hsA,-⟩:=SL.ofOwns encU_len (by decide) ho1
 injection e9 with e1 e2 e3
 subst e1;subst e3
 obtain ⟨aV',cV',e9,hsV,-⟩:=SL.ofOwns vn_len (by decide) ho2
 injection e9 with e4 e5 e6
 subst e4;subst e6
 obtain ⟨aW',cW',e9,hsW,-⟩:=SL.ofOwns encU_len (by decide) ho3
 injection e9 with e7 e8 e10
 subst e7;subst e10
 obtain ⟨mi,hmi⟩:∃ mi:Int,mi=((m+1:Nat):Int):=⟨_,rfl⟩
 have HMi:=Lib.hid hmi
 have HMl:=Lib.hid (ends_le hE1)
 have HVe:=Lib.hid hv
 have HLa:=Lib.hid (And.intro hla (And.intro hn hlt))
 have HLQ:=Lib.hid hLQ
 have HGc:=Lib.hid hgc
 rw [<-hmi]
 obtain ⟨X3,hX3⟩:∃ X3,X3=u2.heap.size:=⟨_,rfl⟩
 obtain ⟨W3,hW3⟩:∃ W3,W3=u2.alloc (.cells #[.slice aA nA cA,.slice aV nV cV,.slice aW nW cW,.int .i64 mi] 44):=⟨_,rfl⟩
 have hb3:Below u2.heap.size u2 W3:=by rw [hW3];exact lit_below _ _
 have HB3:=Lib.hid (And.intro (after HB1.out.1 (after hb2 hb3)) (after HB1.out.2 (after hb2 hb3)))
 have HS3:Hid (SL encU 1 W3 W3.heap.size aA nA PP/\SL vnC 3 W3 W3.heap.size aV nV v/\SL encU 1 W3 W3.heap.size aW nW QQ):=Lib.hid ⟨hsA.next hb3,hsV.next hb3,hsW.next hb3⟩
 have HP3:Hid (RB W3 X3 #[.slice aA nA cA,.slice aV nV cV,.slice aW nW cW,.int .i64 mi] 44):=Lib.hid (by rw [hW3,hX3];exact rb_new _ _ _)
 have HNl:Hid (nA=ln/\ln=L.length):=Lib.hid (by
  have h3:PP.length=L.length:=by rw [hPP,places_len S L align t d v hLQ.al]
  have h1:=hsA.len
  have h2:=hla.len
  rw [List.length_map] at h2
  omega)
 have HN:Hid ((nA<=256/\nV<=16384/\nW<=16384)/\nV=v.length):=Lib.hid (by have h1:=hsA.len;have h2:=hsV.len;have h3:=hsW.len;omega)
 have HF:=Lib.hid (And.intro hok (And.intro hvr (And.intro hvg (And.intro hwv (And.intro hPP (And.intro hQQ (And.intro hz hPl2)))))))
 have HPe:=Lib.hid hPP
 have HQe:=Lib.hid hQQ
 have HPn:Hid (PP.length=L.length):=Lib.hid (by rw [hPP,places_len S L align t d v hLQ.al])
 have HPb:Hid (∀ x ∈ PP,0<=x/\x < 18446744073709551616):=Lib.hid (by
  have h4:=good_bd hok.1
  have h5:=places_bd hLQ (rightV_of.1 hvr).2.2 HT0.out.1 h4.1 HT0.out.2 h4.2.1
  intro x hx;rw [hPP] at hx;have:=h5 x hx;omega)
 have HF2:=Lib.hid (And.intro hPl2 hQl)
 obtain ⟨⟨k0,k1,k2⟩,o0,o1,o2,o3⟩:=HC.out W3 HB3.out.1
 obtain ⟨⟨x0,x1,x2,x3⟩,-⟩:=rb_four HP3.out
 rw [hW3] at k0 k1 k2 o0 o1 o2 o3 x0 x1 x2 x3
 rw [hX3] at x0 x1 x2 x3
 have HW3:=Lib.hid hW3.symm
 have HX3:=Lib.hid hX3.symm
 clear hE1 hok hla hn hlt ho1 ho2 ho3 hLQ hgc hv hPP hQQ hvr hvg hvl hPl2 hQl hwv hz hsA hsV hsW e2 e5 e8 hmi hX3 hW3 hb2 hb3
 have hnl:((nA:Int) != (ln:Int))=false:=by have:=HNl.out;simp;omega
 go_wp2_with fail
 rw [HW3.out,HX3.out]
 clear hnl k0 k1 k2 o0 o1 o2 o3 x0 x1 x2 x3
 have HUr:Hid (unitsR S=true):=Lib.hid HF.out.1.2.1
 have HGR:=Lib.hid (good_bd HF.out.1.1)
 have HR64:Hid (∀ a ∈ L,(relN S a).length<=64):=Lib.hid fun a ha=>by obtain ⟨s,h1,-,h2,-⟩:=HLQ.out.inn a ha;unfold relN;rw [h1];exact h2
 have HLn:Hid (ln<=256):=Lib.hid (by rw [HNl.out.2];exact HLQ.out.n256)
 have HCt:Hid (∀ k,(callsL S (L.take k)).length<=16384):=Lib.hid fun k=>by
  have h1:=callsL_le (S:=S) (L.take k) (fun a ha=>HR64.out a (List.mem_of_mem_take ha))
  have h2:(L.take k).length<=256:=by rw [List.length_take];have:=HLQ.out.n256;omega
  omega
 go_loopw [9,10] (fun cv iv wr=>∃ (k:Nat) (c:Int) (wx:World),wx=wr/\k<=ln/\cv=.int .i64 c/\iv=.int .i64 k/\Hid (c=((callsL S (L.take k)).length:Nat))/\Hid (Below W3.heap.size W3 wx)) (fun _ iv _=>ln - (intOf iv).toNat)
 case atStart=>exact ⟨0,0,_,rfl,by omega,rfl,rfl,Lib.hid rfl,Lib.hid (Below.refl _ _)⟩
 case round=>
  obtain ⟨k,c,wx,rfl,hk,rfl,rfl,HCc,HBx⟩:=hrel
  obtain ⟨⟨k0,k1,k2⟩,o0,o1,o2,o3⟩:=HC.out wx (after HB3.out.1 HBx.out)
  by_cases hlt:k < ln
  ·have hlti:(k:Int) < (ln:Int):=by omega
   have HLT:=Lib.hid hlt
   have HWk:Hid (wrap64 ((k:Int)+1)=(k:Int)+1):=Lib.hid (by have:=HLn.out;unfold wrap64;omega)
   obtain ⟨x,hx⟩:∃ x,L[k]?=some x:=⟨_,List.getElem?_eq_getElem (by rw [<-HNl.out.2];exact hlt)⟩
   have hxL:=List.mem_of_getElem? hx
   have hxn:x < n:=HLa.out.2.2 x hxL
   have hn256:n<=256:=HLa.out.2.1
   have hxi:(x:Int) < (n:Int):=by omega
   have hxge:¬ ((n:Int)<=(x:Int)):=by omega
   have hx0:¬ ((x:Int) < 0):=by omega
   obtain ⟨lb,lo,hla,-,-⟩:=HLa.out.1.cells (by intro e;rw [List.map_eq_nil_iff] at e;rw [e] at hx;cases hx)
   subst hla
   have HLc:=Lib.hid (fun u (hu:Below w.heap.size w u)=>ints_cells HLa.out.1 hu (show (L.map Int.ofNat)[k]?=some (x:Int) by rw [List.getElem?_map,hx];rfl))
   have l0:wx.cell? ⟨lb,lo+k,none⟩=some (.int .i64 (x:Int)):=HLc.out wx (after HB3.out.2 HBx.out)
   have HXk:=Lib.hid hx
   have HXL:=Lib.hid hxL
   clear hk hlt hx hxL hxn hn256
   go_wp2_with fail
   obtain ⟨m2,hm⟩:∃ m2,Lm[x]?=some m2:=⟨_,List.getElem?_eq_getElem (by have h9:=HH.out.hs.len;have:=hxi;simp only [] at h9;omega)⟩
   obtain ⟨ub,uo,hua,-,-⟩:=HH.out.hs.cells (by intro e;rw [e] at hm;cases hm)
   (try simp only [] at hua)
   subst hua
   have HU:=Lib.hid (fun u (hu:Below w.heap.size w u)=>unit_cells HH.out.hs hu hm)
   have hrl:relN S x=m2.sc.rels:=by unfold relN;rw [HSe.out,List.getElem?_map,hm];rfl
   have HRf:=Lib.hid (HH.out.hno m2 (List.mem_of_getElem? hm))
   obtain ⟨rr,hrr⟩:∃ rr,rr=m2.sc.rels:=⟨_,rfl⟩
   obtain ⟨q2,hq2⟩:∃ z,z=rr.length:=⟨_,rfl⟩
   obtain ⟨ma,hma⟩:∃ z,z=m2.ad:=⟨_,rfl⟩
   obtain ⟨mc,hmc⟩:∃ z,z=m2.cap:=⟨_,rfl⟩
   have HR5:Hid (∀ u,Below w.heap.size w u->u.cell? ⟨ub,uo+x*6+5,none⟩=some (.slice ma q2 mc)):=Lib.hid fun u hu=>by rw [hma,hmc,hq2,hrr];exact (HU.out u hu).2.2.2.2.2
   rw [<-hrr] at hrl HRf
   rw [<-hma,<-hq2] at HRf
   have HRl:=Lib.hid hrl
   have HRn:=Lib.hid hq2
   have HR64x:Hid (q2<=64):=Lib.hid (by rw [hq2,<-hrl];exact HR64.out x HXL.out)
   clear hm hrr hq2 hma hmc hrl HU
   have HC0:Hid (c=((callsL S (L.take k)).length:Nat)+((callsI S x 0).length:Nat)):=Lib.hid (by rw [HCc.out];rfl)
   go_loopw [9,12] (fun cv jv wr=>∃ (j:Nat) (c:Int) (wy:World),wy=wr/\j<=q2/\cv=.int .i64 c/\jv=.int .i64 j/\Hid (c=((callsL S (L.take k)).length:Nat)+((callsI S x j).length:Nat))/\Hid (Below W3.heap.size W3 wy)) (fun _ jv _=>q2 - (intOf jv).toNat)
   case atStart=>exact ⟨0,c,_,rfl,by omega,rfl,rfl,HC0,HBx⟩
   case round=>
    clear HC0 HBx l0 k0 k1 k2 o0 o1 o2 o3
    obtain ⟨j,c,wy,rfl,hj,rfl,rfl,HCc,HBx⟩:=hrel
    obtain ⟨⟨k0,k1,k2⟩,o0,o1,o2,o3⟩:=HC.out wy (after HB3.out.1 HBx.out)
    have k5:wy.cell? ⟨ub,uo+x*6+5,none⟩=some (.slice ma q2 mc):=HR5.out wy (after HB3.out.2 HBx.out)
    by_cases hjl:j < q2
    ·have hjli:(j:Int) < (q2:Int):=by omega
     have HJT:=Lib.hid hjl
     have HWj:Hid (wrap64 ((j:Int)+1)=(j:Int)+1):=Lib.hid (by have:=HR64x.out;unfold wrap64;omega)
     have hjr:j < rr.length:=by rw [<-HRn.out];exact hjl
     obtain ⟨f,hf⟩:∃ f,rr[j]?=some f:=⟨_,List.getElem?_eq_getElem hjr⟩
     obtain ⟨mb,mo,hma,-,hmc⟩:=(HRf.out.next (after HB3.out.2 HBx.out)).cells (by intro e;rw [e] at hf;cases hf)
     subst hma
     obtain ⟨f0,f1,f2,f3⟩:=rl_cells (off:=mo) (k:=j) (t:=f) (fun i hi=>by have h1:=hmc j hjr i hi;rw [(List.getElem?_eq_some_iff.1 hf).2] at h1;exact h1)
     have HFj:Hid ((relN S x)[j]?=some f):=Lib.hid (by rw [HRl.out];exact hf)
     have HCs:=Lib.hid (callsI_count HFj.out)
     obtain ⟨fp,fk,fs,fa⟩:=f
     simp only [] at f0 f1 f2 f3 HCs
     obtain ⟨X9,hX9⟩:∃ X9,X9=wy.heap.size:=⟨_,rfl⟩
     obtain ⟨W9,hW9⟩:∃ W9,W9=wy.alloc (.cells #[.int .i64 fp,.int .i64 fk,.int .i64 fs,.int .i64 fa] 57):=⟨_,rfl⟩
     have hb9:Below wy.heap.size wy W9:=by rw [hW9];exact lit_below _ _
     have HB9:=Lib.hid (after HBx.out hb9)
     have HR9:Hid (RB W9 X9 #[.int .i64 fp,.int .i64 fk,.int .i64 fs,.int .i64 fa] 57):=Lib.hid (by rw [hW9,hX9];exact rb_new _ _ _)
     have r1:W9.cell? ⟨X9,1,none⟩=some (.int .i64 fk):=HR9.out.cell
     obtain ⟨⟨m0,m1,m2⟩,n0,n1,n2,n3⟩:=HC.out W9 (after HB3.out.1 HB9.out)
     obtain ⟨⟨x0,x1,x2,x3⟩,-⟩:=rb_four (HP3.out.next HB9.out)
     rw [hW9] at r1 m0 m1 m2 n0 n1 n2 n3 x0 x1 x2 x3
     rw [hX9] at r1
     have HW9:=Lib.hid hW9.symm
     have HX9:=Lib.hid hX9.symm
     clear hmc hjr hjl hj hf hb9 hW9 hX9
     by_cases hk2:fk=2
     case neg=>
      have t6:(fk == 2)=false:=by simp [hk2]
      have t7:(fk != 2)=true:=by simp [hk2]
      have HCn:Hid (c=((callsL S (L.take k)).length:Nat)+((callsI S x (j+1)).length:Nat)):=Lib.hid (by rw [HCs.out,if_neg hk2];exact HCc.out)
      clear hk2 k0 k1 k2 o0 o1 o2 o3 m0 m1 m2 n0 n1 n2 n3 x0 x1 x2 x3
      go_wp2_with fail
      rw [HW9.out]
      go_roundw
      case rel=>exact ⟨j+1,c,_,rfl,by have:=HJT.out;omega,rfl,by first | go_num | (rw [HWj.out];go_num),HCn,HB9⟩
      case measure=>have h9:=meas_ltV HJT.out HWj.out;first | exact h9 | (rw [HWj.out] at h9;exact h9)
     subst hk2
     have hcb:c<=20000/\0<=c:=by
      have h1:=HCt.out k
      have h2:=callsI_le (S:=S) (k:=x) (i:=j)
      have h3:=HR64.out x HXL.out
      have h4:=HCc.out
      omega
     have hcw:wrap64 (c+1)=c+1:=by unfold wrap64;omega
     have HCn:Hid (c+1=((callsL S (L.take k)).length:Nat)+((callsI S x (j+1)).length:Nat)):=Lib.hid (by rw [HCs.out,if_pos rfl];have:=HCc.out;omega)
     have HK1:Hid (kindN S x=1):=Lib.hid (call_code HUr.out (List.mem_of_getElem? HFj.out) rfl)
     have hgo:=Goal_any ⟨some ⟨ub,uo,none⟩,n,uc,ra,rn,rc,some ⟨lb,lo,none⟩,ln,lc,aa,an,ac⟩ Lm rep live align aA nA cA PP aV nV cV v aW nW cW QQ mi (x:Int) (j:Int) W9 (HH.out.next (after HB3.out.2 HB9.out)) (HS3.out.1.next HB9.out) (HS3.out.2.1.next HB9.out) (HS3.out.2.2.next HB9.out) HF.out.2.2.1 (by have:=HN.out;omega) HPb.out
     rw [<-HSe.out] at hgo
     unfold GoalP at hgo
     rw [<-HLe.out] at hgo
     have HGl:=Lib.hid hgo
     have HOkk:Hid (GoalOk S rep live align v nA ln nW nV (x:Int) (j:Int) ⟨fp,2,fs,fa⟩):=Lib.hid ⟨HNl.out.1,by have h2:=HS3.out.2.2.len;have h3:=HS3.out.2.1.len;rw [HQe.out] at h2;unfold venL at h2;rw [venR_len] at h2;omega,⟨HF.out.1.2,by rw [<-HLe.out];exact HF.out.2.1⟩,by rw [<-HLe.out];exact codeB_of HXL.out HK1.out,by omega,by rw [Int.toNat_natCast,Int.toNat_natCast];exact HFj.out,rfl⟩
     obtain ⟨gz,hgz⟩:∃ gz,gz=goalR L PP QQ rep v x ⟨fp,2,fs,fa⟩:=⟨_,rfl⟩
     have HGz:=Lib.hid hgz
     obtain ⟨pv,hpv⟩:∃ pv,PP[k]?=some pv:=⟨_,List.getElem?_eq_getElem (by rw [HPn.out,<-HNl.out.2];exact HLT.out)⟩
     have hpvb:=HPb.out pv (List.mem_of_getElem? hpv)
     have hpw:plcN L PP (x:Int)=pv:=by
      have h1:L.idxOf x=k:=by
       obtain ⟨hk1,hk2⟩:=List.getElem?_eq_some_iff.1 HXk.out
       rw [<-hk2];exact HLQ.out.nd.idxOf_getElem k hk1
      unfold plcN;rw [Int.toNat_natCast,h1,hpv];rfl
     obtain ⟨fz,hfz⟩:∃ fz,fz=(pv+fp) % 18446744073709551616:=⟨_,rfl⟩
     have hZ:IntKind.u64.wrap (pv+IntKind.u64.wrap fp)=fz:=by rw [hfz];simp only [IntKind.wrap_u64];omega
     have HNr:Hid (nearB fz gz r=true):=Lib.hid (by
      have h1:=plan_near HLQ.out HEm.out HT0.out.1 HGR.out.1 HT0.out.2 HGR.out.2.1 HGR.out.2.2.1 HGR.out.2.2.2 HXL.out (List.mem_of_getElem? HFj.out) rfl HK1.out
      rw [<-HVe.out,<-HPe.out,<-HQe.out] at h1
      rw [hpw,<-hgz,<-hfz] at h1
      exact h1)
     have HGb2:Hid (0<=gz/\gz < 18446744073709551616):=Lib.hid (by
      have h1:=goalR_bd HLQ.out HT0.out.1 HGR.out.1 HT0.out.2 HGR.out.2.1 (m:=m) (r:=r) x ⟨fp,2,fs,fa⟩
      rw [<-HVe.out,<-HPe.out,<-HQe.out] at h1
      rw [<-hgz] at h1
      exact h1)
     have HNe:Hid (∀ u',Calls Tryz.prog 24 #[.int .u64 fz,.int .u64 gz,.int .i64 r] u' (Ret (.bool true) u')):=Lib.hid fun u'=>by
      have h1:=Pl.near_any fz gz r u' (by omega) (by omega) HGb2.out.1 HGb2.out.2 (by have:=HGR.out;omega) (by have:=HGR.out;omega)
      rw [HNr.out] at h1;exact h1
     obtain ⟨pb,po,hpa,-,-⟩:=HS3.out.1.cells (by intro e;rw [e] at hpv;cases hpv)
     have hka:(k:Int) < (nA:Int):=by have h1:=HNl.out.1;have h4:=HLT.out;omega
     subst hpa
     have HSc:Hid (∀ v',Below W9.heap.size W9 v'->v'.cell? ⟨X3,0,none⟩=some (.slice (some ⟨pb,po,none⟩) nA cA)/\v'.cell? ⟨pb,po+k,none⟩=some (.int .u64 pv)/\v'.cell? ⟨X9,0,none⟩=some (.int .i64 fp)/\v'.cell? ⟨X+1,3,none⟩=some (.int .i64 r)/\True/\True/\True):=Lib.hid fun v' h1=>⟨((HP3.out.next HB9.out).next h1).cell,u64_cells HS3.out.1 (after HB9.out h1) hpv,(HR9.out.next h1).cell,(HC.out v' (after HB3.out.1 (after HB9.out h1))).2.2.2.2,trivial,trivial,trivial⟩
     clear hgo hgz hpv hpvb hpw hfz hcb k0 k1 k2 o0 o1 o2 o3
     go_wp2_with fail
     rw [HW9.out,HX9.out]
     refine HGl.out.mono ?_
     rintro e u2 hg
     rcases hg with ⟨f',hok',rfl,hb2⟩ | ⟨hno,-,-⟩
     case inr=>exact absurd HOkk.out (hno _)
     have hf':f'=⟨fp,2,fs,fa⟩:=by
      have h1:=hok'.2.2.2.2.2.1
      have h2:=HOkk.out.2.2.2.2.2.1
      rw [h2] at h1;exact (Option.some.inj h1).symm
     rw [hf',Int.toNat_natCast,<-HGz.out]
     have HB2:=Lib.hid (And.intro hb2 (after HB9.out hb2))
     clear hok' hf' hb2 m0 m1 m2 n0 n1 n2 n3 x0 x1 x2 x3 f' r1 k5 f0 f1 f2 f3
     obtain ⟨V,hV⟩:∃ V,V=u2.drew:=⟨_,rfl⟩
     have hT:Below u2.heap.size u2 V:=by rw [hV];exact (Below.refl _ _).drew
     have HBV:Hid (Below W3.heap.size W3 V):=Lib.hid (after HB2.out.2 hT)
     have hS7:=HSc.out V (after HB2.out.1 hT)
     go_wp2_with fail
     refine wp_region_held_drew (S:=fun v'=>v'.cell? ⟨X3,0,none⟩=some (.slice (some ⟨pb,po,none⟩) nA cA)/\v'.cell? ⟨pb,po+k,none⟩=some (.int .u64 pv)/\v'.cell? ⟨X9,0,none⟩=some (.int .i64 fp)/\v'.cell? ⟨X+1,3,none⟩=some (.int .i64 r)/\True/\True/\True) (by kernel_rfl) (by rw [<-hV];exact hS7) (fun hHeld=>?_)
     rw [<-hV]
     clear hHeld hV hT
     refine tk7z 0 _ rfl hS7 ?_
     refine tk7z 1 _ rfl hS7 ?_
     refine tk7z 2 _ rfl hS7 ?_
     refine tk7z 3 _ rfl hS7 ?_
     refine tk7z 4 _ rfl hS7 ?_
     refine tk7z 5 _ rfl hS7 ?_
     refine tk7z 6 _ rfl hS7 ?_
     refine tk7z 7 _ rfl hS7 ?_
     refine tk7z 8 _ rfl hS7 ?_
     refine tk7z 9 _ rfl hS7 ?_
     refine tk7z 10 _ rfl hS7 ?_
     refine tk7z 11 _ rfl hS7 ?_
     refine tk7z 12 _ rfl hS7 ?_
     refine tk7z 13 _ rfl hS7 ?_
     refine tk7z 14 _ rfl hS7 ?_
     refine rd 15 rfl (fun K hK=>?_)
     go_simp
     go_wp2_with (go_at_call 24;refine (HNe.out V).mono ?_;rintro e u3 ⟨rfl,rfl⟩)
     refine hK.out _ _ hS7 (fun hX9=>?_)
     clear hK K hX9
     refine tk7z 16 _ rfl hS7 ?_
     refine tk7z 17 _ rfl hS7 ?_
     refine wpAnyH_done (by kernel_rfl) ?_ _
     clear hS7 hZ
     go_simp
     go_wp2_with fail
     exact ⟨⟨j+1,c+1,_,rfl,by have:=HJT.out;omega,rfl,by first | go_num | (rw [HWj.out];go_num),HCn,HBV⟩,by have h9:=meas_ltV HJT.out HWj.out;first | exact h9 | (rw [HWj.out] at h9;exact h9)⟩
    ·obtain rfl:q2=j:=by omega
     have hge:¬ (q2:Int) < (q2:Int):=by omega
     have HCn:Hid (c=((callsL S (L.take (k+1))).length:Nat)):=Lib.hid (by
      rw [HCc.out,List.take_add_one,HXk.out,Option.toList_some,callsL_snoc,List.length_append,show q2=(relN S x).length from by rw [HRl.out];exact HRn.out,callsI_full HUr.out]
      omega)
     have HBn:=HBx
     clear hj hjl k0 k1 k2 o0 o1 o2 o3
     go_wp2_with fail
     go_roundw
     case rel=>exact ⟨k+1,c,_,rfl,by have:=HLT.out;omega,rfl,by first | go_num | (rw [HWk.out];go_num),HCn,HBn⟩
     case measure=>have h9:=meas_ltV HLT.out HWk.out;first | exact h9 | (rw [HWk.out] at h9;exact h9)
  ·obtain rfl:ln=k:=by omega
   have hge:¬ (ln:Int) < (ln:Int):=by omega
   have hcl:c=((callsL S L).length:Nat):=by rw [HCc.out,show L.take ln=L from by rw [HNl.out.2,List.take_length]]
   have hcv:(callsV S L rep).length=(callsL S L).length:=by unfold callsV;rw [List.length_map]
   have hm1:=HMl.out
   have hm2:=HMi.out
   have hnv:nV<=(callsV S L rep).length:=by
    have h2:=HN.out.2
    have h3:=vens_len (W:=wOf S L align rep t d r) wOf_ok m
    have h4:v.length=(vensN (wOf S L align rep t d r) m).length:=by rw [HVe.out];rfl
    omega
   have hc16:c<=16384:=by have h1:=HCt.out ln;rw [show L.take ln=L from by rw [HNl.out.2,List.take_length]] at h1;omega
   have hcw:wrap64 (c+1)=c+1:=by unfold wrap64;omega
   have e1:(1:Int)<=mi:=by omega
   have e2:mi<=c+1:=by omega
   have e3:(nV:Int)<=c:=by omega
   clear hcl hcv hm1 hm2 hnv hc16 hlt hk k0 k2 o0 o1 o2 o3
   go_wp2_with fail
   refine (HGn.out wx (after HB3.out.2 HBx.out)).mono ?_
   rintro e u9 ⟨rfl,hb9⟩
   have HB9:Hid (Below w.heap.size w u9):=Lib.hid (after HB3.out.2 (after HBx.out hb9))
   obtain ⟨⟨x0,x1,x2,x3⟩,-⟩:=rb_four (HP3.out.next (after HBx.out hb9))
   clear hb9
   go_wp2_with fail
   go_ret
   exact ⟨rfl,HB9.out⟩
theorem VeneerNear_walk (w:World) (ua:Option Addr) (un uc:Nat) (Lm:List Ms) (hun:un<=maxLen) (hs:SL msC 6 w w.heap.size ua un Lm) (hno:Notes w w.heap.size Lm) (hg:∀ m ∈ Lm,GoodSc m.sc) (hb:∀ m ∈ Lm,m.sc.rels.length*32<=reachBytes)
  (ra:Option Addr) (rn rc:Nat) (la:Option Addr) (ln lc:Nat) (aa:Option Addr) (an ac:Nat) (rep live align:List Int) (hk:rn<=maxLen/\ln<=maxLen/\an<=maxLen) (hr:SL enZ 1 w w.heap.size ra rn rep) (hl:SL enZ 1 w w.heap.size la ln live) (ha:SL enZ 1 w w.heap.size aa an align) (zr:ra=none->rn=0/\rc=0) (zl:la=none->ln=0/\lc=0) (za:aa=none->an=0/\ac=0)
  (t d st r:Int) (ht:0<=t/\t < 18446744073709551616) (hd:0<=d/\d < 18446744073709551616) (hst:0<=st/\st < 18446744073709551616) (hR : -9223372036854775808<=r/\r<=9223372036854775807) (hT:TabP w):
  Calls Tryz.prog 5 #[.slice ua un uc,.agg (kpV ra rn rc la ln lc aa an ac),.agg #[.int .u64 t,.int .u64 d,.int .u64 st,.int .i64 r]] w (RetB (.bool true) w):=
 vNear ua un uc ra rn rc la ln lc aa an ac Lm rep live align t d st r w ⟨hun,hs,hno,hg,hb,hr,hl,ha,hk.1,hk.2.1,hk.2.2,hT⟩ ht.1 ht.2 hd.1 hd.2 hst.1 hst.2
end Go.Proofs.YtiohgaghmnpplaaGreatDoor
