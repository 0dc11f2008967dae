/- veneer's law: VeneerApart. -/
import Derived.Test.YtobdldadfipcgaaGreatDoorx9
import Derived.Test.YtobdldadfipcgaaGreatDoorx8
import Derived.Test.YtobdldadfipcgaaGreatDoorx7
import Derived.Deep.DeepCutAuto
set_option maxRecDepth 100000
set_option maxHeartbeats 20000000
set_option linter.unusedVariables false
set_option linter.unusedSimpArgs false
namespace Go.Proofs.YtobdldadfipcgaaGreatDoor
open Go.ChangeShapes Go.WideShapes Go.Deep Go.RowKit
open Go.Proofs.YtobdldadfipcgaaGreatDoor.Pl (encU encU_len nearB)
def kyC (x:Ky):List Value:=[.int .u64 x.1,.int .i64 x.2.1,.string ⟨x.2.2.toArray⟩]
theorem ky_len (x:Ky):(kyC x).length=3:=rfl
theorem info_rg:(Tryz.prog.info? 43).map (fun i=>(i.zero,i.size,i.bytes))=some (some (.agg #[.int .u64 0,.int .i64 0,.string ⟨#[]⟩]),3,32):=by kernel_rfl
theorem rg_app {w:World} {B q c:Nat} {a:Option Addr} {l:List Ky} (h:w.ownsRow B 43 3 (.slice a q c) q (l.flatMap kyC)) (y:Ky) (hq:q<=1000000) (hB:B<=w.heap.size):
  ∃ g cap w',(Builtin.append_ #[38,38] 38 #[.slice a q c,.slice (some ⟨w.heap.size,0,none⟩) 1 1]).run Tryz.prog (w.alloc (.cells #[.int .u64 y.1,.int .i64 y.2.1,.string ⟨y.2.2.toArray⟩] 43))=.ok (.slice (some ⟨g,0,none⟩) (q+1) cap) w'/\
   w'.ownsRow B 43 3 (.slice (some ⟨g,0,none⟩) (q+1) cap) (q+1) ((l ++ [y]).flatMap kyC)/\w.grownBy w' (Value.slice a q c).ownBlock:=by
 obtain ⟨i0,hi,hz0,hz1,hz2⟩:=info_parts info_rg
 obtain ⟨W4,hW4⟩:∃ W4,W4=w.alloc (.cells #[.int .u64 y.1,.int .i64 y.2.1,.string ⟨y.2.2.toArray⟩] 43):=⟨_,rfl⟩
 have hb4:Below w.heap.size w W4:=by rw [hW4];exact lit_below _ _
 have h4:=Pl.own_next h hb4
 have hz4:W4.heap.size=w.heap.size+1:=by rw [hW4];exact World.size_alloc _ _
 have hnews:∀ j x,[Value.int .u64 y.1,Value.int .i64 y.2.1,Value.string ⟨y.2.2.toArray⟩][j]?=some x->W4.cell? ((⟨w.heap.size,0,none⟩:Addr).add j)=some x:=by
  rw [hW4]
  exact World.news_of_block (cs:=#[.int .u64 y.1,.int .i64 y.2.1,.string ⟨y.2.2.toArray⟩]) (t:=43) (fr:=(0,0)) (heap_alloc_new w _)
 obtain ⟨g,cap,w',hr,ho,hgr,hlie,hlt⟩:=run_append_lies (P:=Tryz.prog) (w:=W4) 38 38 B 43 i0 _ 3 32 Tryz.underlying38 hi hz0 hz1 hz2 rfl (by decide) (.slice a q c) q (l.flatMap kyC) h4 ⟨w.heap.size,0,none⟩ 1 1 [.int .u64 y.1,.int .i64 y.2.1,.string ⟨y.2.2.toArray⟩] rfl hnews (by intro x hx;simp only [List.mem_cons,List.not_mem_nil,or_false] at hx;rcases hx with rfl | rfl | rfl <;> rfl) (by decide) (by unfold maxLen;omega) (by omega) (by omega) (w.heap.size+1) hz4
 refine ⟨g,cap,w',by rw [<-hW4];exact hr,by rw [List.flatMap_append];exact ho,?_⟩
 exact grown_trans (by rw [hW4];exact World.grownBy_alloc w _ _) hgr
def rgOf (x:Ky):Me.Rg:=⟨x.1,x.2.1,⟨x.2.2.toArray⟩⟩
theorem rgOf_c (x:Ky):Me.rgC (rgOf x)=kyC x:=rfl
theorem rgOf_key (x:Ky):Me.keyR (rgOf x)=x:=rfl
theorem rgs_key (l:List Ky):(l.map rgOf).map Me.keyR=l:=by
 rw [List.map_map]
 exact List.map_id l
theorem rgs_flat (l:List Ky):l.flatMap kyC=(l.map rgOf).flatMap Me.rgC:=by
 induction l with
 | nil=>rfl
 | cons x t ih=>rw [List.map_cons,List.flatMap_cons,List.flatMap_cons,ih];rfl
theorem new_ok {l:List Ky} {w:World} {e:Ending} {w':World} (h:Me.NewP (l.map rgOf) w e w') (hg:∀ x ∈ l,x.1<=4611686018427387904/\x.2.1=1/\1<=x.2.2.length/\x.2.2.length<=65536) (hd:l.Pairwise DisjY):
  ∃ p,e=.returned (.tuple #[.pointer (some ⟨p,0,none⟩),.int .i64 0])/\Below w.heap.size w w':=by
 rcases h with ⟨er,-,-,-,h | h⟩ | h
 ·obtain ⟨r,hr,hn⟩:=h
  obtain ⟨x,hx,rfl⟩:=List.mem_map.1 hr
  obtain ⟨g1,g2,g3,g4⟩:=hg x hx
  have hsz:(rgOf x).data.size=x.2.2.length:=rfl
  exact absurd ⟨⟨by show 1<=x.2.1;omega,by show x.2.1<=3;omega,by rw [hsz];exact g3,by rw [hsz];exact g4⟩,g1⟩ hn
 ·rw [rgs_key] at h
  exact absurd hd h
 ·exact h
theorem pow_u64 {al:Nat} (h:al<=12):IntKind.u64.wrap ((2:Int) ^ al)=2 ^ al:=by
 rw [IntKind.wrap_u64]
 have h1:(2:Int) ^ al=((2 ^ al:Nat):Int):=by push_cast;rfl
 have h2:2 ^ al<=4096:=Nat.pow_le_pow_right (show 0 < 2 by decide) h
 rw [h1]
 generalize 2 ^ al=z at h2 ⊢
 omega
theorem pow_nz {al:Nat}:¬ ((2:Int) ^ al=0):=Int.pow_ne_zero (by decide)
theorem own_drew {w:World} {b:Nat} {e:TypeId} {s:Nat} {v:Value} {n:Nat} {xs:List Value} (h:w.ownsRow b e s v n xs):w.drew.ownsRow b e s v n xs:=h
theorem vensY_step {Q:List Int} {j:Nat} {q:Int} (h:Q[j]?=some q):vensY (Q.take (j+1))=vensY (Q.take j) ++ [(q.toNat,1,vtext)]:=by
 unfold vensY
 rw [List.take_add_one,h,Option.toList_some,List.map_append];rfl
theorem vensY_len (Q:List Int):(vensY Q).length=Q.length:=by unfold vensY;rw [List.length_map]
section
variable {P:Program} {ops:Array Oper} {Q:Exit->Act->World->Prop} {md:Region.Mode} {S:World->Prop} {o:Oper} {fuel:Nat} {listed:Array Bool} {a:Act} {w:World}
theorem tk7d (i d:Nat) (v:Value) (hi:ops[i]?=some o) (hS:S w) (h:wpAnyH P md ops Q S fuel (listed.setIfInBounds i true) (a.put (some d) v) w)
  (hd:o.dst=some d:=by kernel_rfl)
  (hy:∀ w,S w->(execOp a.eval o).run P w=.ok (.value v) w:=by intro w hS;obtain ⟨_,_,_,_,_,_,_⟩:=hS;go_simp;(try with_reducible rfl))
  (hw:Region.wanted o (yielded ops a.tmps)=true:=by kernel_rfl) (hs:Region.noSelect ops=true:=by kernel_rfl) (hf:Region.free md ops listed i=true:=by kernel_rfl) (hr:(Region.ready md ops listed).contains i=true:=by kernel_rfl)
  (hQ:∀ c a w,Q (.panic c) (a.put o.dst v) w->Q (.panic c) a w:=by exact fun _ _ _ h=>h):wpAnyH P md ops Q S (fuel+1) listed a w:=
 tk i v hi hS hy (by rw [hd];exact h) hw hs hf hr hQ
theorem skd (i d:Nat) (hi:ops[i]?=some o) (hS:S w) (h:wpAnyH P md ops Q S fuel (listed.setIfInBounds i true) (a.put (some d) undef) w)
  (hd:o.dst=some d:=by kernel_rfl)
  (hw:Region.wanted o (yielded ops a.tmps)=false:=by kernel_rfl) (hs:Region.noSelect ops=true:=by kernel_rfl) (hf:Region.free md ops listed i=true:=by kernel_rfl) (hr:(Region.ready md ops listed).contains i=true:=by kernel_rfl)
  (hQ:∀ c a w,Q (.panic c) (a.put o.dst undef) w->Q (.panic c) a w:=by exact fun _ _ _ h=>h):wpAnyH P md ops Q S (fuel+1) listed a w:=
 sk i hi hS (by rw [hd];exact h) hw hs hf hr hQ
end
theorem vApart (ua:Option Addr) (n uc:Nat) (ra:Option Addr) (rn rc:Nat) (la:Option Addr) (ln lc:Nat) (aa:Option Addr) (an ac:Nat) (Lm:List Ms) (rep live align:List Int) (t d st r:Int) (w:World) (h:LQ ⟨ua,n,uc,ra,rn,rc,la,ln,lc,aa,an,ac⟩ Lm rep live align w) (t0:0<=t) (t1:t < 18446744073709551616) (d0:0<=d) (d1:d < 18446744073709551616) (s0:0<=st) (s1:st < 18446744073709551616):
  Calls Tryz.prog 3 #[.slice ua n uc,.agg #[.slice ra rn rc,.slice la ln lc,.slice aa an ac],.agg (opV t d st r)] w (RetB (.bool true) w):=by
 obtain ⟨S,hS⟩:∃ S,S=Lm.map (·.sc):=⟨_,rfl⟩
 obtain ⟨L,hL⟩:∃ L,L=standL S rep:=⟨_,rfl⟩
 have HFe:Hid (∀ u,Below w.heap.size w u->Calls Tryz.prog 4 #[.slice ua n uc,.agg #[.slice ra rn rc,.slice la ln lc,.slice aa an ac],.slice none 0 0] u (BoolP u)):=Lib.hid fun u hu=>few_any ⟨ua,n,uc,ra,rn,rc,la,ln,lc,aa,an,ac⟩ Lm rep live align none 0 0 u (h.next hu)
 have HPl:Hid (∀ u,Below w.heap.size w u->Calls Tryz.prog 5 #[.slice ua n uc,.agg #[.slice ra rn rc,.slice la ln lc,.slice aa an ac],.agg #[.int .u64 t,.int .u64 d,.int .u64 st,.int .i64 r]] u (PlanP (Pl.goodB t d st r=true/\IsQ S rep live align) S L align rep t d r u)):=Lib.hid fun u hu=>by rw [hL,hS];exact Plan_any ⟨ua,n,uc,ra,rn,rc,la,ln,lc,aa,an,ac⟩ Lm rep live align t d st r u (h.next hu) t0 t1 d0 d1 s0 s1
 have HGn:Hid (∀ u,Below w.heap.size w u->Calls Tryz.prog 6 #[] u (RetB (.bool true) u)):=Lib.hid fun u hu=>gone_is u (h.hT.next hu)
 have HIs:Hid (∀ u,Below w.heap.size w u->Calls Tryz.prog 10 #[.slice ua n uc,.agg #[.slice ra rn rc,.slice la ln lc,.slice aa an ac]] u (IffP (IsQ S rep live align) u)):=Lib.hid fun u hu=>by rw [hS];exact (h.next hu).is
 obtain ⟨gb,hgb⟩:∃ gb,gb=Pl.goodB t d st r:=⟨_,rfl⟩
 have HGo:Hid (∀ u,Calls Tryz.prog 9 #[.agg #[.int .u64 t,.int .u64 d,.int .u64 st,.int .i64 r]] u (RetB (.bool gb) u)):=Lib.hid fun u=>by rw [hgb];exact Pl.good_any t d st r u t0 t1 d0 d1 s0 s1
 have HGb:=Lib.hid hgb
 have HH:=Lib.hid h
 have HSe:=Lib.hid hS
 have HLe:=Lib.hid hL
 have HT0:=Lib.hid (And.intro t0 d0)
 have HLf:Hid (IsQ S rep live align->LeftQ S rep L align/\(∀ a ∈ L,∀ f ∈ relN S a,GoodV (vnOf rep a f))/\(∀ x ∈ L,x < n)/\n<=256/\SL enZ 1 w w.heap.size la ln (L.map Int.ofNat)):=Lib.hid fun hq=>by
  rw [hL];rw [hS] at hq ⊢
  obtain ⟨a1,a3,a4,-,a5,-,-,a2⟩:=h.left hq
  exact ⟨a1,a2,a4,a3,a5⟩
 obtain ⟨X,hX⟩:∃ X,X=w.heap.size:=⟨_,rfl⟩
 obtain ⟨W,hW⟩:∃ W,W=(w.alloc (.cells #[.slice ra rn rc,.slice la ln lc,.slice aa an ac] 25)).alloc (.cells (opV t d st r) 28):=⟨_,rfl⟩
 have z1:(w.alloc (.cells #[.slice ra rn rc,.slice la ln lc,.slice aa an ac] 25)).heap.size=X+1:=by rw [World.size_alloc,hX]
 have HB:Hid (Below w.heap.size w W):=Lib.hid (by rw [hW];exact after (lit_below _ _) (lit_below _ _))
 have HK:Hid (RB W X #[.slice ra rn rc,.slice la ln lc,.slice aa an ac] 25):=Lib.hid (by rw [hW,hX];exact (rb_new _ _ _).next (lit_below _ _))
 have HO:Hid (RB W (X+1) (opV t d st r) 28):=Lib.hid (by rw [hW,<-z1];exact rb_new _ _ _)
 have HC:Hid (∀ u,Below W.heap.size W u->(u.cell? ⟨X,0,none⟩=some (.slice ra rn rc)/\u.cell? ⟨X,1,none⟩=some (.slice la ln lc)/\u.cell? ⟨X,2,none⟩=some (.slice aa an ac))/\u.cell? ⟨X+1,0,none⟩=some (.int .u64 t)/\u.cell? ⟨X+1,1,none⟩=some (.int .u64 d)/\u.cell? ⟨X+1,2,none⟩=some (.int .u64 st)/\u.cell? ⟨X+1,3,none⟩=some (.int .i64 r)):=Lib.hid fun u hu=>⟨⟨(HK.out.next hu).cell,(HK.out.next hu).cell,(HK.out.next hu).cell⟩,(rb_four (HO.out.next hu)).1⟩
 have HWe:=Lib.hid hW.symm
 have HXe:=Lib.hid hX.symm
 obtain ⟨⟨k0,k1,k2⟩,o0,o1,o2,o3⟩:=HC.out W (Below.refl _ _)
 rw [hW,hX] at k0 k1 k2
 clear hS hL h hgb t0 t1 d0 d1 s0 s1 hX hW z1 HK HO o0 o1 o2 o3
 go_enter Tryz.func3,Tryz.ntmps3
 go_wp2_with fail
 rw [HWe.out,HXe.out]
 refine (HFe.out W HB.out).mono ?_
 rintro e u1 ⟨b,rfl,hb1⟩
 have HB1:=Lib.hid (And.intro hb1 (after HB.out hb1))
 clear hb1 k0 k1 k2
 cases b
 ·go_wp2_with fail
  go_ret
  exact ⟨rfl,HB1.out.2⟩
 obtain ⟨⟨k0,k1,k2⟩,o0,o1,o2,o3⟩:=HC.out u1 HB1.out.1
 go_wp2_with fail
 refine (HPl.out u1 HB1.out.2).mono ?_
 rintro e u2 hp
 clear k0 k1 k2 o0 o1 o2 o3
 rcases hp with ⟨hok,x,rfl,hpv,hb2⟩ | ⟨hno,rfl,hb2⟩
 case inr=>
  obtain ⟨X3,hX3⟩:∃ X3,X3=u2.heap.size:=⟨_,rfl⟩
  obtain ⟨W3,hW3⟩:∃ W3,W3=u2.alloc (.cells planZ 33):=⟨_,rfl⟩
  have HB3:Hid (Below w.heap.size w W3):=Lib.hid (by rw [hW3];exact after HB1.out.2 (after hb2 (lit_below _ _)))
  have HP3:Hid (RB W3 X3 planZ 33):=Lib.hid (by rw [hW3,hX3];exact rb_new _ _ _)
  have HW3:=Lib.hid hW3.symm
  have HX3:=Lib.hid hX3.symm
  clear hb2 hW3 hno hX3
  go_wp2_with fail
  rw [HW3.out,HX3.out]
  refine (HGn.out W3 HB3.out).mono ?_
  rintro e u4 ⟨rfl,hb4⟩
  have x0:u4.cell? ⟨X3,0,none⟩=some (.slice none 0 0):=(HP3.out.next hb4).cell
  have HB4:=Lib.hid (after HB3.out hb4)
  clear hb4
  go_wp2_with fail
  go_ret
  exact ⟨rfl,HB4.out⟩
 obtain ⟨m,aA,nA,cA,aV,nV,cV,aW,nW,cW,hE1,rfl,ho1,ho2,ho3⟩:=hpv
 obtain ⟨hLQ,hgc,hlt,hn,hla⟩:=HLf.out hok.2
 have HEm:=Lib.hid hE1
 obtain ⟨v,hv⟩:∃ v,v=vAt S L align rep t d r m:=⟨_,rfl⟩
 obtain ⟨PP,hPP⟩:∃ PP,PP=placesV S L align t d v:=⟨_,rfl⟩
 obtain ⟨QQ,hQQ⟩:∃ QQ,QQ=venL S L PP v:=⟨_,rfl⟩
 have hvr:rightV S L [] v=true:=by rw [hv];exact vAt_right hLQ m
 have hvg:∀ x ∈ v,GoodV x:=by rw [hv];exact vAt_good hgc m
 have hvl:v.length<=16384:=by rw [hv];exact vAt_len hLQ m
 have hPl2:PP.length<=256:=by rw [hPP,places_len S L align t d v hLQ.al];exact hLQ.n256
 have hQl:QQ.length<=16384:=by rw [hQQ];unfold venL;rw [venR_len];exact hvl
 have hwv:wOf S L align rep t d r v=[]:=by rw [hv];exact hE1.1
 have hz:True:=trivial
 rw [<-hv] at ho1 ho2 ho3
 rw [<-hPP] at ho1 ho3
 rw [<-hQQ] at ho3
 obtain ⟨aA',cA',e9,hsA,-⟩:=SL.ofOwns encU_len (by decide) ho1
 injection e9 with e1 e2 e3
 subst e1;subst e3
 obtain ⟨aV',cV',e9,hsV,-⟩:=SL.ofOwns vn_len (by decide) ho2
 injection e9 with e4 e5 e6
 subst e4;subst e6
 obtain ⟨aW',cW',e9,hsW,-⟩:=SL.ofOwns encU_len (by decide) ho3
 injection e9 with e7 e8 e10
 subst e7;subst e10
 obtain ⟨mi,hmi⟩:∃ mi:Int,mi=((m+1:Nat):Int):=⟨_,rfl⟩
 have HMi:=Lib.hid hmi
 have HMl:=Lib.hid (ends_le hE1)
 have HVe:=Lib.hid hv
 have HLa:=Lib.hid (And.intro hla (And.intro hn hlt))
 have HLQ:=Lib.hid hLQ
 have HGc:=Lib.hid hgc
 rw [<-hmi]
 obtain ⟨X3,hX3⟩:∃ X3,X3=u2.heap.size:=⟨_,rfl⟩
 obtain ⟨W3,hW3⟩:∃ W3,W3=u2.alloc (.cells #[.slice aA nA cA,.slice aV nV cV,.slice aW nW cW,.int .i64 mi] 33):=⟨_,rfl⟩
 have hb3:Below u2.heap.size u2 W3:=by rw [hW3];exact lit_below _ _
 have HB3:=Lib.hid (And.intro (after HB1.out.1 (after hb2 hb3)) (after HB1.out.2 (after hb2 hb3)))
 have HS3:Hid (SL encU 1 W3 W3.heap.size aA nA PP/\SL vnC 3 W3 W3.heap.size aV nV v/\SL encU 1 W3 W3.heap.size aW nW QQ):=Lib.hid ⟨hsA.next hb3,hsV.next hb3,hsW.next hb3⟩
 have HP3:Hid (RB W3 X3 #[.slice aA nA cA,.slice aV nV cV,.slice aW nW cW,.int .i64 mi] 33):=Lib.hid (by rw [hW3,hX3];exact rb_new _ _ _)
 have HNl:Hid (nA=ln/\ln=L.length):=Lib.hid (by
  have h3:PP.length=L.length:=by rw [hPP,places_len S L align t d v hLQ.al]
  have h1:=hsA.len
  have h2:=hla.len
  rw [List.length_map] at h2
  omega)
 have HN:Hid ((nA<=256/\nV<=16384/\nW<=16384)/\nV=v.length):=Lib.hid (by have h1:=hsA.len;have h2:=hsV.len;have h3:=hsW.len;omega)
 have HF:=Lib.hid (And.intro hok (And.intro hvr (And.intro hvg (And.intro hwv (And.intro hPP (And.intro hQQ (And.intro hz hPl2)))))))
 have HPe:=Lib.hid hPP
 have HQe:=Lib.hid hQQ
 have HPn:Hid (PP.length=L.length):=Lib.hid (by rw [hPP,places_len S L align t d v hLQ.al])
 have HPb:Hid (∀ x ∈ PP,0<=x/\x < 18446744073709551616):=Lib.hid (by
  have h4:=good_bd hok.1
  have h5:=places_bd hLQ (rightV_of.1 hvr).2.2 HT0.out.1 h4.1 HT0.out.2 h4.2.1
  intro x hx;rw [hPP] at hx;have:=h5 x hx;omega)
 have HF2:=Lib.hid (And.intro hPl2 hQl)
 obtain ⟨⟨k0,k1,k2⟩,o0,o1,o2,o3⟩:=HC.out W3 HB3.out.1
 obtain ⟨⟨x0,x1,x2,x3⟩,-⟩:=rb_four HP3.out
 rw [hW3] at k0 k1 k2 o0 o1 o2 o3 x0 x1 x2 x3
 rw [hX3] at x0 x1 x2 x3
 have HW3:=Lib.hid hW3.symm
 have HX3:=Lib.hid hX3.symm
 clear hE1 hok hla hn hlt ho1 ho2 ho3 hLQ hgc hv hPP hQQ hvr hvg hvl hPl2 hQl hwv hz hsA hsV hsW e2 e5 e8 hmi hX3 hW3 hb2 hb3
 have HNw:Hid (nW=nV/\an=ln):=Lib.hid (by
  have h1:=HS3.out.2.2.len
  have h2:=HN.out.2
  have h3:=HH.out.ha.len
  have h4:=HLQ.out.al
  have h5:=HNl.out.2
  rw [HQe.out] at h1
  unfold venL at h1
  rw [venR_len] at h1
  simp only [] at h3
  omega)
 have hnl:((nA:Int) != (ln:Int))=false:=by have:=HNl.out;simp;omega
 have hnw:((nW:Int) != (nV:Int))=false:=by have:=HNw.out;simp;omega
 have hna:((an:Int) != (ln:Int))=false:=by have:=HNw.out;simp;omega
 go_wp2_with fail
 rw [HW3.out,HX3.out]
 clear hnl hnw hna k0 k1 k2 o0 o1 o2 o3 x0 x1 x2 x3
 have HLn:Hid (ln<=256):=Lib.hid (by rw [HNl.out.2];exact HLQ.out.n256)
 have HAp:Hid ((regsY S L PP ++ vensY QQ).Pairwise DisjY):=Lib.hid (by rw [HQe.out,HPe.out];exact regs_apart HLQ.out HF.out.2.1 HF.out.1.1 HT0.out.1 HT0.out.2)
 have HGd:Hid (∀ x ∈ regsY S L PP ++ vensY QQ,x.1<=4611686018427387904/\x.2.1=1/\1<=x.2.2.length/\x.2.2.length<=65536):=Lib.hid (by rw [HQe.out,HPe.out];exact regs_good HLQ.out HF.out.2.1 HF.out.1.1 HT0.out.1 HT0.out.2)
 have HPt:Hid (∀ (k x:Nat) (pv al:Int),L[k]?=some x->align[k]?=some al->PP[k]?=some pv->(0<=pv/\pv<=2305843009218936832)/\pv % 2 ^ al.toNat=0/\(kindN S x=1->pv % 4=0)):=Lib.hid fun k x pv al h1 h2 h3=>by
  rw [HPe.out] at h3
  obtain ⟨-,g2,g3,-⟩:=place_at HLQ.out (rightV_of.1 HF.out.2.1).2.2 HF.out.1.1 HT0.out.1 HT0.out.2 h1 h2 h3
  exact ⟨place_lim HLQ.out HF.out.2.1 HF.out.1.1 HT0.out.1 HT0.out.2 pv (List.mem_of_getElem? h3),g2,g3⟩
 have HVg:Hid (∀ (i k ix:Nat) (y:Vn) (p q:Int),v[i]?=some y->y.1=(k:Int)->L[ix]?=some k->PP[ix]?=some p->QQ[i]?=some q->p+lenN S k<=q/\q - (p+lenN S k)<=771/\q % 4=0):=Lib.hid fun i k ix y p q h1 h2 h3 h4 h5=>by
  rw [HQe.out,HPe.out] at h5
  rw [HPe.out] at h4
  exact ven_gap HLQ.out HF.out.2.1 HF.out.1.1 HT0.out.1 HT0.out.2 h1 h2 h3 h4 h5
 have HQb:Hid (∀ q ∈ QQ,0<=q/\q<=2305843009218941963):=Lib.hid (by rw [HQe.out,HPe.out];exact ven_lim HLQ.out HF.out.2.1 HF.out.1.1 HT0.out.1 HT0.out.2)
 have HRl:Hid (∀ k,(regsY S (L.take k) (PP.take k)).length<=256):=Lib.hid fun k=>by
  have h1:=regsY_len S (L.take k) (PP.take k)
  have h2:=HLQ.out.n256
  rw [List.length_take] at h1
  omega
 have HO0:Hid (0=(regsY S (L.take 0) (PP.take 0)).length/\W3.ownsRow W3.heap.size 43 3 (.slice none 0 0) 0 ((regsY S (L.take 0) (PP.take 0)).flatMap kyC)):=Lib.hid ⟨rfl,World.ownsRow_nil _ _ _ _⟩
 go_loopw [9,10] (fun rv iv wr=>∃ (k q:Nat) (a:Option Addr) (c:Nat) (wx:World),wx=wr/\k<=ln/\rv=.slice a q c/\iv=.int .i64 k/\Hid (q=(regsY S (L.take k) (PP.take k)).length/\wx.ownsRow W3.heap.size 43 3 (.slice a q c) q ((regsY S (L.take k) (PP.take k)).flatMap kyC))/\Hid (Below W3.heap.size W3 wx)) (fun _ iv _=>ln - (intOf iv).toNat)
 case atStart=>exact ⟨0,0,none,0,_,rfl,by omega,rfl,rfl,HO0,Lib.hid (Below.refl _ _)⟩
 case round=>
  clear HO0
  obtain ⟨k,q,a,c,wx,rfl,hk,rfl,rfl,HO,HBx⟩:=hrel
  obtain ⟨⟨k0,k1,k2⟩,o0,o1,o2,o3⟩:=HC.out wx (after HB3.out.1 HBx.out)
  by_cases hlt:k < ln
  ·have hlti:(k:Int) < (ln:Int):=by omega
   have HLT:=Lib.hid hlt
   have HWk:Hid (wrap64 ((k:Int)+1)=(k:Int)+1):=Lib.hid (by have:=HLn.out;unfold wrap64;omega)
   obtain ⟨x,hx⟩:∃ x,L[k]?=some x:=⟨_,List.getElem?_eq_getElem (by rw [<-HNl.out.2];exact hlt)⟩
   have hxL:=List.mem_of_getElem? hx
   have hxn:x < n:=HLa.out.2.2 x hxL
   have hn256:n<=256:=HLa.out.2.1
   have hxi:(x:Int) < (n:Int):=by omega
   have hxge:¬ ((n:Int)<=(x:Int)):=by omega
   have hx0:¬ ((x:Int) < 0):=by omega
   obtain ⟨lb,lo,hla,-,-⟩:=HLa.out.1.cells (by intro e;rw [List.map_eq_nil_iff] at e;rw [e] at hx;cases hx)
   subst hla
   have l0:wx.cell? ⟨lb,lo+k,none⟩=some (.int .i64 (x:Int)):=ints_cells HLa.out.1 (after HB3.out.2 HBx.out) (show (L.map Int.ofNat)[k]?=some (x:Int) by rw [List.getElem?_map,hx];rfl)
   obtain ⟨aI,haI⟩:∃ z,align[k]?=some z:=⟨_,List.getElem?_eq_getElem (by rw [HLQ.out.al,<-HNl.out.2];exact hlt)⟩
   obtain ⟨ha0,ha1⟩:=HLQ.out.a0 aI (List.mem_of_getElem? haI)
   obtain ⟨al,hal⟩:∃ al:Nat,aI=(al:Int):=⟨aI.toNat,by omega⟩
   subst hal
   have hsa:=HH.out.ha
   simp only [] at hsa
   obtain ⟨ab,ao,haa,-,-⟩:=hsa.cells (by intro e;rw [e] at haI;cases haI)
   subst haa
   obtain ⟨pv,hpv⟩:∃ pv,PP[k]?=some pv:=⟨_,List.getElem?_eq_getElem (by rw [HPn.out,<-HNl.out.2];exact hlt)⟩
   obtain ⟨⟨hp0,hp1⟩,hp2,hp3⟩:=HPt.out k x pv (al:Int) hx haI hpv
   obtain ⟨pn,hpn⟩:∃ pn:Nat,pv=(pn:Int):=⟨pv.toNat,by omega⟩
   subst hpn
   rw [Int.toNat_natCast] at hp2
   obtain ⟨pb,po,hpa,-,-⟩:=HS3.out.1.cells (by intro e;rw [e] at hpv;cases hpv)
   subst hpa
   have hka:(k:Int) < (nA:Int):=by have h1:=HNl.out.1;omega
   have hkan:(k:Int) < (an:Int):=by have h1:=HNw.out.2;omega
   have hal0:¬ ((al:Int) < 0):=by omega
   have hal1:¬ ((12:Int) < (al:Int)):=by omega
   have hsu:=HH.out.hs
   simp only [] at hsu
   obtain ⟨m2,hm⟩:∃ m2,Lm[x]?=some m2:=⟨_,List.getElem?_eq_getElem (by have h9:=hsu.len;omega)⟩
   obtain ⟨ub,uo,hua,-,-⟩:=hsu.cells (by intro e;rw [e] at hm;cases hm)
   subst hua
   obtain ⟨dd,hdd⟩:∃ dd,dd=m2.sc.data:=⟨_,rfl⟩
   obtain ⟨kd,hkd⟩:∃ kd,kd=m2.sc.kind:=⟨_,rfl⟩
   have hdat:dataY S x=dd:=by unfold dataY;rw [HSe.out,List.getElem?_map,hm,hdd];rfl
   have hkin:kindN S x=kd:=by unfold kindN;rw [HSe.out,List.getElem?_map,hm,hkd];rfl
   have hlen:lenN S x=dd.length:=by rw [<-dataY_len,hdat]
   have HD:Hid (dd.length<=4096):=Lib.hid (by rw [<-hlen];obtain ⟨s,h1,h2,-⟩:=HLQ.out.inn x hxL;unfold lenN;rw [h1];exact h2)
   have HSc:Hid (∀ v',Below W3.heap.size W3 v'->v'.cell? ⟨X,2,none⟩=some (.slice (some ⟨ab,ao,none⟩) an ac)/\v'.cell? ⟨ab,ao+k,none⟩=some (.int .i64 (al:Int))/\v'.cell? ⟨X3,0,none⟩=some (.slice (some ⟨pb,po,none⟩) nA cA)/\v'.cell? ⟨pb,po+k,none⟩=some (.int .u64 (pn:Int))/\v'.cell? ⟨ub,uo+x*6+1,none⟩=some (.int .i64 kd)/\v'.cell? ⟨ub,uo+x*6+4,none⟩=some (.string ⟨dd.toArray⟩)/\True):=Lib.hid fun v' h1=>by
    have h2:=after HB3.out.2 h1
    obtain ⟨-,u1,-,-,u4,-⟩:=unit_cells hsu h2 hm
    exact ⟨(HC.out v' (after HB3.out.1 h1)).1.2.2,ints_cells hsa h2 haI,(HP3.out.next h1).cell,u64_cells HS3.out.1 h1 hpv,by rw [hkd];exact u1,by rw [hdd];exact u4,trivial⟩
   have HTk:Hid (regsY S (L.take (k+1)) (PP.take (k+1))=regsY S (L.take k) (PP.take k) ++ (if dd.length=0 then [] else [(pn,1,dd)])):=Lib.hid (by rw [regsY_step hx hpv,hlen,hdat];rfl)
   have HXk:=Lib.hid hx
   have HXL:=Lib.hid hxL
   have HPv:=Lib.hid hpv
   have HPb2:Hid (pn<=2305843009218936832):=Lib.hid (by omega)
   have HK4:Hid (kd=1->(pn:Int) % 4=0):=Lib.hid (by rw [<-hkin];exact hp3)
   have HLe2:=Lib.hid hlen
   have HP2:=Lib.hid hp2
   have HA12:Hid (al<=12):=Lib.hid (by omega)
   have haN:al<=12:=HA12.out
   have hpw:IntKind.u64.wrap ((2:Int) ^ al)=2 ^ al:=pow_u64 haN
   have hpm:(pn:Int).tmod (2 ^ al)=0:=by rw [Int.tmod_eq_emod_of_nonneg (by omega)];exact HP2.out
   have hpz:¬ ((2:Int) ^ al=0):=pow_nz
   clear hk hlt hx hxL hn256 haI ha0 ha1 hpv hp0 hp1 hp2 hp3 hm hdd hkd hdat hkin hlen hsa hsu
   have HOw:=Lib.hid HO.out.2
   have HQ1:=Lib.hid HO.out.1
   go_upto_if 129 with (fail)
   go_cut [129] (fun s129 wc=>∃ V:World,V=wc/\s129=.bool false/\Hid (Below W3.heap.size W3 V)/\Hid (V.ownsRow W3.heap.size 43 3 (.slice a q c) q ((regsY S (L.take k) (PP.take k)).flatMap kyC)))
   case first=>
    obtain ⟨V,hV⟩:∃ V,V=wx.drew:=⟨_,rfl⟩
    have hT:Below wx.heap.size wx V:=by rw [hV];exact (Below.refl _ _).drew
    have HBV:=Lib.hid (after HBx.out hT)
    have HOV:Hid (V.ownsRow W3.heap.size 43 3 (.slice a q c) q ((regsY S (L.take k) (PP.take k)).flatMap kyC)):=Lib.hid (by rw [hV];exact HOw.out)
    have hS7:=HSc.out V HBV.out
    go_wp2_with fail
    refine wp_region_held_drew (S:=fun v'=>v'.cell? ⟨X,2,none⟩=some (.slice (some ⟨ab,ao,none⟩) an ac)/\v'.cell? ⟨ab,ao+k,none⟩=some (.int .i64 (al:Int))/\v'.cell? ⟨X3,0,none⟩=some (.slice (some ⟨pb,po,none⟩) nA cA)/\v'.cell? ⟨pb,po+k,none⟩=some (.int .u64 (pn:Int))/\v'.cell? ⟨ub,uo+x*6+1,none⟩=some (.int .i64 kd)/\v'.cell? ⟨ub,uo+x*6+4,none⟩=some (.string ⟨dd.toArray⟩)/\True) (by kernel_rfl) (by rw [<-hV];exact hS7) (fun hHeld=>?_)
    rw [<-hV]
    clear hHeld hV hT k0 k1 k2 o0 o1 o2 o3 l0
    refine tk7d 0 74 _ rfl hS7 ?_
    simp only [Act.put,List.setIfInBounds_toArray,List.set_cons_zero,List.set_cons_succ]
    refine tk7d 1 75 (.bool false) rfl hS7 ?_
    simp only [Act.put,List.setIfInBounds_toArray,List.set_cons_zero,List.set_cons_succ]
    refine tk7d 2 76 (.bool false) rfl hS7 ?_
    simp only [Act.put,List.setIfInBounds_toArray,List.set_cons_zero,List.set_cons_succ]
    refine tk7d 3 77 _ rfl hS7 ?_
    simp only [Act.put,List.setIfInBounds_toArray,List.set_cons_zero,List.set_cons_succ]
    refine tk7d 4 78 _ rfl hS7 ?_
    simp only [Act.put,List.setIfInBounds_toArray,List.set_cons_zero,List.set_cons_succ]
    refine tk7d 5 79 _ rfl hS7 ?_
    simp only [Act.put,List.setIfInBounds_toArray,List.set_cons_zero,List.set_cons_succ]
    refine tk7d 6 80 (.bool false) rfl hS7 ?_
    simp only [Act.put,List.setIfInBounds_toArray,List.set_cons_zero,List.set_cons_succ]
    refine tk7d 7 81 (.bool false) rfl hS7 ?_
    simp only [Act.put,List.setIfInBounds_toArray,List.set_cons_zero,List.set_cons_succ]
    refine tk7d 8 82 (.bool false) rfl hS7 ?_
    simp only [Act.put,List.setIfInBounds_toArray,List.set_cons_zero,List.set_cons_succ]
    refine tk7d 9 83 _ rfl hS7 ?_
    simp only [Act.put,List.setIfInBounds_toArray,List.set_cons_zero,List.set_cons_succ]
    refine tk7d 10 84 _ rfl hS7 ?_
    simp only [Act.put,List.setIfInBounds_toArray,List.set_cons_zero,List.set_cons_succ]
    refine tk7d 11 85 _ rfl hS7 ?_
    simp only [Act.put,List.setIfInBounds_toArray,List.set_cons_zero,List.set_cons_succ]
    refine tk7d 12 86 _ rfl hS7 ?_
    simp only [Act.put,List.setIfInBounds_toArray,List.set_cons_zero,List.set_cons_succ]
    refine tk7d 13 87 _ rfl hS7 ?_
    simp only [Act.put,List.setIfInBounds_toArray,List.set_cons_zero,List.set_cons_succ]
    refine tk7d 14 88 (.bool false) rfl hS7 ?_
    simp only [Act.put,List.setIfInBounds_toArray,List.set_cons_zero,List.set_cons_succ]
    refine tk7d 15 89 (.bool false) rfl hS7 ?_
    simp only [Act.put,List.setIfInBounds_toArray,List.set_cons_zero,List.set_cons_succ]
    refine tk7d 16 90 (.bool false) rfl hS7 ?_
    simp only [Act.put,List.setIfInBounds_toArray,List.set_cons_zero,List.set_cons_succ]
    refine tk7d 17 91 _ rfl hS7 ?_
    simp only [Act.put,List.setIfInBounds_toArray,List.set_cons_zero,List.set_cons_succ]
    refine tk7d 18 92 _ rfl hS7 ?_
    simp only [Act.put,List.setIfInBounds_toArray,List.set_cons_zero,List.set_cons_succ]
    refine tk7d 19 93 _ rfl hS7 ?_
    simp only [Act.put,List.setIfInBounds_toArray,List.set_cons_zero,List.set_cons_succ]
    refine tk7d 20 94 _ rfl hS7 ?_
    simp only [Act.put,List.setIfInBounds_toArray,List.set_cons_zero,List.set_cons_succ]
    refine tk7d 21 95 _ rfl hS7 ?_
    simp only [Act.put,List.setIfInBounds_toArray,List.set_cons_zero,List.set_cons_succ]
    refine tk7d 22 96 (.bool false) rfl hS7 ?_
    simp only [Act.put,List.setIfInBounds_toArray,List.set_cons_zero,List.set_cons_succ]
    refine tk7d 23 97 (.bool false) rfl hS7 ?_
    simp only [Act.put,List.setIfInBounds_toArray,List.set_cons_zero,List.set_cons_succ]
    refine tk7d 24 98 (.bool false) rfl hS7 ?_
    simp only [Act.put,List.setIfInBounds_toArray,List.set_cons_zero,List.set_cons_succ]
    refine tk7d 25 99 _ rfl hS7 ?_
    simp only [Act.put,List.setIfInBounds_toArray,List.set_cons_zero,List.set_cons_succ]
    refine tk7d 26 100 _ rfl hS7 ?_
    simp only [Act.put,List.setIfInBounds_toArray,List.set_cons_zero,List.set_cons_succ]
    refine tk7d 27 101 _ rfl hS7 ?_
    simp only [Act.put,List.setIfInBounds_toArray,List.set_cons_zero,List.set_cons_succ]
    refine tk7d 28 102 _ rfl hS7 ?_
    simp only [Act.put,List.setIfInBounds_toArray,List.set_cons_zero,List.set_cons_succ]
    refine tk7d 29 103 _ rfl hS7 ?_
    simp only [Act.put,List.setIfInBounds_toArray,List.set_cons_zero,List.set_cons_succ]
    refine tk7d 30 104 _ rfl hS7 ?_
    simp only [Act.put,List.setIfInBounds_toArray,List.set_cons_zero,List.set_cons_succ]
    refine tk7d 31 105 _ rfl hS7 ?_
    simp only [Act.put,List.setIfInBounds_toArray,List.set_cons_zero,List.set_cons_succ]
    refine tk7d 32 106 _ rfl hS7 ?_
    simp only [Act.put,List.setIfInBounds_toArray,List.set_cons_zero,List.set_cons_succ]
    refine tk7d 33 107 _ rfl hS7 ?_
    simp only [Act.put,List.setIfInBounds_toArray,List.set_cons_zero,List.set_cons_succ]
    refine tk7d 34 108 _ rfl hS7 ?_
    simp only [Act.put,List.setIfInBounds_toArray,List.set_cons_zero,List.set_cons_succ]
    refine tk7d 35 109 (.int .u64 ((2 ^ al:Nat):Int)) rfl hS7 ?_
    simp only [Act.put,List.setIfInBounds_toArray,List.set_cons_zero,List.set_cons_succ]
    refine tk7d 36 110 (.int .u64 0) rfl hS7 ?_
    simp only [Act.put,List.setIfInBounds_toArray,List.set_cons_zero,List.set_cons_succ]
    refine tk7d 37 111 (.bool false) rfl hS7 ?_
    simp only [Act.put,List.setIfInBounds_toArray,List.set_cons_zero,List.set_cons_succ]
    refine tk7d 38 112 (.bool false) rfl hS7 ?_
    simp only [Act.put,List.setIfInBounds_toArray,List.set_cons_zero,List.set_cons_succ]
    refine tk7d 39 113 (.bool false) rfl hS7 ?_
    simp only [Act.put,List.setIfInBounds_toArray,List.set_cons_zero,List.set_cons_succ]
    by_cases hkd:kd=1
    rotate_left
    have hke:(kd == 1)=false:=by simp [hkd]
    refine tk7d 40 114 _ rfl hS7 ?_
    simp only [Act.put,List.setIfInBounds_toArray,List.set_cons_zero,List.set_cons_succ]
    refine tk7d 41 115 _ rfl hS7 ?_
    simp only [Act.put,List.setIfInBounds_toArray,List.set_cons_zero,List.set_cons_succ]
    refine tk7d 42 116 _ rfl hS7 ?_
    simp only [Act.put,List.setIfInBounds_toArray,List.set_cons_zero,List.set_cons_succ]
    refine tk7d 43 117 _ rfl hS7 ?_
    simp only [Act.put,List.setIfInBounds_toArray,List.set_cons_zero,List.set_cons_succ]
    refine tk7d 44 118 _ rfl hS7 ?_
    simp only [Act.put,List.setIfInBounds_toArray,List.set_cons_zero,List.set_cons_succ]
    refine tk7d 45 119 (.bool false) rfl hS7 ?_
    simp only [Act.put,List.setIfInBounds_toArray,List.set_cons_zero,List.set_cons_succ]
    refine tk7d 46 120 (.bool false) rfl hS7 ?_
    simp only [Act.put,List.setIfInBounds_toArray,List.set_cons_zero,List.set_cons_succ]
    refine skd 47 121 rfl hS7 ?_
    simp only [Act.put,List.setIfInBounds_toArray,List.set_cons_zero,List.set_cons_succ]
    refine skd 48 122 rfl hS7 ?_
    simp only [Act.put,List.setIfInBounds_toArray,List.set_cons_zero,List.set_cons_succ]
    refine skd 49 123 rfl hS7 ?_
    simp only [Act.put,List.setIfInBounds_toArray,List.set_cons_zero,List.set_cons_succ]
    refine skd 50 124 rfl hS7 ?_
    simp only [Act.put,List.setIfInBounds_toArray,List.set_cons_zero,List.set_cons_succ]
    refine skd 51 125 rfl hS7 ?_
    simp only [Act.put,List.setIfInBounds_toArray,List.set_cons_zero,List.set_cons_succ]
    refine skd 52 126 rfl hS7 ?_
    simp only [Act.put,List.setIfInBounds_toArray,List.set_cons_zero,List.set_cons_succ]
    refine skd 53 127 rfl hS7 ?_
    simp only [Act.put,List.setIfInBounds_toArray,List.set_cons_zero,List.set_cons_succ]
    refine tk7d 54 128 (.bool false) rfl hS7 ?_
    simp only [Act.put,List.setIfInBounds_toArray,List.set_cons_zero,List.set_cons_succ]
    refine tk7d 55 129 (.bool false) rfl hS7 ?_
    simp only [Act.put,List.setIfInBounds_toArray,List.set_cons_zero,List.set_cons_succ]
    refine wpAnyH_done (by kernel_rfl) ?_ _
    go_simp
    go_wp2_with fail
    go_meet
    exact ⟨_,rfl,rfl,HBV,HOV⟩
    have hke:(kd == 1)=true:=by simp [hkd]
    have hp4:(pn:Int) % 4=0:=HK4.out hkd
    have hp5:(pn:Int).tmod 4=0:=by rw [Int.tmod_eq_emod_of_nonneg (by omega)];exact hp4
    refine tk7d 40 114 _ rfl hS7 ?_
    simp only [Act.put,List.setIfInBounds_toArray,List.set_cons_zero,List.set_cons_succ]
    refine tk7d 41 115 _ rfl hS7 ?_
    simp only [Act.put,List.setIfInBounds_toArray,List.set_cons_zero,List.set_cons_succ]
    refine tk7d 42 116 _ rfl hS7 ?_
    simp only [Act.put,List.setIfInBounds_toArray,List.set_cons_zero,List.set_cons_succ]
    refine tk7d 43 117 _ rfl hS7 ?_
    simp only [Act.put,List.setIfInBounds_toArray,List.set_cons_zero,List.set_cons_succ]
    refine tk7d 44 118 _ rfl hS7 ?_
    simp only [Act.put,List.setIfInBounds_toArray,List.set_cons_zero,List.set_cons_succ]
    refine tk7d 45 119 (.bool true) rfl hS7 ?_
    simp only [Act.put,List.setIfInBounds_toArray,List.set_cons_zero,List.set_cons_succ]
    refine tk7d 46 120 (.bool true) rfl hS7 ?_
    simp only [Act.put,List.setIfInBounds_toArray,List.set_cons_zero,List.set_cons_succ]
    refine tk7d 47 121 _ rfl hS7 ?_
    simp only [Act.put,List.setIfInBounds_toArray,List.set_cons_zero,List.set_cons_succ]
    refine tk7d 48 122 _ rfl hS7 ?_
    simp only [Act.put,List.setIfInBounds_toArray,List.set_cons_zero,List.set_cons_succ]
    refine tk7d 49 123 _ rfl hS7 ?_
    simp only [Act.put,List.setIfInBounds_toArray,List.set_cons_zero,List.set_cons_succ]
    refine tk7d 50 124 _ rfl hS7 ?_
    simp only [Act.put,List.setIfInBounds_toArray,List.set_cons_zero,List.set_cons_succ]
    refine tk7d 51 125 _ rfl hS7 ?_
    simp only [Act.put,List.setIfInBounds_toArray,List.set_cons_zero,List.set_cons_succ]
    refine tk7d 52 126 (.int .u64 0) rfl hS7 ?_
    simp only [Act.put,List.setIfInBounds_toArray,List.set_cons_zero,List.set_cons_succ]
    refine tk7d 53 127 (.bool false) rfl hS7 ?_
    simp only [Act.put,List.setIfInBounds_toArray,List.set_cons_zero,List.set_cons_succ]
    refine tk7d 54 128 (.bool false) rfl hS7 ?_
    simp only [Act.put,List.setIfInBounds_toArray,List.set_cons_zero,List.set_cons_succ]
    refine tk7d 55 129 (.bool false) rfl hS7 ?_
    simp only [Act.put,List.setIfInBounds_toArray,List.set_cons_zero,List.set_cons_succ]
    refine wpAnyH_done (by kernel_rfl) ?_ _
    go_simp
    go_wp2_with fail
    go_meet
    exact ⟨_,rfl,rfl,HBV,HOV⟩
   case rest=>
    clear HO HBx HOw k0 k1 k2 o0 o1 o2 o3 l0
    obtain ⟨V,rfl,rfl,HBV,HOV⟩:=hcut
    have hS7:=HSc.out V HBV.out
    go_upto_if 135 with (fail)
    go_cut [9] (fun s9 wc=>∃ (a8:Option Addr) (q8 c8:Nat) (W8:World),W8=wc/\s9=.slice a8 q8 c8/\Hid (q8=(regsY S (L.take (k+1)) (PP.take (k+1))).length/\W8.ownsRow W3.heap.size 43 3 (.slice a8 q8 c8) q8 ((regsY S (L.take (k+1)) (PP.take (k+1))).flatMap kyC))/\Hid (Below W3.heap.size W3 W8))
    case first=>as_aux_lemma=>
     cases hde:dd.isEmpty
     ·go_wp2_with fail
      obtain ⟨V6,hV6⟩:∃ z,z=V.drew:=⟨_,rfl⟩
      have hT6:Below V.heap.size V V6:=by rw [hV6];exact (Below.refl _ _).drew
      have HB6:=Lib.hid (after HBV.out hT6)
      have ho6:V6.ownsRow W3.heap.size 43 3 (.slice a q c) q ((regsY S (L.take k) (PP.take k)).flatMap kyC):=by rw [hV6];exact HOV.out
      obtain ⟨g,cap,W8,hr8,ho8,hg8⟩:=rg_app ho6 (pn,1,dd) (by have h1:=HQ1.out;have h2:=HRl.out k;omega) HB6.out.size
      dsimp only at hr8
      obtain ⟨W7,hW7⟩:∃ z,z=V6.alloc (.cells #[.int .u64 (pn:Int),.int .i64 1,.string ⟨dd.toArray⟩] 43):=⟨_,rfl⟩
      rw [<-hW7] at hr8
      have hb7:Below V6.heap.size V6 W7:=by rw [hW7];exact lit_below _ _
      have hB8:Below W3.heap.size W3 W8:=HB6.out.grown hg8 HB6.out.size (fun j hj=>(ho6.lt j hj).1)
      have hS6:=HSc.out V6 HB6.out
      have hS67:=HSc.out W7 (after HB6.out hb7)
      have hS68:=HSc.out W8 hB8
      have hdl:¬ dd.length=0:=by intro h0;rw [List.length_eq_zero_iff] at h0;rw [h0] at hde;cases hde
      have HO8:Hid (q+1=(regsY S (L.take (k+1)) (PP.take (k+1))).length/\W8.ownsRow W3.heap.size 43 3 (.slice (some ⟨g,0,none⟩) (q+1) cap) (q+1) ((regsY S (L.take (k+1)) (PP.take (k+1))).flatMap kyC)):=Lib.hid (by
       rw [HTk.out,if_neg hdl,List.length_append]
       exact ⟨by rw [<-HQ1.out];rfl,ho8⟩)
      have HB8:=Lib.hid hB8
      refine wp_region_held_drew (S:=fun v'=>v'.cell? ⟨X,2,none⟩=some (.slice (some ⟨ab,ao,none⟩) an ac)/\v'.cell? ⟨ab,ao+k,none⟩=some (.int .i64 (al:Int))/\v'.cell? ⟨X3,0,none⟩=some (.slice (some ⟨pb,po,none⟩) nA cA)/\v'.cell? ⟨pb,po+k,none⟩=some (.int .u64 (pn:Int))/\v'.cell? ⟨ub,uo+x*6+1,none⟩=some (.int .i64 kd)/\v'.cell? ⟨ub,uo+x*6+4,none⟩=some (.string ⟨dd.toArray⟩)/\True) (by kernel_rfl) (by rw [<-hV6];exact hS6) (fun hHeld=>?_)
      rw [<-hV6]
      clear hHeld hV6 hT6 ho6 ho8 hg8 hb7 hB8 hdl
      refine tk7d 0 136 _ rfl hS6 ?_
      simp only [Act.put,List.setIfInBounds_toArray,List.set_cons_zero,List.set_cons_succ]
      refine tk7d 1 137 _ rfl hS6 ?_
      simp only [Act.put,List.setIfInBounds_toArray,List.set_cons_zero,List.set_cons_succ]
      refine tk7d 2 138 _ rfl hS6 ?_
      simp only [Act.put,List.setIfInBounds_toArray,List.set_cons_zero,List.set_cons_succ]
      refine tk7d 3 139 _ rfl hS6 ?_
      simp only [Act.put,List.setIfInBounds_toArray,List.set_cons_zero,List.set_cons_succ]
      refine tk7d 4 140 _ rfl hS6 ?_
      simp only [Act.put,List.setIfInBounds_toArray,List.set_cons_zero,List.set_cons_succ]
      refine tk7d 5 141 _ rfl hS6 ?_
      simp only [Act.put,List.setIfInBounds_toArray,List.set_cons_zero,List.set_cons_succ]
      refine tk7d 6 142 _ rfl hS6 ?_
      simp only [Act.put,List.setIfInBounds_toArray,List.set_cons_zero,List.set_cons_succ]
      refine tk7d 7 143 _ rfl hS6 ?_
      simp only [Act.put,List.setIfInBounds_toArray,List.set_cons_zero,List.set_cons_succ]
      refine tk7d 8 144 _ rfl hS6 ?_
      simp only [Act.put,List.setIfInBounds_toArray,List.set_cons_zero,List.set_cons_succ]
      refine tk7d 9 145 _ rfl hS6 ?_
      simp only [Act.put,List.setIfInBounds_toArray,List.set_cons_zero,List.set_cons_succ]
      refine tk7d 10 146 _ rfl hS6 ?_
      simp only [Act.put,List.setIfInBounds_toArray,List.set_cons_zero,List.set_cons_succ]
      refine tk7d 11 147 _ rfl hS6 ?_
      simp only [Act.put,List.setIfInBounds_toArray,List.set_cons_zero,List.set_cons_succ]
      refine rd 12 rfl (fun K hK=>?_)
      go_simp
      rw [<-hW7]
      refine hK.out _ _ hS67 (fun hX9=>?_)
      clear hK K hX9
      refine rd 13 rfl (fun K hK=>?_)
      refine step_run rfl _ _ 38 rfl _ _ (by rfl) (by rfl) hr8 ?_
      refine hK.out _ _ hS68 (fun hX9=>?_)
      clear hK K hX9
      refine rd 14 rfl (fun K hK=>?_)
      go_simp
      refine hK.out _ _ hS68 (fun hX9=>?_)
      clear hK K hX9
      refine wpAnyH_done (by kernel_rfl) ?_ _
      clear hr8 hS6 hS67 hS68 hW7
      go_simp
      go_wp2_with fail
      go_meet
      exact ⟨_,_,_,_,rfl,rfl,HO8,HB8⟩
     ·have HO8:Hid (q=(regsY S (L.take (k+1)) (PP.take (k+1))).length/\V.ownsRow W3.heap.size 43 3 (.slice a q c) q ((regsY S (L.take (k+1)) (PP.take (k+1))).flatMap kyC)):=Lib.hid (by
       rw [HTk.out,if_pos (by rw [List.isEmpty_iff.1 hde];rfl),List.append_nil]
       exact ⟨HQ1.out,HOV.out⟩)
      go_wp2_with fail
      go_meet
      exact ⟨_,_,_,_,rfl,rfl,HO8,HBV⟩
    case rest=>as_aux_lemma=>
     clear hS7 HOV HBV
     obtain ⟨a8,q8,c8,W8,rfl,rfl,HO8,HB8⟩:=hcut
     have hS8:=HSc.out W8 HB8.out
     go_wp2_with fail
     obtain ⟨W9,hW9⟩:∃ z,z=W8.drew:=⟨_,rfl⟩
     have hT9:Below W8.heap.size W8 W9:=by rw [hW9];exact (Below.refl _ _).drew
     have HB9:=Lib.hid (after HB8.out hT9)
     have HO9:=Lib.hid (And.intro HO8.out.1 (own_drew HO8.out.2))
     rw [<-hW9] at HO9
     have hS9:=HSc.out W9 HB9.out
     have hz1:IntKind.u64.wrap (dd.length:Int)=(dd.length:Int):=by rw [IntKind.wrap_u64];have:=HD.out;omega
     have hz2:IntKind.u64.wrap ((pn:Int)+(dd.length:Int))=(pn:Int)+(dd.length:Int):=by rw [IntKind.wrap_u64];have:=HD.out;have:=HPb2.out;omega
     refine wp_region_held_drew (S:=fun v'=>v'.cell? ⟨X,2,none⟩=some (.slice (some ⟨ab,ao,none⟩) an ac)/\v'.cell? ⟨ab,ao+k,none⟩=some (.int .i64 (al:Int))/\v'.cell? ⟨X3,0,none⟩=some (.slice (some ⟨pb,po,none⟩) nA cA)/\v'.cell? ⟨pb,po+k,none⟩=some (.int .u64 (pn:Int))/\v'.cell? ⟨ub,uo+x*6+1,none⟩=some (.int .i64 kd)/\v'.cell? ⟨ub,uo+x*6+4,none⟩=some (.string ⟨dd.toArray⟩)/\True) (by kernel_rfl) (by rw [<-hW9];exact hS9) (fun hHeld=>?_)
     rw [<-hW9]
     clear hHeld hW9 hT9 hS8
     refine tk7d 0 150 _ rfl hS9 ?_
     simp only [Act.put,List.setIfInBounds_toArray,List.set_cons_zero,List.set_cons_succ]
     refine tk7d 1 151 _ rfl hS9 ?_
     simp only [Act.put,List.setIfInBounds_toArray,List.set_cons_zero,List.set_cons_succ]
     refine tk7d 2 152 _ rfl hS9 ?_
     simp only [Act.put,List.setIfInBounds_toArray,List.set_cons_zero,List.set_cons_succ]
     refine tk7d 3 153 _ rfl hS9 ?_
     simp only [Act.put,List.setIfInBounds_toArray,List.set_cons_zero,List.set_cons_succ]
     refine tk7d 4 154 _ rfl hS9 ?_
     simp only [Act.put,List.setIfInBounds_toArray,List.set_cons_zero,List.set_cons_succ]
     refine tk7d 5 155 _ rfl hS9 ?_
     simp only [Act.put,List.setIfInBounds_toArray,List.set_cons_zero,List.set_cons_succ]
     refine tk7d 6 156 _ rfl hS9 ?_
     simp only [Act.put,List.setIfInBounds_toArray,List.set_cons_zero,List.set_cons_succ]
     refine tk7d 7 157 _ rfl hS9 ?_
     simp only [Act.put,List.setIfInBounds_toArray,List.set_cons_zero,List.set_cons_succ]
     refine tk7d 8 158 _ rfl hS9 ?_
     simp only [Act.put,List.setIfInBounds_toArray,List.set_cons_zero,List.set_cons_succ]
     refine tk7d 9 159 _ rfl hS9 ?_
     simp only [Act.put,List.setIfInBounds_toArray,List.set_cons_zero,List.set_cons_succ]
     refine tk7d 10 160 _ rfl hS9 ?_
     simp only [Act.put,List.setIfInBounds_toArray,List.set_cons_zero,List.set_cons_succ]
     refine tk7d 11 161 (.int .u64 (dd.length:Int)) rfl hS9 ?_
     simp only [Act.put,List.setIfInBounds_toArray,List.set_cons_zero,List.set_cons_succ]
     refine tk7d 12 162 (.int .u64 ((pn:Int)+(dd.length:Int))) rfl hS9 ?_
     simp only [Act.put,List.setIfInBounds_toArray,List.set_cons_zero,List.set_cons_succ]
     refine tk7d 13 12 (.int .u64 ((pn:Int)+(dd.length:Int))) rfl hS9 ?_
     simp only [Act.put,List.setIfInBounds_toArray,List.set_cons_zero,List.set_cons_succ]
     refine wpAnyH_done (by kernel_rfl) ?_ _
     clear hz1 hz2 hS9
     go_simp
     go_wp2_with fail
     go_loopw [13] (fun jv wr=>∃ j:Nat,j<=nV/\jv=.int .i64 j/\W9=wr) (fun jv _=>nV - (intOf jv).toNat)
     case atStart=>exact ⟨0,by omega,rfl,rfl⟩
     case round=>
      obtain ⟨j,hj,rfl,hwr⟩:=hrel
      subst hwr
      obtain ⟨⟨x0,x1,x2,x3⟩,-⟩:=rb_four (HP3.out.next HB9.out)
      by_cases hjl:j < nV
      ·have hjli:(j:Int) < (nV:Int):=by omega
       have hjw:(j:Int) < (nW:Int):=by have:=HNw.out.1;omega
       have HJT:=Lib.hid hjl
       have HWj:Hid (wrap64 ((j:Int)+1)=(j:Int)+1):=Lib.hid (by have:=HN.out.1.2.1;unfold wrap64;omega)
       obtain ⟨y,hy⟩:∃ y,v[j]?=some y:=⟨_,List.getElem?_eq_getElem (by have:=HN.out.2;omega)⟩
       obtain ⟨qv,hqv⟩:∃ qv,QQ[j]?=some qv:=⟨_,List.getElem?_eq_getElem (by have h1:=HS3.out.2.2.len;have h2:=HNw.out.1;omega)⟩
       obtain ⟨vb,vo,hva,-,hvc⟩:=(HS3.out.2.1.next HB9.out).cells (by intro e;rw [e] at hy;cases hy)
       obtain ⟨wb,wo,hwa,-,-⟩:=HS3.out.2.2.cells (by intro e;rw [e] at hqv;cases hqv)
       subst hva
       subst hwa
       obtain ⟨c0,-,-⟩:=vn_cells (off:=vo) (k:=j) (x:=y) (fun i hi=>by have h1:=hvc j (List.getElem?_eq_some_iff.1 hy).1 i hi;rw [(List.getElem?_eq_some_iff.1 hy).2] at h1;exact h1)
       have d0:=u64_cells HS3.out.2.2 HB9.out hqv
       have hq0:=HQb.out qv (List.mem_of_getElem? hqv)
       by_cases hsx:y.1=(x:Int)
       ·obtain ⟨g1,g2,g3⟩:=HVg.out j x k y (pn:Int) qv hy hsx HXk.out HPv.out hqv
        rw [HLe2.out] at g1 g2
        rw [hsx] at c0
        have t1:¬ (qv < (pn:Int)+(dd.length:Int)):=by omega
        have t2:IntKind.u64.wrap (qv - ((pn:Int)+(dd.length:Int)))=qv - ((pn:Int)+(dd.length:Int)):=by rw [IntKind.wrap_u64];omega
        have t3:¬ (771 < qv - ((pn:Int)+(dd.length:Int))):=by omega
        have t4:qv.tmod 4=0:=by rw [Int.tmod_eq_emod_of_nonneg (by omega)];exact g3
        clear hvc hy hqv g1 g2 hsx hj hjl
        go_wp2_with fail
        go_roundw
        case rel=>exact ⟨j+1,by have:=HJT.out;omega,by first | go_num | (rw [HWj.out];go_num),by trivial⟩
        case measure=>have h9:=meas_ltV HJT.out HWj.out;first | exact h9 | (rw [HWj.out] at h9;exact h9)
       ·have hse:(y.1 == (x:Int))=false:=by simp [hsx]
        clear hvc hy hqv hj hjl
        go_wp2_with fail
        go_roundw
        case rel=>exact ⟨j+1,by have:=HJT.out;omega,by first | go_num | (rw [HWj.out];go_num),by trivial⟩
        case measure=>have h9:=meas_ltV HJT.out HWj.out;first | exact h9 | (rw [HWj.out] at h9;exact h9)
      ·obtain rfl:nV=j:=by omega
       have hge:¬ (nV:Int) < (nV:Int):=by omega
       clear hj hjl
       go_wp2_with fail
       go_roundw
       case rel=>exact ⟨k+1,_,_,_,_,rfl,by have:=HLT.out;omega,rfl,by first | go_num | (rw [HWk.out];go_num),HO9,HB9⟩
       case measure=>have h9:=meas_ltV HLT.out HWk.out;first | exact h9 | (rw [HWk.out] at h9;exact h9)
  ·obtain rfl:ln=k:=by omega
   have hge:¬ (ln:Int) < (ln:Int):=by omega
   have HOe:Hid (q=(regsY S L PP ++ vensY (QQ.take 0)).length/\wx.ownsRow W3.heap.size 43 3 (.slice a q c) q ((regsY S L PP ++ vensY (QQ.take 0)).flatMap kyC)):=Lib.hid (by
    have h1:=HO.out
    rw [List.take_of_length_le (by rw [HNl.out.2];exact Nat.le_refl _),List.take_of_length_le (by rw [HPn.out,HNl.out.2];exact Nat.le_refl _)] at h1
    show _=(_ ++ []).length/\_
    rw [List.append_nil]
    refine ⟨h1.1,?_⟩
    show World.ownsRow _ _ _ _ _ _ ((_ ++ []).flatMap kyC)
    rw [List.append_nil]
    exact h1.2)
   have HRa:Hid ((regsY S L PP).length<=256):=Lib.hid (by have h1:=regsY_len S L PP;have h2:=HLQ.out.n256;omega)
   clear hk hlt hge HO k0 k1 k2 o0 o1 o2 o3
   obtain ⟨⟨k0,k1,k2⟩,o0,o1,o2,o3⟩:=HC.out wx (after HB3.out.1 HBx.out)
   have hge:¬ (ln:Int) < (ln:Int):=by omega
   go_wp2_with fail
   go_loopw [9,14] (fun rv jv wr=>∃ (j q:Nat) (a:Option Addr) (c:Nat) (wy:World),wy=wr/\j<=nW/\rv=.slice a q c/\jv=.int .i64 j/\Hid (q=(regsY S L PP ++ vensY (QQ.take j)).length/\wy.ownsRow W3.heap.size 43 3 (.slice a q c) q ((regsY S L PP ++ vensY (QQ.take j)).flatMap kyC))/\Hid (Below W3.heap.size W3 wy)) (fun _ jv _=>nW - (intOf jv).toNat)
   case atStart=>exact ⟨0,q,a,c,_,rfl,by omega,rfl,rfl,HOe,HBx⟩
   case round=>
    clear HOe k0 k1 k2 o0 o1 o2 o3
    obtain ⟨j,q,a,c,wy,rfl,hj,rfl,rfl,HO,HBy⟩:=hrel
    obtain ⟨⟨x0,x1,x2,x3⟩,-⟩:=rb_four (HP3.out.next HBy.out)
    by_cases hjl:j < nW
    ·have hjli:(j:Int) < (nW:Int):=by omega
     have HJT:=Lib.hid hjl
     have HWj:Hid (wrap64 ((j:Int)+1)=(j:Int)+1):=Lib.hid (by have:=HN.out.1.2.2;unfold wrap64;omega)
     obtain ⟨qv,hqv⟩:∃ qv,QQ[j]?=some qv:=⟨_,List.getElem?_eq_getElem (by have h1:=HS3.out.2.2.len;omega)⟩
     have hq0:=HQb.out qv (List.mem_of_getElem? hqv)
     obtain ⟨qn,hqn⟩:∃ qn:Nat,qv=(qn:Int):=⟨qv.toNat,by omega⟩
     subst hqn
     obtain ⟨wb,wo,hwa,-,-⟩:=HS3.out.2.2.cells (by intro e;rw [e] at hqv;cases hqv)
     subst hwa
     have d0:=u64_cells HS3.out.2.2 HBy.out hqv
     obtain ⟨g,cap,W8,hr8,ho8,hg8⟩:=rg_app HO.out.2 (qn,1,vtext) (by
      have h1:=HO.out.1
      rw [List.length_append,vensY_len,List.length_take] at h1
      have h2:=HRa.out
      have h3:=HN.out.1.2.2
      omega) HBy.out.size
     dsimp only at hr8
     rw [show vtext.toArray=#[49,50,51,52,53,54,55,56,57,97,98,99] from rfl] at hr8
     have HAr:=Lib.hid hr8
     have HB8:Hid (Below W3.heap.size W3 W8):=Lib.hid (HBy.out.grown hg8 HBy.out.size (fun i hi=>(HO.out.2.lt i hi).1))
     have HO8:Hid (q+1=(regsY S L PP ++ vensY (QQ.take (j+1))).length/\W8.ownsRow W3.heap.size 43 3 (.slice (some ⟨g,0,none⟩) (q+1) cap) (q+1) ((regsY S L PP ++ vensY (QQ.take (j+1))).flatMap kyC)):=Lib.hid (by
      rw [vensY_step hqv,Int.toNat_natCast,<-List.append_assoc,List.length_append]
      exact ⟨by rw [<-HO.out.1];rfl,ho8⟩)
     clear hr8 ho8 hg8 hj hjl hqv hq0
     go_wp2_with (at_builtin;refine Lib.wpList_append_run _ rfl _ _ 38 38 rfl _ _ (by rfl) (by rfl) _ _ HAr.out ?_)
     go_roundw
     case rel=>exact ⟨j+1,_,_,_,_,rfl,by have:=HJT.out;omega,rfl,by first | go_num | (rw [HWj.out];go_num),HO8,HB8⟩
     case measure=>have h9:=meas_ltV HJT.out HWj.out;first | exact h9 | (rw [HWj.out] at h9;exact h9)
    ·obtain rfl:nW=j:=by omega
     have hge:¬ (nW:Int) < (nW:Int):=by omega
     obtain ⟨R,hR⟩:∃ R,R=regsY S L PP ++ vensY QQ:=⟨_,rfl⟩
     have hall:QQ.take nW=QQ:=List.take_of_length_le (by have h1:=HS3.out.2.2.len;omega)
     have hO:=HO.out
     rw [hall,<-hR,rgs_flat] at hO
     have hGd:=HGd.out
     have hAp:=HAp.out
     rw [<-hR] at hGd hAp
     obtain ⟨a',c',e9,hsl,-⟩:=SL.ofOwns Me.rgC_len (by decide) hO.2
     injection e9 with e1 e2 e3
     subst e1
     have HNew:Hid (Calls Tryz.prog 7 #[.slice a q c] wy (Me.NewP (R.map rgOf) wy)):=Lib.hid (Me.New_walk a q c _ wy hsl (by
      have h1:=hO.1
      rw [hR,List.length_append,vensY_len] at h1
      have h2:=HRa.out
      have h3:=HN.out.1.2.2
      have h4:=HS3.out.2.2.len
      omega) (fun r hr=>by
       obtain ⟨x,hx,rfl⟩:=List.mem_map.1 hr
       have:=(hGd x hx).1
       show x.1 < _;omega) (fun r hr=>by
       obtain ⟨x,hx,rfl⟩:=List.mem_map.1 hr
       have:=(hGd x hx).2.2.2
       show x.2.2.length<=_;unfold maxLen;omega))
     have HOk:=Lib.hid (And.intro hGd hAp)
     clear hO hGd hAp hsl hR hall hj hjl e2 e3
     go_wp2_with fail
     refine HNew.out.mono ?_
     rintro e u5 hnp
     obtain ⟨p,rfl,hb5⟩:=new_ok hnp HOk.out.1 HOk.out.2
     have HB5:Hid (Below w.heap.size w u5):=Lib.hid (after HB3.out.2 (after HBy.out hb5))
     clear hb5 hnp x0 x1 x2 x3
     go_wp2_with fail
     refine (HGn.out u5 HB5.out).mono ?_
     rintro e u6 ⟨rfl,hb6⟩
     have HB6:=Lib.hid (after HB5.out hb6)
     clear hb6
     go_wp2_with fail
     go_ret
     exact ⟨rfl,HB6.out⟩
theorem VeneerApart_walk (w:World) (ua:Option Addr) (un uc:Nat) (Lm:List Ms) (hun:un<=maxLen) (hs:SL msC 6 w w.heap.size ua un Lm) (hno:Notes w w.heap.size Lm) (hg:∀ m ∈ Lm,GoodSc m.sc) (hb:∀ m ∈ Lm,m.sc.rels.length*32<=reachBytes)
  (ra:Option Addr) (rn rc:Nat) (la:Option Addr) (ln lc:Nat) (aa:Option Addr) (an ac:Nat) (rep live align:List Int) (hk:rn<=maxLen/\ln<=maxLen/\an<=maxLen) (hr:SL enZ 1 w w.heap.size ra rn rep) (hl:SL enZ 1 w w.heap.size la ln live) (ha:SL enZ 1 w w.heap.size aa an align) (zr:ra=none->rn=0/\rc=0) (zl:la=none->ln=0/\lc=0) (za:aa=none->an=0/\ac=0)
  (t d st r:Int) (ht:0<=t/\t < 18446744073709551616) (hd:0<=d/\d < 18446744073709551616) (hst:0<=st/\st < 18446744073709551616) (hR : -9223372036854775808<=r/\r<=9223372036854775807) (hT:TabP w):
  Calls Tryz.prog 3 #[.slice ua un uc,.agg (kpV ra rn rc la ln lc aa an ac),.agg #[.int .u64 t,.int .u64 d,.int .u64 st,.int .i64 r]] w (RetB (.bool true) w):=
 vApart ua un uc ra rn rc la ln lc aa an ac Lm rep live align t d st r w ⟨hun,hs,hno,hg,hb,hr,hl,ha,hk.1,hk.2.1,hk.2.2,hT⟩ ht.1 ht.2 hd.1 hd.2 hst.1 hst.2
end Go.Proofs.YtobdldadfipcgaaGreatDoor
