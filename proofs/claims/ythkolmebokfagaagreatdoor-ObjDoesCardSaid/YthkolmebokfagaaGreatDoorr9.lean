/- The document's objects: ObjDoes. -/
import Derived.Test.YthkolmebokfagaaGreatDoorr7
import Derived.Test.YthkolmebokfagaaGreatDoorr8
import Derived.Test.YthkolmebokfagaaGreatDoorr3
import Derived.Test.YthkolmebokfagaaGreatDoorqN
set_option maxRecDepth 100000
set_option maxHeartbeats 6000000
set_option linter.unusedVariables false
set_option linter.unusedSimpArgs false
namespace Go.Proofs.YthkolmebokfagaaGreatDoor
open Go.ChangeShapes Go.WideShapes Go.Deep Go.RowKit
theorem rOSameB (a a2 a' a2':Option Addr) (n c n2 c2 n' c' n2' c2':Nat) (p:Prop) (w:World) (h:∀ u,Below w.heap.size w u->Calls Tryz.prog 52 #[.agg #[.slice a n c,.slice a2 n2 c2],.agg #[.slice a' n' c',.slice a2' n2' c2']] u (SameP p u)):Calls Tryz.prog 17 #[.agg #[.slice a n c,.slice a2 n2 c2],.agg #[.slice a' n' c',.slice a2' n2' c2']] w (SameP p w):=by
 have H:=Lib.hid h
 have HW:=Lib.hid (two_rb (w:=w) (A:=#[.slice a n c,.slice a2 n2 c2]) (B:=#[.slice a' n' c',.slice a2' n2' c2']) (T:=25) (U:=25)).2.2
 clear h
 go_enter Tryz.func17,Tryz.ntmps17
 go_wp2_with fail
 refine (H.out _ HW.out).mono ?_
 rintro e u ⟨r,rfl,hr,hb⟩
 have HR:=Lib.hid hr
 have HB:=Lib.hid (after HW.out hb)
 clear hr hb
 go_wp2
 go_ret
 exact ⟨r,rfl,HR.out,HB.out⟩
def GetU (S:List Sc) (Y:List Sy) (E:Int) (w:World) (e:Ending) (w':World):Prop:=∃ (L:List Ms) (a:Option Addr) (c:Nat) (a2:Option Addr) (c2:Nat),L.map (·.sc)=S/\e=.returned (.tuple #[.agg #[.slice a L.length c,.slice a2 Y.length c2],.int .i64 E])/\GO w' w.heap.size L a c Y a2 c2/\Below w.heap.size w w'
theorem getR_u {D:ByteArray}:∃ (S:List Sc) (Y:List Sy) (E:Int),(S.length<=32/\Y.length<=128/\∀ s ∈ S,s.rels.length<=64)/\∀ (w:World) (e:Ending) (w':World),GetR D w e w'->GetU S Y E w e w':=by
 cases h:getO D with
 | none=>
  refine ⟨[],[],3,⟨by simp,by simp,by simp⟩,fun w e w' hr=>?_⟩
  unfold GetR at hr
  rw [h] at hr
  obtain ⟨he,hb⟩:=hr
  exact ⟨[],none,0,none,0,rfl,he,GO.nil _ _,hb⟩
 | some o=>
  obtain ⟨h1,-,-,-⟩:=getO_only h
  obtain ⟨k1,k2,k3,-⟩:=is_ok h1
  refine ⟨o.secs,o.syms,0,⟨k1,k2,fun s hs=>(k3 s hs).rels⟩,fun w e w' hr=>?_⟩
  unfold GetR at hr
  rw [h] at hr
  obtain ⟨L,a,c,a2,c2,hL,he,hG,hb⟩:=hr
  exact ⟨L,a,c,a2,c2,hL,he,hG,hb⟩
theorem OxZ.next {w u:World} {o:Oz} (h:OxZ w o) (hb:Below w.heap.size w u):OxZ u o:=⟨h.s1.next hb,Notes.next h.no hb,h.s2.next hb,h.gd,h.gs,h.l1,h.l2,h.z0,h.z1,h.z2⟩
theorem str_same (B:ByteArray):(B.toList == B.toList)=true:=by simp
theorem ObjDoes_at (o:Oz) (w:World) (h:OxZ w o) (D:ByteArray) (hD:D.size<=maxLen) (N:ByteArray) (hN:N.size<=maxLen) (hT:TabP w):Calls Tryz.prog 3 #[.agg #[.slice o.a o.L.length o.c,.slice o.a2 o.l.length o.c2],.string D,.string N] w (RetB (.bool true) w):=by
 have HBg:=Lib.hid (fun u (hu:Below w.heap.size w u)=>rOBigF_any o.a o.L.length o.c o.L o.a2 o.l.length o.c2 o.l h.l1 h.l2 u (h.next hu).s1 (h.next hu).s2)
 have HOwn:Hid (FewO o.L o.l->∀ u,Below w.heap.size w u->Calls Tryz.prog 7 #[.agg #[.slice o.a o.L.length o.c,.slice o.a2 o.l.length o.c2]] u (OwnOP o u)):=Lib.hid fun hF u hu=>rOwn_any o u (h.next hu) (by have:=hF.1;omega) (by have:=hF.2.1;omega) (fun m hm=>by have:=(hF.2.2.1 m hm).2.1;omega)
 have HPut:Hid (∀ u,Below w.heap.size w u->Calls Tryz.prog 8 #[.agg #[.slice o.a o.L.length o.c,.slice o.a2 o.l.length o.c2]] u (RetB (.tuple #[.string ⟨(putR ⟨o.L.map (·.sc),o.l⟩).1.toArray⟩,.int .i64 (putR ⟨o.L.map (·.sc),o.l⟩).2]) u)):=Lib.hid fun u hu=>oPut_any o.a o.L.length o.c o.L o.a2 o.l.length o.c2 o.l h.l1 h.l2 u (h.next hu).s1 (h.next hu).no h.gd (h.next hu).s2 h.gs (hT.next hu)
 have HIs:Hid (∀ u,Below w.heap.size w u->Calls Tryz.prog 15 #[.agg #[.slice o.a o.L.length o.c,.slice o.a2 o.l.length o.c2]] u (RetB (.bool (isO ⟨o.L.map (·.sc),o.l⟩)) u)):=Lib.hid fun u hu=>oIs_any o.a o.L.length o.c o.L o.a2 o.l.length o.c2 o.l h.l1 h.l2 u (h.next hu).s1 (h.next hu).no h.gd (h.next hu).s2 h.gs (hT.next hu)
 have HFind:Hid (∀ u,Below w.heap.size w u->Calls Tryz.prog 12 #[.agg #[.slice o.a o.L.length o.c,.slice o.a2 o.l.length o.c2],.string N] u (RetB (.tuple #[.int .i64 (findL ⟨o.L.map (·.sc),o.l⟩ N.data.toList).1,.bool (findL ⟨o.L.map (·.sc),o.l⟩ N.data.toList).2]) u)):=Lib.hid fun u hu=>oFind_any o.a o.L.length o.c o.L o.a2 o.l.length o.c2 o.l h.l1 h.l2 u (h.next hu).s1 (h.next hu).no h.gd (h.next hu).s2 h.gs (hT.next hu) N
 have HGet:Hid (∀ u,Below w.heap.size w u->Calls Tryz.prog 10 #[.string D] u (GetR D u)):=Lib.hid fun u hu=>Get_any D hD u (hT.next hu)
 have HHeld:Hid (∀ u,Below w.heap.size w u->Calls Tryz.prog 14 #[] u (RetB (.bool true) u)):=Lib.hid fun u hu=>held_is u (hT.next hu)
 obtain ⟨GS,GY,GE,⟨g1,g2,g3⟩,hgu⟩:=getR_u (D:=D)
 have HGu:=Lib.hid hgu
 have HGb:Hid (GS.length<=32/\GY.length<=128/\∀ s ∈ GS,s.rels.length<=64):=Lib.hid ⟨g1,g2,g3⟩
 obtain ⟨q,hq⟩:∃ q,q=isO ⟨o.L.map (·.sc),o.l⟩:=⟨_,rfl⟩
 rw [<-hq] at HIs
 have HQ:=Lib.hid hq
 obtain ⟨PB,hPB⟩:∃ B:ByteArray,B=⟨(putR ⟨o.L.map (·.sc),o.l⟩).1.toArray⟩:=⟨_,rfl⟩
 obtain ⟨PE,hPE⟩:∃ x,x=(putR ⟨o.L.map (·.sc),o.l⟩).2:=⟨_,rfl⟩
 rw [<-hPB,<-hPE] at HPut
 have HPB:=Lib.hid hPB
 have HPE:=Lib.hid hPE
 obtain ⟨FI,hFI⟩:∃ x,x=(findL ⟨o.L.map (·.sc),o.l⟩ N.data.toList).1:=⟨_,rfl⟩
 obtain ⟨FB,hFB⟩:∃ x,x=(findL ⟨o.L.map (·.sc),o.l⟩ N.data.toList).2:=⟨_,rfl⟩
 rw [<-hFI,<-hFB] at HFind
 have HFI:=Lib.hid hFI
 have HFB:=Lib.hid hFB
 have HO:=Lib.hid h
 obtain ⟨n,hn⟩:∃ n,n=o.L.length:=⟨_,rfl⟩
 obtain ⟨n2,hn2⟩:∃ n,n=o.l.length:=⟨_,rfl⟩
 have HNn:=Lib.hid hn
 have HNn2:=Lib.hid hn2
 rw [<-hn,<-hn2] at HBg HOwn HPut HIs HFind ⊢
 have HNm:=Lib.hid hN
 clear h hD hN hT g1 g2 g3 hgu hq hPB hPE hFI hFB hn hn2
 obtain ⟨X,hX⟩:∃ X,X=w.heap.size:=⟨_,rfl⟩
 obtain ⟨W,hW⟩:∃ W,W=w.alloc (.cells #[.slice o.a n o.c,.slice o.a2 n2 o.c2] 25):=⟨_,rfl⟩
 have HB:Hid (Below w.heap.size w W):=Lib.hid (by rw [hW];exact lit_below w _)
 have HX:Hid (RB W X #[.slice o.a n o.c,.slice o.a2 n2 o.c2] 25):=Lib.hid (by rw [hW,hX];exact rb_new w _ _)
 have HWe:=Lib.hid hW.symm
 have HXe:=Lib.hid hX.symm
 clear hW hX
 have x0:(w.alloc (.cells #[.slice o.a n o.c,.slice o.a2 n2 o.c2] 25)).cell? ⟨w.heap.size,0,none⟩=some (.slice o.a n o.c):=by rw [HWe.out,HXe.out];exact HX.out.cell
 have x1:(w.alloc (.cells #[.slice o.a n o.c,.slice o.a2 n2 o.c2] 25)).cell? ⟨w.heap.size,1,none⟩=some (.slice o.a2 n2 o.c2):=by rw [HWe.out,HXe.out];exact HX.out.cell
 go_enter Tryz.func3,Tryz.ntmps3
 go_wp2_with fail
 rw [HWe.out,HXe.out]
 clear x0 x1
 refine (HBg.out _ HB.out).mono ?_
 rintro e u1 ⟨r,rfl,hf,hb⟩
 have HFw:=Lib.hid hf
 replace HX:=Lib.hid (HX.out.next hb)
 replace HB:=Lib.hid (after HB.out hb)
 clear hb hf
 cases r
 rotate_left
 ·go_wp2
  go_ret
  exact ⟨rfl,HB.out⟩
 have HFw2:=Lib.hid (HFw.out rfl)
 clear HFw
 by_cases h6:(6000:Int) < (D.size:Int)
 ·go_wp2
  go_ret
  exact ⟨rfl,HB.out⟩
 have HDs:Hid (D.size<=6000):=Lib.hid (by omega)
 have x0:u1.cell? ⟨X,0,none⟩=some (.slice o.a n o.c):=HX.out.cell
 have x1:u1.cell? ⟨X,1,none⟩=some (.slice o.a2 n2 o.c2):=HX.out.cell
 go_wp2_with fail
 clear x0 x1
 refine (HOwn.out HFw2.out _ HB.out).mono ?_
 rintro e u2 ⟨o',rfl,hx',hs',hl',hb⟩
 replace HX:=Lib.hid (HX.out.next hb)
 replace HB:=Lib.hid (after HB.out hb)
 have hm1:o'.L.length=n:=by have:=congrArg List.length hs';rw [List.length_map,List.length_map] at this;rw [HNn.out];exact this
 have hm2:o'.l.length=n2:=by rw [hl',HNn2.out]
 have HO':=Lib.hid hx'
 have HS':=Lib.hid hs'
 have HL':=Lib.hid hl'
 have HM1:=Lib.hid hm1
 have HM2:=Lib.hid hm2
 have HF':Hid (FewO o'.L o'.l):=Lib.hid (by
  have hF:=HFw2.out
  refine ⟨by rw [hm1,HNn.out];exact hF.1,by rw [hl'];exact hF.2.1,fun m hm=>?_,by rw [hl'];exact hF.2.2.2⟩
  have h1:m.sc ∈ o.L.map (·.sc):=by rw [<-hs'];exact List.mem_map.2 ⟨m,hm,rfl⟩
  obtain ⟨m0,h2,h3⟩:=List.mem_map.1 h1
  have:=hF.2.2.1 m0 h2
  unfold FewM at this ⊢
  rw [<-h3];exact this)
 rw [hm1,hm2]
 have RPut:Hid (∀ v,Below u2.heap.size u2 v->Calls Tryz.prog 9 #[.agg #[.slice o'.a n o'.c,.slice o'.a2 n2 o'.c2]] v (RetB (.tuple #[.string PB,.int .i64 PE]) v)):=Lib.hid fun v hv=>by
  have h:=rPut_any o' v (hx'.next hv) HF'.out
  rw [hs',hl',<-HPB.out,<-HPE.out,hm1,<-hl',hm2] at h
  exact h
 have RIs:Hid (∀ v,Below u2.heap.size u2 v->Calls Tryz.prog 16 #[.agg #[.slice o'.a n o'.c,.slice o'.a2 n2 o'.c2]] v (RetB (.bool q) v)):=Lib.hid fun v hv=>by
  have hF:=HF'.out
  have hy:=hx'.next hv
  have h:=rOIs_any o'.a o'.L.length o'.c o'.L o'.a2 o'.l.length o'.c2 o'.l hy.l1 hy.l2 v hy.s1 hy.no hy.s2 hy.gd (fun m hm=>by have:=(hF.2.2.1 m hm).2.1;unfold maxLen;omega) (fun m hm=>by have:=(hF.2.2.1 m hm).1;omega) (fun t ht=>by have:=hF.2.2.2 t ht;omega)
  rw [hs',hm1,hm2,hl',<-HQ.out] at h
  exact h
 have RFind:Hid (∀ v,Below u2.heap.size u2 v->Calls Tryz.prog 13 #[.agg #[.slice o'.a n o'.c,.slice o'.a2 n2 o'.c2],.string N] v (RetB (.tuple #[.int .i64 FI,.bool FB]) v)):=Lib.hid fun v hv=>by
  have hF:=HF'.out
  have hy:=hx'.next hv
  have h:=rOFind_any o'.a o'.L.length o'.c o'.L o'.a2 o'.l.length o'.c2 o'.l N hy.l1 hy.l2 v hy.s1 hy.no hy.s2 hy.gd (fun m hm=>by have:=(hF.2.2.1 m hm).2.1;unfold maxLen;omega) (fun m hm=>by have:=(hF.2.2.1 m hm).1;omega) (fun t ht=>by have:=hF.2.2.2 t ht;omega)
  rw [hs',hm1,hm2,hl'] at h
  unfold fndV at h
  rw [<-HFI.out,<-HFB.out] at h
  exact h
 have RSame:Hid (∀ v,Below w.heap.size w v->Below u2.heap.size u2 v->Calls Tryz.prog 17 #[.agg #[.slice o.a n o.c,.slice o.a2 n2 o.c2],.agg #[.slice o'.a n o'.c,.slice o'.a2 n2 o'.c2]] v (SameP True v)):=Lib.hid fun v hv hv2=>by
  have hF:=HF'.out
  have hF0:=HFw2.out
  have hy:=HO.out.next hv
  have hy':=hx'.next hv2
  refine (rOSameB o.a o.a2 o'.a o'.a2 n o.c n2 o.c2 n o'.c n2 o'.c2 (o.L.map (·.sc)=o'.L.map (·.sc)/\o.l=o'.l) v (fun t ht=>?_)).mono ?_
  ·have e1:=HNn.out
   have e2:=HNn2.out
   have k1:=(hy.next ht)
   have k2:=(hy'.next ht)
   exact rOSame_any o.a o.a2 o'.a o'.a2 n o.c n2 o.c2 n o'.c n2 o'.c2 o.L o'.L o.l o'.l t (by rw [e1];exact hy.l1) (by rw [e2];exact hy.l2) (by rw [e1];exact hy.l1) (by rw [e2];exact hy.l2) (by rw [e1];exact k1.s1) (by rw [e2];exact k1.s2) (by rw [<-hm1];exact k2.s1) (by rw [<-hm2];exact k2.s2) k1.no k2.no (fun m hm=>by have:=(hF0.2.2.1 m hm).2.1;omega) (fun m hm=>by have:=(hF.2.2.1 m hm).2.1;omega)
  ·rintro e t ⟨r,rfl,hr,hb⟩
   exact ⟨r,rfl,⟨fun _=>trivial,fun _=>hr.2 ⟨hs'.symm,hl'.symm⟩⟩,hb⟩
 have HU2:=Lib.hid (Below.refl u2.heap.size u2)
 clear hb hx' hs' hl' hm1 hm2 HOwn
 obtain ⟨V,hV⟩:∃ V,V=u2.alloc (.cells #[.slice o'.a n o'.c,.slice o'.a2 n2 o'.c2] 25):=⟨_,rfl⟩
 have hbv:Below u2.heap.size u2 V:=by rw [hV];exact lit_below _ _
 obtain ⟨Y,hY⟩:∃ Y,Y=u2.heap.size:=⟨_,rfl⟩
 have HY:Hid (RB V Y #[.slice o'.a n o'.c,.slice o'.a2 n2 o'.c2] 25):=Lib.hid (by rw [hV,hY];exact rb_new _ _ _)
 have HVe:=Lib.hid hV.symm
 have HYe:=Lib.hid hY.symm
 have HXu:=HX
 replace HX:=Lib.hid (HX.out.next hbv)
 replace HB:=Lib.hid (after HB.out hbv)
 have HU:=Lib.hid hbv
 clear hV hbv hY HU2
 have x0:(u2.alloc (.cells #[.slice o'.a n o'.c,.slice o'.a2 n2 o'.c2] 25)).cell? ⟨X,0,none⟩=some (.slice o.a n o.c):=by rw [HVe.out];exact HX.out.cell
 have x1:(u2.alloc (.cells #[.slice o'.a n o'.c,.slice o'.a2 n2 o'.c2] 25)).cell? ⟨X,1,none⟩=some (.slice o.a2 n2 o.c2):=by rw [HVe.out];exact HX.out.cell
 go_wp2_with fail
 rw [HVe.out,HYe.out]
 clear x0 x1 HXu
 refine (HPut.out _ HB.out).mono ?_
 rintro e u3 ⟨rfl,hb⟩
 replace HX:=Lib.hid (HX.out.next hb)
 replace HY:=Lib.hid (HY.out.next hb)
 replace HU:=Lib.hid (after HU.out hb)
 replace HB:=Lib.hid (after HB.out hb)
 clear hb HPut
 have y0:u3.cell? ⟨Y,0,none⟩=some (.slice o'.a n o'.c):=HY.out.cell
 have y1:u3.cell? ⟨Y,1,none⟩=some (.slice o'.a2 n2 o'.c2):=HY.out.cell
 go_wp2_with fail
 clear y0 y1
 refine (RPut.out _ HU.out).mono ?_
 rintro e u4 ⟨rfl,hb⟩
 replace HX:=Lib.hid (HX.out.next hb)
 replace HY:=Lib.hid (HY.out.next hb)
 replace HU:=Lib.hid (after HU.out hb)
 replace HB:=Lib.hid (after HB.out hb)
 clear hb RPut
 go_wp2_with fail
 refine (HGet.out _ HB.out).mono ?_
 intro e u5 hr
 obtain ⟨L3,a3,c3,b3,d3,hL3,rfl,hG3,hb⟩:=HGu.out _ _ _ hr
 replace HX:=Lib.hid (HX.out.next hb)
 replace HY:=Lib.hid (HY.out.next hb)
 replace HU:=Lib.hid (after HU.out hb)
 replace HB:=Lib.hid (after HB.out hb)
 have HG3:=Lib.hid hG3
 have HL3:=Lib.hid hL3
 clear hb hr hG3 hL3 HGet
 obtain ⟨n3,hn3⟩:∃ n,n=L3.length:=⟨_,rfl⟩
 obtain ⟨m3,hm3⟩:∃ n,n=GY.length:=⟨_,rfl⟩
 have HN3:=Lib.hid hn3
 have HM3:=Lib.hid hm3
 rw [<-hn3,<-hm3]
 clear hn3 hm3
 obtain ⟨V5,hV⟩:∃ V,V=u5.alloc (.cells #[.slice a3 n3 c3,.slice b3 m3 d3] 25):=⟨_,rfl⟩
 have hbv:Below u5.heap.size u5 V5:=by rw [hV];exact lit_below _ _
 obtain ⟨Z,hZ⟩:∃ Y,Y=u5.heap.size:=⟨_,rfl⟩
 have HZ:Hid (RB V5 Z #[.slice a3 n3 c3,.slice b3 m3 d3] 25):=Lib.hid (by rw [hV,hZ];exact rb_new _ _ _)
 have HVe:=Lib.hid hV.symm
 have HZe:=Lib.hid hZ.symm
 replace HX:=Lib.hid (HX.out.next hbv)
 replace HY:=Lib.hid (HY.out.next hbv)
 replace HU:=Lib.hid (after HU.out hbv)
 replace HB:=Lib.hid (after HB.out hbv)
 have HU5:=Lib.hid hbv
 clear hV hbv hZ
 go_wp2_with fail
 rw [HVe.out,HZe.out]
 refine (rGet_any D HDs.out _).mono ?_
 intro e u6 hr
 obtain ⟨L4,a4,c4,b4,d4,hL4,rfl,hG4,hb⟩:=HGu.out _ _ _ hr
 replace HX:=Lib.hid (HX.out.next hb)
 replace HY:=Lib.hid (HY.out.next hb)
 replace HZ:=Lib.hid (HZ.out.next hb)
 replace HU:=Lib.hid (after HU.out hb)
 replace HU5:=Lib.hid (after HU5.out hb)
 replace HB:=Lib.hid (after HB.out hb)
 have HG4:=Lib.hid hG4
 have HL4:=Lib.hid hL4
 clear hb hr hG4 hL4
 rw [show L4.length=n3 from by have:=congrArg List.length HL4.out;rw [<-HL3.out,List.length_map,List.length_map] at this;rw [HN3.out];exact this,<-HM3.out]
 obtain ⟨V6,hV⟩:∃ V,V=u6.alloc (.cells #[.slice a4 n3 c4,.slice b4 m3 d4] 25):=⟨_,rfl⟩
 have hbv:Below u6.heap.size u6 V6:=by rw [hV];exact lit_below _ _
 obtain ⟨Q,hQ⟩:∃ Y,Y=u6.heap.size:=⟨_,rfl⟩
 have HQb:Hid (RB V6 Q #[.slice a4 n3 c4,.slice b4 m3 d4] 25):=Lib.hid (by rw [hV,hQ];exact rb_new _ _ _)
 have HVe6:=Lib.hid hV.symm
 have HQe:=Lib.hid hQ.symm
 replace HX:=Lib.hid (HX.out.next hbv)
 replace HY:=Lib.hid (HY.out.next hbv)
 replace HZ:=Lib.hid (HZ.out.next hbv)
 replace HU:=Lib.hid (after HU.out hbv)
 replace HU5:=Lib.hid (after HU5.out hbv)
 replace HB:=Lib.hid (after HB.out hbv)
 have HU6:=Lib.hid hbv
 clear hV hbv hQ
 have GSame:Hid (∀ v,Below u5.heap.size u5 v->Below u6.heap.size u6 v->Calls Tryz.prog 17 #[.agg #[.slice a3 n3 c3,.slice b3 m3 d3],.agg #[.slice a4 n3 c4,.slice b4 m3 d4]] v (SameP True v)):=Lib.hid fun v hv hv2=>by
  have e1:=HN3.out
  have e2:=HM3.out
  have e3:n3=L4.length:=by have:=congrArg List.length HL4.out;rw [<-HL3.out,List.length_map,List.length_map] at this;rw [HN3.out];exact this.symm
  have gb:=HGb.out
  have r3:∀ m ∈ L3,m.sc.rels.length<=1000000:=fun m hm=>by have:=gb.2.2 m.sc (by rw [<-HL3.out];exact List.mem_map.2 ⟨m,hm,rfl⟩);omega
  have r4:∀ m ∈ L4,m.sc.rels.length<=1000000:=fun m hm=>by have:=gb.2.2 m.sc (by rw [<-HL4.out];exact List.mem_map.2 ⟨m,hm,rfl⟩);omega
  have n32:n3<=maxLen:=by have:=congrArg List.length HL3.out;rw [List.length_map] at this;have:=gb.1;unfold maxLen;omega
  have m32:m3<=maxLen:=by have:=gb.2.1;unfold maxLen;omega
  refine (rOSameB a3 b3 a4 b4 n3 c3 m3 d3 n3 c4 m3 d4 (L3.map (·.sc)=L4.map (·.sc)/\GY=GY) v (fun t ht=>?_)).mono ?_
  ·have k1:=(HG3.out.next (after hv ht))
   have k2:=(HG4.out.next (after hv2 ht))
   exact rOSame_any a3 b3 a4 b4 n3 c3 m3 d3 n3 c4 m3 d4 L3 L4 GY GY t n32 m32 n32 m32 (by rw [e1];exact k1.secs) (by rw [e2];exact k1.syms) (by rw [e3];exact k2.secs) (by rw [e2];exact k2.syms) k1.notes k2.notes r3 r4
  ·rintro e t ⟨r,rfl,hr,hb⟩
   exact ⟨r,rfl,⟨fun _=>trivial,fun _=>hr.2 ⟨by rw [HL3.out,HL4.out],rfl⟩⟩,hb⟩
 have x0:(u6.alloc (.cells #[.slice a4 n3 c4,.slice b4 m3 d4] 25)).cell? ⟨X,0,none⟩=some (.slice o.a n o.c):=by rw [HVe6.out];exact HX.out.cell
 have x1:(u6.alloc (.cells #[.slice a4 n3 c4,.slice b4 m3 d4] 25)).cell? ⟨X,1,none⟩=some (.slice o.a2 n2 o.c2):=by rw [HVe6.out];exact HX.out.cell
 go_wp2_with fail
 rw [HVe6.out,HQe.out]
 clear x0 x1
 refine (HFind.out _ HB.out).mono ?_
 rintro e u7 ⟨rfl,hb⟩
 replace HX:=Lib.hid (HX.out.next hb)
 replace HY:=Lib.hid (HY.out.next hb)
 replace HZ:=Lib.hid (HZ.out.next hb)
 replace HQb:=Lib.hid (HQb.out.next hb)
 replace HU:=Lib.hid (after HU.out hb)
 replace HU5:=Lib.hid (after HU5.out hb)
 replace HU6:=Lib.hid (after HU6.out hb)
 replace HB:=Lib.hid (after HB.out hb)
 clear hb HFind
 have y0:u7.cell? ⟨Y,0,none⟩=some (.slice o'.a n o'.c):=HY.out.cell
 have y1:u7.cell? ⟨Y,1,none⟩=some (.slice o'.a2 n2 o'.c2):=HY.out.cell
 go_wp2_with fail
 clear y0 y1
 refine (RFind.out _ HU.out).mono ?_
 rintro e u8 ⟨rfl,hb⟩
 replace HX:=Lib.hid (HX.out.next hb)
 replace HY:=Lib.hid (HY.out.next hb)
 replace HZ:=Lib.hid (HZ.out.next hb)
 replace HQb:=Lib.hid (HQb.out.next hb)
 replace HU:=Lib.hid (after HU.out hb)
 replace HU5:=Lib.hid (after HU5.out hb)
 replace HU6:=Lib.hid (after HU6.out hb)
 replace HB:=Lib.hid (after HB.out hb)
 clear hb RFind HBg HNm HGu HGb HQ HPB HPE HFI HFB HO HNn HNn2 HO' HS' HL' HM1 HM2 HF' HFw2 HDs HL3 HL4 HG3 HG4 HN3 HM3
 have hst:=str_same PB
 go_wp2_with fail
 have HcS:Hid (∀ v,Below u8.heap.size u8 v->v.cell? ⟨X,0,none⟩=some (.slice o.a n o.c)/\v.cell? ⟨X,1,none⟩=some (.slice o.a2 n2 o.c2)/\v.cell? ⟨Y,0,none⟩=some (.slice o'.a n o'.c)/\v.cell? ⟨Y,1,none⟩=some (.slice o'.a2 n2 o'.c2)/\v.cell? ⟨Z,0,none⟩=some (.slice a3 n3 c3)/\v.cell? ⟨Z,1,none⟩=some (.slice b3 m3 d3)/\v.cell? ⟨Q,0,none⟩=some (.slice a4 n3 c4)/\v.cell? ⟨Q,1,none⟩=some (.slice b4 m3 d4)):=Lib.hid fun v hv=>⟨(HX.out.next hv).cell,(HX.out.next hv).cell,(HY.out.next hv).cell,(HY.out.next hv).cell,(HZ.out.next hv).cell,(HZ.out.next hv).cell,(HQb.out.next hv).cell,(HQb.out.next hv).cell⟩
 refine wp_region_held_drew (S:=fun v=>v.cell? ⟨X,0,none⟩=some (.slice o.a n o.c)/\v.cell? ⟨X,1,none⟩=some (.slice o.a2 n2 o.c2)/\v.cell? ⟨Y,0,none⟩=some (.slice o'.a n o'.c)/\v.cell? ⟨Y,1,none⟩=some (.slice o'.a2 n2 o'.c2)/\v.cell? ⟨Z,0,none⟩=some (.slice a3 n3 c3)/\v.cell? ⟨Z,1,none⟩=some (.slice b3 m3 d3)/\v.cell? ⟨Q,0,none⟩=some (.slice a4 n3 c4)/\v.cell? ⟨Q,1,none⟩=some (.slice b4 m3 d4)) (by kernel_rfl) (HcS.out _ (Below.refl _ _).drew) (fun hHeld=>?_)
 have HT8:=Lib.hid (Below.refl u8.heap.size u8).drew
 clear HX HY HZ HQb
 refine rd 0 rfl (fun K hK=>?_)
 go_simp
 go_wp2_with (go_at_call 14;refine (HHeld.out _ (after HB.out HT8.out)).mono ?_;rintro e z1 ⟨rfl,hb⟩)
 have HT9:=Lib.hid (after HT8.out hb)
 clear hb
 refine hK.out _ _ (HcS.out _ HT9.out) (fun hHeld1=>?_)
 clear hK K hHeld
 refine tk8z 1 _ rfl hHeld1 ?_
 refine tk8z 2 _ rfl hHeld1 ?_
 refine tk8z 4 _ rfl hHeld1 ?_
 refine rd 3 rfl (fun K hK=>?_)
 go_simp
 go_wp2_with (go_at_call 15;refine (HIs.out _ (after HB.out HT9.out)).mono ?_;rintro e z2 ⟨rfl,hb⟩)
 have HT10:=Lib.hid (after HT9.out hb)
 clear hb
 refine hK.out _ _ (HcS.out _ HT10.out) (fun hHeld2=>?_)
 clear hK K hHeld1
 refine rd 5 rfl (fun K hK=>?_)
 go_simp
 go_wp2_with (go_at_call 16;refine (RIs.out _ (after HU.out HT10.out)).mono ?_;rintro e z3 ⟨rfl,hb⟩)
 have HT11:=Lib.hid (after HT10.out hb)
 clear hb
 refine hK.out _ _ (HcS.out _ HT11.out) (fun hHeld3=>?_)
 clear hK K hHeld2
 have hqq:(q == q)=true:=by cases q <;> rfl
 refine tk8z 6 _ rfl hHeld3 ?_
 refine tk8z 7 _ rfl hHeld3 ?_
 refine tk8z 8 _ rfl hHeld3 ?_
 refine tk8z 9 _ rfl hHeld3 ?_
 refine tk8z 10 _ rfl hHeld3 ?_
 refine tk8z 11 _ rfl hHeld3 ?_
 refine tk8z 12 _ rfl hHeld3 ?_
 refine tk8z 13 _ rfl hHeld3 ?_
 refine tk8z 14 _ rfl hHeld3 ?_
 refine tk8z 15 _ rfl hHeld3 ?_
 refine tk8z 16 _ rfl hHeld3 ?_
 refine tk8z 17 _ rfl hHeld3 ?_
 refine tk8z 18 _ rfl hHeld3 ?_
 refine tk8z 19 _ rfl hHeld3 ?_
 refine tk8z 20 _ rfl hHeld3 ?_
 refine rd 21 rfl (fun K hK=>?_)
 go_simp
 go_wp2_with (go_at_call 17;refine (GSame.out _ (after HU5.out HT11.out) (after HU6.out HT11.out)).mono ?_;rintro e z4 ⟨r1,rfl,hr1,hb⟩)
 obtain rfl:=hr1.2 trivial
 have HT12:=Lib.hid (after HT11.out hb)
 clear hb
 refine hK.out _ _ (HcS.out _ HT12.out) (fun hHeld4=>?_)
 clear hK K hHeld3
 refine tk8z 22 _ rfl hHeld4 ?_
 refine tk8z 23 _ rfl hHeld4 ?_
 refine tk8z 24 _ rfl hHeld4 ?_
 refine tk8z 25 _ rfl hHeld4 ?_
 refine tk8z 26 _ rfl hHeld4 ?_
 refine tk8z 27 _ rfl hHeld4 ?_
 refine tk8z 28 _ rfl hHeld4 ?_
 refine tk8z 29 _ rfl hHeld4 ?_
 refine tk8z 30 _ rfl hHeld4 ?_
 refine tk8z 31 _ rfl hHeld4 ?_
 refine tk8z 32 _ rfl hHeld4 ?_
 refine tk8z 33 _ rfl hHeld4 ?_
 refine tk8z 34 _ rfl hHeld4 ?_
 refine tk8z 35 _ rfl hHeld4 ?_
 refine tk8z 36 _ rfl hHeld4 ?_
 refine tk8z 37 _ rfl hHeld4 ?_
 refine tk8z 38 _ rfl hHeld4 ?_
 refine tk8z 39 _ rfl hHeld4 ?_
 refine tk8z 40 _ rfl hHeld4 ?_
 refine rd 41 rfl (fun K hK=>?_)
 go_simp
 go_wp2_with (go_at_call 17;refine (RSame.out _ (after HB.out HT12.out) (after HU.out HT12.out)).mono ?_;rintro e z5 ⟨r2,rfl,hr2,hb⟩)
 obtain rfl:=hr2.2 trivial
 have HT13:=Lib.hid (after HT12.out hb)
 clear hb
 refine hK.out _ _ (HcS.out _ HT13.out) (fun hHeld5=>?_)
 clear hK K hHeld4
 refine tk8z 42 _ rfl hHeld5 ?_
 refine rd 43 rfl (fun K hK=>?_)
 go_simp
 refine hK.out _ _ hHeld5 (fun hHeldF=>?_)
 clear hK K
 refine wpAnyH_done (by kernel_rfl) ?_ _
 go_wp2
 go_ret
 exact ⟨rfl,after HB.out HT13.out⟩
theorem ObjDoes_walk (w:World) (o:Oz) (h:OxZ w o) (D:ByteArray) (hD:D.size<=reachBytes) (N:ByteArray) (hN:N.size<=reachBytes) (hT:TabP w):Calls Tryz.prog 3 #[.agg #[.slice o.a o.L.length o.c,.slice o.a2 o.l.length o.c2],.string D,.string N] w (RetB (.bool true) w):=
 ObjDoes_at o w h D (by unfold reachBytes at hD;unfold maxLen;omega) N (by unfold reachBytes at hN;unfold maxLen;omega) hT
end Go.Proofs.YthkolmebokfagaaGreatDoor
