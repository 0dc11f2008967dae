/- obj: the reader: section. obj: the reader: section, whole. obj: the reader: object. obj: Get of any text. obj: Get, in two ways. -/
import Derived.Test.YthkolmebokfagaaGreatDoorqL
import Derived.Deep.RegionLaw
import Derived.Deep.AppendLies
set_option maxRecDepth 100000
set_option maxHeartbeats 4000000
set_option linter.unusedVariables false
set_option linter.unusedSimpArgs false
namespace Go.Proofs.YthkolmebokfagaaGreatDoor
open Go.RowKit
open Go.ChangeShapes Go.WideShapes Go.Deep Go.RowKit
structure SS (w u:World) (r X:Nat) (D:ByteArray) (s:Sc) (a:Option Addr) (c:Nat):Prop where
 rr:RO u r D
 xx:RB u X (scA scZ none 0 0) 57
 yy:RB u (X+1) (scA s a s.rels.length c) 57
 oo:u.ownsRow (X+2) 82 4 (.slice a s.rels.length c) s.rels.length (s.rels.flatMap rlC)
 kk:KP r w u
 ee:X=w.heap.size
 nn:r < X
theorem SS.mk0 {w:World} {r:Nat} {D:ByteArray} (h:RO w r D):SS w ((w.alloc (.cells (scA scZ none 0 0) 57)).alloc (.cells (scA scZ none 0 0) 57)) r w.heap.size D scZ none 0:=by
 have s1:(w.alloc (.cells (scA scZ none 0 0) 57)).heap.size=w.heap.size+1:=World.size_alloc _ _
 have hb:Below w.heap.size w ((w.alloc (.cells (scA scZ none 0 0) 57)).alloc (.cells (scA scZ none 0 0) 57)):=((Below.refl _ w).alloc (Nat.le_refl _) _).alloc (by rw [s1];omega) _
 refine ⟨h.next hb,?_,?_,World.ownsRow_nil _ _ _ _,KP.of_below hb,rfl,lt_of_block h⟩
 ·unfold RB
  rw [Below.heap_alloc _ _ _ (by rw [s1];omega)];exact (MapKept.heap_alloc _ _).1
 ·unfold RB
  rw [<-s1];exact (MapKept.heap_alloc _ _).1
theorem own_kp2 {w w':World} {B p e n:Nat} {v:Value} {xs:List Value} {sz:Nat} (h:w.ownsRow B e sz v n xs) (hk:KP p w w') (hp:p < B):w'.ownsRow B e sz v n xs:=by
 refine h.kept hk ?_
 cases hv:v.ownBlock with
 | none=>exact .inl rfl
 | some g=>right;have:=(h.lt g hv).1;simp;omega
theorem SS.call {w u u':World} {r X:Nat} {D D':ByteArray} {s:Sc} {a:Option Addr} {c:Nat} (h:SS w u r X D s a c) (hR:RO u' r D') (hK:KP r u u'):SS w u' r X D' s a c:=
 ⟨hR,h.xx.kept hK (by have:=h.nn;omega),h.yy.kept hK (by have:=h.nn;omega),own_kp2 h.oo hK (by have:=h.nn;omega),h.kk.trans' hK,h.ee,h.nn⟩
theorem SS.drew {w u:World} {r X:Nat} {D:ByteArray} {s:Sc} {a:Option Addr} {c:Nat} (h:SS w u r X D s a c):SS w u.drew r X D s a c:=
 h.call (h.rr.next ((Below.refl _ u).drew)) (KP.of_below ((Below.refl _ u).drew))
theorem SS.set {w u:World} {r X:Nat} {D:ByteArray} {s s':Sc} {a:Option Addr} {c:Nat} (h:SS w u r X D s a c) (j:Nat) (v:Value)
  (he:(scA s a s.rels.length c).setIfInBounds j v=scA s' a s'.rels.length c) (hr:s'.rels=s.rels):SS w (u.setCell ⟨X+1,j,none⟩ v) r X D s' a c:=by
 have hn:=h.nn
 have hx:=h.ee
 refine ⟨(hother (by omega)).trans h.rr,(hother (by omega)).trans h.xx,?_,?_,h.kk.below ((Below.refl X u).setCell (p:=⟨X+1,j,none⟩) (by show X<=X+1;omega) _) (by omega),h.ee,h.nn⟩
 ·rw [<-he];exact hset h.yy
 ·rw [hr];exact own_kp2 h.oo (KP.step (X+1) u j v) (by omega)
theorem SS.append {w u w3:World} {r X:Nat} {D:ByteArray} {s:Sc} {a a':Option Addr} {c c':Nat} {x:Rl} (h:SS w u r X D s a c)
  (hown:w3.ownsRow (X+2) 82 4 (.slice a' (s.rels.length+1) c') (s.rels.length+1) (s.rels.flatMap rlC ++ rlC x)) (hgrow:(u.alloc (.cells (rlA x) 82)).grownBy w3 (Value.slice a s.rels.length c).ownBlock):
  SS w (w3.setCell ⟨X+1,5,none⟩ (.slice a' (s.rels.length+1) c')) r X D ⟨s.name,s.kind,s.keep,s.align,s.data,s.rels ++ [x]⟩ a' c':=by
 have hn:=h.nn
 have hx:=h.ee
 have hp:X+1 < u.heap.size:=lt_of_block h.yy
 have hbV:Below (X+2) u (u.alloc (.cells (rlA x) 82)):=(Below.refl (X+2) u).alloc (by omega) _
 have hbw:Below (X+2) u w3:=hbV.grown hgrow (by have:=hbV.size;omega) (fun j hj=>(h.oo.lt j hj).1)
 have hr3:RO w3 r D:=(hbw.block r (by omega)).trans h.rr
 have hx3:RB w3 X (scA scZ none 0 0) 57:=(hbw.block X (by omega)).trans h.xx
 have hy3:RB w3 (X+1) (scA s a s.rels.length c) 57:=(hbw.block (X+1) (by omega)).trans h.yy
 refine ⟨(hother (by omega)).trans hr3,(hother (by omega)).trans hx3,?_,?_,h.kk.below ((hbw.mono (show X<=X+2 by omega)).setCell (p:=⟨X+1,5,none⟩) (by show X<=X+1;omega) _) (by omega),h.ee,h.nn⟩
 ·have:=hset (o:=5) (x:=.slice a' (s.rels.length+1) c') hy3
  unfold RB
  simpa using this
 ·have:=own_kp2 hown (KP.step (X+1) w3 5 (.slice a' (s.rels.length+1) c')) (by omega)
  simpa [List.flatMap_append] using this
theorem SS.cells {w u:World} {r X:Nat} {D:ByteArray} {s:Sc} {a:Option Addr} {c:Nat} (h:SS w u r X D s a c) (j:Nat) (v:Value) (hv:(scA s a s.rels.length c)[j]?=some v):u.cell? ⟨X+1,j,none⟩=some v:=by
 have:=h.yy
 unfold RB at this
 unfold World.cell?
 rw [this];simpa using hv
theorem SS.free {w u:World} {r X:Nat} {D:ByteArray} {s:Sc} {a:Option Addr} {c:Nat} (h:SS w u r X D s a c) (j:Nat):u.frozen? ⟨X+1,j,none⟩=false:=h.yy.frozen
def SecD (s:Sc) (r:Nat) (D:ByteArray) (w:World) (e:Ending) (w':World):Prop:=
 ∃ a c,e=.returned (scV s a s.rels.length c)/\RO w' r D/\KP r w w'/\w'.ownsRow w.heap.size 82 4 (.slice a s.rels.length c) s.rels.length (s.rels.flatMap rlC)
theorem own_low {w:World} {B B' e sz n:Nat} {v:Value} {xs:List Value} (h:w.ownsRow B e sz v n xs) (hB:B'<=B):w.ownsRow B' e sz v n xs:=by
 refine ⟨h.1,?_⟩
 rcases h.2 with hh | ⟨g,cap,cur,hv,hb,r⟩
 ·exact .inl hh
 ·exact .inr ⟨g,cap,cur,hv,Nat.le_trans hB hb,r⟩
theorem SS.fin {w u:World} {r X:Nat} {D:ByteArray} {s:Sc} {a:Option Addr} {c:Nat} (h:SS w u r X D s a c):
  RB (sset u X s a s.rels.length c) X (scA s a s.rels.length c) 57/\SecD s r D w (.returned (scV s a s.rels.length c)) (sset u X s a s.rels.length c):=by
 have hn:=h.nn
 have hx:=h.ee
 have hb:Below X u (sset u X s a s.rels.length c):=sset_below (Below.refl X u) (Nat.le_refl X) s a s.rels.length c
 have hK:KP X u (sset u X s a s.rels.length c):=(((((KP.step X u 0 _).trans' (KP.step X _ 1 _)).trans' (KP.step X _ 2 _)).trans' (KP.step X _ 3 _)).trans' (KP.step X _ 4 _)).trans' (KP.step X _ 5 _)
 exact ⟨sset_heap h.xx s a s.rels.length c,a,c,rfl,(hb.block r hn).trans h.rr,h.kk.below hb (by omega),own_low (own_kp2 h.oo hK (by omega)) (by omega)⟩
def preL (xs:List Rl) (o:Option (List Rl × ByteArray)):Option (List Rl × ByteArray):=match o with
 | none=>none
 | some (l,D)=>some (xs ++ l,D)
def SecP (x:Option (Sc × ByteArray)) (r:Nat) (w:World) (e:Ending) (w':World):Prop:=match x with
 | none=>ThrO r w e w'
 | some (s,D)=>SecD s r D w e w'
theorem secP_thr {x:Option (Sc × ByteArray)} {r:Nat} {w w':World} (hx:x=none) (hk:KP r w w'):SecP x r w (.panicked [{ v:=.iface 90 (.agg #[]),recovered:=false }]) w':=by
 subst hx;exact ⟨rfl,hk⟩
theorem secP_did {x:Option (Sc × ByteArray)} {s:Sc} {D:ByteArray} {r:Nat} {w w':World} {e:Ending} (hx:x=some (s,D)) (h:SecD s r D w e w'):SecP x r w e w':=by
 subst hx;exact h
theorem rdRel_no1 {D:ByteArray} (h1:rdNum mxI D=none):rdRel D=none:=by unfold rdRel;rw [h1]
theorem rdRel_no2 {D E1:ByteArray} {x:Nat} (h1:rdNum mxI D=some (x,E1)) (h2:rdNum mxI E1=none):rdRel D=none:=by unfold rdRel;rw [h1];simp only;rw [h2]
theorem rdRel_no3 {D E1 E2:ByteArray} {x y:Nat} (h1:rdNum mxI D=some (x,E1)) (h2:rdNum mxI E1=some (y,E2)) (h3:rdNum mxI E2=none):rdRel D=none:=by unfold rdRel;rw [h1];simp only;rw [h2];simp only;rw [h3]
theorem rdRel_no4 {D E1 E2 E3:ByteArray} {x y z:Nat} (h1:rdNum mxI D=some (x,E1)) (h2:rdNum mxI E1=some (y,E2)) (h3:rdNum mxI E2=some (z,E3)) (h4:rdInt E3=none):rdRel D=none:=by unfold rdRel;rw [h1];simp only;rw [h2];simp only;rw [h3];simp only;rw [h4]
theorem rdRel_yes {D E1 E2 E3 E4:ByteArray} {x y z:Nat} {v:Int} (h1:rdNum mxI D=some (x,E1)) (h2:rdNum mxI E1=some (y,E2)) (h3:rdNum mxI E2=some (z,E3)) (h4:rdInt E3=some (v,E4)):rdRel D=some (⟨x,y,z,v⟩,E4):=by unfold rdRel;rw [h1];simp only;rw [h2];simp only;rw [h3];simp only;rw [h4]
theorem rdInt_size {D D':ByteArray} {x:Int} (h:rdInt D=some (x,D')):D'.size<=D.size:=by
 unfold rdInt at h
 split at h
 ·simp only [Option.some.injEq,Prod.mk.injEq] at h;rw [<-h.2];exact rest_size _ _
 ·cases h
theorem any_end2 {P:Program} {a:Act} {w:World} {G Z:Prop} (g:G) (h:wpAny P .any #[] (fun _ _ _=>Z) 0 #[] a w):G:=g
theorem osec_no0 (r:Nat) (D:ByteArray)  (h1:rdTxt 31 D=none) (hD:D.size<=maxLen) (w:World) (h:RO w r D):
  Calls Tryz.prog 73 #[.pointer (some ⟨r,0,none⟩)] w (ThrO r w):=by
 have C1:Hid (∀ u,RO u r D->Calls Tryz.prog 96 #[.pointer (some ⟨r,0,none⟩),.int .i64 31] u (ThrO r u)):=Lib.hid fun u hu=>rdTxt_no h1 (by decide) (by decide) (by omega) u hu
 obtain ⟨X,hX⟩:∃ X,X=w.heap.size:=⟨_,rfl⟩
 have HXE:=Lib.hid hX
 have HS:Hid (SS w ((w.alloc (.cells #[.string ⟨#[]⟩,.int .i64 0,.bool false,.int .i64 0,.string ⟨#[]⟩,.slice none 0 0] 57)).alloc (.cells #[.string ⟨#[]⟩,.int .i64 0,.bool false,.int .i64 0,.string ⟨#[]⟩,.slice none 0 0] 57)) r X D ⟨[],0,false,0,[],[]⟩ none 0):=Lib.hid (by rw [hX];exact SS.mk0 h)
 clear h hX hD
 clear h1
 go_enter Tryz.func73,Tryz.ntmps73
 go_wp2_with fail
 try rw [<-HXE.out]
 generalize ((w.alloc (.cells #[.string ⟨#[]⟩,.int .i64 0,.bool false,.int .i64 0,.string ⟨#[]⟩,.slice none 0 0] 57)).alloc (.cells #[.string ⟨#[]⟩,.int .i64 0,.bool false,.int .i64 0,.string ⟨#[]⟩,.slice none 0 0] 57))=W0 at HS ⊢
 go_wp2_with fail
 refine (C1.out _ HS.out.rr).mono ?_
 rintro e u1 ⟨rfl,hk⟩
 have HK:=Lib.hid (HS.out.kk.trans' hk)
 clear hk
 go_wp2
 exact ⟨rfl,rfl,HK.out⟩
theorem osec_no1 (r:Nat) (D D1:ByteArray) (nm:List UInt8) (h1:rdTxt 31 D=some ((bA nm),D1)) (h2:rdNum 3 D1=none) (hD:D.size<=maxLen) (w:World) (h:RO w r D):
  Calls Tryz.prog 73 #[.pointer (some ⟨r,0,none⟩)] w (ThrO r w):=by
 have s1:=rdTxt_size h1
 have C1:Hid (∀ u,RO u r D->Calls Tryz.prog 96 #[.pointer (some ⟨r,0,none⟩),.int .i64 31] u (DidO (.string (bA nm)) r D1 u)):=Lib.hid fun u hu=>rdTxt_ok h1 (by decide) (by decide) (by omega) u hu
 have C2:Hid (∀ u,RO u r D1->Calls Tryz.prog 72 #[.pointer (some ⟨r,0,none⟩),.int .i64 3] u (ThrO r u)):=Lib.hid fun u hu=>rdNum_no h2 (by decide) (by decide) (by omega) u hu
 obtain ⟨X,hX⟩:∃ X,X=w.heap.size:=⟨_,rfl⟩
 have HXE:=Lib.hid hX
 have HS:Hid (SS w ((w.alloc (.cells #[.string ⟨#[]⟩,.int .i64 0,.bool false,.int .i64 0,.string ⟨#[]⟩,.slice none 0 0] 57)).alloc (.cells #[.string ⟨#[]⟩,.int .i64 0,.bool false,.int .i64 0,.string ⟨#[]⟩,.slice none 0 0] 57)) r X D ⟨[],0,false,0,[],[]⟩ none 0):=Lib.hid (by rw [hX];exact SS.mk0 h)
 clear h hX hD
 clear h1 h2 s1
 go_enter Tryz.func73,Tryz.ntmps73
 go_wp2_with fail
 try rw [<-HXE.out]
 generalize ((w.alloc (.cells #[.string ⟨#[]⟩,.int .i64 0,.bool false,.int .i64 0,.string ⟨#[]⟩,.slice none 0 0] 57)).alloc (.cells #[.string ⟨#[]⟩,.int .i64 0,.bool false,.int .i64 0,.string ⟨#[]⟩,.slice none 0 0] 57))=W0 at HS ⊢
 go_wp2_with fail
 refine (C1.out _ HS.out.rr).mono ?_
 rintro e u1 ⟨rfl,hr,hk⟩
 replace HS:=Lib.hid (HS.out.call hr hk)
 clear hr hk
 have f0:u1.frozen? ⟨X+1,0,none⟩=false:=HS.out.free 0
 have g0:u1.cell? ⟨X+1,0,none⟩=some (.string ⟨#[]⟩):=HS.out.cells 0 _ rfl
 have HS':Hid (SS w (u1.setCell ⟨X+1,0,none⟩ (.string (bA nm))) r X D1 ⟨nm,0,false,0,[],[]⟩ none 0):=Lib.hid (HS.out.set 0 _ rfl rfl)
 clear HS
 have HS:=HS'
 clear HS'
 go_wp2_with fail
 refine (C2.out _ HS.out.rr).mono ?_
 rintro e u2 ⟨rfl,hk⟩
 have HK:=Lib.hid (HS.out.kk.trans' hk)
 clear hk
 go_wp2
 exact ⟨rfl,rfl,HK.out⟩
theorem osec_no2 (r:Nat) (D D1 D2:ByteArray) (nm:List UInt8) (k:Nat) (h1:rdTxt 31 D=some ((bA nm),D1)) (h2:rdNum 3 D1=some (k,D2)) (h3:rdNum 1 D2=none) (hD:D.size<=maxLen) (w:World) (h:RO w r D):
  Calls Tryz.prog 73 #[.pointer (some ⟨r,0,none⟩)] w (ThrO r w):=by
 have s1:=rdTxt_size h1
 have s2:=rdNum_size h2
 have C1:Hid (∀ u,RO u r D->Calls Tryz.prog 96 #[.pointer (some ⟨r,0,none⟩),.int .i64 31] u (DidO (.string (bA nm)) r D1 u)):=Lib.hid fun u hu=>rdTxt_ok h1 (by decide) (by decide) (by omega) u hu
 have C2:Hid (∀ u,RO u r D1->Calls Tryz.prog 72 #[.pointer (some ⟨r,0,none⟩),.int .i64 3] u (DidO (.int .i64 (k:Int)) r D2 u)):=Lib.hid fun u hu=>rdNum_ok h2 (by decide) (by omega) u hu
 have C3:Hid (∀ u,RO u r D2->Calls Tryz.prog 72 #[.pointer (some ⟨r,0,none⟩),.int .i64 1] u (ThrO r u)):=Lib.hid fun u hu=>rdNum_no h3 (by decide) (by decide) (by omega) u hu
 obtain ⟨X,hX⟩:∃ X,X=w.heap.size:=⟨_,rfl⟩
 have HXE:=Lib.hid hX
 have HS:Hid (SS w ((w.alloc (.cells #[.string ⟨#[]⟩,.int .i64 0,.bool false,.int .i64 0,.string ⟨#[]⟩,.slice none 0 0] 57)).alloc (.cells #[.string ⟨#[]⟩,.int .i64 0,.bool false,.int .i64 0,.string ⟨#[]⟩,.slice none 0 0] 57)) r X D ⟨[],0,false,0,[],[]⟩ none 0):=Lib.hid (by rw [hX];exact SS.mk0 h)
 clear h hX hD
 clear h1 h2 h3 s1 s2
 go_enter Tryz.func73,Tryz.ntmps73
 go_wp2_with fail
 try rw [<-HXE.out]
 generalize ((w.alloc (.cells #[.string ⟨#[]⟩,.int .i64 0,.bool false,.int .i64 0,.string ⟨#[]⟩,.slice none 0 0] 57)).alloc (.cells #[.string ⟨#[]⟩,.int .i64 0,.bool false,.int .i64 0,.string ⟨#[]⟩,.slice none 0 0] 57))=W0 at HS ⊢
 go_wp2_with fail
 refine (C1.out _ HS.out.rr).mono ?_
 rintro e u1 ⟨rfl,hr,hk⟩
 replace HS:=Lib.hid (HS.out.call hr hk)
 clear hr hk
 have f0:u1.frozen? ⟨X+1,0,none⟩=false:=HS.out.free 0
 have g0:u1.cell? ⟨X+1,0,none⟩=some (.string ⟨#[]⟩):=HS.out.cells 0 _ rfl
 have HS':Hid (SS w (u1.setCell ⟨X+1,0,none⟩ (.string (bA nm))) r X D1 ⟨nm,0,false,0,[],[]⟩ none 0):=Lib.hid (HS.out.set 0 _ rfl rfl)
 clear HS
 have HS:=HS'
 clear HS'
 go_wp2_with fail
 refine (C2.out _ HS.out.rr).mono ?_
 rintro e u2 ⟨rfl,hr,hk⟩
 replace HS:=Lib.hid (HS.out.call hr hk)
 clear hr hk
 have f1:u2.frozen? ⟨X+1,1,none⟩=false:=HS.out.free 1
 have g1:u2.cell? ⟨X+1,1,none⟩=some (.int .i64 0):=HS.out.cells 1 _ rfl
 have HS':Hid (SS w (u2.setCell ⟨X+1,1,none⟩ (.int .i64 (k:Int))) r X D2 ⟨nm,k,false,0,[],[]⟩ none 0):=Lib.hid (HS.out.set 1 _ rfl rfl)
 clear HS
 have HS:=HS'
 clear HS'
 go_wp2_with fail
 refine (C3.out _ HS.out.rr).mono ?_
 rintro e u3 ⟨rfl,hk⟩
 have HK:=Lib.hid (HS.out.kk.trans' hk)
 clear hk
 go_wp2
 exact ⟨rfl,rfl,HK.out⟩
theorem osec_no3 (r:Nat) (D D1 D2 D3:ByteArray) (nm:List UInt8) (k q:Nat) (h1:rdTxt 31 D=some ((bA nm),D1)) (h2:rdNum 3 D1=some (k,D2)) (h3:rdNum 1 D2=some (q,D3)) (h4:rdNum 12 D3=none) (hD:D.size<=maxLen) (w:World) (h:RO w r D):
  Calls Tryz.prog 73 #[.pointer (some ⟨r,0,none⟩)] w (ThrO r w):=by
 have s1:=rdTxt_size h1
 have s2:=rdNum_size h2
 have s3:=rdNum_size h3
 have C1:Hid (∀ u,RO u r D->Calls Tryz.prog 96 #[.pointer (some ⟨r,0,none⟩),.int .i64 31] u (DidO (.string (bA nm)) r D1 u)):=Lib.hid fun u hu=>rdTxt_ok h1 (by decide) (by decide) (by omega) u hu
 have C2:Hid (∀ u,RO u r D1->Calls Tryz.prog 72 #[.pointer (some ⟨r,0,none⟩),.int .i64 3] u (DidO (.int .i64 (k:Int)) r D2 u)):=Lib.hid fun u hu=>rdNum_ok h2 (by decide) (by omega) u hu
 have C3:Hid (∀ u,RO u r D2->Calls Tryz.prog 72 #[.pointer (some ⟨r,0,none⟩),.int .i64 1] u (DidO (.int .i64 (q:Int)) r D3 u)):=Lib.hid fun u hu=>rdNum_ok h3 (by decide) (by omega) u hu
 have C4:Hid (∀ u,RO u r D3->Calls Tryz.prog 72 #[.pointer (some ⟨r,0,none⟩),.int .i64 12] u (ThrO r u)):=Lib.hid fun u hu=>rdNum_no h4 (by decide) (by decide) (by omega) u hu
 have hq:(q:Int)<=1:=(rdNum_only h3).2.1
 have hqb:(((q:Int) == 1):Bool)=(q == 1):=by
  have:q=0\/q=1:=by omega
  rcases this with rfl | rfl <;> rfl
 clear hq
 obtain ⟨X,hX⟩:∃ X,X=w.heap.size:=⟨_,rfl⟩
 have HXE:=Lib.hid hX
 have HS:Hid (SS w ((w.alloc (.cells #[.string ⟨#[]⟩,.int .i64 0,.bool false,.int .i64 0,.string ⟨#[]⟩,.slice none 0 0] 57)).alloc (.cells #[.string ⟨#[]⟩,.int .i64 0,.bool false,.int .i64 0,.string ⟨#[]⟩,.slice none 0 0] 57)) r X D ⟨[],0,false,0,[],[]⟩ none 0):=Lib.hid (by rw [hX];exact SS.mk0 h)
 clear h hX hD
 clear h1 h2 h3 h4 s1 s2 s3
 go_enter Tryz.func73,Tryz.ntmps73
 go_wp2_with fail
 try rw [<-HXE.out]
 generalize ((w.alloc (.cells #[.string ⟨#[]⟩,.int .i64 0,.bool false,.int .i64 0,.string ⟨#[]⟩,.slice none 0 0] 57)).alloc (.cells #[.string ⟨#[]⟩,.int .i64 0,.bool false,.int .i64 0,.string ⟨#[]⟩,.slice none 0 0] 57))=W0 at HS ⊢
 go_wp2_with fail
 refine (C1.out _ HS.out.rr).mono ?_
 rintro e u1 ⟨rfl,hr,hk⟩
 replace HS:=Lib.hid (HS.out.call hr hk)
 clear hr hk
 have f0:u1.frozen? ⟨X+1,0,none⟩=false:=HS.out.free 0
 have g0:u1.cell? ⟨X+1,0,none⟩=some (.string ⟨#[]⟩):=HS.out.cells 0 _ rfl
 have HS':Hid (SS w (u1.setCell ⟨X+1,0,none⟩ (.string (bA nm))) r X D1 ⟨nm,0,false,0,[],[]⟩ none 0):=Lib.hid (HS.out.set 0 _ rfl rfl)
 clear HS
 have HS:=HS'
 clear HS'
 go_wp2_with fail
 refine (C2.out _ HS.out.rr).mono ?_
 rintro e u2 ⟨rfl,hr,hk⟩
 replace HS:=Lib.hid (HS.out.call hr hk)
 clear hr hk
 have f1:u2.frozen? ⟨X+1,1,none⟩=false:=HS.out.free 1
 have g1:u2.cell? ⟨X+1,1,none⟩=some (.int .i64 0):=HS.out.cells 1 _ rfl
 have HS':Hid (SS w (u2.setCell ⟨X+1,1,none⟩ (.int .i64 (k:Int))) r X D2 ⟨nm,k,false,0,[],[]⟩ none 0):=Lib.hid (HS.out.set 1 _ rfl rfl)
 clear HS
 have HS:=HS'
 clear HS'
 go_wp2_with fail
 refine (C3.out _ HS.out.rr).mono ?_
 rintro e u3 ⟨rfl,hr,hk⟩
 replace HS:=Lib.hid (HS.out.call hr hk)
 clear hr hk
 have f2:u3.frozen? ⟨X+1,2,none⟩=false:=HS.out.free 2
 have g2:u3.cell? ⟨X+1,2,none⟩=some (.bool false):=HS.out.cells 2 _ rfl
 have HS':Hid (SS w (u3.setCell ⟨X+1,2,none⟩ (.bool (q == 1))) r X D3 ⟨nm,k,(q == 1),0,[],[]⟩ none 0):=Lib.hid (HS.out.set 2 _ rfl rfl)
 clear HS
 have HS:=HS'
 clear HS'
 go_wp2_with fail
 refine (C4.out _ HS.out.rr).mono ?_
 rintro e u4 ⟨rfl,hk⟩
 have HK:=Lib.hid (HS.out.kk.trans' hk)
 clear hk
 go_wp2
 exact ⟨rfl,rfl,HK.out⟩
theorem osec_no4 (r:Nat) (D D1 D2 D3 D4:ByteArray) (nm:List UInt8) (k q al:Nat) (h1:rdTxt 31 D=some ((bA nm),D1)) (h2:rdNum 3 D1=some (k,D2)) (h3:rdNum 1 D2=some (q,D3)) (h4:rdNum 12 D3=some (al,D4)) (h5:rdTxt 4096 D4=none) (hD:D.size<=maxLen) (w:World) (h:RO w r D):
  Calls Tryz.prog 73 #[.pointer (some ⟨r,0,none⟩)] w (ThrO r w):=by
 have s1:=rdTxt_size h1
 have s2:=rdNum_size h2
 have s3:=rdNum_size h3
 have s4:=rdNum_size h4
 have C1:Hid (∀ u,RO u r D->Calls Tryz.prog 96 #[.pointer (some ⟨r,0,none⟩),.int .i64 31] u (DidO (.string (bA nm)) r D1 u)):=Lib.hid fun u hu=>rdTxt_ok h1 (by decide) (by decide) (by omega) u hu
 have C2:Hid (∀ u,RO u r D1->Calls Tryz.prog 72 #[.pointer (some ⟨r,0,none⟩),.int .i64 3] u (DidO (.int .i64 (k:Int)) r D2 u)):=Lib.hid fun u hu=>rdNum_ok h2 (by decide) (by omega) u hu
 have C3:Hid (∀ u,RO u r D2->Calls Tryz.prog 72 #[.pointer (some ⟨r,0,none⟩),.int .i64 1] u (DidO (.int .i64 (q:Int)) r D3 u)):=Lib.hid fun u hu=>rdNum_ok h3 (by decide) (by omega) u hu
 have C4:Hid (∀ u,RO u r D3->Calls Tryz.prog 72 #[.pointer (some ⟨r,0,none⟩),.int .i64 12] u (DidO (.int .i64 (al:Int)) r D4 u)):=Lib.hid fun u hu=>rdNum_ok h4 (by decide) (by omega) u hu
 have C5:Hid (∀ u,RO u r D4->Calls Tryz.prog 96 #[.pointer (some ⟨r,0,none⟩),.int .i64 4096] u (ThrO r u)):=Lib.hid fun u hu=>rdTxt_no h5 (by decide) (by decide) (by omega) u hu
 have hq:(q:Int)<=1:=(rdNum_only h3).2.1
 have hqb:(((q:Int) == 1):Bool)=(q == 1):=by
  have:q=0\/q=1:=by omega
  rcases this with rfl | rfl <;> rfl
 clear hq
 obtain ⟨X,hX⟩:∃ X,X=w.heap.size:=⟨_,rfl⟩
 have HXE:=Lib.hid hX
 have HS:Hid (SS w ((w.alloc (.cells #[.string ⟨#[]⟩,.int .i64 0,.bool false,.int .i64 0,.string ⟨#[]⟩,.slice none 0 0] 57)).alloc (.cells #[.string ⟨#[]⟩,.int .i64 0,.bool false,.int .i64 0,.string ⟨#[]⟩,.slice none 0 0] 57)) r X D ⟨[],0,false,0,[],[]⟩ none 0):=Lib.hid (by rw [hX];exact SS.mk0 h)
 clear h hX hD
 clear h1 h2 h3 h4 h5 s1 s2 s3 s4
 go_enter Tryz.func73,Tryz.ntmps73
 go_wp2_with fail
 try rw [<-HXE.out]
 generalize ((w.alloc (.cells #[.string ⟨#[]⟩,.int .i64 0,.bool false,.int .i64 0,.string ⟨#[]⟩,.slice none 0 0] 57)).alloc (.cells #[.string ⟨#[]⟩,.int .i64 0,.bool false,.int .i64 0,.string ⟨#[]⟩,.slice none 0 0] 57))=W0 at HS ⊢
 go_wp2_with fail
 refine (C1.out _ HS.out.rr).mono ?_
 rintro e u1 ⟨rfl,hr,hk⟩
 replace HS:=Lib.hid (HS.out.call hr hk)
 clear hr hk
 have f0:u1.frozen? ⟨X+1,0,none⟩=false:=HS.out.free 0
 have g0:u1.cell? ⟨X+1,0,none⟩=some (.string ⟨#[]⟩):=HS.out.cells 0 _ rfl
 have HS':Hid (SS w (u1.setCell ⟨X+1,0,none⟩ (.string (bA nm))) r X D1 ⟨nm,0,false,0,[],[]⟩ none 0):=Lib.hid (HS.out.set 0 _ rfl rfl)
 clear HS
 have HS:=HS'
 clear HS'
 go_wp2_with fail
 refine (C2.out _ HS.out.rr).mono ?_
 rintro e u2 ⟨rfl,hr,hk⟩
 replace HS:=Lib.hid (HS.out.call hr hk)
 clear hr hk
 have f1:u2.frozen? ⟨X+1,1,none⟩=false:=HS.out.free 1
 have g1:u2.cell? ⟨X+1,1,none⟩=some (.int .i64 0):=HS.out.cells 1 _ rfl
 have HS':Hid (SS w (u2.setCell ⟨X+1,1,none⟩ (.int .i64 (k:Int))) r X D2 ⟨nm,k,false,0,[],[]⟩ none 0):=Lib.hid (HS.out.set 1 _ rfl rfl)
 clear HS
 have HS:=HS'
 clear HS'
 go_wp2_with fail
 refine (C3.out _ HS.out.rr).mono ?_
 rintro e u3 ⟨rfl,hr,hk⟩
 replace HS:=Lib.hid (HS.out.call hr hk)
 clear hr hk
 have f2:u3.frozen? ⟨X+1,2,none⟩=false:=HS.out.free 2
 have g2:u3.cell? ⟨X+1,2,none⟩=some (.bool false):=HS.out.cells 2 _ rfl
 have HS':Hid (SS w (u3.setCell ⟨X+1,2,none⟩ (.bool (q == 1))) r X D3 ⟨nm,k,(q == 1),0,[],[]⟩ none 0):=Lib.hid (HS.out.set 2 _ rfl rfl)
 clear HS
 have HS:=HS'
 clear HS'
 go_wp2_with fail
 refine (C4.out _ HS.out.rr).mono ?_
 rintro e u4 ⟨rfl,hr,hk⟩
 replace HS:=Lib.hid (HS.out.call hr hk)
 clear hr hk
 have f3:u4.frozen? ⟨X+1,3,none⟩=false:=HS.out.free 3
 have g3:u4.cell? ⟨X+1,3,none⟩=some (.int .i64 0):=HS.out.cells 3 _ rfl
 have HS':Hid (SS w (u4.setCell ⟨X+1,3,none⟩ (.int .i64 (al:Int))) r X D4 ⟨nm,k,(q == 1),al,[],[]⟩ none 0):=Lib.hid (HS.out.set 3 _ rfl rfl)
 clear HS
 have HS:=HS'
 clear HS'
 go_wp2_with fail
 refine (C5.out _ HS.out.rr).mono ?_
 rintro e u5 ⟨rfl,hk⟩
 have HK:=Lib.hid (HS.out.kk.trans' hk)
 clear hk
 go_wp2
 exact ⟨rfl,rfl,HK.out⟩
theorem osec_no5 (r:Nat) (D D1 D2 D3 D4 D5:ByteArray) (nm dt:List UInt8) (k q al:Nat) (h1:rdTxt 31 D=some ((bA nm),D1)) (h2:rdNum 3 D1=some (k,D2)) (h3:rdNum 1 D2=some (q,D3)) (h4:rdNum 12 D3=some (al,D4)) (h5:rdTxt 4096 D4=some ((bA dt),D5)) (h6:rdNum 64 D5=none) (hD:D.size<=maxLen) (w:World) (h:RO w r D):
  Calls Tryz.prog 73 #[.pointer (some ⟨r,0,none⟩)] w (ThrO r w):=by
 have s1:=rdTxt_size h1
 have s2:=rdNum_size h2
 have s3:=rdNum_size h3
 have s4:=rdNum_size h4
 have s5:=rdTxt_size h5
 have C1:Hid (∀ u,RO u r D->Calls Tryz.prog 96 #[.pointer (some ⟨r,0,none⟩),.int .i64 31] u (DidO (.string (bA nm)) r D1 u)):=Lib.hid fun u hu=>rdTxt_ok h1 (by decide) (by decide) (by omega) u hu
 have C2:Hid (∀ u,RO u r D1->Calls Tryz.prog 72 #[.pointer (some ⟨r,0,none⟩),.int .i64 3] u (DidO (.int .i64 (k:Int)) r D2 u)):=Lib.hid fun u hu=>rdNum_ok h2 (by decide) (by omega) u hu
 have C3:Hid (∀ u,RO u r D2->Calls Tryz.prog 72 #[.pointer (some ⟨r,0,none⟩),.int .i64 1] u (DidO (.int .i64 (q:Int)) r D3 u)):=Lib.hid fun u hu=>rdNum_ok h3 (by decide) (by omega) u hu
 have C4:Hid (∀ u,RO u r D3->Calls Tryz.prog 72 #[.pointer (some ⟨r,0,none⟩),.int .i64 12] u (DidO (.int .i64 (al:Int)) r D4 u)):=Lib.hid fun u hu=>rdNum_ok h4 (by decide) (by omega) u hu
 have C5:Hid (∀ u,RO u r D4->Calls Tryz.prog 96 #[.pointer (some ⟨r,0,none⟩),.int .i64 4096] u (DidO (.string (bA dt)) r D5 u)):=Lib.hid fun u hu=>rdTxt_ok h5 (by decide) (by decide) (by omega) u hu
 have C6:Hid (∀ u,RO u r D5->Calls Tryz.prog 72 #[.pointer (some ⟨r,0,none⟩),.int .i64 64] u (ThrO r u)):=Lib.hid fun u hu=>rdNum_no h6 (by decide) (by decide) (by omega) u hu
 have hq:(q:Int)<=1:=(rdNum_only h3).2.1
 have hqb:(((q:Int) == 1):Bool)=(q == 1):=by
  have:q=0\/q=1:=by omega
  rcases this with rfl | rfl <;> rfl
 clear hq
 obtain ⟨X,hX⟩:∃ X,X=w.heap.size:=⟨_,rfl⟩
 have HXE:=Lib.hid hX
 have HS:Hid (SS w ((w.alloc (.cells #[.string ⟨#[]⟩,.int .i64 0,.bool false,.int .i64 0,.string ⟨#[]⟩,.slice none 0 0] 57)).alloc (.cells #[.string ⟨#[]⟩,.int .i64 0,.bool false,.int .i64 0,.string ⟨#[]⟩,.slice none 0 0] 57)) r X D ⟨[],0,false,0,[],[]⟩ none 0):=Lib.hid (by rw [hX];exact SS.mk0 h)
 clear h hX hD
 clear h1 h2 h3 h4 h5 h6 s1 s2 s3 s4 s5
 go_enter Tryz.func73,Tryz.ntmps73
 go_wp2_with fail
 try rw [<-HXE.out]
 generalize ((w.alloc (.cells #[.string ⟨#[]⟩,.int .i64 0,.bool false,.int .i64 0,.string ⟨#[]⟩,.slice none 0 0] 57)).alloc (.cells #[.string ⟨#[]⟩,.int .i64 0,.bool false,.int .i64 0,.string ⟨#[]⟩,.slice none 0 0] 57))=W0 at HS ⊢
 go_wp2_with fail
 refine (C1.out _ HS.out.rr).mono ?_
 rintro e u1 ⟨rfl,hr,hk⟩
 replace HS:=Lib.hid (HS.out.call hr hk)
 clear hr hk
 have f0:u1.frozen? ⟨X+1,0,none⟩=false:=HS.out.free 0
 have g0:u1.cell? ⟨X+1,0,none⟩=some (.string ⟨#[]⟩):=HS.out.cells 0 _ rfl
 have HS':Hid (SS w (u1.setCell ⟨X+1,0,none⟩ (.string (bA nm))) r X D1 ⟨nm,0,false,0,[],[]⟩ none 0):=Lib.hid (HS.out.set 0 _ rfl rfl)
 clear HS
 have HS:=HS'
 clear HS'
 go_wp2_with fail
 refine (C2.out _ HS.out.rr).mono ?_
 rintro e u2 ⟨rfl,hr,hk⟩
 replace HS:=Lib.hid (HS.out.call hr hk)
 clear hr hk
 have f1:u2.frozen? ⟨X+1,1,none⟩=false:=HS.out.free 1
 have g1:u2.cell? ⟨X+1,1,none⟩=some (.int .i64 0):=HS.out.cells 1 _ rfl
 have HS':Hid (SS w (u2.setCell ⟨X+1,1,none⟩ (.int .i64 (k:Int))) r X D2 ⟨nm,k,false,0,[],[]⟩ none 0):=Lib.hid (HS.out.set 1 _ rfl rfl)
 clear HS
 have HS:=HS'
 clear HS'
 go_wp2_with fail
 refine (C3.out _ HS.out.rr).mono ?_
 rintro e u3 ⟨rfl,hr,hk⟩
 replace HS:=Lib.hid (HS.out.call hr hk)
 clear hr hk
 have f2:u3.frozen? ⟨X+1,2,none⟩=false:=HS.out.free 2
 have g2:u3.cell? ⟨X+1,2,none⟩=some (.bool false):=HS.out.cells 2 _ rfl
 have HS':Hid (SS w (u3.setCell ⟨X+1,2,none⟩ (.bool (q == 1))) r X D3 ⟨nm,k,(q == 1),0,[],[]⟩ none 0):=Lib.hid (HS.out.set 2 _ rfl rfl)
 clear HS
 have HS:=HS'
 clear HS'
 go_wp2_with fail
 refine (C4.out _ HS.out.rr).mono ?_
 rintro e u4 ⟨rfl,hr,hk⟩
 replace HS:=Lib.hid (HS.out.call hr hk)
 clear hr hk
 have f3:u4.frozen? ⟨X+1,3,none⟩=false:=HS.out.free 3
 have g3:u4.cell? ⟨X+1,3,none⟩=some (.int .i64 0):=HS.out.cells 3 _ rfl
 have HS':Hid (SS w (u4.setCell ⟨X+1,3,none⟩ (.int .i64 (al:Int))) r X D4 ⟨nm,k,(q == 1),al,[],[]⟩ none 0):=Lib.hid (HS.out.set 3 _ rfl rfl)
 clear HS
 have HS:=HS'
 clear HS'
 go_wp2_with fail
 refine (C5.out _ HS.out.rr).mono ?_
 rintro e u5 ⟨rfl,hr,hk⟩
 replace HS:=Lib.hid (HS.out.call hr hk)
 clear hr hk
 have f4:u5.frozen? ⟨X+1,4,none⟩=false:=HS.out.free 4
 have g4:u5.cell? ⟨X+1,4,none⟩=some (.string ⟨#[]⟩):=HS.out.cells 4 _ rfl
 have HS':Hid (SS w (u5.setCell ⟨X+1,4,none⟩ (.string (bA dt))) r X D5 ⟨nm,k,(q == 1),al,dt,[]⟩ none 0):=Lib.hid (HS.out.set 4 _ rfl rfl)
 clear HS
 have HS:=HS'
 clear HS'
 go_wp2_with fail
 refine (C6.out _ HS.out.rr).mono ?_
 rintro e u6 ⟨rfl,hk⟩
 have HK:=Lib.hid (HS.out.kk.trans' hk)
 clear hk
 go_wp2
 exact ⟨rfl,rfl,HK.out⟩
open Go.ChangeShapes Go.WideShapes Go.Deep Go.RowKit
def SymP (x:Option (Sy × ByteArray)) (r:Nat) (w:World) (e:Ending) (w':World):Prop:=match x with
 | none=>ThrO r w e w'
 | some (s,D)=>DidO (syV s) r D w e w'
theorem osec_main (r:Nat) (D D1 D2 D3 D4 D5 D6:ByteArray) (nm dt:List UInt8) (k q al n:Nat) (h1:rdTxt 31 D=some ((bA nm),D1)) (h2:rdNum 3 D1=some (k,D2)) (h3:rdNum 1 D2=some (q,D3)) (h4:rdNum 12 D3=some (al,D4)) (h5:rdTxt 4096 D4=some ((bA dt),D5)) (h6:rdNum 64 D5=some (n,D6)) (hD:D.size<=maxLen) (w:World) (h:RO w r D) (res:Option (Sc × ByteArray)) (hres:res=match rdMany rdRel n D6 with | none=>none | some (l,D7)=>some (⟨nm,k,q == 1,al,dt,l⟩,D7)):
  Calls Tryz.prog 73 #[.pointer (some ⟨r,0,none⟩)] w (SecP res r w):=by
 have s1:=rdTxt_size h1
 have s2:=rdNum_size h2
 have s3:=rdNum_size h3
 have s4:=rdNum_size h4
 have s5:=rdTxt_size h5
 have s6:=rdNum_size h6
 have C1:Hid (∀ u,RO u r D->Calls Tryz.prog 96 #[.pointer (some ⟨r,0,none⟩),.int .i64 31] u (DidO (.string (bA nm)) r D1 u)):=Lib.hid fun u hu=>rdTxt_ok h1 (by decide) (by decide) (by omega) u hu
 have C2:Hid (∀ u,RO u r D1->Calls Tryz.prog 72 #[.pointer (some ⟨r,0,none⟩),.int .i64 3] u (DidO (.int .i64 (k:Int)) r D2 u)):=Lib.hid fun u hu=>rdNum_ok h2 (by decide) (by omega) u hu
 have C3:Hid (∀ u,RO u r D2->Calls Tryz.prog 72 #[.pointer (some ⟨r,0,none⟩),.int .i64 1] u (DidO (.int .i64 (q:Int)) r D3 u)):=Lib.hid fun u hu=>rdNum_ok h3 (by decide) (by omega) u hu
 have C4:Hid (∀ u,RO u r D3->Calls Tryz.prog 72 #[.pointer (some ⟨r,0,none⟩),.int .i64 12] u (DidO (.int .i64 (al:Int)) r D4 u)):=Lib.hid fun u hu=>rdNum_ok h4 (by decide) (by omega) u hu
 have C5:Hid (∀ u,RO u r D4->Calls Tryz.prog 96 #[.pointer (some ⟨r,0,none⟩),.int .i64 4096] u (DidO (.string (bA dt)) r D5 u)):=Lib.hid fun u hu=>rdTxt_ok h5 (by decide) (by decide) (by omega) u hu
 have C6:Hid (∀ u,RO u r D5->Calls Tryz.prog 72 #[.pointer (some ⟨r,0,none⟩),.int .i64 64] u (DidO (.int .i64 (n:Int)) r D6 u)):=Lib.hid fun u hu=>rdNum_ok h6 (by decide) (by omega) u hu
 have hq:(q:Int)<=1:=(rdNum_only h3).2.1
 have hqb:(((q:Int) == 1):Bool)=(q == 1):=by
  have:q=0\/q=1:=by omega
  rcases this with rfl | rfl <;> rfl
 have hn64:(n:Int)<=64:=(rdNum_only h6).2.1
 have HN:Hid (n<=64):=Lib.hid (by omega)
 have HD6:Hid (D6.size<=maxLen):=Lib.hid (by omega)
 have HR:=Lib.hid hres
 clear hq hres hn64
 obtain ⟨X,hX⟩:∃ X,X=w.heap.size:=⟨_,rfl⟩
 have HXE:=Lib.hid hX
 have HS:Hid (SS w ((w.alloc (.cells #[.string ⟨#[]⟩,.int .i64 0,.bool false,.int .i64 0,.string ⟨#[]⟩,.slice none 0 0] 57)).alloc (.cells #[.string ⟨#[]⟩,.int .i64 0,.bool false,.int .i64 0,.string ⟨#[]⟩,.slice none 0 0] 57)) r X D ⟨[],0,false,0,[],[]⟩ none 0):=Lib.hid (by rw [hX];exact SS.mk0 h)
 clear h hX hD
 clear h1 h2 h3 h4 h5 h6 s1 s2 s3 s4 s5 s6
 go_enter Tryz.func73,Tryz.ntmps73
 go_wp2_with fail
 try rw [<-HXE.out]
 generalize ((w.alloc (.cells #[.string ⟨#[]⟩,.int .i64 0,.bool false,.int .i64 0,.string ⟨#[]⟩,.slice none 0 0] 57)).alloc (.cells #[.string ⟨#[]⟩,.int .i64 0,.bool false,.int .i64 0,.string ⟨#[]⟩,.slice none 0 0] 57))=W0 at HS ⊢
 go_wp2_with fail
 refine (C1.out _ HS.out.rr).mono ?_
 rintro e u1 ⟨rfl,hr,hk⟩
 replace HS:=Lib.hid (HS.out.call hr hk)
 clear hr hk
 have f0:u1.frozen? ⟨X+1,0,none⟩=false:=HS.out.free 0
 have g0:u1.cell? ⟨X+1,0,none⟩=some (.string ⟨#[]⟩):=HS.out.cells 0 _ rfl
 have HS':Hid (SS w (u1.setCell ⟨X+1,0,none⟩ (.string (bA nm))) r X D1 ⟨nm,0,false,0,[],[]⟩ none 0):=Lib.hid (HS.out.set 0 _ rfl rfl)
 clear HS
 have HS:=HS'
 clear HS'
 go_wp2_with fail
 refine (C2.out _ HS.out.rr).mono ?_
 rintro e u2 ⟨rfl,hr,hk⟩
 replace HS:=Lib.hid (HS.out.call hr hk)
 clear hr hk
 have f1:u2.frozen? ⟨X+1,1,none⟩=false:=HS.out.free 1
 have g1:u2.cell? ⟨X+1,1,none⟩=some (.int .i64 0):=HS.out.cells 1 _ rfl
 have HS':Hid (SS w (u2.setCell ⟨X+1,1,none⟩ (.int .i64 (k:Int))) r X D2 ⟨nm,k,false,0,[],[]⟩ none 0):=Lib.hid (HS.out.set 1 _ rfl rfl)
 clear HS
 have HS:=HS'
 clear HS'
 go_wp2_with fail
 refine (C3.out _ HS.out.rr).mono ?_
 rintro e u3 ⟨rfl,hr,hk⟩
 replace HS:=Lib.hid (HS.out.call hr hk)
 clear hr hk
 have f2:u3.frozen? ⟨X+1,2,none⟩=false:=HS.out.free 2
 have g2:u3.cell? ⟨X+1,2,none⟩=some (.bool false):=HS.out.cells 2 _ rfl
 have HS':Hid (SS w (u3.setCell ⟨X+1,2,none⟩ (.bool (q == 1))) r X D3 ⟨nm,k,(q == 1),0,[],[]⟩ none 0):=Lib.hid (HS.out.set 2 _ rfl rfl)
 clear HS
 have HS:=HS'
 clear HS'
 go_wp2_with fail
 refine (C4.out _ HS.out.rr).mono ?_
 rintro e u4 ⟨rfl,hr,hk⟩
 replace HS:=Lib.hid (HS.out.call hr hk)
 clear hr hk
 have f3:u4.frozen? ⟨X+1,3,none⟩=false:=HS.out.free 3
 have g3:u4.cell? ⟨X+1,3,none⟩=some (.int .i64 0):=HS.out.cells 3 _ rfl
 have HS':Hid (SS w (u4.setCell ⟨X+1,3,none⟩ (.int .i64 (al:Int))) r X D4 ⟨nm,k,(q == 1),al,[],[]⟩ none 0):=Lib.hid (HS.out.set 3 _ rfl rfl)
 clear HS
 have HS:=HS'
 clear HS'
 go_wp2_with fail
 refine (C5.out _ HS.out.rr).mono ?_
 rintro e u5 ⟨rfl,hr,hk⟩
 replace HS:=Lib.hid (HS.out.call hr hk)
 clear hr hk
 have f4:u5.frozen? ⟨X+1,4,none⟩=false:=HS.out.free 4
 have g4:u5.cell? ⟨X+1,4,none⟩=some (.string ⟨#[]⟩):=HS.out.cells 4 _ rfl
 have HS':Hid (SS w (u5.setCell ⟨X+1,4,none⟩ (.string (bA dt))) r X D5 ⟨nm,k,(q == 1),al,dt,[]⟩ none 0):=Lib.hid (HS.out.set 4 _ rfl rfl)
 clear HS
 have HS:=HS'
 clear HS'
 go_wp2_with fail
 refine (C6.out _ HS.out.rr).mono ?_
 rintro e u6 ⟨rfl,hr,hk⟩
 replace HS:=Lib.hid (HS.out.call hr hk)
 clear hr hk
 clear C1 C2 C3 C4 C5 C6 f0 g0 f1 g1 f2 g2 f3 g3 f4 g4 hqb
 go_wp2_with fail
 go_loopw [22] (fun i wr=>∃ (j:Nat) (xs:List Rl) (a:Option Addr) (c:Nat) (Dj:ByteArray),Hid (SS w wr r X Dj ⟨nm,k,q == 1,al,dt,xs⟩ a c)/\j<=n/\i=.int .i64 j/\xs.length=j/\Hid (rdMany rdRel n D6=preL xs (rdMany rdRel (n - j) Dj))/\Hid (Dj.size<=maxLen)) (fun i _=>n - (intOf i).toNat)
 case atStart=>exact ⟨0,[],none,0,D6,HS,by omega,rfl,rfl,Lib.hid (by unfold preL;cases rdMany rdRel (n - 0) D6 <;> rfl),HD6⟩
 case round=>
  clear HS
  obtain ⟨j,xs,a,c,Dj,HS,hj,rfl,hxs,HP,HDj⟩:=hrel
  have HXS:=Lib.hid hxs
  clear hxs
  by_cases hlt:j < n
  ·have hlti:(j:Int) < (n:Int):=by omega
   have HLT:=Lib.hid hlt
   have hni:(n:Int)<=64:=by have:=HN.out;omega
   obtain ⟨m,hm⟩:∃ m,n - j=m+1:=⟨n - j - 1,by omega⟩
   have HM:=Lib.hid hm
   have HJ:=Lib.hid hj
   have HX1:Hid (X+1 < wr.heap.size):=Lib.hid (lt_of_block HS.out.yy)
   have y5:wr.cell? ⟨X+1,5,none⟩=some (.slice a xs.length c):=HS.out.cells 5 _ rfl
   clear hm hj
   cases c1:rdNum mxI Dj with
   | none=>
    have HZ:Hid (res=none):=Lib.hid (by rw [HR.out,HP.out,HM.out,rdMany_none (rdRel_no1 c1)];rfl)
    have K1:Hid (∀ u,RO u r Dj->Calls Tryz.prog 72 #[.pointer (some ⟨r,0,none⟩),.int .i64 9223372036854775807] u (ThrO r u)):=Lib.hid fun u hu=>rdNum_no c1 (by decide) (by decide) (by have:=HDj.out;omega) u hu
    clear c1
    obtain ⟨Zz,HZz⟩:∃ Zz:Prop,Hid Zz:=⟨True,Lib.hid trivial⟩
    go_wp2_with fail
    first | (go_region_law ((first
     | (go_simp;go_at_call 72;refine (K1.out _ HS.out.drew.rr).mono ?_;rintro e v1 ⟨rfl,hd1⟩;refine any_end2 (P:=Tryz.prog) (a:={ tmps:=#[],defers:=[] }) (w:=v1) (Z:=Zz) ⟨rfl,secP_thr HZ.out (HS.out.drew.kk.trans' hd1)⟩ ?_)))) | fail
    all_goals exact HZz.out
   | some p1=>
    obtain ⟨x,E1⟩:=p1
    have z1:=rdNum_size c1
    cases c2:rdNum mxI E1 with
    | none=>
     have HZ:Hid (res=none):=Lib.hid (by rw [HR.out,HP.out,HM.out,rdMany_none (rdRel_no2 c1 c2)];rfl)
     have K1:Hid (∀ u,RO u r Dj->Calls Tryz.prog 72 #[.pointer (some ⟨r,0,none⟩),.int .i64 9223372036854775807] u (DidO (.int .i64 (x:Int)) r E1 u)):=Lib.hid fun u hu=>rdNum_ok c1 (by decide) (by have:=HDj.out;omega) u hu
     have K2:Hid (∀ u,RO u r E1->Calls Tryz.prog 72 #[.pointer (some ⟨r,0,none⟩),.int .i64 9223372036854775807] u (ThrO r u)):=Lib.hid fun u hu=>rdNum_no c2 (by decide) (by decide) (by have:=HDj.out;omega) u hu
     clear c1 c2 z1
     obtain ⟨Zz,HZz⟩:∃ Zz:Prop,Hid Zz:=⟨True,Lib.hid trivial⟩
     go_wp2_with fail
     first | (go_region_law ((first
      | (go_simp;go_at_call 72;refine (K1.out _ HS.out.drew.rr).mono ?_;rintro e m1 ⟨rfl,hr1,hk1⟩;have H1:=Lib.hid (HS.out.drew.call hr1 hk1);have t1:m1.cell? ⟨X+1,5,none⟩=some (.slice a xs.length c):=H1.out.cells 5 _ rfl;clear hr1 hk1)
      | (go_simp;go_at_call 72;refine (K2.out _ H1.out.rr).mono ?_;rintro e v2 ⟨rfl,hd2⟩;refine any_end2 (P:=Tryz.prog) (a:={ tmps:=#[],defers:=[] }) (w:=v2) (Z:=Zz) ⟨rfl,secP_thr HZ.out (H1.out.kk.trans' hd2)⟩ ?_)))) | fail
     all_goals exact HZz.out
    | some p2=>
     obtain ⟨y,E2⟩:=p2
     have z2:=rdNum_size c2
     cases c3:rdNum mxI E2 with
     | none=>
      have HZ:Hid (res=none):=Lib.hid (by rw [HR.out,HP.out,HM.out,rdMany_none (rdRel_no3 c1 c2 c3)];rfl)
      have K1:Hid (∀ u,RO u r Dj->Calls Tryz.prog 72 #[.pointer (some ⟨r,0,none⟩),.int .i64 9223372036854775807] u (DidO (.int .i64 (x:Int)) r E1 u)):=Lib.hid fun u hu=>rdNum_ok c1 (by decide) (by have:=HDj.out;omega) u hu
      have K2:Hid (∀ u,RO u r E1->Calls Tryz.prog 72 #[.pointer (some ⟨r,0,none⟩),.int .i64 9223372036854775807] u (DidO (.int .i64 (y:Int)) r E2 u)):=Lib.hid fun u hu=>rdNum_ok c2 (by decide) (by have:=HDj.out;omega) u hu
      have K3:Hid (∀ u,RO u r E2->Calls Tryz.prog 72 #[.pointer (some ⟨r,0,none⟩),.int .i64 9223372036854775807] u (ThrO r u)):=Lib.hid fun u hu=>rdNum_no c3 (by decide) (by decide) (by have:=HDj.out;omega) u hu
      clear c1 c2 c3 z1 z2
      obtain ⟨Zz,HZz⟩:∃ Zz:Prop,Hid Zz:=⟨True,Lib.hid trivial⟩
      go_wp2_with fail
      first | (go_region_law ((first
       | (go_simp;go_at_call 72;refine (K1.out _ HS.out.drew.rr).mono ?_;rintro e m1 ⟨rfl,hr1,hk1⟩;have H1:=Lib.hid (HS.out.drew.call hr1 hk1);have t1:m1.cell? ⟨X+1,5,none⟩=some (.slice a xs.length c):=H1.out.cells 5 _ rfl;clear hr1 hk1)
       | (go_simp;go_at_call 72;refine (K2.out _ H1.out.rr).mono ?_;rintro e m2 ⟨rfl,hr2,hk2⟩;have H2:=Lib.hid (H1.out.call hr2 hk2);have t2:m2.cell? ⟨X+1,5,none⟩=some (.slice a xs.length c):=H2.out.cells 5 _ rfl;clear hr2 hk2)
       | (go_simp;go_at_call 72;refine (K3.out _ H2.out.rr).mono ?_;rintro e v3 ⟨rfl,hd3⟩;refine any_end2 (P:=Tryz.prog) (a:={ tmps:=#[],defers:=[] }) (w:=v3) (Z:=Zz) ⟨rfl,secP_thr HZ.out (H2.out.kk.trans' hd3)⟩ ?_)))) | fail
      all_goals exact HZz.out
     | some p3=>
      obtain ⟨z,E3⟩:=p3
      have z3:=rdNum_size c3
      cases c4:rdInt E3 with
      | none=>
       have HZ:Hid (res=none):=Lib.hid (by rw [HR.out,HP.out,HM.out,rdMany_none (rdRel_no4 c1 c2 c3 c4)];rfl)
       have K1:Hid (∀ u,RO u r Dj->Calls Tryz.prog 72 #[.pointer (some ⟨r,0,none⟩),.int .i64 9223372036854775807] u (DidO (.int .i64 (x:Int)) r E1 u)):=Lib.hid fun u hu=>rdNum_ok c1 (by decide) (by have:=HDj.out;omega) u hu
       have K2:Hid (∀ u,RO u r E1->Calls Tryz.prog 72 #[.pointer (some ⟨r,0,none⟩),.int .i64 9223372036854775807] u (DidO (.int .i64 (y:Int)) r E2 u)):=Lib.hid fun u hu=>rdNum_ok c2 (by decide) (by have:=HDj.out;omega) u hu
       have K3:Hid (∀ u,RO u r E2->Calls Tryz.prog 72 #[.pointer (some ⟨r,0,none⟩),.int .i64 9223372036854775807] u (DidO (.int .i64 (z:Int)) r E3 u)):=Lib.hid fun u hu=>rdNum_ok c3 (by decide) (by have:=HDj.out;omega) u hu
       have K4:Hid (∀ u,RO u r E3->Calls Tryz.prog 97 #[.pointer (some ⟨r,0,none⟩)] u (ThrO r u)):=Lib.hid fun u hu=>rdInt_no c4 (by have:=HDj.out;omega) u hu
       clear c1 c2 c3 c4 z1 z2 z3
       obtain ⟨Zz,HZz⟩:∃ Zz:Prop,Hid Zz:=⟨True,Lib.hid trivial⟩
       go_wp2_with fail
       first | (go_region_law ((first
        | (go_simp;go_at_call 72;refine (K1.out _ HS.out.drew.rr).mono ?_;rintro e m1 ⟨rfl,hr1,hk1⟩;have H1:=Lib.hid (HS.out.drew.call hr1 hk1);have t1:m1.cell? ⟨X+1,5,none⟩=some (.slice a xs.length c):=H1.out.cells 5 _ rfl;clear hr1 hk1)
        | (go_simp;go_at_call 72;refine (K2.out _ H1.out.rr).mono ?_;rintro e m2 ⟨rfl,hr2,hk2⟩;have H2:=Lib.hid (H1.out.call hr2 hk2);have t2:m2.cell? ⟨X+1,5,none⟩=some (.slice a xs.length c):=H2.out.cells 5 _ rfl;clear hr2 hk2)
        | (go_simp;go_at_call 72;refine (K3.out _ H2.out.rr).mono ?_;rintro e m3 ⟨rfl,hr3,hk3⟩;have H3:=Lib.hid (H2.out.call hr3 hk3);have t3:m3.cell? ⟨X+1,5,none⟩=some (.slice a xs.length c):=H3.out.cells 5 _ rfl;clear hr3 hk3)
        | (go_simp;go_at_call 97;refine (K4.out _ H3.out.rr).mono ?_;rintro e v4 ⟨rfl,hd4⟩;refine any_end2 (P:=Tryz.prog) (a:={ tmps:=#[],defers:=[] }) (w:=v4) (Z:=Zz) ⟨rfl,secP_thr HZ.out (H3.out.kk.trans' hd4)⟩ ?_)))) | fail
       all_goals exact HZz.out
      | some p4=>
       obtain ⟨v,E4⟩:=p4
       have z4:=rdInt_size c4
       have HP5:Hid (rdMany rdRel n D6=preL (xs ++ [⟨x,y,z,v⟩]) (rdMany rdRel (n - (j+1)) E4)):=Lib.hid (by
        rw [HP.out,HM.out,rdMany_some (rdRel_yes c1 c2 c3 c4),show n - (j+1)=m from by have:=HM.out;omega]
        unfold preL
        cases rdMany rdRel m E4 with
        | none=>rfl
        | some p=>obtain ⟨l,E⟩:=p;simp)
       have HDj5:Hid (E4.size<=maxLen):=Lib.hid (by have:=HDj.out;omega)
       have K1:Hid (∀ u,RO u r Dj->Calls Tryz.prog 72 #[.pointer (some ⟨r,0,none⟩),.int .i64 9223372036854775807] u (DidO (.int .i64 (x:Int)) r E1 u)):=Lib.hid fun u hu=>rdNum_ok c1 (by decide) (by have:=HDj.out;omega) u hu
       have K2:Hid (∀ u,RO u r E1->Calls Tryz.prog 72 #[.pointer (some ⟨r,0,none⟩),.int .i64 9223372036854775807] u (DidO (.int .i64 (y:Int)) r E2 u)):=Lib.hid fun u hu=>rdNum_ok c2 (by decide) (by have:=HDj.out;omega) u hu
       have K3:Hid (∀ u,RO u r E2->Calls Tryz.prog 72 #[.pointer (some ⟨r,0,none⟩),.int .i64 9223372036854775807] u (DidO (.int .i64 (z:Int)) r E3 u)):=Lib.hid fun u hu=>rdNum_ok c3 (by decide) (by have:=HDj.out;omega) u hu
       have K4:Hid (∀ u,RO u r E3->Calls Tryz.prog 97 #[.pointer (some ⟨r,0,none⟩)] u (DidO (.int .i64 v) r E4 u)):=Lib.hid fun u hu=>rdInt_ok c4 (by have:=HDj.out;omega) u hu
       clear c1 c2 c3 c4 z1 z2 z3 z4
       have hxl:Hid (xs.length<=63):=Lib.hid (by have:=HN.out;have:=HXS.out;omega)
       have hno:Hid ((Value.slice a xs.length c).ownBlock ≠ some (X+1)):=Lib.hid (fun e=>by have:=(HS.out.oo.lt (X+1) e).1;omega)
       obtain ⟨i0,hi0,hz0,hz1,hz2⟩:=info_parts info_rel
       go_wp2_with fail
       first | (go_region_law ((first
        | (go_simp;go_at_call 72;refine (K1.out _ HS.out.drew.rr).mono ?_;rintro e m1 ⟨rfl,hr1,hk1⟩;have H1:=Lib.hid (HS.out.drew.call hr1 hk1);have t1:m1.cell? ⟨X+1,5,none⟩=some (.slice a xs.length c):=H1.out.cells 5 _ rfl;clear hr1 hk1)
        | (go_simp;go_at_call 72;refine (K2.out _ H1.out.rr).mono ?_;rintro e m2 ⟨rfl,hr2,hk2⟩;have H2:=Lib.hid (H1.out.call hr2 hk2);have t2:m2.cell? ⟨X+1,5,none⟩=some (.slice a xs.length c):=H2.out.cells 5 _ rfl;clear hr2 hk2)
        | (go_simp;go_at_call 72;refine (K3.out _ H2.out.rr).mono ?_;rintro e m3 ⟨rfl,hr3,hk3⟩;have H3:=Lib.hid (H2.out.call hr3 hk3);have t3:m3.cell? ⟨X+1,5,none⟩=some (.slice a xs.length c):=H3.out.cells 5 _ rfl;clear hr3 hk3)
        | (go_simp;go_at_call 97;refine (K4.out _ H3.out.rr).mono ?_;rintro e m4 ⟨rfl,hr4,hk4⟩;have H4:=Lib.hid (H3.out.call hr4 hk4);have t4:m4.cell? ⟨X+1,5,none⟩=some (.slice a xs.length c):=H4.out.cells 5 _ rfl;clear hr4 hk4;have tA:(m4.alloc (.cells #[.int .i64 (x:Int),.int .i64 (y:Int),.int .i64 (z:Int),.int .i64 v] 82)).cell? ⟨X+1,5,none⟩=some (.slice a xs.length c):=(World.cell?_alloc_past (w:=m4) _ _ _ (lt_of_block H4.out.yy)).trans t4)
        | (have hl4:=hxl.out;have hX4:X+1 < m4.heap.size:=lt_of_block H4.out.yy;refine step_append_lies _ (by rfl) _ _ _ (by rfl) (X+2) 82 i0 _ 4 32 Tryz.underlying55 hi0 hz0 hz1 hz2 rfl (by omega) (.slice a xs.length c) xs.length (xs.flatMap rlC) (by rfl) (H4.out.oo.alloc _) ⟨m4.heap.size,0,none⟩ 1 1 (rlC ⟨x,y,z,v⟩) (by rfl) (by rfl) (World.news_of_block (cs:=rlA ⟨x,y,z,v⟩) (t:=82) (fr:=(0,0)) (heap_alloc_new m4 _)) (rl_one _) (by omega) (by unfold maxLen;omega) (by omega) (by simp;omega) (m4.heap.size+1) (by simp) ?_;intro g3 cap w3 hown3 hgrow hat hlt3;have s5:w3.cell? ⟨X+1,5,none⟩=some (.slice a xs.length c):=(hgrow.cell_far _ (by simp;omega) (Ne.symm hno.out)).trans ((World.cell?_alloc_past (w:=m4) _ _ _ hX4).trans t4);have s6:w3.frozen? ⟨X+1,5,none⟩=false:=(hgrow.frozen_far _ (by simp;omega) (Ne.symm hno.out)).trans ((World.frozen?_alloc_past (w:=m4) _ _ _ hX4).trans (H4.out.free 5)))))) | fail
       all_goals
        have H5:Hid (SS w (w3.setCell ⟨X+1,5,none⟩ (.slice (some ⟨g3,0,none⟩) (xs.length+1) cap)) r X E4 ⟨nm,k,q == 1,al,dt,xs ++ [⟨x,y,z,v⟩]⟩ (some ⟨g3,0,none⟩) cap):=Lib.hid (H4.out.append hown3 hgrow)
        clear hown3 hgrow hat hlt3 s5 s6 t1 t2 t3 t4 tA y5 H1 H2 H3 H4 HS hl4 hX4 hi0 hz0 hz1 hz2
        go_wp2
        go_roundw
        case rel=>exact ⟨j+1,_,_,_,E4,H5,by have:=HLT.out;omega,by go_num,by have:=HXS.out;simp;omega,HP5,HDj5⟩
        case measure=>have:=HLT.out;simp [intOf];omega
  ·have hnlt:¬ (j:Int) < (n:Int):=by omega
   have hjn:n - j=0:=by omega
   have HZ:Hid (res=some (⟨nm,k,q == 1,al,dt,xs⟩,Dj)):=Lib.hid (by
    rw [HR.out,HP.out,hjn]
    simp [rdMany,preL])
   have HF:=Lib.hid HS.out.fin
   have y0:wr.cell? ⟨X+1,0,none⟩=some (.string (bA nm)):=HS.out.cells 0 _ rfl
   have y1:wr.cell? ⟨X+1,1,none⟩=some (.int .i64 (k:Int)):=HS.out.cells 1 _ rfl
   have y2:wr.cell? ⟨X+1,2,none⟩=some (.bool (q == 1)):=HS.out.cells 2 _ rfl
   have y3:wr.cell? ⟨X+1,3,none⟩=some (.int .i64 (al:Int)):=HS.out.cells 3 _ rfl
   have y4:wr.cell? ⟨X+1,4,none⟩=some (.string (bA dt)):=HS.out.cells 4 _ rfl
   have y5:wr.cell? ⟨X+1,5,none⟩=some (.slice a xs.length c):=HS.out.cells 5 _ rfl
   obtain ⟨x0,x1,x2,x3,x4,x5,xf,xl⟩:=HS.out.xx.six
   have xf0:=xf 0
   have xf1:=xf 1
   have xf2:=xf 2
   have xf3:=xf 3
   have xf4:=xf 4
   have xf5:=xf 5
   clear xf hjn HP hj
   go_wp2
   refine bodyPost_ret (results_cell_row (P:=Tryz.prog) rfl _ _ X 57 _ (0,0) _ rfl HF.out.1 Tryz.underlying57 rfl (by kernel_rfl)) rfl ?_
   exact secP_did HZ.out HF.out.2
theorem osec_any (r:Nat) (D:ByteArray) (hD:D.size<=maxLen) (w:World) (h:RO w r D):
  Calls Tryz.prog 73 #[.pointer (some ⟨r,0,none⟩)] w (SecP (rdSec D) r w):=by
 have key:∀ {x:Option (Sc × ByteArray)},rdSec D=x->Calls Tryz.prog 73 #[.pointer (some ⟨r,0,none⟩)] w (SecP x r w):=by
  intro x hx
  unfold rdSec at hx
  cases h1:rdTxt 31 D with
  | none=>rw [h1] at hx;subst hx;exact osec_no0 r D h1 hD w h
  | some p=>
  obtain ⟨S,D1⟩:=p
  rw [h1] at hx;simp only at hx
  rw [<-bA_of S] at h1
  cases h2:rdNum 3 D1 with
  | none=>rw [h2] at hx;subst hx;exact osec_no1 r D D1 _ h1 h2 hD w h
  | some p=>
  obtain ⟨k,D2⟩:=p
  rw [h2] at hx;simp only at hx
  cases h3:rdNum 1 D2 with
  | none=>rw [h3] at hx;subst hx;exact osec_no2 r D D1 D2 _ k h1 h2 h3 hD w h
  | some p=>
  obtain ⟨q,D3⟩:=p
  rw [h3] at hx;simp only at hx
  cases h4:rdNum 12 D3 with
  | none=>rw [h4] at hx;subst hx;exact osec_no3 r D D1 D2 D3 _ k q h1 h2 h3 h4 hD w h
  | some p=>
  obtain ⟨al,D4⟩:=p
  rw [h4] at hx;simp only at hx
  cases h5:rdTxt 4096 D4 with
  | none=>rw [h5] at hx;subst hx;exact osec_no4 r D D1 D2 D3 D4 _ k q al h1 h2 h3 h4 h5 hD w h
  | some p=>
  obtain ⟨T,D5⟩:=p
  rw [h5] at hx;simp only at hx
  rw [<-bA_of T] at h5
  cases h6:rdNum 64 D5 with
  | none=>rw [h6] at hx;subst hx;exact osec_no5 r D D1 D2 D3 D4 D5 _ _ k q al h1 h2 h3 h4 h5 h6 hD w h
  | some p=>
  obtain ⟨n,D6⟩:=p
  rw [h6] at hx;simp only at hx
  exact osec_main r D D1 D2 D3 D4 D5 D6 _ _ k q al n h1 h2 h3 h4 h5 h6 hD w h x hx.symm
 exact key rfl
theorem osym_any (r:Nat) (D:ByteArray) (hD:D.size<=maxLen) (w:World) (h:RO w r D):
  Calls Tryz.prog 74 #[.pointer (some ⟨r,0,none⟩)] w (SymP (rdSym D) r w):=by
 have key:∀ {x:Option (Sy × ByteArray)},rdSym D=x->Calls Tryz.prog 74 #[.pointer (some ⟨r,0,none⟩)] w (SymP x r w):=by
  intro x hx
  unfold rdSym at hx
  cases h1:rdTxt 31 D with
  | none=>rw [h1] at hx;subst hx;exact osym_no0 r D h1 hD w h
  | some p=>
  obtain ⟨S,D1⟩:=p
  rw [h1] at hx;simp only at hx
  rw [<-bA_of S] at h1
  cases h2:rdNum mxI D1 with
  | none=>rw [h2] at hx;subst hx;exact osym_no1 r D D1 _ h1 h2 hD w h
  | some p=>
  obtain ⟨k,D2⟩:=p
  rw [h2] at hx;simp only at hx
  cases h3:rdNum mxI D2 with
  | none=>rw [h3] at hx;subst hx;exact osym_no2 r D D1 D2 _ k h1 h2 h3 hD w h
  | some p=>
  obtain ⟨q,D3⟩:=p
  rw [h3] at hx;simp only at hx
  have hq:=(rdNum_only h3).2.1
  cases h4:rdNum mxI D3 with
  | none=>rw [h4] at hx;subst hx;exact osym_no3 r D D1 D2 D3 _ k q h1 h2 h3 h4 hq hD w h
  | some p=>
  obtain ⟨z,D4⟩:=p
  rw [h4] at hx;subst hx
  exact osym_ok r D D1 D2 D3 D4 _ k q z h1 h2 h3 h4 hq hD w h
 exact key rfl
open Go.ChangeShapes Go.WideShapes Go.Deep Go.RowKit
abbrev msA (m:Ms):Array Value:=#[.string ⟨m.sc.name.toArray⟩,.int .i64 m.sc.kind,.bool m.sc.keep,.int .i64 m.sc.align,.string ⟨m.sc.data.toArray⟩,.slice m.ad m.sc.rels.length m.cap]
abbrev syA (s:Sy):Array Value:=#[.string ⟨s.name.toArray⟩,.int .i64 s.bind,.int .i64 s.sec,.int .i64 s.off]
theorem ms_one (m:Ms):∀ u ∈ msC m,u.oneCell'=true:=by
 intro u hu
 simp only [msC,List.mem_cons,List.mem_nil_iff,or_false] at hu
 rcases hu with rfl | rfl | rfl | rfl | rfl | rfl <;> rfl
theorem sy_one (s:Sy):∀ u ∈ syC s,u.oneCell'=true:=by
 intro u hu
 simp only [syC,List.mem_cons,List.mem_nil_iff,or_false] at hu
 rcases hu with rfl | rfl | rfl | rfl <;> rfl
theorem info_sec:(Tryz.prog.info? 57).map (fun i=>(i.zero,i.size,i.bytes))=some (some (.agg #[.string ByteArray.empty,.int .i64 0,.bool false,.int .i64 0,.string ByteArray.empty,.slice none 0 0]),6,80):=by kernel_rfl
theorem info_sym:(Tryz.prog.info? 66).map (fun i=>(i.zero,i.size,i.bytes))=some (some (.agg #[.string ByteArray.empty,.int .i64 0,.int .i64 0,.int .i64 0]),4,40):=by kernel_rfl
theorem own_apart {u:World} {B B' e e' sz sz' n n':Nat} {v v':Value} {xs xs':List Value} (h:u.ownsRow B e sz v n xs) (h':u.ownsRow B' e' sz' v' n' xs') (he:e ≠ e'):v.ownBlock=none\/v.ownBlock ≠ v'.ownBlock:=by
 rcases h.2 with ⟨hv,-⟩ | ⟨g,cap,cur,hv,hb,hg,-⟩
 ·subst hv;exact .inl rfl
 ·right
  rcases h'.2 with ⟨hv',-⟩ | ⟨g',cap',cur',hv',hb',hg',-⟩
  ·subst hv;subst hv';intro e;cases e
  ·subst hv;subst hv'
   intro e
   simp only [Value.ownBlock,Option.some.injEq] at e
   subst e
   rw [hg] at hg'
   simp only [Option.some.injEq,Obj.cells.injEq] at hg'
   exact he hg'.2.1
def OwnMs (u:World) (B:Nat) (m:Ms):Prop:=u.ownsRow B 82 4 (.slice m.ad m.sc.rels.length m.cap) m.sc.rels.length (m.sc.rels.flatMap rlC)
theorem own_ms_alloc {u:World} {B:Nat} {m:Ms} {o:Obj} (h:OwnMs u B m):(u.alloc o).ownsRow B 82 4 (.slice m.ad m.sc.rels.length m.cap) m.sc.rels.length (m.sc.rels.flatMap rlC):=World.ownsRow.alloc h o
structure OS (w u:World) (r X:Nat) (D:ByteArray) (L:List Ms) (a:Option Addr) (c:Nat) (l:List Sy) (a2:Option Addr) (c2:Nat):Prop where
 rr:RO u r D
 xx:RB u X #[.slice none 0 0,.slice none 0 0] 25
 yy:RB u (X+1) #[.slice a L.length c,.slice a2 l.length c2] 25
 os:u.ownsRow (X+2) 57 6 (.slice a L.length c) L.length (L.flatMap msC)
 on:∀ m ∈ L,OwnMs u (X+2) m
 oy:u.ownsRow (X+2) 66 4 (.slice a2 l.length c2) l.length (l.flatMap syC)
 kk:KP r w u
 ee:X=w.heap.size
 nn:r < X
theorem OS.call {w u:World} {r X:Nat} {D:ByteArray} {L:List Ms} {a:Option Addr} {c:Nat} {l:List Sy} {a2:Option Addr} {c2:Nat} (h:OS w u r X D L a c l a2 c2) {u':World} {D':ByteArray} (hR:RO u' r D') (hK:KP r u u'):OS w u' r X D' L a c l a2 c2:=
 ⟨hR,h.xx.kept hK (by have:=h.nn;omega),h.yy.kept hK (by have:=h.nn;omega),own_kp2 h.os hK (by have:=h.nn;omega),fun m hm=>own_kp2 (h.on m hm) hK (by have:=h.nn;omega),own_kp2 h.oy hK (by have:=h.nn;omega),h.kk.trans' hK,h.ee,h.nn⟩
theorem OS.drew {w u:World} {r X:Nat} {D:ByteArray} {L:List Ms} {a:Option Addr} {c:Nat} {l:List Sy} {a2:Option Addr} {c2:Nat} (h:OS w u r X D L a c l a2 c2):OS w u.drew r X D L a c l a2 c2:=
 h.call (h.rr.next ((Below.refl _ u).drew)) (KP.of_below ((Below.refl _ u).drew))
theorem OS.cells {w u:World} {r X:Nat} {D:ByteArray} {L:List Ms} {a:Option Addr} {c:Nat} {l:List Sy} {a2:Option Addr} {c2:Nat} (h:OS w u r X D L a c l a2 c2) (j:Nat) (v:Value) (hv:(#[.slice a L.length c,.slice a2 l.length c2]:Array Value)[j]?=some v):u.cell? ⟨X+1,j,none⟩=some v:=by
 have:=h.yy
 unfold RB at this
 unfold World.cell?
 rw [this];simpa using hv
theorem OS.free {w u:World} {r X:Nat} {D:ByteArray} {L:List Ms} {a:Option Addr} {c:Nat} {l:List Sy} {a2:Option Addr} {c2:Nat} (h:OS w u r X D L a c l a2 c2) (j:Nat):u.frozen? ⟨X+1,j,none⟩=false:=h.yy.frozen
theorem OS.mk0 {w u:World} {r X:Nat} {D:ByteArray} (hR:RO u r D) (hX:RB u X #[.slice none 0 0,.slice none 0 0] 25) (hY:RB u (X+1) #[.slice none 0 0,.slice none 0 0] 25) (hK:KP r w u) (hE:X=w.heap.size) (hN:r < X):OS w u r X D [] none 0 [] none 0:=
 ⟨hR,hX,hY,World.ownsRow_nil _ _ _ _,by simp,World.ownsRow_nil _ _ _ _,hK,hE,hN⟩
theorem OS.addSec {w u w3:World} {r X:Nat} {D:ByteArray} {L:List Ms} {a a':Option Addr} {c c':Nat} {l:List Sy} {a2:Option Addr} {c2:Nat} {m:Ms} (h:OS w u r X D L a c l a2 c2) (hm:OwnMs u (X+2) m)
  (hown:w3.ownsRow (X+2) 57 6 (.slice a' (L.length+1) c') (L.length+1) (L.flatMap msC ++ msC m)) (hgrow:(u.alloc (.cells (msA m) 57)).grownBy w3 (Value.slice a L.length c).ownBlock):
  OS w (w3.setCell ⟨X+1,0,none⟩ (.slice a' (L.length+1) c')) r X D (L ++ [m]) a' c' l a2 c2:=by
 have hn:=h.nn
 have hx:=h.ee
 have hp:X+1 < u.heap.size:=lt_of_block h.yy
 have hbV:Below (X+2) u (u.alloc (.cells (msA m) 57)):=(Below.refl (X+2) u).alloc (by omega) _
 have hbw:Below (X+2) u w3:=hbV.grown hgrow (by have:=hbV.size;omega) (fun j hj=>(h.os.lt j hj).1)
 have hr3:RO w3 r D:=(hbw.block r (by omega)).trans h.rr
 have hx3:RB w3 X #[.slice none 0 0,.slice none 0 0] 25:=(hbw.block X (by omega)).trans h.xx
 have hy3:RB w3 (X+1) #[.slice a L.length c,.slice a2 l.length c2] 25:=(hbw.block (X+1) (by omega)).trans h.yy
 have hK:=KP.step (X+1) w3 0 (.slice a' (L.length+1) c')
 have hon:∀ q,OwnMs u (X+2) q->OwnMs (w3.setCell ⟨X+1,0,none⟩ (.slice a' (L.length+1) c')) (X+2) q:=fun q hq=>by
  have h1:=own_ms_alloc (o:=.cells (msA m) 57) hq
  have h2:=h1.kept hgrow (own_apart h1 (h.os.alloc _) (by decide))
  exact own_kp2 h2 hK (by omega)
 refine ⟨(hother (by omega)).trans hr3,(hother (by omega)).trans hx3,?_,?_,?_,?_,h.kk.below ((hbw.mono (show X<=X+2 by omega)).setCell (p:=⟨X+1,0,none⟩) (by show X<=X+1;omega) _) (by omega),h.ee,h.nn⟩
 ·have:=hset (o:=0) (x:=.slice a' (L.length+1) c') hy3
  unfold RB
  simpa using this
 ·have:=own_kp2 hown hK (by omega)
  simpa [List.flatMap_append] using this
 ·intro q hq
  rcases List.mem_append.1 hq with hq | hq
  ·exact hon q (h.on q hq)
  ·rw [List.mem_singleton.1 hq];exact hon m hm
 ·have h1:=h.oy.alloc (.cells (msA m) 57)
  have h2:=h1.kept hgrow (own_apart h1 (h.os.alloc _) (by decide))
  exact own_kp2 h2 hK (by omega)
theorem OS.addSym {w u w3:World} {r X:Nat} {D:ByteArray} {L:List Ms} {a a2':Option Addr} {c c2':Nat} {l:List Sy} {a2:Option Addr} {c2:Nat} {m:Sy} (h:OS w u r X D L a c l a2 c2)
  (hown:w3.ownsRow (X+2) 66 4 (.slice a2' (l.length+1) c2') (l.length+1) (l.flatMap syC ++ syC m)) (hgrow:(u.alloc (.cells (syA m) 66)).grownBy w3 (Value.slice a2 l.length c2).ownBlock):
  OS w (w3.setCell ⟨X+1,1,none⟩ (.slice a2' (l.length+1) c2')) r X D L a c (l ++ [m]) a2' c2':=by
 have hn:=h.nn
 have hx:=h.ee
 have hp:X+1 < u.heap.size:=lt_of_block h.yy
 have hbV:Below (X+2) u (u.alloc (.cells (syA m) 66)):=(Below.refl (X+2) u).alloc (by omega) _
 have hbw:Below (X+2) u w3:=hbV.grown hgrow (by have:=hbV.size;omega) (fun j hj=>(h.oy.lt j hj).1)
 have hr3:RO w3 r D:=(hbw.block r (by omega)).trans h.rr
 have hx3:RB w3 X #[.slice none 0 0,.slice none 0 0] 25:=(hbw.block X (by omega)).trans h.xx
 have hy3:RB w3 (X+1) #[.slice a L.length c,.slice a2 l.length c2] 25:=(hbw.block (X+1) (by omega)).trans h.yy
 have hK:=KP.step (X+1) w3 1 (.slice a2' (l.length+1) c2')
 refine ⟨(hother (by omega)).trans hr3,(hother (by omega)).trans hx3,?_,?_,?_,?_,h.kk.below ((hbw.mono (show X<=X+2 by omega)).setCell (p:=⟨X+1,1,none⟩) (by show X<=X+1;omega) _) (by omega),h.ee,h.nn⟩
 ·have:=hset (o:=1) (x:=.slice a2' (l.length+1) c2') hy3
  unfold RB
  simpa using this
 ·have h1:=h.os.alloc (.cells (syA m) 66)
  have h2:=h1.kept hgrow (own_apart h1 (h.oy.alloc _) (by decide))
  exact own_kp2 h2 hK (by omega)
 ·intro q hq
  have h1:=own_ms_alloc (o:=.cells (syA m) 66) (h.on q hq)
  have h2:=h1.kept hgrow (own_apart h1 (h.oy.alloc _) (by decide))
  exact own_kp2 h2 hK (by omega)
 ·have:=own_kp2 hown hK (by omega)
  simpa [List.flatMap_append] using this
def ObjD (o:Ob) (r:Nat) (D:ByteArray) (w:World) (e:Ending) (w':World):Prop:=
 ∃ (L:List Ms) (l:List Sy) (a:Option Addr) (c:Nat) (a2:Option Addr) (c2:Nat),L.map (·.sc)=o.secs/\l=o.syms/\e=.returned (.agg #[.slice a L.length c,.slice a2 l.length c2])/\RO w' r D/\KP r w w'/\
  w'.ownsRow w.heap.size 57 6 (.slice a L.length c) L.length (L.flatMap msC)/\(∀ m ∈ L,OwnMs w' w.heap.size m)/\w'.ownsRow w.heap.size 66 4 (.slice a2 l.length c2) l.length (l.flatMap syC)
def ObjP (x:Option (Ob × ByteArray)) (r:Nat) (w:World) (e:Ending) (w':World):Prop:=match x with
 | none=>ThrO r w e w'
 | some (o,D)=>ObjD o r D w e w'
abbrev oset2 (u:World) (X:Nat) (v0 v1:Value):World:=(u.setCell ⟨X,0,none⟩ v0).setCell ⟨X,1,none⟩ v1
theorem OS.fin {w u:World} {r X:Nat} {D:ByteArray} {L:List Ms} {a:Option Addr} {c:Nat} {l:List Sy} {a2:Option Addr} {c2:Nat} (h:OS w u r X D L a c l a2 c2):RB (oset2 u X (.slice a L.length c) (.slice a2 l.length c2)) X #[.slice a L.length c,.slice a2 l.length c2] 25/\
  ObjD ⟨L.map (·.sc),l⟩ r D w (.returned (.agg #[.slice a L.length c,.slice a2 l.length c2])) (oset2 u X (.slice a L.length c) (.slice a2 l.length c2)):=by
 have hn:=h.nn
 have hx:=h.ee
 have hb:Below X u (oset2 u X (.slice a L.length c) (.slice a2 l.length c2)):=((Below.refl X u).setCell (p:=⟨X,0,none⟩) (Nat.le_refl X) _).setCell (p:=⟨X,1,none⟩) (Nat.le_refl X) _
 have hK:KP X u (oset2 u X (.slice a L.length c) (.slice a2 l.length c2)):=(KP.step X u 0 _).trans' (KP.step X _ 1 _)
 have h0:RB (u.setCell ⟨X,0,none⟩ (.slice a L.length c)) X #[.slice a L.length c,.slice none 0 0] 25:=h.xx.set (j:=0) _
 exact ⟨h0.set (j:=1) _,L,l,a,c,a2,c2,rfl,rfl,rfl,(hb.block r hn).trans h.rr,h.kk.below hb (by omega),own_low (own_kp2 h.os hK (by omega)) (by omega),fun m hm=>own_low (own_kp2 (h.on m hm) hK (by omega)) (by omega),own_low (own_kp2 h.oy hK (by omega)) (by omega)⟩
theorem objP_thr {x:Option (Ob × ByteArray)} {r:Nat} {w w':World} (hx:x=none) (hk:KP r w w'):ObjP x r w (.panicked [{ v:=.iface 90 (.agg #[]),recovered:=false }]) w':=by
 subst hx;exact ⟨rfl,hk⟩
theorem objP_did {x:Option (Ob × ByteArray)} {o:Ob} {D:ByteArray} {r:Nat} {w w':World} {e:Ending} (hx:x=some (o,D)) (h:ObjD o r D w e w'):ObjP x r w e w':=by
 subst hx;exact h
def preG {α:Type} (xs:List α) (o:Option (List α × ByteArray)):Option (List α × ByteArray):=match o with
 | none=>none
 | some (l,D)=>some (xs ++ l,D)
theorem preG_nil {α:Type} (o:Option (List α × ByteArray)):o=preG [] o:=by cases o <;> rfl
theorem preG_some {α:Type} {f:ByteArray->Option (α × ByteArray)} {n:Nat} {D E:ByteArray} {x:α} {xs:List α} (h:f D=some (x,E)):preG xs (rdMany f (n+1) D)=preG (xs ++ [x]) (rdMany f n E):=by
 rw [rdMany_some h]
 unfold preG
 cases rdMany f n E with
 | none=>rfl
 | some p=>obtain ⟨l,E⟩:=p;simp
abbrev mgL:List UInt8:=[67,76,69,65,84,1]
theorem cut_yes {D:ByteArray} (h:D.data.toList.take 6=mgL):Lib.hasPrefix D.data.toList mgL=true/\(⟨(Lib.trimPrefix D.data.toList mgL).toArray⟩:ByteArray)=D.extract 6 D.size:=by
 have h6:6<=D.data.toList.length:=by
  have:=congrArg List.length h
  simp only [List.length_take,List.length_cons,List.length_nil] at this
  omega
 have hp:Lib.hasPrefix D.data.toList mgL=true:=by
  rw [<-Lib.hasPrefix_of_take]
  simp only [Bool.and_eq_true,decide_eq_true_eq,beq_iff_eq]
  exact ⟨h6,h⟩
 refine ⟨hp,?_⟩
 unfold Lib.trimPrefix
 rw [if_pos hp,<-bA_of (D.extract 6 D.size),rest_list]
 rfl
theorem cut_no {D:ByteArray} (h:¬ D.data.toList.take 6=mgL):Lib.hasPrefix D.data.toList mgL=false:=by
 cases hp:Lib.hasPrefix D.data.toList mgL with
 | false=>rfl
 | true=>
  rw [<-Lib.hasPrefix_of_take] at hp
  simp only [Bool.and_eq_true,decide_eq_true_eq,beq_iff_eq] at hp
  exact absurd hp.2 h
theorem rdObj_0 {D:ByteArray} (h0:¬ D.data.toList.take 6=mgL):rdObj D=none:=by unfold rdObj;rw [if_neg h0]
theorem rdObj_1 {D:ByteArray} (h0:D.data.toList.take 6=mgL) (h1:rdNum 32 (D.extract 6 D.size)=none):rdObj D=none:=by unfold rdObj;rw [if_pos h0,h1]
theorem rdObj_2 {D D1:ByteArray} {n:Nat} (h0:D.data.toList.take 6=mgL) (h1:rdNum 32 (D.extract 6 D.size)=some (n,D1)) (h2:rdMany rdSec n D1=none):rdObj D=none:=by unfold rdObj;rw [if_pos h0,h1];simp only;rw [h2]
theorem rdObj_3 {D D1 D2:ByteArray} {n:Nat} {l:List Sc} (h0:D.data.toList.take 6=mgL) (h1:rdNum 32 (D.extract 6 D.size)=some (n,D1)) (h2:rdMany rdSec n D1=some (l,D2)) (h3:rdNum 128 D2=none):rdObj D=none:=by unfold rdObj;rw [if_pos h0,h1];simp only;rw [h2];simp only;rw [h3]
theorem rdObj_4 {D D1 D2 D3:ByteArray} {n m:Nat} {l:List Sc} (h0:D.data.toList.take 6=mgL) (h1:rdNum 32 (D.extract 6 D.size)=some (n,D1)) (h2:rdMany rdSec n D1=some (l,D2)) (h3:rdNum 128 D2=some (m,D3)) (h4:rdMany rdSym m D3=none):rdObj D=none:=by unfold rdObj;rw [if_pos h0,h1];simp only;rw [h2];simp only;rw [h3];simp only;rw [h4]
theorem rdObj_5 {D D1 D2 D3 D4:ByteArray} {n m:Nat} {l:List Sc} {q:List Sy} (h0:D.data.toList.take 6=mgL) (h1:rdNum 32 (D.extract 6 D.size)=some (n,D1)) (h2:rdMany rdSec n D1=some (l,D2)) (h3:rdNum 128 D2=some (m,D3)) (h4:rdMany rdSym m D3=some (q,D4)):rdObj D=some (⟨l,q⟩,D4):=by unfold rdObj;rw [if_pos h0,h1];simp only;rw [h2];simp only;rw [h3];simp only;rw [h4]
theorem rdSec_size (D:ByteArray) (s:Sc) (D':ByteArray) (h:rdSec D=some (s,D')):D'.size<=D.size:=by
 have:=congrArg List.length (rdSec_only D s D' h).1
 rw [List.length_append] at this
 have e1:D.data.toList.length=D.size:=rfl
 have e2:D'.data.toList.length=D'.size:=rfl
 omega
theorem rdSym_size (D:ByteArray) (s:Sy) (D':ByteArray) (h:rdSym D=some (s,D')):D'.size<=D.size:=by
 have:=congrArg List.length (rdSym_only D s D' h).1
 rw [List.length_append] at this
 have e1:D.data.toList.length=D.size:=rfl
 have e2:D'.data.toList.length=D'.size:=rfl
 omega
theorem oobj_no0 (r:Nat) (D:ByteArray) (h0:¬ D.data.toList.take 6=mgL) (w:World) (h:RO w r D):
  Calls Tryz.prog 44 #[.pointer (some ⟨r,0,none⟩)] w (ThrO r w):=by
 have HCut:Hid (∀ u,Calls Tryz.prog 71 #[.string D,.string ⟨#[67,76,69,65,84,1]⟩] u (Ret (.tuple #[.string ⟨(Lib.trimPrefix D.data.toList mgL).toArray⟩,.bool false]) u)):=Lib.hid fun u=>(Tryz.strings_CutPrefix D ⟨#[67,76,69,65,84,1]⟩ u).mono fun e w' h=>⟨h.1.trans (by rw [show ((⟨#[67,76,69,65,84,1]⟩:ByteArray).data.toList)=mgL from rfl,cut_no h0]),h.2.symm⟩
 generalize (⟨(Lib.trimPrefix D.data.toList mgL).toArray⟩:ByteArray)=R at HCut
 have hr:=lt_of_block h
 obtain ⟨X,hX⟩:∃ X,X=w.heap.size:=⟨_,rfl⟩
 have hXr:X ≠ r:=by omega
 have HXr:=Lib.hid hXr
 have HXE:=Lib.hid hX
 have HRX:Hid (r < X):=Lib.hid (by omega)
 have HRr:Hid (RO (w.alloc (.cells #[.slice none 0 0,.slice none 0 0] 25)) r D):=Lib.hid (h.next ((Below.refl _ w).alloc (Nat.le_refl _) _))
 have HXX:Hid (RB (w.alloc (.cells #[.slice none 0 0,.slice none 0 0] 25)) X #[.slice none 0 0,.slice none 0 0] 25):=Lib.hid (by rw [hX];exact (MapKept.heap_alloc w _).1)
 have HK:Hid (KP r w (w.alloc (.cells #[.slice none 0 0,.slice none 0 0] 25))):=Lib.hid ((KP.refl r w).lies _)
 have c0:(w.alloc (.cells #[.slice none 0 0,.slice none 0 0] 25)).cell? ⟨r,0,none⟩=some (.string D):=HRr.out.cell
 have f0:(w.alloc (.cells #[.slice none 0 0,.slice none 0 0] 25)).frozen? ⟨r,0,none⟩=false:=HRr.out.frozen
 clear hX hr h hXr h0
 go_enter Tryz.func44,Tryz.ntmps44
 go_wp2_with fail
 try rw [<-HXE.out]
 generalize (w.alloc (.cells #[.slice none 0 0,.slice none 0 0] 25))=W at HRr HXX HK c0 f0 ⊢
 refine (HCut.out _).mono ?_
 rintro e u ⟨rfl,rfl⟩
 go_wp2
 exact ⟨rfl,rfl,HK.out⟩
theorem oobj_no1 (r:Nat) (D E:ByteArray) (h0:D.data.toList.take 6=mgL) (hE:D.extract 6 D.size=E) (h1:rdNum 32 E=none) (hD:D.size<=maxLen) (w:World) (h:RO w r D):
  Calls Tryz.prog 44 #[.pointer (some ⟨r,0,none⟩)] w (ThrO r w):=by
 have hES:E.size<=maxLen:=by rw [<-hE];exact Nat.le_trans (rest_size D 6) hD
 have HCut:Hid (∀ u,Calls Tryz.prog 71 #[.string D,.string ⟨#[67,76,69,65,84,1]⟩] u (Ret (.tuple #[.string E,.bool true]) u)):=Lib.hid fun u=>(Tryz.strings_CutPrefix D ⟨#[67,76,69,65,84,1]⟩ u).mono fun e w' h=>⟨h.1.trans (by rw [show ((⟨#[67,76,69,65,84,1]⟩:ByteArray).data.toList)=mgL from rfl,(cut_yes h0).1,(cut_yes h0).2,hE]),h.2.symm⟩
 have hr:=lt_of_block h
 obtain ⟨X,hX⟩:∃ X,X=w.heap.size:=⟨_,rfl⟩
 have hXr:X ≠ r:=by omega
 have HXr:=Lib.hid hXr
 have HXE:=Lib.hid hX
 have HRX:Hid (r < X):=Lib.hid (by omega)
 have HRr:Hid (RO (w.alloc (.cells #[.slice none 0 0,.slice none 0 0] 25)) r D):=Lib.hid (h.next ((Below.refl _ w).alloc (Nat.le_refl _) _))
 have HXX:Hid (RB (w.alloc (.cells #[.slice none 0 0,.slice none 0 0] 25)) X #[.slice none 0 0,.slice none 0 0] 25):=Lib.hid (by rw [hX];exact (MapKept.heap_alloc w _).1)
 have HK:Hid (KP r w (w.alloc (.cells #[.slice none 0 0,.slice none 0 0] 25))):=Lib.hid ((KP.refl r w).lies _)
 have c0:(w.alloc (.cells #[.slice none 0 0,.slice none 0 0] 25)).cell? ⟨r,0,none⟩=some (.string D):=HRr.out.cell
 have f0:(w.alloc (.cells #[.slice none 0 0,.slice none 0 0] 25)).frozen? ⟨r,0,none⟩=false:=HRr.out.frozen
 have HW0:Hid ((w.alloc (.cells #[.slice none 0 0,.slice none 0 0] 25)).heap.size=X+1):=Lib.hid (by rw [World.size_alloc,hX])
 have C1:Hid (∀ u,RO u r E->Calls Tryz.prog 72 #[.pointer (some ⟨r,0,none⟩),.int .i64 32] u (ThrO r u)):=Lib.hid fun u hu=>rdNum_no h1 (by decide) (by decide) hES u hu
 clear hX hr h hXr h0 hE h1 hD hES
 go_enter Tryz.func44,Tryz.ntmps44
 go_wp2_with fail
 try rw [<-HXE.out]
 generalize (w.alloc (.cells #[.slice none 0 0,.slice none 0 0] 25))=W at HRr HXX HK c0 f0 HW0 ⊢
 refine (HCut.out _).mono ?_
 rintro e u ⟨rfl,rfl⟩
 have HWX:Hid (W.heap.size=X+1):=Lib.hid HW0.out
 have HRr2:=Lib.hid (HRr.out.set (j:=0) (.string E))
 have HK2:=Lib.hid (HK.out.trans' (KP.step r W 0 (.string E)))
 have HXX2:=Lib.hid (HXX.out.kept (KP.step r W 0 (.string E)) HXr.out)
 have hsz:(W.setCell ⟨r,0,none⟩ (.string E)).heap.size=W.heap.size:=by simp [World.setCell]
 have HYE:Hid (X+1=W.heap.size):=Lib.hid HWX.out.symm
 have hBA:=(Below.refl (W.setCell ⟨r,0,none⟩ (.string E)).heap.size (W.setCell ⟨r,0,none⟩ (.string E))).alloc (Nat.le_refl _) (.cells #[.slice none 0 0,.slice none 0 0] 25)
 have HS:Hid (OS w ((W.setCell ⟨r,0,none⟩ (.string E)).alloc (.cells #[.slice none 0 0,.slice none 0 0] 25)) r X E [] none 0 [] none 0):=Lib.hid (by
  refine OS.mk0 (HRr2.out.next hBA) (HXX2.out.next hBA) ?_ (HK2.out.lies (.cells #[.slice none 0 0,.slice none 0 0] 25)) HXE.out HRX.out
  rw [HYE.out,<-hsz];exact (MapKept.heap_alloc _ _).1)
 clear hsz hBA HRr2 HK2 HXX2 HRr HXX HK
 go_wp2_with fail
 clear c0 f0
 try rw [<-HYE.out]
 generalize (W.setCell ⟨r,0,none⟩ (.string E)).alloc (.cells #[.slice none 0 0,.slice none 0 0] 25)=V at HS ⊢
 clear HYE HWX
 refine (C1.out _ HS.out.rr).mono ?_
 rintro e v ⟨rfl,hk⟩
 have HKK:=Lib.hid (HS.out.kk.trans' hk)
 clear hk
 go_wp2
 exact ⟨rfl,rfl,HKK.out⟩
theorem oobj_main (r:Nat) (D E D1:ByteArray) (n:Nat) (h0:D.data.toList.take 6=mgL) (hE:D.extract 6 D.size=E) (h1:rdNum 32 E=some (n,D1)) (hD:D.size<=maxLen) (w:World) (h:RO w r D) (res:Option (Ob × ByteArray)) (hres:res=rdObj D):
  Calls Tryz.prog 44 #[.pointer (some ⟨r,0,none⟩)] w (ObjP res r w):=by
 have hES:E.size<=maxLen:=by rw [<-hE];exact Nat.le_trans (rest_size D 6) hD
 have HR:=Lib.hid hres
 have HH0:=Lib.hid h0
 have HH1:Hid (rdNum 32 (D.extract 6 D.size)=some (n,D1)):=Lib.hid (by rw [hE];exact h1)
 have HN:Hid (n<=32):=Lib.hid (by have:=(rdNum_only h1).2.1;omega)
 have HD1:Hid (D1.size<=maxLen):=Lib.hid (Nat.le_trans (rdNum_size h1) hES)
 have HCut:Hid (∀ u,Calls Tryz.prog 71 #[.string D,.string ⟨#[67,76,69,65,84,1]⟩] u (Ret (.tuple #[.string E,.bool true]) u)):=Lib.hid fun u=>(Tryz.strings_CutPrefix D ⟨#[67,76,69,65,84,1]⟩ u).mono fun e w' h=>⟨h.1.trans (by rw [show ((⟨#[67,76,69,65,84,1]⟩:ByteArray).data.toList)=mgL from rfl,(cut_yes h0).1,(cut_yes h0).2,hE]),h.2.symm⟩
 have hr:=lt_of_block h
 obtain ⟨X,hX⟩:∃ X,X=w.heap.size:=⟨_,rfl⟩
 have hXr:X ≠ r:=by omega
 have HXr:=Lib.hid hXr
 have HXE:=Lib.hid hX
 have HRX:Hid (r < X):=Lib.hid (by omega)
 have HRr:Hid (RO (w.alloc (.cells #[.slice none 0 0,.slice none 0 0] 25)) r D):=Lib.hid (h.next ((Below.refl _ w).alloc (Nat.le_refl _) _))
 have HXX:Hid (RB (w.alloc (.cells #[.slice none 0 0,.slice none 0 0] 25)) X #[.slice none 0 0,.slice none 0 0] 25):=Lib.hid (by rw [hX];exact (MapKept.heap_alloc w _).1)
 have HK:Hid (KP r w (w.alloc (.cells #[.slice none 0 0,.slice none 0 0] 25))):=Lib.hid ((KP.refl r w).lies _)
 have c0:(w.alloc (.cells #[.slice none 0 0,.slice none 0 0] 25)).cell? ⟨r,0,none⟩=some (.string D):=HRr.out.cell
 have f0:(w.alloc (.cells #[.slice none 0 0,.slice none 0 0] 25)).frozen? ⟨r,0,none⟩=false:=HRr.out.frozen
 have HW0:Hid ((w.alloc (.cells #[.slice none 0 0,.slice none 0 0] 25)).heap.size=X+1):=Lib.hid (by rw [World.size_alloc,hX])
 have C1:Hid (∀ u,RO u r E->Calls Tryz.prog 72 #[.pointer (some ⟨r,0,none⟩),.int .i64 32] u (DidO (.int .i64 (n:Int)) r D1 u)):=Lib.hid fun u hu=>rdNum_ok h1 (by decide) hES u hu
 clear hX hr h hXr h0 hE h1 hD hES hres
 go_enter Tryz.func44,Tryz.ntmps44
 go_wp2_with fail
 try rw [<-HXE.out]
 generalize (w.alloc (.cells #[.slice none 0 0,.slice none 0 0] 25))=W at HRr HXX HK c0 f0 HW0 ⊢
 refine (HCut.out _).mono ?_
 rintro e u ⟨rfl,rfl⟩
 have HWX:Hid (W.heap.size=X+1):=Lib.hid HW0.out
 have HRr2:=Lib.hid (HRr.out.set (j:=0) (.string E))
 have HK2:=Lib.hid (HK.out.trans' (KP.step r W 0 (.string E)))
 have HXX2:=Lib.hid (HXX.out.kept (KP.step r W 0 (.string E)) HXr.out)
 have hsz:(W.setCell ⟨r,0,none⟩ (.string E)).heap.size=W.heap.size:=by simp [World.setCell]
 have HYE:Hid (X+1=W.heap.size):=Lib.hid HWX.out.symm
 have hBA:=(Below.refl (W.setCell ⟨r,0,none⟩ (.string E)).heap.size (W.setCell ⟨r,0,none⟩ (.string E))).alloc (Nat.le_refl _) (.cells #[.slice none 0 0,.slice none 0 0] 25)
 have HS:Hid (OS w ((W.setCell ⟨r,0,none⟩ (.string E)).alloc (.cells #[.slice none 0 0,.slice none 0 0] 25)) r X E [] none 0 [] none 0):=Lib.hid (by
  refine OS.mk0 (HRr2.out.next hBA) (HXX2.out.next hBA) ?_ (HK2.out.lies (.cells #[.slice none 0 0,.slice none 0 0] 25)) HXE.out HRX.out
  rw [HYE.out,<-hsz];exact (MapKept.heap_alloc _ _).1)
 clear hsz hBA HRr2 HK2 HXX2 HRr HXX HK
 go_wp2_with fail
 clear c0 f0
 try rw [<-HYE.out]
 generalize (W.setCell ⟨r,0,none⟩ (.string E)).alloc (.cells #[.slice none 0 0,.slice none 0 0] 25)=V at HS ⊢
 clear HYE HWX
 refine (C1.out _ HS.out.rr).mono ?_
 rintro e v ⟨rfl,hr,hk⟩
 replace HS:=Lib.hid (HS.out.call hr hk)
 clear hr hk C1
 go_wp2_with fail
 go_loopw [24] (fun i wr=>∃ (j:Nat) (L:List Ms) (a:Option Addr) (c:Nat) (Dj:ByteArray),Hid (OS w wr r X Dj L a c [] none 0)/\j<=n/\i=.int .i64 j/\Hid (L.length=j)/\Hid (rdMany rdSec n D1=preG (L.map (·.sc)) (rdMany rdSec (n - j) Dj))/\Hid (Dj.size<=maxLen)) (fun i _=>n - (intOf i).toNat)
 case atStart=>exact ⟨0,[],none,0,D1,HS,by omega,rfl,Lib.hid rfl,Lib.hid (preG_nil _),HD1⟩
 case round=>
  clear HS
  obtain ⟨j,L,a,c,Dj,HS,hj,rfl,HXS,HP,HDj⟩:=hrel
  by_cases hlt:j < n
  ·have hlti:(j:Int) < (n:Int):=by omega
   have HLT:=Lib.hid hlt
   have hni:(n:Int)<=32:=by have:=HN.out;omega
   obtain ⟨q,hq⟩:∃ q,n - j=q+1:=⟨n - j - 1,by omega⟩
   have HQ:=Lib.hid hq
   clear hq hj
   cases c1:rdSec Dj with
   | none=>
    have HZ:Hid (res=none):=Lib.hid (by
     rw [HR.out]
     exact rdObj_2 HH0.out HH1.out (by rw [HP.out,HQ.out,rdMany_none c1];rfl))
    have KS:Hid (∀ u,RO u r Dj->Calls Tryz.prog 73 #[.pointer (some ⟨r,0,none⟩)] u (ThrO r u)):=Lib.hid fun u hu=>by
     have:=osec_any r Dj HDj.out u hu
     rw [c1] at this;exact this
    clear c1
    obtain ⟨Zz,HZz⟩:∃ Zz:Prop,Hid Zz:=⟨True,Lib.hid trivial⟩
    have y5:wr.cell? ⟨X+1,0,none⟩=some (.slice a L.length c):=HS.out.cells 0 _ rfl
    go_wp2_with fail
    first | (go_region_law (go_simp;go_at_call 73;refine (KS.out _ HS.out.drew.rr).mono ?_;rintro e v1 ⟨rfl,hd1⟩;refine any_end2 (P:=Tryz.prog) (a:={ tmps:=#[],defers:=[] }) (w:=v1) (Z:=Zz) ⟨rfl,objP_thr HZ.out (HS.out.drew.kk.trans' hd1)⟩ ?_)) | fail
    all_goals exact HZz.out
   | some p=>
    obtain ⟨⟨nm,ki,kp,al,dt,rl⟩,E1⟩:=p
    have HP5:Hid (rdMany rdSec n D1=preG (L.map (·.sc) ++ [⟨nm,ki,kp,al,dt,rl⟩]) (rdMany rdSec (n - (j+1)) E1)):=Lib.hid (by
     rw [HP.out,HQ.out,preG_some c1,show n - (j+1)=q from by have:=HQ.out;omega])
    have HD5:Hid (E1.size<=maxLen):=Lib.hid (Nat.le_trans (rdSec_size _ _ _ c1) HDj.out)
    have KS:Hid (∀ u,RO u r Dj->Calls Tryz.prog 73 #[.pointer (some ⟨r,0,none⟩)] u (SecD ⟨nm,ki,kp,al,dt,rl⟩ r E1 u)):=Lib.hid fun u hu=>by
     have:=osec_any r Dj HDj.out u hu
     rw [c1] at this;exact this
    have hxl:Hid (L.length<=31):=Lib.hid (by have:=HN.out;have:=HXS.out;have:=HLT.out;omega)
    clear c1
    have hno:Hid ((Value.slice a L.length c).ownBlock ≠ some (X+1)):=Lib.hid (fun e=>by have:=(HS.out.os.lt (X+1) e).1;omega)
    obtain ⟨i0,hi0,hz0,hz1,hz2⟩:=info_parts info_sec
    have y5:wr.cell? ⟨X+1,0,none⟩=some (.slice a L.length c):=HS.out.cells 0 _ rfl
    go_wp2_with fail
    first | (go_region_law ((first
     | (go_simp;go_at_call 73;refine (KS.out _ HS.out.drew.rr).mono ?_;rintro e m1 ⟨ad,cp,rfl,hr1,hk1,ho1⟩;have hm1:Hid (OwnMs m1 (X+2) ⟨⟨nm,ki,kp,al,dt,rl⟩,ad,cp⟩):=Lib.hid (own_low ho1 (by have:=lt_of_block HS.out.yy;show X+2<=wr.heap.size;omega));have H1:=Lib.hid (HS.out.drew.call hr1 hk1);have t1:m1.cell? ⟨X+1,0,none⟩=some (.slice a L.length c):=H1.out.cells 0 _ rfl;have tA:(m1.alloc (.cells #[.string ⟨nm.toArray⟩,.int .i64 ki,.bool kp,.int .i64 al,.string ⟨dt.toArray⟩,.slice ad rl.length cp] 57)).cell? ⟨X+1,0,none⟩=some (.slice a L.length c):=(World.cell?_alloc_past (w:=m1) _ _ _ (lt_of_block H1.out.yy)).trans t1;clear hr1 hk1 ho1)
     | (have hl4:=hxl.out;have hX4:X+1 < m1.heap.size:=lt_of_block H1.out.yy;refine step_append_lies _ (by rfl) _ _ _ (by rfl) (X+2) 57 i0 _ 6 80 Tryz.underlying22 hi0 hz0 hz1 hz2 rfl (by omega) (.slice a L.length c) L.length (L.flatMap msC) (by rfl) (H1.out.os.alloc _) ⟨m1.heap.size,0,none⟩ 1 1 (msC ⟨⟨nm,ki,kp,al,dt,rl⟩,ad,cp⟩) (by rfl) (by rfl) (World.news_of_block (cs:=msA ⟨⟨nm,ki,kp,al,dt,rl⟩,ad,cp⟩) (t:=57) (fr:=(0,0)) (heap_alloc_new m1 _)) (ms_one _) (by omega) (by unfold maxLen;omega) (by omega) (by simp;omega) (m1.heap.size+1) (by simp) ?_;intro g3 cap w3 hown3 hgrow hat hlt3;have s5:w3.cell? ⟨X+1,0,none⟩=some (.slice a L.length c):=(hgrow.cell_far _ (by simp;omega) (Ne.symm hno.out)).trans ((World.cell?_alloc_past (w:=m1) _ _ _ hX4).trans t1);have s6:w3.frozen? ⟨X+1,0,none⟩=false:=(hgrow.frozen_far _ (by simp;omega) (Ne.symm hno.out)).trans ((World.frozen?_alloc_past (w:=m1) _ _ _ hX4).trans (H1.out.free 0)))))) | fail
    all_goals
     have H5:Hid (OS w (w3.setCell ⟨X+1,0,none⟩ (.slice (some ⟨g3,0,none⟩) (L.length+1) cap)) r X E1 (L ++ [⟨⟨nm,ki,kp,al,dt,rl⟩,ad,cp⟩]) (some ⟨g3,0,none⟩) cap [] none 0):=Lib.hid (H1.out.addSec hm1.out hown3 hgrow)
     clear hown3 hgrow hat hlt3 s5 s6 t1 tA y5 H1 HS hl4 hX4 hi0 hz0 hz1 hz2 hm1
     go_wp2
     go_roundw
     case rel=>exact ⟨j+1,_,_,_,E1,H5,by have:=HLT.out;omega,by go_num,Lib.hid (by have:=HXS.out;simp;omega),Lib.hid (by rw [List.map_append];exact HP5.out),HD5⟩
     case measure=>have:=HLT.out;simp [intOf];omega
  ·have hnlt:¬ (j:Int) < (n:Int):=by omega
   have hjn:n - j=0:=by omega
   have HH2:Hid (rdMany rdSec n D1=some (L.map (·.sc),Dj)):=Lib.hid (by rw [HP.out,hjn];simp [rdMany,preG])
   clear hjn HP hj hlt
   cases c3:rdNum 128 Dj with
   | none=>
    have HZ:Hid (res=none):=Lib.hid (by rw [HR.out];exact rdObj_3 HH0.out HH1.out HH2.out c3)
    have C3:Hid (∀ u,RO u r Dj->Calls Tryz.prog 72 #[.pointer (some ⟨r,0,none⟩),.int .i64 128] u (ThrO r u)):=Lib.hid fun u hu=>rdNum_no c3 (by decide) (by decide) HDj.out u hu
    clear c3
    go_wp2_with fail
    refine (C3.out _ HS.out.rr).mono ?_
    rintro e v1 ⟨rfl,hk⟩
    have HKK:=Lib.hid (HS.out.kk.trans' hk)
    clear hk
    go_wp2
    exact ⟨rfl,objP_thr HZ.out HKK.out⟩
   | some p=>
    obtain ⟨m,D3⟩:=p
    have HM:Hid (m<=128):=Lib.hid (by have:=(rdNum_only c3).2.1;omega)
    have HD3:Hid (D3.size<=maxLen):=Lib.hid (Nat.le_trans (rdNum_size c3) HDj.out)
    have HH3:=Lib.hid c3
    have C3:Hid (∀ u,RO u r Dj->Calls Tryz.prog 72 #[.pointer (some ⟨r,0,none⟩),.int .i64 128] u (DidO (.int .i64 (m:Int)) r D3 u)):=Lib.hid fun u hu=>rdNum_ok c3 (by decide) HDj.out u hu
    clear c3
    go_wp2_with fail
    refine (C3.out _ HS.out.rr).mono ?_
    rintro e v1 ⟨rfl,hr,hk⟩
    replace HS:=Lib.hid (HS.out.call hr hk)
    clear hr hk C3 hnlt
    go_wp2_with fail
    go_loopw [36] (fun i wr=>∃ (j:Nat) (l:List Sy) (a2:Option Addr) (c2:Nat) (Dk:ByteArray),Hid (OS w wr r X Dk L a c l a2 c2)/\j<=m/\i=.int .i64 j/\Hid (l.length=j)/\Hid (rdMany rdSym m D3=preG l (rdMany rdSym (m - j) Dk))/\Hid (Dk.size<=maxLen)) (fun i _=>m - (intOf i).toNat)
    case atStart=>exact ⟨0,[],none,0,D3,HS,by omega,rfl,Lib.hid rfl,Lib.hid (preG_nil _),HD3⟩
    case round=>
     clear HS HDj
     obtain ⟨j,l,a2,c2,Dj,HS,hj,rfl,HYS,HP,HDj⟩:=hrel
     by_cases hlt:j < m
     ·have hlti:(j:Int) < (m:Int):=by omega
      have HLT:=Lib.hid hlt
      have hmi:(m:Int)<=128:=by have:=HM.out;omega
      obtain ⟨q,hq⟩:∃ q,m - j=q+1:=⟨m - j - 1,by omega⟩
      have HQ:=Lib.hid hq
      clear hq hj
      cases c1:rdSym Dj with
      | none=>
       have HZ:Hid (res=none):=Lib.hid (by
        rw [HR.out]
        exact rdObj_4 HH0.out HH1.out HH2.out HH3.out (by rw [HP.out,HQ.out,rdMany_none c1];rfl))
       have KS:Hid (∀ u,RO u r Dj->Calls Tryz.prog 74 #[.pointer (some ⟨r,0,none⟩)] u (ThrO r u)):=Lib.hid fun u hu=>by
        have:=osym_any r Dj HDj.out u hu
        rw [c1] at this;exact this
       clear c1
       obtain ⟨Zz,HZz⟩:∃ Zz:Prop,Hid Zz:=⟨True,Lib.hid trivial⟩
       have y5:wr.cell? ⟨X+1,1,none⟩=some (.slice a2 l.length c2):=HS.out.cells 1 _ rfl
       go_wp2_with fail
       first | (go_region_law (go_simp;go_at_call 74;refine (KS.out _ HS.out.drew.rr).mono ?_;rintro e v1 ⟨rfl,hd1⟩;refine any_end2 (P:=Tryz.prog) (a:={ tmps:=#[],defers:=[] }) (w:=v1) (Z:=Zz) ⟨rfl,objP_thr HZ.out (HS.out.drew.kk.trans' hd1)⟩ ?_)) | fail
       all_goals exact HZz.out
      | some p=>
       obtain ⟨⟨nm,bi,se,of⟩,E1⟩:=p
       have HP5:Hid (rdMany rdSym m D3=preG (l ++ [⟨nm,bi,se,of⟩]) (rdMany rdSym (m - (j+1)) E1)):=Lib.hid (by
        rw [HP.out,HQ.out,preG_some c1,show m - (j+1)=q from by have:=HQ.out;omega])
       have HD5:Hid (E1.size<=maxLen):=Lib.hid (Nat.le_trans (rdSym_size _ _ _ c1) HDj.out)
       have KS:Hid (∀ u,RO u r Dj->Calls Tryz.prog 74 #[.pointer (some ⟨r,0,none⟩)] u (DidO (.agg #[.string ⟨nm.toArray⟩,.int .i64 bi,.int .i64 se,.int .i64 of]) r E1 u)):=Lib.hid fun u hu=>by
        have:=osym_any r Dj HDj.out u hu
        rw [c1] at this;exact this
       have hxl:Hid (l.length<=127):=Lib.hid (by have:=HM.out;have:=HYS.out;have:=HLT.out;omega)
       clear c1
       have hno:Hid ((Value.slice a2 l.length c2).ownBlock ≠ some (X+1)):=Lib.hid (fun e=>by have:=(HS.out.oy.lt (X+1) e).1;omega)
       obtain ⟨i0,hi0,hz0,hz1,hz2⟩:=info_parts info_sym
       have y5:wr.cell? ⟨X+1,1,none⟩=some (.slice a2 l.length c2):=HS.out.cells 1 _ rfl
       go_wp2_with fail
       first | (go_region_law ((first
        | (go_simp;go_at_call 74;refine (KS.out _ HS.out.drew.rr).mono ?_;rintro e m1 ⟨rfl,hr1,hk1⟩;have H1:=Lib.hid (HS.out.drew.call hr1 hk1);have t1:m1.cell? ⟨X+1,1,none⟩=some (.slice a2 l.length c2):=H1.out.cells 1 _ rfl;have tA:(m1.alloc (.cells #[.string ⟨nm.toArray⟩,.int .i64 bi,.int .i64 se,.int .i64 of] 66)).cell? ⟨X+1,1,none⟩=some (.slice a2 l.length c2):=(World.cell?_alloc_past (w:=m1) _ _ _ (lt_of_block H1.out.yy)).trans t1;clear hr1 hk1)
        | (have hl4:=hxl.out;have hX4:X+1 < m1.heap.size:=lt_of_block H1.out.yy;refine step_append_lies _ (by rfl) _ _ _ (by rfl) (X+2) 66 i0 _ 4 40 Tryz.underlying23 hi0 hz0 hz1 hz2 rfl (by omega) (.slice a2 l.length c2) l.length (l.flatMap syC) (by rfl) (H1.out.oy.alloc _) ⟨m1.heap.size,0,none⟩ 1 1 (syC ⟨nm,bi,se,of⟩) (by rfl) (by rfl) (World.news_of_block (cs:=syA ⟨nm,bi,se,of⟩) (t:=66) (fr:=(0,0)) (heap_alloc_new m1 _)) (sy_one _) (by omega) (by unfold maxLen;omega) (by omega) (by simp;omega) (m1.heap.size+1) (by simp) ?_;intro g3 cap w3 hown3 hgrow hat hlt3;have s5:w3.cell? ⟨X+1,1,none⟩=some (.slice a2 l.length c2):=(hgrow.cell_far _ (by simp;omega) (Ne.symm hno.out)).trans ((World.cell?_alloc_past (w:=m1) _ _ _ hX4).trans t1);have s6:w3.frozen? ⟨X+1,1,none⟩=false:=(hgrow.frozen_far _ (by simp;omega) (Ne.symm hno.out)).trans ((World.frozen?_alloc_past (w:=m1) _ _ _ hX4).trans (H1.out.free 1)))))) | fail
       all_goals
        have H5:Hid (OS w (w3.setCell ⟨X+1,1,none⟩ (.slice (some ⟨g3,0,none⟩) (l.length+1) cap)) r X E1 L a c (l ++ [⟨nm,bi,se,of⟩]) (some ⟨g3,0,none⟩) cap):=Lib.hid (H1.out.addSym hown3 hgrow)
        clear hown3 hgrow hat hlt3 s5 s6 t1 tA y5 H1 HS hl4 hX4 hi0 hz0 hz1 hz2
        go_wp2
        go_roundw
        case rel=>exact ⟨j+1,_,_,_,E1,H5,by have:=HLT.out;omega,by go_num,Lib.hid (by have:=HYS.out;simp;omega),HP5,HD5⟩
        case measure=>have:=HLT.out;simp [intOf];omega
     ·have hnlt:¬ (j:Int) < (m:Int):=by omega
      have hjn:m - j=0:=by omega
      have HZ:Hid (res=some (⟨L.map (·.sc),l⟩,Dj)):=Lib.hid (by
       rw [HR.out]
       exact rdObj_5 HH0.out HH1.out HH2.out HH3.out (by rw [HP.out,hjn];simp [rdMany,preG]))
      have HF:=Lib.hid HS.out.fin
      have y0:wr.cell? ⟨X+1,0,none⟩=some (.slice a L.length c):=HS.out.cells 0 _ rfl
      have y1:wr.cell? ⟨X+1,1,none⟩=some (.slice a2 l.length c2):=HS.out.cells 1 _ rfl
      have x0:wr.cell? ⟨X,0,none⟩=some (.slice none 0 0):=HS.out.xx.cell
      have x1:wr.cell? ⟨X,1,none⟩=some (.slice none 0 0):=HS.out.xx.cell
      have xf0:wr.frozen? ⟨X,0,none⟩=false:=HS.out.xx.frozen
      have xf1:wr.frozen? ⟨X,1,none⟩=false:=HS.out.xx.frozen
      clear hjn HP hj hlt
      go_wp2
      refine bodyPost_ret (results_cell_row (P:=Tryz.prog) rfl _ _ X 25 _ (0,0) _ rfl HF.out.1 Tryz.underlying25 rfl (by kernel_rfl)) rfl ?_
      exact objP_did HZ.out HF.out.2
theorem oobj_any (r:Nat) (D:ByteArray) (hD:D.size<=maxLen) (w:World) (h:RO w r D):
  Calls Tryz.prog 44 #[.pointer (some ⟨r,0,none⟩)] w (ObjP (rdObj D) r w):=by
 by_cases h0:D.data.toList.take 6=mgL
 ·cases h1:rdNum 32 (D.extract 6 D.size) with
  | none=>rw [rdObj_1 h0 h1];exact oobj_no1 r D _ h0 rfl h1 hD w h
  | some p=>obtain ⟨n,D1⟩:=p;exact oobj_main r D _ D1 n h0 rfl h1 hD w h _ rfl
 ·rw [rdObj_0 h0];exact oobj_no0 r D h0 w h
open Go.ChangeShapes Go.WideShapes Go.Deep Go.RowKit
structure GO (u:World) (B:Nat) (L:List Ms) (a:Option Addr) (c:Nat) (l:List Sy) (a2:Option Addr) (c2:Nat):Prop where
 os:u.ownsRow B 57 6 (.slice a L.length c) L.length (L.flatMap msC)
 on:∀ m ∈ L,OwnMs u B m
 oy:u.ownsRow B 66 4 (.slice a2 l.length c2) l.length (l.flatMap syC)
theorem GO.kp {u u':World} {B p:Nat} {L:List Ms} {a:Option Addr} {c:Nat} {l:List Sy} {a2:Option Addr} {c2:Nat} (h:GO u B L a c l a2 c2) (hK:KP p u u') (hp:p < B):GO u' B L a c l a2 c2:=
 ⟨own_kp2 h.os hK hp,fun m hm=>own_kp2 (h.on m hm) hK hp,own_kp2 h.oy hK hp⟩
theorem own_next {u u':World} {B e sz n:Nat} {v:Value} {xs:List Value} (h:u.ownsRow B e sz v n xs) (hb:Below u.heap.size u u'):u'.ownsRow B e sz v n xs:=by
 refine ⟨h.1,?_⟩
 rcases h.2 with hh | ⟨g,cap,cur,hv,hbg,hg,r⟩
 ·exact .inl hh
 ·exact .inr ⟨g,cap,cur,hv,hbg,(hb.block g (lt_of_block hg)).trans hg,r⟩
theorem GO.next {u u':World} {B:Nat} {L:List Ms} {a:Option Addr} {c:Nat} {l:List Sy} {a2:Option Addr} {c2:Nat} (h:GO u B L a c l a2 c2) (hb:Below u.heap.size u u'):GO u' B L a c l a2 c2:=
 ⟨own_next h.os hb,fun m hm=>own_next (h.on m hm) hb,own_next h.oy hb⟩
theorem GO.low {u:World} {B B':Nat} {L:List Ms} {a:Option Addr} {c:Nat} {l:List Sy} {a2:Option Addr} {c2:Nat} (h:GO u B L a c l a2 c2) (hB:B'<=B):GO u B' L a c l a2 c2:=
 ⟨own_low h.os hB,fun m hm=>own_low (h.on m hm) hB,own_low h.oy hB⟩
theorem GO.secs {u:World} {B:Nat} {L:List Ms} {a:Option Addr} {c:Nat} {l:List Sy} {a2:Option Addr} {c2:Nat} (h:GO u B L a c l a2 c2):SL msC 6 u u.heap.size a L.length L:=by
 obtain ⟨a',c',hv,hs,-⟩:=SL.ofOwns ms_len (by decide) h.os
 cases hv;exact hs
theorem GO.syms {u:World} {B:Nat} {L:List Ms} {a:Option Addr} {c:Nat} {l:List Sy} {a2:Option Addr} {c2:Nat} (h:GO u B L a c l a2 c2):SL syC 4 u u.heap.size a2 l.length l:=by
 obtain ⟨a',c',hv,hs,-⟩:=SL.ofOwns sy_len (by decide) h.oy
 cases hv;exact hs
theorem GO.notes {u:World} {B:Nat} {L:List Ms} {a:Option Addr} {c:Nat} {l:List Sy} {a2:Option Addr} {c2:Nat} (h:GO u B L a c l a2 c2):Notes u u.heap.size L:=by
 intro m hm
 obtain ⟨a',c',hv,hs,-⟩:=SL.ofOwns rl_len (by decide) (h.on m hm)
 cases hv;exact hs
theorem GO.nil (u:World) (B:Nat):GO u B [] none 0 [] none 0:=⟨World.ownsRow_nil _ _ _ _,by simp,World.ownsRow_nil _ _ _ _⟩
def GetR (D:ByteArray) (w:World) (e:Ending) (w':World):Prop:=match getO D with
 | none=>e=.returned (.tuple #[.agg #[.slice none 0 0,.slice none 0 0],.int .i64 3])/\Below w.heap.size w w'
 | some o=>∃ (L:List Ms) (a:Option Addr) (c:Nat) (a2:Option Addr) (c2:Nat),L.map (·.sc)=o.secs/\e=.returned (.tuple #[.agg #[.slice a L.length c,.slice a2 o.syms.length c2],.int .i64 0])/\GO w' w.heap.size L a c o.syms a2 c2/\Below w.heap.size w w'
theorem getR_no {D:ByteArray} {w w':World} {e:Ending} (h:getO D=none) (he:e=.returned (.tuple #[.agg #[.slice none 0 0,.slice none 0 0],.int .i64 3])) (hb:Below w.heap.size w w'):GetR D w e w':=by
 unfold GetR;rw [h];exact ⟨he,hb⟩
theorem oset2_rb {u:World} {B:Nat} {x0 x1 v0 v1:Value} (h:RB u B #[x0,x1] 25):RB (oset2 u B v0 v1) B #[v0,v1] 25:=by
 have h0:RB (u.setCell ⟨B,0,none⟩ v0) B #[v0,x1] 25:=h.set (j:=0) _
 exact h0.set (j:=1) _
theorem oset2_other {u:World} {B C:Nat} {v0 v1:Value} (h:C ≠ B):(oset2 u B v0 v1).heap[C]?=u.heap[C]?:=by unfold oset2;rw [hother h,hother h]
theorem oset2_below {w u:World} {B X:Nat} {v0 v1:Value} (h:Below X w u) (hB:X<=B):Below X w (oset2 u B v0 v1):=(h.setCell (p:=⟨B,0,none⟩) hB _).setCell (p:=⟨B,1,none⟩) hB _
theorem oset2_kp (u:World) (B:Nat) (v0 v1:Value):KP B u (oset2 u B v0 v1):=(KP.step B u 0 _).trans' (KP.step B _ 1 _)
structure GS2 (w u:World) (B:Nat) (v0 v1:Value) (D:ByteArray):Prop where
 o:RB u B #[v0,v1] 25
 e:RB u (B+1) #[.int .i64 0] 28
 r:RO u (B+2) D
 k:Below w.heap.size w u
 b:B=w.heap.size
theorem GS2.mk0 (w:World) (D:ByteArray):GS2 w (((w.alloc (.cells #[.slice none 0 0,.slice none 0 0] 25)).alloc (.cells #[.int .i64 0] 28)).alloc (.cells #[.string D] 87)) w.heap.size (.slice none 0 0) (.slice none 0 0) D:=by
 have h:=GSt.mk0 w D
 exact ⟨h.o,h.e,h.r,h.k,h.b⟩
theorem GS2.call {w u u':World} {B:Nat} {v0 v1:Value} {D D':ByteArray} (h:GS2 w u B v0 v1 D) (hR:RO u' (B+2) D') (hK:KP (B+2) u u'):GS2 w u' B v0 v1 D':=
 ⟨h.o.kept hK (by omega),h.e.kept hK (by omega),hR,KP.to_below h.k hK (by rw [h.b];omega),h.b⟩
theorem GS2.next {w u u':World} {B:Nat} {v0 v1:Value} {D:ByteArray} (h:GS2 w u B v0 v1 D) (hb:Below u.heap.size u u'):GS2 w u' B v0 v1 D:=h.call (h.r.next hb) (KP.of_below hb)
theorem GS2.put {w u:World} {B:Nat} {v0 v1:Value} {D:ByteArray} (h:GS2 w u B v0 v1 D) (x0 x1:Value):GS2 w (oset2 u B x0 x1) B x0 x1 D:=
 ⟨oset2_rb h.o,(oset2_other (by omega)).trans h.e,(oset2_other (by omega)).trans h.r,oset2_below h.k (by rw [h.b];exact Nat.le_refl _),h.b⟩
theorem Get_thr (D:ByteArray) (hD:D.size<=maxLen) (h:rdObj D=none) (w:World) (hT:TabP w):Calls Tryz.prog 10 #[.string D] w (GetR D w):=by
 have HG:Hid (getO D=none):=Lib.hid (by unfold getO;rw [h])
 have HOb:Hid (∀ r u,RO u r D->Calls Tryz.prog 44 #[.pointer (some ⟨r,0,none⟩)] u (ThrO r u)):=Lib.hid fun r u hu=>by
  have:=oobj_any r D hD u hu
  rw [h] at this;exact this
 clear h hD
 have hmf:∀ (fn:Fn) (first cap:Array Value) (w:World),(Instr.makeFunc fn first cap).run Tryz.prog w=.ok (.func fn first cap) w:=fun _ _ _ _=>rfl
 have hE:∀ w,(zeroValue 28).run Tryz.prog w=.ok (.int .i64 0) w:=fun w=>by kernel_rfl
 have hZ:∀ w,(zeroValue 25).run Tryz.prog w=.ok (.agg #[.slice none 0 0,.slice none 0 0]) w:=fun w=>by kernel_rfl
 obtain ⟨B,hB⟩:∃ B,B=w.heap.size:=⟨_,rfl⟩
 have HBE:=Lib.hid hB
 have h0:=Lib.hid (GS2.mk0 w D)
 have hs0:Hid ((((w.alloc (.cells #[.slice none 0 0,.slice none 0 0] 25)).alloc (.cells #[.int .i64 0] 28)).alloc (.cells #[.string D] 87)).heap.size=B+3):=Lib.hid (by rw [World.size_alloc,World.size_alloc,World.size_alloc,hB])
 rw [<-hB] at h0
 have HT:=Lib.hid hT
 clear hT
 go_enter_defers Tryz.func10,Tryz.ntmps10
 go_wp2_with fail
 rw [<-hB]
 clear hB
 try rw [show B+1+1=B+2 from rfl]
 change Hid (GS2 w (((w.alloc (.cells #[.slice none 0 0,.slice none 0 0] 25)).alloc (.cells #[.int .i64 0] 28)).alloc (.cells #[.string D] 87)) B (.slice none 0 0) (.slice none 0 0) D) at h0
 generalize (((w.alloc (.cells #[.slice none 0 0,.slice none 0 0] 25)).alloc (.cells #[.int .i64 0] 28)).alloc (.cells #[.string D] 87))=W0 at h0 hs0 ⊢
 refine (HOb.out (B+2) _ h0.out.r).mono ?_
 rintro e u1 ⟨rfl,hK⟩
 have HO:=Lib.hid (h0.out.o.kept hK (by omega))
 have HE:=Lib.hid (h0.out.e.kept hK (by omega))
 have HB5:=Lib.hid (KP.to_below h0.out.k hK (by rw [h0.out.b];omega))
 clear hK
 refine leaves_cons (f:=43) (args:=#[.pointer (some ⟨B,0,none⟩),.pointer (some ⟨B+1,0,none⟩)]) (by simp) (by simp [go_sem]) ?_
 refine (gcatch B (B+1) _ _ 0 _ _ [] _ HO.out HE.out (by omega)).mono ?_
 rintro e u' w4 ⟨rfl,rfl,hw4⟩
 have hB4:RB w4 B #[.slice none 0 0,.slice none 0 0] 25:=by rw [hw4];exact (hother (by omega)).trans (oset_rb HO.out)
 have hC4:RB w4 (B+1) #[.int .i64 3] 28:=by rw [hw4];exact RB.set (j:=0) ((oset_other (by omega)).trans HE.out) _
 have hb4:Below w.heap.size w w4:=by
  rw [hw4]
  exact (oset_below HB5.out (by rw [HBE.out];exact Nat.le_refl _)).setCell (p:=⟨B+1,0,none⟩) (by show w.heap.size<=B+1;rw [HBE.out];omega) _
 have b0:w4.cell? ⟨B,0,none⟩=some (.slice none 0 0):=hB4.cell
 have b1:w4.cell? ⟨B,1,none⟩=some (.slice none 0 0):=hB4.cell
 have d0:w4.cell? ⟨B+1,0,none⟩=some (.int .i64 3):=hC4.cell
 simp [Leaves,settle,results,Tryz.results10,go_sem,b0,b1,d0]
 exact getR_no HG.out rfl hb4
theorem Get_left (D R:ByteArray) (o:Ob) (hD:D.size<=maxLen) (h:rdObj D=some (o,R)) (hR0:R.size ≠ 0) (w:World) (hT:TabP w):Calls Tryz.prog 10 #[.string D] w (GetR D w):=by
 have HG:Hid (getO D=none):=Lib.hid (by unfold getO;rw [h];simp only;rw [if_neg (fun c=>hR0 c.1)])
 have HOb:Hid (∀ r u,RO u r D->Calls Tryz.prog 44 #[.pointer (some ⟨r,0,none⟩)] u (ObjD o r R u)):=Lib.hid fun r u hu=>by
  have:=oobj_any r D hD u hu
  rw [h] at this;exact this
 have hz:R.data.toList ≠ []:=fun e=>hR0 (by have:=congrArg List.length e;simpa using this)
 have e1:(R.toList == [])=false:=by rw [Lib.toList_data];simpa using hz
 have e2:R.toList.isEmpty=false:=by rw [Lib.toList_data];simpa using hz
 have e3:(R.toList != [])=true:=by rw [bne,e1];rfl
 have e4:¬ R.toList=[]:=by rw [Lib.toList_data];exact hz
 clear h hD hR0 hz
 have hmf:∀ (fn:Fn) (first cap:Array Value) (w:World),(Instr.makeFunc fn first cap).run Tryz.prog w=.ok (.func fn first cap) w:=fun _ _ _ _=>rfl
 have hE:∀ w,(zeroValue 28).run Tryz.prog w=.ok (.int .i64 0) w:=fun w=>by kernel_rfl
 have hZ:∀ w,(zeroValue 25).run Tryz.prog w=.ok (.agg #[.slice none 0 0,.slice none 0 0]) w:=fun w=>by kernel_rfl
 obtain ⟨B,hB⟩:∃ B,B=w.heap.size:=⟨_,rfl⟩
 have HBE:=Lib.hid hB
 have h0:=Lib.hid (GS2.mk0 w D)
 have hs0:Hid ((((w.alloc (.cells #[.slice none 0 0,.slice none 0 0] 25)).alloc (.cells #[.int .i64 0] 28)).alloc (.cells #[.string D] 87)).heap.size=B+3):=Lib.hid (by rw [World.size_alloc,World.size_alloc,World.size_alloc,hB])
 rw [<-hB] at h0
 have HT:=Lib.hid hT
 clear hT
 go_enter_defers Tryz.func10,Tryz.ntmps10
 go_wp2_with fail
 rw [<-hB]
 clear hB
 try rw [show B+1+1=B+2 from rfl]
 change Hid (GS2 w (((w.alloc (.cells #[.slice none 0 0,.slice none 0 0] 25)).alloc (.cells #[.int .i64 0] 28)).alloc (.cells #[.string D] 87)) B (.slice none 0 0) (.slice none 0 0) D) at h0
 generalize (((w.alloc (.cells #[.slice none 0 0,.slice none 0 0] 25)).alloc (.cells #[.int .i64 0] 28)).alloc (.cells #[.string D] 87))=W0 at h0 hs0 ⊢
 refine (HOb.out (B+2) _ h0.out.r).mono ?_
 rintro e u1 ⟨L,l,a,c,a2,c2,hLs,hls,rfl,hR,hK,ho1,ho2,ho3⟩
 have HG1:Hid (GO u1 (B+3) L a c l a2 c2):=Lib.hid (by rw [hs0.out] at ho1 ho2 ho3;exact ⟨ho1,ho2,ho3⟩)
 have HLs:=Lib.hid hLs
 have Hls:=Lib.hid hls
 have H1:=Lib.hid (h0.out.call hR hK)
 have H2:=Lib.hid ((h0.out.call hR hK).put (.slice a L.length c) (.slice a2 l.length c2))
 have HG2:Hid (GO (oset2 u1 B (.slice a L.length c) (.slice a2 l.length c2)) (B+3) L a c l a2 c2):=Lib.hid (HG1.out.kp (oset2_kp u1 B _ _) (by omega))
 clear hR hK h0 ho1 ho2 ho3 hLs hls hs0
 have x0:u1.cell? ⟨B,0,none⟩=some (.slice none 0 0):=H1.out.o.cell
 have x1:u1.cell? ⟨B,1,none⟩=some (.slice none 0 0):=H1.out.o.cell
 have xf0:u1.frozen? ⟨B,0,none⟩=false:=H1.out.o.frozen
 have xf1:u1.frozen? ⟨B,1,none⟩=false:=H1.out.o.frozen
 have z0:(oset2 u1 B (.slice a L.length c) (.slice a2 l.length c2)).cell? ⟨B+2,0,none⟩=some (.string R):=H2.out.r.cell
 have z1:(oset2 u1 B (.slice a L.length c) (.slice a2 l.length c2)).cell? ⟨B,0,none⟩=some (.slice a L.length c):=H2.out.o.cell
 have z2:(oset2 u1 B (.slice a L.length c) (.slice a2 l.length c2)).cell? ⟨B,1,none⟩=some (.slice a2 l.length c2):=H2.out.o.cell
 go_wp2_with fail
 clear x0 x1 xf0 xf1 z0 z1 z2
 have HO:=Lib.hid H2.out.o
 have HE:=Lib.hid H2.out.e
 have HB5:=Lib.hid H2.out.k
 refine leaves_cons (f:=43) (args:=#[.pointer (some ⟨B,0,none⟩),.pointer (some ⟨B+1,0,none⟩)]) (by simp) (by simp [go_sem]) ?_
 refine (gcatch B (B+1) _ _ 0 _ _ [] _ HO.out HE.out (by omega)).mono ?_
 rintro e u' w4 ⟨rfl,rfl,hw4⟩
 have hB4:RB w4 B #[.slice none 0 0,.slice none 0 0] 25:=by rw [hw4];exact (hother (by omega)).trans (oset_rb HO.out)
 have hC4:RB w4 (B+1) #[.int .i64 3] 28:=by rw [hw4];exact RB.set (j:=0) ((oset_other (by omega)).trans HE.out) _
 have hb4:Below w.heap.size w w4:=by
  rw [hw4]
  exact (oset_below HB5.out (by rw [HBE.out];exact Nat.le_refl _)).setCell (p:=⟨B+1,0,none⟩) (by show w.heap.size<=B+1;rw [HBE.out];omega) _
 have b0:w4.cell? ⟨B,0,none⟩=some (.slice none 0 0):=hB4.cell
 have b1:w4.cell? ⟨B,1,none⟩=some (.slice none 0 0):=hB4.cell
 have d0:w4.cell? ⟨B+1,0,none⟩=some (.int .i64 3):=hC4.cell
 simp [Leaves,settle,results,Tryz.results10,go_sem,b0,b1,d0]
 exact getR_no HG.out rfl hb4
theorem Get_wrong (D:ByteArray) (o:Ob) (hD:D.size<=maxLen) (h:rdObj D=some (o,⟨#[]⟩)) (hI:isO o=false) (w:World) (hT:TabP w):Calls Tryz.prog 10 #[.string D] w (GetR D w):=by
 obtain ⟨R,hRR⟩:∃ R:ByteArray,R=⟨#[]⟩:=⟨_,rfl⟩
 rw [<-hRR] at h
 have HG:Hid (getO D=none):=Lib.hid (by unfold getO;rw [h];simp only;rw [if_neg (fun c=>by rw [hI] at c;cases c.2)])
 have HOb:Hid (∀ r u,RO u r D->Calls Tryz.prog 44 #[.pointer (some ⟨r,0,none⟩)] u (ObjD o r R u)):=Lib.hid fun r u hu=>by
  have:=oobj_any r D hD u hu
  rw [h] at this;exact this
 have HIs:Hid (∀ u L a c l a2 c2 B,TabP u->GO u B L a c l a2 c2->Hid (L.map (·.sc)=o.secs)->Hid (l=o.syms)->Calls Tryz.prog 15 #[.agg #[.slice a L.length c,.slice a2 l.length c2]] u (RetB (.bool false) u)):=Lib.hid fun u L a c l a2 c2 B hu hg h1 h2=>by
  have hle:o.secs.length<=32/\o.syms.length<=128:=(rdObj_only _ _ _ h).2.2.2
  have hg1:=(rdObj_only _ _ _ h).2.1
  have hg2:=(rdObj_only _ _ _ h).2.2.1
  have e1:=h1.out
  have e2:=h2.out
  have hL:L.length<=32:=by have:=congrArg List.length e1;rw [List.length_map] at this;omega
  have hl:l.length<=128:=by rw [e2];exact hle.2
  have:=oIs_any a L.length c L a2 l.length c2 l (by unfold maxLen;omega) (by unfold maxLen;omega) u hg.secs hg.notes (fun m hm=>hg1 _ (by rw [<-e1];exact List.mem_map.2 ⟨m,hm,rfl⟩)) hg.syms (fun s hs=>hg2 _ (by rw [<-e2];exact hs)) hu
  rw [e1,e2,show (⟨o.secs,o.syms⟩:Ob)=o from rfl,hI] at this
  rw [e2]
  exact this
 clear h hD hI
 subst hRR
 have hmf:∀ (fn:Fn) (first cap:Array Value) (w:World),(Instr.makeFunc fn first cap).run Tryz.prog w=.ok (.func fn first cap) w:=fun _ _ _ _=>rfl
 have hE:∀ w,(zeroValue 28).run Tryz.prog w=.ok (.int .i64 0) w:=fun w=>by kernel_rfl
 have hZ:∀ w,(zeroValue 25).run Tryz.prog w=.ok (.agg #[.slice none 0 0,.slice none 0 0]) w:=fun w=>by kernel_rfl
 obtain ⟨B,hB⟩:∃ B,B=w.heap.size:=⟨_,rfl⟩
 have HBE:=Lib.hid hB
 have h0:=Lib.hid (GS2.mk0 w D)
 have hs0:Hid ((((w.alloc (.cells #[.slice none 0 0,.slice none 0 0] 25)).alloc (.cells #[.int .i64 0] 28)).alloc (.cells #[.string D] 87)).heap.size=B+3):=Lib.hid (by rw [World.size_alloc,World.size_alloc,World.size_alloc,hB])
 rw [<-hB] at h0
 have HT:=Lib.hid hT
 clear hT
 go_enter_defers Tryz.func10,Tryz.ntmps10
 go_wp2_with fail
 rw [<-hB]
 clear hB
 try rw [show B+1+1=B+2 from rfl]
 change Hid (GS2 w (((w.alloc (.cells #[.slice none 0 0,.slice none 0 0] 25)).alloc (.cells #[.int .i64 0] 28)).alloc (.cells #[.string D] 87)) B (.slice none 0 0) (.slice none 0 0) D) at h0
 generalize (((w.alloc (.cells #[.slice none 0 0,.slice none 0 0] 25)).alloc (.cells #[.int .i64 0] 28)).alloc (.cells #[.string D] 87))=W0 at h0 hs0 ⊢
 refine (HOb.out (B+2) _ h0.out.r).mono ?_
 rintro e u1 ⟨L,l,a,c,a2,c2,hLs,hls,rfl,hR,hK,ho1,ho2,ho3⟩
 have HG1:Hid (GO u1 (B+3) L a c l a2 c2):=Lib.hid (by rw [hs0.out] at ho1 ho2 ho3;exact ⟨ho1,ho2,ho3⟩)
 have HLs:=Lib.hid hLs
 have Hls:=Lib.hid hls
 have H1:=Lib.hid (h0.out.call hR hK)
 have H2:=Lib.hid ((h0.out.call hR hK).put (.slice a L.length c) (.slice a2 l.length c2))
 have HG2:Hid (GO (oset2 u1 B (.slice a L.length c) (.slice a2 l.length c2)) (B+3) L a c l a2 c2):=Lib.hid (HG1.out.kp (oset2_kp u1 B _ _) (by omega))
 clear hR hK h0 ho1 ho2 ho3 hLs hls hs0
 have x0:u1.cell? ⟨B,0,none⟩=some (.slice none 0 0):=H1.out.o.cell
 have x1:u1.cell? ⟨B,1,none⟩=some (.slice none 0 0):=H1.out.o.cell
 have xf0:u1.frozen? ⟨B,0,none⟩=false:=H1.out.o.frozen
 have xf1:u1.frozen? ⟨B,1,none⟩=false:=H1.out.o.frozen
 have z0:(oset2 u1 B (.slice a L.length c) (.slice a2 l.length c2)).cell? ⟨B+2,0,none⟩=some (.string ⟨#[]⟩):=H2.out.r.cell
 have z1:(oset2 u1 B (.slice a L.length c) (.slice a2 l.length c2)).cell? ⟨B,0,none⟩=some (.slice a L.length c):=H2.out.o.cell
 have z2:(oset2 u1 B (.slice a L.length c) (.slice a2 l.length c2)).cell? ⟨B,1,none⟩=some (.slice a2 l.length c2):=H2.out.o.cell
 go_wp2_with fail
 refine (HIs.out _ L a c l a2 c2 (B+3) (HT.out.next H2.out.k) HG2.out HLs Hls).mono ?_
 rintro e u2 ⟨rfl,hb⟩
 have H3:=Lib.hid (H2.out.next hb)
 clear hb x0 x1 xf0 xf1 z0 z1 z2
 go_wp2_with fail
 have HO:=Lib.hid H3.out.o
 have HE:=Lib.hid H3.out.e
 have HB5:=Lib.hid H3.out.k
 refine leaves_cons (f:=43) (args:=#[.pointer (some ⟨B,0,none⟩),.pointer (some ⟨B+1,0,none⟩)]) (by simp) (by simp [go_sem]) ?_
 refine (gcatch B (B+1) _ _ 0 _ _ [] _ HO.out HE.out (by omega)).mono ?_
 rintro e u' w4 ⟨rfl,rfl,hw4⟩
 have hB4:RB w4 B #[.slice none 0 0,.slice none 0 0] 25:=by rw [hw4];exact (hother (by omega)).trans (oset_rb HO.out)
 have hC4:RB w4 (B+1) #[.int .i64 3] 28:=by rw [hw4];exact RB.set (j:=0) ((oset_other (by omega)).trans HE.out) _
 have hb4:Below w.heap.size w w4:=by
  rw [hw4]
  exact (oset_below HB5.out (by rw [HBE.out];exact Nat.le_refl _)).setCell (p:=⟨B+1,0,none⟩) (by show w.heap.size<=B+1;rw [HBE.out];omega) _
 have b0:w4.cell? ⟨B,0,none⟩=some (.slice none 0 0):=hB4.cell
 have b1:w4.cell? ⟨B,1,none⟩=some (.slice none 0 0):=hB4.cell
 have d0:w4.cell? ⟨B+1,0,none⟩=some (.int .i64 3):=hC4.cell
 simp [Leaves,settle,results,Tryz.results10,go_sem,b0,b1,d0]
 exact getR_no HG.out rfl hb4
theorem Get_right (D:ByteArray) (o:Ob) (hD:D.size<=maxLen) (h:rdObj D=some (o,⟨#[]⟩)) (hI:isO o=true) (w:World) (hT:TabP w):Calls Tryz.prog 10 #[.string D] w (GetR D w):=by
 obtain ⟨R,hRR⟩:∃ R:ByteArray,R=⟨#[]⟩:=⟨_,rfl⟩
 rw [<-hRR] at h
 have HG:Hid (getO D=some o):=Lib.hid (by unfold getO;rw [h,hRR];simp only;rw [if_pos ⟨rfl,hI⟩])
 have HOb:Hid (∀ r u,RO u r D->Calls Tryz.prog 44 #[.pointer (some ⟨r,0,none⟩)] u (ObjD o r R u)):=Lib.hid fun r u hu=>by
  have:=oobj_any r D hD u hu
  rw [h] at this;exact this
 have HIs:Hid (∀ u L a c l a2 c2 B,TabP u->GO u B L a c l a2 c2->Hid (L.map (·.sc)=o.secs)->Hid (l=o.syms)->Calls Tryz.prog 15 #[.agg #[.slice a L.length c,.slice a2 l.length c2]] u (RetB (.bool true) u)):=Lib.hid fun u L a c l a2 c2 B hu hg h1 h2=>by
  have hle:o.secs.length<=32/\o.syms.length<=128:=(rdObj_only _ _ _ h).2.2.2
  have hg1:=(rdObj_only _ _ _ h).2.1
  have hg2:=(rdObj_only _ _ _ h).2.2.1
  have e1:=h1.out
  have e2:=h2.out
  have hL:L.length<=32:=by have:=congrArg List.length e1;rw [List.length_map] at this;omega
  have hl:l.length<=128:=by rw [e2];exact hle.2
  have:=oIs_any a L.length c L a2 l.length c2 l (by unfold maxLen;omega) (by unfold maxLen;omega) u hg.secs hg.notes (fun m hm=>hg1 _ (by rw [<-e1];exact List.mem_map.2 ⟨m,hm,rfl⟩)) hg.syms (fun s hs=>hg2 _ (by rw [<-e2];exact hs)) hu
  rw [e1,e2,show (⟨o.secs,o.syms⟩:Ob)=o from rfl,hI] at this
  rw [e2]
  exact this
 clear h hD hI
 subst hRR
 have hmf:∀ (fn:Fn) (first cap:Array Value) (w:World),(Instr.makeFunc fn first cap).run Tryz.prog w=.ok (.func fn first cap) w:=fun _ _ _ _=>rfl
 have hE:∀ w,(zeroValue 28).run Tryz.prog w=.ok (.int .i64 0) w:=fun w=>by kernel_rfl
 have hZ:∀ w,(zeroValue 25).run Tryz.prog w=.ok (.agg #[.slice none 0 0,.slice none 0 0]) w:=fun w=>by kernel_rfl
 obtain ⟨B,hB⟩:∃ B,B=w.heap.size:=⟨_,rfl⟩
 have HBE:=Lib.hid hB
 have h0:=Lib.hid (GS2.mk0 w D)
 have hs0:Hid ((((w.alloc (.cells #[.slice none 0 0,.slice none 0 0] 25)).alloc (.cells #[.int .i64 0] 28)).alloc (.cells #[.string D] 87)).heap.size=B+3):=Lib.hid (by rw [World.size_alloc,World.size_alloc,World.size_alloc,hB])
 rw [<-hB] at h0
 have HT:=Lib.hid hT
 clear hT
 go_enter_defers Tryz.func10,Tryz.ntmps10
 go_wp2_with fail
 rw [<-hB]
 clear hB
 try rw [show B+1+1=B+2 from rfl]
 change Hid (GS2 w (((w.alloc (.cells #[.slice none 0 0,.slice none 0 0] 25)).alloc (.cells #[.int .i64 0] 28)).alloc (.cells #[.string D] 87)) B (.slice none 0 0) (.slice none 0 0) D) at h0
 generalize (((w.alloc (.cells #[.slice none 0 0,.slice none 0 0] 25)).alloc (.cells #[.int .i64 0] 28)).alloc (.cells #[.string D] 87))=W0 at h0 hs0 ⊢
 refine (HOb.out (B+2) _ h0.out.r).mono ?_
 rintro e u1 ⟨L,l,a,c,a2,c2,hLs,hls,rfl,hR,hK,ho1,ho2,ho3⟩
 have HG1:Hid (GO u1 (B+3) L a c l a2 c2):=Lib.hid (by rw [hs0.out] at ho1 ho2 ho3;exact ⟨ho1,ho2,ho3⟩)
 have HLs:=Lib.hid hLs
 have Hls:=Lib.hid hls
 have H1:=Lib.hid (h0.out.call hR hK)
 have H2:=Lib.hid ((h0.out.call hR hK).put (.slice a L.length c) (.slice a2 l.length c2))
 have HG2:Hid (GO (oset2 u1 B (.slice a L.length c) (.slice a2 l.length c2)) (B+3) L a c l a2 c2):=Lib.hid (HG1.out.kp (oset2_kp u1 B _ _) (by omega))
 clear hR hK h0 ho1 ho2 ho3 hLs hls hs0
 have x0:u1.cell? ⟨B,0,none⟩=some (.slice none 0 0):=H1.out.o.cell
 have x1:u1.cell? ⟨B,1,none⟩=some (.slice none 0 0):=H1.out.o.cell
 have xf0:u1.frozen? ⟨B,0,none⟩=false:=H1.out.o.frozen
 have xf1:u1.frozen? ⟨B,1,none⟩=false:=H1.out.o.frozen
 have z0:(oset2 u1 B (.slice a L.length c) (.slice a2 l.length c2)).cell? ⟨B+2,0,none⟩=some (.string ⟨#[]⟩):=H2.out.r.cell
 have z1:(oset2 u1 B (.slice a L.length c) (.slice a2 l.length c2)).cell? ⟨B,0,none⟩=some (.slice a L.length c):=H2.out.o.cell
 have z2:(oset2 u1 B (.slice a L.length c) (.slice a2 l.length c2)).cell? ⟨B,1,none⟩=some (.slice a2 l.length c2):=H2.out.o.cell
 go_wp2_with fail
 refine (HIs.out _ L a c l a2 c2 (B+3) (HT.out.next H2.out.k) HG2.out HLs Hls).mono ?_
 rintro e u2 ⟨rfl,hb⟩
 have H3:=Lib.hid (H2.out.next hb)
 have H4:=Lib.hid ((H2.out.next hb).put (.slice a L.length c) (.slice a2 l.length c2))
 have HG4:Hid (GO (oset2 u2 B (.slice a L.length c) (.slice a2 l.length c2)) (B+3) L a c l a2 c2):=Lib.hid ((HG2.out.next hb).kp (oset2_kp u2 B _ _) (by omega))
 clear hb x0 x1 xf0 xf1 z0 z1 z2
 have x0:u2.cell? ⟨B,0,none⟩=some (.slice a L.length c):=H3.out.o.cell
 have x1:u2.cell? ⟨B,1,none⟩=some (.slice a2 l.length c2):=H3.out.o.cell
 have xf0:u2.frozen? ⟨B,0,none⟩=false:=H3.out.o.frozen
 have xf1:u2.frozen? ⟨B,1,none⟩=false:=H3.out.o.frozen
 have z0:(oset2 u2 B (.slice a L.length c) (.slice a2 l.length c2)).cell? ⟨B+1,0,none⟩=some (.int .i64 0):=H4.out.e.cell
 have z1:(oset2 u2 B (.slice a L.length c) (.slice a2 l.length c2)).frozen? ⟨B+1,0,none⟩=false:=H4.out.e.frozen
 go_wp2
 refine leaves_cons (f:=43) (args:=#[.pointer (some ⟨B,0,none⟩),.pointer (some ⟨B+1,0,none⟩)]) (by simp) (by simp [go_sem]) ?_
 refine (gidle B (B+1) _).mono ?_
 rintro e u' w4 ⟨rfl,rfl,hw4⟩
 have hB4:RB w4 B #[.slice a L.length c,.slice a2 l.length c2] 25:=by rw [hw4];exact (hother (by omega)).trans H4.out.o
 have hC4:RB w4 (B+1) #[.int .i64 0] 28:=by rw [hw4];exact RB.set (j:=0) H4.out.e _
 have hb4:Below w.heap.size w w4:=by
  rw [hw4]
  exact H4.out.k.setCell (p:=⟨B+1,0,none⟩) (by show w.heap.size<=B+1;rw [HBE.out];omega) _
 have hg4:GO w4 w.heap.size L a c l a2 c2:=by
  rw [hw4]
  exact (HG4.out.kp (KP.step (B+1) _ 0 _) (by omega)).low (by rw [HBE.out];omega)
 have b0:w4.cell? ⟨B,0,none⟩=some (.slice a L.length c):=hB4.cell
 have b1:w4.cell? ⟨B,1,none⟩=some (.slice a2 l.length c2):=hB4.cell
 have d0:w4.cell? ⟨B+1,0,none⟩=some (.int .i64 0):=hC4.cell
 simp [Leaves,settle,results,Tryz.results10,go_sem,b0,b1,d0]
 unfold GetR
 rw [HG.out]
 have hls:=Hls.out
 exact ⟨L,a,c,a2,c2,HLs.out,by rw [<-hls],by rw [<-hls];exact hg4,hb4⟩
theorem Get_any (D:ByteArray) (hD:D.size<=maxLen) (w:World) (hT:TabP w):Calls Tryz.prog 10 #[.string D] w (GetR D w):=by
 cases h:rdObj D with
 | none=>exact Get_thr D hD h w hT
 | some p=>
  obtain ⟨o,R⟩:=p
  by_cases hR:R.size=0
  ·have:R=⟨#[]⟩:=by
    rw [<-bA_of R,List.eq_nil_of_length_eq_zero (show R.data.toList.length=0 from hR)]
   subst this
   cases hI:isO o with
   | true=>exact Get_right D o hD h hI w hT
   | false=>exact Get_wrong D o hD h hI w hT
  ·exact Get_left D R o hD h hR w hT
open Go.ChangeShapes Go.WideShapes Go.Deep Go.RowKit
end Go.Proofs.YthkolmebokfagaaGreatDoor
