/- The document's objects: the reference's reader: section. The document's objects: the reference's Get of any text. -/
import Derived.Test.YthkolmebokfagaaGreatDoorr6
import Derived.Test.YthkolmebokfagaaGreatDoorqM
import Derived.Test.YthkolmebokfagaaGreatDoorr1
import Derived.Test.YthkolmebokfagaaGreatDoorr3
set_option maxRecDepth 100000
set_option maxHeartbeats 6000000
set_option linter.unusedVariables false
set_option linter.unusedSimpArgs false
namespace Go.Proofs.YthkolmebokfagaaGreatDoor
open Go.ChangeShapes Go.WideShapes Go.Deep Go.RowKit
structure SZ (w u:World) (r X Y:Nat) (q:RQ) (s:Sc) (a:Option Addr) (c:Nat):Prop where
 rr:RZr u r q
 xx:RB u X (scA scZ none 0 0) 57
 yy:RB u Y (scA s a s.rels.length c) 57
 oo:u.ownsRow (Y+1) 82 4 (.slice a s.rels.length c) s.rels.length (s.rels.flatMap rlC)
 kk:KP r w u
 ee:X=w.heap.size
 nn:r < X
 xy:X < Y
theorem SZ.call {w u u':World} {r X Y:Nat} {q q':RQ} {s:Sc} {a:Option Addr} {c:Nat} (h:SZ w u r X Y q s a c) (hR:RZr u' r q') (hK:KP r u u'):SZ w u' r X Y q' s a c:=
 ⟨hR,h.xx.kept hK (by have:=h.nn;omega),h.yy.kept hK (by have:=h.nn;have:=h.xy;omega),own_kp2 h.oo hK (by have:=h.nn;have:=h.xy;omega),h.kk.trans' hK,h.ee,h.nn,h.xy⟩
theorem SZ.bad {w u:World} {r X Y:Nat} {q:RQ} {s:Sc} {a:Option Addr} {c:Nat} (h:SZ w u r X Y q s a c):SZ w (u.setCell ⟨r,1,none⟩ (.bool true)) r X Y (q.1,true) s a c:=
 h.call (h.rr.set (j:=1) (.bool true)) (KP.step r u 1 _)
theorem SZ.set {w u:World} {r X Y:Nat} {q:RQ} {s s':Sc} {a:Option Addr} {c:Nat} (h:SZ w u r X Y q s a c) (j:Nat) (v:Value)
  (he:(scA s a s.rels.length c).setIfInBounds j v=scA s' a s'.rels.length c) (hr:s'.rels=s.rels):SZ w (u.setCell ⟨Y,j,none⟩ v) r X Y q s' a c:=by
 have hn:=h.nn
 have hx:=h.ee
 have hxy:=h.xy
 refine ⟨(hother (by omega)).trans h.rr,(hother (by omega)).trans h.xx,?_,?_,h.kk.below ((Below.refl X u).setCell (p:=⟨Y,j,none⟩) (by show X<=Y;omega) _) (by omega),h.ee,h.nn,h.xy⟩
 ·rw [<-he];exact hset h.yy
 ·rw [hr];exact own_kp2 h.oo (KP.step Y u j v) (by omega)
theorem SZ.append {w u w3:World} {r X Y:Nat} {q:RQ} {s:Sc} {a a':Option Addr} {c c':Nat} {x:Rl} (h:SZ w u r X Y q s a c)
  (hown:w3.ownsRow (Y+1) 82 4 (.slice a' (s.rels.length+1) c') (s.rels.length+1) (s.rels.flatMap rlC ++ rlC x)) (hgrow:(u.alloc (.cells (rlA x) 82)).grownBy w3 (Value.slice a s.rels.length c).ownBlock):
  SZ w (w3.setCell ⟨Y,5,none⟩ (.slice a' (s.rels.length+1) c')) r X Y q ⟨s.name,s.kind,s.keep,s.align,s.data,s.rels ++ [x]⟩ a' c':=by
 have hn:=h.nn
 have hx:=h.ee
 have hxy:=h.xy
 have hp:Y < u.heap.size:=lt_of_block h.yy
 have hbV:Below (Y+1) u (u.alloc (.cells (rlA x) 82)):=(Below.refl (Y+1) u).alloc (by omega) _
 have hbw:Below (Y+1) u w3:=hbV.grown hgrow (by have:=hbV.size;omega) (fun j hj=>(h.oo.lt j hj).1)
 have hr3:RZr w3 r q:=(hbw.block r (by omega)).trans h.rr
 have hx3:RB w3 X (scA scZ none 0 0) 57:=(hbw.block X (by omega)).trans h.xx
 have hy3:RB w3 Y (scA s a s.rels.length c) 57:=(hbw.block Y (by omega)).trans h.yy
 refine ⟨(hother (by omega)).trans hr3,(hother (by omega)).trans hx3,?_,?_,h.kk.below ((hbw.mono (show X<=Y+1 by omega)).setCell (p:=⟨Y,5,none⟩) (by show X<=Y;omega) _) (by omega),h.ee,h.nn,h.xy⟩
 ·have:=hset (o:=5) (x:=.slice a' (s.rels.length+1) c') hy3
  unfold RB
  simpa using this
 ·have:=own_kp2 hown (KP.step Y w3 5 (.slice a' (s.rels.length+1) c')) (by omega)
  simpa [List.flatMap_append] using this
theorem SZ.cells {w u:World} {r X Y:Nat} {q:RQ} {s:Sc} {a:Option Addr} {c:Nat} (h:SZ w u r X Y q s a c) (j:Nat) (v:Value) (hv:(scA s a s.rels.length c)[j]?=some v):u.cell? ⟨Y,j,none⟩=some v:=by
 have:=h.yy
 unfold RB at this
 unfold World.cell?
 rw [this];simpa using hv
theorem SZ.free {w u:World} {r X Y:Nat} {q:RQ} {s:Sc} {a:Option Addr} {c:Nat} (h:SZ w u r X Y q s a c) (j:Nat):u.frozen? ⟨Y,j,none⟩=false:=h.yy.frozen
def SecZ (s:Sc) (r:Nat) (q:RQ) (w:World) (e:Ending) (w':World):Prop:=
 ∃ a c,e=.returned (scV s a s.rels.length c)/\RZr w' r q/\KP r w w'/\w'.ownsRow w.heap.size 82 4 (.slice a s.rels.length c) s.rels.length (s.rels.flatMap rlC)
theorem SZ.fin {w u:World} {r X Y:Nat} {q:RQ} {s:Sc} {a:Option Addr} {c:Nat} (h:SZ w u r X Y q s a c):
  RB (sset u X s a s.rels.length c) X (scA s a s.rels.length c) 57/\SecZ s r q w (.returned (scV s a s.rels.length c)) (sset u X s a s.rels.length c):=by
 have hn:=h.nn
 have hx:=h.ee
 have hxy:=h.xy
 have hb:Below X u (sset u X s a s.rels.length c):=sset_below (Below.refl X u) (Nat.le_refl X) s a s.rels.length c
 have hK:KP X u (sset u X s a s.rels.length c):=(((((KP.step X u 0 _).trans' (KP.step X _ 1 _)).trans' (KP.step X _ 2 _)).trans' (KP.step X _ 3 _)).trans' (KP.step X _ 4 _)).trans' (KP.step X _ 5 _)
 exact ⟨sset_heap h.xx s a s.rels.length c,a,c,rfl,(hb.block r hn).trans h.rr,h.kk.below hb (by omega),own_low (own_kp2 h.oo hK (by omega)) (by omega)⟩
theorem eta2 {α β:Type} (x:α × β):x=(x.1,x.2):=rfl
theorem meas_lt {n j:Nat} (h:j < n) (hw:wrap64 ((j:Int)+1)=(j:Int)+1):n - (intOf (.int .i64 (wrap64 ((j:Int)+1)))).toNat < n - (intOf (.int .i64 (j:Int))).toNat:=by
 rw [hw]
 have e1:(intOf (.int .i64 ((j:Int)+1))).toNat=j+1:=by show ((j:Int)+1).toNat=j+1;omega
 have e2:(intOf (.int .i64 (j:Int))).toNat=j:=by show ((j:Int)).toNat=j;omega
 rw [e1,e2];omega
theorem fMany_bad {α:Type} (f:RQ->α × RQ) (n:Nat) {q:RQ} (h:q.2=true):fMany f n q=([],q):=by
 cases n with
 | zero=>rfl
 | succ n=>rw [fMany,if_pos h]
theorem fMany_s {α:Type} (f:RQ->α × RQ) (n:Nat) {q q':RQ} {x:α} (h:q.2=false) (hf:f q=(x,q')):fMany f (n+1) q=(x :: (fMany f n q').1,(fMany f n q').2):=by
 rw [fMany,if_neg (by rw [h];decide),hf]
def FM {α:Type} (f:RQ->α × RQ) (n:Nat) (q:RQ) (xs:List α) (m:Nat) (q':RQ):Prop:=fMany f n q=(xs ++ (fMany f m q').1,(fMany f m q').2)
theorem FM.start {α:Type} (f:RQ->α × RQ) (n:Nat) (q:RQ):FM f n q [] n q:=rfl
theorem FM.step {α:Type} {f:RQ->α × RQ} {n m:Nat} {q q1 q2:RQ} {xs:List α} {x:α} (h:FM f n q xs (m+1) q1) (hb:q1.2=false) (hf:f q1=(x,q2)):FM f n q (xs ++ [x]) m q2:=by
 unfold FM at h ⊢
 rw [h,fMany_s f m hb hf]
 simp
theorem FM.last {α:Type} {f:RQ->α × RQ} {n m:Nat} {q q1:RQ} {xs:List α} (h:FM f n q xs m q1) (hb:m=0\/q1.2=true):fMany f n q=(xs,q1):=by
 unfold FM at h
 have e:fMany f m q1=([],q1):=by
  rcases hb with rfl | hb
  ·rfl
  ·exact fMany_bad f m hb
 rw [h,e];simp
theorem rl_pair {q q1 q2 q3 q4:RQ} {x y z:Nat} {v:Int} (h1:fNum q=(x,q1)) (h2:fNum q1=(y,q2)) (h3:fNum q2=(z,q3)) (h4:fInt q3=(v,q4)):fRel q=(⟨x,y,z,v⟩,q4):=by
 unfold fRel fR4 fR3 fR2 fR1
 rw [h1];simp only;rw [h2];simp only;rw [h3];simp only;rw [h4]
theorem rl_onesZ (x:Rl):∀ u ∈ rlC x,u.oneCell'=true:=by
 intro u hu
 simp only [rlC,List.mem_cons,List.mem_nil_iff,or_false] at hu
 rcases hu with rfl | rfl | rfl | rfl <;> rfl
theorem SZ.other {w u:World} {r X Y Z:Nat} {q:RQ} {s:Sc} {a:Option Addr} {c:Nat} (h:SZ w u r X Y q s a c) (j:Nat) (v:Value) (hZ:Y < Z) (hg:(Value.slice a s.rels.length c).ownBlock ≠ some Z):SZ w (u.setCell ⟨Z,j,none⟩ v) r X Y q s a c:=by
 have hn:=h.nn
 have hx:=h.ee
 have hxy:=h.xy
 refine ⟨(hother (by omega)).trans h.rr,(hother (by omega)).trans h.xx,(hother (by omega)).trans h.yy,?_,h.kk.below ((Below.refl X u).setCell (p:=⟨Z,j,none⟩) (by show X<=Z;omega) _) (by omega),h.ee,h.nn,h.xy⟩
 exact h.oo.kept (KP.step Z u j v) (.inr hg)
theorem rsec_main (r:Nat) (q q1 q2 q3 qk q4 q5 q6:RQ) (nm dt:List UInt8) (k kq al n:Nat) (h1:fTxt q=(bA nm,q1)) (h2:fNum q1=(k,q2)) (h3:fNum q2=(kq,q3)) (hk:fKeep (kq,q3)=qk) (h4:fNum qk=(al,q4)) (h5:fTxt q4=(bA dt,q5)) (h6:fNum q5=(n,q6)) (hD:q.1.size<=6000) (w:World) (h:RZr w r q) (rl:List Rl) (q7:RQ) (hres:fMany fRel n q6=(rl,q7)) (hc:((1:Int) < (kq:Int)/\qk=(q3.1,true))\/(¬ (1:Int) < (kq:Int)/\qk=q3)):
  Calls Tryz.prog 46 #[.pointer (some ⟨r,0,none⟩)] w (SecZ ⟨nm,k,kq == 1,al,dt,rl⟩ r q7 w):=by
 have s1:q1.1.size<=6000:=by have:=fTxt_size q;rw [h1] at this;simp only at this;omega
 have s2:q2.1.size<=6000:=by have:=fNum_size q1;rw [h2] at this;simp only at this;omega
 have s3:q3.1.size<=6000:=by have:=fNum_size q2;rw [h3] at this;simp only at this;omega
 have sk:qk.1.size<=6000:=by rw [<-hk,fKeep_1];exact s3
 have s4:q4.1.size<=6000:=by have:=fNum_size qk;rw [h4] at this;simp only at this;omega
 have s5:q5.1.size<=6000:=by have:=fTxt_size q4;rw [h5] at this;simp only at this;omega
 have s6:q6.1.size<=6000:=by have:=fNum_size q5;rw [h6] at this;simp only at this;omega
 have n6:n<=1000000:=by have:=fNum_le q5;rw [h6] at this;exact this
 have n3:kq<=1000000:=by have:=fNum_le q2;rw [h3] at this;exact this
 have C1:Hid (∀ u,RZr u r q->Calls Tryz.prog 47 #[.pointer (some ⟨r,0,none⟩)] u (DidR (.string (bA nm)) r q1 u)):=Lib.hid fun u hu=>by
  have h:=rtxt_any r q hD u hu
  rw [h1] at h;exact h
 have C2:Hid (∀ u,RZr u r q1->Calls Tryz.prog 45 #[.pointer (some ⟨r,0,none⟩)] u (DidR (.int .i64 (k:Int)) r q2 u)):=Lib.hid fun u hu=>by
  have h:=rnum_any r q1 s1 u hu
  rw [h2] at h;exact h
 have C3:Hid (∀ u,RZr u r q2->Calls Tryz.prog 45 #[.pointer (some ⟨r,0,none⟩)] u (DidR (.int .i64 (kq:Int)) r q3 u)):=Lib.hid fun u hu=>by
  have h:=rnum_any r q2 s2 u hu
  rw [h3] at h;exact h
 have C4:Hid (∀ u,RZr u r qk->Calls Tryz.prog 45 #[.pointer (some ⟨r,0,none⟩)] u (DidR (.int .i64 (al:Int)) r q4 u)):=Lib.hid fun u hu=>by
  have h:=rnum_any r qk sk u hu
  rw [h4] at h;exact h
 have C5:Hid (∀ u,RZr u r q4->Calls Tryz.prog 47 #[.pointer (some ⟨r,0,none⟩)] u (DidR (.string (bA dt)) r q5 u)):=Lib.hid fun u hu=>by
  have h:=rtxt_any r q4 s4 u hu
  rw [h5] at h;exact h
 have C6:Hid (∀ u,RZr u r q5->Calls Tryz.prog 45 #[.pointer (some ⟨r,0,none⟩)] u (DidR (.int .i64 (n:Int)) r q6 u)):=Lib.hid fun u hu=>by
  have h:=rnum_any r q5 s5 u hu
  rw [h6] at h;exact h
 have hqb:(((kq:Int) == 1):Bool)=(kq == 1):=by
  by_cases e:kq=1
  ·subst e;rfl
  ·rw [beq_eq_false_iff_ne.2 e,beq_eq_false_iff_ne];omega
 have hR:=Lib.hid hres
 have HN:Hid (n<=1000000):=Lib.hid n6
 have HD6:Hid (q6.1.size<=6000):=Lib.hid s6
 obtain ⟨X,hX⟩:∃ X,X=w.heap.size:=⟨_,rfl⟩
 have HXE:=Lib.hid hX
 have hW0:RB (w.alloc (.cells #[.string ⟨#[]⟩,.int .i64 0,.bool false,.int .i64 0,.string ⟨#[]⟩,.slice none 0 0] 57)) X (scA scZ none 0 0) 57:=by rw [hX];exact rb_new _ _ _
 have HX0:=Lib.hid hW0
 have HRr:Hid (RZr (w.alloc (.cells #[.string ⟨#[]⟩,.int .i64 0,.bool false,.int .i64 0,.string ⟨#[]⟩,.slice none 0 0] 57)) r q):=Lib.hid (h.next (lit_below _ _))
 have HK0:Hid (KP r w (w.alloc (.cells #[.string ⟨#[]⟩,.int .i64 0,.bool false,.int .i64 0,.string ⟨#[]⟩,.slice none 0 0] 57))):=Lib.hid ((KP.refl r w).lies _)
 have hrx:r < X:=by rw [hX];exact lt_of_block h
 have HRX:=Lib.hid hrx
 clear h hX hD h1 h2 h3 hk h4 h5 h6 s1 s2 s3 sk s4 s5 s6 n6 hres hW0 hrx
 rcases hc with ⟨hc1,rfl⟩ | ⟨hc1,rfl⟩
 all_goals
  clear n3
  go_enter Tryz.func46,Tryz.ntmps46
  go_wp2_with fail
  try rw [<-HXE.out]
  generalize w.alloc (.cells #[.string ⟨#[]⟩,.int .i64 0,.bool false,.int .i64 0,.string ⟨#[]⟩,.slice none 0 0] 57)=W0 at HX0 HRr HK0 ⊢
  go_wp2_with fail
  refine (C1.out _ HRr.out).mono ?_
  rintro e u1 ⟨rfl,hr,hk⟩
  obtain ⟨Y,hY⟩:∃ Y,Y=u1.heap.size:=⟨_,rfl⟩
  have HYE:=Lib.hid hY
  have hx1:RB u1 X (scA scZ none 0 0) 57:=HX0.out.kept hk (by have:=HRX.out;omega)
  have hS0:SZ w (u1.alloc (.cells #[.string (bA nm),.int .i64 0,.bool false,.int .i64 0,.string ⟨#[]⟩,.slice none 0 0] 57)) r X Y q1 ⟨nm,0,false,0,[],[]⟩ none 0:=by
   have hb:Below u1.heap.size u1 (u1.alloc (.cells #[.string (bA nm),.int .i64 0,.bool false,.int .i64 0,.string ⟨#[]⟩,.slice none 0 0] 57)):=lit_below _ _
   exact ⟨hr.next hb,hx1.next hb,by rw [hY];exact rb_new _ _ _,World.ownsRow_nil _ _ _ _,(HK0.out.trans' hk).trans' (KP.of_below hb),HXE.out,HRX.out,by rw [hY];exact lt_of_block hx1⟩
  have HS:=Lib.hid hS0
  clear hr hk hx1 hS0 hY HX0 HRr HK0
  go_wp2_with fail
  try rw [<-HYE.out]
  generalize u1.alloc (.cells #[.string (bA nm),.int .i64 0,.bool false,.int .i64 0,.string ⟨#[]⟩,.slice none 0 0] 57)=W1 at HS ⊢
  refine (C2.out _ HS.out.rr).mono ?_
  rintro e u2 ⟨rfl,hr,hk⟩
  replace HS:=Lib.hid (HS.out.call hr hk)
  clear hr hk
  have f1:u2.frozen? ⟨Y,1,none⟩=false:=HS.out.free 1
  have g1:u2.cell? ⟨Y,1,none⟩=some (.int .i64 0):=HS.out.cells 1 _ rfl
  have HS':Hid (SZ w (u2.setCell ⟨Y,1,none⟩ (.int .i64 (k:Int))) r X Y q2 ⟨nm,k,false,0,[],[]⟩ none 0):=Lib.hid (HS.out.set 1 _ rfl rfl)
  clear HS
  have HS:=HS'
  clear HS'
  go_wp2_with fail
  refine (C3.out _ HS.out.rr).mono ?_
  rintro e u3 ⟨rfl,hr,hk⟩
  replace HS:=Lib.hid (HS.out.call hr hk)
  clear hr hk f1 g1
  first
  | (have hgt:(1:Int) < (kq:Int):=hc1
     have f2:u3.frozen? ⟨Y,2,none⟩=false:=HS.out.free 2
     have g2:u3.cell? ⟨Y,2,none⟩=some (.bool false):=HS.out.cells 2 _ rfl
     have b1:u3.cell? ⟨r,1,none⟩=some (.bool q3.2):=HS.out.rr.cell
     have b2:u3.frozen? ⟨r,1,none⟩=false:=HS.out.rr.frozen
     have hrY:r ≠ Y:=by have:=HS.out.nn;have:=HS.out.xy;omega
     have hYr:Y ≠ r:=Ne.symm hrY
     have HS':Hid (SZ w ((u3.setCell ⟨r,1,none⟩ (.bool true)).setCell ⟨Y,2,none⟩ (.bool (kq == 1))) r X Y (q3.1,true) ⟨nm,k,(kq == 1),0,[],[]⟩ none 0):=Lib.hid (HS.out.bad.set 2 _ rfl rfl))
  | (have f2:u3.frozen? ⟨Y,2,none⟩=false:=HS.out.free 2
     have g2:u3.cell? ⟨Y,2,none⟩=some (.bool false):=HS.out.cells 2 _ rfl
     have HS':Hid (SZ w (u3.setCell ⟨Y,2,none⟩ (.bool (kq == 1))) r X Y qk ⟨nm,k,(kq == 1),0,[],[]⟩ none 0):=Lib.hid (HS.out.set 2 _ rfl rfl))
  clear HS
  have HS:=HS'
  clear HS'
  go_wp2_with fail
  refine (C4.out _ HS.out.rr).mono ?_
  rintro e u4 ⟨rfl,hr,hk⟩
  replace HS:=Lib.hid (HS.out.call hr hk)
  clear hr hk f2 g2
  have f3:u4.frozen? ⟨Y,3,none⟩=false:=HS.out.free 3
  have g3:u4.cell? ⟨Y,3,none⟩=some (.int .i64 0):=HS.out.cells 3 _ rfl
  have HS':Hid (SZ w (u4.setCell ⟨Y,3,none⟩ (.int .i64 (al:Int))) r X Y q4 ⟨nm,k,(kq == 1),al,[],[]⟩ none 0):=Lib.hid (HS.out.set 3 _ rfl rfl)
  clear HS
  have HS:=HS'
  clear HS'
  go_wp2_with fail
  refine (C5.out _ HS.out.rr).mono ?_
  rintro e u5 ⟨rfl,hr,hk⟩
  replace HS:=Lib.hid (HS.out.call hr hk)
  clear hr hk f3 g3
  have f4:u5.frozen? ⟨Y,4,none⟩=false:=HS.out.free 4
  have g4:u5.cell? ⟨Y,4,none⟩=some (.string ⟨#[]⟩):=HS.out.cells 4 _ rfl
  have HS':Hid (SZ w (u5.setCell ⟨Y,4,none⟩ (.string (bA dt))) r X Y q5 ⟨nm,k,(kq == 1),al,dt,[]⟩ none 0):=Lib.hid (HS.out.set 4 _ rfl rfl)
  clear HS
  have HS:=HS'
  clear HS'
  go_wp2_with fail
  refine (C6.out _ HS.out.rr).mono ?_
  rintro e u6 ⟨rfl,hr,hk⟩
  replace HS:=Lib.hid (HS.out.call hr hk)
  clear hr hk
  clear C1 C2 C3 C4 C5 C6 f4 g4 hqb
  go_wp2_with fail
  go_loopw [6] (fun i wr=>∃ (j:Nat) (xs:List Rl) (a:Option Addr) (c:Nat) (qj:RQ),Hid (SZ w wr r X Y qj ⟨nm,k,kq == 1,al,dt,xs⟩ a c)/\j<=n/\i=.int .i64 j/\Hid (xs.length=j)/\Hid (FM fRel n q6 xs (n - j) qj)/\Hid (qj.1.size<=6000)) (fun i _=>n - (intOf i).toNat)
  case atStart=>exact ⟨0,[],none,0,q6,HS,by omega,rfl,Lib.hid rfl,Lib.hid (FM.start _ _ _),HD6⟩
  case round=>
   clear HS
   obtain ⟨j,xs,a,c,⟨Dj,bj⟩,HS,hj,rfl,HXS,HP,HDj⟩:=hrel
   have b1:wr.cell? ⟨r,1,none⟩=some (.bool bj):=HS.out.rr.cell
   by_cases hgo:j < n/\bj=false
   ·obtain ⟨hlt,rfl⟩:=hgo
    have hlti:(j:Int) < (n:Int):=by omega
    have HLT:=Lib.hid hlt
    obtain ⟨m,hm⟩:∃ m,n - j=m+1:=⟨n - j - 1,by omega⟩
    have HM:=Lib.hid hm
    clear hm hj hlt
    obtain ⟨x,p1,e1⟩:∃ x p1,fNum (Dj,false)=(x,p1):=⟨_,_,eta2 _⟩
    obtain ⟨y,p2,e2⟩:∃ y p2,fNum p1=(y,p2):=⟨_,_,eta2 _⟩
    obtain ⟨z,p3,e3⟩:∃ z p3,fNum p2=(z,p3):=⟨_,_,eta2 _⟩
    obtain ⟨v,p4,e4⟩:∃ v p4,fInt p3=(v,p4):=⟨_,_,eta2 _⟩
    have z0:Dj.size<=6000:=HDj.out
    have z1:p1.1.size<=6000:=by have:=fNum_size (Dj,false);rw [e1] at this;simp only at this;omega
    have z2:p2.1.size<=6000:=by have:=fNum_size p1;rw [e2] at this;simp only at this;omega
    have z3:p3.1.size<=6000:=by have:=fNum_size p2;rw [e3] at this;simp only at this;omega
    have z4:Hid (p4.1.size<=6000):=Lib.hid (by have:=fInt_size p3;rw [e4] at this;simp only at this;omega)
    have HP5:Hid (FM fRel n q6 (xs ++ [⟨x,y,z,v⟩]) m p4):=Lib.hid (by have:=HP.out;rw [HM.out] at this;exact this.step rfl (rl_pair e1 e2 e3 e4))
    have K1:Hid (∀ u,RZr u r (Dj,false)->Calls Tryz.prog 45 #[.pointer (some ⟨r,0,none⟩)] u (DidR (.int .i64 (x:Int)) r p1 u)):=Lib.hid fun u hu=>by
     have h:=rnum_any r (Dj,false) z0 u hu
     rw [e1] at h;exact h
    have K2:Hid (∀ u,RZr u r p1->Calls Tryz.prog 45 #[.pointer (some ⟨r,0,none⟩)] u (DidR (.int .i64 (y:Int)) r p2 u)):=Lib.hid fun u hu=>by
     have h:=rnum_any r p1 z1 u hu
     rw [e2] at h;exact h
    have K3:Hid (∀ u,RZr u r p2->Calls Tryz.prog 45 #[.pointer (some ⟨r,0,none⟩)] u (DidR (.int .i64 (z:Int)) r p3 u)):=Lib.hid fun u hu=>by
     have h:=rnum_any r p2 z2 u hu
     rw [e3] at h;exact h
    have K4:Hid (∀ u,RZr u r p3->Calls Tryz.prog 76 #[.pointer (some ⟨r,0,none⟩)] u (DidR (.int .i64 v) r p4 u)):=Lib.hid fun u hu=>by
     have h:=rint_any r p3 z3 u hu
     rw [e4] at h;exact h
    clear e1 e2 e3 e4 z0 z1 z2 z3
    have hl:xs.length<=1000000:=by have:=HXS.out;have:=HLT.out;have:=HN.out;omega
    have HL:=Lib.hid hl
    clear hl
    obtain ⟨i0,hi0,hz0,hz1,hz2⟩:=info_parts info_relZ
    go_wp2_with fail
    refine (K1.out _ HS.out.rr).mono ?_
    rintro e v1 ⟨rfl,hr,hk⟩
    have HS1:=Lib.hid (HS.out.call hr hk)
    clear hr hk b1
    obtain ⟨Z,hZ⟩:∃ Z,Z=v1.heap.size:=⟨_,rfl⟩
    have HZE:=Lib.hid hZ
    have hYZ:Y < Z:=by rw [hZ];exact lt_of_block HS1.out.yy
    have HYZ:=Lib.hid hYZ
    have HZr:Hid (Z ≠ r):=Lib.hid (by have:=HS1.out.nn;have:=HS1.out.xy;omega)
    have hB:=lit_below v1 (.cells #[.int .i64 (x:Int),.int .i64 0,.int .i64 0,.int .i64 0] 82)
    have HS2:=Lib.hid (HS1.out.call (HS1.out.rr.next hB) (KP.of_below hB))
    have HZ:Hid (RB (v1.alloc (.cells #[.int .i64 (x:Int),.int .i64 0,.int .i64 0,.int .i64 0] 82)) Z (rlA ⟨x,0,0,0⟩) 82):=Lib.hid (by rw [hZ];exact rb_new _ _ _)
    have HGo:Hid ((Value.slice a xs.length c).ownBlock ≠ some Z):=Lib.hid (fun e=>by have:=(HS1.out.oo.lt Z e).2;omega)
    clear hB hZ hYZ HS1 HS
    go_wp2_with fail
    try rw [<-HZE.out]
    generalize v1.alloc (.cells #[.int .i64 (x:Int),.int .i64 0,.int .i64 0,.int .i64 0] 82)=V1 at HS2 HZ ⊢
    have HZl:Hid (Z < V1.heap.size):=Lib.hid (lt_of_block HZ.out)
    refine (K2.out _ HS2.out.rr).mono ?_
    rintro e v2 ⟨rfl,hr,hk⟩
    replace HS2:=Lib.hid (HS2.out.call hr hk)
    replace HZ:=Lib.hid (HZ.out.kept hk HZr.out)
    clear hr hk
    have f2:v2.frozen? ⟨Z,1,none⟩=false:=HZ.out.frozen
    have g2:v2.cell? ⟨Z,1,none⟩=some (.int .i64 0):=HZ.out.cell
    have HZ':Hid (RB (v2.setCell ⟨Z,1,none⟩ (.int .i64 (y:Int))) Z (rlA ⟨x,y,0,0⟩) 82):=Lib.hid (HZ.out.set (j:=1) _)
    have HS':Hid (SZ w (v2.setCell ⟨Z,1,none⟩ (.int .i64 (y:Int))) r X Y p2 ⟨nm,k,kq == 1,al,dt,xs⟩ a c):=Lib.hid (HS2.out.other 1 _ HYZ.out HGo.out)
    clear HS2 HZ
    have HS2:=HS'
    have HZ:=HZ'
    clear HS' HZ'
    go_wp2_with fail
    refine (K3.out _ HS2.out.rr).mono ?_
    rintro e v3 ⟨rfl,hr,hk⟩
    replace HS2:=Lib.hid (HS2.out.call hr hk)
    replace HZ:=Lib.hid (HZ.out.kept hk HZr.out)
    clear hr hk
    have f3:v3.frozen? ⟨Z,2,none⟩=false:=HZ.out.frozen
    have g3:v3.cell? ⟨Z,2,none⟩=some (.int .i64 0):=HZ.out.cell
    have HZ':Hid (RB (v3.setCell ⟨Z,2,none⟩ (.int .i64 (z:Int))) Z (rlA ⟨x,y,z,0⟩) 82):=Lib.hid (HZ.out.set (j:=2) _)
    have HS':Hid (SZ w (v3.setCell ⟨Z,2,none⟩ (.int .i64 (z:Int))) r X Y p3 ⟨nm,k,kq == 1,al,dt,xs⟩ a c):=Lib.hid (HS2.out.other 2 _ HYZ.out HGo.out)
    clear HS2 HZ
    have HS2:=HS'
    have HZ:=HZ'
    clear HS' HZ'
    go_wp2_with fail
    refine (K4.out _ HS2.out.rr).mono ?_
    rintro e v4 ⟨rfl,hr,hk⟩
    replace HS2:=Lib.hid (HS2.out.call hr hk)
    replace HZ:=Lib.hid (HZ.out.kept hk HZr.out)
    clear hr hk
    have f4:v4.frozen? ⟨Z,3,none⟩=false:=HZ.out.frozen
    have g4:v4.cell? ⟨Z,3,none⟩=some (.int .i64 0):=HZ.out.cell
    have HZ':Hid (RB (v4.setCell ⟨Z,3,none⟩ (.int .i64 v)) Z (rlA ⟨x,y,z,v⟩) 82):=Lib.hid (HZ.out.set (j:=3) _)
    have HS':Hid (SZ w (v4.setCell ⟨Z,3,none⟩ (.int .i64 v)) r X Y p4 ⟨nm,k,kq == 1,al,dt,xs⟩ a c):=Lib.hid (HS2.out.other 3 _ HYZ.out HGo.out)
    clear HS2 HZ
    have HS2:=HS'
    have HZ:=HZ'
    clear HS' HZ'
    obtain ⟨Q,hQ⟩:∃ Q,Q=v4.heap.size:=⟨_,rfl⟩
    have hVs:(v4.setCell ⟨Z,3,none⟩ (.int .i64 v)).heap.size=v4.heap.size:=by simp [World.setCell]
    have HVs:=Lib.hid hVs
    have hYQ:Y < v4.heap.size:=by rw [<-hVs];exact lt_of_block HS2.out.yy
    have HYQ:=Lib.hid hYQ
    have y5:(v4.setCell ⟨Z,3,none⟩ (.int .i64 v)).cell? ⟨Y,5,none⟩=some (.slice a xs.length c):=HS2.out.cells 5 _ rfl
    have t0:(v4.setCell ⟨Z,3,none⟩ (.int .i64 v)).cell? ⟨Z,0,none⟩=some (.int .i64 (x:Int)):=HZ.out.cell
    have t1:(v4.setCell ⟨Z,3,none⟩ (.int .i64 v)).cell? ⟨Z,1,none⟩=some (.int .i64 (y:Int)):=HZ.out.cell
    have t2:(v4.setCell ⟨Z,3,none⟩ (.int .i64 v)).cell? ⟨Z,2,none⟩=some (.int .i64 (z:Int)):=HZ.out.cell
    have t3:(v4.setCell ⟨Z,3,none⟩ (.int .i64 v)).cell? ⟨Z,3,none⟩=some (.int .i64 v):=HZ.out.cell
    have hno:Hid ((Value.slice a xs.length c).ownBlock ≠ some Y):=Lib.hid (fun e=>by have:=(HS2.out.oo.lt Y e).1;omega)
    have y6:((v4.setCell ⟨Z,3,none⟩ (.int .i64 v)).alloc (.cells (rlA ⟨x,y,z,v⟩) 82)).cell? ⟨Y,5,none⟩=some (.slice a xs.length c):=(World.cell?_alloc_past (w:=(v4.setCell ⟨Z,3,none⟩ (.int .i64 v))) _ _ _ (by omega)).trans y5
    have y7:((v4.setCell ⟨Z,3,none⟩ (.int .i64 v)).alloc (.cells (rlA ⟨x,y,z,v⟩) 82)).frozen? ⟨Y,5,none⟩=false:=(World.frozen?_alloc_past (w:=(v4.setCell ⟨Z,3,none⟩ (.int .i64 v))) _ _ _ (by omega)).trans (HS2.out.free 5)
    have HNw:Hid (((v4.setCell ⟨Z,3,none⟩ (.int .i64 v)).alloc (.cells (rlA ⟨x,y,z,v⟩) 82)).heap[v4.heap.size]?=some (.cells (rlA ⟨x,y,z,v⟩) 82 (0,0))):=Lib.hid (by rw [<-hVs];exact heap_alloc_new _ _)
    clear hQ hYQ hVs
    go_wp2_with (at_builtin;(refine wpList_append_lies _ rfl _ _ 55 rfl (Y+1) 82 i0 (.agg #[.int .i64 0,.int .i64 0,.int .i64 0,.int .i64 0]) 4 32 Tryz.underlying55 hi0 hz0 hz1 hz2 rfl (by decide) (.slice a xs.length c) xs.length (xs.flatMap rlC) rfl (HS2.out.oo.alloc _) ⟨v4.heap.size,0,none⟩ 1 1 (rlC ⟨x,y,z,v⟩) rfl rfl (World.news_of_block (cs:=rlA ⟨x,y,z,v⟩) (t:=82) (fr:=(0,0)) HNw.out) (rl_onesZ _) (by decide) (by have:=HL.out;unfold maxLen;omega) (by have:=HL.out;omega) (by have:=HYQ.out;have:=HVs.out;simp [World.setCell];omega) (v4.heap.size+1) (by simp [World.setCell]) ?_;intro g9 cap w3 hown3 hgrow hat hlt3;have s5:w3.cell? ⟨Y,5,none⟩=some (.slice a xs.length c):=(hgrow.cell_far _ (by have:=HYQ.out;have:=HVs.out;rw [World.size_alloc];show Y < _;omega) (Ne.symm hno.out)).trans y6;have s6:w3.frozen? ⟨Y,5,none⟩=false:=(hgrow.frozen_far _ (by have:=HYQ.out;have:=HVs.out;rw [World.size_alloc];show Y < _;omega) (Ne.symm hno.out)).trans y7))
    have H5:Hid (SZ w (w3.setCell ⟨Y,5,none⟩ (.slice (some ⟨g9,0,none⟩) (xs.length+1) cap)) r X Y p4 ⟨nm,k,kq == 1,al,dt,xs ++ [⟨x,y,z,v⟩]⟩ (some ⟨g9,0,none⟩) cap):=Lib.hid (HS2.out.append hown3 hgrow)
    clear hown3 hgrow hat hlt3 s5 s6 t0 t1 t2 t3 y5 y6 y7 HS2 HZ hi0 hz0 hz1 hz2
    have hw9:wrap64 ((j:Int)+1)=(j:Int)+1:=by have:=HN.out;have:=HLT.out;unfold wrap64;omega
    go_wp2
    go_roundw
    case rel=>exact ⟨j+1,_,_,_,p4,H5,by have:=HLT.out;omega,by go_num,Lib.hid (by have:=HXS.out;simp;omega),by have:=HM.out;rw [show n - (j+1)=m from by omega];exact HP5,z4⟩
    case measure=>exact meas_lt HLT.out hw9
   ·have hF:fMany fRel n q6=(xs,(Dj,bj)):=HP.out.last (by
     by_cases c1:j < n
     ·right
      cases bj
      ·exact absurd ⟨c1,rfl⟩ hgo
      ·rfl
     ·left;omega)
    rw [hR.out] at hF
    simp only [Prod.mk.injEq] at hF
    obtain ⟨rfl,rfl⟩:=hF
    have HF:=Lib.hid HS.out.fin
    have y0:wr.cell? ⟨Y,0,none⟩=some (.string (bA nm)):=HS.out.cells 0 _ rfl
    have y1:wr.cell? ⟨Y,1,none⟩=some (.int .i64 (k:Int)):=HS.out.cells 1 _ rfl
    have y2:wr.cell? ⟨Y,2,none⟩=some (.bool (kq == 1)):=HS.out.cells 2 _ rfl
    have y3:wr.cell? ⟨Y,3,none⟩=some (.int .i64 (al:Int)):=HS.out.cells 3 _ rfl
    have y4:wr.cell? ⟨Y,4,none⟩=some (.string (bA dt)):=HS.out.cells 4 _ rfl
    have y5:wr.cell? ⟨Y,5,none⟩=some (.slice a rl.length c):=HS.out.cells 5 _ rfl
    obtain ⟨x0,x1,x2,x3,x4,x5,xf,xl⟩:=HS.out.xx.six
    have xf0:=xf 0
    have xf1:=xf 1
    have xf2:=xf 2
    have xf3:=xf 3
    have xf4:=xf 4
    have xf5:=xf 5
    have hcs:¬ (j:Int) < (n:Int)\/((j:Int) < (n:Int)/\bj=true):=by
     by_cases c1:j < n
     ·right
      refine ⟨by omega,?_⟩
      cases bj
      ·exact absurd ⟨c1,rfl⟩ hgo
      ·rfl
     ·left;omega
    clear xf HP hj hgo
    rcases hcs with hc | ⟨hc,rfl⟩
    all_goals
     go_wp2
     refine bodyPost_ret (results_cell_row (P:=Tryz.prog) rfl _ _ X 57 _ (0,0) _ rfl HF.out.1 Tryz.underlying57 rfl (by kernel_rfl)) rfl ?_
     exact HF.out.2
theorem rsec_any (r:Nat) (q:RQ) (hD:q.1.size<=6000) (w:World) (h:RZr w r q):
  Calls Tryz.prog 46 #[.pointer (some ⟨r,0,none⟩)] w (SecZ (fSec q).1 r (fSec q).2 w):=by
 have e0:fS1 q=((fS1 q).1,(fS1 q).2):=eta2 _
 have e1:fTxt q=(bA (fS1 q).1.data.toList,(fS1 q).2):=by rw [bA_of];exact e0
 have e2:fNum (fS1 q).2=((fS2 q).1,(fS2 q).2):=by unfold fS2;exact eta2 _
 have e3:fNum (fS2 q).2=((fS3 q).1,(fS3 q).2):=by unfold fS3;exact eta2 _
 have ek:fKeep ((fS3 q).1,(fS3 q).2)=fKeep (fS3 q):=by rw [<-eta2]
 have e4:fNum (fKeep (fS3 q))=((fS4 q).1,(fS4 q).2):=by unfold fS4;exact eta2 _
 have e9:fS5 q=((fS5 q).1,(fS5 q).2):=eta2 _
 have e5:fTxt (fS4 q).2=(bA (fS5 q).1.data.toList,(fS5 q).2):=by rw [bA_of];exact e9
 have e6:fNum (fS5 q).2=((fS6 q).1,(fS6 q).2):=by unfold fS6;exact eta2 _
 have e7:fMany fRel (fS6 q).1 (fS6 q).2=((fS7 q).1,(fS7 q).2):=by unfold fS7;exact eta2 _
 unfold fSec
 dsimp only
 refine rsec_main r q _ _ _ _ _ _ _ _ _ _ _ _ _ e1 e2 e3 ek e4 e5 e6 hD w h _ _ e7 ?_
 by_cases e:1 < (fS3 q).1
 ·exact .inl ⟨by omega,by unfold fKeep;simp only [decide_eq_true e,Bool.or_true]⟩
 ·exact .inr ⟨by omega,by unfold fKeep;simp only [decide_eq_false e,Bool.or_false]⟩
end Go.Proofs.YthkolmebokfagaaGreatDoor
namespace Go.Proofs.YthkolmebokfagaaGreatDoor
open Go.ChangeShapes Go.WideShapes Go.Deep Go.RowKit
structure OZ (w u:World) (X:Nat) (q:RQ) (L:List Ms) (a:Option Addr) (c:Nat) (l:List Sy) (a2:Option Addr) (c2:Nat):Prop where
 rr:RZr u (X+1) q
 xx:RB u X #[.slice none 0 0,.slice none 0 0] 25
 yy:RB u (X+2) #[.slice a L.length c,.slice a2 l.length c2] 25
 os:u.ownsRow (X+3) 57 6 (.slice a L.length c) L.length (L.flatMap msC)
 on:∀ m ∈ L,OwnMs u (X+3) m
 oy:u.ownsRow (X+3) 66 4 (.slice a2 l.length c2) l.length (l.flatMap syC)
 kk:Below X w u
 ee:X=w.heap.size
theorem OZ.call {w u:World} {X:Nat} {q:RQ} {L:List Ms} {a:Option Addr} {c:Nat} {l:List Sy} {a2:Option Addr} {c2:Nat} (h:OZ w u X q L a c l a2 c2) {u':World} {q':RQ} (hR:RZr u' (X+1) q') (hK:KP (X+1) u u'):OZ w u' X q' L a c l a2 c2:=
 ⟨hR,h.xx.kept hK (by omega),h.yy.kept hK (by omega),own_kp2 h.os hK (by omega),fun m hm=>own_kp2 (h.on m hm) hK (by omega),own_kp2 h.oy hK (by omega),by have h1:=h.kk;rw [h.ee] at h1 ⊢;exact KP.to_below h1 hK (by have:=h.ee;omega),h.ee⟩
theorem OZ.drew {w u:World} {X:Nat} {q:RQ} {L:List Ms} {a:Option Addr} {c:Nat} {l:List Sy} {a2:Option Addr} {c2:Nat} (h:OZ w u X q L a c l a2 c2):OZ w u.drew X q L a c l a2 c2:=
 h.call (h.rr.next ((Below.refl _ u).drew)) (KP.of_below ((Below.refl _ u).drew))
theorem OZ.cells {w u:World} {X:Nat} {q:RQ} {L:List Ms} {a:Option Addr} {c:Nat} {l:List Sy} {a2:Option Addr} {c2:Nat} (h:OZ w u X q L a c l a2 c2) (j:Nat) (v:Value) (hv:(#[.slice a L.length c,.slice a2 l.length c2]:Array Value)[j]?=some v):u.cell? ⟨X+2,j,none⟩=some v:=by
 have:=h.yy
 unfold RB at this
 unfold World.cell?
 rw [this];simpa using hv
theorem OZ.free {w u:World} {X:Nat} {q:RQ} {L:List Ms} {a:Option Addr} {c:Nat} {l:List Sy} {a2:Option Addr} {c2:Nat} (h:OZ w u X q L a c l a2 c2) (j:Nat):u.frozen? ⟨X+2,j,none⟩=false:=h.yy.frozen
theorem OZ.mk0 {w u:World} {X:Nat} {q:RQ} (hR:RZr u (X+1) q) (hX:RB u X #[.slice none 0 0,.slice none 0 0] 25) (hY:RB u (X+2) #[.slice none 0 0,.slice none 0 0] 25) (hK:Below X w u) (hE:X=w.heap.size):OZ w u X q [] none 0 [] none 0:=
 ⟨hR,hX,hY,World.ownsRow_nil _ _ _ _,by simp,World.ownsRow_nil _ _ _ _,hK,hE⟩
theorem OZ.addSec {w u w3:World} {X:Nat} {q:RQ} {L:List Ms} {a a':Option Addr} {c c':Nat} {l:List Sy} {a2:Option Addr} {c2:Nat} {m:Ms} (h:OZ w u X q L a c l a2 c2) (hm:OwnMs u (X+3) m)
  (hown:w3.ownsRow (X+3) 57 6 (.slice a' (L.length+1) c') (L.length+1) (L.flatMap msC ++ msC m)) (hgrow:(u.alloc (.cells (msA m) 57)).grownBy w3 (Value.slice a L.length c).ownBlock):
  OZ w (w3.setCell ⟨X+2,0,none⟩ (.slice a' (L.length+1) c')) X q (L ++ [m]) a' c' l a2 c2:=by
 have hx:=h.ee
 have hp:X+2 < u.heap.size:=lt_of_block h.yy
 have hbV:Below (X+3) u (u.alloc (.cells (msA m) 57)):=(Below.refl (X+3) u).alloc (by omega) _
 have hbw:Below (X+3) u w3:=hbV.grown hgrow (by have:=hbV.size;omega) (fun j hj=>(h.os.lt j hj).1)
 have hr3:RZr w3 (X+1) q:=(hbw.block (X+1) (by omega)).trans h.rr
 have hx3:RB w3 X #[.slice none 0 0,.slice none 0 0] 25:=(hbw.block X (by omega)).trans h.xx
 have hy3:RB w3 (X+2) #[.slice a L.length c,.slice a2 l.length c2] 25:=(hbw.block (X+2) (by omega)).trans h.yy
 have hK:=KP.step (X+2) w3 0 (.slice a' (L.length+1) c')
 have hon:∀ q,OwnMs u (X+3) q->OwnMs (w3.setCell ⟨X+2,0,none⟩ (.slice a' (L.length+1) c')) (X+3) q:=fun q hq=>by
  have h1:=own_ms_alloc (o:=.cells (msA m) 57) hq
  have h2:=h1.kept hgrow (own_apart h1 (h.os.alloc _) (by decide))
  exact own_kp2 h2 hK (by omega)
 refine ⟨(hother (by omega)).trans hr3,(hother (by omega)).trans hx3,?_,?_,?_,?_,(h.kk.trans (hbw.mono (show X<=X+3 by omega))).setCell (p:=⟨X+2,0,none⟩) (by show X<=X+2;omega) _,h.ee⟩
 ·have:=hset (o:=0) (x:=.slice a' (L.length+1) c') hy3
  unfold RB
  simpa using this
 ·have:=own_kp2 hown hK (by omega)
  simpa [List.flatMap_append] using this
 ·intro q hq
  rcases List.mem_append.1 hq with hq | hq
  ·exact hon q (h.on q hq)
  ·rw [List.mem_singleton.1 hq];exact hon m hm
 ·have h1:=h.oy.alloc (.cells (msA m) 57)
  have h2:=h1.kept hgrow (own_apart h1 (h.os.alloc _) (by decide))
  exact own_kp2 h2 hK (by omega)
theorem OZ.addSym {w u w3:World} {X:Nat} {q:RQ} {L:List Ms} {a a2':Option Addr} {c c2':Nat} {l:List Sy} {a2:Option Addr} {c2:Nat} {m:Sy} (h:OZ w u X q L a c l a2 c2)
  (hown:w3.ownsRow (X+3) 66 4 (.slice a2' (l.length+1) c2') (l.length+1) (l.flatMap syC ++ syC m)) (hgrow:(u.alloc (.cells (syA m) 66)).grownBy w3 (Value.slice a2 l.length c2).ownBlock):
  OZ w (w3.setCell ⟨X+2,1,none⟩ (.slice a2' (l.length+1) c2')) X q L a c (l ++ [m]) a2' c2':=by
 have hx:=h.ee
 have hp:X+2 < u.heap.size:=lt_of_block h.yy
 have hbV:Below (X+3) u (u.alloc (.cells (syA m) 66)):=(Below.refl (X+3) u).alloc (by omega) _
 have hbw:Below (X+3) u w3:=hbV.grown hgrow (by have:=hbV.size;omega) (fun j hj=>(h.oy.lt j hj).1)
 have hr3:RZr w3 (X+1) q:=(hbw.block (X+1) (by omega)).trans h.rr
 have hx3:RB w3 X #[.slice none 0 0,.slice none 0 0] 25:=(hbw.block X (by omega)).trans h.xx
 have hy3:RB w3 (X+2) #[.slice a L.length c,.slice a2 l.length c2] 25:=(hbw.block (X+2) (by omega)).trans h.yy
 have hK:=KP.step (X+2) w3 1 (.slice a2' (l.length+1) c2')
 refine ⟨(hother (by omega)).trans hr3,(hother (by omega)).trans hx3,?_,?_,?_,?_,(h.kk.trans (hbw.mono (show X<=X+3 by omega))).setCell (p:=⟨X+2,1,none⟩) (by show X<=X+2;omega) _,h.ee⟩
 ·have:=hset (o:=1) (x:=.slice a2' (l.length+1) c2') hy3
  unfold RB
  simpa using this
 ·have h1:=h.os.alloc (.cells (syA m) 66)
  have h2:=h1.kept hgrow (own_apart h1 (h.oy.alloc _) (by decide))
  exact own_kp2 h2 hK (by omega)
 ·intro q hq
  have h1:=own_ms_alloc (o:=.cells (syA m) 66) (h.on q hq)
  have h2:=h1.kept hgrow (own_apart h1 (h.oy.alloc _) (by decide))
  exact own_kp2 h2 hK (by omega)
 ·have:=own_kp2 hown hK (by omega)
  simpa [List.flatMap_append] using this
theorem OZ.next {w u u':World} {X:Nat} {q:RQ} {L:List Ms} {a:Option Addr} {c:Nat} {l:List Sy} {a2:Option Addr} {c2:Nat} (h:OZ w u X q L a c l a2 c2) (hb:Below u.heap.size u u'):OZ w u' X q L a c l a2 c2:=h.call (h.rr.next hb) (KP.of_below hb)
theorem OZ.other {w u:World} {X Z:Nat} {q:RQ} {L:List Ms} {a:Option Addr} {c:Nat} {l:List Sy} {a2:Option Addr} {c2:Nat} (h:OZ w u X q L a c l a2 c2) (j:Nat) (v:Value) (hZ:X+2 < Z) (hg:(Value.slice a L.length c).ownBlock ≠ some Z) (hg2:(Value.slice a2 l.length c2).ownBlock ≠ some Z) (hg3:∀ m ∈ L,(Value.slice m.ad m.sc.rels.length m.cap).ownBlock ≠ some Z):OZ w (u.setCell ⟨Z,j,none⟩ v) X q L a c l a2 c2:=by
 have hK:=KP.step Z u j v
 exact ⟨(hother (by omega)).trans h.rr,(hother (by omega)).trans h.xx,(hother (by omega)).trans h.yy,h.os.kept hK (.inr hg),fun m hm=>World.ownsRow.kept (h.on m hm) hK (.inr (hg3 m hm)),h.oy.kept hK (.inr hg2),h.kk.setCell (p:=⟨Z,j,none⟩) (by show X<=Z;omega) _,h.ee⟩
theorem OZ.go {w u:World} {X:Nat} {q:RQ} {L:List Ms} {a:Option Addr} {c:Nat} {l:List Sy} {a2:Option Addr} {c2:Nat} (h:OZ w u X q L a c l a2 c2):GO u (X+3) L a c l a2 c2:=⟨h.os,h.on,h.oy⟩
theorem sy_pair {q q1 q2 q3 q4:RQ} {nm:List UInt8} {x y z:Nat} (h1:fTxt q=(bA nm,q1)) (h2:fNum q1=(x,q2)) (h3:fNum q2=(y,q3)) (h4:fNum q3=(z,q4)):fSym q=(⟨nm,x,(y:Int) - 1,z⟩,q4):=by
 unfold fSym fY4 fY3 fY2 fY1
 rw [h1];simp only;rw [h2];simp only;rw [h3];simp only;rw [h4]
theorem getZ_no {D:ByteArray} {w w':World} {e:Ending} (h:gO D=none) (he:e=.returned (.tuple #[.agg #[.slice none 0 0,.slice none 0 0],.int .i64 3])) (hb:Below w.heap.size w w'):GetR D w e w':=by
 rw [gO_eq] at h
 unfold GetR;rw [h];exact ⟨he,hb⟩
theorem getZ_yes {D:ByteArray} {o:Ob} {w w':World} {e:Ending} (h:gO D=some o) (he:∃ (L:List Ms) (a:Option Addr) (c:Nat) (a2:Option Addr) (c2:Nat),L.map (·.sc)=o.secs/\e=.returned (.tuple #[.agg #[.slice a L.length c,.slice a2 o.syms.length c2],.int .i64 0])/\GO w' w.heap.size L a c o.syms a2 c2/\Below w.heap.size w w'):GetR D w e w':=by
 rw [gO_eq] at h
 unfold GetR;rw [h];exact he
theorem gO_take {D:ByteArray} (h:¬ D.data.toList.take 6=[67,76,69,65,84,1]):gO D=none:=by unfold gO;rw [if_neg h]
theorem gO_no {D:ByteArray} (h:(fO4 D).2.2=true\/(fO4 D).2.1.size ≠ 0\/isO (fOb D)=false):gO D=none:=by unfold gO;rw [if_pos h];split <;> rfl
theorem gO_yes {D:ByteArray} (h0:D.data.toList.take 6=[67,76,69,65,84,1]) (h1:(fO4 D).2.2=false) (h2:(fO4 D).2.1.size=0) (h3:isO (fOb D)=true):gO D=some (fOb D):=by
 unfold gO
 rw [if_pos h0,if_neg]
 rintro (c | c | c)
 ·rw [h1] at c;cases c
 ·exact c h2
 ·rw [h3] at c;cases c
theorem take_ext (D:ByteArray):(D.extract 0 6).toList=D.data.toList.take 6:=by rw [ByteArray.toList_eq,ext_list];simp
theorem rGet_take (D:ByteArray) (hD:D.size<=6000) (h0:¬ D.data.toList.take 6=[67,76,69,65,84,1]) (w:World):
  Calls Tryz.prog 11 #[.string D] w (GetR D w):=by
 have HB:Hid (Below w.heap.size w (w.alloc (.cells #[.slice none 0 0,.slice none 0 0] 25))):=Lib.hid (lit_below _ _)
 have HX:Hid (RB (w.alloc (.cells #[.slice none 0 0,.slice none 0 0] 25)) w.heap.size #[.slice none 0 0,.slice none 0 0] 25):=Lib.hid (rb_new _ _ _)
 have HZ:=Lib.hid (gO_take h0)
 have hDi:(D.size:Int)<=6000:=by omega
 by_cases c:D.size < 6
 ·have ci:(D.size:Int) < 6:=by omega
  clear h0
  go_enter Tryz.func11,Tryz.ntmps11
  go_wp2_with fail
  refine bodyPost_ret (results_cell_two (P:=Tryz.prog) rfl _ _ _ 25 _ (0,0) _ (.int .i64 3) rfl HX.out Tryz.underlying25 rfl (by kernel_rfl) rfl) rfl ?_
  exact getZ_no HZ.out rfl HB.out
 ·have ci:¬ (D.size:Int) < 6:=by omega
  have e1:((D.extract 0 6).toList == [67,76,69,65,84,1])=false:=by rw [take_ext,beq_eq_false_iff_ne];exact h0
  have e2:(!((D.extract 0 6).toList == [67,76,69,65,84,1]))=true:=by rw [e1];rfl
  clear h0
  go_enter Tryz.func11,Tryz.ntmps11
  go_wp2_with fail
  refine bodyPost_ret (results_cell_two (P:=Tryz.prog) rfl _ _ _ 25 _ (0,0) _ (.int .i64 3) rfl HX.out Tryz.underlying25 rfl (by kernel_rfl) rfl) rfl ?_
  exact getZ_no HZ.out rfl HB.out
theorem rGet_main (D:ByteArray) (hD:D.size<=6000) (h0:D.data.toList.take 6=[67,76,69,65,84,1]) (w:World) (n m:Nat) (q1 q2 q3 q4:RQ) (ss:List Sc) (ys:List Sy) (e1:fNum (D.extract 6 D.size,false)=(n,q1)) (e2:fMany fSec n q1=(ss,q2)) (e3:fNum q2=(m,q3)) (e4:fMany fSym m q3=(ys,q4))
  (hno:q4.2=true\/q4.1.size ≠ 0\/isO ⟨ss,ys⟩=false->gO D=none) (hyes:q4.2=false->q4.1.size=0->isO ⟨ss,ys⟩=true->gO D=some ⟨ss,ys⟩) (hgd:q4.2=false->(∀ s ∈ ss,GoodSc s/\s.name.length<=4096/\s.rels.length<=1000000)/\(∀ s ∈ ys,GoodSy s/\s.name.length<=4096)/\ss.length<=1000000/\ys.length<=1000000):
  Calls Tryz.prog 11 #[.string D] w (GetR D w):=by
 have s0:(D.extract 6 D.size).size<=6000:=by have:=rest_size D 6;omega
 have s1:q1.1.size<=6000:=by have:=fNum_size (D.extract 6 D.size,false);rw [e1] at this;simp only at this;omega
 have s2:q2.1.size<=6000:=by have:=fMany_size fSec_size n q1;rw [e2] at this;simp only at this;omega
 have s3:q3.1.size<=6000:=by have:=fNum_size q2;rw [e3] at this;simp only at this;omega
 have n1:n<=1000000:=by have:=fNum_le (D.extract 6 D.size,false);rw [e1] at this;exact this
 have n3:m<=1000000:=by have:=fNum_le q2;rw [e3] at this;exact this
 have HN:=Lib.hid n1
 have HMn:=Lib.hid n3
 have HNo:=Lib.hid hno
 have HYes:=Lib.hid hyes
 have HGd:=Lib.hid hgd
 have HE2:=Lib.hid e2
 have HE4:=Lib.hid e4
 have HS1:=Lib.hid s1
 have HS3:=Lib.hid s3
 have C1:Hid (∀ r u,RZr u r (D.extract 6 D.size,false)->Calls Tryz.prog 45 #[.pointer (some ⟨r,0,none⟩)] u (DidR (.int .i64 (n:Int)) r q1 u)):=Lib.hid fun r u hu=>by
  have h:=rnum_any r (D.extract 6 D.size,false) s0 u hu
  rw [e1] at h;exact h
 have C2:Hid (∀ r u,RZr u r q2->Calls Tryz.prog 45 #[.pointer (some ⟨r,0,none⟩)] u (DidR (.int .i64 (m:Int)) r q3 u)):=Lib.hid fun r u hu=>by
  have h:=rnum_any r q2 s2 u hu
  rw [e3] at h;exact h
 have hDi:(D.size:Int)<=6000:=by omega
 have hsz:6<=D.size:=by
  have:=congrArg List.length h0
  rw [List.length_take,ba_len] at this
  simp only [List.length_cons,List.length_nil] at this
  omega
 have ci:¬ (D.size:Int) < 6:=by omega
 have ci2:(6:Int)<=(D.size:Int):=by omega
 have f1:((D.extract 0 6).toList == [67,76,69,65,84,1])=true:=by rw [take_ext,h0];rfl
 have f2:(!((D.extract 0 6).toList == [67,76,69,65,84,1]))=false:=by rw [f1];rfl
 obtain ⟨E,hE⟩:∃ E,E=D.extract 6 D.size:=⟨_,rfl⟩
 rw [<-hE] at C1
 have HEe:=Lib.hid hE
 obtain ⟨X,hX⟩:∃ X,X=w.heap.size:=⟨_,rfl⟩
 have HXE:=Lib.hid hX
 have HS:Hid (OZ w (((w.alloc (.cells #[.slice none 0 0,.slice none 0 0] 25)).alloc (.cells #[.string E,.bool false] 93)).alloc (.cells #[.slice none 0 0,.slice none 0 0] 25)) X (E,false) [] none 0 [] none 0):=Lib.hid (by
  have z1:(w.alloc (.cells #[.slice none 0 0,.slice none 0 0] 25)).heap.size=w.heap.size+1:=World.size_alloc _ _
  have z2:((w.alloc (.cells #[.slice none 0 0,.slice none 0 0] 25)).alloc (.cells #[.string E,.bool false] 93)).heap.size=w.heap.size+1+1:=by rw [World.size_alloc,z1]
  have b1:=lit_below w (.cells #[.slice none 0 0,.slice none 0 0] 25)
  have b2:=lit_below (w.alloc (.cells #[.slice none 0 0,.slice none 0 0] 25)) (.cells #[.string E,.bool false] 93)
  have b3:=lit_below ((w.alloc (.cells #[.slice none 0 0,.slice none 0 0] 25)).alloc (.cells #[.string E,.bool false] 93)) (.cells #[.slice none 0 0,.slice none 0 0] 25)
  have r1:RZr ((w.alloc (.cells #[.slice none 0 0,.slice none 0 0] 25)).alloc (.cells #[.string E,.bool false] 93)) (X+1) (E,false):=by rw [hX,<-z1];exact rb_new _ _ _
  have r2:RB (((w.alloc (.cells #[.slice none 0 0,.slice none 0 0] 25)).alloc (.cells #[.string E,.bool false] 93)).alloc (.cells #[.slice none 0 0,.slice none 0 0] 25)) (X+2) #[.slice none 0 0,.slice none 0 0] 25:=by rw [hX,show w.heap.size+2=w.heap.size+1+1 from rfl,<-z2];exact rb_new _ _ _
  have r0:RB (w.alloc (.cells #[.slice none 0 0,.slice none 0 0] 25)) X #[.slice none 0 0,.slice none 0 0] 25:=by rw [hX];exact rb_new _ _ _
  refine OZ.mk0 (r1.next b3) ((r0.next b2).next b3) r2 ?_ hX
  rw [hX];exact after (after b1 b2) b3)
 clear h0 hsz hX hD e1 e2 e3 e4 s0 s1 s2 s3 n1 n3 hno hyes hgd
 go_enter Tryz.func11,Tryz.ntmps11
 go_wp2_with fail
 try rw [<-HEe.out]
 try rw [<-HXE.out]
 generalize (((w.alloc (.cells #[.slice none 0 0,.slice none 0 0] 25)).alloc (.cells #[.string E,.bool false] 93)).alloc (.cells #[.slice none 0 0,.slice none 0 0] 25))=W0 at HS ⊢
 refine (C1.out _ _ HS.out.rr).mono ?_
 rintro e v ⟨rfl,hr,hk⟩
 replace HS:=Lib.hid (HS.out.call hr hk)
 clear hr hk C1 f1 f2 ci ci2 hE
 go_wp2_with fail
 go_loopw [7] (fun i wr=>∃ (j:Nat) (L:List Ms) (a:Option Addr) (c:Nat) (qj:RQ),Hid (OZ w wr X qj L a c [] none 0)/\j<=n/\i=.int .i64 j/\Hid (L.length=j)/\Hid (FM fSec n q1 (L.map (·.sc)) (n - j) qj)/\Hid (qj.1.size<=6000)) (fun i _=>n - (intOf i).toNat)
 case atStart=>exact ⟨0,[],none,0,q1,HS,by omega,rfl,Lib.hid rfl,Lib.hid (FM.start _ _ _),HS1⟩
 case round=>
  clear HS
  obtain ⟨j,L,a,c,⟨Dj,bj⟩,HS,hj,rfl,HXS,HP,HDj⟩:=hrel
  have b1:wr.cell? ⟨X+1,1,none⟩=some (.bool bj):=HS.out.rr.cell
  by_cases hgo:j < n/\bj=false
  ·obtain ⟨hlt,rfl⟩:=hgo
   have hlti:(j:Int) < (n:Int):=by omega
   have HLT:=Lib.hid hlt
   obtain ⟨m',hm⟩:∃ m',n - j=m'+1:=⟨n - j - 1,by omega⟩
   have HM:=Lib.hid hm
   clear hm hj hlt
   obtain ⟨⟨nm,ki,kp,al,dt,rl⟩,p4,e4⟩:∃ x p4,fSec (Dj,false)=(x,p4):=⟨_,_,eta2 _⟩
   have z4:Hid (p4.1.size<=6000):=Lib.hid (by have:=fSec_size (Dj,false);rw [e4] at this;have:=HDj.out;simp only at *;omega)
   have HP5:Hid (FM fSec n q1 (L.map (·.sc) ++ [⟨nm,ki,kp,al,dt,rl⟩]) m' p4):=Lib.hid (by have:=HP.out;rw [HM.out] at this;exact this.step rfl e4)
   have KS:Hid (∀ r u,RZr u r (Dj,false)->Calls Tryz.prog 46 #[.pointer (some ⟨r,0,none⟩)] u (SecZ ⟨nm,ki,kp,al,dt,rl⟩ r p4 u)):=Lib.hid fun r u hu=>by
    have h:=rsec_any r (Dj,false) HDj.out u hu
    rw [e4] at h;exact h
   clear e4
   have hw9:wrap64 ((j:Int)+1)=(j:Int)+1:=by have:=HN.out;have:=HLT.out;unfold wrap64;omega
   have hxl:Hid (L.length<=1000000):=Lib.hid (by have:=HN.out;have:=HXS.out;have:=HLT.out;omega)
   have hno:Hid ((Value.slice a L.length c).ownBlock ≠ some (X+2)):=Lib.hid (fun e=>by have:=(HS.out.os.lt (X+2) e).1;omega)
   obtain ⟨i0,hi0,hz0,hz1,hz2⟩:=info_parts info_sec
   have y5:wr.cell? ⟨X+2,0,none⟩=some (.slice a L.length c):=HS.out.cells 0 _ rfl
   go_wp2_with fail
   clear b1
   first | (go_region_law ((first
    | (go_simp;go_at_call 46;refine (KS.out _ _ HS.out.drew.rr).mono ?_;rintro e m1 ⟨ad,cp,rfl,hr1,hk1,ho1⟩;have hm1:Hid (OwnMs m1 (X+3) ⟨⟨nm,ki,kp,al,dt,rl⟩,ad,cp⟩):=Lib.hid (own_low ho1 (by have:=lt_of_block HS.out.yy;show X+3<=wr.heap.size;omega));have H1:=Lib.hid (HS.out.drew.call hr1 hk1);have t1:m1.cell? ⟨X+2,0,none⟩=some (.slice a L.length c):=H1.out.cells 0 _ rfl;have tA:(m1.alloc (.cells #[.string ⟨nm.toArray⟩,.int .i64 ki,.bool kp,.int .i64 al,.string ⟨dt.toArray⟩,.slice ad rl.length cp] 57)).cell? ⟨X+2,0,none⟩=some (.slice a L.length c):=(World.cell?_alloc_past (w:=m1) _ _ _ (lt_of_block H1.out.yy)).trans t1;clear hr1 hk1 ho1)
    | (have hl4:=hxl.out;have hX4:X+2 < m1.heap.size:=lt_of_block H1.out.yy;refine step_append_lies _ (by rfl) _ _ _ (by rfl) (X+3) 57 i0 _ 6 80 Tryz.underlying22 hi0 hz0 hz1 hz2 rfl (by omega) (.slice a L.length c) L.length (L.flatMap msC) (by rfl) (H1.out.os.alloc _) ⟨m1.heap.size,0,none⟩ 1 1 (msC ⟨⟨nm,ki,kp,al,dt,rl⟩,ad,cp⟩) (by rfl) (by rfl) (World.news_of_block (cs:=msA ⟨⟨nm,ki,kp,al,dt,rl⟩,ad,cp⟩) (t:=57) (fr:=(0,0)) (heap_alloc_new m1 _)) (ms_one _) (by omega) (by unfold maxLen;omega) (by omega) (by simp;omega) (m1.heap.size+1) (by simp) ?_;intro g3 cap w3 hown3 hgrow hat hlt3;have s5:w3.cell? ⟨X+2,0,none⟩=some (.slice a L.length c):=(hgrow.cell_far _ (by rw [World.size_alloc];show X+2 < _;omega) (Ne.symm hno.out)).trans ((World.cell?_alloc_past (w:=m1) _ _ _ hX4).trans t1);have s6:w3.frozen? ⟨X+2,0,none⟩=false:=(hgrow.frozen_far _ (by rw [World.size_alloc];show X+2 < _;omega) (Ne.symm hno.out)).trans ((World.frozen?_alloc_past (w:=m1) _ _ _ hX4).trans (H1.out.free 0)))))) | fail
   all_goals
    have H5:Hid (OZ w (w3.setCell ⟨X+2,0,none⟩ (.slice (some ⟨g3,0,none⟩) (L.length+1) cap)) X p4 (L ++ [⟨⟨nm,ki,kp,al,dt,rl⟩,ad,cp⟩]) (some ⟨g3,0,none⟩) cap [] none 0):=Lib.hid (H1.out.addSec hm1.out hown3 hgrow)
    clear hown3 hgrow hat hlt3 s5 s6 t1 tA y5 H1 HS hl4 hX4 hi0 hz0 hz1 hz2 hm1
    go_wp2
    go_roundw
    case rel=>exact ⟨j+1,_,_,_,p4,H5,by have:=HLT.out;omega,by go_num,Lib.hid (by have:=HXS.out;simp;omega),Lib.hid (by have:=HM.out;rw [List.map_append,show n - (j+1)=m' from by omega];exact HP5.out),z4⟩
    case measure=>exact meas_lt HLT.out hw9
  ·have hF:fMany fSec n q1=(L.map (·.sc),(Dj,bj)):=HP.out.last (by
    by_cases c1:j < n
    ·right
     cases bj
     ·exact absurd ⟨c1,rfl⟩ hgo
     ·rfl
    ·left;omega)
   rw [HE2.out] at hF
   simp only [Prod.mk.injEq] at hF
   obtain ⟨hss,rfl⟩:=hF
   have HSS:=Lib.hid hss
   have hcs:¬ (j:Int) < (n:Int)\/((j:Int) < (n:Int)/\bj=true):=by
    by_cases c1:j < n
    ·right
     refine ⟨by omega,?_⟩
     cases bj
     ·exact absurd ⟨c1,rfl⟩ hgo
     ·rfl
    ·left;omega
   have HA:Hid (OZ w wr X (Dj,bj) L a c [] none 0):=HS
   clear HP hj hgo HS HXS hss
   rcases hcs with hc | ⟨hc,rfl⟩
   all_goals
    go_wp2_with fail
    refine (C2.out _ _ HA.out.rr).mono ?_
    rintro e v ⟨rfl,hr,hk⟩
    have HS:=Lib.hid (HA.out.call hr hk)
    clear hr hk b1 HA
    go_wp2_with fail
    go_loopw [8] (fun i wr=>∃ (j:Nat) (l:List Sy) (a2:Option Addr) (c2:Nat) (qj:RQ),Hid (OZ w wr X qj L a c l a2 c2)/\j<=m/\i=.int .i64 j/\Hid (l.length=j)/\Hid (FM fSym m q3 l (m - j) qj)/\Hid (qj.1.size<=6000)) (fun i _=>m - (intOf i).toNat)
    case atStart=>exact ⟨0,[],none,0,q3,HS,by omega,rfl,Lib.hid rfl,Lib.hid (FM.start _ _ _),HS3⟩
    case round=>
     clear HS HDj
     obtain ⟨j,l,a2,c2,⟨Dj,bj⟩,HS,hj,rfl,HYS,HP,HDj⟩:=hrel
     have b1:wr.cell? ⟨X+1,1,none⟩=some (.bool bj):=HS.out.rr.cell
     by_cases hgo:j < m/\bj=false
     ·obtain ⟨hlt,rfl⟩:=hgo
      have hlti:(j:Int) < (m:Int):=by omega
      have HLT:=Lib.hid hlt
      obtain ⟨m',hm⟩:∃ m',m - j=m'+1:=⟨m - j - 1,by omega⟩
      have HM:=Lib.hid hm
      clear hm hj hlt
      obtain ⟨nm,p1,e1⟩:∃ nm p1,fTxt (Dj,false)=(bA nm,p1):=⟨(fTxt (Dj,false)).1.data.toList,(fTxt (Dj,false)).2,by rw [bA_of]⟩
      obtain ⟨x,p2,e2⟩:∃ x p2,fNum p1=(x,p2):=⟨_,_,eta2 _⟩
      obtain ⟨y,p3,e3⟩:∃ y p3,fNum p2=(y,p3):=⟨_,_,eta2 _⟩
      obtain ⟨z,p4,e4⟩:∃ z p4,fNum p3=(z,p4):=⟨_,_,eta2 _⟩
      have z0:Dj.size<=6000:=HDj.out
      have z1:p1.1.size<=6000:=by have:=fTxt_size (Dj,false);rw [e1] at this;simp only at this;omega
      have z2:p2.1.size<=6000:=by have:=fNum_size p1;rw [e2] at this;simp only at this;omega
      have z3:p3.1.size<=6000:=by have:=fNum_size p2;rw [e3] at this;simp only at this;omega
      have z4:Hid (p4.1.size<=6000):=Lib.hid (by have:=fNum_size p3;rw [e4] at this;simp only at this;omega)
      have hy:y<=1000000:=by have:=fNum_le p2;rw [e3] at this;exact this
      have HP5:Hid (FM fSym m q3 (l ++ [⟨nm,x,(y:Int) - 1,z⟩]) m' p4):=Lib.hid (by have:=HP.out;rw [HM.out] at this;exact this.step rfl (sy_pair e1 e2 e3 e4))
      have K1:Hid (∀ r u,RZr u r (Dj,false)->Calls Tryz.prog 47 #[.pointer (some ⟨r,0,none⟩)] u (DidR (.string (bA nm)) r p1 u)):=Lib.hid fun r u hu=>by
       have h:=rtxt_any r (Dj,false) z0 u hu
       rw [e1] at h;exact h
      have K2:Hid (∀ r u,RZr u r p1->Calls Tryz.prog 45 #[.pointer (some ⟨r,0,none⟩)] u (DidR (.int .i64 (x:Int)) r p2 u)):=Lib.hid fun r u hu=>by
       have h:=rnum_any r p1 z1 u hu
       rw [e2] at h;exact h
      have K3:Hid (∀ r u,RZr u r p2->Calls Tryz.prog 45 #[.pointer (some ⟨r,0,none⟩)] u (DidR (.int .i64 (y:Int)) r p3 u)):=Lib.hid fun r u hu=>by
       have h:=rnum_any r p2 z2 u hu
       rw [e3] at h;exact h
      have K4:Hid (∀ r u,RZr u r p3->Calls Tryz.prog 45 #[.pointer (some ⟨r,0,none⟩)] u (DidR (.int .i64 (z:Int)) r p4 u)):=Lib.hid fun r u hu=>by
       have h:=rnum_any r p3 z3 u hu
       rw [e4] at h;exact h
      clear e1 e2 e3 e4 z0 z1 z2 z3
      have hyi:(y:Int)<=1000000:=by omega
      have hyw:IntKind.i64.wrap ((y:Int) - 1)=(y:Int) - 1:=by rw [IntKind.wrap_i64];omega
      have hw9:wrap64 ((j:Int)+1)=(j:Int)+1:=by have:=HMn.out;have:=HLT.out;unfold wrap64;omega
      clear hy
      have HL:Hid (l.length<=1000000):=Lib.hid (by have:=HMn.out;have:=HYS.out;have:=HLT.out;omega)
      obtain ⟨i0,hi0,hz0,hz1,hz2⟩:=info_parts info_sym
      go_wp2_with fail
      refine (K1.out _ _ HS.out.rr).mono ?_
      rintro e v1 ⟨rfl,hr,hk⟩
      have HS1:=Lib.hid (HS.out.call hr hk)
      clear hr hk b1
      obtain ⟨Z,hZ⟩:∃ Z,Z=v1.heap.size:=⟨_,rfl⟩
      have HZE:=Lib.hid hZ
      have hYZ:X+2 < Z:=by rw [hZ];exact lt_of_block HS1.out.yy
      have HYZ:=Lib.hid hYZ
      have HZr:Hid (Z ≠ X+1):=Lib.hid (by omega)
      have hB:=lit_below v1 (.cells #[.string (bA nm),.int .i64 0,.int .i64 0,.int .i64 0] 66)
      have HS2:=Lib.hid (HS1.out.next hB)
      have HZ:Hid (RB (v1.alloc (.cells #[.string (bA nm),.int .i64 0,.int .i64 0,.int .i64 0] 66)) Z (syA ⟨nm,0,0,0⟩) 66):=Lib.hid (by rw [hZ];exact rb_new _ _ _)
      have HG1:Hid ((Value.slice a L.length c).ownBlock ≠ some Z):=Lib.hid (fun e=>by have:=(HS1.out.os.lt Z e).2;omega)
      have HG2:Hid ((Value.slice a2 l.length c2).ownBlock ≠ some Z):=Lib.hid (fun e=>by have:=(HS1.out.oy.lt Z e).2;omega)
      have HG3:Hid (∀ mm ∈ L,(Value.slice mm.ad mm.sc.rels.length mm.cap).ownBlock ≠ some Z):=Lib.hid (fun mm hmm e=>by have:=(World.ownsRow.lt (HS1.out.on mm hmm) Z e).2;omega)
      clear hB hZ hYZ HS1 HS
      go_wp2_with fail
      try rw [<-HZE.out]
      generalize v1.alloc (.cells #[.string (bA nm),.int .i64 0,.int .i64 0,.int .i64 0] 66)=V1 at HS2 HZ ⊢
      refine (K2.out _ _ HS2.out.rr).mono ?_
      rintro e v2 ⟨rfl,hr,hk⟩
      replace HS2:=Lib.hid (HS2.out.call hr hk)
      replace HZ:=Lib.hid (HZ.out.kept hk HZr.out)
      clear hr hk
      have f2:v2.frozen? ⟨Z,1,none⟩=false:=HZ.out.frozen
      have g2:v2.cell? ⟨Z,1,none⟩=some (.int .i64 0):=HZ.out.cell
      have HZ':Hid (RB (v2.setCell ⟨Z,1,none⟩ (.int .i64 (x:Int))) Z (syA ⟨nm,x,0,0⟩) 66):=Lib.hid (HZ.out.set (j:=1) _)
      have HS':Hid (OZ w (v2.setCell ⟨Z,1,none⟩ (.int .i64 (x:Int))) X p2 L a c l a2 c2):=Lib.hid (HS2.out.other 1 _ HYZ.out HG1.out HG2.out HG3.out)
      clear HS2 HZ
      have HS2:=HS'
      have HZ:=HZ'
      clear HS' HZ'
      go_wp2_with fail
      refine (K3.out _ _ HS2.out.rr).mono ?_
      rintro e v3 ⟨rfl,hr,hk⟩
      replace HS2:=Lib.hid (HS2.out.call hr hk)
      replace HZ:=Lib.hid (HZ.out.kept hk HZr.out)
      clear hr hk
      have f3:v3.frozen? ⟨Z,2,none⟩=false:=HZ.out.frozen
      have g3:v3.cell? ⟨Z,2,none⟩=some (.int .i64 0):=HZ.out.cell
      have HZ':Hid (RB (v3.setCell ⟨Z,2,none⟩ (.int .i64 ((y:Int) - 1))) Z (syA ⟨nm,x,(y:Int) - 1,0⟩) 66):=Lib.hid (HZ.out.set (j:=2) _)
      have HS':Hid (OZ w (v3.setCell ⟨Z,2,none⟩ (.int .i64 ((y:Int) - 1))) X p3 L a c l a2 c2):=Lib.hid (HS2.out.other 2 _ HYZ.out HG1.out HG2.out HG3.out)
      clear HS2 HZ
      have HS2:=HS'
      have HZ:=HZ'
      clear HS' HZ'
      go_wp2_with fail
      refine (K4.out _ _ HS2.out.rr).mono ?_
      rintro e v4 ⟨rfl,hr,hk⟩
      replace HS2:=Lib.hid (HS2.out.call hr hk)
      replace HZ:=Lib.hid (HZ.out.kept hk HZr.out)
      clear hr hk
      have f4:v4.frozen? ⟨Z,3,none⟩=false:=HZ.out.frozen
      have g4:v4.cell? ⟨Z,3,none⟩=some (.int .i64 0):=HZ.out.cell
      have HZ':Hid (RB (v4.setCell ⟨Z,3,none⟩ (.int .i64 (z:Int))) Z (syA ⟨nm,x,(y:Int) - 1,z⟩) 66):=Lib.hid (HZ.out.set (j:=3) _)
      have HS':Hid (OZ w (v4.setCell ⟨Z,3,none⟩ (.int .i64 (z:Int))) X p4 L a c l a2 c2):=Lib.hid (HS2.out.other 3 _ HYZ.out HG1.out HG2.out HG3.out)
      clear HS2 HZ
      have HS2:=HS'
      have HZ:=HZ'
      clear HS' HZ'
      have hVs:(v4.setCell ⟨Z,3,none⟩ (.int .i64 (z:Int))).heap.size=v4.heap.size:=by simp [World.setCell]
      have HVs:=Lib.hid hVs
      have hYQ:X+2 < v4.heap.size:=by rw [<-hVs];exact lt_of_block HS2.out.yy
      have HYQ:=Lib.hid hYQ
      have y5:(v4.setCell ⟨Z,3,none⟩ (.int .i64 (z:Int))).cell? ⟨X+2,1,none⟩=some (.slice a2 l.length c2):=HS2.out.cells 1 _ rfl
      have t0:(v4.setCell ⟨Z,3,none⟩ (.int .i64 (z:Int))).cell? ⟨Z,0,none⟩=some (.string (bA nm)):=HZ.out.cell
      have t1:(v4.setCell ⟨Z,3,none⟩ (.int .i64 (z:Int))).cell? ⟨Z,1,none⟩=some (.int .i64 (x:Int)):=HZ.out.cell
      have t2:(v4.setCell ⟨Z,3,none⟩ (.int .i64 (z:Int))).cell? ⟨Z,2,none⟩=some (.int .i64 ((y:Int) - 1)):=HZ.out.cell
      have t3:(v4.setCell ⟨Z,3,none⟩ (.int .i64 (z:Int))).cell? ⟨Z,3,none⟩=some (.int .i64 (z:Int)):=HZ.out.cell
      have hno:Hid ((Value.slice a2 l.length c2).ownBlock ≠ some (X+2)):=Lib.hid (fun e=>by have:=(HS2.out.oy.lt (X+2) e).1;omega)
      have y6:((v4.setCell ⟨Z,3,none⟩ (.int .i64 (z:Int))).alloc (.cells (syA ⟨nm,x,(y:Int) - 1,z⟩) 66)).cell? ⟨X+2,1,none⟩=some (.slice a2 l.length c2):=(World.cell?_alloc_past (w:=(v4.setCell ⟨Z,3,none⟩ (.int .i64 (z:Int)))) _ _ _ (by show X+2 < _;omega)).trans y5
      have y7:((v4.setCell ⟨Z,3,none⟩ (.int .i64 (z:Int))).alloc (.cells (syA ⟨nm,x,(y:Int) - 1,z⟩) 66)).frozen? ⟨X+2,1,none⟩=false:=(World.frozen?_alloc_past (w:=(v4.setCell ⟨Z,3,none⟩ (.int .i64 (z:Int)))) _ _ _ (by show X+2 < _;omega)).trans (HS2.out.free 1)
      have HNw:Hid (((v4.setCell ⟨Z,3,none⟩ (.int .i64 (z:Int))).alloc (.cells (syA ⟨nm,x,(y:Int) - 1,z⟩) 66)).heap[v4.heap.size]?=some (.cells (syA ⟨nm,x,(y:Int) - 1,z⟩) 66 (0,0))):=Lib.hid (by rw [<-hVs];exact heap_alloc_new _ _)
      clear hYQ hVs
      go_wp2_with (at_builtin;refine wpList_append_lies _ rfl _ _ 23 rfl (X+3) 66 i0 (.agg #[.string ByteArray.empty,.int .i64 0,.int .i64 0,.int .i64 0]) 4 40 Tryz.underlying23 hi0 hz0 hz1 hz2 rfl (by decide) (.slice a2 l.length c2) l.length (l.flatMap syC) rfl (HS2.out.oy.alloc _) ⟨v4.heap.size,0,none⟩ 1 1 (syC ⟨nm,x,(y:Int) - 1,z⟩) rfl rfl (World.news_of_block (cs:=syA ⟨nm,x,(y:Int) - 1,z⟩) (t:=66) (fr:=(0,0)) HNw.out) (sy_one _) (by decide) (by have:=HL.out;unfold maxLen;omega) (by have:=HL.out;omega) (by have:=HYQ.out;have:=HVs.out;simp [World.setCell];omega) (v4.heap.size+1) (by simp [World.setCell]) ?_;intro g9 cap w3 hown3 hgrow hat hlt3;have s5:w3.cell? ⟨X+2,1,none⟩=some (.slice a2 l.length c2):=(hgrow.cell_far _ (by have:=HYQ.out;have:=HVs.out;rw [World.size_alloc];show X+2 < _;omega) (Ne.symm hno.out)).trans y6;have s6:w3.frozen? ⟨X+2,1,none⟩=false:=(hgrow.frozen_far _ (by have:=HYQ.out;have:=HVs.out;rw [World.size_alloc];show X+2 < _;omega) (Ne.symm hno.out)).trans y7)
      have H5:Hid (OZ w (w3.setCell ⟨X+2,1,none⟩ (.slice (some ⟨g9,0,none⟩) (l.length+1) cap)) X p4 L a c (l ++ [⟨nm,x,(y:Int) - 1,z⟩]) (some ⟨g9,0,none⟩) cap):=Lib.hid (HS2.out.addSym hown3 hgrow)
      clear hown3 hgrow hat hlt3 s5 s6 t0 t1 t2 t3 y5 y6 y7 HS2 HZ hi0 hz0 hz1 hz2
      go_wp2
      go_roundw
      case rel=>exact ⟨j+1,_,_,_,p4,H5,by have:=HLT.out;omega,by go_num,Lib.hid (by have:=HYS.out;simp;omega),Lib.hid (by have:=HM.out;rw [show m - (j+1)=m' from by omega];exact HP5.out),z4⟩
      case measure=>exact meas_lt HLT.out hw9
     ·have hF:fMany fSym m q3=(l,(Dj,bj)):=HP.out.last (by
       by_cases c1:j < m
       ·right
        cases bj
        ·exact absurd ⟨c1,rfl⟩ hgo
        ·rfl
       ·left;omega)
      rw [HE4.out] at hF
      simp only [Prod.mk.injEq] at hF
      obtain ⟨rfl,rfl⟩:=hF
      have hss:=HSS.out
      subst hss
      have hcs:¬ (j:Int) < (m:Int)\/((j:Int) < (m:Int)/\bj=true):=by
       by_cases c1:j < m
       ·right
        refine ⟨by omega,?_⟩
        cases bj
        ·exact absurd ⟨c1,rfl⟩ hgo
        ·rfl
       ·left;omega
      have HA:Hid (OZ w wr X (Dj,bj) L a c ys a2 c2):=HS
      have y0:wr.cell? ⟨X+2,0,none⟩=some (.slice a L.length c):=HA.out.cells 0 _ rfl
      have y1:wr.cell? ⟨X+2,1,none⟩=some (.slice a2 ys.length c2):=HA.out.cells 1 _ rfl
      have x0:wr.cell? ⟨X,0,none⟩=some (.slice none 0 0):=HA.out.xx.cell
      have x1:wr.cell? ⟨X,1,none⟩=some (.slice none 0 0):=HA.out.xx.cell
      have xf0:wr.frozen? ⟨X,0,none⟩=false:=HA.out.xx.frozen
      have xf1:wr.frozen? ⟨X,1,none⟩=false:=HA.out.xx.frozen
      have b0:wr.cell? ⟨X+1,0,none⟩=some (.string Dj):=HA.out.rr.cell
      have HFN:Hid (RB (oset2 wr X (.slice none 0 0) (.slice none 0 0)) X #[.slice none 0 0,.slice none 0 0] 25/\Below w.heap.size w (oset2 wr X (.slice none 0 0) (.slice none 0 0))):=Lib.hid (by
       have h0:RB (wr.setCell ⟨X,0,none⟩ (.slice none 0 0)) X #[.slice none 0 0,.slice none 0 0] 25:=HA.out.xx.set (j:=0) _
       have hx:=HA.out.ee
       refine ⟨h0.set (j:=1) _,?_⟩
       rw [<-hx]
       exact ((HA.out.kk).setCell (p:=⟨X,0,none⟩) (Nat.le_refl X) _).setCell (p:=⟨X,1,none⟩) (Nat.le_refl X) _)
      clear HP hj HS HYS
      cases hbj:bj
      ·subst hbj
       have hjn:¬ (j:Int) < (m:Int):=by rcases hcs with h | ⟨_,h⟩;exact h;cases h
       by_cases hs:Dj.data.toList=[]
       ·have:=ba_none hs
        subst this
        have hgd:=HGd.out rfl
        have hln:L.length<=1000000:=by have:=hgd.2.2.1;rw [List.length_map] at this;exact this
        have HIs:Hid (∀ u,Below wr.heap.size wr u->Calls Tryz.prog 16 #[.agg #[.slice a L.length c,.slice a2 ys.length c2]] u (RetB (.bool (isO ⟨L.map (·.sc),ys⟩)) u)):=Lib.hid fun u hu=>by
         have hG:=HA.out.go.next hu
         have hml:∀ mm ∈ L,mm.sc ∈ L.map (·.sc):=fun mm hmm=>List.mem_map.2 ⟨mm,hmm,rfl⟩
         exact rOIs_any a L.length c L a2 ys.length c2 ys (by unfold maxLen;omega) (by have:=hgd.2.2.2;unfold maxLen;omega) u hG.secs hG.notes hG.syms (fun mm hmm=>(hgd.1 _ (hml mm hmm)).1) (fun mm hmm=>by have:=(hgd.1 _ (hml mm hmm)).2.2;unfold maxLen;omega) (fun mm hmm=>by have:=(hgd.1 _ (hml mm hmm)).2.1;omega) (fun t ht=>by have:=(hgd.2.1 t ht).2;omega)
        have HY2:Hid (isO ⟨L.map (·.sc),ys⟩=true->gO D=some ⟨L.map (·.sc),ys⟩):=Lib.hid (HYes.out rfl rfl)
        clear hgd hln hgo hcs
        obtain ⟨ib,hib⟩:∃ ib,ib=isO ⟨L.map (·.sc),ys⟩:=⟨_,rfl⟩
        rw [<-hib] at HIs
        have HIB:=Lib.hid hib.symm
        clear hib
        cases ib
        ·go_wp2_with fail
         refine (HIs.out _ (Below.refl _ _)).mono ?_
         rintro e u ⟨rfl,hb⟩
         have HA2:=Lib.hid (HA.out.next hb)
         clear hb y0 y1 x0 x1 xf0 xf1 b0 b1 HFN
         have x0:u.cell? ⟨X,0,none⟩=some (.slice none 0 0):=HA2.out.xx.cell
         have x1:u.cell? ⟨X,1,none⟩=some (.slice none 0 0):=HA2.out.xx.cell
         have xf0:u.frozen? ⟨X,0,none⟩=false:=HA2.out.xx.frozen
         have xf1:u.frozen? ⟨X,1,none⟩=false:=HA2.out.xx.frozen
         have HFN:Hid (RB (oset2 u X (.slice none 0 0) (.slice none 0 0)) X #[.slice none 0 0,.slice none 0 0] 25/\Below w.heap.size w (oset2 u X (.slice none 0 0) (.slice none 0 0))):=Lib.hid (by
          have h0:RB (u.setCell ⟨X,0,none⟩ (.slice none 0 0)) X #[.slice none 0 0,.slice none 0 0] 25:=HA2.out.xx.set (j:=0) _
          have hx:=HA2.out.ee
          refine ⟨h0.set (j:=1) _,?_⟩
          rw [<-hx]
          exact ((HA2.out.kk).setCell (p:=⟨X,0,none⟩) (Nat.le_refl X) _).setCell (p:=⟨X,1,none⟩) (Nat.le_refl X) _)
         go_wp2_with fail
         refine bodyPost_ret (results_cell_two (P:=Tryz.prog) rfl _ _ X 25 _ (0,0) _ (.int .i64 3) rfl HFN.out.1 Tryz.underlying25 rfl (by kernel_rfl) rfl) rfl ?_
         exact getZ_no (HNo.out (.inr (.inr HIB.out))) rfl HFN.out.2
        ·go_wp2_with fail
         refine (HIs.out _ (Below.refl _ _)).mono ?_
         rintro e u ⟨rfl,hb⟩
         have HA2:=Lib.hid (HA.out.next hb)
         clear hb y0 y1 x0 x1 xf0 xf1 b0 b1 HFN
         have y0:u.cell? ⟨X+2,0,none⟩=some (.slice a L.length c):=HA2.out.cells 0 _ rfl
         have y1:u.cell? ⟨X+2,1,none⟩=some (.slice a2 ys.length c2):=HA2.out.cells 1 _ rfl
         have x0:u.cell? ⟨X,0,none⟩=some (.slice none 0 0):=HA2.out.xx.cell
         have x1:u.cell? ⟨X,1,none⟩=some (.slice none 0 0):=HA2.out.xx.cell
         have xf0:u.frozen? ⟨X,0,none⟩=false:=HA2.out.xx.frozen
         have xf1:u.frozen? ⟨X,1,none⟩=false:=HA2.out.xx.frozen
         have HFN:Hid (RB (oset2 u X (.slice a L.length c) (.slice a2 ys.length c2)) X #[.slice a L.length c,.slice a2 ys.length c2] 25/\Below w.heap.size w (oset2 u X (.slice a L.length c) (.slice a2 ys.length c2))/\GO (oset2 u X (.slice a L.length c) (.slice a2 ys.length c2)) w.heap.size L a c ys a2 c2):=Lib.hid (by
          have h0:RB (u.setCell ⟨X,0,none⟩ (.slice a L.length c)) X #[.slice a L.length c,.slice none 0 0] 25:=HA2.out.xx.set (j:=0) _
          have hx:=HA2.out.ee
          refine ⟨h0.set (j:=1) _,?_,?_⟩
          ·rw [<-hx]
           exact ((HA2.out.kk).setCell (p:=⟨X,0,none⟩) (Nat.le_refl X) _).setCell (p:=⟨X,1,none⟩) (Nat.le_refl X) _
          ·exact ((HA2.out.go.kp (KP.step X u 0 _) (by omega)).kp (KP.step X _ 1 _) (by omega)).low (by omega))
         have HYS:=Lib.hid (HY2.out HIB.out)
         go_wp2_with fail
         refine bodyPost_ret (results_cell_two (P:=Tryz.prog) rfl _ _ X 25 _ (0,0) _ (.int .i64 0) rfl HFN.out.1 Tryz.underlying25 rfl (by kernel_rfl) rfl) rfl ?_
         exact getZ_yes HYS.out ⟨L,a,c,a2,c2,rfl,rfl,HFN.out.2.2,HFN.out.2.1⟩
       ·obtain ⟨k1,k2,k3⟩:=ba_ne hs
        have k4:(!(Dj.toList == []))=true:=by rw [k1];rfl
        have HQ:Hid (gO D=none):=Lib.hid (HNo.out (.inr (.inl (fun e=>hs (List.eq_nil_of_length_eq_zero (by rw [ba_len];exact e))))))
        clear hs hgo hcs
        go_wp2_with fail
        refine bodyPost_ret (results_cell_two (P:=Tryz.prog) rfl _ _ X 25 _ (0,0) _ (.int .i64 3) rfl HFN.out.1 Tryz.underlying25 rfl (by kernel_rfl) rfl) rfl ?_
        exact getZ_no HQ.out rfl HFN.out.2
      ·subst hbj
       have HQ:Hid (gO D=none):=Lib.hid (HNo.out (.inl rfl))
       clear hgo
       rcases hcs with hc | ⟨hc,-⟩
       all_goals
        go_wp2_with fail
        refine bodyPost_ret (results_cell_two (P:=Tryz.prog) rfl _ _ X 25 _ (0,0) _ (.int .i64 3) rfl HFN.out.1 Tryz.underlying25 rfl (by kernel_rfl) rfl) rfl ?_
        exact getZ_no HQ.out rfl HFN.out.2
theorem rGet_any (D:ByteArray) (hD:D.size<=6000) (w:World):Calls Tryz.prog 11 #[.string D] w (GetR D w):=by
 by_cases h0:D.data.toList.take 6=[67,76,69,65,84,1]
 ·have e1:fNum (D.extract 6 D.size,false)=((fO1 D).1,(fO1 D).2):=by unfold fO1;exact eta2 _
  have e2:fMany fSec (fO1 D).1 (fO1 D).2=((fO2 D).1,(fO2 D).2):=by unfold fO2;exact eta2 _
  have e3:fNum (fO2 D).2=((fO3 D).1,(fO3 D).2):=by unfold fO3;exact eta2 _
  have e4:fMany fSym (fO3 D).1 (fO3 D).2=((fO4 D).1,(fO4 D).2):=by unfold fO4;exact eta2 _
  exact rGet_main D hD h0 w _ _ _ _ _ _ _ _ e1 e2 e3 e4 gO_no (gO_yes h0) (fun h=>(fOb_only h0 h).2)
 ·exact rGet_take D hD h0 w
end Go.Proofs.YthkolmebokfagaaGreatDoor
