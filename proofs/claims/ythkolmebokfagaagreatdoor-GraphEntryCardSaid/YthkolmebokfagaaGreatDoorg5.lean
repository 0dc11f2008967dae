/- The document's graph: GraphEntry. -/
import Derived.Test.YthkolmebokfagaaGreatDoorg4
set_option maxRecDepth 100000
set_option maxHeartbeats 3000000
set_option linter.unusedVariables false
set_option linter.unusedSimpArgs false
namespace Go.Proofs.YthkolmebokfagaaGreatDoor
open Go.ChangeShapes Go.WideShapes Go.Deep Go.RowKit
theorem there_yes (a:Option Addr) (n c:Nat) (Os:List Ox) (w:World) (hO:OS w w.heap.size a n Os) (k q:Nat) (f:Int) (o:Ox) (ho:Os[k]?=some o) (hq:q < o.L.length):
  Calls Tryz.prog 28 #[.slice a n c,.agg #[.int .i64 (k:Int),.int .i64 (q:Int),.int .i64 f]] w (RetB (.bool true) w):=by
 have hkn:k < Os.length:=(List.getElem?_eq_some_iff.1 ho).1
 have hki:(k:Int) < (n:Int):=by have:=hO.sl.len;omega
 have HB:Hid (Below w.heap.size w (w.alloc (.cells #[.int .i64 (k:Int),.int .i64 (q:Int),.int .i64 f] 46))):=Lib.hid (lit_below _ _)
 have hO1:=hO.next HB.out
 obtain ⟨bb,off,hae,-,hcc⟩:=hO1.sl.cells (by intro e;rw [e] at hkn;simp at hkn)
 subst hae
 obtain ⟨c0,c1⟩:=ox_cells (fun j hj=>hcc k hkn j hj)
 have hok:Os[k]=o:=by have:=ho;rw [List.getElem?_eq_getElem hkn] at this;exact Option.some.inj this
 rw [hok] at c0
 obtain ⟨on,hon⟩:∃ on,on=o.L.length:=⟨_,rfl⟩
 rw [<-hon] at c0 hq
 have hqi:(q:Int) < (on:Int):=by omega
 generalize o.a=oa at*
 generalize o.c=oc at*
 clear hcc hO1 hO c1 hok ho hon hkn hq
 go_enter Tryz.func28,Tryz.ntmps28
 go_wp2
 go_quiet (fail)
 go_wp2
 go_ret
 exact ⟨rfl,below_drewN HB.out _⟩
def FndQ (po ps pf:Int) (b:Bool) (w:World) (e:Ending) (w':World):Prop:=e=.returned (.tuple #[.agg #[.int .i64 po,.int .i64 ps,.int .i64 pf],.bool b])/\Below w.heap.size w w'
theorem ge_none (a:Option Addr) (n c:Nat) (Os:List Ox) (N:ByteArray) (hN:N.size<=maxLen) (w:World) (hO:OS w w.heap.size a n Os) (hT:TabP w) (hf:findO (Os.map obOf) N.data.toList=none):
  Calls Tryz.prog 5 #[.slice a n c,.string N] w (RetB (.bool true) w):=by
 have HBg:=Lib.hid (sBig_any a n c Os w hO)
 have HLk:Hid (∀ u,Below w.heap.size w u->Calls Tryz.prog 29 #[] u (RetB (.bool true) u)):=Lib.hid fun u hu=>linked_is u (hT.next hu)
 have HEn:Hid (∀ u,Below w.heap.size w u->Calls Tryz.prog 27 #[.slice a n c,.string N] u (EntP 0 0 8 u)):=Lib.hid fun u hu=>entry_no a n c Os N hN u (hO.next hu) (hT.next hu) hf
 have HFd:Hid (∀ u,Below w.heap.size w u->Calls Tryz.prog 21 #[.slice a n c,.string N] u (FndQ 0 0 0 false u)):=Lib.hid fun u hu=>by have:=sFind_any a n c Os N hN u (hO.next hu) (hT.next hu);rw [hf] at this;exact this
 clear hO hT hf
 go_enter Tryz.func5,Tryz.ntmps5
 go_wp2_with fail
 refine HBg.out.mono ?_
 rintro e u ⟨r,rfl,hb⟩
 have HB:=Lib.hid hb
 clear hb
 cases r
 rotate_left
 ·go_wp2
  go_ret
  exact ⟨rfl,HB.out⟩
 have hNi:(N.size:Int)<=9223372036854775807:=by unfold maxLen at hN;omega
 by_cases hl:(100:Int) < (N.size:Int)
 ·go_wp2
  go_ret
  exact ⟨rfl,HB.out⟩
 go_wp2_with fail
 refine (HEn.out _ HB.out).mono ?_
 rintro e u1 ⟨rfl,hb⟩
 replace HB:=Lib.hid (after HB.out hb)
 clear hb
 go_wp2_with fail
 refine (HFd.out _ HB.out).mono ?_
 rintro e u2 ⟨rfl,hb⟩
 replace HB:=Lib.hid (after HB.out hb)
 clear hb
 obtain ⟨V,hV⟩:∃ V,V=u2.alloc (.cells #[.int .i64 0,.int .i64 0,.int .i64 0] 46):=⟨_,rfl⟩
 have hb:Below u2.heap.size u2 V:=by rw [hV];exact lit_below _ _
 obtain ⟨X,hX⟩:∃ X,X=u2.heap.size:=⟨_,rfl⟩
 have HX:Hid (RB V X #[.int .i64 0,.int .i64 0,.int .i64 0] 46):=Lib.hid (by rw [hV,hX];exact rb_new _ _ _)
 have HVe:=Lib.hid hV.symm
 have HXe:=Lib.hid hX.symm
 replace HB:=Lib.hid (after HB.out hb)
 clear hb hV hX
 go_wp2_with fail
 rw [HVe.out]
 try rw [HXe.out]
 refine wp_region_held_drew (S:=fun _=>True) (by kernel_rfl) trivial (fun hHeld0=>?_)
 refine rd 0 rfl (fun K hK=>?_)
 go_simp
 go_wp2_with (go_at_call 29;refine (HLk.out _ HB.out.drew).mono ?_;rintro e v1 ⟨rfl,hb1⟩)
 have HB1:=Lib.hid (after HB.out.drew hb1)
 have hSv:True:=trivial
 clear hb1
 refine hK.out _ _ hSv (fun hHeld=>?_)
 clear hK K
 refine tk 1 ?_ rfl hHeld ?_ ?_
 rotate_left 1
 ·intro w hS;go_simp;(try with_reducible rfl)
 (try simp only [Act.put,List.setIfInBounds_toArray,List.set_cons_zero,List.set_cons_succ])
 refine tk 2 ?_ rfl hHeld ?_ ?_
 rotate_left 1
 ·intro w hS;go_simp;(try with_reducible rfl)
 (try simp only [Act.put,List.setIfInBounds_toArray,List.set_cons_zero,List.set_cons_succ])
 refine tk 3 ?_ rfl hHeld ?_ ?_
 rotate_left 1
 ·intro w hS;go_simp;(try with_reducible rfl)
 (try simp only [Act.put,List.setIfInBounds_toArray,List.set_cons_zero,List.set_cons_succ])
 refine tk 4 ?_ rfl hHeld ?_ ?_
 rotate_left 1
 ·intro w hS;go_simp;(try with_reducible rfl)
 (try simp only [Act.put,List.setIfInBounds_toArray,List.set_cons_zero,List.set_cons_succ])
 refine tk 5 ?_ rfl hHeld ?_ ?_
 rotate_left 1
 ·intro w hS;go_simp;(try with_reducible rfl)
 (try simp only [Act.put,List.setIfInBounds_toArray,List.set_cons_zero,List.set_cons_succ])
 refine tk 6 ?_ rfl hHeld ?_ ?_
 rotate_left 1
 ·intro w hS;go_simp;(try with_reducible rfl)
 (try simp only [Act.put,List.setIfInBounds_toArray,List.set_cons_zero,List.set_cons_succ])
 refine tk 7 ?_ rfl hHeld ?_ ?_
 rotate_left 1
 ·intro w hS;go_simp;(try with_reducible rfl)
 (try simp only [Act.put,List.setIfInBounds_toArray,List.set_cons_zero,List.set_cons_succ])
 refine tk 8 ?_ rfl hHeld ?_ ?_
 rotate_left 1
 ·intro w hS;go_simp;(try with_reducible rfl)
 (try simp only [Act.put,List.setIfInBounds_toArray,List.set_cons_zero,List.set_cons_succ])
 refine tk 9 ?_ rfl hHeld ?_ ?_
 rotate_left 1
 ·intro w hS;go_simp;(try with_reducible rfl)
 (try simp only [Act.put,List.setIfInBounds_toArray,List.set_cons_zero,List.set_cons_succ])
 refine tk 10 ?_ rfl hHeld ?_ ?_
 rotate_left 1
 ·intro w hS;go_simp;(try with_reducible rfl)
 (try simp only [Act.put,List.setIfInBounds_toArray,List.set_cons_zero,List.set_cons_succ])
 refine tk 11 ?_ rfl hHeld ?_ ?_
 rotate_left 1
 ·intro w hS;go_simp;(try with_reducible rfl)
 (try simp only [Act.put,List.setIfInBounds_toArray,List.set_cons_zero,List.set_cons_succ])
 refine tk 12 ?_ rfl hHeld ?_ ?_
 rotate_left 1
 ·intro w hS;go_simp;(try with_reducible rfl)
 (try simp only [Act.put,List.setIfInBounds_toArray,List.set_cons_zero,List.set_cons_succ])
 refine tk 13 ?_ rfl hHeld ?_ ?_
 rotate_left 1
 ·intro w hS;go_simp;(try with_reducible rfl)
 (try simp only [Act.put,List.setIfInBounds_toArray,List.set_cons_zero,List.set_cons_succ])
 refine tk 14 ?_ rfl hHeld ?_ ?_
 rotate_left 1
 ·intro w hS;go_simp;(try with_reducible rfl)
 (try simp only [Act.put,List.setIfInBounds_toArray,List.set_cons_zero,List.set_cons_succ])
 refine tk 15 ?_ rfl hHeld ?_ ?_
 rotate_left 1
 ·intro w hS;go_simp;(try with_reducible rfl)
 (try simp only [Act.put,List.setIfInBounds_toArray,List.set_cons_zero,List.set_cons_succ])
 refine tk 16 ?_ rfl hHeld ?_ ?_
 rotate_left 1
 ·intro w hS;go_simp;(try with_reducible rfl)
 (try simp only [Act.put,List.setIfInBounds_toArray,List.set_cons_zero,List.set_cons_succ])
 refine sk 17 rfl hHeld ?_
 refine sk 18 rfl hHeld ?_
 refine sk 19 rfl hHeld ?_
 refine sk 20 rfl hHeld ?_
 refine sk 21 rfl hHeld ?_
 refine sk 22 rfl hHeld ?_
 refine sk 23 rfl hHeld ?_
 refine sk 24 rfl hHeld ?_
 refine sk 25 rfl hHeld ?_
 refine sk 26 rfl hHeld ?_
 refine sk 27 rfl hHeld ?_
 refine sk 28 rfl hHeld ?_
 (try simp only [Act.put,List.setIfInBounds_toArray,List.set_cons_zero,List.set_cons_succ])
 refine tk 29 ?_ rfl hHeld ?_ ?_
 rotate_left 1
 ·intro w hS;go_simp;(try with_reducible rfl)
 (try simp only [Act.put,List.setIfInBounds_toArray,List.set_cons_zero,List.set_cons_succ])
 refine tk 30 ?_ rfl hHeld ?_ ?_
 rotate_left 1
 ·intro w hS;go_simp;(try with_reducible rfl)
 (try simp only [Act.put,List.setIfInBounds_toArray,List.set_cons_zero,List.set_cons_succ])
 refine sk 31 rfl hHeld ?_
 refine sk 32 rfl hHeld ?_
 refine sk 33 rfl hHeld ?_
 refine sk 34 rfl hHeld ?_
 (try simp only [Act.put,List.setIfInBounds_toArray,List.set_cons_zero,List.set_cons_succ])
 refine tk 35 ?_ rfl hHeld ?_ ?_
 rotate_left 1
 ·intro w hS;go_simp;(try with_reducible rfl)
 (try simp only [Act.put,List.setIfInBounds_toArray,List.set_cons_zero,List.set_cons_succ])
 refine rd 36 rfl (fun K hK=>?_)
 go_simp
 refine hK.out _ _ hSv (fun hHeld36=>?_)
 clear hK K hHeld36
 refine rd 37 rfl (fun K hK=>?_)
 go_simp
 refine hK.out _ _ hSv (fun hHeld37=>?_)
 clear hK K hHeld37
 refine wpAnyH_done (by kernel_rfl) ?_ _
 go_wp2
 go_ret
 exact ⟨rfl,HB1.out⟩
theorem ge_bad1 (a:Option Addr) (n c:Nat) (Os:List Ox) (N:ByteArray) (hN:N.size<=maxLen) (w:World) (hO:OS w w.heap.size a n Os) (hT:TabP w) (k q:Nat) (f:Int) (hf:findO (Os.map obOf) N.data.toList=some ⟨(k:Int),(q:Int),f⟩) (o:Ox) (m:Ms) (ho:Os[k]?=some o) (hm:o.L[q]?=some m) (hb1:(m.sc.kind != 1)=true) (h0:0<=f):
  Calls Tryz.prog 5 #[.slice a n c,.string N] w (RetB (.bool true) w):=by
 have HBg:=Lib.hid (sBig_any a n c Os w hO)
 have HLk:Hid (∀ u,Below w.heap.size w u->Calls Tryz.prog 29 #[] u (RetB (.bool true) u)):=Lib.hid fun u hu=>linked_is u (hT.next hu)
 have HEn:Hid (∀ u,Below w.heap.size w u->Calls Tryz.prog 27 #[.slice a n c,.string N] u (EntP 0 0 8 u)):=Lib.hid fun u hu=>entry_bad a n c Os N hN u (hO.next hu) (hT.next hu) k q f hf o m ho hm (.inl hb1) h0
 have HFd:Hid (∀ u,Below w.heap.size w u->Calls Tryz.prog 21 #[.slice a n c,.string N] u (FndQ (k:Int) (q:Int) f true u)):=Lib.hid fun u hu=>by have:=sFind_any a n c Os N hN u (hO.next hu) (hT.next hu);rw [hf] at this;exact this
 have HTh:Hid (∀ u,Below w.heap.size w u->Calls Tryz.prog 28 #[.slice a n c,.agg #[.int .i64 (k:Int),.int .i64 (q:Int),.int .i64 f]] u (RetB (.bool true) u)):=Lib.hid fun u hu=>there_yes a n c Os u (hO.next hu) k q f o ho (List.getElem?_eq_some_iff.1 hm).1
 have HO:=Lib.hid hO
 clear hO hT hf
 go_enter Tryz.func5,Tryz.ntmps5
 go_wp2_with fail
 refine HBg.out.mono ?_
 rintro e u ⟨r,rfl,hb⟩
 have HB:=Lib.hid hb
 clear hb
 cases r
 rotate_left
 ·go_wp2
  go_ret
  exact ⟨rfl,HB.out⟩
 have hNi:(N.size:Int)<=9223372036854775807:=by unfold maxLen at hN;omega
 by_cases hl:(100:Int) < (N.size:Int)
 ·go_wp2
  go_ret
  exact ⟨rfl,HB.out⟩
 go_wp2_with fail
 refine (HEn.out _ HB.out).mono ?_
 rintro e u1 ⟨rfl,hb⟩
 replace HB:=Lib.hid (after HB.out hb)
 clear hb
 go_wp2_with fail
 refine (HFd.out _ HB.out).mono ?_
 rintro e u2 ⟨rfl,hb⟩
 replace HB:=Lib.hid (after HB.out hb)
 clear hb
 obtain ⟨V,hV⟩:∃ V,V=u2.alloc (.cells #[.int .i64 (k:Int),.int .i64 (q:Int),.int .i64 f] 46):=⟨_,rfl⟩
 have hb:Below u2.heap.size u2 V:=by rw [hV];exact lit_below _ _
 obtain ⟨X,hX⟩:∃ X,X=u2.heap.size:=⟨_,rfl⟩
 have HX:Hid (RB V X #[.int .i64 (k:Int),.int .i64 (q:Int),.int .i64 f] 46):=Lib.hid (by rw [hV,hX];exact rb_new _ _ _)
 have HVe:=Lib.hid hV.symm
 have HXe:=Lib.hid hX.symm
 replace HB:=Lib.hid (after HB.out hb)
 clear hb hV hX
 have hkn:k < Os.length:=(List.getElem?_eq_some_iff.1 ho).1
 have hqn:q < o.L.length:=(List.getElem?_eq_some_iff.1 hm).1
 have hki:(k:Int) < (n:Int):=by have:=HO.out.sl.len;omega
 have hO1:=HO.out.next HB.out
 obtain ⟨bb,off,hae,-,hcc⟩:=hO1.sl.cells (by intro e;rw [e] at hkn;simp at hkn)
 subst hae
 obtain ⟨c0,c1⟩:=ox_cells (fun j hj=>hcc k hkn j hj)
 have hok:Os[k]=o:=by have:=ho;rw [List.getElem?_eq_getElem hkn] at this;exact Option.some.inj this
 rw [hok] at c0
 obtain ⟨b2,off2,hae2,-,hc2⟩:=(hO1.s1 o (List.mem_of_getElem? ho)).cells (by intro e;rw [e] at hqn;simp at hqn)
 have hmk:o.L[q]=m:=by have:=hm;rw [List.getElem?_eq_getElem hqn] at this;exact Option.some.inj this
 rw [hae2] at c0
 obtain ⟨on,hon⟩:∃ on,on=o.L.length:=⟨_,rfl⟩
 have hqi:(q:Int) < (on:Int):=by omega
 rw [<-hon] at c0
 generalize o.c=oc at*
 clear hcc hO1 c1 hok hae2 hon
 obtain ⟨d0,d1,d2,d3,d4,d5⟩:=ms_cells (fun j hj=>hc2 q hqn j hj)
 rw [hmk] at d1
 generalize m.sc.kind=kd at*
 have HcS:Hid (∀ v,Below V.heap.size V v->v.cell? ⟨X,0,none⟩=some (.int .i64 (k:Int))/\v.cell? ⟨X,1,none⟩=some (.int .i64 (q:Int))/\v.cell? ⟨X,2,none⟩=some (.int .i64 f)/\v.cell? ⟨bb,off+k*2,none⟩=some (.slice (some ⟨b2,off2,none⟩) on oc)/\v.cell? ⟨b2,off2+q*6+1,none⟩=some (.int .i64 kd)):=Lib.hid fun v hv=>⟨(HX.out.next hv).cell,(HX.out.next hv).cell,(HX.out.next hv).cell,keepc hv c0,keepc hv d1⟩
 clear hc2 hmk c0 d0 d1 d2 d3 d4 d5
 have x0:V.cell? ⟨X,0,none⟩=some (.int .i64 (k:Int)):=HX.out.cell
 have x1:V.cell? ⟨X,1,none⟩=some (.int .i64 (q:Int)):=HX.out.cell
 have x2:V.cell? ⟨X,2,none⟩=some (.int .i64 f):=HX.out.cell
 rw [<-HVe.out,<-HXe.out] at x0 x1 x2
 go_wp2_with fail
 rw [HVe.out]
 try rw [HXe.out]
 refine (HTh.out _ HB.out).mono ?_
 rintro e V2 ⟨rfl,hb2⟩
 replace HB:=Lib.hid (after HB.out hb2)
 replace HX:=Lib.hid (HX.out.next hb2)
 clear x0 x1 x2
 replace HcS:Hid (∀ v,Below V2.heap.size V2 v->_):=Lib.hid fun v hv=>HcS.out v (after hb2 hv)
 clear hb2
 go_wp2_with fail
 refine wp_region_held_drew (S:=fun v=>v.cell? ⟨X,0,none⟩=some (.int .i64 (k:Int))/\v.cell? ⟨X,1,none⟩=some (.int .i64 (q:Int))/\v.cell? ⟨X,2,none⟩=some (.int .i64 f)/\v.cell? ⟨bb,off+k*2,none⟩=some (.slice (some ⟨b2,off2,none⟩) on oc)/\v.cell? ⟨b2,off2+q*6+1,none⟩=some (.int .i64 kd)) (by kernel_rfl) (HcS.out _ (Below.refl _ _).drew) (fun hHeld0=>?_)
 refine rd 0 rfl (fun K hK=>?_)
 go_simp
 go_wp2_with (go_at_call 29;refine (HLk.out _ HB.out.drew).mono ?_;rintro e v1 ⟨rfl,hb1⟩)
 have HB1:=Lib.hid (after HB.out.drew hb1)
 have hSv:=HcS.out _ (after (Below.refl _ _).drew hb1)
 clear hb1
 refine hK.out _ _ hSv (fun hHeld=>?_)
 clear hK K
 refine tk 1 ?_ rfl hHeld ?_ ?_
 rotate_left 1
 ·intro w hS;obtain ⟨_,_,_,_,_⟩:=hS;go_simp;(try with_reducible rfl)
 (try simp only [Act.put,List.setIfInBounds_toArray,List.set_cons_zero,List.set_cons_succ])
 refine tk 2 ?_ rfl hHeld ?_ ?_
 rotate_left 1
 ·intro w hS;obtain ⟨_,_,_,_,_⟩:=hS;go_simp;(try with_reducible rfl)
 (try simp only [Act.put,List.setIfInBounds_toArray,List.set_cons_zero,List.set_cons_succ])
 refine tk 3 ?_ rfl hHeld ?_ ?_
 rotate_left 1
 ·intro w hS;obtain ⟨_,_,_,_,_⟩:=hS;go_simp;(try with_reducible rfl)
 (try simp only [Act.put,List.setIfInBounds_toArray,List.set_cons_zero,List.set_cons_succ])
 refine tk 4 ?_ rfl hHeld ?_ ?_
 rotate_left 1
 ·intro w hS;obtain ⟨_,_,_,_,_⟩:=hS;go_simp;(try with_reducible rfl)
 (try simp only [Act.put,List.setIfInBounds_toArray,List.set_cons_zero,List.set_cons_succ])
 refine tk 5 ?_ rfl hHeld ?_ ?_
 rotate_left 1
 ·intro w hS;obtain ⟨_,_,_,_,_⟩:=hS;go_simp;(try with_reducible rfl)
 (try simp only [Act.put,List.setIfInBounds_toArray,List.set_cons_zero,List.set_cons_succ])
 refine tk 6 ?_ rfl hHeld ?_ ?_
 rotate_left 1
 ·intro w hS;obtain ⟨_,_,_,_,_⟩:=hS;go_simp;(try with_reducible rfl)
 (try simp only [Act.put,List.setIfInBounds_toArray,List.set_cons_zero,List.set_cons_succ])
 refine tk 7 ?_ rfl hHeld ?_ ?_
 rotate_left 1
 ·intro w hS;obtain ⟨_,_,_,_,_⟩:=hS;go_simp;(try with_reducible rfl)
 (try simp only [Act.put,List.setIfInBounds_toArray,List.set_cons_zero,List.set_cons_succ])
 refine tk 8 ?_ rfl hHeld ?_ ?_
 rotate_left 1
 ·intro w hS;obtain ⟨_,_,_,_,_⟩:=hS;go_simp;(try with_reducible rfl)
 (try simp only [Act.put,List.setIfInBounds_toArray,List.set_cons_zero,List.set_cons_succ])
 refine tk 9 ?_ rfl hHeld ?_ ?_
 rotate_left 1
 ·intro w hS;obtain ⟨_,_,_,_,_⟩:=hS;go_simp;(try with_reducible rfl)
 (try simp only [Act.put,List.setIfInBounds_toArray,List.set_cons_zero,List.set_cons_succ])
 refine tk 10 ?_ rfl hHeld ?_ ?_
 rotate_left 1
 ·intro w hS;obtain ⟨_,_,_,_,_⟩:=hS;go_simp;(try with_reducible rfl)
 (try simp only [Act.put,List.setIfInBounds_toArray,List.set_cons_zero,List.set_cons_succ])
 refine tk 11 ?_ rfl hHeld ?_ ?_
 rotate_left 1
 ·intro w hS;obtain ⟨_,_,_,_,_⟩:=hS;go_simp;(try with_reducible rfl)
 (try simp only [Act.put,List.setIfInBounds_toArray,List.set_cons_zero,List.set_cons_succ])
 refine tk 12 ?_ rfl hHeld ?_ ?_
 rotate_left 1
 ·intro w hS;obtain ⟨_,_,_,_,_⟩:=hS;go_simp;(try with_reducible rfl)
 (try simp only [Act.put,List.setIfInBounds_toArray,List.set_cons_zero,List.set_cons_succ])
 refine tk 13 ?_ rfl hHeld ?_ ?_
 rotate_left 1
 ·intro w hS;obtain ⟨_,_,_,_,_⟩:=hS;go_simp;(try with_reducible rfl)
 (try simp only [Act.put,List.setIfInBounds_toArray,List.set_cons_zero,List.set_cons_succ])
 refine tk 14 ?_ rfl hHeld ?_ ?_
 rotate_left 1
 ·intro w hS;obtain ⟨_,_,_,_,_⟩:=hS;go_simp;(try with_reducible rfl)
 (try simp only [Act.put,List.setIfInBounds_toArray,List.set_cons_zero,List.set_cons_succ])
 refine tk 15 ?_ rfl hHeld ?_ ?_
 rotate_left 1
 ·intro w hS;obtain ⟨_,_,_,_,_⟩:=hS;go_simp;(try with_reducible rfl)
 (try simp only [Act.put,List.setIfInBounds_toArray,List.set_cons_zero,List.set_cons_succ])
 refine tk 16 ?_ rfl hHeld ?_ ?_
 rotate_left 1
 ·intro w hS;obtain ⟨_,_,_,_,_⟩:=hS;go_simp;(try with_reducible rfl)
 (try simp only [Act.put,List.setIfInBounds_toArray,List.set_cons_zero,List.set_cons_succ])
 refine tk 17 ?_ rfl hHeld ?_ ?_
 rotate_left 1
 ·intro w hS;obtain ⟨_,_,_,_,_⟩:=hS;go_simp;(try with_reducible rfl)
 (try simp only [Act.put,List.setIfInBounds_toArray,List.set_cons_zero,List.set_cons_succ])
 refine tk 18 ?_ rfl hHeld ?_ ?_
 rotate_left 1
 ·intro w hS;obtain ⟨_,_,_,_,_⟩:=hS;go_simp;(try with_reducible rfl)
 (try simp only [Act.put,List.setIfInBounds_toArray,List.set_cons_zero,List.set_cons_succ])
 refine tk 19 ?_ rfl hHeld ?_ ?_
 rotate_left 1
 ·intro w hS;obtain ⟨_,_,_,_,_⟩:=hS;go_simp;(try with_reducible rfl)
 (try simp only [Act.put,List.setIfInBounds_toArray,List.set_cons_zero,List.set_cons_succ])
 refine tk 20 ?_ rfl hHeld ?_ ?_
 rotate_left 1
 ·intro w hS;obtain ⟨_,_,_,_,_⟩:=hS;go_simp;(try with_reducible rfl)
 (try simp only [Act.put,List.setIfInBounds_toArray,List.set_cons_zero,List.set_cons_succ])
 refine tk 21 ?_ rfl hHeld ?_ ?_
 rotate_left 1
 ·intro w hS;obtain ⟨_,_,_,_,_⟩:=hS;go_simp;(try with_reducible rfl)
 (try simp only [Act.put,List.setIfInBounds_toArray,List.set_cons_zero,List.set_cons_succ])
 refine tk 22 ?_ rfl hHeld ?_ ?_
 rotate_left 1
 ·intro w hS;obtain ⟨_,_,_,_,_⟩:=hS;go_simp;(try with_reducible rfl)
 (try simp only [Act.put,List.setIfInBounds_toArray,List.set_cons_zero,List.set_cons_succ])
 refine tk 23 ?_ rfl hHeld ?_ ?_
 rotate_left 1
 ·intro w hS;obtain ⟨_,_,_,_,_⟩:=hS;go_simp;(try with_reducible rfl)
 (try simp only [Act.put,List.setIfInBounds_toArray,List.set_cons_zero,List.set_cons_succ])
 refine tk 24 ?_ rfl hHeld ?_ ?_
 rotate_left 1
 ·intro w hS;obtain ⟨_,_,_,_,_⟩:=hS;go_simp;(try with_reducible rfl)
 (try simp only [Act.put,List.setIfInBounds_toArray,List.set_cons_zero,List.set_cons_succ])
 refine tk 25 ?_ rfl hHeld ?_ ?_
 rotate_left 1
 ·intro w hS;obtain ⟨_,_,_,_,_⟩:=hS;go_simp;(try with_reducible rfl)
 (try simp only [Act.put,List.setIfInBounds_toArray,List.set_cons_zero,List.set_cons_succ])
 refine tk 26 ?_ rfl hHeld ?_ ?_
 rotate_left 1
 ·intro w hS;obtain ⟨_,_,_,_,_⟩:=hS;go_simp;(try with_reducible rfl)
 (try simp only [Act.put,List.setIfInBounds_toArray,List.set_cons_zero,List.set_cons_succ])
 refine tk 27 ?_ rfl hHeld ?_ ?_
 rotate_left 1
 ·intro w hS;obtain ⟨_,_,_,_,_⟩:=hS;go_simp;(try with_reducible rfl)
 (try simp only [Act.put,List.setIfInBounds_toArray,List.set_cons_zero,List.set_cons_succ])
 refine tk 28 ?_ rfl hHeld ?_ ?_
 rotate_left 1
 ·intro w hS;obtain ⟨_,_,_,_,_⟩:=hS;go_simp;(try with_reducible rfl)
 (try simp only [Act.put,List.setIfInBounds_toArray,List.set_cons_zero,List.set_cons_succ])
 refine tk 29 ?_ rfl hHeld ?_ ?_
 rotate_left 1
 ·intro w hS;obtain ⟨_,_,_,_,_⟩:=hS;go_simp;(try with_reducible rfl)
 (try simp only [Act.put,List.setIfInBounds_toArray,List.set_cons_zero,List.set_cons_succ])
 refine tk 30 ?_ rfl hHeld ?_ ?_
 rotate_left 1
 ·intro w hS;obtain ⟨_,_,_,_,_⟩:=hS;go_simp;(try with_reducible rfl)
 (try simp only [Act.put,List.setIfInBounds_toArray,List.set_cons_zero,List.set_cons_succ])
 refine sk 31 rfl hHeld ?_
 refine sk 32 rfl hHeld ?_
 refine sk 33 rfl hHeld ?_
 refine sk 34 rfl hHeld ?_
 (try simp only [Act.put,List.setIfInBounds_toArray,List.set_cons_zero,List.set_cons_succ])
 refine tk 35 ?_ rfl hHeld ?_ ?_
 rotate_left 1
 ·intro w hS;obtain ⟨_,_,_,_,_⟩:=hS;go_simp;(try with_reducible rfl)
 (try simp only [Act.put,List.setIfInBounds_toArray,List.set_cons_zero,List.set_cons_succ])
 refine rd 36 rfl (fun K hK=>?_)
 go_simp
 refine hK.out _ _ hSv (fun hHeld36=>?_)
 clear hK K hHeld36
 refine rd 37 rfl (fun K hK=>?_)
 go_simp
 refine hK.out _ _ hSv (fun hHeld37=>?_)
 clear hK K hHeld37
 refine wpAnyH_done (by kernel_rfl) ?_ _
 go_wp2
 go_ret
 exact ⟨rfl,HB1.out⟩
theorem ge_bad2 (a:Option Addr) (n c:Nat) (Os:List Ox) (N:ByteArray) (hN:N.size<=maxLen) (w:World) (hO:OS w w.heap.size a n Os) (hT:TabP w) (k q:Nat) (f:Int) (hf:findO (Os.map obOf) N.data.toList=some ⟨(k:Int),(q:Int),f⟩) (o:Ox) (m:Ms) (ho:Os[k]?=some o) (hm:o.L[q]?=some m) (hb1:(m.sc.kind != 1)=false) (hb2:(f % 4 != 0)=true) (h0:0<=f):
  Calls Tryz.prog 5 #[.slice a n c,.string N] w (RetB (.bool true) w):=by
 have htm:(f.tmod 4 != 0)=true:=by rw [Int.tmod_eq_emod_of_nonneg h0];exact hb2
 have HBg:=Lib.hid (sBig_any a n c Os w hO)
 have HLk:Hid (∀ u,Below w.heap.size w u->Calls Tryz.prog 29 #[] u (RetB (.bool true) u)):=Lib.hid fun u hu=>linked_is u (hT.next hu)
 have HEn:Hid (∀ u,Below w.heap.size w u->Calls Tryz.prog 27 #[.slice a n c,.string N] u (EntP 0 0 8 u)):=Lib.hid fun u hu=>entry_bad a n c Os N hN u (hO.next hu) (hT.next hu) k q f hf o m ho hm (.inr ⟨hb1,hb2⟩) h0
 have HFd:Hid (∀ u,Below w.heap.size w u->Calls Tryz.prog 21 #[.slice a n c,.string N] u (FndQ (k:Int) (q:Int) f true u)):=Lib.hid fun u hu=>by have:=sFind_any a n c Os N hN u (hO.next hu) (hT.next hu);rw [hf] at this;exact this
 have HTh:Hid (∀ u,Below w.heap.size w u->Calls Tryz.prog 28 #[.slice a n c,.agg #[.int .i64 (k:Int),.int .i64 (q:Int),.int .i64 f]] u (RetB (.bool true) u)):=Lib.hid fun u hu=>there_yes a n c Os u (hO.next hu) k q f o ho (List.getElem?_eq_some_iff.1 hm).1
 have HO:=Lib.hid hO
 clear hO hT hf
 go_enter Tryz.func5,Tryz.ntmps5
 go_wp2_with fail
 refine HBg.out.mono ?_
 rintro e u ⟨r,rfl,hb⟩
 have HB:=Lib.hid hb
 clear hb
 cases r
 rotate_left
 ·go_wp2
  go_ret
  exact ⟨rfl,HB.out⟩
 have hNi:(N.size:Int)<=9223372036854775807:=by unfold maxLen at hN;omega
 by_cases hl:(100:Int) < (N.size:Int)
 ·go_wp2
  go_ret
  exact ⟨rfl,HB.out⟩
 go_wp2_with fail
 refine (HEn.out _ HB.out).mono ?_
 rintro e u1 ⟨rfl,hb⟩
 replace HB:=Lib.hid (after HB.out hb)
 clear hb
 go_wp2_with fail
 refine (HFd.out _ HB.out).mono ?_
 rintro e u2 ⟨rfl,hb⟩
 replace HB:=Lib.hid (after HB.out hb)
 clear hb
 obtain ⟨V,hV⟩:∃ V,V=u2.alloc (.cells #[.int .i64 (k:Int),.int .i64 (q:Int),.int .i64 f] 46):=⟨_,rfl⟩
 have hb:Below u2.heap.size u2 V:=by rw [hV];exact lit_below _ _
 obtain ⟨X,hX⟩:∃ X,X=u2.heap.size:=⟨_,rfl⟩
 have HX:Hid (RB V X #[.int .i64 (k:Int),.int .i64 (q:Int),.int .i64 f] 46):=Lib.hid (by rw [hV,hX];exact rb_new _ _ _)
 have HVe:=Lib.hid hV.symm
 have HXe:=Lib.hid hX.symm
 replace HB:=Lib.hid (after HB.out hb)
 clear hb hV hX
 have hkn:k < Os.length:=(List.getElem?_eq_some_iff.1 ho).1
 have hqn:q < o.L.length:=(List.getElem?_eq_some_iff.1 hm).1
 have hki:(k:Int) < (n:Int):=by have:=HO.out.sl.len;omega
 have hO1:=HO.out.next HB.out
 obtain ⟨bb,off,hae,-,hcc⟩:=hO1.sl.cells (by intro e;rw [e] at hkn;simp at hkn)
 subst hae
 obtain ⟨c0,c1⟩:=ox_cells (fun j hj=>hcc k hkn j hj)
 have hok:Os[k]=o:=by have:=ho;rw [List.getElem?_eq_getElem hkn] at this;exact Option.some.inj this
 rw [hok] at c0
 obtain ⟨b2,off2,hae2,-,hc2⟩:=(hO1.s1 o (List.mem_of_getElem? ho)).cells (by intro e;rw [e] at hqn;simp at hqn)
 have hmk:o.L[q]=m:=by have:=hm;rw [List.getElem?_eq_getElem hqn] at this;exact Option.some.inj this
 rw [hae2] at c0
 obtain ⟨on,hon⟩:∃ on,on=o.L.length:=⟨_,rfl⟩
 have hqi:(q:Int) < (on:Int):=by omega
 rw [<-hon] at c0
 generalize o.c=oc at*
 clear hcc hO1 c1 hok hae2 hon
 obtain ⟨d0,d1,d2,d3,d4,d5⟩:=ms_cells (fun j hj=>hc2 q hqn j hj)
 rw [hmk] at d1
 generalize m.sc.kind=kd at*
 have HcS:Hid (∀ v,Below V.heap.size V v->v.cell? ⟨X,0,none⟩=some (.int .i64 (k:Int))/\v.cell? ⟨X,1,none⟩=some (.int .i64 (q:Int))/\v.cell? ⟨X,2,none⟩=some (.int .i64 f)/\v.cell? ⟨bb,off+k*2,none⟩=some (.slice (some ⟨b2,off2,none⟩) on oc)/\v.cell? ⟨b2,off2+q*6+1,none⟩=some (.int .i64 kd)):=Lib.hid fun v hv=>⟨(HX.out.next hv).cell,(HX.out.next hv).cell,(HX.out.next hv).cell,keepc hv c0,keepc hv d1⟩
 clear hc2 hmk c0 d0 d1 d2 d3 d4 d5
 have x0:V.cell? ⟨X,0,none⟩=some (.int .i64 (k:Int)):=HX.out.cell
 have x1:V.cell? ⟨X,1,none⟩=some (.int .i64 (q:Int)):=HX.out.cell
 have x2:V.cell? ⟨X,2,none⟩=some (.int .i64 f):=HX.out.cell
 rw [<-HVe.out,<-HXe.out] at x0 x1 x2
 go_wp2_with fail
 rw [HVe.out]
 try rw [HXe.out]
 refine (HTh.out _ HB.out).mono ?_
 rintro e V2 ⟨rfl,hb2⟩
 replace HB:=Lib.hid (after HB.out hb2)
 replace HX:=Lib.hid (HX.out.next hb2)
 clear x0 x1 x2
 replace HcS:Hid (∀ v,Below V2.heap.size V2 v->_):=Lib.hid fun v hv=>HcS.out v (after hb2 hv)
 clear hb2
 go_wp2_with fail
 refine wp_region_held_drew (S:=fun v=>v.cell? ⟨X,0,none⟩=some (.int .i64 (k:Int))/\v.cell? ⟨X,1,none⟩=some (.int .i64 (q:Int))/\v.cell? ⟨X,2,none⟩=some (.int .i64 f)/\v.cell? ⟨bb,off+k*2,none⟩=some (.slice (some ⟨b2,off2,none⟩) on oc)/\v.cell? ⟨b2,off2+q*6+1,none⟩=some (.int .i64 kd)) (by kernel_rfl) (HcS.out _ (Below.refl _ _).drew) (fun hHeld0=>?_)
 refine rd 0 rfl (fun K hK=>?_)
 go_simp
 go_wp2_with (go_at_call 29;refine (HLk.out _ HB.out.drew).mono ?_;rintro e v1 ⟨rfl,hb1⟩)
 have HB1:=Lib.hid (after HB.out.drew hb1)
 have hSv:=HcS.out _ (after (Below.refl _ _).drew hb1)
 clear hb1
 refine hK.out _ _ hSv (fun hHeld=>?_)
 clear hK K
 refine tk 1 ?_ rfl hHeld ?_ ?_
 rotate_left 1
 ·intro w hS;obtain ⟨_,_,_,_,_⟩:=hS;go_simp;(try with_reducible rfl)
 (try simp only [Act.put,List.setIfInBounds_toArray,List.set_cons_zero,List.set_cons_succ])
 refine tk 2 ?_ rfl hHeld ?_ ?_
 rotate_left 1
 ·intro w hS;obtain ⟨_,_,_,_,_⟩:=hS;go_simp;(try with_reducible rfl)
 (try simp only [Act.put,List.setIfInBounds_toArray,List.set_cons_zero,List.set_cons_succ])
 refine tk 3 ?_ rfl hHeld ?_ ?_
 rotate_left 1
 ·intro w hS;obtain ⟨_,_,_,_,_⟩:=hS;go_simp;(try with_reducible rfl)
 (try simp only [Act.put,List.setIfInBounds_toArray,List.set_cons_zero,List.set_cons_succ])
 refine tk 4 ?_ rfl hHeld ?_ ?_
 rotate_left 1
 ·intro w hS;obtain ⟨_,_,_,_,_⟩:=hS;go_simp;(try with_reducible rfl)
 (try simp only [Act.put,List.setIfInBounds_toArray,List.set_cons_zero,List.set_cons_succ])
 refine tk 5 ?_ rfl hHeld ?_ ?_
 rotate_left 1
 ·intro w hS;obtain ⟨_,_,_,_,_⟩:=hS;go_simp;(try with_reducible rfl)
 (try simp only [Act.put,List.setIfInBounds_toArray,List.set_cons_zero,List.set_cons_succ])
 refine tk 6 ?_ rfl hHeld ?_ ?_
 rotate_left 1
 ·intro w hS;obtain ⟨_,_,_,_,_⟩:=hS;go_simp;(try with_reducible rfl)
 (try simp only [Act.put,List.setIfInBounds_toArray,List.set_cons_zero,List.set_cons_succ])
 refine tk 7 ?_ rfl hHeld ?_ ?_
 rotate_left 1
 ·intro w hS;obtain ⟨_,_,_,_,_⟩:=hS;go_simp;(try with_reducible rfl)
 (try simp only [Act.put,List.setIfInBounds_toArray,List.set_cons_zero,List.set_cons_succ])
 refine tk 8 ?_ rfl hHeld ?_ ?_
 rotate_left 1
 ·intro w hS;obtain ⟨_,_,_,_,_⟩:=hS;go_simp;(try with_reducible rfl)
 (try simp only [Act.put,List.setIfInBounds_toArray,List.set_cons_zero,List.set_cons_succ])
 refine tk 9 ?_ rfl hHeld ?_ ?_
 rotate_left 1
 ·intro w hS;obtain ⟨_,_,_,_,_⟩:=hS;go_simp;(try with_reducible rfl)
 (try simp only [Act.put,List.setIfInBounds_toArray,List.set_cons_zero,List.set_cons_succ])
 refine tk 10 ?_ rfl hHeld ?_ ?_
 rotate_left 1
 ·intro w hS;obtain ⟨_,_,_,_,_⟩:=hS;go_simp;(try with_reducible rfl)
 (try simp only [Act.put,List.setIfInBounds_toArray,List.set_cons_zero,List.set_cons_succ])
 refine tk 11 ?_ rfl hHeld ?_ ?_
 rotate_left 1
 ·intro w hS;obtain ⟨_,_,_,_,_⟩:=hS;go_simp;(try with_reducible rfl)
 (try simp only [Act.put,List.setIfInBounds_toArray,List.set_cons_zero,List.set_cons_succ])
 refine tk 12 ?_ rfl hHeld ?_ ?_
 rotate_left 1
 ·intro w hS;obtain ⟨_,_,_,_,_⟩:=hS;go_simp;(try with_reducible rfl)
 (try simp only [Act.put,List.setIfInBounds_toArray,List.set_cons_zero,List.set_cons_succ])
 refine tk 13 ?_ rfl hHeld ?_ ?_
 rotate_left 1
 ·intro w hS;obtain ⟨_,_,_,_,_⟩:=hS;go_simp;(try with_reducible rfl)
 (try simp only [Act.put,List.setIfInBounds_toArray,List.set_cons_zero,List.set_cons_succ])
 refine tk 14 ?_ rfl hHeld ?_ ?_
 rotate_left 1
 ·intro w hS;obtain ⟨_,_,_,_,_⟩:=hS;go_simp;(try with_reducible rfl)
 (try simp only [Act.put,List.setIfInBounds_toArray,List.set_cons_zero,List.set_cons_succ])
 refine tk 15 ?_ rfl hHeld ?_ ?_
 rotate_left 1
 ·intro w hS;obtain ⟨_,_,_,_,_⟩:=hS;go_simp;(try with_reducible rfl)
 (try simp only [Act.put,List.setIfInBounds_toArray,List.set_cons_zero,List.set_cons_succ])
 refine tk 16 ?_ rfl hHeld ?_ ?_
 rotate_left 1
 ·intro w hS;obtain ⟨_,_,_,_,_⟩:=hS;go_simp;(try with_reducible rfl)
 (try simp only [Act.put,List.setIfInBounds_toArray,List.set_cons_zero,List.set_cons_succ])
 refine tk 17 ?_ rfl hHeld ?_ ?_
 rotate_left 1
 ·intro w hS;obtain ⟨_,_,_,_,_⟩:=hS;go_simp;(try with_reducible rfl)
 (try simp only [Act.put,List.setIfInBounds_toArray,List.set_cons_zero,List.set_cons_succ])
 refine tk 18 ?_ rfl hHeld ?_ ?_
 rotate_left 1
 ·intro w hS;obtain ⟨_,_,_,_,_⟩:=hS;go_simp;(try with_reducible rfl)
 (try simp only [Act.put,List.setIfInBounds_toArray,List.set_cons_zero,List.set_cons_succ])
 refine tk 19 ?_ rfl hHeld ?_ ?_
 rotate_left 1
 ·intro w hS;obtain ⟨_,_,_,_,_⟩:=hS;go_simp;(try with_reducible rfl)
 (try simp only [Act.put,List.setIfInBounds_toArray,List.set_cons_zero,List.set_cons_succ])
 refine tk 20 ?_ rfl hHeld ?_ ?_
 rotate_left 1
 ·intro w hS;obtain ⟨_,_,_,_,_⟩:=hS;go_simp;(try with_reducible rfl)
 (try simp only [Act.put,List.setIfInBounds_toArray,List.set_cons_zero,List.set_cons_succ])
 refine tk 21 ?_ rfl hHeld ?_ ?_
 rotate_left 1
 ·intro w hS;obtain ⟨_,_,_,_,_⟩:=hS;go_simp;(try with_reducible rfl)
 (try simp only [Act.put,List.setIfInBounds_toArray,List.set_cons_zero,List.set_cons_succ])
 refine tk 22 ?_ rfl hHeld ?_ ?_
 rotate_left 1
 ·intro w hS;obtain ⟨_,_,_,_,_⟩:=hS;go_simp;(try with_reducible rfl)
 (try simp only [Act.put,List.setIfInBounds_toArray,List.set_cons_zero,List.set_cons_succ])
 refine tk 23 ?_ rfl hHeld ?_ ?_
 rotate_left 1
 ·intro w hS;obtain ⟨_,_,_,_,_⟩:=hS;go_simp;(try with_reducible rfl)
 (try simp only [Act.put,List.setIfInBounds_toArray,List.set_cons_zero,List.set_cons_succ])
 refine tk 24 ?_ rfl hHeld ?_ ?_
 rotate_left 1
 ·intro w hS;obtain ⟨_,_,_,_,_⟩:=hS;go_simp;(try with_reducible rfl)
 (try simp only [Act.put,List.setIfInBounds_toArray,List.set_cons_zero,List.set_cons_succ])
 refine tk 25 ?_ rfl hHeld ?_ ?_
 rotate_left 1
 ·intro w hS;obtain ⟨_,_,_,_,_⟩:=hS;go_simp;(try with_reducible rfl)
 (try simp only [Act.put,List.setIfInBounds_toArray,List.set_cons_zero,List.set_cons_succ])
 refine tk 26 ?_ rfl hHeld ?_ ?_
 rotate_left 1
 ·intro w hS;obtain ⟨_,_,_,_,_⟩:=hS;go_simp;(try with_reducible rfl)
 (try simp only [Act.put,List.setIfInBounds_toArray,List.set_cons_zero,List.set_cons_succ])
 refine tk 27 ?_ rfl hHeld ?_ ?_
 rotate_left 1
 ·intro w hS;obtain ⟨_,_,_,_,_⟩:=hS;go_simp;(try with_reducible rfl)
 (try simp only [Act.put,List.setIfInBounds_toArray,List.set_cons_zero,List.set_cons_succ])
 refine tk 28 ?_ rfl hHeld ?_ ?_
 rotate_left 1
 ·intro w hS;obtain ⟨_,_,_,_,_⟩:=hS;go_simp;(try with_reducible rfl)
 (try simp only [Act.put,List.setIfInBounds_toArray,List.set_cons_zero,List.set_cons_succ])
 refine tk 29 ?_ rfl hHeld ?_ ?_
 rotate_left 1
 ·intro w hS;obtain ⟨_,_,_,_,_⟩:=hS;go_simp;(try with_reducible rfl)
 (try simp only [Act.put,List.setIfInBounds_toArray,List.set_cons_zero,List.set_cons_succ])
 refine tk 30 ?_ rfl hHeld ?_ ?_
 rotate_left 1
 ·intro w hS;obtain ⟨_,_,_,_,_⟩:=hS;go_simp;(try with_reducible rfl)
 (try simp only [Act.put,List.setIfInBounds_toArray,List.set_cons_zero,List.set_cons_succ])
 refine tk 31 ?_ rfl hHeld ?_ ?_
 rotate_left 1
 ·intro w hS;obtain ⟨_,_,_,_,_⟩:=hS;go_simp;(try with_reducible rfl)
 (try simp only [Act.put,List.setIfInBounds_toArray,List.set_cons_zero,List.set_cons_succ])
 refine tk 32 ?_ rfl hHeld ?_ ?_
 rotate_left 1
 ·intro w hS;obtain ⟨_,_,_,_,_⟩:=hS;go_simp;(try with_reducible rfl)
 (try simp only [Act.put,List.setIfInBounds_toArray,List.set_cons_zero,List.set_cons_succ])
 refine tk 33 ?_ rfl hHeld ?_ ?_
 rotate_left 1
 ·intro w hS;obtain ⟨_,_,_,_,_⟩:=hS;go_simp;(try with_reducible rfl)
 (try simp only [Act.put,List.setIfInBounds_toArray,List.set_cons_zero,List.set_cons_succ])
 refine tk 34 ?_ rfl hHeld ?_ ?_
 rotate_left 1
 ·intro w hS;obtain ⟨_,_,_,_,_⟩:=hS;go_simp;(try with_reducible rfl)
 (try simp only [Act.put,List.setIfInBounds_toArray,List.set_cons_zero,List.set_cons_succ])
 refine tk 35 ?_ rfl hHeld ?_ ?_
 rotate_left 1
 ·intro w hS;obtain ⟨_,_,_,_,_⟩:=hS;go_simp;(try with_reducible rfl)
 (try simp only [Act.put,List.setIfInBounds_toArray,List.set_cons_zero,List.set_cons_succ])
 refine rd 36 rfl (fun K hK=>?_)
 go_simp
 refine hK.out _ _ hSv (fun hHeld36=>?_)
 clear hK K hHeld36
 refine rd 37 rfl (fun K hK=>?_)
 go_simp
 refine hK.out _ _ hSv (fun hHeld37=>?_)
 clear hK K hHeld37
 refine wpAnyH_done (by kernel_rfl) ?_ _
 go_wp2
 go_ret
 exact ⟨by first | rfl | exact congrArg (fun z=>Ending.returned (Value.bool z)) htm,HB1.out⟩
theorem flat_any (a:Option Addr) (n c:Nat) (Os:List Ox) (w:World) (hO:OS w w.heap.size a n Os) (hT:TabP w):Calls Tryz.prog 30 #[.slice a n c] w (FlatP Os w):=by
 by_cases hf:faultL (Os.map obOf)=flZ
 ·exact flat_ok a n c Os w hO hT hf
 ·exact flat_bad a n c Os w hO hT hf
theorem ge_ok (a:Option Addr) (n c:Nat) (Os:List Ox) (N:ByteArray) (hN:N.size<=maxLen) (w:World) (hO:OS w w.heap.size a n Os) (hT:TabP w) (k q:Nat) (f:Int) (hf:findO (Os.map obOf) N.data.toList=some ⟨(k:Int),(q:Int),f⟩) (o:Ox) (m:Ms) (ho:Os[k]?=some o) (hm:o.L[q]?=some m) (hk1:m.sc.kind=1) (hf4:f % 4=0) (h0:0<=f) (hc:checkL (Os.map obOf)=0):
  Calls Tryz.prog 5 #[.slice a n c,.string N] w (RetB (.bool true) w):=by
 have htm:(f.tmod 4 == 0)=true:=by rw [Int.tmod_eq_emod_of_nonneg h0,hf4];rfl
 have hte:(f % 4 == 0)=true:=by rw [hf4];rfl
 have hck:=checkL_zero.1 hc
 have hn8:n<=8:=by have:=hck.1;rw [List.length_map] at this;have:=hO.sl.len;omega
 have hs32:∀ o ∈ Os,o.L.length<=32:=fun o ho=>by have:=(isO_syms (hck.2 (obOf o) (List.mem_map.2 ⟨o,ho,rfl⟩))).2.2;simpa [obOf] using this
 have HBg:=Lib.hid (sBig_any a n c Os w hO)
 have HLk:Hid (∀ u,Below w.heap.size w u->Calls Tryz.prog 29 #[] u (RetB (.bool true) u)):=Lib.hid fun u hu=>linked_is u (hT.next hu)
 have HEn:Hid (∀ u,Below w.heap.size w u->Calls Tryz.prog 27 #[.slice a n c,.string N] u (EntP ((((lensO Os).take k).sum+q:Nat):Int) f 0 u)):=Lib.hid fun u hu=>entry_ok a n c Os N hN u (hO.next hu) (hT.next hu) k q f hf o m ho hm hk1 hf4 h0 hn8 hs32
 have HFl:Hid (∀ u,Below w.heap.size w u->Calls Tryz.prog 30 #[.slice a n c] u (FlatP Os u)):=Lib.hid fun u hu=>flat_any a n c Os u (hO.next hu) (hT.next hu)
 have HAt:Hid (∀ L:List Ms,L.map knM=catKN Os->∃ m',L[((lensO Os).take k).sum+q]?=some m'/\m'.sc.name=m.sc.name/\m'.sc.kind=1):=Lib.hid fun L hL=>by
  have h1:=catKN_get ho hm
  rw [<-hL,List.getElem?_map] at h1
  cases h2:L[((lensO Os).take k).sum+q]? with
  | none=>rw [h2] at h1;cases h1
  | some m'=>
   rw [h2] at h1
   simp only [Option.map_some,Option.some.injEq,knM,Prod.mk.injEq] at h1
   exact ⟨m',rfl,h1.1,h1.2.trans hk1⟩
 obtain ⟨A,hA⟩:∃ A,A=((lensO Os).take k).sum+q:=⟨_,rfl⟩
 rw [<-hA] at HEn HAt
 have HFd:Hid (∀ u,Below w.heap.size w u->Calls Tryz.prog 21 #[.slice a n c,.string N] u (FndQ (k:Int) (q:Int) f true u)):=Lib.hid fun u hu=>by have:=sFind_any a n c Os N hN u (hO.next hu) (hT.next hu);rw [hf] at this;exact this
 have HTh:Hid (∀ u,Below w.heap.size w u->Calls Tryz.prog 28 #[.slice a n c,.agg #[.int .i64 (k:Int),.int .i64 (q:Int),.int .i64 f]] u (RetB (.bool true) u)):=Lib.hid fun u hu=>there_yes a n c Os u (hO.next hu) k q f o ho (List.getElem?_eq_some_iff.1 hm).1
 have HO:=Lib.hid hO
 clear hO hT hf
 clear hA hf4 hck hn8 hs32 hc
 go_enter Tryz.func5,Tryz.ntmps5
 go_wp2_with fail
 refine HBg.out.mono ?_
 rintro e u ⟨r,rfl,hb⟩
 have HB:=Lib.hid hb
 clear hb
 cases r
 rotate_left
 ·go_wp2
  go_ret
  exact ⟨rfl,HB.out⟩
 have hNi:(N.size:Int)<=9223372036854775807:=by unfold maxLen at hN;omega
 by_cases hl:(100:Int) < (N.size:Int)
 ·go_wp2
  go_ret
  exact ⟨rfl,HB.out⟩
 go_wp2_with fail
 refine (HEn.out _ HB.out).mono ?_
 rintro e u1 ⟨rfl,hb⟩
 replace HB:=Lib.hid (after HB.out hb)
 clear hb
 go_wp2_with fail
 refine (HFd.out _ HB.out).mono ?_
 rintro e u2 ⟨rfl,hb⟩
 replace HB:=Lib.hid (after HB.out hb)
 clear hb
 obtain ⟨V,hV⟩:∃ V,V=u2.alloc (.cells #[.int .i64 (k:Int),.int .i64 (q:Int),.int .i64 f] 46):=⟨_,rfl⟩
 have hb:Below u2.heap.size u2 V:=by rw [hV];exact lit_below _ _
 obtain ⟨X,hX⟩:∃ X,X=u2.heap.size:=⟨_,rfl⟩
 have HX:Hid (RB V X #[.int .i64 (k:Int),.int .i64 (q:Int),.int .i64 f] 46):=Lib.hid (by rw [hV,hX];exact rb_new _ _ _)
 have HVe:=Lib.hid hV.symm
 have HXe:=Lib.hid hX.symm
 replace HB:=Lib.hid (after HB.out hb)
 clear hb hV hX
 have hkn:k < Os.length:=(List.getElem?_eq_some_iff.1 ho).1
 have hqn:q < o.L.length:=(List.getElem?_eq_some_iff.1 hm).1
 have hki:(k:Int) < (n:Int):=by have:=HO.out.sl.len;omega
 have hO1:=HO.out.next HB.out
 obtain ⟨bb,off,hae,-,hcc⟩:=hO1.sl.cells (by intro e;rw [e] at hkn;simp at hkn)
 subst hae
 obtain ⟨c0,c1⟩:=ox_cells (fun j hj=>hcc k hkn j hj)
 have hok:Os[k]=o:=by have:=ho;rw [List.getElem?_eq_getElem hkn] at this;exact Option.some.inj this
 rw [hok] at c0
 obtain ⟨b2,off2,hae2,-,hc2⟩:=(hO1.s1 o (List.mem_of_getElem? ho)).cells (by intro e;rw [e] at hqn;simp at hqn)
 have hmk:o.L[q]=m:=by have:=hm;rw [List.getElem?_eq_getElem hqn] at this;exact Option.some.inj this
 rw [hae2] at c0
 obtain ⟨on,hon⟩:∃ on,on=o.L.length:=⟨_,rfl⟩
 have hqi:(q:Int) < (on:Int):=by omega
 rw [<-hon] at c0
 generalize o.c=oc at*
 clear hcc hO1 c1 hok hae2 hon
 obtain ⟨d0,d1,d2,d3,d4,d5⟩:=ms_cells (fun j hj=>hc2 q hqn j hj)
 rw [hmk] at d0
 obtain ⟨M,hM⟩:∃ M:ByteArray,M=⟨m.sc.name.toArray⟩:=⟨_,rfl⟩
 rw [<-hM] at d0
 have HM:=Lib.hid hM
 have hqq:(M.toList == M.toList)=true:=by simp
 have HcS:Hid (∀ v,Below V.heap.size V v->v.cell? ⟨bb,off+k*2,none⟩=some (.slice (some ⟨b2,off2,none⟩) on oc)/\v.cell? ⟨b2,off2+q*6,none⟩=some (.string M)):=Lib.hid fun v hv=>⟨keepc hv c0,keepc hv d0⟩
 clear hc2 hmk c0 d0 d1 d2 d3 d4 d5 hM
 have x0:V.cell? ⟨X,0,none⟩=some (.int .i64 (k:Int)):=HX.out.cell
 have x1:V.cell? ⟨X,1,none⟩=some (.int .i64 (q:Int)):=HX.out.cell
 have x2:V.cell? ⟨X,2,none⟩=some (.int .i64 f):=HX.out.cell
 rw [<-HVe.out,<-HXe.out] at x0 x1 x2
 go_wp2_with fail
 rw [HVe.out]
 try rw [HXe.out]
 refine (HTh.out _ HB.out).mono ?_
 rintro e V2 ⟨rfl,hb2⟩
 replace HB:=Lib.hid (after HB.out hb2)
 replace HX:=Lib.hid (HX.out.next hb2)
 clear x0 x1 x2
 replace HcS:Hid (∀ v,Below V2.heap.size V2 v->_):=Lib.hid fun v hv=>HcS.out v (after hb2 hv)
 clear hb2
 go_wp2_with fail
 refine (HFl.out _ HB.out).mono ?_
 rintro e V3 (⟨cd,x,y,hcd,rfl,hb⟩ | ⟨fa,fc,L,rfl,hsl,hkn2,hb⟩)
 ·have hcb:(cd != 0)=true:=by rw [bne_iff_ne];exact hcd
  have HB3:Hid (Below w.heap.size w (V3.alloc (.cells #[.int .i64 cd,.int .i64 x,.int .i64 y] 42))):=Lib.hid (after (after HB.out hb) (lit_below _ _))
  have x2:(V3.alloc (.cells #[.int .i64 cd,.int .i64 x,.int .i64 y] 42)).cell? ⟨X,2,none⟩=some (.int .i64 f):=((HX.out.next hb).next (lit_below _ _)).cell
  have hff:(f != f)=false:=by simp
  clear hb hcd
  go_wp2_with fail
  refine (HLk.out _ HB3.out).mono ?_
  rintro e V4 ⟨rfl,hb⟩
  have HB4:=Lib.hid (after HB3.out hb)
  clear hb
  go_wp2
  go_ret
  exact ⟨rfl,HB4.out⟩
 ·obtain ⟨V5,hV5⟩:∃ V5,V5=V3.alloc (.cells #[.int .i64 0,.int .i64 0,.int .i64 0] 42):=⟨_,rfl⟩
  have hb5:Below V3.heap.size V3 V5:=by rw [hV5];exact lit_below _ _
  have HB5:=Lib.hid (after (after HB.out hb) hb5)
  have HX5:=Lib.hid ((HX.out.next hb).next hb5)
  obtain ⟨m',hm1,hm2,hm3⟩:=HAt.out L hkn2
  have hAl:A < L.length:=(List.getElem?_eq_some_iff.1 hm1).1
  have hs5:=hsl.next hb5
  obtain ⟨fb,foff,hfe,-,hfc⟩:=hs5.cells (by intro e;rw [e] at hAl;simp at hAl)
  subst hfe
  obtain ⟨g0,g1,g2,g3,g4,g5⟩:=ms_cells (fun j hj=>hfc A hAl j hj)
  have hmk:L[A]=m':=by have:=hm1;rw [List.getElem?_eq_getElem hAl] at this;exact Option.some.inj this
  rw [hmk,hm2,<-HM.out] at g0
  rw [hmk,hm3] at g1
  obtain ⟨fl,hfl⟩:∃ fl,fl=L.length:=⟨_,rfl⟩
  have hAi:(A:Int) < (fl:Int):=by omega
  rw [<-hfl]
  have HcS:Hid (∀ v,Below V5.heap.size V5 v->v.cell? ⟨X,0,none⟩=some (.int .i64 (k:Int))/\v.cell? ⟨X,1,none⟩=some (.int .i64 (q:Int))/\v.cell? ⟨bb,off+k*2,none⟩=some (.slice (some ⟨b2,off2,none⟩) on oc)/\v.cell? ⟨b2,off2+q*6,none⟩=some (.string M)/\v.cell? ⟨fb,foff+A*6,none⟩=some (.string M)/\v.cell? ⟨fb,foff+A*6+1,none⟩=some (.int .i64 1)):=Lib.hid fun v hv=>by
   have h1:=HcS.out v (after (after hb hb5) hv)
   exact ⟨(HX5.out.next hv).cell,(HX5.out.next hv).cell,h1.1,h1.2,keepc hv g0,keepc hv g1⟩
  have x2:V5.cell? ⟨X,2,none⟩=some (.int .i64 f):=HX5.out.cell
  rw [hV5] at x2
  have hff:(f != f)=false:=by simp
  have HVe5:=Lib.hid hV5.symm
  clear hb hb5 hs5 hsl hfc g0 g1 g2 g3 g4 g5 hmk hm1 hm2 hm3 hfl hAl hV5
  go_wp2_with fail
  rw [HVe5.out]
  clear x2
  refine wp_region_held_drew (S:=fun v=>v.cell? ⟨X,0,none⟩=some (.int .i64 (k:Int))/\v.cell? ⟨X,1,none⟩=some (.int .i64 (q:Int))/\v.cell? ⟨bb,off+k*2,none⟩=some (.slice (some ⟨b2,off2,none⟩) on oc)/\v.cell? ⟨b2,off2+q*6,none⟩=some (.string M)/\v.cell? ⟨fb,foff+A*6,none⟩=some (.string M)/\v.cell? ⟨fb,foff+A*6+1,none⟩=some (.int .i64 1)) (by kernel_rfl) (HcS.out _ (Below.refl _ _).drew) (fun hHeld0=>?_)
  refine rd 0 rfl (fun K hK=>?_)
  go_simp
  go_wp2_with (go_at_call 29;refine (HLk.out _ HB5.out.drew).mono ?_;rintro e v1 ⟨rfl,hb1⟩)
  have HB1:=Lib.hid (after HB5.out.drew hb1)
  have hSv:=HcS.out _ (after (Below.refl _ _).drew hb1)
  clear hb1
  refine hK.out _ _ hSv (fun hHeld=>?_)
  clear hK K
  refine tk 1 ?_ rfl hHeld ?_ ?_
  rotate_left 1
  ·intro w hS;obtain ⟨_,_,_,_,_,_⟩:=hS;go_simp;(try with_reducible rfl)
  (try simp only [Act.put,List.setIfInBounds_toArray,List.set_cons_zero,List.set_cons_succ])
  refine tk 2 ?_ rfl hHeld ?_ ?_
  rotate_left 1
  ·intro w hS;obtain ⟨_,_,_,_,_,_⟩:=hS;go_simp;(try with_reducible rfl)
  (try simp only [Act.put,List.setIfInBounds_toArray,List.set_cons_zero,List.set_cons_succ])
  refine tk 3 ?_ rfl hHeld ?_ ?_
  rotate_left 1
  ·intro w hS;obtain ⟨_,_,_,_,_,_⟩:=hS;go_simp;(try with_reducible rfl)
  (try simp only [Act.put,List.setIfInBounds_toArray,List.set_cons_zero,List.set_cons_succ])
  refine tk 4 ?_ rfl hHeld ?_ ?_
  rotate_left 1
  ·intro w hS;obtain ⟨_,_,_,_,_,_⟩:=hS;go_simp;(try with_reducible rfl)
  (try simp only [Act.put,List.setIfInBounds_toArray,List.set_cons_zero,List.set_cons_succ])
  refine tk 5 ?_ rfl hHeld ?_ ?_
  rotate_left 1
  ·intro w hS;obtain ⟨_,_,_,_,_,_⟩:=hS;go_simp;(try with_reducible rfl)
  (try simp only [Act.put,List.setIfInBounds_toArray,List.set_cons_zero,List.set_cons_succ])
  refine tk 6 ?_ rfl hHeld ?_ ?_
  rotate_left 1
  ·intro w hS;obtain ⟨_,_,_,_,_,_⟩:=hS;go_simp;(try with_reducible rfl)
  (try simp only [Act.put,List.setIfInBounds_toArray,List.set_cons_zero,List.set_cons_succ])
  refine tk 7 ?_ rfl hHeld ?_ ?_
  rotate_left 1
  ·intro w hS;obtain ⟨_,_,_,_,_,_⟩:=hS;go_simp;(try with_reducible rfl)
  (try simp only [Act.put,List.setIfInBounds_toArray,List.set_cons_zero,List.set_cons_succ])
  refine tk 8 ?_ rfl hHeld ?_ ?_
  rotate_left 1
  ·intro w hS;obtain ⟨_,_,_,_,_,_⟩:=hS;go_simp;(try with_reducible rfl)
  (try simp only [Act.put,List.setIfInBounds_toArray,List.set_cons_zero,List.set_cons_succ])
  refine tk 9 ?_ rfl hHeld ?_ ?_
  rotate_left 1
  ·intro w hS;obtain ⟨_,_,_,_,_,_⟩:=hS;go_simp;(try with_reducible rfl)
  (try simp only [Act.put,List.setIfInBounds_toArray,List.set_cons_zero,List.set_cons_succ])
  refine tk 10 ?_ rfl hHeld ?_ ?_
  rotate_left 1
  ·intro w hS;obtain ⟨_,_,_,_,_,_⟩:=hS;go_simp;(try with_reducible rfl)
  (try simp only [Act.put,List.setIfInBounds_toArray,List.set_cons_zero,List.set_cons_succ])
  refine tk 11 ?_ rfl hHeld ?_ ?_
  rotate_left 1
  ·intro w hS;obtain ⟨_,_,_,_,_,_⟩:=hS;go_simp;(try with_reducible rfl)
  (try simp only [Act.put,List.setIfInBounds_toArray,List.set_cons_zero,List.set_cons_succ])
  refine tk 12 ?_ rfl hHeld ?_ ?_
  rotate_left 1
  ·intro w hS;obtain ⟨_,_,_,_,_,_⟩:=hS;go_simp;(try with_reducible rfl)
  (try simp only [Act.put,List.setIfInBounds_toArray,List.set_cons_zero,List.set_cons_succ])
  refine tk 13 ?_ rfl hHeld ?_ ?_
  rotate_left 1
  ·intro w hS;obtain ⟨_,_,_,_,_,_⟩:=hS;go_simp;(try with_reducible rfl)
  (try simp only [Act.put,List.setIfInBounds_toArray,List.set_cons_zero,List.set_cons_succ])
  refine tk 14 ?_ rfl hHeld ?_ ?_
  rotate_left 1
  ·intro w hS;obtain ⟨_,_,_,_,_,_⟩:=hS;go_simp;(try with_reducible rfl)
  (try simp only [Act.put,List.setIfInBounds_toArray,List.set_cons_zero,List.set_cons_succ])
  refine tk 15 ?_ rfl hHeld ?_ ?_
  rotate_left 1
  ·intro w hS;obtain ⟨_,_,_,_,_,_⟩:=hS;go_simp;(try with_reducible rfl)
  (try simp only [Act.put,List.setIfInBounds_toArray,List.set_cons_zero,List.set_cons_succ])
  refine tk 16 ?_ rfl hHeld ?_ ?_
  rotate_left 1
  ·intro w hS;obtain ⟨_,_,_,_,_,_⟩:=hS;go_simp;(try with_reducible rfl)
  (try simp only [Act.put,List.setIfInBounds_toArray,List.set_cons_zero,List.set_cons_succ])
  refine tk 17 ?_ rfl hHeld ?_ ?_
  rotate_left 1
  ·intro w hS;obtain ⟨_,_,_,_,_,_⟩:=hS;go_simp;(try with_reducible rfl)
  (try simp only [Act.put,List.setIfInBounds_toArray,List.set_cons_zero,List.set_cons_succ])
  refine tk 18 ?_ rfl hHeld ?_ ?_
  rotate_left 1
  ·intro w hS;obtain ⟨_,_,_,_,_,_⟩:=hS;go_simp;(try with_reducible rfl)
  (try simp only [Act.put,List.setIfInBounds_toArray,List.set_cons_zero,List.set_cons_succ])
  refine tk 19 ?_ rfl hHeld ?_ ?_
  rotate_left 1
  ·intro w hS;obtain ⟨_,_,_,_,_,_⟩:=hS;go_simp;(try with_reducible rfl)
  (try simp only [Act.put,List.setIfInBounds_toArray,List.set_cons_zero,List.set_cons_succ])
  refine tk 20 ?_ rfl hHeld ?_ ?_
  rotate_left 1
  ·intro w hS;obtain ⟨_,_,_,_,_,_⟩:=hS;go_simp;(try with_reducible rfl)
  (try simp only [Act.put,List.setIfInBounds_toArray,List.set_cons_zero,List.set_cons_succ])
  refine tk 21 ?_ rfl hHeld ?_ ?_
  rotate_left 1
  ·intro w hS;obtain ⟨_,_,_,_,_,_⟩:=hS;go_simp;(try with_reducible rfl)
  (try simp only [Act.put,List.setIfInBounds_toArray,List.set_cons_zero,List.set_cons_succ])
  refine tk 22 ?_ rfl hHeld ?_ ?_
  rotate_left 1
  ·intro w hS;obtain ⟨_,_,_,_,_,_⟩:=hS;go_simp;(try with_reducible rfl)
  (try simp only [Act.put,List.setIfInBounds_toArray,List.set_cons_zero,List.set_cons_succ])
  refine tk 23 ?_ rfl hHeld ?_ ?_
  rotate_left 1
  ·intro w hS;obtain ⟨_,_,_,_,_,_⟩:=hS;go_simp;(try with_reducible rfl)
  (try simp only [Act.put,List.setIfInBounds_toArray,List.set_cons_zero,List.set_cons_succ])
  refine tk 24 ?_ rfl hHeld ?_ ?_
  rotate_left 1
  ·intro w hS;obtain ⟨_,_,_,_,_,_⟩:=hS;go_simp;(try with_reducible rfl)
  (try simp only [Act.put,List.setIfInBounds_toArray,List.set_cons_zero,List.set_cons_succ])
  refine tk 25 ?_ rfl hHeld ?_ ?_
  rotate_left 1
  ·intro w hS;obtain ⟨_,_,_,_,_,_⟩:=hS;go_simp;(try with_reducible rfl)
  (try simp only [Act.put,List.setIfInBounds_toArray,List.set_cons_zero,List.set_cons_succ])
  refine tk 26 ?_ rfl hHeld ?_ ?_
  rotate_left 1
  ·intro w hS;obtain ⟨_,_,_,_,_,_⟩:=hS;go_simp;(try with_reducible rfl)
  (try simp only [Act.put,List.setIfInBounds_toArray,List.set_cons_zero,List.set_cons_succ])
  refine tk 27 ?_ rfl hHeld ?_ ?_
  rotate_left 1
  ·intro w hS;obtain ⟨_,_,_,_,_,_⟩:=hS;go_simp;(try with_reducible rfl)
  (try simp only [Act.put,List.setIfInBounds_toArray,List.set_cons_zero,List.set_cons_succ])
  refine tk 28 ?_ rfl hHeld ?_ ?_
  rotate_left 1
  ·intro w hS;obtain ⟨_,_,_,_,_,_⟩:=hS;go_simp;(try with_reducible rfl)
  (try simp only [Act.put,List.setIfInBounds_toArray,List.set_cons_zero,List.set_cons_succ])
  refine tk 29 ?_ rfl hHeld ?_ ?_
  rotate_left 1
  ·intro w hS;obtain ⟨_,_,_,_,_,_⟩:=hS;go_simp;(try with_reducible rfl)
  (try simp only [Act.put,List.setIfInBounds_toArray,List.set_cons_zero,List.set_cons_succ])
  refine tk 30 ?_ rfl hHeld ?_ ?_
  rotate_left 1
  ·intro w hS;obtain ⟨_,_,_,_,_,_⟩:=hS;go_simp;(try with_reducible rfl)
  (try simp only [Act.put,List.setIfInBounds_toArray,List.set_cons_zero,List.set_cons_succ])
  refine tk 31 ?_ rfl hHeld ?_ ?_
  rotate_left 1
  ·intro w hS;obtain ⟨_,_,_,_,_,_⟩:=hS;go_simp;(try with_reducible rfl)
  (try simp only [Act.put,List.setIfInBounds_toArray,List.set_cons_zero,List.set_cons_succ])
  refine tk 32 ?_ rfl hHeld ?_ ?_
  rotate_left 1
  ·intro w hS;obtain ⟨_,_,_,_,_,_⟩:=hS;go_simp;(try with_reducible rfl)
  (try simp only [Act.put,List.setIfInBounds_toArray,List.set_cons_zero,List.set_cons_succ])
  refine tk 33 ?_ rfl hHeld ?_ ?_
  rotate_left 1
  ·intro w hS;obtain ⟨_,_,_,_,_,_⟩:=hS;go_simp;(try with_reducible rfl)
  (try simp only [Act.put,List.setIfInBounds_toArray,List.set_cons_zero,List.set_cons_succ])
  refine tk 34 ?_ rfl hHeld ?_ ?_
  rotate_left 1
  ·intro w hS;obtain ⟨_,_,_,_,_,_⟩:=hS;go_simp;(try with_reducible rfl)
  (try simp only [Act.put,List.setIfInBounds_toArray,List.set_cons_zero,List.set_cons_succ])
  refine tk 35 ?_ rfl hHeld ?_ ?_
  rotate_left 1
  ·intro w hS;obtain ⟨_,_,_,_,_,_⟩:=hS;go_simp;(try with_reducible rfl)
  (try simp only [Act.put,List.setIfInBounds_toArray,List.set_cons_zero,List.set_cons_succ])
  refine tk 36 ?_ rfl hHeld ?_ ?_
  rotate_left 1
  ·intro w hS;obtain ⟨_,_,_,_,_,_⟩:=hS;go_simp;(try with_reducible rfl)
  (try simp only [Act.put,List.setIfInBounds_toArray,List.set_cons_zero,List.set_cons_succ])
  refine tk 37 ?_ rfl hHeld ?_ ?_
  rotate_left 1
  ·intro w hS;obtain ⟨_,_,_,_,_,_⟩:=hS;go_simp;(try with_reducible rfl)
  (try simp only [Act.put,List.setIfInBounds_toArray,List.set_cons_zero,List.set_cons_succ])
  refine tk 38 ?_ rfl hHeld ?_ ?_
  rotate_left 1
  ·intro w hS;obtain ⟨_,_,_,_,_,_⟩:=hS;go_simp;(try with_reducible rfl)
  (try simp only [Act.put,List.setIfInBounds_toArray,List.set_cons_zero,List.set_cons_succ])
  refine tk 39 ?_ rfl hHeld ?_ ?_
  rotate_left 1
  ·intro w hS;obtain ⟨_,_,_,_,_,_⟩:=hS;go_simp;(try with_reducible rfl)
  (try simp only [Act.put,List.setIfInBounds_toArray,List.set_cons_zero,List.set_cons_succ])
  refine tk 40 ?_ rfl hHeld ?_ ?_
  rotate_left 1
  ·intro w hS;obtain ⟨_,_,_,_,_,_⟩:=hS;go_simp;(try with_reducible rfl)
  (try simp only [Act.put,List.setIfInBounds_toArray,List.set_cons_zero,List.set_cons_succ])
  refine tk 41 ?_ rfl hHeld ?_ ?_
  rotate_left 1
  ·intro w hS;obtain ⟨_,_,_,_,_,_⟩:=hS;go_simp;(try with_reducible rfl)
  (try simp only [Act.put,List.setIfInBounds_toArray,List.set_cons_zero,List.set_cons_succ])
  refine rd 42 rfl (fun K hK=>?_)
  go_simp
  refine hK.out _ _ hSv (fun hHeld42=>?_)
  clear hK K hHeld42
  refine rd 43 rfl (fun K hK=>?_)
  go_simp
  refine hK.out _ _ hSv (fun hHeld43=>?_)
  clear hK K hHeld43
  refine wpAnyH_done (by kernel_rfl) ?_ _
  go_wp2
  go_ret
  exact ⟨by first | rfl | exact congrArg (fun z=>Ending.returned (Value.bool z)) htm,HB1.out⟩
theorem GraphEntry_walk (w:World) (a:Option Addr) (n c:Nat) (Os:List Ox) (hO:OS w w.heap.size a n Os) (_h:a=none->n=0/\c=0) (N:ByteArray) (hNr:N.size<=reachBytes) (hT:TabP w):
  Calls Tryz.prog 5 #[.slice a n c,.string N] w (RetB (.bool true) w):=by
 have hN:N.size<=maxLen:=by unfold reachBytes at hNr;unfold maxLen;omega
 cases hf:findO (Os.map obOf) N.data.toList with
 | none=>exact ge_none a n c Os N hN w hO hT hf
 | some p=>
  obtain ⟨hc,k,q,f,ob,s,rfl,h1,h2,h3,-⟩:=find_in hf
  rw [List.getElem?_map] at h1
  cases ho:Os[k]? with
  | none=>rw [ho] at h1;cases h1
  | some o=>
   rw [ho] at h1
   simp only [Option.map_some,Option.some.injEq] at h1
   subst h1
   have h2':(o.L.map (·.sc))[q]?=some s:=h2
   rw [List.getElem?_map] at h2'
   cases hm:o.L[q]? with
   | none=>rw [hm] at h2';cases h2'
   | some m=>
    by_cases hk:m.sc.kind=1
    ·by_cases h4:f % 4=0
     ·exact ge_ok a n c Os N hN w hO hT k q f hf o m ho hm hk h4 h3 hc
     ·exact ge_bad2 a n c Os N hN w hO hT k q f hf o m ho hm (by rw [hk];rfl) (by rw [bne_iff_ne];exact h4) h3
    ·exact ge_bad1 a n c Os N hN w hO hT k q f hf o m ho hm (by rw [bne_iff_ne];exact hk) h3
end Go.Proofs.YthkolmebokfagaaGreatDoor
