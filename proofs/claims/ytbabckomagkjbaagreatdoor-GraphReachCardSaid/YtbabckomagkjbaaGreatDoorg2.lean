/- The reference of graph: are two rows of units the same; one row twice. rows of units of the call's own; units as arguments, whose rows are told; the reference's Own. graph's law: GraphReach. -/
import Derived.Test.YtbabckomagkjbaaGreatDoorqL
import Derived.Test.YtbabckomagkjbaaGreatDoorqI
import Derived.Deep.AppendLies
import Derived.Test.YtbabckomagkjbaaGreatDoorg1
set_option maxRecDepth 100000
set_option maxHeartbeats 4000000
set_option linter.unusedVariables false
set_option linter.unusedSimpArgs false
namespace Go.Proofs.YtbabckomagkjbaaGreatDoor
open Go.ChangeShapes Go.WideShapes Go.Deep Go.RowKit
theorem rlsL_yes (a a':Option Addr) (n c c':Nat) (l l':List Rl) (w:World) (hn:n<=4398046511104) (h:SL rlC 4 w w.heap.size a n l) (h':SL rlC 4 w w.heap.size a' n l'):
  Calls Tryz.prog 75 #[.slice a n c,.slice a' n c'] w (fun e w'=>∃ r:Bool,e=.returned (.bool r)/\(r=true ↔ l=l')/\Below w.heap.size w w'):=by
 have hl:=Lib.hid h.len
 have hl':=Lib.hid h'.len
 go_enter Tryz.func75,Tryz.ntmps75
 go_wp2
 go_loopw [5] (fun i wr=>∃ k:Nat,k<=n/\i=.int .i64 k/\l.take k=l'.take k/\Below w.heap.size w wr) (fun i _=>n - (intOf i).toNat)
 case atStart=>exact ⟨0,by omega,rfl,rfl,Below.refl _ _⟩
 case round=>
  obtain ⟨k,hk,rfl,htk,hb⟩:=hrel
  have HT:=Lib.hid htk
  clear htk
  by_cases hlt:k < n
  ·have hk1:k < l.length:=by have:=hl.out;omega
   have hk2:k < l'.length:=by have:=hl'.out;omega
   obtain ⟨b,off,rfl,hB,hc⟩:=(h.below hb).cells (h.ne hlt)
   obtain ⟨b',off',rfl,hB',hc'⟩:=(h'.below hb).cells (h'.ne hlt)
   obtain ⟨c0,c1,c2,c3⟩:=rl_cells (fun j hj=>hc k hk1 j hj)
   obtain ⟨d0,d1,d2,d3⟩:=rl_cells (fun j hj=>hc' k hk2 j hj)
   obtain ⟨x,hx⟩:∃ x,x=l[k]:=⟨_,rfl⟩
   obtain ⟨y,hy⟩:∃ y,y=l'[k]:=⟨_,rfl⟩
   rw [<-hx] at c0 c1 c2 c3
   rw [<-hy] at d0 d1 d2 d3
   have HX:=Lib.hid hx
   have HY:=Lib.hid hy
   have hnq:=neq_rl x y
   clear hc hc' h h' hx hy
   cases e:sameRl x y
   ·have HE:Hid (x ≠ y):=Lib.hid (fun hh=>by rw [sameRl_iff.2 hh] at e;cases e)
    rw [e] at hnq
    clear e
    go_wp2
    go_quiet (fail)
    go_wp2
    go_ret
    refine ⟨false,rfl,?_,below_drewN hb _⟩
    constructor
    ·intro h;cases h
    ·intro hh
     subst hh
     exact (HE.out (HX.out.trans HY.out.symm)).elim
   ·have HE:Hid (x=y):=Lib.hid (sameRl_iff.1 e)
    rw [e] at hnq
    clear e
    go_wp2
    go_quiet (fail)
    go_wp2
    go_roundw
    case rel=>
     refine ⟨k+1,by omega,by go_num,?_,below_drewN hb _⟩
     rw [List.take_succ_eq_append_getElem hk1,List.take_succ_eq_append_getElem hk2,HT.out,<-HX.out,<-HY.out,HE.out]
    case measure=>simp [intOf];omega
  ·go_wp2
   go_ret
   refine ⟨true,rfl,⟨fun _=>?_,fun _=>rfl⟩,hb⟩
   have:=HT.out
   rwa [List.take_of_length_le (by have:=hl.out;omega),List.take_of_length_le (by have:=hl'.out;omega)] at this
theorem rSameL_is (N B:ByteArray) (k:Int) (kp:Bool) (al:Int) (a a':Option Addr) (n c c':Nat) (l:List Rl) (w:World) (hn:n<=4398046511104) (hs:SL rlC 4 w w.heap.size a n l) (hs':SL rlC 4 w w.heap.size a' n l):Calls Tryz.prog 49 #[.agg #[.string N,.int .i64 k,.bool kp,.int .i64 al,.string B,.slice a n c],.agg #[.string N,.int .i64 k,.bool kp,.int .i64 al,.string B,.slice a' n c']] w (RetB (.bool true) w):=by
 have HC:Hid (∀ u,Below w.heap.size w u->Calls Tryz.prog 75 #[.slice a n c,.slice a' n c'] u (RetB (.bool true) u)):=Lib.hid (fun u hu=>(rlsL_yes a a' n c c' l l u hn (hs.next hu) (hs'.next hu)).mono (fun e w' ⟨r,he,hr,hb⟩=>⟨by rw [he,hr.2 rfl],hb⟩))
 have HW:=Lib.hid (two_rb (w:=w) (A:=#[.string N,.int .i64 k,.bool kp,.int .i64 al,.string B,.slice a n c]) (B:=#[.string N,.int .i64 k,.bool kp,.int .i64 al,.string B,.slice a' n c']) (T:=66) (U:=66))
 obtain ⟨X,hX⟩:∃ X,X=w.heap.size:=⟨_,rfl⟩
 rw [<-hX] at HW
 have HXE:=Lib.hid hX
 clear hs hs' hn
 go_enter Tryz.func49,Tryz.ntmps49
 go_wp2_with fail
 rw [<-hX]
 clear hX
 generalize (w.alloc (.cells #[.string N,.int .i64 k,.bool kp,.int .i64 al,.string B,.slice a n c] 66)).alloc (.cells #[.string N,.int .i64 k,.bool kp,.int .i64 al,.string B,.slice a' n c'] 66)=W at HW ⊢
 have HB4:Hid (Below w.heap.size w W):=Lib.hid (by have:=HW.out.2.2;rw [HXE.out] at this;exact this)
 have x0:W.cell? ⟨X,0,none⟩=some (.string N):=HW.out.1.cell
 have y0:W.cell? ⟨X+1,0,none⟩=some (.string N):=HW.out.2.1.cell
 have x1:W.cell? ⟨X,1,none⟩=some (.int .i64 k):=HW.out.1.cell
 have y1:W.cell? ⟨X+1,1,none⟩=some (.int .i64 k):=HW.out.2.1.cell
 have x2:W.cell? ⟨X,2,none⟩=some (.bool kp):=HW.out.1.cell
 have y2:W.cell? ⟨X+1,2,none⟩=some (.bool kp):=HW.out.2.1.cell
 have x3:W.cell? ⟨X,3,none⟩=some (.int .i64 al):=HW.out.1.cell
 have y3:W.cell? ⟨X+1,3,none⟩=some (.int .i64 al):=HW.out.2.1.cell
 have x4:W.cell? ⟨X,4,none⟩=some (.string B):=HW.out.1.cell
 have y4:W.cell? ⟨X+1,4,none⟩=some (.string B):=HW.out.2.1.cell
 have x5:W.cell? ⟨X,5,none⟩=some (.slice a n c):=HW.out.1.cell
 have y5:W.cell? ⟨X+1,5,none⟩=some (.slice a' n c'):=HW.out.2.1.cell
 go_wp2_with fail
 refine (HC.out _ HB4.out).mono ?_
 rintro e u ⟨rfl,hb⟩
 have HB5:=Lib.hid (after HB4.out hb)
 clear hb x0 x1 x2 x3 x4 x5 y0 y1 y2 y3 y4 y5
 go_wp2
 go_ret
 exact retB_bool rfl HB5.out
theorem rSameU_is (ua va:Option Addr) (un uc vc:Nat) (L M:List Ms) (w:World) (hun:un<=maxLen) (hs:SL msC 6 w w.heap.size ua un L) (hno:Notes w w.heap.size L) (hs':SL msC 6 w w.heap.size va un M) (hno':Notes w w.heap.size M) (hb:∀ m ∈ L,m.sc.rels.length*32<=reachBytes) (he:M.map (·.sc)=L.map (·.sc)):
  Calls Tryz.prog 19 #[.slice ua un uc,.slice va un vc] w (RetB (.bool true) w):=by
 have hni:(un:Int)<=9223372036854775807:=by unfold maxLen at hun;omega
 have t0:((un:Int) != (un:Int))=false:=by simp
 have HS:=Lib.hid (fun u (hu:Below w.heap.size w u)=>hs.next hu)
 have HNo:=Lib.hid (fun u (hu:Below w.heap.size w u)=>hno.next hu)
 have HS':=Lib.hid (fun u (hu:Below w.heap.size w u)=>hs'.next hu)
 have HNo':=Lib.hid (fun u (hu:Below w.heap.size w u)=>hno'.next hu)
 have HLL:=Lib.hid hs.len
 have HML:=Lib.hid hs'.len
 have HBd:=Lib.hid hb
 have HE:=Lib.hid he
 have HB0:Hid (Below w.heap.size w w):=Lib.hid (Below.refl _ w)
 clear hs hno hs' hno' hb he hun
 go_enter Tryz.func19,Tryz.ntmps19
 go_wp2_with fail
 go_loopw [5] (fun i wr=>∃ (k:Nat) (wx:World),wx=wr/\k<=un/\i=.int .i64 k/\Hid (Below w.heap.size w wx)) (fun i _=>un - (intOf i).toNat)
 case atStart=>exact ⟨0,_,rfl,by omega,rfl,HB0⟩
 case round=>
  clear HB0
  obtain ⟨k,wx,rfl,hk,rfl,HB⟩:=hrel
  by_cases hlt:k < un
  ·have hlti:(k:Int) < (un:Int):=by omega
   have HLT:=Lib.hid hlt
   have hk1:k < L.length:=by have:=HLL.out;omega
   have hk2:k < M.length:=by have:=HML.out;omega
   obtain ⟨b1,o1,hua,hBl1,hc⟩:=(HS.out _ HB.out).cells ((HS.out _ HB.out).ne hlt)
   subst hua
   obtain ⟨b2,o2,hva,hBl2,hc'⟩:=(HS'.out _ HB.out).cells ((HS'.out _ HB.out).ne hlt)
   subst hva
   obtain ⟨c0,c1,c2,c3,c4,c5⟩:=ms_cells (fun j hj=>hc k hk1 j hj)
   obtain ⟨d0,d1,d2,d3,d4,d5⟩:=ms_cells (fun j hj=>hc' k hk2 j hj)
   have hsc:(M[k]).sc=(L[k]).sc:=by
    have:=congrArg (fun l=>l[k]?) HE.out
    simp only [List.getElem?_map,List.getElem?_eq_getElem hk1,List.getElem?_eq_getElem hk2,Option.map_some,Option.some.injEq] at this
    exact this
   have hm1:L[k] ∈ L:=List.getElem_mem _
   have hm2:M[k] ∈ M:=List.getElem_mem _
   generalize L[k]'hk1=m at c0 c1 c2 c3 c4 c5 hm1 hsc
   generalize M[k]'hk2=m' at d0 d1 d2 d3 d4 d5 hm2 hsc
   have hrb:=HBd.out _ hm1
   have hn1:=HNo.out _ HB.out _ hm1
   have hn2:=HNo'.out _ HB.out _ hm2
   obtain ⟨⟨nm,ki,kp,al,dt,rl⟩,ad1,cp1⟩:=m
   obtain ⟨sc2,ad2,cp2⟩:=m'
   simp only at hsc
   subst hsc
   simp only at c0 c1 c2 c3 c4 c5 d0 d1 d2 d3 d4 d5 hrb hn1 hn2
   obtain ⟨nr,hnr⟩:∃ nr,nr=rl.length:=⟨_,rfl⟩
   rw [<-hnr] at c5 d5
   obtain ⟨v0,hv0⟩:∃ x,x=wx.drew:=⟨_,rfl⟩
   have hbd:Below wx.heap.size wx v0:=by rw [hv0];exact (Below.refl _ _).drew
   have HcX:Hid (∀ v,Below v0.heap.size v0 v->v.cell? ⟨b1,o1+k*6,none⟩=some (.string ⟨nm.toArray⟩)/\v.cell? ⟨b1,o1+k*6+1,none⟩=some (.int .i64 ki)/\v.cell? ⟨b1,o1+k*6+2,none⟩=some (.bool kp)/\v.cell? ⟨b1,o1+k*6+3,none⟩=some (.int .i64 al)/\v.cell? ⟨b1,o1+k*6+4,none⟩=some (.string ⟨dt.toArray⟩)/\v.cell? ⟨b1,o1+k*6+5,none⟩=some (.slice ad1 nr cp1)/\v.cell? ⟨b2,o2+k*6,none⟩=some (.string ⟨nm.toArray⟩)/\v.cell? ⟨b2,o2+k*6+1,none⟩=some (.int .i64 ki)/\v.cell? ⟨b2,o2+k*6+2,none⟩=some (.bool kp)/\v.cell? ⟨b2,o2+k*6+3,none⟩=some (.int .i64 al)/\v.cell? ⟨b2,o2+k*6+4,none⟩=some (.string ⟨dt.toArray⟩)/\v.cell? ⟨b2,o2+k*6+5,none⟩=some (.slice ad2 nr cp2)):=Lib.hid (fun v hv=>by
    have h:=after hbd hv
    exact ⟨(h.cell (p:=⟨b1,o1+k*6,none⟩) hBl1).trans c0,(h.cell (p:=⟨b1,o1+k*6+1,none⟩) hBl1).trans c1,(h.cell (p:=⟨b1,o1+k*6+2,none⟩) hBl1).trans c2,(h.cell (p:=⟨b1,o1+k*6+3,none⟩) hBl1).trans c3,(h.cell (p:=⟨b1,o1+k*6+4,none⟩) hBl1).trans c4,(h.cell (p:=⟨b1,o1+k*6+5,none⟩) hBl1).trans c5,(h.cell (p:=⟨b2,o2+k*6,none⟩) hBl2).trans d0,(h.cell (p:=⟨b2,o2+k*6+1,none⟩) hBl2).trans d1,(h.cell (p:=⟨b2,o2+k*6+2,none⟩) hBl2).trans d2,(h.cell (p:=⟨b2,o2+k*6+3,none⟩) hBl2).trans d3,(h.cell (p:=⟨b2,o2+k*6+4,none⟩) hBl2).trans d4,(h.cell (p:=⟨b2,o2+k*6+5,none⟩) hBl2).trans d5⟩)
   have HS1:Hid (∀ v,Below v0.heap.size v0 v->Calls Tryz.prog 42 #[.agg #[.string ⟨nm.toArray⟩,.int .i64 ki,.bool kp,.int .i64 al,.string ⟨dt.toArray⟩,.slice ad1 nr cp1]] v (SecQ ⟨nm,ki,kp,al,dt,rl⟩ v)):=Lib.hid (fun v hv=>by rw [hnr];exact rSec_any nm dt ki kp al rl ad1 cp1 v (hn1.next (after hbd hv)) hrb)
   have HS2:Hid (∀ v,Below v0.heap.size v0 v->Calls Tryz.prog 42 #[.agg #[.string ⟨nm.toArray⟩,.int .i64 ki,.bool kp,.int .i64 al,.string ⟨dt.toArray⟩,.slice ad2 nr cp2]] v (SecQ ⟨nm,ki,kp,al,dt,rl⟩ v)):=Lib.hid (fun v hv=>by rw [hnr];exact rSec_any nm dt ki kp al rl ad2 cp2 v (hn2.next (after hbd hv)) hrb)
   have HSame:Hid (∀ (v1 v2:World) (a1:Option Addr) (c1:Nat) (a2:Option Addr) (c2:Nat),v1.ownsRow v0.heap.size 91 4 (.slice a1 rl.length c1) rl.length (rl.flatMap rlC)->v2.ownsRow v1.heap.size 91 4 (.slice a2 rl.length c2) rl.length (rl.flatMap rlC)->Below v1.heap.size v1 v2->Calls Tryz.prog 49 #[scV ⟨nm,ki,kp,al,dt,rl⟩ a1 rl.length c1,scV ⟨nm,ki,kp,al,dt,rl⟩ a2 rl.length c2] v2 (RetB (.bool true) v2)):=Lib.hid (fun v1 v2 a1 c1 a2 c2 h1 h2 hb=>by
    refine rSameL_is ⟨nm.toArray⟩ ⟨dt.toArray⟩ ki kp al a1 a2 rl.length c1 c2 rl v2 (by unfold reachBytes at hrb;omega) ?_ ?_
    ·obtain ⟨a',c',e,h',-⟩:=SL.ofOwns rl_len (by decide) h1
     injection e with e1 e2 e3
     subst e1
     exact h'.next hb
    ·obtain ⟨a',c',e,h',-⟩:=SL.ofOwns rl_len (by decide) h2
     injection e with e1 e2 e3
     subst e1
     exact h')
   have HV0:Hid (wx.drew=v0):=Lib.hid hv0.symm
   have HBd0:=Lib.hid hbd
   clear hc hc' hk1 hk2 hm1 hm2 hrb hn1 hn2 hnr hv0 hbd hlt hk hBl1 hBl2
   go_wp2_with fail
   clear c0 c1 c2 c3 c4 c5 d0 d1 d2 d3 d4 d5
   refine wp_region_held_drew (S:=fun v=>v.cell? ⟨b1,o1+k*6,none⟩=some (.string ⟨nm.toArray⟩)/\v.cell? ⟨b1,o1+k*6+1,none⟩=some (.int .i64 ki)/\v.cell? ⟨b1,o1+k*6+2,none⟩=some (.bool kp)/\v.cell? ⟨b1,o1+k*6+3,none⟩=some (.int .i64 al)/\v.cell? ⟨b1,o1+k*6+4,none⟩=some (.string ⟨dt.toArray⟩)/\v.cell? ⟨b1,o1+k*6+5,none⟩=some (.slice ad1 nr cp1)/\v.cell? ⟨b2,o2+k*6,none⟩=some (.string ⟨nm.toArray⟩)/\v.cell? ⟨b2,o2+k*6+1,none⟩=some (.int .i64 ki)/\v.cell? ⟨b2,o2+k*6+2,none⟩=some (.bool kp)/\v.cell? ⟨b2,o2+k*6+3,none⟩=some (.int .i64 al)/\v.cell? ⟨b2,o2+k*6+4,none⟩=some (.string ⟨dt.toArray⟩)/\v.cell? ⟨b2,o2+k*6+5,none⟩=some (.slice ad2 nr cp2)) (by kernel_rfl) (by rw [HV0.out];exact HcX.out _ (Below.refl _ _)) (fun hHeld=>?_)
   rw [HV0.out]
   have hHeld0:=HcX.out _ (Below.refl _ _)
   clear hHeld
   refine wpAnyH_take (i:=0) (v:=?_) rfl (by kernel_rfl) (by kernel_rfl) (by kernel_rfl) (fun _ _ _ h=>h) (Or.inl ⟨by kernel_rfl,?_⟩) hHeld0 ?_
   rotate_left 1
   ·intro w hSw;(try dsimp only at hSw);obtain ⟨x0,x1,x2,x3,x4,x5,y0,y1,y2,y3,y4,y5⟩:=hSw;go_simp;(try with_reducible rfl)
   (try simp only [Act.put,List.setIfInBounds_toArray,List.set_cons_zero,List.set_cons_succ])
   refine wpAnyH_take (i:=1) (v:=?_) rfl (by kernel_rfl) (by kernel_rfl) (by kernel_rfl) (fun _ _ _ h=>h) (Or.inl ⟨by kernel_rfl,?_⟩) hHeld0 ?_
   rotate_left 1
   ·intro w hSw;(try dsimp only at hSw);obtain ⟨x0,x1,x2,x3,x4,x5,y0,y1,y2,y3,y4,y5⟩:=hSw;go_simp;(try with_reducible rfl)
   (try simp only [Act.put,List.setIfInBounds_toArray,List.set_cons_zero,List.set_cons_succ])
   refine wpAnyH_take (i:=2) (v:=?_) rfl (by kernel_rfl) (by kernel_rfl) (by kernel_rfl) (fun _ _ _ h=>h) (Or.inl ⟨by kernel_rfl,?_⟩) hHeld0 ?_
   rotate_left 1
   ·intro w hSw;(try dsimp only at hSw);obtain ⟨x0,x1,x2,x3,x4,x5,y0,y1,y2,y3,y4,y5⟩:=hSw;go_simp;(try with_reducible rfl)
   (try simp only [Act.put,List.setIfInBounds_toArray,List.set_cons_zero,List.set_cons_succ])
   refine wpAnyH_take (i:=3) (v:=?_) rfl (by kernel_rfl) (by kernel_rfl) (by kernel_rfl) (fun _ _ _ h=>h) (Or.inl ⟨by kernel_rfl,?_⟩) hHeld0 ?_
   rotate_left 1
   ·intro w hSw;(try dsimp only at hSw);obtain ⟨x0,x1,x2,x3,x4,x5,y0,y1,y2,y3,y4,y5⟩:=hSw;go_simp;(try with_reducible rfl)
   (try simp only [Act.put,List.setIfInBounds_toArray,List.set_cons_zero,List.set_cons_succ])
   refine wpAnyH_take (i:=5) (v:=?_) rfl (by kernel_rfl) (by kernel_rfl) (by kernel_rfl) (fun _ _ _ h=>h) (Or.inl ⟨by kernel_rfl,?_⟩) hHeld0 ?_
   rotate_left 1
   ·intro w hSw;(try dsimp only at hSw);obtain ⟨x0,x1,x2,x3,x4,x5,y0,y1,y2,y3,y4,y5⟩:=hSw;go_simp;(try with_reducible rfl)
   (try simp only [Act.put,List.setIfInBounds_toArray,List.set_cons_zero,List.set_cons_succ])
   refine wpAnyH_take (i:=6) (v:=?_) rfl (by kernel_rfl) (by kernel_rfl) (by kernel_rfl) (fun _ _ _ h=>h) (Or.inl ⟨by kernel_rfl,?_⟩) hHeld0 ?_
   rotate_left 1
   ·intro w hSw;(try dsimp only at hSw);obtain ⟨x0,x1,x2,x3,x4,x5,y0,y1,y2,y3,y4,y5⟩:=hSw;go_simp;(try with_reducible rfl)
   (try simp only [Act.put,List.setIfInBounds_toArray,List.set_cons_zero,List.set_cons_succ])
   refine wpAnyH_take (i:=7) (v:=?_) rfl (by kernel_rfl) (by kernel_rfl) (by kernel_rfl) (fun _ _ _ h=>h) (Or.inl ⟨by kernel_rfl,?_⟩) hHeld0 ?_
   rotate_left 1
   ·intro w hSw;(try dsimp only at hSw);obtain ⟨x0,x1,x2,x3,x4,x5,y0,y1,y2,y3,y4,y5⟩:=hSw;go_simp;(try with_reducible rfl)
   (try simp only [Act.put,List.setIfInBounds_toArray,List.set_cons_zero,List.set_cons_succ])
   refine wpAnyH_take (i:=8) (v:=?_) rfl (by kernel_rfl) (by kernel_rfl) (by kernel_rfl) (fun _ _ _ h=>h) (Or.inl ⟨by kernel_rfl,?_⟩) hHeld0 ?_
   rotate_left 1
   ·intro w hSw;(try dsimp only at hSw);obtain ⟨x0,x1,x2,x3,x4,x5,y0,y1,y2,y3,y4,y5⟩:=hSw;go_simp;(try with_reducible rfl)
   (try simp only [Act.put,List.setIfInBounds_toArray,List.set_cons_zero,List.set_cons_succ])
   refine wpAnyH_ready (rs:=[4]) (by kernel_rfl) (by simp) ?_
   refine AllReadyH.cons rfl (fun K hK=>?_) ?_
   rotate_left 1
   ·exact AllReadyH.nil
   go_simp
   go_wp2_with (go_at_call 42;refine (HS1.out _ (Below.refl _ _)).mono ?_;rintro e v1 ⟨a1,c1,rfl,ho1,hb1⟩)
   have HO1:=Lib.hid ho1
   have HB1:=Lib.hid hb1
   clear ho1 hb1
   refine hK.out _ _ (HcX.out _ HB1.out) (fun hHeld1=>?_)
   clear hK K
   refine wpAnyH_ready (rs:=[9]) (by kernel_rfl) (by simp) ?_
   refine AllReadyH.cons rfl (fun K hK=>?_) ?_
   rotate_left 1
   ·exact AllReadyH.nil
   go_simp
   go_wp2_with (go_at_call 42;refine (HS2.out _ HB1.out).mono ?_;rintro e v2 ⟨a2,c2,rfl,ho2,hb2⟩)
   have HO2:=Lib.hid ho2
   have HB2:=Lib.hid hb2
   clear ho2 hb2
   have HSm:=Lib.hid (HSame.out v1 v2 a1 c1 a2 c2 HO1.out HO2.out HB2.out)
   refine hK.out _ _ (HcX.out _ (after HB1.out HB2.out)) (fun hHeld2=>?_)
   clear hK K
   refine wpAnyH_ready (rs:=[10]) (by kernel_rfl) (by simp) ?_
   refine AllReadyH.cons rfl (fun K hK=>?_) ?_
   rotate_left 1
   ·exact AllReadyH.nil
   go_simp
   go_wp2_with (go_at_call 49;refine (HSm.out).mono ?_;rintro e v3 ⟨rfl,hb3⟩)
   have HB3:=Lib.hid hb3
   clear hb3
   refine hK.out _ _ (HcX.out _ (after (after HB1.out HB2.out) HB3.out)) (fun hHeld3=>?_)
   clear hK K
   refine wpAnyH_ready (rs:=[11]) (by kernel_rfl) (by simp) ?_
   refine AllReadyH.cons rfl (fun K hK=>?_) ?_
   rotate_left 1
   ·exact AllReadyH.nil
   go_simp
   refine hK.out _ _ (hHeld3) (fun hHeld4=>?_)
   clear hK K
   refine wpAnyH_done (by kernel_rfl) ?_ _
   have HBn:=Lib.hid (after HB.out (after HBd0.out (after (after HB1.out HB2.out) HB3.out)))
   clear hHeld0 hHeld1 hHeld2 hHeld3 hHeld4
   go_wp2
   go_roundw
   case rel=>exact ⟨k+1,_,rfl,by have:=HLT.out;omega,by go_num,HBn⟩
   case measure=>have:=HLT.out;simp [intOf];omega
  ·have hnlt:¬ (k:Int) < (un:Int):=by omega
   clear hk hlt
   go_wp2
   go_ret
   exact ⟨rfl,HB.out⟩
end Go.Proofs.YtbabckomagkjbaaGreatDoor
namespace Go.Proofs.YtbabckomagkjbaaGreatDoor
open Go.ChangeShapes Go.WideShapes Go.Deep Go.RowKit
theorem owns_go {w w':World} {base:Nat} {e:TypeId} {size:Nat} {v:Value} {n:Nat} {xs:List Value} (h:w.ownsRow base e size v n xs) (hb:Below w.heap.size w w'):w'.ownsRow base e size v n xs:=by
 refine ⟨h.1,?_⟩
 rcases h.2 with hn | ⟨g,cap,cur,rfl,hbg,hgg,rest⟩
 ·exact .inl hn
 ·exact .inr ⟨g,cap,cur,rfl,hbg,(hb.block g (lt_of_block hgg)).trans hgg,rest⟩
theorem info_unit:(Tryz.prog.info? 43).map (fun i=>(i.zero,i.size,i.bytes))=some (some (.agg #[.string ⟨#[]⟩,.int .i64 0,.bool false,.int .i64 0,.string ⟨#[]⟩,.slice none 0 0]),6,80):=by kernel_rfl
theorem ms_one (m:Ms):∀ u ∈ msC m,u.oneCell'=true:=by
 intro u hu
 simp only [msC,List.mem_cons,List.not_mem_nil,or_false] at hu
 rcases hu with rfl | rfl | rfl | rfl | rfl | rfl <;> rfl
theorem own_apart {u:World} {B B' e e' sz sz' n n':Nat} {v v':Value} {xs xs':List Value} (h:u.ownsRow B e sz v n xs) (h':u.ownsRow B' e' sz' v' n' xs') (he:e ≠ e'):v.ownBlock=none\/v.ownBlock ≠ v'.ownBlock:=by
 rcases h.2 with ⟨hv,-⟩ | ⟨g,cap,cur,hv,hb,hg,-⟩
 ·subst hv;exact .inl rfl
 ·right
  rcases h'.2 with ⟨hv',-⟩ | ⟨g',cap',cur',hv',hb',hg',-⟩
  ·subst hv;subst hv';intro e;cases e
  ·subst hv;subst hv'
   intro e
   simp only [Value.ownBlock,Option.some.injEq] at e
   subst e
   rw [hg] at hg'
   simp only [Option.some.injEq,Obj.cells.injEq] at hg'
   exact he hg'.2.1
theorem owns_same {w w':World} {base:Nat} {e:TypeId} {size:Nat} {v:Value} {n:Nat} {xs:List Value} (h:w.ownsRow base e size v n xs) (hk:∀ g,v.ownBlock=some g->w'.heap[g]?=w.heap[g]?):w'.ownsRow base e size v n xs:=by
 refine ⟨h.1,?_⟩
 rcases h.2 with hn | ⟨g,cap,cur,rfl,hbg,hgg,rest⟩
 ·exact .inl hn
 ·exact .inr ⟨g,cap,cur,rfl,hbg,(hk g rfl).trans hgg,rest⟩
abbrev OwnR (u:World) (B:Nat) (m:Ms):Prop:=u.ownsRow B 61 4 (.slice m.ad m.sc.rels.length m.cap) m.sc.rels.length (m.sc.rels.flatMap rlC)
structure VI (w u:World) (Lv:List Ms) (a:Option Addr) (c:Nat):Prop where
 oo:u.ownsRow w.heap.size 43 6 (.slice a Lv.length c) Lv.length (Lv.flatMap msC)
 nn:∀ m ∈ Lv,OwnR u w.heap.size m
 kk:Below w.heap.size w u
theorem VI.next {w u v:World} {L:List Ms} {a:Option Addr} {c:Nat} (h:VI w u L a c) (hb:Below u.heap.size u v):VI w v L a c:=⟨owns_go h.oo hb,fun m hm=>owns_go (h.nn m hm) hb,after h.kk hb⟩
theorem VI.sl {w u:World} {L:List Ms} {a:Option Addr} {c:Nat} (h:VI w u L a c):SL msC 6 u u.heap.size a L.length L:=by
 obtain ⟨a',c',e,h',-⟩:=SL.ofOwns ms_len (by decide) h.oo
 injection e with e1 e2 e3
 subst e1
 exact h'
theorem VI.notes {w u:World} {L:List Ms} {a:Option Addr} {c:Nat} (h:VI w u L a c):Notes u u.heap.size L:=fun m hm=>by
 obtain ⟨a',c',e,h',-⟩:=SL.ofOwns rl_len (by decide) (h.nn m hm)
 injection e with e1 e2 e3
 subst e1
 exact h'
theorem VI.grow {w u w2:World} {L:List Ms} {a a':Option Addr} {c c':Nat} {m:Ms} (h:VI w u L a c) (hm:OwnR u w.heap.size m) (hown:w2.ownsRow w.heap.size 43 6 (.slice a' (L.length+1) c') (L.length+1) (L.flatMap msC ++ msC m))
  (hgrow:(u.alloc (.cells (msC m).toArray 43)).grownBy w2 (Value.slice a L.length c).ownBlock):VI w w2 (L ++ [m]) a' c':=by
 have key:∀ x,OwnR u w.heap.size x->OwnR w2 w.heap.size x:=by
  intro x hx
  refine owns_same (hx.alloc (.cells (msC m).toArray 43)) (fun g hg=>?_)
  have hl:=hx.lt g hg
  refine hgrow.block g (by rw [World.size_alloc];omega) (fun e=>?_)
  rcases own_apart hx h.oo (by decide) with h1 | h1
  ·rw [h1] at hg;cases hg
  ·rw [<-e] at h1;exact h1 hg
 refine ⟨by simpa [List.flatMap_append] using hown,fun x hx=>?_,?_⟩
 ·rcases List.mem_append.1 hx with hx | hx
  ·exact key x (h.nn x hx)
  ·rw [List.mem_singleton.1 hx];exact key m hm
 ·exact (h.kk.alloc h.kk.size _).grown hgrow (by have:=h.kk.size;rw [World.size_alloc];omega) (fun j hj=>(h.oo.lt j hj).1)
theorem VI.nil (w:World):VI w w [] none 0:=⟨World.ownsRow_nil _ _ _ _,(fun m hm=>by cases hm),Below.refl _ _⟩
theorem rl_ones2 (l:List Rl):∀ u ∈ l.flatMap rlC,u.oneCell'=true:=by
 intro u hu
 obtain ⟨r,-,h⟩:=List.mem_flatMap.1 hu
 exact rl_one r u h
theorem app_refs {w:World} {B m c:Nat} {ys:List Rl} {a:Option Addr} (hs:SL rlC 4 w w.heap.size a m ys) (hz:a=none->m=0/\c=0) (hm:m*32<=reachBytes) (hB:B<=w.heap.size) (ty:TypeId):
  ∃ a' c' w',(Builtin.append_ #[41,41] ty #[.slice none 0 0,.slice a m c]).run Tryz.prog w=.ok (.slice a' m c') w'/\w'.ownsRow B 61 4 (.slice a' m c') m (ys.flatMap rlC)/\Below B w w':=by
 obtain ⟨i0,hi,hi0,hi1,hi2⟩:=info_parts info_ref
 have hfl:(ys.flatMap rlC).length=m*4:=by rw [flat_len rl_len,hs.len]
 have hown:=World.ownsRow_nil w B 61 4
 cases a with
 | none=>
  obtain ⟨rfl,rfl⟩:=hz rfl
  have hy:ys=[]:=by have:=hs.len;cases ys with | nil=>rfl | cons=>simp at this
  subst hy
  exact ⟨none,0,w,run_append_owned_none w B 41 ty 61 i0 4 Tryz.underlying41 hi _ 0 _ hown,by simpa using hown,Below.refl _ _⟩
 | some ad=>
  obtain ⟨v',w',hr,ho,hgr,-⟩:=run_append_own (P:=Tryz.prog) w B 41 ty 61 i0 _ 4 32 Tryz.underlying41 hi hi0 hi1 hi2 rfl (by decide) _ 0 _ hown ad m c (ys.flatMap rlC) hfl (hs.news rl_len (by decide)) (rl_ones2 ys) (by unfold reachBytes at hm;unfold maxLen;omega) (by unfold reachBytes at hm;omega) hB
  rw [Nat.zero_add,List.nil_append] at ho
  obtain ⟨a',c',rfl⟩:∃ a' c',v'=.slice a' m c':=by
   rcases ho.2 with ⟨h,h0⟩ | ⟨g,cap,cur,h,-⟩
   ·exact ⟨none,0,by rw [h,h0]⟩
   ·exact ⟨_,_,h⟩
  exact ⟨a',c',w',hr,ho,(Below.refl _ _).grown hgr hB (fun k hk=>by simp [Value.ownBlock] at hk)⟩
theorem open_Units2 {H:Type} {encH:TypeId × Value->H} {W:World} {base:Nat} {v:Value} {d:DataW H} {p:List MemPlace}
  (hv:Value.okWide Tryz.prog W .any base 22 v) (h:DataW.Trod encH Tryz.prog W 0 (fun _=>true) true 22 v d p) (hB:∀ z ∈ d.weights Tryz.prog 22,z<=reachBytes):
  ∃ (a:Option Addr) (n c:Nat) (L:List Ms),v=.slice a n c/\n<=maxLen/\SL msC 6 W W.heap.size a n L/\Notes W W.heap.size L/\(∀ m ∈ L,GoodSc m.sc)/\(∀ m ∈ L,m.sc.rels.length*32<=reachBytes)/\(∀ m ∈ L,m.ad=none->m.sc.rels.length=0/\m.cap=0):=by
 obtain ⟨a0,len0,cap0,rfl⟩:=okWide_slice Tryz.underlying22 hv
 obtain ⟨fuel,hf⟩:=h
 simp only [Value.cells] at hf
 obtain ⟨a,n,c,L,hveq,h2,h3,h4,h5,h6,-⟩:=open_SL4 (sz:=6) (enc:=msC) (fun m:Ms=>((GoodSc m.sc/\m.sc.rels.length*32<=reachBytes)/\(m.ad=none->m.sc.rels.length=0/\m.cap=0))/\SL rlC 4 W W.heap.size m.ad m.sc.rels.length m.sc.rels) ⟨scZ,none,0⟩ Tryz.underlying22 Tryz.underlying43 (by kernel_rfl) (by kernel_rfl) rfl (by decide) ms_len (by
  intro cell m hc
  obtain ⟨u0,z0,g0,s0,b0⟩:=hc 0 _ rfl
  obtain ⟨u1,z1,g1,s1,b1⟩:=hc 1 _ rfl
  obtain ⟨u2,z2,g2,s2,b2⟩:=hc 2 _ rfl
  obtain ⟨u3,z3,g3,s3,b3⟩:=hc 3 _ rfl
  obtain ⟨u4,z4,g4,s4,b4⟩:=hc 4 _ rfl
  obtain ⟨u5,z5,g5,s5,b5⟩:=hc 5 _ rfl
  obtain ⟨x0,e0,-,w0⟩:=DataW.trod_string Tryz.underlying9 s0
  obtain ⟨x1,e1,-,w1⟩:=DataW.trod_int Tryz.underlying3 s1
  obtain ⟨x2,e2,-⟩:=DataW.trod_bool Tryz.underlying4 s2
  obtain ⟨x3,e3,-,w3⟩:=DataW.trod_int Tryz.underlying3 s3
  obtain ⟨x4,e4,-,w4⟩:=DataW.trod_string Tryz.underlying9 s4
  simp only [List.cons.injEq,and_true] at e0 e1 e2 e3 e4
  subst e0 e1 e2 e3 e4
  obtain ⟨ra,rn,rc,rl,rfl,r2,r3,r4,r5,r6,r7⟩:=open_SL4 (sz:=4) (enc:=rlC) GoodRl ⟨0,0,0,0⟩ Tryz.underlying41 Tryz.underlying61 (by kernel_rfl) (by kernel_rfl) rfl (by decide) rl_len (by
   intro cell m hc
   obtain ⟨u0,z0,g0,s0,b0⟩:=hc 0 _ rfl
   obtain ⟨u1,z1,g1,s1,b1⟩:=hc 1 _ rfl
   obtain ⟨u2,z2,g2,s2,b2⟩:=hc 2 _ rfl
   obtain ⟨u3,z3,g3,s3,b3⟩:=hc 3 _ rfl
   obtain ⟨k0,e0,-,w0⟩:=DataW.trod_int Tryz.underlying3 s0
   obtain ⟨k1,e1,-,w1⟩:=DataW.trod_int Tryz.underlying3 s1
   obtain ⟨k2,e2,-,w2⟩:=DataW.trod_int Tryz.underlying3 s2
   obtain ⟨k3,e3,-,w3⟩:=DataW.trod_int Tryz.underlying3 s3
   simp only [List.cons.injEq,and_true] at e0 e1 e2 e3
   subst e0 e1 e2 e3
   refine ⟨⟨k0,k1,k2,k3⟩,⟨bounds_i64 w0,bounds_i64 w1,bounds_i64 w2,bounds_i64 w3⟩,fun j hj=>?_⟩
   match j,hj with
   | 0,_=>exact g0
   | 1,_=>exact g1
   | 2,_=>exact g2
   | 3,_=>rw [show (rlC ⟨k0,k1,k2,k3⟩)[3]?=some (.int .i64 k3) from rfl];exact g3) s5 b5
  have b5':∀ z ∈ DataW.weights Tryz.prog 41 z5.1,z<=reachBytes:=b5
  have hrb:rn*32<=reachBytes:=r7 _ 32 (fun el sp hd=>b5' _ (by
   rw [hd]
   simp only [DataW.weights,Tryz.underlying41]
   rw [show Tryz.prog.bytesOf 61=32 from by kernel_rfl]
   exact List.mem_cons_self ..))
  have hrl:=r4.len
  subst hrl
  refine ⟨⟨⟨x0.data.toList,x1,x2,x3,x4.data.toList,rl⟩,ra,rc⟩,⟨⟨⟨⟨?_,bounds_i64 w1,bounds_i64 w3,?_,r3⟩,hrb⟩,r5⟩,r4⟩,fun j hj=>?_⟩
  ·show x0.data.toList.length<=maxLen
   rw [Array.length_toList];exact w0
  ·show x4.data.toList.length<=maxLen
   rw [Array.length_toList];exact w4
  match j,hj with
  | 0,_=>exact g0
  | 1,_=>exact g1
  | 2,_=>exact g2
  | 3,_=>exact g3
  | 4,_=>exact g4
  | 5,_=>exact g5) hf hB
 exact ⟨a,n,c,L,hveq,h2,h4,fun m hm=>(h3 m hm).2,fun m hm=>(h3 m hm).1.1.1,fun m hm=>(h3 m hm).1.1.2,fun m hm=>(h3 m hm).1.2⟩
def OwnP (n:Nat) (L:List Sc) (w:World) (e:Ending) (w':World):Prop:=∃ (a:Option Addr) (c:Nat) (Lo:List Ms),e=.returned (.slice a n c)/\n=Lo.length/\VI w w' Lo a c/\Lo.map (·.sc)=L
theorem rOwn_any (ua:Option Addr) (un uc:Nat) (L:List Ms) (w:World) (hun:un<=300) (hs:SL msC 6 w w.heap.size ua un L) (hno:Notes w w.heap.size L) (hb:∀ m ∈ L,m.sc.rels.length*32<=reachBytes) (hz:∀ m ∈ L,m.ad=none->m.sc.rels.length=0/\m.cap=0):
  Calls Tryz.prog 9 #[.slice ua un uc] w (OwnP un (L.map (·.sc)) w):=by
 obtain ⟨i0,hi,hz0,hz1,hz2⟩:=info_parts info_unit
 have hni:(un:Int)<=300:=by omega
 have HS:=Lib.hid (fun u (hu:Below w.heap.size w u)=>hs.next hu)
 have HNo:=Lib.hid (fun u (hu:Below w.heap.size w u)=>hno.next hu)
 have HBd:=Lib.hid hb
 have HZ:=Lib.hid hz
 have HLL:=Lib.hid hs.len
 have HUn:=Lib.hid hun
 have HV00:Hid (VI w w [] none 0):=Lib.hid (VI.nil w)
 clear hs hno hb hz hun
 go_enter Tryz.func9,Tryz.ntmps9
 go_wp2
 go_loopw [3,4] (fun vv iv wr=>∃ (k:Nat) (wx:World) (Lo:List Ms) (a:Option Addr) (m c:Nat),wx=wr/\k<=un/\vv=.slice a m c/\iv=.int .i64 k/\Hid (m=Lo.length)/\Hid (VI w wx Lo a c)/\Hid (Lo.map (·.sc)=(L.take k).map (·.sc))) (fun _ iv _=>un - (intOf iv).toNat)
 case atStart=>exact ⟨0,_,[],none,0,0,rfl,by omega,rfl,rfl,Lib.hid rfl,HV00,Lib.hid rfl⟩
 case round=>
  clear HV00
  obtain ⟨k,wx,Lo,a,m,c,rfl,hk,rfl,rfl,HM,HV,HSc⟩:=hrel
  by_cases hlt:k < un
  ·have hlti:(k:Int) < (un:Int):=by omega
   have HLT:=Lib.hid hlt
   have hk1:k < L.length:=by have:=HLL.out;omega
   have hsx:=HS.out _ HV.out.kk
   obtain ⟨b,off,hua,hBl,hc⟩:=hsx.cells (hsx.ne hlt)
   subst hua
   obtain ⟨c0,c1,c2',c3,c4,c5⟩:=ms_cells (fun j hj=>hc k hk1 j hj)
   have hmem:L[k] ∈ L:=List.getElem_mem _
   have HTk:Hid ((L.take (k+1)).map (·.sc)=(L.take k).map (·.sc) ++ [(L[k]).sc]):=Lib.hid (by rw [List.take_add_one,List.getElem?_eq_getElem hk1,List.map_append];rfl)
   generalize L[k]'hk1=mi at c0 c1 c2' c3 c4 c5 hmem HTk
   have hrb:=HBd.out _ hmem
   have hzz:=HZ.out _ hmem
   have hno1:=HNo.out _ HV.out.kk _ hmem
   obtain ⟨⟨nm,ki,kp,al,dt,rl⟩,ad,cp⟩:=mi
   simp only at c0 c1 c2' c3 c4 c5 HTk hrb hzz hno1
   obtain ⟨nr,hnr⟩:∃ nr,nr=rl.length:=⟨_,rfl⟩
   rw [<-hnr] at c5 hrb hzz hno1
   have hnrl:nr=rl.length:=hnr
   obtain ⟨X,hX⟩:∃ x,x=wx.heap.size:=⟨_,rfl⟩
   obtain ⟨W1,hW1⟩:∃ x,x=wx.alloc (.cells #[.string ⟨nm.toArray⟩,.int .i64 ki,.bool kp,.int .i64 al,.string ⟨dt.toArray⟩,.slice none 0 0] 43):=⟨_,rfl⟩
   have hb1:Below wx.heap.size wx W1:=by rw [hW1];exact lit_below _ _
   have hx1:RB W1 X #[.string ⟨nm.toArray⟩,.int .i64 ki,.bool kp,.int .i64 al,.string ⟨dt.toArray⟩,.slice none 0 0] 43:=by rw [hW1,hX];exact rb_new _ _ _
   obtain ⟨v0,hv0⟩:∃ x,x=W1.drew:=⟨_,rfl⟩
   have hbd:Below W1.heap.size W1 v0:=by rw [hv0];exact (Below.refl _ _).drew
   have hb0:Below wx.heap.size wx v0:=after hb1 hbd
   obtain ⟨a2,c2,v1,hr,ho,hba⟩:=app_refs (w:=v0) (B:=v0.heap.size) (ys:=rl) (hno1.next hb0) (fun h=>by have:=hzz h;omega) (by rw [hnr] at hrb ⊢;exact hrb) (Nat.le_refl _) 41
   have hbl2:b < X:=by rw [hX];exact hBl
   have HcX:Hid (∀ v,Below v0.heap.size v0 v->v.cell? ⟨b,off+k*6+5,none⟩=some (.slice ad nr cp)):=Lib.hid (fun v hv=>((hb0.trans (hv.mono hb0.size)).cell (p:=⟨b,off+k*6+5,none⟩) hBl).trans c5)
   have HXa:=Lib.hid ((hx1.next hbd).next hba)
   have hXv:X < v0.heap.size:=lt_of_block (hx1.next hbd)
   have HXs:Hid (RB (v1.setCell ⟨X,5,none⟩ (.slice a2 nr c2)) X #[.string ⟨nm.toArray⟩,.int .i64 ki,.bool kp,.int .i64 al,.string ⟨dt.toArray⟩,.slice a2 nr c2] 43):=Lib.hid (HXa.out.set (j:=5) (.slice a2 nr c2))
   have hb2:Below wx.heap.size wx (v1.setCell ⟨X,5,none⟩ (.slice a2 nr c2)):=(hb0.trans (hba.mono hb0.size)).setCell (p:=⟨X,5,none⟩) (by show _<=X;omega) _
   have HcS:Hid ((v1.setCell ⟨X,5,none⟩ (.slice a2 nr c2)).cell? ⟨b,off+k*6+5,none⟩=some (.slice ad nr cp)):=Lib.hid ((hb2.cell (p:=⟨b,off+k*6+5,none⟩) hBl).trans c5)
   have HOw:Hid (OwnR (v1.setCell ⟨X,5,none⟩ (.slice a2 nr c2)) w.heap.size ⟨⟨nm,ki,kp,al,dt,rl⟩,a2,c2⟩):=Lib.hid (by
    have h1:v1.ownsRow v0.heap.size 61 4 (.slice a2 rl.length c2) rl.length (rl.flatMap rlC):=by rw [<-hnrl];exact ho
    have hw:w.heap.size<=v0.heap.size:=by have:=HV.out.kk.size;have:=hb0.size;omega
    have h2:v1.ownsRow w.heap.size 61 4 (.slice a2 rl.length c2) rl.length (rl.flatMap rlC):=⟨h1.1,h1.2.imp id (fun ⟨g,cap,cur,e1,e2,e3⟩=>⟨g,cap,cur,e1,by omega,e3⟩)⟩
    exact owns_same h2 (fun g hg=>Below.heap_setCell _ _ _ _ (by have:=(h1.lt g hg).1;show g ≠ X;omega)))
   have HB2:=Lib.hid hb2
   have HBa:=Lib.hid hba
   have fz:v1.frozen? ⟨X,5,none⟩=false:=HXa.out.frozen
   have z5:v0.cell? ⟨X,5,none⟩=some (.slice none 0 0):=(hx1.next hbd).cell
   have z6:v1.cell? ⟨X,5,none⟩=some (.slice none 0 0):=HXa.out.cell
   have HW1:Hid (wx.alloc (.cells #[.string ⟨nm.toArray⟩,.int .i64 ki,.bool kp,.int .i64 al,.string ⟨dt.toArray⟩,.slice none 0 0] 43)=W1):=Lib.hid hW1.symm
   have HV0:Hid (W1.drew=v0):=Lib.hid hv0.symm
   have HXe:=Lib.hid hX
   have HNr:=Lib.hid hnr
   clear hsx hc hk1 hmem hrb hzz hno1 hnr hnrl hX hW1 hb1 hx1 hv0 hbd hb0 ho hba hbl2 hXv hb2 hBl hlt hk
   go_wp2_with fail
   rw [HW1.out,<-HXe.out]
   clear c0 c1 c2' c3 c4 c5
   refine wp_region_held_drew (S:=fun v=>v.cell? ⟨b,off+k*6+5,none⟩=some (.slice ad nr cp)) (by kernel_rfl) (by rw [HV0.out];exact HcX.out _ (Below.refl _ _)) (fun hHeld=>?_)
   rw [HV0.out]
   have hHeld0:=HcX.out _ (Below.refl _ _)
   clear hHeld
   refine wpAnyH_take (i:=0) (v:=?_) rfl (by kernel_rfl) (by kernel_rfl) (by kernel_rfl) (fun _ _ _ h=>h) (Or.inl ⟨by kernel_rfl,?_⟩) hHeld0 ?_
   rotate_left 1
   ·intro w hSw;(try dsimp only at hSw);have x5:=hSw;go_simp;(try with_reducible rfl)
   (try simp only [Act.put,List.setIfInBounds_toArray,List.set_cons_zero,List.set_cons_succ])
   refine wpAnyH_take (i:=2) (v:=?_) rfl (by kernel_rfl) (by kernel_rfl) (by kernel_rfl) (fun _ _ _ h=>h) (Or.inl ⟨by kernel_rfl,?_⟩) hHeld0 ?_
   rotate_left 1
   ·intro w hSw;(try dsimp only at hSw);have x5:=hSw;go_simp;(try with_reducible rfl)
   (try simp only [Act.put,List.setIfInBounds_toArray,List.set_cons_zero,List.set_cons_succ])
   refine wpAnyH_take (i:=3) (v:=?_) rfl (by kernel_rfl) (by kernel_rfl) (by kernel_rfl) (fun _ _ _ h=>h) (Or.inl ⟨by kernel_rfl,?_⟩) hHeld0 ?_
   rotate_left 1
   ·intro w hSw;(try dsimp only at hSw);have x5:=hSw;go_simp;(try with_reducible rfl)
   (try simp only [Act.put,List.setIfInBounds_toArray,List.set_cons_zero,List.set_cons_succ])
   refine wpAnyH_take (i:=4) (v:=?_) rfl (by kernel_rfl) (by kernel_rfl) (by kernel_rfl) (fun _ _ _ h=>h) (Or.inl ⟨by kernel_rfl,?_⟩) hHeld0 ?_
   rotate_left 1
   ·intro w hSw;(try dsimp only at hSw);have x5:=hSw;go_simp;(try with_reducible rfl)
   (try simp only [Act.put,List.setIfInBounds_toArray,List.set_cons_zero,List.set_cons_succ])
   refine wpAnyH_take (i:=5) (v:=?_) rfl (by kernel_rfl) (by kernel_rfl) (by kernel_rfl) (fun _ _ _ h=>h) (Or.inl ⟨by kernel_rfl,?_⟩) hHeld0 ?_
   rotate_left 1
   ·intro w hSw;(try dsimp only at hSw);have x5:=hSw;go_simp;(try with_reducible rfl)
   (try simp only [Act.put,List.setIfInBounds_toArray,List.set_cons_zero,List.set_cons_succ])
   refine wpAnyH_take (i:=6) (v:=?_) rfl (by kernel_rfl) (by kernel_rfl) (by kernel_rfl) (fun _ _ _ h=>h) (Or.inl ⟨by kernel_rfl,?_⟩) hHeld0 ?_
   rotate_left 1
   ·intro w hSw;(try dsimp only at hSw);have x5:=hSw;go_simp;(try with_reducible rfl)
   (try simp only [Act.put,List.setIfInBounds_toArray,List.set_cons_zero,List.set_cons_succ])
   refine wpAnyH_ready (rs:=[1]) (by kernel_rfl) (by simp) ?_
   refine AllReadyH.cons rfl (fun K hK=>?_) ?_
   rotate_left 1
   ·exact AllReadyH.nil
   go_simp
   refine hK.out _ _ (hHeld0) (fun hHeld1=>?_)
   clear hK K
   refine wpAnyH_ready (rs:=[7]) (by kernel_rfl) (by simp) ?_
   refine AllReadyH.cons rfl (fun K hK=>?_) ?_
   rotate_left 1
   ·exact AllReadyH.nil
   refine step_run rfl _ _ 41 rfl _ _ (by rfl) (by rfl) hr ?_
   refine hK.out _ _ (HcX.out _ HBa.out) (fun hHeld2=>?_)
   clear hK K
   clear hHeld0
   have hHeld0:=HcX.out _ HBa.out
   refine wpAnyH_take (i:=8) (v:=?_) rfl (by kernel_rfl) (by kernel_rfl) (by kernel_rfl) (fun _ _ _ h=>h) (Or.inl ⟨by kernel_rfl,?_⟩) hHeld0 ?_
   rotate_left 1
   ·intro w hSw;(try dsimp only at hSw);have x5:=hSw;go_simp;(try with_reducible rfl)
   (try simp only [Act.put,List.setIfInBounds_toArray,List.set_cons_zero,List.set_cons_succ])
   refine wpAnyH_ready (rs:=[9]) (by kernel_rfl) (by simp) ?_
   refine AllReadyH.cons rfl (fun K hK=>?_) ?_
   rotate_left 1
   ·exact AllReadyH.nil
   go_simp
   refine hK.out _ _ (HcS.out) (fun hHeld3=>?_)
   clear hK K
   refine wpAnyH_done (by kernel_rfl) ?_ _
   clear hHeld0 hHeld1 hHeld2 hHeld3 z5 z6 fz hr
   obtain ⟨V2,hV2⟩:∃ x,x=v1.setCell ⟨X,5,none⟩ (.slice a2 nr c2):=⟨_,rfl⟩
   rw [<-hV2] at HXs HOw HB2 ⊢
   have HVz:=Lib.hid (HV.out.next HB2.out)
   have x0:V2.cell? ⟨X,0,none⟩=some (.string ⟨nm.toArray⟩):=HXs.out.cell
   have x1:V2.cell? ⟨X,1,none⟩=some (.int .i64 ki):=HXs.out.cell
   have x2:V2.cell? ⟨X,2,none⟩=some (.bool kp):=HXs.out.cell
   have x3:V2.cell? ⟨X,3,none⟩=some (.int .i64 al):=HXs.out.cell
   have x4:V2.cell? ⟨X,4,none⟩=some (.string ⟨dt.toArray⟩):=HXs.out.cell
   have x5:V2.cell? ⟨X,5,none⟩=some (.slice a2 nr c2):=HXs.out.cell
   have hml:m<=300:=by
    have h1:=HM.out
    have h2:=congrArg List.length HSc.out
    simp only [List.length_map,List.length_take] at h2
    have h3:=HUn.out
    have h4:=HLT.out
    omega
   have HML:=Lib.hid hml
   have HNw:Hid ((V2.alloc (.cells #[.string ⟨nm.toArray⟩,.int .i64 ki,.bool kp,.int .i64 al,.string ⟨dt.toArray⟩,.slice a2 nr c2] 43)).heap[V2.heap.size]?=some (.cells #[.string ⟨nm.toArray⟩,.int .i64 ki,.bool kp,.int .i64 al,.string ⟨dt.toArray⟩,.slice a2 nr c2] 43)):=Lib.hid (heap_alloc_new V2 _)
   have HmC:Hid (msC ⟨⟨nm,ki,kp,al,dt,rl⟩,a2,c2⟩=[.string ⟨nm.toArray⟩,.int .i64 ki,.bool kp,.int .i64 al,.string ⟨dt.toArray⟩,.slice a2 nr c2]):=Lib.hid (by rw [HNr.out];rfl)
   have hsz3:Hid (w.heap.size<=V2.heap.size):=Lib.hid HVz.out.kk.size
   clear hml hV2
   go_wp2_with (at_builtin;refine wpList_append_lies _ rfl _ _ 22 rfl w.heap.size 43 i0 (.agg #[.string ⟨#[]⟩,.int .i64 0,.bool false,.int .i64 0,.string ⟨#[]⟩,.slice none 0 0]) 6 80 Tryz.underlying22 hi hz0 hz1 hz2 rfl (by decide) (.slice a m c) m (Lo.flatMap msC) rfl (by have:=HVz.out.oo;rw [<-HM.out] at this;exact this.alloc _) ⟨V2.heap.size,0,none⟩ 1 1 [.string ⟨nm.toArray⟩,.int .i64 ki,.bool kp,.int .i64 al,.string ⟨dt.toArray⟩,.slice a2 nr c2] rfl rfl (World.news_of_block (cs:=#[.string ⟨nm.toArray⟩,.int .i64 ki,.bool kp,.int .i64 al,.string ⟨dt.toArray⟩,.slice a2 nr c2]) (t:=43) (fr:=(0,0)) HNw.out) (by rw [<-HmC.out];exact ms_one _) (by decide) (by have:=HML.out;unfold maxLen;omega) (by have:=HML.out;omega) (by have:=hsz3.out;simp;omega) (V2.heap.size+1) (by simp) ?_;intro g cap2 w2 hown2 hgrow2 hlie2 hlt2)
   rw [HM.out] at hown2 hgrow2
   rw [<-HmC.out] at hown2
   have HV2:=Lib.hid (HVz.out.grow HOw.out hown2 (by rw [HmC.out];exact hgrow2))
   have HM2:Hid (m+1=(Lo ++ [(⟨⟨nm,ki,kp,al,dt,rl⟩,a2,c2⟩:Ms)]).length):=Lib.hid (by rw [HM.out];simp)
   have HSc2:Hid ((Lo ++ [(⟨⟨nm,ki,kp,al,dt,rl⟩,a2,c2⟩:Ms)]).map (·.sc)=(L.take (k+1)).map (·.sc)):=Lib.hid (by rw [List.map_append,HSc.out,HTk.out];rfl)
   clear hown2 hgrow2 hlie2 hlt2 HNw x0 x1 x2 x3 x4 x5
   go_roundw
   case rel=>exact ⟨k+1,_,_,_,_,_,rfl,by have:=HLT.out;omega,rfl,by go_num,HM2,HV2,HSc2⟩
   case measure=>have:=HLT.out;simp [intOf];omega
  ·have hnlt:¬ (k:Int) < (un:Int):=by omega
   have hke:k=L.length:=by have:=HLL.out;omega
   have HF:Hid (Lo.map (·.sc)=L.map (·.sc)):=Lib.hid (by rw [HSc.out,hke,List.take_length])
   have HMe:Hid (m=un):=Lib.hid (by
    have:=congrArg List.length HF.out
    simp only [List.length_map] at this
    rw [HM.out,this,<-HLL.out])
   clear hk hlt hke
   go_wp2
   go_ret
   exact ⟨a,c,Lo,by rw [<-HMe.out];rfl,by rw [<-HMe.out];exact HM.out,HV.out,HF.out⟩
end Go.Proofs.YtbabckomagkjbaaGreatDoor
namespace Go.Proofs.YtbabckomagkjbaaGreatDoor
open Go.ChangeShapes Go.WideShapes Go.Deep Go.RowKit
open Classical in
noncomputable def rlG (S:List Sc) (e0:Int):List Int:=if unitsR S=true/\0<=e0/\e0 < (S.length:Int) then (rootsN 0 e0 S).map Int.ofNat else []
open Classical in
noncomputable def reG (S:List Sc) (e0:Int):Int:=if unitsR S=true/\0<=e0/\e0 < (S.length:Int) then 0 else 1
open Classical in
noncomputable def blG (S:List Sc) (R:List Int):List Bool:=if unitsR S=true/\rootsB R S.length=true then reachB S R else []
open Classical in
noncomputable def beG (S:List Sc) (R:List Int):Int:=if unitsR S=true/\rootsB R S.length=true then 0 else 1
theorem flat_nzG (l:List Nat):l.flatMap enI=(l.map Int.ofNat).flatMap enZ:=by
 induction l with
 | nil=>rfl
 | cons x t ih=>rw [List.flatMap_cons,List.map_cons,List.flatMap_cons,ih];rfl
theorem rootsR_form {S:List Sc} {e0:Int} {w w':World} {e:Ending} (h:RootsR S e0 w e w'):∃ a c,e=.returned (.tuple #[.slice a (rlG S e0).length c,.int .i64 (reG S e0)])/\SL enZ 1 w' w'.heap.size a (rlG S e0).length (rlG S e0)/\Below w.heap.size w w':=by
 unfold RootsR at h
 unfold rlG reG
 by_cases hc:unitsR S=true/\0<=e0/\e0 < (S.length:Int)
 ·rw [if_pos hc] at h
  rw [if_pos hc,if_pos hc]
  obtain ⟨a,c,rfl,ho,hb⟩:=h
  rw [flat_nzG] at ho
  refine ⟨a,c,by rw [List.length_map],?_,hb⟩
  obtain ⟨a',c',e,h',-⟩:=SL.ofOwns (enc:=enZ) (sz:=1) (fun _=>rfl) (by decide) ho
  injection e with e1 e2 e3
  subst e1
  rw [List.length_map]
  exact h'
 ·rw [if_neg hc] at h
  rw [if_neg hc,if_neg hc]
  exact ⟨none,0,h.1,SL.nil _ _ _,h.2⟩
theorem reachR_form {S:List Sc} {R:List Int} {w w':World} {e:Ending} (h:ReachR S R w e w'):∃ a c,e=.returned (.tuple #[.slice a (blG S R).length c,.int .i64 (beG S R)])/\SL enB 1 w' w'.heap.size a (blG S R).length (blG S R)/\Below w.heap.size w w':=by
 unfold ReachR at h
 unfold blG beG
 by_cases hc:unitsR S=true/\rootsB R S.length=true
 ·rw [if_pos hc] at h
  rw [if_pos hc,if_pos hc]
  obtain ⟨g,rfl,hg,-,hb⟩:=h
  refine ⟨some ⟨g,0,none⟩,S.length,by rw [reachB_len],⟨rfl,fun hne=>⟨g,0,rfl,lt_of_block hg,fun k hk j hj=>?_⟩⟩,hb⟩
  obtain rfl:j=0:=by omega
  have:=hg.cell (j:=k)
  rw [show (0:Nat)+k*1+0=k by omega,this,blA_get (List.getElem?_eq_getElem hk)]
  rfl
 ·rw [if_neg hc] at h
  rw [if_neg hc,if_neg hc]
  exact ⟨none,0,h.1,SL.nil _ _ _,h.2⟩
theorem rlG_len {S:List Sc} {e0:Int}:(rlG S e0).length<=256:=by
 unfold rlG
 split
 ·rename_i h
  have h1:=units_len h.1
  have h2:=rootsN_len S 0 e0
  rw [List.length_map]
  omega
 ·simp
theorem blG_len {S:List Sc} {R:List Int}:(blG S R).length<=256:=by
 unfold blG
 split
 ·rename_i h
  have h1:=units_len h.1
  rw [reachB_len];exact h1
 ·simp
theorem GraphReach_walk (w:World) (ua:Option Addr) (un uc:Nat) (L:List Ms) (hun:un<=maxLen) (hs:SL msC 6 w w.heap.size ua un L) (hno:Notes w w.heap.size L) (hg:∀ m ∈ L,GoodSc m.sc) (hb:∀ m ∈ L,m.sc.rels.length*32<=reachBytes) (hz:∀ m ∈ L,m.ad=none->m.sc.rels.length=0/\m.cap=0)
  (e0:Int) (he : -9223372036854775808<=e0/\e0<=9223372036854775807) (ra:Option Addr) (rn rc:Nat) (R:List Int) (hrn:rn<=maxLen) (hr:SL enZ 1 w w.heap.size ra rn R) (hre:ra=none->rn=0/\rc=0) (hrb:rn*8<=reachBytes) (hT:TabP w):
  Calls Tryz.prog 3 #[.slice ua un uc,.int .i64 e0,.slice ra rn rc] w (RetB (.bool true) w):=by
 have hrni:(rn:Int)<=9223372036854775807:=by unfold maxLen at hrn;omega
 have HBg:Hid (∀ u,Below w.heap.size w u->Calls Tryz.prog 8 #[.slice ua un uc] u (BigP un L u)):=Lib.hid fun u hu=>rBigU2_any ua un uc L u hun (hs.next hu) (hno.next hu) hb
 have HSk:Hid (∀ u,Below w.heap.size w u->Calls Tryz.prog 14 #[] u (RetB (.bool true) u)):=Lib.hid fun u hu=>linked_is u (hT.next hu)
 have HOw:Hid (∀ u,un<=300->Below w.heap.size w u->Calls Tryz.prog 9 #[.slice ua un uc] u (OwnP un (L.map (·.sc)) u)):=Lib.hid fun u h3 hu=>rOwn_any ua un uc L u h3 (hs.next hu) (hno.next hu) hb hz
 have HRo:Hid (∀ u,Below w.heap.size w u->Calls Tryz.prog 10 #[.slice ua un uc,.int .i64 e0] u (RootsR (L.map (·.sc)) e0 u)):=Lib.hid fun u hu=>gRoots_any ua un uc L e0 u hun (hs.next hu) (hno.next hu) hg hb (hT.next hu)
 have HRe:Hid (∀ u,rn<=300->Below w.heap.size w u->Calls Tryz.prog 12 #[.slice ua un uc,.slice ra rn rc] u (ReachR (L.map (·.sc)) R u)):=Lib.hid fun u h3 hu=>gReach_any ua un uc L ra rn rc R u hun (hs.next hu) (hno.next hu) hg hb (hr.next hu) (by omega) (hT.next hu)
 have HIs:Hid (∀ u,Below w.heap.size w u->Calls Tryz.prog 15 #[.slice ua un uc] u (RetB (.bool (unitsR (L.map (·.sc)))) u)):=Lib.hid fun u hu=>gIs_any ua un uc L u hun (hs.next hu) (hno.next hu) hg hb (hT.next hu)
 have HO2:Hid (∀ (Lo:List Ms),Lo.map (·.sc)=L.map (·.sc)->FewU un L->(∀ m ∈ Lo,GoodSc m.sc)/\(∀ m ∈ Lo,m.sc.rels.length*32<=reachBytes)/\FewU un Lo):=Lib.hid (fun Lo h hf=>by
  have key:∀ m ∈ Lo,∃ x ∈ L,x.sc=m.sc:=fun m hm=>by
   have:m.sc ∈ L.map (·.sc):=by rw [<-h];exact List.mem_map.2 ⟨m,hm,rfl⟩
   obtain ⟨x,hx,e⟩:=List.mem_map.1 this
   exact ⟨x,hx,e⟩
  refine ⟨fun m hm=>?_,fun m hm=>?_,hf.1,hf.2.imp id (fun h=>⟨h.1,fun m hm=>?_⟩)⟩
  ·obtain ⟨x,hx,e⟩:=key m hm;rw [<-e];exact hg x hx
  ·obtain ⟨x,hx,e⟩:=key m hm;rw [<-e];exact hb x hx
  ·obtain ⟨x,hx,e⟩:=key m hm;rw [<-e];exact h.2 x hx)
 have HUn:=Lib.hid (fun u (hu:Below w.heap.size w u)=>hs.next hu)
 have HNo:=Lib.hid (fun u (hu:Below w.heap.size w u)=>hno.next hu)
 have HRr:=Lib.hid (fun u (hu:Below w.heap.size w u)=>hr.next hu)
 have HBd:=Lib.hid hb
 have HMx:=Lib.hid hun
 have HB:Hid (Below w.heap.size w w):=Lib.hid (Below.refl _ w)
 clear hs hno hg hb hz he hr hre hrb hT hun hrn
 go_enter Tryz.func3,Tryz.ntmps3
 go_wp2_with fail
 refine (HBg.out _ HB.out).mono ?_
 rintro e u ⟨r,rfl,hr,hb⟩
 replace HB:=Lib.hid (after HB.out hb)
 have HFw:=Lib.hid hr
 clear hb hr
 cases r
 rotate_left
 ·go_wp2
  go_ret
  exact ⟨rfl,HB.out⟩
 replace HFw:=Lib.hid (HFw.out rfl)
 by_cases h3:300 < rn
 ·have h4:(300:Int) < (rn:Int):=by omega
  clear h3
  go_wp2
  go_ret
  exact ⟨rfl,HB.out⟩
 have h4:¬ (300:Int) < (rn:Int):=by omega
 have HR3:Hid (rn<=300):=Lib.hid (by omega)
 clear h3
 go_wp2_with fail
 refine (HOw.out _ HFw.out.1 HB.out).mono ?_
 rintro e u1 ⟨oa,oc,Lo,rfl,hon,hvi,hsc⟩
 replace HB:=Lib.hid (after HB.out hvi.kk)
 have HSc:=Lib.hid hsc
 have HOo:=Lib.hid (HO2.out Lo hsc HFw.out)
 have HVs:Hid (∀ v,Below u1.heap.size u1 v->SL msC 6 v v.heap.size oa un Lo/\Notes v v.heap.size Lo):=Lib.hid (fun v hv=>by
  have h:=hvi.next hv
  exact ⟨by have:=h.sl;rwa [<-hon] at this,h.notes⟩)
 have HU1:Hid (Below u1.heap.size u1 u1):=Lib.hid (Below.refl _ _)
 clear hon hvi hsc h4 HOw HBg
 obtain ⟨S,hS⟩:∃ S,S=L.map (·.sc):=⟨_,rfl⟩
 rw [<-hS] at HRo HRe HIs
 have HSe:=Lib.hid hS
 clear hS
 go_wp2_with fail
 refine (HRo.out _ HB.out).mono ?_
 intro e u2 h
 obtain ⟨aa,ac,rfl,ha,hb⟩:=rootsR_form h
 replace HB:=Lib.hid (after HB.out hb)
 replace HU1:=Lib.hid (after HU1.out hb)
 have HA:=Lib.hid ha
 clear h hb ha
 go_wp2_with fail
 refine (rRoots_any oa un oc Lo e0 u2 HMx.out (HVs.out _ HU1.out).1 (HVs.out _ HU1.out).2 HOo.out.1 HOo.out.2.1 HOo.out.2.2).mono ?_
 intro e u3 h
 rw [HSc.out,<-HSe.out] at h
 obtain ⟨ba,bc,rfl,ha,hb⟩:=rootsR_form h
 replace HB:=Lib.hid (after HB.out hb)
 replace HU1:=Lib.hid (after HU1.out hb)
 replace HA:=Lib.hid (HA.out.next hb)
 have HA2:=Lib.hid ha
 clear h hb ha
 go_wp2_with fail
 refine (HRe.out _ HR3.out HB.out).mono ?_
 intro e u4 h
 obtain ⟨ca,cc,rfl,ha,hb⟩:=reachR_form h
 have HRn:=Lib.hid (HRr.out _ (after HB.out hb))
 replace HB:=Lib.hid (after HB.out hb)
 replace HU1:=Lib.hid (after HU1.out hb)
 replace HA:=Lib.hid (HA.out.next hb)
 replace HA2:=Lib.hid (HA2.out.next hb)
 have HC:=Lib.hid ha
 clear h hb ha
 go_wp2_with fail
 refine (rReach_any oa un oc Lo ra rn rc R u4 HMx.out (HVs.out _ HU1.out).1 (HVs.out _ HU1.out).2 HOo.out.1 HOo.out.2.1 HRn.out (by have:=HR3.out;omega) HOo.out.2.2).mono ?_
 intro e u5 h
 rw [HSc.out,<-HSe.out] at h
 obtain ⟨da,dc,rfl,ha,hb⟩:=reachR_form h
 replace HB:=Lib.hid (after HB.out hb)
 replace HU1:=Lib.hid (after HU1.out hb)
 replace HA:=Lib.hid (HA.out.next hb)
 replace HA2:=Lib.hid (HA2.out.next hb)
 replace HC:=Lib.hid (HC.out.next hb)
 have HC2:=Lib.hid ha
 clear h hb ha HRn
 have HL1:=Lib.hid (rlG_len (S:=S) (e0:=e0))
 have HL2:=Lib.hid (blG_len (S:=S) (R:=R))
 obtain ⟨l1,hl1⟩:∃ x,x=rlG S e0:=⟨_,rfl⟩
 obtain ⟨l2,hl2⟩:∃ x,x=blG S R:=⟨_,rfl⟩
 obtain ⟨i1,hi1⟩:∃ x,x=reG S e0:=⟨_,rfl⟩
 obtain ⟨i2,hi2⟩:∃ x,x=beG S R:=⟨_,rfl⟩
 rw [<-hl1] at HA HA2 HL1 ⊢
 rw [<-hl2] at HC HC2 HL2 ⊢
 rw [<-hi1,<-hi2]
 obtain ⟨n1,hn1⟩:∃ x,x=l1.length:=⟨_,rfl⟩
 obtain ⟨n2,hn2⟩:∃ x,x=l2.length:=⟨_,rfl⟩
 rw [<-hn1] at HA HA2 HL1 ⊢
 rw [<-hn2] at HC HC2 HL2 ⊢
 have t1:(i1 == i1)=true:=by simp
 have t2:(i2 == i2)=true:=by simp
 clear hl1 hl2 hi1 hi2 hn1 hn2
 go_wp2_with fail
 refine (HSk.out _ HB.out).mono ?_
 rintro e u6 ⟨rfl,hb⟩
 replace HB:=Lib.hid (after HB.out hb)
 replace HU1:=Lib.hid (after HU1.out hb)
 replace HA:=Lib.hid (HA.out.next hb)
 replace HA2:=Lib.hid (HA2.out.next hb)
 replace HC:=Lib.hid (HC.out.next hb)
 replace HC2:=Lib.hid (HC2.out.next hb)
 clear hb
 go_wp2_with fail
 refine (HIs.out _ HB.out).mono ?_
 rintro e u7 ⟨rfl,hb⟩
 replace HB:=Lib.hid (after HB.out hb)
 replace HU1:=Lib.hid (after HU1.out hb)
 replace HA:=Lib.hid (HA.out.next hb)
 replace HA2:=Lib.hid (HA2.out.next hb)
 replace HC:=Lib.hid (HC.out.next hb)
 replace HC2:=Lib.hid (HC2.out.next hb)
 clear hb
 have HI2:=Lib.hid (rIsU_any oa un oc Lo u7 HMx.out (HVs.out _ HU1.out).1 (HVs.out _ HU1.out).2 HOo.out.1 HOo.out.2.1 HOo.out.2.2)
 rw [HSc.out,<-HSe.out] at HI2
 obtain ⟨b1,hb1⟩:∃ x,x=unitsR S:=⟨_,rfl⟩
 rw [<-hb1] at HI2 ⊢
 have t3:(b1 == b1)=true:=by simp
 clear hb1
 go_wp2_with fail
 refine HI2.out.mono ?_
 rintro e u8 ⟨rfl,hb⟩
 replace HB:=Lib.hid (after HB.out hb)
 replace HU1:=Lib.hid (after HU1.out hb)
 replace HA:=Lib.hid (HA.out.next hb)
 replace HA2:=Lib.hid (HA2.out.next hb)
 replace HC:=Lib.hid (HC.out.next hb)
 replace HC2:=Lib.hid (HC2.out.next hb)
 clear hb
 have HSm:=Lib.hid (sameI_any aa ba n1 n1 ac bc l1 l1 u8 (by have:=HL1.out;omega) (by have:=HL1.out;omega) HA.out HA2.out)
 rw [decide_eq_true rfl] at HSm
 go_wp2_with fail
 refine HSm.out.mono ?_
 rintro e u9 ⟨rfl,hb⟩
 replace HB:=Lib.hid (after HB.out hb)
 replace HU1:=Lib.hid (after HU1.out hb)
 replace HC:=Lib.hid (HC.out.next hb)
 replace HC2:=Lib.hid (HC2.out.next hb)
 clear hb
 have HSb:=Lib.hid (sameB_any ca da n2 n2 cc dc l2 l2 u9 (by have:=HL2.out;omega) (by have:=HL2.out;omega) HC.out HC2.out)
 rw [decide_eq_true rfl] at HSb
 go_wp2_with fail
 refine HSb.out.mono ?_
 rintro e u10 ⟨rfl,hb⟩
 replace HB:=Lib.hid (after HB.out hb)
 replace HU1:=Lib.hid (after HU1.out hb)
 clear hb
 have HSu:=Lib.hid (rSameU_is ua oa un uc oc L Lo u10 HMx.out (HUn.out _ HB.out) (HNo.out _ HB.out) (HVs.out _ HU1.out).1 (HVs.out _ HU1.out).2 HBd.out HSc.out)
 go_wp2_with fail
 refine HSu.out.mono ?_
 rintro e u11 ⟨rfl,hb⟩
 replace HB:=Lib.hid (after HB.out hb)
 clear hb
 go_wp2
 go_ret
 exact ⟨rfl,HB.out⟩
end Go.Proofs.YtbabckomagkjbaaGreatDoor
