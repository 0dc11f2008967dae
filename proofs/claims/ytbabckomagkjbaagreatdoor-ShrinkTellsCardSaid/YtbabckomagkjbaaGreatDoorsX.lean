/- shrink: aligns. shrink: Shrink. -/
import Derived.Test.YtbabckomagkjbaaGreatDoorsW
set_option maxRecDepth 100000
set_option maxHeartbeats 4000000
set_option linter.unusedVariables false
set_option linter.unusedSimpArgs false
namespace Go.Proofs.YtbabckomagkjbaaGreatDoor
open Go.ChangeShapes Go.WideShapes Go.Deep Go.RowKit
def mostL (S:List Sc) (rep:List Int) (n k:Nat):List Int:=(List.range n).map (fun a=>mostN S rep a k)
theorem mostL_len (S:List Sc) (rep:List Int) (n k:Nat):(mostL S rep n k).length=n:=by unfold mostL;simp
theorem mostL_get {S:List Sc} {rep:List Int} {n k a:Nat} (h:a < n):(mostL S rep n k)[a]?=some (mostN S rep a k):=by
 unfold mostL;rw [List.getElem?_map,List.getElem?_range h];rfl
theorem mostL_zero (S:List Sc) (rep:List Int) (n:Nat):mostL S rep n 0=List.replicate n 0:=by
 apply List.ext_getElem?
 intro i
 by_cases h:i < n
 ·rw [mostL_get h,List.getElem?_replicate,if_pos h];rfl
 ·rw [List.getElem?_eq_none (by rw [mostL_len];omega),List.getElem?_eq_none (by simp;omega)]
theorem mostL_out {S:List Sc} {rep:List Int} {n k:Nat} {v:Int} (h:rep[k]?=some v) (hv:v < 0):mostL S rep n (k+1)=mostL S rep n k:=by
 unfold mostL
 apply List.map_congr_left
 intro a ha
 show (if rep[k]?=some (a:Int) then _ else _)=_
 rw [if_neg (by rw [h];intro e;have:=Option.some.inj e;omega)]
theorem mostL_in {S:List Sc} {rep:List Int} {n k p:Nat} (h:rep[k]?=some (p:Int)) (hp:p < n):(mostL S rep n k).set p (max (mostN S rep p k) (alignN S k))=mostL S rep n (k+1):=by
 apply List.ext_getElem?
 intro i
 by_cases hi:i < n
 ·rw [mostL_get hi]
  by_cases e:p=i
  ·subst e
   rw [List.getElem?_set_self (by rw [mostL_len];exact hi)]
   show _=some (if rep[k]?=some (p:Int) then _ else _)
   rw [if_pos h]
  ·rw [List.getElem?_set_ne e,mostL_get hi]
   show _=some (if rep[k]?=some (i:Int) then _ else _)
   rw [if_neg (by rw [h];intro e2;have:=Option.some.inj e2;omega)]
 ·rw [List.getElem?_eq_none (by rw [List.length_set,mostL_len];omega),List.getElem?_eq_none (by rw [mostL_len];omega)]
structure RZ (w u:World) (l:List Int) (a:Option Addr) (c:Nat):Prop where
 oo:u.ownsRow w.heap.size 3 1 (.slice a l.length c) l.length (l.flatMap enZ)
 kk:Below w.heap.size w u
theorem RZ.grow {w u w2:World} {l:List Int} {a a':Option Addr} {c c':Nat} {k:Int} (h:RZ w u l a c) (hown:w2.ownsRow w.heap.size 3 1 (.slice a' (l.length+1) c') (l.length+1) (l.flatMap enZ ++ enZ k))
  (hgrow:(u.alloc (.cells #[.int .i64 k] 3)).grownBy w2 (Value.slice a l.length c).ownBlock):RZ w w2 (l ++ [k]) a' c':=by
 refine ⟨by simpa [List.flatMap_append] using hown,?_⟩
 exact (h.kk.alloc h.kk.size _).grown hgrow (by have:=h.kk.size;rw [World.size_alloc];omega) (fun j hj=>(h.oo.lt j hj).1)
def RowZ (l:List Int) (w:World) (e:Ending) (w':World):Prop:=∃ a c,e=.returned (.slice a l.length c)/\w'.ownsRow w.heap.size 3 1 (.slice a l.length c) l.length (l.flatMap enZ)/\Below w.heap.size w w'
def BestR (w:World) (mb:Nat) (l:List Int) (u:World):Prop:=Below w.heap.size w u/\RB u mb (inA l) 3
theorem aligns_any (w:World) (ua:Option Addr) (n uc:Nat) (L:List Ms) (ra:Option Addr) (rc:Nat) (rep:List Int) (la:Option Addr) (ln lc:Nat) (live:List Int) (hn:n<=256) (hs:SL msC 6 w w.heap.size ua n L) (hr:SL enZ 1 w w.heap.size ra n rep) (hl:SL enZ 1 w w.heap.size la ln live)
  (hrep:∀ (k:Nat) (v:Int),rep[k]?=some v->v < (n:Int)) (hlive:∀ x ∈ live,0<=x/\x < (n:Int)) (hln:ln<=256):
  Calls Tryz.prog 59 #[.slice ua n uc,.slice ra n rc,.slice la ln lc] w (RowZ (live.map (fun x=>mostN (L.map (·.sc)) rep x.toNat n)) w):=by
 have hmk:=make_ints n (by omega)
 have hni:(n:Int)<=256:=by omega
 have hlni:(ln:Int)<=256:=by omega
 obtain ⟨i0,hi,hz0,hz1,hz2⟩:=info_parts info_intG
 have HRl:Hid (rep.length=n):=Lib.hid hr.len.symm
 have HLl:Hid (live.length=ln):=Lib.hid hl.len.symm
 have HUl:Hid (L.length=n):=Lib.hid hs.len.symm
 have HR:=Lib.hid (fun u (hu:Below w.heap.size w u)=>hr.next hu)
 have HLv:=Lib.hid (fun u (hu:Below w.heap.size w u)=>hl.next hu)
 have HS:=Lib.hid (fun u (hu:Below w.heap.size w u)=>hs.next hu)
 have HS0:=Lib.hid hs
 have HN:=Lib.hid hn
 have HLn:=Lib.hid hln
 have HRp:=Lib.hid hrep
 have HLi:=Lib.hid hlive
 obtain ⟨S,hS⟩:∃ S,S=L.map (·.sc):=⟨_,rfl⟩
 have HSe:=Lib.hid hS
 rw [<-hS]
 obtain ⟨W1,hW1⟩:∃ x,x=w.alloc (.cells (inA (List.replicate n 0)) 3):=⟨_,rfl⟩
 obtain ⟨mb,hmb⟩:∃ x,x=w.heap.size:=⟨_,rfl⟩
 have HM0:Hid (BestR w mb (mostL S rep n 0) W1):=Lib.hid ⟨by rw [hW1];exact lit_below w _,by rw [mostL_zero,hW1,hmb];exact rb_new w _ _⟩
 have HWE:Hid (w.alloc (.cells (inA (List.replicate n 0)) 3)=W1):=Lib.hid hW1.symm
 have HMb:=Lib.hid hmb
 clear hs hr hl hn hln hrep hlive hS hW1 hmb
 go_enter Tryz.func59,Tryz.ntmps59
 go_wp2_with fail
 rw [HWE.out,<-HMb.out]
 clear hmk
 go_loopw [18] (fun i wr=>∃ (k:Nat) (wx:World),wx=wr/\k<=n/\i=.int .i64 k/\Hid (BestR w mb (mostL S rep n k) wx)) (fun i _=>n - (intOf i).toNat)
 case atStart=>exact ⟨0,_,rfl,by omega,rfl,HM0⟩
 case round=>
  clear HM0
  obtain ⟨k,wx,rfl,hk,rfl,HM⟩:=hrel
  by_cases hlt:k < n
  ·have hlti:(k:Int) < (n:Int):=by omega
   have HLT:=Lib.hid hlt
   have hkk:=HM.out.1
   have hrl:=HR.out wx hkk
   have hul:=HS.out wx hkk
   obtain ⟨v,hv⟩:∃ v,rep[k]?=some v:=⟨_,List.getElem?_eq_getElem (by rw [HRl.out];exact hlt)⟩
   obtain ⟨m,hm⟩:∃ m,L[k]?=some m:=⟨_,List.getElem?_eq_getElem (by rw [HUl.out];exact hlt)⟩
   obtain ⟨rb,ro,hra,-,-⟩:=hrl.cells (by intro e;rw [e] at hv;cases hv)
   obtain ⟨ub,uo,hua,hubl,-⟩:=HS0.out.cells (by intro e;rw [e] at hm;cases hm)
   subst hra
   subst hua
   have r0:wx.cell? ⟨rb,ro+k,none⟩=some (.int .i64 v):=ints_cells hrl (Below.refl _ _) hv
   obtain ⟨-,-,-,y3,-,-⟩:=unit_cells hul (Below.refl _ _) hm
   have HUb:Hid (ub < mb):=Lib.hid (by rw [HMb.out];exact hubl)
   have hal:alignN S k=m.sc.align:=by unfold alignN;rw [HSe.out,List.getElem?_map,hm];rfl
   obtain ⟨al,hal2⟩:∃ x,x=m.sc.align:=⟨_,rfl⟩
   rw [<-hal2] at y3 hal
   have HV:=Lib.hid hv
   have HAl:=Lib.hid hal
   have hvn:=HRp.out k v hv
   clear hkk hrl hul hv hm hal hal2 hlt hk hubl
   by_cases hneg:v < 0
   ·have HNx:Hid (BestR w mb (mostL S rep n (k+1)) wx):=Lib.hid (by rw [mostL_out HV.out hneg];exact HM.out)
    have t1:¬ (0:Int)<=v:=by omega
    go_wp2
    go_roundw
    case rel=>exact ⟨k+1,_,rfl,by have:=HLT.out;omega,by go_num,HNx⟩
    case measure=>have:=HLT.out;simp [intOf];omega
   ·obtain ⟨p,hp⟩:∃ p:Nat,v=(p:Int):=⟨v.toNat,by omega⟩
    subst hp
    have hpn:p < n:=by omega
    have hpi:(p:Int) < (n:Int):=hvn
    have hp0:(0:Int)<=(p:Int):=by omega
    obtain ⟨m0,hm0⟩:∃ x,x=mostN S rep p k:=⟨_,rfl⟩
    have HPn:=Lib.hid hpn
    have HM0:=Lib.hid hm0
    clear hneg hvn hpn
    go_wp2_with fail
    obtain ⟨v0,hv0⟩:∃ x,x=wx.drew:=⟨_,rfl⟩
    have hbd:Below wx.heap.size wx v0:=by rw [hv0];exact (Below.refl _ _).drew
    have HMv:Hid (BestR w mb (mostL S rep n k) v0):=Lib.hid ⟨after HM.out.1 hbd,HM.out.2.next hbd⟩
    have z0:v0.cell? ⟨mb,p,none⟩=some (.int .i64 m0):=by rw [HMv.out.2.cell];exact inA_get (by rw [hm0];exact mostL_get HPn.out)
    have y3':v0.cell? ⟨ub,uo+k*6+3,none⟩=some (.int .i64 al):=(hbd.cell (p:=⟨ub,uo+k*6+3,none⟩) (cell_lt y3)).trans y3
    have f0:v0.frozen? ⟨mb,p,none⟩=false:=HMv.out.2.frozen
    have HNx:Hid (BestR w mb (mostL S rep n (k+1)) (v0.setCell ⟨mb,p,none⟩ (.int .i64 (max m0 al)))):=Lib.hid ⟨HMv.out.1.setCell (p:=⟨mb,p,none⟩) (by rw [HMb.out];exact Nat.le_refl _) _,by
     have:=HMv.out.2.set (j:=p) (.int .i64 (max m0 al))
     rw [inA_set,hm0,<-HAl.out,mostL_in HV.out HPn.out] at this
     rw [hm0,<-HAl.out]
     exact this⟩
    have y4':(v0.setCell ⟨mb,p,none⟩ (.int .i64 (max m0 al))).cell? ⟨ub,uo+k*6+3,none⟩=some (.int .i64 al):=by
     rw [World.cell?_setCell_far _ _ _ _ (by have:=HUb.out;show mb ≠ ub;omega)];exact y3'
    have HV0:=Lib.hid hv0
    clear hv0 hbd y3 hm0
    refine wp_region_held_drew (S:=fun v=>v.cell? ⟨ub,uo+k*6+3,none⟩=some (.int .i64 al)) (by kernel_rfl) (by rw [<-HV0.out];exact y3') (fun hHeld=>?_)
    rw [<-HV0.out]
    have hHeld0:=y3'
    clear hHeld
    refine wpAnyH_take (i:=0) (v:=?_) rfl (by kernel_rfl) (by kernel_rfl) (by kernel_rfl) (fun _ _ _ h=>h) (Or.inl ⟨by kernel_rfl,?_⟩) hHeld0 ?_
    rotate_left 1
    ·intro w hSw;(try dsimp only at hSw);have x2:=hSw;go_simp;(try with_reducible rfl)
    (try simp only [Act.put,List.setIfInBounds_toArray,List.set_cons_zero,List.set_cons_succ])
    refine wpAnyH_take (i:=1) (v:=?_) rfl (by kernel_rfl) (by kernel_rfl) (by kernel_rfl) (fun _ _ _ h=>h) (Or.inl ⟨by kernel_rfl,?_⟩) hHeld0 ?_
    rotate_left 1
    ·intro w hSw;(try dsimp only at hSw);have x2:=hSw;go_simp;(try with_reducible rfl)
    (try simp only [Act.put,List.setIfInBounds_toArray,List.set_cons_zero,List.set_cons_succ])
    refine wpAnyH_take (i:=2) (v:=?_) rfl (by kernel_rfl) (by kernel_rfl) (by kernel_rfl) (fun _ _ _ h=>h) (Or.inl ⟨by kernel_rfl,?_⟩) hHeld0 ?_
    rotate_left 1
    ·intro w hSw;(try dsimp only at hSw);have x2:=hSw;go_simp;(try with_reducible rfl)
    (try simp only [Act.put,List.setIfInBounds_toArray,List.set_cons_zero,List.set_cons_succ])
    refine wpAnyH_take (i:=3) (v:=?_) rfl (by kernel_rfl) (by kernel_rfl) (by kernel_rfl) (fun _ _ _ h=>h) (Or.inl ⟨by kernel_rfl,?_⟩) hHeld0 ?_
    rotate_left 1
    ·intro w hSw;(try dsimp only at hSw);have x2:=hSw;go_simp;(try with_reducible rfl)
    (try simp only [Act.put,List.setIfInBounds_toArray,List.set_cons_zero,List.set_cons_succ])
    refine wpAnyH_take (i:=4) (v:=?_) rfl (by kernel_rfl) (by kernel_rfl) (by kernel_rfl) (fun _ _ _ h=>h) (Or.inl ⟨by kernel_rfl,?_⟩) hHeld0 ?_
    rotate_left 1
    ·intro w hSw;(try dsimp only at hSw);have x2:=hSw;go_simp;(try with_reducible rfl)
    (try simp only [Act.put,List.setIfInBounds_toArray,List.set_cons_zero,List.set_cons_succ])
    refine wpAnyH_take (i:=6) (v:=?_) rfl (by kernel_rfl) (by kernel_rfl) (by kernel_rfl) (fun _ _ _ h=>h) (Or.inl ⟨by kernel_rfl,?_⟩) hHeld0 ?_
    rotate_left 1
    ·intro w hSw;(try dsimp only at hSw);have x2:=hSw;go_simp;(try with_reducible rfl)
    (try simp only [Act.put,List.setIfInBounds_toArray,List.set_cons_zero,List.set_cons_succ])
    refine wpAnyH_take (i:=7) (v:=?_) rfl (by kernel_rfl) (by kernel_rfl) (by kernel_rfl) (fun _ _ _ h=>h) (Or.inl ⟨by kernel_rfl,?_⟩) hHeld0 ?_
    rotate_left 1
    ·intro w hSw;(try dsimp only at hSw);have x2:=hSw;go_simp;(try with_reducible rfl)
    (try simp only [Act.put,List.setIfInBounds_toArray,List.set_cons_zero,List.set_cons_succ])
    refine wpAnyH_take (i:=8) (v:=?_) rfl (by kernel_rfl) (by kernel_rfl) (by kernel_rfl) (fun _ _ _ h=>h) (Or.inl ⟨by kernel_rfl,?_⟩) hHeld0 ?_
    rotate_left 1
    ·intro w hSw;(try dsimp only at hSw);have x2:=hSw;go_simp;(try with_reducible rfl)
    (try simp only [Act.put,List.setIfInBounds_toArray,List.set_cons_zero,List.set_cons_succ])
    refine wpAnyH_take (i:=9) (v:=?_) rfl (by kernel_rfl) (by kernel_rfl) (by kernel_rfl) (fun _ _ _ h=>h) (Or.inl ⟨by kernel_rfl,?_⟩) hHeld0 ?_
    rotate_left 1
    ·intro w hSw;(try dsimp only at hSw);have x2:=hSw;go_simp;(try with_reducible rfl)
    (try simp only [Act.put,List.setIfInBounds_toArray,List.set_cons_zero,List.set_cons_succ])
    refine wpAnyH_take (i:=10) (v:=?_) rfl (by kernel_rfl) (by kernel_rfl) (by kernel_rfl) (fun _ _ _ h=>h) (Or.inl ⟨by kernel_rfl,?_⟩) hHeld0 ?_
    rotate_left 1
    ·intro w hSw;(try dsimp only at hSw);have x2:=hSw;go_simp;(try with_reducible rfl)
    (try simp only [Act.put,List.setIfInBounds_toArray,List.set_cons_zero,List.set_cons_succ])
    refine wpAnyH_ready (rs:=[5]) (by kernel_rfl) (by simp) ?_
    refine AllReadyH.cons rfl (fun K hK=>?_) ?_
    ·go_simp
     refine hK.out _ _ (y3') (fun hHeld=>?_)
     clear hK K
     refine wpAnyH_take (i:=11) (v:=?_) rfl (by kernel_rfl) (by kernel_rfl) (by kernel_rfl) (fun _ _ _ h=>h) (Or.inl ⟨by kernel_rfl,?_⟩) hHeld0 ?_
     rotate_left 1
     ·intro w hSw;(try dsimp only at hSw);have x2:=hSw;go_simp;(try with_reducible rfl)
     (try simp only [Act.put,List.setIfInBounds_toArray,List.set_cons_zero,List.set_cons_succ])
     refine wpAnyH_take (i:=12) (v:=?_) rfl (by kernel_rfl) (by kernel_rfl) (by kernel_rfl) (fun _ _ _ h=>h) (Or.inl ⟨by kernel_rfl,?_⟩) hHeld0 ?_
     rotate_left 1
     ·intro w hSw;(try dsimp only at hSw);have x2:=hSw;go_simp;(try with_reducible rfl)
     (try simp only [Act.put,List.setIfInBounds_toArray,List.set_cons_zero,List.set_cons_succ])
     refine wpAnyH_ready (rs:=[13]) (by kernel_rfl) (by simp) ?_
     refine AllReadyH.cons rfl (fun K hK=>?_) ?_
     ·go_simp
      refine hK.out _ _ (y4') (fun hHeld=>?_)
      clear hK K
      refine wpAnyH_done (by kernel_rfl) ?_ _
      go_wp2
      go_roundw
      case rel=>exact ⟨k+1,_,rfl,by have:=HLT.out;omega,by go_num,HNx⟩
      case measure=>have:=HLT.out;simp [intOf];omega
     exact AllReadyH.nil
    exact AllReadyH.nil
  ·have hlti:¬ (k:Int) < (n:Int):=by omega
   have hkn:k=n:=by omega
   rw [hkn] at HM
   obtain ⟨W2,hW2⟩:∃ x,x=wx:=⟨_,rfl⟩
   rw [<-hW2] at HM
   rw [<-hW2]
   have HQ0:Hid (RZ W2 W2 [] none 0):=Lib.hid ⟨World.ownsRow_nil _ _ _ _,Below.refl _ _⟩
   clear hk hlt hkn hW2
   go_wp2_with fail
   go_loopw [10,41] (fun l i wr=>∃ (k:Nat) (wx:World) (rs:List Int) (a:Option Addr) (q c:Nat),wx=wr/\k<=ln/\l=.slice a q c/\i=.int .i64 k/\Hid (q=rs.length)/\Hid (RZ W2 wx rs a c)/\Hid (rs=(live.take k).map (fun x=>mostN S rep x.toNat n))) (fun _ i _=>ln - (intOf i).toNat)
   case atStart=>exact ⟨0,_,[],none,0,0,rfl,by omega,rfl,rfl,Lib.hid rfl,HQ0,Lib.hid rfl⟩
   case round=>
    clear HQ0
    obtain ⟨k,wx,rs,a,q,c,rfl,hk,rfl,rfl,HQq,HQ,HRs⟩:=hrel
    by_cases hlt:k < ln
    ·have hlti2:(k:Int) < (ln:Int):=by omega
     have HLT:=Lib.hid hlt
     have hbw:=after HM.out.1 HQ.out.kk
     have hll:=HLv.out wx hbw
     obtain ⟨v,hv⟩:∃ v,live[k]?=some v:=⟨_,List.getElem?_eq_getElem (by rw [HLl.out];exact hlt)⟩
     obtain ⟨lb,lo,hla,-,-⟩:=hll.cells (by intro e;rw [e] at hv;cases hv)
     subst hla
     have l0:wx.cell? ⟨lb,lo+k,none⟩=some (.int .i64 v):=ints_cells hll (Below.refl _ _) hv
     obtain ⟨v0,v1⟩:=HLi.out v (List.mem_of_getElem? hv)
     obtain ⟨p,hp⟩:∃ p:Nat,v=(p:Int):=⟨v.toNat,by omega⟩
     subst hp
     obtain ⟨mo,hmo⟩:∃ x,x=mostN S rep p n:=⟨_,rfl⟩
     have z0:wx.cell? ⟨mb,p,none⟩=some (.int .i64 mo):=by rw [(HM.out.2.next HQ.out.kk).cell];exact inA_get (by rw [hmo];exact mostL_get (by omega))
     have hpi:(p:Int) < (n:Int):=v1
     have HR5:Hid (rs ++ [mo]=(live.take (k+1)).map (fun x=>mostN S rep x.toNat n)):=Lib.hid (by rw [List.take_add_one,hv,List.map_append,<-HRs.out,hmo];rfl)
     have hql:Hid (q<=256):=Lib.hid (by rw [HQq.out,HRs.out,List.length_map];have:=List.length_take_le k live;have:=HLn.out;have:=HLl.out;rw [List.length_take];omega)
     have hx0:Hid (W2.heap.size<=wx.heap.size):=Lib.hid HQ.out.kk.size
     have HNw:Hid ((wx.alloc (.cells #[.int .i64 mo] 3)).heap[wx.heap.size]?=some (.cells #[.int .i64 mo] 3)):=Lib.hid (heap_alloc_new wx _)
     clear hbw hll hv v0 v1 hmo hlt hk
     go_wp2_with (at_builtin;refine wpList_append_lies _ rfl _ _ 23 rfl W2.heap.size 3 i0 (.int .i64 0) 1 8 Tryz.underlying23 hi hz0 hz1 hz2 rfl (by decide) (.slice a q c) q (rs.flatMap enZ) rfl (by have:=HQ.out.oo;rw [<-HQq.out] at this;exact this.alloc _) ⟨wx.heap.size,0,none⟩ 1 1 (enZ mo) rfl rfl (World.news_of_block (cs:=#[.int .i64 mo]) (t:=3) (fr:=(0,0)) HNw.out) (by simp [enZ,Value.oneCell']) (by decide) (by have:=hql.out;unfold maxLen;omega) (by have:=hql.out;omega) (by have:=hx0.out;simp;omega) (wx.heap.size+1) (by simp) ?_;intro g cap w2 hown2 hgrow2 hlie2 hlt2)
     rw [HQq.out] at hown2 hgrow2
     have HQ2:=Lib.hid (HQ.out.grow hown2 hgrow2)
     have HQq2:Hid (q+1=(rs ++ [mo]).length):=Lib.hid (by rw [HQq.out];simp)
     clear hown2 hgrow2 hlie2 hlt2 HNw
     go_roundw
     case rel=>exact ⟨k+1,_,_,_,_,_,rfl,by have:=HLT.out;omega,rfl,by go_num,HQq2,HQ2,HR5⟩
     case measure=>have:=HLT.out;simp [intOf];omega
    ·have hlti2:¬ (k:Int) < (ln:Int):=by omega
     have hkl:k=ln:=by omega
     have HEnd:Hid (rs=live.map (fun x=>mostN S rep x.toNat n)):=Lib.hid (by rw [HRs.out,hkl,List.take_of_length_le (by have:=HLl.out;omega)])
     clear hk hlt hkl
     go_wp2
     go_ret
     rw [<-HEnd.out]
     exact ⟨a,c,by rw [<-HQq.out];rfl,owns_down HQ.out.oo HM.out.1.size,after HM.out.1 HQ.out.kk⟩
end Go.Proofs.YtbabckomagkjbaaGreatDoor
namespace Go.Proofs.YtbabckomagkjbaaGreatDoor
open Go.ChangeShapes Go.WideShapes Go.Deep Go.RowKit
theorem enz_len (x:Int):(enZ x).length=1:=rfl
theorem owns_slZ {w:World} {b:Nat} {a:Option Addr} {c:Nat} {l:List Int} (h:w.ownsRow b 3 1 (.slice a l.length c) l.length (l.flatMap enZ)):SL enZ 1 w w.heap.size a l.length l:=by
 obtain ⟨a',c',e,h',-⟩:=SL.ofOwns enz_len (by decide) h
 injection e with e1 e2 e3
 subst e1
 exact h'
theorem flat_nz (l:List Nat):l.flatMap enI=(l.map Int.ofNat).flatMap enZ:=by
 induction l with
 | nil=>rfl
 | cons x t ih=>rw [List.flatMap_cons,List.map_cons,List.flatMap_cons,ih];rfl
theorem owns_slN {w:World} {b:Nat} {a:Option Addr} {c:Nat} {l:List Nat} (h:w.ownsRow b 3 1 (.slice a l.length c) l.length (l.flatMap enI)):SL enZ 1 w w.heap.size a l.length (l.map Int.ofNat):=by
 have h2:w.ownsRow b 3 1 (.slice a (l.map Int.ofNat).length c) (l.map Int.ofNat).length ((l.map Int.ofNat).flatMap enZ):=by rw [<-flat_nz,List.length_map];exact h
 have:=owns_slZ h2
 rw [List.length_map] at this
 exact this
theorem rootsN_few:∀ (l:List Sc) (k:Nat) (e:Int),(rootsN k e l).length<=l.length
 | [],k,e=>Nat.le_refl _
 | s :: t,k,e=>by
  have:=rootsN_few t (k+1) e
  unfold rootsN
  split
  ·simp;omega
  ·simp;omega
def rootZ (S:List Sc) (e:Int):List Int:=(rootsN 0 e S).map Int.ofNat
noncomputable def inS (S:List Sc) (e:Int):List Bool:=reachB S (rootZ S e)
def ShrP (S:List Sc) (e0:Int) (n:Nat) (w:World) (e:Ending) (w':World):Prop:=
 ∃ (j Z:Nat) (la:Option Addr) (lc:Nat) (aa:Option Addr) (ac:Nat),nextP S (inS S e0) (foldN S (inS S e0) j)=foldN S (inS S e0) j/\
  e=.returned (.tuple #[.agg #[.slice (some ⟨Z,0,none⟩) n n,.slice la (standL S (endL (inS S e0) (foldN S (inS S e0) j))).length lc,.slice aa (standL S (endL (inS S e0) (foldN S (inS S e0) j))).length ac],.int .i64 0])/\
  RB w' Z (inA (endL (inS S e0) (foldN S (inS S e0) j))) 3/\SL enZ 1 w' w'.heap.size la (standL S (endL (inS S e0) (foldN S (inS S e0) j))).length ((standL S (endL (inS S e0) (foldN S (inS S e0) j))).map Int.ofNat)/\
  SL enZ 1 w' w'.heap.size aa (standL S (endL (inS S e0) (foldN S (inS S e0) j))).length (alignL S (endL (inS S e0) (foldN S (inS S e0) j)))/\Below w.heap.size w w'
def keptZ:Array Value:=#[.slice none 0 0,.slice none 0 0,.slice none 0 0]
theorem owns_set {w:World} {base:Nat} {e:TypeId} {size:Nat} {v:Value} {n:Nat} {xs:List Value} {X o:Nat} {y:Value} (h:w.ownsRow base e size v n xs) (hX:X < base):(w.setCell ⟨X,o,none⟩ y).ownsRow base e size v n xs:=by
 refine ⟨h.1,?_⟩
 rcases h.2 with h1 | ⟨g,cap,cur,e1,e2,e3,e4⟩
 ·exact .inl h1
 ·exact .inr ⟨g,cap,cur,e1,e2,(hother (by omega)).trans e3,e4⟩
theorem live_rng {S:List Sc} {rep:List Int} (hl:rep.length=S.length):∀ x ∈ (standL S rep).map Int.ofNat,0<=x/\x < (S.length:Int):=by
 intro x hx
 obtain ⟨k,hk,rfl⟩:=List.mem_map.1 hx
 have:=(List.getElem?_eq_some_iff.1 (standL_mem.1 hk)).1
 simp only [Int.ofNat_eq_natCast]
 omega
theorem end_lt {S:List Sc} {ins:List Bool} {j:Nat} (hin:ins.length=S.length):∀ (k:Nat) (v:Int),(endL ins (foldN S ins j))[k]?=some v->v < (S.length:Int):=by
 intro k v hv
 have hk:k < S.length:=by have:=(List.getElem?_eq_some_iff.1 hv).1;rwa [endL_len,foldN_len] at this
 obtain ⟨v',hv',-,hlt⟩:=left_iff (j:=j) hin hk
 rw [hv] at hv'
 rw [Option.some.inj hv'];exact hlt
theorem shrink_yes (w:World) (ua:Option Addr) (n uc:Nat) (L:List Ms) (e0:Int) (hn:n<=maxLen) (hs:SL msC 6 w w.heap.size ua n L) (hno:Notes w w.heap.size L) (hg:∀ x ∈ L,GoodSc x.sc) (hb:∀ x ∈ L,x.sc.rels.length*32<=reachBytes) (hT:TabP w) (h:unitsR (L.map (·.sc))=true/\0<=e0/\e0 < (n:Int)):
  Calls Tryz.prog 27 #[.slice ua n uc,.int .i64 e0] w (ShrP (L.map (·.sc)) e0 n w):=by
 have hlen:(L.map (·.sc)).length=n:=by rw [List.length_map];exact hs.len.symm
 have hn2:n<=256:=by have:=units_len h.1;rw [hlen] at this;exact this
 obtain ⟨W1,hW1⟩:∃ x,x=w.alloc (.cells keptZ 46):=⟨_,rfl⟩
 have hb1:Below w.heap.size w W1:=by rw [hW1];exact lit_below w _
 have hr1:RB W1 w.heap.size keptZ 46:=by rw [hW1];exact rb_new w _ _
 have HRo:=Lib.hid (gRoots_any ua n uc L e0 W1 hn (hs.next hb1) (hno.next hb1) hg hb (hT.next hb1))
 have HRe:Hid (∀ u a c rn R,Below w.heap.size w u->SL enZ 1 u u.heap.size a rn R->rn<=1000000->Calls Tryz.prog 12 #[.slice ua n uc,.slice a rn c] u (ReachR (L.map (·.sc)) R u)):=Lib.hid fun u a c rn R hu hr hrn=>gReach_any ua n uc L a rn c R u hn (hs.next hu) (hno.next hu) hg hb hr hrn (hT.next hu)
 have HFo:Hid (∀ u g c ins,Below w.heap.size w u->SL enB 1 u u.heap.size (some ⟨g,0,none⟩) n ins->Calls Tryz.prog 20 #[.slice ua n uc,.slice (some ⟨g,0,none⟩) n c] u (FoldP (L.map (·.sc)) ins n u)):=Lib.hid fun u g c ins hu hi=>fold_yes u ua n uc L _ c ins hn (hs.next hu) (hno.next hu) hg hb hi (hT.next hu) h.1
 have HSt:Hid (∀ u Z c rep,Below w.heap.size w u->SL enZ 1 u u.heap.size (some ⟨Z,0,none⟩) n rep->Calls Tryz.prog 58 #[.slice ua n uc,.slice (some ⟨Z,0,none⟩) n c] u (RowP (standL (L.map (·.sc)) rep) u)):=Lib.hid fun u Z c rep hu hr=>standing_any u ua n uc L _ c rep hn2 (hs.next hu) hr
 have HAl:Hid (∀ u Z c rep la ln lc live,Below w.heap.size w u->SL enZ 1 u u.heap.size (some ⟨Z,0,none⟩) n rep->SL enZ 1 u u.heap.size la ln live->(∀ (k:Nat) (v:Int),rep[k]?=some v->v < (n:Int))->(∀ x ∈ live,0<=x/\x < (n:Int))->ln<=256->
   Calls Tryz.prog 59 #[.slice ua n uc,.slice (some ⟨Z,0,none⟩) n c,.slice la ln lc] u (RowZ (live.map (fun x=>mostN (L.map (·.sc)) rep x.toNat n)) u)):=Lib.hid fun u Z c rep la ln lc live hu hr hl h1 h2 h3=>aligns_any u ua n uc L _ c rep la ln lc live hn2 (hs.next hu) hr hl h1 h2 h3
 have HWE:Hid (w.alloc (.cells #[.slice none 0 0,.slice none 0 0,.slice none 0 0] 46)=W1):=Lib.hid hW1.symm
 have HB1:=Lib.hid hb1
 have HR1:=Lib.hid hr1
 obtain ⟨S,hS⟩:∃ S,S=L.map (·.sc):=⟨_,rfl⟩
 rw [<-hS] at hlen h HRo HRe HFo HSt HAl
 have HY:Hid (unitsR S=true/\0<=e0/\e0 < (S.length:Int)):=Lib.hid (by rw [hlen];exact h)
 have HLn:=Lib.hid hlen
 have HN2:=Lib.hid hn2
 rw [<-hS]
 obtain ⟨X,hX⟩:∃ x,x=w.heap.size:=⟨_,rfl⟩
 have HX:=Lib.hid hX
 rw [<-hX] at HR1
 clear hs hno hg hb hT h hlen hW1 hb1 hr1 hn hX hn2 hS
 go_enter Tryz.func27,Tryz.ntmps27
 go_wp2_with fail
 rw [HWE.out,<-HX.out]
 refine HRo.out.mono ?_
 intro e u1 hro
 unfold RootsR at hro
 rw [if_pos HY.out] at hro
 obtain ⟨ra,rc,rfl,hoo,hb⟩:=hro
 have HB2:=Lib.hid (after HB1.out hb)
 have HR2:=Lib.hid (HR1.out.next hb)
 have HSz:=Lib.hid (owns_slN hoo)
 have HRn:Hid ((rootsN 0 e0 S).length<=1000000):=Lib.hid (by have h1:=rootsN_few S 0 e0;have h2:=HLn.out;have h3:=HN2.out;omega)
 have HRi:Hid (unitsR S=true/\rootsB (rootZ S e0) S.length=true):=Lib.hid ⟨HY.out.1,roots_in S e0⟩
 obtain ⟨rn,hrn⟩:∃ x,x=(rootsN 0 e0 S).length:=⟨_,rfl⟩
 rw [<-hrn] at HSz HRn ⊢
 clear hoo hb hrn
 go_wp2_with fail
 refine (HRe.out u1 ra rc rn (rootZ S e0) HB2.out HSz.out HRn.out).mono ?_
 intro e u2 hre
 unfold ReachR at hre
 rw [if_pos HRi.out] at hre
 obtain ⟨g,rfl,hrb,-,hb⟩:=hre
 have HB3:=Lib.hid (after HB2.out hb)
 have HR3:=Lib.hid (HR2.out.next hb)
 have HIn:Hid (SL enB 1 u2 u2.heap.size (some ⟨g,0,none⟩) n (inS S e0)):=Lib.hid (by have:=rb_sl hrb;rw [reachB_len,HLn.out] at this;exact this)
 have HIl:Hid ((inS S e0).length=S.length):=Lib.hid (reachB_len _ _)
 rw [HLn.out]
 clear hb hrb HSz HRn HRe HRo
 obtain ⟨ins,hins⟩:∃ x,x=inS S e0:=⟨_,rfl⟩
 have HIe:=Lib.hid hins
 rw [<-hins] at HIn HIl
 clear hins
 go_wp2_with fail
 refine (HFo.out u2 g n ins HB3.out HIn.out).mono ?_
 rintro e u3 ⟨j,Z,hfx,rfl,hr,hb⟩
 have HB4:=Lib.hid (after HB3.out hb)
 have HR4:=Lib.hid (HR3.out.next hb)
 have HFx:=Lib.hid hfx
 obtain ⟨rep,hrep⟩:∃ x,x=endL ins (foldN S ins j):=⟨_,rfl⟩
 have HRp:=Lib.hid hrep
 have hrl:rep.length=n:=by rw [hrep,endL_len,foldN_len];exact HLn.out
 have HLt:Hid (∀ (k:Nat) (v:Int),rep[k]?=some v->v < (n:Int)):=Lib.hid (by rw [hrep,<-HLn.out];exact end_lt HIl.out)
 rw [<-hrep] at hr
 have HZ:=Lib.hid hr
 have HZs:Hid (SL enZ 1 u3 u3.heap.size (some ⟨Z,0,none⟩) n rep):=Lib.hid (by have:=rb_slI hr;rw [hrl] at this;exact this)
 have HRl:=Lib.hid hrl
 clear hfx hr hb hrep hrl HFo HIn
 go_wp2_with fail
 refine (HSt.out u3 Z n rep HB4.out HZs.out).mono ?_
 rintro e u4 ⟨la,lc,rfl,hoo,hb⟩
 have HB5:=Lib.hid (after HB4.out hb)
 have HR5:=Lib.hid (HR4.out.next hb)
 have HZ5:=Lib.hid (HZ.out.next hb)
 have HZs5:=Lib.hid (HZs.out.next hb)
 have HLo:=Lib.hid hoo
 have HX3:=Lib.hid (lt_of_block HR4.out)
 have HLv:=Lib.hid (owns_slN hoo)
 have HLr:Hid (∀ x ∈ (standL S rep).map Int.ofNat,0<=x/\x < (n:Int)):=Lib.hid (by rw [<-HLn.out];exact live_rng (by rw [HRl.out,HLn.out]))
 have HLm:Hid ((standL S rep).length<=256):=Lib.hid (by rw [standL_len];have:=selfL_len rep;have:=HRl.out;have:=HN2.out;omega)
 obtain ⟨ln,hln⟩:∃ x,x=(standL S rep).length:=⟨_,rfl⟩
 have HLe:=Lib.hid hln
 rw [<-hln] at HLv HLm HLo ⊢
 clear hoo hb hln HZ HZs HSt HR4
 go_wp2_with fail
 refine (HAl.out u4 Z n rep la ln lc _ HB5.out HZs5.out HLv.out HLt.out HLr.out HLm.out).mono ?_
 rintro e u5 ⟨aa,ac,rfl,hoo,hb⟩
 have hal:((standL S rep).map Int.ofNat).map (fun x=>mostN S rep x.toNat n)=alignL S rep:=by
  unfold alignL
  rw [List.map_map,HRl.out]
  rfl
 rw [hal] at hoo ⊢
 have hll:(alignL S rep).length=ln:=by unfold alignL;rw [List.length_map,HLe.out]
 rw [hll] at hoo ⊢
 have hrv:=HR5.out.next hb
 obtain ⟨vA,hvA⟩:∃ v:Value,v=.slice (some ⟨Z,0,none⟩) n n:=⟨_,rfl⟩
 obtain ⟨vB,hvB⟩:∃ v:Value,v=.slice la ln lc:=⟨_,rfl⟩
 obtain ⟨vC,hvC⟩:∃ v:Value,v=.slice aa ln ac:=⟨_,rfl⟩
 have hle:w.heap.size<=X:=by rw [<-HX.out];exact Nat.le_refl _
 have hXZ:X ≠ Z:=by
  intro e
  have h1:=HZ5.out.next hb
  rw [<-e] at h1
  have h2:=hrv.symm.trans h1
  simp [inA] at h2
 have hbF:Below u5.heap.size u5 u5:=Below.refl _ _
 have HRF:Hid (RB (((u5.setCell ⟨X,0,none⟩ vA).setCell ⟨X,1,none⟩ vB).setCell ⟨X,2,none⟩ vC) X #[vA,vB,vC] 46):=Lib.hid (((hrv.set (j:=0) _).set (j:=1) _).set (j:=2) _)
 have HBF:Hid (Below w.heap.size w (((u5.setCell ⟨X,0,none⟩ vA).setCell ⟨X,1,none⟩ vB).setCell ⟨X,2,none⟩ vC)):=Lib.hid ((((after HB5.out hb).setCell (p:=⟨X,0,none⟩) hle _).setCell (p:=⟨X,1,none⟩) hle _).setCell (p:=⟨X,2,none⟩) hle _)
 have HZF:Hid (RB (((u5.setCell ⟨X,0,none⟩ vA).setCell ⟨X,1,none⟩ vB).setCell ⟨X,2,none⟩ vC) Z (inA rep) 3):=Lib.hid ((hother (Ne.symm hXZ)).trans ((hother (Ne.symm hXZ)).trans ((hother (Ne.symm hXZ)).trans (HZ5.out.next hb))))
 have z0:u5.cell? ⟨X,0,none⟩=some (.slice none 0 0):=hrv.cell
 have z1:u5.cell? ⟨X,1,none⟩=some (.slice none 0 0):=hrv.cell
 have z2:u5.cell? ⟨X,2,none⟩=some (.slice none 0 0):=hrv.cell
 have q0:u5.frozen? ⟨X,0,none⟩=false:=hrv.frozen
 have q1:u5.frozen? ⟨X,1,none⟩=false:=hrv.frozen
 have q2:u5.frozen? ⟨X,2,none⟩=false:=hrv.frozen
 have HLF:=Lib.hid (owns_set (o:=2) (y:=vC) (owns_set (o:=1) (y:=vB) (owns_set (o:=0) (y:=vA) (owns_next HLo.out hb) HX3.out) HX3.out) HX3.out)
 have HX4:X < u4.heap.size:=lt_of_block HR5.out
 have HAF:=Lib.hid (owns_set (o:=2) (y:=vC) (owns_set (o:=1) (y:=vB) (owns_set (o:=0) (y:=vA) hoo HX4) HX4) HX4)
 have HLL:=Lib.hid hll
 have HFin:Hid (ShrP S e0 n w (.returned (.tuple #[.agg #[vA,vB,vC],.int .i64 0])) (((u5.setCell ⟨X,0,none⟩ vA).setCell ⟨X,1,none⟩ vB).setCell ⟨X,2,none⟩ vC)):=Lib.hid (by
  have h1:=HLF.out
  have h2:=HAF.out
  refine ⟨j,Z,la,lc,aa,ac,by rw [<-HIe.out];exact HFx.out,?_,?_,?_,?_,HBF.out⟩
  ·rw [<-HIe.out,<-HRp.out,<-HLe.out,hvA,hvB,hvC]
  ·rw [<-HIe.out,<-HRp.out];exact HZF.out
  ·rw [<-HIe.out,<-HRp.out,<-HLe.out]
   rw [HLe.out] at h1 ⊢
   exact owns_slN h1
  ·rw [<-HIe.out,<-HRp.out,<-HLe.out]
   rw [<-HLL.out] at h2 ⊢
   exact owns_slZ h2)
 subst hvA hvB hvC
 clear hrv hb hle hXZ hbF hoo hal hll HX4 HLF HAF HZF
 go_wp2
 refine bodyPost_ret (results_cell_two (P:=Tryz.prog) rfl _ _ X 46 _ (0,0) _ (.int .i64 0) rfl HRF.out Tryz.underlying46 rfl (by kernel_rfl) rfl) rfl ?_
 exact HFin.out
end Go.Proofs.YtbabckomagkjbaaGreatDoor
