/- fold's law: folded. -/
import Derived.Test.YtbabckomagkjbaaGreatDoorj2
set_option maxRecDepth 100000
set_option maxHeartbeats 8000000
set_option linter.unusedVariables false
set_option linter.unusedSimpArgs false
namespace Go.Proofs.YtbabckomagkjbaaGreatDoor
open Go.ChangeShapes Go.WideShapes Go.Deep Go.RowKit
def mCal (nm:List UInt8) (tt:Int) (b:Nat):Ms:=⟨calSc nm tt,some ⟨b,0,none⟩,1⟩
def mRet:Ms:=⟨retSc,none,0⟩
theorem cal_notes {u:World} {b:Nat} {tt:Int} (h:RB u b #[.int .i64 0,.int .i64 2,.int .i64 tt,.int .i64 0] 61) (nm:List UInt8):SL rlC 4 u u.heap.size (mCal nm tt b).ad (mCal nm tt b).sc.rels.length (mCal nm tt b).sc.rels:=by
 refine ⟨rfl,fun _=>⟨b,0,rfl,lt_of_block h,fun k hk j hj=>?_⟩⟩
 have hk0:k=0:=by have:k < 1:=hk;omega
 subst hk0
 rw [show 0+0*4+j=j from by omega,h.cell]
 rcases (by omega:j=0\/j=1\/j=2\/j=3) with rfl | rfl | rfl | rfl <;> rfl
theorem ret_notes (u:World):SL rlC 4 u u.heap.size mRet.ad mRet.sc.rels.length mRet.sc.rels:=⟨rfl,fun h=>absurd rfl h⟩
theorem cal_good (nm:List UInt8) (tt:Int) (b:Nat) (hn:nm.length<=10) (ht:0<=tt/\tt<=10):GoodSc (mCal nm tt b).sc:=by
 refine ⟨?_,?_,?_,?_,?_⟩
 ·show nm.length<=_;unfold maxLen;omega
 ·show i64ok 1;unfold i64ok;omega
 ·show i64ok 0;unfold i64ok;omega
 ·show 4<=_;unfold maxLen;omega
 ·intro r hr
  have:r=⟨0,2,tt,0⟩:=List.mem_singleton.1 hr
  subst this
  refine ⟨?_,?_,?_,?_⟩ <;> (simp only [i64ok];omega)
theorem ret_good:GoodSc mRet.sc:=by
 refine ⟨?_,?_,?_,?_,?_⟩
 ·show 1<=_;unfold maxLen;omega
 ·show i64ok 1;unfold i64ok;omega
 ·show i64ok 0;unfold i64ok;omega
 ·show 4<=_;unfold maxLen;omega
 ·intro r hr;cases hr
theorem cal_few (nm:List UInt8) (tt:Int) (b:Nat):(mCal nm tt b).sc.rels.length*32<=reachBytes:=by show 1*32<=_;unfold reachBytes;omega
theorem ret_few:mRet.sc.rels.length*32<=reachBytes:=Nat.zero_le _
theorem units_lit (u:World) (L:List Ms):SL msC 6 (u.alloc (.cells (L.flatMap msC).toArray 43)) (u.alloc (.cells (L.flatMap msC).toArray 43)).heap.size (some ⟨u.heap.size,0,none⟩) L.length L:=by
 rw [World.size_alloc];exact SL.lit u 43 L ms_len (by decide) _ rfl L.length rfl
theorem bools_lit (u:World) (l:List Bool):SL enB 1 (u.alloc (.cells (l.flatMap enB).toArray 4)) (u.alloc (.cells (l.flatMap enB).toArray 4)).heap.size (some ⟨u.heap.size,0,none⟩) l.length l:=by
 rw [World.size_alloc];exact SL.lit u 4 l enB_len (by decide) _ rfl l.length rfl
theorem fold_lit {u:World} {ua ia:Option Addr} {uc ic n:Nat} {L:List Ms} {ins:List Bool} {S:List Sc} (hn:n<=10) (hL:L.map (·.sc)=S) (hs:SL msC 6 u u.heap.size ua n L) (hno:∀ m ∈ L,SL rlC 4 u u.heap.size m.ad m.sc.rels.length m.sc.rels) (hg:∀ m ∈ L,GoodSc m.sc) (hb:∀ m ∈ L,m.sc.rels.length*32<=reachBytes) (hi:SL enB 1 u u.heap.size ia n ins) (hT:TabP u) (h:unitsR S=true):
  Calls Tryz.prog 20 #[.slice ua n uc,.slice ia n ic] u (FoldP S ins n u):=by
 subst hL
 exact fold_yes u ua n uc L ia ic ins (by unfold maxLen;omega) hs hno hg hb hi hT h
theorem saved_lit {u:World} {ua ia:Option Addr} {uc ic n:Nat} {L:List Ms} {ins:List Bool} {S:List Sc} (hn:n<=10) (hL:L.map (·.sc)=S) (hs:SL msC 6 u u.heap.size ua n L) (hno:∀ m ∈ L,SL rlC 4 u u.heap.size m.ad m.sc.rels.length m.sc.rels) (hg:∀ m ∈ L,GoodSc m.sc) (hb:∀ m ∈ L,m.sc.rels.length*32<=reachBytes) (hi:SL enB 1 u u.heap.size ia n ins) (hT:TabP u) (h:unitsR S=true):
  Calls Tryz.prog 22 #[.slice ua n uc,.slice ia n ic] u (SavP S ins n u):=by
 subst hL
 exact saved_yes u ua n uc L ia ic ins (by unfold maxLen;omega) hs hno hg hb hi hT h
abbrev retA:Array Value:=#[.string ⟨#[114]⟩,.int .i64 1,.bool false,.int .i64 0,.string ⟨#[192,3,95,214]⟩,.slice none 0 0]
theorem folded_is (w:World) (hT:TabP w):Calls Tryz.prog 24 #[] w (RetB (.bool true) w):=by
 obtain ⟨H,hH⟩:∃ H,H=w.heap.size:=⟨_,rfl⟩
 obtain ⟨W1,hW1⟩:∃ x,x=w.alloc (.cells retA 43):=⟨_,rfl⟩
 have hb1:Below w.heap.size w W1:=by rw [hW1];exact lit_below w _
 have hr1:RB W1 H retA 43:=by rw [hW1,hH];exact rb_new w _ _
 obtain ⟨v0,hv0⟩:∃ x,x=W1.drew:=⟨_,rfl⟩
 have hbd:Below W1.heap.size W1 v0:=by rw [hv0];exact (Below.refl _ _).drew
 have HV0:Hid (Below w.heap.size w v0/\RB v0 H retA 43):=Lib.hid ⟨after hb1 hbd,hr1.next hbd⟩
 have HKS:Hid (∀ v,Below w.heap.size w v/\RB v H retA 43->(fun v=>v.cell? ⟨H,0,none⟩=some (.string ⟨#[114]⟩)/\v.cell? ⟨H,1,none⟩=some (.int .i64 1)/\v.cell? ⟨H,2,none⟩=some (.bool false)/\v.cell? ⟨H,3,none⟩=some (.int .i64 0)/\v.cell? ⟨H,4,none⟩=some (.string ⟨#[192,3,95,214]⟩)/\v.cell? ⟨H,5,none⟩=some (.slice none 0 0)) v):=Lib.hid (fun v hv=>⟨hv.2.cell,hv.2.cell,hv.2.cell,hv.2.cell,hv.2.cell,hv.2.cell⟩)
 have HST:Hid (∀ v v',(Below w.heap.size w v/\RB v H retA 43)->Below v.heap.size v v'->(Below w.heap.size w v'/\RB v' H retA 43)):=Lib.hid (fun v v' hv hb=>⟨after hv.1 hb,hv.2.next hb⟩)
 have HT:=Lib.hid hT
 have HH:=Lib.hid hH
 have HWE:Hid (w.alloc (.cells retA 43)=W1):=Lib.hid hW1.symm
 clear hb1 hr1 hT hW1 hH hbd
 go_enter Tryz.func24,Tryz.ntmps24
 go_wp2_with fail
 rw [HWE.out,<-HH.out]
 refine wp_region_held_drew (S:=fun v=>v.cell? ⟨H,0,none⟩=some (.string ⟨#[114]⟩)/\v.cell? ⟨H,1,none⟩=some (.int .i64 1)/\v.cell? ⟨H,2,none⟩=some (.bool false)/\v.cell? ⟨H,3,none⟩=some (.int .i64 0)/\v.cell? ⟨H,4,none⟩=some (.string ⟨#[192,3,95,214]⟩)/\v.cell? ⟨H,5,none⟩=some (.slice none 0 0)) (by kernel_rfl) (HKS.out _ (by rw [<-hv0];exact HV0.out)) (fun hHeld=>?_)
 rw [<-hv0] at*
 clear hv0
 refine wpAnyH_take (i:=2) (v:=?_) rfl (by kernel_rfl) (by kernel_rfl) (by kernel_rfl) (fun _ _ _ h=>h) (Or.inl ⟨by kernel_rfl,?_⟩) (by assumption) ?_
 rotate_left 1
 ·intro w hSw;(try dsimp only at hSw);obtain ⟨y0,y1,y2,y3,y4,y5⟩:=hSw;go_simp;(try with_reducible rfl)
 (try simp only [Act.put,List.setIfInBounds_toArray,List.set_cons_zero,List.set_cons_succ])
 refine wpAnyH_take (i:=3) (v:=?_) rfl (by kernel_rfl) (by kernel_rfl) (by kernel_rfl) (fun _ _ _ h=>h) (Or.inl ⟨by kernel_rfl,?_⟩) (by assumption) ?_
 rotate_left 1
 ·intro w hSw;(try dsimp only at hSw);obtain ⟨y0,y1,y2,y3,y4,y5⟩:=hSw;go_simp;(try with_reducible rfl)
 (try simp only [Act.put,List.setIfInBounds_toArray,List.set_cons_zero,List.set_cons_succ])
 refine wpAnyH_ready (rs:=[0,5]) (by kernel_rfl) (by simp) ?_
 refine AllReadyH.cons rfl (fun K hK=>?_) ?_
 ·go_simp;go_wp2_with (go_at_call 57;refine (caller_any _ _ _).mono ?_;rintro e v1 ⟨b1,rfl,hq,-,hb⟩)
  have HV1:=Lib.hid (HST.out _ _ HV0.out hb)
  have HC11:=Lib.hid hq
  clear hq hb
  refine hK.out _ _ (HKS.out _ HV1.out) (fun hHeld=>?_)
  clear hK K
  refine wpAnyH_ready (rs:=[1,5]) (by kernel_rfl) (by simp) ?_
  refine AllReadyH.cons rfl (fun K hK=>?_) ?_
  ·go_simp;go_wp2_with (go_at_call 57;refine (caller_any _ _ _).mono ?_;rintro e v2 ⟨b2,rfl,hq,-,hb⟩)
   have HV2:=Lib.hid (HST.out _ _ HV1.out hb)
   have HC12:=Lib.hid (HC11.out.next hb)
   have HC22:=Lib.hid hq
   clear hq hb
   refine hK.out _ _ (HKS.out _ HV2.out) (fun hHeld=>?_)
   clear hK K
   refine wpAnyH_ready (rs:=[4,5]) (by kernel_rfl) (by simp) ?_
   refine AllReadyH.cons rfl (fun K hK=>?_) ?_
   ·obtain ⟨v3,hv⟩:∃ x,x=v2.alloc (.cells #[.string ⟨#[97]⟩,.int .i64 1,.bool false,.int .i64 0,.string ⟨#[0,0,0,148]⟩,.slice (some ⟨b1,0,none⟩) 1 1,.string ⟨#[98]⟩,.int .i64 1,.bool false,.int .i64 0,.string ⟨#[0,0,0,148]⟩,.slice (some ⟨b2,0,none⟩) 1 1,.string ⟨#[114]⟩,.int .i64 1,.bool false,.int .i64 0,.string ⟨#[192,3,95,214]⟩,.slice none 0 0,.string ⟨#[114]⟩,.int .i64 1,.bool false,.int .i64 0,.string ⟨#[192,3,95,214]⟩,.slice none 0 0] 43):=⟨_,rfl⟩
    have hb:Below v2.heap.size v2 v3:=by rw [hv];exact lit_below _ _
    have HV3:=Lib.hid (HST.out _ _ HV2.out hb)
    have HC13:=Lib.hid (HC12.out.next hb)
    have HC23:=Lib.hid (HC22.out.next hb)
    have HU3:Hid (SL msC 6 v3 v3.heap.size (some ⟨v2.heap.size,0,none⟩) 4 [mCal [97] 2 b1,mCal [98] 3 b2,mRet,mRet]):=Lib.hid (by rw [hv];exact units_lit v2 [mCal [97] 2 b1,mCal [98] 3 b2,mRet,mRet])
    go_simp
    rw [<-hv]
    refine hK.out _ _ (HKS.out _ HV3.out) (fun hHeld=>?_)
    clear hK K hb
    clear hv
    generalize v2.heap.size=ui at HU3 ⊢
    refine wpAnyH_ready (rs:=[5]) (by kernel_rfl) (by simp) ?_
    refine AllReadyH.cons rfl (fun K hK=>?_) ?_
    ·obtain ⟨v4,hv⟩:∃ x,x=v3.alloc (.cells #[.bool true,.bool true,.bool true,.bool true] 4):=⟨_,rfl⟩
     have hb:Below v3.heap.size v3 v4:=by rw [hv];exact lit_below _ _
     have HV4:=Lib.hid (HST.out _ _ HV3.out hb)
     have HC14:=Lib.hid (HC13.out.next hb)
     have HC24:=Lib.hid (HC23.out.next hb)
     have HU4:=Lib.hid (HU3.out.next hb)
     have HA4:Hid (SL enB 1 v4 v4.heap.size (some ⟨v3.heap.size,0,none⟩) 4 [true,true,true,true]):=Lib.hid (by rw [hv];exact bools_lit v3 [true,true,true,true])
     go_simp
     rw [<-hv]
     refine hK.out _ _ (HKS.out _ HV4.out) (fun hHeld=>?_)
     clear hK K hb
     clear hv
     generalize v3.heap.size=ai at HA4 ⊢
     refine wpAnyH_ready (rs:=[6]) (by kernel_rfl) (by simp) ?_
     refine AllReadyH.cons rfl (fun K hK=>?_) ?_
     ·have HF:=Lib.hid (fold_lit (uc:=4) (ic:=4) (n:=4) (L:=[mCal [97] 2 b1,mCal [98] 3 b2,mRet,mRet]) (S:=rowA) (by decide) rfl HU4.out (by intro x hx;simp only [List.mem_cons,List.not_mem_nil,or_false] at hx;rcases hx with rfl | rfl | rfl | rfl;exact cal_notes HC14.out _;exact cal_notes HC24.out _;exact ret_notes _;exact ret_notes _) (by intro x hx;simp only [List.mem_cons,List.not_mem_nil,or_false] at hx;rcases hx with rfl | rfl | rfl | rfl;exact cal_good _ _ _ (by decide) (by decide);exact cal_good _ _ _ (by decide) (by decide);exact ret_good;exact ret_good) (by intro x hx;simp only [List.mem_cons,List.not_mem_nil,or_false] at hx;rcases hx with rfl | rfl | rfl | rfl;exact cal_few _ _ _;exact cal_few _ _ _;exact ret_few;exact ret_few) HA4.out (HT.out.next HV4.out.1) rowA_is)
      go_simp;go_wp2_with (go_at_call 20;refine HF.out.mono ?_;rintro e vF ⟨jA,ZA,hfx,rfl,hr,hb⟩)
      have HVF:=Lib.hid (HST.out _ _ HV4.out hb)
      rw [rowA_fix hfx,rowA_end] at hr
      have HZA:=Lib.hid hr
      clear hr hb hfx HF
      refine hK.out _ _ (HKS.out _ HVF.out) (fun hHeld=>?_)
      clear hK K
      refine wpAnyH_take (i:=7) (v:=?_) rfl (by kernel_rfl) (by kernel_rfl) (by kernel_rfl) (fun _ _ _ h=>h) (Or.inl ⟨by kernel_rfl,?_⟩) (by assumption) ?_
      rotate_left 1
      ·intro w hSw;(try dsimp only at hSw);obtain ⟨y0,y1,y2,y3,y4,y5⟩:=hSw;go_simp;(try with_reducible rfl)
      (try simp only [Act.put,List.setIfInBounds_toArray,List.set_cons_zero,List.set_cons_succ])
      refine wpAnyH_take (i:=8) (v:=?_) rfl (by kernel_rfl) (by kernel_rfl) (by kernel_rfl) (fun _ _ _ h=>h) (Or.inl ⟨by kernel_rfl,?_⟩) (by assumption) ?_
      rotate_left 1
      ·intro w hSw;(try dsimp only at hSw);obtain ⟨y0,y1,y2,y3,y4,y5⟩:=hSw;go_simp;(try with_reducible rfl)
      (try simp only [Act.put,List.setIfInBounds_toArray,List.set_cons_zero,List.set_cons_succ])
      refine wpAnyH_take (i:=9) (v:=?_) rfl (by kernel_rfl) (by kernel_rfl) (by kernel_rfl) (fun _ _ _ h=>h) (Or.inl ⟨by kernel_rfl,?_⟩) (by assumption) ?_
      rotate_left 1
      ·intro w hSw;(try dsimp only at hSw);obtain ⟨y0,y1,y2,y3,y4,y5⟩:=hSw;go_simp;(try with_reducible rfl)
      (try simp only [Act.put,List.setIfInBounds_toArray,List.set_cons_zero,List.set_cons_succ])
      refine wpAnyH_ready (rs:=[10]) (by kernel_rfl) (by simp) ?_
      refine AllReadyH.cons rfl (fun K hK=>?_) ?_
      ·go_simp
       refine hK.out _ _ (HKS.out _ HVF.out) (fun hHeld=>?_)
       clear hK K
       refine wpAnyH_ready (rs:=[11]) (by kernel_rfl) (by simp) ?_
       refine AllReadyH.cons rfl (fun K hK=>?_) ?_
       ·go_simp
        refine hK.out _ _ (HKS.out _ HVF.out) (fun hHeld=>?_)
        clear hK K
        refine wpAnyH_done (by kernel_rfl) ?_ _
        go_wp2_with fail
        refine (caller_any _ _ _).mono ?_
        rintro e x1 ⟨c1,rfl,hq,-,hb⟩
        have HV1:=Lib.hid (HST.out _ _ HVF.out hb)
        have HZ1:=Lib.hid (HZA.out.next hb)
        have HQ1:=Lib.hid hq
        clear hq hb
        go_wp2_with fail
        refine (caller_any _ _ _).mono ?_
        rintro e x2 ⟨c2,rfl,hq,-,hb⟩
        have HV2:=Lib.hid (HST.out _ _ HV1.out hb)
        have HZ2:=Lib.hid (HZ1.out.next hb)
        have HQ2:=Lib.hid (HQ1.out.next hb)
        have HP2:=Lib.hid hq
        clear hq hb
        obtain ⟨x3,h3⟩:∃ x,x=x2.alloc (.cells #[.string ⟨#[97]⟩,.int .i64 1,.bool false,.int .i64 0,.string ⟨#[0,0,0,148]⟩,.slice (some ⟨c1,0,none⟩) 1 1,.string ⟨#[98]⟩,.int .i64 1,.bool false,.int .i64 0,.string ⟨#[0,0,0,148]⟩,.slice (some ⟨c2,0,none⟩) 1 1] 43):=⟨_,rfl⟩
        obtain ⟨x4,h4⟩:∃ x,x=x3.alloc (.cells #[.bool true,.bool true] 4):=⟨_,rfl⟩
        have hb3:Below x2.heap.size x2 x3:=by rw [h3];exact lit_below _ _
        have hb4:Below x3.heap.size x3 x4:=by rw [h4];exact lit_below _ _
        have hz3:x3.heap.size=x2.heap.size+1:=by rw [h3,World.size_alloc]
        have hu3:SL msC 6 x3 x3.heap.size (some ⟨x2.heap.size,0,none⟩) 2 [mCal [97] 1 c1,mCal [98] 0 c2]:=by rw [h3];exact units_lit x2 [mCal [97] 1 c1,mCal [98] 0 c2]
        have hi4:SL enB 1 x4 x4.heap.size (some ⟨x2.heap.size+1,0,none⟩) 2 [true,true]:=by rw [<-hz3,h4];exact bools_lit x3 [true,true]
        have hbb:=after hb3 hb4
        have HV4:=Lib.hid (HST.out _ _ HV2.out hbb)
        have HZ4:=Lib.hid (HZ2.out.next hbb)
        have HF:=Lib.hid (fold_lit (uc:=2) (ic:=2) (n:=2) (L:=[mCal [97] 1 c1,mCal [98] 0 c2]) (S:=rowB) (by decide) rfl (hu3.next hb4) (by intro x hx;simp only [List.mem_cons,List.not_mem_nil,or_false] at hx;rcases hx with rfl | rfl;exact cal_notes (HQ2.out.next hbb) _;exact cal_notes (HP2.out.next hbb) _) (by intro x hx;simp only [List.mem_cons,List.not_mem_nil,or_false] at hx;rcases hx with rfl | rfl;exact cal_good _ _ _ (by decide) (by decide);exact cal_good _ _ _ (by decide) (by decide)) (by intro x hx;simp only [List.mem_cons,List.not_mem_nil,or_false] at hx;rcases hx with rfl | rfl;exact cal_few _ _ _;exact cal_few _ _ _) hi4 (HT.out.next HV4.out.1) rowB_is)
        have HXE:Hid ((x2.alloc (.cells #[.string ⟨#[97]⟩,.int .i64 1,.bool false,.int .i64 0,.string ⟨#[0,0,0,148]⟩,.slice (some ⟨c1,0,none⟩) 1 1,.string ⟨#[98]⟩,.int .i64 1,.bool false,.int .i64 0,.string ⟨#[0,0,0,148]⟩,.slice (some ⟨c2,0,none⟩) 1 1] 43)).alloc (.cells #[.bool true,.bool true] 4)=x4):=Lib.hid (by rw [h4,h3])
        clear h3 h4 hb3 hb4 hz3 hu3 hi4 hbb
        go_wp2_with fail
        rw [HXE.out]
        refine HF.out.mono ?_
        rintro e x5 ⟨jB,ZB,hfx,rfl,hr,hb⟩
        rw [rowB_fix hfx,rowB_end] at hr
        have HV5:=Lib.hid (HST.out _ _ HV4.out hb)
        have HZ5:=Lib.hid (HZ4.out.next hb)
        have HY5:=Lib.hid hr
        obtain ⟨y0,y1,y2,y3,y4,y5⟩:=HKS.out _ HV5.out
        clear hr hb hfx HF HXE
        obtain ⟨x6,h6⟩:∃ x,x=x5.alloc (.cells #[.string ⟨#[114]⟩,.int .i64 1,.bool false,.int .i64 0,.string ⟨#[192,3,95,214]⟩,.slice none 0 0,.string ⟨#[114]⟩,.int .i64 1,.bool false,.int .i64 0,.string ⟨#[192,3,95,214]⟩,.slice none 0 0] 43):=⟨_,rfl⟩
        obtain ⟨x7,h7⟩:∃ x,x=x6.alloc (.cells #[.bool true,.bool true] 4):=⟨_,rfl⟩
        have hb6:Below x5.heap.size x5 x6:=by rw [h6];exact lit_below _ _
        have hb7:Below x6.heap.size x6 x7:=by rw [h7];exact lit_below _ _
        have hz6:x6.heap.size=x5.heap.size+1:=by rw [h6,World.size_alloc]
        have hu6:SL msC 6 x6 x6.heap.size (some ⟨x5.heap.size,0,none⟩) 2 [mRet,mRet]:=by rw [h6];exact units_lit x5 [mRet,mRet]
        have hi7:SL enB 1 x7 x7.heap.size (some ⟨x5.heap.size+1,0,none⟩) 2 [true,true]:=by rw [<-hz6,h7];exact bools_lit x6 [true,true]
        have hbb:=after hb6 hb7
        have HV7:=Lib.hid (HST.out _ _ HV5.out hbb)
        have HZ7:=Lib.hid (HZ5.out.next hbb)
        have HY7:=Lib.hid (HY5.out.next hbb)
        have HF:=Lib.hid (saved_lit (uc:=2) (ic:=2) (n:=2) (L:=[mRet,mRet]) (S:=rowC) (by decide) rfl (hu6.next hb7) (by intro x hx;simp only [List.mem_cons,List.not_mem_nil,or_false] at hx;rcases hx with rfl | rfl;exact ret_notes _;exact ret_notes _) (by intro x hx;simp only [List.mem_cons,List.not_mem_nil,or_false] at hx;rcases hx with rfl | rfl;exact ret_good;exact ret_good) (by intro x hx;simp only [List.mem_cons,List.not_mem_nil,or_false] at hx;rcases hx with rfl | rfl;exact ret_few;exact ret_few) hi7 (HT.out.next HV7.out.1) rowC_is)
        have HXE:Hid ((x5.alloc (.cells #[.string ⟨#[114]⟩,.int .i64 1,.bool false,.int .i64 0,.string ⟨#[192,3,95,214]⟩,.slice none 0 0,.string ⟨#[114]⟩,.int .i64 1,.bool false,.int .i64 0,.string ⟨#[192,3,95,214]⟩,.slice none 0 0] 43)).alloc (.cells #[.bool true,.bool true] 4)=x7):=Lib.hid (by rw [h7,h6])
        clear h6 h7 hb6 hb7 hz6 hu6 hi7 hbb
        go_wp2_with fail
        rw [HXE.out]
        clear y0 y1 y2 y3 y4 y5
        refine HF.out.mono ?_
        rintro e x8 ⟨jC,hfx,he,hb⟩
        rw [rowC_fix hfx,rowC_sav] at he
        subst he
        have HV8:=Lib.hid (HST.out _ _ HV7.out hb)
        have HZ8:=Lib.hid (HZ7.out.next hb)
        have HY8:=Lib.hid (HY7.out.next hb)
        clear hb hfx HF HXE
        obtain ⟨x9,h9⟩:∃ x,x=x8.alloc (.cells #[.bool true] 4):=⟨_,rfl⟩
        have hb9:Below x8.heap.size x8 x9:=by rw [h9];exact lit_below _ _
        have HV9:=Lib.hid (HST.out _ _ HV8.out hb9)
        have HZ9:=Lib.hid (HZ8.out.next hb9)
        have HY9:=Lib.hid (HY8.out.next hb9)
        have HF:=Lib.hid (fold_no x9 none 0 0 [] (some ⟨x8.heap.size,0,none⟩) 1 1 (by decide) (by decide) ⟨rfl,fun h=>absurd rfl h⟩ (fun m hm=>absurd hm (List.not_mem_nil)) (fun m hm=>absurd hm (List.not_mem_nil)) (fun m hm=>absurd hm (List.not_mem_nil)) (HT.out.next HV9.out.1) (.inl (by decide)))
        have HXE:Hid (x8.alloc (.cells #[.bool true] 4)=x9):=Lib.hid h9.symm
        clear h9 hb9
        go_wp2_with fail
        rw [HXE.out]
        refine HF.out.mono ?_
        rintro e xa ⟨rfl,hb⟩
        have HVa:=Lib.hid (HST.out _ _ HV9.out hb)
        have HZa:=Lib.hid (HZ9.out.next hb)
        have HYa:=Lib.hid (HY9.out.next hb)
        clear hb HF HXE
        obtain ⟨xb,h9⟩:∃ x,x=xa.alloc (.cells #[.int .i64 0,.int .i64 0,.int .i64 2,.int .i64 2] 3):=⟨_,rfl⟩
        have hb9:Below xa.heap.size xa xb:=by rw [h9];exact lit_below _ _
        have HVb:=Lib.hid (HST.out _ _ HVa.out hb9)
        have HYb:=Lib.hid (HYa.out.next hb9)
        have hlx:RB xb xa.heap.size (inA [0,0,2,2]) 3:=by rw [h9];exact rb_new xa _ _
        have HF:=Lib.hid (sameI_any (some ⟨ZA,0,none⟩) (some ⟨xa.heap.size,0,none⟩) 4 4 4 4 [0,0,2,2] [0,0,2,2] xb (by decide) (by decide) (rb_slI (HZa.out.next hb9)) (rb_slI hlx))
        clear hlx
        have HXE:Hid (xa.alloc (.cells #[.int .i64 0,.int .i64 0,.int .i64 2,.int .i64 2] 3)=xb):=Lib.hid h9.symm
        clear h9 hb9
        go_wp2_with fail
        rw [HXE.out]
        refine HF.out.mono ?_
        rintro e xc ⟨rfl,hb⟩
        have HVc:=Lib.hid (HST.out _ _ HVb.out hb)
        have HYc:=Lib.hid (HYb.out.next hb)
        simp only [decide_true]
        clear hb HF HXE
        obtain ⟨xd,h9⟩:∃ x,x=xc.alloc (.cells #[.int .i64 0,.int .i64 0] 3):=⟨_,rfl⟩
        have hb9:Below xc.heap.size xc xd:=by rw [h9];exact lit_below _ _
        have HVd:=Lib.hid (HST.out _ _ HVc.out hb9)
        have hlx:RB xd xc.heap.size (inA [0,0]) 3:=by rw [h9];exact rb_new xc _ _
        have HF:=Lib.hid (sameI_any (some ⟨ZB,0,none⟩) (some ⟨xc.heap.size,0,none⟩) 2 2 2 2 [0,0] [0,0] xd (by decide) (by decide) (rb_slI (HYc.out.next hb9)) (rb_slI hlx))
        clear hlx
        have HXE:Hid (xc.alloc (.cells #[.int .i64 0,.int .i64 0] 3)=xd):=Lib.hid h9.symm
        clear h9 hb9
        go_wp2_with fail
        rw [HXE.out]
        refine HF.out.mono ?_
        rintro e xe ⟨rfl,hb⟩
        have HVe:=Lib.hid (HST.out _ _ HVd.out hb)
        simp only [decide_true]
        clear hb HF HXE
        obtain ⟨y0,y1,y2,y3,y4,y5⟩:=HKS.out _ HVe.out
        have hF:=(alike_any ⟨#[114]⟩ ⟨#[192,3,95,214]⟩ ⟨#[114]⟩ ⟨#[192,3,95,214]⟩ 1 1 0 0 false false none none 0 0 0 0 [] [] xe (by decide) (by decide) ⟨rfl,fun h=>absurd rfl h⟩ ⟨rfl,fun h=>absurd rfl h⟩ [114] [114])
        rw [show alikeB ⟨[114],1,false,0,(⟨#[192,3,95,214]⟩:ByteArray).data.toList,[]⟩ ⟨[114],1,false,0,(⟨#[192,3,95,214]⟩:ByteArray).data.toList,[]⟩=true from by decide +kernel] at hF
        have HF:=Lib.hid hF
        clear hF
        go_wp2_with fail
        clear y0 y1 y2 y3 y4 y5
        refine HF.out.mono ?_
        rintro e xf ⟨rfl,hb⟩
        have HVf:=Lib.hid (HST.out _ _ HVe.out hb)
        clear hb HF
        go_wp2
        go_ret
        exact ⟨rfl,HVf.out.1⟩
       exact AllReadyH.nil
      exact AllReadyH.nil
     exact AllReadyH.nil
    exact AllReadyH.nil
   refine AllReadyH.cons rfl (fun K hK=>?_) ?_
   ·obtain ⟨v3,hv⟩:∃ x,x=v2.alloc (.cells #[.bool true,.bool true,.bool true,.bool true] 4):=⟨_,rfl⟩
    have hb:Below v2.heap.size v2 v3:=by rw [hv];exact lit_below _ _
    have HV3:=Lib.hid (HST.out _ _ HV2.out hb)
    have HC13:=Lib.hid (HC12.out.next hb)
    have HC23:=Lib.hid (HC22.out.next hb)
    have HA3:Hid (SL enB 1 v3 v3.heap.size (some ⟨v2.heap.size,0,none⟩) 4 [true,true,true,true]):=Lib.hid (by rw [hv];exact bools_lit v2 [true,true,true,true])
    go_simp
    rw [<-hv]
    refine hK.out _ _ (HKS.out _ HV3.out) (fun hHeld=>?_)
    clear hK K hb
    clear hv
    generalize v2.heap.size=ai at HA3 ⊢
    refine wpAnyH_ready (rs:=[4]) (by kernel_rfl) (by simp) ?_
    refine AllReadyH.cons rfl (fun K hK=>?_) ?_
    ·obtain ⟨v4,hv⟩:∃ x,x=v3.alloc (.cells #[.string ⟨#[97]⟩,.int .i64 1,.bool false,.int .i64 0,.string ⟨#[0,0,0,148]⟩,.slice (some ⟨b1,0,none⟩) 1 1,.string ⟨#[98]⟩,.int .i64 1,.bool false,.int .i64 0,.string ⟨#[0,0,0,148]⟩,.slice (some ⟨b2,0,none⟩) 1 1,.string ⟨#[114]⟩,.int .i64 1,.bool false,.int .i64 0,.string ⟨#[192,3,95,214]⟩,.slice none 0 0,.string ⟨#[114]⟩,.int .i64 1,.bool false,.int .i64 0,.string ⟨#[192,3,95,214]⟩,.slice none 0 0] 43):=⟨_,rfl⟩
     have hb:Below v3.heap.size v3 v4:=by rw [hv];exact lit_below _ _
     have HV4:=Lib.hid (HST.out _ _ HV3.out hb)
     have HC14:=Lib.hid (HC13.out.next hb)
     have HC24:=Lib.hid (HC23.out.next hb)
     have HA4:=Lib.hid (HA3.out.next hb)
     have HU4:Hid (SL msC 6 v4 v4.heap.size (some ⟨v3.heap.size,0,none⟩) 4 [mCal [97] 2 b1,mCal [98] 3 b2,mRet,mRet]):=Lib.hid (by rw [hv];exact units_lit v3 [mCal [97] 2 b1,mCal [98] 3 b2,mRet,mRet])
     go_simp
     rw [<-hv]
     refine hK.out _ _ (HKS.out _ HV4.out) (fun hHeld=>?_)
     clear hK K hb
     clear hv
     generalize v3.heap.size=ui at HU4 ⊢
     refine wpAnyH_ready (rs:=[6]) (by kernel_rfl) (by simp) ?_
     refine AllReadyH.cons rfl (fun K hK=>?_) ?_
     ·have HF:=Lib.hid (fold_lit (uc:=4) (ic:=4) (n:=4) (L:=[mCal [97] 2 b1,mCal [98] 3 b2,mRet,mRet]) (S:=rowA) (by decide) rfl HU4.out (by intro x hx;simp only [List.mem_cons,List.not_mem_nil,or_false] at hx;rcases hx with rfl | rfl | rfl | rfl;exact cal_notes HC14.out _;exact cal_notes HC24.out _;exact ret_notes _;exact ret_notes _) (by intro x hx;simp only [List.mem_cons,List.not_mem_nil,or_false] at hx;rcases hx with rfl | rfl | rfl | rfl;exact cal_good _ _ _ (by decide) (by decide);exact cal_good _ _ _ (by decide) (by decide);exact ret_good;exact ret_good) (by intro x hx;simp only [List.mem_cons,List.not_mem_nil,or_false] at hx;rcases hx with rfl | rfl | rfl | rfl;exact cal_few _ _ _;exact cal_few _ _ _;exact ret_few;exact ret_few) HA4.out (HT.out.next HV4.out.1) rowA_is)
      go_simp;go_wp2_with (go_at_call 20;refine HF.out.mono ?_;rintro e vF ⟨jA,ZA,hfx,rfl,hr,hb⟩)
      have HVF:=Lib.hid (HST.out _ _ HV4.out hb)
      rw [rowA_fix hfx,rowA_end] at hr
      have HZA:=Lib.hid hr
      clear hr hb hfx HF
      refine hK.out _ _ (HKS.out _ HVF.out) (fun hHeld=>?_)
      clear hK K
      refine wpAnyH_take (i:=7) (v:=?_) rfl (by kernel_rfl) (by kernel_rfl) (by kernel_rfl) (fun _ _ _ h=>h) (Or.inl ⟨by kernel_rfl,?_⟩) (by assumption) ?_
      rotate_left 1
      ·intro w hSw;(try dsimp only at hSw);obtain ⟨y0,y1,y2,y3,y4,y5⟩:=hSw;go_simp;(try with_reducible rfl)
      (try simp only [Act.put,List.setIfInBounds_toArray,List.set_cons_zero,List.set_cons_succ])
      refine wpAnyH_take (i:=8) (v:=?_) rfl (by kernel_rfl) (by kernel_rfl) (by kernel_rfl) (fun _ _ _ h=>h) (Or.inl ⟨by kernel_rfl,?_⟩) (by assumption) ?_
      rotate_left 1
      ·intro w hSw;(try dsimp only at hSw);obtain ⟨y0,y1,y2,y3,y4,y5⟩:=hSw;go_simp;(try with_reducible rfl)
      (try simp only [Act.put,List.setIfInBounds_toArray,List.set_cons_zero,List.set_cons_succ])
      refine wpAnyH_take (i:=9) (v:=?_) rfl (by kernel_rfl) (by kernel_rfl) (by kernel_rfl) (fun _ _ _ h=>h) (Or.inl ⟨by kernel_rfl,?_⟩) (by assumption) ?_
      rotate_left 1
      ·intro w hSw;(try dsimp only at hSw);obtain ⟨y0,y1,y2,y3,y4,y5⟩:=hSw;go_simp;(try with_reducible rfl)
      (try simp only [Act.put,List.setIfInBounds_toArray,List.set_cons_zero,List.set_cons_succ])
      refine wpAnyH_ready (rs:=[10]) (by kernel_rfl) (by simp) ?_
      refine AllReadyH.cons rfl (fun K hK=>?_) ?_
      ·go_simp
       refine hK.out _ _ (HKS.out _ HVF.out) (fun hHeld=>?_)
       clear hK K
       refine wpAnyH_ready (rs:=[11]) (by kernel_rfl) (by simp) ?_
       refine AllReadyH.cons rfl (fun K hK=>?_) ?_
       ·go_simp
        refine hK.out _ _ (HKS.out _ HVF.out) (fun hHeld=>?_)
        clear hK K
        refine wpAnyH_done (by kernel_rfl) ?_ _
        go_wp2_with fail
        refine (caller_any _ _ _).mono ?_
        rintro e x1 ⟨c1,rfl,hq,-,hb⟩
        have HV1:=Lib.hid (HST.out _ _ HVF.out hb)
        have HZ1:=Lib.hid (HZA.out.next hb)
        have HQ1:=Lib.hid hq
        clear hq hb
        go_wp2_with fail
        refine (caller_any _ _ _).mono ?_
        rintro e x2 ⟨c2,rfl,hq,-,hb⟩
        have HV2:=Lib.hid (HST.out _ _ HV1.out hb)
        have HZ2:=Lib.hid (HZ1.out.next hb)
        have HQ2:=Lib.hid (HQ1.out.next hb)
        have HP2:=Lib.hid hq
        clear hq hb
        obtain ⟨x3,h3⟩:∃ x,x=x2.alloc (.cells #[.string ⟨#[97]⟩,.int .i64 1,.bool false,.int .i64 0,.string ⟨#[0,0,0,148]⟩,.slice (some ⟨c1,0,none⟩) 1 1,.string ⟨#[98]⟩,.int .i64 1,.bool false,.int .i64 0,.string ⟨#[0,0,0,148]⟩,.slice (some ⟨c2,0,none⟩) 1 1] 43):=⟨_,rfl⟩
        obtain ⟨x4,h4⟩:∃ x,x=x3.alloc (.cells #[.bool true,.bool true] 4):=⟨_,rfl⟩
        have hb3:Below x2.heap.size x2 x3:=by rw [h3];exact lit_below _ _
        have hb4:Below x3.heap.size x3 x4:=by rw [h4];exact lit_below _ _
        have hz3:x3.heap.size=x2.heap.size+1:=by rw [h3,World.size_alloc]
        have hu3:SL msC 6 x3 x3.heap.size (some ⟨x2.heap.size,0,none⟩) 2 [mCal [97] 1 c1,mCal [98] 0 c2]:=by rw [h3];exact units_lit x2 [mCal [97] 1 c1,mCal [98] 0 c2]
        have hi4:SL enB 1 x4 x4.heap.size (some ⟨x2.heap.size+1,0,none⟩) 2 [true,true]:=by rw [<-hz3,h4];exact bools_lit x3 [true,true]
        have hbb:=after hb3 hb4
        have HV4:=Lib.hid (HST.out _ _ HV2.out hbb)
        have HZ4:=Lib.hid (HZ2.out.next hbb)
        have HF:=Lib.hid (fold_lit (uc:=2) (ic:=2) (n:=2) (L:=[mCal [97] 1 c1,mCal [98] 0 c2]) (S:=rowB) (by decide) rfl (hu3.next hb4) (by intro x hx;simp only [List.mem_cons,List.not_mem_nil,or_false] at hx;rcases hx with rfl | rfl;exact cal_notes (HQ2.out.next hbb) _;exact cal_notes (HP2.out.next hbb) _) (by intro x hx;simp only [List.mem_cons,List.not_mem_nil,or_false] at hx;rcases hx with rfl | rfl;exact cal_good _ _ _ (by decide) (by decide);exact cal_good _ _ _ (by decide) (by decide)) (by intro x hx;simp only [List.mem_cons,List.not_mem_nil,or_false] at hx;rcases hx with rfl | rfl;exact cal_few _ _ _;exact cal_few _ _ _) hi4 (HT.out.next HV4.out.1) rowB_is)
        have HXE:Hid ((x2.alloc (.cells #[.string ⟨#[97]⟩,.int .i64 1,.bool false,.int .i64 0,.string ⟨#[0,0,0,148]⟩,.slice (some ⟨c1,0,none⟩) 1 1,.string ⟨#[98]⟩,.int .i64 1,.bool false,.int .i64 0,.string ⟨#[0,0,0,148]⟩,.slice (some ⟨c2,0,none⟩) 1 1] 43)).alloc (.cells #[.bool true,.bool true] 4)=x4):=Lib.hid (by rw [h4,h3])
        clear h3 h4 hb3 hb4 hz3 hu3 hi4 hbb
        go_wp2_with fail
        rw [HXE.out]
        refine HF.out.mono ?_
        rintro e x5 ⟨jB,ZB,hfx,rfl,hr,hb⟩
        rw [rowB_fix hfx,rowB_end] at hr
        have HV5:=Lib.hid (HST.out _ _ HV4.out hb)
        have HZ5:=Lib.hid (HZ4.out.next hb)
        have HY5:=Lib.hid hr
        obtain ⟨y0,y1,y2,y3,y4,y5⟩:=HKS.out _ HV5.out
        clear hr hb hfx HF HXE
        obtain ⟨x6,h6⟩:∃ x,x=x5.alloc (.cells #[.string ⟨#[114]⟩,.int .i64 1,.bool false,.int .i64 0,.string ⟨#[192,3,95,214]⟩,.slice none 0 0,.string ⟨#[114]⟩,.int .i64 1,.bool false,.int .i64 0,.string ⟨#[192,3,95,214]⟩,.slice none 0 0] 43):=⟨_,rfl⟩
        obtain ⟨x7,h7⟩:∃ x,x=x6.alloc (.cells #[.bool true,.bool true] 4):=⟨_,rfl⟩
        have hb6:Below x5.heap.size x5 x6:=by rw [h6];exact lit_below _ _
        have hb7:Below x6.heap.size x6 x7:=by rw [h7];exact lit_below _ _
        have hz6:x6.heap.size=x5.heap.size+1:=by rw [h6,World.size_alloc]
        have hu6:SL msC 6 x6 x6.heap.size (some ⟨x5.heap.size,0,none⟩) 2 [mRet,mRet]:=by rw [h6];exact units_lit x5 [mRet,mRet]
        have hi7:SL enB 1 x7 x7.heap.size (some ⟨x5.heap.size+1,0,none⟩) 2 [true,true]:=by rw [<-hz6,h7];exact bools_lit x6 [true,true]
        have hbb:=after hb6 hb7
        have HV7:=Lib.hid (HST.out _ _ HV5.out hbb)
        have HZ7:=Lib.hid (HZ5.out.next hbb)
        have HY7:=Lib.hid (HY5.out.next hbb)
        have HF:=Lib.hid (saved_lit (uc:=2) (ic:=2) (n:=2) (L:=[mRet,mRet]) (S:=rowC) (by decide) rfl (hu6.next hb7) (by intro x hx;simp only [List.mem_cons,List.not_mem_nil,or_false] at hx;rcases hx with rfl | rfl;exact ret_notes _;exact ret_notes _) (by intro x hx;simp only [List.mem_cons,List.not_mem_nil,or_false] at hx;rcases hx with rfl | rfl;exact ret_good;exact ret_good) (by intro x hx;simp only [List.mem_cons,List.not_mem_nil,or_false] at hx;rcases hx with rfl | rfl;exact ret_few;exact ret_few) hi7 (HT.out.next HV7.out.1) rowC_is)
        have HXE:Hid ((x5.alloc (.cells #[.string ⟨#[114]⟩,.int .i64 1,.bool false,.int .i64 0,.string ⟨#[192,3,95,214]⟩,.slice none 0 0,.string ⟨#[114]⟩,.int .i64 1,.bool false,.int .i64 0,.string ⟨#[192,3,95,214]⟩,.slice none 0 0] 43)).alloc (.cells #[.bool true,.bool true] 4)=x7):=Lib.hid (by rw [h7,h6])
        clear h6 h7 hb6 hb7 hz6 hu6 hi7 hbb
        go_wp2_with fail
        rw [HXE.out]
        clear y0 y1 y2 y3 y4 y5
        refine HF.out.mono ?_
        rintro e x8 ⟨jC,hfx,he,hb⟩
        rw [rowC_fix hfx,rowC_sav] at he
        subst he
        have HV8:=Lib.hid (HST.out _ _ HV7.out hb)
        have HZ8:=Lib.hid (HZ7.out.next hb)
        have HY8:=Lib.hid (HY7.out.next hb)
        clear hb hfx HF HXE
        obtain ⟨x9,h9⟩:∃ x,x=x8.alloc (.cells #[.bool true] 4):=⟨_,rfl⟩
        have hb9:Below x8.heap.size x8 x9:=by rw [h9];exact lit_below _ _
        have HV9:=Lib.hid (HST.out _ _ HV8.out hb9)
        have HZ9:=Lib.hid (HZ8.out.next hb9)
        have HY9:=Lib.hid (HY8.out.next hb9)
        have HF:=Lib.hid (fold_no x9 none 0 0 [] (some ⟨x8.heap.size,0,none⟩) 1 1 (by decide) (by decide) ⟨rfl,fun h=>absurd rfl h⟩ (fun m hm=>absurd hm (List.not_mem_nil)) (fun m hm=>absurd hm (List.not_mem_nil)) (fun m hm=>absurd hm (List.not_mem_nil)) (HT.out.next HV9.out.1) (.inl (by decide)))
        have HXE:Hid (x8.alloc (.cells #[.bool true] 4)=x9):=Lib.hid h9.symm
        clear h9 hb9
        go_wp2_with fail
        rw [HXE.out]
        refine HF.out.mono ?_
        rintro e xa ⟨rfl,hb⟩
        have HVa:=Lib.hid (HST.out _ _ HV9.out hb)
        have HZa:=Lib.hid (HZ9.out.next hb)
        have HYa:=Lib.hid (HY9.out.next hb)
        clear hb HF HXE
        obtain ⟨xb,h9⟩:∃ x,x=xa.alloc (.cells #[.int .i64 0,.int .i64 0,.int .i64 2,.int .i64 2] 3):=⟨_,rfl⟩
        have hb9:Below xa.heap.size xa xb:=by rw [h9];exact lit_below _ _
        have HVb:=Lib.hid (HST.out _ _ HVa.out hb9)
        have HYb:=Lib.hid (HYa.out.next hb9)
        have hlx:RB xb xa.heap.size (inA [0,0,2,2]) 3:=by rw [h9];exact rb_new xa _ _
        have HF:=Lib.hid (sameI_any (some ⟨ZA,0,none⟩) (some ⟨xa.heap.size,0,none⟩) 4 4 4 4 [0,0,2,2] [0,0,2,2] xb (by decide) (by decide) (rb_slI (HZa.out.next hb9)) (rb_slI hlx))
        clear hlx
        have HXE:Hid (xa.alloc (.cells #[.int .i64 0,.int .i64 0,.int .i64 2,.int .i64 2] 3)=xb):=Lib.hid h9.symm
        clear h9 hb9
        go_wp2_with fail
        rw [HXE.out]
        refine HF.out.mono ?_
        rintro e xc ⟨rfl,hb⟩
        have HVc:=Lib.hid (HST.out _ _ HVb.out hb)
        have HYc:=Lib.hid (HYb.out.next hb)
        simp only [decide_true]
        clear hb HF HXE
        obtain ⟨xd,h9⟩:∃ x,x=xc.alloc (.cells #[.int .i64 0,.int .i64 0] 3):=⟨_,rfl⟩
        have hb9:Below xc.heap.size xc xd:=by rw [h9];exact lit_below _ _
        have HVd:=Lib.hid (HST.out _ _ HVc.out hb9)
        have hlx:RB xd xc.heap.size (inA [0,0]) 3:=by rw [h9];exact rb_new xc _ _
        have HF:=Lib.hid (sameI_any (some ⟨ZB,0,none⟩) (some ⟨xc.heap.size,0,none⟩) 2 2 2 2 [0,0] [0,0] xd (by decide) (by decide) (rb_slI (HYc.out.next hb9)) (rb_slI hlx))
        clear hlx
        have HXE:Hid (xc.alloc (.cells #[.int .i64 0,.int .i64 0] 3)=xd):=Lib.hid h9.symm
        clear h9 hb9
        go_wp2_with fail
        rw [HXE.out]
        refine HF.out.mono ?_
        rintro e xe ⟨rfl,hb⟩
        have HVe:=Lib.hid (HST.out _ _ HVd.out hb)
        simp only [decide_true]
        clear hb HF HXE
        obtain ⟨y0,y1,y2,y3,y4,y5⟩:=HKS.out _ HVe.out
        have hF:=(alike_any ⟨#[114]⟩ ⟨#[192,3,95,214]⟩ ⟨#[114]⟩ ⟨#[192,3,95,214]⟩ 1 1 0 0 false false none none 0 0 0 0 [] [] xe (by decide) (by decide) ⟨rfl,fun h=>absurd rfl h⟩ ⟨rfl,fun h=>absurd rfl h⟩ [114] [114])
        rw [show alikeB ⟨[114],1,false,0,(⟨#[192,3,95,214]⟩:ByteArray).data.toList,[]⟩ ⟨[114],1,false,0,(⟨#[192,3,95,214]⟩:ByteArray).data.toList,[]⟩=true from by decide +kernel] at hF
        have HF:=Lib.hid hF
        clear hF
        go_wp2_with fail
        clear y0 y1 y2 y3 y4 y5
        refine HF.out.mono ?_
        rintro e xf ⟨rfl,hb⟩
        have HVf:=Lib.hid (HST.out _ _ HVe.out hb)
        clear hb HF
        go_wp2
        go_ret
        exact ⟨rfl,HVf.out.1⟩
       exact AllReadyH.nil
      exact AllReadyH.nil
     exact AllReadyH.nil
    exact AllReadyH.nil
   exact AllReadyH.nil
  refine AllReadyH.cons rfl (fun K hK=>?_) ?_
  ·obtain ⟨v2,hv⟩:∃ x,x=v1.alloc (.cells #[.bool true,.bool true,.bool true,.bool true] 4):=⟨_,rfl⟩
   have hb:Below v1.heap.size v1 v2:=by rw [hv];exact lit_below _ _
   have HV2:=Lib.hid (HST.out _ _ HV1.out hb)
   have HC12:=Lib.hid (HC11.out.next hb)
   have HA2:Hid (SL enB 1 v2 v2.heap.size (some ⟨v1.heap.size,0,none⟩) 4 [true,true,true,true]):=Lib.hid (by rw [hv];exact bools_lit v1 [true,true,true,true])
   go_simp
   rw [<-hv]
   refine hK.out _ _ (HKS.out _ HV2.out) (fun hHeld=>?_)
   clear hK K hb
   clear hv
   generalize v1.heap.size=ai at HA2 ⊢
   refine wpAnyH_ready (rs:=[1]) (by kernel_rfl) (by simp) ?_
   refine AllReadyH.cons rfl (fun K hK=>?_) ?_
   ·go_simp;go_wp2_with (go_at_call 57;refine (caller_any _ _ _).mono ?_;rintro e v3 ⟨b2,rfl,hq,-,hb⟩)
    have HV3:=Lib.hid (HST.out _ _ HV2.out hb)
    have HC13:=Lib.hid (HC12.out.next hb)
    have HA3:=Lib.hid (HA2.out.next hb)
    have HC23:=Lib.hid hq
    clear hq hb
    refine hK.out _ _ (HKS.out _ HV3.out) (fun hHeld=>?_)
    clear hK K
    refine wpAnyH_ready (rs:=[4]) (by kernel_rfl) (by simp) ?_
    refine AllReadyH.cons rfl (fun K hK=>?_) ?_
    ·obtain ⟨v4,hv⟩:∃ x,x=v3.alloc (.cells #[.string ⟨#[97]⟩,.int .i64 1,.bool false,.int .i64 0,.string ⟨#[0,0,0,148]⟩,.slice (some ⟨b1,0,none⟩) 1 1,.string ⟨#[98]⟩,.int .i64 1,.bool false,.int .i64 0,.string ⟨#[0,0,0,148]⟩,.slice (some ⟨b2,0,none⟩) 1 1,.string ⟨#[114]⟩,.int .i64 1,.bool false,.int .i64 0,.string ⟨#[192,3,95,214]⟩,.slice none 0 0,.string ⟨#[114]⟩,.int .i64 1,.bool false,.int .i64 0,.string ⟨#[192,3,95,214]⟩,.slice none 0 0] 43):=⟨_,rfl⟩
     have hb:Below v3.heap.size v3 v4:=by rw [hv];exact lit_below _ _
     have HV4:=Lib.hid (HST.out _ _ HV3.out hb)
     have HC14:=Lib.hid (HC13.out.next hb)
     have HA4:=Lib.hid (HA3.out.next hb)
     have HC24:=Lib.hid (HC23.out.next hb)
     have HU4:Hid (SL msC 6 v4 v4.heap.size (some ⟨v3.heap.size,0,none⟩) 4 [mCal [97] 2 b1,mCal [98] 3 b2,mRet,mRet]):=Lib.hid (by rw [hv];exact units_lit v3 [mCal [97] 2 b1,mCal [98] 3 b2,mRet,mRet])
     go_simp
     rw [<-hv]
     refine hK.out _ _ (HKS.out _ HV4.out) (fun hHeld=>?_)
     clear hK K hb
     clear hv
     generalize v3.heap.size=ui at HU4 ⊢
     refine wpAnyH_ready (rs:=[6]) (by kernel_rfl) (by simp) ?_
     refine AllReadyH.cons rfl (fun K hK=>?_) ?_
     ·have HF:=Lib.hid (fold_lit (uc:=4) (ic:=4) (n:=4) (L:=[mCal [97] 2 b1,mCal [98] 3 b2,mRet,mRet]) (S:=rowA) (by decide) rfl HU4.out (by intro x hx;simp only [List.mem_cons,List.not_mem_nil,or_false] at hx;rcases hx with rfl | rfl | rfl | rfl;exact cal_notes HC14.out _;exact cal_notes HC24.out _;exact ret_notes _;exact ret_notes _) (by intro x hx;simp only [List.mem_cons,List.not_mem_nil,or_false] at hx;rcases hx with rfl | rfl | rfl | rfl;exact cal_good _ _ _ (by decide) (by decide);exact cal_good _ _ _ (by decide) (by decide);exact ret_good;exact ret_good) (by intro x hx;simp only [List.mem_cons,List.not_mem_nil,or_false] at hx;rcases hx with rfl | rfl | rfl | rfl;exact cal_few _ _ _;exact cal_few _ _ _;exact ret_few;exact ret_few) HA4.out (HT.out.next HV4.out.1) rowA_is)
      go_simp;go_wp2_with (go_at_call 20;refine HF.out.mono ?_;rintro e vF ⟨jA,ZA,hfx,rfl,hr,hb⟩)
      have HVF:=Lib.hid (HST.out _ _ HV4.out hb)
      rw [rowA_fix hfx,rowA_end] at hr
      have HZA:=Lib.hid hr
      clear hr hb hfx HF
      refine hK.out _ _ (HKS.out _ HVF.out) (fun hHeld=>?_)
      clear hK K
      refine wpAnyH_take (i:=7) (v:=?_) rfl (by kernel_rfl) (by kernel_rfl) (by kernel_rfl) (fun _ _ _ h=>h) (Or.inl ⟨by kernel_rfl,?_⟩) (by assumption) ?_
      rotate_left 1
      ·intro w hSw;(try dsimp only at hSw);obtain ⟨y0,y1,y2,y3,y4,y5⟩:=hSw;go_simp;(try with_reducible rfl)
      (try simp only [Act.put,List.setIfInBounds_toArray,List.set_cons_zero,List.set_cons_succ])
      refine wpAnyH_take (i:=8) (v:=?_) rfl (by kernel_rfl) (by kernel_rfl) (by kernel_rfl) (fun _ _ _ h=>h) (Or.inl ⟨by kernel_rfl,?_⟩) (by assumption) ?_
      rotate_left 1
      ·intro w hSw;(try dsimp only at hSw);obtain ⟨y0,y1,y2,y3,y4,y5⟩:=hSw;go_simp;(try with_reducible rfl)
      (try simp only [Act.put,List.setIfInBounds_toArray,List.set_cons_zero,List.set_cons_succ])
      refine wpAnyH_take (i:=9) (v:=?_) rfl (by kernel_rfl) (by kernel_rfl) (by kernel_rfl) (fun _ _ _ h=>h) (Or.inl ⟨by kernel_rfl,?_⟩) (by assumption) ?_
      rotate_left 1
      ·intro w hSw;(try dsimp only at hSw);obtain ⟨y0,y1,y2,y3,y4,y5⟩:=hSw;go_simp;(try with_reducible rfl)
      (try simp only [Act.put,List.setIfInBounds_toArray,List.set_cons_zero,List.set_cons_succ])
      refine wpAnyH_ready (rs:=[10]) (by kernel_rfl) (by simp) ?_
      refine AllReadyH.cons rfl (fun K hK=>?_) ?_
      ·go_simp
       refine hK.out _ _ (HKS.out _ HVF.out) (fun hHeld=>?_)
       clear hK K
       refine wpAnyH_ready (rs:=[11]) (by kernel_rfl) (by simp) ?_
       refine AllReadyH.cons rfl (fun K hK=>?_) ?_
       ·go_simp
        refine hK.out _ _ (HKS.out _ HVF.out) (fun hHeld=>?_)
        clear hK K
        refine wpAnyH_done (by kernel_rfl) ?_ _
        go_wp2_with fail
        refine (caller_any _ _ _).mono ?_
        rintro e x1 ⟨c1,rfl,hq,-,hb⟩
        have HV1:=Lib.hid (HST.out _ _ HVF.out hb)
        have HZ1:=Lib.hid (HZA.out.next hb)
        have HQ1:=Lib.hid hq
        clear hq hb
        go_wp2_with fail
        refine (caller_any _ _ _).mono ?_
        rintro e x2 ⟨c2,rfl,hq,-,hb⟩
        have HV2:=Lib.hid (HST.out _ _ HV1.out hb)
        have HZ2:=Lib.hid (HZ1.out.next hb)
        have HQ2:=Lib.hid (HQ1.out.next hb)
        have HP2:=Lib.hid hq
        clear hq hb
        obtain ⟨x3,h3⟩:∃ x,x=x2.alloc (.cells #[.string ⟨#[97]⟩,.int .i64 1,.bool false,.int .i64 0,.string ⟨#[0,0,0,148]⟩,.slice (some ⟨c1,0,none⟩) 1 1,.string ⟨#[98]⟩,.int .i64 1,.bool false,.int .i64 0,.string ⟨#[0,0,0,148]⟩,.slice (some ⟨c2,0,none⟩) 1 1] 43):=⟨_,rfl⟩
        obtain ⟨x4,h4⟩:∃ x,x=x3.alloc (.cells #[.bool true,.bool true] 4):=⟨_,rfl⟩
        have hb3:Below x2.heap.size x2 x3:=by rw [h3];exact lit_below _ _
        have hb4:Below x3.heap.size x3 x4:=by rw [h4];exact lit_below _ _
        have hz3:x3.heap.size=x2.heap.size+1:=by rw [h3,World.size_alloc]
        have hu3:SL msC 6 x3 x3.heap.size (some ⟨x2.heap.size,0,none⟩) 2 [mCal [97] 1 c1,mCal [98] 0 c2]:=by rw [h3];exact units_lit x2 [mCal [97] 1 c1,mCal [98] 0 c2]
        have hi4:SL enB 1 x4 x4.heap.size (some ⟨x2.heap.size+1,0,none⟩) 2 [true,true]:=by rw [<-hz3,h4];exact bools_lit x3 [true,true]
        have hbb:=after hb3 hb4
        have HV4:=Lib.hid (HST.out _ _ HV2.out hbb)
        have HZ4:=Lib.hid (HZ2.out.next hbb)
        have HF:=Lib.hid (fold_lit (uc:=2) (ic:=2) (n:=2) (L:=[mCal [97] 1 c1,mCal [98] 0 c2]) (S:=rowB) (by decide) rfl (hu3.next hb4) (by intro x hx;simp only [List.mem_cons,List.not_mem_nil,or_false] at hx;rcases hx with rfl | rfl;exact cal_notes (HQ2.out.next hbb) _;exact cal_notes (HP2.out.next hbb) _) (by intro x hx;simp only [List.mem_cons,List.not_mem_nil,or_false] at hx;rcases hx with rfl | rfl;exact cal_good _ _ _ (by decide) (by decide);exact cal_good _ _ _ (by decide) (by decide)) (by intro x hx;simp only [List.mem_cons,List.not_mem_nil,or_false] at hx;rcases hx with rfl | rfl;exact cal_few _ _ _;exact cal_few _ _ _) hi4 (HT.out.next HV4.out.1) rowB_is)
        have HXE:Hid ((x2.alloc (.cells #[.string ⟨#[97]⟩,.int .i64 1,.bool false,.int .i64 0,.string ⟨#[0,0,0,148]⟩,.slice (some ⟨c1,0,none⟩) 1 1,.string ⟨#[98]⟩,.int .i64 1,.bool false,.int .i64 0,.string ⟨#[0,0,0,148]⟩,.slice (some ⟨c2,0,none⟩) 1 1] 43)).alloc (.cells #[.bool true,.bool true] 4)=x4):=Lib.hid (by rw [h4,h3])
        clear h3 h4 hb3 hb4 hz3 hu3 hi4 hbb
        go_wp2_with fail
        rw [HXE.out]
        refine HF.out.mono ?_
        rintro e x5 ⟨jB,ZB,hfx,rfl,hr,hb⟩
        rw [rowB_fix hfx,rowB_end] at hr
        have HV5:=Lib.hid (HST.out _ _ HV4.out hb)
        have HZ5:=Lib.hid (HZ4.out.next hb)
        have HY5:=Lib.hid hr
        obtain ⟨y0,y1,y2,y3,y4,y5⟩:=HKS.out _ HV5.out
        clear hr hb hfx HF HXE
        obtain ⟨x6,h6⟩:∃ x,x=x5.alloc (.cells #[.string ⟨#[114]⟩,.int .i64 1,.bool false,.int .i64 0,.string ⟨#[192,3,95,214]⟩,.slice none 0 0,.string ⟨#[114]⟩,.int .i64 1,.bool false,.int .i64 0,.string ⟨#[192,3,95,214]⟩,.slice none 0 0] 43):=⟨_,rfl⟩
        obtain ⟨x7,h7⟩:∃ x,x=x6.alloc (.cells #[.bool true,.bool true] 4):=⟨_,rfl⟩
        have hb6:Below x5.heap.size x5 x6:=by rw [h6];exact lit_below _ _
        have hb7:Below x6.heap.size x6 x7:=by rw [h7];exact lit_below _ _
        have hz6:x6.heap.size=x5.heap.size+1:=by rw [h6,World.size_alloc]
        have hu6:SL msC 6 x6 x6.heap.size (some ⟨x5.heap.size,0,none⟩) 2 [mRet,mRet]:=by rw [h6];exact units_lit x5 [mRet,mRet]
        have hi7:SL enB 1 x7 x7.heap.size (some ⟨x5.heap.size+1,0,none⟩) 2 [true,true]:=by rw [<-hz6,h7];exact bools_lit x6 [true,true]
        have hbb:=after hb6 hb7
        have HV7:=Lib.hid (HST.out _ _ HV5.out hbb)
        have HZ7:=Lib.hid (HZ5.out.next hbb)
        have HY7:=Lib.hid (HY5.out.next hbb)
        have HF:=Lib.hid (saved_lit (uc:=2) (ic:=2) (n:=2) (L:=[mRet,mRet]) (S:=rowC) (by decide) rfl (hu6.next hb7) (by intro x hx;simp only [List.mem_cons,List.not_mem_nil,or_false] at hx;rcases hx with rfl | rfl;exact ret_notes _;exact ret_notes _) (by intro x hx;simp only [List.mem_cons,List.not_mem_nil,or_false] at hx;rcases hx with rfl | rfl;exact ret_good;exact ret_good) (by intro x hx;simp only [List.mem_cons,List.not_mem_nil,or_false] at hx;rcases hx with rfl | rfl;exact ret_few;exact ret_few) hi7 (HT.out.next HV7.out.1) rowC_is)
        have HXE:Hid ((x5.alloc (.cells #[.string ⟨#[114]⟩,.int .i64 1,.bool false,.int .i64 0,.string ⟨#[192,3,95,214]⟩,.slice none 0 0,.string ⟨#[114]⟩,.int .i64 1,.bool false,.int .i64 0,.string ⟨#[192,3,95,214]⟩,.slice none 0 0] 43)).alloc (.cells #[.bool true,.bool true] 4)=x7):=Lib.hid (by rw [h7,h6])
        clear h6 h7 hb6 hb7 hz6 hu6 hi7 hbb
        go_wp2_with fail
        rw [HXE.out]
        clear y0 y1 y2 y3 y4 y5
        refine HF.out.mono ?_
        rintro e x8 ⟨jC,hfx,he,hb⟩
        rw [rowC_fix hfx,rowC_sav] at he
        subst he
        have HV8:=Lib.hid (HST.out _ _ HV7.out hb)
        have HZ8:=Lib.hid (HZ7.out.next hb)
        have HY8:=Lib.hid (HY7.out.next hb)
        clear hb hfx HF HXE
        obtain ⟨x9,h9⟩:∃ x,x=x8.alloc (.cells #[.bool true] 4):=⟨_,rfl⟩
        have hb9:Below x8.heap.size x8 x9:=by rw [h9];exact lit_below _ _
        have HV9:=Lib.hid (HST.out _ _ HV8.out hb9)
        have HZ9:=Lib.hid (HZ8.out.next hb9)
        have HY9:=Lib.hid (HY8.out.next hb9)
        have HF:=Lib.hid (fold_no x9 none 0 0 [] (some ⟨x8.heap.size,0,none⟩) 1 1 (by decide) (by decide) ⟨rfl,fun h=>absurd rfl h⟩ (fun m hm=>absurd hm (List.not_mem_nil)) (fun m hm=>absurd hm (List.not_mem_nil)) (fun m hm=>absurd hm (List.not_mem_nil)) (HT.out.next HV9.out.1) (.inl (by decide)))
        have HXE:Hid (x8.alloc (.cells #[.bool true] 4)=x9):=Lib.hid h9.symm
        clear h9 hb9
        go_wp2_with fail
        rw [HXE.out]
        refine HF.out.mono ?_
        rintro e xa ⟨rfl,hb⟩
        have HVa:=Lib.hid (HST.out _ _ HV9.out hb)
        have HZa:=Lib.hid (HZ9.out.next hb)
        have HYa:=Lib.hid (HY9.out.next hb)
        clear hb HF HXE
        obtain ⟨xb,h9⟩:∃ x,x=xa.alloc (.cells #[.int .i64 0,.int .i64 0,.int .i64 2,.int .i64 2] 3):=⟨_,rfl⟩
        have hb9:Below xa.heap.size xa xb:=by rw [h9];exact lit_below _ _
        have HVb:=Lib.hid (HST.out _ _ HVa.out hb9)
        have HYb:=Lib.hid (HYa.out.next hb9)
        have hlx:RB xb xa.heap.size (inA [0,0,2,2]) 3:=by rw [h9];exact rb_new xa _ _
        have HF:=Lib.hid (sameI_any (some ⟨ZA,0,none⟩) (some ⟨xa.heap.size,0,none⟩) 4 4 4 4 [0,0,2,2] [0,0,2,2] xb (by decide) (by decide) (rb_slI (HZa.out.next hb9)) (rb_slI hlx))
        clear hlx
        have HXE:Hid (xa.alloc (.cells #[.int .i64 0,.int .i64 0,.int .i64 2,.int .i64 2] 3)=xb):=Lib.hid h9.symm
        clear h9 hb9
        go_wp2_with fail
        rw [HXE.out]
        refine HF.out.mono ?_
        rintro e xc ⟨rfl,hb⟩
        have HVc:=Lib.hid (HST.out _ _ HVb.out hb)
        have HYc:=Lib.hid (HYb.out.next hb)
        simp only [decide_true]
        clear hb HF HXE
        obtain ⟨xd,h9⟩:∃ x,x=xc.alloc (.cells #[.int .i64 0,.int .i64 0] 3):=⟨_,rfl⟩
        have hb9:Below xc.heap.size xc xd:=by rw [h9];exact lit_below _ _
        have HVd:=Lib.hid (HST.out _ _ HVc.out hb9)
        have hlx:RB xd xc.heap.size (inA [0,0]) 3:=by rw [h9];exact rb_new xc _ _
        have HF:=Lib.hid (sameI_any (some ⟨ZB,0,none⟩) (some ⟨xc.heap.size,0,none⟩) 2 2 2 2 [0,0] [0,0] xd (by decide) (by decide) (rb_slI (HYc.out.next hb9)) (rb_slI hlx))
        clear hlx
        have HXE:Hid (xc.alloc (.cells #[.int .i64 0,.int .i64 0] 3)=xd):=Lib.hid h9.symm
        clear h9 hb9
        go_wp2_with fail
        rw [HXE.out]
        refine HF.out.mono ?_
        rintro e xe ⟨rfl,hb⟩
        have HVe:=Lib.hid (HST.out _ _ HVd.out hb)
        simp only [decide_true]
        clear hb HF HXE
        obtain ⟨y0,y1,y2,y3,y4,y5⟩:=HKS.out _ HVe.out
        have hF:=(alike_any ⟨#[114]⟩ ⟨#[192,3,95,214]⟩ ⟨#[114]⟩ ⟨#[192,3,95,214]⟩ 1 1 0 0 false false none none 0 0 0 0 [] [] xe (by decide) (by decide) ⟨rfl,fun h=>absurd rfl h⟩ ⟨rfl,fun h=>absurd rfl h⟩ [114] [114])
        rw [show alikeB ⟨[114],1,false,0,(⟨#[192,3,95,214]⟩:ByteArray).data.toList,[]⟩ ⟨[114],1,false,0,(⟨#[192,3,95,214]⟩:ByteArray).data.toList,[]⟩=true from by decide +kernel] at hF
        have HF:=Lib.hid hF
        clear hF
        go_wp2_with fail
        clear y0 y1 y2 y3 y4 y5
        refine HF.out.mono ?_
        rintro e xf ⟨rfl,hb⟩
        have HVf:=Lib.hid (HST.out _ _ HVe.out hb)
        clear hb HF
        go_wp2
        go_ret
        exact ⟨rfl,HVf.out.1⟩
       exact AllReadyH.nil
      exact AllReadyH.nil
     exact AllReadyH.nil
    exact AllReadyH.nil
   exact AllReadyH.nil
  exact AllReadyH.nil
 refine AllReadyH.cons rfl (fun K hK=>?_) ?_
 ·obtain ⟨v1,hv⟩:∃ x,x=v0.alloc (.cells #[.bool true,.bool true,.bool true,.bool true] 4):=⟨_,rfl⟩
  have hb:Below v0.heap.size v0 v1:=by rw [hv];exact lit_below _ _
  have HV1:=Lib.hid (HST.out _ _ HV0.out hb)
  have HA1:Hid (SL enB 1 v1 v1.heap.size (some ⟨v0.heap.size,0,none⟩) 4 [true,true,true,true]):=Lib.hid (by rw [hv];exact bools_lit v0 [true,true,true,true])
  go_simp
  rw [<-hv]
  refine hK.out _ _ (HKS.out _ HV1.out) (fun hHeld=>?_)
  clear hK K hb
  clear hv
  generalize v0.heap.size=ai at HA1 ⊢
  refine wpAnyH_ready (rs:=[0]) (by kernel_rfl) (by simp) ?_
  refine AllReadyH.cons rfl (fun K hK=>?_) ?_
  ·go_simp;go_wp2_with (go_at_call 57;refine (caller_any _ _ _).mono ?_;rintro e v2 ⟨b1,rfl,hq,-,hb⟩)
   have HV2:=Lib.hid (HST.out _ _ HV1.out hb)
   have HA2:=Lib.hid (HA1.out.next hb)
   have HC12:=Lib.hid hq
   clear hq hb
   refine hK.out _ _ (HKS.out _ HV2.out) (fun hHeld=>?_)
   clear hK K
   refine wpAnyH_ready (rs:=[1]) (by kernel_rfl) (by simp) ?_
   refine AllReadyH.cons rfl (fun K hK=>?_) ?_
   ·go_simp;go_wp2_with (go_at_call 57;refine (caller_any _ _ _).mono ?_;rintro e v3 ⟨b2,rfl,hq,-,hb⟩)
    have HV3:=Lib.hid (HST.out _ _ HV2.out hb)
    have HA3:=Lib.hid (HA2.out.next hb)
    have HC13:=Lib.hid (HC12.out.next hb)
    have HC23:=Lib.hid hq
    clear hq hb
    refine hK.out _ _ (HKS.out _ HV3.out) (fun hHeld=>?_)
    clear hK K
    refine wpAnyH_ready (rs:=[4]) (by kernel_rfl) (by simp) ?_
    refine AllReadyH.cons rfl (fun K hK=>?_) ?_
    ·obtain ⟨v4,hv⟩:∃ x,x=v3.alloc (.cells #[.string ⟨#[97]⟩,.int .i64 1,.bool false,.int .i64 0,.string ⟨#[0,0,0,148]⟩,.slice (some ⟨b1,0,none⟩) 1 1,.string ⟨#[98]⟩,.int .i64 1,.bool false,.int .i64 0,.string ⟨#[0,0,0,148]⟩,.slice (some ⟨b2,0,none⟩) 1 1,.string ⟨#[114]⟩,.int .i64 1,.bool false,.int .i64 0,.string ⟨#[192,3,95,214]⟩,.slice none 0 0,.string ⟨#[114]⟩,.int .i64 1,.bool false,.int .i64 0,.string ⟨#[192,3,95,214]⟩,.slice none 0 0] 43):=⟨_,rfl⟩
     have hb:Below v3.heap.size v3 v4:=by rw [hv];exact lit_below _ _
     have HV4:=Lib.hid (HST.out _ _ HV3.out hb)
     have HA4:=Lib.hid (HA3.out.next hb)
     have HC14:=Lib.hid (HC13.out.next hb)
     have HC24:=Lib.hid (HC23.out.next hb)
     have HU4:Hid (SL msC 6 v4 v4.heap.size (some ⟨v3.heap.size,0,none⟩) 4 [mCal [97] 2 b1,mCal [98] 3 b2,mRet,mRet]):=Lib.hid (by rw [hv];exact units_lit v3 [mCal [97] 2 b1,mCal [98] 3 b2,mRet,mRet])
     go_simp
     rw [<-hv]
     refine hK.out _ _ (HKS.out _ HV4.out) (fun hHeld=>?_)
     clear hK K hb
     clear hv
     generalize v3.heap.size=ui at HU4 ⊢
     refine wpAnyH_ready (rs:=[6]) (by kernel_rfl) (by simp) ?_
     refine AllReadyH.cons rfl (fun K hK=>?_) ?_
     ·have HF:=Lib.hid (fold_lit (uc:=4) (ic:=4) (n:=4) (L:=[mCal [97] 2 b1,mCal [98] 3 b2,mRet,mRet]) (S:=rowA) (by decide) rfl HU4.out (by intro x hx;simp only [List.mem_cons,List.not_mem_nil,or_false] at hx;rcases hx with rfl | rfl | rfl | rfl;exact cal_notes HC14.out _;exact cal_notes HC24.out _;exact ret_notes _;exact ret_notes _) (by intro x hx;simp only [List.mem_cons,List.not_mem_nil,or_false] at hx;rcases hx with rfl | rfl | rfl | rfl;exact cal_good _ _ _ (by decide) (by decide);exact cal_good _ _ _ (by decide) (by decide);exact ret_good;exact ret_good) (by intro x hx;simp only [List.mem_cons,List.not_mem_nil,or_false] at hx;rcases hx with rfl | rfl | rfl | rfl;exact cal_few _ _ _;exact cal_few _ _ _;exact ret_few;exact ret_few) HA4.out (HT.out.next HV4.out.1) rowA_is)
      go_simp;go_wp2_with (go_at_call 20;refine HF.out.mono ?_;rintro e vF ⟨jA,ZA,hfx,rfl,hr,hb⟩)
      have HVF:=Lib.hid (HST.out _ _ HV4.out hb)
      rw [rowA_fix hfx,rowA_end] at hr
      have HZA:=Lib.hid hr
      clear hr hb hfx HF
      refine hK.out _ _ (HKS.out _ HVF.out) (fun hHeld=>?_)
      clear hK K
      refine wpAnyH_take (i:=7) (v:=?_) rfl (by kernel_rfl) (by kernel_rfl) (by kernel_rfl) (fun _ _ _ h=>h) (Or.inl ⟨by kernel_rfl,?_⟩) (by assumption) ?_
      rotate_left 1
      ·intro w hSw;(try dsimp only at hSw);obtain ⟨y0,y1,y2,y3,y4,y5⟩:=hSw;go_simp;(try with_reducible rfl)
      (try simp only [Act.put,List.setIfInBounds_toArray,List.set_cons_zero,List.set_cons_succ])
      refine wpAnyH_take (i:=8) (v:=?_) rfl (by kernel_rfl) (by kernel_rfl) (by kernel_rfl) (fun _ _ _ h=>h) (Or.inl ⟨by kernel_rfl,?_⟩) (by assumption) ?_
      rotate_left 1
      ·intro w hSw;(try dsimp only at hSw);obtain ⟨y0,y1,y2,y3,y4,y5⟩:=hSw;go_simp;(try with_reducible rfl)
      (try simp only [Act.put,List.setIfInBounds_toArray,List.set_cons_zero,List.set_cons_succ])
      refine wpAnyH_take (i:=9) (v:=?_) rfl (by kernel_rfl) (by kernel_rfl) (by kernel_rfl) (fun _ _ _ h=>h) (Or.inl ⟨by kernel_rfl,?_⟩) (by assumption) ?_
      rotate_left 1
      ·intro w hSw;(try dsimp only at hSw);obtain ⟨y0,y1,y2,y3,y4,y5⟩:=hSw;go_simp;(try with_reducible rfl)
      (try simp only [Act.put,List.setIfInBounds_toArray,List.set_cons_zero,List.set_cons_succ])
      refine wpAnyH_ready (rs:=[10]) (by kernel_rfl) (by simp) ?_
      refine AllReadyH.cons rfl (fun K hK=>?_) ?_
      ·go_simp
       refine hK.out _ _ (HKS.out _ HVF.out) (fun hHeld=>?_)
       clear hK K
       refine wpAnyH_ready (rs:=[11]) (by kernel_rfl) (by simp) ?_
       refine AllReadyH.cons rfl (fun K hK=>?_) ?_
       ·go_simp
        refine hK.out _ _ (HKS.out _ HVF.out) (fun hHeld=>?_)
        clear hK K
        refine wpAnyH_done (by kernel_rfl) ?_ _
        go_wp2_with fail
        refine (caller_any _ _ _).mono ?_
        rintro e x1 ⟨c1,rfl,hq,-,hb⟩
        have HV1:=Lib.hid (HST.out _ _ HVF.out hb)
        have HZ1:=Lib.hid (HZA.out.next hb)
        have HQ1:=Lib.hid hq
        clear hq hb
        go_wp2_with fail
        refine (caller_any _ _ _).mono ?_
        rintro e x2 ⟨c2,rfl,hq,-,hb⟩
        have HV2:=Lib.hid (HST.out _ _ HV1.out hb)
        have HZ2:=Lib.hid (HZ1.out.next hb)
        have HQ2:=Lib.hid (HQ1.out.next hb)
        have HP2:=Lib.hid hq
        clear hq hb
        obtain ⟨x3,h3⟩:∃ x,x=x2.alloc (.cells #[.string ⟨#[97]⟩,.int .i64 1,.bool false,.int .i64 0,.string ⟨#[0,0,0,148]⟩,.slice (some ⟨c1,0,none⟩) 1 1,.string ⟨#[98]⟩,.int .i64 1,.bool false,.int .i64 0,.string ⟨#[0,0,0,148]⟩,.slice (some ⟨c2,0,none⟩) 1 1] 43):=⟨_,rfl⟩
        obtain ⟨x4,h4⟩:∃ x,x=x3.alloc (.cells #[.bool true,.bool true] 4):=⟨_,rfl⟩
        have hb3:Below x2.heap.size x2 x3:=by rw [h3];exact lit_below _ _
        have hb4:Below x3.heap.size x3 x4:=by rw [h4];exact lit_below _ _
        have hz3:x3.heap.size=x2.heap.size+1:=by rw [h3,World.size_alloc]
        have hu3:SL msC 6 x3 x3.heap.size (some ⟨x2.heap.size,0,none⟩) 2 [mCal [97] 1 c1,mCal [98] 0 c2]:=by rw [h3];exact units_lit x2 [mCal [97] 1 c1,mCal [98] 0 c2]
        have hi4:SL enB 1 x4 x4.heap.size (some ⟨x2.heap.size+1,0,none⟩) 2 [true,true]:=by rw [<-hz3,h4];exact bools_lit x3 [true,true]
        have hbb:=after hb3 hb4
        have HV4:=Lib.hid (HST.out _ _ HV2.out hbb)
        have HZ4:=Lib.hid (HZ2.out.next hbb)
        have HF:=Lib.hid (fold_lit (uc:=2) (ic:=2) (n:=2) (L:=[mCal [97] 1 c1,mCal [98] 0 c2]) (S:=rowB) (by decide) rfl (hu3.next hb4) (by intro x hx;simp only [List.mem_cons,List.not_mem_nil,or_false] at hx;rcases hx with rfl | rfl;exact cal_notes (HQ2.out.next hbb) _;exact cal_notes (HP2.out.next hbb) _) (by intro x hx;simp only [List.mem_cons,List.not_mem_nil,or_false] at hx;rcases hx with rfl | rfl;exact cal_good _ _ _ (by decide) (by decide);exact cal_good _ _ _ (by decide) (by decide)) (by intro x hx;simp only [List.mem_cons,List.not_mem_nil,or_false] at hx;rcases hx with rfl | rfl;exact cal_few _ _ _;exact cal_few _ _ _) hi4 (HT.out.next HV4.out.1) rowB_is)
        have HXE:Hid ((x2.alloc (.cells #[.string ⟨#[97]⟩,.int .i64 1,.bool false,.int .i64 0,.string ⟨#[0,0,0,148]⟩,.slice (some ⟨c1,0,none⟩) 1 1,.string ⟨#[98]⟩,.int .i64 1,.bool false,.int .i64 0,.string ⟨#[0,0,0,148]⟩,.slice (some ⟨c2,0,none⟩) 1 1] 43)).alloc (.cells #[.bool true,.bool true] 4)=x4):=Lib.hid (by rw [h4,h3])
        clear h3 h4 hb3 hb4 hz3 hu3 hi4 hbb
        go_wp2_with fail
        rw [HXE.out]
        refine HF.out.mono ?_
        rintro e x5 ⟨jB,ZB,hfx,rfl,hr,hb⟩
        rw [rowB_fix hfx,rowB_end] at hr
        have HV5:=Lib.hid (HST.out _ _ HV4.out hb)
        have HZ5:=Lib.hid (HZ4.out.next hb)
        have HY5:=Lib.hid hr
        obtain ⟨y0,y1,y2,y3,y4,y5⟩:=HKS.out _ HV5.out
        clear hr hb hfx HF HXE
        obtain ⟨x6,h6⟩:∃ x,x=x5.alloc (.cells #[.string ⟨#[114]⟩,.int .i64 1,.bool false,.int .i64 0,.string ⟨#[192,3,95,214]⟩,.slice none 0 0,.string ⟨#[114]⟩,.int .i64 1,.bool false,.int .i64 0,.string ⟨#[192,3,95,214]⟩,.slice none 0 0] 43):=⟨_,rfl⟩
        obtain ⟨x7,h7⟩:∃ x,x=x6.alloc (.cells #[.bool true,.bool true] 4):=⟨_,rfl⟩
        have hb6:Below x5.heap.size x5 x6:=by rw [h6];exact lit_below _ _
        have hb7:Below x6.heap.size x6 x7:=by rw [h7];exact lit_below _ _
        have hz6:x6.heap.size=x5.heap.size+1:=by rw [h6,World.size_alloc]
        have hu6:SL msC 6 x6 x6.heap.size (some ⟨x5.heap.size,0,none⟩) 2 [mRet,mRet]:=by rw [h6];exact units_lit x5 [mRet,mRet]
        have hi7:SL enB 1 x7 x7.heap.size (some ⟨x5.heap.size+1,0,none⟩) 2 [true,true]:=by rw [<-hz6,h7];exact bools_lit x6 [true,true]
        have hbb:=after hb6 hb7
        have HV7:=Lib.hid (HST.out _ _ HV5.out hbb)
        have HZ7:=Lib.hid (HZ5.out.next hbb)
        have HY7:=Lib.hid (HY5.out.next hbb)
        have HF:=Lib.hid (saved_lit (uc:=2) (ic:=2) (n:=2) (L:=[mRet,mRet]) (S:=rowC) (by decide) rfl (hu6.next hb7) (by intro x hx;simp only [List.mem_cons,List.not_mem_nil,or_false] at hx;rcases hx with rfl | rfl;exact ret_notes _;exact ret_notes _) (by intro x hx;simp only [List.mem_cons,List.not_mem_nil,or_false] at hx;rcases hx with rfl | rfl;exact ret_good;exact ret_good) (by intro x hx;simp only [List.mem_cons,List.not_mem_nil,or_false] at hx;rcases hx with rfl | rfl;exact ret_few;exact ret_few) hi7 (HT.out.next HV7.out.1) rowC_is)
        have HXE:Hid ((x5.alloc (.cells #[.string ⟨#[114]⟩,.int .i64 1,.bool false,.int .i64 0,.string ⟨#[192,3,95,214]⟩,.slice none 0 0,.string ⟨#[114]⟩,.int .i64 1,.bool false,.int .i64 0,.string ⟨#[192,3,95,214]⟩,.slice none 0 0] 43)).alloc (.cells #[.bool true,.bool true] 4)=x7):=Lib.hid (by rw [h7,h6])
        clear h6 h7 hb6 hb7 hz6 hu6 hi7 hbb
        go_wp2_with fail
        rw [HXE.out]
        clear y0 y1 y2 y3 y4 y5
        refine HF.out.mono ?_
        rintro e x8 ⟨jC,hfx,he,hb⟩
        rw [rowC_fix hfx,rowC_sav] at he
        subst he
        have HV8:=Lib.hid (HST.out _ _ HV7.out hb)
        have HZ8:=Lib.hid (HZ7.out.next hb)
        have HY8:=Lib.hid (HY7.out.next hb)
        clear hb hfx HF HXE
        obtain ⟨x9,h9⟩:∃ x,x=x8.alloc (.cells #[.bool true] 4):=⟨_,rfl⟩
        have hb9:Below x8.heap.size x8 x9:=by rw [h9];exact lit_below _ _
        have HV9:=Lib.hid (HST.out _ _ HV8.out hb9)
        have HZ9:=Lib.hid (HZ8.out.next hb9)
        have HY9:=Lib.hid (HY8.out.next hb9)
        have HF:=Lib.hid (fold_no x9 none 0 0 [] (some ⟨x8.heap.size,0,none⟩) 1 1 (by decide) (by decide) ⟨rfl,fun h=>absurd rfl h⟩ (fun m hm=>absurd hm (List.not_mem_nil)) (fun m hm=>absurd hm (List.not_mem_nil)) (fun m hm=>absurd hm (List.not_mem_nil)) (HT.out.next HV9.out.1) (.inl (by decide)))
        have HXE:Hid (x8.alloc (.cells #[.bool true] 4)=x9):=Lib.hid h9.symm
        clear h9 hb9
        go_wp2_with fail
        rw [HXE.out]
        refine HF.out.mono ?_
        rintro e xa ⟨rfl,hb⟩
        have HVa:=Lib.hid (HST.out _ _ HV9.out hb)
        have HZa:=Lib.hid (HZ9.out.next hb)
        have HYa:=Lib.hid (HY9.out.next hb)
        clear hb HF HXE
        obtain ⟨xb,h9⟩:∃ x,x=xa.alloc (.cells #[.int .i64 0,.int .i64 0,.int .i64 2,.int .i64 2] 3):=⟨_,rfl⟩
        have hb9:Below xa.heap.size xa xb:=by rw [h9];exact lit_below _ _
        have HVb:=Lib.hid (HST.out _ _ HVa.out hb9)
        have HYb:=Lib.hid (HYa.out.next hb9)
        have hlx:RB xb xa.heap.size (inA [0,0,2,2]) 3:=by rw [h9];exact rb_new xa _ _
        have HF:=Lib.hid (sameI_any (some ⟨ZA,0,none⟩) (some ⟨xa.heap.size,0,none⟩) 4 4 4 4 [0,0,2,2] [0,0,2,2] xb (by decide) (by decide) (rb_slI (HZa.out.next hb9)) (rb_slI hlx))
        clear hlx
        have HXE:Hid (xa.alloc (.cells #[.int .i64 0,.int .i64 0,.int .i64 2,.int .i64 2] 3)=xb):=Lib.hid h9.symm
        clear h9 hb9
        go_wp2_with fail
        rw [HXE.out]
        refine HF.out.mono ?_
        rintro e xc ⟨rfl,hb⟩
        have HVc:=Lib.hid (HST.out _ _ HVb.out hb)
        have HYc:=Lib.hid (HYb.out.next hb)
        simp only [decide_true]
        clear hb HF HXE
        obtain ⟨xd,h9⟩:∃ x,x=xc.alloc (.cells #[.int .i64 0,.int .i64 0] 3):=⟨_,rfl⟩
        have hb9:Below xc.heap.size xc xd:=by rw [h9];exact lit_below _ _
        have HVd:=Lib.hid (HST.out _ _ HVc.out hb9)
        have hlx:RB xd xc.heap.size (inA [0,0]) 3:=by rw [h9];exact rb_new xc _ _
        have HF:=Lib.hid (sameI_any (some ⟨ZB,0,none⟩) (some ⟨xc.heap.size,0,none⟩) 2 2 2 2 [0,0] [0,0] xd (by decide) (by decide) (rb_slI (HYc.out.next hb9)) (rb_slI hlx))
        clear hlx
        have HXE:Hid (xc.alloc (.cells #[.int .i64 0,.int .i64 0] 3)=xd):=Lib.hid h9.symm
        clear h9 hb9
        go_wp2_with fail
        rw [HXE.out]
        refine HF.out.mono ?_
        rintro e xe ⟨rfl,hb⟩
        have HVe:=Lib.hid (HST.out _ _ HVd.out hb)
        simp only [decide_true]
        clear hb HF HXE
        obtain ⟨y0,y1,y2,y3,y4,y5⟩:=HKS.out _ HVe.out
        have hF:=(alike_any ⟨#[114]⟩ ⟨#[192,3,95,214]⟩ ⟨#[114]⟩ ⟨#[192,3,95,214]⟩ 1 1 0 0 false false none none 0 0 0 0 [] [] xe (by decide) (by decide) ⟨rfl,fun h=>absurd rfl h⟩ ⟨rfl,fun h=>absurd rfl h⟩ [114] [114])
        rw [show alikeB ⟨[114],1,false,0,(⟨#[192,3,95,214]⟩:ByteArray).data.toList,[]⟩ ⟨[114],1,false,0,(⟨#[192,3,95,214]⟩:ByteArray).data.toList,[]⟩=true from by decide +kernel] at hF
        have HF:=Lib.hid hF
        clear hF
        go_wp2_with fail
        clear y0 y1 y2 y3 y4 y5
        refine HF.out.mono ?_
        rintro e xf ⟨rfl,hb⟩
        have HVf:=Lib.hid (HST.out _ _ HVe.out hb)
        clear hb HF
        go_wp2
        go_ret
        exact ⟨rfl,HVf.out.1⟩
       exact AllReadyH.nil
      exact AllReadyH.nil
     exact AllReadyH.nil
    exact AllReadyH.nil
   exact AllReadyH.nil
  exact AllReadyH.nil
 exact AllReadyH.nil
end Go.Proofs.YtbabckomagkjbaaGreatDoor
