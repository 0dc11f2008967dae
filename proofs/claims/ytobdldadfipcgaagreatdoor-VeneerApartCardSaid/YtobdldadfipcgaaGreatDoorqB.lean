/- inst.own, shape by shape. inst.Shape, registers, numbers. inst.Shape, inst.Is. inst.Is, where a field that the shape does not have is not 0. inst.Is, whole; hasD, stackD, Writes. -/
import Derived.Test.YtobdldadfipcgaaGreatDoorqA
import Derived.RegionTactic
import Derived.ChangeAlike
import Derived.Deep.QuietTactic
import Derived.BigQuiet
import Derived.Outline
import Derived.Deep.RegionWith
set_option maxRecDepth 100000
set_option maxHeartbeats 4000000
set_option linter.unusedVariables false
set_option linter.unusedSimpArgs false
namespace Go.Proofs.YtobdldadfipcgaaGreatDoor
open Go.RowKit
structure In where
 op:Int
 d:Int
 n:Int
 m:Int
 a:Int
 imm:Int
 mask:Int
 shift:Int
 amount:Int
 cond:Int
abbrev inC (i:In):Array Value:=#[.int .i64 i.op,.int .i64 i.d,.int .i64 i.n,.int .i64 i.m,.int .i64 i.a,.int .i64 i.imm,.int .u64 i.mask,.int .i64 i.shift,.int .i64 i.amount,.int .i64 i.cond]
abbrev inV (i:In):Value:=.agg (inC i)
def hasDb (s:Int):Bool:=(decide (1<=s) && decide (s<=10)) || s == 16
def hasNb (s:Int):Bool:=(decide (2<=s) && decide (s<=8)) || s == 13 || s == 16
def hasMb (s:Int):Bool:=(decide (4<=s) && decide (s<=6)) || s == 16
def pick (b:Bool) (x:Int):Int:=if b then x else 0
def ownI (s:Int) (i:In):In:=
 { op:=i.op,d:=pick (hasDb s) i.d,n:=pick (hasNb s) i.n,m:=pick (hasMb s) i.m,a:=pick (s == 6) i.a,imm:=pick (s == 1 || s == 2 || s == 7 || s == 8 || s == 9 || s == 10 || s == 11 || s == 14 || s == 12) i.imm,mask:=pick (s == 3) i.mask,shift:=pick (s == 4 || s == 5) i.shift,amount:=pick (s == 1 || s == 2 || s == 4 || s == 5) i.amount,cond:=pick (s == 12 || s == 16) i.cond }
theorem own_any (s:Int) (i:In) (w:World) (h1:1<=s) (h2:s<=16):Calls Tryz.prog 81 #[inV i,.int .i64 s] w (RetB (inV (ownI s i)) w):=by
 obtain ⟨o,d,n,m,a,x,k,h,t,c⟩:=i
 have hc:s=1\/s=2\/s=3\/s=4\/s=5\/s=6\/s=7\/s=8\/s=9\/s=10\/s=11\/s=12\/s=13\/s=14\/s=15\/s=16:=by omega
 clear h1 h2
 rcases hc with rfl | rfl | rfl | rfl | rfl | rfl | rfl | rfl | rfl | rfl | rfl | rfl | rfl | rfl | rfl | rfl
 all_goals
  go_enter Tryz.func81,Tryz.ntmps81
  go_wp2
  try (go_region;all_goals go_wp2)
  all_goals
   refine bodyPost_ret (v:=inV (ownI _ ⟨o,d,n,m,a,x,k,h,t,c⟩)) (by simp [results,Tryz.results81,go_sem,ownI,pick,hasDb,hasNb,hasMb]) rfl ⟨rfl,?_⟩
   first
   | exact (((Below.refl w.heap.size w).alloc (Nat.le_refl _) _).alloc (by simp) _).alloc (by simp;omega) _
   | exact ((((Below.refl w.heap.size w).alloc (Nat.le_refl _) _).alloc (by simp) _).alloc (by simp;omega) _).drew
def withinI (n l m s:Int):Bool:=decide (l<=n) && decide (n<=m) && (n.tmod s == 0)
theorem within_any (n l m s:Int) (w:World) (hs:0 < s) (hn : -9223372036854775808<=n/\n<=9223372036854775807):Calls Tryz.prog 110 #[.int .i64 n,.int .i64 l,.int .i64 m,.int .i64 s] w (Ret (.bool (withinI n l m s)) w):=by
 have hs0:(s == 0)=false:=by rw [beq_eq_false_iff_ne];omega
 unfold withinI
 by_cases h1:l<=n
 ·rw [decide_eq_true h1]
  by_cases h2:n<=m
  ·rw [decide_eq_true h2]
   go_enter Tryz.func110,Tryz.ntmps110
   go_wp2
   go_ret
   exact ret_bool (by simp)
  ·rw [decide_eq_false h2]
   go_enter Tryz.func110,Tryz.ntmps110
   go_wp2
   go_ret
   exact ret_bool rfl
 ·rw [decide_eq_false h1]
  go_enter Tryz.func110,Tryz.ntmps110
  go_wp2
  go_ret
  exact ret_bool rfl
def regsI (i:In):Bool:=decide (0<=i.d/\i.d<=31/\0<=i.n/\i.n<=31/\0<=i.m/\i.m<=31/\0<=i.a/\i.a<=31)
theorem registers_any (i:In) (w:World):Calls Tryz.prog 82 #[inV i] w (RetB (.bool (regsI i)) w):=by
 obtain ⟨o,d,n,m,a,x,k,h,t,c⟩:=i
 have i0:∀ w,(Instr.index 185 (.agg #[.int .i64 d,.int .i64 n,.int .i64 m,.int .i64 a]) (.int .i64 0)).run Tryz.prog w=.ok (.int .i64 d) w:=fun _=>by kernel_rfl
 have i1:∀ w,(Instr.index 185 (.agg #[.int .i64 d,.int .i64 n,.int .i64 m,.int .i64 a]) (.int .i64 1)).run Tryz.prog w=.ok (.int .i64 n) w:=fun _=>by kernel_rfl
 have i2:∀ w,(Instr.index 185 (.agg #[.int .i64 d,.int .i64 n,.int .i64 m,.int .i64 a]) (.int .i64 2)).run Tryz.prog w=.ok (.int .i64 m) w:=fun _=>by kernel_rfl
 have i3:∀ w,(Instr.index 185 (.agg #[.int .i64 d,.int .i64 n,.int .i64 m,.int .i64 a]) (.int .i64 3)).run Tryz.prog w=.ok (.int .i64 a) w:=fun _=>by kernel_rfl
 go_enter Tryz.func82,Tryz.ntmps82
 go_wp2
 refine wp_loop_rounds 5 ?_
 rw [rounds_succ]
 go_wp2
 all_goals (try (rw [rounds_succ];go_wp2))
 all_goals (try (rw [rounds_succ];go_wp2))
 all_goals (try (rw [rounds_succ];go_wp2))
 all_goals (try (rw [rounds_succ];go_wp2))
 all_goals
  go_ret
  refine retB_bool ?_ ((Below.refl _ _).alloc (Nat.le_refl _) _)
  symm
  unfold regsI
  first
  | (apply decide_eq_true;simp only [];omega)
  | (apply decide_eq_false;simp only [];omega)
def numI (s:Int) (i:In):Bool:=
 if s=1 then withinI i.imm 0 65535 1 && withinI i.amount 0 48 16
 else if s=2 then withinI i.imm 0 4095 1 && withinI i.amount 0 12 12
 else if s=3 then isS i.mask.toNat
 else if s=4 then withinI i.shift 0 2 1 && withinI i.amount 0 63 1
 else if s=5 then withinI i.shift 0 3 1 && withinI i.amount 0 63 1
 else if s=7 then withinI i.imm 0 32760 8
 else if s=8 then withinI i.imm 0 4095 1
 else if s=9 then withinI i.imm (-1048576) 1048572 4
 else if s=10 then withinI i.imm (-1048576) 1048575 1
 else if s=11 then withinI i.imm (-134217728) 134217724 4
 else if s=12 then withinI i.imm (-1048576) 1048572 4 && withinI i.cond 0 13 1
 else if s=14 then withinI i.imm 0 65535 1
 else if s=16 then withinI i.cond 0 13 1
 else true
def i64B (x:Int):Prop := -9223372036854775808<=x/\x<=9223372036854775807
structure InB (i:In):Prop where
 op:i64B i.op
 d:i64B i.d
 n:i64B i.n
 m:i64B i.m
 a:i64B i.a
 imm:i64B i.imm
 mask:0<=i.mask/\i.mask < 18446744073709551616
 shift:i64B i.shift
 amount:i64B i.amount
 cond:i64B i.cond
theorem numbers_any (s:Int) (i:In) (w:World) (h1:1<=s) (h2:s<=16) (hi:InB i) (hT:Tab w):Calls Tryz.prog 83 #[inV i,.int .i64 s] w (RetB (.bool (numI s i)) w):=by
 obtain ⟨o,d,n,m,a,x,k,h,t,c⟩:=i
 have W1:Hid (∀ l m s w,0 < s->Calls Tryz.prog 110 #[.int .i64 x,.int .i64 l,.int .i64 m,.int .i64 s] w (Ret (.bool (withinI x l m s)) w)):=Lib.hid fun l m s w hs=>within_any x l m s w hs hi.imm
 have W2:Hid (∀ l m s w,0 < s->Calls Tryz.prog 110 #[.int .i64 t,.int .i64 l,.int .i64 m,.int .i64 s] w (Ret (.bool (withinI t l m s)) w)):=Lib.hid fun l m s w hs=>within_any t l m s w hs hi.amount
 have W3:Hid (∀ l m s w,0 < s->Calls Tryz.prog 110 #[.int .i64 h,.int .i64 l,.int .i64 m,.int .i64 s] w (Ret (.bool (withinI h l m s)) w)):=Lib.hid fun l m s w hs=>within_any h l m s w hs hi.shift
 have W4:Hid (∀ l m s w,0 < s->Calls Tryz.prog 110 #[.int .i64 c,.int .i64 l,.int .i64 m,.int .i64 s] w (Ret (.bool (withinI c l m s)) w)):=Lib.hid fun l m s w hs=>within_any c l m s w hs hi.cond
 obtain ⟨v,rfl⟩:=Int.eq_ofNat_of_zero_le (show 0<=k from hi.mask.1)
 have HI:Hid (∀ w,Tab w->Calls Tryz.prog 111 #[.int .u64 v] w (RetB (.bool (isS v)) w)):=Lib.hid fun w hw=>Is_any v w (by have:=hi.mask.2;simp only [] at this;omega) hw
 have HT:=Lib.hid hT
 have hc:s=1\/s=2\/s=3\/s=4\/s=5\/s=6\/s=7\/s=8\/s=9\/s=10\/s=11\/s=12\/s=13\/s=14\/s=15\/s=16:=by omega
 have HB:=Lib.hid ((Below.refl w.heap.size w).alloc (Nat.le_refl _) (.cells (inC ⟨o,d,n,m,a,x,v,h,t,c⟩) 98))
 clear h1 h2 hi hT
 rcases hc with rfl | rfl | rfl | rfl | rfl | rfl | rfl | rfl | rfl | rfl | rfl | rfl | rfl | rfl | rfl | rfl
 all_goals
  go_enter Tryz.func83,Tryz.ntmps83
  go_wp2_with (first | (go_at_call 110;((with_reducible refine (W1.out _ _ _ _ (by decide)).mono ?_);rintro e w' ⟨rfl,rfl⟩)) | (go_at_call 110;((with_reducible refine (W2.out _ _ _ _ (by decide)).mono ?_);rintro e w' ⟨rfl,rfl⟩)) | (go_at_call 110;((with_reducible refine (W3.out _ _ _ _ (by decide)).mono ?_);rintro e w' ⟨rfl,rfl⟩)) | (go_at_call 110;((with_reducible refine (W4.out _ _ _ _ (by decide)).mono ?_);rintro e w' ⟨rfl,rfl⟩)) | (go_at_call 111;((with_reducible refine (HI.out _ (HT.out.below HB.out HT.out.2)).mono ?_);rintro e w' ⟨rfl,hb⟩;replace HB:=Lib.hid (after HB.out hb);clear hb)))
  all_goals
   go_ret
   refine retB_bool ?_ HB.out
   first
   | rfl
   | (simp [numI];done)
   | (simp [numI, *];done)
end Go.Proofs.YtobdldadfipcgaaGreatDoor
namespace Go.Proofs.YtobdldadfipcgaaGreatDoor
open Go.RowKit
def shL:List Int:=[0,1,1,1,2,2,2,2,3,3,3,3,4,4,4,4,5,5,5,5,6,6,7,7,8,8,9,10,10,11,11,12,9,9,13,13,13,14,15,16]
def shapeI (op:Int):Int:=if op < 1\/39 < op then 0 else shL.getD op.toNat 0
abbrev Shapes (w:World):Prop:=∀ j,j < 40->w.cell? ⟨1,j,none⟩=some (.int .i64 (shL.getD j 0))
abbrev Tab4 (w:World):Prop:=Tab w/\Shapes w/\1 < w.heap.size
theorem Tab4.below {w w':World} (h:Tab4 w) (hb:Below w.heap.size w w'):Tab4 w':=
 ⟨h.1.below hb h.1.2,fun j hj=>by rw [hb.cell (p:=⟨1,j,none⟩) h.2.2];exact h.2.1 j hj,Nat.lt_of_lt_of_le h.2.2 hb.size⟩
theorem shL_b:∀ j,j < 40->0<=shL.getD j 0/\shL.getD j 0<=16:=by decide +kernel
theorem shapeI_b (op:Int):0<=shapeI op/\shapeI op<=16:=by
 unfold shapeI
 split
 ·omega
 ·exact shL_b _ (by omega)
theorem Shape_any (op:Int) (w:World) (hw:Tab4 w):Calls Tryz.prog 80 #[.int .i64 op] w (Ret (.int .i64 (shapeI op)) w):=by
 by_cases c:op < 1\/39 < op
 ·have H:Hid (shapeI op=0):=Lib.hid (by unfold shapeI;rw [if_pos c])
  clear hw
  rcases c with c | c
  ·go_enter Tryz.func80,Tryz.ntmps80
   go_wp2
   go_ret
   exact ret_int H.out.symm
  ·have c2:1<=op:=by omega
   go_enter Tryz.func80,Tryz.ntmps80
   go_wp2
   go_ret
   exact ret_int H.out.symm
 ·obtain ⟨k,rfl⟩:=Int.eq_ofNat_of_zero_le (show 0<=op by omega)
  have H:Hid (shapeI (k:Int)=shL.getD k 0):=Lib.hid (by unfold shapeI;rw [if_neg c];rfl)
  have hcell:=hw.2.1 k (by omega)
  have k1:1<=k:=by omega
  have k2:k<=39:=by omega
  clear hw c
  generalize shL.getD k 0=v at*
  go_enter Tryz.func80,Tryz.ntmps80
  go_wp2
  go_ret
  exact ret_int H.out.symm
def sameI (i j:In):Bool:=(i.op == j.op) && (i.d == j.d) && (i.n == j.n) && (i.m == j.m) && (i.a == j.a) && (i.imm == j.imm) && (i.mask == j.mask) && (i.shift == j.shift) && (i.amount == j.amount) && (i.cond == j.cond)
def isI (i:In):Bool:=(shapeI i.op != 0) && sameI i (ownI (shapeI i.op) i) && regsI i && numI (shapeI i.op) i
def Ten (R:Nat) (i:In) (w:World):Prop:=w.cell? ⟨R,0,none⟩=some (.int .i64 i.op)/\w.cell? ⟨R,1,none⟩=some (.int .i64 i.d)/\w.cell? ⟨R,2,none⟩=some (.int .i64 i.n)/\w.cell? ⟨R,3,none⟩=some (.int .i64 i.m)/\w.cell? ⟨R,4,none⟩=some (.int .i64 i.a)/\w.cell? ⟨R,5,none⟩=some (.int .i64 i.imm)/\w.cell? ⟨R,6,none⟩=some (.int .u64 i.mask)/\w.cell? ⟨R,7,none⟩=some (.int .i64 i.shift)/\w.cell? ⟨R,8,none⟩=some (.int .i64 i.amount)/\w.cell? ⟨R,9,none⟩=some (.int .i64 i.cond)
theorem Ten.below {R C:Nat} {i:In} {w w':World} (h:Ten R i w) (hb:Below C w w') (hR:R < C):Ten R i w':=
 ⟨(hb.cell (p:=⟨R,0,none⟩) hR).trans h.1,(hb.cell (p:=⟨R,1,none⟩) hR).trans h.2.1,(hb.cell (p:=⟨R,2,none⟩) hR).trans h.2.2.1,(hb.cell (p:=⟨R,3,none⟩) hR).trans h.2.2.2.1,(hb.cell (p:=⟨R,4,none⟩) hR).trans h.2.2.2.2.1,(hb.cell (p:=⟨R,5,none⟩) hR).trans h.2.2.2.2.2.1,(hb.cell (p:=⟨R,6,none⟩) hR).trans h.2.2.2.2.2.2.1,(hb.cell (p:=⟨R,7,none⟩) hR).trans h.2.2.2.2.2.2.2.1,(hb.cell (p:=⟨R,8,none⟩) hR).trans h.2.2.2.2.2.2.2.2.1,(hb.cell (p:=⟨R,9,none⟩) hR).trans h.2.2.2.2.2.2.2.2.2⟩
theorem Ten.made (w:World) (i:In) (T:TypeId):Ten w.heap.size i (w.alloc (.cells (inC i) T)):=by
 have e:=(MapKept.heap_alloc w (.cells (inC i) T)).1
 refine ⟨?_,?_,?_,?_,?_,?_,?_,?_,?_,?_⟩ <;> (unfold World.cell?;rw [e];rfl)
theorem Is_no (i:In) (w:World) (hw:Tab4 w) (h0:shapeI i.op=0):Calls Tryz.prog 56 #[inV i] w (RetB (.bool false) w):=by
 obtain ⟨o,d,n,m,a,x,k,h,t,c⟩:=i
 have hsh:=shapeI_b o
 have HSh:Hid (∀ w,Tab4 w->Calls Tryz.prog 80 #[.int .i64 o] w (Ret (.int .i64 (shapeI o)) w)):=Lib.hid fun w h=>Shape_any o w h
 have HT:=Lib.hid hw
 have HBA:=Lib.hid ((Below.refl w.heap.size w).alloc (Nat.le_refl _) (.cells (inC ⟨o,d,n,m,a,x,k,h,t,c⟩) 98))
 obtain ⟨s,hs⟩:∃ s,s=shapeI o:=⟨_,rfl⟩
 rw [<-hs] at HSh
 obtain rfl:s=0:=hs.trans h0
 clear hs hsh h0 hw
 go_enter Tryz.func56,Tryz.ntmps56
 go_wp2_with (first | (go_at_call 80;((with_reducible refine (HSh.out _ (HT.out.below HBA.out)).mono ?_);rintro e w' ⟨rfl,rfl⟩)))
 go_quiet (fail)
 go_wp2
 go_ret
 exact retB_bool rfl (below_drewN HBA.out _)
theorem Is_yes (i:In) (w:World) (hw:Tab4 w) (h0:shapeI i.op ≠ 0) (hi:InB i) (he:ownI (shapeI i.op) i=i):Calls Tryz.prog 56 #[inV i] w (RetB (.bool (regsI i && numI (shapeI i.op) i)) w):=by
 obtain ⟨o,d,n,m,a,x,k,h,t,c⟩:=i
 have hsh:=shapeI_b o
 have HSh:Hid (∀ w,Tab4 w->Calls Tryz.prog 80 #[.int .i64 o] w (Ret (.int .i64 (shapeI o)) w)):=Lib.hid fun w h=>Shape_any o w h
 have HT:=Lib.hid hw
 have HBA:=Lib.hid ((Below.refl w.heap.size w).alloc (Nat.le_refl _) (.cells (inC ⟨o,d,n,m,a,x,k,h,t,c⟩) 98))
 obtain ⟨s,hs⟩:∃ s,s=shapeI o:=⟨_,rfl⟩
 have hs1:1<=s/\s<=16:=by have:shapeI o ≠ 0:=h0;omega
 have q0:(s != 0)=true:=by rw [bne_iff_ne];omega
 have HOwn:Hid (∀ w,Calls Tryz.prog 81 #[inV ⟨o,d,n,m,a,x,k,h,t,c⟩,.int .i64 s] w (RetB (inV ⟨o,d,n,m,a,x,k,h,t,c⟩) w)):=Lib.hid fun w=>by
  have:=own_any s ⟨o,d,n,m,a,x,k,h,t,c⟩ w hs1.1 hs1.2
  rw [hs] at this ⊢
  rwa [he] at this
 have HReg:Hid (∀ w,Calls Tryz.prog 82 #[inV ⟨o,d,n,m,a,x,k,h,t,c⟩] w (RetB (.bool (regsI ⟨o,d,n,m,a,x,k,h,t,c⟩)) w)):=Lib.hid fun w=>registers_any _ w
 have HNum:Hid (∀ w,Tab w->Calls Tryz.prog 83 #[inV ⟨o,d,n,m,a,x,k,h,t,c⟩,.int .i64 s] w (RetB (.bool (numI s ⟨o,d,n,m,a,x,k,h,t,c⟩)) w)):=Lib.hid fun w hT=>numbers_any s _ w hs1.1 hs1.2 hi hT
 show Calls Tryz.prog 56 #[inV ⟨o,d,n,m,a,x,k,h,t,c⟩] w (RetB (.bool (regsI ⟨o,d,n,m,a,x,k,h,t,c⟩ && numI (shapeI o) ⟨o,d,n,m,a,x,k,h,t,c⟩)) w)
 rw [<-hs]
 rw [<-hs] at HSh
 generalize numI s ⟨o,d,n,m,a,x,k,h,t,c⟩=bn at*
 clear hs hsh h0 hw hi he hs1
 cases hr:regsI ⟨o,d,n,m,a,x,k,h,t,c⟩
 all_goals
  rw [hr] at HReg
  clear hr
  go_enter Tryz.func56,Tryz.ntmps56
  go_wp2_with (first | (go_at_call 80;((with_reducible refine (HSh.out _ (HT.out.below HBA.out)).mono ?_);rintro e w' ⟨rfl,rfl⟩)))
  obtain ⟨R,hR⟩:∃ R,R=w.heap.size:=⟨_,rfl⟩
  obtain ⟨wa,hwa⟩:∃ wa,wa=w.alloc (.cells (inC ⟨o,d,n,m,a,x,k,h,t,c⟩) 98):=⟨_,rfl⟩
  have hten:Ten R ⟨o,d,n,m,a,x,k,h,t,c⟩ wa:=by rw [hwa,hR];exact Ten.made _ _ _
  have HTen:=Lib.hid hten
  have hRl:R < wa.heap.size:=by rw [hwa,hR];simp
  rw [<-hwa] at HBA
  rw [<-hR,<-hwa]
  clear hR hwa hten
  have hx0:Below wa.heap.size wa wa:=Below.refl _ _
  obtain ⟨c0,c1,c2,c3,c4,c5,c6,c7,c8,c9⟩:=HTen.out
  first
  | (go_region_with (first
      | (go_at_call 81;refine (HOwn.out _).mono ?_;rintro e w' ⟨rfl,hb5⟩;have hx5:Below wa.heap.size wa w':=((Below.refl _ wa).drew).trans hb5;obtain ⟨g0,g1,g2,g3,g4,g5,g6,g7,g8,g9⟩:=HTen.out.below hx5 hRl)
      | (go_at_call 82;refine (HReg.out _).mono ?_;rintro e w' ⟨rfl,hb6⟩;have hx6:Below wa.heap.size wa w':=hx5.trans (hb6.mono hx5.size);obtain ⟨k0,k1,k2,k3,k4,k5,k6,k7,k8,k9⟩:=HTen.out.below hx6 hRl)
      | (go_at_call 83;refine (HNum.out _ ((HT.out.1.below HBA.out HT.out.1.2).below hx6 (by have:=HT.out.1.2;have:=HBA.out.size;omega))).mono ?_;rintro e w' ⟨rfl,hb7⟩;have hx7:Below wa.heap.size wa w':=hx6.trans (hb7.mono hx6.size))))
  | fail
  all_goals
   go_wp2
   go_ret
   first
   | exact retB_bool rfl (after HBA.out hx7)
   | exact retB_bool rfl (after HBA.out hx6)
end Go.Proofs.YtobdldadfipcgaaGreatDoor
namespace Go.Proofs.YtobdldadfipcgaaGreatDoor
open Go.RowKit
theorem Is_ne0 (i j:In) (w:World) (hw:Tab4 w) (h0:shapeI i.op ≠ 0) (he:ownI (shapeI i.op) i=j) (eo:(i.op == j.op)=true)  (e0:(i.d == j.d)=false):Calls Tryz.prog 56 #[inV i] w (RetB (.bool false) w):=by
 obtain ⟨o,d,n,m,a,x,k,h,t,c⟩:=i
 have hsh:=shapeI_b o
 have HSh:Hid (∀ w,Tab4 w->Calls Tryz.prog 80 #[.int .i64 o] w (Ret (.int .i64 (shapeI o)) w)):=Lib.hid fun w h=>Shape_any o w h
 have HT:=Lib.hid hw
 have HBA:=Lib.hid ((Below.refl w.heap.size w).alloc (Nat.le_refl _) (.cells (inC ⟨o,d,n,m,a,x,k,h,t,c⟩) 98))
 obtain ⟨o',d',n',m',a',x',k',h',t',c'⟩:=j
 simp only [] at eo e0
 obtain ⟨s,hs⟩:∃ s,s=shapeI o:=⟨_,rfl⟩
 have hs1:1<=s/\s<=16:=by have:shapeI o ≠ 0:=h0;omega
 have q0:(s != 0)=true:=by rw [bne_iff_ne];omega
 have HOwn:Hid (∀ w,Calls Tryz.prog 81 #[inV ⟨o,d,n,m,a,x,k,h,t,c⟩,.int .i64 s] w (RetB (inV ⟨o',d',n',m',a',x',k',h',t',c'⟩) w)):=Lib.hid fun w=>by
  have:=own_any s ⟨o,d,n,m,a,x,k,h,t,c⟩ w hs1.1 hs1.2
  rw [hs] at this ⊢
  rwa [he] at this
 rw [<-hs] at HSh
 clear hs hsh h0 hw he hs1
 go_enter Tryz.func56,Tryz.ntmps56
 go_wp2_with (first | (go_at_call 80;((with_reducible refine (HSh.out _ (HT.out.below HBA.out)).mono ?_);rintro e w' ⟨rfl,rfl⟩)))
 obtain ⟨R,hR⟩:∃ R,R=w.heap.size:=⟨_,rfl⟩
 obtain ⟨wa,hwa⟩:∃ wa,wa=w.alloc (.cells (inC ⟨o,d,n,m,a,x,k,h,t,c⟩) 98):=⟨_,rfl⟩
 have hten:Ten R ⟨o,d,n,m,a,x,k,h,t,c⟩ wa:=by rw [hwa,hR];exact Ten.made _ _ _
 have HTen:=Lib.hid hten
 have hRl:R < wa.heap.size:=by rw [hwa,hR];simp
 rw [<-hwa] at HBA
 rw [<-hR,<-hwa]
 clear hR hwa hten
 have hx0:Below wa.heap.size wa wa:=Below.refl _ _
 obtain ⟨c0,c1,c2,c3,c4,c5,c6,c7,c8,c9⟩:=HTen.out
 first
 | (go_region_with (go_at_call 81;refine (HOwn.out _).mono ?_;rintro e w' ⟨rfl,hb5⟩;have hx5:Below wa.heap.size wa w':=((Below.refl _ wa).drew).trans hb5;obtain ⟨g0,g1,g2,g3,g4,g5,g6,g7,g8,g9⟩:=HTen.out.below hx5 hRl))
 | fail
 all_goals
  go_wp2
  go_ret
  exact retB_bool rfl (after HBA.out hx5)
theorem Is_ne1 (i j:In) (w:World) (hw:Tab4 w) (h0:shapeI i.op ≠ 0) (he:ownI (shapeI i.op) i=j) (eo:(i.op == j.op)=true) (e0:(i.d == j.d)=true) (e1:(i.n == j.n)=false):Calls Tryz.prog 56 #[inV i] w (RetB (.bool false) w):=by
 obtain ⟨o,d,n,m,a,x,k,h,t,c⟩:=i
 have hsh:=shapeI_b o
 have HSh:Hid (∀ w,Tab4 w->Calls Tryz.prog 80 #[.int .i64 o] w (Ret (.int .i64 (shapeI o)) w)):=Lib.hid fun w h=>Shape_any o w h
 have HT:=Lib.hid hw
 have HBA:=Lib.hid ((Below.refl w.heap.size w).alloc (Nat.le_refl _) (.cells (inC ⟨o,d,n,m,a,x,k,h,t,c⟩) 98))
 obtain ⟨o',d',n',m',a',x',k',h',t',c'⟩:=j
 simp only [] at eo e0 e1
 obtain ⟨s,hs⟩:∃ s,s=shapeI o:=⟨_,rfl⟩
 have hs1:1<=s/\s<=16:=by have:shapeI o ≠ 0:=h0;omega
 have q0:(s != 0)=true:=by rw [bne_iff_ne];omega
 have HOwn:Hid (∀ w,Calls Tryz.prog 81 #[inV ⟨o,d,n,m,a,x,k,h,t,c⟩,.int .i64 s] w (RetB (inV ⟨o',d',n',m',a',x',k',h',t',c'⟩) w)):=Lib.hid fun w=>by
  have:=own_any s ⟨o,d,n,m,a,x,k,h,t,c⟩ w hs1.1 hs1.2
  rw [hs] at this ⊢
  rwa [he] at this
 rw [<-hs] at HSh
 clear hs hsh h0 hw he hs1
 go_enter Tryz.func56,Tryz.ntmps56
 go_wp2_with (first | (go_at_call 80;((with_reducible refine (HSh.out _ (HT.out.below HBA.out)).mono ?_);rintro e w' ⟨rfl,rfl⟩)))
 obtain ⟨R,hR⟩:∃ R,R=w.heap.size:=⟨_,rfl⟩
 obtain ⟨wa,hwa⟩:∃ wa,wa=w.alloc (.cells (inC ⟨o,d,n,m,a,x,k,h,t,c⟩) 98):=⟨_,rfl⟩
 have hten:Ten R ⟨o,d,n,m,a,x,k,h,t,c⟩ wa:=by rw [hwa,hR];exact Ten.made _ _ _
 have HTen:=Lib.hid hten
 have hRl:R < wa.heap.size:=by rw [hwa,hR];simp
 rw [<-hwa] at HBA
 rw [<-hR,<-hwa]
 clear hR hwa hten
 have hx0:Below wa.heap.size wa wa:=Below.refl _ _
 obtain ⟨c0,c1,c2,c3,c4,c5,c6,c7,c8,c9⟩:=HTen.out
 first
 | (go_region_with (go_at_call 81;refine (HOwn.out _).mono ?_;rintro e w' ⟨rfl,hb5⟩;have hx5:Below wa.heap.size wa w':=((Below.refl _ wa).drew).trans hb5;obtain ⟨g0,g1,g2,g3,g4,g5,g6,g7,g8,g9⟩:=HTen.out.below hx5 hRl))
 | fail
 all_goals
  go_wp2
  go_ret
  exact retB_bool rfl (after HBA.out hx5)
theorem Is_ne2 (i j:In) (w:World) (hw:Tab4 w) (h0:shapeI i.op ≠ 0) (he:ownI (shapeI i.op) i=j) (eo:(i.op == j.op)=true) (e0:(i.d == j.d)=true) (e1:(i.n == j.n)=true) (e2:(i.m == j.m)=false):Calls Tryz.prog 56 #[inV i] w (RetB (.bool false) w):=by
 obtain ⟨o,d,n,m,a,x,k,h,t,c⟩:=i
 have hsh:=shapeI_b o
 have HSh:Hid (∀ w,Tab4 w->Calls Tryz.prog 80 #[.int .i64 o] w (Ret (.int .i64 (shapeI o)) w)):=Lib.hid fun w h=>Shape_any o w h
 have HT:=Lib.hid hw
 have HBA:=Lib.hid ((Below.refl w.heap.size w).alloc (Nat.le_refl _) (.cells (inC ⟨o,d,n,m,a,x,k,h,t,c⟩) 98))
 obtain ⟨o',d',n',m',a',x',k',h',t',c'⟩:=j
 simp only [] at eo e0 e1 e2
 obtain ⟨s,hs⟩:∃ s,s=shapeI o:=⟨_,rfl⟩
 have hs1:1<=s/\s<=16:=by have:shapeI o ≠ 0:=h0;omega
 have q0:(s != 0)=true:=by rw [bne_iff_ne];omega
 have HOwn:Hid (∀ w,Calls Tryz.prog 81 #[inV ⟨o,d,n,m,a,x,k,h,t,c⟩,.int .i64 s] w (RetB (inV ⟨o',d',n',m',a',x',k',h',t',c'⟩) w)):=Lib.hid fun w=>by
  have:=own_any s ⟨o,d,n,m,a,x,k,h,t,c⟩ w hs1.1 hs1.2
  rw [hs] at this ⊢
  rwa [he] at this
 rw [<-hs] at HSh
 clear hs hsh h0 hw he hs1
 go_enter Tryz.func56,Tryz.ntmps56
 go_wp2_with (first | (go_at_call 80;((with_reducible refine (HSh.out _ (HT.out.below HBA.out)).mono ?_);rintro e w' ⟨rfl,rfl⟩)))
 obtain ⟨R,hR⟩:∃ R,R=w.heap.size:=⟨_,rfl⟩
 obtain ⟨wa,hwa⟩:∃ wa,wa=w.alloc (.cells (inC ⟨o,d,n,m,a,x,k,h,t,c⟩) 98):=⟨_,rfl⟩
 have hten:Ten R ⟨o,d,n,m,a,x,k,h,t,c⟩ wa:=by rw [hwa,hR];exact Ten.made _ _ _
 have HTen:=Lib.hid hten
 have hRl:R < wa.heap.size:=by rw [hwa,hR];simp
 rw [<-hwa] at HBA
 rw [<-hR,<-hwa]
 clear hR hwa hten
 have hx0:Below wa.heap.size wa wa:=Below.refl _ _
 obtain ⟨c0,c1,c2,c3,c4,c5,c6,c7,c8,c9⟩:=HTen.out
 first
 | (go_region_with (go_at_call 81;refine (HOwn.out _).mono ?_;rintro e w' ⟨rfl,hb5⟩;have hx5:Below wa.heap.size wa w':=((Below.refl _ wa).drew).trans hb5;obtain ⟨g0,g1,g2,g3,g4,g5,g6,g7,g8,g9⟩:=HTen.out.below hx5 hRl))
 | fail
 all_goals
  go_wp2
  go_ret
  exact retB_bool rfl (after HBA.out hx5)
theorem Is_ne3 (i j:In) (w:World) (hw:Tab4 w) (h0:shapeI i.op ≠ 0) (he:ownI (shapeI i.op) i=j) (eo:(i.op == j.op)=true) (e0:(i.d == j.d)=true) (e1:(i.n == j.n)=true) (e2:(i.m == j.m)=true) (e3:(i.a == j.a)=false):Calls Tryz.prog 56 #[inV i] w (RetB (.bool false) w):=by
 obtain ⟨o,d,n,m,a,x,k,h,t,c⟩:=i
 have hsh:=shapeI_b o
 have HSh:Hid (∀ w,Tab4 w->Calls Tryz.prog 80 #[.int .i64 o] w (Ret (.int .i64 (shapeI o)) w)):=Lib.hid fun w h=>Shape_any o w h
 have HT:=Lib.hid hw
 have HBA:=Lib.hid ((Below.refl w.heap.size w).alloc (Nat.le_refl _) (.cells (inC ⟨o,d,n,m,a,x,k,h,t,c⟩) 98))
 obtain ⟨o',d',n',m',a',x',k',h',t',c'⟩:=j
 simp only [] at eo e0 e1 e2 e3
 obtain ⟨s,hs⟩:∃ s,s=shapeI o:=⟨_,rfl⟩
 have hs1:1<=s/\s<=16:=by have:shapeI o ≠ 0:=h0;omega
 have q0:(s != 0)=true:=by rw [bne_iff_ne];omega
 have HOwn:Hid (∀ w,Calls Tryz.prog 81 #[inV ⟨o,d,n,m,a,x,k,h,t,c⟩,.int .i64 s] w (RetB (inV ⟨o',d',n',m',a',x',k',h',t',c'⟩) w)):=Lib.hid fun w=>by
  have:=own_any s ⟨o,d,n,m,a,x,k,h,t,c⟩ w hs1.1 hs1.2
  rw [hs] at this ⊢
  rwa [he] at this
 rw [<-hs] at HSh
 clear hs hsh h0 hw he hs1
 go_enter Tryz.func56,Tryz.ntmps56
 go_wp2_with (first | (go_at_call 80;((with_reducible refine (HSh.out _ (HT.out.below HBA.out)).mono ?_);rintro e w' ⟨rfl,rfl⟩)))
 obtain ⟨R,hR⟩:∃ R,R=w.heap.size:=⟨_,rfl⟩
 obtain ⟨wa,hwa⟩:∃ wa,wa=w.alloc (.cells (inC ⟨o,d,n,m,a,x,k,h,t,c⟩) 98):=⟨_,rfl⟩
 have hten:Ten R ⟨o,d,n,m,a,x,k,h,t,c⟩ wa:=by rw [hwa,hR];exact Ten.made _ _ _
 have HTen:=Lib.hid hten
 have hRl:R < wa.heap.size:=by rw [hwa,hR];simp
 rw [<-hwa] at HBA
 rw [<-hR,<-hwa]
 clear hR hwa hten
 have hx0:Below wa.heap.size wa wa:=Below.refl _ _
 obtain ⟨c0,c1,c2,c3,c4,c5,c6,c7,c8,c9⟩:=HTen.out
 first
 | (go_region_with (go_at_call 81;refine (HOwn.out _).mono ?_;rintro e w' ⟨rfl,hb5⟩;have hx5:Below wa.heap.size wa w':=((Below.refl _ wa).drew).trans hb5;obtain ⟨g0,g1,g2,g3,g4,g5,g6,g7,g8,g9⟩:=HTen.out.below hx5 hRl))
 | fail
 all_goals
  go_wp2
  go_ret
  exact retB_bool rfl (after HBA.out hx5)
theorem Is_ne4 (i j:In) (w:World) (hw:Tab4 w) (h0:shapeI i.op ≠ 0) (he:ownI (shapeI i.op) i=j) (eo:(i.op == j.op)=true) (e0:(i.d == j.d)=true) (e1:(i.n == j.n)=true) (e2:(i.m == j.m)=true) (e3:(i.a == j.a)=true) (e4:(i.imm == j.imm)=false):Calls Tryz.prog 56 #[inV i] w (RetB (.bool false) w):=by
 obtain ⟨o,d,n,m,a,x,k,h,t,c⟩:=i
 have hsh:=shapeI_b o
 have HSh:Hid (∀ w,Tab4 w->Calls Tryz.prog 80 #[.int .i64 o] w (Ret (.int .i64 (shapeI o)) w)):=Lib.hid fun w h=>Shape_any o w h
 have HT:=Lib.hid hw
 have HBA:=Lib.hid ((Below.refl w.heap.size w).alloc (Nat.le_refl _) (.cells (inC ⟨o,d,n,m,a,x,k,h,t,c⟩) 98))
 obtain ⟨o',d',n',m',a',x',k',h',t',c'⟩:=j
 simp only [] at eo e0 e1 e2 e3 e4
 obtain ⟨s,hs⟩:∃ s,s=shapeI o:=⟨_,rfl⟩
 have hs1:1<=s/\s<=16:=by have:shapeI o ≠ 0:=h0;omega
 have q0:(s != 0)=true:=by rw [bne_iff_ne];omega
 have HOwn:Hid (∀ w,Calls Tryz.prog 81 #[inV ⟨o,d,n,m,a,x,k,h,t,c⟩,.int .i64 s] w (RetB (inV ⟨o',d',n',m',a',x',k',h',t',c'⟩) w)):=Lib.hid fun w=>by
  have:=own_any s ⟨o,d,n,m,a,x,k,h,t,c⟩ w hs1.1 hs1.2
  rw [hs] at this ⊢
  rwa [he] at this
 rw [<-hs] at HSh
 clear hs hsh h0 hw he hs1
 go_enter Tryz.func56,Tryz.ntmps56
 go_wp2_with (first | (go_at_call 80;((with_reducible refine (HSh.out _ (HT.out.below HBA.out)).mono ?_);rintro e w' ⟨rfl,rfl⟩)))
 obtain ⟨R,hR⟩:∃ R,R=w.heap.size:=⟨_,rfl⟩
 obtain ⟨wa,hwa⟩:∃ wa,wa=w.alloc (.cells (inC ⟨o,d,n,m,a,x,k,h,t,c⟩) 98):=⟨_,rfl⟩
 have hten:Ten R ⟨o,d,n,m,a,x,k,h,t,c⟩ wa:=by rw [hwa,hR];exact Ten.made _ _ _
 have HTen:=Lib.hid hten
 have hRl:R < wa.heap.size:=by rw [hwa,hR];simp
 rw [<-hwa] at HBA
 rw [<-hR,<-hwa]
 clear hR hwa hten
 have hx0:Below wa.heap.size wa wa:=Below.refl _ _
 obtain ⟨c0,c1,c2,c3,c4,c5,c6,c7,c8,c9⟩:=HTen.out
 first
 | (go_region_with (go_at_call 81;refine (HOwn.out _).mono ?_;rintro e w' ⟨rfl,hb5⟩;have hx5:Below wa.heap.size wa w':=((Below.refl _ wa).drew).trans hb5;obtain ⟨g0,g1,g2,g3,g4,g5,g6,g7,g8,g9⟩:=HTen.out.below hx5 hRl))
 | fail
 all_goals
  go_wp2
  go_ret
  exact retB_bool rfl (after HBA.out hx5)
theorem Is_ne5 (i j:In) (w:World) (hw:Tab4 w) (h0:shapeI i.op ≠ 0) (he:ownI (shapeI i.op) i=j) (eo:(i.op == j.op)=true) (e0:(i.d == j.d)=true) (e1:(i.n == j.n)=true) (e2:(i.m == j.m)=true) (e3:(i.a == j.a)=true) (e4:(i.imm == j.imm)=true) (e5:(i.mask == j.mask)=false):Calls Tryz.prog 56 #[inV i] w (RetB (.bool false) w):=by
 obtain ⟨o,d,n,m,a,x,k,h,t,c⟩:=i
 have hsh:=shapeI_b o
 have HSh:Hid (∀ w,Tab4 w->Calls Tryz.prog 80 #[.int .i64 o] w (Ret (.int .i64 (shapeI o)) w)):=Lib.hid fun w h=>Shape_any o w h
 have HT:=Lib.hid hw
 have HBA:=Lib.hid ((Below.refl w.heap.size w).alloc (Nat.le_refl _) (.cells (inC ⟨o,d,n,m,a,x,k,h,t,c⟩) 98))
 obtain ⟨o',d',n',m',a',x',k',h',t',c'⟩:=j
 simp only [] at eo e0 e1 e2 e3 e4 e5
 obtain ⟨s,hs⟩:∃ s,s=shapeI o:=⟨_,rfl⟩
 have hs1:1<=s/\s<=16:=by have:shapeI o ≠ 0:=h0;omega
 have q0:(s != 0)=true:=by rw [bne_iff_ne];omega
 have HOwn:Hid (∀ w,Calls Tryz.prog 81 #[inV ⟨o,d,n,m,a,x,k,h,t,c⟩,.int .i64 s] w (RetB (inV ⟨o',d',n',m',a',x',k',h',t',c'⟩) w)):=Lib.hid fun w=>by
  have:=own_any s ⟨o,d,n,m,a,x,k,h,t,c⟩ w hs1.1 hs1.2
  rw [hs] at this ⊢
  rwa [he] at this
 rw [<-hs] at HSh
 clear hs hsh h0 hw he hs1
 go_enter Tryz.func56,Tryz.ntmps56
 go_wp2_with (first | (go_at_call 80;((with_reducible refine (HSh.out _ (HT.out.below HBA.out)).mono ?_);rintro e w' ⟨rfl,rfl⟩)))
 obtain ⟨R,hR⟩:∃ R,R=w.heap.size:=⟨_,rfl⟩
 obtain ⟨wa,hwa⟩:∃ wa,wa=w.alloc (.cells (inC ⟨o,d,n,m,a,x,k,h,t,c⟩) 98):=⟨_,rfl⟩
 have hten:Ten R ⟨o,d,n,m,a,x,k,h,t,c⟩ wa:=by rw [hwa,hR];exact Ten.made _ _ _
 have HTen:=Lib.hid hten
 have hRl:R < wa.heap.size:=by rw [hwa,hR];simp
 rw [<-hwa] at HBA
 rw [<-hR,<-hwa]
 clear hR hwa hten
 have hx0:Below wa.heap.size wa wa:=Below.refl _ _
 obtain ⟨c0,c1,c2,c3,c4,c5,c6,c7,c8,c9⟩:=HTen.out
 first
 | (go_region_with (go_at_call 81;refine (HOwn.out _).mono ?_;rintro e w' ⟨rfl,hb5⟩;have hx5:Below wa.heap.size wa w':=((Below.refl _ wa).drew).trans hb5;obtain ⟨g0,g1,g2,g3,g4,g5,g6,g7,g8,g9⟩:=HTen.out.below hx5 hRl))
 | fail
 all_goals
  go_wp2
  go_ret
  exact retB_bool rfl (after HBA.out hx5)
theorem Is_ne6 (i j:In) (w:World) (hw:Tab4 w) (h0:shapeI i.op ≠ 0) (he:ownI (shapeI i.op) i=j) (eo:(i.op == j.op)=true) (e0:(i.d == j.d)=true) (e1:(i.n == j.n)=true) (e2:(i.m == j.m)=true) (e3:(i.a == j.a)=true) (e4:(i.imm == j.imm)=true) (e5:(i.mask == j.mask)=true) (e6:(i.shift == j.shift)=false):Calls Tryz.prog 56 #[inV i] w (RetB (.bool false) w):=by
 obtain ⟨o,d,n,m,a,x,k,h,t,c⟩:=i
 have hsh:=shapeI_b o
 have HSh:Hid (∀ w,Tab4 w->Calls Tryz.prog 80 #[.int .i64 o] w (Ret (.int .i64 (shapeI o)) w)):=Lib.hid fun w h=>Shape_any o w h
 have HT:=Lib.hid hw
 have HBA:=Lib.hid ((Below.refl w.heap.size w).alloc (Nat.le_refl _) (.cells (inC ⟨o,d,n,m,a,x,k,h,t,c⟩) 98))
 obtain ⟨o',d',n',m',a',x',k',h',t',c'⟩:=j
 simp only [] at eo e0 e1 e2 e3 e4 e5 e6
 obtain ⟨s,hs⟩:∃ s,s=shapeI o:=⟨_,rfl⟩
 have hs1:1<=s/\s<=16:=by have:shapeI o ≠ 0:=h0;omega
 have q0:(s != 0)=true:=by rw [bne_iff_ne];omega
 have HOwn:Hid (∀ w,Calls Tryz.prog 81 #[inV ⟨o,d,n,m,a,x,k,h,t,c⟩,.int .i64 s] w (RetB (inV ⟨o',d',n',m',a',x',k',h',t',c'⟩) w)):=Lib.hid fun w=>by
  have:=own_any s ⟨o,d,n,m,a,x,k,h,t,c⟩ w hs1.1 hs1.2
  rw [hs] at this ⊢
  rwa [he] at this
 rw [<-hs] at HSh
 clear hs hsh h0 hw he hs1
 go_enter Tryz.func56,Tryz.ntmps56
 go_wp2_with (first | (go_at_call 80;((with_reducible refine (HSh.out _ (HT.out.below HBA.out)).mono ?_);rintro e w' ⟨rfl,rfl⟩)))
 obtain ⟨R,hR⟩:∃ R,R=w.heap.size:=⟨_,rfl⟩
 obtain ⟨wa,hwa⟩:∃ wa,wa=w.alloc (.cells (inC ⟨o,d,n,m,a,x,k,h,t,c⟩) 98):=⟨_,rfl⟩
 have hten:Ten R ⟨o,d,n,m,a,x,k,h,t,c⟩ wa:=by rw [hwa,hR];exact Ten.made _ _ _
 have HTen:=Lib.hid hten
 have hRl:R < wa.heap.size:=by rw [hwa,hR];simp
 rw [<-hwa] at HBA
 rw [<-hR,<-hwa]
 clear hR hwa hten
 have hx0:Below wa.heap.size wa wa:=Below.refl _ _
 obtain ⟨c0,c1,c2,c3,c4,c5,c6,c7,c8,c9⟩:=HTen.out
 first
 | (go_region_with (go_at_call 81;refine (HOwn.out _).mono ?_;rintro e w' ⟨rfl,hb5⟩;have hx5:Below wa.heap.size wa w':=((Below.refl _ wa).drew).trans hb5;obtain ⟨g0,g1,g2,g3,g4,g5,g6,g7,g8,g9⟩:=HTen.out.below hx5 hRl))
 | fail
 all_goals
  go_wp2
  go_ret
  exact retB_bool rfl (after HBA.out hx5)
theorem Is_ne7 (i j:In) (w:World) (hw:Tab4 w) (h0:shapeI i.op ≠ 0) (he:ownI (shapeI i.op) i=j) (eo:(i.op == j.op)=true) (e0:(i.d == j.d)=true) (e1:(i.n == j.n)=true) (e2:(i.m == j.m)=true) (e3:(i.a == j.a)=true) (e4:(i.imm == j.imm)=true) (e5:(i.mask == j.mask)=true) (e6:(i.shift == j.shift)=true) (e7:(i.amount == j.amount)=false):Calls Tryz.prog 56 #[inV i] w (RetB (.bool false) w):=by
 obtain ⟨o,d,n,m,a,x,k,h,t,c⟩:=i
 have hsh:=shapeI_b o
 have HSh:Hid (∀ w,Tab4 w->Calls Tryz.prog 80 #[.int .i64 o] w (Ret (.int .i64 (shapeI o)) w)):=Lib.hid fun w h=>Shape_any o w h
 have HT:=Lib.hid hw
 have HBA:=Lib.hid ((Below.refl w.heap.size w).alloc (Nat.le_refl _) (.cells (inC ⟨o,d,n,m,a,x,k,h,t,c⟩) 98))
 obtain ⟨o',d',n',m',a',x',k',h',t',c'⟩:=j
 simp only [] at eo e0 e1 e2 e3 e4 e5 e6 e7
 obtain ⟨s,hs⟩:∃ s,s=shapeI o:=⟨_,rfl⟩
 have hs1:1<=s/\s<=16:=by have:shapeI o ≠ 0:=h0;omega
 have q0:(s != 0)=true:=by rw [bne_iff_ne];omega
 have HOwn:Hid (∀ w,Calls Tryz.prog 81 #[inV ⟨o,d,n,m,a,x,k,h,t,c⟩,.int .i64 s] w (RetB (inV ⟨o',d',n',m',a',x',k',h',t',c'⟩) w)):=Lib.hid fun w=>by
  have:=own_any s ⟨o,d,n,m,a,x,k,h,t,c⟩ w hs1.1 hs1.2
  rw [hs] at this ⊢
  rwa [he] at this
 rw [<-hs] at HSh
 clear hs hsh h0 hw he hs1
 go_enter Tryz.func56,Tryz.ntmps56
 go_wp2_with (first | (go_at_call 80;((with_reducible refine (HSh.out _ (HT.out.below HBA.out)).mono ?_);rintro e w' ⟨rfl,rfl⟩)))
 obtain ⟨R,hR⟩:∃ R,R=w.heap.size:=⟨_,rfl⟩
 obtain ⟨wa,hwa⟩:∃ wa,wa=w.alloc (.cells (inC ⟨o,d,n,m,a,x,k,h,t,c⟩) 98):=⟨_,rfl⟩
 have hten:Ten R ⟨o,d,n,m,a,x,k,h,t,c⟩ wa:=by rw [hwa,hR];exact Ten.made _ _ _
 have HTen:=Lib.hid hten
 have hRl:R < wa.heap.size:=by rw [hwa,hR];simp
 rw [<-hwa] at HBA
 rw [<-hR,<-hwa]
 clear hR hwa hten
 have hx0:Below wa.heap.size wa wa:=Below.refl _ _
 obtain ⟨c0,c1,c2,c3,c4,c5,c6,c7,c8,c9⟩:=HTen.out
 first
 | (go_region_with (go_at_call 81;refine (HOwn.out _).mono ?_;rintro e w' ⟨rfl,hb5⟩;have hx5:Below wa.heap.size wa w':=((Below.refl _ wa).drew).trans hb5;obtain ⟨g0,g1,g2,g3,g4,g5,g6,g7,g8,g9⟩:=HTen.out.below hx5 hRl))
 | fail
 all_goals
  go_wp2
  go_ret
  exact retB_bool rfl (after HBA.out hx5)
theorem Is_ne8 (i j:In) (w:World) (hw:Tab4 w) (h0:shapeI i.op ≠ 0) (he:ownI (shapeI i.op) i=j) (eo:(i.op == j.op)=true) (e0:(i.d == j.d)=true) (e1:(i.n == j.n)=true) (e2:(i.m == j.m)=true) (e3:(i.a == j.a)=true) (e4:(i.imm == j.imm)=true) (e5:(i.mask == j.mask)=true) (e6:(i.shift == j.shift)=true) (e7:(i.amount == j.amount)=true) (e8:(i.cond == j.cond)=false):Calls Tryz.prog 56 #[inV i] w (RetB (.bool false) w):=by
 obtain ⟨o,d,n,m,a,x,k,h,t,c⟩:=i
 have hsh:=shapeI_b o
 have HSh:Hid (∀ w,Tab4 w->Calls Tryz.prog 80 #[.int .i64 o] w (Ret (.int .i64 (shapeI o)) w)):=Lib.hid fun w h=>Shape_any o w h
 have HT:=Lib.hid hw
 have HBA:=Lib.hid ((Below.refl w.heap.size w).alloc (Nat.le_refl _) (.cells (inC ⟨o,d,n,m,a,x,k,h,t,c⟩) 98))
 obtain ⟨o',d',n',m',a',x',k',h',t',c'⟩:=j
 simp only [] at eo e0 e1 e2 e3 e4 e5 e6 e7 e8
 obtain ⟨s,hs⟩:∃ s,s=shapeI o:=⟨_,rfl⟩
 have hs1:1<=s/\s<=16:=by have:shapeI o ≠ 0:=h0;omega
 have q0:(s != 0)=true:=by rw [bne_iff_ne];omega
 have HOwn:Hid (∀ w,Calls Tryz.prog 81 #[inV ⟨o,d,n,m,a,x,k,h,t,c⟩,.int .i64 s] w (RetB (inV ⟨o',d',n',m',a',x',k',h',t',c'⟩) w)):=Lib.hid fun w=>by
  have:=own_any s ⟨o,d,n,m,a,x,k,h,t,c⟩ w hs1.1 hs1.2
  rw [hs] at this ⊢
  rwa [he] at this
 rw [<-hs] at HSh
 clear hs hsh h0 hw he hs1
 go_enter Tryz.func56,Tryz.ntmps56
 go_wp2_with (first | (go_at_call 80;((with_reducible refine (HSh.out _ (HT.out.below HBA.out)).mono ?_);rintro e w' ⟨rfl,rfl⟩)))
 obtain ⟨R,hR⟩:∃ R,R=w.heap.size:=⟨_,rfl⟩
 obtain ⟨wa,hwa⟩:∃ wa,wa=w.alloc (.cells (inC ⟨o,d,n,m,a,x,k,h,t,c⟩) 98):=⟨_,rfl⟩
 have hten:Ten R ⟨o,d,n,m,a,x,k,h,t,c⟩ wa:=by rw [hwa,hR];exact Ten.made _ _ _
 have HTen:=Lib.hid hten
 have hRl:R < wa.heap.size:=by rw [hwa,hR];simp
 rw [<-hwa] at HBA
 rw [<-hR,<-hwa]
 clear hR hwa hten
 have hx0:Below wa.heap.size wa wa:=Below.refl _ _
 obtain ⟨c0,c1,c2,c3,c4,c5,c6,c7,c8,c9⟩:=HTen.out
 first
 | (go_region_with (go_at_call 81;refine (HOwn.out _).mono ?_;rintro e w' ⟨rfl,hb5⟩;have hx5:Below wa.heap.size wa w':=((Below.refl _ wa).drew).trans hb5;obtain ⟨g0,g1,g2,g3,g4,g5,g6,g7,g8,g9⟩:=HTen.out.below hx5 hRl))
 | fail
 all_goals
  go_wp2
  go_ret
  exact retB_bool rfl (after HBA.out hx5)
end Go.Proofs.YtobdldadfipcgaaGreatDoor
namespace Go.Proofs.YtobdldadfipcgaaGreatDoor
open Go.RowKit
theorem In.same {i j:In} (h:sameI i j=true):j=i:=by
 obtain ⟨a0,a1,a2,a3,a4,a5,a6,a7,a8,a9⟩:=i
 obtain ⟨b0,b1,b2,b3,b4,b5,b6,b7,b8,b9⟩:=j
 unfold sameI at h
 simp only [Bool.and_eq_true,beq_iff_eq] at h
 obtain ⟨⟨⟨⟨⟨⟨⟨⟨⟨rfl,rfl⟩,rfl⟩,rfl⟩,rfl⟩,rfl⟩,rfl⟩,rfl⟩,rfl⟩,rfl⟩:=h
 rfl
theorem InstIs_any (i:In) (w:World) (hw:Tab4 w) (hi:InB i):Calls Tryz.prog 56 #[inV i] w (RetB (.bool (isI i)) w):=by
 by_cases h0:shapeI i.op=0
 ·have:isI i=false:=by unfold isI;rw [h0];rfl
  rw [this]
  exact Is_no i w hw h0
 obtain ⟨j,hj⟩:∃ j,ownI (shapeI i.op) i=j:=⟨_,rfl⟩
 have eo:(i.op == j.op)=true:=by rw [<-hj];simp [ownI]
 have hb:(shapeI i.op != 0)=true:=by rw [bne_iff_ne];exact h0
 have hI:isI i=(sameI i j && regsI i && numI (shapeI i.op) i):=by unfold isI;rw [hb,hj,Bool.true_and]
 rw [hI]
 cases e0:(i.d == j.d)
 ·have:sameI i j=false:=by unfold sameI;rw [e0];simp only [Bool.and_false,Bool.false_and]
  rw [this]
  exact Is_ne0 i j w hw h0 hj eo e0
 cases e1:(i.n == j.n)
 ·have:sameI i j=false:=by unfold sameI;rw [e1];simp only [Bool.and_false,Bool.false_and]
  rw [this]
  exact Is_ne1 i j w hw h0 hj eo e0 e1
 cases e2:(i.m == j.m)
 ·have:sameI i j=false:=by unfold sameI;rw [e2];simp only [Bool.and_false,Bool.false_and]
  rw [this]
  exact Is_ne2 i j w hw h0 hj eo e0 e1 e2
 cases e3:(i.a == j.a)
 ·have:sameI i j=false:=by unfold sameI;rw [e3];simp only [Bool.and_false,Bool.false_and]
  rw [this]
  exact Is_ne3 i j w hw h0 hj eo e0 e1 e2 e3
 cases e4:(i.imm == j.imm)
 ·have:sameI i j=false:=by unfold sameI;rw [e4];simp only [Bool.and_false,Bool.false_and]
  rw [this]
  exact Is_ne4 i j w hw h0 hj eo e0 e1 e2 e3 e4
 cases e5:(i.mask == j.mask)
 ·have:sameI i j=false:=by unfold sameI;rw [e5];simp only [Bool.and_false,Bool.false_and]
  rw [this]
  exact Is_ne5 i j w hw h0 hj eo e0 e1 e2 e3 e4 e5
 cases e6:(i.shift == j.shift)
 ·have:sameI i j=false:=by unfold sameI;rw [e6];simp only [Bool.and_false,Bool.false_and]
  rw [this]
  exact Is_ne6 i j w hw h0 hj eo e0 e1 e2 e3 e4 e5 e6
 cases e7:(i.amount == j.amount)
 ·have:sameI i j=false:=by unfold sameI;rw [e7];simp only [Bool.and_false,Bool.false_and]
  rw [this]
  exact Is_ne7 i j w hw h0 hj eo e0 e1 e2 e3 e4 e5 e6 e7
 cases e8:(i.cond == j.cond)
 ·have:sameI i j=false:=by unfold sameI;rw [e8];simp only [Bool.and_false,Bool.false_and]
  rw [this]
  exact Is_ne8 i j w hw h0 hj eo e0 e1 e2 e3 e4 e5 e6 e7 e8
 have hs:sameI i j=true:=by unfold sameI;rw [eo,e0,e1,e2,e3,e4,e5,e6,e7,e8];rfl
 obtain rfl:=In.same hs
 rw [hs,Bool.true_and]
 exact Is_yes _ w hw h0 hi hj
end Go.Proofs.YtobdldadfipcgaaGreatDoor
