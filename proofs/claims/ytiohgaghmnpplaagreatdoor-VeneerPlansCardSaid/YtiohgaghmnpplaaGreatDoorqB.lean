/- inst.own, shape by shape. inst.Shape, registers, numbers. inst.Shape, inst.Is. inst.Is, where a field that the shape does not have is not 0. inst.Is, whole; hasD, stackD, Writes. -/
import Derived.Test.YtiohgaghmnpplaaGreatDoorqA
import Derived.RegionTactic
import Derived.ChangeAlike
import Derived.Deep.QuietTactic
import Derived.BigQuiet
import Derived.Outline
import Derived.Deep.RegionWith
set_option maxRecDepth 100000
set_option maxHeartbeats 4000000
set_option linter.unusedVariables false
set_option linter.unusedSimpArgs false
namespace Go.Proofs.YtiohgaghmnpplaaGreatDoor
open Go.RowKit
structure In where
 op:Int
 d:Int
 n:Int
 m:Int
 a:Int
 imm:Int
 mask:Int
 shift:Int
 amount:Int
 cond:Int
abbrev lW (i:In):Array Value:=#[.int .i64 i.op,.int .i64 i.d,.int .i64 i.n,.int .i64 i.m,.int .i64 i.a,.int .i64 i.imm,.int .u64 i.mask,.int .i64 i.shift,.int .i64 i.amount,.int .i64 i.cond]
abbrev dY (i:In):Value:=.agg (lW i)
def cG (s:Int):Bool:=(decide (1<=s) && decide (s<=10)) || s == 16
def cE (s:Int):Bool:=(decide (2<=s) && decide (s<=8)) || s == 13 || s == 16
def cF (s:Int):Bool:=(decide (4<=s) && decide (s<=6)) || s == 16
def eS (b:Bool)(x:Int):Int:=if b then x else 0
def cY (s:Int)(i:In):In:=
 { op:=i.op,d:=eS (cG s) i.d,n:=eS (cE s) i.n,m:=eS (cF s) i.m,a:=eS (s==6) i.a,imm:=eS (s==1||s==2||s==7||s==8||s==9||s==10||s==11||s==14||s==12) i.imm,mask:=eS (s==3) i.mask,shift:=eS (s==4||s==5) i.shift,amount:=eS (s==1||s==2||s==4||s==5) i.amount,cond:=eS (s==12||s==16) i.cond }
theorem jC (s:Int)(i:In)(w:World)(h1:1<=s)(h2:s<=16):Calls Tryz.prog 91 #[dY i,.int .i64 s] w (aP (dY (cY s i)) w):=by
 obtain⟨o,d,n,m,a,x,k,h,t,c⟩:=i;have hc:s=1\/s=2\/s=3\/s=4\/s=5\/s=6\/s=7\/s=8\/s=9\/s=10\/s=11\/s=12\/s=13\/s=14\/s=15\/s=16:=by omega
 clear h1 h2;rcases hc with rfl|rfl|rfl|rfl|rfl|rfl|rfl|rfl|rfl|rfl|rfl|rfl|rfl|rfl|rfl|rfl
 all_goals
  go_enter Tryz.func91,Tryz.ntmps91;go_wp2;try (go_region;all_goals go_wp2)
  all_goals
   refine bodyPost_ret (v:=dY (cY _ ⟨o,d,n,m,a,x,k,h,t,c⟩)) (by simp [results,Tryz.results91,go_sem,cY,eS,cG,cE,cF]) rfl ⟨rfl,?_⟩;first
   |exact(((Below.refl w.heap.size w).alloc (Nat.le_refl _) _).alloc (by simp) _).alloc (by simp;omega) _
   |exact((((Below.refl w.heap.size w).alloc (Nat.le_refl _) _).alloc (by simp) _).alloc (by simp;omega) _).drew
def aU (n l m s:Int):Bool:=decide (l<=n) && decide (n<=m) && (n.tmod s == 0)
theorem mC (n l m s:Int)(w:World)(hs:0<s)(hn : -9223372036854775808<=n/\n<=9223372036854775807):Calls Tryz.prog 118 #[.int .i64 n,.int .i64 l,.int .i64 m,.int .i64 s] w (bQ (.bool (aU n l m s)) w):=by
 have hs0:(s==0)=false:=by rw[beq_eq_false_iff_ne];omega
 unfold aU;by_cases h1:l<=n
 ·rw[decide_eq_true h1];by_cases h2:n<=m
  ·rw[decide_eq_true h2];go_enter Tryz.func118,Tryz.ntmps118;go_wp2;go_ret;exact bO (by simp)
  ·rw[decide_eq_false h2];go_enter Tryz.func118,Tryz.ntmps118;go_wp2;go_ret;exact bO rfl
 ·rw[decide_eq_false h1];go_enter Tryz.func118,Tryz.ntmps118;go_wp2;go_ret;exact bO rfl
def bU (i:In):Bool:=decide (0<=i.d/\i.d<=31/\0<=i.n/\i.n<=31/\0<=i.m/\i.m<=31/\0<=i.a/\i.a<=31)
theorem registers_any (i:In)(w:World):Calls Tryz.prog 92 #[dY i] w (aP (.bool (bU i)) w):=by
 obtain⟨o,d,n,m,a,x,k,h,t,c⟩:=i;have i0:∀w,(Instr.index 164 (.agg #[.int .i64 d,.int .i64 n,.int .i64 m,.int .i64 a]) (.int .i64 0)).run Tryz.prog w=.ok (.int .i64 d) w:=fun _=>by kernel_rfl
 have i1:∀w,(Instr.index 164 (.agg #[.int .i64 d,.int .i64 n,.int .i64 m,.int .i64 a]) (.int .i64 1)).run Tryz.prog w=.ok (.int .i64 n) w:=fun _=>by kernel_rfl
 have i2:∀w,(Instr.index 164 (.agg #[.int .i64 d,.int .i64 n,.int .i64 m,.int .i64 a]) (.int .i64 2)).run Tryz.prog w=.ok (.int .i64 m) w:=fun _=>by kernel_rfl
 have i3:∀w,(Instr.index 164 (.agg #[.int .i64 d,.int .i64 n,.int .i64 m,.int .i64 a]) (.int .i64 3)).run Tryz.prog w=.ok (.int .i64 a) w:=fun _=>by kernel_rfl
 go_enter Tryz.func92,Tryz.ntmps92;go_wp2;refine wp_loop_rounds 5 ?_;rw[rounds_succ];go_wp2;all_goals (try (rw[rounds_succ];go_wp2))
 all_goals (try (rw[rounds_succ];go_wp2))
 all_goals (try (rw[rounds_succ];go_wp2))
 all_goals (try (rw[rounds_succ];go_wp2))
 all_goals
  go_ret;refine aB ?_ ((Below.refl _ _).alloc (Nat.le_refl _) _);symm;unfold bU;first
  |(apply decide_eq_true;simp only[];omega)
  |(apply decide_eq_false;simp only[];omega)
def dD (s:Int)(i:In):Bool:=
 if s=1 then aU i.imm 0 65535 1&&aU i.amount 0 48 16
 else if s=2 then aU i.imm 0 4095 1&&aU i.amount 0 12 12
 else if s=3 then isS i.mask.toNat
 else if s=4 then aU i.shift 0 2 1&&aU i.amount 0 63 1
 else if s=5 then aU i.shift 0 3 1&&aU i.amount 0 63 1
 else if s=7 then aU i.imm 0 32760 8
 else if s=8 then aU i.imm 0 4095 1
 else if s=9 then aU i.imm (-1048576) 1048572 4
 else if s=10 then aU i.imm (-1048576) 1048575 1
 else if s=11 then aU i.imm (-134217728) 134217724 4
 else if s=12 then aU i.imm (-1048576) 1048572 4&&aU i.cond 0 13 1
 else if s=14 then aU i.imm 0 65535 1
 else if s=16 then aU i.cond 0 13 1
 else true
def i64B (x:Int):Prop := -9223372036854775808<=x/\x<=9223372036854775807
structure InB (i:In):Prop where
 op:i64B i.op
 d:i64B i.d
 n:i64B i.n
 m:i64B i.m
 a:i64B i.a
 imm:i64B i.imm
 mask:0<=i.mask/\i.mask<18446744073709551616
 shift:i64B i.shift
 amount:i64B i.amount
 cond:i64B i.cond
theorem numbers_any (s:Int)(i:In)(w:World)(h1:1<=s)(h2:s<=16)(hi:InB i)(hT:Tab w):Calls Tryz.prog 93 #[dY i,.int .i64 s] w (aP (.bool (dD s i)) w):=by
 obtain⟨o,d,n,m,a,x,k,h,t,c⟩:=i;have W1:Hid (∀l m s w,0<s->Calls Tryz.prog 118 #[.int .i64 x,.int .i64 l,.int .i64 m,.int .i64 s] w (bQ (.bool (aU x l m s)) w)):=aH fun l m s w hs=>mC x l m s w hs hi.imm
 have W2:Hid (∀l m s w,0<s->Calls Tryz.prog 118 #[.int .i64 t,.int .i64 l,.int .i64 m,.int .i64 s] w (bQ (.bool (aU t l m s)) w)):=aH fun l m s w hs=>mC t l m s w hs hi.amount
 have W3:Hid (∀l m s w,0<s->Calls Tryz.prog 118 #[.int .i64 h,.int .i64 l,.int .i64 m,.int .i64 s] w (bQ (.bool (aU h l m s)) w)):=aH fun l m s w hs=>mC h l m s w hs hi.shift
 have W4:Hid (∀l m s w,0<s->Calls Tryz.prog 118 #[.int .i64 c,.int .i64 l,.int .i64 m,.int .i64 s] w (bQ (.bool (aU c l m s)) w)):=aH fun l m s w hs=>mC c l m s w hs hi.cond
 obtain⟨v,rfl⟩:=Int.eq_ofNat_of_zero_le (show 0<=k from hi.mask.1);have HI:Hid (∀w,Tab w->Calls Tryz.prog 119 #[.int .u64 v] w (aP (.bool (isS v)) w)):=aH fun w hw=>Is_any v w (by have:=hi.mask.2;simp only[]at this;omega) hw
 have HT:=aH hT;have hc:s=1\/s=2\/s=3\/s=4\/s=5\/s=6\/s=7\/s=8\/s=9\/s=10\/s=11\/s=12\/s=13\/s=14\/s=15\/s=16:=by omega
 have HB:=aH ((Below.refl w.heap.size w).alloc (Nat.le_refl _) (.cells (lW ⟨o,d,n,m,a,x,v,h,t,c⟩) 74));clear h1 h2 hi hT;rcases hc with rfl|rfl|rfl|rfl|rfl|rfl|rfl|rfl|rfl|rfl|rfl|rfl|rfl|rfl|rfl|rfl
 all_goals
  go_enter Tryz.func93,Tryz.ntmps93;go_wp2_with (first|(go_at_call 118;((with_reducible refine(W1.out _ _ _ _ (by decide)).mono ?_);rintro e w' ⟨rfl,rfl⟩))|(go_at_call 118;((with_reducible refine(W2.out _ _ _ _ (by decide)).mono ?_);rintro e w' ⟨rfl,rfl⟩))|(go_at_call 118;((with_reducible refine(W3.out _ _ _ _ (by decide)).mono ?_);rintro e w' ⟨rfl,rfl⟩))|(go_at_call 118;((with_reducible refine(W4.out _ _ _ _ (by decide)).mono ?_);rintro e w' ⟨rfl,rfl⟩))|(go_at_call 119;((with_reducible refine(HI.out _ (HT.out.below HB.out HT.out.2)).mono ?_);rintro e w' ⟨rfl,hb⟩;replace HB:=aH (after HB.out hb);clear hb)))
  all_goals
   go_ret;refine aB ?_ HB.out;first
   |rfl
   |(simp[dD];done)
   |(simp[dD, *];done)
def shL:List Int:=[0,1,1,1,2,2,2,2,3,3,3,3,4,4,4,4,5,5,5,5,6,6,7,7,8,8,9,10,10,11,11,12,9,9,13,13,13,14,15,16]
def aF (op:Int):Int:=if op<1\/39<op then 0 else shL.getD op.toNat 0
abbrev Shapes (w:World):Prop:=∀j,j<40->w.cell? ⟨1,j,none⟩=some (.int .i64 (shL.getD j 0))
abbrev iR (w:World):Prop:=Tab w/\Shapes w/\1<w.heap.size
theorem iR.below {w w':World}(h:iR w)(hb:Below w.heap.size w w'):iR w':=
 ⟨h.1.below hb h.1.2,fun j hj=>by rw[hb.cell (p:=⟨1,j,none⟩) h.2.2];exact h.2.1 j hj,Nat.lt_of_lt_of_le h.2.2 hb.size⟩
theorem shL_b:∀j,j<40->0<=shL.getD j 0/\shL.getD j 0<=16:=by decide+kernel
theorem dH (op:Int):0<=aF op/\aF op<=16:=by
 unfold aF;split
 ·omega
 ·exact shL_b _ (by omega)
theorem cU (op:Int)(w:World)(hw:iR w):Calls Tryz.prog 90 #[.int .i64 op] w (bQ (.int .i64 (aF op)) w):=by
 by_cases c:op<1\/39<op
 ·have H:Hid (aF op=0):=aH (by unfold aF;rw[if_pos c]);clear hw;rcases c with c|c
  ·go_enter Tryz.func90,Tryz.ntmps90;go_wp2;go_ret;exact bK H.out.symm
  ·have c2:1<=op:=by omega
   go_enter Tryz.func90,Tryz.ntmps90;go_wp2;go_ret;exact bK H.out.symm
 ·obtain⟨k,rfl⟩:=Int.eq_ofNat_of_zero_le (show 0<=op by omega);have H:Hid (aF (k:Int)=shL.getD k 0):=aH (by unfold aF;rw[if_neg c];rfl);have hcell:=hw.2.1 k (by omega);have k1:1<=k:=by omega
  have k2:k<=39:=by omega
  clear hw c;generalize shL.getD k 0=v at*
  go_enter Tryz.func90,Tryz.ntmps90;go_wp2;go_ret;exact bK H.out.symm
def bS (i j:In):Bool:=(i.op==j.op)&&(i.d==j.d)&&(i.n==j.n)&&(i.m==j.m)&&(i.a==j.a)&&(i.imm==j.imm)&&(i.mask==j.mask)&&(i.shift==j.shift)&&(i.amount==j.amount)&&(i.cond==j.cond)
def fM (i:In):Bool:=(aF i.op !=0)&&bS i (cY (aF i.op) i)&&bU i&&dD (aF i.op) i
def Ten (R:Nat)(i:In)(w:World):Prop:=w.cell? ⟨R,0,none⟩=some (.int .i64 i.op)/\w.cell? ⟨R,1,none⟩=some (.int .i64 i.d)/\w.cell? ⟨R,2,none⟩=some (.int .i64 i.n)/\w.cell? ⟨R,3,none⟩=some (.int .i64 i.m)/\w.cell? ⟨R,4,none⟩=some (.int .i64 i.a)/\w.cell? ⟨R,5,none⟩=some (.int .i64 i.imm)/\w.cell? ⟨R,6,none⟩=some (.int .u64 i.mask)/\w.cell? ⟨R,7,none⟩=some (.int .i64 i.shift)/\w.cell? ⟨R,8,none⟩=some (.int .i64 i.amount)/\w.cell? ⟨R,9,none⟩=some (.int .i64 i.cond)
theorem Ten.below {R C:Nat}{i:In}{w w':World}(h:Ten R i w)(hb:Below C w w')(hR:R<C):Ten R i w':=
 ⟨(hb.cell (p:=⟨R,0,none⟩) hR).trans h.1,(hb.cell (p:=⟨R,1,none⟩) hR).trans h.2.1,(hb.cell (p:=⟨R,2,none⟩) hR).trans h.2.2.1,(hb.cell (p:=⟨R,3,none⟩) hR).trans h.2.2.2.1,(hb.cell (p:=⟨R,4,none⟩) hR).trans h.2.2.2.2.1,(hb.cell (p:=⟨R,5,none⟩) hR).trans h.2.2.2.2.2.1,(hb.cell (p:=⟨R,6,none⟩) hR).trans h.2.2.2.2.2.2.1,(hb.cell (p:=⟨R,7,none⟩) hR).trans h.2.2.2.2.2.2.2.1,(hb.cell (p:=⟨R,8,none⟩) hR).trans h.2.2.2.2.2.2.2.2.1,(hb.cell (p:=⟨R,9,none⟩) hR).trans h.2.2.2.2.2.2.2.2.2⟩
theorem Ten.made (w:World)(i:In)(T:TypeId):Ten w.heap.size i (w.alloc (.cells (lW i) T)):=by
 have e:=(MapKept.heap_alloc w (.cells (lW i) T)).1;refine⟨?_,?_,?_,?_,?_,?_,?_,?_,?_,?_⟩<;>(unfold World.cell?;rw[e];rfl)
theorem Is_no (i:In)(w:World)(hw:iR w)(h0:aF i.op=0):Calls Tryz.prog 65 #[dY i] w (aP (.bool false) w):=by
 obtain⟨o,d,n,m,a,x,k,h,t,c⟩:=i;have hsh:=dH o;have HSh:Hid (∀w,iR w->Calls Tryz.prog 90 #[.int .i64 o] w (bQ (.int .i64 (aF o)) w)):=aH fun w h=>cU o w h
 have HT:=aH hw;have HBA:=aH ((Below.refl w.heap.size w).alloc (Nat.le_refl _) (.cells (lW ⟨o,d,n,m,a,x,k,h,t,c⟩) 74));obtain⟨s,hs⟩:=aE (aF o);rw[<-hs]at HSh;obtain rfl:s=0:=hs.trans h0;clear hs hsh h0 hw;go_enter Tryz.func65,Tryz.ntmps65;go_wp2_with (first|(go_at_call 90;((with_reducible refine(HSh.out _ (HT.out.below HBA.out)).mono ?_);rintro e w' ⟨rfl,rfl⟩)))
 go_quiet (fail);go_wp2;go_ret;exact aB rfl (below_drewN HBA.out _)
theorem Is_yes (i:In)(w:World)(hw:iR w)(h0:aF i.op≠0)(hi:InB i)(he:cY (aF i.op) i=i):Calls Tryz.prog 65 #[dY i] w (aP (.bool (bU i&&dD (aF i.op) i)) w):=by
 obtain⟨o,d,n,m,a,x,k,h,t,c⟩:=i;have hsh:=dH o;have HSh:Hid (∀w,iR w->Calls Tryz.prog 90 #[.int .i64 o] w (bQ (.int .i64 (aF o)) w)):=aH fun w h=>cU o w h
 have HT:=aH hw;have HBA:=aH ((Below.refl w.heap.size w).alloc (Nat.le_refl _) (.cells (lW ⟨o,d,n,m,a,x,k,h,t,c⟩) 74));obtain⟨s,hs⟩:=aE (aF o);have hs1:1<=s/\s<=16:=by have:aF o≠0:=h0;omega
 have q0:(s !=0)=true:=by rw[bne_iff_ne];omega
 have HOwn:Hid (∀w,Calls Tryz.prog 91 #[dY ⟨o,d,n,m,a,x,k,h,t,c⟩,.int .i64 s] w (aP (dY ⟨o,d,n,m,a,x,k,h,t,c⟩) w)):=aH fun w=>by
  have:=jC s ⟨o,d,n,m,a,x,k,h,t,c⟩ w hs1.1 hs1.2;rw[hs]at this⊢;rwa[he]at this
 have HReg:Hid (∀w,Calls Tryz.prog 92 #[dY ⟨o,d,n,m,a,x,k,h,t,c⟩] w (aP (.bool (bU ⟨o,d,n,m,a,x,k,h,t,c⟩)) w)):=aH fun w=>registers_any _ w
 have HNum:Hid (∀w,Tab w->Calls Tryz.prog 93 #[dY ⟨o,d,n,m,a,x,k,h,t,c⟩,.int .i64 s] w (aP (.bool (dD s ⟨o,d,n,m,a,x,k,h,t,c⟩)) w)):=aH fun w hT=>numbers_any s _ w hs1.1 hs1.2 hi hT
 show Calls Tryz.prog 65 #[dY ⟨o,d,n,m,a,x,k,h,t,c⟩] w (aP (.bool (bU ⟨o,d,n,m,a,x,k,h,t,c⟩&&dD (aF o) ⟨o,d,n,m,a,x,k,h,t,c⟩)) w)
 rw[<-hs];rw[<-hs]at HSh;generalize dD s ⟨o,d,n,m,a,x,k,h,t,c⟩=bn at*
 clear hs hsh h0 hw hi he hs1;cases hr:bU ⟨o,d,n,m,a,x,k,h,t,c⟩
 all_goals
  rw[hr]at HReg;clear hr;go_enter Tryz.func65,Tryz.ntmps65;go_wp2_with (first|(go_at_call 90;((with_reducible refine(HSh.out _ (HT.out.below HBA.out)).mono ?_);rintro e w' ⟨rfl,rfl⟩)))
  obtain⟨R,hR⟩:=aE w.heap.size;obtain⟨wa,hwa⟩:=aE (w.alloc (.cells (lW ⟨o,d,n,m,a,x,k,h,t,c⟩) 74));have hten:Ten R ⟨o,d,n,m,a,x,k,h,t,c⟩ wa:=by rw[hwa,hR];exact Ten.made _ _ _
  have HTen:=aH hten;have hRl:R<wa.heap.size:=by rw[hwa,hR];simp
  rw[<-hwa]at HBA;rw[<-hR,<-hwa];clear hR hwa hten;have hx0:Below wa.heap.size wa wa:=Below.refl _ _;obtain⟨c0,c1,c2,c3,c4,c5,c6,c7,c8,c9⟩:=HTen.out;first
  |(go_region_with (first
      |(go_at_call 91;refine(HOwn.out _).mono ?_;rintro e w' ⟨rfl,hb5⟩;have hx5:Below wa.heap.size wa w':=((Below.refl _ wa).drew).trans hb5;obtain⟨g0,g1,g2,g3,g4,g5,g6,g7,g8,g9⟩:=HTen.out.below hx5 hRl)
      |(go_at_call 92;refine(HReg.out _).mono ?_;rintro e w' ⟨rfl,hb6⟩;have hx6:Below wa.heap.size wa w':=hx5.trans (hb6.mono hx5.size);obtain⟨k0,k1,k2,k3,k4,k5,k6,k7,k8,k9⟩:=HTen.out.below hx6 hRl)
      |(go_at_call 93;refine(HNum.out _ ((HT.out.1.below HBA.out HT.out.1.2).below hx6 (by have:=HT.out.1.2;have:=HBA.out.size;omega))).mono ?_;rintro e w' ⟨rfl,hb7⟩;have hx7:Below wa.heap.size wa w':=hx6.trans (hb7.mono hx6.size))))
  |fail
  all_goals
   go_wp2;go_ret;first
   | exact aB rfl (after HBA.out hx7)
   | exact aB rfl (after HBA.out hx6)
theorem Is_ne0 (i j:In)(w:World)(hw:iR w)(h0:aF i.op≠0)(he:cY (aF i.op) i=j)(eo:(i.op==j.op)=true)  (e0:(i.d==j.d)=false):Calls Tryz.prog 65 #[dY i] w (aP (.bool false) w):=by
 obtain⟨o,d,n,m,a,x,k,h,t,c⟩:=i;have hsh:=dH o;have HSh:Hid (∀w,iR w->Calls Tryz.prog 90 #[.int .i64 o] w (bQ (.int .i64 (aF o)) w)):=aH fun w h=>cU o w h
 have HT:=aH hw;have HBA:=aH ((Below.refl w.heap.size w).alloc (Nat.le_refl _) (.cells (lW ⟨o,d,n,m,a,x,k,h,t,c⟩) 74));obtain⟨o',d',n',m',a',x',k',h',t',c'⟩:=j;simp only[]at eo e0;obtain⟨s,hs⟩:=aE (aF o);have hs1:1<=s/\s<=16:=by have:aF o≠0:=h0;omega
 have q0:(s !=0)=true:=by rw[bne_iff_ne];omega
 have HOwn:Hid (∀w,Calls Tryz.prog 91 #[dY ⟨o,d,n,m,a,x,k,h,t,c⟩,.int .i64 s] w (aP (dY ⟨o',d',n',m',a',x',k',h',t',c'⟩) w)):=aH fun w=>by
  have:=jC s ⟨o,d,n,m,a,x,k,h,t,c⟩ w hs1.1 hs1.2;rw[hs]at this⊢;rwa[he]at this
 rw[<-hs]at HSh;clear hs hsh h0 hw he hs1;go_enter Tryz.func65,Tryz.ntmps65;go_wp2_with (first|(go_at_call 90;((with_reducible refine(HSh.out _ (HT.out.below HBA.out)).mono ?_);rintro e w' ⟨rfl,rfl⟩)))
 obtain⟨R,hR⟩:=aE w.heap.size;obtain⟨wa,hwa⟩:=aE (w.alloc (.cells (lW ⟨o,d,n,m,a,x,k,h,t,c⟩) 74));have hten:Ten R ⟨o,d,n,m,a,x,k,h,t,c⟩ wa:=by rw[hwa,hR];exact Ten.made _ _ _
 have HTen:=aH hten;have hRl:R<wa.heap.size:=by rw[hwa,hR];simp
 rw[<-hwa]at HBA;rw[<-hR,<-hwa];clear hR hwa hten;have hx0:Below wa.heap.size wa wa:=Below.refl _ _;obtain⟨c0,c1,c2,c3,c4,c5,c6,c7,c8,c9⟩:=HTen.out;first
 |(go_region_with (go_at_call 91;refine(HOwn.out _).mono ?_;rintro e w' ⟨rfl,hb5⟩;have hx5:Below wa.heap.size wa w':=((Below.refl _ wa).drew).trans hb5;obtain⟨g0,g1,g2,g3,g4,g5,g6,g7,g8,g9⟩:=HTen.out.below hx5 hRl))
 |fail
 all_goals
  go_wp2;go_ret;exact aB rfl (after HBA.out hx5)
theorem Is_ne1 (i j:In)(w:World)(hw:iR w)(h0:aF i.op≠0)(he:cY (aF i.op) i=j)(eo:(i.op==j.op)=true)(e0:(i.d==j.d)=true)(e1:(i.n==j.n)=false):Calls Tryz.prog 65 #[dY i] w (aP (.bool false) w):=by
 obtain⟨o,d,n,m,a,x,k,h,t,c⟩:=i;have hsh:=dH o;have HSh:Hid (∀w,iR w->Calls Tryz.prog 90 #[.int .i64 o] w (bQ (.int .i64 (aF o)) w)):=aH fun w h=>cU o w h
 have HT:=aH hw;have HBA:=aH ((Below.refl w.heap.size w).alloc (Nat.le_refl _) (.cells (lW ⟨o,d,n,m,a,x,k,h,t,c⟩) 74));obtain⟨o',d',n',m',a',x',k',h',t',c'⟩:=j;simp only[]at eo e0 e1;obtain⟨s,hs⟩:=aE (aF o);have hs1:1<=s/\s<=16:=by have:aF o≠0:=h0;omega
 have q0:(s !=0)=true:=by rw[bne_iff_ne];omega
 have HOwn:Hid (∀w,Calls Tryz.prog 91 #[dY ⟨o,d,n,m,a,x,k,h,t,c⟩,.int .i64 s] w (aP (dY ⟨o',d',n',m',a',x',k',h',t',c'⟩) w)):=aH fun w=>by
  have:=jC s ⟨o,d,n,m,a,x,k,h,t,c⟩ w hs1.1 hs1.2;rw[hs]at this⊢;rwa[he]at this
 rw[<-hs]at HSh;clear hs hsh h0 hw he hs1;go_enter Tryz.func65,Tryz.ntmps65;go_wp2_with (first|(go_at_call 90;((with_reducible refine(HSh.out _ (HT.out.below HBA.out)).mono ?_);rintro e w' ⟨rfl,rfl⟩)))
 obtain⟨R,hR⟩:=aE w.heap.size;obtain⟨wa,hwa⟩:=aE (w.alloc (.cells (lW ⟨o,d,n,m,a,x,k,h,t,c⟩) 74));have hten:Ten R ⟨o,d,n,m,a,x,k,h,t,c⟩ wa:=by rw[hwa,hR];exact Ten.made _ _ _
 have HTen:=aH hten;have hRl:R<wa.heap.size:=by rw[hwa,hR];simp
 rw[<-hwa]at HBA;rw[<-hR,<-hwa];clear hR hwa hten;have hx0:Below wa.heap.size wa wa:=Below.refl _ _;obtain⟨c0,c1,c2,c3,c4,c5,c6,c7,c8,c9⟩:=HTen.out;first
 |(go_region_with (go_at_call 91;refine(HOwn.out _).mono ?_;rintro e w' ⟨rfl,hb5⟩;have hx5:Below wa.heap.size wa w':=((Below.refl _ wa).drew).trans hb5;obtain⟨g0,g1,g2,g3,g4,g5,g6,g7,g8,g9⟩:=HTen.out.below hx5 hRl))
 |fail
 all_goals
  go_wp2;go_ret;exact aB rfl (after HBA.out hx5)
theorem Is_ne2 (i j:In)(w:World)(hw:iR w)(h0:aF i.op≠0)(he:cY (aF i.op) i=j)(eo:(i.op==j.op)=true)(e0:(i.d==j.d)=true)(e1:(i.n==j.n)=true)(e2:(i.m==j.m)=false):Calls Tryz.prog 65 #[dY i] w (aP (.bool false) w):=by
 obtain⟨o,d,n,m,a,x,k,h,t,c⟩:=i;have hsh:=dH o;have HSh:Hid (∀w,iR w->Calls Tryz.prog 90 #[.int .i64 o] w (bQ (.int .i64 (aF o)) w)):=aH fun w h=>cU o w h
 have HT:=aH hw;have HBA:=aH ((Below.refl w.heap.size w).alloc (Nat.le_refl _) (.cells (lW ⟨o,d,n,m,a,x,k,h,t,c⟩) 74));obtain⟨o',d',n',m',a',x',k',h',t',c'⟩:=j;simp only[]at eo e0 e1 e2;obtain⟨s,hs⟩:=aE (aF o);have hs1:1<=s/\s<=16:=by have:aF o≠0:=h0;omega
 have q0:(s !=0)=true:=by rw[bne_iff_ne];omega
 have HOwn:Hid (∀w,Calls Tryz.prog 91 #[dY ⟨o,d,n,m,a,x,k,h,t,c⟩,.int .i64 s] w (aP (dY ⟨o',d',n',m',a',x',k',h',t',c'⟩) w)):=aH fun w=>by
  have:=jC s ⟨o,d,n,m,a,x,k,h,t,c⟩ w hs1.1 hs1.2;rw[hs]at this⊢;rwa[he]at this
 rw[<-hs]at HSh;clear hs hsh h0 hw he hs1;go_enter Tryz.func65,Tryz.ntmps65;go_wp2_with (first|(go_at_call 90;((with_reducible refine(HSh.out _ (HT.out.below HBA.out)).mono ?_);rintro e w' ⟨rfl,rfl⟩)))
 obtain⟨R,hR⟩:=aE w.heap.size;obtain⟨wa,hwa⟩:=aE (w.alloc (.cells (lW ⟨o,d,n,m,a,x,k,h,t,c⟩) 74));have hten:Ten R ⟨o,d,n,m,a,x,k,h,t,c⟩ wa:=by rw[hwa,hR];exact Ten.made _ _ _
 have HTen:=aH hten;have hRl:R<wa.heap.size:=by rw[hwa,hR];simp
 rw[<-hwa]at HBA;rw[<-hR,<-hwa];clear hR hwa hten;have hx0:Below wa.heap.size wa wa:=Below.refl _ _;obtain⟨c0,c1,c2,c3,c4,c5,c6,c7,c8,c9⟩:=HTen.out;first
 |(go_region_with (go_at_call 91;refine(HOwn.out _).mono ?_;rintro e w' ⟨rfl,hb5⟩;have hx5:Below wa.heap.size wa w':=((Below.refl _ wa).drew).trans hb5;obtain⟨g0,g1,g2,g3,g4,g5,g6,g7,g8,g9⟩:=HTen.out.below hx5 hRl))
 |fail
 all_goals
  go_wp2;go_ret;exact aB rfl (after HBA.out hx5)
theorem Is_ne3 (i j:In)(w:World)(hw:iR w)(h0:aF i.op≠0)(he:cY (aF i.op) i=j)(eo:(i.op==j.op)=true)(e0:(i.d==j.d)=true)(e1:(i.n==j.n)=true)(e2:(i.m==j.m)=true)(e3:(i.a==j.a)=false):Calls Tryz.prog 65 #[dY i] w (aP (.bool false) w):=by
 obtain⟨o,d,n,m,a,x,k,h,t,c⟩:=i;have hsh:=dH o;have HSh:Hid (∀w,iR w->Calls Tryz.prog 90 #[.int .i64 o] w (bQ (.int .i64 (aF o)) w)):=aH fun w h=>cU o w h
 have HT:=aH hw;have HBA:=aH ((Below.refl w.heap.size w).alloc (Nat.le_refl _) (.cells (lW ⟨o,d,n,m,a,x,k,h,t,c⟩) 74));obtain⟨o',d',n',m',a',x',k',h',t',c'⟩:=j;simp only[]at eo e0 e1 e2 e3;obtain⟨s,hs⟩:=aE (aF o);have hs1:1<=s/\s<=16:=by have:aF o≠0:=h0;omega
 have q0:(s !=0)=true:=by rw[bne_iff_ne];omega
 have HOwn:Hid (∀w,Calls Tryz.prog 91 #[dY ⟨o,d,n,m,a,x,k,h,t,c⟩,.int .i64 s] w (aP (dY ⟨o',d',n',m',a',x',k',h',t',c'⟩) w)):=aH fun w=>by
  have:=jC s ⟨o,d,n,m,a,x,k,h,t,c⟩ w hs1.1 hs1.2;rw[hs]at this⊢;rwa[he]at this
 rw[<-hs]at HSh;clear hs hsh h0 hw he hs1;go_enter Tryz.func65,Tryz.ntmps65;go_wp2_with (first|(go_at_call 90;((with_reducible refine(HSh.out _ (HT.out.below HBA.out)).mono ?_);rintro e w' ⟨rfl,rfl⟩)))
 obtain⟨R,hR⟩:=aE w.heap.size;obtain⟨wa,hwa⟩:=aE (w.alloc (.cells (lW ⟨o,d,n,m,a,x,k,h,t,c⟩) 74));have hten:Ten R ⟨o,d,n,m,a,x,k,h,t,c⟩ wa:=by rw[hwa,hR];exact Ten.made _ _ _
 have HTen:=aH hten;have hRl:R<wa.heap.size:=by rw[hwa,hR];simp
 rw[<-hwa]at HBA;rw[<-hR,<-hwa];clear hR hwa hten;have hx0:Below wa.heap.size wa wa:=Below.refl _ _;obtain⟨c0,c1,c2,c3,c4,c5,c6,c7,c8,c9⟩:=HTen.out;first
 |(go_region_with (go_at_call 91;refine(HOwn.out _).mono ?_;rintro e w' ⟨rfl,hb5⟩;have hx5:Below wa.heap.size wa w':=((Below.refl _ wa).drew).trans hb5;obtain⟨g0,g1,g2,g3,g4,g5,g6,g7,g8,g9⟩:=HTen.out.below hx5 hRl))
 |fail
 all_goals
  go_wp2;go_ret;exact aB rfl (after HBA.out hx5)
theorem Is_ne4 (i j:In)(w:World)(hw:iR w)(h0:aF i.op≠0)(he:cY (aF i.op) i=j)(eo:(i.op==j.op)=true)(e0:(i.d==j.d)=true)(e1:(i.n==j.n)=true)(e2:(i.m==j.m)=true)(e3:(i.a==j.a)=true)(e4:(i.imm==j.imm)=false):Calls Tryz.prog 65 #[dY i] w (aP (.bool false) w):=by
 obtain⟨o,d,n,m,a,x,k,h,t,c⟩:=i;have hsh:=dH o;have HSh:Hid (∀w,iR w->Calls Tryz.prog 90 #[.int .i64 o] w (bQ (.int .i64 (aF o)) w)):=aH fun w h=>cU o w h
 have HT:=aH hw;have HBA:=aH ((Below.refl w.heap.size w).alloc (Nat.le_refl _) (.cells (lW ⟨o,d,n,m,a,x,k,h,t,c⟩) 74));obtain⟨o',d',n',m',a',x',k',h',t',c'⟩:=j;simp only[]at eo e0 e1 e2 e3 e4;obtain⟨s,hs⟩:=aE (aF o);have hs1:1<=s/\s<=16:=by have:aF o≠0:=h0;omega
 have q0:(s !=0)=true:=by rw[bne_iff_ne];omega
 have HOwn:Hid (∀w,Calls Tryz.prog 91 #[dY ⟨o,d,n,m,a,x,k,h,t,c⟩,.int .i64 s] w (aP (dY ⟨o',d',n',m',a',x',k',h',t',c'⟩) w)):=aH fun w=>by
  have:=jC s ⟨o,d,n,m,a,x,k,h,t,c⟩ w hs1.1 hs1.2;rw[hs]at this⊢;rwa[he]at this
 rw[<-hs]at HSh;clear hs hsh h0 hw he hs1;go_enter Tryz.func65,Tryz.ntmps65;go_wp2_with (first|(go_at_call 90;((with_reducible refine(HSh.out _ (HT.out.below HBA.out)).mono ?_);rintro e w' ⟨rfl,rfl⟩)))
 obtain⟨R,hR⟩:=aE w.heap.size;obtain⟨wa,hwa⟩:=aE (w.alloc (.cells (lW ⟨o,d,n,m,a,x,k,h,t,c⟩) 74));have hten:Ten R ⟨o,d,n,m,a,x,k,h,t,c⟩ wa:=by rw[hwa,hR];exact Ten.made _ _ _
 have HTen:=aH hten;have hRl:R<wa.heap.size:=by rw[hwa,hR];simp
 rw[<-hwa]at HBA;rw[<-hR,<-hwa];clear hR hwa hten;have hx0:Below wa.heap.size wa wa:=Below.refl _ _;obtain⟨c0,c1,c2,c3,c4,c5,c6,c7,c8,c9⟩:=HTen.out;first
 |(go_region_with (go_at_call 91;refine(HOwn.out _).mono ?_;rintro e w' ⟨rfl,hb5⟩;have hx5:Below wa.heap.size wa w':=((Below.refl _ wa).drew).trans hb5;obtain⟨g0,g1,g2,g3,g4,g5,g6,g7,g8,g9⟩:=HTen.out.below hx5 hRl))
 |fail
 all_goals
  go_wp2;go_ret;exact aB rfl (after HBA.out hx5)
theorem Is_ne5 (i j:In)(w:World)(hw:iR w)(h0:aF i.op≠0)(he:cY (aF i.op) i=j)(eo:(i.op==j.op)=true)(e0:(i.d==j.d)=true)(e1:(i.n==j.n)=true)(e2:(i.m==j.m)=true)(e3:(i.a==j.a)=true)(e4:(i.imm==j.imm)=true)(e5:(i.mask==j.mask)=false):Calls Tryz.prog 65 #[dY i] w (aP (.bool false) w):=by
 obtain⟨o,d,n,m,a,x,k,h,t,c⟩:=i;have hsh:=dH o;have HSh:Hid (∀w,iR w->Calls Tryz.prog 90 #[.int .i64 o] w (bQ (.int .i64 (aF o)) w)):=aH fun w h=>cU o w h
 have HT:=aH hw;have HBA:=aH ((Below.refl w.heap.size w).alloc (Nat.le_refl _) (.cells (lW ⟨o,d,n,m,a,x,k,h,t,c⟩) 74));obtain⟨o',d',n',m',a',x',k',h',t',c'⟩:=j;simp only[]at eo e0 e1 e2 e3 e4 e5;obtain⟨s,hs⟩:=aE (aF o);have hs1:1<=s/\s<=16:=by have:aF o≠0:=h0;omega
 have q0:(s !=0)=true:=by rw[bne_iff_ne];omega
 have HOwn:Hid (∀w,Calls Tryz.prog 91 #[dY ⟨o,d,n,m,a,x,k,h,t,c⟩,.int .i64 s] w (aP (dY ⟨o',d',n',m',a',x',k',h',t',c'⟩) w)):=aH fun w=>by
  have:=jC s ⟨o,d,n,m,a,x,k,h,t,c⟩ w hs1.1 hs1.2;rw[hs]at this⊢;rwa[he]at this
 rw[<-hs]at HSh;clear hs hsh h0 hw he hs1;go_enter Tryz.func65,Tryz.ntmps65;go_wp2_with (first|(go_at_call 90;((with_reducible refine(HSh.out _ (HT.out.below HBA.out)).mono ?_);rintro e w' ⟨rfl,rfl⟩)))
 obtain⟨R,hR⟩:=aE w.heap.size;obtain⟨wa,hwa⟩:=aE (w.alloc (.cells (lW ⟨o,d,n,m,a,x,k,h,t,c⟩) 74));have hten:Ten R ⟨o,d,n,m,a,x,k,h,t,c⟩ wa:=by rw[hwa,hR];exact Ten.made _ _ _
 have HTen:=aH hten;have hRl:R<wa.heap.size:=by rw[hwa,hR];simp
 rw[<-hwa]at HBA;rw[<-hR,<-hwa];clear hR hwa hten;have hx0:Below wa.heap.size wa wa:=Below.refl _ _;obtain⟨c0,c1,c2,c3,c4,c5,c6,c7,c8,c9⟩:=HTen.out;first
 |(go_region_with (go_at_call 91;refine(HOwn.out _).mono ?_;rintro e w' ⟨rfl,hb5⟩;have hx5:Below wa.heap.size wa w':=((Below.refl _ wa).drew).trans hb5;obtain⟨g0,g1,g2,g3,g4,g5,g6,g7,g8,g9⟩:=HTen.out.below hx5 hRl))
 |fail
 all_goals
  go_wp2;go_ret;exact aB rfl (after HBA.out hx5)
theorem Is_ne6 (i j:In)(w:World)(hw:iR w)(h0:aF i.op≠0)(he:cY (aF i.op) i=j)(eo:(i.op==j.op)=true)(e0:(i.d==j.d)=true)(e1:(i.n==j.n)=true)(e2:(i.m==j.m)=true)(e3:(i.a==j.a)=true)(e4:(i.imm==j.imm)=true)(e5:(i.mask==j.mask)=true)(e6:(i.shift==j.shift)=false):Calls Tryz.prog 65 #[dY i] w (aP (.bool false) w):=by
 obtain⟨o,d,n,m,a,x,k,h,t,c⟩:=i;have hsh:=dH o;have HSh:Hid (∀w,iR w->Calls Tryz.prog 90 #[.int .i64 o] w (bQ (.int .i64 (aF o)) w)):=aH fun w h=>cU o w h
 have HT:=aH hw;have HBA:=aH ((Below.refl w.heap.size w).alloc (Nat.le_refl _) (.cells (lW ⟨o,d,n,m,a,x,k,h,t,c⟩) 74));obtain⟨o',d',n',m',a',x',k',h',t',c'⟩:=j;simp only[]at eo e0 e1 e2 e3 e4 e5 e6;obtain⟨s,hs⟩:=aE (aF o);have hs1:1<=s/\s<=16:=by have:aF o≠0:=h0;omega
 have q0:(s !=0)=true:=by rw[bne_iff_ne];omega
 have HOwn:Hid (∀w,Calls Tryz.prog 91 #[dY ⟨o,d,n,m,a,x,k,h,t,c⟩,.int .i64 s] w (aP (dY ⟨o',d',n',m',a',x',k',h',t',c'⟩) w)):=aH fun w=>by
  have:=jC s ⟨o,d,n,m,a,x,k,h,t,c⟩ w hs1.1 hs1.2;rw[hs]at this⊢;rwa[he]at this
 rw[<-hs]at HSh;clear hs hsh h0 hw he hs1;go_enter Tryz.func65,Tryz.ntmps65;go_wp2_with (first|(go_at_call 90;((with_reducible refine(HSh.out _ (HT.out.below HBA.out)).mono ?_);rintro e w' ⟨rfl,rfl⟩)))
 obtain⟨R,hR⟩:=aE w.heap.size;obtain⟨wa,hwa⟩:=aE (w.alloc (.cells (lW ⟨o,d,n,m,a,x,k,h,t,c⟩) 74));have hten:Ten R ⟨o,d,n,m,a,x,k,h,t,c⟩ wa:=by rw[hwa,hR];exact Ten.made _ _ _
 have HTen:=aH hten;have hRl:R<wa.heap.size:=by rw[hwa,hR];simp
 rw[<-hwa]at HBA;rw[<-hR,<-hwa];clear hR hwa hten;have hx0:Below wa.heap.size wa wa:=Below.refl _ _;obtain⟨c0,c1,c2,c3,c4,c5,c6,c7,c8,c9⟩:=HTen.out;first
 |(go_region_with (go_at_call 91;refine(HOwn.out _).mono ?_;rintro e w' ⟨rfl,hb5⟩;have hx5:Below wa.heap.size wa w':=((Below.refl _ wa).drew).trans hb5;obtain⟨g0,g1,g2,g3,g4,g5,g6,g7,g8,g9⟩:=HTen.out.below hx5 hRl))
 |fail
 all_goals
  go_wp2;go_ret;exact aB rfl (after HBA.out hx5)
theorem Is_ne7 (i j:In)(w:World)(hw:iR w)(h0:aF i.op≠0)(he:cY (aF i.op) i=j)(eo:(i.op==j.op)=true)(e0:(i.d==j.d)=true)(e1:(i.n==j.n)=true)(e2:(i.m==j.m)=true)(e3:(i.a==j.a)=true)(e4:(i.imm==j.imm)=true)(e5:(i.mask==j.mask)=true)(e6:(i.shift==j.shift)=true)(e7:(i.amount==j.amount)=false):Calls Tryz.prog 65 #[dY i] w (aP (.bool false) w):=by
 obtain⟨o,d,n,m,a,x,k,h,t,c⟩:=i;have hsh:=dH o;have HSh:Hid (∀w,iR w->Calls Tryz.prog 90 #[.int .i64 o] w (bQ (.int .i64 (aF o)) w)):=aH fun w h=>cU o w h
 have HT:=aH hw;have HBA:=aH ((Below.refl w.heap.size w).alloc (Nat.le_refl _) (.cells (lW ⟨o,d,n,m,a,x,k,h,t,c⟩) 74));obtain⟨o',d',n',m',a',x',k',h',t',c'⟩:=j;simp only[]at eo e0 e1 e2 e3 e4 e5 e6 e7;obtain⟨s,hs⟩:=aE (aF o);have hs1:1<=s/\s<=16:=by have:aF o≠0:=h0;omega
 have q0:(s !=0)=true:=by rw[bne_iff_ne];omega
 have HOwn:Hid (∀w,Calls Tryz.prog 91 #[dY ⟨o,d,n,m,a,x,k,h,t,c⟩,.int .i64 s] w (aP (dY ⟨o',d',n',m',a',x',k',h',t',c'⟩) w)):=aH fun w=>by
  have:=jC s ⟨o,d,n,m,a,x,k,h,t,c⟩ w hs1.1 hs1.2;rw[hs]at this⊢;rwa[he]at this
 rw[<-hs]at HSh;clear hs hsh h0 hw he hs1;go_enter Tryz.func65,Tryz.ntmps65;go_wp2_with (first|(go_at_call 90;((with_reducible refine(HSh.out _ (HT.out.below HBA.out)).mono ?_);rintro e w' ⟨rfl,rfl⟩)))
 obtain⟨R,hR⟩:=aE w.heap.size;obtain⟨wa,hwa⟩:=aE (w.alloc (.cells (lW ⟨o,d,n,m,a,x,k,h,t,c⟩) 74));have hten:Ten R ⟨o,d,n,m,a,x,k,h,t,c⟩ wa:=by rw[hwa,hR];exact Ten.made _ _ _
 have HTen:=aH hten;have hRl:R<wa.heap.size:=by rw[hwa,hR];simp
 rw[<-hwa]at HBA;rw[<-hR,<-hwa];clear hR hwa hten;have hx0:Below wa.heap.size wa wa:=Below.refl _ _;obtain⟨c0,c1,c2,c3,c4,c5,c6,c7,c8,c9⟩:=HTen.out;first
 |(go_region_with (go_at_call 91;refine(HOwn.out _).mono ?_;rintro e w' ⟨rfl,hb5⟩;have hx5:Below wa.heap.size wa w':=((Below.refl _ wa).drew).trans hb5;obtain⟨g0,g1,g2,g3,g4,g5,g6,g7,g8,g9⟩:=HTen.out.below hx5 hRl))
 |fail
 all_goals
  go_wp2;go_ret;exact aB rfl (after HBA.out hx5)
theorem Is_ne8 (i j:In)(w:World)(hw:iR w)(h0:aF i.op≠0)(he:cY (aF i.op) i=j)(eo:(i.op==j.op)=true)(e0:(i.d==j.d)=true)(e1:(i.n==j.n)=true)(e2:(i.m==j.m)=true)(e3:(i.a==j.a)=true)(e4:(i.imm==j.imm)=true)(e5:(i.mask==j.mask)=true)(e6:(i.shift==j.shift)=true)(e7:(i.amount==j.amount)=true)(e8:(i.cond==j.cond)=false):Calls Tryz.prog 65 #[dY i] w (aP (.bool false) w):=by
 obtain⟨o,d,n,m,a,x,k,h,t,c⟩:=i;have hsh:=dH o;have HSh:Hid (∀w,iR w->Calls Tryz.prog 90 #[.int .i64 o] w (bQ (.int .i64 (aF o)) w)):=aH fun w h=>cU o w h
 have HT:=aH hw;have HBA:=aH ((Below.refl w.heap.size w).alloc (Nat.le_refl _) (.cells (lW ⟨o,d,n,m,a,x,k,h,t,c⟩) 74));obtain⟨o',d',n',m',a',x',k',h',t',c'⟩:=j;simp only[]at eo e0 e1 e2 e3 e4 e5 e6 e7 e8;obtain⟨s,hs⟩:=aE (aF o);have hs1:1<=s/\s<=16:=by have:aF o≠0:=h0;omega
 have q0:(s !=0)=true:=by rw[bne_iff_ne];omega
 have HOwn:Hid (∀w,Calls Tryz.prog 91 #[dY ⟨o,d,n,m,a,x,k,h,t,c⟩,.int .i64 s] w (aP (dY ⟨o',d',n',m',a',x',k',h',t',c'⟩) w)):=aH fun w=>by
  have:=jC s ⟨o,d,n,m,a,x,k,h,t,c⟩ w hs1.1 hs1.2;rw[hs]at this⊢;rwa[he]at this
 rw[<-hs]at HSh;clear hs hsh h0 hw he hs1;go_enter Tryz.func65,Tryz.ntmps65;go_wp2_with (first|(go_at_call 90;((with_reducible refine(HSh.out _ (HT.out.below HBA.out)).mono ?_);rintro e w' ⟨rfl,rfl⟩)))
 obtain⟨R,hR⟩:=aE w.heap.size;obtain⟨wa,hwa⟩:=aE (w.alloc (.cells (lW ⟨o,d,n,m,a,x,k,h,t,c⟩) 74));have hten:Ten R ⟨o,d,n,m,a,x,k,h,t,c⟩ wa:=by rw[hwa,hR];exact Ten.made _ _ _
 have HTen:=aH hten;have hRl:R<wa.heap.size:=by rw[hwa,hR];simp
 rw[<-hwa]at HBA;rw[<-hR,<-hwa];clear hR hwa hten;have hx0:Below wa.heap.size wa wa:=Below.refl _ _;obtain⟨c0,c1,c2,c3,c4,c5,c6,c7,c8,c9⟩:=HTen.out;first
 |(go_region_with (go_at_call 91;refine(HOwn.out _).mono ?_;rintro e w' ⟨rfl,hb5⟩;have hx5:Below wa.heap.size wa w':=((Below.refl _ wa).drew).trans hb5;obtain⟨g0,g1,g2,g3,g4,g5,g6,g7,g8,g9⟩:=HTen.out.below hx5 hRl))
 |fail
 all_goals
  go_wp2;go_ret;exact aB rfl (after HBA.out hx5)
theorem In.same {i j:In}(h:bS i j=true):j=i:=by
 obtain⟨a0,a1,a2,a3,a4,a5,a6,a7,a8,a9⟩:=i;obtain⟨b0,b1,b2,b3,b4,b5,b6,b7,b8,b9⟩:=j;unfold bS at h;simp only[Bool.and_eq_true,beq_iff_eq]at h;obtain⟨⟨⟨⟨⟨⟨⟨⟨⟨rfl,rfl⟩,rfl⟩,rfl⟩,rfl⟩,rfl⟩,rfl⟩,rfl⟩,rfl⟩,rfl⟩:=h;rfl
theorem qU (i:In)(w:World)(hw:iR w)(hi:InB i):Calls Tryz.prog 65 #[dY i] w (aP (.bool (fM i)) w):=by
 by_cases h0:aF i.op=0
 ·have:fM i=false:=by unfold fM;rw[h0];rfl
  rw[this];exact Is_no i w hw h0
 obtain⟨j,hj⟩:∃j,cY (aF i.op) i=j:=⟨_,rfl⟩;have eo:(i.op==j.op)=true:=by rw[<-hj];simp[cY]
 have hb:(aF i.op !=0)=true:=by rw[bne_iff_ne];exact h0
 have hI:fM i=(bS i j&&bU i&&dD (aF i.op) i):=by unfold fM;rw[hb,hj,Bool.true_and]
 rw[hI];cases e0:(i.d==j.d)
 ·have:bS i j=false:=by unfold bS;rw[e0];simp only[Bool.and_false,Bool.false_and]
  rw[this];exact Is_ne0 i j w hw h0 hj eo e0
 cases e1:(i.n==j.n)
 ·have:bS i j=false:=by unfold bS;rw[e1];simp only[Bool.and_false,Bool.false_and]
  rw[this];exact Is_ne1 i j w hw h0 hj eo e0 e1
 cases e2:(i.m==j.m)
 ·have:bS i j=false:=by unfold bS;rw[e2];simp only[Bool.and_false,Bool.false_and]
  rw[this];exact Is_ne2 i j w hw h0 hj eo e0 e1 e2
 cases e3:(i.a==j.a)
 ·have:bS i j=false:=by unfold bS;rw[e3];simp only[Bool.and_false,Bool.false_and]
  rw[this];exact Is_ne3 i j w hw h0 hj eo e0 e1 e2 e3
 cases e4:(i.imm==j.imm)
 ·have:bS i j=false:=by unfold bS;rw[e4];simp only[Bool.and_false,Bool.false_and]
  rw[this];exact Is_ne4 i j w hw h0 hj eo e0 e1 e2 e3 e4
 cases e5:(i.mask==j.mask)
 ·have:bS i j=false:=by unfold bS;rw[e5];simp only[Bool.and_false,Bool.false_and]
  rw[this];exact Is_ne5 i j w hw h0 hj eo e0 e1 e2 e3 e4 e5
 cases e6:(i.shift==j.shift)
 ·have:bS i j=false:=by unfold bS;rw[e6];simp only[Bool.and_false,Bool.false_and]
  rw[this];exact Is_ne6 i j w hw h0 hj eo e0 e1 e2 e3 e4 e5 e6
 cases e7:(i.amount==j.amount)
 ·have:bS i j=false:=by unfold bS;rw[e7];simp only[Bool.and_false,Bool.false_and]
  rw[this];exact Is_ne7 i j w hw h0 hj eo e0 e1 e2 e3 e4 e5 e6 e7
 cases e8:(i.cond==j.cond)
 ·have:bS i j=false:=by unfold bS;rw[e8];simp only[Bool.and_false,Bool.false_and]
  rw[this];exact Is_ne8 i j w hw h0 hj eo e0 e1 e2 e3 e4 e5 e6 e7 e8
 have hs:bS i j=true:=by unfold bS;rw[eo,e0,e1,e2,e3,e4,e5,e6,e7,e8];rfl
 obtain rfl:=In.same hs;rw[hs,Bool.true_and];exact Is_yes _ w hw h0 hi hj
end Go.Proofs.YtiohgaghmnpplaaGreatDoor
