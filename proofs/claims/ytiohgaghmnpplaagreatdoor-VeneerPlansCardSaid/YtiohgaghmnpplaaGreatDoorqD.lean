/- (code.word).mask, (code.word).inst, shape by shape. (code.word).mask; (code.word).inst where a mask is told, or there is no operation. -/
import Derived.Test.YtiohgaghmnpplaaGreatDoorqA
import Derived.Test.YtiohgaghmnpplaaGreatDoorqC
set_option maxRecDepth 100000
set_option maxHeartbeats 40000000
set_option linter.unusedVariables false
set_option linter.unusedSimpArgs false
namespace Go.Proofs.YtiohgaghmnpplaaGreatDoor
open Go.RowKit
theorem sgn19 {v:Int}(h:0<=v/\v<524288) : -262144<=(jB v 19).1/\(jB v 19).1<262144:=by
 unfold jB;simp only[Int.reduceToNat,Nat.reduceSub,Int.reducePow];repeat' split
 all_goals (try simp only[])
 all_goals omega
theorem sgn26 {v:Int}(h:0<=v/\v<67108864) : -33554432<=(jB v 26).1/\(jB v 26).1<33554432:=by
 unfold jB;simp only[Int.reduceToNat,Nat.reduceSub,Int.reducePow];repeat' split
 all_goals (try simp only[])
 all_goals omega
theorem aT {w w':World}(h:Below w.heap.size w w')(o:Obj):Below w.heap.size w (w'.alloc o):=h.alloc h.size o
theorem aZ {w w':World}(h:Below w.heap.size w w'){b o:Nat}{u:Value}(hb:w.heap.size<=b):Below w.heap.size w (w'.setCell ⟨b,o,none⟩ u):=h.setCell (p:=⟨b,o,none⟩) hb u
theorem nmH {x:Nat}(hx:x<4294967296)(a n:Nat)(A M:Int)(h:a+n<=32/\1<=n:=by decide)(hA:(a:Int)=A:=by rfl)(hM:(n:Int)=M:=by rfl):Hid (∀w,Calls Tryz.prog 221 #[.int .u32 x,.int .i64 A,.int .i64 M] w (kP (.int .i64 (fw x a n)) w)):=by
 subst hA;subst hM;exact aH fun w=>fW x a n hx h.1 h.2 w
theorem opH {x:Nat}(hx:x<4294967296):Hid (∀w,fH w->Calls Tryz.prog 220 #[.int .u32 x] w (kP (.int .i64 (iK x:Nat)) w)):=aH fun w h=>Opcode_any x hx w h
theorem zvH:∀w,(zeroValue 74).run Tryz.prog w=.ok (.agg (lW inZ)) w:=fun w=>by kernel_rfl
theorem winstS (x:Nat)(hx:x<4294967296)(w:World)(hw:fH w)(s:Nat)(hs:aF (iK x:Nat)=s)(hc:s=1\/s=2\/s=4\/s=5\/s=6\/s=7\/s=8\/s=9\/s=10\/s=11\/s=12\/s=13\/s=14\/s=15\/s=16):Calls Tryz.prog 200 #[.int .u32 x] w (aP (dY (cH (iK x:Nat) s x)) w):=by
 have HT:=aH hw;have HOp:=opH hx;obtain⟨si,hsi⟩:∃si:Int,si=s:=⟨_,rfl⟩;rw[<-hsi]at hs;have HSh:Hid (∀w,fH w->Calls Tryz.prog 90 #[.int .i64 (iK x:Nat)] w (bQ (.int .i64 si) w)):=aH fun w h=>by have:=cU (iK x:Nat) w h.1;rwa[hs]at this
 have N0:=nmH hx 0 5 0 5;have b0:=bB x 0 5;have N1:=nmH hx 5 5 5 5;have b1:=bB x 5 5;have N2:=nmH hx 16 5 16 5;have b2:=bB x 16 5;have N3:=nmH hx 5 16 5 16;have b3:=bB x 5 16;have N4:=nmH hx 21 2 21 2;have b4:=bB x 21 2;have N5:=nmH hx 10 12 10 12;have b5:=bB x 10 12;have N6:=nmH hx 22 1 22 1;have b6:=bB x 22 1;have N7:=nmH hx 22 2 22 2;have b7:=bB x 22 2;have N8:=nmH hx 10 6 10 6;have b8:=bB x 10 6;have N9:=nmH hx 10 5 10 5;have b9:=bB x 10 5;have N10:=nmH hx 29 2 29 2;have b10:=bB x 29 2;have N11:=nmH hx 0 4 0 4;have b11:=bB x 0 4;have N12:=nmH hx 12 4 12 4;have b12:=bB x 12 4;have HS:Hid (∀w,Calls Tryz.prog 223 #[.int .u32 x,.int .i64 5,.int .i64 19] w (kP (.int .i64 (jB (fw x 5 19) 19).1) w)):=aH fun w=>wsigned_any x 5 19 hx (by decide) (by decide) w
 have hsb:=sgn19 (v:=fw x 5 19) (by have:=bB x 5 19;simpa using this);have HR:Hid (∀w,Calls Tryz.prog 223 #[.int .u32 x,.int .i64 0,.int .i64 26] w (kP (.int .i64 (jB (fw x 0 26) 26).1) w)):=aH fun w=>wsigned_any x 0 26 hx (by decide) (by decide) w
 have hrb:=sgn26 (v:=fw x 0 26) (by have:=bB x 0 26;simpa using this);unfold cH;generalize(jB (fw x 5 19) 19).1=sg at*
 generalize(jB (fw x 0 26) 26).1=sh at*
 generalize fw x 0 5=f0 at*
 generalize fw x 5 5=f1 at*
 generalize fw x 16 5=f2 at*
 generalize fw x 5 16=f3 at*
 generalize fw x 21 2=f4 at*
 generalize fw x 10 12=f5 at*
 generalize fw x 22 1=f6 at*
 generalize fw x 22 2=f7 at*
 generalize fw x 10 6=f8 at*
 generalize fw x 10 5=f9 at*
 generalize fw x 29 2=f10 at*
 generalize fw x 0 4=f11 at*
 generalize fw x 12 4=f12 at*
 simp only[Int.reducePow]at b0 b1 b2 b3 b4 b5 b6 b7 b8 b9 b10 b11 b12;generalize iK x=op at*
 clear hw hs;have hZ:=zvH;rcases hc with rfl|rfl|rfl|rfl|rfl|rfl|rfl|rfl|rfl|rfl|rfl|rfl|rfl|rfl|rfl
 all_goals
  simp at hsi;subst hsi;(try dsimp only);go_enter Tryz.func200,Tryz.ntmps200;go_wp2_with (first|(go_at_call 220;((with_reducible refine(HOp.out _ (HT.out.below ?_)).mono ?_);rotate_left;rintro e w' ⟨rfl,m,rfl⟩))|(go_at_call 90;((with_reducible refine(HSh.out _ (HT.out.below ?_)).mono ?_);rotate_left;rintro e w' ⟨rfl,rfl⟩))|(go_at_call 221;(first|(with_reducible refine(N0.out _).mono ?_)|(with_reducible refine(N1.out _).mono ?_)|(with_reducible refine(N2.out _).mono ?_)|(with_reducible refine(N3.out _).mono ?_)|(with_reducible refine(N4.out _).mono ?_)|(with_reducible refine(N5.out _).mono ?_)|(with_reducible refine(N6.out _).mono ?_)|(with_reducible refine(N7.out _).mono ?_)|(with_reducible refine(N8.out _).mono ?_)|(with_reducible refine(N9.out _).mono ?_)|(with_reducible refine(N10.out _).mono ?_)|(with_reducible refine(N11.out _).mono ?_)|(with_reducible refine(N12.out _).mono ?_));rintro e w' ⟨rfl,m,rfl⟩)|(go_at_call 223;(first|(with_reducible refine(HS.out _).mono ?_)|(with_reducible refine(HR.out _).mono ?_));rintro e w' ⟨rfl,m,rfl⟩))
  refine bodyPost_ret (v:=dY _) (by simp [results,Tryz.results200,go_sem]) rfl ⟨rfl,?_⟩;all_goals
   with_reducible repeat' (first|exact Below.refl _ _|exact Nat.le_refl _|exact Nat.le_succ _|refine below_drewN ?_ _|refine aZ ?_ ?_|refine aT ?_ _)
def Throws (w:World)(e:Ending)(w':World):Prop:=e=.panicked [{ v:=.iface 244 (.agg #[]),recovered:=false }]/\Below w.heap.size w w'
theorem wmask_ok (x:Nat)(hx:x<4294967296)(w:World)(v:Int)(h:decS (fw x 22 1) (fw x 16 6) (fw x 10 6)=(v,0)):Calls Tryz.prog 222 #[.int .u32 x] w (aP (.int .u64 v) w):=by
 have HN22_1:Hid (∀w,Calls Tryz.prog 221 #[.int .u32 x,.int .i64 22,.int .i64 1] w (kP (.int .i64 (fw x 22 1)) w)):=aH fun w=>fW x 22 1 hx (by decide) (by decide) w
 have HN16_6:Hid (∀w,Calls Tryz.prog 221 #[.int .u32 x,.int .i64 16,.int .i64 6] w (kP (.int .i64 (fw x 16 6)) w)):=aH fun w=>fW x 16 6 hx (by decide) (by decide) w
 have HN10_6:Hid (∀w,Calls Tryz.prog 221 #[.int .u32 x,.int .i64 10,.int .i64 6] w (kP (.int .i64 (fw x 10 6)) w)):=aH fun w=>fW x 10 6 hx (by decide) (by decide) w
 have HD:Hid (∀w,Calls Tryz.prog 234 #[.int .i64 (fw x 22 1),.int .i64 (fw x 16 6),.int .i64 (fw x 10 6)] w (aP (.tuple #[.int .u64 v,.int .i64 0]) w)):=aH fun w=>by
  have:=Decode_any (fw x 22 1) (fw x 16 6) (fw x 10 6) w;rwa[h]at this
 clear h;generalize fw x 22 1=fa at*
 generalize fw x 16 6=fb at*
 generalize fw x 10 6=fc at*
 go_enter Tryz.func222,Tryz.ntmps222;go_wp2_with (first
  |(go_at_call 221;((with_reducible refine(HN22_1.out _).mono ?_);rintro e w' ⟨rfl,m,rfl⟩))
  |(go_at_call 221;((with_reducible refine(HN16_6.out _).mono ?_);rintro e w' ⟨rfl,m,rfl⟩))
  |(go_at_call 221;((with_reducible refine(HN10_6.out _).mono ?_);rintro e w' ⟨rfl,m,rfl⟩))
  |(go_at_call 234;((with_reducible refine(HD.out _).mono ?_);rintro e w' ⟨rfl,hb⟩;replace hb:=aH ((eA _ _).trans (hb.mono (Nat.le_refl _))))))
 go_ret;exact⟨rfl,hb.out⟩
theorem wmask_no (x:Nat)(hx:x<4294967296)(w:World)(h:(decS (fw x 22 1) (fw x 16 6) (fw x 10 6)).2≠0):Calls Tryz.prog 222 #[.int .u32 x] w (Throws w):=by
 have HN22_1:Hid (∀w,Calls Tryz.prog 221 #[.int .u32 x,.int .i64 22,.int .i64 1] w (kP (.int .i64 (fw x 22 1)) w)):=aH fun w=>fW x 22 1 hx (by decide) (by decide) w
 have HN16_6:Hid (∀w,Calls Tryz.prog 221 #[.int .u32 x,.int .i64 16,.int .i64 6] w (kP (.int .i64 (fw x 16 6)) w)):=aH fun w=>fW x 16 6 hx (by decide) (by decide) w
 have HN10_6:Hid (∀w,Calls Tryz.prog 221 #[.int .u32 x,.int .i64 10,.int .i64 6] w (kP (.int .i64 (fw x 10 6)) w)):=aH fun w=>fW x 10 6 hx (by decide) (by decide) w
 obtain⟨v,er,he⟩:∃v er,decS (fw x 22 1) (fw x 16 6) (fw x 10 6)=(v,er):=⟨_,_,rfl⟩;rw[he]at h;have q:(er !=0)=true:=by rw[bne_iff_ne];exact h
 have HD:Hid (∀w,Calls Tryz.prog 234 #[.int .i64 (fw x 22 1),.int .i64 (fw x 16 6),.int .i64 (fw x 10 6)] w (aP (.tuple #[.int .u64 v,.int .i64 er]) w)):=aH fun w=>by
  have:=Decode_any (fw x 22 1) (fw x 16 6) (fw x 10 6) w;rwa[he]at this
 clear h he;generalize fw x 22 1=fa at*
 generalize fw x 16 6=fb at*
 generalize fw x 10 6=fc at*
 go_enter Tryz.func222,Tryz.ntmps222;go_wp2_with (first
  |(go_at_call 221;((with_reducible refine(HN22_1.out _).mono ?_);rintro e w' ⟨rfl,m,rfl⟩))
  |(go_at_call 221;((with_reducible refine(HN16_6.out _).mono ?_);rintro e w' ⟨rfl,m,rfl⟩))
  |(go_at_call 221;((with_reducible refine(HN10_6.out _).mono ?_);rintro e w' ⟨rfl,m,rfl⟩))
  |(go_at_call 234;((with_reducible refine(HD.out _).mono ?_);rintro e w' ⟨rfl,hb⟩;replace hb:=aH ((eA _ _).trans (hb.mono (Nat.le_refl _))))))
 exact⟨rfl,rfl,hb.out⟩
theorem dC {w:World}{B T j:Nat}{cs:Array Value}(h:w.heap[B]?=some (.cells cs T (0,0))):w.frozen? ⟨B,j,none⟩=false:=by simp[World.frozen?,h]
theorem bY {w:World}{B T j:Nat}{cs:Array Value}(h:w.heap[B]?=some (.cells cs T (0,0))):w.cell? ⟨B,j,none⟩=cs[j]?:=by rw[World.cell?,h];rfl
theorem pZ {w w':World}{a b:Nat}{Z I:Array Value}{T U:TypeId}(hb:Below ((((w.alloc (.cells Z T)).drewN a).alloc (.cells I U)).drewN b).heap.size ((((w.alloc (.cells Z T)).drewN a).alloc (.cells I U)).drewN b) w'):
  w'.heap[w.heap.size]?=some (.cells Z T (0,0))/\w'.heap[w.heap.size+1]?=some (.cells I U (0,0))/\Below w.heap.size w w':=by
 have hA:Below w.heap.size w ((((w.alloc (.cells Z T)).drewN a).alloc (.cells I U)).drewN b):=below_drewN (aT (below_drewN (aT (Below.refl _ _) _) _) _) _;have s1:((w.alloc (.cells Z T)).drewN a).heap.size=w.heap.size+1:=World.size_alloc _ _;have s2:((((w.alloc (.cells Z T)).drewN a).alloc (.cells I U)).drewN b).heap.size=w.heap.size+1+1:=by
  show(((w.alloc (.cells Z T)).drewN a).alloc (.cells I U)).heap.size=_
  rw[World.size_alloc,s1]
 have h0:((w.alloc (.cells Z T)).drewN a).heap[w.heap.size]?=some (.cells Z T (0,0)):=(MapKept.heap_alloc w (.cells Z T)).1;have h1:((((w.alloc (.cells Z T)).drewN a).alloc (.cells I U)).drewN b).heap[w.heap.size+1]?=some (.cells I U (0,0)):=by
  have:=(MapKept.heap_alloc ((w.alloc (.cells Z T)).drewN a) (.cells I U)).1;rw[s1]at this;exact this
 have h2:((((w.alloc (.cells Z T)).drewN a).alloc (.cells I U)).drewN b).heap[w.heap.size]?=some (.cells Z T (0,0)):=by
  have hq:Below ((w.alloc (.cells Z T)).drewN a).heap.size ((w.alloc (.cells Z T)).drewN a) ((((w.alloc (.cells Z T)).drewN a).alloc (.cells I U)).drewN b):=below_drewN (aT (Below.refl _ _) _) _;exact(hq.block w.heap.size (by rw[s1];omega)).trans h0
 refine⟨(hb.block _ (by rw[s2];omega)).trans h2,(hb.block _ (by rw[s2];omega)).trans h1,?_⟩;exact hA.trans (hb.mono (by rw[s2];omega))
theorem winst0 (x:Nat)(hx:x<4294967296)(w:World)(hw:fH w)(hs:aF (iK x:Nat)=0):Calls Tryz.prog 200 #[.int .u32 x] w (Throws w):=by
 have HT:=aH hw;have HOp:=opH hx;have HSh:Hid (∀w,fH w->Calls Tryz.prog 90 #[.int .i64 (iK x:Nat)] w (bQ (.int .i64 0) w)):=aH fun w h=>by have:=cU (iK x:Nat) w h.1;rwa[hs]at this
 have HN0_5:=nmH hx 0 5 0 5;have HN5_5:=nmH hx 5 5 5 5;have HN16_5:=nmH hx 16 5 16 5;generalize fw x 0 5=f0_5 at*
 generalize fw x 5 5=f5_5 at*
 generalize fw x 16 5=f16_5 at*
 generalize iK x=op at*
 clear hw hs;have hZ:=zvH;go_enter Tryz.func200,Tryz.ntmps200;go_wp2_with (first
  |(go_at_call 220;((with_reducible refine(HOp.out _ (HT.out.below ?_)).mono ?_);rotate_left;rintro e w' ⟨rfl,m,rfl⟩))
  |(go_at_call 90;((with_reducible refine(HSh.out _ (HT.out.below ?_)).mono ?_);rotate_left;rintro e w' ⟨rfl,rfl⟩))
  |(go_at_call 221;((with_reducible refine(HN0_5.out _).mono ?_);rintro e w' ⟨rfl,m,rfl⟩))
  |(go_at_call 221;((with_reducible refine(HN5_5.out _).mono ?_);rintro e w' ⟨rfl,m,rfl⟩))
  |(go_at_call 221;((with_reducible refine(HN16_5.out _).mono ?_);rintro e w' ⟨rfl,m,rfl⟩)))
 refine⟨rfl,rfl,?_⟩;all_goals
  repeat' (first|(with_reducible exact Below.refl _ _)|(with_reducible exact Nat.le_refl _)|(with_reducible exact Nat.le_succ _)|(with_reducible refine below_drewN ?_ _)|(with_reducible refine aZ ?_ ?_)|(with_reducible refine aT ?_ _))
theorem winst3 (x:Nat)(hx:x<4294967296)(w:World)(hw:fH w)(hs:aF (iK x:Nat)=3)(v:Int)(h:decS (fw x 22 1) (fw x 16 6) (fw x 10 6)=(v,0)):Calls Tryz.prog 200 #[.int .u32 x] w (aP (dY (cH (iK x:Nat) 3 x)) w):=by
 have HM:Hid (∀w,Calls Tryz.prog 222 #[.int .u32 x] w (aP (.int .u64 v) w)):=aH fun w=>wmask_ok x hx w v h
 have HD:Hid (cH (iK x:Nat) 3 x=⟨(iK x:Nat),fw x 0 5,fw x 5 5,0,0,0,v,0,0,0⟩):=aH (by simp only[cH,h]);clear h;have HT:=aH hw;have HOp:=opH hx;have HSh:Hid (∀w,fH w->Calls Tryz.prog 90 #[.int .i64 (iK x:Nat)] w (bQ (.int .i64 3) w)):=aH fun w h=>by have:=cU (iK x:Nat) w h.1;rwa[hs]at this
 have HN0_5:=nmH hx 0 5 0 5;have HN5_5:=nmH hx 5 5 5 5;have HN16_5:=nmH hx 16 5 16 5;generalize fw x 0 5=f0_5 at*
 generalize fw x 5 5=f5_5 at*
 generalize fw x 16 5=f16_5 at*
 generalize iK x=op at*
 clear hw hs;have hZ:=zvH;rw[HD.out];go_enter Tryz.func200,Tryz.ntmps200;go_wp2_with (first
  |(go_at_call 220;((with_reducible refine(HOp.out _ (HT.out.below ?_)).mono ?_);rotate_left;rintro e w' ⟨rfl,m,rfl⟩))
  |(go_at_call 90;((with_reducible refine(HSh.out _ (HT.out.below ?_)).mono ?_);rotate_left;rintro e w' ⟨rfl,rfl⟩))
  |(go_at_call 221;((with_reducible refine(HN0_5.out _).mono ?_);rintro e w' ⟨rfl,m,rfl⟩))
  |(go_at_call 221;((with_reducible refine(HN5_5.out _).mono ?_);rintro e w' ⟨rfl,m,rfl⟩))
  |(go_at_call 221;((with_reducible refine(HN16_5.out _).mono ?_);rintro e w' ⟨rfl,m,rfl⟩))
  |(go_at_call 222;((with_reducible refine(HM.out _).mono ?_);rintro e w2 ⟨rfl,hb⟩;obtain⟨hz2,hi2,hbw⟩:=pZ hb;have c0:w2.cell? ⟨w.heap.size+1,0,none⟩=some (.int .i64 op):=bY hi2;have c1:w2.cell? ⟨w.heap.size+1,1,none⟩=some (.int .i64 0):=bY hi2;have c2:w2.cell? ⟨w.heap.size+1,2,none⟩=some (.int .i64 0):=bY hi2;have c3:w2.cell? ⟨w.heap.size+1,3,none⟩=some (.int .i64 0):=bY hi2;have c4:w2.cell? ⟨w.heap.size+1,4,none⟩=some (.int .i64 0):=bY hi2;have c5:w2.cell? ⟨w.heap.size+1,5,none⟩=some (.int .i64 0):=bY hi2;have c6:w2.cell? ⟨w.heap.size+1,6,none⟩=some (.int .u64 0):=bY hi2;have c7:w2.cell? ⟨w.heap.size+1,7,none⟩=some (.int .i64 0):=bY hi2;have c8:w2.cell? ⟨w.heap.size+1,8,none⟩=some (.int .i64 0):=bY hi2;have c9:w2.cell? ⟨w.heap.size+1,9,none⟩=some (.int .i64 0):=bY hi2;have z0:w2.cell? ⟨w.heap.size,0,none⟩=some (.int .i64 0):=bY hz2;have z1:w2.cell? ⟨w.heap.size,1,none⟩=some (.int .i64 0):=bY hz2;have z2:w2.cell? ⟨w.heap.size,2,none⟩=some (.int .i64 0):=bY hz2;have z3:w2.cell? ⟨w.heap.size,3,none⟩=some (.int .i64 0):=bY hz2;have z4:w2.cell? ⟨w.heap.size,4,none⟩=some (.int .i64 0):=bY hz2;have z5:w2.cell? ⟨w.heap.size,5,none⟩=some (.int .i64 0):=bY hz2;have z6:w2.cell? ⟨w.heap.size,6,none⟩=some (.int .u64 0):=bY hz2;have z7:w2.cell? ⟨w.heap.size,7,none⟩=some (.int .i64 0):=bY hz2;have z8:w2.cell? ⟨w.heap.size,8,none⟩=some (.int .i64 0):=bY hz2;have z9:w2.cell? ⟨w.heap.size,9,none⟩=some (.int .i64 0):=bY hz2;have q0:w2.frozen? ⟨w.heap.size+1,0,none⟩=false:=dC hi2;have q1:w2.frozen? ⟨w.heap.size+1,1,none⟩=false:=dC hi2;have q2:w2.frozen? ⟨w.heap.size+1,2,none⟩=false:=dC hi2;have q3:w2.frozen? ⟨w.heap.size+1,3,none⟩=false:=dC hi2;have q4:w2.frozen? ⟨w.heap.size+1,4,none⟩=false:=dC hi2;have q5:w2.frozen? ⟨w.heap.size+1,5,none⟩=false:=dC hi2;have q6:w2.frozen? ⟨w.heap.size+1,6,none⟩=false:=dC hi2;have q7:w2.frozen? ⟨w.heap.size+1,7,none⟩=false:=dC hi2;have q8:w2.frozen? ⟨w.heap.size+1,8,none⟩=false:=dC hi2;have q9:w2.frozen? ⟨w.heap.size+1,9,none⟩=false:=dC hi2;have y0:w2.frozen? ⟨w.heap.size,0,none⟩=false:=dC hz2;have y1:w2.frozen? ⟨w.heap.size,1,none⟩=false:=dC hz2;have y2:w2.frozen? ⟨w.heap.size,2,none⟩=false:=dC hz2;have y3:w2.frozen? ⟨w.heap.size,3,none⟩=false:=dC hz2;have y4:w2.frozen? ⟨w.heap.size,4,none⟩=false:=dC hz2;have y5:w2.frozen? ⟨w.heap.size,5,none⟩=false:=dC hz2;have y6:w2.frozen? ⟨w.heap.size,6,none⟩=false:=dC hz2;have y7:w2.frozen? ⟨w.heap.size,7,none⟩=false:=dC hz2;have y8:w2.frozen? ⟨w.heap.size,8,none⟩=false:=dC hz2;have y9:w2.frozen? ⟨w.heap.size,9,none⟩=false:=dC hz2;clear hz2 hi2 hb)))
 refine bodyPost_ret (v:=dY _) (by simp [results,Tryz.results200,go_sem, *]) rfl ⟨rfl,?_⟩;all_goals
  repeat' (first|(with_reducible exact Below.refl _ _)|(with_reducible exact Nat.le_refl _)|(with_reducible exact Nat.le_succ _)|(with_reducible exact hbw)|(with_reducible refine below_drewN ?_ _)|(with_reducible refine aZ ?_ ?_)|(with_reducible refine aT ?_ _))
theorem winst3_no (x:Nat)(hx:x<4294967296)(w:World)(hw:fH w)(hs:aF (iK x:Nat)=3)(h:(decS (fw x 22 1) (fw x 16 6) (fw x 10 6)).2≠0):Calls Tryz.prog 200 #[.int .u32 x] w (Throws w):=by
 have HM:Hid (∀w,Calls Tryz.prog 222 #[.int .u32 x] w (Throws w)):=aH fun w=>wmask_no x hx w h
 clear h;have HT:=aH hw;have HOp:=opH hx;have HSh:Hid (∀w,fH w->Calls Tryz.prog 90 #[.int .i64 (iK x:Nat)] w (bQ (.int .i64 3) w)):=aH fun w h=>by have:=cU (iK x:Nat) w h.1;rwa[hs]at this
 have HN0_5:=nmH hx 0 5 0 5;have HN5_5:=nmH hx 5 5 5 5;have HN16_5:=nmH hx 16 5 16 5;generalize fw x 0 5=f0_5 at*
 generalize fw x 5 5=f5_5 at*
 generalize fw x 16 5=f16_5 at*
 generalize iK x=op at*
 clear hw hs;have hZ:=zvH;go_enter Tryz.func200,Tryz.ntmps200;go_wp2_with (first
  |(go_at_call 220;((with_reducible refine(HOp.out _ (HT.out.below ?_)).mono ?_);rotate_left;rintro e w' ⟨rfl,m,rfl⟩))
  |(go_at_call 90;((with_reducible refine(HSh.out _ (HT.out.below ?_)).mono ?_);rotate_left;rintro e w' ⟨rfl,rfl⟩))
  |(go_at_call 221;((with_reducible refine(HN0_5.out _).mono ?_);rintro e w' ⟨rfl,m,rfl⟩))
  |(go_at_call 221;((with_reducible refine(HN5_5.out _).mono ?_);rintro e w' ⟨rfl,m,rfl⟩))
  |(go_at_call 221;((with_reducible refine(HN16_5.out _).mono ?_);rintro e w' ⟨rfl,m,rfl⟩))
  |(go_at_call 222;((with_reducible refine(HM.out _).mono ?_);rintro e w2 ⟨rfl,hb⟩;have hbw:=(pZ hb).2.2;clear hb)))
 refine⟨rfl,rfl,?_⟩;all_goals
  repeat' (first|(with_reducible exact Below.refl _ _)|(with_reducible exact Nat.le_refl _)|(with_reducible exact Nat.le_succ _)|(with_reducible exact hbw)|(with_reducible refine below_drewN ?_ _)|(with_reducible refine aZ ?_ ?_)|(with_reducible refine aT ?_ _))
def noI (x:Nat):Prop:=aF (iK x:Nat)=0\/(aF (iK x:Nat)=3/\(decS (fw x 22 1) (fw x 16 6) (fw x 10 6)).2≠0)
theorem noI_or (x:Nat):noI x\/¬noI x:=Classical.em _
theorem noI_not {x:Nat}(h:noI x):fM (bH x)=false:=by
 cases hI:fM (bH x)
 ·rfl
 ·exfalso;rcases h with h|⟨h,h2⟩
  ·have:=isI_shape hI;rw[readW_op]at this;exact this h
  ·have h3:=(fZ (s:=3) hI (by rw[readW_op];exact h)).2.2;unfold bH at h3;rw[h]at h3;have h4:isS (decS (fw x 22 1) (fw x 16 6) (fw x 10 6)).1.toNat=true:=by simpa[dD,cH]using h3
   have:=(dec_enc h4).2;rw[this]at h2;exact h2 rfl
theorem winst_no (x:Nat)(hx:x<4294967296)(w:World)(hw:fH w)(h:noI x):Calls Tryz.prog 200 #[.int .u32 x] w (Throws w):=by
 rcases h with h|⟨h,h2⟩
 ·exact winst0 x hx w hw h
 ·exact winst3_no x hx w hw h h2
theorem winst_yes (x:Nat)(hx:x<4294967296)(w:World)(hw:fH w)(h:¬noI x):Calls Tryz.prog 200 #[.int .u32 x] w (aP (dY (bH x)) w):=by
 have hb:=dH (iK x:Nat);obtain⟨s,hs⟩:=Int.eq_ofNat_of_zero_le hb.1;unfold bH;unfold noI at h;rw[hs]at h⊢;rw[Int.toNat_natCast];by_cases h3:s=3
 ·subst h3;have h2:(decS (fw x 22 1) (fw x 16 6) (fw x 10 6)).2=0:=Classical.byContradiction fun hn=>h (.inr ⟨rfl,hn⟩)
  exact winst3 x hx w hw hs (decS (fw x 22 1) (fw x 16 6) (fw x 10 6)).1 (Prod.ext rfl h2)
 ·have h1:s≠0:=fun e=>h (.inl (by rw[e];rfl))
  have h2:s<=16:=by have:=hb.2;rw[hs]at this;clear h;omega
  clear h hb;exact winstS x hx w hw s hs (by clear hs hw hx;omega)
end Go.Proofs.YtiohgaghmnpplaaGreatDoor
