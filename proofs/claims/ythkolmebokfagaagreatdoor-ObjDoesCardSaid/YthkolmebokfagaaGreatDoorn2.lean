/- The reference's signed, of. -/
import Derived.Test.YthkolmebokfagaaGreatDoorn1
import Derived.RegionTactic
set_option maxRecDepth 100000
set_option maxHeartbeats 8000000
set_option linter.unusedVariables false
set_option linter.unusedSimpArgs false
namespace Go.Proofs.YthkolmebokfagaaGreatDoor
open Go.RowKit
theorem rsigned_any (v n:Int) (w:World) (h0:0<=v) (h1:v < 4294967296):Calls Tryz.prog 164 #[.int .u32 v,.int .i64 n] w (Ret (.int .i64 (sgn v n).1) w):=by
 have HS:Hid (∀ w,Calls Tryz.prog 185 #[.int .u32 v,.int .i64 n] w (Ret (.tuple #[.int .i64 (sgn v n).1,.int .i64 (sgn v n).2]) w)):=Lib.hid fun w=>refSigned_any v n w h0 h1
 generalize (sgn v n).1=s1 at*
 generalize (sgn v n).2=s2 at*
 go_enter Tryz.func164,Tryz.ntmps164
 go_wp2_with (go_at_call 185;((with_reducible refine (HS.out _).mono ?_);rintro e w' ⟨rfl,rfl⟩))
 go_ret
 exact ret_int rfl
theorem pre3 (o:Int) (k:Nat) (z:Int) (hz:(k:Int)=z) (x y:Bool) (hs:shapeI o=z) (hk:k<=16) (hx:hasR k 100=x) (hy:hasR k 110=y):Hid (∀ w,Calls Tryz.prog 141 #[.int .i64 o] w (RetB (.int .i64 z) w))/\Hid (∀ w,Calls Tryz.prog 162 #[.int .i64 z,.string ⟨#[100]⟩] w (RetB (.bool x) w))/\Hid (∀ w,Calls Tryz.prog 162 #[.int .i64 z,.string ⟨#[110]⟩] w (RetB (.bool y) w)):=by
 subst hz hx hy
 exact ⟨Lib.hid fun w=>by have:=RShape_any o w;rwa [hs] at this,Lib.hid fun w=>Has_any k hk 100 w,Lib.hid fun w=>Has_any k hk 110 w⟩
theorem kp3 {w0 w w':World} {g g':Nat} {o o':Obj} (hz:w.heap[g]?=some o) (he:w.heap[g']?=some o') (hbw:Below w0.heap.size w0 w) (hb:Below w.heap.size w w'):w'.heap[g]?=some o/\w'.heap[g']?=some o'/\Below w0.heap.size w0 w':=
 ⟨(hb.block _ (Array.getElem?_eq_some_iff.1 hz).1).trans hz,(hb.block _ (Array.getElem?_eq_some_iff.1 he).1).trans he,hbw.trans (hb.mono hbw.size)⟩
theorem ten {w:World} {g T:Nat} (a b c d e f p q r s:Value) (h:w.heap[g]?=some (.cells #[a,b,c,d,e,f,p,q,r,s] T (0,0))):w.cell? ⟨g,0,none⟩=some a/\w.frozen? ⟨g,0,none⟩=false/\w.cell? ⟨g,1,none⟩=some b/\w.frozen? ⟨g,1,none⟩=false/\w.cell? ⟨g,2,none⟩=some c/\w.frozen? ⟨g,2,none⟩=false/\w.cell? ⟨g,3,none⟩=some d/\w.frozen? ⟨g,3,none⟩=false/\w.cell? ⟨g,4,none⟩=some e/\w.frozen? ⟨g,4,none⟩=false/\w.cell? ⟨g,5,none⟩=some f/\w.frozen? ⟨g,5,none⟩=false/\w.cell? ⟨g,6,none⟩=some p/\w.frozen? ⟨g,6,none⟩=false/\w.cell? ⟨g,7,none⟩=some q/\w.frozen? ⟨g,7,none⟩=false/\w.cell? ⟨g,8,none⟩=some r/\w.frozen? ⟨g,8,none⟩=false/\w.cell? ⟨g,9,none⟩=some s/\w.frozen? ⟨g,9,none⟩=false:=
 ⟨cel h,frz h,cel h,frz h,cel h,frz h,cel h,frz h,cel h,frz h,cel h,frz h,cel h,frz h,cel h,frz h,cel h,frz h,cel h,frz h⟩
theorem ten0 {w:World} {g T:Nat} (h:w.heap[g]?=some (.cells #[.int .i64 0,.int .i64 0,.int .i64 0,.int .i64 0,.int .i64 0,.int .i64 0,.int .u64 0,.int .i64 0,.int .i64 0,.int .i64 0] T (0,0))):w.cell? ⟨g,0,none⟩=some (.int .i64 0)/\w.frozen? ⟨g,0,none⟩=false/\w.cell? ⟨g,1,none⟩=some (.int .i64 0)/\w.frozen? ⟨g,1,none⟩=false/\w.cell? ⟨g,2,none⟩=some (.int .i64 0)/\w.frozen? ⟨g,2,none⟩=false/\w.cell? ⟨g,3,none⟩=some (.int .i64 0)/\w.frozen? ⟨g,3,none⟩=false/\w.cell? ⟨g,4,none⟩=some (.int .i64 0)/\w.frozen? ⟨g,4,none⟩=false/\w.cell? ⟨g,5,none⟩=some (.int .i64 0)/\w.frozen? ⟨g,5,none⟩=false/\w.cell? ⟨g,6,none⟩=some (.int .u64 0)/\w.frozen? ⟨g,6,none⟩=false/\w.cell? ⟨g,7,none⟩=some (.int .i64 0)/\w.frozen? ⟨g,7,none⟩=false/\w.cell? ⟨g,8,none⟩=some (.int .i64 0)/\w.frozen? ⟨g,8,none⟩=false/\w.cell? ⟨g,9,none⟩=some (.int .i64 0)/\w.frozen? ⟨g,9,none⟩=false:=
 ⟨cel h,frz h,cel h,frz h,cel h,frz h,cel h,frz h,cel h,frz h,cel h,frz h,cel h,frz h,cel h,frz h,cel h,frz h,cel h,frz h⟩
def fvX (s x:Nat):List Int:=(fldX s x).map fun f=>f.2.2
theorem rof1 (o:Int) (x:Nat) (hx:x < 4294967296) (hs:shapeI o=1) (a:Option Addr) (c:Nat) (w:World) (h:SL encU 1 w w.heap.size a 3 [fw x 0 5,fw x 5 16,fw x 21 2]):Calls Tryz.prog 143 #[.int .i64 o,.slice a 3 c] w (RetB (inV (decW o 1 x)) w):=by
 obtain ⟨HSh,HHd,HHn⟩:=pre3 o 1 1 rfl true false hs (by decide) rfl rfl
 have HD:Hid (decW o 1 x=⟨o,(fw x 0 5),0,0,0,(fw x 5 16),0,0,(16*(fw x 21 2)),0⟩):=Lib.hid rfl
 have hb0_5:=fw_lt x 0 5
 have hb5_16:=fw_lt x 5 16
 have hb21_2:=fw_lt x 21 2
 generalize fw x 0 5=f0_5 at*
 generalize fw x 5 16=f5_16 at*
 generalize fw x 21 2=f21_2 at*
 simp only [Int.reducePow] at hb0_5 hb5_16 hb21_2
 obtain ⟨b,off,rfl,hBl,hc⟩:=h.cells (by simp)
 have g0:w.cell? ⟨b,off,none⟩=some (.int .u32 f0_5):=hc 0 (by simp) 0 (by decide)
 have g1:w.cell? ⟨b,off+1,none⟩=some (.int .u32 f5_16):=hc 1 (by simp) 0 (by decide)
 have g2:w.cell? ⟨b,off+2,none⟩=some (.int .u32 f21_2):=hc 2 (by simp) 0 (by decide)
 clear hc h
 have hZ:∀ w,(zeroValue 188).run Tryz.prog w=.ok (.agg (inC inZ)) w:=fun w=>by kernel_rfl
 clear hs
 rw [HD.out]
 have G0:=Lib.hid g0
 have G1:=Lib.hid g1
 have G2:=Lib.hid g2
 go_enter Tryz.func143,Tryz.ntmps143
 go_wp2_with (first | (go_at_call 141;((with_reducible refine (HSh.out _).mono ?_);rintro e w1 ⟨rfl,hb⟩;obtain ⟨hz,he,hbw⟩:=res_blocks hb;clear hb)) | (go_at_call 162;((with_reducible refine (HHd.out _).mono ?_);rintro e w2 ⟨rfl,hb⟩;obtain ⟨hz,he,hbw⟩:=kp3 hz he hbw hb;clear hb;have g0:w2.cell? ⟨b,off,none⟩=some (.int .u32 f0_5):=(hbw.cell (p:=⟨b,off,none⟩) hBl).trans G0.out;have g1:w2.cell? ⟨b,off+1,none⟩=some (.int .u32 f5_16):=(hbw.cell (p:=⟨b,off+1,none⟩) hBl).trans G1.out;have g2:w2.cell? ⟨b,off+2,none⟩=some (.int .u32 f21_2):=(hbw.cell (p:=⟨b,off+2,none⟩) hBl).trans G2.out;have y1:w2.cell? ⟨w.heap.size+1,1,none⟩=some (.int .i64 0):=cel he;have yq1:w2.frozen? ⟨w.heap.size+1,1,none⟩=false:=frz he)) | (go_at_call 162;((with_reducible refine (HHn.out _).mono ?_);rintro e w3 ⟨rfl,hb⟩;replace he:=hset (o:=1) (x:=.int .i64 f0_5) he;replace hz:=(hother (w:=w2) (b:=w.heap.size+1) (o:=1) (x:=.int .i64 f0_5) (c:=w.heap.size) (by omega)).trans hz;replace hbw:=bel_set (o:=1) (u:=.int .i64 f0_5) hbw (show w.heap.size<=w.heap.size+1 by omega);obtain ⟨hz,he,hbw⟩:=kp3 hz he hbw hb;clear hb;have g0:w3.cell? ⟨b,off,none⟩=some (.int .u32 f0_5):=(hbw.cell (p:=⟨b,off,none⟩) hBl).trans G0.out;have g1:w3.cell? ⟨b,off+1,none⟩=some (.int .u32 f5_16):=(hbw.cell (p:=⟨b,off+1,none⟩) hBl).trans G1.out;have g2:w3.cell? ⟨b,off+2,none⟩=some (.int .u32 f21_2):=(hbw.cell (p:=⟨b,off+2,none⟩) hBl).trans G2.out;obtain ⟨y0,yq0,y1,yq1,y2,yq2,y3,yq3,y4,yq4,y5,yq5,y6,yq6,y7,yq7,y8,yq8,y9,yq9⟩:=ten (.int .i64 o) (.int .i64 f0_5) (.int .i64 0) (.int .i64 0) (.int .i64 0) (.int .i64 0) (.int .u64 0) (.int .i64 0) (.int .i64 0) (.int .i64 0) he;obtain ⟨z0,zq0,z1,zq1,z2,zq2,z3,zq3,z4,zq4,z5,zq5,z6,zq6,z7,zq7,z8,zq8,z9,zq9⟩:=ten0 hz;clear hz he)))
 all_goals
  refine bodyPost_ret (v:=inV _) (by simp [results,Tryz.results143,go_sem, *]) rfl ⟨rfl,?_⟩
  repeat' (first | (with_reducible exact hbw) | (with_reducible exact Nat.le_refl _) | (with_reducible exact Nat.le_succ _) | (with_reducible refine below_drewN ?_ _) | (with_reducible refine Below.drew ?_) | (with_reducible refine bel_set ?_ ?_) | (with_reducible refine bel_alloc ?_ _))
theorem rof2 (o:Int) (x:Nat) (hx:x < 4294967296) (hs:shapeI o=2) (a:Option Addr) (c:Nat) (w:World) (h:SL encU 1 w w.heap.size a 4 [fw x 0 5,fw x 5 5,fw x 10 12,fw x 22 1]):Calls Tryz.prog 143 #[.int .i64 o,.slice a 4 c] w (RetB (inV (decW o 2 x)) w):=by
 obtain ⟨HSh,HHd,HHn⟩:=pre3 o 2 2 rfl true true hs (by decide) rfl rfl
 have HD:Hid (decW o 2 x=⟨o,(fw x 0 5),(fw x 5 5),0,0,(fw x 10 12),0,0,(12*(fw x 22 1)),0⟩):=Lib.hid rfl
 have hb0_5:=fw_lt x 0 5
 have hb5_5:=fw_lt x 5 5
 have hb10_12:=fw_lt x 10 12
 have hb22_1:=fw_lt x 22 1
 generalize fw x 0 5=f0_5 at*
 generalize fw x 5 5=f5_5 at*
 generalize fw x 10 12=f10_12 at*
 generalize fw x 22 1=f22_1 at*
 simp only [Int.reducePow] at hb0_5 hb5_5 hb10_12 hb22_1
 obtain ⟨b,off,rfl,hBl,hc⟩:=h.cells (by simp)
 have g0:w.cell? ⟨b,off,none⟩=some (.int .u32 f0_5):=hc 0 (by simp) 0 (by decide)
 have g1:w.cell? ⟨b,off+1,none⟩=some (.int .u32 f5_5):=hc 1 (by simp) 0 (by decide)
 have g2:w.cell? ⟨b,off+2,none⟩=some (.int .u32 f10_12):=hc 2 (by simp) 0 (by decide)
 have g3:w.cell? ⟨b,off+3,none⟩=some (.int .u32 f22_1):=hc 3 (by simp) 0 (by decide)
 clear hc h
 have hZ:∀ w,(zeroValue 188).run Tryz.prog w=.ok (.agg (inC inZ)) w:=fun w=>by kernel_rfl
 clear hs
 rw [HD.out]
 have G0:=Lib.hid g0
 have G1:=Lib.hid g1
 have G2:=Lib.hid g2
 have G3:=Lib.hid g3
 go_enter Tryz.func143,Tryz.ntmps143
 go_wp2_with (first | (go_at_call 141;((with_reducible refine (HSh.out _).mono ?_);rintro e w1 ⟨rfl,hb⟩;obtain ⟨hz,he,hbw⟩:=res_blocks hb;clear hb)) | (go_at_call 162;((with_reducible refine (HHd.out _).mono ?_);rintro e w2 ⟨rfl,hb⟩;obtain ⟨hz,he,hbw⟩:=kp3 hz he hbw hb;clear hb;have g0:w2.cell? ⟨b,off,none⟩=some (.int .u32 f0_5):=(hbw.cell (p:=⟨b,off,none⟩) hBl).trans G0.out;have g1:w2.cell? ⟨b,off+1,none⟩=some (.int .u32 f5_5):=(hbw.cell (p:=⟨b,off+1,none⟩) hBl).trans G1.out;have g2:w2.cell? ⟨b,off+2,none⟩=some (.int .u32 f10_12):=(hbw.cell (p:=⟨b,off+2,none⟩) hBl).trans G2.out;have g3:w2.cell? ⟨b,off+3,none⟩=some (.int .u32 f22_1):=(hbw.cell (p:=⟨b,off+3,none⟩) hBl).trans G3.out;have y1:w2.cell? ⟨w.heap.size+1,1,none⟩=some (.int .i64 0):=cel he;have yq1:w2.frozen? ⟨w.heap.size+1,1,none⟩=false:=frz he)) | (go_at_call 162;((with_reducible refine (HHn.out _).mono ?_);rintro e w3 ⟨rfl,hb⟩;replace he:=hset (o:=1) (x:=.int .i64 f0_5) he;replace hz:=(hother (w:=w2) (b:=w.heap.size+1) (o:=1) (x:=.int .i64 f0_5) (c:=w.heap.size) (by omega)).trans hz;replace hbw:=bel_set (o:=1) (u:=.int .i64 f0_5) hbw (show w.heap.size<=w.heap.size+1 by omega);obtain ⟨hz,he,hbw⟩:=kp3 hz he hbw hb;clear hb;have g0:w3.cell? ⟨b,off,none⟩=some (.int .u32 f0_5):=(hbw.cell (p:=⟨b,off,none⟩) hBl).trans G0.out;have g1:w3.cell? ⟨b,off+1,none⟩=some (.int .u32 f5_5):=(hbw.cell (p:=⟨b,off+1,none⟩) hBl).trans G1.out;have g2:w3.cell? ⟨b,off+2,none⟩=some (.int .u32 f10_12):=(hbw.cell (p:=⟨b,off+2,none⟩) hBl).trans G2.out;have g3:w3.cell? ⟨b,off+3,none⟩=some (.int .u32 f22_1):=(hbw.cell (p:=⟨b,off+3,none⟩) hBl).trans G3.out;obtain ⟨y0,yq0,y1,yq1,y2,yq2,y3,yq3,y4,yq4,y5,yq5,y6,yq6,y7,yq7,y8,yq8,y9,yq9⟩:=ten (.int .i64 o) (.int .i64 f0_5) (.int .i64 0) (.int .i64 0) (.int .i64 0) (.int .i64 0) (.int .u64 0) (.int .i64 0) (.int .i64 0) (.int .i64 0) he;obtain ⟨z0,zq0,z1,zq1,z2,zq2,z3,zq3,z4,zq4,z5,zq5,z6,zq6,z7,zq7,z8,zq8,z9,zq9⟩:=ten0 hz;clear hz he)))
 all_goals
  refine bodyPost_ret (v:=inV _) (by simp [results,Tryz.results143,go_sem, *]) rfl ⟨rfl,?_⟩
  repeat' (first | (with_reducible exact hbw) | (with_reducible exact Nat.le_refl _) | (with_reducible exact Nat.le_succ _) | (with_reducible refine below_drewN ?_ _) | (with_reducible refine Below.drew ?_) | (with_reducible refine bel_set ?_ ?_) | (with_reducible refine bel_alloc ?_ _))
theorem rof3 (o:Int) (x:Nat) (hx:x < 4294967296) (hs:shapeI o=3) (a:Option Addr) (c:Nat) (w:World) (h:SL encU 1 w w.heap.size a 5 [fw x 0 5,fw x 5 5,fw x 10 6,fw x 16 6,fw x 22 1]):Calls Tryz.prog 143 #[.int .i64 o,.slice a 5 c] w (RetB (inV (decW o 3 x)) w):=by
 obtain ⟨HSh,HHd,HHn⟩:=pre3 o 3 3 rfl true true hs (by decide) rfl rfl
 have HD:Hid (decW o 3 x=⟨o,(fw x 0 5),(fw x 5 5),0,0,0,(decS (fw x 22 1) (fw x 16 6) (fw x 10 6)).1,0,0,0⟩):=Lib.hid rfl
 have hb0_5:=fw_lt x 0 5
 have hb5_5:=fw_lt x 5 5
 have hb10_6:=fw_lt x 10 6
 have hb16_6:=fw_lt x 16 6
 have hb22_1:=fw_lt x 22 1
 have HDe:Hid (∀ w,Calls Tryz.prog 163 #[.int .i64 (fw x 22 1),.int .i64 (fw x 16 6),.int .i64 (fw x 10 6)] w (Ret (.tuple #[.int .u64 (decS (fw x 22 1) (fw x 16 6) (fw x 10 6)).1,.int .i64 (decS (fw x 22 1) (fw x 16 6) (fw x 10 6)).2]) w)):=Lib.hid fun w=>refDecode_any _ _ _ w
 generalize (decS (fw x 22 1) (fw x 16 6) (fw x 10 6)).1=dm at*
 generalize (decS (fw x 22 1) (fw x 16 6) (fw x 10 6)).2=de at*
 generalize fw x 0 5=f0_5 at*
 generalize fw x 5 5=f5_5 at*
 generalize fw x 10 6=f10_6 at*
 generalize fw x 16 6=f16_6 at*
 generalize fw x 22 1=f22_1 at*
 simp only [Int.reducePow] at hb0_5 hb5_5 hb10_6 hb16_6 hb22_1
 obtain ⟨b,off,rfl,hBl,hc⟩:=h.cells (by simp)
 have g0:w.cell? ⟨b,off,none⟩=some (.int .u32 f0_5):=hc 0 (by simp) 0 (by decide)
 have g1:w.cell? ⟨b,off+1,none⟩=some (.int .u32 f5_5):=hc 1 (by simp) 0 (by decide)
 have g2:w.cell? ⟨b,off+2,none⟩=some (.int .u32 f10_6):=hc 2 (by simp) 0 (by decide)
 have g3:w.cell? ⟨b,off+3,none⟩=some (.int .u32 f16_6):=hc 3 (by simp) 0 (by decide)
 have g4:w.cell? ⟨b,off+4,none⟩=some (.int .u32 f22_1):=hc 4 (by simp) 0 (by decide)
 clear hc h
 have hZ:∀ w,(zeroValue 188).run Tryz.prog w=.ok (.agg (inC inZ)) w:=fun w=>by kernel_rfl
 clear hs
 rw [HD.out]
 have G0:=Lib.hid g0
 have G1:=Lib.hid g1
 have G2:=Lib.hid g2
 have G3:=Lib.hid g3
 have G4:=Lib.hid g4
 go_enter Tryz.func143,Tryz.ntmps143
 go_wp2_with (first | (go_at_call 141;((with_reducible refine (HSh.out _).mono ?_);rintro e w1 ⟨rfl,hb⟩;obtain ⟨hz,he,hbw⟩:=res_blocks hb;clear hb)) | (go_at_call 162;((with_reducible refine (HHd.out _).mono ?_);rintro e w2 ⟨rfl,hb⟩;obtain ⟨hz,he,hbw⟩:=kp3 hz he hbw hb;clear hb;have g0:w2.cell? ⟨b,off,none⟩=some (.int .u32 f0_5):=(hbw.cell (p:=⟨b,off,none⟩) hBl).trans G0.out;have g1:w2.cell? ⟨b,off+1,none⟩=some (.int .u32 f5_5):=(hbw.cell (p:=⟨b,off+1,none⟩) hBl).trans G1.out;have g2:w2.cell? ⟨b,off+2,none⟩=some (.int .u32 f10_6):=(hbw.cell (p:=⟨b,off+2,none⟩) hBl).trans G2.out;have g3:w2.cell? ⟨b,off+3,none⟩=some (.int .u32 f16_6):=(hbw.cell (p:=⟨b,off+3,none⟩) hBl).trans G3.out;have g4:w2.cell? ⟨b,off+4,none⟩=some (.int .u32 f22_1):=(hbw.cell (p:=⟨b,off+4,none⟩) hBl).trans G4.out;have y1:w2.cell? ⟨w.heap.size+1,1,none⟩=some (.int .i64 0):=cel he;have yq1:w2.frozen? ⟨w.heap.size+1,1,none⟩=false:=frz he)) | (go_at_call 162;((with_reducible refine (HHn.out _).mono ?_);rintro e w3 ⟨rfl,hb⟩;replace he:=hset (o:=1) (x:=.int .i64 f0_5) he;replace hz:=(hother (w:=w2) (b:=w.heap.size+1) (o:=1) (x:=.int .i64 f0_5) (c:=w.heap.size) (by omega)).trans hz;replace hbw:=bel_set (o:=1) (u:=.int .i64 f0_5) hbw (show w.heap.size<=w.heap.size+1 by omega);obtain ⟨hz,he,hbw⟩:=kp3 hz he hbw hb;clear hb;have g0:w3.cell? ⟨b,off,none⟩=some (.int .u32 f0_5):=(hbw.cell (p:=⟨b,off,none⟩) hBl).trans G0.out;have g1:w3.cell? ⟨b,off+1,none⟩=some (.int .u32 f5_5):=(hbw.cell (p:=⟨b,off+1,none⟩) hBl).trans G1.out;have g2:w3.cell? ⟨b,off+2,none⟩=some (.int .u32 f10_6):=(hbw.cell (p:=⟨b,off+2,none⟩) hBl).trans G2.out;have g3:w3.cell? ⟨b,off+3,none⟩=some (.int .u32 f16_6):=(hbw.cell (p:=⟨b,off+3,none⟩) hBl).trans G3.out;have g4:w3.cell? ⟨b,off+4,none⟩=some (.int .u32 f22_1):=(hbw.cell (p:=⟨b,off+4,none⟩) hBl).trans G4.out;obtain ⟨y0,yq0,y1,yq1,y2,yq2,y3,yq3,y4,yq4,y5,yq5,y6,yq6,y7,yq7,y8,yq8,y9,yq9⟩:=ten (.int .i64 o) (.int .i64 f0_5) (.int .i64 0) (.int .i64 0) (.int .i64 0) (.int .i64 0) (.int .u64 0) (.int .i64 0) (.int .i64 0) (.int .i64 0) he;obtain ⟨z0,zq0,z1,zq1,z2,zq2,z3,zq3,z4,zq4,z5,zq5,z6,zq6,z7,zq7,z8,zq8,z9,zq9⟩:=ten0 hz;clear hz he)))
 go_quiet ((go_at_call 163;exact Calls.quiet_of_same ((HDe.out _).mono fun e w' h=>⟨h.1,h.2.symm⟩)))
 go_wp2
 all_goals
  refine bodyPost_ret (v:=inV _) (by simp [results,Tryz.results143,go_sem, *]) rfl ⟨rfl,?_⟩
  repeat' (first | (with_reducible exact hbw) | (with_reducible exact Nat.le_refl _) | (with_reducible exact Nat.le_succ _) | (with_reducible refine below_drewN ?_ _) | (with_reducible refine Below.drew ?_) | (with_reducible refine bel_set ?_ ?_) | (with_reducible refine bel_alloc ?_ _))
theorem rof4 (o:Int) (x:Nat) (hx:x < 4294967296) (hs:shapeI o=4) (a:Option Addr) (c:Nat) (w:World) (h:SL encU 1 w w.heap.size a 5 [fw x 0 5,fw x 5 5,fw x 10 6,fw x 16 5,fw x 22 2]):Calls Tryz.prog 143 #[.int .i64 o,.slice a 5 c] w (RetB (inV (decW o 4 x)) w):=by
 obtain ⟨HSh,HHd,HHn⟩:=pre3 o 4 4 rfl true true hs (by decide) rfl rfl
 have HD:Hid (decW o 4 x=⟨o,(fw x 0 5),(fw x 5 5),(fw x 16 5),0,0,0,(fw x 22 2),(fw x 10 6),0⟩):=Lib.hid rfl
 have hb0_5:=fw_lt x 0 5
 have hb5_5:=fw_lt x 5 5
 have hb10_6:=fw_lt x 10 6
 have hb16_5:=fw_lt x 16 5
 have hb22_2:=fw_lt x 22 2
 generalize fw x 0 5=f0_5 at*
 generalize fw x 5 5=f5_5 at*
 generalize fw x 10 6=f10_6 at*
 generalize fw x 16 5=f16_5 at*
 generalize fw x 22 2=f22_2 at*
 simp only [Int.reducePow] at hb0_5 hb5_5 hb10_6 hb16_5 hb22_2
 obtain ⟨b,off,rfl,hBl,hc⟩:=h.cells (by simp)
 have g0:w.cell? ⟨b,off,none⟩=some (.int .u32 f0_5):=hc 0 (by simp) 0 (by decide)
 have g1:w.cell? ⟨b,off+1,none⟩=some (.int .u32 f5_5):=hc 1 (by simp) 0 (by decide)
 have g2:w.cell? ⟨b,off+2,none⟩=some (.int .u32 f10_6):=hc 2 (by simp) 0 (by decide)
 have g3:w.cell? ⟨b,off+3,none⟩=some (.int .u32 f16_5):=hc 3 (by simp) 0 (by decide)
 have g4:w.cell? ⟨b,off+4,none⟩=some (.int .u32 f22_2):=hc 4 (by simp) 0 (by decide)
 clear hc h
 have hZ:∀ w,(zeroValue 188).run Tryz.prog w=.ok (.agg (inC inZ)) w:=fun w=>by kernel_rfl
 clear hs
 rw [HD.out]
 have G0:=Lib.hid g0
 have G1:=Lib.hid g1
 have G2:=Lib.hid g2
 have G3:=Lib.hid g3
 have G4:=Lib.hid g4
 go_enter Tryz.func143,Tryz.ntmps143
 go_wp2_with (first | (go_at_call 141;((with_reducible refine (HSh.out _).mono ?_);rintro e w1 ⟨rfl,hb⟩;obtain ⟨hz,he,hbw⟩:=res_blocks hb;clear hb)) | (go_at_call 162;((with_reducible refine (HHd.out _).mono ?_);rintro e w2 ⟨rfl,hb⟩;obtain ⟨hz,he,hbw⟩:=kp3 hz he hbw hb;clear hb;have g0:w2.cell? ⟨b,off,none⟩=some (.int .u32 f0_5):=(hbw.cell (p:=⟨b,off,none⟩) hBl).trans G0.out;have g1:w2.cell? ⟨b,off+1,none⟩=some (.int .u32 f5_5):=(hbw.cell (p:=⟨b,off+1,none⟩) hBl).trans G1.out;have g2:w2.cell? ⟨b,off+2,none⟩=some (.int .u32 f10_6):=(hbw.cell (p:=⟨b,off+2,none⟩) hBl).trans G2.out;have g3:w2.cell? ⟨b,off+3,none⟩=some (.int .u32 f16_5):=(hbw.cell (p:=⟨b,off+3,none⟩) hBl).trans G3.out;have g4:w2.cell? ⟨b,off+4,none⟩=some (.int .u32 f22_2):=(hbw.cell (p:=⟨b,off+4,none⟩) hBl).trans G4.out;have y1:w2.cell? ⟨w.heap.size+1,1,none⟩=some (.int .i64 0):=cel he;have yq1:w2.frozen? ⟨w.heap.size+1,1,none⟩=false:=frz he)) | (go_at_call 162;((with_reducible refine (HHn.out _).mono ?_);rintro e w3 ⟨rfl,hb⟩;replace he:=hset (o:=1) (x:=.int .i64 f0_5) he;replace hz:=(hother (w:=w2) (b:=w.heap.size+1) (o:=1) (x:=.int .i64 f0_5) (c:=w.heap.size) (by omega)).trans hz;replace hbw:=bel_set (o:=1) (u:=.int .i64 f0_5) hbw (show w.heap.size<=w.heap.size+1 by omega);obtain ⟨hz,he,hbw⟩:=kp3 hz he hbw hb;clear hb;have g0:w3.cell? ⟨b,off,none⟩=some (.int .u32 f0_5):=(hbw.cell (p:=⟨b,off,none⟩) hBl).trans G0.out;have g1:w3.cell? ⟨b,off+1,none⟩=some (.int .u32 f5_5):=(hbw.cell (p:=⟨b,off+1,none⟩) hBl).trans G1.out;have g2:w3.cell? ⟨b,off+2,none⟩=some (.int .u32 f10_6):=(hbw.cell (p:=⟨b,off+2,none⟩) hBl).trans G2.out;have g3:w3.cell? ⟨b,off+3,none⟩=some (.int .u32 f16_5):=(hbw.cell (p:=⟨b,off+3,none⟩) hBl).trans G3.out;have g4:w3.cell? ⟨b,off+4,none⟩=some (.int .u32 f22_2):=(hbw.cell (p:=⟨b,off+4,none⟩) hBl).trans G4.out;obtain ⟨y0,yq0,y1,yq1,y2,yq2,y3,yq3,y4,yq4,y5,yq5,y6,yq6,y7,yq7,y8,yq8,y9,yq9⟩:=ten (.int .i64 o) (.int .i64 f0_5) (.int .i64 0) (.int .i64 0) (.int .i64 0) (.int .i64 0) (.int .u64 0) (.int .i64 0) (.int .i64 0) (.int .i64 0) he;obtain ⟨z0,zq0,z1,zq1,z2,zq2,z3,zq3,z4,zq4,z5,zq5,z6,zq6,z7,zq7,z8,zq8,z9,zq9⟩:=ten0 hz;clear hz he)))
 all_goals
  refine bodyPost_ret (v:=inV _) (by simp [results,Tryz.results143,go_sem, *]) rfl ⟨rfl,?_⟩
  repeat' (first | (with_reducible exact hbw) | (with_reducible exact Nat.le_refl _) | (with_reducible exact Nat.le_succ _) | (with_reducible refine below_drewN ?_ _) | (with_reducible refine Below.drew ?_) | (with_reducible refine bel_set ?_ ?_) | (with_reducible refine bel_alloc ?_ _))
theorem rof5 (o:Int) (x:Nat) (hx:x < 4294967296) (hs:shapeI o=5) (a:Option Addr) (c:Nat) (w:World) (h:SL encU 1 w w.heap.size a 5 [fw x 0 5,fw x 5 5,fw x 10 6,fw x 16 5,fw x 22 2]):Calls Tryz.prog 143 #[.int .i64 o,.slice a 5 c] w (RetB (inV (decW o 5 x)) w):=by
 obtain ⟨HSh,HHd,HHn⟩:=pre3 o 5 5 rfl true true hs (by decide) rfl rfl
 have HD:Hid (decW o 5 x=⟨o,(fw x 0 5),(fw x 5 5),(fw x 16 5),0,0,0,(fw x 22 2),(fw x 10 6),0⟩):=Lib.hid rfl
 have hb0_5:=fw_lt x 0 5
 have hb5_5:=fw_lt x 5 5
 have hb10_6:=fw_lt x 10 6
 have hb16_5:=fw_lt x 16 5
 have hb22_2:=fw_lt x 22 2
 generalize fw x 0 5=f0_5 at*
 generalize fw x 5 5=f5_5 at*
 generalize fw x 10 6=f10_6 at*
 generalize fw x 16 5=f16_5 at*
 generalize fw x 22 2=f22_2 at*
 simp only [Int.reducePow] at hb0_5 hb5_5 hb10_6 hb16_5 hb22_2
 obtain ⟨b,off,rfl,hBl,hc⟩:=h.cells (by simp)
 have g0:w.cell? ⟨b,off,none⟩=some (.int .u32 f0_5):=hc 0 (by simp) 0 (by decide)
 have g1:w.cell? ⟨b,off+1,none⟩=some (.int .u32 f5_5):=hc 1 (by simp) 0 (by decide)
 have g2:w.cell? ⟨b,off+2,none⟩=some (.int .u32 f10_6):=hc 2 (by simp) 0 (by decide)
 have g3:w.cell? ⟨b,off+3,none⟩=some (.int .u32 f16_5):=hc 3 (by simp) 0 (by decide)
 have g4:w.cell? ⟨b,off+4,none⟩=some (.int .u32 f22_2):=hc 4 (by simp) 0 (by decide)
 clear hc h
 have hZ:∀ w,(zeroValue 188).run Tryz.prog w=.ok (.agg (inC inZ)) w:=fun w=>by kernel_rfl
 clear hs
 rw [HD.out]
 have G0:=Lib.hid g0
 have G1:=Lib.hid g1
 have G2:=Lib.hid g2
 have G3:=Lib.hid g3
 have G4:=Lib.hid g4
 go_enter Tryz.func143,Tryz.ntmps143
 go_wp2_with (first | (go_at_call 141;((with_reducible refine (HSh.out _).mono ?_);rintro e w1 ⟨rfl,hb⟩;obtain ⟨hz,he,hbw⟩:=res_blocks hb;clear hb)) | (go_at_call 162;((with_reducible refine (HHd.out _).mono ?_);rintro e w2 ⟨rfl,hb⟩;obtain ⟨hz,he,hbw⟩:=kp3 hz he hbw hb;clear hb;have g0:w2.cell? ⟨b,off,none⟩=some (.int .u32 f0_5):=(hbw.cell (p:=⟨b,off,none⟩) hBl).trans G0.out;have g1:w2.cell? ⟨b,off+1,none⟩=some (.int .u32 f5_5):=(hbw.cell (p:=⟨b,off+1,none⟩) hBl).trans G1.out;have g2:w2.cell? ⟨b,off+2,none⟩=some (.int .u32 f10_6):=(hbw.cell (p:=⟨b,off+2,none⟩) hBl).trans G2.out;have g3:w2.cell? ⟨b,off+3,none⟩=some (.int .u32 f16_5):=(hbw.cell (p:=⟨b,off+3,none⟩) hBl).trans G3.out;have g4:w2.cell? ⟨b,off+4,none⟩=some (.int .u32 f22_2):=(hbw.cell (p:=⟨b,off+4,none⟩) hBl).trans G4.out;have y1:w2.cell? ⟨w.heap.size+1,1,none⟩=some (.int .i64 0):=cel he;have yq1:w2.frozen? ⟨w.heap.size+1,1,none⟩=false:=frz he)) | (go_at_call 162;((with_reducible refine (HHn.out _).mono ?_);rintro e w3 ⟨rfl,hb⟩;replace he:=hset (o:=1) (x:=.int .i64 f0_5) he;replace hz:=(hother (w:=w2) (b:=w.heap.size+1) (o:=1) (x:=.int .i64 f0_5) (c:=w.heap.size) (by omega)).trans hz;replace hbw:=bel_set (o:=1) (u:=.int .i64 f0_5) hbw (show w.heap.size<=w.heap.size+1 by omega);obtain ⟨hz,he,hbw⟩:=kp3 hz he hbw hb;clear hb;have g0:w3.cell? ⟨b,off,none⟩=some (.int .u32 f0_5):=(hbw.cell (p:=⟨b,off,none⟩) hBl).trans G0.out;have g1:w3.cell? ⟨b,off+1,none⟩=some (.int .u32 f5_5):=(hbw.cell (p:=⟨b,off+1,none⟩) hBl).trans G1.out;have g2:w3.cell? ⟨b,off+2,none⟩=some (.int .u32 f10_6):=(hbw.cell (p:=⟨b,off+2,none⟩) hBl).trans G2.out;have g3:w3.cell? ⟨b,off+3,none⟩=some (.int .u32 f16_5):=(hbw.cell (p:=⟨b,off+3,none⟩) hBl).trans G3.out;have g4:w3.cell? ⟨b,off+4,none⟩=some (.int .u32 f22_2):=(hbw.cell (p:=⟨b,off+4,none⟩) hBl).trans G4.out;obtain ⟨y0,yq0,y1,yq1,y2,yq2,y3,yq3,y4,yq4,y5,yq5,y6,yq6,y7,yq7,y8,yq8,y9,yq9⟩:=ten (.int .i64 o) (.int .i64 f0_5) (.int .i64 0) (.int .i64 0) (.int .i64 0) (.int .i64 0) (.int .u64 0) (.int .i64 0) (.int .i64 0) (.int .i64 0) he;obtain ⟨z0,zq0,z1,zq1,z2,zq2,z3,zq3,z4,zq4,z5,zq5,z6,zq6,z7,zq7,z8,zq8,z9,zq9⟩:=ten0 hz;clear hz he)))
 all_goals
  refine bodyPost_ret (v:=inV _) (by simp [results,Tryz.results143,go_sem, *]) rfl ⟨rfl,?_⟩
  repeat' (first | (with_reducible exact hbw) | (with_reducible exact Nat.le_refl _) | (with_reducible exact Nat.le_succ _) | (with_reducible refine below_drewN ?_ _) | (with_reducible refine Below.drew ?_) | (with_reducible refine bel_set ?_ ?_) | (with_reducible refine bel_alloc ?_ _))
theorem rof6 (o:Int) (x:Nat) (hx:x < 4294967296) (hs:shapeI o=6) (a:Option Addr) (c:Nat) (w:World) (h:SL encU 1 w w.heap.size a 4 [fw x 0 5,fw x 5 5,fw x 10 5,fw x 16 5]):Calls Tryz.prog 143 #[.int .i64 o,.slice a 4 c] w (RetB (inV (decW o 6 x)) w):=by
 obtain ⟨HSh,HHd,HHn⟩:=pre3 o 6 6 rfl true true hs (by decide) rfl rfl
 have HD:Hid (decW o 6 x=⟨o,(fw x 0 5),(fw x 5 5),(fw x 16 5),(fw x 10 5),0,0,0,0,0⟩):=Lib.hid rfl
 have hb0_5:=fw_lt x 0 5
 have hb5_5:=fw_lt x 5 5
 have hb10_5:=fw_lt x 10 5
 have hb16_5:=fw_lt x 16 5
 generalize fw x 0 5=f0_5 at*
 generalize fw x 5 5=f5_5 at*
 generalize fw x 10 5=f10_5 at*
 generalize fw x 16 5=f16_5 at*
 simp only [Int.reducePow] at hb0_5 hb5_5 hb10_5 hb16_5
 obtain ⟨b,off,rfl,hBl,hc⟩:=h.cells (by simp)
 have g0:w.cell? ⟨b,off,none⟩=some (.int .u32 f0_5):=hc 0 (by simp) 0 (by decide)
 have g1:w.cell? ⟨b,off+1,none⟩=some (.int .u32 f5_5):=hc 1 (by simp) 0 (by decide)
 have g2:w.cell? ⟨b,off+2,none⟩=some (.int .u32 f10_5):=hc 2 (by simp) 0 (by decide)
 have g3:w.cell? ⟨b,off+3,none⟩=some (.int .u32 f16_5):=hc 3 (by simp) 0 (by decide)
 clear hc h
 have hZ:∀ w,(zeroValue 188).run Tryz.prog w=.ok (.agg (inC inZ)) w:=fun w=>by kernel_rfl
 clear hs
 rw [HD.out]
 have G0:=Lib.hid g0
 have G1:=Lib.hid g1
 have G2:=Lib.hid g2
 have G3:=Lib.hid g3
 go_enter Tryz.func143,Tryz.ntmps143
 go_wp2_with (first | (go_at_call 141;((with_reducible refine (HSh.out _).mono ?_);rintro e w1 ⟨rfl,hb⟩;obtain ⟨hz,he,hbw⟩:=res_blocks hb;clear hb)) | (go_at_call 162;((with_reducible refine (HHd.out _).mono ?_);rintro e w2 ⟨rfl,hb⟩;obtain ⟨hz,he,hbw⟩:=kp3 hz he hbw hb;clear hb;have g0:w2.cell? ⟨b,off,none⟩=some (.int .u32 f0_5):=(hbw.cell (p:=⟨b,off,none⟩) hBl).trans G0.out;have g1:w2.cell? ⟨b,off+1,none⟩=some (.int .u32 f5_5):=(hbw.cell (p:=⟨b,off+1,none⟩) hBl).trans G1.out;have g2:w2.cell? ⟨b,off+2,none⟩=some (.int .u32 f10_5):=(hbw.cell (p:=⟨b,off+2,none⟩) hBl).trans G2.out;have g3:w2.cell? ⟨b,off+3,none⟩=some (.int .u32 f16_5):=(hbw.cell (p:=⟨b,off+3,none⟩) hBl).trans G3.out;have y1:w2.cell? ⟨w.heap.size+1,1,none⟩=some (.int .i64 0):=cel he;have yq1:w2.frozen? ⟨w.heap.size+1,1,none⟩=false:=frz he)) | (go_at_call 162;((with_reducible refine (HHn.out _).mono ?_);rintro e w3 ⟨rfl,hb⟩;replace he:=hset (o:=1) (x:=.int .i64 f0_5) he;replace hz:=(hother (w:=w2) (b:=w.heap.size+1) (o:=1) (x:=.int .i64 f0_5) (c:=w.heap.size) (by omega)).trans hz;replace hbw:=bel_set (o:=1) (u:=.int .i64 f0_5) hbw (show w.heap.size<=w.heap.size+1 by omega);obtain ⟨hz,he,hbw⟩:=kp3 hz he hbw hb;clear hb;have g0:w3.cell? ⟨b,off,none⟩=some (.int .u32 f0_5):=(hbw.cell (p:=⟨b,off,none⟩) hBl).trans G0.out;have g1:w3.cell? ⟨b,off+1,none⟩=some (.int .u32 f5_5):=(hbw.cell (p:=⟨b,off+1,none⟩) hBl).trans G1.out;have g2:w3.cell? ⟨b,off+2,none⟩=some (.int .u32 f10_5):=(hbw.cell (p:=⟨b,off+2,none⟩) hBl).trans G2.out;have g3:w3.cell? ⟨b,off+3,none⟩=some (.int .u32 f16_5):=(hbw.cell (p:=⟨b,off+3,none⟩) hBl).trans G3.out;obtain ⟨y0,yq0,y1,yq1,y2,yq2,y3,yq3,y4,yq4,y5,yq5,y6,yq6,y7,yq7,y8,yq8,y9,yq9⟩:=ten (.int .i64 o) (.int .i64 f0_5) (.int .i64 0) (.int .i64 0) (.int .i64 0) (.int .i64 0) (.int .u64 0) (.int .i64 0) (.int .i64 0) (.int .i64 0) he;obtain ⟨z0,zq0,z1,zq1,z2,zq2,z3,zq3,z4,zq4,z5,zq5,z6,zq6,z7,zq7,z8,zq8,z9,zq9⟩:=ten0 hz;clear hz he)))
 all_goals
  refine bodyPost_ret (v:=inV _) (by simp [results,Tryz.results143,go_sem, *]) rfl ⟨rfl,?_⟩
  repeat' (first | (with_reducible exact hbw) | (with_reducible exact Nat.le_refl _) | (with_reducible exact Nat.le_succ _) | (with_reducible refine below_drewN ?_ _) | (with_reducible refine Below.drew ?_) | (with_reducible refine bel_set ?_ ?_) | (with_reducible refine bel_alloc ?_ _))
theorem rof7 (o:Int) (x:Nat) (hx:x < 4294967296) (hs:shapeI o=7) (a:Option Addr) (c:Nat) (w:World) (h:SL encU 1 w w.heap.size a 3 [fw x 0 5,fw x 5 5,fw x 10 12]):Calls Tryz.prog 143 #[.int .i64 o,.slice a 3 c] w (RetB (inV (decW o 7 x)) w):=by
 obtain ⟨HSh,HHd,HHn⟩:=pre3 o 7 7 rfl true true hs (by decide) rfl rfl
 have HD:Hid (decW o 7 x=⟨o,(fw x 0 5),(fw x 5 5),0,0,(8*(fw x 10 12)),0,0,0,0⟩):=Lib.hid rfl
 have hb0_5:=fw_lt x 0 5
 have hb5_5:=fw_lt x 5 5
 have hb10_12:=fw_lt x 10 12
 generalize fw x 0 5=f0_5 at*
 generalize fw x 5 5=f5_5 at*
 generalize fw x 10 12=f10_12 at*
 simp only [Int.reducePow] at hb0_5 hb5_5 hb10_12
 obtain ⟨b,off,rfl,hBl,hc⟩:=h.cells (by simp)
 have g0:w.cell? ⟨b,off,none⟩=some (.int .u32 f0_5):=hc 0 (by simp) 0 (by decide)
 have g1:w.cell? ⟨b,off+1,none⟩=some (.int .u32 f5_5):=hc 1 (by simp) 0 (by decide)
 have g2:w.cell? ⟨b,off+2,none⟩=some (.int .u32 f10_12):=hc 2 (by simp) 0 (by decide)
 clear hc h
 have hZ:∀ w,(zeroValue 188).run Tryz.prog w=.ok (.agg (inC inZ)) w:=fun w=>by kernel_rfl
 clear hs
 rw [HD.out]
 have G0:=Lib.hid g0
 have G1:=Lib.hid g1
 have G2:=Lib.hid g2
 go_enter Tryz.func143,Tryz.ntmps143
 go_wp2_with (first | (go_at_call 141;((with_reducible refine (HSh.out _).mono ?_);rintro e w1 ⟨rfl,hb⟩;obtain ⟨hz,he,hbw⟩:=res_blocks hb;clear hb)) | (go_at_call 162;((with_reducible refine (HHd.out _).mono ?_);rintro e w2 ⟨rfl,hb⟩;obtain ⟨hz,he,hbw⟩:=kp3 hz he hbw hb;clear hb;have g0:w2.cell? ⟨b,off,none⟩=some (.int .u32 f0_5):=(hbw.cell (p:=⟨b,off,none⟩) hBl).trans G0.out;have g1:w2.cell? ⟨b,off+1,none⟩=some (.int .u32 f5_5):=(hbw.cell (p:=⟨b,off+1,none⟩) hBl).trans G1.out;have g2:w2.cell? ⟨b,off+2,none⟩=some (.int .u32 f10_12):=(hbw.cell (p:=⟨b,off+2,none⟩) hBl).trans G2.out;have y1:w2.cell? ⟨w.heap.size+1,1,none⟩=some (.int .i64 0):=cel he;have yq1:w2.frozen? ⟨w.heap.size+1,1,none⟩=false:=frz he)) | (go_at_call 162;((with_reducible refine (HHn.out _).mono ?_);rintro e w3 ⟨rfl,hb⟩;replace he:=hset (o:=1) (x:=.int .i64 f0_5) he;replace hz:=(hother (w:=w2) (b:=w.heap.size+1) (o:=1) (x:=.int .i64 f0_5) (c:=w.heap.size) (by omega)).trans hz;replace hbw:=bel_set (o:=1) (u:=.int .i64 f0_5) hbw (show w.heap.size<=w.heap.size+1 by omega);obtain ⟨hz,he,hbw⟩:=kp3 hz he hbw hb;clear hb;have g0:w3.cell? ⟨b,off,none⟩=some (.int .u32 f0_5):=(hbw.cell (p:=⟨b,off,none⟩) hBl).trans G0.out;have g1:w3.cell? ⟨b,off+1,none⟩=some (.int .u32 f5_5):=(hbw.cell (p:=⟨b,off+1,none⟩) hBl).trans G1.out;have g2:w3.cell? ⟨b,off+2,none⟩=some (.int .u32 f10_12):=(hbw.cell (p:=⟨b,off+2,none⟩) hBl).trans G2.out;obtain ⟨y0,yq0,y1,yq1,y2,yq2,y3,yq3,y4,yq4,y5,yq5,y6,yq6,y7,yq7,y8,yq8,y9,yq9⟩:=ten (.int .i64 o) (.int .i64 f0_5) (.int .i64 0) (.int .i64 0) (.int .i64 0) (.int .i64 0) (.int .u64 0) (.int .i64 0) (.int .i64 0) (.int .i64 0) he;obtain ⟨z0,zq0,z1,zq1,z2,zq2,z3,zq3,z4,zq4,z5,zq5,z6,zq6,z7,zq7,z8,zq8,z9,zq9⟩:=ten0 hz;clear hz he)))
 all_goals
  refine bodyPost_ret (v:=inV _) (by simp [results,Tryz.results143,go_sem, *]) rfl ⟨rfl,?_⟩
  repeat' (first | (with_reducible exact hbw) | (with_reducible exact Nat.le_refl _) | (with_reducible exact Nat.le_succ _) | (with_reducible refine below_drewN ?_ _) | (with_reducible refine Below.drew ?_) | (with_reducible refine bel_set ?_ ?_) | (with_reducible refine bel_alloc ?_ _))
theorem rof8 (o:Int) (x:Nat) (hx:x < 4294967296) (hs:shapeI o=8) (a:Option Addr) (c:Nat) (w:World) (h:SL encU 1 w w.heap.size a 3 [fw x 0 5,fw x 5 5,fw x 10 12]):Calls Tryz.prog 143 #[.int .i64 o,.slice a 3 c] w (RetB (inV (decW o 8 x)) w):=by
 obtain ⟨HSh,HHd,HHn⟩:=pre3 o 8 8 rfl true true hs (by decide) rfl rfl
 have HD:Hid (decW o 8 x=⟨o,(fw x 0 5),(fw x 5 5),0,0,(fw x 10 12),0,0,0,0⟩):=Lib.hid rfl
 have hb0_5:=fw_lt x 0 5
 have hb5_5:=fw_lt x 5 5
 have hb10_12:=fw_lt x 10 12
 generalize fw x 0 5=f0_5 at*
 generalize fw x 5 5=f5_5 at*
 generalize fw x 10 12=f10_12 at*
 simp only [Int.reducePow] at hb0_5 hb5_5 hb10_12
 obtain ⟨b,off,rfl,hBl,hc⟩:=h.cells (by simp)
 have g0:w.cell? ⟨b,off,none⟩=some (.int .u32 f0_5):=hc 0 (by simp) 0 (by decide)
 have g1:w.cell? ⟨b,off+1,none⟩=some (.int .u32 f5_5):=hc 1 (by simp) 0 (by decide)
 have g2:w.cell? ⟨b,off+2,none⟩=some (.int .u32 f10_12):=hc 2 (by simp) 0 (by decide)
 clear hc h
 have hZ:∀ w,(zeroValue 188).run Tryz.prog w=.ok (.agg (inC inZ)) w:=fun w=>by kernel_rfl
 clear hs
 rw [HD.out]
 have G0:=Lib.hid g0
 have G1:=Lib.hid g1
 have G2:=Lib.hid g2
 go_enter Tryz.func143,Tryz.ntmps143
 go_wp2_with (first | (go_at_call 141;((with_reducible refine (HSh.out _).mono ?_);rintro e w1 ⟨rfl,hb⟩;obtain ⟨hz,he,hbw⟩:=res_blocks hb;clear hb)) | (go_at_call 162;((with_reducible refine (HHd.out _).mono ?_);rintro e w2 ⟨rfl,hb⟩;obtain ⟨hz,he,hbw⟩:=kp3 hz he hbw hb;clear hb;have g0:w2.cell? ⟨b,off,none⟩=some (.int .u32 f0_5):=(hbw.cell (p:=⟨b,off,none⟩) hBl).trans G0.out;have g1:w2.cell? ⟨b,off+1,none⟩=some (.int .u32 f5_5):=(hbw.cell (p:=⟨b,off+1,none⟩) hBl).trans G1.out;have g2:w2.cell? ⟨b,off+2,none⟩=some (.int .u32 f10_12):=(hbw.cell (p:=⟨b,off+2,none⟩) hBl).trans G2.out;have y1:w2.cell? ⟨w.heap.size+1,1,none⟩=some (.int .i64 0):=cel he;have yq1:w2.frozen? ⟨w.heap.size+1,1,none⟩=false:=frz he)) | (go_at_call 162;((with_reducible refine (HHn.out _).mono ?_);rintro e w3 ⟨rfl,hb⟩;replace he:=hset (o:=1) (x:=.int .i64 f0_5) he;replace hz:=(hother (w:=w2) (b:=w.heap.size+1) (o:=1) (x:=.int .i64 f0_5) (c:=w.heap.size) (by omega)).trans hz;replace hbw:=bel_set (o:=1) (u:=.int .i64 f0_5) hbw (show w.heap.size<=w.heap.size+1 by omega);obtain ⟨hz,he,hbw⟩:=kp3 hz he hbw hb;clear hb;have g0:w3.cell? ⟨b,off,none⟩=some (.int .u32 f0_5):=(hbw.cell (p:=⟨b,off,none⟩) hBl).trans G0.out;have g1:w3.cell? ⟨b,off+1,none⟩=some (.int .u32 f5_5):=(hbw.cell (p:=⟨b,off+1,none⟩) hBl).trans G1.out;have g2:w3.cell? ⟨b,off+2,none⟩=some (.int .u32 f10_12):=(hbw.cell (p:=⟨b,off+2,none⟩) hBl).trans G2.out;obtain ⟨y0,yq0,y1,yq1,y2,yq2,y3,yq3,y4,yq4,y5,yq5,y6,yq6,y7,yq7,y8,yq8,y9,yq9⟩:=ten (.int .i64 o) (.int .i64 f0_5) (.int .i64 0) (.int .i64 0) (.int .i64 0) (.int .i64 0) (.int .u64 0) (.int .i64 0) (.int .i64 0) (.int .i64 0) he;obtain ⟨z0,zq0,z1,zq1,z2,zq2,z3,zq3,z4,zq4,z5,zq5,z6,zq6,z7,zq7,z8,zq8,z9,zq9⟩:=ten0 hz;clear hz he)))
 all_goals
  refine bodyPost_ret (v:=inV _) (by simp [results,Tryz.results143,go_sem, *]) rfl ⟨rfl,?_⟩
  repeat' (first | (with_reducible exact hbw) | (with_reducible exact Nat.le_refl _) | (with_reducible exact Nat.le_succ _) | (with_reducible refine below_drewN ?_ _) | (with_reducible refine Below.drew ?_) | (with_reducible refine bel_set ?_ ?_) | (with_reducible refine bel_alloc ?_ _))
theorem rof9 (o:Int) (x:Nat) (hx:x < 4294967296) (hs:shapeI o=9) (a:Option Addr) (c:Nat) (w:World) (h:SL encU 1 w w.heap.size a 2 [fw x 0 5,fw x 5 19]):Calls Tryz.prog 143 #[.int .i64 o,.slice a 2 c] w (RetB (inV (decW o 9 x)) w):=by
 obtain ⟨HSh,HHd,HHn⟩:=pre3 o 9 9 rfl true false hs (by decide) rfl rfl
 have HD:Hid (decW o 9 x=⟨o,(fw x 0 5),0,0,0,(4*(sgn (fw x 5 19) 19).1),0,0,0,0⟩):=Lib.hid rfl
 have hb0_5:=fw_lt x 0 5
 have hb5_19:=fw_lt x 5 19
 have hsb:=sgn19 (v:=fw x 5 19) (by have:=fw_lt x 5 19;simpa using this)
 have HS:Hid (∀ w,Calls Tryz.prog 164 #[.int .u32 (fw x 5 19),.int .i64 19] w (Ret (.int .i64 (sgn (fw x 5 19) 19).1) w)):=Lib.hid fun w=>rsigned_any _ _ w (by have:=fw_u32 x 5 19 (by decide);omega) (by have:=fw_u32 x 5 19 (by decide);omega)
 generalize (sgn (fw x 5 19) 19).1=sg at*
 generalize fw x 0 5=f0_5 at*
 generalize fw x 5 19=f5_19 at*
 simp only [Int.reducePow] at hb0_5 hb5_19
 obtain ⟨b,off,rfl,hBl,hc⟩:=h.cells (by simp)
 have g0:w.cell? ⟨b,off,none⟩=some (.int .u32 f0_5):=hc 0 (by simp) 0 (by decide)
 have g1:w.cell? ⟨b,off+1,none⟩=some (.int .u32 f5_19):=hc 1 (by simp) 0 (by decide)
 clear hc h
 have hZ:∀ w,(zeroValue 188).run Tryz.prog w=.ok (.agg (inC inZ)) w:=fun w=>by kernel_rfl
 clear hs
 rw [HD.out]
 have G0:=Lib.hid g0
 have G1:=Lib.hid g1
 go_enter Tryz.func143,Tryz.ntmps143
 go_wp2_with (first | (go_at_call 141;((with_reducible refine (HSh.out _).mono ?_);rintro e w1 ⟨rfl,hb⟩;obtain ⟨hz,he,hbw⟩:=res_blocks hb;clear hb)) | (go_at_call 162;((with_reducible refine (HHd.out _).mono ?_);rintro e w2 ⟨rfl,hb⟩;obtain ⟨hz,he,hbw⟩:=kp3 hz he hbw hb;clear hb;have g0:w2.cell? ⟨b,off,none⟩=some (.int .u32 f0_5):=(hbw.cell (p:=⟨b,off,none⟩) hBl).trans G0.out;have g1:w2.cell? ⟨b,off+1,none⟩=some (.int .u32 f5_19):=(hbw.cell (p:=⟨b,off+1,none⟩) hBl).trans G1.out;have y1:w2.cell? ⟨w.heap.size+1,1,none⟩=some (.int .i64 0):=cel he;have yq1:w2.frozen? ⟨w.heap.size+1,1,none⟩=false:=frz he)) | (go_at_call 162;((with_reducible refine (HHn.out _).mono ?_);rintro e w3 ⟨rfl,hb⟩;replace he:=hset (o:=1) (x:=.int .i64 f0_5) he;replace hz:=(hother (w:=w2) (b:=w.heap.size+1) (o:=1) (x:=.int .i64 f0_5) (c:=w.heap.size) (by omega)).trans hz;replace hbw:=bel_set (o:=1) (u:=.int .i64 f0_5) hbw (show w.heap.size<=w.heap.size+1 by omega);obtain ⟨hz,he,hbw⟩:=kp3 hz he hbw hb;clear hb;have g0:w3.cell? ⟨b,off,none⟩=some (.int .u32 f0_5):=(hbw.cell (p:=⟨b,off,none⟩) hBl).trans G0.out;have g1:w3.cell? ⟨b,off+1,none⟩=some (.int .u32 f5_19):=(hbw.cell (p:=⟨b,off+1,none⟩) hBl).trans G1.out;obtain ⟨y0,yq0,y1,yq1,y2,yq2,y3,yq3,y4,yq4,y5,yq5,y6,yq6,y7,yq7,y8,yq8,y9,yq9⟩:=ten (.int .i64 o) (.int .i64 f0_5) (.int .i64 0) (.int .i64 0) (.int .i64 0) (.int .i64 0) (.int .u64 0) (.int .i64 0) (.int .i64 0) (.int .i64 0) he;obtain ⟨z0,zq0,z1,zq1,z2,zq2,z3,zq3,z4,zq4,z5,zq5,z6,zq6,z7,zq7,z8,zq8,z9,zq9⟩:=ten0 hz;clear hz he)) | (go_at_call 164;((with_reducible refine (HS.out _).mono ?_);rintro e w' ⟨rfl,rfl⟩)))
 all_goals
  refine bodyPost_ret (v:=inV _) (by simp [results,Tryz.results143,go_sem, *]) rfl ⟨rfl,?_⟩
  repeat' (first | (with_reducible exact hbw) | (with_reducible exact Nat.le_refl _) | (with_reducible exact Nat.le_succ _) | (with_reducible refine below_drewN ?_ _) | (with_reducible refine Below.drew ?_) | (with_reducible refine bel_set ?_ ?_) | (with_reducible refine bel_alloc ?_ _))
theorem rof10 (o:Int) (x:Nat) (hx:x < 4294967296) (hs:shapeI o=10) (a:Option Addr) (c:Nat) (w:World) (h:SL encU 1 w w.heap.size a 3 [fw x 0 5,fw x 5 19,fw x 29 2]):Calls Tryz.prog 143 #[.int .i64 o,.slice a 3 c] w (RetB (inV (decW o 10 x)) w):=by
 obtain ⟨HSh,HHd,HHn⟩:=pre3 o 10 10 rfl true false hs (by decide) rfl rfl
 have HD:Hid (decW o 10 x=⟨o,(fw x 0 5),0,0,0,(4*(sgn (fw x 5 19) 19).1+(fw x 29 2)),0,0,0,0⟩):=Lib.hid rfl
 have hb1:=fw_lt x 5 19
 have hb2:=fw_lt x 29 2
 have e21:=sgn21 (a:=fw x 5 19) (b:=fw x 29 2) hb1.1 (by simpa using hb1.2) hb2.1 (by simpa using hb2.2)
 have HD2:Hid (decW o 10 x=⟨o,fw x 0 5,0,0,0,(sgn (4*fw x 5 19+fw x 29 2) 21).1,0,0,0,0⟩):=Lib.hid (by rw [HD.out,e21])
 clear e21 hb1 hb2
 have hb0_5:=fw_lt x 0 5
 have hb5_19:=fw_lt x 5 19
 have hb29_2:=fw_lt x 29 2
 have HS:Hid (∀ w,Calls Tryz.prog 164 #[.int .u32 (4*fw x 5 19+fw x 29 2),.int .i64 21] w (Ret (.int .i64 (sgn (4*fw x 5 19+fw x 29 2) 21).1) w)):=Lib.hid fun w=>rsigned_any _ _ w (by have:=fw_lt x 5 19;have:=fw_lt x 29 2;simp only [Int.reducePow] at *;omega) (by have:=fw_lt x 5 19;have:=fw_lt x 29 2;simp only [Int.reducePow] at *;omega)
 have HS2:Hid (∀ w,Calls Tryz.prog 164 #[.int .u32 (IntKind.u32.wrap (IntKind.u32.wrap (4*fw x 5 19)+fw x 29 2)),.int .i64 21] w (Ret (.int .i64 (sgn (4*fw x 5 19+fw x 29 2) 21).1) w)):=Lib.hid fun w=>by
  have e:IntKind.u32.wrap (IntKind.u32.wrap (4*fw x 5 19)+fw x 29 2)=4*fw x 5 19+fw x 29 2:=by
   have:=fw_lt x 5 19
   have:=fw_lt x 29 2
   simp only [Int.reducePow] at*
   simp only [IntKind.wrap_u32]
   omega
  rw [e];exact HS.out w
 generalize (sgn (4*fw x 5 19+fw x 29 2) 21).1=sg at*
 generalize fw x 0 5=f0_5 at*
 generalize fw x 5 19=f5_19 at*
 generalize fw x 29 2=f29_2 at*
 simp only [Int.reducePow] at hb0_5 hb5_19 hb29_2
 obtain ⟨b,off,rfl,hBl,hc⟩:=h.cells (by simp)
 have g0:w.cell? ⟨b,off,none⟩=some (.int .u32 f0_5):=hc 0 (by simp) 0 (by decide)
 have g1:w.cell? ⟨b,off+1,none⟩=some (.int .u32 f5_19):=hc 1 (by simp) 0 (by decide)
 have g2:w.cell? ⟨b,off+2,none⟩=some (.int .u32 f29_2):=hc 2 (by simp) 0 (by decide)
 clear hc h
 have hZ:∀ w,(zeroValue 188).run Tryz.prog w=.ok (.agg (inC inZ)) w:=fun w=>by kernel_rfl
 clear hs
 rw [HD2.out]
 have G0:=Lib.hid g0
 have G1:=Lib.hid g1
 have G2:=Lib.hid g2
 go_enter Tryz.func143,Tryz.ntmps143
 go_wp2_with (first | (go_at_call 141;((with_reducible refine (HSh.out _).mono ?_);rintro e w1 ⟨rfl,hb⟩;obtain ⟨hz,he,hbw⟩:=res_blocks hb;clear hb)) | (go_at_call 162;((with_reducible refine (HHd.out _).mono ?_);rintro e w2 ⟨rfl,hb⟩;obtain ⟨hz,he,hbw⟩:=kp3 hz he hbw hb;clear hb;have g0:w2.cell? ⟨b,off,none⟩=some (.int .u32 f0_5):=(hbw.cell (p:=⟨b,off,none⟩) hBl).trans G0.out;have g1:w2.cell? ⟨b,off+1,none⟩=some (.int .u32 f5_19):=(hbw.cell (p:=⟨b,off+1,none⟩) hBl).trans G1.out;have g2:w2.cell? ⟨b,off+2,none⟩=some (.int .u32 f29_2):=(hbw.cell (p:=⟨b,off+2,none⟩) hBl).trans G2.out;have y1:w2.cell? ⟨w.heap.size+1,1,none⟩=some (.int .i64 0):=cel he;have yq1:w2.frozen? ⟨w.heap.size+1,1,none⟩=false:=frz he)) | (go_at_call 162;((with_reducible refine (HHn.out _).mono ?_);rintro e w3 ⟨rfl,hb⟩;replace he:=hset (o:=1) (x:=.int .i64 f0_5) he;replace hz:=(hother (w:=w2) (b:=w.heap.size+1) (o:=1) (x:=.int .i64 f0_5) (c:=w.heap.size) (by omega)).trans hz;replace hbw:=bel_set (o:=1) (u:=.int .i64 f0_5) hbw (show w.heap.size<=w.heap.size+1 by omega);obtain ⟨hz,he,hbw⟩:=kp3 hz he hbw hb;clear hb;have g0:w3.cell? ⟨b,off,none⟩=some (.int .u32 f0_5):=(hbw.cell (p:=⟨b,off,none⟩) hBl).trans G0.out;have g1:w3.cell? ⟨b,off+1,none⟩=some (.int .u32 f5_19):=(hbw.cell (p:=⟨b,off+1,none⟩) hBl).trans G1.out;have g2:w3.cell? ⟨b,off+2,none⟩=some (.int .u32 f29_2):=(hbw.cell (p:=⟨b,off+2,none⟩) hBl).trans G2.out;obtain ⟨y0,yq0,y1,yq1,y2,yq2,y3,yq3,y4,yq4,y5,yq5,y6,yq6,y7,yq7,y8,yq8,y9,yq9⟩:=ten (.int .i64 o) (.int .i64 f0_5) (.int .i64 0) (.int .i64 0) (.int .i64 0) (.int .i64 0) (.int .u64 0) (.int .i64 0) (.int .i64 0) (.int .i64 0) he;obtain ⟨z0,zq0,z1,zq1,z2,zq2,z3,zq3,z4,zq4,z5,zq5,z6,zq6,z7,zq7,z8,zq8,z9,zq9⟩:=ten0 hz;clear hz he)) | (go_at_call 164;((with_reducible refine (HS.out _).mono ?_);rintro e w' ⟨rfl,rfl⟩)))
 first
 | (go_region_with (first | (go_at_call 164;((with_reducible refine (HS.out _).mono ?_);rintro e w' ⟨rfl,rfl⟩)) | (go_at_call 164;((with_reducible refine (HS2.out _).mono ?_);rintro e w' ⟨rfl,rfl⟩))))
 | fail
 all_goals go_wp2
 all_goals
  refine bodyPost_ret (v:=inV _) (by simp [results,Tryz.results143,go_sem, *]) rfl ⟨rfl,?_⟩
  repeat' (first | (with_reducible exact hbw) | (with_reducible exact Nat.le_refl _) | (with_reducible exact Nat.le_succ _) | (with_reducible refine below_drewN ?_ _) | (with_reducible refine Below.drew ?_) | (with_reducible refine bel_set ?_ ?_) | (with_reducible refine bel_alloc ?_ _))
theorem rof11 (o:Int) (x:Nat) (hx:x < 4294967296) (hs:shapeI o=11) (a:Option Addr) (c:Nat) (w:World) (h:SL encU 1 w w.heap.size a 1 [fw x 0 26]):Calls Tryz.prog 143 #[.int .i64 o,.slice a 1 c] w (RetB (inV (decW o 11 x)) w):=by
 obtain ⟨HSh,HHd,HHn⟩:=pre3 o 11 11 rfl false false hs (by decide) rfl rfl
 have HD:Hid (decW o 11 x=⟨o,0,0,0,0,(4*(sgn (fw x 0 26) 26).1),0,0,0,0⟩):=Lib.hid rfl
 have hb0_26:=fw_lt x 0 26
 have hsb:=sgn26 (v:=fw x 0 26) (by have:=fw_lt x 0 26;simpa using this)
 have HS:Hid (∀ w,Calls Tryz.prog 164 #[.int .u32 (fw x 0 26),.int .i64 26] w (Ret (.int .i64 (sgn (fw x 0 26) 26).1) w)):=Lib.hid fun w=>rsigned_any _ _ w (by have:=fw_u32 x 0 26 (by decide);omega) (by have:=fw_u32 x 0 26 (by decide);omega)
 generalize (sgn (fw x 0 26) 26).1=sg at*
 generalize fw x 0 26=f0_26 at*
 simp only [Int.reducePow] at hb0_26
 obtain ⟨b,off,rfl,hBl,hc⟩:=h.cells (by simp)
 have g0:w.cell? ⟨b,off,none⟩=some (.int .u32 f0_26):=hc 0 (by simp) 0 (by decide)
 clear hc h
 have hZ:∀ w,(zeroValue 188).run Tryz.prog w=.ok (.agg (inC inZ)) w:=fun w=>by kernel_rfl
 clear hs
 rw [HD.out]
 have G0:=Lib.hid g0
 go_enter Tryz.func143,Tryz.ntmps143
 go_wp2_with (first | (go_at_call 141;((with_reducible refine (HSh.out _).mono ?_);rintro e w1 ⟨rfl,hb⟩;obtain ⟨hz,he,hbw⟩:=res_blocks hb;clear hb)) | (go_at_call 162;((with_reducible refine (HHd.out _).mono ?_);rintro e w2 ⟨rfl,hb⟩;obtain ⟨hz,he,hbw⟩:=kp3 hz he hbw hb;clear hb;have y1:w2.cell? ⟨w.heap.size+1,1,none⟩=some (.int .i64 0):=cel he;have yq1:w2.frozen? ⟨w.heap.size+1,1,none⟩=false:=frz he)) | (go_at_call 162;((with_reducible refine (HHn.out _).mono ?_);rintro e w3 ⟨rfl,hb⟩;obtain ⟨hz,he,hbw⟩:=kp3 hz he hbw hb;clear hb;have g0:w3.cell? ⟨b,off,none⟩=some (.int .u32 f0_26):=(hbw.cell (p:=⟨b,off,none⟩) hBl).trans G0.out;obtain ⟨y0,yq0,y1,yq1,y2,yq2,y3,yq3,y4,yq4,y5,yq5,y6,yq6,y7,yq7,y8,yq8,y9,yq9⟩:=ten (.int .i64 o) (.int .i64 0) (.int .i64 0) (.int .i64 0) (.int .i64 0) (.int .i64 0) (.int .u64 0) (.int .i64 0) (.int .i64 0) (.int .i64 0) he;obtain ⟨z0,zq0,z1,zq1,z2,zq2,z3,zq3,z4,zq4,z5,zq5,z6,zq6,z7,zq7,z8,zq8,z9,zq9⟩:=ten0 hz;clear hz he)) | (go_at_call 164;((with_reducible refine (HS.out _).mono ?_);rintro e w' ⟨rfl,rfl⟩)))
 all_goals
  refine bodyPost_ret (v:=inV _) (by simp [results,Tryz.results143,go_sem, *]) rfl ⟨rfl,?_⟩
  repeat' (first | (with_reducible exact hbw) | (with_reducible exact Nat.le_refl _) | (with_reducible exact Nat.le_succ _) | (with_reducible refine below_drewN ?_ _) | (with_reducible refine Below.drew ?_) | (with_reducible refine bel_set ?_ ?_) | (with_reducible refine bel_alloc ?_ _))
theorem rof12 (o:Int) (x:Nat) (hx:x < 4294967296) (hs:shapeI o=12) (a:Option Addr) (c:Nat) (w:World) (h:SL encU 1 w w.heap.size a 2 [fw x 0 4,fw x 5 19]):Calls Tryz.prog 143 #[.int .i64 o,.slice a 2 c] w (RetB (inV (decW o 12 x)) w):=by
 obtain ⟨HSh,HHd,HHn⟩:=pre3 o 12 12 rfl false false hs (by decide) rfl rfl
 have HD:Hid (decW o 12 x=⟨o,0,0,0,0,(4*(sgn (fw x 5 19) 19).1),0,0,0,(fw x 0 4)⟩):=Lib.hid rfl
 have hb0_4:=fw_lt x 0 4
 have hb5_19:=fw_lt x 5 19
 have hsb:=sgn19 (v:=fw x 5 19) (by have:=fw_lt x 5 19;simpa using this)
 have HS:Hid (∀ w,Calls Tryz.prog 164 #[.int .u32 (fw x 5 19),.int .i64 19] w (Ret (.int .i64 (sgn (fw x 5 19) 19).1) w)):=Lib.hid fun w=>rsigned_any _ _ w (by have:=fw_u32 x 5 19 (by decide);omega) (by have:=fw_u32 x 5 19 (by decide);omega)
 generalize (sgn (fw x 5 19) 19).1=sg at*
 generalize fw x 0 4=f0_4 at*
 generalize fw x 5 19=f5_19 at*
 simp only [Int.reducePow] at hb0_4 hb5_19
 obtain ⟨b,off,rfl,hBl,hc⟩:=h.cells (by simp)
 have g0:w.cell? ⟨b,off,none⟩=some (.int .u32 f0_4):=hc 0 (by simp) 0 (by decide)
 have g1:w.cell? ⟨b,off+1,none⟩=some (.int .u32 f5_19):=hc 1 (by simp) 0 (by decide)
 clear hc h
 have hZ:∀ w,(zeroValue 188).run Tryz.prog w=.ok (.agg (inC inZ)) w:=fun w=>by kernel_rfl
 clear hs
 rw [HD.out]
 have G0:=Lib.hid g0
 have G1:=Lib.hid g1
 go_enter Tryz.func143,Tryz.ntmps143
 go_wp2_with (first | (go_at_call 141;((with_reducible refine (HSh.out _).mono ?_);rintro e w1 ⟨rfl,hb⟩;obtain ⟨hz,he,hbw⟩:=res_blocks hb;clear hb)) | (go_at_call 162;((with_reducible refine (HHd.out _).mono ?_);rintro e w2 ⟨rfl,hb⟩;obtain ⟨hz,he,hbw⟩:=kp3 hz he hbw hb;clear hb;have y1:w2.cell? ⟨w.heap.size+1,1,none⟩=some (.int .i64 0):=cel he;have yq1:w2.frozen? ⟨w.heap.size+1,1,none⟩=false:=frz he)) | (go_at_call 162;((with_reducible refine (HHn.out _).mono ?_);rintro e w3 ⟨rfl,hb⟩;obtain ⟨hz,he,hbw⟩:=kp3 hz he hbw hb;clear hb;have g0:w3.cell? ⟨b,off,none⟩=some (.int .u32 f0_4):=(hbw.cell (p:=⟨b,off,none⟩) hBl).trans G0.out;have g1:w3.cell? ⟨b,off+1,none⟩=some (.int .u32 f5_19):=(hbw.cell (p:=⟨b,off+1,none⟩) hBl).trans G1.out;obtain ⟨y0,yq0,y1,yq1,y2,yq2,y3,yq3,y4,yq4,y5,yq5,y6,yq6,y7,yq7,y8,yq8,y9,yq9⟩:=ten (.int .i64 o) (.int .i64 0) (.int .i64 0) (.int .i64 0) (.int .i64 0) (.int .i64 0) (.int .u64 0) (.int .i64 0) (.int .i64 0) (.int .i64 0) he;obtain ⟨z0,zq0,z1,zq1,z2,zq2,z3,zq3,z4,zq4,z5,zq5,z6,zq6,z7,zq7,z8,zq8,z9,zq9⟩:=ten0 hz;clear hz he)) | (go_at_call 164;((with_reducible refine (HS.out _).mono ?_);rintro e w' ⟨rfl,rfl⟩)))
 all_goals
  refine bodyPost_ret (v:=inV _) (by simp [results,Tryz.results143,go_sem, *]) rfl ⟨rfl,?_⟩
  repeat' (first | (with_reducible exact hbw) | (with_reducible exact Nat.le_refl _) | (with_reducible exact Nat.le_succ _) | (with_reducible refine below_drewN ?_ _) | (with_reducible refine Below.drew ?_) | (with_reducible refine bel_set ?_ ?_) | (with_reducible refine bel_alloc ?_ _))
theorem rof13 (o:Int) (x:Nat) (hx:x < 4294967296) (hs:shapeI o=13) (a:Option Addr) (c:Nat) (w:World) (h:SL encU 1 w w.heap.size a 1 [fw x 5 5]):Calls Tryz.prog 143 #[.int .i64 o,.slice a 1 c] w (RetB (inV (decW o 13 x)) w):=by
 obtain ⟨HSh,HHd,HHn⟩:=pre3 o 13 13 rfl false true hs (by decide) rfl rfl
 have HD:Hid (decW o 13 x=⟨o,0,(fw x 5 5),0,0,0,0,0,0,0⟩):=Lib.hid rfl
 have hb5_5:=fw_lt x 5 5
 generalize fw x 5 5=f5_5 at*
 simp only [Int.reducePow] at hb5_5
 obtain ⟨b,off,rfl,hBl,hc⟩:=h.cells (by simp)
 have g0:w.cell? ⟨b,off,none⟩=some (.int .u32 f5_5):=hc 0 (by simp) 0 (by decide)
 clear hc h
 have hZ:∀ w,(zeroValue 188).run Tryz.prog w=.ok (.agg (inC inZ)) w:=fun w=>by kernel_rfl
 clear hs
 rw [HD.out]
 have G0:=Lib.hid g0
 go_enter Tryz.func143,Tryz.ntmps143
 go_wp2_with (first | (go_at_call 141;((with_reducible refine (HSh.out _).mono ?_);rintro e w1 ⟨rfl,hb⟩;obtain ⟨hz,he,hbw⟩:=res_blocks hb;clear hb)) | (go_at_call 162;((with_reducible refine (HHd.out _).mono ?_);rintro e w2 ⟨rfl,hb⟩;obtain ⟨hz,he,hbw⟩:=kp3 hz he hbw hb;clear hb;have y1:w2.cell? ⟨w.heap.size+1,1,none⟩=some (.int .i64 0):=cel he;have yq1:w2.frozen? ⟨w.heap.size+1,1,none⟩=false:=frz he)) | (go_at_call 162;((with_reducible refine (HHn.out _).mono ?_);rintro e w3 ⟨rfl,hb⟩;obtain ⟨hz,he,hbw⟩:=kp3 hz he hbw hb;clear hb;have g0:w3.cell? ⟨b,off,none⟩=some (.int .u32 f5_5):=(hbw.cell (p:=⟨b,off,none⟩) hBl).trans G0.out;obtain ⟨y0,yq0,y1,yq1,y2,yq2,y3,yq3,y4,yq4,y5,yq5,y6,yq6,y7,yq7,y8,yq8,y9,yq9⟩:=ten (.int .i64 o) (.int .i64 0) (.int .i64 0) (.int .i64 0) (.int .i64 0) (.int .i64 0) (.int .u64 0) (.int .i64 0) (.int .i64 0) (.int .i64 0) he;obtain ⟨z0,zq0,z1,zq1,z2,zq2,z3,zq3,z4,zq4,z5,zq5,z6,zq6,z7,zq7,z8,zq8,z9,zq9⟩:=ten0 hz;clear hz he)))
 all_goals
  refine bodyPost_ret (v:=inV _) (by simp [results,Tryz.results143,go_sem, *]) rfl ⟨rfl,?_⟩
  repeat' (first | (with_reducible exact hbw) | (with_reducible exact Nat.le_refl _) | (with_reducible exact Nat.le_succ _) | (with_reducible refine below_drewN ?_ _) | (with_reducible refine Below.drew ?_) | (with_reducible refine bel_set ?_ ?_) | (with_reducible refine bel_alloc ?_ _))
theorem rof14 (o:Int) (x:Nat) (hx:x < 4294967296) (hs:shapeI o=14) (a:Option Addr) (c:Nat) (w:World) (h:SL encU 1 w w.heap.size a 1 [fw x 5 16]):Calls Tryz.prog 143 #[.int .i64 o,.slice a 1 c] w (RetB (inV (decW o 14 x)) w):=by
 obtain ⟨HSh,HHd,HHn⟩:=pre3 o 14 14 rfl false false hs (by decide) rfl rfl
 have HD:Hid (decW o 14 x=⟨o,0,0,0,0,(fw x 5 16),0,0,0,0⟩):=Lib.hid rfl
 have hb5_16:=fw_lt x 5 16
 generalize fw x 5 16=f5_16 at*
 simp only [Int.reducePow] at hb5_16
 obtain ⟨b,off,rfl,hBl,hc⟩:=h.cells (by simp)
 have g0:w.cell? ⟨b,off,none⟩=some (.int .u32 f5_16):=hc 0 (by simp) 0 (by decide)
 clear hc h
 have hZ:∀ w,(zeroValue 188).run Tryz.prog w=.ok (.agg (inC inZ)) w:=fun w=>by kernel_rfl
 clear hs
 rw [HD.out]
 have G0:=Lib.hid g0
 go_enter Tryz.func143,Tryz.ntmps143
 go_wp2_with (first | (go_at_call 141;((with_reducible refine (HSh.out _).mono ?_);rintro e w1 ⟨rfl,hb⟩;obtain ⟨hz,he,hbw⟩:=res_blocks hb;clear hb)) | (go_at_call 162;((with_reducible refine (HHd.out _).mono ?_);rintro e w2 ⟨rfl,hb⟩;obtain ⟨hz,he,hbw⟩:=kp3 hz he hbw hb;clear hb;have y1:w2.cell? ⟨w.heap.size+1,1,none⟩=some (.int .i64 0):=cel he;have yq1:w2.frozen? ⟨w.heap.size+1,1,none⟩=false:=frz he)) | (go_at_call 162;((with_reducible refine (HHn.out _).mono ?_);rintro e w3 ⟨rfl,hb⟩;obtain ⟨hz,he,hbw⟩:=kp3 hz he hbw hb;clear hb;have g0:w3.cell? ⟨b,off,none⟩=some (.int .u32 f5_16):=(hbw.cell (p:=⟨b,off,none⟩) hBl).trans G0.out;obtain ⟨y0,yq0,y1,yq1,y2,yq2,y3,yq3,y4,yq4,y5,yq5,y6,yq6,y7,yq7,y8,yq8,y9,yq9⟩:=ten (.int .i64 o) (.int .i64 0) (.int .i64 0) (.int .i64 0) (.int .i64 0) (.int .i64 0) (.int .u64 0) (.int .i64 0) (.int .i64 0) (.int .i64 0) he;obtain ⟨z0,zq0,z1,zq1,z2,zq2,z3,zq3,z4,zq4,z5,zq5,z6,zq6,z7,zq7,z8,zq8,z9,zq9⟩:=ten0 hz;clear hz he)))
 all_goals
  refine bodyPost_ret (v:=inV _) (by simp [results,Tryz.results143,go_sem, *]) rfl ⟨rfl,?_⟩
  repeat' (first | (with_reducible exact hbw) | (with_reducible exact Nat.le_refl _) | (with_reducible exact Nat.le_succ _) | (with_reducible refine below_drewN ?_ _) | (with_reducible refine Below.drew ?_) | (with_reducible refine bel_set ?_ ?_) | (with_reducible refine bel_alloc ?_ _))
theorem rof15 (o:Int) (x:Nat) (hx:x < 4294967296) (hs:shapeI o=15) (a:Option Addr) (c:Nat) (w:World) (h:SL encU 1 w w.heap.size a 0 []):Calls Tryz.prog 143 #[.int .i64 o,.slice a 0 c] w (RetB (inV (decW o 15 x)) w):=by
 obtain ⟨HSh,HHd,HHn⟩:=pre3 o 15 15 rfl false false hs (by decide) rfl rfl
 have HD:Hid (decW o 15 x=⟨o,0,0,0,0,0,0,0,0,0⟩):=Lib.hid rfl
 have hZ:∀ w,(zeroValue 188).run Tryz.prog w=.ok (.agg (inC inZ)) w:=fun w=>by kernel_rfl
 clear hs
 rw [HD.out]
 go_enter Tryz.func143,Tryz.ntmps143
 go_wp2_with (first | (go_at_call 141;((with_reducible refine (HSh.out _).mono ?_);rintro e w1 ⟨rfl,hb⟩;obtain ⟨hz,he,hbw⟩:=res_blocks hb;clear hb)) | (go_at_call 162;((with_reducible refine (HHd.out _).mono ?_);rintro e w2 ⟨rfl,hb⟩;obtain ⟨hz,he,hbw⟩:=kp3 hz he hbw hb;clear hb;have y1:w2.cell? ⟨w.heap.size+1,1,none⟩=some (.int .i64 0):=cel he;have yq1:w2.frozen? ⟨w.heap.size+1,1,none⟩=false:=frz he)) | (go_at_call 162;((with_reducible refine (HHn.out _).mono ?_);rintro e w3 ⟨rfl,hb⟩;obtain ⟨hz,he,hbw⟩:=kp3 hz he hbw hb;clear hb;obtain ⟨y0,yq0,y1,yq1,y2,yq2,y3,yq3,y4,yq4,y5,yq5,y6,yq6,y7,yq7,y8,yq8,y9,yq9⟩:=ten (.int .i64 o) (.int .i64 0) (.int .i64 0) (.int .i64 0) (.int .i64 0) (.int .i64 0) (.int .u64 0) (.int .i64 0) (.int .i64 0) (.int .i64 0) he;obtain ⟨z0,zq0,z1,zq1,z2,zq2,z3,zq3,z4,zq4,z5,zq5,z6,zq6,z7,zq7,z8,zq8,z9,zq9⟩:=ten0 hz;clear hz he)))
 all_goals
  refine bodyPost_ret (v:=inV _) (by simp [results,Tryz.results143,go_sem, *]) rfl ⟨rfl,?_⟩
  repeat' (first | (with_reducible exact hbw) | (with_reducible exact Nat.le_refl _) | (with_reducible exact Nat.le_succ _) | (with_reducible refine below_drewN ?_ _) | (with_reducible refine Below.drew ?_) | (with_reducible refine bel_set ?_ ?_) | (with_reducible refine bel_alloc ?_ _))
theorem rof16 (o:Int) (x:Nat) (hx:x < 4294967296) (hs:shapeI o=16) (a:Option Addr) (c:Nat) (w:World) (h:SL encU 1 w w.heap.size a 4 [fw x 0 5,fw x 5 5,fw x 12 4,fw x 16 5]):Calls Tryz.prog 143 #[.int .i64 o,.slice a 4 c] w (RetB (inV (decW o 16 x)) w):=by
 obtain ⟨HSh,HHd,HHn⟩:=pre3 o 16 16 rfl true true hs (by decide) rfl rfl
 have HD:Hid (decW o 16 x=⟨o,(fw x 0 5),(fw x 5 5),(fw x 16 5),0,0,0,0,0,(fw x 12 4)⟩):=Lib.hid rfl
 have hb0_5:=fw_lt x 0 5
 have hb5_5:=fw_lt x 5 5
 have hb12_4:=fw_lt x 12 4
 have hb16_5:=fw_lt x 16 5
 generalize fw x 0 5=f0_5 at*
 generalize fw x 5 5=f5_5 at*
 generalize fw x 12 4=f12_4 at*
 generalize fw x 16 5=f16_5 at*
 simp only [Int.reducePow] at hb0_5 hb5_5 hb12_4 hb16_5
 obtain ⟨b,off,rfl,hBl,hc⟩:=h.cells (by simp)
 have g0:w.cell? ⟨b,off,none⟩=some (.int .u32 f0_5):=hc 0 (by simp) 0 (by decide)
 have g1:w.cell? ⟨b,off+1,none⟩=some (.int .u32 f5_5):=hc 1 (by simp) 0 (by decide)
 have g2:w.cell? ⟨b,off+2,none⟩=some (.int .u32 f12_4):=hc 2 (by simp) 0 (by decide)
 have g3:w.cell? ⟨b,off+3,none⟩=some (.int .u32 f16_5):=hc 3 (by simp) 0 (by decide)
 clear hc h
 have hZ:∀ w,(zeroValue 188).run Tryz.prog w=.ok (.agg (inC inZ)) w:=fun w=>by kernel_rfl
 clear hs
 rw [HD.out]
 have G0:=Lib.hid g0
 have G1:=Lib.hid g1
 have G2:=Lib.hid g2
 have G3:=Lib.hid g3
 go_enter Tryz.func143,Tryz.ntmps143
 go_wp2_with (first | (go_at_call 141;((with_reducible refine (HSh.out _).mono ?_);rintro e w1 ⟨rfl,hb⟩;obtain ⟨hz,he,hbw⟩:=res_blocks hb;clear hb)) | (go_at_call 162;((with_reducible refine (HHd.out _).mono ?_);rintro e w2 ⟨rfl,hb⟩;obtain ⟨hz,he,hbw⟩:=kp3 hz he hbw hb;clear hb;have g0:w2.cell? ⟨b,off,none⟩=some (.int .u32 f0_5):=(hbw.cell (p:=⟨b,off,none⟩) hBl).trans G0.out;have g1:w2.cell? ⟨b,off+1,none⟩=some (.int .u32 f5_5):=(hbw.cell (p:=⟨b,off+1,none⟩) hBl).trans G1.out;have g2:w2.cell? ⟨b,off+2,none⟩=some (.int .u32 f12_4):=(hbw.cell (p:=⟨b,off+2,none⟩) hBl).trans G2.out;have g3:w2.cell? ⟨b,off+3,none⟩=some (.int .u32 f16_5):=(hbw.cell (p:=⟨b,off+3,none⟩) hBl).trans G3.out;have y1:w2.cell? ⟨w.heap.size+1,1,none⟩=some (.int .i64 0):=cel he;have yq1:w2.frozen? ⟨w.heap.size+1,1,none⟩=false:=frz he)) | (go_at_call 162;((with_reducible refine (HHn.out _).mono ?_);rintro e w3 ⟨rfl,hb⟩;replace he:=hset (o:=1) (x:=.int .i64 f0_5) he;replace hz:=(hother (w:=w2) (b:=w.heap.size+1) (o:=1) (x:=.int .i64 f0_5) (c:=w.heap.size) (by omega)).trans hz;replace hbw:=bel_set (o:=1) (u:=.int .i64 f0_5) hbw (show w.heap.size<=w.heap.size+1 by omega);obtain ⟨hz,he,hbw⟩:=kp3 hz he hbw hb;clear hb;have g0:w3.cell? ⟨b,off,none⟩=some (.int .u32 f0_5):=(hbw.cell (p:=⟨b,off,none⟩) hBl).trans G0.out;have g1:w3.cell? ⟨b,off+1,none⟩=some (.int .u32 f5_5):=(hbw.cell (p:=⟨b,off+1,none⟩) hBl).trans G1.out;have g2:w3.cell? ⟨b,off+2,none⟩=some (.int .u32 f12_4):=(hbw.cell (p:=⟨b,off+2,none⟩) hBl).trans G2.out;have g3:w3.cell? ⟨b,off+3,none⟩=some (.int .u32 f16_5):=(hbw.cell (p:=⟨b,off+3,none⟩) hBl).trans G3.out;obtain ⟨y0,yq0,y1,yq1,y2,yq2,y3,yq3,y4,yq4,y5,yq5,y6,yq6,y7,yq7,y8,yq8,y9,yq9⟩:=ten (.int .i64 o) (.int .i64 f0_5) (.int .i64 0) (.int .i64 0) (.int .i64 0) (.int .i64 0) (.int .u64 0) (.int .i64 0) (.int .i64 0) (.int .i64 0) he;obtain ⟨z0,zq0,z1,zq1,z2,zq2,z3,zq3,z4,zq4,z5,zq5,z6,zq6,z7,zq7,z8,zq8,z9,zq9⟩:=ten0 hz;clear hz he)))
 all_goals
  refine bodyPost_ret (v:=inV _) (by simp [results,Tryz.results143,go_sem, *]) rfl ⟨rfl,?_⟩
  repeat' (first | (with_reducible exact hbw) | (with_reducible exact Nat.le_refl _) | (with_reducible exact Nat.le_succ _) | (with_reducible refine below_drewN ?_ _) | (with_reducible refine Below.drew ?_) | (with_reducible refine bel_set ?_ ?_) | (with_reducible refine bel_alloc ?_ _))
end Go.Proofs.YthkolmebokfagaaGreatDoor
