/- (code.word).mask, (code.word).inst, shape by shape. (code.word).mask; (code.word).inst where a mask is told, or there is no operation. -/
import Derived.Test.YtobdldadfipcgaaGreatDoorqC
set_option maxRecDepth 100000
set_option maxHeartbeats 4000000
set_option linter.unusedVariables false
set_option linter.unusedSimpArgs false
namespace Go.Proofs.YtobdldadfipcgaaGreatDoor
open Go.RowKit
theorem sgn19 {v:Int} (h:0<=v/\v < 524288) : -262144<=(sgn v 19).1/\(sgn v 19).1 < 262144:=by
 unfold sgn
 simp only [Int.reduceToNat,Nat.reduceSub,Int.reducePow]
 repeat' split
 all_goals (try simp only [])
 all_goals omega
theorem sgn26 {v:Int} (h:0<=v/\v < 67108864) : -33554432<=(sgn v 26).1/\(sgn v 26).1 < 33554432:=by
 unfold sgn
 simp only [Int.reduceToNat,Nat.reduceSub,Int.reducePow]
 repeat' split
 all_goals (try simp only [])
 all_goals omega
theorem bel_alloc {w w':World} (h:Below w.heap.size w w') (o:Obj):Below w.heap.size w (w'.alloc o):=h.alloc h.size o
theorem bel_set {w w':World} (h:Below w.heap.size w w') {b o:Nat} {u:Value} (hb:w.heap.size<=b):Below w.heap.size w (w'.setCell ⟨b,o,none⟩ u):=h.setCell (p:=⟨b,o,none⟩) hb u
theorem winst1 (x:Nat) (hx:x < 4294967296) (w:World) (hw:Tab6 w) (hs:shapeI (opW x:Nat)=1):Calls Tryz.prog 146 #[.int .u32 x] w (RetB (inV (decW (opW x:Nat) 1 x)) w):=by
 have HT:=Lib.hid hw
 have HOp:Hid (∀ w,Tab6 w->Calls Tryz.prog 161 #[.int .u32 x] w (RetD (.int .i64 (opW x:Nat)) w)):=Lib.hid fun w h=>Opcode_any x hx w h
 have HSh:Hid (∀ w,Tab6 w->Calls Tryz.prog 80 #[.int .i64 (opW x:Nat)] w (Ret (.int .i64 1) w)):=Lib.hid fun w h=>by have:=Shape_any (opW x:Nat) w h.1;rwa [hs] at this
 have HN0_5:Hid (∀ w,Calls Tryz.prog 162 #[.int .u32 x,.int .i64 0,.int .i64 5] w (RetD (.int .i64 (fw x 0 5)) w)):=Lib.hid fun w=>number_any x 0 5 hx (by decide) (by decide) w
 have hb0_5:=fw_lt x 0 5
 have HN5_5:Hid (∀ w,Calls Tryz.prog 162 #[.int .u32 x,.int .i64 5,.int .i64 5] w (RetD (.int .i64 (fw x 5 5)) w)):=Lib.hid fun w=>number_any x 5 5 hx (by decide) (by decide) w
 have hb5_5:=fw_lt x 5 5
 have HN16_5:Hid (∀ w,Calls Tryz.prog 162 #[.int .u32 x,.int .i64 16,.int .i64 5] w (RetD (.int .i64 (fw x 16 5)) w)):=Lib.hid fun w=>number_any x 16 5 hx (by decide) (by decide) w
 have hb16_5:=fw_lt x 16 5
 have HN5_16:Hid (∀ w,Calls Tryz.prog 162 #[.int .u32 x,.int .i64 5,.int .i64 16] w (RetD (.int .i64 (fw x 5 16)) w)):=Lib.hid fun w=>number_any x 5 16 hx (by decide) (by decide) w
 have hb5_16:=fw_lt x 5 16
 have HN21_2:Hid (∀ w,Calls Tryz.prog 162 #[.int .u32 x,.int .i64 21,.int .i64 2] w (RetD (.int .i64 (fw x 21 2)) w)):=Lib.hid fun w=>number_any x 21 2 hx (by decide) (by decide) w
 have hb21_2:=fw_lt x 21 2
 have HD:Hid (decW (opW x:Nat) 1 x=⟨(opW x:Nat),(fw x 0 5),0,0,0,(fw x 5 16),0,0,(16*(fw x 21 2)),0⟩):=Lib.hid rfl
 generalize fw x 0 5=f0_5 at*
 generalize fw x 5 5=f5_5 at*
 generalize fw x 16 5=f16_5 at*
 generalize fw x 5 16=f5_16 at*
 generalize fw x 21 2=f21_2 at*
 simp only [Int.reducePow] at hb0_5 hb5_5 hb16_5 hb5_16 hb21_2
 generalize opW x=op at*
 clear hw hs
 have hZ:∀ w,(zeroValue 98).run Tryz.prog w=.ok (.agg (inC inZ)) w:=fun w=>by kernel_rfl
 rw [HD.out]
 go_enter Tryz.func146,Tryz.ntmps146
 go_wp2_with (first | (go_at_call 161;((with_reducible refine (HOp.out _ (HT.out.below ?_)).mono ?_);rotate_left;rintro e w' ⟨rfl,m,rfl⟩)) | (go_at_call 80;((with_reducible refine (HSh.out _ (HT.out.below ?_)).mono ?_);rotate_left;rintro e w' ⟨rfl,rfl⟩)) | (go_at_call 162;((with_reducible refine (HN0_5.out _).mono ?_);rintro e w' ⟨rfl,m,rfl⟩)) | (go_at_call 162;((with_reducible refine (HN5_5.out _).mono ?_);rintro e w' ⟨rfl,m,rfl⟩)) | (go_at_call 162;((with_reducible refine (HN16_5.out _).mono ?_);rintro e w' ⟨rfl,m,rfl⟩)) | (go_at_call 162;((with_reducible refine (HN5_16.out _).mono ?_);rintro e w' ⟨rfl,m,rfl⟩)) | (go_at_call 162;((with_reducible refine (HN21_2.out _).mono ?_);rintro e w' ⟨rfl,m,rfl⟩)))
 refine bodyPost_ret (v:=inV _) (by simp [results,Tryz.results146,go_sem]) rfl ⟨rfl,?_⟩
 all_goals
  repeat' (first | (with_reducible exact Below.refl _ _) | (with_reducible exact Nat.le_refl _) | (with_reducible exact Nat.le_succ _) | (with_reducible refine below_drewN ?_ _) | (with_reducible refine bel_set ?_ ?_) | (with_reducible refine bel_alloc ?_ _))
theorem winst2 (x:Nat) (hx:x < 4294967296) (w:World) (hw:Tab6 w) (hs:shapeI (opW x:Nat)=2):Calls Tryz.prog 146 #[.int .u32 x] w (RetB (inV (decW (opW x:Nat) 2 x)) w):=by
 have HT:=Lib.hid hw
 have HOp:Hid (∀ w,Tab6 w->Calls Tryz.prog 161 #[.int .u32 x] w (RetD (.int .i64 (opW x:Nat)) w)):=Lib.hid fun w h=>Opcode_any x hx w h
 have HSh:Hid (∀ w,Tab6 w->Calls Tryz.prog 80 #[.int .i64 (opW x:Nat)] w (Ret (.int .i64 2) w)):=Lib.hid fun w h=>by have:=Shape_any (opW x:Nat) w h.1;rwa [hs] at this
 have HN0_5:Hid (∀ w,Calls Tryz.prog 162 #[.int .u32 x,.int .i64 0,.int .i64 5] w (RetD (.int .i64 (fw x 0 5)) w)):=Lib.hid fun w=>number_any x 0 5 hx (by decide) (by decide) w
 have hb0_5:=fw_lt x 0 5
 have HN5_5:Hid (∀ w,Calls Tryz.prog 162 #[.int .u32 x,.int .i64 5,.int .i64 5] w (RetD (.int .i64 (fw x 5 5)) w)):=Lib.hid fun w=>number_any x 5 5 hx (by decide) (by decide) w
 have hb5_5:=fw_lt x 5 5
 have HN16_5:Hid (∀ w,Calls Tryz.prog 162 #[.int .u32 x,.int .i64 16,.int .i64 5] w (RetD (.int .i64 (fw x 16 5)) w)):=Lib.hid fun w=>number_any x 16 5 hx (by decide) (by decide) w
 have hb16_5:=fw_lt x 16 5
 have HN10_12:Hid (∀ w,Calls Tryz.prog 162 #[.int .u32 x,.int .i64 10,.int .i64 12] w (RetD (.int .i64 (fw x 10 12)) w)):=Lib.hid fun w=>number_any x 10 12 hx (by decide) (by decide) w
 have hb10_12:=fw_lt x 10 12
 have HN22_1:Hid (∀ w,Calls Tryz.prog 162 #[.int .u32 x,.int .i64 22,.int .i64 1] w (RetD (.int .i64 (fw x 22 1)) w)):=Lib.hid fun w=>number_any x 22 1 hx (by decide) (by decide) w
 have hb22_1:=fw_lt x 22 1
 have HD:Hid (decW (opW x:Nat) 2 x=⟨(opW x:Nat),(fw x 0 5),(fw x 5 5),0,0,(fw x 10 12),0,0,(12*(fw x 22 1)),0⟩):=Lib.hid rfl
 generalize fw x 0 5=f0_5 at*
 generalize fw x 5 5=f5_5 at*
 generalize fw x 16 5=f16_5 at*
 generalize fw x 10 12=f10_12 at*
 generalize fw x 22 1=f22_1 at*
 simp only [Int.reducePow] at hb0_5 hb5_5 hb16_5 hb10_12 hb22_1
 generalize opW x=op at*
 clear hw hs
 have hZ:∀ w,(zeroValue 98).run Tryz.prog w=.ok (.agg (inC inZ)) w:=fun w=>by kernel_rfl
 rw [HD.out]
 go_enter Tryz.func146,Tryz.ntmps146
 go_wp2_with (first | (go_at_call 161;((with_reducible refine (HOp.out _ (HT.out.below ?_)).mono ?_);rotate_left;rintro e w' ⟨rfl,m,rfl⟩)) | (go_at_call 80;((with_reducible refine (HSh.out _ (HT.out.below ?_)).mono ?_);rotate_left;rintro e w' ⟨rfl,rfl⟩)) | (go_at_call 162;((with_reducible refine (HN0_5.out _).mono ?_);rintro e w' ⟨rfl,m,rfl⟩)) | (go_at_call 162;((with_reducible refine (HN5_5.out _).mono ?_);rintro e w' ⟨rfl,m,rfl⟩)) | (go_at_call 162;((with_reducible refine (HN16_5.out _).mono ?_);rintro e w' ⟨rfl,m,rfl⟩)) | (go_at_call 162;((with_reducible refine (HN10_12.out _).mono ?_);rintro e w' ⟨rfl,m,rfl⟩)) | (go_at_call 162;((with_reducible refine (HN22_1.out _).mono ?_);rintro e w' ⟨rfl,m,rfl⟩)))
 refine bodyPost_ret (v:=inV _) (by simp [results,Tryz.results146,go_sem]) rfl ⟨rfl,?_⟩
 all_goals
  repeat' (first | (with_reducible exact Below.refl _ _) | (with_reducible exact Nat.le_refl _) | (with_reducible exact Nat.le_succ _) | (with_reducible refine below_drewN ?_ _) | (with_reducible refine bel_set ?_ ?_) | (with_reducible refine bel_alloc ?_ _))
theorem winst4 (x:Nat) (hx:x < 4294967296) (w:World) (hw:Tab6 w) (hs:shapeI (opW x:Nat)=4):Calls Tryz.prog 146 #[.int .u32 x] w (RetB (inV (decW (opW x:Nat) 4 x)) w):=by
 have HT:=Lib.hid hw
 have HOp:Hid (∀ w,Tab6 w->Calls Tryz.prog 161 #[.int .u32 x] w (RetD (.int .i64 (opW x:Nat)) w)):=Lib.hid fun w h=>Opcode_any x hx w h
 have HSh:Hid (∀ w,Tab6 w->Calls Tryz.prog 80 #[.int .i64 (opW x:Nat)] w (Ret (.int .i64 4) w)):=Lib.hid fun w h=>by have:=Shape_any (opW x:Nat) w h.1;rwa [hs] at this
 have HN0_5:Hid (∀ w,Calls Tryz.prog 162 #[.int .u32 x,.int .i64 0,.int .i64 5] w (RetD (.int .i64 (fw x 0 5)) w)):=Lib.hid fun w=>number_any x 0 5 hx (by decide) (by decide) w
 have hb0_5:=fw_lt x 0 5
 have HN5_5:Hid (∀ w,Calls Tryz.prog 162 #[.int .u32 x,.int .i64 5,.int .i64 5] w (RetD (.int .i64 (fw x 5 5)) w)):=Lib.hid fun w=>number_any x 5 5 hx (by decide) (by decide) w
 have hb5_5:=fw_lt x 5 5
 have HN16_5:Hid (∀ w,Calls Tryz.prog 162 #[.int .u32 x,.int .i64 16,.int .i64 5] w (RetD (.int .i64 (fw x 16 5)) w)):=Lib.hid fun w=>number_any x 16 5 hx (by decide) (by decide) w
 have hb16_5:=fw_lt x 16 5
 have HN22_2:Hid (∀ w,Calls Tryz.prog 162 #[.int .u32 x,.int .i64 22,.int .i64 2] w (RetD (.int .i64 (fw x 22 2)) w)):=Lib.hid fun w=>number_any x 22 2 hx (by decide) (by decide) w
 have hb22_2:=fw_lt x 22 2
 have HN10_6:Hid (∀ w,Calls Tryz.prog 162 #[.int .u32 x,.int .i64 10,.int .i64 6] w (RetD (.int .i64 (fw x 10 6)) w)):=Lib.hid fun w=>number_any x 10 6 hx (by decide) (by decide) w
 have hb10_6:=fw_lt x 10 6
 have HD:Hid (decW (opW x:Nat) 4 x=⟨(opW x:Nat),(fw x 0 5),(fw x 5 5),(fw x 16 5),0,0,0,(fw x 22 2),(fw x 10 6),0⟩):=Lib.hid rfl
 generalize fw x 0 5=f0_5 at*
 generalize fw x 5 5=f5_5 at*
 generalize fw x 16 5=f16_5 at*
 generalize fw x 22 2=f22_2 at*
 generalize fw x 10 6=f10_6 at*
 simp only [Int.reducePow] at hb0_5 hb5_5 hb16_5 hb22_2 hb10_6
 generalize opW x=op at*
 clear hw hs
 have hZ:∀ w,(zeroValue 98).run Tryz.prog w=.ok (.agg (inC inZ)) w:=fun w=>by kernel_rfl
 rw [HD.out]
 go_enter Tryz.func146,Tryz.ntmps146
 go_wp2_with (first | (go_at_call 161;((with_reducible refine (HOp.out _ (HT.out.below ?_)).mono ?_);rotate_left;rintro e w' ⟨rfl,m,rfl⟩)) | (go_at_call 80;((with_reducible refine (HSh.out _ (HT.out.below ?_)).mono ?_);rotate_left;rintro e w' ⟨rfl,rfl⟩)) | (go_at_call 162;((with_reducible refine (HN0_5.out _).mono ?_);rintro e w' ⟨rfl,m,rfl⟩)) | (go_at_call 162;((with_reducible refine (HN5_5.out _).mono ?_);rintro e w' ⟨rfl,m,rfl⟩)) | (go_at_call 162;((with_reducible refine (HN16_5.out _).mono ?_);rintro e w' ⟨rfl,m,rfl⟩)) | (go_at_call 162;((with_reducible refine (HN22_2.out _).mono ?_);rintro e w' ⟨rfl,m,rfl⟩)) | (go_at_call 162;((with_reducible refine (HN10_6.out _).mono ?_);rintro e w' ⟨rfl,m,rfl⟩)))
 refine bodyPost_ret (v:=inV _) (by simp [results,Tryz.results146,go_sem]) rfl ⟨rfl,?_⟩
 all_goals
  repeat' (first | (with_reducible exact Below.refl _ _) | (with_reducible exact Nat.le_refl _) | (with_reducible exact Nat.le_succ _) | (with_reducible refine below_drewN ?_ _) | (with_reducible refine bel_set ?_ ?_) | (with_reducible refine bel_alloc ?_ _))
theorem winst5 (x:Nat) (hx:x < 4294967296) (w:World) (hw:Tab6 w) (hs:shapeI (opW x:Nat)=5):Calls Tryz.prog 146 #[.int .u32 x] w (RetB (inV (decW (opW x:Nat) 5 x)) w):=by
 have HT:=Lib.hid hw
 have HOp:Hid (∀ w,Tab6 w->Calls Tryz.prog 161 #[.int .u32 x] w (RetD (.int .i64 (opW x:Nat)) w)):=Lib.hid fun w h=>Opcode_any x hx w h
 have HSh:Hid (∀ w,Tab6 w->Calls Tryz.prog 80 #[.int .i64 (opW x:Nat)] w (Ret (.int .i64 5) w)):=Lib.hid fun w h=>by have:=Shape_any (opW x:Nat) w h.1;rwa [hs] at this
 have HN0_5:Hid (∀ w,Calls Tryz.prog 162 #[.int .u32 x,.int .i64 0,.int .i64 5] w (RetD (.int .i64 (fw x 0 5)) w)):=Lib.hid fun w=>number_any x 0 5 hx (by decide) (by decide) w
 have hb0_5:=fw_lt x 0 5
 have HN5_5:Hid (∀ w,Calls Tryz.prog 162 #[.int .u32 x,.int .i64 5,.int .i64 5] w (RetD (.int .i64 (fw x 5 5)) w)):=Lib.hid fun w=>number_any x 5 5 hx (by decide) (by decide) w
 have hb5_5:=fw_lt x 5 5
 have HN16_5:Hid (∀ w,Calls Tryz.prog 162 #[.int .u32 x,.int .i64 16,.int .i64 5] w (RetD (.int .i64 (fw x 16 5)) w)):=Lib.hid fun w=>number_any x 16 5 hx (by decide) (by decide) w
 have hb16_5:=fw_lt x 16 5
 have HN22_2:Hid (∀ w,Calls Tryz.prog 162 #[.int .u32 x,.int .i64 22,.int .i64 2] w (RetD (.int .i64 (fw x 22 2)) w)):=Lib.hid fun w=>number_any x 22 2 hx (by decide) (by decide) w
 have hb22_2:=fw_lt x 22 2
 have HN10_6:Hid (∀ w,Calls Tryz.prog 162 #[.int .u32 x,.int .i64 10,.int .i64 6] w (RetD (.int .i64 (fw x 10 6)) w)):=Lib.hid fun w=>number_any x 10 6 hx (by decide) (by decide) w
 have hb10_6:=fw_lt x 10 6
 have HD:Hid (decW (opW x:Nat) 5 x=⟨(opW x:Nat),(fw x 0 5),(fw x 5 5),(fw x 16 5),0,0,0,(fw x 22 2),(fw x 10 6),0⟩):=Lib.hid rfl
 generalize fw x 0 5=f0_5 at*
 generalize fw x 5 5=f5_5 at*
 generalize fw x 16 5=f16_5 at*
 generalize fw x 22 2=f22_2 at*
 generalize fw x 10 6=f10_6 at*
 simp only [Int.reducePow] at hb0_5 hb5_5 hb16_5 hb22_2 hb10_6
 generalize opW x=op at*
 clear hw hs
 have hZ:∀ w,(zeroValue 98).run Tryz.prog w=.ok (.agg (inC inZ)) w:=fun w=>by kernel_rfl
 rw [HD.out]
 go_enter Tryz.func146,Tryz.ntmps146
 go_wp2_with (first | (go_at_call 161;((with_reducible refine (HOp.out _ (HT.out.below ?_)).mono ?_);rotate_left;rintro e w' ⟨rfl,m,rfl⟩)) | (go_at_call 80;((with_reducible refine (HSh.out _ (HT.out.below ?_)).mono ?_);rotate_left;rintro e w' ⟨rfl,rfl⟩)) | (go_at_call 162;((with_reducible refine (HN0_5.out _).mono ?_);rintro e w' ⟨rfl,m,rfl⟩)) | (go_at_call 162;((with_reducible refine (HN5_5.out _).mono ?_);rintro e w' ⟨rfl,m,rfl⟩)) | (go_at_call 162;((with_reducible refine (HN16_5.out _).mono ?_);rintro e w' ⟨rfl,m,rfl⟩)) | (go_at_call 162;((with_reducible refine (HN22_2.out _).mono ?_);rintro e w' ⟨rfl,m,rfl⟩)) | (go_at_call 162;((with_reducible refine (HN10_6.out _).mono ?_);rintro e w' ⟨rfl,m,rfl⟩)))
 refine bodyPost_ret (v:=inV _) (by simp [results,Tryz.results146,go_sem]) rfl ⟨rfl,?_⟩
 all_goals
  repeat' (first | (with_reducible exact Below.refl _ _) | (with_reducible exact Nat.le_refl _) | (with_reducible exact Nat.le_succ _) | (with_reducible refine below_drewN ?_ _) | (with_reducible refine bel_set ?_ ?_) | (with_reducible refine bel_alloc ?_ _))
theorem winst6 (x:Nat) (hx:x < 4294967296) (w:World) (hw:Tab6 w) (hs:shapeI (opW x:Nat)=6):Calls Tryz.prog 146 #[.int .u32 x] w (RetB (inV (decW (opW x:Nat) 6 x)) w):=by
 have HT:=Lib.hid hw
 have HOp:Hid (∀ w,Tab6 w->Calls Tryz.prog 161 #[.int .u32 x] w (RetD (.int .i64 (opW x:Nat)) w)):=Lib.hid fun w h=>Opcode_any x hx w h
 have HSh:Hid (∀ w,Tab6 w->Calls Tryz.prog 80 #[.int .i64 (opW x:Nat)] w (Ret (.int .i64 6) w)):=Lib.hid fun w h=>by have:=Shape_any (opW x:Nat) w h.1;rwa [hs] at this
 have HN0_5:Hid (∀ w,Calls Tryz.prog 162 #[.int .u32 x,.int .i64 0,.int .i64 5] w (RetD (.int .i64 (fw x 0 5)) w)):=Lib.hid fun w=>number_any x 0 5 hx (by decide) (by decide) w
 have hb0_5:=fw_lt x 0 5
 have HN5_5:Hid (∀ w,Calls Tryz.prog 162 #[.int .u32 x,.int .i64 5,.int .i64 5] w (RetD (.int .i64 (fw x 5 5)) w)):=Lib.hid fun w=>number_any x 5 5 hx (by decide) (by decide) w
 have hb5_5:=fw_lt x 5 5
 have HN16_5:Hid (∀ w,Calls Tryz.prog 162 #[.int .u32 x,.int .i64 16,.int .i64 5] w (RetD (.int .i64 (fw x 16 5)) w)):=Lib.hid fun w=>number_any x 16 5 hx (by decide) (by decide) w
 have hb16_5:=fw_lt x 16 5
 have HN10_5:Hid (∀ w,Calls Tryz.prog 162 #[.int .u32 x,.int .i64 10,.int .i64 5] w (RetD (.int .i64 (fw x 10 5)) w)):=Lib.hid fun w=>number_any x 10 5 hx (by decide) (by decide) w
 have hb10_5:=fw_lt x 10 5
 have HD:Hid (decW (opW x:Nat) 6 x=⟨(opW x:Nat),(fw x 0 5),(fw x 5 5),(fw x 16 5),(fw x 10 5),0,0,0,0,0⟩):=Lib.hid rfl
 generalize fw x 0 5=f0_5 at*
 generalize fw x 5 5=f5_5 at*
 generalize fw x 16 5=f16_5 at*
 generalize fw x 10 5=f10_5 at*
 simp only [Int.reducePow] at hb0_5 hb5_5 hb16_5 hb10_5
 generalize opW x=op at*
 clear hw hs
 have hZ:∀ w,(zeroValue 98).run Tryz.prog w=.ok (.agg (inC inZ)) w:=fun w=>by kernel_rfl
 rw [HD.out]
 go_enter Tryz.func146,Tryz.ntmps146
 go_wp2_with (first | (go_at_call 161;((with_reducible refine (HOp.out _ (HT.out.below ?_)).mono ?_);rotate_left;rintro e w' ⟨rfl,m,rfl⟩)) | (go_at_call 80;((with_reducible refine (HSh.out _ (HT.out.below ?_)).mono ?_);rotate_left;rintro e w' ⟨rfl,rfl⟩)) | (go_at_call 162;((with_reducible refine (HN0_5.out _).mono ?_);rintro e w' ⟨rfl,m,rfl⟩)) | (go_at_call 162;((with_reducible refine (HN5_5.out _).mono ?_);rintro e w' ⟨rfl,m,rfl⟩)) | (go_at_call 162;((with_reducible refine (HN16_5.out _).mono ?_);rintro e w' ⟨rfl,m,rfl⟩)) | (go_at_call 162;((with_reducible refine (HN10_5.out _).mono ?_);rintro e w' ⟨rfl,m,rfl⟩)))
 refine bodyPost_ret (v:=inV _) (by simp [results,Tryz.results146,go_sem]) rfl ⟨rfl,?_⟩
 all_goals
  repeat' (first | (with_reducible exact Below.refl _ _) | (with_reducible exact Nat.le_refl _) | (with_reducible exact Nat.le_succ _) | (with_reducible refine below_drewN ?_ _) | (with_reducible refine bel_set ?_ ?_) | (with_reducible refine bel_alloc ?_ _))
theorem winst7 (x:Nat) (hx:x < 4294967296) (w:World) (hw:Tab6 w) (hs:shapeI (opW x:Nat)=7):Calls Tryz.prog 146 #[.int .u32 x] w (RetB (inV (decW (opW x:Nat) 7 x)) w):=by
 have HT:=Lib.hid hw
 have HOp:Hid (∀ w,Tab6 w->Calls Tryz.prog 161 #[.int .u32 x] w (RetD (.int .i64 (opW x:Nat)) w)):=Lib.hid fun w h=>Opcode_any x hx w h
 have HSh:Hid (∀ w,Tab6 w->Calls Tryz.prog 80 #[.int .i64 (opW x:Nat)] w (Ret (.int .i64 7) w)):=Lib.hid fun w h=>by have:=Shape_any (opW x:Nat) w h.1;rwa [hs] at this
 have HN0_5:Hid (∀ w,Calls Tryz.prog 162 #[.int .u32 x,.int .i64 0,.int .i64 5] w (RetD (.int .i64 (fw x 0 5)) w)):=Lib.hid fun w=>number_any x 0 5 hx (by decide) (by decide) w
 have hb0_5:=fw_lt x 0 5
 have HN5_5:Hid (∀ w,Calls Tryz.prog 162 #[.int .u32 x,.int .i64 5,.int .i64 5] w (RetD (.int .i64 (fw x 5 5)) w)):=Lib.hid fun w=>number_any x 5 5 hx (by decide) (by decide) w
 have hb5_5:=fw_lt x 5 5
 have HN16_5:Hid (∀ w,Calls Tryz.prog 162 #[.int .u32 x,.int .i64 16,.int .i64 5] w (RetD (.int .i64 (fw x 16 5)) w)):=Lib.hid fun w=>number_any x 16 5 hx (by decide) (by decide) w
 have hb16_5:=fw_lt x 16 5
 have HN10_12:Hid (∀ w,Calls Tryz.prog 162 #[.int .u32 x,.int .i64 10,.int .i64 12] w (RetD (.int .i64 (fw x 10 12)) w)):=Lib.hid fun w=>number_any x 10 12 hx (by decide) (by decide) w
 have hb10_12:=fw_lt x 10 12
 have HD:Hid (decW (opW x:Nat) 7 x=⟨(opW x:Nat),(fw x 0 5),(fw x 5 5),0,0,(8*(fw x 10 12)),0,0,0,0⟩):=Lib.hid rfl
 generalize fw x 0 5=f0_5 at*
 generalize fw x 5 5=f5_5 at*
 generalize fw x 16 5=f16_5 at*
 generalize fw x 10 12=f10_12 at*
 simp only [Int.reducePow] at hb0_5 hb5_5 hb16_5 hb10_12
 generalize opW x=op at*
 clear hw hs
 have hZ:∀ w,(zeroValue 98).run Tryz.prog w=.ok (.agg (inC inZ)) w:=fun w=>by kernel_rfl
 rw [HD.out]
 go_enter Tryz.func146,Tryz.ntmps146
 go_wp2_with (first | (go_at_call 161;((with_reducible refine (HOp.out _ (HT.out.below ?_)).mono ?_);rotate_left;rintro e w' ⟨rfl,m,rfl⟩)) | (go_at_call 80;((with_reducible refine (HSh.out _ (HT.out.below ?_)).mono ?_);rotate_left;rintro e w' ⟨rfl,rfl⟩)) | (go_at_call 162;((with_reducible refine (HN0_5.out _).mono ?_);rintro e w' ⟨rfl,m,rfl⟩)) | (go_at_call 162;((with_reducible refine (HN5_5.out _).mono ?_);rintro e w' ⟨rfl,m,rfl⟩)) | (go_at_call 162;((with_reducible refine (HN16_5.out _).mono ?_);rintro e w' ⟨rfl,m,rfl⟩)) | (go_at_call 162;((with_reducible refine (HN10_12.out _).mono ?_);rintro e w' ⟨rfl,m,rfl⟩)))
 refine bodyPost_ret (v:=inV _) (by simp [results,Tryz.results146,go_sem]) rfl ⟨rfl,?_⟩
 all_goals
  repeat' (first | (with_reducible exact Below.refl _ _) | (with_reducible exact Nat.le_refl _) | (with_reducible exact Nat.le_succ _) | (with_reducible refine below_drewN ?_ _) | (with_reducible refine bel_set ?_ ?_) | (with_reducible refine bel_alloc ?_ _))
theorem winst8 (x:Nat) (hx:x < 4294967296) (w:World) (hw:Tab6 w) (hs:shapeI (opW x:Nat)=8):Calls Tryz.prog 146 #[.int .u32 x] w (RetB (inV (decW (opW x:Nat) 8 x)) w):=by
 have HT:=Lib.hid hw
 have HOp:Hid (∀ w,Tab6 w->Calls Tryz.prog 161 #[.int .u32 x] w (RetD (.int .i64 (opW x:Nat)) w)):=Lib.hid fun w h=>Opcode_any x hx w h
 have HSh:Hid (∀ w,Tab6 w->Calls Tryz.prog 80 #[.int .i64 (opW x:Nat)] w (Ret (.int .i64 8) w)):=Lib.hid fun w h=>by have:=Shape_any (opW x:Nat) w h.1;rwa [hs] at this
 have HN0_5:Hid (∀ w,Calls Tryz.prog 162 #[.int .u32 x,.int .i64 0,.int .i64 5] w (RetD (.int .i64 (fw x 0 5)) w)):=Lib.hid fun w=>number_any x 0 5 hx (by decide) (by decide) w
 have hb0_5:=fw_lt x 0 5
 have HN5_5:Hid (∀ w,Calls Tryz.prog 162 #[.int .u32 x,.int .i64 5,.int .i64 5] w (RetD (.int .i64 (fw x 5 5)) w)):=Lib.hid fun w=>number_any x 5 5 hx (by decide) (by decide) w
 have hb5_5:=fw_lt x 5 5
 have HN16_5:Hid (∀ w,Calls Tryz.prog 162 #[.int .u32 x,.int .i64 16,.int .i64 5] w (RetD (.int .i64 (fw x 16 5)) w)):=Lib.hid fun w=>number_any x 16 5 hx (by decide) (by decide) w
 have hb16_5:=fw_lt x 16 5
 have HN10_12:Hid (∀ w,Calls Tryz.prog 162 #[.int .u32 x,.int .i64 10,.int .i64 12] w (RetD (.int .i64 (fw x 10 12)) w)):=Lib.hid fun w=>number_any x 10 12 hx (by decide) (by decide) w
 have hb10_12:=fw_lt x 10 12
 have HD:Hid (decW (opW x:Nat) 8 x=⟨(opW x:Nat),(fw x 0 5),(fw x 5 5),0,0,(fw x 10 12),0,0,0,0⟩):=Lib.hid rfl
 generalize fw x 0 5=f0_5 at*
 generalize fw x 5 5=f5_5 at*
 generalize fw x 16 5=f16_5 at*
 generalize fw x 10 12=f10_12 at*
 simp only [Int.reducePow] at hb0_5 hb5_5 hb16_5 hb10_12
 generalize opW x=op at*
 clear hw hs
 have hZ:∀ w,(zeroValue 98).run Tryz.prog w=.ok (.agg (inC inZ)) w:=fun w=>by kernel_rfl
 rw [HD.out]
 go_enter Tryz.func146,Tryz.ntmps146
 go_wp2_with (first | (go_at_call 161;((with_reducible refine (HOp.out _ (HT.out.below ?_)).mono ?_);rotate_left;rintro e w' ⟨rfl,m,rfl⟩)) | (go_at_call 80;((with_reducible refine (HSh.out _ (HT.out.below ?_)).mono ?_);rotate_left;rintro e w' ⟨rfl,rfl⟩)) | (go_at_call 162;((with_reducible refine (HN0_5.out _).mono ?_);rintro e w' ⟨rfl,m,rfl⟩)) | (go_at_call 162;((with_reducible refine (HN5_5.out _).mono ?_);rintro e w' ⟨rfl,m,rfl⟩)) | (go_at_call 162;((with_reducible refine (HN16_5.out _).mono ?_);rintro e w' ⟨rfl,m,rfl⟩)) | (go_at_call 162;((with_reducible refine (HN10_12.out _).mono ?_);rintro e w' ⟨rfl,m,rfl⟩)))
 refine bodyPost_ret (v:=inV _) (by simp [results,Tryz.results146,go_sem]) rfl ⟨rfl,?_⟩
 all_goals
  repeat' (first | (with_reducible exact Below.refl _ _) | (with_reducible exact Nat.le_refl _) | (with_reducible exact Nat.le_succ _) | (with_reducible refine below_drewN ?_ _) | (with_reducible refine bel_set ?_ ?_) | (with_reducible refine bel_alloc ?_ _))
theorem winst9 (x:Nat) (hx:x < 4294967296) (w:World) (hw:Tab6 w) (hs:shapeI (opW x:Nat)=9):Calls Tryz.prog 146 #[.int .u32 x] w (RetB (inV (decW (opW x:Nat) 9 x)) w):=by
 have HT:=Lib.hid hw
 have HOp:Hid (∀ w,Tab6 w->Calls Tryz.prog 161 #[.int .u32 x] w (RetD (.int .i64 (opW x:Nat)) w)):=Lib.hid fun w h=>Opcode_any x hx w h
 have HSh:Hid (∀ w,Tab6 w->Calls Tryz.prog 80 #[.int .i64 (opW x:Nat)] w (Ret (.int .i64 9) w)):=Lib.hid fun w h=>by have:=Shape_any (opW x:Nat) w h.1;rwa [hs] at this
 have HN0_5:Hid (∀ w,Calls Tryz.prog 162 #[.int .u32 x,.int .i64 0,.int .i64 5] w (RetD (.int .i64 (fw x 0 5)) w)):=Lib.hid fun w=>number_any x 0 5 hx (by decide) (by decide) w
 have hb0_5:=fw_lt x 0 5
 have HN5_5:Hid (∀ w,Calls Tryz.prog 162 #[.int .u32 x,.int .i64 5,.int .i64 5] w (RetD (.int .i64 (fw x 5 5)) w)):=Lib.hid fun w=>number_any x 5 5 hx (by decide) (by decide) w
 have hb5_5:=fw_lt x 5 5
 have HN16_5:Hid (∀ w,Calls Tryz.prog 162 #[.int .u32 x,.int .i64 16,.int .i64 5] w (RetD (.int .i64 (fw x 16 5)) w)):=Lib.hid fun w=>number_any x 16 5 hx (by decide) (by decide) w
 have hb16_5:=fw_lt x 16 5
 have HS:Hid (∀ w,Calls Tryz.prog 164 #[.int .u32 x,.int .i64 5,.int .i64 19] w (RetD (.int .i64 (sgn (fw x 5 19) 19).1) w)):=Lib.hid fun w=>wsigned_any x 5 19 hx (by decide) (by decide) w
 have hsb:=sgn19 (v:=fw x 5 19) (by have:=fw_lt x 5 19;simpa using this)
 have HD:Hid (decW (opW x:Nat) 9 x=⟨(opW x:Nat),(fw x 0 5),0,0,0,(4*(sgn (fw x 5 19) 19).1),0,0,0,0⟩):=Lib.hid rfl
 generalize (sgn (fw x 5 19) 19).1=sg at*
 generalize fw x 0 5=f0_5 at*
 generalize fw x 5 5=f5_5 at*
 generalize fw x 16 5=f16_5 at*
 simp only [Int.reducePow] at hb0_5 hb5_5 hb16_5
 generalize opW x=op at*
 clear hw hs
 have hZ:∀ w,(zeroValue 98).run Tryz.prog w=.ok (.agg (inC inZ)) w:=fun w=>by kernel_rfl
 rw [HD.out]
 go_enter Tryz.func146,Tryz.ntmps146
 go_wp2_with (first | (go_at_call 161;((with_reducible refine (HOp.out _ (HT.out.below ?_)).mono ?_);rotate_left;rintro e w' ⟨rfl,m,rfl⟩)) | (go_at_call 80;((with_reducible refine (HSh.out _ (HT.out.below ?_)).mono ?_);rotate_left;rintro e w' ⟨rfl,rfl⟩)) | (go_at_call 162;((with_reducible refine (HN0_5.out _).mono ?_);rintro e w' ⟨rfl,m,rfl⟩)) | (go_at_call 162;((with_reducible refine (HN5_5.out _).mono ?_);rintro e w' ⟨rfl,m,rfl⟩)) | (go_at_call 162;((with_reducible refine (HN16_5.out _).mono ?_);rintro e w' ⟨rfl,m,rfl⟩)) | (go_at_call 164;((with_reducible refine (HS.out _).mono ?_);rintro e w' ⟨rfl,m,rfl⟩)))
 refine bodyPost_ret (v:=inV _) (by simp [results,Tryz.results146,go_sem]) rfl ⟨rfl,?_⟩
 all_goals
  repeat' (first | (with_reducible exact Below.refl _ _) | (with_reducible exact Nat.le_refl _) | (with_reducible exact Nat.le_succ _) | (with_reducible refine below_drewN ?_ _) | (with_reducible refine bel_set ?_ ?_) | (with_reducible refine bel_alloc ?_ _))
theorem winst10 (x:Nat) (hx:x < 4294967296) (w:World) (hw:Tab6 w) (hs:shapeI (opW x:Nat)=10):Calls Tryz.prog 146 #[.int .u32 x] w (RetB (inV (decW (opW x:Nat) 10 x)) w):=by
 have HT:=Lib.hid hw
 have HOp:Hid (∀ w,Tab6 w->Calls Tryz.prog 161 #[.int .u32 x] w (RetD (.int .i64 (opW x:Nat)) w)):=Lib.hid fun w h=>Opcode_any x hx w h
 have HSh:Hid (∀ w,Tab6 w->Calls Tryz.prog 80 #[.int .i64 (opW x:Nat)] w (Ret (.int .i64 10) w)):=Lib.hid fun w h=>by have:=Shape_any (opW x:Nat) w h.1;rwa [hs] at this
 have HN0_5:Hid (∀ w,Calls Tryz.prog 162 #[.int .u32 x,.int .i64 0,.int .i64 5] w (RetD (.int .i64 (fw x 0 5)) w)):=Lib.hid fun w=>number_any x 0 5 hx (by decide) (by decide) w
 have hb0_5:=fw_lt x 0 5
 have HN5_5:Hid (∀ w,Calls Tryz.prog 162 #[.int .u32 x,.int .i64 5,.int .i64 5] w (RetD (.int .i64 (fw x 5 5)) w)):=Lib.hid fun w=>number_any x 5 5 hx (by decide) (by decide) w
 have hb5_5:=fw_lt x 5 5
 have HN16_5:Hid (∀ w,Calls Tryz.prog 162 #[.int .u32 x,.int .i64 16,.int .i64 5] w (RetD (.int .i64 (fw x 16 5)) w)):=Lib.hid fun w=>number_any x 16 5 hx (by decide) (by decide) w
 have hb16_5:=fw_lt x 16 5
 have HN29_2:Hid (∀ w,Calls Tryz.prog 162 #[.int .u32 x,.int .i64 29,.int .i64 2] w (RetD (.int .i64 (fw x 29 2)) w)):=Lib.hid fun w=>number_any x 29 2 hx (by decide) (by decide) w
 have hb29_2:=fw_lt x 29 2
 have HS:Hid (∀ w,Calls Tryz.prog 164 #[.int .u32 x,.int .i64 5,.int .i64 19] w (RetD (.int .i64 (sgn (fw x 5 19) 19).1) w)):=Lib.hid fun w=>wsigned_any x 5 19 hx (by decide) (by decide) w
 have hsb:=sgn19 (v:=fw x 5 19) (by have:=fw_lt x 5 19;simpa using this)
 have HD:Hid (decW (opW x:Nat) 10 x=⟨(opW x:Nat),(fw x 0 5),0,0,0,(4*(sgn (fw x 5 19) 19).1+(fw x 29 2)),0,0,0,0⟩):=Lib.hid rfl
 generalize (sgn (fw x 5 19) 19).1=sg at*
 generalize fw x 0 5=f0_5 at*
 generalize fw x 5 5=f5_5 at*
 generalize fw x 16 5=f16_5 at*
 generalize fw x 29 2=f29_2 at*
 simp only [Int.reducePow] at hb0_5 hb5_5 hb16_5 hb29_2
 generalize opW x=op at*
 clear hw hs
 have hZ:∀ w,(zeroValue 98).run Tryz.prog w=.ok (.agg (inC inZ)) w:=fun w=>by kernel_rfl
 rw [HD.out]
 go_enter Tryz.func146,Tryz.ntmps146
 go_wp2_with (first | (go_at_call 161;((with_reducible refine (HOp.out _ (HT.out.below ?_)).mono ?_);rotate_left;rintro e w' ⟨rfl,m,rfl⟩)) | (go_at_call 80;((with_reducible refine (HSh.out _ (HT.out.below ?_)).mono ?_);rotate_left;rintro e w' ⟨rfl,rfl⟩)) | (go_at_call 162;((with_reducible refine (HN0_5.out _).mono ?_);rintro e w' ⟨rfl,m,rfl⟩)) | (go_at_call 162;((with_reducible refine (HN5_5.out _).mono ?_);rintro e w' ⟨rfl,m,rfl⟩)) | (go_at_call 162;((with_reducible refine (HN16_5.out _).mono ?_);rintro e w' ⟨rfl,m,rfl⟩)) | (go_at_call 162;((with_reducible refine (HN29_2.out _).mono ?_);rintro e w' ⟨rfl,m,rfl⟩)) | (go_at_call 164;((with_reducible refine (HS.out _).mono ?_);rintro e w' ⟨rfl,m,rfl⟩)))
 refine bodyPost_ret (v:=inV _) (by simp [results,Tryz.results146,go_sem]) rfl ⟨rfl,?_⟩
 all_goals
  repeat' (first | (with_reducible exact Below.refl _ _) | (with_reducible exact Nat.le_refl _) | (with_reducible exact Nat.le_succ _) | (with_reducible refine below_drewN ?_ _) | (with_reducible refine bel_set ?_ ?_) | (with_reducible refine bel_alloc ?_ _))
theorem winst11 (x:Nat) (hx:x < 4294967296) (w:World) (hw:Tab6 w) (hs:shapeI (opW x:Nat)=11):Calls Tryz.prog 146 #[.int .u32 x] w (RetB (inV (decW (opW x:Nat) 11 x)) w):=by
 have HT:=Lib.hid hw
 have HOp:Hid (∀ w,Tab6 w->Calls Tryz.prog 161 #[.int .u32 x] w (RetD (.int .i64 (opW x:Nat)) w)):=Lib.hid fun w h=>Opcode_any x hx w h
 have HSh:Hid (∀ w,Tab6 w->Calls Tryz.prog 80 #[.int .i64 (opW x:Nat)] w (Ret (.int .i64 11) w)):=Lib.hid fun w h=>by have:=Shape_any (opW x:Nat) w h.1;rwa [hs] at this
 have HN0_5:Hid (∀ w,Calls Tryz.prog 162 #[.int .u32 x,.int .i64 0,.int .i64 5] w (RetD (.int .i64 (fw x 0 5)) w)):=Lib.hid fun w=>number_any x 0 5 hx (by decide) (by decide) w
 have hb0_5:=fw_lt x 0 5
 have HN5_5:Hid (∀ w,Calls Tryz.prog 162 #[.int .u32 x,.int .i64 5,.int .i64 5] w (RetD (.int .i64 (fw x 5 5)) w)):=Lib.hid fun w=>number_any x 5 5 hx (by decide) (by decide) w
 have hb5_5:=fw_lt x 5 5
 have HN16_5:Hid (∀ w,Calls Tryz.prog 162 #[.int .u32 x,.int .i64 16,.int .i64 5] w (RetD (.int .i64 (fw x 16 5)) w)):=Lib.hid fun w=>number_any x 16 5 hx (by decide) (by decide) w
 have hb16_5:=fw_lt x 16 5
 have HS:Hid (∀ w,Calls Tryz.prog 164 #[.int .u32 x,.int .i64 0,.int .i64 26] w (RetD (.int .i64 (sgn (fw x 0 26) 26).1) w)):=Lib.hid fun w=>wsigned_any x 0 26 hx (by decide) (by decide) w
 have hsb:=sgn26 (v:=fw x 0 26) (by have:=fw_lt x 0 26;simpa using this)
 have HD:Hid (decW (opW x:Nat) 11 x=⟨(opW x:Nat),0,0,0,0,(4*(sgn (fw x 0 26) 26).1),0,0,0,0⟩):=Lib.hid rfl
 generalize (sgn (fw x 0 26) 26).1=sg at*
 generalize fw x 0 5=f0_5 at*
 generalize fw x 5 5=f5_5 at*
 generalize fw x 16 5=f16_5 at*
 simp only [Int.reducePow] at hb0_5 hb5_5 hb16_5
 generalize opW x=op at*
 clear hw hs
 have hZ:∀ w,(zeroValue 98).run Tryz.prog w=.ok (.agg (inC inZ)) w:=fun w=>by kernel_rfl
 rw [HD.out]
 go_enter Tryz.func146,Tryz.ntmps146
 go_wp2_with (first | (go_at_call 161;((with_reducible refine (HOp.out _ (HT.out.below ?_)).mono ?_);rotate_left;rintro e w' ⟨rfl,m,rfl⟩)) | (go_at_call 80;((with_reducible refine (HSh.out _ (HT.out.below ?_)).mono ?_);rotate_left;rintro e w' ⟨rfl,rfl⟩)) | (go_at_call 162;((with_reducible refine (HN0_5.out _).mono ?_);rintro e w' ⟨rfl,m,rfl⟩)) | (go_at_call 162;((with_reducible refine (HN5_5.out _).mono ?_);rintro e w' ⟨rfl,m,rfl⟩)) | (go_at_call 162;((with_reducible refine (HN16_5.out _).mono ?_);rintro e w' ⟨rfl,m,rfl⟩)) | (go_at_call 164;((with_reducible refine (HS.out _).mono ?_);rintro e w' ⟨rfl,m,rfl⟩)))
 refine bodyPost_ret (v:=inV _) (by simp [results,Tryz.results146,go_sem]) rfl ⟨rfl,?_⟩
 all_goals
  repeat' (first | (with_reducible exact Below.refl _ _) | (with_reducible exact Nat.le_refl _) | (with_reducible exact Nat.le_succ _) | (with_reducible refine below_drewN ?_ _) | (with_reducible refine bel_set ?_ ?_) | (with_reducible refine bel_alloc ?_ _))
theorem winst12 (x:Nat) (hx:x < 4294967296) (w:World) (hw:Tab6 w) (hs:shapeI (opW x:Nat)=12):Calls Tryz.prog 146 #[.int .u32 x] w (RetB (inV (decW (opW x:Nat) 12 x)) w):=by
 have HT:=Lib.hid hw
 have HOp:Hid (∀ w,Tab6 w->Calls Tryz.prog 161 #[.int .u32 x] w (RetD (.int .i64 (opW x:Nat)) w)):=Lib.hid fun w h=>Opcode_any x hx w h
 have HSh:Hid (∀ w,Tab6 w->Calls Tryz.prog 80 #[.int .i64 (opW x:Nat)] w (Ret (.int .i64 12) w)):=Lib.hid fun w h=>by have:=Shape_any (opW x:Nat) w h.1;rwa [hs] at this
 have HN0_5:Hid (∀ w,Calls Tryz.prog 162 #[.int .u32 x,.int .i64 0,.int .i64 5] w (RetD (.int .i64 (fw x 0 5)) w)):=Lib.hid fun w=>number_any x 0 5 hx (by decide) (by decide) w
 have hb0_5:=fw_lt x 0 5
 have HN5_5:Hid (∀ w,Calls Tryz.prog 162 #[.int .u32 x,.int .i64 5,.int .i64 5] w (RetD (.int .i64 (fw x 5 5)) w)):=Lib.hid fun w=>number_any x 5 5 hx (by decide) (by decide) w
 have hb5_5:=fw_lt x 5 5
 have HN16_5:Hid (∀ w,Calls Tryz.prog 162 #[.int .u32 x,.int .i64 16,.int .i64 5] w (RetD (.int .i64 (fw x 16 5)) w)):=Lib.hid fun w=>number_any x 16 5 hx (by decide) (by decide) w
 have hb16_5:=fw_lt x 16 5
 have HN0_4:Hid (∀ w,Calls Tryz.prog 162 #[.int .u32 x,.int .i64 0,.int .i64 4] w (RetD (.int .i64 (fw x 0 4)) w)):=Lib.hid fun w=>number_any x 0 4 hx (by decide) (by decide) w
 have hb0_4:=fw_lt x 0 4
 have HS:Hid (∀ w,Calls Tryz.prog 164 #[.int .u32 x,.int .i64 5,.int .i64 19] w (RetD (.int .i64 (sgn (fw x 5 19) 19).1) w)):=Lib.hid fun w=>wsigned_any x 5 19 hx (by decide) (by decide) w
 have hsb:=sgn19 (v:=fw x 5 19) (by have:=fw_lt x 5 19;simpa using this)
 have HD:Hid (decW (opW x:Nat) 12 x=⟨(opW x:Nat),0,0,0,0,(4*(sgn (fw x 5 19) 19).1),0,0,0,(fw x 0 4)⟩):=Lib.hid rfl
 generalize (sgn (fw x 5 19) 19).1=sg at*
 generalize fw x 0 5=f0_5 at*
 generalize fw x 5 5=f5_5 at*
 generalize fw x 16 5=f16_5 at*
 generalize fw x 0 4=f0_4 at*
 simp only [Int.reducePow] at hb0_5 hb5_5 hb16_5 hb0_4
 generalize opW x=op at*
 clear hw hs
 have hZ:∀ w,(zeroValue 98).run Tryz.prog w=.ok (.agg (inC inZ)) w:=fun w=>by kernel_rfl
 rw [HD.out]
 go_enter Tryz.func146,Tryz.ntmps146
 go_wp2_with (first | (go_at_call 161;((with_reducible refine (HOp.out _ (HT.out.below ?_)).mono ?_);rotate_left;rintro e w' ⟨rfl,m,rfl⟩)) | (go_at_call 80;((with_reducible refine (HSh.out _ (HT.out.below ?_)).mono ?_);rotate_left;rintro e w' ⟨rfl,rfl⟩)) | (go_at_call 162;((with_reducible refine (HN0_5.out _).mono ?_);rintro e w' ⟨rfl,m,rfl⟩)) | (go_at_call 162;((with_reducible refine (HN5_5.out _).mono ?_);rintro e w' ⟨rfl,m,rfl⟩)) | (go_at_call 162;((with_reducible refine (HN16_5.out _).mono ?_);rintro e w' ⟨rfl,m,rfl⟩)) | (go_at_call 162;((with_reducible refine (HN0_4.out _).mono ?_);rintro e w' ⟨rfl,m,rfl⟩)) | (go_at_call 164;((with_reducible refine (HS.out _).mono ?_);rintro e w' ⟨rfl,m,rfl⟩)))
 refine bodyPost_ret (v:=inV _) (by simp [results,Tryz.results146,go_sem]) rfl ⟨rfl,?_⟩
 all_goals
  repeat' (first | (with_reducible exact Below.refl _ _) | (with_reducible exact Nat.le_refl _) | (with_reducible exact Nat.le_succ _) | (with_reducible refine below_drewN ?_ _) | (with_reducible refine bel_set ?_ ?_) | (with_reducible refine bel_alloc ?_ _))
theorem winst13 (x:Nat) (hx:x < 4294967296) (w:World) (hw:Tab6 w) (hs:shapeI (opW x:Nat)=13):Calls Tryz.prog 146 #[.int .u32 x] w (RetB (inV (decW (opW x:Nat) 13 x)) w):=by
 have HT:=Lib.hid hw
 have HOp:Hid (∀ w,Tab6 w->Calls Tryz.prog 161 #[.int .u32 x] w (RetD (.int .i64 (opW x:Nat)) w)):=Lib.hid fun w h=>Opcode_any x hx w h
 have HSh:Hid (∀ w,Tab6 w->Calls Tryz.prog 80 #[.int .i64 (opW x:Nat)] w (Ret (.int .i64 13) w)):=Lib.hid fun w h=>by have:=Shape_any (opW x:Nat) w h.1;rwa [hs] at this
 have HN0_5:Hid (∀ w,Calls Tryz.prog 162 #[.int .u32 x,.int .i64 0,.int .i64 5] w (RetD (.int .i64 (fw x 0 5)) w)):=Lib.hid fun w=>number_any x 0 5 hx (by decide) (by decide) w
 have hb0_5:=fw_lt x 0 5
 have HN5_5:Hid (∀ w,Calls Tryz.prog 162 #[.int .u32 x,.int .i64 5,.int .i64 5] w (RetD (.int .i64 (fw x 5 5)) w)):=Lib.hid fun w=>number_any x 5 5 hx (by decide) (by decide) w
 have hb5_5:=fw_lt x 5 5
 have HN16_5:Hid (∀ w,Calls Tryz.prog 162 #[.int .u32 x,.int .i64 16,.int .i64 5] w (RetD (.int .i64 (fw x 16 5)) w)):=Lib.hid fun w=>number_any x 16 5 hx (by decide) (by decide) w
 have hb16_5:=fw_lt x 16 5
 have HD:Hid (decW (opW x:Nat) 13 x=⟨(opW x:Nat),0,(fw x 5 5),0,0,0,0,0,0,0⟩):=Lib.hid rfl
 generalize fw x 0 5=f0_5 at*
 generalize fw x 5 5=f5_5 at*
 generalize fw x 16 5=f16_5 at*
 simp only [Int.reducePow] at hb0_5 hb5_5 hb16_5
 generalize opW x=op at*
 clear hw hs
 have hZ:∀ w,(zeroValue 98).run Tryz.prog w=.ok (.agg (inC inZ)) w:=fun w=>by kernel_rfl
 rw [HD.out]
 go_enter Tryz.func146,Tryz.ntmps146
 go_wp2_with (first | (go_at_call 161;((with_reducible refine (HOp.out _ (HT.out.below ?_)).mono ?_);rotate_left;rintro e w' ⟨rfl,m,rfl⟩)) | (go_at_call 80;((with_reducible refine (HSh.out _ (HT.out.below ?_)).mono ?_);rotate_left;rintro e w' ⟨rfl,rfl⟩)) | (go_at_call 162;((with_reducible refine (HN0_5.out _).mono ?_);rintro e w' ⟨rfl,m,rfl⟩)) | (go_at_call 162;((with_reducible refine (HN5_5.out _).mono ?_);rintro e w' ⟨rfl,m,rfl⟩)) | (go_at_call 162;((with_reducible refine (HN16_5.out _).mono ?_);rintro e w' ⟨rfl,m,rfl⟩)))
 refine bodyPost_ret (v:=inV _) (by simp [results,Tryz.results146,go_sem]) rfl ⟨rfl,?_⟩
 all_goals
  repeat' (first | (with_reducible exact Below.refl _ _) | (with_reducible exact Nat.le_refl _) | (with_reducible exact Nat.le_succ _) | (with_reducible refine below_drewN ?_ _) | (with_reducible refine bel_set ?_ ?_) | (with_reducible refine bel_alloc ?_ _))
theorem winst14 (x:Nat) (hx:x < 4294967296) (w:World) (hw:Tab6 w) (hs:shapeI (opW x:Nat)=14):Calls Tryz.prog 146 #[.int .u32 x] w (RetB (inV (decW (opW x:Nat) 14 x)) w):=by
 have HT:=Lib.hid hw
 have HOp:Hid (∀ w,Tab6 w->Calls Tryz.prog 161 #[.int .u32 x] w (RetD (.int .i64 (opW x:Nat)) w)):=Lib.hid fun w h=>Opcode_any x hx w h
 have HSh:Hid (∀ w,Tab6 w->Calls Tryz.prog 80 #[.int .i64 (opW x:Nat)] w (Ret (.int .i64 14) w)):=Lib.hid fun w h=>by have:=Shape_any (opW x:Nat) w h.1;rwa [hs] at this
 have HN0_5:Hid (∀ w,Calls Tryz.prog 162 #[.int .u32 x,.int .i64 0,.int .i64 5] w (RetD (.int .i64 (fw x 0 5)) w)):=Lib.hid fun w=>number_any x 0 5 hx (by decide) (by decide) w
 have hb0_5:=fw_lt x 0 5
 have HN5_5:Hid (∀ w,Calls Tryz.prog 162 #[.int .u32 x,.int .i64 5,.int .i64 5] w (RetD (.int .i64 (fw x 5 5)) w)):=Lib.hid fun w=>number_any x 5 5 hx (by decide) (by decide) w
 have hb5_5:=fw_lt x 5 5
 have HN16_5:Hid (∀ w,Calls Tryz.prog 162 #[.int .u32 x,.int .i64 16,.int .i64 5] w (RetD (.int .i64 (fw x 16 5)) w)):=Lib.hid fun w=>number_any x 16 5 hx (by decide) (by decide) w
 have hb16_5:=fw_lt x 16 5
 have HN5_16:Hid (∀ w,Calls Tryz.prog 162 #[.int .u32 x,.int .i64 5,.int .i64 16] w (RetD (.int .i64 (fw x 5 16)) w)):=Lib.hid fun w=>number_any x 5 16 hx (by decide) (by decide) w
 have hb5_16:=fw_lt x 5 16
 have HD:Hid (decW (opW x:Nat) 14 x=⟨(opW x:Nat),0,0,0,0,(fw x 5 16),0,0,0,0⟩):=Lib.hid rfl
 generalize fw x 0 5=f0_5 at*
 generalize fw x 5 5=f5_5 at*
 generalize fw x 16 5=f16_5 at*
 generalize fw x 5 16=f5_16 at*
 simp only [Int.reducePow] at hb0_5 hb5_5 hb16_5 hb5_16
 generalize opW x=op at*
 clear hw hs
 have hZ:∀ w,(zeroValue 98).run Tryz.prog w=.ok (.agg (inC inZ)) w:=fun w=>by kernel_rfl
 rw [HD.out]
 go_enter Tryz.func146,Tryz.ntmps146
 go_wp2_with (first | (go_at_call 161;((with_reducible refine (HOp.out _ (HT.out.below ?_)).mono ?_);rotate_left;rintro e w' ⟨rfl,m,rfl⟩)) | (go_at_call 80;((with_reducible refine (HSh.out _ (HT.out.below ?_)).mono ?_);rotate_left;rintro e w' ⟨rfl,rfl⟩)) | (go_at_call 162;((with_reducible refine (HN0_5.out _).mono ?_);rintro e w' ⟨rfl,m,rfl⟩)) | (go_at_call 162;((with_reducible refine (HN5_5.out _).mono ?_);rintro e w' ⟨rfl,m,rfl⟩)) | (go_at_call 162;((with_reducible refine (HN16_5.out _).mono ?_);rintro e w' ⟨rfl,m,rfl⟩)) | (go_at_call 162;((with_reducible refine (HN5_16.out _).mono ?_);rintro e w' ⟨rfl,m,rfl⟩)))
 refine bodyPost_ret (v:=inV _) (by simp [results,Tryz.results146,go_sem]) rfl ⟨rfl,?_⟩
 all_goals
  repeat' (first | (with_reducible exact Below.refl _ _) | (with_reducible exact Nat.le_refl _) | (with_reducible exact Nat.le_succ _) | (with_reducible refine below_drewN ?_ _) | (with_reducible refine bel_set ?_ ?_) | (with_reducible refine bel_alloc ?_ _))
theorem winst15 (x:Nat) (hx:x < 4294967296) (w:World) (hw:Tab6 w) (hs:shapeI (opW x:Nat)=15):Calls Tryz.prog 146 #[.int .u32 x] w (RetB (inV (decW (opW x:Nat) 15 x)) w):=by
 have HT:=Lib.hid hw
 have HOp:Hid (∀ w,Tab6 w->Calls Tryz.prog 161 #[.int .u32 x] w (RetD (.int .i64 (opW x:Nat)) w)):=Lib.hid fun w h=>Opcode_any x hx w h
 have HSh:Hid (∀ w,Tab6 w->Calls Tryz.prog 80 #[.int .i64 (opW x:Nat)] w (Ret (.int .i64 15) w)):=Lib.hid fun w h=>by have:=Shape_any (opW x:Nat) w h.1;rwa [hs] at this
 have HN0_5:Hid (∀ w,Calls Tryz.prog 162 #[.int .u32 x,.int .i64 0,.int .i64 5] w (RetD (.int .i64 (fw x 0 5)) w)):=Lib.hid fun w=>number_any x 0 5 hx (by decide) (by decide) w
 have hb0_5:=fw_lt x 0 5
 have HN5_5:Hid (∀ w,Calls Tryz.prog 162 #[.int .u32 x,.int .i64 5,.int .i64 5] w (RetD (.int .i64 (fw x 5 5)) w)):=Lib.hid fun w=>number_any x 5 5 hx (by decide) (by decide) w
 have hb5_5:=fw_lt x 5 5
 have HN16_5:Hid (∀ w,Calls Tryz.prog 162 #[.int .u32 x,.int .i64 16,.int .i64 5] w (RetD (.int .i64 (fw x 16 5)) w)):=Lib.hid fun w=>number_any x 16 5 hx (by decide) (by decide) w
 have hb16_5:=fw_lt x 16 5
 have HD:Hid (decW (opW x:Nat) 15 x=⟨(opW x:Nat),0,0,0,0,0,0,0,0,0⟩):=Lib.hid rfl
 generalize fw x 0 5=f0_5 at*
 generalize fw x 5 5=f5_5 at*
 generalize fw x 16 5=f16_5 at*
 simp only [Int.reducePow] at hb0_5 hb5_5 hb16_5
 generalize opW x=op at*
 clear hw hs
 have hZ:∀ w,(zeroValue 98).run Tryz.prog w=.ok (.agg (inC inZ)) w:=fun w=>by kernel_rfl
 rw [HD.out]
 go_enter Tryz.func146,Tryz.ntmps146
 go_wp2_with (first | (go_at_call 161;((with_reducible refine (HOp.out _ (HT.out.below ?_)).mono ?_);rotate_left;rintro e w' ⟨rfl,m,rfl⟩)) | (go_at_call 80;((with_reducible refine (HSh.out _ (HT.out.below ?_)).mono ?_);rotate_left;rintro e w' ⟨rfl,rfl⟩)) | (go_at_call 162;((with_reducible refine (HN0_5.out _).mono ?_);rintro e w' ⟨rfl,m,rfl⟩)) | (go_at_call 162;((with_reducible refine (HN5_5.out _).mono ?_);rintro e w' ⟨rfl,m,rfl⟩)) | (go_at_call 162;((with_reducible refine (HN16_5.out _).mono ?_);rintro e w' ⟨rfl,m,rfl⟩)))
 refine bodyPost_ret (v:=inV _) (by simp [results,Tryz.results146,go_sem]) rfl ⟨rfl,?_⟩
 all_goals
  repeat' (first | (with_reducible exact Below.refl _ _) | (with_reducible exact Nat.le_refl _) | (with_reducible exact Nat.le_succ _) | (with_reducible refine below_drewN ?_ _) | (with_reducible refine bel_set ?_ ?_) | (with_reducible refine bel_alloc ?_ _))
theorem winst16 (x:Nat) (hx:x < 4294967296) (w:World) (hw:Tab6 w) (hs:shapeI (opW x:Nat)=16):Calls Tryz.prog 146 #[.int .u32 x] w (RetB (inV (decW (opW x:Nat) 16 x)) w):=by
 have HT:=Lib.hid hw
 have HOp:Hid (∀ w,Tab6 w->Calls Tryz.prog 161 #[.int .u32 x] w (RetD (.int .i64 (opW x:Nat)) w)):=Lib.hid fun w h=>Opcode_any x hx w h
 have HSh:Hid (∀ w,Tab6 w->Calls Tryz.prog 80 #[.int .i64 (opW x:Nat)] w (Ret (.int .i64 16) w)):=Lib.hid fun w h=>by have:=Shape_any (opW x:Nat) w h.1;rwa [hs] at this
 have HN0_5:Hid (∀ w,Calls Tryz.prog 162 #[.int .u32 x,.int .i64 0,.int .i64 5] w (RetD (.int .i64 (fw x 0 5)) w)):=Lib.hid fun w=>number_any x 0 5 hx (by decide) (by decide) w
 have hb0_5:=fw_lt x 0 5
 have HN5_5:Hid (∀ w,Calls Tryz.prog 162 #[.int .u32 x,.int .i64 5,.int .i64 5] w (RetD (.int .i64 (fw x 5 5)) w)):=Lib.hid fun w=>number_any x 5 5 hx (by decide) (by decide) w
 have hb5_5:=fw_lt x 5 5
 have HN16_5:Hid (∀ w,Calls Tryz.prog 162 #[.int .u32 x,.int .i64 16,.int .i64 5] w (RetD (.int .i64 (fw x 16 5)) w)):=Lib.hid fun w=>number_any x 16 5 hx (by decide) (by decide) w
 have hb16_5:=fw_lt x 16 5
 have HN12_4:Hid (∀ w,Calls Tryz.prog 162 #[.int .u32 x,.int .i64 12,.int .i64 4] w (RetD (.int .i64 (fw x 12 4)) w)):=Lib.hid fun w=>number_any x 12 4 hx (by decide) (by decide) w
 have hb12_4:=fw_lt x 12 4
 have HD:Hid (decW (opW x:Nat) 16 x=⟨(opW x:Nat),(fw x 0 5),(fw x 5 5),(fw x 16 5),0,0,0,0,0,(fw x 12 4)⟩):=Lib.hid rfl
 generalize fw x 0 5=f0_5 at*
 generalize fw x 5 5=f5_5 at*
 generalize fw x 16 5=f16_5 at*
 generalize fw x 12 4=f12_4 at*
 simp only [Int.reducePow] at hb0_5 hb5_5 hb16_5 hb12_4
 generalize opW x=op at*
 clear hw hs
 have hZ:∀ w,(zeroValue 98).run Tryz.prog w=.ok (.agg (inC inZ)) w:=fun w=>by kernel_rfl
 rw [HD.out]
 go_enter Tryz.func146,Tryz.ntmps146
 go_wp2_with (first | (go_at_call 161;((with_reducible refine (HOp.out _ (HT.out.below ?_)).mono ?_);rotate_left;rintro e w' ⟨rfl,m,rfl⟩)) | (go_at_call 80;((with_reducible refine (HSh.out _ (HT.out.below ?_)).mono ?_);rotate_left;rintro e w' ⟨rfl,rfl⟩)) | (go_at_call 162;((with_reducible refine (HN0_5.out _).mono ?_);rintro e w' ⟨rfl,m,rfl⟩)) | (go_at_call 162;((with_reducible refine (HN5_5.out _).mono ?_);rintro e w' ⟨rfl,m,rfl⟩)) | (go_at_call 162;((with_reducible refine (HN16_5.out _).mono ?_);rintro e w' ⟨rfl,m,rfl⟩)) | (go_at_call 162;((with_reducible refine (HN12_4.out _).mono ?_);rintro e w' ⟨rfl,m,rfl⟩)))
 refine bodyPost_ret (v:=inV _) (by simp [results,Tryz.results146,go_sem]) rfl ⟨rfl,?_⟩
 all_goals
  repeat' (first | (with_reducible exact Below.refl _ _) | (with_reducible exact Nat.le_refl _) | (with_reducible exact Nat.le_succ _) | (with_reducible refine below_drewN ?_ _) | (with_reducible refine bel_set ?_ ?_) | (with_reducible refine bel_alloc ?_ _))
def Throws (w:World) (e:Ending) (w':World):Prop:=e=.panicked [{ v:=.iface 236 (.agg #[]),recovered:=false }]/\Below w.heap.size w w'
theorem wmask_ok (x:Nat) (hx:x < 4294967296) (w:World) (v:Int) (h:decS (fw x 22 1) (fw x 16 6) (fw x 10 6)=(v,0)):Calls Tryz.prog 163 #[.int .u32 x] w (RetB (.int .u64 v) w):=by
 have HN22_1:Hid (∀ w,Calls Tryz.prog 162 #[.int .u32 x,.int .i64 22,.int .i64 1] w (RetD (.int .i64 (fw x 22 1)) w)):=Lib.hid fun w=>number_any x 22 1 hx (by decide) (by decide) w
 have HN16_6:Hid (∀ w,Calls Tryz.prog 162 #[.int .u32 x,.int .i64 16,.int .i64 6] w (RetD (.int .i64 (fw x 16 6)) w)):=Lib.hid fun w=>number_any x 16 6 hx (by decide) (by decide) w
 have HN10_6:Hid (∀ w,Calls Tryz.prog 162 #[.int .u32 x,.int .i64 10,.int .i64 6] w (RetD (.int .i64 (fw x 10 6)) w)):=Lib.hid fun w=>number_any x 10 6 hx (by decide) (by decide) w
 have HD:Hid (∀ w,Calls Tryz.prog 171 #[.int .i64 (fw x 22 1),.int .i64 (fw x 16 6),.int .i64 (fw x 10 6)] w (RetB (.tuple #[.int .u64 v,.int .i64 0]) w)):=Lib.hid fun w=>by
  have:=Decode_any (fw x 22 1) (fw x 16 6) (fw x 10 6) w
  rwa [h] at this
 clear h
 generalize fw x 22 1=fa at*
 generalize fw x 16 6=fb at*
 generalize fw x 10 6=fc at*
 go_enter Tryz.func163,Tryz.ntmps163
 go_wp2_with (first
  | (go_at_call 162;((with_reducible refine (HN22_1.out _).mono ?_);rintro e w' ⟨rfl,m,rfl⟩))
  | (go_at_call 162;((with_reducible refine (HN16_6.out _).mono ?_);rintro e w' ⟨rfl,m,rfl⟩))
  | (go_at_call 162;((with_reducible refine (HN10_6.out _).mono ?_);rintro e w' ⟨rfl,m,rfl⟩))
  | (go_at_call 171;((with_reducible refine (HD.out _).mono ?_);rintro e w' ⟨rfl,hb⟩;replace hb:=Lib.hid ((below_refl_drewN _ _).trans (hb.mono (Nat.le_refl _))))))
 go_ret
 exact ⟨rfl,hb.out⟩
theorem wmask_no (x:Nat) (hx:x < 4294967296) (w:World) (h:(decS (fw x 22 1) (fw x 16 6) (fw x 10 6)).2 ≠ 0):Calls Tryz.prog 163 #[.int .u32 x] w (Throws w):=by
 have HN22_1:Hid (∀ w,Calls Tryz.prog 162 #[.int .u32 x,.int .i64 22,.int .i64 1] w (RetD (.int .i64 (fw x 22 1)) w)):=Lib.hid fun w=>number_any x 22 1 hx (by decide) (by decide) w
 have HN16_6:Hid (∀ w,Calls Tryz.prog 162 #[.int .u32 x,.int .i64 16,.int .i64 6] w (RetD (.int .i64 (fw x 16 6)) w)):=Lib.hid fun w=>number_any x 16 6 hx (by decide) (by decide) w
 have HN10_6:Hid (∀ w,Calls Tryz.prog 162 #[.int .u32 x,.int .i64 10,.int .i64 6] w (RetD (.int .i64 (fw x 10 6)) w)):=Lib.hid fun w=>number_any x 10 6 hx (by decide) (by decide) w
 obtain ⟨v,er,he⟩:∃ v er,decS (fw x 22 1) (fw x 16 6) (fw x 10 6)=(v,er):=⟨_,_,rfl⟩
 rw [he] at h
 have q:(er != 0)=true:=by rw [bne_iff_ne];exact h
 have HD:Hid (∀ w,Calls Tryz.prog 171 #[.int .i64 (fw x 22 1),.int .i64 (fw x 16 6),.int .i64 (fw x 10 6)] w (RetB (.tuple #[.int .u64 v,.int .i64 er]) w)):=Lib.hid fun w=>by
  have:=Decode_any (fw x 22 1) (fw x 16 6) (fw x 10 6) w
  rwa [he] at this
 clear h he
 generalize fw x 22 1=fa at*
 generalize fw x 16 6=fb at*
 generalize fw x 10 6=fc at*
 go_enter Tryz.func163,Tryz.ntmps163
 go_wp2_with (first
  | (go_at_call 162;((with_reducible refine (HN22_1.out _).mono ?_);rintro e w' ⟨rfl,m,rfl⟩))
  | (go_at_call 162;((with_reducible refine (HN16_6.out _).mono ?_);rintro e w' ⟨rfl,m,rfl⟩))
  | (go_at_call 162;((with_reducible refine (HN10_6.out _).mono ?_);rintro e w' ⟨rfl,m,rfl⟩))
  | (go_at_call 171;((with_reducible refine (HD.out _).mono ?_);rintro e w' ⟨rfl,hb⟩;replace hb:=Lib.hid ((below_refl_drewN _ _).trans (hb.mono (Nat.le_refl _))))))
 exact ⟨rfl,rfl,hb.out⟩
theorem frz {w:World} {B T j:Nat} {cs:Array Value} (h:w.heap[B]?=some (.cells cs T (0,0))):w.frozen? ⟨B,j,none⟩=false:=by simp [World.frozen?,h]
theorem cel {w:World} {B T j:Nat} {cs:Array Value} (h:w.heap[B]?=some (.cells cs T (0,0))):w.cell? ⟨B,j,none⟩=cs[j]?:=by rw [World.cell?,h];rfl
theorem two_blocks {w w':World} {a b:Nat} {Z I:Array Value} {T U:TypeId} (hb:Below ((((w.alloc (.cells Z T)).drewN a).alloc (.cells I U)).drewN b).heap.size ((((w.alloc (.cells Z T)).drewN a).alloc (.cells I U)).drewN b) w'):
  w'.heap[w.heap.size]?=some (.cells Z T (0,0))/\w'.heap[w.heap.size+1]?=some (.cells I U (0,0))/\Below w.heap.size w w':=by
 have hA:Below w.heap.size w ((((w.alloc (.cells Z T)).drewN a).alloc (.cells I U)).drewN b):=below_drewN (bel_alloc (below_drewN (bel_alloc (Below.refl _ _) _) _) _) _
 have s1:((w.alloc (.cells Z T)).drewN a).heap.size=w.heap.size+1:=World.size_alloc _ _
 have s2:((((w.alloc (.cells Z T)).drewN a).alloc (.cells I U)).drewN b).heap.size=w.heap.size+1+1:=by
  show (((w.alloc (.cells Z T)).drewN a).alloc (.cells I U)).heap.size=_
  rw [World.size_alloc,s1]
 have h0:((w.alloc (.cells Z T)).drewN a).heap[w.heap.size]?=some (.cells Z T (0,0)):=(MapKept.heap_alloc w (.cells Z T)).1
 have h1:((((w.alloc (.cells Z T)).drewN a).alloc (.cells I U)).drewN b).heap[w.heap.size+1]?=some (.cells I U (0,0)):=by
  have:=(MapKept.heap_alloc ((w.alloc (.cells Z T)).drewN a) (.cells I U)).1
  rw [s1] at this
  exact this
 have h2:((((w.alloc (.cells Z T)).drewN a).alloc (.cells I U)).drewN b).heap[w.heap.size]?=some (.cells Z T (0,0)):=by
  have hq:Below ((w.alloc (.cells Z T)).drewN a).heap.size ((w.alloc (.cells Z T)).drewN a) ((((w.alloc (.cells Z T)).drewN a).alloc (.cells I U)).drewN b):=below_drewN (bel_alloc (Below.refl _ _) _) _
  exact (hq.block w.heap.size (by rw [s1];omega)).trans h0
 refine ⟨(hb.block _ (by rw [s2];omega)).trans h2,(hb.block _ (by rw [s2];omega)).trans h1,?_⟩
 exact hA.trans (hb.mono (by rw [s2];omega))
theorem winst0 (x:Nat) (hx:x < 4294967296) (w:World) (hw:Tab6 w) (hs:shapeI (opW x:Nat)=0):Calls Tryz.prog 146 #[.int .u32 x] w (Throws w):=by
 have HT:=Lib.hid hw
 have HOp:Hid (∀ w,Tab6 w->Calls Tryz.prog 161 #[.int .u32 x] w (RetD (.int .i64 (opW x:Nat)) w)):=Lib.hid fun w h=>Opcode_any x hx w h
 have HSh:Hid (∀ w,Tab6 w->Calls Tryz.prog 80 #[.int .i64 (opW x:Nat)] w (Ret (.int .i64 0) w)):=Lib.hid fun w h=>by have:=Shape_any (opW x:Nat) w h.1;rwa [hs] at this
 have HN0_5:Hid (∀ w,Calls Tryz.prog 162 #[.int .u32 x,.int .i64 0,.int .i64 5] w (RetD (.int .i64 (fw x 0 5)) w)):=Lib.hid fun w=>number_any x 0 5 hx (by decide) (by decide) w
 have HN5_5:Hid (∀ w,Calls Tryz.prog 162 #[.int .u32 x,.int .i64 5,.int .i64 5] w (RetD (.int .i64 (fw x 5 5)) w)):=Lib.hid fun w=>number_any x 5 5 hx (by decide) (by decide) w
 have HN16_5:Hid (∀ w,Calls Tryz.prog 162 #[.int .u32 x,.int .i64 16,.int .i64 5] w (RetD (.int .i64 (fw x 16 5)) w)):=Lib.hid fun w=>number_any x 16 5 hx (by decide) (by decide) w
 generalize fw x 0 5=f0_5 at*
 generalize fw x 5 5=f5_5 at*
 generalize fw x 16 5=f16_5 at*
 generalize opW x=op at*
 clear hw hs
 have hZ:∀ w,(zeroValue 98).run Tryz.prog w=.ok (.agg (inC inZ)) w:=fun w=>by kernel_rfl
 go_enter Tryz.func146,Tryz.ntmps146
 go_wp2_with (first
  | (go_at_call 161;((with_reducible refine (HOp.out _ (HT.out.below ?_)).mono ?_);rotate_left;rintro e w' ⟨rfl,m,rfl⟩))
  | (go_at_call 80;((with_reducible refine (HSh.out _ (HT.out.below ?_)).mono ?_);rotate_left;rintro e w' ⟨rfl,rfl⟩))
  | (go_at_call 162;((with_reducible refine (HN0_5.out _).mono ?_);rintro e w' ⟨rfl,m,rfl⟩))
  | (go_at_call 162;((with_reducible refine (HN5_5.out _).mono ?_);rintro e w' ⟨rfl,m,rfl⟩))
  | (go_at_call 162;((with_reducible refine (HN16_5.out _).mono ?_);rintro e w' ⟨rfl,m,rfl⟩)))
 refine ⟨rfl,rfl,?_⟩
 all_goals
  repeat' (first | (with_reducible exact Below.refl _ _) | (with_reducible exact Nat.le_refl _) | (with_reducible exact Nat.le_succ _) | (with_reducible refine below_drewN ?_ _) | (with_reducible refine bel_set ?_ ?_) | (with_reducible refine bel_alloc ?_ _))
theorem winst3 (x:Nat) (hx:x < 4294967296) (w:World) (hw:Tab6 w) (hs:shapeI (opW x:Nat)=3) (v:Int) (h:decS (fw x 22 1) (fw x 16 6) (fw x 10 6)=(v,0)):Calls Tryz.prog 146 #[.int .u32 x] w (RetB (inV (decW (opW x:Nat) 3 x)) w):=by
 have HM:Hid (∀ w,Calls Tryz.prog 163 #[.int .u32 x] w (RetB (.int .u64 v) w)):=Lib.hid fun w=>wmask_ok x hx w v h
 have HD:Hid (decW (opW x:Nat) 3 x=⟨(opW x:Nat),fw x 0 5,fw x 5 5,0,0,0,v,0,0,0⟩):=Lib.hid (by simp only [decW,h])
 clear h
 have HT:=Lib.hid hw
 have HOp:Hid (∀ w,Tab6 w->Calls Tryz.prog 161 #[.int .u32 x] w (RetD (.int .i64 (opW x:Nat)) w)):=Lib.hid fun w h=>Opcode_any x hx w h
 have HSh:Hid (∀ w,Tab6 w->Calls Tryz.prog 80 #[.int .i64 (opW x:Nat)] w (Ret (.int .i64 3) w)):=Lib.hid fun w h=>by have:=Shape_any (opW x:Nat) w h.1;rwa [hs] at this
 have HN0_5:Hid (∀ w,Calls Tryz.prog 162 #[.int .u32 x,.int .i64 0,.int .i64 5] w (RetD (.int .i64 (fw x 0 5)) w)):=Lib.hid fun w=>number_any x 0 5 hx (by decide) (by decide) w
 have HN5_5:Hid (∀ w,Calls Tryz.prog 162 #[.int .u32 x,.int .i64 5,.int .i64 5] w (RetD (.int .i64 (fw x 5 5)) w)):=Lib.hid fun w=>number_any x 5 5 hx (by decide) (by decide) w
 have HN16_5:Hid (∀ w,Calls Tryz.prog 162 #[.int .u32 x,.int .i64 16,.int .i64 5] w (RetD (.int .i64 (fw x 16 5)) w)):=Lib.hid fun w=>number_any x 16 5 hx (by decide) (by decide) w
 generalize fw x 0 5=f0_5 at*
 generalize fw x 5 5=f5_5 at*
 generalize fw x 16 5=f16_5 at*
 generalize opW x=op at*
 clear hw hs
 have hZ:∀ w,(zeroValue 98).run Tryz.prog w=.ok (.agg (inC inZ)) w:=fun w=>by kernel_rfl
 rw [HD.out]
 go_enter Tryz.func146,Tryz.ntmps146
 go_wp2_with (first
  | (go_at_call 161;((with_reducible refine (HOp.out _ (HT.out.below ?_)).mono ?_);rotate_left;rintro e w' ⟨rfl,m,rfl⟩))
  | (go_at_call 80;((with_reducible refine (HSh.out _ (HT.out.below ?_)).mono ?_);rotate_left;rintro e w' ⟨rfl,rfl⟩))
  | (go_at_call 162;((with_reducible refine (HN0_5.out _).mono ?_);rintro e w' ⟨rfl,m,rfl⟩))
  | (go_at_call 162;((with_reducible refine (HN5_5.out _).mono ?_);rintro e w' ⟨rfl,m,rfl⟩))
  | (go_at_call 162;((with_reducible refine (HN16_5.out _).mono ?_);rintro e w' ⟨rfl,m,rfl⟩))
  | (go_at_call 163;((with_reducible refine (HM.out _).mono ?_);rintro e w2 ⟨rfl,hb⟩;obtain ⟨hz2,hi2,hbw⟩:=two_blocks hb;have c0:w2.cell? ⟨w.heap.size+1,0,none⟩=some (.int .i64 op):=cel hi2;have c1:w2.cell? ⟨w.heap.size+1,1,none⟩=some (.int .i64 0):=cel hi2;have c2:w2.cell? ⟨w.heap.size+1,2,none⟩=some (.int .i64 0):=cel hi2;have c3:w2.cell? ⟨w.heap.size+1,3,none⟩=some (.int .i64 0):=cel hi2;have c4:w2.cell? ⟨w.heap.size+1,4,none⟩=some (.int .i64 0):=cel hi2;have c5:w2.cell? ⟨w.heap.size+1,5,none⟩=some (.int .i64 0):=cel hi2;have c6:w2.cell? ⟨w.heap.size+1,6,none⟩=some (.int .u64 0):=cel hi2;have c7:w2.cell? ⟨w.heap.size+1,7,none⟩=some (.int .i64 0):=cel hi2;have c8:w2.cell? ⟨w.heap.size+1,8,none⟩=some (.int .i64 0):=cel hi2;have c9:w2.cell? ⟨w.heap.size+1,9,none⟩=some (.int .i64 0):=cel hi2;have z0:w2.cell? ⟨w.heap.size,0,none⟩=some (.int .i64 0):=cel hz2;have z1:w2.cell? ⟨w.heap.size,1,none⟩=some (.int .i64 0):=cel hz2;have z2:w2.cell? ⟨w.heap.size,2,none⟩=some (.int .i64 0):=cel hz2;have z3:w2.cell? ⟨w.heap.size,3,none⟩=some (.int .i64 0):=cel hz2;have z4:w2.cell? ⟨w.heap.size,4,none⟩=some (.int .i64 0):=cel hz2;have z5:w2.cell? ⟨w.heap.size,5,none⟩=some (.int .i64 0):=cel hz2;have z6:w2.cell? ⟨w.heap.size,6,none⟩=some (.int .u64 0):=cel hz2;have z7:w2.cell? ⟨w.heap.size,7,none⟩=some (.int .i64 0):=cel hz2;have z8:w2.cell? ⟨w.heap.size,8,none⟩=some (.int .i64 0):=cel hz2;have z9:w2.cell? ⟨w.heap.size,9,none⟩=some (.int .i64 0):=cel hz2;have q0:w2.frozen? ⟨w.heap.size+1,0,none⟩=false:=frz hi2;have q1:w2.frozen? ⟨w.heap.size+1,1,none⟩=false:=frz hi2;have q2:w2.frozen? ⟨w.heap.size+1,2,none⟩=false:=frz hi2;have q3:w2.frozen? ⟨w.heap.size+1,3,none⟩=false:=frz hi2;have q4:w2.frozen? ⟨w.heap.size+1,4,none⟩=false:=frz hi2;have q5:w2.frozen? ⟨w.heap.size+1,5,none⟩=false:=frz hi2;have q6:w2.frozen? ⟨w.heap.size+1,6,none⟩=false:=frz hi2;have q7:w2.frozen? ⟨w.heap.size+1,7,none⟩=false:=frz hi2;have q8:w2.frozen? ⟨w.heap.size+1,8,none⟩=false:=frz hi2;have q9:w2.frozen? ⟨w.heap.size+1,9,none⟩=false:=frz hi2;have y0:w2.frozen? ⟨w.heap.size,0,none⟩=false:=frz hz2;have y1:w2.frozen? ⟨w.heap.size,1,none⟩=false:=frz hz2;have y2:w2.frozen? ⟨w.heap.size,2,none⟩=false:=frz hz2;have y3:w2.frozen? ⟨w.heap.size,3,none⟩=false:=frz hz2;have y4:w2.frozen? ⟨w.heap.size,4,none⟩=false:=frz hz2;have y5:w2.frozen? ⟨w.heap.size,5,none⟩=false:=frz hz2;have y6:w2.frozen? ⟨w.heap.size,6,none⟩=false:=frz hz2;have y7:w2.frozen? ⟨w.heap.size,7,none⟩=false:=frz hz2;have y8:w2.frozen? ⟨w.heap.size,8,none⟩=false:=frz hz2;have y9:w2.frozen? ⟨w.heap.size,9,none⟩=false:=frz hz2;clear hz2 hi2 hb)))
 refine bodyPost_ret (v:=inV _) (by simp [results,Tryz.results146,go_sem, *]) rfl ⟨rfl,?_⟩
 all_goals
  repeat' (first | (with_reducible exact Below.refl _ _) | (with_reducible exact Nat.le_refl _) | (with_reducible exact Nat.le_succ _) | (with_reducible exact hbw) | (with_reducible refine below_drewN ?_ _) | (with_reducible refine bel_set ?_ ?_) | (with_reducible refine bel_alloc ?_ _))
theorem winst3_no (x:Nat) (hx:x < 4294967296) (w:World) (hw:Tab6 w) (hs:shapeI (opW x:Nat)=3) (h:(decS (fw x 22 1) (fw x 16 6) (fw x 10 6)).2 ≠ 0):Calls Tryz.prog 146 #[.int .u32 x] w (Throws w):=by
 have HM:Hid (∀ w,Calls Tryz.prog 163 #[.int .u32 x] w (Throws w)):=Lib.hid fun w=>wmask_no x hx w h
 clear h
 have HT:=Lib.hid hw
 have HOp:Hid (∀ w,Tab6 w->Calls Tryz.prog 161 #[.int .u32 x] w (RetD (.int .i64 (opW x:Nat)) w)):=Lib.hid fun w h=>Opcode_any x hx w h
 have HSh:Hid (∀ w,Tab6 w->Calls Tryz.prog 80 #[.int .i64 (opW x:Nat)] w (Ret (.int .i64 3) w)):=Lib.hid fun w h=>by have:=Shape_any (opW x:Nat) w h.1;rwa [hs] at this
 have HN0_5:Hid (∀ w,Calls Tryz.prog 162 #[.int .u32 x,.int .i64 0,.int .i64 5] w (RetD (.int .i64 (fw x 0 5)) w)):=Lib.hid fun w=>number_any x 0 5 hx (by decide) (by decide) w
 have HN5_5:Hid (∀ w,Calls Tryz.prog 162 #[.int .u32 x,.int .i64 5,.int .i64 5] w (RetD (.int .i64 (fw x 5 5)) w)):=Lib.hid fun w=>number_any x 5 5 hx (by decide) (by decide) w
 have HN16_5:Hid (∀ w,Calls Tryz.prog 162 #[.int .u32 x,.int .i64 16,.int .i64 5] w (RetD (.int .i64 (fw x 16 5)) w)):=Lib.hid fun w=>number_any x 16 5 hx (by decide) (by decide) w
 generalize fw x 0 5=f0_5 at*
 generalize fw x 5 5=f5_5 at*
 generalize fw x 16 5=f16_5 at*
 generalize opW x=op at*
 clear hw hs
 have hZ:∀ w,(zeroValue 98).run Tryz.prog w=.ok (.agg (inC inZ)) w:=fun w=>by kernel_rfl
 go_enter Tryz.func146,Tryz.ntmps146
 go_wp2_with (first
  | (go_at_call 161;((with_reducible refine (HOp.out _ (HT.out.below ?_)).mono ?_);rotate_left;rintro e w' ⟨rfl,m,rfl⟩))
  | (go_at_call 80;((with_reducible refine (HSh.out _ (HT.out.below ?_)).mono ?_);rotate_left;rintro e w' ⟨rfl,rfl⟩))
  | (go_at_call 162;((with_reducible refine (HN0_5.out _).mono ?_);rintro e w' ⟨rfl,m,rfl⟩))
  | (go_at_call 162;((with_reducible refine (HN5_5.out _).mono ?_);rintro e w' ⟨rfl,m,rfl⟩))
  | (go_at_call 162;((with_reducible refine (HN16_5.out _).mono ?_);rintro e w' ⟨rfl,m,rfl⟩))
  | (go_at_call 163;((with_reducible refine (HM.out _).mono ?_);rintro e w2 ⟨rfl,hb⟩;have hbw:=(two_blocks hb).2.2;clear hb)))
 refine ⟨rfl,rfl,?_⟩
 all_goals
  repeat' (first | (with_reducible exact Below.refl _ _) | (with_reducible exact Nat.le_refl _) | (with_reducible exact Nat.le_succ _) | (with_reducible exact hbw) | (with_reducible refine below_drewN ?_ _) | (with_reducible refine bel_set ?_ ?_) | (with_reducible refine bel_alloc ?_ _))
def noI (x:Nat):Prop:=shapeI (opW x:Nat)=0\/(shapeI (opW x:Nat)=3/\(decS (fw x 22 1) (fw x 16 6) (fw x 10 6)).2 ≠ 0)
theorem noI_or (x:Nat):noI x\/¬ noI x:=Classical.em _
theorem noI_not {x:Nat} (h:noI x):isI (readW x)=false:=by
 cases hI:isI (readW x)
 ·rfl
 ·exfalso
  rcases h with h | ⟨h,h2⟩
  ·have:=isI_shape hI
   rw [readW_op] at this;exact this h
  ·have h3:=(isI_of (s:=3) hI (by rw [readW_op];exact h)).2.2
   unfold readW at h3
   rw [h] at h3
   have h4:isS (decS (fw x 22 1) (fw x 16 6) (fw x 10 6)).1.toNat=true:=by simpa [numI,decW] using h3
   have:=(dec_enc h4).2
   rw [this] at h2;exact h2 rfl
theorem winst_no (x:Nat) (hx:x < 4294967296) (w:World) (hw:Tab6 w) (h:noI x):Calls Tryz.prog 146 #[.int .u32 x] w (Throws w):=by
 rcases h with h | ⟨h,h2⟩
 ·exact winst0 x hx w hw h
 ·exact winst3_no x hx w hw h h2
theorem winst_yes (x:Nat) (hx:x < 4294967296) (w:World) (hw:Tab6 w) (h:¬ noI x):Calls Tryz.prog 146 #[.int .u32 x] w (RetB (inV (readW x)) w):=by
 have hb:=shapeI_b (opW x:Nat)
 obtain ⟨s,hs⟩:=Int.eq_ofNat_of_zero_le hb.1
 unfold readW
 unfold noI at h
 rw [hs] at h ⊢
 rw [Int.toNat_natCast]
 have hc:s=1\/s=2\/s=3\/s=4\/s=5\/s=6\/s=7\/s=8\/s=9\/s=10\/s=11\/s=12\/s=13\/s=14\/s=15\/s=16:=by omega
 rcases hc with rfl | rfl | rfl | rfl | rfl | rfl | rfl | rfl | rfl | rfl | rfl | rfl | rfl | rfl | rfl | rfl
 ·exact winst1 x hx w hw hs
 ·exact winst2 x hx w hw hs
 ·have h2:(decS (fw x 22 1) (fw x 16 6) (fw x 10 6)).2=0:=Classical.byContradiction fun hn=>h (.inr ⟨rfl,hn⟩)
  exact winst3 x hx w hw hs (decS (fw x 22 1) (fw x 16 6) (fw x 10 6)).1 (Prod.ext rfl h2)
 ·exact winst4 x hx w hw hs
 ·exact winst5 x hx w hw hs
 ·exact winst6 x hx w hw hs
 ·exact winst7 x hx w hw hs
 ·exact winst8 x hx w hw hs
 ·exact winst9 x hx w hw hs
 ·exact winst10 x hx w hw hs
 ·exact winst11 x hx w hw hs
 ·exact winst12 x hx w hw hs
 ·exact winst13 x hx w hw hs
 ·exact winst14 x hx w hw hs
 ·exact winst15 x hx w hw hs
 ·exact winst16 x hx w hw hs
end Go.Proofs.YtobdldadfipcgaaGreatDoor
