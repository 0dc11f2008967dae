/- code.fields. code.fields, where a mask is told or a number is packed. code.Encode. code.Decode: a panic, recovered. which operations fit a kind. The tie of a table of rows of integers: what the row lists is what the cells hold. Nothing of the program. part.Fits. The row's five tables. part.number, part.bytes, fix.covers: a number's bytes, the lowest first. fix.covers. -/
import Derived.Test.YtobdldadfipcgaaGreatDoorqC
import Derived.RegionTactic
import Derived.Test.YtobdldadfipcgaaGreatDoorqD
import Derived.Defers
import Derived.Recover
import Derived.Laws.Pointers
import Derived.Lib.LaidTab
import Derived.ChangeArms
import Derived.Deep.MidRow
import Derived.Test.YtobdldadfipcgaaGreatDoorqA
import Derived.Lib.Strings
import Derived.Laws.BytesArg
import Derived.Laws.IdiomStrings
set_option maxRecDepth 100000
set_option maxHeartbeats 8000000
set_option linter.unusedVariables false
set_option linter.unusedSimpArgs false
namespace Go.Proofs.YtobdldadfipcgaaGreatDoor
open Go.RowKit
def cellsF (l:List F3):List Value:=l.flatMap fun f=>[.int .i64 f.1,.int .i64 f.2.1,.int .u32 f.2.2]
theorem cellsF_get (l:List F3) (k:Nat) (h:k < l.length):(cellsF l)[k*3]?=some (.int .i64 l[k].1)/\(cellsF l)[k*3+1]?=some (.int .i64 l[k].2.1)/\(cellsF l)[k*3+2]?=some (.int .u32 l[k].2.2):=by
 have g:=flat_get (enc:=fun f:F3=>[Value.int .i64 f.1,.int .i64 f.2.1,.int .u32 f.2.2]) (sz:=3) (fun _=>rfl) l k h
 exact ⟨(g 0 (by decide)).trans rfl,(g 1 (by decide)).trans rfl,(g 2 (by decide)).trans rfl⟩
theorem FS.lit (w:World) (T:TypeId) (l:List F3) (hwf:∀ f ∈ l,0<=f.2.2/\f.2.2 < 4294967296 /\ -9223372036854775808<=f.1/\f.1<=9223372036854775807 /\ -9223372036854775808<=f.2.1/\f.2.1<=9223372036854775807)
  (cs:Array Value) (hcs:cs.toList=cellsF l) (B:Nat) (hB:w.heap.size=B):FS (w.alloc (.cells cs T)) (w.alloc (.cells cs T)).heap.size (some ⟨B,0,none⟩) l.length l:=by
 subst hB
 refine ⟨rfl,hwf,fun _=>⟨w.heap.size,0,rfl,by simp,fun k hk=>?_⟩⟩
 have e:=(MapKept.heap_alloc w (.cells cs T)).1
 have hc:∀ j,(w.alloc (.cells cs T)).cell? ⟨w.heap.size,j,none⟩=(cellsF l)[j]?:=by
  intro j
  unfold World.cell?
  rw [e]
  simp only
  rw [<-hcs];simp
 obtain ⟨g0,g1,g2⟩:=cellsF_get l k hk
 refine ⟨?_,?_,?_⟩
 ·rw [show 0+k*3=k*3 from by omega,hc];exact g0
 ·rw [show 0+k*3+1=k*3+1 from by omega,hc];exact g1
 ·rw [show 0+k*3+2=k*3+2 from by omega,hc];exact g2
def RetF (l:List F3) (w:World) (e:Ending) (w':World):Prop:=
 ∃ a c,e=.returned (.slice a l.length c)/\FS w' w'.heap.size a l.length l/\Below w.heap.size w w'
theorem wfF {l:List F3} (h1:okF l) (h2:∀ f ∈ l,rightB f.1 f.2.1=true):∀ f ∈ l,0<=f.2.2/\f.2.2 < 4294967296 /\ -9223372036854775808<=f.1/\f.1<=9223372036854775807 /\ -9223372036854775808<=f.2.1/\f.2.1<=9223372036854775807:=by
 intro f hf
 have a:=h1 f hf
 have b:=h2 f hf
 simp only [rightB,decide_eq_true_eq] at b
 have hp:=pow32 f.2.1 (by omega)
 omega
theorem bel4 (w:World) (a b c d:Obj):Below w.heap.size w ((((w.alloc a).alloc b).alloc c).alloc d):=
 ((((Below.refl w.heap.size w).alloc (Nat.le_refl _) _).alloc (by simp) _).alloc (by simp;omega) _).alloc (by simp;omega) _
theorem bel5 (w:World) (a b c d e:Obj):Below w.heap.size w (((((w.alloc a).alloc b).alloc c).alloc d).alloc e):=(bel4 w a b c d).alloc (by simp;omega) _
theorem siz4 (w:World) (a b c d:Obj):((((w.alloc a).alloc b).alloc c).alloc d).heap.size=w.heap.size+1+1+1+1:=by simp
theorem fields1 (o d n m a x k h t c:Int) (w:World) (hw:Tab6 w) (hs:shapeI o=1) (hI:isI ⟨o,d,n,m,a,x,k,h,t,c⟩=true) (hi:InB ⟨o,d,n,m,a,x,k,h,t,c⟩):
  Calls Tryz.prog 58 #[inV ⟨o,d,n,m,a,x,k,h,t,c⟩] w (RetF (fldS 1 ⟨o,d,n,m,a,x,k,h,t,c⟩) w):=by
 have hf:=facts1 hs hI
 have HWF:=Lib.hid (wfF (enc1 hs hI).1 (apartL_right _ _ (apart_t 1 _ (by omega)).1))
 have HSh:Hid (∀ w,Tab6 w->Calls Tryz.prog 80 #[.int .i64 o] w (Ret (.int .i64 1) w)):=Lib.hid fun w h=>by have:=Shape_any o w h.1;rwa [hs] at this
 have HT:=Lib.hid hw
 clear hw hs hI hi
 have tq:t.tdiv 16=t / 16:=Int.tdiv_eq_ediv_of_nonneg (by omega)
 have TQ:=Lib.hid tq
 clear tq
 go_enter Tryz.func58,Tryz.ntmps58
 go_wp2_with (first | (go_at_call 80;((with_reducible refine (HSh.out _ (HT.out.below (bel4 _ _ _ _ _))).mono ?_);rintro e w' ⟨rfl,rfl⟩)))
 go_ret
 refine ⟨some ⟨_,0,none⟩,_,rfl,?_,bel5 _ _ _ _ _ _⟩
 refine FS.lit _ _ _ HWF.out _ ?_ _ (siz4 _ _ _ _ _)
 simp [cellsF,fldS,TQ.out]
theorem fields2 (o d n m a x k h t c:Int) (w:World) (hw:Tab6 w) (hs:shapeI o=2) (hI:isI ⟨o,d,n,m,a,x,k,h,t,c⟩=true) (hi:InB ⟨o,d,n,m,a,x,k,h,t,c⟩):
  Calls Tryz.prog 58 #[inV ⟨o,d,n,m,a,x,k,h,t,c⟩] w (RetF (fldS 2 ⟨o,d,n,m,a,x,k,h,t,c⟩) w):=by
 have hf:=facts2 hs hI
 have HWF:=Lib.hid (wfF (enc2 hs hI).1 (apartL_right _ _ (apart_t 2 _ (by omega)).1))
 have HSh:Hid (∀ w,Tab6 w->Calls Tryz.prog 80 #[.int .i64 o] w (Ret (.int .i64 2) w)):=Lib.hid fun w h=>by have:=Shape_any o w h.1;rwa [hs] at this
 have HT:=Lib.hid hw
 clear hw hs hI hi
 have tq:t.tdiv 12=t / 12:=Int.tdiv_eq_ediv_of_nonneg (by omega)
 have TQ:=Lib.hid tq
 clear tq
 go_enter Tryz.func58,Tryz.ntmps58
 go_wp2_with (first | (go_at_call 80;((with_reducible refine (HSh.out _ (HT.out.below (bel4 _ _ _ _ _))).mono ?_);rintro e w' ⟨rfl,rfl⟩)))
 go_ret
 refine ⟨some ⟨_,0,none⟩,_,rfl,?_,bel5 _ _ _ _ _ _⟩
 refine FS.lit _ _ _ HWF.out _ ?_ _ (siz4 _ _ _ _ _)
 simp [cellsF,fldS,TQ.out]
theorem fields4 (o d n m a x k h t c:Int) (w:World) (hw:Tab6 w) (hs:shapeI o=4) (hI:isI ⟨o,d,n,m,a,x,k,h,t,c⟩=true) (hi:InB ⟨o,d,n,m,a,x,k,h,t,c⟩):
  Calls Tryz.prog 58 #[inV ⟨o,d,n,m,a,x,k,h,t,c⟩] w (RetF (fldS 4 ⟨o,d,n,m,a,x,k,h,t,c⟩) w):=by
 have hf:=facts4 hs hI
 have HWF:=Lib.hid (wfF (enc4 hs hI).1 (apartL_right _ _ (apart_t 4 _ (by omega)).1))
 have HSh:Hid (∀ w,Tab6 w->Calls Tryz.prog 80 #[.int .i64 o] w (Ret (.int .i64 4) w)):=Lib.hid fun w h=>by have:=Shape_any o w h.1;rwa [hs] at this
 have HT:=Lib.hid hw
 clear hw hs hI hi
 go_enter Tryz.func58,Tryz.ntmps58
 go_wp2_with (first | (go_at_call 80;((with_reducible refine (HSh.out _ (HT.out.below (bel4 _ _ _ _ _))).mono ?_);rintro e w' ⟨rfl,rfl⟩)))
 go_ret
 refine ⟨some ⟨_,0,none⟩,_,rfl,?_,bel5 _ _ _ _ _ _⟩
 refine FS.lit _ _ _ HWF.out _ ?_ _ (siz4 _ _ _ _ _)
 simp [cellsF,fldS]
theorem fields5 (o d n m a x k h t c:Int) (w:World) (hw:Tab6 w) (hs:shapeI o=5) (hI:isI ⟨o,d,n,m,a,x,k,h,t,c⟩=true) (hi:InB ⟨o,d,n,m,a,x,k,h,t,c⟩):
  Calls Tryz.prog 58 #[inV ⟨o,d,n,m,a,x,k,h,t,c⟩] w (RetF (fldS 5 ⟨o,d,n,m,a,x,k,h,t,c⟩) w):=by
 have hf:=facts5 hs hI
 have HWF:=Lib.hid (wfF (enc5 hs hI).1 (apartL_right _ _ (apart_t 5 _ (by omega)).1))
 have HSh:Hid (∀ w,Tab6 w->Calls Tryz.prog 80 #[.int .i64 o] w (Ret (.int .i64 5) w)):=Lib.hid fun w h=>by have:=Shape_any o w h.1;rwa [hs] at this
 have HT:=Lib.hid hw
 clear hw hs hI hi
 go_enter Tryz.func58,Tryz.ntmps58
 go_wp2_with (first | (go_at_call 80;((with_reducible refine (HSh.out _ (HT.out.below (bel4 _ _ _ _ _))).mono ?_);rintro e w' ⟨rfl,rfl⟩)))
 go_ret
 refine ⟨some ⟨_,0,none⟩,_,rfl,?_,bel5 _ _ _ _ _ _⟩
 refine FS.lit _ _ _ HWF.out _ ?_ _ (siz4 _ _ _ _ _)
 simp [cellsF,fldS]
theorem fields6 (o d n m a x k h t c:Int) (w:World) (hw:Tab6 w) (hs:shapeI o=6) (hI:isI ⟨o,d,n,m,a,x,k,h,t,c⟩=true) (hi:InB ⟨o,d,n,m,a,x,k,h,t,c⟩):
  Calls Tryz.prog 58 #[inV ⟨o,d,n,m,a,x,k,h,t,c⟩] w (RetF (fldS 6 ⟨o,d,n,m,a,x,k,h,t,c⟩) w):=by
 have hf:=facts6 hs hI
 have HWF:=Lib.hid (wfF (enc6 hs hI).1 (apartL_right _ _ (apart_t 6 _ (by omega)).1))
 have HSh:Hid (∀ w,Tab6 w->Calls Tryz.prog 80 #[.int .i64 o] w (Ret (.int .i64 6) w)):=Lib.hid fun w h=>by have:=Shape_any o w h.1;rwa [hs] at this
 have HT:=Lib.hid hw
 clear hw hs hI hi
 go_enter Tryz.func58,Tryz.ntmps58
 go_wp2_with (first | (go_at_call 80;((with_reducible refine (HSh.out _ (HT.out.below (bel4 _ _ _ _ _))).mono ?_);rintro e w' ⟨rfl,rfl⟩)))
 go_ret
 refine ⟨some ⟨_,0,none⟩,_,rfl,?_,bel5 _ _ _ _ _ _⟩
 refine FS.lit _ _ _ HWF.out _ ?_ _ (siz4 _ _ _ _ _)
 simp [cellsF,fldS]
theorem fields7 (o d n m a x k h t c:Int) (w:World) (hw:Tab6 w) (hs:shapeI o=7) (hI:isI ⟨o,d,n,m,a,x,k,h,t,c⟩=true) (hi:InB ⟨o,d,n,m,a,x,k,h,t,c⟩):
  Calls Tryz.prog 58 #[inV ⟨o,d,n,m,a,x,k,h,t,c⟩] w (RetF (fldS 7 ⟨o,d,n,m,a,x,k,h,t,c⟩) w):=by
 have hf:=facts7 hs hI
 have HWF:=Lib.hid (wfF (enc7 hs hI).1 (apartL_right _ _ (apart_t 7 _ (by omega)).1))
 have HSh:Hid (∀ w,Tab6 w->Calls Tryz.prog 80 #[.int .i64 o] w (Ret (.int .i64 7) w)):=Lib.hid fun w h=>by have:=Shape_any o w h.1;rwa [hs] at this
 have HT:=Lib.hid hw
 clear hw hs hI hi
 have tq:x.tdiv 8=x / 8:=Int.tdiv_eq_ediv_of_nonneg (by omega)
 have TQ:=Lib.hid tq
 clear tq
 go_enter Tryz.func58,Tryz.ntmps58
 go_wp2_with (first | (go_at_call 80;((with_reducible refine (HSh.out _ (HT.out.below (bel4 _ _ _ _ _))).mono ?_);rintro e w' ⟨rfl,rfl⟩)))
 go_ret
 refine ⟨some ⟨_,0,none⟩,_,rfl,?_,bel5 _ _ _ _ _ _⟩
 refine FS.lit _ _ _ HWF.out _ ?_ _ (siz4 _ _ _ _ _)
 simp [cellsF,fldS,TQ.out]
theorem fields8 (o d n m a x k h t c:Int) (w:World) (hw:Tab6 w) (hs:shapeI o=8) (hI:isI ⟨o,d,n,m,a,x,k,h,t,c⟩=true) (hi:InB ⟨o,d,n,m,a,x,k,h,t,c⟩):
  Calls Tryz.prog 58 #[inV ⟨o,d,n,m,a,x,k,h,t,c⟩] w (RetF (fldS 8 ⟨o,d,n,m,a,x,k,h,t,c⟩) w):=by
 have hf:=facts8 hs hI
 have HWF:=Lib.hid (wfF (enc8 hs hI).1 (apartL_right _ _ (apart_t 8 _ (by omega)).1))
 have HSh:Hid (∀ w,Tab6 w->Calls Tryz.prog 80 #[.int .i64 o] w (Ret (.int .i64 8) w)):=Lib.hid fun w h=>by have:=Shape_any o w h.1;rwa [hs] at this
 have HT:=Lib.hid hw
 clear hw hs hI hi
 go_enter Tryz.func58,Tryz.ntmps58
 go_wp2_with (first | (go_at_call 80;((with_reducible refine (HSh.out _ (HT.out.below (bel4 _ _ _ _ _))).mono ?_);rintro e w' ⟨rfl,rfl⟩)))
 go_ret
 refine ⟨some ⟨_,0,none⟩,_,rfl,?_,bel5 _ _ _ _ _ _⟩
 refine FS.lit _ _ _ HWF.out _ ?_ _ (siz4 _ _ _ _ _)
 simp [cellsF,fldS]
theorem fields13 (o d n m a x k h t c:Int) (w:World) (hw:Tab6 w) (hs:shapeI o=13) (hI:isI ⟨o,d,n,m,a,x,k,h,t,c⟩=true) (hi:InB ⟨o,d,n,m,a,x,k,h,t,c⟩):
  Calls Tryz.prog 58 #[inV ⟨o,d,n,m,a,x,k,h,t,c⟩] w (RetF (fldS 13 ⟨o,d,n,m,a,x,k,h,t,c⟩) w):=by
 have hf:=facts13 hs hI
 have HWF:=Lib.hid (wfF (enc13 hs hI).1 (apartL_right _ _ (apart_t 13 _ (by omega)).1))
 have HSh:Hid (∀ w,Tab6 w->Calls Tryz.prog 80 #[.int .i64 o] w (Ret (.int .i64 13) w)):=Lib.hid fun w h=>by have:=Shape_any o w h.1;rwa [hs] at this
 have HT:=Lib.hid hw
 clear hw hs hI hi
 go_enter Tryz.func58,Tryz.ntmps58
 go_wp2_with (first | (go_at_call 80;((with_reducible refine (HSh.out _ (HT.out.below (bel4 _ _ _ _ _))).mono ?_);rintro e w' ⟨rfl,rfl⟩)))
 go_ret
 refine ⟨some ⟨_,0,none⟩,_,rfl,?_,bel5 _ _ _ _ _ _⟩
 refine FS.lit _ _ _ HWF.out _ ?_ _ (siz4 _ _ _ _ _)
 simp [cellsF,fldS]
theorem fields14 (o d n m a x k h t c:Int) (w:World) (hw:Tab6 w) (hs:shapeI o=14) (hI:isI ⟨o,d,n,m,a,x,k,h,t,c⟩=true) (hi:InB ⟨o,d,n,m,a,x,k,h,t,c⟩):
  Calls Tryz.prog 58 #[inV ⟨o,d,n,m,a,x,k,h,t,c⟩] w (RetF (fldS 14 ⟨o,d,n,m,a,x,k,h,t,c⟩) w):=by
 have hf:=facts14 hs hI
 have HWF:=Lib.hid (wfF (enc14 hs hI).1 (apartL_right _ _ (apart_t 14 _ (by omega)).1))
 have HSh:Hid (∀ w,Tab6 w->Calls Tryz.prog 80 #[.int .i64 o] w (Ret (.int .i64 14) w)):=Lib.hid fun w h=>by have:=Shape_any o w h.1;rwa [hs] at this
 have HT:=Lib.hid hw
 clear hw hs hI hi
 go_enter Tryz.func58,Tryz.ntmps58
 go_wp2_with (first | (go_at_call 80;((with_reducible refine (HSh.out _ (HT.out.below (bel4 _ _ _ _ _))).mono ?_);rintro e w' ⟨rfl,rfl⟩)))
 go_ret
 refine ⟨some ⟨_,0,none⟩,_,rfl,?_,bel5 _ _ _ _ _ _⟩
 refine FS.lit _ _ _ HWF.out _ ?_ _ (siz4 _ _ _ _ _)
 simp [cellsF,fldS]
theorem fields15 (o d n m a x k h t c:Int) (w:World) (hw:Tab6 w) (hs:shapeI o=15) (hI:isI ⟨o,d,n,m,a,x,k,h,t,c⟩=true) (hi:InB ⟨o,d,n,m,a,x,k,h,t,c⟩):
  Calls Tryz.prog 58 #[inV ⟨o,d,n,m,a,x,k,h,t,c⟩] w (RetF (fldS 15 ⟨o,d,n,m,a,x,k,h,t,c⟩) w):=by
 have hf:=facts15 hs hI
 have HWF:=Lib.hid (wfF (enc15 hs hI).1 (apartL_right _ _ (apart_t 15 _ (by omega)).1))
 have HSh:Hid (∀ w,Tab6 w->Calls Tryz.prog 80 #[.int .i64 o] w (Ret (.int .i64 15) w)):=Lib.hid fun w h=>by have:=Shape_any o w h.1;rwa [hs] at this
 have HT:=Lib.hid hw
 clear hw hs hI hi
 go_enter Tryz.func58,Tryz.ntmps58
 go_wp2_with (first | (go_at_call 80;((with_reducible refine (HSh.out _ (HT.out.below (bel4 _ _ _ _ _))).mono ?_);rintro e w' ⟨rfl,rfl⟩)))
 go_ret
 exact ⟨none,0,rfl,⟨rfl,HWF.out,fun h=>(h rfl).elim⟩,bel4 _ _ _ _ _⟩
theorem fields16 (o d n m a x k h t c:Int) (w:World) (hw:Tab6 w) (hs:shapeI o=16) (hI:isI ⟨o,d,n,m,a,x,k,h,t,c⟩=true) (hi:InB ⟨o,d,n,m,a,x,k,h,t,c⟩):
  Calls Tryz.prog 58 #[inV ⟨o,d,n,m,a,x,k,h,t,c⟩] w (RetF (fldS 16 ⟨o,d,n,m,a,x,k,h,t,c⟩) w):=by
 have hf:=facts16 hs hI
 have HWF:=Lib.hid (wfF (enc16 hs hI).1 (apartL_right _ _ (apart_t 16 _ (by omega)).1))
 have HSh:Hid (∀ w,Tab6 w->Calls Tryz.prog 80 #[.int .i64 o] w (Ret (.int .i64 16) w)):=Lib.hid fun w h=>by have:=Shape_any o w h.1;rwa [hs] at this
 have HT:=Lib.hid hw
 clear hw hs hI hi
 go_enter Tryz.func58,Tryz.ntmps58
 go_wp2_with (first | (go_at_call 80;((with_reducible refine (HSh.out _ (HT.out.below (bel4 _ _ _ _ _))).mono ?_);rintro e w' ⟨rfl,rfl⟩)))
 go_ret
 refine ⟨some ⟨_,0,none⟩,_,rfl,?_,bel5 _ _ _ _ _ _⟩
 refine FS.lit _ _ _ HWF.out _ ?_ _ (siz4 _ _ _ _ _)
 simp [cellsF,fldS]
theorem cell_new (w:World) (cs:Array Value) (T:TypeId) (j:Nat):(w.alloc (.cells cs T)).cell? ⟨w.heap.size,j,none⟩=cs[j]?:=by
 have e:=(MapKept.heap_alloc w (.cells cs T)).1
 unfold World.cell?
 rw [e]
 rfl
theorem keep2 {w w':World} {A C D:Obj} {cs:Array Value} {T:TypeId} (hb:Below ((((w.alloc A).alloc (.cells cs T)).alloc C).alloc D).heap.size ((((w.alloc A).alloc (.cells cs T)).alloc C).alloc D) w') (j:Nat):w'.cell? ⟨w.heap.size+1,j,none⟩=cs[j]?:=by
 have h1:=cell_new (w.alloc A) cs T j
 rw [World.size_alloc] at h1
 have h2:Below ((w.alloc A).alloc (.cells cs T)).heap.size ((w.alloc A).alloc (.cells cs T)) ((((w.alloc A).alloc (.cells cs T)).alloc C).alloc D):=((Below.refl _ _).alloc (Nat.le_refl _) _).alloc (by simp) _
 rw [hb.cell (p:=⟨w.heap.size+1,j,none⟩) (by simp only [World.size_alloc];omega),h2.cell (p:=⟨w.heap.size+1,j,none⟩) (by simp only [World.size_alloc];omega)]
 exact h1
theorem keep3 {w w':World} {A C D:Obj} {cs:Array Value} {T:TypeId} (hb:Below ((((w.alloc A).alloc C).alloc (.cells cs T)).alloc D).heap.size ((((w.alloc A).alloc C).alloc (.cells cs T)).alloc D) w') (j:Nat):w'.cell? ⟨w.heap.size+1+1,j,none⟩=cs[j]?:=by
 have h1:=cell_new ((w.alloc A).alloc C) cs T j
 rw [World.size_alloc,World.size_alloc] at h1
 have h2:Below (((w.alloc A).alloc C).alloc (.cells cs T)).heap.size (((w.alloc A).alloc C).alloc (.cells cs T)) ((((w.alloc A).alloc C).alloc (.cells cs T)).alloc D):=(Below.refl _ _).alloc (Nat.le_refl _) _
 rw [hb.cell (p:=⟨w.heap.size+1+1,j,none⟩) (by simp only [World.size_alloc];omega),h2.cell (p:=⟨w.heap.size+1+1,j,none⟩) (by simp only [World.size_alloc];omega)]
 exact h1
theorem fields3 (o d n m a x k h t c:Int) (w:World) (hw:Tab6 w) (hs:shapeI o=3) (hI:isI ⟨o,d,n,m,a,x,k,h,t,c⟩=true) (hi:InB ⟨o,d,n,m,a,x,k,h,t,c⟩):
  Calls Tryz.prog 58 #[inV ⟨o,d,n,m,a,x,k,h,t,c⟩] w (RetF (fldS 3 ⟨o,d,n,m,a,x,k,h,t,c⟩) w):=by
 have hf:=facts3 hs hI
 have HWF:=Lib.hid (wfF (enc3 hs hI hi.mask).1 (apartL_right _ _ (apart_t 3 _ (by omega)).1))
 have HSh:Hid (∀ w,Tab6 w->Calls Tryz.prog 80 #[.int .i64 o] w (Ret (.int .i64 3) w)):=Lib.hid fun w h=>by have:=Shape_any o w h.1;rwa [hs] at this
 have HT:=Lib.hid hw
 have hk0:=hi.mask
 simp only [] at hk0
 obtain ⟨kn,rfl⟩:=Int.eq_ofNat_of_zero_le hk0.1
 obtain ⟨e1,e2,e3,he,r1,r2,r3,r4,r5,r6,-⟩:=enc_pat (k:=kn) hf.2 (by omega)
 have HE:=Lib.hid he
 have HEnc:Hid (∀ w,Tab w->Calls Tryz.prog 86 #[.int .u64 kn] w (RetB (.tuple #[.int .i64 e1,.int .i64 e2,.int .i64 e3,.int .i64 0]) w)):=Lib.hid fun w h=>by
  have:=Encode_any kn w (by omega) h
  rwa [he] at this
 clear hw hs hI hi he hk0
 go_enter Tryz.func58,Tryz.ntmps58
 go_wp2_with (first | (go_at_call 80;((with_reducible refine (HSh.out _ (HT.out.below (bel4 _ _ _ _ _))).mono ?_);rintro e w' ⟨rfl,rfl⟩)) | (go_at_call 86;((with_reducible refine (HEnc.out _ (HT.out.below (bel4 _ _ _ _ _)).1.1).mono ?_);rintro e w' ⟨rfl,hb⟩;have d0:=keep2 hb 0;have d1:=keep2 hb 1;have d2:=keep2 hb 2;have n0:=keep3 hb 0;have n1:=keep3 hb 1;have n2:=keep3 hb 2;simp only [List.getElem?_toArray,List.getElem?_cons_zero,List.getElem?_cons_succ] at d0 d1 d2 n0 n1 n2;replace hb:=Lib.hid (after (bel4 _ _ _ _ _) hb))))
 go_ret
 refine ⟨some ⟨_,0,none⟩,_,rfl,?_,hb.out.alloc hb.out.size _⟩
 refine FS.lit _ _ _ HWF.out _ ?_ _ rfl
 simp [cellsF,fldS,HE.out]
theorem fields9 (o d n m a x k h t c:Int) (w:World) (hw:Tab6 w) (hs:shapeI o=9) (hI:isI ⟨o,d,n,m,a,x,k,h,t,c⟩=true) (hi:InB ⟨o,d,n,m,a,x,k,h,t,c⟩):
  Calls Tryz.prog 58 #[inV ⟨o,d,n,m,a,x,k,h,t,c⟩] w (RetF (fldS 9 ⟨o,d,n,m,a,x,k,h,t,c⟩) w):=by
 have hf:=facts9 hs hI
 have HWF:=Lib.hid (wfF (enc9 hs hI).1 (apartL_right _ _ (apart_t 9 _ (by omega)).1))
 have HSh:Hid (∀ w,Tab6 w->Calls Tryz.prog 80 #[.int .i64 o] w (Ret (.int .i64 9) w)):=Lib.hid fun w h=>by have:=Shape_any o w h.1;rwa [hs] at this
 have HT:=Lib.hid hw
 have hx:=hi.imm
 simp only [i64B] at hx
 have hxb : -9223372036854775808<=x.tdiv 4/\x.tdiv 4<=9223372036854775807:=by
  obtain ⟨y,hy⟩:∃ y,x=4*y:=Int.dvd_of_tmod_eq_zero (by simp only [hf])
  have:=div_mul y 4 (by decide)
  rw [<-hy] at this
  omega
 have HP:Hid (∀ w,Calls Tryz.prog 87 #[.int .i64 (x.tdiv 4),.int .i64 19] w (Ret (.int .u32 (pck (x.tdiv 4) 19).1) w)):=Lib.hid fun w=>cpack_any _ _ w (by omega) (by omega)
 have hpb:0<=(pck (x.tdiv 4) 19).1/\(pck (x.tdiv 4) 19).1 < 4294967296:=by
  have:=HWF.out
  simp only [fldS,List.mem_cons,List.mem_nil_iff,or_false,forall_eq_or_imp,forall_eq] at this
  exact ⟨this.2.1,this.2.2.1⟩
 have HF:Hid (fldS 9 ⟨o,d,n,m,a,x,k,h,t,c⟩=[(0,5,d),(5,19,(pck (x.tdiv 4) 19).1)]):=Lib.hid rfl
 generalize (pck (x.tdiv 4) 19).1=p at*
 have hwr:IntKind.i64.wrap (x.tdiv 4)=x.tdiv 4:=by rw [IntKind.wrap_i64];omega
 have HP2:Hid (∀ w,Calls Tryz.prog 87 #[.int .i64 (IntKind.i64.wrap (x.tdiv 4)),.int .i64 19] w (Ret (.int .u32 p) w)):=Lib.hid fun w=>by rw [hwr];exact HP.out w
 clear hwr
 clear hw hs hI hi hx
 go_enter Tryz.func58,Tryz.ntmps58
 go_wp2_with (first | (go_at_call 80;((with_reducible refine (HSh.out _ (HT.out.below (bel4 _ _ _ _ _))).mono ?_);rintro e w' ⟨rfl,rfl⟩)) | (go_at_call 87;((with_reducible refine (HP.out _).mono ?_);rintro e w' ⟨rfl,rfl⟩)))
 first
 | (go_region_with (first | (go_at_call 87;((with_reducible refine (HP2.out _).mono ?_);rintro e w' ⟨rfl,rfl⟩))))
 | fail
 all_goals
  go_wp2
  go_ret
  refine ⟨some ⟨_,0,none⟩,_,rfl,?_,?_⟩
  rotate_left
  first
  | exact bel5 _ _ _ _ _ _
  | exact (bel5 _ _ _ _ _ _).drew
  first
  | refine FS.next (FS.lit _ _ _ HWF.out _ ?_ _ (siz4 _ _ _ _ _)) (Below.refl _ _).drew
  | refine FS.lit _ _ _ HWF.out _ ?_ _ (siz4 _ _ _ _ _)
  rw [HF.out]
  simp [cellsF]
  try (rw [IntKind.wrap_u32];omega)
theorem fields10 (o d n m a x k h t c:Int) (w:World) (hw:Tab6 w) (hs:shapeI o=10) (hI:isI ⟨o,d,n,m,a,x,k,h,t,c⟩=true) (hi:InB ⟨o,d,n,m,a,x,k,h,t,c⟩):
  Calls Tryz.prog 58 #[inV ⟨o,d,n,m,a,x,k,h,t,c⟩] w (RetF (fldS 10 ⟨o,d,n,m,a,x,k,h,t,c⟩) w):=by
 have hf:=facts10 hs hI
 have HWF:=Lib.hid (wfF (enc10 hs hI).1 (apartL_right _ _ (apart_t 10 _ (by omega)).1))
 have HSh:Hid (∀ w,Tab6 w->Calls Tryz.prog 80 #[.int .i64 o] w (Ret (.int .i64 10) w)):=Lib.hid fun w h=>by have:=Shape_any o w h.1;rwa [hs] at this
 have HT:=Lib.hid hw
 have hx:=hi.imm
 simp only [i64B] at hx
 skip
 have HP:Hid (∀ w,Calls Tryz.prog 87 #[.int .i64 x,.int .i64 21] w (Ret (.int .u32 (pck x 21).1) w)):=Lib.hid fun w=>cpack_any _ _ w (by omega) (by omega)
 have hpb:0<=(pck x 21).1/\(pck x 21).1 < 4294967296:=by
  have h3:=pck_lit (v:=x) (n:=21) (by decide) (by decide) (by simp only [Nat.reduceSub,Int.reducePow];omega) (by simp only [Nat.reduceSub,Int.reducePow];omega)
  simp only [Int.reducePow,Int.cast_ofNat_Int] at h3
  omega
 have ha:=and_ones32 (pck x 21).1 2 hpb.1 hpb.2 (by decide) (by decide)
 simp only [Int.reduceToNat,Int.reducePow,Int.reduceSub] at ha
 have HF:Hid (fldS 10 ⟨o,d,n,m,a,x,k,h,t,c⟩=[(0,5,d),(5,19,((pck x 21).1 / 4)),(29,2,((pck x 21).1 % 4))]):=Lib.hid rfl
 generalize (pck x 21).1=p at*
 clear hw hs hI hi hx
 go_enter Tryz.func58,Tryz.ntmps58
 go_wp2_with (first | (go_at_call 80;((with_reducible refine (HSh.out _ (HT.out.below (bel4 _ _ _ _ _))).mono ?_);rintro e w' ⟨rfl,rfl⟩)) | (go_at_call 87;((with_reducible refine (HP.out _).mono ?_);rintro e w' ⟨rfl,rfl⟩)))
 go_ret
 refine ⟨some ⟨_,0,none⟩,_,rfl,?_,?_⟩
 rotate_left
 first
 | exact bel5 _ _ _ _ _ _
 | exact (bel5 _ _ _ _ _ _).drew
 first
 | refine FS.next (FS.lit _ _ _ HWF.out _ ?_ _ (siz4 _ _ _ _ _)) (Below.refl _ _).drew
 | refine FS.lit _ _ _ HWF.out _ ?_ _ (siz4 _ _ _ _ _)
 rw [HF.out]
 simp [cellsF]
 try (rw [IntKind.wrap_u32];omega)
theorem fields11 (o d n m a x k h t c:Int) (w:World) (hw:Tab6 w) (hs:shapeI o=11) (hI:isI ⟨o,d,n,m,a,x,k,h,t,c⟩=true) (hi:InB ⟨o,d,n,m,a,x,k,h,t,c⟩):
  Calls Tryz.prog 58 #[inV ⟨o,d,n,m,a,x,k,h,t,c⟩] w (RetF (fldS 11 ⟨o,d,n,m,a,x,k,h,t,c⟩) w):=by
 have hf:=facts11 hs hI
 have HWF:=Lib.hid (wfF (enc11 hs hI).1 (apartL_right _ _ (apart_t 11 _ (by omega)).1))
 have HSh:Hid (∀ w,Tab6 w->Calls Tryz.prog 80 #[.int .i64 o] w (Ret (.int .i64 11) w)):=Lib.hid fun w h=>by have:=Shape_any o w h.1;rwa [hs] at this
 have HT:=Lib.hid hw
 have hx:=hi.imm
 simp only [i64B] at hx
 have hxb : -9223372036854775808<=x.tdiv 4/\x.tdiv 4<=9223372036854775807:=by
  obtain ⟨y,hy⟩:∃ y,x=4*y:=Int.dvd_of_tmod_eq_zero (by simp only [hf])
  have:=div_mul y 4 (by decide)
  rw [<-hy] at this
  omega
 have HP:Hid (∀ w,Calls Tryz.prog 87 #[.int .i64 (x.tdiv 4),.int .i64 26] w (Ret (.int .u32 (pck (x.tdiv 4) 26).1) w)):=Lib.hid fun w=>cpack_any _ _ w (by omega) (by omega)
 have hpb:0<=(pck (x.tdiv 4) 26).1/\(pck (x.tdiv 4) 26).1 < 4294967296:=by
  have:=HWF.out
  simp only [fldS,List.mem_cons,List.mem_nil_iff,or_false,forall_eq_or_imp,forall_eq] at this
  exact ⟨this.1,this.2.1⟩
 have HF:Hid (fldS 11 ⟨o,d,n,m,a,x,k,h,t,c⟩=[(0,26,(pck (x.tdiv 4) 26).1)]):=Lib.hid rfl
 generalize (pck (x.tdiv 4) 26).1=p at*
 clear hw hs hI hi hx
 go_enter Tryz.func58,Tryz.ntmps58
 go_wp2_with (first | (go_at_call 80;((with_reducible refine (HSh.out _ (HT.out.below (bel4 _ _ _ _ _))).mono ?_);rintro e w' ⟨rfl,rfl⟩)) | (go_at_call 87;((with_reducible refine (HP.out _).mono ?_);rintro e w' ⟨rfl,rfl⟩)))
 go_ret
 refine ⟨some ⟨_,0,none⟩,_,rfl,?_,?_⟩
 rotate_left
 first
 | exact bel5 _ _ _ _ _ _
 | exact (bel5 _ _ _ _ _ _).drew
 first
 | refine FS.next (FS.lit _ _ _ HWF.out _ ?_ _ (siz4 _ _ _ _ _)) (Below.refl _ _).drew
 | refine FS.lit _ _ _ HWF.out _ ?_ _ (siz4 _ _ _ _ _)
 rw [HF.out]
 simp [cellsF]
 try (rw [IntKind.wrap_u32];omega)
theorem fields12 (o d n m a x k h t c:Int) (w:World) (hw:Tab6 w) (hs:shapeI o=12) (hI:isI ⟨o,d,n,m,a,x,k,h,t,c⟩=true) (hi:InB ⟨o,d,n,m,a,x,k,h,t,c⟩):
  Calls Tryz.prog 58 #[inV ⟨o,d,n,m,a,x,k,h,t,c⟩] w (RetF (fldS 12 ⟨o,d,n,m,a,x,k,h,t,c⟩) w):=by
 have hf:=facts12 hs hI
 have HWF:=Lib.hid (wfF (enc12 hs hI).1 (apartL_right _ _ (apart_t 12 _ (by omega)).1))
 have HSh:Hid (∀ w,Tab6 w->Calls Tryz.prog 80 #[.int .i64 o] w (Ret (.int .i64 12) w)):=Lib.hid fun w h=>by have:=Shape_any o w h.1;rwa [hs] at this
 have HT:=Lib.hid hw
 have hx:=hi.imm
 simp only [i64B] at hx
 have hxb : -9223372036854775808<=x.tdiv 4/\x.tdiv 4<=9223372036854775807:=by
  obtain ⟨y,hy⟩:∃ y,x=4*y:=Int.dvd_of_tmod_eq_zero (by simp only [hf])
  have:=div_mul y 4 (by decide)
  rw [<-hy] at this
  omega
 have HP:Hid (∀ w,Calls Tryz.prog 87 #[.int .i64 (x.tdiv 4),.int .i64 19] w (Ret (.int .u32 (pck (x.tdiv 4) 19).1) w)):=Lib.hid fun w=>cpack_any _ _ w (by omega) (by omega)
 have hpb:0<=(pck (x.tdiv 4) 19).1/\(pck (x.tdiv 4) 19).1 < 4294967296:=by
  have:=HWF.out
  simp only [fldS,List.mem_cons,List.mem_nil_iff,or_false,forall_eq_or_imp,forall_eq] at this
  exact ⟨this.2.1,this.2.2.1⟩
 have HF:Hid (fldS 12 ⟨o,d,n,m,a,x,k,h,t,c⟩=[(0,4,c),(5,19,(pck (x.tdiv 4) 19).1)]):=Lib.hid rfl
 generalize (pck (x.tdiv 4) 19).1=p at*
 have hwr:IntKind.i64.wrap (x.tdiv 4)=x.tdiv 4:=by rw [IntKind.wrap_i64];omega
 have HP2:Hid (∀ w,Calls Tryz.prog 87 #[.int .i64 (IntKind.i64.wrap (x.tdiv 4)),.int .i64 19] w (Ret (.int .u32 p) w)):=Lib.hid fun w=>by rw [hwr];exact HP.out w
 clear hwr
 clear hw hs hI hi hx
 go_enter Tryz.func58,Tryz.ntmps58
 go_wp2_with (first | (go_at_call 80;((with_reducible refine (HSh.out _ (HT.out.below (bel4 _ _ _ _ _))).mono ?_);rintro e w' ⟨rfl,rfl⟩)) | (go_at_call 87;((with_reducible refine (HP.out _).mono ?_);rintro e w' ⟨rfl,rfl⟩)))
 first
 | (go_region_with (first | (go_at_call 87;((with_reducible refine (HP2.out _).mono ?_);rintro e w' ⟨rfl,rfl⟩))))
 | fail
 all_goals
  go_wp2
  go_ret
  refine ⟨some ⟨_,0,none⟩,_,rfl,?_,?_⟩
  rotate_left
  first
  | exact bel5 _ _ _ _ _ _
  | exact (bel5 _ _ _ _ _ _).drew
  first
  | refine FS.next (FS.lit _ _ _ HWF.out _ ?_ _ (siz4 _ _ _ _ _)) (Below.refl _ _).drew
  | refine FS.lit _ _ _ HWF.out _ ?_ _ (siz4 _ _ _ _ _)
  rw [HF.out]
  simp [cellsF]
  try (rw [IntKind.wrap_u32];omega)
theorem fields_any (i:In) (w:World) (hw:Tab6 w) (hI:isI i=true) (hi:InB i):Calls Tryz.prog 58 #[inV i] w (RetF (fldS (shapeI i.op).toNat i) w):=by
 have hb:=shapeI_b i.op
 have h0:=isI_shape hI
 obtain ⟨s,hs⟩:=Int.eq_ofNat_of_zero_le hb.1
 obtain ⟨o,d,n,m,a,x,k,h,t,c⟩:=i
 simp only [] at hs h0 hb ⊢
 rw [hs,Int.toNat_natCast]
 have hc:s=1\/s=2\/s=3\/s=4\/s=5\/s=6\/s=7\/s=8\/s=9\/s=10\/s=11\/s=12\/s=13\/s=14\/s=15\/s=16:=by omega
 rcases hc with rfl | rfl | rfl | rfl | rfl | rfl | rfl | rfl | rfl | rfl | rfl | rfl | rfl | rfl | rfl | rfl
 ·exact fields1 o d n m a x k h t c w hw hs hI hi
 ·exact fields2 o d n m a x k h t c w hw hs hI hi
 ·exact fields3 o d n m a x k h t c w hw hs hI hi
 ·exact fields4 o d n m a x k h t c w hw hs hI hi
 ·exact fields5 o d n m a x k h t c w hw hs hI hi
 ·exact fields6 o d n m a x k h t c w hw hs hI hi
 ·exact fields7 o d n m a x k h t c w hw hs hI hi
 ·exact fields8 o d n m a x k h t c w hw hs hI hi
 ·exact fields9 o d n m a x k h t c w hw hs hI hi
 ·exact fields10 o d n m a x k h t c w hw hs hI hi
 ·exact fields11 o d n m a x k h t c w hw hs hI hi
 ·exact fields12 o d n m a x k h t c w hw hs hI hi
 ·exact fields13 o d n m a x k h t c w hw hs hI hi
 ·exact fields14 o d n m a x k h t c w hw hs hI hi
 ·exact fields15 o d n m a x k h t c w hw hs hI hi
 ·exact fields16 o d n m a x k h t c w hw hs hI hi
theorem fldS_len (s:Nat) (i:In):(fldS s i).length<=5:=by unfold fldS;split <;> simp
def encP (i:In):Int × Int:=if isI i=true then ((encW i:Nat),0) else (0,1)
theorem CEncode_any (i:In) (w:World) (hw:Tab6 w) (hi:InB i):Calls Tryz.prog 32 #[inV i] w (RetB (two .u32 .i64 (encP i)) w):=by
 have HT:=Lib.hid hw
 have HIs:Hid (∀ w,Tab6 w->Calls Tryz.prog 56 #[inV i] w (RetB (.bool (isI i)) w)):=Lib.hid fun w h=>InstIs_any i w h.1 hi
 have hten:=Ten.made w i 98
 obtain ⟨X,hX⟩:∃ X,X=w.heap.size:=⟨_,rfl⟩
 obtain ⟨W0,hW0⟩:∃ W0,W0=w.alloc (.cells (inC i) 98):=⟨_,rfl⟩
 have hXl:X < W0.heap.size:=by rw [hX,hW0];simp
 rw [<-hW0,<-hX] at hten
 have HW:Hid (Below w.heap.size w W0):=Lib.hid (by rw [hW0];exact (Below.refl _ w).alloc (Nat.le_refl _) _)
 have HA:=Lib.hid hten
 have HEQ:=Lib.hid hW0
 have HXQ:=Lib.hid hX
 have HB:=Lib.hid (Below.refl W0.heap.size W0)
 have HTT:Hid (∀ wx,Below W0.heap.size W0 wx->Tab6 wx):=Lib.hid fun wx hb=>HT.out.below (HW.out.trans (hb.mono HW.out.size))
 clear hX hW0 hten hw
 cases hI:isI i
 ·have HE:Hid (encP i=(0,1)):=Lib.hid (by unfold encP;rw [hI];rfl)
  rw [hI] at HIs
  clear hI hi
  generalize encP i=ep at*
  obtain ⟨o,d,n,m,a,x,k,h,t,c⟩:=i
  go_enter Tryz.func32,Tryz.ntmps32
  go_wp2_with fail
  rw [<-HEQ.out]
  refine (HIs.out _ (HTT.out _ HB.out)).mono ?_
  rintro e w1 ⟨rfl,hb⟩
  replace HB:=Lib.hid (after HB.out hb)
  clear hb
  go_wp2
  go_ret2
  exact ⟨by rw [HE.out];rfl,HW.out.trans (HB.out.mono HW.out.size)⟩
 ·obtain ⟨c0,hws,hor,hc0,hlt,-,-⟩:=encW_spec i hI hi.mask
  have HE:Hid (encP i=(((encW i:Nat):Int),0)):=Lib.hid (by unfold encP;rw [hI];rfl)
  have HF:Hid (∀ w,Tab6 w->Calls Tryz.prog 58 #[inV i] w (RetF (fldS (shapeI i.op).toNat i) w)):=Lib.hid fun w h=>fields_any i w h hI hi
  have hl5:=fldS_len (shapeI i.op).toNat i
  have ho:=code_op hI
  obtain ⟨kk,hkk⟩:=Int.eq_ofNat_of_zero_le (show 0<=i.op by omega)
  have hk39:kk<=39:=by omega
  have HBA:Hid (∀ wx,Below W0.heap.size W0 wx->wx.cell? ⟨0,kk,none⟩=some (.int .u32 ((baN i.op:Nat):Int))):=Lib.hid fun wx hb=>by
   have:=(HTT.out wx hb).2.1.1 kk (by omega)
   rw [this,hkk];rfl
  have hor2:=u32_or_nat (baN i.op) c0 (by have:=(base_in ⟨kk,by omega⟩).2;simp only [<-hkk] at this;exact this) hc0
  rw [hor] at hor2
  rw [hI] at HIs
  clear hI hi hor
  generalize encP i=ep at*
  generalize encW i=ew at*
  generalize baN i.op=ba at*
  generalize fldS (shapeI i.op).toNat i=l at*
  have HWd:Hid (∀ w a c,FS w w.heap.size a l.length l->Calls Tryz.prog 57 #[.slice a l.length c] w (RetB (.tuple #[.int .u32 c0,.int .i64 0]) w)):=Lib.hid fun w a c h=>by
   have:=word_any a l.length c l w (by omega) h
   rwa [hws] at this
  clear hws hl5
  generalize hn0:l.length=n0 at*
  obtain ⟨o,d,n,m,a,x,k,h,t,c⟩:=i
  simp only [] at hkk ho
  subst hkk
  go_enter Tryz.func32,Tryz.ntmps32
  go_wp2_with fail
  rw [<-HEQ.out,<-HXQ.out]
  refine (HIs.out _ (HTT.out _ HB.out)).mono ?_
  rintro e w1 ⟨rfl,hb⟩
  replace HB:=Lib.hid (after HB.out hb)
  clear hb
  obtain ⟨a0,a1,a2,a3,a4,a5,a6,a7,a8,a9⟩:=HA.out.below HB.out hXl
  go_wp2_with (first
   | (go_at_call 58;((with_reducible refine (HF.out _ (HTT.out _ HB.out)).mono ?_);rintro e w2 ⟨fa,fc,rfl,hfs,hb⟩;rw [hn0] at hfs ⊢;have HFS:=Lib.hid hfs;replace HB:=Lib.hid (after HB.out hb);clear hb hfs))
   | (go_at_call 57;((with_reducible refine (HWd.out _ _ _ HFS.out).mono ?_);rintro e w3 ⟨rfl,hb⟩;replace HB:=Lib.hid (after HB.out hb);clear hb;have hcell:=HBA.out _ HB.out;clear a0 a1 a2 a3 a4 a5 a6 a7 a8 a9;obtain ⟨a0,a1,a2,a3,a4,a5,a6,a7,a8,a9⟩:=HA.out.below HB.out hXl)))
  go_ret2
  exact ⟨by rw [HE.out];rfl,HW.out.trans (HB.out.mono HW.out.size)⟩
end Go.Proofs.YtobdldadfipcgaaGreatDoor
namespace Go.Proofs.YtobdldadfipcgaaGreatDoor
open Go.RowKit
theorem hset {w:World} {b o:Nat} {x:Value} {cs:Array Value} {T:TypeId} {fr:Nat × Nat} (hb:w.heap[b]?=some (.cells cs T fr)):(w.setCell ⟨b,o,none⟩ x).heap[b]?=some (.cells (cs.setIfInBounds o x) T fr):=by
 simp [World.setCell,Array.getElem?_modify,hb]
theorem hother {w:World} {b c o:Nat} {x:Value} (h:c ≠ b):(w.setCell ⟨b,o,none⟩ x).heap[c]?=w.heap[c]?:=Below.heap_setCell _ _ _ _ h
abbrev set10 (w:World) (B:Nat) (i:In):World:=
 ((((((((((w.setCell ⟨B,0,none⟩ (.int .i64 i.op)).setCell ⟨B,1,none⟩ (.int .i64 i.d)).setCell ⟨B,2,none⟩ (.int .i64 i.n)).setCell ⟨B,3,none⟩ (.int .i64 i.m)).setCell ⟨B,4,none⟩ (.int .i64 i.a)).setCell ⟨B,5,none⟩ (.int .i64 i.imm)).setCell ⟨B,6,none⟩ (.int .u64 i.mask)).setCell ⟨B,7,none⟩ (.int .i64 i.shift)).setCell ⟨B,8,none⟩ (.int .i64 i.amount)).setCell ⟨B,9,none⟩ (.int .i64 i.cond))
theorem set10_heap {w:World} {B:Nat} {i j:In} {T:TypeId} (h:w.heap[B]?=some (.cells (inC j) T (0,0))):(set10 w B i).heap[B]?=some (.cells (inC i) T (0,0)):=by
 have h0:(w.setCell ⟨B,0,none⟩ (.int .i64 i.op)).heap[B]?=some (.cells #[.int .i64 i.op,.int .i64 j.d,.int .i64 j.n,.int .i64 j.m,.int .i64 j.a,.int .i64 j.imm,.int .u64 j.mask,.int .i64 j.shift,.int .i64 j.amount,.int .i64 j.cond] T (0,0)):=hset h
 have h1:((w.setCell ⟨B,0,none⟩ (.int .i64 i.op)).setCell ⟨B,1,none⟩ (.int .i64 i.d)).heap[B]?=some (.cells #[.int .i64 i.op,.int .i64 i.d,.int .i64 j.n,.int .i64 j.m,.int .i64 j.a,.int .i64 j.imm,.int .u64 j.mask,.int .i64 j.shift,.int .i64 j.amount,.int .i64 j.cond] T (0,0)):=hset h0
 have h2:(((w.setCell ⟨B,0,none⟩ (.int .i64 i.op)).setCell ⟨B,1,none⟩ (.int .i64 i.d)).setCell ⟨B,2,none⟩ (.int .i64 i.n)).heap[B]?=some (.cells #[.int .i64 i.op,.int .i64 i.d,.int .i64 i.n,.int .i64 j.m,.int .i64 j.a,.int .i64 j.imm,.int .u64 j.mask,.int .i64 j.shift,.int .i64 j.amount,.int .i64 j.cond] T (0,0)):=hset h1
 have h3:((((w.setCell ⟨B,0,none⟩ (.int .i64 i.op)).setCell ⟨B,1,none⟩ (.int .i64 i.d)).setCell ⟨B,2,none⟩ (.int .i64 i.n)).setCell ⟨B,3,none⟩ (.int .i64 i.m)).heap[B]?=some (.cells #[.int .i64 i.op,.int .i64 i.d,.int .i64 i.n,.int .i64 i.m,.int .i64 j.a,.int .i64 j.imm,.int .u64 j.mask,.int .i64 j.shift,.int .i64 j.amount,.int .i64 j.cond] T (0,0)):=hset h2
 have h4:(((((w.setCell ⟨B,0,none⟩ (.int .i64 i.op)).setCell ⟨B,1,none⟩ (.int .i64 i.d)).setCell ⟨B,2,none⟩ (.int .i64 i.n)).setCell ⟨B,3,none⟩ (.int .i64 i.m)).setCell ⟨B,4,none⟩ (.int .i64 i.a)).heap[B]?=some (.cells #[.int .i64 i.op,.int .i64 i.d,.int .i64 i.n,.int .i64 i.m,.int .i64 i.a,.int .i64 j.imm,.int .u64 j.mask,.int .i64 j.shift,.int .i64 j.amount,.int .i64 j.cond] T (0,0)):=hset h3
 have h5:((((((w.setCell ⟨B,0,none⟩ (.int .i64 i.op)).setCell ⟨B,1,none⟩ (.int .i64 i.d)).setCell ⟨B,2,none⟩ (.int .i64 i.n)).setCell ⟨B,3,none⟩ (.int .i64 i.m)).setCell ⟨B,4,none⟩ (.int .i64 i.a)).setCell ⟨B,5,none⟩ (.int .i64 i.imm)).heap[B]?=some (.cells #[.int .i64 i.op,.int .i64 i.d,.int .i64 i.n,.int .i64 i.m,.int .i64 i.a,.int .i64 i.imm,.int .u64 j.mask,.int .i64 j.shift,.int .i64 j.amount,.int .i64 j.cond] T (0,0)):=hset h4
 have h6:(((((((w.setCell ⟨B,0,none⟩ (.int .i64 i.op)).setCell ⟨B,1,none⟩ (.int .i64 i.d)).setCell ⟨B,2,none⟩ (.int .i64 i.n)).setCell ⟨B,3,none⟩ (.int .i64 i.m)).setCell ⟨B,4,none⟩ (.int .i64 i.a)).setCell ⟨B,5,none⟩ (.int .i64 i.imm)).setCell ⟨B,6,none⟩ (.int .u64 i.mask)).heap[B]?=some (.cells #[.int .i64 i.op,.int .i64 i.d,.int .i64 i.n,.int .i64 i.m,.int .i64 i.a,.int .i64 i.imm,.int .u64 i.mask,.int .i64 j.shift,.int .i64 j.amount,.int .i64 j.cond] T (0,0)):=hset h5
 have h7:((((((((w.setCell ⟨B,0,none⟩ (.int .i64 i.op)).setCell ⟨B,1,none⟩ (.int .i64 i.d)).setCell ⟨B,2,none⟩ (.int .i64 i.n)).setCell ⟨B,3,none⟩ (.int .i64 i.m)).setCell ⟨B,4,none⟩ (.int .i64 i.a)).setCell ⟨B,5,none⟩ (.int .i64 i.imm)).setCell ⟨B,6,none⟩ (.int .u64 i.mask)).setCell ⟨B,7,none⟩ (.int .i64 i.shift)).heap[B]?=some (.cells #[.int .i64 i.op,.int .i64 i.d,.int .i64 i.n,.int .i64 i.m,.int .i64 i.a,.int .i64 i.imm,.int .u64 i.mask,.int .i64 i.shift,.int .i64 j.amount,.int .i64 j.cond] T (0,0)):=hset h6
 have h8:(((((((((w.setCell ⟨B,0,none⟩ (.int .i64 i.op)).setCell ⟨B,1,none⟩ (.int .i64 i.d)).setCell ⟨B,2,none⟩ (.int .i64 i.n)).setCell ⟨B,3,none⟩ (.int .i64 i.m)).setCell ⟨B,4,none⟩ (.int .i64 i.a)).setCell ⟨B,5,none⟩ (.int .i64 i.imm)).setCell ⟨B,6,none⟩ (.int .u64 i.mask)).setCell ⟨B,7,none⟩ (.int .i64 i.shift)).setCell ⟨B,8,none⟩ (.int .i64 i.amount)).heap[B]?=some (.cells #[.int .i64 i.op,.int .i64 i.d,.int .i64 i.n,.int .i64 i.m,.int .i64 i.a,.int .i64 i.imm,.int .u64 i.mask,.int .i64 i.shift,.int .i64 i.amount,.int .i64 j.cond] T (0,0)):=hset h7
 have h9:((((((((((w.setCell ⟨B,0,none⟩ (.int .i64 i.op)).setCell ⟨B,1,none⟩ (.int .i64 i.d)).setCell ⟨B,2,none⟩ (.int .i64 i.n)).setCell ⟨B,3,none⟩ (.int .i64 i.m)).setCell ⟨B,4,none⟩ (.int .i64 i.a)).setCell ⟨B,5,none⟩ (.int .i64 i.imm)).setCell ⟨B,6,none⟩ (.int .u64 i.mask)).setCell ⟨B,7,none⟩ (.int .i64 i.shift)).setCell ⟨B,8,none⟩ (.int .i64 i.amount)).setCell ⟨B,9,none⟩ (.int .i64 i.cond)).heap[B]?=some (.cells #[.int .i64 i.op,.int .i64 i.d,.int .i64 i.n,.int .i64 i.m,.int .i64 i.a,.int .i64 i.imm,.int .u64 i.mask,.int .i64 i.shift,.int .i64 i.amount,.int .i64 i.cond] T (0,0)):=hset h8
 exact h9
theorem set10_other {w:World} {B c:Nat} {i:In} (h:c ≠ B):(set10 w B i).heap[c]?=w.heap[c]?:=by
 unfold set10
 rw [hother h,hother h,hother h,hother h,hother h,hother h,hother h,hother h,hother h,hother h]
theorem set10_below {w w0:World} {B:Nat} {i:In} (h:Below w0.heap.size w0 w) (hB:w0.heap.size<=B):Below w0.heap.size w0 (set10 w B i):=by
 unfold set10
 exact bel_set (bel_set (bel_set (bel_set (bel_set (bel_set (bel_set (bel_set (bel_set (bel_set h hB) hB) hB) hB) hB) hB) hB) hB) hB) hB
theorem catch_panicking (B C:Nat) (j:In) (y:Int) (u:TypeId) (pv:Value) (older:List PanicEntry) (w:World) (h1:w.heap[B]?=some (.cells (inC j) 98 (0,0))) (h2:w.heap[C]?=some (.cells #[.int .i64 y] 34 (0,0))) (hBC:B ≠ C):
  CallsD Tryz.prog 145 #[.pointer (some ⟨B,0,none⟩),.pointer (some ⟨C,0,none⟩)] (.panicking ({ v:=.iface u pv,recovered:=false } :: older)) w fun e u' w'=>
   e=.returned (.tuple #[])/\u'=.panicking ({ v:=.iface u pv,recovered:=true } :: older)/\w'=(set10 w B inZ).setCell ⟨C,0,none⟩ (.int .i64 11):=by
 refine callsD_of_wpS Tryz.func145 rfl fun c₀ cs hu=>?_
 apply wpS_seq
 apply wpS_region
 simp [wpOpsS,go_sem,recoverD,hu,Tryz.ntmps145,Exit.thenS]
 refine wpS_cond (t:=true) (by simp [Act.eval,Array.replicate]) ?_
 simp only [if_true]
 have c0:w.cell? ⟨B,0,none⟩=some (.int .i64 j.op):=cel h1
 have q0:w.frozen? ⟨B,0,none⟩=false:=frz h1
 have c1:w.cell? ⟨B,1,none⟩=some (.int .i64 j.d):=cel h1
 have q1:w.frozen? ⟨B,1,none⟩=false:=frz h1
 have c2:w.cell? ⟨B,2,none⟩=some (.int .i64 j.n):=cel h1
 have q2:w.frozen? ⟨B,2,none⟩=false:=frz h1
 have c3:w.cell? ⟨B,3,none⟩=some (.int .i64 j.m):=cel h1
 have q3:w.frozen? ⟨B,3,none⟩=false:=frz h1
 have c4:w.cell? ⟨B,4,none⟩=some (.int .i64 j.a):=cel h1
 have q4:w.frozen? ⟨B,4,none⟩=false:=frz h1
 have c5:w.cell? ⟨B,5,none⟩=some (.int .i64 j.imm):=cel h1
 have q5:w.frozen? ⟨B,5,none⟩=false:=frz h1
 have c6:w.cell? ⟨B,6,none⟩=some (.int .u64 j.mask):=cel h1
 have q6:w.frozen? ⟨B,6,none⟩=false:=frz h1
 have c7:w.cell? ⟨B,7,none⟩=some (.int .i64 j.shift):=cel h1
 have q7:w.frozen? ⟨B,7,none⟩=false:=frz h1
 have c8:w.cell? ⟨B,8,none⟩=some (.int .i64 j.amount):=cel h1
 have q8:w.frozen? ⟨B,8,none⟩=false:=frz h1
 have c9:w.cell? ⟨B,9,none⟩=some (.int .i64 j.cond):=cel h1
 have q9:w.frozen? ⟨B,9,none⟩=false:=frz h1
 have e0:w.cell? ⟨C,0,none⟩=some (.int .i64 y):=cel h2
 have e1:w.frozen? ⟨C,0,none⟩=false:=frz h2
 refine wpS_of_wp ?_
 go_wp2
 cases c₀
 simp_all [bodyPostS,results,Tryz.results145]
theorem catch_idle (B C:Nat) (w:World):CallsD Tryz.prog 145 #[.pointer (some ⟨B,0,none⟩),.pointer (some ⟨C,0,none⟩)] .returning w fun e u' w'=>e=.returned (.tuple #[])/\u'=.returning/\w'=w:=by
 refine callsD_of_wpS Tryz.func145 rfl fun c₀ cs hu=>?_
 apply wpS_seq
 apply wpS_region
 simp [wpOpsS,go_sem,recoverD,hu,Tryz.ntmps145,Exit.thenS]
 refine wpS_cond (t:=false) (by simp [Act.eval,Array.replicate]) ?_
 simp only [Bool.false_eq_true,if_false]
 refine wpS_of_wp (wp_skip ?_)
 cases c₀
 simp_all [bodyPostS,results,Tryz.results145]
theorem res_blocks {w w':World} {Z E:Array Value} {T U:TypeId} (hb:Below ((w.alloc (.cells Z T)).alloc (.cells E U)).heap.size ((w.alloc (.cells Z T)).alloc (.cells E U)) w'):
  w'.heap[w.heap.size]?=some (.cells Z T (0,0))/\w'.heap[w.heap.size+1]?=some (.cells E U (0,0))/\Below w.heap.size w w':=by
 have:=two_blocks (a:=0) (b:=0) (w:=w) (w':=w') (Z:=Z) (I:=E) (T:=T) (U:=U) hb
 exact this
abbrev out2 (p:In × Int):Value:=.tuple #[inV p.1,.int .i64 p.2]
theorem CDecode_no (x:Nat) (hx:x < 4294967296) (w:World) (hw:Tab6 w) (h:noI x):Calls Tryz.prog 128 #[.int .u32 x] w (RetB (out2 (inZ,11)) w):=by
 have hmf:∀ (fn:Fn) (first cap:Array Value) (w:World),(Instr.makeFunc fn first cap).run Tryz.prog w=.ok (.func fn first cap) w:=fun _ _ _ _=>rfl
 have hZ:∀ w,(zeroValue 98).run Tryz.prog w=.ok (.agg (inC inZ)) w:=fun w=>by kernel_rfl
 have hE:∀ w,(zeroValue 34).run Tryz.prog w=.ok (.int .i64 0) w:=fun w=>by kernel_rfl
 have HT:=Lib.hid hw
 have HW:Hid (∀ w,Tab6 w->Calls Tryz.prog 146 #[.int .u32 x] w (Throws w)):=Lib.hid fun w hw=>winst_no x hx w hw h
 have HB2:Hid (Below w.heap.size w ((w.alloc (.cells (inC inZ) 98)).alloc (.cells #[.int .i64 0] 34))):=Lib.hid (bel_alloc (bel_alloc (Below.refl _ _) _) _)
 clear hw h
 go_enter_defers Tryz.func128,Tryz.ntmps128
 go_wp2_with (go_at_call 146;((with_reducible refine (HW.out _ (HT.out.below HB2.out)).mono ?_);rintro e w2 ⟨rfl,hb⟩;obtain ⟨hz,he,hbw⟩:=res_blocks hb))
 refine leaves_cons (f:=145) (args:=#[.pointer (some ⟨w.heap.size,0,none⟩),.pointer (some ⟨w.heap.size+1,0,none⟩)]) (by simp) (by simp [go_sem]) ?_
 refine (catch_panicking w.heap.size (w.heap.size+1) inZ 0 _ _ [] _ hz he (by omega)).mono ?_
 rintro e u' w4 ⟨rfl,rfl,hw4⟩
 have hB4:w4.heap[w.heap.size]?=some (.cells (inC inZ) 98 (0,0)):=by rw [hw4,hother (by omega)];exact set10_heap hz
 have hC4:w4.heap[w.heap.size+1]?=some (.cells #[.int .i64 11] 34 (0,0)):=by
  rw [hw4]
  exact hset (o:=0) (x:=.int .i64 11) ((set10_other (i:=inZ) (by omega)).trans he)
 have hb4:Below w.heap.size w w4:=by rw [hw4];exact bel_set (set10_below hbw (Nat.le_refl _)) (by omega)
 have b0:w4.cell? ⟨w.heap.size,0,none⟩=some (.int .i64 0):=cel hB4
 have b1:w4.cell? ⟨w.heap.size,1,none⟩=some (.int .i64 0):=cel hB4
 have b2:w4.cell? ⟨w.heap.size,2,none⟩=some (.int .i64 0):=cel hB4
 have b3:w4.cell? ⟨w.heap.size,3,none⟩=some (.int .i64 0):=cel hB4
 have b4:w4.cell? ⟨w.heap.size,4,none⟩=some (.int .i64 0):=cel hB4
 have b5:w4.cell? ⟨w.heap.size,5,none⟩=some (.int .i64 0):=cel hB4
 have b6:w4.cell? ⟨w.heap.size,6,none⟩=some (.int .u64 0):=cel hB4
 have b7:w4.cell? ⟨w.heap.size,7,none⟩=some (.int .i64 0):=cel hB4
 have b8:w4.cell? ⟨w.heap.size,8,none⟩=some (.int .i64 0):=cel hB4
 have b9:w4.cell? ⟨w.heap.size,9,none⟩=some (.int .i64 0):=cel hB4
 have d0:w4.cell? ⟨w.heap.size+1,0,none⟩=some (.int .i64 11):=cel hC4
 simp [Leaves,settle,results,Tryz.results128,go_sem,b0,b1,b2,b3,b4,b5,b6,b7,b8,b9,d0]
 exact ⟨rfl,hb4⟩
theorem readW_inB (x:Nat) (hx:x < 4294967296):InB (readW x):=by
 have hm:=decW_mask (opW x:Nat) (shapeI (opW x:Nat)).toNat x
 have ho:i64B ((opW x:Nat):Int):=by
  have:=opW_or x
  unfold i64B;omega
 have z:i64B 0:=by unfold i64B;omega
 have f:∀ a n,n<=32->i64B (fw x a n):=fun a n h=>by have:=fw_u32 x a n h;unfold i64B;omega
 have f16:i64B (16*fw x 21 2):=by have:=fw_u32 x 21 2 (by decide);unfold i64B;omega
 have f12:i64B (12*fw x 22 1):=by have:=fw_u32 x 22 1 (by decide);unfold i64B;omega
 have f8:i64B (8*fw x 10 12):=by have:=fw_u32 x 10 12 (by decide);unfold i64B;omega
 have s9:i64B (4*(sgn (fw x 5 19) 19).1):=by
  have h:=fw_lt x 5 19
  have:=sgn19 (v:=fw x 5 19) (by simpa using h)
  unfold i64B;omega
 have s10:i64B (4*(sgn (fw x 5 19) 19).1+fw x 29 2):=by
  have h:=fw_lt x 5 19
  have:=sgn19 (v:=fw x 5 19) (by simpa using h)
  have:=fw_u32 x 29 2 (by decide)
  unfold i64B;omega
 have s11:i64B (4*(sgn (fw x 0 26) 26).1):=by
  have h:=fw_lt x 0 26
  have:=sgn26 (v:=fw x 0 26) (by simpa using h)
  unfold i64B;omega
 unfold readW at*
 generalize (shapeI (opW x:Nat)).toNat=s at*
 refine ⟨?_,?_,?_,?_,?_,?_,hm,?_,?_,?_⟩
 all_goals
  unfold decW
  split
 all_goals first | exact ho | exact z | exact f16 | exact f12 | exact f8 | exact s9 | exact s10 | exact s11 | exact f _ _ (by decide)
theorem CDecode_wrong (x:Nat) (hx:x < 4294967296) (w:World) (hw:Tab6 w) (h:¬ noI x) (hI:isI (readW x)=false):Calls Tryz.prog 128 #[.int .u32 x] w (RetB (out2 (inZ,11)) w):=by
 have hmf:∀ (fn:Fn) (first cap:Array Value) (w:World),(Instr.makeFunc fn first cap).run Tryz.prog w=.ok (.func fn first cap) w:=fun _ _ _ _=>rfl
 have hZ:∀ w,(zeroValue 98).run Tryz.prog w=.ok (.agg (inC inZ)) w:=fun w=>by kernel_rfl
 have hE:∀ w,(zeroValue 34).run Tryz.prog w=.ok (.int .i64 0) w:=fun w=>by kernel_rfl
 have HT:=Lib.hid hw
 have HW:Hid (∀ w,Tab6 w->Calls Tryz.prog 146 #[.int .u32 x] w (RetB (inV (readW x)) w)):=Lib.hid fun w hw=>winst_yes x hx w hw h
 have HIs:Hid (∀ w,Tab6 w->Calls Tryz.prog 56 #[inV (readW x)] w (RetB (.bool false) w)):=Lib.hid fun w hw=>by
  have:=InstIs_any (readW x) w hw.1 (readW_inB x hx)
  rwa [hI] at this
 have HB2:Hid (Below w.heap.size w ((w.alloc (.cells (inC inZ) 98)).alloc (.cells #[.int .i64 0] 34))):=Lib.hid (bel_alloc (bel_alloc (Below.refl _ _) _) _)
 clear hw h hI
 generalize readW x=r at*
 obtain ⟨o,d,n,m,a,xx,k,hh,t,c⟩:=r
 go_enter_defers Tryz.func128,Tryz.ntmps128
 go_wp2_with (first
  | (go_at_call 146;((with_reducible refine (HW.out _ (HT.out.below HB2.out)).mono ?_);rintro e w2 ⟨rfl,hb⟩;obtain ⟨hz,he,hbw⟩:=res_blocks hb;clear hb;have z0:w2.cell? ⟨w.heap.size,0,none⟩=some (.int .i64 0):=cel hz;have y0:w2.frozen? ⟨w.heap.size,0,none⟩=false:=frz hz;have z1:w2.cell? ⟨w.heap.size,1,none⟩=some (.int .i64 0):=cel hz;have y1:w2.frozen? ⟨w.heap.size,1,none⟩=false:=frz hz;have z2:w2.cell? ⟨w.heap.size,2,none⟩=some (.int .i64 0):=cel hz;have y2:w2.frozen? ⟨w.heap.size,2,none⟩=false:=frz hz;have z3:w2.cell? ⟨w.heap.size,3,none⟩=some (.int .i64 0):=cel hz;have y3:w2.frozen? ⟨w.heap.size,3,none⟩=false:=frz hz;have z4:w2.cell? ⟨w.heap.size,4,none⟩=some (.int .i64 0):=cel hz;have y4:w2.frozen? ⟨w.heap.size,4,none⟩=false:=frz hz;have z5:w2.cell? ⟨w.heap.size,5,none⟩=some (.int .i64 0):=cel hz;have y5:w2.frozen? ⟨w.heap.size,5,none⟩=false:=frz hz;have z6:w2.cell? ⟨w.heap.size,6,none⟩=some (.int .u64 0):=cel hz;have y6:w2.frozen? ⟨w.heap.size,6,none⟩=false:=frz hz;have z7:w2.cell? ⟨w.heap.size,7,none⟩=some (.int .i64 0):=cel hz;have y7:w2.frozen? ⟨w.heap.size,7,none⟩=false:=frz hz;have z8:w2.cell? ⟨w.heap.size,8,none⟩=some (.int .i64 0):=cel hz;have y8:w2.frozen? ⟨w.heap.size,8,none⟩=false:=frz hz;have z9:w2.cell? ⟨w.heap.size,9,none⟩=some (.int .i64 0):=cel hz;have y9:w2.frozen? ⟨w.heap.size,9,none⟩=false:=frz hz;have hz3:=set10_heap (i:=⟨o,d,n,m,a,xx,k,hh,t,c⟩) hz;have he3:=(set10_other (w:=w2) (B:=w.heap.size) (c:=w.heap.size+1) (i:=⟨o,d,n,m,a,xx,k,hh,t,c⟩) (by omega)).trans he;have hbw3:=set10_below (i:=⟨o,d,n,m,a,xx,k,hh,t,c⟩) hbw (Nat.le_refl _)))
  | (go_at_call 56;((with_reducible refine (HIs.out _ (HT.out.below hbw3)).mono ?_);rintro e w3 ⟨rfl,hb⟩;have hlt:w.heap.size+1 < (set10 w2 w.heap.size ⟨o,d,n,m,a,xx,k,hh,t,c⟩).heap.size:=(Array.getElem?_eq_some_iff.1 he3).1;replace hz:=(hb.block w.heap.size (by omega)).trans hz3;replace he:=(hb.block (w.heap.size+1) hlt).trans he3;replace hbw:=hbw3.trans (hb.mono hbw3.size);clear hb hz3 he3 hbw3 hlt;have g0:w3.cell? ⟨w.heap.size,0,none⟩=some (.int .i64 o):=cel hz;have l0:w3.frozen? ⟨w.heap.size,0,none⟩=false:=frz hz;have g1:w3.cell? ⟨w.heap.size,1,none⟩=some (.int .i64 d):=cel hz;have l1:w3.frozen? ⟨w.heap.size,1,none⟩=false:=frz hz;have g2:w3.cell? ⟨w.heap.size,2,none⟩=some (.int .i64 n):=cel hz;have l2:w3.frozen? ⟨w.heap.size,2,none⟩=false:=frz hz;have g3:w3.cell? ⟨w.heap.size,3,none⟩=some (.int .i64 m):=cel hz;have l3:w3.frozen? ⟨w.heap.size,3,none⟩=false:=frz hz;have g4:w3.cell? ⟨w.heap.size,4,none⟩=some (.int .i64 a):=cel hz;have l4:w3.frozen? ⟨w.heap.size,4,none⟩=false:=frz hz;have g5:w3.cell? ⟨w.heap.size,5,none⟩=some (.int .i64 xx):=cel hz;have l5:w3.frozen? ⟨w.heap.size,5,none⟩=false:=frz hz;have g6:w3.cell? ⟨w.heap.size,6,none⟩=some (.int .u64 k):=cel hz;have l6:w3.frozen? ⟨w.heap.size,6,none⟩=false:=frz hz;have g7:w3.cell? ⟨w.heap.size,7,none⟩=some (.int .i64 hh):=cel hz;have l7:w3.frozen? ⟨w.heap.size,7,none⟩=false:=frz hz;have g8:w3.cell? ⟨w.heap.size,8,none⟩=some (.int .i64 t):=cel hz;have l8:w3.frozen? ⟨w.heap.size,8,none⟩=false:=frz hz;have g9:w3.cell? ⟨w.heap.size,9,none⟩=some (.int .i64 c):=cel hz;have l9:w3.frozen? ⟨w.heap.size,9,none⟩=false:=frz hz;have g10:w3.cell? ⟨w.heap.size+1,0,none⟩=some (.int .i64 0):=cel he;have l10:w3.frozen? ⟨w.heap.size+1,0,none⟩=false:=frz he)))
 refine leaves_cons (f:=145) (args:=#[.pointer (some ⟨w.heap.size,0,none⟩),.pointer (some ⟨w.heap.size+1,0,none⟩)]) (by simp) (by simp [go_sem]) ?_
 refine (catch_panicking w.heap.size (w.heap.size+1) ⟨o,d,n,m,a,xx,k,hh,t,c⟩ 0 _ _ [] _ hz he (by omega)).mono ?_
 rintro e u' w4 ⟨rfl,rfl,hw4⟩
 have hB4:w4.heap[w.heap.size]?=some (.cells (inC inZ) 98 (0,0)):=by rw [hw4,hother (by omega)];exact set10_heap hz
 have hC4:w4.heap[w.heap.size+1]?=some (.cells #[.int .i64 11] 34 (0,0)):=by
  rw [hw4]
  exact hset (o:=0) (x:=.int .i64 11) ((set10_other (i:=inZ) (by omega)).trans he)
 have hb4:Below w.heap.size w w4:=by rw [hw4];exact bel_set (set10_below hbw (Nat.le_refl _)) (by omega)
 have b0:w4.cell? ⟨w.heap.size,0,none⟩=some (.int .i64 0):=cel hB4
 have b1:w4.cell? ⟨w.heap.size,1,none⟩=some (.int .i64 0):=cel hB4
 have b2:w4.cell? ⟨w.heap.size,2,none⟩=some (.int .i64 0):=cel hB4
 have b3:w4.cell? ⟨w.heap.size,3,none⟩=some (.int .i64 0):=cel hB4
 have b4:w4.cell? ⟨w.heap.size,4,none⟩=some (.int .i64 0):=cel hB4
 have b5:w4.cell? ⟨w.heap.size,5,none⟩=some (.int .i64 0):=cel hB4
 have b6:w4.cell? ⟨w.heap.size,6,none⟩=some (.int .u64 0):=cel hB4
 have b7:w4.cell? ⟨w.heap.size,7,none⟩=some (.int .i64 0):=cel hB4
 have b8:w4.cell? ⟨w.heap.size,8,none⟩=some (.int .i64 0):=cel hB4
 have b9:w4.cell? ⟨w.heap.size,9,none⟩=some (.int .i64 0):=cel hB4
 have d0:w4.cell? ⟨w.heap.size+1,0,none⟩=some (.int .i64 11):=cel hC4
 simp [Leaves,settle,results,Tryz.results128,go_sem,b0,b1,b2,b3,b4,b5,b6,b7,b8,b9,d0]
 exact ⟨rfl,hb4⟩
theorem CDecode_yes (x:Nat) (hx:x < 4294967296) (w:World) (hw:Tab6 w) (h:¬ noI x) (hI:isI (readW x)=true):Calls Tryz.prog 128 #[.int .u32 x] w (RetB (out2 (readW x,0)) w):=by
 have hmf:∀ (fn:Fn) (first cap:Array Value) (w:World),(Instr.makeFunc fn first cap).run Tryz.prog w=.ok (.func fn first cap) w:=fun _ _ _ _=>rfl
 have hZ:∀ w,(zeroValue 98).run Tryz.prog w=.ok (.agg (inC inZ)) w:=fun w=>by kernel_rfl
 have hE:∀ w,(zeroValue 34).run Tryz.prog w=.ok (.int .i64 0) w:=fun w=>by kernel_rfl
 have HT:=Lib.hid hw
 have HW:Hid (∀ w,Tab6 w->Calls Tryz.prog 146 #[.int .u32 x] w (RetB (inV (readW x)) w)):=Lib.hid fun w hw=>winst_yes x hx w hw h
 have HIs:Hid (∀ w,Tab6 w->Calls Tryz.prog 56 #[inV (readW x)] w (RetB (.bool true) w)):=Lib.hid fun w hw=>by
  have:=InstIs_any (readW x) w hw.1 (readW_inB x hx)
  rwa [hI] at this
 have HB2:Hid (Below w.heap.size w ((w.alloc (.cells (inC inZ) 98)).alloc (.cells #[.int .i64 0] 34))):=Lib.hid (bel_alloc (bel_alloc (Below.refl _ _) _) _)
 clear hw h hI
 generalize readW x=r at*
 obtain ⟨o,d,n,m,a,xx,k,hh,t,c⟩:=r
 go_enter_defers Tryz.func128,Tryz.ntmps128
 go_wp2_with (first
  | (go_at_call 146;((with_reducible refine (HW.out _ (HT.out.below HB2.out)).mono ?_);rintro e w2 ⟨rfl,hb⟩;obtain ⟨hz,he,hbw⟩:=res_blocks hb;clear hb;have z0:w2.cell? ⟨w.heap.size,0,none⟩=some (.int .i64 0):=cel hz;have y0:w2.frozen? ⟨w.heap.size,0,none⟩=false:=frz hz;have z1:w2.cell? ⟨w.heap.size,1,none⟩=some (.int .i64 0):=cel hz;have y1:w2.frozen? ⟨w.heap.size,1,none⟩=false:=frz hz;have z2:w2.cell? ⟨w.heap.size,2,none⟩=some (.int .i64 0):=cel hz;have y2:w2.frozen? ⟨w.heap.size,2,none⟩=false:=frz hz;have z3:w2.cell? ⟨w.heap.size,3,none⟩=some (.int .i64 0):=cel hz;have y3:w2.frozen? ⟨w.heap.size,3,none⟩=false:=frz hz;have z4:w2.cell? ⟨w.heap.size,4,none⟩=some (.int .i64 0):=cel hz;have y4:w2.frozen? ⟨w.heap.size,4,none⟩=false:=frz hz;have z5:w2.cell? ⟨w.heap.size,5,none⟩=some (.int .i64 0):=cel hz;have y5:w2.frozen? ⟨w.heap.size,5,none⟩=false:=frz hz;have z6:w2.cell? ⟨w.heap.size,6,none⟩=some (.int .u64 0):=cel hz;have y6:w2.frozen? ⟨w.heap.size,6,none⟩=false:=frz hz;have z7:w2.cell? ⟨w.heap.size,7,none⟩=some (.int .i64 0):=cel hz;have y7:w2.frozen? ⟨w.heap.size,7,none⟩=false:=frz hz;have z8:w2.cell? ⟨w.heap.size,8,none⟩=some (.int .i64 0):=cel hz;have y8:w2.frozen? ⟨w.heap.size,8,none⟩=false:=frz hz;have z9:w2.cell? ⟨w.heap.size,9,none⟩=some (.int .i64 0):=cel hz;have y9:w2.frozen? ⟨w.heap.size,9,none⟩=false:=frz hz;have hz3:=set10_heap (i:=⟨o,d,n,m,a,xx,k,hh,t,c⟩) hz;have he3:=(set10_other (w:=w2) (B:=w.heap.size) (c:=w.heap.size+1) (i:=⟨o,d,n,m,a,xx,k,hh,t,c⟩) (by omega)).trans he;have hbw3:=set10_below (i:=⟨o,d,n,m,a,xx,k,hh,t,c⟩) hbw (Nat.le_refl _)))
  | (go_at_call 56;((with_reducible refine (HIs.out _ (HT.out.below hbw3)).mono ?_);rintro e w3 ⟨rfl,hb⟩;have hlt:w.heap.size+1 < (set10 w2 w.heap.size ⟨o,d,n,m,a,xx,k,hh,t,c⟩).heap.size:=(Array.getElem?_eq_some_iff.1 he3).1;replace hz:=(hb.block w.heap.size (by omega)).trans hz3;replace he:=(hb.block (w.heap.size+1) hlt).trans he3;replace hbw:=hbw3.trans (hb.mono hbw3.size);clear hb hz3 he3 hbw3 hlt;have g0:w3.cell? ⟨w.heap.size,0,none⟩=some (.int .i64 o):=cel hz;have l0:w3.frozen? ⟨w.heap.size,0,none⟩=false:=frz hz;have g1:w3.cell? ⟨w.heap.size,1,none⟩=some (.int .i64 d):=cel hz;have l1:w3.frozen? ⟨w.heap.size,1,none⟩=false:=frz hz;have g2:w3.cell? ⟨w.heap.size,2,none⟩=some (.int .i64 n):=cel hz;have l2:w3.frozen? ⟨w.heap.size,2,none⟩=false:=frz hz;have g3:w3.cell? ⟨w.heap.size,3,none⟩=some (.int .i64 m):=cel hz;have l3:w3.frozen? ⟨w.heap.size,3,none⟩=false:=frz hz;have g4:w3.cell? ⟨w.heap.size,4,none⟩=some (.int .i64 a):=cel hz;have l4:w3.frozen? ⟨w.heap.size,4,none⟩=false:=frz hz;have g5:w3.cell? ⟨w.heap.size,5,none⟩=some (.int .i64 xx):=cel hz;have l5:w3.frozen? ⟨w.heap.size,5,none⟩=false:=frz hz;have g6:w3.cell? ⟨w.heap.size,6,none⟩=some (.int .u64 k):=cel hz;have l6:w3.frozen? ⟨w.heap.size,6,none⟩=false:=frz hz;have g7:w3.cell? ⟨w.heap.size,7,none⟩=some (.int .i64 hh):=cel hz;have l7:w3.frozen? ⟨w.heap.size,7,none⟩=false:=frz hz;have g8:w3.cell? ⟨w.heap.size,8,none⟩=some (.int .i64 t):=cel hz;have l8:w3.frozen? ⟨w.heap.size,8,none⟩=false:=frz hz;have g9:w3.cell? ⟨w.heap.size,9,none⟩=some (.int .i64 c):=cel hz;have l9:w3.frozen? ⟨w.heap.size,9,none⟩=false:=frz hz;have g10:w3.cell? ⟨w.heap.size+1,0,none⟩=some (.int .i64 0):=cel he;have l10:w3.frozen? ⟨w.heap.size+1,0,none⟩=false:=frz he)))
 clear z0 z1 z2 z3 z4 z5 z6 z7 z8 z9 y0 y1 y2 y3 y4 y5 y6 y7 y8 y9 g0 g1 g2 g3 g4 g5 g6 g7 g8 g9 g10 l0 l1 l2 l3 l4 l5 l6 l7 l8 l9 l10
 have hB5:((set10 w3 w.heap.size ⟨o,d,n,m,a,xx,k,hh,t,c⟩).setCell ⟨w.heap.size+1,0,none⟩ (.int .i64 0)).heap[w.heap.size]?=some (.cells (inC ⟨o,d,n,m,a,xx,k,hh,t,c⟩) 98 (0,0)):=by rw [hother (by omega)];exact set10_heap hz
 have hC5:((set10 w3 w.heap.size ⟨o,d,n,m,a,xx,k,hh,t,c⟩).setCell ⟨w.heap.size+1,0,none⟩ (.int .i64 0)).heap[w.heap.size+1]?=some (.cells #[.int .i64 0] 34 (0,0)):=
  hset (o:=0) (x:=.int .i64 0) ((set10_other (i:=⟨o,d,n,m,a,xx,k,hh,t,c⟩) (by omega)).trans he)
 have hb5:Below w.heap.size w ((set10 w3 w.heap.size ⟨o,d,n,m,a,xx,k,hh,t,c⟩).setCell ⟨w.heap.size+1,0,none⟩ (.int .i64 0)):=bel_set (set10_below hbw (Nat.le_refl _)) (by omega)
 generalize ((set10 w3 w.heap.size ⟨o,d,n,m,a,xx,k,hh,t,c⟩).setCell ⟨w.heap.size+1,0,none⟩ (.int .i64 0))=w5 at*
 refine leaves_cons (f:=145) (args:=#[.pointer (some ⟨w.heap.size,0,none⟩),.pointer (some ⟨w.heap.size+1,0,none⟩)]) (by simp) (by simp [go_sem]) ?_
 refine (catch_idle w.heap.size (w.heap.size+1) _).mono ?_
 rintro e u' w4 ⟨rfl,rfl,hw4⟩
 rw [<-hw4] at hB5 hC5 hb5
 have hB4:=hB5
 have hC4:=hC5
 have hb4:=hb5
 have b0:w4.cell? ⟨w.heap.size,0,none⟩=some (.int .i64 o):=cel hB4
 have b1:w4.cell? ⟨w.heap.size,1,none⟩=some (.int .i64 d):=cel hB4
 have b2:w4.cell? ⟨w.heap.size,2,none⟩=some (.int .i64 n):=cel hB4
 have b3:w4.cell? ⟨w.heap.size,3,none⟩=some (.int .i64 m):=cel hB4
 have b4:w4.cell? ⟨w.heap.size,4,none⟩=some (.int .i64 a):=cel hB4
 have b5:w4.cell? ⟨w.heap.size,5,none⟩=some (.int .i64 xx):=cel hB4
 have b6:w4.cell? ⟨w.heap.size,6,none⟩=some (.int .u64 k):=cel hB4
 have b7:w4.cell? ⟨w.heap.size,7,none⟩=some (.int .i64 hh):=cel hB4
 have b8:w4.cell? ⟨w.heap.size,8,none⟩=some (.int .i64 t):=cel hB4
 have b9:w4.cell? ⟨w.heap.size,9,none⟩=some (.int .i64 c):=cel hB4
 have d0:w4.cell? ⟨w.heap.size+1,0,none⟩=some (.int .i64 0):=cel hC4
 simp [Leaves,settle,results,Tryz.results128,go_sem,b0,b1,b2,b3,b4,b5,b6,b7,b8,b9,d0]
 exact ⟨rfl,hb4⟩
theorem CDecode_any (x:Nat) (hx:x < 4294967296) (w:World) (hw:Tab6 w):Calls Tryz.prog 128 #[.int .u32 x] w (RetB (out2 (dI x)) w):=by
 unfold dI
 rcases noI_or x with h | h
 ·rw [noI_not h,if_neg (by decide)]
  exact CDecode_no x hx w hw h
 ·cases hI:isI (readW x)
  ·rw [if_neg (by decide)]
   exact CDecode_wrong x hx w hw h hI
  ·rw [if_pos rfl]
   exact CDecode_yes x hx w hw h hI
end Go.Proofs.YtobdldadfipcgaaGreatDoor
namespace Go.Proofs.YtobdldadfipcgaaGreatDoor
open Go.ChangeShapes Go.WideShapes Go.Deep Go.RowKit
def fitT:List (List Int):=[[0,0,0],[0,0,0],[29,30,0],[31,32,33],[26,0,0],[27,0,0],[28,0,0],[4,0,0],[22,23,0],[24,25,0]]
def fitK (kind:Int):List Int:=if kind < 0\/9 < kind then [] else fitT.getD kind.toNat []
def fitsI (kind:Int) (i:In):Bool:=isI i && i.imm == 0 && i.amount == 0 && (fitK kind).any (· == i.op)
end Go.Proofs.YtobdldadfipcgaaGreatDoor
namespace Go.Proofs.YtobdldadfipcgaaGreatDoor
open Go.RowKit
def rowData {H:Type} (k:IntKind) (zs:List (List Int)):DataW H:=.agg (zs.map fun z=>Lib.tabData k z)
def RowsIs (P:Program) (w:World) (name:String) (k:IntKind) (zs:List (List Int)):Prop:=w.var? P name=some ((zs.map fun z=>z.map fun x=>Value.int k x).flatten).toArray
theorem rows_eq {α:Type} (m:Nat):∀ (rs:List (List α)) (cs:List α),cs.length=rs.length*m->(∀ (i:Nat) (h:i < rs.length),(cs.drop (i*m)).take m=rs[i])->cs=rs.flatten:=by
 intro rs
 induction rs with
 | nil=>
  intro cs h _
  rw [List.length_nil,Nat.zero_mul] at h
  rw [List.eq_nil_of_length_eq_zero h];rfl
 | cons r rs ih=>
  intro cs hl h
  rw [List.length_cons,Nat.succ_mul] at hl
  have h0:=h 0 (by simp)
  rw [Nat.zero_mul,List.drop_zero,List.getElem_cons_zero] at h0
  have h1:=ih (cs.drop m) (by rw [List.length_drop];omega) (fun i hi=>by
   have:=h (i+1) (by simpa using hi)
   rw [List.getElem_cons_succ] at this
   rw [List.drop_drop,<-this,Nat.succ_mul,Nat.add_comm])
  rw [List.flatten_cons,<-h0,<-h1,List.take_append_drop]
theorem cells_of_rows {H:Type} {enc:TypeId × Value->H} {P:Program} {w:World} {base:Nat} {sp:Nat->Bool} {held:Bool} {fuel:Nat} {t e x:TypeId} {n m:Nat} {k:IntKind} {cs:List Value} {zs:List (List Int)} {p:List MemPlace}
  (ht:P.underlying t=some (.array n e)) (he:P.underlying e=some (.array m x)) (hx:P.underlying x=some (.int k)) (hcx:P.cellsOf x=1) (hce:P.cellsOf e=m) (hct:P.cellsOf t=n*m)
  (h:DataW.trod enc P w base sp held fuel t cs=some (rowData k zs,p)):cs=(zs.map fun z=>z.map fun x=>Value.int k x).flatten:=by
 match fuel,h with
 | 0,h=>simp [DataW.trod] at h
 | f+1,h=>
  simp only [DataW.trod,ht,hce,hct] at h
  split at h
  case isFalse=>cases h
  case isTrue hl=>
   obtain ⟨xs,hm,hy⟩:=Option.map_eq_some_iff.1 h
   have h1:xs.map (·.1)=zs.map fun z=>(Lib.tabData k z:DataW H):=by simpa [rowData] using congrArg Prod.fst hy
   have hxl:xs.length=n:=by simpa using Lib.mapM_length hm
   have hzl:zs.length=n:=by simpa [hxl] using (congrArg List.length h1).symm
   refine rows_eq m _ cs (by rw [hl,List.length_map,hzl]) fun i hi=>?_
   rw [List.length_map,hzl] at hi
   obtain ⟨b,hb,hf⟩:=Lib.mapM_at hm i i (by simp [hi])
   have c2:(xs.map (·.1))[i]?=some b.1:=by simp [hb]
   rw [h1,List.getElem?_map,Option.map_eq_some_iff] at c2
   obtain ⟨z,hz,hzz⟩:=c2
   have hb2:b=(Lib.tabData k z,b.2):=by rw [hzz]
   rw [hb2] at hf
   have:=Lib.cells_of_tab he hx hcx hce hf
   rw [this,List.getElem_map]
   have hzi:zs[i]'(by omega)=z:=by
    have:=List.getElem?_eq_getElem (l:=zs) (i:=i) (by omega)
    rw [this] at hz;exact Option.some.inj hz
   rw [hzi]
theorem rowsIs_of_head {P:Program} {W:World} {name:String} {k:IntKind} {zs:List (List Int)} {rest:List (String × DataW Unit)} {g:Nat} {t e x:TypeId} {n m:Nat}
  (hg:P.globalNamed name=some g) (hty:(P.globals[g]?).map (·.type)=some t) (ht:P.underlying t=some (.array n e)) (he:P.underlying e=some (.array m x)) (hx:P.underlying x=some (.int k)) (hcx:P.cellsOf x=1) (hce:P.cellsOf e=m) (hct:P.cellsOf t=n*m)
  (h:laidMet P ((name,rowData k zs) :: rest) W):RowsIs P W name k zs:=by
 obtain ⟨ps,⟨g',t',cs,fuel,p,q,hg',ht',hvar,hd,_,_⟩,_⟩:=h
 have e1:=Option.some.inj (hg.symm.trans hg')
 subst e1
 have e2:=Option.some.inj (hty.symm.trans ht')
 subst e2
 rw [RowsIs,hvar,<-cells_of_rows ht he hx hcx hce hct hd]
theorem RowsIs.cell {P:Program} {W:World} {name:String} {k:IntKind} {zs:List (List Int)} {g:Nat} (h:RowsIs P W name k zs) (hg:P.globalNamed name=some g) (i:Nat) (v:Value) (hi:((zs.map fun z=>z.map fun x=>Value.int k x).flatten)[i]?=some v):
  W.cell? ⟨g,i,none⟩=some v:=by
 have:=World.var?_cell hg h i
 simp only [List.getElem?_toArray] at this
 rw [this];exact hi
def fitF:List Int:=[0,0,0,0,0,0,29,30,0,31,32,33,26,0,0,27,0,0,28,0,0,4,0,0,22,23,0,24,25,0]
abbrev Fitting (w:World):Prop:=∀ j,j < 30->w.cell? ⟨2,j,none⟩=some (.int .i64 (fitF.getD j 0))
abbrev Tab7 (w:World):Prop:=Tab6 w/\Fitting w/\2 < w.heap.size
theorem Tab7.below {w w':World} (h:Tab7 w) (hb:Below w.heap.size w w'):Tab7 w':=
 ⟨h.1.below hb,fun j hj=>by rw [hb.cell (p:=⟨2,j,none⟩) h.2.2];exact h.2.1 j hj,Nat.lt_of_lt_of_le h.2.2 hb.size⟩
theorem jFi:Tryz.prog.globalNamed "cleat/part.fitting" = some 2:=by kernel_rfl
theorem tab7_of {w:World} (h6:Tab6 w) (hf:RowsIs Tryz.prog w "cleat/part.fitting" .i64 fitT):Tab7 w:=by
 have hc:∀ j:Fin 30,((fitT.map fun z=>z.map fun x=>Value.int .i64 x).flatten)[j.val]?=some (.int .i64 (fitF.getD j.val 0)):=fun ⟨j,hj⟩=>by
  have hcs:j=0\/j=1\/j=2\/j=3\/j=4\/j=5\/j=6\/j=7\/j=8\/j=9\/j=10\/j=11\/j=12\/j=13\/j=14\/j=15\/j=16\/j=17\/j=18\/j=19\/j=20\/j=21\/j=22\/j=23\/j=24\/j=25\/j=26\/j=27\/j=28\/j=29:=by omega
  rcases hcs with rfl | rfl | rfl | rfl | rfl | rfl | rfl | rfl | rfl | rfl | rfl | rfl | rfl | rfl | rfl | rfl | rfl | rfl | rfl | rfl | rfl | rfl | rfl | rfl | rfl | rfl | rfl | rfl | rfl | rfl <;> rfl
 exact ⟨h6,fun j hj=>hf.cell jFi j _ (hc ⟨j,hj⟩),cell_lt (hf.cell jFi 0 _ (hc ⟨0,by decide⟩))⟩
theorem fit_row (k:Nat) (hk:k<=9):∃ a b c:Int,fitF.getD (3*k) 0=a/\fitF.getD (3*k+1) 0=b/\fitF.getD (3*k+2) 0=c/\fitK (k:Int)=[a,b,c]:=by
 have hc:k=0\/k=1\/k=2\/k=3\/k=4\/k=5\/k=6\/k=7\/k=8\/k=9:=by omega
 rcases hc with rfl | rfl | rfl | rfl | rfl | rfl | rfl | rfl | rfl | rfl <;> exact ⟨_,_,_,rfl,rfl,rfl,rfl⟩
theorem range3 {w:World} {g o:Nat} {a b c:Int} (h0:w.cell? ⟨g,o,none⟩=some (.int .i64 a)) (h1:w.cell? ⟨g,o+1,none⟩=some (.int .i64 b)) (h2:w.cell? ⟨g,o+2,none⟩=some (.int .i64 c)):w.rangeAt g o [.int .i64 a,.int .i64 b,.int .i64 c]:=by
 intro j v hj
 match j,hj with
 | 0,hj=>cases hj;exact h0
 | 1,hj=>cases hj;exact h1
 | 2,hj=>cases hj;exact h2
theorem fits_low (kind:Int) (x:Nat) (w:World) (h:kind < 0):Calls Tryz.prog 96 #[.int .i64 kind,.int .u32 x] w (RetB (.bool false) w):=by
 go_enter Tryz.func96,Tryz.ntmps96
 go_wp2
 go_ret
 exact retB_bool rfl (Below.refl _ _)
theorem fits_high (kind:Int) (x:Nat) (w:World) (h:9 < kind) (h63:kind<=9223372036854775807):Calls Tryz.prog 96 #[.int .i64 kind,.int .u32 x] w (RetB (.bool false) w):=by
 have h0:¬ kind < 0:=by omega
 go_enter Tryz.func96,Tryz.ntmps96
 go_wp2
 go_ret
 exact retB_bool rfl (Below.refl _ _)
theorem fits_no (kind:Int) (x:Nat) (w:World) (h0:0<=kind) (h9:kind<=9) (hx:x < 4294967296) (hw:Tab7 w) (hI:isI (readW x)=false):Calls Tryz.prog 96 #[.int .i64 kind,.int .u32 x] w (RetB (.bool false) w):=by
 have HD:Hid (∀ w,Tab7 w->Calls Tryz.prog 128 #[.int .u32 x] w (RetB (.tuple #[inV inZ,.int .i64 11]) w)):=Lib.hid fun w h=>by
  have:=CDecode_any x hx w h.1
  rwa [show dI x=(inZ,11) from by unfold dI;rw [hI];rfl] at this
 have HT:=Lib.hid hw
 clear hw hI
 have HB:=Lib.hid (Below.refl w.heap.size w)
 go_enter Tryz.func96,Tryz.ntmps96
 go_wp2_with (go_at_call 128;((with_reducible refine (HD.out _ (HT.out.below HB.out)).mono ?_);rintro e w1 ⟨rfl,hb⟩;replace HB:=Lib.hid (after HB.out hb);clear hb))
 go_ret
 exact retB_bool rfl (bel_alloc HB.out _)
theorem fits_yes (k:Nat) (x:Nat) (w:World) (h9:k<=9) (hx:x < 4294967296) (hw:Tab7 w) (hI:isI (readW x)=true):Calls Tryz.prog 96 #[.int .i64 (k:Int),.int .u32 x] w (RetB (.bool (fitsI (k:Int) (readW x))) w):=by
 have HD:Hid (∀ w,Tab7 w->Calls Tryz.prog 128 #[.int .u32 x] w (RetB (.tuple #[inV (readW x),.int .i64 0]) w)):=Lib.hid fun w h=>by
  have:=CDecode_any x hx w h.1
  rwa [show dI x=(readW x,0) from by unfold dI;rw [hI];rfl] at this
 obtain ⟨r0,r1,r2,e0,e1,e2,er⟩:=fit_row k h9
 have HE:Hid (fitsI (k:Int) (readW x)=((readW x).imm == 0 && ((readW x).amount == 0 && (r0 == (readW x).op || (r1 == (readW x).op || r2 == (readW x).op))))):=Lib.hid (by unfold fitsI;rw [hI,er];simp [Bool.and_assoc])
 have HC:Hid (∀ w,Tab7 w->w.rangeAt 2 (k*3) [.int .i64 r0,.int .i64 r1,.int .i64 r2]):=Lib.hid fun w h=>by
  rw [Nat.mul_comm]
  exact range3 (by rw [h.2.1 (3*k) (by omega),e0]) (by rw [h.2.1 (3*k+1) (by omega),e1]) (by rw [h.2.1 (3*k+2) (by omega),e2])
 have hsz:(Tryz.prog.info? 218).map (·.size)=some 3:=by kernel_rfl
 have HSZ:=Lib.hid hsz
 have HT:=Lib.hid hw
 have i0:∀ w,(Instr.index 218 (.agg #[.int .i64 r0,.int .i64 r1,.int .i64 r2]) (.int .i64 0)).run Tryz.prog w=.ok (.int .i64 r0) w:=fun _=>by kernel_rfl
 have i1:∀ w,(Instr.index 218 (.agg #[.int .i64 r0,.int .i64 r1,.int .i64 r2]) (.int .i64 1)).run Tryz.prog w=.ok (.int .i64 r1) w:=fun _=>by kernel_rfl
 have i2:∀ w,(Instr.index 218 (.agg #[.int .i64 r0,.int .i64 r1,.int .i64 r2]) (.int .i64 2)).run Tryz.prog w=.ok (.int .i64 r2) w:=fun _=>by kernel_rfl
 clear hw hI e0 e1 e2 er hsz
 generalize readW x=i at*
 obtain ⟨o,d,n,m,a,y,kk,hh,t,c⟩:=i
 simp only [] at HE
 have HB:=Lib.hid (Below.refl w.heap.size w)
 cases g0:(y == 0)
 ·have HE2:Hid (fitsI (k:Int) ⟨o,d,n,m,a,y,kk,hh,t,c⟩=false):=Lib.hid (by rw [HE.out,g0];rfl)
  clear HE HC HSZ i0 i1 i2
  have g0':(y != 0)=true:=by simp [bne,g0]
  go_enter Tryz.func96,Tryz.ntmps96
  go_wp2_with (go_at_call 128;((with_reducible refine (HD.out _ (HT.out.below HB.out)).mono ?_);rintro e w1 ⟨rfl,hb⟩;replace HB:=Lib.hid (after HB.out hb);clear hb))
  go_ret
  exact retB_bool (by rw [HE2.out]) (bel_alloc HB.out _)
 ·obtain rfl:y=0:=eq_of_beq g0
  clear g0
  cases g0:(t == 0)
  ·have HE2:Hid (fitsI (k:Int) ⟨o,d,n,m,a,0,kk,hh,t,c⟩=false):=Lib.hid (by rw [HE.out,g0];rfl)
   clear HE HC HSZ i0 i1 i2
   have g0':(t != 0)=true:=by simp [bne,g0]
   go_enter Tryz.func96,Tryz.ntmps96
   go_wp2_with (go_at_call 128;((with_reducible refine (HD.out _ (HT.out.below HB.out)).mono ?_);rintro e w1 ⟨rfl,hb⟩;replace HB:=Lib.hid (after HB.out hb);clear hb))
   go_ret
   exact retB_bool (by rw [HE2.out]) (bel_alloc HB.out _)
  ·obtain rfl:t=0:=eq_of_beq g0
   clear g0
   have HE2:Hid (fitsI (k:Int) ⟨o,d,n,m,a,0,kk,hh,0,c⟩=(r0 == o || (r1 == o || r2 == o))):=Lib.hid (by rw [HE.out];rfl)
   clear HE
   cases q0:(r0 == o) <;> cases q1:(r1 == o) <;> cases q2:(r2 == o)
   all_goals
    rw [q0,q1,q2] at HE2
    go_enter Tryz.func96,Tryz.ntmps96
    go_wp2_with (first
     | (go_at_call 128;((with_reducible refine (HD.out _ (HT.out.below HB.out)).mono ?_);rintro e w1 ⟨rfl,hb⟩;replace HB:=Lib.hid (after HB.out hb);clear hb))
     | (refine wpList_load_mid rfl 218 _ rfl 2 (k*3) rfl [.int .i64 r0,.int .i64 r1,.int .i64 r2] _ (HC.out _ (HT.out.below (bel_alloc HB.out _))) Tryz.underlying218 rfl HSZ.out ?_))
    refine wp_loop_rounds 4 ?_
    rw [rounds_succ]
    go_wp2
    iterate 3 (all_goals (try (rw [rounds_succ];go_wp2)))
    all_goals
     go_ret
     exact retB_bool (by rw [HE2.out];rfl) (bel_alloc HB.out _)
theorem Fits_any (kind:Int) (x:Nat) (w:World) (k0 : -9223372036854775808<=kind) (k1:kind<=9223372036854775807) (hx:x < 4294967296) (hw:Tab7 w):Calls Tryz.prog 96 #[.int .i64 kind,.int .u32 x] w (RetB (.bool (fitsI kind (readW x))) w):=by
 by_cases h0:kind < 0
 ·rw [show fitsI kind (readW x)=false from by unfold fitsI fitK;rw [if_pos (.inl h0)];simp]
  exact fits_low kind x w h0
 by_cases h9:9 < kind
 ·rw [show fitsI kind (readW x)=false from by unfold fitsI fitK;rw [if_pos (.inr h9)];simp]
  exact fits_high kind x w h9 k1
 obtain ⟨k,rfl⟩:=Int.eq_ofNat_of_zero_le (show 0<=kind by omega)
 cases hI:isI (readW x)
 ·rw [show fitsI (k:Int) (readW x)=false from by unfold fitsI;rw [hI];rfl]
  exact fits_no _ x w (by omega) (by omega) hx hw hI
 ·exact fits_yes k x w (by omega) hx hw hI
theorem tabs7_of {w:World} (h64:Lib.TabIs Tryz.prog w "math/bits.deBruijn64tab" .u8 [0,1,56,2,57,49,28,3,61,58,42,50,38,29,17,4,62,47,59,36,45,43,51,22,53,39,33,30,24,18,12,5,63,55,48,27,60,41,37,16,46,35,44,21,52,32,23,11,54,26,40,15,34,20,31,10,25,14,19,9,13,8,7,6])
  (hs:Lib.TabIs Tryz.prog w "cleat/inst.shapes" .i64 shL) (hb:Lib.TabIs Tryz.prog w "cleat/code.bases" .u32 baI) (hl:Lib.TabIs Tryz.prog w "cleat/code.loose" .u32 loI) (hf:RowsIs Tryz.prog w "cleat/part.fitting" .i64 fitT):Tab7 w:=tab7_of (tabs_of h64 hs hb hl) hf
end Go.Proofs.YtobdldadfipcgaaGreatDoor
namespace Go.Proofs.YtobdldadfipcgaaGreatDoor
open Go.RowKit
def leV:List UInt8->Nat
 | []=>0
 | b :: r=>b.toNat+256*leV r
def leB:Nat->Nat->List UInt8
 | 0,_=>[]
 | n+1,v=>UInt8.ofNat v :: leB n (v / 256)
theorem leB_len (n v:Nat):(leB n v).length=n:=by
 induction n generalizing v with
 | zero=>rfl
 | succ n ih=>rw [leB,List.length_cons,ih]
theorem leV_lt (l:List UInt8):leV l < 256 ^ l.length:=by
 induction l with
 | nil=>decide
 | cons b r ih=>
  have:=b.toNat_lt
  rw [leV,List.length_cons,Nat.pow_succ];omega
theorem leV_snoc (l:List UInt8) (b:UInt8):leV (l ++ [b])=leV l+b.toNat*256 ^ l.length:=by
 induction l with
 | nil=>simp [leV]
 | cons a r ih=>
  rw [List.cons_append,leV,ih,leV,List.length_cons,Nat.pow_succ,Nat.mul_add,<-Nat.add_assoc]
  congr 1
  rw [Nat.mul_left_comm,Nat.mul_comm 256]
theorem pow256 (k:Nat):(256:Nat) ^ k=2 ^ (8*k):=by rw [Nat.pow_mul]
theorem or_byte (u b k:Nat) (hu:u < 256 ^ k) (hb:b < 256) (hk:k<=7):
  bits BinOp.or IntKind.u64 (u:Int) (IntKind.u64.wrap ((b:Int)*2 ^ (8*k)))=((u+b*256 ^ k:Nat):Int):=by
 have h1:(256:Nat) ^ k<=256 ^ 7:=Nat.pow_le_pow_right (by decide) hk
 have h2:b*256 ^ k<=255*256 ^ k:=Nat.mul_le_mul_right _ (by omega)
 have h3:(256:Nat) ^ 7=72057594037927936:=by decide
 rw [h3] at h1
 rw [pow256] at hu h1 h2 ⊢
 have e:IntKind.u64.wrap ((b:Int)*2 ^ (8*k))=((b*2 ^ (8*k):Nat):Int):=by
  rw [IntKind.wrap_u64,Int.natCast_mul,pow_cast,Int.emod_eq_of_lt]
  ·rw [<-pow_cast,<-Int.natCast_mul];omega
  ·rw [<-pow_cast,<-Int.natCast_mul];omega
 rw [e,u64_or_nat _ _ (by omega) (by omega)]
 congr 1
 rw [Nat.or_comm,Nat.mul_comm b,<-Nat.two_pow_add_eq_or_of_lt hu,Nat.add_comm]
theorem fwrap_byte (b:UInt8):IntKind.u64.wrap (b.toNat:Int)=(b.toNat:Int):=by
 have:=b.toNat_lt
 rw [IntKind.wrap_u64,Int.emod_eq_of_lt (by omega) (by omega)]
theorem ftake_snoc (D:ByteArray) (k:Nat) (h:k < D.size):D.data.toList.take (k+1)=D.data.toList.take k ++ [D[k]]:=by
 rw [List.take_succ_eq_append_getElem (by simpa using h)];rfl
theorem fnumber_any (D:ByteArray) (w:World) (hs:D.size<=8):Calls Tryz.prog 97 #[.string D] w (Ret (.int .u64 ((leV D.data.toList:Nat):Int)) w):=by
 go_enter Tryz.func97,Tryz.ntmps97
 go_wp2
 go_loop [3,7] (fun v i=>∃ k:Nat,k<=D.size/\i=.int .i64 k/\v=.int .u64 ((leV (D.data.toList.take k):Nat):Int)) (fun _ i=>D.size - (intOf i).toNat)
 case atStart=>exact ⟨0,by omega,rfl,rfl⟩
 case round=>
  obtain ⟨k,hk,rfl,rfl⟩:=hrel
  have hl:(D.data.toList.take k).length=k:=by rw [List.length_take,Array.length_toList];have:D.data.size=D.size:=rfl;omega
  by_cases hlt:k < D.size
  ·have hu:=leV_lt (D.data.toList.take k)
   rw [hl] at hu
   have HS:Hid (leV (D.data.toList.take (k+1))=leV (D.data.toList.take k)+D[k].toNat*256 ^ k):=Lib.hid (by rw [ftake_snoc D k hlt,leV_snoc,hl])
   have HO:=Lib.hid (or_byte (leV (D.data.toList.take k)) D[k].toNat k hu D[k].toNat_lt (by omega))
   generalize leV (D.data.toList.take k)=u at*
   clear hl hu
   go_wp2
   go_round
   case rel=>exact ⟨k+1,by omega,by go_num,by rw [fwrap_byte,HS.out,<-HO.out]⟩
   case measure=>simp [intOf];omega
  ·have HE:Hid (D.data.toList.take k=D.data.toList):=Lib.hid (List.take_of_length_le (by rw [Array.length_toList];have:D.data.size=D.size:=rfl;omega))
   clear hl
   go_wp2
   go_ret
   exact ret_int (by rw [HE.out])
end Go.Proofs.YtobdldadfipcgaaGreatDoor
