/- obj: the reader: text, int. obj: what the reader reads, as functions to Option; one contract each for what is read and what throws. obj: the reader: symbol. obj, plain: the bytes tell objects apart. obj, plain: what bytes are read as; what is put is read back, and only that. -/
import Derived.Test.YthkolmebokfagaaGreatDoorqK
import Derived.Test.YthkolmebokfagaaGreatDoorqJ
set_option maxRecDepth 100000
set_option maxHeartbeats 1000000
set_option linter.unusedVariables false
set_option linter.unusedSimpArgs false
namespace Go.Proofs.YthkolmebokfagaaGreatDoor
open Go.RowKit
open Go.ChangeShapes Go.WideShapes Go.Deep Go.RowKit
open Go.Proofs.YthkolmebokfagaaGreatDoor.Wi (getL geti iv tv getT GetInt_any GetText_any)
theorem otext_ok (r:Nat) (D S:ByteArray) (most:Int) (m:Nat) (hg:getT D most=(S,m,0)) (h0 : -9223372036854775808<=most) (h1:most<=9223372036854775807) (hm:m<=D.size) (hD:D.size<=maxLen) (w:World) (h:RO w r D):
  Calls Tryz.prog 96 #[.pointer (some ⟨r,0,none⟩),.int .i64 most] w (DidO (.string S) r (D.extract m D.size) w):=by
 have HGt:Hid (∀ u,Calls Tryz.prog 113 #[.string D,.int .i64 most] u (Ret (.tuple #[.string S,.int .i64 (m:Int),.int .i64 0]) u)):=Lib.hid fun u=>by
  have:=GetText_any D most h0 h1 u hD
  rw [hg] at this
  exact this
 have HTk:=Lib.hid (fun u (hu:RO u r D)=>took_ok r D m hm hD u hu)
 have H:=Lib.hid h
 have c0:w.cell? ⟨r,0,none⟩=some (.string D):=h.cell
 clear h hg hD hm h0 h1
 go_enter Tryz.func96,Tryz.ntmps96
 go_wp2_with fail
 refine (HGt.out _).mono ?_
 rintro e u ⟨rfl,rfl⟩
 clear c0
 go_wp2_with fail
 refine (HTk.out _ H.out).mono ?_
 rintro e u ⟨rfl,hr,hk⟩
 have HR:=Lib.hid hr
 have HK:=Lib.hid hk
 clear hr hk
 go_wp2
 go_ret
 exact ⟨rfl,HR.out,HK.out⟩
theorem otext_bad (r:Nat) (D S:ByteArray) (most:Int) (m e:Nat) (hg:getT D most=(S,m,e)) (he:e ≠ 0) (h0 : -9223372036854775808<=most) (h1:most<=9223372036854775807) (hD:D.size<=maxLen) (w:World) (h:RO w r D):
  Calls Tryz.prog 96 #[.pointer (some ⟨r,0,none⟩),.int .i64 most] w (ThrO r w):=by
 have HGt:Hid (∀ u,Calls Tryz.prog 113 #[.string D,.int .i64 most] u (Ret (.tuple #[.string S,.int .i64 (m:Int),.int .i64 (e:Int)]) u)):=Lib.hid fun u=>by
  have:=GetText_any D most h0 h1 u hD
  rw [hg] at this
  exact this
 have HTk:=Lib.hid (fun u=>took_no r (m:Int) (e:Int) (by omega) u)
 have c0:w.cell? ⟨r,0,none⟩=some (.string D):=h.cell
 clear h hg hD he h0 h1
 go_enter Tryz.func96,Tryz.ntmps96
 go_wp2_with fail
 refine (HGt.out _).mono ?_
 rintro e u ⟨rfl,rfl⟩
 clear c0
 go_wp2_with fail
 refine (HTk.out _).mono ?_
 rintro e u ⟨rfl,hk⟩
 have HK:=Lib.hid hk
 clear hk
 go_wp2
 exact ⟨rfl,rfl,HK.out⟩
theorem oint_ok (r:Nat) (D:ByteArray) (x:Int) (m:Nat) (hg:geti D.data.toList=(x,m,0)) (hm:m<=D.size) (hD:D.size<=maxLen) (w:World) (h:RO w r D):
  Calls Tryz.prog 97 #[.pointer (some ⟨r,0,none⟩)] w (DidO (.int .i64 x) r (D.extract m D.size) w):=by
 have HGt:Hid (∀ u,Calls Tryz.prog 114 #[.string D] u (Ret (.tuple #[.int .i64 x,.int .i64 (m:Int),.int .i64 0]) u)):=Lib.hid fun u=>by
  have:=GetInt_any D u hD
  rw [hg] at this
  exact this
 have HTk:=Lib.hid (fun u (hu:RO u r D)=>took_ok r D m hm hD u hu)
 have H:=Lib.hid h
 have c0:w.cell? ⟨r,0,none⟩=some (.string D):=h.cell
 clear h hg hD hm
 go_enter Tryz.func97,Tryz.ntmps97
 go_wp2_with fail
 refine (HGt.out _).mono ?_
 rintro e u ⟨rfl,rfl⟩
 clear c0
 go_wp2_with fail
 refine (HTk.out _ H.out).mono ?_
 rintro e u ⟨rfl,hr,hk⟩
 have HR:=Lib.hid hr
 have HK:=Lib.hid hk
 clear hr hk
 go_wp2
 go_ret
 exact ⟨rfl,HR.out,HK.out⟩
theorem oint_bad (r:Nat) (D:ByteArray) (x:Int) (m e:Nat) (hg:geti D.data.toList=(x,m,e)) (he:e ≠ 0) (hD:D.size<=maxLen) (w:World) (h:RO w r D):
  Calls Tryz.prog 97 #[.pointer (some ⟨r,0,none⟩)] w (ThrO r w):=by
 have HGt:Hid (∀ u,Calls Tryz.prog 114 #[.string D] u (Ret (.tuple #[.int .i64 x,.int .i64 (m:Int),.int .i64 (e:Int)]) u)):=Lib.hid fun u=>by
  have:=GetInt_any D u hD
  rw [hg] at this
  exact this
 have HTk:=Lib.hid (fun u=>took_no r (m:Int) (e:Int) (by omega) u)
 have c0:w.cell? ⟨r,0,none⟩=some (.string D):=h.cell
 clear h hg hD he
 go_enter Tryz.func97,Tryz.ntmps97
 go_wp2_with fail
 refine (HGt.out _).mono ?_
 rintro e u ⟨rfl,rfl⟩
 clear c0
 go_wp2_with fail
 refine (HTk.out _).mono ?_
 rintro e u ⟨rfl,hk⟩
 have HK:=Lib.hid hk
 clear hk
 go_wp2
 exact ⟨rfl,rfl,HK.out⟩
theorem onum_big (r:Nat) (D:ByteArray) (most:Int) (x m:Nat) (hg:getL D.data.toList=(x,m,0)) (hx:most < (x:Int)) (hmo0:0<=most) (hmo:most<=9223372036854775807) (hm:m<=D.size) (hD:D.size<=maxLen) (w:World) (h:RO w r D):
  Calls Tryz.prog 72 #[.pointer (some ⟨r,0,none⟩),.int .i64 most] w (ThrO r w):=by
 have HGt:Hid (∀ u,Calls Tryz.prog 94 #[.string D] u (Ret (.tuple #[.int .u64 (x:Int),.int .i64 (m:Int),.int .i64 0]) u)):=Lib.hid fun u=>by
  have:=Wi.Get_any D u hD
  rw [hg] at this
  exact this
 have HTk:=Lib.hid (fun u (hu:RO u r D)=>took_ok r D m hm hD u hu)
 have H:=Lib.hid h
 have c0:w.cell? ⟨r,0,none⟩=some (.string D):=h.cell
 have hw1:IntKind.u64.wrap most=most:=by rw [IntKind.wrap_u64];omega
 clear h hg hD hm
 go_enter Tryz.func72,Tryz.ntmps72
 go_wp2_with fail
 refine (HGt.out _).mono ?_
 rintro e u ⟨rfl,rfl⟩
 clear c0
 go_wp2_with fail
 refine (HTk.out _ H.out).mono ?_
 rintro e u ⟨rfl,hr,hk⟩
 have HK:=Lib.hid hk
 clear hr hk
 go_wp2
 exact ⟨rfl,rfl,HK.out⟩
open Go.ChangeShapes Go.WideShapes Go.Deep Go.RowKit
open Go.Proofs.YthkolmebokfagaaGreatDoor.Wi (getL getL_only getL_kind geti getT getT_ok)
def rdNum (most:Int) (D:ByteArray):Option (Nat × ByteArray):=if (getL D.data.toList).2.2=0/\((getL D.data.toList).1:Int)<=most then some ((getL D.data.toList).1,D.extract (getL D.data.toList).2.1 D.size) else none
def rdTxt (most:Int) (D:ByteArray):Option (ByteArray × ByteArray):=if (getT D most).2.2=0 then some ((getT D most).1,D.extract (getT D most).2.1 D.size) else none
def rdInt (D:ByteArray):Option (Int × ByteArray):=if (geti D.data.toList).2.2=0 then some ((geti D.data.toList).1,D.extract (geti D.data.toList).2.1 D.size) else none
theorem rest_size (D:ByteArray) (m:Nat):(D.extract m D.size).size<=D.size:=by
 rw [ByteArray.size_extract];omega
theorem getT_size {D S:ByteArray} {most:Int} {m:Nat} (h:getT D most=(S,m,0)):m<=D.size:=by
 unfold getT at h
 split at h
 ·simp only [Prod.mk.injEq] at h;omega
 ·split at h
  ·rename_i c;simp only [Prod.mk.injEq] at h;exact absurd h.2.2 c
  ·split at h
   ·simp only [Prod.mk.injEq] at h;omega
   ·split at h
    ·simp only [Prod.mk.injEq] at h;omega
    ·rename_i c
     simp only [Prod.mk.injEq] at h
     omega
theorem rdNum_ok {r:Nat} {D D':ByteArray} {most:Int} {x:Nat} (h:rdNum most D=some (x,D')) (hmo:most<=9223372036854775807) (hD:D.size<=maxLen) (w:World) (hr:RO w r D):
  Calls Tryz.prog 72 #[.pointer (some ⟨r,0,none⟩),.int .i64 most] w (DidO (.int .i64 (x:Int)) r D' w):=by
 unfold rdNum at h
 split at h
 ·rename_i c
  obtain ⟨c1,c2⟩:=c
  simp only [Option.some.injEq,Prod.mk.injEq] at h
  obtain ⟨rfl,rfl⟩:=h
  have hg:getL D.data.toList=((getL D.data.toList).1,(getL D.data.toList).2.1,0):=by rw [<-c1]
  exact onum_ok r D most _ _ hg c2 hmo (by have:=(getL_only hg).2.2.1;simpa using this) hD w hr
 ·cases h
theorem rdNum_no {r:Nat} {D:ByteArray} {most:Int} (h:rdNum most D=none) (hm0:0<=most) (hmo:most<=9223372036854775807) (hD:D.size<=maxLen) (w:World) (hr:RO w r D):
  Calls Tryz.prog 72 #[.pointer (some ⟨r,0,none⟩),.int .i64 most] w (ThrO r w):=by
 unfold rdNum at h
 split at h
 ·cases h
 ·rename_i c
  by_cases c1:(getL D.data.toList).2.2=0
  ·have hg:getL D.data.toList=((getL D.data.toList).1,(getL D.data.toList).2.1,0):=by rw [<-c1]
   exact onum_big r D most _ _ hg (by have:=fun x=>c ⟨c1,x⟩;omega) hm0 hmo (by have:=(getL_only hg).2.2.1;simpa using this) hD w hr
  ·exact onum_bad r D most _ _ _ rfl c1 hD w hr
theorem rdTxt_ok {r:Nat} {D D' S:ByteArray} {most:Int} (h:rdTxt most D=some (S,D')) (h0:0<=most) (h1:most<=9223372036854775807) (hD:D.size<=maxLen) (w:World) (hr:RO w r D):
  Calls Tryz.prog 96 #[.pointer (some ⟨r,0,none⟩),.int .i64 most] w (DidO (.string S) r D' w):=by
 unfold rdTxt at h
 split at h
 ·rename_i c
  simp only [Option.some.injEq,Prod.mk.injEq] at h
  obtain ⟨rfl,rfl⟩:=h
  have hg:getT D most=((getT D most).1,(getT D most).2.1,0):=by rw [<-c]
  exact otext_ok r D _ most _ hg (by omega) h1 (getT_size hg) hD w hr
 ·cases h
theorem rdTxt_no {r:Nat} {D:ByteArray} {most:Int} (h:rdTxt most D=none) (h0:0<=most) (h1:most<=9223372036854775807) (hD:D.size<=maxLen) (w:World) (hr:RO w r D):
  Calls Tryz.prog 96 #[.pointer (some ⟨r,0,none⟩),.int .i64 most] w (ThrO r w):=by
 unfold rdTxt at h
 split at h
 ·cases h
 ·rename_i c
  exact otext_bad r D _ most _ _ rfl c (by omega) h1 hD w hr
theorem geti_size {D:ByteArray} {x:Int} {m:Nat} (h:geti D.data.toList=(x,m,0)):m<=D.size:=by
 unfold geti at h
 split at h
 ·rename_i c
  have hg:getL D.data.toList=((getL D.data.toList).1,(getL D.data.toList).2.1,0):=by rw [<-c]
  have h1:=(getL_only hg).2.2.1
  simp only [Prod.mk.injEq] at h
  have h2:D.data.toList.length=D.size:=by simp
  omega
 ·rename_i c
  simp only [Prod.mk.injEq] at h
  exact absurd h.2.2 c
theorem rdInt_ok {r:Nat} {D D':ByteArray} {x:Int} (h:rdInt D=some (x,D')) (hD:D.size<=maxLen) (w:World) (hr:RO w r D):
  Calls Tryz.prog 97 #[.pointer (some ⟨r,0,none⟩)] w (DidO (.int .i64 x) r D' w):=by
 unfold rdInt at h
 split at h
 ·rename_i c
  simp only [Option.some.injEq,Prod.mk.injEq] at h
  obtain ⟨rfl,rfl⟩:=h
  have hg:geti D.data.toList=((geti D.data.toList).1,(geti D.data.toList).2.1,0):=by rw [<-c]
  exact oint_ok r D _ _ hg (geti_size hg) hD w hr
 ·cases h
theorem rdInt_no {r:Nat} {D:ByteArray} (h:rdInt D=none) (hD:D.size<=maxLen) (w:World) (hr:RO w r D):
  Calls Tryz.prog 97 #[.pointer (some ⟨r,0,none⟩)] w (ThrO r w):=by
 unfold rdInt at h
 split at h
 ·cases h
 ·rename_i c
  exact oint_bad r D _ _ _ rfl c hD w hr
open Go.ChangeShapes Go.WideShapes Go.Deep Go.RowKit
theorem rdNum_size {D D':ByteArray} {most:Int} {x:Nat} (h:rdNum most D=some (x,D')):D'.size<=D.size:=by
 unfold rdNum at h
 split at h
 ·simp only [Option.some.injEq,Prod.mk.injEq] at h;rw [<-h.2];exact rest_size _ _
 ·cases h
theorem rdTxt_size {D D' S:ByteArray} {most:Int} (h:rdTxt most D=some (S,D')):D'.size<=D.size:=by
 unfold rdTxt at h
 split at h
 ·simp only [Option.some.injEq,Prod.mk.injEq] at h;rw [<-h.2];exact rest_size _ _
 ·cases h
abbrev mxI:Int:=9223372036854775807
theorem osym_ok (r:Nat) (D D1 D2 D3 D4 S:ByteArray) (x y z:Nat) (h1:rdTxt 31 D=some (S,D1)) (h2:rdNum mxI D1=some (x,D2)) (h3:rdNum mxI D2=some (y,D3)) (h4:rdNum mxI D3=some (z,D4)) (hy:(y:Int)<=mxI) (hD:D.size<=maxLen) (w:World) (h:RO w r D):
  Calls Tryz.prog 74 #[.pointer (some ⟨r,0,none⟩)] w (DidO (.agg #[.string S,.int .i64 (x:Int),.int .i64 ((y:Int) - 1),.int .i64 (z:Int)]) r D4 w):=by
 have s1:=rdTxt_size h1
 have s2:=rdNum_size h2
 have s3:=rdNum_size h3
 have C1:Hid (∀ u,RO u r D->Calls Tryz.prog 96 #[.pointer (some ⟨r,0,none⟩),.int .i64 31] u (DidO (.string S) r D1 u)):=Lib.hid fun u hu=>rdTxt_ok h1 (by decide) (by decide) hD u hu
 have C2:Hid (∀ u,RO u r D1->Calls Tryz.prog 72 #[.pointer (some ⟨r,0,none⟩),.int .i64 9223372036854775807] u (DidO (.int .i64 (x:Int)) r D2 u)):=Lib.hid fun u hu=>rdNum_ok h2 (by decide) (by omega) u hu
 have C3:Hid (∀ u,RO u r D2->Calls Tryz.prog 72 #[.pointer (some ⟨r,0,none⟩),.int .i64 9223372036854775807] u (DidO (.int .i64 (y:Int)) r D3 u)):=Lib.hid fun u hu=>rdNum_ok h3 (by decide) (by omega) u hu
 have C4:Hid (∀ u,RO u r D3->Calls Tryz.prog 72 #[.pointer (some ⟨r,0,none⟩),.int .i64 9223372036854775807] u (DidO (.int .i64 (z:Int)) r D4 u)):=Lib.hid fun u hu=>rdNum_ok h4 (by decide) (by omega) u hu
 have hr:=lt_of_block h
 obtain ⟨X,hX⟩:∃ X,X=w.heap.size:=⟨_,rfl⟩
 have HXr:Hid (X ≠ r):=Lib.hid (by omega)
 have HXE:=Lib.hid hX
 have hy2:(y:Int)<=9223372036854775807:=hy
 have hw:IntKind.i64.wrap ((y:Int) - 1)=(y:Int) - 1:=by rw [IntKind.wrap_i64];omega
 have HRr:Hid (RO (w.alloc (.cells #[.string ⟨#[]⟩,.int .i64 0,.int .i64 0,.int .i64 0] 66)) r D):=Lib.hid (h.next ((Below.refl _ w).alloc (Nat.le_refl _) _))
 have HRX:Hid (RB (w.alloc (.cells #[.string ⟨#[]⟩,.int .i64 0,.int .i64 0,.int .i64 0] 66)) X #[.string ⟨#[]⟩,.int .i64 0,.int .i64 0,.int .i64 0] 66):=Lib.hid (by rw [hX];exact (MapKept.heap_alloc w _).1)
 have HK:Hid (KP r w (w.alloc (.cells #[.string ⟨#[]⟩,.int .i64 0,.int .i64 0,.int .i64 0] 66))):=Lib.hid ((KP.refl r w).lies _)
 clear hy hX hr h h1 h2 h3 h4 s1 s2 s3 hD
 go_enter Tryz.func74,Tryz.ntmps74
 go_wp2_with fail
 try rw [<-HXE.out]
 generalize w.alloc (.cells #[.string ⟨#[]⟩,.int .i64 0,.int .i64 0,.int .i64 0] 66)=W at HRr HRX HK ⊢
 refine (C1.out _ HRr.out).mono ?_
 rintro e u1 ⟨rfl,hr,hk⟩
 have HR1:=Lib.hid hr
 have HX1:=Lib.hid (HRX.out.kept hk HXr.out)
 have HK1:=Lib.hid (HK.out.trans' hk)
 clear hr hk HRr HRX HK
 go_wp2_with fail
 refine (C2.out _ HR1.out).mono ?_
 rintro e u2 ⟨rfl,hr,hk⟩
 have HR2:=Lib.hid hr
 have HX2:=Lib.hid (HX1.out.kept hk HXr.out)
 have HK2:=Lib.hid (HK1.out.trans' hk)
 clear hr hk HR1 HX1 HK1
 go_wp2_with fail
 refine (C3.out _ HR2.out).mono ?_
 rintro e u3 ⟨rfl,hr,hk⟩
 have HR3:=Lib.hid hr
 have HX3:=Lib.hid (HX2.out.kept hk HXr.out)
 have HK3:=Lib.hid (HK2.out.trans' hk)
 clear hr hk HR2 HX2 HK2
 go_wp2_with fail
 refine (C4.out _ HR3.out).mono ?_
 rintro e u4 ⟨rfl,hr,hk⟩
 have HR4:=Lib.hid hr
 have HX4:=Lib.hid (HX3.out.kept hk HXr.out)
 have HK4:=Lib.hid (HK3.out.trans' hk)
 clear hr hk HR3 HX3 HK3
 have x0:u4.cell? ⟨X,0,none⟩=some (.string ⟨#[]⟩):=HX4.out.cell
 have x1:u4.cell? ⟨X,1,none⟩=some (.int .i64 0):=HX4.out.cell
 have x2:u4.cell? ⟨X,2,none⟩=some (.int .i64 0):=HX4.out.cell
 have x3:u4.cell? ⟨X,3,none⟩=some (.int .i64 0):=HX4.out.cell
 have f0:u4.frozen? ⟨X,0,none⟩=false:=HX4.out.frozen
 have f1:u4.frozen? ⟨X,1,none⟩=false:=HX4.out.frozen
 have f2:u4.frozen? ⟨X,2,none⟩=false:=HX4.out.frozen
 have f3:u4.frozen? ⟨X,3,none⟩=false:=HX4.out.frozen
 have HQ:Hid (RB ((((u4.setCell ⟨X,0,none⟩ (.string S)).setCell ⟨X,1,none⟩ (.int .i64 (x:Int))).setCell ⟨X,2,none⟩ (.int .i64 ((y:Int) - 1))).setCell ⟨X,3,none⟩ (.int .i64 (z:Int))) X #[.string S,.int .i64 (x:Int),.int .i64 ((y:Int) - 1),.int .i64 (z:Int)] 66):=Lib.hid (by
  have h0:RB (u4.setCell ⟨X,0,none⟩ (.string S)) X #[.string S,.int .i64 0,.int .i64 0,.int .i64 0] 66:=HX4.out.set (j:=0) _
  have h1:RB ((u4.setCell ⟨X,0,none⟩ (.string S)).setCell ⟨X,1,none⟩ (.int .i64 (x:Int))) X #[.string S,.int .i64 (x:Int),.int .i64 0,.int .i64 0] 66:=h0.set (j:=1) _
  have h2:RB (((u4.setCell ⟨X,0,none⟩ (.string S)).setCell ⟨X,1,none⟩ (.int .i64 (x:Int))).setCell ⟨X,2,none⟩ (.int .i64 ((y:Int) - 1))) X #[.string S,.int .i64 (x:Int),.int .i64 ((y:Int) - 1),.int .i64 0] 66:=h1.set (j:=2) _
  exact h2.set (j:=3) _)
 have HO:∀ k,k ≠ X->((((u4.setCell ⟨X,0,none⟩ (.string S)).setCell ⟨X,1,none⟩ (.int .i64 (x:Int))).setCell ⟨X,2,none⟩ (.int .i64 ((y:Int) - 1))).setCell ⟨X,3,none⟩ (.int .i64 (z:Int))).heap[k]?=u4.heap[k]?:=fun k hk=>by
  rw [hother hk,hother hk,hother hk,hother hk]
 have HKB:Hid (KP r w ((((u4.setCell ⟨X,0,none⟩ (.string S)).setCell ⟨X,1,none⟩ (.int .i64 (x:Int))).setCell ⟨X,2,none⟩ (.int .i64 ((y:Int) - 1))).setCell ⟨X,3,none⟩ (.int .i64 (z:Int)))):=Lib.hid (by
  refine ⟨HK4.out.os,HK4.out.tape,HK4.out.output,?_,fun k hk hne=>?_⟩
  ·have:=HK4.out.size;simpa [World.setCell] using this
  ·rw [HO k (by rw [HXE.out];omega)];exact HK4.out.block k hk hne)
 have HR5:Hid (RO ((((u4.setCell ⟨X,0,none⟩ (.string S)).setCell ⟨X,1,none⟩ (.int .i64 (x:Int))).setCell ⟨X,2,none⟩ (.int .i64 ((y:Int) - 1))).setCell ⟨X,3,none⟩ (.int .i64 (z:Int))) r D4):=Lib.hid ((HO r (fun e=>HXr.out e.symm)).trans HR4.out)
 clear HO
 go_wp2
 refine bodyPost_ret (results_cell_row (P:=Tryz.prog) rfl _ _ X 66 _ (0,0) _ rfl HQ.out Tryz.underlying66 rfl (by kernel_rfl)) rfl ?_
 exact ⟨rfl,HR5.out,HKB.out⟩
theorem osym_no0 (r:Nat) (D  : ByteArray)  (h1:rdTxt 31 D=none) (hD:D.size<=maxLen) (w:World) (h:RO w r D):
  Calls Tryz.prog 74 #[.pointer (some ⟨r,0,none⟩)] w (ThrO r w):=by
 have C1:Hid (∀ u,RO u r D->Calls Tryz.prog 96 #[.pointer (some ⟨r,0,none⟩),.int .i64 31] u (ThrO r u)):=Lib.hid fun u hu=>rdTxt_no h1 (by decide) (by decide) hD u hu
 have HRr:Hid (RO (w.alloc (.cells #[.string ⟨#[]⟩,.int .i64 0,.int .i64 0,.int .i64 0] 66)) r D):=Lib.hid (h.next ((Below.refl _ w).alloc (Nat.le_refl _) _))
 have HK:Hid (KP r w (w.alloc (.cells #[.string ⟨#[]⟩,.int .i64 0,.int .i64 0,.int .i64 0] 66))):=Lib.hid ((KP.refl r w).lies _)
 clear h h1  hD
 go_enter Tryz.func74,Tryz.ntmps74
 go_wp2_with fail
 generalize (w.alloc (.cells #[.string ⟨#[]⟩,.int .i64 0,.int .i64 0,.int .i64 0] 66))=W at HRr HK ⊢
 refine (C1.out _ HRr.out).mono ?_
 rintro e u ⟨rfl,hk⟩
 replace HK:=Lib.hid (HK.out.trans' hk)
 clear hk
 go_wp2
 exact ⟨rfl,rfl,HK.out⟩
theorem osym_no1 (r:Nat) (D D1 S:ByteArray) (h1:rdTxt 31 D=some (S,D1)) (h2:rdNum mxI D1=none) (hD:D.size<=maxLen) (w:World) (h:RO w r D):
  Calls Tryz.prog 74 #[.pointer (some ⟨r,0,none⟩)] w (ThrO r w):=by
 have s1:=rdTxt_size h1
 have C1:Hid (∀ u,RO u r D->Calls Tryz.prog 96 #[.pointer (some ⟨r,0,none⟩),.int .i64 31] u (DidO (.string S) r D1 u)):=Lib.hid fun u hu=>rdTxt_ok h1 (by decide) (by decide) hD u hu
 have C2:Hid (∀ u,RO u r D1->Calls Tryz.prog 72 #[.pointer (some ⟨r,0,none⟩),.int .i64 9223372036854775807] u (ThrO r u)):=Lib.hid fun u hu=>rdNum_no h2 (by decide) (by decide) (by omega) u hu
 have HRr:Hid (RO (w.alloc (.cells #[.string ⟨#[]⟩,.int .i64 0,.int .i64 0,.int .i64 0] 66)) r D):=Lib.hid (h.next ((Below.refl _ w).alloc (Nat.le_refl _) _))
 have HK:Hid (KP r w (w.alloc (.cells #[.string ⟨#[]⟩,.int .i64 0,.int .i64 0,.int .i64 0] 66))):=Lib.hid ((KP.refl r w).lies _)
 clear h h1 h2 s1 hD
 go_enter Tryz.func74,Tryz.ntmps74
 go_wp2_with fail
 generalize (w.alloc (.cells #[.string ⟨#[]⟩,.int .i64 0,.int .i64 0,.int .i64 0] 66))=W at HRr HK ⊢
 refine (C1.out _ HRr.out).mono ?_
 rintro e u ⟨rfl,hr,hk⟩
 replace HK:=Lib.hid (HK.out.trans' hk)
 have HRr:=Lib.hid hr
 clear hr hk
 go_wp2_with fail
 refine (C2.out _ HRr.out).mono ?_
 rintro e u ⟨rfl,hk⟩
 replace HK:=Lib.hid (HK.out.trans' hk)
 clear hk
 go_wp2
 exact ⟨rfl,rfl,HK.out⟩
theorem osym_no2 (r:Nat) (D D1 D2 S:ByteArray) (x1:Nat) (h1:rdTxt 31 D=some (S,D1)) (h2:rdNum mxI D1=some (x1,D2)) (h3:rdNum mxI D2=none) (hD:D.size<=maxLen) (w:World) (h:RO w r D):
  Calls Tryz.prog 74 #[.pointer (some ⟨r,0,none⟩)] w (ThrO r w):=by
 have s1:=rdTxt_size h1
 have s2:=rdNum_size h2
 have C1:Hid (∀ u,RO u r D->Calls Tryz.prog 96 #[.pointer (some ⟨r,0,none⟩),.int .i64 31] u (DidO (.string S) r D1 u)):=Lib.hid fun u hu=>rdTxt_ok h1 (by decide) (by decide) hD u hu
 have C2:Hid (∀ u,RO u r D1->Calls Tryz.prog 72 #[.pointer (some ⟨r,0,none⟩),.int .i64 9223372036854775807] u (DidO (.int .i64 (x1:Int)) r D2 u)):=Lib.hid fun u hu=>rdNum_ok h2 (by decide) (by omega) u hu
 have C3:Hid (∀ u,RO u r D2->Calls Tryz.prog 72 #[.pointer (some ⟨r,0,none⟩),.int .i64 9223372036854775807] u (ThrO r u)):=Lib.hid fun u hu=>rdNum_no h3 (by decide) (by decide) (by omega) u hu
 have HRr:Hid (RO (w.alloc (.cells #[.string ⟨#[]⟩,.int .i64 0,.int .i64 0,.int .i64 0] 66)) r D):=Lib.hid (h.next ((Below.refl _ w).alloc (Nat.le_refl _) _))
 have HK:Hid (KP r w (w.alloc (.cells #[.string ⟨#[]⟩,.int .i64 0,.int .i64 0,.int .i64 0] 66))):=Lib.hid ((KP.refl r w).lies _)
 clear h h1 h2 h3 s1 s2 hD
 go_enter Tryz.func74,Tryz.ntmps74
 go_wp2_with fail
 generalize (w.alloc (.cells #[.string ⟨#[]⟩,.int .i64 0,.int .i64 0,.int .i64 0] 66))=W at HRr HK ⊢
 refine (C1.out _ HRr.out).mono ?_
 rintro e u ⟨rfl,hr,hk⟩
 replace HK:=Lib.hid (HK.out.trans' hk)
 have HRr:=Lib.hid hr
 clear hr hk
 go_wp2_with fail
 refine (C2.out _ HRr.out).mono ?_
 rintro e u ⟨rfl,hr,hk⟩
 replace HK:=Lib.hid (HK.out.trans' hk)
 have HRr:=Lib.hid hr
 clear hr hk
 go_wp2_with fail
 refine (C3.out _ HRr.out).mono ?_
 rintro e u ⟨rfl,hk⟩
 replace HK:=Lib.hid (HK.out.trans' hk)
 clear hk
 go_wp2
 exact ⟨rfl,rfl,HK.out⟩
theorem osym_no3 (r:Nat) (D D1 D2 D3 S:ByteArray) (x1 x2:Nat) (h1:rdTxt 31 D=some (S,D1)) (h2:rdNum mxI D1=some (x1,D2)) (h3:rdNum mxI D2=some (x2,D3)) (h4:rdNum mxI D3=none) (hy:(x2:Int)<=mxI) (hD:D.size<=maxLen) (w:World) (h:RO w r D):
  Calls Tryz.prog 74 #[.pointer (some ⟨r,0,none⟩)] w (ThrO r w):=by
 have s1:=rdTxt_size h1
 have s2:=rdNum_size h2
 have s3:=rdNum_size h3
 have C1:Hid (∀ u,RO u r D->Calls Tryz.prog 96 #[.pointer (some ⟨r,0,none⟩),.int .i64 31] u (DidO (.string S) r D1 u)):=Lib.hid fun u hu=>rdTxt_ok h1 (by decide) (by decide) hD u hu
 have C2:Hid (∀ u,RO u r D1->Calls Tryz.prog 72 #[.pointer (some ⟨r,0,none⟩),.int .i64 9223372036854775807] u (DidO (.int .i64 (x1:Int)) r D2 u)):=Lib.hid fun u hu=>rdNum_ok h2 (by decide) (by omega) u hu
 have C3:Hid (∀ u,RO u r D2->Calls Tryz.prog 72 #[.pointer (some ⟨r,0,none⟩),.int .i64 9223372036854775807] u (DidO (.int .i64 (x2:Int)) r D3 u)):=Lib.hid fun u hu=>rdNum_ok h3 (by decide) (by omega) u hu
 have C4:Hid (∀ u,RO u r D3->Calls Tryz.prog 72 #[.pointer (some ⟨r,0,none⟩),.int .i64 9223372036854775807] u (ThrO r u)):=Lib.hid fun u hu=>rdNum_no h4 (by decide) (by decide) (by omega) u hu
 have hy2:(x2:Int)<=9223372036854775807:=hy
 have hw:IntKind.i64.wrap ((x2:Int) - 1)=(x2:Int) - 1:=by rw [IntKind.wrap_i64];omega
 clear hy
 have HRr:Hid (RO (w.alloc (.cells #[.string ⟨#[]⟩,.int .i64 0,.int .i64 0,.int .i64 0] 66)) r D):=Lib.hid (h.next ((Below.refl _ w).alloc (Nat.le_refl _) _))
 have HK:Hid (KP r w (w.alloc (.cells #[.string ⟨#[]⟩,.int .i64 0,.int .i64 0,.int .i64 0] 66))):=Lib.hid ((KP.refl r w).lies _)
 clear h h1 h2 h3 h4 s1 s2 s3 hD
 go_enter Tryz.func74,Tryz.ntmps74
 go_wp2_with fail
 generalize (w.alloc (.cells #[.string ⟨#[]⟩,.int .i64 0,.int .i64 0,.int .i64 0] 66))=W at HRr HK ⊢
 refine (C1.out _ HRr.out).mono ?_
 rintro e u ⟨rfl,hr,hk⟩
 replace HK:=Lib.hid (HK.out.trans' hk)
 have HRr:=Lib.hid hr
 clear hr hk
 go_wp2_with fail
 refine (C2.out _ HRr.out).mono ?_
 rintro e u ⟨rfl,hr,hk⟩
 replace HK:=Lib.hid (HK.out.trans' hk)
 have HRr:=Lib.hid hr
 clear hr hk
 go_wp2_with fail
 refine (C3.out _ HRr.out).mono ?_
 rintro e u ⟨rfl,hr,hk⟩
 replace HK:=Lib.hid (HK.out.trans' hk)
 have HRr:=Lib.hid hr
 clear hr hk
 go_wp2_with fail
 refine (C4.out _ HRr.out).mono ?_
 rintro e u ⟨rfl,hk⟩
 replace HK:=Lib.hid (HK.out.trans' hk)
 clear hk
 go_wp2
 exact ⟨rfl,rfl,HK.out⟩
open Go.ChangeShapes Go.WideShapes Go.Deep Go.RowKit
open Go.Proofs.YthkolmebokfagaaGreatDoor.Wi (putL putL_len getL getL_back zig zag zag_zig zig_lt)
theorem toNat_inj {x y:Int} (hx:0<=x) (hy:0<=y) (h:x.toNat=y.toNat):x=y:=by omega
def RelFull (r:Rl):Prop:=RelOk r 4096/\GoodRl r
def SecFull (s:Sc):Prop:=SecOk s/\GoodSc s
theorem RelOk.up {r:Rl} {d:Nat} (h:RelOk r d) (hd:d<=4096):RelOk r 4096:=⟨h.p0,by have:=h.p1;omega,h.k0,h.k1,h.s0⟩
open Go.ChangeShapes Go.WideShapes Go.Deep Go.RowKit
open Go.Proofs.YthkolmebokfagaaGreatDoor.Wi (putL putL_len getL getL_back getL_only getL_kind geti geti_ok getT getT_ok getT_arg zig zag zag_zig zig_zag zig_lt zag_b)
abbrev bA (l:List UInt8):ByteArray:=⟨l.toArray⟩
theorem bA_of (D:ByteArray):bA D.data.toList=D:=by cases D;simp [bA]
theorem bA_list (l:List UInt8):(bA l).data.toList=l:=rfl
theorem bA_size (l:List UInt8):(bA l).size=l.length:=by show l.toArray.size=_;simp
theorem ext_list (D:ByteArray) (m n:Nat):(D.extract m n).data.toList=(D.data.toList.drop m).take (n - m):=by simp
theorem rest_list (D:ByteArray) (m:Nat):(D.extract m D.size).data.toList=D.data.toList.drop m:=by
 rw [ext_list,List.take_of_length_le (by rw [List.length_drop];exact Nat.le_refl _)]
theorem rest_bA (l t:List UInt8):(bA (l ++ t)).extract l.length (bA (l ++ t)).size=bA t:=by
 rw [<-bA_of ((bA (l ++ t)).extract l.length (bA (l ++ t)).size),rest_list,bA_list,List.drop_left]
theorem rdNum_only {most:Int} {D D':ByteArray} {x:Nat} (h:rdNum most D=some (x,D')):D.data.toList=putL x ++ D'.data.toList/\(x:Int)<=most/\x < 18446744073709551616:=by
 unfold rdNum at h
 split at h
 ·rename_i c
  simp only [Option.some.injEq,Prod.mk.injEq] at h
  obtain ⟨rfl,rfl⟩:=h
  have hg:getL D.data.toList=((getL D.data.toList).1,(getL D.data.toList).2.1,0):=by rw [<-c.1]
  obtain ⟨-,-,-,h4,h5⟩:=getL_only hg
  exact ⟨by rw [rest_list,h4,List.take_append_drop],c.2,h5⟩
 ·cases h
theorem rdNum_back {most:Int} {x:Nat} (h:(x:Int)<=most) (h2:x < 18446744073709551616) (t:List UInt8):rdNum most (bA (putL x ++ t))=some (x,bA t):=by
 unfold rdNum
 have hg:=getL_back x t h2
 rw [bA_list,hg,if_pos ⟨rfl,h⟩,rest_bA]
theorem rdInt_only {D D':ByteArray} {x:Int} (h:rdInt D=some (x,D')):D.data.toList=putL (zig x) ++ D'.data.toList/\i64ok x:=by
 unfold rdInt at h
 split at h
 ·rename_i c
  simp only [Option.some.injEq,Prod.mk.injEq] at h
  obtain ⟨rfl,rfl⟩:=h
  have c2:(getL D.data.toList).2.2=0:=by
   unfold geti at c
   split at c
   ·assumption
   ·exact c
  have hg:getL D.data.toList=((getL D.data.toList).1,(getL D.data.toList).2.1,0):=by rw [<-c2]
  obtain ⟨-,-,-,h4,h5⟩:=getL_only hg
  rw [geti_ok hg]
  simp only [zig_zag]
  exact ⟨by rw [rest_list,h4,List.take_append_drop],(zag_b h5).1,(zag_b h5).2⟩
 ·cases h
theorem rdInt_back {x:Int} (h:i64ok x) (t:List UInt8):rdInt (bA (putL (zig x) ++ t))=some (x,bA t):=by
 unfold rdInt
 have hg:=geti_ok (getL_back (zig x) t (zig_lt h.1 h.2))
 rw [bA_list,hg,if_pos rfl,rest_bA,zag_zig]
theorem rdTxt_only {most:Int} {D D' S:ByteArray} (h:rdTxt most D=some (S,D')):D.data.toList=txtL S.data.toList ++ D'.data.toList/\(S.size:Int)<=most:=by
 unfold rdTxt at h
 split at h
 ·rename_i c
  simp only [Option.some.injEq,Prod.mk.injEq] at h
  obtain ⟨rfl,rfl⟩:=h
  by_cases c1:most < 0\/1000000 < most
  ·rw [getT_arg c1] at c;cases c
  rcases getL_kind D.data.toList with ⟨x,m,hg⟩ | hg | hg
  ·obtain ⟨g1,g2,g3,h4,h5⟩:=getL_only hg
   by_cases c2:most < x
   ·rw [Wi.getT_limit c1 hg c2] at c;cases c
   by_cases c3:D.size < m+x
   ·rw [Wi.getT_more c1 hg c2 c3] at c;cases c
   rw [getT_ok c1 hg c2 c3]
   have hs:(D.extract m (m+x)).size=x:=by rw [ByteArray.size_extract];omega
   have hs2:(D.extract m (m+x)).data.toList.length=x:=hs
   simp only
   refine ⟨?_,by rw [hs];omega⟩
   unfold txtL
   rw [hs2,rest_list,ext_list,h4,List.append_assoc,show m+x - m=x from by omega,<-List.drop_drop,List.take_append_drop,List.take_append_drop]
  ·rw [Wi.getT_bad c1 hg (by decide)] at c;cases c
  ·rw [Wi.getT_bad c1 hg (by decide)] at c;cases c
 ·cases h
theorem rdTxt_back {most:Int} {d:List UInt8} (h:(d.length:Int)<=most) (h2:most<=1000000) (t:List UInt8):rdTxt most (bA (txtL d ++ t))=some (bA d,bA t):=by
 unfold rdTxt txtL
 have hd:d.length < 18446744073709551616:=by omega
 have hg:=getL_back d.length (d ++ t) hd
 rw [List.append_assoc]
 have hg':getL (bA (putL d.length ++ (d ++ t))).data.toList=(d.length,(putL d.length).length,0):=hg
 have hT:=getT_ok (D:=bA (putL d.length ++ (d ++ t))) (most:=most) (by omega) hg' (by omega) (by rw [bA_size];simp only [List.length_append];omega)
 rw [hT,if_pos rfl]
 simp only
 congr 1
 rw [Prod.mk.injEq]
 constructor
 ·rw [<-bA_of ((bA (putL d.length ++ (d ++ t))).extract _ _),ext_list,bA_list,List.drop_left,Nat.add_sub_cancel_left,List.take_left]
 ·rw [<-bA_of ((bA (putL d.length ++ (d ++ t))).extract _ _),rest_list,bA_list,<-List.drop_drop,List.drop_left,List.drop_left]
def rdMany {α:Type} (f:ByteArray->Option (α × ByteArray)):Nat->ByteArray->Option (List α × ByteArray)
 | 0,D=>some ([],D)
 | n+1,D=>match f D with
  | none=>none
  | some (x,D1)=>match rdMany f n D1 with
   | none=>none
   | some (l,D2)=>some (x :: l,D2)
theorem rdMany_none {α:Type} {f:ByteArray->Option (α × ByteArray)} {n:Nat} {D:ByteArray} (h:f D=none):rdMany f (n+1) D=none:=by rw [rdMany,h]
theorem rdMany_some {α:Type} {f:ByteArray->Option (α × ByteArray)} {n:Nat} {D D1:ByteArray} {x:α} (h:f D=some (x,D1)):
  rdMany f (n+1) D=match rdMany f n D1 with | none=>none | some (l,D2)=>some (x :: l,D2):=by rw [rdMany,h]
theorem rdMany_only {α:Type} {f:ByteArray->Option (α × ByteArray)} {g:α->List UInt8} {P:α->Prop} (hf:∀ D x D',f D=some (x,D')->D.data.toList=g x ++ D'.data.toList/\P x):
  ∀ {n:Nat} {D D':ByteArray} {l:List α},rdMany f n D=some (l,D')->D.data.toList=l.flatMap g ++ D'.data.toList/\l.length=n/\∀ x ∈ l,P x
 | 0,D,D',l,h=>by
  simp only [rdMany,Option.some.injEq,Prod.mk.injEq] at h
  obtain ⟨rfl,rfl⟩:=h
  exact ⟨rfl,rfl,by simp⟩
 | n+1,D,D',l,h=>by
  cases h1:f D with
  | none=>rw [rdMany_none h1] at h;cases h
  | some p=>
   obtain ⟨x,D1⟩:=p
   rw [rdMany_some h1] at h
   cases h2:rdMany f n D1 with
   | none=>rw [h2] at h;cases h
   | some q=>
    obtain ⟨l2,D2⟩:=q
    rw [h2] at h
    simp only [Option.some.injEq,Prod.mk.injEq] at h
    obtain ⟨rfl,rfl⟩:=h
    obtain ⟨a1,a2⟩:=hf _ _ _ h1
    obtain ⟨b1,b2,b3⟩:=rdMany_only hf h2
    refine ⟨by rw [a1,b1,List.flatMap_cons,List.append_assoc],by rw [List.length_cons,b2],fun y hy=>?_⟩
    rcases List.mem_cons.1 hy with rfl | hy
    ·exact a2
    ·exact b3 y hy
theorem rdMany_back {α:Type} {f:ByteArray->Option (α × ByteArray)} {g:α->List UInt8}:
  ∀ {l:List α},(∀ x ∈ l,∀ t,f (bA (g x ++ t))=some (x,bA t))->∀ t,rdMany f l.length (bA (l.flatMap g ++ t))=some (l,bA t)
 | [],_,t=>rfl
 | x :: l,hf,t=>by
  rw [List.flatMap_cons,List.append_assoc,List.length_cons,rdMany_some (hf x (List.mem_cons_self ..) _),rdMany_back (fun y hy=>hf y (List.mem_cons_of_mem _ hy)) t]
def rdRel (D:ByteArray):Option (Rl × ByteArray):=
 match rdNum mxI D with
 | none=>none
 | some (x,D1)=>match rdNum mxI D1 with
  | none=>none
  | some (y,D2)=>match rdNum mxI D2 with
   | none=>none
   | some (z,D3)=>match rdInt D3 with
    | none=>none
    | some (a,D4)=>some (⟨x,y,z,a⟩,D4)
def rdSym (D:ByteArray):Option (Sy × ByteArray):=
 match rdTxt 31 D with
 | none=>none
 | some (S,D1)=>match rdNum mxI D1 with
  | none=>none
  | some (x,D2)=>match rdNum mxI D2 with
   | none=>none
   | some (y,D3)=>match rdNum mxI D3 with
    | none=>none
    | some (z,D4)=>some (⟨S.data.toList,x,(y:Int) - 1,z⟩,D4)
def rdSec (D:ByteArray):Option (Sc × ByteArray):=
 match rdTxt 31 D with
 | none=>none
 | some (S,D1)=>match rdNum 3 D1 with
  | none=>none
  | some (k,D2)=>match rdNum 1 D2 with
   | none=>none
   | some (q,D3)=>match rdNum 12 D3 with
    | none=>none
    | some (al,D4)=>match rdTxt 4096 D4 with
     | none=>none
     | some (T,D5)=>match rdNum 64 D5 with
      | none=>none
      | some (n,D6)=>match rdMany rdRel n D6 with
       | none=>none
       | some (l,D7)=>some (⟨S.data.toList,k,q == 1,al,T.data.toList,l⟩,D7)
theorem rdRel_only (D:ByteArray) (r:Rl) (D':ByteArray) (h:rdRel D=some (r,D')):D.data.toList=relB r ++ D'.data.toList/\GoodRl r:=by
 unfold rdRel at h
 cases h1:rdNum mxI D with
 | none=>rw [h1] at h;cases h
 | some p=>
 obtain ⟨x,D1⟩:=p
 rw [h1] at h;simp only at h
 cases h2:rdNum mxI D1 with
 | none=>rw [h2] at h;cases h
 | some p=>
 obtain ⟨y,D2⟩:=p
 rw [h2] at h;simp only at h
 cases h3:rdNum mxI D2 with
 | none=>rw [h3] at h;cases h
 | some p=>
 obtain ⟨z,D3⟩:=p
 rw [h3] at h;simp only at h
 cases h4:rdInt D3 with
 | none=>rw [h4] at h;cases h
 | some p=>
 obtain ⟨a,D4⟩:=p
 rw [h4] at h
 simp only [Option.some.injEq,Prod.mk.injEq] at h
 obtain ⟨rfl,rfl⟩:=h
 obtain ⟨a1,a2,a3⟩:=rdNum_only h1
 obtain ⟨b1,b2,b3⟩:=rdNum_only h2
 obtain ⟨c1,c2,c3⟩:=rdNum_only h3
 obtain ⟨d1,d2⟩:=rdInt_only h4
 unfold mxI at a2 b2 c2
 refine ⟨?_,⟨by show (_:Int)<=(x:Int);omega,a2⟩,⟨by show (_:Int)<=(y:Int);omega,b2⟩,⟨by show (_:Int)<=(z:Int);omega,c2⟩,d2⟩
 unfold relB
 rw [a1,b1,c1,d1]
 simp only [Int.toNat_natCast,List.append_assoc]
theorem rdSym_only (D:ByteArray) (s:Sy) (D':ByteArray) (h:rdSym D=some (s,D')):D.data.toList=symB s ++ D'.data.toList/\GoodSy s:=by
 unfold rdSym at h
 cases h1:rdTxt 31 D with
 | none=>rw [h1] at h;cases h
 | some p=>
 obtain ⟨S,D1⟩:=p
 rw [h1] at h;simp only at h
 cases h2:rdNum mxI D1 with
 | none=>rw [h2] at h;cases h
 | some p=>
 obtain ⟨x,D2⟩:=p
 rw [h2] at h;simp only at h
 cases h3:rdNum mxI D2 with
 | none=>rw [h3] at h;cases h
 | some p=>
 obtain ⟨y,D3⟩:=p
 rw [h3] at h;simp only at h
 cases h4:rdNum mxI D3 with
 | none=>rw [h4] at h;cases h
 | some p=>
 obtain ⟨z,D4⟩:=p
 rw [h4] at h
 simp only [Option.some.injEq,Prod.mk.injEq] at h
 obtain ⟨rfl,rfl⟩:=h
 obtain ⟨a1,a2⟩:=rdTxt_only h1
 obtain ⟨b1,b2,b3⟩:=rdNum_only h2
 obtain ⟨c1,c2,c3⟩:=rdNum_only h3
 obtain ⟨d1,d2,d3⟩:=rdNum_only h4
 unfold mxI at b2 c2 d2
 have hS:S.data.toList.length=S.size:=rfl
 refine ⟨?_,by rw [hS];unfold maxLen;omega,⟨by show (_:Int)<=(x:Int);omega,b2⟩,⟨by show (_:Int)<=(y:Int) - 1;omega,by show (y:Int) - 1<=_;omega⟩,⟨by show (_:Int)<=(z:Int);omega,d2⟩⟩
 unfold symB
 rw [a1,b1,c1,d1]
 simp only [Int.toNat_natCast,List.append_assoc,Int.sub_add_cancel]
theorem keep_of {q:Nat} (h:(q:Int)<=1):keepI (q == 1)=q:=by
 have:q=0\/q=1:=by omega
 rcases this with rfl | rfl <;> rfl
theorem rdSec_only (D:ByteArray) (s:Sc) (D':ByteArray) (h:rdSec D=some (s,D')):D.data.toList=secB s ++ D'.data.toList/\GoodSc s:=by
 unfold rdSec at h
 cases h1:rdTxt 31 D with
 | none=>rw [h1] at h;cases h
 | some p=>
 obtain ⟨S,D1⟩:=p
 rw [h1] at h;simp only at h
 cases h2:rdNum 3 D1 with
 | none=>rw [h2] at h;cases h
 | some p=>
 obtain ⟨k,D2⟩:=p
 rw [h2] at h;simp only at h
 cases h3:rdNum 1 D2 with
 | none=>rw [h3] at h;cases h
 | some p=>
 obtain ⟨q,D3⟩:=p
 rw [h3] at h;simp only at h
 cases h4:rdNum 12 D3 with
 | none=>rw [h4] at h;cases h
 | some p=>
 obtain ⟨al,D4⟩:=p
 rw [h4] at h;simp only at h
 cases h5:rdTxt 4096 D4 with
 | none=>rw [h5] at h;cases h
 | some p=>
 obtain ⟨T,D5⟩:=p
 rw [h5] at h;simp only at h
 cases h6:rdNum 64 D5 with
 | none=>rw [h6] at h;cases h
 | some p=>
 obtain ⟨n,D6⟩:=p
 rw [h6] at h;simp only at h
 cases h7:rdMany rdRel n D6 with
 | none=>rw [h7] at h;cases h
 | some p=>
 obtain ⟨l,D7⟩:=p
 rw [h7] at h
 simp only [Option.some.injEq,Prod.mk.injEq] at h
 obtain ⟨rfl,rfl⟩:=h
 obtain ⟨a1,a2⟩:=rdTxt_only h1
 obtain ⟨b1,b2,b3⟩:=rdNum_only h2
 obtain ⟨c1,c2,c3⟩:=rdNum_only h3
 obtain ⟨d1,d2,d3⟩:=rdNum_only h4
 obtain ⟨e1,e2⟩:=rdTxt_only h5
 obtain ⟨f1,f2,f3⟩:=rdNum_only h6
 obtain ⟨g1,g2,g3⟩:=rdMany_only rdRel_only h7
 have hS:S.data.toList.length=S.size:=rfl
 have hT:T.data.toList.length=T.size:=rfl
 refine ⟨?_,by rw [hS];unfold maxLen;omega,⟨by show (_:Int)<=(k:Int);omega,by show (k:Int)<=_;omega⟩,⟨by show (_:Int)<=(al:Int);omega,by show (al:Int)<=_;omega⟩,by rw [hT];unfold maxLen;omega,g3⟩
 unfold secB
 rw [a1,b1,c1,d1,e1,f1,g1]
 simp only [Int.toNat_natCast,List.append_assoc,keep_of c2,g2]
theorem rdRel_back (r:Rl) (hr:RelFull r) (t:List UInt8):rdRel (bA (relB r ++ t))=some (r,bA t):=by
 obtain ⟨r1,r2⟩:=hr
 have a1:=r1.p0;have a2:=r1.p1;have a3:=r1.k0;have a4:=r1.k1;have a5:=r1.s0;have a6:=r2.2.2.1.2
 unfold rdRel relB mxI
 simp only [List.append_assoc]
 rw [rdNum_back (by omega) (by omega)];simp only
 rw [rdNum_back (by omega) (by omega)];simp only
 rw [rdNum_back (by omega) (by omega)];simp only
 rw [rdInt_back r2.2.2.2]
 cases r
 simp only at*
 rw [Int.toNat_of_nonneg a1,Int.toNat_of_nonneg a3,Int.toNat_of_nonneg a5]
theorem rdSym_back (s:Sy) (hs:SymOk s) (t:List UInt8):rdSym (bA (symB s ++ t))=some (s,bA t):=by
 have a1:=hs.name;have a2:=hs.b0;have a3:=hs.b1;have a4:=hs.s0;have a5:=hs.s1;have a6:=hs.o0;have a7:=hs.o1
 unfold rdSym symB mxI
 simp only [List.append_assoc]
 rw [rdTxt_back (by omega) (by omega)];simp only
 rw [rdNum_back (by omega) (by omega)];simp only
 rw [rdNum_back (by omega) (by omega)];simp only
 rw [rdNum_back (by omega) (by omega)]
 cases s
 simp only at*
 rw [Int.toNat_of_nonneg a2,Int.toNat_of_nonneg (by omega),Int.toNat_of_nonneg a6,Int.add_sub_cancel]
theorem rdSec_back (s:Sc) (hs:SecFull s) (t:List UInt8):rdSec (bA (secB s ++ t))=some (s,bA t):=by
 obtain ⟨s1,s2⟩:=hs
 have a1:=s1.name;have a2:=s1.k0;have a3:=s1.k1;have a4:=s1.a0;have a5:=s1.a1;have a6:=s1.data;have a7:=s1.rels
 have ks:keepI s.keep<=1:=by unfold keepI;split <;> omega
 unfold rdSec secB
 simp only [List.append_assoc]
 rw [rdTxt_back (by omega) (by omega)];simp only
 rw [rdNum_back (by omega) (by omega)];simp only
 rw [rdNum_back (by omega) (by omega)];simp only
 rw [rdNum_back (by omega) (by omega)];simp only
 rw [rdTxt_back (by omega) (by omega)];simp only
 rw [rdNum_back (by omega) (by omega)];simp only
 rw [rdMany_back (fun r hr=>rdRel_back r ⟨(s1.all r hr).up a6,s2.rels r hr⟩)]
 cases s
 rename_i nm ki kp al dt rl
 simp only at*
 rw [Int.toNat_of_nonneg a2,Int.toNat_of_nonneg a4]
 cases kp <;> rfl
def rdObj (D:ByteArray):Option (Ob × ByteArray):=
 if D.data.toList.take 6=[67,76,69,65,84,1] then
  match rdNum 32 (D.extract 6 D.size) with
  | none=>none
  | some (n,D1)=>match rdMany rdSec n D1 with
   | none=>none
   | some (l,D2)=>match rdNum 128 D2 with
    | none=>none
    | some (m,D3)=>match rdMany rdSym m D3 with
     | none=>none
     | some (q,D4)=>some (⟨l,q⟩,D4)
 else none
theorem rdObj_only (D:ByteArray) (o:Ob) (D':ByteArray) (h:rdObj D=some (o,D')):D.data.toList=putO o ++ D'.data.toList/\(∀ s ∈ o.secs,GoodSc s)/\(∀ s ∈ o.syms,GoodSy s)/\o.secs.length<=32/\o.syms.length<=128:=by
 unfold rdObj at h
 split at h
 ·rename_i c
  cases h1:rdNum 32 (D.extract 6 D.size) with
  | none=>rw [h1] at h;cases h
  | some p=>
  obtain ⟨n,D1⟩:=p
  rw [h1] at h;simp only at h
  cases h2:rdMany rdSec n D1 with
  | none=>rw [h2] at h;cases h
  | some p=>
  obtain ⟨l,D2⟩:=p
  rw [h2] at h;simp only at h
  cases h3:rdNum 128 D2 with
  | none=>rw [h3] at h;cases h
  | some p=>
  obtain ⟨m,D3⟩:=p
  rw [h3] at h;simp only at h
  cases h4:rdMany rdSym m D3 with
  | none=>rw [h4] at h;cases h
  | some p=>
  obtain ⟨q,D4⟩:=p
  rw [h4] at h
  simp only [Option.some.injEq,Prod.mk.injEq] at h
  obtain ⟨rfl,rfl⟩:=h
  obtain ⟨a1,a2,a3⟩:=rdNum_only h1
  obtain ⟨b1,b2,b3⟩:=rdMany_only rdSec_only h2
  obtain ⟨c1,c2,c3⟩:=rdNum_only h3
  obtain ⟨d1,d2,d3⟩:=rdMany_only rdSym_only h4
  rw [rest_list] at a1
  refine ⟨?_,b3,d3,by show l.length<=32;omega,by show q.length<=128;omega⟩
  unfold putO
  rw [<-List.take_append_drop 6 D.data.toList,c,a1,b1,c1,d1]
  simp only [List.append_assoc,b2,d2]
 ·cases h
theorem rdObj_back {o:Ob} (ho:isO o=true) (hg:∀ s ∈ o.secs,GoodSc s) (t:List UInt8):rdObj (bA (putO o ++ t))=some (o,bA t):=by
 obtain ⟨o1,o2,o3,o4⟩:=is_ok ho
 unfold rdObj putO
 simp only [List.append_assoc]
 rw [if_pos (by rfl)]
 have hx:=rest_bA [67,76,69,65,84,1] (putL o.secs.length ++ (o.secs.flatMap secB ++ (putL o.syms.length ++ (o.syms.flatMap symB ++ t))))
 rw [show ([67,76,69,65,84,1]:List UInt8).length=6 from rfl] at hx
 rw [hx]
 rw [rdNum_back (by omega) (by omega)];simp only
 rw [rdMany_back (fun s hs=>rdSec_back s ⟨o3 s hs,hg s hs⟩)];simp only
 rw [rdNum_back (by omega) (by omega)];simp only
 rw [rdMany_back (fun s hs=>rdSym_back s (o4 s hs))]
def getO (D:ByteArray):Option Ob:=match rdObj D with
 | none=>none
 | some (o,D')=>if D'.size=0/\isO o=true then some o else none
theorem getO_only {D:ByteArray} {o:Ob} (h:getO D=some o):isO o=true/\D.data.toList=putO o/\(∀ s ∈ o.secs,GoodSc s)/\(∀ s ∈ o.syms,GoodSy s):=by
 unfold getO at h
 cases h1:rdObj D with
 | none=>rw [h1] at h;cases h
 | some p=>
  obtain ⟨q,D'⟩:=p
  rw [h1] at h
  simp only at h
  split at h
  ·rename_i c
   cases h
   obtain ⟨a1,a2,a3,-,-⟩:=rdObj_only _ _ _ h1
   have hz:D'.data.toList=[]:=List.eq_nil_of_length_eq_zero c.1
   rw [hz,List.append_nil] at a1
   exact ⟨c.2,a1,a2,a3⟩
  ·cases h
theorem getO_back {o:Ob} (ho:isO o=true) (hg:∀ s ∈ o.secs,GoodSc s):getO (bA (putO o))=some o:=by
 have:=rdObj_back ho hg []
 rw [List.append_nil] at this
 unfold getO;rw [this];simp only
 rw [if_pos ⟨rfl,ho⟩]
end Go.Proofs.YthkolmebokfagaaGreatDoor
