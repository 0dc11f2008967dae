/- The document's objects, plain: what the reference's reader reads, with its flag. The document's objects: the reference's reader: number, signed, text. -/
import Derived.Test.YthkolmebokfagaaGreatDoorqL
import Derived.Test.YthkolmebokfagaaGreatDoorr5
set_option maxRecDepth 100000
set_option maxHeartbeats 1000000
set_option linter.unusedVariables false
set_option linter.unusedSimpArgs false
namespace Go.Proofs.YthkolmebokfagaaGreatDoor
open Go.ChangeShapes Go.WideShapes Go.Deep Go.RowKit
open Go.Proofs.YthkolmebokfagaaGreatDoor.Wi (putL zig)
abbrev RQ:=ByteArray × Bool
def fNum (q:RQ):Nat × RQ:=match rdNum 1000000 q.1 with | some (x,D)=>(x,(D,q.2)) | none=>(0,(q.1,true))
def fInt (q:RQ):Int × RQ:=match rdInt q.1 with | some (x,D)=>(x,(D,q.2)) | none=>(0,(q.1,true))
def fTxt (q:RQ):ByteArray × RQ:=match rdTxt 4096 q.1 with | some (x,D)=>(x,(D,q.2)) | none=>(⟨#[]⟩,(q.1,true))
def fMany {α:Type} (f:RQ->α × RQ):Nat->RQ->List α × RQ
 | 0,q=>([],q)
 | n+1,q=>if q.2=true then ([],q) else ((f q).1 :: (fMany f n (f q).2).1,(fMany f n (f q).2).2)
def fR1 (q:RQ):Nat × RQ:=fNum q
def fR2 (q:RQ):Nat × RQ:=fNum (fR1 q).2
def fR3 (q:RQ):Nat × RQ:=fNum (fR2 q).2
def fR4 (q:RQ):Int × RQ:=fInt (fR3 q).2
def fRel (q:RQ):Rl × RQ:=(⟨(fR1 q).1,(fR2 q).1,(fR3 q).1,(fR4 q).1⟩,(fR4 q).2)
def fKeep (q:Nat × RQ):RQ:=(q.2.1,q.2.2 || decide (1 < q.1))
def fS1 (q:RQ):ByteArray × RQ:=fTxt q
def fS2 (q:RQ):Nat × RQ:=fNum (fS1 q).2
def fS3 (q:RQ):Nat × RQ:=fNum (fS2 q).2
def fS4 (q:RQ):Nat × RQ:=fNum (fKeep (fS3 q))
def fS5 (q:RQ):ByteArray × RQ:=fTxt (fS4 q).2
def fS6 (q:RQ):Nat × RQ:=fNum (fS5 q).2
def fS7 (q:RQ):List Rl × RQ:=fMany fRel (fS6 q).1 (fS6 q).2
def fSec (q:RQ):Sc × RQ:=(⟨(fS1 q).1.data.toList,(fS2 q).1,(fS3 q).1 == 1,(fS4 q).1,(fS5 q).1.data.toList,(fS7 q).1⟩,(fS7 q).2)
def fY1 (q:RQ):ByteArray × RQ:=fTxt q
def fY2 (q:RQ):Nat × RQ:=fNum (fY1 q).2
def fY3 (q:RQ):Nat × RQ:=fNum (fY2 q).2
def fY4 (q:RQ):Nat × RQ:=fNum (fY3 q).2
def fSym (q:RQ):Sy × RQ:=(⟨(fY1 q).1.data.toList,(fY2 q).1,((fY3 q).1:Int) - 1,(fY4 q).1⟩,(fY4 q).2)
def fO1 (D:ByteArray):Nat × RQ:=fNum (D.extract 6 D.size,false)
def fO2 (D:ByteArray):List Sc × RQ:=fMany fSec (fO1 D).1 (fO1 D).2
def fO3 (D:ByteArray):Nat × RQ:=fNum (fO2 D).2
def fO4 (D:ByteArray):List Sy × RQ:=fMany fSym (fO3 D).1 (fO3 D).2
def fOb (D:ByteArray):Ob:=⟨(fO2 D).1,(fO4 D).1⟩
theorem fNum_only (q:RQ) (hb:(fNum q).2.2=false):q.2=false/\q.1.data.toList=putL (fNum q).1 ++ (fNum q).2.1.data.toList/\(fNum q).1<=1000000:=by
 unfold fNum at hb ⊢
 cases e:rdNum 1000000 q.1 with
 | none=>rw [e] at hb;cases hb
 | some p=>
  obtain ⟨y,D⟩:=p
  rw [e] at hb
  simp only at hb ⊢
  obtain ⟨a1,a2,-⟩:=rdNum_only e
  exact ⟨hb,a1,by omega⟩
theorem fInt_only (q:RQ) (hb:(fInt q).2.2=false):q.2=false/\q.1.data.toList=putL (zig (fInt q).1) ++ (fInt q).2.1.data.toList/\i64ok (fInt q).1:=by
 unfold fInt at hb ⊢
 cases e:rdInt q.1 with
 | none=>rw [e] at hb;cases hb
 | some p=>
  obtain ⟨y,D⟩:=p
  rw [e] at hb
  simp only at hb ⊢
  obtain ⟨a1,a2⟩:=rdInt_only e
  exact ⟨hb,a1,a2⟩
theorem fTxt_only (q:RQ) (hb:(fTxt q).2.2=false):q.2=false/\q.1.data.toList=txtL (fTxt q).1.data.toList ++ (fTxt q).2.1.data.toList/\(fTxt q).1.size<=4096:=by
 unfold fTxt at hb ⊢
 cases e:rdTxt 4096 q.1 with
 | none=>rw [e] at hb;cases hb
 | some p=>
  obtain ⟨y,D⟩:=p
  rw [e] at hb
  simp only at hb ⊢
  obtain ⟨a1,a2⟩:=rdTxt_only e
  exact ⟨hb,a1,by omega⟩
theorem fNum_back {x:Nat} (h:x<=1000000) (t:List UInt8):fNum (bA (putL x ++ t),false)=(x,(bA t,false)):=by
 unfold fNum;rw [rdNum_back (by omega) (by omega)]
theorem fInt_back {x:Int} (h:i64ok x) (t:List UInt8):fInt (bA (putL (zig x) ++ t),false)=(x,(bA t,false)):=by
 unfold fInt;rw [rdInt_back h]
theorem fTxt_back {d:List UInt8} (h:d.length<=4096) (t:List UInt8):fTxt (bA (txtL d ++ t),false)=(bA d,(bA t,false)):=by
 unfold fTxt;rw [rdTxt_back (by omega) (by omega)]
theorem fNum_size (q:RQ):(fNum q).2.1.size<=q.1.size:=by
 unfold fNum
 cases e:rdNum 1000000 q.1 with
 | none=>exact Nat.le_refl _
 | some p=>exact rdNum_size e
theorem fTxt_size (q:RQ):(fTxt q).2.1.size<=q.1.size:=by
 unfold fTxt
 cases e:rdTxt 4096 q.1 with
 | none=>exact Nat.le_refl _
 | some p=>exact rdTxt_size e
theorem fInt_size (q:RQ):(fInt q).2.1.size<=q.1.size:=by
 unfold fInt
 cases e:rdInt q.1 with
 | none=>exact Nat.le_refl _
 | some p=>
  unfold rdInt at e
  split at e
  ·simp only [Option.some.injEq] at e
   rw [<-e];exact rest_size _ _
  ·cases e
theorem fNum_le (q:RQ):(fNum q).1<=1000000:=by
 unfold fNum
 cases e:rdNum 1000000 q.1 with
 | none=>simp
 | some p=>obtain ⟨y,D⟩:=p;have:=(rdNum_only e).2.1;simp only;omega
theorem fMany_only {α:Type} {f:RQ->α × RQ} {g:α->List UInt8} {P:α->Prop} (hf:∀ q,(f q).2.2=false->q.2=false/\q.1.data.toList=g (f q).1 ++ (f q).2.1.data.toList/\P (f q).1):
  ∀ (n:Nat) (q:RQ),(fMany f n q).2.2=false->q.2=false/\q.1.data.toList=(fMany f n q).1.flatMap g ++ (fMany f n q).2.1.data.toList/\(fMany f n q).1.length=n/\∀ x ∈ (fMany f n q).1,P x
 | 0,q,h=>⟨h,rfl,rfl,fun x hx=>by cases hx⟩
 | n+1,q,h=>by
  cases c:q.2
  ·have e:fMany f (n+1) q=((f q).1 :: (fMany f n (f q).2).1,(fMany f n (f q).2).2):=by rw [fMany,if_neg (by rw [c];decide)]
   rw [e] at h ⊢
   obtain ⟨a1,a2,a3,a4⟩:=fMany_only hf n (f q).2 h
   obtain ⟨b1,b2,b3⟩:=hf q a1
   refine ⟨rfl,by rw [b2,a2,List.flatMap_cons,List.append_assoc],by simp only [List.length_cons,a3],fun x hx=>?_⟩
   rcases List.mem_cons.1 hx with rfl | hx
   ·exact b3
   ·exact a4 x hx
  ·have e:fMany f (n+1) q=([],q):=by rw [fMany,if_pos c]
   rw [e] at h
   rw [c] at h;cases h
theorem fMany_back {α:Type} {f:RQ->α × RQ} {g:α->List UInt8}:∀ {l:List α},(∀ x ∈ l,∀ t,f (bA (g x ++ t),false)=(x,(bA t,false)))->∀ t,fMany f l.length (bA (l.flatMap g ++ t),false)=(l,(bA t,false))
 | [],_,t=>rfl
 | x :: l,hf,t=>by
  rw [List.flatMap_cons,List.append_assoc,List.length_cons,fMany,if_neg Bool.false_ne_true,hf x (List.mem_cons_self ..),fMany_back (fun y hy=>hf y (List.mem_cons_of_mem _ hy)) t]
theorem fMany_size {α:Type} {f:RQ->α × RQ} (hf:∀ q,(f q).2.1.size<=q.1.size):∀ (n:Nat) (q:RQ),(fMany f n q).2.1.size<=q.1.size
 | 0,q=>Nat.le_refl _
 | n+1,q=>by
  rw [fMany]
  split
  ·exact Nat.le_refl _
  ·exact Nat.le_trans (fMany_size hf n _) (hf q)
theorem fMany_len {α:Type} (f:RQ->α × RQ):∀ (n:Nat) (q:RQ),(fMany f n q).1.length<=n
 | 0,q=>Nat.le_refl _
 | n+1,q=>by
  rw [fMany]
  split
  ·exact Nat.zero_le _
  ·exact Nat.succ_le_succ (fMany_len f n _)
theorem fR1_only (q:RQ) (h:(fR1 q).2.2=false):q.2=false/\q.1.data.toList=putL (fR1 q).1 ++ (fR1 q).2.1.data.toList/\(fR1 q).1<=1000000:=by
 unfold fR1 at h ⊢;exact fNum_only _ h
theorem fR1_size (q:RQ):(fR1 q).2.1.size<=q.1.size:=by unfold fR1;exact fNum_size _
theorem fR2_only (q:RQ) (h:(fR2 q).2.2=false):(fR1 q).2.2=false/\(fR1 q).2.1.data.toList=putL (fR2 q).1 ++ (fR2 q).2.1.data.toList/\(fR2 q).1<=1000000:=by
 unfold fR2 at h ⊢;exact fNum_only _ h
theorem fR2_size (q:RQ):(fR2 q).2.1.size<=(fR1 q).2.1.size:=by unfold fR2;exact fNum_size _
theorem fR3_only (q:RQ) (h:(fR3 q).2.2=false):(fR2 q).2.2=false/\(fR2 q).2.1.data.toList=putL (fR3 q).1 ++ (fR3 q).2.1.data.toList/\(fR3 q).1<=1000000:=by
 unfold fR3 at h ⊢;exact fNum_only _ h
theorem fR3_size (q:RQ):(fR3 q).2.1.size<=(fR2 q).2.1.size:=by unfold fR3;exact fNum_size _
theorem fR4_only (q:RQ) (h:(fR4 q).2.2=false):(fR3 q).2.2=false/\(fR3 q).2.1.data.toList=putL (zig (fR4 q).1) ++ (fR4 q).2.1.data.toList/\i64ok (fR4 q).1:=by
 unfold fR4 at h ⊢;exact fInt_only _ h
theorem fR4_size (q:RQ):(fR4 q).2.1.size<=(fR3 q).2.1.size:=by unfold fR4;exact fInt_size _
theorem fS1_only (q:RQ) (h:(fS1 q).2.2=false):q.2=false/\q.1.data.toList=txtL (fS1 q).1.data.toList ++ (fS1 q).2.1.data.toList/\(fS1 q).1.size<=4096:=by
 unfold fS1 at h ⊢;exact fTxt_only _ h
theorem fS1_size (q:RQ):(fS1 q).2.1.size<=q.1.size:=by unfold fS1;exact fTxt_size _
theorem fS2_only (q:RQ) (h:(fS2 q).2.2=false):(fS1 q).2.2=false/\(fS1 q).2.1.data.toList=putL (fS2 q).1 ++ (fS2 q).2.1.data.toList/\(fS2 q).1<=1000000:=by
 unfold fS2 at h ⊢;exact fNum_only _ h
theorem fS2_size (q:RQ):(fS2 q).2.1.size<=(fS1 q).2.1.size:=by unfold fS2;exact fNum_size _
theorem fS3_only (q:RQ) (h:(fS3 q).2.2=false):(fS2 q).2.2=false/\(fS2 q).2.1.data.toList=putL (fS3 q).1 ++ (fS3 q).2.1.data.toList/\(fS3 q).1<=1000000:=by
 unfold fS3 at h ⊢;exact fNum_only _ h
theorem fS3_size (q:RQ):(fS3 q).2.1.size<=(fS2 q).2.1.size:=by unfold fS3;exact fNum_size _
theorem fS5_only (q:RQ) (h:(fS5 q).2.2=false):(fS4 q).2.2=false/\(fS4 q).2.1.data.toList=txtL (fS5 q).1.data.toList ++ (fS5 q).2.1.data.toList/\(fS5 q).1.size<=4096:=by
 unfold fS5 at h ⊢;exact fTxt_only _ h
theorem fS5_size (q:RQ):(fS5 q).2.1.size<=(fS4 q).2.1.size:=by unfold fS5;exact fTxt_size _
theorem fS6_only (q:RQ) (h:(fS6 q).2.2=false):(fS5 q).2.2=false/\(fS5 q).2.1.data.toList=putL (fS6 q).1 ++ (fS6 q).2.1.data.toList/\(fS6 q).1<=1000000:=by
 unfold fS6 at h ⊢;exact fNum_only _ h
theorem fS6_size (q:RQ):(fS6 q).2.1.size<=(fS5 q).2.1.size:=by unfold fS6;exact fNum_size _
theorem fY1_only (q:RQ) (h:(fY1 q).2.2=false):q.2=false/\q.1.data.toList=txtL (fY1 q).1.data.toList ++ (fY1 q).2.1.data.toList/\(fY1 q).1.size<=4096:=by
 unfold fY1 at h ⊢;exact fTxt_only _ h
theorem fY2_only (q:RQ) (h:(fY2 q).2.2=false):(fY1 q).2.2=false/\(fY1 q).2.1.data.toList=putL (fY2 q).1 ++ (fY2 q).2.1.data.toList/\(fY2 q).1<=1000000:=by
 unfold fY2 at h ⊢;exact fNum_only _ h
theorem fY3_only (q:RQ) (h:(fY3 q).2.2=false):(fY2 q).2.2=false/\(fY2 q).2.1.data.toList=putL (fY3 q).1 ++ (fY3 q).2.1.data.toList/\(fY3 q).1<=1000000:=by
 unfold fY3 at h ⊢;exact fNum_only _ h
theorem fY4_only (q:RQ) (h:(fY4 q).2.2=false):(fY3 q).2.2=false/\(fY3 q).2.1.data.toList=putL (fY4 q).1 ++ (fY4 q).2.1.data.toList/\(fY4 q).1<=1000000:=by
 unfold fY4 at h ⊢;exact fNum_only _ h
theorem fS4_only (q:RQ) (h:(fS4 q).2.2=false):(fKeep (fS3 q)).2=false/\(fS3 q).2.1.data.toList=putL (fS4 q).1 ++ (fS4 q).2.1.data.toList/\(fS4 q).1<=1000000:=by
 unfold fS4 at h ⊢;exact fNum_only _ h
theorem fKeep_1 (q:Nat × RQ):(fKeep q).1=q.2.1:=by unfold fKeep;rfl
theorem fS4_size (q:RQ):(fS4 q).2.1.size<=(fS3 q).2.1.size:=by
 have h:=fNum_size (fKeep (fS3 q))
 rw [fKeep_1] at h
 unfold fS4;exact h
theorem fRel_only (q:RQ) (h:(fRel q).2.2=false):q.2=false/\q.1.data.toList=relB (fRel q).1 ++ (fRel q).2.1.data.toList/\GoodRl (fRel q).1:=by
 unfold fRel at h ⊢
 simp only at h ⊢
 obtain ⟨d1,d2,d3⟩:=fR4_only q h
 obtain ⟨c1,c2,c3⟩:=fR3_only q d1
 obtain ⟨b1,b2,b3⟩:=fR2_only q c1
 obtain ⟨a1,a2,a3⟩:=fR1_only q b1
 have e:q.1.data.toList=relB ⟨(fR1 q).1,(fR2 q).1,(fR3 q).1,(fR4 q).1⟩ ++ (fR4 q).2.1.data.toList:=by
  rw [a2,b2,c2,d2];unfold relB;simp only [Int.toNat_natCast,List.append_assoc]
 refine ⟨a1,e,?_⟩
 clear a2 b2 c2 d2 e a1 b1 c1 d1 h
 generalize (fR1 q).1=x1 at*
 generalize (fR2 q).1=x2 at*
 generalize (fR3 q).1=x3 at*
 generalize (fR4 q).1=x4 at*
 refine ⟨⟨?_,?_⟩,⟨?_,?_⟩,⟨?_,?_⟩,d3⟩
 all_goals simp only
 all_goals omega
theorem fRel_size (q:RQ):(fRel q).2.1.size<=q.1.size:=by
 have h1:=fR1_size q;have h2:=fR2_size q;have h3:=fR3_size q;have h4:=fR4_size q
 unfold fRel;simp only;omega
theorem fKeep_only {q:Nat × RQ} (h:(fKeep q).2=false):q.2.2=false/\q.1<=1:=by
 unfold fKeep at h
 simp only [Bool.or_eq_false_iff,decide_eq_false_iff_not] at h
 exact ⟨h.1,by omega⟩
theorem fS7_size (q:RQ):(fS7 q).2.1.size<=(fS6 q).2.1.size:=by unfold fS7;exact fMany_size fRel_size _ _
theorem fSec_size (q:RQ):(fSec q).2.1.size<=q.1.size:=by
 have h1:=fS1_size q;have h2:=fS2_size q;have h3:=fS3_size q;have h4:=fS4_size q;have h5:=fS5_size q;have h6:=fS6_size q;have h7:=fS7_size q
 unfold fSec;simp only;omega
theorem fS7_only (q:RQ) (h:(fS7 q).2.2=false):(fS6 q).2.2=false/\(fS6 q).2.1.data.toList=(fS7 q).1.flatMap relB ++ (fS7 q).2.1.data.toList/\(fS7 q).1.length=(fS6 q).1/\∀ r ∈ (fS7 q).1,GoodRl r:=by
 unfold fS7 at h ⊢;exact fMany_only fRel_only _ _ h
theorem fS7_len (q:RQ):(fS7 q).1.length<=(fS6 q).1:=by unfold fS7;exact fMany_len _ _ _
theorem ba_len (S:ByteArray):S.data.toList.length=S.size:=rfl
theorem fSec_only (q:RQ) (h:(fSec q).2.2=false):q.2=false/\q.1.data.toList=secB (fSec q).1 ++ (fSec q).2.1.data.toList/\(GoodSc (fSec q).1/\(fSec q).1.name.length<=4096/\(fSec q).1.rels.length<=1000000):=by
 unfold fSec at h ⊢
 simp only at h ⊢
 obtain ⟨g1,g2,g3,g4⟩:=fS7_only q h
 obtain ⟨f1,f2,f3⟩:=fS6_only q g1
 obtain ⟨e1,e2,e3⟩:=fS5_only q f1
 obtain ⟨d1,d2,d3⟩:=fS4_only q e1
 obtain ⟨k1,k2⟩:=fKeep_only d1
 obtain ⟨c1,c2,c3⟩:=fS3_only q k1
 obtain ⟨b1,b2,b3⟩:=fS2_only q c1
 obtain ⟨a1,a2,a3⟩:=fS1_only q b1
 have hl:=fS7_len q
 have m0:(4096:Nat)<=maxLen:=by unfold maxLen;omega
 have e:q.1.data.toList=secB ⟨(fS1 q).1.data.toList,(fS2 q).1,(fS3 q).1 == 1,(fS4 q).1,(fS5 q).1.data.toList,(fS7 q).1⟩ ++ (fS7 q).2.1.data.toList:=by
  rw [a2,b2,c2,d2,e2,f2,g2]
  unfold secB
  simp only [Int.toNat_natCast,List.append_assoc,keep_of (q:=(fS3 q).1) (by omega),g3]
 refine ⟨a1,e,?_⟩
 clear a2 b2 c2 d2 e2 f2 g2 e a1 b1 c1 d1 e1 f1 g1 h g3
 generalize (fS1 q).1=x1 at*
 generalize (fS2 q).1=x2 at*
 generalize (fS3 q).1=x3 at*
 generalize (fS4 q).1=x4 at*
 generalize (fS5 q).1=x5 at*
 generalize (fS6 q).1=x6 at*
 generalize (fS7 q).1=x7 at*
 refine ⟨⟨?_,⟨?_,?_⟩,⟨?_,?_⟩,?_,g4⟩,?_,by omega⟩
 all_goals simp only [ba_len]
 all_goals omega
theorem fSym_only (q:RQ) (h:(fSym q).2.2=false):q.2=false/\q.1.data.toList=symB (fSym q).1 ++ (fSym q).2.1.data.toList/\(GoodSy (fSym q).1/\(fSym q).1.name.length<=4096):=by
 unfold fSym at h ⊢
 simp only at h ⊢
 obtain ⟨d1,d2,d3⟩:=fY4_only q h
 obtain ⟨c1,c2,c3⟩:=fY3_only q d1
 obtain ⟨b1,b2,b3⟩:=fY2_only q c1
 obtain ⟨a1,a2,a3⟩:=fY1_only q b1
 have m0:(4096:Nat)<=maxLen:=by unfold maxLen;omega
 have e:q.1.data.toList=symB ⟨(fY1 q).1.data.toList,(fY2 q).1,((fY3 q).1:Int) - 1,(fY4 q).1⟩ ++ (fY4 q).2.1.data.toList:=by
  rw [a2,b2,c2,d2]
  unfold symB
  simp only [Int.toNat_natCast,List.append_assoc,Int.sub_add_cancel]
 refine ⟨a1,e,?_⟩
 clear a2 b2 c2 d2 e a1 b1 c1 d1 h
 generalize (fY1 q).1=x1 at*
 generalize (fY2 q).1=x2 at*
 generalize (fY3 q).1=x3 at*
 generalize (fY4 q).1=x4 at*
 refine ⟨⟨?_,⟨?_,?_⟩,⟨?_,?_⟩,⟨?_,?_⟩⟩,?_⟩
 all_goals simp only [ba_len]
 all_goals omega
theorem fRel_back (r:Rl) (hr:RelFull r) (h:r.sym<=1000000) (t:List UInt8):fRel (bA (relB r ++ t),false)=(r,(bA t,false)):=by
 obtain ⟨r1,r2⟩:=hr
 have a1:=r1.p0;have a2:=r1.p1;have a3:=r1.k0;have a4:=r1.k1;have a5:=r1.s0
 unfold fRel fR4 fR3 fR2 fR1 relB
 simp only [List.append_assoc]
 rw [fNum_back (by omega)];simp only
 rw [fNum_back (by omega)];simp only
 rw [fNum_back (by omega)];simp only
 rw [fInt_back r2.2.2.2]
 cases r
 simp only at*
 rw [Int.toNat_of_nonneg a1,Int.toNat_of_nonneg a3,Int.toNat_of_nonneg a5]
theorem fSym_back (s:Sy) (hs:SymOk s) (t:List UInt8):fSym (bA (symB s ++ t),false)=(s,(bA t,false)):=by
 have a1:=hs.name;have a2:=hs.b0;have a3:=hs.b1;have a4:=hs.s0;have a5:=hs.s1;have a6:=hs.o0;have a7:=hs.o1
 unfold fSym fY4 fY3 fY2 fY1 symB
 simp only [List.append_assoc]
 rw [fTxt_back (by omega)];simp only
 rw [fNum_back (by omega)];simp only
 rw [fNum_back (by omega)];simp only
 rw [fNum_back (by omega)]
 cases s
 simp only at*
 rw [Int.toNat_of_nonneg a2,Int.toNat_of_nonneg (by omega),Int.toNat_of_nonneg a6,Int.add_sub_cancel]
theorem fSec_back (s:Sc) (hs:SecFull s) (hy:∀ r ∈ s.rels,r.sym<=1000000) (t:List UInt8):fSec (bA (secB s ++ t),false)=(s,(bA t,false)):=by
 obtain ⟨s1,s2⟩:=hs
 have a1:=s1.name;have a2:=s1.k0;have a3:=s1.k1;have a4:=s1.a0;have a5:=s1.a1;have a6:=s1.data;have a7:=s1.rels
 have ks:keepI s.keep<=1:=by unfold keepI;split <;> omega
 unfold fSec fS7 fS6 fS5 fS4 fS3 fS2 fS1 secB
 simp only [List.append_assoc]
 rw [fTxt_back (by omega)];simp only
 rw [fNum_back (by omega)];simp only
 rw [fNum_back (by omega)]
 rw [show fKeep (keepI s.keep,(bA (putL s.align.toNat ++ (txtL s.data ++ (putL s.rels.length ++ (List.flatMap relB s.rels ++ t)))),false))=(bA (putL s.align.toNat ++ (txtL s.data ++ (putL s.rels.length ++ (List.flatMap relB s.rels ++ t)))),false) from by
  unfold fKeep;simp only [Bool.false_or];rw [decide_eq_false (by omega)]]
 rw [fNum_back (by omega)];simp only
 rw [fTxt_back (by omega)];simp only
 rw [fNum_back (by omega)];simp only
 rw [fMany_back (fun r hr=>fRel_back r ⟨(s1.all r hr).up a6,s2.rels r hr⟩ (hy r hr))]
 cases s
 rename_i nm ki kp al dt rl
 simp only at*
 rw [Int.toNat_of_nonneg a2,Int.toNat_of_nonneg a4]
 cases kp <;> rfl
def gO (D:ByteArray):Option Ob:=if D.data.toList.take 6=[67,76,69,65,84,1] then (if (fO4 D).2.2=true\/(fO4 D).2.1.size ≠ 0\/isO (fOb D)=false then none else some (fOb D)) else none
theorem fO1_only (D:ByteArray) (h:(fO1 D).2.2=false):D.data.toList.drop 6=putL (fO1 D).1 ++ (fO1 D).2.1.data.toList/\(fO1 D).1<=1000000:=by
 unfold fO1 at h ⊢
 obtain ⟨-,h2,h3⟩:=fNum_only _ h
 rw [rest_list] at h2
 exact ⟨h2,h3⟩
theorem fO2_only (D:ByteArray) (h:(fO2 D).2.2=false):(fO1 D).2.2=false/\(fO1 D).2.1.data.toList=(fO2 D).1.flatMap secB ++ (fO2 D).2.1.data.toList/\(fO2 D).1.length=(fO1 D).1/\∀ s ∈ (fO2 D).1,GoodSc s/\s.name.length<=4096/\s.rels.length<=1000000:=by
 unfold fO2 at h ⊢;exact fMany_only fSec_only _ _ h
theorem fO3_only (D:ByteArray) (h:(fO3 D).2.2=false):(fO2 D).2.2=false/\(fO2 D).2.1.data.toList=putL (fO3 D).1 ++ (fO3 D).2.1.data.toList/\(fO3 D).1<=1000000:=by
 unfold fO3 at h ⊢;exact fNum_only _ h
theorem fO4_only (D:ByteArray) (h:(fO4 D).2.2=false):(fO3 D).2.2=false/\(fO3 D).2.1.data.toList=(fO4 D).1.flatMap symB ++ (fO4 D).2.1.data.toList/\(fO4 D).1.length=(fO3 D).1/\∀ s ∈ (fO4 D).1,GoodSy s/\s.name.length<=4096:=by
 unfold fO4 at h ⊢;exact fMany_only fSym_only _ _ h
theorem fOb_only {D:ByteArray} (h0:D.data.toList.take 6=[67,76,69,65,84,1]) (h:(fO4 D).2.2=false):D.data.toList=putO (fOb D) ++ (fO4 D).2.1.data.toList/\(∀ s ∈ (fO2 D).1,GoodSc s/\s.name.length<=4096/\s.rels.length<=1000000)/\(∀ s ∈ (fO4 D).1,GoodSy s/\s.name.length<=4096)/\(fO2 D).1.length<=1000000/\(fO4 D).1.length<=1000000:=by
 obtain ⟨d1,d2,d3,d4⟩:=fO4_only D h
 obtain ⟨c1,c2,c3⟩:=fO3_only D d1
 obtain ⟨b1,b2,b3,b4⟩:=fO2_only D c1
 obtain ⟨a2,a3⟩:=fO1_only D b1
 refine ⟨?_,b4,d4,by omega,by omega⟩
 unfold putO fOb
 rw [<-List.take_append_drop 6 D.data.toList,h0,a2,b2,c2,d2]
 simp only [List.append_assoc,b3,d3]
theorem syms_le {k:Int}:∀ {l:List Sc} {seen:List (List UInt8)},secsR k seen l=true->∀ s ∈ l,∀ r ∈ s.rels,r.sym < k
 | [],_,_,s,hs=>by cases hs
 | q :: t,seen,h,s,hs=>by
  unfold secsR at h
  split at h
  ·cases h
  ·split at h
   ·cases h
   ·rename_i c2
    rcases List.mem_cons.1 hs with rfl | hs
    ·intro r hr
     simp only [List.any_eq_true,not_exists] at c2
     have:=c2 r
     simp only [hr,true_and,decide_eq_true_eq] at this
     omega
    ·exact syms_le h s hs
theorem fO_back {o:Ob} (ho:isO o=true) (hg:∀ s ∈ o.secs,GoodSc s):fOb (bA (putO o))=o/\(fO4 (bA (putO o))).2=(bA [],false):=by
 obtain ⟨o1,o2,o3,o4⟩:=is_ok ho
 have hsy:∀ s ∈ o.secs,∀ r ∈ s.rels,r.sym<=1000000:=by
  unfold isO secsL at ho
  simp only [Bool.and_eq_true] at ho
  intro s hs r hr
  have:=syms_le ho.1.2 s hs r hr
  omega
 have hx:=rest_bA [67,76,69,65,84,1] (putL o.secs.length ++ (o.secs.flatMap secB ++ (putL o.syms.length ++ (o.syms.flatMap symB ++ []))))
 rw [show ([67,76,69,65,84,1]:List UInt8).length=6 from rfl] at hx
 have hp:putO o=[67,76,69,65,84,1] ++ (putL o.secs.length ++ (o.secs.flatMap secB ++ (putL o.syms.length ++ (o.syms.flatMap symB ++ [])))):=by
  unfold putO;simp only [List.append_assoc,List.append_nil]
 have e1:fO1 (bA (putO o))=(o.secs.length,(bA (o.secs.flatMap secB ++ (putL o.syms.length ++ (o.syms.flatMap symB ++ []))),false)):=by
  unfold fO1;rw [hp,hx,fNum_back (by omega)]
 have e2:fO2 (bA (putO o))=(o.secs,(bA (putL o.syms.length ++ (o.syms.flatMap symB ++ [])),false)):=by
  unfold fO2;rw [e1];simp only;rw [fMany_back (fun s hs=>fSec_back s ⟨o3 s hs,hg s hs⟩ (hsy s hs))]
 have e3:fO3 (bA (putO o))=(o.syms.length,(bA (o.syms.flatMap symB ++ []),false)):=by
  unfold fO3;rw [e2];simp only;rw [fNum_back (by omega)]
 have e4:fO4 (bA (putO o))=(o.syms,(bA [],false)):=by
  unfold fO4;rw [e3];simp only;rw [fMany_back (fun s hs=>fSym_back s (o4 s hs))]
 refine ⟨?_,by rw [e4]⟩
 unfold fOb
 rw [e2,e4]
theorem putO_take (o:Ob):(putO o).take 6=[67,76,69,65,84,1]:=by unfold putO;simp only [List.append_assoc];rfl
theorem gO_eq (D:ByteArray):gO D=getO D:=by
 cases h:getO D with
 | some o=>
  obtain ⟨h1,h2,h3,h4⟩:=getO_only h
  have hD:D=bA (putO o):=by rw [<-h2,bA_of]
  obtain ⟨e1,e2⟩:=fO_back h1 h3
  unfold gO
  rw [h2,if_pos (putO_take o),hD,e1,e2,if_neg]
  rintro (c | c | c)
  ·cases c
  ·exact c rfl
  ·rw [h1] at c;cases c
 | none=>
  unfold gO
  split
  ·rename_i h0
   split
   ·rfl
   ·rename_i c
    exfalso
    have c1:(fO4 D).2.2=false:=by
     cases hh:(fO4 D).2.2
     ·rfl
     ·exact absurd (.inl hh) c
    have c2:(fO4 D).2.1.size=0:=by
     by_cases hh:(fO4 D).2.1.size=0
     ·exact hh
     ·exact absurd (.inr (.inl hh)) c
    have c3:isO (fOb D)=true:=by
     cases hh:isO (fOb D)
     ·exact absurd (.inr (.inr hh)) c
     ·rfl
    obtain ⟨a1,a2,a3,-,-⟩:=fOb_only h0 c1
    have hz:(fO4 D).2.1.data.toList=[]:=List.eq_nil_of_length_eq_zero (by rw [ba_len];exact c2)
    rw [hz,List.append_nil] at a1
    have:=getO_back c3 (fun s hs=>(a2 s hs).1)
    rw [<-a1,bA_of,h] at this
    cases this
  ·rfl
end Go.Proofs.YthkolmebokfagaaGreatDoor
namespace Go.Proofs.YthkolmebokfagaaGreatDoor
open Go.ChangeShapes Go.WideShapes Go.Deep Go.RowKit
open Go.Proofs.YthkolmebokfagaaGreatDoor.Wi (getL getL_only gv iv tv geti getT)
abbrev RZr (w:World) (r:Nat) (q:RQ):Prop:=RB w r #[.string q.1,.bool q.2] 93
def DidR (v:Value) (r:Nat) (q:RQ) (w:World) (e:Ending) (w':World):Prop:=e=.returned v/\RZr w' r q/\KP r w w'
theorem rnum_ok (r:Nat) (D:ByteArray) (b:Bool) (x:Nat) (m:Nat) (hg:getL D.data.toList=(x,m,0)) (hx:x<=1000000) (hm:m<=D.size) (hD:D.size<=6000) (w:World) (h:RZr w r (D,b)):
  Calls Tryz.prog 45 #[.pointer (some ⟨r,0,none⟩)] w (DidR (.int .i64 (x:Int)) r (D.extract m D.size,b) w):=by
 have HGt:Hid (∀ u,Calls Tryz.prog 75 #[.string D] u (Ret (.tuple #[.int .u64 (x:Int),.int .i64 (m:Int),.int .i64 0]) u)):=Lib.hid fun u=>by
  have:=Wi.refGet_any D u hD
  rw [hg] at this
  exact this
 have H:=Lib.hid h
 have c0:w.cell? ⟨r,0,none⟩=some (.string D):=h.cell
 have f0:w.frozen? ⟨r,0,none⟩=false:=h.frozen
 have hmi:(m:Int)<=(D.size:Int):=by omega
 have hDi:(D.size:Int)<=6000:=by omega
 have hw2:IntKind.i64.wrap (x:Int)=(x:Int):=by rw [IntKind.wrap_i64];omega
 have hxi:(x:Int)<=1000000:=by omega
 clear h hg hD
 go_enter Tryz.func45,Tryz.ntmps45
 go_wp2_with fail
 refine (HGt.out _).mono ?_
 rintro e u ⟨rfl,rfl⟩
 go_wp2
 have HS:=Lib.hid (H.out.set (j:=0) (.string (D.extract m D.size)))
 go_ret
 exact ⟨rfl,HS.out,KP.step r w 0 _⟩
theorem rnum_bad (r:Nat) (D:ByteArray) (b:Bool) (x:Nat) (m e:Nat) (hg:getL D.data.toList=(x,m,e)) (he:e ≠ 0) (hD:D.size<=6000) (w:World) (h:RZr w r (D,b)):
  Calls Tryz.prog 45 #[.pointer (some ⟨r,0,none⟩)] w (DidR (.int .i64 0) r (D,true) w):=by
 have HGt:Hid (∀ u,Calls Tryz.prog 75 #[.string D] u (Ret (.tuple #[.int .u64 (x:Int),.int .i64 (m:Int),.int .i64 (e:Int)]) u)):=Lib.hid fun u=>by
  have:=Wi.refGet_any D u hD
  rw [hg] at this
  exact this
 have H:=Lib.hid h
 have c0:w.cell? ⟨r,0,none⟩=some (.string D):=h.cell
 have c1:w.cell? ⟨r,1,none⟩=some (.bool b):=h.cell
 have f1:w.frozen? ⟨r,1,none⟩=false:=h.frozen
 have e1:((e:Int) != 0)=true:=by rw [bne_iff_ne];omega
 have e2:((e:Int) == 0)=false:=by rw [beq_eq_false_iff_ne];omega
 clear h hg hD
 go_enter Tryz.func45,Tryz.ntmps45
 go_wp2_with fail
 refine (HGt.out _).mono ?_
 rintro e u ⟨rfl,rfl⟩
 go_wp2
 have HS:=Lib.hid (H.out.set (j:=1) (.bool true))
 go_ret
 exact ⟨rfl,HS.out,KP.step r w 1 _⟩
theorem rnum_big (r:Nat) (D:ByteArray) (b:Bool) (x:Nat) (m:Nat) (hg:getL D.data.toList=(x,m,0)) (hx:1000000 < x) (hD:D.size<=6000) (w:World) (h:RZr w r (D,b)):
  Calls Tryz.prog 45 #[.pointer (some ⟨r,0,none⟩)] w (DidR (.int .i64 0) r (D,true) w):=by
 have HGt:Hid (∀ u,Calls Tryz.prog 75 #[.string D] u (Ret (.tuple #[.int .u64 (x:Int),.int .i64 (m:Int),.int .i64 0]) u)):=Lib.hid fun u=>by
  have:=Wi.refGet_any D u hD
  rw [hg] at this
  exact this
 have H:=Lib.hid h
 have c0:w.cell? ⟨r,0,none⟩=some (.string D):=h.cell
 have c1:w.cell? ⟨r,1,none⟩=some (.bool b):=h.cell
 have f1:w.frozen? ⟨r,1,none⟩=false:=h.frozen
 have hxi:(1000000:Int) < (x:Int):=by omega
 clear h hg hD
 go_enter Tryz.func45,Tryz.ntmps45
 go_wp2_with fail
 refine (HGt.out _).mono ?_
 rintro e u ⟨rfl,rfl⟩
 go_wp2
 have HS:=Lib.hid (H.out.set (j:=1) (.bool true))
 go_ret
 exact ⟨rfl,HS.out,KP.step r w 1 _⟩
theorem rint_ok (r:Nat) (D:ByteArray) (b:Bool) (x:Int) (m:Nat) (hg:geti D.data.toList=(x,m,0)) (hm:m<=D.size) (hD:D.size<=6000) (w:World) (h:RZr w r (D,b)):
  Calls Tryz.prog 76 #[.pointer (some ⟨r,0,none⟩)] w (DidR (.int .i64 x) r (D.extract m D.size,b) w):=by
 have HGt:Hid (∀ u,Calls Tryz.prog 99 #[.string D] u (Ret (.tuple #[.int .i64 x,.int .i64 (m:Int),.int .i64 0]) u)):=Lib.hid fun u=>by
  have:=Wi.refGetInt_any D u hD
  rw [hg] at this
  exact this
 have H:=Lib.hid h
 have c0:w.cell? ⟨r,0,none⟩=some (.string D):=h.cell
 have f0:w.frozen? ⟨r,0,none⟩=false:=h.frozen
 have hmi:(m:Int)<=(D.size:Int):=by omega
 have hDi:(D.size:Int)<=6000:=by omega
 clear h hg hD
 go_enter Tryz.func76,Tryz.ntmps76
 go_wp2_with fail
 refine (HGt.out _).mono ?_
 rintro e u ⟨rfl,rfl⟩
 go_wp2
 have HS:=Lib.hid (H.out.set (j:=0) (.string (D.extract m D.size)))
 go_ret
 exact ⟨rfl,HS.out,KP.step r w 0 _⟩
theorem rint_bad (r:Nat) (D:ByteArray) (b:Bool) (x:Int) (m e:Nat) (hg:geti D.data.toList=(x,m,e)) (he:e ≠ 0) (hD:D.size<=6000) (w:World) (h:RZr w r (D,b)):
  Calls Tryz.prog 76 #[.pointer (some ⟨r,0,none⟩)] w (DidR (.int .i64 0) r (D,true) w):=by
 have HGt:Hid (∀ u,Calls Tryz.prog 99 #[.string D] u (Ret (.tuple #[.int .i64 x,.int .i64 (m:Int),.int .i64 (e:Int)]) u)):=Lib.hid fun u=>by
  have:=Wi.refGetInt_any D u hD
  rw [hg] at this
  exact this
 have H:=Lib.hid h
 have c0:w.cell? ⟨r,0,none⟩=some (.string D):=h.cell
 have c1:w.cell? ⟨r,1,none⟩=some (.bool b):=h.cell
 have f1:w.frozen? ⟨r,1,none⟩=false:=h.frozen
 have e1:((e:Int) != 0)=true:=by rw [bne_iff_ne];omega
 have e2:((e:Int) == 0)=false:=by rw [beq_eq_false_iff_ne];omega
 clear h hg hD
 go_enter Tryz.func76,Tryz.ntmps76
 go_wp2_with fail
 refine (HGt.out _).mono ?_
 rintro e u ⟨rfl,rfl⟩
 go_wp2
 have HS:=Lib.hid (H.out.set (j:=1) (.bool true))
 go_ret
 exact ⟨rfl,HS.out,KP.step r w 1 _⟩
theorem rtxt_ok (r:Nat) (D:ByteArray) (b:Bool) (S:ByteArray) (m:Nat) (hg:getT D 4096=(S,m,0)) (hm:m<=D.size) (hD:D.size<=6000) (w:World) (h:RZr w r (D,b)):
  Calls Tryz.prog 47 #[.pointer (some ⟨r,0,none⟩)] w (DidR (.string S) r (D.extract m D.size,b) w):=by
 have HGt:Hid (∀ u,Calls Tryz.prog 77 #[.string D,.int .i64 4096] u (Ret (.tuple #[.string S,.int .i64 (m:Int),.int .i64 0]) u)):=Lib.hid fun u=>by
  have:=Wi.refGetText_any D 4096 (by decide) (by decide) u hD
  rw [hg] at this
  exact this
 have H:=Lib.hid h
 have c0:w.cell? ⟨r,0,none⟩=some (.string D):=h.cell
 have f0:w.frozen? ⟨r,0,none⟩=false:=h.frozen
 have hmi:(m:Int)<=(D.size:Int):=by omega
 have hDi:(D.size:Int)<=6000:=by omega
 clear h hg hD
 go_enter Tryz.func47,Tryz.ntmps47
 go_wp2_with fail
 refine (HGt.out _).mono ?_
 rintro e u ⟨rfl,rfl⟩
 go_wp2
 have HS:=Lib.hid (H.out.set (j:=0) (.string (D.extract m D.size)))
 go_ret
 exact ⟨rfl,HS.out,KP.step r w 0 _⟩
theorem rtxt_bad (r:Nat) (D:ByteArray) (b:Bool) (S:ByteArray) (m e:Nat) (hg:getT D 4096=(S,m,e)) (he:e ≠ 0) (hD:D.size<=6000) (w:World) (h:RZr w r (D,b)):
  Calls Tryz.prog 47 #[.pointer (some ⟨r,0,none⟩)] w (DidR (.string ⟨#[]⟩) r (D,true) w):=by
 have HGt:Hid (∀ u,Calls Tryz.prog 77 #[.string D,.int .i64 4096] u (Ret (.tuple #[.string S,.int .i64 (m:Int),.int .i64 (e:Int)]) u)):=Lib.hid fun u=>by
  have:=Wi.refGetText_any D 4096 (by decide) (by decide) u hD
  rw [hg] at this
  exact this
 have H:=Lib.hid h
 have c0:w.cell? ⟨r,0,none⟩=some (.string D):=h.cell
 have c1:w.cell? ⟨r,1,none⟩=some (.bool b):=h.cell
 have f1:w.frozen? ⟨r,1,none⟩=false:=h.frozen
 have e1:((e:Int) != 0)=true:=by rw [bne_iff_ne];omega
 have e2:((e:Int) == 0)=false:=by rw [beq_eq_false_iff_ne];omega
 clear h hg hD
 go_enter Tryz.func47,Tryz.ntmps47
 go_wp2_with fail
 refine (HGt.out _).mono ?_
 rintro e u ⟨rfl,rfl⟩
 go_wp2
 have HS:=Lib.hid (H.out.set (j:=1) (.bool true))
 go_ret
 exact ⟨rfl,HS.out,KP.step r w 1 _⟩
theorem rnum_any (r:Nat) (q:RQ) (hD:q.1.size<=6000) (w:World) (h:RZr w r q):
  Calls Tryz.prog 45 #[.pointer (some ⟨r,0,none⟩)] w (DidR (.int .i64 ((fNum q).1:Int)) r (fNum q).2 w):=by
 obtain ⟨D,b⟩:=q
 by_cases c1:(getL D.data.toList).2.2=0
 ·have hg:getL D.data.toList=((getL D.data.toList).1,(getL D.data.toList).2.1,0):=by rw [<-c1]
  by_cases c2:(getL D.data.toList).1<=1000000
  ·have e:fNum (D,b)=((getL D.data.toList).1,(D.extract (getL D.data.toList).2.1 D.size,b)):=by
    unfold fNum rdNum;rw [if_pos ⟨c1,by simp only;omega⟩]
   rw [e]
   exact rnum_ok r D b _ _ hg c2 (by have:=(getL_only hg).2.2.1;simpa using this) hD w h
  ·have e:fNum (D,b)=(0,(D,true)):=by
    unfold fNum rdNum;rw [if_neg (fun c=>by have:=c.2;simp only at this;omega)]
   rw [e]
   exact rnum_big r D b _ _ hg (by omega) hD w h
 ·have e:fNum (D,b)=(0,(D,true)):=by
   unfold fNum rdNum;rw [if_neg (fun c=>c1 c.1)]
  rw [e]
  exact rnum_bad r D b _ _ _ rfl c1 hD w h
theorem rint_any (r:Nat) (q:RQ) (hD:q.1.size<=6000) (w:World) (h:RZr w r q):
  Calls Tryz.prog 76 #[.pointer (some ⟨r,0,none⟩)] w (DidR (.int .i64 (fInt q).1) r (fInt q).2 w):=by
 obtain ⟨D,b⟩:=q
 by_cases c1:(geti D.data.toList).2.2=0
 ·have hg:geti D.data.toList=((geti D.data.toList).1,(geti D.data.toList).2.1,0):=by rw [<-c1]
  have e:fInt (D,b)=((geti D.data.toList).1,(D.extract (geti D.data.toList).2.1 D.size,b)):=by
   unfold fInt rdInt;rw [if_pos c1]
  rw [e]
  exact rint_ok r D b _ _ hg (geti_size hg) hD w h
 ·have e:fInt (D,b)=(0,(D,true)):=by
   unfold fInt rdInt;rw [if_neg c1]
  rw [e]
  exact rint_bad r D b _ _ _ rfl c1 hD w h
theorem rtxt_any (r:Nat) (q:RQ) (hD:q.1.size<=6000) (w:World) (h:RZr w r q):
  Calls Tryz.prog 47 #[.pointer (some ⟨r,0,none⟩)] w (DidR (.string (fTxt q).1) r (fTxt q).2 w):=by
 obtain ⟨D,b⟩:=q
 by_cases c1:(getT D 4096).2.2=0
 ·have hg:getT D 4096=((getT D 4096).1,(getT D 4096).2.1,0):=by rw [<-c1]
  have e:fTxt (D,b)=((getT D 4096).1,(D.extract (getT D 4096).2.1 D.size,b)):=by
   unfold fTxt rdTxt;rw [if_pos c1]
  rw [e]
  exact rtxt_ok r D b _ _ hg (getT_size hg) hD w h
 ·have e:fTxt (D,b)=(⟨#[]⟩,(D,true)):=by
   unfold fTxt rdTxt;rw [if_neg c1]
  rw [e]
  exact rtxt_bad r D b _ _ _ rfl c1 hD w h
end Go.Proofs.YthkolmebokfagaaGreatDoor
