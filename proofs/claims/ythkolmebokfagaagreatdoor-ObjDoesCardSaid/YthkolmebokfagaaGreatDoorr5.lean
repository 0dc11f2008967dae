/- The reference of wire. The document's objects: the reference's numbers. An object as an argument, with what nil is. The document's objects: the reference's Own of a section. A drawn region by hand, short. The document's objects: the reference's Own of an object: what its loop keeps. The document's objects: the reference's Own of an object. -/
import Derived.Test.YthkolmebokfagaaGreatDoorqJ
import Derived.Test.YthkolmebokfagaaGreatDoorn1
import Derived.Laws.IdiomStrings
import Derived.Test.YthkolmebokfagaaGreatDoorqI
import Derived.Test.YthkolmebokfagaaGreatDoorr1
import Derived.Test.YthkolmebokfagaaGreatDoorqA
import Derived.Laws.AppendOwn
import Derived.Deep.RegionHeld
set_option maxRecDepth 100000
set_option maxHeartbeats 4000000
set_option linter.unusedVariables false
set_option linter.unusedSimpArgs false
namespace Go.Proofs.YthkolmebokfagaaGreatDoor.Wi
open Go.RowKit
theorem cat_list (a b:ByteArray):(a ++ b).data.toList=a.data.toList ++ b.data.toList:=by
 rw [ByteArray.data_append,Array.toList_append]
theorem list_size (a:ByteArray):a.data.toList.length=a.size:=Array.length_toList
theorem textB_list (s:ByteArray):(textB s).data.toList=putL s.size ++ s.data.toList:=rfl
theorem bytes_ext {a b:ByteArray} (h:a.data.toList=b.data.toList):a=b:=by
 cases a;cases b;congr 1;exact Array.toList_inj.1 h
theorem Power_any (n:Int) (w:World) (h:n<=63):
  Calls Tryz.prog 98 #[.int .i64 n] w (Ret (.int .u64 (2 ^ n.toNat)) w):=by
 go_enter Tryz.func98,Tryz.ntmps98
 go_wp2
 go_loop [3,4] (fun p i=>∃ k:Nat,k<=n.toNat/\i=.int .i64 k/\p=.int .u64 (2 ^ k)) (fun _ i=>n.toNat - (intOf i).toNat)
 case atStart=>exact ⟨0,Nat.zero_le _,rfl,rfl⟩
 case round=>
  obtain ⟨k,hk,rfl,rfl⟩:=hrel
  by_cases hlt:(k:Int) < n
  ·have hp:=pow_le (k+1) 63 (by omega) 9223372036854775808 (by decide)
   have e:IntKind.u64.wrap (2*2 ^ k)=2 ^ (k+1):=by
    rw [Int.pow_succ] at hp ⊢
    rw [IntKind.wrap_u64];omega
   have E:=Lib.hid e
   clear e hp
   go_wp2
   go_round
   case rel=>exact ⟨k+1,by omega,by go_num,by rw [E.out]⟩
   case measure=>simp [intOf];omega
  ·go_wp2
   go_ret
   exact ret_int (by rw [show n.toNat=k from by omega])
theorem power7 (k:Nat) (w:World) (h:k<=9):Calls Tryz.prog 98 #[.int .i64 (7*(k:Int))] w (Ret (.int .u64 ((128 ^ k:Nat):Int)) w):=by
 have:=Power_any (7*(k:Int)) w (by omega)
 rwa [show (7*(k:Int)).toNat=7*k from by omega,<-pow_cast,Nat.pow_mul] at this
theorem sum_wrap (u x k:Nat) (h:u+x*128 ^ k < 18446744073709551616):IntKind.u64.wrap ((u:Int)+IntKind.u64.wrap ((x:Int)*((128 ^ k:Nat):Int)))=((u+x*128 ^ k:Nat):Int):=by
 simp only [IntKind.wrap_u64]
 have e:(x:Int)*((128 ^ k:Nat):Int)=((x*128 ^ k:Nat):Int):=by rw [Int.natCast_mul]
 rw [e]
 omega
theorem refGet_any (D:ByteArray) (w:World) (hs:D.size<=6000):Calls Tryz.prog 75 #[.string D] w (Ret (gv (getL D.data.toList)) w):=by
 have HL:=Lib.hid (bytes_len D)
 go_enter Tryz.func75,Tryz.ntmps75
 go_wp2
 go_loop [5,6] (fun v i=>∃ k u:Nat,k<=9/\k<=D.size/\i=.int .i64 k/\v=.int .u64 (u:Int)/\u < 128 ^ k/\getL D.data.toList=getF k u (D.data.toList.drop k)) (fun _ i=>D.size - (intOf i).toNat)
 case atStart=>exact ⟨0,0,by omega,by omega,rfl,rfl,by decide,rfl⟩
 case round=>
  obtain ⟨k,u,hk9,hk,rfl,rfl,hu,hg⟩:=hrel
  have HG:=Lib.hid hg
  have HU:=Lib.hid hu
  clear hg hu
  by_cases hlt:k < D.size
  ·have HD:=Lib.hid (bytes_drop D k hlt)
   generalize hb:D[k]=b at*
   have hb2:b.toNat < 256:=b.toNat_lt
   have OE:Hid (k ≠ 9->b.toNat < 128->u+b.toNat*128 ^ k < 18446744073709551616):=Lib.hid fun h1 h2=>by
    have h3:b.toNat*128 ^ k<=127*128 ^ k:=Nat.mul_le_mul_right _ (by omega)
    have h4:=pow_b (k:=k+1) (by omega)
    have:=HU.out
    rw [pow_s] at h4
    omega
   have ON:Hid (k=9->b.toNat<=1->u+b.toNat*128 ^ k < 18446744073709551616):=Lib.hid fun h1 h2=>by
    have:=HU.out;subst h1;rw [pow_9] at this ⊢;omega
   have OU:Hid (k ≠ 9->u+b.toNat % 128*128 ^ k < 128 ^ (k+1)):=Lib.hid fun _=>on_lt HU.out
   have OV:Hid (k ≠ 9->u+b.toNat % 128*128 ^ k < 18446744073709551616):=Lib.hid fun h=>by have h4:=pow_b (k:=k+1) (by omega);have:=on_lt (b:=b.toNat) HU.out;omega
   have HPW:=Lib.hid fun w=>power7 k w hk9
   obtain ⟨p,hp⟩:∃ p:Nat,p=128 ^ k:=⟨_,rfl⟩
   have HP:=Lib.hid hp
   rw [<-hp] at HPW
   have SE:Hid (k ≠ 9->b.toNat < 128->IntKind.u64.wrap ((u:Int)+IntKind.u64.wrap ((b.toNat:Int) % 128*(p:Int)))=((u+b.toNat*128 ^ k:Nat):Int)):=Lib.hid fun h1 h2=>by
    rw [HP.out,<-sum_wrap u b.toNat k (OE.out h1 h2),Int.emod_eq_of_lt (by omega) (by omega)]
   have SO:Hid (k ≠ 9->IntKind.u64.wrap ((u:Int)+IntKind.u64.wrap ((b.toNat:Int) % 128*(p:Int)))=((u+b.toNat % 128*128 ^ k:Nat):Int)):=Lib.hid fun h1=>by
    rw [HP.out,<-sum_wrap u (b.toNat % 128) k (OV.out h1)];rfl
   obtain ⟨q,hq⟩:∃ q:Nat,q=128 ^ 9:=⟨_,rfl⟩
   have HP9:Hid (∀ w,Calls Tryz.prog 98 #[.int .i64 63] w (Ret (.int .u64 (q:Int)) w)):=Lib.hid fun w=>by
    have:=power7 9 w (by decide)
    rw [hq];exact this
   have SN:Hid (k=9->b.toNat<=1->IntKind.u64.wrap ((u:Int)+IntKind.u64.wrap ((b.toNat:Int) % 128*(q:Int)))=((u+b.toNat*128 ^ k:Nat):Int)):=Lib.hid fun h1 h2=>by
    rw [<-sum_wrap u b.toNat k (ON.out h1 h2),Int.emod_eq_of_lt (by omega) (by omega),hq,h1]
   clear hp hq
   go_wp2_with (first | (go_at_call 98;((with_reducible refine (HPW.out _).mono ?_);rintro e w' ⟨rfl,rfl⟩)) | (go_at_call 98;((with_reducible refine (HP9.out _).mono ?_);rintro e w' ⟨rfl,rfl⟩)))
   all_goals first
    | (go_ret3
       exact ret_gv 0 0 3 (by rw [HG.out,HD.out,getF_form (by simp at *;omega)]) rfl rfl rfl)
    | (go_ret3
       exact ret_gv (u+b.toNat*128 ^ k) (k+1) 0 (by rw [HG.out,HD.out,getF_end (by simp at *;omega) (by omega)]) (by first | exact SE.out (by omega) (by omega) | exact SN.out (by omega) (by omega)) (by omega) rfl)
    | (go_round
       case rel=>exact ⟨k+1,u+b.toNat % 128*128 ^ k,by omega,by omega,by go_num,by rw [SO.out (by omega)],OU.out (by omega),by rw [HG.out,HD.out,getF_on (by simp at *;omega) (by omega)]⟩
       case measure=>simp [intOf];omega)
    | go_ways
  ·go_wp2
   all_goals
    go_ret3
    exact ret_gv 0 0 9 (by rw [HG.out,List.drop_eq_nil_of_le (by rw [HL.out];omega)];rfl) rfl rfl rfl
theorem one_str (wr:World) (c:UInt8) (x:Int) (hx:x=c.toNat):(convert 69 9 (.slice (some ⟨wr.heap.size,0,none⟩) 1 1)).run Tryz.prog (wr.alloc (.cells #[.int .u8 x] 5))=.ok (.string ⟨#[c]⟩) (wr.alloc (.cells #[.int .u8 x] 5)):=by
 subst hx
 have:=run_convert_bytes_back (P:=Tryz.prog) (wr.alloc (.cells #[.int .u8 c.toNat] 5)) 69 9 5 ⟨wr.heap.size,0,none⟩ 1 [c] Tryz.underlying69 Tryz.underlying5 Tryz.underlying9
 refine this ?_
 intro j hj
 obtain rfl:j=0:=by simpa using hj
 simp [Addr.add]
theorem push_list (O:ByteArray) (c:UInt8):(O ++ ⟨#[c]⟩).data.toList=O.data.toList ++ [c]:=by rw [cat_list]
theorem push_size (O:ByteArray) (c:UInt8):(O ++ ⟨#[c]⟩).size=O.size+1:=by rw [<-list_size,push_list,List.length_append,list_size];rfl
theorem refPut_any (v:Nat) (hv:v < 18446744073709551616) (w:World):Calls Tryz.prog 69 #[.int .u64 v] w (RetB (.string (putB v)) w):=by
 have HV:=Lib.hid hv
 have HB:=Lib.hid (Below.refl w.heap.size w)
 clear hv
 go_enter Tryz.func69,Tryz.ntmps69
 go_wp2
 go_loopw [0,3] (fun vv out wr=>∃ (m u:Nat) (O:ByteArray),putL v=O.data.toList ++ putF (m+1) u/\u < 128 ^ (m+1)/\m<=9/\O.size+m<=9/\vv=.int .u64 (u:Int)/\u<=v/\out=.string O/\Below w.heap.size w wr) (fun vv _ _=>(intOf vv).toNat)
 case atStart=>exact ⟨9,v,⟨#[]⟩,rfl,Nat.lt_of_lt_of_le HV.out (by decide),by omega,by decide,rfl,Nat.le_refl _,rfl,HB.out⟩
 case round=>
  obtain ⟨m,u,O,hp,hu,hm,ho,rfl,huv,rfl,hb⟩:=hrel
  have HBW:=Lib.hid hb
  have HUV:=Lib.hid huv
  clear hb huv
  by_cases c:u < 128
  ·have HE:Hid (O ++ ⟨#[UInt8.ofNat u]⟩=putB v):=Lib.hid (bytes_ext (by rw [push_list,putB_list,hp,putF_small c]))
   have hcv:=one_str wr (UInt8.ofNat u) u (by rw [small_nat c])
   have ho2:O.size<=9:=by omega
   clear hp hu
   go_wp2
   go_ret
   exact ⟨by rw [<-HE.out];rfl,HBW.out.alloc HBW.out.size _⟩
  ·have c2:128<=u:=by omega
   have hm1:∃ m',m=m'+1:=by
    cases m with
    | zero=>exact absurd (by simpa using hu) c
    | succ m=>exact ⟨m,rfl⟩
   obtain ⟨m,rfl⟩:=hm1
   clear c
   obtain ⟨B,hB⟩:∃ B,B=UInt8.ofNat (u % 128+128):=⟨_,rfl⟩
   have HE:Hid (putL v=(O ++ ⟨#[B]⟩).data.toList ++ putF (m+1) (u / 128)):=Lib.hid (by rw [push_list,hp,putF_big c2,hB];simp)
   have HU2:Hid (u / 128 < 128 ^ (m+1)):=Lib.hid (Nat.div_lt_of_lt_mul (by rw [pow_s] at hu;exact hu))
   have hcv:=one_str wr B ((u:Int) % 128+128) (by rw [hB,big_nat];rfl)
   have ho2:O.size<=9:=by omega
   have HS:=Lib.hid (push_size O B)
   have hu64:u < 18446744073709551616:=Nat.lt_of_le_of_lt HUV.out HV.out
   clear hp hu hB
   go_wp2
   go_roundw
   case rel=>exact ⟨m,u / 128,_,HE.out,HU2.out,by omega,by rw [HS.out];omega,by go_num,Nat.le_trans (Nat.div_le_self _ _) HUV.out,rfl,HBW.out.alloc HBW.out.size _⟩
   case measure=>simp [intOf];omega
theorem refGet_ok {D:ByteArray} {x m:Nat} (w:World) (hs:D.size<=6000) (h:getL D.data.toList=(x,m,0)):Calls Tryz.prog 75 #[.string D] w (Ret (.tuple #[.int .u64 (x:Int),.int .i64 (m:Int),.int .i64 0]) w):=by
 have:=refGet_any D w hs
 rw [h] at this
 exact this
theorem refGet_form {D:ByteArray} (w:World) (hs:D.size<=6000) (h:getL D.data.toList=(0,0,3)):Calls Tryz.prog 75 #[.string D] w (Ret (.tuple #[.int .u64 0,.int .i64 0,.int .i64 3]) w):=by
 have:=refGet_any D w hs
 rw [h] at this
 exact this
theorem refGet_more {D:ByteArray} (w:World) (hs:D.size<=6000) (h:getL D.data.toList=(0,0,9)):Calls Tryz.prog 75 #[.string D] w (Ret (.tuple #[.int .u64 0,.int .i64 0,.int .i64 9]) w):=by
 have:=refGet_any D w hs
 rw [h] at this
 exact this
theorem zag_odd' {x:Nat} (h:((x:Int) % 2 == 0)=false) : -1 - ((x:Int) / 2)=zag x:=by
 have:(x:Int) % 2 ≠ 0:=by simpa using h
 unfold zag;rw [if_pos (by omega)];omega
theorem zag_even' {x:Nat} (h:((x:Int) % 2 == 0)=true):(x:Int) / 2=zag x:=by
 have:(x:Int) % 2=0:=by simpa using h
 unfold zag;rw [if_neg (by omega)];omega
theorem refGetInt_any (D:ByteArray) (w:World) (hs:D.size<=6000):Calls Tryz.prog 99 #[.string D] w (Ret (iv (geti D.data.toList)) w):=by
 rcases getL_kind D.data.toList with ⟨x,m,h⟩ | h | h
 ·have HI:=Lib.hid (geti_ok h)
  have hx:=(getL_only h).2.2.2.2
  have hm:=(getL_only h).2.1
  have HG:=Lib.hid (refGet_ok w hs h)
  clear h
  cases cc:((x:Int) % 2 == 0)
  ·have HZ:=Lib.hid (zag_odd' cc)
   go_enter Tryz.func99,Tryz.ntmps99
   go_wp2_with (go_at_call 75;((with_reducible refine (HG.out).mono ?_);rintro e w' ⟨rfl,rfl⟩))
   go_ret3
   exact ret_iv _ _ _ HI.out HZ.out rfl rfl
  ·have HZ:=Lib.hid (zag_even' cc)
   go_enter Tryz.func99,Tryz.ntmps99
   go_wp2_with (go_at_call 75;((with_reducible refine (HG.out).mono ?_);rintro e w' ⟨rfl,rfl⟩))
   go_ret3
   exact ret_iv _ _ _ HI.out HZ.out rfl rfl
 ·have HI:=Lib.hid (geti_bad h (by decide))
  have HG:=Lib.hid (refGet_form w hs h)
  clear h
  go_enter Tryz.func99,Tryz.ntmps99
  go_wp2_with (go_at_call 75;((with_reducible refine (HG.out).mono ?_);rintro e w' ⟨rfl,rfl⟩))
  go_ret3
  exact ret_iv _ _ _ HI.out rfl rfl rfl
 ·have HI:=Lib.hid (geti_bad h (by decide))
  have HG:=Lib.hid (refGet_more w hs h)
  clear h
  go_enter Tryz.func99,Tryz.ntmps99
  go_wp2_with (go_at_call 75;((with_reducible refine (HG.out).mono ?_);rintro e w' ⟨rfl,rfl⟩))
  go_ret3
  exact ret_iv _ _ _ HI.out rfl rfl rfl
theorem refGetText_any (D:ByteArray) (most:Int) (h0 : -9223372036854775808<=most) (h1:most<=9223372036854775807) (w:World) (hs:D.size<=6000):Calls Tryz.prog 77 #[.string D,.int .i64 most] w (Ret (tv (getT D most)) w):=by
 by_cases cm:most < 0\/1000000 < most
 ·have HI:=Lib.hid (getT_arg (D:=D) cm)
  rcases cm with cm | cm
  ·go_enter Tryz.func77,Tryz.ntmps77
   go_wp2
   go_ret3
   exact ret_tv _ _ _ HI.out rfl rfl rfl
  ·have cm2:0<=most:=by omega
   go_enter Tryz.func77,Tryz.ntmps77
   go_wp2
   go_ret3
   exact ret_tv _ _ _ HI.out rfl rfl rfl
 ·have HM:=Lib.hid cm
  have m0:0<=most:=by omega
  have m1:most<=1000000:=by omega
  clear cm
  rcases getL_kind D.data.toList with ⟨x,m,h⟩ | h | h
  ·obtain ⟨g1,g2,g3,g4,hx⟩:=getL_only h
   rw [bytes_len] at g3
   have HH:=Lib.hid h
   clear g4
   have HG:=Lib.hid (refGet_ok w hs h)
   clear h
   by_cases c2:most < x
   ·have HI:=Lib.hid (getT_limit HM.out HH.out c2)
    go_enter Tryz.func77,Tryz.ntmps77
    go_wp2_with (go_at_call 75;((with_reducible refine (HG.out).mono ?_);rintro e w' ⟨rfl,rfl⟩))
    go_ret3
    exact ret_tv _ _ _ HI.out rfl rfl rfl
   ·by_cases c3:D.size < m+x
    ·have HI:=Lib.hid (getT_more HM.out HH.out c2 c3)
     have c2':(x:Int)<=most:=by omega
     have c3':(D.size:Int) - m < x:=by omega
     have c4:(0:Int)<=(D.size:Int) - m:=by omega
     clear c2 c3
     go_enter Tryz.func77,Tryz.ntmps77
     go_wp2_with (go_at_call 75;((with_reducible refine (HG.out).mono ?_);rintro e w' ⟨rfl,rfl⟩))
     go_ret3
     exact ret_tv _ _ _ HI.out rfl rfl rfl
    ·have HI:=Lib.hid (getT_ok HM.out HH.out c2 c3)
     have c2':(x:Int)<=most:=by omega
     have c3':(x:Int)<=(D.size:Int) - m:=by omega
     have c4:(0:Int)<=(D.size:Int) - m:=by omega
     have c5:(m:Int)+x<=D.size:=by omega
     clear c2 c3
     go_enter Tryz.func77,Tryz.ntmps77
     go_wp2_with (go_at_call 75;((with_reducible refine (HG.out).mono ?_);rintro e w' ⟨rfl,rfl⟩))
     all_goals go_ret3
     all_goals exact ret_tv _ _ _ HI.out (by simp;done) (by simp;done) rfl
  ·have HI:=Lib.hid (getT_bad HM.out h (by decide))
   have HG:=Lib.hid (refGet_form w hs h)
   clear h
   go_enter Tryz.func77,Tryz.ntmps77
   go_wp2_with (go_at_call 75;((with_reducible refine (HG.out).mono ?_);rintro e w' ⟨rfl,rfl⟩))
   go_ret3
   exact ret_tv _ _ _ HI.out rfl rfl rfl
  ·have HI:=Lib.hid (getT_bad HM.out h (by decide))
   have HG:=Lib.hid (refGet_more w hs h)
   clear h
   go_enter Tryz.func77,Tryz.ntmps77
   go_wp2_with (go_at_call 75;((with_reducible refine (HG.out).mono ?_);rintro e w' ⟨rfl,rfl⟩))
   go_ret3
   exact ret_tv _ _ _ HI.out rfl rfl rfl
theorem refPut_at (x:Int) (v:Nat) (hx:x=v) (hv:v < 18446744073709551616) (w:World):Calls Tryz.prog 69 #[.int .u64 x] w (RetB (.string (putB v)) w):=by
 subst hx;exact refPut_any v hv w
def farS (n:Int):Int:=if n < 0 then -n else n
theorem farS1 {n:Int} (h:n < 0):farS n = -n:=if_pos h
theorem farS2 {n:Int} (h:¬ n < 0):farS n=n:=if_neg h
theorem ret_bi {b:Bool} {a c:Int} {w:World} (h:a=c):Ret (.tuple #[.bool b,.int .u64 c]) w (.returned (.tuple #[.bool b,.int .u64 a])) w:=by subst h;exact ⟨rfl,rfl⟩
theorem refOf_any (n:Int) (w:World) (h0 : -9223372036854775808<=n) (h1:n<=9223372036854775807):
  Calls Tryz.prog 70 #[.int .i64 n] w (Ret (.tuple #[.bool (decide (n < 0)),.int .u64 (farS n)]) w):=by
 by_cases c:n < 0
 ·rw [decide_eq_true c,farS1 c]
  by_cases c2:n = -9223372036854775808
  ·subst c2
   go_enter Tryz.func70,Tryz.ntmps70
   go_wp2
   go_ret2
   exact ret_bi rfl
  ·have q:(n == -9223372036854775808)=false:=by rw [beq_eq_false_iff_ne];exact c2
   have hlo : -9223372036854775807<=n:=by omega
   clear c2
   go_enter Tryz.func70,Tryz.ntmps70
   go_wp2
   go_ret2
   exact ret_bi (by first | rfl | (simp only [IntKind.wrap_u64];omega))
 ·rw [decide_eq_false c,farS2 c]
  go_enter Tryz.func70,Tryz.ntmps70
  go_wp2
  go_ret2
  exact ret_bi (by first | rfl | (simp only [IntKind.wrap_u64];omega))
theorem refPutInt_any (n:Int) (h0 : -9223372036854775808<=n) (h1:n<=9223372036854775807) (w:World):Calls Tryz.prog 42 #[.int .i64 n] w (RetB (.string (putB (zig n))) w):=by
 have HZ:=Lib.hid (zig_lt h0 h1)
 have HO:=Lib.hid (refOf_any n w h0 h1)
 by_cases c:n < 0
 ·rw [decide_eq_true c,farS1 c] at HO
  obtain ⟨f,hf⟩:∃ f:Int,f = -n:=⟨_,rfl⟩
  rw [<-hf] at HO
  have f0:1<=f:=by omega
  have f1:f<=9223372036854775808:=by omega
  have HE:Hid (2*(f - 1)+1=(zig n:Nat)):=Lib.hid (by unfold zig;rw [if_pos c];omega)
  clear hf c h0 h1
  go_enter Tryz.func42,Tryz.ntmps42
  go_wp2_with (go_at_call 70;((with_reducible refine (HO.out).mono ?_);rintro e w' ⟨rfl,rfl⟩))
  refine (refPut_at _ (zig n) ?_ HZ.out _).mono ?_
  ·exact HE.out
  rintro e w1 ⟨rfl,hb⟩
  have HB:=Lib.hid hb
  clear hb
  go_wp2
  go_ret
  exact ⟨rfl,HB.out⟩
 ·rw [decide_eq_false c,farS2 c] at HO
  have HE:=Lib.hid (zig_wrap2 n (by omega) h1)
  go_enter Tryz.func42,Tryz.ntmps42
  go_wp2_with (go_at_call 70;((with_reducible refine (HO.out).mono ?_);rintro e w' ⟨rfl,rfl⟩))
  refine (refPut_at _ (zig n) ?_ HZ.out _).mono ?_
  ·exact HE.out
  rintro e w1 ⟨rfl,hb⟩
  have HB:=Lib.hid hb
  clear hb
  go_wp2
  go_ret
  exact ⟨rfl,HB.out⟩
theorem text_cat (s:ByteArray):putB s.size ++ s=textB s:=bytes_ext (by rw [cat_list,putB_list,textB_list])
theorem refPutText_any (s:ByteArray) (hs:s.size<=6000) (w:World):Calls Tryz.prog 41 #[.string s] w (RetB (.string (textB s)) w):=by
 have HP:Hid (Calls Tryz.prog 69 #[.int .u64 s.size] w (RetB (.string (putB s.size)) w)):=Lib.hid (refPut_any _ (by omega) w)
 have HC:=Lib.hid (text_cat s)
 have hl:(putB s.size).size<=10:=by rw [putB_size];exact (putL_len (by omega)).2.1
 generalize putB s.size=X at*
 go_enter Tryz.func41,Tryz.ntmps41
 go_wp2_with fail
 refine HP.out.mono ?_
 rintro e w1 ⟨rfl,hb⟩
 have HB:=Lib.hid hb
 clear hb
 go_wp2
 go_ret
 exact ⟨by rw [<-HC.out];rfl,HB.out⟩
end Go.Proofs.YthkolmebokfagaaGreatDoor.Wi
namespace Go.Proofs.YthkolmebokfagaaGreatDoor
open Go.ChangeShapes Go.WideShapes Go.Deep Go.RowKit
theorem rNum_any (v:Nat) (hv:v < 9223372036854775808) (w:World):Calls Tryz.prog 40 #[.int .i64 (v:Int)] w (RetB (.string (Wi.putB v)) w):=by
 have HP:=Lib.hid (fun u=>Wi.refPut_any v (by omega) u)
 have hw:IntKind.u64.wrap (v:Int)=(v:Int):=by rw [IntKind.wrap_u64];omega
 have hvi:(v:Int) < 9223372036854775808:=by omega
 go_enter Tryz.func40,Tryz.ntmps40
 go_wp2_with fail
 try rw [hw]
 refine (HP.out _).mono ?_
 rintro e u ⟨rfl,hb⟩
 have HB:=Lib.hid hb
 clear hb
 go_wp2
 go_ret
 exact ⟨rfl,HB.out⟩
end Go.Proofs.YthkolmebokfagaaGreatDoor
namespace Go.Proofs.YthkolmebokfagaaGreatDoor
open Go.ChangeShapes Go.WideShapes Go.Deep Go.RowKit
theorem two_cellsZ {cs:Array Value} {c0 c1:Value} (hs:cs.size=2) (h0:cs[0]?=some c0) (h1:cs[1]?=some c1):cs=#[c0,c1]:=by
 refine Array.ext_getElem? fun j=>?_
 match j with
 | 0=>exact h0 | 1=>exact h1
 | j+2=>rw [Array.getElem?_eq_none (by omega),Array.getElem?_eq_none (by simp)]
structure Oz where
 a:Option Addr
 c:Nat
 L:List Ms
 a2:Option Addr
 c2:Nat
 l:List Sy
structure OxZ (W:World) (o:Oz):Prop where
 s1:SL msC 6 W W.heap.size o.a o.L.length o.L
 no:Notes W W.heap.size o.L
 s2:SL syC 4 W W.heap.size o.a2 o.l.length o.l
 gd:∀ m ∈ o.L,GoodSc m.sc
 gs:∀ s ∈ o.l,GoodSy s
 l1:o.L.length<=maxLen
 l2:o.l.length<=maxLen
 z0:∀ m ∈ o.L,m.ad=none->m.sc.rels.length=0/\m.cap=0
 z1:o.a=none->o.L.length=0/\o.c=0
 z2:o.a2=none->o.l.length=0/\o.c2=0
theorem objz_cells {H:Type} {encH:TypeId × Value->H} {W:World} {v0 v1:Value} {m:Nat} {y0 y1:DataW H × List MemPlace}
  (t0:DataW.trod encH Tryz.prog W 0 (fun _=>true) true m 22 [v0]=some y0) (t1:DataW.trod encH Tryz.prog W 0 (fun _=>true) true m 23 [v1]=some y1):
  ∃ o:Oz,OxZ W o/\v0=.slice o.a o.L.length o.c/\v1=.slice o.a2 o.l.length o.c2:=by
 obtain ⟨a,n,c,L,rfl,h2,h3,h4,h5,h6,-⟩:=open_SL3 (sz:=6) (enc:=msC) (fun m:Ms=>(GoodSc m.sc/\(m.ad=none->m.sc.rels.length=0/\m.cap=0))/\SL rlC 4 W W.heap.size m.ad m.sc.rels.length m.sc.rels) ⟨scZ,none,0⟩ Tryz.underlying22 Tryz.underlying57 (by kernel_rfl) (by kernel_rfl) rfl (by decide) ms_len (by
  intro cell m hc
  obtain ⟨u0,z0,g0,s0⟩:=hc 0 _ rfl
  obtain ⟨u1,z1,g1,s1⟩:=hc 1 _ rfl
  obtain ⟨u2,z2,g2,s2⟩:=hc 2 _ rfl
  obtain ⟨u3,z3,g3,s3⟩:=hc 3 _ rfl
  obtain ⟨u4,z4,g4,s4⟩:=hc 4 _ rfl
  obtain ⟨u5,z5,g5,s5⟩:=hc 5 _ rfl
  obtain ⟨x0,e0,-,w0⟩:=DataW.trod_string Tryz.underlying9 s0
  obtain ⟨x1,e1,-,w1⟩:=DataW.trod_int Tryz.underlying3 s1
  obtain ⟨x2,e2,-⟩:=DataW.trod_bool Tryz.underlying4 s2
  obtain ⟨x3,e3,-,w3⟩:=DataW.trod_int Tryz.underlying3 s3
  obtain ⟨x4,e4,-,w4⟩:=DataW.trod_string Tryz.underlying9 s4
  simp only [List.cons.injEq,and_true] at e0 e1 e2 e3 e4
  subst e0 e1 e2 e3 e4
  obtain ⟨ra,rn,rc,rl,rfl,r2,r3,r4,r5,r6,-⟩:=open_SL3 (sz:=4) (enc:=rlC) GoodRl ⟨0,0,0,0⟩ Tryz.underlying55 Tryz.underlying82 (by kernel_rfl) (by kernel_rfl) rfl (by decide) rl_len (by
   intro cell m hc
   obtain ⟨u0,z0,g0,s0⟩:=hc 0 _ rfl
   obtain ⟨u1,z1,g1,s1⟩:=hc 1 _ rfl
   obtain ⟨u2,z2,g2,s2⟩:=hc 2 _ rfl
   obtain ⟨u3,z3,g3,s3⟩:=hc 3 _ rfl
   obtain ⟨k0,e0,-,w0⟩:=DataW.trod_int Tryz.underlying3 s0
   obtain ⟨k1,e1,-,w1⟩:=DataW.trod_int Tryz.underlying3 s1
   obtain ⟨k2,e2,-,w2⟩:=DataW.trod_int Tryz.underlying3 s2
   obtain ⟨k3,e3,-,w3⟩:=DataW.trod_int Tryz.underlying3 s3
   simp only [List.cons.injEq,and_true] at e0 e1 e2 e3
   subst e0 e1 e2 e3
   refine ⟨⟨k0,k1,k2,k3⟩,⟨bounds_i64 w0,bounds_i64 w1,bounds_i64 w2,bounds_i64 w3⟩,fun j hj=>?_⟩
   match j,hj with
   | 0,_=>exact g0
   | 1,_=>exact g1
   | 2,_=>exact g2
   | 3,_=>rw [show (rlC ⟨k0,k1,k2,k3⟩)[3]?=some (.int .i64 k3) from rfl];exact g3) s5
  have hrl:=r4.len
  subst hrl
  refine ⟨⟨⟨x0.data.toList,x1,x2,x3,x4.data.toList,rl⟩,ra,rc⟩,⟨⟨⟨?_,bounds_i64 w1,bounds_i64 w3,?_,r3⟩,r5⟩,r4⟩,fun j hj=>?_⟩
  ·show x0.data.toList.length<=maxLen
   rw [Array.length_toList];exact w0
  ·show x4.data.toList.length<=maxLen
   rw [Array.length_toList];exact w4
  match j,hj with
  | 0,_=>exact g0
  | 1,_=>exact g1
  | 2,_=>exact g2
  | 3,_=>exact g3
  | 4,_=>exact g4
  | 5,_=>exact g5) t0
 obtain ⟨a2,n2,c2,l,rfl,k2,k3,k4,k5,k6,-⟩:=open_SL3 (sz:=4) (enc:=syC) GoodSy ⟨[],0,0,0⟩ Tryz.underlying23 Tryz.underlying66 (by kernel_rfl) (by kernel_rfl) rfl (by decide) sy_len (by
  intro cell m hc
  obtain ⟨u0,z0,g0,s0⟩:=hc 0 _ rfl
  obtain ⟨u1,z1,g1,s1⟩:=hc 1 _ rfl
  obtain ⟨u2,z2,g2,s2⟩:=hc 2 _ rfl
  obtain ⟨u3,z3,g3,s3⟩:=hc 3 _ rfl
  obtain ⟨x0,e0,-,w0⟩:=DataW.trod_string Tryz.underlying9 s0
  obtain ⟨x1,e1,-,w1⟩:=DataW.trod_int Tryz.underlying3 s1
  obtain ⟨x2,e2,-,w2⟩:=DataW.trod_int Tryz.underlying3 s2
  obtain ⟨x3,e3,-,w3⟩:=DataW.trod_int Tryz.underlying3 s3
  simp only [List.cons.injEq,and_true] at e0 e1 e2 e3
  subst e0 e1 e2 e3
  refine ⟨⟨x0.data.toList,x1,x2,x3⟩,⟨?_,bounds_i64 w1,bounds_i64 w2,bounds_i64 w3⟩,fun j hj=>?_⟩
  ·show x0.data.toList.length<=maxLen
   rw [Array.length_toList];exact w0
  match j,hj with
  | 0,_=>exact g0
  | 1,_=>exact g1
  | 2,_=>exact g2
  | 3,_=>exact g3) t1
 have e1:=h4.len
 have e2:=k4.len
 subst e1 e2
 exact ⟨⟨a,c,L,a2,c2,l⟩,⟨h4,fun m hm=>(h3 m hm).2,k4,fun m hm=>(h3 m hm).1.1,k3,h2,k2,fun m hm=>(h3 m hm).1.2,h5,k5⟩,rfl,rfl⟩
theorem open_ObjZ {H:Type} {encH:TypeId × Value->H} {W:World} {base:Nat} {v:Value} {d:DataW H} {p:List MemPlace}
  (hv:Value.okWide Tryz.prog W .any base 25 v) (h:DataW.Trod encH Tryz.prog W 0 (fun _=>true) true 25 v d p):
  ∃ o:Oz,v=.agg #[.slice o.a o.L.length o.c,.slice o.a2 o.l.length o.c2]/\OxZ W o:=by
 obtain ⟨cs,m,rfl,hs,hf⟩:=open_cells Tryz.underlying25 (by kernel_rfl) (by kernel_rfl) hv h
 obtain ⟨v0,y0,c0,t0⟩:=hf 0 _ rfl
 obtain ⟨v1,y1,c1,t1⟩:=hf 1 _ rfl
 obtain ⟨o,ho,rfl,rfl⟩:=objz_cells t0 t1
 exact ⟨o,by rw [two_cellsZ hs c0 c1],ho⟩
end Go.Proofs.YthkolmebokfagaaGreatDoor
namespace Go.Proofs.YthkolmebokfagaaGreatDoor
open Go.ChangeShapes Go.WideShapes Go.Deep Go.RowKit
theorem zeroSecZ (w:World):(zeroValue 57).run Tryz.prog w=.ok (.agg #[.string ⟨#[]⟩,.int .i64 0,.bool false,.int .i64 0,.string ⟨#[]⟩,.slice none 0 0]) w:=by kernel_rfl
theorem info_relZ:(Tryz.prog.info? 82).map (fun i=>(i.zero,i.size,i.bytes))=some (some (.agg #[.int .i64 0,.int .i64 0,.int .i64 0,.int .i64 0]),4,32):=by kernel_rfl
def OwnSP (N:ByteArray) (ki:Int) (kp:Bool) (al:Int) (D:ByteArray) (rels:List Rl) (w:World) (e:Ending) (w':World):Prop:=
 ∃ a c,e=.returned (.agg #[.string N,.int .i64 ki,.bool kp,.int .i64 al,.string D,.slice a rels.length c])/\w'.ownsRow w.heap.size 82 4 (.slice a rels.length c) rels.length (rels.flatMap rlC)/\(a=none->rels.length=0/\c=0)/\Below w.heap.size w w'
theorem ownsZ_set {w:World} {base:Nat} {e:TypeId} {size:Nat} {v:Value} {n:Nat} {xs:List Value} {X o:Nat} {y:Value} (h:w.ownsRow base e size v n xs) (hX:X < base):(w.setCell ⟨X,o,none⟩ y).ownsRow base e size v n xs:=
 ownsRow_setCell_below h (a:=⟨X,o,none⟩) hX y
theorem ownsZ_low {w:World} {B B' e sz n:Nat} {v:Value} {xs:List Value} (h:w.ownsRow B e sz v n xs) (hB:B'<=B):w.ownsRow B' e sz v n xs:=by
 refine ⟨h.1,?_⟩
 rcases h.2 with hn | ⟨g,cap,cur,rfl,hbg,rest⟩
 ·exact .inl hn
 ·exact .inr ⟨g,cap,cur,rfl,Nat.le_trans hB hbg,rest⟩
theorem rOwnS_any (N:ByteArray) (ki:Int) (kp:Bool) (al:Int) (D:ByteArray) (ad:Option Addr) (n cp:Nat) (rels:List Rl) (w:World) (hs:SL rlC 4 w w.heap.size ad n rels) (hz:ad=none->n=0/\cp=0) (hn:n<=100):
  Calls Tryz.prog 32 #[.agg #[.string N,.int .i64 ki,.bool kp,.int .i64 al,.string D,.slice ad n cp]] w (OwnSP N ki kp al D rels w):=by
 obtain ⟨i0,hi,hz0,hz1,hz2⟩:=info_parts info_relZ
 have hzs:=zeroSecZ
 have HS:=Lib.hid hs
 have HLn:=Lib.hid hs.len
 have HZ:=Lib.hid hz
 have m1:0+n<=maxLen:=by unfold maxLen;omega
 have m2:(0+n)*32<=140737488355328:=by omega
 obtain ⟨X,hX⟩:∃ X,X=w.heap.size:=⟨_,rfl⟩
 have HX:=Lib.hid hX
 clear hs hz hn
 have HB3:Hid (Below w.heap.size w (((w.alloc (.cells #[.string N,.int .i64 ki,.bool kp,.int .i64 al,.string D,.slice ad n cp] 57)).alloc (.cells #[.string ⟨#[]⟩,.int .i64 0,.bool false,.int .i64 0,.string ⟨#[]⟩,.slice none 0 0] 57)).alloc (.cells #[.string N,.int .i64 ki,.bool kp,.int .i64 al,.string D,.slice none 0 0] 57))):=Lib.hid (after (after (lit_below _ _) (lit_below _ _)) (lit_below _ _))
 have HS3:=Lib.hid (HS.out.next HB3.out)
 have HR2:Hid (RB (((w.alloc (.cells #[.string N,.int .i64 ki,.bool kp,.int .i64 al,.string D,.slice ad n cp] 57)).alloc (.cells #[.string ⟨#[]⟩,.int .i64 0,.bool false,.int .i64 0,.string ⟨#[]⟩,.slice none 0 0] 57)).alloc (.cells #[.string N,.int .i64 ki,.bool kp,.int .i64 al,.string D,.slice none 0 0] 57)) (w.heap.size+1) #[.string ⟨#[]⟩,.int .i64 0,.bool false,.int .i64 0,.string ⟨#[]⟩,.slice none 0 0] 57):=Lib.hid (by
  have h:=(rb_new (w.alloc (.cells #[.string N,.int .i64 ki,.bool kp,.int .i64 al,.string D,.slice ad n cp] 57)) #[.string ⟨#[]⟩,.int .i64 0,.bool false,.int .i64 0,.string ⟨#[]⟩,.slice none 0 0] 57).next (lit_below _ (.cells #[.string N,.int .i64 ki,.bool kp,.int .i64 al,.string D,.slice none 0 0] 57))
  rw [World.size_alloc] at h;exact h)
 have HR3:Hid (RB (((w.alloc (.cells #[.string N,.int .i64 ki,.bool kp,.int .i64 al,.string D,.slice ad n cp] 57)).alloc (.cells #[.string ⟨#[]⟩,.int .i64 0,.bool false,.int .i64 0,.string ⟨#[]⟩,.slice none 0 0] 57)).alloc (.cells #[.string N,.int .i64 ki,.bool kp,.int .i64 al,.string D,.slice none 0 0] 57)) (w.heap.size+1+1) #[.string N,.int .i64 ki,.bool kp,.int .i64 al,.string D,.slice none 0 0] 57):=Lib.hid (by
  have h:=rb_new ((w.alloc (.cells #[.string N,.int .i64 ki,.bool kp,.int .i64 al,.string D,.slice ad n cp] 57)).alloc (.cells #[.string ⟨#[]⟩,.int .i64 0,.bool false,.int .i64 0,.string ⟨#[]⟩,.slice none 0 0] 57)) #[.string N,.int .i64 ki,.bool kp,.int .i64 al,.string D,.slice none 0 0] 57
  rw [World.size_alloc,World.size_alloc] at h;exact h)
 go_enter Tryz.func32,Tryz.ntmps32
 go_wp2_with (at_builtin;refine append_SL rfl _ _ 55 rfl (w.heap.size+1+1+1) 82 i0 (.agg #[.int .i64 0,.int .i64 0,.int .i64 0,.int .i64 0]) 32 Tryz.underlying55 hi hz0 hz1 hz2 rfl (by decide) rl_len rl_one _ 0 [] rfl (World.ownsRow_nil _ _ _ _) ad n cp rels rfl HS3.out HZ.out m1 m2 (by simp [World.size_alloc]) ?_;intro v1 w4 hown1 hbl1 hgr1;obtain ⟨za,zc,rfl,-,hzn⟩:=SL.ofOwns rl_len (by decide) hown1;have hR2:RB w4 (w.heap.size+1) #[.string ⟨#[]⟩,.int .i64 0,.bool false,.int .i64 0,.string ⟨#[]⟩,.slice none 0 0] 57:=(hbl1.block _ (by omega)).trans HR2.out;have hR3:RB w4 (w.heap.size+1+1) #[.string N,.int .i64 ki,.bool kp,.int .i64 al,.string D,.slice none 0 0] 57:=(hbl1.block _ (by omega)).trans HR3.out;have c20:w4.cell? ⟨w.heap.size+1,0,none⟩=some (.string ⟨#[]⟩):=hR2.cell;have f20:w4.frozen? ⟨w.heap.size+1,0,none⟩=false:=hR2.frozen;have c30:w4.cell? ⟨w.heap.size+1+1,0,none⟩=some (.string N):=hR3.cell;have c21:w4.cell? ⟨w.heap.size+1,1,none⟩=some (.int .i64 0):=hR2.cell;have f21:w4.frozen? ⟨w.heap.size+1,1,none⟩=false:=hR2.frozen;have c31:w4.cell? ⟨w.heap.size+1+1,1,none⟩=some (.int .i64 ki):=hR3.cell;have c22:w4.cell? ⟨w.heap.size+1,2,none⟩=some (.bool false):=hR2.cell;have f22:w4.frozen? ⟨w.heap.size+1,2,none⟩=false:=hR2.frozen;have c32:w4.cell? ⟨w.heap.size+1+1,2,none⟩=some (.bool kp):=hR3.cell;have c23:w4.cell? ⟨w.heap.size+1,3,none⟩=some (.int .i64 0):=hR2.cell;have f23:w4.frozen? ⟨w.heap.size+1,3,none⟩=false:=hR2.frozen;have c33:w4.cell? ⟨w.heap.size+1+1,3,none⟩=some (.int .i64 al):=hR3.cell;have c24:w4.cell? ⟨w.heap.size+1,4,none⟩=some (.string ⟨#[]⟩):=hR2.cell;have f24:w4.frozen? ⟨w.heap.size+1,4,none⟩=false:=hR2.frozen;have c34:w4.cell? ⟨w.heap.size+1+1,4,none⟩=some (.string D):=hR3.cell;have c25:w4.cell? ⟨w.heap.size+1,5,none⟩=some (.slice none 0 0):=hR2.cell;have f25:w4.frozen? ⟨w.heap.size+1,5,none⟩=false:=hR2.frozen;have c35:w4.cell? ⟨w.heap.size+1+1,5,none⟩=some (.slice none 0 0):=hR3.cell;have f35:w4.frozen? ⟨w.heap.size+1+1,5,none⟩=false:=hR3.frozen)
 rw [Nat.zero_add,List.nil_append] at hown1
 rw [Nat.zero_add] at hzn
 have hb4:Below w.heap.size w w4:=by
  refine after HB3.out ?_
  rw [World.size_alloc,World.size_alloc,World.size_alloc]
  exact hbl1
 have hR2a:RB (w4.setCell ⟨w.heap.size+1+1,5,none⟩ (.slice za n zc)) (w.heap.size+1) #[.string ⟨#[]⟩,.int .i64 0,.bool false,.int .i64 0,.string ⟨#[]⟩,.slice none 0 0] 57:=(Below.heap_setCell _ _ _ _ (by show w.heap.size+1 ≠ w.heap.size+1+1;omega)).trans hR2
 have HR9:=Lib.hid (RB.set (j:=5) (RB.set (j:=4) (RB.set (j:=3) (RB.set (j:=2) (RB.set (j:=1) (RB.set (j:=0) (hR2a) (.string N)) (.int .i64 ki)) (.bool kp)) (.int .i64 al)) (.string D)) (.slice za n zc))
 have HO9:=Lib.hid (ownsZ_set (X:=w.heap.size+1) (o:=5) (y:=.slice za n zc) (ownsZ_set (X:=w.heap.size+1) (o:=4) (y:=.string D) (ownsZ_set (X:=w.heap.size+1) (o:=3) (y:=.int .i64 al) (ownsZ_set (X:=w.heap.size+1) (o:=2) (y:=.bool kp) (ownsZ_set (X:=w.heap.size+1) (o:=1) (y:=.int .i64 ki) (ownsZ_set (X:=w.heap.size+1) (o:=0) (y:=.string N) (ownsZ_set (X:=w.heap.size+1+1) (o:=5) (y:=.slice za n zc) hown1 (by omega)) (by omega)) (by omega)) (by omega)) (by omega)) (by omega)) (by omega))
 have HB9:=Lib.hid (Below.setCell (p:=⟨w.heap.size+1,5,none⟩) (Below.setCell (p:=⟨w.heap.size+1,4,none⟩) (Below.setCell (p:=⟨w.heap.size+1,3,none⟩) (Below.setCell (p:=⟨w.heap.size+1,2,none⟩) (Below.setCell (p:=⟨w.heap.size+1,1,none⟩) (Below.setCell (p:=⟨w.heap.size+1,0,none⟩) (hb4.setCell (p:=⟨w.heap.size+1+1,5,none⟩) (by show w.heap.size<=w.heap.size+1+1;omega) (.slice za n zc)) (by show w.heap.size<=w.heap.size+1;omega) (.string N)) (by show w.heap.size<=w.heap.size+1;omega) (.int .i64 ki)) (by show w.heap.size<=w.heap.size+1;omega) (.bool kp)) (by show w.heap.size<=w.heap.size+1;omega) (.int .i64 al)) (by show w.heap.size<=w.heap.size+1;omega) (.string D)) (by show w.heap.size<=w.heap.size+1;omega) (.slice za n zc))
 refine bodyPost_ret (results_cell_row (P:=Tryz.prog) rfl _ _ (w.heap.size+1) 57 _ (0,0) _ rfl HR9.out Tryz.underlying57 rfl (by kernel_rfl)) rfl ?_
 exact ⟨za,zc,by rw [<-HLn.out];rfl,by rw [<-HLn.out];exact ownsZ_low HO9.out (by omega),by rw [<-HLn.out];exact hzn,HB9.out⟩
end Go.Proofs.YthkolmebokfagaaGreatDoor
namespace Go.Proofs.YthkolmebokfagaaGreatDoor
open Go.Deep Go.RowKit
section
variable {P:Program} {ops:Array Oper} {Q:Exit->Act->World->Prop} {md:Region.Mode} {S:World->Prop} {o:Oper} {fuel:Nat} {listed:Array Bool} {a:Act} {w:World}
theorem tk (i:Nat) (v:Value) (hi:ops[i]?=some o) (hS:S w) (hy:∀ w,S w->(execOp a.eval o).run P w=.ok (.value v) w) (h:wpAnyH P md ops Q S fuel (listed.setIfInBounds i true) (a.put o.dst v) w)
  (hw:Region.wanted o (yielded ops a.tmps)=true:=by kernel_rfl) (hs:Region.noSelect ops=true:=by kernel_rfl) (hf:Region.free md ops listed i=true:=by kernel_rfl) (hr:(Region.ready md ops listed).contains i=true:=by kernel_rfl)
  (hQ:∀ c a w,Q (.panic c) (a.put o.dst v) w->Q (.panic c) a w:=by exact fun _ _ _ h=>h):wpAnyH P md ops Q S (fuel+1) listed a w:=
 wpAnyH_take hi hs hf hr hQ (Or.inl ⟨hw,hy⟩) hS h
theorem sk (i:Nat) (hi:ops[i]?=some o) (hS:S w) (h:wpAnyH P md ops Q S fuel (listed.setIfInBounds i true) (a.put o.dst undef) w)
  (hw:Region.wanted o (yielded ops a.tmps)=false:=by kernel_rfl) (hs:Region.noSelect ops=true:=by kernel_rfl) (hf:Region.free md ops listed i=true:=by kernel_rfl) (hr:(Region.ready md ops listed).contains i=true:=by kernel_rfl)
  (hQ:∀ c a w,Q (.panic c) (a.put o.dst undef) w->Q (.panic c) a w:=by exact fun _ _ _ h=>h):wpAnyH P md ops Q S (fuel+1) listed a w:=
 wpAnyH_take hi hs hf hr hQ (Or.inr ⟨hw,rfl⟩) hS h
theorem rd (i:Nat) (ho:ops[i]?=some o) (h:∀ K':Act->World->Prop,Shut (∀ a w,S w->(S w->wpAnyH P md ops Q S fuel (listed.setIfInBounds i true) a w)->K' a w)->if Region.wanted o (yielded ops a.tmps)=true then Oper.wp P o a w K' Q else K' (a.put o.dst undef) w)
  (hr:Region.ready md ops listed=[i]:=by kernel_rfl):wpAnyH P md ops Q S (fuel+1) listed a w:=
 wpAnyH_ready hr (by simp) (AllReadyH.cons ho h AllReadyH.nil)
end
end Go.Proofs.YthkolmebokfagaaGreatDoor
namespace Go.Proofs.YthkolmebokfagaaGreatDoor
open Go.ChangeShapes Go.WideShapes Go.Deep Go.RowKit
theorem ownsZ_next {w w':World} {base:Nat} {e:TypeId} {size:Nat} {v:Value} {n:Nat} {xs:List Value} (h:w.ownsRow base e size v n xs) (hb:Below w.heap.size w w'):w'.ownsRow base e size v n xs:=by
 refine ⟨h.1,?_⟩
 rcases h.2 with hn | ⟨g,cap,cur,rfl,hbg,hgg,rest⟩
 ·exact .inl hn
 ·exact .inr ⟨g,cap,cur,rfl,hbg,(hb.block g (lt_of_block hgg)).trans hgg,rest⟩
theorem ownsZ_same {w w':World} {base:Nat} {e:TypeId} {size:Nat} {v:Value} {n:Nat} {xs:List Value} (h:w.ownsRow base e size v n xs) (hk:∀ g,v.ownBlock=some g->w'.heap[g]?=w.heap[g]?):w'.ownsRow base e size v n xs:=by
 refine ⟨h.1,?_⟩
 rcases h.2 with hn | ⟨g,cap,cur,rfl,hbg,hgg,rest⟩
 ·exact .inl hn
 ·exact .inr ⟨g,cap,cur,rfl,hbg,(hk g rfl).trans hgg,rest⟩
theorem ownsZ_apart {u:World} {B B' e e' sz sz' n n':Nat} {v v':Value} {xs xs':List Value} (h:u.ownsRow B e sz v n xs) (h':u.ownsRow B' e' sz' v' n' xs') (he:e ≠ e'):v.ownBlock=none\/v.ownBlock ≠ v'.ownBlock:=by
 rcases h.2 with ⟨hv,-⟩ | ⟨g,cap,cur,hv,hb,hg,-⟩
 ·subst hv;exact .inl rfl
 ·right
  rcases h'.2 with ⟨hv',-⟩ | ⟨g',cap',cur',hv',hb',hg',-⟩
  ·subst hv;subst hv';intro e;cases e
  ·subst hv;subst hv'
   intro e
   simp only [Value.ownBlock,Option.some.injEq] at e
   subst e
   rw [hg] at hg'
   simp only [Option.some.injEq,Obj.cells.injEq] at hg'
   exact he hg'.2.1
abbrev OwnZ (u:World) (B:Nat) (m:Ms):Prop:=u.ownsRow B 82 4 (.slice m.ad m.sc.rels.length m.cap) m.sc.rels.length (m.sc.rels.flatMap rlC)
structure UO (wt u:World) (L:List Ms) (a:Option Addr) (c:Nat):Prop where
 xx:RB u wt.heap.size #[.slice a L.length c,.slice none 0 0] 25
 oo:u.ownsRow (wt.heap.size+1) 57 6 (.slice a L.length c) L.length (L.flatMap msC)
 nn:∀ m ∈ L,OwnZ u (wt.heap.size+1) m
 kk:Below wt.heap.size wt u
theorem UO.mk0 (wt:World):UO wt (wt.alloc (.cells #[.slice none 0 0,.slice none 0 0] 25)) [] none 0:=
 ⟨rb_new _ _ _,World.ownsRow_nil _ _ _ _,(fun m hm=>by cases hm),lit_below _ _⟩
theorem UO.next {wt u v:World} {L:List Ms} {a:Option Addr} {c:Nat} (h:UO wt u L a c) (hb:Below u.heap.size u v):UO wt v L a c:=
 ⟨h.xx.next hb,ownsZ_next h.oo hb,fun m hm=>ownsZ_next (h.nn m hm) hb,after h.kk hb⟩
theorem UO.push {wt u w2:World} {L:List Ms} {a a':Option Addr} {c c':Nat} {m:Ms} {C:Array Value} {T:TypeId} (h:UO wt u L a c) (hm:OwnZ u (wt.heap.size+1) m)
  (hown:w2.ownsRow (wt.heap.size+1) 57 6 (.slice a' (L.length+1) c') (L.length+1) (L.flatMap msC ++ msC m)) (hgrow:(u.alloc (.cells C T)).grownBy w2 (Value.slice a L.length c).ownBlock):
  UO wt (w2.setCell ⟨wt.heap.size,0,none⟩ (.slice a' (L.length+1) c')) (L ++ [m]) a' c':=by
 have hx:wt.heap.size < u.heap.size:=lt_of_block h.xx
 have hne:some wt.heap.size ≠ (Value.slice a L.length c).ownBlock:=fun e=>by have:=(h.oo.lt wt.heap.size e.symm).1;omega
 have h2:RB w2 wt.heap.size #[.slice a L.length c,.slice none 0 0] 25:=
  (hgrow.block _ (by rw [World.size_alloc];omega) hne).trans (h.xx.next (lit_below _ _))
 have key:∀ x:Ms,OwnZ u (wt.heap.size+1) x->OwnZ (w2.setCell ⟨wt.heap.size,0,none⟩ (.slice a' (L.length+1) c')) (wt.heap.size+1) x:=by
  intro x hx'
  refine ownsZ_set (ownsZ_same (World.ownsRow.alloc hx' (.cells C T)) (fun g hg=>?_)) (by omega)
  have hl:=hx'.lt g hg
  refine hgrow.block g (by rw [World.size_alloc];omega) (fun e=>?_)
  rcases ownsZ_apart hx' h.oo (by decide) with h1 | h1
  ·rw [h1] at hg;cases hg
  ·rw [<-e] at h1;exact h1 hg
 refine ⟨?_,?_,fun x hxm=>?_,?_⟩
 ·have:=h2.set (j:=0) (.slice a' (L.length+1) c')
  rw [List.length_append]
  exact this
 ·have:=ownsZ_set (X:=wt.heap.size) (o:=0) (y:=.slice a' (L.length+1) c') hown (by omega)
  simpa [List.flatMap_append] using this
 ·rcases List.mem_append.1 hxm with h3 | h3
  ·exact key x (h.nn x h3)
  ·rw [List.mem_singleton.1 h3];exact key m hm
 ·have hk:Below wt.heap.size wt w2:=(h.kk.alloc h.kk.size _).grown hgrow (by have:=h.kk.size;rw [World.size_alloc];omega) (fun j hj=>by have:=(h.oo.lt j hj).1;omega)
  exact hk.setCell (p:=⟨wt.heap.size,0,none⟩) (Nat.le_refl _) _
end Go.Proofs.YthkolmebokfagaaGreatDoor
namespace Go.Proofs.YthkolmebokfagaaGreatDoor
open Go.ChangeShapes Go.WideShapes Go.Deep Go.RowKit
theorem zeroObjZ (w:World):(zeroValue 25).run Tryz.prog w=.ok (.agg #[.slice none 0 0,.slice none 0 0]) w:=by kernel_rfl
theorem info_secZ:(Tryz.prog.info? 57).map (fun i=>(i.zero,i.size,i.bytes))=some (some (.agg #[.string ⟨#[]⟩,.int .i64 0,.bool false,.int .i64 0,.string ⟨#[]⟩,.slice none 0 0]),6,80):=by kernel_rfl
theorem info_symZ:(Tryz.prog.info? 66).map (fun i=>(i.zero,i.size,i.bytes))=some (some (.agg #[.string ⟨#[]⟩,.int .i64 0,.int .i64 0,.int .i64 0]),4,40):=by kernel_rfl
theorem keepZ {w v:World} {p:Addr} {x:Value} (hb:Below w.heap.size w v) (h:w.cell? p=some x):v.cell? p=some x:=(World.cell?_of_block (hb.block _ (World.block_lt_of_cell? w p h))).trans h
theorem ms_onesZ (m:Ms):∀ u ∈ msC m,u.oneCell'=true:=by
 intro u hu
 simp only [msC,List.mem_cons,List.not_mem_nil,or_false] at hu
 rcases hu with rfl | rfl | rfl | rfl | rfl | rfl <;> rfl
theorem sy_onesZ (y:Sy):∀ u ∈ syC y,u.oneCell'=true:=by
 intro u hu
 simp only [syC,List.mem_cons,List.not_mem_nil,or_false] at hu
 rcases hu with rfl | rfl | rfl | rfl <;> rfl
def OwnOP (o:Oz) (w:World) (e:Ending) (w':World):Prop:=∃ o':Oz,e=.returned (.agg #[.slice o'.a o'.L.length o'.c,.slice o'.a2 o'.l.length o'.c2])/\OxZ w' o'/\o'.L.map (·.sc)=o.L.map (·.sc)/\o'.l=o.l/\Below w.heap.size w w'
theorem rOwn_any (o:Oz) (w:World) (h:OxZ w o) (hL:o.L.length<=100) (hl:o.l.length<=200) (hr:∀ m ∈ o.L,m.sc.rels.length<=100):
  Calls Tryz.prog 7 #[.agg #[.slice o.a o.L.length o.c,.slice o.a2 o.l.length o.c2]] w (OwnOP o w):=by
 obtain ⟨a,c,L,a2,c2,l⟩:=o
 simp only [] at hL hl hr ⊢
 obtain ⟨i0,hi,hz0,hz1,hz2⟩:=info_parts info_secZ
 have hzo:=zeroObjZ
 have HX:=Lib.hid h
 have HRl:=Lib.hid hr
 have HL:=Lib.hid hL
 have Hl:=Lib.hid hl
 obtain ⟨n,hn⟩:∃ n,n=L.length:=⟨_,rfl⟩
 obtain ⟨n2,hn2⟩:∃ n2,n2=l.length:=⟨_,rfl⟩
 have HN:=Lib.hid hn
 have HN2:=Lib.hid hn2
 rw [<-hn,<-hn2]
 have hni:(n:Int)<=100:=by omega
 obtain ⟨X1,hX1⟩:∃ X,X=w.heap.size:=⟨_,rfl⟩
 obtain ⟨wt,hwt⟩:∃ x,x=(w.alloc (.cells #[.slice a n c,.slice a2 n2 c2] 25)).alloc (.cells #[.slice none 0 0,.slice none 0 0] 25):=⟨_,rfl⟩
 have hbt:Below w.heap.size w wt:=by rw [hwt];exact after (lit_below _ _) (lit_below _ _)
 have HBt:=Lib.hid hbt
 have HB1:Hid (RB wt X1 #[.slice a n c,.slice a2 n2 c2] 25):=Lib.hid (by rw [hwt,hX1];exact (rb_new _ _ _).next (lit_below _ _))
 have HB2:Hid (RB wt (X1+1) #[.slice none 0 0,.slice none 0 0] 25):=Lib.hid (by
  have h:=rb_new (w.alloc (.cells #[.slice a n c,.slice a2 n2 c2] 25)) #[.slice none 0 0,.slice none 0 0] 25
  rw [World.size_alloc,<-hX1,<-hwt] at h;exact h)
 have HTs:Hid (X1+1+1=wt.heap.size):=Lib.hid (by rw [hwt,World.size_alloc,World.size_alloc,<-hX1])
 have HWt:=Lib.hid hwt.symm
 have HXe:=Lib.hid hX1.symm
 have HU0:=Lib.hid (UO.mk0 wt)
 clear h hr hL hl hn hn2 hwt hX1 hbt
 go_enter Tryz.func7,Tryz.ntmps7
 go_wp2_with fail
 rw [HWt.out,HXe.out,HTs.out]
 go_loopw [4] (fun i wr=>∃ (k:Nat) (wx:World) (Lo:List Ms) (oa:Option Addr) (oc:Nat),wx=wr/\k<=n/\i=.int .i64 k/\Hid (k=Lo.length)/\Hid (UO wt wx Lo oa oc)/\Hid (Lo.map (·.sc)=(L.take k).map (·.sc))/\Hid (∀ m ∈ Lo,m.ad=none->m.sc.rels.length=0/\m.cap=0)) (fun i _=>n - (intOf i).toNat)
 case atStart=>exact ⟨0,_,[],none,0,rfl,by omega,rfl,Lib.hid rfl,HU0,Lib.hid rfl,Lib.hid (fun m hm=>by cases hm)⟩
 case round=>
  clear HU0
  obtain ⟨k,wx,Lo,oa,oc,rfl,hk,rfl,HKq,HU,HSc,HNz⟩:=hrel
  have x0:wx.cell? ⟨X1,0,none⟩=some (.slice a n c):=(HB1.out.next HU.out.kk).cell
  by_cases hlt:k < n
  ·have hlti:(k:Int) < (n:Int):=by omega
   have HLt:=Lib.hid hlt
   have hkl:k < L.length:=by rw [<-HN.out];exact hlt
   obtain ⟨bb,off,hae,hbw,hcc⟩:=HX.out.s1.cells (by intro e;simp only [] at e;rw [e] at hkl;simp at hkl)
   simp only [] at hae hcc
   subst hae
   have hBx:=after HBt.out HU.out.kk
   obtain ⟨d0,d1,d2,d3,d4,d5⟩:=ms_cells (fun j hj=>hcc k hkl j hj)
   have HMm:Hid (L[k] ∈ L):=Lib.hid (List.getElem_mem hkl)
   have HMk:Hid (L[k]?=some L[k]):=Lib.hid (List.getElem?_eq_getElem hkl)
   have hno:=HX.out.no L[k] (List.getElem_mem hkl)
   have hz0':=HX.out.z0 L[k] (List.getElem_mem hkl)
   have hr100:=HRl.out L[k] (List.getElem_mem hkl)
   generalize L[k]=m at d0 d1 d2 d3 d4 d5 HMm HMk hno hz0' hr100
   obtain ⟨⟨nm,ki,kp,al,dt,rels⟩,ra0,rc0⟩:=m
   simp only [] at d0 d1 d2 d3 d4 d5 hno hz0' hr100
   obtain ⟨nr,hnr⟩:∃ nr,nr=rels.length:=⟨_,rfl⟩
   rw [<-hnr] at d5 hno hz0' hr100
   have HNR:=Lib.hid hnr
   have HBw:Hid (bb < wt.heap.size/\X1 < wt.heap.size):=Lib.hid ⟨by have:=HBt.out.size;omega,by have:=HTs.out;omega⟩
   have HCl:Hid (∀ u,Below w.heap.size w u->Calls Tryz.prog 32 #[.agg #[.string ⟨nm.toArray⟩,.int .i64 ki,.bool kp,.int .i64 al,.string ⟨dt.toArray⟩,.slice ra0 nr rc0]] u (OwnSP ⟨nm.toArray⟩ ki kp al ⟨dt.toArray⟩ rels u)):=Lib.hid fun u hu=>rOwnS_any _ ki kp al _ ra0 nr rc0 rels u (hno.next hu) hz0' hr100
   have HcS:Hid (∀ v,Below wx.heap.size wx v->v.cell? ⟨X1,0,none⟩=some (.slice (some ⟨bb,off,none⟩) n c)/\v.cell? ⟨bb,off+k*6,none⟩=some (.string ⟨nm.toArray⟩)/\v.cell? ⟨bb,off+k*6+1,none⟩=some (.int .i64 ki)/\v.cell? ⟨bb,off+k*6+2,none⟩=some (.bool kp)/\v.cell? ⟨bb,off+k*6+3,none⟩=some (.int .i64 al)/\v.cell? ⟨bb,off+k*6+4,none⟩=some (.string ⟨dt.toArray⟩)/\v.cell? ⟨bb,off+k*6+5,none⟩=some (.slice ra0 nr rc0)):=Lib.hid fun v hv=>by
    have h2:=after hBx hv
    exact ⟨keepZ hv x0,keepZ h2 d0,keepZ h2 d1,keepZ h2 d2,keepZ h2 d3,keepZ h2 d4,keepZ h2 d5⟩
   have HcG:Hid (∀ (u v:World) (C:Array Value) (T:TypeId) (row:Option Nat),Below wx.heap.size wx u->(∀ g,row=some g->wt.heap.size+1<=g)->(u.alloc (.cells C T)).grownBy v row->v.cell? ⟨X1,0,none⟩=some (.slice (some ⟨bb,off,none⟩) n c)/\v.cell? ⟨bb,off+k*6,none⟩=some (.string ⟨nm.toArray⟩)/\v.cell? ⟨bb,off+k*6+1,none⟩=some (.int .i64 ki)/\v.cell? ⟨bb,off+k*6+2,none⟩=some (.bool kp)/\v.cell? ⟨bb,off+k*6+3,none⟩=some (.int .i64 al)/\v.cell? ⟨bb,off+k*6+4,none⟩=some (.string ⟨dt.toArray⟩)/\v.cell? ⟨bb,off+k*6+5,none⟩=some (.slice ra0 nr rc0)):=Lib.hid fun u v C T row hu hrow hg=>by
    have h1:=HcS.out _ (after hu (lit_below u (.cells C T)))
    have n1:some X1 ≠ row:=fun e=>by have:=hrow _ e.symm;have:=HBw.out;omega
    have n2:some bb ≠ row:=fun e=>by have:=hrow _ e.symm;have:=HBw.out;omega
    exact ⟨hg.cell h1.1 n1,hg.cell h1.2.1 n2,hg.cell h1.2.2.1 n2,hg.cell h1.2.2.2.1 n2,hg.cell h1.2.2.2.2.1 n2,hg.cell h1.2.2.2.2.2.1 n2,hg.cell h1.2.2.2.2.2.2 n2⟩
   have HKl:Hid (Lo.length<=100):=Lib.hid (by have:=HKq.out;have:=HL.out;have:=HN.out;omega)
   have HBx:=Lib.hid hBx
   have HTk:Hid ((L.take (k+1)).map (·.sc)=(L.take k).map (·.sc) ++ [⟨nm,ki,kp,al,dt,rels⟩]):=Lib.hid (by rw [List.take_add_one,HMk.out,List.map_append];rfl)
   clear hkl hbw hcc hBx d0 d1 d2 d3 d4 d5 hno hz0' hr100 hnr hlt hk
   go_wp2_with fail
   clear x0
   refine wp_region_held_drew (S:=fun v=>v.cell? ⟨X1,0,none⟩=some (.slice (some ⟨bb,off,none⟩) n c)/\v.cell? ⟨bb,off+k*6,none⟩=some (.string ⟨nm.toArray⟩)/\v.cell? ⟨bb,off+k*6+1,none⟩=some (.int .i64 ki)/\v.cell? ⟨bb,off+k*6+2,none⟩=some (.bool kp)/\v.cell? ⟨bb,off+k*6+3,none⟩=some (.int .i64 al)/\v.cell? ⟨bb,off+k*6+4,none⟩=some (.string ⟨dt.toArray⟩)/\v.cell? ⟨bb,off+k*6+5,none⟩=some (.slice ra0 nr rc0)) (by kernel_rfl) (HcS.out _ (Below.refl _ _).drew) (fun hHeld=>?_)
   obtain ⟨Y,hY⟩:∃ Y,Y=wx.drew:=⟨_,rfl⟩
   rw [<-hY] at hHeld ⊢
   have hbY:Below wx.heap.size wx Y:=by rw [hY];exact (Below.refl _ _).drew
   have HUY:=Lib.hid (HU.out.next hbY)
   have HBY:=Lib.hid (after HBx.out hbY)
   have HYx:=Lib.hid hbY
   clear hbY hY
   refine tk 0 ?_ rfl hHeld ?_ ?_
   rotate_left 1
   ·intro w hS;obtain ⟨_,_,_,_,_,_,_⟩:=hS;go_simp;(try with_reducible rfl)
   (try simp only [Act.put,List.setIfInBounds_toArray,List.set_cons_zero,List.set_cons_succ])
   refine tk 2 ?_ rfl hHeld ?_ ?_
   rotate_left 1
   ·intro w hS;obtain ⟨_,_,_,_,_,_,_⟩:=hS;go_simp;(try with_reducible rfl)
   (try simp only [Act.put,List.setIfInBounds_toArray,List.set_cons_zero,List.set_cons_succ])
   refine tk 3 ?_ rfl hHeld ?_ ?_
   rotate_left 1
   ·intro w hS;obtain ⟨_,_,_,_,_,_,_⟩:=hS;go_simp;(try with_reducible rfl)
   (try simp only [Act.put,List.setIfInBounds_toArray,List.set_cons_zero,List.set_cons_succ])
   refine tk 4 ?_ rfl hHeld ?_ ?_
   rotate_left 1
   ·intro w hS;obtain ⟨_,_,_,_,_,_,_⟩:=hS;go_simp;(try with_reducible rfl)
   (try simp only [Act.put,List.setIfInBounds_toArray,List.set_cons_zero,List.set_cons_succ])
   refine tk 5 ?_ rfl hHeld ?_ ?_
   rotate_left 1
   ·intro w hS;obtain ⟨_,_,_,_,_,_,_⟩:=hS;go_simp;(try with_reducible rfl)
   (try simp only [Act.put,List.setIfInBounds_toArray,List.set_cons_zero,List.set_cons_succ])
   refine tk 6 ?_ rfl hHeld ?_ ?_
   rotate_left 1
   ·intro w hS;obtain ⟨_,_,_,_,_,_,_⟩:=hS;go_simp;(try with_reducible rfl)
   (try simp only [Act.put,List.setIfInBounds_toArray,List.set_cons_zero,List.set_cons_succ])
   have t30:Y.cell? ⟨wt.heap.size,0,none⟩=some (.slice oa Lo.length oc):=HUY.out.xx.cell
   refine wpAnyH_ready (rs:=[1,7]) (by kernel_rfl) (by simp) ?_
   refine AllReadyH.cons rfl (fun K hK=>?_) (AllReadyH.cons rfl (fun K hK=>?_) AllReadyH.nil)
   ·go_simp
    refine hK.out _ _ hHeld (fun hHeld2=>?_)
    clear hK K t30
    refine rd 7 rfl (fun K hK=>?_)
    go_simp
    go_wp2_with (go_at_call 32;refine (HCl.out _ HBY.out).mono ?_;rintro e u1 ⟨na,nc,rfl,hown,hnil,hb⟩)
    have HU1:=Lib.hid (HUY.out.next hb)
    have HBu:=Lib.hid (after HYx.out hb)
    have HOw:Hid (OwnZ u1 (wt.heap.size+1) ⟨⟨nm,ki,kp,al,dt,rels⟩,na,nc⟩):=Lib.hid (ownsZ_low hown (by have:=lt_of_block HUY.out.xx;omega))
    have HNl:=Lib.hid hnil
    clear hb hown hnil
    refine hK.out _ _ (HcS.out _ HBu.out) (fun hHeld3=>?_)
    clear hK K
    refine rd 8 rfl (fun K hK=>?_)
    go_simp
    refine hK.out _ _ (HcS.out _ (after HBu.out (lit_below _ _))) (fun hHeld4=>?_)
    clear hK K
    refine rd 9 rfl (fun K hK=>?_)
    refine step_append_lies _ (by rfl) _ _ _ (by rfl) (wt.heap.size+1) 57 i0 _ 6 80 Tryz.underlying22 hi hz0 hz1 hz2 rfl (by omega) (.slice oa Lo.length oc) Lo.length (Lo.flatMap msC) (by rfl) (HU1.out.oo.alloc _) ⟨u1.heap.size,0,none⟩ 1 1 (msC ⟨⟨nm,ki,kp,al,dt,rels⟩,na,nc⟩) (by rfl) (by rfl) (World.news_of_block (cs:=#[.string ⟨nm.toArray⟩,.int .i64 ki,.bool kp,.int .i64 al,.string ⟨dt.toArray⟩,.slice na rels.length nc]) (t:=57) (fr:=(0,0)) (heap_alloc_new u1 _)) (ms_onesZ _) (by omega) (by have:=HKl.out;unfold maxLen;omega) (by have:=HKl.out;omega) (by have:=lt_of_block HU1.out.xx;simp;omega) (u1.heap.size+1) (by simp) ?_
    intro g3 cap w3 hown3 hgrow hat hlt3
    have hSw:=HcG.out u1 w3 _ _ _ HBu.out (fun g hg=>(HU1.out.oo.lt g hg).1) hgrow
    have hTne:some wt.heap.size ≠ (Value.slice oa Lo.length oc).ownBlock:=fun e=>by have:=(HU1.out.oo.lt _ e.symm).1;omega
    have hTl:wt.heap.size < u1.heap.size:=lt_of_block HU1.out.xx
    have s5:w3.cell? ⟨wt.heap.size,0,none⟩=some (.slice oa Lo.length oc):=hgrow.cell ((World.cell?_alloc_past (w:=u1) _ _ _ hTl).trans HU1.out.xx.cell) hTne
    have s6:w3.frozen? ⟨wt.heap.size,0,none⟩=false:=(World.frozen?_of_block (hgrow.block wt.heap.size (by rw [World.size_alloc];omega) hTne)).trans ((World.frozen?_alloc_past (w:=u1) _ _ _ hTl).trans HU1.out.xx.frozen)
    refine hK.out _ _ hSw (fun hHeld5=>?_)
    clear hK K
    refine rd 10 rfl (fun K hK=>?_)
    go_simp
    refine hK.out _ _ hSw (fun hHeld6=>?_)
    clear hK K
    have HUn:Hid (UO wt (w3.setCell ⟨wt.heap.size,0,none⟩ (.slice (some ⟨g3,0,none⟩) (Lo.length+1) cap)) (Lo ++ [⟨⟨nm,ki,kp,al,dt,rels⟩,na,nc⟩]) (some ⟨g3,0,none⟩) cap):=Lib.hid (HU1.out.push HOw.out hown3 hgrow)
    have hSs:(fun v:World=>v.cell? ⟨X1,0,none⟩=some (.slice (some ⟨bb,off,none⟩) n c)/\v.cell? ⟨bb,off+k*6,none⟩=some (.string ⟨nm.toArray⟩)/\v.cell? ⟨bb,off+k*6+1,none⟩=some (.int .i64 ki)/\v.cell? ⟨bb,off+k*6+2,none⟩=some (.bool kp)/\v.cell? ⟨bb,off+k*6+3,none⟩=some (.int .i64 al)/\v.cell? ⟨bb,off+k*6+4,none⟩=some (.string ⟨dt.toArray⟩)/\v.cell? ⟨bb,off+k*6+5,none⟩=some (.slice ra0 nr rc0)) (w3.setCell ⟨wt.heap.size,0,none⟩ (.slice (some ⟨g3,0,none⟩) (Lo.length+1) cap)):=by
     have n1:X1 ≠ wt.heap.size:=by have:=HBw.out;omega
     have n2:bb ≠ wt.heap.size:=by have:=HBw.out;omega
     exact ⟨(World.cell?_of_block (Below.heap_setCell _ _ _ _ n1)).trans hSw.1,(World.cell?_of_block (Below.heap_setCell _ _ _ _ n2)).trans hSw.2.1,(World.cell?_of_block (Below.heap_setCell _ _ _ _ n2)).trans hSw.2.2.1,(World.cell?_of_block (Below.heap_setCell _ _ _ _ n2)).trans hSw.2.2.2.1,(World.cell?_of_block (Below.heap_setCell _ _ _ _ n2)).trans hSw.2.2.2.2.1,(World.cell?_of_block (Below.heap_setCell _ _ _ _ n2)).trans hSw.2.2.2.2.2.1,(World.cell?_of_block (Below.heap_setCell _ _ _ _ n2)).trans hSw.2.2.2.2.2.2⟩
    clear hSw
    refine rd 11 rfl (fun K hK=>?_)
    go_simp
    refine hK.out _ _ hSs (fun hHeld7=>?_)
    clear hK K
    refine wpAnyH_done (by kernel_rfl) ?_ _
    have HKq2:Hid (k+1=(Lo ++ [(⟨⟨nm,ki,kp,al,dt,rels⟩,na,nc⟩:Ms)]).length):=Lib.hid (by rw [HKq.out];simp)
    have HSc2:Hid ((Lo ++ [(⟨⟨nm,ki,kp,al,dt,rels⟩,na,nc⟩:Ms)]).map (·.sc)=(L.take (k+1)).map (·.sc)):=Lib.hid (by rw [List.map_append,HSc.out,HTk.out];rfl)
    have HNz2:Hid (∀ m ∈ Lo ++ [(⟨⟨nm,ki,kp,al,dt,rels⟩,na,nc⟩:Ms)],m.ad=none->m.sc.rels.length=0/\m.cap=0):=Lib.hid (fun m hm=>by
     rcases List.mem_append.1 hm with h | h
     ·exact HNz.out m h
     ·rw [List.mem_singleton.1 h];exact HNl.out)
    clear hown3 hgrow hat hlt3 s5 s6 hSs hTne hTl
    go_wp2
    go_roundw
    case rel=>exact ⟨k+1,_,_,_,_,rfl,by have:=HLt.out;omega,by go_num,HKq2,HUn,HSc2,HNz2⟩
    case measure=>have:=HLt.out;simp [intOf];omega
   ·clear t30
    go_simp
    go_wp2_with (go_at_call 32;refine (HCl.out _ HBY.out).mono ?_;rintro e u1 ⟨na,nc,rfl,hown,hnil,hb⟩)
    have HU1:=Lib.hid (HUY.out.next hb)
    have HBu:=Lib.hid (after HYx.out hb)
    have HOw:Hid (OwnZ u1 (wt.heap.size+1) ⟨⟨nm,ki,kp,al,dt,rels⟩,na,nc⟩):=Lib.hid (ownsZ_low hown (by have:=lt_of_block HUY.out.xx;omega))
    have HNl:=Lib.hid hnil
    clear hb hown hnil
    refine hK.out _ _ (HcS.out _ HBu.out) (fun hHeld3=>?_)
    clear hK K
    have t31:u1.cell? ⟨wt.heap.size,0,none⟩=some (.slice oa Lo.length oc):=HU1.out.xx.cell
    refine wpAnyH_ready (rs:=[1,8]) (by kernel_rfl) (by simp) ?_
    refine AllReadyH.cons rfl (fun K hK=>?_) (AllReadyH.cons rfl (fun K hK=>?_) AllReadyH.nil)
    ·go_simp
     refine hK.out _ _ hHeld3 (fun hHeld2=>?_)
     clear hK K t31
     refine rd 8 rfl (fun K hK=>?_)
     go_simp
     refine hK.out _ _ (HcS.out _ (after HBu.out (lit_below _ _))) (fun hHeld4=>?_)
     clear hK K
     refine rd 9 rfl (fun K hK=>?_)
     refine step_append_lies _ (by rfl) _ _ _ (by rfl) (wt.heap.size+1) 57 i0 _ 6 80 Tryz.underlying22 hi hz0 hz1 hz2 rfl (by omega) (.slice oa Lo.length oc) Lo.length (Lo.flatMap msC) (by rfl) (HU1.out.oo.alloc _) ⟨u1.heap.size,0,none⟩ 1 1 (msC ⟨⟨nm,ki,kp,al,dt,rels⟩,na,nc⟩) (by rfl) (by rfl) (World.news_of_block (cs:=#[.string ⟨nm.toArray⟩,.int .i64 ki,.bool kp,.int .i64 al,.string ⟨dt.toArray⟩,.slice na rels.length nc]) (t:=57) (fr:=(0,0)) (heap_alloc_new u1 _)) (ms_onesZ _) (by omega) (by have:=HKl.out;unfold maxLen;omega) (by have:=HKl.out;omega) (by have:=lt_of_block HU1.out.xx;simp;omega) (u1.heap.size+1) (by simp) ?_
     intro g3 cap w3 hown3 hgrow hat hlt3
     have hSw:=HcG.out u1 w3 _ _ _ HBu.out (fun g hg=>(HU1.out.oo.lt g hg).1) hgrow
     have hTne:some wt.heap.size ≠ (Value.slice oa Lo.length oc).ownBlock:=fun e=>by have:=(HU1.out.oo.lt _ e.symm).1;omega
     have hTl:wt.heap.size < u1.heap.size:=lt_of_block HU1.out.xx
     have s5:w3.cell? ⟨wt.heap.size,0,none⟩=some (.slice oa Lo.length oc):=hgrow.cell ((World.cell?_alloc_past (w:=u1) _ _ _ hTl).trans HU1.out.xx.cell) hTne
     have s6:w3.frozen? ⟨wt.heap.size,0,none⟩=false:=(World.frozen?_of_block (hgrow.block wt.heap.size (by rw [World.size_alloc];omega) hTne)).trans ((World.frozen?_alloc_past (w:=u1) _ _ _ hTl).trans HU1.out.xx.frozen)
     refine hK.out _ _ hSw (fun hHeld5=>?_)
     clear hK K
     refine rd 10 rfl (fun K hK=>?_)
     go_simp
     refine hK.out _ _ hSw (fun hHeld6=>?_)
     clear hK K
     have HUn:Hid (UO wt (w3.setCell ⟨wt.heap.size,0,none⟩ (.slice (some ⟨g3,0,none⟩) (Lo.length+1) cap)) (Lo ++ [⟨⟨nm,ki,kp,al,dt,rels⟩,na,nc⟩]) (some ⟨g3,0,none⟩) cap):=Lib.hid (HU1.out.push HOw.out hown3 hgrow)
     have hSs:(fun v:World=>v.cell? ⟨X1,0,none⟩=some (.slice (some ⟨bb,off,none⟩) n c)/\v.cell? ⟨bb,off+k*6,none⟩=some (.string ⟨nm.toArray⟩)/\v.cell? ⟨bb,off+k*6+1,none⟩=some (.int .i64 ki)/\v.cell? ⟨bb,off+k*6+2,none⟩=some (.bool kp)/\v.cell? ⟨bb,off+k*6+3,none⟩=some (.int .i64 al)/\v.cell? ⟨bb,off+k*6+4,none⟩=some (.string ⟨dt.toArray⟩)/\v.cell? ⟨bb,off+k*6+5,none⟩=some (.slice ra0 nr rc0)) (w3.setCell ⟨wt.heap.size,0,none⟩ (.slice (some ⟨g3,0,none⟩) (Lo.length+1) cap)):=by
      have n1:X1 ≠ wt.heap.size:=by have:=HBw.out;omega
      have n2:bb ≠ wt.heap.size:=by have:=HBw.out;omega
      exact ⟨(World.cell?_of_block (Below.heap_setCell _ _ _ _ n1)).trans hSw.1,(World.cell?_of_block (Below.heap_setCell _ _ _ _ n2)).trans hSw.2.1,(World.cell?_of_block (Below.heap_setCell _ _ _ _ n2)).trans hSw.2.2.1,(World.cell?_of_block (Below.heap_setCell _ _ _ _ n2)).trans hSw.2.2.2.1,(World.cell?_of_block (Below.heap_setCell _ _ _ _ n2)).trans hSw.2.2.2.2.1,(World.cell?_of_block (Below.heap_setCell _ _ _ _ n2)).trans hSw.2.2.2.2.2.1,(World.cell?_of_block (Below.heap_setCell _ _ _ _ n2)).trans hSw.2.2.2.2.2.2⟩
     clear hSw
     refine rd 11 rfl (fun K hK=>?_)
     go_simp
     refine hK.out _ _ hSs (fun hHeld7=>?_)
     clear hK K
     refine wpAnyH_done (by kernel_rfl) ?_ _
     have HKq2:Hid (k+1=(Lo ++ [(⟨⟨nm,ki,kp,al,dt,rels⟩,na,nc⟩:Ms)]).length):=Lib.hid (by rw [HKq.out];simp)
     have HSc2:Hid ((Lo ++ [(⟨⟨nm,ki,kp,al,dt,rels⟩,na,nc⟩:Ms)]).map (·.sc)=(L.take (k+1)).map (·.sc)):=Lib.hid (by rw [List.map_append,HSc.out,HTk.out];rfl)
     have HNz2:Hid (∀ m ∈ Lo ++ [(⟨⟨nm,ki,kp,al,dt,rels⟩,na,nc⟩:Ms)],m.ad=none->m.sc.rels.length=0/\m.cap=0):=Lib.hid (fun m hm=>by
      rcases List.mem_append.1 hm with h | h
      ·exact HNz.out m h
      ·rw [List.mem_singleton.1 h];exact HNl.out)
     clear hown3 hgrow hat hlt3 s5 s6 hSs hTne hTl
     go_wp2
     go_roundw
     case rel=>exact ⟨k+1,_,_,_,_,rfl,by have:=HLt.out;omega,by go_num,HKq2,HUn,HSc2,HNz2⟩
     case measure=>have:=HLt.out;simp [intOf];omega
    ·skip
     go_simp
     refine hK.out _ _ (HcS.out _ (after HBu.out (lit_below _ _))) (fun hHeld4=>?_)
     clear hK K
     have t32:(u1.alloc (.cells #[.string ⟨nm.toArray⟩,.int .i64 ki,.bool kp,.int .i64 al,.string ⟨dt.toArray⟩,.slice na rels.length nc] 57)).cell? ⟨wt.heap.size,0,none⟩=some (.slice oa Lo.length oc):=(HU1.out.next (lit_below _ _)).xx.cell
     refine rd 1 rfl (fun K hK=>?_)
     go_simp
     refine hK.out _ _ hHeld4 (fun hHeld2=>?_)
     clear hK K t31 t32
     refine rd 9 rfl (fun K hK=>?_)
     refine step_append_lies _ (by rfl) _ _ _ (by rfl) (wt.heap.size+1) 57 i0 _ 6 80 Tryz.underlying22 hi hz0 hz1 hz2 rfl (by omega) (.slice oa Lo.length oc) Lo.length (Lo.flatMap msC) (by rfl) (HU1.out.oo.alloc _) ⟨u1.heap.size,0,none⟩ 1 1 (msC ⟨⟨nm,ki,kp,al,dt,rels⟩,na,nc⟩) (by rfl) (by rfl) (World.news_of_block (cs:=#[.string ⟨nm.toArray⟩,.int .i64 ki,.bool kp,.int .i64 al,.string ⟨dt.toArray⟩,.slice na rels.length nc]) (t:=57) (fr:=(0,0)) (heap_alloc_new u1 _)) (ms_onesZ _) (by omega) (by have:=HKl.out;unfold maxLen;omega) (by have:=HKl.out;omega) (by have:=lt_of_block HU1.out.xx;simp;omega) (u1.heap.size+1) (by simp) ?_
     intro g3 cap w3 hown3 hgrow hat hlt3
     have hSw:=HcG.out u1 w3 _ _ _ HBu.out (fun g hg=>(HU1.out.oo.lt g hg).1) hgrow
     have hTne:some wt.heap.size ≠ (Value.slice oa Lo.length oc).ownBlock:=fun e=>by have:=(HU1.out.oo.lt _ e.symm).1;omega
     have hTl:wt.heap.size < u1.heap.size:=lt_of_block HU1.out.xx
     have s5:w3.cell? ⟨wt.heap.size,0,none⟩=some (.slice oa Lo.length oc):=hgrow.cell ((World.cell?_alloc_past (w:=u1) _ _ _ hTl).trans HU1.out.xx.cell) hTne
     have s6:w3.frozen? ⟨wt.heap.size,0,none⟩=false:=(World.frozen?_of_block (hgrow.block wt.heap.size (by rw [World.size_alloc];omega) hTne)).trans ((World.frozen?_alloc_past (w:=u1) _ _ _ hTl).trans HU1.out.xx.frozen)
     refine hK.out _ _ hSw (fun hHeld5=>?_)
     clear hK K
     refine rd 10 rfl (fun K hK=>?_)
     go_simp
     refine hK.out _ _ hSw (fun hHeld6=>?_)
     clear hK K
     have HUn:Hid (UO wt (w3.setCell ⟨wt.heap.size,0,none⟩ (.slice (some ⟨g3,0,none⟩) (Lo.length+1) cap)) (Lo ++ [⟨⟨nm,ki,kp,al,dt,rels⟩,na,nc⟩]) (some ⟨g3,0,none⟩) cap):=Lib.hid (HU1.out.push HOw.out hown3 hgrow)
     have hSs:(fun v:World=>v.cell? ⟨X1,0,none⟩=some (.slice (some ⟨bb,off,none⟩) n c)/\v.cell? ⟨bb,off+k*6,none⟩=some (.string ⟨nm.toArray⟩)/\v.cell? ⟨bb,off+k*6+1,none⟩=some (.int .i64 ki)/\v.cell? ⟨bb,off+k*6+2,none⟩=some (.bool kp)/\v.cell? ⟨bb,off+k*6+3,none⟩=some (.int .i64 al)/\v.cell? ⟨bb,off+k*6+4,none⟩=some (.string ⟨dt.toArray⟩)/\v.cell? ⟨bb,off+k*6+5,none⟩=some (.slice ra0 nr rc0)) (w3.setCell ⟨wt.heap.size,0,none⟩ (.slice (some ⟨g3,0,none⟩) (Lo.length+1) cap)):=by
      have n1:X1 ≠ wt.heap.size:=by have:=HBw.out;omega
      have n2:bb ≠ wt.heap.size:=by have:=HBw.out;omega
      exact ⟨(World.cell?_of_block (Below.heap_setCell _ _ _ _ n1)).trans hSw.1,(World.cell?_of_block (Below.heap_setCell _ _ _ _ n2)).trans hSw.2.1,(World.cell?_of_block (Below.heap_setCell _ _ _ _ n2)).trans hSw.2.2.1,(World.cell?_of_block (Below.heap_setCell _ _ _ _ n2)).trans hSw.2.2.2.1,(World.cell?_of_block (Below.heap_setCell _ _ _ _ n2)).trans hSw.2.2.2.2.1,(World.cell?_of_block (Below.heap_setCell _ _ _ _ n2)).trans hSw.2.2.2.2.2.1,(World.cell?_of_block (Below.heap_setCell _ _ _ _ n2)).trans hSw.2.2.2.2.2.2⟩
     clear hSw
     refine rd 11 rfl (fun K hK=>?_)
     go_simp
     refine hK.out _ _ hSs (fun hHeld7=>?_)
     clear hK K
     refine wpAnyH_done (by kernel_rfl) ?_ _
     have HKq2:Hid (k+1=(Lo ++ [(⟨⟨nm,ki,kp,al,dt,rels⟩,na,nc⟩:Ms)]).length):=Lib.hid (by rw [HKq.out];simp)
     have HSc2:Hid ((Lo ++ [(⟨⟨nm,ki,kp,al,dt,rels⟩,na,nc⟩:Ms)]).map (·.sc)=(L.take (k+1)).map (·.sc)):=Lib.hid (by rw [List.map_append,HSc.out,HTk.out];rfl)
     have HNz2:Hid (∀ m ∈ Lo ++ [(⟨⟨nm,ki,kp,al,dt,rels⟩,na,nc⟩:Ms)],m.ad=none->m.sc.rels.length=0/\m.cap=0):=Lib.hid (fun m hm=>by
      rcases List.mem_append.1 hm with h | h
      ·exact HNz.out m h
      ·rw [List.mem_singleton.1 h];exact HNl.out)
     clear hown3 hgrow hat hlt3 s5 s6 hSs hTne hTl
     go_wp2
     go_roundw
     case rel=>exact ⟨k+1,_,_,_,_,rfl,by have:=HLt.out;omega,by go_num,HKq2,HUn,HSc2,HNz2⟩
     case measure=>have:=HLt.out;simp [intOf];omega
  ·obtain rfl:n=k:=by omega
   have hge:¬ (n:Int) < (n:Int):=by omega
   obtain ⟨i1,hj,hy0,hy1,hy2⟩:=info_parts info_symZ
   have x1:wx.cell? ⟨X1,1,none⟩=some (.slice a2 n2 c2):=(HB1.out.next HU.out.kk).cell
   have t31:wx.cell? ⟨wt.heap.size,1,none⟩=some (.slice none 0 0):=HU.out.xx.cell
   have HBx:=Lib.hid (after HBt.out HU.out.kk)
   have HSy:Hid (SL syC 4 wx wx.heap.size a2 n2 l):=Lib.hid (by rw [HN2.out];exact HX.out.s2.next HBx.out)
   have HZy:Hid (a2=none->n2=0/\c2=0):=Lib.hid (by rw [HN2.out];exact HX.out.z2)
   have m1:0+n2<=maxLen:=by have:=Hl.out;have:=HN2.out;unfold maxLen;omega
   have m2:(0+n2)*40<=140737488355328:=by have:=Hl.out;have:=HN2.out;omega
   have HX2:=Lib.hid (HB2.out.next HU.out.kk)
   have hxl:X1+1 < wt.heap.size:=lt_of_block HB2.out
   have HXl:=Lib.hid hxl
   clear hlt hk hxl
   go_wp2_with (at_builtin;refine append_SL rfl _ _ 23 rfl wx.heap.size 66 i1 (.agg #[.string ⟨#[]⟩,.int .i64 0,.int .i64 0,.int .i64 0]) 40 Tryz.underlying23 hj hy0 hy1 hy2 rfl (by decide) sy_len sy_onesZ _ 0 [] rfl (World.ownsRow_nil _ _ _ _) a2 n2 c2 l rfl HSy.out HZy.out m1 m2 (Nat.le_refl _) ?_;intro v1 w4 hown1 hbl1 hgr1;obtain ⟨za,zc,rfl,-,hzn⟩:=SL.ofOwns sy_len (by decide) hown1;have hU4:=HU.out.next hbl1;have hR2:=HX2.out.next hbl1;have e0:w4.cell? ⟨wt.heap.size,0,none⟩=some (.slice oa Lo.length oc):=hU4.xx.cell;have e1:w4.cell? ⟨wt.heap.size,1,none⟩=some (.slice none 0 0):=hU4.xx.cell;have e2:w4.frozen? ⟨wt.heap.size,1,none⟩=false:=hU4.xx.frozen;have g0:w4.cell? ⟨X1+1,0,none⟩=some (.slice none 0 0):=hR2.cell;have g1:w4.cell? ⟨X1+1,1,none⟩=some (.slice none 0 0):=hR2.cell;have g2:w4.frozen? ⟨X1+1,0,none⟩=false:=hR2.frozen;have g3:w4.frozen? ⟨X1+1,1,none⟩=false:=hR2.frozen;have hxl:=HXl.out)
   rw [Nat.zero_add,List.nil_append] at hown1
   rw [Nat.zero_add] at hzn
   have hne:X1+1 ≠ wt.heap.size:=by omega
   have hR9:RB (((w4.setCell ⟨wt.heap.size,1,none⟩ (.slice za n2 zc)).setCell ⟨X1+1,0,none⟩ (.slice oa Lo.length oc)).setCell ⟨X1+1,1,none⟩ (.slice za n2 zc)) (X1+1) #[.slice oa Lo.length oc,.slice za n2 zc] 25:=by
    have h0:RB (w4.setCell ⟨wt.heap.size,1,none⟩ (.slice za n2 zc)) (X1+1) #[.slice none 0 0,.slice none 0 0] 25:=(Below.heap_setCell _ _ _ _ hne).trans hR2
    exact (h0.set (j:=0) (.slice oa Lo.length oc)).set (j:=1) (.slice za n2 zc)
   have hset:∀ (B e sz m:Nat) (v:Value) (xs:List Value),wt.heap.size+1<=B->w4.ownsRow B e sz v m xs->(((w4.setCell ⟨wt.heap.size,1,none⟩ (.slice za n2 zc)).setCell ⟨X1+1,0,none⟩ (.slice oa Lo.length oc)).setCell ⟨X1+1,1,none⟩ (.slice za n2 zc)).ownsRow B e sz v m xs:=fun B e sz m v xs hB ho=>ownsZ_set (ownsZ_set (ownsZ_set ho (by omega)) (by omega)) (by omega)
   have hwx:wt.heap.size+1<=wx.heap.size:=lt_of_block HU.out.xx
   have o1:=hset _ _ _ _ _ _ (Nat.le_refl _) hU4.oo
   have o2:∀ m ∈ Lo,_:=fun m hm=>hset _ _ _ _ _ _ (Nat.le_refl _) (hU4.nn m hm)
   have o3:=hset _ _ _ _ _ _ hwx hown1
   have hsc:Lo.map (·.sc)=L.map (·.sc):=by have:=HSc.out;rw [HN.out,List.take_length] at this;exact this
   have hx1:=HXe.out
   have hb9:Below w.heap.size w (((w4.setCell ⟨wt.heap.size,1,none⟩ (.slice za n2 zc)).setCell ⟨X1+1,0,none⟩ (.slice oa Lo.length oc)).setCell ⟨X1+1,1,none⟩ (.slice za n2 zc)):=(((after HBx.out hbl1).setCell (p:=⟨wt.heap.size,1,none⟩) (by show w.heap.size<=wt.heap.size;omega) _).setCell (p:=⟨X1+1,0,none⟩) (by show w.heap.size<=X1+1;omega) _).setCell (p:=⟨X1+1,1,none⟩) (by show w.heap.size<=X1+1;omega) _
   have HF:Hid (OwnOP ⟨a,c,L,a2,c2,l⟩ w (.returned (.agg #[.slice oa Lo.length oc,.slice za n2 zc])) (((w4.setCell ⟨wt.heap.size,1,none⟩ (.slice za n2 zc)).setCell ⟨X1+1,0,none⟩ (.slice oa Lo.length oc)).setCell ⟨X1+1,1,none⟩ (.slice za n2 zc))):=Lib.hid (by
    generalize (((w4.setCell ⟨wt.heap.size,1,none⟩ (.slice za n2 zc)).setCell ⟨X1+1,0,none⟩ (.slice oa Lo.length oc)).setCell ⟨X1+1,1,none⟩ (.slice za n2 zc))=W9 at*
    obtain ⟨b1,b2,q1,s1,q2⟩:=SL.ofOwns (enc:=msC) ms_len (by decide) o1
    injection q1 with q3 q4 q5
    subst q3 q5
    rw [HN2.out] at o3 hzn ⊢
    obtain ⟨b3,b4,q6,s3,-⟩:=SL.ofOwns (enc:=syC) sy_len (by decide) o3
    injection q6 with q7 q8 q9
    subst q7 q9
    refine ⟨⟨oa,oc,Lo,za,zc,l⟩,rfl,⟨s1,fun m hm=>?_,s3,fun m hm=>?_,HX.out.gs,?_,HX.out.l2,HNz.out,q2,hzn⟩,hsc,rfl,hb9⟩
    ·obtain ⟨b5,b6,q10,s5,-⟩:=SL.ofOwns (enc:=rlC) rl_len (by decide) (o2 m hm)
     injection q10 with q11 q12 q13
     rw [q11];exact s5
    ·have h1:m.sc ∈ L.map (·.sc):=by rw [<-hsc];exact List.mem_map.2 ⟨m,hm,rfl⟩
     obtain ⟨m0,h2,h3⟩:=List.mem_map.1 h1
     rw [<-h3];exact HX.out.gd m0 h2
    ·have h1:=congrArg List.length hsc
     rw [List.length_map,List.length_map] at h1
     show Lo.length<=maxLen
     rw [h1];exact HX.out.l1)
   have HR9:=Lib.hid hR9
   clear hR9 hset o1 o2 o3 hb9
   exact bodyPost_ret (results_cell_row (P:=Tryz.prog) rfl _ _ (X1+1) 25 _ (0,0) _ rfl HR9.out Tryz.underlying25 rfl (by kernel_rfl)) rfl HF.out
end Go.Proofs.YthkolmebokfagaaGreatDoor
