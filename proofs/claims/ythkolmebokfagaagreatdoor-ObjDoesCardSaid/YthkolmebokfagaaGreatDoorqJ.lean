/- Numbers as bytes that end by themselves: plain facts; no Go in sight. wire.Get. strings.Builder inside wire.writer: copyCheck, WriteByte, WriteString, String. A range over a function that keeps its state in a variable of its own: the rounds are never left; the iterator of wire.digits. wire.writer.number, wire.Put, wire.PutText. wire.Put, PutText, PutInt, GetInt, GetText. obj: the builder's frame; Put's number, keepNumber. obj, plain: the bytes of an object. -/
import Derived.Test.YthkolmebokfagaaGreatDoorqA
import Derived.Lib.Strings
import Derived.RegionTactic
import Derived.ChangeAlike
import Derived.Lib.Builder
import Derived.Lib.AppendStr
import Derived.Lib.UnsafeStr
import Derived.Lib.OthersKept
import Derived.Laws.Externs
import Derived.RangeFuncNested
import Derived.RangeFuncBound
import Derived.RangeFuncCalls
import Derived.RangeFuncLeaves
import Derived.Shelf.Abstract
import Derived.Shelf.RegionOpen
import Derived.OwnWalkIn
import Derived.TacticsInMore
import Derived.LoopNIn
import Derived.LoopIn
import Derived.Test.YthkolmebokfagaaGreatDoorqI
set_option maxRecDepth 100000
set_option maxHeartbeats 2000000
set_option linter.unusedVariables false
set_option linter.unusedSimpArgs false
namespace Go.Proofs.YthkolmebokfagaaGreatDoor.Wi
open Go.RowKit
def putF:Nat->Nat->List UInt8
 | 0,_=>[]
 | n+1,v=>if v < 128 then [UInt8.ofNat v] else UInt8.ofNat (v % 128+128) :: putF n (v / 128)
def putL (v:Nat):List UInt8:=putF 10 v
def getF:Nat->Nat->List UInt8->Nat × Nat × Nat
 | _,_,[]=>(0,0,9)
 | k,v,b :: r=>if (k=9/\1 < b.toNat)\/(0 < k/\b.toNat=0) then (0,0,3) else if b.toNat < 128 then (v+b.toNat*128 ^ k,k+1,0) else getF (k+1) (v+b.toNat % 128*128 ^ k) r
def getL (l:List UInt8):Nat × Nat × Nat:=getF 0 0 l
theorem putF_small {n v:Nat} (h:v < 128):putF (n+1) v=[UInt8.ofNat v]:=by rw [putF,if_pos h]
theorem putF_big {n v:Nat} (h:128<=v):putF (n+1) v=UInt8.ofNat (v % 128+128) :: putF n (v / 128):=by rw [putF,if_neg (by omega)]
theorem small_nat {v:Nat} (h:v < 128):(UInt8.ofNat v).toNat=v:=by rw [UInt8.toNat_ofNat'];omega
theorem big_nat (v:Nat):(UInt8.ofNat (v % 128+128)).toNat=v % 128+128:=by rw [UInt8.toNat_ofNat'];omega
theorem getF_form {k v:Nat} {b:UInt8} {r:List UInt8} (h:(k=9/\1 < b.toNat)\/(0 < k/\b.toNat=0)):getF k v (b :: r)=(0,0,3):=by rw [getF,if_pos h]
theorem getF_end {k v:Nat} {b:UInt8} {r:List UInt8} (h:¬ ((k=9/\1 < b.toNat)\/(0 < k/\b.toNat=0))) (h2:b.toNat < 128):getF k v (b :: r)=(v+b.toNat*128 ^ k,k+1,0):=by rw [getF,if_neg h,if_pos h2]
theorem getF_on {k v:Nat} {b:UInt8} {r:List UInt8} (h:¬ ((k=9/\1 < b.toNat)\/(0 < k/\b.toNat=0))) (h2:¬ b.toNat < 128):getF k v (b :: r)=getF (k+1) (v+b.toNat % 128*128 ^ k) r:=by rw [getF,if_neg h,if_neg h2]
theorem pow_b {k:Nat} (h:k<=9):128 ^ k<=9223372036854775808:=Nat.le_trans (Nat.pow_le_pow_right (by decide) h) (by decide)
theorem pow_s (k:Nat):128 ^ (k+1)=128*128 ^ k:=by rw [Nat.pow_succ,Nat.mul_comm]
theorem pow_9:128 ^ 9=9223372036854775808:=by decide
theorem get_back (n:Nat):∀ (k a u:Nat) (more:List UInt8),k+n=9->(0 < k->0 < u)->u*128 ^ k < 18446744073709551616->
  getF k a (putF (n+1) u ++ more)=(a+u*128 ^ k,k+(putF (n+1) u).length,0):=by
 induction n with
 | zero=>
  intro k a u more hk h0 hu
  obtain rfl:k=9:=by omega
  rw [pow_9] at hu
  rw [putF_small (by omega),List.singleton_append,getF_end (by rw [small_nat (by omega)];omega) (by rw [small_nat (by omega)];omega),small_nat (by omega)]
  rfl
 | succ n ih=>
  intro k a u more hk h0 hu
  by_cases c:u < 128
  ·rw [putF_small c,List.singleton_append,getF_end (by rw [small_nat c];omega) (by rw [small_nat c];exact c),small_nat c]
   rfl
  ·rw [putF_big (by omega),List.cons_append,getF_on (by rw [big_nat];omega) (by rw [big_nat];omega),big_nat,show (u % 128+128) % 128=u % 128 from by omega]
   have e:u=u % 128+128*(u / 128):=by omega
   have h2:u / 128*128 ^ (k+1)<=u*128 ^ k:=by
    rw [pow_s,<-Nat.mul_assoc];exact Nat.mul_le_mul_right _ (by omega)
   rw [ih (k+1) _ (u / 128) more (by omega) (by omega) (by omega),List.length_cons]
   have h3:a+u % 128*128 ^ k+u / 128*128 ^ (k+1)=a+u*128 ^ k:=by
    rw [pow_s,Nat.add_assoc,<-Nat.mul_assoc,<-Nat.add_mul,show u % 128+u / 128*128=u from by omega]
   rw [h3];congr 2;omega
theorem getL_back (v:Nat) (more:List UInt8) (h:v < 18446744073709551616):getL (putL v ++ more)=(v,(putL v).length,0):=by
 have:=get_back 9 0 0 v more rfl (by omega) (by simpa using h)
 simpa [getL,putL] using this
theorem get_only (l:List UInt8):∀ (n k v x m:Nat),k+n=9->v < 128 ^ k->getF k v l=(x,m,0)->
  ∃ u,x=v+u*128 ^ k/\k < m/\m<=10/\m<=k+l.length/\putF (n+1) u=l.take (m - k)/\(0 < k->0 < u)/\x < 18446744073709551616:=by
 induction l with
 | nil=>intro n k v x m _ _ h;simp [getF] at h
 | cons b r ih=>
  intro n k v x m hk hv h
  by_cases c1:(k=9/\1 < b.toNat)\/(0 < k/\b.toNat=0)
  ·rw [getF_form c1] at h;simp at h
  ·by_cases c2:b.toNat < 128
   ·rw [getF_end c1 c2] at h
    simp only [Prod.mk.injEq,and_true] at h
    obtain ⟨rfl,rfl⟩:=h
    refine ⟨b.toNat,rfl,by omega,by omega,by simp,?_,by omega,?_⟩
    ·rw [putF_small c2,show k+1 - k=1 from by omega];simp
    ·by_cases e:k=9
     ·subst e;rw [pow_9] at hv ⊢;have:b.toNat<=1:=by omega
      omega
     ·have h3:b.toNat*128 ^ k<=127*128 ^ k:=Nat.mul_le_mul_right _ (by omega)
      have h4:=pow_b (k:=k+1) (by omega)
      rw [pow_s] at h4
      omega
   ·have hk9:k ≠ 9:=by omega
    rw [getF_on c1 c2] at h
    obtain ⟨n,rfl⟩:∃ n',n=n'+1:=⟨n - 1,by omega⟩
    have hv':v+b.toNat % 128*128 ^ k < 128 ^ (k+1):=by
     have:b.toNat % 128*128 ^ k<=127*128 ^ k:=Nat.mul_le_mul_right _ (by omega)
     rw [pow_s];omega
    obtain ⟨u,e1,e2,e3,e4,e5,e6,e7⟩:=ih n (k+1) _ x m (by omega) hv' h
    have hb:b.toNat < 256:=b.toNat_lt
    have hu:0 < u:=e6 (by omega)
    refine ⟨b.toNat % 128+128*u,?_,by omega,e3,by simp;omega,?_,by omega,e7⟩
    ·rw [e1,pow_s,Nat.add_assoc,<-Nat.mul_assoc,<-Nat.add_mul,Nat.mul_comm 128 u]
    ·rw [putF_big (by omega),show (b.toNat % 128+128*u) % 128+128=b.toNat from by omega,show (b.toNat % 128+128*u) / 128=u from by omega,e5,
      show m - k=(m - (k+1))+1 from by omega,List.take_succ_cons]
     congr 1
     exact UInt8.ofNat_toNat
theorem getL_only {l:List UInt8} {x m:Nat} (h:getL l=(x,m,0)):1<=m/\m<=10/\m<=l.length/\putL x=l.take m/\x < 18446744073709551616:=by
 obtain ⟨u,e1,e2,e3,e4,e5,e6,e7⟩:=get_only l 9 0 0 x m rfl (by decide) h
 simp only [Nat.pow_zero,Nat.mul_one,Nat.zero_add] at e1
 subst e1
 exact ⟨by omega,e3,by omega,by simpa [putL] using e5,e7⟩
theorem get_kind (l:List UInt8):∀ (k v:Nat),k<=9->(∃ x m,getF k v l=(x,m,0))\/getF k v l=(0,0,3)\/getF k v l=(0,0,9):=by
 induction l with
 | nil=>intro k v _;exact .inr (.inr rfl)
 | cons b r ih=>
  intro k v hk
  by_cases c1:(k=9/\1 < b.toNat)\/(0 < k/\b.toNat=0)
  ·exact .inr (.inl (getF_form c1))
  ·by_cases c2:b.toNat < 128
   ·exact .inl ⟨_,_,getF_end c1 c2⟩
   ·rw [getF_on c1 c2];exact ih _ _ (by omega)
theorem getL_kind (l:List UInt8):(∃ x m,getL l=(x,m,0))\/getL l=(0,0,3)\/getL l=(0,0,9):=get_kind l 0 0 (by decide)
theorem put_len (n:Nat):∀ v,v < 128 ^ (n+1)->1<=(putF (n+1) v).length/\(putF (n+1) v).length<=n+1/\v < 128 ^ (putF (n+1) v).length/\((putF (n+1) v).length=1\/128 ^ ((putF (n+1) v).length - 1)<=v):=by
 induction n with
 | zero=>intro v h;rw [putF_small (by simpa using h)];exact ⟨by simp,by simp,by simpa using h,.inl rfl⟩
 | succ n ih=>
  intro v h
  by_cases c:v < 128
  ·rw [putF_small c];exact ⟨by simp,by simp,by simpa using c,.inl rfl⟩
  ·rw [putF_big (by omega)]
   have h2:v / 128 < 128 ^ (n+1):=Nat.div_lt_of_lt_mul (by rw [pow_s] at h;exact h)
   obtain ⟨e1,e2,e3,e4⟩:=ih (v / 128) h2
   refine ⟨by simp,by simp;omega,?_,.inr ?_⟩
   ·rw [List.length_cons,pow_s];omega
   ·rw [List.length_cons,Nat.add_sub_cancel]
    rcases e4 with e4 | e4
    ·rw [e4];omega
    ·obtain ⟨j,hj⟩:∃ j,(putF (n+1) (v / 128)).length=j+1:=⟨_,(Nat.sub_add_cancel e1).symm⟩
     rw [hj] at e4 ⊢
     rw [Nat.add_sub_cancel] at e4
     rw [pow_s];omega
theorem putL_len {v:Nat} (h:v < 18446744073709551616):1<=(putL v).length/\(putL v).length<=10/\v < 128 ^ (putL v).length/\((putL v).length=1\/128 ^ ((putL v).length - 1)<=v):=
 put_len 9 v (Nat.lt_of_lt_of_le h (by decide))
def zig (n:Int):Nat:=if n < 0 then (-2*n - 1).toNat else (2*n).toNat
def zag (v:Nat):Int:=if v % 2=1 then -((v / 2:Nat):Int) - 1 else ((v / 2:Nat):Int)
theorem zag_zig (n:Int):zag (zig n)=n:=by
 unfold zig zag
 split
 ·rw [if_pos (by omega)];omega
 ·rw [if_neg (by omega)];omega
theorem zig_zag (v:Nat):zig (zag v)=v:=by
 unfold zig zag
 by_cases c:v % 2=1
 ·rw [if_pos c,if_pos (by omega)];omega
 ·rw [if_neg c,if_neg (by omega)];omega
theorem zig_lt {n:Int} (h : -9223372036854775808<=n) (h2:n<=9223372036854775807):zig n < 18446744073709551616:=by unfold zig;split <;> omega
theorem zag_b {v:Nat} (h:v < 18446744073709551616) : -9223372036854775808<=zag v/\zag v<=9223372036854775807:=by unfold zag;split <;> omega
def geti (l:List UInt8):Int × Nat × Nat:=if (getL l).2.2=0 then (zag (getL l).1,(getL l).2.1,0) else (0,0,(getL l).2.2)
def gv (r:Nat × Nat × Nat):Value:=.tuple #[.int .u64 (r.1:Int),.int .i64 (r.2.1:Int),.int .i64 (r.2.2:Int)]
theorem ret_gv {a b c:Int} {r:Nat × Nat × Nat} {w:World} (x y z:Nat) (h:r=(x,y,z)) (ha:a=x) (hb:b=y) (hc:c=z):Ret (gv r) w (.returned (.tuple #[.int .u64 a,.int .i64 b,.int .i64 c])) w:=by
 subst h ha hb hc;exact ⟨rfl,rfl⟩
theorem bytes_drop (D:ByteArray) (pos:Nat) (h:pos < D.size):D.data.toList.drop pos=D[pos] :: D.data.toList.drop (pos+1):=by
 rw [List.drop_eq_getElem_cons (by simpa using h)];rfl
theorem bytes_len (D:ByteArray):D.data.toList.length=D.size:=Array.length_toList
theorem or_join (u x k:Nat) (hu:u < 128 ^ k) (hx:u+x*128 ^ k < 18446744073709551616) (hk:k<=9):
  bits BinOp.or IntKind.u64 (u:Int) (IntKind.u64.wrap ((x:Int)*2 ^ (7*k)))=((u+x*128 ^ k:Nat):Int):=by
 have ep:(128:Nat) ^ k=2 ^ (7*k):=by rw [Nat.pow_mul]
 have hb:=pow_b hk
 rw [ep] at hu hx hb ⊢
 have e:IntKind.u64.wrap ((x:Int)*2 ^ (7*k))=((x*2 ^ (7*k):Nat):Int):=by
  rw [IntKind.wrap_u64,Int.natCast_mul,pow_cast,Int.emod_eq_of_lt]
  ·rw [<-pow_cast,<-Int.natCast_mul];omega
  ·rw [<-pow_cast,<-Int.natCast_mul];omega
 rw [e,u64_or_nat _ _ (by omega) (by omega)]
 congr 1
 rw [Nat.or_comm,Nat.mul_comm x,<-Nat.two_pow_add_eq_or_of_lt hu,Nat.add_comm]
theorem or_join9 (u x:Nat) (hu:u < 128 ^ 9) (hx:x<=1):bits BinOp.or IntKind.u64 (u:Int) ((x:Int)*9223372036854775808)=((u+x*128 ^ 9:Nat):Int):=by
 have h:=or_join u x 9 hu (by rw [pow_9] at hu ⊢;omega) (by decide)
 rw [<-h]
 congr 1
 rw [IntKind.wrap_u64,Int.emod_eq_of_lt (by omega) (by omega)]
 rfl
theorem or_end (u b k:Nat) (hu:u < 128 ^ k) (hb:b < 128) (hk:k<=8):bits BinOp.or IntKind.u64 (u:Int) (IntKind.u64.wrap ((b:Int) % 128*2 ^ (7*k)))=((u+b*128 ^ k:Nat):Int):=by
 have h3:b*128 ^ k<=127*128 ^ k:=Nat.mul_le_mul_right _ (by omega)
 have h4:=pow_b (k:=k+1) (by omega)
 rw [pow_s] at h4
 rw [<-or_join u b k hu (by omega) (by omega),Int.emod_eq_of_lt (by omega) (by omega)]
theorem on_lt {u b k:Nat} (hu:u < 128 ^ k):u+b % 128*128 ^ k < 128 ^ (k+1):=by
 have h3:b % 128*128 ^ k<=127*128 ^ k:=Nat.mul_le_mul_right _ (by omega)
 rw [pow_s];omega
theorem or_on (u b k:Nat) (hu:u < 128 ^ k) (hk:k<=8):bits BinOp.or IntKind.u64 (u:Int) (IntKind.u64.wrap ((b:Int) % 128*2 ^ (7*k)))=((u+b % 128*128 ^ k:Nat):Int):=by
 have h4:=pow_b (k:=k+1) (by omega)
 have:=on_lt (b:=b) hu
 rw [<-or_join u (b % 128) k hu (by omega) (by omega)]
 rfl
theorem or_nine (u b:Nat) (hu:u < 128 ^ 9) (hb:b<=1):bits BinOp.or IntKind.u64 (u:Int) ((b:Int) % 128*9223372036854775808)=((u+b*128 ^ 9:Nat):Int):=by
 rw [<-or_join9 u b hu hb,Int.emod_eq_of_lt (by omega) (by omega)]
theorem Get_any (D:ByteArray) (w:World) (hs:D.size<=maxLen):Calls Tryz.prog 94 #[.string D] w (Ret (gv (getL D.data.toList)) w):=by
 unfold maxLen at hs
 have HL:=Lib.hid (bytes_len D)
 by_cases h10:10 < D.size
 all_goals
  go_enter Tryz.func94,Tryz.ntmps94
  go_wp2
  go_loop [5,11] (fun v i=>∃ k u:Nat,k<=9/\k<=D.size/\i=.int .i64 k/\v=.int .u64 (u:Int)/\u < 128 ^ k/\getL D.data.toList=getF k u (D.data.toList.drop k)) (fun _ i=>D.size - (intOf i).toNat)
  case atStart=>exact ⟨0,0,by omega,by omega,rfl,rfl,by decide,rfl⟩
  case round=>
   obtain ⟨k,u,hk9,hk,rfl,rfl,hu,hg⟩:=hrel
   have HG:=Lib.hid hg
   have HU:=Lib.hid hu
   clear hg hu
   by_cases hlt:k < D.size
   ·have HD:=Lib.hid (bytes_drop D k hlt)
    generalize hb:D[k]=b at*
    have hb2:b.toNat < 256:=b.toNat_lt
    by_cases hb0:b.toNat=0
    ·have q0:((b.toNat:Int) == 0)=true:=by rw [hb0];rfl
     have hb1:b.toNat<=0:=by omega
     have HB:=Lib.hid hb0
     clear hb0
     by_cases hk0:k=0
     ·have HK:=Lib.hid hk0
      have hk1:k<=0:=by omega
      clear hk0
      go_wp2
      all_goals
       go_ret3
       refine ret_gv (u+b.toNat*128 ^ k) (k+1) 0 (by rw [HG.out,HD.out,getF_end (by omega) (by omega)]) ?_ (by rw [HK.out];rfl) rfl
       rw [<-or_join u b.toNat k HU.out (by rw [HB.out];have:=HU.out;have:=pow_b hk9;omega) hk9,HB.out]
       rfl
     ·have hk1:0 < k:=by omega
      clear hk0
      go_wp2
      all_goals
       go_ret3
       exact ret_gv 0 0 3 (by rw [HG.out,HD.out,getF_form (by omega)]) rfl rfl rfl
    ·have q0:((b.toNat:Int) == 0)=false:=by rw [beq_eq_false_iff_ne];omega
     have hb1:1<=b.toNat:=by omega
     clear hb0
     have OE:Hid (k ≠ 9->b.toNat < 128->bits BinOp.or IntKind.u64 (u:Int) (IntKind.u64.wrap ((b.toNat:Int) % 128*2 ^ (7*k)))=((u+b.toNat*128 ^ k:Nat):Int)):=Lib.hid fun h1 h2=>or_end u _ k HU.out h2 (by omega)
     have OO:Hid (k ≠ 9->bits BinOp.or IntKind.u64 (u:Int) (IntKind.u64.wrap ((b.toNat:Int) % 128*2 ^ (7*k)))=((u+b.toNat % 128*128 ^ k:Nat):Int)):=Lib.hid fun h1=>or_on u _ k HU.out (by omega)
     have ON:Hid (k=9->b.toNat<=1->bits BinOp.or IntKind.u64 (u:Int) ((b.toNat:Int) % 128*9223372036854775808)=((u+b.toNat*128 ^ k:Nat):Int)):=Lib.hid fun h1 h2=>by have:=HU.out;subst h1;exact or_nine u _ this h2
     have OU:Hid (k ≠ 9->u+b.toNat % 128*128 ^ k < 128 ^ (k+1)):=Lib.hid fun _=>on_lt HU.out
     go_wp2
     all_goals first
      | (go_ret3
         exact ret_gv 0 0 3 (by rw [HG.out,HD.out,getF_form (by omega)]) rfl rfl rfl)
      | (go_ret3
         exact ret_gv (u+b.toNat*128 ^ k) (k+1) 0 (by rw [HG.out,HD.out,getF_end (by omega) (by omega)]) (by first | exact OE.out (by omega) (by omega) | exact ON.out (by omega) (by omega)) (by omega) rfl)
      | (go_round
         case rel=>exact ⟨k+1,u+b.toNat % 128*128 ^ k,by omega,by omega,by go_num,by rw [OO.out (by omega)],OU.out (by omega),by rw [HG.out,HD.out,getF_on (by omega) (by omega)]⟩
         case measure=>simp [intOf];omega)
   ·go_wp2
    all_goals
     go_ret3
     exact ret_gv 0 0 9 (by rw [HG.out,List.drop_eq_nil_of_le (by rw [HL.out];omega)];rfl) rfl rfl rfl
theorem Get_ok {D:ByteArray} {x m:Nat} (w:World) (hs:D.size<=maxLen) (h:getL D.data.toList=(x,m,0)):Calls Tryz.prog 94 #[.string D] w (Ret (.tuple #[.int .u64 (x:Int),.int .i64 (m:Int),.int .i64 0]) w):=by
 have:=Get_any D w hs
 rw [h] at this
 exact this
theorem Get_form {D:ByteArray} (w:World) (hs:D.size<=maxLen) (h:getL D.data.toList=(0,0,3)):Calls Tryz.prog 94 #[.string D] w (Ret (.tuple #[.int .u64 0,.int .i64 0,.int .i64 3]) w):=by
 have:=Get_any D w hs
 rw [h] at this
 exact this
theorem Get_more {D:ByteArray} (w:World) (hs:D.size<=maxLen) (h:getL D.data.toList=(0,0,9)):Calls Tryz.prog 94 #[.string D] w (Ret (.tuple #[.int .u64 0,.int .i64 0,.int .i64 9]) w):=by
 have:=Get_any D w hs
 rw [h] at this
 exact this
abbrev WrAtZ (B b:Nat) (p:Value) (bs:List Value) (w:World):Prop:=Lib.BuilderAt 122 5 B b p bs w
abbrev WrZ (B b:Nat) (bs:List Value) (w:World):Prop:=Lib.IsBuilder 122 5 B b bs w
theorem infoBZ:(Tryz.prog.info? 71).map (·.size)=some 2:=by kernel_rfl
theorem infoUZ:(Tryz.prog.info? 5).map (fun i=>(i.zero,i.size,i.bytes))=some (some (.int .u8 0),1,1):=by kernel_rfl
theorem ptrBZ:Tryz.prog.underlying 68=some (.pointer 71):=by kernel_rfl
theorem ptrXZ:Tryz.prog.underlying 145=some .unsafePointer:=by kernel_rfl
theorem liesWZ:liesAt Tryz.prog Tryz.prog.depth 122 (2 / Tryz.prog.cellsOf 122) 0 71 1=true:=by kernel_rfl
theorem copyCheck_usedZ (b:Nat) (w:World) (h0:w.cell? ⟨b,0,none⟩=some (.pointer (some ⟨b,0,none⟩))):
  Calls Tryz.prog 67 #[.pointer (some ⟨b,0,none⟩)] w fun e w'=>e=.returned (.tuple #[])/\w'=w:=by
 obtain ⟨j,hj,_⟩:=Option.map_eq_some_iff.1 infoBZ
 go_enter Tryz.func67,Tryz.ntmps67
 go_wp2
 rw [Lib.run_neq_ptr_same w _ ptrBZ hj]
 go_wp2
 go_end0
 exact ⟨rfl,rfl⟩
theorem copyCheck_freshZ (b:Nat) (w:World) (h0:w.cell? ⟨b,0,none⟩=some (.pointer none)) (hsh:w.shape? b=some (122,2)) (hfz:w.frozen? ⟨b,0,none⟩=false):
  Calls Tryz.prog 67 #[.pointer (some ⟨b,0,none⟩)] w fun e w'=>e=.returned (.tuple #[])/\w'=w.setCell ⟨b,0,none⟩ (.pointer (some ⟨b,0,none⟩)):=by
 obtain ⟨j,hj,hjs⟩:=Option.map_eq_some_iff.1 infoBZ
 have hcv:(convert 68 145 (.pointer (some ⟨b,0,none⟩))).run Tryz.prog w=.ok (.pointer (some ⟨b,0,none⟩)) w:=
  Lib.run_to_unsafe w ⟨b,0,none⟩ ptrBZ ptrXZ hj (by rw [hjs];decide) hsh (Nat.zero_lt_succ 1)
 have hcb:(convert 145 68 (.pointer (some ⟨b,0,none⟩))).run Tryz.prog w=.ok (.pointer (some ⟨b,0,none⟩)) w:=
  Lib.run_from_unsafe w ⟨b,0,none⟩ ptrXZ ptrBZ hj hsh liesWZ
 have hcl:(callFunc 90 #[.pointer (some ⟨b,0,none⟩)]).run Tryz.prog w=.ok (.value (.pointer (some ⟨b,0,none⟩))) w:=by
  rw [run_callFunc_extern Tryz.func90 (by kernel_rfl) (by kernel_rfl) (by kernel_rfl) (e:=Extern.AbiNoEscape.same) (by kernel_rfl),Lib.run_noEscape]
  rfl
 go_enter Tryz.func67,Tryz.ntmps67
 go_wp2
 go_end0
 exact ⟨rfl,rfl⟩
theorem copyCheck_anyZ (B b:Nat) (bs:List Value) (w:World) (h:WrZ B b bs w):
  Calls Tryz.prog 67 #[.pointer (some ⟨b,0,none⟩)] w fun e w'=>e=.returned (.tuple #[])/\(WrAtZ B b (.pointer (some ⟨b,0,none⟩)) bs w'/\Below B w w'/\Lib.OthersKept 5 (some b) w w'):=by
 rcases h with h | h
 ·refine (copyCheck_freshZ b w h.cell0 h.shape h.frozen0).mono ?_
  rintro e w' ⟨rfl,rfl⟩
  exact ⟨rfl,h.used _,(Below.refl B w).setCell (p:=⟨b,0,none⟩) h.1 _,(Lib.OthersKept.refl _ _ w).setCell ⟨b,0,none⟩ rfl _⟩
 ·refine (copyCheck_usedZ b w h.cell0).mono ?_
  rintro e w' ⟨rfl,rfl⟩
  exact ⟨rfl,h,Below.refl B _,Lib.OthersKept.refl _ _ _⟩
theorem row_kindZ {w:World} {B:Nat} {e:TypeId} {v:Value} {n:Nat} {xs:List Value} (h:w.ownsRow B e 1 v n xs):∀ g,v.ownBlock=some g->∃ c fz,w.heap[g]?=some (.cells c e fz):=by
 intro g hg
 rcases h.2 with ⟨rfl,_⟩ | ⟨g',cap,cur,rfl,_,hgg,_⟩
 ·simp [Value.ownBlock] at hg
 ·simp only [Value.ownBlock,Option.some.injEq] at hg
  subst hg
  exact ⟨_,_,hgg⟩
theorem writeByte_anyZ (B b:Nat) (bs:List Value) (c:Int) (w:World) (h:WrZ B b bs w) (hlen:bs.length+1<=140737488355328) (hBw:B<=w.heap.size):
  Calls Tryz.prog 92 #[.pointer (some ⟨b,0,none⟩),.int .u8 c] w fun e w'=>e=.returned .nilIface/\(WrAtZ B b (.pointer (some ⟨b,0,none⟩)) (bs ++ [.int .u8 c]) w'/\Below B w w'/\Lib.OthersKept 5 (some b) w w'):=by
 obtain ⟨i0,hi,hz0,hz1,hz2⟩:=info_parts infoUZ
 go_enter Tryz.func92,Tryz.ntmps92
 go_wp2_with fail
 refine (copyCheck_anyZ B b bs _ h).mono ?_
 rintro e w1 ⟨rfl,h1,hb1,hk1⟩
 obtain ⟨hB,v,hbk,hown,hne⟩:=h1
 have c0:w1.cell? ⟨b,0,none⟩=some (.pointer (some ⟨b,0,none⟩)):=by rw [Lib.cell_of_heap hbk];rfl
 have c1:w1.cell? ⟨b,1,none⟩=some v:=by rw [Lib.cell_of_heap hbk];rfl
 go_wp2_with (at_builtin;refine wpList_append_own _ rfl _ _ 69 rfl B 5 i0 (.int .u8 0) 1 1 Tryz.underlying69 hi hz0 hz1 hz2 rfl (by decide) _ _ _ rfl (hown.alloc _) ⟨w1.heap.size,0,none⟩ 1 1 [.int .u8 c] rfl rfl ?c1 ?c2 ?c3 ?c4 ?c5 ?_)
 case c1=>
  intro j u hj
  match j,hj with
  | 0,hj=>simp at hj;subst hj;simp [Addr.add]
 case c2=>intro u hu;simp at hu;subst hu;rfl
 case c3=>unfold maxLen;omega
 case c4=>omega
 case c5=>have:=hb1.size;simp;omega
 intro v' w2 hown' hgrow _
 have hlt:b < w1.heap.size:=(Array.getElem?_eq_some_iff.1 hbk).1
 have hb2:w2.heap[b]?=some (.cells #[.pointer (some ⟨b,0,none⟩),v] 122 (0,0)):=by
  rw [hgrow.block b (by simp;omega) (fun e=>hne e.symm),Lib.alloc_old w1 _ b hlt]
  exact hbk
 have d0:w2.cell? ⟨b,0,none⟩=some (.pointer (some ⟨b,0,none⟩)):=by rw [Lib.cell_of_heap hb2];rfl
 have d1:w2.cell? ⟨b,1,none⟩=some v:=by rw [Lib.cell_of_heap hb2];rfl
 have f1:w2.frozen? ⟨b,1,none⟩=false:=Lib.frozen_of_heap hb2 1
 obtain ⟨g,cap,rfl⟩:∃ g cap,v'=.slice (some ⟨g,0,none⟩) (bs.length+1) cap:=by
  rcases hown'.2 with ⟨_,h0⟩ | ⟨g,cap,cur,hv,_⟩
  ·omega
  ·exact ⟨g,cap,hv⟩
 go_wp2
 go_ret
 refine ⟨rfl,?_,?_,((hk1.alloc _).grown hgrow (row_kindZ (hown.alloc _))).setCell ⟨b,1,none⟩ rfl _⟩
 ·exact Lib.BuilderAt.put hB hb2 (bs':=bs ++ [.int .u8 c]) (by simpa using hown') (by decide)
 ·exact ((hb1.alloc (by have:=hb1.size;omega) _).grown hgrow (by have:=hb1.size;simp;omega) (fun k hk=>(hown.lt k hk).1)).setCell (p:=⟨b,1,none⟩) hB _
theorem writeString_anyZ (B b:Nat) (bs:List Value) (s:ByteArray) (w:World) (h:WrZ B b bs w) (hlen:bs.length+s.size<=140737488355328) (hBw:B<=w.heap.size):
  Calls Tryz.prog 34 #[.pointer (some ⟨b,0,none⟩),.string s] w fun e w'=>e=.returned (.tuple #[.int .i64 s.size,.nilIface])/\(WrAtZ B b (.pointer (some ⟨b,0,none⟩)) (bs ++ Lib.strCells s) w'/\Below B w w'):=by
 obtain ⟨i0,hi,hz0,hz1,hz2⟩:=info_parts infoUZ
 go_enter Tryz.func34,Tryz.ntmps34
 go_wp2_with fail
 refine (copyCheck_anyZ B b bs _ h).mono ?_
 rintro e w1 ⟨rfl,h1,hb1,hk1⟩
 obtain ⟨hB,v,hbk,hown,hne⟩:=h1
 have c0:w1.cell? ⟨b,0,none⟩=some (.pointer (some ⟨b,0,none⟩)):=by rw [Lib.cell_of_heap hbk];rfl
 have c1:w1.cell? ⟨b,1,none⟩=some v:=by rw [Lib.cell_of_heap hbk];rfl
 go_wp2_with (at_builtin;refine Lib.wpList_append_own_string _ rfl _ _ 69 9 rfl B 5 i0 Tryz.underlying69 Tryz.underlying9 hi hz0 hz1 hz2 _ _ _ rfl hown s rfl ?c3 ?c4 ?c5 ?_)
 case c3=>unfold maxLen;omega
 case c4=>omega
 case c5=>have:=hb1.size;omega
 intro v' w2 hown' hgrow _
 have hlt:b < w1.heap.size:=(Array.getElem?_eq_some_iff.1 hbk).1
 have hb2:w2.heap[b]?=some (.cells #[.pointer (some ⟨b,0,none⟩),v] 122 (0,0)):=by
  rw [hgrow.block b hlt (fun e=>hne e.symm)]
  exact hbk
 have d0:w2.cell? ⟨b,0,none⟩=some (.pointer (some ⟨b,0,none⟩)):=by rw [Lib.cell_of_heap hb2];rfl
 have d1:w2.cell? ⟨b,1,none⟩=some v:=by rw [Lib.cell_of_heap hb2];rfl
 have f1:w2.frozen? ⟨b,1,none⟩=false:=Lib.frozen_of_heap hb2 1
 obtain ⟨ao,n',cap,rfl⟩:∃ ao n' cap,v'=.slice ao n' cap:=by
  rcases hown'.2 with ⟨hv,_⟩ | ⟨g,cap,cur,hv,_⟩
  ·exact ⟨_,_,_,hv⟩
  ·exact ⟨_,_,_,hv⟩
 go_wp2
 go_ret2
 refine ⟨rfl,?_,?_⟩
 ·exact Lib.BuilderAt.put hB hb2 (bs':=bs ++ Lib.strCells s) (by simpa [Lib.strCells_length] using hown') (by decide)
 ·exact (hb1.grown hgrow (by have:=hb1.size;omega) (fun k hk=>(hown.lt k hk).1)).setCell (p:=⟨b,1,none⟩) hB _
theorem string_someZ (B b:Nat) (l:List UInt8) (w:World) (h:WrZ B b (Lib.byteCells l) w) (h0:l ≠ []):
  Calls Tryz.prog 39 #[.pointer (some ⟨b,0,none⟩)] w fun e w'=>e=.returned (.string ⟨l.toArray⟩)/\Below B w w':=by
 obtain ⟨p,hB,v,hbk,hown,hne⟩:∃ p,WrAtZ B b p (Lib.byteCells l) w:=by
  rcases h with h | h
  ·exact ⟨_,h⟩
  ·exact ⟨_,h⟩
 have hl0:l.length ≠ 0:=by simpa using h0
 rw [Lib.byteCells_length] at hown
 obtain ⟨g,cap,cur,rfl,hbg,hg,hnc,hcm,hcs,htake⟩:∃ g cap cur,v=.slice (some ⟨g,0,none⟩) l.length cap/\B<=g/\w.heap[g]?=some (.cells cur 5 (0,0))/\l.length<=cap/\cap<=maxLen/\cur.size=cap*1/\cur.toList.take (l.length*1)=Lib.byteCells l:=by
  rcases hown.2 with ⟨_,hz⟩ | ⟨g,cap,cur,hv,r⟩
  ·exact absurd hz hl0
  ·exact ⟨g,cap,cur,hv,r⟩
 have c1:w.drew.cell? ⟨b,1,none⟩=some (.slice (some ⟨g,0,none⟩) l.length cap):=by
  have:w.drew.heap[b]?=some (.cells #[p,.slice (some ⟨g,0,none⟩) l.length cap] 122 (0,0)):=hbk
  rw [Lib.cell_of_heap this];rfl
 have hSD:(Builtin.unsafeSliceData_ #[69] 124 #[.slice (some ⟨g,0,none⟩) l.length cap]).run Tryz.prog w.drew=.ok (.pointer (some ⟨g,0,none⟩)) w.drew:=
  Lib.run_unsafeSliceData_row _ _ _ _ _ _ (by omega)
 have hUS:(Builtin.unsafeString_ #[124,3] 9 #[.pointer (some ⟨g,0,none⟩),.int .i64 l.length]).run Tryz.prog w.drew=.ok (.string ⟨l.toArray⟩) (w.drew.freeze ⟨g,0,none⟩ l.length):=by
  refine Lib.run_unsafeString_row w.drew 124 3 9 5 (by kernel_rfl) (by kernel_rfl) g cur.size (by have hg':w.drew.heap[g]?=some (.cells cur 5 (0,0)):=hg;simp [World.shape?,hg']) l h0 (by omega) (by unfold maxLen at hcm;omega) ?_
  intro j x hx
  have:=hown.cells (g:=g) rfl j (.int .u8 x.toNat) (by simp [Lib.byteCells,hx])
  exact this
 go_enter Tryz.func39,Tryz.ntmps39
 go_wp2
 go_region
 all_goals (go_wp2;go_ret;exact ⟨rfl,Lib.below_freeze (Below.drew (Below.refl B w)) (p:=⟨g,0,none⟩) hbg _⟩)
open Go.RowKit Go.Shelf
attribute [local go_sem] Oper.semAt_some
def goesOn {α:Type} (Bv:Nat) (I:List α->World->Prop) (xs:List α) (W:World):Exit->Act->World->Prop
 | .normal,_,W'=>KeepsOthers W W'/\W'.heap[Bv]?=W.heap[Bv]?/\I xs W'
 | _,_,_=>False
def Rounds {α:Type} (F:Fence) (m:Nat) (P:Program) (l:Nat) (encs:α->Array Value) (Bv N:Nat) (J:List α->World->Prop):Prop:=
 ∀ pre x W,J pre W->pre.length < N->YieldAt F m P l (encs x) W fun e W'=>e=.returned (.bool true)/\J (pre ++ [x]) W'/\W'.heap[Bv]?=W.heap[Bv]?
theorem wpIn_rangeFunc_cell {F:Fence} {n:Nat} {P:Program} {α:Type} {g:Operand} {ps:Array Tmp} {assign body:Code} {Q:Exit->Act->World->Prop} {a:Act} {w:World}
  (hro:F.round=none) (h1:1<=n) {gf:Nat} {lb:Array Value} (hg:a.eval g=.func (.func gf) #[] lb) (hFg:F.fn gf) (eg:∀ args w,(callFunc gf args).run P w=.ok (.enter gf args) w)
  {encs:α->Array Value} {S:List α->Prop} {N:Nat} (Bv:Nat) (hBv:Bv < w.heap.size)
  (hseq:∀ (l:Nat) (J:List α->World->Prop) (W:World),W.heap[Bv]?=w.heap[Bv]?->(∀ pre W v,J pre W->J pre (W.setCell ⟨Bv,0,none⟩ v))->Rounds F (n - 1 - 1) P l encs Bv N J->J [] W->
    CallsIn F (n - 1) P gf (#[.func (.yield l) #[] #[]] ++ lb) W fun e W'=>(∃ v,e=.returned v)/\∃ xs,S xs/\J xs W')
  (hps:∀ x,(encs x).size=ps.size)
  (I:List α->World->Prop) (hI:OwnFrom w.heap.size I) (hIV:∀ pre W v,I pre W->I pre (W.setCell ⟨Bv,0,none⟩ v)) (h0:I [] w) (a₁:α->Act)
  (hassign:∀ (l:Nat) (x:α) (W:World) (K:Act->World->Prop),K (a₁ x) W->
    assign.wpIn (F.inRound l) (n - 1 - 1) P (Exit.then K (fun _ _ _=>False)) { tmps:=(ps.zip (encs x)).foldl (fun t (p,v)=>t.setIfInBounds p v) a.tmps,defers:=[] } W)
  (hbody:∀ (l:Nat) (pre:List α) (x:α) (W:World),I pre W->pre.length < N->body.wpIn (F.inRound l) (n - 1 - 1) P (goesOn Bv I (pre ++ [x]) W) (a₁ x) W)
  (hdone:∀ (D:Nat) (xs:List α) (W:World),w.heap.size<=D->S xs->I xs W->W.heap[D]?=some (.deferred (some []))->Q .normal { a with defers:={ target:=.collected D,args:=#[] } :: a.defers } W):
  (Code.rangeFunc g ps assign body).wpIn F n P Q a w:=by
 refine wpIn_rangeFunc fun fn hfn=>?_
 rw [hro]
 obtain ⟨rec,hrec⟩:∃ rec:LoopState->Option Code->Loop,rec=fun st pe=>{ state:=st,pending:=pe,fn,tmps:=a.tmps,params:=ps,assign,body,defers:=w.heap.size }:=⟨_,rfl⟩
 obtain ⟨W1,hW1⟩:∃ W1,(w.alloc (.deferred (some []))).alloc (.loop (rec .ready none))=W1:=⟨_,rfl⟩
 have hL1:W1.heap[w.heap.size+1]?=some (.loop (rec .ready none)):=by
  have:=World.alloc_heap_new (w.alloc (.deferred (some []))) (.loop (rec .ready none))
  rw [World.size_alloc] at this
  rw [<-hW1];exact this
 have hK1:W1.heap[w.heap.size]?=some (.deferred (some [])):=by
  rw [<-hW1];exact (Below.heap_alloc _ _ _ (by simp)).trans (World.alloc_heap_new w _)
 have hI1:I [] W1:=by rw [<-hW1];exact hI.alloc _ (hI.alloc _ h0)
 have hV1:W1.heap[Bv]?=w.heap[Bv]?:=by
  rw [<-hW1];exact (Below.heap_alloc _ _ _ (by simp;omega)).trans (Below.heap_alloc w _ _ hBv)
 refine ⟨w.heap.size+1,[{ target:=.collected w.heap.size,args:=#[] }],W1,{ target:=.fn (.func gf) lb,args:=#[.func (.yield (w.heap.size+1)) #[] #[]] },W1,gf,
  #[.func (.yield (w.heap.size+1)) #[] #[]] ++ lb,W1,?_,?_,?_,?_,fun _=>h1,?_⟩
 ·rw [<-hW1,hrec];exact run_enterLoop_outer _ _ _ _ _
 ·simp only [resolve,hg]
  simp [go_sem]
 ·intro f' hf';simp [Target.leads] at hf';subst hf';exact hFg
 ·simp [invoke,go_sem,eg]
 refine (hseq (w.heap.size+1) (fun pre W=>I pre W/\W.heap[w.heap.size+1]?=some (.loop (rec .ready none))/\W.heap[w.heap.size]?=some (.deferred (some []))) W1 hV1
  (fun pre W v h=>⟨hIV pre W v h.1,(Below.heap_setCell W ⟨Bv,0,none⟩ v (w.heap.size+1) (by simp;omega)).trans h.2.1,(Below.heap_setCell W ⟨Bv,0,none⟩ v w.heap.size (by simp;omega)).trans h.2.2⟩)
  ?_ ⟨hI1,hL1,hK1⟩).mono ?_
 ·rintro pre x W ⟨hi,hl,hk⟩ hlen
  have hlt:w.heap.size+1 < W.heap.size:=(Array.getElem?_eq_some_iff.1 hl).1
  have hy:=run_yield (P:=P) (args:=encs x) hl (by rw [hrec];exact hps x)
  rw [hrec] at hy
  refine ⟨fn,_,assign,body,hy,roundIn_of_wpIn hfn (hassign _ x W _ ⟨_,run_beginRound hl (by rw [hrec]),?_⟩)⟩
  obtain ⟨W2,hW2⟩:∃ W2,W.putObj (w.heap.size+1) (.loop { rec .ready none with state:=.busy })=W2:=⟨_,rfl⟩
  rw [hW2]
  have hl2:W2.heap[w.heap.size+1]?=some (.loop { rec .ready none with state:=.busy }):=by rw [<-hW2];exact World.putObj_heap_same hlt
  have hk2:W2.heap[w.heap.size]?=some (.deferred (some [])):=by rw [<-hW2];exact (World.putObj_heap_other (by omega)).trans hk
  have hv2:W2.heap[Bv]?=W.heap[Bv]?:=by rw [<-hW2];exact World.putObj_heap_other (by omega)
  have hi2:I pre W2:=by rw [<-hW2];exact hI.putObj _ hi (by omega) hl rfl
  refine wpIn_mono (hbody _ pre x _ hi2 hlen) ?_
  rintro e a3 W3 hp
  cases e with
  | normal=>
   obtain ⟨hk3,hkp3,hi3⟩:=hp
   have hl3:=hk3.same _ _ hl2 rfl
   have hr:=run_endRound (P:=P) none hl3
   rw [hrec] at hr
   refine ⟨_,_,hr,rfl,⟨hI.putObj _ hi3 (by omega) hl3 rfl,?_,(World.putObj_heap_other (by omega)).trans (hk3.same _ _ hk2 rfl)⟩,(World.putObj_heap_other (by omega)).trans (hkp3.trans hv2)⟩
   rw [hrec]
   exact World.putObj_heap_same (Array.getElem?_eq_some_iff.1 hl3).1
  | ret=>exact hp.elim
  | exit id=>exact hp.elim
  | goto t=>exact hp.elim
  | panic ch=>exact hp.elim
  | outgrown=>exact hp.elim
 ·rintro e W2 ⟨⟨v,rfl⟩,xs,hS,hi,hl,hk⟩
  have hr:=run_endLoop (P:=P) hl (by rw [hrec];simp)
  rw [hrec] at hr
  exact ⟨none,_,hr,hdone _ xs _ (Nat.le_refl _) hS (hI.putObj _ hi (by omega) hl rfl) ((World.putObj_heap_other (by omega)).trans hk)⟩
def encB (c:UInt8):Array Value:=#[.int .u8 c.toNat]
theorem cell_blk {w:World} {b:Nat} {v:Value} {T:TypeId} (hb:w.heap[b]?=some (.cells #[v] T (0,0))):w.cell? ⟨b,0,none⟩=some v/\w.frozen? ⟨b,0,none⟩=false:=by
 constructor
 ·simp [World.cell?,hb]
 ·simp [World.frozen?,hb]
theorem set_blk {w:World} {b:Nat} {v x:Value} {T:TypeId} (hb:w.heap[b]?=some (.cells #[v] T (0,0))):(w.setCell ⟨b,0,none⟩ x).heap[b]?=some (.cells #[x] T (0,0)):=by
 simp [World.setCell,Array.getElem?_modify,hb]
def restOf (Bv:Nat) (w:World):Nat:=match w.cell? ⟨Bv,0,none⟩ with
 | some (.int _ n)=>n.toNat
 | _=>0
theorem restOf_eq {Bv u:Nat} {w:World} {T:TypeId} {k:IntKind} (hb:w.heap[Bv]?=some (.cells #[.int k (u:Int)] T (0,0))):restOf Bv w=u:=by
 unfold restOf;rw [(cell_blk hb).1];simp
theorem digits1_in (F:Fence) (n:Nat) (hf:F.fn 111) (hro:F.round=none) (hn:1<=n) (l Bv v:Nat) (hv:v < 18446744073709551616) (J:List UInt8->World->Prop)
  (hJ:∀ pre W x,J pre W->J pre (W.setCell ⟨Bv,0,none⟩ x)) (hY:Rounds F (n - 1) Tryz.prog l encB Bv (putL v).length J)
  (W:World) (hB:W.heap[Bv]?=some (.cells #[.int .u64 v] 77 (0,0))) (h0:J [] W):
  CallsIn F n Tryz.prog 111 #[.func (.yield l) #[] #[],.pointer (some ⟨Bv,0,none⟩)] W fun e W'=>(∃ x,e=.returned x)/\∃ xs,xs=putL v/\J xs W':=by
 have HV:=Lib.hid hv
 have HB0:=Lib.hid hB
 clear hB hv
 refine callsIn_of_wp Tryz.func111 rfl hf ?_ hro
 simp only [Tryz.ntmps111,List.size_toArray,List.length_cons,List.length_nil,Nat.reduceAdd,Nat.reduceSub,Array.replicate_succ,Array.replicate_zero,List.push_toArray,List.append_toArray,List.nil_append,List.cons_append]
 gi_wp2
 gi_loopw [3] (fun _ wr=>∃ (m u:Nat) (pre:List UInt8),putL v=pre ++ putF (m+1) u/\u < 128 ^ (m+1)/\u<=v/\wr.heap[Bv]?=some (.cells #[.int .u64 (u:Int)] 77 (0,0))/\J pre wr)
  (fun _ wr=>restOf Bv wr)
 case atStart=>exact ⟨9,v,[],rfl,Nat.lt_of_lt_of_le HV.out (by decide),Nat.le_refl _,HB0.out,h0⟩
 case round=>
  obtain ⟨m,u,pre,hp,hu,huv,hb,hj⟩:=hrel
  have HUV:=Lib.hid huv
  obtain ⟨hc,hfz⟩:=cell_blk hb
  have HR:=Lib.hid (restOf_eq hb)
  have HBB:=Lib.hid hb
  have hum:u < 18446744073709551616:=by have:=HV.out;omega
  clear hb huv
  by_cases c:u < 128
  ·obtain ⟨fn,tmps,assign,body,hy,hR⟩:=hY pre (UInt8.ofNat u) wr hj (by rw [hp,putF_small c];simp)
   have HP:Hid (pre ++ [UInt8.ofNat u]=putL v):=Lib.hid (by rw [hp,putF_small c])
   clear hp hu hY
   have hy2:(Instr.yield l #[.int .u8 (u:Int)]).run Tryz.prog wr=.ok (.round l fn tmps assign body) wr:=by
    rw [<-hy];unfold encB;rw [small_nat c]
   clear hy
   gi_wp2
   refine hR.mono ?_
   rintro e W3 ⟨rfl,hJ3,hk3⟩
   gi_wp2
   go_end0
   exact ⟨⟨_,rfl⟩,_,HP.out,hJ3⟩
  ·obtain ⟨m,rfl⟩:∃ m',m=m'+1:=by
    cases m with
    | zero=>exact absurd (by simpa using hu) c
    | succ m=>exact ⟨m,rfl⟩
   have c2:128<=u:=by omega
   clear c
   obtain ⟨fn,tmps,assign,body,hy,hR⟩:=hY pre (UInt8.ofNat (u % 128+128)) wr hj (by rw [hp,putF_big c2];simp)
   have HP:Hid (putL v=(pre ++ [UInt8.ofNat (u % 128+128)]) ++ putF (m+1) (u / 128)):=Lib.hid (by rw [hp,putF_big c2];simp)
   have HQ:Hid (u / 128 < 128 ^ (m+1)):=Lib.hid (Nat.div_lt_of_lt_mul (by rw [pow_s] at hu;exact hu))
   have HLE:Hid (u / 128<=v):=Lib.hid (Nat.le_trans (Nat.div_le_self _ _) HUV.out)
   clear hp hu
   have hy2:(Instr.yield l #[.int .u8 ((u:Int) % 128+128)]).run Tryz.prog wr=.ok (.round l fn tmps assign body) wr:=by
    rw [<-hy];unfold encB;rw [big_nat];rfl
   clear hy
   gi_wp2
   refine hR.mono ?_
   rintro e W3 ⟨rfl,hJ3,hk3⟩
   have hb3:=Lib.hid (hk3.trans HBB.out)
   have HK:=Lib.hid hk3
   clear hk3
   obtain ⟨hc3,hf3⟩:=cell_blk hb3.out
   gi_wp2
   go_roundw
   case rel=>exact ⟨m,u / 128,_,HP.out,HQ.out,HLE.out,set_blk hb3.out,hJ _ _ _ hJ3⟩
   case measure=>
    show restOf Bv (W3.setCell ⟨Bv,0,none⟩ (.int .u64 ((u / 128:Nat):Int))) < _
    rw [restOf_eq (set_blk hb3.out),HR.out];omega
open Go.RowKit Go.Shelf
theorem wr_kept {B b:Nat} {bs:List Value} {W W':World} {row:Option Nat} (h:WrZ B b bs W) (hg:W.grownBy W' row)
  (hr:∀ r,row=some r->∀ cs fz,W.heap[r]? ≠ some (.cells cs 122 fz)/\W.heap[r]? ≠ some (.cells cs 5 fz)):WrZ B b bs W':=by
 have key:∀ p,WrAtZ B b p bs W->WrAtZ B b p bs W':=by
  rintro p ⟨hB,v,hb,hown,hne⟩
  refine ⟨hB,v,?_,hown.kept hg ?_,hne⟩
  ·refine (hg.block b (Array.getElem?_eq_some_iff.1 hb).1 ?_).trans hb
   intro e;exact (hr b e.symm _ _).1 hb
  ·cases hv:v.ownBlock with
   | none=>exact .inl rfl
   | some g=>
    right
    intro e
    obtain ⟨c,fz,hc⟩:=row_kindZ hown g hv
    exact (hr g e.symm _ _).2 hc
 exact h.elim (fun x=>.inl (key _ x)) (fun x=>.inr (key _ x))
theorem grown_set (w:World) (b:Nat) (x:Value):w.grownBy (w.setCell ⟨b,0,none⟩ x) (some b):=
 ⟨rfl,rfl,rfl,by simp [World.setCell],fun k _ hk=>Below.heap_setCell _ _ _ _ (fun e=>hk (by simp [e]))⟩
theorem keeps_of {b B:Nat} {W W':World} (h:Lib.OthersKept 5 (some b) W W') (hb:Below B W W') (hc:∀ o,W.heap[b]?=some o->o.isCells=true):KeepsOthers W W':=
 ⟨hb.size,fun k o hk ho=>h k o hk (fun e=>by cases e;rw [hc o hk] at ho;cases ho) (fun c fz e=>by rw [e] at ho;cases ho)⟩
theorem wr_cells {B b:Nat} {bs:List Value} {W:World} (h:WrZ B b bs W):∃ cs fz,W.heap[b]?=some (.cells cs 122 fz):=by
 rcases h with ⟨_,v,h,_⟩ | ⟨_,v,h,_⟩
 ·exact ⟨_,_,h⟩
 ·exact ⟨_,_,h⟩
theorem digits_any (v:Nat) (w:World):Calls Tryz.prog 91 #[.int .u64 v] w fun e w'=>e=.returned (.func (.func 111) #[] #[.pointer (some ⟨w.heap.size,0,none⟩)])/\w'=w.alloc (.cells #[.int .u64 v] 77):=by
 go_enter Tryz.func91,Tryz.ntmps91
 go_wp2
 go_ret
 exact ⟨rfl,rfl⟩
def NumI (B b bp Bv:Nat) (bs:List Value) (w:World) (pre:List UInt8) (W:World):Prop:=
 (WrZ B b (bs ++ Lib.byteCells pre) W/\W.heap[bp]?=some (.cells #[.pointer (some ⟨b,0,none⟩)] 120 (0,0))/\∃ x,W.heap[Bv]?=some (.cells #[x] 77 (0,0)))/\Below B w W
attribute [local go_sem] Oper.semAt_some
theorem number_any (B b:Nat) (bs:List Value) (v:Nat) (hv:v < 18446744073709551616) (w:World) (h:WrZ B b bs w) (hlen:bs.length+10<=140737488355328) (hBw:B<=w.heap.size):
  Calls Tryz.prog 68 #[.pointer (some ⟨b,0,none⟩),.int .u64 v] w fun e w'=>e=.returned (.tuple #[])/\WrZ B b (bs ++ Lib.byteCells (putL v)) w'/\Below B w w':=by
 have HN:=Lib.hid (putL_len hv)
 have HV:=Lib.hid hv
 clear hv
 obtain ⟨cb,fzb,hcb⟩:=wr_cells h
 have hbl:b < w.heap.size:=(Array.getElem?_eq_some_iff.1 hcb).1
 clear hcb
 have H:=Lib.hid h
 clear h
 refine (callsIn_wide (n:=4)).1 ?_
 refine callsIn_of_wp_marks Tryz.func68 rfl trivial ?_ rfl
 simp only [Tryz.ntmps68,List.size_toArray,List.length_cons,List.length_nil,Nat.reduceAdd,Nat.reduceSub,Array.replicate_succ,Array.replicate_zero,List.push_toArray,List.append_toArray,List.nil_append,List.cons_append]
 gi_wp2_with (refine ⟨trivial,?_⟩;gi_at_call 91;refine (callsIn_wide.2 (digits_any v _)).mono ?_;rintro e w' ⟨rfl,rfl⟩)
 obtain ⟨W0,hW0⟩:∃ W0,(w.alloc (.cells #[.pointer (some ⟨b,0,none⟩)] 120)).alloc (.cells #[.int .u64 v] 77)=W0:=⟨_,rfl⟩
 have hz:W0.heap.size=w.heap.size+2:=by rw [<-hW0];simp
 have h1:W0.heap[w.heap.size]?=some (.cells #[.pointer (some ⟨b,0,none⟩)] 120 (0,0)):=by
  rw [<-hW0,Lib.alloc_old _ _ _ (by simp)];exact World.alloc_heap_new _ _
 have h2:W0.heap[w.heap.size+1]?=some (.cells #[.int .u64 v] 77 (0,0)):=by
  rw [<-hW0];have:=World.alloc_heap_new (w.alloc (.cells #[.pointer (some ⟨b,0,none⟩)] 120)) (.cells #[.int .u64 v] 77);rwa [World.size_alloc] at this
 have h3:Below B w W0:=by rw [<-hW0];exact ((Below.refl B w).alloc hBw _).alloc (by simp;omega) _
 have h4:WrZ B b (bs ++ Lib.byteCells []) W0:=by
  rw [<-hW0]
  refine wr_kept (wr_kept (by simpa [Lib.byteCells] using H.out) (World.grownBy_alloc w _ none) (by intro r e;cases e)) (World.grownBy_alloc _ _ none) (by intro r e;cases e)
 rw [hW0]
 have hfr:NumI B b w.heap.size (w.heap.size+1) bs w [] W0:=⟨⟨h4,h1,_,h2⟩,h3⟩
 clear h1 h3 h4
 refine wpIn_rangeFunc_cell rfl (by omega) (gf:=111) (lb:=#[.pointer (some ⟨w.heap.size+1,0,none⟩)]) rfl trivial (enters_of Tryz.func111 (by kernel_rfl) rfl)
  (encs:=encB) (S:=fun xs=>xs=putL v) (N:=(putL v).length) (w.heap.size+1) (by omega)
  (fun l J W hW hJ hY h0=>digits1_in Fence.wide _ trivial rfl (by omega) l (w.heap.size+1) v HV.out J hJ hY W (hW.trans h2) h0)
  (fun _=>rfl) (NumI B b w.heap.size (w.heap.size+1) bs w) ?own ?setv hfr
  (fun x=>{ tmps:=#[.pointer (some ⟨b,0,none⟩),.int .u64 v,.pointer (some ⟨w.heap.size,0,none⟩),undef,.int .u8 x.toNat,.int .u64 v,.func (.func 111) #[] #[.pointer (some ⟨w.heap.size+1,0,none⟩)],.int .u8 x.toNat,undef,undef,undef,undef,undef],defers:=[] }) ?assign ?body ?done
 case own=>
  rintro s A C row ⟨⟨hw,hp,x,hx⟩,hb⟩ hg hr
  refine ⟨⟨wr_kept hw hg (fun r e cs fz=>?_),(grownBy_keeps_cells hg (fun r e=>(hr r e).2) hp rfl).trans hp,x,(grownBy_keeps_cells hg (fun r e=>(hr r e).2) hx rfl).trans hx⟩,hb.grown hg (Nat.le_trans hBw hb.size) (fun k e=>by have:=(hr k e).1;omega)⟩
  obtain ⟨_,o,ho,hc⟩:=hr r e
  constructor <;> (intro h;rw [h] at ho;cases ho;cases hc)
 case setv=>
  rintro pre W y ⟨⟨hw,hp,x,hx⟩,hb⟩
  refine ⟨⟨wr_kept hw (grown_set W _ y) (fun r e cs fz=>?_),(Below.heap_setCell W ⟨w.heap.size+1,0,none⟩ y w.heap.size (by simp)).trans hp,y,set_blk hx⟩,hb.setCell (p:=⟨w.heap.size+1,0,none⟩) (by simp;omega) y⟩
  cases e
  rw [hx]
  constructor <;> (intro h;simp at h)
 case assign=>
  intro l x W K hK
  unfold encB
  gi_wp2
  exact hK
 case body=>
  rintro l pre x W ⟨⟨hw,hp,x0,hx⟩,hb⟩ hlen1
  have hl2:(bs ++ Lib.byteCells pre).length+1<=140737488355328:=by
   have:=HN.out.2.1
   rw [List.length_append,Lib.byteCells_length];omega
  have hB2:B<=W.heap.size:=Nat.le_trans hBw hb.size
  have hc:=(cell_blk hp).1
  have HCB:Hid (∀ o,W.heap[b]?=some o->o.isCells=true):=Lib.hid (by
   obtain ⟨cs,fz,hcs⟩:=wr_cells hw
   intro o ho;rw [hcs] at ho;cases ho;rfl)
  have HCALL:=Lib.hid (CallsIn.inRound (n:=1) l (callsIn_wide.2 (writeByte_anyZ B b _ x.toNat _ hw hl2 hB2)))
  have HP:=Lib.hid hp
  have HX:=Lib.hid hx
  clear hp hx hl2 hlen1 hw
  gi_wp2_with (refine ⟨trivial,?_⟩;gi_at_call 92;refine HCALL.out.mono ?_;rintro e W3 ⟨rfl,h3,hb3,ho3⟩)
  refine ⟨keeps_of ho3 hb3 HCB.out,?_,⟨?_,?_,?_⟩,hb.trans hb3⟩
  ·rw [HX.out];exact ho3 _ _ HX.out (by simp;omega) (by intro c fz e;simp at e)
  ·rw [Lib.byteCells_append,<-List.append_assoc];exact .inr h3
  ·exact ho3 _ _ HP.out (by simp;omega) (by intro c fz e;simp at e)
  ·exact ⟨x0,ho3 _ _ HX.out (by simp;omega) (by intro c fz e;simp at e)⟩
 case done=>
  rintro D ys W hD rfl ⟨⟨hw,hp,x,hx⟩,hb⟩ hK
  gi_wp2
  refine ⟨by simp,.inl ⟨_,_,rfl,run_takeDeferred hK,?_⟩⟩
  refine ⟨_,results_none rfl _ _ _,rfl,?_,?_⟩
  ·refine wr_kept hw (grownBy_putObj' W D _) (fun r e cs fz=>?_)
   cases e
   rw [hK]
   constructor <;> (intro h;simp at h)
  ·exact hb.grown (grownBy_putObj' W D _) (Nat.le_trans hBw hb.size) (fun k e=>by cases e;omega)
def putB (v:Nat):ByteArray:=⟨(putL v).toArray⟩
theorem putB_list (v:Nat):(putB v).data.toList=putL v:=rfl
theorem putB_size (v:Nat):(putB v).size=(putL v).length:=by show (putL v).toArray.size=_;simp
theorem Put_at (x:Int) (v:Nat) (hx:x=v) (hv:v < 18446744073709551616) (w:World):Calls Tryz.prog 35 #[.int .u64 x] w (RetB (.string (putB v)) w):=by
 subst hx
 have HF:Hid (∀ b w1,WrZ w.heap.size b [] w1->w.heap.size<=w1.heap.size->Calls Tryz.prog 68 #[.pointer (some ⟨b,0,none⟩),.int .u64 v] w1 fun e w'=>e=.returned (.tuple #[])/\WrZ w.heap.size b (Lib.byteCells (putL v)) w'/\Below w.heap.size w1 w'):=
  Lib.hid fun b w1 h hb=>by simpa using number_any w.heap.size b [] v hv w1 h (by simp) hb
 have HS:Hid (∀ b w1,WrZ w.heap.size b (Lib.byteCells (putL v)) w1->Calls Tryz.prog 39 #[.pointer (some ⟨b,0,none⟩)] w1 fun e w'=>e=.returned (.string (putB v))/\Below w.heap.size w1 w'):=
  Lib.hid fun b w1 h=>string_someZ w.heap.size b (putL v) w1 h (fun e=>by have:=(putL_len hv).1;rw [e] at this;simp at this)
 have H0:=Lib.hid (Lib.fresh_isBuilder 122 5 w)
 have HB:=Lib.hid (((Below.refl w.heap.size w).alloc (Nat.le_refl _) (.cells #[.pointer none,.slice none 0 0] 122)))
 clear hv
 go_enter Tryz.func35,Tryz.ntmps35
 go_wp2_with fail
 refine (HF.out _ _ H0.out (by simp)).mono ?_
 rintro e w1 ⟨rfl,h1,hb1⟩
 have H1:=Lib.hid h1
 have HB1:=Lib.hid (HB.out.trans hb1)
 clear h1 hb1
 go_wp2_with fail
 refine (HS.out _ _ H1.out).mono ?_
 rintro e w2 ⟨rfl,hb2⟩
 have HB2:=Lib.hid (HB1.out.trans hb2)
 clear hb2
 go_wp2
 go_ret
 exact ⟨rfl,HB2.out⟩
def textB (s:ByteArray):ByteArray:=⟨(putL s.size ++ s.data.toList).toArray⟩
theorem PutText_any (s:ByteArray) (hs:s.size<=100000000000000) (w:World):Calls Tryz.prog 36 #[.string s] w (RetB (.string (textB s)) w):=by
 have HF:Hid (∀ b w1,WrZ w.heap.size b [] w1->w.heap.size<=w1.heap.size->Calls Tryz.prog 68 #[.pointer (some ⟨b,0,none⟩),.int .u64 s.size] w1 fun e w'=>e=.returned (.tuple #[])/\WrZ w.heap.size b (Lib.byteCells (putL s.size)) w'/\Below w.heap.size w1 w'):=
  Lib.hid fun b w1 h hb=>by simpa using number_any w.heap.size b [] s.size (by omega) w1 h (by simp) hb
 have HW:Hid (∀ b w1,WrZ w.heap.size b (Lib.byteCells (putL s.size)) w1->w.heap.size<=w1.heap.size->Calls Tryz.prog 34 #[.pointer (some ⟨b,0,none⟩),.string s] w1 fun e w'=>e=.returned (.tuple #[.int .i64 s.size,.nilIface])/\WrZ w.heap.size b (Lib.byteCells (putL s.size ++ s.data.toList)) w'/\Below w.heap.size w1 w'):=
  Lib.hid fun b w1 h hb=>(writeString_anyZ w.heap.size b (Lib.byteCells (putL s.size)) s w1 h (by rw [Lib.byteCells_length];have:=(putL_len (v:=s.size) (by omega)).2.1;omega) hb).mono fun e w' ⟨h1,h2,h3⟩=>⟨h1,.inr (by rw [Lib.byteCells_append];exact h2),h3⟩
 have HS:Hid (∀ b w1,WrZ w.heap.size b (Lib.byteCells (putL s.size ++ s.data.toList)) w1->Calls Tryz.prog 39 #[.pointer (some ⟨b,0,none⟩)] w1 fun e w'=>e=.returned (.string (textB s))/\Below w.heap.size w1 w'):=
  Lib.hid fun b w1 h=>string_someZ w.heap.size b _ w1 h (fun e=>by have:=(putL_len (v:=s.size) (by omega)).1;rw [(List.append_eq_nil_iff.1 e).1] at this;simp at this)
 have H0:=Lib.hid (Lib.fresh_isBuilder 122 5 w)
 have HB:=Lib.hid (((Below.refl w.heap.size w).alloc (Nat.le_refl _) (.cells #[.pointer none,.slice none 0 0] 122)))
 go_enter Tryz.func36,Tryz.ntmps36
 go_wp2_with fail
 refine (HF.out _ _ H0.out (by simp)).mono ?_
 rintro e w1 ⟨rfl,h1,hb1⟩
 have H1:=Lib.hid h1
 have HB1:=Lib.hid (HB.out.trans hb1)
 clear h1 hb1
 go_wp2_with fail
 refine (HW.out _ _ H1.out HB1.out.size).mono ?_
 rintro e w2 ⟨rfl,h2,hb2⟩
 have H2:=Lib.hid h2
 have HB2:=Lib.hid (HB1.out.trans (hb2))
 clear hb2 h2
 go_wp2_with fail
 refine (HS.out _ _ H2.out).mono ?_
 rintro e w3 ⟨rfl,hb3⟩
 have HB3:=Lib.hid (HB2.out.trans hb3)
 clear hb3
 go_wp2
 go_ret
 exact ⟨rfl,HB3.out⟩
theorem zig_wrap (n:Int) (h0 : -9223372036854775808<=n) (h1:n < 0):IntKind.u64.wrap (IntKind.u64.wrap (2*IntKind.u64.wrap (-IntKind.u64.wrap n)) - 1)=(zig n:Nat):=by
 simp only [IntKind.wrap_u64]
 unfold zig
 rw [if_pos h1]
 omega
theorem zig_wrap2 (n:Int) (h0:0<=n) (h1:n<=9223372036854775807):2*n=(zig n:Nat):=by
 unfold zig
 rw [if_neg (by omega)]
 omega
theorem PutInt_any (n:Int) (h0 : -9223372036854775808<=n) (h1:n<=9223372036854775807) (w:World):Calls Tryz.prog 38 #[.int .i64 n] w (RetB (.string (putB (zig n))) w):=by
 have HZ:=Lib.hid (zig_lt h0 h1)
 by_cases c:n < 0
 ·have HE:=Lib.hid (zig_wrap n h0 c)
  go_enter Tryz.func38,Tryz.ntmps38
  go_wp2_with fail
  refine (Put_at _ _ HE.out HZ.out _).mono ?_
  rintro e w1 ⟨rfl,hb⟩
  have HB:=Lib.hid hb
  clear hb
  go_wp2
  go_ret
  exact ⟨rfl,HB.out⟩
 ·have HE:=Lib.hid (zig_wrap2 n (by omega) h1)
  go_enter Tryz.func38,Tryz.ntmps38
  go_wp2_with fail
  refine (Put_at _ _ HE.out HZ.out _).mono ?_
  rintro e w1 ⟨rfl,hb⟩
  have HB:=Lib.hid hb
  clear hb
  go_wp2
  go_ret
  exact ⟨rfl,HB.out⟩
def iv (r:Int × Nat × Nat):Value:=.tuple #[.int .i64 r.1,.int .i64 (r.2.1:Int),.int .i64 (r.2.2:Int)]
theorem ret_iv {a b c:Int} {r:Int × Nat × Nat} {w:World} (x:Int) (y z:Nat) (h:r=(x,y,z)) (ha:a=x) (hb:b=y) (hc:c=z):Ret (iv r) w (.returned (.tuple #[.int .i64 a,.int .i64 b,.int .i64 c])) w:=by
 subst h ha hb hc;exact ⟨rfl,rfl⟩
theorem geti_ok {l:List UInt8} {x m:Nat} (h:getL l=(x,m,0)):geti l=(zag x,m,0):=by unfold geti;rw [h,if_pos rfl]
theorem geti_bad {l:List UInt8} {e:Nat} (h:getL l=(0,0,e)) (he:e ≠ 0):geti l=(0,0,e):=by unfold geti;rw [h,if_neg he]
theorem zag_odd {x:Nat} (h:((x:Int) % 2 == 1)=true) : -((x:Int) / 2) - 1=zag x:=by
 have:(x:Int) % 2=1:=by simpa using h
 unfold zag;rw [if_pos (by omega)];omega
theorem zag_even {x:Nat} (h:((x:Int) % 2 == 1)=false):(x:Int) / 2=zag x:=by
 have:(x:Int) % 2 ≠ 1:=by simpa using h
 unfold zag;rw [if_neg (by omega)];omega
theorem GetInt_any (D:ByteArray) (w:World) (hs:D.size<=maxLen):Calls Tryz.prog 114 #[.string D] w (Ret (iv (geti D.data.toList)) w):=by
 rcases getL_kind D.data.toList with ⟨x,m,h⟩ | h | h
 ·have HI:=Lib.hid (geti_ok h)
  have hx:=(getL_only h).2.2.2.2
  have hm:=(getL_only h).2.1
  have HG:=Lib.hid (Get_ok w hs h)
  clear h
  cases cc:((x:Int) % 2 == 1)
  ·have HZ:=Lib.hid (zag_even cc)
   go_enter Tryz.func114,Tryz.ntmps114
   go_wp2_with (go_at_call 94;((with_reducible refine (HG.out).mono ?_);rintro e w' ⟨rfl,rfl⟩))
   go_ret3
   exact ret_iv _ _ _ HI.out HZ.out rfl rfl
  ·have HZ:=Lib.hid (zag_odd cc)
   go_enter Tryz.func114,Tryz.ntmps114
   go_wp2_with (go_at_call 94;((with_reducible refine (HG.out).mono ?_);rintro e w' ⟨rfl,rfl⟩))
   go_ret3
   exact ret_iv _ _ _ HI.out HZ.out rfl rfl
 ·have HI:=Lib.hid (geti_bad h (by decide))
  have HG:=Lib.hid (Get_form w hs h)
  clear h
  go_enter Tryz.func114,Tryz.ntmps114
  go_wp2_with (go_at_call 94;((with_reducible refine (HG.out).mono ?_);rintro e w' ⟨rfl,rfl⟩))
  go_ret3
  exact ret_iv _ _ _ HI.out rfl rfl rfl
 ·have HI:=Lib.hid (geti_bad h (by decide))
  have HG:=Lib.hid (Get_more w hs h)
  clear h
  go_enter Tryz.func114,Tryz.ntmps114
  go_wp2_with (go_at_call 94;((with_reducible refine (HG.out).mono ?_);rintro e w' ⟨rfl,rfl⟩))
  go_ret3
  exact ret_iv _ _ _ HI.out rfl rfl rfl
def getT (D:ByteArray) (most:Int):ByteArray × Nat × Nat:=
 if most < 0\/1000000 < most then (⟨#[]⟩,0,1) else if (getL D.data.toList).2.2 ≠ 0 then (⟨#[]⟩,0,(getL D.data.toList).2.2) else if most < (getL D.data.toList).1 then (⟨#[]⟩,0,2)
 else if D.size < (getL D.data.toList).2.1+(getL D.data.toList).1 then (⟨#[]⟩,0,9) else (D.extract (getL D.data.toList).2.1 ((getL D.data.toList).2.1+(getL D.data.toList).1),(getL D.data.toList).2.1+(getL D.data.toList).1,0)
theorem getT_arg {D:ByteArray} {most:Int} (h:most < 0\/1000000 < most):getT D most=(⟨#[]⟩,0,1):=by unfold getT;rw [if_pos h]
theorem getT_bad {D:ByteArray} {most:Int} {e:Nat} (h:¬ (most < 0\/1000000 < most)) (hg:getL D.data.toList=(0,0,e)) (he:e ≠ 0):getT D most=(⟨#[]⟩,0,e):=by unfold getT;rw [if_neg h,hg,if_pos he]
theorem getT_limit {D:ByteArray} {most:Int} {x m:Nat} (h:¬ (most < 0\/1000000 < most)) (hg:getL D.data.toList=(x,m,0)) (h2:most < x):getT D most=(⟨#[]⟩,0,2):=by
 unfold getT;rw [if_neg h,hg,if_neg (by simp),if_pos h2]
theorem getT_more {D:ByteArray} {most:Int} {x m:Nat} (h:¬ (most < 0\/1000000 < most)) (hg:getL D.data.toList=(x,m,0)) (h2:¬ most < x) (h3:D.size < m+x):getT D most=(⟨#[]⟩,0,9):=by
 unfold getT;rw [if_neg h,hg,if_neg (by simp),if_neg h2,if_pos h3]
theorem getT_ok {D:ByteArray} {most:Int} {x m:Nat} (h:¬ (most < 0\/1000000 < most)) (hg:getL D.data.toList=(x,m,0)) (h2:¬ most < x) (h3:¬ D.size < m+x):getT D most=(D.extract m (m+x),m+x,0):=by
 unfold getT;rw [if_neg h,hg,if_neg (by simp),if_neg h2,if_neg h3]
def tv (r:ByteArray × Nat × Nat):Value:=.tuple #[.string r.1,.int .i64 (r.2.1:Int),.int .i64 (r.2.2:Int)]
theorem ret_tv {a:ByteArray} {b c:Int} {r:ByteArray × Nat × Nat} {w:World} (x:ByteArray) (y z:Nat) (h:r=(x,y,z)) (ha:a=x) (hb:b=y) (hc:c=z):Ret (tv r) w (.returned (.tuple #[.string a,.int .i64 b,.int .i64 c])) w:=by
 subst h ha hb hc;exact ⟨rfl,rfl⟩
theorem GetText_any (D:ByteArray) (most:Int) (h0 : -9223372036854775808<=most) (h1:most<=9223372036854775807) (w:World) (hs:D.size<=maxLen):Calls Tryz.prog 113 #[.string D,.int .i64 most] w (Ret (tv (getT D most)) w):=by
 have HM0:=Lib.hid hs
 unfold maxLen at hs
 by_cases cm:most < 0\/1000000 < most
 ·have HI:=Lib.hid (getT_arg (D:=D) cm)
  rcases cm with cm | cm
  ·go_enter Tryz.func113,Tryz.ntmps113
   go_wp2
   go_ret3
   exact ret_tv _ _ _ HI.out rfl rfl rfl
  ·have cm2:0<=most:=by omega
   go_enter Tryz.func113,Tryz.ntmps113
   go_wp2
   go_ret3
   exact ret_tv _ _ _ HI.out rfl rfl rfl
 ·have HM:=Lib.hid cm
  have m0:0<=most:=by omega
  have m1:most<=1000000:=by omega
  clear cm
  rcases getL_kind D.data.toList with ⟨x,m,h⟩ | h | h
  ·obtain ⟨g1,g2,g3,g4,hx⟩:=getL_only h
   rw [bytes_len] at g3
   have HH:=Lib.hid h
   clear g4
   have HG:=Lib.hid (Get_ok w HM0.out h)
   clear h
   by_cases c2:most < x
   ·have HI:=Lib.hid (getT_limit HM.out HH.out c2)
    go_enter Tryz.func113,Tryz.ntmps113
    go_wp2_with (go_at_call 94;((with_reducible refine (HG.out).mono ?_);rintro e w' ⟨rfl,rfl⟩))
    go_ret3
    exact ret_tv _ _ _ HI.out rfl rfl rfl
   ·by_cases c3:D.size < m+x
    ·have HI:=Lib.hid (getT_more HM.out HH.out c2 c3)
     have c2':(x:Int)<=most:=by omega
     have c3':(D.size:Int) - m < x:=by omega
     have c4:(0:Int)<=(D.size:Int) - m:=by omega
     clear c2 c3
     go_enter Tryz.func113,Tryz.ntmps113
     go_wp2_with (go_at_call 94;((with_reducible refine (HG.out).mono ?_);rintro e w' ⟨rfl,rfl⟩))
     go_ret3
     exact ret_tv _ _ _ HI.out rfl rfl rfl
    ·have HI:=Lib.hid (getT_ok HM.out HH.out c2 c3)
     have c2':(x:Int)<=most:=by omega
     have c3':(x:Int)<=(D.size:Int) - m:=by omega
     have c4:(0:Int)<=(D.size:Int) - m:=by omega
     have c5:(m:Int)+x<=D.size:=by omega
     clear c2 c3
     go_enter Tryz.func113,Tryz.ntmps113
     go_wp2_with (go_at_call 94;((with_reducible refine (HG.out).mono ?_);rintro e w' ⟨rfl,rfl⟩))
     go_ways
     all_goals go_ret3
     all_goals exact ret_tv _ _ _ HI.out (by simp;done) (by simp;done) rfl
  ·have HI:=Lib.hid (getT_bad HM.out h (by decide))
   have HG:=Lib.hid (Get_form w HM0.out h)
   clear h
   go_enter Tryz.func113,Tryz.ntmps113
   go_wp2_with (go_at_call 94;((with_reducible refine (HG.out).mono ?_);rintro e w' ⟨rfl,rfl⟩))
   go_ret3
   exact ret_tv _ _ _ HI.out rfl rfl rfl
  ·have HI:=Lib.hid (getT_bad HM.out h (by decide))
   have HG:=Lib.hid (Get_more w HM0.out h)
   clear h
   go_enter Tryz.func113,Tryz.ntmps113
   go_wp2_with (go_at_call 94;((with_reducible refine (HG.out).mono ?_);rintro e w' ⟨rfl,rfl⟩))
   go_ret3
   exact ret_tv _ _ _ HI.out rfl rfl rfl
end Go.Proofs.YthkolmebokfagaaGreatDoor.Wi
namespace Go.Proofs.YthkolmebokfagaaGreatDoor
open Go.ChangeShapes Go.WideShapes Go.Deep Go.RowKit
open Go.Proofs.YthkolmebokfagaaGreatDoor.Wi (putL putL_len putB putB_size putB_list Put_at textB PutText_any PutInt_any zig zig_lt)
theorem writeString_kept (B b:Nat) (bs:List Value) (s:ByteArray) (w:World) (h:Wr B b bs w) (hlen:bs.length+s.size<=140737488355328) (hBw:B<=w.heap.size):
  Calls Tryz.prog 34 #[.pointer (some ⟨b,0,none⟩),.string s] w fun e w'=>e=.returned (.tuple #[.int .i64 s.size,.nilIface])/\(WrAt B b (.pointer (some ⟨b,0,none⟩)) (bs ++ Lib.strCells s) w'/\Below B w w'/\Lib.OthersKept 5 (some b) w w'):=by
 obtain ⟨i0,hi,hz0,hz1,hz2⟩:=info_parts infoU
 go_enter Tryz.func34,Tryz.ntmps34
 go_wp2_with fail
 refine (copyCheck_any B b bs _ h).mono ?_
 rintro e w1 ⟨rfl,h1,hb1,hk1⟩
 obtain ⟨hB,v,hbk,hown,hne⟩:=h1
 have c0:w1.cell? ⟨b,0,none⟩=some (.pointer (some ⟨b,0,none⟩)):=by rw [Lib.cell_of_heap hbk];rfl
 have c1:w1.cell? ⟨b,1,none⟩=some v:=by rw [Lib.cell_of_heap hbk];rfl
 go_wp2_with (at_builtin;refine Lib.wpList_append_own_string _ rfl _ _ 69 9 rfl B 5 i0 Tryz.underlying69 Tryz.underlying9 hi hz0 hz1 hz2 _ _ _ rfl hown s rfl ?c3 ?c4 ?c5 ?_)
 case c3=>unfold maxLen;omega
 case c4=>omega
 case c5=>have:=hb1.size;omega
 intro v' w2 hown' hgrow _
 have hlt:b < w1.heap.size:=(Array.getElem?_eq_some_iff.1 hbk).1
 have hb2:w2.heap[b]?=some (.cells #[.pointer (some ⟨b,0,none⟩),v] 71 (0,0)):=by
  rw [hgrow.block b hlt (fun e=>hne e.symm)]
  exact hbk
 have d0:w2.cell? ⟨b,0,none⟩=some (.pointer (some ⟨b,0,none⟩)):=by rw [Lib.cell_of_heap hb2];rfl
 have d1:w2.cell? ⟨b,1,none⟩=some v:=by rw [Lib.cell_of_heap hb2];rfl
 have f1:w2.frozen? ⟨b,1,none⟩=false:=Lib.frozen_of_heap hb2 1
 obtain ⟨ao,n',cap,rfl⟩:∃ ao n' cap,v'=.slice ao n' cap:=by
  rcases hown'.2 with ⟨hv,_⟩ | ⟨g,cap,cur,hv,_⟩
  ·exact ⟨_,_,_,hv⟩
  ·exact ⟨_,_,_,hv⟩
 go_wp2
 go_ret2
 refine ⟨rfl,?_,?_,(hk1.grown hgrow (row_kind hown)).setCell ⟨b,1,none⟩ rfl _⟩
 ·exact Lib.BuilderAt.put hB hb2 (bs':=bs ++ Lib.strCells s) (by simpa [Lib.strCells_length] using hown') (by decide)
 ·exact (hb1.grown hgrow (by have:=hb1.size;omega) (fun k hk=>(hown.lt k hk).1)).setCell (p:=⟨b,1,none⟩) hB _
def St (b:Nat) (l:List UInt8) (w:World):Prop:=Wr b b (Lib.byteCells l) w
structure KU (b:Nat) (w w':World):Prop where
 below:Below b w w'
 kept:Lib.OthersKept 5 (some b) w w'
theorem KU.refl (b:Nat) (w:World):KU b w w:=⟨Below.refl _ _,Lib.OthersKept.refl _ _ _⟩
theorem KU.trans {b:Nat} {w u v:World} (h:KU b w u) (k:KU b u v):KU b w v:=⟨h.below.trans k.below,h.kept.trans k.kept⟩
theorem KU.of {b:Nat} {w w':World} (h:Below w.heap.size w w') (hb:b<=w.heap.size):KU b w w':=
 ⟨h.mono hb,fun k o hk _ _=>(h.block k (lt_of_block hk)).trans hk⟩
theorem RB.ku {b X:Nat} {w w':World} {cs:Array Value} {T:TypeId} (h:RB w X cs T) (hk:KU b w w') (hT:T ≠ 5) (hX:X ≠ b):RB w' X cs T:=
 hk.kept X _ h (by simp;exact hX) (fun c fz e=>hT (by cases e;rfl))
theorem St.next {b:Nat} {l:List UInt8} {w w':World} (h:St b l w) (hb:Below w.heap.size w w'):St b l w':=by
 have key:∀ p,WrAt b b p (Lib.byteCells l) w->WrAt b b p (Lib.byteCells l) w':=by
  rintro p ⟨hB,v,hk,hown,hne⟩
  refine ⟨hB,v,(hb.block b (lt_of_block hk)).trans hk,hown.kept (KP.of_below (p:=w.heap.size) hb) ?_,hne⟩
  cases hv:v.ownBlock with
  | none=>exact .inl rfl
  | some g=>
   right
   obtain ⟨c,fz,hc⟩:=row_kind hown g hv
   have:=lt_of_block hc
   simp only [ne_eq,Option.some.injEq];omega
 rcases h with h | h
 ·exact .inl (key _ h)
 ·exact .inr (key _ h)
theorem ws_any (b:Nat) (l:List UInt8) (s:ByteArray) (w:World) (h:St b l w) (hl:l.length+s.size<=1000000000) (hb:b<=w.heap.size):
  Calls Tryz.prog 34 #[.pointer (some ⟨b,0,none⟩),.string s] w fun e w'=>e=.returned (.tuple #[.int .i64 s.size,.nilIface])/\St b (l ++ s.data.toList) w'/\KU b w w':=
 (writeString_kept b b _ s w h (by rw [Lib.byteCells_length];omega) hb).mono fun e w' ⟨h1,h2,h3,h4⟩=>⟨h1,.inr (by rw [Lib.byteCells_append];exact h2),⟨h3,h4⟩⟩
theorem num_any (b:Nat) (l:List UInt8) (v:Nat) (hv:v < 9223372036854775808) (w:World) (h:St b l w) (hl:l.length<=900000000) (hb:b<=w.heap.size):
  Calls Tryz.prog 33 #[.int .i64 (v:Int),.pointer (some ⟨b,0,none⟩)] w fun e w'=>e=.returned (.tuple #[])/\St b (l ++ putL v) w'/\KU b w w':=by
 have HP:=Lib.hid (fun w=>Put_at (v:Int) v rfl (by omega) w)
 have hlen:(putL v).length<=10:=(putL_len (v:=v) (by omega)).2.1
 have HW:Hid (∀ w,St b l w->b<=w.heap.size->Calls Tryz.prog 34 #[.pointer (some ⟨b,0,none⟩),.string (putB v)] w fun e w'=>e=.returned (.tuple #[.int .i64 (putB v).size,.nilIface])/\St b (l ++ putL v) w'/\KU b w w'):=Lib.hid (fun w h hb=>by
  have:=ws_any b l (putB v) w h (by rw [putB_size];omega) hb
  rwa [putB_list] at this)
 have H:=Lib.hid h
 have HBl:=Lib.hid hb
 have hwr:IntKind.u64.wrap (v:Int)=(v:Int):=by rw [IntKind.wrap_u64];omega
 generalize putB v=D at HP HW
 clear h hb hlen
 go_enter Tryz.func33,Tryz.ntmps33
 go_wp2_with fail
 refine (HP.out _).mono ?_
 rintro e u ⟨rfl,hb⟩
 have HB:=Lib.hid hb
 clear hb
 go_wp2_with fail
 refine (HW.out _ (H.out.next HB.out) (Nat.le_trans HBl.out HB.out.size)).mono ?_
 rintro e u2 ⟨rfl,hst,hku⟩
 have HS:=Lib.hid hst
 have HK:=Lib.hid ((KU.of HB.out HBl.out).trans hku)
 clear hst hku
 go_wp2
 exact ⟨rfl,_,results_none rfl _ _ _,rfl,HS.out,HK.out⟩
theorem keep_any (k:Bool) (w:World):Calls Tryz.prog 37 #[.bool k] w (Ret (.int .i64 (if k then 1 else 0)) w):=by
 cases k
 ·go_enter Tryz.func37,Tryz.ntmps37
  go_wp2
  go_ret
  exact ⟨rfl,rfl⟩
 ·go_enter Tryz.func37,Tryz.ntmps37
  go_wp2
  go_ret
  exact ⟨rfl,rfl⟩
end Go.Proofs.YthkolmebokfagaaGreatDoor
namespace Go.Proofs.YthkolmebokfagaaGreatDoor
open Go.ChangeShapes Go.WideShapes Go.Deep Go.RowKit
open Go.Proofs.YthkolmebokfagaaGreatDoor.Wi (putL putL_len putB putB_size putB_list Put_at textB PutText_any PutInt_any zig zig_lt)
def txtL (d:List UInt8):List UInt8:=putL d.length ++ d
def relB (r:Rl):List UInt8:=putL r.pos.toNat ++ putL r.kind.toNat ++ putL r.sym.toNat ++ putL (zig r.add)
def keepI (k:Bool):Nat:=if k then 1 else 0
def secB (s:Sc):List UInt8:=txtL s.name ++ putL s.kind.toNat ++ putL (keepI s.keep) ++ putL s.align.toNat ++ txtL s.data ++ putL s.rels.length ++ s.rels.flatMap relB
def symB (s:Sy):List UInt8:=txtL s.name ++ putL s.bind.toNat ++ putL (s.sec+1).toNat ++ putL s.off.toNat
def putO (o:Ob):List UInt8:=[67,76,69,65,84,1] ++ putL o.secs.length ++ o.secs.flatMap secB ++ putL o.syms.length ++ o.syms.flatMap symB
def putR (o:Ob):List UInt8 × Int:=if isO o=true then (putO o,0) else ([],1)
theorem nm_len {l:List UInt8} (h:isNmL l=true):l.length<=31:=by
 unfold isNmL at h
 simp only [Bool.and_eq_true] at h
 have h1:=h.1.1
 cases l with
 | nil=>simp
 | cons b t=>
  unfold isWordL at h1
  simp only [Bool.and_eq_true,decide_eq_true_eq] at h1
  exact h1.1.1
theorem fit_range {k:Int} {i:In} (h:fitsI k i=true):0<=k/\k<=9:=by
 unfold fitsI at h
 simp only [Bool.and_eq_true] at h
 have h1:=h.2
 unfold fitK at h1
 split at h1
 ·simp at h1
 ·omega
structure RelOk (r:Rl) (d:Nat):Prop where
 p0:0<=r.pos
 p1:r.pos<=d
 k0:0<=r.kind
 k1:r.kind<=9
 s0:0<=r.sym
theorem rels_ok {kind:Int} {d:List UInt8}:∀ {l:List Rl} {e:Int},0<=e->relsR kind d e l=true->∀ r ∈ l,RelOk r d.length
 | [],_,_,_,r,hr=>by cases hr
 | q :: t,e,h0,h,r,hr=>by
  unfold relsR at h
  by_cases c:badR kind d e q
  ·rw [if_pos c] at h;cases h
  ·rw [if_neg c] at h
   have c1:¬ q.pos < e:=fun hh=>c (.inl hh)
   have c2:¬ (d.length:Int) - szR q.kind < q.pos:=fun hh=>c (.inr (.inl hh))
   have c3:¬ q.sym < 0:=fun hh=>c (.inr (.inr (.inl hh)))
   have c4:covR kind d q=true:=by
    cases hh:covR kind d q
    ·exact absurd (.inr (.inr (.inr hh))) c
    ·rfl
   have hs:=szR_two q.kind
   have hk:0<=q.kind/\q.kind<=9:=by
    unfold covR at c4
    split at c4
    ·rename_i h1;omega
    ·simp only [Bool.and_eq_true] at c4
     exact fit_range c4.2.2
   rcases List.mem_cons.1 hr with rfl | hr
   ·exact ⟨by omega,by omega,hk.1,hk.2,by omega⟩
   ·exact rels_ok (by omega) h r hr
structure SecOk (s:Sc):Prop where
 name:s.name.length<=31
 k0:0<=s.kind
 k1:s.kind<=3
 a0:0<=s.align
 a1:s.align<=12
 data:s.data.length<=4096
 rels:s.rels.length<=64
 all:∀ r ∈ s.rels,RelOk r s.data.length
theorem sec_ok {s:Sc} (h:secR s=true):SecOk s:=by
 obtain ⟨hh,hr⟩:=sec_iff.1 h
 obtain ⟨h1,h2,h3,h4,h5,h6,h7⟩:=head_iff.1 hh
 exact ⟨nm_len h1,by omega,h3,h4,h5,h6,h7,rels_ok (by omega) hr⟩
theorem secsR_ok {k:Int}:∀ {l:List Sc} {seen:List (List UInt8)},secsR k seen l=true->∀ s ∈ l,SecOk s
 | [],_,_,s,hs=>by cases hs
 | q :: t,seen,h,s,hs=>by
  unfold secsR at h
  split at h
  ·cases h
  ·rename_i c
   split at h
   ·cases h
   ·rcases List.mem_cons.1 hs with rfl | hs
    ·refine sec_ok ?_
     cases hh:secR s
     ·exact absurd (.inr hh) c
     ·rfl
    ·exact secsR_ok h s hs
structure SymOk (s:Sy):Prop where
 name:s.name.length<=31
 b0:0<=s.bind
 b1:s.bind<=3
 s0 : -1<=s.sec
 s1:s.sec<=100
 o0:0<=s.off
 o1:s.off<=4096
theorem stands_ok {s:Sy} {secs:List Sc} (hn:secs.length<=32) (hd:∀ t ∈ secs,t.data.length<=4096) (h:standsL s secs=true):0<=s.bind/\s.bind<=3 /\ -1<=s.sec/\s.sec<=100/\0<=s.off/\s.off<=4096:=by
 unfold standsL at h
 split at h
 ·cases h
 ·rename_i c
  have c1:¬ s.bind < 1:=fun hh=>c (.inl hh)
  have c2:¬ 3 < s.bind:=fun hh=>c (.inr hh)
  split at h
  ·rename_i e
   simp only [Bool.and_eq_true,decide_eq_true_eq] at h
   omega
  ·simp only [Bool.and_eq_true,decide_eq_true_eq] at h
   obtain ⟨⟨⟨h1,h2⟩,h3⟩,h4⟩:=h
   cases hg:secs[s.sec.toNat]? with
   | none=>rw [hg] at h4;cases h4
   | some t=>
    rw [hg] at h4
    simp only [decide_eq_true_eq] at h4
    have:=hd t (List.mem_of_getElem? hg)
    omega
theorem symsR_ok {secs:List Sc} (hn:secs.length<=32) (hd:∀ t ∈ secs,t.data.length<=4096):∀ {l:List Sy} {seen:List (List UInt8)},symsR secs seen l=true->∀ s ∈ l,SymOk s
 | [],_,_,s,hs=>by cases hs
 | q :: t,seen,h,s,hs=>by
  unfold symsR at h
  split at h
  ·cases h
  ·rename_i c
   have hst:standsL q secs=true:=by
    cases hh:standsL q secs
    ·exact absurd hh c
    ·rfl
   obtain ⟨g1,g2,g3,g4,g5,g6⟩:=stands_ok hn hd hst
   split at h
   ·rename_i e
    rcases List.mem_cons.1 hs with rfl | hs
    ·exact ⟨by rw [e.1];simp,g1,g2,g3,g4,g5,g6⟩
    ·exact symsR_ok hn hd h s hs
   ·split at h
    ·cases h
    ·rename_i c2
     rcases List.mem_cons.1 hs with rfl | hs
     ·refine ⟨nm_len ?_,g1,g2,g3,g4,g5,g6⟩
      cases hh:isNmL s.name
      ·exact absurd (.inr hh) c2
      ·rfl
     ·exact symsR_ok hn hd h s hs
theorem is_ok {o:Ob} (h:isO o=true):o.secs.length<=32/\o.syms.length<=128/\(∀ s ∈ o.secs,SecOk s)/\∀ s ∈ o.syms,SymOk s:=by
 unfold isO secsL symsL at h
 simp only [Bool.and_eq_true,decide_eq_true_eq] at h
 obtain ⟨⟨h1,h2⟩,h3,h4⟩:=h
 have hs:=secsR_ok h2
 exact ⟨h1,h3,hs,symsR_ok h1 (fun t ht=>(hs t ht).data) h4⟩
theorem putL_le {v:Nat} (h:v < 18446744073709551616):(putL v).length<=10:=(putL_len h).2.1
theorem relB_len {r:Rl} {d:Nat} (h:RelOk r d) (hd:d<=4096) (ha:i64ok r.add) (hs:i64ok r.sym):(relB r).length<=40:=by
 unfold relB
 have h1:=putL_le (v:=r.pos.toNat) (by have:=h.p0;have:=h.p1;omega)
 have h2:=putL_le (v:=r.kind.toNat) (by have:=h.k0;have:=h.k1;omega)
 have h3:=putL_le (v:=r.sym.toNat) (by have:=h.s0;have:=hs.2;omega)
 have h4:=putL_le (v:=zig r.add) (zig_lt ha.1 ha.2)
 simp only [List.length_append];omega
theorem flat_le {α:Type} {f:α->List UInt8} {m:Nat}:∀ {l:List α},(∀ x ∈ l,(f x).length<=m)->(l.flatMap f).length<=l.length*m
 | [],_=>by simp
 | x :: t,h=>by
  rw [List.flatMap_cons,List.length_append,List.length_cons,Nat.succ_mul]
  have h1:=h x (List.mem_cons_self ..)
  have h2:=flat_le (l:=t) fun y hy=>h y (List.mem_cons_of_mem _ hy)
  omega
end Go.Proofs.YthkolmebokfagaaGreatDoor
