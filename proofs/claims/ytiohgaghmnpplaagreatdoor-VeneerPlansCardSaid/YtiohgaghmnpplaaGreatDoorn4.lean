/- operand's references: Text of a number below 31; RegText. operand's reference: Reg. operand's reference: Label. PartNew's reference: names. PartNew's reference: shift, Name, New. -/
import Derived.Test.YtiohgaghmnpplaaGreatDoorqA
import Derived.Test.YtiohgaghmnpplaaGreatDoorqH
import Derived.Test.YtiohgaghmnpplaaGreatDoorqI
set_option maxRecDepth 100000
set_option maxHeartbeats 4000000
set_option linter.unusedVariables false
set_option linter.unusedSimpArgs false
namespace Go.Proofs.YtiohgaghmnpplaaGreatDoor
open Go.ChangeShapes Go.WideShapes Go.Deep Go.RowKit
theorem dig_slice:∀d:Fin 10,(ByteArray.mk #[48,49,50,51,52,53,54,55,56,57,97,98,99,100,101,102]).extract d.val (d.val+1)=⟨#[UInt8.ofNat (48+d.val)]⟩:=by decide+kernel
abbrev dgA (u:Nat):List UInt8:=[UInt8.ofNat (48+u)]
def tlen (t:Value):Nat:=match t with| .string s=>if s.size=0 then 1 else 0|_=>0
theorem app_ba (a b:List UInt8):(⟨a.toArray⟩:ByteArray)++⟨b.toArray⟩=⟨(a++b).toArray⟩:=by
 apply ByteArray.ext;simp
theorem decL_one {u:Nat}(h:u<10):gO u=dgA u:=by unfold gO;rw[if_pos h]
theorem decL_two {u:Nat}(h:¬u<10):gO u=dgA (u/10)++dgA (u%10):=by unfold gO;rw[if_neg h];rfl
theorem decL_ne (u:Nat):((⟨(gO u).toArray⟩:ByteArray)==⟨#[]⟩)=false:=by
 by_cases h:u<10
 ·rw[decL_one h];rfl
 ·rw[decL_two h];rfl
theorem rwrite_any (u:Nat)(hu:u<31)(w:World):Calls Tryz.prog 245 #[.int .u64 u,.int .u64 10] w (bQ (.string ⟨(gO u).toArray⟩) w):=by
 go_enter Tryz.func245,Tryz.ntmps245;go_wp2_with fail
 go_loopw [0,6] (fun v t wr=>wr=w/\((v=.int .u64 u/\t=.string ⟨#[]⟩)\/(10<=u/\v=.int .u64 ((u/10:Nat):Int)/\t=.string ⟨(dgA (u%10)).toArray⟩)\/(v=.int .u64 0/\t=.string ⟨(gO u).toArray⟩)))
  (fun v t _=>(intOf v).toNat+tlen t)
 case atStart=>exact⟨rfl,.inl ⟨rfl,rfl⟩⟩
 case round=>
  obtain⟨rfl,hr⟩:=hrel;rcases hr with⟨rfl,rfl⟩|⟨h10,rfl,rfl⟩|⟨rfl,rfl⟩
  ·by_cases h0:u=0
   ·subst h0;have HD:Hid ((ByteArray.mk #[48,49,50,51,52,53,54,55,56,57,97,98,99,100,101,102]).extract 0 1++⟨#[]⟩=⟨(gO 0).toArray⟩):=aH (by kernel_rfl);go_wp2;all_goals refine⟨⟨trivial,.inr (.inr ⟨rfl,by rw[HD.out]⟩)⟩,?_⟩
    all_goals (rw[HD.out];decide)
   by_cases h:u<10
   ·obtain⟨x,hx⟩:=aE (UInt8.ofNat (48+u));have hs:=dig_slice ⟨u,h⟩;simp only[]at hs;rw[<-hx]at hs;have HD:Hid ((⟨#[x]⟩:ByteArray)++⟨#[]⟩=⟨(gO u).toArray⟩):=aH (by rw[decL_one h,hx];rfl);have HTl:Hid (tlen (.string ⟨(gO u).toArray⟩)=0):=aH (by rw[decL_one h];rfl);have h10:(u:Int).tmod 10=(u:Int):=Int.tmod_eq_of_lt (by omega) (by omega);have h11:(u:Int).tdiv 10=0:=Int.tdiv_eq_zero_of_lt (by omega) (by omega);have h12:IntKind.u64.wrap ((u:Int)+1)=((u+1:Nat):Int):=by rw[IntKind.wrap_u64];omega
    clear hx;go_wp2;all_goals refine⟨⟨trivial,.inr (.inr ⟨rfl,by rw[HD.out]⟩)⟩,?_⟩
    all_goals (rw[HD.out,HTl.out];show 0+0<_+1;omega)
   ·have h9:u%10<10:=by omega
    have hd0:¬u/10=0:=by omega
    obtain⟨d,hd⟩:=aE (u%10);obtain⟨q,hq⟩:=aE (u/10);obtain⟨x,hx⟩:=aE (UInt8.ofNat (48+d));rw[<-hd]at h9;rw[<-hq]at hd0;have hs:=dig_slice ⟨d,h9⟩;simp only[]at hs;rw[<-hx]at hs;have HD:Hid ((⟨#[x]⟩:ByteArray)++⟨#[]⟩=⟨(dgA (u%10)).toArray⟩):=aH (by rw[<-hd,hx];rfl);have h10:(u:Int).tmod 10=(d:Int):=by rw[Int.tmod_eq_emod_of_nonneg (by omega)];omega
    have h11:(u:Int).tdiv 10=(q:Int):=by rw[Int.tdiv_eq_ediv_of_nonneg (by omega)];omega
    have h12:IntKind.u64.wrap ((d:Int)+1)=((d+1:Nat):Int):=by rw[IntKind.wrap_u64];omega
    have HQ:=aH hq;have HLT:Hid (q+1<=u):=aH (by omega);have H10:Hid (10<=u):=aH (by omega);have hwq:IntKind.u64.wrap (q:Int)=(q:Int):=by rw[IntKind.wrap_u64];omega
    clear hx hd hq h;go_wp2;all_goals refine⟨⟨trivial,.inr (.inl ⟨H10.out,by rw[HQ.out],by rw[HD.out]⟩)⟩,?_⟩
    all_goals (rw[HD.out];show q+0<u+1;have:=HLT.out;omega)
  ·obtain⟨q,hq⟩:=aE (u/10);rw[<-hq];have h9:q<10:=by omega
   have hd0:¬q=0:=by omega
   obtain⟨x,hx⟩:=aE (UInt8.ofNat (48+q));have hs:=dig_slice ⟨q,h9⟩;simp only[]at hs;rw[<-hx]at hs;have HD:Hid ((⟨#[x]⟩:ByteArray)++⟨(dgA (u%10)).toArray⟩=⟨(gO u).toArray⟩):=aH (by rw[decL_two (by omega),<-hq,<-app_ba,hx]);have HTl:Hid (tlen (.string ⟨(gO u).toArray⟩)=0):=aH (by rw[decL_two (by omega)];rfl);have e10:(q:Int).tmod 10=(q:Int):=Int.tmod_eq_of_lt (by omega) (by omega);have e11:(q:Int).tdiv 10=0:=Int.tdiv_eq_zero_of_lt (by omega) (by omega);have e12:IntKind.u64.wrap ((q:Int)+1)=((q+1:Nat):Int):=by rw[IntKind.wrap_u64];omega
   have HTn:Hid (¬(⟨(dgA (u%10)).toArray⟩:ByteArray).toList=[]):=aH (by rw[ByteArray.toList_eq];simp);have hTs:(⟨(dgA (u%10)).toArray⟩:ByteArray).size=1:=rfl;clear hx hq;generalize(⟨(dgA (u%10)).toArray⟩:ByteArray)=T at HD HTn hTs⊢;have hTn:T.toList.isEmpty=false:=by have:=HTn.out;cases h:T.toList with|nil=>exact absurd h this|cons a b=>rfl
   have hq0:(0:Int)<(q:Int):=by omega
   go_wp2;all_goals refine⟨⟨trivial,.inr (.inr ⟨rfl,by rw[HD.out]⟩)⟩,?_⟩
   all_goals (rw[HD.out,HTl.out];show 0+0<q+_;omega)
  ·have HNe:=decL_ne u;generalize hTT:(⟨(gO u).toArray⟩:ByteArray)=T at HNe⊢;have HTT:=aH hTT;clear hTT;have hne:¬T.toList=[]:=by
    intro h;have:T=⟨#[]⟩:=by rw[ByteArray.toList_eq]at h;cases T;simp_all
    rw[this]at HNe;exact absurd HNe (by decide)
   have hie:T.toList.isEmpty=false:=by cases h:T.toList with|nil=>exact absurd h hne|cons a b=>rfl
   clear hne HNe;go_wp2;go_ret;exact⟨by rw[HTT.out];rfl,rfl⟩
theorem rText_any (u:Nat)(hu:u<31)(w:World):Calls Tryz.prog 236 #[.int .u64 u] w (bQ (.string ⟨(gO u).toArray⟩) w):=by
 have HW:=aH (rwrite_any u hu w);clear hu;go_enter Tryz.func236,Tryz.ntmps236;go_wp2_with fail
 refine HW.out.mono ?_;rintro e w' ⟨rfl,rfl⟩;go_wp2;go_ret;exact⟨rfl,rfl⟩
theorem rRegText_any (n:Int)(hn:cS n)(st:Bool)(w:World):Calls Tryz.prog 224 #[.int .i64 n,.bool st] w (bQ (.tuple #[.string ⟨(bP n st).1.toArray⟩,.int .i64 (bP n st).2]) w):=by
 by_cases c0:n<0
 ·have HE:Hid (bP n st=([],1)):=aH (by unfold bP;rw[if_pos (.inl c0)]);go_enter Tryz.func224,Tryz.ntmps224;go_wp2;go_ret2;exact⟨by rw[HE.out];rfl,rfl⟩
 by_cases c1:n>31
 ·have HE:Hid (bP n st=([],1)):=aH (by unfold bP;rw[if_pos (.inr (.inl c1))]);go_enter Tryz.func224,Tryz.ntmps224;go_wp2;go_ret2;exact⟨by rw[HE.out];rfl,rfl⟩
 have c3:¬(31<n):=c1;cases st
 ·by_cases c2:n=31
  ·subst c2;have HE:Hid (bP 31 false=(xzB,0)):=aH rfl;go_enter Tryz.func224,Tryz.ntmps224;go_wp2;go_ret2;exact⟨by rw[HE.out];rfl,rfl⟩
  ·obtain⟨u,rfl⟩:∃u:Nat,n=u:=⟨n.toNat,by omega⟩;have hu:u<31:=by omega
   have HE:Hid (bP (u:Int) false=(120 :: gO u,0)):=aH (by
    unfold bP;rw[if_neg (by rintro(h|h|⟨h,-⟩)<;>first|omega|cases h),if_neg (by decide),if_neg c2,Int.toNat_natCast];rfl)
   have HTx:=aH (fun w=>rText_any u hu w);have hb:((u:Int)==31)=false:=by rw[beq_eq_false_iff_ne];exact c2
   have hw:IntKind.u64.wrap (u:Int)=(u:Int):=by rw[IntKind.wrap_u64];omega
   have hl:(⟨(gO u).toArray⟩:ByteArray).size<=2:=by
    show(gO u).toArray.size<=2
    unfold gO;split<;>simp
   have HCat:Hid ((⟨#[120]⟩:ByteArray)++⟨(gO u).toArray⟩=⟨(120 :: gO u).toArray⟩):=aH (app_ba [120] (gO u));clear c2 hn;generalize(⟨(gO u).toArray⟩:ByteArray)=T at HTx hl HCat;go_enter Tryz.func224,Tryz.ntmps224;go_wp2_with fail
   refine(HTx.out _).mono ?_;rintro e w' ⟨rfl,rfl⟩;go_wp2;go_ret2;exact⟨by rw[HE.out,<-HCat.out];rfl,rfl⟩
 ·by_cases c2:n=31
  ·subst c2;have HE:Hid (bP 31 true=(spB,0)):=aH rfl;go_enter Tryz.func224,Tryz.ntmps224;go_wp2;go_ret2;exact⟨by rw[HE.out];rfl,rfl⟩
  ·have HE:Hid (bP n true=([],1)):=aH (by unfold bP;rw[if_pos (.inr (.inr ⟨rfl,c2⟩))]);have hb:(n !=31)=true:=by rw[bne_iff_ne];exact c2
   clear c2;go_enter Tryz.func224,Tryz.ntmps224;go_wp2;go_ret2;exact⟨by rw[HE.out];rfl,rfl⟩
theorem regText_back {s:List UInt8}(h:(fU s).2.2=0):bP (fU s).1 (fU s).2.1=(s,0):=by
 rcases regL_cases s with⟨h1,h2⟩|⟨h1,h2⟩|⟨n,hn,h1,h2⟩|⟨-,-,-,h2⟩
 ·rw[h2,h1];rfl
 ·rw[h2,h1];rfl
 ·rw[h2];show bP (n:Int) false=(s,0)
  unfold bP;rw[if_neg (by rintro(h|h|⟨h,-⟩)<;>first|omega|cases h),if_neg (by decide),if_neg (by omega),h1,Int.toNat_natCast]
 ·rw[h2]at h;cases h
theorem reg_back {n:Int}{st:Bool}(h:(bP n st).2=0):fU (bP n st).1=(n,st,0):=by
 unfold bP at*
 split at h
 ·cases h
 ·rename_i c;rw[if_neg c];have c0:¬n<0:=fun h=>c (.inl h)
  have c1:¬n>31:=fun h=>c (.inr (.inl h))
  split
  ·rename_i c2;have c3:n=31:=Classical.byContradiction fun h=>c (.inr (.inr ⟨c2,h⟩))
   rw[c2,c3];rfl
  ·rename_i c2;replace c2:st=false:=by simpa using c2
   split
   ·rename_i c3;rw[c2,c3];rfl
   ·rename_i c3;obtain⟨k,rfl⟩:∃k:Nat,n=k:=⟨n.toNat,by omega⟩;rw[c2];exact regL_at (by omega) (by rw[Int.toNat_natCast])
theorem regText_err {n:Int}{st:Bool}:(bP n st=([],1)/\(n<0\/n>31\/(st=true/\n≠31)))\/(bP n st).2=0:=by
 by_cases c:n<0\/n>31\/(st=true/\n≠31)
 ·exact .inl ⟨by unfold bP;rw[if_pos c],c⟩
 ·refine .inr ?_;unfold bP;rw[if_neg c];split
  ·rfl
  ·split<;>rfl
theorem txt_ok {k:Nat}(h:k<=31):(bP (k:Int) false).2=0:=by
 rcases regText_err (n:=(k:Int)) (st:=false)with⟨-,h'|h'|⟨h',-⟩⟩|h'
 ·omega
 ·omega
 ·cases h'
 ·exact h'
theorem reg_found {s:List UInt8}{k:Nat}(h:k<=31)(e:s=(bP (k:Int) false).1):fU s=((k:Int),false,0):=by
 rw[e];exact reg_back (txt_ok h)
theorem reg_none {s:List UInt8}(h0:s≠spB)(h:∀j:Nat,j<32->s≠(bP (j:Int) false).1):fU s=(0,false,3):=by
 rcases regL_cases s with⟨h1,-⟩|⟨h1,-⟩|⟨n,hn,h1,h2⟩|⟨-,-,-,h2⟩
 ·exact absurd h1 h0
 ·exact absurd h1 (h 31 (by omega))
 ·exfalso;apply h n (by omega);have:=regText_back (s:=s) (by rw[h2]);rw[h2]at this;rw[this]
 ·exact h2
theorem rReg_any (s:ByteArray)(w:World):Calls Tryz.prog 206 #[.string s] w (bQ (regV (fU s.data.toList)) w):=by
 by_cases h1:s.data.toList=spB
 ·have hs:s=⟨#[115,112]⟩:=kO h1;subst hs;have HE:Hid (fU (ByteArray.mk #[115,112]).data.toList=(31,true,0)):=aH (by kernel_rfl);rw[HE.out];clear h1;go_enter Tryz.func206,Tryz.ntmps206;go_wp2;go_ret3;exact⟨rfl,rfl⟩
 ·have hne:=jM h1;have HS:=aH h1;clear h1;go_enter Tryz.func206,Tryz.ntmps206;go_wp2_with fail
  go_loopw [5] (fun i wr=>wr=w/\∃k:Nat,k<=32/\i=.int .i64 k/\Hid (∀j:Nat,j<k->s.data.toList≠(bP (j:Int) false).1)) (fun i _=>32-(intOf i).toNat)
  case atStart=>exact⟨rfl,0,by omega,rfl,aH (fun j hj=>by omega)⟩
  case round=>
   obtain⟨rfl,k,hk,rfl,HK⟩:=hrel;by_cases hlt:k<=31
   ·have HT:Hid (∀w,Calls Tryz.prog 224 #[.int .i64 (k:Int),.bool false] w (bQ (.tuple #[.string ⟨(bP (k:Int) false).1.toArray⟩,.int .i64 0]) w)):=aH fun w=>by
     have:=rRegText_any (k:Int) (by unfold cS;omega) false w;rwa[txt_ok hlt]at this
    by_cases he:s.data.toList=(bP (k:Int) false).1
    ·have HE:Hid (fU s.data.toList=((k:Int),false,0)):=aH (reg_found hlt he);have heq:(⟨(bP (k:Int) false).1.toArray⟩:ByteArray)=s:=by rw[<-he]
     rw[heq]at HT;clear he heq;go_wp2_with fail
     refine(HT.out _).mono ?_;rintro e w' ⟨rfl,rfl⟩;go_wp2;go_ret3;exact⟨by rw[HE.out];rfl,rfl⟩
    ·have HN:Hid (∀j:Nat,j<k+1->s.data.toList≠(bP (j:Int) false).1):=aH (fun j hj=>by
      by_cases e:j=k
      ·subst e;exact he
      ·exact HK.out j (by omega))
     have hnk:=jM he;generalize(bP (k:Int) false).1=K at HT hnk;clear he;go_wp2_with fail
     refine(HT.out _).mono ?_;rintro e w' ⟨rfl,rfl⟩;go_wp2;go_roundw
     case rel=>exact⟨trivial,k+1,by omega,by go_num,HN⟩
     case measure=>simp[intOf];omega
   ·have HE:Hid (fU s.data.toList=(0,false,3)):=aH (reg_none HS.out (fun j hj=>HK.out j (by omega)));go_wp2;go_ret3;exact⟨by rw[HE.out];rfl,rfl⟩
theorem qE (s:ByteArray)(hs:s.size<=maxLen)(w:World):Calls Tryz.prog 205 #[.string s] w (bQ (labelV (eH s.data.toList)) w):=by
 have hlen:s.data.toList.length=s.size:=by simp
 have hs9:(s.size:Int)<=9223372036854775807:=by unfold maxLen at hs;omega
 by_cases h1:s.size<2
 ·have h1z:(s.size:Int)<2:=by omega
  have HE:Hid (eH s.data.toList=none):=aH (mG (.inl (by omega)));clear hs hlen h1;go_enter Tryz.func205,Tryz.ntmps205;go_wp2;go_ret3;exact⟨by rw[HE.out];rfl,rfl⟩
 by_cases h2:5<s.size
 ·have h1z:¬(s.size:Int)<2:=by omega
  have h2z:(5:Int)<(s.size:Int):=by omega
  have HE:Hid (eH s.data.toList=none):=aH (mG (.inr (by omega)));clear hs hlen h1 h2;go_enter Tryz.func205,Tryz.ntmps205;go_wp2;go_ret3;exact⟨by rw[HE.out];rfl,rfl⟩
 have h1z:¬(s.size:Int)<2:=by omega
 have h2z:¬(5:Int)<(s.size:Int):=by omega
 obtain⟨m,hm⟩:∃m,s.size=m+1:=⟨s.size-1,by omega⟩;have hmz:IntKind.i64.wrap ((s.size:Int)-1)=(m:Int):=by rw[IntKind.wrap_i64];omega
 have hm0:(0:Int)<=m:=by omega
 have hmn:(m:Int)<=(s.size:Int):=by omega
 have hmn2:(m:Int)<(s.size:Int):=by omega
 have hne:¬s.toList=[]:=fun h=>by
  have:=congrArg List.length h;rw[ByteArray.toList_eq,hlen]at this;simp only[List.length_nil]at this;omega
 obtain⟨D,hD⟩:∃D,s.extract 0 m=D:=⟨_,rfl⟩;have hml:m<s.size:=by omega
 obtain⟨c,hc⟩:∃c:UInt8,s[m]'hml=c:=⟨_,rfl⟩;have hDl:D.data.toList=s.data.toList.take m:=by
  rw[<-hD,ByteArray.data_extract,Array.toList_extract];simp[List.extract]
 have hDz:D.size=m:=by
  have:D.data.toList.length=m:=by rw[hDl,List.length_take];omega
  rw[<-this];simp
 have hsplit:s.data.toList=D.data.toList++ [c]:=by
  rw[hDl,<-hc];have:=List.take_append_drop m s.data.toList;rw[jI (by omega),List.drop_eq_nil_of_le (by omega)]at this;exact this.symm
 have hLE:eH s.data.toList=if c=102\/c=98 then(match kT D.data.toList 0 with|none=>none|some n=>some (n,c==102))else none:=by
  unfold eH;rw[if_neg (by omega),hsplit,List.getLast?_append];simp;rfl
 have HLE:=aH hLE;have HDZ:=aH hDz;have HDk:Hid (∀(k:Nat) (h:k<m),D.data.toList.drop k=s[k]'(by omega) :: D.data.toList.drop (k+1)):=aH (fun k h=>by
  have hk:k<D.size:=by omega
  rw[jI hk];congr 1;have e:D.data.toList[k]?=s.data.toList[k]?:=by rw[hDl,List.getElem?_take,if_pos h]
  rw[iS (by simpa using hk),iS (by rw[hlen];omega)]at e;exact Option.some.inj e)
 have hcm:s[m]'hml=c:=hc;have hm5:(m:Int)<=4:=by omega
 clear hs h1 h2 hDl hsplit hLE hD;go_enter Tryz.func205,Tryz.ntmps205;go_wp2;go_loopw [5,6] (fun nv iv wl=>wl=w/\∃k n:Nat,nv=.int .i64 (n:Int)/\iv=.int .i64 (k:Int)/\k<=m/\n<10^k/\Hid (kT D.data.toList 0=kT (D.data.toList.drop k) n)) (fun _ iv _=>m-(intOf iv).toNat)
 case atStart=>exact⟨rfl,0,0,rfl,rfl,by omega,by decide,aH (by rw[List.drop_zero])⟩
 case round=>
  obtain⟨rfl,k,n,rfl,rfl,hk,hn,HA⟩:=hrel;by_cases hlt:k<m
  ·have hks:k<s.size:=by omega
   obtain⟨x,hx⟩:∃x:UInt8,s[k]'hks=x:=⟨_,rfl⟩;have hdr:=HDk.out k hlt;rw[hx]at hdr;have hltz:(k:Int)<(m:Int):=by omega
   have HDR:=aH hdr;have hx256:x.toNat<256:=x.toNat_lt;have hn4:n<10000:=by
    have:(10:Nat)^k<=10^4:=Nat.pow_le_pow_right (by decide) (by omega);omega
   have HN:=aH hn;clear hdr hn;by_cases hd:48<=x.toNat/\x.toNat<=57
   ·obtain⟨d,hdd⟩:=aE (x.toNat-48);have HC:Hid (kT D.data.toList 0=kT (D.data.toList.drop (k+1)) (10*n+d)):=aH (by
     rw[HA.out,HDR.out,kT,if_pos (by unfold isDg;simp[hd.1,hd.2]),hdd])
    have HN2:Hid (10*n+d<10^(k+1)):=aH (by have:=HN.out;rw[Nat.pow_succ];omega);have l1:¬((x.toNat:Int)<48):=by omega
    have l2:¬((57:Int)<(x.toNat:Int)):=by omega
    have w1:IntKind.i64.wrap (10*(n:Int))=10*(n:Int):=by rw[IntKind.wrap_i64];omega
    have w2:IntKind.u8.wrap ((x.toNat:Int)-48)=(d:Int):=by rw[IntKind.wrap_u8];omega
    have w3:IntKind.i64.wrap (d:Int)=(d:Int):=by rw[IntKind.wrap_i64];omega
    have w4:IntKind.i64.wrap (10*(n:Int)+(d:Int))=((10*n+d:Nat):Int):=by rw[IntKind.wrap_i64];omega
    clear hd hdd hx256 hn4;go_wp2;go_roundw
    case rel=>exact⟨trivial,k+1,10*n+d,by first|rfl|(congr 1;omega),by go_num,by omega,HN2.out,HC⟩
    case measure=>simp[intOf];omega
   ·have HC:Hid (eH s.data.toList=none):=aH (by
     have hv:kT D.data.toList 0=none:=by rw[HA.out,HDR.out,kT,if_neg (by unfold isDg;simp;omega)]
     rw[HLE.out,hv];split<;>rfl)
    by_cases l1:(x.toNat:Int)<48
    ·clear hd hx256 hn4;go_wp2;go_ret3;exact⟨by rw[HC.out];rfl,rfl⟩
    ·have l2:(57:Int)<(x.toNat:Int):=by omega
     clear hd hx256 hn4;go_wp2;go_ret3;exact⟨by rw[HC.out];rfl,rfl⟩
  ·have hkm:k=m:=by omega
   subst hkm;have hltz:¬(k:Int)<(k:Int):=by omega
   have HC:Hid (kT D.data.toList 0=some n):=aH (by
    rw[HA.out,List.drop_eq_nil_of_le (by
     have:=HDZ.out;have h2:D.data.toList.length=D.size:=by simp
     omega),kT])
   clear hn;by_cases c1:c=102\/c=98
   ·have HL2:Hid (eH s.data.toList=some (n,c==102)):=aH (by rw[HLE.out,if_pos c1,HC.out]);rcases c1 with rfl|rfl
    all_goals
     go_wp2;go_ret3;exact⟨by rw[HL2.out];rfl,rfl⟩
   ·have HL2:Hid (eH s.data.toList=none):=aH (by rw[HLE.out,if_neg c1]);have hc256:c.toNat<256:=c.toNat_lt;have d1:((c.toNat:Int) !=102)=true:=by
     rw[bne_iff_ne];intro h;exact c1 (.inl (UInt8.toNat_inj.1 (by show c.toNat=102;omega)))
    have d2:((c.toNat:Int) !=98)=true:=by
     rw[bne_iff_ne];intro h;exact c1 (.inr (UInt8.toNat_inj.1 (by show c.toNat=98;omega)))
    clear c1 hc256;go_wp2;go_ret3;exact⟨by rw[HL2.out];rfl,rfl⟩
theorem rLetter_any (x:Nat)(w:World):Calls Tryz.prog 225 #[.int .u8 (x:Int)] w (bQ (.bool (eN x)) w):=by
 go_enter Tryz.func225,Tryz.ntmps225;go_wp2;all_goals
  go_ret;refine bO ?_;unfold eN;first|(simp_all;done)|(simp_all;omega)|(rw[Bool.eq_iff_iff];simp;omega)
theorem rDigit_any (x:Nat)(w:World):Calls Tryz.prog 237 #[.int .u8 (x:Int)] w (bQ (.bool (digI x)) w):=by
 go_enter Tryz.func237,Tryz.ntmps237;go_wp2;all_goals
  go_ret;refine bO ?_;unfold digI;first|(simp_all;done)|(simp_all;omega)|(rw[Bool.eq_iff_iff];simp;omega)
def lP:List UInt8->Nat
 | []=>0
 |b :: t=>if fR b=true then lP t+1 else 0
theorem runL_le:∀l:List UInt8,lP l<=l.length
 | []=>Nat.le_refl _
 |b :: t=>by
  unfold lP;split
  ·have:=runL_le t;simp only[List.length_cons];omega
  ·omega
theorem runL_all:∀l:List UInt8,lP l=l.length↔l.all fR=true
 | []=>by simp[lP]
 |b :: t=>by
  unfold lP;rw[List.all_cons,Bool.and_eq_true,<-runL_all t];split
  ·rename_i h;simp only[List.length_cons];constructor
   ·intro e;exact⟨h,by omega⟩
   ·rintro⟨-,e⟩;omega
  ·rename_i h;simp only[List.length_cons];constructor
   ·intro e;omega
   ·rintro⟨e,-⟩;exact absurd e h
theorem rRun_any (s:ByteArray)(hs:s.size<=6000)(w:World):Calls Tryz.prog 226 #[.string s,.int .i64 0] w (bQ (.int .i64 (lP s.data.toList)) w):=by
 have HL:=aH (fun(x:Nat) (w:World)=>rLetter_any x w);have HD:=aH (fun(x:Nat) (w:World)=>rDigit_any x w);go_enter Tryz.func226,Tryz.ntmps226;go_wp2;go_loopw [5] (fun i wr=>∃k:Nat,k<=s.size/\i=.int .i64 k/\w=wr/\Hid (lP s.data.toList=k+lP (s.data.toList.drop k))) (fun i _=>s.size+1-(intOf i).toNat)
 case atStart=>exact⟨0,by omega,rfl,rfl,aH (by simp)⟩
 case round=>
  obtain⟨k,hk,rfl,rfl,HK⟩:=hrel;have hkw:IntKind.i64.wrap ((k:Int))=(k:Int):=by rw[IntKind.wrap_i64];omega
  by_cases hlt:k<s.size
  ·have hlti:(k:Int)<(s.size:Int):=by omega
   have hdr:=jI hlt;obtain⟨b,hb⟩:=aE (s[k]);rw[<-hb]at hdr;have hbn:s[k].toNat=b.toNat:=by rw[hb]
   obtain⟨x,hx⟩:=aE b.toNat;rw[<-hx]at hbn;have HDR:=aH hdr;have hEW:fR b=(eN (x:Int)||digI (x:Int)):=by unfold fR wordR;rw[hx]
   have HEW:=aH hEW;clear hdr hb hx hEW;cases hdg:digI (x:Int)
   ·cases hlt2:eN (x:Int)
    ·have HF:Hid (lP s.data.toList=k):=aH (by
      rw[HK.out,HDR.out];unfold lP;rw[if_neg (by rw[HEW.out,hdg,hlt2];decide)];rfl)
     go_wp2_with fail
     refine(HD.out _ _).mono ?_;rintro e u ⟨rfl,rfl⟩;rw[hdg];go_wp2_with fail
     refine(HL.out _ _).mono ?_;rintro e u ⟨rfl,rfl⟩;rw[hlt2];go_wp2;go_ret;exact⟨by rw[HF.out];rfl,rfl⟩
    ·have HF:Hid (lP s.data.toList=(k+1)+lP (s.data.toList.drop (k+1))):=aH (by
      rw[HK.out,HDR.out];show k+(if fR b=true then lP _+1 else 0)=_
      rw[if_pos (by rw[HEW.out,hdg,hlt2];rfl)];omega)
     go_wp2_with fail
     refine(HD.out _ _).mono ?_;rintro e u ⟨rfl,rfl⟩;rw[hdg];go_wp2_with fail
     refine(HL.out _ _).mono ?_;rintro e u ⟨rfl,rfl⟩;rw[hlt2];go_wp2;go_roundw
     case rel=>exact⟨k+1,by omega,by go_num,trivial,HF⟩
     case measure=>simp[intOf];omega
   ·have HF:Hid (lP s.data.toList=(k+1)+lP (s.data.toList.drop (k+1))):=aH (by
     rw[HK.out,HDR.out];show k+(if fR b=true then lP _+1 else 0)=_
     rw[if_pos (by rw[HEW.out,hdg,Bool.or_true])];omega)
    go_wp2_with fail
    refine(HD.out _ _).mono ?_;rintro e u ⟨rfl,rfl⟩;rw[hdg];go_wp2;go_roundw
    case rel=>exact⟨k+1,by omega,by go_num,trivial,HF⟩
    case measure=>simp[intOf];omega
  ·have hlti:¬(k:Int)<(s.size:Int):=by omega
   have HF:Hid (lP s.data.toList=k):=aH (by
    rw[HK.out,List.drop_eq_nil_of_le (by simp;omega)];rfl)
   go_wp2;go_ret;exact⟨by rw[HF.out];rfl,rfl⟩
theorem nO (s:ByteArray)(hs:s.size<=6000)(w:World):Calls Tryz.prog 207 #[.string s] w (bQ (.bool (cN s.data.toList)) w):=by
 have hlen:s.data.toList.length=s.size:=by simp
 by_cases h0:s.size<1
 ·have h0z:(s.size:Int)<1:=by omega
  have HE:Hid (cN s.data.toList=false):=aH (by
   have:s.data.toList=[]:=List.length_eq_zero_iff.1 (by omega);rw[this];rfl)
  clear hs hlen h0;go_enter Tryz.func207,Tryz.ntmps207;go_wp2;go_ret;exact bO HE.out.symm
 obtain⟨b,t,hbt⟩:∃b t,s.data.toList=b :: t:=by
  cases h:s.data.toList with
  |nil=>rw[h]at hlen;simp at hlen;omega
  |cons b t=>exact⟨b,t,rfl⟩
 by_cases h31:31<s.size
 ·have h31z:(31:Int)<(s.size:Int):=by omega
  have h0z:¬(s.size:Int)<1:=by omega
  have HE:Hid (cN s.data.toList=false):=aH (by
   rw[hbt]at hlen⊢;unfold cN;simp only;rw[decide_eq_false (by omega)];rfl)
  clear hs hlen h0 h31 hbt;go_enter Tryz.func207,Tryz.ntmps207;go_wp2;go_ret;exact bO HE.out.symm
 have h31z:¬(31:Int)<(s.size:Int):=by omega
 have h0z:¬(s.size:Int)<1:=by omega
 have h0s:0<s.size:=by omega
 have hne2:(0:Int)<(s.size:Int):=by omega
 have hb0:s[0]=b:=by
  have:=jI h0s;rw[List.drop_zero,hbt]at this;simp only[List.cons.injEq]at this;exact this.1.symm
 have HR:=aH (fun w=>rRun_any s hs w);have hr:(lP s.data.toList=s.size)↔s.data.toList.all fR=true:=by rw[<-hlen];exact runL_all _
 have hE:cN s.data.toList=(eN (b.toNat:Int)&&s.data.toList.all fR):=by
  rw[hbt]at hlen⊢;unfold cN;simp only;rw[decide_eq_true (by omega),Bool.true_and]
 obtain⟨q,hq⟩:=aE (lP s.data.toList);have hql:q<=s.size:=by rw[hq,<-hlen];exact runL_le _
 rw[<-hq]at hr;have HRQ:Hid (∀w,Calls Tryz.prog 226 #[.string s,.int .i64 0] w (bQ (.int .i64 (q:Int)) w)):=aH (fun w=>by rw[hq];exact HR.out w);have HL:=aH (fun(x:Nat) (w:World)=>rLetter_any x w);obtain⟨x,hx⟩:=aE b.toNat;have hB0:s[0].toNat=x:=by rw[hb0,hx]
 rw[<-hx]at hE;have HE:=aH hE;have HR2:=aH hr;have hne:¬s.toList=[]:=fun h=>by
  have:=congrArg List.length h;rw[ByteArray.toList_eq,hlen]at this;simp only[List.length_nil]at this;omega
 clear hE hr hq hx hb0 hbt hlen h31 h0;cases hl:eN (x:Int)
 ·have HF:Hid (cN s.data.toList=false):=aH (by rw[HE.out,hl];rfl);clear hs;go_enter Tryz.func207,Tryz.ntmps207;go_wp2_with fail
  refine(HL.out _ _).mono ?_;rintro e u ⟨rfl,rfl⟩;rw[hl];go_wp2;go_ret;exact bO HF.out.symm
 ·by_cases he:q=s.size
  ·have HF:Hid (cN s.data.toList=true):=aH (by rw[HE.out,hl,HR2.out.1 he];rfl);have t1:((q:Int)==(s.size:Int))=true:=by rw[he];simp
   clear hs he hql;go_enter Tryz.func207,Tryz.ntmps207;go_wp2_with fail
   refine(HL.out _ _).mono ?_;rintro e u ⟨rfl,rfl⟩;rw[hl];go_wp2_with fail
   refine(HRQ.out _).mono ?_;rintro e u ⟨rfl,rfl⟩;go_wp2;go_ret;exact bO (by rw[HF.out])
  ·have HF:Hid (cN s.data.toList=false):=aH (by
    rw[HE.out,hl];cases ha:s.data.toList.all fR
    ·rfl
    ·exact absurd (HR2.out.2 ha) he)
   have t1:((q:Int)==(s.size:Int))=false:=by simp;omega
   clear hs he hql;go_enter Tryz.func207,Tryz.ntmps207;go_wp2_with fail
   refine(HL.out _ _).mono ?_;rintro e u ⟨rfl,rfl⟩;rw[hl];go_wp2_with fail
   refine(HRQ.out _).mono ?_;rintro e u ⟨rfl,rfl⟩;go_wp2;go_ret;exact bO (by rw[HF.out])
theorem lst_ne' {s:ByteArray}{l:List UInt8}(h:s.data.toList≠l):(l==s.toList)=false:=by
 rw[beq_eq_false_iff_ne,ByteArray.toList_eq];exact fun e=>h e.symm
theorem rShift_any (s:ByteArray)(w:World):Calls Tryz.prog 208 #[.string s] w (aP (.int .i64 (iW s.data.toList)) w):=by
 have hHB:Below w.heap.size w (w.alloc (.cells #[.string ⟨#[108,115,108]⟩,.string ⟨#[108,115,114]⟩,.string ⟨#[97,115,114]⟩,.string ⟨#[114,111,114]⟩] 9)):=(Below.refl _ w).alloc (Nat.le_refl _) _;have HB:=aH hHB;have HRB:RB (w.alloc (.cells #[.string ⟨#[108,115,108]⟩,.string ⟨#[108,115,114]⟩,.string ⟨#[97,115,114]⟩,.string ⟨#[114,111,114]⟩] 9)) w.heap.size #[.string ⟨#[108,115,108]⟩,.string ⟨#[108,115,114]⟩,.string ⟨#[97,115,114]⟩,.string ⟨#[114,111,114]⟩] 9:=(MapKept.heap_alloc w _).1;have c0:(w.alloc (.cells #[.string ⟨#[108,115,108]⟩,.string ⟨#[108,115,114]⟩,.string ⟨#[97,115,114]⟩,.string ⟨#[114,111,114]⟩] 9)).cell? ⟨w.heap.size,0,none⟩=some (.string ⟨#[108,115,108]⟩):=HRB.cell;have c1:(w.alloc (.cells #[.string ⟨#[108,115,108]⟩,.string ⟨#[108,115,114]⟩,.string ⟨#[97,115,114]⟩,.string ⟨#[114,111,114]⟩] 9)).cell? ⟨w.heap.size,1,none⟩=some (.string ⟨#[108,115,114]⟩):=HRB.cell;have c2:(w.alloc (.cells #[.string ⟨#[108,115,108]⟩,.string ⟨#[108,115,114]⟩,.string ⟨#[97,115,114]⟩,.string ⟨#[114,111,114]⟩] 9)).cell? ⟨w.heap.size,2,none⟩=some (.string ⟨#[97,115,114]⟩):=HRB.cell;have c3:(w.alloc (.cells #[.string ⟨#[108,115,108]⟩,.string ⟨#[108,115,114]⟩,.string ⟨#[97,115,114]⟩,.string ⟨#[114,111,114]⟩] 9)).cell? ⟨w.heap.size,3,none⟩=some (.string ⟨#[114,111,114]⟩):=HRB.cell;clear HRB hHB;have hc:(∃r:Int,(s=⟨#[108,115,108]⟩/\r=0)\/(s=⟨#[108,115,114]⟩/\r=1)\/(s=⟨#[97,115,114]⟩/\r=2)\/(s=⟨#[114,111,114]⟩/\r=3))\/(s.data.toList≠ [108,115,108]/\s.data.toList≠ [108,115,114]/\s.data.toList≠ [97,115,114]/\s.data.toList≠ [114,111,114]):=by
  by_cases h0:s.data.toList=[108,115,108]
  ·exact .inl ⟨_,.inl ⟨kO h0,rfl⟩⟩
  by_cases h1:s.data.toList=[108,115,114]
  ·exact .inl ⟨_,.inr (.inl ⟨kO h1,rfl⟩)⟩
  by_cases h2:s.data.toList=[97,115,114]
  ·exact .inl ⟨_,.inr (.inr (.inl ⟨kO h2,rfl⟩))⟩
  by_cases h3:s.data.toList=[114,111,114]
  ·exact .inl ⟨_,.inr (.inr (.inr ⟨kO h3,rfl⟩))⟩
  exact .inr ⟨h0,h1,h2,h3⟩
 rcases hc with⟨r,⟨rfl,rfl⟩|⟨rfl,rfl⟩|⟨rfl,rfl⟩|⟨rfl,rfl⟩⟩|⟨h0,h1,h2,h3⟩
 rotate_left 4
 ·have n0:=jM h0;have n1:=jM h1;have n2:=jM h2;have n3:=jM h3;have m0:=lst_ne' h0;have m1:=lst_ne' h1;have m2:=lst_ne' h2;have m3:=lst_ne' h3;have HE:Hid (iW s.data.toList= -1):=aH (by unfold iW;rw[if_neg h0,if_neg h1,if_neg h2,if_neg h3]);clear h0 h1 h2 h3;go_enter Tryz.func208,Tryz.ntmps208;go_wp2;refine wp_loop_rounds 5 ?_;rw[rounds_succ];go_wp2;all_goals (try (rw[rounds_succ];go_wp2))
  all_goals (try (rw[rounds_succ];go_wp2))
  all_goals (try (rw[rounds_succ];go_wp2))
  all_goals (try (rw[rounds_succ];go_wp2))
  all_goals (go_ret;exact⟨by rw[HE.out];rfl,HB.out⟩)
 all_goals
  go_enter Tryz.func208,Tryz.ntmps208;go_wp2;refine wp_loop_rounds 5 ?_;rw[rounds_succ];go_wp2;all_goals (try (rw[rounds_succ];go_wp2))
  all_goals (try (rw[rounds_succ];go_wp2))
  all_goals (try (rw[rounds_succ];go_wp2))
  all_goals (try (rw[rounds_succ];go_wp2))
  all_goals (go_ret;exact⟨rfl,HB.out⟩)
theorem named_w (s:ByteArray)(hs:s.size<=6000)(w:World)(h:cN s.data.toList=false):Calls Tryz.prog 189 #[.agg #[.int .i64 1,.string s,.int .u64 0]] w (aP (.bool (cI s.data.toList)) w):=by
 obtain⟨ln,lu,hlv⟩:=label_v s.data.toList;have HLb:Hid (∀w,Calls Tryz.prog 205 #[.string s] w (bQ (.tuple #[.int .i64 ln,.bool lu,.bool (kU s.data.toList)]) w)):=aH (fun w=>by
  have:=qE s (by unfold maxLen;omega) w;rwa[hlv]at this)
 generalize kU s.data.toList=lb at HLb;obtain⟨r0,r1,r2,hr⟩:∃r0 r1 r2,fU s.data.toList=(r0,r1,r2):=⟨_,_,_,rfl⟩;have HRg:Hid (∀w,Calls Tryz.prog 206 #[.string s] w (bQ (.tuple #[.int .i64 r0,.bool r1,.int .i64 r2]) w)):=aH (fun w=>by
  have:=rReg_any s w;rwa[hr]at this)
 have HW:=aH (fun w=>nO s hs w);have hE:cI s.data.toList=(cN s.data.toList && decide (r2 ≠ 0) && decide (iW s.data.toList < 0)):=by unfold cI;rw [hr]
 rw[h]at HW hE;have HE:=aH hE;clear hlv hr hE;generalize cI s.data.toList=R at HE⊢;go_enter Tryz.func189,Tryz.ntmps189;obtain⟨X,hX⟩:=aE w.heap.size;have HXE:=aH hX;have HX:Hid (RB (w.alloc (.cells #[.int .i64 1,.string s,.int .u64 0] 180)) X #[.int .i64 1,.string s,.int .u64 0] 180):=aH (by rw[hX];exact(MapKept.heap_alloc w _).1);have HBW:Hid (Below w.heap.size w (w.alloc (.cells #[.int .i64 1,.string s,.int .u64 0] 180))):=aH ((Below.refl _ w).alloc (Nat.le_refl _) _);clear hX;go_wp2_with fail
 try rw[<-HXE.out]
 generalize w.alloc (.cells #[.int .i64 1,.string s,.int .u64 0] 180)=W at HX HBW⊢;have x0:W.cell? ⟨X,0,none⟩=some (.int .i64 1):=HX.out.cell;have x1:W.cell? ⟨X,1,none⟩=some (.string s):=HX.out.cell;clear HXE HX;refine(HLb.out _).mono ?_;rintro e u ⟨rfl,rfl⟩;go_wp2_with fail
 refine(HRg.out _).mono ?_;rintro e u ⟨rfl,rfl⟩;go_wp2_with fail
 refine(HW.out _).mono ?_;rintro e u ⟨rfl,rfl⟩;go_wp2;go_ret;exact aB (by rw[HE.out];rfl) HBW.out
theorem named_r (s:ByteArray)(hs:s.size<=6000)(w:World)(h:cN s.data.toList=true)(hr0:(fU s.data.toList).2.2=0):Calls Tryz.prog 189 #[.agg #[.int .i64 1,.string s,.int .u64 0]] w (aP (.bool (cI s.data.toList)) w):=by
 obtain⟨ln,lu,hlv⟩:=label_v s.data.toList;have HLb:Hid (∀w,Calls Tryz.prog 205 #[.string s] w (bQ (.tuple #[.int .i64 ln,.bool lu,.bool (kU s.data.toList)]) w)):=aH (fun w=>by
  have:=qE s (by unfold maxLen;omega) w;rwa[hlv]at this)
 generalize kU s.data.toList=lb at HLb;obtain⟨r0,r1,r2,hr⟩:∃r0 r1 r2,fU s.data.toList=(r0,r1,r2):=⟨_,_,_,rfl⟩;have HRg:Hid (∀w,Calls Tryz.prog 206 #[.string s] w (bQ (.tuple #[.int .i64 r0,.bool r1,.int .i64 r2]) w)):=aH (fun w=>by
  have:=rReg_any s w;rwa[hr]at this)
 have HW:=aH (fun w=>nO s hs w);have hE:cI s.data.toList=(cN s.data.toList && decide (r2 ≠ 0) && decide (iW s.data.toList < 0)):=by unfold cI;rw [hr]
 rw[h]at HW hE;rw[hr]at hr0;simp only at hr0;subst hr0;have HE:=aH hE;clear hlv hr hE;generalize cI s.data.toList=R at HE⊢;go_enter Tryz.func189,Tryz.ntmps189;obtain⟨X,hX⟩:=aE w.heap.size;have HXE:=aH hX;have HX:Hid (RB (w.alloc (.cells #[.int .i64 1,.string s,.int .u64 0] 180)) X #[.int .i64 1,.string s,.int .u64 0] 180):=aH (by rw[hX];exact(MapKept.heap_alloc w _).1);have HBW:Hid (Below w.heap.size w (w.alloc (.cells #[.int .i64 1,.string s,.int .u64 0] 180))):=aH ((Below.refl _ w).alloc (Nat.le_refl _) _);clear hX;go_wp2_with fail
 try rw[<-HXE.out]
 generalize w.alloc (.cells #[.int .i64 1,.string s,.int .u64 0] 180)=W at HX HBW⊢;have x0:W.cell? ⟨X,0,none⟩=some (.int .i64 1):=HX.out.cell;have x1:W.cell? ⟨X,1,none⟩=some (.string s):=HX.out.cell;clear HXE HX;refine(HLb.out _).mono ?_;rintro e u ⟨rfl,rfl⟩;go_wp2_with fail
 refine(HRg.out _).mono ?_;rintro e u ⟨rfl,rfl⟩;go_wp2_with fail
 refine(HW.out _).mono ?_;rintro e u ⟨rfl,rfl⟩;go_wp2;go_ret;exact aB (by rw[HE.out];rfl) HBW.out
theorem named_s (s:ByteArray)(hs:s.size<=6000)(w:World)(h:cN s.data.toList=true)(hr0:(fU s.data.toList).2.2≠0):Calls Tryz.prog 189 #[.agg #[.int .i64 1,.string s,.int .u64 0]] w (aP (.bool (cI s.data.toList)) w):=by
 obtain⟨ln,lu,hlv⟩:=label_v s.data.toList;have HLb:Hid (∀w,Calls Tryz.prog 205 #[.string s] w (bQ (.tuple #[.int .i64 ln,.bool lu,.bool (kU s.data.toList)]) w)):=aH (fun w=>by
  have:=qE s (by unfold maxLen;omega) w;rwa[hlv]at this)
 generalize kU s.data.toList=lb at HLb;obtain⟨r0,r1,r2,hr⟩:∃r0 r1 r2,fU s.data.toList=(r0,r1,r2):=⟨_,_,_,rfl⟩;have HRg:Hid (∀w,Calls Tryz.prog 206 #[.string s] w (bQ (.tuple #[.int .i64 r0,.bool r1,.int .i64 r2]) w)):=aH (fun w=>by
  have:=rReg_any s w;rwa[hr]at this)
 have HW:=aH (fun w=>nO s hs w);have HS:=aH (fun w=>rShift_any s w);have hE:cI s.data.toList=(cN s.data.toList && decide (r2 ≠ 0) && decide (iW s.data.toList < 0)):=by unfold cI;rw [hr]
 rw[h]at HW hE;rw[hr]at hr0;simp only at hr0;rw[decide_eq_true hr0]at hE;have e1:(r2 !=0)=true:=by rw[bne_iff_ne];exact hr0
 generalize iW s.data.toList=q at HS hE;clear hr0;have HE:=aH hE;clear hlv hr hE;generalize cI s.data.toList=R at HE⊢;go_enter Tryz.func189,Tryz.ntmps189;obtain⟨X,hX⟩:=aE w.heap.size;have HXE:=aH hX;have HX:Hid (RB (w.alloc (.cells #[.int .i64 1,.string s,.int .u64 0] 180)) X #[.int .i64 1,.string s,.int .u64 0] 180):=aH (by rw[hX];exact(MapKept.heap_alloc w _).1);have HBW:Hid (Below w.heap.size w (w.alloc (.cells #[.int .i64 1,.string s,.int .u64 0] 180))):=aH ((Below.refl _ w).alloc (Nat.le_refl _) _);clear hX;go_wp2_with fail
 try rw[<-HXE.out]
 generalize w.alloc (.cells #[.int .i64 1,.string s,.int .u64 0] 180)=W at HX HBW⊢;have x0:W.cell? ⟨X,0,none⟩=some (.int .i64 1):=HX.out.cell;have x1:W.cell? ⟨X,1,none⟩=some (.string s):=HX.out.cell;clear HXE HX;refine(HLb.out _).mono ?_;rintro e u ⟨rfl,rfl⟩;go_wp2_with fail
 refine(HRg.out _).mono ?_;rintro e u ⟨rfl,rfl⟩;go_wp2_with fail
 refine(HW.out _).mono ?_;rintro e u ⟨rfl,rfl⟩;go_wp2_with fail
 refine(HS.out _).mono ?_;rintro e u ⟨rfl,hb⟩;have HB2:=aH (after HBW.out hb);clear hb;go_wp2;go_ret;exact aB (by rw[HE.out];rfl) HB2.out
theorem rNamed_any (s:ByteArray)(hs:s.size<=6000)(w:World):Calls Tryz.prog 189 #[.agg #[.int .i64 1,.string s,.int .u64 0]] w (aP (.bool (cI s.data.toList)) w):=by
 cases h:cN s.data.toList
 ·exact named_w s hs w h
 ·by_cases hr:(fU s.data.toList).2.2=0
  ·exact named_r s hs w h hr
  ·exact named_s s hs w h hr
theorem rName_any (s:ByteArray)(hs:s.size<=6000)(w:World):Calls Tryz.prog 162 #[.string s] w (aP (.bool (cI s.data.toList)) w):=by
 have HN:=aH (fun w=>rNamed_any s hs w);clear hs;go_enter Tryz.func162,Tryz.ntmps162;go_wp2_with fail
 refine(HN.out _).mono ?_;rintro e u ⟨rfl,hb⟩;have HB:=aH hb;clear hb;go_wp2;go_ret;exact aB rfl HB.out
theorem rIsName_any (s:ByteArray)(hs:s.size<=6000)(w:World):Calls Tryz.prog 133 #[.string s] w (aP (.bool (cI s.data.toList)) w):=by
 have HN:=aH (fun w=>rName_any s hs w);clear hs;go_enter Tryz.func133,Tryz.ntmps133;go_wp2_with fail
 refine(HN.out _).mono ?_;rintro e u ⟨rfl,hb⟩;have HB:=aH hb;clear hb;go_wp2;go_ret;exact aB rfl HB.out
end Go.Proofs.YtiohgaghmnpplaaGreatDoor
