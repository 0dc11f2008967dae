/- place: options, Up, Lay, Far, Near. veneer, plain: what is laid, what is wanted, and that it ends. veneer, plain: a veneer is near its call; a plan. veneer: veneers in memory, and maps that are keyed by them. -/
import Derived.Test.YtiohgaghmnpplaaGreatDoorqA
import Derived.LoopN
import Derived.Deep.QuietTactic
import Derived.BigQuiet
import Derived.Test.YtiohgaghmnpplaaGreatDoorw3
import Derived.Test.YtiohgaghmnpplaaGreatDoorqI
import Derived.DeepKeys4
import Derived.Maps.Own
import Derived.Maps.OwnOps
set_option maxRecDepth 100000
set_option maxHeartbeats 1600000
set_option linter.unusedVariables false
set_option linter.unusedSimpArgs false
namespace Go.Proofs.YtiohgaghmnpplaaGreatDoor
section
theorem zz_x1_vP_RecDepth:True:=trivial
namespace Pl
open Go.RowKit
def rG (a n:Int):Int×Int:=if n<0\/12<n then(0,1)else if 9223372036854775808<a then(0,4)else((a+(2^n.toNat-1))/2^n.toNat*2^n.toNat,0)
theorem upS0 {a n:Int}(h:n<0\/12<n):rG a n=(0,1):=if_pos h
theorem upS1 {a n:Int}(h1:0<=n)(h2:n<=12)(h:9223372036854775808<a):rG a n=(0,4):=by unfold rG;rw[if_neg (by omega),if_pos h]
theorem upS2 {a n:Int}(h1:0<=n)(h2:n<=12)(h:a<=9223372036854775808):rG a n=((a+(2^n.toNat-1))/2^n.toNat*2^n.toNat,0):=by unfold rG;rw[if_neg (by omega),if_neg (by omega)]
theorem pow12 (n:Int)(h:n<=12):1<=(2:Int)^n.toNat/\(2:Int)^n.toNat<=4096:=kC _ 12 (by omega) _ (by decide)
theorem andNot_ones64 (v n:Int)(h0:0<=v)(h1:v<18446744073709551616)(hn:0<=n)(hn':n<=63):
  bits BinOp.andNot IntKind.u64 v (2^n.toNat-1)=v/2^n.toNat*2^n.toNat:=by
 obtain⟨k,rfl⟩:=Int.eq_ofNat_of_zero_le hn;obtain⟨v,rfl⟩:=Int.eq_ofNat_of_zero_le h0;rw[Int.toNat_natCast];have hp:=kC k 63 (by omega) 9223372036854775808 (by decide);have e:((2:Int)^k-1)=((2^k-1:Nat):Int):=by
  have:=Nat.one_le_two_pow (n:=k);rw[Int.ofNat_sub this,bD];rfl
 have e2:2^k<=2^63:=Nat.pow_le_pow_right (by decide) (by omega);rw[e,u64_andNot_nat _ _ (by omega) (by omega)];have:=and_compl v k 64 (by omega) (by omega);simp only[show(18446744073709551615:Nat)=2^64-1 from rfl,this];rw[<-bD];rfl
theorem rF (a n:Int)(h0:0<=a)(h1:a<=9223372036854775808)(n0:0<=n)(n1:n<=12):
  a<=(a+(2^n.toNat-1))/2^n.toNat*2^n.toNat/\(a+(2^n.toNat-1))/2^n.toNat*2^n.toNat<a+2^n.toNat/\(a+(2^n.toNat-1))/2^n.toNat*2^n.toNat%2^n.toNat=0:=by
 have hp:=pow12 n n1;generalize(2:Int)^n.toNat=p at hp⊢;have e:=Int.emod_add_mul_ediv (a+(p-1)) p;have e1:=Int.emod_nonneg (a+(p-1)) (show p≠0 by omega);have e2:=Int.emod_lt_of_pos (a+(p-1)) (show 0<p by omega);rw[Int.mul_comm ((a+(p-1))/p) p];refine⟨by omega,by omega,Int.mul_emod_right _ _⟩
theorem up_any (a n:Int)(w:World)(h0:0<=a)(h1:a<18446744073709551616):
  Calls Tryz.prog 86 #[.int .u64 a,.int .i64 n] w (bQ (two .u64 .i64 (rG a n)) w):=by
 by_cases c1:n<0
 ·go_enter Tryz.func86,Tryz.ntmps86;go_wp2;go_ret2;exact bI (upS0 (by omega))
 by_cases c2:12<n
 ·go_enter Tryz.func86,Tryz.ntmps86;go_wp2;go_ret2;exact bI (upS0 (by omega))
 by_cases c3:9223372036854775808<a
 ·go_enter Tryz.func86,Tryz.ntmps86;go_wp2;go_ret2;exact bI (upS1 (by omega) (by omega) c3)
 have hp:=pow12 n (by omega);have hw:IntKind.u64.wrap (2^n.toNat)=2^n.toNat:=by rw[IntKind.wrap_u64];omega
 have ha:=andNot_ones64 (a+(2^n.toNat-1)) n (by omega) (by omega) (by omega) (by omega);have H:=aH (upS2 (a:=a) (n:=n) (by omega) (by omega) (by omega));go_enter Tryz.func86,Tryz.ntmps86;go_wp2;go_ret2;exact bI H.out
theorem eK (n:Int)(w:World)(h:n<=63):
  Calls Tryz.prog 103 #[.int .i64 n] w (bQ (.int .u64 (2^n.toNat)) w):=by
 go_enter Tryz.func103,Tryz.ntmps103;go_wp2;go_loop [3,4] (fun p i=>∃k:Nat,k<=n.toNat/\i=.int .i64 k/\p=.int .u64 (2^k)) (fun _ i=>n.toNat-(intOf i).toNat)
 case atStart=>exact⟨0,Nat.zero_le _,rfl,rfl⟩
 case round=>
  obtain⟨k,hk,rfl,rfl⟩:=hrel;by_cases hlt:(k:Int)<n
  ·have hp:=kC (k+1) 63 (by omega) 9223372036854775808 (by decide);have e:IntKind.u64.wrap (2*2^k)=2^(k+1):=by
    rw[Int.pow_succ]at hp⊢;rw[IntKind.wrap_u64];omega
   have E:=aH e;clear e hp;go_wp2;go_round
   case rel=>exact⟨k+1,by omega,by go_num,by rw[E.out]⟩
   case measure=>simp[intOf];omega
  ·go_wp2;go_ret;refine bK ?_;rw[show n.toNat=k from by omega]
theorem not_mult (k u p:Int)(hp:0<p)(hu:u%p=0):u-p<k->k<u->k%p≠0:=by
 intro h1 h2 h3;have e1:=Int.emod_add_mul_ediv u p;have e2:=Int.emod_add_mul_ediv k p;rw[hu]at e1;rw[h3]at e2;generalize u/p=x at e1;generalize k/p=y at e2;have h4:p*y<p*x:=by omega
 have h5:y<x:=Int.lt_of_mul_lt_mul_left h4 (by omega);have h6:p*(y+1)<=p*x:=Int.mul_le_mul_of_nonneg_left (by omega) (by omega);rw[Int.mul_add]at h6;omega
theorem refUp_any (a n:Int)(w:World)(h0:0<=a)(h1:a<18446744073709551616):
  Calls Tryz.prog 89 #[.int .u64 a,.int .i64 n] w (bQ (two .u64 .i64 (rG a n)) w):=by
 by_cases c1:n<0
 ·go_enter Tryz.func89,Tryz.ntmps89;go_wp2;go_ret2;exact bI (upS0 (by omega))
 by_cases c2:12<n
 ·go_enter Tryz.func89,Tryz.ntmps89;go_wp2;go_ret2;exact bI (upS0 (by omega))
 by_cases c3:9223372036854775808<a
 ·go_enter Tryz.func89,Tryz.ntmps89;go_wp2;go_ret2;exact bI (upS1 (by omega) (by omega) c3)
 have hp:=pow12 n (by omega);have H:=aH (upS2 (a:=a) (n:=n) (by omega) (by omega) (by omega));obtain⟨u,hu⟩:=aE ((a+(2^n.toNat-1))/2^n.toNat*2^n.toNat);have hf:=rF a n h0 (by omega) (by omega) (by omega);rw[<-hu]at hf;have HU:=aH hu;clear hu;have HF:=aH hf.2.2;obtain⟨f1,f2,-⟩:=hf;go_enter Tryz.func89,Tryz.ntmps89;go_wp2_with (go_at_call 103;refine(eK _ _ (by omega)).mono ?_;rintro e w' ⟨rfl,rfl⟩)
 go_loop [0] (fun x=>∃k:Int,a<=k/\k<=u/\x=.int .u64 k) (fun x=>(u-intOf x).toNat)
 case atStart=>exact⟨a,by omega,f1,rfl⟩
 case round=>
  obtain⟨k,k1,k2,rfl⟩:=hrel;have hne:=not_mult k u (2^n.toNat) (by omega) HF.out;by_cases hk:k=u
  ·have hz:(k%2^n.toNat !=0)=false:=by rw[hk,HF.out];rfl
   have HK:=aH hk;clear hk hne;go_wp2;go_ret2;refine bI ?_;rw[HK.out,HU.out];exact H.out
  ·have hz:(k%2^n.toNat !=0)=true:=by rw[bne_iff_ne];exact hne (by omega) (by omega)
   have hlt:k<u:=by omega
   clear hk hne;go_wp2;go_round
   case rel=>exact⟨k+1,by omega,by omega,rfl⟩
   case measure=>simp[intOf];omega
theorem far_any (f t:Int)(w:World)(f0:0<=f)(f1:f<18446744073709551616)(t0:0<=t)(t1:t<18446744073709551616):
  Calls Tryz.prog 33 #[.int .u64 f,.int .u64 t] w (bQ (.int .i64 (wrap64 (t-f))) w):=by
 go_enter Tryz.func33,Tryz.ntmps33;go_wp2;go_ret;refine bK ?_;simp only[IntKind.wrap_u64];unfold wrap64;omega
theorem refFar_any (f t:Int)(w:World)(f0:0<=f)(f1:f<18446744073709551616)(t0:0<=t)(t1:t<18446744073709551616):
  Calls Tryz.prog 68 #[.int .u64 f,.int .u64 t] w (bQ (.int .i64 (wrap64 (t-f))) w):=by
 go_enter Tryz.func68,Tryz.ntmps68;go_wp2;all_goals
  go_ret;refine bK ?_;simp only[IntKind.wrap_u64]at*;unfold wrap64;omega
def mU (f t r:Int):Bool:=decide (0<=r /\ -r<=wrap64 (t - f)/\wrap64 (t - f)<=r - 4)
theorem wrap64_bd (x:Int) : -9223372036854775808<=wrap64 x/\wrap64 x<=9223372036854775807:=by unfold wrap64;omega
theorem near_any (f t r:Int)(w:World)(f0:0<=f)(f1:f<18446744073709551616)(t0:0<=t)(t1:t<18446744073709551616)(r0 : -9223372036854775808<=r)(r1:r<=9223372036854775807):
  Calls Tryz.prog 24 #[.int .u64 f,.int .u64 t,.int .i64 r] w (bQ (.bool (mU f t r)) w):=by
 obtain⟨d,hd⟩:=aE (wrap64 (t-f));have hb:=wrap64_bd (t-f);have hn:mU f t r=decide (0<=r /\ -r<=d/\d<=r - 4):=by rw [hd];rfl
 have HF:=aH (far_any f t w f0 f1 t0 t1);rw[<-hd]at HF hb;have HN:=aH hn;clear hd hn;go_enter Tryz.func24,Tryz.ntmps24;go_wp2_with (go_at_call 33;refine(HF.out).mono ?_;rintro e w' ⟨rfl,rfl⟩)
 all_goals
  go_ret;refine bO ?_;rw[HN.out];first|(rw[Bool.eq_iff_iff];simp;omega)|(simp;omega)
theorem refNear_any (f t r:Int)(w:World)(f0:0<=f)(f1:f<18446744073709551616)(t0:0<=t)(t1:t<18446744073709551616)(r0 : -9223372036854775808<=r)(r1:r<=9223372036854775807):
  Calls Tryz.prog 63 #[.int .u64 f,.int .u64 t,.int .i64 r] w (bQ (.bool (mU f t r)) w):=by
 obtain⟨d,hd⟩:=aE (wrap64 (t-f));have hb:=wrap64_bd (t-f);have hn:mU f t r=decide (0<=r /\ -r<=d/\d<=r - 4):=by rw [hd];rfl
 have HF:=aH (refFar_any f t w f0 f1 t0 t1);rw[<-hd]at HF hb;have HN:=aH hn;clear hd hn;go_enter Tryz.func63,Tryz.ntmps63;go_wp2_with (go_at_call 68;refine(HF.out).mono ?_;rintro e w' ⟨rfl,rfl⟩)
 all_goals
  go_ret;refine bO ?_;rw[HN.out];first|(rw[Bool.eq_iff_iff];simp;omega)|(simp;omega)
def evB (a:Int):Bool:=decide (a % 4096=0/\a<=2305843009213693952)
def apB (a b:Int):Bool:=decide (16777216<=a - b\/16777216<=b - a)
def goodB (t d s r:Int):Bool:=(evB t && (evB d && evB s)) && (apB t d && (apB t s && apB d s)) && decide (r % 4=0/\8192<=r/\r<=134217724)
theorem even_any (a:Int)(w:World)(a0:0<=a)(a1:a<18446744073709551616):
  Calls Tryz.prog 87 #[.int .u64 a] w (bQ (.bool (evB a)) w):=by
 go_enter Tryz.func87,Tryz.ntmps87;go_wp2;all_goals
  go_ret;refine bO ?_;unfold evB;first|(rw[Bool.eq_iff_iff];simp at*;omega)|(simp at*;omega)
theorem pG (a b:Int)(w:World)(a0:0<=a)(a1:a<18446744073709551616)(b0:0<=b)(b1:b<18446744073709551616):
  Calls Tryz.prog 88 #[.int .u64 a,.int .u64 b] w (bQ (.bool (apB a b)) w):=by
 go_enter Tryz.func88,Tryz.ntmps88;go_wp2;all_goals
  go_ret;refine bO ?_;unfold apB;first|(rw[Bool.eq_iff_iff];simp at*;omega)|(simp at*;omega)
open Go.RowKit
theorem refGood_any (t d s r:Int)(w:World)(t0:0<=t)(t1:t<18446744073709551616)(d0:0<=d)(d1:d<18446744073709551616)(s0:0<=s)(s1:s<18446744073709551616):
  Calls Tryz.prog 59 #[.agg #[.int .u64 t,.int .u64 d,.int .u64 s,.int .i64 r]] w (aP (.bool (goodB t d s r)) w):=by
 have tm:r.tmod 4=0↔r%4=0:=by rw[<-Int.dvd_iff_tmod_eq_zero,Int.dvd_iff_emod_eq_zero]
 go_enter Tryz.func59,Tryz.ntmps59;go_wp2_with (first|(go_at_call 87;refine(even_any _ _ (by omega) (by omega)).mono ?_;rintro e w' ⟨rfl,rfl⟩)|(go_at_call 88;refine(pG _ _ _ (by omega) (by omega) (by omega) (by omega)).mono ?_;rintro e w' ⟨rfl,rfl⟩))
 all_goals
  go_ret;refine aB ?_ ((Below.refl _ _).alloc (Nat.le_refl _) _);try simp only[Bool.not_eq_true]at*
  unfold goodB;simp only[*,Bool.false_and,Bool.and_false,Bool.true_and,Bool.and_true,Bool.false_eq,Bool.true_eq];try (simp[*];done)
  try (first|(simp only[decide_eq_decide];omega)|(simp only[decide_eq_false_iff_not];omega)|(simp only[decide_eq_true_eq];omega))
theorem max_min (a b:Int):∃M m:Int,(if a<b then b else a)=M/\(if b<a then b else a)=m/\(apB b a=true↔16777216<=M-m):=by
 refine⟨_,_,rfl,rfl,?_⟩;simp only[apB,decide_eq_true_eq];split<;>split<;>omega
theorem good_any (t d s r:Int)(w:World)(t0:0<=t)(t1:t<18446744073709551616)(d0:0<=d)(d1:d<18446744073709551616)(s0:0<=s)(s1:s<18446744073709551616):
  Calls Tryz.prog 23 #[.agg #[.int .u64 t,.int .u64 d,.int .u64 s,.int .i64 r]] w (aP (.bool (goodB t d s r)) w):=by
 have i0:∀w,(Instr.index 93 (.agg #[.int .u64 t,.int .u64 d,.int .u64 s]) (.int .i64 0)).run Tryz.prog w=.ok (.int .u64 t) w:=fun _=>by kernel_rfl
 have i1:∀w,(Instr.index 93 (.agg #[.int .u64 t,.int .u64 d,.int .u64 s]) (.int .i64 1)).run Tryz.prog w=.ok (.int .u64 d) w:=fun _=>by kernel_rfl
 have i2:∀w,(Instr.index 93 (.agg #[.int .u64 t,.int .u64 d,.int .u64 s]) (.int .i64 2)).run Tryz.prog w=.ok (.int .u64 s) w:=fun _=>by kernel_rfl
 obtain⟨M1,m1,e1,f1,g1⟩:=max_min d t;obtain⟨M2,m2,e2,f2,g2⟩:=max_min s t;obtain⟨M3,m3,e3,f3,g3⟩:=max_min s d;have hg:goodB t d s r=decide ((r % 4=0/\8192<=r/\r<=134217724)/\(t % 4096=0/\t<=2305843009213693952)/\(d % 4096=0/\d<=2305843009213693952)/\(s % 4096=0/\s<=2305843009213693952)/\16777216<=M1 - m1/\16777216<=M2 - m2/\16777216<=M3 - m3):=by
  rw[Bool.eq_iff_iff];simp only[goodB,evB,Bool.and_eq_true,decide_eq_true_eq,g1,g2,g3];omega
 have HG:=aH hg;clear hg g1 g2 g3;have tm:r.tmod 4=0↔r%4=0:=by rw[<-Int.dvd_iff_tmod_eq_zero,Int.dvd_iff_emod_eq_zero]
 go_enter Tryz.func23,Tryz.ntmps23;go_wp2;iterate 12
  all_goals first
   |(go_ret;refine aB ?_ (by repeat (first|exact Below.refl _ _|refine Below.alloc ?_ (by simp) _));rw[HG.out];first|rfl|(symm;rw[decide_eq_true_eq];omega)|(symm;rw[decide_eq_false_iff_not];omega))
   |(refine wp_loop_rounds 4 ?_;rw[rounds_succ];go_wp2)
   |(rw[rounds_succ];go_wp2)
open Go.RowKit
abbrev Bk:=Int×Int
def pL (b:Bk):List Value:=[.int .i64 b.1,.int .i64 b.2]
theorem lY (b:Bk):(pL b).length=2:=rfl
def encU (x:Int):List Value:=[.int .u64 x]
theorem encU_len (x:Int):(encU x).length=1:=rfl
def i64B (x:Int):Prop := -9223372036854775808<=x/\x<=9223372036854775807
def bkB (b:Bk):Prop:=i64B b.1/\i64B b.2
def okB (b:Bk):Bool:=decide (0<=b.1/\b.1<=16384/\0<=b.2/\b.2<=12)
def gW:List Bk->Int->List Int×Int
 | [],e=>([],e)
 |b :: r,e=>((rG e b.2).1 :: (gW r ((rG e b.2).1+b.1)).1,(gW r ((rG e b.2).1+b.1)).2)
def fY (l:List Bk)(base:Int):List Int×Int×Int:=
 if l.all okB=false then([],0,1)else if 256<l.length then([],0,2)else if 4611686018427387904<base then([],0,4)else((gW l base).1,(gW l base).2,0)
theorem jU {w w':World}{b:Nat}{u:Value}(h:w.grownBy w' (some b)):w.grownBy (w'.setCell ⟨b,0,none⟩ u) (some b):=
 ⟨h.os,h.tape,h.output,by have:=h.size;simp[World.setCell];omega,fun k hk hne=>by
  rw[<-h.block k hk hne];exact Below.heap_setCell _ _ _ _ (by simp at hne⊢;omega)⟩
theorem grownBy_alloc' {w w':World}{row:Option Nat}(h:w.grownBy w' row)(o:Obj):w.grownBy (w'.alloc o) row:=
 ⟨h.os,h.tape,h.output,by have:=h.size;simp;omega,fun k hk hne=>(Below.heap_alloc _ _ _ (by have:=h.size;omega)).trans (h.block k hk hne)⟩
def LayClo (w:World)(B:Nat)(e s:Int)(al:Int)(en:Ending)(w':World):Prop:=
 en=.returned (.int .u64 (rG e al).1)/\w'.heap[B]?=some (.cells #[.int .u64 ((rG e al).1+s)] 26 (0,0))/\w.grownBy w' (some B)
theorem clo_any (s al e:Int)(B:Nat)(w:World)(s0:0<=s)(s1:s<=16384)(a0:0<=al)(a1:al<=12)(e0:0<=e)(e1:e<=9000000000000000000)
  (hB:w.heap[B]?=some (.cells #[.int .u64 e] 26 (0,0))):
  Calls Tryz.prog 85 #[.agg #[.int .i64 s,.int .i64 al],.pointer (some ⟨B,0,none⟩)] w (LayClo w B e s al):=by
 have hlt:=lt_of_block hB;have hc:=cell_of_one hB;have hf:=free_of_one hB;have hu:=rF e al e0 (by omega) a0 a1;have hp:=pow12 al a1;have hx:(rG e al)=((rG e al).1,0):=by rw[upS2 a0 a1 (by omega)]
 have hx1:(rG e al).1=(e+(2^al.toNat-1))/2^al.toNat*2^al.toNat:=by rw[upS2 a0 a1 (by omega)]
 rw[<-hx1]at hu;obtain⟨u,hU⟩:=aE ((rG e al).1);rw[<-hU]at hu hx;have HU:=aH hU;have hup:=up_any e al;rw[hx]at hup;have HUP:=aH hup;have HB:=aH hB;obtain⟨u1,u2,-⟩:=hu;clear hx hx1 hU hup hB;go_enter Tryz.func85,Tryz.ntmps85;go_wp2_with (go_at_call 86;refine(HUP.out _ (by omega) (by omega)).mono ?_;rintro e w' ⟨rfl,rfl⟩)
 go_ret;refine⟨by rw[<-HU.out];rfl,?_,?_⟩
 ·rw[<-HU.out];exact(Below.heap_alloc _ _ _ (by simp[World.setCell];exact hlt)).trans (one_setCell HB.out)
 ·exact grownBy_alloc' (jU (World.grownBy.refl _ _)) _
theorem one_one (u:Int):∀x∈ [Value.int .u64 u],x.oneCell'=true:=by
 intro x hx;simp only[List.mem_cons,List.mem_nil_iff,or_false]at hx;subst hx;rfl
theorem own_next {w w':World}{b:Nat}{e:TypeId}{size:Nat}{v:Value}{n:Nat}{xs:List Value}(h:w.ownsRow b e size v n xs)(hb:Below w.heap.size w w'):w'.ownsRow b e size v n xs:=by
 refine⟨h.1,?_⟩;rcases h.2 with hn|⟨g,cap,cur,hv,hbg,hgg,rest⟩
 ·exact .inl hn
 ·exact .inr ⟨g,cap,cur,hv,hbg,(hb.block g (lt_of_block hgg)).trans hgg,rest⟩
theorem own_down {w:World}{b b':Nat}{e:TypeId}{size:Nat}{v:Value}{n:Nat}{xs:List Value}(h:w.ownsRow b' e size v n xs)(hb:b<=b'):w.ownsRow b e size v n xs:=by
 refine⟨h.1,?_⟩;rcases h.2 with h1|⟨g,cap,cur,e1,e2,e3⟩
 ·exact .inl h1
 ·exact .inr ⟨g,cap,cur,e1,by omega,e3⟩
def LayPost (w:World)(p:List Int×Int×Int)(e:Ending)(w':World):Prop:=
 ∃a n c,e=.returned (.tuple #[.slice a n c,.int .u64 p.2.1,.int .i64 p.2.2])/\SL encU 1 w' w'.heap.size a n p.1/\(a=none->n=0/\c=0)/\Below w.heap.size w w'/\w'.ownsRow w.heap.size 26 1 (.slice a n c) n (p.1.flatMap encU)
theorem info26:(Tryz.prog.info? 26).map (fun i=>(i.zero,i.size,i.bytes))=some (some (.int .u64 0),1,8):=by kernel_rfl
theorem lay_any (a:Option Addr)(n c:Nat)(l:List Bk)(base:Int)(w:World)(hn:n<=600)(h:SL pL 2 w w.heap.size a n l)(hg:∀b∈l,bkB b)(b0:0<=base)(b1:base<18446744073709551616):
  Calls Tryz.prog 57 #[.slice a n c,.int .u64 base] w (LayPost w (fY l base)):=by
 go_enter Tryz.func57,Tryz.ntmps57;go_wp2;go_loopw [16] (fun i wr=>∃k:Nat,k<=n/\i=.int .i64 k/\(∀j (h:j<l.length),j<k->okB l[j]=true)/\Below w.heap.size w wr) (fun i _=>n-(intOf i).toNat)
 case atStart=>exact⟨0,by omega,rfl,by intro j _ hj;omega,Below.refl _ _⟩
 case round=>
  obtain⟨k,hk,rfl,hok,hb⟩:=hrel;have hlen:=h.len;have HOK:=aH hok;clear hok;by_cases hlt:k<n
  ·have hkl:k<l.length:=by omega
   obtain⟨b,off,rfl,hB,hc⟩:=(h.below hb).cells (h.ne hlt);have c0:=hc k hkl 0 (by omega);have c1:=hc k hkl 1 (by omega);obtain⟨⟨g0,g1⟩,g2,g3⟩:=hg l[k] (List.getElem_mem _);obtain⟨f,hf⟩:=aE (l[k]);rw[<-hf]at c0 c1 g0 g1 g2 g3;obtain⟨S,A⟩:=f;simp only[pL,Nat.add_zero,List.getElem?_cons_zero,List.getElem?_cons_succ]at c0 c1;have HF:=aH hf;have HL:=aH hlen;clear hc hf hlen h hg;by_cases hk0:0<=S/\S<=16384/\0<=A/\A<=12
   ·obtain⟨k1,k2,k3,k4⟩:=hk0;go_wp2;go_roundw
    case rel=>
     refine⟨k+1,by omega,by go_num,?_,hb.alloc hb.size _⟩;intro j hj hjk;by_cases e:j=k
     ·subst e;rw[<-HF.out];simp[okB];omega
     ·exact HOK.out j hj (by omega)
    case measure=>simp[intOf];omega
   ·have hno:fY l base=([],0,1):=by
     unfold fY;rw[if_pos];rw[List.all_eq_false];exact⟨_,List.getElem_mem hkl,by rw[<-HF.out];simp[okB];omega⟩
    have HNO:=aH hno;have hk1:S<0\/(0<=S/\16384<S)\/(0<=S/\S<=16384/\A<0)\/(0<=S/\S<=16384/\0<=A/\12<A):=by omega
    clear hk0 hno;rcases hk1 with k1|⟨k1,k2⟩|⟨k1,k2,k3⟩|⟨k1,k2,k3,k4⟩
    all_goals
     go_wp2;go_ret3;exact⟨none,0,0,by rw[HNO.out];rfl,by rw[HNO.out];exact SL.nil _ _ _,fun _=>⟨rfl,rfl⟩,hb.alloc hb.size _,by rw[HNO.out];exact World.ownsRow_nil _ _ _ _⟩
  ·have hall:∀x∈l,okB x=true:=by
    intro x hx;obtain⟨j,hj,rfl⟩:=List.getElem_of_mem hx;exact HOK.out j hj (by omega)
   have HA:=aH hall;have HL:=aH hlen;clear hlen hall HOK;have hnf:¬l.all okB=false:=by rw[List.all_eq_false];intro⟨x,hx,hn⟩;exact hn (HA.out x hx)
   have HNF:=aH hnf;clear hnf;by_cases h256:256<n
   ·have hno:fY l base=([],0,2):=by
     unfold fY;rw[if_neg HNF.out,if_pos (by have:=HL.out;omega)]
    have HNO:=aH hno;clear hno h;go_wp2;go_ret3;exact⟨none,0,0,by rw[HNO.out];rfl,by rw[HNO.out];exact SL.nil _ _ _,fun _=>⟨rfl,rfl⟩,hb,by rw[HNO.out];exact World.ownsRow_nil _ _ _ _⟩
   by_cases h62:4611686018427387904<base
   ·have hno:fY l base=([],0,4):=by
     unfold fY;rw[if_neg HNF.out,if_neg (by have:=HL.out;omega),if_pos h62]
    have HNO:=aH hno;clear hno h;go_wp2;go_ret3;exact⟨none,0,0,by rw[HNO.out];rfl,by rw[HNO.out];exact SL.nil _ _ _,fun _=>⟨rfl,rfl⟩,hb,by rw[HNO.out];exact World.ownsRow_nil _ _ _ _⟩
   have hno:fY l base=((gW l base).1,(gW l base).2,0):=by
    unfold fY;rw[if_neg HNF.out,if_neg (by have:=HL.out;omega),if_neg h62]
   have HNO:=aH hno;clear hno;obtain⟨i0,hi,hz0,hz1,hz2⟩:=info_parts info26;go_wp2;obtain⟨B,hBd⟩:∃B:Nat,B=wr.heap.size:=⟨_,rfl⟩;have hb2:=hb.alloc hb.size (.cells #[.int .u64 base] 26);have hblk:(wr.alloc (.cells #[.int .u64 base] 26)).heap[B]?=some (.cells #[.int .u64 base] 26 (0,0)):=by rw[hBd];exact(MapKept.heap_alloc wr _).1
   have hBs:=hb.size;rw[<-hBd]at hBs⊢;obtain⟨wo,ho⟩:∃wo:World,wo=wr.alloc (.cells #[.int .u64 base] 26):=⟨_,rfl⟩;rw[<-ho]at hb2 hblk⊢;have h':=aH h;have hg':=aH hg;clear ho hBd hb h hg;go_loopw [11,48] (fun v i wl=>∃(k:Nat) (e:Int) (acc:List Int),k<=n/\i=.int .i64 k/\wl.ownsRow (B+1) 26 1 v k (acc.flatMap encU)/\wl.heap[B]?=some (.cells #[.int .u64 e] 26 (0,0))/\
    0<=e/\e<=4611686018427387904+k*20480/\gW l base=(acc++(gW (l.drop k) e).1,(gW (l.drop k) e).2)/\Below w.heap.size w wl) (fun _ i _=>n-(intOf i).toNat)
   case atStart=>exact⟨0,base,[],by omega,rfl,World.ownsRow_nil _ _ _ _,hblk,b0,by omega,rfl,hb2⟩
   case round=>
    clear hb2 hblk;obtain⟨k,e,acc,hk,rfl,hown,hblk,e0,e1,hlay,hb⟩:=hrel;have HLAY:=aH hlay;clear hlay;by_cases hlt:k<n
    ·have hkl:k<l.length:=by have:=HL.out;omega
     obtain⟨b,off,rfl,hBb,hc⟩:=(h'.out.below hb).cells (h'.out.ne hlt);have c0:=hc k hkl 0 (by omega);have c1:=hc k hkl 1 (by omega);have hokk:=HA.out _ (List.getElem_mem hkl);have hd:=eW hkl;generalize l[k]=f at c0 c1 hokk hd;obtain⟨S,A⟩:=f;simp only[pL,Nat.add_zero,List.getElem?_cons_zero,List.getElem?_cons_succ]at c0 c1;have HD:=aH hd;obtain⟨k1,k2,k3,k4⟩:=of_decide_eq_true hokk;replace k1:0<=S:=k1;replace k2:S<=16384:=k2;replace k3:0<=A:=k3;replace k4:A<=12:=k4;have HOWN:=aH hown;have HBLK:=aH hblk;have hBlt:=lt_of_block hblk;clear hc hd hokk hown hblk;go_wp2_with fail
     refine(clo_any S A e B _ k1 k2 k3 k4 e0 (by omega) ((Below.heap_alloc _ _ _ hBlt).trans HBLK.out)).mono ?_;rintro en w1 ⟨rfl,hblk1,hgr⟩;have hown1:=(HOWN.out.alloc (.cells #[.int .i64 S,.int .i64 A] 106)).kept hgr (by
      right;intro hh;have:=(HOWN.out.lt B hh).1;omega)
     have hu:=rF e A e0 (by omega) k3 k4;have hp:=pow12 A k4;have hx1:(rG e A).1=(e+(2^A.toNat-1))/2^A.toNat*2^A.toNat:=by rw[upS2 k3 k4 (by omega)]
     rw[<-hx1]at hu;obtain⟨u,hU⟩:=aE ((rG e A).1);rw[<-hU]at hu hblk1⊢;obtain⟨u1,u2,-⟩:=hu;have HU:=aH hU;have HB1:=aH hblk1;have hB1:=lt_of_block hblk1;have hbw1:Below w.heap.size w w1:=(hb.alloc hb.size _).grown hgr (by have:=hb.size;simp;omega) (by intro j hj;cases hj;exact hBs);have hs1:=hbw1.size;clear hgr hx1 hU hblk1 HOWN HBLK;have hm:k+1<=maxLen:=by unfold maxLen;omega
     have hby:(k+1)*8<=140737488355328:=by omega
     go_wp2_with (at_builtin;refine wpList_append_own _ rfl _ _ 31 rfl (B+1) 26 i0 (.int .u64 0) 1 8 Tryz.underlying31 hi hz0 hz1 hz2 rfl (by decide) _ k (acc.flatMap encU) rfl (hown1.alloc _) ⟨w1.heap.size,0,none⟩ 1 1 [.int .u64 u] rfl rfl (cell_one_new _ _ _) (one_one u) hm hby (by simp;omega) ?_;intro v' w2 hown2 hgrow2 hiff)
     go_roundw
     case rel=>
      have hB2:w2.heap[B]?=some (.cells #[.int .u64 (u+S)] 26 (0,0)):=by
       rw[hgrow2.block B (by simp;omega) (by intro hh;have:=(hown1.lt B hh.symm).1;omega),Below.heap_alloc _ _ _ hB1];exact HB1.out
      refine⟨k+1,u+S,acc++ [u],by omega,by go_num,?_,hB2,by omega,by omega,?_,?_⟩
      ·simpa[encU]using hown2
      ·rw[HLAY.out,HD.out,gW];simp[<-HU.out]
      ·exact(hbw1.alloc hbw1.size _).grown hgrow2 (by simp;omega) (fun j hj=>by have:=(hown1.lt j hj).1;omega)
     case measure=>simp[intOf];omega
    ·have hcell:=cell_of_one hblk;have HOWN:=aH hown;clear hblk hown;go_wp2;go_quiet (fail);go_wp2;go_ret3;have hkn:k=n:=by omega
     have hown:=HOWN.out;rw[hkn]at hown;have hl:gW l base=(acc,e):=by
      rw[HLAY.out,List.drop_of_length_le (by have:=HL.out;omega)];simp[gW]
     obtain⟨a',c',rfl,hsl,hnil⟩:=SL.ofOwns encU_len (by omega) hown;have hfin:fY l base=(acc,e,0):=by rw[HNO.out,hl]
     refine⟨a',n,c',?_,?_,hnil,below_drewN hb _,?_⟩
     ·rw[hfin];rfl
     ·rw[hfin];exact hsl.next (eA _ _)
     ·rw[hfin];exact own_next (own_down hown (by omega)) (eA _ _)
end Pl
end
section
open Go.ChangeShapes Go.WideShapes Go.Deep Go.RowKit
open Go.Proofs.YtiohgaghmnpplaaGreatDoor.Pl (Bk gW fY rG mU goodB)
abbrev Vn:=Int×Int×Int
def iI (S:List Sc)(k:Nat):Nat:=match S[k]? with|some s=>s.data.length|none=>0
def bZ (S:List Sc)(k:Nat):List Rl:=match S[k]? with|some s=>s.rels|none=>[]
def bC (live:List Nat) (k:Int):Bool:=decide (0<=k) && decide (k.toNat ∈ live)
def eF (S:List Sc) (live:List Nat) (k:Int):Bool:=bC live k && decide (bG S k.toNat=1)
def cZ (v:List Vn) (k:Int):Nat:=(v.filter (fun x=>decide (x.1=k))).length
def aX (S:List Sc)(live:List Nat):List Vn->List Vn->Bool
 |_,[]=>true
 |seen,x :: t=>if x∈seen\/eF S live x.1=false\/bC live x.2.1=false then false else if 64<cZ (seen++ [x]) x.1 then false else aX S live (seen++ [x]) t
def gN (S:List Sc)(k:Nat):Nat:=(iI S k+3)/4*4
def gK (S:List Sc)(v:List Vn)(l:List (Nat×Int)):List Bk:=l.filterMap (fun x=>if bG S x.1=1 then some ((gN S x.1+12*cZ v x.1:Nat),max x.2 2)else none)
def dP (S:List Sc)(l:List (Nat×Int)):List Bk:=l.filterMap (fun x=>if bG S x.1=1 then none else some ((iI S x.1:Nat),x.2))
def bF (S:List Sc)(live:List Nat)(align:List Int)(t d:Int)(v:List Vn):List Int:=
 (gW (gK S v (live.zip align)) t).1++(gW (dP S (live.zip align)) d).1
def pK (live:List Nat)(P:List Int)(k:Int):Int:=(P[live.idxOf k.toNat]?).getD 0
def venR (S:List Sc)(live:List Nat)(P:List Int):List Vn->List Vn->List Int
 |_,[]=>[]
 |seen,x :: t=>(pK live P x.1+((gN S x.1.toNat+12*cZ seen x.1:Nat):Int)) :: venR S live P (seen++ [x]) t
def kS (S:List Sc)(live:List Nat)(P:List Int)(v:List Vn):List Int:=venR S live P [] v
def pJ (rep:List Int)(s:Int):Int:=(rep[s.toNat]?).getD 0
def eM (rep:List Int)(k:Nat)(r:Rl):Vn:=((k:Int),pJ rep r.sym,r.add)
def mZ (live:List Nat)(P:List Int)(x:Vn):Int:=(pK live P x.2.1+x.2.2)%18446744073709551616
def mM (S:List Sc) (k:Nat):List (Nat × Rl):=if bG S k=1 then ((bZ S k).filter (fun r=>decide (r.kind=2))).map (fun r=>(k,r)) else []
def fF (S:List Sc)(live:List Nat):List (Nat×Rl):=live.flatMap (mM S)
def lI (live:List Nat)(P:List Int)(rep:List Int)(R:Int)(c:Nat×Rl):Bool:=mU ((pK live P (c.1:Int)+c.2.pos)%18446744073709551616) (mZ live P (eM rep c.1 c.2)) R
def qT (v:List Vn)(l:List Vn)(x:Vn):List Vn:=if x∈v\/x∈l then l else l++ [x]
def gQ (live:List Nat)(P:List Int)(rep:List Int)(R:Int)(v:List Vn)(l:List Vn)(c:Nat×Rl):List Vn:=if lI live P rep R c=true then l else qT v l (eM rep c.1 c.2)
def gJ (S:List Sc)(live:List Nat)(P:List Int)(rep:List Int)(R:Int)(v:List Vn):List Vn:=(fF S live).foldl (gQ live P rep R v) []
theorem stepW_inv {live:List Nat}{P rep:List Int}{R:Int}{v:List Vn}{C:List (Nat×Rl)}:
  ∀(cs:List (Nat×Rl)) (l:List Vn),(∀c∈cs,c∈C)->l.Nodup->(∀x∈l,x∉v/\x∈C.map (fun c=>eM rep c.1 c.2))->
  (cs.foldl (gQ live P rep R v) l).Nodup/\(∀x∈cs.foldl (gQ live P rep R v) l,x∉v/\x∈C.map (fun c=>eM rep c.1 c.2))/\(∀x∈l,x∈cs.foldl (gQ live P rep R v) l)/\
  (∀c∈cs,lI live P rep R c=true\/eM rep c.1 c.2∈v\/eM rep c.1 c.2∈cs.foldl (gQ live P rep R v) l)
 | [],l,_,hn,hx=>⟨hn,hx,fun x h=>h,fun c hc=>by cases hc⟩
 |c :: t,l,hc,hn,hx=>by
  have key:(gQ live P rep R v l c).Nodup/\(∀x∈gQ live P rep R v l c,x∉v/\x∈C.map (fun c=>eM rep c.1 c.2))/\(∀x∈l,x∈gQ live P rep R v l c)/\(lI live P rep R c=true\/eM rep c.1 c.2∈v\/eM rep c.1 c.2∈gQ live P rep R v l c):=by
   unfold gQ;split
   ·rename_i h;exact⟨hn,hx,fun x h=>h,.inl h⟩
   ·unfold qT;split
    ·rename_i h2;exact⟨hn,hx,fun x h=>h,h2.elim (fun a=>.inr (.inl a)) (fun a=>.inr (.inr a))⟩
    ·rename_i h2;have h3:eM rep c.1 c.2∉v:=fun h=>h2 (.inl h)
     have h4:eM rep c.1 c.2∉l:=fun h=>h2 (.inr h)
     refine⟨?_,fun x hx'=>?_,fun x h=>List.mem_append_left _ h,.inr (.inr (by simp))⟩
     ·rw[List.nodup_append];exact⟨hn,by simp,fun a ha b hb e=>by rw[List.mem_singleton]at hb;subst e;subst hb;exact h4 ha⟩
     ·rcases List.mem_append.1 hx' with h|h
      ·exact hx x h
      ·rw[List.mem_singleton.1 h];exact⟨h3,List.mem_map.2 ⟨c,hc c (List.mem_cons_self ..),rfl⟩⟩
  obtain⟨k1,k2,k3,k4⟩:=key;obtain⟨g1,g2,g3,g4⟩:=stepW_inv t (gQ live P rep R v l c) (fun c' hc'=>hc c' (List.mem_cons_of_mem _ hc')) k1 k2;refine⟨g1,g2,fun x h=>g3 x (k3 x h),fun c' hc'=>?_⟩;rcases List.mem_cons.1 hc' with rfl|hc'
  ·rcases k4 with k4|k4|k4
   ·exact .inl k4
   ·exact .inr (.inl k4)
   ·exact .inr (.inr (g3 _ k4))
  ·exact g4 c' hc'
theorem wants_inv (S:List Sc)(live:List Nat)(P rep:List Int)(R:Int)(v:List Vn):
  (gJ S live P rep R v).Nodup/\(∀x∈gJ S live P rep R v,x∉v/\x∈(fF S live).map (fun c=>eM rep c.1 c.2))/\
  (∀c∈fF S live,lI live P rep R c=true\/eM rep c.1 c.2∈v\/eM rep c.1 c.2∈gJ S live P rep R v):=by
 obtain⟨a1,a2,-,a4⟩:=stepW_inv (live:=live) (P:=P) (rep:=rep) (R:=R) (v:=v) (C:=fF S live) (fF S live) [] (fun c h=>h) List.nodup_nil (fun x hx=>by cases hx);exact⟨a1,a2,a4⟩
theorem nS:∀(l C:List Vn),l.Nodup->(∀x∈l,x∈C)->l.length<=C.length
 | [],_,_,_=>Nat.zero_le _
 |a :: t,C,hn,hs=>by
  obtain⟨h1,h2⟩:=List.nodup_cons.1 hn;have ha:=hs a (List.mem_cons_self ..);have h3:=nS t (C.erase a) h2 (fun x hx=>(List.mem_erase_of_ne (by rintro rfl;exact h1 hx)).2 (hs x (List.mem_cons_of_mem _ hx)));have h4:=List.length_erase_of_mem ha;have h5:0<C.length:=List.length_pos_of_mem ha;rw[List.length_cons];omega
def jO (W:List Vn->List Vn):Nat->List Vn
 |0=>[]
 |n+1=>jO W n++W (jO W n)
section
variable {W:List Vn->List Vn} {C:List Vn} (hW:∀v,(W v).Nodup/\∀x∈W v,x∉v/\x∈C)
include hW
theorem rC:∀n,(jO W n).Nodup/\∀x∈jO W n,x∈C
 |0=>⟨List.nodup_nil,fun x hx=>by cases hx⟩
 |n+1=>by
  obtain⟨h1,h2⟩:=rC n;obtain⟨k1,k2⟩:=hW (jO W n);refine⟨?_,fun x hx=>?_⟩
  ·show(jO W n++W (jO W n)).Nodup
   rw[List.nodup_append];exact⟨h1,k1,fun a ha b hb e=>by subst e;exact(k2 a hb).1 ha⟩
  ·rcases List.mem_append.1 hx with h|h
   ·exact h2 x h
   ·exact(k2 x h).2
theorem vens_len (n:Nat):(jO W n).length<=C.length:=
 nS _ _ (rC hW n).1 (rC hW n).2
omit hW in
theorem vens_grow (n:Nat)(h:∀m,m<n->W (jO W m)≠ []):n<=(jO W n).length:=by
 induction n with
 |zero=>exact Nat.zero_le _
 |succ n ih=>
  have h1:=ih fun m hm=>h m (by omega)
  have h2:0<(W (jO W n)).length:=by
   have:=h n (by omega);cases e:W (jO W n)with
   |nil=>exact absurd e this
   |cons=>simp
  show n+1<=(jO W n++W (jO W n)).length
  rw[List.length_append];omega
theorem vens_ends (n:Nat)(h:∀m,m<n->W (jO W m)≠ []):n<=C.length:=Nat.le_trans (vens_grow n h) (vens_len hW n)
end
theorem gV (a b:List Vn)(k:Int):cZ (a++b) k=cZ a k+cZ b k:=by unfold cZ;rw[List.filter_append,List.length_append]
theorem jD (x:Vn)(k:Int):cZ [x] k=if x.1=k then 1 else 0:=by
 unfold cZ;by_cases h:x.1=k
 ·rw[List.filter_cons_of_pos (by simpa using h),if_pos h];rfl
 ·rw[List.filter_cons_of_neg (by simpa using h),if_neg h];rfl
theorem qD (S:List Sc)(live:List Nat):∀(v seen:List Vn),(∀k,cZ seen k<=64)->seen.Nodup->(aX S live seen v=true↔(seen++v).Nodup/\(∀x∈v,eF S live x.1=true/\bC live x.2.1=true)/\∀k,cZ (seen++v) k<=64)
 | [],seen,hc,hn=>by
  unfold aX;simp only[List.append_nil,true_iff];exact⟨hn,(fun x hx=>by cases hx),hc⟩
 |x :: t,seen,hc,hn=>by
  have e:seen++x :: t=(seen++ [x])++t:=by simp
  unfold aX;constructor
  ·intro h;split at h
   ·cases h
   ·rename_i c;split at h
    ·cases h
    ·rename_i c2;have h1:x∉seen:=fun hh=>c (.inl hh)
     have h2:eF S live x.1=true:=by cases hh:eF S live x.1;exact absurd (.inr (.inl hh)) c;rfl
     have h3:bC live x.2.1=true:=by cases hh:bC live x.2.1;exact absurd (.inr (.inr hh)) c;rfl
     have hn':(seen++ [x]).Nodup:=by
      rw[List.nodup_append];exact⟨hn,by simp,fun a ha b hb e=>by rw[List.mem_singleton]at hb;subst e;subst hb;exact h1 ha⟩
     have hc':∀k,cZ (seen++ [x]) k<=64:=fun k=>by
      by_cases hk:x.1=k
      ·subst hk;omega
      ·rw[gV,jD,if_neg hk];exact hc k
     obtain⟨a1,a2,a3⟩:=(qD S live t (seen++ [x]) hc' hn').1 h;rw[e];refine⟨a1,fun y hy=>?_,a3⟩;rcases List.mem_cons.1 hy with rfl|hy
     ·exact⟨h2,h3⟩
     ·exact a2 y hy
  ·rintro⟨a1,a2,a3⟩;rw[e]at a1 a3;obtain⟨b1,b2⟩:=a2 x (List.mem_cons_self ..);have hn':(seen++ [x]).Nodup:=(List.nodup_append.1 a1).1;have hc':∀k,cZ (seen++ [x]) k<=64:=fun k=>by have:=a3 k;rw[gV]at this;omega
   have h1:x∉seen:=fun hh=>(List.nodup_append.1 hn').2.2 x hh x (by simp) rfl
   rw[if_neg,if_neg]
   ·exact(qD S live t (seen++ [x]) hc' hn').2 ⟨a1,fun y hy=>a2 y (List.mem_cons_of_mem _ hy),a3⟩
   ·have:=hc' x.1;omega
   ·rintro(c|c|c)
    ·exact h1 c
    ·rw[b1]at c;cases c
    ·rw[b2]at c;cases c
theorem gZ {S:List Sc}{live:List Nat}{v:List Vn}:aX S live [] v=true↔v.Nodup/\(∀x∈v,eF S live x.1=true/\bC live x.2.1=true)/\∀k,cZ v k<=64:=by
 have:=qD S live v [] (fun k=>by simp[cZ]) List.nodup_nil;simpa using this
structure iT (S:List Sc)(rep:List Int)(live:List Nat)(align:List Int):Prop where
 nd:live.Nodup
 al:align.length=live.length
 a0:∀a∈align,0<=a/\a<=12
 inn:∀k∈live,∃s,S[k]?=some s/\s.data.length<=4096/\s.rels.length<=64/\∀r∈s.rels,0<=r.pos/\r.pos<=s.data.length/\bC live (pJ rep r.sym)=true
 n256:live.length<=256
 up:∀i j (hi:i<live.length) (hj:j<live.length),i<=j->bG S live[j]=1->bG S live[i]=1
theorem codeB_of {S:List Sc}{live:List Nat}{k:Nat}(h:k∈live)(hk:bG S k=1):eF S live (k:Int)=true:=by
 unfold eF bC;simp only[Bool.and_eq_true,decide_eq_true_eq,Int.toNat_natCast];exact⟨⟨by omega,h⟩,hk⟩
theorem lZ {S:List Sc}{live:List Nat}{c:Nat×Rl}:c∈fF S live↔c.1∈live/\bG S c.1=1/\c.2∈bZ S c.1/\c.2.kind=2:=by
 unfold fF mM;simp only[List.mem_flatMap];constructor
 ·rintro⟨k,hk,hc⟩;split at hc
  ·rename_i h1;obtain⟨r,hr,rfl⟩:=List.mem_map.1 hc;obtain⟨hr1,hr2⟩:=List.mem_filter.1 hr;exact⟨hk,h1,hr1,of_decide_eq_true hr2⟩
  ·cases hc
 ·rintro⟨h1,h2,h3,h4⟩;refine⟨c.1,h1,?_⟩;rw[if_pos h2];exact List.mem_map.2 ⟨c.2,List.mem_filter.2 ⟨h3,decide_eq_true h4⟩,rfl⟩
theorem calls_right {S:List Sc}{rep:List Int}{live:List Nat}{align:List Int}(h:iT S rep live align){v:List Vn}(hn:v.Nodup)(hv:∀x∈v,x∈(fF S live).map (fun c=>eM rep c.1 c.2)):aX S live [] v=true:=by
 rw[gZ];refine⟨hn,fun x hx=>?_,fun k=>?_⟩
 ·obtain⟨c,hc,rfl⟩:=List.mem_map.1 (hv x hx);obtain⟨c1,c2,c3,c4⟩:=lZ.1 hc;refine⟨codeB_of c1 c2,?_⟩;obtain⟨s,hs,-,-,hr⟩:=h.inn c.1 c1;have e:bZ S c.1=s.rels:=by unfold bZ;rw[hs]
  rw[e]at c3;exact(hr c.2 c3).2.2
 ·unfold cZ;by_cases hk:0<=k/\k.toNat∈live
  ·obtain⟨s,hs,-,hl,-⟩:=h.inn k.toNat hk.2;have e:bZ S k.toNat=s.rels:=by unfold bZ;rw[hs]
   have h2:=nS (v.filter (fun x=>decide (x.1=k))) ((bZ S k.toNat).map (fun r=>eM rep k.toNat r)) (hn.sublist List.filter_sublist) (fun x hx=>by
    obtain⟨hx1,hx2⟩:=List.mem_filter.1 hx;obtain⟨c,hc,rfl⟩:=List.mem_map.1 (hv x hx1);have hx3:((c.1:Nat):Int)=k:=of_decide_eq_true hx2;obtain⟨-,-,c3,-⟩:=lZ.1 hc;have hck:k.toNat=c.1:=by omega
    rw[hck];exact List.mem_map.2 ⟨c.2,c3,rfl⟩)
   rw[List.length_map,e]at h2;omega
  ·have:v.filter (fun x=>decide (x.1=k))=[]:=by
    rw[List.filter_eq_nil_iff];intro x hx hd;obtain⟨c,hc,rfl⟩:=List.mem_map.1 (hv x hx);obtain⟨c1,-⟩:=lZ.1 hc;have hx3:((c.1:Nat):Int)=k:=of_decide_eq_true hd;exact hk ⟨by omega,by rw[<-hx3];simpa using c1⟩
   rw[this];simp
theorem up_bd {a n:Int}(h0:0<=n)(h1:n<=12)(a0:0<=a)(a1:a<=9223372036854775808):a<=(rG a n).1/\(rG a n).1<=a+4095:=by
 have e:rG a n=((a+(2^n.toNat-1))/2^n.toNat*2^n.toNat,0):=by
  unfold rG;rw[if_neg (by omega),if_neg (by omega)]
 rw[e];simp only;have h2:n.toNat<=12:=by omega
 generalize n.toNat=m at h2;have hm:(2:Int)^m∈ [(1:Int),2,4,8,16,32,64,128,256,512,1024,2048,4096]:=by
  have:m=0\/m=1\/m=2\/m=3\/m=4\/m=5\/m=6\/m=7\/m=8\/m=9\/m=10\/m=11\/m=12:=by omega
  rcases this with rfl|rfl|rfl|rfl|rfl|rfl|rfl|rfl|rfl|rfl|rfl|rfl|rfl<;>decide
 generalize(2:Int)^m=p at hm;simp only[List.mem_cons,List.not_mem_nil,or_false]at hm;rcases hm with rfl|rfl|rfl|rfl|rfl|rfl|rfl|rfl|rfl|rfl|rfl|rfl|rfl<;>omega
theorem layL_bd:∀(l:List Bk)(e:Int),(∀b∈l,0<=b.1/\b.1<=16384/\0<=b.2/\b.2<=12)->0<=e->e+l.length*20480<=9223372036854775808->∀p∈(gW l e).1,e<=p/\p<=e+l.length*20480
 | [],e,_,_,_,p,hp=>by cases hp
 |b :: t,e,hb,h0,h1,p,hp=>by
  obtain⟨b1,b2,b3,b4⟩:=hb b (List.mem_cons_self ..);have hl:((b :: t).length:Int)=t.length+1:=by simp
  obtain⟨u1,u2⟩:=up_bd b3 b4 h0 (by omega);rcases List.mem_cons.1 hp with rfl|hp
  ·omega
  ·have:=layL_bd t ((rG e b.2).1+b.1) (fun c hc=>hb c (List.mem_cons_of_mem _ hc)) (by omega) (by omega) p hp;omega
theorem layL_n (l:List Bk)(e:Int):(gW l e).1.length=l.length:=by
 induction l generalizing e with
 |nil=>rfl
 |cons b r ih=>simp only[gW,List.length_cons,ih]
theorem parts_len (S:List Sc)(v:List Vn):∀l:List (Nat×Int),(gK S v l).length+(dP S l).length=l.length
 | []=>rfl
 |x :: t=>by
  have ih:=parts_len S v t;unfold gK dP at ih⊢;by_cases h:bG S x.1=1
  ·simp only[List.filterMap_cons,if_pos h,List.length_cons];omega
  ·simp only[List.filterMap_cons,if_neg h,List.length_cons];omega
theorem iX (S:List Sc)(live:List Nat)(align:List Int)(t d:Int)(v:List Vn)(h:align.length=live.length):(bF S live align t d v).length=live.length:=by
 unfold bF;rw[List.length_append,layL_n,layL_n,parts_len,List.length_zip,h,Nat.min_self]
section
variable {S:List Sc} {rep:List Int} {live:List Nat} {align:List Int} (h:iT S rep live align)
include h
theorem zip_in {x:Nat×Int}(hx:x∈live.zip align):x.1∈live/\0<=x.2/\x.2<=12:=⟨(List.of_mem_zip hx).1,h.a0 _ (List.of_mem_zip hx).2⟩
theorem end_le {k:Nat}(hk:k∈live):gN S k<=4096/\iI S k<=gN S k/\gN S k<=iI S k+3:=by
 obtain⟨s,hs,hd,-,-⟩:=h.inn k hk;have e:iI S k=s.data.length:=by unfold iI;rw[hs]
 unfold gN;rw[e];omega
theorem vtx_ok {v:List Vn}(hv:∀k,cZ v k<=64):∀b∈gK S v (live.zip align),0<=b.1/\b.1<=16384/\0<=b.2/\b.2<=12:=by
 intro b hb;obtain⟨x,hx,e⟩:=List.mem_filterMap.1 hb;obtain⟨h1,h2,h3⟩:=zip_in h hx;obtain⟨e1,-,-⟩:=end_le h h1;have e2:=hv x.1;split at e
 ·rw[<-Option.some.inj e];simp only;omega
 ·cases e
theorem vdat_ok:∀b∈dP S (live.zip align),0<=b.1/\b.1<=16384/\0<=b.2/\b.2<=12:=by
 intro b hb;obtain⟨x,hx,e⟩:=List.mem_filterMap.1 hb;obtain⟨h1,h2,h3⟩:=zip_in h hx;obtain⟨e1,e2,-⟩:=end_le h h1;split at e
 ·cases e
 ·rw[<-Option.some.inj e];simp only;omega
theorem lR {v:List Vn}(hv:∀k,cZ v k<=64){t d:Int}(t0:0<=t)(t1:t<=4611686018427387904)(d0:0<=d)(d1:d<=4611686018427387904):∀p∈bF S live align t d v,0<=p/\p<=4611686018432630784:=by
 intro p hp;have hl:=parts_len S v (live.zip align);have hz:(live.zip align).length<=256:=by rw[List.length_zip];have:=h.n256;omega
 rcases List.mem_append.1 hp with hp|hp
 ·have:=layL_bd _ _ (vtx_ok h hv) t0 (by omega) p hp;omega
 ·have:=layL_bd _ _ (vdat_ok h) d0 (by omega) p hp;omega
omit h in
end
theorem venR_at {S:List Sc}{live:List Nat}{P:List Int}:∀(v seen:List Vn) (i:Nat) (x:Vn),v[i]?=some x->(venR S live P seen v)[i]?=some (pK live P x.1+((gN S x.1.toNat+12*cZ (seen++v.take i) x.1:Nat):Int))
 |y :: t,seen,0,x,h=>by
  simp only[List.getElem?_cons_zero,Option.some.injEq]at h;subst h;simp[venR]
 |y :: t,seen,i+1,x,h=>by
  rw[List.getElem?_cons_succ]at h;rw[venR,List.getElem?_cons_succ,venR_at t (seen++ [y]) i x h];simp
end
section
open Go.ChangeShapes Go.WideShapes Go.Deep Go.RowKit
abbrev lG (x:Vn):Value:=.agg #[.int .i64 x.1,.int .i64 x.2.1,.int .i64 x.2.2]
def gB (x:Vn):List Value:=[.int .i64 x.1,.int .i64 x.2.1,.int .i64 x.2.2]
theorem pX (x:Vn):(gB x).length=3:=rfl
theorem vn_ones (x:Vn):∀u∈gB x,u.oneCell'=true:=by
 intro u hu;simp only[gB,List.mem_cons,List.not_mem_nil,or_false]at hu;rcases hu with rfl|rfl|rfl<;>rfl
def cR (x:Vn):Prop:=cS x.1/\cS x.2.1/\cS x.2.2
theorem vnV_inj {x y:Vn}(h:lG x=lG y):x=y:=by
 obtain⟨a,b,c⟩:=x;obtain⟨d,e,f⟩:=y;simp only[lG,Value.agg.injEq,Array.mk.injEq,List.cons.injEq,Value.int.injEq,true_and,and_true]at h;obtain⟨rfl,rfl,rfl⟩:=h;rfl
theorem fI {w:World}{b off k:Nat}{x:Vn}(h:∀j,j<3->w.cell? ⟨b,off+k*3+j,none⟩=(gB x)[j]?):
  w.cell? ⟨b,off+k*3,none⟩=some (.int .i64 x.1)/\w.cell? ⟨b,off+k*3+1,none⟩=some (.int .i64 x.2.1)/\w.cell? ⟨b,off+k*3+2,none⟩=some (.int .i64 x.2.2):=
 ⟨h 0 (by decide),h 1 (by decide),h 2 (by decide)⟩
theorem pO:WideMaps.KeyLaw Tryz.prog 80:=
 deep_law_laid (by kernel_rfl) (m:=3) (by decide) (of_decide_eq_true (by kernel_rfl)) (by kernel_rfl) (by kernel_rfl)
theorem keyLits_vn (d:Nat)(x:Vn)(hx:cR x):Tryz.prog.keyLits (d+2) 80 [.int .i64 x.1,.int .i64 x.2.1,.int .i64 x.2.2]=some [.int .i64 x.1,.int .i64 x.2.1,.int .i64 x.2.2]:=by
 have h1:(Lit.int .i64 x.1).wf=true:=by have:=hx.1;unfold cS at this;simp[Lit.wf,IntKind.min,IntKind.max,IntKind.bits,IntKind.signed];omega
 have h2:(Lit.int .i64 x.2.1).wf=true:=by have:=hx.2.1;unfold cS at this;simp[Lit.wf,IntKind.min,IntKind.max,IntKind.bits,IntKind.signed];omega
 have h3:(Lit.int .i64 x.2.2).wf=true:=by have:=hx.2.2;unfold cS at this;simp[Lit.wf,IntKind.min,IntKind.max,IntKind.bits,IntKind.signed];omega
 have c0:Tryz.prog.cellsOf 80=3:=by kernel_rfl
 have c2:Tryz.prog.cellsOf 3=1:=by kernel_rfl
 simp[Program.keyLits,Tryz.underlying80,Tryz.underlying3,c0,c2,h1,h2,h3]
theorem vn_size:∃m,Tryz.prog.types.size=m+1:=⟨Tryz.prog.types.size-1,by kernel_rfl⟩
theorem qZ (x:Vn)(hx:cR x):∃l,keyOf Tryz.prog 80 (lG x)=some l:=by
 obtain⟨m,hm⟩:=vn_size;have hk:Tryz.prog.keyType 80=true:=by kernel_rfl
 have hf:(lG x).formed Tryz.prog 80=true:=by
  have c0:Tryz.prog.cellsOf 80=3:=by kernel_rfl
  simp[Value.formed,Tryz.underlying80,c0]
 have h:=keyLits_vn m x hx;rw[<-show Tryz.prog.types.size+1=m+2 from by omega]at h;refine⟨.string (keyBytes [.int .i64 x.1,.int .i64 x.2.1,.int .i64 x.2.2]),?_⟩;unfold keyOf;rw[Tryz.underlying80];simp only[hk,hf,Bool.and_self,if_true];rw[show(lG x).cells.toList=[.int .i64 x.1,.int .i64 x.2.1,.int .i64 x.2.2]from rfl,h];rfl
def pairV (p:Vn×Int):Value×Value:=(lG p.1,.int .i64 p.2)
def VM (w:World)(b:Nat)(l:List (Vn×Int)):Prop:=∃es clock,w.heap[b]?=some (.map es clock)/\es.toList.map (fun e=>(e.key,e.val))=l.map pairV/\∀e∈es.toList,e.born<clock
theorem vm_key {l:List (Vn×Int)}{es:Array MapEntry}(h:es.toList.map (fun e=>(e.key,e.val))=l.map pairV){e:MapEntry}(he:e∈es.toList):∃p∈l,e.key=lG p.1/\e.val=.int .i64 p.2:=by
 have:(e.key,e.val)∈es.toList.map (fun e=>(e.key,e.val)):=List.mem_map.2 ⟨e,he,rfl⟩;rw[h]at this;obtain⟨p,hp,hpe⟩:=List.mem_map.1 this;simp only[pairV,Prod.mk.injEq]at hpe;exact⟨p,hp,hpe.1.symm,hpe.2.symm⟩
theorem rA {l:List (Vn×Int)}{es:Array MapEntry}(h:es.toList.map (fun e=>(e.key,e.val))=l.map pairV)(hg:∀p∈l,cR p.1):∀e∈es.toList,∃k,keyOf Tryz.prog 80 e.key=some k:=by
 intro e he;obtain⟨p,hp,hk,-⟩:=vm_key h he;rw[hk];exact qZ _ (hg p hp)
theorem vm_len {w:World}{b:Nat}{l:List (Vn×Int)}{es:Array MapEntry}(h:es.toList.map (fun e=>(e.key,e.val))=l.map pairV):es.size=l.length:=by
 have:=congrArg List.length h;simpa using this
theorem vm_no {l:List (Vn×Int)}{b:Nat}{w:World}(h:VM w b l)(hg:∀p∈l,cR p.1){k:Vn}(hk:cR k)(hn:∀p∈l,p.1≠k):
  (Instr.lookup 99 (.map (some b)) (lG k) true).run Tryz.prog w=.ok (.tuple #[.int .i64 0,.bool false]) w/\(Instr.lookup 99 (.map (some b)) (lG k) false).run Tryz.prog w=.ok (.int .i64 0) w:=by
 obtain⟨es,clock,hb,he,hst⟩:=h;obtain⟨kl,hkey⟩:=qZ k hk;rcases pO.find w hkey es.toList (rA he hg)with⟨h1,-⟩|⟨j,e,h1,h2,h3⟩
 ·constructor<;>simp[Instr.lookup,run_underlying Tryz.underlying99,MapKept.run_getObj_map hb,pO.check w _ hkey,h1,zeroInt,Result.andThen]
 ·obtain⟨p,hp,hpk,-⟩:=vm_key he (eQ h2);rw[h3]at hpk;exact absurd (vnV_inj hpk).symm (hn p hp)
theorem vm_yes {l:List (Vn×Int)}{b:Nat}{w:World}(h:VM w b l)(hg:∀p∈l,cR p.1){k:Vn}(hk:∃p∈l,p.1=k):
  ∃v:Int,(Instr.lookup 99 (.map (some b)) (lG k) true).run Tryz.prog w=.ok (.tuple #[.int .i64 v,.bool true]) w:=by
 obtain⟨es,clock,hb,he,hst⟩:=h;obtain⟨p0,hp0,rfl⟩:=hk;obtain⟨kl,hkey⟩:=qZ _ (hg _ hp0);rcases pO.find w hkey es.toList (rA he hg)with⟨h1,h2⟩|⟨j,e,h1,h2,h3⟩
 ·exfalso;have:pairV p0∈l.map pairV:=List.mem_map.2 ⟨_,hp0,rfl⟩;rw[<-he]at this;obtain⟨e,hee,heq⟩:=List.mem_map.1 this;simp only[pairV,Prod.mk.injEq]at heq;exact h2 e hee heq.1
 ·obtain⟨p,hp,hpk,hpv⟩:=vm_key he (eQ h2);exact⟨p.2,by simp[Instr.lookup,run_underlying Tryz.underlying99,MapKept.run_getObj_map hb,pO.check w _ hkey,h1,hpv,Result.andThen]⟩
theorem born_push {es:Array MapEntry}{clock:Nat}{k v:Value}(h:∀e∈es.toList,e.born<clock):∀e∈(es.push ⟨k,v,clock⟩).toList,e.born<clock+1:=by
 intro e he;rw[Array.toList_push,List.mem_append,List.mem_singleton]at he;rcases he with he|rfl
 ·have:=h e he;omega
 ·exact Nat.lt_succ_self _
theorem vm_put {l:List (Vn×Int)}{b:Nat}{w:World}(h:VM w b l)(hg:∀p∈l,cR p.1)(k:Vn)(v:Int)(hk:cR k)(hn:∀p∈l,p.1≠k):
  ∃w',(Instr.mapUpdate 99 (.map (some b)) (lG k) (.int .i64 v)).run Tryz.prog w=.ok () w'/\VM w' b (l++ [(k,v)])/\w.grownBy w' (some b):=by
 obtain⟨es,clock,hb,he,hst⟩:=h;obtain⟨kl,hkey⟩:=qZ k hk;rcases pO.find w hkey es.toList (rA he hg)with⟨h1,-⟩|⟨j,e,h1,h2,h3⟩
 ·refine⟨ChangeMaps.setBlock w b (.map (es.push ⟨lG k,.int .i64 v,clock⟩) (clock+1)),?_,⟨es.push ⟨lG k,.int .i64 v,clock⟩,clock+1,?_,?_,born_push hst⟩,?_⟩
  ·simp[Instr.mapUpdate,run_underlying Tryz.underlying99,MapKept.run_getObj_map hb,pO.check w false hkey,h1,MapKept.run_setObj_map _ hb,Result.andThen,ChangeMaps.setBlock]
  ·have:=lt_of_block hb;simp[ChangeMaps.setBlock,this]
  ·rw[Array.toList_push,List.map_append,he,List.map_append];rfl
  ·refine⟨rfl,rfl,rfl,by simp[ChangeMaps.setBlock],fun i hi hne=>?_⟩;simp only[ChangeMaps.setBlock];rw[Array.getElem?_setIfInBounds_ne (fun e=>hne (by rw[e]))]
 ·obtain⟨p,hp,hpk,-⟩:=vm_key he (eQ h2);rw[h3]at hpk;exact absurd (vnV_inj hpk).symm (hn p hp)
theorem grow_set {w:World}{b:Nat}{o:Obj}:w.grownBy (ChangeMaps.setBlock w b o) (some b):=by
 refine⟨rfl,rfl,rfl,by simp[ChangeMaps.setBlock],fun i hi hne=>?_⟩;simp only[ChangeMaps.setBlock];rw[Array.getElem?_setIfInBounds_ne (fun e=>hne (by rw[e]))]
theorem born_find {es:Array MapEntry}{clock:Nat}{k v:Value}(h:∀e∈es.toList,e.born<clock):(es.push ⟨k,v,clock⟩).findIdx? (fun e=>(e.born:Int)==(clock:Int))=some es.size:=by
 rw[Array.findIdx?_push];have:es.findIdx? (fun e=>(e.born:Int)==(clock:Int))=none:=by
  rw[Array.findIdx?_eq_none_iff];intro e he;have:=h e (by simpa using he);simp;omega
 rw[this];simp
theorem vm_entry {l:List (Vn×Int)}{b:Nat}{w:World}(h:VM w b l)(hg:∀p∈l,cR p.1)(k:Vn)(v:Int)(hk:cR k)(hn:∀p∈l,p.1≠k):
  ∃w1 c,(Instr.mapEntry 99 (.map (some b)) (lG k)).run Tryz.prog w=.ok (.tuple #[.int .i64 0,.int .i64 c]) w1/\w.grownBy w1 (some b)/\(Instr.lookup 99 (.map (some b)) (lG k) false).run Tryz.prog w1=.ok (.int .i64 0) w1/\
   ∃w2,(Instr.entryStore 99 (.map (some b)) (.int .i64 c) (.int .i64 v)).run Tryz.prog w1=.ok () w2/\VM w2 b (l++ [(k,v)])/\w1.grownBy w2 (some b):=by
 obtain⟨es,clock,hb,he,hst⟩:=h;obtain⟨kl,hkey⟩:=qZ k hk;have hlt:=lt_of_block hb;rcases pO.find w hkey es.toList (rA he hg)with⟨h1,-⟩|⟨j,e,h1,h2,h3⟩
 ·have hb1:(ChangeMaps.setBlock w b (.map (es.push ⟨lG k,.int .i64 0,clock⟩) (clock+1))).heap[b]?=some (.map (es.push ⟨lG k,.int .i64 0,clock⟩) (clock+1)):=by simp[ChangeMaps.setBlock,hlt]
  refine⟨ChangeMaps.setBlock w b (.map (es.push ⟨lG k,.int .i64 0,clock⟩) (clock+1)),clock,?_,grow_set,?_,ChangeMaps.setBlock (ChangeMaps.setBlock w b (.map (es.push ⟨lG k,.int .i64 0,clock⟩) (clock+1))) b (.map (es.push ⟨lG k,.int .i64 v,clock⟩) (clock+1)),?_,⟨es.push ⟨lG k,.int .i64 v,clock⟩,clock+1,?_,?_,born_push hst⟩,grow_set⟩
  ·simp[Instr.mapEntry,run_underlying Tryz.underlying99,MapKept.run_getObj_map hb,pO.check w false hkey,h1,zeroInt,MapKept.run_setObj_map _ hb,Result.andThen,ChangeMaps.setBlock,goInt]
  ·obtain⟨w1,hw1⟩:=aE (ChangeMaps.setBlock w b (.map (es.push ⟨lG k,.int .i64 0,clock⟩) (clock+1)));rw[<-hw1]at hb1⊢;have hks:∀e∈(es.push ⟨lG k,.int .i64 0,clock⟩).toList,∃k,keyOf Tryz.prog 80 e.key=some k:=by
    intro e he';rw[Array.toList_push,List.mem_append,List.mem_singleton]at he';rcases he' with he'|rfl
    ·exact rA he hg e he'
    ·exact⟨kl,hkey⟩
   rcases pO.find w1 hkey (es.push ⟨lG k,.int .i64 0,clock⟩).toList hks with⟨g1,g2⟩|⟨j,e,g1,g2,g3⟩
   ·exact absurd rfl (g2 ⟨lG k,.int .i64 0,clock⟩ (by rw [Array.toList_push];simp))
   ·have hm:=eQ g2;rw[Array.toList_push,List.mem_append,List.mem_singleton]at hm;rcases hm with hm|rfl
    ·obtain⟨p,hp,hpk,-⟩:=vm_key he hm;rw[g3]at hpk;exact absurd (vnV_inj hpk).symm (hn p hp)
    ·rw[Array.toList_push]at g1;simp[Instr.lookup,run_underlying Tryz.underlying99,MapKept.run_getObj_map hb1,pO.check w1 _ hkey,g1,Result.andThen]
  ·have hf:=born_find (k:=lG k) (v:=.int .i64 0) hst;have hm:(es.push ⟨lG k,.int .i64 0,clock⟩).modify es.size (fun e=>{ e with val:=.int .i64 v })=es.push ⟨lG k,.int .i64 v,clock⟩:=by
    apply Array.ext (by simp);intro i h1 h2;have h3:i<es.size+1:=by simpa using h2
    by_cases hi:es.size=i
    ·subst hi;simp[Array.getElem_modify,Array.getElem_push]
    ·have h4:i<es.size:=by omega
     simp[Array.getElem_modify,Array.getElem_push,hi,h4]
   simp only[Instr.entryStore,Sem.run_bind,MapKept.run_getObj_map hb1,Result.andThen];have hso:=MapKept.run_setObj_map (P:=Tryz.prog) (.map (es.push ⟨lG k,.int .i64 v,clock⟩) (clock+1)) hb1;simp only[asInt,asIntOf,Sem.run_bind,Sem.run_pure,Result.andThen,hf,hm];rw[hso];rfl
  ·simp[ChangeMaps.setBlock,hlt]
  ·rw[Array.toList_push,List.map_append,he,List.map_append];rfl
 ·obtain⟨p,hp,hpk,-⟩:=vm_key he (eQ h2);rw[h3]at hpk;exact absurd (vnV_inj hpk).symm (hn p hp)
theorem VM.next {w w':World}{b:Nat}{l:List (Vn×Int)}(h:VM w b l)(hb:Below w.heap.size w w'):VM w' b l:=by
 obtain⟨es,clock,h1,h2⟩:=h;exact⟨es,clock,(hb.block b (lt_of_block h1)).trans h1,h2⟩
theorem VM.mk0 (w:World):VM (w.alloc (.map #[] 0)) w.heap.size []:=⟨#[],0,(MapKept.heap_alloc w _).1,rfl,fun e he=>by simp at he⟩
end
end Go.Proofs.YtiohgaghmnpplaaGreatDoor
