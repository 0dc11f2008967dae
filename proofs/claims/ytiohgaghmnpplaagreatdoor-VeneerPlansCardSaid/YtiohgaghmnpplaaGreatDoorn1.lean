/- The law's example, and the laws of code that have no reference, walked. The laws CodeBack and CodeWord, walked. The reference's Shape. The reference's Places; the law CodeBit, walked. The law CodeBit, walked. The reference of code: its bases, Base; Field; a word of fields is a sum. The reference's imm, amount, Has, reg; its rule and the program's are one. The reference's Is. The reference's values: what an instruction has in its fields. The reference's Opcode. The reference's Encode. -/
import Derived.Test.YtiohgaghmnpplaaGreatDoorqA
import Derived.Test.YtiohgaghmnpplaaGreatDoorqE
import Derived.Test.YtiohgaghmnpplaaGreatDoorqC
import Derived.Deep.RegionHeld3
import Derived.Deep.DeepCutAuto
import Derived.Deep.QuietTactic
import Derived.BigQuiet
set_option maxRecDepth 100000
set_option maxHeartbeats 8000000
set_option linter.unusedVariables false
set_option linter.unusedSimpArgs false
namespace Go.Proofs.YtiohgaghmnpplaaGreatDoor
open Go.RowKit
theorem nK {k:IntKind}{a b:Int}{w w':World}(h:a=b)(hb:Below w.heap.size w w'):aP (.int k b) w (.returned (.int k a)) w':=⟨by rw[h],hb⟩
theorem RShape_out (op:Int)(w:World)(h:op<1\/39<op):Calls Tryz.prog 101 #[.int .i64 op] w (aP (.int .i64 0) w):=by
 rcases h with h|h
 ·go_enter Tryz.func101,Tryz.ntmps101;go_wp2;go_ret;exact nK rfl ((Below.refl _ _).alloc (Nat.le_refl _) _)
 ·have h1:1<=op:=by omega
  go_enter Tryz.func101,Tryz.ntmps101;go_wp2;go_ret;exact nK rfl ((Below.refl _ _).alloc (Nat.le_refl _) _)
theorem shArr (k:Nat)(hk:k<40):(#[Value.int .i64 0,.int .i64 1,.int .i64 1,.int .i64 1,.int .i64 2,.int .i64 2,.int .i64 2,.int .i64 2,.int .i64 3,.int .i64 3,.int .i64 3,.int .i64 3,.int .i64 4,.int .i64 4,.int .i64 4,.int .i64 4,.int .i64 5,.int .i64 5,.int .i64 5,.int .i64 5,.int .i64 6,.int .i64 6,.int .i64 7,.int .i64 7,.int .i64 8,.int .i64 8,.int .i64 9,.int .i64 10,.int .i64 10,.int .i64 11,.int .i64 11,.int .i64 12,.int .i64 9,.int .i64 9,.int .i64 13,.int .i64 13,.int .i64 13,.int .i64 14,.int .i64 15,.int .i64 16]:Array Value)[k]?=some (.int .i64 (shL.getD k 0)):=by
 show(shL.map (Value.int .i64)).toArray[k]?=_
 have hl:k<shL.length:=hk;rw[List.getElem?_toArray,List.getElem?_map,iS hl,List.getD_eq_getElem?_getD,iS hl];rfl
theorem RShape_in (k:Nat)(w:World)(h1:1<=k)(h2:k<=39):Calls Tryz.prog 101 #[.int .i64 k] w (aP (.int .i64 (shL.getD k 0)) w):=by
 have hA:=shArr k (by omega);generalize shL.getD k 0=v at*
 go_enter Tryz.func101,Tryz.ntmps101;go_wp2;go_ret;exact nK rfl ((Below.refl _ _).alloc (Nat.le_refl _) _)
theorem kQ (op:Int)(w:World):Calls Tryz.prog 101 #[.int .i64 op] w (aP (.int .i64 (aF op)) w):=by
 by_cases c:op<1\/39<op
 ·have e:aF op=0:=by unfold aF;rw[if_pos c]
  rw[e];exact RShape_out op w c
 ·obtain⟨k,rfl⟩:=Int.eq_ofNat_of_zero_le (show 0<=op by omega);have e:aF (k:Int)=shL.getD k 0:=by unfold aF;rw[if_neg c];rfl
  rw[e];exact RShape_in k w (by omega) (by omega)
def encQ (p:Int×Int):List Value:=[.int .i64 p.1,.int .i64 p.2]
theorem encQ_len:∀p,(encQ p).length=2:=fun _=>rfl
def plT:List (List (Int×Int)):=[[],[(0,5),(5,16),(21,2)],[(0,5),(5,5),(10,12),(22,1)],[(0,5),(5,5),(10,6),(16,6),(22,1)],[(0,5),(5,5),(10,6),(16,5),(22,2)],[(0,5),(5,5),(10,6),(16,5),(22,2)],[(0,5),(5,5),(10,5),(16,5)],[(0,5),(5,5),(10,12)],[(0,5),(5,5),(10,12)],[(0,5),(5,19)],[(0,5),(5,19),(29,2)],[(0,26)],[(0,4),(5,19)],[(5,5)],[(5,16)],[],[(0,5),(5,5),(12,4),(16,5)]]
def jV (s:Nat):List (Int×Int):=plT.getD s []
def RetQ (l:List (Int×Int))(w:World)(e:Ending)(w':World):Prop:=
 ∃a c,e=.returned (.slice a l.length c)/\SL encQ 2 w' w'.heap.size a l.length l/\Below w.heap.size w w'
theorem eB (w:World)(T:TypeId)(l:List (Int×Int))(cs:Array Value)(hcs:cs.toList=l.flatMap encQ)(n c:Nat)(hn:n=l.length):RetQ l w (.returned (.slice (some ⟨w.heap.size,0,none⟩) n c)) (w.alloc (.cells cs T)):=by
 subst hn;exact⟨_,_,rfl,(SL.lit w T l encQ_len (by decide) cs hcs _ rfl).up (by simp),(Below.refl _ _).alloc (Nat.le_refl _) _⟩
theorem Places_any (s:Nat)(hs:s<=16)(w:World):Calls Tryz.prog 100 #[.int .i64 s] w (RetQ (jV s) w):=by
 have hc:s=0\/s=1\/s=2\/s=3\/s=4\/s=5\/s=6\/s=7\/s=8\/s=9\/s=10\/s=11\/s=12\/s=13\/s=14\/s=15\/s=16:=by omega
 rcases hc with rfl|rfl|rfl|rfl|rfl|rfl|rfl|rfl|rfl|rfl|rfl|rfl|rfl|rfl|rfl|rfl|rfl
 ·go_enter Tryz.func100,Tryz.ntmps100;go_wp2;go_ret;exact⟨none,0,rfl,SL.nil _ _ _,Below.refl _ _⟩
 ·go_enter Tryz.func100,Tryz.ntmps100;go_wp2;go_ret;exact eB w _ (jV 1) _ rfl _ _ rfl
 ·go_enter Tryz.func100,Tryz.ntmps100;go_wp2;go_ret;exact eB w _ (jV 2) _ rfl _ _ rfl
 ·go_enter Tryz.func100,Tryz.ntmps100;go_wp2;go_ret;exact eB w _ (jV 3) _ rfl _ _ rfl
 ·go_enter Tryz.func100,Tryz.ntmps100;go_wp2;go_ret;exact eB w _ (jV 4) _ rfl _ _ rfl
 ·go_enter Tryz.func100,Tryz.ntmps100;go_wp2;go_ret;exact eB w _ (jV 5) _ rfl _ _ rfl
 ·go_enter Tryz.func100,Tryz.ntmps100;go_wp2;go_ret;exact eB w _ (jV 6) _ rfl _ _ rfl
 ·go_enter Tryz.func100,Tryz.ntmps100;go_wp2;go_ret;exact eB w _ (jV 7) _ rfl _ _ rfl
 ·go_enter Tryz.func100,Tryz.ntmps100;go_wp2;go_ret;exact eB w _ (jV 8) _ rfl _ _ rfl
 ·go_enter Tryz.func100,Tryz.ntmps100;go_wp2;go_ret;exact eB w _ (jV 9) _ rfl _ _ rfl
 ·go_enter Tryz.func100,Tryz.ntmps100;go_wp2;go_ret;exact eB w _ (jV 10) _ rfl _ _ rfl
 ·go_enter Tryz.func100,Tryz.ntmps100;go_wp2;go_ret;exact eB w _ (jV 11) _ rfl _ _ rfl
 ·go_enter Tryz.func100,Tryz.ntmps100;go_wp2;go_ret;exact eB w _ (jV 12) _ rfl _ _ rfl
 ·go_enter Tryz.func100,Tryz.ntmps100;go_wp2;go_ret;exact eB w _ (jV 13) _ rfl _ _ rfl
 ·go_enter Tryz.func100,Tryz.ntmps100;go_wp2;go_ret;exact eB w _ (jV 14) _ rfl _ _ rfl
 ·go_enter Tryz.func100,Tryz.ntmps100;go_wp2;go_ret;exact⟨none,0,rfl,SL.nil _ _ _,Below.refl _ _⟩
 ·go_enter Tryz.func100,Tryz.ntmps100;go_wp2;go_ret;exact eB w _ (jV 16) _ rfl _ _ rfl
theorem or_add (x y:Nat)(hx:x<18446744073709551616)(hy:y<18446744073709551616)(h:x&&&y=0)(hs:x+y<18446744073709551616):x|||y=x+y:=by
 have e:BitVec.ofNat 64 x&&&BitVec.ofNat 64 y=0#64:=by
  apply BitVec.eq_of_toNat_eq;simp only[BitVec.toNat_and,BitVec.toNat_ofNat];rw[Nat.mod_eq_of_lt hx,Nat.mod_eq_of_lt hy,h]
 have:=congrArg BitVec.toNat (BitVec.add_eq_or_of_and_eq_zero _ _ e);rw[BitVec.toNat_add,BitVec.toNat_or,BitVec.toNat_ofNat,BitVec.toNat_ofNat,Nat.mod_eq_of_lt hx,Nat.mod_eq_of_lt hy]at this;omega
theorem plL_len:∀s:Fin 17,(jV s.val).length<=5/\∀p∈jV s.val,0<=p.1/\p.1<=32/\0<=p.2/\p.2<=32:=by decide+kernel
theorem Rbases_any (w:World):Calls Tryz.prog 130 #[] w (fun e w'=>e=.returned (.slice (some ⟨w.heap.size,0,none⟩) 40 40)/\Below w.heap.size w w'/\w.heap.size<w'.heap.size/\∀j,j<40->w'.cell? ⟨w.heap.size,j,none⟩=some (.int .u32 ((baL.getD j 0:Nat):Int))):=by
 go_enter Tryz.func130,Tryz.ntmps130;go_wp2;go_ret;refine⟨rfl,(Below.refl _ _).alloc (Nat.le_refl _) _,by simp,fun j hj=>?_⟩;have hl:j<baI.length:=hj;have e:(baI.map (Value.int .u32)).toArray[j]?=some (.int .u32 ((baL.getD j 0:Nat):Int)):=by
  rw[List.getElem?_toArray,List.getElem?_map,iS hl,<-jtabB j hj,List.getD_eq_getElem?_getD,iS hl];rfl
 rw[<-e];unfold World.cell?;rw[(MapKept.heap_alloc w _).1];rfl
theorem baseI_out {op:Int}(h:op<1\/39<op):baseI op=(0,1):=by
 unfold baseI aF;rw[if_pos h];rfl
theorem baseI_in {k:Nat}(h1:1<=k)(h2:k<=39):baseI (k:Int)=(((baL.getD k 0:Nat):Int),0):=by
 unfold baseI;rw[if_neg]
 ·rfl
 ·unfold aF;rw[if_neg (by omega)];have h4:∀j:Fin 40,j.val=0\/shL.getD j.val 0≠0:=by decide
  have:=(h4 ⟨k,by omega⟩).resolve_left (by simp only[];omega);simpa using this
theorem RBase_any (op:Int)(w:World):Calls Tryz.prog 99 #[.int .i64 op] w (aP (.tuple #[.int .u32 (baseI op).1,.int .i64 (baseI op).2]) w):=by
 by_cases c:op<1\/39<op
 ·have H:=aH (baseI_out c);rcases c with c|c
  ·go_enter Tryz.func99,Tryz.ntmps99;go_wp2;go_ret2;exact⟨by rw[H.out];rfl,Below.refl _ _⟩
  ·have c2:1<=op:=by omega
   go_enter Tryz.func99,Tryz.ntmps99;go_wp2;go_ret2;exact⟨by rw[H.out];rfl,Below.refl _ _⟩
 ·obtain⟨k,rfl⟩:=Int.eq_ofNat_of_zero_le (show 0<=op by omega);have H:=aH (baseI_in (k:=k) (by omega) (by omega));have k1:1<=k:=by omega
  have k2:k<=39:=by omega
  have HBA:=aH (Rbases_any w);clear c;generalize hv:baL.getD k 0=v at*
  go_enter Tryz.func99,Tryz.ntmps99;go_wp2_with fail
  refine HBA.out.mono ?_;rintro e w1 ⟨rfl,hb,hlt,hc⟩;have hcell:=hc k (by omega);rw[hv]at hcell;have HB:=aH hb;clear hc hb hv;go_wp2;go_ret2;exact⟨by rw[H.out];rfl,HB.out⟩
theorem rP (v a n:Int)(w:World)(h0:0<=v)(h1:v<4294967296):
  Calls Tryz.prog 210 #[.int .u32 v,.int .i64 a,.int .i64 n] w (kP (two .u32 .i64 (kJ v a n)) w):=by
 by_cases h:0<=a/\a<32/\1<=n/\n<=32-a
 ·have hr:decide (0<=a/\a < 32/\1<=n/\n<=32 - a)=true:=by simpa using h
  have hf:=fieldS_ok (v:=v) h;obtain⟨r1,r2,r3,r4⟩:=h;have hp:=pP a (by omega);have hn:=pP n (by omega);have hq0:0<=v/2^a.toNat:=Int.ediv_nonneg h0 (by omega);have hq1:v/2^a.toNat<=v:=Int.ediv_le_self _ h0;have hm0:=Int.emod_nonneg (v/2^a.toNat) (show(2:Int)^n.toNat≠0 by omega);have hm1:=Int.emod_lt_of_pos (v/2^a.toNat) (show(0:Int)<2^n.toNat by omega);have hmm:v/2^a.toNat%2^n.toNat%4294967296=v/2^a.toNat%2^n.toNat:=Int.emod_eq_of_lt hm0 (by omega);have HF:=aH hf;clear hf hmm;go_enter Tryz.func210,Tryz.ntmps210;go_wp2_with (first|(go_at_call 227;refine(Right_any _ _ _).mono ?_;rintro e w' ⟨rfl,rfl⟩))
  go_quiet ((go_at_call 103;exact Calls.quiet_of_same ((eK _ _ (by omega)).mono fun e w' h=>⟨h.1,h.2.symm⟩)));go_wp2_with fail
  go_ret2;exact rN HF.out _
 ·have hr:decide (0<=a/\a < 32/\1<=n/\n<=32 - a)=false:=by simpa using h
  have hf:kJ v a n=(0,1):=by unfold kJ eG;rw[hr];rfl
  have HF:=aH hf;clear hf h;go_enter Tryz.func210,Tryz.ntmps210;go_wp2_with (first|(go_at_call 227;refine(Right_any _ _ _).mono ?_;rintro e w' ⟨rfl,rfl⟩))
  go_ret2;exact rN HF.out 0
theorem add_step (t t':Nat)(A N V:Int)(ht:t<4294967296)(r1:0<=A)(r3:1<=N)(r4:N<=32-A)(v0:0<=V)(hv:V<2^N.toNat)(hs:∀j,t.testBit j=true->t'.testBit j=true)(hz:t'&&&eI (A,N,V)=0):
  (t:Int)+V*2^A.toNat=((t|||V.toNat*2^A.toNat:Nat):Int)/\t|||V.toNat*2^A.toNat<4294967296/\∀j,(t|||V.toNat*2^A.toNat).testBit j=true->(t'|||eI (A,N,V)).testBit j=true:=by
 have h3:=shl_int V A N r1 r3 r4 v0 hv;obtain⟨v,rfl⟩:=Int.eq_ofNat_of_zero_le v0;simp only[Int.toNat_natCast]at h3⊢;have hv':v<2^N.toNat:=by rw[<-bD]at hv;omega
 have hsub:∀j,(v*2^A.toNat).testBit j=true->(eI (A,N,(v:Int))).testBit j=true:=by
  intro j hj;rw[qQ _ r1 (by simp only[];omega)];rw[Nat.mul_comm,Nat.testBit_two_pow_mul]at hj;simp only[Bool.and_eq_true,decide_eq_true_eq]at hj⊢;refine⟨hj.1,?_⟩;apply Classical.byContradiction;intro hn;have:=Nat.testBit_lt_two_pow (x:=v) (i:=j-A.toNat) (Nat.lt_of_lt_of_le hv' (Nat.pow_le_pow_right (by decide) (by omega)));rw[this]at hj;simp at hj
 have hand:t&&&v*2^A.toNat=0:=by
  apply Nat.eq_of_testBit_eq;intro j;rw[Nat.testBit_and,Nat.zero_testBit];cases h1:t.testBit j
  ·rfl
  ·cases h2:(v*2^A.toNat).testBit j
   ·rfl
   ·have:=mN hz j (hsub j h2);rw[hs j h1]at this;cases this
 have hor:=or_add t (v*2^A.toNat) (by omega) (by omega) hand (by omega);refine⟨by rw[hor,<-bD,<-Int.natCast_mul,Int.natCast_add],Nat.or_lt_two_pow (n:=32) ht h3.2,?_⟩;intro j hj;rw[Nat.testBit_or,Bool.or_eq_true]at hj⊢;rcases hj with hj|hj
 ·exact .inl (hs j hj)
 ·exact .inr (hsub j hj)
def pI:List F3->Nat
 | []=>0
 |f :: r=>f.2.2.toNat*2^f.1.toNat+pI r
theorem wordL_sum:∀(l:List F3)(t t' d:Nat),mF l->dG l t'=true->(∀j,t.testBit j=true->t'.testBit j=true)->t<4294967296->fQ l t=((d:Int),0)->d=t+pI l:=by
 intro l;induction l with
 |nil=>
  intro t t' d _ _ _ _ h;simp only[fQ,Prod.mk.injEq,and_true]at h;simp only[pI];omega
 |cons f r ih=>
  intro t t' d hk ha hs ht h;rw[dG]at ha;by_cases c1:eG f.1 f.2.1=false
  ·rw[if_pos c1]at ha;cases ha
  rw[if_neg c1]at ha;by_cases c2:t'&&&eI f≠0
  ·rw[if_pos c2]at ha;cases ha
  rw[if_neg c2]at ha;have hf:=hk f (by simp);have hr:0<=f.1/\f.1<32/\1<=f.2.1/\f.2.1<=32-f.1:=by simpa[eG]using c1
  rw[fQ,if_neg (by omega)]at h;obtain⟨A,N,V⟩:=f;obtain⟨s1,s2,s3⟩:=add_step t t' A N V ht hr.1 hr.2.2.1 hr.2.2.2 hf.1 hf.2 hs (by simpa using c2);have:=ih _ _ d (fun g hg=>hk g (List.mem_cons_of_mem _ hg)) ha s3 s2 h;simp only[pI];have e:V*2^A.toNat=((V.toNat*2^A.toNat:Nat):Int):=by
   rw[Int.natCast_mul,bD,Int.toNat_of_nonneg hf.1]
  rw[e]at s1;omega
theorem between_any (n l m s:Int)(w:World)(hs:0<s)(hn : -9223372036854775808<=n/\n<=9223372036854775807):Calls Tryz.prog 157 #[.int .i64 n,.int .i64 l,.int .i64 m,.int .i64 s] w (bQ (.bool (aU n l m s)) w):=by
 have hs0:(s==0)=false:=by rw[beq_eq_false_iff_ne];omega
 unfold aU;by_cases h1:l<=n
 ·rw[decide_eq_true h1];by_cases h2:n<=m
  ·rw[decide_eq_true h2];go_enter Tryz.func157,Tryz.ntmps157;go_wp2;go_ret;exact bO (by simp)
  ·rw[decide_eq_false h2];go_enter Tryz.func157,Tryz.ntmps157;go_wp2;go_ret;exact bO rfl
 ·rw[decide_eq_false h1];go_enter Tryz.func157,Tryz.ntmps157;go_wp2;go_ret;exact bO rfl
def kI (s v:Int):Bool:=
 if s=1\/s=14 then aU v 0 65535 1
 else if s=2\/s=8 then aU v 0 4095 1
 else if s=7 then aU v 0 32760 8
 else if s=9\/s=12 then aU v (-1048576) 1048572 4
 else if s=10 then aU v (-1048576) 1048575 1
 else if s=11 then aU v (-134217728) 134217724 4
 else v==0
def dE (s v:Int):Bool:=
 if s=1 then aU v 0 48 16
 else if s=2 then aU v 0 12 12
 else if s=4\/s=5 then aU v 0 63 1
 else v==0
theorem imm_any (s v:Int)(w:World)(hv : -9223372036854775808<=v/\v<=9223372036854775807):Calls Tryz.prog 128 #[.int .i64 s,.int .i64 v] w (bQ (.bool (kI s v)) w):=by
 have HB:Hid (∀l m b w,0<b->Calls Tryz.prog 157 #[.int .i64 v,.int .i64 l,.int .i64 m,.int .i64 b] w (bQ (.bool (aU v l m b)) w)):=aH fun l m b w h=>between_any v l m b w h hv
 clear hv;by_cases c:s=1\/s=14\/s=2\/s=8\/s=7\/s=9\/s=12\/s=10\/s=11
 ·rcases c with rfl|rfl|rfl|rfl|rfl|rfl|rfl|rfl|rfl
  all_goals
   go_enter Tryz.func128,Tryz.ntmps128;go_wp2_with (go_at_call 157;((with_reducible refine(HB.out _ _ _ _ (by decide)).mono ?_);rintro e w' ⟨rfl,rfl⟩))
   go_ret;exact bO rfl
 ·have q1:(s==1)=false:=by rw[beq_eq_false_iff_ne];omega
  have q14:(s==14)=false:=by rw[beq_eq_false_iff_ne];omega
  have q2:(s==2)=false:=by rw[beq_eq_false_iff_ne];omega
  have q8:(s==8)=false:=by rw[beq_eq_false_iff_ne];omega
  have q7:(s==7)=false:=by rw[beq_eq_false_iff_ne];omega
  have q9:(s==9)=false:=by rw[beq_eq_false_iff_ne];omega
  have q12:(s==12)=false:=by rw[beq_eq_false_iff_ne];omega
  have q10:(s==10)=false:=by rw[beq_eq_false_iff_ne];omega
  have q11:(s==11)=false:=by rw[beq_eq_false_iff_ne];omega
  have hf:kI s v=(v==0):=by
   unfold kI;rw[if_neg (by omega),if_neg (by omega),if_neg (by omega),if_neg (by omega),if_neg (by omega),if_neg (by omega)]
  rw[hf];clear c hf;go_enter Tryz.func128,Tryz.ntmps128;go_wp2;go_ret;exact bO rfl
theorem amount_any (s v:Int)(w:World)(hv : -9223372036854775808<=v/\v<=9223372036854775807):Calls Tryz.prog 129 #[.int .i64 s,.int .i64 v] w (bQ (.bool (dE s v)) w):=by
 have HB:Hid (∀l m b w,0<b->Calls Tryz.prog 157 #[.int .i64 v,.int .i64 l,.int .i64 m,.int .i64 b] w (bQ (.bool (aU v l m b)) w)):=aH fun l m b w h=>between_any v l m b w h hv
 clear hv;by_cases c:s=1\/s=2\/s=4\/s=5
 ·rcases c with rfl|rfl|rfl|rfl
  all_goals
   go_enter Tryz.func129,Tryz.ntmps129;go_wp2_with (go_at_call 157;((with_reducible refine(HB.out _ _ _ _ (by decide)).mono ?_);rintro e w' ⟨rfl,rfl⟩))
   go_ret;exact bO rfl
 ·have q1:(s==1)=false:=by rw[beq_eq_false_iff_ne];omega
  have q2:(s==2)=false:=by rw[beq_eq_false_iff_ne];omega
  have q4:(s==4)=false:=by rw[beq_eq_false_iff_ne];omega
  have q5:(s==5)=false:=by rw[beq_eq_false_iff_ne];omega
  have hf:dE s v=(v==0):=by
   unfold dE;rw[if_neg (by omega),if_neg (by omega),if_neg (by omega)]
  rw[hf];clear c hf;go_enter Tryz.func129,Tryz.ntmps129;go_wp2;go_ret;exact bO rfl
def fdL:List (List UInt8):=[[],[100,105,119],[100,110,105,119],[100,110,107],[100,110,109,115,119],[100,110,109,115,119],[100,110,109,97],[100,110,105],[100,110,105],[100,105],[100,105],[105],[99,105],[110],[105],[],[100,110,109,99]]
def fdB (k:Nat):ByteArray:=⟨(fdL.getD k []).toArray⟩
def bJ (s:Nat)(x:UInt8):Bool:=(fdL.getD s []).any (· ==x)
theorem fdArr (k:Nat)(hk:k<17):(fdL.map fun z=>Value.string ⟨z.toArray⟩).toArray[k]?=some (.string (fdB k)):=by
 have hl:k<fdL.length:=hk;rw[List.getElem?_toArray,List.getElem?_map,iS hl];unfold fdB;rw[List.getD_eq_getElem?_getD,iS hl];rfl
theorem fd_len:∀k:Fin 17,(fdL.getD k.val []).length<=5:=by decide
theorem any_drop {l:List UInt8}{k:Nat}(h:k<l.length)(x:UInt8):(l.drop k).any (· ==x)=((l[k]==x)||(l.drop (k+1)).any (· ==x)):=by
 rw[List.drop_eq_getElem_cons h];rfl
theorem bytes_one (y:UInt8):(ByteArray.mk #[y]).toList=[y]:=by
 simp[ByteArray.toList,ByteArray.toList.loop,ByteArray.size,ByteArray.get!]
theorem slice_one (l:List UInt8)(k:Nat)(h:k<l.length)(x:UInt8):(((ByteArray.mk l.toArray).extract k (k+1)).toList== [x])=(l[k]==x):=by
 have e1:((ByteArray.mk l.toArray).extract k (k+1))=ByteArray.mk #[l[k]]:=by
  apply ByteArray.ext;rw[ByteArray.data_extract];apply Array.ext';simp only[Array.toList_extract,List.extract_eq_take_drop,Nat.add_sub_cancel_left];rw[List.drop_eq_getElem_cons h];rfl
 rw[e1,bytes_one];simp
theorem Has_any (s:Nat)(hs:s<=16)(x:UInt8)(w:World):Calls Tryz.prog 126 #[.int .i64 s,.string ⟨#[x]⟩] w (aP (.bool (bJ s x)) w):=by
 have hA:=fdArr s (by omega);have hL:=fd_len ⟨s,by omega⟩;have HH:Hid (bJ s x=(fdL.getD s []).any (· ==x)):=aH rfl;obtain⟨l,hl⟩:=aE (fdL.getD s []);have hf:fdB s=⟨l.toArray⟩:=by rw[hl];rfl
 rw[hf]at hA;simp only[]at hL;rw[<-hl]at HH hL;clear hf hl;simp only[fdL,List.map]at hA;go_enter Tryz.func126,Tryz.ntmps126;go_wp2;go_loop [7] (fun i=>∃k:Nat,k<=l.length/\i=.int .i64 k/\bJ s x=(l.drop k).any (· ==x)) (fun i=>l.length-(intOf i).toNat)
 case atStart=>exact⟨0,by omega,rfl,HH.out⟩
 case round=>
  obtain⟨k,hk,rfl,hd⟩:=hrel;have HD:=aH hd;clear hd;by_cases hlt:k<l.length
  ·have hsl:=slice_one l k hlt x;have HA2:=aH (any_drop hlt x);generalize l[k]=y at*
   cases e:(y==x)
   ·rw[e]at hsl HA2;have HQ:Hid (bJ s x=(l.drop (k+1)).any (· ==x)):=aH (by rw[HD.out,HA2.out,Bool.false_or]);go_wp2;go_round
    case rel=>exact⟨k+1,by omega,by go_num,HQ.out⟩
    case measure=>simp[intOf];omega
   ·rw[e]at hsl HA2;have HQ:Hid (bJ s x=true):=aH (by rw[HD.out,HA2.out,Bool.true_or]);go_wp2;go_ret;exact aB HQ.out.symm ((Below.refl _ _).alloc (Nat.le_refl _) _)
  ·have HQ:Hid (bJ s x=false):=aH (by rw[HD.out,List.drop_of_length_le (by omega)];rfl);go_wp2;go_ret;exact aB HQ.out.symm ((Below.refl _ _).alloc (Nat.le_refl _) _)
def dQ (s:Nat) (x:UInt8) (v:Int):Bool:=if bJ s x then decide (0<=v) && decide (v<=31) else v == 0
theorem kZ (s:Nat)(hs:s<=16)(x:UInt8)(v:Int)(w:World):Calls Tryz.prog 125 #[.int .i64 s,.string ⟨#[x]⟩,.int .i64 v] w (aP (.bool (dQ s x v)) w):=by
 have H:=aH (Has_any s hs x w);unfold dQ;generalize bJ s x=b at*
 cases b
 ·go_enter Tryz.func125,Tryz.ntmps125;go_wp2_with fail
  refine H.out.mono ?_;rintro e w1 ⟨rfl,hb⟩;have HB:=aH hb;clear hb;go_wp2;go_ret;exact aB rfl HB.out
 ·by_cases h1:0<=v
  ·rw[decide_eq_true h1];go_enter Tryz.func125,Tryz.ntmps125;go_wp2_with fail
   refine H.out.mono ?_;rintro e w1 ⟨rfl,hb⟩;have HB:=aH hb;clear hb;go_wp2;go_ret;exact aB rfl HB.out
  ·rw[decide_eq_false h1];go_enter Tryz.func125,Tryz.ntmps125;go_wp2_with fail
   refine H.out.mono ?_;rintro e w1 ⟨rfl,hb⟩;have HB:=aH hb;clear hb;go_wp2;go_ret;exact aB rfl HB.out
def dM (s:Int) (h:Int):Bool:=h == 0 || (s == 4 && decide (0<=h) && decide (h<=2)) || (s == 5 && decide (0<=h) && decide (h<=3))
def gI (s:Nat) (c:Int):Bool:=c == 0 || (bJ s 99 && decide (0<=c) && decide (c<=13))
def eZ (s:Int)(m:Int):Bool:=(s==3&&isS m.toNat)||(s !=3&&m==0)
def fC (s:Nat)(z:Int)(i:In):Bool:=
 dQ s 100 i.d&&dQ s 110 i.n&&dQ s 109 i.m&&dQ s 97 i.a&&(kI z i.imm&&dE z i.amount&&dM z i.shift&&gI s i.cond&&eZ z i.mask)
theorem cX (n l m:Int):aU n l m 1=(decide (l<=n) && decide (n<=m)):=by
 unfold aU;rw[Int.tmod_one];simp
theorem dR:∀s:Fin 17,(bJ s.val 100,bJ s.val 110,bJ s.val 109,bJ s.val 97,bJ s.val 99)=(cG (s.val:Nat),cE (s.val:Nat),cF (s.val:Nat),((s.val:Nat):Int)==6,((s.val:Nat):Int)==12||((s.val:Nat):Int)==16):=by decide+kernel
theorem m1 (v:Int):v.tmod 1=0:=Int.tmod_one v
theorem refI_eq1 (i:In):fC 1 1 i=(bS i (cY 1 i)&&bU i&&dD 1 i):=by
 obtain⟨o,d,n,m,a,x,k,h,t,c⟩:=i;have ht:=dR ⟨1,by omega⟩;simp only[Prod.mk.injEq]at ht;obtain⟨t1,t2,t3,t4,t5⟩:=ht;have t1:bJ 1 100=cG 1:=t1;have t2:bJ 1 110=cE 1:=t2;have t3:bJ 1 109=cF 1:=t3;have t4:bJ 1 97=(((1:Nat):Int)==6):=t4;have t5:bJ 1 99=((((1:Nat):Int)==12)||(((1:Nat):Int)==16)):=t5;rw[Bool.eq_iff_iff];unfold fC dQ gI dM eZ kI dE bU dD bS cY eS;rw[t1,t2,t3,t4,t5];clear t1 t2 t3 t4 t5;simp[cG,cE,cF,cX];all_goals grind
theorem refI_eq2 (i:In):fC 2 2 i=(bS i (cY 2 i)&&bU i&&dD 2 i):=by
 obtain⟨o,d,n,m,a,x,k,h,t,c⟩:=i;have ht:=dR ⟨2,by omega⟩;simp only[Prod.mk.injEq]at ht;obtain⟨t1,t2,t3,t4,t5⟩:=ht;have t1:bJ 2 100=cG 2:=t1;have t2:bJ 2 110=cE 2:=t2;have t3:bJ 2 109=cF 2:=t3;have t4:bJ 2 97=(((2:Nat):Int)==6):=t4;have t5:bJ 2 99=((((2:Nat):Int)==12)||(((2:Nat):Int)==16)):=t5;rw[Bool.eq_iff_iff];unfold fC dQ gI dM eZ kI dE bU dD bS cY eS;rw[t1,t2,t3,t4,t5];clear t1 t2 t3 t4 t5;simp[cG,cE,cF,cX];all_goals grind
theorem refI_eq3 (i:In):fC 3 3 i=(bS i (cY 3 i)&&bU i&&dD 3 i):=by
 obtain⟨o,d,n,m,a,x,k,h,t,c⟩:=i;have ht:=dR ⟨3,by omega⟩;simp only[Prod.mk.injEq]at ht;obtain⟨t1,t2,t3,t4,t5⟩:=ht;have t1:bJ 3 100=cG 3:=t1;have t2:bJ 3 110=cE 3:=t2;have t3:bJ 3 109=cF 3:=t3;have t4:bJ 3 97=(((3:Nat):Int)==6):=t4;have t5:bJ 3 99=((((3:Nat):Int)==12)||(((3:Nat):Int)==16)):=t5;rw[Bool.eq_iff_iff];unfold fC dQ gI dM eZ kI dE bU dD bS cY eS;rw[t1,t2,t3,t4,t5];clear t1 t2 t3 t4 t5;simp[cG,cE,cF,cX];all_goals grind
theorem refI_eq4 (i:In):fC 4 4 i=(bS i (cY 4 i)&&bU i&&dD 4 i):=by
 obtain⟨o,d,n,m,a,x,k,h,t,c⟩:=i;have ht:=dR ⟨4,by omega⟩;simp only[Prod.mk.injEq]at ht;obtain⟨t1,t2,t3,t4,t5⟩:=ht;have t1:bJ 4 100=cG 4:=t1;have t2:bJ 4 110=cE 4:=t2;have t3:bJ 4 109=cF 4:=t3;have t4:bJ 4 97=(((4:Nat):Int)==6):=t4;have t5:bJ 4 99=((((4:Nat):Int)==12)||(((4:Nat):Int)==16)):=t5;rw[Bool.eq_iff_iff];unfold fC dQ gI dM eZ kI dE bU dD bS cY eS;rw[t1,t2,t3,t4,t5];clear t1 t2 t3 t4 t5;simp[cG,cE,cF,cX];all_goals grind
theorem refI_eq5 (i:In):fC 5 5 i=(bS i (cY 5 i)&&bU i&&dD 5 i):=by
 obtain⟨o,d,n,m,a,x,k,h,t,c⟩:=i;have ht:=dR ⟨5,by omega⟩;simp only[Prod.mk.injEq]at ht;obtain⟨t1,t2,t3,t4,t5⟩:=ht;have t1:bJ 5 100=cG 5:=t1;have t2:bJ 5 110=cE 5:=t2;have t3:bJ 5 109=cF 5:=t3;have t4:bJ 5 97=(((5:Nat):Int)==6):=t4;have t5:bJ 5 99=((((5:Nat):Int)==12)||(((5:Nat):Int)==16)):=t5;rw[Bool.eq_iff_iff];unfold fC dQ gI dM eZ kI dE bU dD bS cY eS;rw[t1,t2,t3,t4,t5];clear t1 t2 t3 t4 t5;simp[cG,cE,cF,cX];all_goals grind
theorem refI_eq6 (i:In):fC 6 6 i=(bS i (cY 6 i)&&bU i&&dD 6 i):=by
 obtain⟨o,d,n,m,a,x,k,h,t,c⟩:=i;have ht:=dR ⟨6,by omega⟩;simp only[Prod.mk.injEq]at ht;obtain⟨t1,t2,t3,t4,t5⟩:=ht;have t1:bJ 6 100=cG 6:=t1;have t2:bJ 6 110=cE 6:=t2;have t3:bJ 6 109=cF 6:=t3;have t4:bJ 6 97=(((6:Nat):Int)==6):=t4;have t5:bJ 6 99=((((6:Nat):Int)==12)||(((6:Nat):Int)==16)):=t5;rw[Bool.eq_iff_iff];unfold fC dQ gI dM eZ kI dE bU dD bS cY eS;rw[t1,t2,t3,t4,t5];clear t1 t2 t3 t4 t5;simp[cG,cE,cF,cX];all_goals grind
theorem refI_eq7 (i:In):fC 7 7 i=(bS i (cY 7 i)&&bU i&&dD 7 i):=by
 obtain⟨o,d,n,m,a,x,k,h,t,c⟩:=i;have ht:=dR ⟨7,by omega⟩;simp only[Prod.mk.injEq]at ht;obtain⟨t1,t2,t3,t4,t5⟩:=ht;have t1:bJ 7 100=cG 7:=t1;have t2:bJ 7 110=cE 7:=t2;have t3:bJ 7 109=cF 7:=t3;have t4:bJ 7 97=(((7:Nat):Int)==6):=t4;have t5:bJ 7 99=((((7:Nat):Int)==12)||(((7:Nat):Int)==16)):=t5;rw[Bool.eq_iff_iff];unfold fC dQ gI dM eZ kI dE bU dD bS cY eS;rw[t1,t2,t3,t4,t5];clear t1 t2 t3 t4 t5;simp[cG,cE,cF,cX];all_goals grind
theorem refI_eq8 (i:In):fC 8 8 i=(bS i (cY 8 i)&&bU i&&dD 8 i):=by
 obtain⟨o,d,n,m,a,x,k,h,t,c⟩:=i;have ht:=dR ⟨8,by omega⟩;simp only[Prod.mk.injEq]at ht;obtain⟨t1,t2,t3,t4,t5⟩:=ht;have t1:bJ 8 100=cG 8:=t1;have t2:bJ 8 110=cE 8:=t2;have t3:bJ 8 109=cF 8:=t3;have t4:bJ 8 97=(((8:Nat):Int)==6):=t4;have t5:bJ 8 99=((((8:Nat):Int)==12)||(((8:Nat):Int)==16)):=t5;rw[Bool.eq_iff_iff];unfold fC dQ gI dM eZ kI dE bU dD bS cY eS;rw[t1,t2,t3,t4,t5];clear t1 t2 t3 t4 t5;simp[cG,cE,cF,cX];all_goals grind
theorem refI_eq9 (i:In):fC 9 9 i=(bS i (cY 9 i)&&bU i&&dD 9 i):=by
 obtain⟨o,d,n,m,a,x,k,h,t,c⟩:=i;have ht:=dR ⟨9,by omega⟩;simp only[Prod.mk.injEq]at ht;obtain⟨t1,t2,t3,t4,t5⟩:=ht;have t1:bJ 9 100=cG 9:=t1;have t2:bJ 9 110=cE 9:=t2;have t3:bJ 9 109=cF 9:=t3;have t4:bJ 9 97=(((9:Nat):Int)==6):=t4;have t5:bJ 9 99=((((9:Nat):Int)==12)||(((9:Nat):Int)==16)):=t5;rw[Bool.eq_iff_iff];unfold fC dQ gI dM eZ kI dE bU dD bS cY eS;rw[t1,t2,t3,t4,t5];clear t1 t2 t3 t4 t5;simp[cG,cE,cF,cX];all_goals grind
theorem refI_eq10 (i:In):fC 10 10 i=(bS i (cY 10 i)&&bU i&&dD 10 i):=by
 obtain⟨o,d,n,m,a,x,k,h,t,c⟩:=i;have ht:=dR ⟨10,by omega⟩;simp only[Prod.mk.injEq]at ht;obtain⟨t1,t2,t3,t4,t5⟩:=ht;have t1:bJ 10 100=cG 10:=t1;have t2:bJ 10 110=cE 10:=t2;have t3:bJ 10 109=cF 10:=t3;have t4:bJ 10 97=(((10:Nat):Int)==6):=t4;have t5:bJ 10 99=((((10:Nat):Int)==12)||(((10:Nat):Int)==16)):=t5;rw[Bool.eq_iff_iff];unfold fC dQ gI dM eZ kI dE bU dD bS cY eS;rw[t1,t2,t3,t4,t5];clear t1 t2 t3 t4 t5;simp[cG,cE,cF,cX];all_goals grind
theorem refI_eq11 (i:In):fC 11 11 i=(bS i (cY 11 i)&&bU i&&dD 11 i):=by
 obtain⟨o,d,n,m,a,x,k,h,t,c⟩:=i;have ht:=dR ⟨11,by omega⟩;simp only[Prod.mk.injEq]at ht;obtain⟨t1,t2,t3,t4,t5⟩:=ht;have t1:bJ 11 100=cG 11:=t1;have t2:bJ 11 110=cE 11:=t2;have t3:bJ 11 109=cF 11:=t3;have t4:bJ 11 97=(((11:Nat):Int)==6):=t4;have t5:bJ 11 99=((((11:Nat):Int)==12)||(((11:Nat):Int)==16)):=t5;rw[Bool.eq_iff_iff];unfold fC dQ gI dM eZ kI dE bU dD bS cY eS;rw[t1,t2,t3,t4,t5];clear t1 t2 t3 t4 t5;simp[cG,cE,cF,cX];all_goals grind
theorem refI_eq12 (i:In):fC 12 12 i=(bS i (cY 12 i)&&bU i&&dD 12 i):=by
 obtain⟨o,d,n,m,a,x,k,h,t,c⟩:=i;have ht:=dR ⟨12,by omega⟩;simp only[Prod.mk.injEq]at ht;obtain⟨t1,t2,t3,t4,t5⟩:=ht;have t1:bJ 12 100=cG 12:=t1;have t2:bJ 12 110=cE 12:=t2;have t3:bJ 12 109=cF 12:=t3;have t4:bJ 12 97=(((12:Nat):Int)==6):=t4;have t5:bJ 12 99=((((12:Nat):Int)==12)||(((12:Nat):Int)==16)):=t5;rw[Bool.eq_iff_iff];unfold fC dQ gI dM eZ kI dE bU dD bS cY eS;rw[t1,t2,t3,t4,t5];clear t1 t2 t3 t4 t5;simp[cG,cE,cF,cX];all_goals grind
theorem refI_eq13 (i:In):fC 13 13 i=(bS i (cY 13 i)&&bU i&&dD 13 i):=by
 obtain⟨o,d,n,m,a,x,k,h,t,c⟩:=i;have ht:=dR ⟨13,by omega⟩;simp only[Prod.mk.injEq]at ht;obtain⟨t1,t2,t3,t4,t5⟩:=ht;have t1:bJ 13 100=cG 13:=t1;have t2:bJ 13 110=cE 13:=t2;have t3:bJ 13 109=cF 13:=t3;have t4:bJ 13 97=(((13:Nat):Int)==6):=t4;have t5:bJ 13 99=((((13:Nat):Int)==12)||(((13:Nat):Int)==16)):=t5;rw[Bool.eq_iff_iff];unfold fC dQ gI dM eZ kI dE bU dD bS cY eS;rw[t1,t2,t3,t4,t5];clear t1 t2 t3 t4 t5;simp[cG,cE,cF,cX];all_goals grind
theorem refI_eq14 (i:In):fC 14 14 i=(bS i (cY 14 i)&&bU i&&dD 14 i):=by
 obtain⟨o,d,n,m,a,x,k,h,t,c⟩:=i;have ht:=dR ⟨14,by omega⟩;simp only[Prod.mk.injEq]at ht;obtain⟨t1,t2,t3,t4,t5⟩:=ht;have t1:bJ 14 100=cG 14:=t1;have t2:bJ 14 110=cE 14:=t2;have t3:bJ 14 109=cF 14:=t3;have t4:bJ 14 97=(((14:Nat):Int)==6):=t4;have t5:bJ 14 99=((((14:Nat):Int)==12)||(((14:Nat):Int)==16)):=t5;rw[Bool.eq_iff_iff];unfold fC dQ gI dM eZ kI dE bU dD bS cY eS;rw[t1,t2,t3,t4,t5];clear t1 t2 t3 t4 t5;simp[cG,cE,cF,cX];all_goals grind
theorem refI_eq15 (i:In):fC 15 15 i=(bS i (cY 15 i)&&bU i&&dD 15 i):=by
 obtain⟨o,d,n,m,a,x,k,h,t,c⟩:=i;have ht:=dR ⟨15,by omega⟩;simp only[Prod.mk.injEq]at ht;obtain⟨t1,t2,t3,t4,t5⟩:=ht;have t1:bJ 15 100=cG 15:=t1;have t2:bJ 15 110=cE 15:=t2;have t3:bJ 15 109=cF 15:=t3;have t4:bJ 15 97=(((15:Nat):Int)==6):=t4;have t5:bJ 15 99=((((15:Nat):Int)==12)||(((15:Nat):Int)==16)):=t5;rw[Bool.eq_iff_iff];unfold fC dQ gI dM eZ kI dE bU dD bS cY eS;rw[t1,t2,t3,t4,t5];clear t1 t2 t3 t4 t5;simp[cG,cE,cF,cX];all_goals grind
theorem refI_eq16 (i:In):fC 16 16 i=(bS i (cY 16 i)&&bU i&&dD 16 i):=by
 obtain⟨o,d,n,m,a,x,k,h,t,c⟩:=i;have ht:=dR ⟨16,by omega⟩;simp only[Prod.mk.injEq]at ht;obtain⟨t1,t2,t3,t4,t5⟩:=ht;have t1:bJ 16 100=cG 16:=t1;have t2:bJ 16 110=cE 16:=t2;have t3:bJ 16 109=cF 16:=t3;have t4:bJ 16 97=(((16:Nat):Int)==6):=t4;have t5:bJ 16 99=((((16:Nat):Int)==12)||(((16:Nat):Int)==16)):=t5;rw[Bool.eq_iff_iff];unfold fC dQ gI dM eZ kI dE bU dD bS cY eS;rw[t1,t2,t3,t4,t5];clear t1 t2 t3 t4 t5;simp[cG,cE,cF,cX];all_goals grind
theorem RIs_no (i:In)(w:World)(s:Nat)(hs:s<=16)(hsz:aF i.op=s)(h:s=0\/(1<=s/\(dQ s 100 i.d&&dQ s 110 i.n&&dQ s 109 i.m&&dQ s 97 i.a)=false)):
  Calls Tryz.prog 98 #[dY i] w (aP (.bool false) w):=by
 obtain⟨o,d,n,m,a,x,k,hh,t,c⟩:=i;simp only[]at hsz h;have HSh:Hid (∀w,Calls Tryz.prog 101 #[.int .i64 o] w (aP (.int .i64 s) w)):=aH fun w=>by have:=kQ o w;rwa[hsz]at this
 have HD:Hid (∀w,Calls Tryz.prog 125 #[.int .i64 s,.string ⟨#[100]⟩,.int .i64 d] w (aP (.bool (dQ s 100 d)) w)):=aH fun w=>kZ s hs 100 d w
 have HN:Hid (∀w,Calls Tryz.prog 125 #[.int .i64 s,.string ⟨#[110]⟩,.int .i64 n] w (aP (.bool (dQ s 110 n)) w)):=aH fun w=>kZ s hs 110 n w
 have HM:Hid (∀w,Calls Tryz.prog 125 #[.int .i64 s,.string ⟨#[109]⟩,.int .i64 m] w (aP (.bool (dQ s 109 m)) w)):=aH fun w=>kZ s hs 109 m w
 have HA:Hid (∀w,Calls Tryz.prog 125 #[.int .i64 s,.string ⟨#[97]⟩,.int .i64 a] w (aP (.bool (dQ s 97 a)) w)):=aH fun w=>kZ s hs 97 a w
 generalize dQ s 100 d=b1 at*
 generalize dQ s 110 n=b2 at*
 generalize dQ s 109 m=b3 at*
 generalize dQ s 97 a=b4 at*
 have hten:=Ten.made w ⟨o,d,n,m,a,x,k,hh,t,c⟩ 74;obtain⟨X,hX⟩:=aE w.heap.size;obtain⟨W0,hW0⟩:=aE (w.alloc (.cells (lW ⟨o,d,n,m,a,x,k,hh,t,c⟩) 74));have hXl:X<W0.heap.size:=by rw[hX,hW0];simp
 rw[<-hW0,<-hX]at hten;have HW:Hid (Below w.heap.size w W0):=aH (by rw[hW0];exact(Below.refl _ w).alloc (Nat.le_refl _) _);have HT:=aH hten;have HB:=aH (Below.refl W0.heap.size W0);have HEQ:=aH hW0;have HXQ:=aH hX;obtain⟨a0,a1,a2,a3,a4,a5,a6,a7,a8,a9⟩:=hten;clear hW0 hX hsz;rcases h with rfl|⟨h1,h⟩
 ·go_enter Tryz.func98,Tryz.ntmps98;go_wp2_with fail
  rw[<-HEQ.out,<-HXQ.out];go_wp2_with (first|(go_at_call 101;((with_reducible refine(HSh.out _).mono ?_);rintro e w' ⟨rfl,hb⟩;replace HB:=aH (after HB.out hb);clear hb;clear a0 a1 a2 a3 a4 a5 a6 a7 a8 a9;obtain⟨a0,a1,a2,a3,a4,a5,a6,a7,a8,a9⟩:=HT.out.below HB.out hXl))|(go_at_call 125;((with_reducible refine(HD.out _).mono ?_);rintro e w' ⟨rfl,hb⟩;replace HB:=aH (after HB.out hb);clear hb;clear a0 a1 a2 a3 a4 a5 a6 a7 a8 a9;obtain⟨a0,a1,a2,a3,a4,a5,a6,a7,a8,a9⟩:=HT.out.below HB.out hXl))|(go_at_call 125;((with_reducible refine(HN.out _).mono ?_);rintro e w' ⟨rfl,hb⟩;replace HB:=aH (after HB.out hb);clear hb;clear a0 a1 a2 a3 a4 a5 a6 a7 a8 a9;obtain⟨a0,a1,a2,a3,a4,a5,a6,a7,a8,a9⟩:=HT.out.below HB.out hXl))|(go_at_call 125;((with_reducible refine(HM.out _).mono ?_);rintro e w' ⟨rfl,hb⟩;replace HB:=aH (after HB.out hb);clear hb;clear a0 a1 a2 a3 a4 a5 a6 a7 a8 a9;obtain⟨a0,a1,a2,a3,a4,a5,a6,a7,a8,a9⟩:=HT.out.below HB.out hXl))|(go_at_call 125;((with_reducible refine(HA.out _).mono ?_);rintro e w' ⟨rfl,hb⟩;replace HB:=aH (after HB.out hb);clear hb;clear a0 a1 a2 a3 a4 a5 a6 a7 a8 a9;obtain⟨a0,a1,a2,a3,a4,a5,a6,a7,a8,a9⟩:=HT.out.below HB.out hXl)))
  go_ret;exact aB rfl (HW.out.trans (HB.out.mono HW.out.size))
 ·have q0:((s:Int)==0)=false:=by rw[beq_eq_false_iff_ne];omega
  cases b1<;>cases b2<;>cases b3<;>cases b4<;>first|(exfalso;simp at h;done)|skip
  all_goals
   clear h;go_enter Tryz.func98,Tryz.ntmps98;go_wp2_with fail
   rw[<-HEQ.out,<-HXQ.out];go_wp2_with (first|(go_at_call 101;((with_reducible refine(HSh.out _).mono ?_);rintro e w' ⟨rfl,hb⟩;replace HB:=aH (after HB.out hb);clear hb;clear a0 a1 a2 a3 a4 a5 a6 a7 a8 a9;obtain⟨a0,a1,a2,a3,a4,a5,a6,a7,a8,a9⟩:=HT.out.below HB.out hXl))|(go_at_call 125;((with_reducible refine(HD.out _).mono ?_);rintro e w' ⟨rfl,hb⟩;replace HB:=aH (after HB.out hb);clear hb;clear a0 a1 a2 a3 a4 a5 a6 a7 a8 a9;obtain⟨a0,a1,a2,a3,a4,a5,a6,a7,a8,a9⟩:=HT.out.below HB.out hXl))|(go_at_call 125;((with_reducible refine(HN.out _).mono ?_);rintro e w' ⟨rfl,hb⟩;replace HB:=aH (after HB.out hb);clear hb;clear a0 a1 a2 a3 a4 a5 a6 a7 a8 a9;obtain⟨a0,a1,a2,a3,a4,a5,a6,a7,a8,a9⟩:=HT.out.below HB.out hXl))|(go_at_call 125;((with_reducible refine(HM.out _).mono ?_);rintro e w' ⟨rfl,hb⟩;replace HB:=aH (after HB.out hb);clear hb;clear a0 a1 a2 a3 a4 a5 a6 a7 a8 a9;obtain⟨a0,a1,a2,a3,a4,a5,a6,a7,a8,a9⟩:=HT.out.below HB.out hXl))|(go_at_call 125;((with_reducible refine(HA.out _).mono ?_);rintro e w' ⟨rfl,hb⟩;replace HB:=aH (after HB.out hb);clear hb;clear a0 a1 a2 a3 a4 a5 a6 a7 a8 a9;obtain⟨a0,a1,a2,a3,a4,a5,a6,a7,a8,a9⟩:=HT.out.below HB.out hXl)))
   go_ret;exact aB rfl (HW.out.trans (HB.out.mono HW.out.size))
theorem RIs_yes (i:In)(w:World)(s:Nat)(hs:s<=16)(hsz:aF i.op=s)(h1:1<=s)(hi:InB i)(h:(dQ s 100 i.d&&dQ s 110 i.n&&dQ s 109 i.m&&dQ s 97 i.a)=true):
  Calls Tryz.prog 98 #[dY i] w (aP (.bool (fC s s i)) w):=by
 obtain⟨o,d,n,m,a,x,k,hh,t,c⟩:=i;simp only[]at hsz h;obtain⟨kv,rfl⟩:=Int.eq_ofNat_of_zero_le (show 0<=k from hi.mask.1);have HMK:Hid (∀w,Calls Tryz.prog 127 #[.int .u64 kv] w (bQ (.bool (isS kv)) w)):=aH fun w=>refIs_any kv w (by have:=hi.mask.2;simp only[]at this;omega)
 have HIM:Hid (∀w,Calls Tryz.prog 128 #[.int .i64 s,.int .i64 x] w (bQ (.bool (kI s x)) w)):=aH fun w=>imm_any s x w hi.imm
 have HAM:Hid (∀w,Calls Tryz.prog 129 #[.int .i64 s,.int .i64 t] w (bQ (.bool (dE s t)) w)):=aH fun w=>amount_any s t w hi.amount
 have HHC:Hid (∀w,Calls Tryz.prog 126 #[.int .i64 s,.string ⟨#[99]⟩] w (aP (.bool (bJ s 99)) w)):=aH fun w=>Has_any s hs 99 w
 have HREF:Hid (fC s s ⟨o,d,n,m,a,x,kv,hh,t,c⟩=(kI s x&&dE s t&&dM s hh&&gI s c&&eZ s kv)):=aH (by unfold fC;simp only[];rw[h,Bool.true_and]);clear hi;have HSh:Hid (∀w,Calls Tryz.prog 101 #[.int .i64 o] w (aP (.int .i64 s) w)):=aH fun w=>by have:=kQ o w;rwa[hsz]at this
 have HD:Hid (∀w,Calls Tryz.prog 125 #[.int .i64 s,.string ⟨#[100]⟩,.int .i64 d] w (aP (.bool (dQ s 100 d)) w)):=aH fun w=>kZ s hs 100 d w
 have HN:Hid (∀w,Calls Tryz.prog 125 #[.int .i64 s,.string ⟨#[110]⟩,.int .i64 n] w (aP (.bool (dQ s 110 n)) w)):=aH fun w=>kZ s hs 110 n w
 have HM:Hid (∀w,Calls Tryz.prog 125 #[.int .i64 s,.string ⟨#[109]⟩,.int .i64 m] w (aP (.bool (dQ s 109 m)) w)):=aH fun w=>kZ s hs 109 m w
 have HA:Hid (∀w,Calls Tryz.prog 125 #[.int .i64 s,.string ⟨#[97]⟩,.int .i64 a] w (aP (.bool (dQ s 97 a)) w)):=aH fun w=>kZ s hs 97 a w
 generalize dQ s 100 d=b1 at*
 generalize dQ s 110 n=b2 at*
 generalize dQ s 109 m=b3 at*
 generalize dQ s 97 a=b4 at*
 have hten:=Ten.made w ⟨o,d,n,m,a,x,(kv:Nat),hh,t,c⟩ 74;obtain⟨X,hX⟩:=aE w.heap.size;obtain⟨W0,hW0⟩:=aE (w.alloc (.cells (lW ⟨o,d,n,m,a,x,(kv:Nat),hh,t,c⟩) 74));have hXl:X<W0.heap.size:=by rw[hX,hW0];simp
 rw[<-hW0,<-hX]at hten;have HW:Hid (Below w.heap.size w W0):=aH (by rw[hW0];exact(Below.refl _ w).alloc (Nat.le_refl _) _);have HT:=aH hten;have HB:=aH (Below.refl W0.heap.size W0);have HEQ:=aH hW0;have HXQ:=aH hX;obtain⟨a0,a1,a2,a3,a4,a5,a6,a7,a8,a9⟩:=hten;clear hW0 hX hsz;obtain⟨⟨⟨rfl,rfl⟩,rfl⟩,rfl⟩:((b1=true/\b2=true)/\b3=true)/\b4=true:=by simpa only[Bool.and_eq_true]using h
 have q0:((s:Int)==0)=false:=by rw[beq_eq_false_iff_ne];omega
 clear h;go_enter Tryz.func98,Tryz.ntmps98;go_wp2_with fail
 rw[<-HEQ.out,<-HXQ.out];go_upto_region 4 with(first|(go_at_call 101;((with_reducible refine(HSh.out _).mono ?_);rintro e w' ⟨rfl,hb⟩;replace HB:=aH (after HB.out hb);clear hb;clear a0 a1 a2 a3 a4 a5 a6 a7 a8 a9;obtain⟨a0,a1,a2,a3,a4,a5,a6,a7,a8,a9⟩:=HT.out.below HB.out hXl))|(go_at_call 125;((with_reducible refine(HD.out _).mono ?_);rintro e w' ⟨rfl,hb⟩;replace HB:=aH (after HB.out hb);clear hb;clear a0 a1 a2 a3 a4 a5 a6 a7 a8 a9;obtain⟨a0,a1,a2,a3,a4,a5,a6,a7,a8,a9⟩:=HT.out.below HB.out hXl))|(go_at_call 125;((with_reducible refine(HN.out _).mono ?_);rintro e w' ⟨rfl,hb⟩;replace HB:=aH (after HB.out hb);clear hb;clear a0 a1 a2 a3 a4 a5 a6 a7 a8 a9;obtain⟨a0,a1,a2,a3,a4,a5,a6,a7,a8,a9⟩:=HT.out.below HB.out hXl))|(go_at_call 125;((with_reducible refine(HM.out _).mono ?_);rintro e w' ⟨rfl,hb⟩;replace HB:=aH (after HB.out hb);clear hb;clear a0 a1 a2 a3 a4 a5 a6 a7 a8 a9;obtain⟨a0,a1,a2,a3,a4,a5,a6,a7,a8,a9⟩:=HT.out.below HB.out hXl))|(go_at_call 125;((with_reducible refine(HA.out _).mono ?_);rintro e w' ⟨rfl,hb⟩;replace HB:=aH (after HB.out hb);clear hb;clear a0 a1 a2 a3 a4 a5 a6 a7 a8 a9;obtain⟨a0,a1,a2,a3,a4,a5,a6,a7,a8,a9⟩:=HT.out.below HB.out hXl)))
 go_cut [4] (fun u wx=>u=.bool (dM s hh)/\wx=w')
 case first=>
  cases e0:(hh==0)
  ·cases p4:((s:Int)==4)
   ·cases p5:((s:Int)==5)
    ·go_wp2;go_meet;exact⟨by simp_all[dM],rfl⟩
    ·obtain rfl:s=5:=by have:=eq_of_beq p5;omega
     clear p4 p5;by_cases g0:0<=hh
     ·go_wp2;all_goals go_meet
      all_goals exact⟨by(simp_all[dM]<;>omega),rfl⟩
     ·go_wp2;all_goals go_meet
      all_goals exact⟨by(simp_all[dM]<;>omega),rfl⟩
   ·obtain rfl:s=4:=by have:=eq_of_beq p4;omega
    clear p4;by_cases g0:0<=hh
    ·go_wp2;all_goals go_meet
     all_goals exact⟨by(simp_all[dM]<;>omega),rfl⟩
    ·go_wp2;all_goals go_meet
     all_goals exact⟨by(simp_all[dM]<;>omega),rfl⟩
  ·go_wp2;go_meet;exact⟨by simp_all[dM],rfl⟩
 case rest=>
  obtain⟨rfl,rfl⟩:=hcut;generalize dM s hh=SH at*
  go_upto_region 5 with(fail)
  go_cut [5] (fun u wx=>u=.bool (gI s c)/\Below wc.heap.size wc wx)
  case first=>
   have HCO:Hid (gI s c=(c == 0 || (bJ s 99 && decide (0<=c) && decide (c<=13)))):=aH rfl;generalize gI s c=CO at*
   generalize bJ s 99=b5 at*
   cases e0:(c==0)
   ·cases b5
    ·go_wp2_with fail
     refine(HHC.out _).mono ?_;rintro e w' ⟨rfl,hb⟩;have HB5:=aH hb;replace HB:=aH (after HB.out hb);clear hb;clear a0 a1 a2 a3 a4 a5 a6 a7 a8 a9;obtain⟨a0,a1,a2,a3,a4,a5,a6,a7,a8,a9⟩:=HT.out.below HB.out hXl;go_wp2;go_meet;exact⟨by rw[HCO.out,e0];rfl,HB5.out⟩
    ·by_cases g0:0<=c
     ·go_wp2_with fail
      refine(HHC.out _).mono ?_;rintro e w' ⟨rfl,hb⟩;have HB5:=aH hb;replace HB:=aH (after HB.out hb);clear hb;clear a0 a1 a2 a3 a4 a5 a6 a7 a8 a9;obtain⟨a0,a1,a2,a3,a4,a5,a6,a7,a8,a9⟩:=HT.out.below HB.out hXl;go_wp2;all_goals go_meet
      all_goals exact⟨by rw[HCO.out,e0];(simp_all<;>omega),HB5.out⟩
     ·go_wp2_with fail
      refine(HHC.out _).mono ?_;rintro e w' ⟨rfl,hb⟩;have HB5:=aH hb;replace HB:=aH (after HB.out hb);clear hb;clear a0 a1 a2 a3 a4 a5 a6 a7 a8 a9;obtain⟨a0,a1,a2,a3,a4,a5,a6,a7,a8,a9⟩:=HT.out.below HB.out hXl;go_wp2;all_goals go_meet
      all_goals exact⟨by rw[HCO.out,e0];(simp_all<;>omega),HB5.out⟩
   ·go_wp2;go_meet;exact⟨by rw[HCO.out,e0];rfl,Below.refl _ _⟩
  case rest=>
   obtain⟨rfl,hb⟩:=hcut;replace HB:=aH (after HB.out hb);clear hb;clear a0 a1 a2 a3 a4 a5 a6 a7 a8 a9;obtain⟨a0,a1,a2,a3,a4,a5,a6,a7,a8,a9⟩:=HT.out.below HB.out hXl;generalize gI s c=CO at*
   go_upto_region 6 with(fail)
   go_cut [6] (fun u wx=>u=.bool (eZ s kv)/\wx=wc)
   case first=>
    by_cases e3:s=3
    ·subst e3;have HMA:Hid (eZ (3:Nat) kv=isS kv):=aH (by simp[eZ]);generalize eZ (3:Nat) kv=MK at*
     generalize isS kv=MS at*
     cases MS
     all_goals
      go_wp2_with (go_at_call 127;((with_reducible refine(HMK.out _).mono ?_);rintro e w' ⟨rfl,rfl⟩))
      go_meet;exact⟨by rw[HMA.out],rfl⟩
    ·have p3:((s:Int)==3)=false:=by rw[beq_eq_false_iff_ne];omega
     have p4:((s:Int) !=3)=true:=by rw[bne_iff_ne];omega
     have HMA:Hid (eZ s kv=((kv:Int)==0)):=aH (by unfold eZ;rw[p3,p4];simp);generalize eZ s kv=MK at*
     cases e0:((kv:Int)==0)
     all_goals
      go_wp2;go_meet;exact⟨by rw[HMA.out,e0],rfl⟩
   case rest=>
    obtain⟨rfl,rfl⟩:=hcut;generalize eZ s kv=MK at*
    generalize fC s s ⟨o,d,n,m,a,x,kv,hh,t,c⟩=RR at*
    generalize kI s x=IM at*
    generalize dE s t=AM at*
    cases IM
    ·go_wp2_with (first|(go_at_call 128;((with_reducible refine(HIM.out _).mono ?_);rintro e w' ⟨rfl,rfl⟩))|(go_at_call 129;((with_reducible refine(HAM.out _).mono ?_);rintro e w' ⟨rfl,rfl⟩)))
     go_ret;exact aB (by rw[HREF.out];rfl) (HW.out.trans (HB.out.mono HW.out.size))
    cases AM
    ·go_wp2_with (first|(go_at_call 128;((with_reducible refine(HIM.out _).mono ?_);rintro e w' ⟨rfl,rfl⟩))|(go_at_call 129;((with_reducible refine(HAM.out _).mono ?_);rintro e w' ⟨rfl,rfl⟩)))
     go_ret;exact aB (by rw[HREF.out];rfl) (HW.out.trans (HB.out.mono HW.out.size))
    cases SH
    ·go_wp2_with (first|(go_at_call 128;((with_reducible refine(HIM.out _).mono ?_);rintro e w' ⟨rfl,rfl⟩))|(go_at_call 129;((with_reducible refine(HAM.out _).mono ?_);rintro e w' ⟨rfl,rfl⟩)))
     go_ret;exact aB (by rw[HREF.out];rfl) (HW.out.trans (HB.out.mono HW.out.size))
    cases CO
    ·go_wp2_with (first|(go_at_call 128;((with_reducible refine(HIM.out _).mono ?_);rintro e w' ⟨rfl,rfl⟩))|(go_at_call 129;((with_reducible refine(HAM.out _).mono ?_);rintro e w' ⟨rfl,rfl⟩)))
     go_ret;exact aB (by rw[HREF.out];rfl) (HW.out.trans (HB.out.mono HW.out.size))
    cases MK
    all_goals
     go_wp2_with (first|(go_at_call 128;((with_reducible refine(HIM.out _).mono ?_);rintro e w' ⟨rfl,rfl⟩))|(go_at_call 129;((with_reducible refine(HAM.out _).mono ?_);rintro e w' ⟨rfl,rfl⟩)))
     go_ret;exact aB (by rw[HREF.out];rfl) (HW.out.trans (HB.out.mono HW.out.size))
theorem RIs_any (i:In)(hi:InB i)(w:World):Calls Tryz.prog 98 #[dY i] w (aP (.bool (fM i)) w):=by
 have hb:=dH i.op;obtain⟨s,hs⟩:=Int.eq_ofNat_of_zero_le hb.1;by_cases h0:s=0
 ·subst h0;have:fM i=false:=by unfold fM;rw[hs];rfl
  rw[this];exact RIs_no i w 0 (by omega) hs (.inl rfl)
 ·have hE:fC s s i=fM i:=by
   have:fM i=(bS i (cY s i)&&bU i&&dD s i):=by
    unfold fM;rw[hs];have:((s:Int) !=0)=true:=by rw[bne_iff_ne];omega
    rw[this,Bool.true_and]
   rw[this];have h2:=hb.2;have hc:s=1\/s=2\/s=3\/s=4\/s=5\/s=6\/s=7\/s=8\/s=9\/s=10\/s=11\/s=12\/s=13\/s=14\/s=15\/s=16:=by omega
   rcases hc with rfl|rfl|rfl|rfl|rfl|rfl|rfl|rfl|rfl|rfl|rfl|rfl|rfl|rfl|rfl|rfl
   ·exact refI_eq1 i
   ·exact refI_eq2 i
   ·exact refI_eq3 i
   ·exact refI_eq4 i
   ·exact refI_eq5 i
   ·exact refI_eq6 i
   ·exact refI_eq7 i
   ·exact refI_eq8 i
   ·exact refI_eq9 i
   ·exact refI_eq10 i
   ·exact refI_eq11 i
   ·exact refI_eq12 i
   ·exact refI_eq13 i
   ·exact refI_eq14 i
   ·exact refI_eq15 i
   ·exact refI_eq16 i
  cases hr:(dQ s 100 i.d&&dQ s 110 i.n&&dQ s 109 i.m&&dQ s 97 i.a)
  ·rw[<-hE];have:fC s s i=false:=by unfold fC;rw[hr,Bool.false_and]
   rw[this];exact RIs_no i w s (by omega) hs (.inr ⟨by omega,hr⟩)
  ·rw[<-hE];exact RIs_yes i w s (by omega) hs (by omega) hi hr
open Go.RowKit
def encU (x:Int):List Value:=[.int .u32 x]
theorem encU_len:∀x,(encU x).length=1:=fun _=>rfl
def lJ (s x:Nat):List F3:=(jV s).map fun p=>(p.1,p.2,fw x p.1.toNat p.2.toNat)
theorem fldX_zf (s x:Nat):(lJ s x).map zf=(jV s).map fun p=>(p.1,p.2,0):=by
 unfold lJ;rw[List.map_map];rfl
theorem fldX_z:∀s:Fin 17,dG ((jV s.val).map fun p=>(p.1,p.2,0)) (fJ s.val)=true/\lA ((jV s.val).map fun p=>(p.1,p.2,0))|||fJ s.val=4294967295:=by decide+kernel
theorem fldX_apart (s x:Nat)(hs:s<=16):dG (lJ s x) (fJ s)=true/\lA (lJ s x)|||fJ s=4294967295:=by
 have h:=fldX_z ⟨s,by omega⟩;simp only[]at h;rw[<-fldX_zf s x,apartL_zf,orAll_zf]at h;exact h
theorem fldX_ok (s x:Nat):mF (lJ s x):=by
 intro f hf;unfold lJ at hf;obtain⟨p,-,rfl⟩:=List.mem_map.1 hf;exact bB x p.1.toNat p.2.toNat
theorem word_sum (s x:Nat)(hs:s<=16)(hx:x<4294967296):x=(x&&&fJ s)+pI (lJ s x):=by
 have ha:=fldX_apart s x hs;have hk:=fldX_ok s x;have hlt:x&&&fJ s<4294967296:=Nat.lt_of_le_of_lt Nat.and_le_left hx;obtain⟨d,hd,hd2,hd3,hd4⟩:=enc_gen (lJ s x) (x&&&fJ s) (fJ s) hk ha.1 (by rw[Nat.and_assoc,Nat.and_self]) hlt;have e:d=x:=by
  refine word_ext (lJ s x) (fJ s) d x (fG _ _ ha.1) ha.2 hd2 hx (fun f hf=>?_) hd4;rw[hd3 f hf];unfold lJ at hf;obtain⟨p,-,rfl⟩:=List.mem_map.1 hf;simp only[];rw[of_fw]
 have:=wordL_sum (lJ s x) (x&&&fJ s) (fJ s) d hk ha.1 (fun j hj=>by rw[Nat.testBit_and,Bool.and_eq_true]at hj;exact hj.2) hlt hd;omega
theorem sumF_succ {l:List F3}{k:Nat}(h:k<l.length):pI (l.take (k+1))=pI (l.take k)+l[k].2.2.toNat*2^l[k].1.toNat:=by
 induction l generalizing k with
 |nil=>simp at h
 |cons f r ih=>
  cases k with
  |zero=>simp[pI]
  |succ k=>
   simp only[List.take_succ_cons,pI,List.getElem_cons_succ];rw[ih (by simpa using h)];omega
theorem sumF_le (l:List F3)(k:Nat):pI (l.take k)<=pI l:=by
 induction l generalizing k with
 |nil=>simp[pI]
 |cons f r ih=>
  cases k with
  |zero=>simp[pI]
  |succ k=>simp only[List.take_succ_cons,pI];have:=ih k;omega
def nU (s x k:Nat):Nat:=x-pI ((lJ s x).take k)
theorem leftX_zero (s x:Nat):nU s x 0=x:=by simp[nU,pI]
theorem leftX_end (s x:Nat)(hs:s<=16)(hx:x<4294967296)(k:Nat)(hk:(jV s).length<=k):nU s x k=x&&&fJ s:=by
 unfold nU;rw[List.take_of_length_le (by unfold lJ;simpa using hk)];have:=word_sum s x hs hx;omega
theorem leftX_succ (s x k:Nat)(hs:s<=16)(hx:x<4294967296)(hk:k<(jV s).length):
  ∃m:Nat,fw x (jV s)[k].1.toNat (jV s)[k].2.toNat*2^(jV s)[k].1.toNat=((m:Nat):Int)/\m<=nU s x k/\nU s x (k+1)=nU s x k-m/\nU s x k<4294967296:=by
 have hk2:k<(lJ s x).length:=by unfold lJ;simpa using hk
 have h1:=sumF_succ hk2;have h2:=sumF_le (lJ s x) (k+1);have h3:=word_sum s x hs hx;have hg:(lJ s x)[k]=((jV s)[k].1,(jV s)[k].2,fw x (jV s)[k].1.toNat (jV s)[k].2.toNat):=by simp only[lJ,List.getElem_map]
 rw[hg]at h1;simp only[]at h1;have hf:=(bB x (jV s)[k].1.toNat (jV s)[k].2.toNat).1;refine⟨(fw x (jV s)[k].1.toNat (jV s)[k].2.toNat).toNat*2^(jV s)[k].1.toNat,?_,?_,?_,?_⟩
 ·rw[Int.natCast_mul,bD,Int.toNat_of_nonneg hf]
 all_goals unfold nU;omega
theorem plL_good:∀s:Fin 17,∀p∈jV s.val,0<=p.1/\p.1<32/\1<=p.2/\p.1+p.2<=32:=by decide+kernel
theorem ROpcode_any (x:Nat)(hx:x<4294967296)(w:World):Calls Tryz.prog 209 #[.int .u32 x] w (aP (.int .i64 (iK x:Nat)) w):=by
 go_enter Tryz.func209,Tryz.ntmps209;go_wp2;go_loopw [3] (fun i wl=>∃k:Nat,1<=k/\k<=40/\i=.int .i64 k/\(∀o,1<=o->o<k->kH o x=false)/\Below w.heap.size w wl) (fun i _=>40-(intOf i).toNat)
 case atStart=>exact⟨1,by omega,by omega,rfl,fun o h1 h2=>by omega,Below.refl _ _⟩
 case round=>
  obtain⟨k,hk1,hk,rfl,hno,hb⟩:=hrel;have HNO:=aH hno;have HB:=aH hb;clear hno hb;by_cases hlt:k<40
  ·have hsb:=dH (k:Int);obtain⟨s,hs⟩:=Int.eq_ofNat_of_zero_le hsb.1;have hs16:s<=16:=by omega
   have HSh:Hid (∀w,Calls Tryz.prog 101 #[.int .i64 k] w (aP (.int .i64 s) w)):=aH fun w=>by have:=kQ (k:Int) w;rwa[hs]at this
   have HPl:Hid (∀w,Calls Tryz.prog 100 #[.int .i64 s] w (RetQ (jV s) w)):=aH fun w=>Places_any s hs16 w
   have hbs:=baseI_in hk1 (show k<=39 by omega);have HBs:Hid (∀w,Calls Tryz.prog 99 #[.int .i64 k] w (aP (.tuple #[.int .u32 (baL.getD k 0:Nat),.int .i64 0]) w)):=aH fun w=>by have:=RBase_any (k:Int) w;rwa[hbs]at this
   have hop:kH k x=(((nU s x (jV s).length:Nat):Int)==((baL.getD k 0:Nat):Int)):=by
    rw[leftX_end s x hs16 hx _ (Nat.le_refl _)];unfold kH;rw[hs,Int.toNat_natCast];show(x&&&fJ s==baN (k:Int))=_
    unfold baN;rw[Int.toNat_natCast,Bool.eq_iff_iff,beq_iff_eq,beq_iff_eq,Int.natCast_inj]
   have hbl:=baL_lt k hlt;have HOP:=aH hop;have HSUC:=aH (fun j hj=>leftX_succ s x j hs16 hx hj);have HL0:=aH (leftX_zero s x);have HG:Hid (∀p∈jV s,0<=p.1/\p.1<32/\1<=p.2/\p.1+p.2<=32):=aH (plL_good ⟨s,by omega⟩);have hl5:=(plL_len ⟨s,by omega⟩).1;simp only[]at hl5;clear hsb hs hbs hop;generalize nU s x=lx at*
   generalize baL.getD k 0=ba at*
   generalize hl:jV s=l at*
   obtain⟨nl,hnl⟩:∃nl,l.length=nl:=⟨_,rfl⟩;have hn5:nl<=5:=by omega
   have HNL:=aH hnl;rw[hnl]at HOP;clear hl hnl hl5;go_wp2_with (first
    |(go_at_call 99;((with_reducible refine(HBs.out _).mono ?_);rintro e w1 ⟨rfl,hb⟩;replace HB:=aH (after HB.out hb);clear hb))
    |(go_at_call 101;((with_reducible refine(HSh.out _).mono ?_);rintro e w1 ⟨rfl,hb⟩;replace HB:=aH (after HB.out hb);clear hb))
    |(go_at_call 100;((with_reducible refine(HPl.out _).mono ?_);rintro e wp ⟨pa,pc,rfl,hsl,hb⟩;rw[HNL.out]at hsl⊢;have HS:=aH hsl;replace HB:=aH (after HB.out hb);clear hb hsl)))
   go_loopw [6,8] (fun b i wl=>∃j:Nat,j<=nl/\i=.int .i64 j/\b=.int .u64 (lx j:Nat)/\Below wp.heap.size wp wl) (fun _ i _=>nl-(intOf i).toNat)
   case atStart=>exact⟨0,by omega,rfl,by rw[HL0.out],Below.refl _ _⟩
   case round=>
    obtain⟨j,hj,rfl,rfl,hb⟩:=hrel;by_cases hjl:j<nl
    ·have hj1:j<l.length:=by have:=HNL.out;omega
     obtain⟨b,off,rfl,hBl,hc⟩:=(HS.out.below hb).cells (HS.out.ne hjl);have c0:=hc j hj1 0 (by omega);have c1:=hc j hj1 1 (by omega);obtain⟨m,hm1,hm2,hm3,hm4⟩:=HSUC.out j hj1;have hg:=HG.out l[j] (List.getElem_mem _);generalize l[j]=p at*
     obtain⟨p1,p2⟩:=p;simp only[encQ,Nat.add_zero,List.getElem?_cons_zero,List.getElem?_cons_succ]at c0 c1 hg hm1;have HFd:Hid (∀w,Calls Tryz.prog 210 #[.int .u32 x,.int .i64 p1,.int .i64 p2] w (kP (.tuple #[.int .u32 (fw x p1.toNat p2.toNat),.int .i64 0]) w)):=aH fun w=>by
      have:=rP x p1 p2 w (by omega) (by omega);obtain⟨a1,rfl⟩:=Int.eq_ofNat_of_zero_le hg.1;obtain⟨a2,rfl⟩:=Int.eq_ofNat_of_zero_le (show 0<=p2 by omega);rwa[fieldS_in x a1 a2 (by omega) (by omega)]at this
     have HPw:Hid (∀w,Calls Tryz.prog 103 #[.int .i64 p1] w (bQ (.int .u64 (2^p1.toNat)) w)):=aH fun w=>eK p1 w (by omega)
     have bf:=bB x p1.toNat p2.toNat;have hp32:=pP p1 (by omega);have hf32:fw x p1.toNat p2.toNat<4294967296:=(iM x p1.toNat p2.toNat (by omega)).2;have bf0:=bf.1;clear hc bf;generalize fw x p1.toNat p2.toNat=f at*
     generalize hpw:(2:Int)^p1.toNat=P at*
     have HM1:=aH hm1;have HM3:=aH hm3;clear hpw hm3;go_wp2_with fail
     go_quiet ((go_at_call 210;exact Calls.quiet_of (HFd.out _)));go_wp2_with (go_at_call 103;((with_reducible refine(HPw.out _).mono ?_);rintro e w' ⟨rfl,rfl⟩))
     go_roundw
     case rel=>exact⟨j+1,by omega,by go_num,by rw[HM3.out];congr 1;have:=HM1.out;first|omega|(rw[this];omega),below_drewN hb _⟩
     case measure=>simp[intOf];omega
    ·obtain rfl:j=nl:=by omega
     replace HB:=aH (after HB.out hb);have hll:lx j<4294967296\/True:=.inr trivial;cases hq:(((lx j:Nat):Int)==((ba:Nat):Int))
     ·have HQ:Hid (kH k x=false):=aH (HOP.out.trans hq);go_wp2;go_roundw
      case rel=>exact⟨k+1,by omega,by omega,by go_num,fun o h1 h2=>by
       by_cases e:o=k
       ·rw[e];exact HQ.out
       ·exact HNO.out o h1 (by omega),HB.out⟩
      case measure=>simp[intOf];omega
     ·have HQ:Hid (iK x=k):=aH (opW_is hk1 hlt (HOP.out.trans hq));go_wp2;go_ret;exact nK (by have:=HQ.out;omega) HB.out
  ·obtain rfl:k=40:=by omega
   have HQ:Hid (iK x=0):=aH (opW_none fun o h1 h2=>HNO.out o h1 h2);go_wp2;go_ret;exact nK (by have:=HQ.out;omega) HB.out
end Go.Proofs.YtiohgaghmnpplaaGreatDoor
