/- Fields and words, signs: plain arithmetic; no function of the program in sight. What the functions of bits answer (fields, signs), on top of the masks' texts. What bits.Word and bits.Field answer, on top of the masks' texts. Words of instructions: what is read of a word is what was put there; no function of the program in sight. Shape by shape: what is read of an instruction's fields is the instruction, and the other way round; no function of the program in sight. What is read of an instruction's word is the instruction; the word of what is read of a word is the word. The word of an instruction and the instruction of a word turn one another back; no function of the program in sight. The reference's Encode and Is. The reference's Decode. mask.read, mask.Decode. code: its tables; Base, Opcode, pack, the fields of a word. -/
import Derived.Test.YtiohgaghmnpplaaGreatDoorqA
import Derived.WalkSpells
import Derived.Deep.QuietTactic
import Derived.BigQuiet
import Derived.Test.YtiohgaghmnpplaaGreatDoorqB
import Derived.Lib.LaidTab
set_option maxRecDepth 10000
set_option maxHeartbeats 1600000
set_option linter.unusedVariables false
set_option linter.unusedSimpArgs false
namespace Go.Proofs.YtiohgaghmnpplaaGreatDoor
open Go.RowKit
abbrev F3:=Int×Int×Int
def eG (a n:Int):Bool:=decide (0<=a/\a < 32/\1<=n/\n<=32 - a)
def eI (f:F3):Nat:=(2^f.2.1.toNat-1)*2^f.1.toNat
def dG:List F3->Nat->Bool
 | [],_=>true
 |f :: r,t=>if eG f.1 f.2.1=false then false else if t&&&eI f≠0 then false else dG r (t|||eI f)
theorem bitsOf_int (f:F3)(h1:0<=f.1)(h2:0<=f.2.1)(h3:f.2.1<=32-f.1):
  ((2:Int)^f.2.1.toNat-1)*2^f.1.toNat%4294967296=(eI f:Nat)/\eI f<4294967296:=by
 have e1:2^f.2.1.toNat>=1:=Nat.one_le_two_pow;have e2:2^f.1.toNat>=1:=Nat.one_le_two_pow;have h:eI f<4294967296:=by
  have h3:2^f.2.1.toNat*2^f.1.toNat<=2^32:=by rw[<-Nat.pow_add];exact Nat.pow_le_pow_right (by decide) (by omega)
  unfold eI;rw[Nat.sub_one_mul];omega
 refine⟨?_,h⟩;have e:((2:Int)^f.2.1.toNat-1)*2^f.1.toNat=(eI f:Nat):=by
  unfold eI;rw[Int.natCast_mul,Int.ofNat_sub e1,bD,bD];rfl
 rw[e];omega
def fQ:List F3->Nat->Int×Int
 | [],t=>(t,0)
 |f :: r,t=>if 2^f.2.1.toNat<=f.2.2 then(0,4)else fQ r (t|||f.2.2.toNat*2^f.1.toNat)
def wordS (l:List F3):Int×Int:=if dG l 0=false then(0,1)else fQ l 0
theorem fG:∀(l:List F3)(t:Nat),dG l t=true->∀f∈l,eG f.1 f.2.1=true:=by
 intro l;induction l with
 |nil=>intro t _ f hf;cases hf
 |cons g r ih=>
  intro t h f hf;rw[dG]at h;by_cases c:eG g.1 g.2.1=false
  ·rw[if_pos c]at h;cases h
  ·rw[if_neg c]at h;by_cases d:t&&&eI g≠0
   ·rw[if_pos d]at h;cases h
   ·rw[if_neg d]at h;rcases List.mem_cons.1 hf with rfl|hf
    ·simpa using c
    ·exact ih _ h f hf
theorem shl_int (V A N:Int)(h1:0<=A)(h2:1<=N)(h3:N<=32-A)(v0:0<=V)(hv:V<2^N.toNat):
  V*2^A.toNat%4294967296=((V.toNat*2^A.toNat:Nat):Int)/\V.toNat*2^A.toNat<4294967296:=by
 obtain⟨v,rfl⟩:=Int.eq_ofNat_of_zero_le v0;have hv':v<2^N.toNat:=by rw[<-bD]at hv;omega
 have e2:2^A.toNat>=1:=Nat.one_le_two_pow;have h:v*2^A.toNat<4294967296:=by
  have h3:2^N.toNat*2^A.toNat<=2^32:=by rw[<-Nat.pow_add];exact Nat.pow_le_pow_right (by decide) (by omega)
  have h4:v*2^A.toNat<2^N.toNat*2^A.toNat:=Nat.mul_lt_mul_of_pos_right hv' (by omega);omega
 refine⟨?_,by simpa using h⟩;rw[Int.toNat_natCast,<-bD,<-Int.natCast_mul];omega
def kJ (v a n:Int):Int×Int:=if eG a n=false then(0,1)else(v/2^a.toNat%2^n.toNat,0)
theorem fieldS_ok {v a n:Int}(h:0<=a/\a<32/\1<=n/\n<=32-a):kJ v a n=(v/2^a.toNat%2^n.toNat,0):=by
 have hr:eG a n=true:=by simpa[eG]using h
 unfold kJ;rw[if_neg (by simp[hr])]
theorem qQ (f:F3) (h1:0<=f.1) (h2:0<=f.2.1) (j:Nat):(eI f).testBit j=(decide (f.1.toNat<=j) && decide (j < f.1.toNat+f.2.1.toNat)):=by
 unfold eI;rw[Nat.mul_comm,Nat.testBit_two_pow_mul,Nat.testBit_two_pow_sub_one];by_cases c:f.1.toNat<=j
 ·have e:(j-f.1.toNat<f.2.1.toNat)=(j<f.1.toNat+f.2.1.toNat):=by simp only[eq_iff_iff];omega
  simp[c,e]
 ·simp[c]
theorem mN {a b:Nat}(h:a&&&b=0)(j:Nat)(hb:b.testBit j=true):a.testBit j=false:=by
 have:(a&&&b).testBit j=false:=by rw[h];simp
 rw[Nat.testBit_and,hb]at this;simpa using this
theorem word_fields:∀(l:List F3)(t t':Nat)(c:Int),(∀f∈l,0<=f.2.2)->dG l t'=true->fQ l t=(c,0)->(∀j,t.testBit j=true->t'.testBit j=true)->
  ∃d:Nat,c=d/\(∀f∈l,d/2^f.1.toNat%2^f.2.1.toNat=f.2.2.toNat)/\∀j,t'.testBit j=true->d.testBit j=t.testBit j:=by
 intro l;induction l with
 |nil=>
  intro t t' c _ _ h _;simp only[fQ,Prod.mk.injEq,and_true]at h;exact⟨t,h.symm,by simp,fun _ _=>rfl⟩
 |cons f r ih=>
  intro t t' c hv ha hw ht;rw[dG]at ha;by_cases c1:eG f.1 f.2.1=false
  ·rw[if_pos c1]at ha;cases ha
  rw[if_neg c1]at ha;by_cases c2:t'&&&eI f≠0
  ·rw[if_pos c2]at ha;cases ha
  rw[if_neg c2]at ha;rw[fQ]at hw;by_cases c3:2^f.2.1.toNat<=f.2.2
  ·rw[if_pos c3]at hw;simp at hw
  rw[if_neg c3]at hw;have hr:0<=f.1/\f.1<32/\1<=f.2.1/\f.2.1<=32-f.1:=by simpa[eG]using c1
  have hvf:=hv f (by simp);have hV:f.2.2.toNat<2^f.2.1.toNat:=by rw[<-bD]at c3;omega
  have hb:=qQ f hr.1 (by omega);have hV2:∀ j,(f.2.2.toNat*2 ^ f.1.toNat).testBit j=(decide (f.1.toNat<=j) && f.2.2.toNat.testBit (j - f.1.toNat)):=by
   intro j;rw[Nat.mul_comm,Nat.testBit_two_pow_mul]
  have hVn:∀i,f.2.1.toNat<=i->f.2.2.toNat.testBit i=false:=fun i hi=>Nat.testBit_lt_two_pow (Nat.lt_of_lt_of_le hV (Nat.pow_le_pow_right (by decide) hi))
  obtain⟨d,hd,h1,h2⟩:=ih (t|||f.2.2.toNat*2^f.1.toNat) (t'|||eI f) c (fun g hg=>hv g (List.mem_cons_of_mem _ hg)) ha hw (by
   intro j hj;rw[Nat.testBit_or,Bool.or_eq_true]at hj⊢;rcases hj with hj|hj
   ·exact .inl (ht j hj)
   ·right;rw[hV2]at hj;simp only[Bool.and_eq_true,decide_eq_true_eq]at hj;rw[hb];by_cases c:j<f.1.toNat+f.2.1.toNat
    ·simp[hj.1,c]
    ·rw[hVn _ (by omega)]at hj;simp at hj)
  have hc2:t'&&&eI f=0:=by simpa using c2
  refine⟨d,hd,?_,?_⟩
  ·intro g hg;rcases List.mem_cons.1 hg with rfl|hg
   ·apply Nat.eq_of_testBit_eq;intro i;rw[Nat.testBit_mod_two_pow,Nat.testBit_div_two_pow];by_cases hi:i<g.2.1.toNat
    ·have hbi:(eI g).testBit (i+g.1.toNat)=true:=by rw[hb];simp;omega
     have e:=h2 (i+g.1.toNat) (by rw[Nat.testBit_or,hbi];simp);have ht':=mN hc2 _ hbi;have htf:t.testBit (i+g.1.toNat)=false:=by
      cases hx:t.testBit (i+g.1.toNat)
      ·rfl
      ·have:=ht _ hx;rw[ht']at this;cases this
     rw[e,Nat.testBit_or,htf,hV2];simp[hi]
    ·rw[hVn i (by omega)];simp[hi]
   ·exact h1 g hg
  ·intro j hj;have e:=h2 j (by rw[Nat.testBit_or,hj];simp);rw[e,Nat.testBit_or,hV2];by_cases c:f.1.toNat<=j/\j<f.1.toNat+f.2.1.toNat
   ·have:=mN hc2 j (by rw[hb];simp[c.1,c.2]);rw[this]at hj;cases hj
   ·by_cases c':f.1.toNat<=j
    ·rw[hVn _ (by omega)];simp
    ·simp[c']
def jB (v n:Int):Int×Int:=
 if ¬(1<=n/\n<=32)then(0,1)else if 2^n.toNat<=v then(0,4)else if 2^(n.toNat-1)<=v then(v-2^n.toNat,0)else(v,0)
theorem sgn0 {v n:Int}(h:¬(1<=n/\n<=32)):jB v n=(0,1):=if_pos h
theorem sgn1 {v n:Int}(h1:1<=n)(h2:n<=32)(c:2^n.toNat<=v):jB v n=(0,4):=by unfold jB;rw[if_neg (by omega),if_pos c]
theorem sgn2 {v n:Int}(h1:1<=n)(h2:n<=32)(c:v<2^n.toNat)(d:2^(n.toNat-1)<=v):jB v n=(v-2^n.toNat,0):=by unfold jB;rw[if_neg (by omega),if_neg (by omega),if_pos d]
theorem sgn3 {v n:Int}(h1:1<=n)(h2:n<=32)(c:v<2^n.toNat)(d:v<2^(n.toNat-1)):jB v n=(v,0):=by unfold jB;rw[if_neg (by omega),if_neg (by omega),if_neg (by omega)]
def nP (v n:Int):Int×Int:=
 if ¬(1<=n/\n<=32)then(0,1)else if v< -2^(n.toNat-1)\/2^(n.toNat-1)<=v then(0,4)else(v%2^n.toNat,0)
theorem pck0 {v n:Int}(h:¬(1<=n/\n<=32)):nP v n=(0,1):=if_pos h
theorem pck1 {v n:Int}(h1:1<=n)(h2:n<=32)(c:v< -2^(n.toNat-1)\/2^(n.toNat-1)<=v):nP v n=(0,4):=by unfold nP;rw[if_neg (by omega),if_pos c]
theorem pck2 {v n:Int}(h1:1<=n)(h2:n<=32)(c : -2^(n.toNat-1)<=v)(d:v<2^(n.toNat-1)):nP v n=(v%2^n.toNat,0):=by unfold nP;rw[if_neg (by omega),if_neg (by omega)]
theorem pow_pred (n:Int)(h:1<=n):(2:Int)^n.toNat=2*2^(n.toNat-1):=by
 obtain⟨k,hk⟩:∃k,n.toNat=k+1:=⟨n.toNat-1,by omega⟩;rw[hk,Int.pow_succ];simp;omega
theorem pV (n:Int)(h:n<=62):wrap64 (2^n.toNat)=2^n.toNat:=by
 have:=kC n.toNat 62 (by omega) 4611686018427387904 (by decide);unfold wrap64;omega
theorem mod_mod_pow (v:Int)(k:Nat)(h:k<=32):v%4294967296%2^k=v%2^k:=by
 apply Int.emod_emod_of_dvd;rw[show(4294967296:Int)=2^k*2^(32-k)from by rw[<-Int.pow_add,show k+(32-k)=32 from by omega];rfl];exact Int.dvd_mul_right _ _
theorem mod_neg_pow (v p:Int)(h:v<0)(h2 : -p<=v):v%(2*p)=v+2*p:=by
 rw[<-Int.add_emod_right,Int.emod_eq_of_lt (by omega) (by omega)]
theorem pck_cases (s n:Int):(nP s n=(0,1))\/nP s n=(0,4)\/∃c,nP s n=(c,0)/\1<=n/\n<=32/\ -2^(n.toNat-1)<=s/\s<2^(n.toNat-1)/\c=s%2^n.toNat:=by
 by_cases c:1<=n/\n<=32
 ·obtain⟨c1,c2⟩:=c;by_cases d:s< -2^(n.toNat-1)\/2^(n.toNat-1)<=s
  ·exact .inr (.inl (pck1 c1 c2 d))
  ·exact .inr (.inr ⟨_,pck2 c1 c2 (by omega) (by omega),c1,c2,by omega,by omega,rfl⟩)
 ·exact .inl (pck0 c)
theorem pck_back {s n c:Int}(h:nP s n=(c,0)):jB c n=(s,0)/\0<=c/\c<4294967296:=by
 rcases pck_cases s n with e|e|⟨c',e,c1,c2,d1,d2,rfl⟩
 ·rw[e]at h;simp at h
 ·rw[e]at h;simp at h
 rw[e]at h;simp only[Prod.mk.injEq,and_true]at h;have hp:=pP n c2;have hq:=pow_pred n c1;have hb:=Int.emod_nonneg s (show(2:Int)^n.toNat≠0 by omega);have hb':=Int.emod_lt_of_pos s (show(0:Int)<2^n.toNat by omega);subst h;refine⟨?_,hb,by omega⟩;by_cases f:0<=s
 ·have e:=Int.emod_eq_of_lt f (show s<2^n.toNat by omega);rw[e,sgn3 c1 c2 (by omega) (by omega)]
 ·have e:=mod_neg_pow s (2^(n.toNat-1)) (by omega) (by omega);rw[hq,e,<-hq,sgn2 c1 c2 (by omega) (by omega)];simp
theorem gE (a n:Int)(w:World):
  Calls Tryz.prog 120 #[.int .i64 a,.int .i64 n] w (bQ (.bool (decide (0<=a/\a < 32/\1<=n/\n<=32 - a))) w):=by
 go_enter Tryz.func120,Tryz.ntmps120;go_wp2;all_goals (go_ret;refine bO ?_;first|(rw[Bool.eq_iff_iff];simp;omega)|simp;omega)
theorem Right_any (a n:Int)(w:World):
  Calls Tryz.prog 227 #[.int .i64 a,.int .i64 n] w (bQ (.bool (decide (0<=a/\a < 32/\1<=n/\n<=32 - a))) w):=by
 go_enter Tryz.func227,Tryz.ntmps227;go_wp2;all_goals (go_ret;refine bO ?_;first|(rw[Bool.eq_iff_iff];simp;omega)|simp;omega)
theorem fA (n:Int)(w:World)(h0:0<=n)(h1:n<=32):
  Calls Tryz.prog 95 #[.int .i64 n] w (bQ (.int .u32 (2^n.toNat-1)) w):=by
 go_enter Tryz.func95,Tryz.ntmps95;go_wp2;go_ret;refine bK ?_;have:=pP n h1;simp only[IntKind.wrap_u64];omega
theorem signed_any (v n:Int)(w:World)(h0:0<=v)(h1:v<4294967296):
  Calls Tryz.prog 235 #[.int .u32 v,.int .i64 n] w (bQ (two .i64 .i64 (jB v n)) w):=by
 by_cases hn:1<=n/\n<=32
 ·have hr:decide ((0:Int)<=0/\(0:Int) < 32/\1<=n/\n<=32 - 0)=true:=by simp;omega
  obtain⟨hn1,hn2⟩:=hn;have ha:=andNot_ones v n h0 h1 (by omega) (by omega);by_cases c1:(2:Int)^n.toNat<=v
  ·go_enter Tryz.func235,Tryz.ntmps235;go_wp2_with (first|(go_at_call 120;refine(gE _ _ _).mono ?_;rintro e w' ⟨rfl,rfl⟩)|(go_at_call 95;refine(fA _ _ (by omega) (by omega)).mono ?_;rintro e w' ⟨rfl,rfl⟩))
   go_ret2;exact bI (sgn1 hn1 hn2 c1)
  ·have hd:=div_eq_one v (n.toNat-1) (by rw[show n.toNat-1+1=n.toNat from by omega];omega);have hw:=pV n (by omega);have hp:=pP n hn2;go_enter Tryz.func235,Tryz.ntmps235;go_wp2_with (first|(go_at_call 120;refine(gE _ _ _).mono ?_;rintro e w' ⟨rfl,rfl⟩)|(go_at_call 95;refine(fA _ _ (by omega) (by omega)).mono ?_;rintro e w' ⟨rfl,rfl⟩))
   ·go_ret2;exact bI (sgn2 hn1 hn2 (by assumption) (by assumption))
   ·go_ret2;exact bI (sgn3 hn1 hn2 (by assumption) (by assumption))
 ·have hr:decide ((0:Int)<=0/\(0:Int) < 32/\1<=n/\n<=32 - 0)=false:=by simp;omega
  go_enter Tryz.func235,Tryz.ntmps235;go_wp2_with (first|(go_at_call 120;refine(gE _ _ _).mono ?_;rintro e w' ⟨rfl,rfl⟩))
  go_ret2;exact bI (sgn0 hn)
theorem refSigned_any (v n:Int)(w:World)(h0:0<=v)(h1:v<4294967296):
  Calls Tryz.prog 238 #[.int .u32 v,.int .i64 n] w (bQ (two .i64 .i64 (jB v n)) w):=by
 by_cases hn1:n<1
 ·go_enter Tryz.func238,Tryz.ntmps238;go_wp2;go_ret2;exact bI (sgn0 (by omega))
 by_cases hn2:32<n
 ·go_enter Tryz.func238,Tryz.ntmps238;go_wp2;go_ret2;exact bI (sgn0 (by omega))
 have hp:=pP n (by omega);by_cases c1:(2:Int)^n.toNat<=v
 ·have hs:decide (64<=n\/v < 2 ^ n.toNat)=false:=by simp;omega
  go_enter Tryz.func238,Tryz.ntmps238;go_wp2_with (first|(go_at_call 204;refine(pH _ _ _ (by omega) (by omega)).mono ?_;rintro e w' ⟨rfl,rfl⟩))
  go_ret2;exact bI (sgn1 (by omega) (by omega) c1)
 ·have hs:decide (64<=n\/v < 2 ^ n.toNat)=true:=by simp;omega
  have hd:=div_eq_one v (n.toNat-1) (by rw[show n.toNat-1+1=n.toNat from by omega];omega);have hd2:(v / 2 ^ (n.toNat - 1) % 2 == 1)=decide ((2:Int) ^ (n.toNat - 1)<=v):=by
   have:v/2^(n.toNat-1)<2:=by
    apply(Int.ediv_lt_iff_lt_mul (by have:=kB (n.toNat-1);omega)).2;have:=pow_pred n (by omega);omega
   have:0<=v/2^(n.toNat-1):=Int.ediv_nonneg h0 (by have:=kB (n.toNat-1);omega);rw[<-hd,show v/2^(n.toNat-1)%2=v/2^(n.toNat-1)from by omega]
  clear hd;have hw:=pV n (by omega);go_enter Tryz.func238,Tryz.ntmps238;go_wp2_with (first|(go_at_call 204;refine(pH _ _ _ (by omega) (by omega)).mono ?_;rintro e w' ⟨rfl,rfl⟩)|(go_at_call 187;refine(Bit_any _ _ _ (by omega) (by omega) (by omega)).mono ?_;rintro e w' ⟨rfl,rfl⟩)|(go_at_call 103;refine(eK _ _ (by omega)).mono ?_;rintro e w' ⟨rfl,rfl⟩))
  ·go_ret2;exact bI (sgn2 (by omega) (by omega) (by omega) (by assumption))
  ·go_ret2;exact bI (sgn3 (by omega) (by omega) (by omega) (by assumption))
theorem pack_any (v n:Int)(w:World)(h0 : -9223372036854775808<=v)(h1:v<=9223372036854775807):
  Calls Tryz.prog 124 #[.int .i64 v,.int .i64 n] w (bQ (two .u32 .i64 (nP v n)) w):=by
 by_cases hn:1<=n/\n<=32
 ·have hr:decide ((0:Int)<=0/\(0:Int) < 32/\1<=n/\n<=32 - 0)=true:=by simp;omega
  obtain⟨hn1,hn2⟩:=hn;have hw:=pV (n-1) (by omega);rw[show(n-1).toNat=n.toNat-1 from by omega]at hw;have hp:=kC (n.toNat-1) 31 (by omega) 2147483648 (by decide);have ha:∀x,0<=x->x<4294967296->bits BinOp.and IntKind.u32 x (2^n.toNat-1)=x%2^n.toNat:=fun x a b=>qR x n a b (by omega) hn2
  have HA:=aH ha;clear ha;go_enter Tryz.func124,Tryz.ntmps124;go_wp2_with (first|(go_at_call 120;refine(gE _ _ _).mono ?_;rintro e w' ⟨rfl,rfl⟩)|(go_at_call 95;refine(fA _ _ (by omega) (by omega)).mono ?_;rintro e w' ⟨rfl,rfl⟩))
  ·go_ret2;exact bI (pck1 hn1 hn2 (by omega))
  ·go_ret2;refine bI ?_;rw[HA.out _ (by omega) (by omega),mod_mod_pow v n.toNat (by omega)];exact pck2 hn1 hn2 (by omega) (by omega)
  ·go_ret2;exact bI (pck1 hn1 hn2 (by omega))
 ·have hr:decide ((0:Int)<=0/\(0:Int) < 32/\1<=n/\n<=32 - 0)=false:=by simp;omega
  go_enter Tryz.func124,Tryz.ntmps124;go_wp2_with (first|(go_at_call 120;refine(gE _ _ _).mono ?_;rintro e w' ⟨rfl,rfl⟩))
  go_ret2;exact bI (pck0 hn)
structure FS (w:World)(B:Nat)(a:Option Addr)(n:Nat)(l:List F3):Prop where
 len:n=l.length
 wf:∀f∈l,0<=f.2.2/\f.2.2<4294967296/\ -9223372036854775808<=f.1/\f.1<=9223372036854775807/\ -9223372036854775808<=f.2.1/\f.2.1<=9223372036854775807
 cells:l≠ []->∃b off,a=some ⟨b,off,none⟩/\b<B/\∀k (h:k<l.length),
  w.cell? ⟨b,off+k*3,none⟩=some (.int .i64 l[k].1)/\w.cell? ⟨b,off+k*3+1,none⟩=some (.int .i64 l[k].2.1)/\w.cell? ⟨b,off+k*3+2,none⟩=some (.int .u32 l[k].2.2)
theorem FS.below {w w':World}{B:Nat}{a:Option Addr}{n:Nat}{l:List F3}(h:FS w B a n l)(hb:Below B w w'):FS w' B a n l:=
 ⟨h.len,h.wf,fun hl=>by
  obtain⟨b,off,e,hB,hc⟩:=h.cells hl;refine⟨b,off,e,hB,fun k hk=>?_⟩;obtain⟨h0,h1,h2⟩:=hc k hk;exact⟨(hb.cell (p:=⟨b,off+k*3,none⟩) hB).trans h0,(hb.cell (p:=⟨b,off+k*3+1,none⟩) hB).trans h1,(hb.cell (p:=⟨b,off+k*3+2,none⟩) hB).trans h2⟩⟩
theorem pG (a:Option Addr)(n c:Nat)(l:List F3)(w:World)(hn:n<=1000000)(h:FS w w.heap.size a n l):
  Calls Tryz.prog 94 #[.slice a n c] w (aP (.bool (dG l 0)) w):=by
 go_enter Tryz.func94,Tryz.ntmps94;go_wp2;go_loopw [3,9] (fun t i wr=>∃k tk:Nat,k<=n/\i=.int .i64 k/\t=.int .u32 tk/\tk<4294967296/\dG l 0=dG (l.drop k) tk/\Below w.heap.size w wr) (fun _ i _=>n-(intOf i).toNat)
 case atStart=>exact⟨0,0,by omega,rfl,rfl,by decide,rfl,Below.refl _ _⟩
 case round=>
  obtain⟨k,tk,hk,rfl,rfl,htk,hap,hb⟩:=hrel;have hlen:=h.len;by_cases hlt:k<n
  ·obtain⟨b,off,rfl,hB,hc⟩:=(h.below hb).cells (by intro e;rw[e]at hlen;simp at hlen;omega);have hkl:k<l.length:=by omega
   obtain⟨c0,c1,c2⟩:=hc k hkl;obtain⟨v0,v1,n0,n1,m0,m1⟩:=h.wf l[k] (List.getElem_mem _);have HD:=aH (eW hkl);generalize l[k]=f at c0 c1 c2 v0 v1 HD n0 n1 m0 m1;obtain⟨A,N,V⟩:=f;have HAP:=aH hap;clear hc hlen hap h;by_cases hr:0<=A/\A<32/\1<=N/\N<=32-A
   ·have hrf:decide (0<=A/\A < 32/\1<=N/\N<=32 - A)=true:=by simpa using hr
    obtain⟨r1,r2,r3,r4⟩:=hr;go_wp2_with (first|(go_at_call 120;refine(gE _ _ _).mono ?_;rintro e w' ⟨rfl,rfl⟩))
    go_quiet ((go_at_call 95;exact Calls.quiet_of_same ((fA _ _ (by omega) (by omega)).mono fun e w' h=>⟨h.1,h.2.symm⟩)));obtain⟨B,hB1,hB2,hB3⟩:∃B:Nat,((2:Int)^N.toNat-1)*2^A.toNat%4294967296=B/\B=eI (A,N,V)/\B<4294967296:=
     ⟨_,(bitsOf_int (A,N,V) r1 (show 0<=N by omega) r4).1,rfl,(bitsOf_int (A,N,V) r1 (show 0<=N by omega) r4).2⟩
    have hand:=u32_and_nat tk B (by omega) (by omega);have hor:=aH (u32_or_nat tk B (by omega) (by omega));have H2:=aH hB2;clear hB2;by_cases hz:tk&&&B=0
    ·have hz2:(bits BinOp.and IntKind.u32 (tk:Int) (B:Int) !=0)=false:=by rw[hand,hz];rfl
     have HZ:=aH hz;have hlt':tk|||B<4294967296:=Nat.or_lt_two_pow (n:=32) htk hB3;clear hand hz;go_wp2_with fail
     go_roundw
     case rel=>exact⟨k+1,tk|||B,by omega,by go_num,by rw[hor.out],hlt',by rw[HAP.out,HD.out,dG,if_neg (by simpa[eG]using⟨r1,r2,r3,r4⟩),<-H2.out,if_neg (by rw[HZ.out];simp)],below_drewN (hb.alloc hb.size _) _⟩
     case measure=>simp[intOf];omega
    ·have hz2:(bits BinOp.and IntKind.u32 (tk:Int) (B:Int) !=0)=true:=by rw[hand];simp only[bne_iff_ne];omega
     have HZ:=aH hz;clear hand hz;go_wp2_with fail
     go_ret;refine aB ?_ (below_drewN (hb.alloc hb.size _) _);rw[HAP.out,HD.out,dG,if_neg (by simpa[eG]using⟨r1,r2,r3,r4⟩),<-H2.out,if_pos HZ.out]
   ·have hrf:decide (0<=A/\A < 32/\1<=N/\N<=32 - A)=false:=by simpa using hr
    have HR:=aH hr;clear hr;go_wp2_with (first|(go_at_call 120;refine(gE _ _ _).mono ?_;rintro e w' ⟨rfl,rfl⟩))
    go_ret;refine aB ?_ ((hb.alloc hb.size _));rw[HAP.out,HD.out,dG,if_pos];simpa[eG]using HR.out
  ·go_wp2;go_ret;refine aB ?_ hb;rw[hap,List.drop_of_length_le (by omega)];rfl
theorem word_no (a:Option Addr)(n c:Nat)(l:List F3)(w:World)(hn:n<=1000000)(h:FS w w.heap.size a n l)(hap:dG l 0=false):
  Calls Tryz.prog 66 #[.slice a n c] w (aP (two .u32 .i64 (wordS l)) w):=by
 have HA:=pG a n c l w hn h;rw[hap]at HA;have HA:=aH HA;have HP:=aH hap;clear hap;go_enter Tryz.func66,Tryz.ntmps66;go_wp2_with (go_at_call 94;refine(HA.out).mono ?_;rintro e w' ⟨rfl,hb⟩)
 go_ret2;exact⟨by unfold wordS two;rw[if_pos HP.out];rfl,hb⟩
theorem word_yes (a:Option Addr)(n c:Nat)(l:List F3)(w:World)(hn:n<=1000000)(h:FS w w.heap.size a n l)(hap:dG l 0=true):
  Calls Tryz.prog 66 #[.slice a n c] w (aP (two .u32 .i64 (fQ l 0)) w):=by
 have HA:=pG a n c l w hn h;rw[hap]at HA;have HA:=aH HA;have HP:=aH (fG l 0 hap);clear hap;go_enter Tryz.func66,Tryz.ntmps66;go_wp2_with (go_at_call 94;refine(HA.out).mono ?_;rintro e w' ⟨rfl,hb⟩)
 go_loopw [4,12] (fun t i wr=>∃k tk:Nat,k<=n/\i=.int .i64 k/\t=.int .u32 tk/\tk<4294967296/\fQ l 0=fQ (l.drop k) tk/\Below w.heap.size w wr) (fun _ i _=>n-(intOf i).toNat)
 case atStart=>exact⟨0,0,by omega,rfl,rfl,by decide,rfl,hb⟩
 case round=>
  clear hb;obtain⟨k,tk,hk,rfl,rfl,htk,hap,hb⟩:=hrel;have hlen:=h.len;by_cases hlt:k<n
  ·obtain⟨b,off,rfl,hB,hc⟩:=(h.below hb).cells (by intro e;rw[e]at hlen;simp at hlen;omega);have hkl:k<l.length:=by omega
   obtain⟨c0,c1,c2⟩:=hc k hkl;obtain⟨v0,v1,-⟩:=h.wf l[k] (List.getElem_mem _);have HD:=aH (eW hkl);have hr:=HP.out l[k] (List.getElem_mem _);generalize l[k]=f at c0 c1 c2 v0 v1 HD hr;obtain⟨A,N,V⟩:=f;obtain⟨r1,r2,r3,r4⟩:=(show 0<=A/\A<32/\1<=N/\N<=32-A from of_decide_eq_true hr);replace v0:0<=V:=v0;replace v1:V<4294967296:=v1;have HAP:=aH hap;have ha:=andNot_ones V N v0 v1 (by omega) (by omega);clear hc hlen hap h hr;by_cases hr:(2:Int)^N.toNat<=V
   ·have ha':(bits BinOp.andNot IntKind.u32 V (2^N.toNat-1) !=0)=true:=by rw[ha];simpa using hr
    have HR:=aH hr;clear ha hr;go_wp2_with fail
    go_quiet ((go_at_call 95;exact Calls.quiet_of_same ((fA _ _ (by omega) (by omega)).mono fun e w' h=>⟨h.1,h.2.symm⟩)));go_wp2_with fail
    go_ret2;refine⟨?_,below_drewN (hb.alloc hb.size _) _⟩;rw[HAP.out,HD.out,fQ,if_pos HR.out];rfl
   ·have ha':(bits BinOp.andNot IntKind.u32 V (2^N.toNat-1) !=0)=false:=by rw[ha];simpa using hr
    obtain⟨hs,hs2⟩:=shl_int V A N r1 r3 r4 v0 (by omega);obtain⟨B,hB1,hB2,hB3⟩:∃B:Nat,V*2^A.toNat%4294967296=B/\B=V.toNat*2^A.toNat/\B<4294967296:=⟨_,hs,rfl,hs2⟩;have HR:=aH hr;have H2:=aH hB2;have hor:=aH (u32_or_nat tk B (by omega) (by omega));have hlt':tk|||B<4294967296:=Nat.or_lt_two_pow (n:=32) htk hB3;clear ha hr hB2 hs hs2;go_wp2_with fail
    go_quiet ((go_at_call 95;exact Calls.quiet_of_same ((fA _ _ (by omega) (by omega)).mono fun e w' h=>⟨h.1,h.2.symm⟩)));go_wp2_with fail
    go_roundw
    case rel=>exact⟨k+1,tk|||B,by omega,by go_num,by rw[hor.out],hlt',by rw[HAP.out,HD.out,fQ,if_neg (by have:=HR.out;show¬(2:Int)^N.toNat<=V;omega),H2.out],below_drewN (hb.alloc hb.size _) _⟩
    case measure=>simp[intOf];omega
  ·go_wp2;go_ret2;refine⟨?_,hb⟩;rw[hap,List.drop_of_length_le (by omega)];rfl
theorem word_any (a:Option Addr)(n c:Nat)(l:List F3)(w:World)(hn:n<=1000000)(h:FS w w.heap.size a n l):
  Calls Tryz.prog 66 #[.slice a n c] w (aP (two .u32 .i64 (wordS l)) w):=by
 cases hap:dG l 0
 ·exact word_no a n c l w hn h hap
 ·have:=word_yes a n c l w hn h hap;unfold wordS;rw[if_neg (by simp[hap])];exact this
theorem field_any (v a n:Int)(w:World)(h0:0<=v)(h1:v<4294967296):
  Calls Tryz.prog 233 #[.int .u32 v,.int .i64 a,.int .i64 n] w (kP (two .u32 .i64 (kJ v a n)) w):=by
 by_cases h:0<=a/\a<32/\1<=n/\n<=32-a
 ·have hr:decide (0<=a/\a < 32/\1<=n/\n<=32 - a)=true:=by simpa using h
  obtain⟨r1,r2,r3,r4⟩:=h;have hp:=pP a (by omega);have hq0:0<=v/2^a.toNat:=Int.ediv_nonneg h0 (by omega);have hq1:v/2^a.toNat<=v:=Int.ediv_le_self _ h0;have ha:=qR (v/2^a.toNat) n hq0 (by omega) (by omega) (by omega);have hf:kJ v a n=(v/2^a.toNat%2^n.toNat,0):=by unfold kJ eG;rw[hr];rfl
  have HF:=aH hf;clear hf;go_enter Tryz.func233,Tryz.ntmps233;go_wp2_with (first|(go_at_call 120;refine(gE _ _ _).mono ?_;rintro e w' ⟨rfl,rfl⟩)|(go_at_call 95;refine(fA _ _ (by omega) (by omega)).mono ?_;rintro e w' ⟨rfl,rfl⟩))
  go_quiet ((go_at_call 95;exact Calls.quiet_of_same ((fA _ _ (by omega) (by omega)).mono fun e w' h=>⟨h.1,h.2.symm⟩)));go_wp2;go_ret2;exact rN HF.out _
 ·have hr:decide (0<=a/\a < 32/\1<=n/\n<=32 - a)=false:=by simpa using h
  have hf:kJ v a n=(0,1):=by unfold kJ eG;rw[hr];rfl
  have HF:=aH hf;clear hf h;go_enter Tryz.func233,Tryz.ntmps233;go_wp2_with (first|(go_at_call 120;refine(gE _ _ _).mono ?_;rintro e w' ⟨rfl,rfl⟩))
  go_ret2;exact rN HF.out 0
theorem FS.up {w:World}{B:Nat}{a:Option Addr}{n:Nat}{l:List F3}(h:FS w B a n l){B':Nat}(hB:B<=B'):FS w B' a n l:=
 ⟨h.len,h.wf,fun hl=>by obtain⟨b,off,e,h1,h2⟩:=h.cells hl;exact⟨b,off,e,by omega,h2⟩⟩
theorem FS.next {w w':World}{a:Option Addr}{n:Nat}{l:List F3}(h:FS w w.heap.size a n l)(hb:Below w.heap.size w w'):FS w' w'.heap.size a n l:=
 (h.below hb).up hb.size
def baL:List Nat:=[0,3531603968,2457862144,4068474880,2432696320,3506438144,2969567232,4043309056,2449473536,2986344448,3523215360,4060086272,2332033024,3405774848,2868903936,3942645760,2315255808,2852126720,3388997632,3925868544,2600468480,2600501248,4181721088,4177526784,960495616,956301312,1476395008,268435456,2415919104,335544320,2483027968,1409286144,3019898880,3036676096,3592355840,3594452992,3596550144,3556769793,3573751839,2592079872]
def loL:List Nat:=[0,8388607,8388607,8388607,14680063,14680063,2064383,4194303,4194303,16777215,1627389951,67108863,16777199,992,2097120,0,2094079]
def baN (o:Int):Nat:=baL.getD o.toNat 0
def loN (s:Nat):Nat:=loL.getD s 0
def fw (w a n:Nat):Int:=((w/2^a%2^n:Nat):Int)
def cJ (s:Nat)(i:In):List F3:=match s with
 |1=>[(0,5,i.d),(5,16,i.imm),(21,2,(i.amount.tdiv 16))]
 |2=>[(0,5,i.d),(5,5,i.n),(10,12,i.imm),(22,1,(i.amount.tdiv 12))]
 |3=>[(0,5,i.d),(5,5,i.n),(10,6,(encS i.mask.toNat).2.2.1),(16,6,(encS i.mask.toNat).2.1),(22,1,(encS i.mask.toNat).1)]
 |4=>[(0,5,i.d),(5,5,i.n),(10,6,i.amount),(16,5,i.m),(22,2,i.shift)]
 |5=>[(0,5,i.d),(5,5,i.n),(10,6,i.amount),(16,5,i.m),(22,2,i.shift)]
 |6=>[(0,5,i.d),(5,5,i.n),(10,5,i.a),(16,5,i.m)]
 |7=>[(0,5,i.d),(5,5,i.n),(10,12,(i.imm.tdiv 8))]
 |8=>[(0,5,i.d),(5,5,i.n),(10,12,i.imm)]
 |9=>[(0,5,i.d),(5,19,(nP (i.imm.tdiv 4) 19).1)]
 |10=>[(0,5,i.d),(5,19,((nP i.imm 21).1/4)),(29,2,((nP i.imm 21).1%4))]
 |11=>[(0,26,(nP (i.imm.tdiv 4) 26).1)]
 |12=>[(0,4,i.cond),(5,19,(nP (i.imm.tdiv 4) 19).1)]
 |13=>[(5,5,i.n)]
 |14=>[(5,16,i.imm)]
 |15=>[]
 |16=>[(0,5,i.d),(5,5,i.n),(12,4,i.cond),(16,5,i.m)]
 |_=>[]
def cH (o:Int)(s w:Nat):In:=match s with
 |1=>⟨o,(fw w 0 5),0,0,0,(fw w 5 16),0,0,(16*(fw w 21 2)),0⟩
 |2=>⟨o,(fw w 0 5),(fw w 5 5),0,0,(fw w 10 12),0,0,(12*(fw w 22 1)),0⟩
 |3=>⟨o,(fw w 0 5),(fw w 5 5),0,0,0,(decS (fw w 22 1) (fw w 16 6) (fw w 10 6)).1,0,0,0⟩
 |4=>⟨o,(fw w 0 5),(fw w 5 5),(fw w 16 5),0,0,0,(fw w 22 2),(fw w 10 6),0⟩
 |5=>⟨o,(fw w 0 5),(fw w 5 5),(fw w 16 5),0,0,0,(fw w 22 2),(fw w 10 6),0⟩
 |6=>⟨o,(fw w 0 5),(fw w 5 5),(fw w 16 5),(fw w 10 5),0,0,0,0,0⟩
 |7=>⟨o,(fw w 0 5),(fw w 5 5),0,0,(8*(fw w 10 12)),0,0,0,0⟩
 |8=>⟨o,(fw w 0 5),(fw w 5 5),0,0,(fw w 10 12),0,0,0,0⟩
 |9=>⟨o,(fw w 0 5),0,0,0,(4*(jB (fw w 5 19) 19).1),0,0,0,0⟩
 |10=>⟨o,(fw w 0 5),0,0,0,(4*(jB (fw w 5 19) 19).1+(fw w 29 2)),0,0,0,0⟩
 |11=>⟨o,0,0,0,0,(4*(jB (fw w 0 26) 26).1),0,0,0,0⟩
 |12=>⟨o,0,0,0,0,(4*(jB (fw w 5 19) 19).1),0,0,0,(fw w 0 4)⟩
 |13=>⟨o,0,(fw w 5 5),0,0,0,0,0,0,0⟩
 |14=>⟨o,0,0,0,0,(fw w 5 16),0,0,0,0⟩
 |15=>⟨o,0,0,0,0,0,0,0,0,0⟩
 |16=>⟨o,(fw w 0 5),(fw w 5 5),(fw w 16 5),0,0,0,0,0,(fw w 12 4)⟩
 |_=>⟨o,0,0,0,0,0,0,0,0,0⟩
def encW (i:In):Nat:=(fQ (cJ (aF i.op).toNat i) (baN i.op)).1.toNat
def mF (l:List F3):Prop:=∀f∈l,0<=f.2.2/\f.2.2<2^f.2.1.toNat
theorem wordL_ok:∀(l:List F3)(t:Nat),mF l->∃d:Nat,fQ l t=((d:Int),0):=by
 intro l;induction l with
 |nil=>intro t _;exact⟨t,rfl⟩
 |cons f r ih=>
  intro t h;obtain⟨d,hd⟩:=ih (t|||f.2.2.toNat*2^f.1.toNat) (fun g hg=>h g (List.mem_cons_of_mem _ hg));refine⟨d,?_⟩;have:=(h f (by simp)).2;rw[fQ,if_neg (by omega),hd]
theorem wordL_or:∀ (l:List F3) (t b:Nat) (d:Nat),fQ l t=((d:Int),0)->fQ l (b ||| t)=(((b ||| d:Nat):Int),0):=by
 intro l
 induction l with
 | nil=>intro t b d h;simp only [fQ,Prod.mk.injEq,and_true] at h ⊢;have:t=d:=(by omega);rw [this]
 | cons f r ih=>
  intro t b d h
  rw [fQ] at h ⊢
  by_cases c:2 ^ f.2.1.toNat<=f.2.2
  ·rw [if_pos c] at h;simp at h
  ·rw [if_neg c] at h ⊢
   rw [Nat.or_assoc]
   exact ih _ _ _ h
theorem wordL_lt2:∀(l:List F3)(t:Nat)(d:Nat),(∀f∈l,eG f.1 f.2.1=true)->mF l->t<4294967296->fQ l t=((d:Int),0)->d<4294967296:=by
 intro l;induction l with
 |nil=>intro t d _ _ ht h;simp only[fQ,Prod.mk.injEq,and_true]at h;omega
 |cons f r ih=>
  intro t d hr hk ht h;have hf:=hk f (by simp);have hrf:=hr f (by simp);simp only[eG,decide_eq_true_eq]at hrf;rw[fQ,if_neg (by omega)]at h;have hs:=(shl_int f.2.2 f.1 f.2.1 hrf.1 hrf.2.2.1 hrf.2.2.2 hf.1 hf.2).2;exact ih _ _ (fun g hg=>hr g (List.mem_cons_of_mem _ hg)) (fun g hg=>hk g (List.mem_cons_of_mem _ hg)) (Nat.or_lt_two_pow (n:=32) ht hs) h
theorem enc_gen (l:List F3)(b t:Nat)(hk:mF l)(ha:dG l t=true)(hb:b&&&t=b)(hb2:b<4294967296):
  ∃d:Nat,fQ l b=((d:Int),0)/\d<4294967296/\(∀f∈l,d/2^f.1.toNat%2^f.2.1.toNat=f.2.2.toNat)/\d&&&t=b:=by
 obtain⟨d,hd⟩:=wordL_ok l b hk;have hsub:∀j,b.testBit j=true->t.testBit j=true:=by
  intro j hj;rw[<-hb,Nat.testBit_and,Bool.and_eq_true]at hj;exact hj.2
 obtain⟨d',hd',h1,h2⟩:=word_fields l b t (d:Int) (fun f hf=>(hk f hf).1) ha hd hsub;obtain rfl:d=d':=by omega
 refine⟨d,hd,wordL_lt2 l b d (fG l t ha) hk hb2 hd,h1,?_⟩;apply Nat.eq_of_testBit_eq;intro j;rw[Nat.testBit_and];cases hj:t.testBit j
 ·rw[Bool.and_false];cases hb':b.testBit j
  ·rfl
  ·rw[hsub j hb']at hj;cases hj
 ·rw[Bool.and_true];exact h2 j hj
def lA:List F3->Nat
 | []=>0
 |f :: r=>eI f|||lA r
theorem orAll_bit:∀(l:List F3)(j:Nat),(lA l).testBit j=true->∃f∈l,(eI f).testBit j=true:=by
 intro l;induction l with
 |nil=>intro j h;simp[lA]at h
 |cons f r ih=>
  intro j h;rw[lA,Nat.testBit_or,Bool.or_eq_true]at h;rcases h with h|h
  ·exact⟨f,by simp,h⟩
  ·obtain⟨g,hg,h2⟩:=ih j h;exact⟨g,List.mem_cons_of_mem _ hg,h2⟩
theorem word_ext (l:List F3)(t d w:Nat)(hr:∀f∈l,eG f.1 f.2.1=true)(hc:lA l|||t=4294967295)(hd:d<4294967296)(hw:w<4294967296)(h1:∀f∈l,d/2^f.1.toNat%2^f.2.1.toNat=w/2^f.1.toNat%2^f.2.1.toNat)(h2:d&&&t=w&&&t):d=w:=by
 apply Nat.eq_of_testBit_eq;intro j;by_cases hj:j<32
 ·have hb:(lA l|||t).testBit j=true:=by rw[hc,show(4294967295:Nat)=2^32-1 from rfl,Nat.testBit_two_pow_sub_one];simpa using hj
  rw[Nat.testBit_or,Bool.or_eq_true]at hb;rcases hb with hb|hb
  ·obtain⟨f,hf,hfb⟩:=orAll_bit l j hb;have hrf:=hr f hf;simp only[eG,decide_eq_true_eq]at hrf;rw[qQ f hrf.1 (by omega),Bool.and_eq_true,decide_eq_true_eq,decide_eq_true_eq]at hfb;have e:=congrArg (fun z=>z.testBit (j-f.1.toNat)) (h1 f hf);simp only[Nat.testBit_mod_two_pow,Nat.testBit_div_two_pow]at e;rw[show j-f.1.toNat+f.1.toNat=j from by omega,decide_eq_true (by omega),Bool.true_and,Bool.true_and]at e;exact e
  ·have e:=congrArg (fun z=>z.testBit j) h2;simp only[Nat.testBit_and,hb,Bool.and_true]at e;exact e
 ·have hp:4294967296<=2^j:=Nat.pow_le_pow_right (n:=2) (by decide) (show 32<=j by omega);rw[Nat.testBit_lt_two_pow (Nat.lt_of_lt_of_le hd hp),Nat.testBit_lt_two_pow (Nat.lt_of_lt_of_le hw hp)]
abbrev fJ (s:Nat):Nat:=4294967295-loN s
theorem base_in:∀o:Fin 40,baN o.val&&&fJ (aF o.val).toNat=baN o.val/\baN o.val<4294967296:=by decide+kernel
theorem apart_ops:∀a b:Fin 40,a.val=0\/b.val=0\/a=b\/(baN a.val&&&fJ (aF a.val).toNat&&&fJ (aF b.val).toNat)≠(baN b.val&&&fJ (aF a.val).toNat&&&fJ (aF b.val).toNat):=by decide+kernel
def kH (o:Nat)(w:Nat):Bool:=w&&&fJ (aF o).toNat==baN o
theorem isOp_uniq {a b w:Nat}(ha:1<=a)(ha2:a<40)(hb:1<=b)(hb2:b<40)(h1:kH a w=true)(h2:kH b w=true):a=b:=by
 unfold kH at h1 h2;rw[beq_iff_eq]at h1 h2;rcases apart_ops ⟨a,ha2⟩ ⟨b,hb2⟩with h|h|h|h
 ·simp only[]at h;omega
 ·simp only[]at h;omega
 ·exact Fin.mk.inj h
 ·exfalso;apply h;simp only[];have ia:=(base_in ⟨a,ha2⟩).1;have ib:=(base_in ⟨b,hb2⟩).1;simp only[]at ia ib;rw[<-h1,<-h2];apply Nat.eq_of_testBit_eq;intro j;simp only[Nat.testBit_and];cases w.testBit j<;>cases(fJ (aF a).toNat).testBit j<;>cases(fJ (aF b).toNat).testBit j<;>rfl
theorem bB (w a n:Nat):0<=fw w a n/\fw w a n<2^n:=by
 unfold fw;have h:w/2^a%2^n<2^n:=Nat.mod_lt _ (Nat.two_pow_pos n);refine⟨by omega,?_⟩;have:=Int.ofNat_lt.2 h;rwa[bD]at this
theorem pck_in {v:Int}{n:Nat}(h1:1<=n)(h2:n<=32)(c : -2^(n-1)<=v)(d:v<2^(n-1)):nP v n=(v%2^n,0):=by
 have:=pck2 (v:=v) (n:=(n:Int)) (by omega) (by omega) (by simpa using c) (by simpa using d);simpa using this
theorem pck_b {v:Int}{n:Nat}(h1:1<=n)(h2:n<=32)(c : -2^(n-1)<=v)(d:v<2^(n-1)):0<=(nP v n).1/\(nP v n).1<2^n/\(jB (nP v n).1 n).1=v:=by
 have e:=pck_in h1 h2 c d;have b:=pck_back e;rw[e];simp only[];have hp:(0:Int)<2^n:=by have:=kB n;omega
 exact⟨Int.emod_nonneg _ (by omega),Int.emod_lt_of_pos _ hp,by rw[b.1]⟩
theorem fZ {i:In}{s:Nat}(h:fM i=true)(hs:aF i.op=s):cY s i=i/\bU i=true/\dD s i=true:=by
 unfold fM at h;rw[hs]at h;simp only[Bool.and_eq_true]at h;refine⟨?_,h.1.2,h.2⟩;have:=h.1.1.2;unfold bS at this;simp only[Bool.and_eq_true,beq_iff_eq]at this;obtain⟨⟨⟨⟨⟨⟨⟨⟨⟨e0,e1⟩,e2⟩,e3⟩,e4⟩,e5⟩,e6⟩,e7⟩,e8⟩,e9⟩:=this;cases i
 simp only[cY,In.mk.injEq]at*
 exact⟨trivial,e1.symm,e2.symm,e3.symm,e4.symm,e5.symm,e6.symm,e7.symm,e8.symm,e9.symm⟩
theorem facts1 {o d n m a x k h t c:Int}(hs:aF o=1)(hI:fM ⟨o,d,n,m,a,x,k,h,t,c⟩=true):(n=0/\m=0/\a=0/\k=0/\h=0/\c=0/\0<=d/\d<=31)/\(0<=x/\x<=65535/\0<=t/\t<=48/\t.tmod 16=0):=by
 obtain⟨h1,h2,h3⟩:=fZ (s:=1) hI hs;simp only[cY,In.mk.injEq]at h1;simp[eS,cG,cE,cF]at h1;simp only[bU,decide_eq_true_eq]at h2;simp[dD,aU,Bool.and_eq_true,decide_eq_true_eq]at h3;grind
theorem facts2 {o d n m a x k h t c:Int}(hs:aF o=2)(hI:fM ⟨o,d,n,m,a,x,k,h,t,c⟩=true):(m=0/\a=0/\k=0/\h=0/\c=0/\0<=d/\d<=31/\0<=n/\n<=31)/\(0<=x/\x<=4095/\0<=t/\t<=12/\t.tmod 12=0):=by
 obtain⟨h1,h2,h3⟩:=fZ (s:=2) hI hs;simp only[cY,In.mk.injEq]at h1;simp[eS,cG,cE,cF]at h1;simp only[bU,decide_eq_true_eq]at h2;simp[dD,aU,Bool.and_eq_true,decide_eq_true_eq]at h3;grind
theorem facts3 {o d n m a x k h t c:Int}(hs:aF o=3)(hI:fM ⟨o,d,n,m,a,x,k,h,t,c⟩=true):(m=0/\a=0/\x=0/\h=0/\t=0/\c=0/\0<=d/\d<=31/\0<=n/\n<=31)/\(isS k.toNat=true):=by
 obtain⟨h1,h2,h3⟩:=fZ (s:=3) hI hs;simp only[cY,In.mk.injEq]at h1;simp[eS,cG,cE,cF]at h1;simp only[bU,decide_eq_true_eq]at h2;simp[dD,aU,Bool.and_eq_true,decide_eq_true_eq]at h3;grind
theorem facts4 {o d n m a x k h t c:Int}(hs:aF o=4)(hI:fM ⟨o,d,n,m,a,x,k,h,t,c⟩=true):(a=0/\x=0/\k=0/\c=0/\0<=d/\d<=31/\0<=n/\n<=31/\0<=m/\m<=31)/\(0<=h/\h<=2/\0<=t/\t<=63):=by
 obtain⟨h1,h2,h3⟩:=fZ (s:=4) hI hs;simp only[cY,In.mk.injEq]at h1;simp[eS,cG,cE,cF]at h1;simp only[bU,decide_eq_true_eq]at h2;simp[dD,aU,Bool.and_eq_true,decide_eq_true_eq]at h3;grind
theorem facts5 {o d n m a x k h t c:Int}(hs:aF o=5)(hI:fM ⟨o,d,n,m,a,x,k,h,t,c⟩=true):(a=0/\x=0/\k=0/\c=0/\0<=d/\d<=31/\0<=n/\n<=31/\0<=m/\m<=31)/\(0<=h/\h<=3/\0<=t/\t<=63):=by
 obtain⟨h1,h2,h3⟩:=fZ (s:=5) hI hs;simp only[cY,In.mk.injEq]at h1;simp[eS,cG,cE,cF]at h1;simp only[bU,decide_eq_true_eq]at h2;simp[dD,aU,Bool.and_eq_true,decide_eq_true_eq]at h3;grind
theorem facts6 {o d n m a x k h t c:Int}(hs:aF o=6)(hI:fM ⟨o,d,n,m,a,x,k,h,t,c⟩=true):(x=0/\k=0/\h=0/\t=0/\c=0/\0<=d/\d<=31/\0<=n/\n<=31/\0<=m/\m<=31/\0<=a/\a<=31)/\(True):=by
 obtain⟨h1,h2,h3⟩:=fZ (s:=6) hI hs;simp only[cY,In.mk.injEq]at h1;simp[eS,cG,cE,cF]at h1;simp only[bU,decide_eq_true_eq]at h2;simp[dD,aU,Bool.and_eq_true,decide_eq_true_eq]at h3;grind
theorem facts7 {o d n m a x k h t c:Int}(hs:aF o=7)(hI:fM ⟨o,d,n,m,a,x,k,h,t,c⟩=true):(m=0/\a=0/\k=0/\h=0/\t=0/\c=0/\0<=d/\d<=31/\0<=n/\n<=31)/\(0<=x/\x<=32760/\x.tmod 8=0):=by
 obtain⟨h1,h2,h3⟩:=fZ (s:=7) hI hs;simp only[cY,In.mk.injEq]at h1;simp[eS,cG,cE,cF]at h1;simp only[bU,decide_eq_true_eq]at h2;simp[dD,aU,Bool.and_eq_true,decide_eq_true_eq]at h3;grind
theorem facts8 {o d n m a x k h t c:Int}(hs:aF o=8)(hI:fM ⟨o,d,n,m,a,x,k,h,t,c⟩=true):(m=0/\a=0/\k=0/\h=0/\t=0/\c=0/\0<=d/\d<=31/\0<=n/\n<=31)/\(0<=x/\x<=4095):=by
 obtain⟨h1,h2,h3⟩:=fZ (s:=8) hI hs;simp only[cY,In.mk.injEq]at h1;simp[eS,cG,cE,cF]at h1;simp only[bU,decide_eq_true_eq]at h2;simp[dD,aU,Bool.and_eq_true,decide_eq_true_eq]at h3;grind
theorem facts9 {o d n m a x k h t c:Int}(hs:aF o=9)(hI:fM ⟨o,d,n,m,a,x,k,h,t,c⟩=true):(n=0/\m=0/\a=0/\k=0/\h=0/\t=0/\c=0/\0<=d/\d<=31)/\(-1048576<=x/\x<=1048572/\x.tmod 4=0):=by
 obtain⟨h1,h2,h3⟩:=fZ (s:=9) hI hs;simp only[cY,In.mk.injEq]at h1;simp[eS,cG,cE,cF]at h1;simp only[bU,decide_eq_true_eq]at h2;simp[dD,aU,Bool.and_eq_true,decide_eq_true_eq]at h3;grind
theorem facts10 {o d n m a x k h t c:Int}(hs:aF o=10)(hI:fM ⟨o,d,n,m,a,x,k,h,t,c⟩=true):(n=0/\m=0/\a=0/\k=0/\h=0/\t=0/\c=0/\0<=d/\d<=31)/\(-1048576<=x/\x<=1048575):=by
 obtain⟨h1,h2,h3⟩:=fZ (s:=10) hI hs;simp only[cY,In.mk.injEq]at h1;simp[eS,cG,cE,cF]at h1;simp only[bU,decide_eq_true_eq]at h2;simp[dD,aU,Bool.and_eq_true,decide_eq_true_eq]at h3;grind
theorem facts11 {o d n m a x k h t c:Int}(hs:aF o=11)(hI:fM ⟨o,d,n,m,a,x,k,h,t,c⟩=true):(d=0/\n=0/\m=0/\a=0/\k=0/\h=0/\t=0/\c=0)/\(-134217728<=x/\x<=134217724/\x.tmod 4=0):=by
 obtain⟨h1,h2,h3⟩:=fZ (s:=11) hI hs;simp only[cY,In.mk.injEq]at h1;simp[eS,cG,cE,cF]at h1;simp only[bU,decide_eq_true_eq]at h2;simp[dD,aU,Bool.and_eq_true,decide_eq_true_eq]at h3;grind
theorem facts12 {o d n m a x k h t c:Int}(hs:aF o=12)(hI:fM ⟨o,d,n,m,a,x,k,h,t,c⟩=true):(d=0/\n=0/\m=0/\a=0/\k=0/\h=0/\t=0)/\(-1048576<=x/\x<=1048572/\x.tmod 4=0/\0<=c/\c<=13):=by
 obtain⟨h1,h2,h3⟩:=fZ (s:=12) hI hs;simp only[cY,In.mk.injEq]at h1;simp[eS,cG,cE,cF]at h1;simp only[bU,decide_eq_true_eq]at h2;simp[dD,aU,Bool.and_eq_true,decide_eq_true_eq]at h3;grind
theorem facts13 {o d n m a x k h t c:Int}(hs:aF o=13)(hI:fM ⟨o,d,n,m,a,x,k,h,t,c⟩=true):(d=0/\m=0/\a=0/\x=0/\k=0/\h=0/\t=0/\c=0/\0<=n/\n<=31)/\(True):=by
 obtain⟨h1,h2,h3⟩:=fZ (s:=13) hI hs;simp only[cY,In.mk.injEq]at h1;simp[eS,cG,cE,cF]at h1;simp only[bU,decide_eq_true_eq]at h2;simp[dD,aU,Bool.and_eq_true,decide_eq_true_eq]at h3;grind
theorem facts14 {o d n m a x k h t c:Int}(hs:aF o=14)(hI:fM ⟨o,d,n,m,a,x,k,h,t,c⟩=true):(d=0/\n=0/\m=0/\a=0/\k=0/\h=0/\t=0/\c=0)/\(0<=x/\x<=65535):=by
 obtain⟨h1,h2,h3⟩:=fZ (s:=14) hI hs;simp only[cY,In.mk.injEq]at h1;simp[eS,cG,cE,cF]at h1;simp only[bU,decide_eq_true_eq]at h2;simp[dD,aU,Bool.and_eq_true,decide_eq_true_eq]at h3;grind
theorem facts15 {o d n m a x k h t c:Int}(hs:aF o=15)(hI:fM ⟨o,d,n,m,a,x,k,h,t,c⟩=true):(d=0/\n=0/\m=0/\a=0/\x=0/\k=0/\h=0/\t=0/\c=0)/\(True):=by
 obtain⟨h1,h2,h3⟩:=fZ (s:=15) hI hs;simp only[cY,In.mk.injEq]at h1;simp[eS,cG,cE,cF]at h1;simp only[bU,decide_eq_true_eq]at h2;simp[dD,aU,Bool.and_eq_true,decide_eq_true_eq]at h3;grind
theorem facts16 {o d n m a x k h t c:Int}(hs:aF o=16)(hI:fM ⟨o,d,n,m,a,x,k,h,t,c⟩=true):(a=0/\x=0/\k=0/\h=0/\t=0/\0<=d/\d<=31/\0<=n/\n<=31/\0<=m/\m<=31)/\(0<=c/\c<=13):=by
 obtain⟨h1,h2,h3⟩:=fZ (s:=16) hI hs;simp only[cY,In.mk.injEq]at h1;simp[eS,cG,cE,cF]at h1;simp only[bU,decide_eq_true_eq]at h2;simp[dD,aU,Bool.and_eq_true,decide_eq_true_eq]at h3;grind
theorem cT {w a n:Nat}{v:Int}(h:w/2^a%2^n=v.toNat)(hv:0<=v):fw w a n=v:=by unfold fw;omega
theorem of_fw (w a n:Nat):w/2^a%2^n=(fw w a n).toNat:=by unfold fw;omega
theorem pB (y z:Int)(hz:z≠0):(z*y).tdiv z=y:=Int.mul_tdiv_cancel_left _ hz
theorem enc_pat {k:Nat}(hI:isS k=true)(hk:k<18446744073709551616):∃a b c:Int,encS k=(a,b,c,0)/\0<=a/\a<=1/\0<=b/\b<=63/\0<=c/\c<=63/\decS a b c=((k:Int),0):=by
 rcases pat_or k hk with⟨p,r,s,h⟩|h
 ·refine⟨_,_,_,h.encS,?_,?_,?_,?_,?_,?_,h.decS⟩;all_goals
   have h1:=h.one;have h2:=h.less;have h3:=h.turn;rcases h.size with e|e|e|e|e|e<;>subst e<;>simp[dB,bX]<;>omega
 ·rw[isS_none hk h]at hI;cases hI
theorem dec_err {n r s:Int}:(∃a,decS n r s=(a,0))\/(decS n r s).1=0/\(decS n r s).2≠0:=by
 unfold decS;split
 ·right;simp
 ·split
  ·right;simp
  ·left;exact⟨_,rfl⟩
theorem dec_enc {n r s:Int}(h:isS (decS n r s).1.toNat=true):encS (decS n r s).1.toNat=(n,r,s,0)/\decS n r s=((decS n r s).1,0):=by
 rcases @dec_err n r s with⟨a,e⟩|⟨e,-⟩
 ·obtain⟨k,r',s',hp,h0,rfl,rfl,rfl⟩:=dec_pat e;rw[e];exact⟨hp.encS,rfl⟩
 ·rw[e]at h;exact absurd h (by decide+kernel)
theorem dec_lt {n r s a:Int}(h:decS n r s=(a,0)):0<=a/\a<18446744073709551616:=by
 obtain⟨k,r',s',hp,h0,-⟩:=dec_pat h;have:=hp.lt;omega
theorem sgn21 {a b:Int}(ha:0<=a)(ha2:a<524288)(hb:0<=b)(hb2:b<4):4*(jB a 19).1+b=(jB (4*a+b) 21).1:=by
 unfold jB;simp only[Int.reduceToNat,Nat.reduceSub,Int.reducePow];repeat' split
 all_goals (try simp only[])
 all_goals omega
theorem rR {v:Int}{n:Nat}(h1:1<=n)(h2:n<=32)(c : -2^(n-1)<=v)(d:v<2^(n-1)):0<=(nP v n).1/\(nP v n).1<2^n/\(jB (nP v n).1 n).1=v:=pck_b h1 h2 c d
theorem enc1 {o d n m a x k h t c:Int}(hs:aF o=1)(hI:fM ⟨o,d,n,m,a,x,k,h,t,c⟩=true):
  mF (cJ 1 ⟨o,d,n,m,a,x,k,h,t,c⟩)/\∀w:Nat,(∀f∈cJ 1 ⟨o,d,n,m,a,x,k,h,t,c⟩,w/2^f.1.toNat%2^f.2.1.toNat=f.2.2.toNat)->cH o 1 w=⟨o,d,n,m,a,x,k,h,t,c⟩:=by
 have hf:=facts1 hs hI;obtain⟨y,rfl⟩:∃y,t=16*y:=Int.dvd_of_tmod_eq_zero (by simp only[hf]);simp only[cJ,pB _ 16 (by decide)];simp only[mF,List.mem_cons,List.mem_nil_iff,or_false,forall_eq_or_imp,forall_eq,Int.reduceToNat,Int.reducePow,false_imp_iff,implies_true,imp_self];refine⟨by first|trivial|omega,fun w hw=>?_⟩;obtain⟨q0,q1,q2⟩:=hw;have q0:=cT (a:=0) (n:=5) q0 (by omega);have q1:=cT (a:=5) (n:=16) q1 (by omega);have q2:=cT (a:=21) (n:=2) q2 (by omega);simp only[cH,q0,q1,q2];grind
theorem enc2 {o d n m a x k h t c:Int}(hs:aF o=2)(hI:fM ⟨o,d,n,m,a,x,k,h,t,c⟩=true):
  mF (cJ 2 ⟨o,d,n,m,a,x,k,h,t,c⟩)/\∀w:Nat,(∀f∈cJ 2 ⟨o,d,n,m,a,x,k,h,t,c⟩,w/2^f.1.toNat%2^f.2.1.toNat=f.2.2.toNat)->cH o 2 w=⟨o,d,n,m,a,x,k,h,t,c⟩:=by
 have hf:=facts2 hs hI;obtain⟨y,rfl⟩:∃y,t=12*y:=Int.dvd_of_tmod_eq_zero (by simp only[hf]);simp only[cJ,pB _ 12 (by decide)];simp only[mF,List.mem_cons,List.mem_nil_iff,or_false,forall_eq_or_imp,forall_eq,Int.reduceToNat,Int.reducePow,false_imp_iff,implies_true,imp_self];refine⟨by first|trivial|omega,fun w hw=>?_⟩;obtain⟨q0,q1,q2,q3⟩:=hw;have q0:=cT (a:=0) (n:=5) q0 (by omega);have q1:=cT (a:=5) (n:=5) q1 (by omega);have q2:=cT (a:=10) (n:=12) q2 (by omega);have q3:=cT (a:=22) (n:=1) q3 (by omega);simp only[cH,q0,q1,q2,q3];grind
theorem enc3 {o d n m a x k h t c:Int}(hs:aF o=3)(hI:fM ⟨o,d,n,m,a,x,k,h,t,c⟩=true)(hk:0<=k/\k<18446744073709551616):
  mF (cJ 3 ⟨o,d,n,m,a,x,k,h,t,c⟩)/\∀w:Nat,(∀f∈cJ 3 ⟨o,d,n,m,a,x,k,h,t,c⟩,w/2^f.1.toNat%2^f.2.1.toNat=f.2.2.toNat)->cH o 3 w=⟨o,d,n,m,a,x,k,h,t,c⟩:=by
 have hf:=facts3 hs hI;obtain⟨k,rfl⟩:=Int.eq_ofNat_of_zero_le hk.1;obtain⟨e1,e2,e3,he,r1,r2,r3,r4,r5,r6,hd⟩:=enc_pat (k:=k) hf.2 (by omega);simp only[cJ,Int.toNat_natCast,he];simp only[mF,List.mem_cons,List.mem_nil_iff,or_false,forall_eq_or_imp,forall_eq,Int.reduceToNat,Int.reducePow,false_imp_iff,implies_true,imp_self];refine⟨by first|trivial|omega,fun w hw=>?_⟩;obtain⟨q0,q1,q2,q3,q4⟩:=hw;have q0:=cT (a:=0) (n:=5) q0 (by omega);have q1:=cT (a:=5) (n:=5) q1 (by omega);have q2:=cT (a:=10) (n:=6) q2 (by omega);have q3:=cT (a:=16) (n:=6) q3 (by omega);have q4:=cT (a:=22) (n:=1) q4 (by omega);simp only[cH,q0,q1,q2,q3,q4];rw[hd];grind
theorem enc4 {o d n m a x k h t c:Int}(hs:aF o=4)(hI:fM ⟨o,d,n,m,a,x,k,h,t,c⟩=true):
  mF (cJ 4 ⟨o,d,n,m,a,x,k,h,t,c⟩)/\∀w:Nat,(∀f∈cJ 4 ⟨o,d,n,m,a,x,k,h,t,c⟩,w/2^f.1.toNat%2^f.2.1.toNat=f.2.2.toNat)->cH o 4 w=⟨o,d,n,m,a,x,k,h,t,c⟩:=by
 have hf:=facts4 hs hI;simp only[cJ];simp only[mF,List.mem_cons,List.mem_nil_iff,or_false,forall_eq_or_imp,forall_eq,Int.reduceToNat,Int.reducePow,false_imp_iff,implies_true,imp_self];refine⟨by first|trivial|omega,fun w hw=>?_⟩;obtain⟨q0,q1,q2,q3,q4⟩:=hw;have q0:=cT (a:=0) (n:=5) q0 (by omega);have q1:=cT (a:=5) (n:=5) q1 (by omega);have q2:=cT (a:=10) (n:=6) q2 (by omega);have q3:=cT (a:=16) (n:=5) q3 (by omega);have q4:=cT (a:=22) (n:=2) q4 (by omega);simp only[cH,q0,q1,q2,q3,q4];grind
theorem enc5 {o d n m a x k h t c:Int}(hs:aF o=5)(hI:fM ⟨o,d,n,m,a,x,k,h,t,c⟩=true):
  mF (cJ 5 ⟨o,d,n,m,a,x,k,h,t,c⟩)/\∀w:Nat,(∀f∈cJ 5 ⟨o,d,n,m,a,x,k,h,t,c⟩,w/2^f.1.toNat%2^f.2.1.toNat=f.2.2.toNat)->cH o 5 w=⟨o,d,n,m,a,x,k,h,t,c⟩:=by
 have hf:=facts5 hs hI;simp only[cJ];simp only[mF,List.mem_cons,List.mem_nil_iff,or_false,forall_eq_or_imp,forall_eq,Int.reduceToNat,Int.reducePow,false_imp_iff,implies_true,imp_self];refine⟨by first|trivial|omega,fun w hw=>?_⟩;obtain⟨q0,q1,q2,q3,q4⟩:=hw;have q0:=cT (a:=0) (n:=5) q0 (by omega);have q1:=cT (a:=5) (n:=5) q1 (by omega);have q2:=cT (a:=10) (n:=6) q2 (by omega);have q3:=cT (a:=16) (n:=5) q3 (by omega);have q4:=cT (a:=22) (n:=2) q4 (by omega);simp only[cH,q0,q1,q2,q3,q4];grind
theorem enc6 {o d n m a x k h t c:Int}(hs:aF o=6)(hI:fM ⟨o,d,n,m,a,x,k,h,t,c⟩=true):
  mF (cJ 6 ⟨o,d,n,m,a,x,k,h,t,c⟩)/\∀w:Nat,(∀f∈cJ 6 ⟨o,d,n,m,a,x,k,h,t,c⟩,w/2^f.1.toNat%2^f.2.1.toNat=f.2.2.toNat)->cH o 6 w=⟨o,d,n,m,a,x,k,h,t,c⟩:=by
 have hf:=facts6 hs hI;simp only[cJ];simp only[mF,List.mem_cons,List.mem_nil_iff,or_false,forall_eq_or_imp,forall_eq,Int.reduceToNat,Int.reducePow,false_imp_iff,implies_true,imp_self];refine⟨by first|trivial|omega,fun w hw=>?_⟩;obtain⟨q0,q1,q2,q3⟩:=hw;have q0:=cT (a:=0) (n:=5) q0 (by omega);have q1:=cT (a:=5) (n:=5) q1 (by omega);have q2:=cT (a:=10) (n:=5) q2 (by omega);have q3:=cT (a:=16) (n:=5) q3 (by omega);simp only[cH,q0,q1,q2,q3];grind
theorem enc7 {o d n m a x k h t c:Int}(hs:aF o=7)(hI:fM ⟨o,d,n,m,a,x,k,h,t,c⟩=true):
  mF (cJ 7 ⟨o,d,n,m,a,x,k,h,t,c⟩)/\∀w:Nat,(∀f∈cJ 7 ⟨o,d,n,m,a,x,k,h,t,c⟩,w/2^f.1.toNat%2^f.2.1.toNat=f.2.2.toNat)->cH o 7 w=⟨o,d,n,m,a,x,k,h,t,c⟩:=by
 have hf:=facts7 hs hI;obtain⟨y,rfl⟩:∃y,x=8*y:=Int.dvd_of_tmod_eq_zero (by simp only[hf]);simp only[cJ,pB _ 8 (by decide)];simp only[mF,List.mem_cons,List.mem_nil_iff,or_false,forall_eq_or_imp,forall_eq,Int.reduceToNat,Int.reducePow,false_imp_iff,implies_true,imp_self];refine⟨by first|trivial|omega,fun w hw=>?_⟩;obtain⟨q0,q1,q2⟩:=hw;have q0:=cT (a:=0) (n:=5) q0 (by omega);have q1:=cT (a:=5) (n:=5) q1 (by omega);have q2:=cT (a:=10) (n:=12) q2 (by omega);simp only[cH,q0,q1,q2];grind
theorem enc8 {o d n m a x k h t c:Int}(hs:aF o=8)(hI:fM ⟨o,d,n,m,a,x,k,h,t,c⟩=true):
  mF (cJ 8 ⟨o,d,n,m,a,x,k,h,t,c⟩)/\∀w:Nat,(∀f∈cJ 8 ⟨o,d,n,m,a,x,k,h,t,c⟩,w/2^f.1.toNat%2^f.2.1.toNat=f.2.2.toNat)->cH o 8 w=⟨o,d,n,m,a,x,k,h,t,c⟩:=by
 have hf:=facts8 hs hI;simp only[cJ];simp only[mF,List.mem_cons,List.mem_nil_iff,or_false,forall_eq_or_imp,forall_eq,Int.reduceToNat,Int.reducePow,false_imp_iff,implies_true,imp_self];refine⟨by first|trivial|omega,fun w hw=>?_⟩;obtain⟨q0,q1,q2⟩:=hw;have q0:=cT (a:=0) (n:=5) q0 (by omega);have q1:=cT (a:=5) (n:=5) q1 (by omega);have q2:=cT (a:=10) (n:=12) q2 (by omega);simp only[cH,q0,q1,q2];grind
theorem enc9 {o d n m a x k h t c:Int}(hs:aF o=9)(hI:fM ⟨o,d,n,m,a,x,k,h,t,c⟩=true):
  mF (cJ 9 ⟨o,d,n,m,a,x,k,h,t,c⟩)/\∀w:Nat,(∀f∈cJ 9 ⟨o,d,n,m,a,x,k,h,t,c⟩,w/2^f.1.toNat%2^f.2.1.toNat=f.2.2.toNat)->cH o 9 w=⟨o,d,n,m,a,x,k,h,t,c⟩:=by
 have hf:=facts9 hs hI;obtain⟨y,rfl⟩:∃y,x=4*y:=Int.dvd_of_tmod_eq_zero (by simp only[hf]);simp only[cJ,pB _ 4 (by decide)];obtain⟨p1,p2,p3⟩:=rR (v:=y) (n:=19) (by decide) (by decide) (by simp only[Nat.reduceSub,Int.reducePow];omega) (by simp only[Nat.reduceSub,Int.reducePow];omega);simp only[Int.reducePow,Int.cast_ofNat_Int]at p1 p2 p3;generalize(nP y 19).1=p at*
 simp only[mF,List.mem_cons,List.mem_nil_iff,or_false,forall_eq_or_imp,forall_eq,Int.reduceToNat,Int.reducePow,false_imp_iff,implies_true,imp_self];refine⟨by first|trivial|omega,fun w hw=>?_⟩;obtain⟨q0,q1⟩:=hw;have q0:=cT (a:=0) (n:=5) q0 (by omega);have q1:=cT (a:=5) (n:=19) q1 (by omega);simp only[cH,q0,q1];try rw[p3]
 try rw[p4]
 grind
theorem enc10 {o d n m a x k h t c:Int}(hs:aF o=10)(hI:fM ⟨o,d,n,m,a,x,k,h,t,c⟩=true):
  mF (cJ 10 ⟨o,d,n,m,a,x,k,h,t,c⟩)/\∀w:Nat,(∀f∈cJ 10 ⟨o,d,n,m,a,x,k,h,t,c⟩,w/2^f.1.toNat%2^f.2.1.toNat=f.2.2.toNat)->cH o 10 w=⟨o,d,n,m,a,x,k,h,t,c⟩:=by
 have hf:=facts10 hs hI;simp only[cJ];obtain⟨p1,p2,p3⟩:=rR (v:=x) (n:=21) (by decide) (by decide) (by simp only[Nat.reduceSub,Int.reducePow];omega) (by simp only[Nat.reduceSub,Int.reducePow];omega);simp only[Int.reducePow,Int.cast_ofNat_Int]at p1 p2 p3;generalize(nP x 21).1=p at*
 have p4:=sgn21 (a:=p/4) (b:=p%4) (by omega) (by omega) (by omega) (by omega);rw[show 4*(p/4)+p%4=p from by omega,p3]at p4;simp only[mF,List.mem_cons,List.mem_nil_iff,or_false,forall_eq_or_imp,forall_eq,Int.reduceToNat,Int.reducePow,false_imp_iff,implies_true,imp_self];refine⟨by first|trivial|omega,fun w hw=>?_⟩;obtain⟨q0,q1,q2⟩:=hw;have q0:=cT (a:=0) (n:=5) q0 (by omega);have q1:=cT (a:=5) (n:=19) q1 (by omega);have q2:=cT (a:=29) (n:=2) q2 (by omega);simp only[cH,q0,q1,q2];try rw[p3]
 try rw[p4]
 grind
theorem enc11 {o d n m a x k h t c:Int}(hs:aF o=11)(hI:fM ⟨o,d,n,m,a,x,k,h,t,c⟩=true):
  mF (cJ 11 ⟨o,d,n,m,a,x,k,h,t,c⟩)/\∀w:Nat,(∀f∈cJ 11 ⟨o,d,n,m,a,x,k,h,t,c⟩,w/2^f.1.toNat%2^f.2.1.toNat=f.2.2.toNat)->cH o 11 w=⟨o,d,n,m,a,x,k,h,t,c⟩:=by
 have hf:=facts11 hs hI;obtain⟨y,rfl⟩:∃y,x=4*y:=Int.dvd_of_tmod_eq_zero (by simp only[hf]);simp only[cJ,pB _ 4 (by decide)];obtain⟨p1,p2,p3⟩:=rR (v:=y) (n:=26) (by decide) (by decide) (by simp only[Nat.reduceSub,Int.reducePow];omega) (by simp only[Nat.reduceSub,Int.reducePow];omega);simp only[Int.reducePow,Int.cast_ofNat_Int]at p1 p2 p3;generalize(nP y 26).1=p at*
 simp only[mF,List.mem_cons,List.mem_nil_iff,or_false,forall_eq_or_imp,forall_eq,Int.reduceToNat,Int.reducePow,false_imp_iff,implies_true,imp_self];refine⟨by first|trivial|omega,fun w hw=>?_⟩;have q0:=hw;have q0:=cT (a:=0) (n:=26) q0 (by omega);simp only[cH,q0];try rw[p3]
 try rw[p4]
 grind
theorem enc12 {o d n m a x k h t c:Int}(hs:aF o=12)(hI:fM ⟨o,d,n,m,a,x,k,h,t,c⟩=true):
  mF (cJ 12 ⟨o,d,n,m,a,x,k,h,t,c⟩)/\∀w:Nat,(∀f∈cJ 12 ⟨o,d,n,m,a,x,k,h,t,c⟩,w/2^f.1.toNat%2^f.2.1.toNat=f.2.2.toNat)->cH o 12 w=⟨o,d,n,m,a,x,k,h,t,c⟩:=by
 have hf:=facts12 hs hI;obtain⟨y,rfl⟩:∃y,x=4*y:=Int.dvd_of_tmod_eq_zero (by simp only[hf]);simp only[cJ,pB _ 4 (by decide)];obtain⟨p1,p2,p3⟩:=rR (v:=y) (n:=19) (by decide) (by decide) (by simp only[Nat.reduceSub,Int.reducePow];omega) (by simp only[Nat.reduceSub,Int.reducePow];omega);simp only[Int.reducePow,Int.cast_ofNat_Int]at p1 p2 p3;generalize(nP y 19).1=p at*
 simp only[mF,List.mem_cons,List.mem_nil_iff,or_false,forall_eq_or_imp,forall_eq,Int.reduceToNat,Int.reducePow,false_imp_iff,implies_true,imp_self];refine⟨by first|trivial|omega,fun w hw=>?_⟩;obtain⟨q0,q1⟩:=hw;have q0:=cT (a:=0) (n:=4) q0 (by omega);have q1:=cT (a:=5) (n:=19) q1 (by omega);simp only[cH,q0,q1];try rw[p3]
 try rw[p4]
 grind
theorem enc13 {o d n m a x k h t c:Int}(hs:aF o=13)(hI:fM ⟨o,d,n,m,a,x,k,h,t,c⟩=true):
  mF (cJ 13 ⟨o,d,n,m,a,x,k,h,t,c⟩)/\∀w:Nat,(∀f∈cJ 13 ⟨o,d,n,m,a,x,k,h,t,c⟩,w/2^f.1.toNat%2^f.2.1.toNat=f.2.2.toNat)->cH o 13 w=⟨o,d,n,m,a,x,k,h,t,c⟩:=by
 have hf:=facts13 hs hI;simp only[cJ];simp only[mF,List.mem_cons,List.mem_nil_iff,or_false,forall_eq_or_imp,forall_eq,Int.reduceToNat,Int.reducePow,false_imp_iff,implies_true,imp_self];refine⟨by first|trivial|omega,fun w hw=>?_⟩;have q0:=hw;have q0:=cT (a:=5) (n:=5) q0 (by omega);simp only[cH,q0];grind
theorem enc14 {o d n m a x k h t c:Int}(hs:aF o=14)(hI:fM ⟨o,d,n,m,a,x,k,h,t,c⟩=true):
  mF (cJ 14 ⟨o,d,n,m,a,x,k,h,t,c⟩)/\∀w:Nat,(∀f∈cJ 14 ⟨o,d,n,m,a,x,k,h,t,c⟩,w/2^f.1.toNat%2^f.2.1.toNat=f.2.2.toNat)->cH o 14 w=⟨o,d,n,m,a,x,k,h,t,c⟩:=by
 have hf:=facts14 hs hI;simp only[cJ];simp only[mF,List.mem_cons,List.mem_nil_iff,or_false,forall_eq_or_imp,forall_eq,Int.reduceToNat,Int.reducePow,false_imp_iff,implies_true,imp_self];refine⟨by first|trivial|omega,fun w hw=>?_⟩;have q0:=hw;have q0:=cT (a:=5) (n:=16) q0 (by omega);simp only[cH,q0];grind
theorem enc15 {o d n m a x k h t c:Int}(hs:aF o=15)(hI:fM ⟨o,d,n,m,a,x,k,h,t,c⟩=true):
  mF (cJ 15 ⟨o,d,n,m,a,x,k,h,t,c⟩)/\∀w:Nat,(∀f∈cJ 15 ⟨o,d,n,m,a,x,k,h,t,c⟩,w/2^f.1.toNat%2^f.2.1.toNat=f.2.2.toNat)->cH o 15 w=⟨o,d,n,m,a,x,k,h,t,c⟩:=by
 have hf:=facts15 hs hI;simp only[cJ];simp only[mF,List.mem_cons,List.mem_nil_iff,or_false,forall_eq_or_imp,forall_eq,Int.reduceToNat,Int.reducePow,false_imp_iff,implies_true,imp_self];refine⟨by first|trivial|omega,fun w hw=>?_⟩;simp only[cH];grind
theorem enc16 {o d n m a x k h t c:Int}(hs:aF o=16)(hI:fM ⟨o,d,n,m,a,x,k,h,t,c⟩=true):
  mF (cJ 16 ⟨o,d,n,m,a,x,k,h,t,c⟩)/\∀w:Nat,(∀f∈cJ 16 ⟨o,d,n,m,a,x,k,h,t,c⟩,w/2^f.1.toNat%2^f.2.1.toNat=f.2.2.toNat)->cH o 16 w=⟨o,d,n,m,a,x,k,h,t,c⟩:=by
 have hf:=facts16 hs hI;simp only[cJ];simp only[mF,List.mem_cons,List.mem_nil_iff,or_false,forall_eq_or_imp,forall_eq,Int.reduceToNat,Int.reducePow,false_imp_iff,implies_true,imp_self];refine⟨by first|trivial|omega,fun w hw=>?_⟩;obtain⟨q0,q1,q2,q3⟩:=hw;have q0:=cT (a:=0) (n:=5) q0 (by omega);have q1:=cT (a:=5) (n:=5) q1 (by omega);have q2:=cT (a:=12) (n:=4) q2 (by omega);have q3:=cT (a:=16) (n:=5) q3 (by omega);simp only[cH,q0,q1,q2,q3];grind
def zf (f:F3):F3:=(f.1,f.2.1,0)
theorem apartL_zf:∀(l:List F3)(t:Nat),dG (l.map zf) t=dG l t:=by
 intro l;induction l with
 |nil=>intro t;rfl
 |cons f r ih=>
  intro t;rw[List.map_cons,dG,dG,ih];rfl
theorem orAll_zf:∀(l:List F3),lA (l.map zf)=lA l:=by
 intro l;induction l with
 |nil=>rfl
 |cons f r ih=>rw[List.map_cons,lA,lA,ih];rfl
theorem fldS_zf (s:Nat)(i:In)(hs:s<=16):(cJ s i).map zf=(cJ s ⟨0,0,0,0,0,0,0,0,0,0⟩).map zf:=by
 have hc:s=0\/s=1\/s=2\/s=3\/s=4\/s=5\/s=6\/s=7\/s=8\/s=9\/s=10\/s=11\/s=12\/s=13\/s=14\/s=15\/s=16:=by omega
 rcases hc with rfl|rfl|rfl|rfl|rfl|rfl|rfl|rfl|rfl|rfl|rfl|rfl|rfl|rfl|rfl|rfl|rfl
 all_goals simp only[cJ,List.map,zf]
theorem apart_z:∀s:Fin 17,dG ((cJ s.val ⟨0,0,0,0,0,0,0,0,0,0⟩).map zf) (fJ s.val)=true/\dG ((cJ s.val ⟨0,0,0,0,0,0,0,0,0,0⟩).map zf) 0=true/\lA ((cJ s.val ⟨0,0,0,0,0,0,0,0,0,0⟩).map zf)|||fJ s.val=4294967295:=by decide+kernel
theorem apart_t (s:Nat)(i:In)(hs:s<=16):dG (cJ s i) (fJ s)=true/\dG (cJ s i) 0=true/\lA (cJ s i)|||fJ s=4294967295:=by
 have h:=apart_z ⟨s,by omega⟩;simp only[]at h;rw[<-fldS_zf s i hs,apartL_zf,apartL_zf,orAll_zf]at h;exact h
theorem code_op {i:In}(h:fM i=true):1<=i.op/\i.op<=39:=by
 unfold fM at h;simp only[Bool.and_eq_true]at h;have:=h.1.1.1;apply Classical.byContradiction;intro hc;have e:aF i.op=0:=by unfold aF;rw[if_pos (by omega)]
 rw[e]at this;simp at this
theorem isI_shape {i:In}(h:fM i=true):aF i.op≠0:=by
 unfold fM at h;simp only[Bool.and_eq_true,bne_iff_ne]at h;exact h.1.1.1
theorem enc_all (i:In)(hI:fM i=true)(hk:0<=i.mask/\i.mask<18446744073709551616):
  mF (cJ (aF i.op).toNat i)/\∀w:Nat,(∀f∈cJ (aF i.op).toNat i,w/2^f.1.toNat%2^f.2.1.toNat=f.2.2.toNat)->cH i.op (aF i.op).toNat w=i:=by
 have hb:=dH i.op;have h0:=isI_shape hI;obtain⟨s,hs⟩:=Int.eq_ofNat_of_zero_le hb.1;obtain⟨o,d,n,m,a,x,k,h,t,c⟩:=i;simp only[]at hs hk h0 hb⊢;rw[hs,Int.toNat_natCast];have hc:s=1\/s=2\/s=3\/s=4\/s=5\/s=6\/s=7\/s=8\/s=9\/s=10\/s=11\/s=12\/s=13\/s=14\/s=15\/s=16:=by omega
 rcases hc with rfl|rfl|rfl|rfl|rfl|rfl|rfl|rfl|rfl|rfl|rfl|rfl|rfl|rfl|rfl|rfl
 ·exact enc1 hs hI
 ·exact enc2 hs hI
 ·exact enc3 hs hI hk
 ·exact enc4 hs hI
 ·exact enc5 hs hI
 ·exact enc6 hs hI
 ·exact enc7 hs hI
 ·exact enc8 hs hI
 ·exact enc9 hs hI
 ·exact enc10 hs hI
 ·exact enc11 hs hI
 ·exact enc12 hs hI
 ·exact enc13 hs hI
 ·exact enc14 hs hI
 ·exact enc15 hs hI
 ·exact enc16 hs hI
theorem decW_op (o:Int)(s w:Nat):(cH o s w).op=o:=by unfold cH;split<;>rfl
theorem encW_spec (i:In)(hI:fM i=true)(hk:0<=i.mask/\i.mask<18446744073709551616):
  ∃c:Nat,wordS (cJ (aF i.op).toNat i)=((c:Int),0)/\baN i.op|||c=encW i/\c<4294967296/\encW i<4294967296/\kH i.op.toNat (encW i)=true/\cH i.op (aF i.op).toNat (encW i)=i:=by
 obtain⟨hok,hdec⟩:=enc_all i hI hk;have ho:=code_op hI;have hb:=dH i.op;obtain⟨a1,a2,-⟩:=apart_t (aF i.op).toNat i (by omega);have eo:((i.op.toNat:Nat):Int)=i.op:=by omega
 have bi:=base_in ⟨i.op.toNat,by omega⟩;simp only[eo]at bi;obtain⟨d,hd,hd2,hd3,hd4⟩:=enc_gen _ _ _ hok a1 bi.1 bi.2;have hW:encW i=d:=by unfold encW;rw[hd];rfl
 obtain⟨c,hc⟩:=wordL_ok (cJ (aF i.op).toNat i) 0 hok;have hor:=wordL_or _ _ (baN i.op) _ hc;rw[Nat.or_zero,hd]at hor;simp only[Prod.mk.injEq,and_true]at hor;have hcl:=wordL_lt2 _ _ _ (fG _ _ a2) hok (by decide) hc;refine⟨c,?_,?_,hcl,by omega,?_,?_⟩
 ·unfold wordS;rw[if_neg (by rw[a2];decide),hc]
 ·rw[hW];omega
 ·unfold kH;rw[eo,hW,hd4];exact beq_self_eq_true _
 ·rw[hW];exact hdec d hd3
def iK (w:Nat):Nat:=((List.range 40).find? fun o=>decide (1<=o) && kH o w).getD 0
theorem opW_is {o w:Nat}(h1:1<=o)(h2:o<40)(h:kH o w=true):iK w=o:=by
 unfold iK;cases hf:(List.range 40).find? fun o=>decide (1<=o) && kH o w with
 |none=>
  have:=List.find?_eq_none.1 hf o (List.mem_range.2 h2);simp[h1,h]at this
 |some p=>
  have hp:=List.find?_some hf;have hm:=List.mem_range.1 (List.mem_of_find?_eq_some hf);simp only[Bool.and_eq_true,decide_eq_true_eq]at hp;exact isOp_uniq hp.1 hm h1 h2 hp.2 h
theorem opW_none {w:Nat}(h:∀o,1<=o->o<40->kH o w=false):iK w=0:=by
 unfold iK;cases hf:(List.range 40).find? fun o=>decide (1<=o) && kH o w with
 |none=>rfl
 |some p=>
  have hp:=List.find?_some hf;have hm:=List.mem_range.1 (List.mem_of_find?_eq_some hf);simp only[Bool.and_eq_true,decide_eq_true_eq]at hp;rw[h p hp.1 hm]at hp;simp at hp
theorem opW_or (w:Nat):(iK w=0/\∀o,1<=o->o<40->kH o w=false)\/(1<=iK w/\iK w<40/\kH (iK w) w=true):=by
 by_cases h:∃o,1<=o/\o<40/\kH o w=true
 ·obtain⟨o,h1,h2,h3⟩:=h;rw[opW_is h1 h2 h3];exact .inr ⟨h1,h2,h3⟩
 ·left;have hn:∀o,1<=o->o<40->kH o w=false:=by
   intro o h1 h2;cases e:kH o w
   ·rfl
   ·exact(h ⟨o,h1,h2,e⟩).elim
  exact⟨opW_none hn,hn⟩
abbrev inZ:In:=⟨0,0,0,0,0,0,0,0,0,0⟩
def bH (w:Nat):In:=cH (iK w) (aF (iK w)).toNat w
def dI (w:Nat):In×Int:=if fM (bH w)=true then(bH w,0)else(inZ,11)
theorem decW_mask (o:Int)(s w:Nat):0<=(cH o s w).mask/\(cH o s w).mask<18446744073709551616:=by
 unfold cH;split<;>first|(simp only[];omega)|skip
 simp only[];rcases @dec_err (fw w 22 1) (fw w 16 6) (fw w 10 6)with⟨a,e⟩|⟨e,-⟩
 ·have:=dec_lt e;rw[e];exact this
 ·rw[e];omega
theorem readW_op (w:Nat):(bH w).op=iK w:=decW_op _ _ _
theorem rM {p q:Int×Int×Int×Int}{w:World}(h:q=p):bQ (four p) w (.returned (four q)) w:=by subst h;exact⟨rfl,rfl⟩
theorem refEncode_any (v:Nat)(w:World)(hv:v<18446744073709551616):
  Calls Tryz.prog 131 #[.int .u64 v] w (bQ (four (encS v)) w):=by
 have L:=gY v hv;have hsz:=L.size;have hsl:=dS hsz;have hpv:cK v<18446744073709551616:=Nat.lt_of_le_of_lt (Nat.mod_le _ _) hv;have hps:cK v<2^sizeL v:=Nat.mod_lt _ (Nat.two_pow_pos _);have hol:gA (cK v) 64<=sizeL v:=by rw[rS _ _ _ hps (by omega)];exact iY _ _
 have HS:Hid (∀w,Calls Tryz.prog 158 #[.int .u64 v] w (bQ (.int .i64 (sizeL v:Nat)) w)):=aH fun w=>refSize_any v w hv
 have HLow:Hid (∀w,Calls Tryz.prog 160 #[.int .u64 v,.int .i64 (sizeL v:Nat)] w (bQ (.int .u64 (cK v:Nat)) w)):=aH fun w=>refLow_nat v (sizeL v) w (by omega) hv
 have HO:Hid (∀w,Calls Tryz.prog 159 #[.int .u64 (cK v:Nat)] w (bQ (.int .i64 (gA (cK v) 64:Nat)) w)):=aH fun w=>refOnes_any _ w hpv
 rcases pat_or v hv with⟨k,r,s,h⟩|hn
 ·have hp:=h.pos;have hk:=h.less;have hk1:=h.one;have hr:=h.turn;have hpart:cK v=v%2^s:=by unfold cK;rw[h.sizeL]
  have hones:gA (cK v) 64=k:=by rw[hpart];exact h.ones
  rw[h.encS];rw[hones]at HO;rw[h.sizeL]at HS HLow;have HRow:Hid (∀(j:Nat) w,j<s->Calls Tryz.prog 161 #[.int .i64 k,.int .i64 j,.int .i64 s] w (bQ (.int .u64 (fB (2^k-1) j s s:Nat)) w)):=aH fun j w hj=>row_any k j s w (oZ h.size) hk hj
  have HNe:Hid (∀j:Nat,j<r->(((fB (2^k-1) j s s:Nat):Int)==((cK v:Nat):Int))=false):=aH fun j hj=>by
   rw[beq_eq_false_iff_ne];intro e;have e2:fB (2^k-1) j s s=v%2^s:=by rw[<-hpart];omega
   have hper:pz v s=true:=by have:=L.has;rwa[h.sizeL]at this
   have:=(pat_of_part hv (oZ h.size) hper hk1 hk (by omega) e2).uniq h;omega
  have HEq:Hid ((((fB (2^k-1) r s s:Nat):Int)==((cK v:Nat):Int))=true):=aH (by rw[hpart,h.part];simp);clear L hsz hsl hps hol hpart hones h;generalize cK v=p at*
  have end64:s=64->(dB (s:Int),(r:Int),bX s+k-1,(0:Int))=(1,(r:Int),(k:Int)-1,0):=by rintro rfl;simp[dB,bX]
  have endls:s≠64->(dB (s:Int),(r:Int),bX s+k-1,(0:Int))=(0,(r:Int),(k:Int)-1+64-2*s,0):=by
   intro hne;have hne':¬((s:Int)=64):=by omega
   simp only[dB,bX,if_neg hne',Prod.mk.injEq,and_true,true_and];omega
  have E1:=aH end64;have E2:=aH endls;clear end64 endls;go_enter Tryz.func131,Tryz.ntmps131;go_wp2_with (first|(go_at_call 158;refine(HS.out _).mono ?_;rintro e w' ⟨rfl,rfl⟩)|(go_at_call 160;refine(HLow.out _).mono ?_;rintro e w' ⟨rfl,rfl⟩)|(go_at_call 159;refine(HO.out _).mono ?_;rintro e w' ⟨rfl,rfl⟩))
  go_loop [8] (fun i=>∃j:Nat,j<=r/\i=.int .i64 j) (fun i=>64-(intOf i).toNat)
  case atStart=>exact⟨0,by omega,rfl⟩
  case round=>
   obtain⟨j,hj,rfl⟩:=hrel;by_cases hlt:j<r
   ·have q:=HNe.out j hlt;obtain⟨y,hy,HRj⟩:∃y,y=fB (2^k-1) j s s/\Hid (∀w,Calls Tryz.prog 161 #[.int .i64 k,.int .i64 j,.int .i64 s] w (bQ (.int .u64 (y:Nat)) w)):=⟨_,rfl,aH fun w=>HRow.out j w (by omega)⟩;rw[<-hy]at q;clear hy;go_wp2_with (first|(go_at_call 161;refine(HRj.out _).mono ?_;rintro e w' ⟨rfl,rfl⟩)|(go_at_call 160;refine(HLow.out _).mono ?_;rintro e w' ⟨rfl,rfl⟩))
    go_round
    case rel=>exact⟨j+1,by omega,by go_num⟩
    case measure=>simp[intOf];omega
   ·obtain rfl:j=r:=by omega
    have q:=HEq.out;obtain⟨y,hy,HRj⟩:∃y,y=fB (2^k-1) j s s/\Hid (∀w,Calls Tryz.prog 161 #[.int .i64 k,.int .i64 j,.int .i64 s] w (bQ (.int .u64 (y:Nat)) w)):=⟨_,rfl,aH fun w=>HRow.out j w (by omega)⟩;rw[<-hy]at q;clear hy HEq;by_cases h64:s=64
    ·subst h64;go_wp2_with (first|(go_at_call 161;refine(HRj.out _).mono ?_;rintro e w' ⟨rfl,rfl⟩)|(go_at_call 160;refine(HLow.out _).mono ?_;rintro e w' ⟨rfl,rfl⟩))
     refine bodyPost_ret (v:=four (1,j,(k:Int) - 1,0)) (by simp [results,Tryz.results131,go_sem]) rfl (rM (E1.out trivial).symm)
    ·have q64:((s:Int)==64)=false:=by rw[beq_eq_false_iff_ne];omega
     go_wp2_with (first|(go_at_call 161;refine(HRj.out _).mono ?_;rintro e w' ⟨rfl,rfl⟩)|(go_at_call 160;refine(HLow.out _).mono ?_;rintro e w' ⟨rfl,rfl⟩))
     refine bodyPost_ret (v:=four (0,j,(k:Int) - 1+64 - 2*s,0)) (by simp [results,Tryz.results131,go_sem]) rfl (rM (E2.out h64).symm)
 ·rw[encS_none hv hn];have HRow:Hid (∀(k j s:Nat) w,cD s=true->k<s->j<s->Calls Tryz.prog 161 #[.int .i64 k,.int .i64 j,.int .i64 s] w (bQ (.int .u64 (fB (2^k-1) j s s:Nat)) w)):=aH fun k j s w a b c=>row_any k j s w a b c
  have HNe:Hid (∀j:Nat,0<gA (cK v) 64->gA (cK v) 64<sizeL v->j<sizeL v->(((fB (2^gA (cK v) 64-1) j (sizeL v) (sizeL v):Nat):Int)==((cK v:Nat):Int))=false):=aH fun j h1 h2 hj=>by
   rw[beq_eq_false_iff_ne];intro e;have e2:fB (2^gA (cK v) 64-1) j (sizeL v) (sizeL v)=v%2^sizeL v:=by show _=cK v;omega
   exact hn _ _ _ (pat_of_part hv hsz L.has h1 h2 hj e2)
  clear L hps hn;generalize cK v=p at*
  generalize gA p 64=o at*
  generalize sizeL v=s at*
  have HZ:=aH hsz;clear hsz;by_cases hc:0<o/\o<s
  ·obtain⟨c1,c2⟩:=hc;go_enter Tryz.func131,Tryz.ntmps131;go_wp2_with (first|(go_at_call 158;refine(HS.out _).mono ?_;rintro e w' ⟨rfl,rfl⟩)|(go_at_call 160;refine(HLow.out _).mono ?_;rintro e w' ⟨rfl,rfl⟩)|(go_at_call 159;refine(HO.out _).mono ?_;rintro e w' ⟨rfl,rfl⟩))
   go_loop [8] (fun i=>∃j:Nat,j<=s/\i=.int .i64 j) (fun i=>64-(intOf i).toNat)
   case atStart=>exact⟨0,by omega,rfl⟩
   case round=>
    obtain⟨j,hj,rfl⟩:=hrel;by_cases hlt:j<s
    ·have q:=HNe.out j c1 c2 hlt;obtain⟨y,hy,HRj⟩:∃y,y=fB (2^o-1) j s s/\Hid (∀w,Calls Tryz.prog 161 #[.int .i64 o,.int .i64 j,.int .i64 s] w (bQ (.int .u64 (y:Nat)) w)):=⟨_,rfl,aH fun w=>HRow.out o j s w HZ.out c2 hlt⟩;rw[<-hy]at q;clear hy;go_wp2_with (first|(go_at_call 161;refine(HRj.out _).mono ?_;rintro e w' ⟨rfl,rfl⟩)|(go_at_call 160;refine(HLow.out _).mono ?_;rintro e w' ⟨rfl,rfl⟩))
     go_round
     case rel=>exact⟨j+1,by omega,by go_num⟩
     case measure=>simp[intOf];omega
    ·go_wp2;refine bodyPost_ret (v:=four (0,0,0,3)) (by simp [results,Tryz.results131,go_sem]) rfl (rM rfl)
  ·have hc2:o=0\/o=s:=by omega
   rcases hc2 with rfl|rfl
   all_goals
    clear hc;go_enter Tryz.func131,Tryz.ntmps131;go_wp2_with (first|(go_at_call 158;refine(HS.out _).mono ?_;rintro e w' ⟨rfl,rfl⟩)|(go_at_call 160;refine(HLow.out _).mono ?_;rintro e w' ⟨rfl,rfl⟩)|(go_at_call 159;refine(HO.out _).mono ?_;rintro e w' ⟨rfl,rfl⟩))
    refine wp_loop_rounds 1 ?_;rw[rounds_succ];go_wp2;refine bodyPost_ret (v:=four (0,0,0,3)) (by simp [results,Tryz.results131,go_sem]) rfl (rM rfl)
theorem isS_enc (v:Nat)(hv:v<18446744073709551616):isS v=((encS v).2.2.2==0):=by
 rcases pat_or v hv with⟨k,r,s,h⟩|hn
 ·rw[h.isS,h.encS];rfl
 ·rw[isS_none hv hn,encS_none hv hn];rfl
theorem refIs_any (v:Nat)(w:World)(hv:v<18446744073709551616):
  Calls Tryz.prog 127 #[.int .u64 v] w (bQ (.bool (isS v)) w):=by
 rw[isS_enc v hv];have HE:Hid (∀w,Calls Tryz.prog 131 #[.int .u64 v] w (bQ (four (encS v)) w)):=aH fun w=>refEncode_any v w hv
 generalize encS v=p at*
 obtain⟨a,b,c,d⟩:=p;go_enter Tryz.func127,Tryz.ntmps127;go_wp2_with (first|(go_at_call 131;refine(HE.out _).mono ?_;rintro e w' ⟨rfl,rfl⟩))
 go_ret;exact bO rfl
theorem decS_out {n r s:Int}(h:n<0\/n>1\/r<0\/r>63\/s<0\/s>63):decS n r s=(0,1):=by unfold decS;rw[if_pos h]
theorem decS_none {n r s:Int}(h:¬(n<0\/n>1\/r<0\/r>63\/s<0\/s>63))(e:lQ n r s=(0,0,0)):decS n r s=(0,3):=by unfold decS;rw[if_neg h,if_pos e]
theorem decS_some {n r s t:Int}(h:¬(n<0\/n>1\/r<0\/r>63\/s<0\/s>63))(ht:t≠0)(e:lQ n r s=(t,r,s-bX t+1)):
  decS n r s=(((fS (s-bX t+1).toNat r.toNat t.toNat:Nat):Int),0):=by
 unfold decS;rw[if_neg h,e,if_neg (by simp[ht])]
theorem outs {n r s:Int}(h:n<0\/n>1\/r<0\/r>63\/s<0\/s>63):
  n<0\/(0<=n/\1<n)\/(0<=n/\n<=1/\r<0)\/(0<=n/\n<=1/\0<=r/\63<r)\/(0<=n/\n<=1/\0<=r/\r<=63/\s<0)\/(0<=n/\n<=1/\0<=r/\r<=63/\0<=s/\63<s):=by omega
theorem qI (n r s t:Int):eV n r s t=true↔(n=dB t/\r<t/\1<=s-bX t+1/\s-bX t+1<t):=by
 unfold eV;simp[and_assoc]
theorem maskN_again (k r s:Nat):mB (fB (2^k-1) r s s) s 64=fS k r s:=rfl
theorem rot64 (v b:Nat):fB v b 64 64<18446744073709551616:=rL v b 64 64
theorem refDecode_out (n r s:Int)(w:World)(h:n<0\/n>1\/r<0\/r>63\/s<0\/s>63):
  Calls Tryz.prog 228 #[.int .i64 n,.int .i64 r,.int .i64 s] w (bQ (two .u64 .i64 (decS n r s)) w):=by
 have H:=aH (decS_out h);rcases outs h with h1|⟨h1,h2⟩|⟨h1,h2,h3⟩|⟨h1,h2,h3,h4⟩|⟨h1,h2,h3,h4,h5⟩|⟨h1,h2,h3,h4,h5,h6⟩
 all_goals
  clear h;go_enter Tryz.func228,Tryz.ntmps228;go_wp2;go_ret2;exact bI H.out
theorem dbl (m:Nat)(h:cD m=true)(hl:m≠64):cD ((2*m:Nat):Int)=true:=by simp[cD]at h⊢;omega
theorem below2 {m:Nat}{P:Int->Prop}(hm:cD m=true)(hp:∀u:Int,cD u=true->u<m->P u)(hpm:P m):∀u:Int,cD u=true->u<((2*m:Nat):Int)->P u:=by
 intro u hu hl;by_cases c:u<m
 ·exact hp u hu c
 ·have:u=m:=by simp[cD]at hu hm;omega
  rw[this];exact hpm
def RD (n r s:Int)(i:Value):Prop:=∃m:Nat,(cD m=true\/m=128)/\i=.int .i64 m/\∀u:Int,cD u=true->u<m->eV n r s u=false
theorem rd_end {n r s:Int}(hlow:∀u:Int,cD u=true->u<(64:Nat)->eV n r s u=false)(hk:eV n r s 64=false):RD n r s (.int .i64 128):=
 ⟨128,.inr rfl,rfl,fun u hu hl=>by
  by_cases c:u<64
  ·exact hlow u hu c
  ·have:u=64:=by simp[cD]at hu;omega
   rw[this];exact hk⟩
theorem rd_next {n r s:Int}{m:Nat}(hm:cD m=true)(h64:¬m=64)(hlow:∀u:Int,cD u=true->u<m->eV n r s u=false)(hk:eV n r s m=false):RD n r s (.int .i64 (2*(m:Int))):=
 ⟨2*m,.inl (dbl m hm h64),by go_num,below2 (P:=fun u=>eV n r s u=false) hm hlow hk⟩
theorem refDecode_any (n r s:Int)(w:World):
  Calls Tryz.prog 228 #[.int .i64 n,.int .i64 r,.int .i64 s] w (bQ (two .u64 .i64 (decS n r s)) w):=by
 by_cases hout:n<0\/n>1\/r<0\/r>63\/s<0\/s>63
 ·exact refDecode_out n r s w hout
 have HO:=aH hout;have hr0:0<=r:=by omega
 have hr1:r<=63:=by omega
 have hs0:0<=s:=by omega
 have hs1:s<=63:=by omega
 have hn:n=0\/n=1:=by omega
 have hn0:0<=n:=by omega
 have hn1:n<=1:=by omega
 clear hout;have HS:=aH (nL n r s);have HRow:Hid (∀(k r s:Nat) w,cD s=true->k<s->r<s->Calls Tryz.prog 161 #[.int .i64 k,.int .i64 r,.int .i64 s] w (bQ (.int .u64 (fB (2^k-1) r s s:Nat)) w)):=aH fun k r s w a b c=>row_any k r s w a b c
 have HAg:Hid (∀(v s:Nat) w,v<18446744073709551616->1<=s->s<=64->Calls Tryz.prog 186 #[.int .u64 v,.int .i64 s] w (bQ (.int .u64 (mB v s 64:Nat)) w)):=aH fun v s w a b c=>again_any v s w a b c
 go_enter Tryz.func228,Tryz.ntmps228;go_wp2;go_loop [8,9] (fun i _=>RD n r s i) (fun i _=>128-(intOf i).toNat)
 case atStart=>exact⟨2,.inl rfl,rfl,fun u hu hl=>by simp[cD]at hu;omega⟩
 case round=>
  obtain⟨m,hm,rfl,hlow⟩:=hrel;have HL:=aH hlow;clear hlow;rcases hm with hm|rfl
  ·have hm2:=dS hm;have HM:=aH hm;clear hm;by_cases h64:m=64
   ·subst h64;by_cases hnn:n=1
    ·subst hnn;by_cases hk:eV 1 r s 64=true
     ·obtain⟨-,k1,k2,k3⟩:=(qI _ _ _ _).1 hk;have hD:decS 1 r s=(((fS (s+1).toNat r.toNat 64:Nat):Int),0):=by
       rcases HS.out with⟨-,e⟩|⟨t,ht,ho,hl,e⟩
       ·rw[e 64 rfl]at hk;cases hk
       ·have:t=64:=by
         apply Classical.byContradiction;intro hne;have h6:t<64:=by simp[cD]at ht;omega
         rw[HL.out t ht h6]at ho;cases ho
        subst this;rw[decS_some HO.out (by omega) e,show s-bX 64+1=s+1 by simp[bX]];rfl
      have HD:=aH hD;have k4:s+1<64:=by simp[bX]at k3;omega
      have HR1:Hid (∀w,Calls Tryz.prog 161 #[.int .i64 (s+1),.int .i64 r,.int .i64 64] w (bQ (.int .u64 (fB (2^(s+1).toNat-1) r.toNat 64 64:Nat)) w)):=aH fun w=>by
       have:=HRow.out (s+1).toNat r.toNat 64 w rfl (by omega) (by omega);rwa[Int.toNat_of_nonneg (by omega),Int.toNat_of_nonneg hr0]at this
      have HA1:Hid (∀w,Calls Tryz.prog 186 #[.int .u64 (fB (2^(s+1).toNat-1) r.toNat 64 64:Nat),.int .i64 64] w (bQ (.int .u64 (fS (s+1).toNat r.toNat 64:Nat)) w)):=aH fun w=>by
       have h:=HAg.out (fB (2^(s+1).toNat-1) r.toNat 64 64) 64 w (rot64 _ _) (Nat.le_of_ble_eq_true rfl) (Nat.le_of_ble_eq_true rfl);rwa[maskN_again]at h
      generalize fB (2^(s+1).toNat-1) r.toNat 64 64=q at*
      generalize fS (s+1).toNat r.toNat 64=z at*
      clear hk hD k1 k2 k3;go_wp2_with (first|(go_at_call 161;refine(HR1.out _).mono ?_;rintro e w' ⟨rfl,rfl⟩)|(go_at_call 186;refine(HA1.out _).mono ?_;rintro e w' ⟨rfl,rfl⟩))
      go_ret2;exact bI HD.out
     ·have HK:Hid (eV 1 r s 64=false):=aH (by simpa using hk);have HX:Hid (¬(s+1<64)):=aH fun c=>by
       apply hk;rw[qI];simp[dB,bX];omega
      clear hk;go_wp2;all_goals first
       |(exfalso;have:=HX.out;omega)
       | (go_round
          case rel=>first|exact rd_end HL.out HK.out|exact⟨_,_,_,rd_end HL.out HK.out,rfl,rfl,rfl⟩
          case measure=>simp[intOf])
    ·have hn9:n=0:=by omega
     subst hn9;go_wp2;go_round
     case rel=>first|exact rd_end HL.out rfl|exact⟨_,_,_,rd_end HL.out rfl,rfl,rfl,rfl⟩
     case measure=>simp[intOf]
   ·have h64b:((m:Int)==64)=false:=by rw[beq_eq_false_iff_ne];omega
    have hm32:m<=32:=by have:=HM.out;simp[cD]at this;omega
    by_cases hnn:n=0
    ·subst hnn;by_cases hk:eV 0 r s m=true
     ·obtain⟨-,k1,k2,k3⟩:=(qI _ _ _ _).1 hk;have hlm:bX m=64-2*m:=by unfold bX;rw[if_neg (by omega)]
      rw[hlm]at k2 k3;have hD:decS 0 r s=(((fS (s-(64-2*(m:Int))+1).toNat r.toNat m:Nat):Int),0):=by
       rcases HS.out with⟨-,e⟩|⟨t,ht,ho,hl,e⟩
       ·rw[e m HM.out]at hk;cases hk
       ·have:t=m:=by
         rcases Int.lt_trichotomy t m with c|c|c
         ·rw[HL.out t ht c]at ho;cases ho
         ·exact c
         ·rw[hl m HM.out c]at hk;cases hk
        subst this;rw[decS_some HO.out (by omega) e,hlm];rfl
      have HD:=aH hD;have HR1:Hid (∀w,Calls Tryz.prog 161 #[.int .i64 (s-(64-2*(m:Int))+1),.int .i64 r,.int .i64 m] w (bQ (.int .u64 (fB (2^(s-(64-2*(m:Int))+1).toNat-1) r.toNat m m:Nat)) w)):=aH fun w=>by
       have:=HRow.out (s-(64-2*(m:Int))+1).toNat r.toNat m w HM.out (by omega) (by omega);rwa[Int.toNat_of_nonneg (by omega),Int.toNat_of_nonneg hr0]at this
      have HA1:Hid (∀w,Calls Tryz.prog 186 #[.int .u64 (fB (2^(s-(64-2*(m:Int))+1).toNat-1) r.toNat m m:Nat),.int .i64 m] w (bQ (.int .u64 (fS (s-(64-2*(m:Int))+1).toNat r.toNat m:Nat)) w)):=aH fun w=>
       HAg.out _ m w (Nat.lt_of_lt_of_le (rL _ _ _ m) (Nat.le_trans (Nat.pow_le_pow_right (by decide) (show m<=64 by omega)) (by decide))) (by omega) (by omega)
      generalize fB (2^(s-(64-2*(m:Int))+1).toNat-1) r.toNat m m=q at*
      generalize fS (s-(64-2*(m:Int))+1).toNat r.toNat m=z at*
      clear hk hD hlm;go_wp2_with (first|(go_at_call 161;refine(HR1.out _).mono ?_;rintro e w' ⟨rfl,rfl⟩)|(go_at_call 186;refine(HA1.out _).mono ?_;rintro e w' ⟨rfl,rfl⟩))
      go_ret2;exact bI HD.out
     ·have HK:Hid (eV 0 r s m=false):=aH (by simpa using hk);have HX:Hid (¬(r<m/\1<=s-(64-2*(m:Int))+1/\s-(64-2*(m:Int))+1<m)):=aH fun c=>by
       apply hk;rw[qI];have hlm:bX m=64-2*m:=by unfold bX;rw[if_neg (by omega)]
       rw[hlm];exact⟨by unfold dB;rw[if_neg (by omega)],c⟩
      clear hk;go_wp2;all_goals first
       |(exfalso;have:=HX.out;omega)
       | (go_round
          case rel=>first|exact rd_next HM.out h64 HL.out HK.out|exact⟨_,_,_,rd_next HM.out h64 HL.out HK.out,rfl,rfl,rfl⟩
          case measure=>simp[intOf];omega)
    ·have hn9:n=1:=by omega
     subst hn9;have HK:Hid (eV 1 r s m=false):=aH (by
      unfold eV dB;rw[if_neg (show¬(m:Int)=64 by omega)];rfl)
     go_wp2;go_round
     case rel=>first|exact rd_next HM.out h64 HL.out HK.out|exact⟨_,_,_,rd_next HM.out h64 HL.out HK.out,rfl,rfl,rfl⟩
     case measure=>simp[intOf];omega
  ·have HD:Hid (decS n r s=(0,3)):=aH (by
    rcases HS.out with⟨e,-⟩|⟨t,ht,ho,hl,e⟩
    ·exact decS_none HO.out e
    ·have h6:t<128:=by simp[cD]at ht;omega
     rw[HL.out t ht h6]at ho;cases ho)
   go_wp2;go_ret2;exact bI HD.out
abbrev Zero3 (w:World)(R:Nat):Prop:=w.heap[R]?=some (.cells #[.int .i64 0,.int .i64 0,.int .i64 0] 168 (0,0))
def RM (w:World)(R B:Nat)(n r s:Int)(i:Value)(wl:World):Prop:=
 ∃m:Nat,(cD m=true/\lF wl B m\/m=0)/\i=.int .i64 m/\(∀u:Int,cD u=true->(m=0\/u<m)->eV n r s u=false)/\Zero3 wl R/\Below w.heap.size w wl
def CloR (w:World)(R B m:Nat)(e:Ending)(w':World):Prop:=
 e=.returned (.int .i64 (if 32<m then 0 else(m:Int)*2))/\lF w' B ((m:Int)*2)/\Zero3 w' R/\Below w.heap.size w w'
theorem clo_R {w wl:World}{R B m:Nat}(X:Obj)(h1:1<=m)(h2:m<=64)(hRB:R≠B)(hc:lF wl B m)(hR:Zero3 wl R)(hb:Below w.heap.size w wl)(hBs:w.heap.size<=B):
  Calls Tryz.prog 202 #[.pointer (some ⟨B,0,none⟩)] (wl.alloc X) (CloR w R B m):=by
 have hc2:lF (wl.alloc X) B m:=(Below.heap_alloc _ X _ (lt_of_block hc)).trans hc;have hR2:Zero3 (wl.alloc X) R:=(Below.heap_alloc _ X _ (lt_of_block hR)).trans hR;have hb2:Below w.heap.size w (wl.alloc X):=hb.alloc hb.size X;refine(clo_any m B _ h1 h2 hc2).mono ?_;rintro e w' ⟨he,hcell,hg⟩;exact⟨he,hcell,(hg.block R (lt_of_block hR2) (by simpa using hRB)).trans hR2,hb2.grown hg hb2.size (fun j hj=>by cases hj;exact hBs)⟩
theorem clo_R0 {w wl:World}{R B m:Nat}(h1:1<=m)(h2:m<=64)(hRB:R≠B)(hc:lF wl B m)(hR:Zero3 wl R)(hb:Below w.heap.size w wl)(hBs:w.heap.size<=B):
  Calls Tryz.prog 202 #[.pointer (some ⟨B,0,none⟩)] wl (CloR w R B m):=by
 refine(clo_any m B _ h1 h2 hc).mono ?_;rintro e w' ⟨he,hcell,hg⟩;exact⟨he,hcell,(hg.block R (lt_of_block hR) (by simpa using hRB)).trans hR,hb.grown hg hb.size (fun j hj=>by cases hj;exact hBs)⟩
theorem rm_next {w wl:World}{R B m:Nat}{n r s:Int}(hm:cD m=true)(hlow:∀u:Int,cD u=true->u<m->eV n r s u=false)(hk:eV n r s m=false)
  (hc:lF wl B ((m:Int)*2)) (hR:Zero3 wl R) (hb:Below w.heap.size w wl):RM w R B n r s (.int .i64 (if 32<m then 0 else(m:Int)*2)) wl:=by
 by_cases c:32<m
 ·have h64:m=64:=by simp[cD]at hm;omega
  subst h64;refine⟨0,.inr rfl,by simp,fun u hu _=>?_,hR,hb⟩;by_cases c2:u<(64:Nat)
  ·exact hlow u hu c2
  ·have:u=(64:Nat):=by simp[cD]at hu;omega
   rw[this];exact hk
 ·refine⟨2*m,.inl ⟨dbl m hm (by omega),?_⟩,by rw[if_neg c];go_num,fun u hu hl=>?_,hR,hb⟩
  ·rw[show((2*m:Nat):Int)=(m:Int)*2 by omega];exact hc
  ·have:=dS hm;exact below2 (P:=fun u=>eV n r s u=false) hm hlow hk u hu (by omega)
theorem rm_meas {m:Nat}(h1:2<=m)(h2:m<=64):(if (intOf (Value.int IntKind.i64 (if 32<m then 0 else(m:Int)*2))).toNat=0 then 0 else 128-(intOf (Value.int IntKind.i64 (if 32<m then 0 else(m:Int)*2))).toNat)<
  if (intOf (Value.int IntKind.i64 (m:Int))).toNat=0 then 0 else 128-(intOf (Value.int IntKind.i64 (m:Int))).toNat:=by
 have f:∀x:Int,(if (intOf (Value.int IntKind.i64 x)).toNat=0 then 0 else 128-(intOf (Value.int IntKind.i64 x)).toNat)=if x.toNat=0 then 0 else 128-x.toNat:=fun x=>rfl
 rw[f,f];by_cases c:32<m
 ·rw[if_pos c,if_pos (show(0:Int).toNat=0 from rfl),if_neg (by omega)];omega
 ·rw[if_neg c,if_neg (by omega),if_neg (by omega)];omega
theorem retB_two {k l:IntKind}{a b:Int}{p:Int×Int}{w w':World}(h:p=(a,b))(hb:Below w.heap.size w w'):aP (two k l p) w (.returned (.tuple #[.int k a,.int l b])) w':=by subst h;exact⟨rfl,hb⟩
theorem read_any (n r s:Int)(w:World)(hn0:0<=n)(hn1:n<=1)(hr0:0<=r)(hr1:r<=63)(hs0:0<=s)(hs1:s<=63):
  Calls Tryz.prog 244 #[.int .i64 n,.int .i64 r,.int .i64 s] w (aP (lH (lQ n r s)) w):=by
 have HS:=aH (nL n r s);go_enter Tryz.func244,Tryz.ntmps244;go_wp2_with (first|(go_at_call 181;refine(sizes_any _).mono ?_;rintro e w1 ⟨rfl,rfl⟩))
 obtain⟨wz,hwz⟩:∃wz:World,wz=w.alloc (.cells #[.int .i64 0,.int .i64 0,.int .i64 0] 168):=⟨_,rfl⟩;rw[<-hwz];obtain⟨R,hRd⟩:∃R:Nat,R=w.heap.size:=⟨_,rfl⟩;obtain⟨B,hBd⟩:∃B:Nat,B=wz.heap.size:=⟨_,rfl⟩;have hz:Zero3 wz R:=by rw[hwz,hRd];exact(MapKept.heap_alloc w _).1
 have hRB:R<B:=by rw[hBd];exact lt_of_block hz
 have hbz:Below w.heap.size w wz:=by rw[hwz];exact(Below.refl w.heap.size w).alloc (Nat.le_refl _) _
 have hblk:lF (wz.alloc (.cells #[.int .i64 1] 3)) B (1:Nat):=by rw[hBd];exact(MapKept.heap_alloc wz _).1
 have hzo:Zero3 (wz.alloc (.cells #[.int .i64 1] 3)) R:=(Below.heap_alloc _ _ _ (lt_of_block hz)).trans hz;have hb2:=hbz.alloc hbz.size (.cells #[.int .i64 1] 3);have HBS:Hid (w.heap.size<=B):=aH (by omega);have HRS:Hid (w.heap.size<=R):=aH (by omega);have hBe:R+1=B:=by rw[hBd,hwz,hRd];simp
 rw[<-hRd,hBe];obtain⟨wo,ho⟩:∃wo:World,wo=wz.alloc (.cells #[.int .i64 1] 3):=⟨_,rfl⟩;rw[<-ho]at hb2 hblk hzo⊢;clear ho hBd hRd hwz hbz hz hBe;have HRB:Hid (R≠B):=aH (by omega);clear hRB;refine(clo_R0 (by omega) (by omega) HRB.out hblk hzo hb2 HBS.out).mono ?_;rintro e w1 ⟨rfl,hc1,hz1,hb1⟩;have HC:=aH hc1;have HZ:=aH hz1;have HB:=aH hb1;clear hb2 hblk hzo hc1 hz1 hb1;go_wp2;go_loopw [8,9] (fun i _ wl=>RM w R B n r s i wl) (fun i _ _=>if (intOf i).toNat=0 then 0 else 128-(intOf i).toNat)
 case atStart=>exact⟨2,.inl ⟨rfl,HC.out⟩,rfl,fun u hu hl=>by simp[cD]at hu;omega,HZ.out,HB.out⟩
 case round=>
  obtain⟨m,hm,rfl,hlow,hzero,hb⟩:=hrel;clear HC HZ HB;have HL:=aH hlow;have HZ:=aH hzero;have HB:=aH hb;clear hlow hzero hb;rcases hm with⟨hm,hcell⟩|rfl
  ·have hm2:=dS hm;have HM:=aH hm;have HC:=aH hcell;have HLow:Hid (∀u:Int,cD u=true->u<m->eV n r s u=false):=aH fun u hu hl=>HL.out u hu (.inr hl)
   clear hm hcell HL;have HU:Hid (∀w,Calls Tryz.prog 122 #[.int .i64 m] w (bQ (.int .i64 (dB m)) w)):=aH fun w=>upper_any m w
   have HLd:Hid (∀w,Calls Tryz.prog 123 #[.int .i64 m] w (bQ (.int .i64 (bX m)) w)):=aH fun w=>lead_any m w (by omega) (by omega)
   have lb:=lead_b m (by omega) (by omega);have ub:=upper_b m;have HI:=aH (qI n r s m);have m0:((m:Int) !=0)=true:=by rw[bne_iff_ne];omega
   obtain⟨d0,d1,d2,e0,e1,e2⟩:=blk3 HZ.out;by_cases hk:eV n r s m=true
   ·obtain⟨k0,k1,k2,k3⟩:=(qI _ _ _ _).1 hk;have hD:lQ n r s=((m:Int),r,s-bX m+1):=by
     rcases HS.out with⟨-,e⟩|⟨t,ht,ho,hl,e⟩
     ·rw[e m HM.out]at hk;cases hk
     ·have:t=m:=by
       rcases Int.lt_trichotomy t m with c|c|c
       ·rw[HLow.out t ht c]at ho;cases ho
       ·exact c
       ·rw[hl m HM.out c]at hk;cases hk
      subst this;rw[e]
    rw[hD];have q0:(n==dB m)=true:=by rw[beq_iff_eq];exact k0
    clear hk hD k0 HI;generalize dB (m:Int)=u at*
    generalize bX (m:Int)=l at*
    go_wp2_with (first|(go_at_call 123;refine(HLd.out _).mono ?_;rintro e w' ⟨rfl,rfl⟩)|(go_at_call 122;refine(HU.out _).mono ?_;rintro e w' ⟨rfl,rfl⟩))
    have hz2:Zero3 (wr.alloc (.cells #[.int .i64 m,.int .i64 r,.int .i64 (s-l+1)] 168)) R:=(Below.heap_alloc _ _ _ (lt_of_block HZ.out)).trans HZ.out;obtain⟨f0,f1,f2,-,-,-⟩:=blk0 (set012 hz2 (.int .i64 m) (.int .i64 r) (.int .i64 (s-l+1)));refine bodyPost_ret (v:=lH (m,r,s - l+1)) (by simp [results,Tryz.results244,go_sem,f0,f1,f2]) rfl ⟨rfl,?_⟩;exact iP (HB.out.alloc HB.out.size _) HRS.out
   ·have HK:Hid (eV n r s m=false):=aH (by simpa using hk);have HX:Hid (¬(n=dB m/\r<m/\1<=s-bX m+1/\s-bX m+1<m)):=aH fun c=>hk (HI.out.2 c)
    clear hk HI;generalize dB (m:Int)=u at*
    generalize bX (m:Int)=l at*
    by_cases hq:n=u
    ·have q0:(n==u)=true:=by rw[beq_iff_eq];exact hq
     have HQ:=aH hq;clear hq;go_wp2_with (first|(go_at_call 123;refine(HLd.out _).mono ?_;rintro e w' ⟨rfl,rfl⟩)|(go_at_call 122;refine(HU.out _).mono ?_;rintro e w' ⟨rfl,rfl⟩))
     all_goals first
      |(exfalso;apply HX.out;exact⟨HQ.out,by omega,by omega,by omega⟩)
      | (refine (clo_R _ (by omega) (by omega) HRB.out HC.out HZ.out HB.out HBS.out).mono ?_
         rintro e w2 ⟨rfl,hc2,hz2,hb2⟩;have HN2:=aH (rm_next HM.out HLow.out HK.out hc2 hz2 hb2);clear hc2 hz2 hb2;go_wp2;go_roundw
         case rel=>exact HN2.out
         case measure=>exact rm_meas (by omega) (by omega))
    ·have q0:(n==u)=false:=by rw[beq_eq_false_iff_ne];exact hq
     clear hq;go_wp2_with (first|(go_at_call 123;refine(HLd.out _).mono ?_;rintro e w' ⟨rfl,rfl⟩)|(go_at_call 122;refine(HU.out _).mono ?_;rintro e w' ⟨rfl,rfl⟩))
     refine(clo_R _ (by omega) (by omega) HRB.out HC.out HZ.out HB.out HBS.out).mono ?_;rintro e w2 ⟨rfl,hc2,hz2,hb2⟩;have HN2:=aH (rm_next HM.out HLow.out HK.out hc2 hz2 hb2);clear hc2 hz2 hb2;go_wp2;go_roundw
     case rel=>exact HN2.out
     case measure=>exact rm_meas (by omega) (by omega)
  ·have hD:lQ n r s=(0,0,0):=by
    rcases HS.out with⟨e,-⟩|⟨t,ht,ho,hl,e⟩
    ·exact e
    ·rw[HL.out t ht (.inl rfl)]at ho;cases ho
   have HD:=aH hD;clear hD;obtain⟨d0,d1,d2,e0,e1,e2⟩:=blk0 HZ.out;go_wp2;obtain⟨f0,f1,f2,-,-,-⟩:=blk0 (set012 HZ.out (.int .i64 0) (.int .i64 0) (.int .i64 0));refine bodyPost_ret (v:=lH (0,0,0)) (by simp [results,Tryz.results244,go_sem,f0,f1,f2]) rfl ⟨by rw [HD.out],iP HB.out HRS.out⟩
theorem Decode_out (n r s:Int)(w:World)(h:n<0\/n>1\/r<0\/r>63\/s<0\/s>63):
  Calls Tryz.prog 234 #[.int .i64 n,.int .i64 r,.int .i64 s] w (aP (two .u64 .i64 (decS n r s)) w):=by
 have H:=aH (decS_out h);rcases outs h with h1|⟨h1,h2⟩|⟨h1,h2,h3⟩|⟨h1,h2,h3,h4⟩|⟨h1,h2,h3,h4,h5⟩|⟨h1,h2,h3,h4,h5,h6⟩
 all_goals
  clear h;go_enter Tryz.func234,Tryz.ntmps234;go_wp2;go_ret2;exact retB_two H.out (Below.refl _ _)
theorem Decode_any (n r s:Int)(w:World):
  Calls Tryz.prog 234 #[.int .i64 n,.int .i64 r,.int .i64 s] w (aP (two .u64 .i64 (decS n r s)) w):=by
 by_cases hout:n<0\/n>1\/r<0\/r>63\/s<0\/s>63
 ·exact Decode_out n r s w hout
 have HO:=aH hout;have hr0:0<=r:=by omega
 have hr1:r<=63:=by omega
 have hs0:0<=s:=by omega
 have hs1:s<=63:=by omega
 have hn0:0<=n:=by omega
 have hn1:n<=1:=by omega
 clear hout;have HR:Hid (Calls Tryz.prog 244 #[.int .i64 n,.int .i64 r,.int .i64 s] w (aP (lH (lQ n r s)) w)):=aH (read_any n r s w hn0 hn1 hr0 hr1 hs0 hs1);rcases nL n r s with⟨e,-⟩|⟨t,ht,ho,-,e⟩
 ·have HD:=aH (decS_none HO.out e);rw[e]at HR;clear e;go_enter Tryz.func234,Tryz.ntmps234;go_wp2_with fail
  refine HR.out.mono ?_;rintro e w1 ⟨rfl,hb⟩;have HB:=aH hb;clear hb;go_wp2;go_ret2;exact retB_two HD.out (HB.out.alloc HB.out.size _)
 ·have ht2:=dS ht;have HD:=aH (decS_some HO.out (by omega) e);rw[e]at HR;obtain⟨k0,k1,k2,k3⟩:=(qI _ _ _ _).1 ho;have tz:(t==0)=false:=by rw[beq_eq_false_iff_ne];omega
  have HM:Hid (∀w,Calls Tryz.prog 156 #[.agg #[.int .i64 t,.int .i64 r,.int .i64 (s-bX t+1)]] w (aP (.int .u64 (fS (s-bX t+1).toNat r.toNat t.toNat)) w)):=aH fun w=>by
   have:=make64_any (s-bX t+1).toNat r.toNat t.toNat w (by rw[Int.toNat_of_nonneg (by omega)];exact ht) (by omega) (by omega) (by omega);rwa[Int.toNat_of_nonneg (by omega),Int.toNat_of_nonneg hr0,Int.toNat_of_nonneg (by omega)]at this
  clear e ho k0 ht;generalize fS (s-bX t+1).toNat r.toNat t.toNat=q at*
  generalize s-bX t+1=o at*
  go_enter Tryz.func234,Tryz.ntmps234;go_wp2_with fail
  refine HR.out.mono ?_;rintro e w1 ⟨rfl,hb⟩;have HB:=aH hb;clear hb;go_wp2_with fail
  obtain⟨w2,hw2⟩:=aE (w1.alloc (.cells #[.int .i64 t,.int .i64 r,.int .i64 o] 168));have HB2:Hid (Below w.heap.size w w2):=aH (by rw[hw2];exact HB.out.alloc HB.out.size _);rw[<-hw2];clear hw2;refine(HM.out _).mono ?_;rintro e w3 ⟨rfl,hb3⟩;have HB3:Hid (Below w.heap.size w w3):=aH (after HB2.out hb3);clear hb3;go_wp2;go_ret2;exact retB_two HD.out HB3.out
abbrev Bases (w:World):Prop:=∀j,j<40->w.cell? ⟨0,j,none⟩=some (.int .u32 ((baL.getD j 0:Nat):Int))
abbrev Looses (w:World):Prop:=∀j,j<17->w.cell? ⟨6,j,none⟩=some (.int .u32 ((loL.getD j 0:Nat):Int))
abbrev fH (w:World):Prop:=iR w/\(Bases w/\0<w.heap.size)/\Looses w/\6<w.heap.size
theorem fH.below {w w':World}(h:fH w)(hb:Below w.heap.size w w'):fH w':=
 ⟨h.1.below hb,⟨fun j hj=>by rw[hb.cell (p:=⟨0,j,none⟩) h.2.1.2];exact h.2.1.1 j hj,Nat.lt_of_lt_of_le h.2.1.2 hb.size⟩,fun j hj=>by rw[hb.cell (p:=⟨6,j,none⟩) h.2.2.2];exact h.2.2.1 j hj,Nat.lt_of_lt_of_le h.2.2.2 hb.size⟩
theorem j64:Tryz.prog.globalNamed "math/bits.deBruijn64tab" =some 3:=by kernel_rfl
theorem jSh:Tryz.prog.globalNamed "cleat/inst.shapes" =some 1:=by kernel_rfl
theorem jBa:Tryz.prog.globalNamed "cleat/code.bases" =some 0:=by kernel_rfl
theorem jLo:Tryz.prog.globalNamed "cleat/code.loose" =some 6:=by kernel_rfl
def baI:List Int:=[0,3531603968,2457862144,4068474880,2432696320,3506438144,2969567232,4043309056,2449473536,2986344448,3523215360,4060086272,2332033024,3405774848,2868903936,3942645760,2315255808,2852126720,3388997632,3925868544,2600468480,2600501248,4181721088,4177526784,960495616,956301312,1476395008,268435456,2415919104,335544320,2483027968,1409286144,3019898880,3036676096,3592355840,3594452992,3596550144,3556769793,3573751839,2592079872]
def loI:List Int:=[0,8388607,8388607,8388607,14680063,14680063,2064383,4194303,4194303,16777215,1627389951,67108863,16777199,992,2097120,0,2094079]
theorem jtab64:∀j,j<64->([0,1,56,2,57,49,28,3,61,58,42,50,38,29,17,4,62,47,59,36,45,43,51,22,53,39,33,30,24,18,12,5,63,55,48,27,60,41,37,16,46,35,44,21,52,32,23,11,54,26,40,15,34,20,31,10,25,14,19,9,13,8,7,6]:List Int).getD j 0=((Lib.deBruijn64tab.getD j 0:Nat):Int):=by decide+kernel
theorem jtabB:∀j,j<40->baI.getD j 0=((baL.getD j 0:Nat):Int):=by decide+kernel
theorem jtabL:∀j,j<17->loI.getD j 0=((loL.getD j 0:Nat):Int):=by decide+kernel
theorem tabs_of {w:World}(h64:Lib.TabIs Tryz.prog w "math/bits.deBruijn64tab" .u8 [0,1,56,2,57,49,28,3,61,58,42,50,38,29,17,4,62,47,59,36,45,43,51,22,53,39,33,30,24,18,12,5,63,55,48,27,60,41,37,16,46,35,44,21,52,32,23,11,54,26,40,15,34,20,31,10,25,14,19,9,13,8,7,6])
  (hs:Lib.TabIs Tryz.prog w "cleat/inst.shapes" .i64 shL) (hb:Lib.TabIs Tryz.prog w "cleat/code.bases" .u32 baI) (hl:Lib.TabIs Tryz.prog w "cleat/code.loose" .u32 loI):fH w:=by
 refine⟨⟨⟨fun j hj=>?_,bM (h64.cell j64 0 (by decide))⟩,fun j hj=>hs.cell jSh j hj,bM (hs.cell jSh 0 (by decide))⟩,⟨fun j hj=>?_,bM (hb.cell jBa 0 (by decide))⟩,fun j hj=>?_,bM (hl.cell jLo 0 (by decide))⟩
 ·have hj':j<64:=hj;rw[h64.cell j64 j hj',jtab64 j hj']
 ·rw[hb.cell jBa j hj,jtabB j hj]
 ·rw[hl.cell jLo j hj,jtabL j hj]
def baseI (op:Int):Int×Int:=if aF op=0 then(0,1)else((baN op:Nat),0)
theorem baL_lt:∀j,j<40->baL.getD j 0<4294967296:=by decide+kernel
theorem loL_lt:∀j,j<17->loL.getD j 0<4294967296:=by decide+kernel
def Drew (w w':World):Prop:=∃n,w'=w.drewN n
theorem Drew.more {w w':World}(h:Drew w w')(n:Nat):Drew w (w'.drewN n):=by
 obtain⟨m,rfl⟩:=h;exact⟨m+n,by rw[World.drewN_drewN]⟩
theorem Drew.below {w w':World}(h:Drew w w'):Below w.heap.size w w':=by
 obtain⟨m,rfl⟩:=h;exact eA w m
theorem retDr_int {k:IntKind}{a b:Int}{w w':World}(h:a=b)(hd:Drew w w'):kP (.int k b) w (.returned (.int k a)) w':=by subst h;exact⟨rfl,hd⟩
theorem Opcode_any (x:Nat)(hx:x<4294967296)(w:World)(hw:fH w):Calls Tryz.prog 220 #[.int .u32 x] w (kP (.int .i64 (iK x)) w):=by
 have HT:=aH hw;clear hw;go_enter Tryz.func220,Tryz.ntmps220;go_wp2;go_loopw [3] (fun i wl=>∃k:Nat,1<=k/\k<=40/\i=.int .i64 k/\(∀o,1<=o->o<k->kH o x=false)/\Drew w wl) (fun i _=>40-(intOf i).toNat)
 case atStart=>exact⟨1,by omega,by omega,rfl,fun o h1 h2=>by omega,0,rfl⟩
 case round=>
  obtain⟨k,hk1,hk,rfl,hno,hdr⟩:=hrel;have HDR:=aH hdr;clear hdr;have HNO:=aH hno;clear hno;have hT:fH wr:=HT.out.below HDR.out.below;by_cases hlt:k<40
  ·have hsh:∀n',Calls Tryz.prog 90 #[.int .i64 (k:Int)] (wr.drewN n') (bQ (.int .i64 (aF (k:Int))) (wr.drewN n')):=fun n'=>cU (k:Int) _ (hT.below (eA wr n')).1
   have hb:=dH (k:Int);obtain⟨s,hs⟩:=Int.eq_ofNat_of_zero_le hb.1;have cL:=hT.2.2.1 s (by omega);have cB:=hT.2.1.1 k hlt;have hand:=u32_andNot_nat x (loL.getD s 0) hx (loL_lt s (by omega));have hop:kH k x=(((x&&&(4294967295-loL.getD s 0):Nat):Int)==((baL.getD k 0:Nat):Int)):=by
    unfold kH;rw[hs,Int.toNat_natCast];show(x&&&(4294967295-loN s)==baN (k:Int))=_
    unfold loN baN;rw[Int.toNat_natCast,Bool.eq_iff_iff,beq_iff_eq,beq_iff_eq,Int.natCast_inj]
   rw[hs]at hsh;have HSh:=aH hsh;have hs16:s<=16:=by omega
   have HOP:=aH hop;clear hT hb hs hop hsh;generalize loL.getD s 0=lo at*
   generalize baL.getD k 0=ba at*
   generalize x&&&(4294967295-lo)=xa at*
   cases hq:((xa:Int)==(ba:Int))
   ·have HQ:Hid (kH k x=false):=aH (HOP.out.trans hq);clear HOP;go_wp2_with fail
    go_quiet ((go_at_call 90;exact Calls.quiet_of_same ((HSh.out _).mono fun e w' h=>⟨h.1,h.2.symm⟩)));go_wp2;go_roundw
    case rel=>exact⟨k+1,by omega,by omega,by go_num,fun o h1 h2=>by
     by_cases e:o=k
     ·rw[e];exact HQ.out
     ·exact HNO.out o h1 (by omega),HDR.out.more _⟩
    case measure=>simp[intOf];omega
   ·have HQ:Hid (iK x=k):=aH (opW_is hk1 hlt (HOP.out.trans hq));clear HOP;go_wp2_with fail
    go_quiet ((go_at_call 90;exact Calls.quiet_of_same ((HSh.out _).mono fun e w' h=>⟨h.1,h.2.symm⟩)));go_wp2;go_ret;exact retDr_int (by have:=HQ.out;omega) (HDR.out.more _)
  ·obtain rfl:k=40:=by omega
   have HQ:Hid (iK x=0):=aH (opW_none fun o h1 h2=>HNO.out o h1 h2);go_wp2;go_ret;exact retDr_int (by have:=HQ.out;omega) HDR.out
theorem cpack_any (v n:Int)(w:World)(h0 : -9223372036854775808<=v)(h1:v<=9223372036854775807):Calls Tryz.prog 97 #[.int .i64 v,.int .i64 n] w (bQ (.int .u32 (nP v n).1) w):=by
 have HP:=aH (pack_any v n w h0 h1);generalize nP v n=p at*
 go_enter Tryz.func97,Tryz.ntmps97;go_wp2_with (go_at_call 124;((with_reducible refine(HP.out).mono ?_);rintro e w' ⟨rfl,rfl⟩))
 go_ret;exact bK rfl
theorem fieldS_in (x:Nat)(a n:Nat)(h:a+n<=32)(h1:1<=n):kJ x a n=(fw x a n,0):=by
 rw[fieldS_ok (by omega)];unfold fw;simp only[Int.toNat_natCast];congr 1
theorem iM (x a n:Nat)(h:n<=32):0<=fw x a n/\fw x a n<4294967296:=by
 have:=bB x a n;have hp:=kC n 32 h 4294967296 (by decide);omega
theorem fW (x a n:Nat)(hx:x<4294967296)(h:a+n<=32)(h1:1<=n)(w:World):Calls Tryz.prog 221 #[.int .u32 x,.int .i64 a,.int .i64 n] w (kP (.int .i64 (fw x a n)) w):=by
 have hf:=field_any x a n w (by omega) (by omega);rw[fieldS_in x a n h h1]at hf;have HF:=aH hf;have hb:=iM x a n (by omega);clear hf;generalize fw x a n=f at*
 go_enter Tryz.func221,Tryz.ntmps221;go_wp2_with (go_at_call 233;((with_reducible refine HF.out.mono ?_);rintro e w' ⟨rfl,m,rfl⟩))
 go_ret;exact retD_int rfl m
theorem wsigned_any (x a n:Nat)(hx:x<4294967296)(h:a+n<=32)(h1:1<=n)(w:World):Calls Tryz.prog 223 #[.int .u32 x,.int .i64 a,.int .i64 n] w (kP (.int .i64 (jB (fw x a n) n).1) w):=by
 have HF:=aH (fW x a n hx h h1 w);have hb:=iM x a n (by omega);have HS:Hid (∀w,Calls Tryz.prog 235 #[.int .u32 (fw x a n),.int .i64 n] w (bQ (two .i64 .i64 (jB (fw x a n) n)) w)):=aH fun w=>signed_any _ _ w hb.1 hb.2
 generalize jB (fw x a n) n=sg at*
 generalize fw x a n=f at*
 go_enter Tryz.func223,Tryz.ntmps223;go_wp2_with (first|(go_at_call 221;((with_reducible refine HF.out.mono ?_);rintro e w' ⟨rfl,m,rfl⟩))|(go_at_call 235;((with_reducible refine(HS.out _).mono ?_);rintro e w' ⟨rfl,rfl⟩)))
 go_ret;exact retD_int rfl m
end Go.Proofs.YtiohgaghmnpplaaGreatDoor
