/- A drawn region by hand, short. place: options, Up, Lay, Far, Near. veneer, plain: what is laid, what is wanted, and that it ends. veneer, plain: a veneer is near its call; a plan. veneer: veneers in memory, and maps that are keyed by them. -/
import Derived.Test.YtobdldadfipcgaaGreatDoorqA
import Derived.Deep.RegionHeld
import Derived.LoopN
import Derived.Deep.QuietTactic
import Derived.BigQuiet
import Derived.Test.YtobdldadfipcgaaGreatDoorw3
import Derived.Test.YtobdldadfipcgaaGreatDoorqI
import Derived.DeepKeys4
import Derived.Maps.Own
import Derived.Maps.OwnOps
set_option maxHeartbeats 1600000
set_option linter.unusedVariables false
set_option linter.unusedSimpArgs false
namespace Go.Proofs.YtobdldadfipcgaaGreatDoor
open Go.Deep Go.RowKit
section
variable {P:Program} {ops:Array Oper} {Q:Exit->Act->World->Prop} {md:Region.Mode} {S:World->Prop} {o:Oper} {fuel:Nat} {listed:Array Bool} {a:Act} {w:World}
theorem tk (i:Nat) (v:Value) (hi:ops[i]?=some o) (hS:S w) (hy:∀ w,S w->(execOp a.eval o).run P w=.ok (.value v) w) (h:wpAnyH P md ops Q S fuel (listed.setIfInBounds i true) (a.put o.dst v) w)
  (hw:Region.wanted o (yielded ops a.tmps)=true:=by kernel_rfl) (hs:Region.noSelect ops=true:=by kernel_rfl) (hf:Region.free md ops listed i=true:=by kernel_rfl) (hr:(Region.ready md ops listed).contains i=true:=by kernel_rfl)
  (hQ:∀ c a w,Q (.panic c) (a.put o.dst v) w->Q (.panic c) a w:=by exact fun _ _ _ h=>h):wpAnyH P md ops Q S (fuel+1) listed a w:=
 wpAnyH_take hi hs hf hr hQ (Or.inl ⟨hw,hy⟩) hS h
theorem sk (i:Nat) (hi:ops[i]?=some o) (hS:S w) (h:wpAnyH P md ops Q S fuel (listed.setIfInBounds i true) (a.put o.dst undef) w)
  (hw:Region.wanted o (yielded ops a.tmps)=false:=by kernel_rfl) (hs:Region.noSelect ops=true:=by kernel_rfl) (hf:Region.free md ops listed i=true:=by kernel_rfl) (hr:(Region.ready md ops listed).contains i=true:=by kernel_rfl)
  (hQ:∀ c a w,Q (.panic c) (a.put o.dst undef) w->Q (.panic c) a w:=by exact fun _ _ _ h=>h):wpAnyH P md ops Q S (fuel+1) listed a w:=
 wpAnyH_take hi hs hf hr hQ (Or.inr ⟨hw,rfl⟩) hS h
theorem rd (i:Nat) (ho:ops[i]?=some o) (h:∀ K':Act->World->Prop,Shut (∀ a w,S w->(S w->wpAnyH P md ops Q S fuel (listed.setIfInBounds i true) a w)->K' a w)->if Region.wanted o (yielded ops a.tmps)=true then Oper.wp P o a w K' Q else K' (a.put o.dst undef) w)
  (hr:Region.ready md ops listed=[i]:=by kernel_rfl):wpAnyH P md ops Q S (fuel+1) listed a w:=
 wpAnyH_ready hr (by simp) (AllReadyH.cons ho h AllReadyH.nil)
end
end Go.Proofs.YtobdldadfipcgaaGreatDoor
namespace Go.Proofs.YtobdldadfipcgaaGreatDoor
set_option maxRecDepth 100000
namespace Pl
open Go.RowKit
def upS (a n:Int):Int × Int:=if n < 0\/12 < n then (0,1) else if 9223372036854775808 < a then (0,4) else ((a+(2 ^ n.toNat - 1)) / 2 ^ n.toNat*2 ^ n.toNat,0)
theorem upS0 {a n:Int} (h:n < 0\/12 < n):upS a n=(0,1):=if_pos h
theorem upS1 {a n:Int} (h1:0<=n) (h2:n<=12) (h:9223372036854775808 < a):upS a n=(0,4):=by unfold upS;rw [if_neg (by omega),if_pos h]
theorem upS2 {a n:Int} (h1:0<=n) (h2:n<=12) (h:a<=9223372036854775808):upS a n=((a+(2 ^ n.toNat - 1)) / 2 ^ n.toNat*2 ^ n.toNat,0):=by unfold upS;rw [if_neg (by omega),if_neg (by omega)]
theorem pow12 (n:Int) (h:n<=12):1<=(2:Int) ^ n.toNat/\(2:Int) ^ n.toNat<=4096:=pow_le _ 12 (by omega) _ (by decide)
theorem andNot_ones64 (v n:Int) (h0:0<=v) (h1:v < 18446744073709551616) (hn:0<=n) (hn':n<=63):
  bits BinOp.andNot IntKind.u64 v (2 ^ n.toNat - 1)=v / 2 ^ n.toNat*2 ^ n.toNat:=by
 obtain ⟨k,rfl⟩:=Int.eq_ofNat_of_zero_le hn
 obtain ⟨v,rfl⟩:=Int.eq_ofNat_of_zero_le h0
 rw [Int.toNat_natCast]
 have hp:=pow_le k 63 (by omega) 9223372036854775808 (by decide)
 have e:((2:Int) ^ k - 1)=((2 ^ k - 1:Nat):Int):=by
  have:=Nat.one_le_two_pow (n:=k)
  rw [Int.ofNat_sub this,pow_cast];rfl
 have e2:2 ^ k<=2 ^ 63:=Nat.pow_le_pow_right (by decide) (by omega)
 rw [e,u64_andNot_nat _ _ (by omega) (by omega)]
 have:=and_compl v k 64 (by omega) (by omega)
 simp only [show (18446744073709551615:Nat)=2 ^ 64 - 1 from rfl,this]
 rw [<-pow_cast];rfl
theorem up_facts (a n:Int) (h0:0<=a) (h1:a<=9223372036854775808) (n0:0<=n) (n1:n<=12):
  a<=(a+(2 ^ n.toNat - 1)) / 2 ^ n.toNat*2 ^ n.toNat/\(a+(2 ^ n.toNat - 1)) / 2 ^ n.toNat*2 ^ n.toNat < a+2 ^ n.toNat/\(a+(2 ^ n.toNat - 1)) / 2 ^ n.toNat*2 ^ n.toNat % 2 ^ n.toNat=0:=by
 have hp:=pow12 n n1
 generalize (2:Int) ^ n.toNat=p at hp ⊢
 have e:=Int.emod_add_mul_ediv (a+(p - 1)) p
 have e1:=Int.emod_nonneg (a+(p - 1)) (show p ≠ 0 by omega)
 have e2:=Int.emod_lt_of_pos (a+(p - 1)) (show 0 < p by omega)
 rw [Int.mul_comm ((a+(p - 1)) / p) p]
 refine ⟨by omega,by omega,Int.mul_emod_right _ _⟩
theorem up_any (a n:Int) (w:World) (h0:0<=a) (h1:a < 18446744073709551616):
  Calls Tryz.prog 79 #[.int .u64 a,.int .i64 n] w (Ret (two .u64 .i64 (upS a n)) w):=by
 by_cases c1:n < 0
 ·go_enter Tryz.func79,Tryz.ntmps79
  go_wp2
  go_ret2
  exact ret_two (upS0 (by omega))
 by_cases c2:12 < n
 ·go_enter Tryz.func79,Tryz.ntmps79
  go_wp2
  go_ret2
  exact ret_two (upS0 (by omega))
 by_cases c3:9223372036854775808 < a
 ·go_enter Tryz.func79,Tryz.ntmps79
  go_wp2
  go_ret2
  exact ret_two (upS1 (by omega) (by omega) c3)
 have hp:=pow12 n (by omega)
 have hw:IntKind.u64.wrap (2 ^ n.toNat)=2 ^ n.toNat:=by rw [IntKind.wrap_u64];omega
 have ha:=andNot_ones64 (a+(2 ^ n.toNat - 1)) n (by omega) (by omega) (by omega) (by omega)
 have H:=Lib.hid (upS2 (a:=a) (n:=n) (by omega) (by omega) (by omega))
 go_enter Tryz.func79,Tryz.ntmps79
 go_wp2
 go_ret2
 exact ret_two H.out
theorem far_any (f t:Int) (w:World) (f0:0<=f) (f1:f < 18446744073709551616) (t0:0<=t) (t1:t < 18446744073709551616):
  Calls Tryz.prog 31 #[.int .u64 f,.int .u64 t] w (Ret (.int .i64 (wrap64 (t - f))) w):=by
 go_enter Tryz.func31,Tryz.ntmps31
 go_wp2
 go_ret
 refine ret_int ?_
 simp only [IntKind.wrap_u64];unfold wrap64;omega
def nearB (f t r:Int):Bool:=decide (0<=r /\ -r<=wrap64 (t - f)/\wrap64 (t - f)<=r - 4)
theorem wrap64_bd (x:Int) : -9223372036854775808<=wrap64 x/\wrap64 x<=9223372036854775807:=by unfold wrap64;omega
theorem near_any (f t r:Int) (w:World) (f0:0<=f) (f1:f < 18446744073709551616) (t0:0<=t) (t1:t < 18446744073709551616) (r0 : -9223372036854775808<=r) (r1:r<=9223372036854775807):
  Calls Tryz.prog 55 #[.int .u64 f,.int .u64 t,.int .i64 r] w (Ret (.bool (nearB f t r)) w):=by
 obtain ⟨d,hd⟩:∃ d,d=wrap64 (t - f):=⟨_,rfl⟩
 have hb:=wrap64_bd (t - f)
 have hn:nearB f t r=decide (0<=r /\ -r<=d/\d<=r - 4):=by rw [hd];rfl
 have HF:=Lib.hid (far_any f t w f0 f1 t0 t1)
 rw [<-hd] at HF hb
 have HN:=Lib.hid hn
 clear hd hn
 go_enter Tryz.func55,Tryz.ntmps55
 go_wp2_with (go_at_call 31;refine (HF.out).mono ?_;rintro e w' ⟨rfl,rfl⟩)
 all_goals
  go_ret
  refine ret_bool ?_
  rw [HN.out]
  first | (rw [Bool.eq_iff_iff];simp;omega) | (simp;omega)
def evB (a:Int):Bool:=decide (a % 4096=0/\a<=2305843009213693952)
def apB (a b:Int):Bool:=decide (16777216<=a - b\/16777216<=b - a)
def goodB (t d s r:Int):Bool:=(evB t && (evB d && evB s)) && (apB t d && (apB t s && apB d s)) && decide (r % 4=0/\8192<=r/\r<=134217724)
theorem max_min (a b:Int):∃ M m:Int,(if a < b then b else a)=M/\(if b < a then b else a)=m/\(apB b a=true ↔ 16777216<=M - m):=by
 refine ⟨_,_,rfl,rfl,?_⟩
 simp only [apB,decide_eq_true_eq]
 split <;> split <;> omega
theorem good_any (t d s r:Int) (w:World) (t0:0<=t) (t1:t < 18446744073709551616) (d0:0<=d) (d1:d < 18446744073709551616) (s0:0<=s) (s1:s < 18446744073709551616):
  Calls Tryz.prog 9 #[.agg #[.int .u64 t,.int .u64 d,.int .u64 s,.int .i64 r]] w (RetB (.bool (goodB t d s r)) w):=by
 have i0:∀ w,(Instr.index 81 (.agg #[.int .u64 t,.int .u64 d,.int .u64 s]) (.int .i64 0)).run Tryz.prog w=.ok (.int .u64 t) w:=fun _=>by kernel_rfl
 have i1:∀ w,(Instr.index 81 (.agg #[.int .u64 t,.int .u64 d,.int .u64 s]) (.int .i64 1)).run Tryz.prog w=.ok (.int .u64 d) w:=fun _=>by kernel_rfl
 have i2:∀ w,(Instr.index 81 (.agg #[.int .u64 t,.int .u64 d,.int .u64 s]) (.int .i64 2)).run Tryz.prog w=.ok (.int .u64 s) w:=fun _=>by kernel_rfl
 obtain ⟨M1,m1,e1,f1,g1⟩:=max_min d t
 obtain ⟨M2,m2,e2,f2,g2⟩:=max_min s t
 obtain ⟨M3,m3,e3,f3,g3⟩:=max_min s d
 have hg:goodB t d s r=decide ((r % 4=0/\8192<=r/\r<=134217724)/\(t % 4096=0/\t<=2305843009213693952)/\(d % 4096=0/\d<=2305843009213693952)/\(s % 4096=0/\s<=2305843009213693952)/\16777216<=M1 - m1/\16777216<=M2 - m2/\16777216<=M3 - m3):=by
  rw [Bool.eq_iff_iff]
  simp only [goodB,evB,Bool.and_eq_true,decide_eq_true_eq,g1,g2,g3]
  omega
 have HG:=Lib.hid hg
 clear hg g1 g2 g3
 have tm:r.tmod 4=0 ↔ r % 4=0:=by rw [<-Int.dvd_iff_tmod_eq_zero,Int.dvd_iff_emod_eq_zero]
 go_enter Tryz.func9,Tryz.ntmps9
 go_wp2
 iterate 12
  all_goals first
   | (go_ret;refine retB_bool ?_ (by repeat (first | exact Below.refl _ _ | refine Below.alloc ?_ (by simp) _));rw [HG.out];first | rfl | (symm;rw [decide_eq_true_eq];omega) | (symm;rw [decide_eq_false_iff_not];omega))
   | (refine wp_loop_rounds 4 ?_;rw [rounds_succ];go_wp2)
   | (rw [rounds_succ];go_wp2)
open Go.RowKit
abbrev Bk:=Int × Int
def encB (b:Bk):List Value:=[.int .i64 b.1,.int .i64 b.2]
theorem encB_len (b:Bk):(encB b).length=2:=rfl
def encU (x:Int):List Value:=[.int .u64 x]
theorem encU_len (x:Int):(encU x).length=1:=rfl
def i64B (x:Int):Prop := -9223372036854775808<=x/\x<=9223372036854775807
def bkB (b:Bk):Prop:=i64B b.1/\i64B b.2
def okB (b:Bk):Bool:=decide (0<=b.1/\b.1<=16384/\0<=b.2/\b.2<=12)
def layL:List Bk->Int->List Int × Int
 | [],e=>([],e)
 | b :: r,e=>((upS e b.2).1 :: (layL r ((upS e b.2).1+b.1)).1,(layL r ((upS e b.2).1+b.1)).2)
def layS (l:List Bk) (base:Int):List Int × Int × Int:=
 if l.all okB=false then ([],0,1) else if 256 < l.length then ([],0,2) else if 4611686018427387904 < base then ([],0,4) else ((layL l base).1,(layL l base).2,0)
theorem grownBy_step {w w':World} {b:Nat} {u:Value} (h:w.grownBy w' (some b)):w.grownBy (w'.setCell ⟨b,0,none⟩ u) (some b):=
 ⟨h.os,h.tape,h.output,by have:=h.size;simp [World.setCell];omega,fun k hk hne=>by
  rw [<-h.block k hk hne]
  exact Below.heap_setCell _ _ _ _ (by simp at hne ⊢;omega)⟩
theorem grownBy_alloc' {w w':World} {row:Option Nat} (h:w.grownBy w' row) (o:Obj):w.grownBy (w'.alloc o) row:=
 ⟨h.os,h.tape,h.output,by have:=h.size;simp;omega,fun k hk hne=>(Below.heap_alloc _ _ _ (by have:=h.size;omega)).trans (h.block k hk hne)⟩
def LayClo (w:World) (B:Nat) (e s:Int) (al:Int) (en:Ending) (w':World):Prop:=
 en=.returned (.int .u64 (upS e al).1)/\w'.heap[B]?=some (.cells #[.int .u64 ((upS e al).1+s)] 26 (0,0))/\w.grownBy w' (some B)
theorem clo_any (s al e:Int) (B:Nat) (w:World) (s0:0<=s) (s1:s<=16384) (a0:0<=al) (a1:al<=12) (e0:0<=e) (e1:e<=9000000000000000000)
  (hB:w.heap[B]?=some (.cells #[.int .u64 e] 26 (0,0))):
  Calls Tryz.prog 78 #[.agg #[.int .i64 s,.int .i64 al],.pointer (some ⟨B,0,none⟩)] w (LayClo w B e s al):=by
 have hlt:=lt_of_block hB
 have hc:=cell_of_one hB
 have hf:=free_of_one hB
 have hu:=up_facts e al e0 (by omega) a0 a1
 have hp:=pow12 al a1
 have hx:(upS e al)=((upS e al).1,0):=by rw [upS2 a0 a1 (by omega)]
 have hx1:(upS e al).1=(e+(2 ^ al.toNat - 1)) / 2 ^ al.toNat*2 ^ al.toNat:=by rw [upS2 a0 a1 (by omega)]
 rw [<-hx1] at hu
 obtain ⟨u,hU⟩:∃ u,u=(upS e al).1:=⟨_,rfl⟩
 rw [<-hU] at hu hx
 have HU:=Lib.hid hU
 have hup:=up_any e al
 rw [hx] at hup
 have HUP:=Lib.hid hup
 have HB:=Lib.hid hB
 obtain ⟨u1,u2,-⟩:=hu
 clear hx hx1 hU hup hB
 go_enter Tryz.func78,Tryz.ntmps78
 go_wp2_with (go_at_call 79;refine (HUP.out _ (by omega) (by omega)).mono ?_;rintro e w' ⟨rfl,rfl⟩)
 go_ret
 refine ⟨by rw [<-HU.out];rfl,?_,?_⟩
 ·rw [<-HU.out]
  exact (Below.heap_alloc _ _ _ (by simp [World.setCell];exact hlt)).trans (one_setCell HB.out)
 ·exact grownBy_alloc' (grownBy_step (World.grownBy.refl _ _)) _
theorem one_one (u:Int):∀ x ∈ [Value.int .u64 u],x.oneCell'=true:=by
 intro x hx
 simp only [List.mem_cons,List.mem_nil_iff,or_false] at hx
 subst hx;rfl
theorem own_next {w w':World} {b:Nat} {e:TypeId} {size:Nat} {v:Value} {n:Nat} {xs:List Value} (h:w.ownsRow b e size v n xs) (hb:Below w.heap.size w w'):w'.ownsRow b e size v n xs:=by
 refine ⟨h.1,?_⟩
 rcases h.2 with hn | ⟨g,cap,cur,hv,hbg,hgg,rest⟩
 ·exact .inl hn
 ·exact .inr ⟨g,cap,cur,hv,hbg,(hb.block g (lt_of_block hgg)).trans hgg,rest⟩
theorem own_down {w:World} {b b':Nat} {e:TypeId} {size:Nat} {v:Value} {n:Nat} {xs:List Value} (h:w.ownsRow b' e size v n xs) (hb:b<=b'):w.ownsRow b e size v n xs:=by
 refine ⟨h.1,?_⟩
 rcases h.2 with h1 | ⟨g,cap,cur,e1,e2,e3⟩
 ·exact .inl h1
 ·exact .inr ⟨g,cap,cur,e1,by omega,e3⟩
def LayPost (w:World) (p:List Int × Int × Int) (e:Ending) (w':World):Prop:=
 ∃ a n c,e=.returned (.tuple #[.slice a n c,.int .u64 p.2.1,.int .i64 p.2.2])/\SL encU 1 w' w'.heap.size a n p.1/\(a=none->n=0/\c=0)/\Below w.heap.size w w'/\w'.ownsRow w.heap.size 26 1 (.slice a n c) n (p.1.flatMap encU)
theorem info26:(Tryz.prog.info? 26).map (fun i=>(i.zero,i.size,i.bytes))=some (some (.int .u64 0),1,8):=by kernel_rfl
theorem lay_any (a:Option Addr) (n c:Nat) (l:List Bk) (base:Int) (w:World) (hn:n<=600) (h:SL encB 2 w w.heap.size a n l) (hg:∀ b ∈ l,bkB b) (b0:0<=base) (b1:base < 18446744073709551616):
  Calls Tryz.prog 53 #[.slice a n c,.int .u64 base] w (LayPost w (layS l base)):=by
 go_enter Tryz.func53,Tryz.ntmps53
 go_wp2
 go_loopw [16] (fun i wr=>∃ k:Nat,k<=n/\i=.int .i64 k/\(∀ j (h:j < l.length),j < k->okB l[j]=true)/\Below w.heap.size w wr) (fun i _=>n - (intOf i).toNat)
 case atStart=>exact ⟨0,by omega,rfl,by intro j _ hj;omega,Below.refl _ _⟩
 case round=>
  obtain ⟨k,hk,rfl,hok,hb⟩:=hrel
  have hlen:=h.len
  have HOK:=Lib.hid hok
  clear hok
  by_cases hlt:k < n
  ·have hkl:k < l.length:=by omega
   obtain ⟨b,off,rfl,hB,hc⟩:=(h.below hb).cells (h.ne hlt)
   have c0:=hc k hkl 0 (by omega)
   have c1:=hc k hkl 1 (by omega)
   obtain ⟨⟨g0,g1⟩,g2,g3⟩:=hg l[k] (List.getElem_mem _)
   obtain ⟨f,hf⟩:∃ f,f=l[k]:=⟨_,rfl⟩
   rw [<-hf] at c0 c1 g0 g1 g2 g3
   obtain ⟨S,A⟩:=f
   simp only [encB,Nat.add_zero,List.getElem?_cons_zero,List.getElem?_cons_succ] at c0 c1
   have HF:=Lib.hid hf
   have HL:=Lib.hid hlen
   clear hc hf hlen h hg
   by_cases hk0:0<=S/\S<=16384/\0<=A/\A<=12
   ·obtain ⟨k1,k2,k3,k4⟩:=hk0
    go_wp2
    go_roundw
    case rel=>
     refine ⟨k+1,by omega,by go_num,?_,hb.alloc hb.size _⟩
     intro j hj hjk
     by_cases e:j=k
     ·subst e;rw [<-HF.out];simp [okB];omega
     ·exact HOK.out j hj (by omega)
    case measure=>simp [intOf];omega
   ·have hno:layS l base=([],0,1):=by
     unfold layS
     rw [if_pos]
     rw [List.all_eq_false]
     exact ⟨_,List.getElem_mem hkl,by rw [<-HF.out];simp [okB];omega⟩
    have HNO:=Lib.hid hno
    have hk1:S < 0\/(0<=S/\16384 < S)\/(0<=S/\S<=16384/\A < 0)\/(0<=S/\S<=16384/\0<=A/\12 < A):=by omega
    clear hk0 hno
    rcases hk1 with k1 | ⟨k1,k2⟩ | ⟨k1,k2,k3⟩ | ⟨k1,k2,k3,k4⟩
    all_goals
     go_wp2
     go_ret3
     exact ⟨none,0,0,by rw [HNO.out];rfl,by rw [HNO.out];exact SL.nil _ _ _,fun _=>⟨rfl,rfl⟩,hb.alloc hb.size _,by rw [HNO.out];exact World.ownsRow_nil _ _ _ _⟩
  ·have hall:∀ x ∈ l,okB x=true:=by
    intro x hx
    obtain ⟨j,hj,rfl⟩:=List.getElem_of_mem hx
    exact HOK.out j hj (by omega)
   have HA:=Lib.hid hall
   have HL:=Lib.hid hlen
   clear hlen hall HOK
   have hnf:¬ l.all okB=false:=by rw [List.all_eq_false];intro ⟨x,hx,hn⟩;exact hn (HA.out x hx)
   have HNF:=Lib.hid hnf
   clear hnf
   by_cases h256:256 < n
   ·have hno:layS l base=([],0,2):=by
     unfold layS
     rw [if_neg HNF.out,if_pos (by have:=HL.out;omega)]
    have HNO:=Lib.hid hno
    clear hno h
    go_wp2
    go_ret3
    exact ⟨none,0,0,by rw [HNO.out];rfl,by rw [HNO.out];exact SL.nil _ _ _,fun _=>⟨rfl,rfl⟩,hb,by rw [HNO.out];exact World.ownsRow_nil _ _ _ _⟩
   by_cases h62:4611686018427387904 < base
   ·have hno:layS l base=([],0,4):=by
     unfold layS
     rw [if_neg HNF.out,if_neg (by have:=HL.out;omega),if_pos h62]
    have HNO:=Lib.hid hno
    clear hno h
    go_wp2
    go_ret3
    exact ⟨none,0,0,by rw [HNO.out];rfl,by rw [HNO.out];exact SL.nil _ _ _,fun _=>⟨rfl,rfl⟩,hb,by rw [HNO.out];exact World.ownsRow_nil _ _ _ _⟩
   have hno:layS l base=((layL l base).1,(layL l base).2,0):=by
    unfold layS
    rw [if_neg HNF.out,if_neg (by have:=HL.out;omega),if_neg h62]
   have HNO:=Lib.hid hno
   clear hno
   obtain ⟨i0,hi,hz0,hz1,hz2⟩:=info_parts info26
   go_wp2
   obtain ⟨B,hBd⟩:∃ B:Nat,B=wr.heap.size:=⟨_,rfl⟩
   have hb2:=hb.alloc hb.size (.cells #[.int .u64 base] 26)
   have hblk:(wr.alloc (.cells #[.int .u64 base] 26)).heap[B]?=some (.cells #[.int .u64 base] 26 (0,0)):=by rw [hBd];exact (MapKept.heap_alloc wr _).1
   have hBs:=hb.size
   rw [<-hBd] at hBs ⊢
   obtain ⟨wo,ho⟩:∃ wo:World,wo=wr.alloc (.cells #[.int .u64 base] 26):=⟨_,rfl⟩
   rw [<-ho] at hb2 hblk ⊢
   have h':=Lib.hid h
   have hg':=Lib.hid hg
   clear ho hBd hb h hg
   go_loopw [11,48] (fun v i wl=>∃ (k:Nat) (e:Int) (acc:List Int),k<=n/\i=.int .i64 k/\wl.ownsRow (B+1) 26 1 v k (acc.flatMap encU)/\wl.heap[B]?=some (.cells #[.int .u64 e] 26 (0,0))/\
    0<=e/\e<=4611686018427387904+k*20480/\layL l base=(acc ++ (layL (l.drop k) e).1,(layL (l.drop k) e).2)/\Below w.heap.size w wl) (fun _ i _=>n - (intOf i).toNat)
   case atStart=>exact ⟨0,base,[],by omega,rfl,World.ownsRow_nil _ _ _ _,hblk,b0,by omega,rfl,hb2⟩
   case round=>
    clear hb2 hblk
    obtain ⟨k,e,acc,hk,rfl,hown,hblk,e0,e1,hlay,hb⟩:=hrel
    have HLAY:=Lib.hid hlay
    clear hlay
    by_cases hlt:k < n
    ·have hkl:k < l.length:=by have:=HL.out;omega
     obtain ⟨b,off,rfl,hBb,hc⟩:=(h'.out.below hb).cells (h'.out.ne hlt)
     have c0:=hc k hkl 0 (by omega)
     have c1:=hc k hkl 1 (by omega)
     have hokk:=HA.out _ (List.getElem_mem hkl)
     have hd:=drop_cons hkl
     generalize l[k]=f at c0 c1 hokk hd
     obtain ⟨S,A⟩:=f
     simp only [encB,Nat.add_zero,List.getElem?_cons_zero,List.getElem?_cons_succ] at c0 c1
     have HD:=Lib.hid hd
     obtain ⟨k1,k2,k3,k4⟩:=of_decide_eq_true hokk
     replace k1:0<=S:=k1
     replace k2:S<=16384:=k2
     replace k3:0<=A:=k3
     replace k4:A<=12:=k4
     have HOWN:=Lib.hid hown
     have HBLK:=Lib.hid hblk
     have hBlt:=lt_of_block hblk
     clear hc hd hokk hown hblk
     go_wp2_with fail
     refine (clo_any S A e B _ k1 k2 k3 k4 e0 (by omega) ((Below.heap_alloc _ _ _ hBlt).trans HBLK.out)).mono ?_
     rintro en w1 ⟨rfl,hblk1,hgr⟩
     have hown1:=(HOWN.out.alloc (.cells #[.int .i64 S,.int .i64 A] 122)).kept hgr (by
      right;intro hh;have:=(HOWN.out.lt B hh).1;omega)
     have hu:=up_facts e A e0 (by omega) k3 k4
     have hp:=pow12 A k4
     have hx1:(upS e A).1=(e+(2 ^ A.toNat - 1)) / 2 ^ A.toNat*2 ^ A.toNat:=by rw [upS2 k3 k4 (by omega)]
     rw [<-hx1] at hu
     obtain ⟨u,hU⟩:∃ u,u=(upS e A).1:=⟨_,rfl⟩
     rw [<-hU] at hu hblk1 ⊢
     obtain ⟨u1,u2,-⟩:=hu
     have HU:=Lib.hid hU
     have HB1:=Lib.hid hblk1
     have hB1:=lt_of_block hblk1
     have hbw1:Below w.heap.size w w1:=(hb.alloc hb.size _).grown hgr (by have:=hb.size;simp;omega) (by intro j hj;cases hj;exact hBs)
     have hs1:=hbw1.size
     clear hgr hx1 hU hblk1 HOWN HBLK
     have hm:k+1<=maxLen:=by unfold maxLen;omega
     have hby:(k+1)*8<=140737488355328:=by omega
     go_wp2_with (at_builtin;refine wpList_append_own _ rfl _ _ 30 rfl (B+1) 26 i0 (.int .u64 0) 1 8 Tryz.underlying30 hi hz0 hz1 hz2 rfl (by decide) _ k (acc.flatMap encU) rfl (hown1.alloc _) ⟨w1.heap.size,0,none⟩ 1 1 [.int .u64 u] rfl rfl (cell_one_new _ _ _) (one_one u) hm hby (by simp;omega) ?_;intro v' w2 hown2 hgrow2 hiff)
     go_roundw
     case rel=>
      have hB2:w2.heap[B]?=some (.cells #[.int .u64 (u+S)] 26 (0,0)):=by
       rw [hgrow2.block B (by simp;omega) (by intro hh;have:=(hown1.lt B hh.symm).1;omega),Below.heap_alloc _ _ _ hB1]
       exact HB1.out
      refine ⟨k+1,u+S,acc ++ [u],by omega,by go_num,?_,hB2,by omega,by omega,?_,?_⟩
      ·simpa [encU] using hown2
      ·rw [HLAY.out,HD.out,layL]
       simp [<-HU.out]
      ·exact (hbw1.alloc hbw1.size _).grown hgrow2 (by simp;omega) (fun j hj=>by have:=(hown1.lt j hj).1;omega)
     case measure=>simp [intOf];omega
    ·have hcell:=cell_of_one hblk
     have HOWN:=Lib.hid hown
     clear hblk hown
     go_wp2
     go_quiet (fail)
     go_wp2
     go_ret3
     have hkn:k=n:=by omega
     have hown:=HOWN.out
     rw [hkn] at hown
     have hl:layL l base=(acc,e):=by
      rw [HLAY.out,List.drop_of_length_le (by have:=HL.out;omega)];simp [layL]
     obtain ⟨a',c',rfl,hsl,hnil⟩:=SL.ofOwns encU_len (by omega) hown
     have hfin:layS l base=(acc,e,0):=by rw [HNO.out,hl]
     refine ⟨a',n,c',?_,?_,hnil,below_drewN hb _,?_⟩
     ·rw [hfin];rfl
     ·rw [hfin];exact hsl.next (below_refl_drewN _ _)
     ·rw [hfin];exact own_next (own_down hown (by omega)) (below_refl_drewN _ _)
end Pl
end Go.Proofs.YtobdldadfipcgaaGreatDoor
namespace Go.Proofs.YtobdldadfipcgaaGreatDoor
open Go.ChangeShapes Go.WideShapes Go.Deep Go.RowKit
open Go.Proofs.YtobdldadfipcgaaGreatDoor.Pl (Bk layL layS upS nearB goodB)
abbrev Vn:=Int × Int × Int
def lenN (S:List Sc) (k:Nat):Nat:=match S[k]? with | some s=>s.data.length | none=>0
def relN (S:List Sc) (k:Nat):List Rl:=match S[k]? with | some s=>s.rels | none=>[]
def standB (live:List Nat) (k:Int):Bool:=decide (0<=k) && decide (k.toNat ∈ live)
def codeB (S:List Sc) (live:List Nat) (k:Int):Bool:=standB live k && decide (kindN S k.toNat=1)
def cntV (v:List Vn) (k:Int):Nat:=(v.filter (fun x=>decide (x.1=k))).length
def rightV (S:List Sc) (live:List Nat):List Vn->List Vn->Bool
 | _,[]=>true
 | seen,x :: t=>if x ∈ seen\/codeB S live x.1=false\/standB live x.2.1=false then false else if 64 < cntV (seen ++ [x]) x.1 then false else rightV S live (seen ++ [x]) t
def endN (S:List Sc) (k:Nat):Nat:=(lenN S k+3) / 4*4
def vtxB (S:List Sc) (v:List Vn) (l:List (Nat × Int)):List Bk:=l.filterMap (fun x=>if kindN S x.1=1 then some ((endN S x.1+12*cntV v x.1:Nat),max x.2 2) else none)
def vdatB (S:List Sc) (l:List (Nat × Int)):List Bk:=l.filterMap (fun x=>if kindN S x.1=1 then none else some ((lenN S x.1:Nat),x.2))
def placesV (S:List Sc) (live:List Nat) (align:List Int) (t d:Int) (v:List Vn):List Int:=
 (layL (vtxB S v (live.zip align)) t).1 ++ (layL (vdatB S (live.zip align)) d).1
def plcN (live:List Nat) (P:List Int) (k:Int):Int:=(P[live.idxOf k.toNat]?).getD 0
def venR (S:List Sc) (live:List Nat) (P:List Int):List Vn->List Vn->List Int
 | _,[]=>[]
 | seen,x :: t=>(plcN live P x.1+((endN S x.1.toNat+12*cntV seen x.1:Nat):Int)) :: venR S live P (seen ++ [x]) t
def venL (S:List Sc) (live:List Nat) (P:List Int) (v:List Vn):List Int:=venR S live P [] v
def repN (rep:List Int) (s:Int):Int:=(rep[s.toNat]?).getD 0
def vnOf (rep:List Int) (k:Nat) (r:Rl):Vn:=((k:Int),repN rep r.sym,r.add)
def goalN (live:List Nat) (P:List Int) (x:Vn):Int:=(plcN live P x.2.1+x.2.2) % 18446744073709551616
def callsK (S:List Sc) (k:Nat):List (Nat × Rl):=if kindN S k=1 then ((relN S k).filter (fun r=>decide (r.kind=2))).map (fun r=>(k,r)) else []
def callsL (S:List Sc) (live:List Nat):List (Nat × Rl):=live.flatMap (callsK S)
def isNear (live:List Nat) (P:List Int) (rep:List Int) (R:Int) (c:Nat × Rl):Bool:=nearB ((plcN live P (c.1:Int)+c.2.pos) % 18446744073709551616) (goalN live P (vnOf rep c.1 c.2)) R
def addV (v:List Vn) (l:List Vn) (x:Vn):List Vn:=if x ∈ v\/x ∈ l then l else l ++ [x]
def stepW (live:List Nat) (P:List Int) (rep:List Int) (R:Int) (v:List Vn) (l:List Vn) (c:Nat × Rl):List Vn:=if isNear live P rep R c=true then l else addV v l (vnOf rep c.1 c.2)
def wantsL (S:List Sc) (live:List Nat) (P:List Int) (rep:List Int) (R:Int) (v:List Vn):List Vn:=(callsL S live).foldl (stepW live P rep R v) []
theorem stepW_inv {live:List Nat} {P rep:List Int} {R:Int} {v:List Vn} {C:List (Nat × Rl)}:
  ∀ (cs:List (Nat × Rl)) (l:List Vn),(∀ c ∈ cs,c ∈ C)->l.Nodup->(∀ x ∈ l,x ∉ v/\x ∈ C.map (fun c=>vnOf rep c.1 c.2))->
  (cs.foldl (stepW live P rep R v) l).Nodup/\(∀ x ∈ cs.foldl (stepW live P rep R v) l,x ∉ v/\x ∈ C.map (fun c=>vnOf rep c.1 c.2))/\(∀ x ∈ l,x ∈ cs.foldl (stepW live P rep R v) l)/\
  (∀ c ∈ cs,isNear live P rep R c=true\/vnOf rep c.1 c.2 ∈ v\/vnOf rep c.1 c.2 ∈ cs.foldl (stepW live P rep R v) l)
 | [],l,_,hn,hx=>⟨hn,hx,fun x h=>h,fun c hc=>by cases hc⟩
 | c :: t,l,hc,hn,hx=>by
  have key:(stepW live P rep R v l c).Nodup/\(∀ x ∈ stepW live P rep R v l c,x ∉ v/\x ∈ C.map (fun c=>vnOf rep c.1 c.2))/\(∀ x ∈ l,x ∈ stepW live P rep R v l c)/\(isNear live P rep R c=true\/vnOf rep c.1 c.2 ∈ v\/vnOf rep c.1 c.2 ∈ stepW live P rep R v l c):=by
   unfold stepW
   split
   ·rename_i h;exact ⟨hn,hx,fun x h=>h,.inl h⟩
   ·unfold addV
    split
    ·rename_i h2;exact ⟨hn,hx,fun x h=>h,h2.elim (fun a=>.inr (.inl a)) (fun a=>.inr (.inr a))⟩
    ·rename_i h2
     have h3:vnOf rep c.1 c.2 ∉ v:=fun h=>h2 (.inl h)
     have h4:vnOf rep c.1 c.2 ∉ l:=fun h=>h2 (.inr h)
     refine ⟨?_,fun x hx'=>?_,fun x h=>List.mem_append_left _ h,.inr (.inr (by simp))⟩
     ·rw [List.nodup_append]
      exact ⟨hn,by simp,fun a ha b hb e=>by rw [List.mem_singleton] at hb;subst e;subst hb;exact h4 ha⟩
     ·rcases List.mem_append.1 hx' with h | h
      ·exact hx x h
      ·rw [List.mem_singleton.1 h]
       exact ⟨h3,List.mem_map.2 ⟨c,hc c (List.mem_cons_self ..),rfl⟩⟩
  obtain ⟨k1,k2,k3,k4⟩:=key
  obtain ⟨g1,g2,g3,g4⟩:=stepW_inv t (stepW live P rep R v l c) (fun c' hc'=>hc c' (List.mem_cons_of_mem _ hc')) k1 k2
  refine ⟨g1,g2,fun x h=>g3 x (k3 x h),fun c' hc'=>?_⟩
  rcases List.mem_cons.1 hc' with rfl | hc'
  ·rcases k4 with k4 | k4 | k4
   ·exact .inl k4
   ·exact .inr (.inl k4)
   ·exact .inr (.inr (g3 _ k4))
  ·exact g4 c' hc'
theorem wants_inv (S:List Sc) (live:List Nat) (P rep:List Int) (R:Int) (v:List Vn):
  (wantsL S live P rep R v).Nodup/\(∀ x ∈ wantsL S live P rep R v,x ∉ v/\x ∈ (callsL S live).map (fun c=>vnOf rep c.1 c.2))/\
  (∀ c ∈ callsL S live,isNear live P rep R c=true\/vnOf rep c.1 c.2 ∈ v\/vnOf rep c.1 c.2 ∈ wantsL S live P rep R v):=by
 obtain ⟨a1,a2,-,a4⟩:=stepW_inv (live:=live) (P:=P) (rep:=rep) (R:=R) (v:=v) (C:=callsL S live) (callsL S live) [] (fun c h=>h) List.nodup_nil (fun x hx=>by cases hx)
 exact ⟨a1,a2,a4⟩
theorem nodup_le:∀ (l C:List Vn),l.Nodup->(∀ x ∈ l,x ∈ C)->l.length<=C.length
 | [],_,_,_=>Nat.zero_le _
 | a :: t,C,hn,hs=>by
  obtain ⟨h1,h2⟩:=List.nodup_cons.1 hn
  have ha:=hs a (List.mem_cons_self ..)
  have h3:=nodup_le t (C.erase a) h2 (fun x hx=>(List.mem_erase_of_ne (by rintro rfl;exact h1 hx)).2 (hs x (List.mem_cons_of_mem _ hx)))
  have h4:=List.length_erase_of_mem ha
  have h5:0 < C.length:=List.length_pos_of_mem ha
  rw [List.length_cons];omega
def vensN (W:List Vn->List Vn):Nat->List Vn
 | 0=>[]
 | n+1=>vensN W n ++ W (vensN W n)
section
variable {W:List Vn->List Vn} {C:List Vn} (hW:∀ v,(W v).Nodup/\∀ x ∈ W v,x ∉ v/\x ∈ C)
include hW
theorem vens_inv:∀ n,(vensN W n).Nodup/\∀ x ∈ vensN W n,x ∈ C
 | 0=>⟨List.nodup_nil,fun x hx=>by cases hx⟩
 | n+1=>by
  obtain ⟨h1,h2⟩:=vens_inv n
  obtain ⟨k1,k2⟩:=hW (vensN W n)
  refine ⟨?_,fun x hx=>?_⟩
  ·show (vensN W n ++ W (vensN W n)).Nodup
   rw [List.nodup_append]
   exact ⟨h1,k1,fun a ha b hb e=>by subst e;exact (k2 a hb).1 ha⟩
  ·rcases List.mem_append.1 hx with h | h
   ·exact h2 x h
   ·exact (k2 x h).2
theorem vens_len (n:Nat):(vensN W n).length<=C.length:=
 nodup_le _ _ (vens_inv hW n).1 (vens_inv hW n).2
omit hW in
theorem vens_grow (n:Nat) (h:∀ m,m < n->W (vensN W m) ≠ []):n<=(vensN W n).length:=by
 induction n with
 | zero=>exact Nat.zero_le _
 | succ n ih=>
  have h1:=ih fun m hm=>h m (by omega)
  have h2:0 < (W (vensN W n)).length:=by
   have:=h n (by omega)
   cases e:W (vensN W n) with
   | nil=>exact absurd e this
   | cons=>simp
  show n+1<=(vensN W n ++ W (vensN W n)).length
  rw [List.length_append];omega
theorem vens_ends (n:Nat) (h:∀ m,m < n->W (vensN W m) ≠ []):n<=C.length:=Nat.le_trans (vens_grow n h) (vens_len hW n)
end
theorem cnt_app (a b:List Vn) (k:Int):cntV (a ++ b) k=cntV a k+cntV b k:=by unfold cntV;rw [List.filter_append,List.length_append]
theorem cnt_one (x:Vn) (k:Int):cntV [x] k=if x.1=k then 1 else 0:=by
 unfold cntV
 by_cases h:x.1=k
 ·rw [List.filter_cons_of_pos (by simpa using h),if_pos h];rfl
 ·rw [List.filter_cons_of_neg (by simpa using h),if_neg h];rfl
theorem rightV_iff (S:List Sc) (live:List Nat):∀ (v seen:List Vn),(∀ k,cntV seen k<=64)->seen.Nodup->(rightV S live seen v=true ↔ (seen ++ v).Nodup/\(∀ x ∈ v,codeB S live x.1=true/\standB live x.2.1=true)/\∀ k,cntV (seen ++ v) k<=64)
 | [],seen,hc,hn=>by
  unfold rightV
  simp only [List.append_nil,true_iff]
  exact ⟨hn,(fun x hx=>by cases hx),hc⟩
 | x :: t,seen,hc,hn=>by
  have e:seen ++ x :: t=(seen ++ [x]) ++ t:=by simp
  unfold rightV
  constructor
  ·intro h
   split at h
   ·cases h
   ·rename_i c
    split at h
    ·cases h
    ·rename_i c2
     have h1:x ∉ seen:=fun hh=>c (.inl hh)
     have h2:codeB S live x.1=true:=by cases hh:codeB S live x.1;exact absurd (.inr (.inl hh)) c;rfl
     have h3:standB live x.2.1=true:=by cases hh:standB live x.2.1;exact absurd (.inr (.inr hh)) c;rfl
     have hn':(seen ++ [x]).Nodup:=by
      rw [List.nodup_append]
      exact ⟨hn,by simp,fun a ha b hb e=>by rw [List.mem_singleton] at hb;subst e;subst hb;exact h1 ha⟩
     have hc':∀ k,cntV (seen ++ [x]) k<=64:=fun k=>by
      by_cases hk:x.1=k
      ·subst hk;omega
      ·rw [cnt_app,cnt_one,if_neg hk];exact hc k
     obtain ⟨a1,a2,a3⟩:=(rightV_iff S live t (seen ++ [x]) hc' hn').1 h
     rw [e]
     refine ⟨a1,fun y hy=>?_,a3⟩
     rcases List.mem_cons.1 hy with rfl | hy
     ·exact ⟨h2,h3⟩
     ·exact a2 y hy
  ·rintro ⟨a1,a2,a3⟩
   rw [e] at a1 a3
   obtain ⟨b1,b2⟩:=a2 x (List.mem_cons_self ..)
   have hn':(seen ++ [x]).Nodup:=(List.nodup_append.1 a1).1
   have hc':∀ k,cntV (seen ++ [x]) k<=64:=fun k=>by have:=a3 k;rw [cnt_app] at this;omega
   have h1:x ∉ seen:=fun hh=>(List.nodup_append.1 hn').2.2 x hh x (by simp) rfl
   rw [if_neg,if_neg]
   ·exact (rightV_iff S live t (seen ++ [x]) hc' hn').2 ⟨a1,fun y hy=>a2 y (List.mem_cons_of_mem _ hy),a3⟩
   ·have:=hc' x.1;omega
   ·rintro (c | c | c)
    ·exact h1 c
    ·rw [b1] at c;cases c
    ·rw [b2] at c;cases c
theorem rightV_of {S:List Sc} {live:List Nat} {v:List Vn}:rightV S live [] v=true ↔ v.Nodup/\(∀ x ∈ v,codeB S live x.1=true/\standB live x.2.1=true)/\∀ k,cntV v k<=64:=by
 have:=rightV_iff S live v [] (fun k=>by simp [cntV]) List.nodup_nil
 simpa using this
structure LeftQ (S:List Sc) (rep:List Int) (live:List Nat) (align:List Int):Prop where
 nd:live.Nodup
 al:align.length=live.length
 a0:∀ a ∈ align,0<=a/\a<=12
 inn:∀ k ∈ live,∃ s,S[k]?=some s/\s.data.length<=4096/\s.rels.length<=64/\∀ r ∈ s.rels,0<=r.pos/\r.pos<=s.data.length/\standB live (repN rep r.sym)=true
 n256:live.length<=256
 up:∀ i j (hi:i < live.length) (hj:j < live.length),i<=j->kindN S live[j]=1->kindN S live[i]=1
theorem codeB_of {S:List Sc} {live:List Nat} {k:Nat} (h:k ∈ live) (hk:kindN S k=1):codeB S live (k:Int)=true:=by
 unfold codeB standB
 simp only [Bool.and_eq_true,decide_eq_true_eq,Int.toNat_natCast]
 exact ⟨⟨by omega,h⟩,hk⟩
theorem calls_mem {S:List Sc} {live:List Nat} {c:Nat × Rl}:c ∈ callsL S live ↔ c.1 ∈ live/\kindN S c.1=1/\c.2 ∈ relN S c.1/\c.2.kind=2:=by
 unfold callsL callsK
 simp only [List.mem_flatMap]
 constructor
 ·rintro ⟨k,hk,hc⟩
  split at hc
  ·rename_i h1
   obtain ⟨r,hr,rfl⟩:=List.mem_map.1 hc
   obtain ⟨hr1,hr2⟩:=List.mem_filter.1 hr
   exact ⟨hk,h1,hr1,of_decide_eq_true hr2⟩
  ·cases hc
 ·rintro ⟨h1,h2,h3,h4⟩
  refine ⟨c.1,h1,?_⟩
  rw [if_pos h2]
  exact List.mem_map.2 ⟨c.2,List.mem_filter.2 ⟨h3,decide_eq_true h4⟩,rfl⟩
theorem calls_right {S:List Sc} {rep:List Int} {live:List Nat} {align:List Int} (h:LeftQ S rep live align) {v:List Vn} (hn:v.Nodup) (hv:∀ x ∈ v,x ∈ (callsL S live).map (fun c=>vnOf rep c.1 c.2)):rightV S live [] v=true:=by
 rw [rightV_of]
 refine ⟨hn,fun x hx=>?_,fun k=>?_⟩
 ·obtain ⟨c,hc,rfl⟩:=List.mem_map.1 (hv x hx)
  obtain ⟨c1,c2,c3,c4⟩:=calls_mem.1 hc
  refine ⟨codeB_of c1 c2,?_⟩
  obtain ⟨s,hs,-,-,hr⟩:=h.inn c.1 c1
  have e:relN S c.1=s.rels:=by unfold relN;rw [hs]
  rw [e] at c3
  exact (hr c.2 c3).2.2
 ·unfold cntV
  by_cases hk:0<=k/\k.toNat ∈ live
  ·obtain ⟨s,hs,-,hl,-⟩:=h.inn k.toNat hk.2
   have e:relN S k.toNat=s.rels:=by unfold relN;rw [hs]
   have h2:=nodup_le (v.filter (fun x=>decide (x.1=k))) ((relN S k.toNat).map (fun r=>vnOf rep k.toNat r)) (hn.sublist List.filter_sublist) (fun x hx=>by
    obtain ⟨hx1,hx2⟩:=List.mem_filter.1 hx
    obtain ⟨c,hc,rfl⟩:=List.mem_map.1 (hv x hx1)
    have hx3:((c.1:Nat):Int)=k:=of_decide_eq_true hx2
    obtain ⟨-,-,c3,-⟩:=calls_mem.1 hc
    have hck:k.toNat=c.1:=by omega
    rw [hck]
    exact List.mem_map.2 ⟨c.2,c3,rfl⟩)
   rw [List.length_map,e] at h2
   omega
  ·have:v.filter (fun x=>decide (x.1=k))=[]:=by
    rw [List.filter_eq_nil_iff]
    intro x hx hd
    obtain ⟨c,hc,rfl⟩:=List.mem_map.1 (hv x hx)
    obtain ⟨c1,-⟩:=calls_mem.1 hc
    have hx3:((c.1:Nat):Int)=k:=of_decide_eq_true hd
    exact hk ⟨by omega,by rw [<-hx3];simpa using c1⟩
   rw [this];simp
end Go.Proofs.YtobdldadfipcgaaGreatDoor
namespace Go.Proofs.YtobdldadfipcgaaGreatDoor
open Go.ChangeShapes Go.WideShapes Go.Deep Go.RowKit
open Go.Proofs.YtobdldadfipcgaaGreatDoor.Pl (Bk layL layS upS nearB goodB)
theorem up_bd {a n:Int} (h0:0<=n) (h1:n<=12) (a0:0<=a) (a1:a<=9223372036854775808):a<=(upS a n).1/\(upS a n).1<=a+4095:=by
 have e:upS a n=((a+(2 ^ n.toNat - 1)) / 2 ^ n.toNat*2 ^ n.toNat,0):=by
  unfold upS;rw [if_neg (by omega),if_neg (by omega)]
 rw [e]
 simp only
 have h2:n.toNat<=12:=by omega
 generalize n.toNat=m at h2
 have hm:(2:Int) ^ m ∈ [(1:Int),2,4,8,16,32,64,128,256,512,1024,2048,4096]:=by
  have:m=0\/m=1\/m=2\/m=3\/m=4\/m=5\/m=6\/m=7\/m=8\/m=9\/m=10\/m=11\/m=12:=by omega
  rcases this with rfl | rfl | rfl | rfl | rfl | rfl | rfl | rfl | rfl | rfl | rfl | rfl | rfl <;> decide
 generalize (2:Int) ^ m=p at hm
 simp only [List.mem_cons,List.not_mem_nil,or_false] at hm
 rcases hm with rfl | rfl | rfl | rfl | rfl | rfl | rfl | rfl | rfl | rfl | rfl | rfl | rfl <;> omega
theorem layL_bd:∀ (l:List Bk) (e:Int),(∀ b ∈ l,0<=b.1/\b.1<=16384/\0<=b.2/\b.2<=12)->0<=e->e+l.length*20480<=9223372036854775808->∀ p ∈ (layL l e).1,e<=p/\p<=e+l.length*20480
 | [],e,_,_,_,p,hp=>by cases hp
 | b :: t,e,hb,h0,h1,p,hp=>by
  obtain ⟨b1,b2,b3,b4⟩:=hb b (List.mem_cons_self ..)
  have hl:((b :: t).length:Int)=t.length+1:=by simp
  obtain ⟨u1,u2⟩:=up_bd b3 b4 h0 (by omega)
  rcases List.mem_cons.1 hp with rfl | hp
  ·omega
  ·have:=layL_bd t ((upS e b.2).1+b.1) (fun c hc=>hb c (List.mem_cons_of_mem _ hc)) (by omega) (by omega) p hp
   omega
theorem layL_n (l:List Bk) (e:Int):(layL l e).1.length=l.length:=by
 induction l generalizing e with
 | nil=>rfl
 | cons b r ih=>simp only [layL,List.length_cons,ih]
theorem parts_len (S:List Sc) (v:List Vn):∀ l:List (Nat × Int),(vtxB S v l).length+(vdatB S l).length=l.length
 | []=>rfl
 | x :: t=>by
  have ih:=parts_len S v t
  unfold vtxB vdatB at ih ⊢
  by_cases h:kindN S x.1=1
  ·simp only [List.filterMap_cons,if_pos h,List.length_cons];omega
  ·simp only [List.filterMap_cons,if_neg h,List.length_cons];omega
theorem places_len (S:List Sc) (live:List Nat) (align:List Int) (t d:Int) (v:List Vn) (h:align.length=live.length):(placesV S live align t d v).length=live.length:=by
 unfold placesV
 rw [List.length_append,layL_n,layL_n,parts_len,List.length_zip,h,Nat.min_self]
section
variable {S:List Sc} {rep:List Int} {live:List Nat} {align:List Int} (h:LeftQ S rep live align)
include h
theorem zip_in {x:Nat × Int} (hx:x ∈ live.zip align):x.1 ∈ live/\0<=x.2/\x.2<=12:=⟨(List.of_mem_zip hx).1,h.a0 _ (List.of_mem_zip hx).2⟩
theorem end_le {k:Nat} (hk:k ∈ live):endN S k<=4096/\lenN S k<=endN S k/\endN S k<=lenN S k+3:=by
 obtain ⟨s,hs,hd,-,-⟩:=h.inn k hk
 have e:lenN S k=s.data.length:=by unfold lenN;rw [hs]
 unfold endN
 rw [e];omega
theorem vtx_ok {v:List Vn} (hv:∀ k,cntV v k<=64):∀ b ∈ vtxB S v (live.zip align),0<=b.1/\b.1<=16384/\0<=b.2/\b.2<=12:=by
 intro b hb
 obtain ⟨x,hx,e⟩:=List.mem_filterMap.1 hb
 obtain ⟨h1,h2,h3⟩:=zip_in h hx
 obtain ⟨e1,-,-⟩:=end_le h h1
 have e2:=hv x.1
 split at e
 ·rw [<-Option.some.inj e];simp only;omega
 ·cases e
theorem vdat_ok:∀ b ∈ vdatB S (live.zip align),0<=b.1/\b.1<=16384/\0<=b.2/\b.2<=12:=by
 intro b hb
 obtain ⟨x,hx,e⟩:=List.mem_filterMap.1 hb
 obtain ⟨h1,h2,h3⟩:=zip_in h hx
 obtain ⟨e1,e2,-⟩:=end_le h h1
 split at e
 ·cases e
 ·rw [<-Option.some.inj e];simp only;omega
theorem places_bd {v:List Vn} (hv:∀ k,cntV v k<=64) {t d:Int} (t0:0<=t) (t1:t<=4611686018427387904) (d0:0<=d) (d1:d<=4611686018427387904):∀ p ∈ placesV S live align t d v,0<=p/\p<=4611686018432630784:=by
 intro p hp
 have hl:=parts_len S v (live.zip align)
 have hz:(live.zip align).length<=256:=by rw [List.length_zip];have:=h.n256;omega
 rcases List.mem_append.1 hp with hp | hp
 ·have:=layL_bd _ _ (vtx_ok h hv) t0 (by omega) p hp;omega
 ·have:=layL_bd _ _ (vdat_ok h) d0 (by omega) p hp;omega
omit h in
end
theorem venR_at {S:List Sc} {live:List Nat} {P:List Int}:∀ (v seen:List Vn) (i:Nat) (x:Vn),v[i]?=some x->(venR S live P seen v)[i]?=some (plcN live P x.1+((endN S x.1.toNat+12*cntV (seen ++ v.take i) x.1:Nat):Int))
 | y :: t,seen,0,x,h=>by
  simp only [List.getElem?_cons_zero,Option.some.injEq] at h
  subst h
  simp [venR]
 | y :: t,seen,i+1,x,h=>by
  rw [List.getElem?_cons_succ] at h
  rw [venR,List.getElem?_cons_succ,venR_at t (seen ++ [y]) i x h]
  simp
theorem venR_len {S:List Sc} {live:List Nat} {P:List Int}:∀ (v seen:List Vn),(venR S live P seen v).length=v.length
 | [],_=>rfl
 | y :: t,seen=>by rw [venR,List.length_cons,List.length_cons,venR_len]
end Go.Proofs.YtobdldadfipcgaaGreatDoor
namespace Go.Proofs.YtobdldadfipcgaaGreatDoor
open Go.ChangeShapes Go.WideShapes Go.Deep Go.RowKit
abbrev vnV (x:Vn):Value:=.agg #[.int .i64 x.1,.int .i64 x.2.1,.int .i64 x.2.2]
def vnC (x:Vn):List Value:=[.int .i64 x.1,.int .i64 x.2.1,.int .i64 x.2.2]
theorem vn_len (x:Vn):(vnC x).length=3:=rfl
theorem vn_ones (x:Vn):∀ u ∈ vnC x,u.oneCell'=true:=by
 intro u hu
 simp only [vnC,List.mem_cons,List.not_mem_nil,or_false] at hu
 rcases hu with rfl | rfl | rfl <;> rfl
def GoodV (x:Vn):Prop:=i64ok x.1/\i64ok x.2.1/\i64ok x.2.2
theorem vnV_inj {x y:Vn} (h:vnV x=vnV y):x=y:=by
 obtain ⟨a,b,c⟩:=x
 obtain ⟨d,e,f⟩:=y
 simp only [vnV,Value.agg.injEq,Array.mk.injEq,List.cons.injEq,Value.int.injEq,true_and,and_true] at h
 obtain ⟨rfl,rfl,rfl⟩:=h
 rfl
theorem vn_cells {w:World} {b off k:Nat} {x:Vn} (h:∀ j,j < 3->w.cell? ⟨b,off+k*3+j,none⟩=(vnC x)[j]?):
  w.cell? ⟨b,off+k*3,none⟩=some (.int .i64 x.1)/\w.cell? ⟨b,off+k*3+1,none⟩=some (.int .i64 x.2.1)/\w.cell? ⟨b,off+k*3+2,none⟩=some (.int .i64 x.2.2):=
 ⟨h 0 (by decide),h 1 (by decide),h 2 (by decide)⟩
theorem vnKey:WideMaps.KeyLaw Tryz.prog 45:=
 deep_law_laid (by kernel_rfl) (m:=3) (by decide) (of_decide_eq_true (by kernel_rfl)) (by kernel_rfl) (by kernel_rfl)
theorem keyLits_vn (d:Nat) (x:Vn) (hx:GoodV x):Tryz.prog.keyLits (d+2) 45 [.int .i64 x.1,.int .i64 x.2.1,.int .i64 x.2.2]=some [.int .i64 x.1,.int .i64 x.2.1,.int .i64 x.2.2]:=by
 have h1:(Lit.int .i64 x.1).wf=true:=by have:=hx.1;unfold i64ok at this;simp [Lit.wf,IntKind.min,IntKind.max,IntKind.bits,IntKind.signed];omega
 have h2:(Lit.int .i64 x.2.1).wf=true:=by have:=hx.2.1;unfold i64ok at this;simp [Lit.wf,IntKind.min,IntKind.max,IntKind.bits,IntKind.signed];omega
 have h3:(Lit.int .i64 x.2.2).wf=true:=by have:=hx.2.2;unfold i64ok at this;simp [Lit.wf,IntKind.min,IntKind.max,IntKind.bits,IntKind.signed];omega
 have c0:Tryz.prog.cellsOf 45=3:=by kernel_rfl
 have c2:Tryz.prog.cellsOf 3=1:=by kernel_rfl
 simp [Program.keyLits,Tryz.underlying45,Tryz.underlying3,c0,c2,h1,h2,h3]
theorem vn_size:∃ m,Tryz.prog.types.size=m+1:=⟨Tryz.prog.types.size - 1,by kernel_rfl⟩
theorem vnKeyOf (x:Vn) (hx:GoodV x):∃ l,keyOf Tryz.prog 45 (vnV x)=some l:=by
 obtain ⟨m,hm⟩:=vn_size
 have hk:Tryz.prog.keyType 45=true:=by kernel_rfl
 have hf:(vnV x).formed Tryz.prog 45=true:=by
  have c0:Tryz.prog.cellsOf 45=3:=by kernel_rfl
  simp [Value.formed,Tryz.underlying45,c0]
 have h:=keyLits_vn m x hx
 rw [<-show Tryz.prog.types.size+1=m+2 from by omega] at h
 refine ⟨.string (keyBytes [.int .i64 x.1,.int .i64 x.2.1,.int .i64 x.2.2]),?_⟩
 unfold keyOf
 rw [Tryz.underlying45]
 simp only [hk,hf,Bool.and_self,if_true]
 rw [show (vnV x).cells.toList=[.int .i64 x.1,.int .i64 x.2.1,.int .i64 x.2.2] from rfl,h]
 rfl
def pairV (p:Vn × Int):Value × Value:=(vnV p.1,.int .i64 p.2)
def VM (w:World) (b:Nat) (l:List (Vn × Int)):Prop:=∃ es clock,w.heap[b]?=some (.map es clock)/\es.toList.map (fun e=>(e.key,e.val))=l.map pairV/\∀ e ∈ es.toList,e.born < clock
theorem vm_key {l:List (Vn × Int)} {es:Array MapEntry} (h:es.toList.map (fun e=>(e.key,e.val))=l.map pairV) {e:MapEntry} (he:e ∈ es.toList):∃ p ∈ l,e.key=vnV p.1/\e.val=.int .i64 p.2:=by
 have:(e.key,e.val) ∈ es.toList.map (fun e=>(e.key,e.val)):=List.mem_map.2 ⟨e,he,rfl⟩
 rw [h] at this
 obtain ⟨p,hp,hpe⟩:=List.mem_map.1 this
 simp only [pairV,Prod.mk.injEq] at hpe
 exact ⟨p,hp,hpe.1.symm,hpe.2.symm⟩
theorem vm_keys {l:List (Vn × Int)} {es:Array MapEntry} (h:es.toList.map (fun e=>(e.key,e.val))=l.map pairV) (hg:∀ p ∈ l,GoodV p.1):∀ e ∈ es.toList,∃ k,keyOf Tryz.prog 45 e.key=some k:=by
 intro e he
 obtain ⟨p,hp,hk,-⟩:=vm_key h he
 rw [hk]
 exact vnKeyOf _ (hg p hp)
theorem vm_len {w:World} {b:Nat} {l:List (Vn × Int)} {es:Array MapEntry} (h:es.toList.map (fun e=>(e.key,e.val))=l.map pairV):es.size=l.length:=by
 have:=congrArg List.length h
 simpa using this
theorem vm_no {l:List (Vn × Int)} {b:Nat} {w:World} (h:VM w b l) (hg:∀ p ∈ l,GoodV p.1) {k:Vn} (hk:GoodV k) (hn:∀ p ∈ l,p.1 ≠ k):
  (Instr.lookup 126 (.map (some b)) (vnV k) true).run Tryz.prog w=.ok (.tuple #[.int .i64 0,.bool false]) w/\(Instr.lookup 126 (.map (some b)) (vnV k) false).run Tryz.prog w=.ok (.int .i64 0) w:=by
 obtain ⟨es,clock,hb,he,hst⟩:=h
 obtain ⟨kl,hkey⟩:=vnKeyOf k hk
 rcases vnKey.find w hkey es.toList (vm_keys he hg) with ⟨h1,-⟩ | ⟨j,e,h1,h2,h3⟩
 ·constructor <;> simp [Instr.lookup,run_underlying Tryz.underlying126,MapKept.run_getObj_map hb,vnKey.check w _ hkey,h1,zeroInt,Result.andThen]
 ·obtain ⟨p,hp,hpk,-⟩:=vm_key he (List.mem_of_getElem? h2)
  rw [h3] at hpk
  exact absurd (vnV_inj hpk).symm (hn p hp)
theorem vm_yes {l:List (Vn × Int)} {b:Nat} {w:World} (h:VM w b l) (hg:∀ p ∈ l,GoodV p.1) {k:Vn} (hk:∃ p ∈ l,p.1=k):
  ∃ v:Int,(Instr.lookup 126 (.map (some b)) (vnV k) true).run Tryz.prog w=.ok (.tuple #[.int .i64 v,.bool true]) w:=by
 obtain ⟨es,clock,hb,he,hst⟩:=h
 obtain ⟨p0,hp0,rfl⟩:=hk
 obtain ⟨kl,hkey⟩:=vnKeyOf _ (hg _ hp0)
 rcases vnKey.find w hkey es.toList (vm_keys he hg) with ⟨h1,h2⟩ | ⟨j,e,h1,h2,h3⟩
 ·exfalso
  have:pairV p0 ∈ l.map pairV:=List.mem_map.2 ⟨_,hp0,rfl⟩
  rw [<-he] at this
  obtain ⟨e,hee,heq⟩:=List.mem_map.1 this
  simp only [pairV,Prod.mk.injEq] at heq
  exact h2 e hee heq.1
 ·obtain ⟨p,hp,hpk,hpv⟩:=vm_key he (List.mem_of_getElem? h2)
  exact ⟨p.2,by simp [Instr.lookup,run_underlying Tryz.underlying126,MapKept.run_getObj_map hb,vnKey.check w _ hkey,h1,hpv,Result.andThen]⟩
theorem born_push {es:Array MapEntry} {clock:Nat} {k v:Value} (h:∀ e ∈ es.toList,e.born < clock):∀ e ∈ (es.push ⟨k,v,clock⟩).toList,e.born < clock+1:=by
 intro e he
 rw [Array.toList_push,List.mem_append,List.mem_singleton] at he
 rcases he with he | rfl
 ·have:=h e he;omega
 ·exact Nat.lt_succ_self _
theorem vm_put {l:List (Vn × Int)} {b:Nat} {w:World} (h:VM w b l) (hg:∀ p ∈ l,GoodV p.1) (k:Vn) (v:Int) (hk:GoodV k) (hn:∀ p ∈ l,p.1 ≠ k):
  ∃ w',(Instr.mapUpdate 126 (.map (some b)) (vnV k) (.int .i64 v)).run Tryz.prog w=.ok () w'/\VM w' b (l ++ [(k,v)])/\w.grownBy w' (some b):=by
 obtain ⟨es,clock,hb,he,hst⟩:=h
 obtain ⟨kl,hkey⟩:=vnKeyOf k hk
 rcases vnKey.find w hkey es.toList (vm_keys he hg) with ⟨h1,-⟩ | ⟨j,e,h1,h2,h3⟩
 ·refine ⟨ChangeMaps.setBlock w b (.map (es.push ⟨vnV k,.int .i64 v,clock⟩) (clock+1)),?_,⟨es.push ⟨vnV k,.int .i64 v,clock⟩,clock+1,?_,?_,born_push hst⟩,?_⟩
  ·simp [Instr.mapUpdate,run_underlying Tryz.underlying126,MapKept.run_getObj_map hb,vnKey.check w false hkey,h1,MapKept.run_setObj_map _ hb,Result.andThen,ChangeMaps.setBlock]
  ·have:=lt_of_block hb
   simp [ChangeMaps.setBlock,this]
  ·rw [Array.toList_push,List.map_append,he,List.map_append];rfl
  ·refine ⟨rfl,rfl,rfl,by simp [ChangeMaps.setBlock],fun i hi hne=>?_⟩
   simp only [ChangeMaps.setBlock]
   rw [Array.getElem?_setIfInBounds_ne (fun e=>hne (by rw [e]))]
 ·obtain ⟨p,hp,hpk,-⟩:=vm_key he (List.mem_of_getElem? h2)
  rw [h3] at hpk
  exact absurd (vnV_inj hpk).symm (hn p hp)
theorem grow_set {w:World} {b:Nat} {o:Obj}:w.grownBy (ChangeMaps.setBlock w b o) (some b):=by
 refine ⟨rfl,rfl,rfl,by simp [ChangeMaps.setBlock],fun i hi hne=>?_⟩
 simp only [ChangeMaps.setBlock]
 rw [Array.getElem?_setIfInBounds_ne (fun e=>hne (by rw [e]))]
theorem born_find {es:Array MapEntry} {clock:Nat} {k v:Value} (h:∀ e ∈ es.toList,e.born < clock):(es.push ⟨k,v,clock⟩).findIdx? (fun e=>(e.born:Int) == (clock:Int))=some es.size:=by
 rw [Array.findIdx?_push]
 have:es.findIdx? (fun e=>(e.born:Int) == (clock:Int))=none:=by
  rw [Array.findIdx?_eq_none_iff]
  intro e he
  have:=h e (by simpa using he)
  simp;omega
 rw [this];simp
theorem vm_entry {l:List (Vn × Int)} {b:Nat} {w:World} (h:VM w b l) (hg:∀ p ∈ l,GoodV p.1) (k:Vn) (v:Int) (hk:GoodV k) (hn:∀ p ∈ l,p.1 ≠ k):
  ∃ w1 c,(Instr.mapEntry 126 (.map (some b)) (vnV k)).run Tryz.prog w=.ok (.tuple #[.int .i64 0,.int .i64 c]) w1/\w.grownBy w1 (some b)/\(Instr.lookup 126 (.map (some b)) (vnV k) false).run Tryz.prog w1=.ok (.int .i64 0) w1/\
   ∃ w2,(Instr.entryStore 126 (.map (some b)) (.int .i64 c) (.int .i64 v)).run Tryz.prog w1=.ok () w2/\VM w2 b (l ++ [(k,v)])/\w1.grownBy w2 (some b):=by
 obtain ⟨es,clock,hb,he,hst⟩:=h
 obtain ⟨kl,hkey⟩:=vnKeyOf k hk
 have hlt:=lt_of_block hb
 rcases vnKey.find w hkey es.toList (vm_keys he hg) with ⟨h1,-⟩ | ⟨j,e,h1,h2,h3⟩
 ·have hb1:(ChangeMaps.setBlock w b (.map (es.push ⟨vnV k,.int .i64 0,clock⟩) (clock+1))).heap[b]?=some (.map (es.push ⟨vnV k,.int .i64 0,clock⟩) (clock+1)):=by simp [ChangeMaps.setBlock,hlt]
  refine ⟨ChangeMaps.setBlock w b (.map (es.push ⟨vnV k,.int .i64 0,clock⟩) (clock+1)),clock,?_,grow_set,?_,ChangeMaps.setBlock (ChangeMaps.setBlock w b (.map (es.push ⟨vnV k,.int .i64 0,clock⟩) (clock+1))) b (.map (es.push ⟨vnV k,.int .i64 v,clock⟩) (clock+1)),?_,⟨es.push ⟨vnV k,.int .i64 v,clock⟩,clock+1,?_,?_,born_push hst⟩,grow_set⟩
  ·simp [Instr.mapEntry,run_underlying Tryz.underlying126,MapKept.run_getObj_map hb,vnKey.check w false hkey,h1,zeroInt,MapKept.run_setObj_map _ hb,Result.andThen,ChangeMaps.setBlock,goInt]
  ·obtain ⟨w1,hw1⟩:∃ w1,w1=ChangeMaps.setBlock w b (.map (es.push ⟨vnV k,.int .i64 0,clock⟩) (clock+1)):=⟨_,rfl⟩
   rw [<-hw1] at hb1 ⊢
   have hks:∀ e ∈ (es.push ⟨vnV k,.int .i64 0,clock⟩).toList,∃ k,keyOf Tryz.prog 45 e.key=some k:=by
    intro e he'
    rw [Array.toList_push,List.mem_append,List.mem_singleton] at he'
    rcases he' with he' | rfl
    ·exact vm_keys he hg e he'
    ·exact ⟨kl,hkey⟩
   rcases vnKey.find w1 hkey (es.push ⟨vnV k,.int .i64 0,clock⟩).toList hks with ⟨g1,g2⟩ | ⟨j,e,g1,g2,g3⟩
   ·exact absurd rfl (g2 ⟨vnV k,.int .i64 0,clock⟩ (by rw [Array.toList_push];simp))
   ·have hm:=List.mem_of_getElem? g2
    rw [Array.toList_push,List.mem_append,List.mem_singleton] at hm
    rcases hm with hm | rfl
    ·obtain ⟨p,hp,hpk,-⟩:=vm_key he hm
     rw [g3] at hpk
     exact absurd (vnV_inj hpk).symm (hn p hp)
    ·rw [Array.toList_push] at g1
     simp [Instr.lookup,run_underlying Tryz.underlying126,MapKept.run_getObj_map hb1,vnKey.check w1 _ hkey,g1,Result.andThen]
  ·have hf:=born_find (k:=vnV k) (v:=.int .i64 0) hst
   have hm:(es.push ⟨vnV k,.int .i64 0,clock⟩).modify es.size (fun e=>{ e with val:=.int .i64 v })=es.push ⟨vnV k,.int .i64 v,clock⟩:=by
    apply Array.ext (by simp)
    intro i h1 h2
    have h3:i < es.size+1:=by simpa using h2
    by_cases hi:es.size=i
    ·subst hi;simp [Array.getElem_modify,Array.getElem_push]
    ·have h4:i < es.size:=by omega
     simp [Array.getElem_modify,Array.getElem_push,hi,h4]
   simp only [Instr.entryStore,Sem.run_bind,MapKept.run_getObj_map hb1,Result.andThen]
   have hso:=MapKept.run_setObj_map (P:=Tryz.prog) (.map (es.push ⟨vnV k,.int .i64 v,clock⟩) (clock+1)) hb1
   simp only [asInt,asIntOf,Sem.run_bind,Sem.run_pure,Result.andThen,hf,hm]
   rw [hso]
   rfl
  ·simp [ChangeMaps.setBlock,hlt]
  ·rw [Array.toList_push,List.map_append,he,List.map_append];rfl
 ·obtain ⟨p,hp,hpk,-⟩:=vm_key he (List.mem_of_getElem? h2)
  rw [h3] at hpk
  exact absurd (vnV_inj hpk).symm (hn p hp)
theorem VM.next {w w':World} {b:Nat} {l:List (Vn × Int)} (h:VM w b l) (hb:Below w.heap.size w w'):VM w' b l:=by
 obtain ⟨es,clock,h1,h2⟩:=h
 exact ⟨es,clock,(hb.block b (lt_of_block h1)).trans h1,h2⟩
theorem VM.mk0 (w:World):VM (w.alloc (.map #[] 0)) w.heap.size []:=⟨#[],0,(MapKept.heap_alloc w _).1,rfl,fun e he=>by simp at he⟩
end Go.Proofs.YtobdldadfipcgaaGreatDoor
