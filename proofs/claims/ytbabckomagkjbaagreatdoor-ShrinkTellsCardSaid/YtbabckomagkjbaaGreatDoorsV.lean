/- shrink, plain: what is left, in order. shrink: what orders two units. shrink: two orders, joined. -/
import Derived.Test.YtbabckomagkjbaaGreatDoorsO
import Derived.Sort.Grow
import Derived.BigQuiet
set_option maxRecDepth 100000
set_option maxHeartbeats 1000000
set_option linter.unusedVariables false
set_option linter.unusedSimpArgs false
namespace Go.Proofs.YtbabckomagkjbaaGreatDoor
open Go.ChangeShapes Go.WideShapes Go.Deep Go.RowKit
section
variable (f:Nat->Int)
def insK (a:Nat):List Nat->List Nat
 | []=>[a]
 | b :: t=>if f b < f a then b :: insK a t else a :: b :: t
def sortK (l:List Nat):List Nat:=l.foldr (insK f) []
variable {f}
theorem insK_perm (a:Nat):∀ l,(insK f a l).Perm (a :: l)
 | []=>List.Perm.refl _
 | b :: t=>by
  unfold insK
  split
  ·exact ((insK_perm a t).cons b).trans (List.Perm.swap a b t)
  ·exact List.Perm.refl _
theorem sortK_perm:∀ l,(sortK f l).Perm l
 | []=>List.Perm.refl _
 | a :: t=>(insK_perm a _).trans ((sortK_perm t).cons a)
theorem insK_up (a:Nat):∀ l,l.Pairwise (fun x y=>f x<=f y)->(insK f a l).Pairwise (fun x y=>f x<=f y)
 | [],_=>List.pairwise_singleton _ _
 | b :: t,h=>by
  obtain ⟨h1,h2⟩:=List.pairwise_cons.1 h
  unfold insK
  split
  ·rename_i hlt
   refine List.pairwise_cons.2 ⟨fun x hx=>?_,insK_up a t h2⟩
   rcases List.mem_cons.1 ((insK_perm a t).mem_iff.1 hx) with rfl | hx
   ·omega
   ·exact h1 x hx
  ·rename_i hlt
   refine List.pairwise_cons.2 ⟨fun x hx=>?_,h⟩
   rcases List.mem_cons.1 hx with rfl | hx
   ·omega
   ·have:=h1 x hx;omega
theorem sortK_up:∀ l,(sortK f l).Pairwise (fun x y=>f x<=f y)
 | []=>List.Pairwise.nil
 | a :: t=>insK_up a _ (sortK_up t)
theorem sortK_one {l d:List Nat} (hi:∀ a ∈ l,∀ b ∈ l,f a=f b->a=b) (hp:d.Perm l) (hu:d.Pairwise (fun x y=>f x<=f y)):d=sortK f l:=by
 refine List.Perm.eq_of_pairwise (le:=fun x y=>f x<=f y) ?_ hu (sortK_up l) (hp.trans (sortK_perm l).symm)
 intro a b ha hb h1 h2
 exact hi a (hp.mem_iff.1 ha) b ((sortK_perm l).mem_iff.1 hb) (by omega)
end
def kindN (S:List Sc) (k:Nat):Int:=match S[k]? with | some s=>s.kind | none=>0
def alignN (S:List Sc) (k:Nat):Int:=match S[k]? with | some s=>s.align | none=>0
def keyU (S:List Sc) (k:Nat):Int:=kindN S k*1000+k
def selfL (rep:List Int):List Nat:=(List.range rep.length).filter (fun (k:Nat)=>decide (rep[k]?=some (k:Int)))
def standL (S:List Sc) (rep:List Int):List Nat:=sortK (keyU S) (selfL rep)
def mostN (S:List Sc) (rep:List Int) (at':Nat):Nat->Int
 | 0=>0
 | m+1=>if rep[m]?=some (at':Int) then max (mostN S rep at' m) (alignN S m) else mostN S rep at' m
def alignL (S:List Sc) (rep:List Int):List Int:=(standL S rep).map (fun k=>mostN S rep k rep.length)
theorem selfL_mem {rep:List Int} {k:Nat}:k ∈ selfL rep ↔ rep[k]?=some (k:Int):=by
 unfold selfL
 simp only [List.mem_filter,List.mem_range,decide_eq_true_eq]
 exact ⟨fun h=>h.2,fun h=>⟨(List.getElem?_eq_some_iff.1 h).1,h⟩⟩
theorem standL_mem {S:List Sc} {rep:List Int} {k:Nat}:k ∈ standL S rep ↔ rep[k]?=some (k:Int):=by
 unfold standL
 rw [(sortK_perm _).mem_iff];exact selfL_mem
theorem keyU_inj {S:List Sc} {rep:List Int} (hl:rep.length<=256):∀ a ∈ selfL rep,∀ b ∈ selfL rep,keyU S a=keyU S b->a=b:=by
 intro a ha b hb h
 have h1:=(List.getElem?_eq_some_iff.1 (selfL_mem.1 ha)).1
 have h2:=(List.getElem?_eq_some_iff.1 (selfL_mem.1 hb)).1
 unfold keyU at h
 omega
theorem standL_one {S:List Sc} {rep:List Int} {d:List Nat} (hl:rep.length<=256) (hp:d.Perm (selfL rep)) (hu:d.Pairwise (fun x y=>keyU S x<=keyU S y)):d=standL S rep:=
 sortK_one (keyU_inj hl) hp hu
theorem selfL_len (rep:List Int):(selfL rep).length<=rep.length:=by
 unfold selfL
 exact Nat.le_trans (List.length_filter_le _ _) (by simp)
theorem standL_len (S:List Sc) (rep:List Int):(standL S rep).length=(selfL rep).length:=(sortK_perm _).length_eq
theorem selfL_snoc {rep:List Int} {k:Nat}:(List.range (k+1)).filter (fun (k:Nat)=>decide (rep[k]?=some (k:Int)))=(List.range k).filter (fun (k:Nat)=>decide (rep[k]?=some (k:Int))) ++ if rep[k]?=some (k:Int) then [k] else []:=by
 rw [List.range_succ,List.filter_append]
 congr 1
 by_cases h:rep[k]?=some (k:Int)
 ·rw [if_pos h];simp [h]
 ·rw [if_neg h];simp [h]
def RepsQ (S:List Sc) (rep:List Int):Prop:=rep.length=S.length/\∀ (k:Nat) (v:Int),rep[k]?=some v->v = -1\/(0<=v/\v < S.length/\rep[v.toNat]?=some v/\(v=k\/∀ (s t:Sc),S[k]?=some s->S[v.toNat]?=some t->alikeB s t=true))
def LeadQ (S:List Sc) (rep:List Int):Prop:=∀ (k:Nat) (v:Int),rep[k]?=some v->0<=v->∀ (s t:Sc),S[k]?=some s->S[v.toNat]?=some t->∀ (j:Nat) (r r':Rl),s.rels[j]?=some r->t.rels[j]?=some r'->∃ x:Int,0<=x/\rep[r.sym.toNat]?=some x/\rep[r'.sym.toNat]?=some x
theorem alike_symm {s t:Sc} (h:alikeB s t=true):alikeB t s=true:=by
 have hs:[s,t][0]?=some s:=rfl
 have ht:[s,t][1]?=some t:=rfl
 obtain ⟨h1,h2,h3⟩:=(alike_iff hs ht).1 h
 exact (alike_iff ht hs).2 ⟨h2,h1,h3.symm⟩
theorem left_reps {S:List Sc} {R:List Int} {j:Nat} (hu:unitsR S=true) (hin:(reachB S R).length=S.length) (hfx:nextP S (reachB S R) (foldN S (reachB S R) j)=foldN S (reachB S R) j):
  RepsQ S (endL (reachB S R) (foldN S (reachB S R) j)):=by
 have hg:=end_good hu hin hfx
 refine ⟨by rw [endL_len,foldN_len],fun k v hv=>?_⟩
 have hk:k < S.length:=by have:=(List.getElem?_eq_some_iff.1 hv).1;rwa [endL_len,foldN_len] at this
 obtain ⟨b,hb⟩:∃ b,(reachB S R)[k]?=some b:=⟨_,List.getElem?_eq_getElem (by omega)⟩
 cases b
 ·left
  rw [end_out hk hb] at hv
  exact (Option.some.inj hv).symm
 ·right
  obtain ⟨p,h1,h2,h3,h4⟩:=end_least (j:=j) hk hb
  rw [h1] at hv
  obtain rfl:=Option.some.inj hv
  refine ⟨by omega,by omega,by simpa using h4,?_⟩
  by_cases e:p=k
  ·left;rw [e]
  ·right
   intro s t hs ht
   rw [Int.toNat_natCast] at ht
   exact (hg k p hk (by omega) hb h3 (by rw [h1,h4]) s t hs ht).1
theorem left_iff {S:List Sc} {ins:List Bool} {j k:Nat} (hin:ins.length=S.length) (hk:k < S.length):∃ v:Int,(endL ins (foldN S ins j))[k]?=some v/\(0<=v ↔ ins[k]?=some true)/\v < S.length:=by
 obtain ⟨b,hb⟩:∃ b,ins[k]?=some b:=⟨_,List.getElem?_eq_getElem (by omega)⟩
 cases b
 ·exact ⟨-1,end_out hk hb,by rw [hb];simp,by omega⟩
 ·obtain ⟨p,h1,h2,-,-⟩:=end_least (j:=j) hk hb
  exact ⟨p,h1,by rw [hb];simp,by omega⟩
theorem left_lead {S:List Sc} {R:List Int} {j:Nat} (hu:unitsR S=true) (hr:rootsB R S.length=true) (hfx:nextP S (reachB S R) (foldN S (reachB S R) j)=foldN S (reachB S R) j):
  LeadQ S (endL (reachB S R) (foldN S (reachB S R) j)):=by
 have hin:=reachB_len S R
 have hg:=end_good hu hin hfx
 intro k v hv h0 s t hs ht q r r' hr1 hr2
 have hk:k < S.length:=(List.getElem?_eq_some_iff.1 hs).1
 obtain ⟨v',hv',hiff,-⟩:=left_iff (j:=j) hin hk
 rw [hv] at hv'
 obtain rfl:=Option.some.inj hv'
 have hb:=hiff.1 h0
 obtain ⟨p,h1,h2,h3,h4⟩:=end_least (j:=j) hk hb
 rw [h1] at hv
 obtain rfl:=Option.some.inj hv
 rw [Int.toNat_natCast] at ht
 have hus:=(units_sec hu hs).2 r (List.mem_of_getElem? hr1)
 have hsl:r.sym.toNat < S.length:=by omega
 have hrr:(reachB S R)[r.sym.toNat]?=some true:=(reachB_iff hsl).2 (.step ((reachB_iff hk).1 hb) hs (List.mem_of_getElem? hr1) (by omega))
 obtain ⟨y,y1,-,-,-⟩:=end_least (j:=j) hsl hrr
 refine ⟨y,by omega,y1,?_⟩
 by_cases e:p=k
 ·subst e
  rw [hs] at ht;cases ht
  rw [hr1] at hr2;cases hr2
  exact y1
 ·obtain ⟨-,hrf⟩:=hg k p hk (by omega) hb h3 (by rw [h1,h4]) s t hs ht
  obtain ⟨-,-,-,-,hc⟩:=hrf q r r' hr1 hr2
  rcases hc with hc | ⟨-,-,hc⟩
  ·rw [<-hc];exact y1
  ·rw [<-hc];exact y1
theorem root_keep:∀ (l:List Sc) (k:Nat) (e:Int) (i:Nat),i ∈ rootsN k e l ↔ ∃ q s,i=k+q/\l[q]?=some s/\(s.keep=true\/(i:Int)=e)
 | [],k,e,i=>by simp [rootsN]
 | s :: t,k,e,i=>by
  have ih:=root_keep t (k+1) e i
  unfold rootsN
  constructor
  ·intro h
   split at h
   ·rename_i hc
    rcases List.mem_cons.1 h with rfl | h
    ·exact ⟨0,s,rfl,rfl,hc⟩
    ·obtain ⟨q,s',h1,h2,h3⟩:=ih.1 h
     exact ⟨q+1,s',by omega,by simpa using h2,h3⟩
   ·obtain ⟨q,s',h1,h2,h3⟩:=ih.1 h
    exact ⟨q+1,s',by omega,by simpa using h2,h3⟩
  ·rintro ⟨q,s',h1,h2,h3⟩
   cases q with
   | zero=>
    simp only [List.getElem?_cons_zero,Option.some.injEq] at h2
    subst h2
    have:i=k:=by omega
    subst this
    rw [if_pos h3];exact List.mem_cons_self ..
   | succ q=>
    have:=ih.2 ⟨q,s',by omega,by simpa using h2,h3⟩
    split
    ·exact List.mem_cons_of_mem _ this
    ·exact this
theorem roots_in (S:List Sc) (e:Int):rootsB ((rootsN 0 e S).map Int.ofNat) S.length=true:=by
 rw [roots_yes]
 intro x hx
 obtain ⟨i,hi,rfl⟩:=List.mem_map.1 hx
 obtain ⟨q,s,h1,h2,-⟩:=(root_keep S 0 e i).1 hi
 have:=(List.getElem?_eq_some_iff.1 h2).1
 simp only [Int.ofNat_eq_natCast]
 omega
end Go.Proofs.YtbabckomagkjbaaGreatDoor
namespace Go.Proofs.YtbabckomagkjbaaGreatDoor
open Go.ChangeShapes Go.WideShapes Go.Deep Go.RowKit
def cmpI (x y:Int):Int:=if x < y then -1 else if y < x then 1 else 0
def orI (x y:Int):Int:=if x=0 then y else x
def GrowP (r:Int) (w:World) (e:Ending) (w':World):Prop:=e=.returned (.int .i64 r)/\∃ q os,w'=Go.Sort.grow (w.drewN q) os
theorem grown_grow (w:World) (q q':Nat) (os os':Array Obj):Go.Sort.grow ((Go.Sort.grow (w.drewN q) os).drewN q') os'=Go.Sort.grow (w.drewN (q+q')) (os ++ os'):=by
 show Go.Sort.grow (Go.Sort.grow ((w.drewN q).drewN q') os) os'=_
 rw [Go.Sort.grow_grow,World.drewN_drewN]
theorem grow_cell {w:World} {q:Nat} {os:Array Obj} {p:Addr} (hp:p.block < w.heap.size):(Go.Sort.grow (w.drewN q) os).cell? p=w.cell? p:=by
 unfold World.cell?
 have:(Go.Sort.grow (w.drewN q) os).heap[p.block]?=w.heap[p.block]?:=by
  show (w.heap ++ os)[p.block]?=_
  rw [Array.getElem?_append,if_pos hp]
 rw [this]
theorem isNaN_any (x:Int) (w:World):Calls Tryz.prog 129 #[.int .i64 x] w (fun e w'=>e=.returned (.bool false)/\w'=w):=by
 have t:(x != x)=false:=by simp
 go_enter Tryz.func129,Tryz.ntmps129
 go_wp2
 go_ret
 exact ⟨rfl,rfl⟩
theorem Compare_any (x y:Int) (w:World):Calls Tryz.prog 101 #[.int .i64 x,.int .i64 y] w (fun e w'=>e=.returned (.int .i64 (cmpI x y))/\w'=w):=by
 have HN:=Lib.hid isNaN_any
 unfold cmpI
 by_cases h1:x < y
 ·rw [if_pos h1]
  go_enter Tryz.func101,Tryz.ntmps101
  go_wp2_with (go_at_call 129;refine (HN.out _ _).mono ?_;rintro e w' ⟨rfl,rfl⟩)
  go_ret
  exact ⟨rfl,rfl⟩
 ·rw [if_neg h1]
  by_cases h2:y < x
  ·rw [if_pos h2]
   go_enter Tryz.func101,Tryz.ntmps101
   go_wp2_with (go_at_call 129;refine (HN.out _ _).mono ?_;rintro e w' ⟨rfl,rfl⟩)
   go_ret
   exact ⟨rfl,rfl⟩
  ·rw [if_neg h2]
   go_enter Tryz.func101,Tryz.ntmps101
   go_wp2_with (go_at_call 129;refine (HN.out _ _).mono ?_;rintro e w' ⟨rfl,rfl⟩)
   go_ret
   exact ⟨rfl,rfl⟩
theorem Or_any (b:Nat) (x y:Int) (w:World) (h:RB w b #[.int .i64 x,.int .i64 y] 3):Calls Tryz.prog 100 #[.slice (some ⟨b,0,none⟩) 2 2] w (fun e w'=>e=.returned (.int .i64 (orI x y))/\w'=w):=by
 have c0:w.cell? ⟨b,0,none⟩=some (.int .i64 x):=h.cell
 have c1:w.cell? ⟨b,1,none⟩=some (.int .i64 y):=h.cell
 clear h
 unfold orI
 by_cases h1:x=0
 ·subst h1
  rw [if_pos rfl]
  by_cases h2:y=0
  ·subst h2
   go_enter Tryz.func100,Tryz.ntmps100
   go_wp2
   refine wp_loop_rounds 3 ?_
   rw [rounds_succ];go_wp2
   rw [rounds_succ];go_wp2
   rw [rounds_succ];go_wp2
   go_ret
   exact ⟨rfl,rfl⟩
  ·have t1:(y != 0)=true:=by simp [h2]
   go_enter Tryz.func100,Tryz.ntmps100
   go_wp2
   refine wp_loop_rounds 3 ?_
   rw [rounds_succ];go_wp2
   rw [rounds_succ];go_wp2
   go_ret
   exact ⟨rfl,rfl⟩
 ·have t1:(x != 0)=true:=by simp [h1]
  rw [if_neg h1]
  go_enter Tryz.func100,Tryz.ntmps100
  go_wp2
  refine wp_loop_rounds 3 ?_
  rw [rounds_succ];go_wp2
  go_ret
  exact ⟨rfl,rfl⟩
theorem by2_any (k:Int) (w:World):Calls Tryz.prog 80 #[.int .i64 k] w (fun e w'=>e=.returned (.int .i64 k)/\w'=w):=by
 go_enter Tryz.func80,Tryz.ntmps80
 go_wp2
 go_ret
 exact ⟨rfl,rfl⟩
theorem by1_any (u:World) (c:Nat) (ua:Option Addr) (n uc:Nat) (L:List Ms) (k:Nat) (hn:n<=256) (hk:k < n) (hbx:RB u c #[.slice ua n uc] 22) (hs:SL msC 6 u u.heap.size ua n L):
  Calls Tryz.prog 79 #[.int .i64 (k:Int),.pointer (some ⟨c,0,none⟩)] u (fun e w'=>e=.returned (.int .i64 (kindN (L.map (·.sc)) k))/\w'=u):=by
 have hkL:k < L.length:=by rw [<-hs.len];exact hk
 obtain ⟨ub,uo,hae,-,-⟩:=hs.cells (by intro e;rw [e] at hkL;simp at hkL)
 subst hae
 obtain ⟨m,hm⟩:∃ m,L[k]?=some m:=⟨_,List.getElem?_eq_getElem hkL⟩
 obtain ⟨-,y1,-,-,-,-⟩:=unit_cells hs (Below.refl _ _) hm
 have g0:u.cell? ⟨c,0,none⟩=some (.slice (some ⟨ub,uo,none⟩) n uc):=hbx.cell
 have HK:Hid (kindN (L.map (·.sc)) k=m.sc.kind):=Lib.hid (by unfold kindN;rw [List.getElem?_map,hm];rfl)
 have hki:(k:Int) < (n:Int):=by omega
 rw [HK.out]
 obtain ⟨mk,hmk⟩:∃ x,x=m.sc.kind:=⟨_,rfl⟩
 rw [<-hmk] at y1 ⊢
 clear hbx hs hm hkL hk hmk HK
 go_enter Tryz.func79,Tryz.ntmps79
 go_wp2
 go_ret
 exact ⟨rfl,rfl⟩
end Go.Proofs.YtbabckomagkjbaaGreatDoor
namespace Go.Proofs.YtbabckomagkjbaaGreatDoor
open Go.ChangeShapes Go.WideShapes Go.Deep Go.RowKit
abbrev by1V (c:Nat):Value:=.func (.func 79) #[] #[.pointer (some ⟨c,0,none⟩)]
abbrev by2V:Value:=.func (.func 80) #[] #[]
theorem cmp1_any (u:World) (c:Nat) (ua:Option Addr) (n uc:Nat) (L:List Ms) (a b:Nat) (hn:n<=256) (ha:a < n) (hb:b < n) (hbx:RB u c #[.slice ua n uc] 22) (hs:SL msC 6 u u.heap.size ua n L):
  Calls Tryz.prog 83 #[.agg #[by1V c],.int .i64 (a:Int),.int .i64 (b:Int)] u (GrowP (cmpI (kindN (L.map (·.sc)) a) (kindN (L.map (·.sc)) b)) u):=by
 obtain ⟨W1,hW1⟩:∃ x,x=u.alloc (.cells #[by1V c] 131):=⟨_,rfl⟩
 have hb1:Below u.heap.size u W1:=by rw [hW1];exact lit_below u _
 have hr1:RB W1 u.heap.size #[by1V c] 131:=by rw [hW1];exact rb_new u _ _
 have HBy:Hid (∀ q k,k < n->Calls Tryz.prog 79 #[.int .i64 (k:Int),.pointer (some ⟨c,0,none⟩)] (W1.drewN q) (fun e w'=>e=.returned (.int .i64 (kindN (L.map (·.sc)) k))/\w'=W1.drewN q)):=Lib.hid (fun q k hk=>by
  have hbq:Below u.heap.size u (W1.drewN q):=below_drewN hb1 q
  exact by1_any (W1.drewN q) c ua n uc L k hn hk (hbx.next hbq) (hs.next hbq))
 obtain ⟨ka,hka⟩:∃ x,x=kindN (L.map (·.sc)) a:=⟨_,rfl⟩
 obtain ⟨kb,hkb⟩:∃ x,x=kindN (L.map (·.sc)) b:=⟨_,rfl⟩
 have HA:Hid (∀ q,Calls Tryz.prog 79 #[.int .i64 (a:Int),.pointer (some ⟨c,0,none⟩)] (W1.drewN q) (fun e w'=>e=.returned (.int .i64 ka)/\w'=W1.drewN q)):=Lib.hid (fun q=>by rw [hka];exact HBy.out q a ha)
 have HB:Hid (∀ q,Calls Tryz.prog 79 #[.int .i64 (b:Int),.pointer (some ⟨c,0,none⟩)] (W1.drewN q) (fun e w'=>e=.returned (.int .i64 kb)/\w'=W1.drewN q)):=Lib.hid (fun q=>by rw [hkb];exact HBy.out q b hb)
 have HC:=Lib.hid (fun q=>Compare_any ka kb (W1.drewN q))
 have x0:W1.cell? ⟨u.heap.size,0,none⟩=some (by1V c):=hr1.cell
 rw [hW1] at x0
 have HWE:Hid (u.alloc (.cells #[by1V c] 131)=W1):=Lib.hid hW1.symm
 rw [<-hka,<-hkb]
 clear hbx hs ha hb hn hb1 hr1 hka hkb HBy hW1
 go_enter Tryz.func83,Tryz.ntmps83
 go_wp2
 rw [HWE.out]
 rw [HWE.out] at x0
 go_quiet (first
  | (go_at_call 79;exact Calls.quiet_of_same (HA.out _))
  | (go_at_call 79;exact Calls.quiet_of_same (HB.out _))
  | (go_at_call 101;exact Calls.quiet_of_same (HC.out _)))
 go_wp2
 go_ret
 exact ⟨rfl,nq,#[_],by rw [<-HWE.out,Go.Sort.alloc_eq_grow];rfl⟩
theorem cmp2_any (u:World) (a b:Int):
  Calls Tryz.prog 83 #[.agg #[by2V],.int .i64 a,.int .i64 b] u (GrowP (cmpI a b) u):=by
 obtain ⟨W1,hW1⟩:∃ x,x=u.alloc (.cells #[by2V] 131):=⟨_,rfl⟩
 have hr1:RB W1 u.heap.size #[by2V] 131:=by rw [hW1];exact rb_new u _ _
 have HA:=Lib.hid (fun q=>by2_any a (W1.drewN q))
 have HB:=Lib.hid (fun q=>by2_any b (W1.drewN q))
 have HC:=Lib.hid (fun q=>Compare_any a b (W1.drewN q))
 have x0:W1.cell? ⟨u.heap.size,0,none⟩=some by2V:=hr1.cell
 rw [hW1] at x0
 have HWE:Hid (u.alloc (.cells #[by2V] 131)=W1):=Lib.hid hW1.symm
 clear hr1 hW1
 go_enter Tryz.func83,Tryz.ntmps83
 go_wp2
 rw [HWE.out]
 rw [HWE.out] at x0
 go_quiet (first
  | (go_at_call 80;exact Calls.quiet_of_same (HA.out _))
  | (go_at_call 80;exact Calls.quiet_of_same (HB.out _))
  | (go_at_call 101;exact Calls.quiet_of_same (HC.out _)))
 go_wp2
 go_ret
 exact ⟨rfl,nq,#[_],by rw [<-HWE.out,Go.Sort.alloc_eq_grow];rfl⟩
end Go.Proofs.YtbabckomagkjbaaGreatDoor
