/- shrink, plain: what is left, in order. shrink: what orders two units. shrink: two orders, joined. shrink: two orders, joined: the closure; joined. -/
import Derived.Test.YtobdldadfipcgaaGreatDoorw2
import Derived.Sort.Grow
import Derived.BigQuiet
set_option maxRecDepth 100000
set_option maxHeartbeats 3000000
set_option linter.unusedVariables false
set_option linter.unusedSimpArgs false
namespace Go.Proofs.YtobdldadfipcgaaGreatDoor
open Go.ChangeShapes Go.WideShapes Go.Deep Go.RowKit
section
variable (f:Nat->Int)
def insK (a:Nat):List Nat->List Nat
 | []=>[a]
 | b :: t=>if f b < f a then b :: insK a t else a :: b :: t
def sortK (l:List Nat):List Nat:=l.foldr (insK f) []
variable {f}
theorem insK_perm (a:Nat):∀ l,(insK f a l).Perm (a :: l)
 | []=>List.Perm.refl _
 | b :: t=>by
  unfold insK
  split
  ·exact ((insK_perm a t).cons b).trans (List.Perm.swap a b t)
  ·exact List.Perm.refl _
theorem sortK_perm:∀ l,(sortK f l).Perm l
 | []=>List.Perm.refl _
 | a :: t=>(insK_perm a _).trans ((sortK_perm t).cons a)
theorem insK_up (a:Nat):∀ l,l.Pairwise (fun x y=>f x<=f y)->(insK f a l).Pairwise (fun x y=>f x<=f y)
 | [],_=>List.pairwise_singleton _ _
 | b :: t,h=>by
  obtain ⟨h1,h2⟩:=List.pairwise_cons.1 h
  unfold insK
  split
  ·rename_i hlt
   refine List.pairwise_cons.2 ⟨fun x hx=>?_,insK_up a t h2⟩
   rcases List.mem_cons.1 ((insK_perm a t).mem_iff.1 hx) with rfl | hx
   ·omega
   ·exact h1 x hx
  ·rename_i hlt
   refine List.pairwise_cons.2 ⟨fun x hx=>?_,h⟩
   rcases List.mem_cons.1 hx with rfl | hx
   ·omega
   ·have:=h1 x hx;omega
theorem sortK_up:∀ l,(sortK f l).Pairwise (fun x y=>f x<=f y)
 | []=>List.Pairwise.nil
 | a :: t=>insK_up a _ (sortK_up t)
theorem sortK_one {l d:List Nat} (hi:∀ a ∈ l,∀ b ∈ l,f a=f b->a=b) (hp:d.Perm l) (hu:d.Pairwise (fun x y=>f x<=f y)):d=sortK f l:=by
 refine List.Perm.eq_of_pairwise (le:=fun x y=>f x<=f y) ?_ hu (sortK_up l) (hp.trans (sortK_perm l).symm)
 intro a b ha hb h1 h2
 exact hi a (hp.mem_iff.1 ha) b ((sortK_perm l).mem_iff.1 hb) (by omega)
end
def kindN (S:List Sc) (k:Nat):Int:=match S[k]? with | some s=>s.kind | none=>0
def alignN (S:List Sc) (k:Nat):Int:=match S[k]? with | some s=>s.align | none=>0
def keyU (S:List Sc) (k:Nat):Int:=kindN S k*1000+k
def selfL (rep:List Int):List Nat:=(List.range rep.length).filter (fun (k:Nat)=>decide (rep[k]?=some (k:Int)))
def standL (S:List Sc) (rep:List Int):List Nat:=sortK (keyU S) (selfL rep)
def mostN (S:List Sc) (rep:List Int) (at':Nat):Nat->Int
 | 0=>0
 | m+1=>if rep[m]?=some (at':Int) then max (mostN S rep at' m) (alignN S m) else mostN S rep at' m
def alignL (S:List Sc) (rep:List Int):List Int:=(standL S rep).map (fun k=>mostN S rep k rep.length)
theorem selfL_mem {rep:List Int} {k:Nat}:k ∈ selfL rep ↔ rep[k]?=some (k:Int):=by
 unfold selfL
 simp only [List.mem_filter,List.mem_range,decide_eq_true_eq]
 exact ⟨fun h=>h.2,fun h=>⟨(List.getElem?_eq_some_iff.1 h).1,h⟩⟩
theorem standL_mem {S:List Sc} {rep:List Int} {k:Nat}:k ∈ standL S rep ↔ rep[k]?=some (k:Int):=by
 unfold standL
 rw [(sortK_perm _).mem_iff];exact selfL_mem
theorem keyU_inj {S:List Sc} {rep:List Int} (hl:rep.length<=256):∀ a ∈ selfL rep,∀ b ∈ selfL rep,keyU S a=keyU S b->a=b:=by
 intro a ha b hb h
 have h1:=(List.getElem?_eq_some_iff.1 (selfL_mem.1 ha)).1
 have h2:=(List.getElem?_eq_some_iff.1 (selfL_mem.1 hb)).1
 unfold keyU at h
 omega
theorem standL_one {S:List Sc} {rep:List Int} {d:List Nat} (hl:rep.length<=256) (hp:d.Perm (selfL rep)) (hu:d.Pairwise (fun x y=>keyU S x<=keyU S y)):d=standL S rep:=
 sortK_one (keyU_inj hl) hp hu
theorem standL_up {S:List Sc} {rep:List Int}:(standL S rep).Pairwise (fun x y=>keyU S x<=keyU S y):=sortK_up _
theorem selfL_len (rep:List Int):(selfL rep).length<=rep.length:=by
 unfold selfL
 exact Nat.le_trans (List.length_filter_le _ _) (by simp)
theorem standL_len (S:List Sc) (rep:List Int):(standL S rep).length=(selfL rep).length:=(sortK_perm _).length_eq
theorem selfL_snoc {rep:List Int} {k:Nat}:(List.range (k+1)).filter (fun (k:Nat)=>decide (rep[k]?=some (k:Int)))=(List.range k).filter (fun (k:Nat)=>decide (rep[k]?=some (k:Int))) ++ if rep[k]?=some (k:Int) then [k] else []:=by
 rw [List.range_succ,List.filter_append]
 congr 1
 by_cases h:rep[k]?=some (k:Int)
 ·rw [if_pos h];simp [h]
 ·rw [if_neg h];simp [h]
theorem mostN_pos {S:List Sc} {rep:List Int} {a:Nat}:∀ m,0<=mostN S rep a m
 | 0=>Int.le_refl _
 | m+1=>by
  have:=mostN_pos (S:=S) (rep:=rep) (a:=a) m
  unfold mostN
  split <;> omega
def RepsQ (S:List Sc) (rep:List Int):Prop:=rep.length=S.length/\∀ (k:Nat) (v:Int),rep[k]?=some v->v = -1\/(0<=v/\v < S.length/\rep[v.toNat]?=some v/\(v=k\/∀ (s t:Sc),S[k]?=some s->S[v.toNat]?=some t->alikeB s t=true))
def LeadQ (S:List Sc) (rep:List Int):Prop:=∀ (k:Nat) (v:Int),rep[k]?=some v->0<=v->∀ (s t:Sc),S[k]?=some s->S[v.toNat]?=some t->∀ (j:Nat) (r r':Rl),s.rels[j]?=some r->t.rels[j]?=some r'->∃ x:Int,0<=x/\rep[r.sym.toNat]?=some x/\rep[r'.sym.toNat]?=some x
end Go.Proofs.YtobdldadfipcgaaGreatDoor
namespace Go.Proofs.YtobdldadfipcgaaGreatDoor
open Go.ChangeShapes Go.WideShapes Go.Deep Go.RowKit
def cmpI (x y:Int):Int:=if x < y then -1 else if y < x then 1 else 0
def orI (x y:Int):Int:=if x=0 then y else x
def GrowP (r:Int) (w:World) (e:Ending) (w':World):Prop:=e=.returned (.int .i64 r)/\∃ q os,w'=Go.Sort.grow (w.drewN q) os
theorem grown_grow (w:World) (q q':Nat) (os os':Array Obj):Go.Sort.grow ((Go.Sort.grow (w.drewN q) os).drewN q') os'=Go.Sort.grow (w.drewN (q+q')) (os ++ os'):=by
 show Go.Sort.grow (Go.Sort.grow ((w.drewN q).drewN q') os) os'=_
 rw [Go.Sort.grow_grow,World.drewN_drewN]
theorem grow_cell {w:World} {q:Nat} {os:Array Obj} {p:Addr} (hp:p.block < w.heap.size):(Go.Sort.grow (w.drewN q) os).cell? p=w.cell? p:=by
 unfold World.cell?
 have:(Go.Sort.grow (w.drewN q) os).heap[p.block]?=w.heap[p.block]?:=by
  show (w.heap ++ os)[p.block]?=_
  rw [Array.getElem?_append,if_pos hp]
 rw [this]
theorem isNaN_any (x:Int) (w:World):Calls Tryz.prog 106 #[.int .i64 x] w (fun e w'=>e=.returned (.bool false)/\w'=w):=by
 have t:(x != x)=false:=by simp
 go_enter Tryz.func106,Tryz.ntmps106
 go_wp2
 go_ret
 exact ⟨rfl,rfl⟩
theorem Compare_any (x y:Int) (w:World):Calls Tryz.prog 75 #[.int .i64 x,.int .i64 y] w (fun e w'=>e=.returned (.int .i64 (cmpI x y))/\w'=w):=by
 have HN:=Lib.hid isNaN_any
 unfold cmpI
 by_cases h1:x < y
 ·rw [if_pos h1]
  go_enter Tryz.func75,Tryz.ntmps75
  go_wp2_with (go_at_call 106;refine (HN.out _ _).mono ?_;rintro e w' ⟨rfl,rfl⟩)
  go_ret
  exact ⟨rfl,rfl⟩
 ·rw [if_neg h1]
  by_cases h2:y < x
  ·rw [if_pos h2]
   go_enter Tryz.func75,Tryz.ntmps75
   go_wp2_with (go_at_call 106;refine (HN.out _ _).mono ?_;rintro e w' ⟨rfl,rfl⟩)
   go_ret
   exact ⟨rfl,rfl⟩
  ·rw [if_neg h2]
   go_enter Tryz.func75,Tryz.ntmps75
   go_wp2_with (go_at_call 106;refine (HN.out _ _).mono ?_;rintro e w' ⟨rfl,rfl⟩)
   go_ret
   exact ⟨rfl,rfl⟩
theorem Or_any (b:Nat) (x y:Int) (w:World) (h:RB w b #[.int .i64 x,.int .i64 y] 3):Calls Tryz.prog 74 #[.slice (some ⟨b,0,none⟩) 2 2] w (fun e w'=>e=.returned (.int .i64 (orI x y))/\w'=w):=by
 have c0:w.cell? ⟨b,0,none⟩=some (.int .i64 x):=h.cell
 have c1:w.cell? ⟨b,1,none⟩=some (.int .i64 y):=h.cell
 clear h
 unfold orI
 by_cases h1:x=0
 ·subst h1
  rw [if_pos rfl]
  by_cases h2:y=0
  ·subst h2
   go_enter Tryz.func74,Tryz.ntmps74
   go_wp2
   refine wp_loop_rounds 3 ?_
   rw [rounds_succ];go_wp2
   rw [rounds_succ];go_wp2
   rw [rounds_succ];go_wp2
   go_ret
   exact ⟨rfl,rfl⟩
  ·have t1:(y != 0)=true:=by simp [h2]
   go_enter Tryz.func74,Tryz.ntmps74
   go_wp2
   refine wp_loop_rounds 3 ?_
   rw [rounds_succ];go_wp2
   rw [rounds_succ];go_wp2
   go_ret
   exact ⟨rfl,rfl⟩
 ·have t1:(x != 0)=true:=by simp [h1]
  rw [if_neg h1]
  go_enter Tryz.func74,Tryz.ntmps74
  go_wp2
  refine wp_loop_rounds 3 ?_
  rw [rounds_succ];go_wp2
  go_ret
  exact ⟨rfl,rfl⟩
theorem by2_any (k:Int) (w:World):Calls Tryz.prog 47 #[.int .i64 k] w (fun e w'=>e=.returned (.int .i64 k)/\w'=w):=by
 go_enter Tryz.func47,Tryz.ntmps47
 go_wp2
 go_ret
 exact ⟨rfl,rfl⟩
theorem by1_any (u:World) (c:Nat) (ua:Option Addr) (n uc:Nat) (L:List Ms) (k:Nat) (hn:n<=256) (hk:k < n) (hbx:RB u c #[.slice ua n uc] 22) (hs:SL msC 6 u u.heap.size ua n L):
  Calls Tryz.prog 46 #[.int .i64 (k:Int),.pointer (some ⟨c,0,none⟩)] u (fun e w'=>e=.returned (.int .i64 (kindN (L.map (·.sc)) k))/\w'=u):=by
 have hkL:k < L.length:=by rw [<-hs.len];exact hk
 obtain ⟨ub,uo,hae,-,-⟩:=hs.cells (by intro e;rw [e] at hkL;simp at hkL)
 subst hae
 obtain ⟨m,hm⟩:∃ m,L[k]?=some m:=⟨_,List.getElem?_eq_getElem hkL⟩
 obtain ⟨-,y1,-,-,-,-⟩:=unit_cells hs (Below.refl _ _) hm
 have g0:u.cell? ⟨c,0,none⟩=some (.slice (some ⟨ub,uo,none⟩) n uc):=hbx.cell
 have HK:Hid (kindN (L.map (·.sc)) k=m.sc.kind):=Lib.hid (by unfold kindN;rw [List.getElem?_map,hm];rfl)
 have hki:(k:Int) < (n:Int):=by omega
 rw [HK.out]
 obtain ⟨mk,hmk⟩:∃ x,x=m.sc.kind:=⟨_,rfl⟩
 rw [<-hmk] at y1 ⊢
 clear hbx hs hm hkL hk hmk HK
 go_enter Tryz.func46,Tryz.ntmps46
 go_wp2
 go_ret
 exact ⟨rfl,rfl⟩
end Go.Proofs.YtobdldadfipcgaaGreatDoor
namespace Go.Proofs.YtobdldadfipcgaaGreatDoor
open Go.ChangeShapes Go.WideShapes Go.Deep Go.RowKit
abbrev by1V (c:Nat):Value:=.func (.func 46) #[] #[.pointer (some ⟨c,0,none⟩)]
abbrev by2V:Value:=.func (.func 47) #[] #[]
theorem cmp1_any (u:World) (c:Nat) (ua:Option Addr) (n uc:Nat) (L:List Ms) (a b:Nat) (hn:n<=256) (ha:a < n) (hb:b < n) (hbx:RB u c #[.slice ua n uc] 22) (hs:SL msC 6 u u.heap.size ua n L):
  Calls Tryz.prog 50 #[.agg #[by1V c],.int .i64 (a:Int),.int .i64 (b:Int)] u (GrowP (cmpI (kindN (L.map (·.sc)) a) (kindN (L.map (·.sc)) b)) u):=by
 obtain ⟨W1,hW1⟩:∃ x,x=u.alloc (.cells #[by1V c] 114):=⟨_,rfl⟩
 have hb1:Below u.heap.size u W1:=by rw [hW1];exact lit_below u _
 have hr1:RB W1 u.heap.size #[by1V c] 114:=by rw [hW1];exact rb_new u _ _
 have HBy:Hid (∀ q k,k < n->Calls Tryz.prog 46 #[.int .i64 (k:Int),.pointer (some ⟨c,0,none⟩)] (W1.drewN q) (fun e w'=>e=.returned (.int .i64 (kindN (L.map (·.sc)) k))/\w'=W1.drewN q)):=Lib.hid (fun q k hk=>by
  have hbq:Below u.heap.size u (W1.drewN q):=below_drewN hb1 q
  exact by1_any (W1.drewN q) c ua n uc L k hn hk (hbx.next hbq) (hs.next hbq))
 obtain ⟨ka,hka⟩:∃ x,x=kindN (L.map (·.sc)) a:=⟨_,rfl⟩
 obtain ⟨kb,hkb⟩:∃ x,x=kindN (L.map (·.sc)) b:=⟨_,rfl⟩
 have HA:Hid (∀ q,Calls Tryz.prog 46 #[.int .i64 (a:Int),.pointer (some ⟨c,0,none⟩)] (W1.drewN q) (fun e w'=>e=.returned (.int .i64 ka)/\w'=W1.drewN q)):=Lib.hid (fun q=>by rw [hka];exact HBy.out q a ha)
 have HB:Hid (∀ q,Calls Tryz.prog 46 #[.int .i64 (b:Int),.pointer (some ⟨c,0,none⟩)] (W1.drewN q) (fun e w'=>e=.returned (.int .i64 kb)/\w'=W1.drewN q)):=Lib.hid (fun q=>by rw [hkb];exact HBy.out q b hb)
 have HC:=Lib.hid (fun q=>Compare_any ka kb (W1.drewN q))
 have x0:W1.cell? ⟨u.heap.size,0,none⟩=some (by1V c):=hr1.cell
 rw [hW1] at x0
 have HWE:Hid (u.alloc (.cells #[by1V c] 114)=W1):=Lib.hid hW1.symm
 rw [<-hka,<-hkb]
 clear hbx hs ha hb hn hb1 hr1 hka hkb HBy hW1
 go_enter Tryz.func50,Tryz.ntmps50
 go_wp2
 rw [HWE.out]
 rw [HWE.out] at x0
 go_quiet (first
  | (go_at_call 46;exact Calls.quiet_of_same (HA.out _))
  | (go_at_call 46;exact Calls.quiet_of_same (HB.out _))
  | (go_at_call 75;exact Calls.quiet_of_same (HC.out _)))
 go_wp2
 go_ret
 exact ⟨rfl,nq,#[_],by rw [<-HWE.out,Go.Sort.alloc_eq_grow];rfl⟩
theorem cmp2_any (u:World) (a b:Int):
  Calls Tryz.prog 50 #[.agg #[by2V],.int .i64 a,.int .i64 b] u (GrowP (cmpI a b) u):=by
 obtain ⟨W1,hW1⟩:∃ x,x=u.alloc (.cells #[by2V] 114):=⟨_,rfl⟩
 have hr1:RB W1 u.heap.size #[by2V] 114:=by rw [hW1];exact rb_new u _ _
 have HA:=Lib.hid (fun q=>by2_any a (W1.drewN q))
 have HB:=Lib.hid (fun q=>by2_any b (W1.drewN q))
 have HC:=Lib.hid (fun q=>Compare_any a b (W1.drewN q))
 have x0:W1.cell? ⟨u.heap.size,0,none⟩=some by2V:=hr1.cell
 rw [hW1] at x0
 have HWE:Hid (u.alloc (.cells #[by2V] 114)=W1):=Lib.hid hW1.symm
 clear hr1 hW1
 go_enter Tryz.func50,Tryz.ntmps50
 go_wp2
 rw [HWE.out]
 rw [HWE.out] at x0
 go_quiet (first
  | (go_at_call 47;exact Calls.quiet_of_same (HA.out _))
  | (go_at_call 47;exact Calls.quiet_of_same (HB.out _))
  | (go_at_call 75;exact Calls.quiet_of_same (HC.out _)))
 go_wp2
 go_ret
 exact ⟨rfl,nq,#[_],by rw [<-HWE.out,Go.Sort.alloc_eq_grow];rfl⟩
end Go.Proofs.YtobdldadfipcgaaGreatDoor
namespace Go.Proofs.YtobdldadfipcgaaGreatDoor
open Go.ChangeShapes Go.WideShapes Go.Deep Go.RowKit
def Grown (w w':World):Prop:=∃ q os,w'=Go.Sort.grow (w.drewN q) os
theorem Grown.refl (w:World):Grown w w:=⟨0,#[],by rw [Go.Sort.grow_empty];rfl⟩
theorem grown_drew (w:World):Grown w w.drew:=⟨1,#[],by rw [Go.Sort.grow_empty];rfl⟩
theorem Grown.trans {a b c:World} (h:Grown a b) (h':Grown b c):Grown a c:=by
 obtain ⟨q,os,rfl⟩:=h
 obtain ⟨q',os',rfl⟩:=h'
 exact ⟨_,_,grown_grow a q q' os os'⟩
theorem Grown.cell {a b:World} (h:Grown a b) {p:Addr} (hp:p.block < a.heap.size):b.cell? p=a.cell? p:=by
 obtain ⟨q,os,rfl⟩:=h
 exact grow_cell hp
theorem Grown.below {a b:World} (h:Grown a b):Below a.heap.size a b:=by
 obtain ⟨q,os,rfl⟩:=h
 refine ⟨rfl,rfl,rfl,?_,fun k hk=>?_⟩
 ·show a.heap.size<=(a.heap ++ os).size
  simp
 ·show (a.heap ++ os)[k]?=a.heap[k]?
  rw [Array.getElem?_append,if_pos hk]
theorem joined1_any (u:World) (c1 c2:Nat) (r1 r2 a b:Int) (o1 o2:Value) (h1:c1 < u.heap.size) (h2:c2 < u.heap.size)
  (x1:u.cell? ⟨c1,0,none⟩=some (.func (.func 50) #[o1] #[])) (x2:u.cell? ⟨c2,0,none⟩=some (.func (.func 50) #[o2] #[]))
  (k1:∀ v,Grown u v->Calls Tryz.prog 50 #[o1,.int .i64 a,.int .i64 b] v (GrowP r1 v)) (k2:∀ v,Grown u v->Calls Tryz.prog 50 #[o2,.int .i64 a,.int .i64 b] v (GrowP r2 v)):
  Calls Tryz.prog 73 #[.int .i64 a,.int .i64 b,.pointer (some ⟨c1,0,none⟩),.pointer (some ⟨c2,0,none⟩)] u (GrowP (orI r1 r2) u):=by
 have H1:=Lib.hid k1
 have H2:=Lib.hid k2
 have HKp:Hid (∀ v,Grown u v->(fun v=>v.cell? ⟨c1,0,none⟩=some (.func (.func 50) #[o1] #[])/\v.cell? ⟨c2,0,none⟩=some (.func (.func 50) #[o2] #[])) v):=Lib.hid (fun v hv=>⟨(hv.cell (p:=⟨c1,0,none⟩) h1).trans x1,(hv.cell (p:=⟨c2,0,none⟩) h2).trans x2⟩)
 clear k1 k2 h1 h2 x1 x2
 go_enter Tryz.func73,Tryz.ntmps73
 go_wp2_with fail
 refine wp_region_held_drew (S:=fun v=>v.cell? ⟨c1,0,none⟩=some (.func (.func 50) #[o1] #[])/\v.cell? ⟨c2,0,none⟩=some (.func (.func 50) #[o2] #[])) (by kernel_rfl) (HKp.out _ (grown_drew u)) (fun hHeld=>?_)
 refine wpAnyH_take (i:=0) (v:=?_) rfl (by kernel_rfl) (by kernel_rfl) (by kernel_rfl) (fun _ _ _ h=>h) (Or.inl ⟨by kernel_rfl,?_⟩) hHeld ?_
 rotate_left 1
 ·intro w hSw;(try dsimp only at hSw);obtain ⟨x1,x2⟩:=hSw;go_simp;(try with_reducible rfl)
 (try simp only [Act.put,List.setIfInBounds_toArray,List.set_cons_zero,List.set_cons_succ])
 refine wpAnyH_take (i:=1) (v:=?_) rfl (by kernel_rfl) (by kernel_rfl) (by kernel_rfl) (fun _ _ _ h=>h) (Or.inl ⟨by kernel_rfl,?_⟩) hHeld ?_
 rotate_left 1
 ·intro w hSw;(try dsimp only at hSw);obtain ⟨x1,x2⟩:=hSw;go_simp;(try with_reducible rfl)
 (try simp only [Act.put,List.setIfInBounds_toArray,List.set_cons_zero,List.set_cons_succ])
 refine wpAnyH_take (i:=2) (v:=?_) rfl (by kernel_rfl) (by kernel_rfl) (by kernel_rfl) (fun _ _ _ h=>h) (Or.inl ⟨by kernel_rfl,?_⟩) hHeld ?_
 rotate_left 1
 ·intro w hSw;(try dsimp only at hSw);obtain ⟨x1,x2⟩:=hSw;go_simp;(try with_reducible rfl)
 (try simp only [Act.put,List.setIfInBounds_toArray,List.set_cons_zero,List.set_cons_succ])
 refine wpAnyH_take (i:=4) (v:=?_) rfl (by kernel_rfl) (by kernel_rfl) (by kernel_rfl) (fun _ _ _ h=>h) (Or.inl ⟨by kernel_rfl,?_⟩) hHeld ?_
 rotate_left 1
 ·intro w hSw;(try dsimp only at hSw);obtain ⟨x1,x2⟩:=hSw;go_simp;(try with_reducible rfl)
 (try simp only [Act.put,List.setIfInBounds_toArray,List.set_cons_zero,List.set_cons_succ])
 refine wpAnyH_take (i:=5) (v:=?_) rfl (by kernel_rfl) (by kernel_rfl) (by kernel_rfl) (fun _ _ _ h=>h) (Or.inl ⟨by kernel_rfl,?_⟩) hHeld ?_
 rotate_left 1
 ·intro w hSw;(try dsimp only at hSw);obtain ⟨x1,x2⟩:=hSw;go_simp;(try with_reducible rfl)
 (try simp only [Act.put,List.setIfInBounds_toArray,List.set_cons_zero,List.set_cons_succ])
 refine wpAnyH_take (i:=6) (v:=?_) rfl (by kernel_rfl) (by kernel_rfl) (by kernel_rfl) (fun _ _ _ h=>h) (Or.inl ⟨by kernel_rfl,?_⟩) hHeld ?_
 rotate_left 1
 ·intro w hSw;(try dsimp only at hSw);obtain ⟨x1,x2⟩:=hSw;go_simp;(try with_reducible rfl)
 (try simp only [Act.put,List.setIfInBounds_toArray,List.set_cons_zero,List.set_cons_succ])
 refine wpAnyH_ready (rs:=[3]) (by kernel_rfl) (by simp) ?_
 refine AllReadyH.cons rfl (fun K hK=>?_) ?_
 ·go_simp;go_wp2_with (go_at_call 50;refine (H1.out _ (grown_drew u)).mono ?_;rintro e v1 ⟨rfl,hg1⟩);have G1:=((grown_drew u)).trans hg1
  refine hK.out _ _ (HKp.out _ G1) (fun hHeld=>?_)
  clear hK K
  refine wpAnyH_ready (rs:=[7]) (by kernel_rfl) (by simp) ?_
  refine AllReadyH.cons rfl (fun K hK=>?_) ?_
  rotate_left 1
  ·exact AllReadyH.nil
  go_simp;go_wp2_with (go_at_call 50;refine (H2.out _ G1).mono ?_;rintro e v2 ⟨rfl,hg2⟩);have G2:=(G1).trans hg2
  refine hK.out _ _ (HKp.out _ G2) (fun hHeld=>?_)
  clear hK K
  refine wpAnyH_ready (rs:=[8]) (by kernel_rfl) (by simp) ?_
  refine AllReadyH.cons rfl (fun K hK=>?_) ?_
  rotate_left 1
  ·exact AllReadyH.nil
  obtain ⟨v9,hv9⟩:∃ x,x=v2.alloc (.cells #[.int .i64 r1,.int .i64 r2] 3):=⟨_,rfl⟩
  have hr9:RB v9 v2.heap.size #[.int .i64 r1,.int .i64 r2] 3:=by rw [hv9];exact rb_new _ _ _
  have G9:Grown u v9:=G2.trans ⟨0,#[_],by rw [hv9,Go.Sort.alloc_eq_grow];rfl⟩
  go_simp
  rw [<-hv9]
  refine hK.out _ _ (HKp.out _ G9) (fun hHeld=>?_)
  clear hK K
  have HO:=Or_any v2.heap.size r1 r2 v9 hr9
  clear hr9 hv9
  generalize v2.heap.size=bi at HO ⊢
  refine wpAnyH_ready (rs:=[9]) (by kernel_rfl) (by simp) ?_
  refine AllReadyH.cons rfl (fun K hK=>?_) ?_
  rotate_left 1
  ·exact AllReadyH.nil
  go_simp
  go_wp2_with (go_at_call 74;refine HO.mono ?_;rintro e v10 ⟨rfl,h10⟩;obtain rfl:=h10)
  refine hK.out _ _ (HKp.out _ G9) (fun hHeld=>?_)
  clear hK K
  refine wpAnyH_ready (rs:=[10]) (by kernel_rfl) (by simp) ?_
  refine AllReadyH.cons rfl (fun K hK=>?_) ?_
  ·go_simp
   refine hK.out _ _ (HKp.out _ G9) (fun hHeld=>?_)
   clear hK K
   refine wpAnyH_done (by kernel_rfl) ?_ _
   go_wp2
   go_ret
   exact ⟨rfl,G9⟩
  exact AllReadyH.nil
 exact AllReadyH.nil
theorem joined_any (u:World) (o1 o2:Value):Calls Tryz.prog 49 #[.func (.func 50) #[o1] #[],.func (.func 50) #[o2] #[]] u (fun e w'=>∃ T,e=.returned (.func (.func 73) #[] #[.pointer (some ⟨u.heap.size,0,none⟩),.pointer (some ⟨u.heap.size+1,0,none⟩)])/\w'=(u.alloc (.cells #[.func (.func 50) #[o1] #[]] T)).alloc (.cells #[.func (.func 50) #[o2] #[]] T)):=by
 go_enter Tryz.func49,Tryz.ntmps49
 go_wp2
 go_ret
 exact ⟨_,rfl,rfl⟩
end Go.Proofs.YtobdldadfipcgaaGreatDoor
