/- shrink, plain: what is left, in order. shrink: what orders two units. shrink: two orders, joined. shrink: two orders, joined: the closure; joined. -/
import Derived.Test.YtiohgaghmnpplaaGreatDoorqA
import Derived.Test.YtiohgaghmnpplaaGreatDoorw2
import Derived.Sort.Grow
import Derived.BigQuiet
set_option maxRecDepth 100000
set_option maxHeartbeats 3000000
set_option linter.unusedVariables false
set_option linter.unusedSimpArgs false
namespace Go.Proofs.YtiohgaghmnpplaaGreatDoor
open Go.ChangeShapes Go.WideShapes Go.Deep Go.RowKit
section
variable (f:Nat->Int)
def insK (a:Nat):List Nat->List Nat
 | []=>[a]
 |b :: t=>if f b<f a then b :: insK a t else a :: b :: t
def sortK (l:List Nat):List Nat:=l.foldr (insK f) []
variable {f}
theorem insK_perm (a:Nat):∀l,(insK f a l).Perm (a :: l)
 | []=>List.Perm.refl _
 |b :: t=>by
  unfold insK;split
  ·exact((insK_perm a t).cons b).trans (List.Perm.swap a b t)
  ·exact List.Perm.refl _
theorem iV:∀l,(sortK f l).Perm l
 | []=>List.Perm.refl _
 |a :: t=>(insK_perm a _).trans ((iV t).cons a)
theorem insK_up (a:Nat):∀l,l.Pairwise (fun x y=>f x<=f y)->(insK f a l).Pairwise (fun x y=>f x<=f y)
 | [],_=>List.pairwise_singleton _ _
 |b :: t,h=>by
  obtain⟨h1,h2⟩:=List.pairwise_cons.1 h;unfold insK;split
  ·rename_i hlt;refine List.pairwise_cons.2 ⟨fun x hx=>?_,insK_up a t h2⟩;rcases List.mem_cons.1 ((insK_perm a t).mem_iff.1 hx)with rfl|hx
   ·omega
   ·exact h1 x hx
  ·rename_i hlt;refine List.pairwise_cons.2 ⟨fun x hx=>?_,h⟩;rcases List.mem_cons.1 hx with rfl|hx
   ·omega
   ·have:=h1 x hx;omega
theorem sortK_up:∀l,(sortK f l).Pairwise (fun x y=>f x<=f y)
 | []=>List.Pairwise.nil
 |a :: t=>insK_up a _ (sortK_up t)
theorem sortK_one {l d:List Nat}(hi:∀a∈l,∀b∈l,f a=f b->a=b)(hp:d.Perm l)(hu:d.Pairwise (fun x y=>f x<=f y)):d=sortK f l:=by
 refine List.Perm.eq_of_pairwise (le:=fun x y=>f x<=f y) ?_ hu (sortK_up l) (hp.trans (iV l).symm);intro a b ha hb h1 h2;exact hi a (hp.mem_iff.1 ha) b ((iV l).mem_iff.1 hb) (by omega)
end
def bG (S:List Sc)(k:Nat):Int:=match S[k]? with|some s=>s.kind|none=>0
def oF (S:List Sc)(k:Nat):Int:=match S[k]? with|some s=>s.align|none=>0
def jS (S:List Sc)(k:Nat):Int:=bG S k*1000+k
def kW (rep:List Int):List Nat:=(List.range rep.length).filter (fun (k:Nat)=>decide (rep[k]?=some (k:Int)))
def aJ (S:List Sc)(rep:List Int):List Nat:=sortK (jS S) (kW rep)
def eE (S:List Sc)(rep:List Int)(at':Nat):Nat->Int
 |0=>0
 |m+1=>if rep[m]?=some (at':Int)then max (eE S rep at' m) (oF S m)else eE S rep at' m
def eP (S:List Sc)(rep:List Int):List Int:=(aJ S rep).map (fun k=>eE S rep k rep.length)
theorem lO {rep:List Int}{k:Nat}:k∈kW rep↔rep[k]?=some (k:Int):=by
 unfold kW;simp only[List.mem_filter,List.mem_range,decide_eq_true_eq];exact⟨fun h=>h.2,fun h=>⟨(eX h).1,h⟩⟩
theorem qA {S:List Sc}{rep:List Int}{k:Nat}:k∈aJ S rep↔rep[k]?=some (k:Int):=by
 unfold aJ;rw[(iV _).mem_iff];exact lO
theorem keyU_inj {S:List Sc}{rep:List Int}(hl:rep.length<=256):∀a∈kW rep,∀b∈kW rep,jS S a=jS S b->a=b:=by
 intro a ha b hb h;have h1:=(eX (lO.1 ha)).1;have h2:=(eX (lO.1 hb)).1;unfold jS at h;omega
theorem standL_one {S:List Sc}{rep:List Int}{d:List Nat}(hl:rep.length<=256)(hp:d.Perm (kW rep))(hu:d.Pairwise (fun x y=>jS S x<=jS S y)):d=aJ S rep:=
 sortK_one (keyU_inj hl) hp hu
theorem standL_up {S:List Sc}{rep:List Int}:(aJ S rep).Pairwise (fun x y=>jS S x<=jS S y):=sortK_up _
theorem oO (rep:List Int):(kW rep).length<=rep.length:=by
 unfold kW;exact Nat.le_trans (List.length_filter_le _ _) (by simp)
theorem qB (S:List Sc)(rep:List Int):(aJ S rep).length=(kW rep).length:=(iV _).length_eq
theorem selfL_snoc {rep:List Int} {k:Nat}:(List.range (k+1)).filter (fun (k:Nat)=>decide (rep[k]?=some (k:Int)))=(List.range k).filter (fun (k:Nat)=>decide (rep[k]?=some (k:Int))) ++ if rep[k]?=some (k:Int) then [k] else []:=by
 rw[List.range_succ,List.filter_append];congr 1;by_cases h:rep[k]?=some (k:Int)
 ·rw[if_pos h];simp[h]
 ·rw[if_neg h];simp[h]
theorem mostN_pos {S:List Sc}{rep:List Int}{a:Nat}:∀m,0<=eE S rep a m
 |0=>Int.le_refl _
 |m+1=>by
  have:=mostN_pos (S:=S) (rep:=rep) (a:=a) m;unfold eE;split<;>omega
def jP (S:List Sc)(rep:List Int):Prop:=rep.length=S.length/\∀(k:Nat) (v:Int),rep[k]?=some v->v= -1\/(0<=v/\v<S.length/\rep[v.toNat]?=some v/\(v=k\/∀(s t:Sc),S[k]?=some s->S[v.toNat]?=some t->dU s t=true))
def pS (S:List Sc)(rep:List Int):Prop:=∀(k:Nat) (v:Int),rep[k]?=some v->0<=v->∀(s t:Sc),S[k]?=some s->S[v.toNat]?=some t->∀(j:Nat) (r r':Rl),s.rels[j]?=some r->t.rels[j]?=some r'->∃x:Int,0<=x/\rep[r.sym.toNat]?=some x/\rep[r'.sym.toNat]?=some x
theorem alike_symm {s t:Sc}(h:dU s t=true):dU t s=true:=by
 have hs:[s,t][0]?=some s:=rfl;have ht:[s,t][1]?=some t:=rfl;obtain⟨h1,h2,h3⟩:=(alike_iff hs ht).1 h;exact(alike_iff ht hs).2 ⟨h2,h1,h3.symm⟩
def cmpI (x y:Int):Int:=if x<y then -1 else if y<x then 1 else 0
def orI (x y:Int):Int:=if x=0 then y else x
def GrowP (r:Int)(w:World)(e:Ending)(w':World):Prop:=e=.returned (.int .i64 r)/\∃q os,w'=Go.Sort.grow (w.drewN q) os
theorem grown_grow (w:World)(q q':Nat)(os os':Array Obj):Go.Sort.grow ((Go.Sort.grow (w.drewN q) os).drewN q') os'=Go.Sort.grow (w.drewN (q+q')) (os++os'):=by
 show Go.Sort.grow (Go.Sort.grow ((w.drewN q).drewN q') os) os'=_
 rw[Go.Sort.grow_grow,World.drewN_drewN]
theorem grow_cell {w:World}{q:Nat}{os:Array Obj}{p:Addr}(hp:p.block<w.heap.size):(Go.Sort.grow (w.drewN q) os).cell? p=w.cell? p:=by
 unfold World.cell?;have:(Go.Sort.grow (w.drewN q) os).heap[p.block]?=w.heap[p.block]?:=by
  show(w.heap++os)[p.block]?=_
  rw[Array.getElem?_append,if_pos hp]
 rw[this]
theorem isNaN_any (x:Int)(w:World):Calls Tryz.prog 151 #[.int .i64 x] w (fun e w'=>e=.returned (.bool false)/\w'=w):=by
 have t:(x !=x)=false:=by simp
 go_enter Tryz.func151,Tryz.ntmps151;go_wp2;go_ret;exact⟨rfl,rfl⟩
theorem Compare_any (x y:Int)(w:World):Calls Tryz.prog 112 #[.int .i64 x,.int .i64 y] w (fun e w'=>e=.returned (.int .i64 (cmpI x y))/\w'=w):=by
 have HN:=aH isNaN_any;unfold cmpI;by_cases h1:x<y
 ·rw[if_pos h1];go_enter Tryz.func112,Tryz.ntmps112;go_wp2_with (go_at_call 151;refine(HN.out _ _).mono ?_;rintro e w' ⟨rfl,rfl⟩)
  go_ret;exact⟨rfl,rfl⟩
 ·rw[if_neg h1];by_cases h2:y<x
  ·rw[if_pos h2];go_enter Tryz.func112,Tryz.ntmps112;go_wp2_with (go_at_call 151;refine(HN.out _ _).mono ?_;rintro e w' ⟨rfl,rfl⟩)
   go_ret;exact⟨rfl,rfl⟩
  ·rw[if_neg h2];go_enter Tryz.func112,Tryz.ntmps112;go_wp2_with (go_at_call 151;refine(HN.out _ _).mono ?_;rintro e w' ⟨rfl,rfl⟩)
   go_ret;exact⟨rfl,rfl⟩
theorem Or_any (b:Nat)(x y:Int)(w:World)(h:RB w b #[.int .i64 x,.int .i64 y] 3):Calls Tryz.prog 111 #[.slice (some ⟨b,0,none⟩) 2 2] w (fun e w'=>e=.returned (.int .i64 (orI x y))/\w'=w):=by
 have c0:w.cell? ⟨b,0,none⟩=some (.int .i64 x):=h.cell;have c1:w.cell? ⟨b,1,none⟩=some (.int .i64 y):=h.cell;clear h;unfold orI;by_cases h1:x=0
 ·subst h1;rw[if_pos rfl];by_cases h2:y=0
  ·subst h2;go_enter Tryz.func111,Tryz.ntmps111;go_wp2;refine wp_loop_rounds 3 ?_;rw[rounds_succ];go_wp2;rw[rounds_succ];go_wp2;rw[rounds_succ];go_wp2;go_ret;exact⟨rfl,rfl⟩
  ·have t1:(y !=0)=true:=by simp[h2]
   go_enter Tryz.func111,Tryz.ntmps111;go_wp2;refine wp_loop_rounds 3 ?_;rw[rounds_succ];go_wp2;rw[rounds_succ];go_wp2;go_ret;exact⟨rfl,rfl⟩
 ·have t1:(x !=0)=true:=by simp[h1]
  rw[if_neg h1];go_enter Tryz.func111,Tryz.ntmps111;go_wp2;refine wp_loop_rounds 3 ?_;rw[rounds_succ];go_wp2;go_ret;exact⟨rfl,rfl⟩
theorem by2_any (k:Int)(w:World):Calls Tryz.prog 80 #[.int .i64 k] w (fun e w'=>e=.returned (.int .i64 k)/\w'=w):=by
 go_enter Tryz.func80,Tryz.ntmps80;go_wp2;go_ret;exact⟨rfl,rfl⟩
theorem by1_any (u:World)(c:Nat)(ua:Option Addr)(n uc:Nat)(L:List Ms)(k:Nat)(hn:n<=256)(hk:k<n)(hbx:RB u c #[.slice ua n uc] 22)(hs:SL mX 6 u u.heap.size ua n L):
  Calls Tryz.prog 79 #[.int .i64 (k:Int),.pointer (some ⟨c,0,none⟩)] u (fun e w'=>e=.returned (.int .i64 (bG (L.map (·.sc)) k))/\w'=u):=by
 have hkL:k<L.length:=by rw[<-hs.len];exact hk
 obtain⟨ub,uo,hae,-,-⟩:=hs.cells (by intro e;rw[e]at hkL;simp at hkL);subst hae;obtain⟨m,hm⟩:=aG (l:=L) (i:=k) hkL;obtain⟨-,y1,-,-,-,-⟩:=cO hs (Below.refl _ _) hm;have g0:u.cell? ⟨c,0,none⟩=some (.slice (some ⟨ub,uo,none⟩) n uc):=hbx.cell;have HK:Hid (bG (L.map (·.sc)) k=m.sc.kind):=aH (by unfold bG;rw[List.getElem?_map,hm];rfl);have hki:(k:Int)<(n:Int):=by omega
 rw[HK.out];obtain⟨mk,hmk⟩:=aE m.sc.kind;rw[<-hmk]at y1⊢;clear hbx hs hm hkL hk hmk HK;go_enter Tryz.func79,Tryz.ntmps79;go_wp2;go_ret;exact⟨rfl,rfl⟩
abbrev pM (c:Nat):Value:=.func (.func 79) #[] #[.pointer (some ⟨c,0,none⟩)]
abbrev by2V:Value:=.func (.func 80) #[] #[]
theorem cmp1_any (u:World)(c:Nat)(ua:Option Addr)(n uc:Nat)(L:List Ms)(a b:Nat)(hn:n<=256)(ha:a<n)(hb:b<n)(hbx:RB u c #[.slice ua n uc] 22)(hs:SL mX 6 u u.heap.size ua n L):
  Calls Tryz.prog 83 #[.agg #[pM c],.int .i64 (a:Int),.int .i64 (b:Int)] u (GrowP (cmpI (bG (L.map (·.sc)) a) (bG (L.map (·.sc)) b)) u):=by
 obtain⟨W1,hW1⟩:=aE (u.alloc (.cells #[pM c] 127));have hb1:Below u.heap.size u W1:=by rw[hW1];exact aC u _
 have hr1:RB W1 u.heap.size #[pM c] 127:=by rw[hW1];exact aQ u _ _
 have HBy:Hid (∀q k,k<n->Calls Tryz.prog 79 #[.int .i64 (k:Int),.pointer (some ⟨c,0,none⟩)] (W1.drewN q) (fun e w'=>e=.returned (.int .i64 (bG (L.map (·.sc)) k))/\w'=W1.drewN q)):=aH (fun q k hk=>by
  have hbq:Below u.heap.size u (W1.drewN q):=below_drewN hb1 q;exact by1_any (W1.drewN q) c ua n uc L k hn hk (hbx.next hbq) (hs.next hbq))
 obtain⟨ka,hka⟩:=aE (bG (L.map (·.sc)) a);obtain⟨kb,hkb⟩:=aE (bG (L.map (·.sc)) b);have HA:Hid (∀q,Calls Tryz.prog 79 #[.int .i64 (a:Int),.pointer (some ⟨c,0,none⟩)] (W1.drewN q) (fun e w'=>e=.returned (.int .i64 ka)/\w'=W1.drewN q)):=aH (fun q=>by rw[hka];exact HBy.out q a ha);have HB:Hid (∀q,Calls Tryz.prog 79 #[.int .i64 (b:Int),.pointer (some ⟨c,0,none⟩)] (W1.drewN q) (fun e w'=>e=.returned (.int .i64 kb)/\w'=W1.drewN q)):=aH (fun q=>by rw[hkb];exact HBy.out q b hb);have HC:=aH (fun q=>Compare_any ka kb (W1.drewN q));have x0:W1.cell? ⟨u.heap.size,0,none⟩=some (pM c):=hr1.cell;rw[hW1]at x0;have HWE:Hid (u.alloc (.cells #[pM c] 127)=W1):=aH hW1.symm;rw[<-hka,<-hkb];clear hbx hs ha hb hn hb1 hr1 hka hkb HBy hW1;go_enter Tryz.func83,Tryz.ntmps83;go_wp2;rw[HWE.out];rw[HWE.out]at x0;go_quiet (first
  |(go_at_call 79;exact Calls.quiet_of_same (HA.out _))
  |(go_at_call 79;exact Calls.quiet_of_same (HB.out _))
  |(go_at_call 112;exact Calls.quiet_of_same (HC.out _)))
 go_wp2;go_ret;exact⟨rfl,nq,#[_],by rw[<-HWE.out,Go.Sort.alloc_eq_grow];rfl⟩
theorem cmp2_any (u:World)(a b:Int):
  Calls Tryz.prog 83 #[.agg #[by2V],.int .i64 a,.int .i64 b] u (GrowP (cmpI a b) u):=by
 obtain⟨W1,hW1⟩:=aE (u.alloc (.cells #[by2V] 127));have hr1:RB W1 u.heap.size #[by2V] 127:=by rw[hW1];exact aQ u _ _
 have HA:=aH (fun q=>by2_any a (W1.drewN q));have HB:=aH (fun q=>by2_any b (W1.drewN q));have HC:=aH (fun q=>Compare_any a b (W1.drewN q));have x0:W1.cell? ⟨u.heap.size,0,none⟩=some by2V:=hr1.cell;rw[hW1]at x0;have HWE:Hid (u.alloc (.cells #[by2V] 127)=W1):=aH hW1.symm;clear hr1 hW1;go_enter Tryz.func83,Tryz.ntmps83;go_wp2;rw[HWE.out];rw[HWE.out]at x0;go_quiet (first
  |(go_at_call 80;exact Calls.quiet_of_same (HA.out _))
  |(go_at_call 80;exact Calls.quiet_of_same (HB.out _))
  |(go_at_call 112;exact Calls.quiet_of_same (HC.out _)))
 go_wp2;go_ret;exact⟨rfl,nq,#[_],by rw[<-HWE.out,Go.Sort.alloc_eq_grow];rfl⟩
def kR (w w':World):Prop:=∃q os,w'=Go.Sort.grow (w.drewN q) os
theorem kR.refl (w:World):kR w w:=⟨0,#[],by rw[Go.Sort.grow_empty];rfl⟩
theorem qK (w:World):kR w w.drew:=⟨1,#[],by rw[Go.Sort.grow_empty];rfl⟩
theorem kR.trans {a b c:World}(h:kR a b)(h':kR b c):kR a c:=by
 obtain⟨q,os,rfl⟩:=h;obtain⟨q',os',rfl⟩:=h';exact⟨_,_,grown_grow a q q' os os'⟩
theorem kR.cell {a b:World}(h:kR a b){p:Addr}(hp:p.block<a.heap.size):b.cell? p=a.cell? p:=by
 obtain⟨q,os,rfl⟩:=h;exact grow_cell hp
theorem kR.below {a b:World}(h:kR a b):Below a.heap.size a b:=by
 obtain⟨q,os,rfl⟩:=h;refine⟨rfl,rfl,rfl,?_,fun k hk=>?_⟩
 ·show a.heap.size<=(a.heap++os).size
  simp
 ·show(a.heap++os)[k]?=a.heap[k]?
  rw[Array.getElem?_append,if_pos hk]
theorem joined1_any (u:World)(c1 c2:Nat)(r1 r2 a b:Int)(o1 o2:Value)(h1:c1<u.heap.size)(h2:c2<u.heap.size)
  (x1:u.cell? ⟨c1,0,none⟩=some (.func (.func 83) #[o1] #[])) (x2:u.cell? ⟨c2,0,none⟩=some (.func (.func 83) #[o2] #[]))
  (k1:∀v,kR u v->Calls Tryz.prog 83 #[o1,.int .i64 a,.int .i64 b] v (GrowP r1 v)) (k2:∀v,kR u v->Calls Tryz.prog 83 #[o2,.int .i64 a,.int .i64 b] v (GrowP r2 v)):
  Calls Tryz.prog 110 #[.int .i64 a,.int .i64 b,.pointer (some ⟨c1,0,none⟩),.pointer (some ⟨c2,0,none⟩)] u (GrowP (orI r1 r2) u):=by
 have H1:=aH k1;have H2:=aH k2;have HKp:Hid (∀v,kR u v->(fun v=>v.cell? ⟨c1,0,none⟩=some (.func (.func 83) #[o1] #[])/\v.cell? ⟨c2,0,none⟩=some (.func (.func 83) #[o2] #[])) v):=aH (fun v hv=>⟨(hv.cell (p:=⟨c1,0,none⟩) h1).trans x1,(hv.cell (p:=⟨c2,0,none⟩) h2).trans x2⟩);clear k1 k2 h1 h2 x1 x2;go_enter Tryz.func110,Tryz.ntmps110;go_wp2_with fail
 refine wp_region_held_drew (S:=fun v=>v.cell? ⟨c1,0,none⟩=some (.func (.func 83) #[o1] #[])/\v.cell? ⟨c2,0,none⟩=some (.func (.func 83) #[o2] #[])) (by kernel_rfl) (HKp.out _ (qK u)) (fun hHeld=>?_);iterate 3 refine aN _ rfl hHeld ?_
 refine aI 4 _ rfl hHeld ?_;refine aI 5 _ rfl hHeld ?_;refine aI 6 _ rfl hHeld ?_;refine wpAnyH_ready (rs:=[3]) (by kernel_rfl) (by simp) ?_;refine AllReadyH.cons rfl (fun K hK=>?_) ?_
 ·go_simp;go_wp2_with (go_at_call 83;refine(H1.out _ (qK u)).mono ?_;rintro e v1 ⟨rfl,hg1⟩);have G1:=((qK u)).trans hg1;refine hK.out _ _ (HKp.out _ G1) (fun hHeld=>?_);clear hK K;refine rd 7 rfl (fun K hK=>?_);go_simp;go_wp2_with (go_at_call 83;refine(H2.out _ G1).mono ?_;rintro e v2 ⟨rfl,hg2⟩);have G2:=(G1).trans hg2;refine hK.out _ _ (HKp.out _ G2) (fun hHeld=>?_);clear hK K;refine rd 8 rfl (fun K hK=>?_);obtain⟨v9,hv9⟩:=aE (v2.alloc (.cells #[.int .i64 r1,.int .i64 r2] 3));have hr9:RB v9 v2.heap.size #[.int .i64 r1,.int .i64 r2] 3:=by rw[hv9];exact aQ _ _ _
  have G9:kR u v9:=G2.trans ⟨0,#[_],by rw[hv9,Go.Sort.alloc_eq_grow];rfl⟩;go_simp;rw[<-hv9];refine hK.out _ _ (HKp.out _ G9) (fun hHeld=>?_);clear hK K;have HO:=Or_any v2.heap.size r1 r2 v9 hr9;clear hr9 hv9;generalize v2.heap.size=bi at HO⊢;refine rd 9 rfl (fun K hK=>?_);go_simp;go_wp2_with (go_at_call 111;refine HO.mono ?_;rintro e v10 ⟨rfl,h10⟩;obtain rfl:=h10)
  refine hK.out _ _ (HKp.out _ G9) (fun hHeld=>?_);clear hK K;refine wpAnyH_ready (rs:=[10]) (by kernel_rfl) (by simp) ?_;refine AllReadyH.cons rfl (fun K hK=>?_) ?_
  ·go_simp;refine hK.out _ _ (HKp.out _ G9) (fun hHeld=>?_);clear hK K;refine wpAnyH_done (by kernel_rfl) ?_ _;go_wp2;go_ret;exact⟨rfl,G9⟩
  exact AllReadyH.nil
 exact AllReadyH.nil
theorem joined_any (u:World)(o1 o2:Value):Calls Tryz.prog 82 #[.func (.func 83) #[o1] #[],.func (.func 83) #[o2] #[]] u (fun e w'=>∃T,e=.returned (.func (.func 110) #[] #[.pointer (some ⟨u.heap.size,0,none⟩),.pointer (some ⟨u.heap.size+1,0,none⟩)])/\w'=(u.alloc (.cells #[.func (.func 83) #[o1] #[]] T)).alloc (.cells #[.func (.func 83) #[o2] #[]] T)):=by
 go_enter Tryz.func82,Tryz.ntmps82;go_wp2;go_ret;exact⟨_,rfl,rfl⟩
end Go.Proofs.YtiohgaghmnpplaaGreatDoor
