/- Small things that sym's texts share. graph, plain: what is reached; and how it is gone through. graph: what stands while a graph is gone through; put, take. graph: come. graph: what a unit's needs yield. graph: reached. graph: a unit as the section that it would be. graph: Is. graph: Reach. graph's law: quads. graph: Roots. rows of ints, rows of bools: are two the same. the reference: a unit as a section. the reference's Big of units. graph: an entry among no objects. graph's law: what linked wants of each function. graph's law: linked. graph: units, ints as arguments. -/
import Derived.Test.YtiohgaghmnpplaaGreatDoorqI
import Derived.Laws.IdiomRangeMap
import Derived.Laws.EntriesVeiled
import Derived.Deep.AppendLies
import Derived.Test.YtiohgaghmnpplaaGreatDoorqA
import Derived.Test.YtiohgaghmnpplaaGreatDoorqJ
import Derived.RangeFuncFrom
import Derived.WalkSmall
import Derived.RangeFuncNested
import Derived.RangeFuncBound
import Derived.RangeFuncCalls
import Derived.RangeFuncLeaves
import Derived.Shelf.Abstract
import Derived.Shelf.RegionOpen
import Derived.OwnWalkIn
import Derived.TacticsInMore
import Derived.LoopNIn
import Derived.LoopIn
set_option maxRecDepth 100000
set_option maxHeartbeats 2000000
set_option linter.unusedVariables false
set_option linter.unusedSimpArgs false
namespace Go.Proofs.YtiohgaghmnpplaaGreatDoor
open Go.RowKit
open Go.ChangeShapes Go.WideShapes Go.Deep Go.RowKit
theorem aQ (w:World)(A:Array Value)(T:TypeId):RB (w.alloc (.cells A T)) w.heap.size A T:=(MapKept.heap_alloc w _).1
theorem aC (u:World)(o:Obj):Below u.heap.size u (u.alloc o):=(Below.refl _ _).alloc (Nat.le_refl _) _
inductive Rch (L:List Sc) (roots:List Int):Nat->Prop
 |root {k:Nat} (h:(k:Int)∈roots):Rch L roots k
 |step {i k:Nat} {s:Sc} {r:Rl} (h:Rch L roots i) (hs:L[i]?=some s) (hr:r∈s.rels) (hk:r.sym=(k:Int)):Rch L roots k
def dO (n:Nat) (s:Sc):Bool:=jH s && s.rels.all fun r=>decide (r.sym < (n:Int))
def bN (L:List Sc):Bool:=decide (L.length<=256) && L.all (dO L.length)
theorem fK {L:List Sc}(h:bN L=true):L.length<=256:=by
 unfold bN at h;simp only[Bool.and_eq_true,decide_eq_true_eq]at h;exact h.1
theorem dZ {L:List Sc}(h:bN L=true){i:Nat}{s:Sc}(hs:L[i]?=some s):SecOk s/\∀r∈s.rels,0<=r.sym/\r.sym<(L.length:Int):=by
 unfold bN at h;simp only[Bool.and_eq_true,decide_eq_true_eq,List.all_eq_true]at h;have h1:=h.2 s (eQ hs);unfold dO at h1;simp only[Bool.and_eq_true,List.all_eq_true,decide_eq_true_eq]at h1;have h2:=sec_ok h1.1;exact⟨h2,fun r hr=>⟨(h2.all r hr).s0,h1.2 r hr⟩⟩
open Classical in
noncomputable def nN (L:List Sc) (roots:List Int):List Bool:=(List.range L.length).map fun k=>decide (Rch L roots k)
theorem reachB_len (L:List Sc)(roots:List Int):(nN L roots).length=L.length:=by unfold nN;simp
theorem reachB_iff {L:List Sc}{roots:List Int}{k:Nat}(hk:k<L.length):(nN L roots)[k]?=some true↔Rch L roots k:=by
 unfold nN;rw[List.getElem?_map,List.getElem?_range hk];simp
theorem rch_sub {L:List Sc}{roots:List Int}(S:Nat->Prop)(h0:∀k:Nat,(k:Int)∈roots->S k)(h1:∀i s,S i->L[i]?=some s->∀r∈s.rels,∀k:Nat,r.sym=(k:Int)->S k){k:Nat}(h:Rch L roots k):S k:=by
 induction h with
 |root h=>exact h0 _ h
 |step _ hs hr hk ih=>exact h1 _ _ ih hs _ hr _ hk
def nB (k:Nat)(x:List Bool×List Nat):List Bool×List Nat:=if x.1[k]?=some false then(x.1.set k true,x.2++ [k])else x
structure DI (L:List Sc)(roots:List Int)(x:List Bool×List Nat)(cur:Option (Nat×Nat)):Prop where
 len:x.1.length=L.length
 snd:∀k:Nat,x.1[k]?=some true->Rch L roots k
 wt:∀k∈x.2,x.1[k]?=some true
 cls:∀(i:Nat) (s:Sc),x.1[i]?=some true->i∉x.2->L[i]?=some s->∀(j:Nat) (r:Rl),s.rels[j]?=some r->(∀c m,cur=some (c,m)->i≠c\/j<m)->x.1[r.sym.toNat]?=some true
theorem come_in {k:Nat}{x:List Bool×List Nat}(h:k<x.1.length):(nB k x).1[k]?=some true:=by
 unfold nB;split
 ·rw[List.getElem?_set_self (by simpa using h)]
 ·rename_i c;rw[iS h]at c⊢;cases hb:x.1[k]with
  |true=>rfl
  |false=>rw[hb]at c;exact absurd rfl c
theorem come_mono {k j:Nat}{x:List Bool×List Nat}(h:x.1[j]?=some true):(nB k x).1[j]?=some true:=by
 unfold nB;split
 ·rename_i c;by_cases e:k=j
  ·subst e;rw[h]at c;cases c
  ·rw[List.getElem?_set_ne e];exact h
 ·exact h
theorem come_len {k:Nat}{x:List Bool×List Nat}:(nB k x).1.length=x.1.length:=by
 unfold nB;split<;>simp
theorem DI.come {L:List Sc}{roots:List Int}{x:List Bool×List Nat}{cur:Option (Nat×Nat)}{k:Nat}(h:DI L roots x cur)(hk:k<L.length)(hr:Rch L roots k):DI L roots (nB k x) cur:=by
 by_cases c:x.1[k]?=some false
 ·have e:nB k x=(x.1.set k true,x.2++ [k]):=by unfold nB;rw[if_pos c]
  refine⟨by rw[come_len];exact h.len,?_,?_,?_⟩
  ·intro j hj;by_cases e2:j=k
   ·rw[e2];exact hr
   ·rw[e,List.getElem?_set_ne (fun z=>e2 z.symm)]at hj;exact h.snd j hj
  ·intro j hj;rw[e]at hj;simp only[List.mem_append,List.mem_singleton]at hj;rcases hj with hj|rfl
   ·exact come_mono (h.wt j hj)
   ·exact come_in (by rw[h.len];exact hk)
  ·intro i s hi hw hs j r hj hc;rw[e]at hw;simp only[List.mem_append,List.mem_singleton,not_or]at hw;rw[e,List.getElem?_set_ne (fun z=>hw.2 z.symm)]at hi;exact come_mono (h.cls i s hi hw.1 hs j r hj hc)
 ·have e:nB k x=x:=by unfold nB;rw[if_neg c]
  rw[e];exact h
theorem DI.start (L:List Sc)(roots:List Int):DI L roots (List.replicate L.length false,[]) none:=by
 refine⟨by simp,?_,by simp,?_⟩
 ·intro k hk;rw[List.getElem?_replicate]at hk;split at hk<;>simp at hk
 ·intro i s hi;rw[List.getElem?_replicate]at hi;split at hi<;>simp at hi
theorem DI.need {L:List Sc}{roots:List Int}{x:List Bool×List Nat}{a j k:Nat}{s:Sc}{r:Rl}(h:DI L roots x (some (a,j)))(ha:Rch L roots a)(hs:L[a]?=some s)(hj:s.rels[j]?=some r)(hk:r.sym=(k:Int))(hkl:k<L.length):DI L roots (nB k x) (some (a,j+1)):=by
 have h2:=h.come hkl (.step ha hs (eQ hj) hk);refine⟨h2.len,h2.snd,h2.wt,?_⟩;intro i s' hi hw hs' j' r' hj' hc;have h3:=hc a (j+1) rfl;by_cases e:i=a/\j'=j
 ·obtain⟨rfl,rfl⟩:=e;rw[hs]at hs';cases hs';rw[hj]at hj';cases hj';rw[hk];exact come_in (by rw[h.len];exact hkl)
 ·refine h2.cls i s' hi hw hs' j' r' hj' (fun c m e2=>?_);simp only[Option.some.injEq,Prod.mk.injEq]at e2;obtain⟨rfl,rfl⟩:=e2;rcases h3 with h3|h3
  ·exact .inl h3
  ·by_cases e3:i=a
   ·right;have:j'≠j:=fun z=>e ⟨e3,z⟩
    omega
   ·exact .inl e3
theorem DI.done {L:List Sc}{roots:List Int}{x:List Bool×List Nat}{a m:Nat}{s:Sc}(h:DI L roots x (some (a,m)))(hs:L[a]?=some s)(hm:s.rels.length<=m):DI L roots x none:=by
 refine⟨h.len,h.snd,h.wt,?_⟩;intro i s' hi hw hs' j r hj _;refine h.cls i s' hi hw hs' j r hj (fun c m' e2=>?_);simp only[Option.some.injEq,Prod.mk.injEq]at e2;obtain⟨rfl,rfl⟩:=e2;by_cases e3:i=a
 ·right;subst e3;rw[hs]at hs';cases hs';have:=(eX hj).1;omega
 ·exact .inl e3
theorem DI.fin {L:List Sc}{roots:List Int}{ins:List Bool}(h:DI L roots (ins,[]) none)(hu:bN L=true)(hr:∀k:Nat,(k:Int)∈roots->ins[k]?=some true):ins=nN L roots:=by
 apply List.ext_getElem?;intro k;by_cases hk:k<L.length
 ·have hin:ins[k]?=some true↔Rch L roots k:=by
   constructor
   ·exact h.snd k
   ·intro hR;refine rch_sub (fun k=>ins[k]?=some true) hr ?_ hR;intro i s hi hs r hrm k hk2;obtain⟨j,hj⟩:=List.getElem?_of_mem hrm;have:=h.cls i s hi (by simp) hs j r hj (fun c m e=>by cases e);rw[hk2]at this;simpa using this
  have hk1:k<ins.length:=by have:=h.len;simp only at this;omega
  have hk2:k<(nN L roots).length:=by rw[reachB_len];exact hk
  rw[<-reachB_iff hk,iS hk1,iS hk2]at hin;rw[iS hk1,iS hk2];simp only[Option.some.injEq]at hin;congr 1;cases ha:ins[k]<;>cases hb:(nN L roots)[k]<;>rw[ha,hb]at hin<;>simp at hin<;>rfl
 ·have h1:ins.length<=k:=by have:=h.len;simp only at this;omega
  have h2:(nN L roots).length<=k:=by rw[reachB_len];omega
  rw[List.getElem?_eq_none h1,List.getElem?_eq_none h2]
open Go.ChangeShapes Go.WideShapes Go.Deep Go.RowKit
def enI (k:Nat):List Value:=[.int .i64 (k:Int)]
theorem pA:(Tryz.prog.info? 3).map (fun i=>(i.zero,i.size,i.bytes))=some (some (.int .i64 0),1,8):=by kernel_rfl
structure GF (B:Nat)(va:Option Addr)(vc n:Nat)(u u':World):Prop where
 os:u'.os=u.os
 tape:u'.tape=u.tape
 output:u'.output=u.output
 size:u.heap.size<=u'.heap.size
 block:∀j,j<u.heap.size->j≠B->j≠B+2->(Value.slice va n vc).ownBlock≠some j->u'.heap[j]?=u.heap[j]?
theorem GF.refl (B:Nat)(va:Option Addr)(vc n:Nat)(u:World):GF B va vc n u u:=⟨rfl,rfl,rfl,Nat.le_refl _,fun _ _ _ _ _=>rfl⟩
def Lie (u:World)(va va':Option Addr):Prop:=va'=va\/∃g,va'=some ⟨g,0,none⟩/\u.heap.size<=g
theorem GF.trans {B:Nat}{va:Option Addr}{vc n:Nat}{a b c:World}(h:GF B va vc n a b)(k:GF B va vc n b c):GF B va vc n a c:=
 ⟨k.os.trans h.os,k.tape.trans h.tape,k.output.trans h.output,Nat.le_trans h.size k.size,fun j hj h1 h2 h3=>(k.block j (Nat.lt_of_lt_of_le hj h.size) h1 h2 h3).trans (h.block j hj h1 h2 h3)⟩
def dT (k:Int):List Value:=[.int .i64 k]
def MK (B:Nat)(ds:List Nat)(u:World):Prop:=ds.Nodup/\∀D∈ds,B+4<=D/\u.heap[D]?=some (.deferred (some []))
def Apart (bu ba:Nat)(va:Option Addr):Prop:=∀g o s,va=some ⟨g,o,s⟩->g≠bu/\g≠ba
theorem Apart.own {bu ba n vc:Nat}{va:Option Addr}(h:Apart bu ba va):(Value.slice va n vc).ownBlock≠some bu/\(Value.slice va n vc).ownBlock≠some ba:=by
 cases va with
 |none=>exact⟨by simp[Value.ownBlock],by simp[Value.ownBlock]⟩
 |some p=>
  obtain⟨g,o,s⟩:=p;obtain⟨h1,h2⟩:=h g o s rfl;exact⟨by simp[Value.ownBlock];exact h1,by simp[Value.ownBlock];exact h2⟩
theorem Apart.lie {bu ba:Nat}{u:World}{va va':Option Addr}(h:Apart bu ba va)(hl:Lie u va va')(h1:bu<u.heap.size)(h2:ba<u.heap.size):Apart bu ba va':=by
 rcases hl with rfl|⟨g,rfl,hg⟩
 ·exact h
 ·intro g' o s e;cases e
  exact⟨by omega,by omega⟩
abbrev msV (m:Ms):Array Value:=#[.string ⟨m.sc.name.toArray⟩,.int .i64 m.sc.kind,.bool m.sc.keep,.int .i64 m.sc.align,.string ⟨m.sc.data.toArray⟩,.slice m.ad m.sc.rels.length m.cap]
structure QS (w u:World)(X:Nat)(m:Ms)(s:Sc)(a:Option Addr)(c:Nat):Prop where
 ub:RB u X (msV m) 55
 xx:RB u (X+1) (scA scZ none 0 0) 97
 yy:RB u (X+2) (scA s a s.rels.length c) 97
 oo:u.ownsRow (X+3) 132 4 (.slice a s.rels.length c) s.rels.length (s.rels.flatMap kY)
 kk:Below w.heap.size w u
 ee:X=w.heap.size
theorem QS.alloc {w u:World}{X:Nat}{m:Ms}{s:Sc}{a:Option Addr}{c:Nat}(h:QS w u X m s a c)(o:Obj):QS w (u.alloc o) X m s a c:=
 ⟨(Below.heap_alloc u o X (lt_of_block h.ub)).trans h.ub,(Below.heap_alloc u o (X+1) (lt_of_block h.xx)).trans h.xx,(Below.heap_alloc u o (X+2) (lt_of_block h.yy)).trans h.yy,h.oo.alloc o,h.kk.alloc h.kk.size o,h.ee⟩
theorem rV {w w':World}{B p e n:Nat}{v:Value}{xs:List Value}{sz:Nat}(h:w.ownsRow B e sz v n xs)(hk:KP p w w')(hp:p<B):w'.ownsRow B e sz v n xs:=by
 refine h.kept hk ?_;cases hv:v.ownBlock with
 |none=>exact .inl rfl
 |some g=>right;have:=(h.lt g hv).1;simp;omega
theorem QS.append {w u w2:World}{X:Nat}{m:Ms}{s:Sc}{a a':Option Addr}{c c':Nat}{x:Rl}(h:QS w u X m s a c)
  (hown:w2.ownsRow (X+3) 132 4 (.slice a' (s.rels.length+1) c') (s.rels.length+1) (s.rels.flatMap kY++kY x)) (hgrow:(u.alloc (.cells (rlA x) 132)).grownBy w2 (Value.slice a s.rels.length c).ownBlock):
  QS w (w2.setCell ⟨X+2,5,none⟩ (.slice a' (s.rels.length+1) c')) X m ⟨s.name,s.kind,s.keep,s.align,s.data,s.rels++ [x]⟩ a' c':=by
 have hx:=h.ee;have hp:X+2<u.heap.size:=lt_of_block h.yy;have hbV:Below (X+3) u (u.alloc (.cells (rlA x) 132)):=(Below.refl (X+3) u).alloc (by omega) _;have hbw:Below (X+3) u w2:=hbV.grown hgrow (by have:=hbV.size;omega) (fun j hj=>(h.oo.lt j hj).1);have h0:RB w2 X (msV m) 55:=(hbw.block X (by omega)).trans h.ub;have h1:RB w2 (X+1) (scA scZ none 0 0) 97:=(hbw.block (X+1) (by omega)).trans h.xx;have h2:RB w2 (X+2) (scA s a s.rels.length c) 97:=(hbw.block (X+2) (by omega)).trans h.yy;refine⟨(cC (by omega)).trans h0,(cC (by omega)).trans h1,?_,?_,(h.kk.trans (hbw.mono (by omega))).setCell (p:=⟨X+2,5,none⟩) (by show w.heap.size<=X+2;omega) _,h.ee⟩
 ·have:=jT (o:=5) (x:=.slice a' (s.rels.length+1) c') h2;unfold RB;simpa using this
 ·have:=rV hown (KP.step (X+2) w2 5 (.slice a' (s.rels.length+1) c')) (by omega);simpa[List.flatMap_append]using this
def SecQ (s:Sc)(w:World)(e:Ending)(w':World):Prop:=
 ∃a c,e=.returned (scV s a s.rels.length c)/\w'.ownsRow w.heap.size 132 4 (.slice a s.rels.length c) s.rels.length (s.rels.flatMap kY)/\Below w.heap.size w w'
theorem QS.fin {w u:World}{X:Nat}{m:Ms}{s:Sc}{a:Option Addr}{c:Nat}(h:QS w u X m s a c):
  RB (sset u (X+1) s a s.rels.length c) (X+1) (scA s a s.rels.length c) 97/\SecQ s w (.returned (scV s a s.rels.length c)) (sset u (X+1) s a s.rels.length c):=by
 have hx:=h.ee;have hK:KP (X+1) u (sset u (X+1) s a s.rels.length c):=(((((KP.step (X+1) u 0 _).trans' (KP.step (X+1) _ 1 _)).trans' (KP.step (X+1) _ 2 _)).trans' (KP.step (X+1) _ 3 _)).trans' (KP.step (X+1) _ 4 _)).trans' (KP.step (X+1) _ 5 _);have ho:=rV h.oo hK (by omega);refine⟨sset_heap h.xx s a s.rels.length c,a,c,rfl,⟨ho.1,?_⟩,sset_below h.kk (by omega) s a s.rels.length c⟩;rcases ho.2 with hh|⟨g,cap,cur,hv,hb,r⟩
 ·exact .inl hh
 ·exact .inr ⟨g,cap,cur,hv,by omega,r⟩
theorem QS.mk0 (w:World)(m:Ms):QS w (((w.alloc (.cells (msV m) 55)).alloc (.cells (scA scZ none 0 0) 97)).alloc (.cells #[.string ⟨m.sc.name.toArray⟩,.int .i64 m.sc.kind,.bool m.sc.keep,.int .i64 m.sc.align,.string ⟨m.sc.data.toArray⟩,.slice none 0 0] 97)) w.heap.size m ⟨m.sc.name,m.sc.kind,m.sc.keep,m.sc.align,m.sc.data,[]⟩ none 0:=by
 have s1:(w.alloc (.cells (msV m) 55)).heap.size=w.heap.size+1:=World.size_alloc _ _;have s2:((w.alloc (.cells (msV m) 55)).alloc (.cells (scA scZ none 0 0) 97)).heap.size=w.heap.size+2:=by rw[World.size_alloc,s1]
 refine⟨?_,?_,?_,World.ownsRow_nil _ _ _ _,((((Below.refl _ w).alloc (Nat.le_refl _) _).alloc (by rw[s1];omega) _).alloc (by rw[s2];omega) _),rfl⟩
 ·unfold RB;rw[Below.heap_alloc _ _ _ (by rw[s2];omega),Below.heap_alloc _ _ _ (by rw[s1];omega)];exact(MapKept.heap_alloc _ _).1
 ·unfold RB;rw[Below.heap_alloc _ _ _ (by rw[s2];omega),<-s1];exact(MapKept.heap_alloc _ _).1
 ·unfold RB;rw[<-s2];exact(MapKept.heap_alloc _ _).1
theorem section_any (nm dt:List UInt8)(ki:Int)(kp:Bool)(al:Int)(rl:List Rl)(ad:Option Addr)(cap:Nat)(w:World)(hs:SL kY 4 w w.heap.size ad rl.length rl)(hb:rl.length*32<=reachBytes):
  Calls Tryz.prog 77 #[.agg #[.string ⟨nm.toArray⟩,.int .i64 ki,.bool kp,.int .i64 al,.string ⟨dt.toArray⟩,.slice ad rl.length cap]] w (SecQ ⟨nm,ki,kp,al,dt,rl⟩ w):=by
 have HSl:=aH hs;obtain⟨n,hn⟩:=aE rl.length;have HN:=aH hn;have hbn:n*32<=140737488351232:=by rw[hn];exact hb
 have HBn:=aH hbn;have hni:(n:Int)<=140737488351232:=by omega
 obtain⟨i0,hi,hz0,hz1,hz2⟩:=info_parts info_rel;obtain⟨X,hX⟩:=aE w.heap.size;have h0:=aH (QS.mk0 w ⟨⟨nm,ki,kp,al,dt,rl⟩,ad,cap⟩);rw[<-hX]at h0;change Hid (QS w (((w.alloc (.cells #[.string ⟨nm.toArray⟩,.int .i64 ki,.bool kp,.int .i64 al,.string ⟨dt.toArray⟩,.slice ad rl.length cap] 55)).alloc (.cells #[.string ⟨#[]⟩,.int .i64 0,.bool false,.int .i64 0,.string ⟨#[]⟩,.slice none 0 0] 97)).alloc (.cells #[.string ⟨nm.toArray⟩,.int .i64 ki,.bool kp,.int .i64 al,.string ⟨dt.toArray⟩,.slice none 0 0] 97)) X ⟨⟨nm,ki,kp,al,dt,rl⟩,ad,cap⟩ ⟨nm,ki,kp,al,dt,[]⟩ none 0)at h0;rw[<-hn]at h0⊢;clear hs hb hn hbn;go_enter Tryz.func77,Tryz.ntmps77;go_wp2;rw[<-hX];clear hX;try rw[show X+1+1=X+2 from rfl]
 generalize(((w.alloc (.cells #[.string ⟨nm.toArray⟩,.int .i64 ki,.bool kp,.int .i64 al,.string ⟨dt.toArray⟩,.slice ad n cap] 55)).alloc (.cells #[.string ⟨#[]⟩,.int .i64 0,.bool false,.int .i64 0,.string ⟨#[]⟩,.slice none 0 0] 97)).alloc (.cells #[.string ⟨nm.toArray⟩,.int .i64 ki,.bool kp,.int .i64 al,.string ⟨dt.toArray⟩,.slice none 0 0] 97))=W0 at h0⊢;go_loopw [20] (fun i wr=>∃(j:Nat) (xs:List Rl) (a:Option Addr) (c:Nat),Hid (QS w wr X ⟨⟨nm,ki,kp,al,dt,rl⟩,ad,cap⟩ ⟨nm,ki,kp,al,dt,xs⟩ a c)/\j<=n/\i=.int .i64 j/\Hid (xs=rl.take j)) (fun i _=>n-(intOf i).toNat)
 case atStart=>exact⟨0,[],none,0,h0,by omega,rfl,aH rfl⟩
 case round=>
  clear h0;obtain⟨j,xs,a,c,HQ,hj,rfl,HXs⟩:=hrel;obtain⟨q,hq⟩:=aE xs.length;have HQq:=aH hq;by_cases hlt:j<n
  ·have hlti:(j:Int)<(n:Int):=by omega
   have HLT:=aH hlt;have hjr:j<rl.length:=by have:=HN.out;omega
   have hqj:q=j:=by rw[hq,HXs.out,List.length_take];omega
   have hsl:=HSl.out.below HQ.out.kk;obtain⟨b,off,had,hB,hc⟩:=hsl.cells (hsl.ne hjr);subst had;obtain⟨d0,d1,d2,d3⟩:=dN (fun i hi=>hc j hjr i hi);have HTk:Hid (rl.take (j+1)=rl.take j++ [rl[j]]):=aH (by rw[List.take_add_one,iS hjr];rfl);generalize rl[j]=r at d0 d1 d2 d3 HTk;obtain⟨rp,rk,rs,ra⟩:=r;simp only at d0 d1 d2 d3;have HOW:Hid (wr.ownsRow (X+3) 132 4 (.slice a q c) q (xs.flatMap kY)):=aH (by have:=HQ.out.oo;simp only at this;rw[hq];exact this);have hX2:X+2<wr.heap.size:=lt_of_block HQ.out.yy;have y5:wr.cell? ⟨X+2,5,none⟩=some (.slice a q c):=by have:=HQ.out.yy.cell (j:=5);rw[hq];exact this
   have yf:wr.frozen? ⟨X+2,5,none⟩=false:=HQ.out.yy.frozen;have tA:(wr.alloc (.cells #[.int .i64 rp,.int .i64 rk,.int .i64 rs,.int .i64 ra] 57)).cell? ⟨X+2,5,none⟩=some (.slice a q c):=(World.cell?_alloc_past (w:=wr) _ _ _ hX2).trans y5;have hno:(Value.slice a q c).ownBlock≠some (X+2):=fun e=>by have:=(HOW.out.lt (X+2) e).1;omega
   have hm:q+1<=maxLen:=by unfold maxLen;have:=HBn.out;omega
   have hby:(q+1)*32<=140737488355328:=by have:=HBn.out;omega
   have hnews:∀j u,(kY ⟨rp,rk,rs,ra⟩)[j]?=some u->((wr.alloc (.cells #[.int .i64 rp,.int .i64 rk,.int .i64 rs,.int .i64 ra] 57)).alloc (.cells #[.int .i64 rp,.int .i64 rk,.int .i64 rs,.int .i64 ra] 132)).cell? ((⟨wr.heap.size+1,0,none⟩:Addr).add j)=some u:=World.news_of_block (cs:=rlA ⟨rp,rk,rs,ra⟩) (t:=132) (fr:=(0,0)) (by have:=heap_alloc_new (wr.alloc (.cells #[.int .i64 rp,.int .i64 rk,.int .i64 rs,.int .i64 ra] 57)) (.cells (rlA ⟨rp,rk,rs,ra⟩) 132);rw[World.size_alloc]at this;exact this);clear hsl hc hB hjr hq hqj hj hlt;go_wp2_with (at_builtin;refine wpList_append_lies _ rfl _ _ 95 rfl (X+3) 132 i0 (.agg #[.int .i64 0,.int .i64 0,.int .i64 0,.int .i64 0]) 4 32 Tryz.underlying95 hi hz0 hz1 hz2 rfl (by decide) (.slice a q c) q (xs.flatMap kY) rfl ((HOW.out.alloc _).alloc _) ⟨wr.heap.size+1,0,none⟩ 1 1 (kY ⟨rp,rk,rs,ra⟩) rfl rfl hnews (rl_one _) (by decide) hm hby (by simp;omega) (wr.heap.size+1+1) (by simp) ?_;intro g2 cap2 w2 hown2 hgrow2 hlie2 hlt2;have t0:w2.cell? ⟨X+2,5,none⟩=some (.slice a q c):=(hgrow2.cell_far _ (by simp;omega) (Ne.symm hno)).trans ((World.cell?_alloc_past _ _ _ (by rw [World.size_alloc];exact Nat.lt_succ_of_lt hX2)).trans tA);have t1:w2.frozen? ⟨X+2,5,none⟩=false:=(hgrow2.frozen_far _ (by simp;omega) (Ne.symm hno)).trans ((World.frozen?_alloc_past _ _ _ (by rw [World.size_alloc];exact Nat.lt_succ_of_lt hX2)).trans ((World.frozen?_alloc_past (w:=wr) _ _ _ hX2).trans yf)))
   rw[HQq.out]at hown2 hgrow2;have HQ2:=aH ((HQ.out.alloc (.cells #[.int .i64 rp,.int .i64 rk,.int .i64 rs,.int .i64 ra] 57)).append (x:=⟨rp,rk,rs,ra⟩) hown2 hgrow2);simp only[]at HQ2;rw[<-HQq.out]at HQ2;clear hown2 hgrow2 hlie2 hlt2 t0 t1 y5 yf tA hno hnews d0 d1 d2 d3;go_roundw
   case rel=>exact⟨j+1,xs++ [⟨rp,rk,rs,ra⟩],_,_,HQ2,by have:=HLT.out;omega,by go_num,aH (by rw[HTk.out,HXs.out])⟩
   case measure=>have:=HLT.out;simp[intOf];omega
  ·have hnlt:¬(j:Int)<(n:Int):=by omega
   have hxr:xs=rl:=by rw[HXs.out,List.take_of_length_le (by have:=HN.out;omega)]
   subst hxr;have HF:=aH HQ.out.fin;have y0:wr.cell? ⟨X+2,0,none⟩=some (.string ⟨nm.toArray⟩):=HQ.out.yy.cell;have y1:wr.cell? ⟨X+2,1,none⟩=some (.int .i64 ki):=HQ.out.yy.cell;have y2:wr.cell? ⟨X+2,2,none⟩=some (.bool kp):=HQ.out.yy.cell;have y3:wr.cell? ⟨X+2,3,none⟩=some (.int .i64 al):=HQ.out.yy.cell;have y4:wr.cell? ⟨X+2,4,none⟩=some (.string ⟨dt.toArray⟩):=HQ.out.yy.cell;have y5:wr.cell? ⟨X+2,5,none⟩=some (.slice a q c):=by have:=HQ.out.yy.cell (j:=5);rw[HQq.out];exact this
   obtain⟨x0,x1,x2,x3,x4,x5,xf,xl⟩:=HQ.out.xx.six;have xf0:=xf 0;have xf1:=xf 1;have xf2:=xf 2;have xf3:=xf 3;have xf4:=xf 4;have xf5:=xf 5;rw[show(⟨nm,ki,kp,al,dt,xs⟩:Sc).rels.length=q from HQq.out.symm]at HF;clear xf hj hlt hq;go_wp2;refine bodyPost_ret (results_cell_row (P:=Tryz.prog) rfl _ _ (X+1) 97 _ (0,0) _ rfl HF.out.1 Tryz.underlying97 rfl (by kernel_rfl)) rfl ?_;exact HF.out.2
open Go.ChangeShapes Go.WideShapes Go.Deep Go.RowKit
theorem units_no {Ls:List Sc}{i:Nat}{s:Sc}(hs:Ls[i]?=some s)(h:dO Ls.length s=false):bN Ls=false:=by
 cases hu:bN Ls with
 |false=>rfl
 |true=>
  unfold bN at hu;simp only[Bool.and_eq_true,decide_eq_true_eq,List.all_eq_true]at hu;have:=hu.2 s (eQ hs);rw[h]at this;cases this
theorem units_yes {Ls:List Sc}(hl:Ls.length<=256)(h:∀s∈Ls,dO Ls.length s=true):bN Ls=true:=by
 unfold bN;simp only[Bool.and_eq_true,decide_eq_true_eq,List.all_eq_true];exact⟨hl,h⟩
theorem gIs_any (ua:Option Addr)(un uc:Nat)(L:List Ms)(w:World)(hun:un<=maxLen)(hs:SL mX 6 w w.heap.size ua un L)(hno:iQ w w.heap.size L)(hg:∀m∈L,fP m.sc)(hb:∀m∈L,m.sc.rels.length*32<=reachBytes)(hT:jL w):
  Calls Tryz.prog 46 #[.slice ua un uc] w (aP (.bool (bN (L.map (·.sc)))) w):=by
 have hlen:(L.map (·.sc)).length=un:=by rw[List.length_map];exact hs.len.symm
 have hni:(un:Int)<=9223372036854775807:=by unfold maxLen at hun;omega
 by_cases h256:256<un
 ·have h2:(256:Int)<(un:Int):=by omega
  have HR:Hid (bN (L.map (·.sc))=false):=aH (by
   cases hu:bN (L.map (·.sc))with
   |false=>rfl
   |true=>have:=fK hu;omega)
  clear hs hno hg hb hT hlen h256;go_enter Tryz.func46,Tryz.ntmps46;go_wp2;go_ret;exact⟨by rw[HR.out];rfl,Below.refl _ _⟩
 have h2:¬(256:Int)<(un:Int):=by omega
 have HUn:Hid (un<=256):=aH (by omega);have HLn:=aH hlen;have HS:=aH hs;have HNo:=aH hno;have HGd:=aH hg;have HBd:=aH hb;have HT:=aH hT;have HLL:=aH hs.len;clear hs hno hg hb hT hlen h256 hun;go_enter Tryz.func46,Tryz.ntmps46;go_wp2;go_loopw [12] (fun i wr=>∃(k:Nat) (wx:World),wx=wr/\k<=un/\i=.int .i64 k/\Below w.heap.size w wx/\Hid (∀s∈(L.map (·.sc)).take k,dO un s=true)) (fun i _=>un-(intOf i).toNat)
 case atStart=>exact⟨0,_,rfl,by omega,rfl,Below.refl _ _,aH (by simp)⟩
 case round=>
  obtain⟨k,wx,rfl,hk,rfl,hbx,HOk⟩:=hrel;have HB:=aH hbx;clear hbx;by_cases hlt:k<un
  ·have hlti:(k:Int)<(un:Int):=by omega
   have HLT:=aH hlt;have hk1:k<L.length:=by have:=HLL.out;omega
   obtain⟨b,off,hua,hBl,hc⟩:=(HS.out.next HB.out).cells ((HS.out.next HB.out).ne hlt);subst hua;obtain⟨c0,c1,c2',c3,c4,c5⟩:=lT (fun j hj=>hc k hk1 j hj);have hmem:L[k]∈L:=List.getElem_mem _;have hat:(L.map (·.sc))[k]?=some L[k].sc:=by rw[List.getElem?_map,iS hk1];rfl
   have HTk:Hid ((L.map (·.sc)).take (k+1)=(L.map (·.sc)).take k++ [L[k].sc]):=aH (by rw[List.take_add_one,hat];rfl);generalize L[k]'hk1=m at c0 c1 c2' c3 c4 c5 hmem hat HTk;obtain⟨⟨nm,ki,kp,al,dt,rl⟩,ad,cp⟩:=m;simp only at c0 c1 c2' c3 c4 c5;have HMem:=aH hmem;have HAt:=aH hat;obtain⟨nr,hnr⟩:=aE rl.length;have HNr:=aH hnr;have hrb:=HBd.out _ hmem;simp only at hrb;have hnri:(nr:Int)<=140737488351232:=by
    have h1:=hrb;unfold reachBytes at h1;rw[hnr];omega
   obtain⟨Y,hY⟩:=aE wx.heap.size;have HYE:=aH hY;have HA:Hid (Below wx.heap.size wx (wx.alloc (.cells #[.string ⟨nm.toArray⟩,.int .i64 ki,.bool kp,.int .i64 al,.string ⟨dt.toArray⟩,.slice ad nr cp] 55))):=aH ((Below.refl _ wx).alloc (Nat.le_refl _) _);have HRY:Hid (RB (wx.alloc (.cells #[.string ⟨nm.toArray⟩,.int .i64 ki,.bool kp,.int .i64 al,.string ⟨dt.toArray⟩,.slice ad nr cp] 55)) Y #[.string ⟨nm.toArray⟩,.int .i64 ki,.bool kp,.int .i64 al,.string ⟨dt.toArray⟩,.slice ad nr cp] 55):=aH (by rw[hY];exact(MapKept.heap_alloc wx _).1);have HSec:Hid (∀u,Below w.heap.size w u->Calls Tryz.prog 77 #[.agg #[.string ⟨nm.toArray⟩,.int .i64 ki,.bool kp,.int .i64 al,.string ⟨dt.toArray⟩,.slice ad nr cp]] u (SecQ ⟨nm,ki,kp,al,dt,rl⟩ u)):=aH fun u hu=>by
    rw[hnr];exact section_any nm dt ki kp al rl ad cp u ((HNo.out _ hmem).next hu) hrb
   have HIs:Hid (∀u a c,jL u->SL kY 4 u u.heap.size a rl.length rl->Calls Tryz.prog 76 #[scV ⟨nm,ki,kp,al,dt,rl⟩ a rl.length c] u (aP (.bool (jH ⟨nm,ki,kp,al,dt,rl⟩)) u)):=aH fun u a c hu hsl=>pIs_any ⟨nm,ki,kp,al,dt,rl⟩ a rl.length c u hsl (HGd.out _ hmem) hu
   rw[<-hnr]at c5;clear hc hBl hk1 hlt hk hmem hat hnr hrb hY;go_wp2_with fail
   try rw[<-HYE.out]
   generalize(wx.alloc (.cells #[.string ⟨nm.toArray⟩,.int .i64 ki,.bool kp,.int .i64 al,.string ⟨dt.toArray⟩,.slice ad nr cp] 55))=W at HA HRY⊢;replace HB:Hid (Below w.heap.size w W):=aH (after HB.out HA.out);clear HA c0 c1 c2' c3 c4 c5;refine(HSec.out _ HB.out).mono ?_;rintro e u ⟨a,c,rfl,hown,hb⟩;obtain⟨a',c',hv,hsl,-⟩:=SL.ofOwns rl_len (by decide) hown;cases hv
   have HSl:=aH hsl;replace HB:=aH (after HB.out hb);replace HRY:=aH (HRY.out.next hb);clear hown hsl hb;go_wp2_with fail
   refine(HIs.out _ a c (HT.out.next HB.out) HSl.out).mono ?_;rintro e u2 ⟨rfl,hb⟩;replace HB:=aH (after HB.out hb);replace HRY:=aH (HRY.out.next hb);clear hb HSl HSec HIs;cases hsr:jH ⟨nm,ki,kp,al,dt,rl⟩
   ·have HR:Hid (bN (L.map (·.sc))=false):=aH (units_no HAt.out (by unfold dO;rw[hsr];rfl));clear hsr;go_wp2;go_ret;exact⟨by rw[HR.out];rfl,HB.out⟩
   ·have HSr:=aH hsr;clear hsr;have y5:u2.cell? ⟨Y,5,none⟩=some (.slice ad nr cp):=HRY.out.cell;go_wp2;clear y5;go_loopw [23] (fun i wr=>∃(j:Nat) (wy:World),wy=wr/\j<=nr/\i=.int .i64 j/\Below w.heap.size w wy/\Hid (∀r∈rl.take j,r.sym<(un:Int))) (fun i _=>nr-(intOf i).toNat)
    case atStart=>exact⟨0,_,rfl,by omega,rfl,HB.out,aH (by simp)⟩
    case round=>
     clear HB HRY;obtain⟨j,wy,rfl,hj,rfl,hby,HOr⟩:=hrel;have HB:=aH hby;clear hby;by_cases hlt2:j<nr
     ·have hlti2:(j:Int)<(nr:Int):=by omega
      have HLT2:=aH hlt2;have hjr:j<rl.length:=by have:=HNr.out;omega
      have hsl:=(HNo.out _ HMem.out).next HB.out;simp only at hsl;obtain⟨b2,off2,had,hB2,hc2⟩:=hsl.cells (hsl.ne hjr);subst had;obtain⟨d0,d1,d2,d3⟩:=dN (fun i hi=>hc2 j hjr i hi);have HTj:Hid (rl.take (j+1)=rl.take j++ [rl[j]]):=aH (by rw[List.take_add_one,iS hjr];rfl);have HRm:Hid (rl[j]∈rl):=aH (List.getElem_mem _);generalize rl[j]'hjr=r at d0 d1 d2 d3 HTj HRm;obtain⟨rp,rk,rs,ra⟩:=r;simp only at d0 d1 d2 d3;clear hsl hc2 hB2 hjr hlt2 hj;by_cases hge:(un:Int)<=rs
      ·have HR:Hid (bN (L.map (·.sc))=false):=aH (units_no HAt.out (by
        unfold dO;rw[HSr.out,Bool.true_and];cases hal:List.all rl (fun r=>decide (r.sym < ((List.map (·.sc) L).length:Int))) with
        |false=>rfl
        |true=>
         simp only[List.all_eq_true,decide_eq_true_eq]at hal;have:=hal _ HRm.out;rw[HLn.out]at this;simp only at this;omega))
       have HB2:Hid (Below w.heap.size w (wy.alloc (.cells #[.int .i64 rp,.int .i64 rk,.int .i64 rs,.int .i64 ra] 57))):=aH (HB.out.alloc HB.out.size _);go_wp2;go_ret;exact⟨by rw[HR.out];rfl,HB2.out⟩
      ·have hlt3:rs<(un:Int):=by omega
       have HL3:=aH hlt3;have HB2:Hid (Below w.heap.size w (wy.alloc (.cells #[.int .i64 rp,.int .i64 rk,.int .i64 rs,.int .i64 ra] 57))):=aH (HB.out.alloc HB.out.size _);go_wp2;go_roundw
       case rel=>exact⟨j+1,_,rfl,by have:=HLT2.out;omega,by go_num,HB2.out,aH (fun r hr=>by
         rw[HTj.out,List.mem_append]at hr;rcases hr with hr|hr
         ·exact HOr.out r hr
         ·rw[List.mem_singleton.1 hr];exact HL3.out)⟩
       case measure=>have:=HLT2.out;simp[intOf];omega
     ·have hnlt2:¬(j:Int)<(nr:Int):=by omega
      have hrl:rl.take j=rl:=List.take_of_length_le (by have:=HNr.out;omega);have HOk2:Hid (∀s∈(L.map (·.sc)).take (k+1),dO un s=true):=aH (fun s hs=>by
       rw[HTk.out,List.mem_append]at hs;rcases hs with hs|hs
       ·exact HOk.out s hs
       ·rw[List.mem_singleton.1 hs];unfold dO;rw[HSr.out,Bool.true_and,List.all_eq_true];intro r hr;have:=HOr.out;rw[hrl]at this;simp only[decide_eq_true_eq];exact this r hr)
      clear hrl hj hlt2;go_wp2;go_roundw
      case rel=>exact⟨k+1,_,rfl,by have:=HLT.out;omega,by go_num,HB.out,HOk2⟩
      case measure=>have:=HLT.out;simp[intOf];omega
  ·have hnlt:¬(k:Int)<(un:Int):=by omega
   have HR:Hid (bN (L.map (·.sc))=true):=aH (units_yes (by rw[HLn.out];exact HUn.out) (by
    have:=HOk.out;rw[List.take_of_length_le (by rw[HLn.out];omega)]at this;rw[HLn.out];exact this))
   clear hk hlt;go_wp2;go_ret;exact⟨by rw[HR.out];rfl,HB.out⟩
open Go.ChangeShapes Go.WideShapes Go.Deep Go.RowKit
abbrev zrB (n:Nat):ByteArray:=⟨(List.replicate n (0:UInt8)).toArray⟩
def qRel (k:Nat)(x:Int):Rl:=⟨8*k,1,x,0⟩
def qRels:Nat->List Int->List Rl
 |_,[]=>[]
 |k,x :: t=>qRel k x :: qRels (k+1) t
theorem qRels_len:∀(l:List Int)(k:Nat),(qRels k l).length=l.length
 | [],_=>rfl
 |x :: t,k=>by rw[qRels,List.length_cons,qRels_len t,List.length_cons]
structure UQ (w u:World)(X:Nat)(N D:ByteArray)(rl:List Rl)(a:Option Addr)(c:Nat):Prop where
 xx:RB u X #[.string ⟨#[]⟩,.int .i64 0,.bool false,.int .i64 0,.string ⟨#[]⟩,.slice none 0 0] 55
 yy:RB u (X+1) #[.string N,.int .i64 2,.bool false,.int .i64 0,.string D,.slice a rl.length c] 55
 oo:u.ownsRow (X+2) 57 4 (.slice a rl.length c) rl.length (rl.flatMap kY)
 kk:Below w.heap.size w u
 ee:X=w.heap.size
theorem UQ.text {w u:World}{X:Nat}{N D:ByteArray}{rl:List Rl}{a:Option Addr}{c:Nat}(h:UQ w u X N D rl a c)(E:ByteArray):UQ w (u.setCell ⟨X+1,4,none⟩ (.string E)) X N E rl a c:=by
 have hx:=h.ee;refine⟨(cC (by omega)).trans h.xx,?_,rV h.oo (KP.step (X+1) u 4 _) (by omega),h.kk.setCell (p:=⟨X+1,4,none⟩) (by show w.heap.size<=X+1;omega) _,h.ee⟩;exact h.yy.set (j:=4) _
theorem UQ.append {w u w2:World}{X:Nat}{N D:ByteArray}{rl:List Rl}{a a':Option Addr}{c c':Nat}{x:Rl}(h:UQ w u X N D rl a c)
  (hown:w2.ownsRow (X+2) 57 4 (.slice a' (rl.length+1) c') (rl.length+1) (rl.flatMap kY++kY x)) (hgrow:(u.alloc (.cells (rlA x) 57)).drew.grownBy w2 (Value.slice a rl.length c).ownBlock):
  UQ w (w2.setCell ⟨X+1,5,none⟩ (.slice a' (rl.length+1) c')) X N D (rl++ [x]) a' c':=by
 have hx:=h.ee;have hp:X+1<u.heap.size:=lt_of_block h.yy;have hbV:Below (X+2) u (u.alloc (.cells (rlA x) 57)).drew:=((Below.refl (X+2) u).alloc (by omega) _).drew;have hbw:Below (X+2) u w2:=hbV.grown hgrow (by have:=hbV.size;omega) (fun j hj=>(h.oo.lt j hj).1);have h1:RB w2 X #[.string ⟨#[]⟩,.int .i64 0,.bool false,.int .i64 0,.string ⟨#[]⟩,.slice none 0 0] 55:=(hbw.block X (by omega)).trans h.xx;have h2:RB w2 (X+1) #[.string N,.int .i64 2,.bool false,.int .i64 0,.string D,.slice a rl.length c] 55:=(hbw.block (X+1) (by omega)).trans h.yy;refine⟨(cC (by omega)).trans h1,?_,?_,(h.kk.trans (hbw.mono (by omega))).setCell (p:=⟨X+1,5,none⟩) (by show w.heap.size<=X+1;omega) _,h.ee⟩
 ·have:=jT (o:=5) (x:=.slice a' (rl.length+1) c') h2;unfold RB;simpa using this
 ·have:=rV hown (KP.step (X+1) w2 5 (.slice a' (rl.length+1) c')) (by omega);simpa[List.flatMap_append]using this
theorem UQ.mk0 (w:World)(N:ByteArray):UQ w ((w.alloc (.cells #[.string ⟨#[]⟩,.int .i64 0,.bool false,.int .i64 0,.string ⟨#[]⟩,.slice none 0 0] 55)).alloc (.cells #[.string N,.int .i64 2,.bool false,.int .i64 0,.string ⟨#[]⟩,.slice none 0 0] 55)) w.heap.size N ⟨#[]⟩ [] none 0:=by
 have h:=mE (w:=w) (A:=#[.string ⟨#[]⟩,.int .i64 0,.bool false,.int .i64 0,.string ⟨#[]⟩,.slice none 0 0]) (B:=#[.string N,.int .i64 2,.bool false,.int .i64 0,.string ⟨#[]⟩,.slice none 0 0]) (T:=55) (U:=55);exact⟨h.1,h.2.1,World.ownsRow_nil _ _ _ _,h.2.2,rfl⟩
def QuadP (N:ByteArray)(R:List Int)(w:World)(e:Ending)(w':World):Prop:=
 ∃a c,e=.returned (.agg #[.string N,.int .i64 2,.bool false,.int .i64 0,.string (zrB (8*R.length)),.slice a R.length c])/\w'.ownsRow w.heap.size 57 4 (.slice a R.length c) R.length ((qRels 0 R).flatMap kY)/\Below w.heap.size w w'
theorem UQ.fin {w u:World}{X:Nat}{N D:ByteArray}{rl:List Rl}{a:Option Addr}{c:Nat}{R:List Int}(h:UQ w u X N D rl a c)(hR:rl=qRels 0 R)(hD:D=zrB (8*R.length)):
  ∃u',u'=((((((u.setCell ⟨X,0,none⟩ (.string N)).setCell ⟨X,1,none⟩ (.int .i64 2)).setCell ⟨X,2,none⟩ (.bool false)).setCell ⟨X,3,none⟩ (.int .i64 0)).setCell ⟨X,4,none⟩ (.string D)).setCell ⟨X,5,none⟩ (.slice a rl.length c))/\
   RB u' X #[.string N,.int .i64 2,.bool false,.int .i64 0,.string D,.slice a rl.length c] 55/\QuadP N R w (.returned (.agg #[.string N,.int .i64 2,.bool false,.int .i64 0,.string D,.slice a rl.length c])) u':=by
 have hx:=h.ee;refine⟨_,rfl,?_,?_⟩
 ·have h0:RB (u.setCell ⟨X,0,none⟩ (.string N)) X #[.string N,.int .i64 0,.bool false,.int .i64 0,.string ⟨#[]⟩,.slice none 0 0] 55:=h.xx.set (j:=0) _;have h1:RB ((u.setCell ⟨X,0,none⟩ (.string N)).setCell ⟨X,1,none⟩ (.int .i64 2)) X #[.string N,.int .i64 2,.bool false,.int .i64 0,.string ⟨#[]⟩,.slice none 0 0] 55:=h0.set (j:=1) _;have h2:RB (((u.setCell ⟨X,0,none⟩ (.string N)).setCell ⟨X,1,none⟩ (.int .i64 2)).setCell ⟨X,2,none⟩ (.bool false)) X #[.string N,.int .i64 2,.bool false,.int .i64 0,.string ⟨#[]⟩,.slice none 0 0] 55:=h1.set (j:=2) _;have h3:RB ((((u.setCell ⟨X,0,none⟩ (.string N)).setCell ⟨X,1,none⟩ (.int .i64 2)).setCell ⟨X,2,none⟩ (.bool false)).setCell ⟨X,3,none⟩ (.int .i64 0)) X #[.string N,.int .i64 2,.bool false,.int .i64 0,.string ⟨#[]⟩,.slice none 0 0] 55:=h2.set (j:=3) _;have h4:RB (((((u.setCell ⟨X,0,none⟩ (.string N)).setCell ⟨X,1,none⟩ (.int .i64 2)).setCell ⟨X,2,none⟩ (.bool false)).setCell ⟨X,3,none⟩ (.int .i64 0)).setCell ⟨X,4,none⟩ (.string D)) X #[.string N,.int .i64 2,.bool false,.int .i64 0,.string D,.slice none 0 0] 55:=h3.set (j:=4) _;exact h4.set (j:=5) _
 ·have hK:KP X u ((((((u.setCell ⟨X,0,none⟩ (.string N)).setCell ⟨X,1,none⟩ (.int .i64 2)).setCell ⟨X,2,none⟩ (.bool false)).setCell ⟨X,3,none⟩ (.int .i64 0)).setCell ⟨X,4,none⟩ (.string D)).setCell ⟨X,5,none⟩ (.slice a rl.length c)):=(((((KP.step X u 0 _).trans' (KP.step X _ 1 _)).trans' (KP.step X _ 2 _)).trans' (KP.step X _ 3 _)).trans' (KP.step X _ 4 _)).trans' (KP.step X _ 5 _);have ho:=rV h.oo hK (by omega);have hl:rl.length=R.length:=by rw[hR,qRels_len]
  refine⟨a,c,by rw[hD,hl],?_,?_⟩
  ·rw[<-hl,<-hR];refine⟨ho.1,?_⟩;rcases ho.2 with hh|⟨g,cap,cur,hv,hb,r⟩
   ·exact .inl hh
   ·exact .inr ⟨g,cap,cur,hv,by omega,r⟩
  ·exact KP.to_below h.kk hK (by omega)
structure RQ (w u:World)(l:List Nat)(a:Option Addr)(c:Nat):Prop where
 oo:u.ownsRow w.heap.size 3 1 (.slice a l.length c) l.length (l.flatMap enI)
 kk:Below w.heap.size w u
theorem RQ.alloc {w u:World}{l:List Nat}{a:Option Addr}{c:Nat}(h:RQ w u l a c)(o:Obj):RQ w (u.alloc o) l a c:=
 ⟨h.oo.alloc _,h.kk.alloc h.kk.size _⟩
theorem RQ.grow {w u w2:World}{l:List Nat}{a a':Option Addr}{c c':Nat}{k:Nat}(h:RQ w u l a c)(hown:w2.ownsRow w.heap.size 3 1 (.slice a' (l.length+1) c') (l.length+1) (l.flatMap enI++enI k))
  (hgrow:(u.alloc (.cells #[.int .i64 (k:Int)] 3)).grownBy w2 (Value.slice a l.length c).ownBlock):RQ w w2 (l++ [k]) a' c':=by
 refine⟨by simpa[List.flatMap_append]using hown,?_⟩;exact(h.kk.alloc h.kk.size _).grown hgrow (by have:=h.kk.size;rw[World.size_alloc];omega) (fun j hj=>(h.oo.lt j hj).1)
theorem sameI_no (a a':Option Addr)(n n' c c':Nat)(w:World)(hne:n≠n')(hn:n<=1000000)(hn':n'<=1000000):
  Calls Tryz.prog 75 #[.slice a n c,.slice a' n' c'] w (aP (.bool false) w):=by
 have hb:((n:Int) !=n')=true:=by rw[bne_iff_ne];omega
 clear hne;go_enter Tryz.func75,Tryz.ntmps75;go_wp2;go_ret;exact aB rfl (Below.refl _ _)
theorem sameI_yes (a a':Option Addr)(n c c':Nat)(l l':List Int)(w:World)(hn:n<=1000000)(h:SL dT 1 w w.heap.size a n l)(h':SL dT 1 w w.heap.size a' n l'):
  Calls Tryz.prog 75 #[.slice a n c,.slice a' n c'] w (aP (.bool (decide (l=l'))) w):=by
 have hl:=aH h.len;have hl':=aH h'.len;go_enter Tryz.func75,Tryz.ntmps75;go_wp2;go_loopw [5] (fun i wr=>∃k:Nat,k<=n/\i=.int .i64 k/\l.take k=l'.take k/\Below w.heap.size w wr) (fun i _=>n-(intOf i).toNat)
 case atStart=>exact⟨0,by omega,rfl,rfl,Below.refl _ _⟩
 case round=>
  obtain⟨k,hk,rfl,htk,hb⟩:=hrel;have HT:=aH htk;clear htk;by_cases hlt:k<n
  ·have hk1:k<l.length:=by have:=hl.out;omega
   have hk2:k<l'.length:=by have:=hl'.out;omega
   obtain⟨b,off,rfl,hB,hc⟩:=(h.below hb).cells (h.ne hlt);obtain⟨b',off',rfl,hB',hc'⟩:=(h'.below hb).cells (h'.ne hlt);have c0:=hc k hk1 0 (by omega);have d0:=hc' k hk2 0 (by omega);obtain⟨x,hx⟩:=aE (l[k]);obtain⟨y,hy⟩:=aE (l'[k]);rw[<-hx]at c0;rw[<-hy]at d0;simp only[dT,Nat.add_zero,Nat.mul_one,List.getElem?_cons_zero]at c0 d0;have HX:=aH hx;have HY:=aH hy;clear hc hc' h h' hx hy;by_cases e:x=y
   ·have hb2:(x !=y)=false:=by simp[e]
    have HE:=aH e;clear e;go_wp2;go_quiet (fail);go_wp2;go_roundw
    case rel=>
     refine⟨k+1,by omega,by go_num,?_,below_drewN hb _⟩;rw[List.take_succ_eq_append_getElem hk1,List.take_succ_eq_append_getElem hk2,HT.out,<-HX.out,<-HY.out,HE.out]
    case measure=>simp[intOf];omega
   ·have hb2:(x !=y)=true:=by simp[e]
    have HE:=aH e;clear e;go_wp2;go_quiet (fail);go_wp2;go_ret;refine aB ?_ (below_drewN hb _);symm;rw[decide_eq_false_iff_not];intro hh;subst hh;exact HE.out (HX.out.trans HY.out.symm)
  ·go_wp2;go_ret;refine aB ?_ hb;symm;rw[decide_eq_true_eq];have:=HT.out;rwa[List.take_of_length_le (by have:=hl.out;omega),List.take_of_length_le (by have:=hl'.out;omega)]at this
theorem sameI_any (a a':Option Addr)(n n' c c':Nat)(l l':List Int)(w:World)(hn:n<=1000000)(hn':n'<=1000000)(h:SL dT 1 w w.heap.size a n l)(h':SL dT 1 w w.heap.size a' n' l'):
  Calls Tryz.prog 75 #[.slice a n c,.slice a' n' c'] w (aP (.bool (decide (l=l'))) w):=by
 by_cases e:n=n'
 ·subst e;exact sameI_yes a a' n c c' l l' w hn h h'
 ·have:decide (l=l')=false:=by
   rw[decide_eq_false_iff_not];intro hh;subst hh;exact e (h.len.trans h'.len.symm)
  rw[this];exact sameI_no a a' n n' c c' w e hn hn'
theorem rSec_any (nm dt:List UInt8)(ki:Int)(kp:Bool)(al:Int)(rl:List Rl)(ad:Option Addr)(cap:Nat)(w:World)(hs:SL kY 4 w w.heap.size ad rl.length rl)(hb:rl.length*32<=reachBytes):
  Calls Tryz.prog 53 #[.agg #[.string ⟨nm.toArray⟩,.int .i64 ki,.bool kp,.int .i64 al,.string ⟨dt.toArray⟩,.slice ad rl.length cap]] w (SecQ ⟨nm,ki,kp,al,dt,rl⟩ w):=by
 have HSl:=aH hs;obtain⟨n,hn⟩:=aE rl.length;have HN:=aH hn;have hbn:n*32<=140737488351232:=by rw[hn];exact hb
 have HBn:=aH hbn;have hni:(n:Int)<=140737488351232:=by omega
 obtain⟨i0,hi,hz0,hz1,hz2⟩:=info_parts info_rel;obtain⟨X,hX⟩:=aE w.heap.size;have h0:=aH (QS.mk0 w ⟨⟨nm,ki,kp,al,dt,rl⟩,ad,cap⟩);rw[<-hX]at h0;change Hid (QS w (((w.alloc (.cells #[.string ⟨nm.toArray⟩,.int .i64 ki,.bool kp,.int .i64 al,.string ⟨dt.toArray⟩,.slice ad rl.length cap] 55)).alloc (.cells #[.string ⟨#[]⟩,.int .i64 0,.bool false,.int .i64 0,.string ⟨#[]⟩,.slice none 0 0] 97)).alloc (.cells #[.string ⟨nm.toArray⟩,.int .i64 ki,.bool kp,.int .i64 al,.string ⟨dt.toArray⟩,.slice none 0 0] 97)) X ⟨⟨nm,ki,kp,al,dt,rl⟩,ad,cap⟩ ⟨nm,ki,kp,al,dt,[]⟩ none 0)at h0;rw[<-hn]at h0⊢;clear hs hb hn hbn;go_enter Tryz.func53,Tryz.ntmps53;go_wp2;rw[<-hX];clear hX;try rw[show X+1+1=X+2 from rfl]
 generalize(((w.alloc (.cells #[.string ⟨nm.toArray⟩,.int .i64 ki,.bool kp,.int .i64 al,.string ⟨dt.toArray⟩,.slice ad n cap] 55)).alloc (.cells #[.string ⟨#[]⟩,.int .i64 0,.bool false,.int .i64 0,.string ⟨#[]⟩,.slice none 0 0] 97)).alloc (.cells #[.string ⟨nm.toArray⟩,.int .i64 ki,.bool kp,.int .i64 al,.string ⟨dt.toArray⟩,.slice none 0 0] 97))=W0 at h0⊢;go_loopw [4] (fun i wr=>∃(j:Nat) (xs:List Rl) (a:Option Addr) (c:Nat),Hid (QS w wr X ⟨⟨nm,ki,kp,al,dt,rl⟩,ad,cap⟩ ⟨nm,ki,kp,al,dt,xs⟩ a c)/\j<=n/\i=.int .i64 j/\Hid (xs=rl.take j)) (fun i _=>n-(intOf i).toNat)
 case atStart=>exact⟨0,[],none,0,h0,by omega,rfl,aH rfl⟩
 case round=>
  clear h0;obtain⟨j,xs,a,c,HQ,hj,rfl,HXs⟩:=hrel;obtain⟨q,hq⟩:=aE xs.length;have x5:wr.cell? ⟨X,5,none⟩=some (.slice ad n cap):=by have:=HQ.out.ub.cell (j:=5);rw[HN.out];exact this
  have HQq:=aH hq;by_cases hlt:j<n
  ·have hlti:(j:Int)<(n:Int):=by omega
   have HLT:=aH hlt;have hjr:j<rl.length:=by have:=HN.out;omega
   have hqj:q=j:=by rw[hq,HXs.out,List.length_take];omega
   have hsl:=HSl.out.below HQ.out.kk;obtain⟨b,off,had,hB,hc⟩:=hsl.cells (hsl.ne hjr);subst had;obtain⟨d0,d1,d2,d3⟩:=dN (fun i hi=>hc j hjr i hi);have HTk:Hid (rl.take (j+1)=rl.take j++ [rl[j]]):=aH (by rw[List.take_add_one,iS hjr];rfl);generalize rl[j]=r at d0 d1 d2 d3 HTk;obtain⟨rp,rk,rs,ra⟩:=r;simp only at d0 d1 d2 d3;have HOW:Hid (wr.ownsRow (X+3) 132 4 (.slice a q c) q (xs.flatMap kY)):=aH (by have:=HQ.out.oo;simp only at this;rw[hq];exact this);have hX2:X+2<wr.heap.size:=lt_of_block HQ.out.yy;have y5:wr.cell? ⟨X+2,5,none⟩=some (.slice a q c):=by have:=HQ.out.yy.cell (j:=5);rw[hq];exact this
   have yf:wr.frozen? ⟨X+2,5,none⟩=false:=HQ.out.yy.frozen;have tA:(wr.alloc (.cells #[.int .i64 rp,.int .i64 rk,.int .i64 rs,.int .i64 ra] 57)).cell? ⟨X+2,5,none⟩=some (.slice a q c):=(World.cell?_alloc_past (w:=wr) _ _ _ hX2).trans y5;have hno:(Value.slice a q c).ownBlock≠some (X+2):=fun e=>by have:=(HOW.out.lt (X+2) e).1;omega
   have hm:q+1<=maxLen:=by unfold maxLen;have:=HBn.out;omega
   have hby:(q+1)*32<=140737488355328:=by have:=HBn.out;omega
   have hnews:∀j u,(kY ⟨rp,rk,rs,ra⟩)[j]?=some u->((wr.alloc (.cells #[.int .i64 rp,.int .i64 rk,.int .i64 rs,.int .i64 ra] 57)).alloc (.cells #[.int .i64 rp,.int .i64 rk,.int .i64 rs,.int .i64 ra] 132)).cell? ((⟨wr.heap.size+1,0,none⟩:Addr).add j)=some u:=World.news_of_block (cs:=rlA ⟨rp,rk,rs,ra⟩) (t:=132) (fr:=(0,0)) (by have:=heap_alloc_new (wr.alloc (.cells #[.int .i64 rp,.int .i64 rk,.int .i64 rs,.int .i64 ra] 57)) (.cells (rlA ⟨rp,rk,rs,ra⟩) 132);rw[World.size_alloc]at this;exact this);clear hsl hc hB hjr hq hqj hj hlt;go_wp2_with (at_builtin;refine wpList_append_lies _ rfl _ _ 95 rfl (X+3) 132 i0 (.agg #[.int .i64 0,.int .i64 0,.int .i64 0,.int .i64 0]) 4 32 Tryz.underlying95 hi hz0 hz1 hz2 rfl (by decide) (.slice a q c) q (xs.flatMap kY) rfl ((HOW.out.alloc _).alloc _) ⟨wr.heap.size+1,0,none⟩ 1 1 (kY ⟨rp,rk,rs,ra⟩) rfl rfl hnews (rl_one _) (by decide) hm hby (by simp;omega) (wr.heap.size+1+1) (by simp) ?_;intro g2 cap2 w2 hown2 hgrow2 hlie2 hlt2;have t0:w2.cell? ⟨X+2,5,none⟩=some (.slice a q c):=(hgrow2.cell_far _ (by simp;omega) (Ne.symm hno)).trans ((World.cell?_alloc_past _ _ _ (by rw [World.size_alloc];exact Nat.lt_succ_of_lt hX2)).trans tA);have t1:w2.frozen? ⟨X+2,5,none⟩=false:=(hgrow2.frozen_far _ (by simp;omega) (Ne.symm hno)).trans ((World.frozen?_alloc_past _ _ _ (by rw [World.size_alloc];exact Nat.lt_succ_of_lt hX2)).trans ((World.frozen?_alloc_past (w:=wr) _ _ _ hX2).trans yf)))
   rw[HQq.out]at hown2 hgrow2;have HQ2:=aH ((HQ.out.alloc (.cells #[.int .i64 rp,.int .i64 rk,.int .i64 rs,.int .i64 ra] 57)).append (x:=⟨rp,rk,rs,ra⟩) hown2 hgrow2);simp only[]at HQ2;rw[<-HQq.out]at HQ2;clear hown2 hgrow2 hlie2 hlt2 t0 t1 y5 yf tA hno hnews d0 d1 d2 d3;go_roundw
   case rel=>exact⟨j+1,xs++ [⟨rp,rk,rs,ra⟩],_,_,HQ2,by have:=HLT.out;omega,by go_num,aH (by rw[HTk.out,HXs.out])⟩
   case measure=>have:=HLT.out;simp[intOf];omega
  ·have hnlt:¬(j:Int)<(n:Int):=by omega
   have hxr:xs=rl:=by rw[HXs.out,List.take_of_length_le (by have:=HN.out;omega)]
   subst hxr;have HF:=aH HQ.out.fin;have y0:wr.cell? ⟨X+2,0,none⟩=some (.string ⟨nm.toArray⟩):=HQ.out.yy.cell;have y1:wr.cell? ⟨X+2,1,none⟩=some (.int .i64 ki):=HQ.out.yy.cell;have y2:wr.cell? ⟨X+2,2,none⟩=some (.bool kp):=HQ.out.yy.cell;have y3:wr.cell? ⟨X+2,3,none⟩=some (.int .i64 al):=HQ.out.yy.cell;have y4:wr.cell? ⟨X+2,4,none⟩=some (.string ⟨dt.toArray⟩):=HQ.out.yy.cell;have y5:wr.cell? ⟨X+2,5,none⟩=some (.slice a q c):=by have:=HQ.out.yy.cell (j:=5);rw[HQq.out];exact this
   obtain⟨x0,x1,x2,x3,x4,x5,xf,xl⟩:=HQ.out.xx.six;have xf0:=xf 0;have xf1:=xf 1;have xf2:=xf 2;have xf3:=xf 3;have xf4:=xf 4;have xf5:=xf 5;rw[show(⟨nm,ki,kp,al,dt,xs⟩:Sc).rels.length=q from HQq.out.symm]at HF;clear xf hj hlt hq;go_wp2;refine bodyPost_ret (results_cell_row (P:=Tryz.prog) rfl _ _ (X+1) 97 _ (0,0) _ rfl HF.out.1 Tryz.underlying97 rfl (by kernel_rfl)) rfl ?_;exact HF.out.2
open Go.ChangeShapes Go.WideShapes Go.Deep Go.RowKit
open Go.ChangeShapes Go.WideShapes Go.Deep Go.RowKit
structure LK (u:World)(ua:Option Addr)(L:List Ms):Prop where
 sl:SL mX 6 u u.heap.size ua L.length L
 no:iQ u u.heap.size L
 tb:jL u
 gd:∀m∈L,fP m.sc
 fw:∀m∈L,m.sc.rels.length*32<=reachBytes
theorem LK.next {u v:World}{ua:Option Addr}{L:List Ms}(h:LK u ua L)(hb:Below u.heap.size u v):LK v ua L:=⟨h.sl.next hb,h.no.next hb,h.tb.next hb,h.gd,h.fw⟩
open Go.ChangeShapes Go.WideShapes Go.Deep Go.RowKit
theorem nG {H:Type}{P:Program}{e:TypeId}{d:DataW H}{z:Nat}:∀ {l:List (DataW H)},d∈l->z∈d.weights P e->z∈DataW.weightsAll P e l
 |x :: t,hd,hz=>by
  simp only[DataW.weightsAll,List.mem_append];rcases List.mem_cons.1 hd with rfl|hd
  ·exact .inl hz
  ·exact .inr (nG hd hz)
section
variable {α:Type} {enc:α->List Value} {sz:Nat}
theorem open_SL4 {H:Type}{encH:TypeId×Value->H}{P:Program}{W:World}{u:Value}{fuel:Nat}{d:DataW H×List MemPlace}{t e:TypeId}{fs:Array Field}{B:Nat}(good:α->Prop)(dummy:α)
  (ht:P.underlying t=some (.slice e)) (he:P.underlying e=some (.struct fs)) (hone:oneCellFields P fs=true) (hC:P.cellsOf e=fs.size) (hfs:fs.size=sz) (h0:0<sz)
  (henc:∀x,(enc x).length=sz)
  (hel:∀(cell:Nat->Option Value) (m:Nat),(∀(j:Nat) (f:Field),fs[j]?=some f->∃(u:Value) (y:DataW H×List MemPlace),cell j=some u/\DataW.trod encH P W 0 (fun _=>true) true m f.type [u]=some y/\∀z∈y.1.weights P f.type,z<=B)->∃x:α,good x/\∀j,j<sz->cell j=(enc x)[j]?)
  (hf:DataW.trod encH P W 0 (fun _=>true) true fuel t [u]=some d) (hB:∀z∈d.1.weights P t,z<=B):
  ∃(a:Option Addr) (n c:Nat) (l:List α),u=.slice a n c/\n<=maxLen/\(∀x∈l,good x)/\SL enc sz W W.heap.size a n l/\(a=none->n=0/\c=0)/\n<=c/\∀R bt:Nat,(∀el sp,d.1=.slice el sp->(el.length+sp.length)*bt<=R)->n*bt<=R:=by
 rcases lB ht he hone hC hf with⟨hcs,hx⟩|⟨a,len,cap,m,D,Pl,hcs,hb,hl,hm,hmm,hx,hi⟩
 ·simp only[List.cons.injEq,and_true]at hcs;subst hcs;exact⟨none,0,0,[],rfl,by unfold maxLen;omega,by simp,SL.nil _ _ _,fun _=>⟨rfl,rfl⟩,Nat.le_refl _,by intro R bt _;omega⟩
 ·simp only[List.cons.injEq,and_true]at hcs;subst hcs;have hlm:len<=m:=by split at hmm<;>omega
  have hc:∀i,i<len->∃x:α,good x/\∀j,j<sz->W.cell? (a.add (i*sz+j))=(enc x)[j]?:=by
   intro i hi';obtain⟨ys,k,hD,-,-,hfs'⟩:=hi i (by omega);refine hel (fun j=>W.cell? (a.add (i*sz+j))) k (fun j f hj=>?_);obtain⟨u,y,c1,c3,c2⟩:=hfs' j f hj;rw[hfs]at c1;refine⟨u,y,c1,c2,fun z hz=>hB z ?_⟩;rw[hx];simp only[DataW.weights,ht];refine List.mem_cons_of_mem _ (List.mem_append_left _ (nG (List.mem_map.2 ⟨i,by simpa using hi',rfl⟩) ?_));rw[hD];simp only[DataW.weights,he];refine DataW.weights_mem_each (j:=j) (t:=f.type) (d:=y.1) ?_ ?_ z hz
   ·rw[List.getElem?_map,Array.getElem?_toList,hj];rfl
   ·rw[List.getElem?_map,c3];rfl
  have hall:∃g:Nat->α,∀i,i<len->good (g i)/\∀j,j<sz->W.cell? (a.add (i*sz+j))=(enc (g i))[j]?:=
   ⟨fun i=>if h:i<len then Classical.choose (hc i h)else dummy,fun i h=>by simp only[h,dite_true];exact Classical.choose_spec (hc i h)⟩
  obtain⟨g,hg⟩:=hall;refine⟨some a,len,cap,(List.range len).map g,rfl,by omega,?_,⟨by simp,?_⟩,by simp,hl,fun R bt hR=>?_⟩;rotate_left 2
  ·have:=hR _ _ (by rw[hx]);simp only[List.length_map,List.length_range]at this;exact Nat.le_trans (Nat.mul_le_mul_right _ (Nat.le_add_right _ _)) this
  ·intro f hf;obtain⟨i,hi2,rfl⟩:=List.mem_map.1 hf;exact(hg i (by simpa using hi2)).1
  ·intro hne;have hlen:0<len:=by
    rcases Nat.eq_zero_or_pos len with h|h
    ·subst h;simp at hne
    ·exact h
   have h00:=(hg 0 hlen).2 0 h0;have hsome:∃u,W.cell? (a.add (0*sz+0))=some u:=by
    rw[h00];exact⟨_,iS (by rw[henc];exact h0)⟩
   obtain⟨u,hu⟩:=hsome;have ea:a.add (0*sz+0)=a:=by simp[Addr.add]
   rw[ea]at hu;have hal:a.block<W.heap.size:=bM hu;obtain⟨b,off,el⟩:=a;have hel':el=none:=cell_spot hu;subst hel';refine⟨b,off,rfl,hal,fun k hk j hj=>?_⟩;have hk':k<len:=by simpa using hk
   have:=(hg k hk').2 j hj;rw[add_none]at this;simpa only[Nat.add_assoc,List.getElem_map,List.getElem_range]using this
end
theorem open_Units {H:Type}{encH:TypeId×Value->H}{W:World}{base:Nat}{v:Value}{d:DataW H}{p:List MemPlace}
  (hv:Value.okWide Tryz.prog W .any base 22 v) (h:DataW.Trod encH Tryz.prog W 0 (fun _=>true) true 22 v d p) (hB:∀z∈d.weights Tryz.prog 22,z<=reachBytes):
  ∃(a:Option Addr) (n c:Nat) (L:List Ms),v=.slice a n c/\n<=maxLen/\SL mX 6 W W.heap.size a n L/\iQ W W.heap.size L/\(∀m∈L,fP m.sc)/\(∀m∈L,m.sc.rels.length*32<=reachBytes):=by
 obtain⟨a0,len0,cap0,rfl⟩:=okWide_slice Tryz.underlying22 hv;obtain⟨fuel,hf⟩:=h;simp only[Value.cells]at hf;obtain ⟨a,n,c,L,hveq,h2,h3,h4,h5,h6,-⟩:=open_SL4 (sz:=6) (enc:=mX) (fun m:Ms=>(fP m.sc/\m.sc.rels.length*32<=reachBytes)/\SL kY 4 W W.heap.size m.ad m.sc.rels.length m.sc.rels) ⟨scZ,none,0⟩ Tryz.underlying22 Tryz.underlying55 (by kernel_rfl) (by kernel_rfl) rfl (by decide) ms_len (by
  intro cell m hc;obtain⟨u0,z0,g0,s0,b0⟩:=hc 0 _ rfl;obtain⟨u1,z1,g1,s1,b1⟩:=hc 1 _ rfl;obtain⟨u2,z2,g2,s2,b2⟩:=hc 2 _ rfl;obtain⟨u3,z3,g3,s3,b3⟩:=hc 3 _ rfl;obtain⟨u4,z4,g4,s4,b4⟩:=hc 4 _ rfl;obtain⟨u5,z5,g5,s5,b5⟩:=hc 5 _ rfl;obtain⟨x0,e0,-,w0⟩:=DataW.trod_string Tryz.underlying9 s0;obtain⟨x1,e1,-,w1⟩:=DataW.trod_int Tryz.underlying3 s1;obtain⟨x2,e2,-⟩:=DataW.trod_bool Tryz.underlying4 s2;obtain⟨x3,e3,-,w3⟩:=DataW.trod_int Tryz.underlying3 s3;obtain⟨x4,e4,-,w4⟩:=DataW.trod_string Tryz.underlying9 s4;simp only[List.cons.injEq,and_true]at e0 e1 e2 e3 e4;subst e0 e1 e2 e3 e4;obtain ⟨ra,rn,rc,rl,rfl,r2,r3,r4,r5,r6,r7⟩:=open_SL4 (sz:=4) (enc:=kY) jN ⟨0,0,0,0⟩ Tryz.underlying53 Tryz.underlying57 (by kernel_rfl) (by kernel_rfl) rfl (by decide) rl_len (by
   intro cell m hc;obtain⟨u0,z0,g0,s0,b0⟩:=hc 0 _ rfl;obtain⟨u1,z1,g1,s1,b1⟩:=hc 1 _ rfl;obtain⟨u2,z2,g2,s2,b2⟩:=hc 2 _ rfl;obtain⟨u3,z3,g3,s3,b3⟩:=hc 3 _ rfl;obtain⟨k0,e0,-,w0⟩:=DataW.trod_int Tryz.underlying3 s0;obtain⟨k1,e1,-,w1⟩:=DataW.trod_int Tryz.underlying3 s1;obtain⟨k2,e2,-,w2⟩:=DataW.trod_int Tryz.underlying3 s2;obtain⟨k3,e3,-,w3⟩:=DataW.trod_int Tryz.underlying3 s3;simp only[List.cons.injEq,and_true]at e0 e1 e2 e3;subst e0 e1 e2 e3;refine⟨⟨k0,k1,k2,k3⟩,⟨bounds_i64 w0,bounds_i64 w1,bounds_i64 w2,bounds_i64 w3⟩,fun j hj=>?_⟩;match j,hj with
   |0,_=>exact g0
   |1,_=>exact g1
   |2,_=>exact g2
   |3,_=>rw[show(kY ⟨k0,k1,k2,k3⟩)[3]?=some (.int .i64 k3)from rfl];exact g3) s5 b5
  have b5':∀z∈DataW.weights Tryz.prog 53 z5.1,z<=reachBytes:=b5;have hrb:rn*32<=reachBytes:=r7 _ 32 (fun el sp hd=>b5' _ (by
   rw[hd];simp only[DataW.weights,Tryz.underlying53];rw[show Tryz.prog.bytesOf 57=32 from by kernel_rfl];exact List.mem_cons_self ..))
  have hrl:=r4.len;subst hrl;refine⟨⟨⟨x0.data.toList,x1,x2,x3,x4.data.toList,rl⟩,ra,rc⟩,⟨⟨⟨?_,bounds_i64 w1,bounds_i64 w3,?_,r3⟩,hrb⟩,r4⟩,fun j hj=>?_⟩
  ·show x0.data.toList.length<=maxLen
   rw[Array.length_toList];exact w0
  ·show x4.data.toList.length<=maxLen
   rw[Array.length_toList];exact w4
  match j,hj with
  |0,_=>exact g0
  |1,_=>exact g1
  |2,_=>exact g2
  |3,_=>exact g3
  |4,_=>exact g4
  |5,_=>exact g5) hf hB
 exact⟨a,n,c,L,hveq,h2,h4,fun m hm=>(h3 m hm).2,fun m hm=>(h3 m hm).1.1,fun m hm=>(h3 m hm).1.2⟩
end Go.Proofs.YtiohgaghmnpplaaGreatDoor
