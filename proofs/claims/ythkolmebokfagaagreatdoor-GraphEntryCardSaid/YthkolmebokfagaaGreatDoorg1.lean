/- graph, plain: what is reached; and how it is gone through. graph: what stands while a graph is gone through; put, take. graph: come. graph: what a unit's needs yield. graph: reached. graph: a unit as the section that it would be. graph: Is. graph: Reach. -/
import Derived.Test.YthkolmebokfagaaGreatDoors0
import Derived.Test.YthkolmebokfagaaGreatDoorqJ
import Derived.Test.YthkolmebokfagaaGreatDoorqI
import Derived.RangeFuncFrom
import Derived.WalkSmall
import Derived.Deep.AppendLies
import Derived.RangeFuncNested
import Derived.RangeFuncBound
import Derived.RangeFuncCalls
import Derived.RangeFuncLeaves
import Derived.Shelf.Abstract
import Derived.Shelf.RegionOpen
import Derived.OwnWalkIn
import Derived.TacticsInMore
import Derived.LoopNIn
import Derived.LoopIn
import Derived.Laws.EntriesVeiled
set_option maxRecDepth 100000
set_option maxHeartbeats 2000000
set_option linter.unusedVariables false
set_option linter.unusedSimpArgs false
namespace Go.Proofs.YthkolmebokfagaaGreatDoor
open Go.RowKit
open Go.ChangeShapes Go.WideShapes Go.Deep Go.RowKit
inductive Rch (L:List Sc) (roots:List Int):Nat->Prop
 | root {k:Nat} (h:(k:Int) ∈ roots):Rch L roots k
 | step {i k:Nat} {s:Sc} {r:Rl} (h:Rch L roots i) (hs:L[i]?=some s) (hr:r ∈ s.rels) (hk:r.sym=(k:Int)):Rch L roots k
def unitOk (n:Nat) (s:Sc):Bool:=secR s && s.rels.all fun r=>decide (r.sym < (n:Int))
def unitsR (L:List Sc):Bool:=decide (L.length<=256) && L.all (unitOk L.length)
theorem units_len {L:List Sc} (h:unitsR L=true):L.length<=256:=by
 unfold unitsR at h
 simp only [Bool.and_eq_true,decide_eq_true_eq] at h
 exact h.1
theorem units_sec {L:List Sc} (h:unitsR L=true) {i:Nat} {s:Sc} (hs:L[i]?=some s):SecOk s/\∀ r ∈ s.rels,0<=r.sym/\r.sym < (L.length:Int):=by
 unfold unitsR at h
 simp only [Bool.and_eq_true,decide_eq_true_eq,List.all_eq_true] at h
 have h1:=h.2 s (List.mem_of_getElem? hs)
 unfold unitOk at h1
 simp only [Bool.and_eq_true,List.all_eq_true,decide_eq_true_eq] at h1
 have h2:=sec_ok h1.1
 exact ⟨h2,fun r hr=>⟨(h2.all r hr).s0,h1.2 r hr⟩⟩
open Classical in
noncomputable def reachB (L:List Sc) (roots:List Int):List Bool:=(List.range L.length).map fun k=>decide (Rch L roots k)
theorem reachB_len (L:List Sc) (roots:List Int):(reachB L roots).length=L.length:=by unfold reachB;simp
theorem reachB_iff {L:List Sc} {roots:List Int} {k:Nat} (hk:k < L.length):(reachB L roots)[k]?=some true ↔ Rch L roots k:=by
 unfold reachB
 rw [List.getElem?_map,List.getElem?_range hk]
 simp
theorem rch_sub {L:List Sc} {roots:List Int} (S:Nat->Prop) (h0:∀ k:Nat,(k:Int) ∈ roots->S k) (h1:∀ i s,S i->L[i]?=some s->∀ r ∈ s.rels,∀ k:Nat,r.sym=(k:Int)->S k) {k:Nat} (h:Rch L roots k):S k:=by
 induction h with
 | root h=>exact h0 _ h
 | step _ hs hr hk ih=>exact h1 _ _ ih hs _ hr _ hk
def comeS (k:Nat) (x:List Bool × List Nat):List Bool × List Nat:=if x.1[k]?=some false then (x.1.set k true,x.2 ++ [k]) else x
structure DI (L:List Sc) (roots:List Int) (x:List Bool × List Nat) (cur:Option (Nat × Nat)):Prop where
 len:x.1.length=L.length
 snd:∀ k:Nat,x.1[k]?=some true->Rch L roots k
 wt:∀ k ∈ x.2,x.1[k]?=some true
 cls:∀ (i:Nat) (s:Sc),x.1[i]?=some true->i ∉ x.2->L[i]?=some s->∀ (j:Nat) (r:Rl),s.rels[j]?=some r->(∀ c m,cur=some (c,m)->i ≠ c\/j < m)->x.1[r.sym.toNat]?=some true
def mass (x:List Bool × List Nat):Nat:=2*x.1.count false+x.2.length
theorem come_in {k:Nat} {x:List Bool × List Nat} (h:k < x.1.length):(comeS k x).1[k]?=some true:=by
 unfold comeS
 split
 ·rw [List.getElem?_set_self (by simpa using h)]
 ·rename_i c
  rw [List.getElem?_eq_getElem h] at c ⊢
  cases hb:x.1[k] with
  | true=>rfl
  | false=>rw [hb] at c;exact absurd rfl c
theorem come_mono {k j:Nat} {x:List Bool × List Nat} (h:x.1[j]?=some true):(comeS k x).1[j]?=some true:=by
 unfold comeS
 split
 ·rename_i c
  by_cases e:k=j
  ·subst e;rw [h] at c;cases c
  ·rw [List.getElem?_set_ne e];exact h
 ·exact h
theorem come_len {k:Nat} {x:List Bool × List Nat}:(comeS k x).1.length=x.1.length:=by
 unfold comeS;split <;> simp
theorem count_set:∀ {l:List Bool} {k:Nat},l[k]?=some false->(l.set k true).count false+1=l.count false
 | [],k,h=>by simp at h
 | b :: t,0,h=>by
  simp only [List.getElem?_cons_zero,Option.some.injEq] at h
  subst h
  simp
 | b :: t,k+1,h=>by
  have h2:t[k]?=some false:=by simpa using h
  have:=count_set h2
  rw [List.set_cons_succ,List.count_cons,List.count_cons]
  omega
theorem come_mass {k:Nat} {x:List Bool × List Nat}:mass (comeS k x)<=mass x:=by
 unfold mass comeS
 split
 ·rename_i c
  have:=count_set c
  simp only [List.length_append,List.length_singleton]
  omega
 ·exact Nat.le_refl _
theorem DI.come {L:List Sc} {roots:List Int} {x:List Bool × List Nat} {cur:Option (Nat × Nat)} {k:Nat} (h:DI L roots x cur) (hk:k < L.length) (hr:Rch L roots k):DI L roots (comeS k x) cur:=by
 by_cases c:x.1[k]?=some false
 ·have e:comeS k x=(x.1.set k true,x.2 ++ [k]):=by unfold comeS;rw [if_pos c]
  refine ⟨by rw [come_len];exact h.len,?_,?_,?_⟩
  ·intro j hj
   by_cases e2:j=k
   ·rw [e2];exact hr
   ·rw [e,List.getElem?_set_ne (fun z=>e2 z.symm)] at hj
    exact h.snd j hj
  ·intro j hj
   rw [e] at hj
   simp only [List.mem_append,List.mem_singleton] at hj
   rcases hj with hj | rfl
   ·exact come_mono (h.wt j hj)
   ·exact come_in (by rw [h.len];exact hk)
  ·intro i s hi hw hs j r hj hc
   rw [e] at hw
   simp only [List.mem_append,List.mem_singleton,not_or] at hw
   rw [e,List.getElem?_set_ne (fun z=>hw.2 z.symm)] at hi
   exact come_mono (h.cls i s hi hw.1 hs j r hj hc)
 ·have e:comeS k x=x:=by unfold comeS;rw [if_neg c]
  rw [e];exact h
theorem DI.start (L:List Sc) (roots:List Int):DI L roots (List.replicate L.length false,[]) none:=by
 refine ⟨by simp,?_,by simp,?_⟩
 ·intro k hk
  rw [List.getElem?_replicate] at hk
  split at hk <;> simp at hk
 ·intro i s hi
  rw [List.getElem?_replicate] at hi
  split at hi <;> simp at hi
theorem DI.pop {L:List Sc} {roots:List Int} {ins:List Bool} {wt:List Nat} {a:Nat} (h:DI L roots (ins,wt ++ [a]) none):DI L roots (ins,wt) (some (a,0))/\Rch L roots a/\a < L.length/\mass (ins,wt)+1=mass (ins,wt ++ [a]):=by
 have ha:=h.wt a (by simp)
 refine ⟨⟨h.len,h.snd,fun k hk=>h.wt k (by simp;exact .inl hk),?_⟩,h.snd a ha,?_,?_⟩
 ·intro i s hi hw hs j r hj hc
  have h1:=hc a 0 rfl
  refine h.cls i s hi ?_ hs j r hj (fun c m e=>by cases e)
  simp only [List.mem_append,List.mem_singleton,not_or]
  refine ⟨hw,?_⟩
  rcases h1 with h1 | h1
  ·exact h1
  ·omega
 ·have:=(List.getElem?_eq_some_iff.1 ha).1
  rw [<-h.len];exact this
 ·unfold mass;simp only [List.length_append,List.length_singleton];omega
theorem DI.need {L:List Sc} {roots:List Int} {x:List Bool × List Nat} {a j k:Nat} {s:Sc} {r:Rl} (h:DI L roots x (some (a,j))) (ha:Rch L roots a) (hs:L[a]?=some s) (hj:s.rels[j]?=some r) (hk:r.sym=(k:Int)) (hkl:k < L.length):DI L roots (comeS k x) (some (a,j+1)):=by
 have h2:=h.come hkl (.step ha hs (List.mem_of_getElem? hj) hk)
 refine ⟨h2.len,h2.snd,h2.wt,?_⟩
 intro i s' hi hw hs' j' r' hj' hc
 have h3:=hc a (j+1) rfl
 by_cases e:i=a/\j'=j
 ·obtain ⟨rfl,rfl⟩:=e
  rw [hs] at hs';cases hs'
  rw [hj] at hj';cases hj'
  rw [hk]
  exact come_in (by rw [h.len];exact hkl)
 ·refine h2.cls i s' hi hw hs' j' r' hj' (fun c m e2=>?_)
  simp only [Option.some.injEq,Prod.mk.injEq] at e2
  obtain ⟨rfl,rfl⟩:=e2
  rcases h3 with h3 | h3
  ·exact .inl h3
  ·by_cases e3:i=a
   ·right
    have:j' ≠ j:=fun z=>e ⟨e3,z⟩
    omega
   ·exact .inl e3
theorem DI.done {L:List Sc} {roots:List Int} {x:List Bool × List Nat} {a m:Nat} {s:Sc} (h:DI L roots x (some (a,m))) (hs:L[a]?=some s) (hm:s.rels.length<=m):DI L roots x none:=by
 refine ⟨h.len,h.snd,h.wt,?_⟩
 intro i s' hi hw hs' j r hj _
 refine h.cls i s' hi hw hs' j r hj (fun c m' e2=>?_)
 simp only [Option.some.injEq,Prod.mk.injEq] at e2
 obtain ⟨rfl,rfl⟩:=e2
 by_cases e3:i=a
 ·right
  subst e3
  rw [hs] at hs';cases hs'
  have:=(List.getElem?_eq_some_iff.1 hj).1
  omega
 ·exact .inl e3
theorem DI.fin {L:List Sc} {roots:List Int} {ins:List Bool} (h:DI L roots (ins,[]) none) (hu:unitsR L=true) (hr:∀ k:Nat,(k:Int) ∈ roots->ins[k]?=some true):ins=reachB L roots:=by
 apply List.ext_getElem?
 intro k
 by_cases hk:k < L.length
 ·have hin:ins[k]?=some true ↔ Rch L roots k:=by
   constructor
   ·exact h.snd k
   ·intro hR
    refine rch_sub (fun k=>ins[k]?=some true) hr ?_ hR
    intro i s hi hs r hrm k hk2
    obtain ⟨j,hj⟩:=List.getElem?_of_mem hrm
    have:=h.cls i s hi (by simp) hs j r hj (fun c m e=>by cases e)
    rw [hk2] at this
    simpa using this
  have hk1:k < ins.length:=by have:=h.len;simp only at this;omega
  have hk2:k < (reachB L roots).length:=by rw [reachB_len];exact hk
  rw [<-reachB_iff hk,List.getElem?_eq_getElem hk1,List.getElem?_eq_getElem hk2] at hin
  rw [List.getElem?_eq_getElem hk1,List.getElem?_eq_getElem hk2]
  simp only [Option.some.injEq] at hin
  congr 1
  cases ha:ins[k] <;> cases hb:(reachB L roots)[k] <;> rw [ha,hb] at hin <;> simp at hin <;> rfl
 ·have h1:ins.length<=k:=by have:=h.len;simp only at this;omega
  have h2:(reachB L roots).length<=k:=by rw [reachB_len];omega
  rw [List.getElem?_eq_none h1,List.getElem?_eq_none h2]
open Go.ChangeShapes Go.WideShapes Go.Deep Go.RowKit
def enI (k:Nat):List Value:=[.int .i64 (k:Int)]
theorem enI_len (k:Nat):(enI k).length=1:=rfl
abbrev blA (l:List Bool):Array Value:=(l.map Value.bool).toArray
theorem blA_get {l:List Bool} {k:Nat} {b:Bool} (h:l[k]?=some b):(blA l)[k]?=some (.bool b):=by
 show (l.map Value.bool).toArray[k]?=_
 simp [h]
theorem blA_set (l:List Bool) (k:Nat) (b:Bool):(blA l).setIfInBounds k (.bool b)=blA (l.set k b):=by
 simp [blA,List.map_set]
theorem info_intG:(Tryz.prog.info? 3).map (fun i=>(i.zero,i.size,i.bytes))=some (some (.int .i64 0),1,8):=by kernel_rfl
structure GS (w u:World) (B:Nat) (x:List Bool × List Nat) (va:Option Addr) (vc:Nat):Prop where
 gg:RB u B (blA x.1) 4
 ii:RB u (B+1) #[.slice (some ⟨B,0,none⟩) x.1.length x.1.length] 110
 qq:RB u (B+2) #[.slice va x.2.length vc] 169
 ff:RB u (B+3) #[.func (.func 108) #[] #[.pointer (some ⟨B+1,0,none⟩),.pointer (some ⟨B+2,0,none⟩)]] 78
 ow:u.ownsRow (B+4) 3 1 (.slice va x.2.length vc) x.2.length (x.2.flatMap enI)
 kk:Below w.heap.size w u
 ee:B=w.heap.size
theorem GS.lt {w u:World} {B:Nat} {x:List Bool × List Nat} {va:Option Addr} {vc:Nat} (h:GS w u B x va vc):B+4<=u.heap.size:=lt_of_block h.ff
structure GF (B:Nat) (va:Option Addr) (vc n:Nat) (u u':World):Prop where
 os:u'.os=u.os
 tape:u'.tape=u.tape
 output:u'.output=u.output
 size:u.heap.size<=u'.heap.size
 block:∀ j,j < u.heap.size->j ≠ B->j ≠ B+2->(Value.slice va n vc).ownBlock ≠ some j->u'.heap[j]?=u.heap[j]?
theorem GF.refl (B:Nat) (va:Option Addr) (vc n:Nat) (u:World):GF B va vc n u u:=⟨rfl,rfl,rfl,Nat.le_refl _,fun _ _ _ _ _=>rfl⟩
theorem GS.put {w u w2:World} {B:Nat} {ins:List Bool} {wt:List Nat} {va:Option Addr} {vc k g cap:Nat} (h:GS w u B (ins,wt) va vc)
  (hown:w2.ownsRow (B+4) 3 1 (.slice (some ⟨g,0,none⟩) (wt.length+1) cap) (wt.length+1) (wt.flatMap enI ++ enI k)) (hgrow:(u.alloc (.cells #[.int .i64 (k:Int)] 3)).grownBy w2 (Value.slice va wt.length vc).ownBlock):
  GS w (w2.setCell ⟨B+2,0,none⟩ (.slice (some ⟨g,0,none⟩) (wt.length+1) cap)) B (ins,wt ++ [k]) (some ⟨g,0,none⟩) cap/\GF B va vc wt.length u (w2.setCell ⟨B+2,0,none⟩ (.slice (some ⟨g,0,none⟩) (wt.length+1) cap)):=by
 have hz:=h.lt
 have hbV:Below (B+4) u (u.alloc (.cells #[.int .i64 (k:Int)] 3)):=(Below.refl (B+4) u).alloc hz _
 have hbw:Below (B+4) u w2:=hbV.grown hgrow (by have:=hbV.size;omega) (fun j hj=>(h.ow.lt j hj).1)
 have h0:RB w2 B (blA ins) 4:=(hbw.block B (by omega)).trans h.gg
 have h1:RB w2 (B+1) #[.slice (some ⟨B,0,none⟩) ins.length ins.length] 110:=(hbw.block (B+1) (by omega)).trans h.ii
 have h2:RB w2 (B+2) #[.slice va wt.length vc] 169:=(hbw.block (B+2) (by omega)).trans h.qq
 have h3:=(hbw.block (B+3) (by omega)).trans h.ff
 have hn:(wt ++ [k]).length=wt.length+1:=by simp
 refine ⟨⟨(Below.heap_setCell _ _ _ _ (by simp)).trans h0,(Below.heap_setCell _ _ _ _ (by simp)).trans h1,?_,(Below.heap_setCell _ _ _ _ (by simp)).trans h3,?_,?_,h.ee⟩,?_⟩
 ·show RB _ (B+2) #[.slice (some ⟨g,0,none⟩) (wt ++ [k]).length cap] _
  rw [hn];exact h2.set (j:=0) _
 ·show World.ownsRow _ (B+4) _ 1 (.slice (some ⟨g,0,none⟩) (wt ++ [k]).length cap) (wt ++ [k]).length ((wt ++ [k]).flatMap enI)
  rw [hn,List.flatMap_append,show ([k]:List Nat).flatMap enI=enI k by simp]
  refine hown.kept (KP.step (B+2) w2 0 _) ?_
  right;have:=(hown.lt g rfl).1
  simp [Value.ownBlock];omega
 ·exact (h.kk.trans (hbw.mono (by have:=h.ee;omega))).setCell (p:=⟨B+2,0,none⟩) (by show w.heap.size<=B+2;have:=h.ee;omega) _
 ·refine ⟨hbw.os,hbw.tape,hbw.output,Nat.le_trans hbw.size (by simp [World.setCell]),fun j hj hj0 hj2 hjo=>?_⟩
  rw [Below.heap_setCell _ _ _ _ (by simpa using hj2),hgrow.block j (by rw [World.size_alloc];omega) (fun e=>hjo e.symm),Below.heap_alloc _ _ _ hj]
def Lie (u:World) (va va':Option Addr):Prop:=va'=va\/∃ g,va'=some ⟨g,0,none⟩/\u.heap.size<=g
theorem lie_of {u:World} {va:Option Addr} {n vc g:Nat} {B:Nat} {xs:List Value} (hown:u.ownsRow B 3 1 (.slice va n vc) n xs) (h:(Value.slice va n vc).ownBlock=some g\/g=u.heap.size+1):Lie u va (some ⟨g,0,none⟩):=by
 rcases h with h | h
 ·left
  rcases hown.2 with ⟨hv,-⟩ | ⟨g',cap,cur,hv,-⟩
  ·rw [hv] at h;cases h
  ·rw [hv] at h
   simp only [Value.ownBlock,Option.some.injEq] at h
   simp only [Value.slice.injEq] at hv
   rw [hv.1,h]
 ·exact .inr ⟨g,rfl,by omega⟩
def PutP (w:World) (B:Nat) (x:List Bool × List Nat) (va:Option Addr) (vc n:Nat) (u:World) (e:Ending) (u':World):Prop:=
 ∃ va' vc',e=.returned (.tuple #[])/\GS w u' B x va' vc'/\GF B va vc n u u'/\Lie u va va'
theorem put_any {w u:World} {B:Nat} {ins:List Bool} {wt:List Nat} {va:Option Addr} {vc:Nat} (k:Nat) (h:GS w u B (ins,wt) va vc) (hl:wt.length<=1000000):
  Calls Tryz.prog 109 #[.pointer (some ⟨B+2,0,none⟩),.int .i64 (k:Int)] u (PutP w B (ins,wt ++ [k]) va vc wt.length u):=by
 obtain ⟨i0,hi,hz0,hz1,hz2⟩:=info_parts info_intG
 obtain ⟨n,hn⟩:∃ n,n=wt.length:=⟨_,rfl⟩
 have HN:=Lib.hid hn
 have hm:n+1<=maxLen:=by unfold maxLen;omega
 have hby:(n+1)*8<=140737488355328:=by omega
 have H:=Lib.hid h
 have hX2:B+2 < u.heap.size:=by have:=h.lt;omega
 have hB4:B+4<=u.heap.size:=h.lt
 have HOW:Hid (u.ownsRow (B+4) 3 1 (.slice va n vc) n (wt.flatMap enI)):=Lib.hid (by have:=h.ow;simp only at this;rw [hn];exact this)
 have c0:u.cell? ⟨B+2,0,none⟩=some (.slice va n vc):=by have:=h.qq.cell (j:=0);simp only at this;rw [hn];exact this
 have f0:u.frozen? ⟨B+2,0,none⟩=false:=h.qq.frozen
 have hno:(Value.slice va n vc).ownBlock ≠ some (B+2):=fun e=>by have:=(HOW.out.lt (B+2) e).1;omega
 clear h hl hn
 go_enter Tryz.func109,Tryz.ntmps109
 go_wp2_with (at_builtin;refine wpList_append_lies _ rfl _ _ 107 rfl (B+4) 3 i0 (.int .i64 0) 1 8 Tryz.underlying107 hi hz0 hz1 hz2 rfl (by decide) (.slice va n vc) n (wt.flatMap enI) rfl (HOW.out.alloc _) ⟨u.heap.size,0,none⟩ 1 1 (enI k) rfl rfl (World.news_of_block (cs:=#[.int .i64 (k:Int)]) (t:=3) (fr:=(0,0)) (heap_alloc_new u _)) (by simp [enI,Value.oneCell']) (by decide) hm hby (by simp;omega) (u.heap.size+1) (by simp) ?_;intro g cap w2 hown2 hgrow2 hlie2 hlt2;have t0:w2.cell? ⟨B+2,0,none⟩=some (.slice va n vc):=(hgrow2.cell_far _ (by simp;omega) (Ne.symm hno)).trans ((World.cell?_alloc_past (w:=u) _ _ _ hX2).trans c0);have t1:w2.frozen? ⟨B+2,0,none⟩=false:=(hgrow2.frozen_far _ (by simp;omega) (Ne.symm hno)).trans ((World.frozen?_alloc_past (w:=u) _ _ _ hX2).trans f0))
 rw [HN.out] at hown2 hgrow2 hlie2 ⊢
 have HP:=H.out.put hown2 hgrow2
 exact ⟨rfl,_,results_none rfl _ _ _,_,_,rfl,HP.1,HP.2,lie_of H.out.ow hlie2⟩
theorem GS.take {w u:World} {B:Nat} {ins:List Bool} {wt:List Nat} {a g vc:Nat} (h:GS w u B (ins,wt ++ [a]) (some ⟨g,0,none⟩) vc):
  GS w (u.setCell ⟨B+2,0,none⟩ (.slice (some ⟨g,0,none⟩) wt.length vc)) B (ins,wt) (some ⟨g,0,none⟩) vc:=by
 have hz:=h.lt
 have ho:=h.ow
 simp only [List.length_append,List.length_singleton,List.flatMap_append] at ho
 have hp:=ownsRow_pop (by rw [flat_len enI_len]) ho
 refine ⟨(Below.heap_setCell _ _ _ _ (by simp)).trans h.gg,(Below.heap_setCell _ _ _ _ (by simp)).trans h.ii,?_,(Below.heap_setCell _ _ _ _ (by simp)).trans h.ff,?_,?_,h.ee⟩
 ·exact h.qq.set (j:=0) _
 ·refine hp.kept (KP.step (B+2) u 0 _) ?_
  right;have:=(hp.lt g rfl).1
  simp [Value.ownBlock];omega
 ·exact h.kk.setCell (p:=⟨B+2,0,none⟩) (by show w.heap.size<=B+2;have:=h.ee;omega) _
theorem GS.at {w u:World} {B:Nat} {ins:List Bool} {wt:List Nat} {a:Nat} {va:Option Addr} {vc:Nat} (h:GS w u B (ins,wt ++ [a]) va vc):
  ∃ g,va=some ⟨g,0,none⟩/\B+4<=g/\wt.length+1<=vc/\u.cell? ⟨g,wt.length,none⟩=some (.int .i64 (a:Int)):=by
 have ho:=h.ow
 simp only [List.length_append,List.length_singleton,List.flatMap_append] at ho
 rcases ho.2 with ⟨-,h0⟩ | ⟨g,cap,cur,hv,hb,hg,hn,-⟩
 ·omega
 ·simp only [Value.slice.injEq] at hv
  obtain ⟨rfl,-,rfl⟩:=hv
  refine ⟨g,rfl,hb,hn,?_⟩
  rw [ho.cellAt wt.length (by omega),List.getElem?_append_right (by rw [flat_len enI_len];omega),flat_len enI_len]
  simp [enI]
def TakeP (w:World) (B:Nat) (x:List Bool × List Nat) (va:Option Addr) (vc:Nat) (r:Int) (b:Bool) (u:World) (e:Ending) (u':World):Prop:=
 e=.returned (.tuple #[.int .i64 r,.bool b])/\GS w u' B x va vc/\KP (B+2) u u'
theorem gtake_no {w u:World} {B:Nat} {ins:List Bool} {va:Option Addr} {vc:Nat} (h:GS w u B (ins,[]) va vc):
  Calls Tryz.prog 110 #[.pointer (some ⟨B+2,0,none⟩)] u (TakeP w B (ins,[]) va vc 0 false u):=by
 have H:=Lib.hid h
 have c0:u.cell? ⟨B+2,0,none⟩=some (.slice va 0 vc):=h.qq.cell
 clear h
 go_enter Tryz.func110,Tryz.ntmps110
 go_wp2
 go_ret2
 exact ⟨rfl,H.out,KP.refl _ _⟩
theorem gtake_yes {w u:World} {B:Nat} {ins:List Bool} {wt:List Nat} {a:Nat} {va:Option Addr} {vc:Nat} (h:GS w u B (ins,wt ++ [a]) va vc) (hl:wt.length<=1000000):
  Calls Tryz.prog 110 #[.pointer (some ⟨B+2,0,none⟩)] u (TakeP w B (ins,wt) va vc (a:Int) true u):=by
 obtain ⟨g,rfl,hg,hc,hx⟩:=h.at
 obtain ⟨n,hn⟩:∃ n,n=wt.length:=⟨_,rfl⟩
 have H:Hid (GS w (u.setCell ⟨B+2,0,none⟩ (.slice (some ⟨g,0,none⟩) n vc)) B (ins,wt) (some ⟨g,0,none⟩) vc):=Lib.hid (by rw [hn];exact h.take)
 have c0:u.cell? ⟨B+2,0,none⟩=some (.slice (some ⟨g,0,none⟩) (n+1) vc):=by have:=h.qq.cell (j:=0);simp only [List.length_append,List.length_singleton] at this;rw [hn];exact this
 have f0:u.frozen? ⟨B+2,0,none⟩=false:=h.qq.frozen
 rw [<-hn] at hx hc hl
 have hni:(n:Int)<=1000000:=by omega
 have hw1:IntKind.i64.wrap ((n:Int)+1 - 1)=(n:Int):=by rw [IntKind.wrap_i64];omega
 have hcn:n<=vc:=by omega
 have hci:(n:Int)<=(vc:Int):=by omega
 clear h hn hg hl
 go_enter Tryz.func110,Tryz.ntmps110
 go_wp2
 go_ret2
 exact ⟨rfl,H.out,KP.step _ _ _ _⟩
open Go.ChangeShapes Go.WideShapes Go.Deep Go.RowKit
theorem GS.mark {w u:World} {B:Nat} {ins:List Bool} {wt:List Nat} {va:Option Addr} {vc:Nat} (h:GS w u B (ins,wt) va vc) (k:Nat):GS w (u.setCell ⟨B,k,none⟩ (.bool true)) B (ins.set k true,wt) va vc:=by
 have hz:=h.lt
 refine ⟨?_,?_,(Below.heap_setCell _ _ _ _ (by simp)).trans h.qq,(Below.heap_setCell _ _ _ _ (by simp)).trans h.ff,?_,?_,h.ee⟩
 ·have:=h.gg.set (j:=k) (.bool true)
  rw [blA_set] at this
  exact this
 ·have:=(Below.heap_setCell u ⟨B,k,none⟩ (.bool true) (B+1) (by simp)).trans h.ii
  unfold RB
  simpa using this
 ·refine h.ow.kept (KP.step B u k _) ?_
  cases hv:(Value.slice va wt.length vc).ownBlock with
  | none=>exact .inl rfl
  | some g=>right;have:=(h.ow.lt g hv).1;simp;omega
 ·exact h.kk.setCell (p:=⟨B,k,none⟩) (by show w.heap.size<=B;rw [h.ee];exact Nat.le_refl _) _
theorem GF.trans {B:Nat} {va:Option Addr} {vc n:Nat} {a b c:World} (h:GF B va vc n a b) (k:GF B va vc n b c):GF B va vc n a c:=
 ⟨k.os.trans h.os,k.tape.trans h.tape,k.output.trans h.output,Nat.le_trans h.size k.size,fun j hj h1 h2 h3=>(k.block j (Nat.lt_of_lt_of_le hj h.size) h1 h2 h3).trans (h.block j hj h1 h2 h3)⟩
theorem GF.mark (B:Nat) (va:Option Addr) (vc n:Nat) (u:World) (k:Nat) (v:Value):GF B va vc n u (u.setCell ⟨B,k,none⟩ v):=
 ⟨rfl,rfl,rfl,by simp [World.setCell],fun j hj h1 h2 h3=>Below.heap_setCell _ _ _ _ (by simpa using h1)⟩
theorem come_any {w u:World} {B:Nat} {ins:List Bool} {wt:List Nat} {va:Option Addr} {vc:Nat} (k:Nat) (hk:k < ins.length) (h:GS w u B (ins,wt) va vc) (hl:wt.length<=1000000) (hn:ins.length<=1000000):
  Calls Tryz.prog 108 #[.int .i64 (k:Int),.pointer (some ⟨B+1,0,none⟩),.pointer (some ⟨B+2,0,none⟩)] u (PutP w B (comeS k (ins,wt)) va vc wt.length u):=by
 have H:=Lib.hid h
 obtain ⟨n,hnn⟩:∃ n,n=ins.length:=⟨_,rfl⟩
 have i0:u.cell? ⟨B+1,0,none⟩=some (.slice (some ⟨B,0,none⟩) n n):=by have:=h.ii.cell (j:=0);simp only at this;rw [hnn];exact this
 rw [<-hnn] at hk hn
 have hki:(k:Int) < (n:Int):=by omega
 have hk0:(0:Int)<=(k:Int):=by omega
 cases hb:ins[k]? with
 | none=>rw [hnn] at hk;rw [List.getElem?_eq_getElem hk] at hb;cases hb
 | some b=>
  have g0:u.cell? ⟨B,k,none⟩=some (.bool b):=by rw [h.gg.cell];exact blA_get hb
  have f0:u.frozen? ⟨B,k,none⟩=false:=h.gg.frozen
  cases b
  ·have HC:Hid (comeS k (ins,wt)=(ins.set k true,wt ++ [k])):=Lib.hid (by unfold comeS;rw [if_pos hb])
   have HM:=Lib.hid (h.mark k)
   have HP:Hid (∀ u1,GS w u1 B (ins.set k true,wt) va vc->Calls Tryz.prog 109 #[.pointer (some ⟨B+2,0,none⟩),.int .i64 (k:Int)] u1 (PutP w B (ins.set k true,wt ++ [k]) va vc wt.length u1)):=Lib.hid fun u1 h1=>put_any k h1 hl
   have i1:(u.setCell ⟨B,k,none⟩ (.bool true)).cell? ⟨B+1,0,none⟩=some (.slice (some ⟨B,0,none⟩) n n):=by
    have:=HM.out.ii.cell (j:=0);simp only [List.length_set] at this;rw [hnn];exact this
   clear h hb hnn hk hn hl
   go_enter Tryz.func108,Tryz.ntmps108
   go_wp2_with fail
   refine (HP.out _ HM.out).mono ?_
   rintro e u2 ⟨va',vc',rfl,hgs,hgf,hlie⟩
   have H2:=Lib.hid hgs
   have HF:Hid (GF B va vc wt.length u u2):=Lib.hid ((GF.mark B va vc wt.length u k _).trans hgf)
   have HL:Hid (Lie u va va'):=Lib.hid (by
    rcases hlie with h | ⟨g,h1,h2⟩
    ·exact .inl h
    ·exact .inr ⟨g,h1,by simpa [World.setCell] using h2⟩)
   clear hgs hgf hlie
   go_wp2
   rw [HC.out]
   exact ⟨rfl,_,results_none rfl _ _ _,_,_,rfl,H2.out,HF.out,HL.out⟩
  ·have HC:Hid (comeS k (ins,wt)=(ins,wt)):=Lib.hid (by unfold comeS;rw [if_neg (by show ¬ ins[k]?=some false;rw [hb];simp)])
   clear h hb hnn hk hn hl
   go_enter Tryz.func108,Tryz.ntmps108
   go_wp2
   rw [HC.out]
   exact ⟨rfl,_,results_none rfl _ _ _,_,_,rfl,H.out,GF.refl _ _ _ _ _,.inl rfl⟩
open Go.ChangeShapes Go.WideShapes Go.Deep Go.RowKit Go.Shelf
attribute [local go_sem] Oper.semAt_some
abbrev encYd {l:List Rl} (r:{r:Rl // r ∈ l}):Array Value:=#[.int .i64 r.1.sym]
def KpU (n0 bu ba:Nat) (W W':World):Prop:=Below n0 W W'/\∀ j o,(j=bu\/j=ba)->W.heap[j]?=some o->o.isCells=true->W'.heap[j]?=some o
theorem kpU_t {n0 bu ba:Nat} {A B C:World} (h:KpU n0 bu ba A B) (k:KpU n0 bu ba B C):KpU n0 bu ba A C:=⟨h.1.trans k.1,fun j o hj ho hc=>k.2 j o hj (h.2 j o hj ho hc) hc⟩
theorem kpU_b {n0 bu ba:Nat} {w:World} (hn:n0<=w.heap.size) (W:World) (l:Nat) (o o':Obj) (hl:w.heap.size<=l) (h:W.heap[l]?=some o) (hc:o.isCells=false) (hw:o.isWalk=false):KpU n0 bu ba W (W.putObj l o'):=
 ⟨belowK_b hn W l o o' hl h hc hw,fun j q hj hq hqc=>by
  have hne:j ≠ l:=fun e=>by subst e;rw [h] at hq;cases hq;rw [hc] at hqc;cases hqc
  exact (World.putObj_heap_other hne).trans hq⟩
structure UF (n0 bu ba:Nat) (ua:Option Addr) (un uc:Nat) (L:List Ms) (at':Nat) (u:World):Prop where
 us:SL msC 6 u n0 ua un L
 no:Notes u n0 L
 bu:RB u bu #[.slice ua un uc] 143
 ba:RB u ba #[.int .i64 (at':Int)] 3
 n0:n0<=u.heap.size
theorem UF.kp {n0 bu ba:Nat} {ua:Option Addr} {un uc:Nat} {L:List Ms} {at':Nat} {u u':World} (h:UF n0 bu ba ua un uc L at' u) (hk:KpU n0 bu ba u u'):UF n0 bu ba ua un uc L at' u':=
 ⟨h.us.below hk.1,fun m hm=>(h.no m hm).below hk.1,hk.2 bu _ (.inl rfl) h.bu rfl,hk.2 ba _ (.inr rfl) h.ba rfl,Nat.le_trans h.n0 hk.1.size⟩
theorem UF.alloc {n0 bu ba:Nat} {ua:Option Addr} {un uc:Nat} {L:List Ms} {at':Nat} {u:World} (h:UF n0 bu ba ua un uc L at' u) (o:Obj):UF n0 bu ba ua un uc L at' (u.alloc o):=
 h.kp ⟨(Below.refl n0 u).alloc h.n0 o,fun j q hj hq _=>(Below.heap_alloc u o j (lt_of_block hq)).trans hq⟩
theorem UF.later {n0 bu ba:Nat} {ua:Option Addr} {un uc:Nat} {L:List Ms} {at':Nat} {u u':World} (h:UF n0 bu ba ua un uc L at' u) (hb:Below u.heap.size u u'):UF n0 bu ba ua un uc L at' u':=
 h.kp ⟨hb.mono h.n0,fun j q hj hq _=>(hb.block j (lt_of_block hq)).trans hq⟩
theorem needs1_in (F:Fence) (n:Nat) (hf:F.fn 254) (hro:F.round=none) (hn:1<=n) (n0 bu ba:Nat) (ua:Option Addr) (un uc:Nat) (L:List Ms) (at':Nat) (sc:Sc) (ad:Option Addr) (cap:Nat) (hm:L[at']?=some ⟨sc,ad,cap⟩) (hml:sc.rels.length<=1000000) (hun:un<=1000000) (w0:World) (hu:UF n0 bu ba ua un uc L at' w0):
  SeqStopsK F n Tryz.prog 254 #[.pointer (some ⟨bu,0,none⟩),.pointer (some ⟨ba,0,none⟩)] (encYd (l:=sc.rels)) (KpU n0 bu ba) (fun xs=>xs=sc.rels.attach) (fun _=>True) sc.rels.length w0:=by
 intro l J Jx W hW hJ hJx hY h0
 have HU:=Lib.hid (hu.later hW)
 have hat:at' < L.length:=(List.getElem?_eq_some_iff.1 hm).1
 have hlen:=HU.out.us.len
 have hmg:L[at']=⟨sc,ad,cap⟩:=by rw [List.getElem?_eq_getElem hat] at hm;exact Option.some.inj hm
 have HMl:=Lib.hid hml
 obtain ⟨b,off,hua,hB,hc⟩:=HU.out.us.cells (HU.out.us.ne (k:=at') (by omega))
 subst hua
 obtain ⟨c0,c1,c2,c3,c4,c5⟩:=ms_cells (fun j hj=>hc at' hat j hj)
 rw [hmg] at c5
 simp only at c5
 have hc0:W.cell? ⟨bu,0,none⟩=some (.slice (some ⟨b,off,none⟩) un uc):=HU.out.bu.cell
 have hc1:W.cell? ⟨ba,0,none⟩=some (.int .i64 (at':Int)):=HU.out.ba.cell
 have hati:(at':Int) < (un:Int):=by omega
 obtain ⟨nr,hnr⟩:∃ nr,nr=sc.rels.length:=⟨_,rfl⟩
 have HNR:=Lib.hid hnr
 rw [<-hnr] at c5 hml
 have hnri:(nr:Int)<=1000000:=by omega
 have HMM:Hid ((⟨sc,ad,cap⟩:Ms) ∈ L):=Lib.hid (List.mem_of_getElem? hm)
 clear c0 c1 c2 c3 c4 hc hmg hm hlen hat hu hW hml hun hnr
 refine callsIn_of_wp Tryz.func254 rfl hf ?_ hro
 simp only [Tryz.ntmps254,List.size_toArray,List.length_cons,List.length_nil,Nat.reduceAdd,Nat.reduceSub,Array.replicate_succ,Array.replicate_zero,List.push_toArray,List.append_toArray,List.nil_append,List.cons_append]
 gi_wp2
 gi_loopw [12] (fun i wr=>∃ j:Nat,j<=nr/\i=.int .i64 j/\Hid (UF n0 bu ba (some ⟨b,off,none⟩) un uc L at' wr)/\J (sc.rels.attach.take j) wr) (fun i _=>nr - (intOf i).toNat)
 case atStart=>exact ⟨0,by omega,rfl,HU,by simpa using h0⟩
 case round=>
  clear HU hc0 hc1 c5
  obtain ⟨j,hj,rfl,HU,hjj⟩:=hrel
  by_cases hlt:j < nr
  ·have hlti:(j:Int) < (nr:Int):=by omega
   have HLT:=Lib.hid hlt
   have hjr:j < sc.rels.length:=by have:=HNR.out;omega
   have hsl:=HU.out.no _ HMM.out
   simp only at hsl
   obtain ⟨b2,off2,had,hB2,hc2⟩:=hsl.cells (hsl.ne hjr)
   subst had
   obtain ⟨d0,d1,d2,d3⟩:=rl_cells (fun i hi=>hc2 j hjr i hi)
   obtain ⟨r,hr⟩:∃ r,r=sc.rels[j]:=⟨_,rfl⟩
   rw [<-hr] at d0 d1 d2 d3
   have hrm:r ∈ sc.rels:=by rw [hr];exact List.getElem_mem _
   have HTk:Hid (sc.rels.attach.take (j+1)=sc.rels.attach.take j ++ [⟨r,hrm⟩]):=Lib.hid (by rw [List.take_add_one,List.getElem?_eq_getElem (by simpa using hjr)];simp [hr])
   obtain ⟨A,hA⟩:∃ A,A=wr.alloc (.cells #[.int .i64 r.pos,.int .i64 r.kind,.int .i64 r.sym,.int .i64 r.add] 119):=⟨_,rfl⟩
   have HU1:Hid (UF n0 bu ba (some ⟨b,off,none⟩) un uc L at' A):=Lib.hid (by rw [hA];exact HU.out.alloc _)
   have hjA:J (sc.rels.attach.take j) A:=by rw [hA];exact hJ _ _ _ none hjj (World.grownBy_alloc wr _ none) (fun r e=>by cases e)
   obtain ⟨fn,tmps,assign,body,hy,hR⟩:=hY (sc.rels.attach.take j) ⟨r,hrm⟩ A hjA (by rw [List.length_take];omega)
   have hy2:(Instr.yield l #[.int .i64 r.sym]).run Tryz.prog A=.ok (.round l fn tmps assign body) A:=hy
   have HR:=Lib.hid hR
   obtain ⟨rp,hrp⟩:∃ rp,rp=r.pos:=⟨_,rfl⟩
   obtain ⟨rk,hrk⟩:∃ rk,rk=r.kind:=⟨_,rfl⟩
   obtain ⟨rs,hrs⟩:∃ rs,rs=r.sym:=⟨_,rfl⟩
   obtain ⟨ra,hra⟩:∃ ra,ra=r.add:=⟨_,rfl⟩
   rw [<-hrp,<-hrk,<-hrs,<-hra] at hA
   rw [<-hrp] at d0
   rw [<-hrk] at d1
   rw [<-hrs] at d2 hy2
   rw [<-hra] at d3
   rw [hA] at hy2
   have HAE:=Lib.hid hA
   clear hrp hrk hrs hra hY hJ hJx hjj hjA hy hR hr hc2 hsl hjr hA hB2 hj hlt
   gi_wp2
   rw [<-HAE.out]
   refine HR.out.mono ?_
   rintro e W3 (⟨rfl,hJ3,hk3⟩ | ⟨rfl,hJx3⟩)
   ·have HU3:=Lib.hid (HU1.out.kp hk3)
    rw [<-HTk.out] at hJ3
    clear hk3 hy2 d0 d1 d2 d3
    gi_wp2
    go_roundw
    case rel=>exact ⟨j+1,by have:=HLT.out;omega,by go_num,HU3,hJ3⟩
    case measure=>have:=HLT.out;simp [intOf];omega
   ·rw [<-HTk.out] at hJx3
    clear hy2 d0 d1 d2 d3
    gi_wp2
    exact ⟨rfl,_,results_none rfl _ _ _,⟨_,rfl⟩,.inr ⟨_,trivial,hJx3⟩⟩
  ·have hnlt:¬ (j:Int) < (nr:Int):=by omega
   have hjn:sc.rels.attach.take j=sc.rels.attach:=List.take_of_length_le (by rw [List.length_attach];have:=HNR.out;omega)
   rw [hjn] at hjj
   clear hY hJ hJx hjn hj hlt
   gi_wp2
   go_end0
   exact ⟨⟨_,rfl⟩,.inl hjj⟩
open Go.ChangeShapes Go.WideShapes Go.Deep Go.RowKit Go.Shelf
attribute [local go_sem] Oper.semAt_some
def enZ (k:Int):List Value:=[.int .i64 k]
theorem enZ_len (k:Int):(enZ k).length=1:=rfl
theorem size_any (ua:Option Addr) (un uc:Nat) (w:World):Calls Tryz.prog 253 #[.slice ua un uc] w (Ret (.int .i64 (un:Int)) w):=by
 go_enter Tryz.func253,Tryz.ntmps253
 go_wp2
 go_ret
 exact ⟨rfl,rfl⟩
theorem needs_any (ua:Option Addr) (un uc:Nat) (at':Nat) (w:World):Calls Tryz.prog 252 #[.slice ua un uc,.int .i64 (at':Int)] w (fun e w'=>e=.returned (.func (.func 254) #[] #[.pointer (some ⟨w.heap.size,0,none⟩),.pointer (some ⟨w.heap.size+1,0,none⟩)])/\
  w'=(w.alloc (.cells #[.slice ua un uc] 143)).alloc (.cells #[.int .i64 (at':Int)] 3)):=by
 go_enter Tryz.func252,Tryz.ntmps252
 go_wp2
 go_ret
 exact ⟨rfl,rfl⟩
abbrev gW0 (w:World) (un:Nat):World:=(((w.alloc (.cells (blA (List.replicate un false)) 4)).alloc (.cells #[.slice (some ⟨w.heap.size,0,none⟩) un un] 110)).alloc (.cells #[.slice none 0 0] 169)).alloc (.cells #[.func (.func 108) #[] #[.pointer (some ⟨w.heap.size+1,0,none⟩),.pointer (some ⟨w.heap.size+2,0,none⟩)]] 78)
theorem GS.mk0 (w:World) (un:Nat):GS w (gW0 w un) w.heap.size (List.replicate un false,[]) none 0:=by
 have s1:(w.alloc (.cells (blA (List.replicate un false)) 4)).heap.size=w.heap.size+1:=World.size_alloc _ _
 have s2:((w.alloc (.cells (blA (List.replicate un false)) 4)).alloc (.cells #[.slice (some ⟨w.heap.size,0,none⟩) un un] 110)).heap.size=w.heap.size+2:=by rw [World.size_alloc,s1]
 have s3:(((w.alloc (.cells (blA (List.replicate un false)) 4)).alloc (.cells #[.slice (some ⟨w.heap.size,0,none⟩) un un] 110)).alloc (.cells #[.slice none 0 0] 169)).heap.size=w.heap.size+3:=by rw [World.size_alloc,s2]
 refine ⟨?_,?_,?_,?_,World.ownsRow_nil _ _ _ _,(((((Below.refl _ w).alloc (Nat.le_refl _) _).alloc (by rw [s1];omega) _).alloc (by rw [s2];omega) _).alloc (by rw [s3];omega) _),rfl⟩
 ·unfold RB
  rw [Below.heap_alloc _ _ _ (by rw [s3];omega),Below.heap_alloc _ _ _ (by rw [s2];omega),Below.heap_alloc _ _ _ (by rw [s1];omega)];exact (MapKept.heap_alloc _ _).1
 ·simp only [List.length_replicate]
  unfold RB
  rw [Below.heap_alloc _ _ _ (by rw [s3];omega),Below.heap_alloc _ _ _ (by rw [s2];omega),<-s1];exact (MapKept.heap_alloc _ _).1
 ·unfold RB
  rw [Below.heap_alloc _ _ _ (by rw [s3];omega),<-s2];exact (MapKept.heap_alloc _ _).1
 ·unfold RB
  rw [<-s3];exact (MapKept.heap_alloc _ _).1
theorem info_boolG:(Tryz.prog.info? 4).map (fun i=>(i.zero,i.size,i.bytes))=some (some (.bool false),1,1):=by kernel_rfl
theorem make_bools (n:Nat) (hn:n<=1000000) (w:World):(Instr.makeSlice 110 (.int .i64 (n:Int)) (.int .i64 (n:Int))).run Tryz.prog w=.ok (.slice (some ⟨w.heap.size,0,none⟩) n n) (w.alloc (.cells (blA (List.replicate n false)) 4)):=by
 obtain ⟨i0,hi0,hz0,hz1,hz2⟩:=info_parts info_boolG
 have:=run_makeSlice (P:=Tryz.prog) w 110 4 i0 (.bool false) Tryz.underlying110 hi0 hz0 .i64 .i64 n n (by omega) (by omega) (by rw [hz1];omega) (by rw [hz2];omega) (by omega)
 rw [hz1] at this
 simp only [Int.toNat_natCast,Nat.mul_one] at this
 rw [this,show madeCells (Value.bool false).cells n=blA (List.replicate n false) from by
  apply Array.ext
  ·rw [size_madeCells];simp
  ·intro i h1 h2
   have:i % 1=0:=Nat.mod_one i
   simp [madeCells,blA,Value.cells,this]]
def b2n (b:Bool):Nat:=if b then 1 else 0
def TakeS (w:World) (B:Nat) (ins:List Bool) (wt:List Nat) (va:Option Addr) (vc:Nat) (u:World) (e:Ending) (u':World):Prop:=
 ∃ (r:Nat) (b:Bool) (wt':List Nat),e=.returned (.tuple #[.int .i64 (r:Int),.bool b])/\GS w u' B (ins,wt') va vc/\KP (B+2) u u'/\((b=true/\wt=wt' ++ [r])\/(b=false/\wt=[]/\wt'=[]))
theorem gtake_any {w u:World} {B:Nat} {ins:List Bool} {wt:List Nat} {va:Option Addr} {vc:Nat} (h:GS w u B (ins,wt) va vc) (hl:wt.length<=1000000):
  Calls Tryz.prog 110 #[.pointer (some ⟨B+2,0,none⟩)] u (TakeS w B ins wt va vc u):=by
 rcases List.eq_nil_or_concat wt with rfl | ⟨t,a,rfl⟩
 ·exact (gtake_no h).mono fun e u' h1=>⟨0,false,[],h1.1,h1.2.1,h1.2.2,.inr ⟨rfl,rfl,rfl⟩⟩
 ·rw [List.concat_eq_append] at h hl ⊢
  exact (gtake_yes h (by simp at hl;omega)).mono fun e u' h1=>⟨a,true,t,h1.1,h1.2.1,h1.2.2,.inl ⟨rfl,rfl⟩⟩
def CI (Ls:List Sc) (R:List Int) (r:Nat) (b:Bool) (x:List Bool × List Nat):Prop:=
 (b=true/\DI Ls R x (some (r,0))/\Rch Ls R r/\r < Ls.length)\/(b=false/\x.2=[]/\DI Ls R x none)
theorem ci_of {Ls:List Sc} {R:List Int} {ins:List Bool} {wt wt':List Nat} {r:Nat} {b:Bool} (h:DI Ls R (ins,wt) none) (ht:(b=true/\wt=wt' ++ [r])\/(b=false/\wt=[]/\wt'=[])):CI Ls R r b (ins,wt')/\mass (ins,wt')+b2n b=mass (ins,wt):=by
 rcases ht with ⟨rfl,rfl⟩ | ⟨rfl,rfl,rfl⟩
 ·obtain ⟨h1,h2,h3,h4⟩:=h.pop
  exact ⟨.inl ⟨rfl,h1,h2,h3⟩,by unfold b2n;simpa using h4⟩
 ·exact ⟨.inr ⟨rfl,rfl,h⟩,rfl⟩
abbrev markD (D:Nat):Deferred:={ target:=.collected D,args:=#[] }
def MK (B:Nat) (ds:List Nat) (u:World):Prop:=ds.Nodup/\∀ D ∈ ds,B+4<=D/\u.heap[D]?=some (.deferred (some []))
def massW (B:Nat) (u:World):Nat:=
 2*(match u.heap[B]? with | some (.cells cs _ _)=>cs.toList.countP (fun v=>match v with | .bool false=>true | _=>false) | _=>0)+
 (match u.heap[B+2]? with | some (.cells cs _ _)=>(match cs[0]? with | some (Value.slice _ n _)=>n | _=>0) | _=>0)
theorem massW_eq {w u:World} {B:Nat} {x:List Bool × List Nat} {va:Option Addr} {vc:Nat} (h:GS w u B x va vc):massW B u=mass x:=by
 unfold massW mass
 rw [show u.heap[B]?=_ from h.gg,show u.heap[B+2]?=_ from h.qq]
 simp only [blA,List.countP_map]
 congr 1
 congr 1
 rw [List.count]
 congr 1
 funext b
 cases b <;> rfl
theorem DI.close {L:List Sc} {roots:List Int} {x:List Bool × List Nat} {a:Nat} {s:Sc} (h:DI L roots x (some (a,0))) (hs:L[a]?=some s) (hall:∀ r ∈ s.rels,x.1[r.sym.toNat]?=some true):DI L roots x none:=by
 refine ⟨h.len,h.snd,h.wt,?_⟩
 intro i s' hi hw hs' j r hj _
 by_cases e:i=a
 ·subst e
  rw [hs] at hs';cases hs'
  exact hall r (List.mem_of_getElem? hj)
 ·exact h.cls i s' hi hw hs' j r hj (fun c m e2=>by
   simp only [Option.some.injEq,Prod.mk.injEq] at e2
   left;rw [<-e2.1];exact e)
theorem GS.grown {w u u':World} {B:Nat} {x:List Bool × List Nat} {va:Option Addr} {vc:Nat} {row:Option Nat} (h:GS w u B x va vc) (hg:u.grownBy u' row) (hr:∀ r,row=some r->B<=r/\∃ o:Obj,u.heap[r]?=some o/\o.isCells=false):GS w u' B x va vc:=by
 have key:∀ {j:Nat} {cs:Array Value} {T:TypeId},RB u j cs T->RB u' j cs T:=fun {j cs T} hj=>(hg.block j (lt_of_block hj) (fun e=>by
  obtain ⟨-,o,ho,hc⟩:=hr j e.symm
  rw [show u.heap[j]?=_ from hj] at ho
  cases ho;cases hc)).trans hj
 refine ⟨key h.gg,key h.ii,key h.qq,key h.ff,h.ow.kept hg ?_,h.kk.grown hg h.kk.size (fun r e=>by rw [<-h.ee];exact (hr r e).1),h.ee⟩
 rcases h.ow.2 with ⟨hv,-⟩ | ⟨g,cap,cur,hv,hb,hgg,-⟩
 ·left;rw [hv];rfl
 ·right;rw [hv]
  intro e
  obtain ⟨-,o,ho,hc⟩:=hr g e.symm
  rw [hgg] at ho;cases ho;cases hc
theorem GF.others {w u u':World} {B:Nat} {x:List Bool × List Nat} {va:Option Addr} {vc:Nat} (h:GS w u B x va vc) (hf:GF B va vc x.2.length u u'):KeepsOthers u u':=by
 refine ⟨hf.size,fun j o hj hc=>(hf.block j (Array.getElem?_eq_some_iff.1 hj).1 ?_ ?_ ?_).trans hj⟩
 ·intro e;subst e;rw [show u.heap[j]?=_ from h.gg] at hj;cases hj;cases hc
 ·intro e;subst e;rw [show u.heap[B+2]?=_ from h.qq] at hj;cases hj;cases hc
 ·intro e
  rcases h.ow.2 with ⟨hv,-⟩ | ⟨g,cap,cur,hv,hb,hgg,-⟩
  ·rw [hv] at e;cases e
  ·rw [hv] at e
   simp only [Value.ownBlock,Option.some.injEq] at e
   subst e
   rw [hgg] at hj;cases hj;cases hc
theorem GF.kpU {w u u':World} {B bu ba:Nat} {x:List Bool × List Nat} {va:Option Addr} {vc:Nat} (h:GS w u B x va vc) (hf:GF B va vc x.2.length u u') (h1:B+4<=bu) (h2:B+4<=ba) (h3:(Value.slice va x.2.length vc).ownBlock ≠ some bu) (h4:(Value.slice va x.2.length vc).ownBlock ≠ some ba):KpU B bu ba u u':=by
 refine ⟨⟨hf.os,hf.tape,hf.output,hf.size,fun j hj=>hf.block j (by have:=h.lt;omega) (by omega) (by omega) (fun e=>by have:=(h.ow.lt j e).1;omega)⟩,fun j o hj ho hc=>?_⟩
 have hl:=lt_of_block ho
 rcases hj with rfl | rfl
 ·exact (hf.block j hl (by omega) (by omega) h3).trans ho
 ·exact (hf.block j hl (by omega) (by omega) h4).trans ho
def Apart (bu ba:Nat) (va:Option Addr):Prop:=∀ g o s,va=some ⟨g,o,s⟩->g ≠ bu/\g ≠ ba
theorem Apart.own {bu ba n vc:Nat} {va:Option Addr} (h:Apart bu ba va):(Value.slice va n vc).ownBlock ≠ some bu/\(Value.slice va n vc).ownBlock ≠ some ba:=by
 cases va with
 | none=>exact ⟨by simp [Value.ownBlock],by simp [Value.ownBlock]⟩
 | some p=>
  obtain ⟨g,o,s⟩:=p
  obtain ⟨h1,h2⟩:=h g o s rfl
  exact ⟨by simp [Value.ownBlock];exact h1,by simp [Value.ownBlock];exact h2⟩
theorem Apart.lie {bu ba:Nat} {u:World} {va va':Option Addr} (h:Apart bu ba va) (hl:Lie u va va') (h1:bu < u.heap.size) (h2:ba < u.heap.size):Apart bu ba va':=by
 rcases hl with rfl | ⟨g,rfl,hg⟩
 ·exact h
 ·intro g' o s e
  cases e
  exact ⟨by omega,by omega⟩
structure IR (w:World) (B bu ba H:Nat) (Ls:List Sc) (R:List Int) (rr:Nat) (ua:Option Addr) (un uc:Nat) (L:List Ms) (sc:Sc) (M:Nat) (ds:List Nat) (pre:List {r:Rl // r ∈ sc.rels}) (W:World) (ins:List Bool) (wt:List Nat) (va:Option Addr) (vc:Nat):Prop where
 gs:GS w W B (ins,wt) va vc
 di:DI Ls R (ins,wt) (some (rr,0))
 pr:∀ r ∈ pre,ins[r.1.sym.toNat]?=some true
 ri:∀ k:Nat,(k:Int) ∈ R->ins[k]?=some true
 ms:mass (ins,wt)<=M
 uf:UF B bu ba ua un uc L rr W
 ap:Apart bu ba va
 mk2:MK B ds W
 dl:∀ D ∈ ds,D < H
 hl:H<=W.heap.size
theorem IR.grown {w W W':World} {B bu ba H:Nat} {Ls:List Sc} {R:List Int} {rr:Nat} {ua:Option Addr} {un uc:Nat} {L:List Ms} {sc:Sc} {M:Nat} {ds:List Nat} {pre:List {r:Rl // r ∈ sc.rels}} {ins:List Bool} {wt:List Nat} {va:Option Addr} {vc:Nat} {row:Option Nat} (h:IR w B bu ba H Ls R rr ua un uc L sc M ds pre W ins wt va vc) (hB:B<=H)
  (hg:W.grownBy W' row) (hr:∀ r,row=some r->H<=r/\∃ o:Obj,W.heap[r]?=some o/\o.isCells=false):IR w B bu ba H Ls R rr ua un uc L sc M ds pre W' ins wt va vc:=by
 refine ⟨h.gs.grown hg (fun r e=>⟨Nat.le_trans hB (hr r e).1,(hr r e).2⟩),h.di,h.pr,h.ri,h.ms,h.uf.kp ⟨(Below.refl B W).grown hg h.uf.n0 (fun r e=>Nat.le_trans hB (hr r e).1),fun j o hj ho hc=>(hg.block j (lt_of_block ho) (fun e=>?_)).trans ho⟩,h.ap,⟨h.mk2.1,fun D hD=>⟨(h.mk2.2 D hD).1,(hg.block D (lt_of_block (h.mk2.2 D hD).2) (fun e=>?_)).trans (h.mk2.2 D hD).2⟩⟩,h.dl,Nat.le_trans h.hl hg.size⟩
 ·obtain ⟨-,q,hq,hqc⟩:=hr j e.symm
  rw [ho] at hq;cases hq;rw [hc] at hqc;cases hqc
 ·have:=(hr D e.symm).1
  have:=h.dl D hD
  omega
theorem leaves_marks {fn:Func} {tmps:Array Value} {R:Ending->World->Prop} {B:Nat} {K:World->Prop} (hK:∀ u D,K u->B+4<=D->u.heap[D]?=some (.deferred (some []))->K (u.putObj D (.deferred none))) (hR:∀ u,K u->LeavesInM Fence.wide 4 Tryz.prog fn tmps R [] .returning u):
  ∀ (ds:List Nat) (u:World),K u->MK B ds u->LeavesInM Fence.wide 4 Tryz.prog fn tmps R (ds.map markD) .returning u
 | [],u,h,_=>hR u h
 | D :: ds,u,h,hm=>by
  have hD:=hm.2 D (List.mem_cons_self ..)
  refine ⟨by simp,.inl ⟨D,_,rfl,run_takeDeferred hD.2,?_⟩⟩
  refine leaves_marks hK hR ds _ (hK u D h hD.1 hD.2) ⟨(List.nodup_cons.1 hm.1).2,fun E hE=>⟨(hm.2 E (List.mem_cons_of_mem _ hE)).1,?_⟩⟩
  have hne:E ≠ D:=fun e=>(List.nodup_cons.1 hm.1).1 (e ▸ hE)
  exact (World.putObj_heap_other hne).trans (hm.2 E (List.mem_cons_of_mem _ hE)).2
def ReachP (w:World) (bs:List Bool) (e:Ending) (w':World):Prop:=∃ g,e=.returned (.slice (some ⟨g,0,none⟩) bs.length bs.length)/\RB w' g (blA bs) 4/\w.heap.size<=g/\Below w.heap.size w w'
theorem reached_any (w:World) (ua:Option Addr) (un uc:Nat) (L:List Ms) (ra:Option Addr) (rn rc:Nat) (R:List Int) (hu:SL msC 6 w w.heap.size ua un L) (hno:Notes w w.heap.size L) (hr:SL enZ 1 w w.heap.size ra rn R) (hok:unitsR (L.map (·.sc))=true) (hro:∀ k ∈ R,0<=k/\k < (un:Int)) (hrn:rn<=1000000):
  Calls Tryz.prog 88 #[.iface 143 (.slice ua un uc),.slice ra rn rc] w (ReachP w (reachB (L.map (·.sc)) R)):=by
 have hun:un<=256:=by have:=units_len hok;rw [List.length_map] at this;rw [hu.len];exact this
 have hmk:=make_bools un (by omega)
 refine (callsIn_wide (n:=4)).1 ?_
 refine callsIn_of_wp_marks Tryz.func88 rfl trivial ?_ rfl
 simp only [Tryz.ntmps88,List.size_toArray,List.length_cons,List.length_nil,Nat.reduceAdd,Nat.reduceSub,Array.replicate_succ,Array.replicate_zero,List.push_toArray,List.append_toArray,List.nil_append,List.cons_append]
 have HSz:=Lib.hid (fun u=>size_any ua un uc u)
 have hM1:∀ w,(method 392 143 (.slice ua un uc) "cleat/graph.size").run Tryz.prog w=.ok (253,.slice ua un uc) w:=fun w=>by kernel_rfl
 have hM2:∀ w,(method 392 143 (.slice ua un uc) "cleat/graph.needs").run Tryz.prog w=.ok (252,.slice ua un uc) w:=fun w=>by kernel_rfl
 have hmf:∀ (fn:Fn) (first cap:Array Value) (w:World),(Instr.makeFunc fn first cap).run Tryz.prog w=.ok (.func fn first cap) w:=fun _ _ _ _=>rfl
 gi_wp2_with (refine ⟨trivial,?_⟩;gi_at_call 253;refine (callsIn_wide.2 (HSz.out _)).mono ?_;rintro e w' ⟨rfl,rfl⟩)
 obtain ⟨B,hB⟩:∃ B,B=w.heap.size:=⟨_,rfl⟩
 have HBE:=Lib.hid hB
 have h0:=Lib.hid (GS.mk0 w un)
 have HSr:=Lib.hid hr
 have HRo:=Lib.hid hro
 have HUs:=Lib.hid hu
 have HNo:=Lib.hid hno
 have HOk:=Lib.hid hok
 have HLL:Hid ((L.map (·.sc)).length=un):=Lib.hid (by rw [List.length_map];exact hu.len.symm)
 have HUn:=Lib.hid hun
 have hrni:(rn:Int)<=1000000:=by omega
 unfold gW0 at h0
 rw [<-hB] at h0 ⊢
 clear hB hr hro hu hno hok hun hrn hmk HSz hM1
 rw [show B+1+1+1=B+3 from rfl,show B+1+1=B+2 from rfl]
 generalize ((((w.alloc (.cells (blA (List.replicate un false)) 4)).alloc (.cells #[.slice (some ⟨B,0,none⟩) un un] 110)).alloc (.cells #[.slice none 0 0] 169)).alloc (.cells #[.func (.func 108) #[] #[.pointer (some ⟨B+1,0,none⟩),.pointer (some ⟨B+2,0,none⟩)]] 78))=W0 at h0 ⊢
 gi_loopw [19] (fun i wr=>∃ (j:Nat) (ins:List Bool) (wt:List Nat) (va:Option Addr) (vc:Nat),j<=rn/\i=.int .i64 j/\Hid (GS w wr B (ins,wt) va vc)/\Hid (DI (L.map (·.sc)) R (ins,wt) none)/\Hid (∀ k:Nat,(k:Int) ∈ R.take j->ins[k]?=some true)/\Hid (mass (ins,wt)<=2*un)) (fun i _=>rn - (intOf i).toNat)
 case atStart=>
  refine ⟨0,List.replicate un false,[],none,0,by omega,rfl,h0,Lib.hid (by have:=DI.start (L.map (·.sc)) R;rw [HLL.out] at this;exact this),Lib.hid (by simp),Lib.hid (by unfold mass;simp)⟩
 case round=>
  clear h0
  obtain ⟨j,ins,wt,va,vc,hj,rfl,HS,HD,HI,HM⟩:=hrel
  by_cases hlt:j < rn
  ·have hlti:(j:Int) < (rn:Int):=by omega
   have HLT:=Lib.hid hlt
   have hsl:=HSr.out.below HS.out.kk
   have hjR:j < R.length:=by have:=hsl.len;omega
   obtain ⟨b,off,hra,hBl,hc⟩:=hsl.cells (hsl.ne hlt)
   subst hra
   have d0:=hc j hjR 0 (by omega)
   have hmem:R[j] ∈ R:=List.getElem_mem _
   obtain ⟨k,hk⟩:∃ k:Nat,R[j]=(k:Int):=⟨R[j].toNat,by have:=(HRo.out _ hmem).1;omega⟩
   rw [hk] at d0 hmem
   simp only [enZ,Nat.add_zero,Nat.mul_one,List.getElem?_cons_zero] at d0
   have hkl:k < un:=by have:=(HRo.out _ hmem).2;omega
   have hkL:k < (L.map (·.sc)).length:=by rw [HLL.out];exact hkl
   have HTk:Hid (R.take (j+1)=R.take j ++ [(k:Int)]):=Lib.hid (by rw [List.take_add_one,List.getElem?_eq_getElem hjR,hk];rfl)
   have HDn:=Lib.hid (HD.out.come hkL (.root hmem))
   have HIn:Hid ((comeS k (ins,wt)).1[k]?=some true):=Lib.hid (come_in (by have:=HD.out.len;rw [this];exact hkL))
   have HCome:=Lib.hid (come_any k (by have q1:ins.length=(L.map (·.sc)).length:=HD.out.len;rw [q1];exact hkL) HS.out (by have q1:2*ins.count false+wt.length<=2*un:=HM.out;have q2:=HUn.out;omega) (by have q1:ins.length=(L.map (·.sc)).length:=HD.out.len;have q2:=HUn.out;rw [q1,HLL.out];omega))
   have e0:wr.cell? ⟨B+3,0,none⟩=some (.func (.func 108) #[] #[.pointer (some ⟨B+1,0,none⟩),.pointer (some ⟨B+2,0,none⟩)]):=HS.out.ff.cell
   clear hsl hjR hc hmem hk hkl hkL hBl hlt hj
   gi_wp2_with (refine ⟨trivial,?_⟩;gi_at_call 108;refine (callsIn_wide.2 HCome.out).mono ?_;rintro e w' ⟨va',vc',rfl,hgs,hgf,hlie⟩)
   have HS2:=Lib.hid hgs
   clear hgs hgf hlie d0 e0
   go_roundw
   case rel=>
    refine ⟨j+1,(comeS k (ins,wt)).1,(comeS k (ins,wt)).2,va',vc',by have:=HLT.out;omega,by go_num,HS2,HDn,Lib.hid (fun q hq=>?_),Lib.hid (Nat.le_trans come_mass HM.out)⟩
    rw [HTk.out,List.mem_append] at hq
    rcases hq with hq | hq
    ·exact come_mono (HI.out q hq)
    ·have:q=k:=by have:=List.mem_singleton.1 hq;omega
     rw [this];exact HIn.out
   case measure=>have:=HLT.out;simp [intOf];omega
  ·have hnlt:¬ (j:Int) < (rn:Int):=by omega
   have hRt:R.take j=R:=List.take_of_length_le (by have:=HSr.out.len;omega)
   have HRI:Hid (∀ k:Nat,(k:Int) ∈ R->ins[k]?=some true):=Lib.hid (by have:=HI.out;rw [hRt] at this;exact this)
   have HTake:=Lib.hid (gtake_any HS.out (by have q1:2*ins.count false+wt.length<=2*un:=HM.out;have q2:=HUn.out;omega))
   clear hRt HI hlt hj
   gi_wp2_with (refine ⟨trivial,?_⟩;gi_at_call 110;refine (callsIn_wide.2 HTake.out).mono ?_;rintro e w' ⟨r,bb,wt',rfl,hgs,hkp,hor⟩)
   have HS2:=Lib.hid hgs
   obtain ⟨hci,hms⟩:=ci_of HD.out hor
   have HC2:=Lib.hid hci
   have HM2:Hid (mass (ins,wt')+b2n bb<=2*un):=Lib.hid (by rw [hms];exact HM.out)
   clear hgs hkp hor hci hms HS HD HM HTake
   refine wpIn_loop (fun a w'=>∃ (r':Nat) (b':Bool) (ins:List Bool) (wt:List Nat) (va:Option Addr) (vc:Nat) (ds:List Nat) (x12 x31 x32 x33 x34 x35 x36 x37 x38 x39 x40 x41 x42:Value),a={ tmps:=#[.iface 143 (.slice ua un uc),.slice ra rn rc,undef,undef,.slice none 0 0,.pointer (some ⟨B+1,0,none⟩),.pointer (some ⟨B+2,0,none⟩),.pointer (some ⟨B+3,0,none⟩),undef,u9,(.int .i64 (r':Int)),.bool b',x12,.iface 143 (.slice ua un uc),.int .i64 (un:Int),.slice (some ⟨B,0,none⟩) un un,.func (.func 108) #[] #[.pointer (some ⟨B+1,0,none⟩),.pointer (some ⟨B+2,0,none⟩)],.slice ra rn rc,.int .i64 (rn:Int),.int .i64 (j:Int),.bool false,u21,u22,u23,u24,u25,u26,.tuple #[.int .i64 (r:Int),.bool bb],.tuple #[.int .i64 (r:Int),.bool bb],.int .i64 (r:Int),.bool bb,x31,x32,x33,x34,x35,x36,x37,x38,x39,x40,x41,x42,undef],defers:=ds.map markD }/\Hid (GS w w' B (ins,wt) va vc)/\Hid (CI (L.map (·.sc)) R r' b' (ins,wt))/\Hid (∀ k:Nat,(k:Int) ∈ R->ins[k]?=some true)/\Hid (mass (ins,wt)+b2n b'<=2*un)/\Hid (MK B ds w')) (fun a w'=>massW B w'+(match a.tmps.getD 11 undef with | .bool true=>1 | _=>0)) ?start ?round
   case start=>exact ⟨r,bb,ins,wt',va,vc,[],undef,undef,undef,undef,undef,undef,undef,undef,undef,undef,undef,undef,undef,rfl,HS2,HC2,HRI,HM2,Lib.hid ⟨List.nodup_nil,by simp⟩⟩
   case round=>
    clear HS2 HC2 HRI HM2
    rintro a1 w1 ⟨r',b',ins,wt,va,vc,ds,x12,x31,x32,x33,x34,x35,x36,x37,x38,x39,x40,x41,x42,rfl,HS,HC,HRI,HM,HMk⟩
    cases b'
    ·have HF:Hid (ins=reachB (L.map (·.sc)) R):=Lib.hid (by
      rcases HC.out with ⟨h,-⟩ | ⟨-,h1,h2⟩
      ·cases h
      ·simp only at h1
       subst h1
       exact h2.fin HOk.out HRI.out)
     have i0:w1.cell? ⟨B+1,0,none⟩=some (.slice (some ⟨B,0,none⟩) ins.length ins.length):=HS.out.ii.cell
     gi_wp2
     refine leaves_marks (B:=B) (K:=fun u=>GS w u B (ins,wt) va vc) (fun u D hu hD hD2=>hu.grown (grownBy_putObj' u D _) (fun r e=>by cases e;exact ⟨by omega,_,hD2,rfl⟩)) (fun u hu=>?_) ds _ HS.out HMk.out
     refine ⟨_,results_tmp rfl _ _ _,B,by rw [<-HF.out];rfl,?_,by rw [HBE.out];exact Nat.le_refl _,hu.kk⟩
     rw [<-HF.out];exact hu.gg
    ·have HC1:Hid (DI (L.map (·.sc)) R (ins,wt) (some (r',0))/\Rch (L.map (·.sc)) R r'/\r' < (L.map (·.sc)).length):=Lib.hid (by
      rcases HC.out with ⟨-,h⟩ | ⟨h,-⟩
      ·exact h
      ·cases h)
     have hrL:r' < L.length:=by have:=HC1.out.2.2;rwa [List.length_map] at this
     obtain ⟨⟨sc,ad,cap⟩,hmm⟩:∃ m,L[r']?=some m:=⟨_,List.getElem?_eq_getElem hrL⟩
     have HMm:=Lib.hid hmm
     have HNd:=Lib.hid (fun u=>needs_any ua un uc r' u)
     obtain ⟨bu,hbu⟩:∃ bu,bu=w1.heap.size:=⟨_,rfl⟩
     have HBu:=Lib.hid hbu
     have HS2:Hid (GS w ((w1.alloc (.cells #[.slice ua un uc] 143)).alloc (.cells #[.int .i64 (r':Int)] 3)) B (ins,wt) va vc):=Lib.hid ((HS.out.grown (World.grownBy_alloc w1 _ none) (fun r e=>by cases e)).grown (World.grownBy_alloc _ _ none) (fun r e=>by cases e))
     have HSz:Hid (((w1.alloc (.cells #[.slice ua un uc] 143)).alloc (.cells #[.int .i64 (r':Int)] 3)).heap.size=bu+2):=Lib.hid (by rw [World.size_alloc,World.size_alloc,hbu])
     have HBx:Hid (RB ((w1.alloc (.cells #[.slice ua un uc] 143)).alloc (.cells #[.int .i64 (r':Int)] 3)) bu #[.slice ua un uc] 143/\RB ((w1.alloc (.cells #[.slice ua un uc] 143)).alloc (.cells #[.int .i64 (r':Int)] 3)) (bu+1) #[.int .i64 (r':Int)] 3):=Lib.hid (by
      have:=two_rb (w:=w1) (A:=#[.slice ua un uc]) (B:=#[.int .i64 (r':Int)]) (T:=143) (U:=3)
      rw [<-hbu] at this
      exact ⟨this.1,this.2.1⟩)
     have HMk2:Hid (MK B ds ((w1.alloc (.cells #[.slice ua un uc] 143)).alloc (.cells #[.int .i64 (r':Int)] 3))/\∀ D ∈ ds,D < bu+2):=Lib.hid ⟨⟨HMk.out.1,fun D hD=>⟨(HMk.out.2 D hD).1,by
      have hl:=lt_of_block (HMk.out.2 D hD).2
      rw [Below.heap_alloc _ _ _ (by rw [World.size_alloc];omega),Below.heap_alloc _ _ _ hl]
      exact (HMk.out.2 D hD).2⟩⟩,fun D hD=>by have:=lt_of_block (HMk.out.2 D hD).2;omega⟩
     have HAp:Hid (Apart bu (bu+1) va):=Lib.hid (fun g o s e=>by
      have:=(HS.out.ow.lt g (by rw [e];rfl)).2
      omega)
     clear hrL hmm
     gi_wp2_with (refine ⟨trivial,?_⟩;gi_at_call 252;refine (callsIn_wide.2 (HNd.out _)).mono ?_;rintro e w' ⟨rfl,rfl⟩)
     rw [<-hbu]
     clear hbu
     generalize ((w1.alloc (.cells #[.slice ua un uc] 143)).alloc (.cells #[.int .i64 (r':Int)] 3))=W2 at HS2 HSz HBx HMk2 ⊢
     have hsm:(L.map (·.sc))[r']?=some sc:=by rw [List.getElem?_map,HMm.out];rfl
     have HSc:=Lib.hid (units_sec HOk.out hsm)
     have HSm:=Lib.hid hsm
     have hBu4:B+4<=bu:=by rw [HBu.out];exact HS.out.lt
     have HB4:=Lib.hid hBu4
     clear hsm
     have HIR:Hid (IR w B bu (bu+1) (bu+2) (L.map (·.sc)) R r' ua un uc L sc (mass (ins,wt)) ds [] W2 ins wt va vc):=Lib.hid ⟨HS2.out,HC1.out.1,by simp,HRI.out,Nat.le_refl _,⟨by have:=HUs.out.below HS2.out.kk;rw [<-HBE.out] at this;exact this,fun m hm=>by have:=(HNo.out m hm).below HS2.out.kk;rw [<-HBE.out] at this;exact this,HBx.out.1,HBx.out.2,by have:=HS2.out.lt;omega⟩,HAp.out,HMk2.out.1,HMk2.out.2,by rw [HSz.out];exact Nat.le_refl _⟩
     refine wpIn_rangeFunc_ownF rfl (by omega) (gf:=254) (lb:=#[.pointer (some ⟨bu,0,none⟩),.pointer (some ⟨bu+1,0,none⟩)]) rfl trivial (enters_of Tryz.func254 (by kernel_rfl) rfl)
      (needs1_in Fence.wide _ trivial rfl (by omega) B bu (bu+1) ua un uc L r' sc ad cap HMm.out (by have:=HSc.out.1.rels;omega) (by have:=HUn.out;omega) W2 HIR.out.uf) kpU_t (kpU_b HIR.out.uf.n0) (Below.refl _ _) (fun _=>rfl)
      (fun pre W=>∃ ins' wt' va' vc',IR w B bu (bu+1) (bu+2) (L.map (·.sc)) R r' ua un uc L sc (mass (ins,wt)) ds pre W ins' wt' va' vc') (fun _ _ _=>False) ?own ?ownx ⟨ins,wt,va,vc,HIR.out⟩
      (fun x=>{ tmps:=#[.iface 143 (.slice ua un uc),.slice ra rn rc,undef,undef,.slice none 0 0,.pointer (some ⟨B+1,0,none⟩),.pointer (some ⟨B+2,0,none⟩),.pointer (some ⟨B+3,0,none⟩),undef,u9,(.int .i64 (r':Int)),.bool true,.int .i64 x.1.sym,.iface 143 (.slice ua un uc),.int .i64 (un:Int),.slice (some ⟨B,0,none⟩) un un,.func (.func 108) #[] #[.pointer (some ⟨B+1,0,none⟩),.pointer (some ⟨B+2,0,none⟩)],.slice ra rn rc,.int .i64 (rn:Int),.int .i64 (j:Int),.bool false,u21,u22,u23,u24,u25,u26,.tuple #[.int .i64 (r:Int),.bool bb],.tuple #[.int .i64 (r:Int),.bool bb],.int .i64 (r:Int),.bool bb,.bool true,x32,x33,x34,x35,.iface 143 (.slice ua un uc),(.int .i64 (r':Int)),.func (.func 254) #[] #[.pointer (some ⟨bu,0,none⟩),.pointer (some ⟨bu+1,0,none⟩)],.int .i64 x.1.sym,x40,x41,x42,undef],defers:=[] }) ?assign ?body ?done ?stop
     case own=>
      rintro pre W W' row ⟨ins',wt',va',vc',h⟩ hg hr
      exact ⟨ins',wt',va',vc',h.grown (by omega) hg (fun r e=>⟨by have:=(hr r e).1;rw [HSz.out] at this;exact this,(hr r e).2⟩)⟩
     case ownx=>
      intro c s A B' row h
      exact h.elim
     case assign=>
      intro l x W K hK
      gi_wp2
      exact hK
     case body=>
      rintro l pre ⟨y,hy⟩ W ⟨ins',wt',va',vc',hIR⟩ hlen
      obtain ⟨hs1,hs2⟩:=HSc.out.2 y hy
      obtain ⟨k,hk⟩:∃ k:Nat,y.sym=(k:Int):=⟨y.sym.toNat,by omega⟩
      have hkl:k < (L.map (·.sc)).length:=by omega
      have HKl:=Lib.hid hkl
      have HI2:=Lib.hid hIR
      have q0:ins'.length=(L.map (·.sc)).length:=hIR.di.len
      have q1:2*ins'.count false+wt'.length<=mass (ins,wt):=hIR.ms
      have q2:mass (ins,wt)<=2*un:=by have:=HM.out;unfold b2n at this;omega
      have q3:=HUn.out
      have HQ0:=Lib.hid q0
      have HCome:=Lib.hid (CallsIn.inRound (n:=1) l (callsIn_wide.2 (come_any k (by rw [q0];exact hkl) hIR.gs (by omega) (by rw [q0,HLL.out];omega))))
      have e0:W.cell? ⟨B+3,0,none⟩=some (.func (.func 108) #[] #[.pointer (some ⟨B+1,0,none⟩),.pointer (some ⟨B+2,0,none⟩)]):=hIR.gs.ff.cell
      have HY:Hid (y.sym=(k:Int)):=Lib.hid hk
      have HYm:=Lib.hid hy
      simp only [hk]
      clear hIR hlen hs1 hs2 hk hkl q0 q1 q2 q3
      gi_wp2_with (refine ⟨trivial,?_⟩;gi_at_call 108;refine HCome.out.mono ?_;rintro e W3 ⟨va2,vc2,rfl,hgs,hgf,hlie⟩)
      have hko:=GF.others HI2.out.gs hgf
      have hku:=GF.kpU HI2.out.gs hgf (bu:=bu) (ba:=bu+1) HB4.out (by have:=HB4.out;omega) HI2.out.ap.own.1 HI2.out.ap.own.2
      refine ⟨hko,hku,(comeS k (ins',wt')).1,(comeS k (ins',wt')).2,va2,vc2,hgs,HI2.out.di.come HKl.out (.step HC1.out.2.1 HSm.out HYm.out HY.out),fun r hr=>?_,fun q hq=>come_mono (HI2.out.ri q hq),Nat.le_trans come_mass HI2.out.ms,HI2.out.uf.kp hku,HI2.out.ap.lie hlie (by have:=HI2.out.hl;omega) (by have:=HI2.out.hl;omega),⟨HI2.out.mk2.1,fun D hD=>⟨(HI2.out.mk2.2 D hD).1,hko.same D _ (HI2.out.mk2.2 D hD).2 rfl⟩⟩,HI2.out.dl,Nat.le_trans HI2.out.hl hgf.size⟩
      rcases List.mem_append.1 hr with hr | hr
      ·exact come_mono (HI2.out.pr r hr)
      ·rw [List.mem_singleton.1 hr]
       show (comeS k (ins',wt')).1[y.sym.toNat]?=some true
       rw [HY.out]
       exact come_in (by show k < ins'.length;rw [HQ0.out];exact HKl.out)
     case done=>
      rintro D xs W hD rfl ⟨ins',wt',va',vc',hIR⟩ hK
      rw [HSz.out] at hD
      have hdn:DI (L.map (·.sc)) R (ins',wt') none:=hIR.di.close HSm.out (fun r hr=>hIR.pr ⟨r,hr⟩ (List.mem_attach _ _))
      have HDn:=Lib.hid hdn
      have HI2:=Lib.hid hIR
      have HK2:=Lib.hid hK
      have HDD:=Lib.hid hD
      have q1:2*ins'.count false+wt'.length<=mass (ins,wt):=hIR.ms
      have q2:mass (ins,wt)+1<=2*un:=by have:=HM.out;unfold b2n at this;simpa using this
      have q3:=HUn.out
      have HTake:=Lib.hid (gtake_any hIR.gs (by omega))
      clear hdn hIR hK hD q1 q3
      gi_wp2_with (refine ⟨trivial,?_⟩;gi_at_call 110;refine (callsIn_wide.2 HTake.out).mono ?_;rintro e w' ⟨r2,b2,wt2,rfl,hgs,hkp,hor⟩)
      all_goals
       have hb2:massW B w'+b2n b2 < massW B w1+1:=by
        obtain ⟨hci,hms⟩:=ci_of HDn.out hor
        rw [massW_eq hgs,massW_eq HS.out]
        have:=HI2.out.ms
        omega
       have hst:∃ (r':Nat) (b':Bool) (ins:List Bool) (wt:List Nat) (va:Option Addr) (vc:Nat) (dt:List Nat),r'=r2/\b'=b2/\dt=D :: ds/\Hid (GS w w' B (ins,wt) va vc)/\Hid (CI (L.map (·.sc)) R r' b' (ins,wt))/\Hid (∀ k:Nat,(k:Int) ∈ R->ins[k]?=some true)/\Hid (mass (ins,wt)+b2n b'<=2*un)/\Hid (MK B dt w'):=by
        obtain ⟨hci,hms⟩:=ci_of HDn.out hor
        have hmm:=HI2.out.ms
        refine ⟨r2,b2,ins',wt2,va',vc',D :: ds,rfl,rfl,rfl,Lib.hid hgs,Lib.hid hci,Lib.hid HI2.out.ri,Lib.hid (by rw [hms];omega),Lib.hid ⟨List.nodup_cons.2 ⟨fun h=>?_,HI2.out.mk2.1⟩,fun E hE=>?_⟩⟩
        ·have:=HI2.out.dl D h
         have:=HDD.out
         omega
        ·rcases List.mem_cons.1 hE with rfl | hE
         ·exact ⟨by have:=HDD.out;have:=HB4.out;omega,(hkp.block E (lt_of_block HK2.out) (by intro e;cases e;have:=HDD.out;have:=HB4.out;omega)).trans HK2.out⟩
         ·exact ⟨(HI2.out.mk2.2 E hE).1,(hkp.block E (lt_of_block (HI2.out.mk2.2 E hE).2) (by intro e;cases e;have:=(HI2.out.mk2.2 _ hE).1;omega)).trans (HI2.out.mk2.2 E hE).2⟩
       obtain ⟨r3,b3,ins3,wt3,va3,vc3,dt,rfl,rfl,hdt,g1,g2,g3,g4,g5⟩:=hst
       subst hdt
       cases b3
       all_goals first
        | (exact ⟨⟨_,_,ins3,wt3,va3,vc3,D :: ds,_,_,_,_,_,_,_,_,_,_,_,_,_,rfl,g1,g2,g3,g4,g5⟩,by simpa [b2n] using hb2⟩)
        | (rename_i hx;cases hx)
        | (rename_i hx;exact absurd rfl (hx))
     case stop=>
      rintro D c pre W hD _ h hK
      exact h.elim
open Go.ChangeShapes Go.WideShapes Go.Deep Go.RowKit
abbrev msV (m:Ms):Array Value:=#[.string ⟨m.sc.name.toArray⟩,.int .i64 m.sc.kind,.bool m.sc.keep,.int .i64 m.sc.align,.string ⟨m.sc.data.toArray⟩,.slice m.ad m.sc.rels.length m.cap]
structure QS (w u:World) (X:Nat) (m:Ms) (s:Sc) (a:Option Addr) (c:Nat):Prop where
 ub:RB u X (msV m) 63
 xx:RB u (X+1) (scA scZ none 0 0) 57
 yy:RB u (X+2) (scA s a s.rels.length c) 57
 oo:u.ownsRow (X+3) 82 4 (.slice a s.rels.length c) s.rels.length (s.rels.flatMap rlC)
 kk:Below w.heap.size w u
 ee:X=w.heap.size
theorem QS.alloc {w u:World} {X:Nat} {m:Ms} {s:Sc} {a:Option Addr} {c:Nat} (h:QS w u X m s a c) (o:Obj):QS w (u.alloc o) X m s a c:=
 ⟨(Below.heap_alloc u o X (lt_of_block h.ub)).trans h.ub,(Below.heap_alloc u o (X+1) (lt_of_block h.xx)).trans h.xx,(Below.heap_alloc u o (X+2) (lt_of_block h.yy)).trans h.yy,h.oo.alloc o,h.kk.alloc h.kk.size o,h.ee⟩
theorem own_kp3 {w w':World} {B p e n:Nat} {v:Value} {xs:List Value} {sz:Nat} (h:w.ownsRow B e sz v n xs) (hk:KP p w w') (hp:p < B):w'.ownsRow B e sz v n xs:=by
 refine h.kept hk ?_
 cases hv:v.ownBlock with
 | none=>exact .inl rfl
 | some g=>right;have:=(h.lt g hv).1;simp;omega
theorem QS.append {w u w2:World} {X:Nat} {m:Ms} {s:Sc} {a a':Option Addr} {c c':Nat} {x:Rl} (h:QS w u X m s a c)
  (hown:w2.ownsRow (X+3) 82 4 (.slice a' (s.rels.length+1) c') (s.rels.length+1) (s.rels.flatMap rlC ++ rlC x)) (hgrow:(u.alloc (.cells (rlA x) 82)).grownBy w2 (Value.slice a s.rels.length c).ownBlock):
  QS w (w2.setCell ⟨X+2,5,none⟩ (.slice a' (s.rels.length+1) c')) X m ⟨s.name,s.kind,s.keep,s.align,s.data,s.rels ++ [x]⟩ a' c':=by
 have hx:=h.ee
 have hp:X+2 < u.heap.size:=lt_of_block h.yy
 have hbV:Below (X+3) u (u.alloc (.cells (rlA x) 82)):=(Below.refl (X+3) u).alloc (by omega) _
 have hbw:Below (X+3) u w2:=hbV.grown hgrow (by have:=hbV.size;omega) (fun j hj=>(h.oo.lt j hj).1)
 have h0:RB w2 X (msV m) 63:=(hbw.block X (by omega)).trans h.ub
 have h1:RB w2 (X+1) (scA scZ none 0 0) 57:=(hbw.block (X+1) (by omega)).trans h.xx
 have h2:RB w2 (X+2) (scA s a s.rels.length c) 57:=(hbw.block (X+2) (by omega)).trans h.yy
 refine ⟨(hother (by omega)).trans h0,(hother (by omega)).trans h1,?_,?_,(h.kk.trans (hbw.mono (by omega))).setCell (p:=⟨X+2,5,none⟩) (by show w.heap.size<=X+2;omega) _,h.ee⟩
 ·have:=hset (o:=5) (x:=.slice a' (s.rels.length+1) c') h2
  unfold RB
  simpa using this
 ·have:=own_kp3 hown (KP.step (X+2) w2 5 (.slice a' (s.rels.length+1) c')) (by omega)
  simpa [List.flatMap_append] using this
def SecQ (s:Sc) (w:World) (e:Ending) (w':World):Prop:=
 ∃ a c,e=.returned (scV s a s.rels.length c)/\w'.ownsRow w.heap.size 82 4 (.slice a s.rels.length c) s.rels.length (s.rels.flatMap rlC)/\Below w.heap.size w w'
theorem QS.fin {w u:World} {X:Nat} {m:Ms} {s:Sc} {a:Option Addr} {c:Nat} (h:QS w u X m s a c):
  RB (sset u (X+1) s a s.rels.length c) (X+1) (scA s a s.rels.length c) 57/\SecQ s w (.returned (scV s a s.rels.length c)) (sset u (X+1) s a s.rels.length c):=by
 have hx:=h.ee
 have hK:KP (X+1) u (sset u (X+1) s a s.rels.length c):=(((((KP.step (X+1) u 0 _).trans' (KP.step (X+1) _ 1 _)).trans' (KP.step (X+1) _ 2 _)).trans' (KP.step (X+1) _ 3 _)).trans' (KP.step (X+1) _ 4 _)).trans' (KP.step (X+1) _ 5 _)
 have ho:=own_kp3 h.oo hK (by omega)
 refine ⟨sset_heap h.xx s a s.rels.length c,a,c,rfl,⟨ho.1,?_⟩,sset_below h.kk (by omega) s a s.rels.length c⟩
 rcases ho.2 with hh | ⟨g,cap,cur,hv,hb,r⟩
 ·exact .inl hh
 ·exact .inr ⟨g,cap,cur,hv,by omega,r⟩
theorem QS.mk0 (w:World) (m:Ms):QS w (((w.alloc (.cells (msV m) 63)).alloc (.cells (scA scZ none 0 0) 57)).alloc (.cells #[.string ⟨m.sc.name.toArray⟩,.int .i64 m.sc.kind,.bool m.sc.keep,.int .i64 m.sc.align,.string ⟨m.sc.data.toArray⟩,.slice none 0 0] 57)) w.heap.size m ⟨m.sc.name,m.sc.kind,m.sc.keep,m.sc.align,m.sc.data,[]⟩ none 0:=by
 have s1:(w.alloc (.cells (msV m) 63)).heap.size=w.heap.size+1:=World.size_alloc _ _
 have s2:((w.alloc (.cells (msV m) 63)).alloc (.cells (scA scZ none 0 0) 57)).heap.size=w.heap.size+2:=by rw [World.size_alloc,s1]
 refine ⟨?_,?_,?_,World.ownsRow_nil _ _ _ _,((((Below.refl _ w).alloc (Nat.le_refl _) _).alloc (by rw [s1];omega) _).alloc (by rw [s2];omega) _),rfl⟩
 ·unfold RB
  rw [Below.heap_alloc _ _ _ (by rw [s2];omega),Below.heap_alloc _ _ _ (by rw [s1];omega)];exact (MapKept.heap_alloc _ _).1
 ·unfold RB
  rw [Below.heap_alloc _ _ _ (by rw [s2];omega),<-s1];exact (MapKept.heap_alloc _ _).1
 ·unfold RB
  rw [<-s2];exact (MapKept.heap_alloc _ _).1
theorem section_any (nm dt:List UInt8) (ki:Int) (kp:Bool) (al:Int) (rl:List Rl) (ad:Option Addr) (cap:Nat) (w:World) (hs:SL rlC 4 w w.heap.size ad rl.length rl) (hb:rl.length*32<=reachBytes):
  Calls Tryz.prog 89 #[.agg #[.string ⟨nm.toArray⟩,.int .i64 ki,.bool kp,.int .i64 al,.string ⟨dt.toArray⟩,.slice ad rl.length cap]] w (SecQ ⟨nm,ki,kp,al,dt,rl⟩ w):=by
 have HSl:=Lib.hid hs
 obtain ⟨n,hn⟩:∃ n,n=rl.length:=⟨_,rfl⟩
 have HN:=Lib.hid hn
 have hbn:n*32<=140737488351232:=by rw [hn];exact hb
 have HBn:=Lib.hid hbn
 have hni:(n:Int)<=140737488351232:=by omega
 obtain ⟨i0,hi,hz0,hz1,hz2⟩:=info_parts info_rel
 obtain ⟨X,hX⟩:∃ X,X=w.heap.size:=⟨_,rfl⟩
 have HXE:=Lib.hid hX
 have h0:=Lib.hid (QS.mk0 w ⟨⟨nm,ki,kp,al,dt,rl⟩,ad,cap⟩)
 rw [<-hX] at h0
 change Hid (QS w (((w.alloc (.cells #[.string ⟨nm.toArray⟩,.int .i64 ki,.bool kp,.int .i64 al,.string ⟨dt.toArray⟩,.slice ad rl.length cap] 63)).alloc (.cells #[.string ⟨#[]⟩,.int .i64 0,.bool false,.int .i64 0,.string ⟨#[]⟩,.slice none 0 0] 57)).alloc (.cells #[.string ⟨nm.toArray⟩,.int .i64 ki,.bool kp,.int .i64 al,.string ⟨dt.toArray⟩,.slice none 0 0] 57)) X ⟨⟨nm,ki,kp,al,dt,rl⟩,ad,cap⟩ ⟨nm,ki,kp,al,dt,[]⟩ none 0) at h0
 rw [<-hn] at h0 ⊢
 clear hs hb hn hbn
 go_enter Tryz.func89,Tryz.ntmps89
 go_wp2
 rw [<-hX]
 clear hX
 try rw [show X+1+1=X+2 from rfl]
 generalize (((w.alloc (.cells #[.string ⟨nm.toArray⟩,.int .i64 ki,.bool kp,.int .i64 al,.string ⟨dt.toArray⟩,.slice ad n cap] 63)).alloc (.cells #[.string ⟨#[]⟩,.int .i64 0,.bool false,.int .i64 0,.string ⟨#[]⟩,.slice none 0 0] 57)).alloc (.cells #[.string ⟨nm.toArray⟩,.int .i64 ki,.bool kp,.int .i64 al,.string ⟨dt.toArray⟩,.slice none 0 0] 57))=W0 at h0 ⊢
 go_loopw [20] (fun i wr=>∃ (j:Nat) (xs:List Rl) (a:Option Addr) (c:Nat),Hid (QS w wr X ⟨⟨nm,ki,kp,al,dt,rl⟩,ad,cap⟩ ⟨nm,ki,kp,al,dt,xs⟩ a c)/\j<=n/\i=.int .i64 j/\Hid (xs=rl.take j)) (fun i _=>n - (intOf i).toNat)
 case atStart=>exact ⟨0,[],none,0,h0,by omega,rfl,Lib.hid rfl⟩
 case round=>
  clear h0
  obtain ⟨j,xs,a,c,HQ,hj,rfl,HXs⟩:=hrel
  obtain ⟨q,hq⟩:∃ q,q=xs.length:=⟨_,rfl⟩
  have HQq:=Lib.hid hq
  by_cases hlt:j < n
  ·have hlti:(j:Int) < (n:Int):=by omega
   have HLT:=Lib.hid hlt
   have hjr:j < rl.length:=by have:=HN.out;omega
   have hqj:q=j:=by rw [hq,HXs.out,List.length_take];omega
   have hsl:=HSl.out.below HQ.out.kk
   obtain ⟨b,off,had,hB,hc⟩:=hsl.cells (hsl.ne hjr)
   subst had
   obtain ⟨d0,d1,d2,d3⟩:=rl_cells (fun i hi=>hc j hjr i hi)
   have HTk:Hid (rl.take (j+1)=rl.take j ++ [rl[j]]):=Lib.hid (by rw [List.take_add_one,List.getElem?_eq_getElem hjr];rfl)
   generalize rl[j]=r at d0 d1 d2 d3 HTk
   obtain ⟨rp,rk,rs,ra⟩:=r
   simp only at d0 d1 d2 d3
   have HOW:Hid (wr.ownsRow (X+3) 82 4 (.slice a q c) q (xs.flatMap rlC)):=Lib.hid (by have:=HQ.out.oo;simp only at this;rw [hq];exact this)
   have hX2:X+2 < wr.heap.size:=lt_of_block HQ.out.yy
   have y5:wr.cell? ⟨X+2,5,none⟩=some (.slice a q c):=by have:=HQ.out.yy.cell (j:=5);rw [hq];exact this
   have yf:wr.frozen? ⟨X+2,5,none⟩=false:=HQ.out.yy.frozen
   have tA:(wr.alloc (.cells #[.int .i64 rp,.int .i64 rk,.int .i64 rs,.int .i64 ra] 119)).cell? ⟨X+2,5,none⟩=some (.slice a q c):=(World.cell?_alloc_past (w:=wr) _ _ _ hX2).trans y5
   have hno:(Value.slice a q c).ownBlock ≠ some (X+2):=fun e=>by have:=(HOW.out.lt (X+2) e).1;omega
   have hm:q+1<=maxLen:=by unfold maxLen;have:=HBn.out;omega
   have hby:(q+1)*32<=140737488355328:=by have:=HBn.out;omega
   have hnews:∀ j u,(rlC ⟨rp,rk,rs,ra⟩)[j]?=some u->((wr.alloc (.cells #[.int .i64 rp,.int .i64 rk,.int .i64 rs,.int .i64 ra] 119)).alloc (.cells #[.int .i64 rp,.int .i64 rk,.int .i64 rs,.int .i64 ra] 82)).cell? ((⟨wr.heap.size+1,0,none⟩:Addr).add j)=some u:=World.news_of_block (cs:=rlA ⟨rp,rk,rs,ra⟩) (t:=82) (fr:=(0,0)) (by have:=heap_alloc_new (wr.alloc (.cells #[.int .i64 rp,.int .i64 rk,.int .i64 rs,.int .i64 ra] 119)) (.cells (rlA ⟨rp,rk,rs,ra⟩) 82);rw [World.size_alloc] at this;exact this)
   clear hsl hc hB hjr hq hqj hj hlt
   go_wp2_with (at_builtin;refine wpList_append_lies _ rfl _ _ 55 rfl (X+3) 82 i0 (.agg #[.int .i64 0,.int .i64 0,.int .i64 0,.int .i64 0]) 4 32 Tryz.underlying55 hi hz0 hz1 hz2 rfl (by decide) (.slice a q c) q (xs.flatMap rlC) rfl ((HOW.out.alloc _).alloc _) ⟨wr.heap.size+1,0,none⟩ 1 1 (rlC ⟨rp,rk,rs,ra⟩) rfl rfl hnews (rl_one _) (by decide) hm hby (by simp;omega) (wr.heap.size+1+1) (by simp) ?_;intro g2 cap2 w2 hown2 hgrow2 hlie2 hlt2;have t0:w2.cell? ⟨X+2,5,none⟩=some (.slice a q c):=(hgrow2.cell_far _ (by simp;omega) (Ne.symm hno)).trans ((World.cell?_alloc_past _ _ _ (by rw [World.size_alloc];exact Nat.lt_succ_of_lt hX2)).trans tA);have t1:w2.frozen? ⟨X+2,5,none⟩=false:=(hgrow2.frozen_far _ (by simp;omega) (Ne.symm hno)).trans ((World.frozen?_alloc_past _ _ _ (by rw [World.size_alloc];exact Nat.lt_succ_of_lt hX2)).trans ((World.frozen?_alloc_past (w:=wr) _ _ _ hX2).trans yf)))
   rw [HQq.out] at hown2 hgrow2
   have HQ2:=Lib.hid ((HQ.out.alloc (.cells #[.int .i64 rp,.int .i64 rk,.int .i64 rs,.int .i64 ra] 119)).append (x:=⟨rp,rk,rs,ra⟩) hown2 hgrow2)
   simp only [] at HQ2
   rw [<-HQq.out] at HQ2
   clear hown2 hgrow2 hlie2 hlt2 t0 t1 y5 yf tA hno hnews d0 d1 d2 d3
   go_roundw
   case rel=>exact ⟨j+1,xs ++ [⟨rp,rk,rs,ra⟩],_,_,HQ2,by have:=HLT.out;omega,by go_num,Lib.hid (by rw [HTk.out,HXs.out])⟩
   case measure=>have:=HLT.out;simp [intOf];omega
  ·have hnlt:¬ (j:Int) < (n:Int):=by omega
   have hxr:xs=rl:=by rw [HXs.out,List.take_of_length_le (by have:=HN.out;omega)]
   subst hxr
   have HF:=Lib.hid HQ.out.fin
   have y0:wr.cell? ⟨X+2,0,none⟩=some (.string ⟨nm.toArray⟩):=HQ.out.yy.cell
   have y1:wr.cell? ⟨X+2,1,none⟩=some (.int .i64 ki):=HQ.out.yy.cell
   have y2:wr.cell? ⟨X+2,2,none⟩=some (.bool kp):=HQ.out.yy.cell
   have y3:wr.cell? ⟨X+2,3,none⟩=some (.int .i64 al):=HQ.out.yy.cell
   have y4:wr.cell? ⟨X+2,4,none⟩=some (.string ⟨dt.toArray⟩):=HQ.out.yy.cell
   have y5:wr.cell? ⟨X+2,5,none⟩=some (.slice a q c):=by have:=HQ.out.yy.cell (j:=5);rw [HQq.out];exact this
   obtain ⟨x0,x1,x2,x3,x4,x5,xf,xl⟩:=HQ.out.xx.six
   have xf0:=xf 0
   have xf1:=xf 1
   have xf2:=xf 2
   have xf3:=xf 3
   have xf4:=xf 4
   have xf5:=xf 5
   rw [show (⟨nm,ki,kp,al,dt,xs⟩:Sc).rels.length=q from HQq.out.symm] at HF
   clear xf hj hlt hq
   go_wp2
   refine bodyPost_ret (results_cell_row (P:=Tryz.prog) rfl _ _ (X+1) 57 _ (0,0) _ rfl HF.out.1 Tryz.underlying57 rfl (by kernel_rfl)) rfl ?_
   exact HF.out.2
open Go.ChangeShapes Go.WideShapes Go.Deep Go.RowKit
theorem units_no {Ls:List Sc} {i:Nat} {s:Sc} (hs:Ls[i]?=some s) (h:unitOk Ls.length s=false):unitsR Ls=false:=by
 cases hu:unitsR Ls with
 | false=>rfl
 | true=>
  unfold unitsR at hu
  simp only [Bool.and_eq_true,decide_eq_true_eq,List.all_eq_true] at hu
  have:=hu.2 s (List.mem_of_getElem? hs)
  rw [h] at this;cases this
theorem units_yes {Ls:List Sc} (hl:Ls.length<=256) (h:∀ s ∈ Ls,unitOk Ls.length s=true):unitsR Ls=true:=by
 unfold unitsR
 simp only [Bool.and_eq_true,decide_eq_true_eq,List.all_eq_true]
 exact ⟨hl,h⟩
theorem gIs_any (ua:Option Addr) (un uc:Nat) (L:List Ms) (w:World) (hun:un<=maxLen) (hs:SL msC 6 w w.heap.size ua un L) (hno:Notes w w.heap.size L) (hg:∀ m ∈ L,GoodSc m.sc) (hb:∀ m ∈ L,m.sc.rels.length*32<=reachBytes) (hT:TabP w):
  Calls Tryz.prog 66 #[.slice ua un uc] w (RetB (.bool (unitsR (L.map (·.sc)))) w):=by
 have hlen:(L.map (·.sc)).length=un:=by rw [List.length_map];exact hs.len.symm
 have hni:(un:Int)<=9223372036854775807:=by unfold maxLen at hun;omega
 by_cases h256:256 < un
 ·have h2:(256:Int) < (un:Int):=by omega
  have HR:Hid (unitsR (L.map (·.sc))=false):=Lib.hid (by
   cases hu:unitsR (L.map (·.sc)) with
   | false=>rfl
   | true=>have:=units_len hu;omega)
  clear hs hno hg hb hT hlen h256
  go_enter Tryz.func66,Tryz.ntmps66
  go_wp2
  go_ret
  exact ⟨by rw [HR.out];rfl,Below.refl _ _⟩
 have h2:¬ (256:Int) < (un:Int):=by omega
 have HUn:Hid (un<=256):=Lib.hid (by omega)
 have HLn:=Lib.hid hlen
 have HS:=Lib.hid hs
 have HNo:=Lib.hid hno
 have HGd:=Lib.hid hg
 have HBd:=Lib.hid hb
 have HT:=Lib.hid hT
 have HLL:=Lib.hid hs.len
 clear hs hno hg hb hT hlen h256 hun
 go_enter Tryz.func66,Tryz.ntmps66
 go_wp2
 go_loopw [12] (fun i wr=>∃ (k:Nat) (wx:World),wx=wr/\k<=un/\i=.int .i64 k/\Below w.heap.size w wx/\Hid (∀ s ∈ (L.map (·.sc)).take k,unitOk un s=true)) (fun i _=>un - (intOf i).toNat)
 case atStart=>exact ⟨0,_,rfl,by omega,rfl,Below.refl _ _,Lib.hid (by simp)⟩
 case round=>
  obtain ⟨k,wx,rfl,hk,rfl,hbx,HOk⟩:=hrel
  have HB:=Lib.hid hbx
  clear hbx
  by_cases hlt:k < un
  ·have hlti:(k:Int) < (un:Int):=by omega
   have HLT:=Lib.hid hlt
   have hk1:k < L.length:=by have:=HLL.out;omega
   obtain ⟨b,off,hua,hBl,hc⟩:=(HS.out.next HB.out).cells ((HS.out.next HB.out).ne hlt)
   subst hua
   obtain ⟨c0,c1,c2',c3,c4,c5⟩:=ms_cells (fun j hj=>hc k hk1 j hj)
   have hmem:L[k] ∈ L:=List.getElem_mem _
   have hat:(L.map (·.sc))[k]?=some L[k].sc:=by rw [List.getElem?_map,List.getElem?_eq_getElem hk1];rfl
   have HTk:Hid ((L.map (·.sc)).take (k+1)=(L.map (·.sc)).take k ++ [L[k].sc]):=Lib.hid (by rw [List.take_add_one,hat];rfl)
   generalize L[k]'hk1=m at c0 c1 c2' c3 c4 c5 hmem hat HTk
   obtain ⟨⟨nm,ki,kp,al,dt,rl⟩,ad,cp⟩:=m
   simp only at c0 c1 c2' c3 c4 c5
   have HMem:=Lib.hid hmem
   have HAt:=Lib.hid hat
   obtain ⟨nr,hnr⟩:∃ nr,nr=rl.length:=⟨_,rfl⟩
   have HNr:=Lib.hid hnr
   have hrb:=HBd.out _ hmem
   simp only at hrb
   have hnri:(nr:Int)<=140737488351232:=by
    have h1:=hrb
    unfold reachBytes at h1
    rw [hnr];omega
   obtain ⟨Y,hY⟩:∃ Y,Y=wx.heap.size:=⟨_,rfl⟩
   have HYE:=Lib.hid hY
   have HA:Hid (Below wx.heap.size wx (wx.alloc (.cells #[.string ⟨nm.toArray⟩,.int .i64 ki,.bool kp,.int .i64 al,.string ⟨dt.toArray⟩,.slice ad nr cp] 63))):=Lib.hid ((Below.refl _ wx).alloc (Nat.le_refl _) _)
   have HRY:Hid (RB (wx.alloc (.cells #[.string ⟨nm.toArray⟩,.int .i64 ki,.bool kp,.int .i64 al,.string ⟨dt.toArray⟩,.slice ad nr cp] 63)) Y #[.string ⟨nm.toArray⟩,.int .i64 ki,.bool kp,.int .i64 al,.string ⟨dt.toArray⟩,.slice ad nr cp] 63):=Lib.hid (by rw [hY];exact (MapKept.heap_alloc wx _).1)
   have HSec:Hid (∀ u,Below w.heap.size w u->Calls Tryz.prog 89 #[.agg #[.string ⟨nm.toArray⟩,.int .i64 ki,.bool kp,.int .i64 al,.string ⟨dt.toArray⟩,.slice ad nr cp]] u (SecQ ⟨nm,ki,kp,al,dt,rl⟩ u)):=Lib.hid fun u hu=>by
    rw [hnr]
    exact section_any nm dt ki kp al rl ad cp u ((HNo.out _ hmem).next hu) hrb
   have HIs:Hid (∀ u a c,TabP u->SL rlC 4 u u.heap.size a rl.length rl->Calls Tryz.prog 78 #[scV ⟨nm,ki,kp,al,dt,rl⟩ a rl.length c] u (RetB (.bool (secR ⟨nm,ki,kp,al,dt,rl⟩)) u)):=Lib.hid fun u a c hu hsl=>pIs_any ⟨nm,ki,kp,al,dt,rl⟩ a rl.length c u hsl (HGd.out _ hmem) hu
   rw [<-hnr] at c5
   clear hc hBl hk1 hlt hk hmem hat hnr hrb hY
   go_wp2_with fail
   try rw [<-HYE.out]
   generalize (wx.alloc (.cells #[.string ⟨nm.toArray⟩,.int .i64 ki,.bool kp,.int .i64 al,.string ⟨dt.toArray⟩,.slice ad nr cp] 63))=W at HA HRY ⊢
   replace HB:Hid (Below w.heap.size w W):=Lib.hid (after HB.out HA.out)
   clear HA c0 c1 c2' c3 c4 c5
   refine (HSec.out _ HB.out).mono ?_
   rintro e u ⟨a,c,rfl,hown,hb⟩
   obtain ⟨a',c',hv,hsl,-⟩:=SL.ofOwns rl_len (by decide) hown
   cases hv
   have HSl:=Lib.hid hsl
   replace HB:=Lib.hid (after HB.out hb)
   replace HRY:=Lib.hid (HRY.out.next hb)
   clear hown hsl hb
   go_wp2_with fail
   refine (HIs.out _ a c (HT.out.next HB.out) HSl.out).mono ?_
   rintro e u2 ⟨rfl,hb⟩
   replace HB:=Lib.hid (after HB.out hb)
   replace HRY:=Lib.hid (HRY.out.next hb)
   clear hb HSl HSec HIs
   cases hsr:secR ⟨nm,ki,kp,al,dt,rl⟩
   ·have HR:Hid (unitsR (L.map (·.sc))=false):=Lib.hid (units_no HAt.out (by unfold unitOk;rw [hsr];rfl))
    clear hsr
    go_wp2
    go_ret
    exact ⟨by rw [HR.out];rfl,HB.out⟩
   ·have HSr:=Lib.hid hsr
    clear hsr
    have y5:u2.cell? ⟨Y,5,none⟩=some (.slice ad nr cp):=HRY.out.cell
    go_wp2
    clear y5
    go_loopw [23] (fun i wr=>∃ (j:Nat) (wy:World),wy=wr/\j<=nr/\i=.int .i64 j/\Below w.heap.size w wy/\Hid (∀ r ∈ rl.take j,r.sym < (un:Int))) (fun i _=>nr - (intOf i).toNat)
    case atStart=>exact ⟨0,_,rfl,by omega,rfl,HB.out,Lib.hid (by simp)⟩
    case round=>
     clear HB HRY
     obtain ⟨j,wy,rfl,hj,rfl,hby,HOr⟩:=hrel
     have HB:=Lib.hid hby
     clear hby
     by_cases hlt2:j < nr
     ·have hlti2:(j:Int) < (nr:Int):=by omega
      have HLT2:=Lib.hid hlt2
      have hjr:j < rl.length:=by have:=HNr.out;omega
      have hsl:=(HNo.out _ HMem.out).next HB.out
      simp only at hsl
      obtain ⟨b2,off2,had,hB2,hc2⟩:=hsl.cells (hsl.ne hjr)
      subst had
      obtain ⟨d0,d1,d2,d3⟩:=rl_cells (fun i hi=>hc2 j hjr i hi)
      have HTj:Hid (rl.take (j+1)=rl.take j ++ [rl[j]]):=Lib.hid (by rw [List.take_add_one,List.getElem?_eq_getElem hjr];rfl)
      have HRm:Hid (rl[j] ∈ rl):=Lib.hid (List.getElem_mem _)
      generalize rl[j]'hjr=r at d0 d1 d2 d3 HTj HRm
      obtain ⟨rp,rk,rs,ra⟩:=r
      simp only at d0 d1 d2 d3
      clear hsl hc2 hB2 hjr hlt2 hj
      by_cases hge:(un:Int)<=rs
      ·have HR:Hid (unitsR (L.map (·.sc))=false):=Lib.hid (units_no HAt.out (by
        unfold unitOk
        rw [HSr.out,Bool.true_and]
        cases hal:List.all rl (fun r=>decide (r.sym < ((List.map (·.sc) L).length:Int))) with
        | false=>rfl
        | true=>
         simp only [List.all_eq_true,decide_eq_true_eq] at hal
         have:=hal _ HRm.out
         rw [HLn.out] at this
         simp only at this
         omega))
       have HB2:Hid (Below w.heap.size w (wy.alloc (.cells #[.int .i64 rp,.int .i64 rk,.int .i64 rs,.int .i64 ra] 119))):=Lib.hid (HB.out.alloc HB.out.size _)
       go_wp2
       go_ret
       exact ⟨by rw [HR.out];rfl,HB2.out⟩
      ·have hlt3:rs < (un:Int):=by omega
       have HL3:=Lib.hid hlt3
       have HB2:Hid (Below w.heap.size w (wy.alloc (.cells #[.int .i64 rp,.int .i64 rk,.int .i64 rs,.int .i64 ra] 119))):=Lib.hid (HB.out.alloc HB.out.size _)
       go_wp2
       go_roundw
       case rel=>exact ⟨j+1,_,rfl,by have:=HLT2.out;omega,by go_num,HB2.out,Lib.hid (fun r hr=>by
         rw [HTj.out,List.mem_append] at hr
         rcases hr with hr | hr
         ·exact HOr.out r hr
         ·rw [List.mem_singleton.1 hr];exact HL3.out)⟩
       case measure=>have:=HLT2.out;simp [intOf];omega
     ·have hnlt2:¬ (j:Int) < (nr:Int):=by omega
      have hrl:rl.take j=rl:=List.take_of_length_le (by have:=HNr.out;omega)
      have HOk2:Hid (∀ s ∈ (L.map (·.sc)).take (k+1),unitOk un s=true):=Lib.hid (fun s hs=>by
       rw [HTk.out,List.mem_append] at hs
       rcases hs with hs | hs
       ·exact HOk.out s hs
       ·rw [List.mem_singleton.1 hs]
        unfold unitOk
        rw [HSr.out,Bool.true_and,List.all_eq_true]
        intro r hr
        have:=HOr.out
        rw [hrl] at this
        simp only [decide_eq_true_eq]
        exact this r hr)
      clear hrl hj hlt2
      go_wp2
      go_roundw
      case rel=>exact ⟨k+1,_,rfl,by have:=HLT.out;omega,by go_num,HB.out,HOk2⟩
      case measure=>have:=HLT.out;simp [intOf];omega
  ·have hnlt:¬ (k:Int) < (un:Int):=by omega
   have HR:Hid (unitsR (L.map (·.sc))=true):=Lib.hid (units_yes (by rw [HLn.out];exact HUn.out) (by
    have:=HOk.out
    rw [List.take_of_length_le (by rw [HLn.out];omega)] at this
    rw [HLn.out];exact this))
   clear hk hlt
   go_wp2
   go_ret
   exact ⟨by rw [HR.out];rfl,HB.out⟩
open Go.ChangeShapes Go.WideShapes Go.Deep Go.RowKit
def rootsB (R:List Int) (n:Nat):Bool:=R.all fun k=>decide (0<=k) && decide (k < (n:Int))
theorem roots_no {R:List Int} {n:Nat} {k:Int} (hk:k ∈ R) (h:k < 0\/(n:Int)<=k):rootsB R n=false:=by
 cases hr:rootsB R n with
 | false=>rfl
 | true=>
  unfold rootsB at hr
  simp only [List.all_eq_true,Bool.and_eq_true,decide_eq_true_eq] at hr
  have:=hr k hk
  omega
theorem roots_yes {R:List Int} {n:Nat}:rootsB R n=true ↔ ∀ k ∈ R,0<=k/\k < (n:Int):=by
 unfold rootsB
 simp only [List.all_eq_true,Bool.and_eq_true,decide_eq_true_eq]
def ReachR (Ls:List Sc) (R:List Int) (w:World) (e:Ending) (w':World):Prop:=
 if unitsR Ls=true/\rootsB R Ls.length=true then ∃ g,e=.returned (.tuple #[.slice (some ⟨g,0,none⟩) Ls.length Ls.length,.int .i64 0])/\RB w' g (blA (reachB Ls R)) 4/\w.heap.size<=g/\Below w.heap.size w w'
 else e=.returned (.tuple #[.slice none 0 0,.int .i64 1])/\Below w.heap.size w w'
theorem reachR_no {Ls:List Sc} {R:List Int} {w w':World} {e:Ending} (h:¬ (unitsR Ls=true/\rootsB R Ls.length=true)) (he:e=.returned (.tuple #[.slice none 0 0,.int .i64 1])) (hb:Below w.heap.size w w'):ReachR Ls R w e w':=by
 unfold ReachR;rw [if_neg h];exact ⟨he,hb⟩
theorem gReach_any (ua:Option Addr) (un uc:Nat) (L:List Ms) (ra:Option Addr) (rn rc:Nat) (R:List Int) (w:World) (hun:un<=maxLen) (hs:SL msC 6 w w.heap.size ua un L) (hno:Notes w w.heap.size L) (hg:∀ m ∈ L,GoodSc m.sc) (hb:∀ m ∈ L,m.sc.rels.length*32<=reachBytes) (hr:SL enZ 1 w w.heap.size ra rn R) (hrn:rn<=1000000) (hT:TabP w):
  Calls Tryz.prog 62 #[.slice ua un uc,.slice ra rn rc] w (ReachR (L.map (·.sc)) R w):=by
 have hlen:(L.map (·.sc)).length=un:=by rw [List.length_map];exact hs.len.symm
 have hni:(un:Int)<=9223372036854775807:=by unfold maxLen at hun;omega
 have hrni:(rn:Int)<=1000000:=by omega
 have HI:Hid (∀ u,Below w.heap.size w u->Calls Tryz.prog 66 #[.slice ua un uc] u (RetB (.bool (unitsR (L.map (·.sc)))) u)):=Lib.hid fun u hu=>gIs_any ua un uc L u hun (hs.next hu) (hno.next hu) hg hb (hT.next hu)
 have HLn:=Lib.hid hlen
 have HS:=Lib.hid hs
 have HNo:=Lib.hid hno
 have HSr:=Lib.hid hr
 have HRn:=Lib.hid hrn
 have HB:Hid (Below w.heap.size w w):=Lib.hid (Below.refl _ w)
 clear hs hno hg hb hT hlen hun hr hrn
 cases hu:unitsR (L.map (·.sc))
 ·rw [hu] at HI
  have HN:Hid (¬ (unitsR (L.map (·.sc))=true/\rootsB R (L.map (·.sc)).length=true)):=Lib.hid (fun h=>by rw [hu] at h;cases h.1)
  clear hu
  go_enter Tryz.func62,Tryz.ntmps62
  go_wp2_with fail
  refine (HI.out _ HB.out).mono ?_
  rintro e u ⟨rfl,hb⟩
  replace HB:=Lib.hid hb
  clear hb
  go_wp2
  go_ret2
  exact reachR_no HN.out rfl HB.out
 ·rw [hu] at HI
  have HU:=Lib.hid hu
  clear hu
  go_enter Tryz.func62,Tryz.ntmps62
  go_wp2_with fail
  refine (HI.out _ HB.out).mono ?_
  rintro e u ⟨rfl,hb⟩
  replace HB:=Lib.hid hb
  clear hb
  go_wp2_with fail
  go_loopw [13] (fun i wr=>∃ (j:Nat) (wx:World),wx=wr/\j<=rn/\i=.int .i64 j/\Below w.heap.size w wx/\Hid (∀ k ∈ R.take j,0<=k/\k < (un:Int))) (fun i _=>rn - (intOf i).toNat)
  case atStart=>exact ⟨0,_,rfl,by omega,rfl,HB.out,Lib.hid (by simp)⟩
  case round=>
   clear HB
   obtain ⟨j,wx,rfl,hj,rfl,hbx,HOk⟩:=hrel
   have HB:=Lib.hid hbx
   clear hbx
   by_cases hlt:j < rn
   ·have hlti:(j:Int) < (rn:Int):=by omega
    have HLT:=Lib.hid hlt
    have hsl:=HSr.out.next HB.out
    have hjR:j < R.length:=by have:=hsl.len;omega
    obtain ⟨b,off,hra,hBl,hc⟩:=hsl.cells (hsl.ne hlt)
    subst hra
    have d0:=hc j hjR 0 (by omega)
    have HTk:Hid (R.take (j+1)=R.take j ++ [R[j]]):=Lib.hid (by rw [List.take_add_one,List.getElem?_eq_getElem hjR];rfl)
    have HMem:Hid (R[j] ∈ R):=Lib.hid (List.getElem_mem _)
    generalize R[j]'hjR=k at d0 HTk HMem
    simp only [enZ,Nat.add_zero,Nat.mul_one,List.getElem?_cons_zero] at d0
    clear hsl hjR hc hBl hlt hj
    by_cases hk:k < 0\/(un:Int)<=k
    ·have HN:Hid (¬ (unitsR (L.map (·.sc))=true/\rootsB R (L.map (·.sc)).length=true)):=Lib.hid (fun h=>by
      have:=roots_no (n:=un) HMem.out hk
      rw [HLn.out] at h
      rw [this] at h;cases h.2)
     have hcs:k < 0\/(¬ k < 0/\(un:Int)<=k):=by omega
     clear hk
     rcases hcs with h1 | ⟨h1,h2⟩
     all_goals
      go_wp2
      go_ret2
      exact reachR_no HN.out rfl HB.out
    ·have h1:¬ k < 0:=fun h=>hk (.inl h)
     have h2:¬ (un:Int)<=k:=fun h=>hk (.inr h)
     have h3:0<=k:=by omega
     have h4:k < (un:Int):=by omega
     have HK:Hid (0<=k/\k < (un:Int)):=Lib.hid ⟨h3,h4⟩
     clear hk
     go_wp2
     go_roundw
     case rel=>exact ⟨j+1,_,rfl,by have:=HLT.out;omega,by go_num,HB.out,Lib.hid (fun q hq=>by
       rw [HTk.out,List.mem_append] at hq
       rcases hq with hq | hq
       ·exact HOk.out q hq
       ·rw [List.mem_singleton.1 hq];exact HK.out)⟩
     case measure=>have:=HLT.out;simp [intOf];omega
   ·have hnlt:¬ (j:Int) < (rn:Int):=by omega
    have hRo:∀ k ∈ R,0<=k/\k < (un:Int):=by
     have:=HOk.out
     rwa [List.take_of_length_le (by have:=HSr.out.len;omega)] at this
    have HY:Hid (unitsR (L.map (·.sc))=true/\rootsB R (L.map (·.sc)).length=true):=Lib.hid ⟨HU.out,by rw [HLn.out];exact roots_yes.2 hRo⟩
    have HRe:Hid (∀ u,Below w.heap.size w u->Calls Tryz.prog 88 #[.iface 143 (.slice ua un uc),.slice ra rn rc] u (ReachP u (reachB (L.map (·.sc)) R))):=Lib.hid fun u hu=>reached_any u ua un uc L ra rn rc R (HS.out.next hu) (HNo.out.next hu) (HSr.out.next hu) HU.out hRo HRn.out
    clear hj hlt hRo
    go_wp2_with fail
    refine (HRe.out _ HB.out).mono ?_
    rintro e v ⟨g,rfl,hrb,hgl,hb⟩
    have HRB:=Lib.hid hrb
    have HGl:=Lib.hid hgl
    have HB2:=Lib.hid (after HB.out hb)
    have HB1:=Lib.hid HB.out.size
    clear hrb hgl hb
    go_wp2
    go_ret2
    unfold ReachR
    rw [if_pos HY.out]
    exact ⟨g,by rw [reachB_len];rfl,HRB.out,Nat.le_trans HB1.out HGl.out,HB2.out⟩
end Go.Proofs.YthkolmebokfagaaGreatDoor
