/- shrink's law: ShrinkLeft: what its loops make, plain; rows of units of the call's own. shrink's law: ShrinkLeft. -/
import Derived.Test.YtbabckomagkjbaaGreatDoorsU
import Derived.Test.YtbabckomagkjbaaGreatDoorsZ
import Derived.Test.YtbabckomagkjbaaGreatDoors1
set_option maxRecDepth 100000
set_option maxHeartbeats 12000000
set_option linter.unusedVariables false
set_option linter.unusedSimpArgs false
namespace Go.Proofs.YtbabckomagkjbaaGreatDoor
open Go.ChangeShapes Go.WideShapes Go.Deep Go.RowKit
def plK (st:List Nat) (n:Nat):Nat->List Int
 | 0=>List.replicate n 0
 | k+1=>match st[k]? with | some p=>(plK st n k).set p (k:Int) | none=>plK st n k
theorem plK_in {st:List Nat} {n k p:Nat} (h:st[k]?=some p):(plK st n k).set p (k:Int)=plK st n (k+1):=by
 show _=(match st[k]? with | some p=>(plK st n k).set p (k:Int) | none=>plK st n k)
 rw [h]
theorem plK_len (st:List Nat) (n:Nat):∀ k,(plK st n k).length=n
 | 0=>by simp [plK]
 | k+1=>by
  have:=plK_len st n k
  unfold plK
  split
  ·rw [List.length_set];exact this
  ·exact this
theorem plK_get {st:List Nat} {n q p:Nat} (hn:st.Nodup) (hp:p < n) (hq:st[q]?=some p):∀ k,q < k->(plK st n k)[p]?=some (q:Int)
 | 0,h=>by omega
 | k+1,h=>by
  have hl:=plK_len st n k
  cases hk:st[k]? with
  | none=>
   have h1:=(List.getElem?_eq_some_iff.1 hq).1
   have h2:=List.getElem?_eq_none_iff.1 hk
   have h3:plK st n (k+1)=plK st n k:=by
    show (match st[k]? with | some p=>(plK st n k).set p (k:Int) | none=>plK st n k)=_
    rw [hk]
   rw [h3]
   exact plK_get hn hp hq k (by omega)
  | some x=>
   rw [<-plK_in hk]
   by_cases e:q=k
   ·subst e
    rw [hq] at hk;cases hk
    rw [List.getElem?_set_self (by omega)]
   ·have hne:x ≠ p:=by
     intro e2
     subst e2
     obtain ⟨l1,e1⟩:=List.getElem?_eq_some_iff.1 hq
     obtain ⟨l2,e3⟩:=List.getElem?_eq_some_iff.1 hk
     exact List.pairwise_iff_getElem.1 hn q k l1 l2 (by omega) (e1.trans e3.symm)
    rw [List.getElem?_set_ne hne]
    exact plK_get hn hp hq k (by omega)
def turnR (pl:List Int) (r:Rl):Rl:=⟨r.pos,r.kind,(pl[r.sym.toNat]?).getD 0,r.add⟩
def half (f:Rl->Rl) (l:List Rl) (j:Nat):List Rl:=(l.take j).map f ++ l.drop j
theorem half_zero (f:Rl->Rl) (l:List Rl):half f l 0=l:=by simp [half]
theorem half_all (f:Rl->Rl) (l:List Rl):half f l l.length=l.map f:=by simp [half]
theorem half_get {f:Rl->Rl} {l:List Rl} {j:Nat} {r:Rl} (h:l[j]?=some r):(half f l j)[j]?=some r:=by
 have hj:=(List.getElem?_eq_some_iff.1 h).1
 unfold half
 rw [List.getElem?_append_right (by simp;omega),List.getElem?_drop,List.length_map,List.length_take]
 rw [show j+(j - min j l.length)=j by omega];exact h
theorem half_set {f:Rl->Rl} {l:List Rl} {j:Nat} {r:Rl} (h:l[j]?=some r):(half f l j).set j (f r)=half f l (j+1):=by
 have hj:=(List.getElem?_eq_some_iff.1 h).1
 have he:=(List.getElem?_eq_some_iff.1 h).2
 have hm:((l.take j).map f).length=j:=by simp;omega
 unfold half
 rw [List.set_append_right _ _ (by omega),hm,Nat.sub_self,List.drop_eq_getElem_cons hj,he,List.set_cons_zero,List.take_add_one,h,List.map_append,List.append_assoc]
 rfl
def kpJ (S:List Sc) (rep:List Int) (p:Nat):Nat->Bool
 | 0=>keepB S p
 | j+1=>kpJ S rep p j || (keepB S j && decide (rep[j]?=some (p:Int)))
theorem kpJ_any (S:List Sc) (rep:List Int) (p:Nat):∀ j,kpJ S rep p j=(keepB S p || (List.range j).any (fun (x:Nat)=>decide (rep[x]?=some (p:Int)) && keepB S x))
 | 0=>by simp [kpJ]
 | j+1=>by
  show (kpJ S rep p j || _)=_
  rw [kpJ_any S rep p j,List.range_succ,List.any_append,Bool.or_assoc]
  simp [Bool.and_comm]
theorem kpJ_all {S:List Sc} {rep:List Int} {p:Nat} (h:rep[p]?=some (p:Int)):kpJ S rep p rep.length=keepK S rep p:=by
 rw [kpJ_any]
 unfold keepK
 cases hk:keepB S p
 ·simp
 ·symm
  rw [Bool.true_or,List.any_eq_true]
  exact ⟨p,by simpa using (List.getElem?_eq_some_iff.1 h).1,by simp [h,hk]⟩
theorem turn_new {S:List Sc} {rep:List Int} {r:Rl} {y n:Nat} (hq:RepsQ S rep) (hn:n=S.length) (hy:rep[r.sym.toNat]?=some (y:Int)):
  turnR (plK (standL S rep) n (standL S rep).length) (newRl rep r)=newRel S rep r:=by
 obtain ⟨h1,h2⟩:=rep_self hq hy
 rw [newRel_is hy]
 unfold turnR newRl
 simp only [hy,Option.getD_some,Int.toNat_natCast]
 rw [plK_get (stand_nodup S rep) (by omega) (place_get h1) _ (place_lt h1)]
 rfl
theorem new_rels {S:List Sc} {rep:List Int} {k n:Nat} {s:Sc} (hu:unitsR S=true) (hq:RepsQ S rep) (hl:LeadQ S rep) (hn:n=S.length) (hs:S[k]?=some s) (hk:rep[k]?=some (k:Int)):
  (refsK S rep k).map (turnR (plK (standL S rep) n (standL S rep).length))=s.rels.map (newRel S rep):=by
 rw [refsK_get hs,List.map_map]
 apply List.map_congr_left
 intro r hr
 obtain ⟨y,hy⟩:=lead_at hu hq hl hk hs hr
 exact turn_new hq hn hy
theorem refs_rng {S:List Sc} {rep:List Int} {k:Nat} {s:Sc} {q:Nat} {r:Rl} (hu:unitsR S=true) (hq:RepsQ S rep) (hl:LeadQ S rep) (hs:S[k]?=some s) (hk:rep[k]?=some (k:Int)) (hr:(refsK S rep k)[q]?=some r):
  ∃ y i:Nat,r.sym=(y:Int)/\y < S.length/\(plK (standL S rep) S.length (standL S rep).length)[y]?=some (i:Int)/\turnR (plK (standL S rep) S.length (standL S rep).length) r=⟨r.pos,r.kind,(i:Int),r.add⟩:=by
 rw [refsK_get hs,List.getElem?_map,Option.map_eq_some_iff] at hr
 obtain ⟨x,hx,rfl⟩:=hr
 obtain ⟨y,hy⟩:=lead_at hu hq hl hk hs (List.mem_of_getElem? hx)
 obtain ⟨h1,h2⟩:=rep_self hq hy
 have hg:=plK_get (stand_nodup S rep) h2 (place_get h1) _ (place_lt h1)
 have hsy:(newRl rep x).sym=(y:Int):=by unfold newRl;simp only [hy,Option.getD_some]
 exact ⟨y,placeN S rep y,hsy,h2,hg,by unfold turnR;rw [hsy,Int.toNat_natCast,hg];rfl⟩
theorem newS_rels (S:List Sc) (rep:List Int) (k:Nat) {s:Sc} (hs:S[k]?=some s):newS S rep k=⟨s.name,s.kind,keepK S rep k,mostN S rep k rep.length,s.data,s.rels.map (newRel S rep)⟩:=by
 unfold newS;rw [hs]
theorem newS_good {S:List Sc} {rep:List Int} {k:Nat} (hu:unitsR S=true) (hg:∀ s ∈ S,GoodSc s) (hk:k < S.length) (h2:(standL S rep).length<=256):GoodSc (newS S rep k)/\(newS S rep k).rels.length*32<=reachBytes:=by
 have hs:=List.getElem?_eq_getElem hk
 have hok:=(units_sec hu hs).1
 have hgk:=hg _ (List.getElem_mem hk)
 rw [newS_rels S rep k hs]
 have h1:=mostN_pos (S:=S) (rep:=rep) (a:=k) rep.length
 have h3:=mostN_le (rep:=rep) (a:=k) hu rep.length
 refine ⟨⟨hgk.name,hgk.kind,by simp only [i64ok];omega,hgk.data,fun r hr=>?_⟩,?_⟩
 ·obtain ⟨x,hx,rfl⟩:=List.mem_map.1 hr
  obtain ⟨a,b,c,d⟩:=hgk.rels x hx
  have hp:placeN S rep ((rep[x.sym.toNat]?).getD 0).toNat<=(standL S rep).length:=List.idxOf_le_length
  refine ⟨a,b,?_,d⟩
  show i64ok ((placeN S rep _:Nat):Int)
  simp only [i64ok];omega
 ·have:=hok.rels
  simp only [List.length_map]
  unfold reachBytes
  omega
theorem info_unit:(Tryz.prog.info? 43).map (fun i=>(i.zero,i.size,i.bytes))=some (some (.agg #[.string ⟨#[]⟩,.int .i64 0,.bool false,.int .i64 0,.string ⟨#[]⟩,.slice none 0 0]),6,80):=by kernel_rfl
theorem ms_one (m:Ms):∀ u ∈ msC m,u.oneCell'=true:=by
 intro u hu
 simp only [msC,List.mem_cons,List.not_mem_nil,or_false] at hu
 rcases hu with rfl | rfl | rfl | rfl | rfl | rfl <;> rfl
theorem own_apart {u:World} {B B' e e' sz sz' n n':Nat} {v v':Value} {xs xs':List Value} (h:u.ownsRow B e sz v n xs) (h':u.ownsRow B' e' sz' v' n' xs') (he:e ≠ e'):v.ownBlock=none\/v.ownBlock ≠ v'.ownBlock:=by
 rcases h.2 with ⟨hv,-⟩ | ⟨g,cap,cur,hv,hb,hg,-⟩
 ·subst hv;exact .inl rfl
 ·right
  rcases h'.2 with ⟨hv',-⟩ | ⟨g',cap',cur',hv',hb',hg',-⟩
  ·subst hv;subst hv';intro e;cases e
  ·subst hv;subst hv'
   intro e
   simp only [Value.ownBlock,Option.some.injEq] at e
   subst e
   rw [hg] at hg'
   simp only [Option.some.injEq,Obj.cells.injEq] at hg'
   exact he hg'.2.1
theorem owns_same {w w':World} {base:Nat} {e:TypeId} {size:Nat} {v:Value} {n:Nat} {xs:List Value} (h:w.ownsRow base e size v n xs) (hk:∀ g,v.ownBlock=some g->w'.heap[g]?=w.heap[g]?):w'.ownsRow base e size v n xs:=by
 refine ⟨h.1,?_⟩
 rcases h.2 with hn | ⟨g,cap,cur,rfl,hbg,hgg,rest⟩
 ·exact .inl hn
 ·exact .inr ⟨g,cap,cur,rfl,hbg,(hk g rfl).trans hgg,rest⟩
abbrev OwnR (u:World) (B:Nat) (m:Ms):Prop:=u.ownsRow B 61 4 (.slice m.ad m.sc.rels.length m.cap) m.sc.rels.length (m.sc.rels.flatMap rlC)
structure VI (w u:World) (Lv:List Ms) (a:Option Addr) (c:Nat):Prop where
 oo:u.ownsRow w.heap.size 43 6 (.slice a Lv.length c) Lv.length (Lv.flatMap msC)
 nn:∀ m ∈ Lv,OwnR u w.heap.size m
 kk:Below w.heap.size w u
theorem VI.next {w u v:World} {L:List Ms} {a:Option Addr} {c:Nat} (h:VI w u L a c) (hb:Below u.heap.size u v):VI w v L a c:=⟨owns_next h.oo hb,fun m hm=>owns_next (h.nn m hm) hb,after h.kk hb⟩
theorem VI.sl {w u:World} {L:List Ms} {a:Option Addr} {c:Nat} (h:VI w u L a c):SL msC 6 u u.heap.size a L.length L:=by
 obtain ⟨a',c',e,h',-⟩:=SL.ofOwns ms_len (by decide) h.oo
 injection e with e1 e2 e3
 subst e1
 exact h'
theorem VI.notes {w u:World} {L:List Ms} {a:Option Addr} {c:Nat} (h:VI w u L a c):Notes u u.heap.size L:=fun m hm=>by
 obtain ⟨a',c',e,h',-⟩:=SL.ofOwns rl_len (by decide) (h.nn m hm)
 injection e with e1 e2 e3
 subst e1
 exact h'
theorem VI.grow {w u w2:World} {L:List Ms} {a a':Option Addr} {c c':Nat} {m:Ms} (h:VI w u L a c) (hm:OwnR u w.heap.size m) (hown:w2.ownsRow w.heap.size 43 6 (.slice a' (L.length+1) c') (L.length+1) (L.flatMap msC ++ msC m))
  (hgrow:(u.alloc (.cells (msC m).toArray 43)).grownBy w2 (Value.slice a L.length c).ownBlock):VI w w2 (L ++ [m]) a' c':=by
 have key:∀ x,OwnR u w.heap.size x->OwnR w2 w.heap.size x:=by
  intro x hx
  refine owns_same (hx.alloc (.cells (msC m).toArray 43)) (fun g hg=>?_)
  have hl:=hx.lt g hg
  refine hgrow.block g (by rw [World.size_alloc];omega) (fun e=>?_)
  rcases own_apart hx h.oo (by decide) with h1 | h1
  ·rw [h1] at hg;cases hg
  ·rw [<-e] at h1;exact h1 hg
 refine ⟨by simpa [List.flatMap_append] using hown,fun x hx=>?_,?_⟩
 ·rcases List.mem_append.1 hx with hx | hx
  ·exact key x (h.nn x hx)
  ·rw [List.mem_singleton.1 hx];exact key m hm
 ·exact (h.kk.alloc h.kk.size _).grown hgrow (by have:=h.kk.size;rw [World.size_alloc];omega) (fun j hj=>(h.oo.lt j hj).1)
theorem VI.nil (w:World):VI w w [] none 0:=⟨World.ownsRow_nil _ _ _ _,(fun m hm=>by cases hm),Below.refl _ _⟩
structure XR (w u:World) (X:Nat) (A:Array Value):Prop where
 rb:RB u X A 43
 kk:KP X w u
theorem XR.set {w u:World} {X:Nat} {A:Array Value} (h:XR w u X A) (j:Nat) (x:Value):XR w (u.setCell ⟨X,j,none⟩ x) X (A.setIfInBounds j x):=⟨h.rb.set x,KP.trans' h.kk (KP.step X u j x)⟩
theorem XR.next {w u v:World} {X:Nat} {A:Array Value} (h:XR w u X A) (hb:Below u.heap.size u v):XR w v X A:=⟨h.rb.next hb,KP.trans' h.kk (KP.of_below hb)⟩
theorem ShrinkLeft_no (w:World) (ua:Option Addr) (un uc:Nat) (L:List Ms) (hun:un<=maxLen) (hs:SL msC 6 w w.heap.size ua un L) (hno:Notes w w.heap.size L) (hg:∀ m ∈ L,GoodSc m.sc) (hb:∀ m ∈ L,m.sc.rels.length*32<=reachBytes)
  (e0:Int) (he : -9223372036854775808<=e0/\e0<=9223372036854775807) (hT:TabP w) (hok:¬ (unitsR (L.map (·.sc))=true/\0<=e0/\e0 < (un:Int))):
  Calls Tryz.prog 7 #[.slice ua un uc,.int .i64 e0] w (RetB (.bool true) w):=by
 have hni:(un:Int)<=9223372036854775807:=by unfold maxLen at hun;omega
 have HBg:Hid (∀ u,Below w.heap.size w u->Calls Tryz.prog 8 #[.slice ua un uc] u (BoolP u)):=Lib.hid fun u hu=>rBigU_any ua un uc L u hun (hs.next hu) (hno.next hu) hb
 have HSk:Hid (∀ u,Below w.heap.size w u->Calls Tryz.prog 29 #[] u (RetB (.bool true) u)):=Lib.hid fun u hu=>shrunk_is u (hT.next hu)
 have HIs:Hid (∀ u,Below w.heap.size w u->Calls Tryz.prog 15 #[.slice ua un uc] u (RetB (.bool (unitsR (L.map (·.sc)))) u)):=Lib.hid fun u hu=>gIs_any ua un uc L u hun (hs.next hu) (hno.next hu) hg hb (hT.next hu)
 have HB:Hid (Below w.heap.size w w):=Lib.hid (Below.refl _ w)
 have HSn:Hid (∀ u,Below w.heap.size w u->Calls Tryz.prog 27 #[.slice ua un uc,.int .i64 e0] u (RetB (.tuple #[.agg #[.slice none 0 0,.slice none 0 0,.slice none 0 0],.int .i64 1]) u)):=Lib.hid fun u hu=>shrink_no u ua un uc L e0 hun (hs.next hu) (hno.next hu) hg hb (hT.next hu) hok
 obtain ⟨R,hR⟩:∃ R,R=unitsR (L.map (·.sc)):=⟨_,rfl⟩
 rw [<-hR] at HIs hok
 have HOk:Hid (¬ (R=true/\0<=e0/\e0 < (un:Int))):=Lib.hid hok
 clear hs hno hg hb hT hun hok he hR
 go_enter Tryz.func7,Tryz.ntmps7
 go_wp2_with fail
 refine (HBg.out _ HB.out).mono ?_
 rintro e u ⟨r,rfl,hb⟩
 replace HB:=Lib.hid (after HB.out hb)
 clear hb
 cases r
 rotate_left
 ·go_wp2
  go_ret
  exact ⟨rfl,HB.out⟩
 go_wp2_with fail
 refine (HSn.out _ HB.out).mono ?_
 rintro e u2 ⟨rfl,hb⟩
 replace HB:=Lib.hid (after HB.out hb)
 clear hb
 obtain ⟨V1,hV1⟩:∃ x,x=u2.alloc (.cells #[.slice none 0 0,.slice none 0 0,.slice none 0 0] 46):=⟨_,rfl⟩
 have hbv:Below u2.heap.size u2 V1:=by rw [hV1];exact lit_below _ _
 replace HB:=Lib.hid (after HB.out hbv)
 have HVE:Hid (u2.alloc (.cells #[.slice none 0 0,.slice none 0 0,.slice none 0 0] 46)=V1):=Lib.hid hV1.symm
 clear hV1 hbv
 go_wp2_with fail
 rw [HVE.out]
 refine (HSk.out _ HB.out).mono ?_
 rintro e u4 ⟨rfl,hb⟩
 replace HB:=Lib.hid (after HB.out hb)
 clear hb
 go_wp2_with fail
 refine (HIs.out _ HB.out).mono ?_
 rintro e u5 ⟨rfl,hb⟩
 replace HB:=Lib.hid (after HB.out hb)
 clear hb
 cases R
 ·go_wp2
  go_ret
  exact ⟨rfl,HB.out⟩
 ·have hcs:e0 < 0\/(¬ e0 < 0/\(un:Int)<=e0):=by
   have:=HOk.out
   simp only [true_and] at this
   omega
  rcases hcs with h | ⟨h1,h2⟩
  ·go_wp2
   go_ret
   exact ⟨rfl,HB.out⟩
  ·have h3:¬ e0 < (un:Int):=by omega
   clear HOk
   go_wp2
   go_ret
   exact ⟨rfl,HB.out⟩
end Go.Proofs.YtbabckomagkjbaaGreatDoor
namespace Go.Proofs.YtbabckomagkjbaaGreatDoor
open Go.ChangeShapes Go.WideShapes Go.Deep Go.RowKit
theorem stand_few2 {S:List Sc} {rep:List Int} (h:rep.length<=256):(standL S rep).length<=256:=by
 rw [standL_len];exact Nat.le_trans (selfL_len rep) h
theorem ShrinkLeft_walk (w:World) (ua:Option Addr) (un uc:Nat) (L:List Ms) (hun:un<=maxLen) (hs:SL msC 6 w w.heap.size ua un L) (hno:Notes w w.heap.size L) (hg:∀ m ∈ L,GoodSc m.sc) (hb:∀ m ∈ L,m.sc.rels.length*32<=reachBytes)
  (e0:Int) (he : -9223372036854775808<=e0/\e0<=9223372036854775807) (hT:TabP w):
  Calls Tryz.prog 7 #[.slice ua un uc,.int .i64 e0] w (RetB (.bool true) w):=by
 by_cases hok:unitsR (L.map (·.sc))=true/\0<=e0/\e0 < (un:Int)
 rotate_left
 ·exact ShrinkLeft_no w ua un uc L hun hs hno hg hb e0 he hT hok
 have hlen:(L.map (·.sc)).length=un:=by rw [List.length_map];exact hs.len.symm
 have hn2:un<=256:=by have:=units_len hok.1;rw [hlen] at this;exact this
 have hn3:(un:Int)<=256:=by omega
 have HBg:Hid (∀ u,Below w.heap.size w u->Calls Tryz.prog 8 #[.slice ua un uc] u (BoolP u)):=Lib.hid fun u hu=>rBigU_any ua un uc L u hun (hs.next hu) (hno.next hu) hb
 have HSk:Hid (∀ u,Below w.heap.size w u->Calls Tryz.prog 29 #[] u (RetB (.bool true) u)):=Lib.hid fun u hu=>shrunk_is u (hT.next hu)
 have HSy:Hid (∀ u,Below w.heap.size w u->Calls Tryz.prog 27 #[.slice ua un uc,.int .i64 e0] u (ShrP (L.map (·.sc)) e0 un u)):=Lib.hid fun u hu=>shrink_yes u ua un uc L e0 hun (hs.next hu) (hno.next hu) hg hb (hT.next hu) hok
 have HIs:Hid (∀ u Z rc la ln lc aa an ac rep live align,Below w.heap.size w u->SL enZ 1 u u.heap.size (some ⟨Z,0,none⟩) un rep->SL enZ 1 u u.heap.size la ln live->SL enZ 1 u u.heap.size aa an align->ln<=maxLen->an<=maxLen->Calls Tryz.prog 39 #[.slice ua un uc,.agg #[.slice (some ⟨Z,0,none⟩) un rc,.slice la ln lc,.slice aa an ac]] u (IffP (IsQ (L.map (·.sc)) rep live align) u)):=Lib.hid fun u Z rc la ln lc aa an ac rep live align hu h1 h2 h3 h4 h5=>shrIs_any u ua un uc L _ un rc rep la ln lc live aa an ac align hun (hs.next hu) (hno.next hu) hg hb h1 h2 h3 hun h4 h5 (hT.next hu)
 have HUn:=Lib.hid (fun u (hu:Below w.heap.size w u)=>hs.next hu)
 have HNo:=Lib.hid (fun u (hu:Below w.heap.size w u)=>hno.next hu)
 have HTn:=Lib.hid (fun u (hu:Below w.heap.size w u)=>hT.next hu)
 have HGs:Hid (∀ s ∈ L.map (·.sc),GoodSc s):=Lib.hid (fun s hs=>by obtain ⟨m,hm,rfl⟩:=List.mem_map.1 hs;exact hg m hm)
 have HUl:=Lib.hid hs.len
 have HB:Hid (Below w.heap.size w w):=Lib.hid (Below.refl _ w)
 obtain ⟨S,hS⟩:∃ S,S=L.map (·.sc):=⟨_,rfl⟩
 rw [<-hS] at hlen hok HSy HIs HGs
 have HY:Hid (unitsR S=true):=Lib.hid hok.1
 have HLn:=Lib.hid hlen
 have HSe:=Lib.hid hS
 have HN2:=Lib.hid hn2
 obtain ⟨t,ht⟩:∃ t:Nat,e0=(t:Int):=⟨e0.toNat,by omega⟩
 subst ht
 have htn:(t:Int) < (un:Int):=hok.2.2
 have hmk:=make_ints un (by omega)
 obtain ⟨i0,hi0,hz00,hz01,hz02⟩:=info_parts info_unit
 have t00:((un:Int) != (un:Int))=false:=by simp
 clear hs hno hg hb hT hlen hun hok he hS hn2
 go_enter Tryz.func7,Tryz.ntmps7
 go_wp2_with fail
 refine (HBg.out _ HB.out).mono ?_
 rintro e u ⟨r,rfl,hb⟩
 replace HB:=Lib.hid (after HB.out hb)
 clear hb
 cases r
 rotate_left
 ·go_wp2
  go_ret
  exact ⟨rfl,HB.out⟩
 go_wp2_with fail
 refine (HSy.out _ HB.out).mono ?_
 rintro e u2 ⟨j,Z,la,lc,aa,ac,hfx,rfl,hz,hl,ha,hb⟩
 replace HB:=Lib.hid (after HB.out hb)
 obtain ⟨rep,hrep⟩:∃ x,x=endL (inS S (t:Int)) (foldN S (inS S (t:Int)) j):=⟨_,rfl⟩
 rw [<-hrep] at hz hl ha ⊢
 have hrl:rep.length=un:=by rw [hrep,endL_len,foldN_len];exact HLn.out
 have HRq:Hid (RepsQ S rep):=Lib.hid (by rw [hrep];exact left_reps HY.out (reachB_len _ _) hfx)
 have HLq:Hid (LeadQ S rep):=Lib.hid (by rw [hrep];exact left_lead HY.out (roots_in S _) hfx)
 have HIq:Hid (IsQ S rep ((standL S rep).map Int.ofNat) (alignL S rep)):=Lib.hid ⟨HY.out,HRq.out,HLq.out,rfl,rfl⟩
 have hsf:=stand_few2 (S:=S) (rep:=rep) (by rw [hrl];exact HN2.out)
 have HEn:Hid (∃ k:Nat,rep[t]?=some (k:Int)/\k < un/\rep[k]?=some (k:Int)):=Lib.hid (by
  have ht2:t < S.length:=by rw [HLn.out];omega
  obtain ⟨v,hv,hiff,-⟩:=left_iff (j:=j) (S:=S) (reachB_len S (rootZ S (t:Int))) ht2
  rw [show reachB S (rootZ S (t:Int))=inS S (t:Int) from rfl] at hv hiff
  rw [<-hrep] at hv
  have h0:0<=v:=hiff.2 (keep_in (e:=(t:Int)) (List.getElem?_eq_getElem ht2) (.inr rfl))
  have hv2:rep[t]?=some ((v.toNat:Nat):Int):=by rw [hv];congr 1;omega
  have h3:=rep_self HRq.out hv2
  exact ⟨v.toNat,hv2,by rw [<-HLn.out];exact h3.2,h3.1⟩)
 have HAg:Hid (∀ (k e' j':Nat),rep[t]?=some (k:Int)->e'=placeN S rep k->nextP (newR S rep) (inS (newR S rep) e') (foldN (newR S rep) (inS (newR S rep) e') j')=foldN (newR S rep) (inS (newR S rep) e') j'->unitsR (newR S rep)=true/\e' < (newR S rep).length/\
  (∀ i,i < (newR S rep).length->(endL (inS (newR S rep) e') (foldN (newR S rep) (inS (newR S rep) e') j'))[i]?=some (i:Int))/\
  alignL (newR S rep) (endL (inS (newR S rep) e') (foldN (newR S rep) (inS (newR S rep) e') j'))=alignL S rep):=Lib.hid (fun k e' j' h1 h2 h3=>again_stays HY.out (by rw [HLn.out];omega) hfx hrep h1 h2 h3)
 have HNr:Hid (unitsR (newR S rep)=true):=Lib.hid (newR_right HY.out HRq.out HLq.out)
 obtain ⟨st,hst⟩:∃ x,x=standL S rep:=⟨_,rfl⟩
 have HSt:=Lib.hid hst
 obtain ⟨ln,hln⟩:∃ x,x=st.length:=⟨_,rfl⟩
 have HLe:=Lib.hid hln
 rw [<-hst] at hl ha hsf HIq ⊢
 rw [<-hln] at hl ha hsf ⊢
 have HLv:Hid (∀ i,i < ln->∃ p:Nat,st[i]?=some p/\p < un/\rep[p]?=some (p:Int)/\(alignL S rep)[i]?=some (mostN S rep p un)):=Lib.hid (fun i hi=>by
  have hg:=List.getElem?_eq_getElem (show i < st.length by omega)
  have hr:=stand_rep (S:=S) (rep:=rep) (i:=i) (by rw [<-hst];exact hg)
  refine ⟨_,hg,?_,hr,?_⟩
  ·have:=(List.getElem?_eq_some_iff.1 hr).1;omega
  ·unfold alignL;rw [<-hst,List.getElem?_map,hg,hrl];rfl)
 have HRl:=Lib.hid hrl
 have HLm:Hid (ln<=256):=Lib.hid (by omega)
 have hlni:(ln:Int)<=256:=by omega
 have t01:((ln:Int) != (ln:Int))=false:=by simp
 obtain ⟨K,hK⟩:∃ x,x=u2.heap.size:=⟨_,rfl⟩
 obtain ⟨V1,hV1⟩:∃ x,x=u2.alloc (.cells #[.slice (some ⟨Z,0,none⟩) un un,.slice la ln lc,.slice aa ln ac] 46):=⟨_,rfl⟩
 obtain ⟨V2,hV2⟩:∃ x,x=V1.alloc (.cells (inA (List.replicate un 0)) 3):=⟨_,rfl⟩
 have hbv:Below u2.heap.size u2 V1:=by rw [hV1];exact lit_below _ _
 have hz1:V1.heap.size=K+1:=by rw [hV1,World.size_alloc,hK]
 have hbv2:Below V1.heap.size V1 V2:=by rw [hV2];exact lit_below _ _
 have hbv3:Below (K+1) V1 V2:=by rw [hz1] at hbv2;exact hbv2
 have HRK:Hid (RB V1 K #[.slice (some ⟨Z,0,none⟩) un un,.slice la ln lc,.slice aa ln ac] 46):=Lib.hid (by rw [hV1,hK];exact rb_new _ _ _)
 have HRP:Hid (RB V2 (K+1) (inA (plK st un 0)) 3):=Lib.hid (by rw [hV2,<-hz1];exact rb_new _ _ _)
 have HcK:Hid (∀ v,Below (K+1) V2 v->RB v K #[.slice (some ⟨Z,0,none⟩) un un,.slice la ln lc,.slice aa ln ac] 46):=Lib.hid (fun v hv=>((hbv3.trans hv).block K (by omega)).trans HRK.out)
 have hZl:Z < K:=by rw [hK];exact lt_of_block hz
 have HcZ:Hid (∀ v,Below (K+1) V2 v->RB v Z (inA rep) 3):=Lib.hid (fun v hv=>((hbv3.trans hv).block Z (by omega)).trans (hz.next hbv))
 have h2z:V2.heap.size=K+1+1:=by rw [hV2,World.size_alloc,hz1]
 have HcL:Hid (∀ v,Below (K+1) V2 v->SL enZ 1 v v.heap.size la ln (st.map Int.ofNat)):=Lib.hid (fun v hv=>by
  have h1:=hl.next hbv
  rw [hz1] at h1
  exact (h1.below (hbv3.trans hv)).up (by have:=hv.size;omega))
 have HcA:Hid (∀ v,Below (K+1) V2 v->SL enZ 1 v v.heap.size aa ln (alignL S rep)):=Lib.hid (fun v hv=>by
  have h1:=ha.next hbv
  rw [hz1] at h1
  exact (h1.below (hbv3.trans hv)).up (by have:=hv.size;omega))
 have HcW:Hid (∀ v,Below (K+1) V2 v->Below w.heap.size w v):=Lib.hid (fun v hv=>(after HB.out hbv).trans ((hbv3.trans hv).mono (by have:=(after HB.out hbv).size;omega)))
 have HVE:Hid ((u2.alloc (.cells #[.slice (some ⟨Z,0,none⟩) un un,.slice la ln lc,.slice aa ln ac] 46)).alloc (.cells (inA (List.replicate un 0)) 3)=V2):=Lib.hid (by rw [hV2,hV1])
 have HKe:=Lib.hid hK
 have HzZ:=Lib.hid hZl
 have Hz2:=Lib.hid h2z
 have x0:V1.cell? ⟨K,0,none⟩=some (.slice (some ⟨Z,0,none⟩) un un):=HRK.out.cell
 have x1:V1.cell? ⟨K,1,none⟩=some (.slice la ln lc):=HRK.out.cell
 have x2:V1.cell? ⟨K,2,none⟩=some (.slice aa ln ac):=HRK.out.cell
 rw [hV1,hK] at x0 x1 x2
 clear hV1 hV2 hbv hbv2 hbv3 hz1 hK hz hl ha hb hfx hrep hrl hsf hst hln hZl h2z HSy HRK
 go_wp2_with fail
 rw [HVE.out,<-HKe.out]
 clear x0 x1 x2 hmk
 go_loopw [8] (fun iv wr=>∃ (i:Nat) (wx:World),wx=wr/\i<=ln/\iv=.int .i64 i/\Hid (Below (K+1) V2 wx)/\Hid (RB wx (K+1) (inA (plK st un i)) 3)) (fun iv _=>ln - (intOf iv).toNat)
 case atStart=>exact ⟨0,_,rfl,by omega,rfl,Lib.hid (Below.refl _ _),HRP⟩
 case round=>
  clear HRP
  obtain ⟨i,wx,rfl,hi,rfl,HK,HP⟩:=hrel
  have x1:wx.cell? ⟨K,1,none⟩=some (.slice la ln lc):=(HcK.out _ HK.out).cell
  by_cases hlt:i < ln
  ·have hlti:(i:Int) < (ln:Int):=by omega
   have HLT:=Lib.hid hlt
   obtain ⟨p,hp1,hp2,hp3,-⟩:=HLv.out i hlt
   have hls:=HcL.out _ HK.out
   have hlp:(st.map Int.ofNat)[i]?=some (p:Int):=by rw [List.getElem?_map,hp1];rfl
   obtain ⟨lb,lo,hla,-,-⟩:=hls.cells (by intro e;rw [e] at hlp;cases hlp)
   subst hla
   have l0:wx.cell? ⟨lb,lo+i,none⟩=some (.int .i64 (p:Int)):=ints_cells hls (Below.refl _ _) hlp
   have hpi:(p:Int) < (un:Int):=by omega
   have f0:wx.frozen? ⟨K+1,p,none⟩=false:=HP.out.frozen
   have z0:wx.cell? ⟨K+1,p,none⟩=some (.int .i64 0)\/True:=.inr trivial
   have HP1:Hid (RB (wx.setCell ⟨K+1,p,none⟩ (.int .i64 (i:Int))) (K+1) (inA (plK st un (i+1))) 3):=Lib.hid (by
    have:=HP.out.set (j:=p) (.int .i64 (i:Int))
    rw [inA_set,plK_in hp1] at this
    exact this)
   have HK1:Hid (Below (K+1) V2 (wx.setCell ⟨K+1,p,none⟩ (.int .i64 (i:Int)))):=Lib.hid (HK.out.setCell (p:=⟨K+1,p,none⟩) (Nat.le_refl _) _)
   obtain ⟨z,hz⟩:∃ z,wx.cell? ⟨K+1,p,none⟩=some (.int .i64 z):=⟨_,by rw [HP.out.cell];exact inA_get (List.getElem?_eq_getElem (by rw [plK_len];exact hp2))⟩
   clear hlt hi hp1 hp2 hp3 hls hlp z0
   go_wp2
   go_roundw
   case rel=>exact ⟨i+1,_,rfl,by have:=HLT.out;omega,by go_num,HK1,HP1⟩
   case measure=>have:=HLT.out;simp [intOf];omega
  ·have hnlt:¬ (i:Int) < (ln:Int):=by omega
   have hie:i=ln:=by omega
   have HPl:Hid (RB wx (K+1) (inA (plK st un ln)) 3):=Lib.hid (by rw [<-hie];exact HP.out)
   have HV0:Hid (VI wx wx [] none 0):=Lib.hid (VI.nil wx)
   clear hi hlt hie HP
   obtain ⟨V3,hV3⟩:∃ x,x=wx:=⟨_,rfl⟩
   rw [<-hV3] at HK HPl HV0 x1 ⊢
   clear hV3
   go_wp2_with fail
   clear x1
   go_loopw [9,10] (fun vv iv wr=>∃ (i:Nat) (wx:World) (Lv:List Ms) (a:Option Addr) (m c:Nat),wx=wr/\i<=ln/\vv=.slice a m c/\iv=.int .i64 i/\Hid (m=Lv.length)/\Hid (VI V3 wx Lv a c)/\Hid (Lv.map (·.sc)=(st.take i).map (newS S rep))) (fun _ iv _=>ln - (intOf iv).toNat)
   case atStart=>exact ⟨0,_,[],none,0,0,rfl,by omega,rfl,rfl,Lib.hid rfl,HV0,Lib.hid rfl⟩
   case round=>
    clear HV0
    obtain ⟨i,wx,Lv,a,m,c,rfl,hi,rfl,rfl,HM,HV,HSc⟩:=hrel
    have HKx:Hid (Below (K+1) V2 wx):=Lib.hid (HK.out.trans (HV.out.kk.mono (by have:=HK.out.size;have:=Hz2.out;omega)))
    have x1:wx.cell? ⟨K,1,none⟩=some (.slice la ln lc):=(HcK.out _ HKx.out).cell
    by_cases hlt:i < ln
    ·have hlti:(i:Int) < (ln:Int):=by omega
     have HLT:=Lib.hid hlt
     obtain ⟨p,hp1,hp2,hp3,hp4⟩:=HLv.out i hlt
     have hpi:(p:Int) < (un:Int):=by omega
     have hls:=HcL.out _ HKx.out
     have has:=HcA.out _ HKx.out
     have hlp:(st.map Int.ofNat)[i]?=some (p:Int):=by rw [List.getElem?_map,hp1];rfl
     obtain ⟨lb,lo,hla,hlbl,-⟩:=hls.cells (by intro e;rw [e] at hlp;cases hlp)
     obtain ⟨ab,ao,haa,habl,-⟩:=has.cells (by intro e;rw [e] at hp4;cases hp4)
     have Hab:Hid (ab < wx.heap.size/\lb < wx.heap.size):=Lib.hid ⟨habl,hlbl⟩
     subst hla
     subst haa
     obtain ⟨mo,hmo⟩:∃ z,z=mostN S rep p un:=⟨_,rfl⟩
     rw [<-hmo] at hp4
     have HcLc:Hid (∀ v,Below wx.heap.size wx v->v.cell? ⟨lb,lo+i,none⟩=some (.int .i64 (p:Int))):=Lib.hid (fun v hv=>ints_cells hls hv hlp)
     have HcAc:Hid (∀ v,Below wx.heap.size wx v->v.cell? ⟨ab,ao+i,none⟩=some (.int .i64 mo)):=Lib.hid (fun v hv=>ints_cells has hv hp4)
     have l0:=HcLc.out _ (Below.refl _ _)
     have hul:=HUn.out _ (HcW.out _ HKx.out)
     obtain ⟨mi,hmi⟩:∃ x,L[p]?=some x:=⟨_,List.getElem?_eq_getElem (by rw [<-HUl.out];exact hp2)⟩
     obtain ⟨ub,uo,hua,hubl,-⟩:=hul.cells (by intro e;rw [e] at hmi;cases hmi)
     subst hua
     obtain ⟨y0,y1,y2,y3,y4,y5⟩:=unit_cells hul (Below.refl _ _) hmi
     have HSp:Hid (S[p]?=some mi.sc):=Lib.hid (by rw [HSe.out,List.getElem?_map,hmi];rfl)
     have HP2:=Lib.hid (And.intro hp2 hp3)
     have HP1:=Lib.hid hp1
     have HMo:=Lib.hid hmo
     have HBx:=Lib.hid (HcW.out _ HKx.out)
     have HlB:Hid (K < wx.heap.size):=Lib.hid (by have:=HKx.out.size;have:=Hz2.out;omega)
     have HPx:Hid (RB wx (K+1) (inA (plK st un ln)) 3):=Lib.hid (HPl.out.next HV.out.kk)
     obtain ⟨⟨nm,ki,kp,al,dt,rl⟩,ad,cap⟩:=mi
     simp only at y0 y1 y2 y3 y4 y5 HSp
     obtain ⟨rn,hrn⟩:∃ x,x=rl.length:=⟨_,rfl⟩
     rw [<-hrn] at y5
     obtain ⟨N,hN⟩:∃ x:ByteArray,x=⟨nm.toArray⟩:=⟨_,rfl⟩
     obtain ⟨D,hD⟩:∃ x:ByteArray,x=⟨dt.toArray⟩:=⟨_,rfl⟩
     rw [<-hN] at y0
     rw [<-hD] at y4
     have HNe:=Lib.hid hN
     have HDe:=Lib.hid hD
     obtain ⟨X,hX⟩:∃ x,x=wx.heap.size:=⟨_,rfl⟩
     obtain ⟨W1,hW1⟩:∃ x,x=wx.alloc (.cells #[.string N,.int .i64 ki,.bool kp,.int .i64 al,.string D,.slice ad rn cap] 43):=⟨_,rfl⟩
     have hb1:Below wx.heap.size wx W1:=by rw [hW1];exact lit_below _ _
     have HX1:Hid (RB W1 X #[.string N,.int .i64 ki,.bool kp,.int .i64 al,.string D,.slice ad rn cap] 43):=Lib.hid (by rw [hW1,hX];exact rb_new _ _ _)
     have HB1:=Lib.hid hb1
     have HW1:Hid (wx.alloc (.cells #[.string N,.int .i64 ki,.bool kp,.int .i64 al,.string D,.slice ad rn cap] 43)=W1):=Lib.hid hW1.symm
     have HXe:=Lib.hid hX
     have HK1:Hid (∀ v,Below W1.heap.size W1 v->Below (K+1) V2 v):=Lib.hid (fun v hv=>HKx.out.trans ((after hb1 hv).mono (by have:=HlB.out;omega)))
     have HcKx:Hid (∀ v,Below (K+1) V2 v->RB v K #[.slice (some ⟨Z,0,none⟩) un un,.slice (some ⟨lb,lo,none⟩) ln lc,.slice (some ⟨ab,ao,none⟩) ln ac] 46):=Lib.hid HcK.out
     have Hub:Hid (ub < wx.heap.size):=Lib.hid hubl
     have HKp:Hid (∀ j,j < un->∃ ku:Bool,keepB S j=ku/\∀ v,Below wx.heap.size wx v->v.cell? ⟨ub,uo+j*6+2,none⟩=some (.bool ku)):=Lib.hid (fun j hj=>by
      obtain ⟨mj,hmj⟩:∃ x,L[j]?=some x:=⟨_,List.getElem?_eq_getElem (by rw [<-HUl.out];exact hj)⟩
      refine ⟨mj.sc.keep,by unfold keepB;rw [HSe.out,List.getElem?_map,hmj];rfl,fun v hv=>?_⟩
      exact (unit_cells hul hv hmj).2.2.1)
     clear habl hlbl hlt hi hp1 hp2 hp3 hp4 hls has hlp hmo hul hmi hrn hN hD hX hW1 hb1 hubl
     go_wp2_with fail
     rw [HW1.out,<-HXe.out]
     clear y0 y1 y2 y3 y4 y5 x1 l0
     obtain ⟨v0,hv0⟩:∃ x,x=W1.drew:=⟨_,rfl⟩
     have hbd:Below W1.heap.size W1 v0:=by rw [hv0];exact (Below.refl _ _).drew
     have HK20:Hid (∀ v,Below v0.heap.size v0 v->v.cell? ⟨K,0,none⟩=some (.slice (some ⟨Z,0,none⟩) un un)/\v.cell? ⟨K,1,none⟩=some (.slice (some ⟨lb,lo,none⟩) ln lc)/\v.cell? ⟨K,2,none⟩=some (.slice (some ⟨ab,ao,none⟩) ln ac)/\v.cell? ⟨lb,lo+i,none⟩=some (.int .i64 (p:Int))):=Lib.hid (fun v hv=>⟨(HcKx.out _ (HK1.out _ (after hbd hv))).cell,(HcKx.out _ (HK1.out _ (after hbd hv))).cell,(HcKx.out _ (HK1.out _ (after hbd hv))).cell,HcLc.out _ (after HB1.out (after hbd hv))⟩)
     have HRf:Hid (Calls Tryz.prog 33 #[.slice (some ⟨ub,uo,none⟩) un uc,.agg #[.slice (some ⟨Z,0,none⟩) un un,.slice (some ⟨lb,lo,none⟩) ln lc,.slice (some ⟨ab,ao,none⟩) ln ac],.int .i64 (p:Int)] v0 (RefsO (refsK S rep p) v0)):=Lib.hid (by
      have hk:=HK1.out _ hbd
      have h1:=rb_slI (HcZ.out _ hk)
      rw [HRl.out] at h1
      have h:=refs_own v0 (some ⟨ub,uo,none⟩) un uc L (some ⟨Z,0,none⟩) un rep (some ⟨lb,lo,none⟩) ln lc (st.map Int.ofNat) (some ⟨ab,ao,none⟩) ln ac (alignL S rep) p (HUn.out _ (HcW.out _ hk)) (HNo.out _ (HcW.out _ hk)) h1 (HcL.out _ hk) (by have:=HLm.out;unfold maxLen;omega) (fun u hu=>by
       have hk2:=hk.trans (hu.mono (by have:=hk.size;have:=Hz2.out;omega))
       have h2:=rb_slI (HcZ.out _ hk2)
       rw [HRl.out] at h2
       rw [<-HSe.out]
       exact HIs.out u Z un _ ln lc _ ln ac rep _ _ (HcW.out _ hk2) h2 (HcL.out _ hk2) (HcA.out _ hk2) (by have:=HLm.out;unfold maxLen;omega) (by have:=HLm.out;unfold maxLen;omega)) (by rw [<-HSe.out];exact HIq.out) (by
       exact List.mem_map.2 ⟨p,List.mem_of_getElem? HP1.out,rfl⟩)
      rw [<-HSe.out] at h
      exact h)
     have HV0:=Lib.hid hv0
     have HX0:=Lib.hid (HX1.out.next hbd)
     have HBd:=Lib.hid hbd
     clear hv0 hbd
     refine wp_region_held_drew (S:=fun v=>v.cell? ⟨K,0,none⟩=some (.slice (some ⟨Z,0,none⟩) un un)/\v.cell? ⟨K,1,none⟩=some (.slice (some ⟨lb,lo,none⟩) ln lc)/\v.cell? ⟨K,2,none⟩=some (.slice (some ⟨ab,ao,none⟩) ln ac)/\v.cell? ⟨lb,lo+i,none⟩=some (.int .i64 (p:Int))) (by kernel_rfl) (by rw [<-HV0.out];exact HK20.out _ (Below.refl _ _)) (fun hHeld=>?_)
     rw [<-HV0.out]
     have hHeld0:=HK20.out _ (Below.refl _ _)
     clear hHeld
     refine wpAnyH_take (i:=0) (v:=?_) rfl (by kernel_rfl) (by kernel_rfl) (by kernel_rfl) (fun _ _ _ h=>h) (Or.inl ⟨by kernel_rfl,?_⟩) hHeld0 ?_
     rotate_left 1
     ·intro w hSw;(try dsimp only at hSw);obtain ⟨y0,y1,y2,y3⟩:=hSw;go_simp;(try with_reducible rfl)
     (try simp only [Act.put,List.setIfInBounds_toArray,List.set_cons_zero,List.set_cons_succ])
     refine wpAnyH_take (i:=1) (v:=?_) rfl (by kernel_rfl) (by kernel_rfl) (by kernel_rfl) (fun _ _ _ h=>h) (Or.inl ⟨by kernel_rfl,?_⟩) hHeld0 ?_
     rotate_left 1
     ·intro w hSw;(try dsimp only at hSw);obtain ⟨y0,y1,y2,y3⟩:=hSw;go_simp;(try with_reducible rfl)
     (try simp only [Act.put,List.setIfInBounds_toArray,List.set_cons_zero,List.set_cons_succ])
     refine wpAnyH_take (i:=2) (v:=?_) rfl (by kernel_rfl) (by kernel_rfl) (by kernel_rfl) (fun _ _ _ h=>h) (Or.inl ⟨by kernel_rfl,?_⟩) hHeld0 ?_
     rotate_left 1
     ·intro w hSw;(try dsimp only at hSw);obtain ⟨y0,y1,y2,y3⟩:=hSw;go_simp;(try with_reducible rfl)
     (try simp only [Act.put,List.setIfInBounds_toArray,List.set_cons_zero,List.set_cons_succ])
     refine wpAnyH_take (i:=3) (v:=?_) rfl (by kernel_rfl) (by kernel_rfl) (by kernel_rfl) (fun _ _ _ h=>h) (Or.inl ⟨by kernel_rfl,?_⟩) hHeld0 ?_
     rotate_left 1
     ·intro w hSw;(try dsimp only at hSw);obtain ⟨y0,y1,y2,y3⟩:=hSw;go_simp;(try with_reducible rfl)
     (try simp only [Act.put,List.setIfInBounds_toArray,List.set_cons_zero,List.set_cons_succ])
     refine wpAnyH_take (i:=4) (v:=?_) rfl (by kernel_rfl) (by kernel_rfl) (by kernel_rfl) (fun _ _ _ h=>h) (Or.inl ⟨by kernel_rfl,?_⟩) hHeld0 ?_
     rotate_left 1
     ·intro w hSw;(try dsimp only at hSw);obtain ⟨y0,y1,y2,y3⟩:=hSw;go_simp;(try with_reducible rfl)
     (try simp only [Act.put,List.setIfInBounds_toArray,List.set_cons_zero,List.set_cons_succ])
     refine wpAnyH_take (i:=5) (v:=?_) rfl (by kernel_rfl) (by kernel_rfl) (by kernel_rfl) (fun _ _ _ h=>h) (Or.inl ⟨by kernel_rfl,?_⟩) hHeld0 ?_
     rotate_left 1
     ·intro w hSw;(try dsimp only at hSw);obtain ⟨y0,y1,y2,y3⟩:=hSw;go_simp;(try with_reducible rfl)
     (try simp only [Act.put,List.setIfInBounds_toArray,List.set_cons_zero,List.set_cons_succ])
     refine wpAnyH_take (i:=6) (v:=?_) rfl (by kernel_rfl) (by kernel_rfl) (by kernel_rfl) (fun _ _ _ h=>h) (Or.inl ⟨by kernel_rfl,?_⟩) hHeld0 ?_
     rotate_left 1
     ·intro w hSw;(try dsimp only at hSw);obtain ⟨y0,y1,y2,y3⟩:=hSw;go_simp;(try with_reducible rfl)
     (try simp only [Act.put,List.setIfInBounds_toArray,List.set_cons_zero,List.set_cons_succ])
     refine wpAnyH_ready (rs:=[7]) (by kernel_rfl) (by simp) ?_
     refine AllReadyH.cons rfl (fun K hK=>?_) ?_
     rotate_left 1
     ·exact AllReadyH.nil
     go_simp
     go_wp2_with (go_at_call 33;refine HRf.out.mono ?_;rintro e v ⟨ra,rc,rfl,hrr⟩)
     have HKv:=Lib.hid (HK20.out _ hrr.kk)
     have HRR:=Lib.hid hrr
     refine hK.out _ _ HKv.out (fun hHeld1=>?_)
     clear hK K hrr HK20
     refine wpAnyH_take (i:=8) (v:=?_) rfl (by kernel_rfl) (by kernel_rfl) (by kernel_rfl) (fun _ _ _ h=>h) (Or.inl ⟨by kernel_rfl,?_⟩) hHeld1 ?_
     rotate_left 1
     ·intro w hSw;(try dsimp only at hSw);obtain ⟨y0,y1,y2,y3⟩:=hSw;go_simp;(try with_reducible rfl)
     (try simp only [Act.put,List.setIfInBounds_toArray,List.set_cons_zero,List.set_cons_succ])
     refine wpAnyH_take (i:=9) (v:=?_) rfl (by kernel_rfl) (by kernel_rfl) (by kernel_rfl) (fun _ _ _ h=>h) (Or.inl ⟨by kernel_rfl,?_⟩) hHeld1 ?_
     rotate_left 1
     ·intro w hSw;(try dsimp only at hSw);obtain ⟨y0,y1,y2,y3⟩:=hSw;go_simp;(try with_reducible rfl)
     (try simp only [Act.put,List.setIfInBounds_toArray,List.set_cons_zero,List.set_cons_succ])
     refine wpAnyH_take (i:=10) (v:=?_) rfl (by kernel_rfl) (by kernel_rfl) (by kernel_rfl) (fun _ _ _ h=>h) (Or.inl ⟨by kernel_rfl,?_⟩) hHeld1 ?_
     rotate_left 1
     ·intro w hSw;(try dsimp only at hSw);obtain ⟨y0,y1,y2,y3⟩:=hSw;go_simp;(try with_reducible rfl)
     (try simp only [Act.put,List.setIfInBounds_toArray,List.set_cons_zero,List.set_cons_succ])
     refine wpAnyH_ready (rs:=[11]) (by kernel_rfl) (by simp) ?_
     refine AllReadyH.cons rfl (fun K hK=>?_) ?_
     rotate_left 1
     ·exact AllReadyH.nil
     go_simp
     refine hK.out _ _ (HKv.out) (fun hHeld2=>?_)
     clear hK K
     refine wpAnyH_ready (rs:=[12]) (by kernel_rfl) (by simp) ?_
     refine AllReadyH.cons rfl (fun K hK=>?_) ?_
     rotate_left 1
     ·exact AllReadyH.nil
     go_simp
     refine hK.out _ _ (HKv.out) (fun hHeld3=>?_)
     clear hK K
     refine wpAnyH_done (by kernel_rfl) ?_ _
     obtain ⟨rs,hrs⟩:∃ x,x=refsK S rep p:=⟨_,rfl⟩
     rw [<-hrs] at HRR ⊢
     obtain ⟨qn,hqn⟩:∃ x,x=rs.length:=⟨_,rfl⟩
     rw [<-hqn]
     obtain ⟨pl,hpl⟩:∃ x,x=plK st un ln:=⟨_,rfl⟩
     rw [<-hpl] at HPx
     have HRng:Hid (∀ q r,rs[q]?=some r->∃ y ii:Nat,r.sym=(y:Int)/\y < un/\pl[y]?=some (ii:Int)/\turnR pl r=⟨r.pos,r.kind,(ii:Int),r.add⟩):=Lib.hid (fun q r hr=>by
      have:=refs_rng (S:=S) HY.out HRq.out HLq.out HSp.out HP2.out.2 (by rw [<-hrs];exact hr)
      rw [HLn.out,<-HSt.out,<-HLe.out,<-hpl] at this
      exact this)
     have HNew:Hid (rs.map (turnR pl)=rl.map (newRel S rep)):=Lib.hid (by
      have:=new_rels (S:=S) (n:=un) HY.out HRq.out HLq.out HLn.out.symm HSp.out HP2.out.2
      rw [<-HSt.out,<-HLe.out,<-hpl,<-hrs] at this
      exact this)
     have HQn:=Lib.hid hqn
     have HPv:Hid (RB v0 (K+1) (inA pl) 3):=Lib.hid ((HPx.out.next HB1.out).next HBd.out)
     have HR0:Hid (RRf v0 v (half (turnR pl) rs 0) ra rc):=Lib.hid (by rw [half_zero];exact HRR.out)
     have hqi:(qn:Int)<=64:=by
      have h1:=(units_sec HY.out HSp.out).1.rels
      have h2:=congrArg List.length HNew.out
      simp only [List.length_map] at h1 h2
      omega
     clear hrs hqn hpl HKv hHeld1 hHeld2 hHeld3 HRR HRf
     go_wp2_with fail
     go_loopw [14] (fun jv wr=>∃ (q:Nat) (wy:World),wy=wr/\q<=qn/\jv=.int .i64 q/\Hid (RRf v0 wy (half (turnR pl) rs q) ra rc)) (fun jv _=>qn - (intOf jv).toNat)
     case atStart=>exact ⟨0,_,rfl,by omega,rfl,HR0⟩
     case round=>
      clear HR0
      obtain ⟨q,wy,rfl,hq,rfl,HRR⟩:=hrel
      by_cases hltq:q < qn
      ·have hltqi:(q:Int) < (qn:Int):=by omega
       have HLTq:=Lib.hid hltq
       obtain ⟨r,hr⟩:∃ r,rs[q]?=some r:=⟨_,List.getElem?_eq_getElem (by rw [<-HQn.out];exact hltq)⟩
       obtain ⟨y,ii,hy,hyn,hpy,htr⟩:=HRng.out q r hr
       obtain ⟨g,hra,hg,hgl,fz,c0,c1,c2,c3⟩:=HRR.out.at (half_get hr)
       subst hra
       rw [hy] at c2
       have hyi:(y:Int) < (un:Int):=by omega
       have p0:wy.cell? ⟨K+1,y,none⟩=some (.int .i64 (ii:Int)):=by rw [(HPv.out.next HRR.out.kk).cell];exact inA_get hpy
       have HR1:Hid (RRf v0 (wy.setCell ⟨g,q*4+2,none⟩ (.int .i64 (ii:Int))) (half (turnR pl) rs (q+1)) (some ⟨g,0,none⟩) rc):=Lib.hid (by
        have h:=HRR.out.put (half_get hr) (v:=(ii:Int))
        rw [<-htr,half_set hr] at h
        exact h)
       clear hltq hq hr hy hyn hpy htr hg hgl c0 c1 c3
       go_wp2
       go_roundw
       case rel=>exact ⟨q+1,_,rfl,by have:=HLTq.out;omega,by go_num,HR1⟩
       case measure=>have:=HLTq.out;simp [intOf];omega
      ·have hnq:¬ (q:Int) < (qn:Int):=by omega
       have hqe:q=rs.length:=by have:=HQn.out;omega
       have HRf:Hid (RRf v0 wy (rl.map (newRel S rep)) ra rc):=Lib.hid (by
        have h:=HRR.out
        rw [hqe,half_all,HNew.out] at h
        exact h)
       clear hq hltq hqe HRR
       obtain ⟨V4,hV4⟩:∃ x,x=wy:=⟨_,rfl⟩
       rw [<-hV4] at HRf ⊢
       clear hV4
       have HX4:=Lib.hid (HX0.out.next HRf.out.kk)
       have hB4:Below wx.heap.size wx V4:=after HB1.out (after HBd.out HRf.out.kk)
       have hk4:=HK1.out _ (after HBd.out HRf.out.kk)
       have k2:V4.cell? ⟨K,2,none⟩=some (.slice (some ⟨ab,ao,none⟩) ln ac):=(HcKx.out _ hk4).cell
       have a0:V4.cell? ⟨ab,ao+i,none⟩=some (.int .i64 mo):=HcAc.out _ hB4
       have hKX:K ≠ X:=by have:=HlB.out;have:=HXe.out;omega
       have haX:ab ≠ X:=by have:=Hab.out;have:=HXe.out;omega
       have hXK:X ≠ K:=Ne.symm hKX
       have hXa:X ≠ ab:=Ne.symm haX
       have f5:V4.frozen? ⟨X,5,none⟩=false:=HX4.out.frozen
       have f3:V4.frozen? ⟨X,3,none⟩=false:=HX4.out.frozen
       have g5:V4.cell? ⟨X,5,none⟩=some (.slice ad rn cap):=HX4.out.cell
       have g3:V4.cell? ⟨X,3,none⟩=some (.int .i64 al):=HX4.out.cell
       obtain ⟨V5,hV5⟩:∃ x,x=(V4.setCell ⟨X,5,none⟩ (.slice ra qn rc)).setCell ⟨X,3,none⟩ (.int .i64 mo):=⟨_,rfl⟩
       have HX5:Hid (XR V5 V5 X #[.string N,.int .i64 ki,.bool kp,.int .i64 mo,.string D,.slice ra qn rc]):=Lib.hid ⟨by
        have:=(HX4.out.set (j:=5) (.slice ra qn rc)).set (j:=3) (.int .i64 mo)
        rw [hV5]
        exact this,KP.refl _ _⟩
       have HB5:Hid (Below wx.heap.size wx V5):=Lib.hid (by
        rw [hV5]
        exact (hB4.setCell (p:=⟨X,5,none⟩) (by show _<=X;have:=HXe.out;omega) _).setCell (p:=⟨X,3,none⟩) (by show _<=X;have:=HXe.out;omega) _)
       have hXv:X < v0.heap.size:=lt_of_block HX0.out
       have HO5:Hid (V5.ownsRow v0.heap.size 61 4 (.slice ra (rl.map (newRel S rep)).length rc) (rl.map (newRel S rep)).length ((rl.map (newRel S rep)).flatMap rlC)):=Lib.hid (by
        rw [hV5]
        exact owns_set (o:=3) (owns_set (o:=5) HRf.out.oo hXv) hXv)
       have HV5:Hid ((V4.setCell ⟨X,5,none⟩ (.slice ra qn rc)).setCell ⟨X,3,none⟩ (.int .i64 mo)=V5):=Lib.hid hV5.symm
       have HXv:=Lib.hid hXv
       have HQr:Hid (qn=(rl.map (newRel S rep)).length):=Lib.hid (by rw [HQn.out,<-HNew.out,List.length_map])
       have HX5l:Hid (X < V5.heap.size):=Lib.hid (lt_of_block HX5.out.rb)
       have HxV:Hid (∀ v,KP X V5 v->Below wx.heap.size wx v):=Lib.hid (fun v hv=>HB5.out.trans ⟨hv.os,hv.tape,hv.output,hv.size,fun k hk=>hv.block k (by have:=HX5l.out;have:=HXe.out;omega) (fun e=>by have:=HXe.out;injection e with e;omega)⟩)
       have HkV:Hid (∀ v,KP X V5 v->Below (K+1) V2 v):=Lib.hid (fun v hv=>HKx.out.trans ((HxV.out v hv).mono (by have:=HlB.out;omega)))
       clear hV5 hB4 hk4 hXv
       go_wp2_with fail
       rw [HV5.out]
       clear k2 a0 hKX haX hXK hXa f5 f3 g5 g3
       go_loopw [15] (fun jv wr=>∃ (j:Nat) (wz:World) (kb:Bool),wz=wr/\j<=un/\jv=.int .i64 j/\Hid (XR V5 wz X #[.string N,.int .i64 ki,.bool kb,.int .i64 mo,.string D,.slice ra qn rc])/\Hid (kb=kpJ S rep p j)) (fun jv _=>un - (intOf jv).toNat)
       case atStart=>exact ⟨0,_,kp,rfl,by omega,rfl,HX5,Lib.hid (by unfold kpJ keepB;rw [HSp.out])⟩
       case round=>
        clear HX5
        obtain ⟨j,wz,kb,rfl,hj,rfl,HXr,HKb⟩:=hrel
        by_cases hltj:j < un
        ·have hltji:(j:Int) < (un:Int):=by omega
         have HLTj:=Lib.hid hltj
         obtain ⟨ku,hku,hkc⟩:=HKp.out j hltj
         obtain ⟨rv,hrv⟩:∃ v,rep[j]?=some v:=⟨_,List.getElem?_eq_getElem (by rw [HRl.out];exact hltj)⟩
         have HKu:=Lib.hid hku
         have HRv:=Lib.hid hrv
         have HAll:Hid (∀ v,KP X V5 v->v.cell? ⟨ub,uo+j*6+2,none⟩=some (.bool ku)/\v.cell? ⟨K,0,none⟩=some (.slice (some ⟨Z,0,none⟩) un un)/\v.cell? ⟨Z,j,none⟩=some (.int .i64 rv)/\v.cell? ⟨K,1,none⟩=some (.slice (some ⟨lb,lo,none⟩) ln lc)/\v.cell? ⟨lb,lo+i,none⟩=some (.int .i64 (p:Int))):=Lib.hid (fun v hv=>by
          have h1:=HxV.out v hv
          have h2:=HkV.out v hv
          refine ⟨hkc v h1,(HcKx.out v h2).cell,?_,(HcKx.out v h2).cell,HcLc.out v h1⟩
          rw [(HcZ.out v h2).cell];exact inA_get hrv)
         obtain ⟨v0',hv0'⟩:∃ x,x=wz.drew:=⟨_,rfl⟩
         have hbd:Below wz.heap.size wz v0':=by rw [hv0'];exact (Below.refl _ _).drew
         have HXq:=Lib.hid (HXr.out.next hbd)
         have HV0:Hid (wz.drew=v0'):=Lib.hid hv0'.symm
         clear hltj hj hku hkc hrv hbd
         obtain ⟨y1,y2,y3,y4,y5⟩:=HAll.out wz HXr.out.kk
         have y0:wz.cell? ⟨X,2,none⟩=some (.bool kb):=HXr.out.rb.cell
         cases kb
         ·cases ku
          ·have HXn:Hid (XR V5 (v0'.setCell ⟨X,2,none⟩ (.bool false)) X #[.string N,.int .i64 ki,.bool false,.int .i64 mo,.string D,.slice ra qn rc]):=Lib.hid (HXq.out.set 2 (.bool false))
           have HKb5:Hid (false=kpJ S rep p (j+1)):=Lib.hid (by
            show _=(kpJ S rep p j || (keepB S j && decide (rep[j]?=some (p:Int))))
            rw [<-HKb.out,HKu.out,HRv.out]
            rfl)
           have HK34:Hid (v0'.cell? ⟨ub,uo+j*6+2,none⟩=some (.bool false)/\v0'.cell? ⟨K,0,none⟩=some (.slice (some ⟨Z,0,none⟩) un un)/\v0'.cell? ⟨Z,j,none⟩=some (.int .i64 rv)/\v0'.cell? ⟨K,1,none⟩=some (.slice (some ⟨lb,lo,none⟩) ln lc)/\v0'.cell? ⟨lb,lo+i,none⟩=some (.int .i64 (p:Int))):=Lib.hid (HAll.out _ HXq.out.kk)
           have HKs:Hid ((v0'.setCell ⟨X,2,none⟩ (.bool false)).cell? ⟨ub,uo+j*6+2,none⟩=some (.bool false)/\(v0'.setCell ⟨X,2,none⟩ (.bool false)).cell? ⟨K,0,none⟩=some (.slice (some ⟨Z,0,none⟩) un un)/\(v0'.setCell ⟨X,2,none⟩ (.bool false)).cell? ⟨Z,j,none⟩=some (.int .i64 rv)/\(v0'.setCell ⟨X,2,none⟩ (.bool false)).cell? ⟨K,1,none⟩=some (.slice (some ⟨lb,lo,none⟩) ln lc)/\(v0'.setCell ⟨X,2,none⟩ (.bool false)).cell? ⟨lb,lo+i,none⟩=some (.int .i64 (p:Int))):=Lib.hid (HAll.out _ HXn.out.kk)
           have fz:v0'.frozen? ⟨X,2,none⟩=false:=HXq.out.rb.frozen
           have y0':v0'.cell? ⟨X,2,none⟩=some (.bool false):=HXq.out.rb.cell
           clear hv0' HXr y0 y1 y2 y3 y4 y5
           go_wp2_with fail
           refine wp_region_held_drew (S:=fun v=>v.cell? ⟨ub,uo+j*6+2,none⟩=some (.bool false)/\v.cell? ⟨K,0,none⟩=some (.slice (some ⟨Z,0,none⟩) un un)/\v.cell? ⟨Z,j,none⟩=some (.int .i64 rv)/\v.cell? ⟨K,1,none⟩=some (.slice (some ⟨lb,lo,none⟩) ln lc)/\v.cell? ⟨lb,lo+i,none⟩=some (.int .i64 (p:Int))) (by kernel_rfl) (by rw [HV0.out];exact HK34.out) (fun hHeld=>?_)
           rw [HV0.out]
           have hHeld0:=HK34.out
           clear hHeld
           refine wpAnyH_take (i:=0) (v:=?_) rfl (by kernel_rfl) (by kernel_rfl) (by kernel_rfl) (fun _ _ _ h=>h) (Or.inl ⟨by kernel_rfl,?_⟩) hHeld0 ?_
           rotate_left 1
           ·intro w hSw;(try dsimp only at hSw);obtain ⟨y1,y2,y3,y4,y5⟩:=hSw;go_simp;(try with_reducible rfl)
           (try simp only [Act.put,List.setIfInBounds_toArray,List.set_cons_zero,List.set_cons_succ])
           refine wpAnyH_ready (rs:=[1]) (by kernel_rfl) (by simp) ?_
           refine AllReadyH.cons rfl (fun K hK=>?_) ?_
           rotate_left 1
           ·exact AllReadyH.nil
           go_simp
           refine hK.out _ _ (HK34.out) (fun hHeld1=>?_)
           clear hK K
           refine wpAnyH_take (i:=2) (v:=?_) rfl (by kernel_rfl) (by kernel_rfl) (by kernel_rfl) (fun _ _ _ h=>h) (Or.inl ⟨by kernel_rfl,?_⟩) hHeld0 ?_
           rotate_left 1
           ·intro w hSw;(try dsimp only at hSw);obtain ⟨y1,y2,y3,y4,y5⟩:=hSw;go_simp;(try with_reducible rfl)
           (try simp only [Act.put,List.setIfInBounds_toArray,List.set_cons_zero,List.set_cons_succ])
           refine wpAnyH_take (i:=3) (v:=?_) rfl (by kernel_rfl) (by kernel_rfl) (by kernel_rfl) (fun _ _ _ h=>h) (Or.inl ⟨by kernel_rfl,?_⟩) hHeld0 ?_
           rotate_left 1
           ·intro w hSw;(try dsimp only at hSw);obtain ⟨y1,y2,y3,y4,y5⟩:=hSw;go_simp;(try with_reducible rfl)
           (try simp only [Act.put,List.setIfInBounds_toArray,List.set_cons_zero,List.set_cons_succ])
           refine wpAnyH_take (i:=4) (v:=?_) rfl (by kernel_rfl) (by kernel_rfl) (by kernel_rfl) (fun _ _ _ h=>h) (Or.inl ⟨by kernel_rfl,?_⟩) hHeld0 ?_
           rotate_left 1
           ·intro w hSw;(try dsimp only at hSw);obtain ⟨y1,y2,y3,y4,y5⟩:=hSw;go_simp;(try with_reducible rfl)
           (try simp only [Act.put,List.setIfInBounds_toArray,List.set_cons_zero,List.set_cons_succ])
           refine wpAnyH_take (i:=5) (v:=?_) rfl (by kernel_rfl) (by kernel_rfl) (by kernel_rfl) (fun _ _ _ h=>h) (Or.inl ⟨by kernel_rfl,?_⟩) hHeld0 ?_
           rotate_left 1
           ·intro w hSw;(try dsimp only at hSw);obtain ⟨y1,y2,y3,y4,y5⟩:=hSw;go_simp;(try with_reducible rfl)
           (try simp only [Act.put,List.setIfInBounds_toArray,List.set_cons_zero,List.set_cons_succ])
           refine wpAnyH_take (i:=6) (v:=?_) rfl (by kernel_rfl) (by kernel_rfl) (by kernel_rfl) (fun _ _ _ h=>h) (Or.inl ⟨by kernel_rfl,?_⟩) hHeld0 ?_
           rotate_left 1
           ·intro w hSw;(try dsimp only at hSw);obtain ⟨y1,y2,y3,y4,y5⟩:=hSw;go_simp;(try with_reducible rfl)
           (try simp only [Act.put,List.setIfInBounds_toArray,List.set_cons_zero,List.set_cons_succ])
           refine wpAnyH_take (i:=7) (v:=?_) rfl (by kernel_rfl) (by kernel_rfl) (by kernel_rfl) (fun _ _ _ h=>h) (Or.inl ⟨by kernel_rfl,?_⟩) hHeld0 ?_
           rotate_left 1
           ·intro w hSw;(try dsimp only at hSw);obtain ⟨y1,y2,y3,y4,y5⟩:=hSw;go_simp;(try with_reducible rfl)
           (try simp only [Act.put,List.setIfInBounds_toArray,List.set_cons_zero,List.set_cons_succ])
           refine wpAnyH_take (i:=8) (v:=?_) rfl (by kernel_rfl) (by kernel_rfl) (by kernel_rfl) (fun _ _ _ h=>h) (Or.inl ⟨by kernel_rfl,?_⟩) hHeld0 ?_
           rotate_left 1
           ·intro w hSw;(try dsimp only at hSw);obtain ⟨y1,y2,y3,y4,y5⟩:=hSw;go_simp;(try with_reducible rfl)
           (try simp only [Act.put,List.setIfInBounds_toArray,List.set_cons_zero,List.set_cons_succ])
           refine wpAnyH_take (i:=9) (v:=undef) rfl (by kernel_rfl) (by kernel_rfl) (by kernel_rfl) (fun _ _ _ h=>h) (Or.inr ⟨by kernel_rfl,by kernel_rfl⟩) hHeld0 ?_
           (try simp only [Act.put,List.setIfInBounds_toArray,List.set_cons_zero,List.set_cons_succ])
           refine wpAnyH_take (i:=10) (v:=undef) rfl (by kernel_rfl) (by kernel_rfl) (by kernel_rfl) (fun _ _ _ h=>h) (Or.inr ⟨by kernel_rfl,by kernel_rfl⟩) hHeld0 ?_
           (try simp only [Act.put,List.setIfInBounds_toArray,List.set_cons_zero,List.set_cons_succ])
           refine wpAnyH_take (i:=11) (v:=undef) rfl (by kernel_rfl) (by kernel_rfl) (by kernel_rfl) (fun _ _ _ h=>h) (Or.inr ⟨by kernel_rfl,by kernel_rfl⟩) hHeld0 ?_
           (try simp only [Act.put,List.setIfInBounds_toArray,List.set_cons_zero,List.set_cons_succ])
           refine wpAnyH_take (i:=12) (v:=undef) rfl (by kernel_rfl) (by kernel_rfl) (by kernel_rfl) (fun _ _ _ h=>h) (Or.inr ⟨by kernel_rfl,by kernel_rfl⟩) hHeld0 ?_
           (try simp only [Act.put,List.setIfInBounds_toArray,List.set_cons_zero,List.set_cons_succ])
           refine wpAnyH_take (i:=13) (v:=undef) rfl (by kernel_rfl) (by kernel_rfl) (by kernel_rfl) (fun _ _ _ h=>h) (Or.inr ⟨by kernel_rfl,by kernel_rfl⟩) hHeld0 ?_
           (try simp only [Act.put,List.setIfInBounds_toArray,List.set_cons_zero,List.set_cons_succ])
           refine wpAnyH_take (i:=14) (v:=undef) rfl (by kernel_rfl) (by kernel_rfl) (by kernel_rfl) (fun _ _ _ h=>h) (Or.inr ⟨by kernel_rfl,by kernel_rfl⟩) hHeld0 ?_
           (try simp only [Act.put,List.setIfInBounds_toArray,List.set_cons_zero,List.set_cons_succ])
           refine wpAnyH_take (i:=15) (v:=undef) rfl (by kernel_rfl) (by kernel_rfl) (by kernel_rfl) (fun _ _ _ h=>h) (Or.inr ⟨by kernel_rfl,by kernel_rfl⟩) hHeld0 ?_
           (try simp only [Act.put,List.setIfInBounds_toArray,List.set_cons_zero,List.set_cons_succ])
           refine wpAnyH_take (i:=16) (v:=undef) rfl (by kernel_rfl) (by kernel_rfl) (by kernel_rfl) (fun _ _ _ h=>h) (Or.inr ⟨by kernel_rfl,by kernel_rfl⟩) hHeld0 ?_
           (try simp only [Act.put,List.setIfInBounds_toArray,List.set_cons_zero,List.set_cons_succ])
           refine wpAnyH_take (i:=17) (v:=undef) rfl (by kernel_rfl) (by kernel_rfl) (by kernel_rfl) (fun _ _ _ h=>h) (Or.inr ⟨by kernel_rfl,by kernel_rfl⟩) hHeld0 ?_
           (try simp only [Act.put,List.setIfInBounds_toArray,List.set_cons_zero,List.set_cons_succ])
           refine wpAnyH_take (i:=18) (v:=undef) rfl (by kernel_rfl) (by kernel_rfl) (by kernel_rfl) (fun _ _ _ h=>h) (Or.inr ⟨by kernel_rfl,by kernel_rfl⟩) hHeld0 ?_
           (try simp only [Act.put,List.setIfInBounds_toArray,List.set_cons_zero,List.set_cons_succ])
           refine wpAnyH_take (i:=19) (v:=undef) rfl (by kernel_rfl) (by kernel_rfl) (by kernel_rfl) (fun _ _ _ h=>h) (Or.inr ⟨by kernel_rfl,by kernel_rfl⟩) hHeld0 ?_
           (try simp only [Act.put,List.setIfInBounds_toArray,List.set_cons_zero,List.set_cons_succ])
           refine wpAnyH_ready (rs:=[20]) (by kernel_rfl) (by simp) ?_
           refine AllReadyH.cons rfl (fun K hK=>?_) ?_
           rotate_left 1
           ·exact AllReadyH.nil
           go_simp
           refine hK.out _ _ (HK34.out) (fun hHeld2=>?_)
           clear hK K
           refine wpAnyH_ready (rs:=[21]) (by kernel_rfl) (by simp) ?_
           refine AllReadyH.cons rfl (fun K hK=>?_) ?_
           rotate_left 1
           ·exact AllReadyH.nil
           go_simp
           refine hK.out _ _ (HK34.out) (fun hHeld3=>?_)
           clear hK K
           refine wpAnyH_take (i:=22) (v:=?_) rfl (by kernel_rfl) (by kernel_rfl) (by kernel_rfl) (fun _ _ _ h=>h) (Or.inl ⟨by kernel_rfl,?_⟩) hHeld0 ?_
           rotate_left 1
           ·intro w hSw;(try dsimp only at hSw);obtain ⟨y1,y2,y3,y4,y5⟩:=hSw;go_simp;(try with_reducible rfl)
           (try simp only [Act.put,List.setIfInBounds_toArray,List.set_cons_zero,List.set_cons_succ])
           refine wpAnyH_ready (rs:=[23]) (by kernel_rfl) (by simp) ?_
           refine AllReadyH.cons rfl (fun K hK=>?_) ?_
           rotate_left 1
           ·exact AllReadyH.nil
           go_simp
           refine hK.out _ _ (HKs.out) (fun hHeld4=>?_)
           clear hK K
           refine wpAnyH_done (by kernel_rfl) ?_ _
           go_wp2
           go_roundw
           case rel=>exact ⟨j+1,_,_,rfl,by have:=HLTj.out;omega,by go_num,HXn,HKb5⟩
           case measure=>have:=HLTj.out;simp [intOf];omega
          ·by_cases heq:rv=(p:Int)
           ·have teq:(rv == (p:Int))=true:=by simp [heq]
            have HEq:Hid (rv=(p:Int)):=Lib.hid heq
            clear heq
            have HXn:Hid (XR V5 (v0'.setCell ⟨X,2,none⟩ (.bool true)) X #[.string N,.int .i64 ki,.bool true,.int .i64 mo,.string D,.slice ra qn rc]):=Lib.hid (HXq.out.set 2 (.bool true))
            have HKb5:Hid (true=kpJ S rep p (j+1)):=Lib.hid (by
             show _=(kpJ S rep p j || (keepB S j && decide (rep[j]?=some (p:Int))))
             rw [<-HKb.out,HKu.out,HRv.out]
             simp [HEq.out])
            have HK34:Hid (v0'.cell? ⟨ub,uo+j*6+2,none⟩=some (.bool true)/\v0'.cell? ⟨K,0,none⟩=some (.slice (some ⟨Z,0,none⟩) un un)/\v0'.cell? ⟨Z,j,none⟩=some (.int .i64 rv)/\v0'.cell? ⟨K,1,none⟩=some (.slice (some ⟨lb,lo,none⟩) ln lc)/\v0'.cell? ⟨lb,lo+i,none⟩=some (.int .i64 (p:Int))):=Lib.hid (HAll.out _ HXq.out.kk)
            have HKs:Hid ((v0'.setCell ⟨X,2,none⟩ (.bool true)).cell? ⟨ub,uo+j*6+2,none⟩=some (.bool true)/\(v0'.setCell ⟨X,2,none⟩ (.bool true)).cell? ⟨K,0,none⟩=some (.slice (some ⟨Z,0,none⟩) un un)/\(v0'.setCell ⟨X,2,none⟩ (.bool true)).cell? ⟨Z,j,none⟩=some (.int .i64 rv)/\(v0'.setCell ⟨X,2,none⟩ (.bool true)).cell? ⟨K,1,none⟩=some (.slice (some ⟨lb,lo,none⟩) ln lc)/\(v0'.setCell ⟨X,2,none⟩ (.bool true)).cell? ⟨lb,lo+i,none⟩=some (.int .i64 (p:Int))):=Lib.hid (HAll.out _ HXn.out.kk)
            have fz:v0'.frozen? ⟨X,2,none⟩=false:=HXq.out.rb.frozen
            have y0':v0'.cell? ⟨X,2,none⟩=some (.bool false):=HXq.out.rb.cell
            clear hv0' HXr y0 y1 y2 y3 y4 y5
            go_wp2_with fail
            refine wp_region_held_drew (S:=fun v=>v.cell? ⟨ub,uo+j*6+2,none⟩=some (.bool true)/\v.cell? ⟨K,0,none⟩=some (.slice (some ⟨Z,0,none⟩) un un)/\v.cell? ⟨Z,j,none⟩=some (.int .i64 rv)/\v.cell? ⟨K,1,none⟩=some (.slice (some ⟨lb,lo,none⟩) ln lc)/\v.cell? ⟨lb,lo+i,none⟩=some (.int .i64 (p:Int))) (by kernel_rfl) (by rw [HV0.out];exact HK34.out) (fun hHeld=>?_)
            rw [HV0.out]
            have hHeld0:=HK34.out
            clear hHeld
            refine wpAnyH_take (i:=0) (v:=?_) rfl (by kernel_rfl) (by kernel_rfl) (by kernel_rfl) (fun _ _ _ h=>h) (Or.inl ⟨by kernel_rfl,?_⟩) hHeld0 ?_
            rotate_left 1
            ·intro w hSw;(try dsimp only at hSw);obtain ⟨y1,y2,y3,y4,y5⟩:=hSw;go_simp;(try with_reducible rfl)
            (try simp only [Act.put,List.setIfInBounds_toArray,List.set_cons_zero,List.set_cons_succ])
            refine wpAnyH_ready (rs:=[1]) (by kernel_rfl) (by simp) ?_
            refine AllReadyH.cons rfl (fun K hK=>?_) ?_
            rotate_left 1
            ·exact AllReadyH.nil
            go_simp
            refine hK.out _ _ (HK34.out) (fun hHeld1=>?_)
            clear hK K
            refine wpAnyH_take (i:=2) (v:=?_) rfl (by kernel_rfl) (by kernel_rfl) (by kernel_rfl) (fun _ _ _ h=>h) (Or.inl ⟨by kernel_rfl,?_⟩) hHeld0 ?_
            rotate_left 1
            ·intro w hSw;(try dsimp only at hSw);obtain ⟨y1,y2,y3,y4,y5⟩:=hSw;go_simp;(try with_reducible rfl)
            (try simp only [Act.put,List.setIfInBounds_toArray,List.set_cons_zero,List.set_cons_succ])
            refine wpAnyH_take (i:=3) (v:=?_) rfl (by kernel_rfl) (by kernel_rfl) (by kernel_rfl) (fun _ _ _ h=>h) (Or.inl ⟨by kernel_rfl,?_⟩) hHeld0 ?_
            rotate_left 1
            ·intro w hSw;(try dsimp only at hSw);obtain ⟨y1,y2,y3,y4,y5⟩:=hSw;go_simp;(try with_reducible rfl)
            (try simp only [Act.put,List.setIfInBounds_toArray,List.set_cons_zero,List.set_cons_succ])
            refine wpAnyH_take (i:=4) (v:=?_) rfl (by kernel_rfl) (by kernel_rfl) (by kernel_rfl) (fun _ _ _ h=>h) (Or.inl ⟨by kernel_rfl,?_⟩) hHeld0 ?_
            rotate_left 1
            ·intro w hSw;(try dsimp only at hSw);obtain ⟨y1,y2,y3,y4,y5⟩:=hSw;go_simp;(try with_reducible rfl)
            (try simp only [Act.put,List.setIfInBounds_toArray,List.set_cons_zero,List.set_cons_succ])
            refine wpAnyH_take (i:=5) (v:=?_) rfl (by kernel_rfl) (by kernel_rfl) (by kernel_rfl) (fun _ _ _ h=>h) (Or.inl ⟨by kernel_rfl,?_⟩) hHeld0 ?_
            rotate_left 1
            ·intro w hSw;(try dsimp only at hSw);obtain ⟨y1,y2,y3,y4,y5⟩:=hSw;go_simp;(try with_reducible rfl)
            (try simp only [Act.put,List.setIfInBounds_toArray,List.set_cons_zero,List.set_cons_succ])
            refine wpAnyH_take (i:=6) (v:=?_) rfl (by kernel_rfl) (by kernel_rfl) (by kernel_rfl) (fun _ _ _ h=>h) (Or.inl ⟨by kernel_rfl,?_⟩) hHeld0 ?_
            rotate_left 1
            ·intro w hSw;(try dsimp only at hSw);obtain ⟨y1,y2,y3,y4,y5⟩:=hSw;go_simp;(try with_reducible rfl)
            (try simp only [Act.put,List.setIfInBounds_toArray,List.set_cons_zero,List.set_cons_succ])
            refine wpAnyH_take (i:=7) (v:=?_) rfl (by kernel_rfl) (by kernel_rfl) (by kernel_rfl) (fun _ _ _ h=>h) (Or.inl ⟨by kernel_rfl,?_⟩) hHeld0 ?_
            rotate_left 1
            ·intro w hSw;(try dsimp only at hSw);obtain ⟨y1,y2,y3,y4,y5⟩:=hSw;go_simp;(try with_reducible rfl)
            (try simp only [Act.put,List.setIfInBounds_toArray,List.set_cons_zero,List.set_cons_succ])
            refine wpAnyH_take (i:=8) (v:=?_) rfl (by kernel_rfl) (by kernel_rfl) (by kernel_rfl) (fun _ _ _ h=>h) (Or.inl ⟨by kernel_rfl,?_⟩) hHeld0 ?_
            rotate_left 1
            ·intro w hSw;(try dsimp only at hSw);obtain ⟨y1,y2,y3,y4,y5⟩:=hSw;go_simp;(try with_reducible rfl)
            (try simp only [Act.put,List.setIfInBounds_toArray,List.set_cons_zero,List.set_cons_succ])
            refine wpAnyH_take (i:=9) (v:=?_) rfl (by kernel_rfl) (by kernel_rfl) (by kernel_rfl) (fun _ _ _ h=>h) (Or.inl ⟨by kernel_rfl,?_⟩) hHeld0 ?_
            rotate_left 1
            ·intro w hSw;(try dsimp only at hSw);obtain ⟨y1,y2,y3,y4,y5⟩:=hSw;go_simp;(try with_reducible rfl)
            (try simp only [Act.put,List.setIfInBounds_toArray,List.set_cons_zero,List.set_cons_succ])
            refine wpAnyH_take (i:=10) (v:=?_) rfl (by kernel_rfl) (by kernel_rfl) (by kernel_rfl) (fun _ _ _ h=>h) (Or.inl ⟨by kernel_rfl,?_⟩) hHeld0 ?_
            rotate_left 1
            ·intro w hSw;(try dsimp only at hSw);obtain ⟨y1,y2,y3,y4,y5⟩:=hSw;go_simp;(try with_reducible rfl)
            (try simp only [Act.put,List.setIfInBounds_toArray,List.set_cons_zero,List.set_cons_succ])
            refine wpAnyH_take (i:=11) (v:=?_) rfl (by kernel_rfl) (by kernel_rfl) (by kernel_rfl) (fun _ _ _ h=>h) (Or.inl ⟨by kernel_rfl,?_⟩) hHeld0 ?_
            rotate_left 1
            ·intro w hSw;(try dsimp only at hSw);obtain ⟨y1,y2,y3,y4,y5⟩:=hSw;go_simp;(try with_reducible rfl)
            (try simp only [Act.put,List.setIfInBounds_toArray,List.set_cons_zero,List.set_cons_succ])
            refine wpAnyH_take (i:=12) (v:=?_) rfl (by kernel_rfl) (by kernel_rfl) (by kernel_rfl) (fun _ _ _ h=>h) (Or.inl ⟨by kernel_rfl,?_⟩) hHeld0 ?_
            rotate_left 1
            ·intro w hSw;(try dsimp only at hSw);obtain ⟨y1,y2,y3,y4,y5⟩:=hSw;go_simp;(try with_reducible rfl)
            (try simp only [Act.put,List.setIfInBounds_toArray,List.set_cons_zero,List.set_cons_succ])
            refine wpAnyH_take (i:=13) (v:=?_) rfl (by kernel_rfl) (by kernel_rfl) (by kernel_rfl) (fun _ _ _ h=>h) (Or.inl ⟨by kernel_rfl,?_⟩) hHeld0 ?_
            rotate_left 1
            ·intro w hSw;(try dsimp only at hSw);obtain ⟨y1,y2,y3,y4,y5⟩:=hSw;go_simp;(try with_reducible rfl)
            (try simp only [Act.put,List.setIfInBounds_toArray,List.set_cons_zero,List.set_cons_succ])
            refine wpAnyH_take (i:=14) (v:=?_) rfl (by kernel_rfl) (by kernel_rfl) (by kernel_rfl) (fun _ _ _ h=>h) (Or.inl ⟨by kernel_rfl,?_⟩) hHeld0 ?_
            rotate_left 1
            ·intro w hSw;(try dsimp only at hSw);obtain ⟨y1,y2,y3,y4,y5⟩:=hSw;go_simp;(try with_reducible rfl)
            (try simp only [Act.put,List.setIfInBounds_toArray,List.set_cons_zero,List.set_cons_succ])
            refine wpAnyH_take (i:=15) (v:=?_) rfl (by kernel_rfl) (by kernel_rfl) (by kernel_rfl) (fun _ _ _ h=>h) (Or.inl ⟨by kernel_rfl,?_⟩) hHeld0 ?_
            rotate_left 1
            ·intro w hSw;(try dsimp only at hSw);obtain ⟨y1,y2,y3,y4,y5⟩:=hSw;go_simp;(try with_reducible rfl)
            (try simp only [Act.put,List.setIfInBounds_toArray,List.set_cons_zero,List.set_cons_succ])
            refine wpAnyH_take (i:=16) (v:=?_) rfl (by kernel_rfl) (by kernel_rfl) (by kernel_rfl) (fun _ _ _ h=>h) (Or.inl ⟨by kernel_rfl,?_⟩) hHeld0 ?_
            rotate_left 1
            ·intro w hSw;(try dsimp only at hSw);obtain ⟨y1,y2,y3,y4,y5⟩:=hSw;go_simp;(try with_reducible rfl)
            (try simp only [Act.put,List.setIfInBounds_toArray,List.set_cons_zero,List.set_cons_succ])
            refine wpAnyH_take (i:=17) (v:=?_) rfl (by kernel_rfl) (by kernel_rfl) (by kernel_rfl) (fun _ _ _ h=>h) (Or.inl ⟨by kernel_rfl,?_⟩) hHeld0 ?_
            rotate_left 1
            ·intro w hSw;(try dsimp only at hSw);obtain ⟨y1,y2,y3,y4,y5⟩:=hSw;go_simp;(try with_reducible rfl)
            (try simp only [Act.put,List.setIfInBounds_toArray,List.set_cons_zero,List.set_cons_succ])
            refine wpAnyH_take (i:=18) (v:=?_) rfl (by kernel_rfl) (by kernel_rfl) (by kernel_rfl) (fun _ _ _ h=>h) (Or.inl ⟨by kernel_rfl,?_⟩) hHeld0 ?_
            rotate_left 1
            ·intro w hSw;(try dsimp only at hSw);obtain ⟨y1,y2,y3,y4,y5⟩:=hSw;go_simp;(try with_reducible rfl)
            (try simp only [Act.put,List.setIfInBounds_toArray,List.set_cons_zero,List.set_cons_succ])
            refine wpAnyH_take (i:=19) (v:=?_) rfl (by kernel_rfl) (by kernel_rfl) (by kernel_rfl) (fun _ _ _ h=>h) (Or.inl ⟨by kernel_rfl,?_⟩) hHeld0 ?_
            rotate_left 1
            ·intro w hSw;(try dsimp only at hSw);obtain ⟨y1,y2,y3,y4,y5⟩:=hSw;go_simp;(try with_reducible rfl)
            (try simp only [Act.put,List.setIfInBounds_toArray,List.set_cons_zero,List.set_cons_succ])
            refine wpAnyH_ready (rs:=[20]) (by kernel_rfl) (by simp) ?_
            refine AllReadyH.cons rfl (fun K hK=>?_) ?_
            rotate_left 1
            ·exact AllReadyH.nil
            go_simp
            refine hK.out _ _ (HK34.out) (fun hHeld2=>?_)
            clear hK K
            refine wpAnyH_ready (rs:=[21]) (by kernel_rfl) (by simp) ?_
            refine AllReadyH.cons rfl (fun K hK=>?_) ?_
            rotate_left 1
            ·exact AllReadyH.nil
            go_simp
            refine hK.out _ _ (HK34.out) (fun hHeld3=>?_)
            clear hK K
            refine wpAnyH_take (i:=22) (v:=?_) rfl (by kernel_rfl) (by kernel_rfl) (by kernel_rfl) (fun _ _ _ h=>h) (Or.inl ⟨by kernel_rfl,?_⟩) hHeld0 ?_
            rotate_left 1
            ·intro w hSw;(try dsimp only at hSw);obtain ⟨y1,y2,y3,y4,y5⟩:=hSw;go_simp;(try with_reducible rfl)
            (try simp only [Act.put,List.setIfInBounds_toArray,List.set_cons_zero,List.set_cons_succ])
            refine wpAnyH_ready (rs:=[23]) (by kernel_rfl) (by simp) ?_
            refine AllReadyH.cons rfl (fun K hK=>?_) ?_
            rotate_left 1
            ·exact AllReadyH.nil
            go_simp
            refine hK.out _ _ (HKs.out) (fun hHeld4=>?_)
            clear hK K
            refine wpAnyH_done (by kernel_rfl) ?_ _
            go_wp2
            go_roundw
            case rel=>exact ⟨j+1,_,_,rfl,by have:=HLTj.out;omega,by go_num,HXn,HKb5⟩
            case measure=>have:=HLTj.out;simp [intOf];omega
           ·have teq:(rv == (p:Int))=false:=by simp [heq]
            have HEq:Hid (rv ≠ (p:Int)):=Lib.hid heq
            clear heq
            have HXn:Hid (XR V5 (v0'.setCell ⟨X,2,none⟩ (.bool false)) X #[.string N,.int .i64 ki,.bool false,.int .i64 mo,.string D,.slice ra qn rc]):=Lib.hid (HXq.out.set 2 (.bool false))
            have HKb5:Hid (false=kpJ S rep p (j+1)):=Lib.hid (by
             show _=(kpJ S rep p j || (keepB S j && decide (rep[j]?=some (p:Int))))
             rw [<-HKb.out,HKu.out,HRv.out]
             simp [HEq.out])
            have HK34:Hid (v0'.cell? ⟨ub,uo+j*6+2,none⟩=some (.bool true)/\v0'.cell? ⟨K,0,none⟩=some (.slice (some ⟨Z,0,none⟩) un un)/\v0'.cell? ⟨Z,j,none⟩=some (.int .i64 rv)/\v0'.cell? ⟨K,1,none⟩=some (.slice (some ⟨lb,lo,none⟩) ln lc)/\v0'.cell? ⟨lb,lo+i,none⟩=some (.int .i64 (p:Int))):=Lib.hid (HAll.out _ HXq.out.kk)
            have HKs:Hid ((v0'.setCell ⟨X,2,none⟩ (.bool false)).cell? ⟨ub,uo+j*6+2,none⟩=some (.bool true)/\(v0'.setCell ⟨X,2,none⟩ (.bool false)).cell? ⟨K,0,none⟩=some (.slice (some ⟨Z,0,none⟩) un un)/\(v0'.setCell ⟨X,2,none⟩ (.bool false)).cell? ⟨Z,j,none⟩=some (.int .i64 rv)/\(v0'.setCell ⟨X,2,none⟩ (.bool false)).cell? ⟨K,1,none⟩=some (.slice (some ⟨lb,lo,none⟩) ln lc)/\(v0'.setCell ⟨X,2,none⟩ (.bool false)).cell? ⟨lb,lo+i,none⟩=some (.int .i64 (p:Int))):=Lib.hid (HAll.out _ HXn.out.kk)
            have fz:v0'.frozen? ⟨X,2,none⟩=false:=HXq.out.rb.frozen
            have y0':v0'.cell? ⟨X,2,none⟩=some (.bool false):=HXq.out.rb.cell
            clear hv0' HXr y0 y1 y2 y3 y4 y5
            go_wp2_with fail
            refine wp_region_held_drew (S:=fun v=>v.cell? ⟨ub,uo+j*6+2,none⟩=some (.bool true)/\v.cell? ⟨K,0,none⟩=some (.slice (some ⟨Z,0,none⟩) un un)/\v.cell? ⟨Z,j,none⟩=some (.int .i64 rv)/\v.cell? ⟨K,1,none⟩=some (.slice (some ⟨lb,lo,none⟩) ln lc)/\v.cell? ⟨lb,lo+i,none⟩=some (.int .i64 (p:Int))) (by kernel_rfl) (by rw [HV0.out];exact HK34.out) (fun hHeld=>?_)
            rw [HV0.out]
            have hHeld0:=HK34.out
            clear hHeld
            refine wpAnyH_take (i:=0) (v:=?_) rfl (by kernel_rfl) (by kernel_rfl) (by kernel_rfl) (fun _ _ _ h=>h) (Or.inl ⟨by kernel_rfl,?_⟩) hHeld0 ?_
            rotate_left 1
            ·intro w hSw;(try dsimp only at hSw);obtain ⟨y1,y2,y3,y4,y5⟩:=hSw;go_simp;(try with_reducible rfl)
            (try simp only [Act.put,List.setIfInBounds_toArray,List.set_cons_zero,List.set_cons_succ])
            refine wpAnyH_ready (rs:=[1]) (by kernel_rfl) (by simp) ?_
            refine AllReadyH.cons rfl (fun K hK=>?_) ?_
            rotate_left 1
            ·exact AllReadyH.nil
            go_simp
            refine hK.out _ _ (HK34.out) (fun hHeld1=>?_)
            clear hK K
            refine wpAnyH_take (i:=2) (v:=?_) rfl (by kernel_rfl) (by kernel_rfl) (by kernel_rfl) (fun _ _ _ h=>h) (Or.inl ⟨by kernel_rfl,?_⟩) hHeld0 ?_
            rotate_left 1
            ·intro w hSw;(try dsimp only at hSw);obtain ⟨y1,y2,y3,y4,y5⟩:=hSw;go_simp;(try with_reducible rfl)
            (try simp only [Act.put,List.setIfInBounds_toArray,List.set_cons_zero,List.set_cons_succ])
            refine wpAnyH_take (i:=3) (v:=?_) rfl (by kernel_rfl) (by kernel_rfl) (by kernel_rfl) (fun _ _ _ h=>h) (Or.inl ⟨by kernel_rfl,?_⟩) hHeld0 ?_
            rotate_left 1
            ·intro w hSw;(try dsimp only at hSw);obtain ⟨y1,y2,y3,y4,y5⟩:=hSw;go_simp;(try with_reducible rfl)
            (try simp only [Act.put,List.setIfInBounds_toArray,List.set_cons_zero,List.set_cons_succ])
            refine wpAnyH_take (i:=4) (v:=?_) rfl (by kernel_rfl) (by kernel_rfl) (by kernel_rfl) (fun _ _ _ h=>h) (Or.inl ⟨by kernel_rfl,?_⟩) hHeld0 ?_
            rotate_left 1
            ·intro w hSw;(try dsimp only at hSw);obtain ⟨y1,y2,y3,y4,y5⟩:=hSw;go_simp;(try with_reducible rfl)
            (try simp only [Act.put,List.setIfInBounds_toArray,List.set_cons_zero,List.set_cons_succ])
            refine wpAnyH_take (i:=5) (v:=?_) rfl (by kernel_rfl) (by kernel_rfl) (by kernel_rfl) (fun _ _ _ h=>h) (Or.inl ⟨by kernel_rfl,?_⟩) hHeld0 ?_
            rotate_left 1
            ·intro w hSw;(try dsimp only at hSw);obtain ⟨y1,y2,y3,y4,y5⟩:=hSw;go_simp;(try with_reducible rfl)
            (try simp only [Act.put,List.setIfInBounds_toArray,List.set_cons_zero,List.set_cons_succ])
            refine wpAnyH_take (i:=6) (v:=?_) rfl (by kernel_rfl) (by kernel_rfl) (by kernel_rfl) (fun _ _ _ h=>h) (Or.inl ⟨by kernel_rfl,?_⟩) hHeld0 ?_
            rotate_left 1
            ·intro w hSw;(try dsimp only at hSw);obtain ⟨y1,y2,y3,y4,y5⟩:=hSw;go_simp;(try with_reducible rfl)
            (try simp only [Act.put,List.setIfInBounds_toArray,List.set_cons_zero,List.set_cons_succ])
            refine wpAnyH_take (i:=7) (v:=?_) rfl (by kernel_rfl) (by kernel_rfl) (by kernel_rfl) (fun _ _ _ h=>h) (Or.inl ⟨by kernel_rfl,?_⟩) hHeld0 ?_
            rotate_left 1
            ·intro w hSw;(try dsimp only at hSw);obtain ⟨y1,y2,y3,y4,y5⟩:=hSw;go_simp;(try with_reducible rfl)
            (try simp only [Act.put,List.setIfInBounds_toArray,List.set_cons_zero,List.set_cons_succ])
            refine wpAnyH_take (i:=8) (v:=?_) rfl (by kernel_rfl) (by kernel_rfl) (by kernel_rfl) (fun _ _ _ h=>h) (Or.inl ⟨by kernel_rfl,?_⟩) hHeld0 ?_
            rotate_left 1
            ·intro w hSw;(try dsimp only at hSw);obtain ⟨y1,y2,y3,y4,y5⟩:=hSw;go_simp;(try with_reducible rfl)
            (try simp only [Act.put,List.setIfInBounds_toArray,List.set_cons_zero,List.set_cons_succ])
            refine wpAnyH_take (i:=9) (v:=?_) rfl (by kernel_rfl) (by kernel_rfl) (by kernel_rfl) (fun _ _ _ h=>h) (Or.inl ⟨by kernel_rfl,?_⟩) hHeld0 ?_
            rotate_left 1
            ·intro w hSw;(try dsimp only at hSw);obtain ⟨y1,y2,y3,y4,y5⟩:=hSw;go_simp;(try with_reducible rfl)
            (try simp only [Act.put,List.setIfInBounds_toArray,List.set_cons_zero,List.set_cons_succ])
            refine wpAnyH_take (i:=10) (v:=?_) rfl (by kernel_rfl) (by kernel_rfl) (by kernel_rfl) (fun _ _ _ h=>h) (Or.inl ⟨by kernel_rfl,?_⟩) hHeld0 ?_
            rotate_left 1
            ·intro w hSw;(try dsimp only at hSw);obtain ⟨y1,y2,y3,y4,y5⟩:=hSw;go_simp;(try with_reducible rfl)
            (try simp only [Act.put,List.setIfInBounds_toArray,List.set_cons_zero,List.set_cons_succ])
            refine wpAnyH_take (i:=11) (v:=?_) rfl (by kernel_rfl) (by kernel_rfl) (by kernel_rfl) (fun _ _ _ h=>h) (Or.inl ⟨by kernel_rfl,?_⟩) hHeld0 ?_
            rotate_left 1
            ·intro w hSw;(try dsimp only at hSw);obtain ⟨y1,y2,y3,y4,y5⟩:=hSw;go_simp;(try with_reducible rfl)
            (try simp only [Act.put,List.setIfInBounds_toArray,List.set_cons_zero,List.set_cons_succ])
            refine wpAnyH_take (i:=12) (v:=?_) rfl (by kernel_rfl) (by kernel_rfl) (by kernel_rfl) (fun _ _ _ h=>h) (Or.inl ⟨by kernel_rfl,?_⟩) hHeld0 ?_
            rotate_left 1
            ·intro w hSw;(try dsimp only at hSw);obtain ⟨y1,y2,y3,y4,y5⟩:=hSw;go_simp;(try with_reducible rfl)
            (try simp only [Act.put,List.setIfInBounds_toArray,List.set_cons_zero,List.set_cons_succ])
            refine wpAnyH_take (i:=13) (v:=?_) rfl (by kernel_rfl) (by kernel_rfl) (by kernel_rfl) (fun _ _ _ h=>h) (Or.inl ⟨by kernel_rfl,?_⟩) hHeld0 ?_
            rotate_left 1
            ·intro w hSw;(try dsimp only at hSw);obtain ⟨y1,y2,y3,y4,y5⟩:=hSw;go_simp;(try with_reducible rfl)
            (try simp only [Act.put,List.setIfInBounds_toArray,List.set_cons_zero,List.set_cons_succ])
            refine wpAnyH_take (i:=14) (v:=?_) rfl (by kernel_rfl) (by kernel_rfl) (by kernel_rfl) (fun _ _ _ h=>h) (Or.inl ⟨by kernel_rfl,?_⟩) hHeld0 ?_
            rotate_left 1
            ·intro w hSw;(try dsimp only at hSw);obtain ⟨y1,y2,y3,y4,y5⟩:=hSw;go_simp;(try with_reducible rfl)
            (try simp only [Act.put,List.setIfInBounds_toArray,List.set_cons_zero,List.set_cons_succ])
            refine wpAnyH_take (i:=15) (v:=?_) rfl (by kernel_rfl) (by kernel_rfl) (by kernel_rfl) (fun _ _ _ h=>h) (Or.inl ⟨by kernel_rfl,?_⟩) hHeld0 ?_
            rotate_left 1
            ·intro w hSw;(try dsimp only at hSw);obtain ⟨y1,y2,y3,y4,y5⟩:=hSw;go_simp;(try with_reducible rfl)
            (try simp only [Act.put,List.setIfInBounds_toArray,List.set_cons_zero,List.set_cons_succ])
            refine wpAnyH_take (i:=16) (v:=?_) rfl (by kernel_rfl) (by kernel_rfl) (by kernel_rfl) (fun _ _ _ h=>h) (Or.inl ⟨by kernel_rfl,?_⟩) hHeld0 ?_
            rotate_left 1
            ·intro w hSw;(try dsimp only at hSw);obtain ⟨y1,y2,y3,y4,y5⟩:=hSw;go_simp;(try with_reducible rfl)
            (try simp only [Act.put,List.setIfInBounds_toArray,List.set_cons_zero,List.set_cons_succ])
            refine wpAnyH_take (i:=17) (v:=?_) rfl (by kernel_rfl) (by kernel_rfl) (by kernel_rfl) (fun _ _ _ h=>h) (Or.inl ⟨by kernel_rfl,?_⟩) hHeld0 ?_
            rotate_left 1
            ·intro w hSw;(try dsimp only at hSw);obtain ⟨y1,y2,y3,y4,y5⟩:=hSw;go_simp;(try with_reducible rfl)
            (try simp only [Act.put,List.setIfInBounds_toArray,List.set_cons_zero,List.set_cons_succ])
            refine wpAnyH_take (i:=18) (v:=?_) rfl (by kernel_rfl) (by kernel_rfl) (by kernel_rfl) (fun _ _ _ h=>h) (Or.inl ⟨by kernel_rfl,?_⟩) hHeld0 ?_
            rotate_left 1
            ·intro w hSw;(try dsimp only at hSw);obtain ⟨y1,y2,y3,y4,y5⟩:=hSw;go_simp;(try with_reducible rfl)
            (try simp only [Act.put,List.setIfInBounds_toArray,List.set_cons_zero,List.set_cons_succ])
            refine wpAnyH_take (i:=19) (v:=?_) rfl (by kernel_rfl) (by kernel_rfl) (by kernel_rfl) (fun _ _ _ h=>h) (Or.inl ⟨by kernel_rfl,?_⟩) hHeld0 ?_
            rotate_left 1
            ·intro w hSw;(try dsimp only at hSw);obtain ⟨y1,y2,y3,y4,y5⟩:=hSw;go_simp;(try with_reducible rfl)
            (try simp only [Act.put,List.setIfInBounds_toArray,List.set_cons_zero,List.set_cons_succ])
            refine wpAnyH_ready (rs:=[20]) (by kernel_rfl) (by simp) ?_
            refine AllReadyH.cons rfl (fun K hK=>?_) ?_
            rotate_left 1
            ·exact AllReadyH.nil
            go_simp
            refine hK.out _ _ (HK34.out) (fun hHeld2=>?_)
            clear hK K
            refine wpAnyH_ready (rs:=[21]) (by kernel_rfl) (by simp) ?_
            refine AllReadyH.cons rfl (fun K hK=>?_) ?_
            rotate_left 1
            ·exact AllReadyH.nil
            go_simp
            refine hK.out _ _ (HK34.out) (fun hHeld3=>?_)
            clear hK K
            refine wpAnyH_take (i:=22) (v:=?_) rfl (by kernel_rfl) (by kernel_rfl) (by kernel_rfl) (fun _ _ _ h=>h) (Or.inl ⟨by kernel_rfl,?_⟩) hHeld0 ?_
            rotate_left 1
            ·intro w hSw;(try dsimp only at hSw);obtain ⟨y1,y2,y3,y4,y5⟩:=hSw;go_simp;(try with_reducible rfl)
            (try simp only [Act.put,List.setIfInBounds_toArray,List.set_cons_zero,List.set_cons_succ])
            refine wpAnyH_ready (rs:=[23]) (by kernel_rfl) (by simp) ?_
            refine AllReadyH.cons rfl (fun K hK=>?_) ?_
            rotate_left 1
            ·exact AllReadyH.nil
            go_simp
            refine hK.out _ _ (HKs.out) (fun hHeld4=>?_)
            clear hK K
            refine wpAnyH_done (by kernel_rfl) ?_ _
            go_wp2
            go_roundw
            case rel=>exact ⟨j+1,_,_,rfl,by have:=HLTj.out;omega,by go_num,HXn,HKb5⟩
            case measure=>have:=HLTj.out;simp [intOf];omega
         ·have HXn:Hid (XR V5 (v0'.setCell ⟨X,2,none⟩ (.bool true)) X #[.string N,.int .i64 ki,.bool true,.int .i64 mo,.string D,.slice ra qn rc]):=Lib.hid (HXq.out.set 2 (.bool true))
          have HKb5:Hid (true=kpJ S rep p (j+1)):=Lib.hid (by
           show _=(kpJ S rep p j || (keepB S j && decide (rep[j]?=some (p:Int))))
           rw [<-HKb.out,HKu.out,HRv.out]
           simp)
          have HK34:Hid (v0'.cell? ⟨ub,uo+j*6+2,none⟩=some (.bool ku)/\v0'.cell? ⟨K,0,none⟩=some (.slice (some ⟨Z,0,none⟩) un un)/\v0'.cell? ⟨Z,j,none⟩=some (.int .i64 rv)/\v0'.cell? ⟨K,1,none⟩=some (.slice (some ⟨lb,lo,none⟩) ln lc)/\v0'.cell? ⟨lb,lo+i,none⟩=some (.int .i64 (p:Int))):=Lib.hid (HAll.out _ HXq.out.kk)
          have HKs:Hid ((v0'.setCell ⟨X,2,none⟩ (.bool true)).cell? ⟨ub,uo+j*6+2,none⟩=some (.bool ku)/\(v0'.setCell ⟨X,2,none⟩ (.bool true)).cell? ⟨K,0,none⟩=some (.slice (some ⟨Z,0,none⟩) un un)/\(v0'.setCell ⟨X,2,none⟩ (.bool true)).cell? ⟨Z,j,none⟩=some (.int .i64 rv)/\(v0'.setCell ⟨X,2,none⟩ (.bool true)).cell? ⟨K,1,none⟩=some (.slice (some ⟨lb,lo,none⟩) ln lc)/\(v0'.setCell ⟨X,2,none⟩ (.bool true)).cell? ⟨lb,lo+i,none⟩=some (.int .i64 (p:Int))):=Lib.hid (HAll.out _ HXn.out.kk)
          have fz:v0'.frozen? ⟨X,2,none⟩=false:=HXq.out.rb.frozen
          have y0':v0'.cell? ⟨X,2,none⟩=some (.bool true):=HXq.out.rb.cell
          clear hv0' HXr y0 y1 y2 y3 y4 y5
          go_wp2_with fail
          refine wp_region_held_drew (S:=fun v=>v.cell? ⟨ub,uo+j*6+2,none⟩=some (.bool ku)/\v.cell? ⟨K,0,none⟩=some (.slice (some ⟨Z,0,none⟩) un un)/\v.cell? ⟨Z,j,none⟩=some (.int .i64 rv)/\v.cell? ⟨K,1,none⟩=some (.slice (some ⟨lb,lo,none⟩) ln lc)/\v.cell? ⟨lb,lo+i,none⟩=some (.int .i64 (p:Int))) (by kernel_rfl) (by rw [HV0.out];exact HK34.out) (fun hHeld=>?_)
          rw [HV0.out]
          have hHeld0:=HK34.out
          clear hHeld
          refine wpAnyH_take (i:=0) (v:=?_) rfl (by kernel_rfl) (by kernel_rfl) (by kernel_rfl) (fun _ _ _ h=>h) (Or.inl ⟨by kernel_rfl,?_⟩) hHeld0 ?_
          rotate_left 1
          ·intro w hSw;(try dsimp only at hSw);obtain ⟨y1,y2,y3,y4,y5⟩:=hSw;go_simp;(try with_reducible rfl)
          (try simp only [Act.put,List.setIfInBounds_toArray,List.set_cons_zero,List.set_cons_succ])
          refine wpAnyH_ready (rs:=[1]) (by kernel_rfl) (by simp) ?_
          refine AllReadyH.cons rfl (fun K hK=>?_) ?_
          rotate_left 1
          ·exact AllReadyH.nil
          go_simp
          refine hK.out _ _ (HK34.out) (fun hHeld1=>?_)
          clear hK K
          refine wpAnyH_take (i:=2) (v:=?_) rfl (by kernel_rfl) (by kernel_rfl) (by kernel_rfl) (fun _ _ _ h=>h) (Or.inl ⟨by kernel_rfl,?_⟩) hHeld0 ?_
          rotate_left 1
          ·intro w hSw;(try dsimp only at hSw);obtain ⟨y1,y2,y3,y4,y5⟩:=hSw;go_simp;(try with_reducible rfl)
          (try simp only [Act.put,List.setIfInBounds_toArray,List.set_cons_zero,List.set_cons_succ])
          refine wpAnyH_take (i:=3) (v:=undef) rfl (by kernel_rfl) (by kernel_rfl) (by kernel_rfl) (fun _ _ _ h=>h) (Or.inr ⟨by kernel_rfl,by kernel_rfl⟩) hHeld0 ?_
          (try simp only [Act.put,List.setIfInBounds_toArray,List.set_cons_zero,List.set_cons_succ])
          refine wpAnyH_take (i:=4) (v:=undef) rfl (by kernel_rfl) (by kernel_rfl) (by kernel_rfl) (fun _ _ _ h=>h) (Or.inr ⟨by kernel_rfl,by kernel_rfl⟩) hHeld0 ?_
          (try simp only [Act.put,List.setIfInBounds_toArray,List.set_cons_zero,List.set_cons_succ])
          refine wpAnyH_take (i:=5) (v:=undef) rfl (by kernel_rfl) (by kernel_rfl) (by kernel_rfl) (fun _ _ _ h=>h) (Or.inr ⟨by kernel_rfl,by kernel_rfl⟩) hHeld0 ?_
          (try simp only [Act.put,List.setIfInBounds_toArray,List.set_cons_zero,List.set_cons_succ])
          refine wpAnyH_take (i:=6) (v:=undef) rfl (by kernel_rfl) (by kernel_rfl) (by kernel_rfl) (fun _ _ _ h=>h) (Or.inr ⟨by kernel_rfl,by kernel_rfl⟩) hHeld0 ?_
          (try simp only [Act.put,List.setIfInBounds_toArray,List.set_cons_zero,List.set_cons_succ])
          refine wpAnyH_take (i:=7) (v:=undef) rfl (by kernel_rfl) (by kernel_rfl) (by kernel_rfl) (fun _ _ _ h=>h) (Or.inr ⟨by kernel_rfl,by kernel_rfl⟩) hHeld0 ?_
          (try simp only [Act.put,List.setIfInBounds_toArray,List.set_cons_zero,List.set_cons_succ])
          refine wpAnyH_take (i:=8) (v:=undef) rfl (by kernel_rfl) (by kernel_rfl) (by kernel_rfl) (fun _ _ _ h=>h) (Or.inr ⟨by kernel_rfl,by kernel_rfl⟩) hHeld0 ?_
          (try simp only [Act.put,List.setIfInBounds_toArray,List.set_cons_zero,List.set_cons_succ])
          refine wpAnyH_take (i:=9) (v:=undef) rfl (by kernel_rfl) (by kernel_rfl) (by kernel_rfl) (fun _ _ _ h=>h) (Or.inr ⟨by kernel_rfl,by kernel_rfl⟩) hHeld0 ?_
          (try simp only [Act.put,List.setIfInBounds_toArray,List.set_cons_zero,List.set_cons_succ])
          refine wpAnyH_take (i:=10) (v:=undef) rfl (by kernel_rfl) (by kernel_rfl) (by kernel_rfl) (fun _ _ _ h=>h) (Or.inr ⟨by kernel_rfl,by kernel_rfl⟩) hHeld0 ?_
          (try simp only [Act.put,List.setIfInBounds_toArray,List.set_cons_zero,List.set_cons_succ])
          refine wpAnyH_take (i:=11) (v:=undef) rfl (by kernel_rfl) (by kernel_rfl) (by kernel_rfl) (fun _ _ _ h=>h) (Or.inr ⟨by kernel_rfl,by kernel_rfl⟩) hHeld0 ?_
          (try simp only [Act.put,List.setIfInBounds_toArray,List.set_cons_zero,List.set_cons_succ])
          refine wpAnyH_take (i:=12) (v:=undef) rfl (by kernel_rfl) (by kernel_rfl) (by kernel_rfl) (fun _ _ _ h=>h) (Or.inr ⟨by kernel_rfl,by kernel_rfl⟩) hHeld0 ?_
          (try simp only [Act.put,List.setIfInBounds_toArray,List.set_cons_zero,List.set_cons_succ])
          refine wpAnyH_take (i:=13) (v:=undef) rfl (by kernel_rfl) (by kernel_rfl) (by kernel_rfl) (fun _ _ _ h=>h) (Or.inr ⟨by kernel_rfl,by kernel_rfl⟩) hHeld0 ?_
          (try simp only [Act.put,List.setIfInBounds_toArray,List.set_cons_zero,List.set_cons_succ])
          refine wpAnyH_take (i:=14) (v:=undef) rfl (by kernel_rfl) (by kernel_rfl) (by kernel_rfl) (fun _ _ _ h=>h) (Or.inr ⟨by kernel_rfl,by kernel_rfl⟩) hHeld0 ?_
          (try simp only [Act.put,List.setIfInBounds_toArray,List.set_cons_zero,List.set_cons_succ])
          refine wpAnyH_take (i:=15) (v:=undef) rfl (by kernel_rfl) (by kernel_rfl) (by kernel_rfl) (fun _ _ _ h=>h) (Or.inr ⟨by kernel_rfl,by kernel_rfl⟩) hHeld0 ?_
          (try simp only [Act.put,List.setIfInBounds_toArray,List.set_cons_zero,List.set_cons_succ])
          refine wpAnyH_take (i:=16) (v:=undef) rfl (by kernel_rfl) (by kernel_rfl) (by kernel_rfl) (fun _ _ _ h=>h) (Or.inr ⟨by kernel_rfl,by kernel_rfl⟩) hHeld0 ?_
          (try simp only [Act.put,List.setIfInBounds_toArray,List.set_cons_zero,List.set_cons_succ])
          refine wpAnyH_take (i:=17) (v:=undef) rfl (by kernel_rfl) (by kernel_rfl) (by kernel_rfl) (fun _ _ _ h=>h) (Or.inr ⟨by kernel_rfl,by kernel_rfl⟩) hHeld0 ?_
          (try simp only [Act.put,List.setIfInBounds_toArray,List.set_cons_zero,List.set_cons_succ])
          refine wpAnyH_take (i:=18) (v:=undef) rfl (by kernel_rfl) (by kernel_rfl) (by kernel_rfl) (fun _ _ _ h=>h) (Or.inr ⟨by kernel_rfl,by kernel_rfl⟩) hHeld0 ?_
          (try simp only [Act.put,List.setIfInBounds_toArray,List.set_cons_zero,List.set_cons_succ])
          refine wpAnyH_take (i:=19) (v:=undef) rfl (by kernel_rfl) (by kernel_rfl) (by kernel_rfl) (fun _ _ _ h=>h) (Or.inr ⟨by kernel_rfl,by kernel_rfl⟩) hHeld0 ?_
          (try simp only [Act.put,List.setIfInBounds_toArray,List.set_cons_zero,List.set_cons_succ])
          refine wpAnyH_take (i:=20) (v:=undef) rfl (by kernel_rfl) (by kernel_rfl) (by kernel_rfl) (fun _ _ _ h=>h) (Or.inr ⟨by kernel_rfl,by kernel_rfl⟩) hHeld0 ?_
          (try simp only [Act.put,List.setIfInBounds_toArray,List.set_cons_zero,List.set_cons_succ])
          refine wpAnyH_ready (rs:=[21]) (by kernel_rfl) (by simp) ?_
          refine AllReadyH.cons rfl (fun K hK=>?_) ?_
          rotate_left 1
          ·exact AllReadyH.nil
          go_simp
          refine hK.out _ _ (HK34.out) (fun hHeld3=>?_)
          clear hK K
          refine wpAnyH_take (i:=22) (v:=?_) rfl (by kernel_rfl) (by kernel_rfl) (by kernel_rfl) (fun _ _ _ h=>h) (Or.inl ⟨by kernel_rfl,?_⟩) hHeld0 ?_
          rotate_left 1
          ·intro w hSw;(try dsimp only at hSw);obtain ⟨y1,y2,y3,y4,y5⟩:=hSw;go_simp;(try with_reducible rfl)
          (try simp only [Act.put,List.setIfInBounds_toArray,List.set_cons_zero,List.set_cons_succ])
          refine wpAnyH_ready (rs:=[23]) (by kernel_rfl) (by simp) ?_
          refine AllReadyH.cons rfl (fun K hK=>?_) ?_
          rotate_left 1
          ·exact AllReadyH.nil
          go_simp
          refine hK.out _ _ (HKs.out) (fun hHeld4=>?_)
          clear hK K
          refine wpAnyH_done (by kernel_rfl) ?_ _
          go_wp2
          go_roundw
          case rel=>exact ⟨j+1,_,_,rfl,by have:=HLTj.out;omega,by go_num,HXn,HKb5⟩
          case measure=>have:=HLTj.out;simp [intOf];omega
        ·have hnj:¬ (j:Int) < (un:Int):=by omega
         have hje:j=un:=by omega
         have hkb:kb=keepK S rep p:=by rw [HKb.out,hje,<-HRl.out];exact kpJ_all HP2.out.2
         have hN:=HNe.out
         subst hN
         have hD:=HDe.out
         subst hD
         have HVz:=Lib.hid (HV.out.next (HxV.out _ HXr.out.kk))
         have HKbe:=Lib.hid hkb
         clear hj hltj hje hkb HKb
         have x0:wz.cell? ⟨X,0,none⟩=some (.string ⟨nm.toArray⟩):=HXr.out.rb.cell
         have x1:wz.cell? ⟨X,1,none⟩=some (.int .i64 ki):=HXr.out.rb.cell
         have x2:wz.cell? ⟨X,2,none⟩=some (.bool kb):=HXr.out.rb.cell
         have x3:wz.cell? ⟨X,3,none⟩=some (.int .i64 mo):=HXr.out.rb.cell
         have x4:wz.cell? ⟨X,4,none⟩=some (.string ⟨dt.toArray⟩):=HXr.out.rb.cell
         have x5:wz.cell? ⟨X,5,none⟩=some (.slice ra qn rc):=HXr.out.rb.cell
         have hrq:=HQr.out
         have HOw:Hid (OwnR wz V3.heap.size ⟨⟨nm,ki,kb,mo,dt,rl.map (newRel S rep)⟩,ra,rc⟩):=Lib.hid (by
          refine owns_down (owns_same HO5.out (fun g hg=>?_)) (by have:=HV.out.kk.size;have:=HB1.out.size;have:=HBd.out.size;omega)
          have h:=HO5.out.lt g hg
          exact HXr.out.kk.block g h.2 (fun e=>by have:=HXv.out;injection e with e;omega))
         have hml:m<=256:=by
          have h1:=HM.out
          have h2:=congrArg List.length HSc.out
          simp only [List.length_map,List.length_take] at h2
          have h3:=HLm.out
          have h4:=HLT.out
          omega
         have HNw:Hid ((wz.alloc (.cells #[.string ⟨nm.toArray⟩,.int .i64 ki,.bool kb,.int .i64 mo,.string ⟨dt.toArray⟩,.slice ra qn rc] 43)).heap[wz.heap.size]?=some (.cells #[.string ⟨nm.toArray⟩,.int .i64 ki,.bool kb,.int .i64 mo,.string ⟨dt.toArray⟩,.slice ra qn rc] 43)):=Lib.hid (heap_alloc_new wz _)
         have HmC:Hid (msC ⟨⟨nm,ki,kb,mo,dt,rl.map (newRel S rep)⟩,ra,rc⟩=[.string ⟨nm.toArray⟩,.int .i64 ki,.bool kb,.int .i64 mo,.string ⟨dt.toArray⟩,.slice ra qn rc]):=Lib.hid (by rw [hrq];rfl)
         have hsz3:Hid (V3.heap.size<=wz.heap.size):=Lib.hid HVz.out.kk.size
         have HML:=Lib.hid hml
         clear hml hrq
         go_wp2_with (at_builtin;refine wpList_append_lies _ rfl _ _ 22 rfl V3.heap.size 43 i0 (.agg #[.string ⟨#[]⟩,.int .i64 0,.bool false,.int .i64 0,.string ⟨#[]⟩,.slice none 0 0]) 6 80 Tryz.underlying22 hi0 hz00 hz01 hz02 rfl (by decide) (.slice a m c) m (Lv.flatMap msC) rfl (by have:=HVz.out.oo;rw [<-HM.out] at this;exact this.alloc _) ⟨wz.heap.size,0,none⟩ 1 1 [.string ⟨nm.toArray⟩,.int .i64 ki,.bool kb,.int .i64 mo,.string ⟨dt.toArray⟩,.slice ra qn rc] rfl rfl (World.news_of_block (cs:=#[.string ⟨nm.toArray⟩,.int .i64 ki,.bool kb,.int .i64 mo,.string ⟨dt.toArray⟩,.slice ra qn rc]) (t:=43) (fr:=(0,0)) HNw.out) (by rw [<-HmC.out];exact ms_one _) (by decide) (by have:=HML.out;unfold maxLen;omega) (by have:=HML.out;omega) (by have:=hsz3.out;simp;omega) (wz.heap.size+1) (by simp) ?_;intro g cap2 w2 hown2 hgrow2 hlie2 hlt2)
         rw [HM.out] at hown2 hgrow2
         rw [<-HmC.out] at hown2
         have HV2:=Lib.hid (HVz.out.grow HOw.out hown2 (by rw [HmC.out];exact hgrow2))
         have HM2:Hid (m+1=(Lv ++ [(⟨⟨nm,ki,kb,mo,dt,rl.map (newRel S rep)⟩,ra,rc⟩:Ms)]).length):=Lib.hid (by rw [HM.out];simp)
         have HSc2:Hid ((Lv ++ [(⟨⟨nm,ki,kb,mo,dt,rl.map (newRel S rep)⟩,ra,rc⟩:Ms)]).map (·.sc)=(st.take (i+1)).map (newS S rep)):=Lib.hid (by
          rw [List.map_append,HSc.out,List.take_add_one,HP1.out,List.map_append]
          congr 1
          show [(⟨nm,ki,kb,mo,dt,rl.map (newRel S rep)⟩:Sc)]=[newS S rep p]
          rw [newS_rels S rep p HSp.out,HRl.out,<-HMo.out,<-HKbe.out])
         clear hown2 hgrow2 hlie2 hlt2 HNw x0 x1 x2 x3 x4 x5
         go_roundw
         case rel=>exact ⟨i+1,_,_,_,_,_,rfl,by have:=HLT.out;omega,rfl,by go_num,HM2,HV2,HSc2⟩
         case measure=>have:=HLT.out;simp [intOf];omega
    ·have hnlt:¬ (i:Int) < (ln:Int):=by omega
     have hie:i=ln:=by omega
     have HScf:Hid (Lv.map (·.sc)=newR S rep):=Lib.hid (by
      rw [HSc.out,hie,HLe.out,List.take_length]
      unfold newR;rw [HSt.out])
     have hm:=HM.out
     subst hm
     obtain ⟨k,hk1,hk2,hk3⟩:=HEn.out
     have hkp:=place_get (S:=S) hk3
     obtain ⟨e',he'⟩:∃ x,x=placeN S rep k:=⟨_,rfl⟩
     rw [<-he'] at hkp
     have hki:(k:Int) < (un:Int):=by omega
     have z0:wx.cell? ⟨Z,t,none⟩=some (.int .i64 (k:Int)):=by rw [(HcZ.out _ HKx.out).cell];exact inA_get hk1
     have k0:wx.cell? ⟨K,0,none⟩=some (.slice (some ⟨Z,0,none⟩) un un):=(HcK.out _ HKx.out).cell
     have hel:e' < ln:=by rw [HLe.out,HSt.out];exact (List.getElem?_eq_some_iff.1 hkp).1
     have p0:wx.cell? ⟨K+1,k,none⟩=some (.int .i64 (e':Int)):=by
      rw [(HPl.out.next HV.out.kk).cell]
      refine inA_get ?_
      have:=plK_get (st:=st) (n:=un) (by rw [HSt.out];exact stand_nodup S rep) hk2 (by rw [HSt.out];exact hkp) ln hel
      exact this
     have HLn2:Hid (Lv.length=ln):=Lib.hid (by
      have:=congrArg List.length HScf.out
      rw [List.length_map,newR_len,<-HSt.out,<-HLe.out] at this
      exact this)
     have HSh:Hid (Calls Tryz.prog 27 #[.slice a Lv.length c,.int .i64 (e':Int)] wx (ShrP (newR S rep) (e':Int) Lv.length wx)):=Lib.hid (by
      have hgd:∀ x ∈ Lv,GoodSc x.sc/\x.sc.rels.length*32<=reachBytes:=fun x hx=>by
       have h1:x.sc ∈ newR S rep:=by rw [<-HScf.out];exact List.mem_map.2 ⟨x,hx,rfl⟩
       unfold newR at h1
       obtain ⟨q,hq,h2⟩:=List.mem_map.1 h1
       rw [<-h2]
       have hq2:=(List.getElem?_eq_some_iff.1 (standL_mem.1 hq)).1
       exact newS_good HY.out HGs.out (by rw [HLn.out,<-HRl.out];exact hq2) (by rw [<-HSt.out,<-HLe.out];exact HLm.out)
      have h:=shrink_yes wx a Lv.length c Lv (e':Int) (by have:=HLn2.out;have:=HLm.out;unfold maxLen;omega) HV.out.sl HV.out.notes (fun x hx=>(hgd x hx).1) (fun x hx=>(hgd x hx).2) (HTn.out _ (HcW.out _ HKx.out)) (by rw [HScf.out];exact ⟨HNr.out,by omega,by have:=HLn2.out;omega⟩)
      rw [HScf.out] at h
      exact h)
     have HAg2:Hid (∀ j':Nat,nextP (newR S rep) (inS (newR S rep) e') (foldN (newR S rep) (inS (newR S rep) e') j')=foldN (newR S rep) (inS (newR S rep) e') j'->
       (∀ i,i < (newR S rep).length->(endL (inS (newR S rep) e') (foldN (newR S rep) (inS (newR S rep) e') j'))[i]?=some (i:Int))/\
       alignL (newR S rep) (endL (inS (newR S rep) e') (foldN (newR S rep) (inS (newR S rep) e') j'))=alignL S rep/\(endL (inS (newR S rep) e') (foldN (newR S rep) (inS (newR S rep) e') j')).length=ln):=Lib.hid (fun j' h=>by
      have h1:=HAg.out k e' j' hk1 he' h
      refine ⟨h1.2.2.1,h1.2.2.2,?_⟩
      rw [endL_len,foldN_len,newR_len,<-HSt.out,<-HLe.out])
     have HRn:Hid ((newR S rep).length=ln):=Lib.hid (by rw [newR_len,<-HSt.out,<-HLe.out])
     have hlv:=HLn2.out
     obtain ⟨vn,hvn⟩:∃ x,x=Lv.length:=⟨_,rfl⟩
     rw [<-hvn] at HSh hlv ⊢
     subst hlv
     have HBw:=Lib.hid (HcW.out _ HKx.out)
     have HK6:Hid (∀ v,Below wx.heap.size wx v->Below (K+1) V2 v):=Lib.hid (fun v hv=>HKx.out.trans (hv.mono (by have:=HKx.out.size;have:=Hz2.out;omega)))
     clear hi hlt hie hk1 hk2 hk3 hkp he' hel HSc HAg HScf HLn2 HNr HEn hvn HLv HGs HV
     go_wp2_with fail
     refine HSh.out.mono ?_
     rintro e u7 ⟨j',Z',la',lc',aa',ac',hfx,rfl,hz,hl,ha,hb⟩
     have hag:=HAg2.out j' hfx
     obtain ⟨rep',hrep'⟩:∃ x,x=endL (inS (newR S rep) (e':Int)) (foldN (newR S rep) (inS (newR S rep) (e':Int)) j'):=⟨_,rfl⟩
     rw [<-hrep'] at hz hl ha hag ⊢
     have HSame:Hid (∀ i,i < vn->rep'[i]?=some (i:Int)):=Lib.hid (fun i hi=>hag.1 i (by rw [HRn.out];exact hi))
     have hsf2:=stand_few2 (S:=newR S rep) (rep:=rep') (by rw [hag.2.2];exact HLm.out)
     obtain ⟨sn,hsn⟩:∃ x,x=(standL (newR S rep) rep').length:=⟨_,rfl⟩
     rw [<-hsn] at hl ha hsf2 ⊢
     rw [hag.2.1] at ha
     obtain ⟨K2,hK2⟩:∃ x,x=u7.heap.size:=⟨_,rfl⟩
     obtain ⟨V7,hV7⟩:∃ x,x=u7.alloc (.cells #[.slice (some ⟨Z',0,none⟩) vn vn,.slice la' sn lc',.slice aa' sn ac'] 46):=⟨_,rfl⟩
     have hb7:Below u7.heap.size u7 V7:=by rw [hV7];exact lit_below _ _
     have HR7:Hid (RB V7 K2 #[.slice (some ⟨Z',0,none⟩) vn vn,.slice la' sn lc',.slice aa' sn ac'] 46):=Lib.hid (by rw [hV7,hK2];exact rb_new _ _ _)
     have HZ7:=Lib.hid (hz.next hb7)
     have HA7:=Lib.hid (ha.next hb7)
     have HB7:=Lib.hid (after HBw.out (after hb hb7))
     have HB67:=Lib.hid (after hb hb7)
     have HV7:Hid (u7.alloc (.cells #[.slice (some ⟨Z',0,none⟩) vn vn,.slice la' sn lc',.slice aa' sn ac'] 46)=V7):=Lib.hid hV7.symm
     have HK2:=Lib.hid hK2
     have HSf:=Lib.hid hsf2
     have q0:V7.cell? ⟨K2,0,none⟩=some (.slice (some ⟨Z',0,none⟩) vn vn):=HR7.out.cell
     rw [hV7,hK2] at q0
     have tvv:((vn:Int) != (vn:Int))=false:=by simp
     clear hV7 hb7 hz hl ha hb hag hrep' hfx hsn hK2 hsf2 HSh HAg2 z0 k0 p0 x1 t01
     go_wp2_with fail
     rw [HV7.out,<-HK2.out]
     clear q0
     go_loopw [18] (fun iv wr=>∃ (i:Nat) (wy:World),wy=wr/\i<=vn/\iv=.int .i64 i/\Hid (Below V7.heap.size V7 wy)) (fun iv _=>vn - (intOf iv).toNat)
     case atStart=>exact ⟨0,_,rfl,by omega,rfl,Lib.hid (Below.refl _ _)⟩
     case round=>
      obtain ⟨i,wy,rfl,hi,rfl,HBy⟩:=hrel
      by_cases hlt:i < vn
      ·have hlti:(i:Int) < (vn:Int):=by omega
       have HLT:=Lib.hid hlt
       have q0:wy.cell? ⟨K2,0,none⟩=some (.slice (some ⟨Z',0,none⟩) vn vn):=(HR7.out.next HBy.out).cell
       have q1:wy.cell? ⟨Z',i,none⟩=some (.int .i64 (i:Int)):=by rw [(HZ7.out.next HBy.out).cell];exact inA_get (HSame.out i hlt)
       have tii:((i:Int) != (i:Int))=false:=by simp
       clear hi hlt
       go_wp2
       go_roundw
       case rel=>exact ⟨i+1,_,rfl,by have:=HLT.out;omega,by go_num,HBy⟩
       case measure=>have:=HLT.out;simp [intOf];omega
      ·have hni:¬ (i:Int) < (vn:Int):=by omega
       clear hi hlt
       have HBz:=Lib.hid (after HB7.out HBy.out)
       have HBk:=Lib.hid (after HB67.out HBy.out)
       go_wp2_with fail
       refine (HSk.out _ HBz.out).mono ?_
       rintro e u8 ⟨rfl,hb⟩
       have HB8:=Lib.hid (after HBz.out hb)
       have HR8:=Lib.hid ((HR7.out.next HBy.out).next hb)
       have hk8:=HK6.out _ (after HBk.out hb)
       have HSm:=Lib.hid (sameI_any aa' aa sn vn ac' ac (alignL S rep) (alignL S rep) u8 (by have:=HSf.out;omega) (by have:=HLm.out;omega) ((HA7.out.next HBy.out).next hb) (HcA.out _ hk8))
       rw [decide_eq_true rfl] at HSm
       have q2:u8.cell? ⟨K2,2,none⟩=some (.slice aa' sn ac'):=HR8.out.cell
       have k2:u8.cell? ⟨K,2,none⟩=some (.slice aa vn ac):=(HcK.out _ hk8).cell
       clear hb hk8
       go_wp2_with fail
       refine HSm.out.mono ?_
       rintro e u9 ⟨rfl,hb⟩
       have HB9:=Lib.hid (after HB8.out hb)
       clear hb
       go_wp2
       go_ret
       exact ⟨rfl,HB9.out⟩
end Go.Proofs.YtbabckomagkjbaaGreatDoor
