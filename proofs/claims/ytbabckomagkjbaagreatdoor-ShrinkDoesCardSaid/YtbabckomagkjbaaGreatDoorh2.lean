/- The reference of fold: Fold, Saved. The reference of shrink: what stands for itself, by kinds, and its alignments. The reference of shrink: Shrink. shrink's law: ShrinkDoes. -/
import Derived.Test.YtbabckomagkjbaaGreatDoorh1
import Derived.Test.YtbabckomagkjbaaGreatDoork1
import Derived.Test.YtbabckomagkjbaaGreatDoorqN
import Derived.Test.YtbabckomagkjbaaGreatDoorsO
import Derived.Test.YtbabckomagkjbaaGreatDoorsX
import Derived.Test.YtbabckomagkjbaaGreatDoors1
set_option maxRecDepth 100000
set_option maxHeartbeats 4000000
set_option linter.unusedVariables false
set_option linter.unusedSimpArgs false
namespace Go.Proofs.YtbabckomagkjbaaGreatDoor
open Go.ChangeShapes Go.WideShapes Go.Deep Go.RowKit
structure ZQ (w u:World) (l:List Int) (a:Option Addr) (c:Nat):Prop where
 oo:u.ownsRow w.heap.size 3 1 (.slice a l.length c) l.length (l.flatMap enZ)
 kk:Below w.heap.size w u
theorem ZQ.grow {w u w2:World} {l:List Int} {a a':Option Addr} {c c':Nat} {k:Int} (h:ZQ w u l a c) (hown:w2.ownsRow w.heap.size 3 1 (.slice a' (l.length+1) c') (l.length+1) (l.flatMap enZ ++ enZ k))
  (hgrow:(u.alloc (.cells #[.int .i64 k] 3)).grownBy w2 (Value.slice a l.length c).ownBlock):ZQ w w2 (l ++ [k]) a' c':=by
 refine ⟨by simpa [List.flatMap_append] using hown,?_⟩
 exact (h.kk.alloc h.kk.size _).grown hgrow (by have:=h.kk.size;rw [World.size_alloc];omega) (fun j hj=>(h.oo.lt j hj).1)
def RFoldP (P:List Int) (n:Nat) (w:World) (e:Ending) (w':World):Prop:=∃ (a:Option Addr) (c:Nat),e=.returned (.tuple #[.slice a n c,.int .i64 0])/\SL enZ 1 w' w'.heap.size a n P/\Below w.heap.size w w'/\w'.ownsRow w.heap.size 3 1 (.slice a n c) n (P.flatMap enZ)
def AtI (bi:Bool) (pv:Int) (kk:Nat) (t:Int):Prop:=(bi=false->t = -1)/\(bi=true->(kk:Int)<=pv->t=pv)
def PvI (U:List (List Bool)) (bi:Bool) (i:Nat) (pv:Int):Prop:=(bi=false->pv = -1)/\(bi=true->∃ p:Nat,pv=(p:Int)/\p<=i/\unG U i p=false/\∀ k,k < p->unG U i k=true)
theorem AtI.start {U:List (List Bool)} {bi:Bool} {i:Nat} {pv:Int} (h:PvI U bi i pv):AtI bi pv (i+1) (-1):=
 ⟨fun _=>rfl,fun hb hk=>by obtain ⟨p,rfl,h1,-⟩:=h.2 hb;omega⟩
theorem AtI.hit {U:List (List Bool)} {i q:Nat} {pv t:Int} (h:PvI U true i pv) (hi:AtI true pv (q+1) t) (hU:unG U i q=false):AtI true pv q q:=by
 refine ⟨(fun h=>by cases h),fun _ hk=>?_⟩
 obtain ⟨p,rfl,h1,h2,h3⟩:=h.2 rfl
 by_cases e:q < p
 ·rw [h3 q e] at hU;cases hU
 ·omega
theorem AtI.miss {U:List (List Bool)} {i q:Nat} {pv t:Int} (h:PvI U true i pv) (hi:AtI true pv (q+1) t) (hU:unG U i q=true):AtI true pv q t:=by
 refine ⟨(fun h=>by cases h),fun _ hk=>?_⟩
 obtain ⟨p,rfl,h1,h2,h3⟩:=h.2 rfl
 by_cases e:q=p
 ·subst e;rw [h2] at hU;cases hU
 ·exact hi.2 rfl (by omega)
theorem AtI.done {U:List (List Bool)} {bi:Bool} {i kk:Nat} {pv t z:Int} (h:PvI U bi i pv) (hi:AtI bi pv kk t) (hz:z=(kk:Int) - 1) (hc:¬ (0:Int)<=z\/bi=false):t=pv:=by
 cases bi
 ·rw [hi.1 rfl,h.1 rfl]
 ·obtain ⟨p,e,-⟩:=h.2 rfl
  have h0:=hc.resolve_right (by simp)
  exact hi.2 rfl (by omega)
theorem pv_is {S:List Sc} {ins:List Bool} {j:Nat} {U:List (List Bool)} {i:Nat} {bi:Bool} {pv:Int} (hu:unitsR S=true) (hin:ins.length=S.length) (h:UnI S ins (endL ins (foldN S ins j)) U) (hc:ClosedU S U) (hi:i < S.length) (hb:ins[i]?=some bi) (hp:(endL ins (foldN S ins j))[i]?=some pv):PvI U bi i pv:=by
 cases bi
 ·refine ⟨fun _=>?_,(fun h=>by cases h)⟩
  rw [end_out hi hb] at hp
  exact (Option.some.inj hp).symm
 ·refine ⟨(fun h=>by cases h),fun _=>?_⟩
  obtain ⟨p,h1,h2,h3,h4⟩:=un_least hu hin h hc hi hb
  rw [h1] at hp
  exact ⟨p,(Option.some.inj hp).symm,h2,h3,h4⟩
theorem end_len {S:List Sc} {ins:List Bool} {j:Nat}:(endL ins (foldN S ins j)).length=S.length:=by unfold endL;rw [List.length_map,List.length_range,foldN_len]
theorem rFold_yes (w:World) (ua:Option Addr) (n uc:Nat) (L:List Ms) (ia:Option Addr) (ic:Nat) (ins:List Bool) (j:Nat) (hs:SL msC 6 w w.heap.size ua n L) (hno:Notes w w.heap.size L) (hg:∀ x ∈ L,GoodSc x.sc) (hb:∀ x ∈ L,x.sc.rels.length*32<=reachBytes) (hf:FewU n L) (hi:SL enB 1 w w.heap.size ia n ins) (hu:unitsR (L.map (·.sc))=true) (hfx:nextP (L.map (·.sc)) ins (foldN (L.map (·.sc)) ins j)=foldN (L.map (·.sc)) ins j):
  Calls Tryz.prog 21 #[.slice ua n uc,.slice ia n ic] w (RFoldP (endL ins (foldN (L.map (·.sc)) ins j)) n w):=by
 have hlen:(L.map (·.sc)).length=n:=by rw [List.length_map];exact hs.len.symm
 have hun:n<=256:=by rw [<-hlen];exact units_len hu
 have hni:(n:Int)<=256:=by omega
 have HI:=Lib.hid (rIsU_any ua n uc L w (by unfold maxLen;omega) hs hno hg hb hf)
 rw [hu] at HI
 have HAp:=Lib.hid (fun u (hv:Below w.heap.size w u)=>rApart_any ua n uc L ia ic ins j u (hs.next hv) (hno.next hv) hu (hi.next hv) hfx)
 obtain ⟨S,hS⟩:∃ S,S=L.map (·.sc):=⟨_,rfl⟩
 rw [<-hS] at hlen HAp hu hfx ⊢
 have HU:=Lib.hid hu
 have HIn:Hid (ins.length=S.length):=Lib.hid (by rw [hlen];exact hi.len.symm)
 have HLn:=Lib.hid hlen
 have HIs:=Lib.hid (fun u (hv:Below w.heap.size w u)=>hi.next hv)
 obtain ⟨P,hP⟩:∃ P,P=endL ins (foldN S ins j):=⟨_,rfl⟩
 have HPl:Hid (P.length=n):=Lib.hid (by rw [hP,end_len];exact hlen)
 have HPv:Hid (∀ (U:List (List Bool)) (i:Nat) (bi:Bool) (pv:Int),UnI S ins P U->ClosedU S U->i < n->ins[i]?=some bi->P[i]?=some pv->PvI U bi i pv):=Lib.hid (fun U i bi pv h1 h2 h3 h4 h5=>by
  rw [hP] at h1 h5
  exact pv_is hu HIn.out h1 h2 (by omega) h4 h5)
 rw [<-hP] at HAp ⊢
 obtain ⟨i0,hgi,hz0,hz1,hz2⟩:=info_parts info_intG
 have HUn:=Lib.hid hun
 have t1:((n:Int) != (n:Int))=false:=by simp
 clear hs hno hg hb hf hi hu hfx hS hP hlen hun
 go_enter Tryz.func21,Tryz.ntmps21
 go_wp2_with fail
 refine HI.out.mono ?_
 rintro e u ⟨rfl,hb⟩
 have HB:=Lib.hid hb
 clear hb HI
 go_wp2_with fail
 refine (HAp.out _ HB.out).mono ?_
 rintro e v ⟨oa,oc,Gs,U,rfl,hgn,hO,hU,hC⟩
 have HGn:=Lib.hid hgn
 have HBv:=Lib.hid (after HB.out hO.kk)
 have HO:=Lib.hid (show UR u v n Gs U oa oc from hO)
 have HUi:=Lib.hid hU
 have HCl:=Lib.hid hC
 have HQ0:Hid (ZQ v v [] none 0):=Lib.hid ⟨World.ownsRow_nil _ _ _ _,Below.refl _ _⟩
 clear hgn hO hU hC HB HAp
 go_wp2_with fail
 go_loopw [7,8] (fun ov iv wr=>∃ (i:Nat) (wx:World) (l:List Int) (a:Option Addr) (c:Nat),wx=wr/\i<=n/\ov=.slice a i c/\iv=.int .i64 i/\Hid (ZQ v wx l a c)/\Hid (l=P.take i/\l.length=i)) (fun _ iv _=>n - (intOf iv).toNat)
 case atStart=>exact ⟨0,_,[],none,0,rfl,by omega,rfl,rfl,HQ0,Lib.hid ⟨rfl,rfl⟩⟩
 case round=>
  clear HQ0
  obtain ⟨i,wx,l,a,c,rfl,hi,rfl,rfl,HQ,HL⟩:=hrel
  by_cases hlt:i < n
  ·have hlti:(i:Int) < (n:Int):=by omega
   have HLT:=Lib.hid hlt
   obtain ⟨bi,hbi⟩:∃ x,ins[i]?=some x:=⟨_,List.getElem?_eq_getElem (by rw [HIn.out,HLn.out];exact hlt)⟩
   obtain ⟨pv,hpv⟩:∃ x,P[i]?=some x:=⟨_,List.getElem?_eq_getElem (by rw [HPl.out];exact hlt)⟩
   have HPi:=Lib.hid (HPv.out U i bi pv HUi.out HCl.out hlt hbi hpv)
   have hbw:=after HBv.out HQ.out.kk
   obtain ⟨ib,io,hia,-,-⟩:=(HIs.out _ hbw).cells (by intro e;rw [e] at hbi;cases hbi)
   subst hia
   have j0:wx.cell? ⟨ib,io+i,none⟩=some (.bool bi):=bools_cells (HIs.out _ hbw) (Below.refl _ _) hbi
   obtain ⟨gi,hgi'⟩:∃ x,Gs[i]?=some x:=⟨_,List.getElem?_eq_getElem (by rw [HGn.out];exact hlt)⟩
   have hO:=HO.out.next HQ.out.kk
   obtain ⟨ob,hoa,r0⟩:=hO.row hgi'
   subst hoa
   have HRw:Hid (∀ q,q < n->wx.cell? ⟨gi,q,none⟩=some (.bool (unG U i q))):=Lib.hid (fun q hq=>by
    obtain ⟨xr,hxr,hxq⟩:=sq_get HUi.out.sq (show i < S.length by rw [HLn.out];exact hlt) (show q < S.length by rw [HLn.out];exact hq)
    rw [(hO.rr _ _ _ hgi' hxr).2.cell];exact blA_get hxq)
   have HL2:Hid (l ++ [pv]=P.take (i+1)/\(l ++ [pv]).length=i+1):=Lib.hid ⟨by rw [List.take_add_one,hpv,HL.out.1];rfl,by rw [List.length_append,HL.out.2];rfl⟩
   have HA0:Hid (AtI bi pv (i+1) (-1)):=Lib.hid (AtI.start HPi.out)
   have hx0:Hid (v.heap.size<=wx.heap.size):=Lib.hid HQ.out.kk.size
   clear hlt hi hbi hpv hbw hgi' hO
   go_wp2_with fail
   go_loopw [9,10] (fun tv kv wr=>∃ (kk:Nat) (t z:Int),wr=wx/\tv=.int .i64 t/\kv=.int .i64 z/\kk<=i+1/\Hid (z=(kk:Int) - 1)/\Hid (AtI bi pv kk t)) (fun _ kv _=>(intOf kv+1).toNat)
   case atStart=>exact ⟨i+1,-1,(i:Int),rfl,rfl,rfl,by omega,Lib.hid (by omega),HA0⟩
   case round=>
    clear HA0
    obtain ⟨kk,t,z,rfl,rfl,rfl,hkk,HZ,HA⟩:=hrel
    by_cases hst:¬ (0:Int)<=z\/bi=false
    ·have ht:=HA.out.done HPi.out HZ.out hst
     have hcs:¬ (0:Int)<=z\/((0:Int)<=z/\bi=false):=by
      by_cases h:(0:Int)<=z
      ·exact .inr ⟨h,hst.resolve_left (fun k=>k h)⟩
      ·exact .inl h
     subst ht
     have HNw:Hid ((wr.alloc (.cells #[.int .i64 t] 3)).heap[wr.heap.size]?=some (.cells #[.int .i64 t] 3)):=Lib.hid (heap_alloc_new wr _)
     clear hst hkk
     rcases hcs with h0 | ⟨h0,rfl⟩
     all_goals
      go_wp2_with (at_builtin;refine wpList_append_lies _ rfl _ _ 23 rfl v.heap.size 3 i0 (.int .i64 0) 1 8 Tryz.underlying23 hgi hz0 hz1 hz2 rfl (by decide) (.slice a i c) i (l.flatMap enZ) rfl (by have:=HQ.out.oo;rw [HL.out.2] at this;exact this.alloc _) ⟨wr.heap.size,0,none⟩ 1 1 (enZ t) rfl rfl (World.news_of_block (cs:=#[.int .i64 t]) (t:=3) (fr:=(0,0)) HNw.out) (by simp [enZ,Value.oneCell']) (by decide) (by have:=HLT.out;have:=HUn.out;unfold maxLen;omega) (by have:=HLT.out;have:=HUn.out;omega) (by have:=hx0.out;simp;omega) (wr.heap.size+1) (by simp) ?_;intro g cap w2 hown2 hgrow2 hlie2 hlt2)
      rw [<-HL.out.2] at hown2 hgrow2
      have HQ2:=Lib.hid (HQ.out.grow hown2 hgrow2)
      clear hown2 hgrow2 hlie2 hlt2 HNw
      go_roundw
      case rel=>exact ⟨i+1,_,_,_,_,rfl,by have:=HLT.out;omega,rfl,by go_num,HQ2,HL2⟩
      case measure=>have:=HLT.out;simp [intOf];omega
    ·have h0:(0:Int)<=z:=Classical.byContradiction (fun h=>hst (.inl h))
     have hbt:bi=true:=by cases bi;exact absurd (.inr rfl) hst;rfl
     obtain ⟨q,rfl⟩:∃ q,kk=q+1:=⟨kk - 1,by have:=HZ.out;omega⟩
     obtain rfl:z=(q:Int):=by have:=HZ.out;omega
     subst hbt
     have hqn:(q:Int) < (n:Int):=by omega
     have HKk:=Lib.hid hkk
     have HLq:=Lib.hid hqn
     cases hU:unG U i q
     ·have r1:wr.cell? ⟨gi,q,none⟩=some (.bool false):=by rw [HRw.out q (by omega),hU]
      have HA1:=Lib.hid (HA.out.hit HPi.out hU)
      clear hst hkk hU
      go_wp2
      go_roundw
      case rel=>exact ⟨q,_,(q:Int) - 1,trivial,rfl,by go_num,by have:=HKk.out;omega,Lib.hid rfl,HA1⟩
      case measure=>simp [intOf] <;> omega
     ·have r1:wr.cell? ⟨gi,q,none⟩=some (.bool true):=by rw [HRw.out q (by omega),hU]
      have HA1:=Lib.hid (HA.out.miss HPi.out hU)
      clear hst hkk hU
      go_wp2
      go_roundw
      case rel=>exact ⟨q,_,(q:Int) - 1,trivial,rfl,by go_num,by have:=HKk.out;omega,Lib.hid rfl,HA1⟩
      case measure=>simp [intOf] <;> omega
  ·have hnlt:¬ (i:Int) < (n:Int):=by omega
   have hie:i=n:=by omega
   subst hie
   have hl:l=P:=by rw [HL.out.1];exact List.take_of_length_le (by rw [HPl.out];omega)
   subst hl
   clear hi hlt
   go_wp2
   go_ret2
   refine ⟨a,c,rfl,?_,after HBv.out HQ.out.kk,?_⟩
   rotate_left 1
   ·have h1:=HQ.out.oo
    rw [HL.out.2] at h1
    exact ⟨h1.1,h1.2.imp id (fun ⟨g,cap,cur,e1,e2,e3⟩=>⟨g,cap,cur,e1,Nat.le_trans HBv.out.size e2,e3⟩)⟩
   have h1:=HQ.out.oo
   rw [HL.out.2] at h1
   obtain ⟨a',c',e,h',-⟩:=SL.ofOwns (enc:=enZ) (sz:=1) (fun _=>rfl) (by decide) h1
   injection e with e1 e2 e3
   subst e1
   exact h'
end Go.Proofs.YtbabckomagkjbaaGreatDoor
namespace Go.Proofs.YtbabckomagkjbaaGreatDoor
open Go.ChangeShapes Go.WideShapes Go.Deep Go.RowKit
def kindL (S:List Sc) (rep:List Int) (kd i:Nat):List Nat:=(List.range i).filter (fun q=>decide (kindN S q=(kd:Int)/\rep[q]?=some (q:Int)))
def doneN (S:List Sc) (rep:List Int) (n kd:Nat):List Nat:=(List.range kd).flatMap (fun x=>kindL S rep (x+1) n)
theorem kindL_in {S:List Sc} {rep:List Int} {kd i:Nat} (h:kindN S i=(kd:Int)) (h':rep[i]?=some (i:Int)):kindL S rep kd (i+1)=kindL S rep kd i ++ [i]:=by
 unfold kindL
 rw [List.range_succ,List.filter_append]
 simp [h,h']
theorem kindL_out {S:List Sc} {rep:List Int} {kd i:Nat} (h:¬ (kindN S i=(kd:Int)/\rep[i]?=some (i:Int))):kindL S rep kd (i+1)=kindL S rep kd i:=by
 unfold kindL
 rw [List.range_succ,List.filter_append]
 simp [h]
theorem kindL_mem {S:List Sc} {rep:List Int} {kd i q:Nat}:q ∈ kindL S rep kd i ↔ q < i/\kindN S q=(kd:Int)/\rep[q]?=some (q:Int):=by
 unfold kindL
 simp [List.mem_filter]
theorem kindL_up (S:List Sc) (rep:List Int) (kd i:Nat):(kindL S rep kd i).Pairwise (fun x y=>keyU S x < keyU S y):=by
 refine List.Pairwise.imp_of_mem (R:=fun x y=>x < y) (fun ha hb hab=>?_) (List.Pairwise.filter _ List.pairwise_lt_range)
 have h1:=(kindL_mem.1 ha).2.1
 have h2:=(kindL_mem.1 hb).2.1
 unfold keyU
 rw [h1,h2]
 omega
theorem doneN_succ (S:List Sc) (rep:List Int) (n kd:Nat):doneN S rep n (kd+1)=doneN S rep n kd ++ kindL S rep (kd+1) n:=by
 unfold doneN
 rw [List.range_succ,List.flatMap_append]
 simp
theorem doneN_mem {S:List Sc} {rep:List Int} {n kd q:Nat}:q ∈ doneN S rep n kd ↔ ∃ x,x < kd/\q ∈ kindL S rep (x+1) n:=by
 unfold doneN
 simp [List.mem_flatMap]
theorem doneN_up {S:List Sc} {rep:List Int} {n:Nat} (hn:n<=256):∀ kd,(doneN S rep n kd).Pairwise (fun x y=>keyU S x < keyU S y)
 | 0=>List.Pairwise.nil
 | kd+1=>by
  rw [doneN_succ]
  refine List.pairwise_append.2 ⟨doneN_up hn kd,kindL_up S rep _ n,fun a ha b hb=>?_⟩
  obtain ⟨x,hx,ha⟩:=doneN_mem.1 ha
  obtain ⟨a1,a2,-⟩:=kindL_mem.1 ha
  obtain ⟨b1,b2,-⟩:=kindL_mem.1 hb
  unfold keyU
  rw [a2,b2]
  push_cast
  omega
theorem doneN_all {S:List Sc} {rep:List Int} (hl:rep.length<=256) (hn:rep.length=S.length) (hk:∀ s ∈ S,1<=s.kind/\s.kind<=3):doneN S rep S.length 3=standL S rep:=by
 have hup:=doneN_up (S:=S) (rep:=rep) (n:=S.length) (by omega) 3
 refine standL_one hl ?_ (hup.imp (fun h=>by omega))
 refine (List.perm_ext_iff_of_nodup (hup.imp (fun h e=>by subst e;omega)) ?_).2 (fun a=>?_)
 ·unfold selfL
  exact (List.pairwise_lt_range.imp (fun h=>Nat.ne_of_lt h)).filter _
 ·rw [selfL_mem,doneN_mem]
  constructor
  ·rintro ⟨x,-,h⟩
   exact (kindL_mem.1 h).2.2
  ·intro h
   have ha:a < S.length:=by rw [<-hn];exact (List.getElem?_eq_some_iff.1 h).1
   have hs:=List.getElem?_eq_getElem ha
   obtain ⟨k1,k2⟩:=hk _ (List.getElem_mem ha)
   refine ⟨((S[a]).kind - 1).toNat,by omega,kindL_mem.2 ⟨ha,?_,h⟩⟩
   unfold kindN
   rw [hs]
   simp only []
   omega
structure Tw (w u:World) (d e:List Int) (a:Option Addr) (c:Nat) (a':Option Addr) (c':Nat):Prop where
 o1:u.ownsRow w.heap.size 3 1 (.slice a d.length c) d.length (d.flatMap enZ)
 o2:u.ownsRow w.heap.size 3 1 (.slice a' e.length c') e.length (e.flatMap enZ)
 ap:∀ g,(Value.slice a d.length c).ownBlock=some g->(Value.slice a' e.length c').ownBlock ≠ some g
 kk:Below w.heap.size w u
theorem Tw.nil (w:World):Tw w w [] [] none 0 none 0:=⟨World.ownsRow_nil _ _ _ _,World.ownsRow_nil _ _ _ _,(fun g h=>by cases h),Below.refl _ _⟩
theorem Tw.swap {w u:World} {d e:List Int} {a:Option Addr} {c:Nat} {a':Option Addr} {c':Nat} (h:Tw w u d e a c a' c'):Tw w u e d a' c' a c:=
 ⟨h.o2,h.o1,fun g h1 h2=>h.ap g h2 h1,h.kk⟩
theorem Tw.grow {w u w2:World} {d e:List Int} {a:Option Addr} {c:Nat} {a':Option Addr} {c':Nat} {g cap:Nat} {k:Int} (h:Tw w u d e a c a' c')
  (hown:w2.ownsRow w.heap.size 3 1 (.slice (some ⟨g,0,none⟩) (d.length+1) cap) (d.length+1) (d.flatMap enZ ++ enZ k))
  (hgrow:(u.alloc (.cells #[.int .i64 k] 3)).grownBy w2 (Value.slice a d.length c).ownBlock) (hlie:(Value.slice a d.length c).ownBlock=some g\/g=u.heap.size+1):Tw w w2 (d ++ [k]) e (some ⟨g,0,none⟩) cap a' c':=by
 have h2:=h.o2.alloc (.cells #[.int .i64 k] 3)
 have hs:=h.kk.size
 refine ⟨by simpa [List.flatMap_append] using hown,?_,fun g' hg' he=>?_,(h.kk.alloc h.kk.size _).grown hgrow (by rw [World.size_alloc];omega) (fun j hj=>(h.o1.lt j hj).1)⟩
 ·refine ⟨h2.1,?_⟩
  rcases h2.2 with hn | ⟨g',cap',cur,hv,hbg,hgg,rest⟩
  ·exact .inl hn
  ·refine .inr ⟨g',cap',cur,hv,hbg,?_,rest⟩
   rw [<-hgg]
   refine hgrow.block g' (lt_of_block hgg) (fun e1=>?_)
   exact h.ap g' e1.symm (by rw [hv];rfl)
 ·have e1:g=g':=by simpa [Value.ownBlock] using hg'
  subst e1
  rcases hlie with h1 | h1
  ·exact h.ap g h1 he
  ·have:=(h.o2.lt g he).2
   omega
theorem units_kind {L:List Sc} (h:unitsR L=true):∀ s ∈ L,1<=s.kind/\s.kind<=3:=by
 intro s hs
 unfold unitsR at h
 simp only [Bool.and_eq_true,decide_eq_true_eq,List.all_eq_true] at h
 have h1:=h.2 s hs
 unfold unitOk at h1
 simp only [Bool.and_eq_true] at h1
 have h2:=head_iff.1 (sec_iff.1 h1.1).1
 exact ⟨h2.2.1,h2.2.2.1⟩
def LiveP (S:List Sc) (rep:List Int) (w:World) (e:Ending) (w':World):Prop:=∃ (a:Option Addr) (c:Nat) (a':Option Addr) (c':Nat),e=.returned (.tuple #[.slice a (standL S rep).length c,.slice a' (standL S rep).length c'])/\w'.ownsRow w.heap.size 3 1 (.slice a (standL S rep).length c) (standL S rep).length (((standL S rep).map Int.ofNat).flatMap enZ)/\w'.ownsRow w.heap.size 3 1 (.slice a' (standL S rep).length c') (standL S rep).length ((alignL S rep).flatMap enZ)/\Below w.heap.size w w'
theorem ints_cellsV {w:World} {pb po pn:Nat} {P:List Int} (h:SL enZ 1 w w.heap.size (some ⟨pb,po,none⟩) pn P) {u:World} (hu:Below w.heap.size w u) {q:Nat} {v:Int} (hq:P[q]?=some v):u.cell? ⟨pb,po+q,none⟩=some (.int .i64 v):=by
 have hl:=(List.getElem?_eq_some_iff.1 hq).1
 have hv:=(List.getElem?_eq_some_iff.1 hq).2
 obtain ⟨b,off,e,hB,hc⟩:=(h.next hu).cells (by intro e;rw [e] at hl;simp at hl)
 cases e
 have d0:=hc q hl 0 (by decide)
 simp only [enZ,Nat.add_zero,Nat.mul_one,List.getElem?_cons_zero] at d0
 rw [d0,hv]
theorem doneN_len {S:List Sc} {rep:List Int} {n kd i:Nat} (hn:n<=256) (hi:i<=n):(doneN S rep n kd ++ kindL S rep (kd+1) i).length<=1024\/3<=kd:=by
 by_cases h:3<=kd
 ·exact .inr h
 ·left
  have key:∀ x m,(kindL S rep x m).length<=m:=fun x m=>by unfold kindL;have:=List.length_filter_le (fun q=>decide (kindN S q=(x:Int)/\rep[q]?=some (q:Int))) (List.range m);simpa using this
  have h2:∀ kd,(doneN S rep n kd).length<=n*kd:=by
   intro kd
   induction kd with
   | zero=>simp [doneN]
   | succ k ih=>rw [doneN_succ,List.length_append];have:=key (k+1) n;rw [Nat.mul_succ];omega
  have h3:=h2 kd
  have h4:=key (kd+1) i
  rw [List.length_append]
  have h5:n*kd<=256*2:=Nat.mul_le_mul hn (by omega)
  omega
theorem rLive_any (ua:Option Addr) (un uc:Nat) (L:List Ms) (ra:Option Addr) (rc:Nat) (rep:List Int) (w:World) (hs:SL msC 6 w w.heap.size ua un L) (hu:unitsR (L.map (·.sc))=true) (hr:SL enZ 1 w w.heap.size ra un rep):
  Calls Tryz.prog 60 #[.slice ua un uc,.slice ra un rc] w (LiveP (L.map (·.sc)) rep w):=by
 have hlen:(L.map (·.sc)).length=un:=by rw [List.length_map];exact hs.len.symm
 have hun:un<=256:=by rw [<-hlen];exact units_len hu
 have hni:(un:Int)<=256:=by omega
 obtain ⟨S,hS⟩:∃ S,S=L.map (·.sc):=⟨_,rfl⟩
 have HLS:Hid (∀ (i:Nat) (m:Ms),L[i]?=some m->S[i]?=some m.sc):=Lib.hid (fun i m h=>by rw [hS,List.getElem?_map,h];rfl)
 have HLL:=Lib.hid hs.len
 rw [<-hS] at hlen hu ⊢
 have HLn:=Lib.hid hlen
 have HUn:=Lib.hid hun
 have HMs:=Lib.hid hs
 have HRs:=Lib.hid hr
 have HRl:Hid (rep.length=un):=Lib.hid hr.len.symm
 have HEnd:Hid (doneN S rep un 3=standL S rep):=Lib.hid (by
  rw [<-hlen]
  exact doneN_all (by rw [HRl.out];exact hun) (by rw [HRl.out,hlen]) (units_kind hu))
 obtain ⟨i0,hgi,hz0,hz1,hz2⟩:=info_parts info_intG
 have HT0:Hid (Tw w w (([]:List Nat).map Int.ofNat) (([]:List Nat).map (fun k=>mostN S rep k un)) none 0 none 0):=Lib.hid (Tw.nil w)
 clear hs hu hr hlen hun hS
 go_enter Tryz.func60,Tryz.ntmps60
 go_wp2_with fail
 go_loopw [6,7,8] (fun ov av kv wr=>∃ (kd:Nat) (wx:World) (d:List Nat) (a:Option Addr) (c:Nat) (a':Option Addr) (c' q:Nat),wx=wr/\1<=kd/\kd<=4/\ov=.slice a q c/\av=.slice a' q c'/\kv=.int .i64 kd/\Hid (q=d.length/\d=doneN S rep un (kd - 1))/\Hid (Tw w wx (d.map Int.ofNat) (d.map (fun k=>mostN S rep k un)) a c a' c')) (fun _ _ kv _=>4 - (intOf kv).toNat)
 case atStart=>exact ⟨1,_,[],none,0,none,0,0,rfl,by omega,by omega,rfl,rfl,rfl,Lib.hid ⟨rfl,rfl⟩,HT0⟩
 case round=>
  clear HT0
  obtain ⟨kd,wx,d,a,c,a',c',q,rfl,hk1,hk4,rfl,rfl,rfl,HD,HT⟩:=hrel
  by_cases hlt:kd<=3
  ·have hkd:(kd:Int)<=3:=by omega
   have HLT:=Lib.hid hlt
   have HK1:=Lib.hid hk1
   have HD2:Hid (q=d.length/\d=doneN S rep un (kd - 1) ++ kindL S rep kd 0):=Lib.hid ⟨HD.out.1,by rw [HD.out.2];simp [kindL]⟩
   clear hlt hk1 hk4 HD
   go_wp2_with fail
   go_loopw [6,7,9] (fun ov av iv wr=>∃ (i:Nat) (wx:World) (d:List Nat) (a:Option Addr) (c:Nat) (a':Option Addr) (c' q:Nat),wx=wr/\i<=un/\ov=.slice a q c/\av=.slice a' q c'/\iv=.int .i64 i/\Hid (q=d.length/\d=doneN S rep un (kd - 1) ++ kindL S rep kd i)/\Hid (Tw w wx (d.map Int.ofNat) (d.map (fun k=>mostN S rep k un)) a c a' c')) (fun _ _ iv _=>un - (intOf iv).toNat)
   case atStart=>exact ⟨0,_,d,a,c,a',c',q,rfl,by omega,rfl,rfl,rfl,HD2,HT⟩
   case round=>
    clear HT HD2
    obtain ⟨i,wx,d,a,c,a',c',q,rfl,hi,rfl,rfl,rfl,HD,HT⟩:=hrel
    by_cases hlt:i < un
    ·have hlti:(i:Int) < (un:Int):=by omega
     have HLTi:=Lib.hid hlt
     have hki:i < L.length:=by have:=HLL.out;omega
     have HMi:Hid (L[i]?=some L[i]):=Lib.hid (List.getElem?_eq_getElem hki)
     generalize L[i]'hki=m at HMi
     obtain ⟨b,off,hua,hcs⟩:=ms_at HMs.out HMi.out
     subst hua
     obtain ⟨v,hv⟩:∃ x,rep[i]?=some x:=⟨_,List.getElem?_eq_getElem (by rw [HRl.out];exact hlt)⟩
     obtain ⟨rb,ro,hra,-,-⟩:=HRs.out.cells (by intro e;rw [e] at hv;cases hv)
     subst hra
     have c1:=(hcs wx HT.out.kk).2.1
     have r0:wx.cell? ⟨rb,ro+i,none⟩=some (.int .i64 v):=ints_cellsV HRs.out HT.out.kk hv
     have HKi:Hid (kindN S i=m.sc.kind):=Lib.hid (by unfold kindN;rw [HLS.out _ _ HMi.out])
     obtain ⟨ki,hke⟩:∃ x,x=m.sc.kind:=⟨_,rfl⟩
     rw [<-hke] at c1 HKi
     have HRv:=Lib.hid hv
     clear hlt hi hki hcs hv hke HMi
     by_cases hok:ki=(kd:Int)/\v=(i:Int)
     ·obtain ⟨e1,e2⟩:=hok
      have t1:(ki != (kd:Int))=false:=by simp [e1]
      have t2:(v != (i:Int))=false:=by simp [e2]
      have HD5:Hid (q+1=(d ++ [i]).length/\d ++ [i]=doneN S rep un (kd - 1) ++ kindL S rep kd (i+1)):=Lib.hid ⟨by rw [List.length_append,HD.out.1];rfl,by rw [kindL_in (by rw [HKi.out];exact e1) (by rw [HRv.out,e2]),<-List.append_assoc,<-HD.out.2]⟩
      have HQl:Hid (q<=1024):=Lib.hid (by
       have:=doneN_len (S:=S) (rep:=rep) (kd:=kd - 1) HUn.out (show i<=un by have:=HLTi.out;omega)
       have h1:=HK1.out
       have h2:=HLT.out
       rw [show kd - 1+1=kd by omega,<-HD.out.2,<-HD.out.1] at this
       omega)
      clear e1 e2 HKi HRv
      go_wp2_with fail
      go_loopw [10,11] (fun mv kv wr=>∃ (k:Nat) (mo:Int),wr=wx/\k<=un/\mv=.int .i64 mo/\kv=.int .i64 k/\Hid (mo=mostN S rep i k)) (fun _ kv _=>un - (intOf kv).toNat)
      case atStart=>exact ⟨0,0,rfl,by omega,rfl,rfl,Lib.hid rfl⟩
      case round=>
       obtain ⟨k,mo,rfl,hk,rfl,rfl,HMo⟩:=hrel
       by_cases hltk:k < un
       ·have hltki:(k:Int) < (un:Int):=by omega
        have HLTk:=Lib.hid hltk
        have hkk:k < L.length:=by have:=HLL.out;omega
        have HMk:Hid (L[k]?=some L[k]):=Lib.hid (List.getElem?_eq_getElem hkk)
        generalize L[k]'hkk=m2 at HMk
        obtain ⟨b2,off2,hua,hcs⟩:=ms_at HMs.out HMk.out
        injection hua with e
        injection e with e1 e2
        subst e1 e2
        obtain ⟨v2,hv⟩:∃ x,rep[k]?=some x:=⟨_,List.getElem?_eq_getElem (by rw [HRl.out];exact hltk)⟩
        have c3:=(hcs wr HT.out.kk).2.2.2.1
        have r1:wr.cell? ⟨rb,ro+k,none⟩=some (.int .i64 v2):=ints_cellsV HRs.out HT.out.kk hv
        have HAk:Hid (alignN S k=m2.sc.align):=Lib.hid (by unfold alignN;rw [HLS.out _ _ HMk.out])
        obtain ⟨al,hal⟩:∃ x,x=m2.sc.align:=⟨_,rfl⟩
        rw [<-hal] at c3 HAk
        have HRv:=Lib.hid hv
        clear hltk hk hkk hcs hv hal HMk
        by_cases hvv:v2=(i:Int)
        ·have t3:(v2 == (i:Int))=true:=by simp [hvv]
         have HMn:Hid (max mo al=mostN S rep i (k+1)):=Lib.hid (by rw [mostN,if_pos (by rw [HRv.out,hvv]),HMo.out,HAk.out])
         clear hvv
         go_wp2
         go_roundw
         case rel=>exact ⟨k+1,_,trivial,by have:=HLTk.out;omega,rfl,by go_num,HMn⟩
         case measure=>have:=HLTk.out;simp [intOf];omega
        ·have t3:(v2 == (i:Int))=false:=by simp [hvv]
         have HMn:Hid (mo=mostN S rep i (k+1)):=Lib.hid (by rw [mostN,if_neg (by rw [HRv.out];simpa using hvv),HMo.out])
         clear hvv
         go_wp2
         go_roundw
         case rel=>exact ⟨k+1,_,trivial,by have:=HLTk.out;omega,rfl,by go_num,HMn⟩
         case measure=>have:=HLTk.out;simp [intOf];omega
       ·have hltki:¬ (k:Int) < (un:Int):=by omega
        have hke:k=un:=by omega
        subst hke
        have hx0:Hid (w.heap.size<=wr.heap.size):=Lib.hid HT.out.kk.size
        have HNw:Hid ((wr.alloc (.cells #[.int .i64 (i:Int)] 3)).heap[wr.heap.size]?=some (.cells #[.int .i64 (i:Int)] 3)):=Lib.hid (heap_alloc_new wr _)
        have hdl:Hid ((d.map Int.ofNat).length=q):=Lib.hid (by rw [List.length_map];exact HD.out.1.symm)
        have hel:Hid ((d.map (fun x=>mostN S rep x k)).length=q):=Lib.hid (by rw [List.length_map];exact HD.out.1.symm)
        clear hk hltk
        go_wp2_with (at_builtin;first
         | (refine wpList_append_lies _ rfl _ _ 23 rfl w.heap.size 3 i0 (.int .i64 0) 1 8 Tryz.underlying23 hgi hz0 hz1 hz2 rfl (by decide) (.slice a q c) q ((d.map Int.ofNat).flatMap enZ) rfl (by have:=HT.out.o1;rw [hdl.out] at this;exact this.alloc _) ⟨wr.heap.size,0,none⟩ 1 1 (enZ (i:Int)) rfl rfl (World.news_of_block (cs:=#[.int .i64 (i:Int)]) (t:=3) (fr:=(0,0)) HNw.out) (by simp [enZ,Value.oneCell']) (by decide) (by have:=HQl.out;unfold maxLen;omega) (by have:=HQl.out;omega) (by have:=hx0.out;simp;omega) (wr.heap.size+1) (by simp) ?_;intro g cap w2 hown2 hgrow2 hlie2 hlt2
            rw [<-hdl.out] at hown2 hgrow2 hlie2
            have HT2:=Lib.hid (HT.out.grow hown2 hgrow2 hlie2)
            clear hown2 hgrow2 hlie2 hlt2
            have hx1:Hid (w.heap.size<=w2.heap.size):=Lib.hid HT2.out.kk.size
            have HNw2:Hid ((w2.alloc (.cells #[.int .i64 mo] 3)).heap[w2.heap.size]?=some (.cells #[.int .i64 mo] 3)):=Lib.hid (heap_alloc_new w2 _))
         | (refine wpList_append_lies _ rfl _ _ 23 rfl w.heap.size 3 i0 (.int .i64 0) 1 8 Tryz.underlying23 hgi hz0 hz1 hz2 rfl (by decide) (.slice a' q c') q ((d.map (fun x=>mostN S rep x k)).flatMap enZ) rfl (by have:=HT2.out.o2;rw [hel.out] at this;exact this.alloc _) ⟨w2.heap.size,0,none⟩ 1 1 (enZ mo) rfl rfl (World.news_of_block (cs:=#[.int .i64 mo]) (t:=3) (fr:=(0,0)) HNw2.out) (by simp [enZ,Value.oneCell']) (by decide) (by have:=HQl.out;unfold maxLen;omega) (by have:=HQl.out;omega) (by have:=hx1.out;simp;omega) (w2.heap.size+1) (by simp) ?_;intro g3 cap3 w3 hown3 hgrow3 hlie3 hlt3))
        rw [<-hel.out] at hown3 hgrow3 hlie3
        have HT3:=Lib.hid (HT2.out.swap.grow hown3 hgrow3 hlie3).swap
        have HT4:Hid (Tw w w3 ((d ++ [i]).map Int.ofNat) ((d ++ [i]).map (fun x=>mostN S rep x k)) (some ⟨g,0,none⟩) cap (some ⟨g3,0,none⟩) cap3):=Lib.hid (by
         have:=HT3.out
         rw [List.map_append,List.map_append,List.map_singleton,List.map_singleton,<-HMo.out]
         exact this)
        clear hown3 hgrow3 hlie3 hlt3 HNw HNw2
        go_wp2
        go_roundw
        case rel=>exact ⟨i+1,_,_,_,_,_,_,q+1,rfl,by have:=HLTi.out;omega,rfl,rfl,by go_num,HD5,HT4⟩
        case measure=>have:=HLTi.out;simp [intOf];omega
     ·have hcs:(ki != (kd:Int))=true\/((ki != (kd:Int))=false/\(v != (i:Int))=true):=by
       by_cases h:ki=(kd:Int)
       ·exact .inr ⟨by simp [h],by simp;exact fun e=>hok ⟨h,e⟩⟩
       ·exact .inl (by simp [h])
      have HD5:Hid (q=d.length/\d=doneN S rep un (kd - 1) ++ kindL S rep kd (i+1)):=Lib.hid ⟨HD.out.1,by rw [kindL_out (fun h=>hok ⟨by rw [<-HKi.out];exact h.1,by have:=h.2;rw [HRv.out] at this;simpa using this⟩)];exact HD.out.2⟩
      clear hok HKi HRv
      rcases hcs with t1 | ⟨t1,t2⟩
      all_goals
       go_wp2
       go_roundw
       case rel=>exact ⟨i+1,_,_,_,_,_,_,_,rfl,by have:=HLTi.out;omega,rfl,rfl,by go_num,HD5,HT⟩
       case measure=>have:=HLTi.out;simp [intOf];omega
    ·have hnlt:¬ (i:Int) < (un:Int):=by omega
     have hie:i=un:=by omega
     have HD5:Hid (q=d.length/\d=doneN S rep un (kd+1 - 1)):=Lib.hid ⟨HD.out.1,by
      have h1:=HK1.out
      have:=doneN_succ S rep un (kd - 1)
      rw [show kd - 1+1=kd by omega] at this
      rw [Nat.add_sub_cancel,this,<-hie]
      have h2:=HD.out.2
      rw [hie] at h2 ⊢
      exact h2⟩
     clear hi hlt hie
     go_wp2
     go_roundw
     case rel=>exact ⟨kd+1,_,_,_,_,_,_,_,rfl,by omega,by have:=HLT.out;omega,rfl,rfl,by go_num,HD5,HT⟩
     case measure=>have:=HLT.out;simp [intOf];omega
  ·have hnk:¬ (kd:Int)<=3:=by omega
   have hke:kd=4:=by omega
   have HDe:Hid (q=(standL S rep).length/\d=standL S rep):=Lib.hid (by
    have h2:=HD.out.2
    rw [hke,HEnd.out] at h2
    exact ⟨by rw [HD.out.1,h2],h2⟩)
   clear hlt hk1 hk4 hke
   go_wp2
   go_ret2
   refine ⟨a,c,a',c',by rw [<-HDe.out.1];rfl,?_,?_,HT.out.kk⟩
   ·have h1:=HT.out.o1
    rw [List.length_map,<-HD.out.1] at h1
    rw [<-HDe.out.1,<-HDe.out.2]
    exact h1
   ·have h1:=HT.out.o2
    rw [List.length_map,<-HD.out.1] at h1
    rw [<-HDe.out.1]
    unfold alignL
    rw [<-HDe.out.2,HRl.out]
    exact h1
end Go.Proofs.YtbabckomagkjbaaGreatDoor
namespace Go.Proofs.YtbabckomagkjbaaGreatDoor
open Go.ChangeShapes Go.WideShapes Go.Deep Go.RowKit
def RShrP (S:List Sc) (rep:List Int) (n:Nat) (w:World) (e:Ending) (w':World):Prop:=
 ∃ (ra:Option Addr) (rc:Nat) (la:Option Addr) (lc:Nat) (aa:Option Addr) (ac:Nat),e=.returned (.tuple #[.agg #[.slice ra n rc,.slice la (standL S rep).length lc,.slice aa (standL S rep).length ac],.int .i64 0])/\
  SL enZ 1 w' w'.heap.size ra n rep/\SL enZ 1 w' w'.heap.size la (standL S rep).length ((standL S rep).map Int.ofNat)/\SL enZ 1 w' w'.heap.size aa (standL S rep).length (alignL S rep)/\Below w.heap.size w w'
theorem rShrink_no (w:World) (ua:Option Addr) (n uc:Nat) (L:List Ms) (e0:Int) (hn:n<=maxLen) (hs:SL msC 6 w w.heap.size ua n L) (hno:Notes w w.heap.size L) (hg:∀ x ∈ L,GoodSc x.sc) (hb:∀ x ∈ L,x.sc.rels.length*32<=reachBytes) (hf:FewU n L) (h:¬ (unitsR (L.map (·.sc))=true/\0<=e0/\e0 < (n:Int))):
  Calls Tryz.prog 28 #[.slice ua n uc,.int .i64 e0] w (RetB (.tuple #[.agg keptZ,.int .i64 1]) w):=by
 have hlen:(L.map (·.sc)).length=n:=by rw [List.length_map];exact hs.len.symm
 obtain ⟨W1,hW1⟩:∃ x,x=w.alloc (.cells keptZ 46):=⟨_,rfl⟩
 have hb1:Below w.heap.size w W1:=by rw [hW1];exact lit_below w _
 have hr1:RB W1 w.heap.size keptZ 46:=by rw [hW1];exact rb_new w _ _
 have HRo:=Lib.hid (rRoots_any ua n uc L e0 W1 hn (hs.next hb1) (hno.next hb1) hg hb hf)
 have HWE:Hid (w.alloc (.cells #[.slice none 0 0,.slice none 0 0,.slice none 0 0] 46)=W1):=Lib.hid hW1.symm
 have HB1:=Lib.hid hb1
 have HR1:=Lib.hid hr1
 have HNo:Hid (¬ (unitsR (L.map (·.sc))=true/\0<=e0/\e0 < ((L.map (·.sc)).length:Int))):=Lib.hid (by rw [hlen];exact h)
 obtain ⟨X,hX⟩:∃ x,x=w.heap.size:=⟨_,rfl⟩
 have HX:=Lib.hid hX
 rw [<-hX] at HR1
 clear hs hno hg hb hf h hlen hW1 hb1 hr1 hn hX
 go_enter Tryz.func28,Tryz.ntmps28
 go_wp2_with fail
 rw [HWE.out,<-HX.out]
 refine HRo.out.mono ?_
 intro e u hro
 unfold RootsR at hro
 rw [if_neg HNo.out] at hro
 obtain ⟨rfl,hb⟩:=hro
 have hrv:=HR1.out.next hb
 have HRF:Hid (RB (((u.setCell ⟨X,0,none⟩ (.slice none 0 0)).setCell ⟨X,1,none⟩ (.slice none 0 0)).setCell ⟨X,2,none⟩ (.slice none 0 0)) X keptZ 46):=Lib.hid (((hrv.set (j:=0) _).set (j:=1) _).set (j:=2) _)
 have hle:w.heap.size<=X:=by rw [<-HX.out];exact Nat.le_refl _
 have HBF:Hid (Below w.heap.size w (((u.setCell ⟨X,0,none⟩ (.slice none 0 0)).setCell ⟨X,1,none⟩ (.slice none 0 0)).setCell ⟨X,2,none⟩ (.slice none 0 0))):=Lib.hid ((((after HB1.out hb).setCell (p:=⟨X,0,none⟩) hle _).setCell (p:=⟨X,1,none⟩) hle _).setCell (p:=⟨X,2,none⟩) hle _)
 have z0:u.cell? ⟨X,0,none⟩=some (.slice none 0 0):=hrv.cell
 have z1:u.cell? ⟨X,1,none⟩=some (.slice none 0 0):=hrv.cell
 have z2:u.cell? ⟨X,2,none⟩=some (.slice none 0 0):=hrv.cell
 have q0:u.frozen? ⟨X,0,none⟩=false:=hrv.frozen
 have q1:u.frozen? ⟨X,1,none⟩=false:=hrv.frozen
 have q2:u.frozen? ⟨X,2,none⟩=false:=hrv.frozen
 clear hrv hb hle
 go_wp2
 refine bodyPost_ret (results_cell_two (P:=Tryz.prog) rfl _ _ X 46 _ (0,0) _ (.int .i64 1) rfl HRF.out Tryz.underlying46 rfl (by kernel_rfl) rfl) rfl ?_
 exact ⟨rfl,HBF.out⟩
theorem rShrink_yes (w:World) (ua:Option Addr) (n uc:Nat) (L:List Ms) (e0:Int) (j:Nat) (hn:n<=maxLen) (hs:SL msC 6 w w.heap.size ua n L) (hno:Notes w w.heap.size L) (hg:∀ x ∈ L,GoodSc x.sc) (hb:∀ x ∈ L,x.sc.rels.length*32<=reachBytes) (hf:FewU n L) (h:unitsR (L.map (·.sc))=true/\0<=e0/\e0 < (n:Int)) (hfx:nextP (L.map (·.sc)) (inS (L.map (·.sc)) e0) (foldN (L.map (·.sc)) (inS (L.map (·.sc)) e0) j)=foldN (L.map (·.sc)) (inS (L.map (·.sc)) e0) j):
  Calls Tryz.prog 28 #[.slice ua n uc,.int .i64 e0] w (RShrP (L.map (·.sc)) (endL (inS (L.map (·.sc)) e0) (foldN (L.map (·.sc)) (inS (L.map (·.sc)) e0) j)) n w):=by
 have hlen:(L.map (·.sc)).length=n:=by rw [List.length_map];exact hs.len.symm
 have hn2:n<=256:=by have:=units_len h.1;rw [hlen] at this;exact this
 obtain ⟨W1,hW1⟩:∃ x,x=w.alloc (.cells keptZ 46):=⟨_,rfl⟩
 have hb1:Below w.heap.size w W1:=by rw [hW1];exact lit_below w _
 have hr1:RB W1 w.heap.size keptZ 46:=by rw [hW1];exact rb_new w _ _
 have HRo:=Lib.hid (rRoots_any ua n uc L e0 W1 hn (hs.next hb1) (hno.next hb1) hg hb hf)
 have HRe:Hid (∀ u a c rn R,Below w.heap.size w u->SL enZ 1 u u.heap.size a rn R->rn<=1000000->Calls Tryz.prog 13 #[.slice ua n uc,.slice a rn c] u (ReachR (L.map (·.sc)) R u)):=Lib.hid fun u a c rn R hu hr hrn=>rReach_any ua n uc L a rn c R u hn (hs.next hu) (hno.next hu) hg hb hr hrn hf
 have HFo:Hid (∀ u g c,Below w.heap.size w u->SL enB 1 u u.heap.size (some ⟨g,0,none⟩) n (inS (L.map (·.sc)) e0)->Calls Tryz.prog 21 #[.slice ua n uc,.slice (some ⟨g,0,none⟩) n c] u (RFoldP (endL (inS (L.map (·.sc)) e0) (foldN (L.map (·.sc)) (inS (L.map (·.sc)) e0) j)) n u)):=Lib.hid fun u g c hu hi=>rFold_yes u ua n uc L _ c _ j (hs.next hu) (hno.next hu) hg hb hf hi h.1 hfx
 have HSt:Hid (∀ u a c rep,Below w.heap.size w u->SL enZ 1 u u.heap.size a n rep->Calls Tryz.prog 60 #[.slice ua n uc,.slice a n c] u (LiveP (L.map (·.sc)) rep u)):=Lib.hid fun u a c rep hu hr=>rLive_any ua n uc L a c rep u (hs.next hu) h.1 hr
 have HWE:Hid (w.alloc (.cells #[.slice none 0 0,.slice none 0 0,.slice none 0 0] 46)=W1):=Lib.hid hW1.symm
 have HB1:=Lib.hid hb1
 have HR1:=Lib.hid hr1
 obtain ⟨S,hS⟩:∃ S,S=L.map (·.sc):=⟨_,rfl⟩
 rw [<-hS] at hlen h HRo HRe HFo HSt hfx
 have HY:Hid (unitsR S=true/\0<=e0/\e0 < (S.length:Int)):=Lib.hid (by rw [hlen];exact h)
 have HLn:=Lib.hid hlen
 have HN2:=Lib.hid hn2
 rw [<-hS]
 obtain ⟨X,hX⟩:∃ x,x=w.heap.size:=⟨_,rfl⟩
 have HX:=Lib.hid hX
 rw [<-hX] at HR1
 have HFx:=Lib.hid hfx
 clear hs hno hg hb hf h hlen hW1 hb1 hr1 hn hX hn2 hS hfx
 go_enter Tryz.func28,Tryz.ntmps28
 go_wp2_with fail
 rw [HWE.out,<-HX.out]
 refine HRo.out.mono ?_
 intro e u1 hro
 unfold RootsR at hro
 rw [if_pos HY.out] at hro
 obtain ⟨ra,rc,rfl,hoo,hb⟩:=hro
 have HB2:=Lib.hid (after HB1.out hb)
 have HR2:=Lib.hid (HR1.out.next hb)
 have HSz:=Lib.hid (owns_slN hoo)
 have HRn:Hid ((rootsN 0 e0 S).length<=1000000):=Lib.hid (by have h1:=rootsN_few S 0 e0;have h2:=HLn.out;have h3:=HN2.out;omega)
 have HRi:Hid (unitsR S=true/\rootsB (rootZ S e0) S.length=true):=Lib.hid ⟨HY.out.1,roots_in S e0⟩
 obtain ⟨rn,hrn⟩:∃ x,x=(rootsN 0 e0 S).length:=⟨_,rfl⟩
 rw [<-hrn] at HSz HRn ⊢
 clear hoo hb hrn
 go_wp2_with fail
 refine (HRe.out u1 ra rc rn (rootZ S e0) HB2.out HSz.out HRn.out).mono ?_
 intro e u2 hre
 unfold ReachR at hre
 rw [if_pos HRi.out] at hre
 obtain ⟨g,rfl,hrb,-,hb⟩:=hre
 have HB3:=Lib.hid (after HB2.out hb)
 have HR3:=Lib.hid (HR2.out.next hb)
 have HIn:Hid (SL enB 1 u2 u2.heap.size (some ⟨g,0,none⟩) n (inS S e0)):=Lib.hid (by have:=rb_sl hrb;rw [reachB_len,HLn.out] at this;exact this)
 have HIl:Hid ((inS S e0).length=S.length):=Lib.hid (reachB_len _ _)
 rw [HLn.out]
 clear hb hrb HSz HRn HRe HRo
 obtain ⟨rep,hrep⟩:∃ x,x=endL (inS S e0) (foldN S (inS S e0) j):=⟨_,rfl⟩
 rw [<-hrep] at HFo
 have HRp:=Lib.hid hrep
 have HRl:Hid (rep.length=n):=Lib.hid (by rw [hrep,endL_len,foldN_len];exact HLn.out)
 clear hrep
 go_wp2_with fail
 refine (HFo.out u2 g n HB3.out HIn.out).mono ?_
 rintro e u3 ⟨fa,fc,rfl,hr,hb,ho⟩
 have HB4:=Lib.hid (after HB3.out hb)
 have HR4:=Lib.hid (HR3.out.next hb)
 have HZs:=Lib.hid hr
 have HFw:=Lib.hid ho
 have HX2:=Lib.hid (lt_of_block HR3.out)
 clear hr hb ho HFo HIn
 go_wp2_with fail
 refine (HSt.out u3 fa fc rep HB4.out HZs.out).mono ?_
 rintro e u5 ⟨la,lc,aa,ac,rfl,hoo,hoo2,hb⟩
 have HB5:=Lib.hid HB4.out
 have HR5:=Lib.hid HR4.out
 have HX3:=Lib.hid (lt_of_block HR4.out)
 obtain ⟨ln,hln⟩:∃ x,x=(standL S rep).length:=⟨_,rfl⟩
 have HLe:=Lib.hid hln
 rw [<-hln] at hoo hoo2 ⊢
 clear hln HZs HSt HR4
 have hrv:=HR5.out.next hb
 obtain ⟨vA,hvA⟩:∃ v:Value,v=.slice fa n fc:=⟨_,rfl⟩
 obtain ⟨vB,hvB⟩:∃ v:Value,v=.slice la ln lc:=⟨_,rfl⟩
 obtain ⟨vC,hvC⟩:∃ v:Value,v=.slice aa ln ac:=⟨_,rfl⟩
 have hle:w.heap.size<=X:=by rw [<-HX.out];exact Nat.le_refl _
 have hbF:Below u5.heap.size u5 u5:=Below.refl _ _
 have HRF:Hid (RB (((u5.setCell ⟨X,0,none⟩ vA).setCell ⟨X,1,none⟩ vB).setCell ⟨X,2,none⟩ vC) X #[vA,vB,vC] 46):=Lib.hid (((hrv.set (j:=0) _).set (j:=1) _).set (j:=2) _)
 have HBF:Hid (Below w.heap.size w (((u5.setCell ⟨X,0,none⟩ vA).setCell ⟨X,1,none⟩ vB).setCell ⟨X,2,none⟩ vC)):=Lib.hid ((((after HB5.out hb).setCell (p:=⟨X,0,none⟩) hle _).setCell (p:=⟨X,1,none⟩) hle _).setCell (p:=⟨X,2,none⟩) hle _)
 have z0:u5.cell? ⟨X,0,none⟩=some (.slice none 0 0):=hrv.cell
 have z1:u5.cell? ⟨X,1,none⟩=some (.slice none 0 0):=hrv.cell
 have z2:u5.cell? ⟨X,2,none⟩=some (.slice none 0 0):=hrv.cell
 have q0:u5.frozen? ⟨X,0,none⟩=false:=hrv.frozen
 have q1:u5.frozen? ⟨X,1,none⟩=false:=hrv.frozen
 have q2:u5.frozen? ⟨X,2,none⟩=false:=hrv.frozen
 have HZF:=Lib.hid (owns_set (o:=2) (y:=vC) (owns_set (o:=1) (y:=vB) (owns_set (o:=0) (y:=vA) (owns_next HFw.out hb) HX2.out) HX2.out) HX2.out)
 have HLF:=Lib.hid (owns_set (o:=2) (y:=vC) (owns_set (o:=1) (y:=vB) (owns_set (o:=0) (y:=vA) hoo HX3.out) HX3.out) HX3.out)
 have HAF:=Lib.hid (owns_set (o:=2) (y:=vC) (owns_set (o:=1) (y:=vB) (owns_set (o:=0) (y:=vA) hoo2 HX3.out) HX3.out) HX3.out)
 have HFin:Hid (RShrP S rep n w (.returned (.tuple #[.agg #[vA,vB,vC],.int .i64 0])) (((u5.setCell ⟨X,0,none⟩ vA).setCell ⟨X,1,none⟩ vB).setCell ⟨X,2,none⟩ vC)):=Lib.hid (by
  have h0:=HZF.out
  have h1:=HLF.out
  have h2:=HAF.out
  refine ⟨fa,fc,la,lc,aa,ac,?_,?_,?_,?_,HBF.out⟩
  ·rw [<-HLe.out,hvA,hvB,hvC]
  ·rw [<-HRl.out] at h0 ⊢
   exact owns_slZ h0
  ·rw [HLe.out] at h1
   rw [<-List.length_map (f:=Int.ofNat)] at h1 ⊢
   exact owns_slZ h1
  ·rw [HLe.out] at h2
   have he:(standL S rep).length=(alignL S rep).length:=by unfold alignL;rw [List.length_map]
   rw [he] at h2 ⊢
   exact owns_slZ h2)
 subst hvA hvB hvC
 clear hrv hb hle hbF hoo hoo2 HLF HAF HZF
 go_wp2
 refine bodyPost_ret (results_cell_two (P:=Tryz.prog) rfl _ _ X 46 _ (0,0) _ (.int .i64 0) rfl HRF.out Tryz.underlying46 rfl (by kernel_rfl) rfl) rfl ?_
 rw [<-HRp.out]
 exact HFin.out
end Go.Proofs.YtbabckomagkjbaaGreatDoor
namespace Go.Proofs.YtbabckomagkjbaaGreatDoor
open Go.ChangeShapes Go.WideShapes Go.Deep Go.RowKit
def ShrQ (rep live align:List Int) (er:Int) (w:World) (e:Ending) (w':World):Prop:=
 ∃ (ra:Option Addr) (rc:Nat) (la:Option Addr) (lc:Nat) (aa:Option Addr) (ac:Nat),e=.returned (.tuple #[.agg #[.slice ra rep.length rc,.slice la live.length lc,.slice aa align.length ac],.int .i64 er])/\
  SL enZ 1 w' w'.heap.size ra rep.length rep/\SL enZ 1 w' w'.heap.size la live.length live/\SL enZ 1 w' w'.heap.size aa align.length align/\Below w.heap.size w w'
theorem ShrQ.no {w w':World} {e:Ending} (h:RetB (.tuple #[.agg keptZ,.int .i64 1]) w e w'):ShrQ [] [] [] 1 w e w':=
 ⟨none,0,none,0,none,0,h.1,SL.nil _ _ _,SL.nil _ _ _,SL.nil _ _ _,h.2⟩
theorem ShrQ.yes {S:List Sc} {rep:List Int} {n:Nat} (hn:rep.length=n) {w w':World} {e:Ending} (h:RShrP S rep n w e w'):ShrQ rep ((standL S rep).map Int.ofNat) (alignL S rep) 0 w e w':=by
 obtain ⟨ra,rc,la,lc,aa,ac,rfl,h1,h2,h3,h4⟩:=h
 subst hn
 have e1:((standL S rep).map Int.ofNat).length=(standL S rep).length:=List.length_map ..
 have e2:(alignL S rep).length=(standL S rep).length:=by unfold alignL;rw [List.length_map]
 exact ⟨ra,rc,la,lc,aa,ac,by rw [e1,e2],h1,by rw [e1];exact h2,by rw [e2];exact h3,h4⟩
theorem shrP_yes {S:List Sc} {e0:Int} {n:Nat} (hS:S.length=n) {w w':World} {e:Ending} (h:ShrP S e0 n w e w'):∃ j,nextP S (inS S e0) (foldN S (inS S e0) j)=foldN S (inS S e0) j/\RShrP S (endL (inS S e0) (foldN S (inS S e0) j)) n w e w':=by
 obtain ⟨j,Z,la,lc,aa,ac,h1,h2,h3,h4,h5,h6⟩:=h
 refine ⟨j,h1,some ⟨Z,0,none⟩,n,la,lc,aa,ac,h2,?_,h4,h5,h6⟩
 have:=rb_slI h3
 rw [end_len,hS] at this
 exact this
theorem ShrinkDoes_walk (w:World) (ua:Option Addr) (un uc:Nat) (L:List Ms) (hun:un<=maxLen) (hs:SL msC 6 w w.heap.size ua un L) (hno:Notes w w.heap.size L) (hg:∀ m ∈ L,GoodSc m.sc) (hb:∀ m ∈ L,m.sc.rels.length*32<=reachBytes) (hz:∀ m ∈ L,m.ad=none->m.sc.rels.length=0/\m.cap=0)
  (e0:Int) (he : -9223372036854775808<=e0/\e0<=9223372036854775807) (hT:TabP w):
  Calls Tryz.prog 5 #[.slice ua un uc,.int .i64 e0] w (RetB (.bool true) w):=by
 have hlen:(L.map (·.sc)).length=un:=by rw [List.length_map];exact hs.len.symm
 have HBg:Hid (∀ u,Below w.heap.size w u->Calls Tryz.prog 8 #[.slice ua un uc] u (BigP un L u)):=Lib.hid fun u hu=>rBigU2_any ua un uc L u hun (hs.next hu) (hno.next hu) hb
 have HSk:Hid (∀ u,Below w.heap.size w u->Calls Tryz.prog 29 #[] u (RetB (.bool true) u)):=Lib.hid fun u hu=>shrunk_is u (hT.next hu)
 have HOw:Hid (∀ u,un<=300->Below w.heap.size w u->Calls Tryz.prog 9 #[.slice ua un uc] u (OwnP un (L.map (·.sc)) u)):=Lib.hid fun u h3 hu=>rOwn_any ua un uc L u h3 (hs.next hu) (hno.next hu) hb hz
 have HO2:Hid (∀ (Lo:List Ms),Lo.map (·.sc)=L.map (·.sc)->FewU un L->(∀ m ∈ Lo,GoodSc m.sc)/\(∀ m ∈ Lo,m.sc.rels.length*32<=reachBytes)/\FewU un Lo):=Lib.hid (fun Lo h hf=>by
  have key:∀ m ∈ Lo,∃ x ∈ L,x.sc=m.sc:=fun m hm=>by
   have:m.sc ∈ L.map (·.sc):=by rw [<-h];exact List.mem_map.2 ⟨m,hm,rfl⟩
   obtain ⟨x,hx,e⟩:=List.mem_map.1 this
   exact ⟨x,hx,e⟩
  refine ⟨fun m hm=>?_,fun m hm=>?_,hf.1,hf.2.imp id (fun h=>⟨h.1,fun m hm=>?_⟩)⟩
  ·obtain ⟨x,hx,e⟩:=key m hm;rw [<-e];exact hg x hx
  ·obtain ⟨x,hx,e⟩:=key m hm;rw [<-e];exact hb x hx
  ·obtain ⟨x,hx,e⟩:=key m hm;rw [<-e];exact h.2 x hx)
 have HSh:Hid (∀ (u v0:World) (oa:Option Addr) (oc:Nat) (Lo:List Ms),Below w.heap.size w u->Lo.map (·.sc)=L.map (·.sc)->FewU un L->(∀ v,Below v0.heap.size v0 v->SL msC 6 v v.heap.size oa un Lo/\Notes v v.heap.size Lo)->
   Calls Tryz.prog 27 #[.slice ua un uc,.int .i64 e0] u (fun e w'=>∃ rep live align er,(rep.length<=300/\live.length<=300/\align.length<=300/\∀ v,Below v0.heap.size v0 v->Calls Tryz.prog 28 #[.slice oa un oc,.int .i64 e0] v (ShrQ rep live align er v))/\ShrQ rep live align er u e w')):=Lib.hid (fun u v0 oa oc Lo hu hsc hf hov=>by
  obtain ⟨g1,g2,g3⟩:=HO2.out Lo hsc hf
  by_cases hok:unitsR (L.map (·.sc))=true/\0<=e0/\e0 < (un:Int)
  ·have hu3:=units_len hok.1
   rw [hlen] at hu3
   refine (shrink_yes u ua un uc L e0 hun (hs.next hu) (hno.next hu) hg hb (hT.next hu) hok).mono fun e w' h=>?_
   obtain ⟨j,hfx,h'⟩:=shrP_yes hlen h
   have hl:(endL (inS (L.map (·.sc)) e0) (foldN (L.map (·.sc)) (inS (L.map (·.sc)) e0) j)).length=un:=by rw [end_len];exact hlen
   have h256:(standL (L.map (·.sc)) (endL (inS (L.map (·.sc)) e0) (foldN (L.map (·.sc)) (inS (L.map (·.sc)) e0) j))).length<=256:=by rw [standL_len];have:=selfL_len (endL (inS (L.map (·.sc)) e0) (foldN (L.map (·.sc)) (inS (L.map (·.sc)) e0) j));omega
   refine ⟨_,_,_,0,⟨by omega,by rw [List.length_map];omega,by unfold alignL;rw [List.length_map];omega,fun v hv=>?_⟩,ShrQ.yes hl h'⟩
   have:=rShrink_yes v oa un oc Lo e0 j hun (hov v hv).1 (hov v hv).2 g1 g2 g3 (by rw [hsc];exact hok) (by rw [hsc];exact hfx)
   rw [hsc] at this
   exact this.mono fun e w' h=>ShrQ.yes hl h
  ·refine (shrink_no u ua un uc L e0 hun (hs.next hu) (hno.next hu) hg hb (hT.next hu) hok).mono fun e w' h=>⟨[],[],[],1,⟨by simp,by simp,by simp,fun v hv=>?_⟩,ShrQ.no h⟩
   exact (rShrink_no v oa un oc Lo e0 hun (hov v hv).1 (hov v hv).2 g1 g2 g3 (by rw [hsc];exact hok)).mono fun e w' h=>ShrQ.no h)
 have HUn:=Lib.hid (fun u (hu:Below w.heap.size w u)=>hs.next hu)
 have HNo:=Lib.hid (fun u (hu:Below w.heap.size w u)=>hno.next hu)
 have HBd:=Lib.hid hb
 have HMx:=Lib.hid hun
 have HB:Hid (Below w.heap.size w w):=Lib.hid (Below.refl _ w)
 clear hs hno hg hb hz he hT hun hlen
 go_enter Tryz.func5,Tryz.ntmps5
 go_wp2_with fail
 refine (HBg.out _ HB.out).mono ?_
 rintro e u ⟨r,rfl,hr,hb⟩
 replace HB:=Lib.hid (after HB.out hb)
 have HFw:=Lib.hid hr
 clear hb hr
 cases r
 rotate_left
 ·go_wp2
  go_ret
  exact ⟨rfl,HB.out⟩
 replace HFw:=Lib.hid (HFw.out rfl)
 go_wp2_with fail
 refine (HOw.out _ HFw.out.1 HB.out).mono ?_
 rintro e u1 ⟨oa,oc,Lo,rfl,hon,hvi,hsc⟩
 replace HB:=Lib.hid (after HB.out hvi.kk)
 have HSc:=Lib.hid hsc
 have HVs:Hid (∀ v,Below u1.heap.size u1 v->SL msC 6 v v.heap.size oa un Lo/\Notes v v.heap.size Lo):=Lib.hid (fun v hv=>by
  have h:=hvi.next hv
  exact ⟨by have:=h.sl;rwa [<-hon] at this,h.notes⟩)
 have HU:Hid (Below u1.heap.size u1 u1):=Lib.hid (Below.refl _ _)
 clear hon hvi hsc HOw HBg
 go_wp2_with fail
 refine (HSh.out _ u1 oa oc Lo HB.out HSc.out HFw.out HVs.out).mono ?_
 rintro e u2 ⟨rep,live,align,er,⟨hl1,hl2,hl3,hrf⟩,ra,rc,la,lc,aa,ac,rfl,h1,h2,h3,hb⟩
 have HRf:=Lib.hid hrf
 have HL1:=Lib.hid hl1
 have HL2:=Lib.hid hl2
 have HL3:=Lib.hid hl3
 obtain ⟨n1,hn1⟩:∃ x,x=rep.length:=⟨_,rfl⟩
 obtain ⟨n2,hn2⟩:∃ x,x=live.length:=⟨_,rfl⟩
 obtain ⟨n3,hn3⟩:∃ x,x=align.length:=⟨_,rfl⟩
 rw [<-hn1,<-hn2,<-hn3]
 rw [<-hn1] at h1 HL1
 rw [<-hn2] at h2 HL2
 rw [<-hn3] at h3 HL3
 have HE:=Lib.hid (And.intro hn1 (And.intro hn2 hn3))
 obtain ⟨X,hX⟩:∃ x,x=u2.heap.size:=⟨_,rfl⟩
 obtain ⟨V,hV⟩:∃ x,x=u2.alloc (.cells #[.slice ra n1 rc,.slice la n2 lc,.slice aa n3 ac] 46):=⟨_,rfl⟩
 have hbV:Below u2.heap.size u2 V:=by rw [hV];exact lit_below _ _
 have HX:Hid (RB V X #[.slice ra n1 rc,.slice la n2 lc,.slice aa n3 ac] 46):=Lib.hid (by rw [hV,hX];exact rb_new _ _ _)
 have HVE:Hid (u2.alloc (.cells #[.slice ra n1 rc,.slice la n2 lc,.slice aa n3 ac] 46)=V):=Lib.hid hV.symm
 have HXe:=Lib.hid hX
 replace HB:=Lib.hid (after HB.out (after hb hbV))
 replace HU:=Lib.hid (after HU.out (after hb hbV))
 have H1:=Lib.hid (h1.next hbV)
 have H2:=Lib.hid (h2.next hbV)
 have H3:=Lib.hid (h3.next hbV)
 clear hl1 hl2 hl3 hrf h1 h2 h3 hb hn1 hn2 hn3 hX hV hbV HSh
 go_wp2_with fail
 rw [HVE.out,<-HXe.out]
 refine (HRf.out _ HU.out).mono ?_
 rintro e u3 ⟨ra',rc',la',lc',aa',ac',rfl,h1,h2,h3,hb⟩
 rw [<-HE.out.1,<-HE.out.2.1,<-HE.out.2.2]
 rw [<-HE.out.1] at h1
 rw [<-HE.out.2.1] at h2
 rw [<-HE.out.2.2] at h3
 obtain ⟨X',hX⟩:∃ x,x=u3.heap.size:=⟨_,rfl⟩
 obtain ⟨V',hV⟩:∃ x,x=u3.alloc (.cells #[.slice ra' n1 rc',.slice la' n2 lc',.slice aa' n3 ac'] 46):=⟨_,rfl⟩
 have hbV:Below u3.heap.size u3 V':=by rw [hV];exact lit_below _ _
 have hab:=after hb hbV
 replace HX:=Lib.hid (HX.out.next hab)
 have HX':Hid (RB V' X' #[.slice ra' n1 rc',.slice la' n2 lc',.slice aa' n3 ac'] 46):=Lib.hid (by rw [hV,hX];exact rb_new _ _ _)
 have HVE':Hid (u3.alloc (.cells #[.slice ra' n1 rc',.slice la' n2 lc',.slice aa' n3 ac'] 46)=V'):=Lib.hid hV.symm
 have HXe':=Lib.hid hX
 replace HB:=Lib.hid (after HB.out hab)
 replace HU:=Lib.hid (after HU.out hab)
 replace H1:=Lib.hid (H1.out.next hab)
 replace H2:=Lib.hid (H2.out.next hab)
 replace H3:=Lib.hid (H3.out.next hab)
 have G1:=Lib.hid (h1.next hbV)
 have G2:=Lib.hid (h2.next hbV)
 have G3:=Lib.hid (h3.next hbV)
 clear h1 h2 h3 hb hX hV hbV hab HRf
 go_wp2_with fail
 rw [HVE'.out,<-HXe'.out]
 refine (HSk.out _ HB.out).mono ?_
 rintro e u4 ⟨rfl,hb⟩
 have x0:u4.cell? ⟨X,0,none⟩=some (.slice ra n1 rc):=(HX.out.next hb).cell
 have x1:u4.cell? ⟨X,1,none⟩=some (.slice la n2 lc):=(HX.out.next hb).cell
 have x2:u4.cell? ⟨X,2,none⟩=some (.slice aa n3 ac):=(HX.out.next hb).cell
 have y0:u4.cell? ⟨X',0,none⟩=some (.slice ra' n1 rc'):=(HX'.out.next hb).cell
 have y1:u4.cell? ⟨X',1,none⟩=some (.slice la' n2 lc'):=(HX'.out.next hb).cell
 have y2:u4.cell? ⟨X',2,none⟩=some (.slice aa' n3 ac'):=(HX'.out.next hb).cell
 replace HB:=Lib.hid (after HB.out hb)
 replace HU:=Lib.hid (after HU.out hb)
 have HSm:=Lib.hid (same23_true u4 ra n1 rc la n2 lc aa n3 ac ra' rc' la' lc' aa' ac' rep live align (by have:=HL1.out;omega) (by have:=HL2.out;omega) (by have:=HL3.out;omega) (H1.out.next hb) (H2.out.next hb) (H3.out.next hb) (G1.out.next hb) (G2.out.next hb) (G3.out.next hb))
 have t1:(er == er)=true:=by simp
 clear hb
 go_wp2_with fail
 refine HSm.out.mono ?_
 rintro e u5 ⟨rfl,hb⟩
 replace HB:=Lib.hid (after HB.out hb)
 replace HU:=Lib.hid (after HU.out hb)
 clear hb x0 x1 x2 y0 y1 y2
 have HSu:=Lib.hid (rSameU_is ua oa un uc oc L Lo u5 HMx.out (HUn.out _ HB.out) (HNo.out _ HB.out) (HVs.out _ HU.out).1 (HVs.out _ HU.out).2 HBd.out HSc.out)
 go_wp2_with fail
 refine HSu.out.mono ?_
 rintro e u6 ⟨rfl,hb⟩
 replace HB:=Lib.hid (after HB.out hb)
 clear hb
 go_wp2
 go_ret
 exact ⟨rfl,HB.out⟩
end Go.Proofs.YtbabckomagkjbaaGreatDoor
