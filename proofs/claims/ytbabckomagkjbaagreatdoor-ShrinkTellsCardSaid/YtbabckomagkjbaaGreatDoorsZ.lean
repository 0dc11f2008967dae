/- shrink: Is. shrink: slices.Index, slices.Contains. shrink: Refs. shrink: Lost; rows of strings. -/
import Derived.Test.YtbabckomagkjbaaGreatDoorsY
set_option maxRecDepth 100000
set_option maxHeartbeats 3000000
set_option linter.unusedVariables false
set_option linter.unusedSimpArgs false
namespace Go.Proofs.YtbabckomagkjbaaGreatDoor
open Go.ChangeShapes Go.WideShapes Go.Deep Go.RowKit
theorem equalZ_any (w:World) (a1 a2:Option Addr) (n c m d:Nat) (xs ys:List Int) (h1:SL enZ 1 w w.heap.size a1 n xs) (h2:SL enZ 1 w w.heap.size a2 m ys) (hn:n<=maxLen) (hm:m<=maxLen):
  Calls Tryz.prog 55 #[.slice a1 n c,.slice a2 m d] w (fun e w'=>e=.returned (.bool (decide (xs=ys)))/\∃ q,w'=w.drewN q):=by
 have l1:=h1.len
 have l2:=h2.len
 unfold maxLen at hn hm
 by_cases hz:n=0
 ·subst hz
  have hx:xs=[]:=List.length_eq_zero_iff.1 l1.symm
  refine (Tryz.slices_Equal_int_empty a1 a2 c m d w (by omega)).mono ?_
  rintro e w' ⟨rfl,hw⟩
  refine ⟨?_,0,by rw [hw];rfl⟩
  congr 2
  rw [decide_eq_decide,hx]
  constructor
  ·intro h;rw [h] at l2;exact (List.length_eq_zero_iff.1 l2.symm).symm
  ·intro h;rw [l2,<-h];rfl
 by_cases hnm:n=m
 rotate_left
 ·refine (Tryz.slices_Equal_int_lens a1 a2 n c m d w hnm).mono ?_
  rintro e w' ⟨rfl,hw⟩
  refine ⟨?_,0,by rw [hw];rfl⟩
  rw [decide_eq_false (fun h=>hnm (by rw [l1,l2,h]))]
 subst hnm
 obtain ⟨b1,o1,e1,-,-⟩:=h1.cells (by intro e;rw [e] at l1;exact hz l1)
 obtain ⟨b2,o2,e2,-,-⟩:=h2.cells (by intro e;rw [e] at l2;exact hz l2)
 subst e1 e2
 refine (Tryz.slices_Equal_int b1 o1 n c b2 o2 n d xs ys w (by omega) (by omega) (by omega) (by omega)
  (fun q hq=>by rw [ints_cells h1 (Below.refl _ _) (List.getElem?_eq_getElem hq)];simp [List.getD,List.getElem?_eq_getElem hq])
  (fun q hq=>by rw [ints_cells h2 (Below.refl _ _) (List.getElem?_eq_getElem hq)];simp [List.getD,List.getElem?_eq_getElem hq])).mono ?_
 rintro e w' ⟨rfl,q,hq⟩
 refine ⟨?_,q,hq⟩
 rw [List.take_of_length_le (by omega),List.take_of_length_le (by omega)]
 congr 2
 rw [Bool.eq_iff_iff];simp
def IsQ (S:List Sc) (rep live align:List Int):Prop:=unitsR S=true/\RepsQ S rep/\LeadQ S rep/\live=(standL S rep).map Int.ofNat/\align=alignL S rep
abbrev kpV (ra:Option Addr) (rn rc:Nat) (la:Option Addr) (ln lc:Nat) (aa:Option Addr) (an ac:Nat):Array Value:=#[.slice ra rn rc,.slice la ln lc,.slice aa an ac]
theorem reps_lt {S:List Sc} {rep:List Int} (h:RepsQ S rep):∀ (k:Nat) (v:Int),rep[k]?=some v->v < (S.length:Int):=by
 intro k v hv
 have hk:=(List.getElem?_eq_some_iff.1 hv).1
 rw [h.1] at hk
 rcases h.2 k v hv with h1 | ⟨-,h1,-⟩
 ·omega
 ·exact h1
theorem shrIs_any (w:World) (ua:Option Addr) (n uc:Nat) (L:List Ms) (ra:Option Addr) (rn rc:Nat) (rep:List Int) (la:Option Addr) (ln lc:Nat) (live:List Int) (aa:Option Addr) (an ac:Nat) (align:List Int) (hn:n<=maxLen) (hs:SL msC 6 w w.heap.size ua n L) (hno:Notes w w.heap.size L) (hg:∀ x ∈ L,GoodSc x.sc) (hb:∀ x ∈ L,x.sc.rels.length*32<=reachBytes)
  (hr:SL enZ 1 w w.heap.size ra rn rep) (hl:SL enZ 1 w w.heap.size la ln live) (ha:SL enZ 1 w w.heap.size aa an align) (hrn:rn<=maxLen) (hln:ln<=maxLen) (han:an<=maxLen) (hT:TabP w):
  Calls Tryz.prog 39 #[.slice ua n uc,.agg (kpV ra rn rc la ln lc aa an ac)] w (IffP (IsQ (L.map (·.sc)) rep live align) w):=by
 obtain ⟨W1,hW1⟩:∃ x,x=w.alloc (.cells (kpV ra rn rc la ln lc aa an ac) 46):=⟨_,rfl⟩
 have hb1:Below w.heap.size w W1:=by rw [hW1];exact lit_below w _
 have hr1:RB W1 w.heap.size (kpV ra rn rc la ln lc aa an ac) 46:=by rw [hW1];exact rb_new w _ _
 have HIs:=Lib.hid (gIs_any ua n uc L W1 hn (hs.next hb1) (hno.next hb1) hg hb (hT.next hb1))
 have HWE:Hid (w.alloc (.cells (kpV ra rn rc la ln lc aa an ac) 46)=W1):=Lib.hid hW1.symm
 have HBu:=Lib.hid hb1
 have HR1:=Lib.hid hr1
 obtain ⟨X,hX⟩:∃ x,x=w.heap.size:=⟨_,rfl⟩
 have HX:=Lib.hid hX
 rw [<-hX] at HR1
 have hlen:(L.map (·.sc)).length=n:=by rw [List.length_map];exact hs.len.symm
 by_cases hu:unitsR (L.map (·.sc))=true
 rotate_left
 ·have huf:unitsR (L.map (·.sc))=false:=by cases h:unitsR (L.map (·.sc));rfl;exact absurd h hu
  have HNg:Hid (¬ IsQ (L.map (·.sc)) rep live align):=Lib.hid (fun hq=>hu hq.1)
  rw [huf] at HIs
  clear hs hno hg hb hr hl ha hrn hln han hT hW1 hb1 hr1 hX hlen hu huf hn
  go_enter Tryz.func39,Tryz.ntmps39
  go_wp2_with fail
  have hwe:=HWE.out
  simp only [kpV] at hwe
  rw [hwe,<-HX.out]
  refine HIs.out.mono ?_
  rintro e u ⟨rfl,hb⟩
  have HB:=Lib.hid (after HBu.out hb)
  clear hb hwe
  go_wp2
  go_ret
  exact ⟨false,rfl,⟨fun h=>(by cases h),fun hq=>absurd hq HNg.out⟩,HB.out⟩
 rw [hu] at HIs
 have hn2:n<=256:=by have:=units_len hu;rw [hlen] at this;exact this
 have HAr:Hid (∀ u,Below w.heap.size w u->Calls Tryz.prog 62 #[.slice ua n uc,.slice ra rn rc] u (IffP (RepsQ (L.map (·.sc)) rep) u)):=Lib.hid fun u hk=>areReps_any u ua n uc L ra rn rc rep hrn (hs.next hk) (hno.next hk) (hr.next hk) hu
 obtain ⟨S,hS⟩:∃ S,S=L.map (·.sc):=⟨_,rfl⟩
 by_cases hq1:RepsQ S rep
 rotate_left
 ·have HNg:Hid (¬ IsQ S rep live align):=Lib.hid (fun hq=>hq1 hq.2.1)
  rw [<-hS] at HAr ⊢
  have HN1:=Lib.hid hq1
  clear hs hno hg hb hr hl ha hrn hln han hT hW1 hb1 hr1 hX hlen hu hn hn2 hS hq1
  have x0:W1.cell? ⟨X,0,none⟩=some (.slice ra rn rc):=HR1.out.cell
  go_enter Tryz.func39,Tryz.ntmps39
  go_wp2_with fail
  have hwe:=HWE.out
  simp only [kpV] at hwe
  rw [hwe,<-HX.out]
  refine HIs.out.mono ?_
  rintro e u ⟨rfl,hb⟩
  have HB:=Lib.hid (after HBu.out hb)
  have x0:u.cell? ⟨X,0,none⟩=some (.slice ra rn rc):=(HR1.out.next hb).cell
  clear hb hwe
  go_wp2_with fail
  refine (HAr.out u HB.out).mono ?_
  rintro e u2 ⟨r,rfl,hr,hb⟩
  have hrf:r=false:=by cases r;rfl;exact absurd (hr.1 rfl) HN1.out
  subst hrf
  replace HB:=Lib.hid (after HB.out hb)
  clear hb hr x0
  go_wp2
  go_ret
  exact ⟨false,rfl,⟨fun h=>(by cases h),fun hq=>absurd hq HNg.out⟩,HB.out⟩
 have hrnn:rn=n:=by rw [hr.len,hq1.1,hS,hlen]
 subst hrnn
 have HLd:Hid (∀ u,Below w.heap.size w u->Calls Tryz.prog 63 #[.slice ua rn uc,.slice ra rn rc] u (IffP (LeadQ (L.map (·.sc)) rep) u)):=Lib.hid fun u hk=>shrLead_any u ua rn uc L ra rc rep (hs.next hk) (hno.next hk) (hr.next hk) hu (by rw [<-hS];exact hq1)
 have HQ1:=Lib.hid hq1
 by_cases hq2:LeadQ S rep
 rotate_left
 ·have HNg:Hid (¬ IsQ S rep live align):=Lib.hid (fun hq=>hq2 hq.2.2.1)
  have HN2:=Lib.hid hq2
  rw [<-hS] at HAr HLd ⊢
  clear hs hno hg hb hr hl ha hrn hln han hT hW1 hb1 hr1 hX hlen hu hn hn2 hS hq1 hq2
  go_enter Tryz.func39,Tryz.ntmps39
  go_wp2_with fail
  have hwe:=HWE.out
  simp only [kpV] at hwe
  rw [hwe,<-HX.out]
  refine HIs.out.mono ?_
  rintro e u ⟨rfl,hb⟩
  have HB:=Lib.hid (after HBu.out hb)
  have HR2:=Lib.hid (HR1.out.next hb)
  have x0:u.cell? ⟨X,0,none⟩=some (.slice ra rn rc):=HR2.out.cell
  clear hb hwe
  go_wp2_with fail
  refine (HAr.out u HB.out).mono ?_
  rintro e u2 ⟨r,rfl,hr,hb⟩
  have hrt:r=true:=hr.2 HQ1.out
  subst hrt
  replace HB:=Lib.hid (after HB.out hb)
  replace HR2:=Lib.hid (HR2.out.next hb)
  clear hb hr x0
  have x0:u2.cell? ⟨X,0,none⟩=some (.slice ra rn rc):=HR2.out.cell
  go_wp2_with fail
  refine (HLd.out u2 HB.out).mono ?_
  rintro e u3 ⟨r,rfl,hr,hb⟩
  have hrf:r=false:=by cases r;rfl;exact absurd (hr.1 rfl) HN2.out
  subst hrf
  replace HB:=Lib.hid (after HB.out hb)
  clear hb hr x0
  go_wp2
  go_ret
  exact ⟨false,rfl,⟨fun h=>(by cases h),fun hq=>absurd hq HNg.out⟩,HB.out⟩
 have HY:Hid (unitsR S=true/\RepsQ S rep/\LeadQ S rep):=Lib.hid ⟨by rw [hS];exact hu,hq1,hq2⟩
 have HSt:Hid (∀ u,Below w.heap.size w u->Calls Tryz.prog 58 #[.slice ua rn uc,.slice ra rn rc] u (RowP (standL (L.map (·.sc)) rep) u)):=Lib.hid fun u hk=>standing_any u ua rn uc L ra rc rep hn2 (hs.next hk) (hr.next hk)
 have hSn:S.length=rn:=by rw [hS];exact hlen
 have HLr:∀ x ∈ (standL S rep).map Int.ofNat,0<=x/\x < (rn:Int):=by rw [<-hSn];exact live_rng hq1.1
 have hsl:(standL S rep).length<=256:=by rw [standL_len];have:=selfL_len rep;have:=hq1.1;omega
 have HAlg:Hid (∀ u za zc,Below w.heap.size w u->SL enZ 1 u u.heap.size za (standL S rep).length ((standL S rep).map Int.ofNat)->Calls Tryz.prog 59 #[.slice ua rn uc,.slice ra rn rc,.slice za (standL S rep).length zc] u (RowZ (((standL S rep).map Int.ofNat).map (fun x=>mostN (L.map (·.sc)) rep x.toNat rn)) u)):=Lib.hid fun u za zc hk hz=>aligns_any u ua rn uc L ra rc rep za (standL S rep).length zc _ hn2 (hs.next hk) (hr.next hk) hz (by rw [<-hSn];exact reps_lt hq1) HLr hsl
 have HSl:=Lib.hid (fun u (hu:Below w.heap.size w u)=>hl.next hu)
 have HSa:=Lib.hid (fun u (hu:Below w.heap.size w u)=>ha.next hu)
 have HLm:=Lib.hid hln
 have HAm:=Lib.hid han
 obtain ⟨sn,hsn⟩:∃ x,x=(standL S rep).length:=⟨_,rfl⟩
 have HSm:Hid (sn<=maxLen):=Lib.hid (by rw [hsn];unfold maxLen;omega)
 have HAn:Hid ((alignL S rep).length=sn):=Lib.hid (by unfold alignL;rw [List.length_map,hsn])
 have HAe:Hid (((standL S rep).map Int.ofNat).map (fun x=>mostN S rep x.toNat rn)=alignL S rep):=Lib.hid (by
  unfold alignL
  rw [List.map_map,hq1.1,hSn]
  rfl)
 rw [<-hS] at HAr HLd HSt HAlg ⊢
 rw [<-hsn] at HAlg
 have HSn:=Lib.hid hsn
 clear hs hno hg hb hr hl ha hrn hln han hT hW1 hb1 hr1 hX hlen hu hn hn2 hS hq1 hq2 hSn HLr hsl hsn
 go_enter Tryz.func39,Tryz.ntmps39
 go_wp2_with fail
 have hwe:=HWE.out
 simp only [kpV] at hwe
 rw [hwe,<-HX.out]
 refine HIs.out.mono ?_
 rintro e u ⟨rfl,hb⟩
 replace HBu:=Lib.hid (after HBu.out hb)
 have HR2:=Lib.hid (HR1.out.next hb)
 have x0:u.cell? ⟨X,0,none⟩=some (.slice ra rn rc):=HR2.out.cell
 clear hb hwe
 go_wp2_with fail
 refine (HAr.out u HBu.out).mono ?_
 rintro e u2 ⟨r,rfl,hr,hb⟩
 have hrt:r=true:=hr.2 HY.out.2.1
 subst hrt
 replace HBu:=Lib.hid (after HBu.out hb)
 replace HR2:=Lib.hid (HR2.out.next hb)
 clear hb hr x0
 have x0:u2.cell? ⟨X,0,none⟩=some (.slice ra rn rc):=HR2.out.cell
 go_wp2_with fail
 refine (HLd.out u2 HBu.out).mono ?_
 rintro e u3 ⟨r,rfl,hr,hb⟩
 have hrt:r=true:=hr.2 HY.out.2.2
 subst hrt
 replace HBu:=Lib.hid (after HBu.out hb)
 replace HR2:=Lib.hid (HR2.out.next hb)
 clear hb hr x0
 have x0:u3.cell? ⟨X,0,none⟩=some (.slice ra rn rc):=HR2.out.cell
 go_wp2_with fail
 refine (HSt.out u3 HBu.out).mono ?_
 rintro e u4 ⟨za,zc,rfl,hoo,hb⟩
 replace HBu:=Lib.hid (after HBu.out hb)
 replace HR2:=Lib.hid (HR2.out.next hb)
 have HZ:=Lib.hid (owns_slN hoo)
 rw [<-HSn.out] at HZ ⊢
 clear hb hoo x0
 go_wp2_with fail
 obtain ⟨v0,hv0⟩:∃ x,x=u4.drew:=⟨_,rfl⟩
 have hbd:Below u4.heap.size u4 v0:=by rw [hv0];exact (Below.refl _ _).drew
 have HBd:=Lib.hid hbd
 have hrv:=HR2.out.next hbd
 have HKp:Hid (∀ u',Below v0.heap.size v0 u'->(fun u'=>u'.cell? ⟨X,0,none⟩=some (.slice ra rn rc)/\u'.cell? ⟨X,1,none⟩=some (.slice la ln lc)/\u'.cell? ⟨X,2,none⟩=some (.slice aa an ac)) u'):=Lib.hid (fun u' hu=>⟨(hrv.next hu).cell,(hrv.next hu).cell,(hrv.next hu).cell⟩)
 have HE1:=Lib.hid (equalZ_any v0 la za ln lc sn zc live ((standL S rep).map Int.ofNat) (HSl.out v0 (after HBu.out hbd)) (HZ.out.next hbd) HLm.out HSm.out)
 have HAl:Hid (∀ v,Below u4.heap.size u4 v->Calls Tryz.prog 59 #[.slice ua rn uc,.slice ra rn rc,.slice za sn zc] v (fun e w'=>∃ a c,e=.returned (.slice a sn c)/\SL enZ 1 w' w'.heap.size a sn (alignL S rep)/\Below v.heap.size v w')):=Lib.hid (fun v hv=>(HAlg.out v za zc (after HBu.out hv) (HZ.out.next hv)).mono (by
  rintro e w' ⟨a,c,rfl,hoo,hb⟩
  rw [HAe.out] at hoo ⊢
  have hsz:=owns_slZ hoo
  rw [HAn.out] at hsz ⊢
  exact ⟨a,c,rfl,hsz,hb⟩))
 have HV0:=Lib.hid hv0
 clear hv0 hbd hrv HAlg HZ HAr HLd HSt
 refine wp_region_held_drew (S:=fun u'=>u'.cell? ⟨X,0,none⟩=some (.slice ra rn rc)/\u'.cell? ⟨X,1,none⟩=some (.slice la ln lc)/\u'.cell? ⟨X,2,none⟩=some (.slice aa an ac)) (by kernel_rfl) (by rw [<-HV0.out];exact HKp.out _ (Below.refl _ _)) (fun hHeld=>?_)
 rw [<-HV0.out]
 have hHeld0:=HKp.out _ (Below.refl _ _)
 clear hHeld
 refine wpAnyH_take (i:=0) (v:=?_) rfl (by kernel_rfl) (by kernel_rfl) (by kernel_rfl) (fun _ _ _ h=>h) (Or.inl ⟨by kernel_rfl,?_⟩) hHeld0 ?_
 rotate_left 1
 ·intro w hSw;(try dsimp only at hSw);obtain ⟨x0,x1,x2⟩:=hSw;go_simp;(try with_reducible rfl)
 (try simp only [Act.put,List.setIfInBounds_toArray,List.set_cons_zero,List.set_cons_succ])
 refine wpAnyH_take (i:=1) (v:=?_) rfl (by kernel_rfl) (by kernel_rfl) (by kernel_rfl) (fun _ _ _ h=>h) (Or.inl ⟨by kernel_rfl,?_⟩) hHeld0 ?_
 rotate_left 1
 ·intro w hSw;(try dsimp only at hSw);obtain ⟨x0,x1,x2⟩:=hSw;go_simp;(try with_reducible rfl)
 (try simp only [Act.put,List.setIfInBounds_toArray,List.set_cons_zero,List.set_cons_succ])
 refine wpAnyH_take (i:=2) (v:=?_) rfl (by kernel_rfl) (by kernel_rfl) (by kernel_rfl) (fun _ _ _ h=>h) (Or.inl ⟨by kernel_rfl,?_⟩) hHeld0 ?_
 rotate_left 1
 ·intro w hSw;(try dsimp only at hSw);obtain ⟨x0,x1,x2⟩:=hSw;go_simp;(try with_reducible rfl)
 (try simp only [Act.put,List.setIfInBounds_toArray,List.set_cons_zero,List.set_cons_succ])
 refine wpAnyH_ready (rs:=[3]) (by kernel_rfl) (by simp) ?_
 refine AllReadyH.cons rfl (fun K hK=>?_) ?_
 rotate_left 1
 ·exact AllReadyH.nil
 go_simp
 go_wp2_with (go_at_call 55;refine HE1.out.mono ?_;rintro e v1 ⟨rfl,q1,hq1⟩;have HB1:Hid (Below v0.heap.size v0 v1):=Lib.hid (by rw [hq1];exact below_drewN (Below.refl _ _) _);clear hq1)
 refine hK.out _ _ (HKp.out _ HB1.out) (fun hHeld=>?_)
 clear hK K
 by_cases hlv:live=(standL S rep).map Int.ofNat
 rotate_left
 ·rw [decide_eq_false hlv]
  refine wpAnyH_take (i:=4) (v:=?_) rfl (by kernel_rfl) (by kernel_rfl) (by kernel_rfl) (fun _ _ _ h=>h) (Or.inl ⟨by kernel_rfl,?_⟩) hHeld ?_
  rotate_left 1
  ·intro w hSw;(try dsimp only at hSw);obtain ⟨x0,x1,x2⟩:=hSw;go_simp;(try with_reducible rfl)
  (try simp only [Act.put,List.setIfInBounds_toArray,List.set_cons_zero,List.set_cons_succ])
  refine wpAnyH_take (i:=5) (v:=undef) rfl (by kernel_rfl) (by kernel_rfl) (by kernel_rfl) (fun _ _ _ h=>h) (Or.inr ⟨by kernel_rfl,rfl⟩) hHeld ?_
  (try simp only [Act.put,List.setIfInBounds_toArray,List.set_cons_zero,List.set_cons_succ])
  refine wpAnyH_take (i:=6) (v:=undef) rfl (by kernel_rfl) (by kernel_rfl) (by kernel_rfl) (fun _ _ _ h=>h) (Or.inr ⟨by kernel_rfl,rfl⟩) hHeld ?_
  (try simp only [Act.put,List.setIfInBounds_toArray,List.set_cons_zero,List.set_cons_succ])
  refine wpAnyH_take (i:=7) (v:=undef) rfl (by kernel_rfl) (by kernel_rfl) (by kernel_rfl) (fun _ _ _ h=>h) (Or.inr ⟨by kernel_rfl,rfl⟩) hHeld ?_
  (try simp only [Act.put,List.setIfInBounds_toArray,List.set_cons_zero,List.set_cons_succ])
  refine wpAnyH_take (i:=8) (v:=undef) rfl (by kernel_rfl) (by kernel_rfl) (by kernel_rfl) (fun _ _ _ h=>h) (Or.inr ⟨by kernel_rfl,rfl⟩) hHeld ?_
  (try simp only [Act.put,List.setIfInBounds_toArray,List.set_cons_zero,List.set_cons_succ])
  refine wpAnyH_take (i:=9) (v:=undef) rfl (by kernel_rfl) (by kernel_rfl) (by kernel_rfl) (fun _ _ _ h=>h) (Or.inr ⟨by kernel_rfl,rfl⟩) hHeld ?_
  (try simp only [Act.put,List.setIfInBounds_toArray,List.set_cons_zero,List.set_cons_succ])
  refine wpAnyH_take (i:=10) (v:=undef) rfl (by kernel_rfl) (by kernel_rfl) (by kernel_rfl) (fun _ _ _ h=>h) (Or.inr ⟨by kernel_rfl,rfl⟩) hHeld ?_
  (try simp only [Act.put,List.setIfInBounds_toArray,List.set_cons_zero,List.set_cons_succ])
  refine wpAnyH_take (i:=11) (v:=undef) rfl (by kernel_rfl) (by kernel_rfl) (by kernel_rfl) (fun _ _ _ h=>h) (Or.inr ⟨by kernel_rfl,rfl⟩) hHeld ?_
  (try simp only [Act.put,List.setIfInBounds_toArray,List.set_cons_zero,List.set_cons_succ])
  refine wpAnyH_take (i:=12) (v:=undef) rfl (by kernel_rfl) (by kernel_rfl) (by kernel_rfl) (fun _ _ _ h=>h) (Or.inr ⟨by kernel_rfl,rfl⟩) hHeld ?_
  (try simp only [Act.put,List.setIfInBounds_toArray,List.set_cons_zero,List.set_cons_succ])
  refine wpAnyH_ready (rs:=[13]) (by kernel_rfl) (by simp) ?_
  refine AllReadyH.cons rfl (fun K hK=>?_) ?_
  rotate_left 1
  ·exact AllReadyH.nil
  go_simp
  refine hK.out _ _ (HKp.out _ HB1.out) (fun hHeld=>?_)
  clear hK K
  refine wpAnyH_ready (rs:=[14]) (by kernel_rfl) (by simp) ?_
  refine AllReadyH.cons rfl (fun K hK=>?_) ?_
  rotate_left 1
  ·exact AllReadyH.nil
  go_simp
  refine hK.out _ _ (HKp.out _ HB1.out) (fun hHeld=>?_)
  clear hK K
  refine wpAnyH_done (by kernel_rfl) ?_ _
  have HNg:Hid (¬ IsQ S rep live align):=Lib.hid (fun hq=>hlv hq.2.2.2.1)
  have HBx:=Lib.hid (after HBu.out (after HBd.out HB1.out))
  go_wp2
  go_ret
  exact ⟨false,rfl,⟨fun h=>(by cases h),fun hq=>absurd hq HNg.out⟩,HBx.out⟩
 rw [decide_eq_true hlv]
 have HLv:=Lib.hid hlv
 clear hlv
 refine wpAnyH_take (i:=4) (v:=?_) rfl (by kernel_rfl) (by kernel_rfl) (by kernel_rfl) (fun _ _ _ h=>h) (Or.inl ⟨by kernel_rfl,?_⟩) hHeld ?_
 rotate_left 1
 ·intro w hSw;(try dsimp only at hSw);obtain ⟨x0,x1,x2⟩:=hSw;go_simp;(try with_reducible rfl)
 (try simp only [Act.put,List.setIfInBounds_toArray,List.set_cons_zero,List.set_cons_succ])
 refine wpAnyH_take (i:=5) (v:=?_) rfl (by kernel_rfl) (by kernel_rfl) (by kernel_rfl) (fun _ _ _ h=>h) (Or.inl ⟨by kernel_rfl,?_⟩) hHeld ?_
 rotate_left 1
 ·intro w hSw;(try dsimp only at hSw);obtain ⟨x0,x1,x2⟩:=hSw;go_simp;(try with_reducible rfl)
 (try simp only [Act.put,List.setIfInBounds_toArray,List.set_cons_zero,List.set_cons_succ])
 refine wpAnyH_take (i:=6) (v:=?_) rfl (by kernel_rfl) (by kernel_rfl) (by kernel_rfl) (fun _ _ _ h=>h) (Or.inl ⟨by kernel_rfl,?_⟩) hHeld ?_
 rotate_left 1
 ·intro w hSw;(try dsimp only at hSw);obtain ⟨x0,x1,x2⟩:=hSw;go_simp;(try with_reducible rfl)
 (try simp only [Act.put,List.setIfInBounds_toArray,List.set_cons_zero,List.set_cons_succ])
 refine wpAnyH_take (i:=7) (v:=?_) rfl (by kernel_rfl) (by kernel_rfl) (by kernel_rfl) (fun _ _ _ h=>h) (Or.inl ⟨by kernel_rfl,?_⟩) hHeld ?_
 rotate_left 1
 ·intro w hSw;(try dsimp only at hSw);obtain ⟨x0,x1,x2⟩:=hSw;go_simp;(try with_reducible rfl)
 (try simp only [Act.put,List.setIfInBounds_toArray,List.set_cons_zero,List.set_cons_succ])
 refine wpAnyH_take (i:=8) (v:=?_) rfl (by kernel_rfl) (by kernel_rfl) (by kernel_rfl) (fun _ _ _ h=>h) (Or.inl ⟨by kernel_rfl,?_⟩) hHeld ?_
 rotate_left 1
 ·intro w hSw;(try dsimp only at hSw);obtain ⟨x0,x1,x2⟩:=hSw;go_simp;(try with_reducible rfl)
 (try simp only [Act.put,List.setIfInBounds_toArray,List.set_cons_zero,List.set_cons_succ])
 refine wpAnyH_take (i:=9) (v:=?_) rfl (by kernel_rfl) (by kernel_rfl) (by kernel_rfl) (fun _ _ _ h=>h) (Or.inl ⟨by kernel_rfl,?_⟩) hHeld ?_
 rotate_left 1
 ·intro w hSw;(try dsimp only at hSw);obtain ⟨x0,x1,x2⟩:=hSw;go_simp;(try with_reducible rfl)
 (try simp only [Act.put,List.setIfInBounds_toArray,List.set_cons_zero,List.set_cons_succ])
 refine wpAnyH_take (i:=10) (v:=?_) rfl (by kernel_rfl) (by kernel_rfl) (by kernel_rfl) (fun _ _ _ h=>h) (Or.inl ⟨by kernel_rfl,?_⟩) hHeld ?_
 rotate_left 1
 ·intro w hSw;(try dsimp only at hSw);obtain ⟨x0,x1,x2⟩:=hSw;go_simp;(try with_reducible rfl)
 (try simp only [Act.put,List.setIfInBounds_toArray,List.set_cons_zero,List.set_cons_succ])
 refine wpAnyH_ready (rs:=[11]) (by kernel_rfl) (by simp) ?_
 refine AllReadyH.cons rfl (fun K hK=>?_) ?_
 rotate_left 1
 ·exact AllReadyH.nil
 have HA1:=Lib.hid (HAl.out v1 (after HBd.out HB1.out))
 go_simp
 go_wp2_with (go_at_call 59;refine HA1.out.mono ?_;rintro e v2 ⟨za,zc,rfl,hsz,hb2⟩)
 have HSz:=Lib.hid hsz
 have HB2:=Lib.hid (after HB1.out hb2)
 clear hb2 hsz
 refine hK.out _ _ (HKp.out _ HB2.out) (fun hHeld=>?_)
 clear hK K
 refine wpAnyH_ready (rs:=[12]) (by kernel_rfl) (by simp) ?_
 refine AllReadyH.cons rfl (fun K hK=>?_) ?_
 rotate_left 1
 ·exact AllReadyH.nil
 have HE2:=Lib.hid (equalZ_any v2 aa za an ac sn zc align (alignL S rep) (HSa.out v2 (after HBu.out (after HBd.out HB2.out))) HSz.out HAm.out HSm.out)
 go_simp
 go_wp2_with (go_at_call 55;refine HE2.out.mono ?_;rintro e v3 ⟨rfl,q3,hq3⟩;have HB3:Hid (Below v0.heap.size v0 v3):=Lib.hid (after HB2.out (by rw [hq3];exact below_drewN (Below.refl _ _) _));clear hq3)
 refine hK.out _ _ (HKp.out _ HB3.out) (fun hHeld=>?_)
 clear hK K
 refine wpAnyH_ready (rs:=[13]) (by kernel_rfl) (by simp) ?_
 refine AllReadyH.cons rfl (fun K hK=>?_) ?_
 rotate_left 1
 ·exact AllReadyH.nil
 go_simp
 refine hK.out _ _ (HKp.out _ HB3.out) (fun hHeld=>?_)
 clear hK K
 refine wpAnyH_ready (rs:=[14]) (by kernel_rfl) (by simp) ?_
 refine AllReadyH.cons rfl (fun K hK=>?_) ?_
 rotate_left 1
 ·exact AllReadyH.nil
 go_simp
 refine hK.out _ _ (HKp.out _ HB3.out) (fun hHeld=>?_)
 clear hK K
 refine wpAnyH_done (by kernel_rfl) ?_ _
 have HBx:=Lib.hid (after HBu.out (after HBd.out HB3.out))
 have HFi:Hid (decide (align=alignL S rep)=true ↔ IsQ S rep live align):=Lib.hid (by
  rw [decide_eq_true_iff]
  exact ⟨fun h=>⟨HY.out.1,HY.out.2.1,HY.out.2.2,HLv.out,h⟩,fun h=>h.2.2.2.2⟩)
 obtain ⟨D,hD⟩:∃ D,D=decide (align=alignL S rep):=⟨_,rfl⟩
 rw [<-hD] at HFi ⊢
 clear hD
 go_wp2
 go_ret
 exact ⟨D,rfl,HFi.out,HBx.out⟩
end Go.Proofs.YtbabckomagkjbaaGreatDoor
namespace Go.Proofs.YtbabckomagkjbaaGreatDoor
open Go.ChangeShapes Go.WideShapes Go.Deep Go.RowKit
def indexI (l:List Int) (v:Int):Int:=match l.findIdx? (fun x=>decide (v=x)) with | some k=>(k:Int) | none => -1
theorem indexI_ge {l:List Int} {v:Int}:decide (0<=indexI l v)=decide (v ∈ l):=by
 unfold indexI
 rw [decide_eq_decide]
 cases h:l.findIdx? (fun x=>decide (v=x)) with
 | none=>
  rw [List.findIdx?_eq_none_iff] at h
  constructor
  ·intro h2;simp at h2
  ·intro h2
   have:=h v h2
   simp at this
 | some k=>
  have h1:=List.findIdx?_eq_some_iff_getElem.1 h
  obtain ⟨hk,hx,-⟩:=h1
  constructor
  ·intro _
   have:v=l[k]:=by simpa using hx
   rw [this];exact List.getElem_mem _
  ·intro _;simp
theorem index_any (w:World) (a:Option Addr) (n c:Nat) (l:List Int) (v:Int) (hn:n<=maxLen) (hl:SL enZ 1 w w.heap.size a n l):
  Calls Tryz.prog 84 #[.slice a n c,.int .i64 v] w (fun e w'=>e=.returned (.int .i64 (indexI l v))/\w'=w):=by
 have hni:(n:Int)<=9223372036854775807:=by unfold maxLen at hn;omega
 have HL:=Lib.hid hl
 have HLn:=Lib.hid hl.len
 clear hl hn
 go_enter Tryz.func84,Tryz.ntmps84
 go_wp2_with fail
 go_loopw [8] (fun i wr=>∃ (k:Nat),wr=w/\k<=n/\i=.int .i64 k/\Hid (∀ (q:Nat) (x:Int),q < k->l[q]?=some x->v ≠ x)) (fun i _=>n - (intOf i).toNat)
 case atStart=>exact ⟨0,rfl,by omega,rfl,Lib.hid (fun q x hq=>by omega)⟩
 case round=>
  obtain ⟨k,hwr,hk,rfl,HB⟩:=hrel
  subst hwr
  by_cases hlt:k < n
  ·have hlti:(k:Int) < (n:Int):=by omega
   have HLT:=Lib.hid hlt
   obtain ⟨x,hx⟩:∃ x,l[k]?=some x:=⟨_,List.getElem?_eq_getElem (by rw [<-HLn.out];exact hlt)⟩
   have hsl:=HL.out
   obtain ⟨b,o,hae,-,-⟩:=hsl.cells (by intro e;rw [e] at hx;cases hx)
   subst hae
   have x0:wr.cell? ⟨b,o+k,none⟩=some (.int .i64 x):=ints_cells hsl (Below.refl _ _) hx
   have HX:=Lib.hid hx
   clear hsl hx hlt hk
   by_cases e:v=x
   ·have t1:(v == x)=true:=by simp [e]
    have HI:Hid (indexI l v=(k:Int)):=Lib.hid (by
     unfold indexI
     have:l.findIdx? (fun x=>decide (v=x))=some k:=by
      rw [List.findIdx?_eq_some_iff_getElem]
      obtain ⟨hk,hv⟩:=List.getElem?_eq_some_iff.1 HX.out
      refine ⟨hk,by simp [hv,e],fun j hj=>?_⟩
      have:=HB.out j _ hj (List.getElem?_eq_getElem (by omega))
      simpa using this
     rw [this])
    clear e
    go_wp2
    go_ret
    exact ⟨by rw [HI.out];rfl,rfl⟩
   ·have t1:(v == x)=false:=by simp [e]
    have HB2:Hid (∀ (q:Nat) (x:Int),q < k+1->l[q]?=some x->v ≠ x):=Lib.hid (fun q y hq hy=>by
     rcases Nat.lt_or_ge q k with h | h
     ·exact HB.out q y h hy
     ·have:q=k:=by omega
      subst this
      rw [HX.out] at hy;cases hy;exact e)
    clear e
    go_wp2
    go_roundw
    case rel=>exact ⟨k+1,trivial,by have:=HLT.out;omega,by go_num,HB2⟩
    case measure=>have:=HLT.out;simp [intOf];omega
  ·have hlti:¬ (k:Int) < (n:Int):=by omega
   have HI:Hid (indexI l v = -1):=Lib.hid (by
    unfold indexI
    have:l.findIdx? (fun x=>decide (v=x))=none:=by
     rw [List.findIdx?_eq_none_iff]
     intro x hx
     obtain ⟨q,hq⟩:=List.getElem?_of_mem hx
     have:=HB.out q x (by have:=(List.getElem?_eq_some_iff.1 hq).1;have:=HLn.out;omega) hq
     simpa using this
    rw [this])
   go_wp2
   go_ret
   exact ⟨by rw [HI.out];rfl,rfl⟩
theorem contains_any (w:World) (a:Option Addr) (n c:Nat) (l:List Int) (v:Int) (hn:n<=maxLen) (hl:SL enZ 1 w w.heap.size a n l):
  Calls Tryz.prog 61 #[.slice a n c,.int .i64 v] w (fun e w'=>e=.returned (.bool (decide (v ∈ l)))/\w'=w):=by
 have HI:=Lib.hid (index_any w a n c l v hn hl)
 have HE:=Lib.hid (indexI_ge (l:=l) (v:=v))
 clear hl hn
 obtain ⟨I,hI⟩:∃ I,I=indexI l v:=⟨_,rfl⟩
 rw [<-HE.out]
 rw [<-hI] at HI ⊢
 clear hI HE
 go_enter Tryz.func61,Tryz.ntmps61
 go_wp2_with (go_at_call 84;refine HI.out.mono ?_;rintro e w' ⟨rfl,hw⟩;obtain rfl:=hw)
 go_ret
 exact ⟨rfl,rfl⟩
end Go.Proofs.YtbabckomagkjbaaGreatDoor
namespace Go.Proofs.YtbabckomagkjbaaGreatDoor
open Go.ChangeShapes Go.WideShapes Go.Deep Go.RowKit
def newRl (rep:List Int) (r:Rl):Rl:=⟨r.pos,r.kind,(rep[r.sym.toNat]?).getD 0,r.add⟩
def refsK (S:List Sc) (rep:List Int) (k:Nat):List Rl:=match S[k]? with | some s=>s.rels.map (newRl rep) | none=>[]
def RefsP (l:List Rl) (w:World) (e:Ending) (w':World):Prop:=∃ a c,e=.returned (.tuple #[.slice a l.length c,.int .i64 0])/\SL rlC 4 w' w'.heap.size a l.length l/\Below w.heap.size w w'
structure RRf (w u:World) (l:List Rl) (a:Option Addr) (c:Nat):Prop where
 oo:u.ownsRow w.heap.size 61 4 (.slice a l.length c) l.length (l.flatMap rlC)
 kk:Below w.heap.size w u
abbrev rfA (r:Rl):Array Value:=#[.int .i64 r.pos,.int .i64 r.kind,.int .i64 r.sym,.int .i64 r.add]
theorem RRf.grow {w u w2:World} {l:List Rl} {a a':Option Addr} {c c':Nat} {r:Rl} (h:RRf w u l a c) (hown:w2.ownsRow w.heap.size 61 4 (.slice a' (l.length+1) c') (l.length+1) (l.flatMap rlC ++ rlC r))
  (hgrow:(u.alloc (.cells (rfA r) 61)).grownBy w2 (Value.slice a l.length c).ownBlock):RRf w w2 (l ++ [r]) a' c':=by
 refine ⟨by simpa [List.flatMap_append] using hown,?_⟩
 exact (h.kk.alloc h.kk.size _).grown hgrow (by have:=h.kk.size;rw [World.size_alloc];omega) (fun j hj=>(h.oo.lt j hj).1)
theorem RRf.next {w u v:World} {l:List Rl} {a:Option Addr} {c:Nat} (h:RRf w u l a c) (hb:Below u.heap.size u v):RRf w v l a c:=⟨owns_next h.oo hb,after h.kk hb⟩
theorem RRf.sl {w u:World} {l:List Rl} {a:Option Addr} {c:Nat} (h:RRf w u l a c):SL rlC 4 u u.heap.size a l.length l:=by
 obtain ⟨a',c',e,h',-⟩:=SL.ofOwns rl_len (by decide) h.oo
 injection e with e1 e2 e3
 subst e1
 exact h'
theorem refs_no (w:World) (ua:Option Addr) (n uc:Nat) (kv:Array Value) (T1:World->Prop) (ra:Option Addr) (rn rc:Nat) (la:Option Addr) (ln lc:Nat) (aa:Option Addr) (an ac:Nat) (at':Int) (live:List Int) (P:Prop) (hl:SL enZ 1 w w.heap.size la ln live) (hln:ln<=maxLen)
  (hIs:∀ u,Below w.heap.size w u->Calls Tryz.prog 39 #[.slice ua n uc,.agg (kpV ra rn rc la ln lc aa an ac)] u (IffP P u)) (h:¬ (P/\at' ∈ live)):
  Calls Tryz.prog 33 #[.slice ua n uc,.agg (kpV ra rn rc la ln lc aa an ac),.int .i64 at'] w (RetB (.tuple #[.slice none 0 0,.int .i64 1]) w):=by
 obtain ⟨W1,hW1⟩:∃ x,x=w.alloc (.cells (kpV ra rn rc la ln lc aa an ac) 46):=⟨_,rfl⟩
 have hb1:Below w.heap.size w W1:=by rw [hW1];exact lit_below w _
 have hr1:RB W1 w.heap.size (kpV ra rn rc la ln lc aa an ac) 46:=by rw [hW1];exact rb_new w _ _
 have HI:=Lib.hid (hIs W1 hb1)
 have HC:=Lib.hid (fun u (hu:Below w.heap.size w u)=>contains_any u la ln lc live at' hln (hl.next hu))
 have HWE:Hid (w.alloc (.cells (kpV ra rn rc la ln lc aa an ac) 46)=W1):=Lib.hid hW1.symm
 have HBu:=Lib.hid hb1
 have HR1:=Lib.hid hr1
 have HN:=Lib.hid h
 obtain ⟨X,hX⟩:∃ x,x=w.heap.size:=⟨_,rfl⟩
 have HX:=Lib.hid hX
 rw [<-hX] at HR1
 have x0:W1.cell? ⟨X,0,none⟩=some (.slice ra rn rc):=hX ▸ hr1.cell
 have x1:W1.cell? ⟨X,1,none⟩=some (.slice la ln lc):=hX ▸ hr1.cell
 have x2:W1.cell? ⟨X,2,none⟩=some (.slice aa an ac):=hX ▸ hr1.cell
 rw [hW1,hX] at x0 x1 x2
 clear hIs hl hln h hW1 hb1 hr1 hX
 go_enter Tryz.func33,Tryz.ntmps33
 go_wp2_with fail
 have hwe:=HWE.out
 simp only [kpV] at hwe
 (try simp only [kpV])
 rw [hwe]
 (try rw [<-HX.out])
 clear x0 x1 x2 hwe
 refine HI.out.mono ?_
 rintro e u ⟨r,rfl,hr,hb⟩
 have HB:=Lib.hid (after HBu.out hb)
 have HR2:=Lib.hid (HR1.out.next hb)
 clear hb
 cases r
 ·clear hr
  go_wp2
  go_ret2
  exact ⟨rfl,HB.out⟩
 ·have hnm:¬ at' ∈ live:=fun hm=>HN.out ⟨hr.1 rfl,hm⟩
  have x1:u.cell? ⟨X,1,none⟩=some (.slice la ln lc):=HR2.out.cell
  have HCu:=Lib.hid (HC.out u HB.out)
  rw [decide_eq_false hnm] at HCu
  clear hr hnm
  go_wp2_with (go_at_call 61;refine HCu.out.mono ?_;rintro e w' ⟨rfl,hw⟩;obtain rfl:=hw)
  go_ret2
  exact ⟨rfl,HB.out⟩
theorem RRf.alloc {w u:World} {l:List Rl} {a:Option Addr} {c:Nat} (h:RRf w u l a c) (o:Obj):RRf w (u.alloc o) l a c:=⟨h.oo.alloc _,h.kk.alloc h.kk.size _⟩
theorem refsK_get {S:List Sc} {rep:List Int} {k:Nat} {s:Sc} (h:S[k]?=some s):refsK S rep k=s.rels.map (newRl rep):=by unfold refsK;rw [h]
theorem refs_yes (w:World) (ua:Option Addr) (n uc:Nat) (L:List Ms) (ra:Option Addr) (rc:Nat) (rep:List Int) (la:Option Addr) (ln lc:Nat) (live:List Int) (aa:Option Addr) (an ac:Nat) (align:List Int) (k:Nat) (hs:SL msC 6 w w.heap.size ua n L) (hno:Notes w w.heap.size L)
  (hr:SL enZ 1 w w.heap.size ra n rep) (hl:SL enZ 1 w w.heap.size la ln live) (hln:ln<=maxLen)
  (hIs:∀ u,Below w.heap.size w u->Calls Tryz.prog 39 #[.slice ua n uc,.agg (kpV ra n rc la ln lc aa an ac)] u (IffP (IsQ (L.map (·.sc)) rep live align) u)) (h:IsQ (L.map (·.sc)) rep live align) (hm:(k:Int) ∈ live):
  Calls Tryz.prog 33 #[.slice ua n uc,.agg (kpV ra n rc la ln lc aa an ac),.int .i64 (k:Int)] w (RefsP (refsK (L.map (·.sc)) rep k) w):=by
 obtain ⟨i0,hi,hz0,hz1,hz2⟩:=info_parts info_ref
 obtain ⟨W1,hW1⟩:∃ x,x=w.alloc (.cells (kpV ra n rc la ln lc aa an ac) 46):=⟨_,rfl⟩
 have hb1:Below w.heap.size w W1:=by rw [hW1];exact lit_below w _
 have hr1:RB W1 w.heap.size (kpV ra n rc la ln lc aa an ac) 46:=by rw [hW1];exact rb_new w _ _
 have HI:=Lib.hid (hIs W1 hb1)
 have HC:=Lib.hid (fun u (hu:Below w.heap.size w u)=>contains_any u la ln lc live (k:Int) hln (hl.next hu))
 have HWE:Hid (w.alloc (.cells (kpV ra n rc la ln lc aa an ac) 46)=W1):=Lib.hid hW1.symm
 have HBu:=Lib.hid hb1
 have HR1:=Lib.hid hr1
 have HY:=Lib.hid h
 have HM:=Lib.hid hm
 obtain ⟨S,hS⟩:∃ S,S=L.map (·.sc):=⟨_,rfl⟩
 have hSl:S.length=n:=by rw [hS,List.length_map];exact hs.len.symm
 rw [<-hS] at h HI HY ⊢
 have hn2:n<=256:=by have:=units_len h.1;rw [hSl] at this;exact this
 have hni:(n:Int)<=256:=by omega
 have hkr:rep[k]?=some (k:Int):=by
  have:=h.2.2.2.1
  rw [this] at hm
  obtain ⟨q,hq,he⟩:=List.mem_map.1 hm
  have:q=k:=by have:(q:Int)=(k:Int):=he;omega
  subst this
  exact standL_mem.1 hq
 have hkn:k < n:=by have:=(List.getElem?_eq_some_iff.1 hkr).1;rw [h.2.1.1,hSl] at this;exact this
 obtain ⟨mi,hmi⟩:∃ x,L[k]?=some x:=⟨_,List.getElem?_eq_getElem (by rw [<-hs.len];exact hkn)⟩
 have HSi:Hid (S[k]?=some mi.sc):=Lib.hid (by rw [hS,List.getElem?_map,hmi];rfl)
 have HQi:=Lib.hid (units_sec h.1 HSi.out)
 have HNo:=Lib.hid (fun u (hu:Below w.heap.size w u)=>(hno.next hu) mi (List.mem_of_getElem? hmi))
 have HR:=Lib.hid (fun u (hu:Below w.heap.size w u)=>hr.next hu)
 have HRl:Hid (rep.length=n):=Lib.hid hr.len.symm
 have HSl:=Lib.hid hSl
 have HMi:=Lib.hid hmi
 have HS:=Lib.hid hs
 have hki:(k:Int) < (n:Int):=by omega
 obtain ⟨X,hX⟩:∃ x,x=w.heap.size:=⟨_,rfl⟩
 have HX:=Lib.hid hX
 rw [<-hX] at HR1
 have x0:W1.cell? ⟨X,0,none⟩=some (.slice ra n rc):=hX ▸ hr1.cell
 have x1:W1.cell? ⟨X,1,none⟩=some (.slice la ln lc):=hX ▸ hr1.cell
 have x2:W1.cell? ⟨X,2,none⟩=some (.slice aa an ac):=hX ▸ hr1.cell
 rw [hW1,hX] at x0 x1 x2
 obtain ⟨ub,uo,hua,-,-⟩:=hs.cells (by intro e;rw [e] at hmi;cases hmi)
 subst hua
 obtain ⟨rb,ro,hra,-,-⟩:=hr.cells (by intro e;rw [e] at hkr;cases hkr)
 subst hra
 clear hIs hl hln h hW1 hb1 hr1 hX hs hno hr hm hS hSl hn2 hkr hkn hmi
 go_enter Tryz.func33,Tryz.ntmps33
 go_wp2_with fail
 have hwe:=HWE.out
 simp only [kpV] at hwe
 (try simp only [kpV])
 rw [hwe]
 (try rw [<-HX.out])
 clear x0 x1 x2 hwe
 refine HI.out.mono ?_
 rintro e u ⟨r,rfl,hrr,hb⟩
 have HB:=Lib.hid (after HBu.out hb)
 have HR2:=Lib.hid (HR1.out.next hb)
 have hrt:r=true:=hrr.2 HY.out
 subst hrt
 clear hb hrr
 have x1:u.cell? ⟨X,1,none⟩=some (.slice la ln lc):=HR2.out.cell
 have HCu:=Lib.hid (HC.out u HB.out)
 rw [decide_eq_true HM.out] at HCu
 have hul:=HS.out.next HB.out
 obtain ⟨-,-,-,-,-,y5⟩:=unit_cells hul (Below.refl _ _) HMi.out
 have HNi:=Lib.hid (HNo.out u HB.out)
 clear hul
 obtain ⟨⟨mn,mk0,mp,ml,md,mr⟩,ma,mc⟩:=mi
 simp only at y5 HNi HSi HQi
 obtain ⟨pn,hpn⟩:∃ r,r=mr.length:=⟨_,rfl⟩
 rw [<-hpn] at y5
 have HPn:=Lib.hid hpn
 have hpi:(pn:Int)<=64:=by have:=HQi.out.1.rels;simp only at this;omega
 have HRk:Hid (refsK S rep k=mr.map (newRl rep)):=Lib.hid (refsK_get HSi.out)
 have HQ0:Hid (RRf u u [] none 0):=Lib.hid ⟨World.ownsRow_nil _ _ _ _,Below.refl _ _⟩
 clear hpn
 go_wp2_with (go_at_call 61;refine HCu.out.mono ?_;rintro e w' ⟨rfl,hw⟩;obtain rfl:=hw.symm)
 go_loopw [8,28] (fun l i wr=>∃ (q:Nat) (wx:World) (rs:List Rl) (a:Option Addr) (m c:Nat),wx=wr/\q<=pn/\l=.slice a m c/\i=.int .i64 q/\Hid (m=rs.length)/\Hid (RRf u wx rs a c)/\Hid (rs=(mr.take q).map (newRl rep))) (fun _ i _=>pn - (intOf i).toNat)
 case atStart=>exact ⟨0,_,[],none,0,0,rfl,by omega,rfl,rfl,Lib.hid rfl,HQ0,Lib.hid rfl⟩
 case round=>
  clear HQ0 x1 y5
  obtain ⟨q,wx,rs,a,m,c,rfl,hq,rfl,rfl,HQq,HQ,HRs⟩:=hrel
  by_cases hlt:q < pn
  ·have hlti:(q:Int) < (pn:Int):=by omega
   have HLT:=Lib.hid hlt
   have hbx:=HQ.out.kk
   have hk1:q < mr.length:=by rw [<-HPn.out];exact hlt
   obtain ⟨b1,o1,hae1,hB1,hc1⟩:=(HNi.out.next hbx).cells (by intro e;rw [e] at hk1;simp at hk1)
   subst hae1
   obtain ⟨c0,c1,c2,c3⟩:=rl_cells (fun q' hq'=>hc1 q hk1 q' hq')
   obtain ⟨x,hx⟩:∃ x,x=mr[q]:=⟨_,rfl⟩
   have hxx:mr[q]?=some x:=by rw [hx];exact List.getElem?_eq_getElem hk1
   obtain ⟨a0,a1⟩:=HQi.out.2 x (List.mem_of_getElem? hxx)
   rw [<-hx] at c0 c1 c2 c3
   obtain ⟨t,ht⟩:∃ a:Nat,x.sym=(a:Int):=⟨x.sym.toNat,by omega⟩
   rw [ht] at c2
   rw [ht,HSl.out] at a1
   obtain ⟨xv,hxv⟩:∃ v,rep[t]?=some v:=⟨_,List.getElem?_eq_getElem (by rw [HRl.out];omega)⟩
   obtain ⟨xp,hxp⟩:∃ z,z=x.pos:=⟨_,rfl⟩
   obtain ⟨xk,hxk⟩:∃ z,z=x.kind:=⟨_,rfl⟩
   obtain ⟨xa,hxa⟩:∃ z,z=x.add:=⟨_,rfl⟩
   rw [<-hxp] at c0
   rw [<-hxk] at c1
   rw [<-hxa] at c3
   have HNr:Hid (newRl rep x=⟨xp,xk,xv,xa⟩):=Lib.hid (by unfold newRl;rw [ht,Int.toNat_natCast,hxv,hxp,hxk,hxa];rfl)
   obtain ⟨Wb,hWb⟩:∃ y,y=wx.alloc (.cells #[.int .i64 xp,.int .i64 xk,.int .i64 (t:Int),.int .i64 xa] 61):=⟨_,rfl⟩
   have hbb:Below wx.heap.size wx Wb:=by rw [hWb];exact lit_below wx _
   have g0:Wb.cell? ⟨X,0,none⟩=some (.slice (some ⟨rb,ro,none⟩) n rc):=((HR2.out.next hbx).next hbb).cell
   have g1:Wb.cell? ⟨rb,ro+t,none⟩=some (.int .i64 xv):=ints_cells (HR.out Wb (after (after HB.out hbx) hbb)) (Below.refl _ _) hxv
   have hrv:RB Wb wx.heap.size #[.int .i64 xp,.int .i64 xk,.int .i64 (t:Int),.int .i64 xa] 61:=by rw [hWb];exact rb_new wx _ _
   have g2:Wb.cell? ⟨wx.heap.size,2,none⟩=some (.int .i64 (t:Int)):=hrv.cell
   rw [hWb] at g0 g1 g2
   have hti:(t:Int) < (n:Int):=a1
   have HR5:Hid (rs ++ [(⟨xp,xk,xv,xa⟩:Rl)]=(mr.take (q+1)).map (newRl rep)):=Lib.hid (by rw [List.take_add_one,hxx,List.map_append,<-HRs.out,<-HNr.out];rfl)
   have hql:Hid (m<=64):=Lib.hid (by rw [HQq.out,HRs.out,List.length_map];have:=HPn.out;rw [List.length_take];omega)
   have hx0:Hid (u.heap.size<=wx.heap.size):=Lib.hid HQ.out.kk.size
   have HQ1:=Lib.hid (HQ.out.alloc (.cells #[.int .i64 xp,.int .i64 xk,.int .i64 xv,.int .i64 xa] 61))
   have HNw:Hid (((wx.alloc (.cells #[.int .i64 xp,.int .i64 xk,.int .i64 xv,.int .i64 xa] 61)).alloc (.cells #[.int .i64 xp,.int .i64 xk,.int .i64 xv,.int .i64 xa] 61)).heap[wx.heap.size+1]?=some (.cells #[.int .i64 xp,.int .i64 xk,.int .i64 xv,.int .i64 xa] 61)):=Lib.hid (by have:=heap_alloc_new (wx.alloc (.cells #[.int .i64 xp,.int .i64 xk,.int .i64 xv,.int .i64 xa] 61)) (.cells #[.int .i64 xp,.int .i64 xk,.int .i64 xv,.int .i64 xa] 61);rw [World.size_alloc] at this;exact this)
   clear hbx hk1 hB1 hc1 hx hxx a0 a1 ht hxv hxp hxk hxa hWb hbb hrv hlt hq HNr
   go_wp2_with (at_builtin;refine wpList_append_lies _ rfl _ _ 41 rfl u.heap.size 61 i0 (.agg #[.int .i64 0,.int .i64 0,.int .i64 0,.int .i64 0]) 4 32 Tryz.underlying41 hi hz0 hz1 hz2 rfl (by decide) (.slice a m c) m (rs.flatMap rlC) rfl (by have:=HQ1.out.oo;rw [<-HQq.out] at this;exact this.alloc _) ⟨wx.heap.size+1,0,none⟩ 1 1 (rlC ⟨xp,xk,xv,xa⟩) rfl rfl (World.news_of_block (cs:=#[.int .i64 xp,.int .i64 xk,.int .i64 xv,.int .i64 xa]) (t:=61) (fr:=(0,0)) HNw.out) (by simp [rlC,Value.oneCell']) (by decide) (by have:=hql.out;unfold maxLen;omega) (by have:=hql.out;omega) (by have:=hx0.out;simp;omega) (wx.heap.size+1+1) (by simp) ?_;intro g cap w2 hown2 hgrow2 hlie2 hlt2)
   rw [HQq.out] at hown2 hgrow2
   have HQ2:=Lib.hid (HQ1.out.grow hown2 hgrow2)
   have HQq2:Hid (m+1=(rs ++ [(⟨xp,xk,xv,xa⟩:Rl)]).length):=Lib.hid (by rw [HQq.out];simp)
   clear hown2 hgrow2 hlie2 hlt2 HQ1 HNw
   go_roundw
   case rel=>exact ⟨q+1,_,_,_,_,_,rfl,by have:=HLT.out;omega,rfl,by go_num,HQq2,HQ2,HR5⟩
   case measure=>have:=HLT.out;simp [intOf];omega
  ·have hlti:¬ (q:Int) < (pn:Int):=by omega
   have hqe:q=pn:=by omega
   have HEnd:Hid (rs=mr.map (newRl rep)):=Lib.hid (by rw [HRs.out,hqe,List.take_of_length_le (by have:=HPn.out;omega)])
   clear hq hlt hqe
   go_wp2
   go_ret2
   rw [HRk.out,<-HEnd.out]
   exact ⟨a,c,by rw [<-HQq.out];rfl,HQ.out.sl,after HB.out HQ.out.kk⟩
end Go.Proofs.YtbabckomagkjbaaGreatDoor
namespace Go.Proofs.YtbabckomagkjbaaGreatDoor
open Go.ChangeShapes Go.WideShapes Go.Deep Go.RowKit
theorem info_str:(Tryz.prog.info? 9).map (fun i=>(i.zero,i.size,i.bytes))=some (some (.string ⟨#[]⟩),1,16):=by kernel_rfl
def enS (b:ByteArray):List Value:=[.string b]
theorem enS_len (b:ByteArray):(enS b).length=1:=rfl
def lostK (S:List Sc) (rep:List Int):Nat->List ByteArray
 | 0=>[]
 | k+1=>lostK S rep k ++ (if rep[k]?=some (-1) then (match S[k]? with | some s=>[(⟨s.name.toArray⟩:ByteArray)] | none=>[]) else [])
theorem lostK_in {S:List Sc} {rep:List Int} {k:Nat} {s:Sc} (h:rep[k]?=some (-1)) (hs:S[k]?=some s):lostK S rep (k+1)=lostK S rep k ++ [⟨s.name.toArray⟩]:=by
 show lostK S rep k ++ _=_
 rw [if_pos h,hs]
theorem lostK_out {S:List Sc} {rep:List Int} {k:Nat} (h:rep[k]? ≠ some (-1)):lostK S rep (k+1)=lostK S rep k:=by
 show lostK S rep k ++ _=_
 rw [if_neg h,List.append_nil]
theorem lostK_len (S:List Sc) (rep:List Int):∀ k,(lostK S rep k).length<=k
 | 0=>Nat.le_refl _
 | k+1=>by
  have:=lostK_len S rep k
  show (lostK S rep k ++ _).length<=_
  rw [List.length_append]
  split
  ·split <;> simp <;> omega
  ·simp;omega
structure RS (w u:World) (l:List ByteArray) (a:Option Addr) (c:Nat):Prop where
 oo:u.ownsRow w.heap.size 9 1 (.slice a l.length c) l.length (l.flatMap enS)
 kk:Below w.heap.size w u
theorem RS.grow {w u w2:World} {l:List ByteArray} {a a':Option Addr} {c c':Nat} {r:ByteArray} (h:RS w u l a c) (hown:w2.ownsRow w.heap.size 9 1 (.slice a' (l.length+1) c') (l.length+1) (l.flatMap enS ++ enS r))
  (hgrow:(u.alloc (.cells #[.string r] 9)).grownBy w2 (Value.slice a l.length c).ownBlock):RS w w2 (l ++ [r]) a' c':=by
 refine ⟨by simpa [List.flatMap_append] using hown,?_⟩
 exact (h.kk.alloc h.kk.size _).grown hgrow (by have:=h.kk.size;rw [World.size_alloc];omega) (fun j hj=>(h.oo.lt j hj).1)
theorem RS.sl {w u:World} {l:List ByteArray} {a:Option Addr} {c:Nat} (h:RS w u l a c):SL enS 1 u u.heap.size a l.length l:=by
 obtain ⟨a',c',e,h',-⟩:=SL.ofOwns enS_len (by decide) h.oo
 injection e with e1 e2 e3
 subst e1
 exact h'
def LostP (l:List ByteArray) (w:World) (e:Ending) (w':World):Prop:=∃ a c,e=.returned (.tuple #[.slice a l.length c,.int .i64 0])/\SL enS 1 w' w'.heap.size a l.length l/\Below w.heap.size w w'
theorem lost_yes (w:World) (ua:Option Addr) (n uc:Nat) (L:List Ms) (ra:Option Addr) (rc:Nat) (rep:List Int) (la:Option Addr) (ln lc:Nat) (live:List Int) (aa:Option Addr) (an ac:Nat) (align:List Int) (hs:SL msC 6 w w.heap.size ua n L)
  (hr:SL enZ 1 w w.heap.size ra n rep)
  (hIs:∀ u,Below w.heap.size w u->Calls Tryz.prog 39 #[.slice ua n uc,.agg (kpV ra n rc la ln lc aa an ac)] u (IffP (IsQ (L.map (·.sc)) rep live align) u)) (h:IsQ (L.map (·.sc)) rep live align):
  Calls Tryz.prog 35 #[.slice ua n uc,.agg (kpV ra n rc la ln lc aa an ac)] w (LostP (lostK (L.map (·.sc)) rep n) w):=by
 obtain ⟨i0,hi,hz0,hz1,hz2⟩:=info_parts info_str
 obtain ⟨W1,hW1⟩:∃ x,x=w.alloc (.cells (kpV ra n rc la ln lc aa an ac) 46):=⟨_,rfl⟩
 have hb1:Below w.heap.size w W1:=by rw [hW1];exact lit_below w _
 have hr1:RB W1 w.heap.size (kpV ra n rc la ln lc aa an ac) 46:=by rw [hW1];exact rb_new w _ _
 have HI:=Lib.hid (hIs W1 hb1)
 have HWE:Hid (w.alloc (.cells (kpV ra n rc la ln lc aa an ac) 46)=W1):=Lib.hid hW1.symm
 have HBu:=Lib.hid hb1
 have HR1:=Lib.hid hr1
 have HY:=Lib.hid h
 obtain ⟨S,hS⟩:∃ S,S=L.map (·.sc):=⟨_,rfl⟩
 have hSl:S.length=n:=by rw [hS,List.length_map];exact hs.len.symm
 rw [<-hS] at h HI HY ⊢
 have hn2:n<=256:=by have:=units_len h.1;rw [hSl] at this;exact this
 have hni:(n:Int)<=256:=by omega
 have HR:=Lib.hid (fun u (hu:Below w.heap.size w u)=>hr.next hu)
 have HRl:Hid (rep.length=n):=Lib.hid hr.len.symm
 have HU:=Lib.hid (fun u (hu:Below w.heap.size w u)=>hs.next hu)
 have HUl:=Lib.hid hs.len
 have HSe:=Lib.hid hS
 have HN:=Lib.hid hn2
 obtain ⟨X,hX⟩:∃ x,x=w.heap.size:=⟨_,rfl⟩
 have HX:=Lib.hid hX
 rw [<-hX] at HR1
 have x0:W1.cell? ⟨X,0,none⟩=some (.slice ra n rc):=hX ▸ hr1.cell
 have x1:W1.cell? ⟨X,1,none⟩=some (.slice la ln lc):=hX ▸ hr1.cell
 have x2:W1.cell? ⟨X,2,none⟩=some (.slice aa an ac):=hX ▸ hr1.cell
 rw [hW1,hX] at x0 x1 x2
 clear hIs h hW1 hb1 hr1 hX hs hr hS hSl hn2
 go_enter Tryz.func35,Tryz.ntmps35
 go_wp2_with fail
 have hwe:=HWE.out
 simp only [kpV] at hwe
 (try simp only [kpV])
 rw [hwe]
 (try rw [<-HX.out])
 clear x0 x1 x2 hwe
 refine HI.out.mono ?_
 rintro e u ⟨r,rfl,hrr,hb⟩
 have HB:=Lib.hid (after HBu.out hb)
 have HR2:=Lib.hid (HR1.out.next hb)
 have hrt:r=true:=hrr.2 HY.out
 subst hrt
 clear hb hrr
 have x0:u.cell? ⟨X,0,none⟩=some (.slice ra n rc):=HR2.out.cell
 have HQ0:Hid (RS u u [] none 0):=Lib.hid ⟨World.ownsRow_nil _ _ _ _,Below.refl _ _⟩
 go_wp2_with fail
 go_loopw [6,16] (fun l i wr=>∃ (q:Nat) (wx:World) (rs:List ByteArray) (a:Option Addr) (m c:Nat),wx=wr/\q<=n/\l=.slice a m c/\i=.int .i64 q/\Hid (m=rs.length)/\Hid (RS u wx rs a c)/\Hid (rs=lostK S rep q)) (fun _ i _=>n - (intOf i).toNat)
 case atStart=>exact ⟨0,_,[],none,0,0,rfl,by omega,rfl,rfl,Lib.hid rfl,HQ0,Lib.hid rfl⟩
 case round=>
  clear HQ0 x0
  obtain ⟨q,wx,rs,a,m,c,rfl,hq,rfl,rfl,HQq,HQ,HRs⟩:=hrel
  by_cases hlt:q < n
  ·have hlti:(q:Int) < (n:Int):=by omega
   have HLT:=Lib.hid hlt
   have hbw:=after HB.out HQ.out.kk
   have hrl:=HR.out wx hbw
   have hul:=HU.out wx hbw
   obtain ⟨v,hv⟩:∃ v,rep[q]?=some v:=⟨_,List.getElem?_eq_getElem (by rw [HRl.out];exact hlt)⟩
   obtain ⟨mm,hmm⟩:∃ x,L[q]?=some x:=⟨_,List.getElem?_eq_getElem (by rw [<-HUl.out];exact hlt)⟩
   obtain ⟨rb,ro,hra,-,-⟩:=hrl.cells (by intro e;rw [e] at hv;cases hv)
   obtain ⟨ub,uo,hua,-,-⟩:=hul.cells (by intro e;rw [e] at hmm;cases hmm)
   subst hra
   subst hua
   have r0:wx.cell? ⟨rb,ro+q,none⟩=some (.int .i64 v):=ints_cells hrl (Below.refl _ _) hv
   obtain ⟨y0,-,-,-,-,-⟩:=unit_cells hul (Below.refl _ _) hmm
   obtain ⟨N1,hN1⟩:∃ N:ByteArray,N=⟨mm.sc.name.toArray⟩:=⟨_,rfl⟩
   rw [<-hN1] at y0
   have HV:=Lib.hid hv
   have HSq:Hid (S[q]?=some mm.sc):=Lib.hid (by rw [HSe.out,List.getElem?_map,hmm];rfl)
   have HN1:=Lib.hid hN1
   have hql:Hid (m<=256):=Lib.hid (by rw [HQq.out,HRs.out];have:=lostK_len S rep q;have:=HN.out;omega)
   have hx0:Hid (u.heap.size<=wx.heap.size):=Lib.hid HQ.out.kk.size
   clear hbw hrl hul hv hmm hN1 hlt hq
   by_cases e:v = -1
   ·have t1:(v == -1)=true:=by simp [e]
    have HR5:Hid (rs ++ [N1]=lostK S rep (q+1)):=Lib.hid (by rw [lostK_in (by rw [HV.out,e]) HSq.out,HRs.out,HN1.out])
    have HNw:Hid ((wx.alloc (.cells #[.string N1] 9)).heap[wx.heap.size]?=some (.cells #[.string N1] 9)):=Lib.hid (heap_alloc_new wx _)
    subst e
    go_wp2_with (at_builtin;refine wpList_append_lies _ rfl _ _ 55 rfl u.heap.size 9 i0 (.string ⟨#[]⟩) 1 16 Tryz.underlying55 hi hz0 hz1 hz2 rfl (by decide) (.slice a m c) m (rs.flatMap enS) rfl (by have:=HQ.out.oo;rw [<-HQq.out] at this;exact this.alloc _) ⟨wx.heap.size,0,none⟩ 1 1 (enS N1) rfl rfl (World.news_of_block (cs:=#[.string N1]) (t:=9) (fr:=(0,0)) HNw.out) (by simp [enS,Value.oneCell']) (by decide) (by have:=hql.out;unfold maxLen;omega) (by have:=hql.out;omega) (by have:=hx0.out;simp;omega) (wx.heap.size+1) (by simp) ?_;intro g cap w2 hown2 hgrow2 hlie2 hlt2)
    rw [HQq.out] at hown2 hgrow2
    have HQ2:=Lib.hid (HQ.out.grow hown2 hgrow2)
    have HQq2:Hid (m+1=(rs ++ [N1]).length):=Lib.hid (by rw [HQq.out];simp)
    clear hown2 hgrow2 hlie2 hlt2 HNw
    go_roundw
    case rel=>exact ⟨q+1,_,_,_,_,_,rfl,by have:=HLT.out;omega,rfl,by go_num,HQq2,HQ2,HR5⟩
    case measure=>have:=HLT.out;simp [intOf];omega
   ·have t1:(v == -1)=false:=by simp [e]
    have HR5:Hid (rs=lostK S rep (q+1)):=Lib.hid (by rw [lostK_out (by rw [HV.out];simpa using e)];exact HRs.out)
    clear e
    go_wp2
    go_roundw
    case rel=>exact ⟨q+1,_,_,_,_,_,rfl,by have:=HLT.out;omega,rfl,by go_num,HQq,HQ,HR5⟩
    case measure=>have:=HLT.out;simp [intOf];omega
  ·have hlti:¬ (q:Int) < (n:Int):=by omega
   have hqe:q=n:=by omega
   have HEnd:Hid (rs=lostK S rep n):=Lib.hid (by rw [HRs.out,hqe])
   clear hq hlt hqe
   go_wp2
   go_ret2
   rw [<-HEnd.out]
   exact ⟨a,c,by rw [<-HQq.out];rfl,HQ.out.sl,after HB.out HQ.out.kk⟩
theorem same13_any (w:World) (a a':Option Addr) (n c c':Nat) (l:List ByteArray) (hn:n<=1000000) (h:SL enS 1 w w.heap.size a n l) (h':SL enS 1 w w.heap.size a' n l):
  Calls Tryz.prog 38 #[.slice a n c,.slice a' n c'] w (RetB (.bool true) w):=by
 have t0:((n:Int) != (n:Int))=false:=by simp
 have hni:(n:Int)<=1000000:=by omega
 have H1:=Lib.hid (fun u (hu:Below w.heap.size w u)=>h.next hu)
 have H2:=Lib.hid (fun u (hu:Below w.heap.size w u)=>h'.next hu)
 have HLn:=Lib.hid h.len
 clear h h' hn
 go_enter Tryz.func38,Tryz.ntmps38
 go_wp2_with fail
 go_loopw [5] (fun i wr=>∃ (k:Nat) (wx:World),wx=wr/\k<=n/\i=.int .i64 k/\Hid (Below w.heap.size w wx)) (fun i _=>n - (intOf i).toNat)
 case atStart=>exact ⟨0,_,rfl,by omega,rfl,Lib.hid (Below.refl _ _)⟩
 case round=>
  obtain ⟨k,wx,rfl,hk,rfl,HB⟩:=hrel
  by_cases hlt:k < n
  ·have hlti:(k:Int) < (n:Int):=by omega
   have HLT:=Lib.hid hlt
   have hk1:k < l.length:=by rw [<-HLn.out];exact hlt
   obtain ⟨b1,o1,e1,-,hc1⟩:=(H1.out wx HB.out).cells (by intro e;rw [e] at hk1;simp at hk1)
   obtain ⟨b2,o2,e2,-,hc2⟩:=(H2.out wx HB.out).cells (by intro e;rw [e] at hk1;simp at hk1)
   subst e1
   subst e2
   have c1:=hc1 k hk1 0 (by omega)
   have c2:=hc2 k hk1 0 (by omega)
   simp only [enS,Nat.add_zero,Nat.mul_one,List.getElem?_cons_zero] at c1 c2
   obtain ⟨x,hx⟩:∃ x,x=l[k]:=⟨_,rfl⟩
   rw [<-hx] at c1 c2
   have t1:(x.toList == x.toList)=true:=by simp
   have t2:(x.toList != x.toList)=false:=by simp
   clear hc1 hc2 hx hk1 hlt hk
   go_wp2
   go_quiet (fail)
   go_wp2
   go_roundw
   case rel=>exact ⟨k+1,_,rfl,by have:=HLT.out;omega,by go_num,Lib.hid (below_drewN HB.out _)⟩
   case measure=>have:=HLT.out;simp [intOf];omega
  ·have hlti:¬ (k:Int) < (n:Int):=by omega
   clear hk hlt
   go_wp2
   go_ret
   exact ⟨rfl,HB.out⟩
end Go.Proofs.YtbabckomagkjbaaGreatDoor
