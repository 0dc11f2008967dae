/- The reference of fold: Fold, Saved. fold's law: FoldDoes. -/
import Derived.Test.YtbabckomagkjbaaGreatDoorh1
import Derived.Test.YtbabckomagkjbaaGreatDoorj1
import Derived.Test.YtbabckomagkjbaaGreatDoorj2
import Derived.Test.YtbabckomagkjbaaGreatDoorj3
import Derived.Lib.AppendZeros
set_option maxRecDepth 100000
set_option maxHeartbeats 8000000
set_option linter.unusedVariables false
set_option linter.unusedSimpArgs false
namespace Go.Proofs.YtbabckomagkjbaaGreatDoor
open Go.ChangeShapes Go.WideShapes Go.Deep Go.RowKit
theorem rFold_no (w:World) (ua:Option Addr) (n uc:Nat) (L:List Ms) (ia:Option Addr) (m ic:Nat) (hn:n<=maxLen) (hm:m<=maxLen) (hs:SL msC 6 w w.heap.size ua n L) (hno:Notes w w.heap.size L) (hg:∀ x ∈ L,GoodSc x.sc) (hb:∀ x ∈ L,x.sc.rels.length*32<=reachBytes) (hf:FewU n L) (h:m ≠ n\/unitsR (L.map (·.sc))=false):
  Calls Tryz.prog 21 #[.slice ua n uc,.slice ia m ic] w (RetB (.tuple #[.slice none 0 0,.int .i64 1]) w):=by
 have hni:(n:Int)<=9223372036854775807:=by unfold maxLen at hn;omega
 have hmi:(m:Int)<=9223372036854775807:=by unfold maxLen at hm;omega
 have HI:=Lib.hid (rIsU_any ua n uc L w hn hs hno hg hb hf)
 cases hu:unitsR (L.map (·.sc))
 ·rw [hu] at HI
  clear hn hm hs hno hg hb hf h hu
  go_enter Tryz.func21,Tryz.ntmps21
  go_wp2_with fail
  refine HI.out.mono ?_
  rintro e u ⟨rfl,hb⟩
  have HB:=Lib.hid hb
  clear hb
  go_wp2
  go_ret2
  exact ⟨rfl,HB.out⟩
 ·rw [hu] at HI
  have t1:((m:Int) != (n:Int))=true:=by
   have:=h.resolve_right (by rw [hu];simp)
   simp;omega
  clear hn hm hs hno hg hb hf h hu
  go_enter Tryz.func21,Tryz.ntmps21
  go_wp2_with fail
  refine HI.out.mono ?_
  rintro e u ⟨rfl,hb⟩
  have HB:=Lib.hid hb
  clear hb
  go_wp2
  go_ret2
  exact ⟨rfl,HB.out⟩
structure ZQ (w u:World) (l:List Int) (a:Option Addr) (c:Nat):Prop where
 oo:u.ownsRow w.heap.size 3 1 (.slice a l.length c) l.length (l.flatMap enZ)
 kk:Below w.heap.size w u
theorem ZQ.grow {w u w2:World} {l:List Int} {a a':Option Addr} {c c':Nat} {k:Int} (h:ZQ w u l a c) (hown:w2.ownsRow w.heap.size 3 1 (.slice a' (l.length+1) c') (l.length+1) (l.flatMap enZ ++ enZ k))
  (hgrow:(u.alloc (.cells #[.int .i64 k] 3)).grownBy w2 (Value.slice a l.length c).ownBlock):ZQ w w2 (l ++ [k]) a' c':=by
 refine ⟨by simpa [List.flatMap_append] using hown,?_⟩
 exact (h.kk.alloc h.kk.size _).grown hgrow (by have:=h.kk.size;rw [World.size_alloc];omega) (fun j hj=>(h.oo.lt j hj).1)
def RFoldP (P:List Int) (n:Nat) (w:World) (e:Ending) (w':World):Prop:=∃ (a:Option Addr) (c:Nat),e=.returned (.tuple #[.slice a n c,.int .i64 0])/\SL enZ 1 w' w'.heap.size a n P/\Below w.heap.size w w'
def AtI (bi:Bool) (pv:Int) (kk:Nat) (t:Int):Prop:=(bi=false->t = -1)/\(bi=true->(kk:Int)<=pv->t=pv)
def PvI (U:List (List Bool)) (bi:Bool) (i:Nat) (pv:Int):Prop:=(bi=false->pv = -1)/\(bi=true->∃ p:Nat,pv=(p:Int)/\p<=i/\unG U i p=false/\∀ k,k < p->unG U i k=true)
theorem AtI.start {U:List (List Bool)} {bi:Bool} {i:Nat} {pv:Int} (h:PvI U bi i pv):AtI bi pv (i+1) (-1):=
 ⟨fun _=>rfl,fun hb hk=>by obtain ⟨p,rfl,h1,-⟩:=h.2 hb;omega⟩
theorem AtI.hit {U:List (List Bool)} {i q:Nat} {pv t:Int} (h:PvI U true i pv) (hi:AtI true pv (q+1) t) (hU:unG U i q=false):AtI true pv q q:=by
 refine ⟨(fun h=>by cases h),fun _ hk=>?_⟩
 obtain ⟨p,rfl,h1,h2,h3⟩:=h.2 rfl
 by_cases e:q < p
 ·rw [h3 q e] at hU;cases hU
 ·omega
theorem AtI.miss {U:List (List Bool)} {i q:Nat} {pv t:Int} (h:PvI U true i pv) (hi:AtI true pv (q+1) t) (hU:unG U i q=true):AtI true pv q t:=by
 refine ⟨(fun h=>by cases h),fun _ hk=>?_⟩
 obtain ⟨p,rfl,h1,h2,h3⟩:=h.2 rfl
 by_cases e:q=p
 ·subst e;rw [h2] at hU;cases hU
 ·exact hi.2 rfl (by omega)
theorem AtI.done {U:List (List Bool)} {bi:Bool} {i kk:Nat} {pv t z:Int} (h:PvI U bi i pv) (hi:AtI bi pv kk t) (hz:z=(kk:Int) - 1) (hc:¬ (0:Int)<=z\/bi=false):t=pv:=by
 cases bi
 ·rw [hi.1 rfl,h.1 rfl]
 ·obtain ⟨p,e,-⟩:=h.2 rfl
  have h0:=hc.resolve_right (by simp)
  exact hi.2 rfl (by omega)
theorem pv_is {S:List Sc} {ins:List Bool} {j:Nat} {U:List (List Bool)} {i:Nat} {bi:Bool} {pv:Int} (hu:unitsR S=true) (hin:ins.length=S.length) (h:UnI S ins (endL ins (foldN S ins j)) U) (hc:ClosedU S U) (hi:i < S.length) (hb:ins[i]?=some bi) (hp:(endL ins (foldN S ins j))[i]?=some pv):PvI U bi i pv:=by
 cases bi
 ·refine ⟨fun _=>?_,(fun h=>by cases h)⟩
  rw [end_out hi hb] at hp
  exact (Option.some.inj hp).symm
 ·refine ⟨(fun h=>by cases h),fun _=>?_⟩
  obtain ⟨p,h1,h2,h3,h4⟩:=un_least hu hin h hc hi hb
  rw [h1] at hp
  exact ⟨p,(Option.some.inj hp).symm,h2,h3,h4⟩
theorem end_len {S:List Sc} {ins:List Bool} {j:Nat}:(endL ins (foldN S ins j)).length=S.length:=by unfold endL;rw [List.length_map,List.length_range,foldN_len]
theorem rFold_yes (w:World) (ua:Option Addr) (n uc:Nat) (L:List Ms) (ia:Option Addr) (ic:Nat) (ins:List Bool) (j:Nat) (hs:SL msC 6 w w.heap.size ua n L) (hno:Notes w w.heap.size L) (hg:∀ x ∈ L,GoodSc x.sc) (hb:∀ x ∈ L,x.sc.rels.length*32<=reachBytes) (hf:FewU n L) (hi:SL enB 1 w w.heap.size ia n ins) (hu:unitsR (L.map (·.sc))=true) (hfx:nextP (L.map (·.sc)) ins (foldN (L.map (·.sc)) ins j)=foldN (L.map (·.sc)) ins j):
  Calls Tryz.prog 21 #[.slice ua n uc,.slice ia n ic] w (RFoldP (endL ins (foldN (L.map (·.sc)) ins j)) n w):=by
 have hlen:(L.map (·.sc)).length=n:=by rw [List.length_map];exact hs.len.symm
 have hun:n<=256:=by rw [<-hlen];exact units_len hu
 have hni:(n:Int)<=256:=by omega
 have HI:=Lib.hid (rIsU_any ua n uc L w (by unfold maxLen;omega) hs hno hg hb hf)
 rw [hu] at HI
 have HAp:=Lib.hid (fun u (hv:Below w.heap.size w u)=>rApart_any ua n uc L ia ic ins j u (hs.next hv) (hno.next hv) hu (hi.next hv) hfx)
 obtain ⟨S,hS⟩:∃ S,S=L.map (·.sc):=⟨_,rfl⟩
 rw [<-hS] at hlen HAp hu hfx ⊢
 have HU:=Lib.hid hu
 have HIn:Hid (ins.length=S.length):=Lib.hid (by rw [hlen];exact hi.len.symm)
 have HLn:=Lib.hid hlen
 have HIs:=Lib.hid (fun u (hv:Below w.heap.size w u)=>hi.next hv)
 obtain ⟨P,hP⟩:∃ P,P=endL ins (foldN S ins j):=⟨_,rfl⟩
 have HPl:Hid (P.length=n):=Lib.hid (by rw [hP,end_len];exact hlen)
 have HPv:Hid (∀ (U:List (List Bool)) (i:Nat) (bi:Bool) (pv:Int),UnI S ins P U->ClosedU S U->i < n->ins[i]?=some bi->P[i]?=some pv->PvI U bi i pv):=Lib.hid (fun U i bi pv h1 h2 h3 h4 h5=>by
  rw [hP] at h1 h5
  exact pv_is hu HIn.out h1 h2 (by omega) h4 h5)
 rw [<-hP] at HAp ⊢
 obtain ⟨i0,hgi,hz0,hz1,hz2⟩:=info_parts info_intG
 have HUn:=Lib.hid hun
 have t1:((n:Int) != (n:Int))=false:=by simp
 clear hs hno hg hb hf hi hu hfx hS hP hlen hun
 go_enter Tryz.func21,Tryz.ntmps21
 go_wp2_with fail
 refine HI.out.mono ?_
 rintro e u ⟨rfl,hb⟩
 have HB:=Lib.hid hb
 clear hb HI
 go_wp2_with fail
 refine (HAp.out _ HB.out).mono ?_
 rintro e v ⟨oa,oc,Gs,U,rfl,hgn,hO,hU,hC⟩
 have HGn:=Lib.hid hgn
 have HBv:=Lib.hid (after HB.out hO.kk)
 have HO:=Lib.hid (show UR u v n Gs U oa oc from hO)
 have HUi:=Lib.hid hU
 have HCl:=Lib.hid hC
 have HQ0:Hid (ZQ v v [] none 0):=Lib.hid ⟨World.ownsRow_nil _ _ _ _,Below.refl _ _⟩
 clear hgn hO hU hC HB HAp
 go_wp2_with fail
 go_loopw [7,8] (fun ov iv wr=>∃ (i:Nat) (wx:World) (l:List Int) (a:Option Addr) (c:Nat),wx=wr/\i<=n/\ov=.slice a i c/\iv=.int .i64 i/\Hid (ZQ v wx l a c)/\Hid (l=P.take i/\l.length=i)) (fun _ iv _=>n - (intOf iv).toNat)
 case atStart=>exact ⟨0,_,[],none,0,rfl,by omega,rfl,rfl,HQ0,Lib.hid ⟨rfl,rfl⟩⟩
 case round=>
  clear HQ0
  obtain ⟨i,wx,l,a,c,rfl,hi,rfl,rfl,HQ,HL⟩:=hrel
  by_cases hlt:i < n
  ·have hlti:(i:Int) < (n:Int):=by omega
   have HLT:=Lib.hid hlt
   obtain ⟨bi,hbi⟩:∃ x,ins[i]?=some x:=⟨_,List.getElem?_eq_getElem (by rw [HIn.out,HLn.out];exact hlt)⟩
   obtain ⟨pv,hpv⟩:∃ x,P[i]?=some x:=⟨_,List.getElem?_eq_getElem (by rw [HPl.out];exact hlt)⟩
   have HPi:=Lib.hid (HPv.out U i bi pv HUi.out HCl.out hlt hbi hpv)
   have hbw:=after HBv.out HQ.out.kk
   obtain ⟨ib,io,hia,-,-⟩:=(HIs.out _ hbw).cells (by intro e;rw [e] at hbi;cases hbi)
   subst hia
   have j0:wx.cell? ⟨ib,io+i,none⟩=some (.bool bi):=bools_cells (HIs.out _ hbw) (Below.refl _ _) hbi
   obtain ⟨gi,hgi'⟩:∃ x,Gs[i]?=some x:=⟨_,List.getElem?_eq_getElem (by rw [HGn.out];exact hlt)⟩
   have hO:=HO.out.next HQ.out.kk
   obtain ⟨ob,hoa,r0⟩:=hO.row hgi'
   subst hoa
   have HRw:Hid (∀ q,q < n->wx.cell? ⟨gi,q,none⟩=some (.bool (unG U i q))):=Lib.hid (fun q hq=>by
    obtain ⟨xr,hxr,hxq⟩:=sq_get HUi.out.sq (show i < S.length by rw [HLn.out];exact hlt) (show q < S.length by rw [HLn.out];exact hq)
    rw [(hO.rr _ _ _ hgi' hxr).2.cell];exact blA_get hxq)
   have HL2:Hid (l ++ [pv]=P.take (i+1)/\(l ++ [pv]).length=i+1):=Lib.hid ⟨by rw [List.take_add_one,hpv,HL.out.1];rfl,by rw [List.length_append,HL.out.2];rfl⟩
   have HA0:Hid (AtI bi pv (i+1) (-1)):=Lib.hid (AtI.start HPi.out)
   have hx0:Hid (v.heap.size<=wx.heap.size):=Lib.hid HQ.out.kk.size
   clear hlt hi hbi hpv hbw hgi' hO
   go_wp2_with fail
   go_loopw [9,10] (fun tv kv wr=>∃ (kk:Nat) (t z:Int),wr=wx/\tv=.int .i64 t/\kv=.int .i64 z/\kk<=i+1/\Hid (z=(kk:Int) - 1)/\Hid (AtI bi pv kk t)) (fun _ kv _=>(intOf kv+1).toNat)
   case atStart=>exact ⟨i+1,-1,(i:Int),rfl,rfl,rfl,by omega,Lib.hid (by omega),HA0⟩
   case round=>
    clear HA0
    obtain ⟨kk,t,z,rfl,rfl,rfl,hkk,HZ,HA⟩:=hrel
    by_cases hst:¬ (0:Int)<=z\/bi=false
    ·have ht:=HA.out.done HPi.out HZ.out hst
     have hcs:¬ (0:Int)<=z\/((0:Int)<=z/\bi=false):=by
      by_cases h:(0:Int)<=z
      ·exact .inr ⟨h,hst.resolve_left (fun k=>k h)⟩
      ·exact .inl h
     subst ht
     have HNw:Hid ((wr.alloc (.cells #[.int .i64 t] 3)).heap[wr.heap.size]?=some (.cells #[.int .i64 t] 3)):=Lib.hid (heap_alloc_new wr _)
     clear hst hkk
     rcases hcs with h0 | ⟨h0,rfl⟩
     all_goals
      go_wp2_with (at_builtin;refine wpList_append_lies _ rfl _ _ 23 rfl v.heap.size 3 i0 (.int .i64 0) 1 8 Tryz.underlying23 hgi hz0 hz1 hz2 rfl (by decide) (.slice a i c) i (l.flatMap enZ) rfl (by have:=HQ.out.oo;rw [HL.out.2] at this;exact this.alloc _) ⟨wr.heap.size,0,none⟩ 1 1 (enZ t) rfl rfl (World.news_of_block (cs:=#[.int .i64 t]) (t:=3) (fr:=(0,0)) HNw.out) (by simp [enZ,Value.oneCell']) (by decide) (by have:=HLT.out;have:=HUn.out;unfold maxLen;omega) (by have:=HLT.out;have:=HUn.out;omega) (by have:=hx0.out;simp;omega) (wr.heap.size+1) (by simp) ?_;intro g cap w2 hown2 hgrow2 hlie2 hlt2)
      rw [<-HL.out.2] at hown2 hgrow2
      have HQ2:=Lib.hid (HQ.out.grow hown2 hgrow2)
      clear hown2 hgrow2 hlie2 hlt2 HNw
      go_roundw
      case rel=>exact ⟨i+1,_,_,_,_,rfl,by have:=HLT.out;omega,rfl,by go_num,HQ2,HL2⟩
      case measure=>have:=HLT.out;simp [intOf];omega
    ·have h0:(0:Int)<=z:=Classical.byContradiction (fun h=>hst (.inl h))
     have hbt:bi=true:=by cases bi;exact absurd (.inr rfl) hst;rfl
     obtain ⟨q,rfl⟩:∃ q,kk=q+1:=⟨kk - 1,by have:=HZ.out;omega⟩
     obtain rfl:z=(q:Int):=by have:=HZ.out;omega
     subst hbt
     have hqn:(q:Int) < (n:Int):=by omega
     have HKk:=Lib.hid hkk
     have HLq:=Lib.hid hqn
     cases hU:unG U i q
     ·have r1:wr.cell? ⟨gi,q,none⟩=some (.bool false):=by rw [HRw.out q (by omega),hU]
      have HA1:=Lib.hid (HA.out.hit HPi.out hU)
      clear hst hkk hU
      go_wp2
      go_roundw
      case rel=>exact ⟨q,_,(q:Int) - 1,trivial,rfl,by go_num,by have:=HKk.out;omega,Lib.hid rfl,HA1⟩
      case measure=>simp [intOf] <;> omega
     ·have r1:wr.cell? ⟨gi,q,none⟩=some (.bool true):=by rw [HRw.out q (by omega),hU]
      have HA1:=Lib.hid (HA.out.miss HPi.out hU)
      clear hst hkk hU
      go_wp2
      go_roundw
      case rel=>exact ⟨q,_,(q:Int) - 1,trivial,rfl,by go_num,by have:=HKk.out;omega,Lib.hid rfl,HA1⟩
      case measure=>simp [intOf] <;> omega
  ·have hnlt:¬ (i:Int) < (n:Int):=by omega
   have hie:i=n:=by omega
   subst hie
   have hl:l=P:=by rw [HL.out.1];exact List.take_of_length_le (by rw [HPl.out];omega)
   subst hl
   clear hi hlt
   go_wp2
   go_ret2
   refine ⟨a,c,rfl,?_,after HBv.out HQ.out.kk⟩
   have h1:=HQ.out.oo
   rw [HL.out.2] at h1
   obtain ⟨a',c',e,h',-⟩:=SL.ofOwns (enc:=enZ) (sz:=1) (fun _=>rfl) (by decide) h1
   injection e with e1 e2 e3
   subst e1
   exact h'
theorem ints_cellsT {w:World} {pb po pn:Nat} {P:List Int} (h:SL enZ 1 w w.heap.size (some ⟨pb,po,none⟩) pn P) {u:World} (hu:Below w.heap.size w u) {q:Nat} {v:Int} (hq:P[q]?=some v):u.cell? ⟨pb,po+q,none⟩=some (.int .i64 v):=by
 have hl:=(List.getElem?_eq_some_iff.1 hq).1
 have hv:=(List.getElem?_eq_some_iff.1 hq).2
 obtain ⟨b,off,e,hB,hc⟩:=(h.next hu).cells (by intro e;rw [e] at hl;simp at hl)
 cases e
 have d0:=hc q hl 0 (by decide)
 simp only [enZ,Nat.add_zero,Nat.mul_one,List.getElem?_cons_zero] at d0
 rw [d0,hv]
theorem rSaved_no (w:World) (ua:Option Addr) (n uc:Nat) (L:List Ms) (ia:Option Addr) (m ic:Nat) (hn:n<=maxLen) (hm:m<=maxLen) (hs:SL msC 6 w w.heap.size ua n L) (hno:Notes w w.heap.size L) (hg:∀ x ∈ L,GoodSc x.sc) (hb:∀ x ∈ L,x.sc.rels.length*32<=reachBytes) (hf:FewU n L) (h:m ≠ n\/unitsR (L.map (·.sc))=false):
  Calls Tryz.prog 23 #[.slice ua n uc,.slice ia m ic] w (RetB (.tuple #[.int .i64 0,.int .i64 1]) w):=by
 have HF:=Lib.hid (rFold_no w ua n uc L ia m ic hn hm hs hno hg hb hf h)
 clear hn hm hs hno hg hb hf h
 go_enter Tryz.func23,Tryz.ntmps23
 go_wp2_with fail
 refine HF.out.mono ?_
 rintro e u ⟨rfl,hb⟩
 have HB:=Lib.hid hb
 clear hb
 go_wp2
 go_ret2
 exact ⟨rfl,HB.out⟩
theorem rSaved_yes (w:World) (ua:Option Addr) (n uc:Nat) (L:List Ms) (ia:Option Addr) (ic:Nat) (ins:List Bool) (j:Nat) (hn:n<=maxLen) (hs:SL msC 6 w w.heap.size ua n L) (hno:Notes w w.heap.size L) (hg:∀ x ∈ L,GoodSc x.sc) (hb:∀ x ∈ L,x.sc.rels.length*32<=reachBytes) (hi:SL enB 1 w w.heap.size ia n ins) (hf:FewU n L) (h:unitsR (L.map (·.sc))=true) (hfx:nextP (L.map (·.sc)) ins (foldN (L.map (·.sc)) ins j)=foldN (L.map (·.sc)) ins j):
  Calls Tryz.prog 23 #[.slice ua n uc,.slice ia n ic] w (RetB (.tuple #[.int .i64 (savS (L.map (·.sc)) ins (endL ins (foldN (L.map (·.sc)) ins j)) n:Nat),.int .i64 0]) w):=by
 have HF:=Lib.hid (rFold_yes w ua n uc L ia ic ins j hs hno hg hb hf hi h hfx)
 obtain ⟨S,hS⟩:∃ S,S=L.map (·.sc):=⟨_,rfl⟩
 have hSl:S.length=n:=by rw [hS,List.length_map];exact hs.len.symm
 have hn2:n<=256:=by have:=units_len h;rw [<-hS,hSl] at this;exact this
 have HD:Hid (∀ s ∈ S,s.data.length<=4096):=Lib.hid (by
  intro s hs1
  obtain ⟨i,hi1⟩:=List.getElem?_of_mem hs1
  exact (units_sec h (by rw [<-hS];exact hi1)).1.data)
 have HU:=Lib.hid (fun u (hu:Below w.heap.size w u)=>hs.next hu)
 have HIn:=Lib.hid (fun u (hu:Below w.heap.size w u)=>hi.next hu)
 have HSe:=Lib.hid hS
 have HSl:=Lib.hid hSl
 have hni:(n:Int)<=256:=by omega
 have HN:=Lib.hid hn2
 rw [<-hS] at HF ⊢
 clear hn hs hno hg hb hi hf h hfx hS hSl hn2
 go_enter Tryz.func23,Tryz.ntmps23
 go_wp2_with fail
 refine HF.out.mono ?_
 rintro e u ⟨za,zc,rfl,hr,hb⟩
 have HB:=Lib.hid hb
 have HR:=Lib.hid hr
 obtain ⟨l,hl⟩:∃ l,l=endL ins (foldN S ins j):=⟨_,rfl⟩
 have HLe:=Lib.hid hl
 have HLl:Hid (l.length=n):=Lib.hid (by rw [hl];unfold endL;rw [List.length_map,List.length_range,foldN_len];exact HSl.out)
 rw [<-hl] at HR
 rw [<-hl]
 clear hb hr hl HF
 go_wp2_with fail
 go_loopw [8,9] (fun nv i wr=>∃ (k:Nat),wr=u/\k<=n/\nv=.int .i64 (savS S ins l k:Nat)/\i=.int .i64 k) (fun _ i _=>n - (intOf i).toNat)
 case atStart=>exact ⟨0,rfl,by omega,rfl,rfl⟩
 case round=>
  obtain ⟨k,rfl,hk,rfl,rfl⟩:=hrel
  by_cases hlt:k < n
  ·have hlti:(k:Int) < (n:Int):=by omega
   have hsl:=HIn.out wr HB.out
   have hul:=HU.out wr HB.out
   have hkI:k < ins.length:=by rw [<-hsl.len];exact hlt
   have hkL:k < L.length:=by rw [<-hul.len];exact hlt
   have hkl:k < l.length:=by rw [HLl.out];exact hlt
   obtain ⟨ib,io,hia,-,-⟩:=hsl.cells (by intro e;rw [e] at hkI;simp at hkI)
   obtain ⟨ub,uo,hua,-,-⟩:=hul.cells (by intro e;rw [e] at hkL;simp at hkL)
   subst hia
   subst hua
   obtain ⟨b,hbe⟩:∃ b,b=ins[k]:=⟨_,rfl⟩
   have hbk:ins[k]?=some b:=by rw [hbe];exact List.getElem?_eq_getElem hkI
   obtain ⟨v,hv⟩:∃ v,v=l[k]:=⟨_,rfl⟩
   have hvk:l[k]?=some v:=by rw [hv];exact List.getElem?_eq_getElem hkl
   have i0:wr.cell? ⟨ib,io+k,none⟩=some (.bool b):=bools_cells hsl (Below.refl _ _) hbk
   obtain ⟨zb,zo,hza,-,-⟩:=HR.out.cells (by intro e;rw [e] at hvk;cases hvk)
   subst hza
   have z0:wr.cell? ⟨zb,zo+k,none⟩=some (.int .i64 v):=ints_cellsT HR.out (Below.refl _ _) hvk
   obtain ⟨m,hm⟩:∃ m,L[k]?=some m:=⟨_,List.getElem?_eq_getElem hkL⟩
   obtain ⟨-,-,-,-,y4,-⟩:=unit_cells hul (Below.refl _ _) hm
   have hdn:dataN S k=m.sc.data.length:=by unfold dataN;rw [HSe.out,List.getElem?_map,hm];rfl
   obtain ⟨D,hD⟩:∃ N:ByteArray,N=⟨m.sc.data.toArray⟩:=⟨_,rfl⟩
   have HDs:Hid (D.size=dataN S k):=Lib.hid (by rw [hdn,hD];show m.sc.data.toArray.size=_;simp)
   rw [<-hD] at y4
   have HBk:=Lib.hid hbk
   have HVk:=Lib.hid hvk
   have HLT:=Lib.hid hlt
   have hle:=savS_le (ins:=ins) (l:=l) HD.out (k+1)
   have HLe2:=Lib.hid hle
   clear hsl hul hkI hkL hkl hbe hbk hv hvk hm hdn hD hle
   cases b
   ·have HSv:Hid (savS S ins l (k+1)=savS S ins l k):=Lib.hid (savS_not (.inl HBk.out))
    go_wp2
    go_roundw
    case rel=>exact ⟨k+1,trivial,by have:=HLT.out;omega,by rw [HSv.out],by go_num⟩
    case measure=>have:=HLT.out;simp [intOf];omega
   ·by_cases hvv:v=(k:Int)
    ·have t1:(v != (k:Int))=false:=by simp [hvv]
     have HSv:Hid (savS S ins l (k+1)=savS S ins l k):=Lib.hid (savS_not (.inr (by rw [HVk.out,hvv])))
     clear hvv
     go_wp2
     go_roundw
     case rel=>exact ⟨k+1,trivial,by have:=HLT.out;omega,by rw [HSv.out],by go_num⟩
     case measure=>have:=HLT.out;simp [intOf];omega
    ·have t1:(v != (k:Int))=true:=by simp [hvv]
     have HSv:Hid (savS S ins l (k+1)=savS S ins l k+D.size):=Lib.hid (by rw [HDs.out];exact savS_add HBk.out (by rw [HVk.out];simpa using hvv))
     have hw1:IntKind.i64.wrap (((savS S ins l k:Nat):Int)+(D.size:Int))=((savS S ins l k:Nat):Int)+(D.size:Int):=by
      have h1:=HSv.out
      have h2:=HLe2.out
      have h3:=HN.out
      rw [IntKind.wrap_i64];omega
     clear hvv
     go_wp2
     go_roundw
     case rel=>exact ⟨k+1,trivial,by have:=HLT.out;omega,by rw [HSv.out];go_num,by go_num⟩
     case measure=>have:=HLT.out;simp [intOf];omega
  ·have hlti:¬ (k:Int) < (n:Int):=by omega
   have HKN:Hid (k=n):=Lib.hid (by omega)
   go_wp2
   go_ret2
   exact ⟨by rw [<-HLe.out,HKN.out];rfl,HB.out⟩
end Go.Proofs.YtbabckomagkjbaaGreatDoor
namespace Go.Proofs.YtbabckomagkjbaaGreatDoor
open Go.ChangeShapes Go.WideShapes Go.Deep Go.RowKit
theorem alikeL_any (N D N' D':ByteArray) (ki ki' al al':Int) (kp kp':Bool) (a a':Option Addr) (n n' c c':Nat) (l l':List Rl) (w:World) (hn:n<=maxLen) (hn':n'<=maxLen) (hs:SL rlC 4 w w.heap.size a n l) (hs':SL rlC 4 w w.heap.size a' n' l') (nm nm':List UInt8):
  Calls Tryz.prog 25 #[.agg (uCe N ki kp al D a n c),.agg (uCe N' ki' kp' al' D' a' n' c')] w (RetB (.bool (alikeB ⟨nm,ki,kp,al,D.data.toList,l⟩ ⟨nm',ki',kp',al',D'.data.toList,l'⟩)) w):=by
 obtain ⟨R,hR⟩:∃ R,R=alikeB ⟨nm,ki,kp,al,D.data.toList,l⟩ ⟨nm',ki',kp',al',D'.data.toList,l'⟩:=⟨_,rfl⟩
 rw [<-hR]
 unfold alikeB at hR
 simp only [] at hR
 obtain ⟨P,hP⟩:∃ P,P=w.heap.size:=⟨_,rfl⟩
 obtain ⟨A1,hA1⟩:∃ A,A=w.alloc (.cells (uCe N ki kp al D a n c) 43):=⟨_,rfl⟩
 obtain ⟨A2,hA2⟩:∃ A,A=A1.alloc (.cells (uCe N' ki' kp' al' D' a' n' c') 43):=⟨_,rfl⟩
 have hz1:A1.heap.size=P+1:=by rw [hA1,World.size_alloc,hP]
 have hb1:Below w.heap.size w A1:=by rw [hA1];exact lit_below w _
 have hb2:Below A1.heap.size A1 A2:=by rw [hA2];exact lit_below A1 _
 have HB:=Lib.hid (after hb1 hb2)
 have HX:Hid (RB A2 P (uCe N ki kp al D a n c) 43):=Lib.hid (by
  have:RB A1 P (uCe N ki kp al D a n c) 43:=by rw [hA1,hP];exact rb_new w _ _
  exact this.next hb2)
 have HY:Hid (RB A2 (P+1) (uCe N' ki' kp' al' D' a' n' c') 43):=Lib.hid (by rw [hA2,<-hz1];exact rb_new A1 _ _)
 have x1:A2.cell? ⟨P,1,none⟩=some (.int .i64 ki):=HX.out.cell
 have x4:A2.cell? ⟨P,4,none⟩=some (.string D):=HX.out.cell
 have x5:A2.cell? ⟨P,5,none⟩=some (.slice a n c):=HX.out.cell
 have y1:A2.cell? ⟨P+1,1,none⟩=some (.int .i64 ki'):=HY.out.cell
 have y4:A2.cell? ⟨P+1,4,none⟩=some (.string D'):=HY.out.cell
 have y5:A2.cell? ⟨P+1,5,none⟩=some (.slice a' n' c'):=HY.out.cell
 rw [hA2,hA1] at x1 x4 x5 y1 y4 y5
 rw [hP] at x1 x4 x5 y1 y4 y5
 have HAE:Hid ((w.alloc (.cells (uCe N ki kp al D a n c) 43)).alloc (.cells (uCe N' ki' kp' al' D' a' n' c') 43)=A2):=Lib.hid (by rw [hA2,hA1])
 have HP:=Lib.hid hP
 have hni:(n:Int)<=9223372036854775807:=by unfold maxLen at hn;omega
 have hni':(n':Int)<=9223372036854775807:=by unfold maxLen at hn';omega
 have HS:=Lib.hid hs
 have HS':=Lib.hid hs'
 have HLn:=Lib.hid hs.len
 have HLn':=Lib.hid hs'.len
 clear hA1 hA2 hz1 hb1 hb2 hP hs hs'
 by_cases e1:ki=1
 ·have t1:(ki != 1)=false:=by simp [e1]
  rw [decide_eq_true e1,Bool.true_and] at hR
  by_cases e2:ki'=1
  ·have t2:(ki' != 1)=false:=by simp [e2]
   rw [decide_eq_true e2,Bool.true_and] at hR
   by_cases e3:D=D'
   ·have t3:(D.toList == D'.toList)=true:=by rw [e3];simp
    have t3':(D.toList != D'.toList)=false:=by simp only [bne,t3];rfl
    rw [decide_eq_true (by rw [e3]),Bool.true_and] at hR
    by_cases e4:n=n'
    ·subst e4
     have hll:l.length=l'.length:=by rw [<-HLn.out,<-HLn'.out]
     have HIff:=Lib.hid (alRs_iff hll)
     have HR:=Lib.hid hR
     have t4:((n:Int) != (n:Int))=false:=by simp
     clear hR e1 e2 hll
     subst e3
     go_enter Tryz.func25,Tryz.ntmps25
     go_wp2
     rw [HAE.out,<-HP.out]
     clear x1 x4 x5 y1 y4 y5 t1 t2 t3 t3' t4
     go_loopw [34] (fun i wr=>∃ (k:Nat) (wx:World),wx=wr/\k<=n/\i=.int .i64 k/\Hid (Below A2.heap.size A2 wx/\∀ (j:Nat) (r r':Rl),j < k->l[j]?=some r->l'[j]?=some r'->alR r r'=true)) (fun i _=>n - (intOf i).toNat)
     case atStart=>exact ⟨0,_,rfl,by omega,rfl,Lib.hid ⟨Below.refl _ _,fun j r r' h=>by omega⟩⟩
     case round=>
      obtain ⟨k,wx,rfl,hk,rfl,HK⟩:=hrel
      have HBx:=Lib.hid (after HB.out HK.out.1)
      by_cases hlt:k < n
      ·have hlti:(k:Int) < (n:Int):=by omega
       have hk1:k < l.length:=by have:=HLn.out;omega
       have hk2:k < l'.length:=by have:=HLn'.out;omega
       obtain ⟨b1,o1,hae1,hB1,hc1⟩:=(HS.out.next HBx.out).cells (by intro e;rw [e] at hk1;simp at hk1)
       subst hae1
       obtain ⟨b2,o2,hae2,hB2,hc2⟩:=(HS'.out.next HBx.out).cells (by intro e;rw [e] at hk2;simp at hk2)
       subst hae2
       obtain ⟨c0,c1,c2,c3⟩:=rl_cells (fun q hq=>hc1 k hk1 q hq)
       obtain ⟨d0,d1,d2,d3⟩:=rl_cells (fun q hq=>hc2 k hk2 q hq)
       obtain ⟨x,hx⟩:∃ x,x=l[k]:=⟨_,rfl⟩
       obtain ⟨y,hy⟩:∃ y,y=l'[k]:=⟨_,rfl⟩
       have HXx:Hid (l[k]?=some x):=Lib.hid (by rw [hx];exact List.getElem?_eq_getElem hk1)
       have HYy:Hid (l'[k]?=some y):=Lib.hid (by rw [hy];exact List.getElem?_eq_getElem hk2)
       rw [<-hx] at c0 c1 c2 c3
       rw [<-hy] at d0 d1 d2 d3
       clear hc1 hc2 hB1 hB2 hx hy
       obtain ⟨xp,xk,xs,xa⟩:=x
       obtain ⟨yp,yk,ys,ya⟩:=y
       simp only [] at c0 c1 c2 c3 d0 d1 d2 d3
       obtain ⟨V,hV⟩:∃ V,V=wx.heap.size:=⟨_,rfl⟩
       obtain ⟨Wa,hWa⟩:∃ x,x=wx.alloc (.cells #[.int .i64 xp,.int .i64 xk,.int .i64 xs,.int .i64 xa] 61):=⟨_,rfl⟩
       obtain ⟨Wb,hWb⟩:∃ x,x=wx.alloc (.cells #[.int .i64 xp,.int .i64 xk,.int .i64 ys,.int .i64 xa] 61):=⟨_,rfl⟩
       have hba:Below wx.heap.size wx Wa:=by rw [hWa];exact lit_below wx _
       have hbb:Below wx.heap.size wx Wb:=by rw [hWb];exact lit_below wx _
       have HBb:=Lib.hid (after HK.out.1 hbb)
       have y5:Wa.cell? ⟨P+1,5,none⟩=some (.slice (some ⟨b2,o2,none⟩) n c'):=(HY.out.next (after HK.out.1 hba)).cell
       have z5:Wb.cell? ⟨P+1,5,none⟩=some (.slice (some ⟨b2,o2,none⟩) n c'):=(HY.out.next HBb.out).cell
       have f2:Wa.cell? ⟨b2,o2+k*4+2,none⟩=some (.int .i64 ys):=(hba.cell (p:=⟨b2,o2+k*4+2,none⟩) (cell_lt d2)).trans d2
       have g0:Wb.cell? ⟨b2,o2+k*4,none⟩=some (.int .i64 yp):=(hbb.cell (p:=⟨b2,o2+k*4,none⟩) (cell_lt d0)).trans d0
       have g1:Wb.cell? ⟨b2,o2+k*4+1,none⟩=some (.int .i64 yk):=(hbb.cell (p:=⟨b2,o2+k*4+1,none⟩) (cell_lt d1)).trans d1
       have g2:Wb.cell? ⟨b2,o2+k*4+2,none⟩=some (.int .i64 ys):=(hbb.cell (p:=⟨b2,o2+k*4+2,none⟩) (cell_lt d2)).trans d2
       have g3:Wb.cell? ⟨b2,o2+k*4+3,none⟩=some (.int .i64 ya):=(hbb.cell (p:=⟨b2,o2+k*4+3,none⟩) (cell_lt d3)).trans d3
       have hrv:RB Wb V #[.int .i64 xp,.int .i64 xk,.int .i64 ys,.int .i64 xa] 61:=by rw [hWb,hV];exact rb_new wx _ _
       have v0:Wb.cell? ⟨V,0,none⟩=some (.int .i64 xp):=hrv.cell
       have v1:Wb.cell? ⟨V,1,none⟩=some (.int .i64 xk):=hrv.cell
       have v2:Wb.cell? ⟨V,2,none⟩=some (.int .i64 ys):=hrv.cell
       have v3:Wb.cell? ⟨V,3,none⟩=some (.int .i64 xa):=hrv.cell
       rw [hWa] at y5 f2
       rw [hWb] at z5 g0 g1 g2 g3 v0 v1 v2 v3
       rw [hV] at v0 v1 v2 v3
       have HWE:Hid (wx.alloc (.cells #[.int .i64 xp,.int .i64 xk,.int .i64 ys,.int .i64 xa] 61)=Wb):=Lib.hid hWb.symm
       have hnq:=neq_rf ⟨xp,xk,ys,xa⟩ ⟨yp,yk,ys,ya⟩
       have hsm:sameRl ⟨xp,xk,ys,xa⟩ ⟨yp,yk,ys,ya⟩=alR ⟨xp,xk,xs,xa⟩ ⟨yp,yk,ys,ya⟩:=by simp [sameRl,alR]
       rw [hsm] at hnq
       simp only [rfV] at hnq
       clear hsm hWa hWb hba hbb hrv hV d0 d1 d2 d3
       cases e:alR ⟨xp,xk,xs,xa⟩ ⟨yp,yk,ys,ya⟩
       ·have HE:Hid (R=false):=Lib.hid (by
         rw [HR.out]
         cases ha:alRs l l'
         ·rfl
         ·have:=(HIff.out.1 ha) k _ _ HXx.out HYy.out
          rw [e] at this;cases this)
        rw [e] at hnq
        clear e
        go_wp2
        rw [HWE.out]
        rw [HWE.out] at z5 g0 g1 g2 g3 v0 v1 v2 v3
        go_quiet (fail)
        go_wp2
        go_ret
        exact retB_bool HE.out.symm (below_drewN (after HB.out HBb.out) _)
       ·have HE:=Lib.hid e
        rw [e] at hnq
        clear e
        go_wp2
        rw [HWE.out]
        rw [HWE.out] at z5 g0 g1 g2 g3 v0 v1 v2 v3
        go_quiet (fail)
        go_wp2
        go_roundw
        case rel=>
         refine ⟨k+1,_,rfl,by omega,by go_num,Lib.hid ⟨below_drewN HBb.out _,fun j r r' hj hr hr'=>?_⟩⟩
         by_cases ejk:j=k
         ·subst ejk
          rw [HXx.out] at hr
          rw [HYy.out] at hr'
          cases hr
          cases hr'
          exact HE.out
         ·exact HK.out.2 j r r' (by omega) hr hr'
        case measure=>simp [intOf];omega
      ·have hlti:¬ (k:Int) < (n:Int):=by omega
       have HE:Hid (R=true):=Lib.hid (by
        rw [HR.out]
        refine HIff.out.2 (fun j r r' hr hr'=>HK.out.2 j r r' ?_ hr hr')
        have h1:=(List.getElem?_eq_some_iff.1 hr).1
        have:=HLn.out
        omega)
       go_wp2
       go_ret
       exact retB_bool HE.out.symm HBx.out
    ·have t4:((n:Int) != (n':Int))=true:=by rw [bne_iff_ne];omega
     have HR:Hid (R=false):=Lib.hid (by rw [hR];unfold alRs;rw [decide_eq_false (by rw [<-HLn.out,<-HLn'.out];exact e4)];rfl)
     clear hR e1 e2 e4
     subst e3
     go_enter Tryz.func25,Tryz.ntmps25
     go_wp2
     rw [HAE.out]
     go_ret
     exact retB_bool HR.out.symm HB.out
   ·have hne:D.data.toList ≠ D'.data.toList:=fun h=>e3 (ByteArray.ext (Array.toList_inj.1 h))
    have t3:(D.toList == D'.toList)=false:=by rw [beq_eq_false_iff_ne,ByteArray.toList_eq,ByteArray.toList_eq];exact hne
    have t3':(D.toList != D'.toList)=true:=by simp only [bne,t3];rfl
    have HR:Hid (R=false):=Lib.hid (by rw [hR,decide_eq_false hne];rfl)
    clear hR e1 e2 e3 hne
    go_enter Tryz.func25,Tryz.ntmps25
    go_wp2
    rw [HAE.out]
    go_ret
    exact retB_bool HR.out.symm HB.out
  ·have t2:(ki' != 1)=true:=by simp [e2]
   have HR:Hid (R=false):=Lib.hid (by rw [hR,decide_eq_false e2];rfl)
   clear hR e1 e2
   go_enter Tryz.func25,Tryz.ntmps25
   go_wp2
   rw [HAE.out]
   go_ret
   exact retB_bool HR.out.symm HB.out
 ·have t1:(ki != 1)=true:=by simp [e1]
  have HR:Hid (R=false):=Lib.hid (by rw [hR,decide_eq_false e1];rfl)
  clear hR e1
  go_enter Tryz.func25,Tryz.ntmps25
  go_wp2
  rw [HAE.out]
  go_ret
  exact retB_bool HR.out.symm HB.out
theorem bl_ones (l:List Bool):∀ u ∈ l.flatMap enB,u.oneCell'=true:=by
 intro u hu
 obtain ⟨b,-,hb⟩:=List.mem_flatMap.1 hu
 simp only [enB,List.mem_singleton] at hb
 subst hb;rfl
theorem app_bools {w:World} {m c:Nat} {ys:List Bool} {a:Option Addr} (hs:SL enB 1 w w.heap.size a m ys) (hz:a=none->m=0/\c=0) (hm:m<=300) (ty:TypeId):
  ∃ a' c' w',(Builtin.append_ #[29,29] ty #[.slice none 0 0,.slice a m c]).run Tryz.prog w=.ok (.slice a' m c') w'/\SL enB 1 w' w'.heap.size a' m ys/\Below w.heap.size w w':=by
 obtain ⟨i0,hi,hi0,hi1,hi2⟩:=info_parts info_boolG
 have hfl:(ys.flatMap enB).length=m*1:=by rw [flat_len enB_len,hs.len]
 have hown:=World.ownsRow_nil w w.heap.size 4 1
 cases a with
 | none=>
  obtain ⟨rfl,rfl⟩:=hz rfl
  have hy:ys=[]:=by have:=hs.len;cases ys with | nil=>rfl | cons=>simp at this
  subst hy
  exact ⟨none,0,w,run_append_owned_none w w.heap.size 29 ty 4 i0 1 Tryz.underlying29 hi _ 0 _ hown,SL.nil _ _ _,Below.refl _ _⟩
 | some ad=>
  obtain ⟨v',w',hr,ho,hgr,-⟩:=run_append_own (P:=Tryz.prog) w w.heap.size 29 ty 4 i0 _ 1 1 Tryz.underlying29 hi hi0 hi1 hi2 rfl (by decide) _ 0 _ hown ad m c (ys.flatMap enB) hfl (hs.news enB_len (by decide)) (bl_ones ys) (by unfold maxLen;omega) (by omega) (Nat.le_refl _)
  rw [Nat.zero_add,List.nil_append] at ho
  obtain ⟨a',c',rfl,h',-⟩:=SL.ofOwns enB_len (by decide) ho
  exact ⟨a',c',w',hr,h',(Below.refl _ _).grown hgr (Nat.le_refl _) (fun k hk=>by simp [Value.ownBlock] at hk)⟩
def FF (l:List Int) (er:Int) (w:World) (e:Ending) (w':World):Prop:=∃ (a:Option Addr) (c:Nat),e=.returned (.tuple #[.slice a l.length c,.int .i64 er])/\SL enZ 1 w' w'.heap.size a l.length l/\Below w.heap.size w w'
theorem FF.no (w w':World) (e:Ending) (h:RetB (.tuple #[.slice none 0 0,.int .i64 1]) w e w'):FF [] 1 w e w':=⟨none,0,h.1,SL.nil _ _ _,h.2⟩
theorem rbI_sl {w:World} {Z n:Nat} {l:List Int} (h:RB w Z (inA l) 3) (hl:l.length=n):SL enZ 1 w w.heap.size (some ⟨Z,0,none⟩) n l:=by
 refine ⟨hl.symm,fun hne=>⟨Z,0,rfl,lt_of_block h,fun k hk j hj=>?_⟩⟩
 obtain rfl:j=0:=by omega
 have:=h.cell (j:=k)
 rw [show (0:Nat)+k*1+0=k by omega,this,inA_get (List.getElem?_eq_getElem hk)]
 rfl
theorem FoldDoes_walk (w:World) (ua:Option Addr) (un uc:Nat) (L:List Ms) (hun:un<=maxLen) (hs:SL msC 6 w w.heap.size ua un L) (hno:Notes w w.heap.size L) (hg:∀ m ∈ L,GoodSc m.sc) (hb:∀ m ∈ L,m.sc.rels.length*32<=reachBytes) (hz:∀ m ∈ L,m.ad=none->m.sc.rels.length=0/\m.cap=0)
  (ia:Option Addr) (im ic:Nat) (ins:List Bool) (him:im<=maxLen) (hi:SL enB 1 w w.heap.size ia im ins) (hie:ia=none->im=0/\ic=0) (e0:Int) (he : -9223372036854775808<=e0/\e0<=9223372036854775807) (e1:Int) (he' : -9223372036854775808<=e1/\e1<=9223372036854775807) (hT:TabP w):
  Calls Tryz.prog 4 #[.slice ua un uc,.slice ia im ic,.int .i64 e0,.int .i64 e1] w (RetB (.bool true) w):=by
 have himi:(im:Int)<=9223372036854775807:=by unfold maxLen at him;omega
 have HBg:Hid (∀ u,Below w.heap.size w u->Calls Tryz.prog 8 #[.slice ua un uc] u (BigP un L u)):=Lib.hid fun u hu=>rBigU2_any ua un uc L u hun (hs.next hu) (hno.next hu) hb
 have HSk:Hid (∀ u,Below w.heap.size w u->Calls Tryz.prog 24 #[] u (RetB (.bool true) u)):=Lib.hid fun u hu=>folded_is u (hT.next hu)
 have HOw:Hid (∀ u,un<=300->Below w.heap.size w u->Calls Tryz.prog 9 #[.slice ua un uc] u (OwnP un (L.map (·.sc)) u)):=Lib.hid fun u h3 hu=>rOwn_any ua un uc L u h3 (hs.next hu) (hno.next hu) hb hz
 have HO2:Hid (∀ (Lo:List Ms),Lo.map (·.sc)=L.map (·.sc)->FewU un L->(∀ m ∈ Lo,GoodSc m.sc)/\(∀ m ∈ Lo,m.sc.rels.length*32<=reachBytes)/\FewU un Lo):=Lib.hid (fun Lo h hf=>by
  have key:∀ m ∈ Lo,∃ x ∈ L,x.sc=m.sc:=fun m hm=>by
   have:m.sc ∈ L.map (·.sc):=by rw [<-h];exact List.mem_map.2 ⟨m,hm,rfl⟩
   obtain ⟨x,hx,e⟩:=List.mem_map.1 this
   exact ⟨x,hx,e⟩
  refine ⟨fun m hm=>?_,fun m hm=>?_,hf.1,hf.2.imp id (fun h=>⟨h.1,fun m hm=>?_⟩)⟩
  ·obtain ⟨x,hx,e⟩:=key m hm;rw [<-e];exact hg x hx
  ·obtain ⟨x,hx,e⟩:=key m hm;rw [<-e];exact hb x hx
  ·obtain ⟨x,hx,e⟩:=key m hm;rw [<-e];exact h.2 x hx)
 have HFo:Hid (∀ (u v0:World) (oa ma:Option Addr) (oc mc:Nat) (Lo:List Ms),Below w.heap.size w u->Lo.map (·.sc)=L.map (·.sc)->FewU un L->im<=300->(∀ v,Below v0.heap.size v0 v->SL msC 6 v v.heap.size oa un Lo/\Notes v v.heap.size Lo)->(∀ v,Below v0.heap.size v0 v->SL enB 1 v v.heap.size ma im ins)->
   Calls Tryz.prog 20 #[.slice ua un uc,.slice ia im ic] u (fun e w'=>∃ l er,(l.length<=300/\∀ v,Below v0.heap.size v0 v->Calls Tryz.prog 21 #[.slice oa un oc,.slice ma im mc] v (FF l er v))/\FF l er u e w')):=Lib.hid (fun u v0 oa ma oc mc Lo hu hsc hf h3 hov hmv=>by
  obtain ⟨g1,g2,g3⟩:=HO2.out Lo hsc hf
  by_cases hbad:im ≠ un\/unitsR (L.map (·.sc))=false
  ·refine (fold_no u ua un uc L ia im ic hun him (hs.next hu) (hno.next hu) hg hb (hT.next hu) hbad).mono fun e w' h=>⟨[],1,⟨by simp,fun v hv=>?_⟩,FF.no _ _ _ h⟩
   exact (rFold_no v oa un oc Lo ma im mc hun him (hov v hv).1 (hov v hv).2 g1 g2 g3 (by rw [hsc];exact hbad)).mono fun e w' h=>FF.no _ _ _ h
  ·have hnm:im=un:=Classical.byContradiction (fun h=>hbad (.inl h))
   have hu1:unitsR (L.map (·.sc))=true:=by cases h:unitsR (L.map (·.sc));exact absurd (.inr h) hbad;rfl
   subst hnm
   have hlen:(L.map (·.sc)).length=im:=by rw [List.length_map];exact hs.len.symm
   refine (fold_yes u ua im uc L ia ic ins hun (hs.next hu) (hno.next hu) hg hb (hi.next hu) (hT.next hu) hu1).mono fun e w' ⟨j,Z,hfx,he,hr,hb'⟩=>?_
   have hl:(endL ins (foldN (L.map (·.sc)) ins j)).length=im:=by rw [end_len];exact hlen
   refine ⟨endL ins (foldN (L.map (·.sc)) ins j),0,⟨by omega,fun v hv=>?_⟩,some ⟨Z,0,none⟩,im,by rw [he,hl],by rw [hl];exact rbI_sl hr hl,hb'⟩
   refine (rFold_yes v oa im oc Lo ma mc ins j (hov v hv).1 (hov v hv).2 g1 g2 g3 (hmv v hv) (by rw [hsc];exact hu1) (by rw [hsc];exact hfx)).mono fun e w' ⟨a,c,he,hs1,hb'⟩=>?_
   rw [hsc] at hs1
   exact ⟨a,c,by rw [he,hl],by rw [hl];exact hs1,hb'⟩)
 have HSa:Hid (∀ (u v0:World) (oa ma:Option Addr) (oc mc:Nat) (Lo:List Ms),Below w.heap.size w u->Lo.map (·.sc)=L.map (·.sc)->FewU un L->im<=300->(∀ v,Below v0.heap.size v0 v->SL msC 6 v v.heap.size oa un Lo/\Notes v v.heap.size Lo)->(∀ v,Below v0.heap.size v0 v->SL enB 1 v v.heap.size ma im ins)->
   Calls Tryz.prog 22 #[.slice ua un uc,.slice ia im ic] u (fun e w'=>∃ (n:Int) (er:Int),(∀ v,Below v0.heap.size v0 v->Calls Tryz.prog 23 #[.slice oa un oc,.slice ma im mc] v (RetB (.tuple #[.int .i64 n,.int .i64 er]) v))/\RetB (.tuple #[.int .i64 n,.int .i64 er]) u e w')):=Lib.hid (fun u v0 oa ma oc mc Lo hu hsc hf h3 hov hmv=>by
  obtain ⟨g1,g2,g3⟩:=HO2.out Lo hsc hf
  by_cases hbad:im ≠ un\/unitsR (L.map (·.sc))=false
  ·refine (saved_no u ua un uc L ia im ic hun him (hs.next hu) (hno.next hu) hg hb (hT.next hu) hbad).mono fun e w' h=>⟨0,1,fun v hv=>?_,h⟩
   exact rSaved_no v oa un oc Lo ma im mc hun him (hov v hv).1 (hov v hv).2 g1 g2 g3 (by rw [hsc];exact hbad)
  ·have hnm:im=un:=Classical.byContradiction (fun h=>hbad (.inl h))
   have hu1:unitsR (L.map (·.sc))=true:=by cases h:unitsR (L.map (·.sc));exact absurd (.inr h) hbad;rfl
   subst hnm
   refine (saved_yes u ua im uc L ia ic ins hun (hs.next hu) (hno.next hu) hg hb (hi.next hu) (hT.next hu) hu1).mono fun e w' ⟨j,hfx,he,hb'⟩=>?_
   refine ⟨_,0,fun v hv=>?_,he,hb'⟩
   have:=rSaved_yes v oa im oc Lo ma mc ins j hun (hov v hv).1 (hov v hv).2 g1 g2 (hmv v hv) g3 (by rw [hsc];exact hu1) (by rw [hsc];exact hfx)
   rw [hsc] at this
   exact this)
 have HSn:=Lib.hid hs
 have HUn:=Lib.hid (fun u (hu:Below w.heap.size w u)=>hs.next hu)
 have HNo:=Lib.hid (fun u (hu:Below w.heap.size w u)=>hno.next hu)
 have HIn:=Lib.hid (fun u (hu:Below w.heap.size w u)=>hi.next hu)
 have HIe:=Lib.hid hie
 have HBd:=Lib.hid hb
 have HMx:=Lib.hid hun
 have HB:Hid (Below w.heap.size w w):=Lib.hid (Below.refl _ w)
 clear hs hno hg hb hz he he' hi hie hT hun him
 go_enter Tryz.func4,Tryz.ntmps4
 go_wp2_with fail
 refine (HBg.out _ HB.out).mono ?_
 rintro e u ⟨r,rfl,hr,hb⟩
 replace HB:=Lib.hid (after HB.out hb)
 have HFw:=Lib.hid hr
 clear hb hr
 cases r
 rotate_left
 ·go_wp2
  go_ret
  exact ⟨rfl,HB.out⟩
 replace HFw:=Lib.hid (HFw.out rfl)
 by_cases h3:300 < im
 ·have h4:(300:Int) < (im:Int):=by omega
  clear h3
  go_wp2
  go_ret
  exact ⟨rfl,HB.out⟩
 have h4:¬ (300:Int) < (im:Int):=by omega
 have HI3:Hid (im<=300):=Lib.hid (by omega)
 have huni:(un:Int)<=300:=by have:=HFw.out.1;omega
 clear h3
 go_wp2_with fail
 refine (HOw.out _ HFw.out.1 HB.out).mono ?_
 rintro e u1 ⟨oa,oc,Lo,rfl,hon,hvi,hsc⟩
 replace HB:=Lib.hid (after HB.out hvi.kk)
 have HSc:=Lib.hid hsc
 have HOo:=Lib.hid (HO2.out Lo hsc HFw.out)
 have HVs:Hid (∀ v,Below u1.heap.size u1 v->SL msC 6 v v.heap.size oa un Lo/\Notes v v.heap.size Lo):=Lib.hid (fun v hv=>by
  have h:=hvi.next hv
  exact ⟨by have:=h.sl;rwa [<-hon] at this,h.notes⟩)
 obtain ⟨ma,mc,u2,hr,hms,hbm⟩:=app_bools (HIn.out _ HB.out) HIe.out HI3.out 29
 replace HB:=Lib.hid (after HB.out hbm)
 replace HVs:Hid (∀ v,Below u2.heap.size u2 v->SL msC 6 v v.heap.size oa un Lo/\Notes v v.heap.size Lo):=Lib.hid (fun v hv=>HVs.out v (after hbm hv))
 have HMv:Hid (∀ v,Below u2.heap.size u2 v->SL enB 1 v v.heap.size ma im ins):=Lib.hid (fun v hv=>hms.next hv)
 have HU2:Hid (Below u2.heap.size u2 u2):=Lib.hid (Below.refl _ _)
 have HR:=Lib.hid hr
 clear hon hvi hsc h4 HOw HBg hr hms hbm
 go_wp2_with (at_builtin;refine Lib.wpList_append_run _ rfl _ _ 29 29 rfl _ _ rfl rfl _ _ HR.out ?_)
 refine (HFo.out _ u2 oa ma oc mc Lo HB.out HSc.out HFw.out HI3.out HVs.out HMv.out).mono ?_
 rintro e u3 ⟨l,er,⟨hl,hrf⟩,aa,ac,rfl,ha,hb⟩
 replace HB:=Lib.hid (after HB.out hb)
 replace HU2:=Lib.hid (after HU2.out hb)
 have HRf:=Lib.hid hrf
 have HA:=Lib.hid ha
 have HLl:=Lib.hid hl
 obtain ⟨ln,hln⟩:∃ x,x=l.length:=⟨_,rfl⟩
 rw [<-hln]
 rw [<-hln] at HA HLl
 have HLe:=Lib.hid hln
 clear hl hrf ha hb hln HFo
 go_wp2_with fail
 refine (HRf.out _ HU2.out).mono ?_
 rintro e u4 ⟨ba,bc,rfl,ha,hb⟩
 replace HB:=Lib.hid (after HB.out hb)
 replace HU2:=Lib.hid (after HU2.out hb)
 replace HA:=Lib.hid (HA.out.next hb)
 rw [<-HLe.out]
 have HA2:=Lib.hid ha
 rw [<-HLe.out] at HA2
 clear ha hb HRf
 go_wp2_with fail
 refine (HSa.out _ u2 oa ma oc mc Lo HB.out HSc.out HFw.out HI3.out HVs.out HMv.out).mono ?_
 rintro e u5 ⟨sn,er2,hrs,rfl,hb⟩
 replace HB:=Lib.hid (after HB.out hb)
 replace HU2:=Lib.hid (after HU2.out hb)
 replace HA:=Lib.hid (HA.out.next hb)
 replace HA2:=Lib.hid (HA2.out.next hb)
 have HRs:=Lib.hid hrs
 clear hrs hb HSa
 go_wp2_with fail
 refine (HRs.out _ HU2.out).mono ?_
 rintro e u6 ⟨rfl,hb⟩
 replace HB:=Lib.hid (after HB.out hb)
 replace HU2:=Lib.hid (after HU2.out hb)
 replace HA:=Lib.hid (HA.out.next hb)
 replace HA2:=Lib.hid (HA2.out.next hb)
 clear hb HRs
 have HSm:=Lib.hid (sameI_any aa ba ln ln ac bc l l u6 (by have:=HLl.out;omega) (by have:=HLl.out;omega) HA.out HA2.out)
 rw [decide_eq_true rfl] at HSm
 have t1:(er != er)=false:=by simp
 have t2:(er2 != er2)=false:=by simp
 have t3:(sn != sn)=false:=by simp
 clear HA HA2
 go_wp2_with fail
 refine HSm.out.mono ?_
 rintro e u7 ⟨rfl,hb⟩
 replace HB:=Lib.hid (after HB.out hb)
 replace HU2:=Lib.hid (after HU2.out hb)
 clear hb HSm
 have HSu:=Lib.hid (rSameU_is ua oa un uc oc L Lo u7 HMx.out (HUn.out _ HB.out) (HNo.out _ HB.out) (HVs.out _ HU2.out).1 (HVs.out _ HU2.out).2 HBd.out HSc.out)
 go_wp2_with fail
 refine HSu.out.mono ?_
 rintro e u8 ⟨rfl,hb⟩
 replace HB:=Lib.hid (after HB.out hb)
 replace HU2:=Lib.hid (after HU2.out hb)
 clear hb HSu
 have HSb:=Lib.hid (sameB_any ia ma im im ic mc ins ins u8 (by have:=HI3.out;omega) (by have:=HI3.out;omega) (HIn.out _ HB.out) (HMv.out _ HU2.out))
 rw [decide_eq_true rfl] at HSb
 go_wp2_with fail
 refine HSb.out.mono ?_
 rintro e u9 ⟨rfl,hb⟩
 replace HB:=Lib.hid (after HB.out hb)
 replace HU2:=Lib.hid (after HU2.out hb)
 clear hb HSb HIn HMv t1 t2 t3
 by_cases hin:e0 < 0\/(un:Int)<=e0\/e1 < 0\/(un:Int)<=e1
 ·have hcs:e0 < 0\/(¬ e0 < 0/\(un:Int)<=e0)\/(¬ e0 < 0/\¬ (un:Int)<=e0/\e1 < 0)\/(¬ e0 < 0/\¬ (un:Int)<=e0/\¬ e1 < 0/\(un:Int)<=e1):=by omega
  clear hin
  rcases hcs with h1 | ⟨h1,h2⟩ | ⟨h1,h2,h5⟩ | ⟨h1,h2,h5,h6⟩
  all_goals
   go_wp2_with fail
   refine (HSk.out _ HB.out).mono ?_
   rintro e u10 ⟨rfl,hb⟩
   replace HB:=Lib.hid (after HB.out hb)
   clear hb
   go_wp2
   go_ret
   exact ⟨rfl,HB.out⟩
 obtain ⟨p,rfl⟩:∃ p:Nat,e0=(p:Int):=⟨e0.toNat,by omega⟩
 obtain ⟨q,rfl⟩:∃ q:Nat,e1=(q:Int):=⟨e1.toNat,by omega⟩
 have hp:p < un:=by omega
 have hq:q < un:=by omega
 have hpi:(p:Int) < (un:Int):=by omega
 have hqi:(q:Int) < (un:Int):=by omega
 have hpn:¬ (un:Int)<=(p:Int):=by omega
 have hqn:¬ (un:Int)<=(q:Int):=by omega
 have hLl:L.length=un:=HSn.out.len.symm
 have hLo:Lo.length=un:=by have:=congrArg List.length HSc.out;simp at this;omega
 obtain ⟨m1,g1⟩:∃ m,L[p]?=some m:=⟨_,List.getElem?_eq_getElem (by omega)⟩
 obtain ⟨m2,g2⟩:∃ m,L[q]?=some m:=⟨_,List.getElem?_eq_getElem (by omega)⟩
 obtain ⟨m3,g3⟩:∃ m,Lo[p]?=some m:=⟨_,List.getElem?_eq_getElem (by omega)⟩
 obtain ⟨m4,g4⟩:∃ m,Lo[q]?=some m:=⟨_,List.getElem?_eq_getElem (by omega)⟩
 have f1:m3.sc=m1.sc:=by
  have:=congrArg (fun l=>l[p]?) HSc.out
  simpa [g1,g3] using this
 have f2:m4.sc=m2.sc:=by
  have:=congrArg (fun l=>l[q]?) HSc.out
  simpa [g2,g4] using this
 obtain ⟨ub,uo,hua,k1⟩:=ms_at HSn.out g1
 obtain ⟨ub',uo',hua',k2⟩:=ms_at HSn.out g2
 rw [hua] at hua'
 injection hua' with e
 injection e with e1 e2
 subst e1 e2
 obtain ⟨ob,oo,hoa,k3⟩:=ms_at (HVs.out _ (Below.refl _ _)).1 g3
 obtain ⟨ob',oo',hoa',k4⟩:=ms_at (HVs.out _ (Below.refl _ _)).1 g4
 rw [hoa] at hoa'
 injection hoa' with e
 injection e with e1 e2
 subst e1 e2
 have n1:=fun v hv=>HNo.out v hv m1 (List.mem_of_getElem? g1)
 have n2:=fun v hv=>HNo.out v hv m2 (List.mem_of_getElem? g2)
 have n3:=fun v hv=>(HVs.out v hv).2 m3 (List.mem_of_getElem? g3)
 have n4:=fun v hv=>(HVs.out v hv).2 m4 (List.mem_of_getElem? g4)
 have b1:=HBd.out m1 (List.mem_of_getElem? g1)
 have b2:=HBd.out m2 (List.mem_of_getElem? g2)
 obtain ⟨s1,ad1,cp1⟩:=m1
 obtain ⟨s2,ad2,cp2⟩:=m2
 obtain ⟨s3,ad3,cp3⟩:=m3
 obtain ⟨s4,ad4,cp4⟩:=m4
 simp only at f1 f2 k1 k2 k3 k4 n1 n2 n3 n4 b1 b2
 subst f1 f2
 obtain ⟨nm1,ki1,kp1,al1,dt1,rl1⟩:=s3
 obtain ⟨nm2,ki2,kp2,al2,dt2,rl2⟩:=s4
 simp only at k1 k2 k3 k4 n1 n2 n3 n4 b1 b2
 obtain ⟨R,hR⟩:∃ R,R=alikeB ⟨nm1,ki1,kp1,al1,dt1,rl1⟩ ⟨nm2,ki2,kp2,al2,dt2,rl2⟩:=⟨_,rfl⟩
 obtain ⟨N1,hN1⟩:∃ x:ByteArray,x=⟨nm1.toArray⟩:=⟨_,rfl⟩
 obtain ⟨N2,hN2⟩:∃ x:ByteArray,x=⟨nm2.toArray⟩:=⟨_,rfl⟩
 obtain ⟨D1,hD1⟩:∃ x:ByteArray,x=⟨dt1.toArray⟩:=⟨_,rfl⟩
 obtain ⟨D2,hD2⟩:∃ x:ByteArray,x=⟨dt2.toArray⟩:=⟨_,rfl⟩
 have hd1:dt1=D1.data.toList:=by rw [hD1]
 have hd2:dt2=D2.data.toList:=by rw [hD2]
 have r1:rl1.length<=maxLen:=by unfold reachBytes at b1;unfold maxLen;omega
 have r2:rl2.length<=maxLen:=by unfold reachBytes at b2;unfold maxLen;omega
 rw [<-hN1,<-hD1] at k1 k3
 rw [<-hN2,<-hD2] at k2 k4
 obtain ⟨n1',hn1⟩:∃ x,x=rl1.length:=⟨_,rfl⟩
 obtain ⟨n2',hn2⟩:∃ x,x=rl2.length:=⟨_,rfl⟩
 rw [<-hn1] at k1 k3
 rw [<-hn2] at k2 k4
 obtain ⟨v0,hv0⟩:∃ x,x=u9.drew:=⟨_,rfl⟩
 have hbd:Below u9.heap.size u9 v0:=by rw [hv0];exact (Below.refl _ _).drew
 have HV0:Hid (u9.drew=v0):=Lib.hid hv0.symm
 have HBd0:=Lib.hid (after HB.out hbd)
 have HBu0:=Lib.hid (after HU2.out hbd)
 have HcX:Hid (∀ v,Below v0.heap.size v0 v->v.cell? ⟨ub,uo+p*6,none⟩=some (.string N1)/\v.cell? ⟨ub,uo+p*6+1,none⟩=some (.int .i64 ki1)/\v.cell? ⟨ub,uo+p*6+2,none⟩=some (.bool kp1)/\v.cell? ⟨ub,uo+p*6+3,none⟩=some (.int .i64 al1)/\v.cell? ⟨ub,uo+p*6+4,none⟩=some (.string D1)/\v.cell? ⟨ub,uo+p*6+5,none⟩=some (.slice ad1 n1' cp1)/\v.cell? ⟨ub,uo+q*6,none⟩=some (.string N2)/\v.cell? ⟨ub,uo+q*6+1,none⟩=some (.int .i64 ki2)/\v.cell? ⟨ub,uo+q*6+2,none⟩=some (.bool kp2)/\v.cell? ⟨ub,uo+q*6+3,none⟩=some (.int .i64 al2)/\v.cell? ⟨ub,uo+q*6+4,none⟩=some (.string D2)/\v.cell? ⟨ub,uo+q*6+5,none⟩=some (.slice ad2 n2' cp2)/\v.cell? ⟨ob,oo+p*6,none⟩=some (.string N1)/\v.cell? ⟨ob,oo+p*6+1,none⟩=some (.int .i64 ki1)/\v.cell? ⟨ob,oo+p*6+2,none⟩=some (.bool kp1)/\v.cell? ⟨ob,oo+p*6+3,none⟩=some (.int .i64 al1)/\v.cell? ⟨ob,oo+p*6+4,none⟩=some (.string D1)/\v.cell? ⟨ob,oo+p*6+5,none⟩=some (.slice ad3 n1' cp3)/\v.cell? ⟨ob,oo+q*6,none⟩=some (.string N2)/\v.cell? ⟨ob,oo+q*6+1,none⟩=some (.int .i64 ki2)/\v.cell? ⟨ob,oo+q*6+2,none⟩=some (.bool kp2)/\v.cell? ⟨ob,oo+q*6+3,none⟩=some (.int .i64 al2)/\v.cell? ⟨ob,oo+q*6+4,none⟩=some (.string D2)/\v.cell? ⟨ob,oo+q*6+5,none⟩=some (.slice ad4 n2' cp4)):=Lib.hid (fun v hv=>by
  have h1:=k1 v (after HBd0.out hv)
  have h2:=k2 v (after HBd0.out hv)
  have h3:=k3 v (after HBu0.out hv)
  have h4:=k4 v (after HBu0.out hv)
  exact ⟨h1.1,h1.2.1,h1.2.2.1,h1.2.2.2.1,h1.2.2.2.2.1,h1.2.2.2.2.2,h2.1,h2.2.1,h2.2.2.1,h2.2.2.2.1,h2.2.2.2.2.1,h2.2.2.2.2.2,h3.1,h3.2.1,h3.2.2.1,h3.2.2.2.1,h3.2.2.2.2.1,h3.2.2.2.2.2,h4.1,h4.2.1,h4.2.2.1,h4.2.2.2.1,h4.2.2.2.2.1,h4.2.2.2.2.2⟩)
 have HA1:Hid (∀ v,Below v0.heap.size v0 v->Calls Tryz.prog 25 #[.agg (uCe N1 ki1 kp1 al1 D1 ad1 n1' cp1),.agg (uCe N2 ki2 kp2 al2 D2 ad2 n2' cp2)] v (RetB (.bool R) v)):=Lib.hid (fun v hv=>by
  rw [hn1,hn2,hR,hd1,hd2]
  exact alikeL_any N1 D1 N2 D2 ki1 ki2 al1 al2 kp1 kp2 ad1 ad2 rl1.length rl2.length cp1 cp2 rl1 rl2 v r1 r2 (n1 v (after HBd0.out hv)) (n2 v (after HBd0.out hv)) nm1 nm2)
 have HA2:Hid (∀ v,Below v0.heap.size v0 v->Calls Tryz.prog 26 #[.agg (uCe N1 ki1 kp1 al1 D1 ad3 n1' cp3),.agg (uCe N2 ki2 kp2 al2 D2 ad4 n2' cp4)] v (RetB (.bool R) v)):=Lib.hid (fun v hv=>by
  rw [hn1,hn2,hR,hd1,hd2]
  exact rAlike_any N1 D1 N2 D2 ki1 ki2 al1 al2 kp1 kp2 ad3 ad4 rl1.length rl2.length cp3 cp4 rl1 rl2 v r1 r2 (n3 v (after HBu0.out hv)) (n4 v (after HBu0.out hv)) nm1 nm2)
 have t4:(R == R)=true:=by simp
 subst hua hoa
 have hpn0:¬ (p:Int) < 0:=by omega
 have hqn0:¬ (q:Int) < 0:=by omega
 obtain ⟨c0,c1,c2,c3,c4,c5,d0,d1,d2,d3,d4,d5,x0,x1,x2,x3,x4,x5,y0,y1,y2,y3,y4,y5⟩:=HcX.out _ (Below.refl _ _)
 clear hin hp hq hLl hLo g1 g2 g3 g4 k1 k2 k3 k4 n1 n2 n3 n4 b1 b2 hR hN1 hN2 hD1 hD2 hd1 hd2 r1 r2 hn1 hn2 hv0 hbd c0 c1 c2 c3 c4 c5 d0 d1 d2 d3 d4 d5 x0 x1 x2 x3 x4 x5 y0 y1 y2 y3 y4 y5
 go_wp2_with fail
 refine wp_region_held_drew (S:=fun v=>v.cell? ⟨ub,uo+p*6,none⟩=some (.string N1)/\v.cell? ⟨ub,uo+p*6+1,none⟩=some (.int .i64 ki1)/\v.cell? ⟨ub,uo+p*6+2,none⟩=some (.bool kp1)/\v.cell? ⟨ub,uo+p*6+3,none⟩=some (.int .i64 al1)/\v.cell? ⟨ub,uo+p*6+4,none⟩=some (.string D1)/\v.cell? ⟨ub,uo+p*6+5,none⟩=some (.slice ad1 n1' cp1)/\v.cell? ⟨ub,uo+q*6,none⟩=some (.string N2)/\v.cell? ⟨ub,uo+q*6+1,none⟩=some (.int .i64 ki2)/\v.cell? ⟨ub,uo+q*6+2,none⟩=some (.bool kp2)/\v.cell? ⟨ub,uo+q*6+3,none⟩=some (.int .i64 al2)/\v.cell? ⟨ub,uo+q*6+4,none⟩=some (.string D2)/\v.cell? ⟨ub,uo+q*6+5,none⟩=some (.slice ad2 n2' cp2)/\v.cell? ⟨ob,oo+p*6,none⟩=some (.string N1)/\v.cell? ⟨ob,oo+p*6+1,none⟩=some (.int .i64 ki1)/\v.cell? ⟨ob,oo+p*6+2,none⟩=some (.bool kp1)/\v.cell? ⟨ob,oo+p*6+3,none⟩=some (.int .i64 al1)/\v.cell? ⟨ob,oo+p*6+4,none⟩=some (.string D1)/\v.cell? ⟨ob,oo+p*6+5,none⟩=some (.slice ad3 n1' cp3)/\v.cell? ⟨ob,oo+q*6,none⟩=some (.string N2)/\v.cell? ⟨ob,oo+q*6+1,none⟩=some (.int .i64 ki2)/\v.cell? ⟨ob,oo+q*6+2,none⟩=some (.bool kp2)/\v.cell? ⟨ob,oo+q*6+3,none⟩=some (.int .i64 al2)/\v.cell? ⟨ob,oo+q*6+4,none⟩=some (.string D2)/\v.cell? ⟨ob,oo+q*6+5,none⟩=some (.slice ad4 n2' cp4)) (by kernel_rfl) (by rw [HV0.out];exact HcX.out _ (Below.refl _ _)) (fun hHeld=>?_)
 rw [HV0.out]
 have hHeld0:=HcX.out _ (Below.refl _ _)
 clear hHeld
 refine wpAnyH_ready (rs:=[0]) (by kernel_rfl) (by simp) ?_
 refine AllReadyH.cons rfl (fun K hK=>?_) ?_
 rotate_left 1
 ·exact AllReadyH.nil
 go_simp
 go_wp2_with (go_at_call 24;refine (HSk.out _ HBd0.out).mono ?_;rintro e v1 ⟨rfl,hb⟩)
 have HB1:=Lib.hid hb
 clear hb
 refine hK.out _ _ (HcX.out _ HB1.out) (fun hHeld1=>?_)
 clear hK K
 refine wpAnyH_take (i:=1) (v:=?_) rfl (by kernel_rfl) (by kernel_rfl) (by kernel_rfl) (fun _ _ _ h=>h) (Or.inl ⟨by kernel_rfl,?_⟩) hHeld1 ?_
 rotate_left 1
 ·intro w hSw;(try dsimp only at hSw);obtain ⟨x0,x1,x2,x3,x4,x5,x6,x7,x8,x9,x10,x11,x12,x13,x14,x15,x16,x17,x18,x19,x20,x21,x22,x23⟩:=hSw;go_simp;(try with_reducible rfl)
 (try simp only [Act.put,List.setIfInBounds_toArray,List.set_cons_zero,List.set_cons_succ])
 refine wpAnyH_take (i:=2) (v:=?_) rfl (by kernel_rfl) (by kernel_rfl) (by kernel_rfl) (fun _ _ _ h=>h) (Or.inl ⟨by kernel_rfl,?_⟩) hHeld1 ?_
 rotate_left 1
 ·intro w hSw;(try dsimp only at hSw);obtain ⟨x0,x1,x2,x3,x4,x5,x6,x7,x8,x9,x10,x11,x12,x13,x14,x15,x16,x17,x18,x19,x20,x21,x22,x23⟩:=hSw;go_simp;(try with_reducible rfl)
 (try simp only [Act.put,List.setIfInBounds_toArray,List.set_cons_zero,List.set_cons_succ])
 refine wpAnyH_take (i:=3) (v:=?_) rfl (by kernel_rfl) (by kernel_rfl) (by kernel_rfl) (fun _ _ _ h=>h) (Or.inl ⟨by kernel_rfl,?_⟩) hHeld1 ?_
 rotate_left 1
 ·intro w hSw;(try dsimp only at hSw);obtain ⟨x0,x1,x2,x3,x4,x5,x6,x7,x8,x9,x10,x11,x12,x13,x14,x15,x16,x17,x18,x19,x20,x21,x22,x23⟩:=hSw;go_simp;(try with_reducible rfl)
 (try simp only [Act.put,List.setIfInBounds_toArray,List.set_cons_zero,List.set_cons_succ])
 refine wpAnyH_take (i:=4) (v:=?_) rfl (by kernel_rfl) (by kernel_rfl) (by kernel_rfl) (fun _ _ _ h=>h) (Or.inl ⟨by kernel_rfl,?_⟩) hHeld1 ?_
 rotate_left 1
 ·intro w hSw;(try dsimp only at hSw);obtain ⟨x0,x1,x2,x3,x4,x5,x6,x7,x8,x9,x10,x11,x12,x13,x14,x15,x16,x17,x18,x19,x20,x21,x22,x23⟩:=hSw;go_simp;(try with_reducible rfl)
 (try simp only [Act.put,List.setIfInBounds_toArray,List.set_cons_zero,List.set_cons_succ])
 refine wpAnyH_take (i:=5) (v:=?_) rfl (by kernel_rfl) (by kernel_rfl) (by kernel_rfl) (fun _ _ _ h=>h) (Or.inl ⟨by kernel_rfl,?_⟩) hHeld1 ?_
 rotate_left 1
 ·intro w hSw;(try dsimp only at hSw);obtain ⟨x0,x1,x2,x3,x4,x5,x6,x7,x8,x9,x10,x11,x12,x13,x14,x15,x16,x17,x18,x19,x20,x21,x22,x23⟩:=hSw;go_simp;(try with_reducible rfl)
 (try simp only [Act.put,List.setIfInBounds_toArray,List.set_cons_zero,List.set_cons_succ])
 refine wpAnyH_take (i:=6) (v:=?_) rfl (by kernel_rfl) (by kernel_rfl) (by kernel_rfl) (fun _ _ _ h=>h) (Or.inl ⟨by kernel_rfl,?_⟩) hHeld1 ?_
 rotate_left 1
 ·intro w hSw;(try dsimp only at hSw);obtain ⟨x0,x1,x2,x3,x4,x5,x6,x7,x8,x9,x10,x11,x12,x13,x14,x15,x16,x17,x18,x19,x20,x21,x22,x23⟩:=hSw;go_simp;(try with_reducible rfl)
 (try simp only [Act.put,List.setIfInBounds_toArray,List.set_cons_zero,List.set_cons_succ])
 refine wpAnyH_take (i:=7) (v:=?_) rfl (by kernel_rfl) (by kernel_rfl) (by kernel_rfl) (fun _ _ _ h=>h) (Or.inl ⟨by kernel_rfl,?_⟩) hHeld1 ?_
 rotate_left 1
 ·intro w hSw;(try dsimp only at hSw);obtain ⟨x0,x1,x2,x3,x4,x5,x6,x7,x8,x9,x10,x11,x12,x13,x14,x15,x16,x17,x18,x19,x20,x21,x22,x23⟩:=hSw;go_simp;(try with_reducible rfl)
 (try simp only [Act.put,List.setIfInBounds_toArray,List.set_cons_zero,List.set_cons_succ])
 refine wpAnyH_take (i:=8) (v:=?_) rfl (by kernel_rfl) (by kernel_rfl) (by kernel_rfl) (fun _ _ _ h=>h) (Or.inl ⟨by kernel_rfl,?_⟩) hHeld1 ?_
 rotate_left 1
 ·intro w hSw;(try dsimp only at hSw);obtain ⟨x0,x1,x2,x3,x4,x5,x6,x7,x8,x9,x10,x11,x12,x13,x14,x15,x16,x17,x18,x19,x20,x21,x22,x23⟩:=hSw;go_simp;(try with_reducible rfl)
 (try simp only [Act.put,List.setIfInBounds_toArray,List.set_cons_zero,List.set_cons_succ])
 refine wpAnyH_take (i:=9) (v:=?_) rfl (by kernel_rfl) (by kernel_rfl) (by kernel_rfl) (fun _ _ _ h=>h) (Or.inl ⟨by kernel_rfl,?_⟩) hHeld1 ?_
 rotate_left 1
 ·intro w hSw;(try dsimp only at hSw);obtain ⟨x0,x1,x2,x3,x4,x5,x6,x7,x8,x9,x10,x11,x12,x13,x14,x15,x16,x17,x18,x19,x20,x21,x22,x23⟩:=hSw;go_simp;(try with_reducible rfl)
 (try simp only [Act.put,List.setIfInBounds_toArray,List.set_cons_zero,List.set_cons_succ])
 refine wpAnyH_take (i:=11) (v:=?_) rfl (by kernel_rfl) (by kernel_rfl) (by kernel_rfl) (fun _ _ _ h=>h) (Or.inl ⟨by kernel_rfl,?_⟩) hHeld1 ?_
 rotate_left 1
 ·intro w hSw;(try dsimp only at hSw);obtain ⟨x0,x1,x2,x3,x4,x5,x6,x7,x8,x9,x10,x11,x12,x13,x14,x15,x16,x17,x18,x19,x20,x21,x22,x23⟩:=hSw;go_simp;(try with_reducible rfl)
 (try simp only [Act.put,List.setIfInBounds_toArray,List.set_cons_zero,List.set_cons_succ])
 refine wpAnyH_take (i:=12) (v:=?_) rfl (by kernel_rfl) (by kernel_rfl) (by kernel_rfl) (fun _ _ _ h=>h) (Or.inl ⟨by kernel_rfl,?_⟩) hHeld1 ?_
 rotate_left 1
 ·intro w hSw;(try dsimp only at hSw);obtain ⟨x0,x1,x2,x3,x4,x5,x6,x7,x8,x9,x10,x11,x12,x13,x14,x15,x16,x17,x18,x19,x20,x21,x22,x23⟩:=hSw;go_simp;(try with_reducible rfl)
 (try simp only [Act.put,List.setIfInBounds_toArray,List.set_cons_zero,List.set_cons_succ])
 refine wpAnyH_take (i:=13) (v:=?_) rfl (by kernel_rfl) (by kernel_rfl) (by kernel_rfl) (fun _ _ _ h=>h) (Or.inl ⟨by kernel_rfl,?_⟩) hHeld1 ?_
 rotate_left 1
 ·intro w hSw;(try dsimp only at hSw);obtain ⟨x0,x1,x2,x3,x4,x5,x6,x7,x8,x9,x10,x11,x12,x13,x14,x15,x16,x17,x18,x19,x20,x21,x22,x23⟩:=hSw;go_simp;(try with_reducible rfl)
 (try simp only [Act.put,List.setIfInBounds_toArray,List.set_cons_zero,List.set_cons_succ])
 refine wpAnyH_take (i:=14) (v:=?_) rfl (by kernel_rfl) (by kernel_rfl) (by kernel_rfl) (fun _ _ _ h=>h) (Or.inl ⟨by kernel_rfl,?_⟩) hHeld1 ?_
 rotate_left 1
 ·intro w hSw;(try dsimp only at hSw);obtain ⟨x0,x1,x2,x3,x4,x5,x6,x7,x8,x9,x10,x11,x12,x13,x14,x15,x16,x17,x18,x19,x20,x21,x22,x23⟩:=hSw;go_simp;(try with_reducible rfl)
 (try simp only [Act.put,List.setIfInBounds_toArray,List.set_cons_zero,List.set_cons_succ])
 refine wpAnyH_take (i:=15) (v:=?_) rfl (by kernel_rfl) (by kernel_rfl) (by kernel_rfl) (fun _ _ _ h=>h) (Or.inl ⟨by kernel_rfl,?_⟩) hHeld1 ?_
 rotate_left 1
 ·intro w hSw;(try dsimp only at hSw);obtain ⟨x0,x1,x2,x3,x4,x5,x6,x7,x8,x9,x10,x11,x12,x13,x14,x15,x16,x17,x18,x19,x20,x21,x22,x23⟩:=hSw;go_simp;(try with_reducible rfl)
 (try simp only [Act.put,List.setIfInBounds_toArray,List.set_cons_zero,List.set_cons_succ])
 refine wpAnyH_take (i:=16) (v:=?_) rfl (by kernel_rfl) (by kernel_rfl) (by kernel_rfl) (fun _ _ _ h=>h) (Or.inl ⟨by kernel_rfl,?_⟩) hHeld1 ?_
 rotate_left 1
 ·intro w hSw;(try dsimp only at hSw);obtain ⟨x0,x1,x2,x3,x4,x5,x6,x7,x8,x9,x10,x11,x12,x13,x14,x15,x16,x17,x18,x19,x20,x21,x22,x23⟩:=hSw;go_simp;(try with_reducible rfl)
 (try simp only [Act.put,List.setIfInBounds_toArray,List.set_cons_zero,List.set_cons_succ])
 refine wpAnyH_take (i:=17) (v:=?_) rfl (by kernel_rfl) (by kernel_rfl) (by kernel_rfl) (fun _ _ _ h=>h) (Or.inl ⟨by kernel_rfl,?_⟩) hHeld1 ?_
 rotate_left 1
 ·intro w hSw;(try dsimp only at hSw);obtain ⟨x0,x1,x2,x3,x4,x5,x6,x7,x8,x9,x10,x11,x12,x13,x14,x15,x16,x17,x18,x19,x20,x21,x22,x23⟩:=hSw;go_simp;(try with_reducible rfl)
 (try simp only [Act.put,List.setIfInBounds_toArray,List.set_cons_zero,List.set_cons_succ])
 refine wpAnyH_take (i:=18) (v:=?_) rfl (by kernel_rfl) (by kernel_rfl) (by kernel_rfl) (fun _ _ _ h=>h) (Or.inl ⟨by kernel_rfl,?_⟩) hHeld1 ?_
 rotate_left 1
 ·intro w hSw;(try dsimp only at hSw);obtain ⟨x0,x1,x2,x3,x4,x5,x6,x7,x8,x9,x10,x11,x12,x13,x14,x15,x16,x17,x18,x19,x20,x21,x22,x23⟩:=hSw;go_simp;(try with_reducible rfl)
 (try simp only [Act.put,List.setIfInBounds_toArray,List.set_cons_zero,List.set_cons_succ])
 refine wpAnyH_ready (rs:=[10]) (by kernel_rfl) (by simp) ?_
 refine AllReadyH.cons rfl (fun K hK=>?_) ?_
 rotate_left 1
 ·exact AllReadyH.nil
 go_simp
 go_wp2_with (go_at_call 25;refine (HA1.out _ HB1.out).mono ?_;rintro e v2 ⟨rfl,hb⟩)
 have HB2:=Lib.hid (after HB1.out hb)
 clear hb
 refine hK.out _ _ (HcX.out _ HB2.out) (fun hHeld2=>?_)
 clear hK K
 refine wpAnyH_ready (rs:=[19]) (by kernel_rfl) (by simp) ?_
 refine AllReadyH.cons rfl (fun K hK=>?_) ?_
 rotate_left 1
 ·exact AllReadyH.nil
 go_simp
 go_wp2_with (go_at_call 26;refine (HA2.out _ HB2.out).mono ?_;rintro e v3 ⟨rfl,hb⟩)
 have HB3:=Lib.hid (after HB2.out hb)
 clear hb
 refine hK.out _ _ (HcX.out _ HB3.out) (fun hHeld3=>?_)
 clear hK K
 refine wpAnyH_take (i:=20) (v:=?_) rfl (by kernel_rfl) (by kernel_rfl) (by kernel_rfl) (fun _ _ _ h=>h) (Or.inl ⟨by kernel_rfl,?_⟩) hHeld3 ?_
 rotate_left 1
 ·intro w hSw;(try dsimp only at hSw);obtain ⟨x0,x1,x2,x3,x4,x5,x6,x7,x8,x9,x10,x11,x12,x13,x14,x15,x16,x17,x18,x19,x20,x21,x22,x23⟩:=hSw;go_simp;(try with_reducible rfl)
 (try simp only [Act.put,List.setIfInBounds_toArray,List.set_cons_zero,List.set_cons_succ])
 refine wpAnyH_ready (rs:=[21]) (by kernel_rfl) (by simp) ?_
 refine AllReadyH.cons rfl (fun K hK=>?_) ?_
 rotate_left 1
 ·exact AllReadyH.nil
 go_simp
 refine hK.out _ _ (HcX.out _ HB3.out) (fun hHeld4=>?_)
 clear hK K
 refine wpAnyH_ready (rs:=[22]) (by kernel_rfl) (by simp) ?_
 refine AllReadyH.cons rfl (fun K hK=>?_) ?_
 rotate_left 1
 ·exact AllReadyH.nil
 go_simp
 refine hK.out _ _ (HcX.out _ HB3.out) (fun hHeld5=>?_)
 clear hK K
 refine wpAnyH_done (by kernel_rfl) ?_ _
 go_wp2
 go_ret
 exact ⟨rfl,after HBd0.out HB3.out⟩
end Go.Proofs.YtbabckomagkjbaaGreatDoor
