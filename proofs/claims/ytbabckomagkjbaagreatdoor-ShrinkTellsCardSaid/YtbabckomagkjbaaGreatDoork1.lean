/- The reference of graph: Big, told; Is. The reference of graph: are two rows of units the same; one row twice. rows of units of the call's own; units as arguments, whose rows are told; the reference's Own. -/
import Derived.Test.YtbabckomagkjbaaGreatDoorn3
import Derived.Test.YtbabckomagkjbaaGreatDoorqL
import Derived.Test.YtbabckomagkjbaaGreatDoorqI
import Derived.Test.YtbabckomagkjbaaGreatDoorw1
import Derived.Deep.AppendLies
set_option maxRecDepth 100000
set_option maxHeartbeats 4000000
set_option linter.unusedVariables false
set_option linter.unusedSimpArgs false
namespace Go.Proofs.YtbabckomagkjbaaGreatDoor
open Go.ChangeShapes Go.WideShapes Go.Deep Go.RowKit
def FewU (un:Nat) (L:List Ms):Prop:=un<=300/\(256 < un\/(un<=40/\∀ m ∈ L,m.sc.name.length<=100))
def BigP (un:Nat) (L:List Ms) (w:World) (e:Ending) (w':World):Prop:=∃ r:Bool,e=.returned (.bool r)/\(r=false->FewU un L)/\Below w.heap.size w w'
theorem rBigU2_any (ua:Option Addr) (un uc:Nat) (L:List Ms) (w:World) (hun:un<=maxLen) (hs:SL msC 6 w w.heap.size ua un L) (hno:Notes w w.heap.size L) (hb:∀ m ∈ L,m.sc.rels.length*32<=reachBytes):
  Calls Tryz.prog 8 #[.slice ua un uc] w (BigP un L w):=by
 have hni:(un:Int)<=9223372036854775807:=by unfold maxLen at hun;omega
 have HS:=Lib.hid hs
 have HNo:=Lib.hid hno
 have HBd:=Lib.hid hb
 have HLL:=Lib.hid hs.len
 clear hs hno hb hun
 go_enter Tryz.func8,Tryz.ntmps8
 go_wp2
 go_loopw [3] (fun i wr=>∃ (k:Nat) (wx:World),wx=wr/\k<=un/\i=.int .i64 k/\Hid (Below w.heap.size w wx)/\Hid (∀ m ∈ L.take k,m.sc.name.length<=100)) (fun i _=>un - (intOf i).toNat)
 case atStart=>exact ⟨0,_,rfl,by omega,rfl,Lib.hid (Below.refl _ _),Lib.hid (by simp)⟩
 case round=>
  obtain ⟨k,wx,rfl,hk,rfl,HB,HF⟩:=hrel
  by_cases hlt:k < un/\un<=40
  ·have hlti:(k:Int) < (un:Int):=by omega
   have h40:(un:Int)<=40:=by omega
   have HLT:=Lib.hid hlt.1
   have hk1:k < L.length:=by have:=HLL.out;omega
   obtain ⟨b,off,hua,hBl,hc⟩:=(HS.out.next HB.out).cells ((HS.out.next HB.out).ne hlt.1)
   subst hua
   obtain ⟨c0,c1,c2',c3,c4,c5⟩:=ms_cells (fun j hj=>hc k hk1 j hj)
   have hmem:L[k] ∈ L:=List.getElem_mem _
   have HTk:Hid (∀ x ∈ L.take (k+1),x ∈ L.take k\/x=L[k]):=Lib.hid (fun x hx=>by
    rw [List.take_add_one,List.getElem?_eq_getElem hk1,List.mem_append] at hx
    rcases hx with h | h
    ·exact .inl h
    ·exact .inr (by simpa using h))
   generalize L[k]'hk1=m at c0 c1 c2' c3 c4 c5 hmem HTk
   obtain ⟨⟨nm,ki,kp,al,dt,rl⟩,ad,cp⟩:=m
   simp only at c0 c1 c2' c3 c4 c5
   obtain ⟨nr,hnr⟩:∃ nr,nr=rl.length:=⟨_,rfl⟩
   have hrb:=HBd.out _ hmem
   simp only at hrb
   have HSec:Hid (∀ u:World,Below w.heap.size w u->Calls Tryz.prog 42 #[.agg #[.string ⟨nm.toArray⟩,.int .i64 ki,.bool kp,.int .i64 al,.string ⟨dt.toArray⟩,.slice ad nr cp]] u (SecQ ⟨nm,ki,kp,al,dt,rl⟩ u)):=Lib.hid fun u hu=>by
    rw [hnr]
    exact rSec_any nm dt ki kp al rl ad cp u ((HNo.out _ hmem).next hu) hrb
   have HBig:Hid (∀ u a c,Calls Tryz.prog 41 #[scV ⟨nm,ki,kp,al,dt,rl⟩ a rl.length c] u (fun e u'=>∃ r:Bool,e=.returned (.bool r)/\(r=false->nm.length<=100)/\Below u.heap.size u u')):=Lib.hid fun u a c=>(rBig_any ⟨nm.toArray⟩ ⟨dt.toArray⟩ ki kp al a rl.length c u).mono fun e u' h=>⟨_,h.1,fun hr=>by
    have hz:(⟨nm.toArray⟩:ByteArray).size=nm.length:=by show nm.toArray.size=_;simp
    unfold bigS at hr
    have:=of_decide_eq_false hr
    omega,h.2⟩
   rw [<-hnr] at c5
   clear hc hBl hk1 hlt hk hmem hrb hnr
   go_wp2_with fail
   refine (HSec.out _ HB.out).mono ?_
   rintro e u ⟨a,c,rfl,hown,hb⟩
   replace HB:=Lib.hid (after HB.out hb)
   clear hown hb c0 c1 c2' c3 c4 c5
   go_wp2_with fail
   refine (HBig.out u a c).mono ?_
   rintro e u2 ⟨r,rfl,hr,hb⟩
   replace HB:=Lib.hid (after HB.out hb)
   clear hb HSec HBig
   cases r
   ·have HF2:Hid (∀ m ∈ L.take (k+1),m.sc.name.length<=100):=Lib.hid (fun x hx=>by
     rcases HTk.out x hx with h | h
     ·exact HF.out x h
     ·rw [h];exact hr rfl)
    clear hr
    go_wp2
    go_roundw
    case rel=>exact ⟨k+1,_,rfl,by have:=HLT.out;omega,by go_num,HB,HF2⟩
    case measure=>have:=HLT.out;simp [intOf];omega
   ·clear hr
    go_wp2
    go_ret
    exact ⟨_,rfl,fun h=>(by cases h),HB.out⟩
  ·have hcs:(¬ (k:Int) < (un:Int))\/((k:Int) < (un:Int)/\¬ (un:Int)<=40):=by omega
   have HEd:Hid (un<=40->FewU un L):=Lib.hid (fun h=>⟨by omega,.inr ⟨h,by
    have hke:k=L.length:=by have:=HLL.out;omega
    have h2:=HF.out
    rw [hke,List.take_length] at h2
    exact h2⟩⟩)
   have HGr:Hid (256 < un->un<=300->FewU un L):=Lib.hid (fun h h3=>⟨h3,.inl h⟩)
   clear hlt hk HF
   rcases hcs with h1 | ⟨h1,h2⟩
   ·by_cases h3:(40:Int) < (un:Int) <;> by_cases h4:(un:Int)<=256 <;> by_cases h5:(300:Int) < (un:Int)
    all_goals
     have HH:Hid (((40:Int) < (un:Int)/\(un:Int)<=256)\/(300:Int) < (un:Int)\/FewU un L):=Lib.hid (by
      by_cases h:un<=40
      ·exact .inr (.inr (HEd.out h))
      ·by_cases h6:256 < un
       ·by_cases h7:un<=300
        ·exact .inr (.inr (HGr.out h6 h7))
        ·exact .inr (.inl (by omega))
       ·exact .inl (by omega))
     go_wp2
     go_ret
     refine ⟨_,rfl,fun h=>?_,HB.out⟩
     first
      | (cases h;done)
      | (rcases HH.out with q | q | q
         ·omega
         ·omega
         ·exact q)
   ·have h3:(40:Int) < (un:Int):=by omega
    by_cases h4:(un:Int)<=256 <;> by_cases h5:(300:Int) < (un:Int)
    all_goals
     have HH:Hid ((un:Int)<=256\/(300:Int) < (un:Int)\/FewU un L):=Lib.hid (by
      by_cases h6:256 < un
      ·by_cases h7:un<=300
       ·exact .inr (.inr (HGr.out h6 h7))
       ·exact .inr (.inl (by omega))
      ·exact .inl (by omega))
     go_wp2
     go_ret
     refine ⟨_,rfl,fun h=>?_,HB.out⟩
     first
      | (cases h;done)
      | (rcases HH.out with q | q | q
         ·omega
         ·omega
         ·exact q)
theorem rIsU_any (ua:Option Addr) (un uc:Nat) (L:List Ms) (w:World) (hun:un<=maxLen) (hs:SL msC 6 w w.heap.size ua un L) (hno:Notes w w.heap.size L) (hg:∀ m ∈ L,GoodSc m.sc) (hb:∀ m ∈ L,m.sc.rels.length*32<=reachBytes) (hf:FewU un L):
  Calls Tryz.prog 16 #[.slice ua un uc] w (RetB (.bool (unitsR (L.map (·.sc)))) w):=by
 have hni:(un:Int)<=9223372036854775807:=by unfold maxLen at hun;omega
 have HLL:=Lib.hid hs.len
 obtain ⟨R,hR⟩:∃ R,R=unitsR (L.map (·.sc)):=⟨_,rfl⟩
 rw [<-hR]
 have hRu:R=(decide (un<=256) && (L.map (·.sc)).all (unitOk un)):=by rw [hR];unfold unitsR;rw [List.length_map,<-hs.len]
 clear hR
 by_cases h256:256 < un
 ·have h2:¬ (un:Int)<=256:=by omega
  have HR:Hid (R=false):=Lib.hid (by rw [hRu,decide_eq_false (by omega)];rfl)
  have h0:(0:Int) < (un:Int):=by omega
  clear hs hno hg hb h256 hf hRu hun
  go_enter Tryz.func16,Tryz.ntmps16
  go_wp2
  refine wp_loop_rounds 1 ?_
  rw [rounds_succ]
  go_wp2
  go_ret
  exact retB_bool (by rw [HR.out,decide_eq_false (by omega)]) (Below.refl _ _)
 have hle:(un:Int)<=256:=by omega
 have HR:Hid (R=(L.map (·.sc)).all (unitOk un)):=Lib.hid (by rw [hRu,decide_eq_true (by omega)];rfl)
 have HNm:Hid (∀ m ∈ L,m.sc.name.length<=100):=Lib.hid (by
  rcases hf.2 with h | h
  ·omega
  ·exact h.2)
 have HS:=Lib.hid hs
 have HNo:=Lib.hid hno
 have HBd:=Lib.hid hb
 have HG:=Lib.hid hg
 have HUn:=Lib.hid hun
 clear hs hno hg hb h256 hf hRu hun
 go_enter Tryz.func16,Tryz.ntmps16
 go_wp2
 go_loopw [3] (fun i wr=>∃ (k:Nat) (wx:World),wx=wr/\k<=un/\i=.int .i64 k/\Hid (Below w.heap.size w wx)/\Hid (R=((L.drop k).map (·.sc)).all (unitOk un))) (fun i _=>un - (intOf i).toNat)
 case atStart=>exact ⟨0,_,rfl,by omega,rfl,Lib.hid (Below.refl _ _),Lib.hid (by rw [List.drop_zero];exact HR.out)⟩
 case round=>
  clear HR
  obtain ⟨k,wx,rfl,hk,rfl,HB,HA⟩:=hrel
  by_cases hlt:k < un
  ·have hlti:(k:Int) < (un:Int):=by omega
   have HLT:=Lib.hid hlt
   have hk1:k < L.length:=by have:=HLL.out;omega
   have hsx:=HS.out.next HB.out
   obtain ⟨b,off,hua,hBl,hc⟩:=hsx.cells (hsx.ne hlt)
   subst hua
   obtain ⟨c0,c1,c2',c3,c4,c5⟩:=ms_cells (fun j hj=>hc k hk1 j hj)
   have hmem:L[k] ∈ L:=List.getElem_mem _
   have HDr:Hid (R=(unitOk un (L[k]).sc && ((L.drop (k+1)).map (·.sc)).all (unitOk un))):=Lib.hid (by rw [HA.out,drop_cons hk1,List.map_cons,List.all_cons])
   have HCc:Hid (∀ v,Below w.heap.size w v->v.cell? ⟨b,off+k*6+5,none⟩=some (.slice (L[k]).ad (L[k]).sc.rels.length (L[k]).cap)):=Lib.hid (fun v hv=>by
    obtain ⟨b',off',he,-,hc'⟩:=(HS.out.next hv).cells ((HS.out.next hv).ne hlt)
    injection he with he
    injection he with e1 e2
    subst e1 e2
    exact (ms_cells (fun j hj=>hc' k hk1 j hj)).2.2.2.2.2)
   generalize L[k]'hk1=m at c0 c1 c2' c3 c4 c5 hmem HDr HCc
   obtain ⟨⟨nm,ki,kp,al,dt,rl⟩,ad,cp⟩:=m
   simp only at c0 c1 c2' c3 c4 c5 HDr HCc
   obtain ⟨nr,hnr⟩:∃ nr,nr=rl.length:=⟨_,rfl⟩
   have hrb:=HBd.out _ hmem
   have hgd:=HG.out _ hmem
   have hnm:=HNm.out _ hmem
   simp only at hrb hgd hnm
   have hno1:=HNo.out _ hmem
   simp only at hno1
   have HN1:=Lib.hid (fun u (hu:Below w.heap.size w u)=>hno1.next hu)
   have hnr9:(nr:Int)<=9223372036854775807:=by unfold reachBytes at hrb;omega
   have HSec:Hid (∀ u:World,Below w.heap.size w u->Calls Tryz.prog 42 #[.agg #[.string ⟨nm.toArray⟩,.int .i64 ki,.bool kp,.int .i64 al,.string ⟨dt.toArray⟩,.slice ad nr cp]] u (SecQ ⟨nm,ki,kp,al,dt,rl⟩ u)):=Lib.hid fun u hu=>by
    rw [hnr]
    exact rSec_any nm dt ki kp al rl ad cp u (hno1.next hu) hrb
   have HPi:Hid (∀ u a c,SL rlC 4 u u.heap.size a rl.length rl->Calls Tryz.prog 48 #[scV ⟨nm,ki,kp,al,dt,rl⟩ a rl.length c] u (RetB (.bool (secR ⟨nm,ki,kp,al,dt,rl⟩)) u)):=Lib.hid fun u a c h=>rpIs_any ⟨nm,ki,kp,al,dt,rl⟩ a rl.length c u h (by unfold reachBytes at hrb;unfold maxLen;omega) hgd (by show nm.length<=1000;omega)
   have HNr:=Lib.hid hnr
   rw [<-hnr] at c5
   generalize hq:secR ⟨nm,ki,kp,al,dt,rl⟩=Q at HPi
   have HQ:=Lib.hid hq
   clear hc hBl hk1 hlt hk hmem hrb hnr hgd hnm hsx hno1 hq
   go_wp2_with fail
   refine (HSec.out _ HB.out).mono ?_
   rintro e u ⟨a,c,rfl,hown,hb⟩
   replace HB:=Lib.hid (after HB.out hb)
   have HSl:Hid (SL rlC 4 u u.heap.size a rl.length rl):=Lib.hid (by
    obtain ⟨a',c',e,h',-⟩:=SL.ofOwns rl_len (by decide) hown
    injection e with e1 e2 e3
    subst e1
    exact h')
   clear hown hb c0 c1 c2' c3 c4 c5
   go_wp2_with fail
   refine (HPi.out u a c HSl.out).mono ?_
   rintro e u2 ⟨rfl,hb⟩
   replace HB:=Lib.hid (after HB.out hb)
   clear hb HSec HPi HSl
   cases Q
   ·have HE:Hid (R=false):=Lib.hid (by rw [HDr.out];unfold unitOk;rw [HQ.out];rfl)
    go_wp2
    go_ret
    exact retB_bool HE.out.symm HB.out
   have HD2:Hid (R=(rl.all (fun r=>decide (r.sym < (un:Int))) && ((L.drop (k+1)).map (·.sc)).all (unitOk un))):=Lib.hid (by rw [HDr.out];unfold unitOk;rw [HQ.out];rfl)
   have HSy:Hid (∀ r ∈ rl,0<=r.sym):=Lib.hid (fun r hr=>(sec_ok HQ.out).all r hr |>.s0)
   clear HDr HQ
   go_wp2_with fail
   go_loopw [4] (fun j wr=>∃ (q:Nat) (wy:World),wy=wr/\q<=nr/\j=.int .i64 q/\Hid (Below w.heap.size w wy)/\Hid (R=((rl.drop q).all (fun r=>decide (r.sym < (un:Int))) && ((L.drop (k+1)).map (·.sc)).all (unitOk un)))) (fun j _=>nr - (intOf j).toNat)
   case atStart=>exact ⟨0,_,rfl,by omega,rfl,HB,Lib.hid (by rw [List.drop_zero];exact HD2.out)⟩
   case round=>
    clear HB HD2
    obtain ⟨q,wy,rfl,hq,rfl,HB,HD2⟩:=hrel
    have c5:wy.cell? ⟨b,off+k*6+5,none⟩=some (.slice ad nr cp):=by rw [HNr.out];exact HCc.out wy HB.out
    by_cases hltq:q < nr
    ·have hltqi:(q:Int) < (nr:Int):=by omega
     have HLTq:=Lib.hid hltq
     have hq1:q < rl.length:=by rw [<-HNr.out];exact hltq
     obtain ⟨b1,o1,hae,-,hc1⟩:=(HN1.out wy HB.out).cells ((HN1.out wy HB.out).ne hq1)
     subst hae
     obtain ⟨d0,d1,d2,d3⟩:=rl_cells (fun i hi=>hc1 q hq1 i hi)
     have HDq:Hid (R=((decide ((rl[q]).sym < (un:Int)) && (rl.drop (q+1)).all (fun r=>decide (r.sym < (un:Int)))) && ((L.drop (k+1)).map (·.sc)).all (unitOk un))):=Lib.hid (by rw [HD2.out,drop_cons hq1,List.all_cons])
     have hs0:=HSy.out _ (List.getElem_mem hq1)
     generalize rl[q]'hq1=r at d0 d1 d2 d3 HDq hs0
     obtain ⟨sy,hsy⟩:∃ a:Nat,r.sym=(a:Int):=⟨r.sym.toNat,by omega⟩
     rw [hsy] at d2 HDq
     clear hc1 hq hltq hq1 hs0 hsy d0 d1 d3
     by_cases hst:sy < un
     ·have h1:(sy:Int) < (un:Int):=by omega
      have HE:Hid (R=((rl.drop (q+1)).all (fun r=>decide (r.sym < (un:Int))) && ((L.drop (k+1)).map (·.sc)).all (unitOk un))):=Lib.hid (by rw [HDq.out,decide_eq_true (by omega)];rfl)
      clear hst
      go_wp2
      go_roundw
      case rel=>exact ⟨q+1,_,rfl,by have:=HLTq.out;omega,by go_num,HB,HE⟩
      case measure=>have:=HLTq.out;simp [intOf];omega
     ·have h1:¬ (sy:Int) < (un:Int):=by omega
      have HE:Hid (R=false):=Lib.hid (by rw [HDq.out,decide_eq_false (by omega)];rfl)
      clear hst
      go_wp2
      go_ret
      exact retB_bool HE.out.symm HB.out
    ·have hnlt:¬ (q:Int) < (nr:Int):=by omega
     have HE:Hid (R=((L.drop (k+1)).map (·.sc)).all (unitOk un)):=Lib.hid (by rw [HD2.out,List.drop_eq_nil_of_le (by rw [<-HNr.out];omega)];rfl)
     clear hq hltq
     go_wp2
     go_roundw
     case rel=>exact ⟨k+1,_,rfl,by have:=HLT.out;omega,by go_num,HB,HE⟩
     case measure=>have:=HLT.out;simp [intOf];omega
  ·have hnlt:¬ (k:Int) < (un:Int):=by omega
   have HE:Hid (R=true):=Lib.hid (by rw [HA.out,List.drop_eq_nil_of_le (by rw [<-HLL.out];omega)];rfl)
   clear hk hlt
   go_wp2
   go_ret
   exact retB_bool HE.out.symm HB.out
end Go.Proofs.YtbabckomagkjbaaGreatDoor
namespace Go.Proofs.YtbabckomagkjbaaGreatDoor
open Go.ChangeShapes Go.WideShapes Go.Deep Go.RowKit
theorem rlsL_yes (a a':Option Addr) (n c c':Nat) (l l':List Rl) (w:World) (hn:n<=4398046511104) (h:SL rlC 4 w w.heap.size a n l) (h':SL rlC 4 w w.heap.size a' n l'):
  Calls Tryz.prog 75 #[.slice a n c,.slice a' n c'] w (fun e w'=>∃ r:Bool,e=.returned (.bool r)/\(r=true ↔ l=l')/\Below w.heap.size w w'):=by
 have hl:=Lib.hid h.len
 have hl':=Lib.hid h'.len
 go_enter Tryz.func75,Tryz.ntmps75
 go_wp2
 go_loopw [5] (fun i wr=>∃ k:Nat,k<=n/\i=.int .i64 k/\l.take k=l'.take k/\Below w.heap.size w wr) (fun i _=>n - (intOf i).toNat)
 case atStart=>exact ⟨0,by omega,rfl,rfl,Below.refl _ _⟩
 case round=>
  obtain ⟨k,hk,rfl,htk,hb⟩:=hrel
  have HT:=Lib.hid htk
  clear htk
  by_cases hlt:k < n
  ·have hk1:k < l.length:=by have:=hl.out;omega
   have hk2:k < l'.length:=by have:=hl'.out;omega
   obtain ⟨b,off,rfl,hB,hc⟩:=(h.below hb).cells (h.ne hlt)
   obtain ⟨b',off',rfl,hB',hc'⟩:=(h'.below hb).cells (h'.ne hlt)
   obtain ⟨c0,c1,c2,c3⟩:=rl_cells (fun j hj=>hc k hk1 j hj)
   obtain ⟨d0,d1,d2,d3⟩:=rl_cells (fun j hj=>hc' k hk2 j hj)
   obtain ⟨x,hx⟩:∃ x,x=l[k]:=⟨_,rfl⟩
   obtain ⟨y,hy⟩:∃ y,y=l'[k]:=⟨_,rfl⟩
   rw [<-hx] at c0 c1 c2 c3
   rw [<-hy] at d0 d1 d2 d3
   have HX:=Lib.hid hx
   have HY:=Lib.hid hy
   have hnq:=neq_rl x y
   clear hc hc' h h' hx hy
   cases e:sameRl x y
   ·have HE:Hid (x ≠ y):=Lib.hid (fun hh=>by rw [sameRl_iff.2 hh] at e;cases e)
    rw [e] at hnq
    clear e
    go_wp2
    go_quiet (fail)
    go_wp2
    go_ret
    refine ⟨false,rfl,?_,below_drewN hb _⟩
    constructor
    ·intro h;cases h
    ·intro hh
     subst hh
     exact (HE.out (HX.out.trans HY.out.symm)).elim
   ·have HE:Hid (x=y):=Lib.hid (sameRl_iff.1 e)
    rw [e] at hnq
    clear e
    go_wp2
    go_quiet (fail)
    go_wp2
    go_roundw
    case rel=>
     refine ⟨k+1,by omega,by go_num,?_,below_drewN hb _⟩
     rw [List.take_succ_eq_append_getElem hk1,List.take_succ_eq_append_getElem hk2,HT.out,<-HX.out,<-HY.out,HE.out]
    case measure=>simp [intOf];omega
  ·go_wp2
   go_ret
   refine ⟨true,rfl,⟨fun _=>?_,fun _=>rfl⟩,hb⟩
   have:=HT.out
   rwa [List.take_of_length_le (by have:=hl.out;omega),List.take_of_length_le (by have:=hl'.out;omega)] at this
theorem rSameL_is (N B:ByteArray) (k:Int) (kp:Bool) (al:Int) (a a':Option Addr) (n c c':Nat) (l:List Rl) (w:World) (hn:n<=4398046511104) (hs:SL rlC 4 w w.heap.size a n l) (hs':SL rlC 4 w w.heap.size a' n l):Calls Tryz.prog 49 #[.agg #[.string N,.int .i64 k,.bool kp,.int .i64 al,.string B,.slice a n c],.agg #[.string N,.int .i64 k,.bool kp,.int .i64 al,.string B,.slice a' n c']] w (RetB (.bool true) w):=by
 have HC:Hid (∀ u,Below w.heap.size w u->Calls Tryz.prog 75 #[.slice a n c,.slice a' n c'] u (RetB (.bool true) u)):=Lib.hid (fun u hu=>(rlsL_yes a a' n c c' l l u hn (hs.next hu) (hs'.next hu)).mono (fun e w' ⟨r,he,hr,hb⟩=>⟨by rw [he,hr.2 rfl],hb⟩))
 have HW:=Lib.hid (two_rb (w:=w) (A:=#[.string N,.int .i64 k,.bool kp,.int .i64 al,.string B,.slice a n c]) (B:=#[.string N,.int .i64 k,.bool kp,.int .i64 al,.string B,.slice a' n c']) (T:=66) (U:=66))
 obtain ⟨X,hX⟩:∃ X,X=w.heap.size:=⟨_,rfl⟩
 rw [<-hX] at HW
 have HXE:=Lib.hid hX
 clear hs hs' hn
 go_enter Tryz.func49,Tryz.ntmps49
 go_wp2_with fail
 rw [<-hX]
 clear hX
 generalize (w.alloc (.cells #[.string N,.int .i64 k,.bool kp,.int .i64 al,.string B,.slice a n c] 66)).alloc (.cells #[.string N,.int .i64 k,.bool kp,.int .i64 al,.string B,.slice a' n c'] 66)=W at HW ⊢
 have HB4:Hid (Below w.heap.size w W):=Lib.hid (by have:=HW.out.2.2;rw [HXE.out] at this;exact this)
 have x0:W.cell? ⟨X,0,none⟩=some (.string N):=HW.out.1.cell
 have y0:W.cell? ⟨X+1,0,none⟩=some (.string N):=HW.out.2.1.cell
 have x1:W.cell? ⟨X,1,none⟩=some (.int .i64 k):=HW.out.1.cell
 have y1:W.cell? ⟨X+1,1,none⟩=some (.int .i64 k):=HW.out.2.1.cell
 have x2:W.cell? ⟨X,2,none⟩=some (.bool kp):=HW.out.1.cell
 have y2:W.cell? ⟨X+1,2,none⟩=some (.bool kp):=HW.out.2.1.cell
 have x3:W.cell? ⟨X,3,none⟩=some (.int .i64 al):=HW.out.1.cell
 have y3:W.cell? ⟨X+1,3,none⟩=some (.int .i64 al):=HW.out.2.1.cell
 have x4:W.cell? ⟨X,4,none⟩=some (.string B):=HW.out.1.cell
 have y4:W.cell? ⟨X+1,4,none⟩=some (.string B):=HW.out.2.1.cell
 have x5:W.cell? ⟨X,5,none⟩=some (.slice a n c):=HW.out.1.cell
 have y5:W.cell? ⟨X+1,5,none⟩=some (.slice a' n c'):=HW.out.2.1.cell
 go_wp2_with fail
 refine (HC.out _ HB4.out).mono ?_
 rintro e u ⟨rfl,hb⟩
 have HB5:=Lib.hid (after HB4.out hb)
 clear hb x0 x1 x2 x3 x4 x5 y0 y1 y2 y3 y4 y5
 go_wp2
 go_ret
 exact retB_bool rfl HB5.out
theorem rSameU_is (ua va:Option Addr) (un uc vc:Nat) (L M:List Ms) (w:World) (hun:un<=maxLen) (hs:SL msC 6 w w.heap.size ua un L) (hno:Notes w w.heap.size L) (hs':SL msC 6 w w.heap.size va un M) (hno':Notes w w.heap.size M) (hb:∀ m ∈ L,m.sc.rels.length*32<=reachBytes) (he:M.map (·.sc)=L.map (·.sc)):
  Calls Tryz.prog 19 #[.slice ua un uc,.slice va un vc] w (RetB (.bool true) w):=by
 have hni:(un:Int)<=9223372036854775807:=by unfold maxLen at hun;omega
 have t0:((un:Int) != (un:Int))=false:=by simp
 have HS:=Lib.hid (fun u (hu:Below w.heap.size w u)=>hs.next hu)
 have HNo:=Lib.hid (fun u (hu:Below w.heap.size w u)=>hno.next hu)
 have HS':=Lib.hid (fun u (hu:Below w.heap.size w u)=>hs'.next hu)
 have HNo':=Lib.hid (fun u (hu:Below w.heap.size w u)=>hno'.next hu)
 have HLL:=Lib.hid hs.len
 have HML:=Lib.hid hs'.len
 have HBd:=Lib.hid hb
 have HE:=Lib.hid he
 have HB0:Hid (Below w.heap.size w w):=Lib.hid (Below.refl _ w)
 clear hs hno hs' hno' hb he hun
 go_enter Tryz.func19,Tryz.ntmps19
 go_wp2_with fail
 go_loopw [5] (fun i wr=>∃ (k:Nat) (wx:World),wx=wr/\k<=un/\i=.int .i64 k/\Hid (Below w.heap.size w wx)) (fun i _=>un - (intOf i).toNat)
 case atStart=>exact ⟨0,_,rfl,by omega,rfl,HB0⟩
 case round=>
  clear HB0
  obtain ⟨k,wx,rfl,hk,rfl,HB⟩:=hrel
  by_cases hlt:k < un
  ·have hlti:(k:Int) < (un:Int):=by omega
   have HLT:=Lib.hid hlt
   have hk1:k < L.length:=by have:=HLL.out;omega
   have hk2:k < M.length:=by have:=HML.out;omega
   obtain ⟨b1,o1,hua,hBl1,hc⟩:=(HS.out _ HB.out).cells ((HS.out _ HB.out).ne hlt)
   subst hua
   obtain ⟨b2,o2,hva,hBl2,hc'⟩:=(HS'.out _ HB.out).cells ((HS'.out _ HB.out).ne hlt)
   subst hva
   obtain ⟨c0,c1,c2,c3,c4,c5⟩:=ms_cells (fun j hj=>hc k hk1 j hj)
   obtain ⟨d0,d1,d2,d3,d4,d5⟩:=ms_cells (fun j hj=>hc' k hk2 j hj)
   have hsc:(M[k]).sc=(L[k]).sc:=by
    have:=congrArg (fun l=>l[k]?) HE.out
    simp only [List.getElem?_map,List.getElem?_eq_getElem hk1,List.getElem?_eq_getElem hk2,Option.map_some,Option.some.injEq] at this
    exact this
   have hm1:L[k] ∈ L:=List.getElem_mem _
   have hm2:M[k] ∈ M:=List.getElem_mem _
   generalize L[k]'hk1=m at c0 c1 c2 c3 c4 c5 hm1 hsc
   generalize M[k]'hk2=m' at d0 d1 d2 d3 d4 d5 hm2 hsc
   have hrb:=HBd.out _ hm1
   have hn1:=HNo.out _ HB.out _ hm1
   have hn2:=HNo'.out _ HB.out _ hm2
   obtain ⟨⟨nm,ki,kp,al,dt,rl⟩,ad1,cp1⟩:=m
   obtain ⟨sc2,ad2,cp2⟩:=m'
   simp only at hsc
   subst hsc
   simp only at c0 c1 c2 c3 c4 c5 d0 d1 d2 d3 d4 d5 hrb hn1 hn2
   obtain ⟨nr,hnr⟩:∃ nr,nr=rl.length:=⟨_,rfl⟩
   rw [<-hnr] at c5 d5
   obtain ⟨v0,hv0⟩:∃ x,x=wx.drew:=⟨_,rfl⟩
   have hbd:Below wx.heap.size wx v0:=by rw [hv0];exact (Below.refl _ _).drew
   have HcX:Hid (∀ v,Below v0.heap.size v0 v->v.cell? ⟨b1,o1+k*6,none⟩=some (.string ⟨nm.toArray⟩)/\v.cell? ⟨b1,o1+k*6+1,none⟩=some (.int .i64 ki)/\v.cell? ⟨b1,o1+k*6+2,none⟩=some (.bool kp)/\v.cell? ⟨b1,o1+k*6+3,none⟩=some (.int .i64 al)/\v.cell? ⟨b1,o1+k*6+4,none⟩=some (.string ⟨dt.toArray⟩)/\v.cell? ⟨b1,o1+k*6+5,none⟩=some (.slice ad1 nr cp1)/\v.cell? ⟨b2,o2+k*6,none⟩=some (.string ⟨nm.toArray⟩)/\v.cell? ⟨b2,o2+k*6+1,none⟩=some (.int .i64 ki)/\v.cell? ⟨b2,o2+k*6+2,none⟩=some (.bool kp)/\v.cell? ⟨b2,o2+k*6+3,none⟩=some (.int .i64 al)/\v.cell? ⟨b2,o2+k*6+4,none⟩=some (.string ⟨dt.toArray⟩)/\v.cell? ⟨b2,o2+k*6+5,none⟩=some (.slice ad2 nr cp2)):=Lib.hid (fun v hv=>by
    have h:=after hbd hv
    exact ⟨(h.cell (p:=⟨b1,o1+k*6,none⟩) hBl1).trans c0,(h.cell (p:=⟨b1,o1+k*6+1,none⟩) hBl1).trans c1,(h.cell (p:=⟨b1,o1+k*6+2,none⟩) hBl1).trans c2,(h.cell (p:=⟨b1,o1+k*6+3,none⟩) hBl1).trans c3,(h.cell (p:=⟨b1,o1+k*6+4,none⟩) hBl1).trans c4,(h.cell (p:=⟨b1,o1+k*6+5,none⟩) hBl1).trans c5,(h.cell (p:=⟨b2,o2+k*6,none⟩) hBl2).trans d0,(h.cell (p:=⟨b2,o2+k*6+1,none⟩) hBl2).trans d1,(h.cell (p:=⟨b2,o2+k*6+2,none⟩) hBl2).trans d2,(h.cell (p:=⟨b2,o2+k*6+3,none⟩) hBl2).trans d3,(h.cell (p:=⟨b2,o2+k*6+4,none⟩) hBl2).trans d4,(h.cell (p:=⟨b2,o2+k*6+5,none⟩) hBl2).trans d5⟩)
   have HS1:Hid (∀ v,Below v0.heap.size v0 v->Calls Tryz.prog 42 #[.agg #[.string ⟨nm.toArray⟩,.int .i64 ki,.bool kp,.int .i64 al,.string ⟨dt.toArray⟩,.slice ad1 nr cp1]] v (SecQ ⟨nm,ki,kp,al,dt,rl⟩ v)):=Lib.hid (fun v hv=>by rw [hnr];exact rSec_any nm dt ki kp al rl ad1 cp1 v (hn1.next (after hbd hv)) hrb)
   have HS2:Hid (∀ v,Below v0.heap.size v0 v->Calls Tryz.prog 42 #[.agg #[.string ⟨nm.toArray⟩,.int .i64 ki,.bool kp,.int .i64 al,.string ⟨dt.toArray⟩,.slice ad2 nr cp2]] v (SecQ ⟨nm,ki,kp,al,dt,rl⟩ v)):=Lib.hid (fun v hv=>by rw [hnr];exact rSec_any nm dt ki kp al rl ad2 cp2 v (hn2.next (after hbd hv)) hrb)
   have HSame:Hid (∀ (v1 v2:World) (a1:Option Addr) (c1:Nat) (a2:Option Addr) (c2:Nat),v1.ownsRow v0.heap.size 91 4 (.slice a1 rl.length c1) rl.length (rl.flatMap rlC)->v2.ownsRow v1.heap.size 91 4 (.slice a2 rl.length c2) rl.length (rl.flatMap rlC)->Below v1.heap.size v1 v2->Calls Tryz.prog 49 #[scV ⟨nm,ki,kp,al,dt,rl⟩ a1 rl.length c1,scV ⟨nm,ki,kp,al,dt,rl⟩ a2 rl.length c2] v2 (RetB (.bool true) v2)):=Lib.hid (fun v1 v2 a1 c1 a2 c2 h1 h2 hb=>by
    refine rSameL_is ⟨nm.toArray⟩ ⟨dt.toArray⟩ ki kp al a1 a2 rl.length c1 c2 rl v2 (by unfold reachBytes at hrb;omega) ?_ ?_
    ·obtain ⟨a',c',e,h',-⟩:=SL.ofOwns rl_len (by decide) h1
     injection e with e1 e2 e3
     subst e1
     exact h'.next hb
    ·obtain ⟨a',c',e,h',-⟩:=SL.ofOwns rl_len (by decide) h2
     injection e with e1 e2 e3
     subst e1
     exact h')
   have HV0:Hid (wx.drew=v0):=Lib.hid hv0.symm
   have HBd0:=Lib.hid hbd
   clear hc hc' hk1 hk2 hm1 hm2 hrb hn1 hn2 hnr hv0 hbd hlt hk hBl1 hBl2
   go_wp2_with fail
   clear c0 c1 c2 c3 c4 c5 d0 d1 d2 d3 d4 d5
   refine wp_region_held_drew (S:=fun v=>v.cell? ⟨b1,o1+k*6,none⟩=some (.string ⟨nm.toArray⟩)/\v.cell? ⟨b1,o1+k*6+1,none⟩=some (.int .i64 ki)/\v.cell? ⟨b1,o1+k*6+2,none⟩=some (.bool kp)/\v.cell? ⟨b1,o1+k*6+3,none⟩=some (.int .i64 al)/\v.cell? ⟨b1,o1+k*6+4,none⟩=some (.string ⟨dt.toArray⟩)/\v.cell? ⟨b1,o1+k*6+5,none⟩=some (.slice ad1 nr cp1)/\v.cell? ⟨b2,o2+k*6,none⟩=some (.string ⟨nm.toArray⟩)/\v.cell? ⟨b2,o2+k*6+1,none⟩=some (.int .i64 ki)/\v.cell? ⟨b2,o2+k*6+2,none⟩=some (.bool kp)/\v.cell? ⟨b2,o2+k*6+3,none⟩=some (.int .i64 al)/\v.cell? ⟨b2,o2+k*6+4,none⟩=some (.string ⟨dt.toArray⟩)/\v.cell? ⟨b2,o2+k*6+5,none⟩=some (.slice ad2 nr cp2)) (by kernel_rfl) (by rw [HV0.out];exact HcX.out _ (Below.refl _ _)) (fun hHeld=>?_)
   rw [HV0.out]
   have hHeld0:=HcX.out _ (Below.refl _ _)
   clear hHeld
   refine tk 0 ?_ rfl hHeld0 ?_ ?_
   rotate_left 1
   ·intro w hS;obtain ⟨_,_,_,_,_,_,_,_,_,_,_,_⟩:=hS;go_simp;(try with_reducible rfl)
   (try simp only [Act.put,List.setIfInBounds_toArray,List.set_cons_zero,List.set_cons_succ])
   refine tk 1 ?_ rfl hHeld0 ?_ ?_
   rotate_left 1
   ·intro w hS;obtain ⟨_,_,_,_,_,_,_,_,_,_,_,_⟩:=hS;go_simp;(try with_reducible rfl)
   (try simp only [Act.put,List.setIfInBounds_toArray,List.set_cons_zero,List.set_cons_succ])
   refine tk 2 ?_ rfl hHeld0 ?_ ?_
   rotate_left 1
   ·intro w hS;obtain ⟨_,_,_,_,_,_,_,_,_,_,_,_⟩:=hS;go_simp;(try with_reducible rfl)
   (try simp only [Act.put,List.setIfInBounds_toArray,List.set_cons_zero,List.set_cons_succ])
   refine tk 3 ?_ rfl hHeld0 ?_ ?_
   rotate_left 1
   ·intro w hS;obtain ⟨_,_,_,_,_,_,_,_,_,_,_,_⟩:=hS;go_simp;(try with_reducible rfl)
   (try simp only [Act.put,List.setIfInBounds_toArray,List.set_cons_zero,List.set_cons_succ])
   refine tk 5 ?_ rfl hHeld0 ?_ ?_
   rotate_left 1
   ·intro w hS;obtain ⟨_,_,_,_,_,_,_,_,_,_,_,_⟩:=hS;go_simp;(try with_reducible rfl)
   (try simp only [Act.put,List.setIfInBounds_toArray,List.set_cons_zero,List.set_cons_succ])
   refine tk 6 ?_ rfl hHeld0 ?_ ?_
   rotate_left 1
   ·intro w hS;obtain ⟨_,_,_,_,_,_,_,_,_,_,_,_⟩:=hS;go_simp;(try with_reducible rfl)
   (try simp only [Act.put,List.setIfInBounds_toArray,List.set_cons_zero,List.set_cons_succ])
   refine tk 7 ?_ rfl hHeld0 ?_ ?_
   rotate_left 1
   ·intro w hS;obtain ⟨_,_,_,_,_,_,_,_,_,_,_,_⟩:=hS;go_simp;(try with_reducible rfl)
   (try simp only [Act.put,List.setIfInBounds_toArray,List.set_cons_zero,List.set_cons_succ])
   refine tk 8 ?_ rfl hHeld0 ?_ ?_
   rotate_left 1
   ·intro w hS;obtain ⟨_,_,_,_,_,_,_,_,_,_,_,_⟩:=hS;go_simp;(try with_reducible rfl)
   (try simp only [Act.put,List.setIfInBounds_toArray,List.set_cons_zero,List.set_cons_succ])
   refine rd 4 rfl (fun K hK=>?_)
   go_simp
   go_wp2_with (go_at_call 42;refine (HS1.out _ (Below.refl _ _)).mono ?_;rintro e v1 ⟨a1,c1,rfl,ho1,hb1⟩)
   have HO1:=Lib.hid ho1
   have HB1:=Lib.hid hb1
   clear ho1 hb1
   refine hK.out _ _ (HcX.out _ HB1.out) (fun hHeld1=>?_)
   clear hK K
   refine rd 9 rfl (fun K hK=>?_)
   go_simp
   go_wp2_with (go_at_call 42;refine (HS2.out _ HB1.out).mono ?_;rintro e v2 ⟨a2,c2,rfl,ho2,hb2⟩)
   have HO2:=Lib.hid ho2
   have HB2:=Lib.hid hb2
   clear ho2 hb2
   have HSm:=Lib.hid (HSame.out v1 v2 a1 c1 a2 c2 HO1.out HO2.out HB2.out)
   refine hK.out _ _ (HcX.out _ (after HB1.out HB2.out)) (fun hHeld2=>?_)
   clear hK K
   refine rd 10 rfl (fun K hK=>?_)
   go_simp
   go_wp2_with (go_at_call 49;refine (HSm.out).mono ?_;rintro e v3 ⟨rfl,hb3⟩)
   have HB3:=Lib.hid hb3
   clear hb3
   refine hK.out _ _ (HcX.out _ (after (after HB1.out HB2.out) HB3.out)) (fun hHeld3=>?_)
   clear hK K
   refine rd 11 rfl (fun K hK=>?_)
   go_simp
   refine hK.out _ _ (hHeld3) (fun hHeld4=>?_)
   clear hK K
   refine wpAnyH_done (by kernel_rfl) ?_ _
   have HBn:=Lib.hid (after HB.out (after HBd0.out (after (after HB1.out HB2.out) HB3.out)))
   clear hHeld0 hHeld1 hHeld2 hHeld3 hHeld4
   go_wp2
   go_roundw
   case rel=>exact ⟨k+1,_,rfl,by have:=HLT.out;omega,by go_num,HBn⟩
   case measure=>have:=HLT.out;simp [intOf];omega
  ·have hnlt:¬ (k:Int) < (un:Int):=by omega
   clear hk hlt
   go_wp2
   go_ret
   exact ⟨rfl,HB.out⟩
end Go.Proofs.YtbabckomagkjbaaGreatDoor
namespace Go.Proofs.YtbabckomagkjbaaGreatDoor
open Go.ChangeShapes Go.WideShapes Go.Deep Go.RowKit
theorem owns_go {w w':World} {base:Nat} {e:TypeId} {size:Nat} {v:Value} {n:Nat} {xs:List Value} (h:w.ownsRow base e size v n xs) (hb:Below w.heap.size w w'):w'.ownsRow base e size v n xs:=by
 refine ⟨h.1,?_⟩
 rcases h.2 with hn | ⟨g,cap,cur,rfl,hbg,hgg,rest⟩
 ·exact .inl hn
 ·exact .inr ⟨g,cap,cur,rfl,hbg,(hb.block g (lt_of_block hgg)).trans hgg,rest⟩
theorem info_unit:(Tryz.prog.info? 43).map (fun i=>(i.zero,i.size,i.bytes))=some (some (.agg #[.string ⟨#[]⟩,.int .i64 0,.bool false,.int .i64 0,.string ⟨#[]⟩,.slice none 0 0]),6,80):=by kernel_rfl
theorem ms_one (m:Ms):∀ u ∈ msC m,u.oneCell'=true:=by
 intro u hu
 simp only [msC,List.mem_cons,List.not_mem_nil,or_false] at hu
 rcases hu with rfl | rfl | rfl | rfl | rfl | rfl <;> rfl
theorem own_apart {u:World} {B B' e e' sz sz' n n':Nat} {v v':Value} {xs xs':List Value} (h:u.ownsRow B e sz v n xs) (h':u.ownsRow B' e' sz' v' n' xs') (he:e ≠ e'):v.ownBlock=none\/v.ownBlock ≠ v'.ownBlock:=by
 rcases h.2 with ⟨hv,-⟩ | ⟨g,cap,cur,hv,hb,hg,-⟩
 ·subst hv;exact .inl rfl
 ·right
  rcases h'.2 with ⟨hv',-⟩ | ⟨g',cap',cur',hv',hb',hg',-⟩
  ·subst hv;subst hv';intro e;cases e
  ·subst hv;subst hv'
   intro e
   simp only [Value.ownBlock,Option.some.injEq] at e
   subst e
   rw [hg] at hg'
   simp only [Option.some.injEq,Obj.cells.injEq] at hg'
   exact he hg'.2.1
theorem owns_same {w w':World} {base:Nat} {e:TypeId} {size:Nat} {v:Value} {n:Nat} {xs:List Value} (h:w.ownsRow base e size v n xs) (hk:∀ g,v.ownBlock=some g->w'.heap[g]?=w.heap[g]?):w'.ownsRow base e size v n xs:=by
 refine ⟨h.1,?_⟩
 rcases h.2 with hn | ⟨g,cap,cur,rfl,hbg,hgg,rest⟩
 ·exact .inl hn
 ·exact .inr ⟨g,cap,cur,rfl,hbg,(hk g rfl).trans hgg,rest⟩
abbrev OwnR (u:World) (B:Nat) (m:Ms):Prop:=u.ownsRow B 61 4 (.slice m.ad m.sc.rels.length m.cap) m.sc.rels.length (m.sc.rels.flatMap rlC)
structure VI (w u:World) (Lv:List Ms) (a:Option Addr) (c:Nat):Prop where
 oo:u.ownsRow w.heap.size 43 6 (.slice a Lv.length c) Lv.length (Lv.flatMap msC)
 nn:∀ m ∈ Lv,OwnR u w.heap.size m
 kk:Below w.heap.size w u
theorem VI.next {w u v:World} {L:List Ms} {a:Option Addr} {c:Nat} (h:VI w u L a c) (hb:Below u.heap.size u v):VI w v L a c:=⟨owns_go h.oo hb,fun m hm=>owns_go (h.nn m hm) hb,after h.kk hb⟩
theorem VI.sl {w u:World} {L:List Ms} {a:Option Addr} {c:Nat} (h:VI w u L a c):SL msC 6 u u.heap.size a L.length L:=by
 obtain ⟨a',c',e,h',-⟩:=SL.ofOwns ms_len (by decide) h.oo
 injection e with e1 e2 e3
 subst e1
 exact h'
theorem VI.notes {w u:World} {L:List Ms} {a:Option Addr} {c:Nat} (h:VI w u L a c):Notes u u.heap.size L:=fun m hm=>by
 obtain ⟨a',c',e,h',-⟩:=SL.ofOwns rl_len (by decide) (h.nn m hm)
 injection e with e1 e2 e3
 subst e1
 exact h'
theorem VI.grow {w u w2:World} {L:List Ms} {a a':Option Addr} {c c':Nat} {m:Ms} (h:VI w u L a c) (hm:OwnR u w.heap.size m) (hown:w2.ownsRow w.heap.size 43 6 (.slice a' (L.length+1) c') (L.length+1) (L.flatMap msC ++ msC m))
  (hgrow:(u.alloc (.cells (msC m).toArray 43)).grownBy w2 (Value.slice a L.length c).ownBlock):VI w w2 (L ++ [m]) a' c':=by
 have key:∀ x,OwnR u w.heap.size x->OwnR w2 w.heap.size x:=by
  intro x hx
  refine owns_same (hx.alloc (.cells (msC m).toArray 43)) (fun g hg=>?_)
  have hl:=hx.lt g hg
  refine hgrow.block g (by rw [World.size_alloc];omega) (fun e=>?_)
  rcases own_apart hx h.oo (by decide) with h1 | h1
  ·rw [h1] at hg;cases hg
  ·rw [<-e] at h1;exact h1 hg
 refine ⟨by simpa [List.flatMap_append] using hown,fun x hx=>?_,?_⟩
 ·rcases List.mem_append.1 hx with hx | hx
  ·exact key x (h.nn x hx)
  ·rw [List.mem_singleton.1 hx];exact key m hm
 ·exact (h.kk.alloc h.kk.size _).grown hgrow (by have:=h.kk.size;rw [World.size_alloc];omega) (fun j hj=>(h.oo.lt j hj).1)
theorem VI.nil (w:World):VI w w [] none 0:=⟨World.ownsRow_nil _ _ _ _,(fun m hm=>by cases hm),Below.refl _ _⟩
theorem rl_ones2 (l:List Rl):∀ u ∈ l.flatMap rlC,u.oneCell'=true:=by
 intro u hu
 obtain ⟨r,-,h⟩:=List.mem_flatMap.1 hu
 exact rl_one r u h
theorem app_refs {w:World} {B m c:Nat} {ys:List Rl} {a:Option Addr} (hs:SL rlC 4 w w.heap.size a m ys) (hz:a=none->m=0/\c=0) (hm:m*32<=reachBytes) (hB:B<=w.heap.size) (ty:TypeId):
  ∃ a' c' w',(Builtin.append_ #[41,41] ty #[.slice none 0 0,.slice a m c]).run Tryz.prog w=.ok (.slice a' m c') w'/\w'.ownsRow B 61 4 (.slice a' m c') m (ys.flatMap rlC)/\Below B w w':=by
 obtain ⟨i0,hi,hi0,hi1,hi2⟩:=info_parts info_ref
 have hfl:(ys.flatMap rlC).length=m*4:=by rw [flat_len rl_len,hs.len]
 have hown:=World.ownsRow_nil w B 61 4
 cases a with
 | none=>
  obtain ⟨rfl,rfl⟩:=hz rfl
  have hy:ys=[]:=by have:=hs.len;cases ys with | nil=>rfl | cons=>simp at this
  subst hy
  exact ⟨none,0,w,run_append_owned_none w B 41 ty 61 i0 4 Tryz.underlying41 hi _ 0 _ hown,by simpa using hown,Below.refl _ _⟩
 | some ad=>
  obtain ⟨v',w',hr,ho,hgr,-⟩:=run_append_own (P:=Tryz.prog) w B 41 ty 61 i0 _ 4 32 Tryz.underlying41 hi hi0 hi1 hi2 rfl (by decide) _ 0 _ hown ad m c (ys.flatMap rlC) hfl (hs.news rl_len (by decide)) (rl_ones2 ys) (by unfold reachBytes at hm;unfold maxLen;omega) (by unfold reachBytes at hm;omega) hB
  rw [Nat.zero_add,List.nil_append] at ho
  obtain ⟨a',c',rfl⟩:∃ a' c',v'=.slice a' m c':=by
   rcases ho.2 with ⟨h,h0⟩ | ⟨g,cap,cur,h,-⟩
   ·exact ⟨none,0,by rw [h,h0]⟩
   ·exact ⟨_,_,h⟩
  exact ⟨a',c',w',hr,ho,(Below.refl _ _).grown hgr hB (fun k hk=>by simp [Value.ownBlock] at hk)⟩
theorem open_Units2 {H:Type} {encH:TypeId × Value->H} {W:World} {base:Nat} {v:Value} {d:DataW H} {p:List MemPlace}
  (hv:Value.okWide Tryz.prog W .any base 22 v) (h:DataW.Trod encH Tryz.prog W 0 (fun _=>true) true 22 v d p) (hB:∀ z ∈ d.weights Tryz.prog 22,z<=reachBytes):
  ∃ (a:Option Addr) (n c:Nat) (L:List Ms),v=.slice a n c/\n<=maxLen/\SL msC 6 W W.heap.size a n L/\Notes W W.heap.size L/\(∀ m ∈ L,GoodSc m.sc)/\(∀ m ∈ L,m.sc.rels.length*32<=reachBytes)/\(∀ m ∈ L,m.ad=none->m.sc.rels.length=0/\m.cap=0):=by
 obtain ⟨a0,len0,cap0,rfl⟩:=okWide_slice Tryz.underlying22 hv
 obtain ⟨fuel,hf⟩:=h
 simp only [Value.cells] at hf
 obtain ⟨a,n,c,L,hveq,h2,h3,h4,h5,h6,-⟩:=open_SL4 (sz:=6) (enc:=msC) (fun m:Ms=>((GoodSc m.sc/\m.sc.rels.length*32<=reachBytes)/\(m.ad=none->m.sc.rels.length=0/\m.cap=0))/\SL rlC 4 W W.heap.size m.ad m.sc.rels.length m.sc.rels) ⟨scZ,none,0⟩ Tryz.underlying22 Tryz.underlying43 (by kernel_rfl) (by kernel_rfl) rfl (by decide) ms_len (by
  intro cell m hc
  obtain ⟨u0,z0,g0,s0,b0⟩:=hc 0 _ rfl
  obtain ⟨u1,z1,g1,s1,b1⟩:=hc 1 _ rfl
  obtain ⟨u2,z2,g2,s2,b2⟩:=hc 2 _ rfl
  obtain ⟨u3,z3,g3,s3,b3⟩:=hc 3 _ rfl
  obtain ⟨u4,z4,g4,s4,b4⟩:=hc 4 _ rfl
  obtain ⟨u5,z5,g5,s5,b5⟩:=hc 5 _ rfl
  obtain ⟨x0,e0,-,w0⟩:=DataW.trod_string Tryz.underlying9 s0
  obtain ⟨x1,e1,-,w1⟩:=DataW.trod_int Tryz.underlying3 s1
  obtain ⟨x2,e2,-⟩:=DataW.trod_bool Tryz.underlying4 s2
  obtain ⟨x3,e3,-,w3⟩:=DataW.trod_int Tryz.underlying3 s3
  obtain ⟨x4,e4,-,w4⟩:=DataW.trod_string Tryz.underlying9 s4
  simp only [List.cons.injEq,and_true] at e0 e1 e2 e3 e4
  subst e0 e1 e2 e3 e4
  obtain ⟨ra,rn,rc,rl,rfl,r2,r3,r4,r5,r6,r7⟩:=open_SL4 (sz:=4) (enc:=rlC) GoodRl ⟨0,0,0,0⟩ Tryz.underlying41 Tryz.underlying61 (by kernel_rfl) (by kernel_rfl) rfl (by decide) rl_len (by
   intro cell m hc
   obtain ⟨u0,z0,g0,s0,b0⟩:=hc 0 _ rfl
   obtain ⟨u1,z1,g1,s1,b1⟩:=hc 1 _ rfl
   obtain ⟨u2,z2,g2,s2,b2⟩:=hc 2 _ rfl
   obtain ⟨u3,z3,g3,s3,b3⟩:=hc 3 _ rfl
   obtain ⟨k0,e0,-,w0⟩:=DataW.trod_int Tryz.underlying3 s0
   obtain ⟨k1,e1,-,w1⟩:=DataW.trod_int Tryz.underlying3 s1
   obtain ⟨k2,e2,-,w2⟩:=DataW.trod_int Tryz.underlying3 s2
   obtain ⟨k3,e3,-,w3⟩:=DataW.trod_int Tryz.underlying3 s3
   simp only [List.cons.injEq,and_true] at e0 e1 e2 e3
   subst e0 e1 e2 e3
   refine ⟨⟨k0,k1,k2,k3⟩,⟨bounds_i64 w0,bounds_i64 w1,bounds_i64 w2,bounds_i64 w3⟩,fun j hj=>?_⟩
   match j,hj with
   | 0,_=>exact g0
   | 1,_=>exact g1
   | 2,_=>exact g2
   | 3,_=>rw [show (rlC ⟨k0,k1,k2,k3⟩)[3]?=some (.int .i64 k3) from rfl];exact g3) s5 b5
  have b5':∀ z ∈ DataW.weights Tryz.prog 41 z5.1,z<=reachBytes:=b5
  have hrb:rn*32<=reachBytes:=r7 _ 32 (fun el sp hd=>b5' _ (by
   rw [hd]
   simp only [DataW.weights,Tryz.underlying41]
   rw [show Tryz.prog.bytesOf 61=32 from by kernel_rfl]
   exact List.mem_cons_self ..))
  have hrl:=r4.len
  subst hrl
  refine ⟨⟨⟨x0.data.toList,x1,x2,x3,x4.data.toList,rl⟩,ra,rc⟩,⟨⟨⟨⟨?_,bounds_i64 w1,bounds_i64 w3,?_,r3⟩,hrb⟩,r5⟩,r4⟩,fun j hj=>?_⟩
  ·show x0.data.toList.length<=maxLen
   rw [Array.length_toList];exact w0
  ·show x4.data.toList.length<=maxLen
   rw [Array.length_toList];exact w4
  match j,hj with
  | 0,_=>exact g0
  | 1,_=>exact g1
  | 2,_=>exact g2
  | 3,_=>exact g3
  | 4,_=>exact g4
  | 5,_=>exact g5) hf hB
 exact ⟨a,n,c,L,hveq,h2,h4,fun m hm=>(h3 m hm).2,fun m hm=>(h3 m hm).1.1.1,fun m hm=>(h3 m hm).1.1.2,fun m hm=>(h3 m hm).1.2⟩
def OwnP (n:Nat) (L:List Sc) (w:World) (e:Ending) (w':World):Prop:=∃ (a:Option Addr) (c:Nat) (Lo:List Ms),e=.returned (.slice a n c)/\n=Lo.length/\VI w w' Lo a c/\Lo.map (·.sc)=L
theorem rOwn_any (ua:Option Addr) (un uc:Nat) (L:List Ms) (w:World) (hun:un<=300) (hs:SL msC 6 w w.heap.size ua un L) (hno:Notes w w.heap.size L) (hb:∀ m ∈ L,m.sc.rels.length*32<=reachBytes) (hz:∀ m ∈ L,m.ad=none->m.sc.rels.length=0/\m.cap=0):
  Calls Tryz.prog 9 #[.slice ua un uc] w (OwnP un (L.map (·.sc)) w):=by
 obtain ⟨i0,hi,hz0,hz1,hz2⟩:=info_parts info_unit
 have hni:(un:Int)<=300:=by omega
 have HS:=Lib.hid (fun u (hu:Below w.heap.size w u)=>hs.next hu)
 have HNo:=Lib.hid (fun u (hu:Below w.heap.size w u)=>hno.next hu)
 have HBd:=Lib.hid hb
 have HZ:=Lib.hid hz
 have HLL:=Lib.hid hs.len
 have HUn:=Lib.hid hun
 have HV00:Hid (VI w w [] none 0):=Lib.hid (VI.nil w)
 clear hs hno hb hz hun
 go_enter Tryz.func9,Tryz.ntmps9
 go_wp2
 go_loopw [3,4] (fun vv iv wr=>∃ (k:Nat) (wx:World) (Lo:List Ms) (a:Option Addr) (m c:Nat),wx=wr/\k<=un/\vv=.slice a m c/\iv=.int .i64 k/\Hid (m=Lo.length)/\Hid (VI w wx Lo a c)/\Hid (Lo.map (·.sc)=(L.take k).map (·.sc))) (fun _ iv _=>un - (intOf iv).toNat)
 case atStart=>exact ⟨0,_,[],none,0,0,rfl,by omega,rfl,rfl,Lib.hid rfl,HV00,Lib.hid rfl⟩
 case round=>
  clear HV00
  obtain ⟨k,wx,Lo,a,m,c,rfl,hk,rfl,rfl,HM,HV,HSc⟩:=hrel
  by_cases hlt:k < un
  ·have hlti:(k:Int) < (un:Int):=by omega
   have HLT:=Lib.hid hlt
   have hk1:k < L.length:=by have:=HLL.out;omega
   have hsx:=HS.out _ HV.out.kk
   obtain ⟨b,off,hua,hBl,hc⟩:=hsx.cells (hsx.ne hlt)
   subst hua
   obtain ⟨c0,c1,c2',c3,c4,c5⟩:=ms_cells (fun j hj=>hc k hk1 j hj)
   have hmem:L[k] ∈ L:=List.getElem_mem _
   have HTk:Hid ((L.take (k+1)).map (·.sc)=(L.take k).map (·.sc) ++ [(L[k]).sc]):=Lib.hid (by rw [List.take_add_one,List.getElem?_eq_getElem hk1,List.map_append];rfl)
   generalize L[k]'hk1=mi at c0 c1 c2' c3 c4 c5 hmem HTk
   have hrb:=HBd.out _ hmem
   have hzz:=HZ.out _ hmem
   have hno1:=HNo.out _ HV.out.kk _ hmem
   obtain ⟨⟨nm,ki,kp,al,dt,rl⟩,ad,cp⟩:=mi
   simp only at c0 c1 c2' c3 c4 c5 HTk hrb hzz hno1
   obtain ⟨nr,hnr⟩:∃ nr,nr=rl.length:=⟨_,rfl⟩
   rw [<-hnr] at c5 hrb hzz hno1
   have hnrl:nr=rl.length:=hnr
   obtain ⟨X,hX⟩:∃ x,x=wx.heap.size:=⟨_,rfl⟩
   obtain ⟨W1,hW1⟩:∃ x,x=wx.alloc (.cells #[.string ⟨nm.toArray⟩,.int .i64 ki,.bool kp,.int .i64 al,.string ⟨dt.toArray⟩,.slice none 0 0] 43):=⟨_,rfl⟩
   have hb1:Below wx.heap.size wx W1:=by rw [hW1];exact lit_below _ _
   have hx1:RB W1 X #[.string ⟨nm.toArray⟩,.int .i64 ki,.bool kp,.int .i64 al,.string ⟨dt.toArray⟩,.slice none 0 0] 43:=by rw [hW1,hX];exact rb_new _ _ _
   obtain ⟨v0,hv0⟩:∃ x,x=W1.drew:=⟨_,rfl⟩
   have hbd:Below W1.heap.size W1 v0:=by rw [hv0];exact (Below.refl _ _).drew
   have hb0:Below wx.heap.size wx v0:=after hb1 hbd
   obtain ⟨a2,c2,v1,hr,ho,hba⟩:=app_refs (w:=v0) (B:=v0.heap.size) (ys:=rl) (hno1.next hb0) (fun h=>by have:=hzz h;omega) (by rw [hnr] at hrb ⊢;exact hrb) (Nat.le_refl _) 41
   have hbl2:b < X:=by rw [hX];exact hBl
   have HcX:Hid (∀ v,Below v0.heap.size v0 v->v.cell? ⟨b,off+k*6+5,none⟩=some (.slice ad nr cp)):=Lib.hid (fun v hv=>((hb0.trans (hv.mono hb0.size)).cell (p:=⟨b,off+k*6+5,none⟩) hBl).trans c5)
   have HXa:=Lib.hid ((hx1.next hbd).next hba)
   have hXv:X < v0.heap.size:=lt_of_block (hx1.next hbd)
   have HXs:Hid (RB (v1.setCell ⟨X,5,none⟩ (.slice a2 nr c2)) X #[.string ⟨nm.toArray⟩,.int .i64 ki,.bool kp,.int .i64 al,.string ⟨dt.toArray⟩,.slice a2 nr c2] 43):=Lib.hid (HXa.out.set (j:=5) (.slice a2 nr c2))
   have hb2:Below wx.heap.size wx (v1.setCell ⟨X,5,none⟩ (.slice a2 nr c2)):=(hb0.trans (hba.mono hb0.size)).setCell (p:=⟨X,5,none⟩) (by show _<=X;omega) _
   have HcS:Hid ((v1.setCell ⟨X,5,none⟩ (.slice a2 nr c2)).cell? ⟨b,off+k*6+5,none⟩=some (.slice ad nr cp)):=Lib.hid ((hb2.cell (p:=⟨b,off+k*6+5,none⟩) hBl).trans c5)
   have HOw:Hid (OwnR (v1.setCell ⟨X,5,none⟩ (.slice a2 nr c2)) w.heap.size ⟨⟨nm,ki,kp,al,dt,rl⟩,a2,c2⟩):=Lib.hid (by
    have h1:v1.ownsRow v0.heap.size 61 4 (.slice a2 rl.length c2) rl.length (rl.flatMap rlC):=by rw [<-hnrl];exact ho
    have hw:w.heap.size<=v0.heap.size:=by have:=HV.out.kk.size;have:=hb0.size;omega
    have h2:v1.ownsRow w.heap.size 61 4 (.slice a2 rl.length c2) rl.length (rl.flatMap rlC):=⟨h1.1,h1.2.imp id (fun ⟨g,cap,cur,e1,e2,e3⟩=>⟨g,cap,cur,e1,by omega,e3⟩)⟩
    exact owns_same h2 (fun g hg=>Below.heap_setCell _ _ _ _ (by have:=(h1.lt g hg).1;show g ≠ X;omega)))
   have HB2:=Lib.hid hb2
   have HBa:=Lib.hid hba
   have fz:v1.frozen? ⟨X,5,none⟩=false:=HXa.out.frozen
   have z5:v0.cell? ⟨X,5,none⟩=some (.slice none 0 0):=(hx1.next hbd).cell
   have z6:v1.cell? ⟨X,5,none⟩=some (.slice none 0 0):=HXa.out.cell
   have HW1:Hid (wx.alloc (.cells #[.string ⟨nm.toArray⟩,.int .i64 ki,.bool kp,.int .i64 al,.string ⟨dt.toArray⟩,.slice none 0 0] 43)=W1):=Lib.hid hW1.symm
   have HV0:Hid (W1.drew=v0):=Lib.hid hv0.symm
   have HXe:=Lib.hid hX
   have HNr:=Lib.hid hnr
   clear hsx hc hk1 hmem hrb hzz hno1 hnr hnrl hX hW1 hb1 hx1 hv0 hbd hb0 ho hba hbl2 hXv hb2 hBl hlt hk
   go_wp2_with fail
   rw [HW1.out,<-HXe.out]
   clear c0 c1 c2' c3 c4 c5
   refine wp_region_held_drew (S:=fun v=>v.cell? ⟨b,off+k*6+5,none⟩=some (.slice ad nr cp)) (by kernel_rfl) (by rw [HV0.out];exact HcX.out _ (Below.refl _ _)) (fun hHeld=>?_)
   rw [HV0.out]
   have hHeld0:=HcX.out _ (Below.refl _ _)
   clear hHeld
   refine wpAnyH_take (i:=0) (v:=?_) rfl (by kernel_rfl) (by kernel_rfl) (by kernel_rfl) (fun _ _ _ h=>h) (Or.inl ⟨by kernel_rfl,?_⟩) hHeld0 ?_
   rotate_left 1
   ·intro w hSw;(try dsimp only at hSw);have x5:=hSw;go_simp;(try with_reducible rfl)
   (try simp only [Act.put,List.setIfInBounds_toArray,List.set_cons_zero,List.set_cons_succ])
   refine wpAnyH_take (i:=2) (v:=?_) rfl (by kernel_rfl) (by kernel_rfl) (by kernel_rfl) (fun _ _ _ h=>h) (Or.inl ⟨by kernel_rfl,?_⟩) hHeld0 ?_
   rotate_left 1
   ·intro w hSw;(try dsimp only at hSw);have x5:=hSw;go_simp;(try with_reducible rfl)
   (try simp only [Act.put,List.setIfInBounds_toArray,List.set_cons_zero,List.set_cons_succ])
   refine wpAnyH_take (i:=3) (v:=?_) rfl (by kernel_rfl) (by kernel_rfl) (by kernel_rfl) (fun _ _ _ h=>h) (Or.inl ⟨by kernel_rfl,?_⟩) hHeld0 ?_
   rotate_left 1
   ·intro w hSw;(try dsimp only at hSw);have x5:=hSw;go_simp;(try with_reducible rfl)
   (try simp only [Act.put,List.setIfInBounds_toArray,List.set_cons_zero,List.set_cons_succ])
   refine wpAnyH_take (i:=4) (v:=?_) rfl (by kernel_rfl) (by kernel_rfl) (by kernel_rfl) (fun _ _ _ h=>h) (Or.inl ⟨by kernel_rfl,?_⟩) hHeld0 ?_
   rotate_left 1
   ·intro w hSw;(try dsimp only at hSw);have x5:=hSw;go_simp;(try with_reducible rfl)
   (try simp only [Act.put,List.setIfInBounds_toArray,List.set_cons_zero,List.set_cons_succ])
   refine wpAnyH_take (i:=5) (v:=?_) rfl (by kernel_rfl) (by kernel_rfl) (by kernel_rfl) (fun _ _ _ h=>h) (Or.inl ⟨by kernel_rfl,?_⟩) hHeld0 ?_
   rotate_left 1
   ·intro w hSw;(try dsimp only at hSw);have x5:=hSw;go_simp;(try with_reducible rfl)
   (try simp only [Act.put,List.setIfInBounds_toArray,List.set_cons_zero,List.set_cons_succ])
   refine wpAnyH_take (i:=6) (v:=?_) rfl (by kernel_rfl) (by kernel_rfl) (by kernel_rfl) (fun _ _ _ h=>h) (Or.inl ⟨by kernel_rfl,?_⟩) hHeld0 ?_
   rotate_left 1
   ·intro w hSw;(try dsimp only at hSw);have x5:=hSw;go_simp;(try with_reducible rfl)
   (try simp only [Act.put,List.setIfInBounds_toArray,List.set_cons_zero,List.set_cons_succ])
   refine wpAnyH_ready (rs:=[1]) (by kernel_rfl) (by simp) ?_
   refine AllReadyH.cons rfl (fun K hK=>?_) ?_
   rotate_left 1
   ·exact AllReadyH.nil
   go_simp
   refine hK.out _ _ (hHeld0) (fun hHeld1=>?_)
   clear hK K
   refine wpAnyH_ready (rs:=[7]) (by kernel_rfl) (by simp) ?_
   refine AllReadyH.cons rfl (fun K hK=>?_) ?_
   rotate_left 1
   ·exact AllReadyH.nil
   refine step_run rfl _ _ 41 rfl _ _ (by rfl) (by rfl) hr ?_
   refine hK.out _ _ (HcX.out _ HBa.out) (fun hHeld2=>?_)
   clear hK K
   clear hHeld0
   have hHeld0:=HcX.out _ HBa.out
   refine wpAnyH_take (i:=8) (v:=?_) rfl (by kernel_rfl) (by kernel_rfl) (by kernel_rfl) (fun _ _ _ h=>h) (Or.inl ⟨by kernel_rfl,?_⟩) hHeld0 ?_
   rotate_left 1
   ·intro w hSw;(try dsimp only at hSw);have x5:=hSw;go_simp;(try with_reducible rfl)
   (try simp only [Act.put,List.setIfInBounds_toArray,List.set_cons_zero,List.set_cons_succ])
   refine wpAnyH_ready (rs:=[9]) (by kernel_rfl) (by simp) ?_
   refine AllReadyH.cons rfl (fun K hK=>?_) ?_
   rotate_left 1
   ·exact AllReadyH.nil
   go_simp
   refine hK.out _ _ (HcS.out) (fun hHeld3=>?_)
   clear hK K
   refine wpAnyH_done (by kernel_rfl) ?_ _
   clear hHeld0 hHeld1 hHeld2 hHeld3 z5 z6 fz hr
   obtain ⟨V2,hV2⟩:∃ x,x=v1.setCell ⟨X,5,none⟩ (.slice a2 nr c2):=⟨_,rfl⟩
   rw [<-hV2] at HXs HOw HB2 ⊢
   have HVz:=Lib.hid (HV.out.next HB2.out)
   have x0:V2.cell? ⟨X,0,none⟩=some (.string ⟨nm.toArray⟩):=HXs.out.cell
   have x1:V2.cell? ⟨X,1,none⟩=some (.int .i64 ki):=HXs.out.cell
   have x2:V2.cell? ⟨X,2,none⟩=some (.bool kp):=HXs.out.cell
   have x3:V2.cell? ⟨X,3,none⟩=some (.int .i64 al):=HXs.out.cell
   have x4:V2.cell? ⟨X,4,none⟩=some (.string ⟨dt.toArray⟩):=HXs.out.cell
   have x5:V2.cell? ⟨X,5,none⟩=some (.slice a2 nr c2):=HXs.out.cell
   have hml:m<=300:=by
    have h1:=HM.out
    have h2:=congrArg List.length HSc.out
    simp only [List.length_map,List.length_take] at h2
    have h3:=HUn.out
    have h4:=HLT.out
    omega
   have HML:=Lib.hid hml
   have HNw:Hid ((V2.alloc (.cells #[.string ⟨nm.toArray⟩,.int .i64 ki,.bool kp,.int .i64 al,.string ⟨dt.toArray⟩,.slice a2 nr c2] 43)).heap[V2.heap.size]?=some (.cells #[.string ⟨nm.toArray⟩,.int .i64 ki,.bool kp,.int .i64 al,.string ⟨dt.toArray⟩,.slice a2 nr c2] 43)):=Lib.hid (heap_alloc_new V2 _)
   have HmC:Hid (msC ⟨⟨nm,ki,kp,al,dt,rl⟩,a2,c2⟩=[.string ⟨nm.toArray⟩,.int .i64 ki,.bool kp,.int .i64 al,.string ⟨dt.toArray⟩,.slice a2 nr c2]):=Lib.hid (by rw [HNr.out];rfl)
   have hsz3:Hid (w.heap.size<=V2.heap.size):=Lib.hid HVz.out.kk.size
   clear hml hV2
   go_wp2_with (at_builtin;refine wpList_append_lies _ rfl _ _ 22 rfl w.heap.size 43 i0 (.agg #[.string ⟨#[]⟩,.int .i64 0,.bool false,.int .i64 0,.string ⟨#[]⟩,.slice none 0 0]) 6 80 Tryz.underlying22 hi hz0 hz1 hz2 rfl (by decide) (.slice a m c) m (Lo.flatMap msC) rfl (by have:=HVz.out.oo;rw [<-HM.out] at this;exact this.alloc _) ⟨V2.heap.size,0,none⟩ 1 1 [.string ⟨nm.toArray⟩,.int .i64 ki,.bool kp,.int .i64 al,.string ⟨dt.toArray⟩,.slice a2 nr c2] rfl rfl (World.news_of_block (cs:=#[.string ⟨nm.toArray⟩,.int .i64 ki,.bool kp,.int .i64 al,.string ⟨dt.toArray⟩,.slice a2 nr c2]) (t:=43) (fr:=(0,0)) HNw.out) (by rw [<-HmC.out];exact ms_one _) (by decide) (by have:=HML.out;unfold maxLen;omega) (by have:=HML.out;omega) (by have:=hsz3.out;simp;omega) (V2.heap.size+1) (by simp) ?_;intro g cap2 w2 hown2 hgrow2 hlie2 hlt2)
   rw [HM.out] at hown2 hgrow2
   rw [<-HmC.out] at hown2
   have HV2:=Lib.hid (HVz.out.grow HOw.out hown2 (by rw [HmC.out];exact hgrow2))
   have HM2:Hid (m+1=(Lo ++ [(⟨⟨nm,ki,kp,al,dt,rl⟩,a2,c2⟩:Ms)]).length):=Lib.hid (by rw [HM.out];simp)
   have HSc2:Hid ((Lo ++ [(⟨⟨nm,ki,kp,al,dt,rl⟩,a2,c2⟩:Ms)]).map (·.sc)=(L.take (k+1)).map (·.sc)):=Lib.hid (by rw [List.map_append,HSc.out,HTk.out];rfl)
   clear hown2 hgrow2 hlie2 hlt2 HNw x0 x1 x2 x3 x4 x5
   go_roundw
   case rel=>exact ⟨k+1,_,_,_,_,_,rfl,by have:=HLT.out;omega,rfl,by go_num,HM2,HV2,HSc2⟩
   case measure=>have:=HLT.out;simp [intOf];omega
  ·have hnlt:¬ (k:Int) < (un:Int):=by omega
   have hke:k=L.length:=by have:=HLL.out;omega
   have HF:Hid (Lo.map (·.sc)=L.map (·.sc)):=Lib.hid (by rw [HSc.out,hke,List.take_length])
   have HMe:Hid (m=un):=Lib.hid (by
    have:=congrArg List.length HF.out
    simp only [List.length_map] at this
    rw [HM.out,this,<-HLL.out])
   clear hk hlt hke
   go_wp2
   go_ret
   exact ⟨a,c,Lo,by rw [<-HMe.out];rfl,by rw [<-HMe.out];exact HM.out,HV.out,HF.out⟩
end Go.Proofs.YtbabckomagkjbaaGreatDoor
