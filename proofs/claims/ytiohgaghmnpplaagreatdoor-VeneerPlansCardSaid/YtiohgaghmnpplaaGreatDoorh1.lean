/- The reference of graph: Big, told; Is. the reference of fold, plain: pairs that may not be of one part. The reference of fold: Alike. The reference of fold: apart: rows of rows. The reference of shrink: what stands for itself, by kinds, and its alignments. -/
import Derived.Test.YtiohgaghmnpplaaGreatDoorqA
import Derived.Test.YtiohgaghmnpplaaGreatDoorn3
import Derived.Test.YtiohgaghmnpplaaGreatDoorw1
import Derived.Test.YtiohgaghmnpplaaGreatDoorw3
import Derived.Test.YtiohgaghmnpplaaGreatDoorw2
import Derived.Test.YtiohgaghmnpplaaGreatDoorw4
set_option maxRecDepth 100000
set_option maxHeartbeats 4000000
set_option linter.unusedVariables false
set_option linter.unusedSimpArgs false
namespace Go.Proofs.YtiohgaghmnpplaaGreatDoor
open Go.ChangeShapes Go.WideShapes Go.Deep Go.RowKit
def qV (un:Nat)(L:List Ms):Prop:=un<=300/\(256<un\/(un<=40/\∀m∈L,m.sc.name.length<=100))
def BigP (un:Nat)(L:List Ms)(w:World)(e:Ending)(w':World):Prop:=∃r:Bool,e=.returned (.bool r)/\(r=false->qV un L)/\Below w.heap.size w w'
theorem rBigU2_any (ua:Option Addr)(un uc:Nat)(L:List Ms)(w:World)(hun:un<=maxLen)(hs:SL mX 6 w w.heap.size ua un L)(hno:iQ w w.heap.size L)(hb:∀m∈L,m.sc.rels.length*32<=reachBytes):
  Calls Tryz.prog 25 #[.slice ua un uc] w (BigP un L w):=by
 have hni:(un:Int)<=9223372036854775807:=by unfold maxLen at hun;omega
 have HS:=aH hs;have HNo:=aH hno;have HBd:=aH hb;have HLL:=aH hs.len;clear hs hno hb hun;go_enter Tryz.func25,Tryz.ntmps25;go_wp2;go_loopw [3] (fun i wr=>∃(k:Nat) (wx:World),wx=wr/\k<=un/\i=.int .i64 k/\Hid (Below w.heap.size w wx)/\Hid (∀m∈L.take k,m.sc.name.length<=100)) (fun i _=>un-(intOf i).toNat)
 case atStart=>exact⟨0,_,rfl,by omega,rfl,aH (Below.refl _ _),aH (by simp)⟩
 case round=>
  obtain⟨k,wx,rfl,hk,rfl,HB,HF⟩:=hrel;by_cases hlt:k<un/\un<=40
  ·have hlti:(k:Int)<(un:Int):=by omega
   have h40:(un:Int)<=40:=by omega
   have HLT:=aH hlt.1;have hk1:k<L.length:=by have:=HLL.out;omega
   obtain⟨b,off,hua,hBl,hc⟩:=(HS.out.next HB.out).cells ((HS.out.next HB.out).ne hlt.1);subst hua;obtain⟨c0,c1,c2',c3,c4,c5⟩:=lT (fun j hj=>hc k hk1 j hj);have hmem:L[k]∈L:=List.getElem_mem _;have HTk:Hid (∀x∈L.take (k+1),x∈L.take k\/x=L[k]):=aH (fun x hx=>by
    rw[List.take_add_one,iS hk1,List.mem_append]at hx;rcases hx with h|h
    ·exact .inl h
    ·exact .inr (by simpa using h))
   generalize L[k]'hk1=m at c0 c1 c2' c3 c4 c5 hmem HTk;obtain⟨⟨nm,ki,kp,al,dt,rl⟩,ad,cp⟩:=m;simp only at c0 c1 c2' c3 c4 c5;obtain⟨nr,hnr⟩:=aE rl.length;have hrb:=HBd.out _ hmem;simp only at hrb;have HSec:Hid (∀u:World,Below w.heap.size w u->Calls Tryz.prog 53 #[.agg #[.string ⟨nm.toArray⟩,.int .i64 ki,.bool kp,.int .i64 al,.string ⟨dt.toArray⟩,.slice ad nr cp]] u (SecQ ⟨nm,ki,kp,al,dt,rl⟩ u)):=aH fun u hu=>by
    rw[hnr];exact rSec_any nm dt ki kp al rl ad cp u ((HNo.out _ hmem).next hu) hrb
   have HBig:Hid (∀u a c,Calls Tryz.prog 52 #[scV ⟨nm,ki,kp,al,dt,rl⟩ a rl.length c] u (fun e u'=>∃r:Bool,e=.returned (.bool r)/\(r=false->nm.length<=100)/\Below u.heap.size u u')):=aH fun u a c=>(rBig_any ⟨nm.toArray⟩ ⟨dt.toArray⟩ ki kp al a rl.length c u).mono fun e u' h=>⟨_,h.1,fun hr=>by
    have hz:(⟨nm.toArray⟩:ByteArray).size=nm.length:=by show nm.toArray.size=_;simp
    unfold bigS at hr;have:=of_decide_eq_false hr;omega,h.2⟩
   rw[<-hnr]at c5;clear hc hBl hk1 hlt hk hmem hrb hnr;go_wp2_with fail
   refine(HSec.out _ HB.out).mono ?_;rintro e u ⟨a,c,rfl,hown,hb⟩;replace HB:=aH (after HB.out hb);clear hown hb c0 c1 c2' c3 c4 c5;go_wp2_with fail
   refine(HBig.out u a c).mono ?_;rintro e u2 ⟨r,rfl,hr,hb⟩;replace HB:=aH (after HB.out hb);clear hb HSec HBig;cases r
   ·have HF2:Hid (∀m∈L.take (k+1),m.sc.name.length<=100):=aH (fun x hx=>by
     rcases HTk.out x hx with h|h
     ·exact HF.out x h
     ·rw[h];exact hr rfl)
    clear hr;go_wp2;go_roundw
    case rel=>exact⟨k+1,_,rfl,by have:=HLT.out;omega,by go_num,HB,HF2⟩
    case measure=>have:=HLT.out;simp[intOf];omega
   ·clear hr;go_wp2;go_ret;exact⟨_,rfl,fun h=>(by cases h),HB.out⟩
  ·have hcs:(¬(k:Int)<(un:Int))\/((k:Int)<(un:Int)/\¬(un:Int)<=40):=by omega
   have HEd:Hid (un<=40->qV un L):=aH (fun h=>⟨by omega,.inr ⟨h,by
    have hke:k=L.length:=by have:=HLL.out;omega
    have h2:=HF.out;rw[hke,List.take_length]at h2;exact h2⟩⟩)
   have HGr:Hid (256<un->un<=300->qV un L):=aH (fun h h3=>⟨h3,.inl h⟩);clear hlt hk HF;rcases hcs with h1|⟨h1,h2⟩
   ·by_cases h3:(40:Int)<(un:Int)<;>by_cases h4:(un:Int)<=256<;>by_cases h5:(300:Int)<(un:Int);all_goals
     have HH:Hid (((40:Int)<(un:Int)/\(un:Int)<=256)\/(300:Int)<(un:Int)\/qV un L):=aH (by
      by_cases h:un<=40
      ·exact .inr (.inr (HEd.out h))
      ·by_cases h6:256<un
       ·by_cases h7:un<=300
        ·exact .inr (.inr (HGr.out h6 h7))
        ·exact .inr (.inl (by omega))
       ·exact .inl (by omega))
     go_wp2;go_ret;refine⟨_,rfl,fun h=>?_,HB.out⟩;first
      |(cases h;done)
      | (rcases HH.out with q | q | q
         ·omega
         ·omega
         ·exact q)
   ·have h3:(40:Int)<(un:Int):=by omega
    by_cases h4:(un:Int)<=256<;>by_cases h5:(300:Int)<(un:Int);all_goals
     have HH:Hid ((un:Int)<=256\/(300:Int)<(un:Int)\/qV un L):=aH (by
      by_cases h6:256<un
      ·by_cases h7:un<=300
       ·exact .inr (.inr (HGr.out h6 h7))
       ·exact .inr (.inl (by omega))
      ·exact .inl (by omega))
     go_wp2;go_ret;refine⟨_,rfl,fun h=>?_,HB.out⟩;first
      |(cases h;done)
      | (rcases HH.out with q | q | q
         ·omega
         ·omega
         ·exact q)
theorem rIsU_any (ua:Option Addr)(un uc:Nat)(L:List Ms)(w:World)(hun:un<=maxLen)(hs:SL mX 6 w w.heap.size ua un L)(hno:iQ w w.heap.size L)(hg:∀m∈L,fP m.sc)(hb:∀m∈L,m.sc.rels.length*32<=reachBytes)(hf:qV un L):
  Calls Tryz.prog 72 #[.slice ua un uc] w (aP (.bool (bN (L.map (·.sc)))) w):=by
 have hni:(un:Int)<=9223372036854775807:=by unfold maxLen at hun;omega
 have HLL:=aH hs.len;obtain⟨R,hR⟩:=aE (bN (L.map (·.sc)));rw[<-hR];have hRu:R=(decide (un<=256) && (L.map (·.sc)).all (dO un)):=by rw [hR];unfold bN;rw [List.length_map,<-hs.len]
 clear hR;by_cases h256:256<un
 ·have h2:¬(un:Int)<=256:=by omega
  have HR:Hid (R=false):=aH (by rw[hRu,decide_eq_false (by omega)];rfl);have h0:(0:Int)<(un:Int):=by omega
  clear hs hno hg hb h256 hf hRu hun;go_enter Tryz.func72,Tryz.ntmps72;go_wp2;refine wp_loop_rounds 1 ?_;rw[rounds_succ];go_wp2;go_ret;exact aB (by rw[HR.out,decide_eq_false (by omega)]) (Below.refl _ _)
 have hle:(un:Int)<=256:=by omega
 have HR:Hid (R=(L.map (·.sc)).all (dO un)):=aH (by rw[hRu,decide_eq_true (by omega)];rfl);have HNm:Hid (∀m∈L,m.sc.name.length<=100):=aH (by
  rcases hf.2 with h|h
  ·omega
  ·exact h.2)
 have HS:=aH hs;have HNo:=aH hno;have HBd:=aH hb;have HG:=aH hg;clear hs hno hg hb h256 hf hRu hun;go_enter Tryz.func72,Tryz.ntmps72;go_wp2;go_loopw [3] (fun i wr=>∃(k:Nat) (wx:World),wx=wr/\k<=un/\i=.int .i64 k/\Hid (Below w.heap.size w wx)/\Hid (R=((L.drop k).map (·.sc)).all (dO un))) (fun i _=>un-(intOf i).toNat)
 case atStart=>exact⟨0,_,rfl,by omega,rfl,aH (Below.refl _ _),aH (by rw[List.drop_zero];exact HR.out)⟩
 case round=>
  clear HR;obtain⟨k,wx,rfl,hk,rfl,HB,HA⟩:=hrel;by_cases hlt:k<un
  ·have hlti:(k:Int)<(un:Int):=by omega
   have HLT:=aH hlt;have hk1:k<L.length:=by have:=HLL.out;omega
   have hsx:=HS.out.next HB.out;obtain⟨b,off,hua,hBl,hc⟩:=hsx.cells (hsx.ne hlt);subst hua;obtain⟨c0,c1,c2',c3,c4,c5⟩:=lT (fun j hj=>hc k hk1 j hj);have hmem:L[k]∈L:=List.getElem_mem _;have HDr:Hid (R=(dO un (L[k]).sc&&((L.drop (k+1)).map (·.sc)).all (dO un))):=aH (by rw[HA.out,eW hk1,List.map_cons,List.all_cons]);have HCc:Hid (∀v,Below w.heap.size w v->v.cell? ⟨b,off+k*6+5,none⟩=some (.slice (L[k]).ad (L[k]).sc.rels.length (L[k]).cap)):=aH (fun v hv=>by
    obtain⟨b',off',he,-,hc'⟩:=(HS.out.next hv).cells ((HS.out.next hv).ne hlt);injection he with he
    injection he with e1 e2
    subst e1 e2;exact(lT (fun j hj=>hc' k hk1 j hj)).2.2.2.2.2)
   generalize L[k]'hk1=m at c0 c1 c2' c3 c4 c5 hmem HDr HCc;obtain⟨⟨nm,ki,kp,al,dt,rl⟩,ad,cp⟩:=m;simp only at c0 c1 c2' c3 c4 c5 HDr HCc;obtain⟨nr,hnr⟩:=aE rl.length;have hrb:=HBd.out _ hmem;have hgd:=HG.out _ hmem;have hnm:=HNm.out _ hmem;simp only at hrb hgd hnm;have hno1:=HNo.out _ hmem;simp only at hno1;have HN1:=aH (fun u (hu:Below w.heap.size w u)=>hno1.next hu);have hnr9:(nr:Int)<=9223372036854775807:=by unfold reachBytes at hrb;omega
   have HSec:Hid (∀u:World,Below w.heap.size w u->Calls Tryz.prog 53 #[.agg #[.string ⟨nm.toArray⟩,.int .i64 ki,.bool kp,.int .i64 al,.string ⟨dt.toArray⟩,.slice ad nr cp]] u (SecQ ⟨nm,ki,kp,al,dt,rl⟩ u)):=aH fun u hu=>by
    rw[hnr];exact rSec_any nm dt ki kp al rl ad cp u (hno1.next hu) hrb
   have HPi:Hid (∀u a c,SL kY 4 u u.heap.size a rl.length rl->Calls Tryz.prog 104 #[scV ⟨nm,ki,kp,al,dt,rl⟩ a rl.length c] u (aP (.bool (jH ⟨nm,ki,kp,al,dt,rl⟩)) u)):=aH fun u a c h=>rpIs_any ⟨nm,ki,kp,al,dt,rl⟩ a rl.length c u h (by unfold reachBytes at hrb;unfold maxLen;omega) hgd (by show nm.length<=6000;omega)
   have HNr:=aH hnr;rw[<-hnr]at c5;generalize hq:jH ⟨nm,ki,kp,al,dt,rl⟩=Q at HPi;have HQ:=aH hq;clear hc hBl hk1 hlt hk hmem hrb hnr hgd hnm hsx hno1 hq;go_wp2_with fail
   refine(HSec.out _ HB.out).mono ?_;rintro e u ⟨a,c,rfl,hown,hb⟩;replace HB:=aH (after HB.out hb);have HSl:Hid (SL kY 4 u u.heap.size a rl.length rl):=aH (by
    obtain⟨a',c',e,h',-⟩:=SL.ofOwns rl_len (by decide) hown;injection e with e1 e2 e3
    subst e1;exact h')
   clear hown hb c0 c1 c2' c3 c4 c5;go_wp2_with fail
   refine(HPi.out u a c HSl.out).mono ?_;rintro e u2 ⟨rfl,hb⟩;replace HB:=aH (after HB.out hb);clear hb HSec HPi HSl;cases Q
   ·have HE:Hid (R=false):=aH (by rw[HDr.out];unfold dO;rw[HQ.out];rfl);go_wp2;go_ret;exact aB HE.out.symm HB.out
   have HD2:Hid (R=(rl.all (fun r=>decide (r.sym < (un:Int))) && ((L.drop (k+1)).map (·.sc)).all (dO un))):=aH (by rw [HDr.out];unfold dO;rw [HQ.out];rfl);have HSy:Hid (∀r∈rl,0<=r.sym):=aH (fun r hr=>(sec_ok HQ.out).all r hr|>.s0);clear HDr HQ;go_wp2_with fail
   go_loopw [4] (fun j wr=>∃ (q:Nat) (wy:World),wy=wr/\q<=nr/\j=.int .i64 q/\Hid (Below w.heap.size w wy)/\Hid (R=((rl.drop q).all (fun r=>decide (r.sym < (un:Int))) && ((L.drop (k+1)).map (·.sc)).all (dO un)))) (fun j _=>nr - (intOf j).toNat)
   case atStart=>exact⟨0,_,rfl,by omega,rfl,HB,aH (by rw[List.drop_zero];exact HD2.out)⟩
   case round=>
    clear HB HD2;obtain⟨q,wy,rfl,hq,rfl,HB,HD2⟩:=hrel;have c5:wy.cell? ⟨b,off+k*6+5,none⟩=some (.slice ad nr cp):=by rw[HNr.out];exact HCc.out wy HB.out
    by_cases hltq:q<nr
    ·have hltqi:(q:Int)<(nr:Int):=by omega
     have HLTq:=aH hltq;have hq1:q<rl.length:=by rw[<-HNr.out];exact hltq
     obtain⟨b1,o1,hae,-,hc1⟩:=(HN1.out wy HB.out).cells ((HN1.out wy HB.out).ne hq1);subst hae;obtain⟨d0,d1,d2,d3⟩:=dN (fun i hi=>hc1 q hq1 i hi);have HDq:Hid (R=((decide ((rl[q]).sym < (un:Int)) && (rl.drop (q+1)).all (fun r=>decide (r.sym < (un:Int)))) && ((L.drop (k+1)).map (·.sc)).all (dO un))):=aH (by rw [HD2.out,eW hq1,List.all_cons]);have hs0:=HSy.out _ (List.getElem_mem hq1);generalize rl[q]'hq1=r at d0 d1 d2 d3 HDq hs0;obtain⟨sy,hsy⟩:∃a:Nat,r.sym=(a:Int):=⟨r.sym.toNat,by omega⟩;rw[hsy]at d2 HDq;clear hc1 hq hltq hq1 hs0 hsy d0 d1 d3;by_cases hst:sy<un
     ·have h1:(sy:Int)<(un:Int):=by omega
      have HE:Hid (R=((rl.drop (q+1)).all (fun r=>decide (r.sym < (un:Int))) && ((L.drop (k+1)).map (·.sc)).all (dO un))):=aH (by rw [HDq.out,decide_eq_true (by omega)];rfl);clear hst;go_wp2;go_roundw
      case rel=>exact⟨q+1,_,rfl,by have:=HLTq.out;omega,by go_num,HB,HE⟩
      case measure=>have:=HLTq.out;simp[intOf];omega
     ·have h1:¬(sy:Int)<(un:Int):=by omega
      have HE:Hid (R=false):=aH (by rw[HDq.out,decide_eq_false (by omega)];rfl);clear hst;go_wp2;go_ret;exact aB HE.out.symm HB.out
    ·have hnlt:¬(q:Int)<(nr:Int):=by omega
     have HE:Hid (R=((L.drop (k+1)).map (·.sc)).all (dO un)):=aH (by rw[HD2.out,List.drop_eq_nil_of_le (by rw[<-HNr.out];omega)];rfl);clear hq hltq;go_wp2;go_roundw
     case rel=>exact⟨k+1,_,rfl,by have:=HLT.out;omega,by go_num,HB,HE⟩
     case measure=>have:=HLT.out;simp[intOf];omega
  ·have hnlt:¬(k:Int)<(un:Int):=by omega
   have HE:Hid (R=true):=aH (by rw[HA.out,List.drop_eq_nil_of_le (by rw[<-HLL.out];omega)];rfl);clear hk hlt;go_wp2;go_ret;exact aB HE.out.symm HB.out
def unG (U:List (List Bool))(i k:Nat):Bool:=((U[i]?).getD [])[k]?.getD false
def unZ (S:List Sc) (ins:List Bool) (i k:Nat):Bool:=decide (i ≠ k) && (!(ins[i]?.getD false) || !(ins[k]?.getD false) || !(match S[i]?,S[k]? with | some s,some t=>dU s t | _,_=>false))
def SqU (n:Nat)(U:List (List Bool)):Prop:=U.length=n/\∀r∈U,r.length=n
def setU (U:List (List Bool))(i k:Nat):List (List Bool):=U.set i (((U[i]?).getD []).set k true)
theorem sq_row {n:Nat}{U:List (List Bool)}(h:SqU n U){i:Nat}(hi:i<n):∃r,U[i]?=some r/\r.length=n:=by
 have h1:=iS (show i<U.length by rw[h.1];exact hi);exact⟨_,h1,h.2 _ (eQ h1)⟩
theorem sq_get {n:Nat}{U:List (List Bool)}(h:SqU n U){i k:Nat}(hi:i<n)(hk:k<n):∃r,U[i]?=some r/\r[k]?=some (unG U i k):=by
 obtain⟨r,h1,h2⟩:=sq_row h hi;refine⟨r,h1,?_⟩;unfold unG;rw[h1,Option.getD_some,iS (by omega),Option.getD_some]
theorem sq_set {n:Nat}{U:List (List Bool)}(h:SqU n U)(i k:Nat):SqU n (setU U i k):=by
 unfold setU;refine⟨by rw[List.length_set];exact h.1,fun r hr=>?_⟩;by_cases hi:i<U.length
 ·rcases List.mem_or_eq_of_mem_set hr with h1|h1
  ·exact h.2 r h1
  ·rw[h1,List.length_set,iS hi,Option.getD_some];exact h.2 _ (List.getElem_mem hi)
 ·rw[List.set_eq_of_length_le (by omega)]at hr;exact h.2 r hr
theorem set_get {n:Nat}{U:List (List Bool)}(h:SqU n U){i k:Nat}(hi:i<n)(hk:k<n)(a b:Nat):unG (setU U i k) a b=if a=i/\b=k then true else unG U a b:=by
 obtain⟨r,h1,h2⟩:=sq_row h hi;unfold unG setU;rw[h1,Option.getD_some];by_cases e:a=i
 ·subst e;rw[List.getElem?_set_self (by rw[h.1];exact hi),Option.getD_some,h1,Option.getD_some];by_cases e2:b=k
  ·subst e2;rw[List.getElem?_set_self (by omega),if_pos ⟨rfl,rfl⟩];rfl
  ·rw[List.getElem?_set_ne (fun z=>e2 z.symm),if_neg (fun z=>e2 z.2)]
 ·rw[List.getElem?_set_ne (fun z=>e z.symm),if_neg (fun z=>e z.1)]
def pQ (U:List (List Bool)):Nat:=(U.map (fun r=>r.count false)).sum
theorem count_setF:∀ {l:List Bool}{k:Nat},l[k]?=some false->(l.set k true).count false+1=l.count false
 | [],k,h=>by simp at h
 |b :: t,0,h=>by
  simp only[List.getElem?_cons_zero,Option.some.injEq]at h;subst h;simp
 |b :: t,k+1,h=>by
  have h2:t[k]?=some false:=by simpa using h
  have:=count_setF h2;rw[List.set_cons_succ,List.count_cons,List.count_cons];omega
theorem leftU_set:∀ {U:List (List Bool)}{i:Nat}{r r':List Bool},U[i]?=some r->r'.count false+1=r.count false->pQ (U.set i r')+1=pQ U
 | [],i,r,r',h,_=>by simp at h
 |x :: t,0,r,r',h,hc=>by
  simp only[List.getElem?_cons_zero,Option.some.injEq]at h;subst h;simp only[pQ,List.set_cons_zero,List.map_cons,List.sum_cons];omega
 |x :: t,i+1,r,r',h,hc=>by
  have h2:t[i]?=some r:=by simpa using h
  have:=leftU_set h2 hc;simp only[pQ,List.set_cons_succ,List.map_cons,List.sum_cons]at*
  omega
theorem leftU_one {n:Nat}{U:List (List Bool)}(h:SqU n U){i k:Nat}(hi:i<n)(hk:k<n)(hf:unG U i k=false):pQ (setU U i k)+1=pQ U:=by
 obtain⟨r,h1,h2⟩:=sq_get h hi hk;rw[hf]at h2;unfold setU;rw[h1,Option.getD_some];exact leftU_set h1 (count_setF h2)
structure UnI (S:List Sc)(ins:List Bool)(P:List Int)(U:List (List Bool)):Prop where
 sq:SqU S.length U
 mono:∀i k,i<S.length->k<S.length->unZ S ins i k=true->unG U i k=true
 snd:∀i k,i<S.length->k<S.length->unG U i k=true->i≠k/\(ins[i]?=some true->ins[k]?=some true->P[i]? ≠P[k]?)
theorem UnI.put {S:List Sc}{ins:List Bool}{j:Nat}{U:List (List Bool)}(hu:bN S=true)(hin:ins.length=S.length)(hfx:mT S ins (fT S ins j)=fT S ins j)(h:UnI S ins (endL ins (fT S ins j)) U)
  {i k q:Nat} {s t:Sc} {r r':Rl} (hs:S[i]?=some s) (ht:S[k]?=some t) (hr:s.rels[q]?=some r) (hr':t.rels[q]?=some r') (hU:unG U r.sym.toNat r'.sym.toNat=true):
  UnI S ins (endL ins (fT S ins j)) (setU U i k):=by
 have hi:=(eX hs).1;have hk:=(eX ht).1;obtain⟨a0,a1⟩:=(dZ hu hs).2 r (eQ hr);obtain⟨b0,b1⟩:=(dZ hu ht).2 r' (eQ hr');obtain⟨s1,s2⟩:=h.snd _ _ (by omega) (by omega) hU;have hg:=end_good (j:=j) hu hin hfx;refine⟨sq_set h.sq i k,fun a b ha hb hz=>?_,fun a b ha hb hz=>?_⟩
 ·rw[set_get h.sq hi hk];split
  ·rfl
  ·exact h.mono a b ha hb hz
 ·rw[set_get h.sq hi hk]at hz;split at hz
  ·rename_i e;obtain⟨rfl,rfl⟩:=e;have hne:a≠b:=by
    intro e;subst e;rw[hs]at ht;cases ht;rw[hr]at hr';cases hr';exact s1 rfl
   refine⟨hne,fun ia ib hP=>?_⟩;have key:RefQ S.length ins (endL ins (fT S ins j)) r.sym r'.sym:=by
    rcases Nat.lt_or_ge b a with hlt|hlt
    ·exact(hg a b ha hlt ia ib hP s t hs ht).2 q r r' hr hr'
    ·obtain⟨x0,x1,y0,y1,h⟩:=(hg b a hb (by omega) ib ia hP.symm t s ht hs).2 q r' r hr' hr;refine⟨y0,y1,x0,x1,?_⟩;rcases h with h|⟨c1,c2,c3⟩
     ·exact .inl h.symm
     ·exact .inr ⟨c2,c1,c3.symm⟩
   obtain⟨-,-,-,-,h3⟩:=key;rcases h3 with h3|⟨c1,c2,c3⟩
   ·exact s1 (by rw[h3])
   ·exact s2 c1 c2 c3
  ·exact h.snd a b ha hb hz
def ClosedU (S:List Sc)(U:List (List Bool)):Prop:=∀(i k:Nat) (s t:Sc),S[i]?=some s->S[k]?=some t->unG U i k=false->∀(q:Nat) (r r':Rl),s.rels[q]?=some r->t.rels[q]?=some r'->unG U r.sym.toNat r'.sym.toNat=false
theorem unI_start {S:List Sc}{ins:List Bool}{j:Nat}(hu:bN S=true)(hin:ins.length=S.length)(hfx:mT S ins (fT S ins j)=fT S ins j){U:List (List Bool)}(hsq:SqU S.length U)(hU:∀i k,i<S.length->k<S.length->unG U i k=unZ S ins i k):
  UnI S ins (endL ins (fT S ins j)) U:=by
 have hg:=end_good (j:=j) hu hin hfx;refine⟨hsq,fun i k hi hk h=>by rw[hU i k hi hk];exact h,fun i k hi hk h=>?_⟩;rw[hU i k hi hk]at h;have hne:i≠k:=by
  intro e;subst e;unfold unZ at h;simp at h
 refine⟨hne,fun i1 i2 hP=>?_⟩;have hs:=iS hi;have ht:=iS hk;have hal:dU S[i] S[k]=true:=by
  rcases Nat.lt_or_ge k i with hlt|hlt
  ·exact(hg i k hi hlt i1 i2 hP _ _ hs ht).1
  ·exact alike_symm (hg k i hk (by omega) i2 i1 hP.symm _ _ ht hs).1
 unfold unZ at h;rw[hs,ht,i1,i2]at h;simp[hal]at h
theorem rAlike_any (N D N' D':ByteArray)(ki ki' al al':Int)(kp kp':Bool)(a a':Option Addr)(n n' c c':Nat)(l l':List Rl)(w:World)(hn:n<=maxLen)(hn':n'<=maxLen)(hs:SL kY 4 w w.heap.size a n l)(hs':SL kY 4 w w.heap.size a' n' l')(nm nm':List UInt8):
  Calls Tryz.prog 105 #[.agg (uCe N ki kp al D a n c),.agg (uCe N' ki' kp' al' D' a' n' c')] w (aP (.bool (dU ⟨nm,ki,kp,al,D.data.toList,l⟩ ⟨nm',ki',kp',al',D'.data.toList,l'⟩)) w):=by
 obtain⟨R,hR⟩:=aE (dU ⟨nm,ki,kp,al,D.data.toList,l⟩ ⟨nm',ki',kp',al',D'.data.toList,l'⟩);rw[<-hR];unfold dU at hR;simp only[]at hR;have HB:=aH ((mE (w:=w) (A:=uCe N ki kp al D a n c) (B:=uCe N' ki' kp' al' D' a' n' c') (T:=55) (U:=55)));obtain⟨P,hP⟩:=aE w.heap.size;have HB0:=aH HB.out.2.2;rw[<-hP]at HB;have hni:(n:Int)<=9223372036854775807:=by unfold maxLen at hn;omega
 have hni':(n':Int)<=9223372036854775807:=by unfold maxLen at hn';omega
 have HS:=aH (fun u (hu:Below w.heap.size w u)=>hs.next hu);have HS':=aH (fun u (hu:Below w.heap.size w u)=>hs'.next hu);have HLn:=aH hs.len;have HLn':=aH hs'.len;have hDD:(D.toList=D'.toList)↔D.data.toList=D'.data.toList:=by rw[Lib.toList_data,Lib.toList_data]
 have hcs:(ki≠1/\R=false)\/(ki=1/\ki'≠1/\R=false)\/(ki=1/\ki'=1/\¬D.toList=D'.toList/\R=false)\/(ki=1/\ki'=1/\D.toList=D'.toList/\n≠n'/\R=false)\/(ki=1/\ki'=1/\D.toList=D'.toList/\n=n'/\R=alRs l l'):=by
  by_cases e1:ki=1
  ·by_cases e2:ki'=1
   ·by_cases e3:D.toList=D'.toList
    ·by_cases e4:n=n'
     ·exact .inr (.inr (.inr (.inr ⟨e1,e2,e3,e4,by rw[hR,decide_eq_true e1,decide_eq_true e2,decide_eq_true (hDD.1 e3)];rfl⟩)))
     ·refine .inr (.inr (.inr (.inl ⟨e1,e2,e3,e4,?_⟩)));rw[hR,alRs,decide_eq_false (p:=l.length=l'.length) (by have:=hs.len;have:=hs'.len;omega)];simp
    ·refine .inr (.inr (.inl ⟨e1,e2,e3,?_⟩));rw[hR,decide_eq_false (fun h=>e3 (hDD.2 h))];simp
   ·refine .inr (.inl ⟨e1,e2,?_⟩);rw[hR,decide_eq_false e2];simp
  ·refine .inl ⟨e1,?_⟩;rw[hR,decide_eq_false e1];simp
 clear hs hs' hn hn' hDD hR;obtain⟨W0,hW0⟩:=aE ((w.alloc (.cells (uCe N ki kp al D a n c) 55)).alloc (.cells (uCe N' ki' kp' al' D' a' n' c') 55));rw[<-hW0]at HB HB0;have x1:W0.cell? ⟨P,1,none⟩=some (.int .i64 ki):=HB.out.1.cell;have x4:W0.cell? ⟨P,4,none⟩=some (.string D):=HB.out.1.cell;have x5:W0.cell? ⟨P,5,none⟩=some (.slice a n c):=HB.out.1.cell;have y1:W0.cell? ⟨P+1,1,none⟩=some (.int .i64 ki'):=HB.out.2.1.cell;have y4:W0.cell? ⟨P+1,4,none⟩=some (.string D'):=HB.out.2.1.cell;have y5:W0.cell? ⟨P+1,5,none⟩=some (.slice a' n' c'):=HB.out.2.1.cell;rw[hW0]at x1 x4 x5 y1 y4 y5;rw[hP]at x1 x4 x5 y1 y4 y5;have HWE:Hid ((w.alloc (.cells (uCe N ki kp al D a n c) 55)).alloc (.cells (uCe N' ki' kp' al' D' a' n' c') 55)=W0):=aH hW0.symm;have HPe:=aH hP;clear hW0 hP;rcases hcs with⟨e1,hR⟩|⟨e1,e2,hR⟩|⟨e1,e2,e3,hR⟩|⟨e1,e2,e3,e4,hR⟩|⟨e1,e2,e3,e4,hR⟩
 ·have t1:(ki !=1)=true:=by simp[e1]
  have HR:=aH hR;clear e1 hR;go_enter Tryz.func105,Tryz.ntmps105;go_wp2;go_ret;exact aB HR.out.symm (by have:=HB0.out;rw[<-HWE.out]at this;exact this)
 ·have t1:(ki !=1)=false:=by simp[e1]
  have t2:(ki' !=1)=true:=by simp[e2]
  have HR:=aH hR;clear e1 e2 hR;go_enter Tryz.func105,Tryz.ntmps105;go_wp2;go_ret;exact aB HR.out.symm (by have:=HB0.out;rw[<-HWE.out]at this;exact this)
 ·have t1:(ki !=1)=false:=by simp[e1]
  have t2:(ki' !=1)=false:=by simp[e2]
  have t3:(D.toList==D'.toList)=false:=beq_eq_false_iff_ne.2 e3;have t3':(D.toList !=D'.toList)=true:=by simp only[bne,t3];rfl
  have HR:=aH hR;clear e1 e2 e3 hR;go_enter Tryz.func105,Tryz.ntmps105;go_wp2;go_ret;exact aB HR.out.symm (by have:=HB0.out;rw[<-HWE.out]at this;exact this)
 ·have t1:(ki !=1)=false:=by simp[e1]
  have t2:(ki' !=1)=false:=by simp[e2]
  have t3:(D.toList==D'.toList)=true:=beq_iff_eq.2 e3;have t3':(D.toList !=D'.toList)=false:=by simp only[bne,t3];rfl
  have t4:((n:Int) !=(n':Int))=true:=by rw[bne_iff_ne];omega
  have HR:=aH hR;clear e1 e2 e3 e4 hR;go_enter Tryz.func105,Tryz.ntmps105;go_wp2;go_ret;exact aB HR.out.symm (by have:=HB0.out;rw[<-HWE.out]at this;exact this)
 have t1:(ki !=1)=false:=by simp[e1]
 have t2:(ki' !=1)=false:=by simp[e2]
 have t3:(D.toList==D'.toList)=true:=beq_iff_eq.2 e3;have t3':(D.toList !=D'.toList)=false:=by simp only[bne,t3];rfl
 subst e4;have t4:((n:Int) !=(n:Int))=false:=by simp
 have hll:l.length=l'.length:=by rw[<-HLn.out,<-HLn'.out]
 have HIff:=aH (alRs_iff hll);have HR:=aH hR;clear e1 e2 e3 hR hll;go_enter Tryz.func105,Tryz.ntmps105;go_wp2_with fail
 rw[HWE.out,<-HPe.out];clear x1 x4 x5 y1 y4 y5 t1 t2 t3 t3' t4;go_loopw [5] (fun i wr=>∃(k:Nat) (wx:World),wx=wr/\k<=n/\i=.int .i64 k/\Hid (Below W0.heap.size W0 wx)/\Hid (∀(j:Nat) (r r':Rl),j<k->l[j]?=some r->l'[j]?=some r'->alR r r'=true)) (fun i _=>n-(intOf i).toNat)
 case atStart=>exact⟨0,_,rfl,by omega,rfl,aH (Below.refl _ _),aH (fun j r r' h=>by omega)⟩
 case round=>
  obtain⟨k,wx,rfl,hk,rfl,HK,HA⟩:=hrel;have x5:wx.cell? ⟨P,5,none⟩=some (.slice a n c):=(HB.out.1.next HK.out).cell;by_cases hlt:k<n
  ·have hlti:(k:Int)<(n:Int):=by omega
   have HLT:=aH hlt;have hk1:k<l.length:=by have:=HLn.out;omega
   have hk2:k<l'.length:=by have:=HLn'.out;omega
   have hbx:=after HB0.out HK.out;obtain⟨b1,o1,hae1,hB1,hc1⟩:=(HS.out _ hbx).cells (by intro e;rw[e]at hk1;simp at hk1);subst hae1;obtain⟨b2,o2,hae2,hB2,hc2⟩:=(HS'.out _ hbx).cells (by intro e;rw[e]at hk2;simp at hk2);subst hae2;obtain⟨c0,c1,c2,c3⟩:=dN (fun q hq=>hc1 k hk1 q hq);obtain⟨d0,d1,d2,d3⟩:=dN (fun q hq=>hc2 k hk2 q hq);have HXx:Hid (l[k]?=some l[k]):=aH (iS hk1);have HYy:Hid (l'[k]?=some l'[k]):=aH (iS hk2);generalize l[k]'hk1=x at c0 c1 c2 c3 HXx;generalize l'[k]'hk2=y at d0 d1 d2 d3 HYy;obtain⟨xp,xk,xs,xa⟩:=x;obtain⟨yp,yk,ys,ya⟩:=y;simp only[]at c0 c1 c2 c3 d0 d1 d2 d3;obtain⟨Wa,hWa⟩:=aE (wx.alloc (.cells #[.int .i64 xp,.int .i64 xk,.int .i64 xs,.int .i64 xa] 57));have hba:Below wx.heap.size wx Wa:=by rw[hWa];exact aC wx _
   have y5:Wa.cell? ⟨P+1,5,none⟩=some (.slice (some ⟨b2,o2,none⟩) n c'):=(HB.out.2.1.next (after HK.out hba)).cell;have f0:Wa.cell? ⟨b2,o2+k*4,none⟩=some (.int .i64 yp):=(hba.cell (p:=⟨b2,o2+k*4,none⟩) (bM d0)).trans d0;have f1:Wa.cell? ⟨b2,o2+k*4+1,none⟩=some (.int .i64 yk):=(hba.cell (p:=⟨b2,o2+k*4+1,none⟩) (bM d1)).trans d1;have f2:Wa.cell? ⟨b2,o2+k*4+2,none⟩=some (.int .i64 ys):=(hba.cell (p:=⟨b2,o2+k*4+2,none⟩) (bM d2)).trans d2;have f3:Wa.cell? ⟨b2,o2+k*4+3,none⟩=some (.int .i64 ya):=(hba.cell (p:=⟨b2,o2+k*4+3,none⟩) (bM d3)).trans d3;rw[hWa]at y5 f0 f1 f2 f3;have HB2:=aH (mE (w:=wx) (A:=#[.int .i64 xp,.int .i64 xk,.int .i64 xs,.int .i64 xa]) (B:=#[.int .i64 yp,.int .i64 yk,.int .i64 ys,.int .i64 ya]) (T:=57) (U:=57));have HKx:=aH (after HK.out HB2.out.2.2);obtain⟨Wb,hWb⟩:=aE ((wx.alloc (.cells #[.int .i64 xp,.int .i64 xk,.int .i64 xs,.int .i64 xa] 57)).alloc (.cells #[.int .i64 yp,.int .i64 yk,.int .i64 ys,.int .i64 ya] 57));rw[<-hWb]at HB2 HKx;have u0:Wb.cell? ⟨wx.heap.size,0,none⟩=some (.int .i64 xp):=HB2.out.1.cell;have u1:Wb.cell? ⟨wx.heap.size,1,none⟩=some (.int .i64 xk):=HB2.out.1.cell;have u3:Wb.cell? ⟨wx.heap.size,3,none⟩=some (.int .i64 xa):=HB2.out.1.cell;have w0:Wb.cell? ⟨wx.heap.size+1,0,none⟩=some (.int .i64 yp):=HB2.out.2.1.cell;have w1:Wb.cell? ⟨wx.heap.size+1,1,none⟩=some (.int .i64 yk):=HB2.out.2.1.cell;have w3:Wb.cell? ⟨wx.heap.size+1,3,none⟩=some (.int .i64 ya):=HB2.out.2.1.cell;rw[hWb]at u0 u1 u3 w0 w1 w3;have HWb:=aH hWb.symm;have hcs:(xp≠yp/\alR ⟨xp,xk,xs,xa⟩ ⟨yp,yk,ys,ya⟩=false)\/(xp=yp/\xk≠yk/\alR ⟨xp,xk,xs,xa⟩ ⟨yp,yk,ys,ya⟩=false)\/(xp=yp/\xk=yk/\xa≠ya/\alR ⟨xp,xk,xs,xa⟩ ⟨yp,yk,ys,ya⟩=false)\/(xp=yp/\xk=yk/\xa=ya/\alR ⟨xp,xk,xs,xa⟩ ⟨yp,yk,ys,ya⟩=true):=by
    unfold alR;simp only[];by_cases e1:xp=yp
    ·by_cases e2:xk=yk
     ·by_cases e3:xa=ya
      ·exact .inr (.inr (.inr ⟨e1,e2,e3,by simp[e1,e2,e3]⟩))
      ·exact .inr (.inr (.inl ⟨e1,e2,e3,by simp[e3]⟩))
     ·exact .inr (.inl ⟨e1,e2,by simp[e2]⟩)
    ·exact .inl ⟨e1,by simp[e1]⟩
   clear hbx hc1 hc2 hB1 hB2 hk1 hk2 hWa hba d0 d1 d2 d3 hWb hlt hk;rcases hcs with⟨e1,h⟩|⟨e1,e2,h⟩|⟨e1,e2,e3,h⟩|⟨e1,e2,e3,h⟩
   rotate_left 3
   ·have HA2:Hid (∀(j:Nat) (r r':Rl),j<k+1->l[j]?=some r->l'[j]?=some r'->alR r r'=true):=aH (fun j r r' hj hr hr'=>by
     rcases Nat.lt_or_ge j k with h1|h1
     ·exact HA.out j r r' h1 hr hr'
     ·have:j=k:=by omega
      subst this;rw[HXx.out]at hr;cases hr;rw[HYy.out]at hr';cases hr';exact h)
    have s1:(xp !=yp)=false:=by simp[e1]
    have s2:(xk !=yk)=false:=by simp[e2]
    have s3:(xa !=ya)=false:=by simp[e3]
    clear e1 e2 e3 h;go_wp2;rw[HWb.out];go_roundw
    case rel=>exact⟨k+1,_,rfl,by have:=HLT.out;omega,by go_num,HKx,HA2⟩
    case measure=>have:=HLT.out;simp[intOf];omega
   all_goals
    have HE:Hid (R=false):=aH (by
     rw[HR.out];cases ha:alRs l l'
     ·rfl
     ·have:=(HIff.out.1 ha) k _ _ HXx.out HYy.out;rw[h]at this;cases this)
    have HBf:=aH (after HB0.out HKx.out);first
     |(have s1:(xp !=yp)=true:=by simpa using e1)
     |(have s1:(xp !=yp)=false:=by simp[e1])
    (try first
      |(have s2:(xk !=yk)=true:=by simpa using e2)
      |(have s2:(xk !=yk)=false:=by simp[e2]))
    (try (have s3:(xa !=ya)=true:=by simpa using e3));(try clear e1);(try clear e2);(try clear e3);clear h;go_wp2;go_ret;exact aB HE.out.symm (by have:=HBf.out;rw[<-HWb.out]at this;exact this)
  ·have hnlt:¬(k:Int)<(n:Int):=by omega
   have HE:Hid (R=true):=aH (by
    rw[HR.out];exact HIff.out.2 (fun j r r' hr hr'=>HA.out j r r' (by have:=(eX hr).1;have:=HLn.out;omega) hr hr'))
   have HBf:=aH (after HB0.out HK.out);clear hk hlt;go_wp2;go_ret;exact aB HE.out.symm HBf.out
structure UcI (S:List Sc)(ins:List Bool)(P:List Int)(U0 U:List (List Bool))(tb:Bool)(i k q:Nat):Prop where
 un:UnI S ins P U
 cnt:pQ U<=pQ U0
 trn:tb=true->pQ U<pQ U0
 cls:tb=false->∀(i' k':Nat) (s t:Sc),S[i']?=some s->S[k']?=some t->unG U i' k'=false->∀(q':Nat) (r r':Rl),s.rels[q']?=some r->t.rels[q']?=some r'->(i'<i\/(i'=i/\(k'<k\/(k'=k/\q'<q))))->unG U r.sym.toNat r'.sym.toNat=false
theorem UcI.first {S:List Sc}{ins:List Bool}{P:List Int}{U:List (List Bool)}(h:UnI S ins P U):UcI S ins P U U false 0 0 0:=⟨h,Nat.le_refl _,(fun h=>by cases h),fun _ i' k' s t _ _ _ q' r r' _ _ hc=>by omega⟩
theorem UcI.skip {S:List Sc}{ins:List Bool}{P:List Int}{U0 U:List (List Bool)}{tb:Bool}{i k q:Nat}{s t:Sc}{r r':Rl}(h:UcI S ins P U0 U tb i k q)(hs:S[i]?=some s)(ht:S[k]?=some t)(hr:s.rels[q]?=some r)(hr':t.rels[q]?=some r')(hf:unG U r.sym.toNat r'.sym.toNat=false):UcI S ins P U0 U tb i k (q+1):=by
 refine⟨h.un,h.cnt,h.trn,fun hb i' k' s' t' hs' ht' hu q' x x' hx hx' hc=>?_⟩;by_cases e:i'=i/\k'=k/\q'=q
 ·obtain⟨rfl,rfl,rfl⟩:=e;rw[hs]at hs';cases hs';rw[ht]at ht';cases ht';rw[hr]at hx;cases hx;rw[hr']at hx';cases hx';exact hf
 ·exact h.cls hb i' k' s' t' hs' ht' hu q' x x' hx hx' (by omega)
theorem UcI.put {S:List Sc}{ins:List Bool}{j:Nat}{U0 U:List (List Bool)}{tb:Bool}{i k q:Nat}{s t:Sc}{r r':Rl}(hu:bN S=true)(hin:ins.length=S.length)(hfx:mT S ins (fT S ins j)=fT S ins j)(h:UcI S ins (endL ins (fT S ins j)) U0 U tb i k q)(hs:S[i]?=some s)(ht:S[k]?=some t)(hr:s.rels[q]?=some r)(hr':t.rels[q]?=some r')(hf:unG U i k=false)(hU:unG U r.sym.toNat r'.sym.toNat=true):UcI S ins (endL ins (fT S ins j)) U0 (setU U i k) true i k (q+1):=by
 have hi:=(eX hs).1;have hk:=(eX ht).1;have h1:=leftU_one h.un.sq hi hk hf;have h2:=h.cnt;exact⟨h.un.put hu hin hfx hs ht hr hr' hU,by omega,fun _=>by omega,(fun h=>by cases h)⟩
theorem UcI.cell {S:List Sc}{ins:List Bool}{P:List Int}{U0 U:List (List Bool)}{tb:Bool}{i k q:Nat}{s:Sc}(h:UcI S ins P U0 U tb i k q)(hs:S[i]?=some s)(hc:unG U i k=true\/s.rels.length<=q):UcI S ins P U0 U tb i (k+1) 0:=by
 refine⟨h.un,h.cnt,h.trn,fun hb i' k' s' t' hs' ht' hu q' x x' hx hx' hc'=>?_⟩;by_cases e:i'=i/\k'=k
 ·obtain⟨rfl,rfl⟩:=e;rcases hc with hc|hc
  ·rw[hc]at hu;cases hu
  ·rw[hs]at hs';cases hs';have:=(eX hx).1;exact h.cls hb i' k' s t' hs ht' hu q' x x' hx hx' (by omega)
 ·exact h.cls hb i' k' s' t' hs' ht' hu q' x x' hx hx' (by omega)
theorem UcI.row {S:List Sc}{ins:List Bool}{P:List Int}{U0 U:List (List Bool)}{tb:Bool}{i k:Nat}(h:UcI S ins P U0 U tb i k 0)(hk:S.length<=k):UcI S ins P U0 U tb (i+1) 0 0:=by
 refine⟨h.un,h.cnt,h.trn,fun hb i' k' s' t' hs' ht' hu q' x x' hx hx' hc'=>?_⟩;have:=(eX ht').1;exact h.cls hb i' k' s' t' hs' ht' hu q' x x' hx hx' (by omega)
theorem UcI.done {S:List Sc}{ins:List Bool}{P:List Int}{U0 U:List (List Bool)}{i:Nat}(h:UcI S ins P U0 U false i 0 0)(hi:S.length<=i):ClosedU S U:=by
 intro a b s t hs ht hu q r r' hr hr';have:=(eX hs).1;exact h.cls rfl a b s t hs ht hu q r r' hr hr' (by omega)
theorem ms_at {w:World}{a:Option Addr}{n:Nat}{L:List Ms}(hs:SL mX 6 w w.heap.size a n L){i:Nat}{m:Ms}(h:L[i]?=some m):∃b off,a=some ⟨b,off,none⟩/\∀v,Below w.heap.size w v->v.cell? ⟨b,off+i*6,none⟩=some (.string ⟨m.sc.name.toArray⟩)/\v.cell? ⟨b,off+i*6+1,none⟩=some (.int .i64 m.sc.kind)/\v.cell? ⟨b,off+i*6+2,none⟩=some (.bool m.sc.keep)/\v.cell? ⟨b,off+i*6+3,none⟩=some (.int .i64 m.sc.align)/\v.cell? ⟨b,off+i*6+4,none⟩=some (.string ⟨m.sc.data.toArray⟩)/\v.cell? ⟨b,off+i*6+5,none⟩=some (.slice m.ad m.sc.rels.length m.cap):=by
 have hi:=(eX h).1;have he:=(eX h).2;obtain⟨b,off,e,-,-⟩:=hs.cells (hs.ne (by rw[hs.len];exact hi));subst e;refine⟨b,off,rfl,fun v hv=>?_⟩;obtain⟨b',off',e,-,hc⟩:=(hs.next hv).cells ((hs.next hv).ne (by rw[hs.len];exact hi));injection e with e
 injection e with e1 e2
 subst e1 e2;have:=lT (fun j hj=>hc i hi j hj);rw[he]at this;exact this
theorem rl_at {w:World}{a:Option Addr}{n:Nat}{l:List Rl}(hs:SL kY 4 w w.heap.size a n l){q:Nat}{r:Rl}(h:l[q]?=some r):∃b off,a=some ⟨b,off,none⟩/\∀v,Below w.heap.size w v->v.cell? ⟨b,off+q*4+2,none⟩=some (.int .i64 r.sym):=by
 have hi:=(eX h).1;have he:=(eX h).2;obtain⟨b,off,e,-,-⟩:=hs.cells (hs.ne (by rw[hs.len];exact hi));subst e;refine⟨b,off,rfl,fun v hv=>?_⟩;obtain⟨b',off',e,-,hc⟩:=(hs.next hv).cells ((hs.next hv).ne (by rw[hs.len];exact hi));injection e with e
 injection e with e1 e2
 subst e1 e2;have:=(dN (fun j hj=>hc q hi j hj)).2.2.1;rw[he]at this;exact this
structure ApI (S:List Sc)(ins:List Bool)(i:Nat)(U:List (List Bool)):Prop where
 ln:U.length=i
 sq:∀r∈U,r.length=S.length
 eq:∀a b,a<i->b<S.length->unG U a b=unZ S ins a b
theorem ApI.grow {S:List Sc}{ins:List Bool}{i un:Nat}{U:List (List Bool)}{x:List Bool}(h:ApI S ins i U)(hn:S.length=un)(hx:x.length=un/\∀q,q<un->x[q]?=some (unZ S ins i q)):ApI S ins (i+1) (U++ [x]):=by
 refine⟨by simp[h.ln],fun r hr=>?_,fun a b ha hb=>?_⟩
 ·rcases List.mem_append.1 hr with h1|h1
  ·exact h.sq r h1
  ·rw[List.mem_singleton.1 h1,hx.1,hn]
 ·by_cases e:a=i
  ·subst e;unfold unG;rw[List.getElem?_append_right (by rw[h.ln];omega),h.ln,Nat.sub_self];simp only[List.getElem?_cons_zero,Option.getD_some];rw[hx.2 b (by omega)];rfl
  ·rw[<-h.eq a b (by omega) hb];unfold unG;rw[List.getElem?_append_left (by rw[h.ln];omega)]
theorem ApI.un {S:List Sc}{ins:List Bool}{j:Nat}{U:List (List Bool)}(h:ApI S ins S.length U)(hu:bN S=true)(hin:ins.length=S.length)(hfx:mT S ins (fT S ins j)=fT S ins j):UnI S ins (endL ins (fT S ins j)) U:=
 unI_start hu hin hfx ⟨h.ln,h.sq⟩ (fun i k hi hk=>h.eq i k hi hk)
def iD (S:List Sc) (rep:List Int) (kd i:Nat):List Nat:=(List.range i).filter (fun q=>decide (bG S q=(kd:Int)/\rep[q]?=some (q:Int)))
def jK (S:List Sc)(rep:List Int)(n kd:Nat):List Nat:=(List.range kd).flatMap (fun x=>iD S rep (x+1) n)
theorem kindL_in {S:List Sc}{rep:List Int}{kd i:Nat}(h:bG S i=(kd:Int))(h':rep[i]?=some (i:Int)):iD S rep kd (i+1)=iD S rep kd i++ [i]:=by
 unfold iD;rw[List.range_succ,List.filter_append];simp[h,h']
theorem kindL_out {S:List Sc}{rep:List Int}{kd i:Nat}(h:¬(bG S i=(kd:Int)/\rep[i]?=some (i:Int))):iD S rep kd (i+1)=iD S rep kd i:=by
 unfold iD;rw[List.range_succ,List.filter_append];simp[h]
theorem jY {S:List Sc}{rep:List Int}{kd i q:Nat}:q∈iD S rep kd i↔q<i/\bG S q=(kd:Int)/\rep[q]?=some (q:Int):=by
 unfold iD;simp[List.mem_filter]
theorem kindL_up (S:List Sc)(rep:List Int)(kd i:Nat):(iD S rep kd i).Pairwise (fun x y=>jS S x<jS S y):=by
 refine List.Pairwise.imp_of_mem (R:=fun x y=>x<y) (fun ha hb hab=>?_) (List.Pairwise.filter _ List.pairwise_lt_range);have h1:=(jY.1 ha).2.1;have h2:=(jY.1 hb).2.1;unfold jS;rw[h1,h2];omega
theorem qM (S:List Sc)(rep:List Int)(n kd:Nat):jK S rep n (kd+1)=jK S rep n kd++iD S rep (kd+1) n:=by
 unfold jK;rw[List.range_succ,List.flatMap_append];simp
theorem doneN_mem {S:List Sc}{rep:List Int}{n kd q:Nat}:q∈jK S rep n kd↔ ∃x,x<kd/\q∈iD S rep (x+1) n:=by
 unfold jK;simp[List.mem_flatMap]
theorem doneN_up {S:List Sc}{rep:List Int}{n:Nat}(hn:n<=256):∀kd,(jK S rep n kd).Pairwise (fun x y=>jS S x<jS S y)
 |0=>List.Pairwise.nil
 |kd+1=>by
  rw[qM];refine List.pairwise_append.2 ⟨doneN_up hn kd,kindL_up S rep _ n,fun a ha b hb=>?_⟩;obtain⟨x,hx,ha⟩:=doneN_mem.1 ha;obtain⟨a1,a2,-⟩:=jY.1 ha;obtain⟨b1,b2,-⟩:=jY.1 hb;unfold jS;rw[a2,b2];push_cast;omega
theorem doneN_all {S:List Sc}{rep:List Int}(hl:rep.length<=256)(hn:rep.length=S.length)(hk:∀s∈S,1<=s.kind/\s.kind<=3):jK S rep S.length 3=aJ S rep:=by
 have hup:=doneN_up (S:=S) (rep:=rep) (n:=S.length) (by omega) 3;refine standL_one hl ?_ (hup.imp (fun h=>by omega));refine(List.perm_ext_iff_of_nodup (hup.imp (fun h e=>by subst e;omega)) ?_).2 (fun a=>?_)
 ·unfold kW;exact(List.pairwise_lt_range.imp (fun h=>Nat.ne_of_lt h)).filter _
 ·rw[lO,doneN_mem];constructor
  ·rintro⟨x,-,h⟩;exact(jY.1 h).2.2
  ·intro h;have ha:a<S.length:=by rw[<-hn];exact(eX h).1
   have hs:=iS ha;obtain⟨k1,k2⟩:=hk _ (List.getElem_mem ha);refine⟨((S[a]).kind-1).toNat,by omega,jY.2 ⟨ha,?_,h⟩⟩;unfold bG;rw[hs];simp only[];omega
structure Tw (w u:World)(d e:List Int)(a:Option Addr)(c:Nat)(a':Option Addr)(c':Nat):Prop where
 o1:u.ownsRow w.heap.size 3 1 (.slice a d.length c) d.length (d.flatMap dT)
 o2:u.ownsRow w.heap.size 3 1 (.slice a' e.length c') e.length (e.flatMap dT)
 ap:∀g,(Value.slice a d.length c).ownBlock=some g->(Value.slice a' e.length c').ownBlock≠some g
 kk:Below w.heap.size w u
theorem Tw.nil (w:World):Tw w w [] [] none 0 none 0:=⟨World.ownsRow_nil _ _ _ _,World.ownsRow_nil _ _ _ _,(fun g h=>by cases h),Below.refl _ _⟩
theorem Tw.swap {w u:World}{d e:List Int}{a:Option Addr}{c:Nat}{a':Option Addr}{c':Nat}(h:Tw w u d e a c a' c'):Tw w u e d a' c' a c:=
 ⟨h.o2,h.o1,fun g h1 h2=>h.ap g h2 h1,h.kk⟩
theorem Tw.grow {w u w2:World}{d e:List Int}{a:Option Addr}{c:Nat}{a':Option Addr}{c':Nat}{g cap:Nat}{k:Int}(h:Tw w u d e a c a' c')
  (hown:w2.ownsRow w.heap.size 3 1 (.slice (some ⟨g,0,none⟩) (d.length+1) cap) (d.length+1) (d.flatMap dT++dT k))
  (hgrow:(u.alloc (.cells #[.int .i64 k] 3)).grownBy w2 (Value.slice a d.length c).ownBlock) (hlie:(Value.slice a d.length c).ownBlock=some g\/g=u.heap.size+1):Tw w w2 (d++ [k]) e (some ⟨g,0,none⟩) cap a' c':=by
 have h2:=h.o2.alloc (.cells #[.int .i64 k] 3);have hs:=h.kk.size;refine⟨by simpa[List.flatMap_append]using hown,?_,fun g' hg' he=>?_,(h.kk.alloc h.kk.size _).grown hgrow (by rw[World.size_alloc];omega) (fun j hj=>(h.o1.lt j hj).1)⟩
 ·refine⟨h2.1,?_⟩;rcases h2.2 with hn|⟨g',cap',cur,hv,hbg,hgg,rest⟩
  ·exact .inl hn
  ·refine .inr ⟨g',cap',cur,hv,hbg,?_,rest⟩;rw[<-hgg];refine hgrow.block g' (lt_of_block hgg) (fun e1=>?_);exact h.ap g' e1.symm (by rw[hv];rfl)
 ·have e1:g=g':=by simpa[Value.ownBlock]using hg'
  subst e1;rcases hlie with h1|h1
  ·exact h.ap g h1 he
  ·have:=(h.o2.lt g he).2;omega
theorem units_kind {L:List Sc}(h:bN L=true):∀s∈L,1<=s.kind/\s.kind<=3:=by
 intro s hs;unfold bN at h;simp only[Bool.and_eq_true,decide_eq_true_eq,List.all_eq_true]at h;have h1:=h.2 s hs;unfold dO at h1;simp only[Bool.and_eq_true]at h1;have h2:=head_iff.1 (sec_iff.1 h1.1).1;exact⟨h2.2.1,h2.2.2.1⟩
def LiveP (S:List Sc)(rep:List Int)(w:World)(e:Ending)(w':World):Prop:=∃(a:Option Addr) (c:Nat) (a':Option Addr) (c':Nat),e=.returned (.tuple #[.slice a (aJ S rep).length c,.slice a' (aJ S rep).length c'])/\w'.ownsRow w.heap.size 3 1 (.slice a (aJ S rep).length c) (aJ S rep).length (((aJ S rep).map Int.ofNat).flatMap dT)/\w'.ownsRow w.heap.size 3 1 (.slice a' (aJ S rep).length c') (aJ S rep).length ((eP S rep).flatMap dT)/\Below w.heap.size w w'
theorem dX {w:World}{pb po pn:Nat}{P:List Int}(h:SL dT 1 w w.heap.size (some ⟨pb,po,none⟩) pn P){u:World}(hu:Below w.heap.size w u){q:Nat}{v:Int}(hq:P[q]?=some v):u.cell? ⟨pb,po+q,none⟩=some (.int .i64 v):=by
 have hl:=(eX hq).1;have hv:=(eX hq).2;obtain⟨b,off,e,hB,hc⟩:=(h.next hu).cells (by intro e;rw[e]at hl;simp at hl);cases e
 have d0:=hc q hl 0 (by decide);simp only[dT,Nat.add_zero,Nat.mul_one,List.getElem?_cons_zero]at d0;rw[d0,hv]
theorem doneN_len {S:List Sc}{rep:List Int}{n kd i:Nat}(hn:n<=256)(hi:i<=n):(jK S rep n kd++iD S rep (kd+1) i).length<=1024\/3<=kd:=by
 by_cases h:3<=kd
 ·exact .inr h
 ·left;have key:∀ x m,(iD S rep x m).length<=m:=fun x m=>by unfold iD;have:=List.length_filter_le (fun q=>decide (bG S q=(x:Int)/\rep[q]?=some (q:Int))) (List.range m);simpa using this
  have h2:∀kd,(jK S rep n kd).length<=n*kd:=by
   intro kd;induction kd with
   |zero=>simp[jK]
   |succ k ih=>rw[qM,List.length_append];have:=key (k+1) n;rw[Nat.mul_succ];omega
  have h3:=h2 kd;have h4:=key (kd+1) i;rw[List.length_append];have h5:n*kd<=256*2:=Nat.mul_le_mul hn (by omega);omega
theorem rLive_any (ua:Option Addr)(un uc:Nat)(L:List Ms)(ra:Option Addr)(rc:Nat)(rep:List Int)(w:World)(hs:SL mX 6 w w.heap.size ua un L)(hu:bN (L.map (·.sc))=true)(hr:SL dT 1 w w.heap.size ra un rep):
  Calls Tryz.prog 74 #[.slice ua un uc,.slice ra un rc] w (LiveP (L.map (·.sc)) rep w):=by
 have hlen:(L.map (·.sc)).length=un:=by rw[List.length_map];exact hs.len.symm
 have hun:un<=256:=by rw[<-hlen];exact fK hu
 have hni:(un:Int)<=256:=by omega
 obtain⟨S,hS⟩:=aE (L.map (·.sc));have HLS:Hid (∀(i:Nat) (m:Ms),L[i]?=some m->S[i]?=some m.sc):=aH (fun i m h=>by rw[hS,List.getElem?_map,h];rfl);have HLL:=aH hs.len;rw[<-hS]at hlen hu⊢;have HUn:=aH hun;have HMs:=aH hs;have HRs:=aH hr;have HRl:Hid (rep.length=un):=aH hr.len.symm;have HEnd:Hid (jK S rep un 3=aJ S rep):=aH (by
  rw[<-hlen];exact doneN_all (by rw[HRl.out];exact hun) (by rw[HRl.out,hlen]) (units_kind hu))
 obtain⟨i0,hgi,hz0,hz1,hz2⟩:=info_parts pA;have HT0:Hid (Tw w w (([]:List Nat).map Int.ofNat) (([]:List Nat).map (fun k=>eE S rep k un)) none 0 none 0):=aH (Tw.nil w);clear hs hu hr hlen hun hS;go_enter Tryz.func74,Tryz.ntmps74;go_wp2_with fail
 go_loopw [6,7,8] (fun ov av kv wr=>∃(kd:Nat) (wx:World) (d:List Nat) (a:Option Addr) (c:Nat) (a':Option Addr) (c' q:Nat),wx=wr/\1<=kd/\kd<=4/\ov=.slice a q c/\av=.slice a' q c'/\kv=.int .i64 kd/\Hid (q=d.length/\d=jK S rep un (kd-1))/\Hid (Tw w wx (d.map Int.ofNat) (d.map (fun k=>eE S rep k un)) a c a' c')) (fun _ _ kv _=>4-(intOf kv).toNat)
 case atStart=>exact⟨1,_,[],none,0,none,0,0,rfl,by omega,by omega,rfl,rfl,rfl,aH ⟨rfl,rfl⟩,HT0⟩
 case round=>
  clear HT0;obtain⟨kd,wx,d,a,c,a',c',q,rfl,hk1,hk4,rfl,rfl,rfl,HD,HT⟩:=hrel;by_cases hlt:kd<=3
  ·have hkd:(kd:Int)<=3:=by omega
   have HLT:=aH hlt;have HK1:=aH hk1;have HD2:Hid (q=d.length/\d=jK S rep un (kd-1)++iD S rep kd 0):=aH ⟨HD.out.1,by rw[HD.out.2];simp[iD]⟩;clear hlt hk1 hk4 HD;go_wp2_with fail
   go_loopw [6,7,9] (fun ov av iv wr=>∃(i:Nat) (wx:World) (d:List Nat) (a:Option Addr) (c:Nat) (a':Option Addr) (c' q:Nat),wx=wr/\i<=un/\ov=.slice a q c/\av=.slice a' q c'/\iv=.int .i64 i/\Hid (q=d.length/\d=jK S rep un (kd-1)++iD S rep kd i)/\Hid (Tw w wx (d.map Int.ofNat) (d.map (fun k=>eE S rep k un)) a c a' c')) (fun _ _ iv _=>un-(intOf iv).toNat)
   case atStart=>exact⟨0,_,d,a,c,a',c',q,rfl,by omega,rfl,rfl,rfl,HD2,HT⟩
   case round=>
    clear HT HD2;obtain⟨i,wx,d,a,c,a',c',q,rfl,hi,rfl,rfl,rfl,HD,HT⟩:=hrel;by_cases hlt:i<un
    ·have hlti:(i:Int)<(un:Int):=by omega
     have HLTi:=aH hlt;have hki:i<L.length:=by have:=HLL.out;omega
     have HMi:Hid (L[i]?=some L[i]):=aH (iS hki);generalize L[i]'hki=m at HMi;obtain⟨b,off,hua,hcs⟩:=ms_at HMs.out HMi.out;subst hua;obtain⟨v,hv⟩:=aG (l:=rep) (i:=i) (by rw[HRl.out];exact hlt);obtain⟨rb,ro,hra,-,-⟩:=HRs.out.cells (by intro e;rw[e]at hv;cases hv);subst hra;have c1:=(hcs wx HT.out.kk).2.1;have r0:wx.cell? ⟨rb,ro+i,none⟩=some (.int .i64 v):=dX HRs.out HT.out.kk hv;have HKi:Hid (bG S i=m.sc.kind):=aH (by unfold bG;rw[HLS.out _ _ HMi.out]);obtain⟨ki,hke⟩:=aE m.sc.kind;rw[<-hke]at c1 HKi;have HRv:=aH hv;clear hlt hi hki hcs hv hke HMi;by_cases hok:ki=(kd:Int)/\v=(i:Int)
     ·obtain⟨e1,e2⟩:=hok;have t1:(ki !=(kd:Int))=false:=by simp[e1]
      have t2:(v !=(i:Int))=false:=by simp[e2]
      have HD5:Hid (q+1=(d++ [i]).length/\d++ [i]=jK S rep un (kd-1)++iD S rep kd (i+1)):=aH ⟨by rw[List.length_append,HD.out.1];rfl,by rw[kindL_in (by rw[HKi.out];exact e1) (by rw[HRv.out,e2]),<-List.append_assoc,<-HD.out.2]⟩;have HQl:Hid (q<=1024):=aH (by
       have:=doneN_len (S:=S) (rep:=rep) (kd:=kd-1) HUn.out (show i<=un by have:=HLTi.out;omega);have h1:=HK1.out;have h2:=HLT.out;rw[show kd-1+1=kd by omega,<-HD.out.2,<-HD.out.1]at this;omega)
      clear e1 e2 HKi HRv;go_wp2_with fail
      go_loopw [10,11] (fun mv kv wr=>∃(k:Nat) (mo:Int),wr=wx/\k<=un/\mv=.int .i64 mo/\kv=.int .i64 k/\Hid (mo=eE S rep i k)) (fun _ kv _=>un-(intOf kv).toNat)
      case atStart=>exact⟨0,0,rfl,by omega,rfl,rfl,aH rfl⟩
      case round=>
       obtain⟨k,mo,rfl,hk,rfl,rfl,HMo⟩:=hrel;by_cases hltk:k<un
       ·have hltki:(k:Int)<(un:Int):=by omega
        have HLTk:=aH hltk;have hkk:k<L.length:=by have:=HLL.out;omega
        have HMk:Hid (L[k]?=some L[k]):=aH (iS hkk);generalize L[k]'hkk=m2 at HMk;obtain⟨b2,off2,hua,hcs⟩:=ms_at HMs.out HMk.out;injection hua with e
        injection e with e1 e2
        subst e1 e2;obtain⟨v2,hv⟩:=aG (l:=rep) (i:=k) (by rw[HRl.out];exact hltk);have c3:=(hcs wr HT.out.kk).2.2.2.1;have r1:wr.cell? ⟨rb,ro+k,none⟩=some (.int .i64 v2):=dX HRs.out HT.out.kk hv;have HAk:Hid (oF S k=m2.sc.align):=aH (by unfold oF;rw[HLS.out _ _ HMk.out]);obtain⟨al,hal⟩:=aE m2.sc.align;rw[<-hal]at c3 HAk;have HRv:=aH hv;clear hltk hk hkk hcs hv hal HMk;by_cases hvv:v2=(i:Int)
        ·have t3:(v2==(i:Int))=true:=by simp[hvv]
         have HMn:Hid (max mo al=eE S rep i (k+1)):=aH (by rw[eE,if_pos (by rw[HRv.out,hvv]),HMo.out,HAk.out]);clear hvv;go_wp2;go_roundw
         case rel=>exact⟨k+1,_,trivial,by have:=HLTk.out;omega,rfl,by go_num,HMn⟩
         case measure=>have:=HLTk.out;simp[intOf];omega
        ·have t3:(v2==(i:Int))=false:=by simp[hvv]
         have HMn:Hid (mo=eE S rep i (k+1)):=aH (by rw[eE,if_neg (by rw[HRv.out];simpa using hvv),HMo.out]);clear hvv;go_wp2;go_roundw
         case rel=>exact⟨k+1,_,trivial,by have:=HLTk.out;omega,rfl,by go_num,HMn⟩
         case measure=>have:=HLTk.out;simp[intOf];omega
       ·have hltki:¬(k:Int)<(un:Int):=by omega
        have hke:k=un:=by omega
        subst hke;have hx0:Hid (w.heap.size<=wr.heap.size):=aH HT.out.kk.size;have HNw:Hid ((wr.alloc (.cells #[.int .i64 (i:Int)] 3)).heap[wr.heap.size]?=some (.cells #[.int .i64 (i:Int)] 3)):=aH (heap_alloc_new wr _);have hdl:Hid ((d.map Int.ofNat).length=q):=aH (by rw[List.length_map];exact HD.out.1.symm);have hel:Hid ((d.map (fun x=>eE S rep x k)).length=q):=aH (by rw[List.length_map];exact HD.out.1.symm);clear hk hltk;go_wp2_with (at_builtin;first
         | (refine wpList_append_lies _ rfl _ _ 23 rfl w.heap.size 3 i0 (.int .i64 0) 1 8 Tryz.underlying23 hgi hz0 hz1 hz2 rfl (by decide) (.slice a q c) q ((d.map Int.ofNat).flatMap dT) rfl (by have:=HT.out.o1;rw [hdl.out] at this;exact this.alloc _) ⟨wr.heap.size,0,none⟩ 1 1 (dT (i:Int)) rfl rfl (World.news_of_block (cs:=#[.int .i64 (i:Int)]) (t:=3) (fr:=(0,0)) HNw.out) (by simp [dT,Value.oneCell']) (by decide) (by have:=HQl.out;unfold maxLen;omega) (by have:=HQl.out;omega) (by have:=hx0.out;simp;omega) (wr.heap.size+1) (by simp) ?_;intro g cap w2 hown2 hgrow2 hlie2 hlt2
            rw[<-hdl.out]at hown2 hgrow2 hlie2;have HT2:=aH (HT.out.grow hown2 hgrow2 hlie2);clear hown2 hgrow2 hlie2 hlt2;have hx1:Hid (w.heap.size<=w2.heap.size):=aH HT2.out.kk.size;have HNw2:Hid ((w2.alloc (.cells #[.int .i64 mo] 3)).heap[w2.heap.size]?=some (.cells #[.int .i64 mo] 3)):=aH (heap_alloc_new w2 _))
         | (refine wpList_append_lies _ rfl _ _ 23 rfl w.heap.size 3 i0 (.int .i64 0) 1 8 Tryz.underlying23 hgi hz0 hz1 hz2 rfl (by decide) (.slice a' q c') q ((d.map (fun x=>eE S rep x k)).flatMap dT) rfl (by have:=HT2.out.o2;rw [hel.out] at this;exact this.alloc _) ⟨w2.heap.size,0,none⟩ 1 1 (dT mo) rfl rfl (World.news_of_block (cs:=#[.int .i64 mo]) (t:=3) (fr:=(0,0)) HNw2.out) (by simp [dT,Value.oneCell']) (by decide) (by have:=HQl.out;unfold maxLen;omega) (by have:=HQl.out;omega) (by have:=hx1.out;simp;omega) (w2.heap.size+1) (by simp) ?_;intro g3 cap3 w3 hown3 hgrow3 hlie3 hlt3))
        rw[<-hel.out]at hown3 hgrow3 hlie3;have HT3:=aH (HT2.out.swap.grow hown3 hgrow3 hlie3).swap;have HT4:Hid (Tw w w3 ((d++ [i]).map Int.ofNat) ((d++ [i]).map (fun x=>eE S rep x k)) (some ⟨g,0,none⟩) cap (some ⟨g3,0,none⟩) cap3):=aH (by
         have:=HT3.out;rw[List.map_append,List.map_append,List.map_singleton,List.map_singleton,<-HMo.out];exact this)
        clear hown3 hgrow3 hlie3 hlt3 HNw HNw2;go_wp2;go_roundw
        case rel=>exact⟨i+1,_,_,_,_,_,_,q+1,rfl,by have:=HLTi.out;omega,rfl,rfl,by go_num,HD5,HT4⟩
        case measure=>have:=HLTi.out;simp[intOf];omega
     ·have hcs:(ki !=(kd:Int))=true\/((ki !=(kd:Int))=false/\(v !=(i:Int))=true):=by
       by_cases h:ki=(kd:Int)
       ·exact .inr ⟨by simp[h],by simp;exact fun e=>hok ⟨h,e⟩⟩
       ·exact .inl (by simp[h])
      have HD5:Hid (q=d.length/\d=jK S rep un (kd-1)++iD S rep kd (i+1)):=aH ⟨HD.out.1,by rw[kindL_out (fun h=>hok ⟨by rw[<-HKi.out];exact h.1,by have:=h.2;rw[HRv.out]at this;simpa using this⟩)];exact HD.out.2⟩;clear hok HKi HRv;rcases hcs with t1|⟨t1,t2⟩
      all_goals
       go_wp2;go_roundw
       case rel=>exact⟨i+1,_,_,_,_,_,_,_,rfl,by have:=HLTi.out;omega,rfl,rfl,by go_num,HD5,HT⟩
       case measure=>have:=HLTi.out;simp[intOf];omega
    ·have hnlt:¬(i:Int)<(un:Int):=by omega
     have hie:i=un:=by omega
     have HD5:Hid (q=d.length/\d=jK S rep un (kd+1-1)):=aH ⟨HD.out.1,by
      have h1:=HK1.out;have:=qM S rep un (kd-1);rw[show kd-1+1=kd by omega]at this;rw[Nat.add_sub_cancel,this,<-hie];have h2:=HD.out.2;rw[hie]at h2⊢;exact h2⟩
     clear hi hlt hie;go_wp2;go_roundw
     case rel=>exact⟨kd+1,_,_,_,_,_,_,_,rfl,by omega,by have:=HLT.out;omega,rfl,rfl,by go_num,HD5,HT⟩
     case measure=>have:=HLT.out;simp[intOf];omega
  ·have hnk:¬(kd:Int)<=3:=by omega
   have hke:kd=4:=by omega
   have HDe:Hid (q=(aJ S rep).length/\d=aJ S rep):=aH (by
    have h2:=HD.out.2;rw[hke,HEnd.out]at h2;exact⟨by rw[HD.out.1,h2],h2⟩)
   clear hlt hk1 hk4 hke;go_wp2;go_ret2;refine⟨a,c,a',c',by rw[<-HDe.out.1];rfl,?_,?_,HT.out.kk⟩
   ·have h1:=HT.out.o1;rw[List.length_map,<-HD.out.1]at h1;rw[<-HDe.out.1,<-HDe.out.2];exact h1
   ·have h1:=HT.out.o2;rw[List.length_map,<-HD.out.1]at h1;rw[<-HDe.out.1];unfold eP;rw[<-HDe.out.2,HRl.out];exact h1
end Go.Proofs.YtiohgaghmnpplaaGreatDoor
