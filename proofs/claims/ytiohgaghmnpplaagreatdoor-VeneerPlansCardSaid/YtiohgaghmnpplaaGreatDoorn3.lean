/- The reference's Decode. The law CodeDoes, walked. The reference of part: Fits; the reference's Number. The reference of part: is a relocation right; is a section. The reference of part: a relocation that lies within the bytes; whole. The reference of part: is a section right; Sec; of graph: Is. -/
import Derived.Test.YtiohgaghmnpplaaGreatDoorqD
import Derived.Test.YtiohgaghmnpplaaGreatDoorqA
import Derived.Test.YtiohgaghmnpplaaGreatDoorn2
import Derived.Test.YtiohgaghmnpplaaGreatDoorqE
import Derived.Deep.QuietTactic
import Derived.BigQuiet
import Derived.Test.YtiohgaghmnpplaaGreatDoorqI
import Derived.Test.YtiohgaghmnpplaaGreatDoorqJ
import Derived.Test.YtiohgaghmnpplaaGreatDoorn4
set_option maxRecDepth 100000
set_option maxHeartbeats 8000000
set_option linter.unusedVariables false
set_option linter.unusedSimpArgs false
namespace Go.Proofs.YtiohgaghmnpplaaGreatDoor
section
open Go.RowKit
theorem ROf_any (o:Int)(x:Nat)(hx:x<4294967296)(s:Nat)(hs:aF o=s)(h1:1<=s)(h2:s<=16)(a:Option Addr)(c:Nat)(w:World)(h:SL encU 1 w w.heap.size a (fvX s x).length (fvX s x)):Calls Tryz.prog 211 #[.int .i64 o,.slice a (fvX s x).length c] w (aP (dY (cH o s x)) w):=by
 have hc:s=1\/s=2\/s=3\/s=4\/s=5\/s=6\/s=7\/s=8\/s=9\/s=10\/s=11\/s=12\/s=13\/s=14\/s=15\/s=16:=by omega
 rcases hc with rfl|rfl|rfl|rfl|rfl|rfl|rfl|rfl|rfl|rfl|rfl|rfl|rfl|rfl|rfl|rfl
 ·exact rof1 o x hx hs a c w h
 ·exact rof2 o x hx hs a c w h
 ·exact rof3 o x hx hs a c w h
 ·exact rof45 o x hx 4 (.inl rfl) hs a c w h
 ·exact rof45 o x hx 5 (.inr rfl) hs a c w h
 ·exact rof6 o x hx hs a c w h
 ·exact rof78 o x hx 7 (.inl rfl) hs a c w h
 ·exact rof78 o x hx 8 (.inr rfl) hs a c w h
 ·exact rof9 o x hx hs a c w h
 ·exact rof10 o x hx hs a c w h
 ·exact rof11 o x hx hs a c w h
 ·exact rof12 o x hx hs a c w h
 ·exact rof13 o x hx hs a c w h
 ·exact rof14 o x hx hs a c w h
 ·exact rof15 o x hx hs a c w h
 ·exact rof16 o x hx hs a c w h
theorem infoUw:(Tryz.prog.info? 70).map (fun i=>(i.zero,i.size,i.bytes))=some (some (.int .u32 0),1,4):=by kernel_rfl
theorem cell_newU (w:World)(u:Value)(T:TypeId):∀j x,[u][j]?=some x->(w.alloc (.cells #[u] T)).cell? ((⟨w.heap.size,0,none⟩:Addr).add j)=some x:=by
 intro j x hj;match j,hj with
 |0,hj=>simp at hj;subst hj;simp[Addr.add]
theorem one_oneU (x:Int):∀u∈ [Value.int .u32 x],u.oneCell'=true:=by intro u hu;simp at hu;subst hu;rfl
theorem fvX_len (s x:Nat):(fvX s x).length=(jV s).length:=by unfold fvX lJ;simp
theorem fvX_take (s x k:Nat)(h:k<(jV s).length):(fvX s x).take (k+1)=(fvX s x).take k++ [fw x (jV s)[k].1.toNat (jV s)[k].2.toNat]:=by
 have h2:k<(fvX s x).length:=by rw[fvX_len];exact h
 rw[List.take_succ_eq_append_getElem h2];congr 2;simp only[fvX,lJ,List.getElem_map]
theorem RDecode_none (x:Nat)(hx:x<4294967296)(w:World)(h0:iK x=0):Calls Tryz.prog 190 #[.int .u32 x] w (aP (out2 (inZ,11)) w):=by
 have HO:Hid (∀w,Calls Tryz.prog 209 #[.int .u32 x] w (aP (.int .i64 0) w)):=aH fun w=>by have:=ROpcode_any x hx w;rwa[h0]at this
 have hZ:=zvH;clear h0;go_enter Tryz.func190,Tryz.ntmps190;go_wp2_with (go_at_call 209;((with_reducible refine(HO.out _).mono ?_);rintro e w1 ⟨rfl,hb⟩;have hz:=(hb.block w.heap.size (by simp)).trans (MapKept.heap_alloc w _).1;have hbw:=after (aT (Below.refl w.heap.size w) _) hb;clear hb;have z0:w1.cell? ⟨w.heap.size,0,none⟩=some (.int .i64 0):=bY hz;have zq0:w1.frozen? ⟨w.heap.size,0,none⟩=false:=dC hz;have z1:w1.cell? ⟨w.heap.size,1,none⟩=some (.int .i64 0):=bY hz;have zq1:w1.frozen? ⟨w.heap.size,1,none⟩=false:=dC hz;have z2:w1.cell? ⟨w.heap.size,2,none⟩=some (.int .i64 0):=bY hz;have zq2:w1.frozen? ⟨w.heap.size,2,none⟩=false:=dC hz;have z3:w1.cell? ⟨w.heap.size,3,none⟩=some (.int .i64 0):=bY hz;have zq3:w1.frozen? ⟨w.heap.size,3,none⟩=false:=dC hz;have z4:w1.cell? ⟨w.heap.size,4,none⟩=some (.int .i64 0):=bY hz;have zq4:w1.frozen? ⟨w.heap.size,4,none⟩=false:=dC hz;have z5:w1.cell? ⟨w.heap.size,5,none⟩=some (.int .i64 0):=bY hz;have zq5:w1.frozen? ⟨w.heap.size,5,none⟩=false:=dC hz;have z6:w1.cell? ⟨w.heap.size,6,none⟩=some (.int .u64 0):=bY hz;have zq6:w1.frozen? ⟨w.heap.size,6,none⟩=false:=dC hz;have z7:w1.cell? ⟨w.heap.size,7,none⟩=some (.int .i64 0):=bY hz;have zq7:w1.frozen? ⟨w.heap.size,7,none⟩=false:=dC hz;have z8:w1.cell? ⟨w.heap.size,8,none⟩=some (.int .i64 0):=bY hz;have zq8:w1.frozen? ⟨w.heap.size,8,none⟩=false:=dC hz;have z9:w1.cell? ⟨w.heap.size,9,none⟩=some (.int .i64 0):=bY hz;have zq9:w1.frozen? ⟨w.heap.size,9,none⟩=false:=dC hz))
 refine bodyPost_ret (v:=out2 (inZ,11)) (by simp [results,Tryz.results190,go_sem, *]) rfl ⟨rfl,?_⟩;with_reducible repeat' (first|exact hbw|exact Nat.le_refl _|refine aZ ?_ ?_)
theorem RDecode_some (x:Nat)(hx:x<4294967296)(w:World)(h0:1<=iK x):Calls Tryz.prog 190 #[.int .u32 x] w (aP (out2 (dI x)) w):=by
 obtain⟨i0,hi,hz0,hz1,hz2⟩:=info_parts infoUw;have hopl:iK x<=39:=by rcases opW_or x with⟨e,-⟩|⟨h1,h2,h3⟩<;>omega
 have hsb:=dH (iK x:Nat);obtain⟨s,hs⟩:=Int.eq_ofNat_of_zero_le hsb.1;have hs16:s<=16:=by omega
 have hs1:1<=s:=by
  have h4:∀j:Fin 40,j.val=0\/shL.getD j.val 0≠0:=by decide
  have:=(h4 ⟨iK x,by omega⟩).resolve_left (by simp only[];omega);have h5:=hs;unfold aF at h5;rw[if_neg (by omega),Int.toNat_natCast]at h5;simp only[]at this;omega
 have HO:Hid (∀w,Calls Tryz.prog 209 #[.int .u32 x] w (aP (.int .i64 (iK x:Nat)) w)):=aH fun w=>ROpcode_any x hx w
 have HSh:Hid (∀w,Calls Tryz.prog 101 #[.int .i64 (iK x:Nat)] w (aP (.int .i64 s) w)):=aH fun w=>by have:=kQ (iK x:Nat) w;rwa[hs]at this
 have HPl:Hid (∀w,Calls Tryz.prog 100 #[.int .i64 s] w (RetQ (jV s) w)):=aH fun w=>Places_any s hs16 w
 have hrw:cH (iK x:Nat) s x=bH x:=by unfold bH;rw[hs,Int.toNat_natCast]
 have HOf:Hid (∀w a c,SL encU 1 w w.heap.size a (fvX s x).length (fvX s x)->Calls Tryz.prog 211 #[.int .i64 (iK x:Nat),.slice a (fvX s x).length c] w (aP (dY (bH x)) w)):=aH fun w a c h=>by have:=ROf_any (iK x:Nat) x hx s hs hs1 hs16 a c w h;rwa[hrw]at this
 have HIs:Hid (∀w,Calls Tryz.prog 98 #[dY (bH x)] w (aP (.bool (fM (bH x))) w)):=aH fun w=>RIs_any (bH x) (readW_inB x hx) w
 have hdI:dI x=if fM (bH x)=true then(bH x,0)else(inZ,11):=rfl
 have HG:Hid (∀p∈jV s,0<=p.1/\p.1<32/\1<=p.2/\p.1+p.2<=32):=aH (plL_good ⟨s,by omega⟩);have hl5:=(plL_len ⟨s,by omega⟩).1;simp only[]at hl5;have hfl:=fvX_len s x;have HFT:=aH (fun k hk=>fvX_take s x k hk);have hZ:=zvH;clear hsb hs hrw;generalize dI x=dx at*
 generalize fM (bH x)=isr at*
 generalize bH x=r at*
 generalize iK x=op at*
 generalize fvX s x=fv at*
 generalize jV s=l at*
 obtain⟨nl,hnl⟩:∃nl,l.length=nl:=⟨_,rfl⟩;have hn5:nl<=5:=by omega
 have HNL:=aH hnl;have HFL:Hid (fv.length=nl):=aH (by omega);have HDX:=aH hdI;clear hnl hfl hl5 hdI;have q0:(((op:Nat):Int)==0)=false:=by rw[beq_eq_false_iff_ne];omega
 obtain⟨o,d,n,m,a,xx,kk,hh,t,c⟩:=r;go_enter Tryz.func190,Tryz.ntmps190;go_wp2_with (first
  |(go_at_call 209;((with_reducible refine(HO.out _).mono ?_);rintro e w1 ⟨rfl,hb⟩;have hz:=(hb.block w.heap.size (by simp)).trans (MapKept.heap_alloc w _).1;have hbw:=after (aT (Below.refl w.heap.size w) _) hb;clear hb))
  |(go_at_call 101;((with_reducible refine(HSh.out _).mono ?_);rintro e w2 ⟨rfl,hb⟩;have l1:=(gH hz).1;replace hz:=(hb.block _ l1).trans hz;replace hbw:=hbw.trans (hb.mono hbw.size);clear hb l1))
  |(go_at_call 100;((with_reducible refine(HPl.out _).mono ?_);rintro e wp ⟨pa,pc,rfl,hsl,hb⟩;rw[HNL.out]at hsl⊢;have HS:=aH hsl;have l1:=(gH hz).1;replace hz:=(hb.block _ l1).trans hz;replace hbw:=hbw.trans (hb.mono hbw.size);clear hb l1 hsl)))
 have HZ:=aH hz;have HBW:=aH hbw;clear hz hbw;go_loopw [5,7] (fun u i wl=>∃k:Nat,k<=nl/\i=.int .i64 k/\wl.ownsRow wp.heap.size 70 1 u (fv.take k).length ((fv.take k).flatMap encU)/\Below wp.heap.size wp wl) (fun _ i _=>nl-(intOf i).toNat)
 case atStart=>exact⟨0,by omega,rfl,World.ownsRow_nil _ _ _ _,Below.refl _ _⟩
 case round=>
  obtain⟨j,hj,rfl,hown,hb⟩:=hrel;have hbs:=hb.size;have HOWN:=aH hown;clear hown;by_cases hjl:j<nl
  ·have hj1:j<l.length:=by have:=HNL.out;omega
   obtain⟨b,off,rfl,hBl,hc⟩:=(HS.out.below hb).cells (HS.out.ne hjl);have c0:=hc j hj1 0 (by omega);have c1:=hc j hj1 1 (by omega);have hg:=HG.out l[j] (List.getElem_mem _);have HE:=aH (HFT.out j hj1);have htl:(fv.take j).length<=5:=by rw[List.length_take];omega
   generalize l[j]=p at*
   obtain⟨p1,p2⟩:=p;simp only[encQ,Nat.add_zero,List.getElem?_cons_zero,List.getElem?_cons_succ]at c0 c1 hg;have HFd:Hid (∀w,Calls Tryz.prog 210 #[.int .u32 x,.int .i64 p1,.int .i64 p2] w (kP (.tuple #[.int .u32 (fw x p1.toNat p2.toNat),.int .i64 0]) w)):=aH fun w=>by
    have:=rP x p1 p2 w (by omega) (by omega);obtain⟨a1,rfl⟩:=Int.eq_ofNat_of_zero_le hg.1;obtain⟨a2,rfl⟩:=Int.eq_ofNat_of_zero_le (show 0<=p2 by omega);rwa[fieldS_in x a1 a2 (by omega) (by omega)]at this
   clear hc hg;simp only[]at HE;generalize fw x p1.toNat p2.toNat=f at*
   generalize fv.take j=acc at*
   have hm:acc.length+1<=maxLen:=by unfold maxLen;omega
   have hby:(acc.length+1)*4<=140737488355328:=by omega
   go_wp2_with fail
   go_quiet ((go_at_call 210;exact Calls.quiet_of (HFd.out _)));obtain⟨wq,hwq⟩:=aE (wr.drewN nq);have hbq:Below wp.heap.size wp wq:=by rw[hwq];exact below_drewN hb _
   have hownq:wq.ownsRow wp.heap.size 70 1 u5 acc.length (acc.flatMap encU):=by rw[hwq];exact HOWN.out
   rw[<-hwq];have HOWNQ:=aH hownq;have hbqs:=hbq.size;clear hownq hwq HOWN c0 c1 HFd hb hbs;go_wp2_with (at_builtin;refine wpList_append_own _ rfl _ _ 117 rfl wp.heap.size 70 i0 (.int .u32 0) 1 4 Tryz.underlying117 hi hz0 hz1 hz2 rfl (by decide) _ acc.length (acc.flatMap encU) rfl (HOWNQ.out.alloc _) ⟨wq.heap.size,0,none⟩ 1 1 [.int .u32 f] rfl rfl (cell_newU _ _ _) (one_oneU _) hm hby (by simp;omega) ?_;intro v' w2 hown2 hgrow2 hiff)
   go_roundw
   case rel=>
    refine⟨j+1,by omega,by go_num,?_,(hbq.alloc hbqs _).grown hgrow2 (by simp;omega) (fun j hj=>by have:=(HOWNQ.out.lt j hj).1;omega)⟩;rw[HE.out,List.flatMap_append,List.length_append];exact hown2
   case measure=>simp[intOf];omega
  ·obtain rfl:j=nl:=by omega
   have htk:fv.take j=fv:=List.take_of_length_le (by have:=HFL.out;omega);have hown:=HOWN.out;rw[htk]at hown;obtain⟨a',c',rfl,hsl2,-⟩:=SL.ofOwns encU_len (by decide) hown;have hzl:=(gH HZ.out).1;have hz:=(hb.block _ hzl).trans HZ.out;have hbw:=HBW.out.trans (hb.mono HBW.out.size);have HSL:=aH hsl2;clear hown htk HOWN hsl2 hb hbs;cases isr
   all_goals
    go_wp2_with (first
     |(go_at_call 211;((with_reducible refine(HOf.out _ _ _ HSL.out).mono ?_);rintro e w5 ⟨rfl,hb⟩;have l1:=(gH hz).1;replace hz:=(hb.block _ l1).trans hz;replace hbw:=hbw.trans (hb.mono hbw.size);clear hb l1))
     |(go_at_call 98;((with_reducible refine(HIs.out _).mono ?_);rintro e w6 ⟨rfl,hb⟩;have l1:=(gH hz).1;have hx6:=(hb.block w5.heap.size (by simp)).trans (MapKept.heap_alloc w5 _).1;replace hz:=(hb.block w.heap.size (by simp;omega)).trans ((Below.heap_alloc _ _ _ l1).trans hz);replace hbw:=(aT hbw _).trans (hb.mono (aT hbw _).size);clear hb l1;have z0:w6.cell? ⟨w.heap.size,0,none⟩=some (.int .i64 0):=bY hz;have zq0:w6.frozen? ⟨w.heap.size,0,none⟩=false:=dC hz;have z1:w6.cell? ⟨w.heap.size,1,none⟩=some (.int .i64 0):=bY hz;have zq1:w6.frozen? ⟨w.heap.size,1,none⟩=false:=dC hz;have z2:w6.cell? ⟨w.heap.size,2,none⟩=some (.int .i64 0):=bY hz;have zq2:w6.frozen? ⟨w.heap.size,2,none⟩=false:=dC hz;have z3:w6.cell? ⟨w.heap.size,3,none⟩=some (.int .i64 0):=bY hz;have zq3:w6.frozen? ⟨w.heap.size,3,none⟩=false:=dC hz;have z4:w6.cell? ⟨w.heap.size,4,none⟩=some (.int .i64 0):=bY hz;have zq4:w6.frozen? ⟨w.heap.size,4,none⟩=false:=dC hz;have z5:w6.cell? ⟨w.heap.size,5,none⟩=some (.int .i64 0):=bY hz;have zq5:w6.frozen? ⟨w.heap.size,5,none⟩=false:=dC hz;have z6:w6.cell? ⟨w.heap.size,6,none⟩=some (.int .u64 0):=bY hz;have zq6:w6.frozen? ⟨w.heap.size,6,none⟩=false:=dC hz;have z7:w6.cell? ⟨w.heap.size,7,none⟩=some (.int .i64 0):=bY hz;have zq7:w6.frozen? ⟨w.heap.size,7,none⟩=false:=dC hz;have z8:w6.cell? ⟨w.heap.size,8,none⟩=some (.int .i64 0):=bY hz;have zq8:w6.frozen? ⟨w.heap.size,8,none⟩=false:=dC hz;have z9:w6.cell? ⟨w.heap.size,9,none⟩=some (.int .i64 0):=bY hz;have zq9:w6.frozen? ⟨w.heap.size,9,none⟩=false:=dC hz;have x0:w6.cell? ⟨w5.heap.size,0,none⟩=some (.int .i64 o):=bY hx6;have x1:w6.cell? ⟨w5.heap.size,1,none⟩=some (.int .i64 d):=bY hx6;have x2:w6.cell? ⟨w5.heap.size,2,none⟩=some (.int .i64 n):=bY hx6;have x3:w6.cell? ⟨w5.heap.size,3,none⟩=some (.int .i64 m):=bY hx6;have x4:w6.cell? ⟨w5.heap.size,4,none⟩=some (.int .i64 a):=bY hx6;have x5:w6.cell? ⟨w5.heap.size,5,none⟩=some (.int .i64 xx):=bY hx6;have x6:w6.cell? ⟨w5.heap.size,6,none⟩=some (.int .u64 kk):=bY hx6;have x7:w6.cell? ⟨w5.heap.size,7,none⟩=some (.int .i64 hh):=bY hx6;have x8:w6.cell? ⟨w5.heap.size,8,none⟩=some (.int .i64 t):=bY hx6;have x9:w6.cell? ⟨w5.heap.size,9,none⟩=some (.int .i64 c):=bY hx6)))
   ·refine bodyPost_ret (v:=out2 (inZ,11)) (by simp [results,Tryz.results190,go_sem, *]) rfl ⟨by rw [HDX.out];rfl,?_⟩;with_reducible repeat' (first|exact hbw|exact Nat.le_refl _|refine aZ ?_ ?_)
   ·refine bodyPost_ret (v:=out2 (⟨o,d,n,m,a,xx,kk,hh,t,c⟩,0)) (by simp [results,Tryz.results190,go_sem, *]) rfl ⟨by rw [HDX.out];rfl,?_⟩;with_reducible repeat' (first|exact hbw|exact Nat.le_refl _|refine aZ ?_ ?_)
theorem RDecode_any (x:Nat)(hx:x<4294967296)(w:World):Calls Tryz.prog 190 #[.int .u32 x] w (aP (out2 (dI x)) w):=by
 by_cases h:1<=iK x
 ·exact RDecode_some x hx w h
 ·have h0:iK x=0:=by omega
  have hd:dI x=(inZ,11):=by
   have hn:fM (bH x)=false:=by
    cases hI:fM (bH x)
    ·rfl
    ·have:=code_op hI;rw[readW_op,h0]at this;omega
   unfold dI;rw[hn,if_neg (by decide)]
  rw[hd];exact RDecode_none x hx w h0
theorem jJ (kind o:Int)(k:Int)(L:List Int)(hk:2<=k/\k<=9)(h:∀j:Fin 10,(mI.getD j.val []).any (· ==o)=((j.val:Int)==k)):(fitK kind).any (· ==o)=(kind==k):=by
 unfold fitK;by_cases c:kind<0\/9<kind
 ·rw[if_pos c];symm;rw[List.any_nil,beq_eq_false_iff_ne];omega
 ·rw[if_neg c];have:=h ⟨kind.toNat,by omega⟩;simp only[]at this;rw[this,show((kind.toNat:Nat):Int)=kind from by omega]
theorem fitK_none (kind o:Int)(h:∀j:Fin 10,(mI.getD j.val []).any (· ==o)=false):(fitK kind).any (· ==o)=false:=by
 unfold fitK;by_cases c:kind<0\/9<kind
 ·rw[if_pos c];rfl
 ·rw[if_neg c];exact h ⟨kind.toNat,by omega⟩
theorem fits_head {kind:Int}{i:In}(hI:fM i=true)(h0:i.imm=0)(h1:i.amount=0):dL kind i=(fitK kind).any (· ==i.op):=by
 unfold dL;rw[hI,h0,h1];simp
theorem rfits_imm {kind:Int}{i:In}(h0:i.imm≠0):dL kind i=false:=by
 unfold dL;simp[h0]
theorem fits_am {kind:Int}{i:In}(h0:i.amount≠0):dL kind i=false:=by
 unfold dL;simp[h0]
theorem rFits_any (kind:Int)(x:Nat)(w:World)(hx:x<4294967296):Calls Tryz.prog 164 #[.int .i64 kind,.int .u32 x] w (aP (.bool (dL kind (bH x))) w):=by
 have HB:=aH (Below.refl w.heap.size w);cases hI:fM (bH x)
 ·have HE:Hid (dL kind (bH x)=false):=aH (by unfold dL;rw[hI];rfl);have HD:Hid (∀w,Calls Tryz.prog 190 #[.int .u32 x] w (aP (.tuple #[dY inZ,.int .i64 11]) w)):=aH fun w=>by
   have:=RDecode_any x hx w;rwa[show dI x=(inZ,11)from by unfold dI;rw[hI];rfl]at this
  clear hI;go_enter Tryz.func164,Tryz.ntmps164;go_wp2_with (go_at_call 190;((with_reducible refine(HD.out _).mono ?_);rintro e w1 ⟨rfl,hb⟩;replace HB:=aH (after HB.out hb);clear hb))
  go_ret;exact aB HE.out.symm (aT HB.out _)
 have HD:Hid (∀w,Calls Tryz.prog 190 #[.int .u32 x] w (aP (.tuple #[dY (bH x),.int .i64 0]) w)):=aH fun w=>by
  have:=RDecode_any x hx w;rwa[show dI x=(bH x,0)from by unfold dI;rw[hI];rfl]at this
 have ho:=code_op hI;by_cases h0:(bH x).imm=0
 ·by_cases h1:(bH x).amount=0
  ·have he:=fits_head (kind:=kind) hI h0 h1;generalize bH x=i at*
   obtain⟨o,d,n,m,a,y,kk,hh,t,c⟩:=i;simp only[]at h0 h1 he ho;subst h0 h1;clear hI;rw[he];clear he;have hc:o=29\/o=30\/o=31\/o=32\/o=33\/o=26\/o=27\/o=28\/o=4\/o=22\/o=23\/o=24\/o=25\/(o≠29/\o≠30/\o≠31/\o≠32/\o≠33/\o≠26/\o≠27/\o≠28/\o≠4/\o≠22/\o≠23/\o≠24/\o≠25):=by omega
   rcases hc with rfl|rfl|rfl|rfl|rfl|rfl|rfl|rfl|rfl|rfl|rfl|rfl|rfl|hno
   rotate_left 13
   ·have hz:(fitK kind).any (· ==o)=false:=fitK_none kind o (by
     intro j;match j with
     |⟨0,_⟩=>simp[mI];omega
     |⟨1,_⟩=>simp[mI];omega
     |⟨2,_⟩=>simp[mI];omega
     |⟨3,_⟩=>simp[mI];omega
     |⟨4,_⟩=>simp[mI];omega
     |⟨5,_⟩=>simp[mI];omega
     |⟨6,_⟩=>simp[mI];omega
     |⟨7,_⟩=>simp[mI];omega
     |⟨8,_⟩=>simp[mI];omega
     |⟨9,_⟩=>simp[mI];omega)
    have HE:=aH hz;clear hz;obtain⟨g29,g30,g31,g32,g33,g26,g27,g28,g4,g22,g23,g24,g25⟩:=hno;have q29:(o==29)=false:=by rw[beq_eq_false_iff_ne];exact g29
    have q30:(o==30)=false:=by rw[beq_eq_false_iff_ne];exact g30
    have q31:(o==31)=false:=by rw[beq_eq_false_iff_ne];exact g31
    have q32:(o==32)=false:=by rw[beq_eq_false_iff_ne];exact g32
    have q33:(o==33)=false:=by rw[beq_eq_false_iff_ne];exact g33
    have q26:(o==26)=false:=by rw[beq_eq_false_iff_ne];exact g26
    have q27:(o==27)=false:=by rw[beq_eq_false_iff_ne];exact g27
    have q28:(o==28)=false:=by rw[beq_eq_false_iff_ne];exact g28
    have q4:(o==4)=false:=by rw[beq_eq_false_iff_ne];exact g4
    have q22:(o==22)=false:=by rw[beq_eq_false_iff_ne];exact g22
    have q23:(o==23)=false:=by rw[beq_eq_false_iff_ne];exact g23
    have q24:(o==24)=false:=by rw[beq_eq_false_iff_ne];exact g24
    have q25:(o==25)=false:=by rw[beq_eq_false_iff_ne];exact g25
    clear g29 g30 g31 g32 g33 g26 g27 g28 g4 g22 g23 g24 g25;go_enter Tryz.func164,Tryz.ntmps164;go_wp2_with (go_at_call 190;((with_reducible refine(HD.out _).mono ?_);rintro e w1 ⟨rfl,hb⟩;replace HB:=aH (after HB.out hb);clear hb))
    go_ret;exact aB HE.out.symm (aT HB.out _)
   all_goals
    first
     |(rw[jJ kind _ 2 [] (by decide) ?hh];case hh=>decide)
     |(rw[jJ kind _ 3 [] (by decide) ?hh];case hh=>decide)
     |(rw[jJ kind _ 4 [] (by decide) ?hh];case hh=>decide)
     |(rw[jJ kind _ 5 [] (by decide) ?hh];case hh=>decide)
     |(rw[jJ kind _ 6 [] (by decide) ?hh];case hh=>decide)
     |(rw[jJ kind _ 7 [] (by decide) ?hh];case hh=>decide)
     |(rw[jJ kind _ 8 [] (by decide) ?hh];case hh=>decide)
     |(rw[jJ kind _ 9 [] (by decide) ?hh];case hh=>decide)
    generalize hE:(kind==(_:Int))=bE;have HE:=aH hE;clear hE;go_enter Tryz.func164,Tryz.ntmps164;go_wp2_with (go_at_call 190;((with_reducible refine(HD.out _).mono ?_);rintro e w1 ⟨rfl,hb⟩;replace HB:=aH (after HB.out hb);clear hb))
    go_ret;exact aB HE.out (aT HB.out _)
  ·have HE:=aH (fits_am (kind:=kind) h1);generalize bH x=i at*
   obtain⟨o,d,n,m,a,y,kk,hh,t,c⟩:=i;simp only[]at h0 h1;subst h0;have q:(t==0)=false:=by rw[beq_eq_false_iff_ne];exact h1
   have q2:(t !=0)=true:=by rw[bne_iff_ne];exact h1
   clear hI h1 ho;go_enter Tryz.func164,Tryz.ntmps164;go_wp2_with (go_at_call 190;((with_reducible refine(HD.out _).mono ?_);rintro e w1 ⟨rfl,hb⟩;replace HB:=aH (after HB.out hb);clear hb))
   go_ret;exact aB HE.out.symm (aT HB.out _)
 ·have HE:=aH (rfits_imm (kind:=kind) h0);generalize bH x=i at*
  obtain⟨o,d,n,m,a,y,kk,hh,t,c⟩:=i;simp only[]at h0;have q:(y==0)=false:=by rw[beq_eq_false_iff_ne];exact h0
  have q2:(y !=0)=true:=by rw[bne_iff_ne];exact h0
  clear hI h0 ho;go_enter Tryz.func164,Tryz.ntmps164;go_wp2_with (go_at_call 190;((with_reducible refine(HD.out _).mono ?_);rintro e w1 ⟨rfl,hb⟩;replace HB:=aH (after HB.out hb);clear hb))
  go_ret;exact aB HE.out.symm (aT HB.out _)
theorem add_byte (u b k:Nat)(hu:u<256^k)(hb:b<256)(hk:k<=7):
  IntKind.u64.wrap ((u:Int)+IntKind.u64.wrap (IntKind.u64.wrap (b:Int)*2^(8*k)))=((u+b*256^k:Nat):Int):=by
 have h1:(256:Nat)^k<=256^7:=Nat.pow_le_pow_right (by decide) hk;have h2:b*256^k<=255*256^k:=Nat.mul_le_mul_right _ (by omega);have h3:(256:Nat)^7=72057594037927936:=by decide
 rw[h3]at h1;have e0:IntKind.u64.wrap (b:Int)=(b:Int):=by rw[IntKind.wrap_u64,Int.emod_eq_of_lt (by omega) (by omega)]
 have e1:((b:Int)*2^(8*k))=((b*256^k:Nat):Int):=by rw[Int.natCast_mul,pow256,bD]
 rw[e0,e1,IntKind.wrap_u64,IntKind.wrap_u64];omega
theorem refNumber_any (D:ByteArray)(w:World)(hs:D.size<=8):Calls Tryz.prog 163 #[.string D] w (kP (.int .u64 ((qJ D.data.toList:Nat):Int)) w):=by
 go_enter Tryz.func163,Tryz.ntmps163;go_wp2;go_loopw [3,4] (fun v i wr=>∃k:Nat,k<=D.size/\i=.int .i64 k/\v=.int .u64 ((qJ (D.data.toList.take k):Nat):Int)/\∃m,wr=w.drewN m) (fun _ i _=>D.size-(intOf i).toNat)
 case atStart=>exact⟨0,by omega,rfl,rfl,0,rfl⟩
 case round=>
  obtain⟨k,hk,rfl,rfl,m,rfl⟩:=hrel;have hl:(D.data.toList.take k).length=k:=by rw[List.length_take,Array.length_toList];have:D.data.size=D.size:=rfl;omega
  by_cases hlt:k<D.size
  ·have hu:=leV_lt (D.data.toList.take k);rw[hl]at hu;have HS:Hid (qJ (D.data.toList.take (k+1))=qJ (D.data.toList.take k)+D[k].toNat*256^k):=aH (by rw[ftake_snoc D k hlt,leV_snoc,hl]);have HO:=aH (add_byte (qJ (D.data.toList.take k)) D[k].toNat k hu D[k].toNat_lt (by omega));have HP:Hid (∀w,Calls Tryz.prog 103 #[.int .i64 (8*(k:Int))] w fun e w'=>e=.returned (.int .u64 (2^(8*k)))/\w'=w):=aH fun w=>by
    have:=eK (8*(k:Int)) w (by omega);rw[show(8*(k:Int)).toNat=8*k from by omega]at this;exact this.mono fun _ _ h=>⟨h.1,h.2.symm⟩
   have e8:IntKind.i64.wrap (8*(k:Int))=8*(k:Int):=by rw[IntKind.wrap_i64];omega
   generalize qJ (D.data.toList.take k)=u at*
   have hk7:k<=7:=by omega
   have k0:(0:Int)<=k:=by omega
   have k1:(k:Int)<D.size:=by omega
   clear hl hu;obtain⟨wr,hwr⟩:=aE (w.drewN m);have HWR:=aH hwr;rw[<-hwr];clear hwr;go_wp2;go_quiet ((go_at_call 103;exact Calls.quiet_of_same (HP.out _)));go_wp2;exact⟨⟨k+1,by omega,by go_num,by rw[HS.out,<-HO.out],m+nq,by rw[HWR.out];simp⟩,by simp[intOf];omega⟩
  ·have HE:Hid (D.data.toList.take k=D.data.toList):=aH (List.take_of_length_le (by rw[Array.length_toList];have:D.data.size=D.size:=rfl;omega));clear hl;go_wp2;go_ret;exact⟨by rw[HE.out];rfl,m,rfl⟩
end
section
open Go.ChangeShapes Go.WideShapes Go.Deep Go.RowKit
theorem rsize_any (k:Int)(w:World):Calls Tryz.prog 135 #[.int .i64 k] w (bQ (.int .i64 (rJ k)) w):=by
 rcases kV k with⟨h,e⟩|⟨h,e⟩
 ·subst e;go_enter Tryz.func135,Tryz.ntmps135;go_wp2;go_ret;exact⟨rfl,rfl⟩
 ·have H:=aH h;have t:(k==1)=false:=by simp[e]
  clear h e;go_enter Tryz.func135,Tryz.ntmps135;go_wp2;go_ret;exact bK H.out.symm
def relQ (k:Int) (d:List UInt8) (e:Int) (r:Rl):Bool:=!decide (badR k d e r)
theorem oS {k:Int}{d:List UInt8}{e:Int}{r:Rl}(h:badR k d e r):relQ k d e r=false:=by unfold relQ;rw[decide_eq_true h];rfl
theorem relQ_cov {k:Int}{d:List UInt8}{e:Int}{r:Rl}(h1:¬r.pos<e)(h2:¬(d.length:Int)-rJ r.kind<r.pos)(h3:¬r.sym<0):relQ k d e r=mK k d r:=by
 unfold relQ;cases hc:mK k d r
 ·rw[decide_eq_true (.inr (.inr (.inr hc)))];rfl
 ·rw[decide_eq_false (by
   rintro(h|h|h|h)
   ·exact h1 h
   ·exact h2 h
   ·exact h3 h
   ·rw[hc]at h;cases h)];rfl
theorem fits_two {k:Int}{i:In}(h:dL k i=true):2<=k/\k<=9:=by
 have h1:=fit_range h;have hop:1<=i.op:=by
  unfold dL at h;simp only[Bool.and_eq_true]at h;exact(code_op h.1.1.1).1
 have hz:(i.op==0)=false:=by rw[beq_eq_false_iff_ne];omega
 have h0:dL 0 i=false:=by unfold dL;simp[fitK,mI];omega
 have h2:dL 1 i=false:=by unfold dL;simp[fitK,mI];omega
 have e0:k≠0:=by intro e;subst e;rw[h0]at h;cases h
 have e1:k≠1:=by intro e;subst e;rw[h2]at h;cases h
 omega
theorem cov_kind {k:Int}{d:List UInt8}{r:Rl}(h:r.kind<1\/9<r.kind):mK k d r=false:=by
 unfold mK;rw[if_neg (by omega)];cases hf:dL r.kind (bH (qJ ((d.drop r.pos.toNat).take 4)))
 ·simp
 ·have:=fits_two hf;omega
theorem leV_zero:∀(l:List UInt8),qJ l=0↔l=nulB l.length
 | []=>by simp[qJ]
 |b :: t=>by
  have ih:=leV_zero t;have hv:qJ (b :: t)=b.toNat+256*qJ t:=rfl;rw[hv,List.length_cons];show _↔b :: t=0 :: List.replicate t.length 0
  constructor
  ·intro h;have h1:b.toNat=0:=by omega
   have h2:qJ t=0:=by omega
   have h3:t=List.replicate t.length 0:=ih.1 h2;rw[<-h3];congr 1;exact UInt8.toNat_inj.1 (by simpa using h1)
  ·intro h;injection h with h1 h2
   have:=ih.2 h2;rw[h1,this];rfl
theorem ext_take (B:ByteArray)(p q:Nat)(h:p<=q):(B.extract p q).data.toList=(B.data.toList.drop p).take (q-p):=by
 rw[ByteArray.data_extract,Array.toList_extract]
theorem oR (N B:ByteArray)(k:Int)(kp:Bool)(al:Int)(a:Option Addr)(n c:Nat)(r:Rl)(e:Int)(hB:B.size<=4096)(he:0<=e)(w:World)
  (h:r.kind<1\/(¬r.kind<1/\9<r.kind)\/(¬r.kind<1/\¬9<r.kind/\r.pos<e)\/(¬r.kind<1/\¬9<r.kind/\¬r.pos<e/\(B.size:Int)<r.pos)\/(¬r.kind<1/\¬9<r.kind/\¬r.pos<e/\¬(B.size:Int)<r.pos/\(B.size:Int)-r.pos<rJ r.kind)\/(¬r.kind<1/\¬9<r.kind/\¬r.pos<e/\¬(B.size:Int)<r.pos/\¬(B.size:Int)-r.pos<rJ r.kind/\r.sym<0)):
  Calls Tryz.prog 134 #[.agg #[.string N,.int .i64 k,.bool kp,.int .i64 al,.string B,.slice a n c],.agg (rlA r),.int .i64 e] w (aP (.bool false) w):=by
 obtain⟨rp,rk,rs,ra⟩:=r;simp only[rlA]at h⊢;have HSz:Hid (∀u,Calls Tryz.prog 135 #[.int .i64 rk] u (bQ (.int .i64 (rJ rk)) u)):=aH fun u=>rsize_any rk u
 have HW:=aH (mE (w:=w) (A:=#[.string N,.int .i64 k,.bool kp,.int .i64 al,.string B,.slice a n c]) (B:=#[.int .i64 rp,.int .i64 rk,.int .i64 rs,.int .i64 ra]) (T:=97) (U:=132));have hsz:=kV rk;obtain⟨z,hz⟩:=aE (rJ rk);rw[<-hz]at h HSz hsz;have hz0:4<=z/\z<=8:=by omega
 clear hz hsz;obtain⟨X,hX⟩:=aE w.heap.size;have HB:=aH HW.out.2.2;rw[<-hX]at HW;have HH:=aH h;have HE:=aH he;have HBs:=aH hB;clear h he hB hz0;go_enter Tryz.func134,Tryz.ntmps134;go_wp2_with fail
 rw[<-hX];clear hX;generalize(w.alloc (.cells #[.string N,.int .i64 k,.bool kp,.int .i64 al,.string B,.slice a n c] 97)).alloc (.cells #[.int .i64 rp,.int .i64 rk,.int .i64 rs,.int .i64 ra] 132)=W at HW HB⊢;have c4:W.cell? ⟨X,4,none⟩=some (.string B):=HW.out.1.cell;have d0:W.cell? ⟨X+1,0,none⟩=some (.int .i64 rp):=HW.out.2.1.cell;have d1:W.cell? ⟨X+1,1,none⟩=some (.int .i64 rk):=HW.out.2.1.cell;have d2:W.cell? ⟨X+1,2,none⟩=some (.int .i64 rs):=HW.out.2.1.cell;rcases HH.out with h|⟨h1,h⟩|⟨h1,h2,h⟩|⟨h1,h2,h3,h⟩|⟨h1,h2,h3,h4,h⟩|⟨h1,h2,h3,h4,h5,h⟩
 rotate_left 4;iterate 2
  have hwr:IntKind.i64.wrap ((B.size:Int)-rp)=(B.size:Int)-rp:=by
   have:=HBs.out;have:=HE.out;rw[IntKind.wrap_i64];omega
  rotate_left 1
 all_goals
  clear HH;(try have e1:¬rk<1:=by omega);(try have e2:¬9<rk:=by omega);(try have e3:¬rp<e:=by omega);(try have e4:¬(B.size:Int)<rp:=by omega);(try have e5:¬(B.size:Int)-rp<z:=by omega);go_big_quiet ((go_at_call 135;exact Calls.quiet_of_same ((HSz.out _).mono fun e w' h=>⟨h.1,h.2.symm⟩)));go_wp2;go_ret;exact⟨rfl,below_drewN HB.out _⟩
theorem rel_in (N B:ByteArray)(k:Int)(kp:Bool)(al:Int)(a:Option Addr)(n c p:Nat)(kk sy ad e:Int)(h1:¬kk<1)(h2:¬9<kk)(h3:¬(p:Int)<e)(h5:¬(B.size:Int)-p<rJ kk)(h6:¬sy<0)(hB:B.size<=4096)(w:World):
  Calls Tryz.prog 134 #[.agg #[.string N,.int .i64 k,.bool kp,.int .i64 al,.string B,.slice a n c],.agg #[.int .i64 (p:Int),.int .i64 kk,.int .i64 sy,.int .i64 ad],.int .i64 e] w (aP (.bool (mK k B.data.toList ⟨p,kk,sy,ad⟩)) w):=by
 have HSz:Hid (∀u,Calls Tryz.prog 135 #[.int .i64 kk] u (bQ (.int .i64 (rJ kk)) u)):=aH fun u=>rsize_any kk u
 have hsz:=kV kk;obtain⟨z,hz⟩:∃z:Nat,rJ kk=(z:Int):=⟨(rJ kk).toNat,by omega⟩;rw[hz]at h5 HSz hsz;have hz8:z<=8:=by omega
 obtain⟨q,hq⟩:=aE (p+z);have hqB:q<=B.size:=by omega
 obtain⟨D,hD⟩:=aE (B.extract p q);have hDl:D.data.toList=(B.data.toList.drop p).take z:=by rw[hD,ext_take B p q (by omega),hq];congr 1;omega
 have hDs:D.size=z:=by rw[hD,ByteArray.size_extract];omega
 have HNu:=aH (fun u=>refNumber_any D u (by omega));have hlt:=leV_lt D.data.toList;have hll:D.data.toList.length=z:=by rw[Array.length_toList];exact hDs
 obtain⟨v,hv⟩:=aE (qJ D.data.toList);rw[<-hv]at HNu hlt;have HCv:Hid (mK k B.data.toList ⟨p,kk,sy,ad⟩=if kk=1 then(v:Int)==0 else((k==1)&&(((p:Int)%4==0)&&dL kk (bH v)))):=aH (by
  unfold mK;simp only[Int.toNat_natCast];by_cases e1:kk=1
  ·have e8:z=8:=by omega
   rw[if_pos e1,if_pos e1];subst e8;rw[<-hDl];have hz0:=leV_zero D.data.toList;rw[hll,<-hv]at hz0;by_cases h:v=0
   ·rw[hz0.1 h,h];simp
   ·have:¬D.data.toList=nulB 8:=fun h2=>h (hz0.2 h2)
    rw[show((v:Int)==0)=false by rw[beq_eq_false_iff_ne];omega,beq_eq_false_iff_ne.2 this]
  ·have e4:z=4:=by omega
   rw[if_neg e1,if_neg e1];subst e4;rw[<-hDl,<-hv])
 have HF:Hid (kk≠1->∀u,Calls Tryz.prog 164 #[.int .i64 kk,.int .u32 v] u (aP (.bool (dL kk (bH v))) u)):=aH (fun hk u=>rFits_any kk v u (by
  have e4:z=4:=by omega
  rw[hll,e4]at hlt;exact hlt))
 have HWv:Hid (kk≠1->IntKind.u32.wrap (v:Int)=(v:Int)):=aH (fun hk=>by
  have e4:z=4:=by omega
  rw[hll,e4]at hlt;rw[IntKind.wrap_u32];omega)
 have hwq:IntKind.i64.wrap ((p:Int)+(z:Int))=(q:Int):=by rw[IntKind.wrap_i64];omega
 have hwr:IntKind.i64.wrap ((B.size:Int)-p)=(B.size:Int)-p:=by rw[IntKind.wrap_i64];omega
 have b0:(0:Int)<=(p:Int):=by omega
 have b1:(p:Int)<=(q:Int):=by omega
 have b2:(q:Int)<=(B.size:Int):=by omega
 have HH:=aH (And.intro h1 (And.intro h2 (And.intro h3 (And.intro h5 h6))));have HPB:=aH (show(p:Int)<=B.size by omega);have HW:=aH (mE (w:=w) (A:=#[.string N,.int .i64 k,.bool kp,.int .i64 al,.string B,.slice a n c]) (B:=#[.int .i64 (p:Int),.int .i64 kk,.int .i64 sy,.int .i64 ad]) (T:=97) (U:=132));have HB:=aH HW.out.2.2;obtain⟨X,hX⟩:=aE w.heap.size;rw[<-hX]at HW;replace hD:=hD.symm;generalize mK k B.data.toList ⟨p,kk,sy,ad⟩=R at HCv⊢;clear h1 h2 h3 h5 h6 hsz hz hz8 hq hqB hDl hDs hlt hll hv hB;go_enter Tryz.func134,Tryz.ntmps134;go_wp2_with fail
 rw[<-hX];clear hX;generalize(w.alloc (.cells #[.string N,.int .i64 k,.bool kp,.int .i64 al,.string B,.slice a n c] 97)).alloc (.cells #[.int .i64 (p:Int),.int .i64 kk,.int .i64 sy,.int .i64 ad] 132)=W at HW HB⊢;have c4:W.cell? ⟨X,4,none⟩=some (.string B):=HW.out.1.cell;have c1:W.cell? ⟨X,1,none⟩=some (.int .i64 k):=HW.out.1.cell;have d0:W.cell? ⟨X+1,0,none⟩=some (.int .i64 (p:Int)):=HW.out.2.1.cell;have d1:W.cell? ⟨X+1,1,none⟩=some (.int .i64 kk):=HW.out.2.1.cell;have d2:W.cell? ⟨X+1,2,none⟩=some (.int .i64 sy):=HW.out.2.1.cell;have e1:¬kk<1:=by have:=HH.out.1;omega
 have e2:¬9<kk:=by have:=HH.out.2.1;omega
 have e3:¬(p:Int)<e:=by have:=HH.out.2.2.1;omega
 have e4:¬(B.size:Int)<p:=by have:=HPB.out;omega
 have e5:¬(B.size:Int)-p<(z:Int):=by have:=HH.out.2.2.2.1;omega
 have e6:¬sy<0:=by have:=HH.out.2.2.2.2;omega
 go_big_quiet ((go_at_call 135;exact Calls.quiet_of_same ((HSz.out _).mono fun e w' h=>⟨h.1,h.2.symm⟩)));clear e1 e2 e3 e4 e5 e6;have HBn:=aH (below_drewN HB.out nq);have HW2:Hid (RB (W.drewN nq) X #[.string N,.int .i64 k,.bool kp,.int .i64 al,.string B,.slice a n c] 97/\RB (W.drewN nq) (X+1) #[.int .i64 (p:Int),.int .i64 kk,.int .i64 sy,.int .i64 ad] 132):=aH ⟨HW.out.1,HW.out.2.1⟩;clear c4 c1 d0 d1 d2 HB HW;generalize W.drewN nq=V at HBn HW2⊢;have c4:V.cell? ⟨X,4,none⟩=some (.string B):=HW2.out.1.cell;have c1:V.cell? ⟨X,1,none⟩=some (.int .i64 k):=HW2.out.1.cell;have d0:V.cell? ⟨X+1,0,none⟩=some (.int .i64 (p:Int)):=HW2.out.2.cell;have d1:V.cell? ⟨X+1,1,none⟩=some (.int .i64 kk):=HW2.out.2.cell;go_wp2_with fail
 go_big_quiet (first|(go_at_call 135;exact Calls.quiet_of_same ((HSz.out _).mono fun e w' h=>⟨h.1,h.2.symm⟩))|(go_at_call 163;exact Calls.quiet_of (HNu.out _)));replace HBn:=aH (below_drewN HBn.out nq);by_cases k1:kk=1
 ·have HC2:Hid (R=((v:Int)==0)):=aH (by rw[HCv.out,if_pos k1]);subst k1;clear HF HWv HSz HNu HH;go_wp2;go_ret;exact aB HC2.out.symm HBn.out
 ·have t1:(kk==1)=false:=by simp[k1]
  have HC2:Hid (R=((k==1)&&(((p:Int)%4==0)&&dL kk (bH v)))):=aH (by rw[HCv.out,if_neg k1]);have hwv:=HWv.out k1;have HF2:=aH (HF.out k1);clear k1 HF HWv HSz HNu HH;have ht:(p:Int).tmod 4=(p:Int)%4:=Int.tmod_eq_emod_of_nonneg (by omega);cases r1:(k==1)
  ·rw[r1]at HC2;go_wp2;go_ret;exact aB (by rw[HC2.out];rfl) HBn.out
  ·rw[r1]at HC2;cases t2:((p:Int)%4==0)
   ·have t3:((p:Int).tmod 4==0)=false:=by rw[ht];exact t2
    rw[t2]at HC2;clear ht;go_wp2;go_ret;exact aB (by rw[HC2.out];rfl) HBn.out
   ·have t3:((p:Int).tmod 4==0)=true:=by rw[ht];exact t2
    rw[t2]at HC2;clear ht;go_wp2_with fail
    refine(HF2.out _).mono ?_;rintro e u ⟨rfl,hb⟩;have HB3:=aH (after HBn.out hb);clear hb;go_wp2;go_ret;exact aB (by rw[HC2.out];rfl) HB3.out
theorem rel_any (N B:ByteArray)(k:Int)(kp:Bool)(al:Int)(a:Option Addr)(n c:Nat)(r:Rl)(e:Int)(hB:B.size<=4096)(he:0<=e)(w:World):
  Calls Tryz.prog 134 #[.agg #[.string N,.int .i64 k,.bool kp,.int .i64 al,.string B,.slice a n c],.agg (rlA r),.int .i64 e] w (aP (.bool (relQ k B.data.toList e r)) w):=by
 have hlen:B.data.toList.length=B.size:=by simp
 have hsz:=kV r.kind;by_cases h1:r.kind<1
 ·rw[oS (.inr (.inr (.inr (cov_kind (.inl h1)))))];exact oR N B k kp al a n c r e hB he w (.inl h1)
 by_cases h2:9<r.kind
 ·rw[oS (.inr (.inr (.inr (cov_kind (.inr h2)))))];exact oR N B k kp al a n c r e hB he w (.inr (.inl ⟨h1,h2⟩))
 by_cases h3:r.pos<e
 ·rw[oS (.inl h3)];exact oR N B k kp al a n c r e hB he w (.inr (.inr (.inl ⟨h1,h2,h3⟩)))
 by_cases h4:(B.size:Int)<r.pos
 ·rw[oS (.inr (.inl (by rw[hlen];omega)))];exact oR N B k kp al a n c r e hB he w (.inr (.inr (.inr (.inl ⟨h1,h2,h3,h4⟩))))
 by_cases h5:(B.size:Int)-r.pos<rJ r.kind
 ·rw[oS (.inr (.inl (by rw[hlen];omega)))];exact oR N B k kp al a n c r e hB he w (.inr (.inr (.inr (.inr (.inl ⟨h1,h2,h3,h4,h5⟩)))))
 by_cases h6:r.sym<0
 ·rw[oS (.inr (.inr (.inl h6)))];exact oR N B k kp al a n c r e hB he w (.inr (.inr (.inr (.inr (.inr ⟨h1,h2,h3,h4,h5,h6⟩)))))
 rw[relQ_cov h3 (by rw[hlen];omega) h6];obtain⟨pos,kk,sy,ad⟩:=r;simp only at h1 h2 h3 h4 h5 h6;obtain⟨p,rfl⟩:∃p:Nat,pos=p:=⟨pos.toNat,by omega⟩;exact rel_in N B k kp al a n c p kk sy ad e h1 h2 h3 h5 h6 hB w
theorem of_relQ {k:Int}{d:List UInt8}{e:Int}{r:Rl}(h:relQ k d e r=false):badR k d e r:=by
 unfold relQ at h;simpa using h
theorem not_relQ {k:Int}{d:List UInt8}{e:Int}{r:Rl}(h:relQ k d e r=true):¬badR k d e r:=by
 unfold relQ at h;simpa using h
theorem rpIs_core (N B:ByteArray)(k:Int)(kp:Bool)(al:Int)(a:Option Addr)(n c:Nat)(l:List Rl)(hN:N.size<=6000)(hBm:B.size<=maxLen)(hn:n<=maxLen)(w:World)(hs:SL kY 4 w w.heap.size a n l):
  Calls Tryz.prog 104 #[.agg #[.string N,.int .i64 k,.bool kp,.int .i64 al,.string B,.slice a n c]] w (aP (.bool (jH ⟨N.data.toList,k,kp,al,B.data.toList,l⟩)) w):=by
 have HS:=aH hs;have hl:=aH hs.len;have hlen:B.data.toList.length=B.size:=by simp
 have HSec:Hid (jH ⟨N.data.toList,k,kp,al,B.data.toList,l⟩=(cI N.data.toList && decide (1<=k) && decide (k<=3) && decide (0<=al) && decide (al<=12) && decide (B.size<=4096) && decide (n<=64) && gT k B.data.toList 0 l)):=aH (by
  unfold jH headR;simp only;rw[hlen,<-hs.len])
 have HNm:=aH (fun u=>rIsName_any N hN u);have HB0:Hid (Below w.heap.size w (w.alloc (.cells #[.string N,.int .i64 k,.bool kp,.int .i64 al,.string B,.slice a n c] 97))):=aH ((Below.refl _ w).alloc (Nat.le_refl _) _);have HX0:Hid (RB (w.alloc (.cells #[.string N,.int .i64 k,.bool kp,.int .i64 al,.string B,.slice a n c] 97)) w.heap.size #[.string N,.int .i64 k,.bool kp,.int .i64 al,.string B,.slice a n c] 97):=aH (MapKept.heap_alloc w _).1;obtain⟨X,hX⟩:=aE w.heap.size;rw[<-hX]at HX0;have hB9:(B.size:Int)<=9223372036854775807:=by unfold maxLen at hBm;omega
 have hn9:(n:Int)<=9223372036854775807:=by unfold maxLen at hn;omega
 generalize cI N.data.toList=nm at HNm HSec;generalize jH ⟨N.data.toList,k,kp,al,B.data.toList,l⟩=R at HSec⊢;clear hs hN hBm hlen hn;go_enter Tryz.func104,Tryz.ntmps104;go_wp2_with fail
 rw[<-hX];clear hX;generalize w.alloc (.cells #[.string N,.int .i64 k,.bool kp,.int .i64 al,.string B,.slice a n c] 97)=W0 at HB0 HX0⊢;have f0:W0.cell? ⟨X,0,none⟩=some (.string N):=HX0.out.cell;go_wp2_with fail
 clear f0;refine(HNm.out _).mono ?_;rintro e u ⟨rfl,hb⟩;have HBX:=aH (after HB0.out hb);have HX:=aH (HX0.out.next hb);have f0:u.cell? ⟨X,1,none⟩=some (.int .i64 k):=HX.out.cell;have f1:u.cell? ⟨X,3,none⟩=some (.int .i64 al):=HX.out.cell;have f2:u.cell? ⟨X,4,none⟩=some (.string B):=HX.out.cell;have f3:u.cell? ⟨X,5,none⟩=some (.slice a n c):=HX.out.cell;clear hb;cases nm
 ·have HF:Hid (R=false):=aH (by rw[HSec.out];rfl);go_wp2;go_ret;exact aB HF.out.symm HBX.out
 have hcs:k<1\/(¬k<1/\3<k)\/(¬k<1/\¬3<k/\al<0)\/(¬k<1/\¬3<k/\¬al<0/\12<al)\/(¬k<1/\¬3<k/\¬al<0/\¬12<al/\(4096:Int)<(B.size:Int))\/(¬k<1/\¬3<k/\¬al<0/\¬12<al/\¬(4096:Int)<(B.size:Int)/\(64:Int)<(n:Int))\/(¬k<1/\¬3<k/\¬al<0/\¬12<al/\¬(4096:Int)<(B.size:Int)/\¬(64:Int)<(n:Int)):=by omega
 rcases hcs with h|⟨h1,h⟩|⟨h1,h2,h⟩|⟨h1,h2,h3,h⟩|⟨h1,h2,h3,h4,h⟩|⟨h1,h2,h3,h4,h5,h⟩|⟨h1,h2,h3,h4,h5,h6⟩
 rotate_left 6;rotate_left 1;iterate 6
  have HF:Hid (R=false):=aH (by
   rw[HSec.out];simp only[Bool.and_eq_false_iff,decide_eq_false_iff_not];omega)
  clear HSec HNm;go_wp2;go_ret;exact aB HF.out.symm HBX.out
 have HR:Hid (R=gT k B.data.toList 0 l):=aH (by
  rw[HSec.out,decide_eq_true (p:=1<=k) (by omega),decide_eq_true (p:=k<=3) (by omega),decide_eq_true (p:=0<=al) (by omega),decide_eq_true (p:=al<=12) (by omega),decide_eq_true (p:=B.size<=4096) (by omega),decide_eq_true (p:=n<=64) (by omega)];rfl)
 have HB4:=aH (show B.size<=4096 by omega);have hn6:n<=64:=by omega
 clear HSec HNm;go_wp2_with fail
 clear h1 h2 h3 h4 h5 h6 f0 f1 f2 f3;go_loopg [3,4] (n) (fun g ev iv wl=>∃(j:Nat) (e:Int) (u:World),ev=.int .i64 e/\iv=.int .i64 (j:Int)/\u=wl/\j<=n/\Hid (0<=e/\e<=8192)/\Hid (R=gT k B.data.toList e (l.drop j))/\Hid (g=n-j)/\Hid (Below w.heap.size w u)/\Hid (RB u X #[.string N,.int .i64 k,.bool kp,.int .i64 al,.string B,.slice a n c] 97))
 case atStart=>exact⟨0,0,_,rfl,rfl,rfl,by omega,aH (by omega),aH (by rw[List.drop_zero];exact HR.out),aH rfl,HBX,HX⟩
 case round=>
  clear HBX HX HR;obtain⟨j,e,u',rfl,rfl,rfl,hj,HE,HA,HGk,HBX,HX⟩:=hrel;have f3:u'.cell? ⟨X,5,none⟩=some (.slice a n c):=HX.out.cell;by_cases hlt:j<n
  ·have HLT:=aH hlt;have hjl:j<l.length:=by rw[<-hl.out];exact hlt
   obtain⟨b,off,rfl,hbB,hc⟩:=(HS.out.below HBX.out).cells (HS.out.ne (k:=j) hlt);obtain⟨d0,d1,d2,d3⟩:=dN (fun i hi=>hc j hjl i hi);have HD:=aH (eW hjl);generalize l[j]=r at*
   have hji:(j:Int)<(n:Int):=by omega
   have hj0:(0:Int)<=(j:Int):=by omega
   have hbl:b<u'.heap.size:=Nat.lt_of_lt_of_le hbB HBX.out.size;have HKu:Hid (∀v,Below u'.heap.size u' v->v.cell? ⟨X,0,none⟩=some (.string N)/\v.cell? ⟨X,1,none⟩=some (.int .i64 k)/\v.cell? ⟨X,2,none⟩=some (.bool kp)/\v.cell? ⟨X,3,none⟩=some (.int .i64 al)/\v.cell? ⟨X,4,none⟩=some (.string B)/\v.cell? ⟨X,5,none⟩=some (.slice (some ⟨b,off,none⟩) n c)/\v.cell? ⟨b,off+j*4,none⟩=some (.int .i64 r.pos)/\v.cell? ⟨b,off+j*4+1,none⟩=some (.int .i64 r.kind)/\v.cell? ⟨b,off+j*4+2,none⟩=some (.int .i64 r.sym)/\v.cell? ⟨b,off+j*4+3,none⟩=some (.int .i64 r.add)):=aH (fun v hv=>⟨(HX.out.next hv).cell,(HX.out.next hv).cell,(HX.out.next hv).cell,(HX.out.next hv).cell,(HX.out.next hv).cell,(HX.out.next hv).cell,(hv.cell (p:=⟨b,off+j*4,none⟩) hbl).trans d0,(hv.cell (p:=⟨b,off+j*4+1,none⟩) hbl).trans d1,(hv.cell (p:=⟨b,off+j*4+2,none⟩) hbl).trans d2,(hv.cell (p:=⟨b,off+j*4+3,none⟩) hbl).trans d3⟩);obtain⟨Q,hQ⟩:=aE (relQ k B.data.toList e r);have HRl:Hid (∀u,Calls Tryz.prog 134 #[.agg #[.string N,.int .i64 k,.bool kp,.int .i64 al,.string B,.slice (some ⟨b,off,none⟩) n c],.agg #[.int .i64 r.pos,.int .i64 r.kind,.int .i64 r.sym,.int .i64 r.add],.int .i64 e] u (aP (.bool Q) u)):=aH (fun u=>by rw[hQ];exact rel_any N B k kp al (some ⟨b,off,none⟩) n c r e HB4.out HE.out.1 u);have HQ:=aH hQ.symm;clear hc hbB hjl hbl hQ d0 d1 d2 d3 hlt hj;go_wp2_with fail
   clear f3;obtain⟨v0,hv0⟩:=aE u'.drew;have hbd:Below u'.heap.size u' v0:=by rw[hv0];exact(Below.refl _ _).drew
   have HKp:Hid (∀v,Below v0.heap.size v0 v->v.cell? ⟨X,0,none⟩=some (.string N)/\v.cell? ⟨X,1,none⟩=some (.int .i64 k)/\v.cell? ⟨X,2,none⟩=some (.bool kp)/\v.cell? ⟨X,3,none⟩=some (.int .i64 al)/\v.cell? ⟨X,4,none⟩=some (.string B)/\v.cell? ⟨X,5,none⟩=some (.slice (some ⟨b,off,none⟩) n c)/\v.cell? ⟨b,off+j*4,none⟩=some (.int .i64 r.pos)/\v.cell? ⟨b,off+j*4+1,none⟩=some (.int .i64 r.kind)/\v.cell? ⟨b,off+j*4+2,none⟩=some (.int .i64 r.sym)/\v.cell? ⟨b,off+j*4+3,none⟩=some (.int .i64 r.add)):=aH (fun v hv=>HKu.out v (after hbd hv));have HDb:=aH hbd;have HV0:=aH hv0;clear hv0 hbd HKu;refine wp_region_held_drew (S:=fun u'=>u'.cell? ⟨X,0,none⟩=some (.string N)/\u'.cell? ⟨X,1,none⟩=some (.int .i64 k)/\u'.cell? ⟨X,2,none⟩=some (.bool kp)/\u'.cell? ⟨X,3,none⟩=some (.int .i64 al)/\u'.cell? ⟨X,4,none⟩=some (.string B)/\u'.cell? ⟨X,5,none⟩=some (.slice (some ⟨b,off,none⟩) n c)/\u'.cell? ⟨b,off+j*4,none⟩=some (.int .i64 r.pos)/\u'.cell? ⟨b,off+j*4+1,none⟩=some (.int .i64 r.kind)/\u'.cell? ⟨b,off+j*4+2,none⟩=some (.int .i64 r.sym)/\u'.cell? ⟨b,off+j*4+3,none⟩=some (.int .i64 r.add)) (by kernel_rfl) (by rw[<-HV0.out];exact HKp.out _ (Below.refl _ _)) (fun hHeld=>?_);rw[<-HV0.out];have hHeld0:=HKp.out _ (Below.refl _ _);clear hHeld;iterate 7 refine aN _ rfl hHeld0 ?_
   refine rd 7 rfl (fun K hK=>?_);go_simp;go_wp2_with (go_at_call 134;refine(HRl.out _).mono ?_;rintro e v ⟨rfl,hb⟩)
   have HKv:=aH (HKp.out _ hb);have HVb:=aH hb;refine hK.out _ _ HKv.out (fun hHeld1=>?_);clear hK K hb HKp;cases Q
   ·refine aI 8 _ rfl hHeld1 ?_;refine wpAnyH_done (by kernel_rfl) ?_ _;have HE1:Hid (R=false):=aH (by rw[HA.out,HD.out];unfold gT;rw[if_pos (of_relQ HQ.out)]);have HBx:=aH (after (after HBX.out HDb.out) HVb.out);go_wp2;go_ret;exact aB HE1.out.symm HBx.out
   ·refine aI 8 _ rfl hHeld1 ?_;refine wpAnyH_done (by kernel_rfl) ?_ _;have HE1:Hid (R=gT k B.data.toList (r.pos+rJ r.kind) (l.drop (j+1))):=aH (by rw[HA.out,HD.out,gT,if_neg (not_relQ HQ.out)]);have HBx:=aH (after (after HBX.out HDb.out) HVb.out);have HXx:=aH (HX.out.next (after HDb.out HVb.out));have HKx:=HKv.out;obtain⟨y0,y1,y2,y3,y4,y5,z0,z1,z2,z3⟩:=HKx;clear hHeld1 HKv;have hsz:=kV r.kind;have hp0:¬badR k B.data.toList e r:=not_relQ HQ.out;have hp1:0<=r.pos/\r.pos<=4096:=by
     have h0:=HE.out.1;have h1:¬r.pos<e:=fun h=>hp0 (.inl h)
     have h2:¬(B.data.toList.length:Int)-rJ r.kind<r.pos:=fun h=>hp0 (.inr (.inl h))
     have h3:B.data.toList.length=B.size:=by simp
     have:=HB4.out;omega
    have hwa:IntKind.i64.wrap (r.pos+rJ r.kind)=r.pos+rJ r.kind:=by rw[IntKind.wrap_i64];omega
    have hge:0<=r.pos+rJ r.kind/\r.pos+rJ r.kind<=8192:=by omega
    have HGe:=aH hge;have HSz:Hid (∀u,Calls Tryz.prog 135 #[.int .i64 r.kind] u (bQ (.int .i64 (rJ r.kind)) u)):=aH fun u=>rsize_any r.kind u
    obtain⟨z,hz⟩:=aE (rJ r.kind);rw[<-hz]at hwa HSz HE1 HGe;obtain⟨e2,he2⟩:=aE (r.pos+z);rw[<-he2]at hwa HE1 HGe;have HE2:=aH he2;clear hsz hp0 hp1 hge hz;obtain⟨rp,rk,rs,ra⟩:=r;simp only at z0 z1 z2 z3 hwa HSz HE2 he2;rw[he2]at hwa;clear he2;go_wp2_with fail
    go_big_quiet ((go_at_call 135;exact Calls.quiet_of_same ((HSz.out _).mono fun e w' h=>⟨h.1,h.2.symm⟩)));go_wp2;go_roundg (n-(j+1))
    case measure=>have:=HGk.out;have:=HLT.out;omega
    case rel=>exact⟨j+1,e2,_,by rw[HE2.out],by go_num,rfl,by have:=HLT.out;omega,HGe,HE1,aH rfl,aH (below_drewN HBx.out _),HXx⟩
  ·have hnlt:¬(j:Int)<(n:Int):=by omega
   have HE1:Hid (R=true):=aH (by rw[HA.out,List.drop_eq_nil_of_le (by rw[<-hl.out];omega)];rfl);clear hj hlt;go_wp2;go_ret;exact aB HE1.out.symm HBX.out
theorem rpIs_any (s:Sc)(a:Option Addr)(n c:Nat)(w:World)(hs:SL kY 4 w w.heap.size a n s.rels)(hn:n<=maxLen)(hg:fP s)(h1:s.name.length<=6000):Calls Tryz.prog 104 #[scV s a n c] w (aP (.bool (jH s)) w):=
 rpIs_core ⟨s.name.toArray⟩ ⟨s.data.toArray⟩ s.kind s.keep s.align a n c s.rels (by show s.name.toArray.size<=6000;simpa using h1) (by show s.data.toArray.size<=maxLen;simpa using hg.data) hn w hs
end
end Go.Proofs.YtiohgaghmnpplaaGreatDoor
