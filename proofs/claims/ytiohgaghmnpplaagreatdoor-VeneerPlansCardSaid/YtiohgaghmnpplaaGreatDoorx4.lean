/- veneer: lay. veneer: wants. -/
import Derived.Test.YtiohgaghmnpplaaGreatDoorqA
import Derived.Test.YtiohgaghmnpplaaGreatDoorx3
import Derived.Deep.AppendLies
import Derived.Lib.AppendZeros
set_option maxRecDepth 100000
set_option maxHeartbeats 3000000
set_option linter.unusedVariables false
set_option linter.unusedSimpArgs false
namespace Go.Proofs.YtiohgaghmnpplaaGreatDoor
section
open Go.ChangeShapes Go.WideShapes Go.Deep Go.RowKit
open Go.Proofs.YtiohgaghmnpplaaGreatDoor.Pl (encU encU_len Bk pL lY gW fY)
structure LV (p:Yp)(S:List Sc)(L:List Nat)(align:List Int)(w:World)(Y g:Nat):Prop where
 yd:YD p L w Y g
 n256:p.n<=256
 hL:∀x∈L,x<p.n
 ms:∃Lm:List Ms,S=Lm.map (·.sc)/\SL mX 6 w w.heap.size p.ua p.n Lm
 la:SL dT 1 w w.heap.size p.la p.ln (L.map Int.ofNat)
 aa:SL dT 1 w w.heap.size p.aa p.an align
theorem LV.next {p:Yp}{S:List Sc}{L:List Nat}{align:List Int}{w u:World}{Y g:Nat}(h:LV p S L align w Y g)(hb:Below w.heap.size w u):LV p S L align u Y g:=
 ⟨h.yd.next hb,h.n256,h.hL,by obtain⟨Lm,h1,h2⟩:=h.ms;exact⟨Lm,h1,h2.next hb⟩,h.la.next hb,h.aa.next hb⟩
abbrev fV (t d st r:Int):Array Value:=#[.int .u64 t,.int .u64 d,.int .u64 st,.int .i64 r]
def TwoU (P Q:List Int)(w:World)(e:Ending)(w':World):Prop:=∃a c a2 c2,e=.returned (.tuple #[.slice a P.length c,.slice a2 Q.length c2])/\w'.ownsRow w.heap.size 26 1 (.slice a P.length c) P.length (P.flatMap encU)/\w'.ownsRow w.heap.size 26 1 (.slice a2 Q.length c2) Q.length (Q.flatMap encU)/\
 (∀g,(Value.slice a P.length c).ownBlock=some g->(Value.slice a2 Q.length c2).ownBlock≠some g)/\Below w.heap.size w w'
structure CS (n:Nat)(w u:World)(X C:Nat)(o:Array Value)(l:List Vn):Prop where
 bb:Below w.heap.size w u
 xx:RB u X o 28
 cc:RB u C (iJ (fO n l)) 3
structure BS (n:Nat)(w u:World)(X:Nat)(o:Array Value)(v:List Vn)(la lb:List Bk)(a:Option Addr)(q c:Nat)(a2:Option Addr)(q2 c2:Nat):Prop where
 bb:Below w.heap.size w u
 xx:RB u X o 28
 cc:RB u (X+1) (iJ (fO n v)) 3
 o1:u.ownsRow (X+2) 106 2 (.slice a q c) q (la.flatMap pL)
 o2:u.ownsRow (X+2) 106 2 (.slice a2 q2 c2) q2 (lb.flatMap pL)
 ap:∀g,(Value.slice a q c).ownBlock=some g->(Value.slice a2 q2 c2).ownBlock≠some g
section
variable {n:Nat} {w u:World} {X:Nat} {o:Array Value} {v:List Vn} {la lb:List Bk} {a:Option Addr} {q c:Nat} {a2:Option Addr} {q2 c2:Nat}
theorem BS.next {u':World}(h:BS n w u X o v la lb a q c a2 q2 c2)(hb:Below u.heap.size u u'):BS n w u' X o v la lb a q c a2 q2 c2:=
 ⟨after h.bb hb,h.xx.next hb,h.cc.next hb,Pl.own_next h.o1 hb,Pl.own_next h.o2 hb,h.ap⟩
theorem BS.swap (h:BS n w u X o v la lb a q c a2 q2 c2):BS n w u X o v lb la a2 q2 c2 a q c:=
 ⟨h.bb,h.xx,h.cc,h.o2,h.o1,fun g h1 h2=>h.ap g h2 h1⟩
theorem info_blk:(Tryz.prog.info? 106).map (fun i=>(i.zero,i.size,i.bytes))=some (some (.agg #[.int .i64 0,.int .i64 0]),2,16):=by kernel_rfl
theorem BS.app (h:BS n w u X o v la lb a q c a2 q2 c2)(b:Bk)(hq:q<=1000000)(hX:w.heap.size<=X):
  ∃g cap w',(Builtin.append_ #[103,103] 103 #[.slice a q c,.slice (some ⟨u.heap.size,0,none⟩) 1 1]).run Tryz.prog (u.alloc (.cells #[.int .i64 b.1,.int .i64 b.2] 106))=.ok (.slice (some ⟨g,0,none⟩) (q+1) cap) w'/\
   BS n w w' X o v (la++ [b]) lb (some ⟨g,0,none⟩) (q+1) cap a2 q2 c2:=by
 obtain⟨i0,hi,hz0,hz1,hz2⟩:=info_parts info_blk;obtain⟨W4,hW4⟩:=aE (u.alloc (.cells #[.int .i64 b.1,.int .i64 b.2] 106));have hb4:Below u.heap.size u W4:=by rw[hW4];exact aC _ _
 have h4:=h.next hb4;have hz4:W4.heap.size=u.heap.size+1:=by rw[hW4];exact World.size_alloc _ _
 have hXl:=lt_of_block h.cc;have hnews:∀j x,[Value.int .i64 b.1,.int .i64 b.2][j]?=some x->W4.cell? ((⟨u.heap.size,0,none⟩:Addr).add j)=some x:=by
  rw[hW4];exact World.news_of_block (cs:=#[.int .i64 b.1,.int .i64 b.2]) (t:=106) (fr:=(0,0)) (heap_alloc_new u _)
 obtain ⟨g,cap,w',hr,ho,hgr,hlie,hlt⟩:=run_append_lies (P:=Tryz.prog) (w:=W4) 103 103 (X+2) 106 i0 _ 2 16 Tryz.underlying103 hi hz0 hz1 hz2 rfl (by decide) (.slice a q c) q (la.flatMap pL) h4.o1 ⟨u.heap.size,0,none⟩ 1 1 [.int .i64 b.1,.int .i64 b.2] rfl hnews (by intro x hx;simp only [List.mem_cons,List.not_mem_nil,or_false] at hx;rcases hx with rfl | rfl <;> rfl) (by decide) (by unfold maxLen;omega) (by omega) (by omega) (u.heap.size+1) hz4;have hfar:∀k,k<X+2->some k≠(Value.slice a q c).ownBlock:=fun k hk e=>by have:=(h4.o1.lt k e.symm).1;omega
 rw[<-hW4];refine⟨g,cap,w',hr,⟨h4.bb.grown hgr h4.bb.size (fun j hj=>by have:=(h4.o1.lt j hj).1;omega),(hgr.block X (lt_of_block h4.xx) (hfar X (by omega))).trans h4.xx,(hgr.block (X+1) (lt_of_block h4.cc) (hfar _ (by omega))).trans h4.cc,by rw[List.flatMap_append];exact ho,h4.o2.kept hgr ?_,fun g' hg' he=>?_⟩⟩
 ·cases e:(Value.slice a2 q2 c2).ownBlock with
  |none=>exact .inl rfl
  |some j=>exact .inr (fun e2=>h.ap j e2.symm (by rw[e]))
 ·simp only[Value.ownBlock,Option.map_some,Option.some.injEq]at hg';subst hg';rcases hlie with h1|h1
  ·exact h.ap g h1 he
  ·have:=(h.o2.lt g he).2;omega
end
theorem qY {S:List Sc}{v:List Vn}{l:List (Nat×Int)}{k:Nat}{x:Int}:gK S v (l++ [(k,x)])=gK S v l++(if bG S k=1 then([(((gN S k+12*cZ v k:Nat):Int),max x 2)]:List Bk)else []):=by
 unfold gK;rw[List.filterMap_append];by_cases h:bG S k=1<;>simp[h]
theorem oM {S:List Sc}{l:List (Nat×Int)}{k:Nat}{x:Int}:dP S (l++ [(k,x)])=dP S l++(if bG S k=1 then []else([(((iI S k:Nat):Int),x)]:List Bk)):=by
 unfold dP;rw[List.filterMap_append];by_cases h:bG S k=1<;>simp[h]
theorem vtx_len {S:List Sc}{v:List Vn}{l:List (Nat×Int)}:(gK S v l).length<=l.length:=List.length_filterMap_le _ _
theorem rD {S:List Sc}{l:List (Nat×Int)}:(dP S l).length<=l.length:=List.length_filterMap_le _ _
theorem app_words {w:World}{B n c m c2:Nat}{xs ys:List Int}{a b:Option Addr}(hown:w.ownsRow B 26 1 (.slice a n c) n (xs.flatMap encU))(hs:SL encU 1 w w.heap.size b m ys)(hz:b=none->m=0/\c2=0)(hn:n<=300)(hm:m<=300)(hB:B<=w.heap.size)(ty:TypeId):
  ∃a' c' w',(Builtin.append_ #[31,31] ty #[.slice a n c,.slice b m c2]).run Tryz.prog w=.ok (.slice a' (n+m) c') w'/\w'.ownsRow B 26 1 (.slice a' (n+m) c') (n+m) ((xs++ys).flatMap encU)/\w.grownBy w' (Value.slice a n c).ownBlock:=by
 obtain⟨i0,hi,hi0,hi1,hi2⟩:=info_parts Pl.info26;have hfl:(ys.flatMap encU).length=m*1:=by rw[nZ encU_len,hs.len]
 cases b with
 |none=>
  obtain⟨rfl,rfl⟩:=hz rfl;have hy:ys=[]:=by have:=hs.len;cases ys with|nil=>rfl|cons=>simp at this
  subst hy;exact⟨a,c,w,run_append_owned_none w B 31 ty 26 i0 1 Tryz.underlying31 hi _ n _ hown,by simpa using hown,⟨rfl,rfl,rfl,Nat.le_refl _,fun _ _ _=>rfl⟩⟩
 |some ad=>
  obtain ⟨v',w',hr,ho,hgr,hf⟩:=run_append_own (P:=Tryz.prog) w B 31 ty 26 i0 _ 1 8 Tryz.underlying31 hi hi0 hi1 hi2 rfl (by decide) _ n _ hown ad m c2 (ys.flatMap encU) hfl (hs.news encU_len (by decide)) (by
   intro u hu;obtain⟨b,-,hb⟩:=List.mem_flatMap.1 hu;simp only[encU,List.mem_singleton]at hb;subst hb;rfl) (by unfold maxLen;omega) (by omega) hB
  rw[<-List.flatMap_append]at ho;obtain⟨a',c',rfl⟩:∃a' c',v'=.slice a' (n+m) c':=by
   rcases ho.2 with⟨h,h0⟩|⟨g,cap,cur,h,-⟩
   ·exact⟨none,0,by rw[h,h0]⟩
   ·exact⟨_,_,h⟩
  exact⟨a',c',w',hr,ho,hgr⟩
theorem lC {l:List Bk}{base:Int}(h:∀b∈l,0<=b.1/\b.1<=16384/\0<=b.2/\b.2<=12)(hl:l.length<=256)(hb:base<=4611686018427387904):(fY l base).1=(gW l base).1:=by
 unfold fY;rw[if_neg,if_neg (by omega),if_neg (by omega)];intro hf;rw[List.all_eq_false]at hf;obtain⟨b,hb,hn⟩:=hf;exact hn (by unfold Pl.okB;exact decide_eq_true (h b hb))
theorem yLay_any (p:Yp)(S:List Sc)(rep:List Int)(L:List Nat)(align:List Int)(Y g:Nat)(t d st r:Int)(va:Option Addr)(vn vc:Nat)(v:List Vn)(w:World)(h:LV p S L align w Y g)(hQ:iT S rep L align)
  (hv:SL gB 3 w w.heap.size va vn v) (hvr:aX S L [] v=true) (hvn:vn<=1000000) (t0:0<=t) (t1:t<=4611686018427387904) (d0:0<=d) (d1:d<=4611686018427387904):
  Calls Tryz.prog 28 #[.pointer (some ⟨Y,0,none⟩),.agg (fV t d st r),.slice va vn vc] w (TwoU (bF S L align t d v) (kS S L (bF S L align t d v) v) w):=by
 obtain⟨hv1,hv2,hv3⟩:=gZ.1 hvr;have HVs:Hid (∀x∈v,∃q:Nat,x.1=(q:Int)/\q∈L/\q<p.n):=aH fun x hx=>by
  have h1:=(hv2 x hx).1;unfold eF bC at h1;simp only[Bool.and_eq_true,decide_eq_true_eq]at h1;exact⟨x.1.toNat,by omega,h1.1.2,h.hL _ h1.1.2⟩
 have HV:=aH (fun u (hu:Below w.heap.size w u)=>hv.next hu);have HVl:Hid (v.length=vn):=aH hv.len.symm;have HVn:=aH hvn;have HV3:=aH hv3;have HLV:=aH h;have HQ:=aH hQ;have HT:=aH (And.intro (And.intro t0 t1) (And.intro d0 d1));obtain⟨ua,n,uc,ra,rn,rc,la,ln,lc,aa,an,ac⟩:=p;simp only[]at HVs;have hn:=HLV.out.n256;simp only[]at hn;have hni:(n:Int)<=256:=by omega
 have hmk:=jX n (by omega);obtain⟨X,hX⟩:=aE w.heap.size;have hsz:(w.alloc (.cells (fV t d st r) 28)).heap.size=X+1:=by rw[hX];exact World.size_alloc _ _
 have hb1:=aC w (.cells (fV t d st r) 28);obtain⟨W,hW⟩:=aE ((w.alloc (.cells (fV t d st r) 28)).alloc (.cells (iJ (List.replicate n 0)) 3));have hb2:=aC (w.alloc (.cells (fV t d st r) 28)) (.cells (iJ (List.replicate n 0)) 3);have HS0:Hid (CS n w W X (X+1) (fV t d st r) []):=aH ⟨by rw[hW];exact after hb1 hb2,by rw[hW,hX];exact(aQ w _ _).next hb2,by rw[hW,<-hsz,qO];exact aQ _ _ _⟩;have HWe:=aH hW.symm;have HXe:=aH hX.symm;have hy0:(w.alloc (.cells (fV t d st r) 28)).cell? ⟨Y,0,none⟩=some (.slice ua n uc):=(HLV.out.yd.next hb1).yy.cell;have HMk:Hid (w.heap.size<=X):=aH (by omega);clear h hQ hv hvr hvn t0 t1 d0 d1 hv1 hv2 hv3 hn hX hb1 hb2 hW;go_enter Tryz.func28,Tryz.ntmps28;go_wp2_with fail
 try rw[hsz]
 rw[HWe.out,HXe.out];clear hmk hy0 hsz;go_loopw [29] (fun i wr=>∃(k:Nat) (wx:World),wx=wr/\k<=vn/\i=.int .i64 k/\Hid (CS n w wx X (X+1) (fV t d st r) (v.take k))) (fun i _=>vn-(intOf i).toNat)
 case atStart=>exact⟨0,_,rfl,by omega,rfl,HS0⟩
 case round=>
  clear HS0;obtain⟨k,wx,rfl,hk,rfl,HS⟩:=hrel;by_cases hlt:k<vn
  ·have hlti:(k:Int)<(vn:Int):=by omega
   have HLT:=aH hlt;have HWk:Hid (wrap64 ((k:Int)+1)=(k:Int)+1):=aH (by have:=HVn.out;unfold wrap64;omega);have hkl:k<v.length:=by rw[HVl.out];exact hlt
   obtain⟨x,hx⟩:=aG (l:=v) (i:=k) hkl;obtain⟨vb,vo,hva,-,hvc⟩:=(HV.out wx HS.out.bb).cells (by intro e;rw[e]at hkl;simp at hkl);subst hva;obtain⟨x0,x1,x2⟩:=fI (off:=vo) (k:=k) (x:=x) (fun j hj=>by have h1:=hvc k hkl j hj;rw[(eX hx).2]at h1;exact h1);obtain⟨ks,hks,hkL,hkn⟩:=HVs.out x (eQ hx);obtain⟨cn,hcn⟩:=aE (cZ (v.take k) (ks:Int));have hc64:cn<=64:=by rw[hcn];exact Nat.le_trans (cnt_take k) (HV3.out _)
   have hki:(ks:Int)<(n:Int):=by omega
   have hcni:(cn:Int)<=64:=by omega
   obtain⟨se,tt,ad⟩:=x;simp only[]at x0 x1 x2 hks;subst hks;have HTk:Hid (v.take (k+1)=v.take k++ [((ks:Int),tt,ad)]):=aH (by rw[List.take_add_one,hx];rfl);obtain⟨X2,hX2⟩:=aE wx.heap.size;obtain⟨W2,hW2⟩:=aE (wx.alloc (.cells #[.int .i64 (ks:Int),.int .i64 tt,.int .i64 ad] 80));have hB2:Below wx.heap.size wx W2:=by rw[hW2];exact aC _ _
   have HC2:Hid (RB W2 (X+1) (iJ (fO n (v.take k))) 3):=aH (HS.out.cc.next hB2);have HR2:Hid (RB W2 X2 #[.int .i64 (ks:Int),.int .i64 tt,.int .i64 ad] 80):=aH (by rw[hW2,hX2];exact aQ _ _ _);have hX2w:X+1<X2:=by rw[hX2];exact lt_of_block HS.out.cc
   have HSn:Hid (CS n w (W2.setCell ⟨X+1,ks,none⟩ (.int .i64 ((cn:Int)+1))) X (X+1) (fV t d st r) (v.take (k+1))):=aH ⟨(after HS.out.bb hB2).setCell (p:=⟨X+1,ks,none⟩) (by have:=HMk.out;show w.heap.size<=X+1;omega) _,(Below.heap_setCell _ _ _ _ (show X≠X+1 by omega)).trans (HS.out.xx.next hB2),by
    have:=HC2.out.set (j:=ks) (.int .i64 ((cn:Int)+1));rw[sD,hcn,oC (x:=((ks:Int),tt,ad)) rfl hkn,<-HTk.out]at this;rw[hcn];exact this⟩
   have c0:W2.cell? ⟨X2,0,none⟩=some (.int .i64 (ks:Int)):=HR2.out.cell;have z0:W2.cell? ⟨X+1,ks,none⟩=some (.int .i64 (cn:Int)):=by rw[HC2.out.cell];exact gG (by rw[hcn];exact fE _ hkn)
   have z1:W2.frozen? ⟨X+1,ks,none⟩=false:=HC2.out.frozen;rw[hW2,hX2]at c0;rw[hW2]at z0 z1;rw[hW2]at HSn;clear hvc hk hlt hkl hx hkL hkn hcn hc64 hB2 HS hX2w hW2 hX2;go_wp2;go_roundw
   case rel=>exact⟨k+1,_,rfl,by have:=HLT.out;omega,by rw[HWk.out];go_num,HSn⟩
   case measure=>exact fX HLT.out HWk.out
  ·obtain rfl:vn=k:=by omega
   have hge:¬(vn:Int)<(vn:Int):=by omega
   have HE:Hid (v.take vn=v):=aH (by rw[<-HVl.out,List.take_length]);clear hk hlt;have hy1:wx.cell? ⟨Y,1+1,none⟩=some (.slice la ln lc):=(HLV.out.yd.next HS.out.bb).yy.cell;have hy2:wx.cell? ⟨Y,2,none⟩=some (.slice la ln lc):=(HLV.out.yd.next HS.out.bb).yy.cell;go_wp2_with fail
   clear hy1 hy2 hge;have HB0:Hid (BS n w wx X (fV t d st r) v (gK S v ((L.zip align).take 0)) (dP S ((L.zip align).take 0)) none 0 0 none 0 0):=aH ⟨HS.out.bb,HS.out.xx,by have:=HS.out.cc;rw[HE.out]at this;exact this,World.ownsRow_nil _ _ _ _,World.ownsRow_nil _ _ _ _,fun g h=>by cases h⟩;clear HS HE;have HLl:Hid (L.length=ln):=aH (by have:=HLV.out.la.len;simpa using this.symm);have HAl:Hid (align.length=ln):=aH (by rw[HQ.out.al];exact HLl.out);have HLn:Hid (ln<=256):=aH (by rw[<-HLl.out];exact HQ.out.n256);have hlni:(ln:Int)<=256:=by have:=HLn.out;omega
   go_loopw [11,12,47] (fun tv dv i wr=>∃(k:Nat) (wy:World) (a:Option Addr) (q c:Nat) (a2:Option Addr) (q2 c2:Nat),wy=wr/\k<=ln/\tv=.slice a q c/\dv=.slice a2 q2 c2/\i=.int .i64 k/\Hid (q=(gK S v ((L.zip align).take k)).length)/\Hid (q2=(dP S ((L.zip align).take k)).length)/\Hid (BS n w wy X (fV t d st r) v (gK S v ((L.zip align).take k)) (dP S ((L.zip align).take k)) a q c a2 q2 c2)) (fun _ _ i _=>ln-(intOf i).toNat)
   case atStart=>exact⟨0,_,none,0,0,none,0,0,rfl,by omega,rfl,rfl,rfl,aH rfl,aH rfl,HB0⟩
   case round=>
    clear HB0;obtain⟨k,wy,a,q,c,a2,q2,c2,rfl,hk,rfl,rfl,rfl,HQ1,HQ2,HB⟩:=hrel;by_cases hlt:k<ln
    ·have hlti:(k:Int)<(ln:Int):=by omega
     have HLT:=aH hlt;have HWk:Hid (wrap64 ((k:Int)+1)=(k:Int)+1):=aH (by have:=HLn.out;unfold wrap64;omega);obtain⟨x,hx⟩:=aG (l:=L) (i:=k) (by rw[HLl.out];exact hlt);obtain⟨al,hal⟩:=aG (l:=align) (i:=k) (by rw[HAl.out];exact hlt);have HTk:Hid ((L.zip align).take (k+1)=(L.zip align).take k++ [(x,al)]):=aH (by
      rw[List.take_add_one];congr 1;rw[List.getElem?_zip_eq_some.2 (show L[k]?=some (x,al).1/\align[k]?=some (x,al).2 from⟨hx,hal⟩)];rfl)
     have hxn:x<n:=HLV.out.hL x (eQ hx);have hxi:(x:Int)<(n:Int):=by omega
     obtain⟨s,hs0,hsd,-,-⟩:=HQ.out.inn x (eQ hx);obtain⟨al0,al1⟩:=HQ.out.a0 al (eQ hal);obtain⟨Lm,hSe,hms⟩:=HLV.out.ms;obtain⟨m,hm⟩:=aG (l:=Lm) (i:=x) (by have:=hms.len;simp only[]at this;omega);obtain⟨ub,uo,hua,-,-⟩:=hms.cells (by intro e;rw[e]at hm;cases hm);simp only[]at hua;subst hua;have HU:=aH (fun u (hu:Below w.heap.size w u)=>cO hms hu hm);have hkd:bG S x=m.sc.kind:=by unfold bG;rw[hSe,List.getElem?_map,hm];rfl
     have hld:iI S x=m.sc.data.length:=by rw[hSe];exact lenN_at hm
     have hdl:iI S x<=4096:=by unfold iI;rw[hs0];exact hsd
     have HEnd:Hid (∀u,Below w.heap.size w u->Calls Tryz.prog 56 #[.pointer (some ⟨Y,0,none⟩),.int .i64 (x:Int)] u (bQ (.int .i64 ((gN S x:Nat):Int)) u)):=aH fun u hu=>by
      rw[hSe];exact end_any _ L Lm Y g x u HLV.out.n256 hxn (hms.next hu) (HLV.out.yd.next hu) (by rw[<-hSe];omega)
     obtain⟨kd,hkd2⟩:=aE m.sc.kind;obtain⟨lb,lo,hla,-,-⟩:=HLV.out.la.cells (by intro e;rw[List.map_eq_nil_iff]at e;rw[e]at hx;cases hx);simp only[]at hla;subst hla;obtain⟨ab,ao,haa,-,-⟩:=HLV.out.aa.cells (by intro e;rw[e]at hal;cases hal);simp only[]at haa;subst haa;have HAc:=aH (fun u (hu:Below w.heap.size w u)=>bR HLV.out.aa hu hal);have l0:wy.cell? ⟨lb,lo+k,none⟩=some (.int .i64 (x:Int)):=bR HLV.out.la HB.out.bb (by rw[List.getElem?_map,hx];rfl);have k0:wy.cell? ⟨ub,uo+x*6+1,none⟩=some (.int .i64 kd):=by rw[hkd2];exact(HU.out wy HB.out.bb).2.1
     have y0:wy.cell? ⟨Y,0,none⟩=some (.slice (some ⟨ub,uo,none⟩) n uc):=(HLV.out.yd.next HB.out.bb).yy.cell;have hka:(k:Int)<(an:Int):=by have h1:=HLV.out.aa.len;have h2:=HAl.out;simp only[]at h1;omega
     by_cases hk1:kd=1
     ·subst hk1;obtain⟨cn,hcn⟩:=aE (cZ v (x:Int));obtain⟨en,hen⟩:=aE (gN S x);have hcn64:cn<=64:=by rw[hcn];exact HV3.out _
      have hen5:en<=5000:=by rw[hen];unfold gN;omega
      have hcni:(cn:Int)<=64:=by omega
      have heni:(en:Int)<=5000:=by omega
      rw[<-hen]at HEnd;obtain⟨z,hz⟩:=aE (((en+12*cn:Nat):Int));have hZ:IntKind.i64.wrap ((en:Int)+IntKind.i64.wrap (12*(cn:Int)))=z:=by
       rw[show IntKind.i64.wrap (12*(cn:Int))=12*(cn:Int)from by rw[IntKind.wrap_i64];omega,show IntKind.i64.wrap ((en:Int)+12*(cn:Int))=(en:Int)+12*(cn:Int)from by rw[IntKind.wrap_i64];omega,hz];omega
      have HSc:Hid (∀v',Below w.heap.size w v'->RB v' (X+1) (iJ (fO n v)) 3->v'.cell? ⟨Y,3,none⟩=some (.slice (some ⟨ab,ao,none⟩) an ac)/\v'.cell? ⟨X+1,x,none⟩=some (.int .i64 (cn:Int))/\v'.cell? ⟨ab,ao+k,none⟩=some (.int .i64 al)):=aH fun v' h1 h2=>⟨(HLV.out.yd.next h1).yy.cell,by rw[h2.cell];exact gG (by rw[hcn];exact fE _ hxn),HAc.out _ h1⟩
      have hS1k:bG S x=1:=by rw[hkd];omega
      have hvt:gK S v ((L.zip align).take (k+1))=gK S v ((L.zip align).take k)++ [(z,max al 2)]:=by rw[HTk.out,qY,if_pos hS1k,hz,hcn,hen]
      have hvd:dP S ((L.zip align).take (k+1))=dP S ((L.zip align).take k):=by rw[HTk.out,oM,if_pos hS1k,List.append_nil]
      have hql:q<=1000000:=by
       have h1:=HQ1.out;have h2:=vtx_len (S:=S) (v:=v) (l:=(L.zip align).take k);have h3:((L.zip align).take k).length<=k:=by rw[List.length_take];omega
       have:=HLn.out;omega
      have HD1:=aH hvt;have HD2:=aH hvd;have HQl:=aH hql;clear hvt hvd hql hS1k hkd2 hkd hld hm hms hx hal hs0 hsd hxn hSe hen hcn hcn64 hen5 hz;go_wp2_with fail
      obtain⟨V,hV,hT⟩:=aD wy;have HBv:=aH (HB.out.next hT);have hS0:=HSc.out V HBv.out.bb HBv.out.cc;refine aR2 hV HSc.out HBv.out.bb HBv.out.cc ?_;clear hV hT;obtain⟨g5,cap,W5,hr,hB5⟩:=HBv.out.app (z,max al 2) HQl.out HMk.out;simp only[]at hr;obtain⟨W4,hW4⟩:=aE (V.alloc (.cells #[.int .i64 z,.int .i64 (max al 2)] 106));have hb4:Below V.heap.size V W4:=by rw[hW4];exact aC _ _
      have hS4:=HSc.out W4 (HBv.out.next hb4).bb (HBv.out.next hb4).cc;have hS5:=HSc.out W5 hB5.bb hB5.cc;rw[<-hW4]at hr;have HBn:Hid (BS n w W5 X (fV t d st r) v (gK S v ((L.zip align).take (k+1))) (dP S ((L.zip align).take (k+1))) (some ⟨g5,0,none⟩) (q+1) cap a2 q2 c2):=aH (by rw[HD1.out,HD2.out];exact hB5);have HQ1n:Hid (q+1=(gK S v ((L.zip align).take (k+1))).length):=aH (by rw[HD1.out,HQ1.out,List.length_append];rfl);have HQ2n:Hid (q2=(dP S ((L.zip align).take (k+1))).length):=aH (by rw[HD2.out];exact HQ2.out);clear hB5 hb4;iterate 3 refine aN _ rfl hS0 ?_
      refine aI 4 _ rfl hS0 ?_;refine aI 5 _ rfl hS0 ?_;refine aI 6 _ rfl hS0 ?_;refine aI 7 _ rfl hS0 ?_;refine aI 8 _ rfl hS0 ?_;refine aI 10 _ rfl hS0 ?_;refine aI 11 _ rfl hS0 ?_;refine aI 12 _ rfl hS0 ?_;refine aI 13 _ rfl hS0 ?_;refine aI 14 _ rfl hS0 ?_;refine aI 15 _ rfl hS0 ?_;refine aI 16 _ rfl hS0 ?_;refine aI 17 _ rfl hS0 ?_;refine aI 18 _ rfl hS0 ?_;refine rd 3 rfl (fun K hK=>?_);go_simp;go_wp2_with (go_at_call 56;refine(HEnd.out V HBv.out.bb).mono ?_;rintro e u ⟨rfl,rfl⟩)
      refine hK.out _ _ hS0 (fun hX9=>?_);clear hK K hX9;refine aI 9 _ rfl hS0 ?_;refine aI 19 _ rfl hS0 ?_;refine rd 20 rfl (fun K hK=>?_);go_simp;rw[<-hW4];refine hK.out _ _ hS4 (fun hX9=>?_);clear hK K hX9;refine rd 21 rfl (fun K hK=>?_);refine step_run rfl _ _ 103 rfl _ _ (by rfl) (by rfl) hr ?_;refine hK.out _ _ hS5 (fun hX9=>?_);clear hK K hX9;refine rd 22 rfl (fun K hK=>?_);go_simp;refine hK.out _ _ hS5 (fun hX9=>?_);clear hK K hX9;refine wpAnyH_done (by kernel_rfl) ?_ _;clear hS0 hS4 hS5 hr hW4 l0 k0 y0;go_wp2;go_roundw
      case rel=>exact⟨k+1,_,_,_,_,_,_,_,rfl,by have:=HLT.out;omega,rfl,rfl,by go_num,HQ1n,HQ2n,HBn⟩
      case measure=>exact aK HLT HWk
     ·have hk2:(kd==1)=false:=by simp[hk1]
      obtain⟨D,hD⟩:∃D:ByteArray,D=⟨m.sc.data.toArray⟩:=⟨_,rfl⟩;have hDs:D.size=iI S x:=by rw[hld,hD];show m.sc.data.toArray.size=_;simp
      have HSc:Hid (∀v',Below w.heap.size w v'->v'.cell? ⟨Y,0,none⟩=some (.slice (some ⟨ub,uo,none⟩) n uc)/\v'.cell? ⟨Y,3,none⟩=some (.slice (some ⟨ab,ao,none⟩) an ac)/\v'.cell? ⟨ub,uo+x*6+4,none⟩=some (.string D)/\v'.cell? ⟨ab,ao+k,none⟩=some (.int .i64 al)):=aH fun v' h1=>⟨(HLV.out.yd.next h1).yy.cell,(HLV.out.yd.next h1).yy.cell,by rw[hD];exact(HU.out v' h1).2.2.2.2.1,HAc.out _ h1⟩
      have hS1k:¬bG S x=1:=by rw[hkd];omega
      have hvt:gK S v ((L.zip align).take (k+1))=gK S v ((L.zip align).take k):=by rw[HTk.out,qY,if_neg hS1k,List.append_nil]
      have hvd:dP S ((L.zip align).take (k+1))=dP S ((L.zip align).take k)++ [((D.size:Int),al)]:=by rw[HTk.out,oM,if_neg hS1k,hDs]
      have hql:q2<=1000000:=by
       have h1:=HQ2.out;have h2:=rD (S:=S) (l:=(L.zip align).take k);have h3:((L.zip align).take k).length<=k:=by rw[List.length_take];omega
       have:=HLn.out;omega
      have HD1:=aH hvt;have HD2:=aH hvd;have HQl:=aH hql;clear hvt hvd hql hS1k hkd2 hkd hld hm hms hx hal hs0 hsd hxn hSe hD hDs;go_wp2_with fail
      obtain⟨V,hV,hT⟩:=aD wy;have HBv:=aH (HB.out.next hT);have hS0:=HSc.out V HBv.out.bb;refine aR hV HSc.out HBv.out.bb ?_;clear hV hT;obtain⟨g5,cap,W5,hr,hB5⟩:=HBv.out.swap.app ((D.size:Int),al) HQl.out HMk.out;simp only[]at hr;obtain⟨W4,hW4⟩:=aE (V.alloc (.cells #[.int .i64 (D.size:Int),.int .i64 al] 106));have hb4:Below V.heap.size V W4:=by rw[hW4];exact aC _ _
      have hS4:=HSc.out W4 (HBv.out.next hb4).bb;have hS5:=HSc.out W5 hB5.bb;rw[<-hW4]at hr;have HBn:Hid (BS n w W5 X (fV t d st r) v (gK S v ((L.zip align).take (k+1))) (dP S ((L.zip align).take (k+1))) a q c (some ⟨g5,0,none⟩) (q2+1) cap):=aH (by rw[HD1.out,HD2.out];exact hB5.swap);have HQ1n:Hid (q=(gK S v ((L.zip align).take (k+1))).length):=aH (by rw[HD1.out];exact HQ1.out);have HQ2n:Hid (q2+1=(dP S ((L.zip align).take (k+1))).length):=aH (by rw[HD2.out,HQ2.out,List.length_append];rfl);clear hB5 hb4;iterate 19 refine aN _ rfl hS0 ?_
      refine rd 19 rfl (fun K hK=>?_);go_simp;rw[<-hW4];refine hK.out _ _ hS4 (fun hX9=>?_);clear hK K hX9;refine rd 20 rfl (fun K hK=>?_);refine step_run rfl _ _ 103 rfl _ _ (by rfl) (by rfl) hr ?_;refine hK.out _ _ hS5 (fun hX9=>?_);clear hK K hX9;refine rd 21 rfl (fun K hK=>?_);go_simp;refine hK.out _ _ hS5 (fun hX9=>?_);clear hK K hX9;refine wpAnyH_done (by kernel_rfl) ?_ _;clear hS0 hS4 hS5 hr hW4 l0 k0 y0;go_wp2;go_roundw
      case rel=>exact⟨k+1,_,_,_,_,_,_,_,rfl,by have:=HLT.out;omega,rfl,rfl,by go_num,HQ1n,HQ2n,HBn⟩
      case measure=>exact aK HLT HWk
    ·obtain rfl:ln=k:=by omega
     have hge:¬(ln:Int)<(ln:Int):=by omega
     clear hk hlt;have HTz:Hid ((L.zip align).take ln=L.zip align):=aH (List.take_of_length_le (by rw[List.length_zip,HLl.out,HAl.out];omega));rw[HTz.out]at HQ1 HQ2 HB;obtain⟨l1,hl1⟩:=aE (gK S v (L.zip align));obtain⟨l2,hl2⟩:=aE (dP S (L.zip align));rw[<-hl1]at HQ1 HB;rw[<-hl2]at HQ2 HB;have hk1:=vtx_ok HQ.out (v:=v) HV3.out;have hk2:=vdat_ok HQ.out;rw[<-hl1]at hk1;rw[<-hl2]at hk2;have hz1:(L.zip align).length<=256:=by rw[List.length_zip,HLl.out];have:=HLn.out;omega
     have hn1:l1.length<=256:=by rw[hl1];exact Nat.le_trans vtx_len hz1
     have hn2:l2.length<=256:=by rw[hl2];exact Nat.le_trans rD hz1
     have x0:wy.cell? ⟨X,0,none⟩=some (.int .u64 t):=HB.out.xx.cell;obtain⟨⟨t0,t1⟩,d0,d1⟩:=HT.out;have hPe:(fY l1 t).1++(fY l2 d).1=bF S L align t d v:=by rw[lC hk1 hn1 t1,lC hk2 hn2 d1,hl1,hl2];rfl
     have HPe:=aH hPe;have HK1:=aH hk1;have HK2:=aH hk2;have HN12:Hid (l1.length<=256/\l2.length<=256):=aH ⟨hn1,hn2⟩;have HLL:Hid (((fY l1 t).1).length<=256/\((fY l2 d).1).length<=256):=aH ⟨by rw[lC hk1 hn1 t1,layL_n];exact hn1,by rw[lC hk2 hn2 d1,layL_n];exact hn2⟩;clear hk1 hk2 hz1 hn1 hn2 t0 t1 d0 d1 hPe hl1 hl2;go_wp2_with fail
     refine(Pl.lay_any a q c l1 t wy (by have:=HQ1.out;have:=HN12.out.1;omega) (by obtain⟨a',c',e',h9,-⟩:=SL.ofOwns lY (by decide) HB.out.o1;injection e' with e1 e2 e3;subst e1;rw[HQ1.out];rw[HQ1.out]at h9;exact h9) (fun b hb=>by have:=HK1.out b hb;unfold Pl.bkB Pl.i64B;omega) HT.out.1.1 (by have:=HT.out.1.2;omega)).mono ?_;rintro e u1 ⟨a1,n1,c1,rfl,hs1,hnil1,hb1,ho1⟩;have x1:u1.cell? ⟨X,1,none⟩=some (.int .u64 d):=(HB.out.xx.next hb1).cell;have HB1:=aH (HB.out.next hb1);have HO1:=aH ho1;have HBy:=aH hb1.size;have HS1l:Hid (n1=((fY l1 t).1).length):=aH hs1.len;clear x0 hs1 hnil1 hb1 ho1;go_wp2_with fail
     refine(Pl.lay_any a2 q2 c2 l2 d u1 (by have:=HQ2.out;have:=HN12.out.2;omega) (by obtain⟨a',c',e',h9,-⟩:=SL.ofOwns lY (by decide) HB1.out.o2;injection e' with e1 e2 e3;subst e1;rw[HQ2.out];rw[HQ2.out]at h9;exact h9) (fun b hb=>by have:=HK2.out b hb;unfold Pl.bkB Pl.i64B;omega) HT.out.2.1 (by have:=HT.out.2.2;omega)).mono ?_;rintro e u2 ⟨a3,n3,c3,rfl,hs3,hnil3,hb3,ho3⟩;have hl3:=hs3.len;obtain⟨a4,c4,u3,hr,ho4,hg4⟩:=app_words (Pl.own_next HO1.out hb3) hs3 hnil3 (by rw[HS1l.out];have:=HLL.out.1;omega) (by rw[hl3];have:=HLL.out.2;omega) (by have:=HBy.out;have:=hb3.size;omega) 31;rw[HPe.out]at ho4;have hbw:w.heap.size<=wy.heap.size:=HB.out.bb.size;have HB3:Hid (Below w.heap.size w u3):=aH ((after HB1.out.bb hb3).grown hg4 (after HB1.out.bb hb3).size (fun j hj=>by have:=(HO1.out.lt j hj).1;omega));have hpl:=iX S L align t d v HQ.out.al;have hnn:n1+n3=(bF S L align t d v).length:=by rw[<-HPe.out,List.length_append,HS1l.out,hl3]
     obtain⟨P,hP⟩:=aE (bF S L align t d v);have HPb:Hid (∀p∈P,0<=p/\p<=4611686018432630784):=aH (by rw[hP];exact lR HQ.out HV3.out HT.out.1.1 HT.out.1.2 HT.out.2.1 HT.out.2.2);rw[<-hP]at ho4 hpl hnn;rw[hnn]at ho4 hr;have HPs:Hid (SL encU 1 u3 u3.heap.size a4 P.length P):=aH (by obtain⟨a',c',e',h9,-⟩:=SL.ofOwns encU_len (by decide) ho4;injection e' with e1 e2 e3;subst e1;exact h9);have HO4:=aH ho4;have HPl:=aH hpl;have HW3:=aH hbw;have HLy:Hid (Calls Tryz.prog 58 #[.pointer (some ⟨Y,0,none⟩),.slice va vn vc,.slice a4 P.length c4] u3 (RowU (kS S L P v) u3)):=aH (by
      obtain⟨Lm,hSe,hms⟩:=HLV.out.ms;have h9:=layVen_any _ L Lm Y g va vn vc v a4 P.length c4 P u3 (HLV.out.next HB3.out).yd HLV.out.n256 HLV.out.hL (hms.next HB3.out) (HV.out u3 HB3.out) (fun x hx=>by
       obtain⟨q,h1,h2,-⟩:=HVs.out x hx;refine⟨q,h1,h2,?_⟩;obtain⟨s,hs0,hsd,-,-⟩:=HQ.out.inn q h2;rw[<-hSe];unfold iI;rw[hs0];exact hsd) HVn.out HV3.out HPs.out HPl.out HPb.out
      rw[<-hSe]at h9;exact h9)
     have HPe2:=aH hP;rw[<-hP];clear hs3 hnil3 hb3 ho3 hl3 ho4 hg4 hpl hnn hbw x1 hP;go_wp2_with (at_builtin;refine Lib.wpList_append_run _ rfl _ _ 31 31 rfl _ _ (by rfl) (by rfl) _ _ hr ?_)
     refine HLy.out.mono ?_;rintro e u4 ⟨a5,c5,rfl,ho5,hb5⟩;have HO5:=aH ho5;have HB5:=aH hb5;clear ho5 hb5 hr;go_wp2;go_ret2;rw[<-HPe2.out];refine⟨a4,c4,a5,c5,rfl,?_,?_,?_,after HB3.out HB5.out⟩
     ·exact Pl.own_next (Pl.own_down HO4.out HW3.out) HB5.out
     ·exact Pl.own_down HO5.out HB3.out.size
     ·intro g h1 h2;have:=(HO4.out.lt g h1).2;have:=(HO5.out.lt g h2).1;omega
end
section
open Go.ChangeShapes Go.WideShapes Go.Deep Go.RowKit
open Go.Proofs.YtiohgaghmnpplaaGreatDoor.Pl (encU encU_len mU)
theorem vm_size {w:World}{b:Nat}{l:List (Vn×Int)}(h:VM w b l)(ty:TypeId):(Builtin.len_ #[99] ty #[.map (some b)]).run Tryz.prog w=.ok (.int .i64 (l.length:Nat)) w:=by
 obtain⟨es,clock,hb,he,-⟩:=h;simp[Builtin.len_,run_underlying Tryz.underlying99,MapKept.run_getObj_map hb,vm_len (w:=w) (b:=b) he,Result.andThen,goInt]
def VK (w:World)(b:Nat)(l:List Vn):Prop:=∃E:List (Vn×Int),VM w b E/\E.map (·.1)=l
theorem VK.next {w u:World}{b:Nat}{l:List Vn}(h:VK w b l)(hb:Below w.heap.size w u):VK u b l:=by
 obtain⟨E,h1,h2⟩:=h;exact⟨E,h1.next hb,h2⟩
theorem VK.mk0 (w:World):VK (w.alloc (.map #[] 0)) w.heap.size []:=⟨[],VM.mk0 w,rfl⟩
theorem rB {E:List (Vn×Int)}{l:List Vn}(h:E.map (·.1)=l){P:Vn->Prop}(hp:∀x∈l,P x):∀p∈E,P p.1:=fun p hp'=>hp _ (by rw[<-h];exact List.mem_map.2 ⟨p,hp',rfl⟩)
theorem VK.size {w:World}{b:Nat}{l:List Vn}(h:VK w b l)(ty:TypeId):(Builtin.len_ #[99] ty #[.map (some b)]).run Tryz.prog w=.ok (.int .i64 (l.length:Nat)) w:=by
 obtain⟨E,h1,h2⟩:=h;rw[<-h2,List.length_map];exact vm_size h1 ty
theorem VK.no {w:World}{b:Nat}{l:List Vn}(h:VK w b l)(hg:∀x∈l,cR x){k:Vn}(hk:cR k)(hn:k∉l):(Instr.lookup 99 (.map (some b)) (lG k) true).run Tryz.prog w=.ok (.tuple #[.int .i64 0,.bool false]) w:=by
 obtain⟨E,h1,h2⟩:=h;exact(vm_no h1 (rB h2 hg) hk (rB (P:=fun x=>x≠k) h2 (fun x hx e=>hn (by rw[<-e];exact hx)))).1
theorem VK.yes {w:World}{b:Nat}{l:List Vn}(h:VK w b l)(hg:∀x∈l,cR x){k:Vn}(hk:k∈l):∃v:Int,(Instr.lookup 99 (.map (some b)) (lG k) true).run Tryz.prog w=.ok (.tuple #[.int .i64 v,.bool true]) w:=by
 obtain⟨E,h1,h2⟩:=h;refine vm_yes h1 (rB h2 hg) ?_;rw[<-h2]at hk;obtain⟨p,hp,rfl⟩:=List.mem_map.1 hk;exact⟨p,hp,rfl⟩
theorem VK.put {w:World}{b:Nat}{l:List Vn}(h:VK w b l)(hg:∀x∈l,cR x)(k:Vn)(v:Int)(hk:cR k)(hn:k∉l):
  ∃w',(Instr.mapUpdate 99 (.map (some b)) (lG k) (.int .i64 v)).run Tryz.prog w=.ok () w'/\VK w' b (l++ [k])/\w.grownBy w' (some b):=by
 obtain⟨E,h1,h2⟩:=h;obtain⟨w',a1,a2,a3⟩:=vm_put h1 (rB h2 hg) k v hk (rB (P:=fun x=>x≠k) h2 (fun x hx e=>hn (by rw[<-e];exact hx)));exact⟨w',a1,⟨_,a2,by rw[List.map_append,h2];rfl⟩,a3⟩
theorem callsL_snoc {S:List Sc}{live:List Nat}{k:Nat}:fF S (live++ [k])=fF S live++mM S k:=by
 unfold fF;rw[List.flatMap_append];simp
def kM (S:List Sc) (k i:Nat):List (Nat × Rl):=(((bZ S k).take i).filter (fun r=>decide (r.kind=2))).map (fun r=>(k,r))
theorem callsI_snoc {S:List Sc}{k i:Nat}{r:Rl}(h:(bZ S k)[i]?=some r):kM S k (i+1)=kM S k i++(if r.kind=2 then [(k,r)]else []):=by
 unfold kM;rw[List.take_add_one,h,Option.toList_some,List.filter_append,List.map_append];by_cases hr:r.kind=2<;>simp[hr]
theorem callsI_all {S:List Sc}{k:Nat}(h:bG S k=1):kM S k (bZ S k).length=mM S k:=by
 unfold kM mM;rw[if_pos h,List.take_length]
structure WS (w u:World)(X M:Nat)(o:Array Value)(l:List Vn):Prop where
 bb:Below w.heap.size w u
 xx:RB u X o 28
 mm:VK u M l
theorem vk_rb {w:World}{X M:Nat}{cs:Array Value}{T:TypeId}{l:List Vn}(h:RB w X cs T)(hm:VK w M l):X≠M:=by
 obtain⟨E,h1,-⟩:=hm;exact rb_map h h1
theorem VK.lt {w:World}{M:Nat}{l:List Vn}(h:VK w M l):M<w.heap.size:=by
 obtain⟨E,⟨es,clock,h1,-⟩,-⟩:=h;exact lt_of_block h1
structure WQ (w u:World)(X:Nat)(o:Array Value)(v l:List Vn)(a:Option Addr)(q c:Nat):Prop where
 bb:Below w.heap.size w u
 xx:RB u X o 28
 mm:VK u (X+1) (v++l)
 oo:u.ownsRow (X+2) 80 3 (.slice a q c) q (l.flatMap gB)
 em:q=0->a=none/\c=0
def eD (S:List Sc)(L:List Nat)(P rep:List Int)(r:Int)(v:List Vn)(k:Nat):List Vn:=(fF S (L.take k)).foldl (gQ L P rep r v) []
def aY (S:List Sc)(L:List Nat)(P rep:List Int)(r:Int)(v:List Vn)(k x i:Nat):List Vn:=(kM S x i).foldl (gQ L P rep r v) (eD S L P rep r v k)
theorem doneW_out {S:List Sc}{L:List Nat}{P rep:List Int}{r:Int}{v:List Vn}{k x:Nat}(hx:L[k]?=some x)(hk:¬bG S x=1):eD S L P rep r v (k+1)=eD S L P rep r v k:=by
 unfold eD;rw[List.take_add_one,hx,Option.toList_some,callsL_snoc,List.foldl_append];unfold mM;rw[if_neg hk];rfl
theorem doneW_in {S:List Sc}{L:List Nat}{P rep:List Int}{r:Int}{v:List Vn}{k x:Nat}(hx:L[k]?=some x)(hk:bG S x=1):aY S L P rep r v k x (bZ S x).length=eD S L P rep r v (k+1):=by
 unfold aY;rw[callsI_all hk];show _=(fF S (L.take (k+1))).foldl (gQ L P rep r v) []
 rw[List.take_add_one,hx,Option.toList_some,callsL_snoc,List.foldl_append];rfl
theorem doneI_snoc {S:List Sc}{L:List Nat}{P rep:List Int}{r:Int}{v:List Vn}{k x i:Nat}{f:Rl}(h:(bZ S x)[i]?=some f):aY S L P rep r v k x (i+1)=if f.kind=2 then gQ L P rep r v (aY S L P rep r v k x i) (x,f)else aY S L P rep r v k x i:=by
 unfold aY;rw[callsI_snoc h,List.foldl_append];by_cases hf:f.kind=2<;>simp[hf]
section
variable {P:Program} {ops:Array Oper} {Q:Exit->Act->World->Prop} {md:Region.Mode} {S:World->Prop} {o:Oper} {fuel:Nat} {listed:Array Bool} {a:Act} {w:World}
theorem tk7z (i:Nat)(v:Value)(hi:ops[i]?=some o)(hS:S w)(h:wpAnyH P md ops Q S fuel (listed.setIfInBounds i true) (a.put o.dst v) w)
  (hy:∀w,S w->(execOp a.eval o).run P w=.ok (.value v) w:=by intro w hS;obtain⟨_,_,_,_,_,_,_⟩:=hS;go_simp;(try with_reducible rfl))
  (hw:Region.wanted o (yielded ops a.tmps)=true:=by kernel_rfl) (hs:Region.noSelect ops=true:=by kernel_rfl) (hf:Region.free md ops listed i=true:=by kernel_rfl) (hr:(Region.ready md ops listed).contains i=true:=by kernel_rfl)
  (hQ:∀c a w,Q (.panic c) (a.put o.dst v) w->Q (.panic c) a w:=by exact fun _ _ _ h=>h):wpAnyH P md ops Q S (fuel+1) listed a w:=
 tk i v hi hS hy h hw hs hf hr hQ
end
theorem VK.grown {w w':World}{b:Nat}{l:List Vn}{row:Option Nat}(h:VK w b l)(hg:w.grownBy w' row)(hr:row≠some b):VK w' b l:=by
 obtain⟨E,⟨es,clock,h1,h2,h3⟩,h4⟩:=h;exact⟨E,⟨es,clock,(hg.block b (lt_of_block h1) (fun e=>hr e.symm)).trans h1,h2,h3⟩,h4⟩
theorem info_vn:(Tryz.prog.info? 80).map (fun i=>(i.zero,i.size,i.bytes))=some (some (.agg #[.int .i64 0,.int .i64 0,.int .i64 0]),3,24):=by kernel_rfl
theorem own_app {w:World}{B q c:Nat}{a:Option Addr}{l:List Vn}(h:w.ownsRow B 80 3 (.slice a q c) q (l.flatMap gB))(y:Vn)(hq:q<=1000000)(hB:B<=w.heap.size):
  ∃g cap w',(Builtin.append_ #[29,29] 29 #[.slice a q c,.slice (some ⟨w.heap.size,0,none⟩) 1 1]).run Tryz.prog (w.alloc (.cells #[.int .i64 y.1,.int .i64 y.2.1,.int .i64 y.2.2] 80))=.ok (.slice (some ⟨g,0,none⟩) (q+1) cap) w'/\
   w'.ownsRow B 80 3 (.slice (some ⟨g,0,none⟩) (q+1) cap) (q+1) ((l++ [y]).flatMap gB)/\w.grownBy w' (Value.slice a q c).ownBlock/\((Value.slice a q c).ownBlock=some g\/w.heap.size<=g):=by
 obtain⟨i0,hi,hz0,hz1,hz2⟩:=info_parts info_vn;obtain⟨W4,hW4⟩:=aE (w.alloc (.cells #[.int .i64 y.1,.int .i64 y.2.1,.int .i64 y.2.2] 80));have hb4:Below w.heap.size w W4:=by rw[hW4];exact aC _ _
 have h4:=Pl.own_next h hb4;have hz4:W4.heap.size=w.heap.size+1:=by rw[hW4];exact World.size_alloc _ _
 have hnews:∀j x,[Value.int .i64 y.1,.int .i64 y.2.1,.int .i64 y.2.2][j]?=some x->W4.cell? ((⟨w.heap.size,0,none⟩:Addr).add j)=some x:=by
  rw[hW4];exact World.news_of_block (cs:=#[.int .i64 y.1,.int .i64 y.2.1,.int .i64 y.2.2]) (t:=80) (fr:=(0,0)) (heap_alloc_new w _)
 obtain ⟨g,cap,w',hr,ho,hgr,hlie,hlt⟩:=run_append_lies (P:=Tryz.prog) (w:=W4) 29 29 B 80 i0 _ 3 24 Tryz.underlying29 hi hz0 hz1 hz2 rfl (by decide) (.slice a q c) q (l.flatMap gB) h4 ⟨w.heap.size,0,none⟩ 1 1 [.int .i64 y.1,.int .i64 y.2.1,.int .i64 y.2.2] rfl hnews (by intro x hx;simp only [List.mem_cons,List.not_mem_nil,or_false] at hx;rcases hx with rfl | rfl | rfl <;> rfl) (by decide) (by unfold maxLen;omega) (by omega) (by omega) (w.heap.size+1) hz4;refine⟨g,cap,w',by rw[<-hW4];exact hr,by rw[List.flatMap_append];exact ho,grown_trans (by rw[hW4];exact World.grownBy_alloc w _ _) hgr,hlie.imp id (fun h=>by omega)⟩
theorem fold_good {live:List Nat}{P rep:List Int}{R:Int}{v:List Vn}:∀(cs:List (Nat×Rl)) (l:List Vn),(∀c∈cs,cR (eM rep c.1 c.2))->(∀x∈l,cR x)->∀x∈cs.foldl (gQ live P rep R v) l,cR x
 | [],l,_,h=>h
 |c :: t,l,hc,h=>by
  refine fold_good t _ (fun c' h'=>hc c' (List.mem_cons_of_mem _ h')) ?_;unfold gQ;split
  ·exact h
  ·unfold qT;split
   ·exact h
   ·intro x hx;rcases List.mem_append.1 hx with hx|hx
    ·exact h x hx
    ·rw[List.mem_singleton.1 hx];exact hc c (List.mem_cons_self ..)
theorem fold_len {live:List Nat}{P rep:List Int}{R:Int}{v:List Vn}:∀(cs:List (Nat×Rl)) (l:List Vn),(cs.foldl (gQ live P rep R v) l).length<=l.length+cs.length
 | [],l=>by simp
 |c :: t,l=>by
  have h1:=fold_len (live:=live) (P:=P) (rep:=rep) (R:=R) (v:=v) t (gQ live P rep R v l c);have h2:(gQ live P rep R v l c).length<=l.length+1:=by
   unfold gQ;split
   ·omega
   ·unfold qT;split
    ·omega
    ·simp
  rw[List.foldl_cons,List.length_cons];omega
theorem callsI_in {S:List Sc}{k i:Nat}{c:Nat×Rl}(h:c∈kM S k i):c.1=k/\c.2∈bZ S k:=by
 obtain⟨f,hf,rfl⟩:=List.mem_map.1 h;exact⟨rfl,List.mem_of_mem_take (List.mem_filter.1 hf).1⟩
theorem callsI_le {S:List Sc}{k i:Nat}:(kM S k i).length<=(bZ S k).length:=by
 unfold kM;rw[List.length_map];exact Nat.le_trans (List.length_filter_le _ _) (by rw[List.length_take];omega)
theorem callsL_le {S:List Sc}:∀L:List Nat,(∀a∈L,(bZ S a).length<=64)->(fF S L).length<=L.length*64
 | [],_=>by simp[fF]
 |k :: t,h=>by
  have h1:=callsL_le (S:=S) t (fun a ha=>h a (List.mem_cons_of_mem _ ha));have h2:(mM S k).length<=64:=by
   unfold mM;split
   ·rw[List.length_map];exact Nat.le_trans (List.length_filter_le _ _) (h k (List.mem_cons_self ..))
   ·simp
  show(mM S k++fF S t).length<=_
  rw[List.length_append,List.length_cons];omega
theorem doneW_good {S:List Sc}{L:List Nat}{P rep:List Int}{r:Int}{v:List Vn}{k:Nat}(hc:∀a∈L,∀f∈bZ S a,cR (eM rep a f)):∀y∈eD S L P rep r v k,cR y:=
 fold_good _ _ (fun c h=>by obtain⟨h1,-,h3,-⟩:=lZ.1 h;exact hc _ (List.mem_of_mem_take h1) _ h3) (fun x hx=>by cases hx)
theorem doneIgood {S:List Sc}{L:List Nat}{P rep:List Int}{r:Int}{v:List Vn}{k x i:Nat}(hx:L[k]?=some x)(hc:∀a∈L,∀f∈bZ S a,cR (eM rep a f)):∀y∈aY S L P rep r v k x i,cR y:=
 fold_good _ _ (fun c h=>by obtain⟨h1,h2⟩:=callsI_in h;rw[h1];exact hc _ (eQ hx) _ h2) (doneW_good hc)
theorem doneI_len {S:List Sc}{L:List Nat}{P rep:List Int}{r:Int}{v:List Vn}{k x i:Nat}(hx:L[k]?=some x)(hl:L.length<=256)(hr:∀a∈L,(bZ S a).length<=64):(aY S L P rep r v k x i).length<=20000:=by
 have h1:=fold_len (live:=L) (P:=P) (rep:=rep) (R:=r) (v:=v) (kM S x i) (eD S L P rep r v k);have h2:=fold_len (live:=L) (P:=P) (rep:=rep) (R:=r) (v:=v) (fF S (L.take k)) [];have h3:=callsI_le (S:=S) (k:=x) (i:=i);have h4:=hr x (eQ hx);have h5:=callsL_le (S:=S) (L.take k) (fun a ha=>hr a (List.mem_of_mem_take ha));have h6:(L.take k).length<=256:=by rw[List.length_take];omega
 unfold aY eD at*
 simp only[List.length_nil]at h2;omega
def RowV (l:List Vn)(w:World)(e:Ending)(w':World):Prop:=∃a c,e=.returned (.slice a l.length c)/\w'.ownsRow w.heap.size 80 3 (.slice a l.length c) l.length (l.flatMap gB)/\(l=[]->a=none/\c=0)/\Below w.heap.size w w'
theorem yWants_any (p:Yp)(S:List Sc)(rep:List Int)(L:List Nat)(align:List Int)(Y g:Nat)(t d st r:Int)(va:Option Addr)(vn vc:Nat)(v:List Vn)(pa:Option Addr)(pn pc:Nat)(P:List Int)(w:World)(h:LV p S L align w Y g)(hQ:iT S rep L align)
  (hv:SL gB 3 w w.heap.size va vn v) (hvr:v.Nodup) (hgv:∀x∈v,cR x) (hvn:vn<=1000000)
  (Lm:List Ms) (hSe:S=Lm.map (·.sc)) (hms:SL mX 6 w w.heap.size p.ua p.n Lm) (hno:iQ w w.heap.size Lm) (hgr:∀m∈Lm,∀r∈m.sc.rels,jN r) (hrp:SL dT 1 w w.heap.size p.ra p.rn rep) (hP:SL encU 1 w w.heap.size pa pn P) (hsy:∀k∈L,∀f∈bZ S k,0<=f.sym/\∃z,rep[f.sym.toNat]?=some z) (hpl:P.length=L.length) (hpb:∀x∈P,0<=x/\x<=4611686018432630784) (hr0:cS r):
  Calls Tryz.prog 31 #[.pointer (some ⟨Y,0,none⟩),.agg (fV t d st r),.slice va vn vc,.slice pa pn pc] w (RowV (gJ S L P rep r v) w):=by
 have HR0:=aH hr0;have HGc:Hid (∀a∈L,∀f∈bZ S a,cR (eM rep a f)):=aH fun a ha f hf=>by
  obtain⟨s,hs,-,-,hsr⟩:=hQ.inn a ha;have e:bZ S a=s.rels:=by unfold bZ;rw[hs]
  have hf2:=hf;rw[e]at hf2;have hst:=(hsr f hf2).2.2;unfold bC at hst;simp only[Bool.and_eq_true,decide_eq_true_eq]at hst;have hn1:=h.hL _ hst.2;have hn2:=h.hL a ha;have hn3:=h.n256;rw[hSe,List.getElem?_map]at hs;obtain⟨m,hm,rfl⟩:=Option.map_eq_some_iff.1 hs;have hg:=hgr m (eQ hm) f hf2;refine⟨?_,?_,hg.2.2.2⟩
  ·show cS (a:Int);unfold cS;omega
  ·show cS (pJ rep f.sym);unfold cS;omega
 clear hr0;have HV:=aH (fun u (hu:Below w.heap.size w u)=>hv.next hu);have HVl:Hid (v.length=vn):=aH hv.len.symm;have HVn:=aH hvn;have HVd:=aH hvr;have HVg:=aH hgv;have HLV:=aH h;have HQ:=aH hQ;have HSe:=aH hSe;have HMs:=aH hms;have HNo:=aH hno;have HGr:=aH hgr;have HRp:=aH hrp;have HPs:=aH hP;have HPl:=aH hpl;have HPb:=aH hpb;obtain⟨ua,n,uc,ra,rn,rc,la,ln,lc,aa,an,ac⟩:=p;have hmm:=@run_makeMap Tryz.prog;obtain⟨X,hX⟩:=aE w.heap.size;have hsz:(w.alloc (.cells (fV t d st r) 28)).heap.size=X+1:=by rw[hX];exact World.size_alloc _ _
 have hb1:=aC w (.cells (fV t d st r) 28);obtain⟨W,hW⟩:=aE ((w.alloc (.cells (fV t d st r) 28)).alloc (.map #[] 0));have hb2:=aC (w.alloc (.cells (fV t d st r) 28)) (.map #[] 0);have HS0:Hid (WS w W X (X+1) (fV t d st r) []):=aH ⟨by rw[hW];exact after hb1 hb2,by rw[hW,hX];exact(aQ w _ _).next hb2,by rw[hW,<-hsz];exact VK.mk0 _⟩;have HWe:=aH hW.symm;have HXe:=aH hX.symm;have HMk:Hid (w.heap.size<=X):=aH (by omega);have HSy:=aH hsy;clear hSe hms hno hgr hrp hP hpl hpb hsy;clear h hQ hv hvr hgv hvn hX hb1 hb2 hW;go_enter Tryz.func31,Tryz.ntmps31;go_wp2_with fail
 try rw[hsz]
 rw[HWe.out,HXe.out];clear hmm hsz;go_loopw [23] (fun i wr=>∃(k:Nat) (wx:World),wx=wr/\k<=vn/\i=.int .i64 k/\Hid (WS w wx X (X+1) (fV t d st r) (v.take k))) (fun i _=>vn-(intOf i).toNat)
 case atStart=>exact⟨0,_,rfl,by omega,rfl,HS0⟩
 case round=>
  clear HS0;obtain⟨k,wx,rfl,hk,rfl,HS⟩:=hrel;by_cases hlt:k<vn
  ·have hlti:(k:Int)<(vn:Int):=by omega
   have HLT:=aH hlt;have HWk:Hid (wrap64 ((k:Int)+1)=(k:Int)+1):=aH (by have:=HVn.out;unfold wrap64;omega);have hkl:k<v.length:=by rw[HVl.out];exact hlt
   obtain⟨x,hx⟩:=aG (l:=v) (i:=k) hkl;obtain⟨vb,vo,hva,-,hvc⟩:=(HV.out wx HS.out.bb).cells (by intro e;rw[e]at hkl;simp at hkl);subst hva;obtain⟨x0,x1,x2⟩:=fI (off:=vo) (k:=k) (x:=x) (fun j hj=>by have h1:=hvc k hkl j hj;rw[(eX hx).2]at h1;exact h1);have hxn:x∉v.take k:=by
    intro hh;obtain⟨j,hj⟩:=List.getElem?_of_mem hh;have hj':j<k:=by have:=(eX hj).1;rw[List.length_take]at this;omega
    rw[List.getElem?_take,if_pos hj']at hj;have:=(List.getElem?_inj (eX hj).1 HVd.out).1 (hj.trans hx.symm);omega
   have hxg:=HVg.out x (eQ hx);have HTk:Hid (v.take (k+1)=v.take k++ [x]):=aH (by rw[List.take_add_one,hx];rfl);obtain⟨se,tt,ad⟩:=x;simp only[]at x0 x1 x2;obtain⟨W2,hW2⟩:=aE (wx.alloc (.cells #[.int .i64 se,.int .i64 tt,.int .i64 ad] 80));have hB2:Below wx.heap.size wx W2:=by rw[hW2];exact aC _ _
   obtain⟨W3,hP,hV3,hg3⟩:=(HS.out.mm.next hB2).put (fun y hy=>HVg.out y (List.mem_of_mem_take hy)) (se,tt,ad) (k:Int) hxg hxn;dsimp only[lG]at hP;have HSn:Hid (WS w W3 X (X+1) (fV t d st r) (v.take (k+1))):=aH ⟨(after HS.out.bb hB2).grown hg3 (after HS.out.bb hB2).size (fun j hj=>by cases hj;have:=HMk.out;omega),(HS.out.xx.next hB2).grown hg3 (by omega),by rw[HTk.out];exact hV3⟩;rw[hW2]at hP;clear hvc hk hlt hkl hx hxn hxg hB2 hV3 hg3 HS hW2;go_wp2;go_roundw
   case rel=>exact⟨k+1,_,rfl,by have:=HLT.out;omega,by rw[HWk.out];go_num,HSn⟩
   case measure=>exact fX HLT.out HWk.out
  ·obtain rfl:vn=k:=by omega
   have hge:¬(vn:Int)<(vn:Int):=by omega
   have HE:Hid (v.take vn=v):=aH (by rw[<-HVl.out,List.take_length]);clear hk hlt;have hy2:wx.cell? ⟨Y,2,none⟩=some (.slice la ln lc):=(HLV.out.yd.next HS.out.bb).yy.cell;go_wp2_with fail
   clear hge hy2;have HQ0:Hid (WQ w wx X (fV t d st r) v (eD S L P rep r v 0) none 0 0):=aH ⟨HS.out.bb,HS.out.xx,by have:=HS.out.mm;rw[HE.out]at this;show VK wx (X+1) (v++ []);rw[List.append_nil];exact this,World.ownsRow_nil _ _ _ _,fun _=>⟨rfl,rfl⟩⟩;clear HS HE;have HLl:Hid (L.length=ln):=aH (by have:=HLV.out.la.len;simpa using this.symm);have HLn:Hid (ln<=256):=aH (by rw[<-HLl.out];exact HQ.out.n256);have hlni:(ln:Int)<=256:=by have:=HLn.out;omega
   go_loopw [12,38] (fun lv i wr=>∃(k:Nat) (wy:World) (a:Option Addr) (q c:Nat),wy=wr/\k<=ln/\lv=.slice a q c/\i=.int .i64 k/\Hid (q=(eD S L P rep r v k).length)/\Hid (WQ w wy X (fV t d st r) v (eD S L P rep r v k) a q c)) (fun _ i _=>ln-(intOf i).toNat)
   case atStart=>exact⟨0,_,none,0,0,rfl,by omega,rfl,rfl,aH rfl,HQ0⟩
   case round=>
    clear HQ0;obtain⟨k,wy,a,q,c,rfl,hk,rfl,rfl,HQ1,HB⟩:=hrel;by_cases hlt:k<ln
    ·have hlti:(k:Int)<(ln:Int):=by omega
     have HLT:=aH hlt;have HWk:Hid (wrap64 ((k:Int)+1)=(k:Int)+1):=aH (by have:=HLn.out;unfold wrap64;omega);obtain⟨x,hx⟩:=aG (l:=L) (i:=k) (by rw[HLl.out];exact hlt);have hxn:x<n:=HLV.out.hL x (eQ hx);have hn256:n<=256:=HLV.out.n256;have hni:(n:Int)<=256:=by omega
     have hxi:(x:Int)<(n:Int):=by omega
     obtain⟨m,hm⟩:=aG (l:=Lm) (i:=x) (by have h9:=HMs.out.len;omega);obtain⟨ub,uo,hua,-,-⟩:=HMs.out.cells (by intro e;rw[e]at hm;cases hm);(try simp only[]at hua);subst hua;have HU:=aH (fun u (hu:Below w.heap.size w u)=>cO HMs.out hu hm);have hkd:bG S x=m.sc.kind:=by unfold bG;rw[HSe.out,List.getElem?_map,hm];rfl
     have hrl:bZ S x=m.sc.rels:=by unfold bZ;rw[HSe.out,List.getElem?_map,hm];rfl
     have HRf:=aH (HNo.out m (eQ hm));obtain⟨kd,hkd2⟩:=aE m.sc.kind;obtain⟨lb,lo,hla,-,-⟩:=HLV.out.la.cells (by intro e;rw[List.map_eq_nil_iff]at e;rw[e]at hx;cases hx);(try simp only[]at hla);subst hla;have l0:wy.cell? ⟨lb,lo+k,none⟩=some (.int .i64 (x:Int)):=bR HLV.out.la HB.out.bb (by rw[List.getElem?_map,hx];rfl);have k0:wy.cell? ⟨ub,uo+x*6+1,none⟩=some (.int .i64 kd):=by rw[hkd2];exact(HU.out wy HB.out.bb).2.1
     have k5:wy.cell? ⟨ub,uo+x*6+5,none⟩=some (.slice m.ad m.sc.rels.length m.cap):=(HU.out wy HB.out.bb).2.2.2.2.2;have y0:wy.cell? ⟨Y,0,none⟩=some (.slice (some ⟨ub,uo,none⟩) n uc):=(HLV.out.yd.next HB.out.bb).yy.cell;by_cases hk1:kd=1
     ·have hS1:bG S x=1:=by rw[hkd];omega
      subst hk1;have HKi:Hid (aY S L P rep r v k x (bZ S x).length=eD S L P rep r v (k+1)):=aH (doneW_in hx hS1);have HI0:Hid (aY S L P rep r v k x 0=eD S L P rep r v k):=aH rfl;obtain⟨rn2,hrn2⟩:=aE m.sc.rels.length;have HRl:Hid (rn2=(bZ S x).length):=aH (by rw[hrl];exact hrn2);have HR64:Hid ((bZ S x).length<=64):=aH (by obtain⟨s,h1,-,h2,-⟩:=HQ.out.inn x (eQ hx);unfold bZ;rw[h1];exact h2);have HRg:Hid (∀f∈bZ S x,jN f):=aH (by rw[hrl];exact HGr.out m (eQ hm));rw[<-hrl,<-HRl.out]at HRf;rw[<-hrn2]at k5;have HXm:=aH hx;obtain⟨ma,hma⟩:=aE m.ad;obtain⟨mc,hmc⟩:=aE m.cap;rw[<-hma,<-hmc]at k5;rw[<-hma]at HRf;clear hx hxn hn256 hm hkd hrl hkd2 hrn2 hlt hk hma hmc hS1 HU;rw[<-HI0.out]at HQ1 HB;go_wp2_with fail
      clear l0 k0 k5;go_loopw [12,61] (fun lv i wr=>∃(j:Nat) (wz:World) (a:Option Addr) (q c:Nat),wz=wr/\j<=rn2/\lv=.slice a q c/\i=.int .i64 j/\Hid (q=(aY S L P rep r v k x j).length)/\Hid (WQ w wz X (fV t d st r) v (aY S L P rep r v k x j) a q c)) (fun _ i _=>rn2-(intOf i).toNat)
      case atStart=>exact⟨0,_,a,q,c,rfl,by omega,rfl,rfl,HQ1,HB⟩
      case round=>
       clear HQ1 HB;obtain⟨j,wz,a,q,c,rfl,hj,rfl,rfl,HQ1,HB⟩:=hrel;by_cases hjl:j<rn2
       ·have hjli:(j:Int)<(rn2:Int):=by omega
        have HJT:=aH hjl;have hjr:j<(bZ S x).length:=by rw[<-HRl.out];exact hjl
        obtain⟨f,hf⟩:=aG (l:=(bZ S x)) (i:=j) hjr;have hfm:=eQ hf;obtain⟨mb,mo,hma,-,hmc⟩:=(HRf.out.next HB.out.bb).cells (by intro e;rw[e]at hf;cases hf);subst hma;obtain⟨f0,f1,f2,f3⟩:=dN (off:=mo) (k:=j) (t:=f) (fun i hi=>by have h1:=hmc j hjr i hi;rw[(eX hf).2]at h1;exact h1);obtain⟨hs0,z,hz⟩:=HSy.out x (eQ HXm.out) f hfm;have HFg:=aH (HRg.out f hfm);have HFj:=aH hf;have HNx:=aH (doneI_snoc (L:=L) (P:=P) (rep:=rep) (r:=r) (v:=v) (k:=k) hf);have HZ:Hid (pJ rep f.sym=z):=aH (by unfold pJ;rw[hz];rfl);have HVe:Hid (∀u,Below w.heap.size w u->Calls Tryz.prog 40 #[.pointer (some ⟨Y,0,none⟩),.int .i64 (x:Int),.agg #[.int .i64 f.pos,.int .i64 f.kind,.int .i64 f.sym,.int .i64 f.add]] u (aP (lG ((x:Int),z,f.add)) u)):=aH fun u hu=>veneer_any _ L Y g (x:Int) f rep z u (HLV.out.next hu).yd (HRp.out.next hu) hs0 hz
        obtain⟨fp,fk,fs,fa⟩:=f;simp only[]at f0 f1 f2 f3 HVe HFg HZ HNx;obtain⟨X3,hX3⟩:=aE wz.heap.size;obtain⟨W2,hW2⟩:=aE (wz.alloc (.cells #[.int .i64 fp,.int .i64 fk,.int .i64 fs,.int .i64 fa] 57));have hB2:Below wz.heap.size wz W2:=by rw[hW2];exact aC _ _
        have HB2:Hid (Below w.heap.size w W2):=aH (after HB.out.bb hB2);have HBz:=aH hB2;have HR2:Hid (RB W2 X3 #[.int .i64 fp,.int .i64 fk,.int .i64 fs,.int .i64 fa] 57):=aH (by rw[hW2,hX3];exact aQ _ _ _);have g0:W2.cell? ⟨X3,0,none⟩=some (.int .i64 fp):=HR2.out.cell;have g1:W2.cell? ⟨X3,1,none⟩=some (.int .i64 fk):=HR2.out.cell;have g2:W2.cell? ⟨X3,2,none⟩=some (.int .i64 fs):=HR2.out.cell;have g3:W2.cell? ⟨X3,3,none⟩=some (.int .i64 fa):=HR2.out.cell;have HW2e:=aH hW2.symm;have HX3e:=aH hX3.symm;clear hmc hj hjl hjr hf hfm hs0 hz hW2 hX3 hB2;go_wp2_with fail
        rw[HW2e.out,HX3e.out];refine(HVe.out W2 HB2.out).mono ?_;rintro e u ⟨rfl,hbu⟩;have HBu:=aH (after HB2.out hbu);have HBzu:=aH (after HBz.out hbu);have HRu:=aH (HR2.out.next hbu);clear hbu g0 g1 g2 g3 f0 f1 f2 f3;go_wp2_with fail
        obtain⟨X4,hX4⟩:=aE u.heap.size;obtain⟨W4,hW4⟩:=aE (u.alloc (.cells #[.int .i64 (x:Int),.int .i64 z,.int .i64 fa] 80));have hB4:Below u.heap.size u W4:=by rw[hW4];exact aC _ _
        have HB4:Hid (Below w.heap.size w W4):=aH (after HBu.out hB4);have HBz4:Hid (Below wz.heap.size wz W4):=aH (after HBzu.out hB4);have HR4:Hid (RB W4 X3 #[.int .i64 fp,.int .i64 fk,.int .i64 fs,.int .i64 fa] 57):=aH (HRu.out.next hB4);have HV4:Hid (RB W4 X4 #[.int .i64 (x:Int),.int .i64 z,.int .i64 fa] 80):=aH (by rw[hW4,hX4];exact aQ _ _ _);rw[<-hW4,<-hX4];clear hB4 hW4 hX4;obtain⟨V,hV,hT⟩:=aD W4;have HBv:=aH (after HB4.out hT);have HBzv:=aH (after HBz4.out hT);have HRv:=aH (HR4.out.next hT);have HVv:=aH (HV4.out.next hT);have hWQ:∀u',Below wz.heap.size wz u'->WQ w u' X (fV t d st r) v (aY S L P rep r v k x j) a q c:=fun u' hu'=>⟨after HB.out.bb hu',HB.out.xx.next hu',HB.out.mm.next hu',Pl.own_next HB.out.oo hu',HB.out.em⟩
        have HWQ:=aH hWQ;have HJk:Hid (wrap64 ((j:Int)+1)=(j:Int)+1):=aH (by have h1:=HJT.out;have h2:=HRl.out;have h3:=HR64.out;unfold wrap64;omega);clear hWQ;by_cases hk2:fk=2
        ·subst hk2;obtain⟨sx,hsx,-,-,hsr⟩:=HQ.out.inn x (eQ HXm.out);have hrx:bZ S x=sx.rels:=by unfold bZ;rw[hsx]
         have hfm2:=eQ HFj.out;rw[hrx]at hfm2;have hst:=(hsr _ hfm2).2.2;have hp0:=(hsr _ hfm2).1;rw[show pJ rep (Rl.mk fp 2 fs fa).sym=z from HZ.out]at hst;unfold bC at hst;simp only[Bool.and_eq_true,decide_eq_true_eq]at hst;obtain⟨zq,rfl⟩:∃zq:Nat,z=(zq:Int):=⟨z.toNat,by omega⟩;have hzL:zq∈L:=by simpa using hst.2
         have hzn:zq<n:=HLV.out.hL zq hzL;have hn2:n<=256:=HLV.out.n256;obtain⟨c0,hc⟩:=aG (l:=P) (i:=L.idxOf zq) (by rw[HPl.out];exact List.idxOf_lt_length_of_mem hzL);have hcb:=HPb.out c0 (eQ hc);obtain⟨pv,hpv⟩:=aG (l:=P) (i:=k) (by rw[HPl.out,HLl.out];exact HLT.out);have hpvb:=HPb.out pv (eQ hpv);have hpw:pK L P (x:Int)=pv:=by
          have hxl:L[k]?=some x:=HXm.out;have h1:L.idxOf x=k:=by
           obtain⟨hk1,hk2⟩:=eX hxl;rw[<-hk2];exact HQ.out.nd.idxOf_getElem k hk1
          unfold pK;rw[Int.toNat_natCast,h1,hpv];rfl
         obtain⟨fz,hfz⟩:=aE ((pv+fp)%18446744073709551616);obtain⟨gz,hgz⟩:=aE (mZ L P ((x:Int),(zq:Int),fa));obtain⟨nb,hnb⟩:=aE (mU fz gz r);have hZ:IntKind.u64.wrap (pv+IntKind.u64.wrap fp)=fz:=by
          rw[hfz];simp only[IntKind.wrap_u64];omega
         have HNear:Hid (lI L P rep r (x,Rl.mk fp 2 fs fa)=nb):=aH (by
          unfold lI;rw[show eM rep (x,Rl.mk fp 2 fs fa).1 (x,Rl.mk fp 2 fs fa).2=((x:Int),(zq:Int),fa)from by unfold eM;rw[HZ.out],<-hgz,hnb,hfz];show mU ((pK L P (x:Int)+fp)%18446744073709551616) gz r=_
          rw[hpw])
         have HGo:Hid (∀u',Below w.heap.size w u'->Calls Tryz.prog 42 #[.pointer (some ⟨Y,0,none⟩),.agg #[.int .i64 (x:Int),.int .i64 (zq:Int),.int .i64 fa],.slice pa pn pc] u' (aP (.int .u64 gz) u')):=aH fun u' hu'=>by
          rw[hgz];exact goal_any _ L Y g ((x:Int),(zq:Int),fa) pa pn pc P zq c0 u' (HLV.out.next hu').yd hn2 rfl hzL hzn (HPs.out.next hu') hc hcb.1 (by omega) HFg.out.2.2.2
         have HNe:Hid (∀u',Calls Tryz.prog 24 #[.int .u64 fz,.int .u64 gz,.int .i64 r] u' (bQ (.bool nb) u')):=aH fun u'=>by
          rw[hnb];exact Pl.near_any fz gz r u' (by omega) (by omega) (by rw[hgz];unfold mZ;omega) (by rw[hgz];unfold mZ;omega) HR0.out.1 HR0.out.2
         obtain⟨pb,po,hpa,-,-⟩:=HPs.out.cells (by intro e;rw[e]at hpv;cases hpv);have hka:(k:Int)<(pn:Int):=by have h1:=HPs.out.len;have h2:=HPl.out;have h3:=HLl.out;have h4:=HLT.out;omega
         subst hpa;have HSc:Hid (∀v',Below w.heap.size w v'->RB v' X3 #[.int .i64 fp,.int .i64 2,.int .i64 fs,.int .i64 fa] 57->RB v' X4 #[.int .i64 (x:Int),.int .i64 (zq:Int),.int .i64 fa] 80->RB v' X (fV t d st r) 28->v'.cell? ⟨X3,0,none⟩=some (.int .i64 fp)/\v'.cell? ⟨X3,1,none⟩=some (.int .i64 2)/\v'.cell? ⟨pb,po+k,none⟩=some (.int .u64 pv)/\v'.cell? ⟨X4,0,none⟩=some (.int .i64 (x:Int))/\v'.cell? ⟨X4,1,none⟩=some (.int .i64 (zq:Int))/\v'.cell? ⟨X4,2,none⟩=some (.int .i64 fa)/\v'.cell? ⟨X,3,none⟩=some (.int .i64 r)):=aH fun v' h1 h2 h3 h4=>⟨h2.cell,h2.cell,gC HPs.out h1 hpv,h3.cell,h3.cell,h3.cell,h4.cell⟩
         have HGd:Hid (∀y∈v++aY S L P rep r v k x j,cR y):=aH fun y hy=>by
          rcases List.mem_append.1 hy with hy|hy
          ·exact HVg.out y hy
          ·exact doneIgood HXm.out HGc.out y hy
         have HGy:Hid (cR ((x:Int),(zq:Int),fa)):=aH (by
          have h9:=HGc.out x (eQ HXm.out) _ (eQ HFj.out);unfold eM at h9;rw[show pJ rep (Rl.mk fp 2 fs fa).sym=(zq:Int)from HZ.out]at h9;exact h9)
         have HQl:Hid (q<=1000000):=aH (by
          have h9:=doneI_len (P:=P) (rep:=rep) (r:=r) (v:=v) (i:=j) HXm.out (by rw[HLl.out];exact HLn.out) (fun a ha=>by
           obtain⟨s,h1,-,h2,-⟩:=HQ.out.inn a ha;unfold bZ;rw[h1];exact h2)
          have:=HQ1.out;omega)
         have HVy:Hid (eM rep x (Rl.mk fp 2 fs fa)=((x:Int),(zq:Int),fa)):=aH (by unfold eM;rw[HZ.out]);have HNx2:Hid (aY S L P rep r v k x (j+1)=if nb=true then aY S L P rep r v k x j else qT v (aY S L P rep r v k x j) ((x:Int),(zq:Int),fa)):=aH (by
          rw[HNx.out,if_pos rfl];show(if lI L P rep r (x,Rl.mk fp 2 fs fa)=true then _ else qT v _ (eM rep x (Rl.mk fp 2 fs fa)))=_
          rw[HNear.out,HVy.out])
         clear hsx hsr hrx hfm2 hst hp0 hzL hzn hn2 hc hcb hpv hpvb hpw hfz hgz hnb HNx HVe;have hS0:=HSc.out V HBv.out HRv.out HVv.out (HWQ.out V HBzv.out).xx;refine aS (S:=fun v'=>v'.cell? ⟨X3,0,none⟩=some (.int .i64 fp)/\v'.cell? ⟨X3,1,none⟩=some (.int .i64 2)/\v'.cell? ⟨pb,po+k,none⟩=some (.int .u64 pv)/\v'.cell? ⟨X4,0,none⟩=some (.int .i64 (x:Int))/\v'.cell? ⟨X4,1,none⟩=some (.int .i64 (zq:Int))/\v'.cell? ⟨X4,2,none⟩=some (.int .i64 fa)/\v'.cell? ⟨X,3,none⟩=some (.int .i64 r)) hV hS0 ?_;clear hV hT;iterate 15 refine aN _ rfl hS0 ?_
         refine aI 16 _ rfl hS0 ?_;refine aI 17 _ rfl hS0 ?_;refine rd 15 rfl (fun K hK=>?_);go_simp;go_wp2_with (go_at_call 42;refine(HGo.out V HBv.out).mono ?_;rintro e u2 ⟨rfl,hb2⟩)
         have HB2u:=aH (after HBv.out hb2);have HBz2:=aH (after HBzv.out hb2);have HX4:=aH (HVv.out.next hb2);have hS2:=HSc.out u2 HB2u.out (HRv.out.next hb2) HX4.out (HWQ.out u2 HBz2.out).xx;refine hK.out _ _ hS2 (fun hX9=>?_);clear hK K hX9 hS0 hb2;refine rd 18 rfl (fun K hK=>?_);go_simp;go_wp2_with (go_at_call 24;refine(HNe.out u2).mono ?_;rintro e u3 ⟨rfl,rfl⟩)
         refine hK.out _ _ hS2 (fun hX9=>?_);clear hK K hX9;refine aI 19 _ rfl hS2 ?_;refine wpAnyH_done (by kernel_rfl) ?_ _;clear hS2 HSc HGo HNe HRv HVv HR4 HV4 HR2 HRu hZ;cases nb
         ·have HQs:=HWQ.out _ HBz2.out;have HNx3:Hid (aY S L P rep r v k x (j+1)=qT v (aY S L P rep r v k x j) ((x:Int),(zq:Int),fa)):=aH (by rw[HNx2.out,if_neg (by simp)]);by_cases hin:((x:Int),(zq:Int),fa)∈v++aY S L P rep r v k x j
          ·obtain⟨vv,hlk⟩:=HQs.mm.yes HGd.out hin;dsimp only[lG]at hlk;have HNn:Hid (aY S L P rep r v k x (j+1)=aY S L P rep r v k x j):=aH (by rw[HNx3.out];unfold qT;rw[if_pos (List.mem_append.1 hin)]);have HQ1n:Hid (q=(aY S L P rep r v k x (j+1)).length):=aH (by rw[HNn.out];exact HQ1.out);have HBn:Hid (WQ w u2 X (fV t d st r) v (aY S L P rep r v k x (j+1)) a q c):=aH (by rw[HNn.out];exact HQs);have x0:u2.cell? ⟨X4,0,none⟩=some (.int .i64 (x:Int)):=HX4.out.cell;have x1:u2.cell? ⟨X4,1,none⟩=some (.int .i64 (zq:Int)):=HX4.out.cell;have x2:u2.cell? ⟨X4,2,none⟩=some (.int .i64 fa):=HX4.out.cell;clear hin HQs;go_simp;go_wp2_with fail
           exact⟨⟨j+1,_,_,_,_,rfl,by have:=HJT.out;omega,rfl,by rw[HJk.out];go_num,HQ1n,HBn⟩,fX HJT.out HJk.out⟩
          ·have hlk:=HQs.mm.no HGd.out HGy.out hin;have hsz2:=HQs.mm.size;obtain⟨W5,hpu,hm5,hg5⟩:=HQs.mm.put HGd.out ((x:Int),(zq:Int),fa) (((v++aY S L P rep r v k x j).length:Nat):Int) HGy.out hin;obtain⟨sz,hsz⟩:=aE ((v++aY S L P rep r v k x j).length);rw[<-hsz]at hpu hsz2;dsimp only[lG]at hlk hpu;have hb5:Below w.heap.size w W5:=HQs.bb.grown hg5 HQs.bb.size (fun j hj=>by cases hj;have:=HMk.out;omega);have hx5:RB W5 X (fV t d st r) 28:=HQs.xx.grown hg5 (by omega);have ho5:W5.ownsRow (X+2) 80 3 (.slice a q c) q ((aY S L P rep r v k x j).flatMap gB):=HQs.oo.kept hg5 (by
            cases e:(Value.slice a q c).ownBlock with
            |none=>exact .inl rfl
            |some g'=>exact .inr (fun e2=>by cases e2;have:=(HQs.oo.lt _ e).1;omega))
           have hXl:=HQs.mm.lt;have hz5:=hg5.size;have h45:RB W5 X4 #[.int .i64 (x:Int),.int .i64 (zq:Int),.int .i64 fa] 80:=HX4.out.grown hg5 (vk_rb HX4.out HQs.mm);obtain⟨g6,cap,W6,hr6,ho6,hg6,-⟩:=own_app ho5 ((x:Int),(zq:Int),fa) HQl.out (by have:=lt_of_block hx5;have:=hm5.lt;omega);have hfar:∀k',k'<X+2->some k'≠(Value.slice a q c).ownBlock:=fun k' hk' e=>by have:=(ho5.lt k' e.symm).1;omega
           have HNn:Hid (aY S L P rep r v k x (j+1)=aY S L P rep r v k x j++ [((x:Int),(zq:Int),fa)]):=aH (by rw[HNx3.out];unfold qT;rw[if_neg (fun h=>hin (List.mem_append.2 h))]);have HQ1n:Hid (q+1=(aY S L P rep r v k x (j+1)).length):=aH (by rw[HNn.out,List.length_append,<-HQ1.out];rfl);have HBn:Hid (WQ w W6 X (fV t d st r) v (aY S L P rep r v k x (j+1)) (some ⟨g6,0,none⟩) (q+1) cap):=aH (by
            rw[HNn.out];refine⟨hb5.grown hg6 hb5.size (fun j hj=>by have:=(ho5.lt j hj).1;have:=HMk.out;omega),(hg6.block X (lt_of_block hx5) (hfar X (by omega))).trans hx5,?_,ho6,fun h9=>by omega⟩;rw[<-List.append_assoc];exact hm5.grown hg6 (fun e=>hfar (X+1) (by omega) e.symm))
           have HAp:=aH hr6;have x0:u2.cell? ⟨X4,0,none⟩=some (.int .i64 (x:Int)):=HX4.out.cell;have x1:u2.cell? ⟨X4,1,none⟩=some (.int .i64 (zq:Int)):=HX4.out.cell;have x2:u2.cell? ⟨X4,2,none⟩=some (.int .i64 fa):=HX4.out.cell;have y0:W5.cell? ⟨X4,0,none⟩=some (.int .i64 (x:Int)):=h45.cell;have y1:W5.cell? ⟨X4,1,none⟩=some (.int .i64 (zq:Int)):=h45.cell;have y2:W5.cell? ⟨X4,2,none⟩=some (.int .i64 fa):=h45.cell;clear hin HQs hm5 hg5 hsz hb5 hx5 ho5 hXl hz5 h45 hr6 ho6 hg6 hfar;go_simp;go_wp2_with (at_builtin;refine Lib.wpList_append_run _ rfl _ _ 29 29 rfl _ _ (by rfl) (by rfl) _ _ HAp.out ?_)
           exact⟨⟨j+1,_,_,_,_,rfl,by have:=HJT.out;omega,rfl,by rw[HJk.out];go_num,HQ1n,HBn⟩,fX HJT.out HJk.out⟩
         ·have HNn:Hid (aY S L P rep r v k x (j+1)=aY S L P rep r v k x j):=aH (by rw[HNx2.out,if_pos rfl]);have HQ1n:Hid (q=(aY S L P rep r v k x (j+1)).length):=aH (by rw[HNn.out];exact HQ1.out);have HBn:Hid (WQ w u2 X (fV t d st r) v (aY S L P rep r v k x (j+1)) a q c):=aH (by rw[HNn.out];exact HWQ.out u2 HBz2.out);go_simp;go_wp2_with fail
          exact⟨⟨j+1,_,_,_,_,rfl,by have:=HJT.out;omega,rfl,by rw[HJk.out];go_num,HQ1n,HBn⟩,fX HJT.out HJk.out⟩
        ·have hk3:(fk==2)=false:=by simp[hk2]
         have hk4:(fk !=2)=true:=by simp[hk2]
         have HNn:Hid (aY S L P rep r v k x (j+1)=aY S L P rep r v k x j):=aH (by rw[HNx.out,if_neg hk2]);have HQ1n:Hid (q=(aY S L P rep r v k x (j+1)).length):=aH (by rw[HNn.out];exact HQ1.out);have HBn:Hid (WQ w V X (fV t d st r) v (aY S L P rep r v k x (j+1)) a q c):=aH (by rw[HNn.out];exact HWQ.out V HBzv.out);have hS0:V.cell? ⟨X3,0,none⟩=some (.int .i64 fp)/\V.cell? ⟨X3,1,none⟩=some (.int .i64 fk):=⟨HRv.out.cell,HRv.out.cell⟩;refine aS (S:=fun v'=>v'.cell? ⟨X3,0,none⟩=some (.int .i64 fp)/\v'.cell? ⟨X3,1,none⟩=some (.int .i64 fk)) hV hS0 ?_;clear hV hT;iterate 4 refine aN _ rfl hS0 ?_
         iterate 15 refine aO rfl hS0 ?_
         refine aI 19 _ rfl hS0 ?_;refine wpAnyH_done (by kernel_rfl) ?_ _;clear hS0 hk3 hk4 hk2 HVe HZ HFg;go_simp;go_wp2_with fail
         exact⟨⟨j+1,_,_,_,_,rfl,by have:=HJT.out;omega,rfl,by rw[HJk.out];go_num,HQ1n,HBn⟩,fX HJT.out HJk.out⟩
       ·obtain rfl:rn2=j:=by omega
        have hge:¬(rn2:Int)<(rn2:Int):=by omega
        have HQ1n:Hid (q=(eD S L P rep r v (k+1)).length):=aH (by rw[<-HKi.out,<-HRl.out];exact HQ1.out);have HBn:Hid (WQ w wz X (fV t d st r) v (eD S L P rep r v (k+1)) a q c):=aH (by rw[<-HKi.out,<-HRl.out];exact HB.out);clear hj hjl;go_wp2;go_roundw
        case rel=>exact⟨k+1,_,_,_,_,rfl,by have:=HLT.out;omega,rfl,by first|go_num|(rw[HWk.out];go_num),HQ1n,HBn⟩
        case measure=>first|exact aL HLT HWk|exact aK HLT HWk
     ·have hS1:¬bG S x=1:=by rw[hkd];omega
      have HKo:Hid (eD S L P rep r v (k+1)=eD S L P rep r v k):=aH (doneW_out hx hS1);have hk2:(kd==1)=false:=by simp[hk1]
      have HQ1n:Hid (q=(eD S L P rep r v (k+1)).length):=aH (by rw[HKo.out];exact HQ1.out);have HBn:Hid (WQ w wy X (fV t d st r) v (eD S L P rep r v (k+1)) a q c):=aH (by rw[HKo.out];exact HB.out);clear hx hxn hn256 hm hkd hrl hkd2 hS1 k5;go_wp2;go_roundw
      case rel=>exact⟨k+1,_,_,_,_,rfl,by have:=HLT.out;omega,rfl,by go_num,HQ1n,HBn⟩
      case measure=>exact aK HLT HWk
    ·obtain rfl:ln=k:=by omega
     have hge:¬(ln:Int)<(ln:Int):=by omega
     have HLe:Hid (eD S L P rep r v ln=gJ S L P rep r v):=aH (by unfold eD gJ;rw[<-HLl.out,List.take_length]);have HQ1n:Hid (q=(gJ S L P rep r v).length):=aH (by rw[<-HLe.out];exact HQ1.out);have HBn:Hid (wy.ownsRow w.heap.size 80 3 (.slice a q c) q ((gJ S L P rep r v).flatMap gB)/\(q=0->a=none/\c=0)/\Below w.heap.size w wy):=aH (by
      rw[<-HLe.out];exact⟨Pl.own_down HB.out.oo (by have:=HMk.out;omega),HB.out.em,HB.out.bb⟩)
     clear hk hlt;go_wp2;go_ret;obtain⟨b1,b3,b2⟩:=HBn.out;rw[HQ1n.out]at b1;exact⟨a,c,by rw[HQ1n.out];rfl,b1,fun h9=>b3 (by rw[HQ1n.out,h9];rfl),b2⟩
end
end Go.Proofs.YtiohgaghmnpplaaGreatDoor
