/- veneer: a veneer's code. veneer: are rows, and plans, the same. veneer: few; the document's row, plain. veneer: the document's row, walked. -/
import Derived.Test.YtiohgaghmnpplaaGreatDoorqA
import Derived.Test.YtiohgaghmnpplaaGreatDoorx6
set_option maxRecDepth 100000
set_option maxHeartbeats 3000000
set_option linter.unusedVariables false
set_option linter.unusedSimpArgs false
namespace Go.Proofs.YtiohgaghmnpplaaGreatDoor
section
open Go.ChangeShapes Go.WideShapes Go.Deep Go.RowKit
def enW (x:Nat):List Value:=[.int .u32 (x:Int)]
theorem enW_len (x:Nat):(enW x).length=1:=rfl
def en8 (b:UInt8):List Value:=[.int .u8 (b.toNat:Int)]
theorem en8_len (b:UInt8):(en8 b).length=1:=rfl
theorem leB4_at (x:Nat):(leB 4 x).flatMap en8=[.int .u8 ((x:Int)%256),.int .u8 ((x:Int)/256%256),.int .u8 ((x:Int)/65536%256),.int .u8 ((x:Int)/16777216%256)]:=by
 simp only[leB,List.flatMap_cons,List.flatMap_nil,en8,List.cons_append,List.nil_append,List.append_nil];simp only[UInt8.toNat_ofNat'];have e1:((x%2^8:Nat):Int)=(x:Int)%256:=by omega
 have e2:((x/256%2^8:Nat):Int)=(x:Int)/256%256:=by omega
 have e3:((x/256/256%2^8:Nat):Int)=(x:Int)/65536%256:=by omega
 have e4:((x/256/256/256%2^8:Nat):Int)=(x:Int)/16777216%256:=by omega
 first
  |rw[e1,e2,e3,e4]
  |(simp;omega)
theorem leB4_lt {x:Nat}(hx:x<4294967296):(leB 4 x).flatMap en8=[.int .u8 ((x:Int)%256),.int .u8 ((x:Int)/256%256),.int .u8 ((x:Int)/65536%256),.int .u8 ((x:Int)/16777216)]:=by
 rw[leB4_at,show(x:Int)/16777216%256=(x:Int)/16777216 from by omega]
theorem own_app8 {w:World}{B q c:Nat}{a:Option Addr}{l:List UInt8}(h:w.ownsRow B 5 1 (.slice a q c) q (l.flatMap en8))(x:Nat)(hx:x<4294967296)(hq:q<=1000000)(hB:B<=w.heap.size):
  ∃a' cap w',(Builtin.append_ #[118,118] 118 #[.slice a q c,.slice (some ⟨w.heap.size,0,none⟩) 4 4]).run Tryz.prog (w.alloc (.cells #[.int .u8 ((x:Int)%256),.int .u8 ((x:Int)/256%256),.int .u8 ((x:Int)/65536%256),.int .u8 ((x:Int)/16777216)] 5))=.ok (.slice a' (q+4) cap) w'/\
   w'.ownsRow B 5 1 (.slice a' (q+4) cap) (q+4) ((l++leB 4 x).flatMap en8)/\Below B w w':=by
 obtain⟨i0,hi,hz0,hz1,hz2⟩:=info_parts infoU;obtain⟨W4,hW4⟩:=aE (w.alloc (.cells #[.int .u8 ((x:Int)%256),.int .u8 ((x:Int)/256%256),.int .u8 ((x:Int)/65536%256),.int .u8 ((x:Int)/16777216)] 5));have hb4:Below w.heap.size w W4:=by rw[hW4];exact aC _ _
 have h4:=Pl.own_next h hb4;have hz4:W4.heap.size=w.heap.size+1:=by rw[hW4];exact World.size_alloc _ _
 have hnl:((leB 4 x).flatMap en8).length=4*1:=by rw[leB4_at];rfl
 have hnews:∀j v,((leB 4 x).flatMap en8)[j]?=some v->W4.cell? ((⟨w.heap.size,0,none⟩:Addr).add j)=some v:=by
  rw[leB4_lt hx,hW4];exact World.news_of_block (cs:=#[.int .u8 ((x:Int)%256),.int .u8 ((x:Int)/256%256),.int .u8 ((x:Int)/65536%256),.int .u8 ((x:Int)/16777216)]) (t:=5) (fr:=(0,0)) (heap_alloc_new w _)
 have hone:∀u∈(leB 4 x).flatMap en8,u.oneCell'=true:=by
  rw[leB4_lt hx];intro u hu;simp only[List.mem_cons,List.not_mem_nil,or_false]at hu;rcases hu with rfl|rfl|rfl|rfl<;>rfl
 obtain⟨L4,hL4⟩:=aE (leB 4 x);rw[<-hL4]at hnl hnews hone⊢;clear hL4;have hk1:q+4<=maxLen:=by unfold maxLen;omega
 have hk2:(q+4)*1<=140737488355328:=by omega
 have hk3:B<=W4.heap.size:=by omega
 have X:=run_append_own (P:=Tryz.prog) W4 B 118 118 5 i0 _ 1 1 Tryz.underlying118 hi hz0 hz1 hz2 rfl (by decide) (.slice a q c) q (l.flatMap en8) h4 ⟨w.heap.size,0,none⟩ 4 4 (L4.flatMap en8) hnl hnews hone hk1 hk2 hk3;obtain⟨v',X⟩:=X;obtain⟨w',X⟩:=X;have hr:=X.1;have ho:=X.2.1;have hgr:=X.2.2.1;clear X;rw[<-List.flatMap_append]at ho;obtain⟨a',c',rfl⟩:∃a' c',v'=.slice a' (q+4) c':=by
  rcases ho.2 with⟨h,h0⟩|⟨g,cap,cur,h,-⟩
  ·exact⟨none,0,by rw[h,h0]⟩
  ·exact⟨_,_,h⟩
 have hfin:Below B w w':=by
  have h5:=hb4.mono hB;exact h5.grown hgr hk3 (fun j hj=>(h4.lt j hj).1)
 refine⟨a',c',w',?_,ho,hfin⟩;rw[<-hW4];exact hr
def wordsB (ws:List Nat):ByteArray:=⟨(ws.flatMap (leB 4)).toArray⟩
theorem conv_own {w:World}{B q c:Nat}{a:Option Addr}{l:List UInt8}(h:w.ownsRow B 5 1 (.slice a q c) q (l.flatMap en8))(hq:l≠ []):(convert 118 9 (.slice a q c)).run Tryz.prog w=.ok (.string ⟨l.toArray⟩) w:=by
 have hl:(l.flatMap en8).length=l.length:=by rw[nZ en8_len,Nat.mul_one]
 obtain⟨a',c',e,hs,hn⟩:=SL.ofOwns en8_len (by decide) h;injection e with e1 e2 e3
 subst e1;subst e3;obtain⟨b,o,rfl,hb,hc⟩:=hs.cells hq;have hql:q=l.length:=hs.len;rw[hql];refine run_convert_bytes_back (P:=Tryz.prog) w 118 9 5 ⟨b,o,none⟩ c l Tryz.underlying118 Tryz.underlying5 Tryz.underlying9 (fun j hj=>?_);have h1:=hc j hj 0 (by decide);rw[Nat.mul_one,Nat.add_zero]at h1;rw[Addr.add_lit,h1];rfl
theorem vbytes_any (w:World)(a:Option Addr)(n c:Nat)(ws:List Nat)(hn:n<=1000)(hn1:1<=n)(hw:∀x∈ws,x<4294967296)(hl:SL enW 1 w w.heap.size a n ws):
  Calls Tryz.prog 35 #[.slice a n c] w (aP (.string (wordsB ws)) w):=by
 have hni:(n:Int)<=1000:=by omega
 have HL:=aH hl;have HLn:Hid (n=ws.length):=aH hl.len;have HWs:=aH hw;have HN1:=aH (And.intro hn1 hn);clear hl hn hw hn1;go_enter Tryz.func35,Tryz.ntmps35;go_wp2_with fail
 go_loopw [3,8] (fun bv i wr=>∃(k q:Nat) (wx:World) (a':Option Addr) (c':Nat),wx=wr/\k<=n/\bv=.slice a' q c'/\i=.int .i64 k/\Hid (q=4*k)/\Hid (wx.ownsRow w.heap.size 5 1 (.slice a' q c') q (((ws.take k).flatMap (leB 4)).flatMap en8))/\Hid (Below w.heap.size w wx)) (fun _ i _=>n-(intOf i).toNat)
 case atStart=>exact⟨0,0,_,none,0,rfl,by omega,rfl,rfl,aH rfl,aH (World.ownsRow_nil _ _ _ _),aH (Below.refl _ _)⟩
 case round=>
  obtain⟨k,q,wx,a',c',rfl,hk,rfl,rfl,HQ,HO,HB⟩:=hrel;by_cases hlt:k<n
  ·have hlti:(k:Int)<(n:Int):=by omega
   have HLT:=aH hlt;have HWk:Hid (wrap64 ((k:Int)+1)=(k:Int)+1):=aH (by unfold wrap64;omega);have hkl:k<ws.length:=by rw[<-HLn.out];exact hlt
   obtain⟨x,hx⟩:=aG (l:=ws) (i:=k) hkl;have hxb:=HWs.out x (eQ hx);have hxi:(x:Int)<4294967296:=by omega
   obtain⟨b,o,hae,-,hc⟩:=(HL.out.next HB.out).cells (by intro e;rw[e]at hx;cases hx);subst hae;have x0:wx.cell? ⟨b,o+k,none⟩=some (.int .u32 (x:Int)):=by
    have h1:=hc k hkl 0 (by decide);rw[Nat.mul_one,Nat.add_zero,(eX hx).2]at h1;exact h1
   have HTk:Hid (ws.take (k+1)=ws.take k++ [x]):=aH (by rw[List.take_add_one,hx];rfl);obtain⟨a5,c5,W5,hr,ho5,hb5⟩:=own_app8 HO.out x hxb (by have:=HN1.out;have:=HQ.out;omega) (by exact HB.out.size);obtain⟨q5,hq5⟩:=aE (q+4);have HO5:Hid (W5.ownsRow w.heap.size 5 1 (.slice a5 q5 c5) q5 (((ws.take (k+1)).flatMap (leB 4)).flatMap en8)):=aH (by
    rw[HTk.out,List.flatMap_append];have:(([x]:List Nat).flatMap (leB 4))=leB 4 x:=by simp
    rw[this,hq5];exact ho5)
   have HQ5:Hid (q5=4*(k+1)):=aH (by have:=HQ.out;omega);rw[<-hq5]at hr;have HAp:=aH hr;have HB5:Hid (Below w.heap.size w W5):=aH (HB.out.trans hb5);clear hc hx hkl hlt hk hr ho5 hb5 hxb hq5;go_wp2_with (at_builtin;refine Lib.wpList_append_run _ rfl _ _ 118 118 rfl _ _ (by rfl) (by rfl) _ _ HAp.out ?_)
   go_roundw
   case rel=>exact⟨k+1,q5,_,a5,c5,rfl,by have:=HLT.out;omega,rfl,by first|go_num|(rw[HWk.out];go_num),HQ5,HO5,HB5⟩
   case measure=>first|exact aL HLT HWk|exact aK HLT HWk
  ·obtain rfl:n=k:=by omega
   have hge:¬(n:Int)<(n:Int):=by omega
   have hne:(ws.flatMap (leB 4))≠ []:=by
    intro e;have h1:=congrArg List.length e;have h0:∀l:List Nat,(l.flatMap (leB 4)).length=l.length*4:=fun l=>by induction l with|nil=>rfl|cons a t ih=>rw[List.flatMap_cons,List.length_append,ih,leB_len,List.length_cons];omega
    rw[h0]at h1;have h2:=HLn.out;have h3:=HN1.out;simp only[List.length_nil]at h1;omega
   have hcv:=conv_own (l:=ws.flatMap (leB 4)) (by have h1:=HO.out;rw[show ws.take n=ws from by rw[HLn.out,List.take_length]]at h1;exact h1) hne;have HBx:=aH HB.out;clear hlt hk hne;go_wp2;go_ret;exact⟨rfl,HBx.out⟩
def pagesV (f t:Int):Int:=(wrap64 ((t-t%4096)-(f-f%4096))).tdiv 4096
abbrev iA (n:Int):In:=⟨28,16,0,0,0,n,0,0,0,0⟩
abbrev iB (n:Int):In:=⟨4,16,16,0,0,n,0,0,0,0⟩
abbrev iC:In:=⟨34,0,16,0,0,0,0,0,0,0⟩
def qX (i:In):Nat:=(encP i).1.toNat
theorem lK {i:In}(hi:InB i):encP i=((qX i:Int),(encP i).2)/\qX i<4294967296:=by
 unfold qX encP;by_cases h:fM i=true
 ·rw[if_pos h];obtain⟨c,-,-,-,h1,-⟩:=encW_spec i h hi.mask;exact⟨by simp,by simpa using h1⟩
 ·rw[if_neg h];exact⟨rfl,by decide⟩
def lD (f t:Int):ByteArray×Int:=
 if f%4≠0 then(⟨#[]⟩,5)else if pagesV f t< -1048576\/1048576<=pagesV f t then(⟨#[]⟩,4)else(wordsB [qX (iA (pagesV f t)),qX (iB (t%4096)),qX iC],0)
theorem Code_any (f t:Int)(w:World)(hT:jL w)(f0:0<=f)(f1:f<18446744073709551616)(t0:0<=t)(t1:t<18446744073709551616):
  Calls Tryz.prog 12 #[.int .u64 f,.int .u64 t] w (aP (.tuple #[.string (lD f t).1,.int .i64 (lD f t).2]) w):=by
 have HT:=aH hT;by_cases c1:f%4=0
 case neg=>
  have HC:Hid (lD f t=(⟨#[]⟩,5)):=aH (by unfold lD;rw[if_pos c1]);have e1:(f%4 !=0)=true:=by simp[c1]
  have e2:(f%4==0)=false:=by simp[c1]
  rw[HC.out];clear hT c1;go_enter Tryz.func12,Tryz.ntmps12;go_wp2_with fail
  go_ret2;exact⟨rfl,Below.refl _ _⟩
 have e1:(f%4 !=0)=false:=by simp[c1]
 have e2:(f%4==0)=true:=by simp[c1]
 obtain⟨fb,hfb⟩:=aE (f-f%4096);obtain⟨tb,htb⟩:=aE (t-t%4096);have w1:IntKind.u64.wrap (f-f%4096)=fb:=by rw[IntKind.wrap_u64];omega
 have w2:IntKind.u64.wrap (t-t%4096)=tb:=by rw[IntKind.wrap_u64];omega
 have HFa:Hid (Calls Tryz.prog 33 #[.int .u64 fb,.int .u64 tb] w (bQ (.int .i64 (wrap64 (tb-fb))) w)):=aH (Pl.far_any fb tb w (by omega) (by omega) (by omega) (by omega));have HPg:Hid (pagesV f t=(wrap64 (tb-fb)).tdiv 4096):=aH (by unfold pagesV;rw[hfb,htb]);obtain⟨far,hfar⟩:=aE (wrap64 (tb-fb));have hfb2:=Pl.wrap64_bd (tb-fb);rw[<-hfar]at HFa HPg hfb2;have HC1:Hid (f%4=0):=aH c1;obtain⟨pg,hpg⟩:=aE (far.tdiv 4096);have hpb : -2251799813685249<=far.tdiv 4096/\far.tdiv 4096<=2251799813685248:=by
  by_cases h:0<=far
  ·rw[Int.tdiv_eq_ediv_of_nonneg h];omega
  ·obtain⟨m,rfl⟩:∃m,far= -m:=⟨-far,by omega⟩;rw[Int.neg_tdiv,Int.tdiv_eq_ediv_of_nonneg (by omega)];omega
 have w3:IntKind.i64.wrap (far.tdiv 4096)=pg:=by rw[IntKind.wrap_i64,hpg];omega
 have hpb2 : -2251799813685249<=pg/\pg<=2251799813685248:=by rw[hpg];exact hpb
 have w4:wrap64 (far.tdiv 4096)=pg:=by unfold wrap64;rw[hpg];omega
 rw[<-hpg]at HPg;clear hT c1 hfb htb hfar;go_enter Tryz.func12,Tryz.ntmps12;go_wp2_with fail
 refine HFa.out.mono ?_;rintro e u ⟨rfl,rfl⟩;clear hfb2 hpb hpg;by_cases c2:pg< -1048576
 ·have HC:Hid (lD f t=(⟨#[]⟩,4)):=aH (by unfold lD;rw[if_neg (by rw[HC1.out];simp),if_pos (.inl (by rw[HPg.out];exact c2))]);go_wp2_with fail
  go_ret2;exact⟨by rw[HC.out];rfl,Below.refl _ _⟩
 by_cases c3:1048576<=pg
 ·have HC:Hid (lD f t=(⟨#[]⟩,4)):=aH (by unfold lD;rw[if_neg (by rw[HC1.out];simp),if_pos (.inr (by rw[HPg.out];exact c3))]);go_wp2_with fail
  go_ret2;exact⟨by rw[HC.out];rfl,Below.refl _ _⟩
 have c4 : -1048576<=pg:=by omega
 have c5:pg<1048576:=by omega
 obtain⟨lo,hlo⟩:=aE (t%4096);have hlo2:0<=lo/\lo<4096:=by omega
 have hbA:InB (iA pg):=by constructor<;>(first|(simp only[i64B];omega)|(constructor<;>decide))
 have hbB:InB (iB lo):=by constructor<;>(first|(simp only[i64B];omega)|(constructor<;>decide))
 have hbC:InB iC:=by constructor<;>(first|(simp only[i64B];omega)|(constructor<;>decide))
 obtain⟨wa,hwa⟩:=aE (qX (iA pg));obtain⟨wb,hwb⟩:=aE (qX (iB lo));obtain⟨wc,hwc⟩:=aE (qX iC);have HC:Hid (lD f t=(wordsB [wa,wb,wc],0)):=aH (by unfold lD;rw[if_neg (by rw[HC1.out];simp),if_neg (by rw[HPg.out];omega),HPg.out,hwa,hwb,hwc,hlo]);have HWl:Hid (∀x∈ [wa,wb,wc],x<4294967296):=aH (fun x hx=>by
  simp only[List.mem_cons,List.not_mem_nil,or_false]at hx;rcases hx with rfl|rfl|rfl
  ·rw[hwa];exact(lK hbA).2
  ·rw[hwb];exact(lK hbB).2
  ·rw[hwc];exact(lK hbC).2)
 obtain⟨ea,hea⟩:=aE ((encP (iA pg)).2);obtain⟨eb,heb⟩:=aE ((encP (iB lo)).2);obtain⟨ec,hec⟩:=aE ((encP iC).2);have HEa:Hid (∀u,jL u->Calls Tryz.prog 34 #[.agg #[.int .i64 28,.int .i64 16,.int .i64 0,.int .i64 0,.int .i64 0,.int .i64 pg,.int .u64 0,.int .i64 0,.int .i64 0,.int .i64 0]] u (aP (.tuple #[.int .u32 (wa:Int),.int .i64 ea]) u)):=aH fun u hu=>by
  have:=oK (iA pg) u hu.1.1 hbA (.inr (.inl (by kernel_rfl)));rw[(lK hbA).1,<-hwa,<-hea]at this;exact this
 have HEb:Hid (∀u,jL u->Calls Tryz.prog 34 #[.agg #[.int .i64 4,.int .i64 16,.int .i64 16,.int .i64 0,.int .i64 0,.int .i64 (t%4096),.int .u64 0,.int .i64 0,.int .i64 0,.int .i64 0]] u (aP (.tuple #[.int .u32 (wb:Int),.int .i64 eb]) u)):=aH fun u hu=>by
  have:=oK (iB lo) u hu.1.1 hbB (.inl (by kernel_rfl));rw[(lK hbB).1,<-hwb,<-heb]at this;rw[<-hlo];exact this
 have HEc:Hid (∀u,jL u->Calls Tryz.prog 34 #[.agg #[.int .i64 34,.int .i64 0,.int .i64 16,.int .i64 0,.int .i64 0,.int .i64 0,.int .u64 0,.int .i64 0,.int .i64 0,.int .i64 0]] u (aP (.tuple #[.int .u32 (wc:Int),.int .i64 ec]) u)):=aH fun u hu=>by
  have:=oK iC u hu.1.1 hbC (.inr (.inr (by kernel_rfl)));rw[(lK hbC).1,<-hwc,<-hec]at this;exact this
 have wl:IntKind.i64.wrap lo=lo:=by rw[IntKind.wrap_i64];omega
 clear hwa hwb hwc hea heb hec hbA hbB hbC w1 w2 e1 e2 HFa;go_wp2_with fail
 refine(HEa.out _ HT.out).mono ?_;rintro e u1 ⟨rfl,hb1⟩;have HT1:=aH (HT.out.next hb1);have HB1:=aH hb1;clear hb1;have wl2:IntKind.i64.wrap (t%4096)=t%4096:=by rw[IntKind.wrap_i64];omega
 clear wl hlo;go_wp2_with fail
 refine(HEb.out _ HT1.out).mono ?_;rintro e u2 ⟨rfl,hb2⟩;have HT2:=aH (HT1.out.next hb2);have HB2:=aH (after HB1.out hb2);clear hb2;go_wp2_with fail
 refine(HEc.out _ HT2.out).mono ?_;rintro e u3 ⟨rfl,hb3⟩;have HB3:=aH (after HB2.out hb3);clear hb3;obtain⟨W4,hW4⟩:=aE (u3.alloc (.cells #[.int .u32 (wa:Int),.int .u32 (wb:Int),.int .u32 (wc:Int)] 70));have HB4:Hid (Below u3.heap.size u3 W4):=aH (by rw[hW4];exact aC _ _);have HSl:Hid (SL enW 1 W4 W4.heap.size (some ⟨u3.heap.size,0,none⟩) 3 [wa,wb,wc]):=aH (by
  rw[hW4,World.size_alloc];exact SL.lit u3 70 [wa,wb,wc] enW_len (by decide) _ rfl 3 rfl)
 have HBy:=aH (vbytes_any W4 (some ⟨u3.heap.size,0,none⟩) 3 3 [wa,wb,wc] (by omega) (by omega) HWl.out HSl.out);have HWe:=aH hW4.symm;clear hW4;go_wp2_with fail
 rw[HWe.out];refine HBy.out.mono ?_;rintro e u5 ⟨rfl,hb5⟩;have HB5:=aH (after (after HB3.out HB4.out) hb5);clear hb5;go_wp2_with fail
 go_ret2;exact⟨by rw[HC.out];rfl,HB5.out⟩
end
section
open Go.ChangeShapes Go.WideShapes Go.Deep Go.RowKit
open Go.Proofs.YtiohgaghmnpplaaGreatDoor.Pl (encU encU_len)
theorem sameU_no (a a':Option Addr)(n n' c c':Nat)(w:World)(hne:n≠n')(hn:n<=1000000)(hn':n'<=1000000):
  Calls Tryz.prog 15 #[.slice a n c,.slice a' n' c'] w (aP (.bool false) w):=by
 have hb:((n:Int) !=n')=true:=by rw[bne_iff_ne];omega
 clear hne;go_enter Tryz.func15,Tryz.ntmps15;go_wp2;go_ret;exact aB rfl (Below.refl _ _)
theorem sameU_yes (a a':Option Addr)(n c c':Nat)(l l':List Int)(w:World)(hn:n<=1000000)(h:SL encU 1 w w.heap.size a n l)(h':SL encU 1 w w.heap.size a' n l'):
  Calls Tryz.prog 15 #[.slice a n c,.slice a' n c'] w (aP (.bool (decide (l=l'))) w):=by
 have hl:=aH h.len;have hl':=aH h'.len;go_enter Tryz.func15,Tryz.ntmps15;go_wp2;go_loopw [5] (fun i wr=>∃k:Nat,k<=n/\i=.int .i64 k/\l.take k=l'.take k/\Below w.heap.size w wr) (fun i _=>n-(intOf i).toNat)
 case atStart=>exact⟨0,by omega,rfl,rfl,Below.refl _ _⟩
 case round=>
  obtain⟨k,hk,rfl,htk,hb⟩:=hrel;have HT:=aH htk;clear htk;by_cases hlt:k<n
  ·have hk1:k<l.length:=by have:=hl.out;omega
   have hk2:k<l'.length:=by have:=hl'.out;omega
   obtain⟨b,off,rfl,hB,hc⟩:=(h.below hb).cells (h.ne hlt);obtain⟨b',off',rfl,hB',hc'⟩:=(h'.below hb).cells (h'.ne hlt);have c0:=hc k hk1 0 (by omega);have d0:=hc' k hk2 0 (by omega);obtain⟨x,hx⟩:=aE (l[k]);obtain⟨y,hy⟩:=aE (l'[k]);rw[<-hx]at c0;rw[<-hy]at d0;simp only[encU,Nat.add_zero,Nat.mul_one,List.getElem?_cons_zero]at c0 d0;have HX:=aH hx;have HY:=aH hy;clear hc hc' h h' hx hy;by_cases e:x=y
   ·have hb2:(x !=y)=false:=by simp[e]
    have HE:=aH e;clear e;go_wp2;go_quiet (fail);go_wp2;go_roundw
    case rel=>
     refine⟨k+1,by omega,by go_num,?_,below_drewN hb _⟩;rw[List.take_succ_eq_append_getElem hk1,List.take_succ_eq_append_getElem hk2,HT.out,<-HX.out,<-HY.out,HE.out]
    case measure=>simp[intOf];omega
   ·have hb2:(x !=y)=true:=by simp[e]
    have HE:=aH e;clear e;go_wp2;go_quiet (fail);go_wp2;go_ret;refine aB ?_ (below_drewN hb _);symm;rw[decide_eq_false_iff_not];intro hh;subst hh;exact HE.out (HX.out.trans HY.out.symm)
  ·go_wp2;go_ret;refine aB ?_ hb;symm;rw[decide_eq_true_eq];have:=HT.out;rwa[List.take_of_length_le (by have:=hl.out;omega),List.take_of_length_le (by have:=hl'.out;omega)]at this
theorem sameU_any (a a':Option Addr)(n n' c c':Nat)(l l':List Int)(w:World)(hn:n<=1000000)(hn':n'<=1000000)(h:SL encU 1 w w.heap.size a n l)(h':SL encU 1 w w.heap.size a' n' l'):
  Calls Tryz.prog 15 #[.slice a n c,.slice a' n' c'] w (aP (.bool (decide (l=l'))) w):=by
 by_cases e:n=n'
 ·subst e;exact sameU_yes a a' n c c' l l' w hn h h'
 ·have:decide (l=l')=false:=by
   rw[decide_eq_false_iff_not];intro hh;subst hh;exact e (h.len.trans h'.len.symm)
  rw[this];exact sameU_no a a' n n' c c' w e hn hn'
theorem sameVn_no (a a':Option Addr)(n n' c c':Nat)(w:World)(hne:n≠n')(hn:n<=1000000)(hn':n'<=1000000):
  Calls Tryz.prog 16 #[.slice a n c,.slice a' n' c'] w (aP (.bool false) w):=by
 have hb:((n:Int) !=n')=true:=by rw[bne_iff_ne];omega
 clear hne;go_enter Tryz.func16,Tryz.ntmps16;go_wp2;go_ret;exact aB rfl (Below.refl _ _)
theorem sameVn_yes (a a':Option Addr)(n c c':Nat)(l l':List Vn)(w:World)(hn:n<=1000000)(h:SL gB 3 w w.heap.size a n l)(h':SL gB 3 w w.heap.size a' n l'):
  Calls Tryz.prog 16 #[.slice a n c,.slice a' n c'] w (aP (.bool (decide (l=l'))) w):=by
 have hl:=aH h.len;have hl':=aH h'.len;go_enter Tryz.func16,Tryz.ntmps16;go_wp2;go_loopw [5] (fun i wr=>∃k:Nat,k<=n/\i=.int .i64 k/\l.take k=l'.take k/\Below w.heap.size w wr) (fun i _=>n-(intOf i).toNat)
 case atStart=>exact⟨0,by omega,rfl,rfl,Below.refl _ _⟩
 case round=>
  obtain⟨k,hk,rfl,htk,hb⟩:=hrel;have HT:=aH htk;clear htk;by_cases hlt:k<n
  ·have hk1:k<l.length:=by have:=hl.out;omega
   have hk2:k<l'.length:=by have:=hl'.out;omega
   obtain⟨b,off,rfl,hB,hc⟩:=(h.below hb).cells (h.ne hlt);obtain⟨b',off',rfl,hB',hc'⟩:=(h'.below hb).cells (h'.ne hlt);obtain⟨c0,c1,c2⟩:=fI (off:=off) (k:=k) (x:=l[k]) (fun j hj=>hc k hk1 j hj);obtain⟨d0,d1,d2⟩:=fI (off:=off') (k:=k) (x:=l'[k]) (fun j hj=>hc' k hk2 j hj);obtain⟨x,hx⟩:=aE (l[k]);obtain⟨y,hy⟩:=aE (l'[k]);rw[<-hx]at c0 c1 c2;rw[<-hy]at d0 d1 d2;have hne:=neq_vn x y;have HX:=aH hx;have HY:=aH hy;clear hc hc' h h' hx hy;by_cases e:x=y
   ·have hb2:decide (x=y)=true:=decide_eq_true e;have HE:=aH e;clear e;go_wp2;go_quiet (fail);go_wp2;go_roundw
    case rel=>
     refine⟨k+1,by omega,by go_num,?_,below_drewN hb _⟩;rw[List.take_succ_eq_append_getElem hk1,List.take_succ_eq_append_getElem hk2,HT.out,<-HX.out,<-HY.out,HE.out]
    case measure=>simp[intOf];omega
   ·have hb2:decide (x=y)=false:=decide_eq_false e;have HE:=aH e;clear e;go_wp2;go_quiet (fail);go_wp2;go_ret;refine aB ?_ (below_drewN hb _);symm;rw[decide_eq_false_iff_not];intro hh;subst hh;exact HE.out (HX.out.trans HY.out.symm)
  ·go_wp2;go_ret;refine aB ?_ hb;symm;rw[decide_eq_true_eq];have:=HT.out;rwa[List.take_of_length_le (by have:=hl.out;omega),List.take_of_length_le (by have:=hl'.out;omega)]at this
theorem sameVn_any (a a':Option Addr)(n n' c c':Nat)(l l':List Vn)(w:World)(hn:n<=1000000)(hn':n'<=1000000)(h:SL gB 3 w w.heap.size a n l)(h':SL gB 3 w w.heap.size a' n' l'):
  Calls Tryz.prog 16 #[.slice a n c,.slice a' n' c'] w (aP (.bool (decide (l=l'))) w):=by
 by_cases e:n=n'
 ·subst e;exact sameVn_yes a a' n c c' l l' w hn h h'
 ·have:decide (l=l')=false:=by
   rw[decide_eq_false_iff_not];intro hh;subst hh;exact e (h.len.trans h'.len.symm)
  rw[this];exact sameVn_no a a' n n' c c' w e hn hn'
theorem rK (aA:Option Addr)(nA cA:Nat)(A:List Int)(aV:Option Addr)(nV cV:Nat)(v:List Vn)(aW:Option Addr)(nW cW:Nat)(Wl:List Int)(k:Int)(aA':Option Addr)(nA' cA':Nat)(A':List Int)(aV':Option Addr)(nV' cV':Nat)(v':List Vn)(aW':Option Addr)(nW' cW':Nat)(Wl':List Int)(k':Int)(w:World)
  (b1:nA<=1000000/\nV<=1000000/\nW<=1000000) (b2:nA'<=1000000/\nV'<=1000000/\nW'<=1000000)
  (hA:SL encU 1 w w.heap.size aA nA A) (hV:SL gB 3 w w.heap.size aV nV v) (hW:SL encU 1 w w.heap.size aW nW Wl) (hA':SL encU 1 w w.heap.size aA' nA' A') (hV':SL gB 3 w w.heap.size aV' nV' v') (hW':SL encU 1 w w.heap.size aW' nW' Wl'):
  Calls Tryz.prog 21 #[.agg (plV aA nA cA aV nV cV aW nW cW k),.agg (plV aA' nA' cA' aV' nV' cV' aW' nW' cW' k')] w (aP (.bool (decide (A=A') && decide (v=v') && decide (Wl=Wl') && decide (k=k'))) w):=by
 obtain⟨X,hX⟩:=aE w.heap.size;obtain⟨W,hWw⟩:=aE ((w.alloc (.cells (plV aA nA cA aV nV cV aW nW cW k) 44)).alloc (.cells (plV aA' nA' cA' aV' nV' cV' aW' nW' cW' k') 44));have z1:(w.alloc (.cells (plV aA nA cA aV nV cV aW nW cW k) 44)).heap.size=X+1:=by rw[World.size_alloc,hX]
 have HB:Hid (Below w.heap.size w W):=aH (by rw[hWw];exact after (aC _ _) (aC _ _));have HP:Hid (RB W X (plV aA nA cA aV nV cV aW nW cW k) 44):=aH (by rw[hWw,hX];exact(aQ _ _ _).next (aC _ _));have HQ:Hid (RB W (X+1) (plV aA' nA' cA' aV' nV' cV' aW' nW' cW' k') 44):=aH (by rw[hWw,<-z1];exact aQ _ _ _);have HWe:=aH hWw.symm;have HXe:=aH hX.symm;obtain ⟨q1,hq1⟩:=aE (decide (A=A'));obtain ⟨q2,hq2⟩:=aE (decide (v=v'));obtain ⟨q3,hq3⟩:=aE (decide (Wl=Wl'));have H1:Hid (∀u,Below w.heap.size w u->Calls Tryz.prog 15 #[.slice aA nA cA,.slice aA' nA' cA'] u (aP (.bool q1) u)):=aH fun u hu=>by rw[hq1];exact sameU_any aA aA' nA nA' cA cA' A A' u b1.1 b2.1 (hA.next hu) (hA'.next hu)
 have H2:Hid (∀u,Below w.heap.size w u->Calls Tryz.prog 16 #[.slice aV nV cV,.slice aV' nV' cV'] u (aP (.bool q2) u)):=aH fun u hu=>by rw[hq2];exact sameVn_any aV aV' nV nV' cV cV' v v' u b1.2.1 b2.2.1 (hV.next hu) (hV'.next hu)
 have H3:Hid (∀u,Below w.heap.size w u->Calls Tryz.prog 15 #[.slice aW nW cW,.slice aW' nW' cW'] u (aP (.bool q3) u)):=aH fun u hu=>by rw[hq3];exact sameU_any aW aW' nW nW' cW cW' Wl Wl' u b1.2.2 b2.2.2 (hW.next hu) (hW'.next hu)
 rw[<-hq1,<-hq2,<-hq3];have HC:Hid (∀u,Below W.heap.size W u->(u.cell? ⟨X,0,none⟩=some (.slice aA nA cA)/\u.cell? ⟨X,1,none⟩=some (.slice aV nV cV)/\u.cell? ⟨X,2,none⟩=some (.slice aW nW cW)/\u.cell? ⟨X,3,none⟩=some (.int .i64 k))/\u.cell? ⟨X+1,0,none⟩=some (.slice aA' nA' cA')/\u.cell? ⟨X+1,1,none⟩=some (.slice aV' nV' cV')/\u.cell? ⟨X+1,2,none⟩=some (.slice aW' nW' cW')/\u.cell? ⟨X+1,3,none⟩=some (.int .i64 k')):=aH fun u hu=>⟨(fD (HP.out.next hu)).1,(fD (HQ.out.next hu)).1⟩
 obtain⟨⟨x0,x1,x2,x3⟩,y0,y1,y2,y3⟩:=HC.out W (Below.refl _ _);rw[hWw,hX]at x0 x1 x2 x3 y0 y1 y2 y3;clear hX hWw z1 hq1 hq2 hq3 b1 b2 hA hV hW hA' hV' hW' HP HQ;go_enter Tryz.func21,Tryz.ntmps21;go_wp2_with fail
 rw[HWe.out,HXe.out];refine(H1.out W HB.out).mono ?_;rintro e u1 ⟨rfl,hb1⟩;have HB1:=aH (And.intro hb1 (after HB.out hb1));clear hb1 x0 x1 x2 x3 y0 y1 y2 y3;cases q1
 ·go_wp2_with fail
  go_ret;exact⟨rfl,HB1.out.2⟩
 obtain⟨⟨x0,x1,x2,x3⟩,y0,y1,y2,y3⟩:=HC.out u1 HB1.out.1;go_wp2_with fail
 refine(H2.out u1 HB1.out.2).mono ?_;rintro e u2 ⟨rfl,hb2⟩;have HB2:=aH (And.intro (after HB1.out.1 hb2) (after HB1.out.2 hb2));clear hb2 x0 x1 x2 x3 y0 y1 y2 y3;cases q2
 ·go_wp2_with fail
  go_ret;exact⟨rfl,HB2.out.2⟩
 obtain⟨⟨x0,x1,x2,x3⟩,y0,y1,y2,y3⟩:=HC.out u2 HB2.out.1;go_wp2_with fail
 refine(H3.out u2 HB2.out.2).mono ?_;rintro e u3 ⟨rfl,hb3⟩;have HB3:=aH (And.intro (after HB2.out.1 hb3) (after HB2.out.2 hb3));clear hb3 x0 x1 x2 x3 y0 y1 y2 y3;cases q3
 ·go_wp2_with fail
  go_ret;exact⟨rfl,HB3.out.2⟩
 obtain⟨⟨x0,x1,x2,x3⟩,y0,y1,y2,y3⟩:=HC.out u3 HB3.out.1;by_cases c:k=k'
 ·have t1:(k==k')=true:=by simp[c]
  have HT2:Hid (decide (k=k')=true):=aH (decide_eq_true c);clear c;go_wp2_with fail
  go_ret;exact⟨by rw[HT2.out];rfl,HB3.out.2⟩
 ·have t1:(k==k')=false:=by simp[c]
  have HT2:Hid (decide (k=k')=false):=aH (decide_eq_false c);clear c;go_wp2_with fail
  go_ret;exact⟨by rw[HT2.out];rfl,HB3.out.2⟩
end
section
open Go.ChangeShapes Go.WideShapes Go.Deep Go.RowKit
open Go.Proofs.YtiohgaghmnpplaaGreatDoor.Pl (encU encU_len gW)
def n8:List UInt8:=[31,32,3,213,31,32,3,213]
def sB (k:Nat):List UInt8:=(List.replicate k n8).flatten
theorem nR (k:Nat):(sB k).length=k*8:=by
 unfold sB;induction k with
 |zero=>rfl
 |succ k ih=>rw[List.replicate_succ,List.flatten_cons,List.length_append,ih];simp[n8];omega
theorem nops_snoc (k:Nat):sB k++n8=sB (k+1):=by
 unfold sB;rw[List.replicate_succ',List.flatten_append];simp
def gD:List UInt8:=[0,0,0,148]++(sB 512).drop 4
theorem gD_len:gD.length=4096:=by unfold gD;rw[List.length_append,List.length_drop,nR];rfl
def gR:Rl:=⟨0,2,2,0⟩
def gS (a b:List UInt8):List Sc:=[⟨[97],1,false,0,a,[gR]⟩,⟨[98],1,false,0,b,[]⟩,⟨[99],1,false,0,[192,3,95,214],[]⟩]
theorem gS_units {a b:List UInt8}(ha:a.length=4096)(hb:b.length=4096)(ht:a.take 4=[0,0,0,148]):bN (gS a b)=true:=by
 have h0:mK 1 a gR=true:=by
  unfold mK gR;rw[if_neg (by decide)];simp only[Int.toNat_zero,List.drop_zero,ht];decide+kernel
 have h1:jH ⟨[97],1,false,0,a,[gR]⟩=true:=by
  unfold jH headR gT;have:¬badR 1 a 0 gR:=by
   unfold badR;rw[h0,ha];decide
  simp only[this,if_false];rw[ha];rfl
 have h2:jH ⟨[98],1,false,0,b,[]⟩=true:=by
  unfold jH headR gT;rw[hb];kernel_rfl
 have h3:jH ⟨[99],1,false,0,[192,3,95,214],[]⟩=true:=by decide+kernel
 unfold bN gS dO;simp only[List.all_cons,List.all_nil,h1,h2,h3];rfl
theorem gS_is {a b:List UInt8}(ha:a.length=4096)(hb:b.length=4096)(ht:a.take 4=[0,0,0,148]):lE (gS a b) [0,1,2] [0,1,2] [0,0,0]:=by
 refine⟨gS_units ha hb ht,⟨rfl,fun k v h=>?_⟩,fun k v h h0 s t hs ht' j r r' hr hr'=>?_,?_,?_⟩
 ·right;have hk:k=0\/k=1\/k=2:=by have:=(eX h).1;simp at this;omega
  rcases hk with rfl|rfl|rfl<;>(cases h;exact⟨by decide,by simp[gS],rfl,.inl rfl⟩)
 ·have hk:k=0\/k=1\/k=2:=by have:=(eX h).1;simp at this;omega
  rcases hk with rfl|rfl|rfl
  ·cases h
   simp[gS]at hs ht';subst hs;subst ht';have hj:j=0:=by have:=(eX hr).1;simp at this;omega
   subst hj;cases hr;cases hr'
   exact⟨2,by decide,rfl,rfl⟩
  ·cases h
   simp[gS]at hs;subst hs;simp at hr
  ·cases h
   simp[gS]at hs;subst hs;simp at hr
 ·rfl
 ·rfl
theorem gS_places {a b:List UInt8}(ha:a.length=4096)(hb:b.length=4096)(v:List Vn)(c0:cZ v 1=0)(c1:cZ v 2=0):
  bF (gS a b) [0,1,2] [0,0,0] 65536 33554432 v=(gW [((4096+12*cZ v 0:Nat),2),(4096,2),(4,2)] 65536).1:=by
 have e0:gN (gS a b) 0=4096:=by unfold gN iI gS;simp[ha]
 have e1:gN (gS a b) 1=4096:=by unfold gN iI gS;simp[hb]
 have e2:gN (gS a b) 2=4:=by unfold gN iI gS;simp
 unfold bF gK dP;simp only[List.zip_cons_cons,List.zip_nil_right,List.filterMap_cons,List.filterMap_nil,e0,e1,e2];have k0:bG (gS a b) 0=1:=rfl;have k1:bG (gS a b) 1=1:=rfl;have k2:bG (gS a b) 2=1:=rfl;simp only[k0,k1,k2,if_true];have c0':cZ v ((1:Nat):Int)=0:=c0;have c1':cZ v ((2:Nat):Int)=0:=c1;have c2':cZ v ((0:Nat):Int)=cZ v 0:=rfl;rw[c0',c1',c2'];show _++ []=_
 rw[List.append_nil];rfl
theorem gS_plan {a b:List UInt8}(ha:a.length=4096)(hb:b.length=4096):EndsAt (gS a b) [0,1,2] [0,0,0] [0,1,2] 65536 33554432 8192 1/\iH (gS a b) [0,1,2] [0,0,0] [0,1,2] 65536 33554432 8192 1=[(0,2,0)]/\
  bF (gS a b) [0,1,2] [0,0,0] 65536 33554432 [(0,2,0)]=[65536,69644,73740]/\kS (gS a b) [0,1,2] [65536,69644,73740] [(0,2,0)]=[69632]:=by
 have p0:bF (gS a b) [0,1,2] [0,0,0] 65536 33554432 []=[65536,69632,73728]:=by
  rw[gS_places ha hb [] rfl rfl];decide+kernel
 have p1:bF (gS a b) [0,1,2] [0,0,0] 65536 33554432 [(0,2,0)]=[65536,69644,73740]:=by
  rw[gS_places ha hb [(0,2,0)] (by decide) (by decide)];decide+kernel
 have cs:fF (gS a b) [0,1,2]=[(0,gR)]:=rfl;have w0:qW (gS a b) [0,1,2] [0,0,0] [0,1,2] 65536 33554432 8192 []=[(0,2,0)]:=by
  unfold qW gJ;rw[p0,cs];decide+kernel
 have w1:qW (gS a b) [0,1,2] [0,0,0] [0,1,2] 65536 33554432 8192 [(0,2,0)]=[]:=by
  unfold qW gJ;rw[p1,cs];decide+kernel
 have v1:iH (gS a b) [0,1,2] [0,0,0] [0,1,2] 65536 33554432 8192 1=[(0,2,0)]:=by
  show []++qW (gS a b) [0,1,2] [0,0,0] [0,1,2] 65536 33554432 8192 []=_
  rw[w0];rfl
 refine⟨⟨by rw[v1];exact w1,fun i hi=>?_⟩,v1,p1,?_⟩
 ·obtain rfl:i=0:=by omega
  show qW (gS a b) [0,1,2] [0,0,0] [0,1,2] 65536 33554432 8192 []≠ []
  rw[w0];simp
 ·unfold kS venR venR;have e0:gN (gS a b) 0=4096:=by unfold gN iI gS;simp[ha]
  have e1:gN (gS a b) (0:Int).toNat=4096:=e0;simp only[e1];decide+kernel
end
section
open Go.ChangeShapes Go.WideShapes Go.Deep Go.RowKit
open Go.Proofs.YtiohgaghmnpplaaGreatDoor.Pl (encU encU_len)
theorem code_a:lD 65536 131076=(⟨#[144,0,0,144,16,18,0,145,0,2,31,214]⟩,0):=by kernel_rfl
theorem code_b:lD 2 0=(⟨#[]⟩,5):=by kernel_rfl
theorem code_c:lD 0 4294967296=(⟨#[]⟩,4):=by kernel_rfl
def bL (l:List UInt8):ByteArray:=⟨l.toArray⟩
theorem bL_size (l:List UInt8):(bL l).size=l.length:=by unfold bL;show l.toArray.size=_;simp
theorem vbytes_ext {a b:ByteArray}(h:a.data.toList=b.data.toList):a=b:=by
 cases a with|mk x=>cases b with|mk y=>congr;exact Array.toList_inj.1 h
theorem bL_list (l:List UInt8):(bL l).data.toList=l:=by unfold bL;simp
theorem bL_cat (a b:List UInt8):bL a++bL b=bL (a++b):=vbytes_ext (by rw[ByteArray.data_append,Array.toList_append,bL_list,bL_list,bL_list])
theorem bL_drop (l:List UInt8)(n:Nat):(bL l).extract n l.length=bL (l.drop n):=vbytes_ext (by
 rw[ByteArray.data_extract,Array.toList_extract,bL_list,bL_list];simp[List.extract,List.take_of_length_le])
def gM (a b:List UInt8)(h:Nat):List Ms:=[⟨⟨[97],1,false,0,a,[gR]⟩,some ⟨h,0,none⟩,1⟩,⟨⟨[98],1,false,0,b,[]⟩,none,0⟩,⟨⟨[99],1,false,0,[192,3,95,214],[]⟩,none,0⟩]
theorem gM_sc (a b:List UInt8)(h:Nat):(gM a b h).map (·.sc)=gS a b:=rfl
theorem g_ints (u:World)(l:List Int):SL dT 1 (u.alloc (.cells (l.flatMap dT).toArray 3)) (u.alloc (.cells (l.flatMap dT).toArray 3)).heap.size (some ⟨u.heap.size,0,none⟩) l.length l:=by
 rw[World.size_alloc];exact SL.lit u 3 l enz_len (by decide) _ rfl l.length rfl
theorem max_3:(3:Nat)<=maxLen:=by unfold maxLen;omega
theorem max_1:(1:Nat)<=maxLen:=by unfold maxLen;omega
theorem ok_1:cS 1:=by unfold cS;omega
theorem ok_0:cS 0:=by unfold cS;omega
theorem g_v:∀x∈([(0,2,0)]:List Vn),cR x:=fun x hx=>by
 rw[List.mem_singleton.1 hx];exact⟨ok_0,(by show cS 2;unfold cS;omega),ok_0⟩
theorem g_good {a b:List UInt8}(ha:a.length=4096)(hb:b.length=4096)(h:Nat):∀m∈gM a b h,fP m.sc/\m.sc.rels.length*32<=reachBytes:=by
 intro m hm;simp only[gM,List.mem_cons,List.not_mem_nil,or_false]at hm;rcases hm with rfl|rfl|rfl
 ·refine⟨⟨max_1,ok_1,ok_0,by show a.length<=_;rw[ha];unfold maxLen;omega,fun r hr=>?_⟩,by show 1*32<=_;unfold reachBytes;omega⟩;rw[List.mem_singleton.1 hr];unfold gR jN cS;decide
 ·refine⟨⟨max_1,ok_1,ok_0,by show b.length<=_;rw[hb];unfold maxLen;omega,fun r hr=>by cases hr⟩,Nat.zero_le _⟩
 ·refine⟨⟨max_1,ok_1,ok_0,by show(4:Nat)<=maxLen;unfold maxLen;omega,fun r hr=>by cases hr⟩,Nat.zero_le _⟩
abbrev gP (h:Nat):Yp:=⟨some ⟨h+1,0,none⟩,3,3,some ⟨h+1+1,0,none⟩,3,3,some ⟨h+1+1+1,0,none⟩,3,3,some ⟨h+1+1+1+1,0,none⟩,3,3⟩
theorem g_lies {a b:List UInt8}(ha:a.length=4096)(hb:b.length=4096)(u:World)(hT:jL u):
  LQ (gP u.heap.size) (gM a b u.heap.size) [0,1,2] [0,1,2] [0,0,0] (((((u.alloc (.cells #[.int .i64 0,.int .i64 2,.int .i64 2,.int .i64 0] 57)).alloc (.cells #[.string ⟨#[97]⟩,.int .i64 1,.bool false,.int .i64 0,.string ⟨a.toArray⟩,.slice (some ⟨u.heap.size,0,none⟩) 1 1,.string ⟨#[98]⟩,.int .i64 1,.bool false,.int .i64 0,.string ⟨b.toArray⟩,.slice none 0 0,.string ⟨#[99]⟩,.int .i64 1,.bool false,.int .i64 0,.string ⟨#[192,3,95,214]⟩,.slice none 0 0] 55)).alloc (.cells #[.int .i64 0,.int .i64 1,.int .i64 2] 3)).alloc (.cells #[.int .i64 0,.int .i64 1,.int .i64 2] 3)).alloc (.cells #[.int .i64 0,.int .i64 0,.int .i64 0] 3)):=by
 obtain⟨H,hH⟩:=aE u.heap.size;obtain⟨W1,hW1⟩:=aE (u.alloc (.cells #[.int .i64 0,.int .i64 2,.int .i64 2,.int .i64 0] 57));obtain⟨W2,hW2⟩:=aE (W1.alloc (.cells ((gM a b H).flatMap mX).toArray 55));obtain⟨W3,hW3⟩:=aE (W2.alloc (.cells (([0,1,2]:List Int).flatMap dT).toArray 3));obtain⟨W4,hW4⟩:=aE (W3.alloc (.cells (([0,1,2]:List Int).flatMap dT).toArray 3));obtain⟨W5,hW5⟩:=aE (W4.alloc (.cells (([0,0,0]:List Int).flatMap dT).toArray 3));have eL:((gM a b H).flatMap mX).toArray=#[.string ⟨#[97]⟩,.int .i64 1,.bool false,.int .i64 0,.string ⟨a.toArray⟩,.slice (some ⟨H,0,none⟩) 1 1,.string ⟨#[98]⟩,.int .i64 1,.bool false,.int .i64 0,.string ⟨b.toArray⟩,.slice none 0 0,.string ⟨#[99]⟩,.int .i64 1,.bool false,.int .i64 0,.string ⟨#[192,3,95,214]⟩,.slice none 0 0]:=rfl;have hb1:Below u.heap.size u W1:=by rw[hW1];exact aC _ _
 have hb2:Below W1.heap.size W1 W2:=by rw[hW2];exact aC _ _
 have hb3:Below W2.heap.size W2 W3:=by rw[hW3];exact aC _ _
 have hb4:Below W3.heap.size W3 W4:=by rw[hW4];exact aC _ _
 have hb5:Below W4.heap.size W4 W5:=by rw[hW5];exact aC _ _
 have hz1:W1.heap.size=H+1:=by rw[hW1,World.size_alloc,hH]
 have hz2:W2.heap.size=H+1+1:=by rw[hW2,World.size_alloc,hz1]
 have hz3:W3.heap.size=H+1+1+1:=by rw[hW3,World.size_alloc,hz2]
 have hz4:W4.heap.size=H+1+1+1+1:=by rw[hW4,World.size_alloc,hz3]
 have h0:SL kY 4 W1 W1.heap.size (some ⟨H,0,none⟩) 1 [gR]:=by
  rw[hW1,hH,World.size_alloc];exact SL.lit u 57 [gR] rl_len (by decide) _ rfl 1 rfl
 have h1:SL mX 6 W2 W2.heap.size (some ⟨H+1,0,none⟩) 3 (gM a b H):=by
  rw[hW2,World.size_alloc,<-hz1];exact SL.lit W1 55 (gM a b H) ms_len (by decide) _ rfl 3 rfl
 have h2:SL dT 1 W3 W3.heap.size (some ⟨H+1+1,0,none⟩) 3 [0,1,2]:=by rw[hW3,<-hz2];exact g_ints W2 [0,1,2]
 have h3:SL dT 1 W4 W4.heap.size (some ⟨H+1+1+1,0,none⟩) 3 [0,1,2]:=by rw[hW4,<-hz3];exact g_ints W3 [0,1,2]
 have h4:SL dT 1 W5 W5.heap.size (some ⟨H+1+1+1+1,0,none⟩) 3 [0,0,0]:=by rw[hW5,<-hz4];exact g_ints W4 [0,0,0]
 have hall:LQ (gP H) (gM a b H) [0,1,2] [0,1,2] [0,0,0] W5:=by
  refine⟨max_3,((h1.next hb3).next hb4).next hb5,fun m hm=>?_,fun m hm=>(g_good ha hb H m hm).1,fun m hm=>(g_good ha hb H m hm).2,(h2.next hb4).next hb5,h3.next hb5,h4,max_3,max_3,max_3,((((hT.next hb1).next hb2).next hb3).next hb4).next hb5⟩;simp only[gM,List.mem_cons,List.not_mem_nil,or_false]at hm;rcases hm with rfl|rfl|rfl
  ·exact(((h0.next hb2).next hb3).next hb4).next hb5
  ·exact⟨rfl,fun h=>absurd rfl h⟩
  ·exact⟨rfl,fun h=>absurd rfl h⟩
 rw[hW5,hW4,hW3,hW2,eL,hW1,hH]at hall;exact hall
theorem g_goal {a b:List UInt8}:gX (gS a b) [0,1,2] [0,1,2] [0,0,0] [(0,2,0)] 3 3 1 1 0 0 gR↔(lE (gS a b) [0,1,2] [0,1,2] [0,0,0]):=by
 constructor
 ·exact fun h=>h.2.2.1.1
 ·exact fun h=>⟨rfl,rfl,⟨h,by rfl⟩,by rfl,by decide,rfl,rfl⟩
theorem gone_is (w:World)(hT:jL w):Calls Tryz.prog 14 #[] w (aP (.bool true) w):=by
 have HC:Hid (∀(f t:Int) (s:ByteArray) (e:Int) (u:World),lD f t=(s,e)->Below w.heap.size w u->0<=f->f<18446744073709551616->0<=t->t<18446744073709551616->Calls Tryz.prog 12 #[.int .u64 f,.int .u64 t] u (aP (.tuple #[.string s,.int .i64 e]) u)):=aH fun f t s e u he hu h1 h2 h3 h4=>by
  have:=Code_any f t u (hT.next hu) h1 h2 h3 h4;rw[he]at this;exact this
 have HT:=aH hT;clear hT;go_enter Tryz.func14,Tryz.ntmps14;go_wp2_with fail
 refine(HC.out 65536 131076 _ _ _ code_a (Below.refl _ _) (by omega) (by omega) (by omega) (by omega)).mono ?_;rintro e u1 ⟨rfl,hb1⟩;have HB1:=aH hb1;clear hb1;go_wp2_with fail
 refine(HC.out 2 0 _ _ _ code_b HB1.out (by omega) (by omega) (by omega) (by omega)).mono ?_;rintro e u2 ⟨rfl,hb2⟩;have HB2:=aH (after HB1.out hb2);clear hb2;go_wp2_with fail
 refine(HC.out 0 4294967296 _ _ _ code_c HB2.out (by omega) (by omega) (by omega) (by omega)).mono ?_;rintro e u3 ⟨rfl,hb3⟩;have HB3:=aH (after HB2.out hb3);clear hb3 HC;go_wp2_with fail
 have HN0:Hid (⟨#[]⟩=bL (sB 0)):=aH rfl;go_loopw [7,8] (fun s i wr=>∃(k:Nat) (D:ByteArray),wr=u3/\k<=512/\s=.string D/\i=.int .i64 k/\Hid (D=bL (sB k))) (fun _ i _=>512-(intOf i).toNat)
 case atStart=>exact⟨0,_,rfl,by omega,rfl,rfl,HN0⟩
 case round=>
  obtain⟨k,D,hwr,hk,rfl,rfl,HD⟩:=hrel;subst hwr;by_cases hlt:k<512
  ·have hlti:(k:Int)<512:=by omega
   have HLT:=aH hlt;have hds:D.size<=4096:=by rw[HD.out,bL_size,nR];omega
   obtain⟨E,hE⟩:=aE (D++bL n8);have HE:Hid (E=bL (sB (k+1))):=aH (by rw[hE,HD.out,bL_cat,nops_snoc]);have hE2:D++⟨#[31,32,3,213,31,32,3,213]⟩=E:=hE.symm;clear hE hlt hk;go_wp2_with fail
   exact⟨⟨k+1,E,trivial,by have:=HLT.out;omega,rfl,by go_num,HE⟩,by have h9:=HLT.out;simp[intOf];omega⟩
  ·obtain rfl:k=512:=by omega
   have hge:¬(512:Int)<512:=by omega
   have hds:D.size=4096:=by rw[HD.out,bL_size,nR]
   have hds0:¬D.size<4:=by omega
   clear hlt hk;go_wp2_with fail
   have hEe:(⟨#[0,0,0,148]⟩++D.extract 4 4096:ByteArray)=⟨gD.toArray⟩:=by
    have h1:D.extract 4 4096=bL ((sB 512).drop 4):=by
     rw[HD.out,<-bL_drop,nR]
    rw[h1];exact bL_cat [0,0,0,148] ((sB 512).drop 4)
   have hDe:D=⟨(sB 512).toArray⟩:=HD.out;rw[hEe,hDe];have hgl:gD.length=4096:=gD_len;have hnl:(sB 512).length=4096:=nR 512;have hgt:gD.take 4=[0,0,0,148]:=rfl;clear hEe hDe hds hds0 HD;generalize gD=a at*
   generalize sB 512=b at*
   have HA:=aH (And.intro hgl (And.intro hnl hgt));obtain⟨H,hH⟩:=aE wr.heap.size;have hL:=g_lies hgl hnl wr (HT.out.next HB3.out);rw[<-hH]at hL⊢;obtain⟨W5,hW5⟩:=aE ((((((wr.alloc (.cells #[.int .i64 0,.int .i64 2,.int .i64 2,.int .i64 0] 57)).alloc (.cells #[.string ⟨#[97]⟩,.int .i64 1,.bool false,.int .i64 0,.string ⟨a.toArray⟩,.slice (some ⟨H,0,none⟩) 1 1,.string ⟨#[98]⟩,.int .i64 1,.bool false,.int .i64 0,.string ⟨b.toArray⟩,.slice none 0 0,.string ⟨#[99]⟩,.int .i64 1,.bool false,.int .i64 0,.string ⟨#[192,3,95,214]⟩,.slice none 0 0] 55)).alloc (.cells #[.int .i64 0,.int .i64 1,.int .i64 2] 3)).alloc (.cells #[.int .i64 0,.int .i64 1,.int .i64 2] 3)).alloc (.cells #[.int .i64 0,.int .i64 0,.int .i64 0] 3)));have hb5:Below w.heap.size w W5:=by
    rw[hW5];exact after HB3.out (after (aC _ _) (after (aC _ _) (after (aC _ _) (after (aC _ _) (aC _ _)))))
   have hz5:W5.heap.size=H+1+1+1+1+1:=by rw[hW5,World.size_alloc,World.size_alloc,World.size_alloc,World.size_alloc,World.size_alloc,hH]
   rw[<-hW5]at hL⊢;obtain⟨W7,hW7⟩:=aE ((W5.alloc (.cells #[.slice (some ⟨H+1+1,0,none⟩) 3 3,.slice (some ⟨H+1+1+1,0,none⟩) 3 3,.slice (some ⟨H+1+1+1+1,0,none⟩) 3 3] 25)).alloc (.cells (fV 65536 33554432 67108864 8192) 28));have hb7:Below W5.heap.size W5 W7:=by rw[hW7];exact after (aC _ _) (aC _ _)
   have HB7:=aH (after hb5 hb7);have HL7:=aH (hL.next hb7);have HK7:Hid (RB W7 (H+1+1+1+1+1) #[.slice (some ⟨H+1+1,0,none⟩) 3 3,.slice (some ⟨H+1+1+1,0,none⟩) 3 3,.slice (some ⟨H+1+1+1+1,0,none⟩) 3 3] 25):=aH (by rw[hW7,<-hz5];exact(aQ _ _ _).next (aC _ _));have HPl:=aH (Plan_any (gP H) (gM a b H) [0,1,2] [0,1,2] [0,0,0] 65536 33554432 67108864 8192 W7 HL7.out (by omega) (by omega) (by omega) (by omega) (by omega) (by omega));rw[<-hW7];clear hH hL hW5 hb5 hz5 hW7 hb7 hgl hnl hgt;refine HPl.out.mono ?_;rintro e u4 hp;rcases hp with⟨-,x,rfl,hpv,hb4⟩|⟨hno,-,-⟩
   case inr=>exact absurd ⟨by decide+kernel,gS_is HA.out.1 HA.out.2.1 HA.out.2.2⟩ hno
   obtain⟨m,aA,nA,cA,aV,nV,cV,aW,nW,cW,hE1,rfl,ho1,ho2,ho3⟩:=hpv;obtain⟨q1,q2,q3,q4⟩:=gS_plan HA.out.1 HA.out.2.1;obtain rfl:m=1:=ends_one hE1 q1;have hst:aJ (gS a b) [0,1,2]=[0,1,2]:=rfl;rw[gM_sc,hst,q2,q3]at ho1;rw[gM_sc,hst,q2]at ho2;rw[gM_sc,hst,q2,q3,q4]at ho3;obtain⟨aA',cA',e9,hsA,-⟩:=SL.ofOwns encU_len (by decide) ho1;injection e9 with e1 e2 e3
   subst e1;subst e3;obtain⟨aV',cV',e9,hsV,-⟩:=SL.ofOwns pX (by decide) ho2;injection e9 with e4 e5 e6
   subst e4;subst e6;obtain⟨aW',cW',e9,hsW,-⟩:=SL.ofOwns encU_len (by decide) ho3;injection e9 with e7 e8 e10
   subst e7;subst e10;obtain rfl:nA=3:=hsA.len;obtain rfl:nV=1:=hsV.len;obtain rfl:nW=1:=hsW.len;obtain⟨X8,hX8⟩:=aE u4.heap.size;obtain⟨W8,hW8⟩:=aE (u4.alloc (.cells #[.slice aA 3 cA,.slice aV 1 cV,.slice aW 1 cW,.int .i64 2] 44));have hb8:Below u4.heap.size u4 W8:=by rw[hW8];exact aC _ _
   have HS8:Hid (SL encU 1 W8 W8.heap.size aA 3 [65536,69644,73740]/\SL gB 3 W8 W8.heap.size aV 1 [(0,2,0)]/\SL encU 1 W8 W8.heap.size aW 1 [69632]):=aH ⟨hsA.next hb8,hsV.next hb8,hsW.next hb8⟩;have HB8:=aH (after HB7.out (after hb4 hb8));have HK8:=aH (HK7.out.next (after hb4 hb8));have HP8:Hid (RB W8 X8 #[.slice aA 3 cA,.slice aV 1 cV,.slice aW 1 cW,.int .i64 2] 44):=aH (by rw[hW8,hX8];exact aQ _ _ _);have HGo:=aH (Goal_any (gP H) (gM a b H) [0,1,2] [0,1,2] [0,0,0] aA 3 cA [65536,69644,73740] aV 1 cV [(0,2,0)] aW 1 cW [69632] 2 0 0 W8 (HL7.out.next (after hb4 hb8)) HS8.out.1 HS8.out.2.1 HS8.out.2.2 g_v (by omega) (fun x hx=>by
    simp only[List.mem_cons,List.not_mem_nil,or_false]at hx;rcases hx with rfl|rfl|rfl<;>omega))
   have k0:W8.cell? ⟨H+1+1+1+1+1,0,none⟩=some (.slice (some ⟨H+1+1,0,none⟩) 3 3):=HK8.out.cell;have k1:W8.cell? ⟨H+1+1+1+1+1,1,none⟩=some (.slice (some ⟨H+1+1+1,0,none⟩) 3 3):=HK8.out.cell;have k2:W8.cell? ⟨H+1+1+1+1+1,2,none⟩=some (.slice (some ⟨H+1+1+1+1,0,none⟩) 3 3):=HK8.out.cell;rw[hW8]at k0 k1 k2;have HWe:=aH hW8.symm;have HXe:=aH hX8.symm;clear hE1 ho1 ho2 ho3 q1 q2 q3 q4 hst hsA hsV hsW e2 e5 e8 hW8 hX8 hb4 hb8 HPl;go_wp2_with fail
   rw[HWe.out,HXe.out];refine HGo.out.mono ?_;rintro e u9 hg;rcases hg with⟨f,hok,rfl,hb9⟩|⟨hno,-,-⟩
   case inr=>exact absurd (g_goal.2 (gS_is HA.out.1 HA.out.2.1 HA.out.2.2)) (hno gR)
   have hf:f=gR:=by
    have h1:=hok.2.2.2.2.2.1;rw[gM_sc]at h1;have h2:(bZ (gS a b) (0:Int).toNat)[(0:Int).toNat]?=some gR:=rfl;rw[h2]at h1;exact(Option.some.inj h1).symm
   have hv:mY (aJ ((gM a b H).map (·.sc)) [0,1,2]) [65536,69644,73740] [69632] [0,1,2] [(0,2,0)] (0:Int).toNat f=69632:=by
    rw[hf];rfl
   rw[hv];clear hok hf hv f;have HB9:=aH (after HB8.out hb9);have HP9:=aH (HP8.out.next hb9);have HS9:Hid (SL encU 1 u9 u9.heap.size aA 3 [65536,69644,73740]/\SL gB 3 u9 u9.heap.size aV 1 [(0,2,0)]/\SL encU 1 u9 u9.heap.size aW 1 [69632]):=aH ⟨HS8.out.1.next hb9,HS8.out.2.1.next hb9,HS8.out.2.2.next hb9⟩;obtain⟨⟨x0,x1,x2,x3⟩,-⟩:=fD HP9.out;clear hb9 k0 k1 k2 HGo;go_wp2_with fail
   obtain⟨V1,hV1⟩:=aE (u9.alloc (.cells #[.int .u64 65536,.int .u64 69644,.int .u64 73740] 26));obtain⟨V2,hV2⟩:=aE (V1.alloc (.cells #[.int .i64 0,.int .i64 2,.int .i64 0] 80));obtain⟨V3,hV3⟩:=aE (V2.alloc (.cells #[.int .u64 69632] 26));have hv1:Below u9.heap.size u9 V1:=by rw[hV1];exact aC _ _
   have hv2:Below V1.heap.size V1 V2:=by rw[hV2];exact aC _ _
   have hv3:Below V2.heap.size V2 V3:=by rw[hV3];exact aC _ _
   have hz1:V1.heap.size=u9.heap.size+1:=by rw[hV1,World.size_alloc]
   have hz2:V2.heap.size=u9.heap.size+1+1:=by rw[hV2,World.size_alloc,hz1]
   have hs1:SL encU 1 V1 V1.heap.size (some ⟨u9.heap.size,0,none⟩) 3 [65536,69644,73740]:=by
    rw[hV1,World.size_alloc];exact SL.lit u9 26 [65536,69644,73740] encU_len (by decide) _ rfl 3 rfl
   have hs2:SL gB 3 V2 V2.heap.size (some ⟨u9.heap.size+1,0,none⟩) 1 [(0,2,0)]:=by
    rw[hV2,World.size_alloc,<-hz1];exact SL.lit V1 80 [(0,2,0)] pX (by decide) _ rfl 1 rfl
   have hs3:SL encU 1 V3 V3.heap.size (some ⟨u9.heap.size+1+1,0,none⟩) 1 [69632]:=by
    rw[hV3,World.size_alloc,<-hz2];exact SL.lit V2 26 [69632] encU_len (by decide) _ rfl 1 rfl
   have hb3:=after hv1 (after hv2 hv3);have HSp:=aH (rK aA 3 cA [65536,69644,73740] aV 1 cV [(0,2,0)] aW 1 cW [69632] 2 (some ⟨u9.heap.size,0,none⟩) 3 3 [65536,69644,73740] (some ⟨u9.heap.size+1,0,none⟩) 1 1 [(0,2,0)] (some ⟨u9.heap.size+1+1,0,none⟩) 1 1 [69632] 2 V3 (by omega) (by omega) (HS9.out.1.next hb3) (HS9.out.2.1.next hb3) (HS9.out.2.2.next hb3) ((hs1.next hv2).next hv3) (hs2.next hv3) hs3);have HB3:=aH (after HB9.out hb3);rw[<-hV1,<-hV2,<-hV3];clear hV1 hV2 hV3 hv1 hv2 hv3 hz1 hz2 hs1 hs2 hs3 hb3 x0 x1 x2 x3;refine HSp.out.mono ?_;rintro e u10 ⟨rfl,hb10⟩;have HB10:=aH (after HB3.out hb10);have hd:(decide (([65536,69644,73740]:List Int)=[65536,69644,73740]) && decide (([(0,2,0)]:List Vn)=[(0,2,0)]) && decide (([69632]:List Int)=[69632]) && decide ((2:Int)=2))=true:=by decide
   rw[hd];clear hd hb10;go_wp2_with fail
   go_ret;exact⟨rfl,HB10.out⟩
end
end Go.Proofs.YtiohgaghmnpplaaGreatDoor
