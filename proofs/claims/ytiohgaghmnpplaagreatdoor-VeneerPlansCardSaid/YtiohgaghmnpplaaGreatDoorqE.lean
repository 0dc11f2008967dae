/- code.fields. code.fields, where a mask is told or a number is packed. code.Encode. code.Decode: a panic, recovered. which operations fit a kind. The tie of a table of rows of integers: what the row lists is what the cells hold. Nothing of the program. part.Fits. The row's five tables. part.number, part.bytes, fix.covers: a number's bytes, the lowest first. fix.covers. -/
import Derived.Test.YtiohgaghmnpplaaGreatDoorqA
import Derived.Test.YtiohgaghmnpplaaGreatDoorqC
import Derived.RegionTactic
import Derived.Test.YtiohgaghmnpplaaGreatDoorqD
import Derived.Defers
import Derived.Recover
import Derived.Laws.Pointers
import Derived.Lib.LaidTab
import Derived.ChangeArms
import Derived.Deep.MidRow
import Derived.Lib.Strings
import Derived.Laws.BytesArg
import Derived.Laws.IdiomStrings
set_option maxRecDepth 100000
set_option maxHeartbeats 8000000
set_option linter.unusedVariables false
set_option linter.unusedSimpArgs false
namespace Go.Proofs.YtiohgaghmnpplaaGreatDoor
section
open Go.RowKit
def oD (l:List F3):List Value:=l.flatMap fun f=>[.int .i64 f.1,.int .i64 f.2.1,.int .u32 f.2.2]
theorem cellsF_get (l:List F3)(k:Nat)(h:k<l.length):(oD l)[k*3]?=some (.int .i64 l[k].1)/\(oD l)[k*3+1]?=some (.int .i64 l[k].2.1)/\(oD l)[k*3+2]?=some (.int .u32 l[k].2.2):=by
 have g:=sF (enc:=fun f:F3=>[Value.int .i64 f.1,.int .i64 f.2.1,.int .u32 f.2.2]) (sz:=3) (fun _=>rfl) l k h;exact⟨(g 0 (by decide)).trans rfl,(g 1 (by decide)).trans rfl,(g 2 (by decide)).trans rfl⟩
theorem FS.lit (w:World)(T:TypeId)(l:List F3)(hwf:∀f∈l,0<=f.2.2/\f.2.2<4294967296/\ -9223372036854775808<=f.1/\f.1<=9223372036854775807/\ -9223372036854775808<=f.2.1/\f.2.1<=9223372036854775807)
  (cs:Array Value) (hcs:cs.toList=oD l) (B:Nat) (hB:w.heap.size=B):FS (w.alloc (.cells cs T)) (w.alloc (.cells cs T)).heap.size (some ⟨B,0,none⟩) l.length l:=by
 subst hB;refine⟨rfl,hwf,fun _=>⟨w.heap.size,0,rfl,by simp,fun k hk=>?_⟩⟩;have e:=(MapKept.heap_alloc w (.cells cs T)).1;have hc:∀j,(w.alloc (.cells cs T)).cell? ⟨w.heap.size,j,none⟩=(oD l)[j]?:=by
  intro j;unfold World.cell?;rw[e];simp only;rw[<-hcs];simp
 obtain⟨g0,g1,g2⟩:=cellsF_get l k hk;refine⟨?_,?_,?_⟩
 ·rw[show 0+k*3=k*3 from by omega,hc];exact g0
 ·rw[show 0+k*3+1=k*3+1 from by omega,hc];exact g1
 ·rw[show 0+k*3+2=k*3+2 from by omega,hc];exact g2
def RetF (l:List F3)(w:World)(e:Ending)(w':World):Prop:=
 ∃a c,e=.returned (.slice a l.length c)/\FS w' w'.heap.size a l.length l/\Below w.heap.size w w'
theorem wfF {l:List F3}(h1:mF l)(h2:∀f∈l,eG f.1 f.2.1=true):∀f∈l,0<=f.2.2/\f.2.2<4294967296/\ -9223372036854775808<=f.1/\f.1<=9223372036854775807/\ -9223372036854775808<=f.2.1/\f.2.1<=9223372036854775807:=by
 intro f hf;have a:=h1 f hf;have b:=h2 f hf;simp only[eG,decide_eq_true_eq]at b;have hp:=pP f.2.1 (by omega);omega
theorem bel4 (w:World)(a b c d:Obj):Below w.heap.size w ((((w.alloc a).alloc b).alloc c).alloc d):=
 ((((Below.refl w.heap.size w).alloc (Nat.le_refl _) _).alloc (by simp) _).alloc (by simp;omega) _).alloc (by simp;omega) _
theorem bel5 (w:World)(a b c d e:Obj):Below w.heap.size w (((((w.alloc a).alloc b).alloc c).alloc d).alloc e):=(bel4 w a b c d).alloc (by simp;omega) _
theorem siz4 (w:World)(a b c d:Obj):((((w.alloc a).alloc b).alloc c).alloc d).heap.size=w.heap.size+1+1+1+1:=by simp
theorem fields2 (o d n m a x k h t c:Int)(w:World)(hw:fH w)(hs:aF o=2)(hI:fM ⟨o,d,n,m,a,x,k,h,t,c⟩=true)(hi:InB ⟨o,d,n,m,a,x,k,h,t,c⟩):
  Calls Tryz.prog 67 #[dY ⟨o,d,n,m,a,x,k,h,t,c⟩] w (RetF (cJ 2 ⟨o,d,n,m,a,x,k,h,t,c⟩) w):=by
 have hf:=facts2 hs hI;have HWF:=aH (wfF (enc2 hs hI).1 (fG _ _ (apart_t 2 _ (by omega)).1));have HSh:Hid (∀w,fH w->Calls Tryz.prog 90 #[.int .i64 o] w (bQ (.int .i64 2) w)):=aH fun w h=>by have:=cU o w h.1;rwa[hs]at this
 have HT:=aH hw;clear hw hs hI hi;have tq:t.tdiv 12=t/12:=Int.tdiv_eq_ediv_of_nonneg (by omega);have TQ:=aH tq;clear tq;go_enter Tryz.func67,Tryz.ntmps67;go_wp2_with (first|(go_at_call 90;((with_reducible refine(HSh.out _ (HT.out.below (bel4 _ _ _ _ _))).mono ?_);rintro e w' ⟨rfl,rfl⟩)))
 go_ret;refine⟨some ⟨_,0,none⟩,_,rfl,?_,bel5 _ _ _ _ _ _⟩;refine FS.lit _ _ _ HWF.out _ ?_ _ (siz4 _ _ _ _ _);simp[oD,cJ,TQ.out]
theorem fields13 (o d n m a x k h t c:Int)(w:World)(hw:fH w)(hs:aF o=13)(hI:fM ⟨o,d,n,m,a,x,k,h,t,c⟩=true)(hi:InB ⟨o,d,n,m,a,x,k,h,t,c⟩):
  Calls Tryz.prog 67 #[dY ⟨o,d,n,m,a,x,k,h,t,c⟩] w (RetF (cJ 13 ⟨o,d,n,m,a,x,k,h,t,c⟩) w):=by
 have hf:=facts13 hs hI;have HWF:=aH (wfF (enc13 hs hI).1 (fG _ _ (apart_t 13 _ (by omega)).1));have HSh:Hid (∀w,fH w->Calls Tryz.prog 90 #[.int .i64 o] w (bQ (.int .i64 13) w)):=aH fun w h=>by have:=cU o w h.1;rwa[hs]at this
 have HT:=aH hw;clear hw hs hI hi;go_enter Tryz.func67,Tryz.ntmps67;go_wp2_with (first|(go_at_call 90;((with_reducible refine(HSh.out _ (HT.out.below (bel4 _ _ _ _ _))).mono ?_);rintro e w' ⟨rfl,rfl⟩)))
 go_ret;refine⟨some ⟨_,0,none⟩,_,rfl,?_,bel5 _ _ _ _ _ _⟩;refine FS.lit _ _ _ HWF.out _ ?_ _ (siz4 _ _ _ _ _);simp[oD,cJ]
theorem fields10 (o d n m a x k h t c:Int)(w:World)(hw:fH w)(hs:aF o=10)(hI:fM ⟨o,d,n,m,a,x,k,h,t,c⟩=true)(hi:InB ⟨o,d,n,m,a,x,k,h,t,c⟩):
  Calls Tryz.prog 67 #[dY ⟨o,d,n,m,a,x,k,h,t,c⟩] w (RetF (cJ 10 ⟨o,d,n,m,a,x,k,h,t,c⟩) w):=by
 have hf:=facts10 hs hI;have HWF:=aH (wfF (enc10 hs hI).1 (fG _ _ (apart_t 10 _ (by omega)).1));have HSh:Hid (∀w,fH w->Calls Tryz.prog 90 #[.int .i64 o] w (bQ (.int .i64 10) w)):=aH fun w h=>by have:=cU o w h.1;rwa[hs]at this
 have HT:=aH hw;have hx:=hi.imm;simp only[i64B]at hx;skip;have HP:Hid (∀w,Calls Tryz.prog 97 #[.int .i64 x,.int .i64 21] w (bQ (.int .u32 (nP x 21).1) w)):=aH fun w=>cpack_any _ _ w (by omega) (by omega)
 have hpb:0<=(nP x 21).1/\(nP x 21).1<4294967296:=by
  have h3:=rR (v:=x) (n:=21) (by decide) (by decide) (by simp only[Nat.reduceSub,Int.reducePow];omega) (by simp only[Nat.reduceSub,Int.reducePow];omega);simp only[Int.reducePow,Int.cast_ofNat_Int]at h3;omega
 have ha:=qR (nP x 21).1 2 hpb.1 hpb.2 (by decide) (by decide);simp only[Int.reduceToNat,Int.reducePow,Int.reduceSub]at ha;have HF:Hid (cJ 10 ⟨o,d,n,m,a,x,k,h,t,c⟩=[(0,5,d),(5,19,((nP x 21).1/4)),(29,2,((nP x 21).1%4))]):=aH rfl;generalize(nP x 21).1=p at*
 clear hw hs hI hi hx;go_enter Tryz.func67,Tryz.ntmps67;go_wp2_with (first|(go_at_call 90;((with_reducible refine(HSh.out _ (HT.out.below (bel4 _ _ _ _ _))).mono ?_);rintro e w' ⟨rfl,rfl⟩))|(go_at_call 97;((with_reducible refine(HP.out _).mono ?_);rintro e w' ⟨rfl,rfl⟩)))
 go_ret;refine⟨some ⟨_,0,none⟩,_,rfl,?_,?_⟩;rotate_left;first
 |exact bel5 _ _ _ _ _ _
 |exact(bel5 _ _ _ _ _ _).drew
 first
 |refine FS.next (FS.lit _ _ _ HWF.out _ ?_ _ (siz4 _ _ _ _ _)) (Below.refl _ _).drew
 |refine FS.lit _ _ _ HWF.out _ ?_ _ (siz4 _ _ _ _ _)
 rw[HF.out];simp[oD];try (rw[IntKind.wrap_u32];omega)
theorem fields_any (i:In)(w:World)(hw:fH w)(hI:fM i=true)(hi:InB i)(h3:aF i.op=2\/aF i.op=10\/aF i.op=13):Calls Tryz.prog 67 #[dY i] w (RetF (cJ (aF i.op).toNat i) w):=by
 obtain⟨o,d,n,m,a,x,k,h,t,c⟩:=i;simp only[]at h3⊢;rcases h3 with hs|hs|hs
 ·rw[hs];exact fields2 o d n m a x k h t c w hw hs hI hi
 ·rw[hs];exact fields10 o d n m a x k h t c w hw hs hI hi
 ·rw[hs];exact fields13 o d n m a x k h t c w hw hs hI hi
theorem fldS_len (s:Nat)(i:In):(cJ s i).length<=5:=by unfold cJ;split<;>simp
def encP (i:In):Int×Int:=if fM i=true then((encW i:Nat),0)else(0,1)
theorem oK (i:In)(w:World)(hw:fH w)(hi:InB i)(h3:aF i.op=2\/aF i.op=10\/aF i.op=13):Calls Tryz.prog 34 #[dY i] w (aP (two .u32 .i64 (encP i)) w):=by
 have HT:=aH hw;have HIs:Hid (∀w,fH w->Calls Tryz.prog 65 #[dY i] w (aP (.bool (fM i)) w)):=aH fun w h=>qU i w h.1 hi
 have hten:=Ten.made w i 74;obtain⟨X,hX⟩:=aE w.heap.size;obtain⟨W0,hW0⟩:=aE (w.alloc (.cells (lW i) 74));have hXl:X<W0.heap.size:=by rw[hX,hW0];simp
 rw[<-hW0,<-hX]at hten;have HW:Hid (Below w.heap.size w W0):=aH (by rw[hW0];exact(Below.refl _ w).alloc (Nat.le_refl _) _);have HA:=aH hten;have HEQ:=aH hW0;have HXQ:=aH hX;have HB:=aH (Below.refl W0.heap.size W0);have HTT:Hid (∀wx,Below W0.heap.size W0 wx->fH wx):=aH fun wx hb=>HT.out.below (HW.out.trans (hb.mono HW.out.size))
 clear hX hW0 hten hw;cases hI:fM i
 ·have HE:Hid (encP i=(0,1)):=aH (by unfold encP;rw[hI];rfl);rw[hI]at HIs;clear hI hi h3;generalize encP i=ep at*
  obtain⟨o,d,n,m,a,x,k,h,t,c⟩:=i;go_enter Tryz.func34,Tryz.ntmps34;go_wp2_with fail
  rw[<-HEQ.out];refine(HIs.out _ (HTT.out _ HB.out)).mono ?_;rintro e w1 ⟨rfl,hb⟩;replace HB:=aH (after HB.out hb);clear hb;go_wp2;go_ret2;exact⟨by rw[HE.out];rfl,HW.out.trans (HB.out.mono HW.out.size)⟩
 ·obtain⟨c0,hws,hor,hc0,hlt,-,-⟩:=encW_spec i hI hi.mask;have HE:Hid (encP i=(((encW i:Nat):Int),0)):=aH (by unfold encP;rw[hI];rfl);have HF:Hid (∀w,fH w->Calls Tryz.prog 67 #[dY i] w (RetF (cJ (aF i.op).toNat i) w)):=aH fun w h=>fields_any i w h hI hi h3
  have hl5:=fldS_len (aF i.op).toNat i;have ho:=code_op hI;obtain⟨kk,hkk⟩:=Int.eq_ofNat_of_zero_le (show 0<=i.op by omega);have hk39:kk<=39:=by omega
  have HBA:Hid (∀wx,Below W0.heap.size W0 wx->wx.cell? ⟨0,kk,none⟩=some (.int .u32 ((baN i.op:Nat):Int))):=aH fun wx hb=>by
   have:=(HTT.out wx hb).2.1.1 kk (by omega);rw[this,hkk];rfl
  have hor2:=u32_or_nat (baN i.op) c0 (by have:=(base_in ⟨kk,by omega⟩).2;simp only[<-hkk]at this;exact this) hc0;rw[hor]at hor2;rw[hI]at HIs;clear hI hi hor h3;generalize encP i=ep at*
  generalize encW i=ew at*
  generalize baN i.op=ba at*
  generalize cJ (aF i.op).toNat i=l at*
  have HWd:Hid (∀w a c,FS w w.heap.size a l.length l->Calls Tryz.prog 66 #[.slice a l.length c] w (aP (.tuple #[.int .u32 c0,.int .i64 0]) w)):=aH fun w a c h=>by
   have:=word_any a l.length c l w (by omega) h;rwa[hws]at this
  clear hws hl5;generalize hn0:l.length=n0 at*
  obtain⟨o,d,n,m,a,x,k,h,t,c⟩:=i;simp only[]at hkk ho;subst hkk;go_enter Tryz.func34,Tryz.ntmps34;go_wp2_with fail
  rw[<-HEQ.out,<-HXQ.out];refine(HIs.out _ (HTT.out _ HB.out)).mono ?_;rintro e w1 ⟨rfl,hb⟩;replace HB:=aH (after HB.out hb);clear hb;obtain⟨a0,a1,a2,a3,a4,a5,a6,a7,a8,a9⟩:=HA.out.below HB.out hXl;go_wp2_with (first
   |(go_at_call 67;((with_reducible refine(HF.out _ (HTT.out _ HB.out)).mono ?_);rintro e w2 ⟨fa,fc,rfl,hfs,hb⟩;rw[hn0]at hfs⊢;have HFS:=aH hfs;replace HB:=aH (after HB.out hb);clear hb hfs))
   |(go_at_call 66;((with_reducible refine(HWd.out _ _ _ HFS.out).mono ?_);rintro e w3 ⟨rfl,hb⟩;replace HB:=aH (after HB.out hb);clear hb;have hcell:=HBA.out _ HB.out;clear a0 a1 a2 a3 a4 a5 a6 a7 a8 a9;obtain⟨a0,a1,a2,a3,a4,a5,a6,a7,a8,a9⟩:=HA.out.below HB.out hXl)))
  go_ret2;exact⟨by rw[HE.out];rfl,HW.out.trans (HB.out.mono HW.out.size)⟩
theorem jT {w:World}{b o:Nat}{x:Value}{cs:Array Value}{T:TypeId}{fr:Nat×Nat}(hb:w.heap[b]?=some (.cells cs T fr)):(w.setCell ⟨b,o,none⟩ x).heap[b]?=some (.cells (cs.setIfInBounds o x) T fr):=by
 simp[World.setCell,Array.getElem?_modify,hb]
theorem cC {w:World}{b c o:Nat}{x:Value}(h:c≠b):(w.setCell ⟨b,o,none⟩ x).heap[c]?=w.heap[c]?:=Below.heap_setCell _ _ _ _ h
abbrev mQ (w:World)(B:Nat)(i:In):World:=
 ((((((((((w.setCell ⟨B,0,none⟩ (.int .i64 i.op)).setCell ⟨B,1,none⟩ (.int .i64 i.d)).setCell ⟨B,2,none⟩ (.int .i64 i.n)).setCell ⟨B,3,none⟩ (.int .i64 i.m)).setCell ⟨B,4,none⟩ (.int .i64 i.a)).setCell ⟨B,5,none⟩ (.int .i64 i.imm)).setCell ⟨B,6,none⟩ (.int .u64 i.mask)).setCell ⟨B,7,none⟩ (.int .i64 i.shift)).setCell ⟨B,8,none⟩ (.int .i64 i.amount)).setCell ⟨B,9,none⟩ (.int .i64 i.cond))
theorem kA {w:World}{B:Nat}{i j:In}{T:TypeId}(h:w.heap[B]?=some (.cells (lW j) T (0,0))):(mQ w B i).heap[B]?=some (.cells (lW i) T (0,0)):=by
 have h0:(w.setCell ⟨B,0,none⟩ (.int .i64 i.op)).heap[B]?=some (.cells #[.int .i64 i.op,.int .i64 j.d,.int .i64 j.n,.int .i64 j.m,.int .i64 j.a,.int .i64 j.imm,.int .u64 j.mask,.int .i64 j.shift,.int .i64 j.amount,.int .i64 j.cond] T (0,0)):=jT h;have h1:((w.setCell ⟨B,0,none⟩ (.int .i64 i.op)).setCell ⟨B,1,none⟩ (.int .i64 i.d)).heap[B]?=some (.cells #[.int .i64 i.op,.int .i64 i.d,.int .i64 j.n,.int .i64 j.m,.int .i64 j.a,.int .i64 j.imm,.int .u64 j.mask,.int .i64 j.shift,.int .i64 j.amount,.int .i64 j.cond] T (0,0)):=jT h0;have h2:(((w.setCell ⟨B,0,none⟩ (.int .i64 i.op)).setCell ⟨B,1,none⟩ (.int .i64 i.d)).setCell ⟨B,2,none⟩ (.int .i64 i.n)).heap[B]?=some (.cells #[.int .i64 i.op,.int .i64 i.d,.int .i64 i.n,.int .i64 j.m,.int .i64 j.a,.int .i64 j.imm,.int .u64 j.mask,.int .i64 j.shift,.int .i64 j.amount,.int .i64 j.cond] T (0,0)):=jT h1;have h3:((((w.setCell ⟨B,0,none⟩ (.int .i64 i.op)).setCell ⟨B,1,none⟩ (.int .i64 i.d)).setCell ⟨B,2,none⟩ (.int .i64 i.n)).setCell ⟨B,3,none⟩ (.int .i64 i.m)).heap[B]?=some (.cells #[.int .i64 i.op,.int .i64 i.d,.int .i64 i.n,.int .i64 i.m,.int .i64 j.a,.int .i64 j.imm,.int .u64 j.mask,.int .i64 j.shift,.int .i64 j.amount,.int .i64 j.cond] T (0,0)):=jT h2;have h4:(((((w.setCell ⟨B,0,none⟩ (.int .i64 i.op)).setCell ⟨B,1,none⟩ (.int .i64 i.d)).setCell ⟨B,2,none⟩ (.int .i64 i.n)).setCell ⟨B,3,none⟩ (.int .i64 i.m)).setCell ⟨B,4,none⟩ (.int .i64 i.a)).heap[B]?=some (.cells #[.int .i64 i.op,.int .i64 i.d,.int .i64 i.n,.int .i64 i.m,.int .i64 i.a,.int .i64 j.imm,.int .u64 j.mask,.int .i64 j.shift,.int .i64 j.amount,.int .i64 j.cond] T (0,0)):=jT h3;have h5:((((((w.setCell ⟨B,0,none⟩ (.int .i64 i.op)).setCell ⟨B,1,none⟩ (.int .i64 i.d)).setCell ⟨B,2,none⟩ (.int .i64 i.n)).setCell ⟨B,3,none⟩ (.int .i64 i.m)).setCell ⟨B,4,none⟩ (.int .i64 i.a)).setCell ⟨B,5,none⟩ (.int .i64 i.imm)).heap[B]?=some (.cells #[.int .i64 i.op,.int .i64 i.d,.int .i64 i.n,.int .i64 i.m,.int .i64 i.a,.int .i64 i.imm,.int .u64 j.mask,.int .i64 j.shift,.int .i64 j.amount,.int .i64 j.cond] T (0,0)):=jT h4;have h6:(((((((w.setCell ⟨B,0,none⟩ (.int .i64 i.op)).setCell ⟨B,1,none⟩ (.int .i64 i.d)).setCell ⟨B,2,none⟩ (.int .i64 i.n)).setCell ⟨B,3,none⟩ (.int .i64 i.m)).setCell ⟨B,4,none⟩ (.int .i64 i.a)).setCell ⟨B,5,none⟩ (.int .i64 i.imm)).setCell ⟨B,6,none⟩ (.int .u64 i.mask)).heap[B]?=some (.cells #[.int .i64 i.op,.int .i64 i.d,.int .i64 i.n,.int .i64 i.m,.int .i64 i.a,.int .i64 i.imm,.int .u64 i.mask,.int .i64 j.shift,.int .i64 j.amount,.int .i64 j.cond] T (0,0)):=jT h5;have h7:((((((((w.setCell ⟨B,0,none⟩ (.int .i64 i.op)).setCell ⟨B,1,none⟩ (.int .i64 i.d)).setCell ⟨B,2,none⟩ (.int .i64 i.n)).setCell ⟨B,3,none⟩ (.int .i64 i.m)).setCell ⟨B,4,none⟩ (.int .i64 i.a)).setCell ⟨B,5,none⟩ (.int .i64 i.imm)).setCell ⟨B,6,none⟩ (.int .u64 i.mask)).setCell ⟨B,7,none⟩ (.int .i64 i.shift)).heap[B]?=some (.cells #[.int .i64 i.op,.int .i64 i.d,.int .i64 i.n,.int .i64 i.m,.int .i64 i.a,.int .i64 i.imm,.int .u64 i.mask,.int .i64 i.shift,.int .i64 j.amount,.int .i64 j.cond] T (0,0)):=jT h6;have h8:(((((((((w.setCell ⟨B,0,none⟩ (.int .i64 i.op)).setCell ⟨B,1,none⟩ (.int .i64 i.d)).setCell ⟨B,2,none⟩ (.int .i64 i.n)).setCell ⟨B,3,none⟩ (.int .i64 i.m)).setCell ⟨B,4,none⟩ (.int .i64 i.a)).setCell ⟨B,5,none⟩ (.int .i64 i.imm)).setCell ⟨B,6,none⟩ (.int .u64 i.mask)).setCell ⟨B,7,none⟩ (.int .i64 i.shift)).setCell ⟨B,8,none⟩ (.int .i64 i.amount)).heap[B]?=some (.cells #[.int .i64 i.op,.int .i64 i.d,.int .i64 i.n,.int .i64 i.m,.int .i64 i.a,.int .i64 i.imm,.int .u64 i.mask,.int .i64 i.shift,.int .i64 i.amount,.int .i64 j.cond] T (0,0)):=jT h7;have h9:((((((((((w.setCell ⟨B,0,none⟩ (.int .i64 i.op)).setCell ⟨B,1,none⟩ (.int .i64 i.d)).setCell ⟨B,2,none⟩ (.int .i64 i.n)).setCell ⟨B,3,none⟩ (.int .i64 i.m)).setCell ⟨B,4,none⟩ (.int .i64 i.a)).setCell ⟨B,5,none⟩ (.int .i64 i.imm)).setCell ⟨B,6,none⟩ (.int .u64 i.mask)).setCell ⟨B,7,none⟩ (.int .i64 i.shift)).setCell ⟨B,8,none⟩ (.int .i64 i.amount)).setCell ⟨B,9,none⟩ (.int .i64 i.cond)).heap[B]?=some (.cells #[.int .i64 i.op,.int .i64 i.d,.int .i64 i.n,.int .i64 i.m,.int .i64 i.a,.int .i64 i.imm,.int .u64 i.mask,.int .i64 i.shift,.int .i64 i.amount,.int .i64 i.cond] T (0,0)):=jT h8;exact h9
theorem jF {w:World}{B c:Nat}{i:In}(h:c≠B):(mQ w B i).heap[c]?=w.heap[c]?:=by
 unfold mQ;rw[cC h,cC h,cC h,cC h,cC h,cC h,cC h,cC h,cC h,cC h]
theorem jG {w w0:World}{B:Nat}{i:In}(h:Below w0.heap.size w0 w)(hB:w0.heap.size<=B):Below w0.heap.size w0 (mQ w B i):=by
 unfold mQ;exact aZ (aZ (aZ (aZ (aZ (aZ (aZ (aZ (aZ (aZ h hB) hB) hB) hB) hB) hB) hB) hB) hB) hB
theorem nC (B C:Nat)(j:In)(y:Int)(u:TypeId)(pv:Value)(older:List PanicEntry)(w:World)(h1:w.heap[B]?=some (.cells (lW j) 74 (0,0)))(h2:w.heap[C]?=some (.cells #[.int .i64 y] 32 (0,0)))(hBC:B≠C):
  CallsD Tryz.prog 199 #[.pointer (some ⟨B,0,none⟩),.pointer (some ⟨C,0,none⟩)] (.panicking ({ v:=.iface u pv,recovered:=false } :: older)) w fun e u' w'=>
   e=.returned (.tuple #[])/\u'=.panicking ({ v:=.iface u pv,recovered:=true } :: older)/\w'=(mQ w B inZ).setCell ⟨C,0,none⟩ (.int .i64 11):=by
 refine callsD_of_wpS Tryz.func199 rfl fun c₀ cs hu=>?_
 apply wpS_seq;apply wpS_region;simp[wpOpsS,go_sem,recoverD,hu,Tryz.ntmps199,Exit.thenS];refine wpS_cond (t:=true) (by simp[Act.eval,Array.replicate]) ?_;simp only[if_true];have c0:w.cell? ⟨B,0,none⟩=some (.int .i64 j.op):=bY h1;have q0:w.frozen? ⟨B,0,none⟩=false:=dC h1;have c1:w.cell? ⟨B,1,none⟩=some (.int .i64 j.d):=bY h1;have q1:w.frozen? ⟨B,1,none⟩=false:=dC h1;have c2:w.cell? ⟨B,2,none⟩=some (.int .i64 j.n):=bY h1;have q2:w.frozen? ⟨B,2,none⟩=false:=dC h1;have c3:w.cell? ⟨B,3,none⟩=some (.int .i64 j.m):=bY h1;have q3:w.frozen? ⟨B,3,none⟩=false:=dC h1;have c4:w.cell? ⟨B,4,none⟩=some (.int .i64 j.a):=bY h1;have q4:w.frozen? ⟨B,4,none⟩=false:=dC h1;have c5:w.cell? ⟨B,5,none⟩=some (.int .i64 j.imm):=bY h1;have q5:w.frozen? ⟨B,5,none⟩=false:=dC h1;have c6:w.cell? ⟨B,6,none⟩=some (.int .u64 j.mask):=bY h1;have q6:w.frozen? ⟨B,6,none⟩=false:=dC h1;have c7:w.cell? ⟨B,7,none⟩=some (.int .i64 j.shift):=bY h1;have q7:w.frozen? ⟨B,7,none⟩=false:=dC h1;have c8:w.cell? ⟨B,8,none⟩=some (.int .i64 j.amount):=bY h1;have q8:w.frozen? ⟨B,8,none⟩=false:=dC h1;have c9:w.cell? ⟨B,9,none⟩=some (.int .i64 j.cond):=bY h1;have q9:w.frozen? ⟨B,9,none⟩=false:=dC h1;have e0:w.cell? ⟨C,0,none⟩=some (.int .i64 y):=bY h2;have e1:w.frozen? ⟨C,0,none⟩=false:=dC h2;refine wpS_of_wp ?_;go_wp2;cases c₀
 simp_all[bodyPostS,results,Tryz.results199]
theorem catch_idle (B C:Nat)(w:World):CallsD Tryz.prog 199 #[.pointer (some ⟨B,0,none⟩),.pointer (some ⟨C,0,none⟩)] .returning w fun e u' w'=>e=.returned (.tuple #[])/\u'=.returning/\w'=w:=by
 refine callsD_of_wpS Tryz.func199 rfl fun c₀ cs hu=>?_
 apply wpS_seq;apply wpS_region;simp[wpOpsS,go_sem,recoverD,hu,Tryz.ntmps199,Exit.thenS];refine wpS_cond (t:=false) (by simp[Act.eval,Array.replicate]) ?_;simp only[Bool.false_eq_true,if_false];refine wpS_of_wp (wp_skip ?_);cases c₀
 simp_all[bodyPostS,results,Tryz.results199]
theorem cP {w w':World}{Z E:Array Value}{T U:TypeId}(hb:Below ((w.alloc (.cells Z T)).alloc (.cells E U)).heap.size ((w.alloc (.cells Z T)).alloc (.cells E U)) w'):
  w'.heap[w.heap.size]?=some (.cells Z T (0,0))/\w'.heap[w.heap.size+1]?=some (.cells E U (0,0))/\Below w.heap.size w w':=by
 have:=pZ (a:=0) (b:=0) (w:=w) (w':=w') (Z:=Z) (I:=E) (T:=T) (U:=U) hb;exact this
abbrev out2 (p:In×Int):Value:=.tuple #[dY p.1,.int .i64 p.2]
theorem CDecode_no (x:Nat)(hx:x<4294967296)(w:World)(hw:fH w)(h:noI x):Calls Tryz.prog 175 #[.int .u32 x] w (aP (out2 (inZ,11)) w):=by
 have hmf:∀(fn:Fn) (first cap:Array Value) (w:World),(Instr.makeFunc fn first cap).run Tryz.prog w=.ok (.func fn first cap) w:=fun _ _ _ _=>rfl
 have hZ:∀w,(zeroValue 74).run Tryz.prog w=.ok (.agg (lW inZ)) w:=fun w=>by kernel_rfl
 have hE:∀w,(zeroValue 32).run Tryz.prog w=.ok (.int .i64 0) w:=fun w=>by kernel_rfl
 have HT:=aH hw;have HW:Hid (∀w,fH w->Calls Tryz.prog 200 #[.int .u32 x] w (Throws w)):=aH fun w hw=>winst_no x hx w hw h
 have HB2:Hid (Below w.heap.size w ((w.alloc (.cells (lW inZ) 74)).alloc (.cells #[.int .i64 0] 32))):=aH (aT (aT (Below.refl _ _) _) _);clear hw h;go_enter_defers Tryz.func175,Tryz.ntmps175;go_wp2_with (go_at_call 200;((with_reducible refine(HW.out _ (HT.out.below HB2.out)).mono ?_);rintro e w2 ⟨rfl,hb⟩;obtain⟨hz,he,hbw⟩:=cP hb))
 refine leaves_cons (f:=199) (args:=#[.pointer (some ⟨w.heap.size,0,none⟩),.pointer (some ⟨w.heap.size+1,0,none⟩)]) (by simp) (by simp[go_sem]) ?_;refine(nC w.heap.size (w.heap.size+1) inZ 0 _ _ [] _ hz he (by omega)).mono ?_;rintro e u' w4 ⟨rfl,rfl,hw4⟩;have hB4:w4.heap[w.heap.size]?=some (.cells (lW inZ) 74 (0,0)):=by rw[hw4,cC (by omega)];exact kA hz
 have hC4:w4.heap[w.heap.size+1]?=some (.cells #[.int .i64 11] 32 (0,0)):=by
  rw[hw4];exact jT (o:=0) (x:=.int .i64 11) ((jF (i:=inZ) (by omega)).trans he)
 have hb4:Below w.heap.size w w4:=by rw[hw4];exact aZ (jG hbw (Nat.le_refl _)) (by omega)
 have b0:w4.cell? ⟨w.heap.size,0,none⟩=some (.int .i64 0):=bY hB4;have b1:w4.cell? ⟨w.heap.size,1,none⟩=some (.int .i64 0):=bY hB4;have b2:w4.cell? ⟨w.heap.size,2,none⟩=some (.int .i64 0):=bY hB4;have b3:w4.cell? ⟨w.heap.size,3,none⟩=some (.int .i64 0):=bY hB4;have b4:w4.cell? ⟨w.heap.size,4,none⟩=some (.int .i64 0):=bY hB4;have b5:w4.cell? ⟨w.heap.size,5,none⟩=some (.int .i64 0):=bY hB4;have b6:w4.cell? ⟨w.heap.size,6,none⟩=some (.int .u64 0):=bY hB4;have b7:w4.cell? ⟨w.heap.size,7,none⟩=some (.int .i64 0):=bY hB4;have b8:w4.cell? ⟨w.heap.size,8,none⟩=some (.int .i64 0):=bY hB4;have b9:w4.cell? ⟨w.heap.size,9,none⟩=some (.int .i64 0):=bY hB4;have d0:w4.cell? ⟨w.heap.size+1,0,none⟩=some (.int .i64 11):=bY hC4;simp[Leaves,settle,results,Tryz.results175,go_sem,b0,b1,b2,b3,b4,b5,b6,b7,b8,b9,d0];exact⟨rfl,hb4⟩
theorem readW_inB (x:Nat)(hx:x<4294967296):InB (bH x):=by
 have hm:=decW_mask (iK x:Nat) (aF (iK x:Nat)).toNat x;have ho:i64B ((iK x:Nat):Int):=by
  have:=opW_or x;unfold i64B;omega
 have z:i64B 0:=by unfold i64B;omega
 have f:∀a n,n<=32->i64B (fw x a n):=fun a n h=>by have:=iM x a n h;unfold i64B;omega
 have f16:i64B (16*fw x 21 2):=by have:=iM x 21 2 (by decide);unfold i64B;omega
 have f12:i64B (12*fw x 22 1):=by have:=iM x 22 1 (by decide);unfold i64B;omega
 have f8:i64B (8*fw x 10 12):=by have:=iM x 10 12 (by decide);unfold i64B;omega
 have s9:i64B (4*(jB (fw x 5 19) 19).1):=by
  have h:=bB x 5 19;have:=sgn19 (v:=fw x 5 19) (by simpa using h);unfold i64B;omega
 have s10:i64B (4*(jB (fw x 5 19) 19).1+fw x 29 2):=by
  have h:=bB x 5 19;have:=sgn19 (v:=fw x 5 19) (by simpa using h);have:=iM x 29 2 (by decide);unfold i64B;omega
 have s11:i64B (4*(jB (fw x 0 26) 26).1):=by
  have h:=bB x 0 26;have:=sgn26 (v:=fw x 0 26) (by simpa using h);unfold i64B;omega
 unfold bH at*
 generalize(aF (iK x:Nat)).toNat=s at*
 refine⟨?_,?_,?_,?_,?_,?_,hm,?_,?_,?_⟩;all_goals
  unfold cH;split
 all_goals first|exact ho|exact z|exact f16|exact f12|exact f8|exact s9|exact s10|exact s11|exact f _ _ (by decide)
theorem CDecode_wrong (x:Nat)(hx:x<4294967296)(w:World)(hw:fH w)(h:¬noI x)(hI:fM (bH x)=false):Calls Tryz.prog 175 #[.int .u32 x] w (aP (out2 (inZ,11)) w):=by
 have hmf:∀(fn:Fn) (first cap:Array Value) (w:World),(Instr.makeFunc fn first cap).run Tryz.prog w=.ok (.func fn first cap) w:=fun _ _ _ _=>rfl
 have hZ:∀w,(zeroValue 74).run Tryz.prog w=.ok (.agg (lW inZ)) w:=fun w=>by kernel_rfl
 have hE:∀w,(zeroValue 32).run Tryz.prog w=.ok (.int .i64 0) w:=fun w=>by kernel_rfl
 have HT:=aH hw;have HW:Hid (∀w,fH w->Calls Tryz.prog 200 #[.int .u32 x] w (aP (dY (bH x)) w)):=aH fun w hw=>winst_yes x hx w hw h
 have HIs:Hid (∀w,fH w->Calls Tryz.prog 65 #[dY (bH x)] w (aP (.bool false) w)):=aH fun w hw=>by
  have:=qU (bH x) w hw.1 (readW_inB x hx);rwa[hI]at this
 have HB2:Hid (Below w.heap.size w ((w.alloc (.cells (lW inZ) 74)).alloc (.cells #[.int .i64 0] 32))):=aH (aT (aT (Below.refl _ _) _) _);clear hw h hI;generalize bH x=r at*
 obtain⟨o,d,n,m,a,xx,k,hh,t,c⟩:=r;go_enter_defers Tryz.func175,Tryz.ntmps175;go_wp2_with (first
  |(go_at_call 200;((with_reducible refine(HW.out _ (HT.out.below HB2.out)).mono ?_);rintro e w2 ⟨rfl,hb⟩;obtain⟨hz,he,hbw⟩:=cP hb;clear hb;have z0:w2.cell? ⟨w.heap.size,0,none⟩=some (.int .i64 0):=bY hz;have y0:w2.frozen? ⟨w.heap.size,0,none⟩=false:=dC hz;have z1:w2.cell? ⟨w.heap.size,1,none⟩=some (.int .i64 0):=bY hz;have y1:w2.frozen? ⟨w.heap.size,1,none⟩=false:=dC hz;have z2:w2.cell? ⟨w.heap.size,2,none⟩=some (.int .i64 0):=bY hz;have y2:w2.frozen? ⟨w.heap.size,2,none⟩=false:=dC hz;have z3:w2.cell? ⟨w.heap.size,3,none⟩=some (.int .i64 0):=bY hz;have y3:w2.frozen? ⟨w.heap.size,3,none⟩=false:=dC hz;have z4:w2.cell? ⟨w.heap.size,4,none⟩=some (.int .i64 0):=bY hz;have y4:w2.frozen? ⟨w.heap.size,4,none⟩=false:=dC hz;have z5:w2.cell? ⟨w.heap.size,5,none⟩=some (.int .i64 0):=bY hz;have y5:w2.frozen? ⟨w.heap.size,5,none⟩=false:=dC hz;have z6:w2.cell? ⟨w.heap.size,6,none⟩=some (.int .u64 0):=bY hz;have y6:w2.frozen? ⟨w.heap.size,6,none⟩=false:=dC hz;have z7:w2.cell? ⟨w.heap.size,7,none⟩=some (.int .i64 0):=bY hz;have y7:w2.frozen? ⟨w.heap.size,7,none⟩=false:=dC hz;have z8:w2.cell? ⟨w.heap.size,8,none⟩=some (.int .i64 0):=bY hz;have y8:w2.frozen? ⟨w.heap.size,8,none⟩=false:=dC hz;have z9:w2.cell? ⟨w.heap.size,9,none⟩=some (.int .i64 0):=bY hz;have y9:w2.frozen? ⟨w.heap.size,9,none⟩=false:=dC hz;have hz3:=kA (i:=⟨o,d,n,m,a,xx,k,hh,t,c⟩) hz;have he3:=(jF (w:=w2) (B:=w.heap.size) (c:=w.heap.size+1) (i:=⟨o,d,n,m,a,xx,k,hh,t,c⟩) (by omega)).trans he;have hbw3:=jG (i:=⟨o,d,n,m,a,xx,k,hh,t,c⟩) hbw (Nat.le_refl _)))
  |(go_at_call 65;((with_reducible refine(HIs.out _ (HT.out.below hbw3)).mono ?_);rintro e w3 ⟨rfl,hb⟩;have hlt:w.heap.size+1<(mQ w2 w.heap.size ⟨o,d,n,m,a,xx,k,hh,t,c⟩).heap.size:=(gH he3).1;replace hz:=(hb.block w.heap.size (by omega)).trans hz3;replace he:=(hb.block (w.heap.size+1) hlt).trans he3;replace hbw:=hbw3.trans (hb.mono hbw3.size);clear hb hz3 he3 hbw3 hlt;have g0:w3.cell? ⟨w.heap.size,0,none⟩=some (.int .i64 o):=bY hz;have l0:w3.frozen? ⟨w.heap.size,0,none⟩=false:=dC hz;have g1:w3.cell? ⟨w.heap.size,1,none⟩=some (.int .i64 d):=bY hz;have l1:w3.frozen? ⟨w.heap.size,1,none⟩=false:=dC hz;have g2:w3.cell? ⟨w.heap.size,2,none⟩=some (.int .i64 n):=bY hz;have l2:w3.frozen? ⟨w.heap.size,2,none⟩=false:=dC hz;have g3:w3.cell? ⟨w.heap.size,3,none⟩=some (.int .i64 m):=bY hz;have l3:w3.frozen? ⟨w.heap.size,3,none⟩=false:=dC hz;have g4:w3.cell? ⟨w.heap.size,4,none⟩=some (.int .i64 a):=bY hz;have l4:w3.frozen? ⟨w.heap.size,4,none⟩=false:=dC hz;have g5:w3.cell? ⟨w.heap.size,5,none⟩=some (.int .i64 xx):=bY hz;have l5:w3.frozen? ⟨w.heap.size,5,none⟩=false:=dC hz;have g6:w3.cell? ⟨w.heap.size,6,none⟩=some (.int .u64 k):=bY hz;have l6:w3.frozen? ⟨w.heap.size,6,none⟩=false:=dC hz;have g7:w3.cell? ⟨w.heap.size,7,none⟩=some (.int .i64 hh):=bY hz;have l7:w3.frozen? ⟨w.heap.size,7,none⟩=false:=dC hz;have g8:w3.cell? ⟨w.heap.size,8,none⟩=some (.int .i64 t):=bY hz;have l8:w3.frozen? ⟨w.heap.size,8,none⟩=false:=dC hz;have g9:w3.cell? ⟨w.heap.size,9,none⟩=some (.int .i64 c):=bY hz;have l9:w3.frozen? ⟨w.heap.size,9,none⟩=false:=dC hz;have g10:w3.cell? ⟨w.heap.size+1,0,none⟩=some (.int .i64 0):=bY he;have l10:w3.frozen? ⟨w.heap.size+1,0,none⟩=false:=dC he)))
 refine leaves_cons (f:=199) (args:=#[.pointer (some ⟨w.heap.size,0,none⟩),.pointer (some ⟨w.heap.size+1,0,none⟩)]) (by simp) (by simp[go_sem]) ?_;refine(nC w.heap.size (w.heap.size+1) ⟨o,d,n,m,a,xx,k,hh,t,c⟩ 0 _ _ [] _ hz he (by omega)).mono ?_;rintro e u' w4 ⟨rfl,rfl,hw4⟩;have hB4:w4.heap[w.heap.size]?=some (.cells (lW inZ) 74 (0,0)):=by rw[hw4,cC (by omega)];exact kA hz
 have hC4:w4.heap[w.heap.size+1]?=some (.cells #[.int .i64 11] 32 (0,0)):=by
  rw[hw4];exact jT (o:=0) (x:=.int .i64 11) ((jF (i:=inZ) (by omega)).trans he)
 have hb4:Below w.heap.size w w4:=by rw[hw4];exact aZ (jG hbw (Nat.le_refl _)) (by omega)
 have b0:w4.cell? ⟨w.heap.size,0,none⟩=some (.int .i64 0):=bY hB4;have b1:w4.cell? ⟨w.heap.size,1,none⟩=some (.int .i64 0):=bY hB4;have b2:w4.cell? ⟨w.heap.size,2,none⟩=some (.int .i64 0):=bY hB4;have b3:w4.cell? ⟨w.heap.size,3,none⟩=some (.int .i64 0):=bY hB4;have b4:w4.cell? ⟨w.heap.size,4,none⟩=some (.int .i64 0):=bY hB4;have b5:w4.cell? ⟨w.heap.size,5,none⟩=some (.int .i64 0):=bY hB4;have b6:w4.cell? ⟨w.heap.size,6,none⟩=some (.int .u64 0):=bY hB4;have b7:w4.cell? ⟨w.heap.size,7,none⟩=some (.int .i64 0):=bY hB4;have b8:w4.cell? ⟨w.heap.size,8,none⟩=some (.int .i64 0):=bY hB4;have b9:w4.cell? ⟨w.heap.size,9,none⟩=some (.int .i64 0):=bY hB4;have d0:w4.cell? ⟨w.heap.size+1,0,none⟩=some (.int .i64 11):=bY hC4;simp[Leaves,settle,results,Tryz.results175,go_sem,b0,b1,b2,b3,b4,b5,b6,b7,b8,b9,d0];exact⟨rfl,hb4⟩
theorem CDecode_yes (x:Nat)(hx:x<4294967296)(w:World)(hw:fH w)(h:¬noI x)(hI:fM (bH x)=true):Calls Tryz.prog 175 #[.int .u32 x] w (aP (out2 (bH x,0)) w):=by
 have hmf:∀(fn:Fn) (first cap:Array Value) (w:World),(Instr.makeFunc fn first cap).run Tryz.prog w=.ok (.func fn first cap) w:=fun _ _ _ _=>rfl
 have hZ:∀w,(zeroValue 74).run Tryz.prog w=.ok (.agg (lW inZ)) w:=fun w=>by kernel_rfl
 have hE:∀w,(zeroValue 32).run Tryz.prog w=.ok (.int .i64 0) w:=fun w=>by kernel_rfl
 have HT:=aH hw;have HW:Hid (∀w,fH w->Calls Tryz.prog 200 #[.int .u32 x] w (aP (dY (bH x)) w)):=aH fun w hw=>winst_yes x hx w hw h
 have HIs:Hid (∀w,fH w->Calls Tryz.prog 65 #[dY (bH x)] w (aP (.bool true) w)):=aH fun w hw=>by
  have:=qU (bH x) w hw.1 (readW_inB x hx);rwa[hI]at this
 have HB2:Hid (Below w.heap.size w ((w.alloc (.cells (lW inZ) 74)).alloc (.cells #[.int .i64 0] 32))):=aH (aT (aT (Below.refl _ _) _) _);clear hw h hI;generalize bH x=r at*
 obtain⟨o,d,n,m,a,xx,k,hh,t,c⟩:=r;go_enter_defers Tryz.func175,Tryz.ntmps175;go_wp2_with (first
  |(go_at_call 200;((with_reducible refine(HW.out _ (HT.out.below HB2.out)).mono ?_);rintro e w2 ⟨rfl,hb⟩;obtain⟨hz,he,hbw⟩:=cP hb;clear hb;have z0:w2.cell? ⟨w.heap.size,0,none⟩=some (.int .i64 0):=bY hz;have y0:w2.frozen? ⟨w.heap.size,0,none⟩=false:=dC hz;have z1:w2.cell? ⟨w.heap.size,1,none⟩=some (.int .i64 0):=bY hz;have y1:w2.frozen? ⟨w.heap.size,1,none⟩=false:=dC hz;have z2:w2.cell? ⟨w.heap.size,2,none⟩=some (.int .i64 0):=bY hz;have y2:w2.frozen? ⟨w.heap.size,2,none⟩=false:=dC hz;have z3:w2.cell? ⟨w.heap.size,3,none⟩=some (.int .i64 0):=bY hz;have y3:w2.frozen? ⟨w.heap.size,3,none⟩=false:=dC hz;have z4:w2.cell? ⟨w.heap.size,4,none⟩=some (.int .i64 0):=bY hz;have y4:w2.frozen? ⟨w.heap.size,4,none⟩=false:=dC hz;have z5:w2.cell? ⟨w.heap.size,5,none⟩=some (.int .i64 0):=bY hz;have y5:w2.frozen? ⟨w.heap.size,5,none⟩=false:=dC hz;have z6:w2.cell? ⟨w.heap.size,6,none⟩=some (.int .u64 0):=bY hz;have y6:w2.frozen? ⟨w.heap.size,6,none⟩=false:=dC hz;have z7:w2.cell? ⟨w.heap.size,7,none⟩=some (.int .i64 0):=bY hz;have y7:w2.frozen? ⟨w.heap.size,7,none⟩=false:=dC hz;have z8:w2.cell? ⟨w.heap.size,8,none⟩=some (.int .i64 0):=bY hz;have y8:w2.frozen? ⟨w.heap.size,8,none⟩=false:=dC hz;have z9:w2.cell? ⟨w.heap.size,9,none⟩=some (.int .i64 0):=bY hz;have y9:w2.frozen? ⟨w.heap.size,9,none⟩=false:=dC hz;have hz3:=kA (i:=⟨o,d,n,m,a,xx,k,hh,t,c⟩) hz;have he3:=(jF (w:=w2) (B:=w.heap.size) (c:=w.heap.size+1) (i:=⟨o,d,n,m,a,xx,k,hh,t,c⟩) (by omega)).trans he;have hbw3:=jG (i:=⟨o,d,n,m,a,xx,k,hh,t,c⟩) hbw (Nat.le_refl _)))
  |(go_at_call 65;((with_reducible refine(HIs.out _ (HT.out.below hbw3)).mono ?_);rintro e w3 ⟨rfl,hb⟩;have hlt:w.heap.size+1<(mQ w2 w.heap.size ⟨o,d,n,m,a,xx,k,hh,t,c⟩).heap.size:=(gH he3).1;replace hz:=(hb.block w.heap.size (by omega)).trans hz3;replace he:=(hb.block (w.heap.size+1) hlt).trans he3;replace hbw:=hbw3.trans (hb.mono hbw3.size);clear hb hz3 he3 hbw3 hlt;have g0:w3.cell? ⟨w.heap.size,0,none⟩=some (.int .i64 o):=bY hz;have l0:w3.frozen? ⟨w.heap.size,0,none⟩=false:=dC hz;have g1:w3.cell? ⟨w.heap.size,1,none⟩=some (.int .i64 d):=bY hz;have l1:w3.frozen? ⟨w.heap.size,1,none⟩=false:=dC hz;have g2:w3.cell? ⟨w.heap.size,2,none⟩=some (.int .i64 n):=bY hz;have l2:w3.frozen? ⟨w.heap.size,2,none⟩=false:=dC hz;have g3:w3.cell? ⟨w.heap.size,3,none⟩=some (.int .i64 m):=bY hz;have l3:w3.frozen? ⟨w.heap.size,3,none⟩=false:=dC hz;have g4:w3.cell? ⟨w.heap.size,4,none⟩=some (.int .i64 a):=bY hz;have l4:w3.frozen? ⟨w.heap.size,4,none⟩=false:=dC hz;have g5:w3.cell? ⟨w.heap.size,5,none⟩=some (.int .i64 xx):=bY hz;have l5:w3.frozen? ⟨w.heap.size,5,none⟩=false:=dC hz;have g6:w3.cell? ⟨w.heap.size,6,none⟩=some (.int .u64 k):=bY hz;have l6:w3.frozen? ⟨w.heap.size,6,none⟩=false:=dC hz;have g7:w3.cell? ⟨w.heap.size,7,none⟩=some (.int .i64 hh):=bY hz;have l7:w3.frozen? ⟨w.heap.size,7,none⟩=false:=dC hz;have g8:w3.cell? ⟨w.heap.size,8,none⟩=some (.int .i64 t):=bY hz;have l8:w3.frozen? ⟨w.heap.size,8,none⟩=false:=dC hz;have g9:w3.cell? ⟨w.heap.size,9,none⟩=some (.int .i64 c):=bY hz;have l9:w3.frozen? ⟨w.heap.size,9,none⟩=false:=dC hz;have g10:w3.cell? ⟨w.heap.size+1,0,none⟩=some (.int .i64 0):=bY he;have l10:w3.frozen? ⟨w.heap.size+1,0,none⟩=false:=dC he)))
 clear z0 z1 z2 z3 z4 z5 z6 z7 z8 z9 y0 y1 y2 y3 y4 y5 y6 y7 y8 y9 g0 g1 g2 g3 g4 g5 g6 g7 g8 g9 g10 l0 l1 l2 l3 l4 l5 l6 l7 l8 l9 l10;have hB5:((mQ w3 w.heap.size ⟨o,d,n,m,a,xx,k,hh,t,c⟩).setCell ⟨w.heap.size+1,0,none⟩ (.int .i64 0)).heap[w.heap.size]?=some (.cells (lW ⟨o,d,n,m,a,xx,k,hh,t,c⟩) 74 (0,0)):=by rw[cC (by omega)];exact kA hz
 have hC5:((mQ w3 w.heap.size ⟨o,d,n,m,a,xx,k,hh,t,c⟩).setCell ⟨w.heap.size+1,0,none⟩ (.int .i64 0)).heap[w.heap.size+1]?=some (.cells #[.int .i64 0] 32 (0,0)):=
  jT (o:=0) (x:=.int .i64 0) ((jF (i:=⟨o,d,n,m,a,xx,k,hh,t,c⟩) (by omega)).trans he)
 have hb5:Below w.heap.size w ((mQ w3 w.heap.size ⟨o,d,n,m,a,xx,k,hh,t,c⟩).setCell ⟨w.heap.size+1,0,none⟩ (.int .i64 0)):=aZ (jG hbw (Nat.le_refl _)) (by omega);generalize((mQ w3 w.heap.size ⟨o,d,n,m,a,xx,k,hh,t,c⟩).setCell ⟨w.heap.size+1,0,none⟩ (.int .i64 0))=w5 at*
 refine leaves_cons (f:=199) (args:=#[.pointer (some ⟨w.heap.size,0,none⟩),.pointer (some ⟨w.heap.size+1,0,none⟩)]) (by simp) (by simp[go_sem]) ?_;refine(catch_idle w.heap.size (w.heap.size+1) _).mono ?_;rintro e u' w4 ⟨rfl,rfl,hw4⟩;rw[<-hw4]at hB5 hC5 hb5;have hB4:=hB5;have hC4:=hC5;have hb4:=hb5;have b0:w4.cell? ⟨w.heap.size,0,none⟩=some (.int .i64 o):=bY hB4;have b1:w4.cell? ⟨w.heap.size,1,none⟩=some (.int .i64 d):=bY hB4;have b2:w4.cell? ⟨w.heap.size,2,none⟩=some (.int .i64 n):=bY hB4;have b3:w4.cell? ⟨w.heap.size,3,none⟩=some (.int .i64 m):=bY hB4;have b4:w4.cell? ⟨w.heap.size,4,none⟩=some (.int .i64 a):=bY hB4;have b5:w4.cell? ⟨w.heap.size,5,none⟩=some (.int .i64 xx):=bY hB4;have b6:w4.cell? ⟨w.heap.size,6,none⟩=some (.int .u64 k):=bY hB4;have b7:w4.cell? ⟨w.heap.size,7,none⟩=some (.int .i64 hh):=bY hB4;have b8:w4.cell? ⟨w.heap.size,8,none⟩=some (.int .i64 t):=bY hB4;have b9:w4.cell? ⟨w.heap.size,9,none⟩=some (.int .i64 c):=bY hB4;have d0:w4.cell? ⟨w.heap.size+1,0,none⟩=some (.int .i64 0):=bY hC4;simp[Leaves,settle,results,Tryz.results175,go_sem,b0,b1,b2,b3,b4,b5,b6,b7,b8,b9,d0];exact⟨rfl,hb4⟩
theorem CDecode_any (x:Nat)(hx:x<4294967296)(w:World)(hw:fH w):Calls Tryz.prog 175 #[.int .u32 x] w (aP (out2 (dI x)) w):=by
 unfold dI;rcases noI_or x with h|h
 ·rw[noI_not h,if_neg (by decide)];exact CDecode_no x hx w hw h
 ·cases hI:fM (bH x)
  ·rw[if_neg (by decide)];exact CDecode_wrong x hx w hw h hI
  ·rw[if_pos rfl];exact CDecode_yes x hx w hw h hI
end
section
open Go.ChangeShapes Go.WideShapes Go.Deep Go.RowKit
def mI:List (List Int):=[[0,0,0],[0,0,0],[29,30,0],[31,32,33],[26,0,0],[27,0,0],[28,0,0],[4,0,0],[22,23,0],[24,25,0]]
def fitK (kind:Int):List Int:=if kind<0\/9<kind then []else mI.getD kind.toNat []
def dL (kind:Int)(i:In):Bool:=fM i&&i.imm==0&&i.amount==0&&(fitK kind).any (· ==i.op)
end
section
open Go.RowKit
def rowData {H:Type}(k:IntKind)(zs:List (List Int)):DataW H:=.agg (zs.map fun z=>Lib.tabData k z)
def oG (P:Program)(w:World)(name:String)(k:IntKind)(zs:List (List Int)):Prop:=w.var? P name=some ((zs.map fun z=>z.map fun x=>Value.int k x).flatten).toArray
theorem rows_eq {α:Type}(m:Nat):∀(rs:List (List α)) (cs:List α),cs.length=rs.length*m->(∀(i:Nat) (h:i<rs.length),(cs.drop (i*m)).take m=rs[i])->cs=rs.flatten:=by
 intro rs;induction rs with
 |nil=>
  intro cs h _;rw[List.length_nil,Nat.zero_mul]at h;rw[List.eq_nil_of_length_eq_zero h];rfl
 |cons r rs ih=>
  intro cs hl h;rw[List.length_cons,Nat.succ_mul]at hl;have h0:=h 0 (by simp);rw[Nat.zero_mul,List.drop_zero,List.getElem_cons_zero]at h0;have h1:=ih (cs.drop m) (by rw[List.length_drop];omega) (fun i hi=>by
   have:=h (i+1) (by simpa using hi);rw[List.getElem_cons_succ]at this;rw[List.drop_drop,<-this,Nat.succ_mul,Nat.add_comm])
  rw[List.flatten_cons,<-h0,<-h1,List.take_append_drop]
theorem cells_of_rows {H:Type}{enc:TypeId×Value->H}{P:Program}{w:World}{base:Nat}{sp:Nat->Bool}{held:Bool}{fuel:Nat}{t e x:TypeId}{n m:Nat}{k:IntKind}{cs:List Value}{zs:List (List Int)}{p:List MemPlace}
  (ht:P.underlying t=some (.array n e)) (he:P.underlying e=some (.array m x)) (hx:P.underlying x=some (.int k)) (hcx:P.cellsOf x=1) (hce:P.cellsOf e=m) (hct:P.cellsOf t=n*m)
  (h:DataW.trod enc P w base sp held fuel t cs=some (rowData k zs,p)):cs=(zs.map fun z=>z.map fun x=>Value.int k x).flatten:=by
 match fuel,h with
 |0,h=>simp[DataW.trod]at h
 |f+1,h=>
  simp only[DataW.trod,ht,hce,hct]at h;split at h
  case isFalse=>cases h
  case isTrue hl=>
   obtain⟨xs,hm,hy⟩:=Option.map_eq_some_iff.1 h;have h1:xs.map (·.1)=zs.map fun z=>(Lib.tabData k z:DataW H):=by simpa[rowData]using congrArg Prod.fst hy
   have hxl:xs.length=n:=by simpa using Lib.mapM_length hm
   have hzl:zs.length=n:=by simpa[hxl]using(congrArg List.length h1).symm
   refine rows_eq m _ cs (by rw[hl,List.length_map,hzl]) fun i hi=>?_
   rw[List.length_map,hzl]at hi;obtain⟨b,hb,hf⟩:=Lib.mapM_at hm i i (by simp[hi]);have c2:(xs.map (·.1))[i]?=some b.1:=by simp[hb]
   rw[h1,List.getElem?_map,Option.map_eq_some_iff]at c2;obtain⟨z,hz,hzz⟩:=c2;have hb2:b=(Lib.tabData k z,b.2):=by rw[hzz]
   rw[hb2]at hf;have:=Lib.cells_of_tab he hx hcx hce hf;rw[this,List.getElem_map];have hzi:zs[i]'(by omega)=z:=by
    have:=iS (l:=zs) (i:=i) (by omega);rw[this]at hz;exact Option.some.inj hz
   rw[hzi]
theorem rowsIs_of_head {P:Program}{W:World}{name:String}{k:IntKind}{zs:List (List Int)}{rest:List (String×DataW Unit)}{g:Nat}{t e x:TypeId}{n m:Nat}
  (hg:P.globalNamed name=some g) (hty:(P.globals[g]?).map (·.type)=some t) (ht:P.underlying t=some (.array n e)) (he:P.underlying e=some (.array m x)) (hx:P.underlying x=some (.int k)) (hcx:P.cellsOf x=1) (hce:P.cellsOf e=m) (hct:P.cellsOf t=n*m)
  (h:laidMet P ((name,rowData k zs) :: rest) W):oG P W name k zs:=by
 obtain⟨ps,⟨g',t',cs,fuel,p,q,hg',ht',hvar,hd,_,_⟩,_⟩:=h;have e1:=Option.some.inj (hg.symm.trans hg');subst e1;have e2:=Option.some.inj (hty.symm.trans ht');subst e2;rw[oG,hvar,<-cells_of_rows ht he hx hcx hce hct hd]
theorem oG.cell {P:Program}{W:World}{name:String}{k:IntKind}{zs:List (List Int)}{g:Nat}(h:oG P W name k zs)(hg:P.globalNamed name=some g)(i:Nat)(v:Value)(hi:((zs.map fun z=>z.map fun x=>Value.int k x).flatten)[i]?=some v):
  W.cell? ⟨g,i,none⟩=some v:=by
 have:=World.var?_cell hg h i;simp only[List.getElem?_toArray]at this;rw[this];exact hi
def fitF:List Int:=[0,0,0,0,0,0,29,30,0,31,32,33,26,0,0,27,0,0,28,0,0,4,0,0,22,23,0,24,25,0]
abbrev Fitting (w:World):Prop:=∀j,j<30->w.cell? ⟨2,j,none⟩=some (.int .i64 (fitF.getD j 0))
abbrev Tab7 (w:World):Prop:=fH w/\Fitting w/\2<w.heap.size
theorem Tab7.below {w w':World}(h:Tab7 w)(hb:Below w.heap.size w w'):Tab7 w':=
 ⟨h.1.below hb,fun j hj=>by rw[hb.cell (p:=⟨2,j,none⟩) h.2.2];exact h.2.1 j hj,Nat.lt_of_lt_of_le h.2.2 hb.size⟩
theorem jFi:Tryz.prog.globalNamed "cleat/part.fitting" =some 2:=by kernel_rfl
theorem tab7_of {w:World}(h6:fH w)(hf:oG Tryz.prog w "cleat/part.fitting" .i64 mI):Tab7 w:=by
 have hc:∀j:Fin 30,((mI.map fun z=>z.map fun x=>Value.int .i64 x).flatten)[j.val]?=some (.int .i64 (fitF.getD j.val 0)):=fun⟨j,hj⟩=>by
  have hcs:j=0\/j=1\/j=2\/j=3\/j=4\/j=5\/j=6\/j=7\/j=8\/j=9\/j=10\/j=11\/j=12\/j=13\/j=14\/j=15\/j=16\/j=17\/j=18\/j=19\/j=20\/j=21\/j=22\/j=23\/j=24\/j=25\/j=26\/j=27\/j=28\/j=29:=by omega
  rcases hcs with rfl|rfl|rfl|rfl|rfl|rfl|rfl|rfl|rfl|rfl|rfl|rfl|rfl|rfl|rfl|rfl|rfl|rfl|rfl|rfl|rfl|rfl|rfl|rfl|rfl|rfl|rfl|rfl|rfl|rfl<;>rfl
 exact⟨h6,fun j hj=>hf.cell jFi j _ (hc ⟨j,hj⟩),bM (hf.cell jFi 0 _ (hc ⟨0,by decide⟩))⟩
theorem fit_row (k:Nat)(hk:k<=9):∃a b c:Int,fitF.getD (3*k) 0=a/\fitF.getD (3*k+1) 0=b/\fitF.getD (3*k+2) 0=c/\fitK (k:Int)=[a,b,c]:=by
 have hc:k=0\/k=1\/k=2\/k=3\/k=4\/k=5\/k=6\/k=7\/k=8\/k=9:=by omega
 rcases hc with rfl|rfl|rfl|rfl|rfl|rfl|rfl|rfl|rfl|rfl<;>exact⟨_,_,_,rfl,rfl,rfl,rfl⟩
theorem range3 {w:World}{g o:Nat}{a b c:Int}(h0:w.cell? ⟨g,o,none⟩=some (.int .i64 a))(h1:w.cell? ⟨g,o+1,none⟩=some (.int .i64 b))(h2:w.cell? ⟨g,o+2,none⟩=some (.int .i64 c)):w.rangeAt g o [.int .i64 a,.int .i64 b,.int .i64 c]:=by
 intro j v hj;match j,hj with
 |0,hj=>cases hj;exact h0
 |1,hj=>cases hj;exact h1
 |2,hj=>cases hj;exact h2
theorem fits_low (kind:Int)(x:Nat)(w:World)(h:kind<0):Calls Tryz.prog 139 #[.int .i64 kind,.int .u32 x] w (aP (.bool false) w):=by
 go_enter Tryz.func139,Tryz.ntmps139;go_wp2;go_ret;exact aB rfl (Below.refl _ _)
theorem fits_high (kind:Int)(x:Nat)(w:World)(h:9<kind)(h63:kind<=9223372036854775807):Calls Tryz.prog 139 #[.int .i64 kind,.int .u32 x] w (aP (.bool false) w):=by
 have h0:¬kind<0:=by omega
 go_enter Tryz.func139,Tryz.ntmps139;go_wp2;go_ret;exact aB rfl (Below.refl _ _)
theorem fits_no (kind:Int)(x:Nat)(w:World)(h0:0<=kind)(h9:kind<=9)(hx:x<4294967296)(hw:Tab7 w)(hI:fM (bH x)=false):Calls Tryz.prog 139 #[.int .i64 kind,.int .u32 x] w (aP (.bool false) w):=by
 have HD:Hid (∀w,Tab7 w->Calls Tryz.prog 175 #[.int .u32 x] w (aP (.tuple #[dY inZ,.int .i64 11]) w)):=aH fun w h=>by
  have:=CDecode_any x hx w h.1;rwa[show dI x=(inZ,11)from by unfold dI;rw[hI];rfl]at this
 have HT:=aH hw;clear hw hI;have HB:=aH (Below.refl w.heap.size w);go_enter Tryz.func139,Tryz.ntmps139;go_wp2_with (go_at_call 175;((with_reducible refine(HD.out _ (HT.out.below HB.out)).mono ?_);rintro e w1 ⟨rfl,hb⟩;replace HB:=aH (after HB.out hb);clear hb))
 go_ret;exact aB rfl (aT HB.out _)
theorem fits_yes (k:Nat)(x:Nat)(w:World)(h9:k<=9)(hx:x<4294967296)(hw:Tab7 w)(hI:fM (bH x)=true):Calls Tryz.prog 139 #[.int .i64 (k:Int),.int .u32 x] w (aP (.bool (dL (k:Int) (bH x))) w):=by
 have HD:Hid (∀w,Tab7 w->Calls Tryz.prog 175 #[.int .u32 x] w (aP (.tuple #[dY (bH x),.int .i64 0]) w)):=aH fun w h=>by
  have:=CDecode_any x hx w h.1;rwa[show dI x=(bH x,0)from by unfold dI;rw[hI];rfl]at this
 obtain⟨r0,r1,r2,e0,e1,e2,er⟩:=fit_row k h9;have HE:Hid (dL (k:Int) (bH x)=((bH x).imm==0&&((bH x).amount==0&&(r0==(bH x).op||(r1==(bH x).op||r2==(bH x).op))))):=aH (by unfold dL;rw[hI,er];simp[Bool.and_assoc]);have HC:Hid (∀w,Tab7 w->w.rangeAt 2 (k*3) [.int .i64 r0,.int .i64 r1,.int .i64 r2]):=aH fun w h=>by
  rw[Nat.mul_comm];exact range3 (by rw[h.2.1 (3*k) (by omega),e0]) (by rw[h.2.1 (3*k+1) (by omega),e1]) (by rw[h.2.1 (3*k+2) (by omega),e2])
 have hsz:(Tryz.prog.info? 221).map (·.size)=some 3:=by kernel_rfl
 have HSZ:=aH hsz;have HT:=aH hw;have i0:∀w,(Instr.index 221 (.agg #[.int .i64 r0,.int .i64 r1,.int .i64 r2]) (.int .i64 0)).run Tryz.prog w=.ok (.int .i64 r0) w:=fun _=>by kernel_rfl
 have i1:∀w,(Instr.index 221 (.agg #[.int .i64 r0,.int .i64 r1,.int .i64 r2]) (.int .i64 1)).run Tryz.prog w=.ok (.int .i64 r1) w:=fun _=>by kernel_rfl
 have i2:∀w,(Instr.index 221 (.agg #[.int .i64 r0,.int .i64 r1,.int .i64 r2]) (.int .i64 2)).run Tryz.prog w=.ok (.int .i64 r2) w:=fun _=>by kernel_rfl
 clear hw hI e0 e1 e2 er hsz;generalize bH x=i at*
 obtain⟨o,d,n,m,a,y,kk,hh,t,c⟩:=i;simp only[]at HE;have HB:=aH (Below.refl w.heap.size w);cases g0:(y==0)
 ·have HE2:Hid (dL (k:Int) ⟨o,d,n,m,a,y,kk,hh,t,c⟩=false):=aH (by rw[HE.out,g0];rfl);clear HE HC HSZ i0 i1 i2;have g0':(y !=0)=true:=by simp[bne,g0]
  go_enter Tryz.func139,Tryz.ntmps139;go_wp2_with (go_at_call 175;((with_reducible refine(HD.out _ (HT.out.below HB.out)).mono ?_);rintro e w1 ⟨rfl,hb⟩;replace HB:=aH (after HB.out hb);clear hb))
  go_ret;exact aB (by rw[HE2.out]) (aT HB.out _)
 ·obtain rfl:y=0:=eq_of_beq g0;clear g0;cases g0:(t==0)
  ·have HE2:Hid (dL (k:Int) ⟨o,d,n,m,a,0,kk,hh,t,c⟩=false):=aH (by rw[HE.out,g0];rfl);clear HE HC HSZ i0 i1 i2;have g0':(t !=0)=true:=by simp[bne,g0]
   go_enter Tryz.func139,Tryz.ntmps139;go_wp2_with (go_at_call 175;((with_reducible refine(HD.out _ (HT.out.below HB.out)).mono ?_);rintro e w1 ⟨rfl,hb⟩;replace HB:=aH (after HB.out hb);clear hb))
   go_ret;exact aB (by rw[HE2.out]) (aT HB.out _)
  ·obtain rfl:t=0:=eq_of_beq g0;clear g0;have HE2:Hid (dL (k:Int) ⟨o,d,n,m,a,0,kk,hh,0,c⟩=(r0==o||(r1==o||r2==o))):=aH (by rw[HE.out];rfl);clear HE;cases q0:(r0==o)<;>cases q1:(r1==o)<;>cases q2:(r2==o)
   all_goals
    rw[q0,q1,q2]at HE2;go_enter Tryz.func139,Tryz.ntmps139;go_wp2_with (first
     |(go_at_call 175;((with_reducible refine(HD.out _ (HT.out.below HB.out)).mono ?_);rintro e w1 ⟨rfl,hb⟩;replace HB:=aH (after HB.out hb);clear hb))
     |(refine wpList_load_mid rfl 221 _ rfl 2 (k*3) rfl [.int .i64 r0,.int .i64 r1,.int .i64 r2] _ (HC.out _ (HT.out.below (aT HB.out _))) Tryz.underlying221 rfl HSZ.out ?_))
    refine wp_loop_rounds 4 ?_;rw[rounds_succ];go_wp2;iterate 3 (all_goals (try (rw[rounds_succ];go_wp2)))
    all_goals
     go_ret;exact aB (by rw[HE2.out];rfl) (aT HB.out _)
theorem Fits_any (kind:Int)(x:Nat)(w:World)(k0 : -9223372036854775808<=kind)(k1:kind<=9223372036854775807)(hx:x<4294967296)(hw:Tab7 w):Calls Tryz.prog 139 #[.int .i64 kind,.int .u32 x] w (aP (.bool (dL kind (bH x))) w):=by
 by_cases h0:kind<0
 ·rw[show dL kind (bH x)=false from by unfold dL fitK;rw[if_pos (.inl h0)];simp];exact fits_low kind x w h0
 by_cases h9:9<kind
 ·rw[show dL kind (bH x)=false from by unfold dL fitK;rw[if_pos (.inr h9)];simp];exact fits_high kind x w h9 k1
 obtain⟨k,rfl⟩:=Int.eq_ofNat_of_zero_le (show 0<=kind by omega);cases hI:fM (bH x)
 ·rw[show dL (k:Int) (bH x)=false from by unfold dL;rw[hI];rfl];exact fits_no _ x w (by omega) (by omega) hx hw hI
 ·exact fits_yes k x w (by omega) hx hw hI
theorem tabs7_of {w:World}(h64:Lib.TabIs Tryz.prog w "math/bits.deBruijn64tab" .u8 [0,1,56,2,57,49,28,3,61,58,42,50,38,29,17,4,62,47,59,36,45,43,51,22,53,39,33,30,24,18,12,5,63,55,48,27,60,41,37,16,46,35,44,21,52,32,23,11,54,26,40,15,34,20,31,10,25,14,19,9,13,8,7,6])
  (hs:Lib.TabIs Tryz.prog w "cleat/inst.shapes" .i64 shL) (hb:Lib.TabIs Tryz.prog w "cleat/code.bases" .u32 baI) (hl:Lib.TabIs Tryz.prog w "cleat/code.loose" .u32 loI) (hf:oG Tryz.prog w "cleat/part.fitting" .i64 mI):Tab7 w:=tab7_of (tabs_of h64 hs hb hl) hf
def qJ:List UInt8->Nat
 | []=>0
 |b :: r=>b.toNat+256*qJ r
def leB:Nat->Nat->List UInt8
 |0,_=>[]
 |n+1,v=>UInt8.ofNat v :: leB n (v/256)
theorem leB_len (n v:Nat):(leB n v).length=n:=by
 induction n generalizing v with
 |zero=>rfl
 |succ n ih=>rw[leB,List.length_cons,ih]
theorem leV_lt (l:List UInt8):qJ l<256^l.length:=by
 induction l with
 |nil=>decide
 |cons b r ih=>
  have:=b.toNat_lt;rw[qJ,List.length_cons,Nat.pow_succ];omega
theorem leV_snoc (l:List UInt8)(b:UInt8):qJ (l++ [b])=qJ l+b.toNat*256^l.length:=by
 induction l with
 |nil=>simp[qJ]
 |cons a r ih=>
  rw[List.cons_append,qJ,ih,qJ,List.length_cons,Nat.pow_succ,Nat.mul_add,<-Nat.add_assoc];congr 1;rw[Nat.mul_left_comm,Nat.mul_comm 256]
theorem pow256 (k:Nat):(256:Nat)^k=2^(8*k):=by rw[Nat.pow_mul]
theorem or_byte (u b k:Nat)(hu:u<256^k)(hb:b<256)(hk:k<=7):
  bits BinOp.or IntKind.u64 (u:Int) (IntKind.u64.wrap ((b:Int)*2^(8*k)))=((u+b*256^k:Nat):Int):=by
 have h1:(256:Nat)^k<=256^7:=Nat.pow_le_pow_right (by decide) hk;have h2:b*256^k<=255*256^k:=Nat.mul_le_mul_right _ (by omega);have h3:(256:Nat)^7=72057594037927936:=by decide
 rw[h3]at h1;rw[pow256]at hu h1 h2⊢;have e:IntKind.u64.wrap ((b:Int)*2^(8*k))=((b*2^(8*k):Nat):Int):=by
  rw[IntKind.wrap_u64,Int.natCast_mul,bD,Int.emod_eq_of_lt]
  ·rw[<-bD,<-Int.natCast_mul];omega
  ·rw[<-bD,<-Int.natCast_mul];omega
 rw[e,u64_or_nat _ _ (by omega) (by omega)];congr 1;rw[Nat.or_comm,Nat.mul_comm b,<-Nat.two_pow_add_eq_or_of_lt hu,Nat.add_comm]
theorem fwrap_byte (b:UInt8):IntKind.u64.wrap (b.toNat:Int)=(b.toNat:Int):=by
 have:=b.toNat_lt;rw[IntKind.wrap_u64,Int.emod_eq_of_lt (by omega) (by omega)]
theorem ftake_snoc (D:ByteArray)(k:Nat)(h:k<D.size):D.data.toList.take (k+1)=D.data.toList.take k++ [D[k]]:=by
 rw[List.take_succ_eq_append_getElem (by simpa using h)];rfl
theorem fnumber_any (D:ByteArray)(w:World)(hs:D.size<=8):Calls Tryz.prog 140 #[.string D] w (bQ (.int .u64 ((qJ D.data.toList:Nat):Int)) w):=by
 go_enter Tryz.func140,Tryz.ntmps140;go_wp2;go_loop [3,7] (fun v i=>∃k:Nat,k<=D.size/\i=.int .i64 k/\v=.int .u64 ((qJ (D.data.toList.take k):Nat):Int)) (fun _ i=>D.size-(intOf i).toNat)
 case atStart=>exact⟨0,by omega,rfl,rfl⟩
 case round=>
  obtain⟨k,hk,rfl,rfl⟩:=hrel;have hl:(D.data.toList.take k).length=k:=by rw[List.length_take,Array.length_toList];have:D.data.size=D.size:=rfl;omega
  by_cases hlt:k<D.size
  ·have hu:=leV_lt (D.data.toList.take k);rw[hl]at hu;have HS:Hid (qJ (D.data.toList.take (k+1))=qJ (D.data.toList.take k)+D[k].toNat*256^k):=aH (by rw[ftake_snoc D k hlt,leV_snoc,hl]);have HO:=aH (or_byte (qJ (D.data.toList.take k)) D[k].toNat k hu D[k].toNat_lt (by omega));generalize qJ (D.data.toList.take k)=u at*
   clear hl hu;go_wp2;go_round
   case rel=>exact⟨k+1,by omega,by go_num,by rw[fwrap_byte,HS.out,<-HO.out]⟩
   case measure=>simp[intOf];omega
  ·have HE:Hid (D.data.toList.take k=D.data.toList):=aH (List.take_of_length_le (by rw[Array.length_toList];have:D.data.size=D.size:=rfl;omega));clear hl;go_wp2;go_ret;exact bK (by rw[HE.out])
end
end Go.Proofs.YtiohgaghmnpplaaGreatDoor
