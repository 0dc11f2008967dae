/- The document's objects: the reference's Put of an object. -/
import Derived.Test.YthkolmebokfagaaGreatDoorr3
import Derived.Test.YthkolmebokfagaaGreatDoorr6
import Derived.Test.YthkolmebokfagaaGreatDoorr5
import Derived.Test.YthkolmebokfagaaGreatDoorqM
set_option maxRecDepth 100000
set_option maxHeartbeats 8000000
set_option linter.unusedVariables false
set_option linter.unusedSimpArgs false
namespace Go.Proofs.YthkolmebokfagaaGreatDoor
open Go.ChangeShapes Go.WideShapes Go.Deep Go.RowKit
open Go.Proofs.YthkolmebokfagaaGreatDoor.Wi (putL putB putB_list putL_len zig zig_lt)
section
variable {P:Program} {ops:Array Oper} {Q:Exit->Act->World->Prop} {md:Region.Mode} {S:World->Prop} {o:Oper} {fuel:Nat} {listed:Array Bool} {a:Act} {w:World}
theorem tk0z (i:Nat) (v:Value) (hi:ops[i]?=some o) (hS:S w) (h:wpAnyH P md ops Q S fuel (listed.setIfInBounds i true) (a.put o.dst v) w)
  (hy:∀ w,S w->(execOp a.eval o).run P w=.ok (.value v) w:=by intro w hS;go_simp;(try with_reducible rfl))
  (hw:Region.wanted o (yielded ops a.tmps)=true:=by kernel_rfl) (hs:Region.noSelect ops=true:=by kernel_rfl) (hf:Region.free md ops listed i=true:=by kernel_rfl) (hr:(Region.ready md ops listed).contains i=true:=by kernel_rfl)
  (hQ:∀ c a w,Q (.panic c) (a.put o.dst v) w->Q (.panic c) a w:=by exact fun _ _ _ h=>h):wpAnyH P md ops Q S (fuel+1) listed a w:=
 tk i v hi hS hy h hw hs hf hr hQ
theorem tk4z (i:Nat) (v:Value) (hi:ops[i]?=some o) (hS:S w) (h:wpAnyH P md ops Q S fuel (listed.setIfInBounds i true) (a.put o.dst v) w)
  (hy:∀ w,S w->(execOp a.eval o).run P w=.ok (.value v) w:=by intro w hS;obtain ⟨_,_,_,_⟩:=hS;go_simp;(try with_reducible rfl))
  (hw:Region.wanted o (yielded ops a.tmps)=true:=by kernel_rfl) (hs:Region.noSelect ops=true:=by kernel_rfl) (hf:Region.free md ops listed i=true:=by kernel_rfl) (hr:(Region.ready md ops listed).contains i=true:=by kernel_rfl)
  (hQ:∀ c a w,Q (.panic c) (a.put o.dst v) w->Q (.panic c) a w:=by exact fun _ _ _ h=>h):wpAnyH P md ops Q S (fuel+1) listed a w:=
 tk i v hi hS hy h hw hs hf hr hQ
theorem tk6z (i:Nat) (v:Value) (hi:ops[i]?=some o) (hS:S w) (h:wpAnyH P md ops Q S fuel (listed.setIfInBounds i true) (a.put o.dst v) w)
  (hy:∀ w,S w->(execOp a.eval o).run P w=.ok (.value v) w:=by intro w hS;obtain ⟨_,_,_,_,_,_⟩:=hS;go_simp;(try with_reducible rfl))
  (hw:Region.wanted o (yielded ops a.tmps)=true:=by kernel_rfl) (hs:Region.noSelect ops=true:=by kernel_rfl) (hf:Region.free md ops listed i=true:=by kernel_rfl) (hr:(Region.ready md ops listed).contains i=true:=by kernel_rfl)
  (hQ:∀ c a w,Q (.panic c) (a.put o.dst v) w->Q (.panic c) a w:=by exact fun _ _ _ h=>h):wpAnyH P md ops Q S (fuel+1) listed a w:=
 tk i v hi hS hy h hw hs hf hr hQ
theorem tk8z (i:Nat) (v:Value) (hi:ops[i]?=some o) (hS:S w) (h:wpAnyH P md ops Q S fuel (listed.setIfInBounds i true) (a.put o.dst v) w)
  (hy:∀ w,S w->(execOp a.eval o).run P w=.ok (.value v) w:=by intro w hS;obtain ⟨_,_,_,_,_,_,_,_⟩:=hS;go_simp;(try with_reducible rfl))
  (hw:Region.wanted o (yielded ops a.tmps)=true:=by kernel_rfl) (hs:Region.noSelect ops=true:=by kernel_rfl) (hf:Region.free md ops listed i=true:=by kernel_rfl) (hr:(Region.ready md ops listed).contains i=true:=by kernel_rfl)
  (hQ:∀ c a w,Q (.panic c) (a.put o.dst v) w->Q (.panic c) a w:=by exact fun _ _ _ h=>h):wpAnyH P md ops Q S (fuel+1) listed a w:=
 tk i v hi hS hy h hw hs hf hr hQ
end
theorem putB_bA (v:Nat):putB v=bA (putL v):=Wi.bytes_ext (by rw [putB_list])
theorem bA_cat (a b:List UInt8):bA a ++ bA b=bA (a ++ b):=Wi.bytes_ext (by rw [Wi.cat_list])
theorem rNumI (x:Int) (h0:0<=x) (h1:x<=1000000) (w:World):Calls Tryz.prog 40 #[.int .i64 x] w (RetB (.string (bA (putL x.toNat))) w):=by
 have:=rNum_any x.toNat (by omega) w
 rw [Int.toNat_of_nonneg h0,putB_bA] at this
 exact this
theorem rTxtI (d:List UInt8) (h:d.length<=6000) (w:World):Calls Tryz.prog 41 #[.string ⟨d.toArray⟩] w (RetB (.string (bA (txtL d))) w):=by
 have:=Wi.refPutText_any (bA d) (by rw [bA_size];exact h) w
 rw [show Wi.textB (bA d)=bA (txtL d) from Wi.bytes_ext (by rw [Wi.textB_list,bA_size];rfl)] at this
 exact this
theorem rIntI (x:Int) (h:i64ok x) (w:World):Calls Tryz.prog 42 #[.int .i64 x] w (RetB (.string (bA (putL (zig x)))) w):=by
 have:=Wi.refPutInt_any x h.1 h.2 w
 rw [putB_bA] at this
 exact this
theorem txtL_len (d:List UInt8) (h:d.length<=6000):(txtL d).length<=10+d.length:=by
 unfold txtL;rw [List.length_append];have:=putL_le (v:=d.length) (by omega);omega
def secH (s:Sc):List UInt8:=txtL s.name ++ putL s.kind.toNat ++ putL (keepI s.keep) ++ putL s.align.toNat ++ txtL s.data ++ putL s.rels.length
theorem secB_H (s:Sc):secB s=secH s ++ s.rels.flatMap relB:=rfl
theorem secH_len {s:Sc} (h:SecOk s):(secH s).length<=4300:=by
 have a1:=txtL_len s.name (by have:=h.name;omega)
 have a2:=putL_le (v:=s.kind.toNat) (by have:=h.k1;omega)
 have a3:=putL_le (v:=keepI s.keep) (by unfold keepI;split <;> omega)
 have a4:=putL_le (v:=s.align.toNat) (by have:=h.a1;omega)
 have a5:=txtL_len s.data (by have:=h.data;omega)
 have a6:=putL_le (v:=s.rels.length) (by have:=h.rels;omega)
 have h1:=h.name;have h2:=h.data
 unfold secH
 simp only [List.length_append]
 omega
theorem rPut_no (a:Option Addr) (n c:Nat) (L:List Ms) (a2:Option Addr) (n2 c2:Nat) (l:List Sy) (w:World) (HIs:Hid (∀ u,Below w.heap.size w u->Calls Tryz.prog 16 #[.agg #[.slice a n c,.slice a2 n2 c2]] u (RetB (.bool false) u))):
  Calls Tryz.prog 9 #[.agg #[.slice a n c,.slice a2 n2 c2]] w (RetB (.tuple #[.string (bA []),.int .i64 1]) w):=by
 have HB0:=Lib.hid (lit_below w (.cells #[.slice a n c,.slice a2 n2 c2] 25))
 have hX:RB (w.alloc (.cells #[.slice a n c,.slice a2 n2 c2] 25)) w.heap.size #[.slice a n c,.slice a2 n2 c2] 25:=rb_new w _ _
 have x0:(w.alloc (.cells #[.slice a n c,.slice a2 n2 c2] 25)).cell? ⟨w.heap.size,0,none⟩=some (.slice a n c):=hX.cell
 have x1:(w.alloc (.cells #[.slice a n c,.slice a2 n2 c2] 25)).cell? ⟨w.heap.size,1,none⟩=some (.slice a2 n2 c2):=hX.cell
 clear hX
 go_enter Tryz.func9,Tryz.ntmps9
 go_wp2_with fail
 refine (HIs.out _ HB0.out).mono ?_
 rintro e u ⟨rfl,hb⟩
 have HB:=Lib.hid (after HB0.out hb)
 clear hb
 go_wp2
 go_ret2
 exact ⟨rfl,HB.out⟩
theorem rPut_yes (a:Option Addr) (n c:Nat) (L:List Ms) (a2:Option Addr) (n2 c2:Nat) (l:List Sy) (w:World) (hs:SL msC 6 w w.heap.size a n L) (hno:Notes w w.heap.size L) (hs2:SL syC 4 w w.heap.size a2 n2 l) (hg:∀ m ∈ L,GoodSc m.sc) (HIs:Hid (∀ u,Below w.heap.size w u->Calls Tryz.prog 16 #[.agg #[.slice a n c,.slice a2 n2 c2]] u (RetB (.bool true) u)))
  (hn:n<=32) (hn2:n2<=128) (ho1:∀ m ∈ L,SecOk m.sc) (ho2:∀ s ∈ l,SymOk s) (hsy:∀ m ∈ L,∀ r ∈ m.sc.rels,r.sym<=1000000):
  Calls Tryz.prog 9 #[.agg #[.slice a n c,.slice a2 n2 c2]] w (RetB (.tuple #[.string (bA (putO ⟨L.map (·.sc),l⟩)),.int .i64 0]) w):=by
 have HLn:=Lib.hid hs.len
 have HLn2:=Lib.hid hs2.len
 have HS:=Lib.hid hs
 have HS2:=Lib.hid hs2
 have HNo:=Lib.hid hno
 have HG:=Lib.hid hg
 have HO1:=Lib.hid ho1
 have HO2:=Lib.hid ho2
 have HSy:=Lib.hid hsy
 have hni:(n:Int)<=32:=by omega
 have hni2:(n2:Int)<=128:=by omega
 have CN:=Lib.hid (fun (x:Int) (h0:0<=x) (h1:x<=1000000) (u:World)=>rNumI x h0 h1 u)
 have CT:=Lib.hid (fun (d:List UInt8) (h:d.length<=6000) (u:World)=>rTxtI d h u)
 have CI:=Lib.hid (fun (x:Int) (h:i64ok x) (u:World)=>rIntI x h u)
 obtain ⟨X,hX⟩:∃ X,X=w.heap.size:=⟨_,rfl⟩
 obtain ⟨W,hW⟩:∃ W,W=w.alloc (.cells #[.slice a n c,.slice a2 n2 c2] 25):=⟨_,rfl⟩
 have HB0:Hid (Below w.heap.size w W):=Lib.hid (by rw [hW];exact lit_below w _)
 have HX0:Hid (RB W X #[.slice a n c,.slice a2 n2 c2] 25):=Lib.hid (by rw [hW,hX];exact rb_new w _ _)
 have HWe:=Lib.hid hW.symm
 have HXe:=Lib.hid hX.symm
 have HF:Hid (putO ⟨L.map (·.sc),l⟩=(([67,76,69,65,84,1]:List UInt8) ++ putL n ++ (L.take n).flatMap (fun m=>secB m.sc)) ++ putL n2 ++ (l.take n2).flatMap symB):=Lib.hid (by
  unfold putO
  simp only [List.length_map,List.flatMap_map,hs.len,hs2.len,List.take_length])
 have HT:Hid (∀ k,(([67,76,69,65,84,1]:List UInt8) ++ putL n ++ (L.take k).flatMap (fun m=>secB m.sc)).length<=300000):=Lib.hid (fun k=>by
  have h1:=putL_le (v:=n) (by omega)
  have h2:=flat_le (f:=fun m:Ms=>secB m.sc) (m:=7000) (l:=L.take k) (fun m hm=>secB_len (ho1 m (List.mem_of_mem_take hm)) (hg m (List.mem_of_mem_take hm)))
  have h3:(L.take k).length<=32:=by rw [List.length_take];have:=hs.len;omega
  simp only [List.length_append,List.length_cons,List.length_nil]
  omega)
 have HT2:Hid (∀ k,((l.take k).flatMap symB).length<=13000):=Lib.hid (fun k=>by
  have h2:=flat_le (f:=symB) (m:=100) (l:=l.take k) (fun s hs=>symB_len (ho2 s (List.mem_of_mem_take hs)))
  have h3:(l.take k).length<=128:=by rw [List.length_take];have:=hs2.len;omega
  omega)
 clear hs hno hs2 hg ho1 ho2 hsy hX hW
 have x0:W.cell? ⟨X,0,none⟩=some (.slice a n c):=HX0.out.cell
 go_enter Tryz.func9,Tryz.ntmps9
 go_wp2_with fail
 rw [HWe.out,HXe.out]
 clear x0
 refine (HIs.out _ HB0.out).mono ?_
 rintro e u ⟨rfl,hb⟩
 replace HX0:=Lib.hid (HX0.out.next hb)
 replace HB0:=Lib.hid (after HB0.out hb)
 clear hb
 have x0:u.cell? ⟨X,0,none⟩=some (.slice a n c):=HX0.out.cell
 have hpn:=putB_bA n
 go_wp2_with fail
 clear x0
 refine (CN.out (n:Int) (by omega) (by omega) _).mono ?_
 rintro e u1 ⟨rfl,hb⟩
 rw [Int.toNat_natCast]
 replace HX0:=Lib.hid (HX0.out.next hb)
 replace HB0:=Lib.hid (after HB0.out hb)
 clear hb
 have hc0:¬ 9223372036854775807 < 6+(putL n).length:=by have:=putL_le (v:=n) (by omega);omega
 go_wp2_with fail
 have hs0:(⟨#[67,76,69,65,84,1]⟩:ByteArray) ++ bA (putL n)=bA ([67,76,69,65,84,1] ++ putL n):=bA_cat [67,76,69,65,84,1] (putL n)
 have HS0:=Lib.hid hs0
 clear hs0 hc0 hpn
 go_loopw [4,5] (fun o i wr=>∃ (k:Nat) (wx:World) (T:List UInt8),wx=wr/\k<=n/\o=.string (bA T)/\i=.int .i64 k/\Hid (Below w.heap.size w wx)/\Hid (RB wx X #[.slice a n c,.slice a2 n2 c2] 25)/\Hid (T=([67,76,69,65,84,1]:List UInt8) ++ putL n ++ (L.take k).flatMap (fun m=>secB m.sc))) (fun _ i _=>n - (intOf i).toNat)
 case atStart=>exact ⟨0,_,_,rfl,by omega,by rw [HS0.out],rfl,HB0,HX0,Lib.hid (by simp)⟩
 case round=>
  clear HB0 HX0 HS0
  obtain ⟨k,wx,T,rfl,hk,rfl,rfl,HB0,HX0,HTk⟩:=hrel
  have x0:wx.cell? ⟨X,0,none⟩=some (.slice a n c):=HX0.out.cell
  have x1:wx.cell? ⟨X,1,none⟩=some (.slice a2 n2 c2):=HX0.out.cell
  have HLT0:Hid (T.length<=300000):=Lib.hid (by rw [HTk.out];exact HT.out k)
  by_cases hlt:k < n
  ·have hlti:(k:Int) < (n:Int):=by omega
   have HLt:=Lib.hid hlt
   have hkl:k < L.length:=by have:=HLn.out;omega
   obtain ⟨bb,off,hae,hbw,hcc⟩:=(HS.out.next HB0.out).cells (by intro e;rw [e] at hkl;simp at hkl)
   subst hae
   obtain ⟨d0,d1,d2,d3,d4,d5⟩:=ms_cells (fun j hj=>hcc k hkl j hj)
   have HMm:L[k] ∈ L:=List.getElem_mem hkl
   have HMk:Hid (L[k]?=some L[k]):=Lib.hid (List.getElem?_eq_getElem hkl)
   have HNk:=Lib.hid (HNo.out L[k] HMm)
   have HOk:=Lib.hid (HO1.out L[k] HMm)
   have HGk:=Lib.hid (HG.out L[k] HMm)
   have HSk:=Lib.hid (HSy.out L[k] HMm)
   generalize L[k]=m at d0 d1 d2 d3 d4 d5 HMk HNk HOk HGk HSk
   obtain ⟨⟨nm,ki,kb,al,dt,rl⟩,ra,rc⟩:=m
   simp only [] at d0 d1 d2 d3 d4 d5 HNk
   obtain ⟨kp,hkp⟩:∃ kp,kp=kb:=⟨_,rfl⟩
   rw [<-hkp] at d2
   obtain ⟨nr,hnr⟩:∃ nr,nr=rl.length:=⟨_,rfl⟩
   rw [<-hnr] at d5 HNk
   have HNr:=Lib.hid hnr
   have HNr2:Hid (nr<=64):=Lib.hid (by have:=HOk.out.rels;simp only at this;omega)
   obtain ⟨Y,hY⟩:∃ Y,Y=wx.heap.size:=⟨_,rfl⟩
   have HYe:=Lib.hid hY.symm
   have HTs:Hid (([67,76,69,65,84,1]:List UInt8) ++ putL n ++ (L.take (k+1)).flatMap (fun m=>secB m.sc)=T ++ secB ⟨nm,ki,kb,al,dt,rl⟩):=Lib.hid (by rw [HTk.out,List.take_add_one,HMk.out];simp)
   clear hkl hbw hcc hnr HMm hlt hk
   have HB1:Hid (Below w.heap.size w (wx.alloc (.cells #[.string ⟨nm.toArray⟩,.int .i64 ki,.bool kp,.int .i64 al,.string ⟨dt.toArray⟩,.slice ra nr rc] 57))):=Lib.hid (after HB0.out (lit_below _ _))
   have HX1:=Lib.hid (HX0.out.next (lit_below wx (.cells #[.string ⟨nm.toArray⟩,.int .i64 ki,.bool kp,.int .i64 al,.string ⟨dt.toArray⟩,.slice ra nr rc] 57)))
   have HY1:Hid (RB (wx.alloc (.cells #[.string ⟨nm.toArray⟩,.int .i64 ki,.bool kp,.int .i64 al,.string ⟨dt.toArray⟩,.slice ra nr rc] 57)) Y #[.string ⟨nm.toArray⟩,.int .i64 ki,.bool kb,.int .i64 al,.string ⟨dt.toArray⟩,.slice ra nr rc] 57):=Lib.hid (by rw [hY,<-hkp];exact rb_new _ _ _)
   obtain ⟨W1,hW1⟩:∃ W,W=wx.alloc (.cells #[.string ⟨nm.toArray⟩,.int .i64 ki,.bool kp,.int .i64 al,.string ⟨dt.toArray⟩,.slice ra nr rc] 57):=⟨_,rfl⟩
   rw [<-hW1] at HB1 HX1 HY1
   have HWq:=Lib.hid hW1.symm
   clear hY HB0 HX0 x1 hW1
   obtain ⟨kv,hkv⟩:∃ kv:Int,kv=if kp=true then 1 else 0:=⟨_,rfl⟩
   have hkk:kv.toNat=keepI kb:=by rw [hkv,hkp];cases kb <;> rfl
   obtain ⟨U1,hU1⟩:∃ U,U=txtL nm:=⟨_,rfl⟩
   have HC1:Hid (∀ u,Calls Tryz.prog 41 #[.string ⟨nm.toArray⟩] u (RetB (.string (bA U1)) u)):=Lib.hid fun u=>by rw [hU1];exact CT.out nm (by have:=HOk.out.name;simp only at this;omega) u
   have hl1:U1.length<=4200:=by rw [hU1];have:=txtL_len nm (by have:=HOk.out.name;simp only at this;omega);have:=HOk.out.name;simp only at this;omega
   obtain ⟨T1,hT1⟩:∃ V,V=T ++ U1:=⟨_,rfl⟩
   have hk1:bA T ++ bA U1=bA T1:=by rw [hT1,bA_cat]
   obtain ⟨U2,hU2⟩:∃ U,U=putL ki.toNat:=⟨_,rfl⟩
   have HC2:Hid (∀ u,Calls Tryz.prog 40 #[.int .i64 ki] u (RetB (.string (bA U2)) u)):=Lib.hid fun u=>by rw [hU2];exact CN.out ki HOk.out.k0 (by have:=HOk.out.k1;simp only at this;omega) u
   have hl2:U2.length<=4200:=by rw [hU2];have:=putL_le (v:=ki.toNat) (by have:=HOk.out.k1;simp only at this;omega);omega
   obtain ⟨T2,hT2⟩:∃ V,V=T1 ++ U2:=⟨_,rfl⟩
   have hk2:bA T1 ++ bA U2=bA T2:=by rw [hT2,bA_cat]
   obtain ⟨U3,hU3⟩:∃ U,U=putL (keepI kb):=⟨_,rfl⟩
   have HC3:Hid (∀ u,Calls Tryz.prog 40 #[.int .i64 kv] u (RetB (.string (bA U3)) u)):=Lib.hid fun u=>by rw [hU3,<-hkk];exact CN.out kv (by rw [hkv,hkp];cases kb <;> decide) (by rw [hkv,hkp];cases kb <;> decide) u
   have hl3:U3.length<=4200:=by rw [hU3];have:=putL_le (v:=keepI kb) (by unfold keepI;split <;> omega);omega
   obtain ⟨T3,hT3⟩:∃ V,V=T2 ++ U3:=⟨_,rfl⟩
   have hk3:bA T2 ++ bA U3=bA T3:=by rw [hT3,bA_cat]
   obtain ⟨U4,hU4⟩:∃ U,U=putL al.toNat:=⟨_,rfl⟩
   have HC4:Hid (∀ u,Calls Tryz.prog 40 #[.int .i64 al] u (RetB (.string (bA U4)) u)):=Lib.hid fun u=>by rw [hU4];exact CN.out al HOk.out.a0 (by have:=HOk.out.a1;simp only at this;omega) u
   have hl4:U4.length<=4200:=by rw [hU4];have:=putL_le (v:=al.toNat) (by have:=HOk.out.a1;simp only at this;omega);omega
   obtain ⟨T4,hT4⟩:∃ V,V=T3 ++ U4:=⟨_,rfl⟩
   have hk4:bA T3 ++ bA U4=bA T4:=by rw [hT4,bA_cat]
   obtain ⟨U5,hU5⟩:∃ U,U=txtL dt:=⟨_,rfl⟩
   have HC5:Hid (∀ u,Calls Tryz.prog 41 #[.string ⟨dt.toArray⟩] u (RetB (.string (bA U5)) u)):=Lib.hid fun u=>by rw [hU5];exact CT.out dt (by have:=HOk.out.data;simp only at this;omega) u
   have hl5:U5.length<=4200:=by rw [hU5];have:=txtL_len dt (by have:=HOk.out.data;simp only at this;omega);have:=HOk.out.data;simp only at this;omega
   obtain ⟨T5,hT5⟩:∃ V,V=T4 ++ U5:=⟨_,rfl⟩
   have hk5:bA T4 ++ bA U5=bA T5:=by rw [hT5,bA_cat]
   obtain ⟨U6,hU6⟩:∃ U,U=putL nr:=⟨_,rfl⟩
   have HC6:Hid (∀ u,Calls Tryz.prog 40 #[.int .i64 (nr:Int)] u (RetB (.string (bA U6)) u)):=Lib.hid fun u=>by rw [hU6];have h:=CN.out (nr:Int) (by omega) (by have:=HNr2.out;omega) u;rw [Int.toNat_natCast] at h;exact h
   have hl6:U6.length<=4200:=by rw [hU6];have:=putL_le (v:=nr) (by have:=HNr2.out;omega);omega
   obtain ⟨T6,hT6⟩:∃ V,V=T5 ++ U6:=⟨_,rfl⟩
   have hk6:bA T5 ++ bA U6=bA T6:=by rw [hT6,bA_cat]
   have hlz:T.length<=300000:=HLT0.out
   have hm1:T1.length<=304200:=by rw [hT1,List.length_append];omega
   have hq1:¬ 9223372036854775807 < T.length+U1.length:=by omega
   have hm2:T2.length<=308400:=by rw [hT2,List.length_append];omega
   have hq2:¬ 9223372036854775807 < T1.length+U2.length:=by omega
   have hm3:T3.length<=312600:=by rw [hT3,List.length_append];omega
   have hq3:¬ 9223372036854775807 < T2.length+U3.length:=by omega
   have hm4:T4.length<=316800:=by rw [hT4,List.length_append];omega
   have hq4:¬ 9223372036854775807 < T3.length+U4.length:=by omega
   have hm5:T5.length<=321000:=by rw [hT5,List.length_append];omega
   have hq5:¬ 9223372036854775807 < T4.length+U5.length:=by omega
   have hm6:T6.length<=325200:=by rw [hT6,List.length_append];omega
   have hq6:¬ 9223372036854775807 < T5.length+U6.length:=by omega
   have HT6:Hid (T6=T ++ secH ⟨nm,ki,kb,al,dt,rl⟩):=Lib.hid (by rw [hT6,hT5,hT4,hT3,hT2,hT1,hU1,hU2,hU3,hU4,hU5,hU6,HNr.out];unfold secH;simp only [List.append_assoc])
   clear hT1 hT2 hT3 hT4 hT5 hT6 hU1 hU2 hU3 hU4 hU5 hU6 hlz hm1 hm2 hm3 hm4 hm5 hm6 hl1 hl2 hl3 hl4 hl5 hl6
   clear hkk hkp
   cases kp
   all_goals
    simp only [if_true,if_false,Bool.false_eq_true] at hkv
    subst hkv
    go_wp2_with fail
    try rw [HYe.out]
    rw [HWq.out]
    clear x0 d0 d1 d2 d3 d4 d5
    have HcS:Hid (∀ v,Below w.heap.size w v->RB v Y #[.string ⟨nm.toArray⟩,.int .i64 ki,.bool kb,.int .i64 al,.string ⟨dt.toArray⟩,.slice ra nr rc] 57->(v.cell? ⟨Y,0,none⟩=some (.string ⟨nm.toArray⟩)/\v.cell? ⟨Y,1,none⟩=some (.int .i64 ki)/\v.cell? ⟨Y,2,none⟩=some (.bool kb)/\v.cell? ⟨Y,3,none⟩=some (.int .i64 al)/\v.cell? ⟨Y,4,none⟩=some (.string ⟨dt.toArray⟩)/\v.cell? ⟨Y,5,none⟩=some (.slice ra nr rc))):=Lib.hid fun v _ hv=>⟨hv.cell,hv.cell,hv.cell,hv.cell,hv.cell,hv.cell⟩
    refine wp_region_held_drew (S:=fun v=>(v.cell? ⟨Y,0,none⟩=some (.string ⟨nm.toArray⟩)/\v.cell? ⟨Y,1,none⟩=some (.int .i64 ki)/\v.cell? ⟨Y,2,none⟩=some (.bool kb)/\v.cell? ⟨Y,3,none⟩=some (.int .i64 al)/\v.cell? ⟨Y,4,none⟩=some (.string ⟨dt.toArray⟩)/\v.cell? ⟨Y,5,none⟩=some (.slice ra nr rc))) (by kernel_rfl) (HcS.out _ HB1.out.drew (HY1.out.next (Below.refl _ _).drew)) (fun hHeld=>?_)
    obtain ⟨V,hV⟩:∃ V,V=W1.drew:=⟨_,rfl⟩
    rw [<-hV] at hHeld ⊢
    have HBd:=Lib.hid (show Below w.heap.size w V by rw [hV];exact HB1.out.drew)
    have HYd:=Lib.hid (show RB V Y _ _ by rw [hV];exact HY1.out.next (Below.refl _ _).drew)
    have HXd:=Lib.hid (show RB V X _ _ by rw [hV];exact HX1.out.next (Below.refl _ _).drew)
    clear hV HB1 HY1 HX1
    refine tk6z 0 _ rfl hHeld ?_
    refine tk6z 1 _ rfl hHeld ?_
    refine tk6z 2 _ rfl hHeld ?_
    refine tk6z 5 _ rfl hHeld ?_
    refine tk6z 6 _ rfl hHeld ?_
    refine tk6z 9 _ rfl hHeld ?_
    refine tk6z 12 _ rfl hHeld ?_
    refine tk6z 13 _ rfl hHeld ?_
    refine tk6z 16 _ rfl hHeld ?_
    refine tk6z 17 _ rfl hHeld ?_
    refine tk6z 20 _ rfl hHeld ?_
    refine tk6z 21 _ rfl hHeld ?_
    refine tk6z 22 _ rfl hHeld ?_
    refine rd 3 rfl (fun K hK=>?_)
    go_simp
    go_wp2_with (go_at_call 41;refine (HC1.out _).mono ?_;rintro e z1 ⟨rfl,hb⟩)
    replace HYd:=Lib.hid (HYd.out.next hb)
    replace HXd:=Lib.hid (HXd.out.next hb)
    replace HBd:=Lib.hid (after HBd.out hb)
    clear hb hHeld
    refine hK.out _ _ (HcS.out _ HBd.out HYd.out) (fun hHeld1=>?_)
    clear hK K
    refine tk0z 4 _ rfl hHeld1 ?_
    (try simp only [Act.put,List.setIfInBounds_toArray,List.set_cons_zero,List.set_cons_succ])
    refine rd 7 rfl (fun K hK=>?_)
    go_simp
    go_wp2_with (go_at_call 40;refine (HC2.out _).mono ?_;rintro e z2 ⟨rfl,hb⟩)
    replace HYd:=Lib.hid (HYd.out.next hb)
    replace HXd:=Lib.hid (HXd.out.next hb)
    replace HBd:=Lib.hid (after HBd.out hb)
    clear hb hHeld1
    refine hK.out _ _ (HcS.out _ HBd.out HYd.out) (fun hHeld2=>?_)
    clear hK K
    refine tk0z 8 _ rfl hHeld2 ?_
    (try simp only [Act.put,List.setIfInBounds_toArray,List.set_cons_zero,List.set_cons_succ])
    refine rd 10 rfl (fun K hK=>?_)
    go_simp
    go_wp2_with (go_at_call 40;refine (HC3.out _).mono ?_;rintro e z3 ⟨rfl,hb⟩)
    replace HYd:=Lib.hid (HYd.out.next hb)
    replace HXd:=Lib.hid (HXd.out.next hb)
    replace HBd:=Lib.hid (after HBd.out hb)
    clear hb hHeld2
    refine hK.out _ _ (HcS.out _ HBd.out HYd.out) (fun hHeld3=>?_)
    clear hK K
    refine tk0z 11 _ rfl hHeld3 ?_
    (try simp only [Act.put,List.setIfInBounds_toArray,List.set_cons_zero,List.set_cons_succ])
    refine rd 14 rfl (fun K hK=>?_)
    go_simp
    go_wp2_with (go_at_call 40;refine (HC4.out _).mono ?_;rintro e z4 ⟨rfl,hb⟩)
    replace HYd:=Lib.hid (HYd.out.next hb)
    replace HXd:=Lib.hid (HXd.out.next hb)
    replace HBd:=Lib.hid (after HBd.out hb)
    clear hb hHeld3
    refine hK.out _ _ (HcS.out _ HBd.out HYd.out) (fun hHeld4=>?_)
    clear hK K
    refine tk0z 15 _ rfl hHeld4 ?_
    (try simp only [Act.put,List.setIfInBounds_toArray,List.set_cons_zero,List.set_cons_succ])
    refine rd 18 rfl (fun K hK=>?_)
    go_simp
    go_wp2_with (go_at_call 41;refine (HC5.out _).mono ?_;rintro e z5 ⟨rfl,hb⟩)
    replace HYd:=Lib.hid (HYd.out.next hb)
    replace HXd:=Lib.hid (HXd.out.next hb)
    replace HBd:=Lib.hid (after HBd.out hb)
    clear hb hHeld4
    refine hK.out _ _ (HcS.out _ HBd.out HYd.out) (fun hHeld5=>?_)
    clear hK K
    refine tk0z 19 _ rfl hHeld5 ?_
    (try simp only [Act.put,List.setIfInBounds_toArray,List.set_cons_zero,List.set_cons_succ])
    refine rd 23 rfl (fun K hK=>?_)
    go_simp
    go_wp2_with (go_at_call 40;refine (HC6.out _).mono ?_;rintro e z6 ⟨rfl,hb⟩)
    replace HYd:=Lib.hid (HYd.out.next hb)
    replace HXd:=Lib.hid (HXd.out.next hb)
    replace HBd:=Lib.hid (after HBd.out hb)
    clear hb hHeld5
    refine hK.out _ _ (HcS.out _ HBd.out HYd.out) (fun hHeld6=>?_)
    clear hK K
    refine tk0z 24 _ rfl hHeld6 ?_
    (try simp only [Act.put,List.setIfInBounds_toArray,List.set_cons_zero,List.set_cons_succ])
    refine rd 25 rfl (fun K hK=>?_)
    go_simp
    refine hK.out _ _ hHeld6 (fun hHeldF=>?_)
    clear hK K hHeldF hHeld6 HcS
    refine wpAnyH_done (by kernel_rfl) ?_ _
    clear HC1 HC2 HC3 HC4 HC5 HC6 hk1 hk2 hk3 hk4 hk5 hk6 hq1 hq2 hq3 hq4 hq5 hq6
    go_wp2_with fail
    go_loopw [4,8] (fun o i wr=>∃ (j:Nat) (wy:World) (T':List UInt8),wy=wr/\j<=nr/\o=.string (bA T')/\i=.int .i64 j/\Hid (Below w.heap.size w wy)/\Hid (RB wy X #[.slice (some ⟨bb,off,none⟩) n c,.slice a2 n2 c2] 25)/\Hid (RB wy Y #[.string ⟨nm.toArray⟩,.int .i64 ki,.bool kb,.int .i64 al,.string ⟨dt.toArray⟩,.slice ra nr rc] 57)/\Hid (T'=T6 ++ (rl.take j).flatMap relB)) (fun _ i _=>nr - (intOf i).toNat)
    case atStart=>exact ⟨0,_,_,rfl,by omega,rfl,rfl,HBd,HXd,HYd,Lib.hid (by simp)⟩
    case round=>
     clear HBd HXd HYd
     obtain ⟨j,wy,T',rfl,hj,rfl,rfl,HBd,HXd,HYd,HTj⟩:=hrel
     have y5:wy.cell? ⟨Y,5,none⟩=some (.slice ra nr rc):=HYd.out.cell
     have HLT0:Hid (T'.length<=330000):=Lib.hid (by
      have h1:=flat_le (f:=relB) (m:=40) (l:=rl.take j) (fun r hr=>relB_len (HOk.out.all r (List.mem_of_mem_take hr)) HOk.out.data (HGk.out.rels r (List.mem_of_mem_take hr)).2.2.2 (HGk.out.rels r (List.mem_of_mem_take hr)).2.2.1)
      have h2:(rl.take j).length<=64:=by rw [List.length_take];have:=HNr.out;have:=HNr2.out;omega
      have h3:=secH_len HOk.out
      have h4:T.length<=300000:=by rw [HTk.out];exact HT.out k
      rw [HTj.out,List.length_append,HT6.out,List.length_append]
      omega)
     by_cases hjt:j < nr
     ·have hjti:(j:Int) < (nr:Int):=by omega
      have HJt:=Lib.hid hjt
      have hjl:j < rl.length:=by have:=HNr.out;omega
      have hnri:(nr:Int)<=64:=by have:=HNr2.out;omega
      obtain ⟨b3,off3,hae,hbw,hcc⟩:=(HNk.out.next HBd.out).cells (by intro e;rw [e] at hjl;simp at hjl)
      subst hae
      obtain ⟨t0,t1,t2,t3⟩:=rl_cells (fun i hi=>hcc j hjl i hi)
      have HRm:rl[j] ∈ rl:=List.getElem_mem hjl
      have HRk:Hid (rl[j]?=some rl[j]):=Lib.hid (List.getElem?_eq_getElem hjl)
      have HRo:=Lib.hid (HOk.out.all rl[j] HRm)
      have HRg:=Lib.hid (HGk.out.rels rl[j] HRm)
      have HRy:=Lib.hid (HSk.out rl[j] HRm)
      generalize rl[j]=rj at t0 t1 t2 t3 HRk HRo HRg HRy
      obtain ⟨po,rk,rs,rv⟩:=rj
      simp only [] at t0 t1 t2 t3
      have HDt:Hid (dt.length<=4096):=Lib.hid HOk.out.data
      have HRs:Hid (rs<=1000000):=Lib.hid (HRy.out)
      obtain ⟨Z,hZ⟩:∃ Z,Z=wy.heap.size:=⟨_,rfl⟩
      have HZe:=Lib.hid hZ.symm
      have HTs2:Hid (T6 ++ (rl.take (j+1)).flatMap relB=T' ++ relB ⟨po,rk,rs,rv⟩):=Lib.hid (by rw [HTj.out,List.take_add_one,HRk.out];simp)
      clear hjl hbw hcc HRm hjt hj
      obtain ⟨U1,hU1⟩:∃ U,U=putL po.toNat:=⟨_,rfl⟩
      have HC1:Hid (∀ u,Calls Tryz.prog 40 #[.int .i64 po] u (RetB (.string (bA U1)) u)):=Lib.hid fun u=>by rw [hU1];exact CN.out po HRo.out.p0 (by have:=HRo.out.p1;have:=HDt.out;simp only at *;omega) u
      have hl1:U1.length<=4200:=by rw [hU1];have:=putL_le (v:=po.toNat) (by have:=HRo.out.p1;have:=HDt.out;simp only at *;omega);omega
      obtain ⟨Q1,hQ1⟩:∃ V,V=T' ++ U1:=⟨_,rfl⟩
      have hk1:bA T' ++ bA U1=bA Q1:=by rw [hQ1,bA_cat]
      obtain ⟨U2,hU2⟩:∃ U,U=putL rk.toNat:=⟨_,rfl⟩
      have HC2:Hid (∀ u,Calls Tryz.prog 40 #[.int .i64 rk] u (RetB (.string (bA U2)) u)):=Lib.hid fun u=>by rw [hU2];exact CN.out rk HRo.out.k0 (by have:=HRo.out.k1;simp only at this;omega) u
      have hl2:U2.length<=4200:=by rw [hU2];have:=putL_le (v:=rk.toNat) (by have:=HRo.out.k1;simp only at this;omega);omega
      obtain ⟨Q2,hQ2⟩:∃ V,V=Q1 ++ U2:=⟨_,rfl⟩
      have hk2:bA Q1 ++ bA U2=bA Q2:=by rw [hQ2,bA_cat]
      obtain ⟨U3,hU3⟩:∃ U,U=putL rs.toNat:=⟨_,rfl⟩
      have HC3:Hid (∀ u,Calls Tryz.prog 40 #[.int .i64 rs] u (RetB (.string (bA U3)) u)):=Lib.hid fun u=>by rw [hU3];exact CN.out rs HRo.out.s0 HRs.out u
      have hl3:U3.length<=4200:=by rw [hU3];have:=putL_le (v:=rs.toNat) (by have:=HRs.out;omega);omega
      obtain ⟨Q3,hQ3⟩:∃ V,V=Q2 ++ U3:=⟨_,rfl⟩
      have hk3:bA Q2 ++ bA U3=bA Q3:=by rw [hQ3,bA_cat]
      obtain ⟨U4,hU4⟩:∃ U,U=putL (zig rv):=⟨_,rfl⟩
      have HC4:Hid (∀ u,Calls Tryz.prog 42 #[.int .i64 rv] u (RetB (.string (bA U4)) u)):=Lib.hid fun u=>by rw [hU4];exact CI.out rv HRg.out.2.2.2 u
      have hl4:U4.length<=4200:=by rw [hU4];have:=putL_le (v:=zig rv) (zig_lt HRg.out.2.2.2.1 HRg.out.2.2.2.2);omega
      obtain ⟨Q4,hQ4⟩:∃ V,V=Q3 ++ U4:=⟨_,rfl⟩
      have hk4:bA Q3 ++ bA U4=bA Q4:=by rw [hQ4,bA_cat]
      have hlz:T'.length<=330000:=HLT0.out
      have hm1:Q1.length<=334200:=by rw [hQ1,List.length_append];omega
      have hq1:¬ 9223372036854775807 < T'.length+U1.length:=by omega
      have hm2:Q2.length<=338400:=by rw [hQ2,List.length_append];omega
      have hq2:¬ 9223372036854775807 < Q1.length+U2.length:=by omega
      have hm3:Q3.length<=342600:=by rw [hQ3,List.length_append];omega
      have hq3:¬ 9223372036854775807 < Q2.length+U3.length:=by omega
      have hm4:Q4.length<=346800:=by rw [hQ4,List.length_append];omega
      have hq4:¬ 9223372036854775807 < Q3.length+U4.length:=by omega
      have HQ4:Hid (Q4=T' ++ relB ⟨po,rk,rs,rv⟩):=Lib.hid (by rw [hQ4,hQ3,hQ2,hQ1,hU1,hU2,hU3,hU4];unfold relB;simp only [List.append_assoc])
      clear hQ1 hQ2 hQ3 hQ4 hU1 hU2 hU3 hU4 hlz hm1 hm2 hm3 hm4 hl1 hl2 hl3 hl4
      have HB1:Hid (Below w.heap.size w (wy.alloc (.cells (rlA ⟨po,rk,rs,rv⟩) 82))):=Lib.hid (after HBd.out (lit_below _ _))
      have HX1:=Lib.hid (HXd.out.next (lit_below wy (.cells (rlA ⟨po,rk,rs,rv⟩) 82)))
      have HY1:=Lib.hid (HYd.out.next (lit_below wy (.cells (rlA ⟨po,rk,rs,rv⟩) 82)))
      have HZ1:Hid (RB (wy.alloc (.cells (rlA ⟨po,rk,rs,rv⟩) 82)) Z (rlA ⟨po,rk,rs,rv⟩) 82):=Lib.hid (by rw [hZ];exact rb_new _ _ _)
      clear hZ HBd HXd HYd
      go_wp2_with fail
      try rw [HZe.out]
      generalize wy.alloc (.cells #[.int .i64 po,.int .i64 rk,.int .i64 rs,.int .i64 rv] 82)=W2 at HB1 HX1 HY1 HZ1 ⊢
      clear y5 t0 t1 t2 t3
      have HcS:Hid (∀ v,RB v Z (rlA ⟨po,rk,rs,rv⟩) 82->(v.cell? ⟨Z,0,none⟩=some (.int .i64 po)/\v.cell? ⟨Z,1,none⟩=some (.int .i64 rk)/\v.cell? ⟨Z,2,none⟩=some (.int .i64 rs)/\v.cell? ⟨Z,3,none⟩=some (.int .i64 rv))):=Lib.hid fun v hv=>⟨hv.cell,hv.cell,hv.cell,hv.cell⟩
      refine wp_region_held_drew (S:=fun v=>(v.cell? ⟨Z,0,none⟩=some (.int .i64 po)/\v.cell? ⟨Z,1,none⟩=some (.int .i64 rk)/\v.cell? ⟨Z,2,none⟩=some (.int .i64 rs)/\v.cell? ⟨Z,3,none⟩=some (.int .i64 rv))) (by kernel_rfl) (HcS.out _ (HZ1.out.next (Below.refl _ _).drew)) (fun hHeld=>?_)
      obtain ⟨V2,hV⟩:∃ V,V=W2.drew:=⟨_,rfl⟩
      rw [<-hV] at hHeld ⊢
      have HBe:=Lib.hid (show Below w.heap.size w V2 by rw [hV];exact HB1.out.drew)
      have HYf:=Lib.hid (show RB V2 Y _ _ by rw [hV];exact HY1.out.next (Below.refl _ _).drew)
      have HXf:=Lib.hid (show RB V2 X _ _ by rw [hV];exact HX1.out.next (Below.refl _ _).drew)
      have HZf:=Lib.hid (show RB V2 Z _ _ by rw [hV];exact HZ1.out.next (Below.refl _ _).drew)
      clear hV HB1 HY1 HX1 HZ1
      refine tk4z 0 _ rfl hHeld ?_
      refine tk4z 1 _ rfl hHeld ?_
      refine tk4z 2 _ rfl hHeld ?_
      refine tk4z 5 _ rfl hHeld ?_
      refine tk4z 6 _ rfl hHeld ?_
      refine tk4z 9 _ rfl hHeld ?_
      refine tk4z 10 _ rfl hHeld ?_
      refine tk4z 13 _ rfl hHeld ?_
      refine tk4z 14 _ rfl hHeld ?_
      refine rd 3 rfl (fun K hK=>?_)
      go_simp
      go_wp2_with (go_at_call 40;refine (HC1.out _).mono ?_;rintro e z1 ⟨rfl,hb⟩)
      replace HYf:=Lib.hid (HYf.out.next hb)
      replace HXf:=Lib.hid (HXf.out.next hb)
      replace HZf:=Lib.hid (HZf.out.next hb)
      replace HBe:=Lib.hid (after HBe.out hb)
      clear hb hHeld
      refine hK.out _ _ (HcS.out _ HZf.out) (fun hHeld1=>?_)
      clear hK K
      refine tk0z 4 _ rfl hHeld1 ?_
      (try simp only [Act.put,List.setIfInBounds_toArray,List.set_cons_zero,List.set_cons_succ])
      refine rd 7 rfl (fun K hK=>?_)
      go_simp
      go_wp2_with (go_at_call 40;refine (HC2.out _).mono ?_;rintro e z2 ⟨rfl,hb⟩)
      replace HYf:=Lib.hid (HYf.out.next hb)
      replace HXf:=Lib.hid (HXf.out.next hb)
      replace HZf:=Lib.hid (HZf.out.next hb)
      replace HBe:=Lib.hid (after HBe.out hb)
      clear hb hHeld1
      refine hK.out _ _ (HcS.out _ HZf.out) (fun hHeld2=>?_)
      clear hK K
      refine tk0z 8 _ rfl hHeld2 ?_
      (try simp only [Act.put,List.setIfInBounds_toArray,List.set_cons_zero,List.set_cons_succ])
      refine rd 11 rfl (fun K hK=>?_)
      go_simp
      go_wp2_with (go_at_call 40;refine (HC3.out _).mono ?_;rintro e z3 ⟨rfl,hb⟩)
      replace HYf:=Lib.hid (HYf.out.next hb)
      replace HXf:=Lib.hid (HXf.out.next hb)
      replace HZf:=Lib.hid (HZf.out.next hb)
      replace HBe:=Lib.hid (after HBe.out hb)
      clear hb hHeld2
      refine hK.out _ _ (HcS.out _ HZf.out) (fun hHeld3=>?_)
      clear hK K
      refine tk0z 12 _ rfl hHeld3 ?_
      (try simp only [Act.put,List.setIfInBounds_toArray,List.set_cons_zero,List.set_cons_succ])
      refine rd 15 rfl (fun K hK=>?_)
      go_simp
      go_wp2_with (go_at_call 42;refine (HC4.out _).mono ?_;rintro e z4 ⟨rfl,hb⟩)
      replace HYf:=Lib.hid (HYf.out.next hb)
      replace HXf:=Lib.hid (HXf.out.next hb)
      replace HZf:=Lib.hid (HZf.out.next hb)
      replace HBe:=Lib.hid (after HBe.out hb)
      clear hb hHeld3
      refine hK.out _ _ (HcS.out _ HZf.out) (fun hHeld4=>?_)
      clear hK K
      refine tk0z 16 _ rfl hHeld4 ?_
      (try simp only [Act.put,List.setIfInBounds_toArray,List.set_cons_zero,List.set_cons_succ])
      refine rd 17 rfl (fun K hK=>?_)
      go_simp
      refine hK.out _ _ hHeld4 (fun hHeldF=>?_)
      clear hK K hHeldF hHeld4 HcS
      refine wpAnyH_done (by kernel_rfl) ?_ _
      clear HC1 HC2 HC3 HC4 hk1 hk2 hk3 hk4 hq1 hq2 hq3 hq4
      go_wp2
      go_roundw
      case rel=>exact ⟨j+1,_,_,rfl,by have:=HJt.out;omega,rfl,by go_num,HBe,HXf,HYf,Lib.hid (by rw [HQ4.out,HTs2.out])⟩
      case measure=>have:=HJt.out;simp [intOf];omega
     ·obtain rfl:nr=j:=by omega
      have hge:¬ (nr:Int) < (nr:Int):=by omega
      have HTe:Hid (T'=([67,76,69,65,84,1]:List UInt8) ++ putL n ++ (L.take (k+1)).flatMap (fun m=>secB m.sc)):=Lib.hid (by
       rw [HTs.out,secB_H,HTj.out,HT6.out,List.append_assoc]
       have:rl.take nr=rl:=by rw [HNr.out,List.take_length]
       rw [this])
      clear hj hjt
      go_wp2
      go_roundw
      case rel=>exact ⟨k+1,_,_,rfl,by have:=HLt.out;omega,rfl,by go_num,HBd,HXd,HTe⟩
      case measure=>have:=HLt.out;simp [intOf];omega
  ·obtain rfl:n=k:=by omega
   have hge:¬ (n:Int) < (n:Int):=by omega
   obtain ⟨P,hP⟩:∃ P,P=putL n2:=⟨_,rfl⟩
   have HC0:Hid (∀ u,Calls Tryz.prog 40 #[.int .i64 (n2:Int)] u (RetB (.string (bA P)) u)):=Lib.hid fun u=>by have h:=CN.out (n2:Int) (by omega) (by omega) u;rw [Int.toNat_natCast,<-hP] at h;exact h
   have hpl:P.length<=10:=by rw [hP];exact putL_le (by omega)
   have hq0:¬ 9223372036854775807 < T.length+P.length:=by have:=HLT0.out;omega
   obtain ⟨T0,hT0⟩:∃ V,V=T ++ P:=⟨_,rfl⟩
   have hk0:bA T ++ bA P=bA T0:=by rw [hT0,bA_cat]
   have HT0:Hid (T0=([67,76,69,65,84,1]:List UInt8) ++ putL n ++ (L.take n).flatMap (fun m=>secB m.sc) ++ putL n2):=Lib.hid (by rw [hT0,HTk.out,hP])
   have HT0l:Hid (T0.length<=300010):=Lib.hid (by rw [hT0,List.length_append];have:=HLT0.out;omega)
   clear hT0 hP hpl hlt hk
   go_wp2_with fail
   clear x0 x1
   refine (HC0.out _).mono ?_
   rintro e v1 ⟨rfl,hb⟩
   replace HX0:=Lib.hid (HX0.out.next hb)
   replace HB0:=Lib.hid (after HB0.out hb)
   clear hb
   go_wp2_with fail
   clear hk0 hq0
   go_loopw [4,10] (fun o i wr=>∃ (j:Nat) (wy:World) (T':List UInt8),wy=wr/\j<=n2/\o=.string (bA T')/\i=.int .i64 j/\Hid (Below w.heap.size w wy)/\Hid (RB wy X #[.slice a n c,.slice a2 n2 c2] 25)/\Hid (T'=T0 ++ (l.take j).flatMap symB)) (fun _ i _=>n2 - (intOf i).toNat)
   case atStart=>exact ⟨0,_,_,rfl,by omega,rfl,rfl,HB0,HX0,Lib.hid (by simp)⟩
   case round=>
    clear HB0 HX0
    obtain ⟨j,wy,T',rfl,hj,rfl,rfl,HBd,HXd,HTj⟩:=hrel
    have y5:wy.cell? ⟨X,1,none⟩=some (.slice a2 n2 c2):=HXd.out.cell
    have HLT0:Hid (T'.length<=330000):=Lib.hid (by rw [HTj.out,List.length_append];have:=HT2.out j;have:=HT0l.out;omega)
    by_cases hjt:j < n2
    ·have hjti:(j:Int) < (n2:Int):=by omega
     have HJt:=Lib.hid hjt
     have hjl:j < l.length:=by have:=HLn2.out;omega
     obtain ⟨b3,off3,hae,hbw,hcc⟩:=(HS2.out.next HBd.out).cells (by intro e;rw [e] at hjl;simp at hjl)
     subst hae
     obtain ⟨t0,t1,t2,t3⟩:=sy_cells (fun i hi=>hcc j hjl i hi)
     have HRm:l[j] ∈ l:=List.getElem_mem hjl
     have HRk:Hid (l[j]?=some l[j]):=Lib.hid (List.getElem?_eq_getElem hjl)
     have HOk:=Lib.hid (HO2.out l[j] HRm)
     generalize l[j]=rj at t0 t1 t2 t3 HRk HOk
     obtain ⟨nm,bi,se,of⟩:=rj
     simp only [] at t0 t1 t2 t3
     obtain ⟨Z,hZ⟩:∃ Z,Z=wy.heap.size:=⟨_,rfl⟩
     have HZe:=Lib.hid hZ.symm
     have HTs2:Hid (T0 ++ (l.take (j+1)).flatMap symB=T' ++ symB ⟨nm,bi,se,of⟩):=Lib.hid (by rw [HTj.out,List.take_add_one,HRk.out];simp)
     clear hjl hbw hcc HRm hjt hj
     obtain ⟨U1,hU1⟩:∃ U,U=txtL nm:=⟨_,rfl⟩
     have HC1:Hid (∀ u,Calls Tryz.prog 41 #[.string ⟨nm.toArray⟩] u (RetB (.string (bA U1)) u)):=Lib.hid fun u=>by rw [hU1];exact CT.out nm (by have:=HOk.out.name;simp only at this;omega) u
     have hl1:U1.length<=4200:=by rw [hU1];have:=txtL_len nm (by have:=HOk.out.name;simp only at this;omega);have:=HOk.out.name;simp only at this;omega
     obtain ⟨Q1,hQ1⟩:∃ V,V=T' ++ U1:=⟨_,rfl⟩
     have hk1:bA T' ++ bA U1=bA Q1:=by rw [hQ1,bA_cat]
     obtain ⟨U2,hU2⟩:∃ U,U=putL bi.toNat:=⟨_,rfl⟩
     have HC2:Hid (∀ u,Calls Tryz.prog 40 #[.int .i64 bi] u (RetB (.string (bA U2)) u)):=Lib.hid fun u=>by rw [hU2];exact CN.out bi HOk.out.b0 (by have:=HOk.out.b1;simp only at this;omega) u
     have hl2:U2.length<=4200:=by rw [hU2];have:=putL_le (v:=bi.toNat) (by have:=HOk.out.b1;simp only at this;omega);omega
     obtain ⟨Q2,hQ2⟩:∃ V,V=Q1 ++ U2:=⟨_,rfl⟩
     have hk2:bA Q1 ++ bA U2=bA Q2:=by rw [hQ2,bA_cat]
     obtain ⟨U3,hU3⟩:∃ U,U=putL (se+1).toNat:=⟨_,rfl⟩
     have HC3:Hid (∀ u,Calls Tryz.prog 40 #[.int .i64 (se+1)] u (RetB (.string (bA U3)) u)):=Lib.hid fun u=>by rw [hU3];exact CN.out (se+1) (by have:=HOk.out.s0;simp only at this;omega) (by have:=HOk.out.s1;simp only at this;omega) u
     have hl3:U3.length<=4200:=by rw [hU3];have:=putL_le (v:=(se+1).toNat) (by have:=HOk.out.s1;simp only at this;omega);omega
     obtain ⟨Q3,hQ3⟩:∃ V,V=Q2 ++ U3:=⟨_,rfl⟩
     have hk3:bA Q2 ++ bA U3=bA Q3:=by rw [hQ3,bA_cat]
     obtain ⟨U4,hU4⟩:∃ U,U=putL of.toNat:=⟨_,rfl⟩
     have HC4:Hid (∀ u,Calls Tryz.prog 40 #[.int .i64 of] u (RetB (.string (bA U4)) u)):=Lib.hid fun u=>by rw [hU4];exact CN.out of HOk.out.o0 (by have:=HOk.out.o1;simp only at this;omega) u
     have hl4:U4.length<=4200:=by rw [hU4];have:=putL_le (v:=of.toNat) (by have:=HOk.out.o1;simp only at this;omega);omega
     obtain ⟨Q4,hQ4⟩:∃ V,V=Q3 ++ U4:=⟨_,rfl⟩
     have hk4:bA Q3 ++ bA U4=bA Q4:=by rw [hQ4,bA_cat]
     have hlz:T'.length<=330000:=HLT0.out
     have hm1:Q1.length<=334200:=by rw [hQ1,List.length_append];omega
     have hq1:¬ 9223372036854775807 < T'.length+U1.length:=by omega
     have hm2:Q2.length<=338400:=by rw [hQ2,List.length_append];omega
     have hq2:¬ 9223372036854775807 < Q1.length+U2.length:=by omega
     have hm3:Q3.length<=342600:=by rw [hQ3,List.length_append];omega
     have hq3:¬ 9223372036854775807 < Q2.length+U3.length:=by omega
     have hm4:Q4.length<=346800:=by rw [hQ4,List.length_append];omega
     have hq4:¬ 9223372036854775807 < Q3.length+U4.length:=by omega
     have HQ4:Hid (Q4=T' ++ symB ⟨nm,bi,se,of⟩):=Lib.hid (by rw [hQ4,hQ3,hQ2,hQ1,hU1,hU2,hU3,hU4];unfold symB;simp only [List.append_assoc])
     have hsw:IntKind.i64.wrap (se+1)=se+1:=by have:=HOk.out.s0;have:=HOk.out.s1;simp only at *;rw [IntKind.wrap_i64];omega
     have hsb : -1<=se:=HOk.out.s0
     have hsc:se<=100:=HOk.out.s1
     clear hQ1 hQ2 hQ3 hQ4 hU1 hU2 hU3 hU4 hlz hm1 hm2 hm3 hm4 hl1 hl2 hl3 hl4
     have HB1:Hid (Below w.heap.size w (wy.alloc (.cells #[.string ⟨nm.toArray⟩,.int .i64 bi,.int .i64 se,.int .i64 of] 66))):=Lib.hid (after HBd.out (lit_below _ _))
     have HX1:=Lib.hid (HXd.out.next (lit_below wy (.cells #[.string ⟨nm.toArray⟩,.int .i64 bi,.int .i64 se,.int .i64 of] 66)))
     have HZ1:Hid (RB (wy.alloc (.cells #[.string ⟨nm.toArray⟩,.int .i64 bi,.int .i64 se,.int .i64 of] 66)) Z #[.string ⟨nm.toArray⟩,.int .i64 bi,.int .i64 se,.int .i64 of] 66):=Lib.hid (by rw [hZ];exact rb_new _ _ _)
     clear hZ HBd HXd
     go_wp2_with fail
     try rw [HZe.out]
     generalize wy.alloc (.cells #[.string ⟨nm.toArray⟩,.int .i64 bi,.int .i64 se,.int .i64 of] 66)=W2 at HB1 HX1 HZ1 ⊢
     clear y5 t0 t1 t2 t3
     have HcS:Hid (∀ v,RB v Z #[.string ⟨nm.toArray⟩,.int .i64 bi,.int .i64 se,.int .i64 of] 66->(v.cell? ⟨Z,0,none⟩=some (.string ⟨nm.toArray⟩)/\v.cell? ⟨Z,1,none⟩=some (.int .i64 bi)/\v.cell? ⟨Z,2,none⟩=some (.int .i64 se)/\v.cell? ⟨Z,3,none⟩=some (.int .i64 of))):=Lib.hid fun v hv=>⟨hv.cell,hv.cell,hv.cell,hv.cell⟩
     refine wp_region_held_drew (S:=fun v=>(v.cell? ⟨Z,0,none⟩=some (.string ⟨nm.toArray⟩)/\v.cell? ⟨Z,1,none⟩=some (.int .i64 bi)/\v.cell? ⟨Z,2,none⟩=some (.int .i64 se)/\v.cell? ⟨Z,3,none⟩=some (.int .i64 of))) (by kernel_rfl) (HcS.out _ (HZ1.out.next (Below.refl _ _).drew)) (fun hHeld=>?_)
     obtain ⟨V2,hV⟩:∃ V,V=W2.drew:=⟨_,rfl⟩
     rw [<-hV] at hHeld ⊢
     have HBe:=Lib.hid (show Below w.heap.size w V2 by rw [hV];exact HB1.out.drew)
     have HXf:=Lib.hid (show RB V2 X _ _ by rw [hV];exact HX1.out.next (Below.refl _ _).drew)
     have HZf:=Lib.hid (show RB V2 Z _ _ by rw [hV];exact HZ1.out.next (Below.refl _ _).drew)
     clear hV HB1 HX1 HZ1
     refine tk4z 0 _ rfl hHeld ?_
     refine tk4z 1 _ rfl hHeld ?_
     refine tk4z 2 _ rfl hHeld ?_
     refine tk4z 5 _ rfl hHeld ?_
     refine tk4z 6 _ rfl hHeld ?_
     refine tk4z 9 _ rfl hHeld ?_
     refine tk4z 10 _ rfl hHeld ?_
     refine tk4z 11 _ rfl hHeld ?_
     refine tk4z 14 _ rfl hHeld ?_
     refine tk4z 15 _ rfl hHeld ?_
     refine rd 3 rfl (fun K hK=>?_)
     go_simp
     go_wp2_with (go_at_call 41;refine (HC1.out _).mono ?_;rintro e z1 ⟨rfl,hb⟩)
     replace HXf:=Lib.hid (HXf.out.next hb)
     replace HZf:=Lib.hid (HZf.out.next hb)
     replace HBe:=Lib.hid (after HBe.out hb)
     clear hb hHeld
     refine hK.out _ _ (HcS.out _ HZf.out) (fun hHeld1=>?_)
     clear hK K
     refine tk0z 4 _ rfl hHeld1 ?_
     (try simp only [Act.put,List.setIfInBounds_toArray,List.set_cons_zero,List.set_cons_succ])
     refine rd 7 rfl (fun K hK=>?_)
     go_simp
     go_wp2_with (go_at_call 40;refine (HC2.out _).mono ?_;rintro e z2 ⟨rfl,hb⟩)
     replace HXf:=Lib.hid (HXf.out.next hb)
     replace HZf:=Lib.hid (HZf.out.next hb)
     replace HBe:=Lib.hid (after HBe.out hb)
     clear hb hHeld1
     refine hK.out _ _ (HcS.out _ HZf.out) (fun hHeld2=>?_)
     clear hK K
     refine tk0z 8 _ rfl hHeld2 ?_
     (try simp only [Act.put,List.setIfInBounds_toArray,List.set_cons_zero,List.set_cons_succ])
     refine rd 12 rfl (fun K hK=>?_)
     go_simp
     go_wp2_with (go_at_call 40;refine (HC3.out _).mono ?_;rintro e z3 ⟨rfl,hb⟩)
     replace HXf:=Lib.hid (HXf.out.next hb)
     replace HZf:=Lib.hid (HZf.out.next hb)
     replace HBe:=Lib.hid (after HBe.out hb)
     clear hb hHeld2
     refine hK.out _ _ (HcS.out _ HZf.out) (fun hHeld3=>?_)
     clear hK K
     refine tk0z 13 _ rfl hHeld3 ?_
     (try simp only [Act.put,List.setIfInBounds_toArray,List.set_cons_zero,List.set_cons_succ])
     refine rd 16 rfl (fun K hK=>?_)
     go_simp
     go_wp2_with (go_at_call 40;refine (HC4.out _).mono ?_;rintro e z4 ⟨rfl,hb⟩)
     replace HXf:=Lib.hid (HXf.out.next hb)
     replace HZf:=Lib.hid (HZf.out.next hb)
     replace HBe:=Lib.hid (after HBe.out hb)
     clear hb hHeld3
     refine hK.out _ _ (HcS.out _ HZf.out) (fun hHeld4=>?_)
     clear hK K
     refine tk0z 17 _ rfl hHeld4 ?_
     (try simp only [Act.put,List.setIfInBounds_toArray,List.set_cons_zero,List.set_cons_succ])
     refine rd 18 rfl (fun K hK=>?_)
     go_simp
     refine hK.out _ _ hHeld4 (fun hHeldF=>?_)
     clear hK K hHeldF hHeld4 HcS
     refine wpAnyH_done (by kernel_rfl) ?_ _
     clear HC1 HC2 HC3 HC4 hk1 hk2 hk3 hk4 hq1 hq2 hq3 hq4 hsw hsb hsc
     go_wp2
     go_roundw
     case rel=>exact ⟨j+1,_,_,rfl,by have:=HJt.out;omega,rfl,by go_num,HBe,HXf,Lib.hid (by rw [HQ4.out,HTs2.out])⟩
     case measure=>have:=HJt.out;simp [intOf];omega
    ·obtain rfl:n2=j:=by omega
     have hge2:¬ (n2:Int) < (n2:Int):=by omega
     have HE:Hid (putO ⟨L.map (·.sc),l⟩=T'):=Lib.hid (by rw [HF.out,HTj.out,HT0.out])
     clear hj hjt
     go_wp2
     go_ret2
     exact ⟨by rw [HE.out];rfl,HBd.out⟩
theorem rPut_any (o:Oz) (w:World) (h:OxZ w o) (hF:FewO o.L o.l):
  Calls Tryz.prog 9 #[.agg #[.slice o.a o.L.length o.c,.slice o.a2 o.l.length o.c2]] w (RetB (.tuple #[.string ⟨(putR ⟨o.L.map (·.sc),o.l⟩).1.toArray⟩,.int .i64 (putR ⟨o.L.map (·.sc),o.l⟩).2]) w):=by
 have HI:∀ u,Below w.heap.size w u->Calls Tryz.prog 16 #[.agg #[.slice o.a o.L.length o.c,.slice o.a2 o.l.length o.c2]] u (RetB (.bool (isO ⟨o.L.map (·.sc),o.l⟩)) u):=fun u hu=>rOIs_any o.a o.L.length o.c o.L o.a2 o.l.length o.c2 o.l h.l1 h.l2 u (h.s1.next hu) (Notes.next h.no hu) (h.s2.next hu) h.gd (fun m hm=>by have:=(hF.2.2.1 m hm).2.1;unfold maxLen;omega) (fun m hm=>by have:=(hF.2.2.1 m hm).1;omega) (fun t ht=>by have:=hF.2.2.2 t ht;omega)
 cases hq:isO ⟨o.L.map (·.sc),o.l⟩
 ·rw [hq] at HI
  unfold putR
  rw [if_neg (by rw [hq];decide)]
  exact rPut_no o.a o.L.length o.c o.L o.a2 o.l.length o.c2 o.l w (Lib.hid HI)
 ·rw [hq] at HI
  obtain ⟨k1,k2,k3,k4⟩:=is_ok hq
  have k5:o.L.length<=32:=by have:=k1;simp only [List.length_map] at this;exact this
  have k6:o.l.length<=128:=k2
  unfold putR
  rw [if_pos hq]
  have hml:∀ m ∈ o.L,m.sc ∈ o.L.map (·.sc):=fun m hm=>List.mem_map.2 ⟨m,hm,rfl⟩
  refine rPut_yes o.a o.L.length o.c o.L o.a2 o.l.length o.c2 o.l w h.s1 h.no h.s2 h.gd (Lib.hid HI) k5 k6 (fun m hm=>k3 _ (hml m hm)) k4 (fun m hm r hr=>?_)
  unfold isO secsL at hq
  simp only [Bool.and_eq_true] at hq
  have h9:r.sym < ((o.l.length:Nat):Int):=syms_le hq.1.2 m.sc (hml m hm) r hr
  omega
end Go.Proofs.YthkolmebokfagaaGreatDoor
