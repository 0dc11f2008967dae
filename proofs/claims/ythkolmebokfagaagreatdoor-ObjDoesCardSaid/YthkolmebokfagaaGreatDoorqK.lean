/- obj: Put. obj: the reader: took, number. obj: Get of two texts that the law gives. obj: Get of the two texts that the law gives; what its closure catches. The law's held: constants. obj's reference: Big tells something. -/
import Derived.Test.YthkolmebokfagaaGreatDoorqJ
import Derived.Laws.Rows
import Derived.Defers
import Derived.Recover
import Derived.Deep.RegionLaw
set_option maxRecDepth 100000
set_option maxHeartbeats 8000000
set_option linter.unusedVariables false
set_option linter.unusedSimpArgs false
namespace Go.Proofs.YthkolmebokfagaaGreatDoor
open Go.ChangeShapes Go.WideShapes Go.Deep Go.RowKit
open Go.Proofs.YthkolmebokfagaaGreatDoor.Wi (putL putL_len putB putB_size putB_list Put_at PutText_any PutInt_any zig zig_lt)
theorem KU.le {b:Nat} {w u:World} (h:KU b w u) (hb:b<=w.heap.size):b<=u.heap.size:=Nat.le_trans hb h.below.size
theorem KU.add {b:Nat} {w u v:World} (h:KU b w u) (hw:b<=w.heap.size) (k:Below u.heap.size u v):KU b w v:=h.trans (KU.of k (h.le hw))
theorem KU.up {b:Nat} {w0 w u:World} (h:Below w0.heap.size w0 w) (hb:w0.heap.size<=b) (k:KU b w u):Below w0.heap.size w0 u:=h.trans (k.below.mono hb)
theorem textB_list (s:ByteArray):(Wi.textB s).data.toList=txtL s.data.toList:=by
 show putL s.size ++ s.data.toList=putL s.data.toList.length ++ s.data.toList
 rw [show s.data.toList.length=s.size by simp]
theorem take_map_succ {α β:Type} {f:α->List β} {l:List α} {k:Nat} (h:k < l.length):(l.take (k+1)).flatMap f=(l.take k).flatMap f ++ f l[k]:=by
 rw [List.take_succ_eq_append_getElem h,List.flatMap_append];simp
theorem secB_len {s:Sc} (h:SecOk s) (hg:GoodSc s):(secB s).length<=7000:=by
 unfold secB txtL
 have h0:=h.rels
 have h1:=putL_le (v:=s.name.length) (by have:=h.name;omega)
 have h2:=putL_le (v:=s.kind.toNat) (by have:=h.k0;have:=h.k1;omega)
 have h3:=putL_le (v:=keepI s.keep) (by unfold keepI;split <;> omega)
 have h4:=putL_le (v:=s.align.toNat) (by have:=h.a0;have:=h.a1;omega)
 have h5:=putL_le (v:=s.data.length) (by have:=h.data;omega)
 have h6:=putL_le (v:=s.rels.length) (by omega)
 have h7:=flat_le (f:=relB) (m:=40) (l:=s.rels) (fun r hr=>relB_len (h.all r hr) h.data (hg.rels r hr).2.2.2 (hg.rels r hr).2.2.1)
 have:=h.name
 have:=h.data
 simp only [List.length_append]
 have:s.rels.length*40<=64*40:=Nat.mul_le_mul_right 40 h0
 omega
theorem symB_len {s:Sy} (h:SymOk s):(symB s).length<=100:=by
 unfold symB txtL
 have h1:=putL_le (v:=s.name.length) (by have:=h.name;omega)
 have h2:=putL_le (v:=s.bind.toNat) (by have:=h.b0;have:=h.b1;omega)
 have h3:=putL_le (v:=(s.sec+1).toNat) (by have:=h.s0;have:=h.s1;omega)
 have h4:=putL_le (v:=s.off.toNat) (by have:=h.o0;have:=h.o1;omega)
 have:=h.name
 simp only [List.length_append];omega
theorem oPut_no (a:Option Addr) (n c:Nat) (L:List Ms) (a2:Option Addr) (n2 c2:Nat) (l:List Sy) (hn:n<=maxLen) (hn2:n2<=maxLen) (w:World) (hs:SL msC 6 w w.heap.size a n L) (hno:Notes w w.heap.size L) (hg:∀ m ∈ L,GoodSc m.sc) (hs2:SL syC 4 w w.heap.size a2 n2 l) (hg2:∀ s ∈ l,GoodSy s) (hT:TabP w) (hq:isO ⟨L.map (·.sc),l⟩=false):
  Calls Tryz.prog 8 #[.agg #[.slice a n c,.slice a2 n2 c2]] w (RetB (.tuple #[.string ⟨#[]⟩,.int .i64 1]) w):=by
 have HIs:Hid (∀ u,Below w.heap.size w u->Calls Tryz.prog 15 #[.agg #[.slice a n c,.slice a2 n2 c2]] u (RetB (.bool (isO ⟨L.map (·.sc),l⟩)) u)):=Lib.hid fun u hu=>oIs_any a n c L a2 n2 c2 l hn hn2 u (hs.next hu) (hno.next hu) hg (hs2.next hu) hg2 (hT.next hu)
 rw [hq] at HIs
 have HA:Hid (Below w.heap.size w (w.alloc (.cells #[.slice a n c,.slice a2 n2 c2] 25))):=Lib.hid ((Below.refl _ w).alloc (Nat.le_refl _) _)
 clear hs hno hg hs2 hg2 hT hq
 go_enter Tryz.func8,Tryz.ntmps8
 go_wp2_with fail
 refine (HIs.out _ HA.out).mono ?_
 rintro e u ⟨rfl,hb⟩
 have HB:=Lib.hid (after HA.out hb)
 clear hb
 go_wp2
 go_ret2
 exact ⟨rfl,HB.out⟩
theorem oPut_yes (a:Option Addr) (n c:Nat) (L:List Ms) (a2:Option Addr) (n2 c2:Nat) (l:List Sy) (hn:n<=maxLen) (hn2:n2<=maxLen) (w:World) (hs:SL msC 6 w w.heap.size a n L) (hno:Notes w w.heap.size L) (hg:∀ m ∈ L,GoodSc m.sc) (hs2:SL syC 4 w w.heap.size a2 n2 l) (hg2:∀ s ∈ l,GoodSy s) (hT:TabP w) (hq:isO ⟨L.map (·.sc),l⟩=true):
  Calls Tryz.prog 8 #[.agg #[.slice a n c,.slice a2 n2 c2]] w (RetB (.tuple #[.string ⟨(putO ⟨L.map (·.sc),l⟩).toArray⟩,.int .i64 0]) w):=by
 have HIs:Hid (∀ u,Below w.heap.size w u->Calls Tryz.prog 15 #[.agg #[.slice a n c,.slice a2 n2 c2]] u (RetB (.bool (isO ⟨L.map (·.sc),l⟩)) u)):=Lib.hid fun u hu=>oIs_any a n c L a2 n2 c2 l hn hn2 u (hs.next hu) (hno.next hu) hg (hs2.next hu) hg2 (hT.next hu)
 obtain ⟨q1,q2,q3,q4⟩:=is_ok hq
 simp only [List.length_map] at q1 q2 q3 q4
 have hok:∀ m ∈ L,SecOk m.sc:=fun m hm=>q3 m.sc (List.mem_map_of_mem hm)
 rw [hq] at HIs
 have hln:=hs.len
 have hln2:=hs2.len
 have hn32:n<=32:=by omega
 have hn128:n2<=128:=by omega
 have hni:(n:Int)<=32:=by omega
 have hni2:(n2:Int)<=128:=by omega
 obtain ⟨O,hO⟩:∃ O:List UInt8,O=putO ⟨L.map (·.sc),l⟩:=⟨_,rfl⟩
 rw [<-hO]
 have HO:Hid (O=[67,76,69,65,84,1] ++ putL n ++ L.flatMap (fun m=>secB m.sc) ++ putL n2 ++ l.flatMap symB):=Lib.hid (by
  rw [hO];unfold putO;simp only [List.length_map,<-hln,<-hln2];rw [List.flatMap_map])
 have HS:=Lib.hid hs
 have HNo:=Lib.hid hno
 have HG:=Lib.hid hg
 have HS2:=Lib.hid hs2
 have HG2:=Lib.hid hg2
 have HOk:=Lib.hid hok
 have HOk2:=Lib.hid q4
 have HLn:=Lib.hid hln
 have HLn2:=Lib.hid hln2
 obtain ⟨X,hX⟩:∃ X,X=w.heap.size:=⟨_,rfl⟩
 have HXE:=Lib.hid hX
 have HA:Hid (Below w.heap.size w (w.alloc (.cells #[.slice a n c,.slice a2 n2 c2] 25))):=Lib.hid ((Below.refl _ w).alloc (Nat.le_refl _) _)
 have HRX:Hid (RB (w.alloc (.cells #[.slice a n c,.slice a2 n2 c2] 25)) X #[.slice a n c,.slice a2 n2 c2] 25):=Lib.hid (by rw [hX];exact (MapKept.heap_alloc w _).1)
 have HXl:Hid (X < (w.alloc (.cells #[.slice a n c,.slice a2 n2 c2] 25)).heap.size):=Lib.hid (by rw [hX,World.size_alloc];omega)
 clear hs hno hg hs2 hg2 hT hq q1 q2 q3 q4 hok hln hln2 hO hX
 go_enter Tryz.func8,Tryz.ntmps8
 go_wp2_with fail
 try rw [<-HXE.out]
 generalize (w.alloc (.cells #[.slice a n c,.slice a2 n2 c2] 25))=W at HA HRX HXl ⊢
 refine (HIs.out _ HA.out).mono ?_
 rintro e u1 ⟨rfl,hb⟩
 have HW1:=Lib.hid (after HA.out hb)
 replace HRX:=Lib.hid (HRX.out.next hb)
 have hXb:X < u1.heap.size:=Nat.lt_of_lt_of_le HXl.out hb.size
 clear hb
 obtain ⟨b,hbb⟩:∃ b,b=u1.heap.size:=⟨_,rfl⟩
 have HBE:=Lib.hid hbb
 have HFr:Hid (St b [] (u1.alloc (.cells #[.pointer none,.slice none 0 0] 71))):=Lib.hid (by rw [hbb];exact Lib.fresh_isBuilder 71 5 u1)
 have HW0:Hid (Below w.heap.size w (u1.alloc (.cells #[.pointer none,.slice none 0 0] 71))):=Lib.hid (HW1.out.alloc HW1.out.size _)
 replace HRX:Hid (RB (u1.alloc (.cells #[.pointer none,.slice none 0 0] 71)) X #[.slice a n c,.slice a2 n2 c2] 25):=Lib.hid (HRX.out.next ((Below.refl _ _).alloc (Nat.le_refl _) _))
 have HLe:Hid (b<=(u1.alloc (.cells #[.pointer none,.slice none 0 0] 71)).heap.size):=Lib.hid (by rw [hbb,World.size_alloc];omega)
 have HNX:Hid (X ≠ b):=Lib.hid (by omega)
 have HBw:Hid (w.heap.size<=b):=Lib.hid (by rw [hbb];exact HW1.out.size)
 obtain ⟨D0,hD0⟩:∃ D0:ByteArray,D0=⟨#[67,76,69,65,84,1]⟩:=⟨_,rfl⟩
 have HWm:Hid (∀ (l:List UInt8) (u:World),St b l u->l.length<=900000000->b<=u.heap.size->Calls Tryz.prog 34 #[.pointer (some ⟨b,0,none⟩),.string ⟨#[67,76,69,65,84,1]⟩] u fun e u'=>e=.returned (.tuple #[.int .i64 (6:Nat),.nilIface])/\St b (l ++ [67,76,69,65,84,1]) u'/\KU b u u'):=Lib.hid fun l u h hl hb=>ws_any b l ⟨#[67,76,69,65,84,1]⟩ u h (by show l.length+6<=1000000000;omega) hb
 have HNum:=Lib.hid (fun (v:Nat) (hv:v < 9223372036854775808) (l:List UInt8) (u:World) (h:St b l u) (hl:l.length<=900000000) (hb:b<=u.heap.size)=>num_any b l v hv u h hl hb)
 have hpl:∀ v,v < 18446744073709551616->(putL v).length<=10:=fun v hv=>putL_le hv
 have HPL:=Lib.hid hpl
 clear hbb hXb HW1 hpl hD0 D0
 go_wp2_with fail
 try rw [<-HBE.out]
 generalize hW0:(u1.alloc (.cells #[.pointer none,.slice none 0 0] 71))=W0 at HFr HW0 HRX HLe ⊢
 have HSt:=Lib.hid HFr.out
 have HK:=Lib.hid (KU.refl b W0)
 clear hW0 HBE
 refine (HWm.out _ _ HSt.out (by simp) (HK.out.le HLe.out)).mono ?_
 rintro e u ⟨rfl,hst,hku⟩
 replace HK:=Lib.hid (HK.out.trans hku)
 replace HSt:=Lib.hid hst
 replace HRX:=Lib.hid (HRX.out.ku hku (by decide) HNX.out)
 clear hst hku
 have x_0:u.cell? ⟨X,0,none⟩=some (.slice a n c):=HRX.out.cell
 go_wp2_with fail
 clear x_0
 refine (HNum.out n (by omega) _ _ HSt.out (by simp) (HK.out.le HLe.out)).mono ?_
 rintro e u ⟨rfl,hst,hku⟩
 replace HK:=Lib.hid (HK.out.trans hku)
 replace HSt:=Lib.hid hst
 replace HRX:=Lib.hid (HRX.out.ku hku (by decide) HNX.out)
 clear hst hku
 have x_0:u.cell? ⟨X,0,none⟩=some (.slice a n c):=HRX.out.cell
 go_wp2
 clear x_0
 obtain ⟨P1,hP1⟩:∃ P1:List UInt8,P1=[] ++ [67,76,69,65,84,1] ++ putL n:=⟨_,rfl⟩
 have hP1l:P1.length<=16:=by
  have:=HPL.out n (by omega)
  rw [hP1];simp only [List.length_append,List.length_nil,List.length_cons];omega
 rw [<-hP1] at HSt
 have HP1:=Lib.hid hP1
 have HKs:=Lib.hid HK.out
 have HSts:=Lib.hid HSt.out
 clear hP1 HK HSt HFr
 go_loopw [25] (fun i wr=>∃ (k:Nat) (wx:World),wx=wr/\k<=n/\i=.int .i64 k/\KU b W0 wx/\RB wx X #[.slice a n c,.slice a2 n2 c2] 25/\St b (P1 ++ (L.take k).flatMap (fun m=>secB m.sc)) wx) (fun i _=>n - (intOf i).toNat)
 case atStart=>exact ⟨0,_,rfl,by omega,rfl,HKs.out,HRX.out,by simpa using HSts.out⟩
 case round=>
  clear HKs HSts HRX
  obtain ⟨k,wx,rfl,hk,rfl,hkx,hrx,hst0⟩:=hrel
  have HK:=Lib.hid hkx
  have HRX:=Lib.hid hrx
  have HSt:=Lib.hid hst0
  clear hkx hrx hst0
  by_cases hlt:k < n
  ·have hlti:(k:Int) < (n:Int):=by omega
   have hk1:k < L.length:=by have:=HLn.out;omega
   obtain ⟨bb,off,rfl,hB,hc⟩:=(HS.out.next (KU.up HW0.out HBw.out HK.out)).cells (HS.out.ne hlt)
   obtain ⟨c0,c1,c2,c3,c4,c5⟩:=ms_cells (fun j hj=>hc k hk1 j hj)
   have hgk:=HG.out L[k] (List.getElem_mem hk1)
   have hnk:=HNo.out L[k] (List.getElem_mem hk1)
   have hokk:=HOk.out L[k] (List.getElem_mem hk1)
   have htk:=take_map_succ (f:=fun m:Ms=>secB m.sc) hk1
   obtain ⟨ms,hms⟩:∃ ms,ms=L[k]:=⟨_,rfl⟩
   rw [<-hms] at c0 c1 c2 c3 c4 c5 hgk hnk hokk htk
   clear hms hc
   obtain ⟨⟨nm,ki,kp,al,dt,rl⟩,ad,cp⟩:=ms
   obtain ⟨N,hN⟩:∃ N:ByteArray,N=⟨nm.toArray⟩:=⟨_,rfl⟩
   obtain ⟨B,hBB⟩:∃ B:ByteArray,B=⟨dt.toArray⟩:=⟨_,rfl⟩
   have hNl:nm=N.data.toList:=by rw [hN]
   have hBl:dt=B.data.toList:=by rw [hBB]
   simp only [] at c0 c1 c2 c3 c4 c5 hnk htk
   rw [<-hN] at c0
   rw [<-hBB] at c4
   clear hN hBB
   subst hNl hBl
   obtain ⟨o1,o2,o3,o4,o5,o6,o7,o8⟩:=hokk
   simp only [] at o1 o2 o3 o4 o5 o6 o7 o8
   have hgr:=hgk.rels
   simp only [] at hgr
   have hNs:N.size<=31:=by simpa using o1
   have hBs:B.size<=4096:=by simpa using o6
   obtain ⟨kn,rfl⟩:∃ kn:Nat,ki=kn:=⟨ki.toNat,by omega⟩
   obtain ⟨an,rfl⟩:∃ an:Nat,al=an:=⟨al.toNat,by omega⟩
   obtain ⟨nr,hnr⟩:∃ nr,nr=rl.length:=⟨_,rfl⟩
   rw [<-hnr] at c5 hnk
   have hnr64:nr<=64:=by omega
   have hnri:(nr:Int)<=64:=by omega
   obtain ⟨p,hp⟩:∃ p:List UInt8,p=P1 ++ (L.take k).flatMap (fun m=>secB m.sc):=⟨_,rfl⟩
   have hpl:p.length<=300000:=by
    rw [hp,List.length_append]
    have h1:=flat_le (f:=fun m:Ms=>secB m.sc) (m:=7000) (l:=L.take k) (fun m hm=>secB_len (HOk.out m (List.mem_of_mem_take hm)) (HG.out m (List.mem_of_mem_take hm)))
    have h2:(L.take k).length<=32:=by rw [List.length_take];omega
    have h3:(L.take k).length*7000<=32*7000:=Nat.mul_le_mul_right 7000 h2
    omega
   rw [<-hp] at HSt
   obtain ⟨kv,hkv⟩:∃ kv,kv=keepI kp:=⟨_,rfl⟩
   have hkv1:kv<=1:=by rw [hkv];unfold keepI;split <;> omega
   have HKe:Hid (∀ u,Calls Tryz.prog 37 #[.bool kp] u (Ret (.int .i64 (kv:Int)) u)):=Lib.hid fun u=>by
    have:=keep_any kp u
    rw [hkv];unfold keepI
    cases kp <;> exact this
   obtain ⟨X1,hX1⟩:∃ X1:ByteArray,X1=Wi.textB N:=⟨_,rfl⟩
   obtain ⟨X5,hX5⟩:∃ X5:ByteArray,X5=Wi.textB B:=⟨_,rfl⟩
   obtain ⟨t1,ht1⟩:∃ t1,t1=txtL N.data.toList:=⟨_,rfl⟩
   obtain ⟨t5,ht5⟩:∃ t5,t5=txtL B.data.toList:=⟨_,rfl⟩
   have HT1:Hid (∀ u,Calls Tryz.prog 36 #[.string N] u (RetB (.string X1) u)):=Lib.hid fun u=>by rw [hX1];exact PutText_any N (by omega) u
   have HT5:Hid (∀ u,Calls Tryz.prog 36 #[.string B] u (RetB (.string X5) u)):=Lib.hid fun u=>by rw [hX5];exact PutText_any B (by omega) u
   have e1:t1.length<=41:=by
    have:=HPL.out N.data.toList.length (by omega)
    rw [ht1];unfold txtL;rw [List.length_append];omega
   have e5:t5.length<=4106:=by
    have:=HPL.out B.data.toList.length (by omega)
    rw [ht5];unfold txtL;rw [List.length_append];omega
   have hX1l:X1.data.toList=t1:=by rw [hX1,ht1,textB_list]
   have hX5l:X5.data.toList=t5:=by rw [hX5,ht5,textB_list]
   have hX1s:X1.size<=41:=by rw [<-ba_size,hX1l];exact e1
   have hX5s:X5.size<=4106:=by rw [<-ba_size,hX5l];exact e5
   have HW1:Hid (∀ (l:List UInt8) (u:World),St b l u->l.length<=900000000->b<=u.heap.size->Calls Tryz.prog 34 #[.pointer (some ⟨b,0,none⟩),.string X1] u fun e u'=>e=.returned (.tuple #[.int .i64 X1.size,.nilIface])/\St b (l ++ t1) u'/\KU b u u'):=Lib.hid fun l u h hl hb=>by
    have:=ws_any b l X1 u h (by omega) hb
    rwa [hX1l] at this
   have HW5:Hid (∀ (l:List UInt8) (u:World),St b l u->l.length<=900000000->b<=u.heap.size->Calls Tryz.prog 34 #[.pointer (some ⟨b,0,none⟩),.string X5] u fun e u'=>e=.returned (.tuple #[.int .i64 X5.size,.nilIface])/\St b (l ++ t5) u'/\KU b u u'):=Lib.hid fun l u h hl hb=>by
    have:=ws_any b l X5 u h (by omega) hb
    rwa [hX5l] at this
   have HNa:=Lib.hid (HNum.out kn (by omega))
   have HNb:=Lib.hid (HNum.out kv (by omega))
   have HNc:=Lib.hid (HNum.out an (by omega))
   have HNd:=Lib.hid (HNum.out nr (by omega))
   have d2:=HPL.out kn (by omega)
   have d3:=HPL.out kv (by omega)
   have d4:=HPL.out an (by omega)
   have d6:=HPL.out nr (by omega)
   generalize hv2:putL kn=v2 at HNa d2
   generalize hv3:putL kv=v3 at HNb d3
   generalize hv4:putL an=v4 at HNc d4
   generalize hv6:putL nr=v6 at HNd d6
   have HSecB:Hid (P1 ++ (L.take (k+1)).flatMap (fun m=>secB m.sc)=p ++ t1 ++ v2 ++ v3 ++ v4 ++ t5 ++ v6 ++ rl.flatMap relB):=Lib.hid (by
    rw [htk,<-List.append_assoc,<-hp]
    unfold secB
    simp only [Int.toNat_natCast,<-hnr,<-hkv,hv2,hv3,hv4,hv6,<-ht1,<-ht5,List.append_assoc])
   have HRl:Hid (SL rlC 4 w w.heap.size ad nr rl):=Lib.hid hnk
   have HNr:=Lib.hid hnr
   have HRok:=Lib.hid o8
   have HRg:=Lib.hid hgr
   obtain ⟨Z,hZ⟩:∃ Z,Z=wx.heap.size:=⟨_,rfl⟩
   have HEZ:=Lib.hid hZ
   have HA2:Hid (Below wx.heap.size wx (wx.alloc (.cells #[.string N,.int .i64 (kn:Int),.bool kp,.int .i64 (an:Int),.string B,.slice ad nr cp] 57))):=Lib.hid ((Below.refl _ wx).alloc (Nat.le_refl _) _)
   have HRZ:Hid (RB (wx.alloc (.cells #[.string N,.int .i64 (kn:Int),.bool kp,.int .i64 (an:Int),.string B,.slice ad nr cp] 57)) Z #[.string N,.int .i64 (kn:Int),.bool kp,.int .i64 (an:Int),.string B,.slice ad nr cp] 57):=Lib.hid (by rw [hZ];exact (MapKept.heap_alloc wx _).1)
   have HNZ:Hid (Z ≠ b):=Lib.hid (by
    have h1:=HK.out.below.size
    rcases HSt.out with ⟨-,v,hh,-⟩ | ⟨-,v,hh,-⟩
    ·have:=lt_of_block hh;omega
    ·have:=lt_of_block hh;omega)
   replace HK:=Lib.hid (HK.out.add HLe.out HA2.out)
   replace HSt:=Lib.hid (HSt.out.next HA2.out)
   replace HRX:=Lib.hid (HRX.out.next HA2.out)
   clear hnk hnr o8 hgr hZ hX1 hX5 ht1 ht5 hX1l hX5l hv2 hv3 hv4 hv6 htk hp hkv hgk hB o1 o2 o3 o4 o5 o6 o7
   go_wp2_with fail
   clear c0 c1 c2 c3 c4 c5
   try rw [<-HEZ.out]
   generalize (wx.alloc (.cells #[.string N,.int .i64 (kn:Int),.bool kp,.int .i64 (an:Int),.string B,.slice ad nr cp] 57))=W at HA2 HRZ HK HSt HRX ⊢
   clear HEZ HA2
   refine (HT1.out _).mono ?_
   rintro e u ⟨rfl,hb⟩
   replace HK:=Lib.hid (HK.out.add HLe.out hb)
   replace HSt:=Lib.hid (HSt.out.next hb)
   replace HRX:=Lib.hid (HRX.out.next hb)
   replace HRZ:=Lib.hid (HRZ.out.next hb)
   clear hb
   go_wp2_with fail
   refine (HW1.out _ _ HSt.out (by first | omega | (simp only [List.length_append];omega)) (HK.out.le HLe.out)).mono ?_
   rintro e u ⟨rfl,hst,hku⟩
   replace HK:=Lib.hid (HK.out.trans hku)
   replace HSt:=Lib.hid hst
   replace HRX:=Lib.hid (HRX.out.ku hku (by decide) HNX.out)
   replace HRZ:=Lib.hid (HRZ.out.ku hku (by decide) HNZ.out)
   clear hst hku
   have z_1:u.cell? ⟨Z,1,none⟩=some (.int .i64 (kn:Int)):=HRZ.out.cell
   go_wp2_with fail
   clear z_1
   refine (HNa.out _ _ HSt.out (by first | omega | (simp only [List.length_append];omega)) (HK.out.le HLe.out)).mono ?_
   rintro e u ⟨rfl,hst,hku⟩
   replace HK:=Lib.hid (HK.out.trans hku)
   replace HSt:=Lib.hid hst
   replace HRX:=Lib.hid (HRX.out.ku hku (by decide) HNX.out)
   replace HRZ:=Lib.hid (HRZ.out.ku hku (by decide) HNZ.out)
   clear hst hku
   have z_2:u.cell? ⟨Z,2,none⟩=some (.bool kp):=HRZ.out.cell
   go_wp2_with fail
   clear z_2
   refine (HKe.out _).mono ?_
   rintro e u0 ⟨rfl,rfl⟩
   go_wp2_with fail
   refine (HNb.out _ _ HSt.out (by first | omega | (simp only [List.length_append];omega)) (HK.out.le HLe.out)).mono ?_
   rintro e u ⟨rfl,hst,hku⟩
   replace HK:=Lib.hid (HK.out.trans hku)
   replace HSt:=Lib.hid hst
   replace HRX:=Lib.hid (HRX.out.ku hku (by decide) HNX.out)
   replace HRZ:=Lib.hid (HRZ.out.ku hku (by decide) HNZ.out)
   clear hst hku
   have z_3:u.cell? ⟨Z,3,none⟩=some (.int .i64 (an:Int)):=HRZ.out.cell
   go_wp2_with fail
   clear z_3
   refine (HNc.out _ _ HSt.out (by first | omega | (simp only [List.length_append];omega)) (HK.out.le HLe.out)).mono ?_
   rintro e u ⟨rfl,hst,hku⟩
   replace HK:=Lib.hid (HK.out.trans hku)
   replace HSt:=Lib.hid hst
   replace HRX:=Lib.hid (HRX.out.ku hku (by decide) HNX.out)
   replace HRZ:=Lib.hid (HRZ.out.ku hku (by decide) HNZ.out)
   clear hst hku
   have z_4:u.cell? ⟨Z,4,none⟩=some (.string B):=HRZ.out.cell
   go_wp2_with fail
   clear z_4
   refine (HT5.out _).mono ?_
   rintro e u ⟨rfl,hb⟩
   replace HK:=Lib.hid (HK.out.add HLe.out hb)
   replace HSt:=Lib.hid (HSt.out.next hb)
   replace HRX:=Lib.hid (HRX.out.next hb)
   replace HRZ:=Lib.hid (HRZ.out.next hb)
   clear hb
   go_wp2_with fail
   refine (HW5.out _ _ HSt.out (by first | omega | (simp only [List.length_append];omega)) (HK.out.le HLe.out)).mono ?_
   rintro e u ⟨rfl,hst,hku⟩
   replace HK:=Lib.hid (HK.out.trans hku)
   replace HSt:=Lib.hid hst
   replace HRX:=Lib.hid (HRX.out.ku hku (by decide) HNX.out)
   replace HRZ:=Lib.hid (HRZ.out.ku hku (by decide) HNZ.out)
   clear hst hku
   have z_5:u.cell? ⟨Z,5,none⟩=some (.slice ad nr cp):=HRZ.out.cell
   go_wp2_with fail
   clear z_5
   refine (HNd.out _ _ HSt.out (by first | omega | (simp only [List.length_append];omega)) (HK.out.le HLe.out)).mono ?_
   rintro e u ⟨rfl,hst,hku⟩
   replace HK:=Lib.hid (HK.out.trans hku)
   replace HSt:=Lib.hid hst
   replace HRX:=Lib.hid (HRX.out.ku hku (by decide) HNX.out)
   replace HRZ:=Lib.hid (HRZ.out.ku hku (by decide) HNZ.out)
   clear hst hku
   have z_5:u.cell? ⟨Z,5,none⟩=some (.slice ad nr cp):=HRZ.out.cell
   go_wp2
   clear z_5
   obtain ⟨g,hgp⟩:∃ g:List UInt8,g=p ++ t1 ++ v2 ++ v3 ++ v4 ++ t5 ++ v6:=⟨_,rfl⟩
   have hgl:g.length<=310000:=by rw [hgp];simp only [List.length_append];omega
   rw [<-hgp] at HSecB HSt
   have HKs:=Lib.hid HK.out
   have HSts:=Lib.hid HSt.out
   clear hgp HK HSt HRZ HNZ e1 e5 d2 d3 d4 d6 hpl
   go_loopw [58] (fun i wr=>∃ (j:Nat) (wy:World),wy=wr/\j<=nr/\i=.int .i64 j/\KU b W0 wy/\RB wy X #[.slice (some ⟨bb,off,none⟩) n c,.slice a2 n2 c2] 25/\St b (g ++ (rl.take j).flatMap relB) wy) (fun i _=>nr - (intOf i).toNat)
   case atStart=>exact ⟨0,_,rfl,by omega,rfl,HKs.out,HRX.out,by simpa using HSts.out⟩
   case round=>
    clear HKs HSts HRX
    obtain ⟨j,wy,rfl,hj,rfl,hkx,hrx,hst0⟩:=hrel
    have HK:=Lib.hid hkx
    have HRX:=Lib.hid hrx
    have HSt:=Lib.hid hst0
    clear hkx hrx hst0
    by_cases hlt2:j < nr
    ·have hlti2:(j:Int) < (nr:Int):=by omega
     have hj1:j < rl.length:=by have:=HNr.out;omega
     obtain ⟨b2,off2,rfl,hB2,hc2⟩:=(HRl.out.next (KU.up HW0.out HBw.out HK.out)).cells (HRl.out.ne hlt2)
     obtain ⟨d0,d1,d2,d3⟩:=rl_cells (fun q hq=>hc2 j hj1 q hq)
     have hro:=HRok.out rl[j] (List.getElem_mem hj1)
     have hrg:=HRg.out rl[j] (List.getElem_mem hj1)
     have htk:=take_map_succ (f:=relB) hj1
     obtain ⟨x,hx⟩:∃ x,x=rl[j]:=⟨_,rfl⟩
     rw [<-hx] at d0 d1 d2 d3 hro hrg htk
     clear hx hc2
     obtain ⟨r0,r1,r2,r3⟩:=x
     obtain ⟨o1,o2,o3,o4,o5⟩:=hro
     simp only [] at d0 d1 d2 d3 o1 o2 o3 o4 o5
     have hdl:B.data.toList.length<=4096:=by simpa using hBs
     obtain ⟨r0,rfl⟩:∃ m:Nat,r0=m:=⟨r0.toNat,by omega⟩
     obtain ⟨r1,rfl⟩:∃ m:Nat,r1=m:=⟨r1.toNat,by omega⟩
     obtain ⟨r2,rfl⟩:∃ m:Nat,r2=m:=⟨r2.toNat,by omega⟩
     have hr2:(r2:Int)<=9223372036854775807:=hrg.2.2.1.2
     have hr3:i64ok r3:=hrg.2.2.2
     obtain ⟨p,hp⟩:∃ p:List UInt8,p=g ++ (rl.take j).flatMap relB:=⟨_,rfl⟩
     have hpl:p.length<=400000:=by
      rw [hp,List.length_append]
      have h1:=flat_le (f:=relB) (m:=40) (l:=rl.take j) (fun r hr=>relB_len (HRok.out r (List.mem_of_mem_take hr)) hdl (HRg.out r (List.mem_of_mem_take hr)).2.2.2 (HRg.out r (List.mem_of_mem_take hr)).2.2.1)
      have h2:(rl.take j).length<=64:=by rw [List.length_take];omega
      have h3:(rl.take j).length*40<=64*40:=Nat.mul_le_mul_right 40 h2
      omega
     rw [<-hp] at HSt
     obtain ⟨X3,hX3⟩:∃ X3:ByteArray,X3=putB (zig r3):=⟨_,rfl⟩
     have hX3l:X3.data.toList=putL (zig r3):=by rw [hX3,putB_list]
     have hzl:=zig_lt hr3.1 hr3.2
     have d7:=HPL.out (zig r3) hzl
     have hX3s:X3.size<=10:=by rw [<-ba_size,hX3l];exact d7
     have HT3:Hid (∀ u,Calls Tryz.prog 38 #[.int .i64 r3] u (RetB (.string X3) u)):=Lib.hid fun u=>by rw [hX3];exact PutInt_any r3 hr3.1 hr3.2 u
     have HW3:Hid (∀ (l:List UInt8) (u:World),St b l u->l.length<=900000000->b<=u.heap.size->Calls Tryz.prog 34 #[.pointer (some ⟨b,0,none⟩),.string X3] u fun e u'=>e=.returned (.tuple #[.int .i64 X3.size,.nilIface])/\St b (l ++ (putL (zig r3))) u'/\KU b u u'):=Lib.hid fun l u h hl hb=>by
      have:=ws_any b l X3 u h (by omega) hb
      rwa [hX3l] at this
     have HNa:=Lib.hid (HNum.out r0 (by omega))
     have HNb:=Lib.hid (HNum.out r1 (by omega))
     have HNc:=Lib.hid (HNum.out r2 (by omega))
     have d4:=HPL.out r0 (by omega)
     have d5:=HPL.out r1 (by omega)
     have d6:=HPL.out r2 (by omega)
     have HRelB:Hid (g ++ (rl.take (j+1)).flatMap relB=p ++ putL r0 ++ putL r1 ++ putL r2 ++ putL (zig r3)):=Lib.hid (by
      rw [htk,<-List.append_assoc,<-hp]
      unfold relB
      simp only [Int.toNat_natCast,List.append_assoc])
     generalize putL r0=v0 at HNa d4 HRelB
     generalize putL r1=v1 at HNb d5 HRelB
     generalize putL r2=v2 at HNc d6 HRelB
     generalize putL (zig r3)=v3 at HW3 d7 HRelB hX3l
     obtain ⟨Y,hY⟩:∃ Y,Y=wy.heap.size:=⟨_,rfl⟩
     have HEY:=Lib.hid hY
     have HA2:Hid (Below wy.heap.size wy (wy.alloc (.cells #[.int .i64 (r0:Int),.int .i64 (r1:Int),.int .i64 (r2:Int),.int .i64 r3] 82))):=Lib.hid ((Below.refl _ wy).alloc (Nat.le_refl _) _)
     have HRY:Hid (RB (wy.alloc (.cells #[.int .i64 (r0:Int),.int .i64 (r1:Int),.int .i64 (r2:Int),.int .i64 r3] 82)) Y #[.int .i64 (r0:Int),.int .i64 (r1:Int),.int .i64 (r2:Int),.int .i64 r3] 82):=Lib.hid (by rw [hY];exact (MapKept.heap_alloc wy _).1)
     have HNY:Hid (Y ≠ b):=Lib.hid (by
      rcases HSt.out with ⟨-,v,hh,-⟩ | ⟨-,v,hh,-⟩
      ·have:=lt_of_block hh;omega
      ·have:=lt_of_block hh;omega)
     replace HK:=Lib.hid (HK.out.add HLe.out HA2.out)
     replace HSt:=Lib.hid (HSt.out.next HA2.out)
     replace HRX:=Lib.hid (HRX.out.next HA2.out)
     clear hY hX3 hX3l htk hp hB2 o1 o2 o3 o4 o5 hr2 hr3 hrg hzl hdl
     go_wp2_with fail
     clear d0 d1 d2 d3
     try rw [<-HEY.out]
     generalize (wy.alloc (.cells #[.int .i64 (r0:Int),.int .i64 (r1:Int),.int .i64 (r2:Int),.int .i64 r3] 82))=W at HA2 HRY HK HSt HRX ⊢
     clear HEY HA2
     refine (HNa.out _ _ HSt.out (by first | omega | (simp only [List.length_append];omega)) (HK.out.le HLe.out)).mono ?_
     rintro e u ⟨rfl,hst,hku⟩
     replace HK:=Lib.hid (HK.out.trans hku)
     replace HSt:=Lib.hid hst
     replace HRX:=Lib.hid (HRX.out.ku hku (by decide) HNX.out)
     replace HRY:=Lib.hid (HRY.out.ku hku (by decide) HNY.out)
     clear hst hku
     have y_1:u.cell? ⟨Y,1,none⟩=some (.int .i64 (r1:Int)):=HRY.out.cell
     go_wp2_with fail
     clear y_1
     refine (HNb.out _ _ HSt.out (by first | omega | (simp only [List.length_append];omega)) (HK.out.le HLe.out)).mono ?_
     rintro e u ⟨rfl,hst,hku⟩
     replace HK:=Lib.hid (HK.out.trans hku)
     replace HSt:=Lib.hid hst
     replace HRX:=Lib.hid (HRX.out.ku hku (by decide) HNX.out)
     replace HRY:=Lib.hid (HRY.out.ku hku (by decide) HNY.out)
     clear hst hku
     have y_2:u.cell? ⟨Y,2,none⟩=some (.int .i64 (r2:Int)):=HRY.out.cell
     go_wp2_with fail
     clear y_2
     refine (HNc.out _ _ HSt.out (by first | omega | (simp only [List.length_append];omega)) (HK.out.le HLe.out)).mono ?_
     rintro e u ⟨rfl,hst,hku⟩
     replace HK:=Lib.hid (HK.out.trans hku)
     replace HSt:=Lib.hid hst
     replace HRX:=Lib.hid (HRX.out.ku hku (by decide) HNX.out)
     replace HRY:=Lib.hid (HRY.out.ku hku (by decide) HNY.out)
     clear hst hku
     have y_3:u.cell? ⟨Y,3,none⟩=some (.int .i64 r3):=HRY.out.cell
     go_wp2_with fail
     clear y_3
     refine (HT3.out _).mono ?_
     rintro e u ⟨rfl,hb⟩
     replace HK:=Lib.hid (HK.out.add HLe.out hb)
     replace HSt:=Lib.hid (HSt.out.next hb)
     replace HRX:=Lib.hid (HRX.out.next hb)
     replace HRY:=Lib.hid (HRY.out.next hb)
     clear hb
     go_wp2_with fail
     refine (HW3.out _ _ HSt.out (by first | omega | (simp only [List.length_append];omega)) (HK.out.le HLe.out)).mono ?_
     rintro e u ⟨rfl,hst,hku⟩
     replace HK:=Lib.hid (HK.out.trans hku)
     replace HSt:=Lib.hid hst
     replace HRX:=Lib.hid (HRX.out.ku hku (by decide) HNX.out)
     replace HRY:=Lib.hid (HRY.out.ku hku (by decide) HNY.out)
     clear hst hku
     go_wp2
     go_roundw
     case rel=>exact ⟨j+1,_,rfl,by omega,by go_num,HK.out,HRX.out,by rw [HRelB.out];exact HSt.out⟩
     case measure=>simp [intOf];omega
    ·have hlti2:¬ (j:Int) < (nr:Int):=by omega
     have HSt2:Hid (St b (P1 ++ (L.take (k+1)).flatMap (fun m=>secB m.sc)) wy):=Lib.hid (by
      have:=HSt.out
      rw [List.take_of_length_le (by have:=HNr.out;omega)] at this
      rw [HSecB.out];exact this)
     go_wp2
     go_roundw
     case rel=>exact ⟨k+1,_,rfl,by omega,by go_num,HK.out,HRX.out,HSt2.out⟩
     case measure=>simp [intOf];omega
  ·have hlti:¬ (k:Int) < (n:Int):=by omega
   obtain ⟨p,hp⟩:∃ p:List UInt8,p=P1 ++ L.flatMap (fun m=>secB m.sc):=⟨_,rfl⟩
   rw [List.take_of_length_le (by have:=HLn.out;omega),<-hp] at HSt
   have hpl:p.length<=300000:=by
    rw [hp,List.length_append]
    have h1:=flat_le (f:=fun m:Ms=>secB m.sc) (m:=7000) (l:=L) (fun m hm=>secB_len (HOk.out m hm) (HG.out m hm))
    have h2:L.length<=32:=by have:=HLn.out;omega
    have h3:L.length*7000<=32*7000:=Nat.mul_le_mul_right 7000 h2
    omega
   have HP:=Lib.hid hp
   clear hp
   have x_1:wx.cell? ⟨X,1,none⟩=some (.slice a2 n2 c2):=HRX.out.cell
   go_wp2_with fail
   clear x_1
   refine (HNum.out n2 (by omega) _ _ HSt.out (by first | omega | (simp only [List.length_append];omega)) (HK.out.le HLe.out)).mono ?_
   rintro e u ⟨rfl,hst,hku⟩
   replace HK:=Lib.hid (HK.out.trans hku)
   replace HSt:=Lib.hid hst
   replace HRX:=Lib.hid (HRX.out.ku hku (by decide) HNX.out)
   clear hst hku
   have x_1:u.cell? ⟨X,1,none⟩=some (.slice a2 n2 c2):=HRX.out.cell
   go_wp2
   clear x_1
   obtain ⟨g,hgp⟩:∃ g:List UInt8,g=p ++ putL n2:=⟨_,rfl⟩
   have hgl:g.length<=310000:=by
    have:=HPL.out n2 (by omega)
    rw [hgp,List.length_append];omega
   rw [<-hgp] at HSt
   have HOE:Hid (O=g ++ l.flatMap symB):=Lib.hid (by rw [HO.out,hgp,HP.out,HP1.out];simp only [List.nil_append])
   have HKs:=Lib.hid HK.out
   have HSts:=Lib.hid HSt.out
   clear hgp HK HSt hpl
   go_loopw [88] (fun i wr=>∃ (j:Nat) (wy:World),wy=wr/\j<=n2/\i=.int .i64 j/\KU b W0 wy/\St b (g ++ (l.take j).flatMap symB) wy) (fun i _=>n2 - (intOf i).toNat)
   case atStart=>exact ⟨0,_,rfl,by omega,rfl,HKs.out,by simpa using HSts.out⟩
   case round=>
    clear HKs HSts HRX
    obtain ⟨j,wy,rfl,hj,rfl,hkx,hst0⟩:=hrel
    have HK:=Lib.hid hkx
    have HSt:=Lib.hid hst0
    clear hkx hst0
    by_cases hlt2:j < n2
    ·have hlti2:(j:Int) < (n2:Int):=by omega
     have hj1:j < l.length:=by have:=HLn2.out;omega
     obtain ⟨b2,off2,rfl,hB2,hc2⟩:=(HS2.out.next (KU.up HW0.out HBw.out HK.out)).cells (HS2.out.ne hlt2)
     obtain ⟨d0,d1,d2,d3⟩:=sy_cells (fun q hq=>hc2 j hj1 q hq)
     have hro:=HOk2.out l[j] (List.getElem_mem hj1)
     have htk:=take_map_succ (f:=symB) hj1
     obtain ⟨x,hx⟩:∃ x,x=l[j]:=⟨_,rfl⟩
     rw [<-hx] at d0 d1 d2 d3 hro htk
     clear hx hc2
     obtain ⟨nm,bi,se,of⟩:=x
     obtain ⟨N,hN⟩:∃ N:ByteArray,N=⟨nm.toArray⟩:=⟨_,rfl⟩
     have hNl:nm=N.data.toList:=by rw [hN]
     simp only [] at d0 d1 d2 d3
     rw [<-hN] at d0
     clear hN
     subst hNl
     obtain ⟨o1,o2,o3,o4,o5,o6,o7⟩:=hro
     simp only [] at o1 o2 o3 o4 o5 o6 o7
     have hNs:N.size<=31:=by simpa using o1
     obtain ⟨bn,rfl⟩:∃ m:Nat,bi=m:=⟨bi.toNat,by omega⟩
     obtain ⟨on,rfl⟩:∃ m:Nat,of=m:=⟨of.toNat,by omega⟩
     obtain ⟨sn,hsn⟩:∃ m:Nat,se+1=m:=⟨(se+1).toNat,by omega⟩
     have hsw:IntKind.i64.wrap (se+1)=(sn:Int):=by rw [IntKind.wrap_i64];omega
     have hsw2:IntKind.i64.wrap (sn:Int)=(sn:Int):=by rw [IntKind.wrap_i64];omega
     obtain ⟨p,hp⟩:∃ p:List UInt8,p=g ++ (l.take j).flatMap symB:=⟨_,rfl⟩
     have hpl:p.length<=400000:=by
      rw [hp,List.length_append]
      have h1:=flat_le (f:=symB) (m:=100) (l:=l.take j) (fun r hr=>symB_len (HOk2.out r (List.mem_of_mem_take hr)))
      have h2:(l.take j).length<=128:=by rw [List.length_take];omega
      have h3:(l.take j).length*100<=128*100:=Nat.mul_le_mul_right 100 h2
      omega
     rw [<-hp] at HSt
     obtain ⟨X1,hX1⟩:∃ X1:ByteArray,X1=Wi.textB N:=⟨_,rfl⟩
     obtain ⟨t1,ht1⟩:∃ t1,t1=txtL N.data.toList:=⟨_,rfl⟩
     have HT1:Hid (∀ u,Calls Tryz.prog 36 #[.string N] u (RetB (.string X1) u)):=Lib.hid fun u=>by rw [hX1];exact PutText_any N (by omega) u
     have e1:t1.length<=41:=by
      have:=HPL.out N.data.toList.length (by omega)
      rw [ht1];unfold txtL;rw [List.length_append];omega
     have hX1l:X1.data.toList=t1:=by rw [hX1,ht1,textB_list]
     have hX1s:X1.size<=41:=by rw [<-ba_size,hX1l];exact e1
     have HW1:Hid (∀ (l:List UInt8) (u:World),St b l u->l.length<=900000000->b<=u.heap.size->Calls Tryz.prog 34 #[.pointer (some ⟨b,0,none⟩),.string X1] u fun e u'=>e=.returned (.tuple #[.int .i64 X1.size,.nilIface])/\St b (l ++ t1) u'/\KU b u u'):=Lib.hid fun l u h hl hb=>by
      have:=ws_any b l X1 u h (by omega) hb
      rwa [hX1l] at this
     have HNa:=Lib.hid (HNum.out bn (by omega))
     have HNb:=Lib.hid (HNum.out sn (by omega))
     have HNc:=Lib.hid (HNum.out on (by omega))
     have d4:=HPL.out bn (by omega)
     have d5:=HPL.out sn (by omega)
     have d6:=HPL.out on (by omega)
     have HSymB:Hid (g ++ (l.take (j+1)).flatMap symB=p ++ t1 ++ putL bn ++ putL sn ++ putL on):=Lib.hid (by
      rw [htk,<-List.append_assoc,<-hp]
      unfold symB
      simp only [Int.toNat_natCast,hsn,<-ht1,List.append_assoc])
     generalize putL bn=v0 at HNa d4 HSymB
     generalize putL sn=v1 at HNb d5 HSymB
     generalize putL on=v2 at HNc d6 HSymB
     obtain ⟨Y,hY⟩:∃ Y,Y=wy.heap.size:=⟨_,rfl⟩
     have HEY:=Lib.hid hY
     have HA2:Hid (Below wy.heap.size wy (wy.alloc (.cells #[.string N,.int .i64 (bn:Int),.int .i64 se,.int .i64 (on:Int)] 66))):=Lib.hid ((Below.refl _ wy).alloc (Nat.le_refl _) _)
     have HRY:Hid (RB (wy.alloc (.cells #[.string N,.int .i64 (bn:Int),.int .i64 se,.int .i64 (on:Int)] 66)) Y #[.string N,.int .i64 (bn:Int),.int .i64 se,.int .i64 (on:Int)] 66):=Lib.hid (by rw [hY];exact (MapKept.heap_alloc wy _).1)
     have HNY:Hid (Y ≠ b):=Lib.hid (by
      rcases HSt.out with ⟨-,v,hh,-⟩ | ⟨-,v,hh,-⟩
      ·have:=lt_of_block hh;omega
      ·have:=lt_of_block hh;omega)
     replace HK:=Lib.hid (HK.out.add HLe.out HA2.out)
     replace HSt:=Lib.hid (HSt.out.next HA2.out)
     have hse:se=(sn:Int) - 1:=by omega
     clear hY hX1 hX1l htk hp hB2 o1 o2 o3 o4 o5 o6 o7 ht1 hsn hse
     go_wp2_with fail
     clear d0 d1 d2 d3
     try rw [<-HEY.out]
     generalize (wy.alloc (.cells #[.string N,.int .i64 (bn:Int),.int .i64 se,.int .i64 (on:Int)] 66))=W at HA2 HRY HK HSt ⊢
     clear HEY HA2
     refine (HT1.out _).mono ?_
     rintro e u ⟨rfl,hb⟩
     replace HK:=Lib.hid (HK.out.add HLe.out hb)
     replace HSt:=Lib.hid (HSt.out.next hb)
     replace HRY:=Lib.hid (HRY.out.next hb)
     clear hb
     go_wp2_with fail
     refine (HW1.out _ _ HSt.out (by first | omega | (simp only [List.length_append];omega)) (HK.out.le HLe.out)).mono ?_
     rintro e u ⟨rfl,hst,hku⟩
     replace HK:=Lib.hid (HK.out.trans hku)
     replace HSt:=Lib.hid hst
     replace HRY:=Lib.hid (HRY.out.ku hku (by decide) HNY.out)
     clear hst hku
     have y_1:u.cell? ⟨Y,1,none⟩=some (.int .i64 (bn:Int)):=HRY.out.cell
     go_wp2_with fail
     clear y_1
     refine (HNa.out _ _ HSt.out (by first | omega | (simp only [List.length_append];omega)) (HK.out.le HLe.out)).mono ?_
     rintro e u ⟨rfl,hst,hku⟩
     replace HK:=Lib.hid (HK.out.trans hku)
     replace HSt:=Lib.hid hst
     replace HRY:=Lib.hid (HRY.out.ku hku (by decide) HNY.out)
     clear hst hku
     have y_2:u.cell? ⟨Y,2,none⟩=some (.int .i64 se):=HRY.out.cell
     go_wp2_with fail
     clear y_2
     refine (HNb.out _ _ HSt.out (by first | omega | (simp only [List.length_append];omega)) (HK.out.le HLe.out)).mono ?_
     rintro e u ⟨rfl,hst,hku⟩
     replace HK:=Lib.hid (HK.out.trans hku)
     replace HSt:=Lib.hid hst
     replace HRY:=Lib.hid (HRY.out.ku hku (by decide) HNY.out)
     clear hst hku
     have y_3:u.cell? ⟨Y,3,none⟩=some (.int .i64 (on:Int)):=HRY.out.cell
     go_wp2_with fail
     clear y_3
     refine (HNc.out _ _ HSt.out (by first | omega | (simp only [List.length_append];omega)) (HK.out.le HLe.out)).mono ?_
     rintro e u ⟨rfl,hst,hku⟩
     replace HK:=Lib.hid (HK.out.trans hku)
     replace HSt:=Lib.hid hst
     replace HRY:=Lib.hid (HRY.out.ku hku (by decide) HNY.out)
     clear hst hku
     go_wp2
     go_roundw
     case rel=>exact ⟨j+1,_,rfl,by omega,by go_num,HK.out,by rw [HSymB.out];exact HSt.out⟩
     case measure=>simp [intOf];omega
    ·have hlti2:¬ (j:Int) < (n2:Int):=by omega
     have HSt2:Hid (St b O wy):=Lib.hid (by
      have:=HSt.out
      rw [List.take_of_length_le (by have:=HLn2.out;omega)] at this
      rw [HOE.out];exact this)
     have HOne:Hid (O ≠ []):=Lib.hid (fun h=>by
      have:=congrArg List.length h
      rw [HO.out] at this
      simp at this)
     have HStr:Hid (Calls Tryz.prog 39 #[.pointer (some ⟨b,0,none⟩)] wy fun e w'=>e=.returned (.string ⟨O.toArray⟩)/\Below b wy w'):=Lib.hid (string_some b b O wy HSt2.out HOne.out)
     have HBY:=Lib.hid (KU.up HW0.out HBw.out HK.out)
     go_wp2_with fail
     refine (HStr.out).mono ?_
     rintro e u ⟨rfl,hb⟩
     have HB5:=Lib.hid (HBY.out.trans (hb.mono HBw.out))
     clear hb
     go_wp2
     go_ret2
     exact ⟨rfl,HB5.out⟩
theorem oPut_any (a:Option Addr) (n c:Nat) (L:List Ms) (a2:Option Addr) (n2 c2:Nat) (l:List Sy) (hn:n<=maxLen) (hn2:n2<=maxLen) (w:World) (hs:SL msC 6 w w.heap.size a n L) (hno:Notes w w.heap.size L) (hg:∀ m ∈ L,GoodSc m.sc) (hs2:SL syC 4 w w.heap.size a2 n2 l) (hg2:∀ s ∈ l,GoodSy s) (hT:TabP w):
  Calls Tryz.prog 8 #[.agg #[.slice a n c,.slice a2 n2 c2]] w (RetB (.tuple #[.string ⟨(putR ⟨L.map (·.sc),l⟩).1.toArray⟩,.int .i64 (putR ⟨L.map (·.sc),l⟩).2]) w):=by
 unfold putR
 cases hq:isO ⟨L.map (·.sc),l⟩
 ·exact oPut_no a n c L a2 n2 c2 l hn hn2 w hs hno hg hs2 hg2 hT hq
 ·exact oPut_yes a n c L a2 n2 c2 l hn hn2 w hs hno hg hs2 hg2 hT hq
end Go.Proofs.YthkolmebokfagaaGreatDoor
namespace Go.Proofs.YthkolmebokfagaaGreatDoor
open Go.RowKit
open Go.ChangeShapes Go.WideShapes Go.Deep Go.RowKit
open Go.Proofs.YthkolmebokfagaaGreatDoor.Wi (getL gv Get_any getL_only getL_kind)
abbrev RO (w:World) (r:Nat) (D:ByteArray):Prop:=RB w r #[.string D] 87
def ThrO (r:Nat) (w:World) (e:Ending) (w':World):Prop:=e=.panicked [{ v:=.iface 90 (.agg #[]),recovered:=false }]/\KP r w w'
def DidO (v:Value) (r:Nat) (D:ByteArray) (w:World) (e:Ending) (w':World):Prop:=e=.returned v/\RO w' r D/\KP r w w'
theorem took_ok (r:Nat) (D:ByteArray) (m:Nat) (hm:m<=D.size) (hD:D.size<=maxLen) (w:World) (h:RO w r D):
  Calls Tryz.prog 95 #[.pointer (some ⟨r,0,none⟩),.int .i64 (m:Int),.int .i64 0] w (DidO (.tuple #[]) r (D.extract m D.size) w):=by
 have H:=Lib.hid h
 have c0:w.cell? ⟨r,0,none⟩=some (.string D):=h.cell
 have f0:w.frozen? ⟨r,0,none⟩=false:=h.frozen
 have hmi:(m:Int)<=(D.size:Int):=by omega
 have hDi:(D.size:Int)<=9223372036854775807:=by unfold maxLen at hD;omega
 clear h hD
 go_enter Tryz.func95,Tryz.ntmps95
 go_wp2
 have HS:=Lib.hid (H.out.set (j:=0) (.string (D.extract m D.size)))
 exact ⟨rfl,_,results_none rfl _ _ _,rfl,HS.out,KP.step r w 0 _⟩
theorem took_no (r:Nat) (m e:Int) (he:e ≠ 0) (w:World):
  Calls Tryz.prog 95 #[.pointer (some ⟨r,0,none⟩),.int .i64 m,.int .i64 e] w (ThrO r w):=by
 have r1:(e != 0)=true:=by rw [bne_iff_ne];exact he
 have r2:(e == 0)=false:=by simp;exact he
 clear he
 go_enter Tryz.func95,Tryz.ntmps95
 go_wp2
 exact ⟨rfl,rfl,KP.refl _ _⟩
theorem onum_ok (r:Nat) (D:ByteArray) (most:Int) (x m:Nat) (hg:getL D.data.toList=(x,m,0)) (hx:(x:Int)<=most) (hmo:most<=9223372036854775807) (hm:m<=D.size) (hD:D.size<=maxLen) (w:World) (h:RO w r D):
  Calls Tryz.prog 72 #[.pointer (some ⟨r,0,none⟩),.int .i64 most] w (DidO (.int .i64 (x:Int)) r (D.extract m D.size) w):=by
 have HGt:Hid (∀ u,Calls Tryz.prog 94 #[.string D] u (Ret (.tuple #[.int .u64 (x:Int),.int .i64 (m:Int),.int .i64 0]) u)):=Lib.hid fun u=>by
  have:=Get_any D u hD
  rw [hg] at this
  exact this
 have HTk:=Lib.hid (fun u (hu:RO u r D)=>took_ok r D m hm hD u hu)
 have H:=Lib.hid h
 have c0:w.cell? ⟨r,0,none⟩=some (.string D):=h.cell
 have hw1:IntKind.u64.wrap most=most:=by rw [IntKind.wrap_u64];omega
 have hw2:IntKind.i64.wrap (x:Int)=(x:Int):=by rw [IntKind.wrap_i64];omega
 have hn:¬ most < (x:Int):=by omega
 clear h hg hD hm
 go_enter Tryz.func72,Tryz.ntmps72
 go_wp2_with fail
 refine (HGt.out _).mono ?_
 rintro e u ⟨rfl,rfl⟩
 clear c0
 go_wp2_with fail
 refine (HTk.out _ H.out).mono ?_
 rintro e u ⟨rfl,hr,hk⟩
 have HR:=Lib.hid hr
 have HK:=Lib.hid hk
 clear hr hk
 go_wp2
 go_ret
 exact ⟨rfl,HR.out,HK.out⟩
theorem onum_bad (r:Nat) (D:ByteArray) (most:Int) (x m e:Nat) (hg:getL D.data.toList=(x,m,e)) (he:e ≠ 0) (hD:D.size<=maxLen) (w:World) (h:RO w r D):
  Calls Tryz.prog 72 #[.pointer (some ⟨r,0,none⟩),.int .i64 most] w (ThrO r w):=by
 have HGt:Hid (∀ u,Calls Tryz.prog 94 #[.string D] u (Ret (.tuple #[.int .u64 (x:Int),.int .i64 (m:Int),.int .i64 (e:Int)]) u)):=Lib.hid fun u=>by
  have:=Get_any D u hD
  rw [hg] at this
  exact this
 have HTk:=Lib.hid (fun u=>took_no r (m:Int) (e:Int) (by omega) u)
 have c0:w.cell? ⟨r,0,none⟩=some (.string D):=h.cell
 clear h hg hD he
 go_enter Tryz.func72,Tryz.ntmps72
 go_wp2_with fail
 refine (HGt.out _).mono ?_
 rintro e u ⟨rfl,rfl⟩
 clear c0
 go_wp2_with fail
 refine (HTk.out _).mono ?_
 rintro e u ⟨rfl,hk⟩
 have HK:=Lib.hid hk
 clear hk
 go_wp2
 exact ⟨rfl,rfl,HK.out⟩
open Go.ChangeShapes Go.WideShapes Go.Deep Go.RowKit
open Go.Proofs.YthkolmebokfagaaGreatDoor.Wi (getL gv Get_any)
theorem object_two (r:Nat) (w:World) (h:RO w r ⟨#[67,76,69,65,84,1,0,0]⟩):
  Calls Tryz.prog 44 #[.pointer (some ⟨r,0,none⟩)] w (DidO (.agg #[.slice none 0 0,.slice none 0 0]) r ⟨#[]⟩ w):=by
 have HCut:Hid (∀ u,Calls Tryz.prog 71 #[.string ⟨#[67,76,69,65,84,1,0,0]⟩,.string ⟨#[67,76,69,65,84,1]⟩] u (Ret (.tuple #[.string ⟨#[0,0]⟩,.bool true]) u)):=Lib.hid fun u=>(Tryz.strings_CutPrefix ⟨#[67,76,69,65,84,1,0,0]⟩ ⟨#[67,76,69,65,84,1]⟩ u).mono fun e w' h=>⟨h.1.trans (by kernel_rfl),h.2.symm⟩
 have hr:=lt_of_block h
 obtain ⟨X,hX⟩:∃ X,X=w.heap.size:=⟨_,rfl⟩
 have hXr:X ≠ r:=by omega
 have HXr:=Lib.hid hXr
 have HXE:=Lib.hid hX
 have HA:Hid (Below w.heap.size w (w.alloc (.cells #[.slice none 0 0,.slice none 0 0] 25))):=Lib.hid ((Below.refl _ w).alloc (Nat.le_refl _) _)
 have HRr:Hid (RO (w.alloc (.cells #[.slice none 0 0,.slice none 0 0] 25)) r ⟨#[67,76,69,65,84,1,0,0]⟩):=Lib.hid (h.next HA.out)
 have HRX:Hid (RB (w.alloc (.cells #[.slice none 0 0,.slice none 0 0] 25)) X #[.slice none 0 0,.slice none 0 0] 25):=Lib.hid (by rw [hX];exact (MapKept.heap_alloc w _).1)
 have HK:Hid (KP r w (w.alloc (.cells #[.slice none 0 0,.slice none 0 0] 25))):=Lib.hid ((KP.refl r w).lies _)
 clear hX hr h hXr
 go_enter Tryz.func44,Tryz.ntmps44
 have c0:(w.alloc (.cells #[.slice none 0 0,.slice none 0 0] 25)).cell? ⟨r,0,none⟩=some (.string ⟨#[67,76,69,65,84,1,0,0]⟩):=HRr.out.cell
 have f0:(w.alloc (.cells #[.slice none 0 0,.slice none 0 0] 25)).frozen? ⟨r,0,none⟩=false:=HRr.out.frozen
 go_wp2_with fail
 try rw [<-HXE.out]
 generalize w.alloc (.cells #[.slice none 0 0,.slice none 0 0] 25)=W at HA HRr HRX HK c0 f0 ⊢
 refine (HCut.out _).mono ?_
 rintro e u ⟨rfl,rfl⟩
 have HRr2:=Lib.hid (HRr.out.set (j:=0) (.string ⟨#[0,0]⟩))
 have hK2:=HK.out.trans' (KP.step r W 0 (.string ⟨#[0,0]⟩))
 have HRX2:=Lib.hid (HRX.out.kept (KP.step r W 0 (.string ⟨#[0,0]⟩)) HXr.out)
 have HK2:=Lib.hid hK2
 obtain ⟨Y,hY⟩:∃ Y,Y=(W.setCell ⟨r,0,none⟩ (.string ⟨#[0,0]⟩)).heap.size:=⟨_,rfl⟩
 have hYX:X < Y:=by rw [hY];exact lt_of_block HRX2.out
 have hYr:r < Y:=by rw [hY];exact lt_of_block HRr2.out
 have HYE:Hid (Y=W.heap.size):=Lib.hid (by rw [hY];simp [World.setCell])
 have hBA:=(Below.refl (W.setCell ⟨r,0,none⟩ (.string ⟨#[0,0]⟩)).heap.size (W.setCell ⟨r,0,none⟩ (.string ⟨#[0,0]⟩))).alloc (Nat.le_refl _) (.cells #[.slice none 0 0,.slice none 0 0] 25)
 have HRr3:=Lib.hid (HRr2.out.next hBA)
 have HRX3:=Lib.hid (HRX2.out.next hBA)
 have HRY3:Hid (RB ((W.setCell ⟨r,0,none⟩ (.string ⟨#[0,0]⟩)).alloc (.cells #[.slice none 0 0,.slice none 0 0] 25)) Y #[.slice none 0 0,.slice none 0 0] 25):=Lib.hid (by rw [hY];exact (MapKept.heap_alloc _ _).1)
 have HK3:=Lib.hid (HK2.out.lies (.cells #[.slice none 0 0,.slice none 0 0] 25))
 have HYr:Hid (Y ≠ r):=Lib.hid (by omega)
 have HYX:Hid (Y ≠ X):=Lib.hid (by omega)
 clear hK2 hBA HRr2 HRX2 HK2 HRr HRX HK hY hYX hYr HA
 go_wp2_with fail
 clear c0 f0
 try rw [<-HYE.out]
 generalize (W.setCell ⟨r,0,none⟩ (.string ⟨#[0,0]⟩)).alloc (.cells #[.slice none 0 0,.slice none 0 0] 25)=V at HRr3 HRX3 HRY3 HK3 ⊢
 clear HYE
 refine (onum_ok r ⟨#[0,0]⟩ 32 0 1 (by kernel_rfl) (by decide) (by decide) (by decide) (by unfold maxLen;decide) _ HRr3.out).mono ?_
 rintro e u ⟨rfl,hr,hk⟩
 have HRr4:Hid (RO u r ⟨#[0]⟩):=Lib.hid hr
 have HRX4:=Lib.hid (HRX3.out.kept hk HXr.out)
 have HRY4:=Lib.hid (HRY3.out.kept hk HYr.out)
 have HK4:=Lib.hid (HK3.out.trans' hk)
 clear hr hk HRr3 HRX3 HRY3 HK3
 go_wp2
 refine wp_loop_rounds 1 ?_
 rw [rounds_succ]
 go_wp2_with fail
 refine (onum_ok r ⟨#[0]⟩ 128 0 1 (by kernel_rfl) (by decide) (by decide) (by decide) (by unfold maxLen;decide) _ HRr4.out).mono ?_
 rintro e u2 ⟨rfl,hr,hk⟩
 have HRr5:Hid (RO u2 r ⟨#[]⟩):=Lib.hid hr
 have hx5:=HRX4.out.kept hk HXr.out
 have hy5:=HRY4.out.kept hk HYr.out
 have HK5:=Lib.hid (HK4.out.trans' hk)
 clear hr hk HRr4 HRX4 HRY4 HK4
 have y0:u2.cell? ⟨Y,0,none⟩=some (.slice none 0 0):=hy5.cell
 have y1:u2.cell? ⟨Y,1,none⟩=some (.slice none 0 0):=hy5.cell
 have x0:u2.cell? ⟨X,0,none⟩=some (.slice none 0 0):=hx5.cell
 have x1:u2.cell? ⟨X,1,none⟩=some (.slice none 0 0):=hx5.cell
 have xf0:u2.frozen? ⟨X,0,none⟩=false:=hx5.frozen
 have xf1:u2.frozen? ⟨X,1,none⟩=false:=hx5.frozen
 have HQ:Hid (RB ((u2.setCell ⟨X,0,none⟩ (.slice none 0 0)).setCell ⟨X,1,none⟩ (.slice none 0 0)) X #[.slice none 0 0,.slice none 0 0] 25):=Lib.hid (by
  have h0:RB (u2.setCell ⟨X,0,none⟩ (.slice none 0 0)) X #[.slice none 0 0,.slice none 0 0] 25:=hx5.set (j:=0) _
  have h1:RB ((u2.setCell ⟨X,0,none⟩ (.slice none 0 0)).setCell ⟨X,1,none⟩ (.slice none 0 0)) X #[.slice none 0 0,.slice none 0 0] 25:=h0.set (j:=1) _
  exact h1)
 have HKB:Hid (KP r w ((u2.setCell ⟨X,0,none⟩ (.slice none 0 0)).setCell ⟨X,1,none⟩ (.slice none 0 0))):=Lib.hid (by
  refine ⟨?_,?_,?_,?_,?_⟩
  ·exact HK5.out.os
  ·exact HK5.out.tape
  ·exact HK5.out.output
  ·have:=HK5.out.size;simpa [World.setCell] using this
  ·intro k hk hne
   have h1:X ≠ k:=by rw [HXE.out];omega
   rw [Below.heap_setCell _ _ _ _ (fun e=>h1 (by simpa using e.symm)),Below.heap_setCell _ _ _ _ (fun e=>h1 (by simpa using e.symm))]
   exact HK5.out.block k hk hne)
 have HR5:Hid (RO ((u2.setCell ⟨X,0,none⟩ (.slice none 0 0)).setCell ⟨X,1,none⟩ (.slice none 0 0)) r ⟨#[]⟩):=Lib.hid (by
  have:=HRr5.out
  unfold RO RB at*
  rw [Below.heap_setCell _ _ _ _ (fun e=>HXr.out (by simpa using e.symm)),Below.heap_setCell _ _ _ _ (fun e=>HXr.out (by simpa using e.symm))]
  exact this)
 clear hx5 hy5 HRr5
 go_wp2
 refine wp_loop_rounds 1 ?_
 rw [rounds_succ]
 go_wp2
 refine bodyPost_ret (results_cell_row (P:=Tryz.prog) rfl _ _ X 25 _ (0,0) _ rfl HQ.out Tryz.underlying25 rfl (by kernel_rfl)) rfl ?_
 exact ⟨rfl,HR5.out,HKB.out⟩
theorem object_bad (r:Nat) (w:World) (h:RO w r ⟨#[67,76,69,65,84,1,0]⟩):
  Calls Tryz.prog 44 #[.pointer (some ⟨r,0,none⟩)] w (ThrO r w):=by
 have HCut:Hid (∀ u,Calls Tryz.prog 71 #[.string ⟨#[67,76,69,65,84,1,0]⟩,.string ⟨#[67,76,69,65,84,1]⟩] u (Ret (.tuple #[.string ⟨#[0]⟩,.bool true]) u)):=Lib.hid fun u=>(Tryz.strings_CutPrefix ⟨#[67,76,69,65,84,1,0]⟩ ⟨#[67,76,69,65,84,1]⟩ u).mono fun e w' h=>⟨h.1.trans (by kernel_rfl),h.2.symm⟩
 have hr:=lt_of_block h
 obtain ⟨X,hX⟩:∃ X,X=w.heap.size:=⟨_,rfl⟩
 have hXr:X ≠ r:=by omega
 have HXr:=Lib.hid hXr
 have HXE:=Lib.hid hX
 have HA:Hid (Below w.heap.size w (w.alloc (.cells #[.slice none 0 0,.slice none 0 0] 25))):=Lib.hid ((Below.refl _ w).alloc (Nat.le_refl _) _)
 have HRr:Hid (RO (w.alloc (.cells #[.slice none 0 0,.slice none 0 0] 25)) r ⟨#[67,76,69,65,84,1,0]⟩):=Lib.hid (h.next HA.out)
 have HRX:Hid (RB (w.alloc (.cells #[.slice none 0 0,.slice none 0 0] 25)) X #[.slice none 0 0,.slice none 0 0] 25):=Lib.hid (by rw [hX];exact (MapKept.heap_alloc w _).1)
 have HK:Hid (KP r w (w.alloc (.cells #[.slice none 0 0,.slice none 0 0] 25))):=Lib.hid ((KP.refl r w).lies _)
 clear hX hr h hXr
 go_enter Tryz.func44,Tryz.ntmps44
 have c0:(w.alloc (.cells #[.slice none 0 0,.slice none 0 0] 25)).cell? ⟨r,0,none⟩=some (.string ⟨#[67,76,69,65,84,1,0]⟩):=HRr.out.cell
 have f0:(w.alloc (.cells #[.slice none 0 0,.slice none 0 0] 25)).frozen? ⟨r,0,none⟩=false:=HRr.out.frozen
 go_wp2_with fail
 try rw [<-HXE.out]
 generalize w.alloc (.cells #[.slice none 0 0,.slice none 0 0] 25)=W at HA HRr HRX HK c0 f0 ⊢
 refine (HCut.out _).mono ?_
 rintro e u ⟨rfl,rfl⟩
 have HRr2:=Lib.hid (HRr.out.set (j:=0) (.string ⟨#[0]⟩))
 have hK2:=HK.out.trans' (KP.step r W 0 (.string ⟨#[0]⟩))
 have HRX2:=Lib.hid (HRX.out.kept (KP.step r W 0 (.string ⟨#[0]⟩)) HXr.out)
 have HK2:=Lib.hid hK2
 obtain ⟨Y,hY⟩:∃ Y,Y=(W.setCell ⟨r,0,none⟩ (.string ⟨#[0]⟩)).heap.size:=⟨_,rfl⟩
 have hYX:X < Y:=by rw [hY];exact lt_of_block HRX2.out
 have hYr:r < Y:=by rw [hY];exact lt_of_block HRr2.out
 have HYE:Hid (Y=W.heap.size):=Lib.hid (by rw [hY];simp [World.setCell])
 have hBA:=(Below.refl (W.setCell ⟨r,0,none⟩ (.string ⟨#[0]⟩)).heap.size (W.setCell ⟨r,0,none⟩ (.string ⟨#[0]⟩))).alloc (Nat.le_refl _) (.cells #[.slice none 0 0,.slice none 0 0] 25)
 have HRr3:=Lib.hid (HRr2.out.next hBA)
 have HRX3:=Lib.hid (HRX2.out.next hBA)
 have HRY3:Hid (RB ((W.setCell ⟨r,0,none⟩ (.string ⟨#[0]⟩)).alloc (.cells #[.slice none 0 0,.slice none 0 0] 25)) Y #[.slice none 0 0,.slice none 0 0] 25):=Lib.hid (by rw [hY];exact (MapKept.heap_alloc _ _).1)
 have HK3:=Lib.hid (HK2.out.lies (.cells #[.slice none 0 0,.slice none 0 0] 25))
 have HYr:Hid (Y ≠ r):=Lib.hid (by omega)
 have HYX:Hid (Y ≠ X):=Lib.hid (by omega)
 clear hK2 hBA HRr2 HRX2 HK2 HRr HRX HK hY hYX hYr HA
 go_wp2_with fail
 clear c0 f0
 try rw [<-HYE.out]
 generalize (W.setCell ⟨r,0,none⟩ (.string ⟨#[0]⟩)).alloc (.cells #[.slice none 0 0,.slice none 0 0] 25)=V at HRr3 HRX3 HRY3 HK3 ⊢
 clear HYE
 refine (onum_ok r ⟨#[0]⟩ 32 0 1 (by kernel_rfl) (by decide) (by decide) (by decide) (by unfold maxLen;decide) _ HRr3.out).mono ?_
 rintro e u ⟨rfl,hr,hk⟩
 have HRr4:Hid (RO u r ⟨#[]⟩):=Lib.hid hr
 have HRX4:=Lib.hid (HRX3.out.kept hk HXr.out)
 have HRY4:=Lib.hid (HRY3.out.kept hk HYr.out)
 have HK4:=Lib.hid (HK3.out.trans' hk)
 clear hr hk HRr3 HRX3 HRY3 HK3
 go_wp2
 refine wp_loop_rounds 1 ?_
 rw [rounds_succ]
 go_wp2_with fail
 refine (onum_bad r ⟨#[]⟩ 128 0 0 9 (by kernel_rfl) (by decide) (by unfold maxLen;decide) _ HRr4.out).mono ?_
 rintro e u2 ⟨rfl,hk⟩
 have HK5:=Lib.hid (HK4.out.trans' hk)
 clear hk HRr4 HRX4 HRY4 HK4
 go_wp2
 exact ⟨rfl,rfl,HK5.out⟩
open Go.ChangeShapes Go.WideShapes Go.Deep Go.RowKit
abbrev oset (u:World) (B:Nat):World:=(u.setCell ⟨B,0,none⟩ (.slice none 0 0)).setCell ⟨B,1,none⟩ (.slice none 0 0)
theorem oset_rb {u:World} {B:Nat} {v0 v1:Value} (h:RB u B #[v0,v1] 25):RB (oset u B) B #[.slice none 0 0,.slice none 0 0] 25:=by
 have h0:RB (u.setCell ⟨B,0,none⟩ (.slice none 0 0)) B #[.slice none 0 0,v1] 25:=h.set (j:=0) _
 have h1:RB (oset u B) B #[.slice none 0 0,.slice none 0 0] 25:=h0.set (j:=1) _
 exact h1
theorem oset_other {u:World} {B C:Nat} (h:C ≠ B):(oset u B).heap[C]?=u.heap[C]?:=by unfold oset;rw [hother h,hother h]
theorem oset_below {w u:World} {B X:Nat} (h:Below X w u) (hB:X<=B):Below X w (oset u B):=(h.setCell (p:=⟨B,0,none⟩) hB _).setCell (p:=⟨B,1,none⟩) hB _
theorem gcatch (B C:Nat) (v0 v1:Value) (y:Int) (u:TypeId) (pv:Value) (older:List PanicEntry) (w:World) (h1:RB w B #[v0,v1] 25) (h2:RB w C #[.int .i64 y] 28) (hBC:B ≠ C):
  CallsD Tryz.prog 43 #[.pointer (some ⟨B,0,none⟩),.pointer (some ⟨C,0,none⟩)] (.panicking ({ v:=.iface u pv,recovered:=false } :: older)) w fun e u' w'=>
   e=.returned (.tuple #[])/\u'=.panicking ({ v:=.iface u pv,recovered:=true } :: older)/\w'=(oset w B).setCell ⟨C,0,none⟩ (.int .i64 3):=by
 refine callsD_of_wpS Tryz.func43 rfl fun c₀ cs hu=>?_
 apply wpS_seq
 apply wpS_region
 simp [wpOpsS,go_sem,recoverD,hu,Tryz.ntmps43,Exit.thenS]
 refine wpS_cond (t:=true) (by simp [Act.eval,Array.replicate]) ?_
 simp only [if_true]
 have c0:w.cell? ⟨B,0,none⟩=some v0:=h1.cell
 have c1:w.cell? ⟨B,1,none⟩=some v1:=h1.cell
 have q0:w.frozen? ⟨B,0,none⟩=false:=h1.frozen
 have q1:w.frozen? ⟨B,1,none⟩=false:=h1.frozen
 have e0:w.cell? ⟨C,0,none⟩=some (.int .i64 y):=h2.cell
 have e1:w.frozen? ⟨C,0,none⟩=false:=h2.frozen
 refine wpS_of_wp ?_
 go_wp2
 cases c₀
 simp_all [bodyPostS,results,Tryz.results43]
theorem gidle (B C:Nat) (w:World):CallsD Tryz.prog 43 #[.pointer (some ⟨B,0,none⟩),.pointer (some ⟨C,0,none⟩)] .returning w fun e u' w'=>e=.returned (.tuple #[])/\u'=.returning/\w'=w:=by
 refine callsD_of_wpS Tryz.func43 rfl fun c₀ cs hu=>?_
 apply wpS_seq
 apply wpS_region
 simp [wpOpsS,go_sem,recoverD,hu,Tryz.ntmps43,Exit.thenS]
 refine wpS_cond (t:=false) (by simp [Act.eval,Array.replicate]) ?_
 simp only [Bool.false_eq_true,if_false]
 refine wpS_of_wp (wp_skip ?_)
 cases c₀
 simp_all [bodyPostS,results,Tryz.results43]
structure GSt (w u:World) (B:Nat) (D:ByteArray):Prop where
 o:RB u B #[.slice none 0 0,.slice none 0 0] 25
 e:RB u (B+1) #[.int .i64 0] 28
 r:RO u (B+2) D
 k:Below w.heap.size w u
 b:B=w.heap.size
theorem GSt.mk0 (w:World) (D:ByteArray):GSt w (((w.alloc (.cells #[.slice none 0 0,.slice none 0 0] 25)).alloc (.cells #[.int .i64 0] 28)).alloc (.cells #[.string D] 87)) w.heap.size D:=by
 have s1:(w.alloc (.cells #[.slice none 0 0,.slice none 0 0] 25)).heap.size=w.heap.size+1:=World.size_alloc _ _
 have s2:((w.alloc (.cells #[.slice none 0 0,.slice none 0 0] 25)).alloc (.cells #[.int .i64 0] 28)).heap.size=w.heap.size+2:=by rw [World.size_alloc,s1]
 refine ⟨?_,?_,?_,(((Below.refl _ w).alloc (Nat.le_refl _) _).alloc (by rw [s1];omega) _).alloc (by rw [s2];omega) _,rfl⟩
 ·unfold RB
  rw [Below.heap_alloc _ _ _ (by rw [s2];omega),Below.heap_alloc _ _ _ (by rw [s1];omega)];exact (MapKept.heap_alloc _ _).1
 ·unfold RB
  rw [Below.heap_alloc _ _ _ (by rw [s2];omega),<-s1];exact (MapKept.heap_alloc _ _).1
 ·show RB _ _ _ _
  unfold RB
  rw [<-s2];exact (MapKept.heap_alloc _ _).1
theorem GSt.call {w u u':World} {B:Nat} {D D':ByteArray} (h:GSt w u B D) (hR:RO u' (B+2) D') (hK:KP (B+2) u u'):GSt w u' B D':=
 ⟨h.o.kept hK (by omega),h.e.kept hK (by omega),hR,KP.to_below h.k hK (by rw [h.b];omega),h.b⟩
theorem GSt.next {w u u':World} {B:Nat} {D:ByteArray} (h:GSt w u B D) (hb:Below u.heap.size u u'):GSt w u' B D:=h.call (h.r.next hb) (KP.of_below hb)
theorem GSt.put {w u:World} {B:Nat} {D:ByteArray} (h:GSt w u B D):GSt w (oset u B) B D:=
 ⟨oset_rb h.o,(oset_other (by omega)).trans h.e,(oset_other (by omega)).trans h.r,oset_below h.k (by rw [h.b];exact Nat.le_refl _),h.b⟩
theorem Get_bad (w:World) (hT:TabP w):Calls Tryz.prog 10 #[.string ⟨#[67,76,69,65,84,1,0]⟩] w (RetB (.tuple #[.agg #[.slice none 0 0,.slice none 0 0],.int .i64 3]) w):=by
 have hmf:∀ (fn:Fn) (first cap:Array Value) (w:World),(Instr.makeFunc fn first cap).run Tryz.prog w=.ok (.func fn first cap) w:=fun _ _ _ _=>rfl
 have hE:∀ w,(zeroValue 28).run Tryz.prog w=.ok (.int .i64 0) w:=fun w=>by kernel_rfl
 have hZ:∀ w,(zeroValue 25).run Tryz.prog w=.ok (.agg #[.slice none 0 0,.slice none 0 0]) w:=fun w=>by kernel_rfl
 obtain ⟨B,hB⟩:∃ B,B=w.heap.size:=⟨_,rfl⟩
 have HBE:=Lib.hid hB
 have h0:=Lib.hid (GSt.mk0 w ⟨#[67,76,69,65,84,1,0]⟩)
 rw [<-hB] at h0
 have HT:=Lib.hid hT
 clear hT
 go_enter_defers Tryz.func10,Tryz.ntmps10
 go_wp2_with fail
 rw [<-hB]
 clear hB
 try rw [show B+1+1=B+2 from rfl]
 change Hid (GSt w (((w.alloc (.cells #[.slice none 0 0,.slice none 0 0] 25)).alloc (.cells #[.int .i64 0] 28)).alloc (.cells #[.string ⟨#[67,76,69,65,84,1,0]⟩] 87)) B ⟨#[67,76,69,65,84,1,0]⟩) at h0
 generalize ((w.alloc (.cells #[.slice none 0 0,.slice none 0 0] 25)).alloc (.cells #[.int .i64 0] 28)).alloc (.cells #[.string ⟨#[67,76,69,65,84,1,0]⟩] 87)=W0 at h0 ⊢
 refine (object_bad (B+2) _ h0.out.r).mono ?_
 rintro e u1 ⟨rfl,hK⟩
 have HO:=Lib.hid (h0.out.o.kept hK (by omega))
 have HE:=Lib.hid (h0.out.e.kept hK (by omega))
 have HB5:=Lib.hid (KP.to_below h0.out.k hK (by rw [h0.out.b];omega))
 clear hK
 refine leaves_cons (f:=43) (args:=#[.pointer (some ⟨B,0,none⟩),.pointer (some ⟨B+1,0,none⟩)]) (by simp) (by simp [go_sem]) ?_
 refine (gcatch B (B+1) _ _ 0 _ _ [] _ HO.out HE.out (by omega)).mono ?_
 rintro e u' w4 ⟨rfl,rfl,hw4⟩
 have hB4:RB w4 B #[.slice none 0 0,.slice none 0 0] 25:=by rw [hw4];exact (hother (by omega)).trans (oset_rb HO.out)
 have hC4:RB w4 (B+1) #[.int .i64 3] 28:=by rw [hw4];exact RB.set (j:=0) ((oset_other (by omega)).trans HE.out) _
 have hb4:Below w.heap.size w w4:=by
  rw [hw4]
  exact (oset_below HB5.out (by rw [HBE.out];exact Nat.le_refl _)).setCell (p:=⟨B+1,0,none⟩) (by show w.heap.size<=B+1;rw [HBE.out];omega) _
 have b0:w4.cell? ⟨B,0,none⟩=some (.slice none 0 0):=hB4.cell
 have b1:w4.cell? ⟨B,1,none⟩=some (.slice none 0 0):=hB4.cell
 have d0:w4.cell? ⟨B+1,0,none⟩=some (.int .i64 3):=hC4.cell
 simp [Leaves,settle,results,Tryz.results10,go_sem,b0,b1,d0]
 exact ⟨rfl,hb4⟩
theorem Get_two (w:World) (hT:TabP w):Calls Tryz.prog 10 #[.string ⟨#[67,76,69,65,84,1,0,0]⟩] w (RetB (.tuple #[.agg #[.slice none 0 0,.slice none 0 0],.int .i64 0]) w):=by
 have HIs:Hid (∀ u,TabP u->Calls Tryz.prog 15 #[.agg #[.slice none 0 0,.slice none 0 0]] u (RetB (.bool true) u)):=Lib.hid fun u hu=>oIs_any none 0 0 [] none 0 0 [] (by unfold maxLen;decide) (by unfold maxLen;decide) u (SL.nil _ _ _) (by intro m hm;cases hm) (by simp) (SL.nil _ _ _) (by simp) hu
 have hmf:∀ (fn:Fn) (first cap:Array Value) (w:World),(Instr.makeFunc fn first cap).run Tryz.prog w=.ok (.func fn first cap) w:=fun _ _ _ _=>rfl
 have hE:∀ w,(zeroValue 28).run Tryz.prog w=.ok (.int .i64 0) w:=fun w=>by kernel_rfl
 have hZ:∀ w,(zeroValue 25).run Tryz.prog w=.ok (.agg #[.slice none 0 0,.slice none 0 0]) w:=fun w=>by kernel_rfl
 obtain ⟨B,hB⟩:∃ B,B=w.heap.size:=⟨_,rfl⟩
 have HBE:=Lib.hid hB
 have h0:=Lib.hid (GSt.mk0 w ⟨#[67,76,69,65,84,1,0,0]⟩)
 rw [<-hB] at h0
 have HT:=Lib.hid hT
 clear hT
 go_enter_defers Tryz.func10,Tryz.ntmps10
 go_wp2_with fail
 rw [<-hB]
 clear hB
 try rw [show B+1+1=B+2 from rfl]
 change Hid (GSt w (((w.alloc (.cells #[.slice none 0 0,.slice none 0 0] 25)).alloc (.cells #[.int .i64 0] 28)).alloc (.cells #[.string ⟨#[67,76,69,65,84,1,0,0]⟩] 87)) B ⟨#[67,76,69,65,84,1,0,0]⟩) at h0
 generalize ((w.alloc (.cells #[.slice none 0 0,.slice none 0 0] 25)).alloc (.cells #[.int .i64 0] 28)).alloc (.cells #[.string ⟨#[67,76,69,65,84,1,0,0]⟩] 87)=W0 at h0 ⊢
 refine (object_two (B+2) _ h0.out.r).mono ?_
 rintro e u1 ⟨rfl,hR,hK⟩
 have H1:=Lib.hid (h0.out.call hR hK)
 have H2:=Lib.hid (h0.out.call hR hK).put
 clear hR hK h0
 have x0:u1.cell? ⟨B,0,none⟩=some (.slice none 0 0):=H1.out.o.cell
 have x1:u1.cell? ⟨B,1,none⟩=some (.slice none 0 0):=H1.out.o.cell
 have xf0:u1.frozen? ⟨B,0,none⟩=false:=H1.out.o.frozen
 have xf1:u1.frozen? ⟨B,1,none⟩=false:=H1.out.o.frozen
 have z0:(oset u1 B).cell? ⟨B+2,0,none⟩=some (.string ⟨#[]⟩):=H2.out.r.cell
 have z1:(oset u1 B).cell? ⟨B,0,none⟩=some (.slice none 0 0):=H2.out.o.cell
 have z2:(oset u1 B).cell? ⟨B,1,none⟩=some (.slice none 0 0):=H2.out.o.cell
 go_wp2_with fail
 refine (HIs.out _ (HT.out.next H2.out.k)).mono ?_
 rintro e u2 ⟨rfl,hb⟩
 have H3:=Lib.hid (H2.out.next hb)
 have H4:=Lib.hid (H2.out.next hb).put
 clear hb x0 x1 xf0 xf1 z0 z1 z2
 have x0:u2.cell? ⟨B,0,none⟩=some (.slice none 0 0):=H3.out.o.cell
 have x1:u2.cell? ⟨B,1,none⟩=some (.slice none 0 0):=H3.out.o.cell
 have xf0:u2.frozen? ⟨B,0,none⟩=false:=H3.out.o.frozen
 have xf1:u2.frozen? ⟨B,1,none⟩=false:=H3.out.o.frozen
 have z0:(oset u2 B).cell? ⟨B+1,0,none⟩=some (.int .i64 0):=H4.out.e.cell
 have z1:(oset u2 B).frozen? ⟨B+1,0,none⟩=false:=H4.out.e.frozen
 go_wp2
 refine leaves_cons (f:=43) (args:=#[.pointer (some ⟨B,0,none⟩),.pointer (some ⟨B+1,0,none⟩)]) (by simp) (by simp [go_sem]) ?_
 refine (gidle B (B+1) _).mono ?_
 rintro e u' w4 ⟨rfl,rfl,hw4⟩
 have hB4:RB w4 B #[.slice none 0 0,.slice none 0 0] 25:=by rw [hw4];exact (hother (by omega)).trans H4.out.o
 have hC4:RB w4 (B+1) #[.int .i64 0] 28:=by rw [hw4];exact RB.set (j:=0) H4.out.e _
 have hb4:Below w.heap.size w w4:=by
  rw [hw4]
  exact H4.out.k.setCell (p:=⟨B+1,0,none⟩) (by show w.heap.size<=B+1;rw [HBE.out];omega) _
 have b0:w4.cell? ⟨B,0,none⟩=some (.slice none 0 0):=hB4.cell
 have b1:w4.cell? ⟨B,1,none⟩=some (.slice none 0 0):=hB4.cell
 have d0:w4.cell? ⟨B+1,0,none⟩=some (.int .i64 0):=hC4.cell
 simp [Leaves,settle,results,Tryz.results10,go_sem,b0,b1,d0]
 exact ⟨rfl,hb4⟩
open Go.ChangeShapes Go.WideShapes Go.Deep Go.RowKit
theorem he1:putR ⟨[],[]⟩=([67,76,69,65,84,1,0,0],0):=by kernel_rfl
theorem he2:putR ⟨[],[(⟨[],1,-1,0⟩:Sy)]⟩=([],1):=by kernel_rfl
theorem he3:findL ⟨[],[(⟨[97],2,-1,0⟩:Sy)]⟩ [97]=(0,true):=by kernel_rfl
theorem he4:isO ⟨[],[(⟨[97],2,-1,0⟩:Sy)]⟩=true:=by kernel_rfl
theorem held_is (w:World) (hT:TabP w):Calls Tryz.prog 14 #[] w (RetB (.bool true) w):=by
 have H1:Hid (∀ u,TabP u->Calls Tryz.prog 8 #[.agg #[.slice none 0 0,.slice none 0 0]] u (RetB (.tuple #[.string ⟨#[67,76,69,65,84,1,0,0]⟩,.int .i64 0]) u)):=Lib.hid fun u hu=>by
  have:=oPut_any none 0 0 [] none 0 0 [] (by unfold maxLen;decide) (by unfold maxLen;decide) u (SL.nil _ _ _) (by intro m hm;cases hm) (by simp) (SL.nil _ _ _) (by simp) hu
  rw [List.map_nil,he1] at this
  exact this
 have H2:Hid (∀ u,TabP u->Calls Tryz.prog 10 #[.string ⟨#[67,76,69,65,84,1,0,0]⟩] u (RetB (.tuple #[.agg #[.slice none 0 0,.slice none 0 0],.int .i64 0]) u)):=Lib.hid fun u hu=>Get_two u hu
 have H3:Hid (∀ u,TabP u->Calls Tryz.prog 10 #[.string ⟨#[67,76,69,65,84,1,0]⟩] u (RetB (.tuple #[.agg #[.slice none 0 0,.slice none 0 0],.int .i64 3]) u)):=Lib.hid fun u hu=>Get_bad u hu
 have H4:Hid (∀ (u:World) (ad:Option Addr),TabP u->SL syC 4 u u.heap.size ad 1 [(⟨[],1,-1,0⟩:Sy)]->Calls Tryz.prog 8 #[.agg #[.slice none 0 0,.slice ad 1 1]] u (RetB (.tuple #[.string ⟨#[]⟩,.int .i64 1]) u)):=Lib.hid fun u ad hu hs=>by
  have:=oPut_any none 0 0 [] ad 1 1 [(⟨[],1,-1,0⟩:Sy)] (by unfold maxLen;decide) (by unfold maxLen;decide) u (SL.nil _ _ _) (by intro m hm;cases hm) (by simp) hs (by intro s hs;rw [List.mem_singleton] at hs;subst hs;exact ⟨by unfold maxLen;decide,by constructor <;> decide,by constructor <;> decide,by constructor <;> decide⟩) hu
  rw [List.map_nil,he2] at this
  exact this
 have H5:Hid (∀ (u:World) (ad:Option Addr),TabP u->SL syC 4 u u.heap.size ad 1 [(⟨[97],2,-1,0⟩:Sy)]->Calls Tryz.prog 12 #[.agg #[.slice none 0 0,.slice ad 1 1],.string ⟨#[97]⟩] u (RetB (.tuple #[.int .i64 0,.bool true]) u)):=Lib.hid fun u ad hu hs=>by
  have:=oFind_any none 0 0 [] ad 1 1 [(⟨[97],2,-1,0⟩:Sy)] (by unfold maxLen;decide) (by unfold maxLen;decide) u (SL.nil _ _ _) (by intro m hm;cases hm) (by simp) hs (by intro s hs;rw [List.mem_singleton] at hs;subst hs;exact ⟨by unfold maxLen;decide,by constructor <;> decide,by constructor <;> decide,by constructor <;> decide⟩) hu ⟨#[97]⟩
  rw [List.map_nil,show (⟨#[97]⟩:ByteArray).data.toList=[97] from rfl,he3] at this
  exact this
 have H6:Hid (∀ (u:World) (ad:Option Addr),TabP u->SL syC 4 u u.heap.size ad 1 [(⟨[97],2,-1,0⟩:Sy)]->Calls Tryz.prog 15 #[.agg #[.slice none 0 0,.slice ad 1 1]] u (RetB (.bool true) u)):=Lib.hid fun u ad hu hs=>by
  have:=oIs_any none 0 0 [] ad 1 1 [(⟨[97],2,-1,0⟩:Sy)] (by unfold maxLen;decide) (by unfold maxLen;decide) u (SL.nil _ _ _) (by intro m hm;cases hm) (by simp) hs (by intro s hs;rw [List.mem_singleton] at hs;subst hs;exact ⟨by unfold maxLen;decide,by constructor <;> decide,by constructor <;> decide,by constructor <;> decide⟩) hu
  rw [List.map_nil,he4] at this
  exact this
 have HT:=Lib.hid hT
 have HB:Hid (Below w.heap.size w w):=Lib.hid (Below.refl _ w)
 clear hT
 go_enter Tryz.func14,Tryz.ntmps14
 go_wp2_with fail
 refine (H1.out _ (HT.out.next HB.out)).mono ?_
 rintro e u ⟨rfl,hb⟩
 replace HB:=Lib.hid (after HB.out hb)
 clear hb
 go_wp2_with fail
 refine (H2.out _ (HT.out.next HB.out)).mono ?_
 rintro e u ⟨rfl,hb⟩
 replace HB:=Lib.hid (after HB.out hb)
 clear hb
 obtain ⟨X,hX⟩:∃ X,X=u.heap.size:=⟨_,rfl⟩
 have HEX:=Lib.hid hX
 have HA:Hid (Below u.heap.size u (u.alloc (.cells #[.slice none 0 0,.slice none 0 0] 25))):=Lib.hid ((Below.refl _ u).alloc (Nat.le_refl _) _)
 have HRX:Hid (RB (u.alloc (.cells #[.slice none 0 0,.slice none 0 0] 25)) X #[.slice none 0 0,.slice none 0 0] 25):=Lib.hid (by rw [hX];exact (MapKept.heap_alloc u _).1)
 clear hX
 go_wp2_with fail
 try rw [<-HEX.out]
 generalize (u.alloc (.cells #[.slice none 0 0,.slice none 0 0] 25))=W at HA HRX ⊢
 replace HB:Hid (Below w.heap.size w W):=Lib.hid (after HB.out HA.out)
 clear HA HEX
 refine (H3.out _ (HT.out.next HB.out)).mono ?_
 rintro e u ⟨rfl,hb⟩
 replace HB:=Lib.hid (after HB.out hb)
 replace HRX:=Lib.hid (HRX.out.next hb)
 clear hb
 obtain ⟨H,hH⟩:∃ H,H=u.heap.size:=⟨_,rfl⟩
 have HH:=Lib.hid hH
 have HA:Hid (Below u.heap.size u ((u.alloc (.cells #[.slice none 0 0,.slice none 0 0] 25)).alloc (.cells #[.string ⟨#[]⟩,.int .i64 1,.int .i64 (-1),.int .i64 0] 66))):=Lib.hid (((Below.refl _ u).alloc (Nat.le_refl _) _).alloc (by rw [World.size_alloc];omega) _)
 have HRY:Hid (RB ((u.alloc (.cells #[.slice none 0 0,.slice none 0 0] 25)).alloc (.cells #[.string ⟨#[]⟩,.int .i64 1,.int .i64 (-1),.int .i64 0] 66)) H #[.slice none 0 0,.slice none 0 0] 25):=Lib.hid (by
  have:RB (u.alloc (.cells #[.slice none 0 0,.slice none 0 0] 25)) H #[.slice none 0 0,.slice none 0 0] 25:=by rw [hH];exact (MapKept.heap_alloc u _).1
  exact this.next ((Below.refl _ _).alloc (Nat.le_refl _) _))
 have HL:Hid (SL syC 4 ((u.alloc (.cells #[.slice none 0 0,.slice none 0 0] 25)).alloc (.cells #[.string ⟨#[]⟩,.int .i64 1,.int .i64 (-1),.int .i64 0] 66)) ((u.alloc (.cells #[.slice none 0 0,.slice none 0 0] 25)).alloc (.cells #[.string ⟨#[]⟩,.int .i64 1,.int .i64 (-1),.int .i64 0] 66)).heap.size (some ⟨H+1,0,none⟩) 1 [(⟨[],1,-1,0⟩:Sy)]):=Lib.hid (by
  rw [hH,World.size_alloc (u.alloc (.cells #[.slice none 0 0,.slice none 0 0] 25)),<-World.size_alloc u];exact SL.lit (u.alloc (.cells #[.slice none 0 0,.slice none 0 0] 25)) _ [(⟨[],1,-1,0⟩:Sy)] sy_len (by decide) _ rfl 1 rfl)
 replace HRX:=Lib.hid (HRX.out.next HA.out)
 clear hH
 go_wp2_with fail
 try rw [<-HH.out]
 generalize ((u.alloc (.cells #[.slice none 0 0,.slice none 0 0] 25)).alloc (.cells #[.string ⟨#[]⟩,.int .i64 1,.int .i64 (-1),.int .i64 0] 66))=W at HA HRX HRY HL ⊢
 replace HB:Hid (Below w.heap.size w W):=Lib.hid (after HB.out HA.out)
 clear HA HH
 obtain ⟨Y,hY⟩:∃ Y,Y=H:=⟨_,rfl⟩
 rw [<-hY] at HRY
 try rw [<-hY]
 try rw [<-hY] at HL
 clear hY
 refine (H4.out _ _ (HT.out.next HB.out) HL.out).mono ?_
 rintro e u ⟨rfl,hb⟩
 replace HB:=Lib.hid (after HB.out hb)
 replace HRX:=Lib.hid (HRX.out.next hb)
 replace HRY:=Lib.hid (HRY.out.next hb)
 clear hb
 clear HL
 obtain ⟨H2,hH⟩:∃ H2,H2=u.heap.size:=⟨_,rfl⟩
 have HH:=Lib.hid hH
 have HA:Hid (Below u.heap.size u ((u.alloc (.cells #[.string ⟨#[97]⟩,.int .i64 2,.int .i64 (-1),.int .i64 0] 66)).alloc (.cells #[.slice none 0 0,.slice (some ⟨H2,0,none⟩) 1 1] 25))):=Lib.hid (((Below.refl _ u).alloc (Nat.le_refl _) _).alloc (by rw [World.size_alloc];omega) _)
 have HRP:Hid (RB ((u.alloc (.cells #[.string ⟨#[97]⟩,.int .i64 2,.int .i64 (-1),.int .i64 0] 66)).alloc (.cells #[.slice none 0 0,.slice (some ⟨H2,0,none⟩) 1 1] 25)) (H2+1) #[.slice none 0 0,.slice (some ⟨H2,0,none⟩) 1 1] 25):=Lib.hid (by unfold RB;rw [show H2+1=(u.alloc (.cells #[.string ⟨#[97]⟩,.int .i64 2,.int .i64 (-1),.int .i64 0] 66)).heap.size from by rw [World.size_alloc,hH]];exact (MapKept.heap_alloc _ _).1)
 have HL:Hid (SL syC 4 ((u.alloc (.cells #[.string ⟨#[97]⟩,.int .i64 2,.int .i64 (-1),.int .i64 0] 66)).alloc (.cells #[.slice none 0 0,.slice (some ⟨H2,0,none⟩) 1 1] 25)) ((u.alloc (.cells #[.string ⟨#[97]⟩,.int .i64 2,.int .i64 (-1),.int .i64 0] 66)).alloc (.cells #[.slice none 0 0,.slice (some ⟨H2,0,none⟩) 1 1] 25)).heap.size (some ⟨H2,0,none⟩) 1 [(⟨[97],2,-1,0⟩:Sy)]):=Lib.hid (by
  have:SL syC 4 (u.alloc (.cells #[.string ⟨#[97]⟩,.int .i64 2,.int .i64 (-1),.int .i64 0] 66)) (u.alloc (.cells #[.string ⟨#[97]⟩,.int .i64 2,.int .i64 (-1),.int .i64 0] 66)).heap.size (some ⟨H2,0,none⟩) 1 [(⟨[97],2,-1,0⟩:Sy)]:=by rw [hH,World.size_alloc];exact SL.lit u _ [(⟨[97],2,-1,0⟩:Sy)] sy_len (by decide) _ rfl 1 rfl
  exact this.next ((Below.refl _ _).alloc (Nat.le_refl _) _))
 replace HRX:=Lib.hid (HRX.out.next HA.out)
 replace HRY:=Lib.hid (HRY.out.next HA.out)
 have p_0:((u.alloc (.cells #[.string ⟨#[97]⟩,.int .i64 2,.int .i64 (-1),.int .i64 0] 66)).alloc (.cells #[.slice none 0 0,.slice (some ⟨H2,0,none⟩) 1 1] 25)).cell? ⟨H2+1,0,none⟩=some (.slice none 0 0):=HRP.out.cell
 have p_1:((u.alloc (.cells #[.string ⟨#[97]⟩,.int .i64 2,.int .i64 (-1),.int .i64 0] 66)).alloc (.cells #[.slice none 0 0,.slice (some ⟨H2,0,none⟩) 1 1] 25)).cell? ⟨H2+1,1,none⟩=some (.slice (some ⟨H2,0,none⟩) 1 1):=HRP.out.cell
 rw [hH] at p_0 p_1
 clear hH
 go_wp2_with fail
 clear p_0 p_1
 try rw [<-HH.out]
 generalize ((u.alloc (.cells #[.string ⟨#[97]⟩,.int .i64 2,.int .i64 (-1),.int .i64 0] 66)).alloc (.cells #[.slice none 0 0,.slice (some ⟨H2,0,none⟩) 1 1] 25))=W at HA HRX HRY HRP HL ⊢
 replace HB:Hid (Below w.heap.size w W):=Lib.hid (after HB.out HA.out)
 clear HA HH
 obtain ⟨P,hP⟩:∃ P,P=H2+1:=⟨_,rfl⟩
 rw [<-hP] at HRP
 try rw [<-hP]
 clear hP
 refine (H5.out _ _ (HT.out.next HB.out) HL.out).mono ?_
 rintro e u ⟨rfl,hb⟩
 replace HB:=Lib.hid (after HB.out hb)
 replace HRX:=Lib.hid (HRX.out.next hb)
 replace HRY:=Lib.hid (HRY.out.next hb)
 replace HRP:=Lib.hid (HRP.out.next hb)
 replace HL:=Lib.hid (HL.out.next hb)
 clear hb
 have x_0:u.cell? ⟨X,0,none⟩=some (.slice none 0 0):=HRX.out.cell
 have x_1:u.cell? ⟨X,1,none⟩=some (.slice none 0 0):=HRX.out.cell
 have p_0:u.cell? ⟨P,0,none⟩=some (.slice none 0 0):=HRP.out.cell
 have p_1:u.cell? ⟨P,1,none⟩=some (.slice (some ⟨H2,0,none⟩) 1 1):=HRP.out.cell
 go_wp2_with fail
 clear x_0 x_1 p_0 p_1
 refine (H6.out _ _ (HT.out.next HB.out) HL.out).mono ?_
 rintro e u ⟨rfl,hb⟩
 replace HB:=Lib.hid (after HB.out hb)
 replace HRX:=Lib.hid (HRX.out.next hb)
 replace HRY:=Lib.hid (HRY.out.next hb)
 replace HRP:=Lib.hid (HRP.out.next hb)
 replace HL:=Lib.hid (HL.out.next hb)
 clear hb
 go_wp2
 go_ret
 exact retB_bool rfl HB.out
open Go.ChangeShapes Go.WideShapes Go.Deep Go.RowKit
end Go.Proofs.YthkolmebokfagaaGreatDoor
