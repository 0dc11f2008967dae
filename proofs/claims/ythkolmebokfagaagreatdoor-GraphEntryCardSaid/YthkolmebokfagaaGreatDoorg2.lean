/- graph's law: quads. graph: Roots. rows of ints, rows of bools: are two the same. the reference: a unit as a section. the reference's Big of units. graph: an entry among no objects. graph's law: what linked wants of each function. graph's law: linked. graph: units, ints as arguments. -/
import Derived.Test.YthkolmebokfagaaGreatDoorg1
import Derived.Laws.IdiomRangeMap
import Derived.Laws.EntriesVeiled
set_option maxRecDepth 100000
set_option maxHeartbeats 4000000
set_option linter.unusedVariables false
set_option linter.unusedSimpArgs false
namespace Go.Proofs.YthkolmebokfagaaGreatDoor
open Go.RowKit
open Go.ChangeShapes Go.WideShapes Go.Deep Go.RowKit
abbrev zrB (n:Nat):ByteArray:=⟨(List.replicate n (0:UInt8)).toArray⟩
theorem zrB_size (n:Nat):(zrB n).size=n:=by show (List.replicate n (0:UInt8)).toArray.size=n;simp
theorem zrB_add (n:Nat):zrB n ++ ⟨#[0,0,0,0,0,0,0,0]⟩=zrB (n+8):=by
 apply ByteArray.ext
 apply Array.toList_inj.1
 rw [ByteArray.data_append,Array.toList_append]
 show List.replicate n (0:UInt8) ++ [0,0,0,0,0,0,0,0]=List.replicate (n+8) 0
 exact (List.replicate_append_replicate (n:=n) (m:=8) (a:=(0:UInt8)))
def qRel (k:Nat) (x:Int):Rl:=⟨8*k,1,x,0⟩
def qRels:Nat->List Int->List Rl
 | _,[]=>[]
 | k,x :: t=>qRel k x :: qRels (k+1) t
theorem qRels_len:∀ (l:List Int) (k:Nat),(qRels k l).length=l.length
 | [],_=>rfl
 | x :: t,k=>by rw [qRels,List.length_cons,qRels_len t,List.length_cons]
theorem qRels_snoc:∀ (l:List Int) (k:Nat) (x:Int),qRels k (l ++ [x])=qRels k l ++ [qRel (k+l.length) x]
 | [],k,x=>by simp [qRels]
 | y :: t,k,x=>by
  rw [List.cons_append,qRels,qRels_snoc t (k+1) x,qRels,List.length_cons,List.cons_append,show k+1+t.length=k+(t.length+1) from by omega]
def qSec (nm:List UInt8) (R:List Int):Sc:=⟨nm,2,false,0,List.replicate (8*R.length) 0,qRels 0 R⟩
theorem info_ref:(Tryz.prog.info? 119).map (fun i=>(i.zero,i.size,i.bytes))=some (some (.agg #[.int .i64 0,.int .i64 0,.int .i64 0,.int .i64 0]),4,32):=by kernel_rfl
structure UQ (w u:World) (X:Nat) (N D:ByteArray) (rl:List Rl) (a:Option Addr) (c:Nat):Prop where
 xx:RB u X #[.string ⟨#[]⟩,.int .i64 0,.bool false,.int .i64 0,.string ⟨#[]⟩,.slice none 0 0] 63
 yy:RB u (X+1) #[.string N,.int .i64 2,.bool false,.int .i64 0,.string D,.slice a rl.length c] 63
 oo:u.ownsRow (X+2) 119 4 (.slice a rl.length c) rl.length (rl.flatMap rlC)
 kk:Below w.heap.size w u
 ee:X=w.heap.size
theorem UQ.text {w u:World} {X:Nat} {N D:ByteArray} {rl:List Rl} {a:Option Addr} {c:Nat} (h:UQ w u X N D rl a c) (E:ByteArray):UQ w (u.setCell ⟨X+1,4,none⟩ (.string E)) X N E rl a c:=by
 have hx:=h.ee
 refine ⟨(hother (by omega)).trans h.xx,?_,own_kp3 h.oo (KP.step (X+1) u 4 _) (by omega),h.kk.setCell (p:=⟨X+1,4,none⟩) (by show w.heap.size<=X+1;omega) _,h.ee⟩
 exact h.yy.set (j:=4) _
theorem UQ.append {w u w2:World} {X:Nat} {N D:ByteArray} {rl:List Rl} {a a':Option Addr} {c c':Nat} {x:Rl} (h:UQ w u X N D rl a c)
  (hown:w2.ownsRow (X+2) 119 4 (.slice a' (rl.length+1) c') (rl.length+1) (rl.flatMap rlC ++ rlC x)) (hgrow:(u.alloc (.cells (rlA x) 119)).drew.grownBy w2 (Value.slice a rl.length c).ownBlock):
  UQ w (w2.setCell ⟨X+1,5,none⟩ (.slice a' (rl.length+1) c')) X N D (rl ++ [x]) a' c':=by
 have hx:=h.ee
 have hp:X+1 < u.heap.size:=lt_of_block h.yy
 have hbV:Below (X+2) u (u.alloc (.cells (rlA x) 119)).drew:=((Below.refl (X+2) u).alloc (by omega) _).drew
 have hbw:Below (X+2) u w2:=hbV.grown hgrow (by have:=hbV.size;omega) (fun j hj=>(h.oo.lt j hj).1)
 have h1:RB w2 X #[.string ⟨#[]⟩,.int .i64 0,.bool false,.int .i64 0,.string ⟨#[]⟩,.slice none 0 0] 63:=(hbw.block X (by omega)).trans h.xx
 have h2:RB w2 (X+1) #[.string N,.int .i64 2,.bool false,.int .i64 0,.string D,.slice a rl.length c] 63:=(hbw.block (X+1) (by omega)).trans h.yy
 refine ⟨(hother (by omega)).trans h1,?_,?_,(h.kk.trans (hbw.mono (by omega))).setCell (p:=⟨X+1,5,none⟩) (by show w.heap.size<=X+1;omega) _,h.ee⟩
 ·have:=hset (o:=5) (x:=.slice a' (rl.length+1) c') h2
  unfold RB
  simpa using this
 ·have:=own_kp3 hown (KP.step (X+1) w2 5 (.slice a' (rl.length+1) c')) (by omega)
  simpa [List.flatMap_append] using this
theorem UQ.mk0 (w:World) (N:ByteArray):UQ w ((w.alloc (.cells #[.string ⟨#[]⟩,.int .i64 0,.bool false,.int .i64 0,.string ⟨#[]⟩,.slice none 0 0] 63)).alloc (.cells #[.string N,.int .i64 2,.bool false,.int .i64 0,.string ⟨#[]⟩,.slice none 0 0] 63)) w.heap.size N ⟨#[]⟩ [] none 0:=by
 have h:=two_rb (w:=w) (A:=#[.string ⟨#[]⟩,.int .i64 0,.bool false,.int .i64 0,.string ⟨#[]⟩,.slice none 0 0]) (B:=#[.string N,.int .i64 2,.bool false,.int .i64 0,.string ⟨#[]⟩,.slice none 0 0]) (T:=63) (U:=63)
 exact ⟨h.1,h.2.1,World.ownsRow_nil _ _ _ _,h.2.2,rfl⟩
def QuadP (N:ByteArray) (R:List Int) (w:World) (e:Ending) (w':World):Prop:=
 ∃ a c,e=.returned (.agg #[.string N,.int .i64 2,.bool false,.int .i64 0,.string (zrB (8*R.length)),.slice a R.length c])/\w'.ownsRow w.heap.size 119 4 (.slice a R.length c) R.length ((qRels 0 R).flatMap rlC)/\Below w.heap.size w w'
theorem UQ.fin {w u:World} {X:Nat} {N D:ByteArray} {rl:List Rl} {a:Option Addr} {c:Nat} {R:List Int} (h:UQ w u X N D rl a c) (hR:rl=qRels 0 R) (hD:D=zrB (8*R.length)):
  ∃ u',u'=((((((u.setCell ⟨X,0,none⟩ (.string N)).setCell ⟨X,1,none⟩ (.int .i64 2)).setCell ⟨X,2,none⟩ (.bool false)).setCell ⟨X,3,none⟩ (.int .i64 0)).setCell ⟨X,4,none⟩ (.string D)).setCell ⟨X,5,none⟩ (.slice a rl.length c))/\
   RB u' X #[.string N,.int .i64 2,.bool false,.int .i64 0,.string D,.slice a rl.length c] 63/\QuadP N R w (.returned (.agg #[.string N,.int .i64 2,.bool false,.int .i64 0,.string D,.slice a rl.length c])) u':=by
 have hx:=h.ee
 refine ⟨_,rfl,?_,?_⟩
 ·have h0:RB (u.setCell ⟨X,0,none⟩ (.string N)) X #[.string N,.int .i64 0,.bool false,.int .i64 0,.string ⟨#[]⟩,.slice none 0 0] 63:=h.xx.set (j:=0) _
  have h1:RB ((u.setCell ⟨X,0,none⟩ (.string N)).setCell ⟨X,1,none⟩ (.int .i64 2)) X #[.string N,.int .i64 2,.bool false,.int .i64 0,.string ⟨#[]⟩,.slice none 0 0] 63:=h0.set (j:=1) _
  have h2:RB (((u.setCell ⟨X,0,none⟩ (.string N)).setCell ⟨X,1,none⟩ (.int .i64 2)).setCell ⟨X,2,none⟩ (.bool false)) X #[.string N,.int .i64 2,.bool false,.int .i64 0,.string ⟨#[]⟩,.slice none 0 0] 63:=h1.set (j:=2) _
  have h3:RB ((((u.setCell ⟨X,0,none⟩ (.string N)).setCell ⟨X,1,none⟩ (.int .i64 2)).setCell ⟨X,2,none⟩ (.bool false)).setCell ⟨X,3,none⟩ (.int .i64 0)) X #[.string N,.int .i64 2,.bool false,.int .i64 0,.string ⟨#[]⟩,.slice none 0 0] 63:=h2.set (j:=3) _
  have h4:RB (((((u.setCell ⟨X,0,none⟩ (.string N)).setCell ⟨X,1,none⟩ (.int .i64 2)).setCell ⟨X,2,none⟩ (.bool false)).setCell ⟨X,3,none⟩ (.int .i64 0)).setCell ⟨X,4,none⟩ (.string D)) X #[.string N,.int .i64 2,.bool false,.int .i64 0,.string D,.slice none 0 0] 63:=h3.set (j:=4) _
  exact h4.set (j:=5) _
 ·have hK:KP X u ((((((u.setCell ⟨X,0,none⟩ (.string N)).setCell ⟨X,1,none⟩ (.int .i64 2)).setCell ⟨X,2,none⟩ (.bool false)).setCell ⟨X,3,none⟩ (.int .i64 0)).setCell ⟨X,4,none⟩ (.string D)).setCell ⟨X,5,none⟩ (.slice a rl.length c)):=(((((KP.step X u 0 _).trans' (KP.step X _ 1 _)).trans' (KP.step X _ 2 _)).trans' (KP.step X _ 3 _)).trans' (KP.step X _ 4 _)).trans' (KP.step X _ 5 _)
  have ho:=own_kp3 h.oo hK (by omega)
  have hl:rl.length=R.length:=by rw [hR,qRels_len]
  refine ⟨a,c,by rw [hD,hl],?_,?_⟩
  ·rw [<-hl,<-hR]
   refine ⟨ho.1,?_⟩
   rcases ho.2 with hh | ⟨g,cap,cur,hv,hb,r⟩
   ·exact .inl hh
   ·exact .inr ⟨g,cap,cur,hv,by omega,r⟩
  ·exact KP.to_below h.kk hK (by omega)
theorem quads_any (N:ByteArray) (na:Option Addr) (nn nc:Nat) (R:List Int) (w:World) (hs:SL enZ 1 w w.heap.size na nn R) (hn:nn<=100):Calls Tryz.prog 61 #[.string N,.slice na nn nc] w (QuadP N R w):=by
 have HSl:=Lib.hid hs
 have HLn:=Lib.hid hs.len
 have HNn:=Lib.hid hn
 have hni:(nn:Int)<=100:=by omega
 obtain ⟨i0,hi0,hz0,hz1,hz2⟩:=info_parts info_ref
 obtain ⟨X,hX⟩:∃ X,X=w.heap.size:=⟨_,rfl⟩
 have h0:=Lib.hid (UQ.mk0 w N)
 rw [<-hX] at h0
 clear hs hn
 go_enter Tryz.func61,Tryz.ntmps61
 go_wp2
 rw [<-hX]
 clear hX
 generalize ((w.alloc (.cells #[.string ⟨#[]⟩,.int .i64 0,.bool false,.int .i64 0,.string ⟨#[]⟩,.slice none 0 0] 63)).alloc (.cells #[.string N,.int .i64 2,.bool false,.int .i64 0,.string ⟨#[]⟩,.slice none 0 0] 63))=W0 at h0 ⊢
 go_loopw [6] (fun i wr=>∃ (j:Nat) (D:ByteArray) (rl:List Rl) (a:Option Addr) (c:Nat),Hid (UQ w wr X N D rl a c)/\j<=nn/\i=.int .i64 j/\Hid (D=zrB (8*j))/\Hid (rl=qRels 0 (R.take j))) (fun i _=>nn - (intOf i).toNat)
 case atStart=>exact ⟨0,_,[],none,0,h0,by omega,rfl,Lib.hid rfl,Lib.hid rfl⟩
 case round=>
  clear h0
  obtain ⟨j,D,rl,a,c,HQ,hj,rfl,HD,HRl⟩:=hrel
  obtain ⟨q,hq⟩:∃ q,q=rl.length:=⟨_,rfl⟩
  have HQq:=Lib.hid hq
  have hqj:q=j:=by rw [hq,HRl.out,qRels_len,List.length_take];have:=HLn.out;omega
  by_cases hlt:j < nn
  ·have hlti:(j:Int) < (nn:Int):=by omega
   have HLT:=Lib.hid hlt
   have hsl:=HSl.out.below HQ.out.kk
   have hjR:j < R.length:=by have:=HLn.out;omega
   obtain ⟨b,off,hna,hB,hc⟩:=hsl.cells (hsl.ne hlt)
   subst hna
   have d0:=hc j hjR 0 (by omega)
   have HTk:Hid (R.take (j+1)=R.take j ++ [R[j]'hjR]/\(R.take j).length=j):=Lib.hid ⟨by rw [List.take_add_one,List.getElem?_eq_getElem hjR];rfl,by rw [List.length_take];omega⟩
   generalize R[j]'hjR=x at d0 HTk
   simp only [enZ,Nat.add_zero,Nat.mul_one,List.getElem?_cons_zero] at d0
   have hDs:(D.size:Int)=8*(j:Int):=by rw [HD.out,zrB_size];omega
   have y4:wr.cell? ⟨X+1,4,none⟩=some (.string D):=HQ.out.yy.cell
   have yf4:wr.frozen? ⟨X+1,4,none⟩=false:=HQ.out.yy.frozen
   obtain ⟨E,hE⟩:∃ E,E=D ++ (⟨#[0,0,0,0,0,0,0,0]⟩:ByteArray):=⟨_,rfl⟩
   have HE:Hid (E=zrB (8*(j+1))):=Lib.hid (by rw [hE,HD.out,zrB_add];rfl)
   have HQ2:=Lib.hid (HQ.out.text E)
   obtain ⟨m4,hm4⟩:∃ m4,m4=wr.setCell ⟨X+1,4,none⟩ (.string E):=⟨_,rfl⟩
   have H4:Hid (UQ w m4 X N E rl a c):=Lib.hid (by rw [hm4];exact HQ2.out)
   have d1:m4.cell? ⟨b,off+j,none⟩=some (.int .i64 x):=by
    rw [<-d0,hm4];exact World.cell?_of_block (hother (by have:=HQ.out.ee;show b ≠ X+1;omega))
   obtain ⟨p,hp⟩:∃ p:Int,p=8*(j:Int):=⟨_,rfl⟩
   have hpw:IntKind.i64.wrap (8*(j:Int))=p:=by rw [hp,IntKind.wrap_i64];omega
   have HPq:Hid ((⟨p,1,x,0⟩:Rl)=qRel j x):=Lib.hid (by rw [hp,qRel])
   clear hp
   have hX4:X+1 < m4.heap.size:=lt_of_block H4.out.yy
   have hb4:b < m4.heap.size:=by have:=H4.out.kk.size;have:=H4.out.ee;omega
   have dA:(m4.alloc (.cells (rlA ⟨p,1,x,0⟩) 119)).cell? ⟨b,off+j,none⟩=some (.int .i64 x):=(World.cell?_alloc_past (w:=m4) _ _ _ hb4).trans d1
   have y5:m4.cell? ⟨X+1,5,none⟩=some (.slice a rl.length c):=H4.out.yy.cell
   have yf5:m4.frozen? ⟨X+1,5,none⟩=false:=H4.out.yy.frozen
   have tA:(m4.alloc (.cells (rlA ⟨p,1,x,0⟩) 119)).cell? ⟨X+1,5,none⟩=some (.slice a rl.length c):=(World.cell?_alloc_past (w:=m4) _ _ _ hX4).trans y5
   have hxl:Hid (rl.length<=100):=Lib.hid (by omega)
   have hno:Hid ((Value.slice a rl.length c).ownBlock ≠ some (X+1)):=Lib.hid (fun e=>by have:=(H4.out.oo.lt (X+1) e).1;omega)
   simp only [rlA] at dA tA
   clear hsl hjR hc hB d0 hlt HQ2
   have hX4':=Lib.hid hX4
   have hb4':=Lib.hid hb4
   clear hX4 hb4
   go_wp2_with (rw [<-hE,<-hm4])
   clear hE hm4
   (go_region_law (have hl4:=hxl.out;have hX4:=hX4'.out;refine step_append_lies _ (by rfl) _ _ _ (by rfl) (X+2) 119 i0 _ 4 32 Tryz.underlying61 hi0 hz0 hz1 hz2 rfl (by omega) (.slice a rl.length c) rl.length (rl.flatMap rlC) (by rfl) (H4.out.oo.alloc _) ⟨m4.heap.size,0,none⟩ 1 1 (rlC ⟨p,1,x,0⟩) (by rfl) (by rfl) (World.news_of_block (cs:=rlA ⟨p,1,x,0⟩) (t:=119) (fr:=(0,0)) (heap_alloc_new m4 _)) (rl_one _) (by omega) (by unfold maxLen;omega) (by omega) (by simp;omega) (m4.heap.size+1) (by simp) ?_;intro g3 cap w3 hown3 hgrow hat hlt3;have s5:w3.cell? ⟨X+1,5,none⟩=some (.slice a rl.length c):=(hgrow.cell_far _ (by simp;omega) (Ne.symm hno.out)).trans ((World.cell?_alloc_past (w:=m4) _ _ _ hX4).trans y5);have s6:w3.frozen? ⟨X+1,5,none⟩=false:=(hgrow.frozen_far _ (by simp;omega) (Ne.symm hno.out)).trans ((World.frozen?_alloc_past (w:=m4) _ _ _ hX4).trans yf5)))
   all_goals
    have H5:Hid (UQ w (w3.setCell ⟨X+1,5,none⟩ (.slice (some ⟨g3,0,none⟩) (rl.length+1) cap)) X N E (rl ++ [qRel j x]) (some ⟨g3,0,none⟩) cap):=Lib.hid (by rw [<-HPq.out];exact H4.out.append hown3 hgrow)
    have HR5:Hid (rl ++ [qRel j x]=qRels 0 (R.take (j+1))):=Lib.hid (by rw [HTk.out.1,qRels_snoc,HTk.out.2,<-HRl.out,Nat.zero_add])
    clear hown3 hgrow hat hlt3 s5 s6 y5 yf5 tA dA d1 y4 yf4 HQ H4 hl4 hX4 hi0 hz0 hz1 hz2 hDs
    go_wp2
    go_roundw
    case rel=>exact ⟨j+1,E,_,_,_,H5,by have:=HLT.out;omega,by go_num,HE,HR5⟩
    case measure=>have:=HLT.out;simp [intOf];omega
  ·have hnlt:¬ (j:Int) < (nn:Int):=by omega
   have hjn:j=nn:=by omega
   have hRn:R.take j=R:=by rw [hjn,HLn.out,List.take_length]
   have HF:=Lib.hid (HQ.out.fin (R:=R) (by rw [HRl.out,hRn]) (by rw [HD.out,hjn,HLn.out]))
   have y0:wr.cell? ⟨X+1,0,none⟩=some (.string N):=HQ.out.yy.cell
   have y1:wr.cell? ⟨X+1,1,none⟩=some (.int .i64 2):=HQ.out.yy.cell
   have y2:wr.cell? ⟨X+1,2,none⟩=some (.bool false):=HQ.out.yy.cell
   have y3:wr.cell? ⟨X+1,3,none⟩=some (.int .i64 0):=HQ.out.yy.cell
   have y4:wr.cell? ⟨X+1,4,none⟩=some (.string D):=HQ.out.yy.cell
   have y5:wr.cell? ⟨X+1,5,none⟩=some (.slice a rl.length c):=HQ.out.yy.cell
   have x0:wr.cell? ⟨X,0,none⟩=some (.string ⟨#[]⟩):=HQ.out.xx.cell
   have x1:wr.cell? ⟨X,1,none⟩=some (.int .i64 0):=HQ.out.xx.cell
   have x2:wr.cell? ⟨X,2,none⟩=some (.bool false):=HQ.out.xx.cell
   have x3:wr.cell? ⟨X,3,none⟩=some (.int .i64 0):=HQ.out.xx.cell
   have x4:wr.cell? ⟨X,4,none⟩=some (.string ⟨#[]⟩):=HQ.out.xx.cell
   have x5:wr.cell? ⟨X,5,none⟩=some (.slice none 0 0):=HQ.out.xx.cell
   have xf0:wr.frozen? ⟨X,0,none⟩=false:=HQ.out.xx.frozen
   have xf1:wr.frozen? ⟨X,1,none⟩=false:=HQ.out.xx.frozen
   have xf2:wr.frozen? ⟨X,2,none⟩=false:=HQ.out.xx.frozen
   have xf3:wr.frozen? ⟨X,3,none⟩=false:=HQ.out.xx.frozen
   have xf4:wr.frozen? ⟨X,4,none⟩=false:=HQ.out.xx.frozen
   have xf5:wr.frozen? ⟨X,5,none⟩=false:=HQ.out.xx.frozen
   clear hjn hRn hq hqj
   obtain ⟨W9,hW9,hR9,hP9⟩:=HF.out
   have HR9:=Lib.hid hR9
   have HP9:=Lib.hid hP9
   clear hR9 hP9 HF
   go_wp2
   rw [<-hW9]
   exact bodyPost_ret (results_cell_row (P:=Tryz.prog) rfl _ _ X 63 _ (0,0) _ rfl HR9.out Tryz.underlying63 rfl (by kernel_rfl)) rfl HP9.out
open Go.ChangeShapes Go.WideShapes Go.Deep Go.RowKit
def rootsN:Nat->Int->List Sc->List Nat
 | _,_,[]=>[]
 | k,e,s :: t=>if s.keep=true\/(k:Int)=e then k :: rootsN (k+1) e t else rootsN (k+1) e t
theorem rootsN_snoc:∀ (l:List Sc) (k:Nat) (e:Int) (s:Sc),rootsN k e (l ++ [s])=rootsN k e l ++ if s.keep=true\/((k+l.length:Nat):Int)=e then [k+l.length] else []
 | [],k,e,s=>by simp [rootsN]
 | x :: t,k,e,s=>by
  rw [List.cons_append,rootsN,rootsN_snoc t (k+1) e s,rootsN,List.length_cons,show k+1+t.length=k+(t.length+1) from by omega]
  by_cases h:x.keep=true\/(k:Int)=e
  ·rw [if_pos h,if_pos h,List.cons_append]
  ·rw [if_neg h,if_neg h]
theorem rootsN_len:∀ (l:List Sc) (k:Nat) (e:Int),(rootsN k e l).length<=l.length
 | [],_,_=>by simp [rootsN]
 | x :: t,k,e=>by
  have:=rootsN_len t (k+1) e
  rw [rootsN];split <;> simp <;> omega
def RootsR (Ls:List Sc) (e0:Int) (w:World) (e:Ending) (w':World):Prop:=
 if unitsR Ls=true/\0<=e0/\e0 < (Ls.length:Int) then ∃ a c,e=.returned (.tuple #[.slice a (rootsN 0 e0 Ls).length c,.int .i64 0])/\w'.ownsRow w.heap.size 3 1 (.slice a (rootsN 0 e0 Ls).length c) (rootsN 0 e0 Ls).length ((rootsN 0 e0 Ls).flatMap enI)/\Below w.heap.size w w'
 else e=.returned (.tuple #[.slice none 0 0,.int .i64 1])/\Below w.heap.size w w'
theorem rootsR_no {Ls:List Sc} {e0:Int} {w w':World} {e:Ending} (h:¬ (unitsR Ls=true/\0<=e0/\e0 < (Ls.length:Int))) (he:e=.returned (.tuple #[.slice none 0 0,.int .i64 1])) (hb:Below w.heap.size w w'):RootsR Ls e0 w e w':=by
 unfold RootsR;rw [if_neg h];exact ⟨he,hb⟩
structure RQ (w u:World) (l:List Nat) (a:Option Addr) (c:Nat):Prop where
 oo:u.ownsRow w.heap.size 3 1 (.slice a l.length c) l.length (l.flatMap enI)
 kk:Below w.heap.size w u
theorem RQ.alloc {w u:World} {l:List Nat} {a:Option Addr} {c:Nat} (h:RQ w u l a c) (o:Obj):RQ w (u.alloc o) l a c:=
 ⟨h.oo.alloc _,h.kk.alloc h.kk.size _⟩
theorem RQ.grow {w u w2:World} {l:List Nat} {a a':Option Addr} {c c':Nat} {k:Nat} (h:RQ w u l a c) (hown:w2.ownsRow w.heap.size 3 1 (.slice a' (l.length+1) c') (l.length+1) (l.flatMap enI ++ enI k))
  (hgrow:(u.alloc (.cells #[.int .i64 (k:Int)] 3)).grownBy w2 (Value.slice a l.length c).ownBlock):RQ w w2 (l ++ [k]) a' c':=by
 refine ⟨by simpa [List.flatMap_append] using hown,?_⟩
 exact (h.kk.alloc h.kk.size _).grown hgrow (by have:=h.kk.size;rw [World.size_alloc];omega) (fun j hj=>(h.oo.lt j hj).1)
theorem gRoots_any (ua:Option Addr) (un uc:Nat) (L:List Ms) (e0:Int) (w:World) (hun:un<=maxLen) (hs:SL msC 6 w w.heap.size ua un L) (hno:Notes w w.heap.size L) (hg:∀ m ∈ L,GoodSc m.sc) (hb:∀ m ∈ L,m.sc.rels.length*32<=reachBytes) (hT:TabP w):
  Calls Tryz.prog 63 #[.slice ua un uc,.int .i64 e0] w (RootsR (L.map (·.sc)) e0 w):=by
 have hlen:(L.map (·.sc)).length=un:=by rw [List.length_map];exact hs.len.symm
 have hni:(un:Int)<=9223372036854775807:=by unfold maxLen at hun;omega
 have HI:Hid (∀ u,Below w.heap.size w u->Calls Tryz.prog 66 #[.slice ua un uc] u (RetB (.bool (unitsR (L.map (·.sc)))) u)):=Lib.hid fun u hu=>gIs_any ua un uc L u hun (hs.next hu) (hno.next hu) hg hb (hT.next hu)
 have HLn:=Lib.hid hlen
 have HS:=Lib.hid hs
 have HLL:=Lib.hid hs.len
 have HB:Hid (Below w.heap.size w w):=Lib.hid (Below.refl _ w)
 clear hs hno hg hb hT hlen hun
 cases hu:unitsR (L.map (·.sc))
 ·rw [hu] at HI
  have HN:Hid (¬ (unitsR (L.map (·.sc))=true/\0<=e0/\e0 < ((L.map (·.sc)).length:Int))):=Lib.hid (fun h=>by rw [hu] at h;cases h.1)
  clear hu
  go_enter Tryz.func63,Tryz.ntmps63
  go_wp2_with fail
  refine (HI.out _ HB.out).mono ?_
  rintro e u ⟨rfl,hb⟩
  replace HB:=Lib.hid hb
  clear hb
  go_wp2
  go_ret2
  exact rootsR_no HN.out rfl HB.out
 ·rw [hu] at HI
  have HU:=Lib.hid hu
  clear hu
  by_cases hk:e0 < 0\/(un:Int)<=e0
  ·have HN:Hid (¬ (unitsR (L.map (·.sc))=true/\0<=e0/\e0 < ((L.map (·.sc)).length:Int))):=Lib.hid (fun h=>by rw [HLn.out] at h;omega)
   have hcs:e0 < 0\/(¬ e0 < 0/\(un:Int)<=e0):=by omega
   clear hk
   rcases hcs with h1 | ⟨h1,h2⟩
   all_goals
    go_enter Tryz.func63,Tryz.ntmps63
    go_wp2_with fail
    refine (HI.out _ HB.out).mono ?_
    rintro e u ⟨rfl,hb⟩
    replace HB:=Lib.hid hb
    clear hb
    go_wp2
    go_ret2
    exact rootsR_no HN.out rfl HB.out
  have h1:¬ e0 < 0:=fun h=>hk (.inl h)
  have h2:¬ (un:Int)<=e0:=fun h=>hk (.inr h)
  have HY:Hid (unitsR (L.map (·.sc))=true/\0<=e0/\e0 < ((L.map (·.sc)).length:Int)):=Lib.hid ⟨HU.out,by omega,by rw [HLn.out];omega⟩
  have HM:Hid (un<=256):=Lib.hid (by rw [<-HLn.out];exact units_len HU.out)
  obtain ⟨i0,hi,hz0,hz1,hz2⟩:=info_parts info_intG
  clear hk
  go_enter Tryz.func63,Tryz.ntmps63
  go_wp2_with fail
  refine (HI.out _ HB.out).mono ?_
  rintro e u ⟨rfl,hb⟩
  have HQ0:Hid (RQ w u [] none 0):=Lib.hid ⟨World.ownsRow_nil _ _ _ _,hb⟩
  clear hb HB HI
  go_wp2_with fail
  go_loopw [6,24] (fun l i wr=>∃ (k:Nat) (wx:World) (rs:List Nat) (a:Option Addr) (q c:Nat),wx=wr/\k<=un/\l=.slice a q c/\i=.int .i64 k/\Hid (q=rs.length)/\Hid (RQ w wx rs a c)/\Hid (rs=rootsN 0 e0 ((L.map (·.sc)).take k))) (fun _ i _=>un - (intOf i).toNat)
  case atStart=>exact ⟨0,_,[],none,0,0,rfl,by omega,rfl,rfl,Lib.hid rfl,HQ0,Lib.hid rfl⟩
  case round=>
   clear HQ0
   obtain ⟨k,wx,rs,a,q,c,rfl,hk,rfl,rfl,HQq,HQ,HRs⟩:=hrel
   by_cases hlt:k < un
   ·have hlti:(k:Int) < (un:Int):=by omega
    have HLT:=Lib.hid hlt
    have hk1:k < L.length:=by have:=HLL.out;omega
    obtain ⟨b,off,hua,hBl,hc⟩:=(HS.out.next HQ.out.kk).cells ((HS.out.next HQ.out.kk).ne hlt)
    subst hua
    obtain ⟨c0,c1,c2',c3,c4,c5⟩:=ms_cells (fun j hj=>hc k hk1 j hj)
    have hat:(L.map (·.sc))[k]?=some L[k].sc:=by rw [List.getElem?_map,List.getElem?_eq_getElem hk1];rfl
    have HTk:Hid ((L.map (·.sc)).take (k+1)=(L.map (·.sc)).take k ++ [L[k].sc]/\((L.map (·.sc)).take k).length=k):=Lib.hid ⟨by rw [List.take_add_one,hat];rfl,by rw [List.length_take,HLn.out];omega⟩
    generalize L[k]'hk1=m at c0 c1 c2' c3 c4 c5 hat HTk
    obtain ⟨⟨nm,ki,kp,al,dt,rl⟩,ad,cp⟩:=m
    simp only at c0 c1 c2' c3 c4 c5
    obtain ⟨nr,hnr⟩:∃ nr,nr=rl.length:=⟨_,rfl⟩
    rw [<-hnr] at c5
    have HQ1:=Lib.hid (HQ.out.alloc (.cells #[.string ⟨nm.toArray⟩,.int .i64 ki,.bool kp,.int .i64 al,.string ⟨dt.toArray⟩,.slice ad nr cp] 63))
    have hql:Hid (q<=256):=Lib.hid (by rw [HQq.out,HRs.out];have:=rootsN_len ((L.map (·.sc)).take k) 0 e0;have:=HTk.out.2;have:=HM.out;omega)
    have hx0:Hid (w.heap.size<=wx.heap.size):=Lib.hid HQ.out.kk.size
    have HSn:=Lib.hid (rootsN_snoc ((L.map (·.sc)).take k) 0 e0 ⟨nm,ki,kp,al,dt,rl⟩)
    rw [<-HTk.out.1,HTk.out.2,<-HRs.out,Nat.zero_add] at HSn
    have HNw:Hid (((wx.alloc (.cells #[.string ⟨nm.toArray⟩,.int .i64 ki,.bool kp,.int .i64 al,.string ⟨dt.toArray⟩,.slice ad nr cp] 63)).alloc (.cells #[.int .i64 (k:Int)] 3)).heap[wx.heap.size+1]?=some (.cells #[.int .i64 (k:Int)] 3)):=Lib.hid (by have:=heap_alloc_new (wx.alloc (.cells #[.string ⟨nm.toArray⟩,.int .i64 ki,.bool kp,.int .i64 al,.string ⟨dt.toArray⟩,.slice ad nr cp] 63)) (.cells #[.int .i64 (k:Int)] 3);rw [World.size_alloc] at this;exact this)
    clear hc hBl hk1 hlt hk hat hnr HQ
    by_cases hkk:kp=true\/(k:Int)=e0
    ·have HR5:Hid (rs ++ [k]=rootsN 0 e0 ((L.map (·.sc)).take (k+1))):=Lib.hid (by rw [HSn.out,if_pos hkk])
     have hcs:kp=true\/(kp=false/\(k:Int)=e0):=by rcases hkk with h | h;exact .inl h;cases kp;exact .inr ⟨rfl,h⟩;exact .inl rfl
     clear hkk HSn
     replace hcs:(kp=true/\True)\/(kp=false/\((k:Int) == e0)=true):=by rcases hcs with h | ⟨h,he⟩;exact .inl ⟨h,trivial⟩;exact .inr ⟨h,beq_iff_eq.2 he⟩
     rcases hcs with ⟨rfl,hd⟩ | ⟨rfl,hd⟩
     all_goals
      go_wp2_with (at_builtin;refine wpList_append_lies _ rfl _ _ 107 rfl w.heap.size 3 i0 (.int .i64 0) 1 8 Tryz.underlying107 hi hz0 hz1 hz2 rfl (by decide) (.slice a q c) q (rs.flatMap enI) rfl (by have:=HQ1.out.oo;rw [<-HQq.out] at this;exact this.alloc _) ⟨wx.heap.size+1,0,none⟩ 1 1 (enI k) rfl rfl (World.news_of_block (cs:=#[.int .i64 (k:Int)]) (t:=3) (fr:=(0,0)) HNw.out) (by simp [enI,Value.oneCell']) (by decide) (by have:=hql.out;unfold maxLen;omega) (by have:=hql.out;omega) (by have:=hx0.out;simp;omega) (wx.heap.size+1+1) (by simp) ?_;intro g cap w2 hown2 hgrow2 hlie2 hlt2)
      rw [HQq.out] at hown2 hgrow2
      have HQ2:=Lib.hid (HQ1.out.grow hown2 hgrow2)
      have HQq2:Hid (q+1=(rs ++ [k]).length):=Lib.hid (by rw [HQq.out];simp)
      clear hown2 hgrow2 hlie2 hlt2 HQ1 HNw
      go_roundw
      case rel=>exact ⟨k+1,_,_,_,_,_,rfl,by have:=HLT.out;omega,rfl,by go_num,HQq2,HQ2,HR5⟩
      case measure=>have:=HLT.out;simp [intOf];omega
    ·have hkf:kp=false:=by cases kp;rfl;exact absurd (.inl rfl) hkk
     have hke:¬ (k:Int)=e0:=fun h=>hkk (.inr h)
     have HR5:Hid (rs=rootsN 0 e0 ((L.map (·.sc)).take (k+1))):=Lib.hid (by rw [HSn.out,if_neg hkk,List.append_nil])
     subst hkf
     clear hkk HSn HNw
     go_wp2
     go_roundw
     case rel=>exact ⟨k+1,_,_,_,_,_,rfl,by have:=HLT.out;omega,rfl,by go_num,HQq,HQ1,HR5⟩
     case measure=>have:=HLT.out;simp [intOf];omega
   ·have hnlt:¬ (k:Int) < (un:Int):=by omega
    have hT:(L.map (·.sc)).take k=L.map (·.sc):=List.take_of_length_le (by rw [HLn.out];omega)
    rw [hT] at HRs
    clear hk hlt hT
    go_wp2
    go_ret2
    unfold RootsR
    rw [if_pos HY.out,<-HRs.out]
    exact ⟨a,c,by rw [<-HQq.out];rfl,HQ.out.oo,HQ.out.kk⟩
open Go.ChangeShapes Go.WideShapes Go.Deep Go.RowKit
def enB (b:Bool):List Value:=[.bool b]
theorem enB_len (b:Bool):(enB b).length=1:=rfl
theorem sameI_no (a a':Option Addr) (n n' c c':Nat) (w:World) (hne:n ≠ n') (hn:n<=1000000) (hn':n'<=1000000):
  Calls Tryz.prog 65 #[.slice a n c,.slice a' n' c'] w (RetB (.bool false) w):=by
 have hb:((n:Int) != n')=true:=by rw [bne_iff_ne];omega
 have HN:=Lib.hid hne
 clear hne
 go_enter Tryz.func65,Tryz.ntmps65
 go_wp2
 go_ret
 exact retB_bool rfl (Below.refl _ _)
theorem sameI_yes (a a':Option Addr) (n c c':Nat) (l l':List Int) (w:World) (hn:n<=1000000) (h:SL enZ 1 w w.heap.size a n l) (h':SL enZ 1 w w.heap.size a' n l'):
  Calls Tryz.prog 65 #[.slice a n c,.slice a' n c'] w (RetB (.bool (decide (l=l'))) w):=by
 have hl:=Lib.hid h.len
 have hl':=Lib.hid h'.len
 go_enter Tryz.func65,Tryz.ntmps65
 go_wp2
 go_loopw [5] (fun i wr=>∃ k:Nat,k<=n/\i=.int .i64 k/\l.take k=l'.take k/\Below w.heap.size w wr) (fun i _=>n - (intOf i).toNat)
 case atStart=>exact ⟨0,by omega,rfl,rfl,Below.refl _ _⟩
 case round=>
  obtain ⟨k,hk,rfl,htk,hb⟩:=hrel
  have HT:=Lib.hid htk
  clear htk
  by_cases hlt:k < n
  ·have hk1:k < l.length:=by have:=hl.out;omega
   have hk2:k < l'.length:=by have:=hl'.out;omega
   obtain ⟨b,off,rfl,hB,hc⟩:=(h.below hb).cells (h.ne hlt)
   obtain ⟨b',off',rfl,hB',hc'⟩:=(h'.below hb).cells (h'.ne hlt)
   have c0:=hc k hk1 0 (by omega)
   have d0:=hc' k hk2 0 (by omega)
   obtain ⟨x,hx⟩:∃ x,x=l[k]:=⟨_,rfl⟩
   obtain ⟨y,hy⟩:∃ y,y=l'[k]:=⟨_,rfl⟩
   rw [<-hx] at c0
   rw [<-hy] at d0
   simp only [enZ,Nat.add_zero,Nat.mul_one,List.getElem?_cons_zero] at c0 d0
   have HX:=Lib.hid hx
   have HY:=Lib.hid hy
   clear hc hc' h h' hx hy
   by_cases e:x=y
   ·have hb2:(x != y)=false:=by simp [e]
    have HE:=Lib.hid e
    clear e
    go_wp2
    go_quiet (fail)
    go_wp2
    go_roundw
    case rel=>
     refine ⟨k+1,by omega,by go_num,?_,below_drewN hb _⟩
     rw [List.take_succ_eq_append_getElem hk1,List.take_succ_eq_append_getElem hk2,HT.out,<-HX.out,<-HY.out,HE.out]
    case measure=>simp [intOf];omega
   ·have hb2:(x != y)=true:=by simp [e]
    have HE:=Lib.hid e
    clear e
    go_wp2
    go_quiet (fail)
    go_wp2
    go_ret
    refine retB_bool ?_ (below_drewN hb _)
    symm;rw [decide_eq_false_iff_not]
    intro hh
    subst hh
    exact HE.out (HX.out.trans HY.out.symm)
  ·go_wp2
   go_ret
   refine retB_bool ?_ hb
   symm;rw [decide_eq_true_eq]
   have:=HT.out
   rwa [List.take_of_length_le (by have:=hl.out;omega),List.take_of_length_le (by have:=hl'.out;omega)] at this
theorem sameI_any (a a':Option Addr) (n n' c c':Nat) (l l':List Int) (w:World) (hn:n<=1000000) (hn':n'<=1000000) (h:SL enZ 1 w w.heap.size a n l) (h':SL enZ 1 w w.heap.size a' n' l'):
  Calls Tryz.prog 65 #[.slice a n c,.slice a' n' c'] w (RetB (.bool (decide (l=l'))) w):=by
 by_cases e:n=n'
 ·subst e
  exact sameI_yes a a' n c c' l l' w hn h h'
 ·have:decide (l=l')=false:=by
   rw [decide_eq_false_iff_not]
   intro hh;subst hh;exact e (h.len.trans h'.len.symm)
  rw [this]
  exact sameI_no a a' n n' c c' w e hn hn'
theorem sameB_no (a a':Option Addr) (n n' c c':Nat) (w:World) (hne:n ≠ n') (hn:n<=1000000) (hn':n'<=1000000):
  Calls Tryz.prog 64 #[.slice a n c,.slice a' n' c'] w (RetB (.bool false) w):=by
 have hb:((n:Int) != n')=true:=by rw [bne_iff_ne];omega
 have HN:=Lib.hid hne
 clear hne
 go_enter Tryz.func64,Tryz.ntmps64
 go_wp2
 go_ret
 exact retB_bool rfl (Below.refl _ _)
theorem sameB_yes (a a':Option Addr) (n c c':Nat) (l l':List Bool) (w:World) (hn:n<=1000000) (h:SL enB 1 w w.heap.size a n l) (h':SL enB 1 w w.heap.size a' n l'):
  Calls Tryz.prog 64 #[.slice a n c,.slice a' n c'] w (RetB (.bool (decide (l=l'))) w):=by
 have hl:=Lib.hid h.len
 have hl':=Lib.hid h'.len
 go_enter Tryz.func64,Tryz.ntmps64
 go_wp2
 go_loopw [5] (fun i wr=>∃ k:Nat,k<=n/\i=.int .i64 k/\l.take k=l'.take k/\Below w.heap.size w wr) (fun i _=>n - (intOf i).toNat)
 case atStart=>exact ⟨0,by omega,rfl,rfl,Below.refl _ _⟩
 case round=>
  obtain ⟨k,hk,rfl,htk,hb⟩:=hrel
  have HT:=Lib.hid htk
  clear htk
  by_cases hlt:k < n
  ·have hk1:k < l.length:=by have:=hl.out;omega
   have hk2:k < l'.length:=by have:=hl'.out;omega
   obtain ⟨b,off,rfl,hB,hc⟩:=(h.below hb).cells (h.ne hlt)
   obtain ⟨b',off',rfl,hB',hc'⟩:=(h'.below hb).cells (h'.ne hlt)
   have c0:=hc k hk1 0 (by omega)
   have d0:=hc' k hk2 0 (by omega)
   obtain ⟨x,hx⟩:∃ x,x=l[k]:=⟨_,rfl⟩
   obtain ⟨y,hy⟩:∃ y,y=l'[k]:=⟨_,rfl⟩
   rw [<-hx] at c0
   rw [<-hy] at d0
   simp only [enB,Nat.add_zero,Nat.mul_one,List.getElem?_cons_zero] at c0 d0
   have HX:=Lib.hid hx
   have HY:=Lib.hid hy
   clear hc hc' h h' hx hy
   cases x <;> cases y
   case false.false | true.true=>
    go_wp2
    go_quiet (fail)
    go_wp2
    go_roundw
    case rel=>
     refine ⟨k+1,by omega,by go_num,?_,below_drewN hb _⟩
     rw [List.take_succ_eq_append_getElem hk1,List.take_succ_eq_append_getElem hk2,HT.out,<-HX.out,<-HY.out]
    case measure=>simp [intOf];omega
   case false.true | true.false=>
    go_wp2
    go_quiet (fail)
    go_wp2
    go_ret
    refine retB_bool ?_ (below_drewN hb _)
    symm;rw [decide_eq_false_iff_not]
    intro hh
    subst hh
    exact absurd (HX.out.trans HY.out.symm) (by decide)
  ·go_wp2
   go_ret
   refine retB_bool ?_ hb
   symm;rw [decide_eq_true_eq]
   have:=HT.out
   rwa [List.take_of_length_le (by have:=hl.out;omega),List.take_of_length_le (by have:=hl'.out;omega)] at this
theorem sameB_any (a a':Option Addr) (n n' c c':Nat) (l l':List Bool) (w:World) (hn:n<=1000000) (hn':n'<=1000000) (h:SL enB 1 w w.heap.size a n l) (h':SL enB 1 w w.heap.size a' n' l'):
  Calls Tryz.prog 64 #[.slice a n c,.slice a' n' c'] w (RetB (.bool (decide (l=l'))) w):=by
 by_cases e:n=n'
 ·subst e
  exact sameB_yes a a' n c c' l l' w hn h h'
 ·have:decide (l=l')=false:=by
   rw [decide_eq_false_iff_not]
   intro hh;subst hh;exact e (h.len.trans h'.len.symm)
  rw [this]
  exact sameB_no a a' n n' c c' w e hn hn'
open Go.ChangeShapes Go.WideShapes Go.Deep Go.RowKit
def Flt0 (w:World) (e:Ending) (w':World):Prop:=e=.returned (.agg #[.int .i64 0,.int .i64 0,.int .i64 0])/\Below w.heap.size w w'
theorem each_none (v:Value) (w:World):Calls Tryz.prog 54 #[.slice none 0 0,v] w (Flt0 w):=by
 have HR:Hid (RB (w.alloc (.cells #[.int .i64 0,.int .i64 0,.int .i64 0] 42)) w.heap.size #[.int .i64 0,.int .i64 0,.int .i64 0] 42):=Lib.hid (rb_new w _ _)
 have HB:Hid (Below w.heap.size w (w.alloc (.cells #[.int .i64 0,.int .i64 0,.int .i64 0] 42))):=Lib.hid ((Below.refl _ w).alloc (Nat.le_refl _) _)
 go_enter Tryz.func54,Tryz.ntmps54
 go_wp2
 refine wp_loop_rounds 1 ?_
 rw [rounds_succ]
 go_wp2
 refine bodyPost_ret (results_cell_row (P:=Tryz.prog) rfl _ _ w.heap.size 42 _ (0,0) _ rfl HR.out Tryz.underlying42 rfl (by kernel_rfl)) rfl ?_
 exact ⟨rfl,HB.out⟩
def Map0 (w:World) (e:Ending) (w':World):Prop:=∃ g,e=.returned (.map (some g))/\w'.heap[g]?=some (.map #[] 0)/\Below w.heap.size w w'
theorem firsts_none (b:Int) (w:World):Calls Tryz.prog 86 #[.slice none 0 0,.int .i64 b] w (Map0 w):=by
 have hmm:=@run_makeMap Tryz.prog
 have s1:(w.alloc (.cells #[.int .i64 b] 3)).heap.size=w.heap.size+1:=World.size_alloc _ _
 have s2:((w.alloc (.cells #[.int .i64 b] 3)).alloc (.map #[] 0)).heap.size=w.heap.size+1+1:=by rw [World.size_alloc,s1]
 have hm:(((w.alloc (.cells #[.int .i64 b] 3)).alloc (.map #[] 0)).alloc (.cells #[.map (some (w.heap.size+1))] 99)).heap[w.heap.size+1]?=some (.map #[] 0):=(Below.heap_alloc _ _ _ (by rw [s2];omega)).trans (by rw [<-s1];exact (MapKept.heap_alloc _ _).1)
 have hc:RB (((w.alloc (.cells #[.int .i64 b] 3)).alloc (.map #[] 0)).alloc (.cells #[.map (some (w.heap.size+1))] 99)) (w.heap.size+1+1) #[.map (some (w.heap.size+1))] 99:=by rw [<-s2];exact rb_new _ _ _
 have hb0:Below w.heap.size w (((w.alloc (.cells #[.int .i64 b] 3)).alloc (.map #[] 0)).alloc (.cells #[.map (some (w.heap.size+1))] 99)):=(((Below.refl _ w).alloc (Nat.le_refl _) _).alloc (by rw [s1];omega) _).alloc (by rw [s2];omega) _
 have HM:=Lib.hid hm
 have HC:=Lib.hid hc
 have HB:=Lib.hid hb0
 clear s1 s2 hm hc hb0
 go_enter Tryz.func86,Tryz.ntmps86
 go_wp2_with fail
 clear hmm
 refine (each_none _ _).mono ?_
 rintro e u ⟨rfl,hb⟩
 have HM1:Hid (u.heap[w.heap.size+1]?=some (.map #[] 0)):=Lib.hid ((hb.block _ (lt_of_block HM.out)).trans HM.out)
 have HB1:=Lib.hid (after HB.out hb)
 have y0:u.cell? ⟨w.heap.size+1+1,0,none⟩=some (.map (some (w.heap.size+1))):=(HC.out.next hb).cell
 clear hb
 go_wp2
 go_ret
 exact ⟨_,rfl,HM1.out,HB1.out⟩
theorem places_none (w:World):Calls Tryz.prog 53 #[.slice none 0 0] w (Map0 w):=by
 go_enter Tryz.func53,Tryz.ntmps53
 go_wp2_with fail
 refine (firsts_none 2 w).mono ?_
 rintro e u ⟨g,rfl,hm,hb⟩
 have HM:=Lib.hid hm
 have HB:=Lib.hid hb
 clear hm hb
 go_wp2_with fail
 refine (firsts_none 3 u).mono ?_
 rintro e u2 ⟨g2,rfl,hm2,hb2⟩
 have HM1:Hid (u2.heap[g]?=some (.map #[] 0)):=Lib.hid ((hb2.block _ (lt_of_block HM.out)).trans HM.out)
 have HB1:=Lib.hid (after HB.out hb2)
 have hrg:=run_range_map (P:=Tryz.prog) u2 99 9 46 g2 #[] 0 Tryz.underlying99 hm2
 have hnx:∀ ty,(Instr.next (.pointer (some ⟨u2.heap.size,0,none⟩)) false ty).run Tryz.prog (u2.alloc (.mapIter (some g2) 0 #[] 0))=.ok (.tuple #[.bool false]) (u2.alloc (.mapIter (some g2) 0 #[] 0)):=fun ty=>by
  rcases run_next_map (P:=Tryz.prog) u2 ty g2 0 0 #[] #[] 0 hm2 (by intro x hx;simp at hx) (Nat.le_refl _) with ⟨-,h⟩ | ⟨e,he,-⟩
  ·exact h
  ·simp [leftOf] at he
 have HM2:Hid ((u2.alloc (.mapIter (some g2) 0 #[] 0)).heap[g]?=some (.map #[] 0)):=Lib.hid ((Below.heap_alloc _ _ _ (lt_of_block HM1.out)).trans HM1.out)
 have HB2:Hid (Below w.heap.size w (u2.alloc (.mapIter (some g2) 0 #[] 0))):=Lib.hid (HB1.out.alloc HB1.out.size _)
 clear hb2 hm2
 go_wp2
 refine wp_loop_rounds 1 ?_
 rw [rounds_succ]
 go_wp2
 go_ret
 exact ⟨_,rfl,HM2.out,HB2.out⟩
theorem check_none (w:World):Calls Tryz.prog 25 #[.slice none 0 0] w (RetB (.int .i64 0) w):=by
 go_enter Tryz.func25,Tryz.ntmps25
 go_wp2
 refine wp_loop_rounds 1 ?_
 rw [rounds_succ]
 go_wp2
 go_ret
 exact ⟨rfl,Below.refl _ _⟩
theorem look_none {b:Nat} {w:World} (h:w.heap[b]?=some (.map #[] 0)) {k:ByteArray} (hk:k.size<=maxLen):
  (Instr.lookup 99 (.map (some b)) (.string k) true).run Tryz.prog w=.ok (.tuple #[.agg #[.int .i64 0,.int .i64 0,.int .i64 0],.bool false]) w:=by
 have hkey:=sKeyOf hk
 rcases sKey.find w hkey (#[]:Array MapEntry).toList (by intro e he;simp at he) with ⟨h1,-⟩ | ⟨j,e,h1,h2,h3⟩
 ·simp [Instr.lookup,run_underlying Tryz.underlying99,MapKept.run_getObj_map h,sKey.check w _ hkey,h1,zeroPlace,Result.andThen]
 ·simp at h2
def Find0 (w:World) (e:Ending) (w':World):Prop:=e=.returned (.tuple #[.agg #[.int .i64 0,.int .i64 0,.int .i64 0],.bool false])/\Below w.heap.size w w'
theorem find_none (w:World):Calls Tryz.prog 21 #[.slice none 0 0,.string ⟨#[97]⟩] w (Find0 w):=by
 have HR:Hid (RB (w.alloc (.cells #[.int .i64 0,.int .i64 0,.int .i64 0] 46)) w.heap.size #[.int .i64 0,.int .i64 0,.int .i64 0] 46):=Lib.hid (rb_new w _ _)
 have HB:Hid (Below w.heap.size w (w.alloc (.cells #[.int .i64 0,.int .i64 0,.int .i64 0] 46))):=Lib.hid ((Below.refl _ w).alloc (Nat.le_refl _) _)
 obtain ⟨X,hX⟩:∃ X,X=w.heap.size:=⟨_,rfl⟩
 have HXE:=Lib.hid hX
 rw [<-hX] at HR
 go_enter Tryz.func21,Tryz.ntmps21
 go_wp2_with fail
 rw [<-hX]
 clear hX
 refine (check_none _).mono ?_
 rintro e u ⟨rfl,hb⟩
 replace HR:=Lib.hid (HR.out.next hb)
 replace HB:=Lib.hid (after HB.out hb)
 clear hb
 go_wp2_with fail
 refine (places_none _).mono ?_
 rintro e u2 ⟨g,rfl,hm,hb⟩
 replace HR:=Lib.hid (HR.out.next hb)
 replace HB:=Lib.hid (after HB.out hb)
 have hlk:=look_none hm (k:=⟨#[97]⟩) (by decide)
 have HR3:Hid (RB (u2.alloc (.cells #[.int .i64 0,.int .i64 0,.int .i64 0] 46)) X #[.int .i64 0,.int .i64 0,.int .i64 0] 46):=Lib.hid ((Below.heap_alloc _ _ _ (lt_of_block HR.out)).trans HR.out)
 have HB3:Hid (Below w.heap.size w (u2.alloc (.cells #[.int .i64 0,.int .i64 0,.int .i64 0] 46))):=Lib.hid (HB.out.alloc HB.out.size _)
 have x0:(u2.alloc (.cells #[.int .i64 0,.int .i64 0,.int .i64 0] 46)).cell? ⟨X,0,none⟩=some (.int .i64 0):=HR3.out.cell
 have x1:(u2.alloc (.cells #[.int .i64 0,.int .i64 0,.int .i64 0] 46)).cell? ⟨X,1,none⟩=some (.int .i64 0):=HR3.out.cell
 have x2:(u2.alloc (.cells #[.int .i64 0,.int .i64 0,.int .i64 0] 46)).cell? ⟨X,2,none⟩=some (.int .i64 0):=HR3.out.cell
 have f0:(u2.alloc (.cells #[.int .i64 0,.int .i64 0,.int .i64 0] 46)).frozen? ⟨X,0,none⟩=false:=HR3.out.frozen
 have f1:(u2.alloc (.cells #[.int .i64 0,.int .i64 0,.int .i64 0] 46)).frozen? ⟨X,1,none⟩=false:=HR3.out.frozen
 have f2:(u2.alloc (.cells #[.int .i64 0,.int .i64 0,.int .i64 0] 46)).frozen? ⟨X,2,none⟩=false:=HR3.out.frozen
 have HR4:=Lib.hid (((HR3.out.set (j:=0) (.int .i64 0)).set (j:=1) (.int .i64 0)).set (j:=2) (.int .i64 0))
 have HB4:=Lib.hid (((HB3.out.setCell (p:=⟨X,0,none⟩) (by rw [HXE.out];exact Nat.le_refl _) (.int .i64 0)).setCell (p:=⟨X,1,none⟩) (by rw [HXE.out];exact Nat.le_refl _) (.int .i64 0)).setCell (p:=⟨X,2,none⟩) (by rw [HXE.out];exact Nat.le_refl _) (.int .i64 0))
 clear hb hm
 go_wp2
 refine bodyPost_ret (results_cell_two (P:=Tryz.prog) rfl _ _ X 46 _ (0,0) _ (.bool false) rfl HR4.out Tryz.underlying46 rfl (by kernel_rfl) rfl) rfl ?_
 exact ⟨rfl,HB4.out⟩
def Ent0 (w:World) (e:Ending) (w':World):Prop:=e=.returned (.tuple #[.int .i64 0,.int .i64 0,.int .i64 8])/\Below w.heap.size w w'
theorem entry_none (w:World):Calls Tryz.prog 27 #[.slice none 0 0,.string ⟨#[97]⟩] w (Ent0 w):=by
 go_enter Tryz.func27,Tryz.ntmps27
 go_wp2_with fail
 refine (find_none _).mono ?_
 rintro e u ⟨rfl,hb⟩
 have HB:Hid (Below w.heap.size w (u.alloc (.cells #[.int .i64 0,.int .i64 0,.int .i64 0] 46))):=Lib.hid (hb.alloc hb.size _)
 clear hb
 go_wp2
 go_quiet (fail)
 go_wp2
 refine bodyPost_ret (v:=.tuple #[.int .i64 0,.int .i64 0,.int .i64 8]) (by simp [results,Tryz.results27,go_sem]) rfl ?_
 exact ⟨rfl,below_drewN HB.out _⟩
open Go.ChangeShapes Go.WideShapes Go.Deep Go.RowKit
theorem int_lit (u:World) (x:Int):SL enZ 1 (u.alloc (.cells #[.int .i64 x] 3)) (u.alloc (.cells #[.int .i64 x] 3)).heap.size (some ⟨u.heap.size,0,none⟩) 1 [x]:=by
 rw [World.size_alloc];exact SL.lit u 3 [x] enZ_len (by decide) _ rfl 1 rfl
def QP (N D:ByteArray) (k:Nat) (R:List Int) (w:World) (e:Ending) (w':World):Prop:=
 ∃ a c,e=.returned (.agg #[.string N,.int .i64 2,.bool false,.int .i64 0,.string D,.slice a k c])/\SL rlC 4 w' w'.heap.size a k (qRels 0 R)/\Below w.heap.size w w'
theorem quads_qp (N D:ByteArray) (k:Nat) (na:Option Addr) (nc:Nat) (R:List Int) (w:World) (hs:SL enZ 1 w w.heap.size na k R) (hk:k=R.length) (hD:D=zrB (8*R.length)) (hn:k<=100):Calls Tryz.prog 61 #[.string N,.slice na k nc] w (QP N D k R w):=by
 refine (quads_any N na k nc R w hs hn).mono ?_
 rintro e u ⟨a,c,rfl,hown,hb⟩
 rw [<-hD,<-hk] at*
 refine ⟨a,c,rfl,?_,hb⟩
 obtain ⟨a',c',hv,hsl,-⟩:=SL.ofOwns rl_len (by decide) hown
 cases hv
 exact hsl
abbrev uA (a:Option Addr) (c:Nat):Ms:=⟨qSec [97] [2],a,c⟩
abbrev uB (a:Option Addr) (c:Nat):Ms:=⟨qSec [98] [0],a,c⟩
abbrev uC (a:Option Addr) (c:Nat):Ms:=⟨qSec [99] [],a,c⟩
abbrev uD (a:Option Addr) (c:Nat):Ms:=⟨qSec [97] [1],a,c⟩
abbrev lnk:List Sc:=[qSec [97] [2],qSec [98] [0],qSec [99] []]
theorem lnk_is:unitsR lnk=true:=by kernel_rfl
theorem lnk_not:unitsR [qSec [97] [1]]=false:=by kernel_rfl
theorem lnk_roots:rootsN 0 1 lnk=[1]:=by decide
theorem lnk_reach:reachB lnk [0]=[true,false,true]:=by
 have h0:Rch lnk [0] 0:=.root (by simp)
 have h2:Rch lnk [0] 2:=.step h0 (s:=qSec [97] [2]) (r:=qRel 0 2) rfl (by simp [qSec,qRels]) rfl
 have h1:¬ Rch lnk [0] 1:=fun h=>by
  have:=rch_sub (L:=lnk) (roots:=[0]) (fun k=>k=0\/k=2) (fun k hk=>by simp at hk;omega) (fun i s hi hs r hr k hk=>by
   rcases hi with rfl | rfl
   ·have:s=qSec [97] [2]:=by simpa [lnk] using hs.symm
    subst this
    have:r=qRel 0 2:=by simpa [qSec,qRels] using hr
    subst this
    right;simp [qRel] at hk;omega
   ·have:s=qSec [99] []:=by simpa [lnk] using hs.symm
    subst this
    simp [qSec,qRels] at hr) h
  omega
 unfold reachB
 show [_,_,_]=_
 simp [h0,h1,h2]
theorem lit3 (u:World) (a b c:Option Addr) (p q r:Nat) (D E:ByteArray) (hD:D=zrB 8) (hE:E=zrB 0):
  SL msC 6 (u.alloc (.cells #[.string ⟨#[97]⟩,.int .i64 2,.bool false,.int .i64 0,.string D,.slice a 1 p,.string ⟨#[98]⟩,.int .i64 2,.bool false,.int .i64 0,.string D,.slice b 1 q,.string ⟨#[99]⟩,.int .i64 2,.bool false,.int .i64 0,.string E,.slice c 0 r] 63)) (u.alloc (.cells #[.string ⟨#[97]⟩,.int .i64 2,.bool false,.int .i64 0,.string D,.slice a 1 p,.string ⟨#[98]⟩,.int .i64 2,.bool false,.int .i64 0,.string D,.slice b 1 q,.string ⟨#[99]⟩,.int .i64 2,.bool false,.int .i64 0,.string E,.slice c 0 r] 63)).heap.size (some ⟨u.heap.size,0,none⟩) 3 [uA a p,uB b q,uC c r]:=by
 rw [World.size_alloc];subst hD hE;exact SL.lit u 63 [uA a p,uB b q,uC c r] ms_len (by decide) _ rfl 3 rfl
theorem lit1 (u:World) (a:Option Addr) (p:Nat) (D:ByteArray) (hD:D=zrB 8):
  SL msC 6 (u.alloc (.cells #[.string ⟨#[97]⟩,.int .i64 2,.bool false,.int .i64 0,.string D,.slice a 1 p] 63)) (u.alloc (.cells #[.string ⟨#[97]⟩,.int .i64 2,.bool false,.int .i64 0,.string D,.slice a 1 p] 63)).heap.size (some ⟨u.heap.size,0,none⟩) 1 [uD a p]:=by
 rw [World.size_alloc];subst hD;exact SL.lit u 63 [uD a p] ms_len (by decide) _ rfl 1 rfl
theorem good_q (nm:List UInt8) (R:List Int) (hn:nm.length<=10) (hR:R.length<=1) (hr:∀ x ∈ R,0<=x/\x<=10):GoodSc (qSec nm R):=by
 refine ⟨by show nm.length<=maxLen;unfold maxLen;omega,by constructor <;> simp [qSec],by constructor <;> simp [qSec],by show (List.replicate (8*R.length) (0:UInt8)).length<=maxLen;rw [List.length_replicate];unfold maxLen;omega,?_⟩
 intro r h
 match R,hR,hr,h with
 | [],_,_,h=>simp [qSec,qRels] at h
 | [x],_,hr,h=>
  have:r=qRel 0 x:=by simpa [qSec,qRels] using h
  subst this
  have:=hr x (by simp)
  refine ⟨?_,?_,?_,?_⟩ <;> constructor <;> simp [qRel] <;> omega
theorem few_q (nm:List UInt8) (R:List Int) (hR:R.length<=1):(qSec nm R).rels.length*32<=reachBytes:=by
 show (qRels 0 R).length*32<=_
 rw [qRels_len];unfold reachBytes;omega
structure LK (u:World) (ua:Option Addr) (L:List Ms):Prop where
 sl:SL msC 6 u u.heap.size ua L.length L
 no:Notes u u.heap.size L
 tb:TabP u
 gd:∀ m ∈ L,GoodSc m.sc
 fw:∀ m ∈ L,m.sc.rels.length*32<=reachBytes
theorem LK.next {u v:World} {ua:Option Addr} {L:List Ms} (h:LK u ua L) (hb:Below u.heap.size u v):LK v ua L:=⟨h.sl.next hb,h.no.next hb,h.tb.next hb,h.gd,h.fw⟩
theorem lk_is {u:World} {ua:Option Addr} {L:List Ms} {n c:Nat} {b:Bool} (h:LK u ua L) (hn:n=L.length) (hl:n<=10) (hb:unitsR (L.map (·.sc))=b):Calls Tryz.prog 66 #[.slice ua n c] u (RetB (.bool b) u):=by
 subst hn hb;exact gIs_any ua _ c L u (by unfold maxLen;omega) h.sl h.no h.gd h.fw h.tb
def ReA (w:World) (e:Ending) (w':World):Prop:=∃ g,e=.returned (.tuple #[.slice (some ⟨g,0,none⟩) 3 3,.int .i64 0])/\RB w' g (blA [true,false,true]) 4/\w.heap.size<=g/\Below w.heap.size w w'
theorem lk_reach {u:World} {ua:Option Addr} {L:List Ms} {c:Nat} {ra:Option Addr} {rc:Nat} (h:LK u ua L) (hL:L.map (·.sc)=lnk) (hs:SL enZ 1 u u.heap.size ra 1 [0]):Calls Tryz.prog 62 #[.slice ua 3 c,.slice ra 1 rc] u (ReA u):=by
 have hl:L.length=3:=by have:=congrArg List.length hL;simpa using this
 refine (gReach_any ua 3 c L ra 1 rc [0] u (by unfold maxLen;omega) (hl ▸ h.sl) h.no h.gd h.fw hs (by omega) h.tb).mono ?_
 intro e u' hr
 unfold ReachR at hr
 rw [hL,if_pos ⟨lnk_is,by decide⟩] at hr
 obtain ⟨g,he,hrb,hg,hb⟩:=hr
 rw [lnk_reach] at hrb
 exact ⟨g,he,hrb,hg,hb⟩
theorem lk_reach_no {u:World} {ua:Option Addr} {L:List Ms} {c:Nat} {ra:Option Addr} {rc:Nat} (h:LK u ua L) (hL:L.map (·.sc)=lnk) (hs:SL enZ 1 u u.heap.size ra 1 [3]):Calls Tryz.prog 62 #[.slice ua 3 c,.slice ra 1 rc] u (RetB (.tuple #[.slice none 0 0,.int .i64 1]) u):=by
 have hl:L.length=3:=by have:=congrArg List.length hL;simpa using this
 refine (gReach_any ua 3 c L ra 1 rc [3] u (by unfold maxLen;omega) (hl ▸ h.sl) h.no h.gd h.fw hs (by omega) h.tb).mono ?_
 intro e u' hr
 unfold ReachR at hr
 rw [hL,if_neg (fun hh=>absurd hh.2 (by decide))] at hr
 exact ⟨hr.1,hr.2⟩
def RoA (w:World) (e:Ending) (w':World):Prop:=∃ a c,e=.returned (.tuple #[.slice a 1 c,.int .i64 0])/\SL enZ 1 w' w'.heap.size a 1 [1]/\Below w.heap.size w w'
theorem lk_roots {u:World} {ua:Option Addr} {L:List Ms} {c:Nat} (h:LK u ua L) (hL:L.map (·.sc)=lnk):Calls Tryz.prog 63 #[.slice ua 3 c,.int .i64 1] u (RoA u):=by
 have hl:L.length=3:=by have:=congrArg List.length hL;simpa using this
 refine (gRoots_any ua 3 c L 1 u (by unfold maxLen;omega) (hl ▸ h.sl) h.no h.gd h.fw h.tb).mono ?_
 intro e u' hr
 unfold RootsR at hr
 rw [hL,if_pos ⟨lnk_is,by decide,by decide⟩,lnk_roots] at hr
 obtain ⟨a,c,he,hown,hb⟩:=hr
 obtain ⟨a',c',hv,hsl,-⟩:=SL.ofOwns (enc:=enZ) (l:=[1]) enZ_len (by decide) (show u'.ownsRow _ _ 1 _ 1 ([1].flatMap enZ) from hown)
 cases hv
 exact ⟨a,c,he,hsl,hb⟩
theorem rb_sl {u:World} {g:Nat} {l:List Bool} (h:RB u g (blA l) 4):SL enB 1 u u.heap.size (some ⟨g,0,none⟩) l.length l:=by
 refine ⟨rfl,fun _=>⟨g,0,rfl,lt_of_block h,fun k hk j hj=>?_⟩⟩
 have:j=0:=by omega
 subst this
 rw [show 0+k*1+0=k from by omega,h.cell,blA_get (List.getElem?_eq_getElem hk)]
 rfl
theorem bool_lit (u:World) (a b c:Bool):SL enB 1 (u.alloc (.cells #[.bool a,.bool b,.bool c] 4)) (u.alloc (.cells #[.bool a,.bool b,.bool c] 4)).heap.size (some ⟨u.heap.size,0,none⟩) 3 [a,b,c]:=by
 rw [World.size_alloc];exact SL.lit u 4 [a,b,c] enB_len (by decide) _ rfl 3 rfl
open Go.ChangeShapes Go.WideShapes Go.Deep Go.RowKit
theorem linked_is (w:World) (hT:TabP w):Calls Tryz.prog 29 #[] w (RetB (.bool true) w):=by
 have HT:=Lib.hid hT
 have HB:Hid (Below w.heap.size w w):=Lib.hid (Below.refl _ w)
 obtain ⟨D,hD⟩:∃ D,D=zrB 8:=⟨_,rfl⟩
 obtain ⟨E,hE⟩:∃ E,E=zrB 0:=⟨_,rfl⟩
 have HD:=Lib.hid hD
 have HE:=Lib.hid hE
 clear hT hD hE
 obtain ⟨H1,hH⟩:∃ H,H=w.heap.size:=⟨_,rfl⟩
 have HH:=Lib.hid hH
 have HL:=Lib.hid (int_lit w 2)
 rw [<-hH] at HL
 have HA0:=Lib.hid (lit_below w (.cells #[.int .i64 2] 3))
 clear hH
 go_enter Tryz.func29,Tryz.ntmps29
 go_wp2_with fail
 try rw [<-HH.out]
 generalize (w.alloc (.cells #[.int .i64 2] 3))=W1_0 at HA0 HL ⊢
 replace HB:=Lib.hid (after HB.out HA0.out)
 clear HH HA0
 refine (quads_qp ⟨#[97]⟩ D 1 _ 1 [2] _ HL.out rfl HD.out (by decide)).mono ?_
 rintro e u2 ⟨a1,c1,rfl,hs,hb⟩
 clear HL
 replace HB:=Lib.hid (after HB.out hb)
 have S1:=Lib.hid hs
 clear hs
 clear hb
 obtain ⟨H3,hH⟩:∃ H,H=u2.heap.size:=⟨_,rfl⟩
 have HH:=Lib.hid hH
 have HL:=Lib.hid (int_lit u2 0)
 rw [<-hH] at HL
 have HA0:=Lib.hid (lit_below u2 (.cells #[.int .i64 0] 3))
 clear hH
 go_wp2_with fail
 try rw [<-HH.out]
 generalize (u2.alloc (.cells #[.int .i64 0] 3))=W3_0 at HA0 HL ⊢
 replace HB:=Lib.hid (after HB.out HA0.out)
 replace S1:=Lib.hid (S1.out.next HA0.out)
 clear HH HA0
 refine (quads_qp ⟨#[98]⟩ D 1 _ 1 [0] _ HL.out rfl HD.out (by decide)).mono ?_
 rintro e u4 ⟨a2,c2,rfl,hs,hb⟩
 clear HL
 replace HB:=Lib.hid (after HB.out hb)
 replace S1:=Lib.hid (S1.out.next hb)
 have S2:=Lib.hid hs
 clear hs
 clear hb
 go_wp2_with fail
 refine (quads_qp ⟨#[99]⟩ E 0 none 0 [] _ (SL.nil _ _ _) rfl HE.out (by decide)).mono ?_
 rintro e u5 ⟨a3,c3,rfl,hs,hb⟩
 replace HB:=Lib.hid (after HB.out hb)
 replace S1:=Lib.hid (S1.out.next hb)
 replace S2:=Lib.hid (S2.out.next hb)
 have S3:=Lib.hid hs
 clear hs
 clear hb
 obtain ⟨H6,hH⟩:∃ H,H=u5.heap.size:=⟨_,rfl⟩
 have HH:=Lib.hid hH
 have HSU:=Lib.hid (lit3 u5 a1 a2 a3 c1 c2 c3 D E HD.out HE.out)
 rw [<-hH] at HSU
 have HA0:=Lib.hid (lit_below u5 (.cells #[.string ⟨#[97]⟩,.int .i64 2,.bool false,.int .i64 0,.string D,.slice a1 1 c1,.string ⟨#[98]⟩,.int .i64 2,.bool false,.int .i64 0,.string D,.slice a2 1 c2,.string ⟨#[99]⟩,.int .i64 2,.bool false,.int .i64 0,.string E,.slice a3 0 c3] 63))
 have hS1:(u5.alloc (.cells #[.string ⟨#[97]⟩,.int .i64 2,.bool false,.int .i64 0,.string D,.slice a1 1 c1,.string ⟨#[98]⟩,.int .i64 2,.bool false,.int .i64 0,.string D,.slice a2 1 c2,.string ⟨#[99]⟩,.int .i64 2,.bool false,.int .i64 0,.string E,.slice a3 0 c3] 63)).heap.size=H6+1:=by rw [World.size_alloc,hH]
 have HL:=Lib.hid (int_lit (u5.alloc (.cells #[.string ⟨#[97]⟩,.int .i64 2,.bool false,.int .i64 0,.string D,.slice a1 1 c1,.string ⟨#[98]⟩,.int .i64 2,.bool false,.int .i64 0,.string D,.slice a2 1 c2,.string ⟨#[99]⟩,.int .i64 2,.bool false,.int .i64 0,.string E,.slice a3 0 c3] 63)) 0)
 rw [hS1] at HL
 have HA1:=Lib.hid (lit_below (u5.alloc (.cells #[.string ⟨#[97]⟩,.int .i64 2,.bool false,.int .i64 0,.string D,.slice a1 1 c1,.string ⟨#[98]⟩,.int .i64 2,.bool false,.int .i64 0,.string D,.slice a2 1 c2,.string ⟨#[99]⟩,.int .i64 2,.bool false,.int .i64 0,.string E,.slice a3 0 c3] 63)) (.cells #[.int .i64 0] 3))
 clear hS1
 clear hH
 go_wp2_with fail
 try rw [<-HH.out]
 generalize (u5.alloc (.cells #[.string ⟨#[97]⟩,.int .i64 2,.bool false,.int .i64 0,.string D,.slice a1 1 c1,.string ⟨#[98]⟩,.int .i64 2,.bool false,.int .i64 0,.string D,.slice a2 1 c2,.string ⟨#[99]⟩,.int .i64 2,.bool false,.int .i64 0,.string E,.slice a3 0 c3] 63))=W6_0 at HA0 HA1 HSU HL ⊢
 replace HB:=Lib.hid (after HB.out HA0.out)
 replace S1:=Lib.hid (S1.out.next HA0.out)
 replace S2:=Lib.hid (S2.out.next HA0.out)
 replace S3:=Lib.hid (S3.out.next HA0.out)
 generalize (W6_0.alloc (.cells #[.int .i64 0] 3))=W6_1 at HA1 HL ⊢
 replace HB:=Lib.hid (after HB.out HA1.out)
 replace S1:=Lib.hid (S1.out.next HA1.out)
 replace S2:=Lib.hid (S2.out.next HA1.out)
 replace S3:=Lib.hid (S3.out.next HA1.out)
 replace HSU:=Lib.hid (HSU.out.next HA1.out)
 clear HH HA0 HA1
 have HK:Hid (LK W6_1 _ [uA a1 c1,uB a2 c2,uC a3 c3]):=Lib.hid ⟨HSU.out,by
   intro m hm
   simp only [List.mem_cons,List.not_mem_nil,or_false] at hm
   rcases hm with rfl | rfl | rfl
   ·exact S1.out
   ·exact S2.out
   ·exact S3.out,HT.out.next HB.out,by
   intro m hm
   simp only [List.mem_cons,List.not_mem_nil,or_false] at hm
   rcases hm with rfl | rfl | rfl
   ·exact good_q _ _ (by decide) (by decide) (by decide)
   ·exact good_q _ _ (by decide) (by decide) (by decide)
   ·exact good_q _ _ (by decide) (by decide) (by decide),by
   intro m hm
   simp only [List.mem_cons,List.not_mem_nil,or_false] at hm
   rcases hm with rfl | rfl | rfl <;> exact few_q _ _ (by decide)⟩
 clear HSU S1 S2 S3
 refine (lk_reach HK.out rfl HL.out).mono ?_
 rintro e u7 ⟨g,rfl,hs,hg,hb⟩
 clear HL
 replace HB:=Lib.hid (after HB.out hb)
 replace HK:=Lib.hid (HK.out.next hb)
 have HG:=Lib.hid hs
 clear hs
 clear hb
 clear hg
 obtain ⟨H8,hH⟩:∃ H,H=u7.heap.size:=⟨_,rfl⟩
 have HH:=Lib.hid hH
 have HL:=Lib.hid (int_lit u7 3)
 rw [<-hH] at HL
 have HA0:=Lib.hid (lit_below u7 (.cells #[.int .i64 3] 3))
 clear hH
 go_wp2_with fail
 try rw [<-HH.out]
 generalize (u7.alloc (.cells #[.int .i64 3] 3))=W8_0 at HA0 HL ⊢
 replace HB:=Lib.hid (after HB.out HA0.out)
 replace HK:=Lib.hid (HK.out.next HA0.out)
 replace HG:=Lib.hid (HG.out.next HA0.out)
 clear HH HA0
 refine (lk_reach_no HK.out rfl HL.out).mono ?_
 rintro e u9 ⟨rfl,hb⟩
 clear HL
 replace HB:=Lib.hid (after HB.out hb)
 replace HK:=Lib.hid (HK.out.next hb)
 replace HG:=Lib.hid (HG.out.next hb)
 clear hb
 go_wp2_with fail
 refine (lk_roots HK.out rfl).mono ?_
 rintro e u10 ⟨a4,c4,rfl,hs,hb⟩
 replace HB:=Lib.hid (after HB.out hb)
 replace HK:=Lib.hid (HK.out.next hb)
 replace HG:=Lib.hid (HG.out.next hb)
 have HR:=Lib.hid hs
 clear hs
 clear hb
 go_wp2_with fail
 refine (entry_none _).mono ?_
 rintro e u11 ⟨rfl,hb⟩
 replace HB:=Lib.hid (after HB.out hb)
 replace HK:=Lib.hid (HK.out.next hb)
 replace HG:=Lib.hid (HG.out.next hb)
 replace HR:=Lib.hid (HR.out.next hb)
 clear hb
 obtain ⟨H12,hH⟩:∃ H,H=u11.heap.size:=⟨_,rfl⟩
 have HH:=Lib.hid hH
 have HL:=Lib.hid (bool_lit u11 true false true)
 rw [<-hH] at HL
 have HA0:=Lib.hid (lit_below u11 (.cells #[.bool true,.bool false,.bool true] 4))
 clear hH
 go_wp2_with fail
 try rw [<-HH.out]
 generalize (u11.alloc (.cells #[.bool true,.bool false,.bool true] 4))=W12_0 at HA0 HL ⊢
 replace HB:=Lib.hid (after HB.out HA0.out)
 replace HK:=Lib.hid (HK.out.next HA0.out)
 replace HG:=Lib.hid (HG.out.next HA0.out)
 replace HR:=Lib.hid (HR.out.next HA0.out)
 clear HH HA0
 refine (sameB_any _ _ 3 3 _ _ [true,false,true] [true,false,true] _ (by decide) (by decide) (rb_sl HG.out) HL.out).mono ?_
 rintro e u13 ⟨rfl,hb⟩
 clear HL
 clear HG
 replace HB:=Lib.hid (after HB.out hb)
 replace HK:=Lib.hid (HK.out.next hb)
 replace HR:=Lib.hid (HR.out.next hb)
 clear hb
 rw [show decide ([true,false,true]=[true,false,true])=true from rfl]
 obtain ⟨H14,hH⟩:∃ H,H=u13.heap.size:=⟨_,rfl⟩
 have HH:=Lib.hid hH
 have HL:=Lib.hid (int_lit u13 1)
 rw [<-hH] at HL
 have HA0:=Lib.hid (lit_below u13 (.cells #[.int .i64 1] 3))
 clear hH
 go_wp2_with fail
 try rw [<-HH.out]
 generalize (u13.alloc (.cells #[.int .i64 1] 3))=W14_0 at HA0 HL ⊢
 replace HB:=Lib.hid (after HB.out HA0.out)
 replace HK:=Lib.hid (HK.out.next HA0.out)
 replace HR:=Lib.hid (HR.out.next HA0.out)
 clear HH HA0
 refine (sameI_any _ _ 1 1 _ _ [1] [1] _ (by decide) (by decide) HR.out HL.out).mono ?_
 rintro e u15 ⟨rfl,hb⟩
 clear HL
 clear HR
 replace HB:=Lib.hid (after HB.out hb)
 replace HK:=Lib.hid (HK.out.next hb)
 clear hb
 rw [show decide (([1]:List Int)=[1])=true from rfl]
 go_wp2_with fail
 refine (lk_is HK.out rfl (by simp) lnk_is).mono ?_
 rintro e u16 ⟨rfl,hb⟩
 clear HK
 replace HB:=Lib.hid (after HB.out hb)
 clear hb
 obtain ⟨H17,hH⟩:∃ H,H=u16.heap.size:=⟨_,rfl⟩
 have HH:=Lib.hid hH
 have HL:=Lib.hid (int_lit u16 1)
 rw [<-hH] at HL
 have HA0:=Lib.hid (lit_below u16 (.cells #[.int .i64 1] 3))
 clear hH
 go_wp2_with fail
 try rw [<-HH.out]
 generalize (u16.alloc (.cells #[.int .i64 1] 3))=W17_0 at HA0 HL ⊢
 replace HB:=Lib.hid (after HB.out HA0.out)
 clear HH HA0
 refine (quads_qp ⟨#[97]⟩ D 1 _ 1 [1] _ HL.out rfl HD.out (by decide)).mono ?_
 rintro e u18 ⟨a5,c5,rfl,hs,hb⟩
 clear HL
 replace HB:=Lib.hid (after HB.out hb)
 have S1:=Lib.hid hs
 clear hs
 clear hb
 obtain ⟨H19,hH⟩:∃ H,H=u18.heap.size:=⟨_,rfl⟩
 have HH:=Lib.hid hH
 have HSU:=Lib.hid (lit1 u18 a5 c5 D HD.out)
 rw [<-hH] at HSU
 have HA0:=Lib.hid (lit_below u18 (.cells #[.string ⟨#[97]⟩,.int .i64 2,.bool false,.int .i64 0,.string D,.slice a5 1 c5] 63))
 clear hH
 go_wp2_with fail
 try rw [<-HH.out]
 generalize (u18.alloc (.cells #[.string ⟨#[97]⟩,.int .i64 2,.bool false,.int .i64 0,.string D,.slice a5 1 c5] 63))=W19_0 at HA0 HSU ⊢
 replace HB:=Lib.hid (after HB.out HA0.out)
 replace S1:=Lib.hid (S1.out.next HA0.out)
 clear HH HA0
 have HK:Hid (LK W19_0 _ [uD a5 c5]):=Lib.hid ⟨HSU.out,by
   intro m hm
   rw [List.mem_singleton] at hm
   subst hm
   exact S1.out,HT.out.next HB.out,by
   intro m hm
   rw [List.mem_singleton] at hm
   subst hm
   exact good_q _ _ (by decide) (by decide) (by decide),by
   intro m hm
   rw [List.mem_singleton] at hm
   subst hm
   exact few_q _ _ (by decide)⟩
 clear HSU S1
 refine (lk_is HK.out rfl (by simp) lnk_not).mono ?_
 rintro e u20 ⟨rfl,hb⟩
 replace HB:=Lib.hid (after HB.out hb)
 clear hb
 go_wp2
 go_ret
 exact ⟨rfl,HB.out⟩
open Go.ChangeShapes Go.WideShapes Go.Deep Go.RowKit
section
variable {α:Type} {enc:α->List Value} {sz:Nat}
end
end Go.Proofs.YthkolmebokfagaaGreatDoor
