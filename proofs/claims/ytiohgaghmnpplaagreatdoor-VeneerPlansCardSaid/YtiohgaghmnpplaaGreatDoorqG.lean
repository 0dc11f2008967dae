/- operand: the reader. operand: numbers. operand: expressions. -/
import Derived.Test.YtiohgaghmnpplaaGreatDoorqA
import Derived.Test.YtiohgaghmnpplaaGreatDoorqF
import Derived.Laws.Rows
import Derived.StillTailTactics
import Derived.Shelf.RegionOpen
import Derived.RegionDies
set_option maxRecDepth 100000
set_option maxHeartbeats 4000000
set_option linter.unusedVariables false
set_option linter.unusedSimpArgs false
namespace Go.Proofs.YtiohgaghmnpplaaGreatDoor
section
open Go.ChangeShapes Go.WideShapes Go.Deep Go.RowKit
theorem KP.drewN {w w':World}{p:Nat}(h:KP p w w')(n:Nat):KP p w (w'.drewN n):=⟨h.os,h.tape,h.output,h.size,h.block⟩
def TB (w:World)(X:Nat):Prop:=w.heap[X]?=some (.cells #[.int .i64 0,.string ⟨#[]⟩,.int .u64 0] 180 (0,0))
theorem TB.kept {w w':World}{X p:Nat}(h:TB w X)(hk:KP p w w')(hne:X≠p):TB w' X:=(hk.block X (lt_of_block h) (fun e=>hne (by cases e;rfl))).trans h
theorem TB.cells {w:World}{X:Nat}(h:TB w X):w.cell? ⟨X,0,none⟩=some (.int .i64 0)/\w.cell? ⟨X,1,none⟩=some (.string ⟨#[]⟩)/\w.cell? ⟨X,2,none⟩=some (.int .u64 0)/\
  w.frozen? ⟨X,0,none⟩=false/\w.frozen? ⟨X,1,none⟩=false/\w.frozen? ⟨X,2,none⟩=false:=
 ⟨by rw[World.cell?,h];rfl,by rw[World.cell?,h];rfl,by rw[World.cell?,h];rfl,by rw[World.frozen?,h];rfl,by rw[World.frozen?,h];rfl,by rw[World.frozen?,h];rfl⟩
theorem TB.lies {u:World}{X:Nat}(h:TB u X)(o:Obj):TB (u.alloc o) X:=(Below.heap_alloc u o X (lt_of_block h)).trans h
theorem KP.lies {w u:World}{p:Nat}(h:KP p w u)(o:Obj):KP p w (u.alloc o):=KP.trans' h (KP.of_below ((Below.refl _ _).alloc (Nat.le_refl _) o))
open Go.ChangeShapes Go.WideShapes Go.Deep Go.RowKit
abbrev tiV (t:Ti):Value:=.agg #[.int .i64 t.kind,.string ⟨t.text.toArray⟩,.int .u64 t.v]
def OR (w:World)(p:Nat)(ts:List Ti)(at':Nat)(g:Bool):Prop:=
 ∃a c,w.heap[p]?=some (.cells #[.slice a ts.length c,.int .i64 (at':Int),.bool g] 201 (0,0))/\SL tiC 3 w (p-2) a ts.length ts
theorem OR.lt {w:World}{p at':Nat}{ts:List Ti}{g:Bool}(h:OR w p ts at' g):p<w.heap.size:=by obtain⟨a,c,h1,-⟩:=h;exact lt_of_block h1
theorem OR.below {w w':World}{p at' B:Nat}{ts:List Ti}{g:Bool}(h:OR w p ts at' g)(hb:Below B w w')(hp:p<B):OR w' p ts at' g:=by
 obtain⟨a,c,h1,h2⟩:=h;exact⟨a,c,(hb.block p hp).trans h1,h2.below (hb.mono (by omega))⟩
theorem OR.step {w:World}{p at':Nat}{ts:List Ti}{g:Bool}(h:OR w p ts at' g)(x:Nat):OR (w.setCell ⟨p,1,none⟩ (.int .i64 (x:Int))) p ts x g:=by
 obtain⟨a,c,h1,h2⟩:=h;refine⟨a,c,?_,h2.below (((Below.refl p w).setCell (p:=⟨p,1,none⟩) (Nat.le_refl _) _).mono (by omega))⟩;unfold World.setCell;simp[h1,Array.getElem?_modify]
theorem OR.great {w:World}{p at':Nat}{ts:List Ti}{g:Bool}(h:OR w p ts at' g)(x:Bool):OR (w.setCell ⟨p,2,none⟩ (.bool x)) p ts at' x:=by
 obtain⟨a,c,h1,h2⟩:=h;refine⟨a,c,?_,h2.below (((Below.refl p w).setCell (p:=⟨p,2,none⟩) (Nat.le_refl _) _).mono (by omega))⟩;unfold World.setCell;simp[h1,Array.getElem?_modify]
theorem OR.cells {w:World}{p at':Nat}{ts:List Ti}{g:Bool}(h:OR w p ts at' g):∃a c,w.cell? ⟨p,0,none⟩=some (.slice a ts.length c)/\w.cell? ⟨p,1,none⟩=some (.int .i64 (at':Int))/\w.cell? ⟨p,2,none⟩=some (.bool g)/\
  w.frozen? ⟨p,1,none⟩=false/\w.frozen? ⟨p,2,none⟩=false:=by
 obtain⟨a,c,hp,-⟩:=h;exact⟨a,c,by rw[World.cell?,hp];rfl,by rw[World.cell?,hp];rfl,by rw[World.cell?,hp];rfl,by rw[World.frozen?,hp];rfl,by rw[World.frozen?,hp];rfl⟩
theorem OR.drewN {w:World}{p at':Nat}{ts:List Ti}{g:Bool}(h:OR w p ts at' g)(n:Nat):OR (w.drewN n) p ts at' g:=by
 obtain⟨a,c,h1,h2⟩:=h;exact⟨a,c,h1,h2.below (below_drewN (Below.refl _ _) n)⟩
theorem OR.side {w:World}{p at' X j:Nat}{ts:List Ti}{g:Bool}(h:OR w p ts at' g)(h1:p-2<=X)(h2:X≠p)(v:Value):OR (w.setCell ⟨X,j,none⟩ v) p ts at' g:=by
 obtain⟨a,c,h3,h4⟩:=h;exact⟨a,c,(Below.heap_setCell _ _ _ _ (fun e=>h2 (by rw[e]))).trans h3,h4.below ((Below.refl _ w).setCell (p:=⟨X,j,none⟩) h1 _)⟩
def ReadP (v:Value)(p:Nat)(ts:List Ti)(at':Nat)(g:Bool)(w:World)(e:Ending)(w':World):Prop:=e=.returned v/\OR w' p ts at' g/\KP p w w'
theorem ended_any {w:World}{p at':Nat}{ts:List Ti}{g:Bool}(h:OR w p ts at' g):
  Calls Tryz.prog 169 #[.pointer (some ⟨p,0,none⟩)] w (ReadP (.bool (decide (ts.length<=at'))) p ts at' g w):=by
 obtain⟨a,c,c0,c1,-⟩:=h.cells;obtain⟨n,hn⟩:=aE ts.length;rw[<-hn]at c0⊢;have H:=aH h;clear h hn;go_enter Tryz.func169,Tryz.ntmps169;go_wp2;go_quiet (fail);go_wp2;go_ret;exact⟨by simp,H.out.drewN _,(KP.refl _ _).drewN _⟩
theorem next_none {ts:List Ti}{k:Nat}(h:ts.length<=k):cQ (ts.drop k)=tiZ:=by rw[List.drop_eq_nil_of_le h];rfl
theorem next_some {ts:List Ti}{k:Nat}(h:k<ts.length):cQ (ts.drop k)=ts[k]:=by rw[eW h];rfl
theorem tb_end {w u:World}{X p at':Nat}{ts:List Ti}{g:Bool}(ht:TB u X)(hR:OR u p ts at' g)(hK:KP p w u)(hX:X=w.heap.size)(hp:p<X)(x y z:Value):
  OR (((u.setCell ⟨X,0,none⟩ x).setCell ⟨X,1,none⟩ y).setCell ⟨X,2,none⟩ z) p ts at' g/\KP p w (((u.setCell ⟨X,0,none⟩ x).setCell ⟨X,1,none⟩ y).setCell ⟨X,2,none⟩ z)/\
  (((u.setCell ⟨X,0,none⟩ x).setCell ⟨X,1,none⟩ y).setCell ⟨X,2,none⟩ z).heap[X]?=some (.cells #[x,y,z] 180 (0,0)):=by
 have hb:Below X u (((u.setCell ⟨X,0,none⟩ x).setCell ⟨X,1,none⟩ y).setCell ⟨X,2,none⟩ z):=
  (((Below.refl X u).setCell (p:=⟨X,0,none⟩) (Nat.le_refl _) x).setCell (p:=⟨X,1,none⟩) (Nat.le_refl _) y).setCell (p:=⟨X,2,none⟩) (Nat.le_refl _) z
 exact⟨hR.below hb hp,KP.below hK hb (by omega),set3 ht⟩
theorem ti_cells {w:World}{b off:Nat}{k:Nat}{t:Ti}(hc:∀j,j<3->w.cell? ⟨b,off+k*3+j,none⟩=(tiC t)[j]?):
  w.cell? ⟨b,off+k*3,none⟩=some (.int .i64 t.kind)/\w.cell? ⟨b,off+k*3+1,none⟩=some (.string ⟨t.text.toArray⟩)/\w.cell? ⟨b,off+k*3+2,none⟩=some (.int .u64 t.v):=
 ⟨hc 0 (by omega),hc 1 (by omega),hc 2 (by omega)⟩
theorem next_any {w:World}{p at':Nat}{ts:List Ti}{g:Bool}(h:OR w p ts at' g)(h2:ts.length<=1000000):
  Calls Tryz.prog 191 #[.pointer (some ⟨p,0,none⟩)] w (ReadP (tiV (cQ (ts.drop at'))) p ts at' g w):=by
 obtain⟨X,hX⟩:=aE w.heap.size;have hpX:p<X:=by rw[hX];exact h.lt
 have hb0:Below w.heap.size w (w.alloc (.cells #[.int .i64 0,.string ⟨#[]⟩,.int .u64 0] 180)):=(Below.refl _ _).alloc (Nat.le_refl _) _;have HR0:=aH (h.below hb0 h.lt);have HK0:=aH (KP.of_below (p:=p) hb0);have HT0:Hid (TB (w.alloc (.cells #[.int .i64 0,.string ⟨#[]⟩,.int .u64 0] 180)) X):=aH (by rw[hX];exact(MapKept.heap_alloc w _).1);have HX:=aH hX;have HNE:Hid (X≠p):=aH (by omega);have HPX:=aH hpX;clear h h2 hb0 hpX;by_cases he:ts.length<=at'
 ·have HN:=aH (next_none he);have HE:Hid (decide (ts.length<=at')=true):=aH (decide_eq_true he);clear he;go_enter Tryz.func191,Tryz.ntmps191;go_wp2_with fail
  rw[<-hX];clear hX;generalize w.alloc (.cells #[.int .i64 0,.string ⟨#[]⟩,.int .u64 0] 180)=W0 at HR0 HK0 HT0⊢;refine(ended_any HR0.out).mono ?_;rintro e u1 ⟨rfl,hR,hK⟩;rw[HE.out];have HR1:=aH hR;have HK1:=aH (KP.trans' HK0.out hK);have HT1:=aH (HT0.out.kept hK HNE.out);clear hR hK;obtain⟨x0,x1,x2,y0,y1,y2⟩:=HT1.out.cells;have hXl:X<u1.heap.size:=lt_of_block HT1.out;have HEN:=aH (tb_end HT1.out HR1.out HK1.out HX.out HPX.out (.int .i64 0) (.string ⟨#[]⟩) (.int .u64 0));go_wp2;refine bodyPost_ret (results_cell_row (P:=Tryz.prog) rfl _ _ X 180 _ (0,0) _ rfl HEN.out.2.2 Tryz.underlying180 rfl (by kernel_rfl)) rfl ?_;exact⟨by rw[HN.out],HEN.out.1,HEN.out.2.1⟩
 ·have hlt:at'<ts.length:=by omega
  obtain⟨t,htn,htc⟩:∃t,cQ (ts.drop at')=t/\ts[at']?=some t:=⟨_,next_some hlt,iS hlt⟩;have HN:=aH htn;have HTC:=aH htc;have HE:Hid (decide (ts.length<=at')=false):=aH (decide_eq_false he);have HLT:=aH hlt;clear he hlt htn htc;go_enter Tryz.func191,Tryz.ntmps191;go_wp2_with fail
  rw[<-hX];clear hX;generalize w.alloc (.cells #[.int .i64 0,.string ⟨#[]⟩,.int .u64 0] 180)=W0 at HR0 HK0 HT0⊢;refine(ended_any HR0.out).mono ?_;rintro e u1 ⟨rfl,hR,hK⟩;rw[HE.out];have HR1:=aH hR;have HK1:=aH (KP.trans' HK0.out hK);have HT1:=aH (HT0.out.kept hK HNE.out);obtain⟨a,c,hp0,hsl⟩:=hR;obtain⟨b,off,rfl,hB,hc⟩:=hsl.cells (hsl.ne HLT.out);obtain⟨d0,d1,d2⟩:=ti_cells (fun j hj=>hc at' HLT.out j hj);have ht:ts[at']'(HLT.out)=t:=by
   have:=HTC.out;rw[iS HLT.out]at this;exact Option.some.inj this
  rw[ht]at d0 d1 d2;have c0:u1.cell? ⟨p,0,none⟩=some (.slice (some ⟨b,off,none⟩) ts.length c):=by rw[World.cell?,hp0];rfl
  have c1:u1.cell? ⟨p,1,none⟩=some (.int .i64 (at':Int)):=by rw[World.cell?,hp0];rfl
  obtain⟨n,hn⟩:=aE ts.length;rw[<-hn]at c0;have hltz:(at':Int)<(n:Int):=by have:=HLT.out;omega
  have hat0:(0:Int)<=(at':Int):=by omega
  have hbX:b≠X:=by have:=HPX.out;omega
  clear hK hp0 hsl hc ht hn;obtain⟨x0,x1,x2,y0,y1,y2⟩:=HT1.out.cells;have hXl:X<u1.heap.size:=lt_of_block HT1.out;have HEN:=aH (tb_end HT1.out HR1.out HK1.out HX.out HPX.out (.int .i64 t.kind) (.string ⟨t.text.toArray⟩) (.int .u64 t.v));go_wp2;go_region
  all_goals go_wp2
  refine bodyPost_ret (results_cell_row (P:=Tryz.prog) rfl _ _ X 180 _ (0,0) _ rfl (by exact HEN.out.2.2) Tryz.underlying180 rfl (by kernel_rfl)) rfl ?_;exact⟨by rw[HN.out],HEN.out.1.drewN 1,HEN.out.2.1.drewN 1⟩
open Go.ChangeShapes Go.WideShapes Go.Deep Go.RowKit
def TabB (w:World)(p:Nat):Prop:=∃w0:World,nE w0/\w0.heap.size<=p-2/\Below w0.heap.size w0 w
theorem TabB.tab {w:World}{p:Nat}(h:TabB w p):nE w:=by obtain⟨w0,h1,-,h2⟩:=h;exact h1.next h2
theorem TabB.kp {w w':World}{p:Nat}(h:TabB w p)(hk:KP p w w'):TabB w' p:=by obtain⟨w0,h1,h2,h3⟩:=h;exact⟨w0,h1,h2,KP.to_below h3 hk (by omega)⟩
theorem TabB.below {w w':World}{p B:Nat}(h:TabB w p)(hb:Below B w w')(hp:p<B):TabB w' p:=by
 obtain⟨w0,h1,h2,h3⟩:=h;exact⟨w0,h1,h2,h3.trans (hb.mono (by omega))⟩
def RR (w:World)(p:Nat)(l:List Ti)(g:Bool):Prop:=∃ts k,ts.length<=1000000/\oJ ts/\k<=ts.length/\ts.drop k=l/\OR w p ts k g/\TabB w p
theorem RR.lt {w:World}{p:Nat}{l:List Ti}{g:Bool}(h:RR w p l g):p<w.heap.size:=by obtain⟨ts,k,-,-,-,-,h,-⟩:=h;exact h.lt
theorem RR.tab {w:World}{p:Nat}{l:List Ti}{g:Bool}(h:RR w p l g):nE w:=by obtain⟨ts,k,-,-,-,-,-,h⟩:=h;exact h.tab
theorem RR.below {w w':World}{p B:Nat}{l:List Ti}{g:Bool}(h:RR w p l g)(hb:Below B w w')(hp:p<B):RR w' p l g:=by
 obtain⟨ts,k,h1,h2,h3,h4,h,hT⟩:=h;exact⟨ts,k,h1,h2,h3,h4,h.below hb hp,hT.below hb hp⟩
theorem RR.next {w w':World}{p:Nat}{l:List Ti}{g:Bool}(h:RR w p l g)(hb:Below w.heap.size w w'):RR w' p l g:=h.below hb h.lt
theorem RR.lies {w:World}{p:Nat}{l:List Ti}{g:Bool}(h:RR w p l g)(o:Obj):RR (w.alloc o) p l g:=h.below ((Below.refl _ _).alloc (Nat.le_refl _) o) h.lt
theorem RR.drewN {w:World}{p:Nat}{l:List Ti}{g:Bool}(h:RR w p l g)(n:Nat):RR (w.drewN n) p l g:=h.next (below_drewN (Below.refl _ _) n)
theorem RR.good {w:World}{p:Nat}{l:List Ti}{g:Bool}(h:RR w p l g):oJ l:=by
 obtain⟨ts,k,-,h2,-,rfl,-⟩:=h;exact fun t ht=>h2 t (List.mem_of_mem_drop ht)
theorem good_tiZ:GoodTi tiZ:=⟨by decide,by decide,by decide⟩
theorem fN {l:List Ti}(h:oJ l):GoodTi (cQ l):=by
 cases l with
 |nil=>exact good_tiZ
 |cons t r=>exact h t (by simp)
theorem RR.step {w:World}{p:Nat}{t:Ti}{r:List Ti}{g:Bool}(h:RR w p (t :: r) g):
  ∃k m:Nat,w.cell? ⟨p,1,none⟩=some (.int .i64 (k:Int))/\w.frozen? ⟨p,1,none⟩=false/\IntKind.i64.wrap ((k:Int)+1)=(m:Int)/\RR (w.setCell ⟨p,1,none⟩ (.int .i64 (m:Int))) p r g:=by
 obtain⟨ts,k,h1,h2,h3,h4,h,hT⟩:=h;obtain⟨a,c,-,c1,-,f1,-⟩:=h.cells;have hl:=congrArg List.length h4;simp only[List.length_drop,List.length_cons]at hl;refine⟨k,k+1,c1,f1,by rw[IntKind.wrap_i64];omega,ts,k+1,h1,h2,by omega,?_,h.step (k+1),hT.kp (KP.step _ _ _ _)⟩;rw[<-List.drop_drop,h4];rfl
theorem RR.great {w:World}{p:Nat}{l:List Ti}{g:Bool}(h:RR w p l g):w.frozen? ⟨p,2,none⟩=false/\w.cell? ⟨p,2,none⟩=some (.bool g)/\RR (w.setCell ⟨p,2,none⟩ (.bool true)) p l true:=by
 obtain⟨ts,k,h1,h2,h3,h4,h,hT⟩:=h;obtain⟨a,c,-,-,c2,-,f2⟩:=h.cells;exact⟨f2,c2,ts,k,h1,h2,h3,h4,h.great true,hT.kp (KP.step _ _ _ _)⟩
theorem RR.side {w:World}{p X j:Nat}{l:List Ti}{g:Bool}(h:RR w p l g)(h1:p-2<=X)(h2:X≠p)(v:Value):RR (w.setCell ⟨X,j,none⟩ v) p l g:=by
 obtain⟨ts,k,q1,q2,q3,q4,h,w0,t1,t2,t3⟩:=h;exact⟨ts,k,q1,q2,q3,q4,h.side h1 h2 v,w0,t1,t2,t3.setCell (p:=⟨X,j,none⟩) (by show w0.heap.size<=X;omega) v⟩
def Did (v:Value)(p:Nat)(l:List Ti)(g:Bool)(w:World)(e:Ending)(w':World):Prop:=e=.returned v/\RR w' p l g/\KP p w w'
def Thr (p:Nat)(w:World)(e:Ending)(w':World):Prop:=e=.panicked [{ v:=.iface 207 (.agg #[]),recovered:=false }]/\KP p w w'
theorem ended_r {w:World}{p:Nat}{l:List Ti}{g:Bool}(h:RR w p l g):
  Calls Tryz.prog 169 #[.pointer (some ⟨p,0,none⟩)] w (Did (.bool l.isEmpty) p l g w):=by
 obtain⟨ts,k,h1,h2,h3,h4,h,hT⟩:=h;refine(ended_any h).mono ?_;rintro e w' ⟨rfl,hR,hK⟩;refine⟨?_,⟨ts,k,h1,h2,h3,h4,hR,hT.kp hK⟩,hK⟩;rw[<-h4];by_cases c:ts.length<=k
 ·rw[List.drop_eq_nil_of_le c];simp[c]
 ·rw[eW (by omega)];simp[c]
theorem gL {w:World}{p:Nat}{l:List Ti}{g:Bool}(h:RR w p l g):
  Calls Tryz.prog 191 #[.pointer (some ⟨p,0,none⟩)] w (Did (tiV (cQ l)) p l g w):=by
 obtain⟨ts,k,h1,h2,h3,h4,h,hT⟩:=h;refine(next_any h h1).mono ?_;rintro e w' ⟨rfl,hR,hK⟩;exact⟨by rw[h4],⟨ts,k,h1,h2,h3,h4,hR,hT.kp hK⟩,hK⟩
abbrev jR (u:World)(t:Ti):World:=u.alloc (.cells #[.int .i64 t.kind,.string ⟨t.text.toArray⟩,.int .u64 t.v] 180)
def TC (w:World)(X:Nat)(t:Ti):Prop:=w.heap[X]?=some (.cells (tiC t).toArray 180 (0,0))
theorem TC.cells {w:World}{X:Nat}{t:Ti}(h:TC w X t):w.cell? ⟨X,0,none⟩=some (.int .i64 t.kind)/\w.cell? ⟨X,1,none⟩=some (.string ⟨t.text.toArray⟩)/\w.cell? ⟨X,2,none⟩=some (.int .u64 t.v):=
 ⟨by rw[World.cell?,h];rfl,by rw[World.cell?,h];rfl,by rw[World.cell?,h];rfl⟩
theorem TC.kept {w w':World}{X p:Nat}{t:Ti}(h:TC w X t)(hk:KP p w w')(hne:X≠p):TC w' X t:=(hk.block X (lt_of_block h) (fun e=>hne (by cases e;rfl))).trans h
theorem iL {w u:World}{p:Nat}{l:List Ti}{g:Bool}(hR:RR u p l g)(hK:KP p w u)(t:Ti):
  RR (jR u t) p l g/\KP p w (jR u t)/\TC (jR u t) u.heap.size t/\u.heap.size≠p:=by
 have hb:Below u.heap.size u (jR u t):=(Below.refl _ u).alloc (Nat.le_refl _) _;exact⟨hR.below hb hR.lt,KP.below hK hb hK.size,(MapKept.heap_alloc u _).1,by have:=hR.lt;omega⟩
theorem take_no {w:World}{p:Nat}{l:List Ti}{g:Bool}(h:RR w p l g)(s:List UInt8)(hs:isSg s (cQ l)=false):
  Calls Tryz.prog 214 #[.pointer (some ⟨p,0,none⟩),.string ⟨s.toArray⟩] w (Did (.bool false) p l g w):=by
 have HN:=aH (gL h);have HC:Hid (((cQ l).kind !=4)=true\/((cQ l).kind !=4)=false/\(!((cQ l).text==s))=true):=aH (by
  unfold isSg at hs;by_cases c:(cQ l).kind=4
  ·refine .inr ⟨by rw[c];rfl,?_⟩;rw[c]at hs;simp only[beq_self_eq_true,Bool.true_and]at hs;rw[hs];rfl
  ·exact .inl (by rw[bne_iff_ne];exact c))
 obtain⟨t,ht⟩:∃t,cQ l=t:=⟨_,rfl⟩;rw[ht]at HN HC;clear h hs ht;go_enter Tryz.func214,Tryz.ntmps214;go_wp2_with fail
 refine HN.out.mono ?_;rintro e u ⟨rfl,hR,hK⟩;have HL:=aH (iL hR hK t);clear hR hK;obtain⟨c0,c1,c2⟩:=HL.out.2.2.1.cells;rcases HC.out with hk|⟨hk,hx⟩
 all_goals go_wp2
 all_goals go_ret
 all_goals exact⟨rfl,HL.out.1,HL.out.2.1⟩
theorem take_yes {w:World}{p:Nat}{t:Ti}{r:List Ti}{g:Bool}(h:RR w p (t :: r) g)(s:List UInt8)(hs:isSg s t=true):
  Calls Tryz.prog 214 #[.pointer (some ⟨p,0,none⟩),.string ⟨s.toArray⟩] w (Did (.bool true) p r g w):=by
 have HN:Hid (Calls Tryz.prog 191 #[.pointer (some ⟨p,0,none⟩)] w (Did (tiV t) p (t :: r) g w)):=aH (gL h);unfold isSg at hs;simp only[Bool.and_eq_true,beq_iff_eq]at hs;have hk:(t.kind !=4)=false:=by rw[hs.1];rfl
 have hx:(!(t.text==s))=false:=by rw[hs.2];simp
 clear h hs;go_enter Tryz.func214,Tryz.ntmps214;go_wp2_with fail
 refine HN.out.mono ?_;rintro e u ⟨rfl,hR,hK⟩;have HL:=aH (iL hR hK t);clear hR hK;obtain⟨c0,c1,c2⟩:=HL.out.2.2.1.cells;obtain⟨k,m,k1,k2,k3,HS⟩:=HL.out.1.step;have HS:=aH HS;go_wp2;go_ret;exact⟨rfl,HS.out,KP.trans' HL.out.2.1 (KP.step _ _ _ _)⟩
theorem RR.greatStep {w:World}{p:Nat}{t:Ti}{r:List Ti}{g:Bool}(h:RR w p (t :: r) g):
  ∃k m:Nat,w.cell? ⟨p,1,none⟩=some (.int .i64 (k:Int))/\w.frozen? ⟨p,1,none⟩=false/\w.frozen? ⟨p,2,none⟩=false/\w.cell? ⟨p,2,none⟩=some (.bool g)/\IntKind.i64.wrap ((k:Int)+1)=(m:Int)/\
   RR ((w.setCell ⟨p,2,none⟩ (.bool true)).setCell ⟨p,1,none⟩ (.int .i64 (m:Int))) p r true:=by
 obtain⟨ts,k,h1,h2,h3,h4,h,hT⟩:=h;obtain⟨a,c,-,c1,c2,f1,f2⟩:=h.cells;have hl:=congrArg List.length h4;simp only[List.length_drop,List.length_cons]at hl;refine⟨k,k+1,c1,f1,f2,c2,by rw[IntKind.wrap_i64];omega,ts,k+1,h1,h2,by omega,?_,(h.great true).step (k+1),(hT.kp (KP.step _ _ _ _)).kp (KP.step _ _ _ _)⟩;rw[<-List.drop_drop,h4];rfl
theorem TC.set {w:World}{X p o:Nat}{t:Ti}(h:TC w X t)(hne:X≠p)(v:Value):TC (w.setCell ⟨p,o,none⟩ v) X t:=h.kept (KP.step _ _ _ _) hne
theorem digits_ok {w:World}{p:Nat}{t:Ti}{r:List Ti}{g g':Bool}{v:Int}(h:RR w p (t :: r) g)(hd:digQ t=some (v,g')):
  Calls Tryz.prog 216 #[.pointer (some ⟨p,0,none⟩)] w (Did (.int .u64 v) p r (g||g') w):=by
 have HN:Hid (Calls Tryz.prog 191 #[.pointer (some ⟨p,0,none⟩)] w (Did (tiV t) p (t :: r) g w)):=aH (gL h);have HV:=aH (fun u=>mP ⟨t.text.toArray⟩ u);clear h;unfold digQ at hd;split at hd
 ·rename_i hk;have hk2:(t.kind !=2)=false:=by rw[hk];rfl
  clear hk;obtain⟨va,ve,hv⟩:∃va ve,lM t.text=(va,ve):=⟨_,_,rfl⟩;rw[hv]at hd;have HV:Hid (∀u,Calls Tryz.prog 231 #[.string ⟨t.text.toArray⟩] u (aP (two .u64 .i64 (va,ve)) u)):=aH fun u=>by
   have:=HV.out u;rw[show(⟨t.text.toArray⟩:ByteArray).data.toList=t.text by simp,hv]at this;exact this
  split at hd
  ·rename_i c0;replace c0:ve=0:=c0;cases hd
   subst c0;go_enter Tryz.func216,Tryz.ntmps216;go_wp2_with fail
   refine HN.out.mono ?_;rintro e u ⟨rfl,hR,hK⟩;have HL:=aH (iL hR hK t);clear hR hK;obtain⟨x0,x1,x2⟩:=HL.out.2.2.1.cells;go_wp2_with fail
   refine(HV.out _).mono ?_;rintro e u2 ⟨rfl,hB⟩;have HR2:=aH (HL.out.1.next hB);have HK2:=aH (KP.trans' HL.out.2.1 (KP.of_below (p:=p) hB));clear hB;obtain⟨k,m,k1,k2,k3,HS⟩:=HR2.out.step;have HS:=aH HS;go_wp2;go_ret;exact⟨rfl,by rw[Bool.or_false];exact HS.out,KP.trans' HK2.out (KP.step _ _ _ _)⟩
  ·rename_i c0;split at hd
   ·rename_i c4;replace c4:ve=4:=c4;have hva:va=0:=by
     have:=(pY t.text).2.2;rw[hv]at this;rcases this with h|⟨h,-⟩
     ·exact absurd h c0
     ·exact h
    cases hd
    subst c4 hva;go_enter Tryz.func216,Tryz.ntmps216;go_wp2_with fail
    refine HN.out.mono ?_;rintro e u ⟨rfl,hR,hK⟩;have HL:=aH (iL hR hK t);clear hR hK;obtain⟨x0,x1,x2⟩:=HL.out.2.2.1.cells;go_wp2_with fail
    refine(HV.out _).mono ?_;rintro e u2 ⟨rfl,hB⟩;have HR2:=aH (HL.out.1.next hB);have HK2:=aH (KP.trans' HL.out.2.1 (KP.of_below (p:=p) hB));clear hB;obtain⟨k,m,k1,k2,k3,k4,k5,HS⟩:=HR2.out.greatStep;have HS:=aH HS;go_wp2;go_ret;exact⟨rfl,by rw[Bool.or_true];exact HS.out,KP.trans' (KP.trans' HK2.out (KP.step _ _ _ _)) (KP.step _ _ _ _)⟩
   ·cases hd
 ·cases hd
theorem digits_no {w:World}{p:Nat}{l:List Ti}{g:Bool}(h:RR w p l g)(hd:iN l=none):
  Calls Tryz.prog 216 #[.pointer (some ⟨p,0,none⟩)] w (Thr p w):=by
 have HN:=aH (gL h);have hd':digQ (cQ l)=none:=by
  cases l with
  |nil=>rfl
  |cons t r=>
   unfold iN nQ at hd;show digQ t=none
   cases hq:digQ t with
   |none=>rfl
   |some x=>obtain⟨x1,x2⟩:=x;simp[hq]at hd
 obtain⟨t,ht⟩:∃t,cQ l=t:=⟨_,rfl⟩;rw[ht]at HN hd';clear ht hd;have HV:=aH (fun u=>mP ⟨t.text.toArray⟩ u);clear h;unfold digQ at hd';by_cases hk:t.kind=2
 ·rw[if_pos hk]at hd';have hk2:(t.kind !=2)=false:=by rw[hk];rfl
  clear hk;obtain⟨va,ve,hv⟩:∃va ve,lM t.text=(va,ve):=⟨_,_,rfl⟩;rw[hv]at hd';have HV:Hid (∀u,Calls Tryz.prog 231 #[.string ⟨t.text.toArray⟩] u (aP (two .u64 .i64 (va,ve)) u)):=aH fun u=>by
   have:=HV.out u;rw[show(⟨t.text.toArray⟩:ByteArray).data.toList=t.text by simp,hv]at this;exact this
  by_cases c0:ve=0
  ·rw[if_pos c0]at hd';cases hd'
  ·rw[if_neg c0]at hd';by_cases c4:ve=4
   ·rw[if_pos c4]at hd';cases hd'
   ·clear hd';have hb0:(ve==0)=false:=by rw[beq_eq_false_iff_ne];exact c0
    have hb4:(ve==4)=false:=by rw[beq_eq_false_iff_ne];exact c4
    clear c0 c4;go_enter Tryz.func216,Tryz.ntmps216;go_wp2_with fail
    refine HN.out.mono ?_;rintro e u ⟨rfl,hR,hK⟩;have HL:=aH (iL hR hK t);clear hR hK;obtain⟨x0,x1,x2⟩:=HL.out.2.2.1.cells;go_wp2_with fail
    refine(HV.out _).mono ?_;rintro e u2 ⟨rfl,hB⟩;have HK2:=aH (KP.trans' HL.out.2.1 (KP.of_below (p:=p) hB));clear hB;go_wp2;exact⟨rfl,rfl,HK2.out⟩
 ·clear hd';have hk2:(t.kind !=2)=true:=by rw[bne_iff_ne];exact hk
  clear hk;go_enter Tryz.func216,Tryz.ntmps216;go_wp2_with fail
  refine HN.out.mono ?_;rintro e u ⟨rfl,hR,hK⟩;have HL:=aH (iL hR hK t);clear hR hK;obtain⟨x0,x1,x2⟩:=HL.out.2.2.1.cells;go_wp2;exact⟨rfl,rfl,HL.out.2.1⟩
theorem next_cons {l:List Ti}{t:Ti}(h:cQ l=t)(hk:t.kind≠0):∃r,l=t :: r:=by
 cases l with
 |nil=>rw[show cQ []=tiZ from rfl]at h;rw[<-h]at hk;exact absurd rfl hk
 |cons a r=>exact⟨r,by rw[show cQ (a :: r)=a from rfl]at h;rw[h]⟩
theorem digits_some {l r:List Ti}{v:Int}{g:Bool}(h:iN l=some (v,r,g)):∃t,l=t :: r/\digQ t=some (v,g):=by
 unfold iN nQ at h;split at h
 ·cases h
 ·rename_i t r';split at h
  ·cases h
  ·rename_i e;simp only[Option.some.injEq,Prod.mk.injEq]at h;obtain⟨rfl,rfl,rfl⟩:=h;exact⟨t,rfl,e⟩
theorem plain_ok {w:World}{p:Nat}{l r:List Ti}{g g':Bool}{v:Int}(h:RR w p l g)(hd:plainP l=some (v,r,g')):
  Calls Tryz.prog 217 #[.pointer (some ⟨p,0,none⟩)] w (Did (.int .u64 v) p r (g||g') w):=by
 have HN:=aH (gL h);unfold plainP ifP at hd;by_cases hk:((cQ l).kind==5)=true
 ·rw[if_pos hk]at hd;obtain⟨t,rfl,ht⟩:∃t,l=t :: r/\some (t.v,false)=some (v,g'):=by
   unfold nQ at hd;split at hd
   ·cases hd
   ·rename_i t r';simp only[Option.some.injEq,Prod.mk.injEq]at hd;obtain⟨rfl,rfl,rfl⟩:=hd;exact⟨t,rfl,rfl⟩
  cases ht
  replace hk:(t.kind==5)=true:=hk;rw[show cQ (t :: r)=t from rfl]at HN;clear h hd;go_enter Tryz.func217,Tryz.ntmps217;go_wp2_with fail
  refine HN.out.mono ?_;rintro e u ⟨rfl,hR,hK⟩;have HL:=aH (iL hR hK t);clear hR hK;obtain⟨x0,x1,x2⟩:=HL.out.2.2.1.cells;obtain⟨k,m,k1,k2,k3,HS⟩:=HL.out.1.step;obtain⟨y0,y1,y2⟩:=(HL.out.2.2.1.set (o:=1) HL.out.2.2.2 (.int .i64 (m:Int))).cells;have HS:=aH HS;go_wp2;go_ret;exact⟨rfl,by rw[Bool.or_false];exact HS.out,KP.trans' HL.out.2.1 (KP.step _ _ _ _)⟩
 ·rw[if_neg hk]at hd;obtain⟨t,rfl,ht⟩:=digits_some hd;replace hk:(t.kind==5)=false:=by simpa[cQ]using hk
  rw[show cQ (t :: r)=t from rfl]at HN;clear h hd;go_enter Tryz.func217,Tryz.ntmps217;go_wp2_with fail
  refine HN.out.mono ?_;rintro e u ⟨rfl,hR,hK⟩;have HL:=aH (iL hR hK t);clear hR hK;obtain⟨x0,x1,x2⟩:=HL.out.2.2.1.cells;have HT:=aH ht;clear ht;go_wp2_with fail
  refine(digits_ok HL.out.1 HT.out).mono ?_;rintro e u2 ⟨rfl,hR2,hK2⟩;have HR2:=aH hR2;have HK2:=aH (KP.trans' HL.out.2.1 hK2);clear hR2 hK2;go_wp2;go_ret;exact⟨rfl,HR2.out,HK2.out⟩
theorem plain_no {w:World}{p:Nat}{l:List Ti}{g:Bool}(h:RR w p l g)(hd:plainP l=none):
  Calls Tryz.prog 217 #[.pointer (some ⟨p,0,none⟩)] w (Thr p w):=by
 have HN:=aH (gL h);unfold plainP ifP at hd;by_cases hk:((cQ l).kind==5)=true
 ·rw[if_pos hk]at hd;obtain⟨t,ht⟩:∃t,cQ l=t:=⟨_,rfl⟩;obtain⟨r,rfl⟩:=next_cons ht (by rw[<-ht];rw[beq_iff_eq]at hk;rw[hk];decide);cases hd
 ·rw[if_neg hk]at hd;replace hk:((cQ l).kind==5)=false:=by simpa using hk
  have HD:=aH hd;obtain⟨t,ht⟩:∃t,cQ l=t:=⟨_,rfl⟩;rw[ht]at HN hk;clear h hd ht;go_enter Tryz.func217,Tryz.ntmps217;go_wp2_with fail
  refine HN.out.mono ?_;rintro e u ⟨rfl,hR,hK⟩;have HL:=aH (iL hR hK t);clear hR hK;obtain⟨x0,x1,x2⟩:=HL.out.2.2.1.cells;go_wp2_with fail
  refine(digits_no HL.out.1 HD.out).mono ?_;rintro e u2 ⟨rfl,hK2⟩;exact⟨rfl,rfl,KP.trans' HL.out.2.1 hK2⟩
end
section
open Go.ChangeShapes Go.WideShapes Go.Deep Go.RowKit
open Go.ChangeShapes Go.WideShapes Go.Deep Go.RowKit
theorem eJ {α β:Type}{f:Pr α}{k:α->Pr β}{l r:List Ti}{b:β}{g:Bool}(h:iG f k l=some (b,r,g)):∃a r1 g1 g2,f l=some (a,r1,g1)/\k a r1=some (b,r,g2)/\g=(g1||g2):=by
 unfold iG at h;split at h
 ·cases h
 ·rename_i a r1 g1 h1;split at h
  ·cases h
  ·rename_i b' r' g' h2;simp only[Option.some.injEq,Prod.mk.injEq]at h;obtain⟨rfl,rfl,rfl⟩:=h;exact⟨a,r1,g1,g',h1,h2,rfl⟩
theorem iF {α β:Type}{f:Pr α}{k:α->Pr β}{l:List Ti}(h:iG f k l=none):f l=none\/∃a r1 g1,f l=some (a,r1,g1)/\k a r1=none:=by
 unfold iG at h;split at h
 ·rename_i h1;exact .inl h1
 ·rename_i a r1 g1 h1;split at h
  ·rename_i h2;exact .inr ⟨a,r1,g1,h1,h2⟩
  ·cases h
theorem rX {α:Type}{q:Ti->Option (α×Bool)}{l r:List Ti}{a:α}{g:Bool}(h:nQ q l=some (a,r,g)):∃t,l=t :: r/\q t=some (a,g):=by
 unfold nQ at h;split at h
 ·cases h
 ·rename_i t r';split at h
  ·cases h
  ·rename_i e;simp only[Option.some.injEq,Prod.mk.injEq]at h;obtain⟨rfl,rfl,rfl⟩:=h;exact⟨t,rfl,e⟩
theorem oU {α:Type}{a b:α}{l r:List Ti}{g:Bool}(h:pureP a l=some (b,r,g)):b=a/\r=l/\g=false:=by unfold pureP at h;cases h;exact⟨rfl,rfl,rfl⟩
theorem take_cases (s:List UInt8)(l:List Ti):(∃t r,l=t :: r/\isSg s t=true/\jE s l=some (true,r,false))\/(isSg s (cQ l)=false/\jE s l=some (false,l,false)):=by
 cases c:isSg s (cQ l)with
 |false=>refine .inr ⟨rfl,?_⟩;unfold jE ifP;rw[if_neg (by rw[c];decide)];rfl
 |true=>
  cases l with
  |nil=>exact absurd c (by unfold isSg;simp[cQ])
  |cons t r=>refine .inl ⟨t,r,rfl,c,?_⟩;unfold jE ifP;rw[if_pos c];rfl
theorem eT {w:World}{p:Nat}{l r:List Ti}{g m g':Bool}(h:RR w p l g)(s:List UInt8)(ht:jE s l=some (m,r,g')):
  Calls Tryz.prog 214 #[.pointer (some ⟨p,0,none⟩),.string ⟨s.toArray⟩] w (Did (.bool m) p r (g||g') w):=by
 rcases take_cases s l with⟨t,r',rfl,hs,e⟩|⟨hs,e⟩
 ·rw[e]at ht;cases ht;rw[Bool.or_false];exact take_yes h s hs
 ·rw[e]at ht;cases ht;rw[Bool.or_false];exact take_no h s hs
theorem take_ne (s:List UInt8)(l:List Ti):jE s l≠none:=by
 rcases take_cases s l with⟨t,r,-,-,e⟩|⟨-,e⟩<;>rw[e]<;>exact fun h=>nomatch h
theorem digits_range {l r:List Ti}{v:Int}{g:Bool}(h:iN l=some (v,r,g)):0<=v/\v<18446744073709551616:=by
 obtain⟨t,-,e⟩:=rX h;unfold digQ at e;have hr:=pY t.text;split at e
 ·split at e
  ·cases e;exact⟨hr.1,hr.2.1⟩
  ·split at e
   ·cases e;omega
   ·cases e
 ·cases e
theorem mJ {w:World}{p:Nat}{l r:List Ti}{g g':Bool}{v:Int}(h:RR w p l g)(hd:iN l=some (v,r,g')):
  Calls Tryz.prog 216 #[.pointer (some ⟨p,0,none⟩)] w (Did (.int .u64 v) p r (g||g') w):=by
 obtain⟨t,rfl,e⟩:=rX hd;exact digits_ok h e
def RB (w:World)(X:Nat)(cs:Array Value)(T:TypeId):Prop:=w.heap[X]?=some (.cells cs T (0,0))
theorem RB.kept {w w':World}{X p:Nat}{cs:Array Value}{T:TypeId}(h:RB w X cs T)(hk:KP p w w')(hne:X≠p):RB w' X cs T:=(hk.block X (lt_of_block h) (fun e=>hne (by cases e;rfl))).trans h
theorem RB.next {w w':World}{X:Nat}{cs:Array Value}{T:TypeId}(h:RB w X cs T)(hb:Below w.heap.size w w'):RB w' X cs T:=(hb.block X (lt_of_block h)).trans h
theorem RB.cell {w:World}{X j:Nat}{cs:Array Value}{T:TypeId}(h:RB w X cs T):w.cell? ⟨X,j,none⟩=cs[j]?:=by rw[World.cell?,h];rfl
theorem RB.frozen {w:World}{X j:Nat}{cs:Array Value}{T:TypeId}(h:RB w X cs T):w.frozen? ⟨X,j,none⟩=false:=by rw[World.frozen?,h];rfl
theorem RB.set {w:World}{X j:Nat}{cs:Array Value}{T:TypeId}(h:RB w X cs T)(v:Value):RB (w.setCell ⟨X,j,none⟩ v) X (cs.setIfInBounds j v) T:=by
 unfold RB World.setCell;simp[show w.heap[X]?=some (.cells cs T (0,0))from h,Array.getElem?_modify]
theorem start {w:World}{p:Nat}{l:List Ti}{g:Bool}(h:RR w p l g)(cs:Array Value)(T:TypeId):
  RR (w.alloc (.cells cs T)) p l g/\KP p w (w.alloc (.cells cs T))/\RB (w.alloc (.cells cs T)) w.heap.size cs T/\w.heap.size≠p:=by
 have hb:Below w.heap.size w (w.alloc (.cells cs T)):=(Below.refl _ w).alloc (Nat.le_refl _) _;exact⟨h.next hb,KP.of_below hb,(MapKept.heap_alloc w _).1,by have:=h.lt;omega⟩
theorem RR.own {w:World}{p X j:Nat}{l:List Ti}{g:Bool}(h:RR w p l g)(hX:p<X)(v:Value):RR (w.setCell ⟨X,j,none⟩ v) p l g:=
 h.below ((Below.refl X w).setCell (p:=⟨X,j,none⟩) (Nat.le_refl _) v) hX
theorem KP.own {w u:World}{p X j:Nat}(h:KP p w u)(hX:w.heap.size<=X)(v:Value):KP p w (u.setCell ⟨X,j,none⟩ v):=
 KP.below h ((Below.refl X u).setCell (p:=⟨X,j,none⟩) (Nat.le_refl _) v) hX
theorem number_ok {w:World}{p:Nat}{l r:List Ti}{g g' m:Bool}{v:Int}(h:RR w p l g)(hd:jQ l=some ((m,v),r,g')):
  Calls Tryz.prog 195 #[.pointer (some ⟨p,0,none⟩)] w (Did (.agg #[.bool m,.int .u64 v]) p r (g||g') w):=by
 obtain⟨m1,r1,g1,g2,e1,hd2,rfl⟩:=eJ hd;obtain⟨v1,r2,g3,g4,e2,hd3,rfl⟩:=eJ hd2;obtain⟨e3,rfl,rfl⟩:=oU hd3;cases e3
 have H1:=aH e1;have H2:=aH e2;obtain⟨X,hX⟩:=aE w.heap.size;have hpX:p<X:=by rw[hX];exact h.lt
 have HS:=aH (start h #[.bool false,.int .u64 0] 239);rw[<-hX]at HS;have HX:=aH hX;have HPX:=aH hpX;clear h e1 e2 hd hd2 hd3 hpX;obtain⟨b,hb⟩:∃b,(v !=0)=b:=⟨_,rfl⟩;have hgg:(g||(g1||(g3||false)))=((g||g1)||g3):=by cases g<;>cases g1<;>cases g3<;>rfl
 rw[hgg];clear hgg;cases m1
 all_goals
  go_enter Tryz.func195,Tryz.ntmps195;go_wp2_with fail
  rw[<-hX];clear hX;generalize w.alloc (.cells #[.bool false,.int .u64 0] 239)=W0 at HS⊢;refine(eT HS.out.1 [45] H1.out).mono ?_;rintro e u1 ⟨rfl,hR,hK⟩;have HR1:=aH hR;have HB1:=aH (HS.out.2.2.1.kept hK HS.out.2.2.2);have HK1:=aH (KP.trans' HS.out.2.1 hK);clear hR hK;go_wp2_with fail
  refine(plain_ok HR1.out H2.out).mono ?_;rintro e u2 ⟨rfl,hR,hK⟩;have HR2:=aH hR;have HB2:=aH (HB1.out.kept hK HS.out.2.2.2);have HK2:=aH (KP.trans' HK1.out hK);clear hR hK;have x0:=HB2.out.cell (j:=0);have x1:=HB2.out.cell (j:=1);have y0:=HB2.out.frozen (j:=0);have y1:=HB2.out.frozen (j:=1);have hXl:X<u2.heap.size:=lt_of_block HB2.out;go_wp2;refine bodyPost_ret (results_cell_row (P:=Tryz.prog) rfl _ _ X 239 _ (0,0) _ rfl ((HB2.out.set (j:=0) _).set (j:=1) _) Tryz.underlying239 rfl (by kernel_rfl)) rfl ?_;exact⟨by simp[hb],(HR2.out.own HPX.out _).own HPX.out _,(HK2.out.own (by rw[HX.out];exact Nat.le_refl _) _).own (by rw[HX.out];exact Nat.le_refl _) _⟩
theorem number_no {w:World}{p:Nat}{l:List Ti}{g:Bool}(h:RR w p l g)(hd:jQ l=none):
  Calls Tryz.prog 195 #[.pointer (some ⟨p,0,none⟩)] w (Thr p w):=by
 rcases iF hd with hd|⟨m1,r1,g1,e1,hd⟩
 ·exact absurd hd (take_ne _ _)
 rcases iF hd with hd|⟨v1,r2,g3,e2,hd⟩
 ·have H1:=aH e1;have H2:=aH hd;obtain⟨X,hX⟩:=aE w.heap.size;have HS:=aH (start h #[.bool false,.int .u64 0] 239);rw[<-hX]at HS;clear h e1 hd;go_enter Tryz.func195,Tryz.ntmps195;go_wp2_with fail
  rw[<-hX];clear hX;generalize w.alloc (.cells #[.bool false,.int .u64 0] 239)=W0 at HS⊢;refine(eT HS.out.1 [45] H1.out).mono ?_;rintro e u1 ⟨rfl,hR,hK⟩;have HR1:=aH hR;have HK1:=aH (KP.trans' HS.out.2.1 hK);clear hR hK;go_wp2_with fail
  refine(plain_no HR1.out H2.out).mono ?_;rintro e u2 ⟨rfl,hK⟩;exact⟨rfl,rfl,KP.trans' HK1.out hK⟩
 ·cases hd
theorem added_true {w:World}{p:Nat}{l r r0 r1:List Ti}{g g0 g1 g':Bool}{a:Int}(h:RR w p l g)(e1:jE [45] l=some (true,r0,g0))(hd:addTo true r0=some (a,r,g')):
  Calls Tryz.prog 194 #[.pointer (some ⟨p,0,none⟩)] w (Did (.int .i64 a) p r ((g||g0)||g') w):=by
 obtain⟨v,r2,g3,g4,e3,hd2,rfl⟩:=eJ hd;clear hd;have hd:=hd2;clear hd2;have hrng:=digits_range e3;obtain⟨sa,se,hs⟩:∃sa se,lN true v=(sa,se):=⟨_,_,rfl⟩;have HSg:Hid (∀u,Calls Tryz.prog 215 #[.bool true,.int .u64 v] u (bQ (two .i64 .i64 (sa,se)) u)):=aH fun u=>by
  have:=Signed_any true v u hrng.1 hrng.2;rwa[hs]at this
 rw[hs]at hd;have h0:=aH h;have H1:=aH e1;have H3:=aH e3;clear h e1 e3 hrng hs;obtain⟨b,hb⟩:∃b,(se !=0)=b:=⟨_,rfl⟩;simp only[hb]at hd;cases b
 ·cases hd
  rw[show∀x y:Bool,(x||(y||false))=(x||y) by decide];go_enter Tryz.func194,Tryz.ntmps194;go_wp2_with fail
  refine(eT h0.out [45] H1.out).mono ?_;rintro e u1 ⟨rfl,hR,hK⟩;have HR1:=aH hR;have HK1:=aH hK;clear hR hK;go_wp2_with fail
  refine(mJ HR1.out H3.out).mono ?_;rintro e u2 ⟨rfl,hR,hK⟩;have HR2:=aH hR;have HK2:=aH (KP.trans' HK1.out hK);clear hR hK;go_wp2_with fail
  refine(HSg.out _).mono ?_;rintro e u3 ⟨rfl,rfl⟩;obtain⟨k2,k4,HG⟩:=HR2.out.great;have HG:=aH HG;go_wp2;go_ret;exact⟨rfl,HR2.out,HK2.out⟩
 ·cases hd
  rw[show∀x y:Bool,(x||(y||true))=true by decide];go_enter Tryz.func194,Tryz.ntmps194;go_wp2_with fail
  refine(eT h0.out [45] H1.out).mono ?_;rintro e u1 ⟨rfl,hR,hK⟩;have HR1:=aH hR;have HK1:=aH hK;clear hR hK;go_wp2_with fail
  refine(mJ HR1.out H3.out).mono ?_;rintro e u2 ⟨rfl,hR,hK⟩;have HR2:=aH hR;have HK2:=aH (KP.trans' HK1.out hK);clear hR hK;go_wp2_with fail
  refine(HSg.out _).mono ?_;rintro e u3 ⟨rfl,rfl⟩;obtain⟨k2,k4,HG⟩:=HR2.out.great;have HG:=aH HG;go_wp2;go_ret;exact⟨rfl,HG.out,KP.trans' HK2.out (KP.step _ _ _ _)⟩
theorem added_false {w:World}{p:Nat}{l r r0 r1:List Ti}{g g0 g1 g':Bool}{a:Int}(h:RR w p l g)(e1:jE [45] l=some (false,r1,g1))(e2:jE [43] r1=some (true,r0,g0))(hd:addTo false r0=some (a,r,g')):
  Calls Tryz.prog 194 #[.pointer (some ⟨p,0,none⟩)] w (Did (.int .i64 a) p r (((g||g1)||g0)||g') w):=by
 obtain⟨v,r2,g3,g4,e3,hd2,rfl⟩:=eJ hd;clear hd;have hd:=hd2;clear hd2;have hrng:=digits_range e3;obtain⟨sa,se,hs⟩:∃sa se,lN false v=(sa,se):=⟨_,_,rfl⟩;have HSg:Hid (∀u,Calls Tryz.prog 215 #[.bool false,.int .u64 v] u (bQ (two .i64 .i64 (sa,se)) u)):=aH fun u=>by
  have:=Signed_any false v u hrng.1 hrng.2;rwa[hs]at this
 rw[hs]at hd;have h0:=aH h;have H1:=aH e1;have H3:=aH e3;have H2:=aH e2;clear h e1 e3 hrng hs e2;obtain⟨b,hb⟩:∃b,(se !=0)=b:=⟨_,rfl⟩;simp only[hb]at hd;cases b
 ·cases hd
  rw[show∀x y:Bool,(x||(y||false))=(x||y) by decide];go_enter Tryz.func194,Tryz.ntmps194;go_wp2_with fail
  refine(eT h0.out [45] H1.out).mono ?_;rintro e u1 ⟨rfl,hR,hK⟩;have HR1:=aH hR;have HK1:=aH hK;clear hR hK;go_wp2_with fail
  refine(eT HR1.out [43] H2.out).mono ?_;rintro e u1a ⟨rfl,hR,hK⟩;have HR1:=aH hR;have HK1:=aH (KP.trans' HK1.out hK);clear hR hK;go_wp2_with fail
  refine(mJ HR1.out H3.out).mono ?_;rintro e u2 ⟨rfl,hR,hK⟩;have HR2:=aH hR;have HK2:=aH (KP.trans' HK1.out hK);clear hR hK;go_wp2_with fail
  refine(HSg.out _).mono ?_;rintro e u3 ⟨rfl,rfl⟩;obtain⟨k2,k4,HG⟩:=HR2.out.great;have HG:=aH HG;go_wp2;go_ret;exact⟨rfl,HR2.out,HK2.out⟩
 ·cases hd
  rw[show∀x y:Bool,(x||(y||true))=true by decide];go_enter Tryz.func194,Tryz.ntmps194;go_wp2_with fail
  refine(eT h0.out [45] H1.out).mono ?_;rintro e u1 ⟨rfl,hR,hK⟩;have HR1:=aH hR;have HK1:=aH hK;clear hR hK;go_wp2_with fail
  refine(eT HR1.out [43] H2.out).mono ?_;rintro e u1a ⟨rfl,hR,hK⟩;have HR1:=aH hR;have HK1:=aH (KP.trans' HK1.out hK);clear hR hK;go_wp2_with fail
  refine(mJ HR1.out H3.out).mono ?_;rintro e u2 ⟨rfl,hR,hK⟩;have HR2:=aH hR;have HK2:=aH (KP.trans' HK1.out hK);clear hR hK;go_wp2_with fail
  refine(HSg.out _).mono ?_;rintro e u3 ⟨rfl,rfl⟩;obtain⟨k2,k4,HG⟩:=HR2.out.great;have HG:=aH HG;go_wp2;go_ret;exact⟨rfl,HG.out,KP.trans' HK2.out (KP.step _ _ _ _)⟩
theorem added_true_no {w:World}{p:Nat}{l r0 r1:List Ti}{g g0 g1:Bool}(h:RR w p l g)(e1:jE [45] l=some (true,r0,g0))(hd:iN r0=none):
  Calls Tryz.prog 194 #[.pointer (some ⟨p,0,none⟩)] w (Thr p w):=by
  have h0:=aH h;have H1:=aH e1;have H3:=aH hd;clear h e1 hd;go_enter Tryz.func194,Tryz.ntmps194;go_wp2_with fail
  refine(eT h0.out [45] H1.out).mono ?_;rintro e u1 ⟨rfl,hR,hK⟩;have HR1:=aH hR;have HK1:=aH hK;clear hR hK;go_wp2_with fail
  refine(digits_no HR1.out H3.out).mono ?_;rintro e u2 ⟨rfl,hK⟩;exact⟨rfl,rfl,KP.trans' HK1.out hK⟩
theorem added_false_no {w:World}{p:Nat}{l r0 r1:List Ti}{g g0 g1:Bool}(h:RR w p l g)(e1:jE [45] l=some (false,r1,g1))(e2:jE [43] r1=some (true,r0,g0))(hd:iN r0=none):
  Calls Tryz.prog 194 #[.pointer (some ⟨p,0,none⟩)] w (Thr p w):=by
  have h0:=aH h;have H1:=aH e1;have H3:=aH hd;have H2:=aH e2;clear h e1 hd e2;go_enter Tryz.func194,Tryz.ntmps194;go_wp2_with fail
  refine(eT h0.out [45] H1.out).mono ?_;rintro e u1 ⟨rfl,hR,hK⟩;have HR1:=aH hR;have HK1:=aH hK;clear hR hK;go_wp2_with fail
  refine(eT HR1.out [43] H2.out).mono ?_;rintro e u1a ⟨rfl,hR,hK⟩;have HR1:=aH hR;have HK1:=aH (KP.trans' HK1.out hK);clear hR hK;go_wp2_with fail
  refine(digits_no HR1.out H3.out).mono ?_;rintro e u2 ⟨rfl,hK⟩;exact⟨rfl,rfl,KP.trans' HK1.out hK⟩
theorem added_zero {w:World}{p:Nat}{l r r1:List Ti}{g g0 g1:Bool}(h:RR w p l g)(e1:jE [45] l=some (false,r1,g1))(e2:jE [43] r1=some (false,r,g0)):
  Calls Tryz.prog 194 #[.pointer (some ⟨p,0,none⟩)] w (Did (.int .i64 0) p r ((g||g1)||g0) w):=by
  have h0:=aH h;have H1:=aH e1;have H2:=aH e2;clear h e1 e2;go_enter Tryz.func194,Tryz.ntmps194;go_wp2_with fail
  refine(eT h0.out [45] H1.out).mono ?_;rintro e u1 ⟨rfl,hR,hK⟩;have HR1:=aH hR;have HK1:=aH hK;clear hR hK;go_wp2_with fail
  refine(eT HR1.out [43] H2.out).mono ?_;rintro e u1a ⟨rfl,hR,hK⟩;have HR2:=aH hR;have HK2:=aH (KP.trans' HK1.out hK);clear hR hK;go_wp2;go_ret;exact⟨rfl,HR2.out,HK2.out⟩
theorem added_ok {w:World}{p:Nat}{l r:List Ti}{g g':Bool}{a:Int}(h:RR w p l g)(hd:qS l=some (a,r,g')):
  Calls Tryz.prog 194 #[.pointer (some ⟨p,0,none⟩)] w (Did (.int .i64 a) p r (g||g') w):=by
 obtain⟨m,r1,g1,g2,e1,hd2,rfl⟩:=eJ hd;clear hd;have hd:=hd2;clear hd2;rw[<-Bool.or_assoc];cases m
 ·rw[if_neg (by decide)]at hd;obtain⟨q,r2,g3,g4,e2,hd2,rfl⟩:=eJ hd;clear hd;have hd:=hd2;clear hd2;rw[<-Bool.or_assoc];cases q
  ·rw[if_neg (by decide)]at hd;obtain⟨rfl,rfl,rfl⟩:=oU hd;rw[Bool.or_false];exact added_zero h e1 e2
  ·rw[if_pos rfl]at hd;exact added_false h e1 e2 hd
 ·rw[if_pos rfl]at hd;exact added_true (r1:=[]) (g1:=false) h e1 hd
theorem added_no {w:World}{p:Nat}{l:List Ti}{g:Bool}(h:RR w p l g)(hd:qS l=none):
  Calls Tryz.prog 194 #[.pointer (some ⟨p,0,none⟩)] w (Thr p w):=by
 have key:∀ {m:Bool} {l:List Ti},addTo m l=none->iN l=none:=by
  intro m l h;rcases iF h with h|⟨a,r1,g1,-,h⟩
  ·exact h
  ·cases h
 rcases iF hd with hd|⟨m,r1,g1,e1,hd⟩
 ·exact absurd hd (take_ne _ _)
 cases m
 ·rw[if_neg (by decide)]at hd;rcases iF hd with hd|⟨q,r2,g3,e2,hd⟩
  ·exact absurd hd (take_ne _ _)
  cases q
  ·cases hd
  ·rw[if_pos rfl]at hd;exact added_false_no h e1 e2 (key hd)
 ·rw[if_pos rfl]at hd;exact added_true_no (r1:=[]) (g1:=false) h e1 (key hd)
open Go.ChangeShapes Go.WideShapes Go.Deep Go.RowKit
abbrev poV (o:Po):Value:=.agg #[.int .i64 o.kind,.int .i64 o.reg,.bool o.stack,.bool o.minus,.int .u64 o.v,.string ⟨o.sym.toArray⟩,.int .i64 o.add]
theorem opnd_number (m:Bool)(v:Int)(w:World):
  Calls Tryz.prog 273 #[.agg #[.bool m,.int .u64 v]] w (aP (poV ⟨2,0,false,m,v,[],0⟩) w):=by
 go_enter Tryz.func273,Tryz.ntmps273;go_wp2;have hb:=(((Below.refl _ w).alloc (Nat.le_refl _) (.cells #[.bool m,.int .u64 v] 239))).alloc (Nat.le_trans (Nat.le_succ _) (by rw[World.size_alloc];exact Nat.le_refl _)) (.cells #[.int .i64 2,.int .i64 0,.bool false,.bool m,.int .u64 v,.string ⟨#[]⟩,.int .i64 0] 176);have hX:((w.alloc (.cells #[.bool m,.int .u64 v] 239)).alloc (.cells #[.int .i64 2,.int .i64 0,.bool false,.bool m,.int .u64 v,.string ⟨#[]⟩,.int .i64 0] 176)).heap[w.heap.size+1]?=some (.cells #[.int .i64 2,.int .i64 0,.bool false,.bool m,.int .u64 v,.string ⟨#[]⟩,.int .i64 0] 176 (0,0)):=by
  have:=(MapKept.heap_alloc (w.alloc (.cells #[.bool m,.int .u64 v] 239)) (.cells #[.int .i64 2,.int .i64 0,.bool false,.bool m,.int .u64 v,.string ⟨#[]⟩,.int .i64 0] 176)).1;rwa[World.size_alloc]at this
 refine bodyPost_ret (results_cell_row (P:=Tryz.prog) rfl _ _ (w.heap.size+1) 176 _ (0,0) _ rfl hX Tryz.underlying176 rfl (by kernel_rfl)) rfl ?_;exact⟨rfl,hb⟩
theorem opnd_symbol (s:List UInt8)(a:Int)(w:World):
  Calls Tryz.prog 272 #[.agg #[.string ⟨s.toArray⟩,.int .i64 a]] w (aP (poV ⟨3,0,false,false,0,s,a⟩) w):=by
 go_enter Tryz.func272,Tryz.ntmps272;go_wp2;have hb:=(((Below.refl _ w).alloc (Nat.le_refl _) (.cells #[.string ⟨s.toArray⟩,.int .i64 a] 237))).alloc (Nat.le_trans (Nat.le_succ _) (by rw[World.size_alloc];exact Nat.le_refl _)) (.cells #[.int .i64 3,.int .i64 0,.bool false,.bool false,.int .u64 0,.string ⟨s.toArray⟩,.int .i64 a] 176);have hX:((w.alloc (.cells #[.string ⟨s.toArray⟩,.int .i64 a] 237)).alloc (.cells #[.int .i64 3,.int .i64 0,.bool false,.bool false,.int .u64 0,.string ⟨s.toArray⟩,.int .i64 a] 176)).heap[w.heap.size+1]?=some (.cells #[.int .i64 3,.int .i64 0,.bool false,.bool false,.int .u64 0,.string ⟨s.toArray⟩,.int .i64 a] 176 (0,0)):=by
  have:=(MapKept.heap_alloc (w.alloc (.cells #[.string ⟨s.toArray⟩,.int .i64 a] 237)) (.cells #[.int .i64 3,.int .i64 0,.bool false,.bool false,.int .u64 0,.string ⟨s.toArray⟩,.int .i64 a] 176)).1;rwa[World.size_alloc]at this
 refine bodyPost_ret (results_cell_row (P:=Tryz.prog) rfl _ _ (w.heap.size+1) 176 _ (0,0) _ rfl hX Tryz.underlying176 rfl (by kernel_rfl)) rfl ?_;exact⟨rfl,hb⟩
abbrev symV (s:List UInt8)(a:Int):Value:=.iface 237 (.agg #[.string ⟨s.toArray⟩,.int .i64 a])
abbrev numV (m:Bool)(v:Int):Value:=.iface 239 (.agg #[.bool m,.int .u64 v])
def kU (s:List UInt8):Bool:=(eH s).isSome
theorem label_v (s:List UInt8):∃n u,labelV (eH s)=.tuple #[.int .i64 n,.bool u,.bool (kU s)]:=by
 unfold labelV kU;cases eH s with
 |none=>exact⟨0,false,rfl⟩
 |some x=>obtain⟨n,u⟩:=x;exact⟨n,u,rfl⟩
theorem eO (t:Ti)(h:GoodTi t):∃n b,∀u:World,Calls Tryz.prog 192 #[.string ⟨t.text.toArray⟩] u (kP (.tuple #[.int .i64 n,.bool b,.bool (kU t.text)]) u):=by
 obtain⟨n,b,e⟩:=label_v t.text;refine⟨n,b,fun u=>?_⟩;have:=Label_any ⟨t.text.toArray⟩ (by show t.text.toArray.size<=maxLen;rw[List.size_toArray];exact h.text) u;rw[show(⟨t.text.toArray⟩:ByteArray).data.toList=t.text by simp,e]at this;exact this
theorem fL (t:Ti)(h:GoodTi t):∀u:World,nE u->Calls Tryz.prog 193 #[.string ⟨t.text.toArray⟩] u (aP (.bool (cI t.text)) u):=by
 intro u hu;have:=isName_any ⟨t.text.toArray⟩ (by show t.text.toArray.size<=maxLen;rw[List.size_toArray];exact h.text) u hu;rwa[show(⟨t.text.toArray⟩:ByteArray).data.toList=t.text by simp]at this
theorem expr_num_tf_ok {w:World}{p:Nat}{l r:List Ti}{g g' m lb nm:Bool}{v:Int}{t:Ti}(h:RR w p l g)(ht:cQ l=t)(c2:(t.kind==2)=true)(c1:(t.kind==1)=false)(hl:kU t.text=false)(hm:cI t.text=nm)(hd:jQ l=some ((m,v),r,g')):
  Calls Tryz.prog 168 #[.pointer (some ⟨p,0,none⟩)] w (Did (numV m v) p r (g||g') w):=by
 have HN:=aH (gL h);have hg:=fN h.good;rw[ht]at HN hg;obtain⟨n,b,hlab⟩:=eO t hg;have HLab:=aH hlab;have HNm:=aH (fL t hg);have HD:=aH hd;clear h ht hlab hg hd;rw[hl]at HLab;rw[hm]at HNm;clear hl hm;go_enter Tryz.func168,Tryz.ntmps168;go_wp2_with fail
 refine HN.out.mono ?_;rintro e u ⟨rfl,hR,hK⟩;have HL:=aH (iL hR hK t);clear hR hK;obtain⟨x0,x1,x2⟩:=HL.out.2.2.1.cells;go_wp2_with fail
 refine(HLab.out _).mono ?_;rintro e u2 ⟨rfl,hB⟩;have HB:=aH hB;clear hB;obtain⟨z,rfl⟩:=HB.out;have HR2:=aH (HL.out.1.drewN z);have HK2:=aH (HL.out.2.1.drewN z);have HT2:Hid (TC ((jR u t).drewN z) u.heap.size t):=aH HL.out.2.2.1;obtain⟨y0,y1,y2⟩:=HT2.out.cells;generalize(jR u t).drewN z=U at HR2 HK2 HT2 y0 y1 y2⊢;clear x0 x1 x2;generalize u.heap.size=X at*
 go_wp2_with fail
 refine(number_ok HR2.out HD.out).mono ?_;rintro e u5 ⟨rfl,hR,hK⟩;have HR5:=aH hR;have HK5:=aH (KP.trans' HK2.out hK);clear hR hK;go_wp2;go_ret;exact⟨rfl,HR5.out,HK5.out⟩
theorem expr_num_tf_no {w:World}{p:Nat}{l r:List Ti}{g g' m lb nm:Bool}{v:Int}{t:Ti}(h:RR w p l g)(ht:cQ l=t)(c2:(t.kind==2)=true)(c1:(t.kind==1)=false)(hl:kU t.text=false)(hm:cI t.text=nm)(hd:jQ l=none):
  Calls Tryz.prog 168 #[.pointer (some ⟨p,0,none⟩)] w (Thr p w):=by
 have HN:=aH (gL h);have hg:=fN h.good;rw[ht]at HN hg;obtain⟨n,b,hlab⟩:=eO t hg;have HLab:=aH hlab;have HNm:=aH (fL t hg);have HD:=aH hd;clear h ht hlab hg hd;rw[hl]at HLab;rw[hm]at HNm;clear hl hm;go_enter Tryz.func168,Tryz.ntmps168;go_wp2_with fail
 refine HN.out.mono ?_;rintro e u ⟨rfl,hR,hK⟩;have HL:=aH (iL hR hK t);clear hR hK;obtain⟨x0,x1,x2⟩:=HL.out.2.2.1.cells;go_wp2_with fail
 refine(HLab.out _).mono ?_;rintro e u2 ⟨rfl,hB⟩;have HB:=aH hB;clear hB;obtain⟨z,rfl⟩:=HB.out;have HR2:=aH (HL.out.1.drewN z);have HK2:=aH (HL.out.2.1.drewN z);have HT2:Hid (TC ((jR u t).drewN z) u.heap.size t):=aH HL.out.2.2.1;obtain⟨y0,y1,y2⟩:=HT2.out.cells;generalize(jR u t).drewN z=U at HR2 HK2 HT2 y0 y1 y2⊢;clear x0 x1 x2;generalize u.heap.size=X at*
 go_wp2_with fail
 refine(number_no HR2.out HD.out).mono ?_;rintro e u5 ⟨rfl,hK⟩;exact⟨rfl,rfl,KP.trans' HK2.out hK⟩
theorem expr_num_ff0_ok {w:World}{p:Nat}{l r:List Ti}{g g' m lb nm:Bool}{v:Int}{t:Ti}(h:RR w p l g)(ht:cQ l=t)(c2:(t.kind==2)=false)(c1:(t.kind==1)=false)(hl:kU t.text=lb)(hm:cI t.text=nm)(hd:jQ l=some ((m,v),r,g')):
  Calls Tryz.prog 168 #[.pointer (some ⟨p,0,none⟩)] w (Did (numV m v) p r (g||g') w):=by
 have HN:=aH (gL h);have hg:=fN h.good;rw[ht]at HN hg;obtain⟨n,b,hlab⟩:=eO t hg;have HLab:=aH hlab;have HNm:=aH (fL t hg);have HD:=aH hd;clear h ht hlab hg hd;rw[hl]at HLab;rw[hm]at HNm;clear hl hm;go_enter Tryz.func168,Tryz.ntmps168;go_wp2_with fail
 refine HN.out.mono ?_;rintro e u ⟨rfl,hR,hK⟩;have HL:=aH (iL hR hK t);clear hR hK;obtain⟨x0,x1,x2⟩:=HL.out.2.2.1.cells;go_wp2_with fail
 refine(HLab.out _).mono ?_;rintro e u2 ⟨rfl,hB⟩;have HB:=aH hB;clear hB;obtain⟨z,rfl⟩:=HB.out;have HR2:=aH (HL.out.1.drewN z);have HK2:=aH (HL.out.2.1.drewN z);have HT2:Hid (TC ((jR u t).drewN z) u.heap.size t):=aH HL.out.2.2.1;obtain⟨y0,y1,y2⟩:=HT2.out.cells;generalize(jR u t).drewN z=U at HR2 HK2 HT2 y0 y1 y2⊢;clear x0 x1 x2;generalize u.heap.size=X at*
 go_wp2_with fail
 refine(number_ok HR2.out HD.out).mono ?_;rintro e u5 ⟨rfl,hR,hK⟩;have HR5:=aH hR;have HK5:=aH (KP.trans' HK2.out hK);clear hR hK;go_wp2;go_ret;exact⟨rfl,HR5.out,HK5.out⟩
theorem expr_num_ff0_no {w:World}{p:Nat}{l r:List Ti}{g g' m lb nm:Bool}{v:Int}{t:Ti}(h:RR w p l g)(ht:cQ l=t)(c2:(t.kind==2)=false)(c1:(t.kind==1)=false)(hl:kU t.text=lb)(hm:cI t.text=nm)(hd:jQ l=none):
  Calls Tryz.prog 168 #[.pointer (some ⟨p,0,none⟩)] w (Thr p w):=by
 have HN:=aH (gL h);have hg:=fN h.good;rw[ht]at HN hg;obtain⟨n,b,hlab⟩:=eO t hg;have HLab:=aH hlab;have HNm:=aH (fL t hg);have HD:=aH hd;clear h ht hlab hg hd;rw[hl]at HLab;rw[hm]at HNm;clear hl hm;go_enter Tryz.func168,Tryz.ntmps168;go_wp2_with fail
 refine HN.out.mono ?_;rintro e u ⟨rfl,hR,hK⟩;have HL:=aH (iL hR hK t);clear hR hK;obtain⟨x0,x1,x2⟩:=HL.out.2.2.1.cells;go_wp2_with fail
 refine(HLab.out _).mono ?_;rintro e u2 ⟨rfl,hB⟩;have HB:=aH hB;clear hB;obtain⟨z,rfl⟩:=HB.out;have HR2:=aH (HL.out.1.drewN z);have HK2:=aH (HL.out.2.1.drewN z);have HT2:Hid (TC ((jR u t).drewN z) u.heap.size t):=aH HL.out.2.2.1;obtain⟨y0,y1,y2⟩:=HT2.out.cells;generalize(jR u t).drewN z=U at HR2 HK2 HT2 y0 y1 y2⊢;clear x0 x1 x2;generalize u.heap.size=X at*
 go_wp2_with fail
 refine(number_no HR2.out HD.out).mono ?_;rintro e u5 ⟨rfl,hK⟩;exact⟨rfl,rfl,KP.trans' HK2.out hK⟩
theorem expr_num_ff1_ok {w:World}{p:Nat}{l r:List Ti}{g g' m lb nm:Bool}{v:Int}{t:Ti}(h:RR w p l g)(ht:cQ l=t)(c2:(t.kind==2)=false)(c1:(t.kind==1)=true)(hl:kU t.text=lb)(hm:cI t.text=false)(hd:jQ l=some ((m,v),r,g')):
  Calls Tryz.prog 168 #[.pointer (some ⟨p,0,none⟩)] w (Did (numV m v) p r (g||g') w):=by
 have HN:=aH (gL h);have hg:=fN h.good;rw[ht]at HN hg;obtain⟨n,b,hlab⟩:=eO t hg;have HLab:=aH hlab;have HNm:=aH (fL t hg);have HD:=aH hd;clear h ht hlab hg hd;rw[hl]at HLab;rw[hm]at HNm;clear hl hm;go_enter Tryz.func168,Tryz.ntmps168;go_wp2_with fail
 refine HN.out.mono ?_;rintro e u ⟨rfl,hR,hK⟩;have HL:=aH (iL hR hK t);clear hR hK;obtain⟨x0,x1,x2⟩:=HL.out.2.2.1.cells;go_wp2_with fail
 refine(HLab.out _).mono ?_;rintro e u2 ⟨rfl,hB⟩;have HB:=aH hB;clear hB;obtain⟨z,rfl⟩:=HB.out;have HR2:=aH (HL.out.1.drewN z);have HK2:=aH (HL.out.2.1.drewN z);have HT2:Hid (TC ((jR u t).drewN z) u.heap.size t):=aH HL.out.2.2.1;have HNE:=aH HL.out.2.2.2;obtain⟨y0,y1,y2⟩:=HT2.out.cells;generalize(jR u t).drewN z=U at HR2 HK2 HT2 y0 y1 y2⊢;clear x0 x1 x2;generalize u.heap.size=X at*
 go_wp2_with fail
 refine(HNm.out _ HR2.out.tab).mono ?_;rintro e u4 ⟨rfl,hB⟩;have HK2:=aH (KP.trans' HK2.out (KP.of_below (p:=p) hB));have HT2:=aH (HT2.out.kept (KP.of_below (p:=p) hB) HNE.out);have HR2:=aH (HR2.out.next hB);clear hB;obtain⟨y0,y1,y2⟩:=HT2.out.cells;go_wp2_with fail
 refine(number_ok HR2.out HD.out).mono ?_;rintro e u5 ⟨rfl,hR,hK⟩;have HR5:=aH hR;have HK5:=aH (KP.trans' HK2.out hK);clear hR hK;go_wp2;go_ret;exact⟨rfl,HR5.out,HK5.out⟩
theorem expr_num_ff1_no {w:World}{p:Nat}{l r:List Ti}{g g' m lb nm:Bool}{v:Int}{t:Ti}(h:RR w p l g)(ht:cQ l=t)(c2:(t.kind==2)=false)(c1:(t.kind==1)=true)(hl:kU t.text=lb)(hm:cI t.text=false)(hd:jQ l=none):
  Calls Tryz.prog 168 #[.pointer (some ⟨p,0,none⟩)] w (Thr p w):=by
 have HN:=aH (gL h);have hg:=fN h.good;rw[ht]at HN hg;obtain⟨n,b,hlab⟩:=eO t hg;have HLab:=aH hlab;have HNm:=aH (fL t hg);have HD:=aH hd;clear h ht hlab hg hd;rw[hl]at HLab;rw[hm]at HNm;clear hl hm;go_enter Tryz.func168,Tryz.ntmps168;go_wp2_with fail
 refine HN.out.mono ?_;rintro e u ⟨rfl,hR,hK⟩;have HL:=aH (iL hR hK t);clear hR hK;obtain⟨x0,x1,x2⟩:=HL.out.2.2.1.cells;go_wp2_with fail
 refine(HLab.out _).mono ?_;rintro e u2 ⟨rfl,hB⟩;have HB:=aH hB;clear hB;obtain⟨z,rfl⟩:=HB.out;have HR2:=aH (HL.out.1.drewN z);have HK2:=aH (HL.out.2.1.drewN z);have HT2:Hid (TC ((jR u t).drewN z) u.heap.size t):=aH HL.out.2.2.1;have HNE:=aH HL.out.2.2.2;obtain⟨y0,y1,y2⟩:=HT2.out.cells;generalize(jR u t).drewN z=U at HR2 HK2 HT2 y0 y1 y2⊢;clear x0 x1 x2;generalize u.heap.size=X at*
 go_wp2_with fail
 refine(HNm.out _ HR2.out.tab).mono ?_;rintro e u4 ⟨rfl,hB⟩;have HK2:=aH (KP.trans' HK2.out (KP.of_below (p:=p) hB));have HT2:=aH (HT2.out.kept (KP.of_below (p:=p) hB) HNE.out);have HR2:=aH (HR2.out.next hB);clear hB;obtain⟨y0,y1,y2⟩:=HT2.out.cells;go_wp2_with fail
 refine(number_no HR2.out HD.out).mono ?_;rintro e u5 ⟨rfl,hK⟩;exact⟨rfl,rfl,KP.trans' HK2.out hK⟩
theorem expr_sym_t_ok {w:World}{p:Nat}{l r0 r:List Ti}{g g' lb nm:Bool}{a:Int}{t:Ti}(h:RR w p l g)(ht:cQ l=t)(hr:l=t :: r0)(c2:(t.kind==2)=true)(c1:(t.kind==1)=false)(hl:kU t.text=true)(hm:cI t.text=nm)(hd:qS r0=some (a,r,g')):
  Calls Tryz.prog 168 #[.pointer (some ⟨p,0,none⟩)] w (Did (symV t.text a) p r (g||g') w):=by
 subst hr;have HN:=aH (gL h);have hg:=fN h.good;rw[ht]at HN hg;obtain⟨n,b,hlab⟩:=eO t hg;have HLab:=aH hlab;have HNm:=aH (fL t hg);have HD:=aH hd;clear h ht hlab hg hd;rw[hl]at HLab;rw[hm]at HNm;clear hl hm;go_enter Tryz.func168,Tryz.ntmps168;go_wp2_with fail
 refine HN.out.mono ?_;rintro e u ⟨rfl,hR,hK⟩;have HL:=aH (iL hR hK t);clear hR hK;obtain⟨x0,x1,x2⟩:=HL.out.2.2.1.cells;go_wp2_with fail
 refine(HLab.out _).mono ?_;rintro e u2 ⟨rfl,hB⟩;have HB:=aH hB;clear hB;obtain⟨z,rfl⟩:=HB.out;have HR2:=aH (HL.out.1.drewN z);have HK2:=aH (HL.out.2.1.drewN z);have HT2:Hid (TC ((jR u t).drewN z) u.heap.size t):=aH HL.out.2.2.1;have HNE:=aH HL.out.2.2.2;obtain⟨y0,y1,y2⟩:=HT2.out.cells;generalize(jR u t).drewN z=U at HR2 HK2 HT2 y0 y1 y2⊢;clear x0 x1 x2;generalize u.heap.size=X at*
 obtain⟨k,m,k1,k2,k3,HS⟩:=HR2.out.step;have HS:=aH HS;have HK3:=aH (KP.trans' HK2.out (KP.step p _ 1 (.int .i64 (m:Int))));have HT3:=aH (HT2.out.set (o:=1) HNE.out (.int .i64 (m:Int)));obtain⟨z0,z1,z2⟩:=HT3.out.cells;go_wp2_with fail
 generalize U.setCell ⟨p,1,none⟩ (.int .i64 (m:Int))=W at HS HK3 HT3 z0 z1 z2⊢;clear y0 y1 y2 k1 k2;have HA:=aH (added_ok (HS.out.drewN 1) HD.out);go_region_with (go_at_call 194;refine HA.out.mono ?_;rintro e u5 ⟨rfl,hR,hK⟩;have HR5:=aH hR;have HK5:=aH (KP.trans' (HK3.out.drewN 1) hK);have y1:=((show TC (W.drewN 1) X t from HT3.out).kept hK HNE.out).cells.2.1;clear hR hK)
 all_goals go_wp2
 all_goals go_ret
 all_goals exact⟨rfl,HR5.out,HK5.out⟩
theorem expr_sym_f_ok {w:World}{p:Nat}{l r0 r:List Ti}{g g' lb nm:Bool}{a:Int}{t:Ti}(h:RR w p l g)(ht:cQ l=t)(hr:l=t :: r0)(c2:(t.kind==2)=false)(c1:(t.kind==1)=true)(hl:kU t.text=lb)(hm:cI t.text=true)(hd:qS r0=some (a,r,g')):
  Calls Tryz.prog 168 #[.pointer (some ⟨p,0,none⟩)] w (Did (symV t.text a) p r (g||g') w):=by
 subst hr;have HN:=aH (gL h);have hg:=fN h.good;rw[ht]at HN hg;obtain⟨n,b,hlab⟩:=eO t hg;have HLab:=aH hlab;have HNm:=aH (fL t hg);have HD:=aH hd;clear h ht hlab hg hd;rw[hl]at HLab;rw[hm]at HNm;clear hl hm;go_enter Tryz.func168,Tryz.ntmps168;go_wp2_with fail
 refine HN.out.mono ?_;rintro e u ⟨rfl,hR,hK⟩;have HL:=aH (iL hR hK t);clear hR hK;obtain⟨x0,x1,x2⟩:=HL.out.2.2.1.cells;go_wp2_with fail
 refine(HLab.out _).mono ?_;rintro e u2 ⟨rfl,hB⟩;have HB:=aH hB;clear hB;obtain⟨z,rfl⟩:=HB.out;have HR2:=aH (HL.out.1.drewN z);have HK2:=aH (HL.out.2.1.drewN z);have HT2:Hid (TC ((jR u t).drewN z) u.heap.size t):=aH HL.out.2.2.1;have HNE:=aH HL.out.2.2.2;obtain⟨y0,y1,y2⟩:=HT2.out.cells;generalize(jR u t).drewN z=U at HR2 HK2 HT2 y0 y1 y2⊢;clear x0 x1 x2;generalize u.heap.size=X at*
 go_wp2_with fail
 refine(HNm.out _ HR2.out.tab).mono ?_;rintro e u4 ⟨rfl,hB⟩;have HK2:=aH (KP.trans' HK2.out (KP.of_below (p:=p) hB));have HT2:=aH (HT2.out.kept (KP.of_below (p:=p) hB) HNE.out);have HR2:=aH (HR2.out.next hB);clear hB;obtain⟨y0,y1,y2⟩:=HT2.out.cells;obtain⟨k,m,k1,k2,k3,HS⟩:=HR2.out.step;have HS:=aH HS;have HK3:=aH (KP.trans' HK2.out (KP.step p _ 1 (.int .i64 (m:Int))));have HT3:=aH (HT2.out.set (o:=1) HNE.out (.int .i64 (m:Int)));obtain⟨z0,z1,z2⟩:=HT3.out.cells;go_wp2_with fail
 generalize u4.setCell ⟨p,1,none⟩ (.int .i64 (m:Int))=W at HS HK3 HT3 z0 z1 z2⊢;clear y0 y1 y2 k1 k2;have HA:=aH (added_ok (HS.out.drewN 1) HD.out);go_region_with (go_at_call 194;refine HA.out.mono ?_;rintro e u5 ⟨rfl,hR,hK⟩;have HR5:=aH hR;have HK5:=aH (KP.trans' (HK3.out.drewN 1) hK);have y1:=((show TC (W.drewN 1) X t from HT3.out).kept hK HNE.out).cells.2.1;clear hR hK)
 all_goals go_wp2
 all_goals go_ret
 all_goals exact⟨rfl,HR5.out,HK5.out⟩
theorem expr_sym_t_no {w:World}{p:Nat}{l r0:List Ti}{g lb nm:Bool}{t:Ti}(h:RR w p l g)(ht:cQ l=t)(hr:l=t :: r0)(c2:(t.kind==2)=true)(c1:(t.kind==1)=false)(hl:kU t.text=true)(hm:cI t.text=nm)(hd:qS r0=none):
  Calls Tryz.prog 168 #[.pointer (some ⟨p,0,none⟩)] w (Thr p w):=by
 subst hr;have HN:=aH (gL h);have hg:=fN h.good;rw[ht]at HN hg;obtain⟨n,b,hlab⟩:=eO t hg;have HLab:=aH hlab;have HNm:=aH (fL t hg);have HD:=aH hd;clear h ht hlab hg hd;rw[hl]at HLab;rw[hm]at HNm;clear hl hm;go_enter Tryz.func168,Tryz.ntmps168;go_wp2_with fail
 refine HN.out.mono ?_;rintro e u ⟨rfl,hR,hK⟩;have HL:=aH (iL hR hK t);clear hR hK;obtain⟨x0,x1,x2⟩:=HL.out.2.2.1.cells;go_wp2_with fail
 refine(HLab.out _).mono ?_;rintro e u2 ⟨rfl,hB⟩;have HB:=aH hB;clear hB;obtain⟨z,rfl⟩:=HB.out;have HR2:=aH (HL.out.1.drewN z);have HK2:=aH (HL.out.2.1.drewN z);have HT2:Hid (TC ((jR u t).drewN z) u.heap.size t):=aH HL.out.2.2.1;have HNE:=aH HL.out.2.2.2;obtain⟨y0,y1,y2⟩:=HT2.out.cells;generalize(jR u t).drewN z=U at HR2 HK2 HT2 y0 y1 y2⊢;clear x0 x1 x2;generalize u.heap.size=X at*
 obtain⟨k,m,k1,k2,k3,HS⟩:=HR2.out.step;have HS:=aH HS;have HK3:=aH (KP.trans' HK2.out (KP.step p _ 1 (.int .i64 (m:Int))));have HT3:=aH (HT2.out.set (o:=1) HNE.out (.int .i64 (m:Int)));obtain⟨z0,z1,z2⟩:=HT3.out.cells;go_wp2_with fail
 generalize U.setCell ⟨p,1,none⟩ (.int .i64 (m:Int))=W at HS HK3 HT3 z0 z1 z2⊢;clear y0 y1 y2 k1 k2;have HA:=aH (added_no (HS.out.drewN 1) HD.out);go_region_dies
 all_goals go_at_call 194
 all_goals
  refine HA.out.mono ?_;rintro e u5 ⟨rfl,hK⟩;exact⟨rfl,rfl,KP.trans' (HK3.out.drewN 1) hK⟩
theorem expr_sym_f_no {w:World}{p:Nat}{l r0:List Ti}{g lb nm:Bool}{t:Ti}(h:RR w p l g)(ht:cQ l=t)(hr:l=t :: r0)(c2:(t.kind==2)=false)(c1:(t.kind==1)=true)(hl:kU t.text=lb)(hm:cI t.text=true)(hd:qS r0=none):
  Calls Tryz.prog 168 #[.pointer (some ⟨p,0,none⟩)] w (Thr p w):=by
 subst hr;have HN:=aH (gL h);have hg:=fN h.good;rw[ht]at HN hg;obtain⟨n,b,hlab⟩:=eO t hg;have HLab:=aH hlab;have HNm:=aH (fL t hg);have HD:=aH hd;clear h ht hlab hg hd;rw[hl]at HLab;rw[hm]at HNm;clear hl hm;go_enter Tryz.func168,Tryz.ntmps168;go_wp2_with fail
 refine HN.out.mono ?_;rintro e u ⟨rfl,hR,hK⟩;have HL:=aH (iL hR hK t);clear hR hK;obtain⟨x0,x1,x2⟩:=HL.out.2.2.1.cells;go_wp2_with fail
 refine(HLab.out _).mono ?_;rintro e u2 ⟨rfl,hB⟩;have HB:=aH hB;clear hB;obtain⟨z,rfl⟩:=HB.out;have HR2:=aH (HL.out.1.drewN z);have HK2:=aH (HL.out.2.1.drewN z);have HT2:Hid (TC ((jR u t).drewN z) u.heap.size t):=aH HL.out.2.2.1;have HNE:=aH HL.out.2.2.2;obtain⟨y0,y1,y2⟩:=HT2.out.cells;generalize(jR u t).drewN z=U at HR2 HK2 HT2 y0 y1 y2⊢;clear x0 x1 x2;generalize u.heap.size=X at*
 go_wp2_with fail
 refine(HNm.out _ HR2.out.tab).mono ?_;rintro e u4 ⟨rfl,hB⟩;have HK2:=aH (KP.trans' HK2.out (KP.of_below (p:=p) hB));have HT2:=aH (HT2.out.kept (KP.of_below (p:=p) hB) HNE.out);have HR2:=aH (HR2.out.next hB);clear hB;obtain⟨y0,y1,y2⟩:=HT2.out.cells;obtain⟨k,m,k1,k2,k3,HS⟩:=HR2.out.step;have HS:=aH HS;have HK3:=aH (KP.trans' HK2.out (KP.step p _ 1 (.int .i64 (m:Int))));have HT3:=aH (HT2.out.set (o:=1) HNE.out (.int .i64 (m:Int)));obtain⟨z0,z1,z2⟩:=HT3.out.cells;go_wp2_with fail
 generalize u4.setCell ⟨p,1,none⟩ (.int .i64 (m:Int))=W at HS HK3 HT3 z0 z1 z2⊢;clear y0 y1 y2 k1 k2;have HA:=aH (added_no (HS.out.drewN 1) HD.out);go_region_dies
 all_goals go_at_call 194
 all_goals
  refine HA.out.mono ?_;rintro e u5 ⟨rfl,hK⟩;exact⟨rfl,rfl,KP.trans' (HK3.out.drewN 1) hK⟩
def exV (o:Po):Value:=if o.kind=3 then symV o.sym o.add else numV o.minus o.v
theorem sym_parts {t:Ti}(h:nX t=true):((t.kind==2)=true/\(t.kind==1)=false/\kU t.text=true)\/((t.kind==2)=false/\(t.kind==1)=true/\cI t.text=true):=by
 unfold nX at h;rw[Bool.or_eq_true,Bool.and_eq_true,Bool.and_eq_true]at h;rcases h with⟨h,h'⟩|⟨h,h'⟩
 ·refine .inl ⟨h,?_,h'⟩;rw[beq_iff_eq]at h;rw[h];rfl
 ·refine .inr ⟨?_,h,h'⟩;rw[beq_iff_eq]at h;rw[h];rfl
theorem num_parts {t:Ti}(h:nX t=false):((t.kind==2)=true/\(t.kind==1)=false/\kU t.text=false)\/((t.kind==2)=false/\(t.kind==1)=false)\/((t.kind==2)=false/\(t.kind==1)=true/\cI t.text=false):=by
 have h':((t.kind==2)&&kU t.text)=false/\((t.kind==1)&&cI t.text)=false:=by
  unfold nX at h;rw[Bool.or_eq_false_iff]at h;exact h
 cases c2:(t.kind==2)with
 |true=>
  rw[c2]at h';refine .inl ⟨rfl,?_,by simpa using h'.1⟩;rw[beq_iff_eq]at c2;rw[c2];rfl
 |false=>
  cases c1:(t.kind==1)with
  |false=>exact .inr (.inl ⟨rfl,rfl⟩)
  |true=>rw[c1]at h';exact .inr (.inr ⟨rfl,rfl,by simpa using h'.2⟩)
theorem sym_cons {l:List Ti}(h:nX (cQ l)=true):∃t r,l=t :: r:=by
 cases l with
 |nil=>exact absurd h (by rw[show nX (cQ [])=false from rfl];decide)
 |cons t r=>exact⟨t,r,rfl⟩
theorem expr_ok {w:World}{p:Nat}{l r:List Ti}{g g':Bool}{o:Po}(h:RR w p l g)(hd:kK l=some (o,r,g')):
  Calls Tryz.prog 168 #[.pointer (some ⟨p,0,none⟩)] w (Did (exV o) p r (g||g') w):=by
 unfold kK ifP at hd;by_cases c:nX (cQ l)=true
 ·rw[if_pos c]at hd;obtain⟨t,r0,rfl⟩:=sym_cons c;obtain⟨s,r1,g1,g2,e1,hd2,rfl⟩:=eJ hd;obtain⟨t',e2,e3⟩:=rX e1;cases e2
  cases e3
  obtain⟨a,r2,g3,g4,e4,hd3,rfl⟩:=eJ hd2;obtain⟨rfl,rfl,rfl⟩:=oU hd3;rw[show(g||(false||(g3||false)))=(g||g3) by cases g3<;>rfl];rcases sym_parts (t:=t) c with⟨c2,c1,hl⟩|⟨c2,c1,hm⟩
  ·exact expr_sym_t_ok (lb:=false) h rfl rfl c2 c1 hl rfl e4
  ·exact expr_sym_f_ok (nm:=false) h rfl rfl c2 c1 rfl hm e4
 ·rw[if_neg c]at hd;obtain⟨⟨m,v⟩,r1,g1,g2,e1,hd2,rfl⟩:=eJ hd;obtain⟨rfl,rfl,rfl⟩:=oU hd2;rw[Bool.or_false];rcases num_parts (t:=cQ l) (by simpa using c)with⟨c2,c1,hl⟩|⟨c2,c1⟩|⟨c2,c1,hm⟩
  ·exact expr_num_tf_ok (lb:=false) h rfl c2 c1 hl rfl e1
  ·exact expr_num_ff0_ok h rfl c2 c1 rfl rfl e1
  ·exact expr_num_ff1_ok (nm:=false) h rfl c2 c1 rfl hm e1
theorem expr_no {w:World}{p:Nat}{l:List Ti}{g:Bool}(h:RR w p l g)(hd:kK l=none):
  Calls Tryz.prog 168 #[.pointer (some ⟨p,0,none⟩)] w (Thr p w):=by
 unfold kK ifP at hd;by_cases c:nX (cQ l)=true
 ·rw[if_pos c]at hd;obtain⟨t,r0,rfl⟩:=sym_cons c;rcases iF hd with hd|⟨s,r1,g1,e1,hd2⟩
  ·cases hd
  obtain⟨t',e2,e3⟩:=rX e1;cases e2
  cases e3
  rcases iF hd2 with hd3|⟨a,r2,g3,e4,hd3⟩
  ·rcases sym_parts (t:=t) c with⟨c2,c1,hl⟩|⟨c2,c1,hm⟩
   ·exact expr_sym_t_no (lb:=false) h rfl rfl c2 c1 hl rfl hd3
   ·exact expr_sym_f_no (nm:=false) h rfl rfl c2 c1 rfl hm hd3
  ·cases hd3
 ·rw[if_neg c]at hd;rcases iF hd with hd2|⟨a,r1,g1,e1,hd2⟩
  ·rcases num_parts (t:=cQ l) (by simpa using c)with⟨c2,c1,hl⟩|⟨c2,c1⟩|⟨c2,c1,hm⟩
   ·exact expr_num_tf_no (lb:=false) (r:=[]) (g':=false) (m:=false) (v:=0) h rfl c2 c1 hl rfl hd2
   ·exact expr_num_ff0_no (r:=[]) (g':=false) (m:=false) (v:=0) h rfl c2 c1 rfl rfl hd2
   ·exact expr_num_ff1_no (nm:=false) (r:=[]) (g':=false) (m:=false) (v:=0) h rfl c2 c1 rfl hm hd2
  ·cases hd2
abbrev ozC:Array Value:=#[.int .i64 0,.int .i64 0,.bool false,.bool false,.int .u64 0,.string ⟨#[]⟩,.int .i64 0]
abbrev poA (o:Po):Array Value:=#[.int .i64 o.kind,.int .i64 o.reg,.bool o.stack,.bool o.minus,.int .u64 o.v,.string ⟨o.sym.toArray⟩,.int .i64 o.add]
abbrev set7 (u:World)(X:Nat)(o:Po):World:=
 ((((((u.setCell ⟨X,0,none⟩ (.int .i64 o.kind)).setCell ⟨X,1,none⟩ (.int .i64 o.reg)).setCell ⟨X,2,none⟩ (.bool o.stack)).setCell ⟨X,3,none⟩ (.bool o.minus)).setCell ⟨X,4,none⟩ (.int .u64 o.v)).setCell ⟨X,5,none⟩ (.string ⟨o.sym.toArray⟩)).setCell ⟨X,6,none⟩ (.int .i64 o.add)
theorem RB.seven {u:World}{Z:Nat}{o:Po}(h:RB u Z (poA o) 176):
  u.cell? ⟨Z,0,none⟩=some (.int .i64 o.kind)/\u.cell? ⟨Z,1,none⟩=some (.int .i64 o.reg)/\u.cell? ⟨Z,2,none⟩=some (.bool o.stack)/\u.cell? ⟨Z,3,none⟩=some (.bool o.minus)/\u.cell? ⟨Z,4,none⟩=some (.int .u64 o.v)/\
  u.cell? ⟨Z,5,none⟩=some (.string ⟨o.sym.toArray⟩)/\u.cell? ⟨Z,6,none⟩=some (.int .i64 o.add)/\(∀j,u.frozen? ⟨Z,j,none⟩=false)/\Z<u.heap.size:=
 ⟨h.cell,h.cell,h.cell,h.cell,h.cell,h.cell,h.cell,fun j=>h.frozen,lt_of_block h⟩
theorem zeroOpnd (w:World):(zeroValue 176).run Tryz.prog w=.ok (.agg ozC) w:=by kernel_rfl
end
end Go.Proofs.YtiohgaghmnpplaaGreatDoor
