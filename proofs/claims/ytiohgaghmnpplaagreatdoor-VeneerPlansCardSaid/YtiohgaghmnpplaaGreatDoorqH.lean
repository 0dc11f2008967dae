/- operand: Expr; local: IsName. -/
import Derived.Test.YtiohgaghmnpplaaGreatDoorqG
import Derived.Test.YtiohgaghmnpplaaGreatDoorqA
import Derived.Test.YtiohgaghmnpplaaGreatDoorqE
import Derived.Defers
import Derived.Recover
import Derived.Deep.RegionLaw
import Derived.Lib.SmallJoins
import Derived.OpenShut
import Derived.WideShapes
import Derived.ChangeSame
set_option maxRecDepth 100000
set_option maxHeartbeats 8000000
set_option linter.unusedVariables false
set_option linter.unusedSimpArgs false
namespace Go.Proofs.YtiohgaghmnpplaaGreatDoor
open Go.ChangeShapes Go.WideShapes Go.Deep Go.RowKit
theorem meth_sym (s:ByteArray)(a:Int)(w:World):(method 265 237 (.agg #[.string s,.int .i64 a]) "cleat/operand.opnd").run Tryz.prog w=.ok (272,.agg #[.string s,.int .i64 a]) w:=by kernel_rfl
theorem meth_num (m:Bool)(v:Int)(w:World):(method 265 239 (.agg #[.bool m,.int .u64 v]) "cleat/operand.opnd").run Tryz.prog w=.ok (273,.agg #[.bool m,.int .u64 v]) w:=by kernel_rfl
theorem b2 {a:Bool}(h:¬a=true):a=false:=by simpa using h
open Go.ChangeShapes Go.WideShapes Go.Deep Go.RowKit
section
variable {α:Type} {enc:α->List Value} {sz:Nat}
end
theorem ba_back (s:ByteArray):(⟨s.data.toList.toArray⟩:ByteArray)=s:=by cases s;rfl
theorem ti_len (t:Ti):(tiC t).length=3:=rfl
open Go.ChangeShapes Go.WideShapes Go.Deep Go.RowKit
def iE (l:List Ti):Po×Int:=match kK l with|none=>(gU,3)|some (o,r,g)=>if r.isEmpty=true then(if g=true then(gU,4)else(o,0))else(gU,3)
structure pU (w u:World)(B:Nat)(cs:Array Value)(l:List Ti)(g:Bool):Prop where
 r:RR u (B+2) l g
 b:RB u B cs 176
 c:RB u (B+1) #[.int .i64 0] 32
 k:Below w.heap.size w u
 e:B=w.heap.size
theorem pU.call {w u u':World}{B:Nat}{cs:Array Value}{l l':List Ti}{g g':Bool}(h:pU w u B cs l g)(hR:RR u' (B+2) l' g')(hK:KP (B+2) u u'):pU w u' B cs l' g':=
 ⟨hR,h.b.kept hK (by omega),h.c.kept hK (by omega),KP.to_below h.k hK (by rw[h.e];omega),h.e⟩
theorem pU.next {w u u':World}{B:Nat}{cs:Array Value}{l:List Ti}{g:Bool}(h:pU w u B cs l g)(hb:Below u.heap.size u u'):pU w u' B cs l g:=
 h.call (h.r.next hb) (KP.of_below hb)
theorem pU.thr {w u u':World}{B:Nat}{cs:Array Value}{l:List Ti}{g:Bool}(h:pU w u B cs l g)(hK:KP (B+2) u u'):
  RB u' B cs 176/\RB u' (B+1) #[.int .i64 0] 32/\Below w.heap.size w u':=
 ⟨h.b.kept hK (by omega),h.c.kept hK (by omega),KP.to_below h.k hK (by rw[h.e];omega)⟩
theorem pU.set {w u:World}{B:Nat}{cs:Array Value}{l:List Ti}{g:Bool}(h:pU w u B cs l g)(j:Nat)(v:Value):pU w (u.setCell ⟨B,j,none⟩ v) B (cs.setIfInBounds j v) l g:=
 ⟨h.r.side (by omega) (by omega) v,h.b.set v,(cC (by omega)).trans h.c,h.k.setCell (p:=⟨B,j,none⟩) (by show w.heap.size<=B;rw[h.e];exact Nat.le_refl _) v,h.e⟩
theorem pU.put {w u:World}{B:Nat}{o':Po}{l:List Ti}{g:Bool}(h:pU w u B (poA o') l g)(o:Po):pU w (set7 u B o) B (poA o) l g:=by
 have h0:pU w (u.setCell ⟨B,0,none⟩ (.int .i64 o.kind)) B #[.int .i64 o.kind,.int .i64 o'.reg,.bool o'.stack,.bool o'.minus,.int .u64 o'.v,.string ⟨o'.sym.toArray⟩,.int .i64 o'.add] l g:=h.set 0 _;have h1:pU w ((u.setCell ⟨B,0,none⟩ (.int .i64 o.kind)).setCell ⟨B,1,none⟩ (.int .i64 o.reg)) B #[.int .i64 o.kind,.int .i64 o.reg,.bool o'.stack,.bool o'.minus,.int .u64 o'.v,.string ⟨o'.sym.toArray⟩,.int .i64 o'.add] l g:=h0.set 1 _;have h2:pU w (((u.setCell ⟨B,0,none⟩ (.int .i64 o.kind)).setCell ⟨B,1,none⟩ (.int .i64 o.reg)).setCell ⟨B,2,none⟩ (.bool o.stack)) B #[.int .i64 o.kind,.int .i64 o.reg,.bool o.stack,.bool o'.minus,.int .u64 o'.v,.string ⟨o'.sym.toArray⟩,.int .i64 o'.add] l g:=h1.set 2 _;have h3:pU w ((((u.setCell ⟨B,0,none⟩ (.int .i64 o.kind)).setCell ⟨B,1,none⟩ (.int .i64 o.reg)).setCell ⟨B,2,none⟩ (.bool o.stack)).setCell ⟨B,3,none⟩ (.bool o.minus)) B #[.int .i64 o.kind,.int .i64 o.reg,.bool o.stack,.bool o.minus,.int .u64 o'.v,.string ⟨o'.sym.toArray⟩,.int .i64 o'.add] l g:=h2.set 3 _;have h4:pU w (((((u.setCell ⟨B,0,none⟩ (.int .i64 o.kind)).setCell ⟨B,1,none⟩ (.int .i64 o.reg)).setCell ⟨B,2,none⟩ (.bool o.stack)).setCell ⟨B,3,none⟩ (.bool o.minus)).setCell ⟨B,4,none⟩ (.int .u64 o.v)) B #[.int .i64 o.kind,.int .i64 o.reg,.bool o.stack,.bool o.minus,.int .u64 o.v,.string ⟨o'.sym.toArray⟩,.int .i64 o'.add] l g:=h3.set 4 _;have h5:pU w ((((((u.setCell ⟨B,0,none⟩ (.int .i64 o.kind)).setCell ⟨B,1,none⟩ (.int .i64 o.reg)).setCell ⟨B,2,none⟩ (.bool o.stack)).setCell ⟨B,3,none⟩ (.bool o.minus)).setCell ⟨B,4,none⟩ (.int .u64 o.v)).setCell ⟨B,5,none⟩ (.string ⟨o.sym.toArray⟩)) B #[.int .i64 o.kind,.int .i64 o.reg,.bool o.stack,.bool o.minus,.int .u64 o.v,.string ⟨o.sym.toArray⟩,.int .i64 o'.add] l g:=h4.set 5 _;exact h5.set 6 _
theorem pU.facts {w u:World}{B:Nat}{o:Po}{l:List Ti}{g:Bool}(h:pU w u B (poA o) l g):
  u.cell? ⟨B,0,none⟩=some (.int .i64 o.kind)/\u.cell? ⟨B,1,none⟩=some (.int .i64 o.reg)/\u.cell? ⟨B,2,none⟩=some (.bool o.stack)/\u.cell? ⟨B,3,none⟩=some (.bool o.minus)/\u.cell? ⟨B,4,none⟩=some (.int .u64 o.v)/\
  u.cell? ⟨B,5,none⟩=some (.string ⟨o.sym.toArray⟩)/\u.cell? ⟨B,6,none⟩=some (.int .i64 o.add)/\(∀j,u.frozen? ⟨B,j,none⟩=false)/\B<u.heap.size/\u.cell? ⟨B+1,0,none⟩=some (.int .i64 0)/\u.frozen? ⟨B+1,0,none⟩=false:=
 ⟨h.b.cell,h.b.cell,h.b.cell,h.b.cell,h.b.cell,h.b.cell,h.b.cell,fun j=>h.b.frozen,lt_of_block h.b,h.c.cell,h.c.frozen⟩
theorem pU.fin {w u:World}{B:Nat}{o':Po}{l:List Ti}{g:Bool}(h:pU w u B (poA o') l g)(o:Po)(y:Int):
  RB ((set7 u B o).setCell ⟨B+1,0,none⟩ (.int .i64 y)) B (poA o) 176/\RB ((set7 u B o).setCell ⟨B+1,0,none⟩ (.int .i64 y)) (B+1) #[.int .i64 y] 32/\Below w.heap.size w ((set7 u B o).setCell ⟨B+1,0,none⟩ (.int .i64 y)):=by
 have q:=h.put o;generalize set7 u B o=u2 at q⊢;exact⟨(cC (by omega)).trans q.b,q.c.set (j:=0) _,q.k.setCell (p:=⟨B+1,0,none⟩) (by show w.heap.size<=B+1;rw[q.e];omega) _⟩
abbrev eW0 (w:World)(a:Option Addr)(n c:Nat):World:=((w.alloc (.cells ozC 176)).alloc (.cells #[.int .i64 0] 32)).alloc (.cells #[.slice a n c,.int .i64 0,.bool false] 201)
theorem pU.mk0 {w:World}{a:Option Addr}{c:Nat}{ts:List Ti}(hsl:SL tiC 3 w w.heap.size a ts.length ts)(hT:nE w)(hg:oJ ts)(hn:ts.length<=1000000):pU w (eW0 w a ts.length c) w.heap.size (poA gU) ts false:=by
 have s1:(w.alloc (.cells ozC 176)).heap.size=w.heap.size+1:=World.size_alloc _ _;have s2:((w.alloc (.cells ozC 176)).alloc (.cells #[.int .i64 0] 32)).heap.size=w.heap.size+2:=by rw[World.size_alloc,s1]
 have hb:Below w.heap.size w (eW0 w a ts.length c):=(((Below.refl _ w).alloc (Nat.le_refl _) _).alloc (by rw[s1];omega) _).alloc (by rw[s2];omega) _;have e0:(eW0 w a ts.length c).heap[w.heap.size+2]?=some (.cells #[.slice a ts.length c,.int .i64 0,.bool false] 201 (0,0)):=by
  rw[<-s2];exact(MapKept.heap_alloc _ _).1
 have e1:(eW0 w a ts.length c).heap[w.heap.size+1]?=some (.cells #[.int .i64 0] 32 (0,0)):=by
  rw[Below.heap_alloc _ _ _ (by rw[s2];omega),<-s1];exact(MapKept.heap_alloc _ _).1
 have e2:(eW0 w a ts.length c).heap[w.heap.size]?=some (.cells ozC 176 (0,0)):=by
  rw[Below.heap_alloc _ _ _ (by rw[s2];omega),Below.heap_alloc _ _ _ (by rw[s1];omega)];exact(MapKept.heap_alloc _ _).1
 exact⟨⟨ts,0,hn,hg,by omega,rfl,⟨a,c,e0,hsl.below hb⟩,w,hT,by omega,hb⟩,e2,e1,hb,rfl⟩
theorem ecatch (B C:Nat)(o:Po)(y:Int)(u:TypeId)(pv:Value)(older:List PanicEntry)(w:World)(h1:RB w B (poA o) 176)(h2:RB w C #[.int .i64 y] 32)(hBC:B≠C):
  CallsD Tryz.prog 167 #[.pointer (some ⟨B,0,none⟩),.pointer (some ⟨C,0,none⟩)] (.panicking ({ v:=.iface u pv,recovered:=false } :: older)) w fun e u' w'=>
   e=.returned (.tuple #[])/\u'=.panicking ({ v:=.iface u pv,recovered:=true } :: older)/\w'=(set7 w B gU).setCell ⟨C,0,none⟩ (.int .i64 3):=by
 refine callsD_of_wpS Tryz.func167 rfl fun c₀ cs hu=>?_
 apply wpS_seq;apply wpS_region;simp[wpOpsS,go_sem,recoverD,hu,Tryz.ntmps167,Exit.thenS];refine wpS_cond (t:=true) (by simp[Act.eval,Array.replicate]) ?_;simp only[if_true];obtain⟨c0,c1,c2,c3,c4,c5,c6,c7,c8⟩:=h1.seven;have q0:=c7 0;have q1:=c7 1;have q2:=c7 2;have q3:=c7 3;have q4:=c7 4;have q5:=c7 5;have q6:=c7 6;have e0:w.cell? ⟨C,0,none⟩=some (.int .i64 y):=h2.cell;have e1:w.frozen? ⟨C,0,none⟩=false:=h2.frozen;clear c7;refine wpS_of_wp ?_;go_wp2;cases c₀
 simp_all[bodyPostS,results,Tryz.results167]
theorem eidle (B C:Nat)(w:World):CallsD Tryz.prog 167 #[.pointer (some ⟨B,0,none⟩),.pointer (some ⟨C,0,none⟩)] .returning w fun e u' w'=>e=.returned (.tuple #[])/\u'=.returning/\w'=w:=by
 refine callsD_of_wpS Tryz.func167 rfl fun c₀ cs hu=>?_
 apply wpS_seq;apply wpS_region;simp[wpOpsS,go_sem,recoverD,hu,Tryz.ntmps167,Exit.thenS];refine wpS_cond (t:=false) (by simp[Act.eval,Array.replicate]) ?_;simp only[Bool.false_eq_true,if_false];refine wpS_of_wp (wp_skip ?_);cases c₀
 simp_all[bodyPostS,results,Tryz.results167]
def ExprR (x:Po×Int)(w:World):Ending->World->Prop:=aP (.tuple #[poV x.1,.int .i64 x.2]) w
theorem seven_any {u:World}{X:Nat}{o':Po}(h:RB u X (poA o') 176)(o:Po):RB (set7 u X o) X (poA o) 176:=by
 have h0:RB (u.setCell ⟨X,0,none⟩ (.int .i64 o.kind)) X #[.int .i64 o.kind,.int .i64 o'.reg,.bool o'.stack,.bool o'.minus,.int .u64 o'.v,.string ⟨o'.sym.toArray⟩,.int .i64 o'.add] 176:=h.set (j:=0) _;have h1:RB ((u.setCell ⟨X,0,none⟩ (.int .i64 o.kind)).setCell ⟨X,1,none⟩ (.int .i64 o.reg)) X #[.int .i64 o.kind,.int .i64 o.reg,.bool o'.stack,.bool o'.minus,.int .u64 o'.v,.string ⟨o'.sym.toArray⟩,.int .i64 o'.add] 176:=h0.set (j:=1) _;have h2:RB (((u.setCell ⟨X,0,none⟩ (.int .i64 o.kind)).setCell ⟨X,1,none⟩ (.int .i64 o.reg)).setCell ⟨X,2,none⟩ (.bool o.stack)) X #[.int .i64 o.kind,.int .i64 o.reg,.bool o.stack,.bool o'.minus,.int .u64 o'.v,.string ⟨o'.sym.toArray⟩,.int .i64 o'.add] 176:=h1.set (j:=2) _;have h3:RB ((((u.setCell ⟨X,0,none⟩ (.int .i64 o.kind)).setCell ⟨X,1,none⟩ (.int .i64 o.reg)).setCell ⟨X,2,none⟩ (.bool o.stack)).setCell ⟨X,3,none⟩ (.bool o.minus)) X #[.int .i64 o.kind,.int .i64 o.reg,.bool o.stack,.bool o.minus,.int .u64 o'.v,.string ⟨o'.sym.toArray⟩,.int .i64 o'.add] 176:=h2.set (j:=3) _;have h4:RB (((((u.setCell ⟨X,0,none⟩ (.int .i64 o.kind)).setCell ⟨X,1,none⟩ (.int .i64 o.reg)).setCell ⟨X,2,none⟩ (.bool o.stack)).setCell ⟨X,3,none⟩ (.bool o.minus)).setCell ⟨X,4,none⟩ (.int .u64 o.v)) X #[.int .i64 o.kind,.int .i64 o.reg,.bool o.stack,.bool o.minus,.int .u64 o.v,.string ⟨o'.sym.toArray⟩,.int .i64 o'.add] 176:=h3.set (j:=4) _;have h5:RB ((((((u.setCell ⟨X,0,none⟩ (.int .i64 o.kind)).setCell ⟨X,1,none⟩ (.int .i64 o.reg)).setCell ⟨X,2,none⟩ (.bool o.stack)).setCell ⟨X,3,none⟩ (.bool o.minus)).setCell ⟨X,4,none⟩ (.int .u64 o.v)).setCell ⟨X,5,none⟩ (.string ⟨o.sym.toArray⟩)) X #[.int .i64 o.kind,.int .i64 o.reg,.bool o.stack,.bool o.minus,.int .u64 o.v,.string ⟨o.sym.toArray⟩,.int .i64 o'.add] 176:=h4.set (j:=5) _;exact h5.set (j:=6) _
theorem nI {u:World}{X C:Nat}{o:Po}(h:C≠X):(set7 u X o).heap[C]?=u.heap[C]?:=by
 unfold set7;rw[cC h,cC h,cC h,cC h,cC h,cC h,cC h]
theorem nJ {w u:World}{X B:Nat}(h:Below B w u)(hX:B<=X)(o:Po):Below B w (set7 u X o):=
 ((((((h.setCell (p:=⟨X,0,none⟩) hX _).setCell (p:=⟨X,1,none⟩) hX _).setCell (p:=⟨X,2,none⟩) hX _).setCell (p:=⟨X,3,none⟩) hX _).setCell (p:=⟨X,4,none⟩) hX _).setCell (p:=⟨X,5,none⟩) hX _).setCell (p:=⟨X,6,none⟩) hX _
theorem Expr_none {w:World}{a:Option Addr}{c:Nat}{ts:List Ti}(hsl:SL tiC 3 w w.heap.size a ts.length ts)(hT:nE w)(hg:oJ ts)(hn:ts.length<=1000000)(hx:kK ts=none):
  Calls Tryz.prog 137 #[.slice a ts.length c] w (ExprR (iE ts) w):=by
 have HR:Hid (iE ts=(gU,3)):=aH (by unfold iE;rw[hx]);have HO:=aH hx;clear hx;have hmf:∀(fn:Fn) (first cap:Array Value) (w:World),(Instr.makeFunc fn first cap).run Tryz.prog w=.ok (.func fn first cap) w:=fun _ _ _ _=>rfl
 have hE:∀w,(zeroValue 32).run Tryz.prog w=.ok (.int .i64 0) w:=fun w=>by kernel_rfl
 have hZ:=zeroOpnd;have HMs:=meth_sym;have HMn:=meth_num;obtain⟨B,hB⟩:=aE w.heap.size;have HBE:=aH hB;have h0:=aH (pU.mk0 (c:=c) hsl hT hg hn);rw[<-hB]at h0;obtain⟨n,hnn⟩:=aE ts.length;rw[<-hnn]at h0⊢;clear hsl hT hg hn hnn;go_enter_defers Tryz.func137,Tryz.ntmps137;go_wp2_with fail
 rw[<-hB];clear hB;rw[show B+1+1=B+2 from rfl];change Hid (pU w (((w.alloc (.cells ozC 176)).alloc (.cells #[.int .i64 0] 32)).alloc (.cells #[.slice a n c,.int .i64 0,.bool false] 201)) B (poA gU) ts false)at h0;generalize((w.alloc (.cells ozC 176)).alloc (.cells #[.int .i64 0] 32)).alloc (.cells #[.slice a n c,.int .i64 0,.bool false] 201)=W0 at h0⊢;refine(expr_no h0.out.r HO.out).mono ?_;rintro e u1 ⟨rfl,hK⟩;have HF:=aH (h0.out.thr hK);clear hK;refine leaves_cons (f:=167) (args:=#[.pointer (some ⟨B,0,none⟩),.pointer (some ⟨B+1,0,none⟩)]) (by simp) (by simp[go_sem]) ?_;refine(ecatch B (B+1) gU 0 _ _ [] _ HF.out.1 HF.out.2.1 (by omega)).mono ?_;rintro e u' w4 ⟨rfl,rfl,hw4⟩;have hB4:RB w4 B (poA gU) 176:=by rw[hw4];exact(cC (by omega)).trans (seven_any HF.out.1 gU)
 have hC4:RB w4 (B+1) #[.int .i64 3] 32:=by rw[hw4];exact RB.set (j:=0) ((nI (by omega)).trans HF.out.2.1) _
 have hb4:Below w.heap.size w w4:=by
  rw[hw4];exact(nJ HF.out.2.2 (by rw[HBE.out];exact Nat.le_refl _) gU).setCell (p:=⟨B+1,0,none⟩) (by show w.heap.size<=B+1;rw[HBE.out];omega) _
 have b0:w4.cell? ⟨B,0,none⟩=some (.int .i64 gU.kind):=hB4.seven.1;have b1:w4.cell? ⟨B,1,none⟩=some (.int .i64 gU.reg):=hB4.seven.2.1;have b2:w4.cell? ⟨B,2,none⟩=some (.bool gU.stack):=hB4.seven.2.2.1;have b3:w4.cell? ⟨B,3,none⟩=some (.bool gU.minus):=hB4.seven.2.2.2.1;have b4:w4.cell? ⟨B,4,none⟩=some (.int .u64 gU.v):=hB4.seven.2.2.2.2.1;have b5:w4.cell? ⟨B,5,none⟩=some (.string ⟨gU.sym.toArray⟩):=hB4.seven.2.2.2.2.2.1;have b6:w4.cell? ⟨B,6,none⟩=some (.int .i64 gU.add):=hB4.seven.2.2.2.2.2.2.1;have d0:w4.cell? ⟨B+1,0,none⟩=some (.int .i64 3):=hC4.cell;simp[Leaves,settle,results,Tryz.results137,go_sem,b0,b1,b2,b3,b4,b5,b6,d0];rw[HR.out];exact⟨rfl,hb4⟩
theorem Expr_sym {w:World}{a:Option Addr}{c:Nat}{ts:List Ti}(hsl:SL tiC 3 w w.heap.size a ts.length ts)(hT:nE w)(hg:oJ ts)(hn:ts.length<=1000000){s:List UInt8}{a1:Int}{r:List Ti}{g1:Bool}(hx:kK ts=some (⟨3,0,false,false,0,s,a1⟩,r,g1)):
  Calls Tryz.prog 137 #[.slice a ts.length c] w (ExprR (iE ts) w):=by
 have HX:Hid (iE ts=if r.isEmpty=true then(if g1=true then(gU,4)else(⟨3,0,false,false,0,s,a1⟩,0))else(gU,3)):=aH (by unfold iE;rw[hx]);have HE:Hid (∀u,RR u (w.heap.size+2) ts false->Calls Tryz.prog 168 #[.pointer (some ⟨w.heap.size+2,0,none⟩)] u (Did (.iface 237 (.agg #[.string ⟨s.toArray⟩,.int .i64 a1])) (w.heap.size+2) r (false||g1) u)):=aH fun u hu=>expr_ok hu hx
 clear hx;have hmf:∀(fn:Fn) (first cap:Array Value) (w:World),(Instr.makeFunc fn first cap).run Tryz.prog w=.ok (.func fn first cap) w:=fun _ _ _ _=>rfl
 have hE:∀w,(zeroValue 32).run Tryz.prog w=.ok (.int .i64 0) w:=fun w=>by kernel_rfl
 have hZ:=zeroOpnd;have HMs:=meth_sym;have HMn:=meth_num;obtain⟨B,hB⟩:=aE w.heap.size;have HBE:=aH hB;have h0:=aH (pU.mk0 (c:=c) hsl hT hg hn);rw[<-hB]at h0 HE;obtain⟨n,hnn⟩:=aE ts.length;rw[<-hnn]at h0⊢;clear hsl hT hg hn hnn;go_enter_defers Tryz.func137,Tryz.ntmps137;go_wp2_with fail
 rw[<-hB];clear hB;rw[show B+1+1=B+2 from rfl];change Hid (pU w (((w.alloc (.cells ozC 176)).alloc (.cells #[.int .i64 0] 32)).alloc (.cells #[.slice a n c,.int .i64 0,.bool false] 201)) B (poA gU) ts false)at h0;generalize((w.alloc (.cells ozC 176)).alloc (.cells #[.int .i64 0] 32)).alloc (.cells #[.slice a n c,.int .i64 0,.bool false] 201)=W0 at h0⊢;refine(HE.out _ h0.out.r).mono ?_;rintro e u1 ⟨rfl,hR,hK⟩;have H1:=aH (h0.out.call hR hK);clear hR hK;go_wp2_with fail
 refine(opnd_symbol s a1 _).mono ?_;rintro e u2 ⟨rfl,hb⟩;have H2:=aH (H1.out.next hb);clear hb;obtain⟨x0,x1,x2,x3,x4,x5,x6,x7,x8,x9,x10⟩:=H2.out.facts;have xf0:=x7 0;have xf1:=x7 1;have xf2:=x7 2;have xf3:=x7 3;have xf4:=x7 4;have xf5:=x7 5;have xf6:=x7 6;clear x7;have H3:=aH (H2.out.put ⟨3,0,false,false,0,s,a1⟩);go_wp2_with fail
 refine(ended_r H3.out.r).mono ?_;rintro e u3 ⟨rfl,hR,hK⟩;have H4:=aH (H3.out.call hR hK);clear hR hK x0 x1 x2 x3 x4 x5 x6 xf0 xf1 xf2 xf3 xf4 xf5 xf6 x8 x9 x10;cases r with
 |cons t r=>
  have HR:Hid (iE ts=(gU,3)):=aH (by rw[HX.out];rfl);have HF:=aH (And.intro H4.out.b (And.intro H4.out.c H4.out.k));go_wp2;refine leaves_cons (f:=167) (args:=#[.pointer (some ⟨B,0,none⟩),.pointer (some ⟨B+1,0,none⟩)]) (by simp) (by simp[go_sem]) ?_;refine(ecatch B (B+1) ⟨3,0,false,false,0,s,a1⟩ 0 _ _ [] _ HF.out.1 HF.out.2.1 (by omega)).mono ?_;rintro e u' w4 ⟨rfl,rfl,hw4⟩;have hB4:RB w4 B (poA gU) 176:=by rw[hw4];exact(cC (by omega)).trans (seven_any HF.out.1 gU)
  have hC4:RB w4 (B+1) #[.int .i64 3] 32:=by rw[hw4];exact RB.set (j:=0) ((nI (by omega)).trans HF.out.2.1) _
  have hb4:Below w.heap.size w w4:=by
   rw[hw4];exact(nJ HF.out.2.2 (by rw[HBE.out];exact Nat.le_refl _) gU).setCell (p:=⟨B+1,0,none⟩) (by show w.heap.size<=B+1;rw[HBE.out];omega) _
  have b0:w4.cell? ⟨B,0,none⟩=some (.int .i64 gU.kind):=hB4.seven.1;have b1:w4.cell? ⟨B,1,none⟩=some (.int .i64 gU.reg):=hB4.seven.2.1;have b2:w4.cell? ⟨B,2,none⟩=some (.bool gU.stack):=hB4.seven.2.2.1;have b3:w4.cell? ⟨B,3,none⟩=some (.bool gU.minus):=hB4.seven.2.2.2.1;have b4:w4.cell? ⟨B,4,none⟩=some (.int .u64 gU.v):=hB4.seven.2.2.2.2.1;have b5:w4.cell? ⟨B,5,none⟩=some (.string ⟨gU.sym.toArray⟩):=hB4.seven.2.2.2.2.2.1;have b6:w4.cell? ⟨B,6,none⟩=some (.int .i64 gU.add):=hB4.seven.2.2.2.2.2.2.1;have d0:w4.cell? ⟨B+1,0,none⟩=some (.int .i64 3):=hC4.cell;simp[Leaves,settle,results,Tryz.results137,go_sem,b0,b1,b2,b3,b4,b5,b6,d0];rw[HR.out];exact⟨rfl,hb4⟩
 |nil=>
  rw[Bool.false_or]at H4;obtain⟨gf,gc,-⟩:=H4.out.r.great;obtain⟨x0,x1,x2,x3,x4,x5,x6,x7,x8,x9,x10⟩:=H4.out.facts;have xf0:=x7 0;have xf1:=x7 1;have xf2:=x7 2;have xf3:=x7 3;have xf4:=x7 4;have xf5:=x7 5;have xf6:=x7 6;clear x7;cases g1
  ·have HR:Hid (iE ts=(⟨3,0,false,false,0,s,a1⟩,0)):=aH (by rw[HX.out];rfl);have HQ:=aH (H4.out.fin ⟨3,0,false,false,0,s,a1⟩ 0);go_wp2;refine leaves_cons (f:=167) (args:=#[.pointer (some ⟨B,0,none⟩),.pointer (some ⟨B+1,0,none⟩)]) (by simp) (by simp[go_sem]) ?_;refine(eidle B (B+1) _).mono ?_;rintro e u' w4 ⟨rfl,rfl,hw4⟩;have hB4:=HQ.out.1;have hC4:=HQ.out.2.1;have hb4:=HQ.out.2.2;rw[<-hw4]at hB4 hC4 hb4;have b0:w4.cell? ⟨B,0,none⟩=some (.int .i64 (⟨3,0,false,false,0,s,a1⟩:Po).kind):=hB4.seven.1;have b1:w4.cell? ⟨B,1,none⟩=some (.int .i64 (⟨3,0,false,false,0,s,a1⟩:Po).reg):=hB4.seven.2.1;have b2:w4.cell? ⟨B,2,none⟩=some (.bool (⟨3,0,false,false,0,s,a1⟩:Po).stack):=hB4.seven.2.2.1;have b3:w4.cell? ⟨B,3,none⟩=some (.bool (⟨3,0,false,false,0,s,a1⟩:Po).minus):=hB4.seven.2.2.2.1;have b4:w4.cell? ⟨B,4,none⟩=some (.int .u64 (⟨3,0,false,false,0,s,a1⟩:Po).v):=hB4.seven.2.2.2.2.1;have b5:w4.cell? ⟨B,5,none⟩=some (.string ⟨(⟨3,0,false,false,0,s,a1⟩:Po).sym.toArray⟩):=hB4.seven.2.2.2.2.2.1;have b6:w4.cell? ⟨B,6,none⟩=some (.int .i64 (⟨3,0,false,false,0,s,a1⟩:Po).add):=hB4.seven.2.2.2.2.2.2.1;have d0:w4.cell? ⟨B+1,0,none⟩=some (.int .i64 0):=hC4.cell;simp[Leaves,settle,results,Tryz.results137,go_sem,b0,b1,b2,b3,b4,b5,b6,d0];rw[HR.out];exact⟨rfl,hb4⟩
  ·have HR:Hid (iE ts=(gU,4)):=aH (by rw[HX.out];rfl);have HQ:=aH (H4.out.fin gU 4);go_wp2;refine leaves_cons (f:=167) (args:=#[.pointer (some ⟨B,0,none⟩),.pointer (some ⟨B+1,0,none⟩)]) (by simp) (by simp[go_sem]) ?_;refine(eidle B (B+1) _).mono ?_;rintro e u' w4 ⟨rfl,rfl,hw4⟩;have hB4:=HQ.out.1;have hC4:=HQ.out.2.1;have hb4:=HQ.out.2.2;rw[<-hw4]at hB4 hC4 hb4;have b0:w4.cell? ⟨B,0,none⟩=some (.int .i64 (gU:Po).kind):=hB4.seven.1;have b1:w4.cell? ⟨B,1,none⟩=some (.int .i64 (gU:Po).reg):=hB4.seven.2.1;have b2:w4.cell? ⟨B,2,none⟩=some (.bool (gU:Po).stack):=hB4.seven.2.2.1;have b3:w4.cell? ⟨B,3,none⟩=some (.bool (gU:Po).minus):=hB4.seven.2.2.2.1;have b4:w4.cell? ⟨B,4,none⟩=some (.int .u64 (gU:Po).v):=hB4.seven.2.2.2.2.1;have b5:w4.cell? ⟨B,5,none⟩=some (.string ⟨(gU:Po).sym.toArray⟩):=hB4.seven.2.2.2.2.2.1;have b6:w4.cell? ⟨B,6,none⟩=some (.int .i64 (gU:Po).add):=hB4.seven.2.2.2.2.2.2.1;have d0:w4.cell? ⟨B+1,0,none⟩=some (.int .i64 4):=hC4.cell;simp[Leaves,settle,results,Tryz.results137,go_sem,b0,b1,b2,b3,b4,b5,b6,d0];rw[HR.out];exact⟨rfl,hb4⟩
theorem Expr_num {w:World}{a:Option Addr}{c:Nat}{ts:List Ti}(hsl:SL tiC 3 w w.heap.size a ts.length ts)(hT:nE w)(hg:oJ ts)(hn:ts.length<=1000000){m:Bool}{v:Int}{r:List Ti}{g1:Bool}(hx:kK ts=some (⟨2,0,false,m,v,[],0⟩,r,g1)):
  Calls Tryz.prog 137 #[.slice a ts.length c] w (ExprR (iE ts) w):=by
 have HX:Hid (iE ts=if r.isEmpty=true then(if g1=true then(gU,4)else(⟨2,0,false,m,v,[],0⟩,0))else(gU,3)):=aH (by unfold iE;rw[hx]);have HE:Hid (∀u,RR u (w.heap.size+2) ts false->Calls Tryz.prog 168 #[.pointer (some ⟨w.heap.size+2,0,none⟩)] u (Did (.iface 239 (.agg #[.bool m,.int .u64 v])) (w.heap.size+2) r (false||g1) u)):=aH fun u hu=>expr_ok hu hx
 clear hx;have hmf:∀(fn:Fn) (first cap:Array Value) (w:World),(Instr.makeFunc fn first cap).run Tryz.prog w=.ok (.func fn first cap) w:=fun _ _ _ _=>rfl
 have hE:∀w,(zeroValue 32).run Tryz.prog w=.ok (.int .i64 0) w:=fun w=>by kernel_rfl
 have hZ:=zeroOpnd;have HMs:=meth_sym;have HMn:=meth_num;obtain⟨B,hB⟩:=aE w.heap.size;have HBE:=aH hB;have h0:=aH (pU.mk0 (c:=c) hsl hT hg hn);rw[<-hB]at h0 HE;obtain⟨n,hnn⟩:=aE ts.length;rw[<-hnn]at h0⊢;clear hsl hT hg hn hnn;go_enter_defers Tryz.func137,Tryz.ntmps137;go_wp2_with fail
 rw[<-hB];clear hB;rw[show B+1+1=B+2 from rfl];change Hid (pU w (((w.alloc (.cells ozC 176)).alloc (.cells #[.int .i64 0] 32)).alloc (.cells #[.slice a n c,.int .i64 0,.bool false] 201)) B (poA gU) ts false)at h0;generalize((w.alloc (.cells ozC 176)).alloc (.cells #[.int .i64 0] 32)).alloc (.cells #[.slice a n c,.int .i64 0,.bool false] 201)=W0 at h0⊢;refine(HE.out _ h0.out.r).mono ?_;rintro e u1 ⟨rfl,hR,hK⟩;have H1:=aH (h0.out.call hR hK);clear hR hK;go_wp2_with fail
 refine(opnd_number m v _).mono ?_;rintro e u2 ⟨rfl,hb⟩;have H2:=aH (H1.out.next hb);clear hb;obtain⟨x0,x1,x2,x3,x4,x5,x6,x7,x8,x9,x10⟩:=H2.out.facts;have xf0:=x7 0;have xf1:=x7 1;have xf2:=x7 2;have xf3:=x7 3;have xf4:=x7 4;have xf5:=x7 5;have xf6:=x7 6;clear x7;have H3:=aH (H2.out.put ⟨2,0,false,m,v,[],0⟩);go_wp2_with fail
 refine(ended_r H3.out.r).mono ?_;rintro e u3 ⟨rfl,hR,hK⟩;have H4:=aH (H3.out.call hR hK);clear hR hK x0 x1 x2 x3 x4 x5 x6 xf0 xf1 xf2 xf3 xf4 xf5 xf6 x8 x9 x10;cases r with
 |cons t r=>
  have HR:Hid (iE ts=(gU,3)):=aH (by rw[HX.out];rfl);have HF:=aH (And.intro H4.out.b (And.intro H4.out.c H4.out.k));go_wp2;refine leaves_cons (f:=167) (args:=#[.pointer (some ⟨B,0,none⟩),.pointer (some ⟨B+1,0,none⟩)]) (by simp) (by simp[go_sem]) ?_;refine(ecatch B (B+1) ⟨2,0,false,m,v,[],0⟩ 0 _ _ [] _ HF.out.1 HF.out.2.1 (by omega)).mono ?_;rintro e u' w4 ⟨rfl,rfl,hw4⟩;have hB4:RB w4 B (poA gU) 176:=by rw[hw4];exact(cC (by omega)).trans (seven_any HF.out.1 gU)
  have hC4:RB w4 (B+1) #[.int .i64 3] 32:=by rw[hw4];exact RB.set (j:=0) ((nI (by omega)).trans HF.out.2.1) _
  have hb4:Below w.heap.size w w4:=by
   rw[hw4];exact(nJ HF.out.2.2 (by rw[HBE.out];exact Nat.le_refl _) gU).setCell (p:=⟨B+1,0,none⟩) (by show w.heap.size<=B+1;rw[HBE.out];omega) _
  have b0:w4.cell? ⟨B,0,none⟩=some (.int .i64 gU.kind):=hB4.seven.1;have b1:w4.cell? ⟨B,1,none⟩=some (.int .i64 gU.reg):=hB4.seven.2.1;have b2:w4.cell? ⟨B,2,none⟩=some (.bool gU.stack):=hB4.seven.2.2.1;have b3:w4.cell? ⟨B,3,none⟩=some (.bool gU.minus):=hB4.seven.2.2.2.1;have b4:w4.cell? ⟨B,4,none⟩=some (.int .u64 gU.v):=hB4.seven.2.2.2.2.1;have b5:w4.cell? ⟨B,5,none⟩=some (.string ⟨gU.sym.toArray⟩):=hB4.seven.2.2.2.2.2.1;have b6:w4.cell? ⟨B,6,none⟩=some (.int .i64 gU.add):=hB4.seven.2.2.2.2.2.2.1;have d0:w4.cell? ⟨B+1,0,none⟩=some (.int .i64 3):=hC4.cell;simp[Leaves,settle,results,Tryz.results137,go_sem,b0,b1,b2,b3,b4,b5,b6,d0];rw[HR.out];exact⟨rfl,hb4⟩
 |nil=>
  rw[Bool.false_or]at H4;obtain⟨gf,gc,-⟩:=H4.out.r.great;obtain⟨x0,x1,x2,x3,x4,x5,x6,x7,x8,x9,x10⟩:=H4.out.facts;have xf0:=x7 0;have xf1:=x7 1;have xf2:=x7 2;have xf3:=x7 3;have xf4:=x7 4;have xf5:=x7 5;have xf6:=x7 6;clear x7;cases g1
  ·have HR:Hid (iE ts=(⟨2,0,false,m,v,[],0⟩,0)):=aH (by rw[HX.out];rfl);have HQ:=aH (H4.out.fin ⟨2,0,false,m,v,[],0⟩ 0);go_wp2;refine leaves_cons (f:=167) (args:=#[.pointer (some ⟨B,0,none⟩),.pointer (some ⟨B+1,0,none⟩)]) (by simp) (by simp[go_sem]) ?_;refine(eidle B (B+1) _).mono ?_;rintro e u' w4 ⟨rfl,rfl,hw4⟩;have hB4:=HQ.out.1;have hC4:=HQ.out.2.1;have hb4:=HQ.out.2.2;rw[<-hw4]at hB4 hC4 hb4;have b0:w4.cell? ⟨B,0,none⟩=some (.int .i64 (⟨2,0,false,m,v,[],0⟩:Po).kind):=hB4.seven.1;have b1:w4.cell? ⟨B,1,none⟩=some (.int .i64 (⟨2,0,false,m,v,[],0⟩:Po).reg):=hB4.seven.2.1;have b2:w4.cell? ⟨B,2,none⟩=some (.bool (⟨2,0,false,m,v,[],0⟩:Po).stack):=hB4.seven.2.2.1;have b3:w4.cell? ⟨B,3,none⟩=some (.bool (⟨2,0,false,m,v,[],0⟩:Po).minus):=hB4.seven.2.2.2.1;have b4:w4.cell? ⟨B,4,none⟩=some (.int .u64 (⟨2,0,false,m,v,[],0⟩:Po).v):=hB4.seven.2.2.2.2.1;have b5:w4.cell? ⟨B,5,none⟩=some (.string ⟨(⟨2,0,false,m,v,[],0⟩:Po).sym.toArray⟩):=hB4.seven.2.2.2.2.2.1;have b6:w4.cell? ⟨B,6,none⟩=some (.int .i64 (⟨2,0,false,m,v,[],0⟩:Po).add):=hB4.seven.2.2.2.2.2.2.1;have d0:w4.cell? ⟨B+1,0,none⟩=some (.int .i64 0):=hC4.cell;simp[Leaves,settle,results,Tryz.results137,go_sem,b0,b1,b2,b3,b4,b5,b6,d0];rw[HR.out];exact⟨rfl,hb4⟩
  ·have HR:Hid (iE ts=(gU,4)):=aH (by rw[HX.out];rfl);have HQ:=aH (H4.out.fin gU 4);go_wp2;refine leaves_cons (f:=167) (args:=#[.pointer (some ⟨B,0,none⟩),.pointer (some ⟨B+1,0,none⟩)]) (by simp) (by simp[go_sem]) ?_;refine(eidle B (B+1) _).mono ?_;rintro e u' w4 ⟨rfl,rfl,hw4⟩;have hB4:=HQ.out.1;have hC4:=HQ.out.2.1;have hb4:=HQ.out.2.2;rw[<-hw4]at hB4 hC4 hb4;have b0:w4.cell? ⟨B,0,none⟩=some (.int .i64 (gU:Po).kind):=hB4.seven.1;have b1:w4.cell? ⟨B,1,none⟩=some (.int .i64 (gU:Po).reg):=hB4.seven.2.1;have b2:w4.cell? ⟨B,2,none⟩=some (.bool (gU:Po).stack):=hB4.seven.2.2.1;have b3:w4.cell? ⟨B,3,none⟩=some (.bool (gU:Po).minus):=hB4.seven.2.2.2.1;have b4:w4.cell? ⟨B,4,none⟩=some (.int .u64 (gU:Po).v):=hB4.seven.2.2.2.2.1;have b5:w4.cell? ⟨B,5,none⟩=some (.string ⟨(gU:Po).sym.toArray⟩):=hB4.seven.2.2.2.2.2.1;have b6:w4.cell? ⟨B,6,none⟩=some (.int .i64 (gU:Po).add):=hB4.seven.2.2.2.2.2.2.1;have d0:w4.cell? ⟨B+1,0,none⟩=some (.int .i64 4):=hC4.cell;simp[Leaves,settle,results,Tryz.results137,go_sem,b0,b1,b2,b3,b4,b5,b6,d0];rw[HR.out];exact⟨rfl,hb4⟩
theorem expr_form {l r:List Ti}{g:Bool}{o:Po}(hd:kK l=some (o,r,g)):(∃s a,o=⟨3,0,false,false,0,s,a⟩)\/∃m v,o=⟨2,0,false,m,v,[],0⟩:=by
 unfold kK ifP at hd;split at hd
 ·obtain⟨s,r1,g1,g2,e1,hd2,rfl⟩:=eJ hd;obtain⟨a,r2,g3,g4,e2,hd3,rfl⟩:=eJ hd2;cases hd3
  exact .inl ⟨_,_,rfl⟩
 ·obtain⟨n,r1,g1,g2,e1,hd2,rfl⟩:=eJ hd;cases hd2
  exact .inr ⟨_,_,rfl⟩
theorem Expr_any {w:World}{a:Option Addr}{c:Nat}{ts:List Ti}(hsl:SL tiC 3 w w.heap.size a ts.length ts)(hT:nE w)(hg:oJ ts)(hn:ts.length<=1000000):
  Calls Tryz.prog 137 #[.slice a ts.length c] w (ExprR (iE ts) w):=by
 cases hx:kK ts with
 |none=>exact Expr_none hsl hT hg hn hx
 |some x=>
  obtain⟨o,r,g⟩:=x;rcases expr_form hx with⟨s,a1,rfl⟩|⟨m,v,rfl⟩
  ·exact Expr_sym hsl hT hg hn hx
  ·exact Expr_num hsl hT hg hn hx
open Go.ChangeShapes Go.WideShapes Go.Deep Go.RowKit
theorem expr_word (s:List UInt8):iE [⟨1,s,0⟩]=if cI s=true then(⟨3,0,false,false,0,s,0⟩,0)else(gU,3):=by
 by_cases c:cI s=true
 ·rw[if_pos c];have e:kK [⟨1,s,0⟩]=some (⟨3,0,false,false,0,s,0⟩,[],false):=by
   unfold kK ifP;rw[if_pos (by unfold nX cQ;simp[c])];rfl
  unfold iE;rw[e];rfl
 ·rw[if_neg c];have e:kK [⟨1,s,0⟩]=none:=by
   unfold kK ifP;rw[if_neg (by unfold nX cQ;simp[c])];rfl
  unfold iE;rw[e]
open Go.ChangeShapes Go.WideShapes Go.Deep Go.RowKit
theorem tiL (S:List UInt8):∀cs:Array Value,cs=#[.int .i64 1,.string ⟨S.toArray⟩,.int .u64 0]->cs.toList=[(⟨1,S,0⟩:Ti)].flatMap tiC:=by rintro _ rfl;rfl
theorem IsName_list (S:List UInt8)(hs:S.length<=maxLen)(w:World)(hT:nE w):Calls Tryz.prog 106 #[.string ⟨S.toArray⟩] w (aP (.bool (cI S)) w):=by
 have HW:Hid (Calls Tryz.prog 136 #[.string ⟨S.toArray⟩] w (aP (.bool (cN S)) w)):=aH (IsWord_any ⟨S.toArray⟩ hs w);have HN:Hid (cN S=false->cI S=false):=aH (fun h=>by unfold cI;rw[h];rfl);have HE:Hid (∀(u:World) (cs:Array Value) (T:TypeId),cs=#[.int .i64 1,.string ⟨S.toArray⟩,.int .u64 0]->nE u->Calls Tryz.prog 137 #[.slice (some ⟨u.heap.size,0,none⟩) 1 1] (u.alloc (.cells cs T)) (ExprR (iE [⟨1,S,0⟩]) (u.alloc (.cells cs T)))):=aH (fun u cs T hc hu=>by
  have hl:SL tiC 3 (u.alloc (.cells cs T)) (u.alloc (.cells cs T)).heap.size (some ⟨u.heap.size,0,none⟩) 1 [⟨1,S,0⟩]:=by
   rw[World.size_alloc];exact SL.lit u T _ ti_len (by decide) cs (tiL S cs hc) 1 rfl
  exact Expr_any hl (hu.next ((Below.refl _ _).alloc (Nat.le_refl _) _)) (by
   intro t ht;simp only[List.mem_cons,List.mem_nil_iff,or_false]at ht;subst ht;exact⟨(by show cS 1;decide),hs,(by show(0:Int)<=0/\(0:Int)<18446744073709551616;decide)⟩) (by simp))
 have HT:=aH hT;have HX:=aH (expr_word S);generalize cN S=b at HW HN;clear hs hT;cases b
 ·rw[HN.out rfl];go_enter Tryz.func106,Tryz.ntmps106;go_wp2_with fail
  refine HW.out.mono ?_;rintro e u1 ⟨rfl,hb⟩;have HB:=aH hb;clear hb;go_wp2;go_ret;exact⟨rfl,HB.out⟩
 ·go_enter Tryz.func106,Tryz.ntmps106;go_wp2_with fail
  refine HW.out.mono ?_;rintro e u1 ⟨rfl,hb⟩;have HB:=aH hb;clear hb;go_wp2_with fail
  refine (HE.out u1 _ _ rfl (HT.out.next HB.out)).mono ?_;rw[HX.out];cases hc:cI S
  ·rw[if_neg (by decide)];rintro e u2 ⟨rfl,hb⟩;have HB2:=aH ((HB.out.alloc HB.out.size _).trans (hb.mono (by rw[World.size_alloc];have:=HB.out.size;omega)));clear hb;go_wp2;go_ret;exact⟨by rw[hc];rfl,HB2.out.alloc HB2.out.size _⟩
  ·rw[if_pos rfl];rintro e u2 ⟨rfl,hb⟩;have HB2:=aH ((HB.out.alloc HB.out.size _).trans (hb.mono (by rw[World.size_alloc];have:=HB.out.size;omega)));clear hb;go_wp2;go_ret;exact⟨by rw[hc];rfl,HB2.out.alloc HB2.out.size _⟩
theorem IsName_any (s:ByteArray)(hs:s.size<=maxLen)(w:World)(hT:nE w):Calls Tryz.prog 106 #[.string s] w (aP (.bool (cI s.data.toList)) w):=by
 have:=IsName_list s.data.toList (by simpa using hs) w hT;rwa[ba_back]at this
end Go.Proofs.YtiohgaghmnpplaaGreatDoor
