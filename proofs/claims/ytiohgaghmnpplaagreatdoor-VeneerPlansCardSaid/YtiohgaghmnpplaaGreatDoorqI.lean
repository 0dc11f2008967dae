/- part, plain: what a right section is, and how it grows. part, plain: what grows is right. part: a section in a block; New. part: a section as an argument. part: covers. part: Is. strings.Builder, a variable of its own: copyCheck, WriteByte, WriteString, String. part: append to a slice that is empty, or of the call's own. part: grown. part: placed. part: Put. obj, plain: what a right object is; and maps keyed by names. obj: stands. obj: areSyms. obj: areSecs. obj: Is, Find. part: the reference's SameRels. part: the reference's Big and Same. part: the reference's Same. part, plain: whatever is put behind a section, it is right and begins as it was. The law's own grown: constants. What hands back a section, for the laws' walks. -/
import Derived.Test.YtiohgaghmnpplaaGreatDoorqA
import Derived.Test.YtiohgaghmnpplaaGreatDoorqE
import Derived.Test.YtiohgaghmnpplaaGreatDoorqH
import Derived.Deep.RegionHeld3
import Derived.BigQuiet
import Derived.Test.YtiohgaghmnpplaaGreatDoorqF
import Derived.RegionTactic
import Derived.ChangeAlike
import Derived.Lib.Builder
import Derived.Lib.AppendStr
import Derived.Lib.UnsafeStr
import Derived.Lib.OthersKept
import Derived.Laws.Externs
import Derived.Laws.AppendOwnNone
import Derived.Laws.OwnMore
import Derived.Deep.RegionLaw
import Derived.Maps.Own
import Derived.Maps.OwnOps
import Derived.Maps.Keyed
import Derived.Carry
import Derived.StringKeys
import Derived.Deep.QuietTactic
set_option maxRecDepth 100000
set_option maxHeartbeats 8000000
set_option linter.unusedVariables false
set_option linter.unusedSimpArgs false
namespace Go.Proofs.YtiohgaghmnpplaaGreatDoor
section
open Go.RowKit
open Go.ChangeShapes Go.WideShapes Go.Deep Go.RowKit
structure Rl where
 pos:Int
 kind:Int
 sym:Int
 add:Int
def kY (r:Rl):List Value:=[.int .i64 r.pos,.int .i64 r.kind,.int .i64 r.sym,.int .i64 r.add]
theorem rl_len (r:Rl):(kY r).length=4:=rfl
theorem rl_one (r:Rl):∀u∈kY r,u.oneCell'=true:=by
 intro u hu;simp only[kY,List.mem_cons,List.mem_nil_iff,or_false]at hu;rcases hu with rfl|rfl|rfl|rfl<;>rfl
def jN (r:Rl):Prop:=cS r.pos/\cS r.kind/\cS r.sym/\cS r.add
structure Sc where
 name:List UInt8
 kind:Int
 keep:Bool
 align:Int
 data:List UInt8
 rels:List Rl
structure fP (s:Sc):Prop where
 name:s.name.length<=maxLen
 kind:cS s.kind
 align:cS s.align
 data:s.data.length<=maxLen
 rels:∀r∈s.rels,jN r
abbrev scZ:Sc:=⟨[],0,false,0,[],[]⟩
abbrev scV (s:Sc)(a:Option Addr)(n c:Nat):Value:=.agg #[.string ⟨s.name.toArray⟩,.int .i64 s.kind,.bool s.keep,.int .i64 s.align,.string ⟨s.data.toArray⟩,.slice a n c]
def rJ (k:Int):Int:=if k=1 then 8 else 4
theorem kV (k:Int):rJ k=8/\k=1\/rJ k=4/\k≠1:=by
 unfold rJ;by_cases h:k=1
 ·exact .inl ⟨if_pos h,h⟩
 ·exact .inr ⟨if_neg h,h⟩
abbrev nulB (n:Nat):List UInt8:=List.replicate n 0
def mK (kind:Int)(d:List UInt8)(r:Rl):Bool:=
 if r.kind=1 then(d.drop r.pos.toNat).take 8==nulB 8 else kind==1&&(r.pos%4==0&&dL r.kind (bH (qJ ((d.drop r.pos.toNat).take 4))))
def badR (kind:Int)(d:List UInt8)(e:Int)(r:Rl):Prop:=r.pos<e\/(d.length:Int)-rJ r.kind<r.pos\/r.sym<0\/mK kind d r=false
instance (kind:Int) (d:List UInt8) (e:Int) (r:Rl):Decidable (badR kind d e r):=by unfold badR;infer_instance
def gT (kind:Int)(d:List UInt8):Int->List Rl->Bool
 |_,[]=>true
 |e,r :: t=>if badR kind d e r then false else gT kind d (r.pos+rJ r.kind) t
def headR (s:Sc):Bool:=cI s.name && decide (1<=s.kind) && decide (s.kind<=3) && decide (0<=s.align) && decide (s.align<=12) && decide (s.data.length<=4096) && decide (s.rels.length<=64)
def jH (s:Sc):Bool:=headR s&&gT s.kind s.data 0 s.rels
open Go.ChangeShapes Go.WideShapes Go.Deep Go.RowKit
theorem head_iff {s:Sc}:headR s=true↔cI s.name=true/\1<=s.kind/\s.kind<=3/\0<=s.align/\s.align<=12/\s.data.length<=4096/\s.rels.length<=64:=by
 unfold headR;simp only[Bool.and_eq_true,decide_eq_true_eq,and_assoc]
theorem sec_iff {s:Sc}:jH s=true↔headR s=true/\gT s.kind s.data 0 s.rels=true:=by
 unfold jH;rw[Bool.and_eq_true]
open Go.ChangeShapes Go.WideShapes Go.Deep Go.RowKit
def jL (w:World):Prop:=Tab7 w/\nE w
theorem jL.next {w w':World}(h:jL w)(hb:Below w.heap.size w w'):jL w':=⟨Tab7.below h.1 hb,h.2.next hb⟩
section
variable {P:Program}
theorem eU {fn:Func}{p q:Tmp}{ty:TypeId}(h:fn.results=#[.cell p ty,.tmp q])(tmps:Array Value)(w:World)(g:Nat)(t:TypeId)(cs:Array Value)(fr:Nat×Nat)(d:TypeDesc)(x:Value)
  (hp:tmps.getD p undef=.pointer (some ⟨g,0,none⟩)) (hg:w.heap[g]?=some (.cells cs t fr))
  (hu:P.underlying ty=some d) (hd:(match d with| .struct _| .array _ _=>true|_=>false)=true) (hi:(P.info? ty).map (·.size)=some cs.size) (hx:tmps.getD q undef=x):
  (results fn tmps).run P w=.ok (.tuple #[.agg cs,x]) w:=by
 have hp':tmps[p]?.getD undef=.pointer (some ⟨g,0,none⟩):=by simpa using hp
 have hx':tmps[q]?.getD undef=x:=by simpa using hx
 simp[results,h,hp',hx',asAddr,run_loadVar_row w g t ty cs fr d hg hu hd hi]
end
abbrev scA (s:Sc)(a:Option Addr)(n c:Nat):Array Value:=#[.string ⟨s.name.toArray⟩,.int .i64 s.kind,.bool s.keep,.int .i64 s.align,.string ⟨s.data.toArray⟩,.slice a n c]
abbrev sset (u:World)(X:Nat)(s:Sc)(a:Option Addr)(n c:Nat):World:=
 ((((((u.setCell ⟨X,0,none⟩ (.string ⟨s.name.toArray⟩)).setCell ⟨X,1,none⟩ (.int .i64 s.kind)).setCell ⟨X,2,none⟩ (.bool s.keep)).setCell ⟨X,3,none⟩ (.int .i64 s.align)).setCell ⟨X,4,none⟩ (.string ⟨s.data.toArray⟩)).setCell ⟨X,5,none⟩ (.slice a n c))
theorem sset_heap {u:World}{X:Nat}{s':Sc}{a':Option Addr}{n' c':Nat}(h:RB u X (scA s' a' n' c') 97)(s:Sc)(a:Option Addr)(n c:Nat):RB (sset u X s a n c) X (scA s a n c) 97:=by
 have h0:RB (u.setCell ⟨X,0,none⟩ (.string ⟨s.name.toArray⟩)) X #[.string ⟨s.name.toArray⟩,.int .i64 s'.kind,.bool s'.keep,.int .i64 s'.align,.string ⟨s'.data.toArray⟩,.slice a' n' c'] 97:=h.set (j:=0) _;have h1:RB ((u.setCell ⟨X,0,none⟩ (.string ⟨s.name.toArray⟩)).setCell ⟨X,1,none⟩ (.int .i64 s.kind)) X #[.string ⟨s.name.toArray⟩,.int .i64 s.kind,.bool s'.keep,.int .i64 s'.align,.string ⟨s'.data.toArray⟩,.slice a' n' c'] 97:=h0.set (j:=1) _;have h2:RB (((u.setCell ⟨X,0,none⟩ (.string ⟨s.name.toArray⟩)).setCell ⟨X,1,none⟩ (.int .i64 s.kind)).setCell ⟨X,2,none⟩ (.bool s.keep)) X #[.string ⟨s.name.toArray⟩,.int .i64 s.kind,.bool s.keep,.int .i64 s'.align,.string ⟨s'.data.toArray⟩,.slice a' n' c'] 97:=h1.set (j:=2) _;have h3:RB ((((u.setCell ⟨X,0,none⟩ (.string ⟨s.name.toArray⟩)).setCell ⟨X,1,none⟩ (.int .i64 s.kind)).setCell ⟨X,2,none⟩ (.bool s.keep)).setCell ⟨X,3,none⟩ (.int .i64 s.align)) X #[.string ⟨s.name.toArray⟩,.int .i64 s.kind,.bool s.keep,.int .i64 s.align,.string ⟨s'.data.toArray⟩,.slice a' n' c'] 97:=h2.set (j:=3) _;have h4:RB (((((u.setCell ⟨X,0,none⟩ (.string ⟨s.name.toArray⟩)).setCell ⟨X,1,none⟩ (.int .i64 s.kind)).setCell ⟨X,2,none⟩ (.bool s.keep)).setCell ⟨X,3,none⟩ (.int .i64 s.align)).setCell ⟨X,4,none⟩ (.string ⟨s.data.toArray⟩)) X #[.string ⟨s.name.toArray⟩,.int .i64 s.kind,.bool s.keep,.int .i64 s.align,.string ⟨s.data.toArray⟩,.slice a' n' c'] 97:=h3.set (j:=4) _;have h5:RB ((((((u.setCell ⟨X,0,none⟩ (.string ⟨s.name.toArray⟩)).setCell ⟨X,1,none⟩ (.int .i64 s.kind)).setCell ⟨X,2,none⟩ (.bool s.keep)).setCell ⟨X,3,none⟩ (.int .i64 s.align)).setCell ⟨X,4,none⟩ (.string ⟨s.data.toArray⟩)).setCell ⟨X,5,none⟩ (.slice a n c)) X #[.string ⟨s.name.toArray⟩,.int .i64 s.kind,.bool s.keep,.int .i64 s.align,.string ⟨s.data.toArray⟩,.slice a n c] 97:=h4.set (j:=5) _;exact h5
theorem sset_below {w u:World}{X B:Nat}(h:Below B w u)(hX:B<=X)(s:Sc)(a:Option Addr)(n c:Nat):Below B w (sset u X s a n c):=
 ((((((h).setCell (p:=⟨X,0,none⟩) hX _).setCell (p:=⟨X,1,none⟩) hX _).setCell (p:=⟨X,2,none⟩) hX _).setCell (p:=⟨X,3,none⟩) hX _).setCell (p:=⟨X,4,none⟩) hX _).setCell (p:=⟨X,5,none⟩) hX _
theorem RB.six {u:World}{X:Nat}{s:Sc}{a:Option Addr}{n c:Nat}(h:RB u X (scA s a n c) 97):
  u.cell? ⟨X,0,none⟩=some (.string ⟨s.name.toArray⟩)/\u.cell? ⟨X,1,none⟩=some (.int .i64 s.kind)/\u.cell? ⟨X,2,none⟩=some (.bool s.keep)/\u.cell? ⟨X,3,none⟩=some (.int .i64 s.align)/\u.cell? ⟨X,4,none⟩=some (.string ⟨s.data.toArray⟩)/\u.cell? ⟨X,5,none⟩=some (.slice a n c)/\(∀j,u.frozen? ⟨X,j,none⟩=false)/\X<u.heap.size:=
 ⟨h.cell,h.cell,h.cell,h.cell,h.cell,h.cell,fun j=>h.frozen,lt_of_block h⟩
def Row0 (w:World)(B:Nat)(v:Value)(n:Nat)(l:List Rl):Prop:=w.ownsRow B 132 4 v n (l.flatMap kY)\/∃ad,v=.slice (some ad) 0 0/\n=0/\l=[]
def SecR (x:Sc×Int)(w:World)(e:Ending)(w':World):Prop:=
 ∃a c,e=.returned (.tuple #[scV x.1 a x.1.rels.length c,.int .i64 x.2])/\Row0 w' w.heap.size (.slice a x.1.rels.length c) x.1.rels.length x.1.rels/\Below w.heap.size w w'
theorem SecR.bare {s:Sc}{er:Int}{x:Sc×Int}{w w':World}(hx:x=(s,er))(hr:s.rels=[])(hb:Below w.heap.size w w'):SecR x w (.returned (.tuple #[scV s none 0 0,.int .i64 er])) w':=by
 subst hx;refine⟨none,0,?_,.inl ?_,hb⟩
 ·show _=Ending.returned (.tuple #[scV s none s.rels.length 0,.int .i64 er])
  rw[hr];rfl
 ·show w'.ownsRow _ _ 4 (.slice none s.rels.length 0) s.rels.length (s.rels.flatMap kY)
  rw[hr];exact World.ownsRow_nil _ _ _ _
section
variable {α:Type} {enc:α->List Value} {sz:Nat}
theorem open_SL3 {H:Type}{encH:TypeId×Value->H}{P:Program}{W:World}{u:Value}{fuel:Nat}{d:DataW H×List MemPlace}{t e:TypeId}{fs:Array Field}(good:α->Prop)(dummy:α)
  (ht:P.underlying t=some (.slice e)) (he:P.underlying e=some (.struct fs)) (hone:oneCellFields P fs=true) (hC:P.cellsOf e=fs.size) (hfs:fs.size=sz) (h0:0<sz)
  (henc:∀x,(enc x).length=sz)
  (hel:∀(cell:Nat->Option Value) (m:Nat),(∀(j:Nat) (f:Field),fs[j]?=some f->∃(u:Value) (y:DataW H×List MemPlace),cell j=some u/\DataW.trod encH P W 0 (fun _=>true) true m f.type [u]=some y)->∃x:α,good x/\∀j,j<sz->cell j=(enc x)[j]?)
  (hf:DataW.trod encH P W 0 (fun _=>true) true fuel t [u]=some d):
  ∃(a:Option Addr) (n c:Nat) (l:List α),u=.slice a n c/\n<=maxLen/\(∀x∈l,good x)/\SL enc sz W W.heap.size a n l/\(a=none->n=0/\c=0)/\n<=c/\∀R bt:Nat,(∀el sp,d.1=.slice el sp->(el.length+sp.length)*bt<=R)->n*bt<=R:=by
 rcases lB ht he hone hC hf with⟨hcs,hx⟩|⟨a,len,cap,m,D,Pl,hcs,hb,hl,hm,hmm,hx,hi⟩
 ·simp only[List.cons.injEq,and_true]at hcs;subst hcs;exact⟨none,0,0,[],rfl,by unfold maxLen;omega,by simp,SL.nil _ _ _,fun _=>⟨rfl,rfl⟩,Nat.le_refl _,by intro R bt _;omega⟩
 ·simp only[List.cons.injEq,and_true]at hcs;subst hcs;have hlm:len<=m:=by split at hmm<;>omega
  have hc:∀i,i<len->∃x:α,good x/\∀j,j<sz->W.cell? (a.add (i*sz+j))=(enc x)[j]?:=by
   intro i hi';obtain⟨ys,k,-,-,-,hfs'⟩:=hi i (by omega);exact hel (fun j=>W.cell? (a.add (i*sz+j))) k (fun j f hj=>by obtain⟨u,y,c1,_,c2⟩:=hfs' j f hj;rw[hfs]at c1;exact⟨u,y,c1,c2⟩)
  have hall:∃g:Nat->α,∀i,i<len->good (g i)/\∀j,j<sz->W.cell? (a.add (i*sz+j))=(enc (g i))[j]?:=
   ⟨fun i=>if h:i<len then Classical.choose (hc i h)else dummy,fun i h=>by simp only[h,dite_true];exact Classical.choose_spec (hc i h)⟩
  obtain⟨g,hg⟩:=hall;refine⟨some a,len,cap,(List.range len).map g,rfl,by omega,?_,⟨by simp,?_⟩,by simp,hl,fun R bt hR=>?_⟩;rotate_left 2
  ·have:=hR _ _ (by rw[hx]);simp only[List.length_map,List.length_range]at this;exact Nat.le_trans (Nat.mul_le_mul_right _ (Nat.le_add_right _ _)) this
  ·intro f hf;obtain⟨i,hi2,rfl⟩:=List.mem_map.1 hf;exact(hg i (by simpa using hi2)).1
  ·intro hne;have hlen:0<len:=by
    rcases Nat.eq_zero_or_pos len with h|h
    ·subst h;simp at hne
    ·exact h
   have h00:=(hg 0 hlen).2 0 h0;have hsome:∃u,W.cell? (a.add (0*sz+0))=some u:=by
    rw[h00];exact⟨_,iS (by rw[henc];exact h0)⟩
   obtain⟨u,hu⟩:=hsome;have ea:a.add (0*sz+0)=a:=by simp[Addr.add]
   rw[ea]at hu;have hal:a.block<W.heap.size:=bM hu;obtain⟨b,off,el⟩:=a;have hel':el=none:=cell_spot hu;subst hel';refine⟨b,off,rfl,hal,fun k hk j hj=>?_⟩;have hk':k<len:=by simpa using hk
   have:=(hg k hk').2 j hj;rw[add_none]at this;simpa only[Nat.add_assoc,List.getElem_map,List.getElem_range]using this
end
open Go.ChangeShapes Go.WideShapes Go.Deep Go.RowKit
theorem repL_list (l:List UInt8):∀n,Lib.repeatL l n=(List.replicate n l).flatten:=by
 intro n;induction n with
 |zero=>rfl
 |succ n ih=>first|(rw[Lib.repeatL,ih];rfl)|(simp[Lib.repeatL,List.replicate_succ])
theorem nul_rep (n:Nat):(List.replicate n [(0:UInt8)]).flatten=nulB n:=by
 induction n with
 |zero=>rfl
 |succ n ih=>rw[List.replicate_succ,List.flatten_cons,ih];rfl
theorem Rep_nul (n:Nat)(hn:n<=100000)(w:World):Calls Tryz.prog 138 #[.string ⟨#[0]⟩,.int .i64 (n:Int)] w (aP (.string ⟨(nulB n).toArray⟩) w):=by
 refine(Tryz.strings_Repeat ⟨#[0]⟩ n w (by omega) (by show 1*n<=_;omega)).mono ?_;rintro e w' ⟨rfl,hb⟩;refine⟨?_,hb⟩;rw[show(⟨#[0]⟩:ByteArray).data.toList=[0]from rfl,repL_list,nul_rep]
abbrev rlA (r:Rl):Array Value:=#[.int .i64 r.pos,.int .i64 r.kind,.int .i64 r.sym,.int .i64 r.add]
theorem mE {w:World}{A B:Array Value}{T U:TypeId}:RB ((w.alloc (.cells A T)).alloc (.cells B U)) w.heap.size A T/\RB ((w.alloc (.cells A T)).alloc (.cells B U)) (w.heap.size+1) B U/\Below w.heap.size w ((w.alloc (.cells A T)).alloc (.cells B U)):=by
 have s1:(w.alloc (.cells A T)).heap.size=w.heap.size+1:=World.size_alloc _ _;refine⟨?_,?_,((Below.refl _ w).alloc (Nat.le_refl _) _).alloc (by rw[s1];omega) _⟩
 ·exact(Below.heap_alloc _ _ _ (by rw[s1];omega)).trans (MapKept.heap_alloc _ _).1
 ·unfold RB;rw[<-s1];exact(MapKept.heap_alloc _ _).1
theorem cov_abs (N B D:ByteArray)(k:Int)(kp:Bool)(al:Int)(a:Option Addr)(n c p:Nat)(sy ad:Int)(hD:B.extract p (p+8)=D)(hp:p+8<=B.size)(hB:B.size<=4096)(w:World):
  Calls Tryz.prog 107 #[.agg #[.string N,.int .i64 k,.bool kp,.int .i64 al,.string B,.slice a n c],.agg #[.int .i64 (p:Int),.int .i64 1,.int .i64 sy,.int .i64 ad]] w (aP (.bool (D.data.toList==nulB 8)) w):=by
 obtain⟨q,hq⟩:=aE (p+8);rw[<-hq]at hD;have hwq:IntKind.i64.wrap ((p:Int)+8)=(q:Int):=by rw[IntKind.wrap_i64];omega
 have b0:(0:Int)<=(p:Int):=by omega
 have b1:(p:Int)<=(q:Int):=by omega
 have b2:(q:Int)<=(B.size:Int):=by omega
 have HR:Hid (∀u,Calls Tryz.prog 138 #[.string ⟨#[0]⟩,.int .i64 8] u (aP (.string ⟨(nulB 8).toArray⟩) u)):=aH (fun u=>Rep_nul 8 (by decide) u);have HW:=aH (mE (w:=w) (A:=#[.string N,.int .i64 k,.bool kp,.int .i64 al,.string B,.slice a n c]) (B:=#[.int .i64 (p:Int),.int .i64 1,.int .i64 sy,.int .i64 ad]) (T:=97) (U:=132));obtain⟨X,hX⟩:=aE w.heap.size;rw[<-hX]at HW;clear hq hp hB;go_enter Tryz.func107,Tryz.ntmps107;go_wp2_with fail
 rw[<-hX];have HXE:=aH hX;clear hX;generalize(w.alloc (.cells #[.string N,.int .i64 k,.bool kp,.int .i64 al,.string B,.slice a n c] 97)).alloc (.cells #[.int .i64 (p:Int),.int .i64 1,.int .i64 sy,.int .i64 ad] 132)=W at HW⊢;have c4:W.cell? ⟨X,4,none⟩=some (.string B):=HW.out.1.cell;have c0:W.cell? ⟨X+1,0,none⟩=some (.int .i64 (p:Int)):=HW.out.2.1.cell;(go_region_held3 (fun w'=>w'.cell? ⟨X,4,none⟩=some (.string B)/\w'.cell? ⟨X+1,0,none⟩=some (.int .i64 (p:Int))) (go_keep) ((first
   |(go_at_call 138;refine(HR.out _).mono ?_;rintro e u ⟨rfl,hb⟩;have hb':=((Below.refl W.heap.size W).drew).trans hb;have s0:u.cell? ⟨X,4,none⟩=some (.string B):=(HW.out.1.next hb').cell;have s1:u.cell? ⟨X+1,0,none⟩=some (.int .i64 (p:Int)):=(HW.out.2.1.next hb').cell)
   |fail)))
 go_wp2;go_ret;refine aB ?_ (by rw[HXE.out]at HW;exact after HW.out.2.2 hb');show(D.toList==(⟨Array.replicate 8 0⟩:ByteArray).toList)=_
 rw[ByteArray.toList_eq,ByteArray.toList_eq];rfl
theorem cov_sec (N B:ByteArray)(k:Int)(kp:Bool)(al:Int)(a:Option Addr)(n c p:Nat)(kk sy ad:Int)(rk:(kk==1)=false)(r1:(k==1)=false)(w:World):Calls Tryz.prog 107 #[.agg #[.string N,.int .i64 k,.bool kp,.int .i64 al,.string B,.slice a n c],.agg #[.int .i64 (p:Int),.int .i64 kk,.int .i64 sy,.int .i64 ad]] w (aP (.bool false) w):=by
 have HW:=aH (mE (w:=w) (A:=#[.string N,.int .i64 k,.bool kp,.int .i64 al,.string B,.slice a n c]) (B:=#[.int .i64 (p:Int),.int .i64 kk,.int .i64 sy,.int .i64 ad]) (T:=97) (U:=132));obtain⟨X,hX⟩:=aE w.heap.size;rw[<-hX]at HW;go_enter Tryz.func107,Tryz.ntmps107;go_wp2_with fail
 rw[<-hX];have HXE:=aH hX;clear hX;generalize(w.alloc (.cells #[.string N,.int .i64 k,.bool kp,.int .i64 al,.string B,.slice a n c] 97)).alloc (.cells #[.int .i64 (p:Int),.int .i64 kk,.int .i64 sy,.int .i64 ad] 132)=W at HW⊢;have c4:W.cell? ⟨X,4,none⟩=some (.string B):=HW.out.1.cell;have c1:W.cell? ⟨X,1,none⟩=some (.int .i64 k):=HW.out.1.cell;have c0:W.cell? ⟨X+1,0,none⟩=some (.int .i64 (p:Int)):=HW.out.2.1.cell;have e1:W.cell? ⟨X+1,1,none⟩=some (.int .i64 kk):=HW.out.2.1.cell;clear c4 c0 e1;go_quiet (fail);go_wp2;go_ret;exact⟨rfl,by rw[HXE.out]at HW;exact below_drewN HW.out.2.2 nq⟩
theorem cov_odd (N B:ByteArray)(k:Int)(kp:Bool)(al:Int)(a:Option Addr)(n c p:Nat)(kk sy ad:Int)(rk:(kk==1)=false)(r1:(k==1)=true)(b0:(0:Int)<=(p:Int))(t1:((p:Int).tmod 4==0)=false)(t2:((p:Int)%4==0)=false)(w:World):Calls Tryz.prog 107 #[.agg #[.string N,.int .i64 k,.bool kp,.int .i64 al,.string B,.slice a n c],.agg #[.int .i64 (p:Int),.int .i64 kk,.int .i64 sy,.int .i64 ad]] w (aP (.bool false) w):=by
 have HW:=aH (mE (w:=w) (A:=#[.string N,.int .i64 k,.bool kp,.int .i64 al,.string B,.slice a n c]) (B:=#[.int .i64 (p:Int),.int .i64 kk,.int .i64 sy,.int .i64 ad]) (T:=97) (U:=132));obtain⟨X,hX⟩:=aE w.heap.size;rw[<-hX]at HW;go_enter Tryz.func107,Tryz.ntmps107;go_wp2_with fail
 rw[<-hX];have HXE:=aH hX;clear hX;generalize(w.alloc (.cells #[.string N,.int .i64 k,.bool kp,.int .i64 al,.string B,.slice a n c] 97)).alloc (.cells #[.int .i64 (p:Int),.int .i64 kk,.int .i64 sy,.int .i64 ad] 132)=W at HW⊢;have c4:W.cell? ⟨X,4,none⟩=some (.string B):=HW.out.1.cell;have c1:W.cell? ⟨X,1,none⟩=some (.int .i64 k):=HW.out.1.cell;have c0:W.cell? ⟨X+1,0,none⟩=some (.int .i64 (p:Int)):=HW.out.2.1.cell;have e1:W.cell? ⟨X+1,1,none⟩=some (.int .i64 kk):=HW.out.2.1.cell;clear c4 e1;go_quiet (fail);go_wp2;go_ret;exact⟨rfl,by rw[HXE.out]at HW;exact below_drewN HW.out.2.2 nq⟩
theorem cov_fits (N B:ByteArray)(k:Int)(kp:Bool)(al:Int)(a:Option Addr)(n c p:Nat)(kk sy ad:Int)(rk:(kk==1)=false)(hkk:cS kk)(r1:(k==1)=true)(t1:((p:Int).tmod 4==0)=true)(t2:((p:Int)%4==0)=true)(D:ByteArray)(hD:B.extract p (p+4)=D)(hp:p+4<=B.size)(hB:B.size<=4096)(hDs:D.size=4)(w:World)(hT:jL w):Calls Tryz.prog 107 #[.agg #[.string N,.int .i64 k,.bool kp,.int .i64 al,.string B,.slice a n c],.agg #[.int .i64 (p:Int),.int .i64 kk,.int .i64 sy,.int .i64 ad]] w (aP (.bool (dL kk (bH (qJ D.data.toList)))) w):=by
 obtain⟨q,hq⟩:=aE (p+4);rw[<-hq]at hD;have hwq:IntKind.i64.wrap ((p:Int)+4)=(q:Int):=by rw[IntKind.wrap_i64];omega
 have b0:(0:Int)<=(p:Int):=by omega
 have b1:(p:Int)<=(q:Int):=by omega
 have b2:(q:Int)<=(B.size:Int):=by omega
 have hv:=leV_lt D.data.toList;rw[show D.data.toList.length=4 by rw[Array.length_toList];exact hDs]at hv;have HN:=aH (fun u=>fnumber_any D u (by omega));have HF:=aH (fun u (hu:jL u)=>Fits_any kk (qJ D.data.toList) u hkk.1 hkk.2 (by omega) hu.1);generalize qJ D.data.toList=v at*
 have hwv:IntKind.u32.wrap (v:Int)=(v:Int):=by rw[IntKind.wrap_u32];omega
 have HT:=aH hT;clear hq hp hB hDs hv hT hkk;have HW:=aH (mE (w:=w) (A:=#[.string N,.int .i64 k,.bool kp,.int .i64 al,.string B,.slice a n c]) (B:=#[.int .i64 (p:Int),.int .i64 kk,.int .i64 sy,.int .i64 ad]) (T:=97) (U:=132));obtain⟨X,hX⟩:=aE w.heap.size;rw[<-hX]at HW;go_enter Tryz.func107,Tryz.ntmps107;go_wp2_with fail
 rw[<-hX];have HXE:=aH hX;clear hX;generalize(w.alloc (.cells #[.string N,.int .i64 k,.bool kp,.int .i64 al,.string B,.slice a n c] 97)).alloc (.cells #[.int .i64 (p:Int),.int .i64 kk,.int .i64 sy,.int .i64 ad] 132)=W at HW⊢;have c4:W.cell? ⟨X,4,none⟩=some (.string B):=HW.out.1.cell;have c1:W.cell? ⟨X,1,none⟩=some (.int .i64 k):=HW.out.1.cell;have c0:W.cell? ⟨X+1,0,none⟩=some (.int .i64 (p:Int)):=HW.out.2.1.cell;have e1:W.cell? ⟨X+1,1,none⟩=some (.int .i64 kk):=HW.out.2.1.cell;have HB:=aH HW.out.2.2;rw[HXE.out]at HB
 first|(go_region_held3 (fun w'=>w'.cell? ⟨X,4,none⟩=some (.string B)/\w'.cell? ⟨X,1,none⟩=some (.int .i64 k)/\w'.cell? ⟨X+1,0,none⟩=some (.int .i64 (p:Int))/\w'.cell? ⟨X+1,1,none⟩=some (.int .i64 kk)) (go_keep) ((first
  |(go_at_call 140;refine(HN.out _).mono ?_;rintro e u ⟨rfl,rfl⟩)
  |(go_at_call 139;refine(HF.out _ (HT.out.next (HB.out.trans (((Below.refl W.heap.size W).drew).mono HB.out.size)))).mono ?_;rintro e u ⟨rfl,hb⟩;have hb':=((Below.refl W.heap.size W).drew).trans hb;have s0:u.cell? ⟨X,4,none⟩=some (.string B):=(HW.out.1.next hb').cell;have s1:u.cell? ⟨X,1,none⟩=some (.int .i64 k):=(HW.out.1.next hb').cell;have s2:u.cell? ⟨X+1,0,none⟩=some (.int .i64 (p:Int)):=(HW.out.2.1.next hb').cell;have s3:u.cell? ⟨X+1,1,none⟩=some (.int .i64 kk):=(HW.out.2.1.next hb').cell)
  |fail)))|fail
 go_wp2;go_ret;exact⟨rfl,after HB.out hb'⟩
open Go.ChangeShapes Go.WideShapes Go.Deep Go.RowKit
theorem dN {w:World}{b off:Nat}{k:Nat}{t:Rl}(hc:∀j,j<4->w.cell? ⟨b,off+k*4+j,none⟩=(kY t)[j]?):
  w.cell? ⟨b,off+k*4,none⟩=some (.int .i64 t.pos)/\w.cell? ⟨b,off+k*4+1,none⟩=some (.int .i64 t.kind)/\w.cell? ⟨b,off+k*4+2,none⟩=some (.int .i64 t.sym)/\w.cell? ⟨b,off+k*4+3,none⟩=some (.int .i64 t.add):=
 ⟨hc 0 (by omega),hc 1 (by omega),hc 2 (by omega),hc 3 (by omega)⟩
theorem cov_any (N B:ByteArray)(k:Int)(kp:Bool)(al:Int)(a:Option Addr)(n c:Nat)(r:Rl)(hr:jN r)(h0:0<=r.pos)(h1:r.pos<=(B.size:Int)-rJ r.kind)(hB:B.size<=4096)(w:World)(hT:jL w):
  Calls Tryz.prog 107 #[.agg #[.string N,.int .i64 k,.bool kp,.int .i64 al,.string B,.slice a n c],.agg #[.int .i64 r.pos,.int .i64 r.kind,.int .i64 r.sym,.int .i64 r.add]] w (aP (.bool (mK k B.data.toList r)) w):=by
 obtain⟨pos,kk,sy,ad⟩:=r;simp only at h0 h1;obtain⟨p,rfl⟩:∃p:Nat,pos=p:=⟨pos.toNat,by omega⟩;have hlen:B.data.toList.length=B.size:=by simp
 have hex:∀q,(B.extract p q).data.toList=(B.data.toList.drop p).take (q-p):=fun q=>by
  rw[ByteArray.data_extract,Array.toList_extract]
 unfold mK;simp only[Int.toNat_natCast];rcases kV kk with⟨e,rfl⟩|⟨e,hk⟩
 ·rw[e]at h1;rw[if_pos rfl];have:=cov_abs N B _ k kp al a n c p sy ad rfl (by omega) hB w;rw[hex,show p+8-p=8 by omega]at this;exact this
 ·rw[e]at h1;rw[if_neg hk];have rk:(kk==1)=false:=by rw[beq_eq_false_iff_ne];exact hk
  cases r1:(k==1)
  ·rw[Bool.false_and];exact cov_sec N B k kp al a n c p kk sy ad rk r1 w
  ·rw[Bool.true_and];have ht:(p:Int).tmod 4=(p:Int)%4:=Int.tmod_eq_emod_of_nonneg (by omega);cases t2:((p:Int)%4==0)
   ·rw[Bool.false_and];exact cov_odd N B k kp al a n c p kk sy ad rk r1 (by omega) (by rw[ht];exact t2) t2 w
   ·rw[Bool.true_and];have hDl:=hex (p+4);rw[show p+4-p=4 by omega]at hDl;have hDs:(B.extract p (p+4)).size=4:=by rw[ByteArray.size_extract];omega
    have:=cov_fits N B k kp al a n c p kk sy ad rk hr.2.1 r1 (by rw [ht];exact t2) t2 _ rfl (by omega) hB hDs w hT;rw[hDl]at this;exact this
theorem pIs_core (N B:ByteArray)(k:Int)(kp:Bool)(al:Int)(a:Option Addr)(n c:Nat)(l:List Rl)(hN:N.size<=maxLen)(hBm:B.size<=maxLen)(w:World)(hs:SL kY 4 w w.heap.size a n l)(hg:∀r∈l,jN r)(hT:jL w):
  Calls Tryz.prog 76 #[.agg #[.string N,.int .i64 k,.bool kp,.int .i64 al,.string B,.slice a n c]] w (aP (.bool (jH ⟨N.data.toList,k,kp,al,B.data.toList,l⟩)) w):=by
 have HT:=aH hT;have HS:=aH hs;have hl:=aH hs.len;have HG:=aH hg;have hlen:B.data.toList.length=B.size:=by simp
 have HLn:=aH hlen;have HSec:Hid (jH ⟨N.data.toList,k,kp,al,B.data.toList,l⟩=(cI N.data.toList && decide (1<=k) && decide (k<=3) && decide (0<=al) && decide (al<=12) && decide (B.size<=4096) && decide (n<=64) && gT k B.data.toList 0 l)):=aH (by
  unfold jH headR;simp only;rw[hlen,<-hs.len])
 have HNm:=aH (fun u (hu:jL u)=>IsName_any N hN u hu.2);have HB0:Hid (Below w.heap.size w (w.alloc (.cells #[.string N,.int .i64 k,.bool kp,.int .i64 al,.string B,.slice a n c] 97))):=aH ((Below.refl _ w).alloc (Nat.le_refl _) _);have HX0:Hid (RB (w.alloc (.cells #[.string N,.int .i64 k,.bool kp,.int .i64 al,.string B,.slice a n c] 97)) w.heap.size #[.string N,.int .i64 k,.bool kp,.int .i64 al,.string B,.slice a n c] 97):=aH (MapKept.heap_alloc w _).1;obtain⟨X,hX⟩:=aE w.heap.size;rw[<-hX]at HX0;have hB9:(B.size:Int)<=9223372036854775807:=by unfold maxLen at hBm;omega
 generalize cI N.data.toList=nm at HNm HSec;generalize jH ⟨N.data.toList,k,kp,al,B.data.toList,l⟩=R at HSec⊢;clear hs hg hT hN hBm hlen;go_enter Tryz.func76,Tryz.ntmps76;go_wp2_with fail
 rw[<-hX];clear hX;generalize w.alloc (.cells #[.string N,.int .i64 k,.bool kp,.int .i64 al,.string B,.slice a n c] 97)=W0 at HB0 HX0⊢;refine(HNm.out _ (HT.out.next HB0.out)).mono ?_;rintro e u ⟨rfl,hb⟩;have HBX:=aH (after HB0.out hb);have HX:=aH (HX0.out.next hb);have f0:u.cell? ⟨X,1,none⟩=some (.int .i64 k):=HX.out.cell;have f1:u.cell? ⟨X,3,none⟩=some (.int .i64 al):=HX.out.cell;have f2:u.cell? ⟨X,4,none⟩=some (.string B):=HX.out.cell;have f3:u.cell? ⟨X,5,none⟩=some (.slice a n c):=HX.out.cell;clear hb;cases nm
 ·have HF:Hid (R=false):=aH (by rw[HSec.out];rfl);go_wp2;go_ret;exact aB HF.out.symm HBX.out
 by_cases t1:k<1
 ·have HF:Hid (R=false):=aH (by rw[HSec.out,decide_eq_false (p:=1<=k) (by omega)];simp);go_wp2;go_ret;exact aB HF.out.symm HBX.out
 by_cases t2:3<k
 ·have HF:Hid (R=false):=aH (by rw[HSec.out,decide_eq_false (p:=k<=3) (by omega)];simp);go_wp2;go_ret;exact aB HF.out.symm HBX.out
 by_cases t3:al<0
 ·have HF:Hid (R=false):=aH (by rw[HSec.out,decide_eq_false (p:=0<=al) (by omega)];simp);go_wp2;go_ret;exact aB HF.out.symm HBX.out
 by_cases t4:12<al
 ·have HF:Hid (R=false):=aH (by rw[HSec.out,decide_eq_false (p:=al<=12) (by omega)];simp);go_wp2;go_ret;exact aB HF.out.symm HBX.out
 by_cases t5:4096<B.size
 ·have t5z:(4096:Int)<(B.size:Int):=by omega
  have HF:Hid (R=false):=aH (by rw[HSec.out,decide_eq_false (p:=B.size<=4096) (by omega)];simp);clear t5;go_wp2;go_ret;exact aB HF.out.symm HBX.out
 have t5z:¬(4096:Int)<(B.size:Int):=by omega
 by_cases t6:64<n
 ·have t6z:(64:Int)<(n:Int):=by omega
  have HF:Hid (R=false):=aH (by rw[HSec.out,decide_eq_false (p:=n<=64) (by omega)];simp);clear t5 t6;go_wp2;go_ret;exact aB HF.out.symm HBX.out
 have t6z:¬(64:Int)<(n:Int):=by omega
 have HR:Hid (R=gT k B.data.toList 0 l):=aH (by
  rw[HSec.out,decide_eq_true (p:=1<=k) (by omega),decide_eq_true (p:=k<=3) (by omega),decide_eq_true (p:=0<=al) (by omega),decide_eq_true (p:=al<=12) (by omega),decide_eq_true (p:=B.size<=4096) (by omega),decide_eq_true (p:=n<=64) (by omega)];rfl)
 have hB4:B.size<=4096:=by omega
 have hn6:n<=64:=by omega
 have hws:∀z:Int,z=4\/z=8->IntKind.i64.wrap ((B.size:Int)-z)=(B.size:Int)-z:=fun z hz=>by rw[IntKind.wrap_i64];omega
 have hw4:=hws 4 (.inl rfl);have hw8:=hws 8 (.inr rfl);have HB4:=aH hB4;clear HSec HNm hws t5 t6 hB9;go_wp2_with fail
 clear t1 t2 t3 t4 t5z t6z f0 f1 f2 f3;go_loopg [3,44] (n) (fun g ev iv wl=>∃(j:Nat) (e:Int) (u:World),ev=.int .i64 e/\iv=.int .i64 (j:Int)/\u=wl/\j<=n/\0<=e/\Hid (R=gT k B.data.toList e (l.drop j))/\Hid (g=n-j)/\Hid (Below w.heap.size w u)/\Hid (RB u X #[.string N,.int .i64 k,.bool kp,.int .i64 al,.string B,.slice a n c] 97))
 case atStart=>exact⟨0,0,_,rfl,rfl,rfl,by omega,by omega,aH (by rw[List.drop_zero];exact HR.out),aH rfl,HBX,HX⟩
 case round=>
  clear HBX HX HR;obtain⟨j,e,u',rfl,rfl,rfl,hj,he,HA,HGk,HBX,HX⟩:=hrel;have f2:u'.cell? ⟨X,4,none⟩=some (.string B):=HX.out.cell;by_cases hlt:j<n
  ·have hjl:j<l.length:=by rw[<-hl.out];exact hlt
   obtain⟨b,off,rfl,hbB,hc⟩:=(HS.out.below HBX.out).cells (HS.out.ne (k:=j) hlt);obtain⟨d0,d1,d2,d3⟩:=dN (fun i hi=>hc j hjl i hi);have HD:=aH (eW hjl);have HGr:Hid (jN l[j]):=aH (HG.out _ (List.getElem_mem _));generalize l[j]=r at*
   have hji:(j:Int)<(n:Int):=by omega
   have hj0:(0:Int)<=(j:Int):=by omega
   have HX1:Hid (R=if badR k B.data.toList e r then false else gT k B.data.toList (r.pos+rJ r.kind) (l.drop (j+1))):=aH (by rw[HA.out,HD.out];rfl);clear hc hbB hjl;have f0:u'.cell? ⟨X,1,none⟩=some (.int .i64 k):=HX.out.cell;have f1:u'.cell? ⟨X,3,none⟩=some (.int .i64 al):=HX.out.cell;have f3:u'.cell? ⟨X,5,none⟩=some (.slice _ n c):=HX.out.cell;have f4:u'.cell? ⟨X,0,none⟩=some (.string N):=HX.out.cell;have f5:u'.cell? ⟨X,2,none⟩=some (.bool kp):=HX.out.cell;have HBr:Hid (Below w.heap.size w (u'.alloc (.cells #[.int .i64 r.pos,.int .i64 r.kind,.int .i64 r.sym,.int .i64 r.add] 132))):=aH (HBX.out.alloc HBX.out.size _);have HXr:Hid (RB (u'.alloc (.cells #[.int .i64 r.pos,.int .i64 r.kind,.int .i64 r.sym,.int .i64 r.add] 132)) X #[.string N,.int .i64 k,.bool kp,.int .i64 al,.string B,.slice (some ⟨b,off,none⟩) n c] 97):=aH (HX.out.next ((Below.refl _ _).alloc (Nat.le_refl _) _));have hXl:X<u'.heap.size:=lt_of_block HX.out;rcases kV r.kind with⟨hz,hk⟩|⟨hz,hk⟩
   ·have rk:(r.kind==1)=true:=by rw[hk];rfl
    clear hk;have HZ:Hid (rJ r.kind=8):=aH hz;clear hz;by_cases p1:r.pos<e
    ·have HF:Hid (R=false):=aH (by rw[HX1.out,if_pos (.inl p1)]);go_wp2;go_ret;exact aB HF.out.symm HBr.out
    by_cases p2:(B.size:Int)-8<r.pos
    ·have HF:Hid (R=false):=aH (by rw[HX1.out,if_pos (.inr (.inl (by rw[HZ.out,HLn.out];exact p2)))]);go_wp2;go_ret;exact aB HF.out.symm HBr.out
    by_cases p3:r.sym<0
    ·have HF:Hid (R=false):=aH (by rw[HX1.out,if_pos (.inr (.inr (.inl p3)))]);go_wp2;go_ret;exact aB HF.out.symm HBr.out
    have HCv:=aH (fun v (hv:jL v)=>cov_any N B k kp al (some ⟨b,off,none⟩) n c r HGr.out (by omega) (by rw[HZ.out];omega) HB4.out v hv);have hwp:IntKind.i64.wrap (r.pos+8)=r.pos+8:=by have:=HB4.out;rw[IntKind.wrap_i64];omega
    have hep:0<=r.pos+8:=by omega
    cases hcv:mK k B.data.toList r
    ·have HF:Hid (R=false):=aH (by rw[HX1.out,if_pos (.inr (.inr (.inr hcv)))]);rw[hcv]at HCv;clear hcv;go_wp2_with fail
     refine(HCv.out _ (HT.out.next HBr.out)).mono ?_;rintro e v ⟨rfl,hb⟩;have HBv:=aH (after HBr.out hb);clear hb;go_wp2;go_ret;exact aB HF.out.symm HBv.out
    ·have HF:Hid (R=gT k B.data.toList (r.pos+8) (l.drop (j+1))):=aH (by rw[HX1.out,if_neg (by rintro(h|h|h|h);exact p1 h;rw[HZ.out,HLn.out]at h;exact p2 h;exact p3 h;rw[hcv]at h;cases h),HZ.out]);rw[hcv]at HCv;clear hcv;have hrb:RB (u'.alloc (.cells #[.int .i64 r.pos,.int .i64 r.kind,.int .i64 r.sym,.int .i64 r.add] 132)) u'.heap.size #[.int .i64 r.pos,.int .i64 r.kind,.int .i64 r.sym,.int .i64 r.add] 132:=(MapKept.heap_alloc _ _).1;have HRB:=aH hrb;clear hrb;go_wp2_with fail
     refine(HCv.out _ (HT.out.next HBr.out)).mono ?_;rintro e v ⟨rfl,hb⟩;have HBv:=aH (after HBr.out hb);have HXv:=aH (HXr.out.next hb);have g0:v.cell? ⟨u'.heap.size,0,none⟩=some (.int .i64 r.pos):=(HRB.out.next hb).cell;clear hb;go_wp2;go_roundg (n-(j+1))
     case measure=>have:=HGk.out;omega
     case rel=>exact⟨j+1,r.pos+8,_,rfl,by go_num,rfl,by omega,hep,HF,aH rfl,HBv,HXv⟩
   ·have rk:(r.kind==1)=false:=by rw[beq_eq_false_iff_ne];exact hk
    clear hk;have HZ:Hid (rJ r.kind=4):=aH hz;clear hz;by_cases p1:r.pos<e
    ·have HF:Hid (R=false):=aH (by rw[HX1.out,if_pos (.inl p1)]);go_wp2;go_ret;exact aB HF.out.symm HBr.out
    by_cases p2:(B.size:Int)-4<r.pos
    ·have HF:Hid (R=false):=aH (by rw[HX1.out,if_pos (.inr (.inl (by rw[HZ.out,HLn.out];exact p2)))]);go_wp2;go_ret;exact aB HF.out.symm HBr.out
    by_cases p3:r.sym<0
    ·have HF:Hid (R=false):=aH (by rw[HX1.out,if_pos (.inr (.inr (.inl p3)))]);go_wp2;go_ret;exact aB HF.out.symm HBr.out
    have HCv:=aH (fun v (hv:jL v)=>cov_any N B k kp al (some ⟨b,off,none⟩) n c r HGr.out (by omega) (by rw[HZ.out];omega) HB4.out v hv);have hwp:IntKind.i64.wrap (r.pos+4)=r.pos+4:=by have:=HB4.out;rw[IntKind.wrap_i64];omega
    have hep:0<=r.pos+4:=by omega
    cases hcv:mK k B.data.toList r
    ·have HF:Hid (R=false):=aH (by rw[HX1.out,if_pos (.inr (.inr (.inr hcv)))]);rw[hcv]at HCv;clear hcv;go_wp2_with fail
     refine(HCv.out _ (HT.out.next HBr.out)).mono ?_;rintro e v ⟨rfl,hb⟩;have HBv:=aH (after HBr.out hb);clear hb;go_wp2;go_ret;exact aB HF.out.symm HBv.out
    ·have HF:Hid (R=gT k B.data.toList (r.pos+4) (l.drop (j+1))):=aH (by rw[HX1.out,if_neg (by rintro(h|h|h|h);exact p1 h;rw[HZ.out,HLn.out]at h;exact p2 h;exact p3 h;rw[hcv]at h;cases h),HZ.out]);rw[hcv]at HCv;clear hcv;have hrb:RB (u'.alloc (.cells #[.int .i64 r.pos,.int .i64 r.kind,.int .i64 r.sym,.int .i64 r.add] 132)) u'.heap.size #[.int .i64 r.pos,.int .i64 r.kind,.int .i64 r.sym,.int .i64 r.add] 132:=(MapKept.heap_alloc _ _).1;have HRB:=aH hrb;clear hrb;go_wp2_with fail
     refine(HCv.out _ (HT.out.next HBr.out)).mono ?_;rintro e v ⟨rfl,hb⟩;have HBv:=aH (after HBr.out hb);have HXv:=aH (HXr.out.next hb);have g0:v.cell? ⟨u'.heap.size,0,none⟩=some (.int .i64 r.pos):=(HRB.out.next hb).cell;clear hb;go_wp2;go_roundg (n-(j+1))
     case measure=>have:=HGk.out;omega
     case rel=>exact⟨j+1,r.pos+4,_,rfl,by go_num,rfl,by omega,hep,HF,aH rfl,HBv,HXv⟩
  ·have HF:Hid (R=true):=aH (by rw[HA.out,List.drop_eq_nil_of_le (by have:=hl.out;omega)];rfl);have hnj:¬(j:Int)<(n:Int):=by omega
   go_wp2;go_ret;exact aB HF.out.symm HBX.out
theorem pIs_any (s:Sc)(a:Option Addr)(n c:Nat)(w:World)(hs:SL kY 4 w w.heap.size a n s.rels)(hg:fP s)(hT:jL w):Calls Tryz.prog 76 #[scV s a n c] w (aP (.bool (jH s)) w):=
 pIs_core ⟨s.name.toArray⟩ ⟨s.data.toArray⟩ s.kind s.keep s.align a n c s.rels (by show s.name.toArray.size<=maxLen;simpa using hg.name) (by show s.data.toArray.size<=maxLen;simpa using hg.data) w hs hg.rels hT
end
section
open Go.RowKit
abbrev WrAt (B b:Nat)(p:Value)(bs:List Value)(w:World):Prop:=Lib.BuilderAt 211 5 B b p bs w
abbrev Wr (B b:Nat)(bs:List Value)(w:World):Prop:=Lib.IsBuilder 211 5 B b bs w
theorem infoU:(Tryz.prog.info? 5).map (fun i=>(i.zero,i.size,i.bytes))=some (some (.int .u8 0),1,1):=by kernel_rfl
theorem row_kind {w:World}{B:Nat}{e:TypeId}{v:Value}{n:Nat}{xs:List Value}(h:w.ownsRow B e 1 v n xs):∀g,v.ownBlock=some g->∃c fz,w.heap[g]?=some (.cells c e fz):=by
 intro g hg;rcases h.2 with⟨rfl,_⟩|⟨g',cap,cur,rfl,_,hgg,_⟩
 ·simp[Value.ownBlock]at hg
 ·simp only[Value.ownBlock,Option.some.injEq]at hg;subst hg;exact⟨_,_,hgg⟩
end
section
open Go.RowKit
open Go.ChangeShapes Go.WideShapes Go.Deep Go.RowKit
theorem info_rel:(Tryz.prog.info? 132).map (fun i=>(i.zero,i.size,i.bytes))=some (some (.agg #[.int .i64 0,.int .i64 0,.int .i64 0,.int .i64 0]),4,32):=by kernel_rfl
theorem step_run {w:World}{ops:Array Oper}{o:Oper}{a:Act}{K:Act->World->Prop}{Q:Exit->Act->World->Prop}{E:Prop}(hgd:o.guard=none)(s x:Operand)(t:TypeId)
  (ho:o.op=.call { callee:=.builtin .append,args:=#[s,x],argTypes:=#[t,t] }) (sv xv:Value) (hs:a.eval s=sv) (hx:a.eval x=xv) {v':Value} {w':World}
  (hr:(Builtin.append_ #[t,t] o.type #[sv,xv]).run Tryz.prog w=.ok v' w') (h:K (a.put o.dst v') w'):if Region.wanted o (yielded ops a.tmps)=true then Oper.wp Tryz.prog o a w K Q else E:=by
 have hw:Region.wanted o (yielded ops a.tmps)=true:=by simp[Region.wanted,hgd]
 rw[if_pos hw];unfold Oper.wp execOp;simp only[ho,resolve,invoke,builtin,Sem.run_bind,Sem.run_pure,Result.andThen_ok,List.map_toArray,List.map_cons,List.map_nil,hs,hx,hr];exact h
open Go.ChangeShapes Go.WideShapes Go.Deep Go.RowKit
theorem own_cap {w:World}{B e sz n c:Nat}{a:Option Addr}{xs:List Value}(h:w.ownsRow B e sz (.slice a n c) n xs):n<=c:=by
 rcases h.2 with⟨hv,h0⟩|⟨g,cap,cur,hv,_,_,h3,_⟩
 ·omega
 ·simp only[Value.slice.injEq]at hv;omega
theorem Row0.out {w:World}{B:Nat}{v:Value}{n:Nat}{l:List Rl}(h:Row0 w B v n l):∃a c,v=.slice a n c/\SL kY 4 w w.heap.size a n l/\(a=none->n=0/\c=0)/\n<=c:=by
 rcases h with hown|⟨ad,rfl,rfl,rfl⟩
 ·obtain⟨a,c,rfl,h1,h2⟩:=SL.ofOwns rl_len (by decide) hown;exact⟨a,c,rfl,h1,h2,own_cap hown⟩
 ·exact⟨some ad,0,rfl,SL.nil _ _ _,(fun h=>by cases h),Nat.le_refl _⟩
theorem Row0.mono {w:World}{B B':Nat}{v:Value}{n:Nat}{l:List Rl}(h:Row0 w B v n l)(hB:B'<=B):Row0 w B' v n l:=by
 rcases h with h|h
 ·refine .inl ⟨h.1,?_⟩;rcases h.2 with hh|⟨g,cap,cur,hv,hb,r⟩
  ·exact .inl hh
  ·exact .inr ⟨g,cap,cur,hv,Nat.le_trans hB hb,r⟩
 ·exact .inr h
theorem Row0.set {w:World}{B Y:Nat}{v:Value}{n:Nat}{l:List Rl}(h:Row0 w B v n l)(hY:Y<B)(j:Nat)(x:Value):Row0 (w.setCell ⟨Y,j,none⟩ x) B v n l:=by
 rcases h with hown|h
 ·refine .inl (hown.kept (KP.step Y w j x) ?_);cases hv:v.ownBlock with
  |none=>exact .inl rfl
  |some g=>right;have:=(hown.lt g hv).1;simp;omega
 ·exact .inr h
structure Sy where
 name:List UInt8
 bind:Int
 sec:Int
 off:Int
structure Ms where
 sc:Sc
 ad:Option Addr
 cap:Nat
def mX (m:Ms):List Value:=[.string ⟨m.sc.name.toArray⟩,.int .i64 m.sc.kind,.bool m.sc.keep,.int .i64 m.sc.align,.string ⟨m.sc.data.toArray⟩,.slice m.ad m.sc.rels.length m.cap]
theorem ms_len (m:Ms):(mX m).length=6:=rfl
def iQ (w:World)(B:Nat)(L:List Ms):Prop:=∀m∈L,SL kY 4 w B m.ad m.sc.rels.length m.sc.rels
theorem iQ.next {w w':World}{L:List Ms}(h:iQ w w.heap.size L)(hb:Below w.heap.size w w'):iQ w' w'.heap.size L:=fun m hm=>(h m hm).next hb
structure Ob where
 secs:List Sc
 syms:List Sy
theorem zeroInt (w:World):(zeroValue 3).run Tryz.prog w=.ok (.int .i64 0) w:=by kernel_rfl
def pairS (p:ByteArray×Int):Value×Value:=(.string p.1,.int .i64 p.2)
def NM (w:World)(b:Nat)(l:List (ByteArray×Int)):Prop:=∃es clock,w.heap[b]?=some (.map es clock)/\es.toList.map (fun e=>(e.key,e.val))=l.map pairS
theorem NM.next {w w':World}{b:Nat}{l:List (ByteArray×Int)}(h:NM w b l)(hb:Below w.heap.size w w'):NM w' b l:=by
 obtain⟨es,clock,h1,h2⟩:=h;exact⟨es,clock,(hb.block b (lt_of_block h1)).trans h1,h2⟩
open Go.ChangeShapes Go.WideShapes Go.Deep Go.RowKit
theorem lT {w:World}{b off k:Nat}{m:Ms}(h:∀j,j<6->w.cell? ⟨b,off+k*6+j,none⟩=(mX m)[j]?):
  w.cell? ⟨b,off+k*6,none⟩=some (.string ⟨m.sc.name.toArray⟩)/\w.cell? ⟨b,off+k*6+1,none⟩=some (.int .i64 m.sc.kind)/\w.cell? ⟨b,off+k*6+2,none⟩=some (.bool m.sc.keep)/\w.cell? ⟨b,off+k*6+3,none⟩=some (.int .i64 m.sc.align)/\w.cell? ⟨b,off+k*6+4,none⟩=some (.string ⟨m.sc.data.toArray⟩)/\w.cell? ⟨b,off+k*6+5,none⟩=some (.slice m.ad m.sc.rels.length m.cap):=
 ⟨h 0 (by omega),h 1 (by omega),h 2 (by omega),h 3 (by omega),h 4 (by omega),h 5 (by omega)⟩
def sameRl (x y:Rl):Bool:=x.pos==y.pos&&(x.kind==y.kind&&(x.sym==y.sym&&x.add==y.add))
def bigS (x n y:Nat):Bool:=decide (5000 < x\/80 < n\/100 < y)
theorem rBig_any (N B:ByteArray)(k:Int)(kp:Bool)(al:Int)(a:Option Addr)(n c:Nat)(w:World):Calls Tryz.prog 52 #[.agg #[.string N,.int .i64 k,.bool kp,.int .i64 al,.string B,.slice a n c]] w (aP (.bool (bigS B.size n N.size)) w):=by
 have HX:RB (w.alloc (.cells #[.string N,.int .i64 k,.bool kp,.int .i64 al,.string B,.slice a n c] 97)) w.heap.size #[.string N,.int .i64 k,.bool kp,.int .i64 al,.string B,.slice a n c] 97:=(MapKept.heap_alloc w _).1;have HB1:Hid (Below w.heap.size w (w.alloc (.cells #[.string N,.int .i64 k,.bool kp,.int .i64 al,.string B,.slice a n c] 97))):=aH ((Below.refl _ w).alloc (Nat.le_refl _) _);have x0:(w.alloc (.cells #[.string N,.int .i64 k,.bool kp,.int .i64 al,.string B,.slice a n c] 97)).cell? ⟨w.heap.size,0,none⟩=some (.string N):=HX.cell;have x4:(w.alloc (.cells #[.string N,.int .i64 k,.bool kp,.int .i64 al,.string B,.slice a n c] 97)).cell? ⟨w.heap.size,4,none⟩=some (.string B):=HX.cell;have x5:(w.alloc (.cells #[.string N,.int .i64 k,.bool kp,.int .i64 al,.string B,.slice a n c] 97)).cell? ⟨w.heap.size,5,none⟩=some (.slice a n c):=HX.cell;clear HX;by_cases h1:5000<B.size
 ·have r1:(5000:Int)<(B.size:Int):=by omega
  have HR:Hid (bigS B.size n N.size=true):=aH (decide_eq_true (.inl h1));clear h1;go_enter Tryz.func52,Tryz.ntmps52;go_wp2;go_ret;exact aB HR.out.symm HB1.out
 ·have r1:¬(5000:Int)<(B.size:Int):=by omega
  by_cases h2:80<n
  ·have r2:(80:Int)<(n:Int):=by omega
   have HR:Hid (bigS B.size n N.size=true):=aH (decide_eq_true (.inr (.inl h2)));clear h1 h2;go_enter Tryz.func52,Tryz.ntmps52;go_wp2;go_ret;exact aB HR.out.symm HB1.out
  ·have r2:¬(80:Int)<(n:Int):=by omega
   by_cases h3:100<N.size
   ·have r3:(100:Int)<(N.size:Int):=by omega
    have HR:Hid (bigS B.size n N.size=true):=aH (decide_eq_true (.inr (.inr h3)));clear h1 h2 h3;go_enter Tryz.func52,Tryz.ntmps52;go_wp2;go_ret;exact aB HR.out.symm HB1.out
   ·have r3:¬(100:Int)<(N.size:Int):=by omega
    have HR:Hid (bigS B.size n N.size=false):=aH (decide_eq_false (by omega));clear h1 h2 h3;go_enter Tryz.func52,Tryz.ntmps52;go_wp2;go_ret;exact aB HR.out.symm HB1.out
open Go.ChangeShapes Go.WideShapes Go.Deep Go.RowKit
structure Grew (s t:Sc):Prop where
 was:jH s=true
 right:jH t=true
 good:fP t
 name:t.name=s.name
 kind:t.kind=s.kind
 keep:t.keep=s.keep
 align:s.align<=t.align
 data:∃x,t.data=s.data++x
 rels:∃q,t.rels=s.rels++q
def Grows (s:Sc)(x:Sc×Int):Prop:=x.2=0/\Grew s x.1\/x.2≠0/\x.1=scZ/\(jH s=false->x.2=1)
theorem Grows.good {s:Sc}{x:Sc×Int}(h:Grows s x):fP x.1:=by
 rcases h with⟨-,h⟩|⟨-,h,-⟩
 ·exact h.good
 ·rw[h];exact⟨by unfold maxLen;simp,by constructor<;>decide,by constructor<;>decide,by unfold maxLen;simp,by simp⟩
open Go.ChangeShapes Go.WideShapes Go.Deep Go.RowKit
theorem SecR.lit {s:Sc}{er:Int}{x:Sc×Int}{w w':World}{e:Ending}(h:SecR x w e w')(hx:x=(s,er)):∃a c,e=.returned (.tuple #[scV s a s.rels.length c,.int .i64 er])/\SL kY 4 w' w'.heap.size a s.rels.length s.rels/\(a=none->s.rels.length=0/\c=0)/\s.rels.length<=c/\Below w.heap.size w w':=by
 subst hx;obtain⟨a,c,rfl,h1,h2⟩:=h;obtain⟨a',c',he,h3,h4,h5⟩:=h1.out;cases he
 exact⟨_,_,rfl,h3,h4,h5,h2⟩
structure GoodB (N:ByteArray)(k al:Int)(B:ByteArray)(l:List Rl):Prop where
 name:N.size<=maxLen
 data:B.size<=maxLen
 rels:∀r∈l,jN r
 kind:cS k
 align:cS al
theorem GoodB.sc {N B:ByteArray}{k al:Int}{l:List Rl}(h:GoodB N k al B l)(kp:Bool):fP ⟨N.data.toList,k,kp,al,B.data.toList,l⟩:=
 ⟨by simpa using h.name,h.kind,h.align,by simpa using h.data,h.rels⟩
theorem fP.b {N B:ByteArray}{k al:Int}{kp:Bool}{l:List Rl}(h:fP ⟨N.data.toList,k,kp,al,B.data.toList,l⟩):GoodB N k al B l:=
 ⟨by simpa using h.name,by simpa using h.data,h.rels,h.kind,h.align⟩
end
end Go.Proofs.YtiohgaghmnpplaaGreatDoor
