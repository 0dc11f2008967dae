/- part, plain: what a right section is, and how it grows. part, plain: what grows is right. part: a section in a block; New. part: a section as an argument. part: covers. part: Is. strings.Builder, a variable of its own: copyCheck, WriteByte, WriteString, String. part: append to a slice that is empty, or of the call's own. part: grown. part: placed. part: Put. obj, plain: what a right object is; and maps keyed by names. obj: stands. obj: areSyms. obj: areSecs. obj: Is, Find. part: the reference's SameRels. part: the reference's Big and Same. part: the reference's Same. part, plain: whatever is put behind a section, it is right and begins as it was. The law's own grown: constants. What hands back a section, for the laws' walks. -/
import Derived.Test.YthkolmebokfagaaGreatDoorqE
import Derived.Test.YthkolmebokfagaaGreatDoorqH
import Derived.Deep.RegionHeld3
import Derived.BigQuiet
import Derived.Test.YthkolmebokfagaaGreatDoorqF
import Derived.RegionTactic
import Derived.ChangeAlike
import Derived.Lib.Builder
import Derived.Lib.AppendStr
import Derived.Lib.UnsafeStr
import Derived.Lib.OthersKept
import Derived.Laws.Externs
import Derived.Laws.AppendOwnNone
import Derived.Laws.OwnMore
import Derived.Deep.RegionLaw
import Derived.Maps.Own
import Derived.Maps.OwnOps
import Derived.Maps.Keyed
import Derived.Carry
import Derived.StringKeys
import Derived.Deep.QuietTactic
set_option maxRecDepth 100000
set_option maxHeartbeats 8000000
set_option linter.unusedVariables false
set_option linter.unusedSimpArgs false
namespace Go.Proofs.YthkolmebokfagaaGreatDoor
open Go.RowKit
open Go.ChangeShapes Go.WideShapes Go.Deep Go.RowKit
structure Rl where
 pos:Int
 kind:Int
 sym:Int
 add:Int
def rlC (r:Rl):List Value:=[.int .i64 r.pos,.int .i64 r.kind,.int .i64 r.sym,.int .i64 r.add]
theorem rl_len (r:Rl):(rlC r).length=4:=rfl
theorem rl_one (r:Rl):∀ u ∈ rlC r,u.oneCell'=true:=by
 intro u hu
 simp only [rlC,List.mem_cons,List.mem_nil_iff,or_false] at hu
 rcases hu with rfl | rfl | rfl | rfl <;> rfl
def GoodRl (r:Rl):Prop:=i64ok r.pos/\i64ok r.kind/\i64ok r.sym/\i64ok r.add
structure Sc where
 name:List UInt8
 kind:Int
 keep:Bool
 align:Int
 data:List UInt8
 rels:List Rl
structure GoodSc (s:Sc):Prop where
 name:s.name.length<=maxLen
 kind:i64ok s.kind
 align:i64ok s.align
 data:s.data.length<=maxLen
 rels:∀ r ∈ s.rels,GoodRl r
abbrev scZ:Sc:=⟨[],0,false,0,[],[]⟩
abbrev scV (s:Sc) (a:Option Addr) (n c:Nat):Value:=.agg #[.string ⟨s.name.toArray⟩,.int .i64 s.kind,.bool s.keep,.int .i64 s.align,.string ⟨s.data.toArray⟩,.slice a n c]
def szR (k:Int):Int:=if k=1 then 8 else 4
theorem szR_two (k:Int):szR k=8/\k=1\/szR k=4/\k ≠ 1:=by
 unfold szR
 by_cases h:k=1
 ·exact .inl ⟨if_pos h,h⟩
 ·exact .inr ⟨if_neg h,h⟩
abbrev nulB (n:Nat):List UInt8:=List.replicate n 0
def covR (kind:Int) (d:List UInt8) (r:Rl):Bool:=
 if r.kind=1 then (d.drop r.pos.toNat).take 8 == nulB 8 else kind == 1 && (r.pos % 4 == 0 && fitsI r.kind (readW (leV ((d.drop r.pos.toNat).take 4))))
def badR (kind:Int) (d:List UInt8) (e:Int) (r:Rl):Prop:=r.pos < e\/(d.length:Int) - szR r.kind < r.pos\/r.sym < 0\/covR kind d r=false
instance (kind:Int) (d:List UInt8) (e:Int) (r:Rl):Decidable (badR kind d e r):=by unfold badR;infer_instance
def relsR (kind:Int) (d:List UInt8):Int->List Rl->Bool
 | _,[]=>true
 | e,r :: t=>if badR kind d e r then false else relsR kind d (r.pos+szR r.kind) t
def headR (s:Sc):Bool:=isNmL s.name && decide (1<=s.kind) && decide (s.kind<=3) && decide (0<=s.align) && decide (s.align<=12) && decide (s.data.length<=4096) && decide (s.rels.length<=64)
def secR (s:Sc):Bool:=headR s && relsR s.kind s.data 0 s.rels
open Go.ChangeShapes Go.WideShapes Go.Deep Go.RowKit
theorem head_iff {s:Sc}:headR s=true ↔ isNmL s.name=true/\1<=s.kind/\s.kind<=3/\0<=s.align/\s.align<=12/\s.data.length<=4096/\s.rels.length<=64:=by
 unfold headR
 simp only [Bool.and_eq_true,decide_eq_true_eq,and_assoc]
theorem sec_iff {s:Sc}:secR s=true ↔ headR s=true/\relsR s.kind s.data 0 s.rels=true:=by
 unfold secR;rw [Bool.and_eq_true]
open Go.ChangeShapes Go.WideShapes Go.Deep Go.RowKit
def TabP (w:World):Prop:=Tab7 w/\TabO w
theorem TabP.next {w w':World} (h:TabP w) (hb:Below w.heap.size w w'):TabP w':=⟨Tab7.below h.1 hb,h.2.next hb⟩
section
variable {P:Program}
theorem results_cell_two {fn:Func} {p q:Tmp} {ty:TypeId} (h:fn.results=#[.cell p ty,.tmp q]) (tmps:Array Value) (w:World) (g:Nat) (t:TypeId) (cs:Array Value) (fr:Nat × Nat) (d:TypeDesc) (x:Value)
  (hp:tmps.getD p undef=.pointer (some ⟨g,0,none⟩)) (hg:w.heap[g]?=some (.cells cs t fr))
  (hu:P.underlying ty=some d) (hd:(match d with | .struct _ | .array _ _=>true | _=>false)=true) (hi:(P.info? ty).map (·.size)=some cs.size) (hx:tmps.getD q undef=x):
  (results fn tmps).run P w=.ok (.tuple #[.agg cs,x]) w:=by
 have hp':tmps[p]?.getD undef=.pointer (some ⟨g,0,none⟩):=by simpa using hp
 have hx':tmps[q]?.getD undef=x:=by simpa using hx
 simp [results,h,hp',hx',asAddr,run_loadVar_row w g t ty cs fr d hg hu hd hi]
end
abbrev scA (s:Sc) (a:Option Addr) (n c:Nat):Array Value:=#[.string ⟨s.name.toArray⟩,.int .i64 s.kind,.bool s.keep,.int .i64 s.align,.string ⟨s.data.toArray⟩,.slice a n c]
abbrev sset (u:World) (X:Nat) (s:Sc) (a:Option Addr) (n c:Nat):World:=
 ((((((u.setCell ⟨X,0,none⟩ (.string ⟨s.name.toArray⟩)).setCell ⟨X,1,none⟩ (.int .i64 s.kind)).setCell ⟨X,2,none⟩ (.bool s.keep)).setCell ⟨X,3,none⟩ (.int .i64 s.align)).setCell ⟨X,4,none⟩ (.string ⟨s.data.toArray⟩)).setCell ⟨X,5,none⟩ (.slice a n c))
theorem sset_heap {u:World} {X:Nat} {s':Sc} {a':Option Addr} {n' c':Nat} (h:RB u X (scA s' a' n' c') 57) (s:Sc) (a:Option Addr) (n c:Nat):RB (sset u X s a n c) X (scA s a n c) 57:=by
 have h0:RB (u.setCell ⟨X,0,none⟩ (.string ⟨s.name.toArray⟩)) X #[.string ⟨s.name.toArray⟩,.int .i64 s'.kind,.bool s'.keep,.int .i64 s'.align,.string ⟨s'.data.toArray⟩,.slice a' n' c'] 57:=h.set (j:=0) _
 have h1:RB ((u.setCell ⟨X,0,none⟩ (.string ⟨s.name.toArray⟩)).setCell ⟨X,1,none⟩ (.int .i64 s.kind)) X #[.string ⟨s.name.toArray⟩,.int .i64 s.kind,.bool s'.keep,.int .i64 s'.align,.string ⟨s'.data.toArray⟩,.slice a' n' c'] 57:=h0.set (j:=1) _
 have h2:RB (((u.setCell ⟨X,0,none⟩ (.string ⟨s.name.toArray⟩)).setCell ⟨X,1,none⟩ (.int .i64 s.kind)).setCell ⟨X,2,none⟩ (.bool s.keep)) X #[.string ⟨s.name.toArray⟩,.int .i64 s.kind,.bool s.keep,.int .i64 s'.align,.string ⟨s'.data.toArray⟩,.slice a' n' c'] 57:=h1.set (j:=2) _
 have h3:RB ((((u.setCell ⟨X,0,none⟩ (.string ⟨s.name.toArray⟩)).setCell ⟨X,1,none⟩ (.int .i64 s.kind)).setCell ⟨X,2,none⟩ (.bool s.keep)).setCell ⟨X,3,none⟩ (.int .i64 s.align)) X #[.string ⟨s.name.toArray⟩,.int .i64 s.kind,.bool s.keep,.int .i64 s.align,.string ⟨s'.data.toArray⟩,.slice a' n' c'] 57:=h2.set (j:=3) _
 have h4:RB (((((u.setCell ⟨X,0,none⟩ (.string ⟨s.name.toArray⟩)).setCell ⟨X,1,none⟩ (.int .i64 s.kind)).setCell ⟨X,2,none⟩ (.bool s.keep)).setCell ⟨X,3,none⟩ (.int .i64 s.align)).setCell ⟨X,4,none⟩ (.string ⟨s.data.toArray⟩)) X #[.string ⟨s.name.toArray⟩,.int .i64 s.kind,.bool s.keep,.int .i64 s.align,.string ⟨s.data.toArray⟩,.slice a' n' c'] 57:=h3.set (j:=4) _
 have h5:RB ((((((u.setCell ⟨X,0,none⟩ (.string ⟨s.name.toArray⟩)).setCell ⟨X,1,none⟩ (.int .i64 s.kind)).setCell ⟨X,2,none⟩ (.bool s.keep)).setCell ⟨X,3,none⟩ (.int .i64 s.align)).setCell ⟨X,4,none⟩ (.string ⟨s.data.toArray⟩)).setCell ⟨X,5,none⟩ (.slice a n c)) X #[.string ⟨s.name.toArray⟩,.int .i64 s.kind,.bool s.keep,.int .i64 s.align,.string ⟨s.data.toArray⟩,.slice a n c] 57:=h4.set (j:=5) _
 exact h5
theorem sset_below {w u:World} {X B:Nat} (h:Below B w u) (hX:B<=X) (s:Sc) (a:Option Addr) (n c:Nat):Below B w (sset u X s a n c):=
 ((((((h).setCell (p:=⟨X,0,none⟩) hX _).setCell (p:=⟨X,1,none⟩) hX _).setCell (p:=⟨X,2,none⟩) hX _).setCell (p:=⟨X,3,none⟩) hX _).setCell (p:=⟨X,4,none⟩) hX _).setCell (p:=⟨X,5,none⟩) hX _
theorem RB.six {u:World} {X:Nat} {s:Sc} {a:Option Addr} {n c:Nat} (h:RB u X (scA s a n c) 57):
  u.cell? ⟨X,0,none⟩=some (.string ⟨s.name.toArray⟩)/\u.cell? ⟨X,1,none⟩=some (.int .i64 s.kind)/\u.cell? ⟨X,2,none⟩=some (.bool s.keep)/\u.cell? ⟨X,3,none⟩=some (.int .i64 s.align)/\u.cell? ⟨X,4,none⟩=some (.string ⟨s.data.toArray⟩)/\u.cell? ⟨X,5,none⟩=some (.slice a n c)/\(∀ j,u.frozen? ⟨X,j,none⟩=false)/\X < u.heap.size:=
 ⟨h.cell,h.cell,h.cell,h.cell,h.cell,h.cell,fun j=>h.frozen,lt_of_block h⟩
def Row0 (w:World) (B:Nat) (v:Value) (n:Nat) (l:List Rl):Prop:=w.ownsRow B 82 4 v n (l.flatMap rlC)\/∃ ad,v=.slice (some ad) 0 0/\n=0/\l=[]
def SecR (x:Sc × Int) (w:World) (e:Ending) (w':World):Prop:=
 ∃ a c,e=.returned (.tuple #[scV x.1 a x.1.rels.length c,.int .i64 x.2])/\Row0 w' w.heap.size (.slice a x.1.rels.length c) x.1.rels.length x.1.rels/\Below w.heap.size w w'
theorem SecR.bare {s:Sc} {er:Int} {x:Sc × Int} {w w':World} (hx:x=(s,er)) (hr:s.rels=[]) (hb:Below w.heap.size w w'):SecR x w (.returned (.tuple #[scV s none 0 0,.int .i64 er])) w':=by
 subst hx
 refine ⟨none,0,?_,.inl ?_,hb⟩
 ·show _=Ending.returned (.tuple #[scV s none s.rels.length 0,.int .i64 er])
  rw [hr];rfl
 ·show w'.ownsRow _ _ 4 (.slice none s.rels.length 0) s.rels.length (s.rels.flatMap rlC)
  rw [hr];exact World.ownsRow_nil _ _ _ _
section
variable {α:Type} {enc:α->List Value} {sz:Nat}
theorem open_SL3 {H:Type} {encH:TypeId × Value->H} {P:Program} {W:World} {u:Value} {fuel:Nat} {d:DataW H × List MemPlace} {t e:TypeId} {fs:Array Field} (good:α->Prop) (dummy:α)
  (ht:P.underlying t=some (.slice e)) (he:P.underlying e=some (.struct fs)) (hone:oneCellFields P fs=true) (hC:P.cellsOf e=fs.size) (hfs:fs.size=sz) (h0:0 < sz)
  (henc:∀ x,(enc x).length=sz)
  (hel:∀ (cell:Nat->Option Value) (m:Nat),(∀ (j:Nat) (f:Field),fs[j]?=some f->∃ (u:Value) (y:DataW H × List MemPlace),cell j=some u/\DataW.trod encH P W 0 (fun _=>true) true m f.type [u]=some y)->∃ x:α,good x/\∀ j,j < sz->cell j=(enc x)[j]?)
  (hf:DataW.trod encH P W 0 (fun _=>true) true fuel t [u]=some d):
  ∃ (a:Option Addr) (n c:Nat) (l:List α),u=.slice a n c/\n<=maxLen/\(∀ x ∈ l,good x)/\SL enc sz W W.heap.size a n l/\(a=none->n=0/\c=0)/\n<=c/\∀ R bt:Nat,(∀ el sp,d.1=.slice el sp->(el.length+sp.length)*bt<=R)->n*bt<=R:=by
 rcases open_slice_fields ht he hone hC hf with ⟨hcs,hx⟩ | ⟨a,len,cap,m,D,Pl,hcs,hb,hl,hm,hmm,hx,hi⟩
 ·simp only [List.cons.injEq,and_true] at hcs
  subst hcs
  exact ⟨none,0,0,[],rfl,by unfold maxLen;omega,by simp,SL.nil _ _ _,fun _=>⟨rfl,rfl⟩,Nat.le_refl _,by intro R bt _;omega⟩
 ·simp only [List.cons.injEq,and_true] at hcs
  subst hcs
  have hlm:len<=m:=by split at hmm <;> omega
  have hc:∀ i,i < len->∃ x:α,good x/\∀ j,j < sz->W.cell? (a.add (i*sz+j))=(enc x)[j]?:=by
   intro i hi'
   obtain ⟨ys,k,-,-,-,hfs'⟩:=hi i (by omega)
   exact hel (fun j=>W.cell? (a.add (i*sz+j))) k (fun j f hj=>by obtain ⟨u,y,c1,_,c2⟩:=hfs' j f hj;rw [hfs] at c1;exact ⟨u,y,c1,c2⟩)
  have hall:∃ g:Nat->α,∀ i,i < len->good (g i)/\∀ j,j < sz->W.cell? (a.add (i*sz+j))=(enc (g i))[j]?:=
   ⟨fun i=>if h:i < len then Classical.choose (hc i h) else dummy,fun i h=>by simp only [h,dite_true];exact Classical.choose_spec (hc i h)⟩
  obtain ⟨g,hg⟩:=hall
  refine ⟨some a,len,cap,(List.range len).map g,rfl,by omega,?_,⟨by simp,?_⟩,by simp,hl,fun R bt hR=>?_⟩
  rotate_left 2
  ·have:=hR _ _ (by rw [hx])
   simp only [List.length_map,List.length_range] at this
   exact Nat.le_trans (Nat.mul_le_mul_right _ (Nat.le_add_right _ _)) this
  ·intro f hf
   obtain ⟨i,hi2,rfl⟩:=List.mem_map.1 hf
   exact (hg i (by simpa using hi2)).1
  ·intro hne
   have hlen:0 < len:=by
    rcases Nat.eq_zero_or_pos len with h | h
    ·subst h;simp at hne
    ·exact h
   have h00:=(hg 0 hlen).2 0 h0
   have hsome:∃ u,W.cell? (a.add (0*sz+0))=some u:=by
    rw [h00];exact ⟨_,List.getElem?_eq_getElem (by rw [henc];exact h0)⟩
   obtain ⟨u,hu⟩:=hsome
   have ea:a.add (0*sz+0)=a:=by simp [Addr.add]
   rw [ea] at hu
   have hal:a.block < W.heap.size:=cell_lt hu
   obtain ⟨b,off,el⟩:=a
   have hel':el=none:=cell_spot hu
   subst hel'
   refine ⟨b,off,rfl,hal,fun k hk j hj=>?_⟩
   have hk':k < len:=by simpa using hk
   have:=(hg k hk').2 j hj
   rw [add_none] at this
   simpa only [Nat.add_assoc,List.getElem_map,List.getElem_range] using this
end
theorem open_cells {H:Type} {encH:TypeId × Value->H} {P:Program} {W:World} {base:Nat} {spare:Nat->Bool} {held:Bool} {v:Value} {d:DataW H} {p:List MemPlace} {t:TypeId} {fs:Array Field}
  (ht:P.underlying t=some (.struct fs)) (hone:oneCellFields P fs=true) (hC:P.cellsOf t=fs.size) (hv:Value.okWide P W .any base t v) (h:DataW.Trod encH P W 0 spare held t v d p):
  ∃ (cs:Array Value) (n:Nat),v=.agg cs/\cs.size=fs.size/\∀ (j:Nat) (f:Field),fs[j]?=some f->∃ (u:Value) (y:DataW H × List MemPlace),cs[j]?=some u/\DataW.trod encH P W 0 spare held n f.type [u]=some y:=by
 obtain ⟨cs,rfl,hsz⟩:=okWide_struct ht hv
 obtain ⟨fuel,hf⟩:=h
 obtain ⟨ys,n,_,_,hlen,hyl,hfs⟩:=DataW.trod_struct ht hf
 refine ⟨cs,n,rfl,hsz.trans hC,fun j f hj=>?_⟩
 obtain ⟨ho,hk⟩:=hone_of hone j f hj
 have hjl:j < fs.size:=(Array.getElem?_eq_some_iff.1 hj).1
 have hjc:j < cs.size:=by rw [hsz,hC];exact hjl
 have h1:=hfs j f hj
 rw [ho,hk] at h1
 have e1:((Value.cells (.agg cs)).toList.drop j).take 1=[cs[j]]:=by
  show (cs.toList.drop j).take 1=_
  rw [List.drop_eq_getElem_cons (by simpa using hjc)]
  rfl
 rw [e1] at h1
 have hys:ys[j]?=some (ys[j]'(by omega)):=List.getElem?_eq_getElem (by omega)
 exact ⟨cs[j],ys[j]'(by omega),Array.getElem?_eq_getElem hjc,h1.trans hys⟩
open Go.ChangeShapes Go.WideShapes Go.Deep Go.RowKit
theorem repL_list (l:List UInt8):∀ n,Lib.repeatL l n=(List.replicate n l).flatten:=by
 intro n
 induction n with
 | zero=>rfl
 | succ n ih=>first | (rw [Lib.repeatL,ih];rfl) | (simp [Lib.repeatL,List.replicate_succ])
theorem nul_rep (n:Nat):(List.replicate n [(0:UInt8)]).flatten=nulB n:=by
 induction n with
 | zero=>rfl
 | succ n ih=>rw [List.replicate_succ,List.flatten_cons,ih];rfl
theorem Rep_nul (n:Nat) (hn:n<=100000) (w:World):Calls Tryz.prog 115 #[.string ⟨#[0]⟩,.int .i64 (n:Int)] w (RetB (.string ⟨(nulB n).toArray⟩) w):=by
 refine (Tryz.strings_Repeat ⟨#[0]⟩ n w (by omega) (by show 1*n<=_;omega)).mono ?_
 rintro e w' ⟨rfl,hb⟩
 refine ⟨?_,hb⟩
 rw [show (⟨#[0]⟩:ByteArray).data.toList=[0] from rfl,repL_list,nul_rep]
abbrev rlA (r:Rl):Array Value:=#[.int .i64 r.pos,.int .i64 r.kind,.int .i64 r.sym,.int .i64 r.add]
theorem two_rb {w:World} {A B:Array Value} {T U:TypeId}:RB ((w.alloc (.cells A T)).alloc (.cells B U)) w.heap.size A T/\RB ((w.alloc (.cells A T)).alloc (.cells B U)) (w.heap.size+1) B U/\Below w.heap.size w ((w.alloc (.cells A T)).alloc (.cells B U)):=by
 have s1:(w.alloc (.cells A T)).heap.size=w.heap.size+1:=World.size_alloc _ _
 refine ⟨?_,?_,((Below.refl _ w).alloc (Nat.le_refl _) _).alloc (by rw [s1];omega) _⟩
 ·exact (Below.heap_alloc _ _ _ (by rw [s1];omega)).trans (MapKept.heap_alloc _ _).1
 ·unfold RB;rw [<-s1];exact (MapKept.heap_alloc _ _).1
theorem cov_abs (N B D:ByteArray) (k:Int) (kp:Bool) (al:Int) (a:Option Addr) (n c p:Nat) (sy ad:Int) (hD:B.extract p (p+8)=D) (hp:p+8<=B.size) (hB:B.size<=4096) (w:World):
  Calls Tryz.prog 100 #[.agg #[.string N,.int .i64 k,.bool kp,.int .i64 al,.string B,.slice a n c],.agg #[.int .i64 (p:Int),.int .i64 1,.int .i64 sy,.int .i64 ad]] w (RetB (.bool (D.data.toList == nulB 8)) w):=by
 obtain ⟨q,hq⟩:∃ q,q=p+8:=⟨_,rfl⟩
 rw [<-hq] at hD
 have hwq:IntKind.i64.wrap ((p:Int)+8)=(q:Int):=by rw [IntKind.wrap_i64];omega
 have b0:(0:Int)<=(p:Int):=by omega
 have b1:(p:Int)<=(q:Int):=by omega
 have b2:(q:Int)<=(B.size:Int):=by omega
 have HR:Hid (∀ u,Calls Tryz.prog 115 #[.string ⟨#[0]⟩,.int .i64 8] u (RetB (.string ⟨(nulB 8).toArray⟩) u)):=Lib.hid (fun u=>Rep_nul 8 (by decide) u)
 have HW:=Lib.hid (two_rb (w:=w) (A:=#[.string N,.int .i64 k,.bool kp,.int .i64 al,.string B,.slice a n c]) (B:=#[.int .i64 (p:Int),.int .i64 1,.int .i64 sy,.int .i64 ad]) (T:=57) (U:=82))
 obtain ⟨X,hX⟩:∃ X,X=w.heap.size:=⟨_,rfl⟩
 rw [<-hX] at HW
 clear hq hp hB
 go_enter Tryz.func100,Tryz.ntmps100
 go_wp2_with fail
 rw [<-hX]
 have HXE:=Lib.hid hX
 clear hX
 generalize (w.alloc (.cells #[.string N,.int .i64 k,.bool kp,.int .i64 al,.string B,.slice a n c] 57)).alloc (.cells #[.int .i64 (p:Int),.int .i64 1,.int .i64 sy,.int .i64 ad] 82)=W at HW ⊢
 have c4:W.cell? ⟨X,4,none⟩=some (.string B):=HW.out.1.cell
 have c0:W.cell? ⟨X+1,0,none⟩=some (.int .i64 (p:Int)):=HW.out.2.1.cell
 (go_region_held3 (fun w'=>w'.cell? ⟨X,4,none⟩=some (.string B)/\w'.cell? ⟨X+1,0,none⟩=some (.int .i64 (p:Int))) (go_keep) ((first
   | (go_at_call 115;refine (HR.out _).mono ?_;rintro e u ⟨rfl,hb⟩;have hb':=((Below.refl W.heap.size W).drew).trans hb;have s0:u.cell? ⟨X,4,none⟩=some (.string B):=(HW.out.1.next hb').cell;have s1:u.cell? ⟨X+1,0,none⟩=some (.int .i64 (p:Int)):=(HW.out.2.1.next hb').cell)
   | fail)))
 go_wp2
 go_ret
 refine retB_bool ?_ (by rw [HXE.out] at HW;exact after HW.out.2.2 hb')
 show (D.toList == (⟨Array.replicate 8 0⟩:ByteArray).toList)=_
 rw [ByteArray.toList_eq,ByteArray.toList_eq]
 rfl
theorem cov_sec (N B:ByteArray) (k:Int) (kp:Bool) (al:Int) (a:Option Addr) (n c p:Nat) (kk sy ad:Int) (rk:(kk == 1)=false) (r1:(k == 1)=false) (w:World):Calls Tryz.prog 100 #[.agg #[.string N,.int .i64 k,.bool kp,.int .i64 al,.string B,.slice a n c],.agg #[.int .i64 (p:Int),.int .i64 kk,.int .i64 sy,.int .i64 ad]] w (RetB (.bool false) w):=by
 have HW:=Lib.hid (two_rb (w:=w) (A:=#[.string N,.int .i64 k,.bool kp,.int .i64 al,.string B,.slice a n c]) (B:=#[.int .i64 (p:Int),.int .i64 kk,.int .i64 sy,.int .i64 ad]) (T:=57) (U:=82))
 obtain ⟨X,hX⟩:∃ X,X=w.heap.size:=⟨_,rfl⟩
 rw [<-hX] at HW
 go_enter Tryz.func100,Tryz.ntmps100
 go_wp2_with fail
 rw [<-hX]
 have HXE:=Lib.hid hX
 clear hX
 generalize (w.alloc (.cells #[.string N,.int .i64 k,.bool kp,.int .i64 al,.string B,.slice a n c] 57)).alloc (.cells #[.int .i64 (p:Int),.int .i64 kk,.int .i64 sy,.int .i64 ad] 82)=W at HW ⊢
 have c4:W.cell? ⟨X,4,none⟩=some (.string B):=HW.out.1.cell
 have c1:W.cell? ⟨X,1,none⟩=some (.int .i64 k):=HW.out.1.cell
 have c0:W.cell? ⟨X+1,0,none⟩=some (.int .i64 (p:Int)):=HW.out.2.1.cell
 have e1:W.cell? ⟨X+1,1,none⟩=some (.int .i64 kk):=HW.out.2.1.cell
 clear c4 c0 e1
 go_quiet (fail)
 go_wp2
 go_ret
 exact ⟨rfl,by rw [HXE.out] at HW;exact below_drewN HW.out.2.2 nq⟩
theorem cov_odd (N B:ByteArray) (k:Int) (kp:Bool) (al:Int) (a:Option Addr) (n c p:Nat) (kk sy ad:Int) (rk:(kk == 1)=false) (r1:(k == 1)=true) (b0:(0:Int)<=(p:Int)) (t1:((p:Int).tmod 4 == 0)=false) (t2:((p:Int) % 4 == 0)=false) (w:World):Calls Tryz.prog 100 #[.agg #[.string N,.int .i64 k,.bool kp,.int .i64 al,.string B,.slice a n c],.agg #[.int .i64 (p:Int),.int .i64 kk,.int .i64 sy,.int .i64 ad]] w (RetB (.bool false) w):=by
 have HW:=Lib.hid (two_rb (w:=w) (A:=#[.string N,.int .i64 k,.bool kp,.int .i64 al,.string B,.slice a n c]) (B:=#[.int .i64 (p:Int),.int .i64 kk,.int .i64 sy,.int .i64 ad]) (T:=57) (U:=82))
 obtain ⟨X,hX⟩:∃ X,X=w.heap.size:=⟨_,rfl⟩
 rw [<-hX] at HW
 go_enter Tryz.func100,Tryz.ntmps100
 go_wp2_with fail
 rw [<-hX]
 have HXE:=Lib.hid hX
 clear hX
 generalize (w.alloc (.cells #[.string N,.int .i64 k,.bool kp,.int .i64 al,.string B,.slice a n c] 57)).alloc (.cells #[.int .i64 (p:Int),.int .i64 kk,.int .i64 sy,.int .i64 ad] 82)=W at HW ⊢
 have c4:W.cell? ⟨X,4,none⟩=some (.string B):=HW.out.1.cell
 have c1:W.cell? ⟨X,1,none⟩=some (.int .i64 k):=HW.out.1.cell
 have c0:W.cell? ⟨X+1,0,none⟩=some (.int .i64 (p:Int)):=HW.out.2.1.cell
 have e1:W.cell? ⟨X+1,1,none⟩=some (.int .i64 kk):=HW.out.2.1.cell
 clear c4 e1
 go_quiet (fail)
 go_wp2
 go_ret
 exact ⟨rfl,by rw [HXE.out] at HW;exact below_drewN HW.out.2.2 nq⟩
theorem cov_fits (N B:ByteArray) (k:Int) (kp:Bool) (al:Int) (a:Option Addr) (n c p:Nat) (kk sy ad:Int) (rk:(kk == 1)=false) (hkk:i64ok kk) (r1:(k == 1)=true) (t1:((p:Int).tmod 4 == 0)=true) (t2:((p:Int) % 4 == 0)=true) (D:ByteArray) (hD:B.extract p (p+4)=D) (hp:p+4<=B.size) (hB:B.size<=4096) (hDs:D.size=4) (w:World) (hT:TabP w):Calls Tryz.prog 100 #[.agg #[.string N,.int .i64 k,.bool kp,.int .i64 al,.string B,.slice a n c],.agg #[.int .i64 (p:Int),.int .i64 kk,.int .i64 sy,.int .i64 ad]] w (RetB (.bool (fitsI kk (readW (leV D.data.toList)))) w):=by
 obtain ⟨q,hq⟩:∃ q,q=p+4:=⟨_,rfl⟩
 rw [<-hq] at hD
 have hwq:IntKind.i64.wrap ((p:Int)+4)=(q:Int):=by rw [IntKind.wrap_i64];omega
 have b0:(0:Int)<=(p:Int):=by omega
 have b1:(p:Int)<=(q:Int):=by omega
 have b2:(q:Int)<=(B.size:Int):=by omega
 have hv:=leV_lt D.data.toList
 rw [show D.data.toList.length=4 by rw [Array.length_toList];exact hDs] at hv
 have HN:=Lib.hid (fun u=>fnumber_any D u (by omega))
 have HF:=Lib.hid (fun u (hu:TabP u)=>Fits_any kk (leV D.data.toList) u hkk.1 hkk.2 (by omega) hu.1)
 generalize leV D.data.toList=v at*
 have hwv:IntKind.u32.wrap (v:Int)=(v:Int):=by rw [IntKind.wrap_u32];omega
 have HT:=Lib.hid hT
 clear hq hp hB hDs hv hT hkk
 have HW:=Lib.hid (two_rb (w:=w) (A:=#[.string N,.int .i64 k,.bool kp,.int .i64 al,.string B,.slice a n c]) (B:=#[.int .i64 (p:Int),.int .i64 kk,.int .i64 sy,.int .i64 ad]) (T:=57) (U:=82))
 obtain ⟨X,hX⟩:∃ X,X=w.heap.size:=⟨_,rfl⟩
 rw [<-hX] at HW
 go_enter Tryz.func100,Tryz.ntmps100
 go_wp2_with fail
 rw [<-hX]
 have HXE:=Lib.hid hX
 clear hX
 generalize (w.alloc (.cells #[.string N,.int .i64 k,.bool kp,.int .i64 al,.string B,.slice a n c] 57)).alloc (.cells #[.int .i64 (p:Int),.int .i64 kk,.int .i64 sy,.int .i64 ad] 82)=W at HW ⊢
 have c4:W.cell? ⟨X,4,none⟩=some (.string B):=HW.out.1.cell
 have c1:W.cell? ⟨X,1,none⟩=some (.int .i64 k):=HW.out.1.cell
 have c0:W.cell? ⟨X+1,0,none⟩=some (.int .i64 (p:Int)):=HW.out.2.1.cell
 have e1:W.cell? ⟨X+1,1,none⟩=some (.int .i64 kk):=HW.out.2.1.cell
 have HB:=Lib.hid HW.out.2.2
 rw [HXE.out] at HB
 first | (go_region_held3 (fun w'=>w'.cell? ⟨X,4,none⟩=some (.string B)/\w'.cell? ⟨X,1,none⟩=some (.int .i64 k)/\w'.cell? ⟨X+1,0,none⟩=some (.int .i64 (p:Int))/\w'.cell? ⟨X+1,1,none⟩=some (.int .i64 kk)) (go_keep) ((first
  | (go_at_call 117;refine (HN.out _).mono ?_;rintro e u ⟨rfl,rfl⟩)
  | (go_at_call 116;refine (HF.out _ (HT.out.next (HB.out.trans (((Below.refl W.heap.size W).drew).mono HB.out.size)))).mono ?_;rintro e u ⟨rfl,hb⟩;have hb':=((Below.refl W.heap.size W).drew).trans hb;have s0:u.cell? ⟨X,4,none⟩=some (.string B):=(HW.out.1.next hb').cell;have s1:u.cell? ⟨X,1,none⟩=some (.int .i64 k):=(HW.out.1.next hb').cell;have s2:u.cell? ⟨X+1,0,none⟩=some (.int .i64 (p:Int)):=(HW.out.2.1.next hb').cell;have s3:u.cell? ⟨X+1,1,none⟩=some (.int .i64 kk):=(HW.out.2.1.next hb').cell)
  | fail))) | fail
 go_wp2
 go_ret
 exact ⟨rfl,after HB.out hb'⟩
open Go.ChangeShapes Go.WideShapes Go.Deep Go.RowKit
theorem rl_cells {w:World} {b off:Nat} {k:Nat} {t:Rl} (hc:∀ j,j < 4->w.cell? ⟨b,off+k*4+j,none⟩=(rlC t)[j]?):
  w.cell? ⟨b,off+k*4,none⟩=some (.int .i64 t.pos)/\w.cell? ⟨b,off+k*4+1,none⟩=some (.int .i64 t.kind)/\w.cell? ⟨b,off+k*4+2,none⟩=some (.int .i64 t.sym)/\w.cell? ⟨b,off+k*4+3,none⟩=some (.int .i64 t.add):=
 ⟨hc 0 (by omega),hc 1 (by omega),hc 2 (by omega),hc 3 (by omega)⟩
theorem cov_any (N B:ByteArray) (k:Int) (kp:Bool) (al:Int) (a:Option Addr) (n c:Nat) (r:Rl) (hr:GoodRl r) (h0:0<=r.pos) (h1:r.pos<=(B.size:Int) - szR r.kind) (hB:B.size<=4096) (w:World) (hT:TabP w):
  Calls Tryz.prog 100 #[.agg #[.string N,.int .i64 k,.bool kp,.int .i64 al,.string B,.slice a n c],.agg #[.int .i64 r.pos,.int .i64 r.kind,.int .i64 r.sym,.int .i64 r.add]] w (RetB (.bool (covR k B.data.toList r)) w):=by
 obtain ⟨pos,kk,sy,ad⟩:=r
 simp only at h0 h1
 obtain ⟨p,rfl⟩:∃ p:Nat,pos=p:=⟨pos.toNat,by omega⟩
 have hlen:B.data.toList.length=B.size:=by simp
 have hex:∀ q,(B.extract p q).data.toList=(B.data.toList.drop p).take (q - p):=fun q=>by
  rw [ByteArray.data_extract,Array.toList_extract]
 unfold covR
 simp only [Int.toNat_natCast]
 rcases szR_two kk with ⟨e,rfl⟩ | ⟨e,hk⟩
 ·rw [e] at h1
  rw [if_pos rfl]
  have:=cov_abs N B _ k kp al a n c p sy ad rfl (by omega) hB w
  rw [hex,show p+8 - p=8 by omega] at this
  exact this
 ·rw [e] at h1
  rw [if_neg hk]
  have rk:(kk == 1)=false:=by rw [beq_eq_false_iff_ne];exact hk
  cases r1:(k == 1)
  ·rw [Bool.false_and]
   exact cov_sec N B k kp al a n c p kk sy ad rk r1 w
  ·rw [Bool.true_and]
   have ht:(p:Int).tmod 4=(p:Int) % 4:=Int.tmod_eq_emod_of_nonneg (by omega)
   cases t2:((p:Int) % 4 == 0)
   ·rw [Bool.false_and]
    exact cov_odd N B k kp al a n c p kk sy ad rk r1 (by omega) (by rw [ht];exact t2) t2 w
   ·rw [Bool.true_and]
    have hDl:=hex (p+4)
    rw [show p+4 - p=4 by omega] at hDl
    have hDs:(B.extract p (p+4)).size=4:=by rw [ByteArray.size_extract];omega
    have:=cov_fits N B k kp al a n c p kk sy ad rk hr.2.1 r1 (by rw [ht];exact t2) t2 _ rfl (by omega) hB hDs w hT
    rw [hDl] at this
    exact this
theorem pIs_core (N B:ByteArray) (k:Int) (kp:Bool) (al:Int) (a:Option Addr) (n c:Nat) (l:List Rl) (hN:N.size<=maxLen) (hBm:B.size<=maxLen) (w:World) (hs:SL rlC 4 w w.heap.size a n l) (hg:∀ r ∈ l,GoodRl r) (hT:TabP w):
  Calls Tryz.prog 78 #[.agg #[.string N,.int .i64 k,.bool kp,.int .i64 al,.string B,.slice a n c]] w (RetB (.bool (secR ⟨N.data.toList,k,kp,al,B.data.toList,l⟩)) w):=by
 have HT:=Lib.hid hT
 have HS:=Lib.hid hs
 have hl:=Lib.hid hs.len
 have HG:=Lib.hid hg
 have hlen:B.data.toList.length=B.size:=by simp
 have HLn:=Lib.hid hlen
 have HSec:Hid (secR ⟨N.data.toList,k,kp,al,B.data.toList,l⟩=(isNmL N.data.toList && decide (1<=k) && decide (k<=3) && decide (0<=al) && decide (al<=12) && decide (B.size<=4096) && decide (n<=64) && relsR k B.data.toList 0 l)):=Lib.hid (by
  unfold secR headR
  simp only
  rw [hlen,<-hs.len])
 have HNm:=Lib.hid (fun u (hu:TabP u)=>IsName_any N hN u hu.2)
 have HB0:Hid (Below w.heap.size w (w.alloc (.cells #[.string N,.int .i64 k,.bool kp,.int .i64 al,.string B,.slice a n c] 57))):=Lib.hid ((Below.refl _ w).alloc (Nat.le_refl _) _)
 have HX0:Hid (RB (w.alloc (.cells #[.string N,.int .i64 k,.bool kp,.int .i64 al,.string B,.slice a n c] 57)) w.heap.size #[.string N,.int .i64 k,.bool kp,.int .i64 al,.string B,.slice a n c] 57):=Lib.hid (MapKept.heap_alloc w _).1
 obtain ⟨X,hX⟩:∃ X,X=w.heap.size:=⟨_,rfl⟩
 rw [<-hX] at HX0
 have HXE:=Lib.hid hX
 have hB9:(B.size:Int)<=9223372036854775807:=by unfold maxLen at hBm;omega
 generalize isNmL N.data.toList=nm at HNm HSec
 generalize secR ⟨N.data.toList,k,kp,al,B.data.toList,l⟩=R at HSec ⊢
 clear hs hg hT hN hBm hlen
 go_enter Tryz.func78,Tryz.ntmps78
 go_wp2_with fail
 rw [<-hX]
 clear hX
 generalize w.alloc (.cells #[.string N,.int .i64 k,.bool kp,.int .i64 al,.string B,.slice a n c] 57)=W0 at HB0 HX0 ⊢
 refine (HNm.out _ (HT.out.next HB0.out)).mono ?_
 rintro e u ⟨rfl,hb⟩
 have HBX:=Lib.hid (after HB0.out hb)
 have HX:=Lib.hid (HX0.out.next hb)
 have f0:u.cell? ⟨X,1,none⟩=some (.int .i64 k):=HX.out.cell
 have f1:u.cell? ⟨X,3,none⟩=some (.int .i64 al):=HX.out.cell
 have f2:u.cell? ⟨X,4,none⟩=some (.string B):=HX.out.cell
 have f3:u.cell? ⟨X,5,none⟩=some (.slice a n c):=HX.out.cell
 clear hb
 cases nm
 ·have HF:Hid (R=false):=Lib.hid (by rw [HSec.out];rfl)
  go_wp2
  go_ret
  exact retB_bool HF.out.symm HBX.out
 by_cases t1:k < 1
 ·have HF:Hid (R=false):=Lib.hid (by rw [HSec.out,decide_eq_false (p:=1<=k) (by omega)];simp)
  go_wp2
  go_ret
  exact retB_bool HF.out.symm HBX.out
 by_cases t2:3 < k
 ·have HF:Hid (R=false):=Lib.hid (by rw [HSec.out,decide_eq_false (p:=k<=3) (by omega)];simp)
  go_wp2
  go_ret
  exact retB_bool HF.out.symm HBX.out
 by_cases t3:al < 0
 ·have HF:Hid (R=false):=Lib.hid (by rw [HSec.out,decide_eq_false (p:=0<=al) (by omega)];simp)
  go_wp2
  go_ret
  exact retB_bool HF.out.symm HBX.out
 by_cases t4:12 < al
 ·have HF:Hid (R=false):=Lib.hid (by rw [HSec.out,decide_eq_false (p:=al<=12) (by omega)];simp)
  go_wp2
  go_ret
  exact retB_bool HF.out.symm HBX.out
 by_cases t5:4096 < B.size
 ·have t5z:(4096:Int) < (B.size:Int):=by omega
  have HF:Hid (R=false):=Lib.hid (by rw [HSec.out,decide_eq_false (p:=B.size<=4096) (by omega)];simp)
  clear t5
  go_wp2
  go_ret
  exact retB_bool HF.out.symm HBX.out
 have t5z:¬ (4096:Int) < (B.size:Int):=by omega
 by_cases t6:64 < n
 ·have t6z:(64:Int) < (n:Int):=by omega
  have HF:Hid (R=false):=Lib.hid (by rw [HSec.out,decide_eq_false (p:=n<=64) (by omega)];simp)
  clear t5 t6
  go_wp2
  go_ret
  exact retB_bool HF.out.symm HBX.out
 have t6z:¬ (64:Int) < (n:Int):=by omega
 have HR:Hid (R=relsR k B.data.toList 0 l):=Lib.hid (by
  rw [HSec.out,decide_eq_true (p:=1<=k) (by omega),decide_eq_true (p:=k<=3) (by omega),decide_eq_true (p:=0<=al) (by omega),decide_eq_true (p:=al<=12) (by omega),decide_eq_true (p:=B.size<=4096) (by omega),decide_eq_true (p:=n<=64) (by omega)]
  rfl)
 have hB4:B.size<=4096:=by omega
 have hn6:n<=64:=by omega
 have hws:∀ z:Int,z=4\/z=8->IntKind.i64.wrap ((B.size:Int) - z)=(B.size:Int) - z:=fun z hz=>by rw [IntKind.wrap_i64];omega
 have hw4:=hws 4 (.inl rfl)
 have hw8:=hws 8 (.inr rfl)
 have HB4:=Lib.hid hB4
 clear HSec HNm hws t5 t6 hB9
 go_wp2_with fail
 clear t1 t2 t3 t4 t5z t6z f0 f1 f2 f3
 go_loopg [3,44] (n) (fun g ev iv wl=>∃ (j:Nat) (e:Int) (u:World),ev=.int .i64 e/\iv=.int .i64 (j:Int)/\u=wl/\j<=n/\0<=e/\Hid (R=relsR k B.data.toList e (l.drop j))/\Hid (g=n - j)/\Hid (Below w.heap.size w u)/\Hid (RB u X #[.string N,.int .i64 k,.bool kp,.int .i64 al,.string B,.slice a n c] 57))
 case atStart=>exact ⟨0,0,_,rfl,rfl,rfl,by omega,by omega,Lib.hid (by rw [List.drop_zero];exact HR.out),Lib.hid rfl,HBX,HX⟩
 case round=>
  clear HBX HX HR
  obtain ⟨j,e,u',rfl,rfl,rfl,hj,he,HA,HGk,HBX,HX⟩:=hrel
  have f2:u'.cell? ⟨X,4,none⟩=some (.string B):=HX.out.cell
  by_cases hlt:j < n
  ·have hjl:j < l.length:=by rw [<-hl.out];exact hlt
   obtain ⟨b,off,rfl,hbB,hc⟩:=(HS.out.below HBX.out).cells (HS.out.ne (k:=j) hlt)
   obtain ⟨d0,d1,d2,d3⟩:=rl_cells (fun i hi=>hc j hjl i hi)
   have HD:=Lib.hid (drop_cons hjl)
   have HGr:Hid (GoodRl l[j]):=Lib.hid (HG.out _ (List.getElem_mem _))
   generalize l[j]=r at*
   have hji:(j:Int) < (n:Int):=by omega
   have hj0:(0:Int)<=(j:Int):=by omega
   have HX1:Hid (R=if badR k B.data.toList e r then false else relsR k B.data.toList (r.pos+szR r.kind) (l.drop (j+1))):=Lib.hid (by rw [HA.out,HD.out];rfl)
   clear hc hbB hjl
   have f0:u'.cell? ⟨X,1,none⟩=some (.int .i64 k):=HX.out.cell
   have f1:u'.cell? ⟨X,3,none⟩=some (.int .i64 al):=HX.out.cell
   have f3:u'.cell? ⟨X,5,none⟩=some (.slice _ n c):=HX.out.cell
   have f4:u'.cell? ⟨X,0,none⟩=some (.string N):=HX.out.cell
   have f5:u'.cell? ⟨X,2,none⟩=some (.bool kp):=HX.out.cell
   have HBr:Hid (Below w.heap.size w (u'.alloc (.cells #[.int .i64 r.pos,.int .i64 r.kind,.int .i64 r.sym,.int .i64 r.add] 82))):=Lib.hid (HBX.out.alloc HBX.out.size _)
   have HXr:Hid (RB (u'.alloc (.cells #[.int .i64 r.pos,.int .i64 r.kind,.int .i64 r.sym,.int .i64 r.add] 82)) X #[.string N,.int .i64 k,.bool kp,.int .i64 al,.string B,.slice (some ⟨b,off,none⟩) n c] 57):=Lib.hid (HX.out.next ((Below.refl _ _).alloc (Nat.le_refl _) _))
   have hXl:X < u'.heap.size:=lt_of_block HX.out
   rcases szR_two r.kind with ⟨hz,hk⟩ | ⟨hz,hk⟩
   ·have rk:(r.kind == 1)=true:=by rw [hk];rfl
    clear hk
    have HZ:Hid (szR r.kind=8):=Lib.hid hz
    clear hz
    by_cases p1:r.pos < e
    ·have HF:Hid (R=false):=Lib.hid (by rw [HX1.out,if_pos (.inl p1)])
     go_wp2
     go_ret
     exact retB_bool HF.out.symm HBr.out
    by_cases p2:(B.size:Int) - 8 < r.pos
    ·have HF:Hid (R=false):=Lib.hid (by rw [HX1.out,if_pos (.inr (.inl (by rw [HZ.out,HLn.out];exact p2)))])
     go_wp2
     go_ret
     exact retB_bool HF.out.symm HBr.out
    by_cases p3:r.sym < 0
    ·have HF:Hid (R=false):=Lib.hid (by rw [HX1.out,if_pos (.inr (.inr (.inl p3)))])
     go_wp2
     go_ret
     exact retB_bool HF.out.symm HBr.out
    have HCv:=Lib.hid (fun v (hv:TabP v)=>cov_any N B k kp al (some ⟨b,off,none⟩) n c r HGr.out (by omega) (by rw [HZ.out];omega) HB4.out v hv)
    have hwp:IntKind.i64.wrap (r.pos+8)=r.pos+8:=by have:=HB4.out;rw [IntKind.wrap_i64];omega
    have hep:0<=r.pos+8:=by omega
    cases hcv:covR k B.data.toList r
    ·have HF:Hid (R=false):=Lib.hid (by rw [HX1.out,if_pos (.inr (.inr (.inr hcv)))])
     rw [hcv] at HCv
     clear hcv
     go_wp2_with fail
     refine (HCv.out _ (HT.out.next HBr.out)).mono ?_
     rintro e v ⟨rfl,hb⟩
     have HBv:=Lib.hid (after HBr.out hb)
     clear hb
     go_wp2
     go_ret
     exact retB_bool HF.out.symm HBv.out
    ·have HF:Hid (R=relsR k B.data.toList (r.pos+8) (l.drop (j+1))):=Lib.hid (by rw [HX1.out,if_neg (by rintro (h | h | h | h);exact p1 h;rw [HZ.out,HLn.out] at h;exact p2 h;exact p3 h;rw [hcv] at h;cases h),HZ.out])
     rw [hcv] at HCv
     clear hcv
     have hrb:RB (u'.alloc (.cells #[.int .i64 r.pos,.int .i64 r.kind,.int .i64 r.sym,.int .i64 r.add] 82)) u'.heap.size #[.int .i64 r.pos,.int .i64 r.kind,.int .i64 r.sym,.int .i64 r.add] 82:=(MapKept.heap_alloc _ _).1
     have HRB:=Lib.hid hrb
     clear hrb
     go_wp2_with fail
     refine (HCv.out _ (HT.out.next HBr.out)).mono ?_
     rintro e v ⟨rfl,hb⟩
     have HBv:=Lib.hid (after HBr.out hb)
     have HXv:=Lib.hid (HXr.out.next hb)
     have g0:v.cell? ⟨u'.heap.size,0,none⟩=some (.int .i64 r.pos):=(HRB.out.next hb).cell
     clear hb
     go_wp2
     go_roundg (n - (j+1))
     case measure=>have:=HGk.out;omega
     case rel=>exact ⟨j+1,r.pos+8,_,rfl,by go_num,rfl,by omega,hep,HF,Lib.hid rfl,HBv,HXv⟩
   ·have rk:(r.kind == 1)=false:=by rw [beq_eq_false_iff_ne];exact hk
    clear hk
    have HZ:Hid (szR r.kind=4):=Lib.hid hz
    clear hz
    by_cases p1:r.pos < e
    ·have HF:Hid (R=false):=Lib.hid (by rw [HX1.out,if_pos (.inl p1)])
     go_wp2
     go_ret
     exact retB_bool HF.out.symm HBr.out
    by_cases p2:(B.size:Int) - 4 < r.pos
    ·have HF:Hid (R=false):=Lib.hid (by rw [HX1.out,if_pos (.inr (.inl (by rw [HZ.out,HLn.out];exact p2)))])
     go_wp2
     go_ret
     exact retB_bool HF.out.symm HBr.out
    by_cases p3:r.sym < 0
    ·have HF:Hid (R=false):=Lib.hid (by rw [HX1.out,if_pos (.inr (.inr (.inl p3)))])
     go_wp2
     go_ret
     exact retB_bool HF.out.symm HBr.out
    have HCv:=Lib.hid (fun v (hv:TabP v)=>cov_any N B k kp al (some ⟨b,off,none⟩) n c r HGr.out (by omega) (by rw [HZ.out];omega) HB4.out v hv)
    have hwp:IntKind.i64.wrap (r.pos+4)=r.pos+4:=by have:=HB4.out;rw [IntKind.wrap_i64];omega
    have hep:0<=r.pos+4:=by omega
    cases hcv:covR k B.data.toList r
    ·have HF:Hid (R=false):=Lib.hid (by rw [HX1.out,if_pos (.inr (.inr (.inr hcv)))])
     rw [hcv] at HCv
     clear hcv
     go_wp2_with fail
     refine (HCv.out _ (HT.out.next HBr.out)).mono ?_
     rintro e v ⟨rfl,hb⟩
     have HBv:=Lib.hid (after HBr.out hb)
     clear hb
     go_wp2
     go_ret
     exact retB_bool HF.out.symm HBv.out
    ·have HF:Hid (R=relsR k B.data.toList (r.pos+4) (l.drop (j+1))):=Lib.hid (by rw [HX1.out,if_neg (by rintro (h | h | h | h);exact p1 h;rw [HZ.out,HLn.out] at h;exact p2 h;exact p3 h;rw [hcv] at h;cases h),HZ.out])
     rw [hcv] at HCv
     clear hcv
     have hrb:RB (u'.alloc (.cells #[.int .i64 r.pos,.int .i64 r.kind,.int .i64 r.sym,.int .i64 r.add] 82)) u'.heap.size #[.int .i64 r.pos,.int .i64 r.kind,.int .i64 r.sym,.int .i64 r.add] 82:=(MapKept.heap_alloc _ _).1
     have HRB:=Lib.hid hrb
     clear hrb
     go_wp2_with fail
     refine (HCv.out _ (HT.out.next HBr.out)).mono ?_
     rintro e v ⟨rfl,hb⟩
     have HBv:=Lib.hid (after HBr.out hb)
     have HXv:=Lib.hid (HXr.out.next hb)
     have g0:v.cell? ⟨u'.heap.size,0,none⟩=some (.int .i64 r.pos):=(HRB.out.next hb).cell
     clear hb
     go_wp2
     go_roundg (n - (j+1))
     case measure=>have:=HGk.out;omega
     case rel=>exact ⟨j+1,r.pos+4,_,rfl,by go_num,rfl,by omega,hep,HF,Lib.hid rfl,HBv,HXv⟩
  ·have HF:Hid (R=true):=Lib.hid (by rw [HA.out,List.drop_eq_nil_of_le (by have:=hl.out;omega)];rfl)
   have hnj:¬ (j:Int) < (n:Int):=by omega
   go_wp2
   go_ret
   exact retB_bool HF.out.symm HBX.out
end Go.Proofs.YthkolmebokfagaaGreatDoor
namespace Go.Proofs.YthkolmebokfagaaGreatDoor
open Go.RowKit
abbrev WrAt (B b:Nat) (p:Value) (bs:List Value) (w:World):Prop:=Lib.BuilderAt 71 5 B b p bs w
abbrev Wr (B b:Nat) (bs:List Value) (w:World):Prop:=Lib.IsBuilder 71 5 B b bs w
theorem infoB:(Tryz.prog.info? 71).map (·.size)=some 2:=by kernel_rfl
theorem infoU:(Tryz.prog.info? 5).map (fun i=>(i.zero,i.size,i.bytes))=some (some (.int .u8 0),1,1):=by kernel_rfl
theorem ptrB:Tryz.prog.underlying 68=some (.pointer 71):=by kernel_rfl
theorem ptrX:Tryz.prog.underlying 145=some .unsafePointer:=by kernel_rfl
theorem liesW:liesAt Tryz.prog Tryz.prog.depth 71 (2 / Tryz.prog.cellsOf 71) 0 71 1=true:=by kernel_rfl
theorem copyCheck_used (b:Nat) (w:World) (h0:w.cell? ⟨b,0,none⟩=some (.pointer (some ⟨b,0,none⟩))):
  Calls Tryz.prog 67 #[.pointer (some ⟨b,0,none⟩)] w fun e w'=>e=.returned (.tuple #[])/\w'=w:=by
 obtain ⟨j,hj,_⟩:=Option.map_eq_some_iff.1 infoB
 go_enter Tryz.func67,Tryz.ntmps67
 go_wp2
 rw [Lib.run_neq_ptr_same w _ ptrB hj]
 go_wp2
 go_end0
 exact ⟨rfl,rfl⟩
theorem copyCheck_fresh (b:Nat) (w:World) (h0:w.cell? ⟨b,0,none⟩=some (.pointer none)) (hsh:w.shape? b=some (71,2)) (hfz:w.frozen? ⟨b,0,none⟩=false):
  Calls Tryz.prog 67 #[.pointer (some ⟨b,0,none⟩)] w fun e w'=>e=.returned (.tuple #[])/\w'=w.setCell ⟨b,0,none⟩ (.pointer (some ⟨b,0,none⟩)):=by
 obtain ⟨j,hj,hjs⟩:=Option.map_eq_some_iff.1 infoB
 have hcv:(convert 68 145 (.pointer (some ⟨b,0,none⟩))).run Tryz.prog w=.ok (.pointer (some ⟨b,0,none⟩)) w:=
  Lib.run_to_unsafe w ⟨b,0,none⟩ ptrB ptrX hj (by rw [hjs];decide) hsh (Nat.zero_lt_succ 1)
 have hcb:(convert 145 68 (.pointer (some ⟨b,0,none⟩))).run Tryz.prog w=.ok (.pointer (some ⟨b,0,none⟩)) w:=
  Lib.run_from_unsafe w ⟨b,0,none⟩ ptrX ptrB hj hsh liesW
 have hcl:(callFunc 90 #[.pointer (some ⟨b,0,none⟩)]).run Tryz.prog w=.ok (.value (.pointer (some ⟨b,0,none⟩))) w:=by
  rw [run_callFunc_extern Tryz.func90 (by kernel_rfl) (by kernel_rfl) (by kernel_rfl) (e:=Extern.AbiNoEscape.same) (by kernel_rfl),Lib.run_noEscape]
  rfl
 go_enter Tryz.func67,Tryz.ntmps67
 go_wp2
 go_end0
 exact ⟨rfl,rfl⟩
theorem copyCheck_any (B b:Nat) (bs:List Value) (w:World) (h:Wr B b bs w):
  Calls Tryz.prog 67 #[.pointer (some ⟨b,0,none⟩)] w fun e w'=>e=.returned (.tuple #[])/\(WrAt B b (.pointer (some ⟨b,0,none⟩)) bs w'/\Below B w w'/\Lib.OthersKept 5 (some b) w w'):=by
 rcases h with h | h
 ·refine (copyCheck_fresh b w h.cell0 h.shape h.frozen0).mono ?_
  rintro e w' ⟨rfl,rfl⟩
  exact ⟨rfl,h.used _,(Below.refl B w).setCell (p:=⟨b,0,none⟩) h.1 _,(Lib.OthersKept.refl _ _ w).setCell ⟨b,0,none⟩ rfl _⟩
 ·refine (copyCheck_used b w h.cell0).mono ?_
  rintro e w' ⟨rfl,rfl⟩
  exact ⟨rfl,h,Below.refl B _,Lib.OthersKept.refl _ _ _⟩
theorem row_kind {w:World} {B:Nat} {e:TypeId} {v:Value} {n:Nat} {xs:List Value} (h:w.ownsRow B e 1 v n xs):∀ g,v.ownBlock=some g->∃ c fz,w.heap[g]?=some (.cells c e fz):=by
 intro g hg
 rcases h.2 with ⟨rfl,_⟩ | ⟨g',cap,cur,rfl,_,hgg,_⟩
 ·simp [Value.ownBlock] at hg
 ·simp only [Value.ownBlock,Option.some.injEq] at hg
  subst hg
  exact ⟨_,_,hgg⟩
theorem writeByte_any (B b:Nat) (bs:List Value) (c:Int) (w:World) (h:Wr B b bs w) (hlen:bs.length+1<=140737488355328) (hBw:B<=w.heap.size):
  Calls Tryz.prog 92 #[.pointer (some ⟨b,0,none⟩),.int .u8 c] w fun e w'=>e=.returned .nilIface/\(WrAt B b (.pointer (some ⟨b,0,none⟩)) (bs ++ [.int .u8 c]) w'/\Below B w w'/\Lib.OthersKept 5 (some b) w w'):=by
 obtain ⟨i0,hi,hz0,hz1,hz2⟩:=info_parts infoU
 go_enter Tryz.func92,Tryz.ntmps92
 go_wp2_with fail
 refine (copyCheck_any B b bs _ h).mono ?_
 rintro e w1 ⟨rfl,h1,hb1,hk1⟩
 obtain ⟨hB,v,hbk,hown,hne⟩:=h1
 have c0:w1.cell? ⟨b,0,none⟩=some (.pointer (some ⟨b,0,none⟩)):=by rw [Lib.cell_of_heap hbk];rfl
 have c1:w1.cell? ⟨b,1,none⟩=some v:=by rw [Lib.cell_of_heap hbk];rfl
 go_wp2_with (at_builtin;refine wpList_append_own _ rfl _ _ 69 rfl B 5 i0 (.int .u8 0) 1 1 Tryz.underlying69 hi hz0 hz1 hz2 rfl (by decide) _ _ _ rfl (hown.alloc _) ⟨w1.heap.size,0,none⟩ 1 1 [.int .u8 c] rfl rfl ?c1 ?c2 ?c3 ?c4 ?c5 ?_)
 case c1=>
  intro j u hj
  match j,hj with
  | 0,hj=>simp at hj;subst hj;simp [Addr.add]
 case c2=>intro u hu;simp at hu;subst hu;rfl
 case c3=>unfold maxLen;omega
 case c4=>omega
 case c5=>have:=hb1.size;simp;omega
 intro v' w2 hown' hgrow _
 have hlt:b < w1.heap.size:=(Array.getElem?_eq_some_iff.1 hbk).1
 have hb2:w2.heap[b]?=some (.cells #[.pointer (some ⟨b,0,none⟩),v] 71 (0,0)):=by
  rw [hgrow.block b (by simp;omega) (fun e=>hne e.symm),Lib.alloc_old w1 _ b hlt]
  exact hbk
 have d0:w2.cell? ⟨b,0,none⟩=some (.pointer (some ⟨b,0,none⟩)):=by rw [Lib.cell_of_heap hb2];rfl
 have d1:w2.cell? ⟨b,1,none⟩=some v:=by rw [Lib.cell_of_heap hb2];rfl
 have f1:w2.frozen? ⟨b,1,none⟩=false:=Lib.frozen_of_heap hb2 1
 obtain ⟨g,cap,rfl⟩:∃ g cap,v'=.slice (some ⟨g,0,none⟩) (bs.length+1) cap:=by
  rcases hown'.2 with ⟨_,h0⟩ | ⟨g,cap,cur,hv,_⟩
  ·omega
  ·exact ⟨g,cap,hv⟩
 go_wp2
 go_ret
 refine ⟨rfl,?_,?_,((hk1.alloc _).grown hgrow (row_kind (hown.alloc _))).setCell ⟨b,1,none⟩ rfl _⟩
 ·exact Lib.BuilderAt.put hB hb2 (bs':=bs ++ [.int .u8 c]) (by simpa using hown') (by decide)
 ·exact ((hb1.alloc (by have:=hb1.size;omega) _).grown hgrow (by have:=hb1.size;simp;omega) (fun k hk=>(hown.lt k hk).1)).setCell (p:=⟨b,1,none⟩) hB _
theorem writeString_any (B b:Nat) (bs:List Value) (s:ByteArray) (w:World) (h:Wr B b bs w) (hlen:bs.length+s.size<=140737488355328) (hBw:B<=w.heap.size):
  Calls Tryz.prog 34 #[.pointer (some ⟨b,0,none⟩),.string s] w fun e w'=>e=.returned (.tuple #[.int .i64 s.size,.nilIface])/\(WrAt B b (.pointer (some ⟨b,0,none⟩)) (bs ++ Lib.strCells s) w'/\Below B w w'):=by
 obtain ⟨i0,hi,hz0,hz1,hz2⟩:=info_parts infoU
 go_enter Tryz.func34,Tryz.ntmps34
 go_wp2_with fail
 refine (copyCheck_any B b bs _ h).mono ?_
 rintro e w1 ⟨rfl,h1,hb1,hk1⟩
 obtain ⟨hB,v,hbk,hown,hne⟩:=h1
 have c0:w1.cell? ⟨b,0,none⟩=some (.pointer (some ⟨b,0,none⟩)):=by rw [Lib.cell_of_heap hbk];rfl
 have c1:w1.cell? ⟨b,1,none⟩=some v:=by rw [Lib.cell_of_heap hbk];rfl
 go_wp2_with (at_builtin;refine Lib.wpList_append_own_string _ rfl _ _ 69 9 rfl B 5 i0 Tryz.underlying69 Tryz.underlying9 hi hz0 hz1 hz2 _ _ _ rfl hown s rfl ?c3 ?c4 ?c5 ?_)
 case c3=>unfold maxLen;omega
 case c4=>omega
 case c5=>have:=hb1.size;omega
 intro v' w2 hown' hgrow _
 have hlt:b < w1.heap.size:=(Array.getElem?_eq_some_iff.1 hbk).1
 have hb2:w2.heap[b]?=some (.cells #[.pointer (some ⟨b,0,none⟩),v] 71 (0,0)):=by
  rw [hgrow.block b hlt (fun e=>hne e.symm)]
  exact hbk
 have d0:w2.cell? ⟨b,0,none⟩=some (.pointer (some ⟨b,0,none⟩)):=by rw [Lib.cell_of_heap hb2];rfl
 have d1:w2.cell? ⟨b,1,none⟩=some v:=by rw [Lib.cell_of_heap hb2];rfl
 have f1:w2.frozen? ⟨b,1,none⟩=false:=Lib.frozen_of_heap hb2 1
 obtain ⟨ao,n',cap,rfl⟩:∃ ao n' cap,v'=.slice ao n' cap:=by
  rcases hown'.2 with ⟨hv,_⟩ | ⟨g,cap,cur,hv,_⟩
  ·exact ⟨_,_,_,hv⟩
  ·exact ⟨_,_,_,hv⟩
 go_wp2
 go_ret2
 refine ⟨rfl,?_,?_⟩
 ·exact Lib.BuilderAt.put hB hb2 (bs':=bs ++ Lib.strCells s) (by simpa [Lib.strCells_length] using hown') (by decide)
 ·exact (hb1.grown hgrow (by have:=hb1.size;omega) (fun k hk=>(hown.lt k hk).1)).setCell (p:=⟨b,1,none⟩) hB _
theorem string_some (B b:Nat) (l:List UInt8) (w:World) (h:Wr B b (Lib.byteCells l) w) (h0:l ≠ []):
  Calls Tryz.prog 39 #[.pointer (some ⟨b,0,none⟩)] w fun e w'=>e=.returned (.string ⟨l.toArray⟩)/\Below B w w':=by
 obtain ⟨p,hB,v,hbk,hown,hne⟩:∃ p,WrAt B b p (Lib.byteCells l) w:=by
  rcases h with h | h
  ·exact ⟨_,h⟩
  ·exact ⟨_,h⟩
 have hl0:l.length ≠ 0:=by simpa using h0
 rw [Lib.byteCells_length] at hown
 obtain ⟨g,cap,cur,rfl,hbg,hg,hnc,hcm,hcs,htake⟩:∃ g cap cur,v=.slice (some ⟨g,0,none⟩) l.length cap/\B<=g/\w.heap[g]?=some (.cells cur 5 (0,0))/\l.length<=cap/\cap<=maxLen/\cur.size=cap*1/\cur.toList.take (l.length*1)=Lib.byteCells l:=by
  rcases hown.2 with ⟨_,hz⟩ | ⟨g,cap,cur,hv,r⟩
  ·exact absurd hz hl0
  ·exact ⟨g,cap,cur,hv,r⟩
 have c1:w.drew.cell? ⟨b,1,none⟩=some (.slice (some ⟨g,0,none⟩) l.length cap):=by
  have:w.drew.heap[b]?=some (.cells #[p,.slice (some ⟨g,0,none⟩) l.length cap] 71 (0,0)):=hbk
  rw [Lib.cell_of_heap this];rfl
 have hSD:(Builtin.unsafeSliceData_ #[69] 124 #[.slice (some ⟨g,0,none⟩) l.length cap]).run Tryz.prog w.drew=.ok (.pointer (some ⟨g,0,none⟩)) w.drew:=
  Lib.run_unsafeSliceData_row _ _ _ _ _ _ (by omega)
 have hUS:(Builtin.unsafeString_ #[124,3] 9 #[.pointer (some ⟨g,0,none⟩),.int .i64 l.length]).run Tryz.prog w.drew=.ok (.string ⟨l.toArray⟩) (w.drew.freeze ⟨g,0,none⟩ l.length):=by
  refine Lib.run_unsafeString_row w.drew 124 3 9 5 (by kernel_rfl) (by kernel_rfl) g cur.size (by have hg':w.drew.heap[g]?=some (.cells cur 5 (0,0)):=hg;simp [World.shape?,hg']) l h0 (by omega) (by unfold maxLen at hcm;omega) ?_
  intro j x hx
  have:=hown.cells (g:=g) rfl j (.int .u8 x.toNat) (by simp [Lib.byteCells,hx])
  exact this
 go_enter Tryz.func39,Tryz.ntmps39
 go_wp2
 go_region
 all_goals (go_wp2;go_ret;exact ⟨rfl,Lib.below_freeze (Below.drew (Below.refl B w)) (p:=⟨g,0,none⟩) hbg _⟩)
end Go.Proofs.YthkolmebokfagaaGreatDoor
namespace Go.Proofs.YthkolmebokfagaaGreatDoor
open Go.RowKit
open Go.ChangeShapes Go.WideShapes Go.Deep Go.RowKit
theorem info_rel:(Tryz.prog.info? 82).map (fun i=>(i.zero,i.size,i.bytes))=some (some (.agg #[.int .i64 0,.int .i64 0,.int .i64 0,.int .i64 0]),4,32):=by kernel_rfl
open Go.ChangeShapes Go.WideShapes Go.Deep Go.RowKit
theorem own_cap {w:World} {B e sz n c:Nat} {a:Option Addr} {xs:List Value} (h:w.ownsRow B e sz (.slice a n c) n xs):n<=c:=by
 rcases h.2 with ⟨hv,h0⟩ | ⟨g,cap,cur,hv,_,_,h3,_⟩
 ·omega
 ·simp only [Value.slice.injEq] at hv;omega
theorem Row0.out {w:World} {B:Nat} {v:Value} {n:Nat} {l:List Rl} (h:Row0 w B v n l):∃ a c,v=.slice a n c/\SL rlC 4 w w.heap.size a n l/\(a=none->n=0/\c=0)/\n<=c:=by
 rcases h with hown | ⟨ad,rfl,rfl,rfl⟩
 ·obtain ⟨a,c,rfl,h1,h2⟩:=SL.ofOwns rl_len (by decide) hown
  exact ⟨a,c,rfl,h1,h2,own_cap hown⟩
 ·exact ⟨some ad,0,rfl,SL.nil _ _ _,(fun h=>by cases h),Nat.le_refl _⟩
theorem Row0.mono {w:World} {B B':Nat} {v:Value} {n:Nat} {l:List Rl} (h:Row0 w B v n l) (hB:B'<=B):Row0 w B' v n l:=by
 rcases h with h | h
 ·refine .inl ⟨h.1,?_⟩
  rcases h.2 with hh | ⟨g,cap,cur,hv,hb,r⟩
  ·exact .inl hh
  ·exact .inr ⟨g,cap,cur,hv,Nat.le_trans hB hb,r⟩
 ·exact .inr h
theorem Row0.set {w:World} {B Y:Nat} {v:Value} {n:Nat} {l:List Rl} (h:Row0 w B v n l) (hY:Y < B) (j:Nat) (x:Value):Row0 (w.setCell ⟨Y,j,none⟩ x) B v n l:=by
 rcases h with hown | h
 ·refine .inl (hown.kept (KP.step Y w j x) ?_)
  cases hv:v.ownBlock with
  | none=>exact .inl rfl
  | some g=>right;have:=(hown.lt g hv).1;simp;omega
 ·exact .inr h
end Go.Proofs.YthkolmebokfagaaGreatDoor
namespace Go.Proofs.YthkolmebokfagaaGreatDoor
open Go.RowKit
open Go.ChangeShapes Go.WideShapes Go.Deep Go.RowKit
structure Sy where
 name:List UInt8
 bind:Int
 sec:Int
 off:Int
def syC (s:Sy):List Value:=[.string ⟨s.name.toArray⟩,.int .i64 s.bind,.int .i64 s.sec,.int .i64 s.off]
theorem sy_len (s:Sy):(syC s).length=4:=rfl
structure GoodSy (s:Sy):Prop where
 name:s.name.length<=maxLen
 bind:i64ok s.bind
 sec:i64ok s.sec
 off:i64ok s.off
structure Ms where
 sc:Sc
 ad:Option Addr
 cap:Nat
def msC (m:Ms):List Value:=[.string ⟨m.sc.name.toArray⟩,.int .i64 m.sc.kind,.bool m.sc.keep,.int .i64 m.sc.align,.string ⟨m.sc.data.toArray⟩,.slice m.ad m.sc.rels.length m.cap]
theorem ms_len (m:Ms):(msC m).length=6:=rfl
def Notes (w:World) (B:Nat) (L:List Ms):Prop:=∀ m ∈ L,SL rlC 4 w B m.ad m.sc.rels.length m.sc.rels
theorem Notes.next {w w':World} {L:List Ms} (h:Notes w w.heap.size L) (hb:Below w.heap.size w w'):Notes w' w'.heap.size L:=fun m hm=>(h m hm).next hb
def standsL (s:Sy) (secs:List Sc):Bool:=
 if s.bind < 1\/3 < s.bind then false
 else if s.sec = -1 then decide (s.bind ≠ 1) && decide (s.off=0)
 else decide (0<=s.sec) && decide (s.sec < (secs.length:Int)) && decide (0<=s.off) && (match secs[s.sec.toNat]? with | some t=>decide (s.off<=(t.data.length:Int)) | none=>false)
def symsR (secs:List Sc):List (List UInt8)->List Sy->Bool
 | _,[]=>true
 | seen,s :: t=>if standsL s secs=false then false else if s.name=[]/\s.bind=1 then symsR secs seen t else if s.name ∈ seen\/isNmL s.name=false then false else symsR secs (seen ++ [s.name]) t
def symsL (l:List Sy) (secs:List Sc):Bool:=decide (l.length<=128) && symsR secs [] l
def secsR (k:Int):List (List UInt8)->List Sc->Bool
 | _,[]=>true
 | seen,s :: t=>if s.name ∈ seen\/secR s=false then false else if s.rels.any (fun r=>decide (k<=r.sym))=true then false else secsR k (seen ++ [s.name]) t
def secsL (l:List Sc) (k:Int):Bool:=decide (l.length<=32) && secsR k [] l
structure Ob where
 secs:List Sc
 syms:List Sy
def isO (o:Ob):Bool:=secsL o.secs (o.syms.length:Nat) && symsL o.syms o.secs
def findR (nm:List UInt8):Nat->List Sy->Option Nat
 | _,[]=>none
 | k,s :: t=>if s.name=nm then some k else findR nm (k+1) t
def findL (o:Ob) (nm:List UInt8):Int × Bool:=if nm=[]\/isO o=false then (0,false) else match findR nm 0 o.syms with | some k=>((k:Nat),true) | none=>(0,false)
theorem sKey:Maps.Keyed Tryz.prog 9:=Maps.string_keyed Tryz.underlying9
theorem sKeyOf {s:ByteArray} (h:s.size<=maxLen):keyOf Tryz.prog 9 (.string s)=some (.string s.data.toList):=Go.WideMaps.keyOf_string_mk Tryz.underlying9 h
theorem zeroInt (w:World):(zeroValue 3).run Tryz.prog w=.ok (.int .i64 0) w:=by kernel_rfl
def pairS (p:ByteArray × Int):Value × Value:=(.string p.1,.int .i64 p.2)
def NM (w:World) (b:Nat) (l:List (ByteArray × Int)):Prop:=∃ es clock,w.heap[b]?=some (.map es clock)/\es.toList.map (fun e=>(e.key,e.val))=l.map pairS
theorem nm_key {l:List (ByteArray × Int)} {es:Array MapEntry} (h:es.toList.map (fun e=>(e.key,e.val))=l.map pairS) {e:MapEntry} (he:e ∈ es.toList):∃ p ∈ l,e.key=.string p.1/\e.val=.int .i64 p.2:=by
 have:(e.key,e.val) ∈ es.toList.map (fun e=>(e.key,e.val)):=List.mem_map.2 ⟨e,he,rfl⟩
 rw [h] at this
 obtain ⟨p,hp,hh⟩:=List.mem_map.1 this
 simp only [pairS,Prod.mk.injEq] at hh
 exact ⟨p,hp,hh.1.symm,hh.2.symm⟩
theorem nm_keys {l:List (ByteArray × Int)} {es:Array MapEntry} (h:es.toList.map (fun e=>(e.key,e.val))=l.map pairS) (hg:∀ p ∈ l,p.1.size<=maxLen):∀ e ∈ es.toList,∃ k,keyOf Tryz.prog 9 e.key=some k:=by
 intro e he
 obtain ⟨p,hp,hk,-⟩:=nm_key h he
 rw [hk]
 exact ⟨_,sKeyOf (hg p hp)⟩
theorem nm_no {l:List (ByteArray × Int)} {b:Nat} {w:World} (h:NM w b l) (hg:∀ p ∈ l,p.1.size<=maxLen) {k:ByteArray} (hk:k.size<=maxLen) (hn:∀ p ∈ l,p.1 ≠ k):
  (Instr.lookup 135 (.map (some b)) (.string k) true).run Tryz.prog w=.ok (.tuple #[.int .i64 0,.bool false]) w:=by
 obtain ⟨es,clock,hb,he⟩:=h
 have hkey:=sKeyOf hk
 rcases sKey.find w hkey es.toList (nm_keys he hg) with ⟨h1,-⟩ | ⟨j,e,h1,h2,h3⟩
 ·simp [Instr.lookup,run_underlying Tryz.underlying135,MapKept.run_getObj_map hb,sKey.check w _ hkey,h1,zeroInt,Result.andThen]
 ·obtain ⟨p,hp,hpk,-⟩:=nm_key he (List.mem_of_getElem? h2)
  rw [h3] at hpk
  simp only [Value.string.injEq] at hpk
  exact absurd hpk.symm (hn p hp)
theorem nm_yes {l:List (ByteArray × Int)} {b:Nat} {w:World} (h:NM w b l) (hg:∀ p ∈ l,p.1.size<=maxLen) {k:ByteArray} (hk:∃ p ∈ l,p.1=k):
  ∃ v:Int,(Instr.lookup 135 (.map (some b)) (.string k) true).run Tryz.prog w=.ok (.tuple #[.int .i64 v,.bool true]) w:=by
 obtain ⟨es,clock,hb,he⟩:=h
 obtain ⟨p0,hp0,rfl⟩:=hk
 have hkey:=sKeyOf (hg _ hp0)
 rcases sKey.find w hkey es.toList (nm_keys he hg) with ⟨h1,h2⟩ | ⟨j,e,h1,h2,h3⟩
 ·exfalso
  have:pairS p0 ∈ l.map pairS:=List.mem_map.2 ⟨_,hp0,rfl⟩
  rw [<-he] at this
  obtain ⟨e,hee,heq⟩:=List.mem_map.1 this
  simp only [pairS,Prod.mk.injEq] at heq
  exact h2 e hee heq.1
 ·obtain ⟨p,hp,hpk,hpv⟩:=nm_key he (List.mem_of_getElem? h2)
  exact ⟨p.2,by simp [Instr.lookup,run_underlying Tryz.underlying135,MapKept.run_getObj_map hb,sKey.check w _ hkey,h1,hpv,Result.andThen]⟩
theorem nm_put {l:List (ByteArray × Int)} {b:Nat} {w:World} (h:NM w b l) (hg:∀ p ∈ l,p.1.size<=maxLen) (k:ByteArray) (v:Int) (hk:k.size<=maxLen) (hn:∀ p ∈ l,p.1 ≠ k):
  ∃ w',(Instr.mapUpdate 135 (.map (some b)) (.string k) (.int .i64 v)).run Tryz.prog w=.ok () w'/\NM w' b (l ++ [(k,v)])/\w.grownBy w' (some b):=by
 obtain ⟨es,clock,hb,he⟩:=h
 have hkey:=sKeyOf hk
 rcases sKey.find w hkey es.toList (nm_keys he hg) with ⟨h1,-⟩ | ⟨j,e,h1,h2,h3⟩
 ·refine ⟨ChangeMaps.setBlock w b (.map (es.push ⟨.string k,.int .i64 v,clock⟩) (clock+1)),?_,⟨es.push ⟨.string k,.int .i64 v,clock⟩,clock+1,?_,?_⟩,?_⟩
  ·simp [Instr.mapUpdate,run_underlying Tryz.underlying135,MapKept.run_getObj_map hb,sKey.check w false hkey,h1,MapKept.run_setObj_map _ hb,Result.andThen,ChangeMaps.setBlock]
  ·have:=lt_of_block hb
   simp [ChangeMaps.setBlock,this]
  ·rw [Array.toList_push,List.map_append,he,List.map_append];rfl
  ·refine ⟨rfl,rfl,rfl,by simp [ChangeMaps.setBlock],fun i hi hne=>?_⟩
   simp only [ChangeMaps.setBlock]
   rw [Array.getElem?_setIfInBounds_ne (fun e=>hne (by rw [e]))]
 ·obtain ⟨p,hp,hpk,-⟩:=nm_key he (List.mem_of_getElem? h2)
  rw [h3] at hpk
  simp only [Value.string.injEq] at hpk
  exact absurd hpk.symm (hn p hp)
theorem NM.next {w w':World} {b:Nat} {l:List (ByteArray × Int)} (h:NM w b l) (hb:Below w.heap.size w w'):NM w' b l:=by
 obtain ⟨es,clock,h1,h2⟩:=h
 exact ⟨es,clock,(hb.block b (lt_of_block h1)).trans h1,h2⟩
open Go.ChangeShapes Go.WideShapes Go.Deep Go.RowKit
theorem ms_cells {w:World} {b off k:Nat} {m:Ms} (h:∀ j,j < 6->w.cell? ⟨b,off+k*6+j,none⟩=(msC m)[j]?):
  w.cell? ⟨b,off+k*6,none⟩=some (.string ⟨m.sc.name.toArray⟩)/\w.cell? ⟨b,off+k*6+1,none⟩=some (.int .i64 m.sc.kind)/\w.cell? ⟨b,off+k*6+2,none⟩=some (.bool m.sc.keep)/\w.cell? ⟨b,off+k*6+3,none⟩=some (.int .i64 m.sc.align)/\w.cell? ⟨b,off+k*6+4,none⟩=some (.string ⟨m.sc.data.toArray⟩)/\w.cell? ⟨b,off+k*6+5,none⟩=some (.slice m.ad m.sc.rels.length m.cap):=
 ⟨h 0 (by omega),h 1 (by omega),h 2 (by omega),h 3 (by omega),h 4 (by omega),h 5 (by omega)⟩
theorem sy_cells {w:World} {b off k:Nat} {s:Sy} (h:∀ j,j < 4->w.cell? ⟨b,off+k*4+j,none⟩=(syC s)[j]?):
  w.cell? ⟨b,off+k*4,none⟩=some (.string ⟨s.name.toArray⟩)/\w.cell? ⟨b,off+k*4+1,none⟩=some (.int .i64 s.bind)/\w.cell? ⟨b,off+k*4+2,none⟩=some (.int .i64 s.sec)/\w.cell? ⟨b,off+k*4+3,none⟩=some (.int .i64 s.off):=
 ⟨h 0 (by omega),h 1 (by omega),h 2 (by omega),h 3 (by omega)⟩
abbrev syV (s:Sy):Value:=.agg #[.string ⟨s.name.toArray⟩,.int .i64 s.bind,.int .i64 s.sec,.int .i64 s.off]
theorem stands_any (N:ByteArray) (bi se of:Int) (a:Option Addr) (n c:Nat) (L:List Ms) (hn:n<=1000000) (w:World) (hs:SL msC 6 w w.heap.size a n L) (R:Bool) (hR:R=standsL ⟨N.data.toList,bi,se,of⟩ (L.map (·.sc))):
  Calls Tryz.prog 79 #[.agg #[.string N,.int .i64 bi,.int .i64 se,.int .i64 of],.slice a n c] w (RetB (.bool R) w):=by
 have hX:RB (w.alloc (.cells #[.string N,.int .i64 bi,.int .i64 se,.int .i64 of] 66)) w.heap.size #[.string N,.int .i64 bi,.int .i64 se,.int .i64 of] 66:=(MapKept.heap_alloc w _).1
 have HB:Hid (Below w.heap.size w (w.alloc (.cells #[.string N,.int .i64 bi,.int .i64 se,.int .i64 of] 66))):=Lib.hid ((Below.refl _ w).alloc (Nat.le_refl _) _)
 have x1:(w.alloc (.cells #[.string N,.int .i64 bi,.int .i64 se,.int .i64 of] 66)).cell? ⟨w.heap.size,1,none⟩=some (.int .i64 bi):=hX.cell
 have x2:(w.alloc (.cells #[.string N,.int .i64 bi,.int .i64 se,.int .i64 of] 66)).cell? ⟨w.heap.size,2,none⟩=some (.int .i64 se):=hX.cell
 have x3:(w.alloc (.cells #[.string N,.int .i64 bi,.int .i64 se,.int .i64 of] 66)).cell? ⟨w.heap.size,3,none⟩=some (.int .i64 of):=hX.cell
 have hL:n=(L.map (·.sc)).length:=by rw [List.length_map];exact hs.len
 clear hX
 unfold standsL at hR
 simp only [] at hR
 rw [<-hL] at hR
 by_cases t1:bi < 1
 ·have HR:Hid (R=false):=Lib.hid (by rw [hR,if_pos (.inl t1)])
  clear hR hs hL
  go_enter Tryz.func79,Tryz.ntmps79
  go_wp2
  go_ret
  exact retB_bool HR.out.symm HB.out
 by_cases t2:3 < bi
 ·have HR:Hid (R=false):=Lib.hid (by rw [hR,if_pos (.inr t2)])
  clear hR hs hL
  go_enter Tryz.func79,Tryz.ntmps79
  go_wp2
  go_ret
  exact retB_bool HR.out.symm HB.out
 rw [if_neg (by omega)] at hR
 by_cases t3:se = -1
 ·rw [if_pos t3] at hR
  subst t3
  by_cases t4:bi=1
  ·have HR:Hid (R=false):=Lib.hid (by rw [hR,decide_eq_false (by simpa using t4)];rfl)
   subst t4
   clear hR hs hL
   go_enter Tryz.func79,Tryz.ntmps79
   go_wp2
   go_ret
   exact retB_bool HR.out.symm HB.out
  ·have e1:(bi != 1)=true:=by rw [bne_iff_ne];exact t4
   have e2:(bi == 1)=false:=by simp;exact t4
   by_cases t5:of=0
   ·have HR:Hid (R=true):=Lib.hid (by rw [hR,decide_eq_true t4,decide_eq_true t5];rfl)
    subst t5
    clear hR hs hL t4
    go_enter Tryz.func79,Tryz.ntmps79
    go_wp2
    go_ret
    exact retB_bool HR.out.symm HB.out
   ·have HR:Hid (R=false):=Lib.hid (by rw [hR,decide_eq_false t5,Bool.and_false])
    have e3:(of == 0)=false:=by simp;exact t5
    clear hR hs hL t4 t5
    go_enter Tryz.func79,Tryz.ntmps79
    go_wp2
    go_ret
    exact retB_bool HR.out.symm HB.out
 rw [if_neg t3] at hR
 have e1:(se == -1)=false:=by simp;exact t3
 have e1':(se != -1)=true:=by rw [bne_iff_ne];exact t3
 by_cases t4:se < 0
 ·have HR:Hid (R=false):=Lib.hid (by rw [hR,decide_eq_false (p:=0<=se) (by omega)];simp)
  have d1:decide (se >= 0)=false:=decide_eq_false (by omega)
  have d2:decide (0<=se)=false:=decide_eq_false (by omega)
  clear hR hs hL t3
  go_enter Tryz.func79,Tryz.ntmps79
  go_wp2
  go_quiet (fail)
  go_wp2
  go_ret
  exact retB_bool HR.out.symm (below_drewN HB.out _)
 obtain ⟨p,rfl⟩:∃ p:Nat,se=p:=⟨se.toNat,by omega⟩
 clear t3 t4
 by_cases t5:p < n
 ·have hpi:(p:Int) < (n:Int):=by omega
  have d3:decide ((p:Int) < (n:Int))=true:=decide_eq_true hpi
  have d3':decide (p < n)=true:=decide_eq_true t5
  have hpl:p < L.length:=by have:=hs.len;omega
  by_cases t6:of < 0
  ·have HR:Hid (R=false):=Lib.hid (by rw [hR,decide_eq_false (p:=0<=of) (by omega)];simp)
   have d1:decide (of >= 0)=false:=decide_eq_false (by omega)
   have d2:decide (0<=of)=false:=decide_eq_false (by omega)
   clear hR hs hL
   go_enter Tryz.func79,Tryz.ntmps79
   go_wp2
   go_quiet (fail)
   go_wp2
   go_ret
   exact retB_bool HR.out.symm (below_drewN HB.out _)
  obtain ⟨b,off,rfl,hB,hc⟩:=(hs.next HB.out).cells (hs.ne t5)
  obtain ⟨c0,c1,c2,c3,c4,c5⟩:=ms_cells (fun j hj=>hc p hpl j hj)
  clear hc c0 c1 c2 c3 c5
  have hg:(L.map (·.sc))[p]?=some L[p].sc:=by rw [List.getElem?_map,List.getElem?_eq_getElem hpl];rfl
  obtain ⟨D,hD⟩:∃ D:ByteArray,D=⟨L[p].sc.data.toArray⟩:=⟨_,rfl⟩
  have hDs:D.size=L[p].sc.data.length:=by rw [hD];show L[p].sc.data.toArray.size=_;simp
  rw [<-hD] at c4
  have hR2:R=decide (of<=(D.size:Int)):=by
   rw [hR,decide_eq_true (p:=0<=(p:Int)) (by omega),decide_eq_true (p:=0<=of) (by omega),d3,Int.toNat_natCast,hg,hDs];simp
  have HR:=Lib.hid hR2
  have t6i:(0:Int)<=of:=by omega
  have d1:decide (of >= 0)=true:=decide_eq_true t6i
  have d2:decide (0<=of)=true:=decide_eq_true t6i
  clear hR hR2 hs hL hg hD hDs hB
  go_enter Tryz.func79,Tryz.ntmps79
  go_wp2
  go_quiet (fail)
  go_wp2
  go_ret
  exact retB_bool HR.out.symm (below_drewN HB.out _)
 ·have HR:Hid (R=false):=Lib.hid (by rw [hR,decide_eq_false (p:=(p:Int) < (n:Int)) (by omega)];simp)
  have hpi:¬ (p:Int) < (n:Int):=by omega
  have d3:decide ((p:Int) < (n:Int))=false:=decide_eq_false hpi
  have d3':decide (p < n)=false:=decide_eq_false t5
  clear hR hs hL
  go_enter Tryz.func79,Tryz.ntmps79
  go_wp2
  go_quiet (fail)
  go_wp2
  go_ret
  exact retB_bool HR.out.symm (below_drewN HB.out _)
open Go.ChangeShapes Go.WideShapes Go.Deep Go.RowKit
theorem ba_ne {N:ByteArray} (h:N.data.toList ≠ []):(N.toList == [])=false/\N.toList.isEmpty=false/\¬ N.toList=[]:=by
 have h2:¬ N.toList=[]:=by rw [ByteArray.toList_eq];exact h
 refine ⟨by rw [beq_eq_false_iff_ne];exact h2,?_,h2⟩
 cases e:N.toList with
 | nil=>exact absurd e h2
 | cons=>rfl
theorem ba_none {N:ByteArray} (h:N.data.toList=[]):N=⟨#[]⟩:=ByteArray.ext (Array.toList_inj.1 h)
def keysOf (ps:List (ByteArray × Int)):List (List UInt8):=ps.map (·.1.data.toList)
theorem keys_mem {ps:List (ByteArray × Int)} {N:ByteArray}:N.data.toList ∈ keysOf ps ↔ ∃ p ∈ ps,p.1=N:=by
 unfold keysOf
 rw [List.mem_map]
 constructor
 ·rintro ⟨p,hp,h⟩;exact ⟨p,hp,ByteArray.ext (Array.toList_inj.1 h)⟩
 ·rintro ⟨p,hp,h⟩;exact ⟨p,hp,by rw [h]⟩
theorem keys_snoc (ps:List (ByteArray × Int)) (N:ByteArray) (v:Int):keysOf (ps ++ [(N,v)])=keysOf ps ++ [N.data.toList]:=by unfold keysOf;simp
theorem areSyms_any (a:Option Addr) (n c:Nat) (l:List Sy) (a2:Option Addr) (n2 c2:Nat) (L:List Ms) (hn2:n2<=1000000) (hn:n<=maxLen) (w:World) (hs:SL syC 4 w w.heap.size a n l) (hs2:SL msC 6 w w.heap.size a2 n2 L) (hg:∀ s ∈ l,GoodSy s) (hT:TabO w):
  Calls Tryz.prog 49 #[.slice a n c,.slice a2 n2 c2] w (RetB (.bool (symsL l (L.map (·.sc)))) w):=by
 have hln:=hs.len
 obtain ⟨R,hR⟩:∃ R,R=symsL l (L.map (·.sc)):=⟨_,rfl⟩
 rw [<-hR]
 have hni:(n:Int)<=9223372036854775807:=by unfold maxLen at hn;omega
 by_cases h1:128 < n
 ·have h1i:(128:Int) < (n:Int):=by omega
  have HR:Hid (R=false):=Lib.hid (by rw [hR];unfold symsL;rw [decide_eq_false (by omega)];rfl)
  clear hs hs2 hg hT hR hln
  go_enter Tryz.func49,Tryz.ntmps49
  go_wp2
  go_ret
  exact retB_bool HR.out.symm (Below.refl _ _)
 have h1i:¬ (128:Int) < (n:Int):=by omega
 have hR1:R=symsR (L.map (·.sc)) [] l:=by rw [hR];unfold symsL;rw [decide_eq_true (by omega)];rfl
 have HR1:=Lib.hid hR1
 have HS:=Lib.hid hs
 have HS2:=Lib.hid hs2
 have HG:=Lib.hid hg
 have HT:=Lib.hid hT
 have HLn:=Lib.hid hln
 obtain ⟨M,hM⟩:∃ M,M=w.heap.size:=⟨_,rfl⟩
 have HME:=Lib.hid hM
 have HN0:Hid (NM (w.alloc (.map #[] 0)) M []):=Lib.hid ⟨#[],0,by rw [hM];exact (MapKept.heap_alloc w _).1,rfl⟩
 have HB0:Hid (Below w.heap.size w (w.alloc (.map #[] 0))):=Lib.hid ((Below.refl _ _).alloc (Nat.le_refl _) _)
 have hmm:=@run_makeMap Tryz.prog
 clear hs hs2 hg hT hR hR1 hln hM h1
 go_enter Tryz.func49,Tryz.ntmps49
 go_wp2
 try rw [<-HME.out]
 clear hmm
 go_loopw [16] (fun i wr=>∃ (k:Nat) (wx:World) (ps:List (ByteArray × Int)),wx=wr/\k<=n/\i=.int .i64 k/\Below w.heap.size w wx/\NM wx M ps/\Hid ((∀ p ∈ ps,p.1.size<=maxLen)/\R=symsR (L.map (·.sc)) (keysOf ps) (l.drop k))) (fun i _=>n - (intOf i).toNat)
 case atStart=>exact ⟨0,_,[],rfl,by omega,rfl,HB0.out,HN0.out,Lib.hid ⟨by simp,by rw [HR1.out];rfl⟩⟩
 case round=>
  obtain ⟨k,wx,ps,rfl,hk,rfl,hb,hm,HP⟩:=hrel
  have HBR:=Lib.hid hb
  have HMP:=Lib.hid hm
  clear hb hm HB0 HN0
  by_cases hlt:k < n
  ·have hlti:(k:Int) < (n:Int):=by omega
   have hk1:k < l.length:=by have:=HLn.out;omega
   obtain ⟨b,off,rfl,hB,hc⟩:=(HS.out.next HBR.out).cells (HS.out.ne hlt)
   obtain ⟨c0,c1,c2',c3⟩:=sy_cells (fun j hj=>hc k hk1 j hj)
   have hgk:=HG.out l[k] (List.getElem_mem hk1)
   have hdr:l.drop k=l[k] :: l.drop (k+1):=drop_cons hk1
   obtain ⟨sy,hsy⟩:∃ sy,sy=l[k]:=⟨_,rfl⟩
   rw [<-hsy] at c0 c1 c2' c3 hgk hdr
   clear hsy hc
   obtain ⟨nm,bi,se,of⟩:=sy
   obtain ⟨N,hN⟩:∃ N:ByteArray,N=⟨nm.toArray⟩:=⟨_,rfl⟩
   have hNl:nm=N.data.toList:=by rw [hN]
   have hNs:N.size<=maxLen:=by have h1:=hgk.name;simp only [] at h1;rw [hNl] at h1;simpa using h1
   simp only [] at c0 c1 c2' c3
   rw [<-hN] at c0
   clear hN
   subst hNl
   have hP:R=symsR (L.map (·.sc)) (keysOf ps) (⟨N.data.toList,bi,se,of⟩ :: l.drop (k+1)):=by rw [<-hdr];exact HP.out.2
   unfold symsR at hP
   simp only [] at hP
   obtain ⟨st,hst⟩:∃ st,st=standsL ⟨N.data.toList,bi,se,of⟩ (L.map (·.sc)):=⟨_,rfl⟩
   rw [<-hst] at hP
   have HSt:Hid (∀ u,SL msC 6 u u.heap.size a2 n2 L->Calls Tryz.prog 79 #[.agg #[.string N,.int .i64 bi,.int .i64 se,.int .i64 of],.slice a2 n2 c2] u (RetB (.bool st) u)):=Lib.hid fun u hu=>stands_any N bi se of a2 n2 c2 L hn2 u hu st hst
   have HNs:=Lib.hid hNs
   have HIs:Hid (∀ u,TabO u->Calls Tryz.prog 80 #[.string N] u (RetB (.bool (isNmL N.data.toList)) u)):=Lib.hid fun u hu=>IsName_any N hNs u hu
   obtain ⟨Z,hZ⟩:∃ Z,Z=wx.heap.size:=⟨_,rfl⟩
   have HEZ:=Lib.hid hZ
   have HA:Hid (Below wx.heap.size wx (wx.alloc (.cells #[.string N,.int .i64 bi,.int .i64 se,.int .i64 of] 66))):=Lib.hid ((Below.refl _ wx).alloc (Nat.le_refl _) _)
   have HRZ:Hid (RB (wx.alloc (.cells #[.string N,.int .i64 bi,.int .i64 se,.int .i64 of] 66)) Z #[.string N,.int .i64 bi,.int .i64 se,.int .i64 of] 66):=Lib.hid (by rw [hZ];exact (MapKept.heap_alloc wx _).1)
   have HSec:Hid (SL msC 6 (wx.alloc (.cells #[.string N,.int .i64 bi,.int .i64 se,.int .i64 of] 66)) (wx.alloc (.cells #[.string N,.int .i64 bi,.int .i64 se,.int .i64 of] 66)).heap.size a2 n2 L):=Lib.hid ((HS2.out.next HBR.out).next HA.out)
   have HMap:Hid (NM (wx.alloc (.cells #[.string N,.int .i64 bi,.int .i64 se,.int .i64 of] 66)) M ps):=Lib.hid (HMP.out.next HA.out)
   have HPS:=Lib.hid HP.out.1
   clear hdr hgk hst hB HP hZ hNs HMP
   cases st
   ·have HF:Hid (R=false):=Lib.hid (by rw [hP,if_pos rfl])
    clear hP
    have HBR2:=Lib.hid (after HBR.out HA.out)
    go_wp2_with fail
    try rw [<-HEZ.out]
    generalize (wx.alloc (.cells #[.string N,.int .i64 bi,.int .i64 se,.int .i64 of] 66))=W at HA HRZ HBR2 HSec HMap ⊢
    refine (HSt.out _ HSec.out).mono ?_
    rintro e u ⟨rfl,hb⟩
    have HBR3:=Lib.hid (after HBR2.out hb)
    replace HMap:=Lib.hid (HMap.out.next hb)
    replace HRZ:=Lib.hid (HRZ.out.next hb)
    clear hb
    have z0:u.cell? ⟨Z,0,none⟩=some (.string N):=HRZ.out.cell
    have z1:u.cell? ⟨Z,1,none⟩=some (.int .i64 bi):=HRZ.out.cell
    clear z0 z1
    go_wp2
    go_ret
    exact retB_bool HF.out.symm HBR3.out
   rw [if_neg (by decide)] at hP
   by_cases hem:N.data.toList=[]/\bi=1
   ·rw [if_pos hem] at hP
    obtain ⟨he1,he2⟩:=hem
    have he3:=ba_none he1
    clear he1
    subst he3 he2
    have HF:=Lib.hid hP
    clear hP
    have HBR2:=Lib.hid (after HBR.out HA.out)
    go_wp2_with fail
    try rw [<-HEZ.out]
    generalize (wx.alloc (.cells #[.string ⟨#[]⟩,.int .i64 1,.int .i64 se,.int .i64 of] 66))=W at HA HRZ HBR2 HSec HMap ⊢
    refine (HSt.out _ HSec.out).mono ?_
    rintro e u ⟨rfl,hb⟩
    have HBR3:=Lib.hid (after HBR2.out hb)
    replace HMap:=Lib.hid (HMap.out.next hb)
    replace HRZ:=Lib.hid (HRZ.out.next hb)
    clear hb
    have z0:u.cell? ⟨Z,0,none⟩=some (.string ⟨#[]⟩):=HRZ.out.cell
    have z1:u.cell? ⟨Z,1,none⟩=some (.int .i64 1):=HRZ.out.cell
    go_wp2
    go_roundw
    case rel=>exact ⟨k+1,_,ps,rfl,by omega,by go_num,HBR3.out,HMap.out,Lib.hid ⟨HPS.out,HF.out⟩⟩
    case measure=>simp [intOf];omega
   rw [if_neg hem] at hP
   by_cases hin:N.data.toList ∈ keysOf ps
   ·rw [if_pos (.inl hin)] at hP
    have HF:=Lib.hid hP
    have HIN:=Lib.hid (keys_mem.1 hin)
    clear hP hin
    by_cases hne:N.data.toList=[]
    ·have he3:=ba_none hne
     have hbi:bi ≠ 1:=fun h=>hem ⟨hne,h⟩
     have e1:(bi == 1)=false:=by simp;exact hbi
     have e2:(bi != 1)=true:=by rw [bne_iff_ne];exact hbi
     clear hne hem hbi
     subst he3
     have HBR2:=Lib.hid (after HBR.out HA.out)
     go_wp2_with fail
     try rw [<-HEZ.out]
     generalize (wx.alloc (.cells #[.string ⟨#[]⟩,.int .i64 bi,.int .i64 se,.int .i64 of] 66))=W at HA HRZ HBR2 HSec HMap ⊢
     refine (HSt.out _ HSec.out).mono ?_
     rintro e u ⟨rfl,hb⟩
     have HBR3:=Lib.hid (after HBR2.out hb)
     replace HMap:=Lib.hid (HMap.out.next hb)
     replace HRZ:=Lib.hid (HRZ.out.next hb)
     clear hb
     have z0:u.cell? ⟨Z,0,none⟩=some (.string ⟨#[]⟩):=HRZ.out.cell
     have z1:u.cell? ⟨Z,1,none⟩=some (.int .i64 bi):=HRZ.out.cell
     obtain ⟨vv,hlk⟩:=nm_yes HMap.out HPS.out HIN.out
     go_wp2
     go_ret
     exact retB_bool HF.out.symm HBR3.out
    ·obtain ⟨e1,e2,e3⟩:=ba_ne hne
     clear hne hem
     have HBR2:=Lib.hid (after HBR.out HA.out)
     go_wp2_with fail
     try rw [<-HEZ.out]
     generalize (wx.alloc (.cells #[.string N,.int .i64 bi,.int .i64 se,.int .i64 of] 66))=W at HA HRZ HBR2 HSec HMap ⊢
     refine (HSt.out _ HSec.out).mono ?_
     rintro e u ⟨rfl,hb⟩
     have HBR3:=Lib.hid (after HBR2.out hb)
     replace HMap:=Lib.hid (HMap.out.next hb)
     replace HRZ:=Lib.hid (HRZ.out.next hb)
     clear hb
     have z0:u.cell? ⟨Z,0,none⟩=some (.string N):=HRZ.out.cell
     have z1:u.cell? ⟨Z,1,none⟩=some (.int .i64 bi):=HRZ.out.cell
     obtain ⟨vv,hlk⟩:=nm_yes HMap.out HPS.out HIN.out
     go_wp2
     go_ret
     exact retB_bool HF.out.symm HBR3.out
   have HNI:Hid (∀ p ∈ ps,p.1 ≠ N):=Lib.hid (fun p hp h=>hin (keys_mem.2 ⟨p,hp,h⟩))
   cases hnm:isNmL N.data.toList
   ·rw [if_pos (.inr hnm)] at hP
    have HF:=Lib.hid hP
    rw [hnm] at HIs
    clear hP hin hnm
    by_cases hne:N.data.toList=[]
    ·have he3:=ba_none hne
     have hbi:bi ≠ 1:=fun h=>hem ⟨hne,h⟩
     have e1:(bi == 1)=false:=by simp;exact hbi
     have e2:(bi != 1)=true:=by rw [bne_iff_ne];exact hbi
     clear hne hem hbi
     subst he3
     have HBR2:=Lib.hid (after HBR.out HA.out)
     go_wp2_with fail
     try rw [<-HEZ.out]
     generalize (wx.alloc (.cells #[.string ⟨#[]⟩,.int .i64 bi,.int .i64 se,.int .i64 of] 66))=W at HA HRZ HBR2 HSec HMap ⊢
     refine (HSt.out _ HSec.out).mono ?_
     rintro e u ⟨rfl,hb⟩
     have HBR3:=Lib.hid (after HBR2.out hb)
     replace HMap:=Lib.hid (HMap.out.next hb)
     replace HRZ:=Lib.hid (HRZ.out.next hb)
     clear hb
     have z0:u.cell? ⟨Z,0,none⟩=some (.string ⟨#[]⟩):=HRZ.out.cell
     have z1:u.cell? ⟨Z,1,none⟩=some (.int .i64 bi):=HRZ.out.cell
     have hlk:=nm_no HMap.out HPS.out HNs.out HNI.out
     go_wp2_with fail
     refine (HIs.out _ ((HT.out.next HBR3.out))).mono ?_
     rintro e u2 ⟨rfl,hb⟩
     have HBR4:=Lib.hid (after HBR3.out hb)
     clear hb hlk z0 z1
     go_wp2
     go_ret
     exact retB_bool HF.out.symm HBR4.out
    ·obtain ⟨e1,e2,e3⟩:=ba_ne hne
     clear hne hem
     have HBR2:=Lib.hid (after HBR.out HA.out)
     go_wp2_with fail
     try rw [<-HEZ.out]
     generalize (wx.alloc (.cells #[.string N,.int .i64 bi,.int .i64 se,.int .i64 of] 66))=W at HA HRZ HBR2 HSec HMap ⊢
     refine (HSt.out _ HSec.out).mono ?_
     rintro e u ⟨rfl,hb⟩
     have HBR3:=Lib.hid (after HBR2.out hb)
     replace HMap:=Lib.hid (HMap.out.next hb)
     replace HRZ:=Lib.hid (HRZ.out.next hb)
     clear hb
     have z0:u.cell? ⟨Z,0,none⟩=some (.string N):=HRZ.out.cell
     have z1:u.cell? ⟨Z,1,none⟩=some (.int .i64 bi):=HRZ.out.cell
     have hlk:=nm_no HMap.out HPS.out HNs.out HNI.out
     go_wp2_with fail
     refine (HIs.out _ ((HT.out.next HBR3.out))).mono ?_
     rintro e u2 ⟨rfl,hb⟩
     have HBR4:=Lib.hid (after HBR3.out hb)
     clear hb hlk z0 z1
     go_wp2
     go_ret
     exact retB_bool HF.out.symm HBR4.out
   ·rw [if_neg (by rw [hnm];rintro (h | h);exact hin h;cases h)] at hP
    have HF:=Lib.hid hP
    rw [hnm] at HIs
    clear hP hin hnm
    by_cases hne:N.data.toList=[]
    ·have he3:=ba_none hne
     have hbi:bi ≠ 1:=fun h=>hem ⟨hne,h⟩
     have e1:(bi == 1)=false:=by simp;exact hbi
     have e2:(bi != 1)=true:=by rw [bne_iff_ne];exact hbi
     clear hne hem hbi
     subst he3
     have HBR2:=Lib.hid (after HBR.out HA.out)
     go_wp2_with fail
     try rw [<-HEZ.out]
     generalize (wx.alloc (.cells #[.string ⟨#[]⟩,.int .i64 bi,.int .i64 se,.int .i64 of] 66))=W at HA HRZ HBR2 HSec HMap ⊢
     refine (HSt.out _ HSec.out).mono ?_
     rintro e u ⟨rfl,hb⟩
     have HBR3:=Lib.hid (after HBR2.out hb)
     replace HMap:=Lib.hid (HMap.out.next hb)
     replace HRZ:=Lib.hid (HRZ.out.next hb)
     clear hb
     have z0:u.cell? ⟨Z,0,none⟩=some (.string ⟨#[]⟩):=HRZ.out.cell
     have z1:u.cell? ⟨Z,1,none⟩=some (.int .i64 bi):=HRZ.out.cell
     have hlk:=nm_no HMap.out HPS.out HNs.out HNI.out
     go_wp2_with fail
     refine (HIs.out _ ((HT.out.next HBR3.out))).mono ?_
     rintro e u2 ⟨rfl,hb⟩
     have HBR4:=Lib.hid (after HBR3.out hb)
     replace HMap:=Lib.hid (HMap.out.next hb)
     replace HRZ:=Lib.hid (HRZ.out.next hb)
     clear hb hlk z0 z1
     have z0:u2.cell? ⟨Z,0,none⟩=some (.string ⟨#[]⟩):=HRZ.out.cell
     obtain ⟨u3,hput,hmap,hgr⟩:=nm_put HMap.out HPS.out ⟨#[]⟩ (k:Int) HNs.out HNI.out
     have HMap3:=Lib.hid hmap
     have HBR5:Hid (Below w.heap.size w u3):=Lib.hid (HBR4.out.grown hgr HBR4.out.size (fun j hj=>by cases hj;rw [HME.out];exact Nat.le_refl _))
     clear hmap hgr
     go_wp2
     go_roundw
     case rel=>exact ⟨k+1,_,_,rfl,by omega,by go_num,HBR5.out,HMap3.out,Lib.hid ⟨by
      intro p hp
      rcases List.mem_append.1 hp with hp | hp
      ·exact HPS.out p hp
      ·rw [List.mem_singleton] at hp;subst hp;exact HNs.out,by rw [keys_snoc];exact HF.out⟩⟩
     case measure=>simp [intOf];omega
    ·obtain ⟨e1,e2,e3⟩:=ba_ne hne
     clear hne hem
     have HBR2:=Lib.hid (after HBR.out HA.out)
     go_wp2_with fail
     try rw [<-HEZ.out]
     generalize (wx.alloc (.cells #[.string N,.int .i64 bi,.int .i64 se,.int .i64 of] 66))=W at HA HRZ HBR2 HSec HMap ⊢
     refine (HSt.out _ HSec.out).mono ?_
     rintro e u ⟨rfl,hb⟩
     have HBR3:=Lib.hid (after HBR2.out hb)
     replace HMap:=Lib.hid (HMap.out.next hb)
     replace HRZ:=Lib.hid (HRZ.out.next hb)
     clear hb
     have z0:u.cell? ⟨Z,0,none⟩=some (.string N):=HRZ.out.cell
     have z1:u.cell? ⟨Z,1,none⟩=some (.int .i64 bi):=HRZ.out.cell
     have hlk:=nm_no HMap.out HPS.out HNs.out HNI.out
     go_wp2_with fail
     refine (HIs.out _ ((HT.out.next HBR3.out))).mono ?_
     rintro e u2 ⟨rfl,hb⟩
     have HBR4:=Lib.hid (after HBR3.out hb)
     replace HMap:=Lib.hid (HMap.out.next hb)
     replace HRZ:=Lib.hid (HRZ.out.next hb)
     clear hb hlk z0 z1
     have z0:u2.cell? ⟨Z,0,none⟩=some (.string N):=HRZ.out.cell
     obtain ⟨u3,hput,hmap,hgr⟩:=nm_put HMap.out HPS.out N (k:Int) HNs.out HNI.out
     have HMap3:=Lib.hid hmap
     have HBR5:Hid (Below w.heap.size w u3):=Lib.hid (HBR4.out.grown hgr HBR4.out.size (fun j hj=>by cases hj;rw [HME.out];exact Nat.le_refl _))
     clear hmap hgr
     go_wp2
     go_roundw
     case rel=>exact ⟨k+1,_,_,rfl,by omega,by go_num,HBR5.out,HMap3.out,Lib.hid ⟨by
      intro p hp
      rcases List.mem_append.1 hp with hp | hp
      ·exact HPS.out p hp
      ·rw [List.mem_singleton] at hp;subst hp;exact HNs.out,by rw [keys_snoc];exact HF.out⟩⟩
     case measure=>simp [intOf];omega
  ·have hlti:¬ (k:Int) < (n:Int):=by omega
   have HF:Hid (R=true):=Lib.hid (by
    have:=HP.out.2
    rw [List.drop_eq_nil_of_le (by have:=HLn.out;omega)] at this
    exact this)
   go_wp2
   go_ret
   exact retB_bool HF.out.symm HBR.out
open Go.ChangeShapes Go.WideShapes Go.Deep Go.RowKit
theorem areSecs_any (a:Option Addr) (n c:Nat) (L:List Ms) (sy:Int) (hn:n<=maxLen) (w:World) (hs:SL msC 6 w w.heap.size a n L) (hno:Notes w w.heap.size L) (hg:∀ m ∈ L,GoodSc m.sc) (hT:TabP w):
  Calls Tryz.prog 48 #[.slice a n c,.int .i64 sy] w (RetB (.bool (secsL (L.map (·.sc)) sy)) w):=by
 have hln:=hs.len
 obtain ⟨R,hR⟩:∃ R,R=secsL (L.map (·.sc)) sy:=⟨_,rfl⟩
 rw [<-hR]
 have hni:(n:Int)<=9223372036854775807:=by unfold maxLen at hn;omega
 by_cases h1:32 < n
 ·have h1i:(32:Int) < (n:Int):=by omega
  have HR:Hid (R=false):=Lib.hid (by rw [hR];unfold secsL;rw [decide_eq_false (by rw [List.length_map];omega)];rfl)
  clear hs hno hg hT hR hln
  go_enter Tryz.func48,Tryz.ntmps48
  go_wp2
  go_ret
  exact retB_bool HR.out.symm (Below.refl _ _)
 have h1i:¬ (32:Int) < (n:Int):=by omega
 have hR1:R=secsR sy [] (L.map (·.sc)):=by rw [hR];unfold secsL;rw [decide_eq_true (by rw [List.length_map];omega)];rfl
 have HR1:=Lib.hid hR1
 have HS:=Lib.hid hs
 have HNo:=Lib.hid hno
 have HG:=Lib.hid hg
 have HT:=Lib.hid hT
 have HLn:=Lib.hid hln
 obtain ⟨M,hM⟩:∃ M,M=w.heap.size:=⟨_,rfl⟩
 have HME:=Lib.hid hM
 have HN0:Hid (NM (w.alloc (.map #[] 0)) M []):=Lib.hid ⟨#[],0,by rw [hM];exact (MapKept.heap_alloc w _).1,rfl⟩
 have HB0:Hid (Below w.heap.size w (w.alloc (.map #[] 0))):=Lib.hid ((Below.refl _ _).alloc (Nat.le_refl _) _)
 have hmm:=@run_makeMap Tryz.prog
 clear hs hno hg hT hR hR1 hln hM h1
 go_enter Tryz.func48,Tryz.ntmps48
 go_wp2
 try rw [<-HME.out]
 clear hmm
 go_loopw [18] (fun i wr=>∃ (k:Nat) (wx:World) (ps:List (ByteArray × Int)),wx=wr/\k<=n/\i=.int .i64 k/\Below w.heap.size w wx/\NM wx M ps/\Hid ((∀ p ∈ ps,p.1.size<=maxLen)/\R=secsR sy (keysOf ps) ((L.drop k).map (·.sc)))) (fun i _=>n - (intOf i).toNat)
 case atStart=>exact ⟨0,_,[],rfl,by omega,rfl,HB0.out,HN0.out,Lib.hid ⟨by simp,by rw [HR1.out];rfl⟩⟩
 case round=>
  obtain ⟨k,wx,ps,rfl,hk,rfl,hb,hm,HP⟩:=hrel
  have HBR:=Lib.hid hb
  have HMP:=Lib.hid hm
  clear hb hm HB0 HN0
  by_cases hlt:k < n
  ·have hlti:(k:Int) < (n:Int):=by omega
   have hk1:k < L.length:=by have:=HLn.out;omega
   obtain ⟨b,off,rfl,hB,hc⟩:=(HS.out.next HBR.out).cells (HS.out.ne hlt)
   obtain ⟨c0,c1,c2,c3,c4,c5⟩:=ms_cells (fun j hj=>hc k hk1 j hj)
   have hgk:=HG.out L[k] (List.getElem_mem hk1)
   have hnk:=HNo.out L[k] (List.getElem_mem hk1)
   have hdr:L.drop k=L[k] :: L.drop (k+1):=drop_cons hk1
   obtain ⟨ms,hms⟩:∃ ms,ms=L[k]:=⟨_,rfl⟩
   rw [<-hms] at c0 c1 c2 c3 c4 c5 hgk hdr hnk
   clear hms hc
   obtain ⟨⟨nm,ki,kp,al,dt,rl⟩,ad,cp⟩:=ms
   simp only [] at c0 c1 c2 c3 c4 c5 hnk
   obtain ⟨N,hN⟩:∃ N:ByteArray,N=⟨nm.toArray⟩:=⟨_,rfl⟩
   obtain ⟨B,hBB⟩:∃ B:ByteArray,B=⟨dt.toArray⟩:=⟨_,rfl⟩
   have hNl:nm=N.data.toList:=by rw [hN]
   have hBl:dt=B.data.toList:=by rw [hBB]
   rw [<-hN] at c0
   rw [<-hBB] at c4
   clear hN hBB
   subst hNl hBl
   have hNs:N.size<=maxLen:=by have h1:=hgk.name;simp only [] at h1;simpa using h1
   have hBs:B.size<=maxLen:=by have h1:=hgk.data;simp only [] at h1;simpa using h1
   have hgr:=hgk.rels
   simp only [] at hgr
   obtain ⟨nr,hnr⟩:∃ nr,nr=rl.length:=⟨_,rfl⟩
   rw [<-hnr] at c5 hnk
   have HNr:=Lib.hid hnr
   have hP:R=secsR sy (keysOf ps) (⟨N.data.toList,ki,kp,al,B.data.toList,rl⟩ :: (L.drop (k+1)).map (·.sc)):=by
    have:=HP.out.2
    rw [hdr,List.map_cons] at this
    exact this
   unfold secsR at hP
   simp only [] at hP
   have HNs:=Lib.hid hNs
   have HIs:Hid (∀ u,TabP u->SL rlC 4 u u.heap.size ad nr rl->Calls Tryz.prog 78 #[.agg #[.string N,.int .i64 ki,.bool kp,.int .i64 al,.string B,.slice ad nr cp]] u (RetB (.bool (secR ⟨N.data.toList,ki,kp,al,B.data.toList,rl⟩)) u)):=Lib.hid fun u hu h=>pIs_core N B ki kp al ad nr cp rl hNs hBs u h hgr hu
   have h64:secR ⟨N.data.toList,ki,kp,al,B.data.toList,rl⟩=true->nr<=64:=fun h=>by
    have:=(head_iff.1 (sec_iff.1 h).1).2.2.2.2.2.2
    simp only [] at this;omega
   generalize secR ⟨N.data.toList,ki,kp,al,B.data.toList,rl⟩=st at HIs hP h64
   obtain ⟨Z,hZ⟩:∃ Z,Z=wx.heap.size:=⟨_,rfl⟩
   have HEZ:=Lib.hid hZ
   have HA:Hid (Below wx.heap.size wx (wx.alloc (.cells #[.string N,.int .i64 ki,.bool kp,.int .i64 al,.string B,.slice ad nr cp] 57))):=Lib.hid ((Below.refl _ wx).alloc (Nat.le_refl _) _)
   have HRZ:Hid (RB (wx.alloc (.cells #[.string N,.int .i64 ki,.bool kp,.int .i64 al,.string B,.slice ad nr cp] 57)) Z #[.string N,.int .i64 ki,.bool kp,.int .i64 al,.string B,.slice ad nr cp] 57):=Lib.hid (by rw [hZ];exact (MapKept.heap_alloc wx _).1)
   have HMap:Hid (NM (wx.alloc (.cells #[.string N,.int .i64 ki,.bool kp,.int .i64 al,.string B,.slice ad nr cp] 57)) M ps):=Lib.hid (HMP.out.next HA.out)
   have HBR2:=Lib.hid (after HBR.out HA.out)
   have H64:=Lib.hid h64
   clear h64
   have HRl:Hid (SL rlC 4 w w.heap.size ad nr rl):=Lib.hid hnk
   have HPS:=Lib.hid HP.out.1
   have HZM:Hid (M < Z):=Lib.hid (by obtain ⟨es,cl,h,-⟩:=HMP.out;rw [hZ];exact lt_of_block h)
   clear hdr hgk hB HP hNs hBs HMP hnk hgr hnr
   by_cases hin:N.data.toList ∈ keysOf ps
   ·rw [if_pos (.inl hin)] at hP
    have HF:=Lib.hid hP
    have HIN:=Lib.hid (keys_mem.1 hin)
    obtain ⟨vv,hlk⟩:=nm_yes HMap.out HPS.out HIN.out
    rw [hZ] at HRZ
    have z0:(wx.alloc (.cells #[.string N,.int .i64 ki,.bool kp,.int .i64 al,.string B,.slice ad nr cp] 57)).cell? ⟨wx.heap.size,0,none⟩=some (.string N):=HRZ.out.cell
    clear hP hin hZ
    go_wp2
    go_ret
    exact retB_bool HF.out.symm HBR2.out
   have hlk:=nm_no HMap.out HPS.out HNs.out (fun p hp h=>hin (keys_mem.2 ⟨p,hp,h⟩))
   have HNI:Hid (∀ p ∈ ps,p.1 ≠ N):=Lib.hid (fun p hp h=>hin (keys_mem.2 ⟨p,hp,h⟩))
   cases st
   ·have HF:Hid (R=false):=Lib.hid (by rw [hP,if_pos (.inr rfl)])
    clear hP hin hZ
    go_wp2_with fail
    clear hlk
    try rw [<-HEZ.out]
    refine (HIs.out _ (HT.out.next HBR2.out) (HRl.out.next HBR2.out)).mono ?_
    rintro e u ⟨rfl,hb⟩
    have HBR3:=Lib.hid (after HBR2.out hb)
    clear hb c0 c1 c2 c3 c4 c5
    go_wp2
    go_ret
    exact retB_bool HF.out.symm HBR3.out
   rw [if_neg (by rintro (h | h);exact hin h;cases h)] at hP
   clear hin hZ
   go_wp2_with fail
   clear hlk
   try rw [<-HEZ.out]
   generalize (wx.alloc (.cells #[.string N,.int .i64 ki,.bool kp,.int .i64 al,.string B,.slice ad nr cp] 57))=W at HA HRZ HBR2 HMap ⊢
   refine (HIs.out _ (HT.out.next HBR2.out) (HRl.out.next HBR2.out)).mono ?_
   rintro e u ⟨rfl,hb⟩
   have HBR3:=Lib.hid (after HBR2.out hb)
   replace HMap:=Lib.hid (HMap.out.next hb)
   replace HRZ:=Lib.hid (HRZ.out.next hb)
   clear hb c0 c1 c2 c3 c4 c5 HBR2 HA
   have z0:u.cell? ⟨Z,0,none⟩=some (.string N):=HRZ.out.cell
   obtain ⟨u3,hput,hmap,hgr⟩:=nm_put HMap.out HPS.out N (k:Int) HNs.out HNI.out
   have HMap3:=Lib.hid hmap
   have HBR5:Hid (Below w.heap.size w u3):=Lib.hid (HBR3.out.grown hgr HBR3.out.size (fun j hj=>by cases hj;rw [HME.out];exact Nat.le_refl _))
   have HRZ3:Hid (RB u3 Z #[.string N,.int .i64 ki,.bool kp,.int .i64 al,.string B,.slice ad nr cp] 57):=Lib.hid ((hgr.block Z (lt_of_block HRZ.out) (fun e=>by
    have h1:M=Z:=by cases e;rfl
    have h2:=HZM.out
    omega)).trans HRZ.out)
   have hr64:nr<=64:=H64.out (by first | trivial | rfl)
   have hnri:(nr:Int)<=64:=by omega
   have z5:u3.cell? ⟨Z,5,none⟩=some (.slice ad nr cp):=HRZ3.out.cell
   have HP3:=Lib.hid hP
   clear hmap hgr hP
   go_wp2
   clear hput z0 z5
   go_loopw [43] (fun i wr=>∃ (j:Nat) (wy:World),wy=wr/\j<=nr/\i=.int .i64 j/\Below u3.heap.size u3 wy/\Hid (∀ q (h:q < rl.length),q < j->¬ sy<=rl[q].sym)) (fun i _=>nr - (intOf i).toNat)
   case atStart=>exact ⟨0,_,rfl,by omega,rfl,Below.refl _ _,Lib.hid (fun q h hq=>by omega)⟩
   case round=>
    obtain ⟨j,wy,rfl,hj,rfl,hby,HQ⟩:=hrel
    have HBY:=Lib.hid hby
    have HBW:=Lib.hid (after HBR5.out hby)
    clear hby
    by_cases hlt2:j < nr
    ·have hlti2:(j:Int) < (nr:Int):=by omega
     have hj1:j < rl.length:=by have:=HNr.out;omega
     obtain ⟨b2,off2,rfl,hB2,hc2⟩:=(HRl.out.next HBW.out).cells (HRl.out.ne hlt2)
     obtain ⟨d0,d1,d2,d3⟩:=rl_cells (fun q hq=>hc2 j hj1 q hq)
     obtain ⟨x,hx⟩:∃ x,x=rl[j]:=⟨_,rfl⟩
     rw [<-hx] at d0 d1 d2 d3
     have HX:=Lib.hid hx
     clear hx hc2
     obtain ⟨r0,r1,r2,r3⟩:=x
     simp only [] at d0 d1 d2 d3
     by_cases hge:sy<=r2
     ·have HF:Hid (R=false):=Lib.hid (by
       rw [HP3.out,if_pos]
       rw [List.any_eq_true]
       exact ⟨rl[j],List.getElem_mem hj1,by rw [<-HX.out];exact decide_eq_true hge⟩)
      have hBA:Hid (Below w.heap.size w (wy.alloc (.cells #[.int .i64 r0,.int .i64 r1,.int .i64 r2,.int .i64 r3] 82))):=Lib.hid (HBW.out.alloc HBW.out.size _)
      go_wp2
      go_ret
      exact retB_bool HF.out.symm hBA.out
     ·have HQ2:Hid (∀ q (h:q < rl.length),q < j+1->¬ sy<=rl[q].sym):=Lib.hid (fun q h hq=>by
       by_cases e:q=j
       ·subst e;rw [<-HX.out];exact hge
       ·exact HQ.out q h (by omega))
      have hBA:Hid (Below u3.heap.size u3 (wy.alloc (.cells #[.int .i64 r0,.int .i64 r1,.int .i64 r2,.int .i64 r3] 82))):=Lib.hid (HBY.out.alloc HBY.out.size _)
      go_wp2
      go_roundw
      case rel=>exact ⟨j+1,_,rfl,by omega,by go_num,hBA.out,HQ2⟩
      case measure=>simp [intOf];omega
    ·have hlti2:¬ (j:Int) < (nr:Int):=by omega
     have HF:Hid (R=secsR sy (keysOf ps ++ [N.data.toList]) ((L.drop (k+1)).map (·.sc))):=Lib.hid (by
      rw [HP3.out,if_neg]
      intro h
      obtain ⟨y,hy,h2⟩:=List.any_eq_true.1 h
      obtain ⟨q,hq,rfl⟩:=List.getElem_of_mem hy
      exact HQ.out q hq (by have:=HNr.out;omega) (of_decide_eq_true h2))
     have HM4:Hid (NM wy M (ps ++ [(N,(k:Int))])):=Lib.hid (HMap3.out.next HBY.out)
     go_wp2
     go_roundw
     case rel=>exact ⟨k+1,_,_,rfl,by omega,by go_num,HBW.out,HM4.out,Lib.hid ⟨by
      intro p hp
      rcases List.mem_append.1 hp with hp | hp
      ·exact HPS.out p hp
      ·rw [List.mem_singleton] at hp;subst hp;exact HNs.out,by rw [keys_snoc];exact HF.out⟩⟩
     case measure=>simp [intOf];omega
  ·have hlti:¬ (k:Int) < (n:Int):=by omega
   have HF:Hid (R=true):=Lib.hid (by
    have:=HP.out.2
    rw [List.drop_eq_nil_of_le (by have:=HLn.out;omega)] at this
    exact this)
   go_wp2
   go_ret
   exact retB_bool HF.out.symm HBR.out
open Go.ChangeShapes Go.WideShapes Go.Deep Go.RowKit
theorem oIs_any (a:Option Addr) (n c:Nat) (L:List Ms) (a2:Option Addr) (n2 c2:Nat) (l:List Sy) (hn:n<=maxLen) (hn2:n2<=maxLen) (w:World) (hs:SL msC 6 w w.heap.size a n L) (hno:Notes w w.heap.size L) (hg:∀ m ∈ L,GoodSc m.sc) (hs2:SL syC 4 w w.heap.size a2 n2 l) (hg2:∀ s ∈ l,GoodSy s) (hT:TabP w):
  Calls Tryz.prog 15 #[.agg #[.slice a n c,.slice a2 n2 c2]] w (RetB (.bool (isO ⟨L.map (·.sc),l⟩)) w):=by
 have hl2:=hs2.len
 have HSec:Hid (∀ u,Below w.heap.size w u->Calls Tryz.prog 48 #[.slice a n c,.int .i64 (n2:Int)] u (RetB (.bool (secsL (L.map (·.sc)) (n2:Int))) u)):=Lib.hid fun u hu=>areSecs_any a n c L n2 hn u (hs.next hu) (hno.next hu) hg (hT.next hu)
 obtain ⟨R,hR⟩:∃ R,R=isO ⟨L.map (·.sc),l⟩:=⟨_,rfl⟩
 rw [<-hR]
 unfold isO at hR
 simp only [] at hR
 rw [<-hl2] at hR
 have HX:Hid (RB (w.alloc (.cells #[.slice a n c,.slice a2 n2 c2] 25)) w.heap.size #[.slice a n c,.slice a2 n2 c2] 25):=Lib.hid (MapKept.heap_alloc w _).1
 have HA:Hid (Below w.heap.size w (w.alloc (.cells #[.slice a n c,.slice a2 n2 c2] 25))):=Lib.hid ((Below.refl _ w).alloc (Nat.le_refl _) _)
 cases hq:secsL (L.map (·.sc)) (n2:Int)
 ·rw [hq] at hR HSec
  have HR:=Lib.hid hR
  clear hs hno hg hs2 hg2 hT hR hq hl2
  go_enter Tryz.func15,Tryz.ntmps15
  have x0:(w.alloc (.cells #[.slice a n c,.slice a2 n2 c2] 25)).cell? ⟨w.heap.size,0,none⟩=some (.slice a n c):=HX.out.cell
  have x1:(w.alloc (.cells #[.slice a n c,.slice a2 n2 c2] 25)).cell? ⟨w.heap.size,1,none⟩=some (.slice a2 n2 c2):=HX.out.cell
  go_wp2_with fail
  refine (HSec.out _ HA.out).mono ?_
  rintro e u ⟨rfl,hb⟩
  have HB:=Lib.hid (after HA.out hb)
  clear hb x0 x1
  go_wp2
  go_ret
  exact retB_bool (by rw [HR.out];rfl) HB.out
 ·have h32:n<=1000000:=by
   unfold secsL at hq
   rw [Bool.and_eq_true,decide_eq_true_eq,List.length_map] at hq
   have:=hs.len
   omega
  have HSym:Hid (∀ u,Below w.heap.size w u->Calls Tryz.prog 49 #[.slice a2 n2 c2,.slice a n c] u (RetB (.bool (symsL l (L.map (·.sc)))) u)):=Lib.hid fun u hu=>areSyms_any a2 n2 c2 l a n c L h32 hn2 u (hs2.next hu) (hs.next hu) hg2 (hT.next hu).2
  rw [hq] at hR HSec
  have HR:=Lib.hid hR
  generalize symsL l (L.map (·.sc))=st at HSym HR
  obtain ⟨X,hX⟩:∃ X,X=w.heap.size:=⟨_,rfl⟩
  have HXE:=Lib.hid hX
  rw [<-hX] at HX
  clear hs hno hg hs2 hg2 hT hR hq hl2 h32 hX
  go_enter Tryz.func15,Tryz.ntmps15
  have x0:(w.alloc (.cells #[.slice a n c,.slice a2 n2 c2] 25)).cell? ⟨X,0,none⟩=some (.slice a n c):=HX.out.cell
  have x1:(w.alloc (.cells #[.slice a n c,.slice a2 n2 c2] 25)).cell? ⟨X,1,none⟩=some (.slice a2 n2 c2):=HX.out.cell
  rw [HXE.out] at x0 x1
  go_wp2_with fail
  clear x0 x1
  try rw [<-HXE.out]
  generalize (w.alloc (.cells #[.slice a n c,.slice a2 n2 c2] 25))=W at HX HA ⊢
  refine (HSec.out _ HA.out).mono ?_
  rintro e u ⟨rfl,hb⟩
  have HB:=Lib.hid (after HA.out hb)
  replace HX:=Lib.hid (HX.out.next hb)
  clear hb
  have x0:u.cell? ⟨X,0,none⟩=some (.slice a n c):=HX.out.cell
  have x1:u.cell? ⟨X,1,none⟩=some (.slice a2 n2 c2):=HX.out.cell
  go_wp2_with fail
  refine (HSym.out _ HB.out).mono ?_
  rintro e u2 ⟨rfl,hb⟩
  have HB2:=Lib.hid (after HB.out hb)
  clear hb x0 x1
  go_wp2
  go_ret
  exact retB_bool (by rw [HR.out];rfl) HB2.out
theorem findR_at {nm:List UInt8} {l:List Sy} {k:Nat} (h:k < l.length):findR nm k (l.drop k)=if l[k].name=nm then some k else findR nm (k+1) (l.drop (k+1)):=by
 rw [drop_cons h];rfl
theorem oFind_any (a:Option Addr) (n c:Nat) (L:List Ms) (a2:Option Addr) (n2 c2:Nat) (l:List Sy) (hn:n<=maxLen) (hn2:n2<=maxLen) (w:World) (hs:SL msC 6 w w.heap.size a n L) (hno:Notes w w.heap.size L) (hg:∀ m ∈ L,GoodSc m.sc) (hs2:SL syC 4 w w.heap.size a2 n2 l) (hg2:∀ s ∈ l,GoodSy s) (hT:TabP w) (D:ByteArray):
  Calls Tryz.prog 12 #[.agg #[.slice a n c,.slice a2 n2 c2],.string D] w (RetB (.tuple #[.int .i64 (findL ⟨L.map (·.sc),l⟩ D.data.toList).1,.bool (findL ⟨L.map (·.sc),l⟩ D.data.toList).2]) w):=by
 have hl2:=hs2.len
 have HIs:Hid (∀ u,Below w.heap.size w u->Calls Tryz.prog 15 #[.agg #[.slice a n c,.slice a2 n2 c2]] u (RetB (.bool (isO ⟨L.map (·.sc),l⟩)) u)):=Lib.hid fun u hu=>oIs_any a n c L a2 n2 c2 l hn hn2 u (hs.next hu) (hno.next hu) hg (hs2.next hu) hg2 (hT.next hu)
 have hn2i:(n2:Int)<=9223372036854775807:=by unfold maxLen at hn2;omega
 obtain ⟨f0,f1,hR⟩:∃ f0 f1,(f0,f1)=findL ⟨L.map (·.sc),l⟩ D.data.toList:=⟨_,_,rfl⟩
 rw [<-hR]
 simp only []
 unfold findL at hR
 simp only [] at hR
 have HX:Hid (RB (w.alloc (.cells #[.slice a n c,.slice a2 n2 c2] 25)) w.heap.size #[.slice a n c,.slice a2 n2 c2] 25):=Lib.hid (MapKept.heap_alloc w _).1
 have HA:Hid (Below w.heap.size w (w.alloc (.cells #[.slice a n c,.slice a2 n2 c2] 25))):=Lib.hid ((Below.refl _ w).alloc (Nat.le_refl _) _)
 by_cases hem:D.data.toList=[]
 ·rw [if_pos (.inl hem)] at hR
  obtain ⟨h1,h2⟩:=Prod.mk.inj hR
  obtain rfl:=ba_none hem
  have HR:=Lib.hid hR
  clear hs hno hg hs2 hg2 hT hR hem hl2
  subst h1 h2
  go_enter Tryz.func12,Tryz.ntmps12
  go_wp2
  go_ret2
  exact ⟨rfl,HA.out⟩
 obtain ⟨e1,e2,e3⟩:=ba_ne hem
 cases hq:isO ⟨L.map (·.sc),l⟩
 ·rw [hq] at HIs
  rw [if_pos (.inr hq)] at hR
  obtain ⟨h1,h2⟩:=Prod.mk.inj hR
  clear hs hno hg hs2 hg2 hT hR hem hq hl2
  subst h1 h2
  go_enter Tryz.func12,Tryz.ntmps12
  go_wp2_with fail
  refine (HIs.out _ HA.out).mono ?_
  rintro e u ⟨rfl,hb⟩
  have HB:=Lib.hid (after HA.out hb)
  clear hb
  go_wp2
  go_ret2
  exact ⟨rfl,HB.out⟩
 rw [hq] at HIs
 rw [if_neg (by rintro (h | h);exact hem h;rw [hq] at h;cases h)] at hR
 have HR0:=Lib.hid hR
 have HS2:=Lib.hid hs2
 have HLn:=Lib.hid hl2
 obtain ⟨X,hX⟩:∃ X,X=w.heap.size:=⟨_,rfl⟩
 have HXE:=Lib.hid hX
 rw [<-hX] at HX
 clear hs hno hg hs2 hg2 hT hR hem hq hl2 hX
 go_enter Tryz.func12,Tryz.ntmps12
 go_wp2_with fail
 try rw [<-HXE.out]
 generalize (w.alloc (.cells #[.slice a n c,.slice a2 n2 c2] 25))=W at HX HA ⊢
 refine (HIs.out _ HA.out).mono ?_
 rintro e u ⟨rfl,hb⟩
 have HB:=Lib.hid (after HA.out hb)
 replace HX:=Lib.hid (HX.out.next hb)
 clear hb e1 e2 e3
 have x1:u.cell? ⟨X,1,none⟩=some (.slice a2 n2 c2):=HX.out.cell
 go_wp2
 clear x1
 go_loopw [18] (fun i wr=>∃ (k:Nat) (wx:World),wx=wr/\k<=n2/\i=.int .i64 k/\Below w.heap.size w wx/\Hid ((f0,f1)=match findR D.data.toList k (l.drop k) with | some k=>(((k:Nat):Int),true) | none=>(0,false))) (fun i _=>n2 - (intOf i).toNat)
 case atStart=>exact ⟨0,_,rfl,by omega,rfl,HB.out,Lib.hid (by rw [HR0.out];rfl)⟩
 case round=>
  obtain ⟨k,wx,rfl,hk,rfl,hb,HP⟩:=hrel
  have HBR:=Lib.hid hb
  clear hb HB HX
  by_cases hlt:k < n2
  ·have hlti:(k:Int) < (n2:Int):=by omega
   have hk1:k < l.length:=by have:=HLn.out;omega
   obtain ⟨b,off,rfl,hB,hc⟩:=(HS2.out.next HBR.out).cells (HS2.out.ne hlt)
   obtain ⟨c0,c1,c2',c3⟩:=sy_cells (fun j hj=>hc k hk1 j hj)
   have hP:=HP.out
   rw [findR_at hk1] at hP
   obtain ⟨sy,hsy⟩:∃ sy,sy=l[k]:=⟨_,rfl⟩
   rw [<-hsy] at c0 c1 c2' c3 hP
   clear hsy hc
   obtain ⟨nm,bi,se,of⟩:=sy
   obtain ⟨N,hN⟩:∃ N:ByteArray,N=⟨nm.toArray⟩:=⟨_,rfl⟩
   have hNl:nm=N.data.toList:=by rw [hN]
   simp only [] at c0 c1 c2' c3
   rw [<-hN] at c0
   clear hN
   subst hNl
   simp only [] at hP
   have HBA:Hid (Below w.heap.size w (wx.alloc (.cells #[.string N,.int .i64 bi,.int .i64 se,.int .i64 of] 66))):=Lib.hid (HBR.out.alloc HBR.out.size _)
   by_cases he:N=D
   ·subst he
    rw [if_pos rfl] at hP
    simp only [] at hP
    obtain ⟨h1,h2⟩:=Prod.mk.inj hP
    clear hP hB
    subst h1 h2
    go_wp2
    go_ret2
    exact ⟨rfl,HBA.out⟩
   ·have hne:N.data.toList ≠ D.data.toList:=fun h=>he (ByteArray.ext (Array.toList_inj.1 h))
    rw [if_neg hne] at hP
    have e1:(N.toList == D.toList)=false:=by rw [beq_eq_false_iff_ne,ByteArray.toList_eq,ByteArray.toList_eq];exact hne
    have e2:¬ N.toList=D.toList:=by rw [ByteArray.toList_eq,ByteArray.toList_eq];exact hne
    have HF:=Lib.hid hP
    clear hP hB hne he
    go_wp2
    go_roundw
    case rel=>exact ⟨k+1,_,rfl,by omega,by go_num,HBA.out,HF⟩
    case measure=>simp [intOf];omega
  ·have hlti:¬ (k:Int) < (n2:Int):=by omega
   have hP:=HP.out
   rw [List.drop_eq_nil_of_le (by have:=HLn.out;omega)] at hP
   obtain ⟨h1,h2⟩:=Prod.mk.inj hP
   clear hP HP HR0
   subst h1 h2
   go_wp2
   go_ret2
   exact ⟨rfl,HBR.out⟩
end Go.Proofs.YthkolmebokfagaaGreatDoor
namespace Go.Proofs.YthkolmebokfagaaGreatDoor
open Go.RowKit
open Go.ChangeShapes Go.WideShapes Go.Deep Go.RowKit
abbrev rlV (t:Rl):Value:=.agg #[.int .i64 t.pos,.int .i64 t.kind,.int .i64 t.sym,.int .i64 t.add]
def sameRl (x y:Rl):Bool:=x.pos == y.pos && (x.kind == y.kind && (x.sym == y.sym && x.add == y.add))
theorem sameRl_iff {x y:Rl}:sameRl x y=true ↔ x=y:=by
 cases x;cases y
 simp [sameRl,Rl.mk.injEq]
theorem neq_rl (x y:Rl):∀ w,(Sem.run Tryz.prog (binOp BinOp.neq 82 (rlV x) (rlV y)) w)=Result.ok (.bool (!sameRl x y)) w:=by
 intro w
 obtain ⟨p,k,s,a⟩:=x
 obtain ⟨p',k',s',a'⟩:=y
 simp [go_sem,sameRl]
 repeat' split
 all_goals first | (simp_all;done) | (simp_all;omega)
theorem rls_no (a a':Option Addr) (n n' c c':Nat) (w:World) (hne:n ≠ n') (hn:n<=1000000) (hn':n'<=1000000):
  Calls Tryz.prog 106 #[.slice a n c,.slice a' n' c'] w (RetB (.bool false) w):=by
 have hb:((n:Int) != n')=true:=by rw [bne_iff_ne];omega
 have HN:=Lib.hid hne
 clear hne
 go_enter Tryz.func106,Tryz.ntmps106
 go_wp2
 go_ret
 exact retB_bool rfl (Below.refl _ _)
theorem rls_yes (a a':Option Addr) (n c c':Nat) (l l':List Rl) (w:World) (hn:n<=1000000) (h:SL rlC 4 w w.heap.size a n l) (h':SL rlC 4 w w.heap.size a' n l'):
  Calls Tryz.prog 106 #[.slice a n c,.slice a' n c'] w (fun e w'=>∃ r:Bool,e=.returned (.bool r)/\(r=true ↔ l=l')/\Below w.heap.size w w'):=by
 have hl:=Lib.hid h.len
 have hl':=Lib.hid h'.len
 go_enter Tryz.func106,Tryz.ntmps106
 go_wp2
 go_loopw [5] (fun i wr=>∃ k:Nat,k<=n/\i=.int .i64 k/\l.take k=l'.take k/\Below w.heap.size w wr) (fun i _=>n - (intOf i).toNat)
 case atStart=>exact ⟨0,by omega,rfl,rfl,Below.refl _ _⟩
 case round=>
  obtain ⟨k,hk,rfl,htk,hb⟩:=hrel
  have HT:=Lib.hid htk
  clear htk
  by_cases hlt:k < n
  ·have hk1:k < l.length:=by have:=hl.out;omega
   have hk2:k < l'.length:=by have:=hl'.out;omega
   obtain ⟨b,off,rfl,hB,hc⟩:=(h.below hb).cells (h.ne hlt)
   obtain ⟨b',off',rfl,hB',hc'⟩:=(h'.below hb).cells (h'.ne hlt)
   obtain ⟨c0,c1,c2,c3⟩:=rl_cells (fun j hj=>hc k hk1 j hj)
   obtain ⟨d0,d1,d2,d3⟩:=rl_cells (fun j hj=>hc' k hk2 j hj)
   obtain ⟨x,hx⟩:∃ x,x=l[k]:=⟨_,rfl⟩
   obtain ⟨y,hy⟩:∃ y,y=l'[k]:=⟨_,rfl⟩
   rw [<-hx] at c0 c1 c2 c3
   rw [<-hy] at d0 d1 d2 d3
   have HX:=Lib.hid hx
   have HY:=Lib.hid hy
   have hnq:=neq_rl x y
   clear hc hc' h h' hx hy
   cases e:sameRl x y
   ·have HE:Hid (x ≠ y):=Lib.hid (fun hh=>by rw [sameRl_iff.2 hh] at e;cases e)
    rw [e] at hnq
    clear e
    go_wp2
    go_quiet (fail)
    go_wp2
    go_ret
    refine ⟨false,rfl,?_,below_drewN hb _⟩
    constructor
    ·intro h;cases h
    ·intro hh
     subst hh
     exact (HE.out (HX.out.trans HY.out.symm)).elim
   ·have HE:Hid (x=y):=Lib.hid (sameRl_iff.1 e)
    rw [e] at hnq
    clear e
    go_wp2
    go_quiet (fail)
    go_wp2
    go_roundw
    case rel=>
     refine ⟨k+1,by omega,by go_num,?_,below_drewN hb _⟩
     rw [List.take_succ_eq_append_getElem hk1,List.take_succ_eq_append_getElem hk2,HT.out,<-HX.out,<-HY.out,HE.out]
    case measure=>simp [intOf];omega
  ·go_wp2
   go_ret
   refine ⟨true,rfl,⟨fun _=>?_,fun _=>rfl⟩,hb⟩
   have:=HT.out
   rwa [List.take_of_length_le (by have:=hl.out;omega),List.take_of_length_le (by have:=hl'.out;omega)] at this
theorem rSameRels_any (a a':Option Addr) (n n' c c':Nat) (l l':List Rl) (w:World) (hn:n<=1000000) (hn':n'<=1000000) (h:SL rlC 4 w w.heap.size a n l) (h':SL rlC 4 w w.heap.size a' n' l'):
  Calls Tryz.prog 106 #[.slice a n c,.slice a' n' c'] w (fun e w'=>∃ r:Bool,e=.returned (.bool r)/\(r=true ↔ l=l')/\Below w.heap.size w w'):=by
 by_cases e:n=n'
 ·subst e
  exact rls_yes a a' n c c' l l' w hn h h'
 ·refine (rls_no a a' n n' c c' w e hn hn').mono ?_
  rintro e' w' ⟨rfl,hb⟩
  exact ⟨false,rfl,⟨fun h=>(by cases h),fun hh=>(by subst hh;exact (e (h.len.trans h'.len.symm)).elim)⟩,hb⟩
open Go.ChangeShapes Go.WideShapes Go.Deep Go.RowKit
def bigS (x n y:Nat):Bool:=decide (5000 < x\/80 < n\/100 < y)
theorem rBig_any (N B:ByteArray) (k:Int) (kp:Bool) (al:Int) (a:Option Addr) (n c:Nat) (w:World):Calls Tryz.prog 31 #[.agg #[.string N,.int .i64 k,.bool kp,.int .i64 al,.string B,.slice a n c]] w (RetB (.bool (bigS B.size n N.size)) w):=by
 have HX:RB (w.alloc (.cells #[.string N,.int .i64 k,.bool kp,.int .i64 al,.string B,.slice a n c] 57)) w.heap.size #[.string N,.int .i64 k,.bool kp,.int .i64 al,.string B,.slice a n c] 57:=(MapKept.heap_alloc w _).1
 have HB1:Hid (Below w.heap.size w (w.alloc (.cells #[.string N,.int .i64 k,.bool kp,.int .i64 al,.string B,.slice a n c] 57))):=Lib.hid ((Below.refl _ w).alloc (Nat.le_refl _) _)
 have x0:(w.alloc (.cells #[.string N,.int .i64 k,.bool kp,.int .i64 al,.string B,.slice a n c] 57)).cell? ⟨w.heap.size,0,none⟩=some (.string N):=HX.cell
 have x4:(w.alloc (.cells #[.string N,.int .i64 k,.bool kp,.int .i64 al,.string B,.slice a n c] 57)).cell? ⟨w.heap.size,4,none⟩=some (.string B):=HX.cell
 have x5:(w.alloc (.cells #[.string N,.int .i64 k,.bool kp,.int .i64 al,.string B,.slice a n c] 57)).cell? ⟨w.heap.size,5,none⟩=some (.slice a n c):=HX.cell
 clear HX
 by_cases h1:5000 < B.size
 ·have r1:(5000:Int) < (B.size:Int):=by omega
  have HR:Hid (bigS B.size n N.size=true):=Lib.hid (decide_eq_true (.inl h1))
  clear h1
  go_enter Tryz.func31,Tryz.ntmps31
  go_wp2
  go_ret
  exact retB_bool HR.out.symm HB1.out
 ·have r1:¬ (5000:Int) < (B.size:Int):=by omega
  by_cases h2:80 < n
  ·have r2:(80:Int) < (n:Int):=by omega
   have HR:Hid (bigS B.size n N.size=true):=Lib.hid (decide_eq_true (.inr (.inl h2)))
   clear h1 h2
   go_enter Tryz.func31,Tryz.ntmps31
   go_wp2
   go_ret
   exact retB_bool HR.out.symm HB1.out
  ·have r2:¬ (80:Int) < (n:Int):=by omega
   by_cases h3:100 < N.size
   ·have r3:(100:Int) < (N.size:Int):=by omega
    have HR:Hid (bigS B.size n N.size=true):=Lib.hid (decide_eq_true (.inr (.inr h3)))
    clear h1 h2 h3
    go_enter Tryz.func31,Tryz.ntmps31
    go_wp2
    go_ret
    exact retB_bool HR.out.symm HB1.out
   ·have r3:¬ (100:Int) < (N.size:Int):=by omega
    have HR:Hid (bigS B.size n N.size=false):=Lib.hid (decide_eq_false (by omega))
    clear h1 h2 h3
    go_enter Tryz.func31,Tryz.ntmps31
    go_wp2
    go_ret
    exact retB_bool HR.out.symm HB1.out
open Go.ChangeShapes Go.WideShapes Go.Deep Go.RowKit
open Go.ChangeShapes Go.WideShapes Go.Deep Go.RowKit
structure Grew (s t:Sc):Prop where
 was:secR s=true
 right:secR t=true
 good:GoodSc t
 name:t.name=s.name
 kind:t.kind=s.kind
 keep:t.keep=s.keep
 align:s.align<=t.align
 data:∃ x,t.data=s.data ++ x
 rels:∃ q,t.rels=s.rels ++ q
def Grows (s:Sc) (x:Sc × Int):Prop:=x.2=0/\Grew s x.1\/x.2 ≠ 0/\x.1=scZ/\(secR s=false->x.2=1)
theorem Grows.good {s:Sc} {x:Sc × Int} (h:Grows s x):GoodSc x.1:=by
 rcases h with ⟨-,h⟩ | ⟨-,h,-⟩
 ·exact h.good
 ·rw [h];exact ⟨by unfold maxLen;simp,by constructor <;> decide,by constructor <;> decide,by unfold maxLen;simp,by simp⟩
open Go.ChangeShapes Go.WideShapes Go.Deep Go.RowKit
theorem SecR.lit {s:Sc} {er:Int} {x:Sc × Int} {w w':World} {e:Ending} (h:SecR x w e w') (hx:x=(s,er)):∃ a c,e=.returned (.tuple #[scV s a s.rels.length c,.int .i64 er])/\SL rlC 4 w' w'.heap.size a s.rels.length s.rels/\(a=none->s.rels.length=0/\c=0)/\s.rels.length<=c/\Below w.heap.size w w':=by
 subst hx
 obtain ⟨a,c,rfl,h1,h2⟩:=h
 obtain ⟨a',c',he,h3,h4,h5⟩:=h1.out
 cases he
 exact ⟨_,_,rfl,h3,h4,h5,h2⟩
def GotB (u:World) (N:ByteArray) (k:Int) (kp:Bool) (al:Int) (B:ByteArray) (m:Nat) (l:List Rl) (er:Int) (e:Ending) (v:World):Prop:=
 ∃ a c,e=.returned (.tuple #[.agg #[.string N,.int .i64 k,.bool kp,.int .i64 al,.string B,.slice a m c],.int .i64 er])/\SL rlC 4 v v.heap.size a m l/\(a=none->m=0/\c=0)/\m<=c/\Below u.heap.size u v
theorem SecR.got {N B:ByteArray} {k al er:Int} {kp:Bool} {m:Nat} {l:List Rl} {x:Sc × Int} {u v:World} {e:Ending} (h:SecR x u e v) (hx:x=(⟨N.data.toList,k,kp,al,B.data.toList,l⟩,er)) (hm:m=l.length):GotB u N k kp al B m l er e v:=by
 subst hm
 obtain ⟨a,c,h1,h2,h3,h4,h5⟩:=h.lit hx
 exact ⟨a,c,h1,h2,h3,h4,h5⟩
structure GoodB (N:ByteArray) (k al:Int) (B:ByteArray) (l:List Rl):Prop where
 name:N.size<=maxLen
 data:B.size<=maxLen
 rels:∀ r ∈ l,GoodRl r
 kind:i64ok k
 align:i64ok al
theorem GoodB.sc {N B:ByteArray} {k al:Int} {l:List Rl} (h:GoodB N k al B l) (kp:Bool):GoodSc ⟨N.data.toList,k,kp,al,B.data.toList,l⟩:=
 ⟨by simpa using h.name,h.kind,h.align,by simpa using h.data,h.rels⟩
theorem GoodSc.b {N B:ByteArray} {k al:Int} {kp:Bool} {l:List Rl} (h:GoodSc ⟨N.data.toList,k,kp,al,B.data.toList,l⟩):GoodB N k al B l:=
 ⟨by simpa using h.name,by simpa using h.data,h.rels,h.kind,h.align⟩
theorem ba_size (B:ByteArray):B.data.toList.length=B.size:=by simp
end Go.Proofs.YthkolmebokfagaaGreatDoor
