/- part, plain: what a right section is, and how it grows. part, plain: what grows is right. part: a section in a block; New. part: a section as an argument. part: covers. part: Is. strings.Builder, a variable of its own: copyCheck, WriteByte, WriteString, String. part: append to a slice that is empty, or of the call's own. part: grown. part: placed. part: Put. obj, plain: what a right object is; and maps keyed by names. obj: stands. obj: areSyms. obj: areSecs. obj: Is, Find. part: the reference's SameRels. part: the reference's Big and Same. part: the reference's Same. part, plain: whatever is put behind a section, it is right and begins as it was. The law's own grown: constants. What hands back a section, for the laws' walks. -/
import Derived.Test.YtobdldadfipcgaaGreatDoorqE
import Derived.Test.YtobdldadfipcgaaGreatDoorqH
import Derived.Deep.RegionHeld3
import Derived.BigQuiet
import Derived.Test.YtobdldadfipcgaaGreatDoorqF
import Derived.RegionTactic
import Derived.ChangeAlike
import Derived.Lib.Builder
import Derived.Lib.AppendStr
import Derived.Lib.UnsafeStr
import Derived.Lib.OthersKept
import Derived.Laws.Externs
import Derived.Laws.AppendOwnNone
import Derived.Laws.OwnMore
import Derived.Deep.RegionLaw
import Derived.Maps.Own
import Derived.Maps.OwnOps
import Derived.Maps.Keyed
import Derived.Carry
import Derived.StringKeys
import Derived.Deep.QuietTactic
set_option maxRecDepth 100000
set_option maxHeartbeats 8000000
set_option linter.unusedVariables false
set_option linter.unusedSimpArgs false
namespace Go.Proofs.YtobdldadfipcgaaGreatDoor
open Go.RowKit
open Go.ChangeShapes Go.WideShapes Go.Deep Go.RowKit
structure Rl where
 pos:Int
 kind:Int
 sym:Int
 add:Int
def rlC (r:Rl):List Value:=[.int .i64 r.pos,.int .i64 r.kind,.int .i64 r.sym,.int .i64 r.add]
theorem rl_len (r:Rl):(rlC r).length=4:=rfl
theorem rl_one (r:Rl):∀ u ∈ rlC r,u.oneCell'=true:=by
 intro u hu
 simp only [rlC,List.mem_cons,List.mem_nil_iff,or_false] at hu
 rcases hu with rfl | rfl | rfl | rfl <;> rfl
def GoodRl (r:Rl):Prop:=i64ok r.pos/\i64ok r.kind/\i64ok r.sym/\i64ok r.add
structure Sc where
 name:List UInt8
 kind:Int
 keep:Bool
 align:Int
 data:List UInt8
 rels:List Rl
structure GoodSc (s:Sc):Prop where
 name:s.name.length<=maxLen
 kind:i64ok s.kind
 align:i64ok s.align
 data:s.data.length<=maxLen
 rels:∀ r ∈ s.rels,GoodRl r
abbrev scZ:Sc:=⟨[],0,false,0,[],[]⟩
abbrev scV (s:Sc) (a:Option Addr) (n c:Nat):Value:=.agg #[.string ⟨s.name.toArray⟩,.int .i64 s.kind,.bool s.keep,.int .i64 s.align,.string ⟨s.data.toArray⟩,.slice a n c]
def szR (k:Int):Int:=if k=1 then 8 else 4
theorem szR_two (k:Int):szR k=8/\k=1\/szR k=4/\k ≠ 1:=by
 unfold szR
 by_cases h:k=1
 ·exact .inl ⟨if_pos h,h⟩
 ·exact .inr ⟨if_neg h,h⟩
abbrev nulB (n:Nat):List UInt8:=List.replicate n 0
def covR (kind:Int) (d:List UInt8) (r:Rl):Bool:=
 if r.kind=1 then (d.drop r.pos.toNat).take 8 == nulB 8 else kind == 1 && (r.pos % 4 == 0 && fitsI r.kind (readW (leV ((d.drop r.pos.toNat).take 4))))
def badR (kind:Int) (d:List UInt8) (e:Int) (r:Rl):Prop:=r.pos < e\/(d.length:Int) - szR r.kind < r.pos\/r.sym < 0\/covR kind d r=false
instance (kind:Int) (d:List UInt8) (e:Int) (r:Rl):Decidable (badR kind d e r):=by unfold badR;infer_instance
def relsR (kind:Int) (d:List UInt8):Int->List Rl->Bool
 | _,[]=>true
 | e,r :: t=>if badR kind d e r then false else relsR kind d (r.pos+szR r.kind) t
def headR (s:Sc):Bool:=isNmL s.name && decide (1<=s.kind) && decide (s.kind<=3) && decide (0<=s.align) && decide (s.align<=12) && decide (s.data.length<=4096) && decide (s.rels.length<=64)
def secR (s:Sc):Bool:=headR s && relsR s.kind s.data 0 s.rels
open Go.ChangeShapes Go.WideShapes Go.Deep Go.RowKit
theorem head_iff {s:Sc}:headR s=true ↔ isNmL s.name=true/\1<=s.kind/\s.kind<=3/\0<=s.align/\s.align<=12/\s.data.length<=4096/\s.rels.length<=64:=by
 unfold headR
 simp only [Bool.and_eq_true,decide_eq_true_eq,and_assoc]
theorem sec_iff {s:Sc}:secR s=true ↔ headR s=true/\relsR s.kind s.data 0 s.rels=true:=by
 unfold secR;rw [Bool.and_eq_true]
open Go.ChangeShapes Go.WideShapes Go.Deep Go.RowKit
def TabP (w:World):Prop:=Tab7 w/\TabO w
theorem TabP.next {w w':World} (h:TabP w) (hb:Below w.heap.size w w'):TabP w':=⟨Tab7.below h.1 hb,h.2.next hb⟩
section
variable {P:Program}
theorem results_cell_two {fn:Func} {p q:Tmp} {ty:TypeId} (h:fn.results=#[.cell p ty,.tmp q]) (tmps:Array Value) (w:World) (g:Nat) (t:TypeId) (cs:Array Value) (fr:Nat × Nat) (d:TypeDesc) (x:Value)
  (hp:tmps.getD p undef=.pointer (some ⟨g,0,none⟩)) (hg:w.heap[g]?=some (.cells cs t fr))
  (hu:P.underlying ty=some d) (hd:(match d with | .struct _ | .array _ _=>true | _=>false)=true) (hi:(P.info? ty).map (·.size)=some cs.size) (hx:tmps.getD q undef=x):
  (results fn tmps).run P w=.ok (.tuple #[.agg cs,x]) w:=by
 have hp':tmps[p]?.getD undef=.pointer (some ⟨g,0,none⟩):=by simpa using hp
 have hx':tmps[q]?.getD undef=x:=by simpa using hx
 simp [results,h,hp',hx',asAddr,run_loadVar_row w g t ty cs fr d hg hu hd hi]
end
abbrev scA (s:Sc) (a:Option Addr) (n c:Nat):Array Value:=#[.string ⟨s.name.toArray⟩,.int .i64 s.kind,.bool s.keep,.int .i64 s.align,.string ⟨s.data.toArray⟩,.slice a n c]
abbrev sset (u:World) (X:Nat) (s:Sc) (a:Option Addr) (n c:Nat):World:=
 ((((((u.setCell ⟨X,0,none⟩ (.string ⟨s.name.toArray⟩)).setCell ⟨X,1,none⟩ (.int .i64 s.kind)).setCell ⟨X,2,none⟩ (.bool s.keep)).setCell ⟨X,3,none⟩ (.int .i64 s.align)).setCell ⟨X,4,none⟩ (.string ⟨s.data.toArray⟩)).setCell ⟨X,5,none⟩ (.slice a n c))
theorem sset_heap {u:World} {X:Nat} {s':Sc} {a':Option Addr} {n' c':Nat} (h:RB u X (scA s' a' n' c') 79) (s:Sc) (a:Option Addr) (n c:Nat):RB (sset u X s a n c) X (scA s a n c) 79:=by
 have h0:RB (u.setCell ⟨X,0,none⟩ (.string ⟨s.name.toArray⟩)) X #[.string ⟨s.name.toArray⟩,.int .i64 s'.kind,.bool s'.keep,.int .i64 s'.align,.string ⟨s'.data.toArray⟩,.slice a' n' c'] 79:=h.set (j:=0) _
 have h1:RB ((u.setCell ⟨X,0,none⟩ (.string ⟨s.name.toArray⟩)).setCell ⟨X,1,none⟩ (.int .i64 s.kind)) X #[.string ⟨s.name.toArray⟩,.int .i64 s.kind,.bool s'.keep,.int .i64 s'.align,.string ⟨s'.data.toArray⟩,.slice a' n' c'] 79:=h0.set (j:=1) _
 have h2:RB (((u.setCell ⟨X,0,none⟩ (.string ⟨s.name.toArray⟩)).setCell ⟨X,1,none⟩ (.int .i64 s.kind)).setCell ⟨X,2,none⟩ (.bool s.keep)) X #[.string ⟨s.name.toArray⟩,.int .i64 s.kind,.bool s.keep,.int .i64 s'.align,.string ⟨s'.data.toArray⟩,.slice a' n' c'] 79:=h1.set (j:=2) _
 have h3:RB ((((u.setCell ⟨X,0,none⟩ (.string ⟨s.name.toArray⟩)).setCell ⟨X,1,none⟩ (.int .i64 s.kind)).setCell ⟨X,2,none⟩ (.bool s.keep)).setCell ⟨X,3,none⟩ (.int .i64 s.align)) X #[.string ⟨s.name.toArray⟩,.int .i64 s.kind,.bool s.keep,.int .i64 s.align,.string ⟨s'.data.toArray⟩,.slice a' n' c'] 79:=h2.set (j:=3) _
 have h4:RB (((((u.setCell ⟨X,0,none⟩ (.string ⟨s.name.toArray⟩)).setCell ⟨X,1,none⟩ (.int .i64 s.kind)).setCell ⟨X,2,none⟩ (.bool s.keep)).setCell ⟨X,3,none⟩ (.int .i64 s.align)).setCell ⟨X,4,none⟩ (.string ⟨s.data.toArray⟩)) X #[.string ⟨s.name.toArray⟩,.int .i64 s.kind,.bool s.keep,.int .i64 s.align,.string ⟨s.data.toArray⟩,.slice a' n' c'] 79:=h3.set (j:=4) _
 have h5:RB ((((((u.setCell ⟨X,0,none⟩ (.string ⟨s.name.toArray⟩)).setCell ⟨X,1,none⟩ (.int .i64 s.kind)).setCell ⟨X,2,none⟩ (.bool s.keep)).setCell ⟨X,3,none⟩ (.int .i64 s.align)).setCell ⟨X,4,none⟩ (.string ⟨s.data.toArray⟩)).setCell ⟨X,5,none⟩ (.slice a n c)) X #[.string ⟨s.name.toArray⟩,.int .i64 s.kind,.bool s.keep,.int .i64 s.align,.string ⟨s.data.toArray⟩,.slice a n c] 79:=h4.set (j:=5) _
 exact h5
theorem sset_below {w u:World} {X B:Nat} (h:Below B w u) (hX:B<=X) (s:Sc) (a:Option Addr) (n c:Nat):Below B w (sset u X s a n c):=
 ((((((h).setCell (p:=⟨X,0,none⟩) hX _).setCell (p:=⟨X,1,none⟩) hX _).setCell (p:=⟨X,2,none⟩) hX _).setCell (p:=⟨X,3,none⟩) hX _).setCell (p:=⟨X,4,none⟩) hX _).setCell (p:=⟨X,5,none⟩) hX _
theorem RB.six {u:World} {X:Nat} {s:Sc} {a:Option Addr} {n c:Nat} (h:RB u X (scA s a n c) 79):
  u.cell? ⟨X,0,none⟩=some (.string ⟨s.name.toArray⟩)/\u.cell? ⟨X,1,none⟩=some (.int .i64 s.kind)/\u.cell? ⟨X,2,none⟩=some (.bool s.keep)/\u.cell? ⟨X,3,none⟩=some (.int .i64 s.align)/\u.cell? ⟨X,4,none⟩=some (.string ⟨s.data.toArray⟩)/\u.cell? ⟨X,5,none⟩=some (.slice a n c)/\(∀ j,u.frozen? ⟨X,j,none⟩=false)/\X < u.heap.size:=
 ⟨h.cell,h.cell,h.cell,h.cell,h.cell,h.cell,fun j=>h.frozen,lt_of_block h⟩
def Row0 (w:World) (B:Nat) (v:Value) (n:Nat) (l:List Rl):Prop:=w.ownsRow B 110 4 v n (l.flatMap rlC)\/∃ ad,v=.slice (some ad) 0 0/\n=0/\l=[]
def SecR (x:Sc × Int) (w:World) (e:Ending) (w':World):Prop:=
 ∃ a c,e=.returned (.tuple #[scV x.1 a x.1.rels.length c,.int .i64 x.2])/\Row0 w' w.heap.size (.slice a x.1.rels.length c) x.1.rels.length x.1.rels/\Below w.heap.size w w'
theorem SecR.bare {s:Sc} {er:Int} {x:Sc × Int} {w w':World} (hx:x=(s,er)) (hr:s.rels=[]) (hb:Below w.heap.size w w'):SecR x w (.returned (.tuple #[scV s none 0 0,.int .i64 er])) w':=by
 subst hx
 refine ⟨none,0,?_,.inl ?_,hb⟩
 ·show _=Ending.returned (.tuple #[scV s none s.rels.length 0,.int .i64 er])
  rw [hr];rfl
 ·show w'.ownsRow _ _ 4 (.slice none s.rels.length 0) s.rels.length (s.rels.flatMap rlC)
  rw [hr];exact World.ownsRow_nil _ _ _ _
section
variable {α:Type} {enc:α->List Value} {sz:Nat}
end
open Go.ChangeShapes Go.WideShapes Go.Deep Go.RowKit
theorem repL_list (l:List UInt8):∀ n,Lib.repeatL l n=(List.replicate n l).flatten:=by
 intro n
 induction n with
 | zero=>rfl
 | succ n ih=>first | (rw [Lib.repeatL,ih];rfl) | (simp [Lib.repeatL,List.replicate_succ])
theorem nul_rep (n:Nat):(List.replicate n [(0:UInt8)]).flatten=nulB n:=by
 induction n with
 | zero=>rfl
 | succ n ih=>rw [List.replicate_succ,List.flatten_cons,ih];rfl
theorem Rep_nul (n:Nat) (hn:n<=100000) (w:World):Calls Tryz.prog 95 #[.string ⟨#[0]⟩,.int .i64 (n:Int)] w (RetB (.string ⟨(nulB n).toArray⟩) w):=by
 refine (Tryz.strings_Repeat ⟨#[0]⟩ n w (by omega) (by show 1*n<=_;omega)).mono ?_
 rintro e w' ⟨rfl,hb⟩
 refine ⟨?_,hb⟩
 rw [show (⟨#[0]⟩:ByteArray).data.toList=[0] from rfl,repL_list,nul_rep]
abbrev rlA (r:Rl):Array Value:=#[.int .i64 r.pos,.int .i64 r.kind,.int .i64 r.sym,.int .i64 r.add]
theorem two_rb {w:World} {A B:Array Value} {T U:TypeId}:RB ((w.alloc (.cells A T)).alloc (.cells B U)) w.heap.size A T/\RB ((w.alloc (.cells A T)).alloc (.cells B U)) (w.heap.size+1) B U/\Below w.heap.size w ((w.alloc (.cells A T)).alloc (.cells B U)):=by
 have s1:(w.alloc (.cells A T)).heap.size=w.heap.size+1:=World.size_alloc _ _
 refine ⟨?_,?_,((Below.refl _ w).alloc (Nat.le_refl _) _).alloc (by rw [s1];omega) _⟩
 ·exact (Below.heap_alloc _ _ _ (by rw [s1];omega)).trans (MapKept.heap_alloc _ _).1
 ·unfold RB;rw [<-s1];exact (MapKept.heap_alloc _ _).1
theorem cov_abs (N B D:ByteArray) (k:Int) (kp:Bool) (al:Int) (a:Option Addr) (n c p:Nat) (sy ad:Int) (hD:B.extract p (p+8)=D) (hp:p+8<=B.size) (hB:B.size<=4096) (w:World):
  Calls Tryz.prog 71 #[.agg #[.string N,.int .i64 k,.bool kp,.int .i64 al,.string B,.slice a n c],.agg #[.int .i64 (p:Int),.int .i64 1,.int .i64 sy,.int .i64 ad]] w (RetB (.bool (D.data.toList == nulB 8)) w):=by
 obtain ⟨q,hq⟩:∃ q,q=p+8:=⟨_,rfl⟩
 rw [<-hq] at hD
 have hwq:IntKind.i64.wrap ((p:Int)+8)=(q:Int):=by rw [IntKind.wrap_i64];omega
 have b0:(0:Int)<=(p:Int):=by omega
 have b1:(p:Int)<=(q:Int):=by omega
 have b2:(q:Int)<=(B.size:Int):=by omega
 have HR:Hid (∀ u,Calls Tryz.prog 95 #[.string ⟨#[0]⟩,.int .i64 8] u (RetB (.string ⟨(nulB 8).toArray⟩) u)):=Lib.hid (fun u=>Rep_nul 8 (by decide) u)
 have HW:=Lib.hid (two_rb (w:=w) (A:=#[.string N,.int .i64 k,.bool kp,.int .i64 al,.string B,.slice a n c]) (B:=#[.int .i64 (p:Int),.int .i64 1,.int .i64 sy,.int .i64 ad]) (T:=79) (U:=110))
 obtain ⟨X,hX⟩:∃ X,X=w.heap.size:=⟨_,rfl⟩
 rw [<-hX] at HW
 clear hq hp hB
 go_enter Tryz.func71,Tryz.ntmps71
 go_wp2_with fail
 rw [<-hX]
 have HXE:=Lib.hid hX
 clear hX
 generalize (w.alloc (.cells #[.string N,.int .i64 k,.bool kp,.int .i64 al,.string B,.slice a n c] 79)).alloc (.cells #[.int .i64 (p:Int),.int .i64 1,.int .i64 sy,.int .i64 ad] 110)=W at HW ⊢
 have c4:W.cell? ⟨X,4,none⟩=some (.string B):=HW.out.1.cell
 have c0:W.cell? ⟨X+1,0,none⟩=some (.int .i64 (p:Int)):=HW.out.2.1.cell
 (go_region_held3 (fun w'=>w'.cell? ⟨X,4,none⟩=some (.string B)/\w'.cell? ⟨X+1,0,none⟩=some (.int .i64 (p:Int))) (go_keep) ((first
   | (go_at_call 95;refine (HR.out _).mono ?_;rintro e u ⟨rfl,hb⟩;have hb':=((Below.refl W.heap.size W).drew).trans hb;have s0:u.cell? ⟨X,4,none⟩=some (.string B):=(HW.out.1.next hb').cell;have s1:u.cell? ⟨X+1,0,none⟩=some (.int .i64 (p:Int)):=(HW.out.2.1.next hb').cell)
   | fail)))
 go_wp2
 go_ret
 refine retB_bool ?_ (by rw [HXE.out] at HW;exact after HW.out.2.2 hb')
 show (D.toList == (⟨Array.replicate 8 0⟩:ByteArray).toList)=_
 rw [ByteArray.toList_eq,ByteArray.toList_eq]
 rfl
theorem cov_sec (N B:ByteArray) (k:Int) (kp:Bool) (al:Int) (a:Option Addr) (n c p:Nat) (kk sy ad:Int) (rk:(kk == 1)=false) (r1:(k == 1)=false) (w:World):Calls Tryz.prog 71 #[.agg #[.string N,.int .i64 k,.bool kp,.int .i64 al,.string B,.slice a n c],.agg #[.int .i64 (p:Int),.int .i64 kk,.int .i64 sy,.int .i64 ad]] w (RetB (.bool false) w):=by
 have HW:=Lib.hid (two_rb (w:=w) (A:=#[.string N,.int .i64 k,.bool kp,.int .i64 al,.string B,.slice a n c]) (B:=#[.int .i64 (p:Int),.int .i64 kk,.int .i64 sy,.int .i64 ad]) (T:=79) (U:=110))
 obtain ⟨X,hX⟩:∃ X,X=w.heap.size:=⟨_,rfl⟩
 rw [<-hX] at HW
 go_enter Tryz.func71,Tryz.ntmps71
 go_wp2_with fail
 rw [<-hX]
 have HXE:=Lib.hid hX
 clear hX
 generalize (w.alloc (.cells #[.string N,.int .i64 k,.bool kp,.int .i64 al,.string B,.slice a n c] 79)).alloc (.cells #[.int .i64 (p:Int),.int .i64 kk,.int .i64 sy,.int .i64 ad] 110)=W at HW ⊢
 have c4:W.cell? ⟨X,4,none⟩=some (.string B):=HW.out.1.cell
 have c1:W.cell? ⟨X,1,none⟩=some (.int .i64 k):=HW.out.1.cell
 have c0:W.cell? ⟨X+1,0,none⟩=some (.int .i64 (p:Int)):=HW.out.2.1.cell
 have e1:W.cell? ⟨X+1,1,none⟩=some (.int .i64 kk):=HW.out.2.1.cell
 clear c4 c0 e1
 go_quiet (fail)
 go_wp2
 go_ret
 exact ⟨rfl,by rw [HXE.out] at HW;exact below_drewN HW.out.2.2 nq⟩
theorem cov_odd (N B:ByteArray) (k:Int) (kp:Bool) (al:Int) (a:Option Addr) (n c p:Nat) (kk sy ad:Int) (rk:(kk == 1)=false) (r1:(k == 1)=true) (b0:(0:Int)<=(p:Int)) (t1:((p:Int).tmod 4 == 0)=false) (t2:((p:Int) % 4 == 0)=false) (w:World):Calls Tryz.prog 71 #[.agg #[.string N,.int .i64 k,.bool kp,.int .i64 al,.string B,.slice a n c],.agg #[.int .i64 (p:Int),.int .i64 kk,.int .i64 sy,.int .i64 ad]] w (RetB (.bool false) w):=by
 have HW:=Lib.hid (two_rb (w:=w) (A:=#[.string N,.int .i64 k,.bool kp,.int .i64 al,.string B,.slice a n c]) (B:=#[.int .i64 (p:Int),.int .i64 kk,.int .i64 sy,.int .i64 ad]) (T:=79) (U:=110))
 obtain ⟨X,hX⟩:∃ X,X=w.heap.size:=⟨_,rfl⟩
 rw [<-hX] at HW
 go_enter Tryz.func71,Tryz.ntmps71
 go_wp2_with fail
 rw [<-hX]
 have HXE:=Lib.hid hX
 clear hX
 generalize (w.alloc (.cells #[.string N,.int .i64 k,.bool kp,.int .i64 al,.string B,.slice a n c] 79)).alloc (.cells #[.int .i64 (p:Int),.int .i64 kk,.int .i64 sy,.int .i64 ad] 110)=W at HW ⊢
 have c4:W.cell? ⟨X,4,none⟩=some (.string B):=HW.out.1.cell
 have c1:W.cell? ⟨X,1,none⟩=some (.int .i64 k):=HW.out.1.cell
 have c0:W.cell? ⟨X+1,0,none⟩=some (.int .i64 (p:Int)):=HW.out.2.1.cell
 have e1:W.cell? ⟨X+1,1,none⟩=some (.int .i64 kk):=HW.out.2.1.cell
 clear c4 e1
 go_quiet (fail)
 go_wp2
 go_ret
 exact ⟨rfl,by rw [HXE.out] at HW;exact below_drewN HW.out.2.2 nq⟩
theorem cov_fits (N B:ByteArray) (k:Int) (kp:Bool) (al:Int) (a:Option Addr) (n c p:Nat) (kk sy ad:Int) (rk:(kk == 1)=false) (hkk:i64ok kk) (r1:(k == 1)=true) (t1:((p:Int).tmod 4 == 0)=true) (t2:((p:Int) % 4 == 0)=true) (D:ByteArray) (hD:B.extract p (p+4)=D) (hp:p+4<=B.size) (hB:B.size<=4096) (hDs:D.size=4) (w:World) (hT:TabP w):Calls Tryz.prog 71 #[.agg #[.string N,.int .i64 k,.bool kp,.int .i64 al,.string B,.slice a n c],.agg #[.int .i64 (p:Int),.int .i64 kk,.int .i64 sy,.int .i64 ad]] w (RetB (.bool (fitsI kk (readW (leV D.data.toList)))) w):=by
 obtain ⟨q,hq⟩:∃ q,q=p+4:=⟨_,rfl⟩
 rw [<-hq] at hD
 have hwq:IntKind.i64.wrap ((p:Int)+4)=(q:Int):=by rw [IntKind.wrap_i64];omega
 have b0:(0:Int)<=(p:Int):=by omega
 have b1:(p:Int)<=(q:Int):=by omega
 have b2:(q:Int)<=(B.size:Int):=by omega
 have hv:=leV_lt D.data.toList
 rw [show D.data.toList.length=4 by rw [Array.length_toList];exact hDs] at hv
 have HN:=Lib.hid (fun u=>fnumber_any D u (by omega))
 have HF:=Lib.hid (fun u (hu:TabP u)=>Fits_any kk (leV D.data.toList) u hkk.1 hkk.2 (by omega) hu.1)
 generalize leV D.data.toList=v at*
 have hwv:IntKind.u32.wrap (v:Int)=(v:Int):=by rw [IntKind.wrap_u32];omega
 have HT:=Lib.hid hT
 clear hq hp hB hDs hv hT hkk
 have HW:=Lib.hid (two_rb (w:=w) (A:=#[.string N,.int .i64 k,.bool kp,.int .i64 al,.string B,.slice a n c]) (B:=#[.int .i64 (p:Int),.int .i64 kk,.int .i64 sy,.int .i64 ad]) (T:=79) (U:=110))
 obtain ⟨X,hX⟩:∃ X,X=w.heap.size:=⟨_,rfl⟩
 rw [<-hX] at HW
 go_enter Tryz.func71,Tryz.ntmps71
 go_wp2_with fail
 rw [<-hX]
 have HXE:=Lib.hid hX
 clear hX
 generalize (w.alloc (.cells #[.string N,.int .i64 k,.bool kp,.int .i64 al,.string B,.slice a n c] 79)).alloc (.cells #[.int .i64 (p:Int),.int .i64 kk,.int .i64 sy,.int .i64 ad] 110)=W at HW ⊢
 have c4:W.cell? ⟨X,4,none⟩=some (.string B):=HW.out.1.cell
 have c1:W.cell? ⟨X,1,none⟩=some (.int .i64 k):=HW.out.1.cell
 have c0:W.cell? ⟨X+1,0,none⟩=some (.int .i64 (p:Int)):=HW.out.2.1.cell
 have e1:W.cell? ⟨X+1,1,none⟩=some (.int .i64 kk):=HW.out.2.1.cell
 have HB:=Lib.hid HW.out.2.2
 rw [HXE.out] at HB
 first | (go_region_held3 (fun w'=>w'.cell? ⟨X,4,none⟩=some (.string B)/\w'.cell? ⟨X,1,none⟩=some (.int .i64 k)/\w'.cell? ⟨X+1,0,none⟩=some (.int .i64 (p:Int))/\w'.cell? ⟨X+1,1,none⟩=some (.int .i64 kk)) (go_keep) ((first
  | (go_at_call 97;refine (HN.out _).mono ?_;rintro e u ⟨rfl,rfl⟩)
  | (go_at_call 96;refine (HF.out _ (HT.out.next (HB.out.trans (((Below.refl W.heap.size W).drew).mono HB.out.size)))).mono ?_;rintro e u ⟨rfl,hb⟩;have hb':=((Below.refl W.heap.size W).drew).trans hb;have s0:u.cell? ⟨X,4,none⟩=some (.string B):=(HW.out.1.next hb').cell;have s1:u.cell? ⟨X,1,none⟩=some (.int .i64 k):=(HW.out.1.next hb').cell;have s2:u.cell? ⟨X+1,0,none⟩=some (.int .i64 (p:Int)):=(HW.out.2.1.next hb').cell;have s3:u.cell? ⟨X+1,1,none⟩=some (.int .i64 kk):=(HW.out.2.1.next hb').cell)
  | fail))) | fail
 go_wp2
 go_ret
 exact ⟨rfl,after HB.out hb'⟩
open Go.ChangeShapes Go.WideShapes Go.Deep Go.RowKit
theorem rl_cells {w:World} {b off:Nat} {k:Nat} {t:Rl} (hc:∀ j,j < 4->w.cell? ⟨b,off+k*4+j,none⟩=(rlC t)[j]?):
  w.cell? ⟨b,off+k*4,none⟩=some (.int .i64 t.pos)/\w.cell? ⟨b,off+k*4+1,none⟩=some (.int .i64 t.kind)/\w.cell? ⟨b,off+k*4+2,none⟩=some (.int .i64 t.sym)/\w.cell? ⟨b,off+k*4+3,none⟩=some (.int .i64 t.add):=
 ⟨hc 0 (by omega),hc 1 (by omega),hc 2 (by omega),hc 3 (by omega)⟩
theorem cov_any (N B:ByteArray) (k:Int) (kp:Bool) (al:Int) (a:Option Addr) (n c:Nat) (r:Rl) (hr:GoodRl r) (h0:0<=r.pos) (h1:r.pos<=(B.size:Int) - szR r.kind) (hB:B.size<=4096) (w:World) (hT:TabP w):
  Calls Tryz.prog 71 #[.agg #[.string N,.int .i64 k,.bool kp,.int .i64 al,.string B,.slice a n c],.agg #[.int .i64 r.pos,.int .i64 r.kind,.int .i64 r.sym,.int .i64 r.add]] w (RetB (.bool (covR k B.data.toList r)) w):=by
 obtain ⟨pos,kk,sy,ad⟩:=r
 simp only at h0 h1
 obtain ⟨p,rfl⟩:∃ p:Nat,pos=p:=⟨pos.toNat,by omega⟩
 have hlen:B.data.toList.length=B.size:=by simp
 have hex:∀ q,(B.extract p q).data.toList=(B.data.toList.drop p).take (q - p):=fun q=>by
  rw [ByteArray.data_extract,Array.toList_extract]
 unfold covR
 simp only [Int.toNat_natCast]
 rcases szR_two kk with ⟨e,rfl⟩ | ⟨e,hk⟩
 ·rw [e] at h1
  rw [if_pos rfl]
  have:=cov_abs N B _ k kp al a n c p sy ad rfl (by omega) hB w
  rw [hex,show p+8 - p=8 by omega] at this
  exact this
 ·rw [e] at h1
  rw [if_neg hk]
  have rk:(kk == 1)=false:=by rw [beq_eq_false_iff_ne];exact hk
  cases r1:(k == 1)
  ·rw [Bool.false_and]
   exact cov_sec N B k kp al a n c p kk sy ad rk r1 w
  ·rw [Bool.true_and]
   have ht:(p:Int).tmod 4=(p:Int) % 4:=Int.tmod_eq_emod_of_nonneg (by omega)
   cases t2:((p:Int) % 4 == 0)
   ·rw [Bool.false_and]
    exact cov_odd N B k kp al a n c p kk sy ad rk r1 (by omega) (by rw [ht];exact t2) t2 w
   ·rw [Bool.true_and]
    have hDl:=hex (p+4)
    rw [show p+4 - p=4 by omega] at hDl
    have hDs:(B.extract p (p+4)).size=4:=by rw [ByteArray.size_extract];omega
    have:=cov_fits N B k kp al a n c p kk sy ad rk hr.2.1 r1 (by rw [ht];exact t2) t2 _ rfl (by omega) hB hDs w hT
    rw [hDl] at this
    exact this
theorem pIs_core (N B:ByteArray) (k:Int) (kp:Bool) (al:Int) (a:Option Addr) (n c:Nat) (l:List Rl) (hN:N.size<=maxLen) (hBm:B.size<=maxLen) (w:World) (hs:SL rlC 4 w w.heap.size a n l) (hg:∀ r ∈ l,GoodRl r) (hT:TabP w):
  Calls Tryz.prog 43 #[.agg #[.string N,.int .i64 k,.bool kp,.int .i64 al,.string B,.slice a n c]] w (RetB (.bool (secR ⟨N.data.toList,k,kp,al,B.data.toList,l⟩)) w):=by
 have HT:=Lib.hid hT
 have HS:=Lib.hid hs
 have hl:=Lib.hid hs.len
 have HG:=Lib.hid hg
 have hlen:B.data.toList.length=B.size:=by simp
 have HLn:=Lib.hid hlen
 have HSec:Hid (secR ⟨N.data.toList,k,kp,al,B.data.toList,l⟩=(isNmL N.data.toList && decide (1<=k) && decide (k<=3) && decide (0<=al) && decide (al<=12) && decide (B.size<=4096) && decide (n<=64) && relsR k B.data.toList 0 l)):=Lib.hid (by
  unfold secR headR
  simp only
  rw [hlen,<-hs.len])
 have HNm:=Lib.hid (fun u (hu:TabP u)=>IsName_any N hN u hu.2)
 have HB0:Hid (Below w.heap.size w (w.alloc (.cells #[.string N,.int .i64 k,.bool kp,.int .i64 al,.string B,.slice a n c] 79))):=Lib.hid ((Below.refl _ w).alloc (Nat.le_refl _) _)
 have HX0:Hid (RB (w.alloc (.cells #[.string N,.int .i64 k,.bool kp,.int .i64 al,.string B,.slice a n c] 79)) w.heap.size #[.string N,.int .i64 k,.bool kp,.int .i64 al,.string B,.slice a n c] 79):=Lib.hid (MapKept.heap_alloc w _).1
 obtain ⟨X,hX⟩:∃ X,X=w.heap.size:=⟨_,rfl⟩
 rw [<-hX] at HX0
 have HXE:=Lib.hid hX
 have hB9:(B.size:Int)<=9223372036854775807:=by unfold maxLen at hBm;omega
 generalize isNmL N.data.toList=nm at HNm HSec
 generalize secR ⟨N.data.toList,k,kp,al,B.data.toList,l⟩=R at HSec ⊢
 clear hs hg hT hN hBm hlen
 go_enter Tryz.func43,Tryz.ntmps43
 go_wp2_with fail
 rw [<-hX]
 clear hX
 generalize w.alloc (.cells #[.string N,.int .i64 k,.bool kp,.int .i64 al,.string B,.slice a n c] 79)=W0 at HB0 HX0 ⊢
 refine (HNm.out _ (HT.out.next HB0.out)).mono ?_
 rintro e u ⟨rfl,hb⟩
 have HBX:=Lib.hid (after HB0.out hb)
 have HX:=Lib.hid (HX0.out.next hb)
 have f0:u.cell? ⟨X,1,none⟩=some (.int .i64 k):=HX.out.cell
 have f1:u.cell? ⟨X,3,none⟩=some (.int .i64 al):=HX.out.cell
 have f2:u.cell? ⟨X,4,none⟩=some (.string B):=HX.out.cell
 have f3:u.cell? ⟨X,5,none⟩=some (.slice a n c):=HX.out.cell
 clear hb
 cases nm
 ·have HF:Hid (R=false):=Lib.hid (by rw [HSec.out];rfl)
  go_wp2
  go_ret
  exact retB_bool HF.out.symm HBX.out
 by_cases t1:k < 1
 ·have HF:Hid (R=false):=Lib.hid (by rw [HSec.out,decide_eq_false (p:=1<=k) (by omega)];simp)
  go_wp2
  go_ret
  exact retB_bool HF.out.symm HBX.out
 by_cases t2:3 < k
 ·have HF:Hid (R=false):=Lib.hid (by rw [HSec.out,decide_eq_false (p:=k<=3) (by omega)];simp)
  go_wp2
  go_ret
  exact retB_bool HF.out.symm HBX.out
 by_cases t3:al < 0
 ·have HF:Hid (R=false):=Lib.hid (by rw [HSec.out,decide_eq_false (p:=0<=al) (by omega)];simp)
  go_wp2
  go_ret
  exact retB_bool HF.out.symm HBX.out
 by_cases t4:12 < al
 ·have HF:Hid (R=false):=Lib.hid (by rw [HSec.out,decide_eq_false (p:=al<=12) (by omega)];simp)
  go_wp2
  go_ret
  exact retB_bool HF.out.symm HBX.out
 by_cases t5:4096 < B.size
 ·have t5z:(4096:Int) < (B.size:Int):=by omega
  have HF:Hid (R=false):=Lib.hid (by rw [HSec.out,decide_eq_false (p:=B.size<=4096) (by omega)];simp)
  clear t5
  go_wp2
  go_ret
  exact retB_bool HF.out.symm HBX.out
 have t5z:¬ (4096:Int) < (B.size:Int):=by omega
 by_cases t6:64 < n
 ·have t6z:(64:Int) < (n:Int):=by omega
  have HF:Hid (R=false):=Lib.hid (by rw [HSec.out,decide_eq_false (p:=n<=64) (by omega)];simp)
  clear t5 t6
  go_wp2
  go_ret
  exact retB_bool HF.out.symm HBX.out
 have t6z:¬ (64:Int) < (n:Int):=by omega
 have HR:Hid (R=relsR k B.data.toList 0 l):=Lib.hid (by
  rw [HSec.out,decide_eq_true (p:=1<=k) (by omega),decide_eq_true (p:=k<=3) (by omega),decide_eq_true (p:=0<=al) (by omega),decide_eq_true (p:=al<=12) (by omega),decide_eq_true (p:=B.size<=4096) (by omega),decide_eq_true (p:=n<=64) (by omega)]
  rfl)
 have hB4:B.size<=4096:=by omega
 have hn6:n<=64:=by omega
 have hws:∀ z:Int,z=4\/z=8->IntKind.i64.wrap ((B.size:Int) - z)=(B.size:Int) - z:=fun z hz=>by rw [IntKind.wrap_i64];omega
 have hw4:=hws 4 (.inl rfl)
 have hw8:=hws 8 (.inr rfl)
 have HB4:=Lib.hid hB4
 clear HSec HNm hws t5 t6 hB9
 go_wp2_with fail
 clear t1 t2 t3 t4 t5z t6z f0 f1 f2 f3
 go_loopg [3,44] (n) (fun g ev iv wl=>∃ (j:Nat) (e:Int) (u:World),ev=.int .i64 e/\iv=.int .i64 (j:Int)/\u=wl/\j<=n/\0<=e/\Hid (R=relsR k B.data.toList e (l.drop j))/\Hid (g=n - j)/\Hid (Below w.heap.size w u)/\Hid (RB u X #[.string N,.int .i64 k,.bool kp,.int .i64 al,.string B,.slice a n c] 79))
 case atStart=>exact ⟨0,0,_,rfl,rfl,rfl,by omega,by omega,Lib.hid (by rw [List.drop_zero];exact HR.out),Lib.hid rfl,HBX,HX⟩
 case round=>
  clear HBX HX HR
  obtain ⟨j,e,u',rfl,rfl,rfl,hj,he,HA,HGk,HBX,HX⟩:=hrel
  have f2:u'.cell? ⟨X,4,none⟩=some (.string B):=HX.out.cell
  by_cases hlt:j < n
  ·have hjl:j < l.length:=by rw [<-hl.out];exact hlt
   obtain ⟨b,off,rfl,hbB,hc⟩:=(HS.out.below HBX.out).cells (HS.out.ne (k:=j) hlt)
   obtain ⟨d0,d1,d2,d3⟩:=rl_cells (fun i hi=>hc j hjl i hi)
   have HD:=Lib.hid (drop_cons hjl)
   have HGr:Hid (GoodRl l[j]):=Lib.hid (HG.out _ (List.getElem_mem _))
   generalize l[j]=r at*
   have hji:(j:Int) < (n:Int):=by omega
   have hj0:(0:Int)<=(j:Int):=by omega
   have HX1:Hid (R=if badR k B.data.toList e r then false else relsR k B.data.toList (r.pos+szR r.kind) (l.drop (j+1))):=Lib.hid (by rw [HA.out,HD.out];rfl)
   clear hc hbB hjl
   have f0:u'.cell? ⟨X,1,none⟩=some (.int .i64 k):=HX.out.cell
   have f1:u'.cell? ⟨X,3,none⟩=some (.int .i64 al):=HX.out.cell
   have f3:u'.cell? ⟨X,5,none⟩=some (.slice _ n c):=HX.out.cell
   have f4:u'.cell? ⟨X,0,none⟩=some (.string N):=HX.out.cell
   have f5:u'.cell? ⟨X,2,none⟩=some (.bool kp):=HX.out.cell
   have HBr:Hid (Below w.heap.size w (u'.alloc (.cells #[.int .i64 r.pos,.int .i64 r.kind,.int .i64 r.sym,.int .i64 r.add] 110))):=Lib.hid (HBX.out.alloc HBX.out.size _)
   have HXr:Hid (RB (u'.alloc (.cells #[.int .i64 r.pos,.int .i64 r.kind,.int .i64 r.sym,.int .i64 r.add] 110)) X #[.string N,.int .i64 k,.bool kp,.int .i64 al,.string B,.slice (some ⟨b,off,none⟩) n c] 79):=Lib.hid (HX.out.next ((Below.refl _ _).alloc (Nat.le_refl _) _))
   have hXl:X < u'.heap.size:=lt_of_block HX.out
   rcases szR_two r.kind with ⟨hz,hk⟩ | ⟨hz,hk⟩
   ·have rk:(r.kind == 1)=true:=by rw [hk];rfl
    clear hk
    have HZ:Hid (szR r.kind=8):=Lib.hid hz
    clear hz
    by_cases p1:r.pos < e
    ·have HF:Hid (R=false):=Lib.hid (by rw [HX1.out,if_pos (.inl p1)])
     go_wp2
     go_ret
     exact retB_bool HF.out.symm HBr.out
    by_cases p2:(B.size:Int) - 8 < r.pos
    ·have HF:Hid (R=false):=Lib.hid (by rw [HX1.out,if_pos (.inr (.inl (by rw [HZ.out,HLn.out];exact p2)))])
     go_wp2
     go_ret
     exact retB_bool HF.out.symm HBr.out
    by_cases p3:r.sym < 0
    ·have HF:Hid (R=false):=Lib.hid (by rw [HX1.out,if_pos (.inr (.inr (.inl p3)))])
     go_wp2
     go_ret
     exact retB_bool HF.out.symm HBr.out
    have HCv:=Lib.hid (fun v (hv:TabP v)=>cov_any N B k kp al (some ⟨b,off,none⟩) n c r HGr.out (by omega) (by rw [HZ.out];omega) HB4.out v hv)
    have hwp:IntKind.i64.wrap (r.pos+8)=r.pos+8:=by have:=HB4.out;rw [IntKind.wrap_i64];omega
    have hep:0<=r.pos+8:=by omega
    cases hcv:covR k B.data.toList r
    ·have HF:Hid (R=false):=Lib.hid (by rw [HX1.out,if_pos (.inr (.inr (.inr hcv)))])
     rw [hcv] at HCv
     clear hcv
     go_wp2_with fail
     refine (HCv.out _ (HT.out.next HBr.out)).mono ?_
     rintro e v ⟨rfl,hb⟩
     have HBv:=Lib.hid (after HBr.out hb)
     clear hb
     go_wp2
     go_ret
     exact retB_bool HF.out.symm HBv.out
    ·have HF:Hid (R=relsR k B.data.toList (r.pos+8) (l.drop (j+1))):=Lib.hid (by rw [HX1.out,if_neg (by rintro (h | h | h | h);exact p1 h;rw [HZ.out,HLn.out] at h;exact p2 h;exact p3 h;rw [hcv] at h;cases h),HZ.out])
     rw [hcv] at HCv
     clear hcv
     have hrb:RB (u'.alloc (.cells #[.int .i64 r.pos,.int .i64 r.kind,.int .i64 r.sym,.int .i64 r.add] 110)) u'.heap.size #[.int .i64 r.pos,.int .i64 r.kind,.int .i64 r.sym,.int .i64 r.add] 110:=(MapKept.heap_alloc _ _).1
     have HRB:=Lib.hid hrb
     clear hrb
     go_wp2_with fail
     refine (HCv.out _ (HT.out.next HBr.out)).mono ?_
     rintro e v ⟨rfl,hb⟩
     have HBv:=Lib.hid (after HBr.out hb)
     have HXv:=Lib.hid (HXr.out.next hb)
     have g0:v.cell? ⟨u'.heap.size,0,none⟩=some (.int .i64 r.pos):=(HRB.out.next hb).cell
     clear hb
     go_wp2
     go_roundg (n - (j+1))
     case measure=>have:=HGk.out;omega
     case rel=>exact ⟨j+1,r.pos+8,_,rfl,by go_num,rfl,by omega,hep,HF,Lib.hid rfl,HBv,HXv⟩
   ·have rk:(r.kind == 1)=false:=by rw [beq_eq_false_iff_ne];exact hk
    clear hk
    have HZ:Hid (szR r.kind=4):=Lib.hid hz
    clear hz
    by_cases p1:r.pos < e
    ·have HF:Hid (R=false):=Lib.hid (by rw [HX1.out,if_pos (.inl p1)])
     go_wp2
     go_ret
     exact retB_bool HF.out.symm HBr.out
    by_cases p2:(B.size:Int) - 4 < r.pos
    ·have HF:Hid (R=false):=Lib.hid (by rw [HX1.out,if_pos (.inr (.inl (by rw [HZ.out,HLn.out];exact p2)))])
     go_wp2
     go_ret
     exact retB_bool HF.out.symm HBr.out
    by_cases p3:r.sym < 0
    ·have HF:Hid (R=false):=Lib.hid (by rw [HX1.out,if_pos (.inr (.inr (.inl p3)))])
     go_wp2
     go_ret
     exact retB_bool HF.out.symm HBr.out
    have HCv:=Lib.hid (fun v (hv:TabP v)=>cov_any N B k kp al (some ⟨b,off,none⟩) n c r HGr.out (by omega) (by rw [HZ.out];omega) HB4.out v hv)
    have hwp:IntKind.i64.wrap (r.pos+4)=r.pos+4:=by have:=HB4.out;rw [IntKind.wrap_i64];omega
    have hep:0<=r.pos+4:=by omega
    cases hcv:covR k B.data.toList r
    ·have HF:Hid (R=false):=Lib.hid (by rw [HX1.out,if_pos (.inr (.inr (.inr hcv)))])
     rw [hcv] at HCv
     clear hcv
     go_wp2_with fail
     refine (HCv.out _ (HT.out.next HBr.out)).mono ?_
     rintro e v ⟨rfl,hb⟩
     have HBv:=Lib.hid (after HBr.out hb)
     clear hb
     go_wp2
     go_ret
     exact retB_bool HF.out.symm HBv.out
    ·have HF:Hid (R=relsR k B.data.toList (r.pos+4) (l.drop (j+1))):=Lib.hid (by rw [HX1.out,if_neg (by rintro (h | h | h | h);exact p1 h;rw [HZ.out,HLn.out] at h;exact p2 h;exact p3 h;rw [hcv] at h;cases h),HZ.out])
     rw [hcv] at HCv
     clear hcv
     have hrb:RB (u'.alloc (.cells #[.int .i64 r.pos,.int .i64 r.kind,.int .i64 r.sym,.int .i64 r.add] 110)) u'.heap.size #[.int .i64 r.pos,.int .i64 r.kind,.int .i64 r.sym,.int .i64 r.add] 110:=(MapKept.heap_alloc _ _).1
     have HRB:=Lib.hid hrb
     clear hrb
     go_wp2_with fail
     refine (HCv.out _ (HT.out.next HBr.out)).mono ?_
     rintro e v ⟨rfl,hb⟩
     have HBv:=Lib.hid (after HBr.out hb)
     have HXv:=Lib.hid (HXr.out.next hb)
     have g0:v.cell? ⟨u'.heap.size,0,none⟩=some (.int .i64 r.pos):=(HRB.out.next hb).cell
     clear hb
     go_wp2
     go_roundg (n - (j+1))
     case measure=>have:=HGk.out;omega
     case rel=>exact ⟨j+1,r.pos+4,_,rfl,by go_num,rfl,by omega,hep,HF,Lib.hid rfl,HBv,HXv⟩
  ·have HF:Hid (R=true):=Lib.hid (by rw [HA.out,List.drop_eq_nil_of_le (by have:=hl.out;omega)];rfl)
   have hnj:¬ (j:Int) < (n:Int):=by omega
   go_wp2
   go_ret
   exact retB_bool HF.out.symm HBX.out
theorem pIs_any (s:Sc) (a:Option Addr) (n c:Nat) (w:World) (hs:SL rlC 4 w w.heap.size a n s.rels) (hg:GoodSc s) (hT:TabP w):Calls Tryz.prog 43 #[scV s a n c] w (RetB (.bool (secR s)) w):=
 pIs_core ⟨s.name.toArray⟩ ⟨s.data.toArray⟩ s.kind s.keep s.align a n c s.rels (by show s.name.toArray.size<=maxLen;simpa using hg.name) (by show s.data.toArray.size<=maxLen;simpa using hg.data) w hs hg.rels hT
end Go.Proofs.YtobdldadfipcgaaGreatDoor
namespace Go.Proofs.YtobdldadfipcgaaGreatDoor
open Go.RowKit
abbrev WrAt (B b:Nat) (p:Value) (bs:List Value) (w:World):Prop:=Lib.BuilderAt 208 5 B b p bs w
abbrev Wr (B b:Nat) (bs:List Value) (w:World):Prop:=Lib.IsBuilder 208 5 B b bs w
theorem infoB:(Tryz.prog.info? 208).map (·.size)=some 2:=by kernel_rfl
theorem infoU:(Tryz.prog.info? 5).map (fun i=>(i.zero,i.size,i.bytes))=some (some (.int .u8 0),1,1):=by kernel_rfl
theorem ptrB:Tryz.prog.underlying 206=some (.pointer 208):=by kernel_rfl
theorem ptrX:Tryz.prog.underlying 245=some .unsafePointer:=by kernel_rfl
theorem liesW:liesAt Tryz.prog Tryz.prog.depth 208 (2 / Tryz.prog.cellsOf 208) 0 208 1=true:=by kernel_rfl
theorem copyCheck_used (b:Nat) (w:World) (h0:w.cell? ⟨b,0,none⟩=some (.pointer (some ⟨b,0,none⟩))):
  Calls Tryz.prog 143 #[.pointer (some ⟨b,0,none⟩)] w fun e w'=>e=.returned (.tuple #[])/\w'=w:=by
 obtain ⟨j,hj,_⟩:=Option.map_eq_some_iff.1 infoB
 go_enter Tryz.func143,Tryz.ntmps143
 go_wp2
 rw [Lib.run_neq_ptr_same w _ ptrB hj]
 go_wp2
 go_end0
 exact ⟨rfl,rfl⟩
theorem copyCheck_fresh (b:Nat) (w:World) (h0:w.cell? ⟨b,0,none⟩=some (.pointer none)) (hsh:w.shape? b=some (208,2)) (hfz:w.frozen? ⟨b,0,none⟩=false):
  Calls Tryz.prog 143 #[.pointer (some ⟨b,0,none⟩)] w fun e w'=>e=.returned (.tuple #[])/\w'=w.setCell ⟨b,0,none⟩ (.pointer (some ⟨b,0,none⟩)):=by
 obtain ⟨j,hj,hjs⟩:=Option.map_eq_some_iff.1 infoB
 have hcv:(convert 206 245 (.pointer (some ⟨b,0,none⟩))).run Tryz.prog w=.ok (.pointer (some ⟨b,0,none⟩)) w:=
  Lib.run_to_unsafe w ⟨b,0,none⟩ ptrB ptrX hj (by rw [hjs];decide) hsh (Nat.zero_lt_succ 1)
 have hcb:(convert 245 206 (.pointer (some ⟨b,0,none⟩))).run Tryz.prog w=.ok (.pointer (some ⟨b,0,none⟩)) w:=
  Lib.run_from_unsafe w ⟨b,0,none⟩ ptrX ptrB hj hsh liesW
 have hcl:(callFunc 159 #[.pointer (some ⟨b,0,none⟩)]).run Tryz.prog w=.ok (.value (.pointer (some ⟨b,0,none⟩))) w:=by
  rw [run_callFunc_extern Tryz.func159 (by kernel_rfl) (by kernel_rfl) (by kernel_rfl) (e:=Extern.AbiNoEscape.same) (by kernel_rfl),Lib.run_noEscape]
  rfl
 go_enter Tryz.func143,Tryz.ntmps143
 go_wp2
 go_end0
 exact ⟨rfl,rfl⟩
theorem copyCheck_any (B b:Nat) (bs:List Value) (w:World) (h:Wr B b bs w):
  Calls Tryz.prog 143 #[.pointer (some ⟨b,0,none⟩)] w fun e w'=>e=.returned (.tuple #[])/\(WrAt B b (.pointer (some ⟨b,0,none⟩)) bs w'/\Below B w w'/\Lib.OthersKept 5 (some b) w w'):=by
 rcases h with h | h
 ·refine (copyCheck_fresh b w h.cell0 h.shape h.frozen0).mono ?_
  rintro e w' ⟨rfl,rfl⟩
  exact ⟨rfl,h.used _,(Below.refl B w).setCell (p:=⟨b,0,none⟩) h.1 _,(Lib.OthersKept.refl _ _ w).setCell ⟨b,0,none⟩ rfl _⟩
 ·refine (copyCheck_used b w h.cell0).mono ?_
  rintro e w' ⟨rfl,rfl⟩
  exact ⟨rfl,h,Below.refl B _,Lib.OthersKept.refl _ _ _⟩
theorem row_kind {w:World} {B:Nat} {e:TypeId} {v:Value} {n:Nat} {xs:List Value} (h:w.ownsRow B e 1 v n xs):∀ g,v.ownBlock=some g->∃ c fz,w.heap[g]?=some (.cells c e fz):=by
 intro g hg
 rcases h.2 with ⟨rfl,_⟩ | ⟨g',cap,cur,rfl,_,hgg,_⟩
 ·simp [Value.ownBlock] at hg
 ·simp only [Value.ownBlock,Option.some.injEq] at hg
  subst hg
  exact ⟨_,_,hgg⟩
theorem writeString_any (B b:Nat) (bs:List Value) (s:ByteArray) (w:World) (h:Wr B b bs w) (hlen:bs.length+s.size<=140737488355328) (hBw:B<=w.heap.size):
  Calls Tryz.prog 125 #[.pointer (some ⟨b,0,none⟩),.string s] w fun e w'=>e=.returned (.tuple #[.int .i64 s.size,.nilIface])/\(WrAt B b (.pointer (some ⟨b,0,none⟩)) (bs ++ Lib.strCells s) w'/\Below B w w'):=by
 obtain ⟨i0,hi,hz0,hz1,hz2⟩:=info_parts infoU
 go_enter Tryz.func125,Tryz.ntmps125
 go_wp2_with fail
 refine (copyCheck_any B b bs _ h).mono ?_
 rintro e w1 ⟨rfl,h1,hb1,hk1⟩
 obtain ⟨hB,v,hbk,hown,hne⟩:=h1
 have c0:w1.cell? ⟨b,0,none⟩=some (.pointer (some ⟨b,0,none⟩)):=by rw [Lib.cell_of_heap hbk];rfl
 have c1:w1.cell? ⟨b,1,none⟩=some v:=by rw [Lib.cell_of_heap hbk];rfl
 go_wp2_with (at_builtin;refine Lib.wpList_append_own_string _ rfl _ _ 70 9 rfl B 5 i0 Tryz.underlying70 Tryz.underlying9 hi hz0 hz1 hz2 _ _ _ rfl hown s rfl ?c3 ?c4 ?c5 ?_)
 case c3=>unfold maxLen;omega
 case c4=>omega
 case c5=>have:=hb1.size;omega
 intro v' w2 hown' hgrow _
 have hlt:b < w1.heap.size:=(Array.getElem?_eq_some_iff.1 hbk).1
 have hb2:w2.heap[b]?=some (.cells #[.pointer (some ⟨b,0,none⟩),v] 208 (0,0)):=by
  rw [hgrow.block b hlt (fun e=>hne e.symm)]
  exact hbk
 have d0:w2.cell? ⟨b,0,none⟩=some (.pointer (some ⟨b,0,none⟩)):=by rw [Lib.cell_of_heap hb2];rfl
 have d1:w2.cell? ⟨b,1,none⟩=some v:=by rw [Lib.cell_of_heap hb2];rfl
 have f1:w2.frozen? ⟨b,1,none⟩=false:=Lib.frozen_of_heap hb2 1
 obtain ⟨ao,n',cap,rfl⟩:∃ ao n' cap,v'=.slice ao n' cap:=by
  rcases hown'.2 with ⟨hv,_⟩ | ⟨g,cap,cur,hv,_⟩
  ·exact ⟨_,_,_,hv⟩
  ·exact ⟨_,_,_,hv⟩
 go_wp2
 go_ret2
 refine ⟨rfl,?_,?_⟩
 ·exact Lib.BuilderAt.put hB hb2 (bs':=bs ++ Lib.strCells s) (by simpa [Lib.strCells_length] using hown') (by decide)
 ·exact (hb1.grown hgrow (by have:=hb1.size;omega) (fun k hk=>(hown.lt k hk).1)).setCell (p:=⟨b,1,none⟩) hB _
theorem string_some (B b:Nat) (l:List UInt8) (w:World) (h:Wr B b (Lib.byteCells l) w) (h0:l ≠ []):
  Calls Tryz.prog 127 #[.pointer (some ⟨b,0,none⟩)] w fun e w'=>e=.returned (.string ⟨l.toArray⟩)/\Below B w w':=by
 obtain ⟨p,hB,v,hbk,hown,hne⟩:∃ p,WrAt B b p (Lib.byteCells l) w:=by
  rcases h with h | h
  ·exact ⟨_,h⟩
  ·exact ⟨_,h⟩
 have hl0:l.length ≠ 0:=by simpa using h0
 rw [Lib.byteCells_length] at hown
 obtain ⟨g,cap,cur,rfl,hbg,hg,hnc,hcm,hcs,htake⟩:∃ g cap cur,v=.slice (some ⟨g,0,none⟩) l.length cap/\B<=g/\w.heap[g]?=some (.cells cur 5 (0,0))/\l.length<=cap/\cap<=maxLen/\cur.size=cap*1/\cur.toList.take (l.length*1)=Lib.byteCells l:=by
  rcases hown.2 with ⟨_,hz⟩ | ⟨g,cap,cur,hv,r⟩
  ·exact absurd hz hl0
  ·exact ⟨g,cap,cur,hv,r⟩
 have c1:w.drew.cell? ⟨b,1,none⟩=some (.slice (some ⟨g,0,none⟩) l.length cap):=by
  have:w.drew.heap[b]?=some (.cells #[p,.slice (some ⟨g,0,none⟩) l.length cap] 208 (0,0)):=hbk
  rw [Lib.cell_of_heap this];rfl
 have hSD:(Builtin.unsafeSliceData_ #[70] 233 #[.slice (some ⟨g,0,none⟩) l.length cap]).run Tryz.prog w.drew=.ok (.pointer (some ⟨g,0,none⟩)) w.drew:=
  Lib.run_unsafeSliceData_row _ _ _ _ _ _ (by omega)
 have hUS:(Builtin.unsafeString_ #[233,3] 9 #[.pointer (some ⟨g,0,none⟩),.int .i64 l.length]).run Tryz.prog w.drew=.ok (.string ⟨l.toArray⟩) (w.drew.freeze ⟨g,0,none⟩ l.length):=by
  refine Lib.run_unsafeString_row w.drew 233 3 9 5 (by kernel_rfl) (by kernel_rfl) g cur.size (by have hg':w.drew.heap[g]?=some (.cells cur 5 (0,0)):=hg;simp [World.shape?,hg']) l h0 (by omega) (by unfold maxLen at hcm;omega) ?_
  intro j x hx
  have:=hown.cells (g:=g) rfl j (.int .u8 x.toNat) (by simp [Lib.byteCells,hx])
  exact this
 go_enter Tryz.func127,Tryz.ntmps127
 go_wp2
 go_region
 all_goals (go_wp2;go_ret;exact ⟨rfl,Lib.below_freeze (Below.drew (Below.refl B w)) (p:=⟨g,0,none⟩) hbg _⟩)
end Go.Proofs.YtobdldadfipcgaaGreatDoor
namespace Go.Proofs.YtobdldadfipcgaaGreatDoor
open Go.RowKit
open Go.ChangeShapes Go.WideShapes Go.Deep Go.RowKit
theorem info_rel:(Tryz.prog.info? 110).map (fun i=>(i.zero,i.size,i.bytes))=some (some (.agg #[.int .i64 0,.int .i64 0,.int .i64 0,.int .i64 0]),4,32):=by kernel_rfl
theorem step_run {w:World} {ops:Array Oper} {o:Oper} {a:Act} {K:Act->World->Prop} {Q:Exit->Act->World->Prop} {E:Prop} (hgd:o.guard=none) (s x:Operand) (t:TypeId)
  (ho:o.op=.call { callee:=.builtin .append,args:=#[s,x],argTypes:=#[t,t] }) (sv xv:Value) (hs:a.eval s=sv) (hx:a.eval x=xv) {v':Value} {w':World}
  (hr:(Builtin.append_ #[t,t] o.type #[sv,xv]).run Tryz.prog w=.ok v' w') (h:K (a.put o.dst v') w'):if Region.wanted o (yielded ops a.tmps)=true then Oper.wp Tryz.prog o a w K Q else E:=by
 have hw:Region.wanted o (yielded ops a.tmps)=true:=by simp [Region.wanted,hgd]
 rw [if_pos hw]
 unfold Oper.wp execOp
 simp only [ho,resolve,invoke,builtin,Sem.run_bind,Sem.run_pure,Result.andThen_ok,List.map_toArray,List.map_cons,List.map_nil,hs,hx,hr]
 exact h
open Go.ChangeShapes Go.WideShapes Go.Deep Go.RowKit
theorem own_cap {w:World} {B e sz n c:Nat} {a:Option Addr} {xs:List Value} (h:w.ownsRow B e sz (.slice a n c) n xs):n<=c:=by
 rcases h.2 with ⟨hv,h0⟩ | ⟨g,cap,cur,hv,_,_,h3,_⟩
 ·omega
 ·simp only [Value.slice.injEq] at hv;omega
theorem Row0.out {w:World} {B:Nat} {v:Value} {n:Nat} {l:List Rl} (h:Row0 w B v n l):∃ a c,v=.slice a n c/\SL rlC 4 w w.heap.size a n l/\(a=none->n=0/\c=0)/\n<=c:=by
 rcases h with hown | ⟨ad,rfl,rfl,rfl⟩
 ·obtain ⟨a,c,rfl,h1,h2⟩:=SL.ofOwns rl_len (by decide) hown
  exact ⟨a,c,rfl,h1,h2,own_cap hown⟩
 ·exact ⟨some ad,0,rfl,SL.nil _ _ _,(fun h=>by cases h),Nat.le_refl _⟩
theorem Row0.mono {w:World} {B B':Nat} {v:Value} {n:Nat} {l:List Rl} (h:Row0 w B v n l) (hB:B'<=B):Row0 w B' v n l:=by
 rcases h with h | h
 ·refine .inl ⟨h.1,?_⟩
  rcases h.2 with hh | ⟨g,cap,cur,hv,hb,r⟩
  ·exact .inl hh
  ·exact .inr ⟨g,cap,cur,hv,Nat.le_trans hB hb,r⟩
 ·exact .inr h
theorem Row0.set {w:World} {B Y:Nat} {v:Value} {n:Nat} {l:List Rl} (h:Row0 w B v n l) (hY:Y < B) (j:Nat) (x:Value):Row0 (w.setCell ⟨Y,j,none⟩ x) B v n l:=by
 rcases h with hown | h
 ·refine .inl (hown.kept (KP.step Y w j x) ?_)
  cases hv:v.ownBlock with
  | none=>exact .inl rfl
  | some g=>right;have:=(hown.lt g hv).1;simp;omega
 ·exact .inr h
end Go.Proofs.YtobdldadfipcgaaGreatDoor
namespace Go.Proofs.YtobdldadfipcgaaGreatDoor
open Go.RowKit
open Go.ChangeShapes Go.WideShapes Go.Deep Go.RowKit
structure Sy where
 name:List UInt8
 bind:Int
 sec:Int
 off:Int
structure Ms where
 sc:Sc
 ad:Option Addr
 cap:Nat
def msC (m:Ms):List Value:=[.string ⟨m.sc.name.toArray⟩,.int .i64 m.sc.kind,.bool m.sc.keep,.int .i64 m.sc.align,.string ⟨m.sc.data.toArray⟩,.slice m.ad m.sc.rels.length m.cap]
theorem ms_len (m:Ms):(msC m).length=6:=rfl
def Notes (w:World) (B:Nat) (L:List Ms):Prop:=∀ m ∈ L,SL rlC 4 w B m.ad m.sc.rels.length m.sc.rels
theorem Notes.next {w w':World} {L:List Ms} (h:Notes w w.heap.size L) (hb:Below w.heap.size w w'):Notes w' w'.heap.size L:=fun m hm=>(h m hm).next hb
structure Ob where
 secs:List Sc
 syms:List Sy
theorem zeroInt (w:World):(zeroValue 3).run Tryz.prog w=.ok (.int .i64 0) w:=by kernel_rfl
def pairS (p:ByteArray × Int):Value × Value:=(.string p.1,.int .i64 p.2)
def NM (w:World) (b:Nat) (l:List (ByteArray × Int)):Prop:=∃ es clock,w.heap[b]?=some (.map es clock)/\es.toList.map (fun e=>(e.key,e.val))=l.map pairS
theorem NM.next {w w':World} {b:Nat} {l:List (ByteArray × Int)} (h:NM w b l) (hb:Below w.heap.size w w'):NM w' b l:=by
 obtain ⟨es,clock,h1,h2⟩:=h
 exact ⟨es,clock,(hb.block b (lt_of_block h1)).trans h1,h2⟩
open Go.ChangeShapes Go.WideShapes Go.Deep Go.RowKit
theorem ms_cells {w:World} {b off k:Nat} {m:Ms} (h:∀ j,j < 6->w.cell? ⟨b,off+k*6+j,none⟩=(msC m)[j]?):
  w.cell? ⟨b,off+k*6,none⟩=some (.string ⟨m.sc.name.toArray⟩)/\w.cell? ⟨b,off+k*6+1,none⟩=some (.int .i64 m.sc.kind)/\w.cell? ⟨b,off+k*6+2,none⟩=some (.bool m.sc.keep)/\w.cell? ⟨b,off+k*6+3,none⟩=some (.int .i64 m.sc.align)/\w.cell? ⟨b,off+k*6+4,none⟩=some (.string ⟨m.sc.data.toArray⟩)/\w.cell? ⟨b,off+k*6+5,none⟩=some (.slice m.ad m.sc.rels.length m.cap):=
 ⟨h 0 (by omega),h 1 (by omega),h 2 (by omega),h 3 (by omega),h 4 (by omega),h 5 (by omega)⟩
end Go.Proofs.YtobdldadfipcgaaGreatDoor
namespace Go.Proofs.YtobdldadfipcgaaGreatDoor
open Go.RowKit
open Go.ChangeShapes Go.WideShapes Go.Deep Go.RowKit
def sameRl (x y:Rl):Bool:=x.pos == y.pos && (x.kind == y.kind && (x.sym == y.sym && x.add == y.add))
def bigS (x n y:Nat):Bool:=decide (5000 < x\/80 < n\/100 < y)
theorem rBig_any (N B:ByteArray) (k:Int) (kp:Bool) (al:Int) (a:Option Addr) (n c:Nat) (w:World):Calls Tryz.prog 19 #[.agg #[.string N,.int .i64 k,.bool kp,.int .i64 al,.string B,.slice a n c]] w (RetB (.bool (bigS B.size n N.size)) w):=by
 have HX:RB (w.alloc (.cells #[.string N,.int .i64 k,.bool kp,.int .i64 al,.string B,.slice a n c] 79)) w.heap.size #[.string N,.int .i64 k,.bool kp,.int .i64 al,.string B,.slice a n c] 79:=(MapKept.heap_alloc w _).1
 have HB1:Hid (Below w.heap.size w (w.alloc (.cells #[.string N,.int .i64 k,.bool kp,.int .i64 al,.string B,.slice a n c] 79))):=Lib.hid ((Below.refl _ w).alloc (Nat.le_refl _) _)
 have x0:(w.alloc (.cells #[.string N,.int .i64 k,.bool kp,.int .i64 al,.string B,.slice a n c] 79)).cell? ⟨w.heap.size,0,none⟩=some (.string N):=HX.cell
 have x4:(w.alloc (.cells #[.string N,.int .i64 k,.bool kp,.int .i64 al,.string B,.slice a n c] 79)).cell? ⟨w.heap.size,4,none⟩=some (.string B):=HX.cell
 have x5:(w.alloc (.cells #[.string N,.int .i64 k,.bool kp,.int .i64 al,.string B,.slice a n c] 79)).cell? ⟨w.heap.size,5,none⟩=some (.slice a n c):=HX.cell
 clear HX
 by_cases h1:5000 < B.size
 ·have r1:(5000:Int) < (B.size:Int):=by omega
  have HR:Hid (bigS B.size n N.size=true):=Lib.hid (decide_eq_true (.inl h1))
  clear h1
  go_enter Tryz.func19,Tryz.ntmps19
  go_wp2
  go_ret
  exact retB_bool HR.out.symm HB1.out
 ·have r1:¬ (5000:Int) < (B.size:Int):=by omega
  by_cases h2:80 < n
  ·have r2:(80:Int) < (n:Int):=by omega
   have HR:Hid (bigS B.size n N.size=true):=Lib.hid (decide_eq_true (.inr (.inl h2)))
   clear h1 h2
   go_enter Tryz.func19,Tryz.ntmps19
   go_wp2
   go_ret
   exact retB_bool HR.out.symm HB1.out
  ·have r2:¬ (80:Int) < (n:Int):=by omega
   by_cases h3:100 < N.size
   ·have r3:(100:Int) < (N.size:Int):=by omega
    have HR:Hid (bigS B.size n N.size=true):=Lib.hid (decide_eq_true (.inr (.inr h3)))
    clear h1 h2 h3
    go_enter Tryz.func19,Tryz.ntmps19
    go_wp2
    go_ret
    exact retB_bool HR.out.symm HB1.out
   ·have r3:¬ (100:Int) < (N.size:Int):=by omega
    have HR:Hid (bigS B.size n N.size=false):=Lib.hid (decide_eq_false (by omega))
    clear h1 h2 h3
    go_enter Tryz.func19,Tryz.ntmps19
    go_wp2
    go_ret
    exact retB_bool HR.out.symm HB1.out
open Go.ChangeShapes Go.WideShapes Go.Deep Go.RowKit
structure Grew (s t:Sc):Prop where
 was:secR s=true
 right:secR t=true
 good:GoodSc t
 name:t.name=s.name
 kind:t.kind=s.kind
 keep:t.keep=s.keep
 align:s.align<=t.align
 data:∃ x,t.data=s.data ++ x
 rels:∃ q,t.rels=s.rels ++ q
def Grows (s:Sc) (x:Sc × Int):Prop:=x.2=0/\Grew s x.1\/x.2 ≠ 0/\x.1=scZ/\(secR s=false->x.2=1)
theorem Grows.good {s:Sc} {x:Sc × Int} (h:Grows s x):GoodSc x.1:=by
 rcases h with ⟨-,h⟩ | ⟨-,h,-⟩
 ·exact h.good
 ·rw [h];exact ⟨by unfold maxLen;simp,by constructor <;> decide,by constructor <;> decide,by unfold maxLen;simp,by simp⟩
open Go.ChangeShapes Go.WideShapes Go.Deep Go.RowKit
theorem SecR.lit {s:Sc} {er:Int} {x:Sc × Int} {w w':World} {e:Ending} (h:SecR x w e w') (hx:x=(s,er)):∃ a c,e=.returned (.tuple #[scV s a s.rels.length c,.int .i64 er])/\SL rlC 4 w' w'.heap.size a s.rels.length s.rels/\(a=none->s.rels.length=0/\c=0)/\s.rels.length<=c/\Below w.heap.size w w':=by
 subst hx
 obtain ⟨a,c,rfl,h1,h2⟩:=h
 obtain ⟨a',c',he,h3,h4,h5⟩:=h1.out
 cases he
 exact ⟨_,_,rfl,h3,h4,h5,h2⟩
structure GoodB (N:ByteArray) (k al:Int) (B:ByteArray) (l:List Rl):Prop where
 name:N.size<=maxLen
 data:B.size<=maxLen
 rels:∀ r ∈ l,GoodRl r
 kind:i64ok k
 align:i64ok al
theorem GoodB.sc {N B:ByteArray} {k al:Int} {l:List Rl} (h:GoodB N k al B l) (kp:Bool):GoodSc ⟨N.data.toList,k,kp,al,B.data.toList,l⟩:=
 ⟨by simpa using h.name,h.kind,h.align,by simpa using h.data,h.rels⟩
theorem GoodSc.b {N B:ByteArray} {k al:Int} {kp:Bool} {l:List Rl} (h:GoodSc ⟨N.data.toList,k,kp,al,B.data.toList,l⟩):GoodB N k al B l:=
 ⟨by simpa using h.name,by simpa using h.data,h.rels,h.kind,h.align⟩
end Go.Proofs.YtobdldadfipcgaaGreatDoor
