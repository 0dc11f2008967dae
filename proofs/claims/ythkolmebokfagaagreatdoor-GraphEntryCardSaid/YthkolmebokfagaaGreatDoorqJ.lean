/- Numbers as bytes that end by themselves: plain facts; no Go in sight. wire.Get. strings.Builder inside wire.writer: copyCheck, WriteByte, WriteString, String. A range over a function that keeps its state in a variable of its own: the rounds are never left; the iterator of wire.digits. wire.writer.number, wire.Put, wire.PutText. wire.Put, PutText, PutInt, GetInt, GetText. obj: the builder's frame; Put's number, keepNumber. obj, plain: the bytes of an object. -/
import Derived.Test.YthkolmebokfagaaGreatDoorqA
import Derived.Lib.Strings
import Derived.RegionTactic
import Derived.ChangeAlike
import Derived.Lib.Builder
import Derived.Lib.AppendStr
import Derived.Lib.UnsafeStr
import Derived.Lib.OthersKept
import Derived.Laws.Externs
import Derived.RangeFuncNested
import Derived.RangeFuncBound
import Derived.RangeFuncCalls
import Derived.RangeFuncLeaves
import Derived.Shelf.Abstract
import Derived.Shelf.RegionOpen
import Derived.OwnWalkIn
import Derived.TacticsInMore
import Derived.LoopNIn
import Derived.LoopIn
import Derived.Test.YthkolmebokfagaaGreatDoorqI
set_option maxRecDepth 100000
set_option maxHeartbeats 2000000
set_option linter.unusedVariables false
set_option linter.unusedSimpArgs false
namespace Go.Proofs.YthkolmebokfagaaGreatDoor.Wi
open Go.RowKit
def putF:Nat->Nat->List UInt8
 | 0,_=>[]
 | n+1,v=>if v < 128 then [UInt8.ofNat v] else UInt8.ofNat (v % 128+128) :: putF n (v / 128)
def putL (v:Nat):List UInt8:=putF 10 v
theorem putF_small {n v:Nat} (h:v < 128):putF (n+1) v=[UInt8.ofNat v]:=by rw [putF,if_pos h]
theorem putF_big {n v:Nat} (h:128<=v):putF (n+1) v=UInt8.ofNat (v % 128+128) :: putF n (v / 128):=by rw [putF,if_neg (by omega)]
theorem small_nat {v:Nat} (h:v < 128):(UInt8.ofNat v).toNat=v:=by rw [UInt8.toNat_ofNat'];omega
theorem big_nat (v:Nat):(UInt8.ofNat (v % 128+128)).toNat=v % 128+128:=by rw [UInt8.toNat_ofNat'];omega
theorem pow_s (k:Nat):128 ^ (k+1)=128*128 ^ k:=by rw [Nat.pow_succ,Nat.mul_comm]
theorem put_len (n:Nat):∀ v,v < 128 ^ (n+1)->1<=(putF (n+1) v).length/\(putF (n+1) v).length<=n+1/\v < 128 ^ (putF (n+1) v).length/\((putF (n+1) v).length=1\/128 ^ ((putF (n+1) v).length - 1)<=v):=by
 induction n with
 | zero=>intro v h;rw [putF_small (by simpa using h)];exact ⟨by simp,by simp,by simpa using h,.inl rfl⟩
 | succ n ih=>
  intro v h
  by_cases c:v < 128
  ·rw [putF_small c];exact ⟨by simp,by simp,by simpa using c,.inl rfl⟩
  ·rw [putF_big (by omega)]
   have h2:v / 128 < 128 ^ (n+1):=Nat.div_lt_of_lt_mul (by rw [pow_s] at h;exact h)
   obtain ⟨e1,e2,e3,e4⟩:=ih (v / 128) h2
   refine ⟨by simp,by simp;omega,?_,.inr ?_⟩
   ·rw [List.length_cons,pow_s];omega
   ·rw [List.length_cons,Nat.add_sub_cancel]
    rcases e4 with e4 | e4
    ·rw [e4];omega
    ·obtain ⟨j,hj⟩:∃ j,(putF (n+1) (v / 128)).length=j+1:=⟨_,(Nat.sub_add_cancel e1).symm⟩
     rw [hj] at e4 ⊢
     rw [Nat.add_sub_cancel] at e4
     rw [pow_s];omega
theorem putL_len {v:Nat} (h:v < 18446744073709551616):1<=(putL v).length/\(putL v).length<=10/\v < 128 ^ (putL v).length/\((putL v).length=1\/128 ^ ((putL v).length - 1)<=v):=
 put_len 9 v (Nat.lt_of_lt_of_le h (by decide))
def zig (n:Int):Nat:=if n < 0 then (-2*n - 1).toNat else (2*n).toNat
theorem zig_lt {n:Int} (h : -9223372036854775808<=n) (h2:n<=9223372036854775807):zig n < 18446744073709551616:=by unfold zig;split <;> omega
theorem bytes_drop (D:ByteArray) (pos:Nat) (h:pos < D.size):D.data.toList.drop pos=D[pos] :: D.data.toList.drop (pos+1):=by
 rw [List.drop_eq_getElem_cons (by simpa using h)];rfl
theorem bytes_len (D:ByteArray):D.data.toList.length=D.size:=Array.length_toList
abbrev WrAtZ (B b:Nat) (p:Value) (bs:List Value) (w:World):Prop:=Lib.BuilderAt 122 5 B b p bs w
abbrev WrZ (B b:Nat) (bs:List Value) (w:World):Prop:=Lib.IsBuilder 122 5 B b bs w
theorem infoBZ:(Tryz.prog.info? 71).map (·.size)=some 2:=by kernel_rfl
theorem infoUZ:(Tryz.prog.info? 5).map (fun i=>(i.zero,i.size,i.bytes))=some (some (.int .u8 0),1,1):=by kernel_rfl
theorem ptrBZ:Tryz.prog.underlying 68=some (.pointer 71):=by kernel_rfl
theorem ptrXZ:Tryz.prog.underlying 145=some .unsafePointer:=by kernel_rfl
theorem liesWZ:liesAt Tryz.prog Tryz.prog.depth 122 (2 / Tryz.prog.cellsOf 122) 0 71 1=true:=by kernel_rfl
theorem copyCheck_usedZ (b:Nat) (w:World) (h0:w.cell? ⟨b,0,none⟩=some (.pointer (some ⟨b,0,none⟩))):
  Calls Tryz.prog 67 #[.pointer (some ⟨b,0,none⟩)] w fun e w'=>e=.returned (.tuple #[])/\w'=w:=by
 obtain ⟨j,hj,_⟩:=Option.map_eq_some_iff.1 infoBZ
 go_enter Tryz.func67,Tryz.ntmps67
 go_wp2
 rw [Lib.run_neq_ptr_same w _ ptrBZ hj]
 go_wp2
 go_end0
 exact ⟨rfl,rfl⟩
theorem copyCheck_freshZ (b:Nat) (w:World) (h0:w.cell? ⟨b,0,none⟩=some (.pointer none)) (hsh:w.shape? b=some (122,2)) (hfz:w.frozen? ⟨b,0,none⟩=false):
  Calls Tryz.prog 67 #[.pointer (some ⟨b,0,none⟩)] w fun e w'=>e=.returned (.tuple #[])/\w'=w.setCell ⟨b,0,none⟩ (.pointer (some ⟨b,0,none⟩)):=by
 obtain ⟨j,hj,hjs⟩:=Option.map_eq_some_iff.1 infoBZ
 have hcv:(convert 68 145 (.pointer (some ⟨b,0,none⟩))).run Tryz.prog w=.ok (.pointer (some ⟨b,0,none⟩)) w:=
  Lib.run_to_unsafe w ⟨b,0,none⟩ ptrBZ ptrXZ hj (by rw [hjs];decide) hsh (Nat.zero_lt_succ 1)
 have hcb:(convert 145 68 (.pointer (some ⟨b,0,none⟩))).run Tryz.prog w=.ok (.pointer (some ⟨b,0,none⟩)) w:=
  Lib.run_from_unsafe w ⟨b,0,none⟩ ptrXZ ptrBZ hj hsh liesWZ
 have hcl:(callFunc 90 #[.pointer (some ⟨b,0,none⟩)]).run Tryz.prog w=.ok (.value (.pointer (some ⟨b,0,none⟩))) w:=by
  rw [run_callFunc_extern Tryz.func90 (by kernel_rfl) (by kernel_rfl) (by kernel_rfl) (e:=Extern.AbiNoEscape.same) (by kernel_rfl),Lib.run_noEscape]
  rfl
 go_enter Tryz.func67,Tryz.ntmps67
 go_wp2
 go_end0
 exact ⟨rfl,rfl⟩
theorem copyCheck_anyZ (B b:Nat) (bs:List Value) (w:World) (h:WrZ B b bs w):
  Calls Tryz.prog 67 #[.pointer (some ⟨b,0,none⟩)] w fun e w'=>e=.returned (.tuple #[])/\(WrAtZ B b (.pointer (some ⟨b,0,none⟩)) bs w'/\Below B w w'/\Lib.OthersKept 5 (some b) w w'):=by
 rcases h with h | h
 ·refine (copyCheck_freshZ b w h.cell0 h.shape h.frozen0).mono ?_
  rintro e w' ⟨rfl,rfl⟩
  exact ⟨rfl,h.used _,(Below.refl B w).setCell (p:=⟨b,0,none⟩) h.1 _,(Lib.OthersKept.refl _ _ w).setCell ⟨b,0,none⟩ rfl _⟩
 ·refine (copyCheck_usedZ b w h.cell0).mono ?_
  rintro e w' ⟨rfl,rfl⟩
  exact ⟨rfl,h,Below.refl B _,Lib.OthersKept.refl _ _ _⟩
theorem row_kindZ {w:World} {B:Nat} {e:TypeId} {v:Value} {n:Nat} {xs:List Value} (h:w.ownsRow B e 1 v n xs):∀ g,v.ownBlock=some g->∃ c fz,w.heap[g]?=some (.cells c e fz):=by
 intro g hg
 rcases h.2 with ⟨rfl,_⟩ | ⟨g',cap,cur,rfl,_,hgg,_⟩
 ·simp [Value.ownBlock] at hg
 ·simp only [Value.ownBlock,Option.some.injEq] at hg
  subst hg
  exact ⟨_,_,hgg⟩
theorem writeByte_anyZ (B b:Nat) (bs:List Value) (c:Int) (w:World) (h:WrZ B b bs w) (hlen:bs.length+1<=140737488355328) (hBw:B<=w.heap.size):
  Calls Tryz.prog 92 #[.pointer (some ⟨b,0,none⟩),.int .u8 c] w fun e w'=>e=.returned .nilIface/\(WrAtZ B b (.pointer (some ⟨b,0,none⟩)) (bs ++ [.int .u8 c]) w'/\Below B w w'/\Lib.OthersKept 5 (some b) w w'):=by
 obtain ⟨i0,hi,hz0,hz1,hz2⟩:=info_parts infoUZ
 go_enter Tryz.func92,Tryz.ntmps92
 go_wp2_with fail
 refine (copyCheck_anyZ B b bs _ h).mono ?_
 rintro e w1 ⟨rfl,h1,hb1,hk1⟩
 obtain ⟨hB,v,hbk,hown,hne⟩:=h1
 have c0:w1.cell? ⟨b,0,none⟩=some (.pointer (some ⟨b,0,none⟩)):=by rw [Lib.cell_of_heap hbk];rfl
 have c1:w1.cell? ⟨b,1,none⟩=some v:=by rw [Lib.cell_of_heap hbk];rfl
 go_wp2_with (at_builtin;refine wpList_append_own _ rfl _ _ 69 rfl B 5 i0 (.int .u8 0) 1 1 Tryz.underlying69 hi hz0 hz1 hz2 rfl (by decide) _ _ _ rfl (hown.alloc _) ⟨w1.heap.size,0,none⟩ 1 1 [.int .u8 c] rfl rfl ?c1 ?c2 ?c3 ?c4 ?c5 ?_)
 case c1=>
  intro j u hj
  match j,hj with
  | 0,hj=>simp at hj;subst hj;simp [Addr.add]
 case c2=>intro u hu;simp at hu;subst hu;rfl
 case c3=>unfold maxLen;omega
 case c4=>omega
 case c5=>have:=hb1.size;simp;omega
 intro v' w2 hown' hgrow _
 have hlt:b < w1.heap.size:=(Array.getElem?_eq_some_iff.1 hbk).1
 have hb2:w2.heap[b]?=some (.cells #[.pointer (some ⟨b,0,none⟩),v] 122 (0,0)):=by
  rw [hgrow.block b (by simp;omega) (fun e=>hne e.symm),Lib.alloc_old w1 _ b hlt]
  exact hbk
 have d0:w2.cell? ⟨b,0,none⟩=some (.pointer (some ⟨b,0,none⟩)):=by rw [Lib.cell_of_heap hb2];rfl
 have d1:w2.cell? ⟨b,1,none⟩=some v:=by rw [Lib.cell_of_heap hb2];rfl
 have f1:w2.frozen? ⟨b,1,none⟩=false:=Lib.frozen_of_heap hb2 1
 obtain ⟨g,cap,rfl⟩:∃ g cap,v'=.slice (some ⟨g,0,none⟩) (bs.length+1) cap:=by
  rcases hown'.2 with ⟨_,h0⟩ | ⟨g,cap,cur,hv,_⟩
  ·omega
  ·exact ⟨g,cap,hv⟩
 go_wp2
 go_ret
 refine ⟨rfl,?_,?_,((hk1.alloc _).grown hgrow (row_kindZ (hown.alloc _))).setCell ⟨b,1,none⟩ rfl _⟩
 ·exact Lib.BuilderAt.put hB hb2 (bs':=bs ++ [.int .u8 c]) (by simpa using hown') (by decide)
 ·exact ((hb1.alloc (by have:=hb1.size;omega) _).grown hgrow (by have:=hb1.size;simp;omega) (fun k hk=>(hown.lt k hk).1)).setCell (p:=⟨b,1,none⟩) hB _
theorem writeString_anyZ (B b:Nat) (bs:List Value) (s:ByteArray) (w:World) (h:WrZ B b bs w) (hlen:bs.length+s.size<=140737488355328) (hBw:B<=w.heap.size):
  Calls Tryz.prog 34 #[.pointer (some ⟨b,0,none⟩),.string s] w fun e w'=>e=.returned (.tuple #[.int .i64 s.size,.nilIface])/\(WrAtZ B b (.pointer (some ⟨b,0,none⟩)) (bs ++ Lib.strCells s) w'/\Below B w w'):=by
 obtain ⟨i0,hi,hz0,hz1,hz2⟩:=info_parts infoUZ
 go_enter Tryz.func34,Tryz.ntmps34
 go_wp2_with fail
 refine (copyCheck_anyZ B b bs _ h).mono ?_
 rintro e w1 ⟨rfl,h1,hb1,hk1⟩
 obtain ⟨hB,v,hbk,hown,hne⟩:=h1
 have c0:w1.cell? ⟨b,0,none⟩=some (.pointer (some ⟨b,0,none⟩)):=by rw [Lib.cell_of_heap hbk];rfl
 have c1:w1.cell? ⟨b,1,none⟩=some v:=by rw [Lib.cell_of_heap hbk];rfl
 go_wp2_with (at_builtin;refine Lib.wpList_append_own_string _ rfl _ _ 69 9 rfl B 5 i0 Tryz.underlying69 Tryz.underlying9 hi hz0 hz1 hz2 _ _ _ rfl hown s rfl ?c3 ?c4 ?c5 ?_)
 case c3=>unfold maxLen;omega
 case c4=>omega
 case c5=>have:=hb1.size;omega
 intro v' w2 hown' hgrow _
 have hlt:b < w1.heap.size:=(Array.getElem?_eq_some_iff.1 hbk).1
 have hb2:w2.heap[b]?=some (.cells #[.pointer (some ⟨b,0,none⟩),v] 122 (0,0)):=by
  rw [hgrow.block b hlt (fun e=>hne e.symm)]
  exact hbk
 have d0:w2.cell? ⟨b,0,none⟩=some (.pointer (some ⟨b,0,none⟩)):=by rw [Lib.cell_of_heap hb2];rfl
 have d1:w2.cell? ⟨b,1,none⟩=some v:=by rw [Lib.cell_of_heap hb2];rfl
 have f1:w2.frozen? ⟨b,1,none⟩=false:=Lib.frozen_of_heap hb2 1
 obtain ⟨ao,n',cap,rfl⟩:∃ ao n' cap,v'=.slice ao n' cap:=by
  rcases hown'.2 with ⟨hv,_⟩ | ⟨g,cap,cur,hv,_⟩
  ·exact ⟨_,_,_,hv⟩
  ·exact ⟨_,_,_,hv⟩
 go_wp2
 go_ret2
 refine ⟨rfl,?_,?_⟩
 ·exact Lib.BuilderAt.put hB hb2 (bs':=bs ++ Lib.strCells s) (by simpa [Lib.strCells_length] using hown') (by decide)
 ·exact (hb1.grown hgrow (by have:=hb1.size;omega) (fun k hk=>(hown.lt k hk).1)).setCell (p:=⟨b,1,none⟩) hB _
theorem string_someZ (B b:Nat) (l:List UInt8) (w:World) (h:WrZ B b (Lib.byteCells l) w) (h0:l ≠ []):
  Calls Tryz.prog 39 #[.pointer (some ⟨b,0,none⟩)] w fun e w'=>e=.returned (.string ⟨l.toArray⟩)/\Below B w w':=by
 obtain ⟨p,hB,v,hbk,hown,hne⟩:∃ p,WrAtZ B b p (Lib.byteCells l) w:=by
  rcases h with h | h
  ·exact ⟨_,h⟩
  ·exact ⟨_,h⟩
 have hl0:l.length ≠ 0:=by simpa using h0
 rw [Lib.byteCells_length] at hown
 obtain ⟨g,cap,cur,rfl,hbg,hg,hnc,hcm,hcs,htake⟩:∃ g cap cur,v=.slice (some ⟨g,0,none⟩) l.length cap/\B<=g/\w.heap[g]?=some (.cells cur 5 (0,0))/\l.length<=cap/\cap<=maxLen/\cur.size=cap*1/\cur.toList.take (l.length*1)=Lib.byteCells l:=by
  rcases hown.2 with ⟨_,hz⟩ | ⟨g,cap,cur,hv,r⟩
  ·exact absurd hz hl0
  ·exact ⟨g,cap,cur,hv,r⟩
 have c1:w.drew.cell? ⟨b,1,none⟩=some (.slice (some ⟨g,0,none⟩) l.length cap):=by
  have:w.drew.heap[b]?=some (.cells #[p,.slice (some ⟨g,0,none⟩) l.length cap] 122 (0,0)):=hbk
  rw [Lib.cell_of_heap this];rfl
 have hSD:(Builtin.unsafeSliceData_ #[69] 124 #[.slice (some ⟨g,0,none⟩) l.length cap]).run Tryz.prog w.drew=.ok (.pointer (some ⟨g,0,none⟩)) w.drew:=
  Lib.run_unsafeSliceData_row _ _ _ _ _ _ (by omega)
 have hUS:(Builtin.unsafeString_ #[124,3] 9 #[.pointer (some ⟨g,0,none⟩),.int .i64 l.length]).run Tryz.prog w.drew=.ok (.string ⟨l.toArray⟩) (w.drew.freeze ⟨g,0,none⟩ l.length):=by
  refine Lib.run_unsafeString_row w.drew 124 3 9 5 (by kernel_rfl) (by kernel_rfl) g cur.size (by have hg':w.drew.heap[g]?=some (.cells cur 5 (0,0)):=hg;simp [World.shape?,hg']) l h0 (by omega) (by unfold maxLen at hcm;omega) ?_
  intro j x hx
  have:=hown.cells (g:=g) rfl j (.int .u8 x.toNat) (by simp [Lib.byteCells,hx])
  exact this
 go_enter Tryz.func39,Tryz.ntmps39
 go_wp2
 go_region
 all_goals (go_wp2;go_ret;exact ⟨rfl,Lib.below_freeze (Below.drew (Below.refl B w)) (p:=⟨g,0,none⟩) hbg _⟩)
open Go.RowKit Go.Shelf
attribute [local go_sem] Oper.semAt_some
def goesOn {α:Type} (Bv:Nat) (I:List α->World->Prop) (xs:List α) (W:World):Exit->Act->World->Prop
 | .normal,_,W'=>KeepsOthers W W'/\W'.heap[Bv]?=W.heap[Bv]?/\I xs W'
 | _,_,_=>False
def Rounds {α:Type} (F:Fence) (m:Nat) (P:Program) (l:Nat) (encs:α->Array Value) (Bv N:Nat) (J:List α->World->Prop):Prop:=
 ∀ pre x W,J pre W->pre.length < N->YieldAt F m P l (encs x) W fun e W'=>e=.returned (.bool true)/\J (pre ++ [x]) W'/\W'.heap[Bv]?=W.heap[Bv]?
theorem wpIn_rangeFunc_cell {F:Fence} {n:Nat} {P:Program} {α:Type} {g:Operand} {ps:Array Tmp} {assign body:Code} {Q:Exit->Act->World->Prop} {a:Act} {w:World}
  (hro:F.round=none) (h1:1<=n) {gf:Nat} {lb:Array Value} (hg:a.eval g=.func (.func gf) #[] lb) (hFg:F.fn gf) (eg:∀ args w,(callFunc gf args).run P w=.ok (.enter gf args) w)
  {encs:α->Array Value} {S:List α->Prop} {N:Nat} (Bv:Nat) (hBv:Bv < w.heap.size)
  (hseq:∀ (l:Nat) (J:List α->World->Prop) (W:World),W.heap[Bv]?=w.heap[Bv]?->(∀ pre W v,J pre W->J pre (W.setCell ⟨Bv,0,none⟩ v))->Rounds F (n - 1 - 1) P l encs Bv N J->J [] W->
    CallsIn F (n - 1) P gf (#[.func (.yield l) #[] #[]] ++ lb) W fun e W'=>(∃ v,e=.returned v)/\∃ xs,S xs/\J xs W')
  (hps:∀ x,(encs x).size=ps.size)
  (I:List α->World->Prop) (hI:OwnFrom w.heap.size I) (hIV:∀ pre W v,I pre W->I pre (W.setCell ⟨Bv,0,none⟩ v)) (h0:I [] w) (a₁:α->Act)
  (hassign:∀ (l:Nat) (x:α) (W:World) (K:Act->World->Prop),K (a₁ x) W->
    assign.wpIn (F.inRound l) (n - 1 - 1) P (Exit.then K (fun _ _ _=>False)) { tmps:=(ps.zip (encs x)).foldl (fun t (p,v)=>t.setIfInBounds p v) a.tmps,defers:=[] } W)
  (hbody:∀ (l:Nat) (pre:List α) (x:α) (W:World),I pre W->pre.length < N->body.wpIn (F.inRound l) (n - 1 - 1) P (goesOn Bv I (pre ++ [x]) W) (a₁ x) W)
  (hdone:∀ (D:Nat) (xs:List α) (W:World),w.heap.size<=D->S xs->I xs W->W.heap[D]?=some (.deferred (some []))->Q .normal { a with defers:={ target:=.collected D,args:=#[] } :: a.defers } W):
  (Code.rangeFunc g ps assign body).wpIn F n P Q a w:=by
 refine wpIn_rangeFunc fun fn hfn=>?_
 rw [hro]
 obtain ⟨rec,hrec⟩:∃ rec:LoopState->Option Code->Loop,rec=fun st pe=>{ state:=st,pending:=pe,fn,tmps:=a.tmps,params:=ps,assign,body,defers:=w.heap.size }:=⟨_,rfl⟩
 obtain ⟨W1,hW1⟩:∃ W1,(w.alloc (.deferred (some []))).alloc (.loop (rec .ready none))=W1:=⟨_,rfl⟩
 have hL1:W1.heap[w.heap.size+1]?=some (.loop (rec .ready none)):=by
  have:=World.alloc_heap_new (w.alloc (.deferred (some []))) (.loop (rec .ready none))
  rw [World.size_alloc] at this
  rw [<-hW1];exact this
 have hK1:W1.heap[w.heap.size]?=some (.deferred (some [])):=by
  rw [<-hW1];exact (Below.heap_alloc _ _ _ (by simp)).trans (World.alloc_heap_new w _)
 have hI1:I [] W1:=by rw [<-hW1];exact hI.alloc _ (hI.alloc _ h0)
 have hV1:W1.heap[Bv]?=w.heap[Bv]?:=by
  rw [<-hW1];exact (Below.heap_alloc _ _ _ (by simp;omega)).trans (Below.heap_alloc w _ _ hBv)
 refine ⟨w.heap.size+1,[{ target:=.collected w.heap.size,args:=#[] }],W1,{ target:=.fn (.func gf) lb,args:=#[.func (.yield (w.heap.size+1)) #[] #[]] },W1,gf,
  #[.func (.yield (w.heap.size+1)) #[] #[]] ++ lb,W1,?_,?_,?_,?_,fun _=>h1,?_⟩
 ·rw [<-hW1,hrec];exact run_enterLoop_outer _ _ _ _ _
 ·simp only [resolve,hg]
  simp [go_sem]
 ·intro f' hf';simp [Target.leads] at hf';subst hf';exact hFg
 ·simp [invoke,go_sem,eg]
 refine (hseq (w.heap.size+1) (fun pre W=>I pre W/\W.heap[w.heap.size+1]?=some (.loop (rec .ready none))/\W.heap[w.heap.size]?=some (.deferred (some []))) W1 hV1
  (fun pre W v h=>⟨hIV pre W v h.1,(Below.heap_setCell W ⟨Bv,0,none⟩ v (w.heap.size+1) (by simp;omega)).trans h.2.1,(Below.heap_setCell W ⟨Bv,0,none⟩ v w.heap.size (by simp;omega)).trans h.2.2⟩)
  ?_ ⟨hI1,hL1,hK1⟩).mono ?_
 ·rintro pre x W ⟨hi,hl,hk⟩ hlen
  have hlt:w.heap.size+1 < W.heap.size:=(Array.getElem?_eq_some_iff.1 hl).1
  have hy:=run_yield (P:=P) (args:=encs x) hl (by rw [hrec];exact hps x)
  rw [hrec] at hy
  refine ⟨fn,_,assign,body,hy,roundIn_of_wpIn hfn (hassign _ x W _ ⟨_,run_beginRound hl (by rw [hrec]),?_⟩)⟩
  obtain ⟨W2,hW2⟩:∃ W2,W.putObj (w.heap.size+1) (.loop { rec .ready none with state:=.busy })=W2:=⟨_,rfl⟩
  rw [hW2]
  have hl2:W2.heap[w.heap.size+1]?=some (.loop { rec .ready none with state:=.busy }):=by rw [<-hW2];exact World.putObj_heap_same hlt
  have hk2:W2.heap[w.heap.size]?=some (.deferred (some [])):=by rw [<-hW2];exact (World.putObj_heap_other (by omega)).trans hk
  have hv2:W2.heap[Bv]?=W.heap[Bv]?:=by rw [<-hW2];exact World.putObj_heap_other (by omega)
  have hi2:I pre W2:=by rw [<-hW2];exact hI.putObj _ hi (by omega) hl rfl
  refine wpIn_mono (hbody _ pre x _ hi2 hlen) ?_
  rintro e a3 W3 hp
  cases e with
  | normal=>
   obtain ⟨hk3,hkp3,hi3⟩:=hp
   have hl3:=hk3.same _ _ hl2 rfl
   have hr:=run_endRound (P:=P) none hl3
   rw [hrec] at hr
   refine ⟨_,_,hr,rfl,⟨hI.putObj _ hi3 (by omega) hl3 rfl,?_,(World.putObj_heap_other (by omega)).trans (hk3.same _ _ hk2 rfl)⟩,(World.putObj_heap_other (by omega)).trans (hkp3.trans hv2)⟩
   rw [hrec]
   exact World.putObj_heap_same (Array.getElem?_eq_some_iff.1 hl3).1
  | ret=>exact hp.elim
  | exit id=>exact hp.elim
  | goto t=>exact hp.elim
  | panic ch=>exact hp.elim
  | outgrown=>exact hp.elim
 ·rintro e W2 ⟨⟨v,rfl⟩,xs,hS,hi,hl,hk⟩
  have hr:=run_endLoop (P:=P) hl (by rw [hrec];simp)
  rw [hrec] at hr
  exact ⟨none,_,hr,hdone _ xs _ (Nat.le_refl _) hS (hI.putObj _ hi (by omega) hl rfl) ((World.putObj_heap_other (by omega)).trans hk)⟩
def encB (c:UInt8):Array Value:=#[.int .u8 c.toNat]
theorem cell_blk {w:World} {b:Nat} {v:Value} {T:TypeId} (hb:w.heap[b]?=some (.cells #[v] T (0,0))):w.cell? ⟨b,0,none⟩=some v/\w.frozen? ⟨b,0,none⟩=false:=by
 constructor
 ·simp [World.cell?,hb]
 ·simp [World.frozen?,hb]
theorem set_blk {w:World} {b:Nat} {v x:Value} {T:TypeId} (hb:w.heap[b]?=some (.cells #[v] T (0,0))):(w.setCell ⟨b,0,none⟩ x).heap[b]?=some (.cells #[x] T (0,0)):=by
 simp [World.setCell,Array.getElem?_modify,hb]
def restOf (Bv:Nat) (w:World):Nat:=match w.cell? ⟨Bv,0,none⟩ with
 | some (.int _ n)=>n.toNat
 | _=>0
theorem restOf_eq {Bv u:Nat} {w:World} {T:TypeId} {k:IntKind} (hb:w.heap[Bv]?=some (.cells #[.int k (u:Int)] T (0,0))):restOf Bv w=u:=by
 unfold restOf;rw [(cell_blk hb).1];simp
theorem digits1_in (F:Fence) (n:Nat) (hf:F.fn 111) (hro:F.round=none) (hn:1<=n) (l Bv v:Nat) (hv:v < 18446744073709551616) (J:List UInt8->World->Prop)
  (hJ:∀ pre W x,J pre W->J pre (W.setCell ⟨Bv,0,none⟩ x)) (hY:Rounds F (n - 1) Tryz.prog l encB Bv (putL v).length J)
  (W:World) (hB:W.heap[Bv]?=some (.cells #[.int .u64 v] 77 (0,0))) (h0:J [] W):
  CallsIn F n Tryz.prog 111 #[.func (.yield l) #[] #[],.pointer (some ⟨Bv,0,none⟩)] W fun e W'=>(∃ x,e=.returned x)/\∃ xs,xs=putL v/\J xs W':=by
 have HV:=Lib.hid hv
 have HB0:=Lib.hid hB
 clear hB hv
 refine callsIn_of_wp Tryz.func111 rfl hf ?_ hro
 simp only [Tryz.ntmps111,List.size_toArray,List.length_cons,List.length_nil,Nat.reduceAdd,Nat.reduceSub,Array.replicate_succ,Array.replicate_zero,List.push_toArray,List.append_toArray,List.nil_append,List.cons_append]
 gi_wp2
 gi_loopw [3] (fun _ wr=>∃ (m u:Nat) (pre:List UInt8),putL v=pre ++ putF (m+1) u/\u < 128 ^ (m+1)/\u<=v/\wr.heap[Bv]?=some (.cells #[.int .u64 (u:Int)] 77 (0,0))/\J pre wr)
  (fun _ wr=>restOf Bv wr)
 case atStart=>exact ⟨9,v,[],rfl,Nat.lt_of_lt_of_le HV.out (by decide),Nat.le_refl _,HB0.out,h0⟩
 case round=>
  obtain ⟨m,u,pre,hp,hu,huv,hb,hj⟩:=hrel
  have HUV:=Lib.hid huv
  obtain ⟨hc,hfz⟩:=cell_blk hb
  have HR:=Lib.hid (restOf_eq hb)
  have HBB:=Lib.hid hb
  have hum:u < 18446744073709551616:=by have:=HV.out;omega
  clear hb huv
  by_cases c:u < 128
  ·obtain ⟨fn,tmps,assign,body,hy,hR⟩:=hY pre (UInt8.ofNat u) wr hj (by rw [hp,putF_small c];simp)
   have HP:Hid (pre ++ [UInt8.ofNat u]=putL v):=Lib.hid (by rw [hp,putF_small c])
   clear hp hu hY
   have hy2:(Instr.yield l #[.int .u8 (u:Int)]).run Tryz.prog wr=.ok (.round l fn tmps assign body) wr:=by
    rw [<-hy];unfold encB;rw [small_nat c]
   clear hy
   gi_wp2
   refine hR.mono ?_
   rintro e W3 ⟨rfl,hJ3,hk3⟩
   gi_wp2
   go_end0
   exact ⟨⟨_,rfl⟩,_,HP.out,hJ3⟩
  ·obtain ⟨m,rfl⟩:∃ m',m=m'+1:=by
    cases m with
    | zero=>exact absurd (by simpa using hu) c
    | succ m=>exact ⟨m,rfl⟩
   have c2:128<=u:=by omega
   clear c
   obtain ⟨fn,tmps,assign,body,hy,hR⟩:=hY pre (UInt8.ofNat (u % 128+128)) wr hj (by rw [hp,putF_big c2];simp)
   have HP:Hid (putL v=(pre ++ [UInt8.ofNat (u % 128+128)]) ++ putF (m+1) (u / 128)):=Lib.hid (by rw [hp,putF_big c2];simp)
   have HQ:Hid (u / 128 < 128 ^ (m+1)):=Lib.hid (Nat.div_lt_of_lt_mul (by rw [pow_s] at hu;exact hu))
   have HLE:Hid (u / 128<=v):=Lib.hid (Nat.le_trans (Nat.div_le_self _ _) HUV.out)
   clear hp hu
   have hy2:(Instr.yield l #[.int .u8 ((u:Int) % 128+128)]).run Tryz.prog wr=.ok (.round l fn tmps assign body) wr:=by
    rw [<-hy];unfold encB;rw [big_nat];rfl
   clear hy
   gi_wp2
   refine hR.mono ?_
   rintro e W3 ⟨rfl,hJ3,hk3⟩
   have hb3:=Lib.hid (hk3.trans HBB.out)
   have HK:=Lib.hid hk3
   clear hk3
   obtain ⟨hc3,hf3⟩:=cell_blk hb3.out
   gi_wp2
   go_roundw
   case rel=>exact ⟨m,u / 128,_,HP.out,HQ.out,HLE.out,set_blk hb3.out,hJ _ _ _ hJ3⟩
   case measure=>
    show restOf Bv (W3.setCell ⟨Bv,0,none⟩ (.int .u64 ((u / 128:Nat):Int))) < _
    rw [restOf_eq (set_blk hb3.out),HR.out];omega
open Go.RowKit Go.Shelf
theorem wr_kept {B b:Nat} {bs:List Value} {W W':World} {row:Option Nat} (h:WrZ B b bs W) (hg:W.grownBy W' row)
  (hr:∀ r,row=some r->∀ cs fz,W.heap[r]? ≠ some (.cells cs 122 fz)/\W.heap[r]? ≠ some (.cells cs 5 fz)):WrZ B b bs W':=by
 have key:∀ p,WrAtZ B b p bs W->WrAtZ B b p bs W':=by
  rintro p ⟨hB,v,hb,hown,hne⟩
  refine ⟨hB,v,?_,hown.kept hg ?_,hne⟩
  ·refine (hg.block b (Array.getElem?_eq_some_iff.1 hb).1 ?_).trans hb
   intro e;exact (hr b e.symm _ _).1 hb
  ·cases hv:v.ownBlock with
   | none=>exact .inl rfl
   | some g=>
    right
    intro e
    obtain ⟨c,fz,hc⟩:=row_kindZ hown g hv
    exact (hr g e.symm _ _).2 hc
 exact h.elim (fun x=>.inl (key _ x)) (fun x=>.inr (key _ x))
theorem grown_set (w:World) (b:Nat) (x:Value):w.grownBy (w.setCell ⟨b,0,none⟩ x) (some b):=
 ⟨rfl,rfl,rfl,by simp [World.setCell],fun k _ hk=>Below.heap_setCell _ _ _ _ (fun e=>hk (by simp [e]))⟩
theorem keeps_of {b B:Nat} {W W':World} (h:Lib.OthersKept 5 (some b) W W') (hb:Below B W W') (hc:∀ o,W.heap[b]?=some o->o.isCells=true):KeepsOthers W W':=
 ⟨hb.size,fun k o hk ho=>h k o hk (fun e=>by cases e;rw [hc o hk] at ho;cases ho) (fun c fz e=>by rw [e] at ho;cases ho)⟩
theorem wr_cells {B b:Nat} {bs:List Value} {W:World} (h:WrZ B b bs W):∃ cs fz,W.heap[b]?=some (.cells cs 122 fz):=by
 rcases h with ⟨_,v,h,_⟩ | ⟨_,v,h,_⟩
 ·exact ⟨_,_,h⟩
 ·exact ⟨_,_,h⟩
theorem digits_any (v:Nat) (w:World):Calls Tryz.prog 91 #[.int .u64 v] w fun e w'=>e=.returned (.func (.func 111) #[] #[.pointer (some ⟨w.heap.size,0,none⟩)])/\w'=w.alloc (.cells #[.int .u64 v] 77):=by
 go_enter Tryz.func91,Tryz.ntmps91
 go_wp2
 go_ret
 exact ⟨rfl,rfl⟩
def NumI (B b bp Bv:Nat) (bs:List Value) (w:World) (pre:List UInt8) (W:World):Prop:=
 (WrZ B b (bs ++ Lib.byteCells pre) W/\W.heap[bp]?=some (.cells #[.pointer (some ⟨b,0,none⟩)] 120 (0,0))/\∃ x,W.heap[Bv]?=some (.cells #[x] 77 (0,0)))/\Below B w W
attribute [local go_sem] Oper.semAt_some
theorem number_any (B b:Nat) (bs:List Value) (v:Nat) (hv:v < 18446744073709551616) (w:World) (h:WrZ B b bs w) (hlen:bs.length+10<=140737488355328) (hBw:B<=w.heap.size):
  Calls Tryz.prog 68 #[.pointer (some ⟨b,0,none⟩),.int .u64 v] w fun e w'=>e=.returned (.tuple #[])/\WrZ B b (bs ++ Lib.byteCells (putL v)) w'/\Below B w w':=by
 have HN:=Lib.hid (putL_len hv)
 have HV:=Lib.hid hv
 clear hv
 obtain ⟨cb,fzb,hcb⟩:=wr_cells h
 have hbl:b < w.heap.size:=(Array.getElem?_eq_some_iff.1 hcb).1
 clear hcb
 have H:=Lib.hid h
 clear h
 refine (callsIn_wide (n:=4)).1 ?_
 refine callsIn_of_wp_marks Tryz.func68 rfl trivial ?_ rfl
 simp only [Tryz.ntmps68,List.size_toArray,List.length_cons,List.length_nil,Nat.reduceAdd,Nat.reduceSub,Array.replicate_succ,Array.replicate_zero,List.push_toArray,List.append_toArray,List.nil_append,List.cons_append]
 gi_wp2_with (refine ⟨trivial,?_⟩;gi_at_call 91;refine (callsIn_wide.2 (digits_any v _)).mono ?_;rintro e w' ⟨rfl,rfl⟩)
 obtain ⟨W0,hW0⟩:∃ W0,(w.alloc (.cells #[.pointer (some ⟨b,0,none⟩)] 120)).alloc (.cells #[.int .u64 v] 77)=W0:=⟨_,rfl⟩
 have hz:W0.heap.size=w.heap.size+2:=by rw [<-hW0];simp
 have h1:W0.heap[w.heap.size]?=some (.cells #[.pointer (some ⟨b,0,none⟩)] 120 (0,0)):=by
  rw [<-hW0,Lib.alloc_old _ _ _ (by simp)];exact World.alloc_heap_new _ _
 have h2:W0.heap[w.heap.size+1]?=some (.cells #[.int .u64 v] 77 (0,0)):=by
  rw [<-hW0];have:=World.alloc_heap_new (w.alloc (.cells #[.pointer (some ⟨b,0,none⟩)] 120)) (.cells #[.int .u64 v] 77);rwa [World.size_alloc] at this
 have h3:Below B w W0:=by rw [<-hW0];exact ((Below.refl B w).alloc hBw _).alloc (by simp;omega) _
 have h4:WrZ B b (bs ++ Lib.byteCells []) W0:=by
  rw [<-hW0]
  refine wr_kept (wr_kept (by simpa [Lib.byteCells] using H.out) (World.grownBy_alloc w _ none) (by intro r e;cases e)) (World.grownBy_alloc _ _ none) (by intro r e;cases e)
 rw [hW0]
 have hfr:NumI B b w.heap.size (w.heap.size+1) bs w [] W0:=⟨⟨h4,h1,_,h2⟩,h3⟩
 clear h1 h3 h4
 refine wpIn_rangeFunc_cell rfl (by omega) (gf:=111) (lb:=#[.pointer (some ⟨w.heap.size+1,0,none⟩)]) rfl trivial (enters_of Tryz.func111 (by kernel_rfl) rfl)
  (encs:=encB) (S:=fun xs=>xs=putL v) (N:=(putL v).length) (w.heap.size+1) (by omega)
  (fun l J W hW hJ hY h0=>digits1_in Fence.wide _ trivial rfl (by omega) l (w.heap.size+1) v HV.out J hJ hY W (hW.trans h2) h0)
  (fun _=>rfl) (NumI B b w.heap.size (w.heap.size+1) bs w) ?own ?setv hfr
  (fun x=>{ tmps:=#[.pointer (some ⟨b,0,none⟩),.int .u64 v,.pointer (some ⟨w.heap.size,0,none⟩),undef,.int .u8 x.toNat,.int .u64 v,.func (.func 111) #[] #[.pointer (some ⟨w.heap.size+1,0,none⟩)],.int .u8 x.toNat,undef,undef,undef,undef,undef],defers:=[] }) ?assign ?body ?done
 case own=>
  rintro s A C row ⟨⟨hw,hp,x,hx⟩,hb⟩ hg hr
  refine ⟨⟨wr_kept hw hg (fun r e cs fz=>?_),(grownBy_keeps_cells hg (fun r e=>(hr r e).2) hp rfl).trans hp,x,(grownBy_keeps_cells hg (fun r e=>(hr r e).2) hx rfl).trans hx⟩,hb.grown hg (Nat.le_trans hBw hb.size) (fun k e=>by have:=(hr k e).1;omega)⟩
  obtain ⟨_,o,ho,hc⟩:=hr r e
  constructor <;> (intro h;rw [h] at ho;cases ho;cases hc)
 case setv=>
  rintro pre W y ⟨⟨hw,hp,x,hx⟩,hb⟩
  refine ⟨⟨wr_kept hw (grown_set W _ y) (fun r e cs fz=>?_),(Below.heap_setCell W ⟨w.heap.size+1,0,none⟩ y w.heap.size (by simp)).trans hp,y,set_blk hx⟩,hb.setCell (p:=⟨w.heap.size+1,0,none⟩) (by simp;omega) y⟩
  cases e
  rw [hx]
  constructor <;> (intro h;simp at h)
 case assign=>
  intro l x W K hK
  unfold encB
  gi_wp2
  exact hK
 case body=>
  rintro l pre x W ⟨⟨hw,hp,x0,hx⟩,hb⟩ hlen1
  have hl2:(bs ++ Lib.byteCells pre).length+1<=140737488355328:=by
   have:=HN.out.2.1
   rw [List.length_append,Lib.byteCells_length];omega
  have hB2:B<=W.heap.size:=Nat.le_trans hBw hb.size
  have hc:=(cell_blk hp).1
  have HCB:Hid (∀ o,W.heap[b]?=some o->o.isCells=true):=Lib.hid (by
   obtain ⟨cs,fz,hcs⟩:=wr_cells hw
   intro o ho;rw [hcs] at ho;cases ho;rfl)
  have HCALL:=Lib.hid (CallsIn.inRound (n:=1) l (callsIn_wide.2 (writeByte_anyZ B b _ x.toNat _ hw hl2 hB2)))
  have HP:=Lib.hid hp
  have HX:=Lib.hid hx
  clear hp hx hl2 hlen1 hw
  gi_wp2_with (refine ⟨trivial,?_⟩;gi_at_call 92;refine HCALL.out.mono ?_;rintro e W3 ⟨rfl,h3,hb3,ho3⟩)
  refine ⟨keeps_of ho3 hb3 HCB.out,?_,⟨?_,?_,?_⟩,hb.trans hb3⟩
  ·rw [HX.out];exact ho3 _ _ HX.out (by simp;omega) (by intro c fz e;simp at e)
  ·rw [Lib.byteCells_append,<-List.append_assoc];exact .inr h3
  ·exact ho3 _ _ HP.out (by simp;omega) (by intro c fz e;simp at e)
  ·exact ⟨x0,ho3 _ _ HX.out (by simp;omega) (by intro c fz e;simp at e)⟩
 case done=>
  rintro D ys W hD rfl ⟨⟨hw,hp,x,hx⟩,hb⟩ hK
  gi_wp2
  refine ⟨by simp,.inl ⟨_,_,rfl,run_takeDeferred hK,?_⟩⟩
  refine ⟨_,results_none rfl _ _ _,rfl,?_,?_⟩
  ·refine wr_kept hw (grownBy_putObj' W D _) (fun r e cs fz=>?_)
   cases e
   rw [hK]
   constructor <;> (intro h;simp at h)
  ·exact hb.grown (grownBy_putObj' W D _) (Nat.le_trans hBw hb.size) (fun k e=>by cases e;omega)
def putB (v:Nat):ByteArray:=⟨(putL v).toArray⟩
theorem putB_list (v:Nat):(putB v).data.toList=putL v:=rfl
theorem putB_size (v:Nat):(putB v).size=(putL v).length:=by show (putL v).toArray.size=_;simp
theorem Put_at (x:Int) (v:Nat) (hx:x=v) (hv:v < 18446744073709551616) (w:World):Calls Tryz.prog 35 #[.int .u64 x] w (RetB (.string (putB v)) w):=by
 subst hx
 have HF:Hid (∀ b w1,WrZ w.heap.size b [] w1->w.heap.size<=w1.heap.size->Calls Tryz.prog 68 #[.pointer (some ⟨b,0,none⟩),.int .u64 v] w1 fun e w'=>e=.returned (.tuple #[])/\WrZ w.heap.size b (Lib.byteCells (putL v)) w'/\Below w.heap.size w1 w'):=
  Lib.hid fun b w1 h hb=>by simpa using number_any w.heap.size b [] v hv w1 h (by simp) hb
 have HS:Hid (∀ b w1,WrZ w.heap.size b (Lib.byteCells (putL v)) w1->Calls Tryz.prog 39 #[.pointer (some ⟨b,0,none⟩)] w1 fun e w'=>e=.returned (.string (putB v))/\Below w.heap.size w1 w'):=
  Lib.hid fun b w1 h=>string_someZ w.heap.size b (putL v) w1 h (fun e=>by have:=(putL_len hv).1;rw [e] at this;simp at this)
 have H0:=Lib.hid (Lib.fresh_isBuilder 122 5 w)
 have HB:=Lib.hid (((Below.refl w.heap.size w).alloc (Nat.le_refl _) (.cells #[.pointer none,.slice none 0 0] 122)))
 clear hv
 go_enter Tryz.func35,Tryz.ntmps35
 go_wp2_with fail
 refine (HF.out _ _ H0.out (by simp)).mono ?_
 rintro e w1 ⟨rfl,h1,hb1⟩
 have H1:=Lib.hid h1
 have HB1:=Lib.hid (HB.out.trans hb1)
 clear h1 hb1
 go_wp2_with fail
 refine (HS.out _ _ H1.out).mono ?_
 rintro e w2 ⟨rfl,hb2⟩
 have HB2:=Lib.hid (HB1.out.trans hb2)
 clear hb2
 go_wp2
 go_ret
 exact ⟨rfl,HB2.out⟩
def textB (s:ByteArray):ByteArray:=⟨(putL s.size ++ s.data.toList).toArray⟩
theorem PutText_any (s:ByteArray) (hs:s.size<=100000000000000) (w:World):Calls Tryz.prog 36 #[.string s] w (RetB (.string (textB s)) w):=by
 have HF:Hid (∀ b w1,WrZ w.heap.size b [] w1->w.heap.size<=w1.heap.size->Calls Tryz.prog 68 #[.pointer (some ⟨b,0,none⟩),.int .u64 s.size] w1 fun e w'=>e=.returned (.tuple #[])/\WrZ w.heap.size b (Lib.byteCells (putL s.size)) w'/\Below w.heap.size w1 w'):=
  Lib.hid fun b w1 h hb=>by simpa using number_any w.heap.size b [] s.size (by omega) w1 h (by simp) hb
 have HW:Hid (∀ b w1,WrZ w.heap.size b (Lib.byteCells (putL s.size)) w1->w.heap.size<=w1.heap.size->Calls Tryz.prog 34 #[.pointer (some ⟨b,0,none⟩),.string s] w1 fun e w'=>e=.returned (.tuple #[.int .i64 s.size,.nilIface])/\WrZ w.heap.size b (Lib.byteCells (putL s.size ++ s.data.toList)) w'/\Below w.heap.size w1 w'):=
  Lib.hid fun b w1 h hb=>(writeString_anyZ w.heap.size b (Lib.byteCells (putL s.size)) s w1 h (by rw [Lib.byteCells_length];have:=(putL_len (v:=s.size) (by omega)).2.1;omega) hb).mono fun e w' ⟨h1,h2,h3⟩=>⟨h1,.inr (by rw [Lib.byteCells_append];exact h2),h3⟩
 have HS:Hid (∀ b w1,WrZ w.heap.size b (Lib.byteCells (putL s.size ++ s.data.toList)) w1->Calls Tryz.prog 39 #[.pointer (some ⟨b,0,none⟩)] w1 fun e w'=>e=.returned (.string (textB s))/\Below w.heap.size w1 w'):=
  Lib.hid fun b w1 h=>string_someZ w.heap.size b _ w1 h (fun e=>by have:=(putL_len (v:=s.size) (by omega)).1;rw [(List.append_eq_nil_iff.1 e).1] at this;simp at this)
 have H0:=Lib.hid (Lib.fresh_isBuilder 122 5 w)
 have HB:=Lib.hid (((Below.refl w.heap.size w).alloc (Nat.le_refl _) (.cells #[.pointer none,.slice none 0 0] 122)))
 go_enter Tryz.func36,Tryz.ntmps36
 go_wp2_with fail
 refine (HF.out _ _ H0.out (by simp)).mono ?_
 rintro e w1 ⟨rfl,h1,hb1⟩
 have H1:=Lib.hid h1
 have HB1:=Lib.hid (HB.out.trans hb1)
 clear h1 hb1
 go_wp2_with fail
 refine (HW.out _ _ H1.out HB1.out.size).mono ?_
 rintro e w2 ⟨rfl,h2,hb2⟩
 have H2:=Lib.hid h2
 have HB2:=Lib.hid (HB1.out.trans (hb2))
 clear hb2 h2
 go_wp2_with fail
 refine (HS.out _ _ H2.out).mono ?_
 rintro e w3 ⟨rfl,hb3⟩
 have HB3:=Lib.hid (HB2.out.trans hb3)
 clear hb3
 go_wp2
 go_ret
 exact ⟨rfl,HB3.out⟩
theorem zig_wrap (n:Int) (h0 : -9223372036854775808<=n) (h1:n < 0):IntKind.u64.wrap (IntKind.u64.wrap (2*IntKind.u64.wrap (-IntKind.u64.wrap n)) - 1)=(zig n:Nat):=by
 simp only [IntKind.wrap_u64]
 unfold zig
 rw [if_pos h1]
 omega
theorem zig_wrap2 (n:Int) (h0:0<=n) (h1:n<=9223372036854775807):2*n=(zig n:Nat):=by
 unfold zig
 rw [if_neg (by omega)]
 omega
theorem PutInt_any (n:Int) (h0 : -9223372036854775808<=n) (h1:n<=9223372036854775807) (w:World):Calls Tryz.prog 38 #[.int .i64 n] w (RetB (.string (putB (zig n))) w):=by
 have HZ:=Lib.hid (zig_lt h0 h1)
 by_cases c:n < 0
 ·have HE:=Lib.hid (zig_wrap n h0 c)
  go_enter Tryz.func38,Tryz.ntmps38
  go_wp2_with fail
  refine (Put_at _ _ HE.out HZ.out _).mono ?_
  rintro e w1 ⟨rfl,hb⟩
  have HB:=Lib.hid hb
  clear hb
  go_wp2
  go_ret
  exact ⟨rfl,HB.out⟩
 ·have HE:=Lib.hid (zig_wrap2 n (by omega) h1)
  go_enter Tryz.func38,Tryz.ntmps38
  go_wp2_with fail
  refine (Put_at _ _ HE.out HZ.out _).mono ?_
  rintro e w1 ⟨rfl,hb⟩
  have HB:=Lib.hid hb
  clear hb
  go_wp2
  go_ret
  exact ⟨rfl,HB.out⟩
def iv (r:Int × Nat × Nat):Value:=.tuple #[.int .i64 r.1,.int .i64 (r.2.1:Int),.int .i64 (r.2.2:Int)]
end Go.Proofs.YthkolmebokfagaaGreatDoor.Wi
namespace Go.Proofs.YthkolmebokfagaaGreatDoor
open Go.ChangeShapes Go.WideShapes Go.Deep Go.RowKit
open Go.Proofs.YthkolmebokfagaaGreatDoor.Wi (putL putL_len putB putB_size putB_list Put_at textB PutText_any PutInt_any zig zig_lt)
def St (b:Nat) (l:List UInt8) (w:World):Prop:=Wr b b (Lib.byteCells l) w
structure KU (b:Nat) (w w':World):Prop where
 below:Below b w w'
 kept:Lib.OthersKept 5 (some b) w w'
theorem KU.refl (b:Nat) (w:World):KU b w w:=⟨Below.refl _ _,Lib.OthersKept.refl _ _ _⟩
theorem KU.trans {b:Nat} {w u v:World} (h:KU b w u) (k:KU b u v):KU b w v:=⟨h.below.trans k.below,h.kept.trans k.kept⟩
theorem KU.of {b:Nat} {w w':World} (h:Below w.heap.size w w') (hb:b<=w.heap.size):KU b w w':=
 ⟨h.mono hb,fun k o hk _ _=>(h.block k (lt_of_block hk)).trans hk⟩
theorem St.next {b:Nat} {l:List UInt8} {w w':World} (h:St b l w) (hb:Below w.heap.size w w'):St b l w':=by
 have key:∀ p,WrAt b b p (Lib.byteCells l) w->WrAt b b p (Lib.byteCells l) w':=by
  rintro p ⟨hB,v,hk,hown,hne⟩
  refine ⟨hB,v,(hb.block b (lt_of_block hk)).trans hk,hown.kept (KP.of_below (p:=w.heap.size) hb) ?_,hne⟩
  cases hv:v.ownBlock with
  | none=>exact .inl rfl
  | some g=>
   right
   obtain ⟨c,fz,hc⟩:=row_kind hown g hv
   have:=lt_of_block hc
   simp only [ne_eq,Option.some.injEq];omega
 rcases h with h | h
 ·exact .inl (key _ h)
 ·exact .inr (key _ h)
end Go.Proofs.YthkolmebokfagaaGreatDoor
namespace Go.Proofs.YthkolmebokfagaaGreatDoor
open Go.ChangeShapes Go.WideShapes Go.Deep Go.RowKit
open Go.Proofs.YthkolmebokfagaaGreatDoor.Wi (putL putL_len putB putB_size putB_list Put_at textB PutText_any PutInt_any zig zig_lt)
theorem fit_range {k:Int} {i:In} (h:fitsI k i=true):0<=k/\k<=9:=by
 unfold fitsI at h
 simp only [Bool.and_eq_true] at h
 have h1:=h.2
 unfold fitK at h1
 split at h1
 ·simp at h1
 ·omega
end Go.Proofs.YthkolmebokfagaaGreatDoor
