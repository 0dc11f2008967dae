/- Numbers as bytes that end by themselves: plain facts; no Go in sight. wire.Get. strings.Builder inside wire.writer: copyCheck, WriteByte, WriteString, String. A range over a function that keeps its state in a variable of its own: the rounds are never left; the iterator of wire.digits. wire.writer.number, wire.Put, wire.PutText. wire.Put, PutText, PutInt, GetInt, GetText. obj: the builder's frame; Put's number, keepNumber. obj, plain: the bytes of an object. -/
import Derived.Test.YtiohgaghmnpplaaGreatDoorqA
import Derived.Lib.Strings
import Derived.RegionTactic
import Derived.ChangeAlike
import Derived.Lib.Builder
import Derived.Lib.AppendStr
import Derived.Lib.UnsafeStr
import Derived.Lib.OthersKept
import Derived.Laws.Externs
import Derived.RangeFuncNested
import Derived.RangeFuncBound
import Derived.RangeFuncCalls
import Derived.RangeFuncLeaves
import Derived.Shelf.Abstract
import Derived.Shelf.RegionOpen
import Derived.OwnWalkIn
import Derived.TacticsInMore
import Derived.LoopNIn
import Derived.LoopIn
import Derived.Test.YtiohgaghmnpplaaGreatDoorqI
set_option maxRecDepth 100000
set_option maxHeartbeats 1000000
set_option linter.unusedVariables false
set_option linter.unusedSimpArgs false
namespace Go.Proofs.YtiohgaghmnpplaaGreatDoor
namespace Wi
open Go.RowKit
def putF:Nat->Nat->List UInt8
 |0,_=>[]
 |n+1,v=>if v<128 then [UInt8.ofNat v]else UInt8.ofNat (v%128+128) :: putF n (v/128)
def putL (v:Nat):List UInt8:=putF 10 v
theorem putF_small {n v:Nat}(h:v<128):putF (n+1) v=[UInt8.ofNat v]:=by rw[putF,if_pos h]
theorem putF_big {n v:Nat}(h:128<=v):putF (n+1) v=UInt8.ofNat (v%128+128) :: putF n (v/128):=by rw[putF,if_neg (by omega)]
theorem pow_s (k:Nat):128^(k+1)=128*128^k:=by rw[Nat.pow_succ,Nat.mul_comm]
theorem put_len (n:Nat):∀v,v<128^(n+1)->1<=(putF (n+1) v).length/\(putF (n+1) v).length<=n+1/\v<128^(putF (n+1) v).length/\((putF (n+1) v).length=1\/128^((putF (n+1) v).length-1)<=v):=by
 induction n with
 |zero=>intro v h;rw[putF_small (by simpa using h)];exact⟨by simp,by simp,by simpa using h,.inl rfl⟩
 |succ n ih=>
  intro v h;by_cases c:v<128
  ·rw[putF_small c];exact⟨by simp,by simp,by simpa using c,.inl rfl⟩
  ·rw[putF_big (by omega)];have h2:v/128<128^(n+1):=Nat.div_lt_of_lt_mul (by rw[pow_s]at h;exact h);obtain⟨e1,e2,e3,e4⟩:=ih (v/128) h2;refine⟨by simp,by simp;omega,?_,.inr ?_⟩
   ·rw[List.length_cons,pow_s];omega
   ·rw[List.length_cons,Nat.add_sub_cancel];rcases e4 with e4|e4
    ·rw[e4];omega
    ·obtain⟨j,hj⟩:∃j,(putF (n+1) (v/128)).length=j+1:=⟨_,(Nat.sub_add_cancel e1).symm⟩;rw[hj]at e4⊢;rw[Nat.add_sub_cancel]at e4;rw[pow_s];omega
theorem putL_len {v:Nat}(h:v<18446744073709551616):1<=(putL v).length/\(putL v).length<=10/\v<128^(putL v).length/\((putL v).length=1\/128^((putL v).length-1)<=v):=
 put_len 9 v (Nat.lt_of_lt_of_le h (by decide))
def zig (n:Int):Nat:=if n<0 then(-2*n-1).toNat else(2*n).toNat
theorem zig_lt {n:Int}(h : -9223372036854775808<=n)(h2:n<=9223372036854775807):zig n<18446744073709551616:=by unfold zig;split<;>omega
theorem iZ (D:ByteArray)(pos:Nat)(h:pos<D.size):D.data.toList.drop pos=D[pos] :: D.data.toList.drop (pos+1):=by
 rw[List.drop_eq_getElem_cons (by simpa using h)];rfl
theorem pE (D:ByteArray):D.data.toList.length=D.size:=Array.length_toList
def Rounds {α:Type}(F:Fence)(m:Nat)(P:Program)(l:Nat)(encs:α->Array Value)(Bv N:Nat)(J:List α->World->Prop):Prop:=
 ∀pre x W,J pre W->pre.length<N->YieldAt F m P l (encs x) W fun e W'=>e=.returned (.bool true)/\J (pre++ [x]) W'/\W'.heap[Bv]?=W.heap[Bv]?
def pL (c:UInt8):Array Value:=#[.int .u8 c.toNat]
def putB (v:Nat):ByteArray:=⟨(putL v).toArray⟩
theorem putB_list (v:Nat):(putB v).data.toList=putL v:=rfl
theorem putB_size (v:Nat):(putB v).size=(putL v).length:=by show(putL v).toArray.size=_;simp
def textB (s:ByteArray):ByteArray:=⟨(putL s.size++s.data.toList).toArray⟩
def iv (r:Int×Nat×Nat):Value:=.tuple #[.int .i64 r.1,.int .i64 (r.2.1:Int),.int .i64 (r.2.2:Int)]
def tv (r:ByteArray×Nat×Nat):Value:=.tuple #[.string r.1,.int .i64 (r.2.1:Int),.int .i64 (r.2.2:Int)]
end Wi
section
open Go.ChangeShapes Go.WideShapes Go.Deep Go.RowKit
open Go.Proofs.YtiohgaghmnpplaaGreatDoor.Wi (putL putL_len putB putB_size putB_list textB zig zig_lt)
def St (b:Nat)(l:List UInt8)(w:World):Prop:=Wr b b (Lib.byteCells l) w
structure KU (b:Nat)(w w':World):Prop where
 below:Below b w w'
 kept:Lib.OthersKept 5 (some b) w w'
theorem KU.refl (b:Nat)(w:World):KU b w w:=⟨Below.refl _ _,Lib.OthersKept.refl _ _ _⟩
theorem KU.trans {b:Nat}{w u v:World}(h:KU b w u)(k:KU b u v):KU b w v:=⟨h.below.trans k.below,h.kept.trans k.kept⟩
theorem KU.of {b:Nat}{w w':World}(h:Below w.heap.size w w')(hb:b<=w.heap.size):KU b w w':=
 ⟨h.mono hb,fun k o hk _ _=>(h.block k (lt_of_block hk)).trans hk⟩
theorem St.next {b:Nat}{l:List UInt8}{w w':World}(h:St b l w)(hb:Below w.heap.size w w'):St b l w':=by
 have key:∀p,WrAt b b p (Lib.byteCells l) w->WrAt b b p (Lib.byteCells l) w':=by
  rintro p ⟨hB,v,hk,hown,hne⟩;refine⟨hB,v,(hb.block b (lt_of_block hk)).trans hk,hown.kept (KP.of_below (p:=w.heap.size) hb) ?_,hne⟩;cases hv:v.ownBlock with
  |none=>exact .inl rfl
  |some g=>
   right;obtain⟨c,fz,hc⟩:=row_kind hown g hv;have:=lt_of_block hc;simp only[ne_eq,Option.some.injEq];omega
 rcases h with h|h
 ·exact .inl (key _ h)
 ·exact .inr (key _ h)
theorem nm_len {l:List UInt8}(h:cI l=true):l.length<=31:=by
 unfold cI at h;simp only[Bool.and_eq_true]at h;have h1:=h.1.1;cases l with
 |nil=>simp
 |cons b t=>
  unfold cN at h1;simp only[Bool.and_eq_true,decide_eq_true_eq]at h1;exact h1.1.1
theorem fit_range {k:Int}{i:In}(h:dL k i=true):0<=k/\k<=9:=by
 unfold dL at h;simp only[Bool.and_eq_true]at h;have h1:=h.2;unfold fitK at h1;split at h1
 ·simp at h1
 ·omega
structure RelOk (r:Rl)(d:Nat):Prop where
 p0:0<=r.pos
 p1:r.pos<=d
 k0:0<=r.kind
 k1:r.kind<=9
 s0:0<=r.sym
theorem rels_ok {kind:Int}{d:List UInt8}:∀ {l:List Rl} {e:Int},0<=e->gT kind d e l=true->∀r∈l,RelOk r d.length
 | [],_,_,_,r,hr=>by cases hr
 |q :: t,e,h0,h,r,hr=>by
  unfold gT at h;by_cases c:badR kind d e q
  ·rw[if_pos c]at h;cases h
  ·rw[if_neg c]at h;have c1:¬q.pos<e:=fun hh=>c (.inl hh)
   have c2:¬(d.length:Int)-rJ q.kind<q.pos:=fun hh=>c (.inr (.inl hh))
   have c3:¬q.sym<0:=fun hh=>c (.inr (.inr (.inl hh)))
   have c4:mK kind d q=true:=by
    cases hh:mK kind d q
    ·exact absurd (.inr (.inr (.inr hh))) c
    ·rfl
   have hs:=kV q.kind;have hk:0<=q.kind/\q.kind<=9:=by
    unfold mK at c4;split at c4
    ·rename_i h1;omega
    ·simp only[Bool.and_eq_true]at c4;exact fit_range c4.2.2
   rcases List.mem_cons.1 hr with rfl|hr
   ·exact⟨by omega,by omega,hk.1,hk.2,by omega⟩
   ·exact rels_ok (by omega) h r hr
structure SecOk (s:Sc):Prop where
 name:s.name.length<=31
 k0:0<=s.kind
 k1:s.kind<=3
 a0:0<=s.align
 a1:s.align<=12
 data:s.data.length<=4096
 rels:s.rels.length<=64
 all:∀r∈s.rels,RelOk r s.data.length
theorem sec_ok {s:Sc}(h:jH s=true):SecOk s:=by
 obtain⟨hh,hr⟩:=sec_iff.1 h;obtain⟨h1,h2,h3,h4,h5,h6,h7⟩:=head_iff.1 hh;exact⟨nm_len h1,by omega,h3,h4,h5,h6,h7,rels_ok (by omega) hr⟩
end
end Go.Proofs.YtiohgaghmnpplaaGreatDoor
