/- Small things that sym's texts share. sym, plain: where names stand among objects. sym, plain: what the laws want of where names stand. sym: maps from names to places; each symbol of each object is handed over. sym: each. sym: what is done with each symbol, plain. sym: what is done with each symbol: the first of a name, and what stands once. -/
import Derived.Test.YthkolmebokfagaaGreatDoorqI
import Derived.Laws.IdiomRangeMap
import Derived.Laws.EntriesVeiled
import Derived.Deep.AppendLies
import Derived.Maps.RangeRun
set_option maxRecDepth 100000
set_option maxHeartbeats 1500000
set_option linter.unusedVariables false
set_option linter.unusedSimpArgs false
namespace Go.Proofs.YthkolmebokfagaaGreatDoor
open Go.RowKit
open Go.ChangeShapes Go.WideShapes Go.Deep Go.RowKit
theorem rb_new (w:World) (A:Array Value) (T:TypeId):RB (w.alloc (.cells A T)) w.heap.size A T:=(MapKept.heap_alloc w _).1
theorem lit_below (u:World) (o:Obj):Below u.heap.size u (u.alloc o):=(Below.refl _ _).alloc (Nat.le_refl _) _
theorem zeroPlace (w:World):(zeroValue 46).run Tryz.prog w=.ok (.agg #[.int .i64 0,.int .i64 0,.int .i64 0]) w:=by kernel_rfl
end Go.Proofs.YthkolmebokfagaaGreatDoor
namespace Go.Proofs.YthkolmebokfagaaGreatDoor
open Go.RowKit
open Go.ChangeShapes Go.WideShapes Go.Deep Go.RowKit
structure Pl where
 obj:Int
 sec:Int
 off:Int
deriving DecidableEq
def plZ:Pl:=⟨0,0,0⟩
def plC (p:Pl):List Value:=[.int .i64 p.obj,.int .i64 p.sec,.int .i64 p.off]
theorem pl_len (p:Pl):(plC p).length=3:=rfl
def plV (p:Pl):Value:=.agg #[.int .i64 p.obj,.int .i64 p.sec,.int .i64 p.off]
structure At where
 k:Nat
 j:Nat
 y:Sy
def flatR (k:Nat):Nat->List Sy->List At
 | _,[]=>[]
 | j,y :: t=>⟨k,j,y⟩ :: flatR k (j+1) t
def flatS:Nat->List (List Sy)->List At
 | _,[]=>[]
 | k,x :: t=>flatR k 0 x ++ flatS (k+1) t
def hitB (b:Int) (nm:List UInt8) (a:At):Bool:=decide (a.y.name=nm) && decide (a.y.bind=b) && decide (a.y.sec ≠ -1)
def plOf (a:At):Pl:=⟨(a.k:Int),a.y.sec,a.y.off⟩
def fstP (b:Int) (nm:List UInt8) (l:List At):Option Pl:=(l.find? (hitB b nm)).map plOf
def plcL (l:List At) (nm:List UInt8):Option Pl:=(fstP 2 nm l).or (fstP 3 nm l)
def twiceB (F:List UInt8->Option Pl) (a:At):Bool:=decide (a.y.bind=2) && decide (a.y.sec ≠ -1) && decide (((F a.y.name).getD plZ).obj ≠ (a.k:Int))
def lostB (F:List UInt8->Option Pl) (a:At):Bool:=decide (a.y.bind ≠ 1) && (F a.y.name).isNone
def placeA (F:List UInt8->Option Pl) (k:Nat) (y:Sy):Pl:=if y.bind=1 then ⟨(k:Int),y.sec,y.off⟩ else (F y.name).getD plZ
def rowsA (F:List UInt8->Option Pl):Nat->List (List Sy)->List (List Pl)
 | _,[]=>[]
 | k,x :: t=>x.map (placeA F k) :: rowsA F (k+1) t
structure Flt where
 code:Int
 obj:Int
 sym:Int
deriving DecidableEq
def flZ:Flt:=⟨0,0,0⟩
def flV (f:Flt):Value:=.agg #[.int .i64 f.code,.int .i64 f.obj,.int .i64 f.sym]
def fltAt (c:Int) (o:Option At):Flt:=match o with | some a=>⟨c,(a.k:Int),(a.j:Int)⟩ | none=>flZ
def checkL (os:List Ob):Int:=if 8 < os.length then 2 else if os.all isO=true then 0 else 1
def flatO (os:List Ob):List At:=flatS 0 (os.map (·.syms))
def findO (os:List Ob) (nm:List UInt8):Option Pl:=if nm=[]\/checkL os ≠ 0 then none else plcL (flatO os) nm
def faultL (os:List Ob):Flt:=
 if checkL os ≠ 0 then ⟨checkL os,0,0⟩
 else match (flatO os).find? (twiceB (plcL (flatO os))) with
  | some a=>⟨7,(a.k:Int),(a.j:Int)⟩
  | none=>fltAt 6 ((flatO os).find? (lostB (plcL (flatO os))))
def rowsL (os:List Ob):List (List Pl):=rowsA (plcL (flatO os)) 0 (os.map (·.syms))
theorem mem_flatR {k:Nat} {a:At}:∀ {j:Nat} {l:List Sy},a ∈ flatR k j l ↔ a.k=k/\j<=a.j/\l[a.j - j]?=some a.y
 | j,[]=>by simp [flatR]
 | j,y :: t=>by
  show a ∈ _ :: _ ↔ _
  rw [List.mem_cons,mem_flatR (j:=j+1)]
  constructor
  ·rintro (rfl | ⟨h1,h2,h3⟩)
   ·exact ⟨rfl,Nat.le_refl _,by simp⟩
   ·exact ⟨h1,by omega,by rw [show a.j - j=(a.j - (j+1))+1 from by omega];simpa using h3⟩
  ·rintro ⟨h1,h2,h3⟩
   by_cases e:a.j=j
   ·left
    rw [e,Nat.sub_self] at h3
    simp only [List.getElem?_cons_zero,Option.some.injEq] at h3
    obtain ⟨ak,aj,ay⟩:=a
    simp only at h1 e h3
    rw [h1,e,h3]
   ·right
    refine ⟨h1,by omega,?_⟩
    rw [show a.j - j=(a.j - (j+1))+1 from by omega] at h3
    simpa using h3
theorem mem_flatS {a:At}:∀ {k:Nat} {l:List (List Sy)},a ∈ flatS k l ↔ k<=a.k/\∃ x,l[a.k - k]?=some x/\x[a.j]?=some a.y
 | k,[]=>by simp [flatS]
 | k,x :: t=>by
  show a ∈ _ ++ _ ↔ _
  rw [List.mem_append,mem_flatS (k:=k+1),mem_flatR]
  constructor
  ·rintro (⟨h1,h2,h3⟩ | ⟨h1,x',h2,h3⟩)
   ·exact ⟨by omega,x,by rw [h1];simp,by simpa using h3⟩
   ·exact ⟨by omega,x',by rw [show a.k - k=(a.k - (k+1))+1 from by omega];simpa using h2,h3⟩
  ·rintro ⟨h1,x',h2,h3⟩
   by_cases e:a.k=k
   ·left
    rw [e,Nat.sub_self] at h2
    simp only [List.getElem?_cons_zero,Option.some.injEq] at h2
    subst h2
    exact ⟨e,Nat.zero_le _,by simpa using h3⟩
   ·right
    refine ⟨by omega,x',?_,h3⟩
    rw [show a.k - k=(a.k - (k+1))+1 from by omega] at h2
    simpa using h2
theorem flatR_k {k:Nat} {j:Nat} {l:List Sy} {a:At} (h:a ∈ flatR k j l):a.k=k:=(mem_flatR.1 h).1
theorem flatS_sorted:∀ (k:Nat) (l:List (List Sy)),(flatS k l).Pairwise (fun a b=>a.k<=b.k)
 | k,[]=>List.Pairwise.nil
 | k,x :: t=>by
  refine List.pairwise_append.2 ⟨?_,flatS_sorted (k+1) t,fun a ha b hb=>?_⟩
  ·exact List.Pairwise.imp_of_mem (R:=fun _ _=>True) (fun {a b} ha hb _=>by rw [flatR_k ha,flatR_k hb];exact Nat.le_refl _) (List.pairwise_of_forall (fun _ _=>trivial))
  ·rw [flatR_k ha]
   have:=(mem_flatS.1 hb).1
   omega
theorem fstP_none {b:Int} {nm:List UInt8} {l:List At}:fstP b nm l=none ↔ ∀ a ∈ l,hitB b nm a=false:=by
 unfold fstP
 rw [Option.map_eq_none_iff,List.find?_eq_none]
 simp
theorem hit_iff {b:Int} {nm:List UInt8} {a:At}:hitB b nm a=true ↔ a.y.name=nm/\a.y.bind=b/\a.y.sec ≠ -1:=by
 unfold hitB;simp [and_assoc]
theorem rowsA_len (F:List UInt8->Option Pl):∀ (k:Nat) (l:List (List Sy)),(rowsA F k l).length=l.length
 | _,[]=>rfl
 | k,x :: t=>by show _+1=_;rw [rowsA_len F (k+1) t];rfl
theorem rowsA_get (F:List UInt8->Option Pl):∀ (k:Nat) (l:List (List Sy)) (i:Nat),(rowsA F k l)[i]?=(l[i]?).map (fun x=>x.map (placeA F (k+i)))
 | _,[],i=>by simp [rowsA]
 | k,x :: t,0=>by simp [rowsA]
 | k,x :: t,i+1=>by
  show (rowsA F (k+1) t)[i]?=_
  rw [rowsA_get F (k+1) t i,show k+1+i=k+(i+1) from by omega];rfl
theorem rowsA_append (F:List UInt8->Option Pl):∀ (k:Nat) (a b:List (List Sy)),rowsA F k (a ++ b)=rowsA F k a ++ rowsA F (k+a.length) b
 | k,[],b=>rfl
 | k,x :: t,b=>by
  show _ :: rowsA F (k+1) (t ++ b)=_
  rw [rowsA_append F (k+1) t b,List.length_cons,show k+(t.length+1)=k+1+t.length from by omega];rfl
theorem symsR_stands {secs:List Sc}:∀ {l:List Sy} {seen:List (List UInt8)},symsR secs seen l=true->∀ s ∈ l,standsL s secs=true/\(s.name=[]->s.bind=1)
 | [],_,_,s,hs=>by cases hs
 | q :: t,seen,h,s,hs=>by
  unfold symsR at h
  split at h
  ·cases h
  ·rename_i h1
   have hq:standsL q secs=true:=by simpa using h1
   split at h
   ·rename_i h2
    rcases List.mem_cons.1 hs with rfl | hs
    ·exact ⟨hq,fun _=>h2.2⟩
    ·exact symsR_stands h s hs
   ·rename_i h2
    split at h
    ·cases h
    ·rename_i h3
     rcases List.mem_cons.1 hs with rfl | hs
     ·refine ⟨hq,fun e=>?_⟩
      exfalso
      apply h3
      right
      rw [e];rfl
     ·exact symsR_stands h s hs
theorem stands_iff {s:Sy} {secs:List Sc} (h:standsL s secs=true):1<=s.bind/\s.bind<=3/\(s.sec = -1->s.bind ≠ 1/\s.off=0)/\(s.sec ≠ -1->0<=s.sec/\s.sec < (secs.length:Int)/\0<=s.off/\∃ t,secs[s.sec.toNat]?=some t/\s.off<=(t.data.length:Int)):=by
 unfold standsL at h
 split at h
 ·cases h
 ·rename_i h1
  split at h
  ·rename_i h2
   simp only [Bool.and_eq_true,decide_eq_true_eq] at h
   exact ⟨by omega,by omega,fun _=>h,fun e=>absurd h2 e⟩
  ·rename_i h2
   simp only [Bool.and_eq_true,decide_eq_true_eq] at h
   refine ⟨by omega,by omega,fun e=>absurd e h2,fun _=>⟨h.1.1.1,h.1.1.2,h.1.2,?_⟩⟩
   have h4:=h.2
   cases hg:secs[s.sec.toNat]? with
   | none=>rw [hg] at h4;cases h4
   | some t=>
    rw [hg] at h4
    exact ⟨t,rfl,of_decide_eq_true h4⟩
theorem isO_syms {o:Ob} (h:isO o=true):symsR o.secs [] o.syms=true/\o.syms.length<=128/\o.secs.length<=32:=by
 unfold isO symsL secsL at h
 simp only [Bool.and_eq_true,decide_eq_true_eq] at h
 exact ⟨h.2.2,h.2.1,h.1.1⟩
theorem checkL_zero {os:List Ob}:checkL os=0 ↔ os.length<=8/\∀ o ∈ os,isO o=true:=by
 unfold checkL
 split
 ·constructor
  ·intro h;omega
  ·intro h;omega
 ·split
  ·rename_i h1 h2
   exact ⟨fun _=>⟨by omega,List.all_eq_true.1 h2⟩,fun _=>rfl⟩
  ·rename_i h1 h2
   exact ⟨fun h=>by omega,fun h=>absurd (List.all_eq_true.2 h.2) h2⟩
theorem mem_flatO {os:List Ob} {a:At}:a ∈ flatO os ↔ ∃ o,os[a.k]?=some o/\o.syms[a.j]?=some a.y:=by
 unfold flatO
 rw [mem_flatS]
 simp only [Nat.zero_le,Nat.sub_zero,List.getElem?_map,true_and]
 constructor
 ·rintro ⟨x,h1,h2⟩
  rw [Option.map_eq_some_iff] at h1
  obtain ⟨o,h3,rfl⟩:=h1
  exact ⟨o,h3,h2⟩
 ·rintro ⟨o,h1,h2⟩
  exact ⟨o.syms,by rw [h1];rfl,h2⟩
theorem right_at {os:List Ob} (h:checkL os=0) {a:At} (ha:a ∈ flatO os):∃ o,os[a.k]?=some o/\isO o=true/\o.syms[a.j]?=some a.y/\standsL a.y o.secs=true/\(a.y.name=[]->a.y.bind=1):=by
 obtain ⟨o,h1,h2⟩:=mem_flatO.1 ha
 have ho:=(checkL_zero.1 h).2 o (List.mem_of_getElem? h1)
 obtain ⟨h3,h4⟩:=symsR_stands (isO_syms ho).1 a.y (List.mem_of_getElem? h2)
 exact ⟨o,h1,ho,h2,h3,h4⟩
open Go.ChangeShapes Go.WideShapes Go.Deep Go.RowKit
open Go.ChangeShapes Go.WideShapes Go.Deep Go.RowKit
def pairP (p:ByteArray × Pl):Value × Value:=(.string p.1,plV p.2)
structure FMs (es:Array MapEntry) (clock:Nat) (l:List (ByteArray × Pl)):Prop where
 eq:es.toList.map (fun e=>(e.key,e.val))=l.map pairP
 sz:∀ p ∈ l,p.1.size<=maxLen
 nd:(l.map (·.1)).Nodup
 bo:∀ e ∈ es.toList,e.born < clock
 bn:(es.toList.map (·.born)).Nodup
def lookB (l:List (ByteArray × Pl)) (nm:List UInt8):Option Pl:=(l.find? (fun p=>decide (p.1.data.toList=nm))).map (·.2)
def FM (w:World) (b:Nat) (F:List UInt8->Option Pl):Prop:=∃ es clock l,w.heap[b]?=some (.map es clock)/\FMs es clock l/\∀ nm,F nm=lookB l nm
theorem ba_eq {a b:ByteArray} (h:a.data.toList=b.data.toList):a=b:=ByteArray.ext (Array.toList_inj.1 h)
theorem fm_key {es:Array MapEntry} {clock:Nat} {l:List (ByteArray × Pl)} (h:FMs es clock l) {e:MapEntry} (he:e ∈ es.toList):∃ p ∈ l,e.key=.string p.1/\e.val=plV p.2:=by
 have:(e.key,e.val) ∈ es.toList.map (fun e=>(e.key,e.val)):=List.mem_map.2 ⟨e,he,rfl⟩
 rw [h.eq] at this
 obtain ⟨p,hp,hh⟩:=List.mem_map.1 this
 simp only [pairP,Prod.mk.injEq] at hh
 exact ⟨p,hp,hh.1.symm,hh.2.symm⟩
theorem fm_keys {es:Array MapEntry} {clock:Nat} {l:List (ByteArray × Pl)} (h:FMs es clock l):∀ e ∈ es.toList,∃ k,keyOf Tryz.prog 9 e.key=some k:=by
 intro e he
 obtain ⟨p,hp,hk,-⟩:=fm_key h he
 rw [hk]
 exact ⟨_,sKeyOf (h.sz p hp)⟩
theorem nodup_at {α β:Type} {f:α->β}:∀ {l:List α},(l.map f).Nodup->∀ {a b:α},a ∈ l->b ∈ l->f a=f b->a=b
 | [],_,a,b,ha,_,_=>by cases ha
 | x :: t,h,a,b,ha,hb,e=>by
  rw [List.map_cons,List.nodup_cons] at h
  rcases List.mem_cons.1 ha with rfl | ha
  ·rcases List.mem_cons.1 hb with rfl | hb
   ·rfl
   ·exact (h.1 (List.mem_map.2 ⟨b,hb,e.symm⟩)).elim
  ·rcases List.mem_cons.1 hb with hbx | hb
   ·exact (h.1 (hbx ▸ List.mem_map.2 ⟨a,ha,e⟩)).elim
   ·exact nodup_at h.2 ha hb e
theorem lookB_of {es:Array MapEntry} {clock:Nat} {l:List (ByteArray × Pl)} (h:FMs es clock l) {p:ByteArray × Pl} (hp:p ∈ l):lookB l p.1.data.toList=some p.2:=by
 unfold lookB
 cases hf:l.find? (fun q=>decide (q.1.data.toList=p.1.data.toList)) with
 | none=>
  have:=List.find?_eq_none.1 hf p hp
  simp at this
 | some q=>
  have h1:=List.find?_some hf
  have h2:=List.mem_of_find?_eq_some hf
  have:=nodup_at h.nd h2 hp (ba_eq (of_decide_eq_true h1))
  rw [this];rfl
theorem lookB_none {l:List (ByteArray × Pl)} {nm:List UInt8} (h:∀ p ∈ l,p.1.data.toList ≠ nm):lookB l nm=none:=by
 unfold lookB
 rw [List.find?_eq_none.2 (fun p hp=>by simpa using h p hp)];rfl
theorem lookB_some {l:List (ByteArray × Pl)} {nm:List UInt8} {v:Pl} (h:lookB l nm=some v):∃ p ∈ l,p.1.data.toList=nm/\p.2=v:=by
 unfold lookB at h
 rw [Option.map_eq_some_iff] at h
 obtain ⟨p,h1,h2⟩:=h
 exact ⟨p,List.mem_of_find?_eq_some h1,by simpa using List.find?_some h1,h2⟩
theorem fm_look_any {F:List UInt8->Option Pl} {b:Nat} {w:World} (h:FM w b F) {k:ByteArray} (hk:k.size<=maxLen) (c:Bool):
  (Instr.lookup 99 (.map (some b)) (.string k) c).run Tryz.prog w=.ok (if c then .tuple #[plV ((F k.data.toList).getD plZ),.bool (F k.data.toList).isSome] else plV ((F k.data.toList).getD plZ)) w:=by
 obtain ⟨es,clock,l,hb,hm,hF⟩:=h
 have hkey:=sKeyOf hk
 rcases sKey.find w hkey es.toList (fm_keys hm) with ⟨h1,h2⟩ | ⟨j,e,h1,h2,h3⟩
 ·have hn:F k.data.toList=none:=by
   rw [hF]
   apply lookB_none
   intro p hp e
   have:pairP p ∈ l.map pairP:=List.mem_map.2 ⟨_,hp,rfl⟩
   rw [<-hm.eq] at this
   obtain ⟨x,hx,hxe⟩:=List.mem_map.1 this
   simp only [pairP,Prod.mk.injEq] at hxe
   exact h2 x hx (by rw [hxe.1,ba_eq e])
  rw [hn]
  cases c <;> simp [Instr.lookup,run_underlying Tryz.underlying99,MapKept.run_getObj_map hb,sKey.check w _ hkey,h1,zeroPlace,Result.andThen,plV,plZ]
 ·obtain ⟨p,hp,hpk,hpv⟩:=fm_key hm (List.mem_of_getElem? h2)
  rw [h3] at hpk
  simp only [Value.string.injEq] at hpk
  have hs:F k.data.toList=some p.2:=by rw [hF,hpk];exact lookB_of hm hp
  rw [hs]
  cases c <;> simp [Instr.lookup,run_underlying Tryz.underlying99,MapKept.run_getObj_map hb,sKey.check w _ hkey,h1,hpv,Result.andThen]
theorem fm_look {F:List UInt8->Option Pl} {b:Nat} {w:World} (h:FM w b F) {k:ByteArray} (hk:k.size<=maxLen):
  (Instr.lookup 99 (.map (some b)) (.string k) true).run Tryz.prog w=.ok (.tuple #[plV ((F k.data.toList).getD plZ),.bool (F k.data.toList).isSome]) w:=by
 have:=fm_look_any h hk true
 simpa using this
theorem fm_look1 {F:List UInt8->Option Pl} {b:Nat} {w:World} (h:FM w b F) {k:ByteArray} (hk:k.size<=maxLen):
  (Instr.lookup 99 (.map (some b)) (.string k) false).run Tryz.prog w=.ok (plV ((F k.data.toList).getD plZ)) w:=by
 have:=fm_look_any h hk false
 simpa using this
theorem fm_put {F:List UInt8->Option Pl} {b:Nat} {w:World} (h:FM w b F) (k:ByteArray) (v:Pl) (hk:k.size<=maxLen) (hn:F k.data.toList=none):
  ∃ w',(Instr.mapUpdate 99 (.map (some b)) (.string k) (plV v)).run Tryz.prog w=.ok () w'/\FM w' b (fun nm=>if nm=k.data.toList then some v else F nm)/\w.grownBy w' (some b):=by
 obtain ⟨es,clock,l,hb,hm,hF⟩:=h
 have hkey:=sKeyOf hk
 have hno:∀ p ∈ l,p.1 ≠ k:=by
  intro p hp e
  have:=lookB_of hm hp
  rw [e,<-hF,hn] at this
  cases this
 rcases sKey.find w hkey es.toList (fm_keys hm) with ⟨h1,-⟩ | ⟨j,e,h1,h2,h3⟩
 ·refine ⟨ChangeMaps.setBlock w b (.map (es.push ⟨.string k,plV v,clock⟩) (clock+1)),?_,⟨es.push ⟨.string k,plV v,clock⟩,clock+1,l ++ [(k,v)],?_,⟨?_,?_,?_,?_,?_⟩,?_⟩,?_⟩
  ·simp [Instr.mapUpdate,run_underlying Tryz.underlying99,MapKept.run_getObj_map hb,sKey.check w false hkey,h1,MapKept.run_setObj_map _ hb,Result.andThen,ChangeMaps.setBlock]
  ·have:=lt_of_block hb
   simp [ChangeMaps.setBlock,this]
  ·rw [Array.toList_push,List.map_append,hm.eq,List.map_append];rfl
  ·intro p hp
   rcases List.mem_append.1 hp with hp | hp
   ·exact hm.sz p hp
   ·rw [List.mem_singleton] at hp;subst hp;exact hk
  ·rw [List.map_append,List.nodup_append]
   refine ⟨hm.nd,by simp,?_⟩
   intro a ha c hc e
   obtain ⟨p,hp,rfl⟩:=List.mem_map.1 ha
   simp only [List.map_cons,List.map_nil,List.mem_singleton] at hc
   exact hno p hp (e.trans hc)
  ·intro e he
   rw [Array.toList_push] at he
   rcases List.mem_append.1 he with he | he
   ·have:=hm.bo e he;omega
   ·rw [List.mem_singleton] at he;subst he;exact Nat.lt_succ_self _
  ·rw [Array.toList_push,List.map_append,List.nodup_append]
   refine ⟨hm.bn,by simp,?_⟩
   intro a ha c hc e
   obtain ⟨x,hx,rfl⟩:=List.mem_map.1 ha
   simp only [List.map_cons,List.map_nil,List.mem_singleton] at hc
   have:=hm.bo x hx
   omega
  ·intro nm
   show (if nm=k.data.toList then some v else F nm)=_
   unfold lookB
   rw [List.find?_append]
   by_cases e:nm=k.data.toList
   ·subst e
    rw [if_pos rfl,show l.find? (fun p=>decide (p.1.data.toList=k.data.toList))=none from List.find?_eq_none.2 (fun p hp h=>hno p hp (ba_eq (of_decide_eq_true h)))]
    simp
   ·rw [if_neg e,hF]
    unfold lookB
    rw [show [(k,v)].find? (fun p=>decide (p.1.data.toList=nm))=none from List.find?_eq_none.2 (fun p hp h=>by
     rw [List.mem_singleton] at hp;subst hp;exact e (of_decide_eq_true h).symm),Option.or_none]
  ·refine ⟨rfl,rfl,rfl,by simp [ChangeMaps.setBlock],fun i hi hne=>?_⟩
   simp only [ChangeMaps.setBlock]
   rw [Array.getElem?_setIfInBounds_ne (fun e=>hne (by rw [e]))]
 ·obtain ⟨p,hp,hpk,-⟩:=fm_key hm (List.mem_of_getElem? h2)
  rw [h3] at hpk
  simp only [Value.string.injEq] at hpk
  exact absurd hpk.symm (hno p hp)
theorem FM.same {w w':World} {b:Nat} {F:List UInt8->Option Pl} (h:FM w b F) (hb:w'.heap[b]?=w.heap[b]?):FM w' b F:=by
 obtain ⟨es,clock,l,h1,h2⟩:=h
 exact ⟨es,clock,l,hb.trans h1,h2⟩
theorem FM.lt {w:World} {b:Nat} {F:List UInt8->Option Pl} (h:FM w b F):b < w.heap.size:=by
 obtain ⟨es,clock,l,h1,h2⟩:=h
 exact lt_of_block h1
theorem FM.none (w:World) (b:Nat) (h:w.heap[b]?=some (.map #[] 0)):FM w b (fun _=>none):=
 ⟨#[],0,[],h,⟨rfl,by simp,List.nodup_nil,by simp,List.nodup_nil⟩,fun _=>rfl⟩
theorem FM.next {w w':World} {b:Nat} {F:List UInt8->Option Pl} (h:FM w b F) (hb:Below w.heap.size w w'):FM w' b F:=h.same (hb.block b h.lt)
structure Ox where
 a:Option Addr
 c:Nat
 L:List Ms
 a2:Option Addr
 c2:Nat
 l:List Sy
def oxC (o:Ox):List Value:=[.slice o.a o.L.length o.c,.slice o.a2 o.l.length o.c2]
theorem ox_len (o:Ox):(oxC o).length=2:=rfl
def obOf (o:Ox):Ob:=⟨o.L.map (·.sc),o.l⟩
structure OS (w:World) (B:Nat) (a:Option Addr) (n:Nat) (Os:List Ox):Prop where
 sl:SL oxC 2 w B a n Os
 s1:∀ o ∈ Os,SL msC 6 w B o.a o.L.length o.L
 no:∀ o ∈ Os,Notes w B o.L
 s2:∀ o ∈ Os,SL syC 4 w B o.a2 o.l.length o.l
 gd:∀ o ∈ Os,∀ m ∈ o.L,GoodSc m.sc
 gs:∀ o ∈ Os,∀ s ∈ o.l,GoodSy s
 l1:∀ o ∈ Os,o.L.length<=maxLen
 l2:∀ o ∈ Os,o.l.length<=maxLen
 ln:n<=maxLen
theorem OS.below {w w':World} {B:Nat} {a:Option Addr} {n:Nat} {Os:List Ox} (h:OS w B a n Os) (hb:Below B w w'):OS w' B a n Os:=
 ⟨h.sl.below hb,fun o ho=>(h.s1 o ho).below hb,fun o ho m hm=>(h.no o ho m hm).below hb,fun o ho=>(h.s2 o ho).below hb,h.gd,h.gs,h.l1,h.l2,h.ln⟩
theorem OS.up {w:World} {B B':Nat} {a:Option Addr} {n:Nat} {Os:List Ox} (h:OS w B a n Os) (hB:B<=B'):OS w B' a n Os:=
 ⟨h.sl.up hB,fun o ho=>(h.s1 o ho).up hB,fun o ho m hm=>(h.no o ho m hm).up hB,fun o ho=>(h.s2 o ho).up hB,h.gd,h.gs,h.l1,h.l2,h.ln⟩
theorem OS.next {w w':World} {a:Option Addr} {n:Nat} {Os:List Ox} (h:OS w w.heap.size a n Os) (hb:Below w.heap.size w w'):OS w' w'.heap.size a n Os:=(h.below hb).up hb.size
theorem ox_cells {w:World} {b off k:Nat} {o:Ox} (h:∀ j,j < 2->w.cell? ⟨b,off+k*2+j,none⟩=(oxC o)[j]?):
  w.cell? ⟨b,off+k*2,none⟩=some (.slice o.a o.L.length o.c)/\w.cell? ⟨b,off+k*2+1,none⟩=some (.slice o.a2 o.l.length o.c2):=
 ⟨h 0 (by omega),h 1 (by omega)⟩
structure KO (X:Nat->Prop) (u u':World):Prop where
 os:u'.os=u.os
 tape:u'.tape=u.tape
 output:u'.output=u.output
 size:u.heap.size<=u'.heap.size
 block:∀ j,j < u.heap.size->¬ X j->u'.heap[j]?=u.heap[j]?
theorem KO.refl (X:Nat->Prop) (u:World):KO X u u:=⟨rfl,rfl,rfl,Nat.le_refl _,fun _ _ _=>rfl⟩
theorem KO.trans {X X':Nat->Prop} {a b c:World} (h:KO X a b) (k:KO X' b c) (hX:∀ j,X' j->X j\/a.heap.size<=j):KO X a c:=
 ⟨k.os.trans h.os,k.tape.trans h.tape,k.output.trans h.output,Nat.le_trans h.size k.size,fun j hj hn=>(k.block j (Nat.lt_of_lt_of_le hj h.size) (fun hx=>by
  rcases hX j hx with h1 | h1
  ·exact hn h1
  ·omega)).trans (h.block j hj hn)⟩
theorem KO.below {X:Nat->Prop} {a b:World} {B:Nat} (h:KO X a b) (hB:B<=a.heap.size) (hX:∀ j,X j->B<=j):Below B a b:=
 ⟨h.os,h.tape,h.output,h.size,fun j hj=>h.block j (by omega) (fun hx=>by have:=hX j hx;omega)⟩
theorem KO.of_below {X:Nat->Prop} {a b:World} (h:Below a.heap.size a b):KO X a b:=⟨h.os,h.tape,h.output,h.size,fun j hj _=>h.block j hj⟩
structure EI {σ:Type} (I:σ->(Nat->Prop)->World->Prop) (B:Nat):Prop where
 keep:∀ s X u u',I s X u->u.heap.size<=u'.heap.size->(∀ j,X j->u'.heap[j]?=u.heap[j]?)->I s X u'
 lt:∀ s X u j,I s X u->X j->B<=j/\j < u.heap.size
theorem EI.next {σ:Type} {I:σ->(Nat->Prop)->World->Prop} {B:Nat} (h:EI I B) {s:σ} {X:Nat->Prop} {u u':World} (hi:I s X u) (hb:Below u.heap.size u u'):I s X u':=
 h.keep s X u u' hi hb.size (fun j hj=>hb.block j (h.lt s X u j hi hj).2)
def CbP {σ:Type} (I:σ->(Nat->Prop)->World->Prop) (s':σ) (code:Int) (X:Nat->Prop) (u:World) (e:Ending) (u':World):Prop:=
 ∃ X',e=.returned (.int .i64 code)/\I s' X' u'/\KO X u u'/\∀ j,X' j->X j\/u.heap.size<=j
def runE {σ:Type} (step:σ->At->σ × Int):σ->List At->σ × Flt
 | s,[]=>(s,flZ)
 | s,a :: t=>if (step s a).2=0 then runE step (step s a).1 t else ((step s a).1,⟨(step s a).2,(a.k:Int),(a.j:Int)⟩)
def EP {σ:Type} (I:σ->(Nat->Prop)->World->Prop) (r:σ × Flt) (X:Nat->Prop) (w:World) (e:Ending) (u':World):Prop:=
 ∃ X',e=.returned (flV r.2)/\I r.1 X' u'/\KO X w u'/\∀ j,X' j->X j\/w.heap.size<=j
abbrev syVa (N:ByteArray) (s:Sy):Value:=.agg #[.string N,.int .i64 s.bind,.int .i64 s.sec,.int .i64 s.off]
abbrev fltV0 (k j:Nat):Value:=.agg #[.int .i64 0,.int .i64 (k:Int),.int .i64 (j:Int)]
def goodAt (Os:List Ox) (a:At):Prop:=∃ o,Os[a.k]?=some o/\o.l[a.j]?=some a.y
theorem flat_mem {Os:List Ox} {a:At} (h:a ∈ flatS 0 (Os.map (·.l))):goodAt Os a:=by
 rw [mem_flatS] at h
 obtain ⟨-,x,h1,h2⟩:=h
 rw [Nat.sub_zero,List.getElem?_map,Option.map_eq_some_iff] at h1
 obtain ⟨o,h3,rfl⟩:=h1
 exact ⟨o,h3,h2⟩
theorem runE_cons {σ:Type} {step:σ->At->σ × Int} {s:σ} {a:At} {t:List At} (h:(step s a).2=0):runE step s (a :: t)=runE step (step s a).1 t:=by
 show (if _ then _ else _)=_;rw [if_pos h]
theorem runE_stop {σ:Type} {step:σ->At->σ × Int} {s:σ} {a:At} {t:List At} (h:(step s a).2 ≠ 0):runE step s (a :: t)=((step s a).1,⟨(step s a).2,(a.k:Int),(a.j:Int)⟩):=by
 show (if _ then _ else _)=_;rw [if_neg h]
theorem flatS_at {l:List Ox} {k:Nat} (h:k < l.length) (K:Nat):flatS K ((l.drop k).map (·.l))=flatR K 0 l[k].l ++ flatS (K+1) ((l.drop (k+1)).map (·.l)):=by
 rw [drop_cons h];rfl
theorem flatR_at {l:List Sy} {j:Nat} (h:j < l.length) (k J:Nat):flatR k J (l.drop j)=⟨k,J,l[j]⟩ :: flatR k (J+1) (l.drop (j+1)):=by
 rw [drop_cons h];rfl
open Go.ChangeShapes Go.WideShapes Go.Deep Go.RowKit
def PreR {σ:Type} (step:σ->At->σ × Int) (s0 s:σ) (fl rem:List At):Prop:=∃ pre,fl=pre ++ rem/\runE step s0 pre=(s,flZ)
theorem runE_app {σ:Type} {step:σ->At->σ × Int}:∀ (pre rest:List At) (s0 s:σ),runE step s0 pre=(s,flZ)->runE step s0 (pre ++ rest)=runE step s rest
 | [],rest,s0,s,h=>by cases h;rfl
 | a :: t,rest,s0,s,h=>by
  by_cases h0:(step s0 a).2=0
  ·rw [runE_cons h0] at h
   show runE step s0 (a :: (t ++ rest))=_
   rw [runE_cons h0]
   exact runE_app t rest _ s h
  ·rw [runE_stop h0] at h
   have:=congrArg (fun x=>x.2.code) h
   exact absurd this h0
theorem PreR.step {σ:Type} {step:σ->At->σ × Int} {s0 s:σ} {fl rem:List At} {a:At} (h:PreR step s0 s fl (a :: rem)) (h0:(step s a).2=0):PreR step s0 (step s a).1 fl rem:=by
 obtain ⟨pre,h1,h2⟩:=h
 refine ⟨pre ++ [a],by rw [h1];simp,?_⟩
 rw [runE_app _ _ _ _ h2,runE_cons h0];rfl
theorem PreR.stop {σ:Type} {step:σ->At->σ × Int} {s0 s:σ} {fl rem:List At} {a:At} (h:PreR step s0 s fl (a :: rem)) (h0:(step s a).2 ≠ 0):runE step s0 fl=((step s a).1,⟨(step s a).2,(a.k:Int),(a.j:Int)⟩):=by
 obtain ⟨pre,h1,h2⟩:=h
 rw [h1,runE_app _ _ _ _ h2,runE_stop h0]
theorem PreR.done {σ:Type} {step:σ->At->σ × Int} {s0 s:σ} {fl:List At} (h:PreR step s0 s fl []):runE step s0 fl=(s,flZ):=by
 obtain ⟨pre,h1,h2⟩:=h
 rw [h1,List.append_nil,h2]
theorem set3_heap (u:World) (H:Nat) (a b c:Value) (j:Nat) (h:j ≠ H):(((u.setCell ⟨H,0,none⟩ a).setCell ⟨H,1,none⟩ b).setCell ⟨H,2,none⟩ c).heap[j]?=u.heap[j]?:=by
 rw [Below.heap_setCell _ _ _ _ (by simpa using h),Below.heap_setCell _ _ _ _ (by simpa using h),Below.heap_setCell _ _ _ _ (by simpa using h)]
theorem KO.set3 {X:Nat->Prop} {w u:World} (h:KO X w u) {H:Nat} (hH:w.heap.size<=H) (a b c:Value):KO X w (((u.setCell ⟨H,0,none⟩ a).setCell ⟨H,1,none⟩ b).setCell ⟨H,2,none⟩ c):=
 ⟨h.os,h.tape,h.output,Nat.le_trans h.size (by simp [World.setCell]),fun j hj hn=>by rw [set3_heap _ _ _ _ _ _ (by omega)];exact h.block j hj hn⟩
theorem EI.set3 {σ:Type} {I:σ->(Nat->Prop)->World->Prop} {B:Nat} (h:EI I B) {s:σ} {X:Nat->Prop} {u:World} (hi:I s X u) {H:Nat} (hH:¬ X H) (a b c:Value):I s X (((u.setCell ⟨H,0,none⟩ a).setCell ⟨H,1,none⟩ b).setCell ⟨H,2,none⟩ c):=
 h.keep _ _ _ _ hi (by simp [World.setCell]) (fun j hj=>set3_heap _ _ _ _ _ _ (fun e=>hH (e ▸ hj)))
theorem each_any {σ:Type} (I:σ->(Nat->Prop)->World->Prop) (B:Nat) (hI:EI I B) (step:σ->At->σ × Int) (F:Nat) (caps:Array Value) (hcf:∀ (xs:Array Value) (w:World),Sem.run Tryz.prog (callFunc F xs) w=.ok (.enter F xs) w)
  (a:Option Addr) (n c:Nat) (Os:List Ox) (w:World) (hB:B<=w.heap.size) (hO:OS w B a n Os) (s0:σ) (X0:Nat->Prop) (h0:I s0 X0 w)
  (hc:∀ s X u (k j:Nat) (y:Sy) (N:ByteArray),(⟨k,j,y⟩:At) ∈ flatS 0 (Os.map (·.l))->(∃ rest,PreR step s0 s (flatS 0 (Os.map (·.l))) (⟨k,j,y⟩ :: rest))->I s X u->N=⟨y.name.toArray⟩->y.name.length<=maxLen->Calls Tryz.prog F (#[fltV0 k j,syVa N y] ++ caps) u (CbP I (step s ⟨k,j,y⟩).1 (step s ⟨k,j,y⟩).2 X u)):
  Calls Tryz.prog 54 #[.slice a n c,.func (.func F) #[] caps] w (EP I (runE step s0 (flatS 0 (Os.map (·.l)))) X0 w):=by
 obtain ⟨H,hH⟩:∃ H,H=w.heap.size:=⟨_,rfl⟩
 have HH:=Lib.hid hH
 have HO:=Lib.hid hO
 have HC:=Lib.hid hc
 have HLn:=Lib.hid hO.sl.len
 have HEI:=Lib.hid hI
 have hni:(n:Int)<=9223372036854775807:=by have:=hO.ln;unfold maxLen at this;omega
 have HBH:Hid (B<=H):=Lib.hid (by rw [hH];exact hB)
 have HR0:Hid (RB (w.alloc (.cells #[.int .i64 0,.int .i64 0,.int .i64 0] 42)) H #[.int .i64 0,.int .i64 0,.int .i64 0] 42):=Lib.hid (by rw [hH];exact rb_new w _ _)
 have HB0:Hid (Below w.heap.size w (w.alloc (.cells #[.int .i64 0,.int .i64 0,.int .i64 0] 42))):=Lib.hid (lit_below w _)
 have H0:=Lib.hid (hI.next h0 HB0.out)
 have HK0:Hid (KO X0 w (w.alloc (.cells #[.int .i64 0,.int .i64 0,.int .i64 0] 42))):=Lib.hid (KO.of_below HB0.out)
 have HX0:Hid (∀ j,X0 j->B<=j/\j < H):=Lib.hid (fun j hj=>by rw [hH];exact hI.lt _ _ _ _ h0 hj)
 clear hB hO hc hI h0 HB0 hH
 go_enter Tryz.func54,Tryz.ntmps54
 go_wp2
 try rw [<-HH.out]
 generalize (w.alloc (.cells #[.int .i64 0,.int .i64 0,.int .i64 0] 42))=W0 at HR0 H0 HK0 ⊢
 go_loopw [12] (fun i wr=>∃ (k:Nat) (wx:World) (s:σ) (X:Nat->Prop),wx=wr/\k<=n/\i=.int .i64 k/\Hid (I s X wx/\KO X0 w wx/\(∀ j,X j->X0 j\/H < j)/\RB wx H #[.int .i64 0,.int .i64 0,.int .i64 0] 42/\PreR step s0 s (flatS 0 (Os.map (·.l))) (flatS k ((Os.drop k).map (·.l))))) (fun i _=>n - (intOf i).toNat)
 case atStart=>exact ⟨0,_,s0,X0,rfl,by omega,rfl,Lib.hid ⟨H0.out,HK0.out,fun j hj=>.inl hj,HR0.out,[],rfl,rfl⟩⟩
 case round=>
  clear HR0 H0 HK0
  obtain ⟨k,wx,s,X,rfl,hk,rfl,HS⟩:=hrel
  by_cases hlt:k < n
  ·have hlti:(k:Int) < (n:Int):=by omega
   have hk1:k < Os.length:=by have:=HLn.out;omega
   have HBX:Hid (Below B w wx):=Lib.hid (HS.out.2.1.below (by rw [<-HH.out];exact HBH.out) (fun j hj=>(HX0.out j hj).1))
   have HO1:=Lib.hid (HO.out.below HBX.out)
   obtain ⟨bb,off,hae,hBB,hcc⟩:=HO1.out.sl.cells (HO1.out.sl.ne hlt)
   subst hae
   obtain ⟨c0,c1⟩:=ox_cells (fun j hj=>hcc k hk1 j hj)
   obtain ⟨o,ho⟩:∃ o,o=Os[k]:=⟨_,rfl⟩
   have HOo:Hid (Os[k]?=some o):=Lib.hid (by rw [ho];exact List.getElem?_eq_getElem hk1)
   have HOm:Hid (o ∈ Os):=Lib.hid (List.mem_of_getElem? HOo.out)
   have HFl:Hid (flatS k ((Os.drop k).map (·.l))=flatR k 0 o.l ++ flatS (k+1) ((Os.drop (k+1)).map (·.l))):=Lib.hid (by rw [flatS_at hk1,ho])
   rw [<-ho] at c0 c1
   clear hcc ho hBB
   obtain ⟨oa,oc,oL,oa2,oc2,ol⟩:=o
   simp only [] at c0 c1 HFl
   obtain ⟨on,hon⟩:∃ on,on=oL.length:=⟨_,rfl⟩
   obtain ⟨m,hm⟩:∃ m,m=ol.length:=⟨_,rfl⟩
   rw [<-hon] at c0
   rw [<-hm] at c1
   have HM:=Lib.hid hm
   have hmi:(m:Int)<=9223372036854775807:=by have:=HO.out.l2 _ HOm.out;simp only at this;rw [<-hm] at this;unfold maxLen at this;omega
   clear hon hm HBX
   have HA:Hid (Below wx.heap.size wx (wx.alloc (.cells #[.slice oa on oc,.slice oa2 m oc2] 25))):=Lib.hid (lit_below wx _)
   have HS1:Hid (I s X (wx.alloc (.cells #[.slice oa on oc,.slice oa2 m oc2] 25))/\KO X0 w (wx.alloc (.cells #[.slice oa on oc,.slice oa2 m oc2] 25))/\RB (wx.alloc (.cells #[.slice oa on oc,.slice oa2 m oc2] 25)) H #[.int .i64 0,.int .i64 0,.int .i64 0] 42):=Lib.hid ⟨HEI.out.next HS.out.1 HA.out,HS.out.2.1.trans (KO.of_below (X:=X0) HA.out) (fun j hj=>.inl hj),HS.out.2.2.2.1.next HA.out⟩
   have HXk:Hid (∀ j,X j->X0 j\/H < j):=Lib.hid HS.out.2.2.1
   have HRE:Hid (PreR step s0 s (flatS 0 (Os.map (·.l))) (flatR k 0 ol ++ flatS (k+1) ((Os.drop (k+1)).map (·.l)))):=Lib.hid (by rw [<-HFl.out];exact HS.out.2.2.2.2)
   clear HS HFl
   go_wp2
   clear c0 c1
   generalize (wx.alloc (.cells #[.slice oa on oc,.slice oa2 m oc2] 25))=W1 at HA HS1 ⊢
   go_loopw [20] (fun i wr=>∃ (j:Nat) (wy:World) (s:σ) (X:Nat->Prop),wy=wr/\j<=m/\i=.int .i64 j/\Hid (I s X wy/\KO X0 w wy/\(∀ j,X j->X0 j\/H < j)/\RB wy H #[.int .i64 0,.int .i64 0,.int .i64 0] 42/\PreR step s0 s (flatS 0 (Os.map (·.l))) (flatR k j (ol.drop j) ++ flatS (k+1) ((Os.drop (k+1)).map (·.l))))) (fun i _=>m - (intOf i).toNat)
   case atStart=>exact ⟨0,_,s,X,rfl,by omega,rfl,Lib.hid ⟨HS1.out.1,HS1.out.2.1,HXk.out,HS1.out.2.2,HRE.out⟩⟩
   case round=>
    clear HS1 HXk HRE HA HO1
    clear s X
    obtain ⟨j,wy,s,X,rfl,hj,rfl,HS⟩:=hrel
    by_cases hltj:j < m
    ·have hltji:(j:Int) < (m:Int):=by omega
     have hj1:j < ol.length:=by have:=HM.out;omega
     have HBY:Hid (Below B w wy):=Lib.hid (HS.out.2.1.below (by rw [<-HH.out];exact HBH.out) (fun j hj=>(HX0.out j hj).1))
     have hs2:=(HO.out.below HBY.out).s2 _ HOm.out
     simp only at hs2
     obtain ⟨b2,off2,hae2,hB2,hc2⟩:=hs2.cells (by intro e;rw [e] at hj1;simp at hj1)
     subst hae2
     obtain ⟨d0,d1,d2,d3⟩:=sy_cells (fun q hq=>hc2 j hj1 q hq)
     obtain ⟨y,hy⟩:∃ y,y=ol[j]:=⟨_,rfl⟩
     have HMem:Hid ((⟨k,j,y⟩:At) ∈ flatS 0 (Os.map (·.l))):=Lib.hid (mem_flatS.2 ⟨Nat.zero_le _,ol,by rw [Nat.sub_zero,List.getElem?_map,HOo.out];rfl,by rw [hy];exact List.getElem?_eq_getElem hj1⟩)
     have HFl:Hid (flatR k j (ol.drop j)=⟨k,j,y⟩ :: flatR k (j+1) (ol.drop (j+1))):=Lib.hid (by rw [flatR_at hj1,hy])
     have HNl:Hid (y.name.length<=maxLen):=Lib.hid ((HO.out.gs _ HOm.out y (by rw [hy];exact List.getElem_mem hj1)).name)
     rw [<-hy] at d0 d1 d2 d3
     clear hc2 hy hB2 hs2 HBY
     obtain ⟨yn,yb,ys,yo⟩:=y
     obtain ⟨N,hN⟩:∃ N:ByteArray,N=⟨yn.toArray⟩:=⟨_,rfl⟩
     simp only [] at d0 d1 d2 d3
     rw [<-hN] at d0
     have HNe:=Lib.hid hN
     have HRE:Hid (PreR step s0 s (flatS 0 (Os.map (·.l))) (⟨k,j,⟨yn,yb,ys,yo⟩⟩ :: (flatR k (j+1) (ol.drop (j+1)) ++ flatS (k+1) ((Os.drop (k+1)).map (·.l))))):=Lib.hid (by have:=HS.out.2.2.2.2;rw [HFl.out] at this;exact this)
     obtain ⟨P,hP⟩:∃ P,P=wy.heap.size:=⟨_,rfl⟩
     obtain ⟨A1,hA1⟩:∃ A,A=wy.alloc (.cells #[.string N,.int .i64 yb,.int .i64 ys,.int .i64 yo] 66):=⟨_,rfl⟩
     obtain ⟨A2,hA2⟩:∃ A,A=A1.alloc (.cells #[.int .i64 0,.int .i64 (k:Int),.int .i64 (j:Int)] 42):=⟨_,rfl⟩
     have hz1:A1.heap.size=P+1:=by rw [hA1,World.size_alloc,hP]
     have hb1:Below wy.heap.size wy A1:=by rw [hA1];exact lit_below wy _
     have hb2:Below A1.heap.size A1 A2:=by rw [hA2];exact lit_below A1 _
     have HBA:Hid (Below wy.heap.size wy A2):=Lib.hid (after hb1 hb2)
     have HRA:Hid (RB A2 (P+1) #[.int .i64 0,.int .i64 (k:Int),.int .i64 (j:Int)] 42):=Lib.hid (by rw [hA2,<-hz1];exact rb_new A1 _ _)
     have HRS:Hid (RB A2 P #[.string N,.int .i64 yb,.int .i64 ys,.int .i64 yo] 66):=Lib.hid (by
      have:RB A1 P #[.string N,.int .i64 yb,.int .i64 ys,.int .i64 yo] 66:=by rw [hA1,hP];exact rb_new wy _ _
      exact this.next hb2)
     obtain ⟨sp,hsp⟩:∃ sp,sp=step s ⟨k,j,⟨yn,yb,ys,yo⟩⟩:=⟨_,rfl⟩
     have HCl:Hid (Calls Tryz.prog F (#[.agg #[.int .i64 0,.int .i64 (k:Int),.int .i64 (j:Int)],.agg #[.string N,.int .i64 yb,.int .i64 ys,.int .i64 yo]] ++ caps) A2 (CbP I sp.1 sp.2 X A2)):=Lib.hid (by rw [hsp];exact HC.out s X A2 k j _ N HMem.out ⟨_,HRE.out⟩ (HEI.out.next HS.out.1 HBA.out) HNe.out HNl.out)
     have HSp:=Lib.hid hsp
     have HXP:Hid (∀ j,X j->j < P):=Lib.hid (fun j hj=>by rw [hP];exact (HEI.out.lt _ _ _ _ HS.out.1 hj).2)
     have HPH:Hid (H < P):=Lib.hid (by rw [hP];exact lt_of_block HS.out.2.2.2.1)
     have HKO:Hid (KO X0 w A2):=Lib.hid (HS.out.2.1.trans (KO.of_below (X:=X0) HBA.out) (fun j hj=>.inl hj))
     have HRH:Hid (RB A2 H #[.int .i64 0,.int .i64 0,.int .i64 0] 42):=Lib.hid (HS.out.2.2.2.1.next HBA.out)
     have HXk:Hid (∀ j,X j->X0 j\/H < j):=Lib.hid HS.out.2.2.1
     have HZA:Hid (P+2<=A2.heap.size):=Lib.hid (by rw [hA2,World.size_alloc,hz1];omega)
     have t0:A2.cell? ⟨P+1,0,none⟩=some (.int .i64 0):=HRA.out.cell
     have t1:A2.cell? ⟨P+1,1,none⟩=some (.int .i64 (k:Int)):=HRA.out.cell
     have t2:A2.cell? ⟨P+1,2,none⟩=some (.int .i64 (j:Int)):=HRA.out.cell
     rw [hA2,hA1,hP] at t0 t1 t2
     have HAE:Hid ((wy.alloc (.cells #[.string N,.int .i64 yb,.int .i64 ys,.int .i64 yo] 66)).alloc (.cells #[.int .i64 0,.int .i64 (k:Int),.int .i64 (j:Int)] 42)=A2):=Lib.hid (by rw [hA2,hA1])
     have HPE:=Lib.hid hP
     clear hP hA1 hA2 hz1 hb1 hb2 hsp hN HS HFl
     go_wp2_with fail
     rw [<-HPE.out] at*
     rw [HAE.out]
     refine HCl.out.mono ?_
     rintro e u ⟨X',rfl,hi,hko,hX⟩
     have HI2:=Lib.hid hi
     have hXP2:¬ X (P+1):=fun hx=>by have:=HXP.out _ hx;omega
     have hXH:¬ X H:=fun hx=>by
      rcases HXk.out _ hx with h | h
      ·have:=(HX0.out _ h).2;omega
      ·omega
     have HRA2:Hid (RB u (P+1) #[.int .i64 0,.int .i64 (k:Int),.int .i64 (j:Int)] 42):=Lib.hid ((hko.block _ (by have:=HZA.out;omega) hXP2).trans HRA.out)
     have HRH2:Hid (RB u H #[.int .i64 0,.int .i64 0,.int .i64 0] 42):=Lib.hid ((hko.block _ (lt_of_block HRH.out) hXH).trans HRH.out)
     have hXk2:∀ j,X j->X0 j\/w.heap.size<=j:=fun j hj=>by
      rcases HXk.out j hj with h | h
      ·exact .inl h
      ·right;rw [<-HH.out];omega
     have HKO2:Hid (KO X0 w u):=Lib.hid (HKO.out.trans hko hXk2)
     have HX2:Hid (∀ j,X' j->(X0 j\/H < j)/\j ≠ P+1):=Lib.hid (fun j hj=>by
      rcases hX j hj with h | h
      ·exact ⟨HXk.out j h,fun e=>hXP2 (e ▸ h)⟩
      ·have:=HZA.out;have:=HPH.out;exact ⟨.inr (by omega),by omega⟩)
     clear hi hko hX hXP2 hXH hXk2 t0 t1 t2
     obtain ⟨s',cd⟩:=sp
     have z0:u.cell? ⟨P+1,0,none⟩=some (.int .i64 0):=HRA2.out.cell
     have z1:u.frozen? ⟨P+1,0,none⟩=false:=HRA2.out.frozen
     simp only []
     have hR3:=HRA2.out.set (j:=0) (.int .i64 cd)
     obtain ⟨u3,hu3⟩:∃ x,x=u.setCell ⟨P+1,0,none⟩ (.int .i64 cd):=⟨_,rfl⟩
     rw [<-hu3] at hR3
     have HR3:Hid (RB u3 (P+1) #[.int .i64 cd,.int .i64 (k:Int),.int .i64 (j:Int)] 42):=Lib.hid hR3
     have HRH3:Hid (RB u3 H #[.int .i64 0,.int .i64 0,.int .i64 0] 42):=Lib.hid (by rw [hu3];exact (Below.heap_setCell _ _ _ _ (by have:=HPH.out;simp;omega)).trans HRH2.out)
     have HI3:Hid (I s' X' u3):=Lib.hid (by rw [hu3];exact HEI.out.keep _ _ _ _ HI2.out (by simp [World.setCell]) (fun j hj=>Below.heap_setCell _ _ _ _ (by simpa using (HX2.out j hj).2)))
     have HKO3:Hid (KO X0 w u3):=Lib.hid (by
      rw [hu3]
      refine ⟨HKO2.out.os,HKO2.out.tape,HKO2.out.output,Nat.le_trans HKO2.out.size (by simp [World.setCell]),fun j hj hn=>?_⟩
      rw [Below.heap_setCell _ _ _ _ (by have:=HPH.out;have:=HH.out;simp;omega)]
      exact HKO2.out.block j hj hn)
     have y0:u3.cell? ⟨P+1,0,none⟩=some (.int .i64 cd):=HR3.out.cell
     have y1:u3.cell? ⟨P+1,1,none⟩=some (.int .i64 (k:Int)):=HR3.out.cell
     have y2:u3.cell? ⟨P+1,2,none⟩=some (.int .i64 (j:Int)):=HR3.out.cell
     have HU3:=Lib.hid hu3
     rw [hu3] at y0 y1 y2
     by_cases hcd:cd=0
     ·have t0:(cd != 0)=false:=by simp [hcd]
      have HCd:=Lib.hid hcd
      clear hR3 hu3 hcd
      go_wp2
      rw [<-HU3.out]
      go_roundw
      case rel=>
       refine ⟨j+1,_,s',X',rfl,by omega,by go_num,Lib.hid ⟨HI3.out,HKO3.out,fun q hq=>(HX2.out q hq).1,HRH3.out,?_⟩⟩
       have:=HRE.out.step (by rw [<-HSp.out];exact HCd.out)
       rwa [<-HSp.out] at this
      case measure=>simp [intOf];omega
     ·have t0:(cd != 0)=true:=by simp [hcd]
      have HCd:=Lib.hid hcd
      have f0:u3.frozen? ⟨H,0,none⟩=false:=HRH3.out.frozen
      have f1:u3.frozen? ⟨H,1,none⟩=false:=HRH3.out.frozen
      have f2:u3.frozen? ⟨H,2,none⟩=false:=HRH3.out.frozen
      have x0:u3.cell? ⟨H,0,none⟩=some (.int .i64 0):=HRH3.out.cell
      have x1:u3.cell? ⟨H,1,none⟩=some (.int .i64 0):=HRH3.out.cell
      have x2:u3.cell? ⟨H,2,none⟩=some (.int .i64 0):=HRH3.out.cell
      have HR4:=Lib.hid (((HRH3.out.set (j:=0) (.int .i64 cd)).set (j:=1) (.int .i64 (k:Int))).set (j:=2) (.int .i64 (j:Int)))
      rw [hu3] at f0 f1 f2 x0 x1 x2
      clear hR3 hu3 hcd
      go_wp2
      rw [<-HU3.out]
      refine bodyPost_ret (results_cell_row (P:=Tryz.prog) rfl _ _ H 42 _ (0,0) _ rfl HR4.out Tryz.underlying42 rfl (by kernel_rfl)) rfl ?_
      refine ⟨X',by rw [HRE.out.stop (by rw [<-HSp.out];exact HCd.out),<-HSp.out];rfl,?_,HKO3.out.set3 (by rw [HH.out];exact Nat.le_refl _) _ _ _,fun q hq=>?_⟩
      ·rw [HRE.out.stop (by rw [<-HSp.out];exact HCd.out),<-HSp.out]
       exact HEI.out.set3 HI3.out (fun hx=>by
        rcases (HX2.out _ hx).1 with h | h
        ·have:=(HX0.out _ h).2;omega
        ·omega) _ _ _
      ·rcases (HX2.out q hq).1 with h | h
       ·exact .inl h
       ·right;rw [<-HH.out];omega
    ·have hltji:¬ (j:Int) < (m:Int):=by omega
     have HRE:Hid (PreR step s0 s (flatS 0 (Os.map (·.l))) (flatS (k+1) ((Os.drop (k+1)).map (·.l)))):=Lib.hid (by
      have:=HS.out.2.2.2.2
      rw [List.drop_eq_nil_of_le (by have:=HM.out;omega)] at this
      exact this)
     go_wp2
     go_roundw
     case rel=>exact ⟨k+1,_,s,X,rfl,by omega,by go_num,Lib.hid ⟨HS.out.1,HS.out.2.1,HS.out.2.2.1,HS.out.2.2.2.1,HRE.out⟩⟩
     case measure=>simp [intOf];omega
  ·have hlti:¬ (k:Int) < (n:Int):=by omega
   have HRE:Hid (runE step s0 (flatS 0 (Os.map (·.l)))=(s,flZ)):=Lib.hid (by
    have:=HS.out.2.2.2.2
    rw [List.drop_eq_nil_of_le (by have:=HLn.out;omega)] at this
    exact PreR.done this)
   have HRH3:Hid (RB wx H #[.int .i64 0,.int .i64 0,.int .i64 0] 42):=Lib.hid HS.out.2.2.2.1
   have f0:wx.frozen? ⟨H,0,none⟩=false:=HRH3.out.frozen
   have f1:wx.frozen? ⟨H,1,none⟩=false:=HRH3.out.frozen
   have f2:wx.frozen? ⟨H,2,none⟩=false:=HRH3.out.frozen
   have x0:wx.cell? ⟨H,0,none⟩=some (.int .i64 0):=HRH3.out.cell
   have x1:wx.cell? ⟨H,1,none⟩=some (.int .i64 0):=HRH3.out.cell
   have x2:wx.cell? ⟨H,2,none⟩=some (.int .i64 0):=HRH3.out.cell
   have HR4:=Lib.hid (((HRH3.out.set (j:=0) (.int .i64 0)).set (j:=1) (.int .i64 0)).set (j:=2) (.int .i64 0))
   go_wp2
   refine bodyPost_ret (results_cell_row (P:=Tryz.prog) rfl _ _ H 42 _ (0,0) _ rfl HR4.out Tryz.underlying42 rfl (by kernel_rfl)) rfl ?_
   refine ⟨X,by rw [HRE.out];rfl,?_,HS.out.2.1.set3 (by rw [HH.out];exact Nat.le_refl _) _ _ _,fun q hq=>?_⟩
   ·rw [HRE.out]
    exact HEI.out.set3 HS.out.1 (fun hx=>by
     rcases HS.out.2.2.1 _ hx with h | h
     ·have:=(HX0.out _ h).2;omega
     ·omega) _ _ _
   ·rcases HS.out.2.2.1 q hq with h | h
    ·exact .inl h
    ·right;rw [<-HH.out];omega
open Go.ChangeShapes Go.WideShapes Go.Deep Go.RowKit
abbrev FN:=List UInt8->Option Pl
def setF (F:FN) (nm:List UInt8) (p:Pl):FN:=fun x=>if x=nm then some p else F x
def stepF (b:Int) (F:FN) (a:At):FN × Int:=(if F a.y.name=none/\a.y.bind=b/\a.y.sec ≠ -1 then setF F a.y.name (plOf a) else F,0)
theorem runE_first (b:Int):∀ (l:List At) (F:FN),(runE (stepF b) F l).2=flZ/\∀ nm,(runE (stepF b) F l).1 nm=(F nm).or (fstP b nm l)
 | [],F=>⟨rfl,fun nm=>by show F nm=_;unfold fstP;simp⟩
 | a :: t,F=>by
  rw [runE_cons rfl]
  obtain ⟨h1,h2⟩:=runE_first b t (stepF b F a).1
  refine ⟨h1,fun nm=>?_⟩
  rw [h2]
  unfold stepF fstP
  simp only [List.find?_cons]
  by_cases hh:hitB b nm a=true
  ·rw [hh]
   obtain ⟨e1,e2,e3⟩:=hit_iff.1 hh
   subst e1
   cases hF:F a.y.name with
   | none=>
    rw [if_pos ⟨rfl,e2,e3⟩]
    simp [setF]
   | some p=>
    rw [if_neg (by simp),hF];rfl
  ·simp only [Bool.not_eq_true] at hh
   rw [hh]
   split
   ·rename_i c
    unfold setF
    by_cases e:nm=a.y.name
    ·exfalso
     rw [hit_iff.2 ⟨e.symm,c.2.1,c.2.2⟩] at hh;cases hh
    ·rw [if_neg e]
   ·rfl
theorem runE_first0 (b:Int) (l:List At):(runE (stepF b) (fun _=>none) l).2=flZ/\(runE (stepF b) (fun _=>none) l).1=fun nm=>fstP b nm l:=by
 obtain ⟨h1,h2⟩:=runE_first b l (fun _=>none)
 exact ⟨h1,funext fun nm=>by rw [h2];rfl⟩
def stepO (F:FN) (_:Unit) (a:At):Unit × Int:=((),if twiceB F a=true then 7 else 0)
theorem runE_once (F:FN):∀ l:List At,(runE (stepO F) () l).2=fltAt 7 (l.find? (twiceB F))
 | []=>rfl
 | a :: t=>by
  by_cases h:twiceB F a=true
  ·rw [runE_stop (by simp [stepO,h]),List.find?_cons_of_pos h]
   unfold stepO;rw [if_pos h];rfl
  ·rw [runE_cons (by unfold stepO;rw [if_neg h]),List.find?_cons_of_neg h]
   exact runE_once F t
def stepR (F:FN) (R:List (List Pl)) (a:At):List (List Pl) × Int:=if lostB F a=true then (R,6) else (R.modify a.k (· ++ [placeA F a.k a.y]),0)
theorem runE_lost (F:FN):∀ (l:List At) (R:List (List Pl)),(runE (stepR F) R l).2=fltAt 6 (l.find? (lostB F))
 | [],R=>rfl
 | a :: t,R=>by
  by_cases h:lostB F a=true
  ·rw [runE_stop (by simp [stepR,h]),List.find?_cons_of_pos h]
   unfold stepR;rw [if_pos h];rfl
  ·rw [runE_cons (by unfold stepR;rw [if_neg h]),List.find?_cons_of_neg h]
   exact runE_lost F t _
theorem modify_mid {α:Type} (f:α->α) (P Q:List α) (c:α):(P ++ c :: Q).modify P.length f=P ++ f c :: Q:=by
 induction P with
 | nil=>rfl
 | cons x t ih=>simp [List.modify_succ_cons,ih]
theorem runE_rowR (F:FN) (k:Nat) (P Q:List (List Pl)) (hP:P.length=k):∀ (x:List Sy) (j:Nat) (cur:List Pl) (rest:List At),(∀ a ∈ flatR k j x,lostB F a=false)->runE (stepR F) (P ++ cur :: Q) (flatR k j x ++ rest)=runE (stepR F) (P ++ (cur ++ x.map (placeA F k)) :: Q) rest
 | [],j,cur,rest,_=>by simp [flatR]
 | y :: t,j,cur,rest,h=>by
  have h0:=h ⟨k,j,y⟩ (List.mem_cons_self ..)
  have e:stepR F (P ++ cur :: Q) ⟨k,j,y⟩=(P ++ (cur ++ [placeA F k y]) :: Q,0):=by
   unfold stepR
   rw [if_neg (by rw [h0];simp)]
   show (List.modify _ k _,_)=_
   rw [<-hP,modify_mid]
  show runE (stepR F) _ (⟨k,j,y⟩ :: (flatR k (j+1) t ++ rest))=_
  rw [runE_cons (by rw [e]),e,runE_rowR F k P Q hP t (j+1) _ rest (fun a ha=>h a (List.mem_cons_of_mem _ ha))]
  simp
theorem runE_rows (F:FN):∀ (l:List (List Sy)) (k:Nat) (P:List (List Pl)),P.length=k->(∀ a ∈ flatS k l,lostB F a=false)->(runE (stepR F) (P ++ List.replicate l.length []) (flatS k l)).1=P ++ rowsA F k l
 | [],k,P,_,_=>by simp [flatS,rowsA,runE]
 | x :: t,k,P,hP,h=>by
  show (runE (stepR F) (P ++ List.replicate (t.length+1) []) (flatR k 0 x ++ flatS (k+1) t)).1=_
  rw [List.replicate_succ,runE_rowR F k P _ hP x 0 [] _ (fun a ha=>h a (List.mem_append_left _ ha)),List.nil_append,
   show P ++ (x.map (placeA F k)) :: List.replicate t.length []=(P ++ [x.map (placeA F k)]) ++ List.replicate t.length [] by simp,
   runE_rows F t (k+1) _ (by simp [hP]) (fun a ha=>h a (List.mem_append_right _ ha))]
  simp [rowsA]
theorem runE_rows0 (F:FN) (l:List (List Sy)) (h:(flatS 0 l).find? (lostB F)=none):(runE (stepR F) (List.replicate l.length []) (flatS 0 l)).1=rowsA F 0 l:=by
 have:=runE_rows F l 0 [] rfl (fun a ha=>by simpa using List.find?_eq_none.1 h a ha)
 simpa using this
open Go.ChangeShapes Go.WideShapes Go.Deep Go.RowKit
def IF (B M c d:Nat) (b:Int) (F:FN) (X:Nat->Prop) (u:World):Prop:=
 X=(fun j=>j=M\/j=c\/j=d)/\FM u M F/\RB u c #[.map (some M)] 99/\RB u d #[.int .i64 b] 3/\B<=M/\B<=c/\B<=d/\c ≠ M/\d ≠ M
theorem ei_if (B M c d:Nat) (b:Int):EI (IF B M c d b) B:=by
 constructor
 ·rintro F X u u' ⟨rfl,h1,h2,h3,h4⟩ hs hk
  exact ⟨rfl,h1.same (hk M (.inl rfl)),(hk c (.inr (.inl rfl))).trans h2,(hk d (.inr (.inr rfl))).trans h3,h4⟩
 ·rintro F X u j ⟨rfl,h1,h2,h3,h4,h5,h6,h7,h8⟩ hj
  rcases hj with rfl | rfl | rfl
  ·exact ⟨h4,h1.lt⟩
  ·exact ⟨h5,lt_of_block h2⟩
  ·exact ⟨h6,lt_of_block h3⟩
theorem below_ko {X:Nat->Prop} {M:Nat} {u a b:World} (hX:X M) (h:Below u.heap.size u a) (hg:a.grownBy b (some M)):KO X u b:=
 ⟨hg.os.trans h.os,hg.tape.trans h.tape,hg.output.trans h.output,Nat.le_trans h.size hg.size,fun j hj hn=>(hg.block j (Nat.lt_of_lt_of_le hj h.size) (fun e=>hn (by cases e;exact hX))).trans (h.block j hj)⟩
theorem firsts1_any (B M c d:Nat) (b:Int) (F:FN) (X:Nat->Prop) (k j:Nat) (y:Sy) (N:ByteArray) (u:World) (h:IF B M c d b F X u) (hN:N=⟨y.name.toArray⟩) (hl:y.name.length<=maxLen):
  Calls Tryz.prog 107 #[fltV0 k j,syVa N y,.pointer (some ⟨c,0,none⟩),.pointer (some ⟨d,0,none⟩)] u (CbP (IF B M c d b) (stepF b F ⟨k,j,y⟩).1 (stepF b F ⟨k,j,y⟩).2 X u):=by
 have hI:=ei_if B M c d b
 have hNl:N.data.toList=y.name:=by rw [hN]
 have hNs:N.size<=maxLen:=by rw [hN];show y.name.toArray.size<=_;simpa using hl
 obtain ⟨yn,yb,ys,yo⟩:=y
 simp only at hNl hN hl
 obtain ⟨P,hP⟩:∃ P,P=u.heap.size:=⟨_,rfl⟩
 obtain ⟨A1,hA1⟩:∃ A,A=u.alloc (.cells #[.int .i64 0,.int .i64 (k:Int),.int .i64 (j:Int)] 42):=⟨_,rfl⟩
 obtain ⟨A2,hA2⟩:∃ A,A=A1.alloc (.cells #[.string N,.int .i64 yb,.int .i64 ys,.int .i64 yo] 66):=⟨_,rfl⟩
 have hz1:A1.heap.size=P+1:=by rw [hA1,World.size_alloc,hP]
 have hz2:A2.heap.size=P+1+1:=by rw [hA2,World.size_alloc,hz1]
 have hb1:Below u.heap.size u A1:=by rw [hA1];exact lit_below u _
 have hb2:Below A1.heap.size A1 A2:=by rw [hA2];exact lit_below A1 _
 have hba:=after hb1 hb2
 have hra:RB A2 P #[.int .i64 0,.int .i64 (k:Int),.int .i64 (j:Int)] 42:=by
  have:RB A1 P #[.int .i64 0,.int .i64 (k:Int),.int .i64 (j:Int)] 42:=by rw [hA1,hP];exact rb_new u _ _
  exact this.next hb2
 have hrs:RB A2 (P+1) #[.string N,.int .i64 yb,.int .i64 ys,.int .i64 yo] 66:=by rw [hA2,<-hz1];exact rb_new A1 _ _
 obtain ⟨hXe,hf2,hc2,hd2,hB4⟩:=hI.next h hba
 obtain ⟨v,hv⟩:∃ v,v=(F N.data.toList).getD plZ:=⟨_,rfl⟩
 obtain ⟨is,his⟩:∃ is,is=(F N.data.toList).isSome:=⟨_,rfl⟩
 have hlk:=fm_look hf2 hNs
 rw [<-hv,<-his] at hlk
 unfold plV at hlk
 obtain ⟨vo,vs,vf⟩:=v
 simp only at hlk
 obtain ⟨A3,hA3⟩:∃ A,A=A2.alloc (.cells #[.int .i64 vo,.int .i64 vs,.int .i64 vf] 46):=⟨_,rfl⟩
 have hb3:Below A2.heap.size A2 A3:=by rw [hA3];exact lit_below A2 _
 have HB3:=Lib.hid (after hba hb3)
 have HI3:=Lib.hid (hI.next (hI.next h hba) hb3)
 have HX3:Hid (X M):=Lib.hid (by rw [hXe];exact .inl rfl)
 have g0:A2.cell? ⟨c,0,none⟩=some (.map (some M)):=hc2.cell
 have g1:A2.cell? ⟨P+1,0,none⟩=some (.string N):=hrs.cell
 have s0:A3.cell? ⟨c,0,none⟩=some (.map (some M)):=(hc2.next hb3).cell
 have s1:A3.cell? ⟨d,0,none⟩=some (.int .i64 b):=(hd2.next hb3).cell
 have q0:A3.cell? ⟨P+1,0,none⟩=some (.string N):=(hrs.next hb3).cell
 have q1:A3.cell? ⟨P+1,1,none⟩=some (.int .i64 yb):=(hrs.next hb3).cell
 have q2:A3.cell? ⟨P+1,2,none⟩=some (.int .i64 ys):=(hrs.next hb3).cell
 have q3:A3.cell? ⟨P+1,3,none⟩=some (.int .i64 yo):=(hrs.next hb3).cell
 have r1:A3.cell? ⟨P,1,none⟩=some (.int .i64 (k:Int)):=(hra.next hb3).cell
 have HNs:=Lib.hid hNs
 have HNl:=Lib.hid hNl
 rw [hA3,hA2,hA1] at s0 s1 q0 q1 q2 q3 r1
 rw [hP] at q0 q1 q2 q3 r1
 rw [hA2,hA1] at g0 g1
 rw [hP] at g1
 rw [hA2,hA1] at hlk
 have HAE:Hid (((u.alloc (.cells #[.int .i64 0,.int .i64 (k:Int),.int .i64 (j:Int)] 42)).alloc (.cells #[.string N,.int .i64 yb,.int .i64 ys,.int .i64 yo] 66)).alloc (.cells #[.int .i64 vo,.int .i64 vs,.int .i64 vf] 46)=A3):=Lib.hid (by rw [hA3,hA2,hA1])
 have HF:Hid (F yn=none ↔ is=false):=Lib.hid (by rw [his,hNl];cases F yn <;> simp)
 clear hXe hf2 hc2 hd2 hB4 hA1 hA2 hA3 hz1 hz2 hb1 hb2 hb3 hba hra hrs hP hN hl hNl hNs hv his h
 cases is
 ·by_cases e1:yb=b
  ·have t1:(yb == b)=true:=by simp [e1]
   by_cases e2:ys = -1
   ·have t2:(ys != -1)=false:=by simp [e2]
    have HS:Hid (stepF b F ⟨k,j,⟨yn,yb,ys,yo⟩⟩=(F,0)):=Lib.hid (by unfold stepF;rw [if_neg (fun hh=>hh.2.2 e2)])
    clear e1 e2
    go_enter Tryz.func107,Tryz.ntmps107
    go_wp2
    rw [HAE.out]
    go_ret
    exact ⟨X,by rw [HS.out];rfl,by rw [HS.out];exact HI3.out,KO.of_below HB3.out,fun j hj=>.inl hj⟩
   ·have t2:(ys != -1)=true:=by simp [e2]
    have HS:Hid (stepF b F ⟨k,j,⟨yn,yb,ys,yo⟩⟩=(setF F yn ⟨(k:Int),ys,yo⟩,0)):=Lib.hid (by unfold stepF;rw [if_pos ⟨HF.out.2 rfl,e1,e2⟩];rfl)
    obtain ⟨w',hput,hfm,hgr⟩:=fm_put HI3.out.2.1 N ⟨(k:Int),ys,yo⟩ HNs.out (by rw [HNl.out];exact HF.out.2 rfl)
    rw [HNl.out] at hfm
    have HFM:=Lib.hid hfm
    have HGR:=Lib.hid hgr
    unfold plV at hput
    simp only at hput
    rw [<-HAE.out] at hput
    clear e1 e2 hfm hgr
    go_enter Tryz.func107,Tryz.ntmps107
    go_wp2
    go_ret
    have hko:=below_ko HX3.out HB3.out HGR.out
    refine ⟨X,by rw [HS.out];rfl,?_,hko,fun j hj=>.inl hj⟩
    rw [HS.out]
    obtain ⟨h1,h2,h3,h4,h5,h6,h7,h8,h9⟩:=HI3.out
    exact ⟨h1,HFM.out,(HGR.out.block c (lt_of_block h3) (fun e=>h8 (by cases e;rfl))).trans h3,(HGR.out.block d (lt_of_block h4) (fun e=>h9 (by cases e;rfl))).trans h4,h5,h6,h7,h8,h9⟩
  ·have t1:(yb == b)=false:=by simp [e1]
   have HS:Hid (stepF b F ⟨k,j,⟨yn,yb,ys,yo⟩⟩=(F,0)):=Lib.hid (by unfold stepF;rw [if_neg (fun hh=>e1 hh.2.1)])
   clear e1
   go_enter Tryz.func107,Tryz.ntmps107
   go_wp2
   rw [HAE.out]
   go_ret
   exact ⟨X,by rw [HS.out];rfl,by rw [HS.out];exact HI3.out,KO.of_below HB3.out,fun j hj=>.inl hj⟩
 ·have HS:Hid (stepF b F ⟨k,j,⟨yn,yb,ys,yo⟩⟩=(F,0)):=Lib.hid (by unfold stepF;rw [if_neg (fun hh=>by have:=HF.out.1 hh.1;cases this)])
  go_enter Tryz.func107,Tryz.ntmps107
  go_wp2
  rw [HAE.out]
  go_ret
  exact ⟨X,by rw [HS.out];rfl,by rw [HS.out];exact HI3.out,KO.of_below HB3.out,fun j hj=>.inl hj⟩
end Go.Proofs.YthkolmebokfagaaGreatDoor
