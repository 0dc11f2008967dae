/- Small things that sym's texts share. The document's objects, plain: what is right, told place by place. The document's symbol of an object. -/
import Derived.Test.YthkolmebokfagaaGreatDoorqI
import Derived.Laws.IdiomRangeMap
import Derived.Laws.EntriesVeiled
import Derived.Deep.AppendLies
import Derived.Test.YthkolmebokfagaaGreatDoorn4
set_option maxRecDepth 100000
set_option maxHeartbeats 4000000
set_option linter.unusedVariables false
set_option linter.unusedSimpArgs false
namespace Go.Proofs.YthkolmebokfagaaGreatDoor
open Go.RowKit
open Go.ChangeShapes Go.WideShapes Go.Deep Go.RowKit
theorem rb_new (w:World) (A:Array Value) (T:TypeId):RB (w.alloc (.cells A T)) w.heap.size A T:=(MapKept.heap_alloc w _).1
theorem lit_below (u:World) (o:Obj):Below u.heap.size u (u.alloc o):=(Below.refl _ _).alloc (Nat.le_refl _) _
end Go.Proofs.YthkolmebokfagaaGreatDoor
namespace Go.Proofs.YthkolmebokfagaaGreatDoor
open Go.ChangeShapes Go.WideShapes Go.Deep Go.RowKit
def SecAt (k:Int) (l:List Sc) (i:Nat):Prop:=∃ s,l[i]?=some s/\secR s=true/\(∀ (j:Nat) (t:Sc),j < i->l[j]?=some t->t.name ≠ s.name)/\∀ r ∈ s.rels,r.sym < k
theorem secsR_iff (k:Int):∀ (l:List Sc) (seen:List (List UInt8)),secsR k seen l=true ↔ ∀ (i:Nat) (s:Sc),l[i]?=some s->s.name ∉ seen/\secR s=true/\(∀ (j:Nat) (t:Sc),j < i->l[j]?=some t->t.name ≠ s.name)/\∀ r ∈ s.rels,r.sym < k
 | [],seen=>by simp [secsR]
 | s :: t,seen=>by
  unfold secsR
  constructor
  ·intro h
   split at h
   ·cases h
   ·rename_i h1
    split at h
    ·cases h
    ·rename_i h2
     have h3:=(secsR_iff k t (seen ++ [s.name])).1 h
     have h1a:s.name ∉ seen:=fun e=>h1 (.inl e)
     have h1b:secR s=true:=by cases hs:secR s;exact absurd (.inr hs) h1;rfl
     intro i x hx
     cases i with
     | zero=>
      simp only [List.getElem?_cons_zero,Option.some.injEq] at hx
      subst hx
      refine ⟨h1a,h1b,fun j _ hj=>absurd hj (by omega),fun r hr=>?_⟩
      apply Classical.byContradiction
      intro hc
      exact h2 (List.any_eq_true.2 ⟨r,hr,decide_eq_true (by omega)⟩)
     | succ i=>
      rw [List.getElem?_cons_succ] at hx
      obtain ⟨g1,g2,g3,g4⟩:=h3 i x hx
      refine ⟨fun e=>g1 (List.mem_append.2 (.inl e)),g2,fun j y hj hy=>?_,g4⟩
      cases j with
      | zero=>
       simp only [List.getElem?_cons_zero,Option.some.injEq] at hy
       subst hy
       exact fun e=>g1 (List.mem_append.2 (.inr (by rw [e];simp)))
      | succ j=>exact g3 j y (by omega) (by rwa [List.getElem?_cons_succ] at hy)
  ·intro h
   obtain ⟨a1,a2,-,a4⟩:=h 0 s rfl
   rw [if_neg (by rintro (e | e);exact a1 e;rw [a2] at e;cases e),if_neg (by
    intro e
    obtain ⟨r,hr,hd⟩:=List.any_eq_true.1 e
    have:=a4 r hr
    have:=of_decide_eq_true hd
    omega)]
   refine (secsR_iff k t (seen ++ [s.name])).2 fun i x hx=>?_
   obtain ⟨g1,g2,g3,g4⟩:=h (i+1) x (by rwa [List.getElem?_cons_succ])
   refine ⟨fun e=>?_,g2,fun j y hj hy=>g3 (j+1) y (by omega) (by rwa [List.getElem?_cons_succ]),g4⟩
   rcases List.mem_append.1 e with e | e
   ·exact g1 e
   ·rw [List.mem_singleton] at e
    exact g3 0 s (by omega) rfl e.symm
theorem secsL_iff (k:Int) (l:List Sc):secsL l k=true ↔ l.length<=32/\∀ i,i < l.length->SecAt k l i:=by
 unfold secsL
 rw [Bool.and_eq_true,decide_eq_true_eq,secsR_iff]
 refine and_congr_right fun _=>⟨fun h i hi=>?_,fun h i s hs=>?_⟩
 ·obtain ⟨-,h2,h3,h4⟩:=h i l[i] (List.getElem?_eq_getElem hi)
  exact ⟨l[i],List.getElem?_eq_getElem hi,h2,h3,h4⟩
 ·obtain ⟨s',h1,h2,h3,h4⟩:=h i (List.getElem?_eq_some_iff.1 hs).1
  rw [hs] at h1;cases h1
  exact ⟨by simp,h2,h3,h4⟩
def SymAt (secs:List Sc) (l:List Sy) (i:Nat):Prop:=∃ s,l[i]?=some s/\standsL s secs=true/\(s.name=[]->s.bind=1)/\(s.name ≠ []->isNmL s.name=true/\∀ (j:Nat) (t:Sy),j < i->l[j]?=some t->t.name ≠ s.name)
theorem isNmL_nil:isNmL []=false:=by decide +kernel
theorem symsR_iff (secs:List Sc):∀ (l:List Sy) (seen:List (List UInt8)),symsR secs seen l=true ↔ ∀ (i:Nat) (s:Sy),l[i]?=some s->standsL s secs=true/\(s.name=[]->s.bind=1)/\(s.name ≠ []->s.name ∉ seen/\isNmL s.name=true/\∀ (j:Nat) (t:Sy),j < i->l[j]?=some t->t.name ≠ s.name)
 | [],seen=>by simp [symsR]
 | s :: t,seen=>by
  unfold symsR
  constructor
  ·intro h
   split at h
   ·cases h
   ·rename_i h1
    have hst:standsL s secs=true:=by simpa using h1
    split at h
    ·rename_i h2
     have h3:=(symsR_iff secs t seen).1 h
     intro i x hx
     cases i with
     | zero=>
      simp only [List.getElem?_cons_zero,Option.some.injEq] at hx
      subst hx
      exact ⟨hst,fun _=>h2.2,fun e=>absurd h2.1 e⟩
     | succ i=>
      rw [List.getElem?_cons_succ] at hx
      obtain ⟨g1,g2,g3⟩:=h3 i x hx
      refine ⟨g1,g2,fun e=>?_⟩
      obtain ⟨k1,k2,k3⟩:=g3 e
      refine ⟨k1,k2,fun j y hj hy=>?_⟩
      cases j with
      | zero=>
       simp only [List.getElem?_cons_zero,Option.some.injEq] at hy
       subst hy
       rw [h2.1];exact fun e2=>e e2.symm
      | succ j=>exact k3 j y (by omega) (by rwa [List.getElem?_cons_succ] at hy)
    ·rename_i h2
     split at h
     ·cases h
     ·rename_i h4
      have h3:=(symsR_iff secs t (seen ++ [s.name])).1 h
      have hnm:isNmL s.name=true:=by cases hh:isNmL s.name;exact absurd (.inr hh) h4;rfl
      have hne:s.name ≠ []:=fun e=>by rw [e,isNmL_nil] at hnm;cases hnm
      intro i x hx
      cases i with
      | zero=>
       simp only [List.getElem?_cons_zero,Option.some.injEq] at hx
       subst hx
       exact ⟨hst,fun e=>absurd e hne,fun _=>⟨fun e=>h4 (.inl e),hnm,fun j _ hj=>absurd hj (by omega)⟩⟩
      | succ i=>
       rw [List.getElem?_cons_succ] at hx
       obtain ⟨g1,g2,g3⟩:=h3 i x hx
       refine ⟨g1,g2,fun e=>?_⟩
       obtain ⟨k1,k2,k3⟩:=g3 e
       refine ⟨fun e2=>k1 (List.mem_append.2 (.inl e2)),k2,fun j y hj hy=>?_⟩
       cases j with
       | zero=>
        simp only [List.getElem?_cons_zero,Option.some.injEq] at hy
        subst hy
        exact fun e2=>k1 (List.mem_append.2 (.inr (by rw [e2];simp)))
       | succ j=>exact k3 j y (by omega) (by rwa [List.getElem?_cons_succ] at hy)
  ·intro h
   obtain ⟨a1,a2,a3⟩:=h 0 s rfl
   rw [if_neg (by rw [a1];decide)]
   by_cases hn:s.name=[]
   ·rw [if_pos ⟨hn,a2 hn⟩]
    refine (symsR_iff secs t seen).2 fun i x hx=>?_
    obtain ⟨g1,g2,g3⟩:=h (i+1) x (by rwa [List.getElem?_cons_succ])
    exact ⟨g1,g2,fun e=>⟨(g3 e).1,(g3 e).2.1,fun j y hj hy=>(g3 e).2.2 (j+1) y (by omega) (by rwa [List.getElem?_cons_succ])⟩⟩
   ·obtain ⟨b1,b2,-⟩:=a3 hn
    rw [if_neg (fun e=>hn e.1),if_neg (by rintro (e | e);exact b1 e;rw [b2] at e;cases e)]
    refine (symsR_iff secs t (seen ++ [s.name])).2 fun i x hx=>?_
    obtain ⟨g1,g2,g3⟩:=h (i+1) x (by rwa [List.getElem?_cons_succ])
    refine ⟨g1,g2,fun e=>⟨fun e2=>?_,(g3 e).2.1,fun j y hj hy=>(g3 e).2.2 (j+1) y (by omega) (by rwa [List.getElem?_cons_succ])⟩⟩
    rcases List.mem_append.1 e2 with e2 | e2
    ·exact (g3 e).1 e2
    ·rw [List.mem_singleton] at e2
     exact (g3 e).2.2 0 s (by omega) rfl e2.symm
theorem symsL_iff (l:List Sy) (secs:List Sc):symsL l secs=true ↔ l.length<=128/\∀ i,i < l.length->SymAt secs l i:=by
 unfold symsL
 rw [Bool.and_eq_true,decide_eq_true_eq,symsR_iff]
 refine and_congr_right fun _=>⟨fun h i hi=>?_,fun h i s hs=>?_⟩
 ·obtain ⟨h1,h2,h3⟩:=h i l[i] (List.getElem?_eq_getElem hi)
  exact ⟨l[i],List.getElem?_eq_getElem hi,h1,h2,fun e=>(h3 e).2⟩
 ·obtain ⟨s',h1,h2,h3,h4⟩:=h i (List.getElem?_eq_some_iff.1 hs).1
  rw [hs] at h1;cases h1
  exact ⟨h2,h3,fun e=>⟨by simp,h4 e⟩⟩
theorem isO_iff (o:Ob):isO o=true ↔ (o.secs.length<=32/\∀ i,i < o.secs.length->SecAt (o.syms.length:Nat) o.secs i)/\o.syms.length<=128/\∀ i,i < o.syms.length->SymAt o.secs o.syms i:=by
 unfold isO
 rw [Bool.and_eq_true,secsL_iff,symsL_iff]
end Go.Proofs.YthkolmebokfagaaGreatDoor
namespace Go.Proofs.YthkolmebokfagaaGreatDoor
open Go.ChangeShapes Go.WideShapes Go.Deep Go.RowKit
def rSyB (secs:List Sc) (l:List Sy) (k:Nat):Bool:=match l[k]? with
 | some s=>standsL s secs && (if s.name=[] then decide (s.bind=1) else isNmL s.name && (l.take k).all fun t=>decide (t.name ≠ s.name))
 | none=>false
theorem rSyB_iff (secs:List Sc) (l:List Sy) (k:Nat):rSyB secs l k=true ↔ SymAt secs l k:=by
 unfold rSyB SymAt
 cases h:l[k]? with
 | none=>simp
 | some s=>
  simp only [Option.some.injEq,Bool.and_eq_true]
  constructor
  ·rintro ⟨h1,h2⟩
   refine ⟨s,rfl,h1,fun e=>by rw [if_pos e] at h2;exact of_decide_eq_true h2,fun e=>?_⟩
   rw [if_neg e,Bool.and_eq_true,List.all_eq_true] at h2
   refine ⟨h2.1,fun j t hj ht=>?_⟩
   have:=h2.2 t (List.mem_of_getElem? (i:=j) (by rw [List.getElem?_take,if_pos hj];exact ht))
   exact of_decide_eq_true this
  ·rintro ⟨s',rfl,h1,h2,h3⟩
   refine ⟨h1,?_⟩
   by_cases e:s.name=[]
   ·rw [if_pos e];exact decide_eq_true (h2 e)
   ·rw [if_neg e,Bool.and_eq_true,List.all_eq_true]
    refine ⟨(h3 e).1,fun t ht=>?_⟩
    obtain ⟨j,hj⟩:=List.getElem?_of_mem ht
    rw [List.getElem?_take] at hj
    split at hj
    ·rename_i hlt
     exact decide_eq_true ((h3 e).2 j t hlt hj)
    ·cases hj
theorem rsym_1 (a:Option Addr) (n c:Nat) (L:List Ms) (a2:Option Addr) (n2 c2:Nat) (l:List Sy) (hn:n<=1000000) (hn2:n2<=1000000) (w:World) (hs:SL msC 6 w w.heap.size a n L) (hs2:SL syC 4 w w.heap.size a2 n2 l) (k:Nat) (N:ByteArray) (bi se of:Int) (hk:l[k]?=some ⟨N.data.toList,bi,se,of⟩) (h1:bi < 1):Calls Tryz.prog 51 #[.agg #[.slice a n c,.slice a2 n2 c2],.int .i64 (k:Int)] w (RetB (.bool false) w):=by
 have hkl:k < l.length:=(List.getElem?_eq_some_iff.1 hk).1
 have hkn:k < n2:=by have:=hs2.len;omega
 have hki:(k:Int) < (n2:Int):=by omega
 have hkg:l[k]=⟨N.data.toList,bi,se,of⟩:=by have:=List.getElem?_eq_getElem hkl;rw [hk] at this;exact (Option.some.inj this).symm
 have HW1:Hid (Below w.heap.size w (w.alloc (.cells #[.slice a n c,.slice a2 n2 c2] 25))):=Lib.hid (lit_below w _)
 have hX:RB (w.alloc (.cells #[.slice a n c,.slice a2 n2 c2] 25)) w.heap.size #[.slice a n c,.slice a2 n2 c2] 25:=rb_new w _ _
 have x0:(w.alloc (.cells #[.slice a n c,.slice a2 n2 c2] 25)).cell? ⟨w.heap.size,0,none⟩=some (.slice a n c):=hX.cell
 have x1:(w.alloc (.cells #[.slice a n c,.slice a2 n2 c2] 25)).cell? ⟨w.heap.size,1,none⟩=some (.slice a2 n2 c2):=hX.cell
 obtain ⟨b2,off2,rfl,-,hc2⟩:=(hs2.next HW1.out).cells (hs2.ne hkn)
 obtain ⟨d0,d1,d2,d3⟩:=sy_cells (fun j hj=>hc2 k hkl j hj)
 rw [hkg] at d0 d1 d2 d3
 simp only [] at d0 d1 d2 d3
 have hNa:(⟨N.data.toList.toArray⟩:ByteArray)=N:=ba_ext (by simp)
 rw [hNa] at d0
 have hb2:=lit_below (w.alloc (.cells #[.slice a n c,.slice (some ⟨b2,off2,none⟩) n2 c2] 25)) (.cells #[.string N,.int .i64 bi,.int .i64 se,.int .i64 of] 66)
 have HW2:=Lib.hid (after HW1.out hb2)
 have hX2:=hX.next hb2
 have z0:((w.alloc (.cells #[.slice a n c,.slice (some ⟨b2,off2,none⟩) n2 c2] 25)).alloc (.cells #[.string N,.int .i64 bi,.int .i64 se,.int .i64 of] 66)).cell? ⟨w.heap.size,0,none⟩=some (.slice a n c):=hX2.cell
 have z1:((w.alloc (.cells #[.slice a n c,.slice (some ⟨b2,off2,none⟩) n2 c2] 25)).alloc (.cells #[.string N,.int .i64 bi,.int .i64 se,.int .i64 of] 66)).cell? ⟨w.heap.size,1,none⟩=some (.slice (some ⟨b2,off2,none⟩) n2 c2):=hX2.cell
 have hY:RB ((w.alloc (.cells #[.slice a n c,.slice (some ⟨b2,off2,none⟩) n2 c2] 25)).alloc (.cells #[.string N,.int .i64 bi,.int .i64 se,.int .i64 of] 66)) (w.alloc (.cells #[.slice a n c,.slice (some ⟨b2,off2,none⟩) n2 c2] 25)).heap.size #[.string N,.int .i64 bi,.int .i64 se,.int .i64 of] 66:=rb_new _ _ _
 rw [World.size_alloc] at hY
 have y0:((w.alloc (.cells #[.slice a n c,.slice (some ⟨b2,off2,none⟩) n2 c2] 25)).alloc (.cells #[.string N,.int .i64 bi,.int .i64 se,.int .i64 of] 66)).cell? ⟨w.heap.size+1,0,none⟩=some (.string N):=hY.cell
 have y1:((w.alloc (.cells #[.slice a n c,.slice (some ⟨b2,off2,none⟩) n2 c2] 25)).alloc (.cells #[.string N,.int .i64 bi,.int .i64 se,.int .i64 of] 66)).cell? ⟨w.heap.size+1,1,none⟩=some (.int .i64 bi):=hY.cell
 have y2:((w.alloc (.cells #[.slice a n c,.slice (some ⟨b2,off2,none⟩) n2 c2] 25)).alloc (.cells #[.string N,.int .i64 bi,.int .i64 se,.int .i64 of] 66)).cell? ⟨w.heap.size+1,2,none⟩=some (.int .i64 se):=hY.cell
 have y3:((w.alloc (.cells #[.slice a n c,.slice (some ⟨b2,off2,none⟩) n2 c2] 25)).alloc (.cells #[.string N,.int .i64 bi,.int .i64 se,.int .i64 of] 66)).cell? ⟨w.heap.size+1,3,none⟩=some (.int .i64 of):=hY.cell
 clear hs hs2 hk hkl hkn hkg hc2 hX hX2 hY hb2 hNa
 go_enter Tryz.func51,Tryz.ntmps51
 go_wp2_with fail
 go_ret
 exact ⟨rfl,HW2.out⟩
theorem rsym_2 (a:Option Addr) (n c:Nat) (L:List Ms) (a2:Option Addr) (n2 c2:Nat) (l:List Sy) (hn:n<=1000000) (hn2:n2<=1000000) (w:World) (hs:SL msC 6 w w.heap.size a n L) (hs2:SL syC 4 w w.heap.size a2 n2 l) (k:Nat) (N:ByteArray) (bi se of:Int) (hk:l[k]?=some ⟨N.data.toList,bi,se,of⟩) (h0:¬ bi < 1) (h1:3 < bi):Calls Tryz.prog 51 #[.agg #[.slice a n c,.slice a2 n2 c2],.int .i64 (k:Int)] w (RetB (.bool false) w):=by
 have hkl:k < l.length:=(List.getElem?_eq_some_iff.1 hk).1
 have hkn:k < n2:=by have:=hs2.len;omega
 have hki:(k:Int) < (n2:Int):=by omega
 have hkg:l[k]=⟨N.data.toList,bi,se,of⟩:=by have:=List.getElem?_eq_getElem hkl;rw [hk] at this;exact (Option.some.inj this).symm
 have HW1:Hid (Below w.heap.size w (w.alloc (.cells #[.slice a n c,.slice a2 n2 c2] 25))):=Lib.hid (lit_below w _)
 have hX:RB (w.alloc (.cells #[.slice a n c,.slice a2 n2 c2] 25)) w.heap.size #[.slice a n c,.slice a2 n2 c2] 25:=rb_new w _ _
 have x0:(w.alloc (.cells #[.slice a n c,.slice a2 n2 c2] 25)).cell? ⟨w.heap.size,0,none⟩=some (.slice a n c):=hX.cell
 have x1:(w.alloc (.cells #[.slice a n c,.slice a2 n2 c2] 25)).cell? ⟨w.heap.size,1,none⟩=some (.slice a2 n2 c2):=hX.cell
 obtain ⟨b2,off2,rfl,-,hc2⟩:=(hs2.next HW1.out).cells (hs2.ne hkn)
 obtain ⟨d0,d1,d2,d3⟩:=sy_cells (fun j hj=>hc2 k hkl j hj)
 rw [hkg] at d0 d1 d2 d3
 simp only [] at d0 d1 d2 d3
 have hNa:(⟨N.data.toList.toArray⟩:ByteArray)=N:=ba_ext (by simp)
 rw [hNa] at d0
 have hb2:=lit_below (w.alloc (.cells #[.slice a n c,.slice (some ⟨b2,off2,none⟩) n2 c2] 25)) (.cells #[.string N,.int .i64 bi,.int .i64 se,.int .i64 of] 66)
 have HW2:=Lib.hid (after HW1.out hb2)
 have hX2:=hX.next hb2
 have z0:((w.alloc (.cells #[.slice a n c,.slice (some ⟨b2,off2,none⟩) n2 c2] 25)).alloc (.cells #[.string N,.int .i64 bi,.int .i64 se,.int .i64 of] 66)).cell? ⟨w.heap.size,0,none⟩=some (.slice a n c):=hX2.cell
 have z1:((w.alloc (.cells #[.slice a n c,.slice (some ⟨b2,off2,none⟩) n2 c2] 25)).alloc (.cells #[.string N,.int .i64 bi,.int .i64 se,.int .i64 of] 66)).cell? ⟨w.heap.size,1,none⟩=some (.slice (some ⟨b2,off2,none⟩) n2 c2):=hX2.cell
 have hY:RB ((w.alloc (.cells #[.slice a n c,.slice (some ⟨b2,off2,none⟩) n2 c2] 25)).alloc (.cells #[.string N,.int .i64 bi,.int .i64 se,.int .i64 of] 66)) (w.alloc (.cells #[.slice a n c,.slice (some ⟨b2,off2,none⟩) n2 c2] 25)).heap.size #[.string N,.int .i64 bi,.int .i64 se,.int .i64 of] 66:=rb_new _ _ _
 rw [World.size_alloc] at hY
 have y0:((w.alloc (.cells #[.slice a n c,.slice (some ⟨b2,off2,none⟩) n2 c2] 25)).alloc (.cells #[.string N,.int .i64 bi,.int .i64 se,.int .i64 of] 66)).cell? ⟨w.heap.size+1,0,none⟩=some (.string N):=hY.cell
 have y1:((w.alloc (.cells #[.slice a n c,.slice (some ⟨b2,off2,none⟩) n2 c2] 25)).alloc (.cells #[.string N,.int .i64 bi,.int .i64 se,.int .i64 of] 66)).cell? ⟨w.heap.size+1,1,none⟩=some (.int .i64 bi):=hY.cell
 have y2:((w.alloc (.cells #[.slice a n c,.slice (some ⟨b2,off2,none⟩) n2 c2] 25)).alloc (.cells #[.string N,.int .i64 bi,.int .i64 se,.int .i64 of] 66)).cell? ⟨w.heap.size+1,2,none⟩=some (.int .i64 se):=hY.cell
 have y3:((w.alloc (.cells #[.slice a n c,.slice (some ⟨b2,off2,none⟩) n2 c2] 25)).alloc (.cells #[.string N,.int .i64 bi,.int .i64 se,.int .i64 of] 66)).cell? ⟨w.heap.size+1,3,none⟩=some (.int .i64 of):=hY.cell
 clear hs hs2 hk hkl hkn hkg hc2 hX hX2 hY hb2 hNa
 go_enter Tryz.func51,Tryz.ntmps51
 go_wp2_with fail
 go_ret
 exact ⟨rfl,HW2.out⟩
theorem rsym_3 (a:Option Addr) (n c:Nat) (L:List Ms) (a2:Option Addr) (n2 c2:Nat) (l:List Sy) (hn:n<=1000000) (hn2:n2<=1000000) (w:World) (hs:SL msC 6 w w.heap.size a n L) (hs2:SL syC 4 w w.heap.size a2 n2 l) (k:Nat) (N:ByteArray) (bi se of:Int) (hk:l[k]?=some ⟨N.data.toList,bi,se,of⟩) (h0:¬ bi < 1) (h1:¬ 3 < bi) (h2:se < -1):Calls Tryz.prog 51 #[.agg #[.slice a n c,.slice a2 n2 c2],.int .i64 (k:Int)] w (RetB (.bool false) w):=by
 have hkl:k < l.length:=(List.getElem?_eq_some_iff.1 hk).1
 have hkn:k < n2:=by have:=hs2.len;omega
 have hki:(k:Int) < (n2:Int):=by omega
 have hkg:l[k]=⟨N.data.toList,bi,se,of⟩:=by have:=List.getElem?_eq_getElem hkl;rw [hk] at this;exact (Option.some.inj this).symm
 have HW1:Hid (Below w.heap.size w (w.alloc (.cells #[.slice a n c,.slice a2 n2 c2] 25))):=Lib.hid (lit_below w _)
 have hX:RB (w.alloc (.cells #[.slice a n c,.slice a2 n2 c2] 25)) w.heap.size #[.slice a n c,.slice a2 n2 c2] 25:=rb_new w _ _
 have x0:(w.alloc (.cells #[.slice a n c,.slice a2 n2 c2] 25)).cell? ⟨w.heap.size,0,none⟩=some (.slice a n c):=hX.cell
 have x1:(w.alloc (.cells #[.slice a n c,.slice a2 n2 c2] 25)).cell? ⟨w.heap.size,1,none⟩=some (.slice a2 n2 c2):=hX.cell
 obtain ⟨b2,off2,rfl,-,hc2⟩:=(hs2.next HW1.out).cells (hs2.ne hkn)
 obtain ⟨d0,d1,d2,d3⟩:=sy_cells (fun j hj=>hc2 k hkl j hj)
 rw [hkg] at d0 d1 d2 d3
 simp only [] at d0 d1 d2 d3
 have hNa:(⟨N.data.toList.toArray⟩:ByteArray)=N:=ba_ext (by simp)
 rw [hNa] at d0
 have hb2:=lit_below (w.alloc (.cells #[.slice a n c,.slice (some ⟨b2,off2,none⟩) n2 c2] 25)) (.cells #[.string N,.int .i64 bi,.int .i64 se,.int .i64 of] 66)
 have HW2:=Lib.hid (after HW1.out hb2)
 have hX2:=hX.next hb2
 have z0:((w.alloc (.cells #[.slice a n c,.slice (some ⟨b2,off2,none⟩) n2 c2] 25)).alloc (.cells #[.string N,.int .i64 bi,.int .i64 se,.int .i64 of] 66)).cell? ⟨w.heap.size,0,none⟩=some (.slice a n c):=hX2.cell
 have z1:((w.alloc (.cells #[.slice a n c,.slice (some ⟨b2,off2,none⟩) n2 c2] 25)).alloc (.cells #[.string N,.int .i64 bi,.int .i64 se,.int .i64 of] 66)).cell? ⟨w.heap.size,1,none⟩=some (.slice (some ⟨b2,off2,none⟩) n2 c2):=hX2.cell
 have hY:RB ((w.alloc (.cells #[.slice a n c,.slice (some ⟨b2,off2,none⟩) n2 c2] 25)).alloc (.cells #[.string N,.int .i64 bi,.int .i64 se,.int .i64 of] 66)) (w.alloc (.cells #[.slice a n c,.slice (some ⟨b2,off2,none⟩) n2 c2] 25)).heap.size #[.string N,.int .i64 bi,.int .i64 se,.int .i64 of] 66:=rb_new _ _ _
 rw [World.size_alloc] at hY
 have y0:((w.alloc (.cells #[.slice a n c,.slice (some ⟨b2,off2,none⟩) n2 c2] 25)).alloc (.cells #[.string N,.int .i64 bi,.int .i64 se,.int .i64 of] 66)).cell? ⟨w.heap.size+1,0,none⟩=some (.string N):=hY.cell
 have y1:((w.alloc (.cells #[.slice a n c,.slice (some ⟨b2,off2,none⟩) n2 c2] 25)).alloc (.cells #[.string N,.int .i64 bi,.int .i64 se,.int .i64 of] 66)).cell? ⟨w.heap.size+1,1,none⟩=some (.int .i64 bi):=hY.cell
 have y2:((w.alloc (.cells #[.slice a n c,.slice (some ⟨b2,off2,none⟩) n2 c2] 25)).alloc (.cells #[.string N,.int .i64 bi,.int .i64 se,.int .i64 of] 66)).cell? ⟨w.heap.size+1,2,none⟩=some (.int .i64 se):=hY.cell
 have y3:((w.alloc (.cells #[.slice a n c,.slice (some ⟨b2,off2,none⟩) n2 c2] 25)).alloc (.cells #[.string N,.int .i64 bi,.int .i64 se,.int .i64 of] 66)).cell? ⟨w.heap.size+1,3,none⟩=some (.int .i64 of):=hY.cell
 clear hs hs2 hk hkl hkn hkg hc2 hX hX2 hY hb2 hNa
 go_enter Tryz.func51,Tryz.ntmps51
 go_wp2_with fail
 go_ret
 exact ⟨rfl,HW2.out⟩
theorem rsym_4 (a:Option Addr) (n c:Nat) (L:List Ms) (a2:Option Addr) (n2 c2:Nat) (l:List Sy) (hn:n<=1000000) (hn2:n2<=1000000) (w:World) (hs:SL msC 6 w w.heap.size a n L) (hs2:SL syC 4 w w.heap.size a2 n2 l) (k:Nat) (N:ByteArray) (bi se of:Int) (hk:l[k]?=some ⟨N.data.toList,bi,se,of⟩) (h0:¬ bi < 1) (h1:¬ 3 < bi) (h2:¬ se < -1) (h3:(n:Int)<=se):Calls Tryz.prog 51 #[.agg #[.slice a n c,.slice a2 n2 c2],.int .i64 (k:Int)] w (RetB (.bool false) w):=by
 have hkl:k < l.length:=(List.getElem?_eq_some_iff.1 hk).1
 have hkn:k < n2:=by have:=hs2.len;omega
 have hki:(k:Int) < (n2:Int):=by omega
 have hkg:l[k]=⟨N.data.toList,bi,se,of⟩:=by have:=List.getElem?_eq_getElem hkl;rw [hk] at this;exact (Option.some.inj this).symm
 have HW1:Hid (Below w.heap.size w (w.alloc (.cells #[.slice a n c,.slice a2 n2 c2] 25))):=Lib.hid (lit_below w _)
 have hX:RB (w.alloc (.cells #[.slice a n c,.slice a2 n2 c2] 25)) w.heap.size #[.slice a n c,.slice a2 n2 c2] 25:=rb_new w _ _
 have x0:(w.alloc (.cells #[.slice a n c,.slice a2 n2 c2] 25)).cell? ⟨w.heap.size,0,none⟩=some (.slice a n c):=hX.cell
 have x1:(w.alloc (.cells #[.slice a n c,.slice a2 n2 c2] 25)).cell? ⟨w.heap.size,1,none⟩=some (.slice a2 n2 c2):=hX.cell
 obtain ⟨b2,off2,rfl,-,hc2⟩:=(hs2.next HW1.out).cells (hs2.ne hkn)
 obtain ⟨d0,d1,d2,d3⟩:=sy_cells (fun j hj=>hc2 k hkl j hj)
 rw [hkg] at d0 d1 d2 d3
 simp only [] at d0 d1 d2 d3
 have hNa:(⟨N.data.toList.toArray⟩:ByteArray)=N:=ba_ext (by simp)
 rw [hNa] at d0
 have hb2:=lit_below (w.alloc (.cells #[.slice a n c,.slice (some ⟨b2,off2,none⟩) n2 c2] 25)) (.cells #[.string N,.int .i64 bi,.int .i64 se,.int .i64 of] 66)
 have HW2:=Lib.hid (after HW1.out hb2)
 have hX2:=hX.next hb2
 have z0:((w.alloc (.cells #[.slice a n c,.slice (some ⟨b2,off2,none⟩) n2 c2] 25)).alloc (.cells #[.string N,.int .i64 bi,.int .i64 se,.int .i64 of] 66)).cell? ⟨w.heap.size,0,none⟩=some (.slice a n c):=hX2.cell
 have z1:((w.alloc (.cells #[.slice a n c,.slice (some ⟨b2,off2,none⟩) n2 c2] 25)).alloc (.cells #[.string N,.int .i64 bi,.int .i64 se,.int .i64 of] 66)).cell? ⟨w.heap.size,1,none⟩=some (.slice (some ⟨b2,off2,none⟩) n2 c2):=hX2.cell
 have hY:RB ((w.alloc (.cells #[.slice a n c,.slice (some ⟨b2,off2,none⟩) n2 c2] 25)).alloc (.cells #[.string N,.int .i64 bi,.int .i64 se,.int .i64 of] 66)) (w.alloc (.cells #[.slice a n c,.slice (some ⟨b2,off2,none⟩) n2 c2] 25)).heap.size #[.string N,.int .i64 bi,.int .i64 se,.int .i64 of] 66:=rb_new _ _ _
 rw [World.size_alloc] at hY
 have y0:((w.alloc (.cells #[.slice a n c,.slice (some ⟨b2,off2,none⟩) n2 c2] 25)).alloc (.cells #[.string N,.int .i64 bi,.int .i64 se,.int .i64 of] 66)).cell? ⟨w.heap.size+1,0,none⟩=some (.string N):=hY.cell
 have y1:((w.alloc (.cells #[.slice a n c,.slice (some ⟨b2,off2,none⟩) n2 c2] 25)).alloc (.cells #[.string N,.int .i64 bi,.int .i64 se,.int .i64 of] 66)).cell? ⟨w.heap.size+1,1,none⟩=some (.int .i64 bi):=hY.cell
 have y2:((w.alloc (.cells #[.slice a n c,.slice (some ⟨b2,off2,none⟩) n2 c2] 25)).alloc (.cells #[.string N,.int .i64 bi,.int .i64 se,.int .i64 of] 66)).cell? ⟨w.heap.size+1,2,none⟩=some (.int .i64 se):=hY.cell
 have y3:((w.alloc (.cells #[.slice a n c,.slice (some ⟨b2,off2,none⟩) n2 c2] 25)).alloc (.cells #[.string N,.int .i64 bi,.int .i64 se,.int .i64 of] 66)).cell? ⟨w.heap.size+1,3,none⟩=some (.int .i64 of):=hY.cell
 clear hs hs2 hk hkl hkn hkg hc2 hX hX2 hY hb2 hNa
 go_enter Tryz.func51,Tryz.ntmps51
 go_wp2_with fail
 go_ret
 exact ⟨rfl,HW2.out⟩
theorem rsym_5 (a:Option Addr) (n c:Nat) (L:List Ms) (a2:Option Addr) (n2 c2:Nat) (l:List Sy) (hn:n<=1000000) (hn2:n2<=1000000) (w:World) (hs:SL msC 6 w w.heap.size a n L) (hs2:SL syC 4 w w.heap.size a2 n2 l) (k:Nat) (N:ByteArray) (bi se of:Int) (hk:l[k]?=some ⟨N.data.toList,bi,se,of⟩) (h0:¬ bi < 1) (h1:¬ 3 < bi) (h2:¬ se < -1) (h3:¬ (n:Int)<=se) (h4:of < 0):Calls Tryz.prog 51 #[.agg #[.slice a n c,.slice a2 n2 c2],.int .i64 (k:Int)] w (RetB (.bool false) w):=by
 have hkl:k < l.length:=(List.getElem?_eq_some_iff.1 hk).1
 have hkn:k < n2:=by have:=hs2.len;omega
 have hki:(k:Int) < (n2:Int):=by omega
 have hkg:l[k]=⟨N.data.toList,bi,se,of⟩:=by have:=List.getElem?_eq_getElem hkl;rw [hk] at this;exact (Option.some.inj this).symm
 have HW1:Hid (Below w.heap.size w (w.alloc (.cells #[.slice a n c,.slice a2 n2 c2] 25))):=Lib.hid (lit_below w _)
 have hX:RB (w.alloc (.cells #[.slice a n c,.slice a2 n2 c2] 25)) w.heap.size #[.slice a n c,.slice a2 n2 c2] 25:=rb_new w _ _
 have x0:(w.alloc (.cells #[.slice a n c,.slice a2 n2 c2] 25)).cell? ⟨w.heap.size,0,none⟩=some (.slice a n c):=hX.cell
 have x1:(w.alloc (.cells #[.slice a n c,.slice a2 n2 c2] 25)).cell? ⟨w.heap.size,1,none⟩=some (.slice a2 n2 c2):=hX.cell
 obtain ⟨b2,off2,rfl,-,hc2⟩:=(hs2.next HW1.out).cells (hs2.ne hkn)
 obtain ⟨d0,d1,d2,d3⟩:=sy_cells (fun j hj=>hc2 k hkl j hj)
 rw [hkg] at d0 d1 d2 d3
 simp only [] at d0 d1 d2 d3
 have hNa:(⟨N.data.toList.toArray⟩:ByteArray)=N:=ba_ext (by simp)
 rw [hNa] at d0
 have hb2:=lit_below (w.alloc (.cells #[.slice a n c,.slice (some ⟨b2,off2,none⟩) n2 c2] 25)) (.cells #[.string N,.int .i64 bi,.int .i64 se,.int .i64 of] 66)
 have HW2:=Lib.hid (after HW1.out hb2)
 have hX2:=hX.next hb2
 have z0:((w.alloc (.cells #[.slice a n c,.slice (some ⟨b2,off2,none⟩) n2 c2] 25)).alloc (.cells #[.string N,.int .i64 bi,.int .i64 se,.int .i64 of] 66)).cell? ⟨w.heap.size,0,none⟩=some (.slice a n c):=hX2.cell
 have z1:((w.alloc (.cells #[.slice a n c,.slice (some ⟨b2,off2,none⟩) n2 c2] 25)).alloc (.cells #[.string N,.int .i64 bi,.int .i64 se,.int .i64 of] 66)).cell? ⟨w.heap.size,1,none⟩=some (.slice (some ⟨b2,off2,none⟩) n2 c2):=hX2.cell
 have hY:RB ((w.alloc (.cells #[.slice a n c,.slice (some ⟨b2,off2,none⟩) n2 c2] 25)).alloc (.cells #[.string N,.int .i64 bi,.int .i64 se,.int .i64 of] 66)) (w.alloc (.cells #[.slice a n c,.slice (some ⟨b2,off2,none⟩) n2 c2] 25)).heap.size #[.string N,.int .i64 bi,.int .i64 se,.int .i64 of] 66:=rb_new _ _ _
 rw [World.size_alloc] at hY
 have y0:((w.alloc (.cells #[.slice a n c,.slice (some ⟨b2,off2,none⟩) n2 c2] 25)).alloc (.cells #[.string N,.int .i64 bi,.int .i64 se,.int .i64 of] 66)).cell? ⟨w.heap.size+1,0,none⟩=some (.string N):=hY.cell
 have y1:((w.alloc (.cells #[.slice a n c,.slice (some ⟨b2,off2,none⟩) n2 c2] 25)).alloc (.cells #[.string N,.int .i64 bi,.int .i64 se,.int .i64 of] 66)).cell? ⟨w.heap.size+1,1,none⟩=some (.int .i64 bi):=hY.cell
 have y2:((w.alloc (.cells #[.slice a n c,.slice (some ⟨b2,off2,none⟩) n2 c2] 25)).alloc (.cells #[.string N,.int .i64 bi,.int .i64 se,.int .i64 of] 66)).cell? ⟨w.heap.size+1,2,none⟩=some (.int .i64 se):=hY.cell
 have y3:((w.alloc (.cells #[.slice a n c,.slice (some ⟨b2,off2,none⟩) n2 c2] 25)).alloc (.cells #[.string N,.int .i64 bi,.int .i64 se,.int .i64 of] 66)).cell? ⟨w.heap.size+1,3,none⟩=some (.int .i64 of):=hY.cell
 clear hs hs2 hk hkl hkn hkg hc2 hX hX2 hY hb2 hNa
 go_enter Tryz.func51,Tryz.ntmps51
 go_wp2_with fail
 go_ret
 exact ⟨rfl,HW2.out⟩
theorem rsym_6 (a:Option Addr) (n c:Nat) (L:List Ms) (a2:Option Addr) (n2 c2:Nat) (l:List Sy) (hn:n<=1000000) (hn2:n2<=1000000) (w:World) (hs:SL msC 6 w w.heap.size a n L) (hs2:SL syC 4 w w.heap.size a2 n2 l) (k:Nat) (N:ByteArray) (bi se of:Int) (hk:l[k]?=some ⟨N.data.toList,bi,se,of⟩) (h0:¬ bi < 1) (h1:¬ 3 < bi) (h2:¬ se < -1) (h3:¬ (n:Int)<=se) (h4:¬ of < 0) (h5:se = -1) (h6:bi=1):Calls Tryz.prog 51 #[.agg #[.slice a n c,.slice a2 n2 c2],.int .i64 (k:Int)] w (RetB (.bool false) w):=by
 have hkl:k < l.length:=(List.getElem?_eq_some_iff.1 hk).1
 have hkn:k < n2:=by have:=hs2.len;omega
 have hki:(k:Int) < (n2:Int):=by omega
 have hkg:l[k]=⟨N.data.toList,bi,se,of⟩:=by have:=List.getElem?_eq_getElem hkl;rw [hk] at this;exact (Option.some.inj this).symm
 have HW1:Hid (Below w.heap.size w (w.alloc (.cells #[.slice a n c,.slice a2 n2 c2] 25))):=Lib.hid (lit_below w _)
 have hX:RB (w.alloc (.cells #[.slice a n c,.slice a2 n2 c2] 25)) w.heap.size #[.slice a n c,.slice a2 n2 c2] 25:=rb_new w _ _
 have x0:(w.alloc (.cells #[.slice a n c,.slice a2 n2 c2] 25)).cell? ⟨w.heap.size,0,none⟩=some (.slice a n c):=hX.cell
 have x1:(w.alloc (.cells #[.slice a n c,.slice a2 n2 c2] 25)).cell? ⟨w.heap.size,1,none⟩=some (.slice a2 n2 c2):=hX.cell
 obtain ⟨b2,off2,rfl,-,hc2⟩:=(hs2.next HW1.out).cells (hs2.ne hkn)
 obtain ⟨d0,d1,d2,d3⟩:=sy_cells (fun j hj=>hc2 k hkl j hj)
 rw [hkg] at d0 d1 d2 d3
 simp only [] at d0 d1 d2 d3
 have hNa:(⟨N.data.toList.toArray⟩:ByteArray)=N:=ba_ext (by simp)
 rw [hNa] at d0
 have hb2:=lit_below (w.alloc (.cells #[.slice a n c,.slice (some ⟨b2,off2,none⟩) n2 c2] 25)) (.cells #[.string N,.int .i64 bi,.int .i64 se,.int .i64 of] 66)
 have HW2:=Lib.hid (after HW1.out hb2)
 have hX2:=hX.next hb2
 have z0:((w.alloc (.cells #[.slice a n c,.slice (some ⟨b2,off2,none⟩) n2 c2] 25)).alloc (.cells #[.string N,.int .i64 bi,.int .i64 se,.int .i64 of] 66)).cell? ⟨w.heap.size,0,none⟩=some (.slice a n c):=hX2.cell
 have z1:((w.alloc (.cells #[.slice a n c,.slice (some ⟨b2,off2,none⟩) n2 c2] 25)).alloc (.cells #[.string N,.int .i64 bi,.int .i64 se,.int .i64 of] 66)).cell? ⟨w.heap.size,1,none⟩=some (.slice (some ⟨b2,off2,none⟩) n2 c2):=hX2.cell
 have hY:RB ((w.alloc (.cells #[.slice a n c,.slice (some ⟨b2,off2,none⟩) n2 c2] 25)).alloc (.cells #[.string N,.int .i64 bi,.int .i64 se,.int .i64 of] 66)) (w.alloc (.cells #[.slice a n c,.slice (some ⟨b2,off2,none⟩) n2 c2] 25)).heap.size #[.string N,.int .i64 bi,.int .i64 se,.int .i64 of] 66:=rb_new _ _ _
 rw [World.size_alloc] at hY
 have y0:((w.alloc (.cells #[.slice a n c,.slice (some ⟨b2,off2,none⟩) n2 c2] 25)).alloc (.cells #[.string N,.int .i64 bi,.int .i64 se,.int .i64 of] 66)).cell? ⟨w.heap.size+1,0,none⟩=some (.string N):=hY.cell
 have y1:((w.alloc (.cells #[.slice a n c,.slice (some ⟨b2,off2,none⟩) n2 c2] 25)).alloc (.cells #[.string N,.int .i64 bi,.int .i64 se,.int .i64 of] 66)).cell? ⟨w.heap.size+1,1,none⟩=some (.int .i64 bi):=hY.cell
 have y2:((w.alloc (.cells #[.slice a n c,.slice (some ⟨b2,off2,none⟩) n2 c2] 25)).alloc (.cells #[.string N,.int .i64 bi,.int .i64 se,.int .i64 of] 66)).cell? ⟨w.heap.size+1,2,none⟩=some (.int .i64 se):=hY.cell
 have y3:((w.alloc (.cells #[.slice a n c,.slice (some ⟨b2,off2,none⟩) n2 c2] 25)).alloc (.cells #[.string N,.int .i64 bi,.int .i64 se,.int .i64 of] 66)).cell? ⟨w.heap.size+1,3,none⟩=some (.int .i64 of):=hY.cell
 subst h5 h6
 clear hs hs2 hk hkl hkn hkg hc2 hX hX2 hY hb2 hNa
 go_enter Tryz.func51,Tryz.ntmps51
 go_wp2_with fail
 go_big_quiet (fail)
 go_wp2
 go_ret
 exact ⟨rfl,below_drewN HW2.out _⟩
theorem rsym_7 (a:Option Addr) (n c:Nat) (L:List Ms) (a2:Option Addr) (n2 c2:Nat) (l:List Sy) (hn:n<=1000000) (hn2:n2<=1000000) (w:World) (hs:SL msC 6 w w.heap.size a n L) (hs2:SL syC 4 w w.heap.size a2 n2 l) (k:Nat) (N:ByteArray) (bi se of:Int) (hk:l[k]?=some ⟨N.data.toList,bi,se,of⟩) (h0:¬ bi < 1) (h1:¬ 3 < bi) (h2:¬ se < -1) (h3:¬ (n:Int)<=se) (h4:¬ of < 0) (h5:se = -1) (h6:bi ≠ 1) (h7:of ≠ 0):Calls Tryz.prog 51 #[.agg #[.slice a n c,.slice a2 n2 c2],.int .i64 (k:Int)] w (RetB (.bool false) w):=by
 have hkl:k < l.length:=(List.getElem?_eq_some_iff.1 hk).1
 have hkn:k < n2:=by have:=hs2.len;omega
 have hki:(k:Int) < (n2:Int):=by omega
 have hkg:l[k]=⟨N.data.toList,bi,se,of⟩:=by have:=List.getElem?_eq_getElem hkl;rw [hk] at this;exact (Option.some.inj this).symm
 have HW1:Hid (Below w.heap.size w (w.alloc (.cells #[.slice a n c,.slice a2 n2 c2] 25))):=Lib.hid (lit_below w _)
 have hX:RB (w.alloc (.cells #[.slice a n c,.slice a2 n2 c2] 25)) w.heap.size #[.slice a n c,.slice a2 n2 c2] 25:=rb_new w _ _
 have x0:(w.alloc (.cells #[.slice a n c,.slice a2 n2 c2] 25)).cell? ⟨w.heap.size,0,none⟩=some (.slice a n c):=hX.cell
 have x1:(w.alloc (.cells #[.slice a n c,.slice a2 n2 c2] 25)).cell? ⟨w.heap.size,1,none⟩=some (.slice a2 n2 c2):=hX.cell
 obtain ⟨b2,off2,rfl,-,hc2⟩:=(hs2.next HW1.out).cells (hs2.ne hkn)
 obtain ⟨d0,d1,d2,d3⟩:=sy_cells (fun j hj=>hc2 k hkl j hj)
 rw [hkg] at d0 d1 d2 d3
 simp only [] at d0 d1 d2 d3
 have hNa:(⟨N.data.toList.toArray⟩:ByteArray)=N:=ba_ext (by simp)
 rw [hNa] at d0
 have hb2:=lit_below (w.alloc (.cells #[.slice a n c,.slice (some ⟨b2,off2,none⟩) n2 c2] 25)) (.cells #[.string N,.int .i64 bi,.int .i64 se,.int .i64 of] 66)
 have HW2:=Lib.hid (after HW1.out hb2)
 have hX2:=hX.next hb2
 have z0:((w.alloc (.cells #[.slice a n c,.slice (some ⟨b2,off2,none⟩) n2 c2] 25)).alloc (.cells #[.string N,.int .i64 bi,.int .i64 se,.int .i64 of] 66)).cell? ⟨w.heap.size,0,none⟩=some (.slice a n c):=hX2.cell
 have z1:((w.alloc (.cells #[.slice a n c,.slice (some ⟨b2,off2,none⟩) n2 c2] 25)).alloc (.cells #[.string N,.int .i64 bi,.int .i64 se,.int .i64 of] 66)).cell? ⟨w.heap.size,1,none⟩=some (.slice (some ⟨b2,off2,none⟩) n2 c2):=hX2.cell
 have hY:RB ((w.alloc (.cells #[.slice a n c,.slice (some ⟨b2,off2,none⟩) n2 c2] 25)).alloc (.cells #[.string N,.int .i64 bi,.int .i64 se,.int .i64 of] 66)) (w.alloc (.cells #[.slice a n c,.slice (some ⟨b2,off2,none⟩) n2 c2] 25)).heap.size #[.string N,.int .i64 bi,.int .i64 se,.int .i64 of] 66:=rb_new _ _ _
 rw [World.size_alloc] at hY
 have y0:((w.alloc (.cells #[.slice a n c,.slice (some ⟨b2,off2,none⟩) n2 c2] 25)).alloc (.cells #[.string N,.int .i64 bi,.int .i64 se,.int .i64 of] 66)).cell? ⟨w.heap.size+1,0,none⟩=some (.string N):=hY.cell
 have y1:((w.alloc (.cells #[.slice a n c,.slice (some ⟨b2,off2,none⟩) n2 c2] 25)).alloc (.cells #[.string N,.int .i64 bi,.int .i64 se,.int .i64 of] 66)).cell? ⟨w.heap.size+1,1,none⟩=some (.int .i64 bi):=hY.cell
 have y2:((w.alloc (.cells #[.slice a n c,.slice (some ⟨b2,off2,none⟩) n2 c2] 25)).alloc (.cells #[.string N,.int .i64 bi,.int .i64 se,.int .i64 of] 66)).cell? ⟨w.heap.size+1,2,none⟩=some (.int .i64 se):=hY.cell
 have y3:((w.alloc (.cells #[.slice a n c,.slice (some ⟨b2,off2,none⟩) n2 c2] 25)).alloc (.cells #[.string N,.int .i64 bi,.int .i64 se,.int .i64 of] 66)).cell? ⟨w.heap.size+1,3,none⟩=some (.int .i64 of):=hY.cell
 subst h5
 have e1:(bi == 1)=false:=by rw [beq_eq_false_iff_ne];exact h6
 have e2:(of != 0)=true:=by rw [bne_iff_ne];exact h7
 clear h6 h7
 clear hs hs2 hk hkl hkn hkg hc2 hX hX2 hY hb2 hNa
 go_enter Tryz.func51,Tryz.ntmps51
 go_wp2_with fail
 go_big_quiet (fail)
 go_wp2
 go_ret
 exact ⟨rfl,below_drewN HW2.out _⟩
theorem rsym_8 (a:Option Addr) (n c:Nat) (L:List Ms) (a2:Option Addr) (n2 c2:Nat) (l:List Sy) (hn:n<=1000000) (hn2:n2<=1000000) (w:World) (hs:SL msC 6 w w.heap.size a n L) (hs2:SL syC 4 w w.heap.size a2 n2 l) (k:Nat) (N:ByteArray) (bi se of:Int) (hk:l[k]?=some ⟨N.data.toList,bi,se,of⟩) (h0:¬ bi < 1) (h1:¬ 3 < bi) (h2:¬ se < -1) (h3:¬ (n:Int)<=se) (h4:¬ of < 0) (h5:se ≠ -1) (h6:∀ t,(L.map (·.sc))[se.toNat]?=some t->(t.data.length:Int) < of):Calls Tryz.prog 51 #[.agg #[.slice a n c,.slice a2 n2 c2],.int .i64 (k:Int)] w (RetB (.bool false) w):=by
 have hkl:k < l.length:=(List.getElem?_eq_some_iff.1 hk).1
 have hkn:k < n2:=by have:=hs2.len;omega
 have hki:(k:Int) < (n2:Int):=by omega
 have hkg:l[k]=⟨N.data.toList,bi,se,of⟩:=by have:=List.getElem?_eq_getElem hkl;rw [hk] at this;exact (Option.some.inj this).symm
 have HW1:Hid (Below w.heap.size w (w.alloc (.cells #[.slice a n c,.slice a2 n2 c2] 25))):=Lib.hid (lit_below w _)
 have hX:RB (w.alloc (.cells #[.slice a n c,.slice a2 n2 c2] 25)) w.heap.size #[.slice a n c,.slice a2 n2 c2] 25:=rb_new w _ _
 have x0:(w.alloc (.cells #[.slice a n c,.slice a2 n2 c2] 25)).cell? ⟨w.heap.size,0,none⟩=some (.slice a n c):=hX.cell
 have x1:(w.alloc (.cells #[.slice a n c,.slice a2 n2 c2] 25)).cell? ⟨w.heap.size,1,none⟩=some (.slice a2 n2 c2):=hX.cell
 obtain ⟨b2,off2,rfl,-,hc2⟩:=(hs2.next HW1.out).cells (hs2.ne hkn)
 obtain ⟨d0,d1,d2,d3⟩:=sy_cells (fun j hj=>hc2 k hkl j hj)
 rw [hkg] at d0 d1 d2 d3
 simp only [] at d0 d1 d2 d3
 have hNa:(⟨N.data.toList.toArray⟩:ByteArray)=N:=ba_ext (by simp)
 rw [hNa] at d0
 have hb2:=lit_below (w.alloc (.cells #[.slice a n c,.slice (some ⟨b2,off2,none⟩) n2 c2] 25)) (.cells #[.string N,.int .i64 bi,.int .i64 se,.int .i64 of] 66)
 have HW2:=Lib.hid (after HW1.out hb2)
 have hX2:=hX.next hb2
 have z0:((w.alloc (.cells #[.slice a n c,.slice (some ⟨b2,off2,none⟩) n2 c2] 25)).alloc (.cells #[.string N,.int .i64 bi,.int .i64 se,.int .i64 of] 66)).cell? ⟨w.heap.size,0,none⟩=some (.slice a n c):=hX2.cell
 have z1:((w.alloc (.cells #[.slice a n c,.slice (some ⟨b2,off2,none⟩) n2 c2] 25)).alloc (.cells #[.string N,.int .i64 bi,.int .i64 se,.int .i64 of] 66)).cell? ⟨w.heap.size,1,none⟩=some (.slice (some ⟨b2,off2,none⟩) n2 c2):=hX2.cell
 have hY:RB ((w.alloc (.cells #[.slice a n c,.slice (some ⟨b2,off2,none⟩) n2 c2] 25)).alloc (.cells #[.string N,.int .i64 bi,.int .i64 se,.int .i64 of] 66)) (w.alloc (.cells #[.slice a n c,.slice (some ⟨b2,off2,none⟩) n2 c2] 25)).heap.size #[.string N,.int .i64 bi,.int .i64 se,.int .i64 of] 66:=rb_new _ _ _
 rw [World.size_alloc] at hY
 have y0:((w.alloc (.cells #[.slice a n c,.slice (some ⟨b2,off2,none⟩) n2 c2] 25)).alloc (.cells #[.string N,.int .i64 bi,.int .i64 se,.int .i64 of] 66)).cell? ⟨w.heap.size+1,0,none⟩=some (.string N):=hY.cell
 have y1:((w.alloc (.cells #[.slice a n c,.slice (some ⟨b2,off2,none⟩) n2 c2] 25)).alloc (.cells #[.string N,.int .i64 bi,.int .i64 se,.int .i64 of] 66)).cell? ⟨w.heap.size+1,1,none⟩=some (.int .i64 bi):=hY.cell
 have y2:((w.alloc (.cells #[.slice a n c,.slice (some ⟨b2,off2,none⟩) n2 c2] 25)).alloc (.cells #[.string N,.int .i64 bi,.int .i64 se,.int .i64 of] 66)).cell? ⟨w.heap.size+1,2,none⟩=some (.int .i64 se):=hY.cell
 have y3:((w.alloc (.cells #[.slice a n c,.slice (some ⟨b2,off2,none⟩) n2 c2] 25)).alloc (.cells #[.string N,.int .i64 bi,.int .i64 se,.int .i64 of] 66)).cell? ⟨w.heap.size+1,3,none⟩=some (.int .i64 of):=hY.cell
 obtain ⟨p,rfl⟩:=Int.eq_ofNat_of_zero_le (show 0<=se by omega)
 have hpn:p < n:=by omega
 have hpi:(p:Int) < (n:Int):=by omega
 have hpl:p < L.length:=by have:=hs.len;omega
 obtain ⟨b1,off1,rfl,-,hc1⟩:=(hs.next HW2.out).cells (hs.ne hpn)
 obtain ⟨-,-,-,-,c4,-⟩:=ms_cells (fun j hj=>hc1 p hpl j hj)
 obtain ⟨D,hD⟩:∃ D:ByteArray,D=⟨L[p].sc.data.toArray⟩:=⟨_,rfl⟩
 have hDs:D.size=L[p].sc.data.length:=by rw [hD];simp [ByteArray.size]
 rw [<-hD] at c4
 have hof:(D.size:Int) < of:=by
  have e:(L.map (·.sc))[p]?=some L[p].sc:=by rw [List.getElem?_map,List.getElem?_eq_getElem hpl];rfl
  have:=h6 _ (by rw [Int.toNat_natCast];exact e)
  rw [hDs];omega
 have s1:((p:Int) == -1)=false:=by rw [beq_eq_false_iff_ne];omega
 have s2:(0:Int)<=(p:Int):=by omega
 clear hD hDs hc1 h6 h5
 clear hs hs2 hpl hpn hk hkl hkn hkg hc2 hX hX2 hY hb2 hNa
 go_enter Tryz.func51,Tryz.ntmps51
 go_wp2_with fail
 go_big_quiet (fail)
 go_wp2
 go_ret
 exact ⟨rfl,below_drewN HW2.out _⟩
theorem rsym_N1 (a:Option Addr) (n c:Nat) (L:List Ms) (a2:Option Addr) (n2 c2:Nat) (l:List Sy) (hn:n<=1000000) (hn2:n2<=1000000) (w:World) (hs:SL msC 6 w w.heap.size a n L) (hs2:SL syC 4 w w.heap.size a2 n2 l) (k:Nat) (N:ByteArray) (bi se of:Int) (hk:l[k]?=some ⟨N.data.toList,bi,se,of⟩) (h0:¬ bi < 1) (h1:¬ 3 < bi) (h2:¬ se < -1) (h3:¬ (n:Int)<=se) (h4:¬ of < 0) (h5:se = -1) (h6:bi ≠ 1) (h7:of=0) (hne:N.data.toList ≠ []) (hnl:∀ t ∈ l,t.name.length<=6000):Calls Tryz.prog 51 #[.agg #[.slice a n c,.slice a2 n2 c2],.int .i64 (k:Int)] w (RetB (.bool (isNmL N.data.toList && (l.take k).all fun t=>decide (t.name ≠ N.data.toList))) w):=by
 have hkl:k < l.length:=(List.getElem?_eq_some_iff.1 hk).1
 have hkn:k < n2:=by have:=hs2.len;omega
 have hki:(k:Int) < (n2:Int):=by omega
 have hkg:l[k]=⟨N.data.toList,bi,se,of⟩:=by have:=List.getElem?_eq_getElem hkl;rw [hk] at this;exact (Option.some.inj this).symm
 have HW1:Hid (Below w.heap.size w (w.alloc (.cells #[.slice a n c,.slice a2 n2 c2] 25))):=Lib.hid (lit_below w _)
 have hX:RB (w.alloc (.cells #[.slice a n c,.slice a2 n2 c2] 25)) w.heap.size #[.slice a n c,.slice a2 n2 c2] 25:=rb_new w _ _
 have x0:(w.alloc (.cells #[.slice a n c,.slice a2 n2 c2] 25)).cell? ⟨w.heap.size,0,none⟩=some (.slice a n c):=hX.cell
 have x1:(w.alloc (.cells #[.slice a n c,.slice a2 n2 c2] 25)).cell? ⟨w.heap.size,1,none⟩=some (.slice a2 n2 c2):=hX.cell
 obtain ⟨b2,off2,rfl,-,hc2⟩:=(hs2.next HW1.out).cells (hs2.ne hkn)
 obtain ⟨d0,d1,d2,d3⟩:=sy_cells (fun j hj=>hc2 k hkl j hj)
 rw [hkg] at d0 d1 d2 d3
 simp only [] at d0 d1 d2 d3
 have hNa:(⟨N.data.toList.toArray⟩:ByteArray)=N:=ba_ext (by simp)
 rw [hNa] at d0
 have hb2:=lit_below (w.alloc (.cells #[.slice a n c,.slice (some ⟨b2,off2,none⟩) n2 c2] 25)) (.cells #[.string N,.int .i64 bi,.int .i64 se,.int .i64 of] 66)
 have HW2:=Lib.hid (after HW1.out hb2)
 have hX2:=hX.next hb2
 have z0:((w.alloc (.cells #[.slice a n c,.slice (some ⟨b2,off2,none⟩) n2 c2] 25)).alloc (.cells #[.string N,.int .i64 bi,.int .i64 se,.int .i64 of] 66)).cell? ⟨w.heap.size,0,none⟩=some (.slice a n c):=hX2.cell
 have z1:((w.alloc (.cells #[.slice a n c,.slice (some ⟨b2,off2,none⟩) n2 c2] 25)).alloc (.cells #[.string N,.int .i64 bi,.int .i64 se,.int .i64 of] 66)).cell? ⟨w.heap.size,1,none⟩=some (.slice (some ⟨b2,off2,none⟩) n2 c2):=hX2.cell
 have hY:RB ((w.alloc (.cells #[.slice a n c,.slice (some ⟨b2,off2,none⟩) n2 c2] 25)).alloc (.cells #[.string N,.int .i64 bi,.int .i64 se,.int .i64 of] 66)) (w.alloc (.cells #[.slice a n c,.slice (some ⟨b2,off2,none⟩) n2 c2] 25)).heap.size #[.string N,.int .i64 bi,.int .i64 se,.int .i64 of] 66:=rb_new _ _ _
 rw [World.size_alloc] at hY
 have y0:((w.alloc (.cells #[.slice a n c,.slice (some ⟨b2,off2,none⟩) n2 c2] 25)).alloc (.cells #[.string N,.int .i64 bi,.int .i64 se,.int .i64 of] 66)).cell? ⟨w.heap.size+1,0,none⟩=some (.string N):=hY.cell
 have y1:((w.alloc (.cells #[.slice a n c,.slice (some ⟨b2,off2,none⟩) n2 c2] 25)).alloc (.cells #[.string N,.int .i64 bi,.int .i64 se,.int .i64 of] 66)).cell? ⟨w.heap.size+1,1,none⟩=some (.int .i64 bi):=hY.cell
 have y2:((w.alloc (.cells #[.slice a n c,.slice (some ⟨b2,off2,none⟩) n2 c2] 25)).alloc (.cells #[.string N,.int .i64 bi,.int .i64 se,.int .i64 of] 66)).cell? ⟨w.heap.size+1,2,none⟩=some (.int .i64 se):=hY.cell
 have y3:((w.alloc (.cells #[.slice a n c,.slice (some ⟨b2,off2,none⟩) n2 c2] 25)).alloc (.cells #[.string N,.int .i64 bi,.int .i64 se,.int .i64 of] 66)).cell? ⟨w.heap.size+1,3,none⟩=some (.int .i64 of):=hY.cell
 obtain ⟨V,hV⟩:∃ V,V=(w.alloc (.cells #[.slice a n c,.slice (some ⟨b2,off2,none⟩) n2 c2] 25)).alloc (.cells #[.string N,.int .i64 bi,.int .i64 se,.int .i64 of] 66):=⟨_,rfl⟩
 have HV:=Lib.hid hV.symm
 have HWV:Hid (Below w.heap.size w V):=Lib.hid (by rw [hV];exact HW2.out)
 rw [<-hV] at hX2 hY
 subst h5 h7
 have e1:(bi == 1)=false:=by rw [beq_eq_false_iff_ne];exact h6
 clear h6
 have hnl1:N.data.toList.length<=6000:=hnl _ (List.mem_of_getElem? hk)
 have hNs:N.size<=6000:=by rw [show N.size=N.data.toList.length from by simp];exact hnl1
 have HIs:Hid (∀ u,Calls Tryz.prog 81 #[.string N] u (RetB (.bool (isNmL N.data.toList)) u)):=Lib.hid fun u=>rIsName_any N hNs u
 obtain ⟨n1,n2',n3⟩:=ba_ne hne
 have HNo:Hid (∀ (j:Nat) t,l[j]?=some t->j < k->t.name=N.data.toList->((l.take k).all fun t=>decide (t.name ≠ N.data.toList))=false):=Lib.hid (by
  intro j t ht hj e
  rw [List.all_eq_false]
  exact ⟨t,List.mem_of_getElem? (i:=j) (by rw [List.getElem?_take,if_pos hj];exact ht),by simp [e]⟩)
 have HYes:Hid ((∀ (j:Nat) t,j < k->l[j]?=some t->t.name ≠ N.data.toList)->((l.take k).all fun t=>decide (t.name ≠ N.data.toList))=true):=Lib.hid (by
  intro h
  rw [List.all_eq_true]
  intro t ht
  obtain ⟨j,hj⟩:=List.getElem?_of_mem ht
  rw [List.getElem?_take] at hj
  split at hj
  ·rename_i hlt;exact decide_eq_true (h j t hlt hj)
  ·cases hj)
 have HS2:Hid (SL syC 4 V V.heap.size (some ⟨b2,off2,none⟩) n2 l):=Lib.hid (hs2.next HWV.out)
 have HYr:=Lib.hid hY
 have HXr:=Lib.hid hX2
 have HKn:=Lib.hid (And.intro hkn hkl)
 have hkb:(k:Int)<=1000000:=by omega
 clear hV hNs hs hs2 hk hkl hkn hkg hc2 hX hX2 hY hb2 hNa hne hnl hnl1
 generalize isNmL N.data.toList=bI at*
 generalize ((l.take k).all fun t=>decide (t.name ≠ N.data.toList))=bA at*
 go_enter Tryz.func51,Tryz.ntmps51
 go_wp2_with fail
 go_big_quiet (fail)
 rw [HV.out]
 have y0:V.cell? ⟨w.heap.size+1,0,none⟩=some (.string N):=HYr.out.cell
 go_wp2_with fail
 go_loopw [6] (fun i wr=>∃ (q:Nat) (wx:World),wx=wr/\q<=k/\i=.int .i64 q/\Hid (∀ (j:Nat) t,j < q->l[j]?=some t->t.name ≠ N.data.toList)/\Hid (Below V.heap.size V wx)) (fun i _=>k - (intOf i).toNat)
 case atStart=>exact ⟨0,_,rfl,by omega,rfl,Lib.hid (fun j t hj=>absurd hj (by omega)),Lib.hid (below_drewN (Below.refl _ _) _)⟩
 case round=>
  obtain ⟨q,wx,rfl,hq,rfl,HQ,HB⟩:=hrel
  have y0:wx.cell? ⟨w.heap.size+1,0,none⟩=some (.string N):=(HYr.out.next HB.out).cell
  by_cases hlt:q < k
  ·have hlti:(q:Int) < (k:Int):=by omega
   have hql:q < l.length:=by have:=HKn.out;omega
   have hqn:(q:Int) < (n2:Int):=by have:=HKn.out;omega
   have z1:wx.cell? ⟨w.heap.size,1,none⟩=some (.slice (some ⟨b2,off2,none⟩) n2 c2):=(HXr.out.next HB.out).cell
   obtain ⟨b3,o3,e3,-,hc3⟩:=(HS2.out.next HB.out).cells (by intro e;rw [e] at hql;simp at hql)
   cases e3
   obtain ⟨d0,-,-,-⟩:=sy_cells (fun j hj=>hc3 q hql j hj)
   obtain ⟨M,hM⟩:∃ M:ByteArray,M=⟨l[q].name.toArray⟩:=⟨_,rfl⟩
   have hMl:M.data.toList=l[q].name:=by rw [hM]
   rw [<-hM] at d0
   have hgq:l[q]?=some l[q]:=List.getElem?_eq_getElem hql
   by_cases he:l[q].name=N.data.toList
   ·have hME:M=N:=ba_ext (by rw [hMl,he])
    have HR:Hid (bA=false):=Lib.hid (HNo.out q _ hgq hlt he)
    have hqq:(N.toList == N.toList)=true:=by simp
    rw [hME] at d0
    clear hc3 hM hMl hgq he hME hlt hq hql
    go_wp2_with fail
    go_big_quiet (fail)
    go_wp2
    go_ret
    exact ⟨by rw [HR.out,Bool.and_false];rfl,below_drewN (after HWV.out HB.out) _⟩
   ·have hqq:(M.toList == N.toList)=false:=by rw [beq_eq_false_iff_ne,ByteArray.toList_eq,ByteArray.toList_eq,hMl];exact he
    have HQ2:Hid (∀ (j:Nat) t,j < q+1->l[j]?=some t->t.name ≠ N.data.toList):=Lib.hid (by
     intro j t hj ht
     rcases Nat.lt_succ_iff_lt_or_eq.1 hj with h | h
     ·exact HQ.out j t h ht
     ·subst h;rw [hgq] at ht;cases ht;exact he)
    have HLt:=Lib.hid hlt
    clear hc3 hM hMl hgq he hlt hq hql
    go_wp2_with fail
    go_big_quiet (fail)
    go_wp2
    go_roundw
    case rel=>exact ⟨q+1,_,rfl,by have:=HLt.out;omega,by go_num,HQ2,Lib.hid (below_drewN HB.out _)⟩
    case measure=>have:=HLt.out;simp [intOf];omega
  ·obtain rfl:q=k:=by omega
   have hge:¬ (q:Int) < (q:Int):=by omega
   have HR:Hid (bA=true):=Lib.hid (HYes.out HQ.out)
   clear hlt hq
   go_wp2_with fail
   refine (HIs.out _).mono ?_
   rintro e u ⟨rfl,hb⟩
   have HBu:=Lib.hid (after (after HWV.out HB.out) hb)
   clear hb
   go_wp2
   go_ret
   exact ⟨by rw [HR.out,Bool.and_true];rfl,HBu.out⟩
theorem rsym_N2 (a:Option Addr) (n c:Nat) (L:List Ms) (a2:Option Addr) (n2 c2:Nat) (l:List Sy) (hn:n<=1000000) (hn2:n2<=1000000) (w:World) (hs:SL msC 6 w w.heap.size a n L) (hs2:SL syC 4 w w.heap.size a2 n2 l) (k:Nat) (N:ByteArray) (bi se of:Int) (hk:l[k]?=some ⟨N.data.toList,bi,se,of⟩) (h0:¬ bi < 1) (h1:¬ 3 < bi) (h2:¬ se < -1) (h3:¬ (n:Int)<=se) (h4:¬ of < 0) (h5:se ≠ -1) (h6:∀ t,(L.map (·.sc))[se.toNat]?=some t->of<=(t.data.length:Int)) (hne:N.data.toList ≠ []) (hnl:∀ t ∈ l,t.name.length<=6000):Calls Tryz.prog 51 #[.agg #[.slice a n c,.slice a2 n2 c2],.int .i64 (k:Int)] w (RetB (.bool (isNmL N.data.toList && (l.take k).all fun t=>decide (t.name ≠ N.data.toList))) w):=by
 have hkl:k < l.length:=(List.getElem?_eq_some_iff.1 hk).1
 have hkn:k < n2:=by have:=hs2.len;omega
 have hki:(k:Int) < (n2:Int):=by omega
 have hkg:l[k]=⟨N.data.toList,bi,se,of⟩:=by have:=List.getElem?_eq_getElem hkl;rw [hk] at this;exact (Option.some.inj this).symm
 have HW1:Hid (Below w.heap.size w (w.alloc (.cells #[.slice a n c,.slice a2 n2 c2] 25))):=Lib.hid (lit_below w _)
 have hX:RB (w.alloc (.cells #[.slice a n c,.slice a2 n2 c2] 25)) w.heap.size #[.slice a n c,.slice a2 n2 c2] 25:=rb_new w _ _
 have x0:(w.alloc (.cells #[.slice a n c,.slice a2 n2 c2] 25)).cell? ⟨w.heap.size,0,none⟩=some (.slice a n c):=hX.cell
 have x1:(w.alloc (.cells #[.slice a n c,.slice a2 n2 c2] 25)).cell? ⟨w.heap.size,1,none⟩=some (.slice a2 n2 c2):=hX.cell
 obtain ⟨b2,off2,rfl,-,hc2⟩:=(hs2.next HW1.out).cells (hs2.ne hkn)
 obtain ⟨d0,d1,d2,d3⟩:=sy_cells (fun j hj=>hc2 k hkl j hj)
 rw [hkg] at d0 d1 d2 d3
 simp only [] at d0 d1 d2 d3
 have hNa:(⟨N.data.toList.toArray⟩:ByteArray)=N:=ba_ext (by simp)
 rw [hNa] at d0
 have hb2:=lit_below (w.alloc (.cells #[.slice a n c,.slice (some ⟨b2,off2,none⟩) n2 c2] 25)) (.cells #[.string N,.int .i64 bi,.int .i64 se,.int .i64 of] 66)
 have HW2:=Lib.hid (after HW1.out hb2)
 have hX2:=hX.next hb2
 have z0:((w.alloc (.cells #[.slice a n c,.slice (some ⟨b2,off2,none⟩) n2 c2] 25)).alloc (.cells #[.string N,.int .i64 bi,.int .i64 se,.int .i64 of] 66)).cell? ⟨w.heap.size,0,none⟩=some (.slice a n c):=hX2.cell
 have z1:((w.alloc (.cells #[.slice a n c,.slice (some ⟨b2,off2,none⟩) n2 c2] 25)).alloc (.cells #[.string N,.int .i64 bi,.int .i64 se,.int .i64 of] 66)).cell? ⟨w.heap.size,1,none⟩=some (.slice (some ⟨b2,off2,none⟩) n2 c2):=hX2.cell
 have hY:RB ((w.alloc (.cells #[.slice a n c,.slice (some ⟨b2,off2,none⟩) n2 c2] 25)).alloc (.cells #[.string N,.int .i64 bi,.int .i64 se,.int .i64 of] 66)) (w.alloc (.cells #[.slice a n c,.slice (some ⟨b2,off2,none⟩) n2 c2] 25)).heap.size #[.string N,.int .i64 bi,.int .i64 se,.int .i64 of] 66:=rb_new _ _ _
 rw [World.size_alloc] at hY
 have y0:((w.alloc (.cells #[.slice a n c,.slice (some ⟨b2,off2,none⟩) n2 c2] 25)).alloc (.cells #[.string N,.int .i64 bi,.int .i64 se,.int .i64 of] 66)).cell? ⟨w.heap.size+1,0,none⟩=some (.string N):=hY.cell
 have y1:((w.alloc (.cells #[.slice a n c,.slice (some ⟨b2,off2,none⟩) n2 c2] 25)).alloc (.cells #[.string N,.int .i64 bi,.int .i64 se,.int .i64 of] 66)).cell? ⟨w.heap.size+1,1,none⟩=some (.int .i64 bi):=hY.cell
 have y2:((w.alloc (.cells #[.slice a n c,.slice (some ⟨b2,off2,none⟩) n2 c2] 25)).alloc (.cells #[.string N,.int .i64 bi,.int .i64 se,.int .i64 of] 66)).cell? ⟨w.heap.size+1,2,none⟩=some (.int .i64 se):=hY.cell
 have y3:((w.alloc (.cells #[.slice a n c,.slice (some ⟨b2,off2,none⟩) n2 c2] 25)).alloc (.cells #[.string N,.int .i64 bi,.int .i64 se,.int .i64 of] 66)).cell? ⟨w.heap.size+1,3,none⟩=some (.int .i64 of):=hY.cell
 obtain ⟨V,hV⟩:∃ V,V=(w.alloc (.cells #[.slice a n c,.slice (some ⟨b2,off2,none⟩) n2 c2] 25)).alloc (.cells #[.string N,.int .i64 bi,.int .i64 se,.int .i64 of] 66):=⟨_,rfl⟩
 have HV:=Lib.hid hV.symm
 have HWV:Hid (Below w.heap.size w V):=Lib.hid (by rw [hV];exact HW2.out)
 rw [<-hV] at hX2 hY
 obtain ⟨p,rfl⟩:=Int.eq_ofNat_of_zero_le (show 0<=se by omega)
 have hpn:p < n:=by omega
 have hpi:(p:Int) < (n:Int):=by omega
 have hpl:p < L.length:=by have:=hs.len;omega
 obtain ⟨b1,off1,rfl,-,hc1⟩:=(hs.next HW2.out).cells (hs.ne hpn)
 obtain ⟨-,-,-,-,c4,-⟩:=ms_cells (fun j hj=>hc1 p hpl j hj)
 obtain ⟨D,hD⟩:∃ D:ByteArray,D=⟨L[p].sc.data.toArray⟩:=⟨_,rfl⟩
 have hDs:D.size=L[p].sc.data.length:=by rw [hD];simp [ByteArray.size]
 rw [<-hD] at c4
 have hof:¬ (D.size:Int) < of:=by
  have e:(L.map (·.sc))[p]?=some L[p].sc:=by rw [List.getElem?_map,List.getElem?_eq_getElem hpl];rfl
  have:=h6 _ (by rw [Int.toNat_natCast];exact e)
  rw [hDs];omega
 have s1:((p:Int) == -1)=false:=by rw [beq_eq_false_iff_ne];omega
 have s2:(0:Int)<=(p:Int):=by omega
 clear hD hDs hc1 h6 h5
 have hnl1:N.data.toList.length<=6000:=hnl _ (List.mem_of_getElem? hk)
 have hNs:N.size<=6000:=by rw [show N.size=N.data.toList.length from by simp];exact hnl1
 have HIs:Hid (∀ u,Calls Tryz.prog 81 #[.string N] u (RetB (.bool (isNmL N.data.toList)) u)):=Lib.hid fun u=>rIsName_any N hNs u
 obtain ⟨n1,n2',n3⟩:=ba_ne hne
 have HNo:Hid (∀ (j:Nat) t,l[j]?=some t->j < k->t.name=N.data.toList->((l.take k).all fun t=>decide (t.name ≠ N.data.toList))=false):=Lib.hid (by
  intro j t ht hj e
  rw [List.all_eq_false]
  exact ⟨t,List.mem_of_getElem? (i:=j) (by rw [List.getElem?_take,if_pos hj];exact ht),by simp [e]⟩)
 have HYes:Hid ((∀ (j:Nat) t,j < k->l[j]?=some t->t.name ≠ N.data.toList)->((l.take k).all fun t=>decide (t.name ≠ N.data.toList))=true):=Lib.hid (by
  intro h
  rw [List.all_eq_true]
  intro t ht
  obtain ⟨j,hj⟩:=List.getElem?_of_mem ht
  rw [List.getElem?_take] at hj
  split at hj
  ·rename_i hlt;exact decide_eq_true (h j t hlt hj)
  ·cases hj)
 have HS2:Hid (SL syC 4 V V.heap.size (some ⟨b2,off2,none⟩) n2 l):=Lib.hid (hs2.next HWV.out)
 have HYr:=Lib.hid hY
 have HXr:=Lib.hid hX2
 have HKn:=Lib.hid (And.intro hkn hkl)
 have hkb:(k:Int)<=1000000:=by omega
 clear hV hNs hs hs2 hpl hpn hk hkl hkn hkg hc2 hX hX2 hY hb2 hNa hne hnl hnl1
 generalize isNmL N.data.toList=bI at*
 generalize ((l.take k).all fun t=>decide (t.name ≠ N.data.toList))=bA at*
 go_enter Tryz.func51,Tryz.ntmps51
 go_wp2_with fail
 go_big_quiet (fail)
 rw [HV.out]
 have y0:V.cell? ⟨w.heap.size+1,0,none⟩=some (.string N):=HYr.out.cell
 go_wp2_with fail
 go_loopw [6] (fun i wr=>∃ (q:Nat) (wx:World),wx=wr/\q<=k/\i=.int .i64 q/\Hid (∀ (j:Nat) t,j < q->l[j]?=some t->t.name ≠ N.data.toList)/\Hid (Below V.heap.size V wx)) (fun i _=>k - (intOf i).toNat)
 case atStart=>exact ⟨0,_,rfl,by omega,rfl,Lib.hid (fun j t hj=>absurd hj (by omega)),Lib.hid (below_drewN (Below.refl _ _) _)⟩
 case round=>
  obtain ⟨q,wx,rfl,hq,rfl,HQ,HB⟩:=hrel
  have y0:wx.cell? ⟨w.heap.size+1,0,none⟩=some (.string N):=(HYr.out.next HB.out).cell
  by_cases hlt:q < k
  ·have hlti:(q:Int) < (k:Int):=by omega
   have hql:q < l.length:=by have:=HKn.out;omega
   have hqn:(q:Int) < (n2:Int):=by have:=HKn.out;omega
   have z1:wx.cell? ⟨w.heap.size,1,none⟩=some (.slice (some ⟨b2,off2,none⟩) n2 c2):=(HXr.out.next HB.out).cell
   obtain ⟨b3,o3,e3,-,hc3⟩:=(HS2.out.next HB.out).cells (by intro e;rw [e] at hql;simp at hql)
   cases e3
   obtain ⟨d0,-,-,-⟩:=sy_cells (fun j hj=>hc3 q hql j hj)
   obtain ⟨M,hM⟩:∃ M:ByteArray,M=⟨l[q].name.toArray⟩:=⟨_,rfl⟩
   have hMl:M.data.toList=l[q].name:=by rw [hM]
   rw [<-hM] at d0
   have hgq:l[q]?=some l[q]:=List.getElem?_eq_getElem hql
   by_cases he:l[q].name=N.data.toList
   ·have hME:M=N:=ba_ext (by rw [hMl,he])
    have HR:Hid (bA=false):=Lib.hid (HNo.out q _ hgq hlt he)
    have hqq:(N.toList == N.toList)=true:=by simp
    rw [hME] at d0
    clear hc3 hM hMl hgq he hME hlt hq hql
    go_wp2_with fail
    go_big_quiet (fail)
    go_wp2
    go_ret
    exact ⟨by rw [HR.out,Bool.and_false];rfl,below_drewN (after HWV.out HB.out) _⟩
   ·have hqq:(M.toList == N.toList)=false:=by rw [beq_eq_false_iff_ne,ByteArray.toList_eq,ByteArray.toList_eq,hMl];exact he
    have HQ2:Hid (∀ (j:Nat) t,j < q+1->l[j]?=some t->t.name ≠ N.data.toList):=Lib.hid (by
     intro j t hj ht
     rcases Nat.lt_succ_iff_lt_or_eq.1 hj with h | h
     ·exact HQ.out j t h ht
     ·subst h;rw [hgq] at ht;cases ht;exact he)
    have HLt:=Lib.hid hlt
    clear hc3 hM hMl hgq he hlt hq hql
    go_wp2_with fail
    go_big_quiet (fail)
    go_wp2
    go_roundw
    case rel=>exact ⟨q+1,_,rfl,by have:=HLt.out;omega,by go_num,HQ2,Lib.hid (below_drewN HB.out _)⟩
    case measure=>have:=HLt.out;simp [intOf];omega
  ·obtain rfl:q=k:=by omega
   have hge:¬ (q:Int) < (q:Int):=by omega
   have HR:Hid (bA=true):=Lib.hid (HYes.out HQ.out)
   clear hlt hq
   go_wp2_with fail
   refine (HIs.out _).mono ?_
   rintro e u ⟨rfl,hb⟩
   have HBu:=Lib.hid (after (after HWV.out HB.out) hb)
   clear hb
   go_wp2
   go_ret
   exact ⟨by rw [HR.out,Bool.and_true];rfl,HBu.out⟩
theorem rsym_E1 (a:Option Addr) (n c:Nat) (L:List Ms) (a2:Option Addr) (n2 c2:Nat) (l:List Sy) (hn:n<=1000000) (hn2:n2<=1000000) (w:World) (hs:SL msC 6 w w.heap.size a n L) (hs2:SL syC 4 w w.heap.size a2 n2 l) (k:Nat) (N:ByteArray) (bi se of:Int) (hk:l[k]?=some ⟨N.data.toList,bi,se,of⟩) (h0:¬ bi < 1) (h1:¬ 3 < bi) (h2:¬ se < -1) (h3:¬ (n:Int)<=se) (h4:¬ of < 0) (h5:se = -1) (h6:bi ≠ 1) (h7:of=0) (hne:N.data.toList=[]):Calls Tryz.prog 51 #[.agg #[.slice a n c,.slice a2 n2 c2],.int .i64 (k:Int)] w (RetB (.bool false) w):=by
 have hkl:k < l.length:=(List.getElem?_eq_some_iff.1 hk).1
 have hkn:k < n2:=by have:=hs2.len;omega
 have hki:(k:Int) < (n2:Int):=by omega
 have hkg:l[k]=⟨N.data.toList,bi,se,of⟩:=by have:=List.getElem?_eq_getElem hkl;rw [hk] at this;exact (Option.some.inj this).symm
 have HW1:Hid (Below w.heap.size w (w.alloc (.cells #[.slice a n c,.slice a2 n2 c2] 25))):=Lib.hid (lit_below w _)
 have hX:RB (w.alloc (.cells #[.slice a n c,.slice a2 n2 c2] 25)) w.heap.size #[.slice a n c,.slice a2 n2 c2] 25:=rb_new w _ _
 have x0:(w.alloc (.cells #[.slice a n c,.slice a2 n2 c2] 25)).cell? ⟨w.heap.size,0,none⟩=some (.slice a n c):=hX.cell
 have x1:(w.alloc (.cells #[.slice a n c,.slice a2 n2 c2] 25)).cell? ⟨w.heap.size,1,none⟩=some (.slice a2 n2 c2):=hX.cell
 obtain ⟨b2,off2,rfl,-,hc2⟩:=(hs2.next HW1.out).cells (hs2.ne hkn)
 obtain ⟨d0,d1,d2,d3⟩:=sy_cells (fun j hj=>hc2 k hkl j hj)
 rw [hkg] at d0 d1 d2 d3
 simp only [] at d0 d1 d2 d3
 have hNa:(⟨N.data.toList.toArray⟩:ByteArray)=N:=ba_ext (by simp)
 rw [hNa] at d0
 have hb2:=lit_below (w.alloc (.cells #[.slice a n c,.slice (some ⟨b2,off2,none⟩) n2 c2] 25)) (.cells #[.string N,.int .i64 bi,.int .i64 se,.int .i64 of] 66)
 have HW2:=Lib.hid (after HW1.out hb2)
 have hX2:=hX.next hb2
 have z0:((w.alloc (.cells #[.slice a n c,.slice (some ⟨b2,off2,none⟩) n2 c2] 25)).alloc (.cells #[.string N,.int .i64 bi,.int .i64 se,.int .i64 of] 66)).cell? ⟨w.heap.size,0,none⟩=some (.slice a n c):=hX2.cell
 have z1:((w.alloc (.cells #[.slice a n c,.slice (some ⟨b2,off2,none⟩) n2 c2] 25)).alloc (.cells #[.string N,.int .i64 bi,.int .i64 se,.int .i64 of] 66)).cell? ⟨w.heap.size,1,none⟩=some (.slice (some ⟨b2,off2,none⟩) n2 c2):=hX2.cell
 have hY:RB ((w.alloc (.cells #[.slice a n c,.slice (some ⟨b2,off2,none⟩) n2 c2] 25)).alloc (.cells #[.string N,.int .i64 bi,.int .i64 se,.int .i64 of] 66)) (w.alloc (.cells #[.slice a n c,.slice (some ⟨b2,off2,none⟩) n2 c2] 25)).heap.size #[.string N,.int .i64 bi,.int .i64 se,.int .i64 of] 66:=rb_new _ _ _
 rw [World.size_alloc] at hY
 have y0:((w.alloc (.cells #[.slice a n c,.slice (some ⟨b2,off2,none⟩) n2 c2] 25)).alloc (.cells #[.string N,.int .i64 bi,.int .i64 se,.int .i64 of] 66)).cell? ⟨w.heap.size+1,0,none⟩=some (.string N):=hY.cell
 have y1:((w.alloc (.cells #[.slice a n c,.slice (some ⟨b2,off2,none⟩) n2 c2] 25)).alloc (.cells #[.string N,.int .i64 bi,.int .i64 se,.int .i64 of] 66)).cell? ⟨w.heap.size+1,1,none⟩=some (.int .i64 bi):=hY.cell
 have y2:((w.alloc (.cells #[.slice a n c,.slice (some ⟨b2,off2,none⟩) n2 c2] 25)).alloc (.cells #[.string N,.int .i64 bi,.int .i64 se,.int .i64 of] 66)).cell? ⟨w.heap.size+1,2,none⟩=some (.int .i64 se):=hY.cell
 have y3:((w.alloc (.cells #[.slice a n c,.slice (some ⟨b2,off2,none⟩) n2 c2] 25)).alloc (.cells #[.string N,.int .i64 bi,.int .i64 se,.int .i64 of] 66)).cell? ⟨w.heap.size+1,3,none⟩=some (.int .i64 of):=hY.cell
 have hNe:N=⟨#[]⟩:=ba_none hne
 subst hNe
 subst h5 h7
 have e1:(bi == 1)=false:=by rw [beq_eq_false_iff_ne];exact h6
 clear h6
 clear hs hs2 hk hkl hkn hkg hc2 hX hX2 hY hb2 hNa
 go_enter Tryz.func51,Tryz.ntmps51
 go_wp2_with fail
 go_big_quiet (fail)
 go_wp2
 go_ret
 exact ⟨rfl,below_drewN HW2.out _⟩
theorem rsym_E2 (a:Option Addr) (n c:Nat) (L:List Ms) (a2:Option Addr) (n2 c2:Nat) (l:List Sy) (hn:n<=1000000) (hn2:n2<=1000000) (w:World) (hs:SL msC 6 w w.heap.size a n L) (hs2:SL syC 4 w w.heap.size a2 n2 l) (k:Nat) (N:ByteArray) (bi se of:Int) (hk:l[k]?=some ⟨N.data.toList,bi,se,of⟩) (h0:¬ bi < 1) (h1:¬ 3 < bi) (h2:¬ se < -1) (h3:¬ (n:Int)<=se) (h4:¬ of < 0) (h5:se ≠ -1) (h6:∀ t,(L.map (·.sc))[se.toNat]?=some t->of<=(t.data.length:Int)) (hne:N.data.toList=[]):Calls Tryz.prog 51 #[.agg #[.slice a n c,.slice a2 n2 c2],.int .i64 (k:Int)] w (RetB (.bool (bi == 1)) w):=by
 have hkl:k < l.length:=(List.getElem?_eq_some_iff.1 hk).1
 have hkn:k < n2:=by have:=hs2.len;omega
 have hki:(k:Int) < (n2:Int):=by omega
 have hkg:l[k]=⟨N.data.toList,bi,se,of⟩:=by have:=List.getElem?_eq_getElem hkl;rw [hk] at this;exact (Option.some.inj this).symm
 have HW1:Hid (Below w.heap.size w (w.alloc (.cells #[.slice a n c,.slice a2 n2 c2] 25))):=Lib.hid (lit_below w _)
 have hX:RB (w.alloc (.cells #[.slice a n c,.slice a2 n2 c2] 25)) w.heap.size #[.slice a n c,.slice a2 n2 c2] 25:=rb_new w _ _
 have x0:(w.alloc (.cells #[.slice a n c,.slice a2 n2 c2] 25)).cell? ⟨w.heap.size,0,none⟩=some (.slice a n c):=hX.cell
 have x1:(w.alloc (.cells #[.slice a n c,.slice a2 n2 c2] 25)).cell? ⟨w.heap.size,1,none⟩=some (.slice a2 n2 c2):=hX.cell
 obtain ⟨b2,off2,rfl,-,hc2⟩:=(hs2.next HW1.out).cells (hs2.ne hkn)
 obtain ⟨d0,d1,d2,d3⟩:=sy_cells (fun j hj=>hc2 k hkl j hj)
 rw [hkg] at d0 d1 d2 d3
 simp only [] at d0 d1 d2 d3
 have hNa:(⟨N.data.toList.toArray⟩:ByteArray)=N:=ba_ext (by simp)
 rw [hNa] at d0
 have hb2:=lit_below (w.alloc (.cells #[.slice a n c,.slice (some ⟨b2,off2,none⟩) n2 c2] 25)) (.cells #[.string N,.int .i64 bi,.int .i64 se,.int .i64 of] 66)
 have HW2:=Lib.hid (after HW1.out hb2)
 have hX2:=hX.next hb2
 have z0:((w.alloc (.cells #[.slice a n c,.slice (some ⟨b2,off2,none⟩) n2 c2] 25)).alloc (.cells #[.string N,.int .i64 bi,.int .i64 se,.int .i64 of] 66)).cell? ⟨w.heap.size,0,none⟩=some (.slice a n c):=hX2.cell
 have z1:((w.alloc (.cells #[.slice a n c,.slice (some ⟨b2,off2,none⟩) n2 c2] 25)).alloc (.cells #[.string N,.int .i64 bi,.int .i64 se,.int .i64 of] 66)).cell? ⟨w.heap.size,1,none⟩=some (.slice (some ⟨b2,off2,none⟩) n2 c2):=hX2.cell
 have hY:RB ((w.alloc (.cells #[.slice a n c,.slice (some ⟨b2,off2,none⟩) n2 c2] 25)).alloc (.cells #[.string N,.int .i64 bi,.int .i64 se,.int .i64 of] 66)) (w.alloc (.cells #[.slice a n c,.slice (some ⟨b2,off2,none⟩) n2 c2] 25)).heap.size #[.string N,.int .i64 bi,.int .i64 se,.int .i64 of] 66:=rb_new _ _ _
 rw [World.size_alloc] at hY
 have y0:((w.alloc (.cells #[.slice a n c,.slice (some ⟨b2,off2,none⟩) n2 c2] 25)).alloc (.cells #[.string N,.int .i64 bi,.int .i64 se,.int .i64 of] 66)).cell? ⟨w.heap.size+1,0,none⟩=some (.string N):=hY.cell
 have y1:((w.alloc (.cells #[.slice a n c,.slice (some ⟨b2,off2,none⟩) n2 c2] 25)).alloc (.cells #[.string N,.int .i64 bi,.int .i64 se,.int .i64 of] 66)).cell? ⟨w.heap.size+1,1,none⟩=some (.int .i64 bi):=hY.cell
 have y2:((w.alloc (.cells #[.slice a n c,.slice (some ⟨b2,off2,none⟩) n2 c2] 25)).alloc (.cells #[.string N,.int .i64 bi,.int .i64 se,.int .i64 of] 66)).cell? ⟨w.heap.size+1,2,none⟩=some (.int .i64 se):=hY.cell
 have y3:((w.alloc (.cells #[.slice a n c,.slice (some ⟨b2,off2,none⟩) n2 c2] 25)).alloc (.cells #[.string N,.int .i64 bi,.int .i64 se,.int .i64 of] 66)).cell? ⟨w.heap.size+1,3,none⟩=some (.int .i64 of):=hY.cell
 have hNe:N=⟨#[]⟩:=ba_none hne
 subst hNe
 obtain ⟨p,rfl⟩:=Int.eq_ofNat_of_zero_le (show 0<=se by omega)
 have hpn:p < n:=by omega
 have hpi:(p:Int) < (n:Int):=by omega
 have hpl:p < L.length:=by have:=hs.len;omega
 obtain ⟨b1,off1,rfl,-,hc1⟩:=(hs.next HW2.out).cells (hs.ne hpn)
 obtain ⟨-,-,-,-,c4,-⟩:=ms_cells (fun j hj=>hc1 p hpl j hj)
 obtain ⟨D,hD⟩:∃ D:ByteArray,D=⟨L[p].sc.data.toArray⟩:=⟨_,rfl⟩
 have hDs:D.size=L[p].sc.data.length:=by rw [hD];simp [ByteArray.size]
 rw [<-hD] at c4
 have hof:¬ (D.size:Int) < of:=by
  have e:(L.map (·.sc))[p]?=some L[p].sc:=by rw [List.getElem?_map,List.getElem?_eq_getElem hpl];rfl
  have:=h6 _ (by rw [Int.toNat_natCast];exact e)
  rw [hDs];omega
 have s1:((p:Int) == -1)=false:=by rw [beq_eq_false_iff_ne];omega
 have s2:(0:Int)<=(p:Int):=by omega
 clear hD hDs hc1 h6 h5
 clear hs hs2 hpl hpn hk hkl hkn hkg hc2 hX hX2 hY hb2 hNa
 go_enter Tryz.func51,Tryz.ntmps51
 go_wp2_with fail
 go_big_quiet (fail)
 go_wp2
 go_ret
 exact ⟨rfl,below_drewN HW2.out _⟩
end Go.Proofs.YthkolmebokfagaaGreatDoor
