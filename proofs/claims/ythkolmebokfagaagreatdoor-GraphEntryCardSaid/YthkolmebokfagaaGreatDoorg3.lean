/- A drawn region by hand, short. The document's objects, plain: what is right, told place by place. The document's graph, sections of objects: bases. The document's graph: Entry. The document's graph: Flat, plain. -/
import Derived.Test.YthkolmebokfagaaGreatDoorqA
import Derived.Deep.RegionHeld
import Derived.Test.YthkolmebokfagaaGreatDoorqI
import Derived.Test.YthkolmebokfagaaGreatDoorg2
import Derived.Test.YthkolmebokfagaaGreatDoorv3
set_option maxRecDepth 100000
set_option maxHeartbeats 2000000
set_option linter.unusedVariables false
set_option linter.unusedSimpArgs false
namespace Go.Proofs.YthkolmebokfagaaGreatDoor
open Go.Deep Go.RowKit
section
variable {P:Program} {ops:Array Oper} {Q:Exit->Act->World->Prop} {md:Region.Mode} {S:World->Prop} {o:Oper} {fuel:Nat} {listed:Array Bool} {a:Act} {w:World}
theorem tk (i:Nat) (v:Value) (hi:ops[i]?=some o) (hS:S w) (hy:∀ w,S w->(execOp a.eval o).run P w=.ok (.value v) w) (h:wpAnyH P md ops Q S fuel (listed.setIfInBounds i true) (a.put o.dst v) w)
  (hw:Region.wanted o (yielded ops a.tmps)=true:=by kernel_rfl) (hs:Region.noSelect ops=true:=by kernel_rfl) (hf:Region.free md ops listed i=true:=by kernel_rfl) (hr:(Region.ready md ops listed).contains i=true:=by kernel_rfl)
  (hQ:∀ c a w,Q (.panic c) (a.put o.dst v) w->Q (.panic c) a w:=by exact fun _ _ _ h=>h):wpAnyH P md ops Q S (fuel+1) listed a w:=
 wpAnyH_take hi hs hf hr hQ (Or.inl ⟨hw,hy⟩) hS h
theorem sk (i:Nat) (hi:ops[i]?=some o) (hS:S w) (h:wpAnyH P md ops Q S fuel (listed.setIfInBounds i true) (a.put o.dst undef) w)
  (hw:Region.wanted o (yielded ops a.tmps)=false:=by kernel_rfl) (hs:Region.noSelect ops=true:=by kernel_rfl) (hf:Region.free md ops listed i=true:=by kernel_rfl) (hr:(Region.ready md ops listed).contains i=true:=by kernel_rfl)
  (hQ:∀ c a w,Q (.panic c) (a.put o.dst undef) w->Q (.panic c) a w:=by exact fun _ _ _ h=>h):wpAnyH P md ops Q S (fuel+1) listed a w:=
 wpAnyH_take hi hs hf hr hQ (Or.inr ⟨hw,rfl⟩) hS h
theorem rd (i:Nat) (ho:ops[i]?=some o) (h:∀ K':Act->World->Prop,Shut (∀ a w,S w->(S w->wpAnyH P md ops Q S fuel (listed.setIfInBounds i true) a w)->K' a w)->if Region.wanted o (yielded ops a.tmps)=true then Oper.wp P o a w K' Q else K' (a.put o.dst undef) w)
  (hr:Region.ready md ops listed=[i]:=by kernel_rfl):wpAnyH P md ops Q S (fuel+1) listed a w:=
 wpAnyH_ready hr (by simp) (AllReadyH.cons ho h AllReadyH.nil)
end
end Go.Proofs.YthkolmebokfagaaGreatDoor
namespace Go.Proofs.YthkolmebokfagaaGreatDoor
open Go.ChangeShapes Go.WideShapes Go.Deep Go.RowKit
theorem secsR_iff (k:Int):∀ (l:List Sc) (seen:List (List UInt8)),secsR k seen l=true ↔ ∀ (i:Nat) (s:Sc),l[i]?=some s->s.name ∉ seen/\secR s=true/\(∀ (j:Nat) (t:Sc),j < i->l[j]?=some t->t.name ≠ s.name)/\∀ r ∈ s.rels,r.sym < k
 | [],seen=>by simp [secsR]
 | s :: t,seen=>by
  unfold secsR
  constructor
  ·intro h
   split at h
   ·cases h
   ·rename_i h1
    split at h
    ·cases h
    ·rename_i h2
     have h3:=(secsR_iff k t (seen ++ [s.name])).1 h
     have h1a:s.name ∉ seen:=fun e=>h1 (.inl e)
     have h1b:secR s=true:=by cases hs:secR s;exact absurd (.inr hs) h1;rfl
     intro i x hx
     cases i with
     | zero=>
      simp only [List.getElem?_cons_zero,Option.some.injEq] at hx
      subst hx
      refine ⟨h1a,h1b,fun j _ hj=>absurd hj (by omega),fun r hr=>?_⟩
      apply Classical.byContradiction
      intro hc
      exact h2 (List.any_eq_true.2 ⟨r,hr,decide_eq_true (by omega)⟩)
     | succ i=>
      rw [List.getElem?_cons_succ] at hx
      obtain ⟨g1,g2,g3,g4⟩:=h3 i x hx
      refine ⟨fun e=>g1 (List.mem_append.2 (.inl e)),g2,fun j y hj hy=>?_,g4⟩
      cases j with
      | zero=>
       simp only [List.getElem?_cons_zero,Option.some.injEq] at hy
       subst hy
       exact fun e=>g1 (List.mem_append.2 (.inr (by rw [e];simp)))
      | succ j=>exact g3 j y (by omega) (by rwa [List.getElem?_cons_succ] at hy)
  ·intro h
   obtain ⟨a1,a2,-,a4⟩:=h 0 s rfl
   rw [if_neg (by rintro (e | e);exact a1 e;rw [a2] at e;cases e),if_neg (by
    intro e
    obtain ⟨r,hr,hd⟩:=List.any_eq_true.1 e
    have:=a4 r hr
    have:=of_decide_eq_true hd
    omega)]
   refine (secsR_iff k t (seen ++ [s.name])).2 fun i x hx=>?_
   obtain ⟨g1,g2,g3,g4⟩:=h (i+1) x (by rwa [List.getElem?_cons_succ])
   refine ⟨fun e=>?_,g2,fun j y hj hy=>g3 (j+1) y (by omega) (by rwa [List.getElem?_cons_succ]),g4⟩
   rcases List.mem_append.1 e with e | e
   ·exact g1 e
   ·rw [List.mem_singleton] at e
    exact g3 0 s (by omega) rfl e.symm
end Go.Proofs.YthkolmebokfagaaGreatDoor
namespace Go.Proofs.YthkolmebokfagaaGreatDoor
open Go.ChangeShapes Go.WideShapes Go.Deep Go.RowKit
def basN:Nat->List Nat->List Nat
 | _,[]=>[]
 | s,x :: t=>s :: basN (s+x) t
theorem basN_snoc:∀ (l:List Nat) (s x:Nat),basN s (l ++ [x])=basN s l ++ [s+l.sum]
 | [],s,x=>by simp [basN]
 | y :: t,s,x=>by
  show s :: basN (s+y) (t ++ [x])=s :: basN (s+y) t ++ [s+(y :: t).sum]
  rw [basN_snoc t (s+y) x,List.sum_cons]
  simp [Nat.add_assoc]
theorem basN_get:∀ (l:List Nat) (s k:Nat),k < l.length->(basN s l)[k]?=some (s+(l.take k).sum)
 | [],s,k,h=>by simp at h
 | y :: t,s,0,h=>by simp [basN]
 | y :: t,s,k+1,h=>by
  show (basN (s+y) t)[k]?=_
  rw [basN_get t (s+y) k (by simpa using h),List.take_succ_cons,List.sum_cons,Nat.add_assoc]
def lensO (Os:List Ox):List Nat:=Os.map (·.L.length)
def BasP (ls:List Nat) (w:World) (e:Ending) (w':World):Prop:=∃ a c,e=.returned (.slice a ls.length c)/\SL enI 1 w' w'.heap.size a ls.length (basN 0 ls)/\Below w.heap.size w w'
theorem RQ.sl {w u:World} {l:List Nat} {a:Option Addr} {c:Nat} (h:RQ w u l a c):SL enI 1 u u.heap.size a l.length l:=by
 obtain ⟨a',c',e,h',-⟩:=SL.ofOwns (enc:=enI) (fun _=>rfl) (by decide) h.oo
 injection e with e1 e2 e3
 subst e1
 exact h'
theorem bases_any (a:Option Addr) (n c:Nat) (Os:List Ox) (w:World) (hO:OS w w.heap.size a n Os) (hn:n<=8) (hs:∀ o ∈ Os,o.L.length<=32):
  Calls Tryz.prog 60 #[.slice a n c] w (BasP (lensO Os) w):=by
 obtain ⟨i0,hi,hz0,hz1,hz2⟩:=info_parts info_intG
 have HO:=Lib.hid hO
 have HLn:=Lib.hid hO.sl.len
 have HS:=Lib.hid hs
 have hni:(n:Int)<=8:=by omega
 have HN:=Lib.hid hn
 have HLe:Hid ((lensO Os).length=n):=Lib.hid (by unfold lensO;rw [List.length_map,hO.sl.len])
 clear hO hs hn
 go_enter Tryz.func60,Tryz.ntmps60
 go_wp2_with fail
 go_loopw [3,4,9] (fun l s i wr=>∃ (k S:Nat) (wx:World) (rs:List Nat) (a:Option Addr) (c:Nat),wx=wr/\k<=n/\l=.slice a k c/\s=.int .i64 S/\i=.int .i64 k/\Hid (k=rs.length)/\Hid (RQ w wx rs a c)/\Hid (rs=basN 0 ((lensO Os).take k))/\Hid (S=((lensO Os).take k).sum)/\Hid (S<=32*k)) (fun _ _ i _=>n - (intOf i).toNat)
 case atStart=>exact ⟨0,0,_,[],none,0,rfl,by omega,rfl,rfl,rfl,Lib.hid rfl,Lib.hid ⟨World.ownsRow_nil _ _ _ _,Below.refl _ _⟩,Lib.hid rfl,Lib.hid (by simp),Lib.hid (by omega)⟩
 case round=>
  obtain ⟨k,S,wx,rs,ra,rc,rfl,hk,rfl,rfl,rfl,HQq,HQ,HRs,HSu,HSb⟩:=hrel
  by_cases hlt:k < n
  ·have hlti:(k:Int) < (n:Int):=by omega
   have hkl:k < Os.length:=by have:=HLn.out;omega
   have hO1:=HO.out.next HQ.out.kk
   obtain ⟨bb,off,hae,-,hcc⟩:=hO1.sl.cells (by intro e;rw [e] at hkl;simp at hkl)
   subst hae
   obtain ⟨c0,c1⟩:=ox_cells (fun j hj=>hcc k hkl j hj)
   obtain ⟨o,ho⟩:∃ o,o=Os[k]:=⟨_,rfl⟩
   have HOl:Hid (o.L.length<=32):=Lib.hid (HS.out o (by rw [ho];exact List.getElem_mem hkl))
   have HTk:Hid ((lensO Os).take (k+1)=(lensO Os).take k ++ [o.L.length]):=Lib.hid (by unfold lensO;rw [List.take_add_one,List.getElem?_map,List.getElem?_eq_getElem hkl,ho];rfl)
   rw [<-ho] at c0 c1
   obtain ⟨oa,oc,oL,oa2,oc2,ol⟩:=o
   simp only [] at c0 c1 HOl HTk
   obtain ⟨on,hon⟩:∃ on,on=oL.length:=⟨_,rfl⟩
   obtain ⟨om,hom⟩:∃ om,om=ol.length:=⟨_,rfl⟩
   rw [<-hon] at c0 HOl HTk
   rw [<-hom] at c1
   have HLt:=Lib.hid hlt
   have HR2:Hid (rs ++ [S]=basN 0 ((lensO Os).take (k+1))):=Lib.hid (by rw [HTk.out,basN_snoc,<-HRs.out,Nat.zero_add,<-HSu.out])
   have HS2:Hid (S+on=((lensO Os).take (k+1)).sum):=Lib.hid (by rw [HTk.out,List.sum_append,<-HSu.out];simp)
   have hb1:(S:Int)<=256:=by have:=HSb.out;have:=HN.out;omega
   have hb2:(on:Int)<=32:=by have:=HOl.out;omega
   have HQ1:=Lib.hid (HQ.out.alloc (.cells #[.slice oa on oc,.slice oa2 om oc2] 25))
   have HNw:Hid (((wx.alloc (.cells #[.slice oa on oc,.slice oa2 om oc2] 25)).alloc (.cells #[.int .i64 (S:Int)] 3)).heap[wx.heap.size+1]?=some (.cells #[.int .i64 (S:Int)] 3)):=Lib.hid (by have:=heap_alloc_new (wx.alloc (.cells #[.slice oa on oc,.slice oa2 om oc2] 25)) (.cells #[.int .i64 (S:Int)] 3);rw [World.size_alloc] at this;exact this)
   have hx0:Hid (w.heap.size<=wx.heap.size):=Lib.hid HQ.out.kk.size
   have hql:Hid (k<=8):=Lib.hid (by have:=HN.out;omega)
   have HBx:Hid (RB (wx.alloc (.cells #[.slice oa on oc,.slice oa2 om oc2] 25)) wx.heap.size #[.slice oa on oc,.slice oa2 om oc2] 25):=Lib.hid (rb_new _ _ _)
   have HNe:Hid (some wx.heap.size ≠ (Value.slice ra k rc).ownBlock):=Lib.hid (fun e=>by have:=HQ.out.oo.lt wx.heap.size (by rw [<-HQq.out];exact e.symm);omega)
   have HBc:Hid (((wx.alloc (.cells #[.slice oa on oc,.slice oa2 om oc2] 25)).alloc (.cells #[.int .i64 (S:Int)] 3)).cell? ⟨wx.heap.size,0,none⟩=some (.slice oa on oc)):=Lib.hid ((HBx.out.next (lit_below _ _)).cell)
   clear hcc hkl ho hO1 hon hom hlt hk HTk HBx
   go_wp2_with (at_builtin;refine wpList_append_lies _ rfl _ _ 107 rfl w.heap.size 3 i0 (.int .i64 0) 1 8 Tryz.underlying107 hi hz0 hz1 hz2 rfl (by decide) (.slice ra k rc) k (rs.flatMap enI) rfl (by have:=HQ1.out.oo;rw [<-HQq.out] at this;exact this.alloc _) ⟨wx.heap.size+1,0,none⟩ 1 1 (enI S) rfl rfl (World.news_of_block (cs:=#[.int .i64 (S:Int)]) (t:=3) (fr:=(0,0)) HNw.out) (by simp [enI,Value.oneCell']) (by decide) (by have:=hql.out;unfold maxLen;omega) (by have:=hql.out;omega) (by have:=hx0.out;simp;omega) (wx.heap.size+1+1) (by simp) ?_;intro g cap w2 hown2 hgrow2 hlie2 hlt2;have b0:w2.cell? ⟨wx.heap.size,0,none⟩=some (.slice oa on oc):=hgrow2.cell HBc.out HNe.out)
   rw [HQq.out] at hown2 hgrow2
   have HQ2:=Lib.hid (HQ1.out.grow hown2 hgrow2)
   have HQq2:Hid (k+1=(rs ++ [S]).length):=Lib.hid (by rw [HQq.out];simp)
   clear hown2 hgrow2 hlie2 hlt2 HQ1 HNw
   go_wp2
   go_roundw
   case rel=>exact ⟨k+1,S+on,_,_,_,_,rfl,by have:=HLt.out;omega,rfl,by go_num,by go_num,HQq2,HQ2,HR2,HS2,Lib.hid (by have:=HSb.out;have:=HOl.out;omega)⟩
   case measure=>have:=HLt.out;simp [intOf];omega
  ·obtain rfl:n=k:=by omega
   have hge:¬ (n:Int) < (n:Int):=by omega
   have HRe:Hid (rs=basN 0 (lensO Os)):=Lib.hid (by have:=HRs.out;rw [List.take_of_length_le (by rw [HLe.out];omega)] at this;exact this)
   clear hlt hk
   go_wp2
   go_ret
   exact ⟨ra,rc,by rw [HLe.out];rfl,by rw [<-HRe.out,HLe.out,HQq.out];exact HQ.out.sl,HQ.out.kk⟩
end Go.Proofs.YthkolmebokfagaaGreatDoor
namespace Go.Proofs.YthkolmebokfagaaGreatDoor
open Go.ChangeShapes Go.WideShapes Go.Deep Go.RowKit
theorem find_in {os:List Ob} {nm:List UInt8} {p:Pl} (h:findO os nm=some p):checkL os=0/\∃ (k q:Nat) (f:Int) (o:Ob) (s:Sc),p=⟨(k:Int),(q:Int),f⟩/\os[k]?=some o/\o.secs[q]?=some s/\0<=f/\f<=(s.data.length:Int):=by
 unfold findO at h
 split at h
 ·cases h
 ·rename_i hh
  have hc:checkL os=0:=by
   apply Classical.byContradiction;intro hc;exact hh (.inr hc)
  obtain ⟨a,ha,-,-,hs,rfl,-⟩:=plcL_some h
  obtain ⟨o,h1,-,-,h4,-⟩:=right_at hc ha
  obtain ⟨t1,t2,t3,t,t4,t5⟩:=(stands_iff h4).2.2.2 hs
  exact ⟨hc,a.k,a.y.sec.toNat,a.y.off,o,t,by unfold plOf;rw [Int.toNat_of_nonneg t1],h1,t4,t3,t5⟩
def EntP (x y c:Int) (w:World) (e:Ending) (w':World):Prop:=e=.returned (.tuple #[.int .i64 x,.int .i64 y,.int .i64 c])/\Below w.heap.size w w'
theorem entry_no (a:Option Addr) (n c:Nat) (Os:List Ox) (N:ByteArray) (hN:N.size<=maxLen) (w:World) (hO:OS w w.heap.size a n Os) (hT:TabP w) (hf:findO (Os.map obOf) N.data.toList=none):
  Calls Tryz.prog 27 #[.slice a n c,.string N] w (EntP 0 0 8 w):=by
 have HF:=Lib.hid (sFind_any a n c Os N hN w hO hT)
 rw [hf] at HF
 clear hO hT hf
 go_enter Tryz.func27,Tryz.ntmps27
 go_wp2_with fail
 refine HF.out.mono ?_
 rintro e u ⟨rfl,hb⟩
 have HB:Hid (Below w.heap.size w (u.alloc (.cells #[.int .i64 0,.int .i64 0,.int .i64 0] 46))):=Lib.hid (hb.alloc hb.size _)
 clear hb
 simp only [Option.getD_none,plZ,Option.isSome_none]
 go_wp2
 go_quiet (fail)
 go_wp2
 refine bodyPost_ret (v:=.tuple #[.int .i64 0,.int .i64 0,.int .i64 8]) (by simp [results,Tryz.results27,go_sem]) rfl ?_
 exact ⟨rfl,below_drewN HB.out _⟩
theorem entry_bad (a:Option Addr) (n c:Nat) (Os:List Ox) (N:ByteArray) (hN:N.size<=maxLen) (w:World) (hO:OS w w.heap.size a n Os) (hT:TabP w) (k q:Nat) (f:Int) (hf:findO (Os.map obOf) N.data.toList=some ⟨(k:Int),(q:Int),f⟩) (o:Ox) (m:Ms) (ho:Os[k]?=some o) (hm:o.L[q]?=some m) (hbad:(m.sc.kind != 1)=true\/((m.sc.kind != 1)=false/\(f % 4 != 0)=true)) (h0:0<=f):
  Calls Tryz.prog 27 #[.slice a n c,.string N] w (EntP 0 0 8 w):=by
 have HF:=Lib.hid (sFind_any a n c Os N hN w hO hT)
 rw [hf] at HF
 have hkn:k < Os.length:=(List.getElem?_eq_some_iff.1 ho).1
 have hqn:q < o.L.length:=(List.getElem?_eq_some_iff.1 hm).1
 have hki:(k:Int) < (n:Int):=by have:=hO.sl.len;omega
 have hqi:(q:Int) < (o.L.length:Int):=by omega
 have HO:=Lib.hid hO
 clear hT hf hO
 go_enter Tryz.func27,Tryz.ntmps27
 go_wp2_with fail
 refine HF.out.mono ?_
 rintro e u ⟨rfl,hb⟩
 have HB:Hid (Below w.heap.size w (u.alloc (.cells #[.int .i64 (k:Int),.int .i64 (q:Int),.int .i64 f] 46))):=Lib.hid (hb.alloc hb.size _)
 have hO1:=HO.out.next HB.out
 obtain ⟨bb,off,hae,-,hcc⟩:=hO1.sl.cells (by intro e;rw [e] at hkn;simp at hkn)
 subst hae
 obtain ⟨c0,c1⟩:=ox_cells (fun j hj=>hcc k hkn j hj)
 have hok:Os[k]=o:=by have:=ho;rw [List.getElem?_eq_getElem hkn] at this;exact Option.some.inj this
 rw [hok] at c0 c1
 obtain ⟨b2,off2,hae2,-,hc2⟩:=(hO1.s1 o (List.mem_of_getElem? ho)).cells (by intro e;rw [e] at hqn;simp at hqn)
 obtain ⟨d0,d1,d2,d3,d4,d5⟩:=ms_cells (fun j hj=>hc2 q hqn j hj)
 have hmk:o.L[q]=m:=by have:=hm;rw [List.getElem?_eq_getElem hqn] at this;exact Option.some.inj this
 rw [hmk] at d1
 rw [hae2] at c0
 obtain ⟨on,hon⟩:∃ on,on=o.L.length:=⟨_,rfl⟩
 rw [<-hon] at c0 hqi
 generalize m.sc.kind=kd at*
 generalize o.c=oc at*
 clear hb hcc hc2 hO1 d0 d2 d3 d4 d5 c1 hae2 hok hmk hon ho hm hkn hqn
 simp only [Option.getD_some,Option.isSome_some]
 rcases hbad with hbad | ⟨hb1,hbad⟩
 ·go_wp2
  go_quiet (fail)
  go_wp2
  refine bodyPost_ret (v:=.tuple #[.int .i64 0,.int .i64 0,.int .i64 8]) (by simp [results,Tryz.results27,go_sem]) rfl ?_
  exact ⟨rfl,below_drewN HB.out _⟩
 ·go_wp2
  go_quiet (fail)
  go_wp2
  refine bodyPost_ret (v:=.tuple #[.int .i64 0,.int .i64 0,.int .i64 8]) (by simp [results,Tryz.results27,go_sem]) rfl ?_
  exact ⟨rfl,below_drewN HB.out _⟩
theorem sum_small:∀ {l:List Nat} {c:Nat},(∀ x ∈ l,x<=32)->l.length<=c->l.sum<=32*c
 | [],c,_,_=>by simp
 | y :: t,c,h,hl=>by
  have h1:=h y (by simp)
  have h2:=sum_small (l:=t) (c:=c - 1) (fun x hx=>h x (List.mem_cons_of_mem _ hx)) (by simp at hl;omega)
  simp at hl
  rw [List.sum_cons];omega
theorem entry_ok (a:Option Addr) (n c:Nat) (Os:List Ox) (N:ByteArray) (hN:N.size<=maxLen) (w:World) (hO:OS w w.heap.size a n Os) (hT:TabP w) (k q:Nat) (f:Int) (hf:findO (Os.map obOf) N.data.toList=some ⟨(k:Int),(q:Int),f⟩) (o:Ox) (m:Ms) (ho:Os[k]?=some o) (hm:o.L[q]?=some m) (hk1:m.sc.kind=1) (hf4:f % 4=0) (h0:0<=f) (hn8:n<=8) (hs32:∀ o ∈ Os,o.L.length<=32):
  Calls Tryz.prog 27 #[.slice a n c,.string N] w (EntP ((((lensO Os).take k).sum+q:Nat):Int) f 0 w):=by
 have HF:=Lib.hid (sFind_any a n c Os N hN w hO hT)
 rw [hf] at HF
 have HBs:Hid (∀ u,Below w.heap.size w u->Calls Tryz.prog 60 #[.slice a n c] u (BasP (lensO Os) u)):=Lib.hid fun u hu=>bases_any a n c Os u (hO.next hu) hn8 hs32
 have hkn:k < Os.length:=(List.getElem?_eq_some_iff.1 ho).1
 have hqn:q < o.L.length:=(List.getElem?_eq_some_iff.1 hm).1
 have hki:(k:Int) < (n:Int):=by have:=hO.sl.len;omega
 have hqi:(q:Int) < (o.L.length:Int):=by omega
 have HLl:Hid ((lensO Os).length=n):=Lib.hid (by unfold lensO;rw [List.length_map,hO.sl.len])
 have HGt:Hid ((basN 0 (lensO Os))[k]?=some (((lensO Os).take k).sum)):=Lib.hid (by rw [basN_get _ _ _ (by unfold lensO;rw [List.length_map];exact hkn),Nat.zero_add])
 have HSm:Hid (((lensO Os).take k).sum<=256):=Lib.hid (sum_small (l:=(lensO Os).take k) (c:=8) (fun x hx=>by have hx:=List.mem_of_mem_take hx;unfold lensO at hx;obtain ⟨o,ho,rfl⟩:=List.mem_map.1 hx;exact hs32 o ho) (by rw [List.length_take,HLl.out];omega))
 have HQs:Hid (q<=32):=Lib.hid (by have:=hs32 o (List.mem_of_getElem? ho);omega)
 generalize ((lensO Os).take k).sum=S at*
 have HO:=Lib.hid hO
 have hqb:(f % 4 != 0)=false:=by rw [hf4];rfl
 have hsi:(S:Int)<=256:=by have:=HSm.out;omega
 have hqs:(q:Int)<=32:=by have:=HQs.out;omega
 clear hT hf hO hf4 hs32
 go_enter Tryz.func27,Tryz.ntmps27
 go_wp2_with fail
 refine HF.out.mono ?_
 rintro e u ⟨rfl,hb⟩
 have HX:Hid (RB (u.alloc (.cells #[.int .i64 (k:Int),.int .i64 (q:Int),.int .i64 f] 46)) u.heap.size #[.int .i64 (k:Int),.int .i64 (q:Int),.int .i64 f] 46):=Lib.hid (rb_new _ _ _)
 have HB:Hid (Below w.heap.size w (u.alloc (.cells #[.int .i64 (k:Int),.int .i64 (q:Int),.int .i64 f] 46))):=Lib.hid (hb.alloc hb.size _)
 have hO1:=HO.out.next HB.out
 obtain ⟨bb,off,hae,-,hcc⟩:=hO1.sl.cells (by intro e;rw [e] at hkn;simp at hkn)
 subst hae
 obtain ⟨c0,c1⟩:=ox_cells (fun j hj=>hcc k hkn j hj)
 have hok:Os[k]=o:=by have:=ho;rw [List.getElem?_eq_getElem hkn] at this;exact Option.some.inj this
 rw [hok] at c0 c1
 obtain ⟨b2,off2,hae2,-,hc2⟩:=(hO1.s1 o (List.mem_of_getElem? ho)).cells (by intro e;rw [e] at hqn;simp at hqn)
 obtain ⟨d0,d1,d2,d3,d4,d5⟩:=ms_cells (fun j hj=>hc2 q hqn j hj)
 have hmk:o.L[q]=m:=by have:=hm;rw [List.getElem?_eq_getElem hqn] at this;exact Option.some.inj this
 rw [hmk,hk1] at d1
 rw [hae2] at c0
 obtain ⟨on,hon⟩:∃ on,on=o.L.length:=⟨_,rfl⟩
 rw [<-hon] at c0 hqi
 generalize o.c=oc at*
 have HKn:=Lib.hid hkn
 clear hb hcc hc2 hO1 d0 d2 d3 d4 d5 c1 hae2 hok hmk hon ho hm hkn hqn hk1
 simp only [Option.getD_some,Option.isSome_some]
 go_wp2
 go_quiet (fail)
 clear c0 d1 hqb
 rename_i nq _ _ _
 obtain ⟨V,hV⟩:∃ V,V=(u.alloc (.cells #[.int .i64 (k:Int),.int .i64 (q:Int),.int .i64 f] 46)).drewN nq:=⟨_,rfl⟩
 rw [<-hV]
 have HBV:Hid (Below w.heap.size w V):=Lib.hid (by rw [hV];exact below_drewN HB.out _)
 have HXV:Hid (RB V u.heap.size #[.int .i64 (k:Int),.int .i64 (q:Int),.int .i64 f] 46):=Lib.hid (by rw [hV];exact HX.out)
 obtain ⟨X,hX⟩:∃ X,X=u.heap.size:=⟨_,rfl⟩
 rw [<-hX] at HXV ⊢
 clear HB HX hV hX
 go_wp2_with fail
 have HBd:Hid (Below w.heap.size w V.drew):=Lib.hid HBV.out.drew
 have HBe:Hid (Below V.heap.size V V.drew):=Lib.hid (Below.refl _ _).drew
 have HcX:Hid (∀ v,Below V.heap.size V v->v.cell? ⟨X,0,none⟩=some (.int .i64 (k:Int))/\v.cell? ⟨X,1,none⟩=some (.int .i64 (q:Int))/\v.cell? ⟨X,2,none⟩=some (.int .i64 f)):=Lib.hid fun v hv=>⟨(HXV.out.next hv).cell,(HXV.out.next hv).cell,(HXV.out.next hv).cell⟩
 refine wp_region_held_drew (S:=fun v=>v.cell? ⟨X,0,none⟩=some (.int .i64 (k:Int))/\v.cell? ⟨X,1,none⟩=some (.int .i64 (q:Int))/\v.cell? ⟨X,2,none⟩=some (.int .i64 f)) (by kernel_rfl) (HcX.out _ HBe.out) (fun hHeld=>?_)
 refine tk 0 ?_ rfl hHeld ?_ ?_
 rotate_left 1
 ·intro w hS;obtain ⟨_,_,_⟩:=hS;go_simp;(try with_reducible rfl)
 (try simp only [Act.put,List.setIfInBounds_toArray,List.set_cons_zero,List.set_cons_succ])
 refine tk 2 ?_ rfl hHeld ?_ ?_
 rotate_left 1
 ·intro w hS;obtain ⟨_,_,_⟩:=hS;go_simp;(try with_reducible rfl)
 (try simp only [Act.put,List.setIfInBounds_toArray,List.set_cons_zero,List.set_cons_succ])
 refine tk 3 ?_ rfl hHeld ?_ ?_
 rotate_left 1
 ·intro w hS;obtain ⟨_,_,_⟩:=hS;go_simp;(try with_reducible rfl)
 (try simp only [Act.put,List.setIfInBounds_toArray,List.set_cons_zero,List.set_cons_succ])
 refine tk 6 ?_ rfl hHeld ?_ ?_
 rotate_left 1
 ·intro w hS;obtain ⟨_,_,_⟩:=hS;go_simp;(try with_reducible rfl)
 (try simp only [Act.put,List.setIfInBounds_toArray,List.set_cons_zero,List.set_cons_succ])
 refine tk 7 ?_ rfl hHeld ?_ ?_
 rotate_left 1
 ·intro w hS;obtain ⟨_,_,_⟩:=hS;go_simp;(try with_reducible rfl)
 (try simp only [Act.put,List.setIfInBounds_toArray,List.set_cons_zero,List.set_cons_succ])
 refine tk 9 ?_ rfl hHeld ?_ ?_
 rotate_left 1
 ·intro w hS;obtain ⟨_,_,_⟩:=hS;go_simp;(try with_reducible rfl)
 (try simp only [Act.put,List.setIfInBounds_toArray,List.set_cons_zero,List.set_cons_succ])
 refine tk 10 ?_ rfl hHeld ?_ ?_
 rotate_left 1
 ·intro w hS;obtain ⟨_,_,_⟩:=hS;go_simp;(try with_reducible rfl)
 (try simp only [Act.put,List.setIfInBounds_toArray,List.set_cons_zero,List.set_cons_succ])
 refine rd 1 rfl (fun K hK=>?_)
 go_simp
 go_wp2_with (go_at_call 60;refine (HBs.out _ HBd.out).mono ?_;rintro e v1 ⟨ba,bc,rfl,hsl,hb1⟩)
 have HBw1:=Lib.hid (after HBd.out hb1)
 have HcY:=Lib.hid (HcX.out _ (after HBe.out hb1))
 obtain ⟨b3,off3,hae3,-,hc3⟩:=hsl.cells (by intro e;have:=HGt.out;rw [e] at this;simp at this)
 subst hae3
 have e0:=hc3 k (by have:=(List.getElem?_eq_some_iff.1 HGt.out).1;exact this) 0 (by decide)
 have e1:v1.cell? ⟨b3,off3+k,none⟩=some (.int .i64 (S:Int)):=by
  have h2:=HGt.out
  rw [List.getElem?_eq_getElem ((List.getElem?_eq_some_iff.1 HGt.out).1)] at h2
  rw [Option.some.inj h2] at e0
  simp only [Nat.mul_one,Nat.add_zero] at e0
  exact e0
 rw [HLl.out]
 clear hb1 hsl hc3 e0
 refine hK.out _ _ HcY.out (fun hHeld1=>?_)
 clear hK K
 refine rd 4 rfl (fun K hK=>?_)
 go_simp
 refine hK.out _ _ (HcY.out) (fun hHeld2=>?_)
 clear hK K
 refine rd 5 rfl (fun K hK=>?_)
 go_simp
 refine hK.out _ _ (HcY.out) (fun hHeld3=>?_)
 clear hK K
 refine rd 8 rfl (fun K hK=>?_)
 go_simp
 refine hK.out _ _ (HcY.out) (fun hHeld4=>?_)
 clear hK K
 refine rd 11 rfl (fun K hK=>?_)
 go_simp
 refine hK.out _ _ (HcY.out) (fun hHeld5=>?_)
 clear hK K
 refine rd 12 rfl (fun K hK=>?_)
 go_simp
 refine hK.out _ _ (HcY.out) (fun hHeld8=>?_)
 clear hK K
 refine rd 13 rfl (fun K hK=>?_)
 go_simp
 refine hK.out _ _ (HcY.out) (fun hHeld9=>?_)
 clear hK K
 refine wpAnyH_done (by kernel_rfl) ?_ _
 go_wp2
 have hww:IntKind.i64.wrap ((S:Int)+(q:Int))=(S:Int)+(q:Int):=by rw [IntKind.wrap_i64];omega
 refine bodyPost_ret (v:=.tuple #[.int .i64 ((S:Int)+q),.int .i64 f,.int .i64 0]) (by simp [results,Tryz.results27,go_sem,hww]) rfl ?_
 exact ⟨by rw [Int.natCast_add],HBw1.out⟩
end Go.Proofs.YthkolmebokfagaaGreatDoor
namespace Go.Proofs.YthkolmebokfagaaGreatDoor
open Go.ChangeShapes Go.WideShapes Go.Deep Go.RowKit
theorem ob_get {Os:List Ox} {i:Nat} {o:Ox} (h:Os[i]?=some o):(Os.map obOf)[i]?=some (obOf o):=by rw [List.getElem?_map,h];rfl
theorem need_in {o:Ob} (h:isO o=true) {q:Nat} {s:Sc} (hs:o.secs[q]?=some s) {r:Rl} (hr:r ∈ s.rels):0<=r.sym/\r.sym < (o.syms.length:Int)/\s.rels.length<=64:=by
 have hq:q < o.secs.length:=(List.getElem?_eq_some_iff.1 hs).1
 unfold isO secsL at h
 simp only [Bool.and_eq_true] at h
 have h3:=(secsR_iff _ _ _).1 h.1.2 q s hs
 have h2:=sec_ok h3.2.1
 refine ⟨(h2.all r hr).s0,h3.2.2.2 r hr,?_⟩
 have:=h3.2.1
 unfold secR headR at this
 simp only [Bool.and_eq_true,decide_eq_true_eq] at this
 exact this.1.2
structure PlIn (n:Nat) (p:Pl):Prop where
 o0:0<=p.obj
 o1:p.obj < (n:Int)
 s0:0<=p.sec
 s1:p.sec<=32
 f0:0<=p.off
 f1:p.off<=4096
theorem plIn_at {os:List Ob} (hc:checkL os=0) {a:At} (ha:a ∈ flatO os) (hs:a.y.sec ≠ -1):PlIn os.length (plOf a):=by
 obtain ⟨o,h1,h2,-,h4,-⟩:=right_at hc ha
 obtain ⟨t1,t2,t3,t,t4,t5⟩:=(stands_iff h4).2.2.2 hs
 have hk:=(List.getElem?_eq_some_iff.1 h1).1
 have h32:=(isO_syms h2).2.2
 have h5:=h2
 unfold isO secsL at h5
 simp only [Bool.and_eq_true] at h5
 have h3:=((secsR_iff _ _ _).1 h5.1.2 a.y.sec.toNat t t4).2.1
 unfold secR headR at h3
 simp only [Bool.and_eq_true,decide_eq_true_eq] at h3
 have h6:=h3.1.1.2
 exact ⟨by show (0:Int)<=(a.k:Int);omega,by show (a.k:Int) < _;omega,t1,by show a.y.sec<=32;omega,t3,by show a.y.off<=4096;omega⟩
theorem row_in {os:List Ob} (hf:faultL os=flZ) {i:Nat} {x:List Pl} (hx:(rowsL os)[i]?=some x):∃ o,os[i]?=some o/\x.length=o.syms.length/\∀ p ∈ x,PlIn os.length p:=by
 have hc:checkL os=0:=by
  apply Classical.byContradiction
  intro hc
  rw [fault_ck hc] at hf
  exact hc (congrArg Flt.code hf)
 have hlost:∀ a ∈ flatO os,lostB (plcL (flatO os)) a=false:=by
  cases htw:(flatO os).find? (twiceB (plcL (flatO os))) with
  | some x=>rw [fault_tw hc htw] at hf;exact absurd (congrArg Flt.code hf) (by simp [fltAt,flZ])
  | none=>
   rw [fault_lo hc htw] at hf
   cases hl:(flatO os).find? (lostB (plcL (flatO os))) with
   | some x=>rw [hl] at hf;exact absurd (congrArg Flt.code hf) (by simp [fltAt,flZ])
   | none=>intro a ha;have:=List.find?_eq_none.1 hl a ha;simpa using this
 unfold rowsL at hx
 rw [rowsA_get,List.getElem?_map] at hx
 cases ho:os[i]? with
 | none=>rw [ho] at hx;cases hx
 | some o=>
  rw [ho] at hx
  simp only [Option.map_some,Option.some.injEq] at hx
  refine ⟨o,rfl,by rw [<-hx,List.length_map],fun p hp=>?_⟩
  rw [<-hx] at hp
  obtain ⟨y,hy,rfl⟩:=List.mem_map.1 hp
  obtain ⟨j,hj⟩:=List.getElem?_of_mem hy
  have ha:(⟨i,j,y⟩:At) ∈ flatO os:=mem_flatO.2 ⟨o,ho,hj⟩
  rw [Nat.zero_add]
  unfold placeA
  obtain ⟨o',h1,-,-,h4,-⟩:=right_at hc ha
  have hst:=stands_iff h4
  split
  ·rename_i hb
   have:y.sec ≠ -1:=fun e=>(hst.2.2.1 e).1 hb
   exact plIn_at hc ha this
  ·rename_i hb
   have hl:=hlost _ ha
   unfold lostB at hl
   rw [decide_eq_true (show (⟨i,j,y⟩:At).y.bind ≠ 1 from hb),Bool.true_and] at hl
   cases hF:plcL (flatO os) y.name with
   | none=>rw [show (⟨i,j,y⟩:At).y.name=y.name from rfl,hF] at hl;cases hl
   | some p=>
    obtain ⟨a,h5,-,-,h6,rfl,-⟩:=plcL_some hF
    exact plIn_at hc h5 h6
def knM (m:Ms):List UInt8 × Int:=(m.sc.name,m.sc.kind)
def catKN (Os:List Ox):List (List UInt8 × Int):=Os.flatMap fun o=>o.L.map knM
theorem catKN_len (Os:List Ox):(catKN Os).length=(lensO Os).sum:=by
 unfold catKN lensO
 induction Os with
 | nil=>rfl
 | cons o t ih=>rw [List.flatMap_cons,List.length_append,ih,List.length_map,List.map_cons,List.sum_cons]
theorem catKN_get:∀ {Os:List Ox} {k q:Nat} {o:Ox} {m:Ms},Os[k]?=some o->o.L[q]?=some m->(catKN Os)[((lensO Os).take k).sum+q]?=some (knM m)
 | [],k,q,o,m,h,_=>by simp at h
 | x :: t,0,q,o,m,h,hm=>by
  simp only [List.getElem?_cons_zero,Option.some.injEq] at h
  subst h
  have hq:q < (x.L.map knM).length:=by rw [List.length_map];exact (List.getElem?_eq_some_iff.1 hm).1
  show ((x.L.map knM) ++ catKN t)[_]?=_
  rw [List.take_zero,List.sum_nil,Nat.zero_add,List.getElem?_append_left hq,List.getElem?_map,hm];rfl
 | x :: t,k+1,q,o,m,h,hm=>by
  have h':t[k]?=some o:=by simpa using h
  have ih:=catKN_get h' hm
  show ((x.L.map knM) ++ catKN t)[((x.L.length :: lensO t).take (k+1)).sum+q]?=_
  rw [List.take_succ_cons,List.sum_cons,Nat.add_assoc,List.getElem?_append_right (by rw [List.length_map];omega),List.length_map,Nat.add_sub_cancel_left]
  exact ih
end Go.Proofs.YthkolmebokfagaaGreatDoor
