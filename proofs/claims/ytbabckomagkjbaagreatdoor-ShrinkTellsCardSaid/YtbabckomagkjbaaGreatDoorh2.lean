/- The reference of shrink: what stands for itself, by kinds, and its alignments. The reference of shrink: pair. The reference of shrink: Is. -/
import Derived.Test.YtbabckomagkjbaaGreatDoorsX
import Derived.Test.YtbabckomagkjbaaGreatDoorh1
import Derived.Test.YtbabckomagkjbaaGreatDoorw1
import Derived.Test.YtbabckomagkjbaaGreatDoorsZ
import Derived.Test.YtbabckomagkjbaaGreatDoork1
set_option maxRecDepth 100000
set_option maxHeartbeats 4000000
set_option linter.unusedVariables false
set_option linter.unusedSimpArgs false
namespace Go.Proofs.YtbabckomagkjbaaGreatDoor
open Go.ChangeShapes Go.WideShapes Go.Deep Go.RowKit
def kindL (S:List Sc) (rep:List Int) (kd i:Nat):List Nat:=(List.range i).filter (fun q=>decide (kindN S q=(kd:Int)/\rep[q]?=some (q:Int)))
def doneN (S:List Sc) (rep:List Int) (n kd:Nat):List Nat:=(List.range kd).flatMap (fun x=>kindL S rep (x+1) n)
theorem kindL_in {S:List Sc} {rep:List Int} {kd i:Nat} (h:kindN S i=(kd:Int)) (h':rep[i]?=some (i:Int)):kindL S rep kd (i+1)=kindL S rep kd i ++ [i]:=by
 unfold kindL
 rw [List.range_succ,List.filter_append]
 simp [h,h']
theorem kindL_out {S:List Sc} {rep:List Int} {kd i:Nat} (h:¬ (kindN S i=(kd:Int)/\rep[i]?=some (i:Int))):kindL S rep kd (i+1)=kindL S rep kd i:=by
 unfold kindL
 rw [List.range_succ,List.filter_append]
 simp [h]
theorem kindL_mem {S:List Sc} {rep:List Int} {kd i q:Nat}:q ∈ kindL S rep kd i ↔ q < i/\kindN S q=(kd:Int)/\rep[q]?=some (q:Int):=by
 unfold kindL
 simp [List.mem_filter]
theorem kindL_up (S:List Sc) (rep:List Int) (kd i:Nat):(kindL S rep kd i).Pairwise (fun x y=>keyU S x < keyU S y):=by
 refine List.Pairwise.imp_of_mem (R:=fun x y=>x < y) (fun ha hb hab=>?_) (List.Pairwise.filter _ List.pairwise_lt_range)
 have h1:=(kindL_mem.1 ha).2.1
 have h2:=(kindL_mem.1 hb).2.1
 unfold keyU
 rw [h1,h2]
 omega
theorem doneN_succ (S:List Sc) (rep:List Int) (n kd:Nat):doneN S rep n (kd+1)=doneN S rep n kd ++ kindL S rep (kd+1) n:=by
 unfold doneN
 rw [List.range_succ,List.flatMap_append]
 simp
theorem doneN_mem {S:List Sc} {rep:List Int} {n kd q:Nat}:q ∈ doneN S rep n kd ↔ ∃ x,x < kd/\q ∈ kindL S rep (x+1) n:=by
 unfold doneN
 simp [List.mem_flatMap]
theorem doneN_up {S:List Sc} {rep:List Int} {n:Nat} (hn:n<=256):∀ kd,(doneN S rep n kd).Pairwise (fun x y=>keyU S x < keyU S y)
 | 0=>List.Pairwise.nil
 | kd+1=>by
  rw [doneN_succ]
  refine List.pairwise_append.2 ⟨doneN_up hn kd,kindL_up S rep _ n,fun a ha b hb=>?_⟩
  obtain ⟨x,hx,ha⟩:=doneN_mem.1 ha
  obtain ⟨a1,a2,-⟩:=kindL_mem.1 ha
  obtain ⟨b1,b2,-⟩:=kindL_mem.1 hb
  unfold keyU
  rw [a2,b2]
  push_cast
  omega
theorem doneN_all {S:List Sc} {rep:List Int} (hl:rep.length<=256) (hn:rep.length=S.length) (hk:∀ s ∈ S,1<=s.kind/\s.kind<=3):doneN S rep S.length 3=standL S rep:=by
 have hup:=doneN_up (S:=S) (rep:=rep) (n:=S.length) (by omega) 3
 refine standL_one hl ?_ (hup.imp (fun h=>by omega))
 refine (List.perm_ext_iff_of_nodup (hup.imp (fun h e=>by subst e;omega)) ?_).2 (fun a=>?_)
 ·unfold selfL
  exact (List.pairwise_lt_range.imp (fun h=>Nat.ne_of_lt h)).filter _
 ·rw [selfL_mem,doneN_mem]
  constructor
  ·rintro ⟨x,-,h⟩
   exact (kindL_mem.1 h).2.2
  ·intro h
   have ha:a < S.length:=by rw [<-hn];exact (List.getElem?_eq_some_iff.1 h).1
   have hs:=List.getElem?_eq_getElem ha
   obtain ⟨k1,k2⟩:=hk _ (List.getElem_mem ha)
   refine ⟨((S[a]).kind - 1).toNat,by omega,kindL_mem.2 ⟨ha,?_,h⟩⟩
   unfold kindN
   rw [hs]
   simp only []
   omega
structure Tw (w u:World) (d e:List Int) (a:Option Addr) (c:Nat) (a':Option Addr) (c':Nat):Prop where
 o1:u.ownsRow w.heap.size 3 1 (.slice a d.length c) d.length (d.flatMap enZ)
 o2:u.ownsRow w.heap.size 3 1 (.slice a' e.length c') e.length (e.flatMap enZ)
 ap:∀ g,(Value.slice a d.length c).ownBlock=some g->(Value.slice a' e.length c').ownBlock ≠ some g
 kk:Below w.heap.size w u
theorem Tw.nil (w:World):Tw w w [] [] none 0 none 0:=⟨World.ownsRow_nil _ _ _ _,World.ownsRow_nil _ _ _ _,(fun g h=>by cases h),Below.refl _ _⟩
theorem Tw.swap {w u:World} {d e:List Int} {a:Option Addr} {c:Nat} {a':Option Addr} {c':Nat} (h:Tw w u d e a c a' c'):Tw w u e d a' c' a c:=
 ⟨h.o2,h.o1,fun g h1 h2=>h.ap g h2 h1,h.kk⟩
theorem Tw.grow {w u w2:World} {d e:List Int} {a:Option Addr} {c:Nat} {a':Option Addr} {c':Nat} {g cap:Nat} {k:Int} (h:Tw w u d e a c a' c')
  (hown:w2.ownsRow w.heap.size 3 1 (.slice (some ⟨g,0,none⟩) (d.length+1) cap) (d.length+1) (d.flatMap enZ ++ enZ k))
  (hgrow:(u.alloc (.cells #[.int .i64 k] 3)).grownBy w2 (Value.slice a d.length c).ownBlock) (hlie:(Value.slice a d.length c).ownBlock=some g\/g=u.heap.size+1):Tw w w2 (d ++ [k]) e (some ⟨g,0,none⟩) cap a' c':=by
 have h2:=h.o2.alloc (.cells #[.int .i64 k] 3)
 have hs:=h.kk.size
 refine ⟨by simpa [List.flatMap_append] using hown,?_,fun g' hg' he=>?_,(h.kk.alloc h.kk.size _).grown hgrow (by rw [World.size_alloc];omega) (fun j hj=>(h.o1.lt j hj).1)⟩
 ·refine ⟨h2.1,?_⟩
  rcases h2.2 with hn | ⟨g',cap',cur,hv,hbg,hgg,rest⟩
  ·exact .inl hn
  ·refine .inr ⟨g',cap',cur,hv,hbg,?_,rest⟩
   rw [<-hgg]
   refine hgrow.block g' (lt_of_block hgg) (fun e1=>?_)
   exact h.ap g' e1.symm (by rw [hv];rfl)
 ·have e1:g=g':=by simpa [Value.ownBlock] using hg'
  subst e1
  rcases hlie with h1 | h1
  ·exact h.ap g h1 he
  ·have:=(h.o2.lt g he).2
   omega
theorem units_kind {L:List Sc} (h:unitsR L=true):∀ s ∈ L,1<=s.kind/\s.kind<=3:=by
 intro s hs
 unfold unitsR at h
 simp only [Bool.and_eq_true,decide_eq_true_eq,List.all_eq_true] at h
 have h1:=h.2 s hs
 unfold unitOk at h1
 simp only [Bool.and_eq_true] at h1
 have h2:=head_iff.1 (sec_iff.1 h1.1).1
 exact ⟨h2.2.1,h2.2.2.1⟩
def LiveP (S:List Sc) (rep:List Int) (w:World) (e:Ending) (w':World):Prop:=∃ (a:Option Addr) (c:Nat) (a':Option Addr) (c':Nat),e=.returned (.tuple #[.slice a (standL S rep).length c,.slice a' (standL S rep).length c'])/\w'.ownsRow w.heap.size 3 1 (.slice a (standL S rep).length c) (standL S rep).length (((standL S rep).map Int.ofNat).flatMap enZ)/\w'.ownsRow w.heap.size 3 1 (.slice a' (standL S rep).length c') (standL S rep).length ((alignL S rep).flatMap enZ)/\Below w.heap.size w w'
theorem ints_cellsV {w:World} {pb po pn:Nat} {P:List Int} (h:SL enZ 1 w w.heap.size (some ⟨pb,po,none⟩) pn P) {u:World} (hu:Below w.heap.size w u) {q:Nat} {v:Int} (hq:P[q]?=some v):u.cell? ⟨pb,po+q,none⟩=some (.int .i64 v):=by
 have hl:=(List.getElem?_eq_some_iff.1 hq).1
 have hv:=(List.getElem?_eq_some_iff.1 hq).2
 obtain ⟨b,off,e,hB,hc⟩:=(h.next hu).cells (by intro e;rw [e] at hl;simp at hl)
 cases e
 have d0:=hc q hl 0 (by decide)
 simp only [enZ,Nat.add_zero,Nat.mul_one,List.getElem?_cons_zero] at d0
 rw [d0,hv]
theorem doneN_len {S:List Sc} {rep:List Int} {n kd i:Nat} (hn:n<=256) (hi:i<=n):(doneN S rep n kd ++ kindL S rep (kd+1) i).length<=1024\/3<=kd:=by
 by_cases h:3<=kd
 ·exact .inr h
 ·left
  have key:∀ x m,(kindL S rep x m).length<=m:=fun x m=>by unfold kindL;have:=List.length_filter_le (fun q=>decide (kindN S q=(x:Int)/\rep[q]?=some (q:Int))) (List.range m);simpa using this
  have h2:∀ kd,(doneN S rep n kd).length<=n*kd:=by
   intro kd
   induction kd with
   | zero=>simp [doneN]
   | succ k ih=>rw [doneN_succ,List.length_append];have:=key (k+1) n;rw [Nat.mul_succ];omega
  have h3:=h2 kd
  have h4:=key (kd+1) i
  rw [List.length_append]
  have h5:n*kd<=256*2:=Nat.mul_le_mul hn (by omega)
  omega
theorem rLive_any (ua:Option Addr) (un uc:Nat) (L:List Ms) (ra:Option Addr) (rc:Nat) (rep:List Int) (w:World) (hs:SL msC 6 w w.heap.size ua un L) (hu:unitsR (L.map (·.sc))=true) (hr:SL enZ 1 w w.heap.size ra un rep):
  Calls Tryz.prog 60 #[.slice ua un uc,.slice ra un rc] w (LiveP (L.map (·.sc)) rep w):=by
 have hlen:(L.map (·.sc)).length=un:=by rw [List.length_map];exact hs.len.symm
 have hun:un<=256:=by rw [<-hlen];exact units_len hu
 have hni:(un:Int)<=256:=by omega
 obtain ⟨S,hS⟩:∃ S,S=L.map (·.sc):=⟨_,rfl⟩
 have HLS:Hid (∀ (i:Nat) (m:Ms),L[i]?=some m->S[i]?=some m.sc):=Lib.hid (fun i m h=>by rw [hS,List.getElem?_map,h];rfl)
 have HLL:=Lib.hid hs.len
 rw [<-hS] at hlen hu ⊢
 have HLn:=Lib.hid hlen
 have HUn:=Lib.hid hun
 have HMs:=Lib.hid hs
 have HRs:=Lib.hid hr
 have HRl:Hid (rep.length=un):=Lib.hid hr.len.symm
 have HEnd:Hid (doneN S rep un 3=standL S rep):=Lib.hid (by
  rw [<-hlen]
  exact doneN_all (by rw [HRl.out];exact hun) (by rw [HRl.out,hlen]) (units_kind hu))
 obtain ⟨i0,hgi,hz0,hz1,hz2⟩:=info_parts info_intG
 have HT0:Hid (Tw w w (([]:List Nat).map Int.ofNat) (([]:List Nat).map (fun k=>mostN S rep k un)) none 0 none 0):=Lib.hid (Tw.nil w)
 clear hs hu hr hlen hun hS
 go_enter Tryz.func60,Tryz.ntmps60
 go_wp2_with fail
 go_loopw [6,7,8] (fun ov av kv wr=>∃ (kd:Nat) (wx:World) (d:List Nat) (a:Option Addr) (c:Nat) (a':Option Addr) (c' q:Nat),wx=wr/\1<=kd/\kd<=4/\ov=.slice a q c/\av=.slice a' q c'/\kv=.int .i64 kd/\Hid (q=d.length/\d=doneN S rep un (kd - 1))/\Hid (Tw w wx (d.map Int.ofNat) (d.map (fun k=>mostN S rep k un)) a c a' c')) (fun _ _ kv _=>4 - (intOf kv).toNat)
 case atStart=>exact ⟨1,_,[],none,0,none,0,0,rfl,by omega,by omega,rfl,rfl,rfl,Lib.hid ⟨rfl,rfl⟩,HT0⟩
 case round=>
  clear HT0
  obtain ⟨kd,wx,d,a,c,a',c',q,rfl,hk1,hk4,rfl,rfl,rfl,HD,HT⟩:=hrel
  by_cases hlt:kd<=3
  ·have hkd:(kd:Int)<=3:=by omega
   have HLT:=Lib.hid hlt
   have HK1:=Lib.hid hk1
   have HD2:Hid (q=d.length/\d=doneN S rep un (kd - 1) ++ kindL S rep kd 0):=Lib.hid ⟨HD.out.1,by rw [HD.out.2];simp [kindL]⟩
   clear hlt hk1 hk4 HD
   go_wp2_with fail
   go_loopw [6,7,9] (fun ov av iv wr=>∃ (i:Nat) (wx:World) (d:List Nat) (a:Option Addr) (c:Nat) (a':Option Addr) (c' q:Nat),wx=wr/\i<=un/\ov=.slice a q c/\av=.slice a' q c'/\iv=.int .i64 i/\Hid (q=d.length/\d=doneN S rep un (kd - 1) ++ kindL S rep kd i)/\Hid (Tw w wx (d.map Int.ofNat) (d.map (fun k=>mostN S rep k un)) a c a' c')) (fun _ _ iv _=>un - (intOf iv).toNat)
   case atStart=>exact ⟨0,_,d,a,c,a',c',q,rfl,by omega,rfl,rfl,rfl,HD2,HT⟩
   case round=>
    clear HT HD2
    obtain ⟨i,wx,d,a,c,a',c',q,rfl,hi,rfl,rfl,rfl,HD,HT⟩:=hrel
    by_cases hlt:i < un
    ·have hlti:(i:Int) < (un:Int):=by omega
     have HLTi:=Lib.hid hlt
     have hki:i < L.length:=by have:=HLL.out;omega
     have HMi:Hid (L[i]?=some L[i]):=Lib.hid (List.getElem?_eq_getElem hki)
     generalize L[i]'hki=m at HMi
     obtain ⟨b,off,hua,hcs⟩:=ms_at HMs.out HMi.out
     subst hua
     obtain ⟨v,hv⟩:∃ x,rep[i]?=some x:=⟨_,List.getElem?_eq_getElem (by rw [HRl.out];exact hlt)⟩
     obtain ⟨rb,ro,hra,-,-⟩:=HRs.out.cells (by intro e;rw [e] at hv;cases hv)
     subst hra
     have c1:=(hcs wx HT.out.kk).2.1
     have r0:wx.cell? ⟨rb,ro+i,none⟩=some (.int .i64 v):=ints_cellsV HRs.out HT.out.kk hv
     have HKi:Hid (kindN S i=m.sc.kind):=Lib.hid (by unfold kindN;rw [HLS.out _ _ HMi.out])
     obtain ⟨ki,hke⟩:∃ x,x=m.sc.kind:=⟨_,rfl⟩
     rw [<-hke] at c1 HKi
     have HRv:=Lib.hid hv
     clear hlt hi hki hcs hv hke HMi
     by_cases hok:ki=(kd:Int)/\v=(i:Int)
     ·obtain ⟨e1,e2⟩:=hok
      have t1:(ki != (kd:Int))=false:=by simp [e1]
      have t2:(v != (i:Int))=false:=by simp [e2]
      have HD5:Hid (q+1=(d ++ [i]).length/\d ++ [i]=doneN S rep un (kd - 1) ++ kindL S rep kd (i+1)):=Lib.hid ⟨by rw [List.length_append,HD.out.1];rfl,by rw [kindL_in (by rw [HKi.out];exact e1) (by rw [HRv.out,e2]),<-List.append_assoc,<-HD.out.2]⟩
      have HQl:Hid (q<=1024):=Lib.hid (by
       have:=doneN_len (S:=S) (rep:=rep) (kd:=kd - 1) HUn.out (show i<=un by have:=HLTi.out;omega)
       have h1:=HK1.out
       have h2:=HLT.out
       rw [show kd - 1+1=kd by omega,<-HD.out.2,<-HD.out.1] at this
       omega)
      clear e1 e2 HKi HRv
      go_wp2_with fail
      go_loopw [10,11] (fun mv kv wr=>∃ (k:Nat) (mo:Int),wr=wx/\k<=un/\mv=.int .i64 mo/\kv=.int .i64 k/\Hid (mo=mostN S rep i k)) (fun _ kv _=>un - (intOf kv).toNat)
      case atStart=>exact ⟨0,0,rfl,by omega,rfl,rfl,Lib.hid rfl⟩
      case round=>
       obtain ⟨k,mo,rfl,hk,rfl,rfl,HMo⟩:=hrel
       by_cases hltk:k < un
       ·have hltki:(k:Int) < (un:Int):=by omega
        have HLTk:=Lib.hid hltk
        have hkk:k < L.length:=by have:=HLL.out;omega
        have HMk:Hid (L[k]?=some L[k]):=Lib.hid (List.getElem?_eq_getElem hkk)
        generalize L[k]'hkk=m2 at HMk
        obtain ⟨b2,off2,hua,hcs⟩:=ms_at HMs.out HMk.out
        injection hua with e
        injection e with e1 e2
        subst e1 e2
        obtain ⟨v2,hv⟩:∃ x,rep[k]?=some x:=⟨_,List.getElem?_eq_getElem (by rw [HRl.out];exact hltk)⟩
        have c3:=(hcs wr HT.out.kk).2.2.2.1
        have r1:wr.cell? ⟨rb,ro+k,none⟩=some (.int .i64 v2):=ints_cellsV HRs.out HT.out.kk hv
        have HAk:Hid (alignN S k=m2.sc.align):=Lib.hid (by unfold alignN;rw [HLS.out _ _ HMk.out])
        obtain ⟨al,hal⟩:∃ x,x=m2.sc.align:=⟨_,rfl⟩
        rw [<-hal] at c3 HAk
        have HRv:=Lib.hid hv
        clear hltk hk hkk hcs hv hal HMk
        by_cases hvv:v2=(i:Int)
        ·have t3:(v2 == (i:Int))=true:=by simp [hvv]
         have HMn:Hid (max mo al=mostN S rep i (k+1)):=Lib.hid (by rw [mostN,if_pos (by rw [HRv.out,hvv]),HMo.out,HAk.out])
         clear hvv
         go_wp2
         go_roundw
         case rel=>exact ⟨k+1,_,trivial,by have:=HLTk.out;omega,rfl,by go_num,HMn⟩
         case measure=>have:=HLTk.out;simp [intOf];omega
        ·have t3:(v2 == (i:Int))=false:=by simp [hvv]
         have HMn:Hid (mo=mostN S rep i (k+1)):=Lib.hid (by rw [mostN,if_neg (by rw [HRv.out];simpa using hvv),HMo.out])
         clear hvv
         go_wp2
         go_roundw
         case rel=>exact ⟨k+1,_,trivial,by have:=HLTk.out;omega,rfl,by go_num,HMn⟩
         case measure=>have:=HLTk.out;simp [intOf];omega
       ·have hltki:¬ (k:Int) < (un:Int):=by omega
        have hke:k=un:=by omega
        subst hke
        have hx0:Hid (w.heap.size<=wr.heap.size):=Lib.hid HT.out.kk.size
        have HNw:Hid ((wr.alloc (.cells #[.int .i64 (i:Int)] 3)).heap[wr.heap.size]?=some (.cells #[.int .i64 (i:Int)] 3)):=Lib.hid (heap_alloc_new wr _)
        have hdl:Hid ((d.map Int.ofNat).length=q):=Lib.hid (by rw [List.length_map];exact HD.out.1.symm)
        have hel:Hid ((d.map (fun x=>mostN S rep x k)).length=q):=Lib.hid (by rw [List.length_map];exact HD.out.1.symm)
        clear hk hltk
        go_wp2_with (at_builtin;first
         | (refine wpList_append_lies _ rfl _ _ 23 rfl w.heap.size 3 i0 (.int .i64 0) 1 8 Tryz.underlying23 hgi hz0 hz1 hz2 rfl (by decide) (.slice a q c) q ((d.map Int.ofNat).flatMap enZ) rfl (by have:=HT.out.o1;rw [hdl.out] at this;exact this.alloc _) ⟨wr.heap.size,0,none⟩ 1 1 (enZ (i:Int)) rfl rfl (World.news_of_block (cs:=#[.int .i64 (i:Int)]) (t:=3) (fr:=(0,0)) HNw.out) (by simp [enZ,Value.oneCell']) (by decide) (by have:=HQl.out;unfold maxLen;omega) (by have:=HQl.out;omega) (by have:=hx0.out;simp;omega) (wr.heap.size+1) (by simp) ?_;intro g cap w2 hown2 hgrow2 hlie2 hlt2
            rw [<-hdl.out] at hown2 hgrow2 hlie2
            have HT2:=Lib.hid (HT.out.grow hown2 hgrow2 hlie2)
            clear hown2 hgrow2 hlie2 hlt2
            have hx1:Hid (w.heap.size<=w2.heap.size):=Lib.hid HT2.out.kk.size
            have HNw2:Hid ((w2.alloc (.cells #[.int .i64 mo] 3)).heap[w2.heap.size]?=some (.cells #[.int .i64 mo] 3)):=Lib.hid (heap_alloc_new w2 _))
         | (refine wpList_append_lies _ rfl _ _ 23 rfl w.heap.size 3 i0 (.int .i64 0) 1 8 Tryz.underlying23 hgi hz0 hz1 hz2 rfl (by decide) (.slice a' q c') q ((d.map (fun x=>mostN S rep x k)).flatMap enZ) rfl (by have:=HT2.out.o2;rw [hel.out] at this;exact this.alloc _) ⟨w2.heap.size,0,none⟩ 1 1 (enZ mo) rfl rfl (World.news_of_block (cs:=#[.int .i64 mo]) (t:=3) (fr:=(0,0)) HNw2.out) (by simp [enZ,Value.oneCell']) (by decide) (by have:=HQl.out;unfold maxLen;omega) (by have:=HQl.out;omega) (by have:=hx1.out;simp;omega) (w2.heap.size+1) (by simp) ?_;intro g3 cap3 w3 hown3 hgrow3 hlie3 hlt3))
        rw [<-hel.out] at hown3 hgrow3 hlie3
        have HT3:=Lib.hid (HT2.out.swap.grow hown3 hgrow3 hlie3).swap
        have HT4:Hid (Tw w w3 ((d ++ [i]).map Int.ofNat) ((d ++ [i]).map (fun x=>mostN S rep x k)) (some ⟨g,0,none⟩) cap (some ⟨g3,0,none⟩) cap3):=Lib.hid (by
         have:=HT3.out
         rw [List.map_append,List.map_append,List.map_singleton,List.map_singleton,<-HMo.out]
         exact this)
        clear hown3 hgrow3 hlie3 hlt3 HNw HNw2
        go_wp2
        go_roundw
        case rel=>exact ⟨i+1,_,_,_,_,_,_,q+1,rfl,by have:=HLTi.out;omega,rfl,rfl,by go_num,HD5,HT4⟩
        case measure=>have:=HLTi.out;simp [intOf];omega
     ·have hcs:(ki != (kd:Int))=true\/((ki != (kd:Int))=false/\(v != (i:Int))=true):=by
       by_cases h:ki=(kd:Int)
       ·exact .inr ⟨by simp [h],by simp;exact fun e=>hok ⟨h,e⟩⟩
       ·exact .inl (by simp [h])
      have HD5:Hid (q=d.length/\d=doneN S rep un (kd - 1) ++ kindL S rep kd (i+1)):=Lib.hid ⟨HD.out.1,by rw [kindL_out (fun h=>hok ⟨by rw [<-HKi.out];exact h.1,by have:=h.2;rw [HRv.out] at this;simpa using this⟩)];exact HD.out.2⟩
      clear hok HKi HRv
      rcases hcs with t1 | ⟨t1,t2⟩
      all_goals
       go_wp2
       go_roundw
       case rel=>exact ⟨i+1,_,_,_,_,_,_,_,rfl,by have:=HLTi.out;omega,rfl,rfl,by go_num,HD5,HT⟩
       case measure=>have:=HLTi.out;simp [intOf];omega
    ·have hnlt:¬ (i:Int) < (un:Int):=by omega
     have hie:i=un:=by omega
     have HD5:Hid (q=d.length/\d=doneN S rep un (kd+1 - 1)):=Lib.hid ⟨HD.out.1,by
      have h1:=HK1.out
      have:=doneN_succ S rep un (kd - 1)
      rw [show kd - 1+1=kd by omega] at this
      rw [Nat.add_sub_cancel,this,<-hie]
      have h2:=HD.out.2
      rw [hie] at h2 ⊢
      exact h2⟩
     clear hi hlt hie
     go_wp2
     go_roundw
     case rel=>exact ⟨kd+1,_,_,_,_,_,_,_,rfl,by omega,by have:=HLT.out;omega,rfl,rfl,by go_num,HD5,HT⟩
     case measure=>have:=HLT.out;simp [intOf];omega
  ·have hnk:¬ (kd:Int)<=3:=by omega
   have hke:kd=4:=by omega
   have HDe:Hid (q=(standL S rep).length/\d=standL S rep):=Lib.hid (by
    have h2:=HD.out.2
    rw [hke,HEnd.out] at h2
    exact ⟨by rw [HD.out.1,h2],h2⟩)
   clear hlt hk1 hk4 hke
   go_wp2
   go_ret2
   refine ⟨a,c,a',c',by rw [<-HDe.out.1];rfl,?_,?_,HT.out.kk⟩
   ·have h1:=HT.out.o1
    rw [List.length_map,<-HD.out.1] at h1
    rw [<-HDe.out.1,<-HDe.out.2]
    exact h1
   ·have h1:=HT.out.o2
    rw [List.length_map,<-HD.out.1] at h1
    rw [<-HDe.out.1]
    unfold alignL
    rw [<-HDe.out.2,HRl.out]
    exact h1
end Go.Proofs.YtbabckomagkjbaaGreatDoor
namespace Go.Proofs.YtbabckomagkjbaaGreatDoor
open Go.ChangeShapes Go.WideShapes Go.Deep Go.RowKit
def PairT (S:List Sc) (rep:List Int) (p q:Nat):Prop:=∀ (s t:Sc),S[p]?=some s->S[q]?=some t->(p=q\/alikeB s t=true)/\∀ (i:Nat) (r r':Rl),s.rels[i]?=some r->t.rels[i]?=some r'->rep[r.sym.toNat]?=rep[r'.sym.toNat]?
open Classical in
noncomputable def pairT (S:List Sc) (rep:List Int) (p q:Nat):Bool:=decide (PairT S rep p q)
open Classical in
theorem pairT_iff {S:List Sc} {rep:List Int} {p q:Nat}:pairT S rep p q=true ↔ PairT S rep p q:=by unfold pairT;exact decide_eq_true_iff
open Classical in
theorem rPair_any (ua:Option Addr) (un uc:Nat) (L:List Ms) (ra:Option Addr) (rc:Nat) (rep:List Int) (w:World) (hs:SL msC 6 w w.heap.size ua un L) (hno:Notes w w.heap.size L) (hu:unitsR (L.map (·.sc))=true) (hr:SL enZ 1 w w.heap.size ra un rep) (p q:Nat) (hp:p < un) (hq:q < un):
  Calls Tryz.prog 64 #[.slice ua un uc,.slice ra un rc,.int .i64 p,.int .i64 q] w (RetB (.bool (pairT (L.map (·.sc)) rep p q)) w):=by
 have hlen:(L.map (·.sc)).length=un:=by rw [List.length_map];exact hs.len.symm
 have hun:un<=256:=by rw [<-hlen];exact units_len hu
 have hni:(un:Int)<=256:=by omega
 obtain ⟨S,hS⟩:∃ S,S=L.map (·.sc):=⟨_,rfl⟩
 have HLS:Hid (∀ (i:Nat) (m:Ms),L[i]?=some m->S[i]?=some m.sc):=Lib.hid (fun i m h=>by rw [hS,List.getElem?_map,h];rfl)
 rw [<-hS] at hlen hu ⊢
 unfold pairT
 have HRs:=Lib.hid hr
 have HRl:Hid (rep.length=un):=Lib.hid hr.len.symm
 obtain ⟨m,hm⟩:∃ m,L[p]?=some m:=⟨_,List.getElem?_eq_getElem (by rw [<-hs.len];exact hp)⟩
 obtain ⟨m',hm'⟩:∃ m,L[q]?=some m:=⟨_,List.getElem?_eq_getElem (by rw [<-hs.len];exact hq)⟩
 obtain ⟨b,off,hua,hcs⟩:=ms_at hs hm
 obtain ⟨b',off',hua',hcs'⟩:=ms_at hs hm'
 rw [hua] at hua'
 injection hua' with e
 injection e with e1 e2
 subst e1 e2
 have HSi:=Lib.hid (HLS.out _ _ hm)
 have HSk:=Lib.hid (HLS.out _ _ hm')
 have HRi:=Lib.hid (hno _ (List.mem_of_getElem? hm))
 have HRk:=Lib.hid (hno _ (List.mem_of_getElem? hm'))
 obtain ⟨s,ad,cp⟩:=m
 obtain ⟨t,ad',cp'⟩:=m'
 simp only at hcs hcs' HSi HSk HRi HRk
 have hse:=units_sec hu HSi.out
 have hse':=units_sec hu HSk.out
 have HRg:Hid (∀ r ∈ s.rels,0<=r.sym/\r.sym < (un:Int)):=Lib.hid (by rw [<-hlen];exact hse.2)
 have HRg':Hid (∀ r ∈ t.rels,0<=r.sym/\r.sym < (un:Int)):=Lib.hid (by rw [<-hlen];exact hse'.2)
 obtain ⟨nr,hnr⟩:∃ x,x=s.rels.length:=⟨_,rfl⟩
 obtain ⟨nr',hnr'⟩:∃ x,x=t.rels.length:=⟨_,rfl⟩
 have hnr9:(nr:Int)<=64:=by have:=hse.1.rels;omega
 have hnr9':(nr':Int)<=64:=by have:=hse'.1.rels;omega
 rw [<-hnr] at hcs HRi
 rw [<-hnr'] at hcs' HRk
 have HNr:=Lib.hid hnr
 have HNr':=Lib.hid hnr'
 obtain ⟨N,hN⟩:∃ x:ByteArray,x=⟨s.name.toArray⟩:=⟨_,rfl⟩
 obtain ⟨D,hD⟩:∃ x:ByteArray,x=⟨s.data.toArray⟩:=⟨_,rfl⟩
 obtain ⟨N',hN'⟩:∃ x:ByteArray,x=⟨t.name.toArray⟩:=⟨_,rfl⟩
 obtain ⟨D',hD'⟩:∃ x:ByteArray,x=⟨t.data.toArray⟩:=⟨_,rfl⟩
 have hd:D.data.toList=s.data:=by rw [hD]
 have hd':D'.data.toList=t.data:=by rw [hD']
 rw [<-hN,<-hD] at hcs
 rw [<-hN',<-hD'] at hcs'
 have HAl:Hid (∀ v,Below w.heap.size w v->Calls Tryz.prog 26 #[.agg (uCe N s.kind s.keep s.align D ad nr cp),.agg (uCe N' t.kind t.keep t.align D' ad' nr' cp')] v (RetB (.bool (alikeB s t)) v)):=Lib.hid (fun v hv=>by
  have:=rAlike_any N D N' D' s.kind t.kind s.align t.align s.keep t.keep ad ad' nr nr' cp cp' s.rels t.rels v (by unfold maxLen;omega) (by unfold maxLen;omega) (HRi.out.next hv) (HRk.out.next hv) s.name t.name
  rw [hd,hd'] at this
  exact this)
 obtain ⟨ki,hki⟩:∃ x,x=s.kind:=⟨_,rfl⟩
 obtain ⟨kp,hkp⟩:∃ x,x=s.keep:=⟨_,rfl⟩
 obtain ⟨al,hal⟩:∃ x,x=s.align:=⟨_,rfl⟩
 obtain ⟨ki',hki'⟩:∃ x,x=t.kind:=⟨_,rfl⟩
 obtain ⟨kp',hkp'⟩:∃ x,x=t.keep:=⟨_,rfl⟩
 obtain ⟨al',hal'⟩:∃ x,x=t.align:=⟨_,rfl⟩
 rw [<-hki,<-hkp,<-hal] at hcs
 rw [<-hki',<-hkp',<-hal'] at hcs'
 rw [<-hki,<-hkp,<-hal,<-hki',<-hkp',<-hal'] at HAl
 have HcX:Hid (∀ v,Below w.heap.size w v->v.cell? ⟨b,off+p*6,none⟩=some (.string N)/\v.cell? ⟨b,off+p*6+1,none⟩=some (.int .i64 ki)/\v.cell? ⟨b,off+p*6+2,none⟩=some (.bool kp)/\v.cell? ⟨b,off+p*6+3,none⟩=some (.int .i64 al)/\v.cell? ⟨b,off+p*6+4,none⟩=some (.string D)/\v.cell? ⟨b,off+p*6+5,none⟩=some (.slice ad nr cp)/\v.cell? ⟨b,off+q*6,none⟩=some (.string N')/\v.cell? ⟨b,off+q*6+1,none⟩=some (.int .i64 ki')/\v.cell? ⟨b,off+q*6+2,none⟩=some (.bool kp')/\v.cell? ⟨b,off+q*6+3,none⟩=some (.int .i64 al')/\v.cell? ⟨b,off+q*6+4,none⟩=some (.string D')/\v.cell? ⟨b,off+q*6+5,none⟩=some (.slice ad' nr' cp')):=Lib.hid (fun v hv=>by
  obtain ⟨c0,c1,c2,c3,c4,c5⟩:=hcs v hv
  obtain ⟨d0,d1,d2,d3,d4,d5⟩:=hcs' v hv
  exact ⟨c0,c1,c2,c3,c4,c5,d0,d1,d2,d3,d4,d5⟩)
 obtain ⟨v0,hv0⟩:∃ x,x=w.drew:=⟨_,rfl⟩
 have HBw:Hid (Below w.heap.size w v0):=Lib.hid (by rw [hv0];exact (Below.refl _ _).drew)
 have HV0:Hid (w.drew=v0):=Lib.hid hv0.symm
 have hpi:(p:Int) < (un:Int):=by omega
 have hqi:(q:Int) < (un:Int):=by omega
 obtain ⟨A,hA⟩:∃ x,x=alikeB s t:=⟨_,rfl⟩
 rw [<-hA] at HAl
 have HAe:=Lib.hid hA
 have hcc:p=q\/(p ≠ q/\A=false)\/(p ≠ q/\A=true):=by
  by_cases e:p=q
  ·exact .inl e
  ·cases A
   ·exact .inr (.inl ⟨e,rfl⟩)
   ·exact .inr (.inr ⟨e,rfl⟩)
 subst hua
 have HN9:Hid (p=q->nr=nr'):=Lib.hid (fun e=>by
  have h1:=HSi.out
  rw [e,HSk.out] at h1
  cases h1
  rw [hnr,hnr'])
 clear hs hno hu hr hp hq hlen hun hS hm hm' hcs hcs' hse hse' hnr hnr' hN hN' hD hD' hd hd' hki hkp hal hki' hkp' hal' hv0 hA
 rcases hcc with e | ⟨e,hAe⟩ | ⟨e,hAe⟩
 ·have t1:((p:Int) != (q:Int))=false:=by simp [e]
  have HPQ:Hid (p=q\/alikeB s t=true):=Lib.hid (.inl e)
  have HNn:Hid (nr=nr'):=Lib.hid (HN9.out e)
  clear e
  go_enter Tryz.func64,Tryz.ntmps64
  go_wp2_with fail
  refine wp_region_held_drew (S:=fun v=>v.cell? ⟨b,off+p*6,none⟩=some (.string N)/\v.cell? ⟨b,off+p*6+1,none⟩=some (.int .i64 ki)/\v.cell? ⟨b,off+p*6+2,none⟩=some (.bool kp)/\v.cell? ⟨b,off+p*6+3,none⟩=some (.int .i64 al)/\v.cell? ⟨b,off+p*6+4,none⟩=some (.string D)/\v.cell? ⟨b,off+p*6+5,none⟩=some (.slice ad nr cp)/\v.cell? ⟨b,off+q*6,none⟩=some (.string N')/\v.cell? ⟨b,off+q*6+1,none⟩=some (.int .i64 ki')/\v.cell? ⟨b,off+q*6+2,none⟩=some (.bool kp')/\v.cell? ⟨b,off+q*6+3,none⟩=some (.int .i64 al')/\v.cell? ⟨b,off+q*6+4,none⟩=some (.string D')/\v.cell? ⟨b,off+q*6+5,none⟩=some (.slice ad' nr' cp')) (by kernel_rfl) (by rw [HV0.out];exact HcX.out _ HBw.out) (fun hHeld=>?_)
  rw [HV0.out]
  have hHeld0:=HcX.out _ HBw.out
  clear hHeld
  refine tk 0 ?_ rfl hHeld0 ?_ ?_
  rotate_left 1
  ·intro w hS;obtain ⟨_,_,_,_,_,_,_,_,_,_,_,_⟩:=hS;go_simp;(try with_reducible rfl)
  refine tk 1 ?_ rfl hHeld0 ?_ ?_
  rotate_left 1
  ·intro w hS;obtain ⟨_,_,_,_,_,_,_,_,_,_,_,_⟩:=hS;go_simp;(try with_reducible rfl)
  refine tk 2 ?_ rfl hHeld0 ?_ ?_
  rotate_left 1
  ·intro w hS;obtain ⟨_,_,_,_,_,_,_,_,_,_,_,_⟩:=hS;go_simp;(try with_reducible rfl)
  refine tk 3 ?_ rfl hHeld0 ?_ ?_
  rotate_left 1
  ·intro w hS;obtain ⟨_,_,_,_,_,_,_,_,_,_,_,_⟩:=hS;go_simp;(try with_reducible rfl)
  (try simp only [Act.put,List.setIfInBounds_toArray,List.set_cons_zero,List.set_cons_succ])
  refine sk 4 rfl hHeld0 ?_
  refine sk 5 rfl hHeld0 ?_
  refine sk 6 rfl hHeld0 ?_
  refine sk 7 rfl hHeld0 ?_
  refine sk 8 rfl hHeld0 ?_
  refine sk 9 rfl hHeld0 ?_
  refine sk 10 rfl hHeld0 ?_
  refine sk 11 rfl hHeld0 ?_
  refine sk 12 rfl hHeld0 ?_
  refine sk 13 rfl hHeld0 ?_
  (try simp only [Act.put,List.setIfInBounds_toArray,List.set_cons_zero,List.set_cons_succ])
  refine rd 14 rfl (fun K hK=>?_)
  go_simp
  refine hK.out _ _ (HcX.out _ HBw.out) (fun hHeld3=>?_)
  clear hK K
  refine wpAnyH_done (by kernel_rfl) ?_ _
  go_wp2_with fail
  go_loopw [9] (fun jv wr=>∃ (j:Nat) (wx:World),wx=wr/\j<=nr/\jv=.int .i64 j/\Hid (Below w.heap.size w wx)/\Hid (∀ i r r',i < j->s.rels[i]?=some r->t.rels[i]?=some r'->rep[r.sym.toNat]?=rep[r'.sym.toNat]?)) (fun jv _=>nr - (intOf jv).toNat)
  case atStart=>exact ⟨0,_,rfl,by omega,rfl,HBw,Lib.hid (fun i r r' h=>by omega)⟩
  case round=>
   obtain ⟨j,wx,rfl,hj,rfl,HBx,HI⟩:=hrel
   have c5:=(HcX.out _ HBx.out).2.2.2.2.2.1
   by_cases hlt:j < nr
   ·have hlti:(j:Int) < (nr:Int):=by omega
    have hlti':(j:Int) < (nr':Int):=by have:=HNn.out;omega
    have HLT:=Lib.hid hlt
    obtain ⟨r,hr⟩:∃ x,s.rels[j]?=some x:=⟨_,List.getElem?_eq_getElem (by rw [<-HNr.out];exact hlt)⟩
    obtain ⟨r',hr'⟩:∃ x,t.rels[j]?=some x:=⟨_,List.getElem?_eq_getElem (by rw [<-HNr'.out];omega)⟩
    obtain ⟨b1,o1,ha1,hc1⟩:=rl_at HRi.out hr
    obtain ⟨b2,o2,ha2,hc2⟩:=rl_at HRk.out hr'
    subst ha1 ha2
    have d1:=hc1 _ HBx.out
    have d2:=hc2 _ HBx.out
    have c6:=(HcX.out _ HBx.out).2.2.2.2.2.2.2.2.2.2.2
    obtain ⟨s0,s1⟩:=HRg.out _ (List.mem_of_getElem? hr)
    obtain ⟨s2,s3⟩:=HRg'.out _ (List.mem_of_getElem? hr')
    obtain ⟨sy,hsy⟩:∃ x:Nat,r.sym=(x:Int):=⟨r.sym.toNat,by omega⟩
    obtain ⟨sz,hsz⟩:∃ x:Nat,r'.sym=(x:Int):=⟨r'.sym.toNat,by omega⟩
    rw [hsy] at d1 s1
    rw [hsz] at d2 s3
    obtain ⟨v1,hv1⟩:∃ x,rep[sy]?=some x:=⟨_,List.getElem?_eq_getElem (by rw [HRl.out];omega)⟩
    obtain ⟨v2,hv2⟩:∃ x,rep[sz]?=some x:=⟨_,List.getElem?_eq_getElem (by rw [HRl.out];omega)⟩
    obtain ⟨rb,ro,hra,-,-⟩:=HRs.out.cells (by intro e;rw [e] at hv1;cases hv1)
    subst hra
    have r1:wx.cell? ⟨rb,ro+sy,none⟩=some (.int .i64 v1):=ints_cellsV HRs.out HBx.out hv1
    have r2:wx.cell? ⟨rb,ro+sz,none⟩=some (.int .i64 v2):=ints_cellsV HRs.out HBx.out hv2
    have HEq:Hid (rep[r.sym.toNat]?=some v1/\rep[r'.sym.toNat]?=some v2):=Lib.hid ⟨by rw [hsy];exact hv1,by rw [hsz];exact hv2⟩
    have HRr:=Lib.hid hr
    have HRr':=Lib.hid hr'
    clear hlt hj hr hr' hc1 hc2 s0 s2 hsy hsz hv1 hv2
    by_cases hvv:v1=v2
    ·have t2:(v1 != v2)=false:=by simp [hvv]
     have HI1:Hid (∀ i r r',i < j+1->s.rels[i]?=some r->t.rels[i]?=some r'->rep[r.sym.toNat]?=rep[r'.sym.toNat]?):=Lib.hid (fun i x x' hi hx hx'=>by
      by_cases e:i=j
      ·subst e
       rw [HRr.out] at hx;cases hx
       rw [HRr'.out] at hx';cases hx'
       rw [HEq.out.1,HEq.out.2,hvv]
      ·exact HI.out i x x' (by omega) hx hx')
     clear hvv
     go_wp2_with fail
     go_big_quiet (fail)
     go_wp2
     go_roundw
     case rel=>exact ⟨j+1,_,rfl,by have:=HLT.out;omega,by go_num,Lib.hid (below_drewN HBx.out _),HI1⟩
     case measure=>have:=HLT.out;simp [intOf];omega
    ·have t2:(v1 != v2)=true:=by simp [hvv]
     have HF:Hid (decide (PairT S rep p q)=false):=Lib.hid (decide_eq_false (fun h=>hvv (by
      have:=(h s t HSi.out HSk.out).2 j r r' HRr.out HRr'.out
      rw [HEq.out.1,HEq.out.2] at this
      exact Option.some.inj this)))
     clear hvv
     go_wp2_with fail
     go_big_quiet (fail)
     go_wp2
     go_ret
     exact retB_bool HF.out.symm (below_drewN HBx.out _)
   ·have hnj:¬ (j:Int) < (nr:Int):=by omega
    have HT:Hid (decide (PairT S rep p q)=true):=Lib.hid (decide_eq_true (fun s' t' h1 h2=>by
     rw [HSi.out] at h1;cases h1
     rw [HSk.out] at h2;cases h2
     exact ⟨HPQ.out,fun i r r' h3 h4=>HI.out i r r' (by have:=(List.getElem?_eq_some_iff.1 h3).1;rw [<-HNr.out] at this;omega) h3 h4⟩))
    clear hj hlt
    go_wp2
    go_ret
    exact retB_bool HT.out.symm HBx.out
 ·have t1:((p:Int) != (q:Int))=true:=by simp;omega
  have HF:Hid (decide (PairT S rep p q)=false):=Lib.hid (decide_eq_false (fun h=>by
   rcases (h s t HSi.out HSk.out).1 with h1 | h1
   ·exact e h1
   ·rw [<-HAe.out,hAe] at h1;cases h1))
  subst hAe
  clear e
  go_enter Tryz.func64,Tryz.ntmps64
  go_wp2_with fail
  refine wp_region_held_drew (S:=fun v=>v.cell? ⟨b,off+p*6,none⟩=some (.string N)/\v.cell? ⟨b,off+p*6+1,none⟩=some (.int .i64 ki)/\v.cell? ⟨b,off+p*6+2,none⟩=some (.bool kp)/\v.cell? ⟨b,off+p*6+3,none⟩=some (.int .i64 al)/\v.cell? ⟨b,off+p*6+4,none⟩=some (.string D)/\v.cell? ⟨b,off+p*6+5,none⟩=some (.slice ad nr cp)/\v.cell? ⟨b,off+q*6,none⟩=some (.string N')/\v.cell? ⟨b,off+q*6+1,none⟩=some (.int .i64 ki')/\v.cell? ⟨b,off+q*6+2,none⟩=some (.bool kp')/\v.cell? ⟨b,off+q*6+3,none⟩=some (.int .i64 al')/\v.cell? ⟨b,off+q*6+4,none⟩=some (.string D')/\v.cell? ⟨b,off+q*6+5,none⟩=some (.slice ad' nr' cp')) (by kernel_rfl) (by rw [HV0.out];exact HcX.out _ HBw.out) (fun hHeld=>?_)
  rw [HV0.out]
  have hHeld0:=HcX.out _ HBw.out
  clear hHeld
  refine tk 0 ?_ rfl hHeld0 ?_ ?_
  rotate_left 1
  ·intro w hS;obtain ⟨_,_,_,_,_,_,_,_,_,_,_,_⟩:=hS;go_simp;(try with_reducible rfl)
  refine tk 1 ?_ rfl hHeld0 ?_ ?_
  rotate_left 1
  ·intro w hS;obtain ⟨_,_,_,_,_,_,_,_,_,_,_,_⟩:=hS;go_simp;(try with_reducible rfl)
  refine tk 2 ?_ rfl hHeld0 ?_ ?_
  rotate_left 1
  ·intro w hS;obtain ⟨_,_,_,_,_,_,_,_,_,_,_,_⟩:=hS;go_simp;(try with_reducible rfl)
  refine tk 3 ?_ rfl hHeld0 ?_ ?_
  rotate_left 1
  ·intro w hS;obtain ⟨_,_,_,_,_,_,_,_,_,_,_,_⟩:=hS;go_simp;(try with_reducible rfl)
  refine tk 4 ?_ rfl hHeld0 ?_ ?_
  rotate_left 1
  ·intro w hS;obtain ⟨_,_,_,_,_,_,_,_,_,_,_,_⟩:=hS;go_simp;(try with_reducible rfl)
  refine tk 5 ?_ rfl hHeld0 ?_ ?_
  rotate_left 1
  ·intro w hS;obtain ⟨_,_,_,_,_,_,_,_,_,_,_,_⟩:=hS;go_simp;(try with_reducible rfl)
  refine tk 6 ?_ rfl hHeld0 ?_ ?_
  rotate_left 1
  ·intro w hS;obtain ⟨_,_,_,_,_,_,_,_,_,_,_,_⟩:=hS;go_simp;(try with_reducible rfl)
  refine tk 7 ?_ rfl hHeld0 ?_ ?_
  rotate_left 1
  ·intro w hS;obtain ⟨_,_,_,_,_,_,_,_,_,_,_,_⟩:=hS;go_simp;(try with_reducible rfl)
  refine tk 8 ?_ rfl hHeld0 ?_ ?_
  rotate_left 1
  ·intro w hS;obtain ⟨_,_,_,_,_,_,_,_,_,_,_,_⟩:=hS;go_simp;(try with_reducible rfl)
  refine tk 9 ?_ rfl hHeld0 ?_ ?_
  rotate_left 1
  ·intro w hS;obtain ⟨_,_,_,_,_,_,_,_,_,_,_,_⟩:=hS;go_simp;(try with_reducible rfl)
  refine tk 10 ?_ rfl hHeld0 ?_ ?_
  rotate_left 1
  ·intro w hS;obtain ⟨_,_,_,_,_,_,_,_,_,_,_,_⟩:=hS;go_simp;(try with_reducible rfl)
  refine tk 11 ?_ rfl hHeld0 ?_ ?_
  rotate_left 1
  ·intro w hS;obtain ⟨_,_,_,_,_,_,_,_,_,_,_,_⟩:=hS;go_simp;(try with_reducible rfl)
  (try simp only [Act.put,List.setIfInBounds_toArray,List.set_cons_zero,List.set_cons_succ])
  refine rd 12 rfl (fun K hK=>?_)
  go_simp
  go_wp2_with (go_at_call 26;refine (HAl.out _ HBw.out).mono ?_;rintro e v1 ⟨rfl,hb1⟩)
  have HBw1:=Lib.hid (after HBw.out hb1)
  clear hb1
  refine hK.out _ _ (HcX.out _ HBw1.out) (fun hHeld2=>?_)
  clear hK K
  refine tk 13 ?_ rfl hHeld2 ?_ ?_
  rotate_left 1
  ·intro w hS;obtain ⟨_,_,_,_,_,_,_,_,_,_,_,_⟩:=hS;go_simp;(try with_reducible rfl)
  (try simp only [Act.put,List.setIfInBounds_toArray,List.set_cons_zero,List.set_cons_succ])
  refine rd 14 rfl (fun K hK=>?_)
  go_simp
  refine hK.out _ _ (HcX.out _ HBw1.out) (fun hHeld3=>?_)
  clear hK K
  refine wpAnyH_done (by kernel_rfl) ?_ _
  go_wp2
  go_ret
  exact retB_bool HF.out.symm HBw1.out
 ·have t1:((p:Int) != (q:Int))=true:=by simp;omega
  have HPQ:Hid (p=q\/alikeB s t=true):=Lib.hid (.inr (by rw [<-HAe.out,hAe]))
  have HNn:Hid (nr=nr'):=Lib.hid (by rw [HNr.out,HNr'.out];exact alike_len (by rw [<-HAe.out,hAe]))
  subst hAe
  clear e
  go_enter Tryz.func64,Tryz.ntmps64
  go_wp2_with fail
  refine wp_region_held_drew (S:=fun v=>v.cell? ⟨b,off+p*6,none⟩=some (.string N)/\v.cell? ⟨b,off+p*6+1,none⟩=some (.int .i64 ki)/\v.cell? ⟨b,off+p*6+2,none⟩=some (.bool kp)/\v.cell? ⟨b,off+p*6+3,none⟩=some (.int .i64 al)/\v.cell? ⟨b,off+p*6+4,none⟩=some (.string D)/\v.cell? ⟨b,off+p*6+5,none⟩=some (.slice ad nr cp)/\v.cell? ⟨b,off+q*6,none⟩=some (.string N')/\v.cell? ⟨b,off+q*6+1,none⟩=some (.int .i64 ki')/\v.cell? ⟨b,off+q*6+2,none⟩=some (.bool kp')/\v.cell? ⟨b,off+q*6+3,none⟩=some (.int .i64 al')/\v.cell? ⟨b,off+q*6+4,none⟩=some (.string D')/\v.cell? ⟨b,off+q*6+5,none⟩=some (.slice ad' nr' cp')) (by kernel_rfl) (by rw [HV0.out];exact HcX.out _ HBw.out) (fun hHeld=>?_)
  rw [HV0.out]
  have hHeld0:=HcX.out _ HBw.out
  clear hHeld
  refine tk 0 ?_ rfl hHeld0 ?_ ?_
  rotate_left 1
  ·intro w hS;obtain ⟨_,_,_,_,_,_,_,_,_,_,_,_⟩:=hS;go_simp;(try with_reducible rfl)
  refine tk 1 ?_ rfl hHeld0 ?_ ?_
  rotate_left 1
  ·intro w hS;obtain ⟨_,_,_,_,_,_,_,_,_,_,_,_⟩:=hS;go_simp;(try with_reducible rfl)
  refine tk 2 ?_ rfl hHeld0 ?_ ?_
  rotate_left 1
  ·intro w hS;obtain ⟨_,_,_,_,_,_,_,_,_,_,_,_⟩:=hS;go_simp;(try with_reducible rfl)
  refine tk 3 ?_ rfl hHeld0 ?_ ?_
  rotate_left 1
  ·intro w hS;obtain ⟨_,_,_,_,_,_,_,_,_,_,_,_⟩:=hS;go_simp;(try with_reducible rfl)
  refine tk 4 ?_ rfl hHeld0 ?_ ?_
  rotate_left 1
  ·intro w hS;obtain ⟨_,_,_,_,_,_,_,_,_,_,_,_⟩:=hS;go_simp;(try with_reducible rfl)
  refine tk 5 ?_ rfl hHeld0 ?_ ?_
  rotate_left 1
  ·intro w hS;obtain ⟨_,_,_,_,_,_,_,_,_,_,_,_⟩:=hS;go_simp;(try with_reducible rfl)
  refine tk 6 ?_ rfl hHeld0 ?_ ?_
  rotate_left 1
  ·intro w hS;obtain ⟨_,_,_,_,_,_,_,_,_,_,_,_⟩:=hS;go_simp;(try with_reducible rfl)
  refine tk 7 ?_ rfl hHeld0 ?_ ?_
  rotate_left 1
  ·intro w hS;obtain ⟨_,_,_,_,_,_,_,_,_,_,_,_⟩:=hS;go_simp;(try with_reducible rfl)
  refine tk 8 ?_ rfl hHeld0 ?_ ?_
  rotate_left 1
  ·intro w hS;obtain ⟨_,_,_,_,_,_,_,_,_,_,_,_⟩:=hS;go_simp;(try with_reducible rfl)
  refine tk 9 ?_ rfl hHeld0 ?_ ?_
  rotate_left 1
  ·intro w hS;obtain ⟨_,_,_,_,_,_,_,_,_,_,_,_⟩:=hS;go_simp;(try with_reducible rfl)
  refine tk 10 ?_ rfl hHeld0 ?_ ?_
  rotate_left 1
  ·intro w hS;obtain ⟨_,_,_,_,_,_,_,_,_,_,_,_⟩:=hS;go_simp;(try with_reducible rfl)
  refine tk 11 ?_ rfl hHeld0 ?_ ?_
  rotate_left 1
  ·intro w hS;obtain ⟨_,_,_,_,_,_,_,_,_,_,_,_⟩:=hS;go_simp;(try with_reducible rfl)
  (try simp only [Act.put,List.setIfInBounds_toArray,List.set_cons_zero,List.set_cons_succ])
  refine rd 12 rfl (fun K hK=>?_)
  go_simp
  go_wp2_with (go_at_call 26;refine (HAl.out _ HBw.out).mono ?_;rintro e v1 ⟨rfl,hb1⟩)
  have HBw1:=Lib.hid (after HBw.out hb1)
  clear hb1
  refine hK.out _ _ (HcX.out _ HBw1.out) (fun hHeld2=>?_)
  clear hK K
  refine tk 13 ?_ rfl hHeld2 ?_ ?_
  rotate_left 1
  ·intro w hS;obtain ⟨_,_,_,_,_,_,_,_,_,_,_,_⟩:=hS;go_simp;(try with_reducible rfl)
  (try simp only [Act.put,List.setIfInBounds_toArray,List.set_cons_zero,List.set_cons_succ])
  refine rd 14 rfl (fun K hK=>?_)
  go_simp
  refine hK.out _ _ (HcX.out _ HBw1.out) (fun hHeld3=>?_)
  clear hK K
  refine wpAnyH_done (by kernel_rfl) ?_ _
  go_wp2_with fail
  go_loopw [9] (fun jv wr=>∃ (j:Nat) (wx:World),wx=wr/\j<=nr/\jv=.int .i64 j/\Hid (Below w.heap.size w wx)/\Hid (∀ i r r',i < j->s.rels[i]?=some r->t.rels[i]?=some r'->rep[r.sym.toNat]?=rep[r'.sym.toNat]?)) (fun jv _=>nr - (intOf jv).toNat)
  case atStart=>exact ⟨0,_,rfl,by omega,rfl,HBw1,Lib.hid (fun i r r' h=>by omega)⟩
  case round=>
   obtain ⟨j,wx,rfl,hj,rfl,HBx,HI⟩:=hrel
   have c5:=(HcX.out _ HBx.out).2.2.2.2.2.1
   by_cases hlt:j < nr
   ·have hlti:(j:Int) < (nr:Int):=by omega
    have hlti':(j:Int) < (nr':Int):=by have:=HNn.out;omega
    have HLT:=Lib.hid hlt
    obtain ⟨r,hr⟩:∃ x,s.rels[j]?=some x:=⟨_,List.getElem?_eq_getElem (by rw [<-HNr.out];exact hlt)⟩
    obtain ⟨r',hr'⟩:∃ x,t.rels[j]?=some x:=⟨_,List.getElem?_eq_getElem (by rw [<-HNr'.out];omega)⟩
    obtain ⟨b1,o1,ha1,hc1⟩:=rl_at HRi.out hr
    obtain ⟨b2,o2,ha2,hc2⟩:=rl_at HRk.out hr'
    subst ha1 ha2
    have d1:=hc1 _ HBx.out
    have d2:=hc2 _ HBx.out
    have c6:=(HcX.out _ HBx.out).2.2.2.2.2.2.2.2.2.2.2
    obtain ⟨s0,s1⟩:=HRg.out _ (List.mem_of_getElem? hr)
    obtain ⟨s2,s3⟩:=HRg'.out _ (List.mem_of_getElem? hr')
    obtain ⟨sy,hsy⟩:∃ x:Nat,r.sym=(x:Int):=⟨r.sym.toNat,by omega⟩
    obtain ⟨sz,hsz⟩:∃ x:Nat,r'.sym=(x:Int):=⟨r'.sym.toNat,by omega⟩
    rw [hsy] at d1 s1
    rw [hsz] at d2 s3
    obtain ⟨v1,hv1⟩:∃ x,rep[sy]?=some x:=⟨_,List.getElem?_eq_getElem (by rw [HRl.out];omega)⟩
    obtain ⟨v2,hv2⟩:∃ x,rep[sz]?=some x:=⟨_,List.getElem?_eq_getElem (by rw [HRl.out];omega)⟩
    obtain ⟨rb,ro,hra,-,-⟩:=HRs.out.cells (by intro e;rw [e] at hv1;cases hv1)
    subst hra
    have r1:wx.cell? ⟨rb,ro+sy,none⟩=some (.int .i64 v1):=ints_cellsV HRs.out HBx.out hv1
    have r2:wx.cell? ⟨rb,ro+sz,none⟩=some (.int .i64 v2):=ints_cellsV HRs.out HBx.out hv2
    have HEq:Hid (rep[r.sym.toNat]?=some v1/\rep[r'.sym.toNat]?=some v2):=Lib.hid ⟨by rw [hsy];exact hv1,by rw [hsz];exact hv2⟩
    have HRr:=Lib.hid hr
    have HRr':=Lib.hid hr'
    clear hlt hj hr hr' hc1 hc2 s0 s2 hsy hsz hv1 hv2
    by_cases hvv:v1=v2
    ·have t2:(v1 != v2)=false:=by simp [hvv]
     have HI1:Hid (∀ i r r',i < j+1->s.rels[i]?=some r->t.rels[i]?=some r'->rep[r.sym.toNat]?=rep[r'.sym.toNat]?):=Lib.hid (fun i x x' hi hx hx'=>by
      by_cases e:i=j
      ·subst e
       rw [HRr.out] at hx;cases hx
       rw [HRr'.out] at hx';cases hx'
       rw [HEq.out.1,HEq.out.2,hvv]
      ·exact HI.out i x x' (by omega) hx hx')
     clear hvv
     go_wp2_with fail
     go_big_quiet (fail)
     go_wp2
     go_roundw
     case rel=>exact ⟨j+1,_,rfl,by have:=HLT.out;omega,by go_num,Lib.hid (below_drewN HBx.out _),HI1⟩
     case measure=>have:=HLT.out;simp [intOf];omega
    ·have t2:(v1 != v2)=true:=by simp [hvv]
     have HF:Hid (decide (PairT S rep p q)=false):=Lib.hid (decide_eq_false (fun h=>hvv (by
      have:=(h s t HSi.out HSk.out).2 j r r' HRr.out HRr'.out
      rw [HEq.out.1,HEq.out.2] at this
      exact Option.some.inj this)))
     clear hvv
     go_wp2_with fail
     go_big_quiet (fail)
     go_wp2
     go_ret
     exact retB_bool HF.out.symm (below_drewN HBx.out _)
   ·have hnj:¬ (j:Int) < (nr:Int):=by omega
    have HT:Hid (decide (PairT S rep p q)=true):=Lib.hid (decide_eq_true (fun s' t' h1 h2=>by
     rw [HSi.out] at h1;cases h1
     rw [HSk.out] at h2;cases h2
     exact ⟨HPQ.out,fun i r r' h3 h4=>HI.out i r r' (by have:=(List.getElem?_eq_some_iff.1 h3).1;rw [<-HNr.out] at this;omega) h3 h4⟩))
    clear hj hlt
    go_wp2
    go_ret
    exact retB_bool HT.out.symm HBx.out
end Go.Proofs.YtbabckomagkjbaaGreatDoor
namespace Go.Proofs.YtbabckomagkjbaaGreatDoor
open Go.ChangeShapes Go.WideShapes Go.Deep Go.RowKit
def RngZ (S:List Sc) (rep:List Int) (i:Nat):Prop:=∀ v,rep[i]?=some v -> -1<=v/\v < (S.length:Int)
def OkAt (S:List Sc) (rep:List Int) (i:Nat):Prop:=∀ v,rep[i]?=some v->v = -1\/(0<=v/\rep[v.toNat]?=some v/\PairT S rep i v.toNat/\∀ (s:Sc),S[i]?=some s->∀ (j:Nat) (r:Rl),s.rels[j]?=some r->rep[r.sym.toNat]? ≠ some (-1))
theorem reps_rng {S:List Sc} {rep:List Int} (h:RepsQ S rep) (i:Nat):RngZ S rep i:=fun v hv=>by
 rcases h.2 i v hv with h1 | ⟨h1,h2,-⟩
 ·subst h1;exact ⟨by omega,by have:=reps_lt h i _ hv;omega⟩
 ·exact ⟨by omega,h2⟩
theorem reps_ok {S:List Sc} {rep:List Int} (hu:unitsR S=true) (h:RepsQ S rep) (hl:LeadQ S rep) (i:Nat):OkAt S rep i:=fun v hv=>by
 rcases h.2 i v hv with h1 | ⟨h1,h2,h3,h4⟩
 ·exact .inl h1
 ·have hi:i < S.length:=by rw [<-h.1];exact (List.getElem?_eq_some_iff.1 hv).1
  have hal:∀ (s t:Sc),S[i]?=some s->S[v.toNat]?=some t->(i=v.toNat\/alikeB s t=true):=fun s t hs ht=>by
   rcases h4 with h4 | h4
   ·exact .inl (by omega)
   ·exact .inr (h4 s t hs ht)
  have hlen:∀ (s t:Sc),S[i]?=some s->S[v.toNat]?=some t->s.rels.length=t.rels.length:=fun s t hs ht=>by
   rcases hal s t hs ht with h5 | h5
   ·rw [<-h5,hs] at ht;cases ht;rfl
   ·exact alike_len h5
  refine .inr ⟨h1,h3,fun s t hs ht=>⟨hal s t hs ht,fun j r r' hr hr'=>?_⟩,fun s hs j r hr=>?_⟩
  ·obtain ⟨x,-,e1,e2⟩:=hl i v hv h1 s t hs ht j r r' hr hr'
   rw [e1,e2]
  ·have ht:=List.getElem?_eq_getElem (show v.toNat < S.length by omega)
   have hj:=(List.getElem?_eq_some_iff.1 hr).1
   rw [hlen s _ hs ht] at hj
   obtain ⟨x,hx,e1,-⟩:=hl i v hv h1 s _ hs ht j r _ hr (List.getElem?_eq_getElem hj)
   rw [e1]
   intro e
   have:=Option.some.inj e
   omega
theorem ok_reps {S:List Sc} {rep:List Int} (hu:unitsR S=true) (hn:rep.length=S.length) (hr:∀ i,i < S.length->RngZ S rep i) (h:∀ i,i < S.length->OkAt S rep i):RepsQ S rep/\LeadQ S rep:=by
 have hin:∀ (i:Nat) (v:Int),rep[i]?=some v->i < S.length:=fun i v hv=>by rw [<-hn];exact (List.getElem?_eq_some_iff.1 hv).1
 refine ⟨⟨hn,fun k v hv=>?_⟩,fun k v hv h0 s t hs ht j r r' hrr hrr'=>?_⟩
 ·have hk:=hin k v hv
  rcases h k hk v hv with h1 | ⟨h1,h2,h3,-⟩
  ·exact .inl h1
  ·refine .inr ⟨h1,(hr k hk v hv).2,h2,?_⟩
   by_cases e:v=(k:Int)
   ·exact .inl e
   ·exact .inr (fun s t hs ht=>by
     rcases (h3 s t hs ht).1 with h4 | h4
     ·exact absurd (by omega) e
     ·exact h4)
 ·have hk:=hin k v hv
  rcases h k hk v hv with h1 | ⟨-,-,h3,h4⟩
  ·omega
  ·have e1:=(h3 s t hs ht).2 j r r' hrr hrr'
   obtain ⟨s0,s1⟩:=(units_sec hu hs).2 r (List.mem_of_getElem? hrr)
   have hx:=List.getElem?_eq_getElem (show r.sym.toNat < rep.length by omega)
   have h5:=h4 s hs j r hrr
   have h6:=hr _ (by omega) _ hx
   refine ⟨_,?_,hx,by rw [<-e1];exact hx⟩
   rw [hx] at h5
   have:rep[r.sym.toNat]'(by omega) ≠ -1:=fun e=>h5 (by rw [e])
   omega
theorem rShrIs_any (w:World) (ua:Option Addr) (n uc:Nat) (L:List Ms) (ra:Option Addr) (rn rc:Nat) (rep:List Int) (la:Option Addr) (ln lc:Nat) (live:List Int) (aa:Option Addr) (an ac:Nat) (align:List Int) (hn:n<=maxLen) (hs:SL msC 6 w w.heap.size ua n L) (hno:Notes w w.heap.size L) (hg:∀ x ∈ L,GoodSc x.sc) (hb:∀ x ∈ L,x.sc.rels.length*32<=reachBytes)
  (hr:SL enZ 1 w w.heap.size ra rn rep) (hl:SL enZ 1 w w.heap.size la ln live) (ha:SL enZ 1 w w.heap.size aa an align) (hrn:rn<=1000000) (hln:ln<=1000000) (han:an<=1000000) (hf:FewU n L):
  Calls Tryz.prog 40 #[.slice ua n uc,.agg (kpV ra rn rc la ln lc aa an ac)] w (IffP (IsQ (L.map (·.sc)) rep live align) w):=by
 obtain ⟨W1,hW1⟩:∃ x,x=w.alloc (.cells (kpV ra rn rc la ln lc aa an ac) 46):=⟨_,rfl⟩
 have hb1:Below w.heap.size w W1:=by rw [hW1];exact lit_below w _
 have hr1:RB W1 w.heap.size (kpV ra rn rc la ln lc aa an ac) 46:=by rw [hW1];exact rb_new w _ _
 have HIs:=Lib.hid (rIsU_any ua n uc L W1 hn (hs.next hb1) (hno.next hb1) hg hb hf)
 have HWE:Hid (w.alloc (.cells (kpV ra rn rc la ln lc aa an ac) 46)=W1):=Lib.hid hW1.symm
 have HBu:=Lib.hid hb1
 have HR1:=Lib.hid hr1
 obtain ⟨X,hX⟩:∃ x,x=w.heap.size:=⟨_,rfl⟩
 have HX:=Lib.hid hX
 rw [<-hX] at HR1
 have hlen:(L.map (·.sc)).length=n:=by rw [List.length_map];exact hs.len.symm
 have hni:(n:Int)<=9223372036854775807:=by unfold maxLen at hn;omega
 have hrni:(rn:Int)<=1000000:=by omega
 by_cases hu:unitsR (L.map (·.sc))=true
 rotate_left
 ·have huf:unitsR (L.map (·.sc))=false:=by cases h:unitsR (L.map (·.sc));rfl;exact absurd h hu
  have HNg:Hid (¬ IsQ (L.map (·.sc)) rep live align):=Lib.hid (fun hq=>hu hq.1)
  rw [huf] at HIs
  clear hs hno hg hb hr hl ha hrn hln han hf hW1 hb1 hr1 hX hlen hu huf hn
  go_enter Tryz.func40,Tryz.ntmps40
  go_wp2_with fail
  have hwe:=HWE.out
  simp only [kpV] at hwe
  rw [hwe,<-HX.out]
  refine HIs.out.mono ?_
  rintro e u ⟨rfl,hb⟩
  have HB:=Lib.hid (after HBu.out hb)
  clear hb hwe
  go_wp2
  go_ret
  exact ⟨false,rfl,⟨fun h=>(by cases h),fun hq=>absurd hq HNg.out⟩,HB.out⟩
 rw [hu] at HIs
 by_cases hnn:rn=n
 rotate_left
 ·have t1:((rn:Int) != (n:Int))=true:=by simp;omega
  have HNg:Hid (¬ IsQ (L.map (·.sc)) rep live align):=Lib.hid (fun hq=>hnn (by rw [hr.len,hq.2.1.1,hlen]))
  clear hs hno hg hb hr hl ha hrn hln han hf hW1 hb1 hr1 hX hlen hu hn hnn
  go_enter Tryz.func40,Tryz.ntmps40
  go_wp2_with fail
  have hwe:=HWE.out
  simp only [kpV] at hwe
  rw [hwe,<-HX.out]
  refine HIs.out.mono ?_
  rintro e u ⟨rfl,hb⟩
  have HB:=Lib.hid (after HBu.out hb)
  have x0:u.cell? ⟨X,0,none⟩=some (.slice ra rn rc):=(HR1.out.next hb).cell
  clear hb hwe
  go_wp2
  go_ret
  exact ⟨false,rfl,⟨fun h=>(by cases h),fun hq=>absurd hq HNg.out⟩,HB.out⟩
 subst hnn
 have t1:((rn:Int) != (rn:Int))=false:=by simp
 have hn2:rn<=256:=by have:=units_len hu;rw [hlen] at this;exact this
 have hni2:(rn:Int)<=256:=by omega
 have HLv:Hid (∀ u,Below w.heap.size w u->Calls Tryz.prog 60 #[.slice ua rn uc,.slice ra rn rc] u (LiveP (L.map (·.sc)) rep u)):=Lib.hid fun u hk=>rLive_any ua rn uc L ra rc rep u (hs.next hk) hu (hr.next hk)
 have HPr:Hid (∀ u (p q:Nat),Below w.heap.size w u->p < rn->q < rn->Calls Tryz.prog 64 #[.slice ua rn uc,.slice ra rn rc,.int .i64 p,.int .i64 q] u (RetB (.bool (pairT (L.map (·.sc)) rep p q)) u)):=Lib.hid fun u p q hk hp hq=>rPair_any ua rn uc L ra rc rep u (hs.next hk) (hno.next hk) hu (hr.next hk) p q hp hq
 have HCl:=Lib.hid (fun u (hk:Below w.heap.size w u)=>hl.next hk)
 have HCa:=Lib.hid (fun u (hk:Below w.heap.size w u)=>ha.next hk)
 have HRs:=Lib.hid hr
 have HRl:Hid (rep.length=rn):=Lib.hid hr.len.symm
 have HMs:=Lib.hid hs
 have HNo:=Lib.hid hno
 have HLL:=Lib.hid hs.len
 have HLb:Hid (ln<=1000000/\an<=1000000):=Lib.hid ⟨hln,han⟩
 obtain ⟨S,hS⟩:∃ S,S=L.map (·.sc):=⟨_,rfl⟩
 have HLS:Hid (∀ (i:Nat) (m:Ms),L[i]?=some m->S[i]?=some m.sc):=Lib.hid (fun i m h=>by rw [hS,List.getElem?_map,h];rfl)
 rw [<-hS] at hlen hu HLv HPr ⊢
 have HU:=Lib.hid hu
 have HLn:=Lib.hid hlen
 have HN2:=Lib.hid hn2
 have HK:Hid (∀ v,Below W1.heap.size W1 v->v.cell? ⟨X,0,none⟩=some (.slice ra rn rc)/\v.cell? ⟨X,1,none⟩=some (.slice la ln lc)/\v.cell? ⟨X,2,none⟩=some (.slice aa an ac)/\Below w.heap.size w v):=Lib.hid (fun v hv=>⟨(HR1.out.next hv).cell,(HR1.out.next hv).cell,(HR1.out.next hv).cell,after HBu.out hv⟩)
 clear hs hno hg hb hr hl ha hrn hln han hf hW1 hb1 hr1 hX hlen hu hn hn2 hS
 go_enter Tryz.func40,Tryz.ntmps40
 go_wp2_with fail
 have hwe:=HWE.out
 simp only [kpV] at hwe
 rw [hwe,<-HX.out]
 refine HIs.out.mono ?_
 rintro e u ⟨rfl,hb⟩
 have HB:=Lib.hid hb
 obtain ⟨x0,x1,x2,-⟩:=HK.out _ hb
 clear hb hwe HIs
 go_wp2_with fail
 clear x0 x1 x2
 go_loopw [5] (fun iv wr=>∃ (i:Nat),wr=u/\i<=rn/\iv=.int .i64 i/\Hid (∀ k,k < i->RngZ S rep k)) (fun iv _=>rn - (intOf iv).toNat)
 case atStart=>exact ⟨0,rfl,by omega,rfl,Lib.hid (fun k h=>by omega)⟩
 case round=>
  obtain ⟨i,rfl,hi,rfl,HI⟩:=hrel
  obtain ⟨x0,x1,x2,hbw⟩:=HK.out _ HB.out
  by_cases hlt:i < rn
  ·have hlti:(i:Int) < (rn:Int):=by omega
   have HLT:=Lib.hid hlt
   obtain ⟨v,hv⟩:∃ x,rep[i]?=some x:=⟨_,List.getElem?_eq_getElem (by rw [HRl.out];exact hlt)⟩
   obtain ⟨rb,ro,hra,-,-⟩:=HRs.out.cells (by intro e;rw [e] at hv;cases hv)
   subst hra
   have r0:wr.cell? ⟨rb,ro+i,none⟩=some (.int .i64 v):=ints_cellsV HRs.out hbw hv
   have HVv:=Lib.hid hv
   by_cases hbad:v < -1\/(rn:Int)<=v
   ·have HNg:Hid (¬ IsQ S rep live align):=Lib.hid (fun hq=>by
     have:=reps_rng hq.2.1 i v hv
     rw [HLn.out] at this
     omega)
    have hcs:v < -1\/(¬ v < -1/\(rn:Int)<=v):=by omega
    have HBw:=Lib.hid hbw
    clear hbad hlt hi hv hbw
    rcases hcs with h1 | ⟨h1,h2⟩
    all_goals
     go_wp2
     go_ret
     exact ⟨false,rfl,⟨fun h=>(by cases h),fun hq=>absurd hq HNg.out⟩,HBw.out⟩
   ·have h1:¬ v < -1:=fun h=>hbad (.inl h)
    have h2:¬ (rn:Int)<=v:=fun h=>hbad (.inr h)
    have HI1:Hid (∀ k,k < i+1->RngZ S rep k):=Lib.hid (fun k hk=>by
     by_cases e:k=i
     ·subst e
      intro x hx
      rw [HVv.out] at hx;cases hx
      rw [HLn.out]
      exact ⟨by omega,by omega⟩
     ·exact HI.out k (by omega))
    clear hbad hlt hi hv hbw
    go_wp2
    go_roundw
    case rel=>exact ⟨i+1,trivial,by have:=HLT.out;omega,by go_num,HI1⟩
    case measure=>have:=HLT.out;simp [intOf];omega
  ·have hnlt:¬ (i:Int) < (rn:Int):=by omega
   have HRg:Hid (∀ k,k < rn->RngZ S rep k):=Lib.hid (fun k hk=>HI.out k (by omega))
   clear hi hlt hbw HI
   go_wp2_with fail
   clear x0 x1 x2
   go_loopw [6] (fun iv wr=>∃ (i:Nat) (wx:World),wx=wr/\i<=rn/\iv=.int .i64 i/\Hid (Below W1.heap.size W1 wx)/\Hid (∀ k,k < i->OkAt S rep k)) (fun iv _=>rn - (intOf iv).toNat)
   case atStart=>exact ⟨0,_,rfl,by omega,rfl,HB,Lib.hid (fun k h=>by omega)⟩
   case round=>
    clear HB
    obtain ⟨i,wx,rfl,hi,rfl,HB,HI⟩:=hrel
    obtain ⟨x0,x1,x2,hbw⟩:=HK.out _ HB.out
    by_cases hlt:i < rn
    ·have hlti:(i:Int) < (rn:Int):=by omega
     have HLT:=Lib.hid hlt
     obtain ⟨v,hv⟩:∃ x,rep[i]?=some x:=⟨_,List.getElem?_eq_getElem (by rw [HRl.out];exact hlt)⟩
     obtain ⟨rb,ro,hra,-,-⟩:=HRs.out.cells (by intro e;rw [e] at hv;cases hv)
     subst hra
     have r0:wx.cell? ⟨rb,ro+i,none⟩=some (.int .i64 v):=ints_cellsV HRs.out hbw hv
     have HVv:=Lib.hid hv
     have hrg:=HRg.out i hlt v hv
     rw [HLn.out] at hrg
     by_cases hv1:v = -1
     ·have t2:(v == -1)=true:=by simp [hv1]
      have HI1:Hid (∀ k,k < i+1->OkAt S rep k):=Lib.hid (fun k hk=>by
       by_cases e:k=i
       ·subst e
        intro x hx
        rw [HVv.out] at hx;cases hx
        exact .inl hv1
       ·exact HI.out k (by omega))
      clear hlt hi hv hbw hrg hv1
      go_wp2
      go_roundw
      case rel=>exact ⟨i+1,_,rfl,by have:=HLT.out;omega,by go_num,HB,HI1⟩
      case measure=>have:=HLT.out;simp [intOf];omega
     ·obtain ⟨p,rfl⟩:∃ p:Nat,v=(p:Int):=⟨v.toNat,by omega⟩
      have t2:((p:Int) == -1)=false:=by simp
      have hpi:(p:Int) < (rn:Int):=hrg.2
      have hp:p < rn:=by omega
      obtain ⟨v2,hv2⟩:∃ x,rep[p]?=some x:=⟨_,List.getElem?_eq_getElem (by rw [HRl.out];exact hp)⟩
      have r1:wx.cell? ⟨rb,ro+p,none⟩=some (.int .i64 v2):=ints_cellsV HRs.out hbw hv2
      by_cases hv3:v2=(p:Int)
      rotate_left
      ·have t3:(v2 != (p:Int))=true:=by simp [hv3]
       have HNg:Hid (¬ IsQ S rep live align):=Lib.hid (fun hq=>by
        rcases reps_ok HU.out hq.2.1 hq.2.2.1 i _ hv with h1 | ⟨-,h2,-⟩
        ·omega
        ·rw [Int.toNat_natCast,hv2] at h2
         exact hv3 (Option.some.inj h2))
       have HBw:=Lib.hid hbw
       clear hlt hi hv hbw hrg hv1 hv2 hv3 hp
       go_wp2
       go_ret
       exact ⟨false,rfl,⟨fun h=>(by cases h),fun hq=>absurd hq HNg.out⟩,HBw.out⟩
      have t3:(v2 != (p:Int))=false:=by simp [hv3]
      have HV2:Hid (rep[p]?=some (p:Int)):=Lib.hid (by rw [hv2,hv3])
      have HPc:=Lib.hid (HPr.out wx i p hbw hlt hp)
      obtain ⟨B,hB⟩:∃ B,B=pairT S rep i p:=⟨_,rfl⟩
      rw [<-hB] at HPc
      have HBe:=Lib.hid hB
      clear hi hbw hrg hv1 hv2 hv3 hB
      go_wp2_with fail
      refine HPc.out.mono ?_
      rintro e u2 ⟨rfl,hb⟩
      have HB2:=Lib.hid (after HB.out hb)
      clear hb HPc x0 x1 x2 r0 r1
      cases B
      ·have HNg:Hid (¬ IsQ S rep live align):=Lib.hid (fun hq=>by
        rcases reps_ok HU.out hq.2.1 hq.2.2.1 i _ hv with h1 | ⟨-,-,h2,-⟩
        ·omega
        ·rw [Int.toNat_natCast] at h2
         have h3:=HBe.out
         rw [pairT_iff.2 h2] at h3
         cases h3)
       clear hv hp hlt
       go_wp2
       go_ret
       exact ⟨false,rfl,⟨fun h=>(by cases h),fun hq=>absurd hq HNg.out⟩,(HK.out _ HB2.out).2.2.2⟩
      have HPt:Hid (PairT S rep i p):=Lib.hid (by
       exact pairT_iff.1 HBe.out.symm)
      have hki:i < L.length:=by have:=HLL.out;omega
      have HMi:Hid (L[i]?=some L[i]):=Lib.hid (List.getElem?_eq_getElem hki)
      generalize L[i]'hki=m at HMi
      obtain ⟨b,off,hua,hcs⟩:=ms_at HMs.out HMi.out
      have HSi:=Lib.hid (HLS.out _ _ HMi.out)
      have HRi:=Lib.hid (HNo.out _ (List.mem_of_getElem? HMi.out))
      have HCi:Hid (∀ v,Below w.heap.size w v->v.cell? ⟨b,off+i*6+5,none⟩=some (.slice m.ad m.sc.rels.length m.cap)):=Lib.hid (fun v hv=>(hcs v hv).2.2.2.2.2)
      obtain ⟨s,ad,cp⟩:=m
      simp only at HCi HSi HRi
      have hse:=units_sec HU.out HSi.out
      obtain ⟨nr,hnr⟩:∃ nr,nr=s.rels.length:=⟨_,rfl⟩
      rw [<-hnr] at HCi HRi
      have hnr9:(nr:Int)<=64:=by have:=hse.1.rels;omega
      have HNr:=Lib.hid hnr
      have HRgs:Hid (∀ r ∈ s.rels,0<=r.sym/\r.sym < (rn:Int)):=Lib.hid (by rw [<-HLn.out];exact hse.2)
      subst hua
      have HVp:Hid (rep[i]?=some (p:Int)):=Lib.hid hv
      clear hv hp hlt hki hcs hnr hse
      go_wp2_with fail
      go_loopw [8] (fun jv wr=>∃ (j:Nat) (wy:World),wy=wr/\j<=nr/\jv=.int .i64 j/\Hid (Below W1.heap.size W1 wy)/\Hid (∀ k r,k < j->s.rels[k]?=some r->rep[r.sym.toNat]? ≠ some (-1))) (fun jv _=>nr - (intOf jv).toNat)
      case atStart=>exact ⟨0,_,rfl,by omega,rfl,HB2,Lib.hid (fun k r h=>by omega)⟩
      case round=>
       clear HB2
       obtain ⟨j,wy,rfl,hj,rfl,HBy,HJ⟩:=hrel
       obtain ⟨x0,x1,x2,hbw⟩:=HK.out _ HBy.out
       have c5:=HCi.out _ hbw
       by_cases hltj:j < nr
       ·have hltji:(j:Int) < (nr:Int):=by omega
        have HLTj:=Lib.hid hltj
        obtain ⟨r,hr⟩:∃ x,s.rels[j]?=some x:=⟨_,List.getElem?_eq_getElem (by rw [<-HNr.out];exact hltj)⟩
        obtain ⟨b1,o1,ha1,hc1⟩:=rl_at HRi.out hr
        subst ha1
        have d1:=hc1 _ hbw
        obtain ⟨s0,s1⟩:=HRgs.out _ (List.mem_of_getElem? hr)
        obtain ⟨sy,hsy⟩:∃ x:Nat,r.sym=(x:Int):=⟨r.sym.toNat,by omega⟩
        rw [hsy] at d1 s1
        obtain ⟨v3,hv3⟩:∃ x,rep[sy]?=some x:=⟨_,List.getElem?_eq_getElem (by rw [HRl.out];omega)⟩
        have r2:wy.cell? ⟨rb,ro+sy,none⟩=some (.int .i64 v3):=ints_cellsV HRs.out hbw hv3
        have HV3:Hid (rep[r.sym.toNat]?=some v3):=Lib.hid (by rw [hsy];exact hv3)
        have HRr:=Lib.hid hr
        have HBw:=Lib.hid hbw
        clear hltj hj hr hc1 s0 hsy hv3 hbw
        by_cases hm:v3 = -1
        ·have t4:(v3 == -1)=true:=by simp [hm]
         have HNg:Hid (¬ IsQ S rep live align):=Lib.hid (fun hq=>by
          rcases reps_ok HU.out hq.2.1 hq.2.2.1 i _ HVp.out with h1 | ⟨-,-,-,h2⟩
          ·omega
          ·exact h2 s HSi.out j r HRr.out (by rw [HV3.out,hm]))
         clear hm
         go_wp2_with fail
         go_big_quiet (fail)
         go_wp2
         go_ret
         exact ⟨false,rfl,⟨fun h=>(by cases h),fun hq=>absurd hq HNg.out⟩,below_drewN HBw.out _⟩
        ·have t4:(v3 == -1)=false:=by simp [hm]
         have HJ1:Hid (∀ k r,k < j+1->s.rels[k]?=some r->rep[r.sym.toNat]? ≠ some (-1)):=Lib.hid (fun k x hk hx=>by
          by_cases e:k=j
          ·subst e
           rw [HRr.out] at hx;cases hx
           rw [HV3.out]
           intro h
           exact hm (Option.some.inj h)
          ·exact HJ.out k x (by omega) hx)
         clear hm
         go_wp2_with fail
         go_big_quiet (fail)
         go_wp2
         go_roundw
         case rel=>exact ⟨j+1,_,rfl,by have:=HLTj.out;omega,by go_num,Lib.hid (below_drewN HBy.out _),HJ1⟩
         case measure=>have:=HLTj.out;simp [intOf];omega
       ·have hnj:¬ (j:Int) < (nr:Int):=by omega
        have HI1:Hid (∀ k,k < i+1->OkAt S rep k):=Lib.hid (fun k hk=>by
         by_cases e:k=i
         ·subst e
          intro x hx
          rw [HVp.out] at hx;cases hx
          refine .inr ⟨by omega,by rw [Int.toNat_natCast];exact HV2.out,by rw [Int.toNat_natCast];exact HPt.out,fun s' hs' q r hr=>?_⟩
          rw [HSi.out] at hs';cases hs'
          exact HJ.out q r (by have:=(List.getElem?_eq_some_iff.1 hr).1;rw [<-HNr.out] at this;omega) hr
         ·exact HI.out k (by omega))
        clear hj hltj hbw
        go_wp2
        go_roundw
        case rel=>exact ⟨i+1,_,rfl,by have:=HLT.out;omega,by go_num,HBy,HI1⟩
        case measure=>have:=HLT.out;simp [intOf];omega
    ·have hnlt2:¬ (i:Int) < (rn:Int):=by omega
     have HQ:Hid (RepsQ S rep/\LeadQ S rep):=Lib.hid (ok_reps HU.out (by rw [HRl.out,HLn.out]) (fun k hk=>HRg.out k (by rw [<-HLn.out];exact hk)) (fun k hk=>HI.out k (by rw [HLn.out] at hk;omega)))
     have HLc:=Lib.hid (HLv.out wx hbw)
     clear hi hlt hbw
     go_wp2_with fail
     refine HLc.out.mono ?_
     rintro e u2 ⟨qa,qc,qa',qc',rfl,ho1,ho2,hb⟩
     have HB2:=Lib.hid (after HB.out hb)
     obtain ⟨x0,x1,x2,hbw2⟩:=HK.out _ HB2.out
     obtain ⟨sn,hsn⟩:∃ x,x=(standL S rep).length:=⟨_,rfl⟩
     rw [<-hsn] at ho1 ho2 ⊢
     have hsl:sn<=256:=by rw [hsn,standL_len];have:=selfL_len rep;have:=HRl.out;have:=HN2.out;omega
     have h1:SL enZ 1 u2 u2.heap.size qa sn ((standL S rep).map Int.ofNat):=by
      have e1:((standL S rep).map Int.ofNat).length=sn:=by rw [List.length_map,hsn]
      have h:=ho1
      rw [<-e1] at h ⊢
      exact owns_slZ h
     have h2:SL enZ 1 u2 u2.heap.size qa' sn (alignL S rep):=by
      have e1:(alignL S rep).length=sn:=by unfold alignL;rw [List.length_map,hsn]
      have h:=ho2
      rw [<-e1] at h ⊢
      exact owns_slZ h
     have HS1:=Lib.hid (sameI_any qa la sn ln qc lc _ live u2 (by omega) HLb.out.1 h1 (HCl.out _ hbw2))
     have HS2:Hid (∀ u3,Below u2.heap.size u2 u3->Calls Tryz.prog 17 #[.slice qa' sn qc',.slice aa an ac] u3 (RetB (.bool (decide (alignL S rep=align))) u3)):=Lib.hid (fun u3 hv=>sameI_any qa' aa sn an qc' ac _ align u3 (by omega) HLb.out.2 (h2.next hv) (HCa.out _ (after hbw2 hv)))
     have HIff:Hid (IsQ S rep live align ↔ ((standL S rep).map Int.ofNat=live/\alignL S rep=align)):=Lib.hid ⟨fun h=>⟨h.2.2.2.1.symm,h.2.2.2.2.symm⟩,fun h=>⟨HU.out,HQ.out.1,HQ.out.2,h.1.symm,h.2.symm⟩⟩
     obtain ⟨A1,hA1⟩:∃ x,x=decide ((standL S rep).map Int.ofNat=live):=⟨_,rfl⟩
     obtain ⟨A2,hA2⟩:∃ x,x=decide (alignL S rep=align):=⟨_,rfl⟩
     rw [<-hA1] at HS1
     rw [<-hA2] at HS2
     have HA1:=Lib.hid hA1
     have HA2:=Lib.hid hA2
     clear hb hsn hsl h1 h2 ho1 ho2 hbw2 hA1 hA2 HLc
     go_wp2_with fail
     refine HS1.out.mono ?_
     rintro e u3 ⟨rfl,hb⟩
     have HB3:=Lib.hid (after HB2.out hb)
     have HS3:=Lib.hid (HS2.out u3 hb)
     obtain ⟨x0,x1,x2,-⟩:=HK.out _ HB3.out
     clear hb HS1 HS2
     cases A1
     ·have HNg:Hid (¬ IsQ S rep live align):=Lib.hid (fun hq=>by
       have:=HA1.out
       rw [decide_eq_true (HIff.out.1 hq).1] at this
       cases this)
      go_wp2
      go_ret
      exact ⟨false,rfl,⟨fun h=>(by cases h),fun hq=>absurd hq HNg.out⟩,(HK.out _ HB3.out).2.2.2⟩
     go_wp2_with fail
     refine HS3.out.mono ?_
     rintro e u4 ⟨rfl,hb⟩
     have HB4:=Lib.hid (after HB3.out hb)
     clear hb HS3 x0 x1 x2
     go_wp2
     go_ret
     refine ⟨A2,rfl,?_,(HK.out _ HB4.out).2.2.2⟩
     rw [HIff.out,HA2.out]
     have:=HA1.out
     constructor
     ·intro h
      exact ⟨of_decide_eq_true this.symm,of_decide_eq_true h⟩
     ·intro h
      exact decide_eq_true h.2
end Go.Proofs.YtbabckomagkjbaaGreatDoor
