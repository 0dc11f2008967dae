/- The document's symbols, plain: what its loops find is what sym finds. What Big leaves of objects. The document's symbols: Check, first, find, Find. -/
import Derived.Test.YthkolmebokfagaaGreatDoorv1
import Derived.Test.YthkolmebokfagaaGreatDoorv3
import Derived.Test.YthkolmebokfagaaGreatDoorqI
import Derived.Test.YthkolmebokfagaaGreatDoorr3
import Derived.Test.YthkolmebokfagaaGreatDoorv2
set_option maxRecDepth 100000
set_option maxHeartbeats 4000000
set_option linter.unusedVariables false
set_option linter.unusedSimpArgs false
namespace Go.Proofs.YthkolmebokfagaaGreatDoor
open Go.ChangeShapes Go.WideShapes Go.Deep Go.RowKit
def hitR (b:Int) (nm:List UInt8) (a:At):Bool:=decide (a.y.name=nm) && decide (a.y.bind=b) && decide (0<=a.y.sec)
def fstR (b:Int) (nm:List UInt8) (l:List At):Option Pl:=(l.find? (hitR b nm)).map plOf
def fndR (nm:List UInt8) (l:List At):Option Pl:=match fstR 2 nm l with | some p=>some p | none=>if nm=[] then none else fstR 3 nm l
def twR (l:List At) (a:At):Bool:=decide (a.y.bind=2) && decide (0<=a.y.sec) && (match fstR 2 a.y.name l with | some p=>decide (p.obj < (a.k:Int)) | none=>false)
def loR (l:List At) (a:At):Bool:=decide (a.y.bind ≠ 1) && (fndR a.y.name l).isNone
theorem sec_right {os:List Ob} (h:checkL os=0) {a:At} (ha:a ∈ flatO os):0<=a.y.sec ↔ a.y.sec ≠ -1:=by
 obtain ⟨o,-,-,-,hs,-⟩:=right_at h ha
 have:=(stands_iff hs).2.2.2
 constructor
 ·intro h1 h2;omega
 ·intro h1;exact (this h1).1
theorem find_congr {α:Type} {p q:α->Bool}:∀ {l:List α},(∀ a ∈ l,p a=q a)->l.find? p=l.find? q
 | [],_=>rfl
 | a :: t,h=>by
  rw [List.find?_cons,List.find?_cons,h a (by simp)]
  split
  ·rfl
  ·exact find_congr fun x hx=>h x (List.mem_cons_of_mem _ hx)
theorem hit_right {os:List Ob} (h:checkL os=0) (b:Int) (nm:List UInt8) {a:At} (ha:a ∈ flatO os):hitR b nm a=hitB b nm a:=by
 unfold hitR hitB
 rw [decide_eq_decide.2 (sec_right h ha)]
theorem fst_right {os:List Ob} (h:checkL os=0) (b:Int) (nm:List UInt8):fstR b nm (flatO os)=fstP b nm (flatO os):=by
 unfold fstR fstP
 rw [find_congr fun a ha=>hit_right h b nm ha]
theorem fst_nil {os:List Ob} (h:checkL os=0) {b:Int} (hb:b ≠ 1):fstP b [] (flatO os)=none:=by
 refine fstP_none.2 fun a ha=>?_
 obtain ⟨o,-,-,-,-,hn⟩:=right_at h ha
 cases hh:hitB b [] a
 ·rfl
 ·obtain ⟨h1,h2,-⟩:=hit_iff.1 hh
  exact absurd ((hn h1).symm.trans h2).symm hb
theorem fnd_right {os:List Ob} (h:checkL os=0) (nm:List UInt8):fndR nm (flatO os)=plcL (flatO os) nm:=by
 unfold fndR plcL
 rw [fst_right h,fst_right h]
 by_cases hn:nm=[]
 ·subst hn
  rw [fst_nil h (by decide),fst_nil h (by decide)];rfl
 ·rw [if_neg hn]
  cases fstP 2 nm (flatO os) <;> rfl
theorem find_le {b:Int} {nm:List UInt8} {l:List At} (hs:l.Pairwise (fun a b=>a.k<=b.k)) {a c:At} (hf:l.find? (hitB b nm)=some c) (ha:a ∈ l) (hh:hitB b nm a=true):c.k<=a.k:=by
 induction l with
 | nil=>cases ha
 | cons x t ih=>
  rw [List.find?_cons] at hf
  split at hf
  ·cases hf
   rcases List.mem_cons.1 ha with rfl | ha
   ·exact Nat.le_refl _
   ·exact (List.pairwise_cons.1 hs).1 a ha
  ·rename_i hx
   rcases List.mem_cons.1 ha with rfl | ha
   ·rw [hh] at hx;cases hx
   ·exact ih (List.pairwise_cons.1 hs).2 hf ha
theorem tw_right {os:List Ob} (h:checkL os=0) {a:At} (ha:a ∈ flatO os):twR (flatO os) a=twiceB (plcL (flatO os)) a:=by
 unfold twR twiceB
 rw [decide_eq_decide.2 (sec_right h ha),fst_right h]
 by_cases h1:a.y.bind=2/\a.y.sec ≠ -1
 ·have hh:hitB 2 a.y.name a=true:=hit_iff.2 ⟨rfl,h1.1,h1.2⟩
  cases hf:(flatO os).find? (hitB 2 a.y.name) with
  | none=>exact absurd hh (List.find?_eq_none.1 hf a ha)
  | some c=>
   have hk:=find_le (flatS_sorted 0 (os.map (·.syms))) hf ha hh
   have hp:fstP 2 a.y.name (flatO os)=some (plOf c):=by unfold fstP;rw [hf];rfl
   have hq:plcL (flatO os) a.y.name=some (plOf c):=by unfold plcL;rw [hp];rfl
   rw [hp,hq]
   exact congrArg (fun z=>(decide (a.y.bind=2) && decide (a.y.sec ≠ -1) && z)) (decide_eq_decide.2 (show ((c.k:Nat):Int) < ((a.k:Nat):Int) ↔ ((c.k:Nat):Int) ≠ ((a.k:Nat):Int) by omega))
 ·have e:(decide (a.y.bind=2) && decide (a.y.sec ≠ -1))=false:=by
   rw [Bool.and_eq_false_iff]
   by_cases hb:a.y.bind=2
   ·right;exact decide_eq_false (fun e=>h1 ⟨hb,e⟩)
   ·left;exact decide_eq_false hb
  rw [e,Bool.false_and,Bool.false_and]
theorem lo_right {os:List Ob} (h:checkL os=0) (a:At):loR (flatO os) a=lostB (plcL (flatO os)) a:=by
 unfold loR lostB
 rw [fnd_right h]
theorem twf_right {os:List Ob} (h:checkL os=0):(flatO os).find? (twR (flatO os))=(flatO os).find? (twiceB (plcL (flatO os))):=find_congr fun a ha=>tw_right h ha
theorem lof_right {os:List Ob} (h:checkL os=0):(flatO os).find? (loR (flatO os))=(flatO os).find? (lostB (plcL (flatO os))):=find_congr fun a _=>lo_right h a
end Go.Proofs.YthkolmebokfagaaGreatDoor
namespace Go.Proofs.YthkolmebokfagaaGreatDoor
open Go.ChangeShapes Go.WideShapes Go.Deep Go.RowKit
def FewM (m:Ms):Prop:=m.sc.name.length<=100/\m.sc.rels.length<=80/\m.sc.data.length<=5000
def FewO (L:List Ms) (l:List Sy):Prop:=L.length<=40/\l.length<=140/\(∀ m ∈ L,FewM m)/\∀ t ∈ l,t.name.length<=100
def BigO (P:Prop) (w:World) (e:Ending) (w':World):Prop:=∃ r:Bool,e=.returned (.bool r)/\(r=false->P)/\Below w.heap.size w w'
theorem bigS_no {x n y:Nat} (h:bigS x n y=false):y<=100/\n<=80/\x<=5000:=by
 unfold bigS at h
 have:=of_decide_eq_false h
 omega
theorem all_step {α:Type} {l:List α} {P:α->Prop} {k:Nat} {x:α} (h:∀ i y,i < k->l[i]?=some y->P y) (hx:l[k]?=some x) (hP:P x):∀ i y,i < k+1->l[i]?=some y->P y:=by
 intro i y hi hy
 rcases Nat.lt_succ_iff_lt_or_eq.1 hi with h1 | h1
 ·exact h i y h1 hy
 ·subst h1;rw [hx] at hy;cases hy;exact hP
theorem all_mem {α:Type} {l:List α} {P:α->Prop} {n:Nat} (hn:l.length<=n) (h:∀ i y,i < n->l[i]?=some y->P y):∀ y ∈ l,P y:=by
 intro y hy
 obtain ⟨i,hi⟩:=List.getElem?_of_mem hy
 exact h i y (by have:=(List.getElem?_eq_some_iff.1 hi).1;omega) hi
theorem rOBigF_any (a:Option Addr) (n c:Nat) (L:List Ms) (a2:Option Addr) (n2 c2:Nat) (l:List Sy) (hn:n<=maxLen) (hn2:n2<=maxLen) (w:World) (hs:SL msC 6 w w.heap.size a n L) (hs2:SL syC 4 w w.heap.size a2 n2 l):
  Calls Tryz.prog 6 #[.agg #[.slice a n c,.slice a2 n2 c2]] w (BigO (FewO L l) w):=by
 have HS:=Lib.hid hs
 have HS2:=Lib.hid hs2
 have HLn:=Lib.hid hs.len
 have HLn2:=Lib.hid hs2.len
 have hni:(n:Int)<=9223372036854775807:=by unfold maxLen at hn;omega
 have hni2:(n2:Int)<=9223372036854775807:=by unfold maxLen at hn2;omega
 obtain ⟨X,hX⟩:∃ X,X=w.heap.size:=⟨_,rfl⟩
 have HXE:=Lib.hid hX
 have HA:Hid (Below w.heap.size w (w.alloc (.cells #[.slice a n c,.slice a2 n2 c2] 25))):=Lib.hid ((Below.refl _ w).alloc (Nat.le_refl _) _)
 have HRX0:Hid (RB (w.alloc (.cells #[.slice a n c,.slice a2 n2 c2] 25)) X #[.slice a n c,.slice a2 n2 c2] 25):=Lib.hid (by rw [hX];exact (MapKept.heap_alloc w _).1)
 clear hs hs2 hX
 go_enter Tryz.func6,Tryz.ntmps6
 go_wp2
 try rw [<-HXE.out]
 generalize (w.alloc (.cells #[.slice a n c,.slice a2 n2 c2] 25))=W at HA HRX0 ⊢
 go_loopw [3] (fun i wr=>∃ (k:Nat) (wx:World),wx=wr/\k<=n/\i=.int .i64 k/\Below w.heap.size w wx/\RB wx X #[.slice a n c,.slice a2 n2 c2] 25/\Hid (∀ i m,i < k->L[i]?=some m->FewM m)) (fun i _=>n - (intOf i).toNat)
 case atStart=>exact ⟨0,_,rfl,by omega,rfl,HA.out,HRX0.out,Lib.hid (fun i m hi=>absurd hi (by omega))⟩
 case round=>
  clear HA HRX0
  obtain ⟨k,wx,rfl,hk,rfl,hb,hrx,HF⟩:=hrel
  have HB:=Lib.hid hb
  have HRX:=Lib.hid hrx
  clear hb hrx
  have x0:wx.cell? ⟨X,0,none⟩=some (.slice a n c):=HRX.out.cell
  have x1:wx.cell? ⟨X,1,none⟩=some (.slice a2 n2 c2):=HRX.out.cell
  by_cases hgo:k < n/\n<=40
  ·obtain ⟨hlt,h40⟩:=hgo
   have hlti:(k:Int) < (n:Int):=by omega
   have h40i:(n:Int)<=40:=by omega
   have hk1:k < L.length:=by have:=HLn.out;omega
   obtain ⟨bb,off,rfl,hB,hc⟩:=(HS.out.next HB.out).cells (HS.out.ne hlt)
   obtain ⟨c0,c1,c2',c3,c4,c5⟩:=ms_cells (fun j hj=>hc k hk1 j hj)
   obtain ⟨ms,hms⟩:∃ ms,ms=L[k]'hk1:=⟨_,rfl⟩
   have HMk:Hid (L[k]?=some ms):=Lib.hid (by rw [hms];exact List.getElem?_eq_getElem hk1)
   rw [<-hms] at c0 c1 c2' c3 c4 c5
   clear hc hms
   obtain ⟨⟨nm,ki,kp,al,dt,rl⟩,ad,cp⟩:=ms
   obtain ⟨N,hN⟩:∃ N:ByteArray,N=⟨nm.toArray⟩:=⟨_,rfl⟩
   obtain ⟨B,hBB⟩:∃ B:ByteArray,B=⟨dt.toArray⟩:=⟨_,rfl⟩
   obtain ⟨nr,hnr⟩:∃ nr,nr=rl.length:=⟨_,rfl⟩
   simp only [] at c0 c1 c2' c3 c4 c5
   rw [<-hN] at c0
   rw [<-hBB] at c4
   rw [<-hnr] at c5
   have HSz:Hid (N.size=nm.length/\B.size=dt.length/\nr=rl.length):=Lib.hid ⟨by rw [hN];simp [ByteArray.size],by rw [hBB];simp [ByteArray.size],hnr⟩
   clear hN hBB hnr hB
   have HBg:=Lib.hid (fun u=>rBig_any N B ki kp al ad nr cp u)
   obtain ⟨bg,hbg⟩:∃ bg,bg=bigS B.size nr N.size:=⟨_,rfl⟩
   rw [<-hbg] at HBg
   have HBq:=Lib.hid hbg.symm
   clear hbg
   cases bg
   ·go_wp2_with fail
    refine (HBg.out _).mono ?_
    rintro e u ⟨rfl,hb⟩
    have HB2:=Lib.hid (after HB.out hb)
    replace HRX:=Lib.hid (HRX.out.next hb)
    clear hb
    go_wp2
    go_roundw
    case rel=>exact ⟨k+1,_,rfl,by omega,by go_num,HB2.out,HRX.out,Lib.hid (all_step HF.out HMk.out (by have:=bigS_no HBq.out;have:=HSz.out;unfold FewM;simp only;omega))⟩
    case measure=>simp [intOf];omega
   ·go_wp2_with fail
    refine (HBg.out _).mono ?_
    rintro e u ⟨rfl,hb⟩
    have HB2:=Lib.hid (after HB.out hb)
    clear hb
    go_wp2
    go_ret
    exact ⟨true,rfl,(fun h=>by cases h),HB2.out⟩
  ·have HFk:=Lib.hid (And.intro hk HF.out)
   have HBB:=Lib.hid HB.out
   have HRX1:=Lib.hid HRX.out
   have hcs:¬ (k:Int) < (n:Int)\/((k:Int) < (n:Int)/\¬ (n:Int)<=40):=by omega
   clear hgo
   rcases hcs with hn1 | ⟨hn1,hn3⟩
   all_goals
    go_wp2
    clear x0 x1
    go_loopw [4] (fun i wr=>∃ (k:Nat) (wx:World),wx=wr/\k<=n2/\i=.int .i64 k/\Below w.heap.size w wx/\RB wx X #[.slice a n c,.slice a2 n2 c2] 25/\Hid (∀ i t,i < k->l[i]?=some t->t.name.length<=100)) (fun i _=>n2 - (intOf i).toNat)
    case atStart=>exact ⟨0,_,rfl,by omega,rfl,HBB.out,HRX1.out,Lib.hid (fun i m hi=>absurd hi (by omega))⟩
    case round=>
     clear HB HRX HBB HRX1
     obtain ⟨q,wy,rfl,hq,rfl,hb,hrx,HG⟩:=hrel
     have HB:=Lib.hid hb
     have HRX:=Lib.hid hrx
     clear hb hrx
     have x0:wy.cell? ⟨X,0,none⟩=some (.slice a n c):=HRX.out.cell
     have x1:wy.cell? ⟨X,1,none⟩=some (.slice a2 n2 c2):=HRX.out.cell
     by_cases hgo:q < n2/\n2<=140
     ·obtain ⟨hlt,h40⟩:=hgo
      have hlti:(q:Int) < (n2:Int):=by omega
      have h40i:(n2:Int)<=140:=by omega
      have hk1:q < l.length:=by have:=HLn2.out;omega
      obtain ⟨bb,off,rfl,hB,hc⟩:=(HS2.out.next HB.out).cells (HS2.out.ne hlt)
      obtain ⟨c0,c1,c2',c3⟩:=sy_cells (fun j hj=>hc q hk1 j hj)
      obtain ⟨sy,hsy⟩:∃ sy,sy=l[q]'hk1:=⟨_,rfl⟩
      have HMq:Hid (l[q]?=some sy):=Lib.hid (by rw [hsy];exact List.getElem?_eq_getElem hk1)
      rw [<-hsy] at c0 c1 c2' c3
      clear hc hsy
      obtain ⟨nm,bi,se,of⟩:=sy
      obtain ⟨N,hN⟩:∃ N:ByteArray,N=⟨nm.toArray⟩:=⟨_,rfl⟩
      simp only [] at c0 c1 c2' c3
      rw [<-hN] at c0
      have HNz:Hid (N.size=nm.length):=Lib.hid (by rw [hN];simp [ByteArray.size])
      clear hN hB
      by_cases hbig:(100:Int) < (N.size:Int)
      ·go_wp2
       go_ret
       exact ⟨true,rfl,(fun h=>by cases h),HB.out⟩
      ·go_wp2
       go_roundw
       case rel=>exact ⟨q+1,_,rfl,by omega,by go_num,HB.out,HRX.out,Lib.hid (all_step HG.out HMq.out (by have:=HNz.out;simp only;omega))⟩
       case measure=>simp [intOf];omega
     ·have hcs:¬ (q:Int) < (n2:Int)\/((q:Int) < (n2:Int)/\¬ (n2:Int)<=140):=by omega
      clear hgo
      rcases hcs with hm1 | ⟨hm1,hm3⟩
      all_goals
       by_cases h41:(40:Int) < (n:Int)
       ·first | (exfalso;omega) | (go_wp2;go_ret;exact ⟨true,rfl,(fun h=>by cases h),HB.out⟩)
       ·by_cases h141:(140:Int) < (n2:Int)
        ·first | (exfalso;omega) | (go_wp2;go_ret;exact ⟨true,rfl,(fun h=>by cases h),HB.out⟩)
        ·have HE:Hid (FewO L l):=Lib.hid (by
          have e1:=HLn.out
          have e2:=HLn2.out
          exact ⟨by omega,by omega,all_mem (n:=k) (by omega) HFk.out.2,all_mem (n:=q) (by omega) HG.out⟩)
         first | (exfalso;omega) | (go_wp2;go_ret;exact ⟨false,rfl,fun _=>HE.out,HB.out⟩)
theorem sBigF_any (a:Option Addr) (n c:Nat) (Os:List Ox) (w:World) (hO:OS w w.heap.size a n Os):
  Calls Tryz.prog 18 #[.slice a n c] w (BigO (∀ o ∈ Os,FewO o.L o.l) w):=by
 have HO:=Lib.hid hO
 have HLn:=Lib.hid hO.sl.len
 have hni:(n:Int)<=9223372036854775807:=by have:=hO.ln;unfold maxLen at this;omega
 clear hO
 go_enter Tryz.func18,Tryz.ntmps18
 go_wp2
 go_loopw [3] (fun i wr=>∃ (k:Nat) (wx:World),wx=wr/\k<=n/\i=.int .i64 k/\Below w.heap.size w wx/\Hid (∀ i o,i < k->Os[i]?=some o->FewO o.L o.l)) (fun i _=>n - (intOf i).toNat)
 case atStart=>exact ⟨0,_,rfl,by omega,rfl,Below.refl _ _,Lib.hid (fun i o hi=>absurd hi (by omega))⟩
 case round=>
  obtain ⟨k,wx,rfl,hk,rfl,hbx,HF⟩:=hrel
  have HB:=Lib.hid hbx
  clear hbx
  by_cases hgo:k < n/\n<=12
  ·obtain ⟨hlt,h12⟩:=hgo
   have hlti:(k:Int) < (n:Int):=by omega
   have h12i:(n:Int)<=12:=by omega
   have hk1:k < Os.length:=by have:=HLn.out;omega
   have HO1:=Lib.hid (HO.out.next HB.out)
   obtain ⟨bb,off,hae,hBB,hcc⟩:=HO1.out.sl.cells (HO.out.sl.ne hlt)
   subst hae
   obtain ⟨c0,c1⟩:=ox_cells (fun j hj=>hcc k hk1 j hj)
   obtain ⟨o,ho⟩:∃ o,o=Os[k]:=⟨_,rfl⟩
   have hom:o ∈ Os:=by rw [ho];exact List.getElem_mem hk1
   have HOk:Hid (Os[k]?=some o):=Lib.hid (by rw [ho];exact List.getElem?_eq_getElem hk1)
   have hG:=HO1.out.at hom
   have HBg:=Lib.hid (rOBigF_any o.a o.L.length o.c o.L o.a2 o.l.length o.c2 o.l hG.l1 hG.l2 wx hG.s1 hG.s2)
   rw [<-ho] at c0 c1
   clear hcc ho hBB hom hG HO1
   obtain ⟨oa,oc,oL,oa2,oc2,ol⟩:=o
   simp only [] at c0 c1 HBg
   obtain ⟨on,hon⟩:∃ on,on=oL.length:=⟨_,rfl⟩
   obtain ⟨m,hm⟩:∃ m,m=ol.length:=⟨_,rfl⟩
   rw [<-hon] at c0 HBg
   rw [<-hm] at c1 HBg
   clear hon hm
   go_wp2_with fail
   refine HBg.out.mono ?_
   rintro e u ⟨r,rfl,hr,hb⟩
   have HRf:=Lib.hid hr
   clear hr
   have HB2:=Lib.hid (after HB.out hb)
   clear hb c0 c1
   cases r
   ·go_wp2
    go_roundw
    case rel=>exact ⟨k+1,_,rfl,by omega,by go_num,HB2.out,Lib.hid (all_step HF.out HOk.out (HRf.out (by simp)))⟩
    case measure=>simp [intOf];omega
   ·go_wp2
    go_ret
    exact ⟨true,rfl,(fun h=>by cases h),HB2.out⟩
  ·have hcs:¬ (k:Int) < (n:Int)\/((k:Int) < (n:Int)/\¬ (n:Int)<=12):=by omega
   clear hgo
   rcases hcs with hn1 | ⟨hn1,hn3⟩
   all_goals
    by_cases h13:(12:Int) < (n:Int)
    ·first | (exfalso;omega) | (go_wp2;go_ret;exact ⟨true,rfl,(fun h=>by cases h),HB.out⟩)
    ·have HE:Hid (∀ o ∈ Os,FewO o.L o.l):=Lib.hid (by have e:=HLn.out;exact all_mem (n:=k) (by omega) HF.out)
     first | (exfalso;omega) | (go_wp2;go_ret;exact ⟨false,rfl,fun _=>HE.out,HB.out⟩)
end Go.Proofs.YthkolmebokfagaaGreatDoor
namespace Go.Proofs.YthkolmebokfagaaGreatDoor
open Go.ChangeShapes Go.WideShapes Go.Deep Go.RowKit
theorem rel_max {L:List Ms} {l:List Sy} (h:FewO L l):∀ m ∈ L,m.sc.rels.length<=maxLen:=fun m hm=>by have:=(h.2.2.1 m hm).2.1;unfold maxLen;omega
theorem rCheck_any (a:Option Addr) (n c:Nat) (Os:List Ox) (w:World) (hO:OS w w.heap.size a n Os) (hF:∀ o ∈ Os,FewO o.L o.l):Calls Tryz.prog 26 #[.slice a n c] w (RetB (.int .i64 (checkL (Os.map obOf))) w):=by
 have hlen:(Os.map obOf).length=n:=by rw [List.length_map];exact hO.sl.len.symm
 have HBig:Hid (8 < n->checkL (Os.map obOf)=2):=Lib.hid fun h=>by unfold checkL;rw [if_pos (by omega)]
 have HNo:Hid (¬ 8 < n->∀ o ∈ Os,isO (obOf o)=false->checkL (Os.map obOf)=1):=Lib.hid fun h o ho hf=>by
  unfold checkL
  rw [if_neg (by omega),if_neg]
  intro hall
  have:=List.all_eq_true.1 hall (obOf o) (List.mem_map.2 ⟨o,ho,rfl⟩)
  rw [hf] at this;cases this
 have HYes:Hid (¬ 8 < n->(∀ o ∈ Os,isO (obOf o)=true)->checkL (Os.map obOf)=0):=Lib.hid fun h hall=>by
  unfold checkL
  rw [if_neg (by omega),if_pos]
  rw [List.all_eq_true]
  intro x hx
  obtain ⟨o,ho,rfl⟩:=List.mem_map.1 hx
  exact hall o ho
 have HO:=Lib.hid hO
 have HF:=Lib.hid hF
 have HLn:=Lib.hid hO.sl.len
 generalize checkL (Os.map obOf)=R at*
 clear hO hF hlen
 by_cases h8:8 < n
 ·have HR:=Lib.hid (HBig.out h8)
  have t:(8:Int) < (n:Int):=by omega
  clear h8
  go_enter Tryz.func26,Tryz.ntmps26
  go_wp2
  go_ret
  exact ⟨by rw [HR.out];rfl,Below.refl _ _⟩
 have t:¬ (8:Int) < (n:Int):=by omega
 have H8:=Lib.hid h8
 clear h8
 go_enter Tryz.func26,Tryz.ntmps26
 go_wp2_with fail
 go_loopw [3] (fun i wr=>∃ (k:Nat) (wx:World),wx=wr/\k<=n/\i=.int .i64 k/\Hid (Below w.heap.size w wx)/\Hid (∀ i o,i < k->Os[i]?=some o->isO (obOf o)=true)) (fun i _=>n - (intOf i).toNat)
 case atStart=>exact ⟨0,_,rfl,by omega,rfl,Lib.hid (Below.refl _ _),Lib.hid (fun i o hi=>absurd hi (by omega))⟩
 case round=>
  obtain ⟨k,wx,rfl,hk,rfl,HB,HG⟩:=hrel
  by_cases hlt:k < n
  ·have hlti:(k:Int) < (n:Int):=by omega
   have hkl:k < Os.length:=by have:=HLn.out;omega
   have hO1:=HO.out.next HB.out
   obtain ⟨bb,off,hae,-,hcc⟩:=hO1.sl.cells (hO1.sl.ne hlt)
   subst hae
   obtain ⟨c0,c1⟩:=ox_cells (fun j hj=>hcc k hkl j hj)
   obtain ⟨o,ho⟩:∃ o,o=Os[k]:=⟨_,rfl⟩
   have hom:o ∈ Os:=by rw [ho];exact List.getElem_mem hkl
   have HOk:Hid (Os[k]?=some o):=Lib.hid (by rw [ho];exact List.getElem?_eq_getElem hkl)
   have hG:=hO1.at hom
   have hf:=HF.out o hom
   have HC:=Lib.hid (rOIs_any o.a o.L.length o.c o.L o.a2 o.l.length o.c2 o.l hG.l1 hG.l2 wx hG.s1 hG.no hG.s2 hG.gd (rel_max hf) (fun m hm=>by have:=(hf.2.2.1 m hm).1;omega) (fun t ht=>by have:=hf.2.2.2 t ht;omega))
   have HNo2:Hid (isO ⟨o.L.map (·.sc),o.l⟩=false->R=1):=Lib.hid (HNo.out H8.out o hom)
   have HSt:Hid (isO ⟨o.L.map (·.sc),o.l⟩=true->∀ i o,i < k+1->Os[i]?=some o->isO (obOf o)=true):=Lib.hid (fun hh=>all_step HG.out HOk.out hh)
   have HLt:=Lib.hid hlt
   rw [<-ho] at c0 c1
   clear hcc ho hom hG hO1 HOk hf hlt hk
   obtain ⟨oa,oc,oL,oa2,oc2,ol⟩:=o
   simp only [] at c0 c1 HC HNo2 HSt
   generalize isO ⟨oL.map (·.sc),ol⟩=r at*
   generalize oL.length=on at*
   generalize ol.length=m at*
   go_wp2_with fail
   refine HC.out.mono ?_
   rintro e u ⟨rfl,hb⟩
   have HB2:=Lib.hid (after HB.out hb)
   clear hb c0 c1
   cases r
   ·have HR:=Lib.hid (HNo2.out (by simp))
    go_wp2
    go_ret
    exact ⟨by rw [HR.out];rfl,HB2.out⟩
   ·have HS2:=Lib.hid (HSt.out (by simp))
    go_wp2
    go_roundw
    case rel=>exact ⟨k+1,_,rfl,by have:=HLt.out;omega,by go_num,HB2,HS2⟩
    case measure=>have:=HLt.out;simp [intOf];omega
  ·obtain rfl:k=n:=by omega
   have hge:¬ (k:Int) < (k:Int):=by omega
   have HR:=Lib.hid (HYes.out H8.out (all_mem (n:=k) (by have:=HLn.out;omega) HG.out))
   clear hlt hk
   go_wp2
   go_ret
   exact ⟨by rw [HR.out];rfl,HB.out⟩
abbrev plB (o:Option Pl):Value:=.tuple #[plV (o.getD plZ),.bool o.isSome]
def FstP (o:Option Pl) (w:World) (e:Ending) (w':World):Prop:=e=.returned (plB o)/\Below w.heap.size w w'
theorem zeroPl (w:World):(zeroValue 46).run Tryz.prog w=.ok (.agg #[.int .i64 0,.int .i64 0,.int .i64 0]) w:=by kernel_rfl
def PreF (b:Int) (nm:List UInt8) (fl rem:List At):Prop:=∃ pre,fl=pre ++ rem/\∀ x ∈ pre,hitR b nm x=false
theorem PreF.step {b:Int} {nm:List UInt8} {fl rem:List At} {x:At} (h:PreF b nm fl (x :: rem)) (hx:hitR b nm x=false):PreF b nm fl rem:=by
 obtain ⟨pre,h1,h2⟩:=h
 refine ⟨pre ++ [x],by rw [h1];simp,fun y hy=>?_⟩
 rcases List.mem_append.1 hy with hy | hy
 ·exact h2 y hy
 ·rw [List.mem_singleton] at hy;rw [hy];exact hx
theorem PreF.hit {b:Int} {nm:List UInt8} {fl rem:List At} {x:At} (h:PreF b nm fl (x :: rem)) (hx:hitR b nm x=true):fstR b nm fl=some (plOf x):=by
 obtain ⟨pre,h1,h2⟩:=h
 unfold fstR
 rw [h1,List.find?_append,List.find?_eq_none.2 (fun y hy=>by rw [h2 y hy];decide)]
 simp [hx]
theorem PreF.done {b:Int} {nm:List UInt8} {fl:List At} (h:PreF b nm fl []):fstR b nm fl=none:=by
 obtain ⟨pre,h1,h2⟩:=h
 unfold fstR
 rw [h1,List.append_nil,List.find?_eq_none.2 (fun y hy=>by rw [h2 y hy];decide)]
 rfl
theorem hitR_no {b:Int} {nm:List UInt8} {x:At} (h:¬ (x.y.name=nm/\x.y.bind=b/\0<=x.y.sec)):hitR b nm x=false:=by
 cases hh:hitR b nm x
 ·rfl
 ·unfold hitR at hh
  simp only [Bool.and_eq_true,decide_eq_true_eq] at hh
  exact absurd ⟨hh.1.1,hh.1.2,hh.2⟩ h
theorem hitR_yes {b:Int} {nm:List UInt8} {x:At} (h1:x.y.name=nm) (h2:x.y.bind=b) (h3:0<=x.y.sec):hitR b nm x=true:=by
 unfold hitR;rw [decide_eq_true h1,decide_eq_true h2,decide_eq_true h3];rfl
theorem rFirst_any (a:Option Addr) (n c:Nat) (Os:List Ox) (N:ByteArray) (b:Int) (w:World) (hO:OS w w.heap.size a n Os):
  Calls Tryz.prog 57 #[.slice a n c,.string N,.int .i64 b] w (FstP (fstR b N.data.toList (flatS 0 (Os.map (·.l)))) w):=by
 have HO:=Lib.hid hO
 have HLn:=Lib.hid hO.sl.len
 have hni:(n:Int)<=9223372036854775807:=by have:=hO.ln;unfold maxLen at this;omega
 have HRs:Hid (∀ x rem,PreF b N.data.toList (flatS 0 (Os.map (·.l))) (x :: rem)->hitR b N.data.toList x=true->fstR b N.data.toList (flatS 0 (Os.map (·.l)))=some (plOf x)):=Lib.hid fun x rem h hx=>h.hit hx
 have HRd:Hid (PreF b N.data.toList (flatS 0 (Os.map (·.l))) []->fstR b N.data.toList (flatS 0 (Os.map (·.l)))=none):=Lib.hid fun h=>h.done
 obtain ⟨FL,hFL⟩:∃ FL,FL=flatS 0 (Os.map (·.l)):=⟨_,rfl⟩
 have HFL:Hid (FL=flatS 0 ((Os.drop 0).map (·.l))):=Lib.hid hFL
 rw [<-hFL] at HRs HRd ⊢
 obtain ⟨R,hR⟩:∃ R,R=fstR b N.data.toList FL:=⟨_,rfl⟩
 rw [<-hR] at HRs HRd ⊢
 clear hFL hR hO
 obtain ⟨H,hH⟩:∃ H,H=w.heap.size:=⟨_,rfl⟩
 obtain ⟨W,hW⟩:∃ W,W=w.alloc (.cells #[.int .i64 0,.int .i64 0,.int .i64 0] 46):=⟨_,rfl⟩
 have HB0:Hid (Below w.heap.size w W):=Lib.hid (by rw [hW];exact lit_below w _)
 have HR0:Hid (RB W H #[.int .i64 0,.int .i64 0,.int .i64 0] 46):=Lib.hid (by rw [hW,hH];exact rb_new w _ _)
 have HH:=Lib.hid hH.symm
 have HW:=Lib.hid hW.symm
 have hzp:=zeroPl
 clear hH hW
 go_enter Tryz.func57,Tryz.ntmps57
 go_wp2_with fail
 rw [HW.out,HH.out]
 go_loopw [8] (fun i wr=>∃ (k:Nat) (wx:World),wx=wr/\k<=n/\i=.int .i64 k/\Hid (Below w.heap.size w wx)/\Hid (RB wx H #[.int .i64 0,.int .i64 0,.int .i64 0] 46)/\Hid (PreF b N.data.toList FL (flatS k ((Os.drop k).map (·.l))))) (fun i _=>n - (intOf i).toNat)
 case atStart=>exact ⟨0,_,rfl,by omega,rfl,HB0,HR0,Lib.hid ⟨[],HFL.out,by simp⟩⟩
 case round=>
  clear HB0 HR0
  obtain ⟨k,wx,rfl,hk,rfl,HB,HP,HF⟩:=hrel
  by_cases hlt:k < n
  ·have hlti:(k:Int) < (n:Int):=by omega
   have hkl:k < Os.length:=by have:=HLn.out;omega
   obtain ⟨o,ho⟩:∃ o,o=Os[k]:=⟨_,rfl⟩
   have HOm:Hid (o ∈ Os):=Lib.hid (by rw [ho];exact List.getElem_mem hkl)
   have HOk:Hid (Os[k]?=some o):=Lib.hid (by rw [ho];exact List.getElem?_eq_getElem hkl)
   have HFl:Hid (flatS k ((Os.drop k).map (·.l))=flatR k 0 o.l ++ flatS (k+1) ((Os.drop (k+1)).map (·.l))):=Lib.hid (by rw [flatS_at hkl,ho])
   have HLt:=Lib.hid hlt
   obtain ⟨m,hm⟩:∃ m,m=o.l.length:=⟨_,rfl⟩
   have HM:=Lib.hid hm
   have hmi:(m:Int)<=9223372036854775807:=by have:=HO.out.l2 _ HOm.out;rw [<-hm] at this;unfold maxLen at this;omega
   clear ho hm hlt hk hkl
   go_wp2_with fail
   go_loopw [9] (fun i wr=>∃ (j:Nat) (wy:World),wy=wr/\j<=m/\i=.int .i64 j/\Hid (Below w.heap.size w wy)/\Hid (RB wy H #[.int .i64 0,.int .i64 0,.int .i64 0] 46)/\Hid (PreF b N.data.toList FL (flatR k j (o.l.drop j) ++ flatS (k+1) ((Os.drop (k+1)).map (·.l))))) (fun i _=>m - (intOf i).toNat)
   case atStart=>exact ⟨0,_,rfl,by omega,rfl,HB,HP,Lib.hid (by have:=HF.out;rw [HFl.out] at this;exact this)⟩
   case round=>
    clear HB HP HF
    obtain ⟨j,wy,rfl,hj,rfl,HB,HP,HF⟩:=hrel
    have hO1:=HO.out.next HB.out
    have hkl:k < Os.length:=(List.getElem?_eq_some_iff.1 HOk.out).1
    have hok:Os[k]=o:=by have:=HOk.out;rw [List.getElem?_eq_getElem hkl] at this;exact Option.some.inj this
    obtain ⟨bb,off,hae,-,hcc⟩:=hO1.sl.cells (by intro e;rw [e] at hkl;simp at hkl)
    subst hae
    obtain ⟨c0,c1⟩:=ox_cells (fun j hj=>hcc k hkl j hj)
    rw [hok] at c0 c1
    rw [<-HM.out] at c1
    have hs2:=hO1.s2 _ HOm.out
    rw [<-HM.out] at hs2
    clear hcc hok
    by_cases hltj:j < m
    ·have hltji:(j:Int) < (m:Int):=by omega
     have hjl:j < o.l.length:=by rw [<-HM.out];exact hltj
     have hkn:(k:Int) < (n:Int):=by have:=HLn.out;omega
     obtain ⟨b2,off2,hae2,-,hc2⟩:=hs2.cells (by intro e;rw [e] at hjl;simp at hjl)
     obtain ⟨d0,d1,d2,d3⟩:=sy_cells (fun q hq=>hc2 j hjl q hq)
     have HFn:Hid (flatR k j (o.l.drop j)=⟨k,j,o.l[j]⟩ :: flatR k (j+1) (o.l.drop (j+1))):=Lib.hid (flatR_at hjl k j)
     obtain ⟨y,hy⟩:∃ y,y=o.l[j]:=⟨_,rfl⟩
     rw [<-hy] at d0 d1 d2 d3 HFn
     have HF2:Hid (PreF b N.data.toList FL (⟨k,j,y⟩ :: (flatR k (j+1) (o.l.drop (j+1)) ++ flatS (k+1) ((Os.drop (k+1)).map (·.l))))):=Lib.hid (by have:=HF.out;rw [HFn.out] at this;exact this)
     rw [hae2] at c1
     obtain ⟨yn,yb,ys,yo⟩:=y
     obtain ⟨M,hM⟩:∃ M:ByteArray,M=⟨yn.toArray⟩:=⟨_,rfl⟩
     simp only [] at d0 d1 d2 d3
     rw [<-hM] at d0
     have hMn:M.data.toList=yn:=by rw [hM]
     have HLj:=Lib.hid hltj
     have hB1:=lit_below wy (.cells #[.string M,.int .i64 yb,.int .i64 ys,.int .i64 yo] 66)
     have HB2:=Lib.hid (after HB.out hB1)
     have HP2:=Lib.hid (HP.out.next hB1)
     by_cases hh:yn=N.data.toList/\yb=b/\0<=ys
     ·obtain ⟨e1,e2,e3⟩:=hh
      have HR:Hid (R=some ⟨(k:Int),ys,yo⟩):=Lib.hid (HRs.out _ _ HF2.out (hitR_yes e1 e2 e3))
      have hMN:M=N:=ba_ext (by rw [hMn,e1])
      have hq:(N.toList == N.toList)=true:=by simp
      rw [hMN] at d0
      subst e2
      have p0:(wy.alloc (.cells #[.string N,.int .i64 yb,.int .i64 ys,.int .i64 yo] 66)).cell? ⟨H,0,none⟩=some (.int .i64 0):=by have:=HP2.out;rw [hMN] at this;exact this.cell
      have p1:(wy.alloc (.cells #[.string N,.int .i64 yb,.int .i64 ys,.int .i64 yo] 66)).cell? ⟨H,1,none⟩=some (.int .i64 0):=by have:=HP2.out;rw [hMN] at this;exact this.cell
      have p2:(wy.alloc (.cells #[.string N,.int .i64 yb,.int .i64 ys,.int .i64 yo] 66)).cell? ⟨H,2,none⟩=some (.int .i64 0):=by have:=HP2.out;rw [hMN] at this;exact this.cell
      have f0:(wy.alloc (.cells #[.string N,.int .i64 yb,.int .i64 ys,.int .i64 yo] 66)).frozen? ⟨H,0,none⟩=false:=by have:=HP2.out;rw [hMN] at this;exact this.frozen
      have f1:(wy.alloc (.cells #[.string N,.int .i64 yb,.int .i64 ys,.int .i64 yo] 66)).frozen? ⟨H,1,none⟩=false:=by have:=HP2.out;rw [hMN] at this;exact this.frozen
      have f2:(wy.alloc (.cells #[.string N,.int .i64 yb,.int .i64 ys,.int .i64 yo] 66)).frozen? ⟨H,2,none⟩=false:=by have:=HP2.out;rw [hMN] at this;exact this.frozen
      have HPx:Hid (RB (wy.alloc (.cells #[.string N,.int .i64 yb,.int .i64 ys,.int .i64 yo] 66)) H #[.int .i64 0,.int .i64 0,.int .i64 0] 46):=Lib.hid (by rw [<-hMN];exact HP2.out)
      have HB3:Hid (Below w.heap.size w (wy.alloc (.cells #[.string N,.int .i64 yb,.int .i64 ys,.int .i64 yo] 66))):=Lib.hid (by rw [<-hMN];exact HB2.out)
      have HHw:Hid (w.heap.size<=H):=Lib.hid (by rw [<-HH.out];exact Nat.le_refl _)
      clear hc2 hy hae2 hM hMn hMN hkl hjl hs2 hO1 hltj hj hB1 e1 HP2 HB2
      go_wp2
      have r1:=HPx.out.set (j:=0) (.int .i64 (k:Int))
      have r2:=r1.set (j:=1) (.int .i64 ys)
      have r3:=r2.set (j:=2) (.int .i64 yo)
      have HR4:=Lib.hid r3
      have HB4:=Lib.hid (((HB3.out.setCell (p:=⟨H,0,none⟩) HHw.out (.int .i64 (k:Int))).setCell (p:=⟨H,1,none⟩) HHw.out (.int .i64 ys)).setCell (p:=⟨H,2,none⟩) HHw.out (.int .i64 yo))
      clear r1 r2 r3
      refine bodyPost_ret (results_cell_two (P:=Tryz.prog) rfl _ _ H 46 _ (0,0) _ (.bool true) rfl HR4.out Tryz.underlying46 rfl (by kernel_rfl) rfl) rfl ?_
      exact ⟨by rw [HR.out];rfl,HB4.out⟩
     ·have HF3:=Lib.hid (HF2.out.step (hitR_no hh))
      have hB2':=HB2
      by_cases hn:yn=N.data.toList
      ·have hMN:M=N:=ba_ext (by rw [hMn,hn])
       have hq:(N.toList == N.toList)=true:=by simp
       rw [hMN] at d0
       have HP3:Hid (RB (wy.alloc (.cells #[.string N,.int .i64 yb,.int .i64 ys,.int .i64 yo] 66)) H #[.int .i64 0,.int .i64 0,.int .i64 0] 46):=Lib.hid (by rw [<-hMN];exact HP2.out)
       have HB3:Hid (Below w.heap.size w (wy.alloc (.cells #[.string N,.int .i64 yb,.int .i64 ys,.int .i64 yo] 66))):=Lib.hid (by rw [<-hMN];exact HB2.out)
       by_cases hb:yb=b
       ·have hs:ys < 0:=by
         apply Classical.byContradiction;intro hc;exact hh ⟨hn,hb,by omega⟩
        subst hb
        clear hc2 hy hae2 hM hMn hMN hkl hjl hs2 hO1 hltj hj hB1 hh hn HP2 HB2 hB2'
        go_wp2
        go_roundw
        case rel=>exact ⟨j+1,_,rfl,by have:=HLj.out;omega,by go_num,HB3,HP3,HF3⟩
        case measure=>have:=HLj.out;simp [intOf];omega
       ·have hbe:(yb == b)=false:=by rw [beq_eq_false_iff_ne];exact hb
        clear hc2 hy hae2 hM hMn hMN hkl hjl hs2 hO1 hltj hj hB1 hh hn HP2 HB2 hB2' hb
        go_wp2
        go_roundw
        case rel=>exact ⟨j+1,_,rfl,by have:=HLj.out;omega,by go_num,HB3,HP3,HF3⟩
        case measure=>have:=HLj.out;simp [intOf];omega
      ·have hq:(M.toList == N.toList)=false:=by rw [beq_eq_false_iff_ne,ByteArray.toList_eq,ByteArray.toList_eq,hMn];exact hn
       clear hc2 hy hae2 hM hMn hkl hjl hs2 hO1 hltj hj hB1 hh hn hB2'
       go_wp2
       go_roundw
       case rel=>exact ⟨j+1,_,rfl,by have:=HLj.out;omega,by go_num,HB2,HP2,HF3⟩
       case measure=>have:=HLj.out;simp [intOf];omega
    ·obtain rfl:j=m:=by omega
     have hge:¬ (j:Int) < (j:Int):=by omega
     have hkn:(k:Int) < (n:Int):=by have:=HLn.out;omega
     have HF3:Hid (PreF b N.data.toList FL (flatS (k+1) ((Os.drop (k+1)).map (·.l)))):=Lib.hid (by
      have:=HF.out
      rw [HM.out,List.drop_length] at this
      exact this)
     clear hs2 hO1 hkl hj hltj
     go_wp2
     go_roundw
     case rel=>exact ⟨k+1,_,rfl,by have:=HLt.out;omega,by go_num,HB,HP,HF3⟩
     case measure=>have:=HLt.out;simp [intOf];omega
  ·obtain rfl:k=n:=by omega
   have hge:¬ (k:Int) < (k:Int):=by omega
   have HR:Hid (R=none):=Lib.hid (HRd.out (by
    have:=HF.out
    rw [HLn.out,List.drop_length] at this
    exact this))
   have p0:wx.cell? ⟨H,0,none⟩=some (.int .i64 0):=HP.out.cell
   have p1:wx.cell? ⟨H,1,none⟩=some (.int .i64 0):=HP.out.cell
   have p2:wx.cell? ⟨H,2,none⟩=some (.int .i64 0):=HP.out.cell
   have f0:wx.frozen? ⟨H,0,none⟩=false:=HP.out.frozen
   have f1:wx.frozen? ⟨H,1,none⟩=false:=HP.out.frozen
   have f2:wx.frozen? ⟨H,2,none⟩=false:=HP.out.frozen
   have HHw:Hid (w.heap.size<=H):=Lib.hid (by rw [<-HH.out];exact Nat.le_refl _)
   clear hlt hk
   go_wp2
   have r1:=HP.out.set (j:=0) (.int .i64 0)
   have r2:=r1.set (j:=1) (.int .i64 0)
   have r3:=r2.set (j:=2) (.int .i64 0)
   have HR4:=Lib.hid r3
   have HB4:=Lib.hid (((HB.out.setCell (p:=⟨H,0,none⟩) HHw.out (.int .i64 0)).setCell (p:=⟨H,1,none⟩) HHw.out (.int .i64 0)).setCell (p:=⟨H,2,none⟩) HHw.out (.int .i64 0))
   clear r1 r2 r3
   refine bodyPost_ret (results_cell_two (P:=Tryz.prog) rfl _ _ H 46 _ (0,0) _ (.bool false) rfl HR4.out Tryz.underlying46 rfl (by kernel_rfl) rfl) rfl ?_
   exact ⟨by rw [HR.out];rfl,HB4.out⟩
end Go.Proofs.YthkolmebokfagaaGreatDoor
