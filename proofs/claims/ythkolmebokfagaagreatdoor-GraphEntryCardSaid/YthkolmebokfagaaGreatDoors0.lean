/- What the texts behind want besides. -/
import Derived.Test.YthkolmebokfagaaGreatDoorqE
import Derived.Test.YthkolmebokfagaaGreatDoorqH
import Derived.Deep.RegionHeld3
import Derived.BigQuiet
import Derived.Test.YthkolmebokfagaaGreatDoorqI
import Derived.Laws.AppendOwnNone
import Derived.Laws.OwnMore
import Derived.Deep.RegionLaw
import Derived.Test.YthkolmebokfagaaGreatDoorqJ
import Derived.Test.YthkolmebokfagaaGreatDoorv1
import Derived.Maps.RangeRun
import Derived.Test.YthkolmebokfagaaGreatDoorv2
import Derived.Test.YthkolmebokfagaaGreatDoorv3
set_option maxRecDepth 100000
set_option maxHeartbeats 2000000
set_option linter.unusedVariables false
set_option linter.unusedSimpArgs false
namespace Go.Proofs.YthkolmebokfagaaGreatDoor
open Go.RowKit
variable {P:Program}
variable {α:Type} {enc:α->List Value} {sz:Nat}
theorem rl_one (r:Rl):∀ u ∈ rlC r,u.oneCell'=true:=by
 intro u hu
 simp only [rlC,List.mem_cons,List.mem_nil_iff,or_false] at hu
 rcases hu with rfl | rfl | rfl | rfl <;> rfl
abbrev sset (u:World) (X:Nat) (s:Sc) (a:Option Addr) (n c:Nat):World:=
 ((((((u.setCell ⟨X,0,none⟩ (.string ⟨s.name.toArray⟩)).setCell ⟨X,1,none⟩ (.int .i64 s.kind)).setCell ⟨X,2,none⟩ (.bool s.keep)).setCell ⟨X,3,none⟩ (.int .i64 s.align)).setCell ⟨X,4,none⟩ (.string ⟨s.data.toArray⟩)).setCell ⟨X,5,none⟩ (.slice a n c))
theorem sset_heap {u:World} {X:Nat} {s':Sc} {a':Option Addr} {n' c':Nat} (h:RB u X (scA s' a' n' c') 57) (s:Sc) (a:Option Addr) (n c:Nat):RB (sset u X s a n c) X (scA s a n c) 57:=by
 have h0:RB (u.setCell ⟨X,0,none⟩ (.string ⟨s.name.toArray⟩)) X #[.string ⟨s.name.toArray⟩,.int .i64 s'.kind,.bool s'.keep,.int .i64 s'.align,.string ⟨s'.data.toArray⟩,.slice a' n' c'] 57:=h.set (j:=0) _
 have h1:RB ((u.setCell ⟨X,0,none⟩ (.string ⟨s.name.toArray⟩)).setCell ⟨X,1,none⟩ (.int .i64 s.kind)) X #[.string ⟨s.name.toArray⟩,.int .i64 s.kind,.bool s'.keep,.int .i64 s'.align,.string ⟨s'.data.toArray⟩,.slice a' n' c'] 57:=h0.set (j:=1) _
 have h2:RB (((u.setCell ⟨X,0,none⟩ (.string ⟨s.name.toArray⟩)).setCell ⟨X,1,none⟩ (.int .i64 s.kind)).setCell ⟨X,2,none⟩ (.bool s.keep)) X #[.string ⟨s.name.toArray⟩,.int .i64 s.kind,.bool s.keep,.int .i64 s'.align,.string ⟨s'.data.toArray⟩,.slice a' n' c'] 57:=h1.set (j:=2) _
 have h3:RB ((((u.setCell ⟨X,0,none⟩ (.string ⟨s.name.toArray⟩)).setCell ⟨X,1,none⟩ (.int .i64 s.kind)).setCell ⟨X,2,none⟩ (.bool s.keep)).setCell ⟨X,3,none⟩ (.int .i64 s.align)) X #[.string ⟨s.name.toArray⟩,.int .i64 s.kind,.bool s.keep,.int .i64 s.align,.string ⟨s'.data.toArray⟩,.slice a' n' c'] 57:=h2.set (j:=3) _
 have h4:RB (((((u.setCell ⟨X,0,none⟩ (.string ⟨s.name.toArray⟩)).setCell ⟨X,1,none⟩ (.int .i64 s.kind)).setCell ⟨X,2,none⟩ (.bool s.keep)).setCell ⟨X,3,none⟩ (.int .i64 s.align)).setCell ⟨X,4,none⟩ (.string ⟨s.data.toArray⟩)) X #[.string ⟨s.name.toArray⟩,.int .i64 s.kind,.bool s.keep,.int .i64 s.align,.string ⟨s.data.toArray⟩,.slice a' n' c'] 57:=h3.set (j:=4) _
 have h5:RB ((((((u.setCell ⟨X,0,none⟩ (.string ⟨s.name.toArray⟩)).setCell ⟨X,1,none⟩ (.int .i64 s.kind)).setCell ⟨X,2,none⟩ (.bool s.keep)).setCell ⟨X,3,none⟩ (.int .i64 s.align)).setCell ⟨X,4,none⟩ (.string ⟨s.data.toArray⟩)).setCell ⟨X,5,none⟩ (.slice a n c)) X #[.string ⟨s.name.toArray⟩,.int .i64 s.kind,.bool s.keep,.int .i64 s.align,.string ⟨s.data.toArray⟩,.slice a n c] 57:=h4.set (j:=5) _
 exact h5
theorem sset_below {w u:World} {X B:Nat} (h:Below B w u) (hX:B<=X) (s:Sc) (a:Option Addr) (n c:Nat):Below B w (sset u X s a n c):=
 ((((((h).setCell (p:=⟨X,0,none⟩) hX _).setCell (p:=⟨X,1,none⟩) hX _).setCell (p:=⟨X,2,none⟩) hX _).setCell (p:=⟨X,3,none⟩) hX _).setCell (p:=⟨X,4,none⟩) hX _).setCell (p:=⟨X,5,none⟩) hX _
theorem pIs_any (s:Sc) (a:Option Addr) (n c:Nat) (w:World) (hs:SL rlC 4 w w.heap.size a n s.rels) (hg:GoodSc s) (hT:TabP w):Calls Tryz.prog 78 #[scV s a n c] w (RetB (.bool (secR s)) w):=
 pIs_core ⟨s.name.toArray⟩ ⟨s.data.toArray⟩ s.kind s.keep s.align a n c s.rels (by show s.name.toArray.size<=maxLen;simpa using hg.name) (by show s.data.toArray.size<=maxLen;simpa using hg.data) w hs hg.rels hT
end Go.Proofs.YthkolmebokfagaaGreatDoor
namespace Go.Proofs.YthkolmebokfagaaGreatDoor
open Go.RowKit
theorem info_rel:(Tryz.prog.info? 82).map (fun i=>(i.zero,i.size,i.bytes))=some (some (.agg #[.int .i64 0,.int .i64 0,.int .i64 0,.int .i64 0]),4,32):=by kernel_rfl
end Go.Proofs.YthkolmebokfagaaGreatDoor
namespace Go.Proofs.YthkolmebokfagaaGreatDoor
open Go.ChangeShapes Go.WideShapes Go.Deep Go.RowKit
theorem nm_len {l:List UInt8} (h:isNmL l=true):l.length<=31:=by
 unfold isNmL at h
 simp only [Bool.and_eq_true] at h
 have h1:=h.1.1
 cases l with
 | nil=>simp
 | cons b t=>
  unfold isWordL at h1
  simp only [Bool.and_eq_true,decide_eq_true_eq] at h1
  exact h1.1.1
structure RelOk (r:Rl) (d:Nat):Prop where
 p0:0<=r.pos
 p1:r.pos<=d
 k0:0<=r.kind
 k1:r.kind<=9
 s0:0<=r.sym
theorem rels_ok {kind:Int} {d:List UInt8}:∀ {l:List Rl} {e:Int},0<=e->relsR kind d e l=true->∀ r ∈ l,RelOk r d.length
 | [],_,_,_,r,hr=>by cases hr
 | q :: t,e,h0,h,r,hr=>by
  unfold relsR at h
  by_cases c:badR kind d e q
  ·rw [if_pos c] at h;cases h
  ·rw [if_neg c] at h
   have c1:¬ q.pos < e:=fun hh=>c (.inl hh)
   have c2:¬ (d.length:Int) - szR q.kind < q.pos:=fun hh=>c (.inr (.inl hh))
   have c3:¬ q.sym < 0:=fun hh=>c (.inr (.inr (.inl hh)))
   have c4:covR kind d q=true:=by
    cases hh:covR kind d q
    ·exact absurd (.inr (.inr (.inr hh))) c
    ·rfl
   have hs:=szR_two q.kind
   have hk:0<=q.kind/\q.kind<=9:=by
    unfold covR at c4
    split at c4
    ·rename_i h1;omega
    ·simp only [Bool.and_eq_true] at c4
     exact fit_range c4.2.2
   rcases List.mem_cons.1 hr with rfl | hr
   ·exact ⟨by omega,by omega,hk.1,hk.2,by omega⟩
   ·exact rels_ok (by omega) h r hr
structure SecOk (s:Sc):Prop where
 name:s.name.length<=31
 k0:0<=s.kind
 k1:s.kind<=3
 a0:0<=s.align
 a1:s.align<=12
 data:s.data.length<=4096
 rels:s.rels.length<=64
 all:∀ r ∈ s.rels,RelOk r s.data.length
theorem sec_ok {s:Sc} (h:secR s=true):SecOk s:=by
 obtain ⟨hh,hr⟩:=sec_iff.1 h
 obtain ⟨h1,h2,h3,h4,h5,h6,h7⟩:=head_iff.1 hh
 exact ⟨nm_len h1,by omega,h3,h4,h5,h6,h7,rels_ok (by omega) hr⟩
end Go.Proofs.YthkolmebokfagaaGreatDoor
namespace Go.Proofs.YthkolmebokfagaaGreatDoor
open Go.RowKit
theorem fstP_some {b:Int} {nm:List UInt8} {l:List At} {p:Pl} (h:fstP b nm l=some p):∃ a ∈ l,hitB b nm a=true/\p=plOf a:=by
 unfold fstP at h
 rw [Option.map_eq_some_iff] at h
 obtain ⟨a,h1,h2⟩:=h
 exact ⟨a,List.mem_of_find?_eq_some h1,List.find?_some h1,h2.symm⟩
theorem plcL_some {nm:List UInt8} {l:List At} {p:Pl} (h:plcL l nm=some p):∃ a ∈ l,a.y.name=nm/\(a.y.bind=2\/a.y.bind=3)/\a.y.sec ≠ -1/\p=plOf a/\(a.y.bind=3->∀ c ∈ l,hitB 2 nm c=false):=by
 unfold plcL at h
 cases h2:fstP 2 nm l with
 | some q=>
  rw [h2] at h
  simp only [Option.some_or,Option.some.injEq] at h
  subst h
  obtain ⟨a,ha,hh,rfl⟩:=fstP_some h2
  obtain ⟨e1,e2,e3⟩:=hit_iff.1 hh
  exact ⟨a,ha,e1,.inl e2,e3,rfl,fun e=>by omega⟩
 | none=>
  rw [h2] at h
  simp only [Option.none_or] at h
  obtain ⟨a,ha,hh,rfl⟩:=fstP_some h
  obtain ⟨e1,e2,e3⟩:=hit_iff.1 hh
  exact ⟨a,ha,e1,.inr e2,e3,rfl,fun _=>fstP_none.1 h2⟩
end Go.Proofs.YthkolmebokfagaaGreatDoor
namespace Go.Proofs.YthkolmebokfagaaGreatDoor
open Go.RowKit
def SomeB (w:World) (e:Ending) (w':World):Prop:=∃ r:Bool,e=.returned (.bool r)/\Below w.heap.size w w'
theorem rOBig_any (a:Option Addr) (n c:Nat) (L:List Ms) (a2:Option Addr) (n2 c2:Nat) (l:List Sy) (hn:n<=maxLen) (hn2:n2<=maxLen) (w:World) (hs:SL msC 6 w w.heap.size a n L) (hs2:SL syC 4 w w.heap.size a2 n2 l):
  Calls Tryz.prog 6 #[.agg #[.slice a n c,.slice a2 n2 c2]] w (SomeB w):=by
 have HS:=Lib.hid hs
 have HS2:=Lib.hid hs2
 have HLn:=Lib.hid hs.len
 have HLn2:=Lib.hid hs2.len
 have hni:(n:Int)<=9223372036854775807:=by unfold maxLen at hn;omega
 have hni2:(n2:Int)<=9223372036854775807:=by unfold maxLen at hn2;omega
 obtain ⟨X,hX⟩:∃ X,X=w.heap.size:=⟨_,rfl⟩
 have HXE:=Lib.hid hX
 have HA:Hid (Below w.heap.size w (w.alloc (.cells #[.slice a n c,.slice a2 n2 c2] 25))):=Lib.hid ((Below.refl _ w).alloc (Nat.le_refl _) _)
 have HRX0:Hid (RB (w.alloc (.cells #[.slice a n c,.slice a2 n2 c2] 25)) X #[.slice a n c,.slice a2 n2 c2] 25):=Lib.hid (by rw [hX];exact (MapKept.heap_alloc w _).1)
 clear hs hs2 hX
 go_enter Tryz.func6,Tryz.ntmps6
 go_wp2
 try rw [<-HXE.out]
 generalize (w.alloc (.cells #[.slice a n c,.slice a2 n2 c2] 25))=W at HA HRX0 ⊢
 go_loopw [3] (fun i wr=>∃ (k:Nat) (wx:World),wx=wr/\k<=n/\i=.int .i64 k/\Below w.heap.size w wx/\RB wx X #[.slice a n c,.slice a2 n2 c2] 25) (fun i _=>n - (intOf i).toNat)
 case atStart=>exact ⟨0,_,rfl,by omega,rfl,HA.out,HRX0.out⟩
 case round=>
  clear HA HRX0
  obtain ⟨k,wx,rfl,hk,rfl,hb,hrx⟩:=hrel
  have HB:=Lib.hid hb
  have HRX:=Lib.hid hrx
  clear hb hrx
  have x0:wx.cell? ⟨X,0,none⟩=some (.slice a n c):=HRX.out.cell
  have x1:wx.cell? ⟨X,1,none⟩=some (.slice a2 n2 c2):=HRX.out.cell
  by_cases hgo:k < n/\n<=40
  ·obtain ⟨hlt,h40⟩:=hgo
   have hlti:(k:Int) < (n:Int):=by omega
   have h40i:(n:Int)<=40:=by omega
   have hk1:k < L.length:=by have:=HLn.out;omega
   obtain ⟨bb,off,rfl,hB,hc⟩:=(HS.out.next HB.out).cells (HS.out.ne hlt)
   obtain ⟨c0,c1,c2',c3,c4,c5⟩:=ms_cells (fun j hj=>hc k hk1 j hj)
   generalize (L[k]'hk1)=ms at c0 c1 c2' c3 c4 c5
   clear hc
   obtain ⟨⟨nm,ki,kp,al,dt,rl⟩,ad,cp⟩:=ms
   obtain ⟨N,hN⟩:∃ N:ByteArray,N=⟨nm.toArray⟩:=⟨_,rfl⟩
   obtain ⟨B,hBB⟩:∃ B:ByteArray,B=⟨dt.toArray⟩:=⟨_,rfl⟩
   obtain ⟨nr,hnr⟩:∃ nr,nr=rl.length:=⟨_,rfl⟩
   simp only [] at c0 c1 c2' c3 c4 c5
   rw [<-hN] at c0
   rw [<-hBB] at c4
   rw [<-hnr] at c5
   clear hN hBB hnr hB
   have HBg:=Lib.hid (fun u=>rBig_any N B ki kp al ad nr cp u)
   generalize bigS B.size nr N.size=bg at HBg
   cases bg
   ·go_wp2_with fail
    refine (HBg.out _).mono ?_
    rintro e u ⟨rfl,hb⟩
    have HB2:=Lib.hid (after HB.out hb)
    replace HRX:=Lib.hid (HRX.out.next hb)
    clear hb
    go_wp2
    go_roundw
    case rel=>exact ⟨k+1,_,rfl,by omega,by go_num,HB2.out,HRX.out⟩
    case measure=>simp [intOf];omega
   ·go_wp2_with fail
    refine (HBg.out _).mono ?_
    rintro e u ⟨rfl,hb⟩
    have HB2:=Lib.hid (after HB.out hb)
    clear hb
    go_wp2
    go_ret
    exact ⟨_,rfl,HB2.out⟩
  ·have HBB:=Lib.hid HB.out
   have HRX1:=Lib.hid HRX.out
   have hcs:¬ (k:Int) < (n:Int)\/((k:Int) < (n:Int)/\¬ (n:Int)<=40):=by omega
   clear hgo
   rcases hcs with hn1 | ⟨hn1,hn3⟩
   all_goals
    go_wp2
    clear x0 x1
    go_loopw [4] (fun i wr=>∃ (k:Nat) (wx:World),wx=wr/\k<=n2/\i=.int .i64 k/\Below w.heap.size w wx/\RB wx X #[.slice a n c,.slice a2 n2 c2] 25) (fun i _=>n2 - (intOf i).toNat)
    case atStart=>exact ⟨0,_,rfl,by omega,rfl,HBB.out,HRX1.out⟩
    case round=>
     clear HB HRX HBB HRX1
     obtain ⟨q,wy,rfl,hq,rfl,hb,hrx⟩:=hrel
     have HB:=Lib.hid hb
     have HRX:=Lib.hid hrx
     clear hb hrx
     have x0:wy.cell? ⟨X,0,none⟩=some (.slice a n c):=HRX.out.cell
     have x1:wy.cell? ⟨X,1,none⟩=some (.slice a2 n2 c2):=HRX.out.cell
     by_cases hgo:q < n2/\n2<=140
     ·obtain ⟨hlt,h40⟩:=hgo
      have hlti:(q:Int) < (n2:Int):=by omega
      have h40i:(n2:Int)<=140:=by omega
      have hk1:q < l.length:=by have:=HLn2.out;omega
      obtain ⟨bb,off,rfl,hB,hc⟩:=(HS2.out.next HB.out).cells (HS2.out.ne hlt)
      obtain ⟨c0,c1,c2',c3⟩:=sy_cells (fun j hj=>hc q hk1 j hj)
      generalize (l[q]'hk1)=sy at c0 c1 c2' c3
      clear hc
      obtain ⟨nm,bi,se,of⟩:=sy
      obtain ⟨N,hN⟩:∃ N:ByteArray,N=⟨nm.toArray⟩:=⟨_,rfl⟩
      simp only [] at c0 c1 c2' c3
      rw [<-hN] at c0
      clear hN hB
      by_cases hbig:(100:Int) < (N.size:Int)
      ·go_wp2
       go_ret
       exact ⟨_,rfl,HB.out⟩
      ·go_wp2
       go_roundw
       case rel=>exact ⟨q+1,_,rfl,by omega,by go_num,HB.out,HRX.out⟩
       case measure=>simp [intOf];omega
     ·have hcs:¬ (q:Int) < (n2:Int)\/((q:Int) < (n2:Int)/\¬ (n2:Int)<=140):=by omega
      clear hgo
      rcases hcs with hm1 | ⟨hm1,hm3⟩
      all_goals
       by_cases h41:(40:Int) < (n:Int)
       ·first | (exfalso;omega) | (go_wp2;go_ret;exact ⟨_,rfl,HB.out⟩)
       ·by_cases h141:(140:Int) < (n2:Int)
        ·first | (exfalso;omega) | (go_wp2;go_ret;exact ⟨_,rfl,HB.out⟩)
        ·first | (exfalso;omega) | (go_wp2;go_ret;exact ⟨_,rfl,HB.out⟩)
theorem sBig_any (a:Option Addr) (n c:Nat) (Os:List Ox) (w:World) (hO:OS w w.heap.size a n Os):
  Calls Tryz.prog 18 #[.slice a n c] w (SomeB w):=by
 have HO:=Lib.hid hO
 have HLn:=Lib.hid hO.sl.len
 have hni:(n:Int)<=9223372036854775807:=by have:=hO.ln;unfold maxLen at this;omega
 clear hO
 go_enter Tryz.func18,Tryz.ntmps18
 go_wp2
 go_loopw [3] (fun i wr=>∃ (k:Nat) (wx:World),wx=wr/\k<=n/\i=.int .i64 k/\Below w.heap.size w wx) (fun i _=>n - (intOf i).toNat)
 case atStart=>exact ⟨0,_,rfl,by omega,rfl,Below.refl _ _⟩
 case round=>
  obtain ⟨k,wx,rfl,hk,rfl,hbx⟩:=hrel
  have HB:=Lib.hid hbx
  clear hbx
  by_cases hgo:k < n/\n<=12
  ·obtain ⟨hlt,h12⟩:=hgo
   have hlti:(k:Int) < (n:Int):=by omega
   have h12i:(n:Int)<=12:=by omega
   have hk1:k < Os.length:=by have:=HLn.out;omega
   have HO1:=Lib.hid (HO.out.next HB.out)
   obtain ⟨bb,off,hae,hBB,hcc⟩:=HO1.out.sl.cells (HO.out.sl.ne hlt)
   subst hae
   obtain ⟨c0,c1⟩:=ox_cells (fun j hj=>hcc k hk1 j hj)
   obtain ⟨o,ho⟩:∃ o,o=Os[k]:=⟨_,rfl⟩
   have hom:o ∈ Os:=by rw [ho];exact List.getElem_mem hk1
   have hG:=HO1.out.at hom
   have HBg:=Lib.hid (rOBig_any o.a o.L.length o.c o.L o.a2 o.l.length o.c2 o.l hG.l1 hG.l2 wx hG.s1 hG.s2)
   rw [<-ho] at c0 c1
   clear hcc ho hBB hom hG HO1
   obtain ⟨oa,oc,oL,oa2,oc2,ol⟩:=o
   simp only [] at c0 c1 HBg
   generalize oL.length=on at c0 HBg
   generalize ol.length=m at c1 HBg
   go_wp2_with fail
   refine HBg.out.mono ?_
   rintro e u ⟨r,rfl,hb⟩
   have HB2:=Lib.hid (after HB.out hb)
   clear hb c0 c1
   cases r
   ·go_wp2
    go_roundw
    case rel=>exact ⟨k+1,_,rfl,by omega,by go_num,HB2.out⟩
    case measure=>simp [intOf];omega
   ·go_wp2
    go_ret
    exact ⟨_,rfl,HB2.out⟩
  ·have hcs:¬ (k:Int) < (n:Int)\/((k:Int) < (n:Int)/\¬ (n:Int)<=12):=by omega
   clear hgo
   rcases hcs with hn1 | ⟨hn1,hn3⟩
   all_goals
    by_cases h13:(12:Int) < (n:Int)
    ·first | (exfalso;omega) | (go_wp2;go_ret;exact ⟨_,rfl,HB.out⟩)
    ·first | (exfalso;omega) | (go_wp2;go_ret;exact ⟨_,rfl,HB.out⟩)
end Go.Proofs.YthkolmebokfagaaGreatDoor
