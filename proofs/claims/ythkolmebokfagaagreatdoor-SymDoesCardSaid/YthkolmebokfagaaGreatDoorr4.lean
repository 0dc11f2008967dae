/- The document's symbols: find, Find. The document's symbols: Resolve: what its loops keep. The document's symbols: Resolve. The document's symbols: SymDoes. -/
import Derived.Test.YthkolmebokfagaaGreatDoorr2
import Derived.Test.YthkolmebokfagaaGreatDoorv3
set_option maxRecDepth 100000
set_option maxHeartbeats 6000000
set_option linter.unusedVariables false
set_option linter.unusedSimpArgs false
namespace Go.Proofs.YthkolmebokfagaaGreatDoor
open Go.ChangeShapes Go.WideShapes Go.Deep Go.RowKit
def FstQ (po ps pf:Int) (b:Bool) (w:World) (e:Ending) (w':World):Prop:=e=.returned (.tuple #[.agg #[.int .i64 po,.int .i64 ps,.int .i64 pf],.bool b])/\Below w.heap.size w w'
theorem put_pl {w u:World} {H:Nat} {T:TypeId} {x y z:Value} (p:Pl) (hb:Below w.heap.size w u) (hH:w.heap.size<=H) (h:RB u H #[x,y,z] T):
  RB (((u.setCell ⟨H,0,none⟩ (.int .i64 p.obj)).setCell ⟨H,1,none⟩ (.int .i64 p.sec)).setCell ⟨H,2,none⟩ (.int .i64 p.off)) H #[.int .i64 p.obj,.int .i64 p.sec,.int .i64 p.off] T/\
  Below w.heap.size w (((u.setCell ⟨H,0,none⟩ (.int .i64 p.obj)).setCell ⟨H,1,none⟩ (.int .i64 p.sec)).setCell ⟨H,2,none⟩ (.int .i64 p.off)):=
 ⟨((h.set (j:=0) (.int .i64 p.obj)).set (j:=1) (.int .i64 p.sec)).set (j:=2) (.int .i64 p.off),((hb.setCell (p:=⟨H,0,none⟩) hH _).setCell (p:=⟨H,1,none⟩) hH _).setCell (p:=⟨H,2,none⟩) hH _⟩
theorem find_two (a:Option Addr) (n c:Nat) (Os:List Ox) (N:ByteArray) (w:World) (hO:OS w w.heap.size a n Os) (p:Pl) (h2:fstR 2 N.data.toList (flatS 0 (Os.map (·.l)))=some p):
  Calls Tryz.prog 58 #[.slice a n c,.string N] w (FstP (some p) w):=by
 have HF:Hid (∀ b u,Below w.heap.size w u->Calls Tryz.prog 57 #[.slice a n c,.string N,.int .i64 b] u (FstP (fstR b N.data.toList (flatS 0 (Os.map (·.l)))) u)):=Lib.hid fun b u hu=>rFirst_any a n c Os N b u (hO.next hu)
 clear hO
 have H2:Hid (∀ u,Below w.heap.size w u->Calls Tryz.prog 57 #[.slice a n c,.string N,.int .i64 2] u (FstQ p.obj p.sec p.off true u)):=Lib.hid fun u hu=>by have:=HF.out 2 u hu;rw [h2] at this;exact this
 clear HF h2
 obtain ⟨po,ps,pf⟩:=p
 simp only [] at H2
 obtain ⟨H,hH⟩:∃ H,H=w.heap.size:=⟨_,rfl⟩
 obtain ⟨W,hW⟩:∃ W,W=w.alloc (.cells #[.int .i64 0,.int .i64 0,.int .i64 0] 46):=⟨_,rfl⟩
 have HB0:Hid (Below w.heap.size w W):=Lib.hid (by rw [hW];exact lit_below w _)
 have HR0:Hid (RB W H #[.int .i64 0,.int .i64 0,.int .i64 0] 46):=Lib.hid (by rw [hW,hH];exact rb_new w _ _)
 have HHw:Hid (w.heap.size<=H):=Lib.hid (by omega)
 have HH:=Lib.hid hH.symm
 have HW:=Lib.hid hW.symm
 have hzp:=zeroPl
 clear hH hW
 go_enter Tryz.func58,Tryz.ntmps58
 go_wp2_with fail
 rw [HW.out,HH.out]
 refine (H2.out _ HB0.out).mono ?_
 rintro e u1 ⟨rfl,hb⟩
 have HB1:=Lib.hid (after HB0.out hb)
 have HR1:=Lib.hid (HR0.out.next hb)
 clear hb
 obtain ⟨V2,hV2⟩:∃ V,V=u1.alloc (.cells #[.int .i64 (⟨po,ps,pf⟩:Pl).obj,.int .i64 (⟨po,ps,pf⟩:Pl).sec,.int .i64 (⟨po,ps,pf⟩:Pl).off] 46):=⟨_,rfl⟩
 have HB2:Hid (Below w.heap.size w V2):=Lib.hid (by rw [hV2];exact after HB1.out (lit_below _ _))
 have HR2:Hid (RB V2 H #[.int .i64 0,.int .i64 0,.int .i64 0] 46):=Lib.hid (by rw [hV2];exact HR1.out.next (lit_below _ _))
 have HX2:Hid (RB V2 u1.heap.size #[.int .i64 (⟨po,ps,pf⟩:Pl).obj,.int .i64 (⟨po,ps,pf⟩:Pl).sec,.int .i64 (⟨po,ps,pf⟩:Pl).off] 46):=Lib.hid (by rw [hV2];exact rb_new _ _ _)
 have HV2:=Lib.hid hV2.symm
 have p0:V2.cell? ⟨H,0,none⟩=some (.int .i64 0):=HR2.out.cell
 have p1:V2.cell? ⟨H,1,none⟩=some (.int .i64 0):=HR2.out.cell
 have p2:V2.cell? ⟨H,2,none⟩=some (.int .i64 0):=HR2.out.cell
 have f0:V2.frozen? ⟨H,0,none⟩=false:=HR2.out.frozen
 have f1:V2.frozen? ⟨H,1,none⟩=false:=HR2.out.frozen
 have f2:V2.frozen? ⟨H,2,none⟩=false:=HR2.out.frozen
 rw [hV2] at p0 p1 p2 f0 f1 f2
 have HP2:=Lib.hid (put_pl (⟨po,ps,pf⟩:Pl) HB2.out HHw.out HR2.out)
 clear hV2
 simp only [] at p0 p1 p2 f0 f1 f2
 go_wp2
 rw [HV2.out]
 refine bodyPost_ret (results_cell_two (P:=Tryz.prog) rfl _ _ H 46 _ (0,0) _ (.bool true) rfl HP2.out.1 Tryz.underlying46 rfl (by kernel_rfl) rfl) rfl ?_
 exact ⟨rfl,HP2.out.2⟩
theorem find_nil (a:Option Addr) (n c:Nat) (Os:List Ox) (N:ByteArray) (w:World) (hO:OS w w.heap.size a n Os) (hN:N.data.toList=[]) (h2:fstR 2 N.data.toList (flatS 0 (Os.map (·.l)))=none):
  Calls Tryz.prog 58 #[.slice a n c,.string N] w (FstP (none) w):=by
 have HF:Hid (∀ b u,Below w.heap.size w u->Calls Tryz.prog 57 #[.slice a n c,.string N,.int .i64 b] u (FstP (fstR b N.data.toList (flatS 0 (Os.map (·.l)))) u)):=Lib.hid fun b u hu=>rFirst_any a n c Os N b u (hO.next hu)
 clear hO
 have H2:Hid (∀ u,Below w.heap.size w u->Calls Tryz.prog 57 #[.slice a n c,.string N,.int .i64 2] u (FstQ 0 0 0 false u)):=Lib.hid fun u hu=>by have:=HF.out 2 u hu;rw [h2] at this;exact this
 clear HF h2
 have hNe:N=⟨#[]⟩:=ba_none hN
 subst hNe
 clear hN
 obtain ⟨H,hH⟩:∃ H,H=w.heap.size:=⟨_,rfl⟩
 obtain ⟨W,hW⟩:∃ W,W=w.alloc (.cells #[.int .i64 0,.int .i64 0,.int .i64 0] 46):=⟨_,rfl⟩
 have HB0:Hid (Below w.heap.size w W):=Lib.hid (by rw [hW];exact lit_below w _)
 have HR0:Hid (RB W H #[.int .i64 0,.int .i64 0,.int .i64 0] 46):=Lib.hid (by rw [hW,hH];exact rb_new w _ _)
 have HHw:Hid (w.heap.size<=H):=Lib.hid (by omega)
 have HH:=Lib.hid hH.symm
 have HW:=Lib.hid hW.symm
 have hzp:=zeroPl
 clear hH hW
 go_enter Tryz.func58,Tryz.ntmps58
 go_wp2_with fail
 rw [HW.out,HH.out]
 refine (H2.out _ HB0.out).mono ?_
 rintro e u1 ⟨rfl,hb⟩
 have HB1:=Lib.hid (after HB0.out hb)
 have HR1:=Lib.hid (HR0.out.next hb)
 clear hb
 obtain ⟨V2,hV2⟩:∃ V,V=u1.alloc (.cells #[.int .i64 (⟨0,0,0⟩:Pl).obj,.int .i64 (⟨0,0,0⟩:Pl).sec,.int .i64 (⟨0,0,0⟩:Pl).off] 46):=⟨_,rfl⟩
 have HB2:Hid (Below w.heap.size w V2):=Lib.hid (by rw [hV2];exact after HB1.out (lit_below _ _))
 have HR2:Hid (RB V2 H #[.int .i64 0,.int .i64 0,.int .i64 0] 46):=Lib.hid (by rw [hV2];exact HR1.out.next (lit_below _ _))
 have HX2:Hid (RB V2 u1.heap.size #[.int .i64 (⟨0,0,0⟩:Pl).obj,.int .i64 (⟨0,0,0⟩:Pl).sec,.int .i64 (⟨0,0,0⟩:Pl).off] 46):=Lib.hid (by rw [hV2];exact rb_new _ _ _)
 have HV2:=Lib.hid hV2.symm
 have p0:V2.cell? ⟨H,0,none⟩=some (.int .i64 0):=HR2.out.cell
 have p1:V2.cell? ⟨H,1,none⟩=some (.int .i64 0):=HR2.out.cell
 have p2:V2.cell? ⟨H,2,none⟩=some (.int .i64 0):=HR2.out.cell
 have f0:V2.frozen? ⟨H,0,none⟩=false:=HR2.out.frozen
 have f1:V2.frozen? ⟨H,1,none⟩=false:=HR2.out.frozen
 have f2:V2.frozen? ⟨H,2,none⟩=false:=HR2.out.frozen
 rw [hV2] at p0 p1 p2 f0 f1 f2
 have HP2:=Lib.hid (put_pl (⟨0,0,0⟩:Pl) HB2.out HHw.out HR2.out)
 clear hV2
 go_wp2
 rw [HV2.out]
 refine bodyPost_ret (results_cell_two (P:=Tryz.prog) rfl _ _ H 46 _ (0,0) _ (.bool false) rfl HP2.out.1 Tryz.underlying46 rfl (by kernel_rfl) rfl) rfl ?_
 exact ⟨rfl,HP2.out.2⟩
theorem find_three (a:Option Addr) (n c:Nat) (Os:List Ox) (N:ByteArray) (w:World) (hO:OS w w.heap.size a n Os) (hN:N.data.toList ≠ []) (h2:fstR 2 N.data.toList (flatS 0 (Os.map (·.l)))=none):
  Calls Tryz.prog 58 #[.slice a n c,.string N] w (FstP (fstR 3 N.data.toList (flatS 0 (Os.map (·.l)))) w):=by
 have HF:Hid (∀ b u,Below w.heap.size w u->Calls Tryz.prog 57 #[.slice a n c,.string N,.int .i64 b] u (FstP (fstR b N.data.toList (flatS 0 (Os.map (·.l)))) u)):=Lib.hid fun b u hu=>rFirst_any a n c Os N b u (hO.next hu)
 clear hO
 have H2:Hid (∀ u,Below w.heap.size w u->Calls Tryz.prog 57 #[.slice a n c,.string N,.int .i64 2] u (FstQ 0 0 0 false u)):=Lib.hid fun u hu=>by have:=HF.out 2 u hu;rw [h2] at this;exact this
 have H3:Hid (∀ u,Below w.heap.size w u->Calls Tryz.prog 57 #[.slice a n c,.string N,.int .i64 3] u (FstP (fstR 3 N.data.toList (flatS 0 (Os.map (·.l)))) u)):=Lib.hid fun u hu=>HF.out 3 u hu
 obtain ⟨n1,n2,n3⟩:=ba_ne hN
 clear HF h2 hN
 obtain ⟨R,hR⟩:∃ R,R=fstR 3 N.data.toList (flatS 0 (Os.map (·.l))):=⟨_,rfl⟩
 rw [<-hR] at H3 ⊢
 clear hR
 obtain ⟨po,hpo⟩:∃ po,po=(R.getD plZ).obj:=⟨_,rfl⟩
 obtain ⟨ps,hps⟩:∃ ps,ps=(R.getD plZ).sec:=⟨_,rfl⟩
 obtain ⟨pf,hpf⟩:∃ pf,pf=(R.getD plZ).off:=⟨_,rfl⟩
 obtain ⟨bb,hbb⟩:∃ bb,bb=R.isSome:=⟨_,rfl⟩
 have HEq:Hid (Ending.returned (.tuple #[.agg #[.int .i64 po,.int .i64 ps,.int .i64 pf],.bool bb])=Ending.returned (plB R)):=Lib.hid (by rw [hpo,hps,hpf,hbb];rfl)
 have H3q:Hid (∀ u,Below w.heap.size w u->Calls Tryz.prog 57 #[.slice a n c,.string N,.int .i64 3] u (FstQ po ps pf bb u)):=Lib.hid fun u hu=>by rw [hpo,hps,hpf,hbb];exact (H3.out u hu)
 clear hpo hps hpf hbb H3
 obtain ⟨H,hH⟩:∃ H,H=w.heap.size:=⟨_,rfl⟩
 obtain ⟨W,hW⟩:∃ W,W=w.alloc (.cells #[.int .i64 0,.int .i64 0,.int .i64 0] 46):=⟨_,rfl⟩
 have HB0:Hid (Below w.heap.size w W):=Lib.hid (by rw [hW];exact lit_below w _)
 have HR0:Hid (RB W H #[.int .i64 0,.int .i64 0,.int .i64 0] 46):=Lib.hid (by rw [hW,hH];exact rb_new w _ _)
 have HHw:Hid (w.heap.size<=H):=Lib.hid (by omega)
 have HH:=Lib.hid hH.symm
 have HW:=Lib.hid hW.symm
 have hzp:=zeroPl
 clear hH hW
 go_enter Tryz.func58,Tryz.ntmps58
 go_wp2_with fail
 rw [HW.out,HH.out]
 refine (H2.out _ HB0.out).mono ?_
 rintro e u1 ⟨rfl,hb⟩
 have HB1:=Lib.hid (after HB0.out hb)
 have HR1:=Lib.hid (HR0.out.next hb)
 clear hb
 obtain ⟨V2,hV2⟩:∃ V,V=u1.alloc (.cells #[.int .i64 0,.int .i64 0,.int .i64 0] 46):=⟨_,rfl⟩
 have HB2:Hid (Below w.heap.size w V2):=Lib.hid (by rw [hV2];exact after HB1.out (lit_below _ _))
 have HR2:Hid (RB V2 H #[.int .i64 0,.int .i64 0,.int .i64 0] 46):=Lib.hid (by rw [hV2];exact HR1.out.next (lit_below _ _))
 have HV2:=Lib.hid hV2.symm
 clear hV2
 go_wp2_with fail
 rw [HV2.out]
 refine (H3q.out _ HB2.out).mono ?_
 rintro e u3 ⟨rfl,hb⟩
 have HB3:=Lib.hid (after HB2.out hb)
 have HR3:=Lib.hid (HR2.out.next hb)
 clear hb
 obtain ⟨V4,hV4⟩:∃ V,V=u3.alloc (.cells #[.int .i64 (⟨po,ps,pf⟩:Pl).obj,.int .i64 (⟨po,ps,pf⟩:Pl).sec,.int .i64 (⟨po,ps,pf⟩:Pl).off] 46):=⟨_,rfl⟩
 have HB4:Hid (Below w.heap.size w V4):=Lib.hid (by rw [hV4];exact after HB3.out (lit_below _ _))
 have HR4:Hid (RB V4 H #[.int .i64 0,.int .i64 0,.int .i64 0] 46):=Lib.hid (by rw [hV4];exact HR3.out.next (lit_below _ _))
 have HX4:Hid (RB V4 u3.heap.size #[.int .i64 (⟨po,ps,pf⟩:Pl).obj,.int .i64 (⟨po,ps,pf⟩:Pl).sec,.int .i64 (⟨po,ps,pf⟩:Pl).off] 46):=Lib.hid (by rw [hV4];exact rb_new _ _ _)
 have HV4:=Lib.hid hV4.symm
 have p0:V4.cell? ⟨H,0,none⟩=some (.int .i64 0):=HR4.out.cell
 have p1:V4.cell? ⟨H,1,none⟩=some (.int .i64 0):=HR4.out.cell
 have p2:V4.cell? ⟨H,2,none⟩=some (.int .i64 0):=HR4.out.cell
 have f0:V4.frozen? ⟨H,0,none⟩=false:=HR4.out.frozen
 have f1:V4.frozen? ⟨H,1,none⟩=false:=HR4.out.frozen
 have f2:V4.frozen? ⟨H,2,none⟩=false:=HR4.out.frozen
 rw [hV4] at p0 p1 p2 f0 f1 f2
 have HP4:=Lib.hid (put_pl (⟨po,ps,pf⟩:Pl) HB4.out HHw.out HR4.out)
 clear hV4
 simp only [] at p0 p1 p2 f0 f1 f2
 go_wp2
 rw [HV4.out]
 refine bodyPost_ret (results_cell_two (P:=Tryz.prog) rfl _ _ H 46 _ (0,0) _ (.bool bb) rfl HP4.out.1 Tryz.underlying46 rfl (by kernel_rfl) rfl) rfl ?_
 exact ⟨HEq.out,HP4.out.2⟩
theorem rfind_any (a:Option Addr) (n c:Nat) (Os:List Ox) (N:ByteArray) (w:World) (hO:OS w w.heap.size a n Os):
  Calls Tryz.prog 58 #[.slice a n c,.string N] w (FstP (fndR N.data.toList (flatS 0 (Os.map (·.l)))) w):=by
 unfold fndR
 cases h2:fstR 2 N.data.toList (flatS 0 (Os.map (·.l))) with
 | some p=>exact find_two a n c Os N w hO p h2
 | none=>
  simp only
  by_cases hN:N.data.toList=[]
  ·rw [if_pos hN];exact find_nil a n c Os N w hO hN h2
  ·rw [if_neg hN];exact find_three a n c Os N w hO hN h2
theorem Find_ck (a:Option Addr) (n c:Nat) (Os:List Ox) (N:ByteArray) (w:World) (hO:OS w w.heap.size a n Os) (hF:∀ o ∈ Os,FewO o.L o.l) (hc:checkL (Os.map obOf) ≠ 0):
  Calls Tryz.prog 22 #[.slice a n c,.string N] w (FstP (none) w):=by
 have HC:Hid (∀ u,Below w.heap.size w u->Calls Tryz.prog 26 #[.slice a n c] u (RetB (.int .i64 (checkL (Os.map obOf))) u)):=Lib.hid fun u hu=>rCheck_any a n c Os u (hO.next hu) hF
 have hce:(checkL (Os.map obOf) != 0)=true:=by rw [bne_iff_ne];exact hc
 clear hc hO hF
 generalize checkL (Os.map obOf)=ck at*
 obtain ⟨H,hH⟩:∃ H,H=w.heap.size:=⟨_,rfl⟩
 obtain ⟨W,hW⟩:∃ W,W=w.alloc (.cells #[.int .i64 0,.int .i64 0,.int .i64 0] 46):=⟨_,rfl⟩
 have HB0:Hid (Below w.heap.size w W):=Lib.hid (by rw [hW];exact lit_below w _)
 have HR0:Hid (RB W H #[.int .i64 0,.int .i64 0,.int .i64 0] 46):=Lib.hid (by rw [hW,hH];exact rb_new w _ _)
 have HHw:Hid (w.heap.size<=H):=Lib.hid (by omega)
 have HH:=Lib.hid hH.symm
 have HW:=Lib.hid hW.symm
 have hzp:=zeroPl
 clear hH hW
 go_enter Tryz.func22,Tryz.ntmps22
 go_wp2_with fail
 rw [HW.out,HH.out]
 refine (HC.out _ HB0.out).mono ?_
 rintro e u1 ⟨rfl,hb⟩
 have HB1:=Lib.hid (after HB0.out hb)
 have HR1:=Lib.hid (HR0.out.next hb)
 clear hb
 have p0:u1.cell? ⟨H,0,none⟩=some (.int .i64 0):=HR1.out.cell
 have p1:u1.cell? ⟨H,1,none⟩=some (.int .i64 0):=HR1.out.cell
 have p2:u1.cell? ⟨H,2,none⟩=some (.int .i64 0):=HR1.out.cell
 have f0:u1.frozen? ⟨H,0,none⟩=false:=HR1.out.frozen
 have f1:u1.frozen? ⟨H,1,none⟩=false:=HR1.out.frozen
 have f2:u1.frozen? ⟨H,2,none⟩=false:=HR1.out.frozen
 have HP1:=Lib.hid (put_pl plZ HB1.out HHw.out HR1.out)
 go_wp2
 refine bodyPost_ret (results_cell_two (P:=Tryz.prog) rfl _ _ H 46 _ (0,0) _ (.bool false) rfl HP1.out.1 Tryz.underlying46 rfl (by kernel_rfl) rfl) rfl ?_
 exact ⟨rfl,HP1.out.2⟩
theorem Find_nil (a:Option Addr) (n c:Nat) (Os:List Ox) (N:ByteArray) (w:World) (hO:OS w w.heap.size a n Os) (hF:∀ o ∈ Os,FewO o.L o.l) (hc:checkL (Os.map obOf)=0) (hN:N.data.toList=[]):
  Calls Tryz.prog 22 #[.slice a n c,.string N] w (FstP (none) w):=by
 have HC:Hid (∀ u,Below w.heap.size w u->Calls Tryz.prog 26 #[.slice a n c] u (RetB (.int .i64 (checkL (Os.map obOf))) u)):=Lib.hid fun u hu=>rCheck_any a n c Os u (hO.next hu) hF
 rw [hc] at HC
 have hNe:N=⟨#[]⟩:=ba_none hN
 subst hNe
 clear hc hO hF hN
 obtain ⟨H,hH⟩:∃ H,H=w.heap.size:=⟨_,rfl⟩
 obtain ⟨W,hW⟩:∃ W,W=w.alloc (.cells #[.int .i64 0,.int .i64 0,.int .i64 0] 46):=⟨_,rfl⟩
 have HB0:Hid (Below w.heap.size w W):=Lib.hid (by rw [hW];exact lit_below w _)
 have HR0:Hid (RB W H #[.int .i64 0,.int .i64 0,.int .i64 0] 46):=Lib.hid (by rw [hW,hH];exact rb_new w _ _)
 have HHw:Hid (w.heap.size<=H):=Lib.hid (by omega)
 have HH:=Lib.hid hH.symm
 have HW:=Lib.hid hW.symm
 have hzp:=zeroPl
 clear hH hW
 go_enter Tryz.func22,Tryz.ntmps22
 go_wp2_with fail
 rw [HW.out,HH.out]
 refine (HC.out _ HB0.out).mono ?_
 rintro e u1 ⟨rfl,hb⟩
 have HB1:=Lib.hid (after HB0.out hb)
 have HR1:=Lib.hid (HR0.out.next hb)
 clear hb
 have p0:u1.cell? ⟨H,0,none⟩=some (.int .i64 0):=HR1.out.cell
 have p1:u1.cell? ⟨H,1,none⟩=some (.int .i64 0):=HR1.out.cell
 have p2:u1.cell? ⟨H,2,none⟩=some (.int .i64 0):=HR1.out.cell
 have f0:u1.frozen? ⟨H,0,none⟩=false:=HR1.out.frozen
 have f1:u1.frozen? ⟨H,1,none⟩=false:=HR1.out.frozen
 have f2:u1.frozen? ⟨H,2,none⟩=false:=HR1.out.frozen
 have HP1:=Lib.hid (put_pl plZ HB1.out HHw.out HR1.out)
 go_wp2
 refine bodyPost_ret (results_cell_two (P:=Tryz.prog) rfl _ _ H 46 _ (0,0) _ (.bool false) rfl HP1.out.1 Tryz.underlying46 rfl (by kernel_rfl) rfl) rfl ?_
 exact ⟨rfl,HP1.out.2⟩
theorem Find_go (a:Option Addr) (n c:Nat) (Os:List Ox) (N:ByteArray) (w:World) (hO:OS w w.heap.size a n Os) (hF:∀ o ∈ Os,FewO o.L o.l) (hc:checkL (Os.map obOf)=0) (hN:N.data.toList ≠ []):
  Calls Tryz.prog 22 #[.slice a n c,.string N] w (FstP (fndR N.data.toList (flatS 0 (Os.map (·.l)))) w):=by
 have HC:Hid (∀ u,Below w.heap.size w u->Calls Tryz.prog 26 #[.slice a n c] u (RetB (.int .i64 (checkL (Os.map obOf))) u)):=Lib.hid fun u hu=>rCheck_any a n c Os u (hO.next hu) hF
 have H3:Hid (∀ u,Below w.heap.size w u->Calls Tryz.prog 58 #[.slice a n c,.string N] u (FstP (fndR N.data.toList (flatS 0 (Os.map (·.l)))) u)):=Lib.hid fun u hu=>rfind_any a n c Os N u (hO.next hu)
 rw [hc] at HC
 obtain ⟨n1,n2,n3⟩:=ba_ne hN
 clear hO hF hc hN
 obtain ⟨R,hR⟩:∃ R,R=fndR N.data.toList (flatS 0 (Os.map (·.l))):=⟨_,rfl⟩
 rw [<-hR] at H3 ⊢
 clear hR
 obtain ⟨po,hpo⟩:∃ po,po=(R.getD plZ).obj:=⟨_,rfl⟩
 obtain ⟨ps,hps⟩:∃ ps,ps=(R.getD plZ).sec:=⟨_,rfl⟩
 obtain ⟨pf,hpf⟩:∃ pf,pf=(R.getD plZ).off:=⟨_,rfl⟩
 obtain ⟨bb,hbb⟩:∃ bb,bb=R.isSome:=⟨_,rfl⟩
 have HEq:Hid (Ending.returned (.tuple #[.agg #[.int .i64 po,.int .i64 ps,.int .i64 pf],.bool bb])=Ending.returned (plB R)):=Lib.hid (by rw [hpo,hps,hpf,hbb];rfl)
 have H3q:Hid (∀ u,Below w.heap.size w u->Calls Tryz.prog 58 #[.slice a n c,.string N] u (FstQ po ps pf bb u)):=Lib.hid fun u hu=>by rw [hpo,hps,hpf,hbb];exact (H3.out u hu)
 clear hpo hps hpf hbb H3
 obtain ⟨H,hH⟩:∃ H,H=w.heap.size:=⟨_,rfl⟩
 obtain ⟨W,hW⟩:∃ W,W=w.alloc (.cells #[.int .i64 0,.int .i64 0,.int .i64 0] 46):=⟨_,rfl⟩
 have HB0:Hid (Below w.heap.size w W):=Lib.hid (by rw [hW];exact lit_below w _)
 have HR0:Hid (RB W H #[.int .i64 0,.int .i64 0,.int .i64 0] 46):=Lib.hid (by rw [hW,hH];exact rb_new w _ _)
 have HHw:Hid (w.heap.size<=H):=Lib.hid (by omega)
 have HH:=Lib.hid hH.symm
 have HW:=Lib.hid hW.symm
 have hzp:=zeroPl
 clear hH hW
 go_enter Tryz.func22,Tryz.ntmps22
 go_wp2_with fail
 rw [HW.out,HH.out]
 refine (HC.out _ HB0.out).mono ?_
 rintro e u1 ⟨rfl,hb⟩
 have HB1:=Lib.hid (after HB0.out hb)
 have HR1:=Lib.hid (HR0.out.next hb)
 clear hb
 go_wp2_with fail
 refine (H3q.out _ HB1.out).mono ?_
 rintro e u3 ⟨rfl,hb⟩
 have HB3:=Lib.hid (after HB1.out hb)
 have HR3:=Lib.hid (HR1.out.next hb)
 clear hb
 obtain ⟨V4,hV4⟩:∃ V,V=u3.alloc (.cells #[.int .i64 (⟨po,ps,pf⟩:Pl).obj,.int .i64 (⟨po,ps,pf⟩:Pl).sec,.int .i64 (⟨po,ps,pf⟩:Pl).off] 46):=⟨_,rfl⟩
 have HB4:Hid (Below w.heap.size w V4):=Lib.hid (by rw [hV4];exact after HB3.out (lit_below _ _))
 have HR4:Hid (RB V4 H #[.int .i64 0,.int .i64 0,.int .i64 0] 46):=Lib.hid (by rw [hV4];exact HR3.out.next (lit_below _ _))
 have HX4:Hid (RB V4 u3.heap.size #[.int .i64 (⟨po,ps,pf⟩:Pl).obj,.int .i64 (⟨po,ps,pf⟩:Pl).sec,.int .i64 (⟨po,ps,pf⟩:Pl).off] 46):=Lib.hid (by rw [hV4];exact rb_new _ _ _)
 have HV4:=Lib.hid hV4.symm
 have p0:V4.cell? ⟨H,0,none⟩=some (.int .i64 0):=HR4.out.cell
 have p1:V4.cell? ⟨H,1,none⟩=some (.int .i64 0):=HR4.out.cell
 have p2:V4.cell? ⟨H,2,none⟩=some (.int .i64 0):=HR4.out.cell
 have f0:V4.frozen? ⟨H,0,none⟩=false:=HR4.out.frozen
 have f1:V4.frozen? ⟨H,1,none⟩=false:=HR4.out.frozen
 have f2:V4.frozen? ⟨H,2,none⟩=false:=HR4.out.frozen
 rw [hV4] at p0 p1 p2 f0 f1 f2
 have HP4:=Lib.hid (put_pl (⟨po,ps,pf⟩:Pl) HB4.out HHw.out HR4.out)
 clear hV4
 simp only [] at p0 p1 p2 f0 f1 f2
 go_wp2
 rw [HV4.out]
 refine bodyPost_ret (results_cell_two (P:=Tryz.prog) rfl _ _ H 46 _ (0,0) _ (.bool bb) rfl HP4.out.1 Tryz.underlying46 rfl (by kernel_rfl) rfl) rfl ?_
 exact ⟨HEq.out,HP4.out.2⟩
theorem rFind_any (a:Option Addr) (n c:Nat) (Os:List Ox) (N:ByteArray) (w:World) (hO:OS w w.heap.size a n Os) (hF:∀ o ∈ Os,FewO o.L o.l):
  Calls Tryz.prog 22 #[.slice a n c,.string N] w (FstP (findO (Os.map obOf) N.data.toList) w):=by
 unfold findO
 by_cases hc:checkL (Os.map obOf)=0
 ·by_cases hN:N.data.toList=[]
  ·rw [if_pos (.inl hN)];exact Find_nil a n c Os N w hO hF hc hN
  ·rw [if_neg (by rintro (e | e);exact hN e;exact e hc),<-fnd_right hc,<-flatO_eq];exact Find_go a n c Os N w hO hF hc hN
 ·rw [if_pos (.inr hc)];exact Find_ck a n c Os N w hO hF hc
end Go.Proofs.YthkolmebokfagaaGreatDoor
namespace Go.Proofs.YthkolmebokfagaaGreatDoor
open Go.ChangeShapes Go.WideShapes Go.Deep Go.RowKit
def PreG (p:At->Bool) (fl rem:List At):Prop:=∃ pre,fl=pre ++ rem/\∀ x ∈ pre,p x=false
theorem PreG.step {p:At->Bool} {fl rem:List At} {x:At} (h:PreG p fl (x :: rem)) (hx:p x=false):PreG p fl rem:=by
 obtain ⟨pre,h1,h2⟩:=h
 refine ⟨pre ++ [x],by rw [h1];simp,fun y hy=>?_⟩
 rcases List.mem_append.1 hy with hy | hy
 ·exact h2 y hy
 ·rw [List.mem_singleton] at hy;rw [hy];exact hx
theorem PreG.hit {p:At->Bool} {fl rem:List At} {x:At} (h:PreG p fl (x :: rem)) (hx:p x=true):fl.find? p=some x:=by
 obtain ⟨pre,h1,h2⟩:=h
 rw [h1,List.find?_append,List.find?_eq_none.2 (fun y hy=>by rw [h2 y hy];decide)]
 simp [hx]
theorem PreG.done {p:At->Bool} {fl:List At} (h:PreG p fl []):fl.find? p=none:=by
 obtain ⟨pre,h1,h2⟩:=h
 rw [h1,List.append_nil,List.find?_eq_none.2 (fun y hy=>by rw [h2 y hy];decide)]
theorem twR_eq (l:List At) (a:At):twR l a=(decide (a.y.bind=2) && decide (0<=a.y.sec) && ((fstR 2 a.y.name l).isSome && decide (((fstR 2 a.y.name l).getD plZ).obj < (a.k:Int)))):=by
 unfold twR
 cases fstR 2 a.y.name l with
 | none=>rfl
 | some p=>rfl
theorem put_three {w u:World} {H:Nat} {T:TypeId} {x y z:Value} (p q r:Int) (hb:Below w.heap.size w u) (hH:w.heap.size<=H) (h:RB u H #[x,y,z] T):
  RB (((u.setCell ⟨H,0,none⟩ (.int .i64 p)).setCell ⟨H,1,none⟩ (.int .i64 q)).setCell ⟨H,2,none⟩ (.int .i64 r)) H #[.int .i64 p,.int .i64 q,.int .i64 r] T/\
  Below w.heap.size w (((u.setCell ⟨H,0,none⟩ (.int .i64 p)).setCell ⟨H,1,none⟩ (.int .i64 q)).setCell ⟨H,2,none⟩ (.int .i64 r)):=
 ⟨((h.set (j:=0) (.int .i64 p)).set (j:=1) (.int .i64 q)).set (j:=2) (.int .i64 r),((hb.setCell (p:=⟨H,0,none⟩) hH _).setCell (p:=⟨H,1,none⟩) hH _).setCell (p:=⟨H,2,none⟩) hH _⟩
theorem zeroFl (w:World):(zeroValue 42).run Tryz.prog w=.ok (.agg #[.int .i64 0,.int .i64 0,.int .i64 0]) w:=by kernel_rfl
theorem ownsR_next {w w':World} {base:Nat} {e:TypeId} {size:Nat} {v:Value} {n:Nat} {xs:List Value} (h:w.ownsRow base e size v n xs) (hb:Below w.heap.size w w'):w'.ownsRow base e size v n xs:=
 ownsRow_same h fun g hg=>hb.block g (ownsRow_block h hg).2
theorem ownsR_low {w:World} {B B' e sz n:Nat} {v:Value} {xs:List Value} (h:w.ownsRow B e sz v n xs) (hB:B'<=B):w.ownsRow B' e sz v n xs:=by
 refine ⟨h.1,?_⟩
 rcases h.2 with hn | ⟨g,cap,cur,rfl,hbg,rest⟩
 ·exact .inl hn
 ·exact .inr ⟨g,cap,cur,rfl,Nat.le_trans hB hbg,rest⟩
theorem ownsR_apart {u:World} {B B' e e' sz sz' n n':Nat} {v v':Value} {xs xs':List Value} (h:u.ownsRow B e sz v n xs) (h':u.ownsRow B' e' sz' v' n' xs') (he:e ≠ e'):v.ownBlock=none\/v.ownBlock ≠ v'.ownBlock:=by
 rcases h.2 with ⟨hv,-⟩ | ⟨g,cap,cur,hv,hb,hg,-⟩
 ·subst hv;exact .inl rfl
 ·right
  rcases h'.2 with ⟨hv',-⟩ | ⟨g',cap',cur',hv',hb',hg',-⟩
  ·subst hv;subst hv';intro e;cases e
  ·subst hv;subst hv'
   intro e
   simp only [Value.ownBlock,Option.some.injEq] at e
   subst e
   rw [hg] at hg'
   simp only [Option.some.injEq,Obj.cells.injEq] at hg'
   exact he hg'.2.1
structure RP (w u:World) (l:List Pl) (a:Option Addr) (c:Nat):Prop where
 oo:u.ownsRow w.heap.size 46 3 (.slice a l.length c) l.length (l.flatMap plC)
 kk:Below w.heap.size w u
theorem RP.grow {w u w2:World} {l:List Pl} {a a':Option Addr} {c c':Nat} {r:Pl} {C:Array Value} {T:TypeId} (h:RP w u l a c) (hown:w2.ownsRow w.heap.size 46 3 (.slice a' (l.length+1) c') (l.length+1) (l.flatMap plC ++ plC r))
  (hgrow:(u.alloc (.cells C T)).grownBy w2 (Value.slice a l.length c).ownBlock):RP w w2 (l ++ [r]) a' c':=by
 refine ⟨by simpa [List.flatMap_append] using hown,?_⟩
 exact (h.kk.alloc h.kk.size _).grown hgrow (by have:=h.kk.size;rw [World.size_alloc];omega) (fun j hj=>(h.oo.lt j hj).1)
theorem RP.next {w u v:World} {l:List Pl} {a:Option Addr} {c:Nat} (h:RP w u l a c) (hb:Below u.heap.size u v):RP w v l a c:=⟨ownsR_next h.oo hb,after h.kk hb⟩
theorem RP.nil (w:World):RP w w [] none 0:=⟨World.ownsRow_nil _ _ _ _,Below.refl _ _⟩
structure RO (w u:World) (L:List Rw) (a:Option Addr) (c:Nat):Prop where
 oo:u.ownsRow w.heap.size 104 1 (.slice a L.length c) L.length (L.flatMap rwC)
 nn:∀ r ∈ L,u.ownsRow w.heap.size 46 3 (.slice r.ad r.l.length r.cap) r.l.length (r.l.flatMap plC)
 kk:Below w.heap.size w u
theorem RO.next {w u v:World} {L:List Rw} {a:Option Addr} {c:Nat} (h:RO w u L a c) (hb:Below u.heap.size u v):RO w v L a c:=⟨ownsR_next h.oo hb,fun r hr=>ownsR_next (h.nn r hr) hb,after h.kk hb⟩
theorem RO.nil (w:World):RO w w [] none 0:=⟨World.ownsRow_nil _ _ _ _,(fun r hr=>by cases hr),Below.refl _ _⟩
theorem RO.row {w u v:World} {L:List Rw} {a ra:Option Addr} {c rc:Nat} {l:List Pl} (h:RO w u L a c) (hr:RP u v l ra rc):RO w v L a c/\v.ownsRow w.heap.size 46 3 (.slice ra l.length rc) l.length (l.flatMap plC):=
 ⟨h.next hr.kk,ownsR_low hr.oo h.kk.size⟩
theorem RO.grow {w u w2:World} {L:List Rw} {a a':Option Addr} {c c':Nat} {r:Rw} {C:Array Value} {T:TypeId} (h:RO w u L a c) (hm:u.ownsRow w.heap.size 46 3 (.slice r.ad r.l.length r.cap) r.l.length (r.l.flatMap plC))
  (hown:w2.ownsRow w.heap.size 104 1 (.slice a' (L.length+1) c') (L.length+1) (L.flatMap rwC ++ rwC r))
  (hgrow:(u.alloc (.cells C T)).grownBy w2 (Value.slice a L.length c).ownBlock):RO w w2 (L ++ [r]) a' c':=by
 have key:∀ x:Rw,u.ownsRow w.heap.size 46 3 (.slice x.ad x.l.length x.cap) x.l.length (x.l.flatMap plC)->w2.ownsRow w.heap.size 46 3 (.slice x.ad x.l.length x.cap) x.l.length (x.l.flatMap plC):=by
  intro x hx
  refine ownsRow_same (hx.alloc (.cells C T)) (fun g hg=>?_)
  have hl:=hx.lt g hg
  refine hgrow.block g (by rw [World.size_alloc];omega) (fun e=>?_)
  rcases ownsR_apart hx h.oo (by decide) with h1 | h1
  ·rw [h1] at hg;cases hg
  ·rw [<-e] at h1;exact h1 hg
 refine ⟨by simpa [List.flatMap_append] using hown,fun x hx=>?_,?_⟩
 ·rcases List.mem_append.1 hx with hx | hx
  ·exact key x (h.nn x hx)
  ·rw [List.mem_singleton.1 hx];exact key r hm
 ·exact (h.kk.alloc h.kk.size _).grown hgrow (by have:=h.kk.size;rw [World.size_alloc];omega) (fun j hj=>(h.oo.lt j hj).1)
theorem RO.rows {w u:World} {L:List Rw} {a:Option Addr} {c:Nat} (h:RO w u L a c):PRows u a L.length L:=by
 refine ⟨?_,fun r hr=>?_⟩
 ·obtain ⟨a',c',e,h',-⟩:=SL.ofOwns (enc:=rwC) rw_len (by decide) h.oo
  injection e with e1 e2 e3
  subst e1
  exact h'
 ·obtain ⟨a',c',e,h',-⟩:=SL.ofOwns (enc:=plC) pl_len (by decide) (h.nn r hr)
  injection e with e1 e2 e3
  subst e1
  exact h'
def ResS (R:Flt) (rr:List (List Pl)) (n:Nat) (w:World) (e:Ending) (w':World):Prop:=
 (R ≠ flZ/\e=.returned (.tuple #[.slice none 0 0,flV R])/\Below w.heap.size w w')\/
 (R=flZ/\∃ a c rs,e=.returned (.tuple #[.slice a n c,flV flZ])/\PRows w' a n rs/\rs.map (·.l)=rr/\Below w.heap.size w w')
def ResR (os:List Ob) (n:Nat):World->Ending->World->Prop:=ResS (faultL os) (rowsL os) n
theorem rRes_ck (a:Option Addr) (n c:Nat) (Os:List Ox) (w:World) (hO:OS w w.heap.size a n Os) (hF:∀ o ∈ Os,FewO o.L o.l) (hc:checkL (Os.map obOf) ≠ 0):
  Calls Tryz.prog 20 #[.slice a n c] w (ResR (Os.map obOf) n w):=by
 have HC:Hid (∀ u,Below w.heap.size w u->Calls Tryz.prog 26 #[.slice a n c] u (RetB (.int .i64 (checkL (Os.map obOf))) u)):=Lib.hid fun u hu=>rCheck_any a n c Os u (hO.next hu) hF
 have hce:(checkL (Os.map obOf) != 0)=true:=by rw [bne_iff_ne];exact hc
 have HFl:Hid (faultL (Os.map obOf)=⟨checkL (Os.map obOf),0,0⟩):=Lib.hid (fault_ck hc)
 have HNz:Hid (faultL (Os.map obOf) ≠ flZ):=Lib.hid (by rw [fault_ck hc];intro e;injection e with e1;exact hc e1)
 clear hc hO hF
 unfold ResR
 generalize rowsL (Os.map obOf)=rr at*
 generalize faultL (Os.map obOf)=fl at*
 generalize checkL (Os.map obOf)=ck at*
 obtain ⟨H,hH⟩:∃ H,H=w.heap.size:=⟨_,rfl⟩
 obtain ⟨W,hW⟩:∃ W,W=w.alloc (.cells #[.int .i64 0,.int .i64 0,.int .i64 0] 42):=⟨_,rfl⟩
 have HB0:Hid (Below w.heap.size w W):=Lib.hid (by rw [hW];exact lit_below w _)
 have HR0:Hid (RB W H #[.int .i64 0,.int .i64 0,.int .i64 0] 42):=Lib.hid (by rw [hW,hH];exact rb_new w _ _)
 have HHw:Hid (w.heap.size<=H):=Lib.hid (by omega)
 have HH:=Lib.hid hH.symm
 have HW:=Lib.hid hW.symm
 have hzf:=zeroFl
 clear hH hW
 go_enter Tryz.func20,Tryz.ntmps20
 go_wp2_with fail
 rw [HW.out,HH.out]
 refine (HC.out _ HB0.out).mono ?_
 rintro e u1 ⟨rfl,hb⟩
 have HB1:=Lib.hid (after HB0.out hb)
 have HR1:=Lib.hid (HR0.out.next hb)
 clear hb
 have p0:u1.cell? ⟨H,0,none⟩=some (.int .i64 0):=HR1.out.cell
 have p1:u1.cell? ⟨H,1,none⟩=some (.int .i64 0):=HR1.out.cell
 have p2:u1.cell? ⟨H,2,none⟩=some (.int .i64 0):=HR1.out.cell
 have f0:u1.frozen? ⟨H,0,none⟩=false:=HR1.out.frozen
 have f1:u1.frozen? ⟨H,1,none⟩=false:=HR1.out.frozen
 have f2:u1.frozen? ⟨H,2,none⟩=false:=HR1.out.frozen
 have HP1:=Lib.hid (put_three ck 0 0 HB1.out HHw.out HR1.out)
 go_wp2
 refine bodyPost_ret (results_two_cell (P:=Tryz.prog) rfl _ _ H 42 _ (0,0) _ _ rfl HP1.out.1 Tryz.underlying42 rfl (by kernel_rfl) rfl) rfl ?_
 exact Or.inl ⟨HNz.out,by rw [HFl.out];rfl,HP1.out.2⟩
end Go.Proofs.YthkolmebokfagaaGreatDoor
namespace Go.Proofs.YthkolmebokfagaaGreatDoor
open Go.ChangeShapes Go.WideShapes Go.Deep Go.RowKit
theorem fl_ne {c x y:Int} (h:c ≠ 0):(⟨c,x,y⟩:Flt) ≠ flZ:=fun e=>h (congrArg Flt.code e)
theorem RO.put3 {w u:World} {L:List Rw} {a:Option Addr} {c H:Nat} (h:RO w u L a c) (hH:H < w.heap.size) (x y z:Value):PRows (((u.setCell ⟨H,0,none⟩ x).setCell ⟨H,1,none⟩ y).setCell ⟨H,2,none⟩ z) a L.length L:=by
 refine ⟨?_,fun r hr=>?_⟩
 ·obtain ⟨a',c',e,h',-⟩:=SL.ofOwns (enc:=rwC) rw_len (by decide) (ownsRow_setCell_below (ownsRow_setCell_below (ownsRow_setCell_below h.oo (a:=⟨H,0,none⟩) hH x) (a:=⟨H,1,none⟩) hH y) (a:=⟨H,2,none⟩) hH z)
  injection e with e1 e2 e3
  subst e1
  exact h'
 ·obtain ⟨a',c',e,h',-⟩:=SL.ofOwns (enc:=plC) pl_len (by decide) (ownsRow_setCell_below (ownsRow_setCell_below (ownsRow_setCell_below (h.nn r hr) (a:=⟨H,0,none⟩) hH x) (a:=⟨H,1,none⟩) hH y) (a:=⟨H,2,none⟩) hH z)
  injection e with e1 e2 e3
  subst e1
  exact h'
theorem rRes_go (a:Option Addr) (n c:Nat) (Os:List Ox) (w:World) (hO:OS w w.heap.size a n Os) (hF:∀ o ∈ Os,FewO o.L o.l) (hc:checkL (Os.map obOf)=0):
  Calls Tryz.prog 20 #[.slice a n c] w (ResR (Os.map obOf) n w):=by
 obtain ⟨i0,hi,hz0,hz1,hz2⟩:=info_parts info_place
 obtain ⟨i1,hj,hy0,hy1,hy2⟩:=info_parts info_rows
 have HC:Hid (∀ u,Below w.heap.size w u->Calls Tryz.prog 26 #[.slice a n c] u (RetB (.int .i64 0) u)):=Lib.hid fun u hu=>by have:=rCheck_any a n c Os u (hO.next hu) hF;rw [hc] at this;exact this
 have HFs:Hid (∀ N b u,Below w.heap.size w u->Calls Tryz.prog 57 #[.slice a n c,.string N,.int .i64 b] u (FstP (fstR b N.data.toList (flatS 0 (Os.map (·.l)))) u)):=Lib.hid fun N b u hu=>rFirst_any a n c Os N b u (hO.next hu)
 have HFd:Hid (∀ N u,Below w.heap.size w u->Calls Tryz.prog 58 #[.slice a n c,.string N] u (FstP (fndR N.data.toList (flatS 0 (Os.map (·.l)))) u)):=Lib.hid fun N u hu=>rfind_any a n c Os N u (hO.next hu)
 have hck:=checkL_zero.1 hc
 have hn8:n<=8:=by have:=hck.1;rw [List.length_map] at this;have:=hO.sl.len;omega
 have HSy:Hid (∀ o ∈ Os,o.l.length<=128):=Lib.hid fun o ho=>(isO_syms (hck.2 (obOf o) (List.mem_map.2 ⟨o,ho,rfl⟩))).2.1
 have HLn:=Lib.hid hO.sl.len
 have HO:=Lib.hid hO
 have HFlo:Hid (flatS 0 (Os.map (·.l))=flatO (Os.map obOf)):=Lib.hid (flatO_eq Os)
 have HTw:Hid (∀ x rem,PreG (twR (flatS 0 (Os.map (·.l)))) (flatS 0 (Os.map (·.l))) (x :: rem)->twR (flatS 0 (Os.map (·.l))) x=true->faultL (Os.map obOf)=⟨7,(x.k:Int),(x.j:Int)⟩):=Lib.hid fun x rem hp hx=>by
  have h:=hp.hit hx
  rw [flatO_eq,twf_right hc] at h
  exact fault_tw hc h
 have HLo:Hid (PreG (twR (flatS 0 (Os.map (·.l)))) (flatS 0 (Os.map (·.l))) []->∀ x rem,PreG (loR (flatS 0 (Os.map (·.l)))) (flatS 0 (Os.map (·.l))) (x :: rem)->loR (flatS 0 (Os.map (·.l))) x=true->faultL (Os.map obOf)=⟨6,(x.k:Int),(x.j:Int)⟩):=Lib.hid fun ht x rem hp hx=>by
  have h1:=ht.done
  have h:=hp.hit hx
  rw [flatO_eq,twf_right hc] at h1
  rw [flatO_eq,lof_right hc] at h
  rw [fault_lo hc h1,h];rfl
 have HNo:Hid (PreG (twR (flatS 0 (Os.map (·.l)))) (flatS 0 (Os.map (·.l))) []->PreG (loR (flatS 0 (Os.map (·.l)))) (flatS 0 (Os.map (·.l))) []->faultL (Os.map obOf)=flZ):=Lib.hid fun ht hl=>by
  have h1:=ht.done
  have h:=hl.done
  rw [flatO_eq,twf_right hc] at h1
  rw [flatO_eq,lof_right hc] at h
  rw [fault_lo hc h1,h];rfl
 obtain ⟨F,hFd⟩:∃ F,F=plcL (flatO (Os.map obOf)):=⟨_,rfl⟩
 have HRw:Hid (rowsL (Os.map obOf)=rowsA F 0 (Os.map (·.l))):=Lib.hid (by unfold rowsL;rw [hFd,<-map_eq_l])
 have HFn:Hid (∀ nm,fndR nm (flatS 0 (Os.map (·.l)))=F nm):=Lib.hid fun nm=>by rw [flatO_eq,fnd_right hc,hFd]
 obtain ⟨FL,hFL⟩:∃ FL,FL=flatS 0 (Os.map (·.l)):=⟨_,rfl⟩
 have HFL:Hid (FL=flatS 0 ((Os.drop 0).map (·.l))):=Lib.hid hFL
 unfold ResR
 rw [<-hFL] at HFs HFd HTw HLo HNo HFlo HFn
 rw [HRw.out]
 clear HRw HFlo
 generalize faultL (Os.map obOf)=R at*
 clear hFL hFd hc hO hF hck
 obtain ⟨H,hH⟩:∃ H,H=w.heap.size:=⟨_,rfl⟩
 obtain ⟨W0,hW⟩:∃ W,W=w.alloc (.cells #[.int .i64 0,.int .i64 0,.int .i64 0] 42):=⟨_,rfl⟩
 have HB00:Hid (Below w.heap.size w W0):=Lib.hid (by rw [hW];exact lit_below w _)
 have HR00:Hid (RB W0 H #[.int .i64 0,.int .i64 0,.int .i64 0] 42):=Lib.hid (by rw [hW,hH];exact rb_new w _ _)
 have HHw:Hid (w.heap.size<=H):=Lib.hid (by omega)
 have HH:=Lib.hid hH.symm
 have HW:=Lib.hid hW.symm
 have hzf:=zeroFl
 have hni:(n:Int)<=8:=by omega
 clear hH hW
 go_enter Tryz.func20,Tryz.ntmps20
 go_wp2_with fail
 rw [HW.out,HH.out]
 refine (HC.out _ HB00.out).mono ?_
 rintro e W ⟨rfl,hb⟩
 have HB0:=Lib.hid (after HB00.out hb)
 have HR0:=Lib.hid (HR00.out.next hb)
 clear hb
 go_wp2_with fail
 go_loopw [5] (fun i wr=>∃ (k:Nat) (wx:World),wx=wr/\k<=n/\i=.int .i64 k/\Hid (Below W.heap.size W wx)/\Hid (PreG (twR FL) FL (flatS k ((Os.drop k).map (·.l))))) (fun i _=>n - (intOf i).toNat)
 case atStart=>exact ⟨0,_,rfl,by omega,rfl,Lib.hid (Below.refl _ _),Lib.hid ⟨[],HFL.out,by simp⟩⟩
 case round=>
  obtain ⟨k,wx,rfl,hk,rfl,HB,HG⟩:=hrel
  by_cases hlt:k < n
  ·have hlti:(k:Int) < (n:Int):=by omega
   have hkl:k < Os.length:=by have:=HLn.out;omega
   obtain ⟨o,ho⟩:∃ o,o=Os[k]:=⟨_,rfl⟩
   have HOm:Hid (o ∈ Os):=Lib.hid (by rw [ho];exact List.getElem_mem hkl)
   have HOk:Hid (Os[k]?=some o):=Lib.hid (by rw [ho];exact List.getElem?_eq_getElem hkl)
   have HFl:Hid (flatS k ((Os.drop k).map (·.l))=flatR k 0 o.l ++ flatS (k+1) ((Os.drop (k+1)).map (·.l))):=Lib.hid (by rw [flatS_at hkl,ho])
   have HLt:=Lib.hid hlt
   obtain ⟨m,hm⟩:∃ m,m=o.l.length:=⟨_,rfl⟩
   have HM:=Lib.hid hm
   have hmi:(m:Int)<=128:=by have:=HSy.out o HOm.out;omega
   clear ho hm hlt hk hkl
   go_wp2_with fail
   go_loopw [6] (fun i wr=>∃ (j:Nat) (wy:World),wy=wr/\j<=m/\i=.int .i64 j/\Hid (Below W.heap.size W wy)/\Hid (PreG (twR FL) FL (flatR k j (o.l.drop j) ++ flatS (k+1) ((Os.drop (k+1)).map (·.l))))) (fun i _=>m - (intOf i).toNat)
   case atStart=>exact ⟨0,_,rfl,by omega,rfl,HB,Lib.hid (by have:=HG.out;rw [HFl.out] at this;exact this)⟩
   case round=>
    clear HB HG
    obtain ⟨j,wy,rfl,hj,rfl,HB,HG⟩:=hrel
    have hO1:=HO.out.next (after HB0.out HB.out)
    have hkl:k < Os.length:=(List.getElem?_eq_some_iff.1 HOk.out).1
    have hok:Os[k]=o:=by have:=HOk.out;rw [List.getElem?_eq_getElem hkl] at this;exact Option.some.inj this
    obtain ⟨bb,off,hae,-,hcc⟩:=hO1.sl.cells (by intro e;rw [e] at hkl;simp at hkl)
    subst hae
    obtain ⟨c0,c1⟩:=ox_cells (fun j hj=>hcc k hkl j hj)
    rw [hok] at c0 c1
    rw [<-HM.out] at c1
    have hs2:=hO1.s2 _ HOm.out
    rw [<-HM.out] at hs2
    clear hcc hok c0
    by_cases hltj:j < m
    ·have hltji:(j:Int) < (m:Int):=by omega
     have hjl:j < o.l.length:=by rw [<-HM.out];exact hltj
     have hkn:(k:Int) < (n:Int):=by have:=HLn.out;omega
     obtain ⟨b2,off2,hae2,-,hc2⟩:=hs2.cells (by intro e;rw [e] at hjl;simp at hjl)
     obtain ⟨d0,d1,d2,d3⟩:=sy_cells (fun q hq=>hc2 j hjl q hq)
     have HFn2:Hid (flatR k j (o.l.drop j)=⟨k,j,o.l[j]⟩ :: flatR k (j+1) (o.l.drop (j+1))):=Lib.hid (flatR_at hjl k j)
     obtain ⟨y,hy⟩:∃ y,y=o.l[j]:=⟨_,rfl⟩
     have HYj:Hid (o.l[j]?=some y):=Lib.hid (by rw [hy];exact List.getElem?_eq_getElem hjl)
     rw [<-hy] at d0 d1 d2 d3 HFn2
     have HG2:Hid (PreG (twR FL) FL (⟨k,j,y⟩ :: (flatR k (j+1) (o.l.drop (j+1)) ++ flatS (k+1) ((Os.drop (k+1)).map (·.l))))):=Lib.hid (by have:=HG.out;rw [HFn2.out] at this;exact this)
     rw [hae2] at c1
     obtain ⟨yn,yb,ys,yo⟩:=y
     obtain ⟨M,hM⟩:∃ M:ByteArray,M=⟨yn.toArray⟩:=⟨_,rfl⟩
     simp only [] at d0 d1 d2 d3
     rw [<-hM] at d0
     have hMn:M.data.toList=yn:=by rw [hM]
     clear hc2 hy hae2 hkl hjl hs2 hO1
     obtain ⟨X,hX⟩:∃ X,X=wy.alloc (.cells #[.string M,.int .i64 yb,.int .i64 ys,.int .i64 yo] 66):=⟨_,rfl⟩
     obtain ⟨X0,hX0⟩:∃ X0,X0=wy.heap.size:=⟨_,rfl⟩
     have HXe:=Lib.hid hX.symm
     have HBx:=Lib.hid hX0.symm
     have HB2:Hid (Below W.heap.size W X):=Lib.hid (by rw [hX];exact after HB.out (lit_below _ _))
     have HS2:Hid (RB X X0 #[.string M,.int .i64 yb,.int .i64 ys,.int .i64 yo] 66):=Lib.hid (by rw [hX,hX0];exact rb_new _ _ _)
     clear hX0
     have HCl:=Lib.hid (HFs.out M 2 X (after HB0.out HB2.out))
     rw [hMn] at HCl
     have HTe:Hid (twR FL ⟨k,j,⟨yn,yb,ys,yo⟩⟩=(decide (yb=2) && decide (0<=ys) && ((fstR 2 yn FL).isSome && decide (((fstR 2 yn FL).getD plZ).obj < (k:Int))))):=Lib.hid (twR_eq _ _)
     unfold FstP plB plV at HCl
     generalize hq0:(fstR 2 yn FL).isSome=bb at*
     generalize hq1:((fstR 2 yn FL).getD plZ).obj=po at*
     generalize hq2:((fstR 2 yn FL).getD plZ).sec=ps at*
     generalize hq3:((fstR 2 yn FL).getD plZ).off=pf at*
     clear hq0 hq1 hq2 hq3
     have HLj:=Lib.hid hltj
     clear hltj hj hMn hM hX
     go_wp2_with fail
     rw [HXe.out,HBx.out]
     refine HCl.out.mono ?_
     rintro e u ⟨rfl,hb⟩
     have HB3:=Lib.hid (after HB2.out hb)
     have HS3:=Lib.hid (HS2.out.next hb)
     clear hb d0 d1 d2 d3 c1
     obtain ⟨V,hV⟩:∃ V,V=u.alloc (.cells #[.int .i64 po,.int .i64 ps,.int .i64 pf] 46):=⟨_,rfl⟩
     have HB4:Hid (Below W.heap.size W V):=Lib.hid (by rw [hV];exact after HB3.out (lit_below _ _))
     have HS4:Hid (RB V X0 #[.string M,.int .i64 yb,.int .i64 ys,.int .i64 yo] 66):=Lib.hid (by rw [hV];exact HS3.out.next (lit_below _ _))
     have HX4:Hid (RB V u.heap.size #[.int .i64 po,.int .i64 ps,.int .i64 pf] 46):=Lib.hid (by rw [hV];exact rb_new _ _ _)
     have HVe:=Lib.hid hV.symm
     have d0:V.cell? ⟨X0,0,none⟩=some (.string M):=HS4.out.cell
     have d1:V.cell? ⟨X0,1,none⟩=some (.int .i64 yb):=HS4.out.cell
     have d2:V.cell? ⟨X0,2,none⟩=some (.int .i64 ys):=HS4.out.cell
     have d3:V.cell? ⟨X0,3,none⟩=some (.int .i64 yo):=HS4.out.cell
     have x0:V.cell? ⟨u.heap.size,0,none⟩=some (.int .i64 po):=HX4.out.cell
     rw [hV] at d0 d1 d2 d3 x0
     by_cases ht:yb=2/\0<=ys/\bb=true/\po < (k:Int)
     ·obtain ⟨e1,e2,e3,e4⟩:=ht
      have HRr:Hid (R=⟨7,(k:Int),(j:Int)⟩):=Lib.hid (HTw.out _ _ HG2.out (by rw [HTe.out,e1,e3,decide_eq_true e2,decide_eq_true e4];rfl))
      have HRV:=Lib.hid (HR0.out.next HB4.out)
      have p0:V.cell? ⟨H,0,none⟩=some (.int .i64 0):=HRV.out.cell
      have p1:V.cell? ⟨H,1,none⟩=some (.int .i64 0):=HRV.out.cell
      have p2:V.cell? ⟨H,2,none⟩=some (.int .i64 0):=HRV.out.cell
      have f0:V.frozen? ⟨H,0,none⟩=false:=HRV.out.frozen
      have f1:V.frozen? ⟨H,1,none⟩=false:=HRV.out.frozen
      have f2:V.frozen? ⟨H,2,none⟩=false:=HRV.out.frozen
      have HPt:=Lib.hid (put_three 7 (k:Int) (j:Int) (after HB0.out HB4.out) HHw.out HRV.out)
      rw [hV] at p0 p1 p2 f0 f1 f2
      subst e1
      subst e3
      clear hV
      go_wp2
      rw [HVe.out]
      refine bodyPost_ret (results_two_cell (P:=Tryz.prog) rfl _ _ H 42 _ (0,0) _ _ rfl HPt.out.1 Tryz.underlying42 rfl (by kernel_rfl) rfl) rfl ?_
      exact Or.inl ⟨by rw [HRr.out];exact fl_ne (by decide),by rw [HRr.out];rfl,HPt.out.2⟩
     ·have HG3:=Lib.hid (HG2.out.step (by
       rw [HTe.out]
       apply Bool.eq_false_iff.2
       intro hh
       simp only [Bool.and_eq_true,decide_eq_true_eq] at hh
       exact ht ⟨hh.1.1,hh.1.2,hh.2.1,hh.2.2⟩))
      have HTn:=Lib.hid ht
      clear hV ht
      by_cases e1:yb=2
      ·subst e1
       by_cases e2:0<=ys
       ·cases bb
        ·go_wp2
         rw [HVe.out]
         go_roundw
         case rel=>exact ⟨j+1,_,rfl,by have:=HLj.out;omega,by go_num,HB4,HG3⟩
         case measure=>have:=HLj.out;simp [intOf];omega
        ·have e4:¬ po < (k:Int):=fun e4=>HTn.out ⟨rfl,e2,rfl,e4⟩
         go_wp2
         rw [HVe.out]
         go_roundw
         case rel=>exact ⟨j+1,_,rfl,by have:=HLj.out;omega,by go_num,HB4,HG3⟩
         case measure=>have:=HLj.out;simp [intOf];omega
       ·have e5:ys < 0:=by omega
        go_wp2
        rw [HVe.out]
        go_roundw
        case rel=>exact ⟨j+1,_,rfl,by have:=HLj.out;omega,by go_num,HB4,HG3⟩
        case measure=>have:=HLj.out;simp [intOf];omega
      ·have hbe:(yb == 2)=false:=by rw [beq_eq_false_iff_ne];exact e1
       clear e1
       go_wp2
       rw [HVe.out]
       go_roundw
       case rel=>exact ⟨j+1,_,rfl,by have:=HLj.out;omega,by go_num,HB4,HG3⟩
       case measure=>have:=HLj.out;simp [intOf];omega
    ·obtain rfl:j=m:=by omega
     have hge:¬ (j:Int) < (j:Int):=by omega
     have hkn:(k:Int) < (n:Int):=by have:=HLn.out;omega
     have HG3:Hid (PreG (twR FL) FL (flatS (k+1) ((Os.drop (k+1)).map (·.l)))):=Lib.hid (by
      have:=HG.out
      rw [HM.out,List.drop_length] at this
      exact this)
     clear hs2 hO1 hkl hj hltj
     go_wp2
     go_roundw
     case rel=>exact ⟨k+1,_,rfl,by have:=HLt.out;omega,by go_num,HB,HG3⟩
     case measure=>have:=HLt.out;simp [intOf];omega
  ·obtain rfl:n=k:=by omega
   have hge:¬ (n:Int) < (n:Int):=by omega
   have HT0:Hid (PreG (twR FL) FL []):=Lib.hid (by
    have:=HG.out
    rw [HLn.out,List.drop_length] at this
    exact this)
   clear hlt hk HTw HFs HG
   have HBw:=Lib.hid (after HB0.out HB.out)
   have HRx:=Lib.hid (HR0.out.next HB.out)
   have HHx:Hid (H < wx.heap.size):=Lib.hid (lt_of_block HRx.out)
   clear HB HB0 HR0 HB00 HR00
   go_wp2_with fail
   go_loopw [10,11] (fun out i wr=>∃ (k:Nat) (wz:World) (rs:List Rw) (oa:Option Addr) (oc:Nat),wz=wr/\k<=n/\out=.slice oa k oc/\i=.int .i64 k/\Hid (k=rs.length)/\Hid (RO wx wz rs oa oc)/\Hid (rs.map (·.l)=rowsA F 0 ((Os.take k).map (·.l)))/\Hid (PreG (loR FL) FL (flatS k ((Os.drop k).map (·.l))))) (fun _ i _=>n - (intOf i).toNat)
   case atStart=>exact ⟨0,_,[],none,0,rfl,by omega,rfl,rfl,Lib.hid rfl,Lib.hid (RO.nil _),Lib.hid rfl,Lib.hid ⟨[],HFL.out,by simp⟩⟩
   case round=>
    obtain ⟨k,wz,rs,oa,oc,rfl,hk,rfl,rfl,HOq,HQ0,HRs,HG⟩:=hrel
    by_cases hlt:k < n
    ·have hlti:(k:Int) < (n:Int):=by omega
     have hkl:k < Os.length:=by have:=HLn.out;omega
     obtain ⟨o,ho⟩:∃ o,o=Os[k]:=⟨_,rfl⟩
     have HOm:Hid (o ∈ Os):=Lib.hid (by rw [ho];exact List.getElem_mem hkl)
     have HOk:Hid (Os[k]?=some o):=Lib.hid (by rw [ho];exact List.getElem?_eq_getElem hkl)
     have HFl:Hid (flatS k ((Os.drop k).map (·.l))=flatR k 0 o.l ++ flatS (k+1) ((Os.drop (k+1)).map (·.l))):=Lib.hid (by rw [flatS_at hkl,ho])
     have HLt:=Lib.hid hlt
     obtain ⟨m,hm⟩:∃ m,m=o.l.length:=⟨_,rfl⟩
     have HM:=Lib.hid hm
     have hmn:m<=128:=by have:=HSy.out o HOm.out;omega
     have hmi:(m:Int)<=128:=by omega
     have HMn:=Lib.hid hmn
     clear ho hm hlt hk hkl hmn
     go_wp2_with fail
     go_loopw [12,13] (fun row i wr=>∃ (j:Nat) (wy:World) (l:List Pl) (ra:Option Addr) (rc:Nat),wy=wr/\j<=m/\row=.slice ra j rc/\i=.int .i64 j/\Hid (j=l.length)/\Hid (RP wz wy l ra rc)/\Hid (l=(o.l.take j).map (placeA F k))/\Hid (PreG (loR FL) FL (flatR k j (o.l.drop j) ++ flatS (k+1) ((Os.drop (k+1)).map (·.l))))) (fun _ i _=>m - (intOf i).toNat)
     case atStart=>exact ⟨0,_,[],none,0,rfl,by omega,rfl,rfl,Lib.hid rfl,Lib.hid (RP.nil _),Lib.hid rfl,Lib.hid (by have:=HG.out;rw [HFl.out] at this;exact this)⟩
     case round=>
      clear HG
      obtain ⟨j,wy,l,ra,rc,rfl,hj,rfl,rfl,HQq,HQ,HLl,HG⟩:=hrel
      have HB:=Lib.hid HQ.out.kk
      have hO1:=HO.out.next (after HBw.out (after HQ0.out.kk HB.out))
      have hkl:k < Os.length:=(List.getElem?_eq_some_iff.1 HOk.out).1
      have hok:Os[k]=o:=by have:=HOk.out;rw [List.getElem?_eq_getElem hkl] at this;exact Option.some.inj this
      obtain ⟨bb,off,hae,-,hcc⟩:=hO1.sl.cells (by intro e;rw [e] at hkl;simp at hkl)
      subst hae
      obtain ⟨c0,c1⟩:=ox_cells (fun j hj=>hcc k hkl j hj)
      rw [hok] at c0 c1
      rw [<-HM.out] at c1
      have hs2:=hO1.s2 _ HOm.out
      rw [<-HM.out] at hs2
      clear hcc hok c0
      by_cases hltj:j < m
      ·have hltji:(j:Int) < (m:Int):=by omega
       have hjl:j < o.l.length:=by rw [<-HM.out];exact hltj
       have hkn:(k:Int) < (n:Int):=by have:=HLn.out;omega
       obtain ⟨b2,off2,hae2,-,hc2⟩:=hs2.cells (by intro e;rw [e] at hjl;simp at hjl)
       obtain ⟨d0,d1,d2,d3⟩:=sy_cells (fun q hq=>hc2 j hjl q hq)
       have HFn2:Hid (flatR k j (o.l.drop j)=⟨k,j,o.l[j]⟩ :: flatR k (j+1) (o.l.drop (j+1))):=Lib.hid (flatR_at hjl k j)
       obtain ⟨y,hy⟩:∃ y,y=o.l[j]:=⟨_,rfl⟩
       have HYj:Hid (o.l[j]?=some y):=Lib.hid (by rw [hy];exact List.getElem?_eq_getElem hjl)
       rw [<-hy] at d0 d1 d2 d3 HFn2
       have HG2:Hid (PreG (loR FL) FL (⟨k,j,y⟩ :: (flatR k (j+1) (o.l.drop (j+1)) ++ flatS (k+1) ((Os.drop (k+1)).map (·.l))))):=Lib.hid (by have:=HG.out;rw [HFn2.out] at this;exact this)
       have HL2:Hid (∀ p,placeA F k y=p->l ++ [p]=(o.l.take (j+1)).map (placeA F k)):=Lib.hid fun p hp=>by rw [List.take_add_one,HYj.out,List.map_append,<-HLl.out,<-hp];rfl
       rw [hae2] at c1
       obtain ⟨yn,yb,ys,yo⟩:=y
       obtain ⟨M,hM⟩:∃ M:ByteArray,M=⟨yn.toArray⟩:=⟨_,rfl⟩
       simp only [] at d0 d1 d2 d3
       rw [<-hM] at d0
       have hMn:M.data.toList=yn:=by rw [hM]
       clear hc2 hy hae2 hkl hjl hs2 hO1
       obtain ⟨X,hX⟩:∃ X,X=wy.alloc (.cells #[.string M,.int .i64 yb,.int .i64 ys,.int .i64 yo] 66):=⟨_,rfl⟩
       obtain ⟨X0,hX0⟩:∃ X0,X0=wy.heap.size:=⟨_,rfl⟩
       have HXe:=Lib.hid hX.symm
       have HBx:=Lib.hid hX0.symm
       have HB2:Hid (Below wz.heap.size wz X):=Lib.hid (by rw [hX];exact after HB.out (lit_below _ _))
       have HS2:Hid (RB X X0 #[.string M,.int .i64 yb,.int .i64 ys,.int .i64 yo] 66):=Lib.hid (by rw [hX,hX0];exact rb_new _ _ _)
       clear hX0
       have HLj:=Lib.hid hltj
       have HJ:Hid (j<=128):=Lib.hid (by have:=HMn.out;omega)
       have HQX:Hid (RP wz X l ra rc):=Lib.hid (by rw [hX];exact HQ.out.next (lit_below _ _))
       have hx0:Hid (wz.heap.size<=wy.heap.size):=Lib.hid HQ.out.kk.size
       clear hltj hj HLl HG
       by_cases e1:yb=1
       ·subst e1
        have HL3:=Lib.hid (HL2.out ⟨(k:Int),ys,yo⟩ (by unfold placeA;rw [if_pos rfl]))
        have HG3:=Lib.hid (HG2.out.step (by unfold loR;rw [decide_eq_false (by simp),Bool.false_and]))
        have HQ1:Hid (RP wz (wy.alloc (.cells #[.string M,.int .i64 1,.int .i64 ys,.int .i64 yo] 66)) l ra rc):=Lib.hid (by rw [<-hX];exact HQX.out)
        have HNw:Hid (((wy.alloc (.cells #[.string M,.int .i64 1,.int .i64 ys,.int .i64 yo] 66)).alloc (.cells #[.int .i64 (k:Int),.int .i64 ys,.int .i64 yo] 46)).heap[wy.heap.size+1]?=some (.cells #[.int .i64 (k:Int),.int .i64 ys,.int .i64 yo] 46)):=Lib.hid (by have:=heap_alloc_new (wy.alloc (.cells #[.string M,.int .i64 1,.int .i64 ys,.int .i64 yo] 66)) (.cells #[.int .i64 (k:Int),.int .i64 ys,.int .i64 yo] 46);rw [World.size_alloc] at this;exact this)
        clear hX HXe HBx HQX hM hMn
        go_wp2_with (at_builtin;refine wpList_append_lies _ rfl _ _ 104 rfl wz.heap.size 46 i0 (.agg #[.int .i64 0,.int .i64 0,.int .i64 0]) 3 24 Tryz.underlying104 hi hz0 hz1 hz2 rfl (by decide) (.slice ra j rc) j (l.flatMap plC) rfl (by have:=HQ1.out.oo;rw [<-HQq.out] at this;exact this.alloc _) ⟨wy.heap.size+1,0,none⟩ 1 1 (plC ⟨(k:Int),ys,yo⟩) rfl rfl (World.news_of_block (cs:=#[.int .i64 (k:Int),.int .i64 ys,.int .i64 yo]) (t:=46) (fr:=(0,0)) HNw.out) (by simp [plC,Value.oneCell']) (by decide) (by have:=HJ.out;unfold maxLen;omega) (by have:=HJ.out;omega) (by have:=hx0.out;simp;omega) (wy.heap.size+1+1) (by simp) ?_;intro g cap w2 hown2 hgrow2 hlie2 hlt2)
        rw [HQq.out] at hown2 hgrow2
        have HQ2:=Lib.hid (HQ1.out.grow hown2 hgrow2)
        have HQq2:Hid (j+1=(l ++ [(⟨(k:Int),ys,yo⟩:Pl)]).length):=Lib.hid (by rw [HQq.out];simp)
        clear hown2 hgrow2 hlie2 hlt2 HQ1 HNw
        go_roundw
        case rel=>exact ⟨j+1,_,_,_,_,rfl,by have:=HLj.out;omega,rfl,by go_num,HQq2,HQ2,HL3,HG3⟩
        case measure=>have:=HLj.out;simp [intOf];omega
       ·have hbe:(yb == 1)=false:=by rw [beq_eq_false_iff_ne];exact e1
        have HE1:=Lib.hid e1
        have HCl:=Lib.hid (HFd.out M X (after HBw.out (after HQ0.out.kk HB2.out)))
        rw [hMn,HFn.out] at HCl
        have HL3:Hid (l ++ [(F yn).getD plZ]=(o.l.take (j+1)).map (placeA F k)):=Lib.hid (HL2.out _ (by unfold placeA;rw [if_neg e1]))
        have HLe:Hid (loR FL ⟨k,j,⟨yn,yb,ys,yo⟩⟩=!(F yn).isSome):=Lib.hid (by
         unfold loR
         rw [HFn.out,decide_eq_true e1,Bool.true_and]
         cases F yn <;> rfl)
        unfold FstP plB plV at HCl
        obtain ⟨PP,hPP⟩:∃ PP,PP=(F yn).getD plZ:=⟨_,rfl⟩
        rw [<-hPP] at HCl HL3
        generalize hq0:(F yn).isSome=bb at*
        clear hq0 hPP HL2
        obtain ⟨po,ps,pf⟩:=PP
        simp only [] at HCl
        clear hMn hM hX e1
        go_wp2_with fail
        rw [HXe.out,HBx.out]
        refine HCl.out.mono ?_
        rintro e u ⟨rfl,hb⟩
        have HB3:=Lib.hid (after HB2.out hb)
        have HQ3:=Lib.hid (HQX.out.next hb)
        clear hb d0 d1 d2 d3 c1
        cases bb
        ·obtain ⟨V,hV⟩:∃ V,V=u.alloc (.cells #[.int .i64 po,.int .i64 ps,.int .i64 pf] 46):=⟨_,rfl⟩
         have HB4:Hid (Below wz.heap.size wz V):=Lib.hid (by rw [hV];exact after HB3.out (lit_below _ _))
         have HVe:=Lib.hid hV.symm
         have HRr:Hid (R=⟨6,(k:Int),(j:Int)⟩):=Lib.hid (HLo.out HT0.out _ _ HG2.out (by rw [HLe.out];rfl))
         have HRV:=Lib.hid (HRx.out.next (after HQ0.out.kk HB4.out))
         have p0:V.cell? ⟨H,0,none⟩=some (.int .i64 0):=HRV.out.cell
         have p1:V.cell? ⟨H,1,none⟩=some (.int .i64 0):=HRV.out.cell
         have p2:V.cell? ⟨H,2,none⟩=some (.int .i64 0):=HRV.out.cell
         have f0:V.frozen? ⟨H,0,none⟩=false:=HRV.out.frozen
         have f1:V.frozen? ⟨H,1,none⟩=false:=HRV.out.frozen
         have f2:V.frozen? ⟨H,2,none⟩=false:=HRV.out.frozen
         have HPt:=Lib.hid (put_three 6 (k:Int) (j:Int) (after HBw.out (after HQ0.out.kk HB4.out)) HHw.out HRV.out)
         rw [hV] at p0 p1 p2 f0 f1 f2
         clear hV
         go_wp2
         rw [HVe.out]
         refine bodyPost_ret (results_two_cell (P:=Tryz.prog) rfl _ _ H 42 _ (0,0) _ _ rfl HPt.out.1 Tryz.underlying42 rfl (by kernel_rfl) rfl) rfl ?_
         exact Or.inl ⟨by rw [HRr.out];exact fl_ne (by decide),by rw [HRr.out];rfl,HPt.out.2⟩
        ·have HG3:=Lib.hid (HG2.out.step (by rw [HLe.out];rfl))
         have HQ1:Hid (RP wz (u.alloc (.cells #[.int .i64 po,.int .i64 ps,.int .i64 pf] 46)) l ra rc):=Lib.hid (HQ3.out.next (lit_below _ _))
         have HNw:Hid (((u.alloc (.cells #[.int .i64 po,.int .i64 ps,.int .i64 pf] 46)).alloc (.cells #[.int .i64 po,.int .i64 ps,.int .i64 pf] 46)).heap[u.heap.size+1]?=some (.cells #[.int .i64 po,.int .i64 ps,.int .i64 pf] 46)):=Lib.hid (by have:=heap_alloc_new (u.alloc (.cells #[.int .i64 po,.int .i64 ps,.int .i64 pf] 46)) (.cells #[.int .i64 po,.int .i64 ps,.int .i64 pf] 46);rw [World.size_alloc] at this;exact this)
         have hx1:Hid (wz.heap.size<=u.heap.size):=Lib.hid HQ3.out.kk.size
         clear HXe HBx HQX
         go_wp2_with (at_builtin;refine wpList_append_lies _ rfl _ _ 104 rfl wz.heap.size 46 i0 (.agg #[.int .i64 0,.int .i64 0,.int .i64 0]) 3 24 Tryz.underlying104 hi hz0 hz1 hz2 rfl (by decide) (.slice ra j rc) j (l.flatMap plC) rfl (by have:=HQ1.out.oo;rw [<-HQq.out] at this;exact this.alloc _) ⟨u.heap.size+1,0,none⟩ 1 1 (plC ⟨po,ps,pf⟩) rfl rfl (World.news_of_block (cs:=#[.int .i64 po,.int .i64 ps,.int .i64 pf]) (t:=46) (fr:=(0,0)) HNw.out) (by simp [plC,Value.oneCell']) (by decide) (by have:=HJ.out;unfold maxLen;omega) (by have:=HJ.out;omega) (by have:=hx1.out;simp;omega) (u.heap.size+1+1) (by simp) ?_;intro g cap w2 hown2 hgrow2 hlie2 hlt2)
         rw [HQq.out] at hown2 hgrow2
         have HQ2:=Lib.hid (HQ1.out.grow hown2 hgrow2)
         have HQq2:Hid (j+1=(l ++ [(⟨po,ps,pf⟩:Pl)]).length):=Lib.hid (by rw [HQq.out];simp)
         clear hown2 hgrow2 hlie2 hlt2 HQ1 HNw
         go_roundw
         case rel=>exact ⟨j+1,_,_,_,_,rfl,by have:=HLj.out;omega,rfl,by go_num,HQq2,HQ2,HL3,HG3⟩
         case measure=>have:=HLj.out;simp [intOf];omega
      ·obtain rfl:j=m:=by omega
       have hge:¬ (j:Int) < (j:Int):=by omega
       have hkn:(k:Int) < (n:Int):=by have:=HLn.out;omega
       have HG3:Hid (PreG (loR FL) FL (flatS (k+1) ((Os.drop (k+1)).map (·.l)))):=Lib.hid (by
        have:=HG.out
        rw [HM.out,List.drop_length] at this
        exact this)
       have HLx:Hid (l=o.l.map (placeA F k)):=Lib.hid (by have:=HLl.out;rw [HM.out,List.take_length] at this;exact this)
       have HRs2:Hid ((rs ++ [(⟨ra,rc,l⟩:Rw)]).map (·.l)=rowsA F 0 ((Os.take (k+1)).map (·.l))):=Lib.hid (by
        rw [List.take_add_one,HOk.out,List.map_append,List.map_append,HRs.out,rowsA_append,List.length_map,List.length_take,Nat.min_eq_left (by have:=HLt.out;have:=HLn.out;omega),Nat.zero_add]
        show _ ++ [l]=_ ++ [o.l.map (placeA F k)]
        rw [HLx.out])
       have HRo:=Lib.hid (HQ0.out.row HQ.out)
       have HK8:Hid (k<=8):=Lib.hid (by have:=HLt.out;omega)
       have hx0:Hid (wx.heap.size<=wy.heap.size):=Lib.hid HRo.out.1.kk.size
       have HNw:Hid ((wy.alloc (.cells #[.slice ra j rc] 104)).heap[wy.heap.size]?=some (.cells #[.slice ra j rc] 104)):=Lib.hid (heap_alloc_new wy _)
       clear hs2 hO1 hkl hj hltj HG HLl
       go_wp2_with (at_builtin;refine wpList_append_lies _ rfl _ _ 40 rfl wx.heap.size 104 i1 (.slice none 0 0) 1 24 Tryz.underlying40 hj hy0 hy1 hy2 rfl (by decide) (.slice oa k oc) k (rs.flatMap rwC) rfl (by have:=HRo.out.1.oo;rw [<-HOq.out] at this;exact this.alloc _) ⟨wy.heap.size,0,none⟩ 1 1 [.slice ra j rc] rfl rfl (World.news_of_block (cs:=#[.slice ra j rc]) (t:=104) (fr:=(0,0)) HNw.out) (by simp [Value.oneCell']) (by decide) (by have:=HK8.out;unfold maxLen;omega) (by have:=HK8.out;omega) (by have:=hx0.out;simp;omega) (wy.heap.size+1) (by simp) ?_;intro g cap w2 hown2 hgrow2 hlie2 hlt2)
       rw [HOq.out] at hown2 hgrow2
       rw [HQq.out] at hown2
       have HQ2:=Lib.hid (HRo.out.1.grow (r:=⟨ra,rc,l⟩) HRo.out.2 hown2 hgrow2)
       have HQq2:Hid (k+1=(rs ++ [(⟨ra,rc,l⟩:Rw)]).length):=Lib.hid (by rw [HOq.out];simp)
       clear hown2 hgrow2 hlie2 hlt2 HNw
       go_roundw
       case rel=>exact ⟨k+1,_,_,_,_,rfl,by have:=HLt.out;omega,rfl,by go_num,HQq2,HQ2,HRs2,HG3⟩
       case measure=>have:=HLt.out;simp [intOf];omega
    ·obtain rfl:k=n:=by omega
     have hge:¬ (k:Int) < (k:Int):=by omega
     have HRr:Hid (R=flZ):=Lib.hid (HNo.out HT0.out (by
      have:=HG.out
      rw [HLn.out,List.drop_length] at this
      exact this))
     have HRe:Hid (rs.map (·.l)=rowsA F 0 (Os.map (·.l))):=Lib.hid (by have:=HRs.out;rw [HLn.out,List.take_length] at this;exact this)
     have HRV:=Lib.hid (HRx.out.next HQ0.out.kk)
     have p0:wz.cell? ⟨H,0,none⟩=some (.int .i64 0):=HRV.out.cell
     have p1:wz.cell? ⟨H,1,none⟩=some (.int .i64 0):=HRV.out.cell
     have p2:wz.cell? ⟨H,2,none⟩=some (.int .i64 0):=HRV.out.cell
     have f0:wz.frozen? ⟨H,0,none⟩=false:=HRV.out.frozen
     have f1:wz.frozen? ⟨H,1,none⟩=false:=HRV.out.frozen
     have f2:wz.frozen? ⟨H,2,none⟩=false:=HRV.out.frozen
     have HPt:=Lib.hid (put_three 0 0 0 (after HBw.out HQ0.out.kk) HHw.out HRV.out)
     have HPr:=Lib.hid (HQ0.out.put3 HHx.out (.int .i64 0) (.int .i64 0) (.int .i64 0))
     clear hlt hk
     go_wp2
     refine bodyPost_ret (results_two_cell (P:=Tryz.prog) rfl _ _ H 42 _ (0,0) _ _ rfl HPt.out.1 Tryz.underlying42 rfl (by kernel_rfl) rfl) rfl ?_
     exact Or.inr ⟨HRr.out,oa,oc,rs,rfl,by rw [HOq.out];exact HPr.out,HRe.out,HPt.out.2⟩
theorem rResolve_any (a:Option Addr) (n c:Nat) (Os:List Ox) (w:World) (hO:OS w w.heap.size a n Os) (hF:∀ o ∈ Os,FewO o.L o.l):
  Calls Tryz.prog 20 #[.slice a n c] w (ResR (Os.map obOf) n w):=by
 by_cases hc:checkL (Os.map obOf)=0
 ·exact rRes_go a n c Os w hO hF hc
 ·exact rRes_ck a n c Os w hO hF hc
end Go.Proofs.YthkolmebokfagaaGreatDoor
namespace Go.Proofs.YthkolmebokfagaaGreatDoor
open Go.ChangeShapes Go.WideShapes Go.Deep Go.RowKit
def ResU (R:Flt) (rr:List (List Pl)) (w:World) (e:Ending) (w':World):Prop:=
 ∃ a m c rs,e=.returned (.tuple #[.slice a m c,.agg #[.int .i64 R.code,.int .i64 R.obj,.int .i64 R.sym]])/\PRows w' a m rs/\rs.map (·.l)=rr/\m=rr.length/\Below w.heap.size w w'
def rrL (os:List Ob):List (List Pl):=if faultL os=flZ then rowsL os else []
theorem rows_nil (w:World):PRows w none 0 []:=⟨SL.nil _ _ _,fun r hr=>by cases hr⟩
theorem resU_p {os:List Ob} {n:Nat} {w w':World} {e:Ending} (h:ResP os n w e w'):ResU (faultL os) (rrL os) w e w':=by
 unfold rrL
 rcases h with ⟨h,rfl,hb⟩ | ⟨h,Z,rs,rfl,hp,hr,hb⟩
 ·rw [if_neg h];exact ⟨none,0,0,[],rfl,rows_nil _,rfl,rfl,hb⟩
 ·rw [if_pos h];exact ⟨_,_,_,rs,by rw [h];rfl,hp,hr,by rw [<-hr,List.length_map];exact hp.sl.len,hb⟩
theorem resU_r {os:List Ob} {n:Nat} {w w':World} {e:Ending} (h:ResR os n w e w'):ResU (faultL os) (rrL os) w e w':=by
 unfold rrL
 rcases h with ⟨h,rfl,hb⟩ | ⟨h,a,c,rs,rfl,hp,hr,hb⟩
 ·rw [if_neg h];exact ⟨none,0,0,[],rfl,rows_nil _,rfl,rfl,hb⟩
 ·rw [if_pos h];exact ⟨_,_,_,rs,by rw [h];rfl,hp,hr,by rw [<-hr,List.length_map];exact hp.sl.len,hb⟩
theorem rr_small (os:List Ob):(rrL os).length<=1000000/\∀ x ∈ rrL os,x.length<=1000000:=by
 unfold rrL
 by_cases h:faultL os=flZ
 ·rw [if_pos h]
  have hc:checkL os=0:=by
   apply Classical.byContradiction
   intro hc
   rw [fault_ck hc] at h
   exact hc (congrArg Flt.code h)
  obtain ⟨h1,h2⟩:=checkL_zero.1 hc
  unfold rowsL
  refine ⟨by rw [rowsA_len,List.length_map];omega,fun x hx=>?_⟩
  obtain ⟨i,hi⟩:=List.getElem?_of_mem hx
  rw [rowsA_get,List.getElem?_map] at hi
  cases ho:os[i]? with
  | none=>rw [ho] at hi;cases hi
  | some o=>
   rw [ho] at hi
   simp only [Option.map_some,Option.some.injEq] at hi
   rw [<-hi,List.length_map]
   have:=(isO_syms (h2 o (List.mem_of_getElem? ho))).2.1
   omega
 ·rw [if_neg h];exact ⟨by simp,fun x hx=>by cases hx⟩
theorem sameRP_refl {L:List (List Pl)} {w w':World} {e:Ending} (h:SameRP L L w e w'):RetB (.bool true) w e w':=by
 obtain ⟨r,rfl,hr,hb⟩:=h
 obtain rfl:r=true:=hr.2 rfl
 exact ⟨rfl,hb⟩
theorem SymDoes_any (a:Option Addr) (n c:Nat) (Os:List Ox) (N:ByteArray) (hN:N.size<=maxLen) (w:World) (hO:OS w w.heap.size a n Os) (hT:TabP w):
  Calls Tryz.prog 4 #[.slice a n c,.string N] w (RetB (.bool true) w):=by
 have HBg:=Lib.hid (sBigF_any a n c Os w hO)
 have H1:Hid (∀ u,Below w.heap.size w u->Calls Tryz.prog 19 #[.slice a n c] u (ResU (faultL (Os.map obOf)) (rrL (Os.map obOf)) u)):=Lib.hid fun u hu=>(resolve_any a n c Os u (hO.next hu) (hT.next hu)).mono fun e w' h=>resU_p h
 have H2:Hid ((∀ o ∈ Os,FewO o.L o.l)->∀ u,Below w.heap.size w u->Calls Tryz.prog 20 #[.slice a n c] u (ResU (faultL (Os.map obOf)) (rrL (Os.map obOf)) u)):=Lib.hid fun hF u hu=>(rResolve_any a n c Os u (hO.next hu) hF).mono fun e w' h=>resU_r h
 have H3:Hid (∀ u,Below w.heap.size w u->Calls Tryz.prog 21 #[.slice a n c,.string N] u (FstQ ((findO (Os.map obOf) N.data.toList).getD plZ).obj ((findO (Os.map obOf) N.data.toList).getD plZ).sec ((findO (Os.map obOf) N.data.toList).getD plZ).off (findO (Os.map obOf) N.data.toList).isSome u)):=Lib.hid fun u hu=>sFind_any a n c Os N hN u (hO.next hu) (hT.next hu)
 have H4:Hid ((∀ o ∈ Os,FewO o.L o.l)->∀ u,Below w.heap.size w u->Calls Tryz.prog 22 #[.slice a n c,.string N] u (FstQ ((findO (Os.map obOf) N.data.toList).getD plZ).obj ((findO (Os.map obOf) N.data.toList).getD plZ).sec ((findO (Os.map obOf) N.data.toList).getD plZ).off (findO (Os.map obOf) N.data.toList).isSome u)):=Lib.hid fun hF u hu=>rFind_any a n c Os N u (hO.next hu) hF
 have H5:Hid (∀ u,Below w.heap.size w u->Calls Tryz.prog 23 #[] u (RetB (.bool true) u)):=Lib.hid fun u hu=>resolved_is u (hT.next hu)
 have H6:Hid (∀ (u:World) (a1 a2:Option Addr) (m1 m2 c1 c2:Nat) (r1 r2:List Rw),PRows u a1 m1 r1->PRows u a2 m2 r2->r1.map (·.l)=rrL (Os.map obOf)->r2.map (·.l)=rrL (Os.map obOf)->m1=(rrL (Os.map obOf)).length->m2=(rrL (Os.map obOf)).length->Calls Tryz.prog 24 #[.slice a1 m1 c1,.slice a2 m2 c2] u (RetB (.bool true) u)):=Lib.hid fun u a1 a2 m1 m2 c1 c2 r1 r2 p1 p2 e1 e2 l1 l2=>by
  obtain ⟨s1,s2⟩:=rr_small (Os.map obOf)
  have:=same20_any a1 a2 m1 m2 c1 c2 r1 r2 u (by omega) (by omega) (rows_lens e1 1000000 s2) (rows_lens e2 1000000 s2) p1 p2
  rw [e1,e2] at this
  exact this.mono fun e w' h=>sameRP_refl h
 have H7:Hid (∀ u,Below w.heap.size w u->Calls Tryz.prog 25 #[.slice a n c] u (RetB (.int .i64 (checkL (Os.map obOf))) u)):=Lib.hid fun u hu=>check_any a n c Os u (hO.next hu) (hT.next hu)
 have H8:Hid ((∀ o ∈ Os,FewO o.L o.l)->∀ u,Below w.heap.size w u->Calls Tryz.prog 26 #[.slice a n c] u (RetB (.int .i64 (checkL (Os.map obOf))) u)):=Lib.hid fun hF u hu=>rCheck_any a n c Os u (hO.next hu) hF
 have hfe:=eql_fl (faultL (Os.map obOf)) (faultL (Os.map obOf))
 rw [sameFl_iff.2 rfl] at hfe
 have hpe:=eql_pl ((findO (Os.map obOf) N.data.toList).getD plZ) ((findO (Os.map obOf) N.data.toList).getD plZ)
 rw [samePl_iff.2 rfl] at hpe
 generalize checkL (Os.map obOf)=ck at*
 generalize rrL (Os.map obOf)=rr at*
 generalize faultL (Os.map obOf)=R at*
 generalize (findO (Os.map obOf) N.data.toList).isSome=bb at*
 generalize (findO (Os.map obOf) N.data.toList).getD plZ=P at*
 obtain ⟨rc,ro,rs⟩:=R
 obtain ⟨po,ps,pf⟩:=P
 unfold ResU at H1 H2
 simp only [] at H1 H2 H3 H4
 simp only [flW,plW] at hfe hpe
 clear hO hT
 go_enter Tryz.func4,Tryz.ntmps4
 go_wp2_with fail
 refine HBg.out.mono ?_
 rintro e u ⟨r,rfl,hr,hb⟩
 have HB:=Lib.hid hb
 clear hb
 cases r
 rotate_left
 ·go_wp2
  go_ret
  exact ⟨rfl,HB.out⟩
 have HF:=Lib.hid (hr rfl)
 clear hr
 have hNi:(N.size:Int)<=9223372036854775807:=by unfold maxLen at hN;omega
 by_cases hl:(100:Int) < (N.size:Int)
 ·go_wp2
  go_ret
  exact ⟨rfl,HB.out⟩
 have H2':=Lib.hid (H2.out HF.out)
 have H4':=Lib.hid (H4.out HF.out)
 have H8':=Lib.hid (H8.out HF.out)
 clear H2 H4 H8 HF
 go_wp2_with fail
 refine (H1.out _ HB.out).mono ?_
 rintro e u1 ⟨a1,m1,c1,r1,rfl,hp,hq,hm,hb⟩
 replace HB:=Lib.hid (after HB.out hb)
 have HQ1:=Lib.hid hq
 have HM1:=Lib.hid hm
 have HP1:=Lib.hid hp
 clear hb hp hq hm
 obtain ⟨V1,hV⟩:∃ V,V=u1.alloc (.cells #[.int .i64 rc,.int .i64 ro,.int .i64 rs] 42):=⟨_,rfl⟩
 have hb:Below u1.heap.size u1 V1:=by rw [hV];exact lit_below _ _
 obtain ⟨X1,hX⟩:∃ X,X=u1.heap.size:=⟨_,rfl⟩
 have HX1:=Lib.hid hX.symm
 have HF1:Hid (RB V1 X1 #[.int .i64 rc,.int .i64 ro,.int .i64 rs] 42):=Lib.hid (by rw [hV,hX];exact rb_new _ _ _)
 have HV1:=Lib.hid hV.symm
 replace HB:=Lib.hid (after HB.out hb)
 replace HP1:=Lib.hid (HP1.out.next hb)
 clear hb hV hX
 go_wp2_with fail
 rw [HV1.out,HX1.out]
 refine (H2'.out _ HB.out).mono ?_
 rintro e u2 ⟨a2,m2,c2,r2,rfl,hp,hq,hm,hb⟩
 replace HB:=Lib.hid (after HB.out hb)
 replace HP1:=Lib.hid (HP1.out.next hb)
 replace HF1:=Lib.hid (HF1.out.next hb)
 have HQ2:=Lib.hid hq
 have HM2:=Lib.hid hm
 have HP2:=Lib.hid hp
 clear hb hp hq hm HV1 HX1
 obtain ⟨V2,hV⟩:∃ V,V=u2.alloc (.cells #[.int .i64 rc,.int .i64 ro,.int .i64 rs] 42):=⟨_,rfl⟩
 have hb:Below u2.heap.size u2 V2:=by rw [hV];exact lit_below _ _
 obtain ⟨X2,hX⟩:∃ X,X=u2.heap.size:=⟨_,rfl⟩
 have HX2:=Lib.hid hX.symm
 have HF2:Hid (RB V2 X2 #[.int .i64 rc,.int .i64 ro,.int .i64 rs] 42):=Lib.hid (by rw [hV,hX];exact rb_new _ _ _)
 have HV2:=Lib.hid hV.symm
 replace HB:=Lib.hid (after HB.out hb)
 replace HP1:=Lib.hid (HP1.out.next hb)
 replace HF1:=Lib.hid (HF1.out.next hb)
 replace HP2:=Lib.hid (HP2.out.next hb)
 clear hb hV hX
 go_wp2_with fail
 rw [HV2.out,HX2.out]
 refine (H3.out _ HB.out).mono ?_
 rintro e u3 ⟨rfl,hb⟩
 replace HB:=Lib.hid (after HB.out hb)
 replace HP1:=Lib.hid (HP1.out.next hb)
 replace HF1:=Lib.hid (HF1.out.next hb)
 replace HP2:=Lib.hid (HP2.out.next hb)
 replace HF2:=Lib.hid (HF2.out.next hb)
 clear hb HV2 HX2
 obtain ⟨V3,hV⟩:∃ V,V=u3.alloc (.cells #[.int .i64 po,.int .i64 ps,.int .i64 pf] 46):=⟨_,rfl⟩
 have hb:Below u3.heap.size u3 V3:=by rw [hV];exact lit_below _ _
 obtain ⟨X3,hX⟩:∃ X,X=u3.heap.size:=⟨_,rfl⟩
 have HX3:=Lib.hid hX.symm
 have HG1:Hid (RB V3 X3 #[.int .i64 po,.int .i64 ps,.int .i64 pf] 46):=Lib.hid (by rw [hV,hX];exact rb_new _ _ _)
 have HV3:=Lib.hid hV.symm
 replace HB:=Lib.hid (after HB.out hb)
 replace HP1:=Lib.hid (HP1.out.next hb)
 replace HF1:=Lib.hid (HF1.out.next hb)
 replace HP2:=Lib.hid (HP2.out.next hb)
 replace HF2:=Lib.hid (HF2.out.next hb)
 clear hb hV hX
 go_wp2_with fail
 rw [HV3.out,HX3.out]
 refine (H4'.out _ HB.out).mono ?_
 rintro e u4 ⟨rfl,hb⟩
 replace HB:=Lib.hid (after HB.out hb)
 replace HP1:=Lib.hid (HP1.out.next hb)
 replace HF1:=Lib.hid (HF1.out.next hb)
 replace HP2:=Lib.hid (HP2.out.next hb)
 replace HF2:=Lib.hid (HF2.out.next hb)
 replace HG1:=Lib.hid (HG1.out.next hb)
 clear hb HV3 HX3
 obtain ⟨V4,hV⟩:∃ V,V=u4.alloc (.cells #[.int .i64 po,.int .i64 ps,.int .i64 pf] 46):=⟨_,rfl⟩
 have hb:Below u4.heap.size u4 V4:=by rw [hV];exact lit_below _ _
 obtain ⟨X4,hX⟩:∃ X,X=u4.heap.size:=⟨_,rfl⟩
 have HX4:=Lib.hid hX.symm
 have HG2:Hid (RB V4 X4 #[.int .i64 po,.int .i64 ps,.int .i64 pf] 46):=Lib.hid (by rw [hV,hX];exact rb_new _ _ _)
 have HV4:=Lib.hid hV.symm
 replace HB:=Lib.hid (after HB.out hb)
 replace HP1:=Lib.hid (HP1.out.next hb)
 replace HF1:=Lib.hid (HF1.out.next hb)
 replace HP2:=Lib.hid (HP2.out.next hb)
 replace HF2:=Lib.hid (HF2.out.next hb)
 replace HG1:=Lib.hid (HG1.out.next hb)
 clear hb hV hX
 go_wp2_with fail
 rw [HV4.out,HX4.out]
 refine (H5.out _ HB.out).mono ?_
 rintro e u5 ⟨rfl,hb⟩
 replace HB:=Lib.hid (after HB.out hb)
 replace HP1:=Lib.hid (HP1.out.next hb)
 replace HF1:=Lib.hid (HF1.out.next hb)
 replace HP2:=Lib.hid (HP2.out.next hb)
 replace HF2:=Lib.hid (HF2.out.next hb)
 replace HG1:=Lib.hid (HG1.out.next hb)
 replace HG2:=Lib.hid (HG2.out.next hb)
 clear hb HV4 HX4
 go_wp2_with fail
 refine (H6.out u5 a1 a2 m1 m2 c1 c2 r1 r2 HP1.out HP2.out HQ1.out HQ2.out HM1.out HM2.out).mono ?_
 rintro e u6 ⟨rfl,hb⟩
 replace HB:=Lib.hid (after HB.out hb)
 replace HF1:=Lib.hid (HF1.out.next hb)
 replace HF2:=Lib.hid (HF2.out.next hb)
 replace HG1:=Lib.hid (HG1.out.next hb)
 replace HG2:=Lib.hid (HG2.out.next hb)
 clear hb HP1 HP2 HQ1 HQ2 HM1 HM2
 have k0:u6.cell? ⟨X1,0,none⟩=some (.int .i64 rc):=HF1.out.cell
 have k1:u6.cell? ⟨X1,1,none⟩=some (.int .i64 ro):=HF1.out.cell
 have k2:u6.cell? ⟨X1,2,none⟩=some (.int .i64 rs):=HF1.out.cell
 have l0:u6.cell? ⟨X2,0,none⟩=some (.int .i64 rc):=HF2.out.cell
 have l1:u6.cell? ⟨X2,1,none⟩=some (.int .i64 ro):=HF2.out.cell
 have l2:u6.cell? ⟨X2,2,none⟩=some (.int .i64 rs):=HF2.out.cell
 have n0:u6.cell? ⟨X3,0,none⟩=some (.int .i64 po):=HG1.out.cell
 have n1:u6.cell? ⟨X3,1,none⟩=some (.int .i64 ps):=HG1.out.cell
 have n2:u6.cell? ⟨X3,2,none⟩=some (.int .i64 pf):=HG1.out.cell
 have o0:u6.cell? ⟨X4,0,none⟩=some (.int .i64 po):=HG2.out.cell
 have o1:u6.cell? ⟨X4,1,none⟩=some (.int .i64 ps):=HG2.out.cell
 have o2:u6.cell? ⟨X4,2,none⟩=some (.int .i64 pf):=HG2.out.cell
 have hbb:(bb == bb)=true:=by simp
 go_wp2_with fail
 refine (H7.out _ HB.out).mono ?_
 rintro e u7 ⟨rfl,hb⟩
 replace HB:=Lib.hid (after HB.out hb)
 clear hb k0 k1 k2 l0 l1 l2 n0 n1 n2 o0 o1 o2 HF1 HF2 HG1 HG2 hfe hpe hbb
 go_wp2_with fail
 refine (H8'.out _ HB.out).mono ?_
 rintro e u8 ⟨rfl,hb⟩
 replace HB:=Lib.hid (after HB.out hb)
 clear hb
 have hcc:(ck == ck)=true:=by simp
 go_wp2
 go_ret
 exact ⟨rfl,HB.out⟩
theorem SymDoes_walk (w:World) (a:Option Addr) (n c:Nat) (Os:List Ox) (hO:OS w w.heap.size a n Os) (_h:a=none->n=0/\c=0) (N:ByteArray) (hN:N.size<=reachBytes) (hT:TabP w):
  Calls Tryz.prog 4 #[.slice a n c,.string N] w (RetB (.bool true) w):=
 SymDoes_any a n c Os N (by unfold reachBytes at hN;unfold maxLen;omega) w hO hT
end Go.Proofs.YthkolmebokfagaaGreatDoor
