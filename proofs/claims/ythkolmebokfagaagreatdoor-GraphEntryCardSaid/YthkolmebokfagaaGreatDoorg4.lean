/- The document's graph: Flat, what its loops keep; where the objects don't agree. The document's graph: Flat. -/
import Derived.Test.YthkolmebokfagaaGreatDoorg3
set_option maxRecDepth 100000
set_option maxHeartbeats 6000000
set_option linter.unusedVariables false
set_option linter.unusedSimpArgs false
namespace Go.Proofs.YthkolmebokfagaaGreatDoor
open Go.ChangeShapes Go.WideShapes Go.Deep Go.RowKit
theorem ownsF_next {w w':World} {base:Nat} {e:TypeId} {size:Nat} {v:Value} {n:Nat} {xs:List Value} (h:w.ownsRow base e size v n xs) (hb:Below w.heap.size w w'):w'.ownsRow base e size v n xs:=
 ownsRow_same h fun g hg=>hb.block g (ownsRow_block h hg).2
theorem ownsF_set {w:World} {base:Nat} {e:TypeId} {size:Nat} {v:Value} {n:Nat} {xs:List Value} {X o:Nat} {y:Value} (h:w.ownsRow base e size v n xs) (hX:X < base):(w.setCell ⟨X,o,none⟩ y).ownsRow base e size v n xs:=
 ownsRow_setCell_below h (a:=⟨X,o,none⟩) hX y
structure SU (w u:World) (l:List Ms) (a:Option Addr) (c:Nat):Prop where
 oo:u.ownsRow w.heap.size 63 6 (.slice a l.length c) l.length (l.flatMap msC)
 kk:Below w.heap.size w u
theorem SU.grow {w u w2:World} {l:List Ms} {a a':Option Addr} {c c':Nat} {r:Ms} {C:Array Value} {T:TypeId} (h:SU w u l a c) (hown:w2.ownsRow w.heap.size 63 6 (.slice a' (l.length+1) c') (l.length+1) (l.flatMap msC ++ msC r))
  (hgrow:(u.alloc (.cells C T)).grownBy w2 (Value.slice a l.length c).ownBlock):SU w w2 (l ++ [r]) a' c':=by
 refine ⟨by simpa [List.flatMap_append] using hown,?_⟩
 exact (h.kk.alloc h.kk.size _).grown hgrow (by have:=h.kk.size;rw [World.size_alloc];omega) (fun j hj=>(h.oo.lt j hj).1)
theorem SU.next {w u v:World} {l:List Ms} {a:Option Addr} {c:Nat} (h:SU w u l a c) (hb:Below u.heap.size u v):SU w v l a c:=⟨ownsF_next h.oo hb,after h.kk hb⟩
theorem SU.nil (w:World):SU w w [] none 0:=⟨World.ownsRow_nil _ _ _ _,Below.refl _ _⟩
theorem SU.put3 {w u:World} {L:List Ms} {a:Option Addr} {c H:Nat} (h:SU w u L a c) (hH:H < w.heap.size) (x y z:Value):SL msC 6 (((u.setCell ⟨H,0,none⟩ x).setCell ⟨H,1,none⟩ y).setCell ⟨H,2,none⟩ z) (((u.setCell ⟨H,0,none⟩ x).setCell ⟨H,1,none⟩ y).setCell ⟨H,2,none⟩ z).heap.size a L.length L:=by
 obtain ⟨a',c',e,h',-⟩:=SL.ofOwns (enc:=msC) ms_len (by decide) (ownsF_set (o:=2) (y:=z) (ownsF_set (o:=1) (y:=y) (ownsF_set (o:=0) (y:=x) h.oo hH) hH) hH)
 injection e with e1 e2 e3
 subst e1
 exact h'
structure RU (wt u:World) (nm:List UInt8) (ki:Int) (kp:Bool) (al:Int) (dt:List UInt8) (rl:List Rl) (a:Option Addr) (c:Nat):Prop where
 xx:RB u wt.heap.size #[.string ⟨nm.toArray⟩,.int .i64 ki,.bool kp,.int .i64 al,.string ⟨dt.toArray⟩,.slice a rl.length c] 63
 oo:u.ownsRow (wt.heap.size+1) 119 4 (.slice a rl.length c) rl.length (rl.flatMap rlC)
 kk:Below wt.heap.size wt u
theorem RU.next {wt u v:World} {nm:List UInt8} {ki:Int} {kp:Bool} {al:Int} {dt:List UInt8} {rl:List Rl} {a:Option Addr} {c:Nat} (h:RU wt u nm ki kp al dt rl a c) (hb:Below u.heap.size u v):RU wt v nm ki kp al dt rl a c:=
 ⟨h.xx.next hb,ownsF_next h.oo hb,after h.kk hb⟩
theorem RU.push {wt u w2:World} {nm:List UInt8} {ki:Int} {kp:Bool} {al:Int} {dt:List UInt8} {rl:List Rl} {a a':Option Addr} {c c':Nat} {r:Rl} {C:Array Value} {T:TypeId} (h:RU wt u nm ki kp al dt rl a c)
  (hown:w2.ownsRow (wt.heap.size+1) 119 4 (.slice a' (rl.length+1) c') (rl.length+1) (rl.flatMap rlC ++ rlC r)) (hgrow:(u.alloc (.cells C T)).grownBy w2 (Value.slice a rl.length c).ownBlock):
  RU wt (w2.setCell ⟨wt.heap.size,5,none⟩ (.slice a' (rl.length+1) c')) nm ki kp al dt (rl ++ [r]) a' c':=by
 have hx:wt.heap.size < u.heap.size:=lt_of_block h.xx
 have hne:some wt.heap.size ≠ (Value.slice a rl.length c).ownBlock:=fun e=>by have:=(h.oo.lt wt.heap.size e.symm).1;omega
 have h2:RB w2 wt.heap.size #[.string ⟨nm.toArray⟩,.int .i64 ki,.bool kp,.int .i64 al,.string ⟨dt.toArray⟩,.slice a rl.length c] 63:=
  (hgrow.block _ (by rw [World.size_alloc];omega) hne).trans (h.xx.next (lit_below _ _))
 refine ⟨?_,?_,?_⟩
 ·have:=h2.set (j:=5) (.slice a' (rl.length+1) c')
  rw [List.length_append]
  exact this
 ·have:=ownsF_set (X:=wt.heap.size) (o:=5) (y:=.slice a' (rl.length+1) c') hown (by omega)
  simpa [List.flatMap_append] using this
 ·have hk:Below wt.heap.size wt w2:=(h.kk.alloc h.kk.size _).grown hgrow (by have:=h.kk.size;rw [World.size_alloc];omega) (fun j hj=>by have:=(h.oo.lt j hj).1;omega)
  exact hk.setCell (p:=⟨wt.heap.size,5,none⟩) (Nat.le_refl _) _
theorem rb_put3 {u:World} {X H:Nat} {cs:Array Value} {T:TypeId} (h:RB u X cs T) (hne:X ≠ H) (x y z:Value):RB (((u.setCell ⟨H,0,none⟩ x).setCell ⟨H,1,none⟩ y).setCell ⟨H,2,none⟩ z) X cs T:=by
 unfold RB at*
 rw [Below.heap_setCell _ _ _ _ (by first | exact hne | exact Ne.symm hne),Below.heap_setCell _ _ _ _ (by first | exact hne | exact Ne.symm hne),Below.heap_setCell _ _ _ _ (by first | exact hne | exact Ne.symm hne)]
 exact h
def FlatP (Os:List Ox) (w:World) (e:Ending) (w':World):Prop:=
 (∃ cd x y,cd ≠ 0/\e=.returned (.tuple #[.slice none 0 0,.agg #[.int .i64 cd,.int .i64 x,.int .i64 y]])/\Below w.heap.size w w')\/
 (∃ a c L,e=.returned (.tuple #[.slice a L.length c,.agg #[.int .i64 0,.int .i64 0,.int .i64 0]])/\SL msC 6 w' w'.heap.size a L.length L/\L.map knM=catKN Os/\Below w.heap.size w w')
theorem fault_nz {os:List Ob} (h:faultL os ≠ flZ):(faultL os).code ≠ 0:=by
 by_cases hc:checkL os=0
 ·cases htw:(flatO os).find? (twiceB (plcL (flatO os))) with
  | some x=>rw [fault_tw hc htw];simp [fltAt]
  | none=>
   rw [fault_lo hc htw] at h ⊢
   cases hl:(flatO os).find? (lostB (plcL (flatO os))) with
   | some x=>simp [fltAt]
   | none=>rw [hl] at h;exact absurd rfl h
 ·rw [fault_ck hc];exact hc
theorem zeroFlt (w:World):(zeroValue 42).run Tryz.prog w=.ok (.agg #[.int .i64 0,.int .i64 0,.int .i64 0]) w:=by kernel_rfl
theorem put_flt {w u:World} {H:Nat} {T:TypeId} {x y z:Value} (p q r:Int) (hb:Below w.heap.size w u) (hH:w.heap.size<=H) (h:RB u H #[x,y,z] T):
  RB (((u.setCell ⟨H,0,none⟩ (.int .i64 p)).setCell ⟨H,1,none⟩ (.int .i64 q)).setCell ⟨H,2,none⟩ (.int .i64 r)) H #[.int .i64 p,.int .i64 q,.int .i64 r] T/\
  Below w.heap.size w (((u.setCell ⟨H,0,none⟩ (.int .i64 p)).setCell ⟨H,1,none⟩ (.int .i64 q)).setCell ⟨H,2,none⟩ (.int .i64 r)):=
 ⟨((h.set (j:=0) (.int .i64 p)).set (j:=1) (.int .i64 q)).set (j:=2) (.int .i64 r),((hb.setCell (p:=⟨H,0,none⟩) hH _).setCell (p:=⟨H,1,none⟩) hH _).setCell (p:=⟨H,2,none⟩) hH _⟩
theorem flat_bad (a:Option Addr) (n c:Nat) (Os:List Ox) (w:World) (hO:OS w w.heap.size a n Os) (hT:TabP w) (hf:faultL (Os.map obOf) ≠ flZ):
  Calls Tryz.prog 30 #[.slice a n c] w (FlatP Os w):=by
 have HR:Hid (∀ u,Below w.heap.size w u->Calls Tryz.prog 19 #[.slice a n c] u (fun e w'=>e=.returned (.tuple #[.slice none 0 0,flV (faultL (Os.map obOf))])/\Below u.heap.size u w')):=Lib.hid fun u hu=>(resolve_any a n c Os u (hO.next hu) (hT.next hu)).mono fun e w' h=>by
  rcases h with ⟨-,h1,h2⟩ | ⟨h1,-⟩
  ·exact ⟨h1,h2⟩
  ·exact absurd h1 hf
 have hnz:=fault_nz hf
 clear hO hT hf
 generalize faultL (Os.map obOf)=R at*
 obtain ⟨rc,ro,rs⟩:=R
 simp only [flV] at HR
 simp only [] at hnz
 have HNz:=Lib.hid hnz
 have hnb:(rc != 0)=true:=by rw [bne_iff_ne];exact hnz
 obtain ⟨H,hH⟩:∃ H,H=w.heap.size:=⟨_,rfl⟩
 obtain ⟨W,hW⟩:∃ W,W=w.alloc (.cells #[.int .i64 0,.int .i64 0,.int .i64 0] 42):=⟨_,rfl⟩
 have HB0:Hid (Below w.heap.size w W):=Lib.hid (by rw [hW];exact lit_below w _)
 have HR0:Hid (RB W H #[.int .i64 0,.int .i64 0,.int .i64 0] 42):=Lib.hid (by rw [hW,hH];exact rb_new w _ _)
 have HHw:Hid (w.heap.size<=H):=Lib.hid (by omega)
 have HH:=Lib.hid hH.symm
 have HW:=Lib.hid hW.symm
 have hzf:=zeroFlt
 clear hH hW hnz
 go_enter Tryz.func30,Tryz.ntmps30
 go_wp2_with fail
 rw [HW.out,HH.out]
 refine (HR.out _ HB0.out).mono ?_
 rintro e u ⟨rfl,hb⟩
 have HB1:=Lib.hid (after HB0.out hb)
 have HR1:=Lib.hid (HR0.out.next hb)
 clear hb
 obtain ⟨V,hV⟩:∃ V,V=u.alloc (.cells #[.int .i64 rc,.int .i64 ro,.int .i64 rs] 42):=⟨_,rfl⟩
 obtain ⟨X,hX⟩:∃ X,X=u.heap.size:=⟨_,rfl⟩
 have HB2:Hid (Below w.heap.size w V):=Lib.hid (by rw [hV];exact after HB1.out (lit_below _ _))
 have HR2:Hid (RB V H #[.int .i64 0,.int .i64 0,.int .i64 0] 42):=Lib.hid (by rw [hV];exact HR1.out.next (lit_below _ _))
 have HX2:Hid (RB V X #[.int .i64 rc,.int .i64 ro,.int .i64 rs] 42):=Lib.hid (by rw [hV,hX];exact rb_new _ _ _)
 have x0:V.cell? ⟨X,0,none⟩=some (.int .i64 rc):=HX2.out.cell
 rw [hV,hX] at x0
 have HXH:Hid (X ≠ H):=Lib.hid (by have:=lt_of_block HR1.out;omega)
 have HVe:=Lib.hid hV.symm
 have HXe:=Lib.hid hX.symm
 clear hV hX
 go_wp2_with fail
 rw [HVe.out,HXe.out]
 have HXs:=Lib.hid (rb_put3 HX2.out HXH.out (.int .i64 rc) (.int .i64 ro) (.int .i64 rs))
 have HPt:=Lib.hid (put_flt rc ro rs HB2.out HHw.out HR2.out)
 refine wp_region_held_drew (S:=fun v=>v.cell? ⟨X,0,none⟩=some (.int .i64 rc)/\v.cell? ⟨X,1,none⟩=some (.int .i64 ro)/\v.cell? ⟨X,2,none⟩=some (.int .i64 rs)) (by kernel_rfl) ⟨HX2.out.cell,HX2.out.cell,HX2.out.cell⟩ (fun hHeld=>?_)
 refine tk 0 ?_ rfl hHeld ?_ ?_
 rotate_left 1
 ·intro w hS;obtain ⟨_,_,_⟩:=hS;go_simp;(try with_reducible rfl)
 (try simp only [Act.put,List.setIfInBounds_toArray,List.set_cons_zero,List.set_cons_succ])
 refine tk 1 ?_ rfl hHeld ?_ ?_
 rotate_left 1
 ·intro w hS;obtain ⟨_,_,_⟩:=hS;go_simp;(try with_reducible rfl)
 (try simp only [Act.put,List.setIfInBounds_toArray,List.set_cons_zero,List.set_cons_succ])
 have p0:V.cell? ⟨H,0,none⟩=some (.int .i64 0):=HR2.out.cell
 have p1:V.cell? ⟨H,1,none⟩=some (.int .i64 0):=HR2.out.cell
 have p2:V.cell? ⟨H,2,none⟩=some (.int .i64 0):=HR2.out.cell
 have f0:V.frozen? ⟨H,0,none⟩=false:=HR2.out.frozen
 have f1:V.frozen? ⟨H,1,none⟩=false:=HR2.out.frozen
 have f2:V.frozen? ⟨H,2,none⟩=false:=HR2.out.frozen
 refine rd 2 rfl (fun K hK=>?_)
 go_simp
 refine hK.out _ _ (⟨HXs.out.cell,HXs.out.cell,HXs.out.cell⟩) (fun hHeld2=>?_)
 clear hK K
 refine wpAnyH_done (by kernel_rfl) ?_ _
 go_wp2
 refine bodyPost_ret (results_two_cell (P:=Tryz.prog) rfl _ _ H 42 _ (0,0) _ _ rfl HPt.out.1 Tryz.underlying42 rfl (by kernel_rfl) rfl) rfl ?_
 exact Or.inl ⟨rc,ro,rs,HNz.out,rfl,HPt.out.2.drew⟩
end Go.Proofs.YthkolmebokfagaaGreatDoor
namespace Go.Proofs.YthkolmebokfagaaGreatDoor
open Go.ChangeShapes Go.WideShapes Go.Deep Go.RowKit
theorem keepc {w v:World} {p:Addr} {x:Value} (hb:Below w.heap.size w v) (h:w.cell? p=some x):v.cell? p=some x:=(World.cell?_of_block (hb.block _ (World.block_lt_of_cell? w p h))).trans h
theorem RU.mk0 (wt:World) (nm:List UInt8) (ki:Int) (kp:Bool) (al:Int) (dt:List UInt8):RU wt (wt.alloc (.cells #[.string ⟨nm.toArray⟩,.int .i64 ki,.bool kp,.int .i64 al,.string ⟨dt.toArray⟩,.slice none 0 0] 63)) nm ki kp al dt [] none 0:=
 ⟨rb_new _ _ _,World.ownsRow_nil _ _ _ _,lit_below _ _⟩
theorem ms_ones (m:Ms):∀ u ∈ msC m,u.oneCell'=true:=by
 intro u hu
 simp only [msC,List.mem_cons,List.not_mem_nil,or_false] at hu
 rcases hu with rfl | rfl | rfl | rfl | rfl | rfl <;> rfl
theorem info_unitF:(Tryz.prog.info? 63).map (fun i=>(i.zero,i.size,i.bytes))=some (some (.agg #[.string ⟨#[]⟩,.int .i64 0,.bool false,.int .i64 0,.string ⟨#[]⟩,.slice none 0 0]),6,80):=by kernel_rfl
theorem flat_ok (a:Option Addr) (n c:Nat) (Os:List Ox) (w:World) (hO:OS w w.heap.size a n Os) (hT:TabP w) (hf:faultL (Os.map obOf)=flZ):
  Calls Tryz.prog 30 #[.slice a n c] w (FlatP Os w):=by
 obtain ⟨i0,hi,hz0,hz1,hz2⟩:=info_parts info_ref
 obtain ⟨i1,hj,hy0,hy1,hy2⟩:=info_parts info_unitF
 have hc:checkL (Os.map obOf)=0:=by
  apply Classical.byContradiction
  intro hc
  rw [fault_ck hc] at hf
  exact hc (congrArg Flt.code hf)
 have hck:=checkL_zero.1 hc
 have hnl:=hO.sl.len
 have hn8:n<=8:=by have:=hck.1;rw [List.length_map] at this;omega
 have hs32:∀ o ∈ Os,o.L.length<=32:=fun o ho=>by have:=(isO_syms (hck.2 (obOf o) (List.mem_map.2 ⟨o,ho,rfl⟩))).2.2;simpa [obOf] using this
 have HS32:=Lib.hid hs32
 have HR:Hid (∀ u,Below w.heap.size w u->Calls Tryz.prog 19 #[.slice a n c] u (fun e w'=>∃ Z rs,e=.returned (.tuple #[.slice (some ⟨Z,0,none⟩) n n,.agg #[.int .i64 0,.int .i64 0,.int .i64 0]])/\PRows w' (some ⟨Z,0,none⟩) n rs/\rs.map (·.l)=rowsL (Os.map obOf)/\Below u.heap.size u w')):=Lib.hid fun u hu=>(resolve_any a n c Os u (hO.next hu) (hT.next hu)).mono fun e w' h=>by
  rcases h with ⟨h1,-⟩ | ⟨-,Z,rs,h1,h2,h3,h4⟩
  ·exact absurd hf h1
  ·exact ⟨Z,rs,h1,h2,h3,h4⟩
 have HBs:Hid (∀ u,Below w.heap.size w u->Calls Tryz.prog 60 #[.slice a n c] u (BasP (lensO Os) u)):=Lib.hid fun u hu=>bases_any a n c Os u (hO.next hu) hn8 hs32
 have HRowAt:Hid (∀ (rs:List Rw),rs.map (·.l)=rowsL (Os.map obOf)->∀ (i:Nat) (r:Rw) (o:Ox),rs[i]?=some r->Os[i]?=some o->r.l.length=o.l.length/\∀ p ∈ r.l,PlIn n p):=Lib.hid fun rs hrs i r o hr ho=>by
  have h1:(rowsL (Os.map obOf))[i]?=some r.l:=by rw [<-hrs,List.getElem?_map,hr];rfl
  obtain ⟨o',h2,h3,h4⟩:=row_in hf h1
  rw [ob_get ho] at h2
  cases h2
  refine ⟨h3,fun p hp=>?_⟩
  have:=h4 p hp
  rwa [List.length_map,<-hnl] at this
 have HNeed:Hid (∀ o ∈ Os,∀ (q:Nat) (m:Ms),o.L[q]?=some m->m.sc.rels.length<=64/\∀ r ∈ m.sc.rels,0<=r.sym/\r.sym < (o.l.length:Int)):=Lib.hid fun o ho q m hm=>by
  have hiso:=hck.2 (obOf o) (List.mem_map.2 ⟨o,ho,rfl⟩)
  have hsec:(obOf o).secs[q]?=some m.sc:=by show (o.L.map (·.sc))[q]?=_;rw [List.getElem?_map,hm];rfl
  refine ⟨?_,fun r hr=>⟨(need_in hiso hsec hr).1,(need_in hiso hsec hr).2.1⟩⟩
  cases hrl:m.sc.rels with
  | nil=>simp
  | cons r t=>rw [<-hrl];exact (need_in hiso hsec (r:=r) (by rw [hrl];simp)).2.2
 have HLl:Hid ((lensO Os).length=n):=Lib.hid (by unfold lensO;rw [List.length_map,hnl])
 have HCat:Hid (∀ k,k<=n->(catKN (Os.take k)).length<=256):=Lib.hid fun k hk=>by
  rw [catKN_len]
  have:=sum_small (l:=lensO (Os.take k)) (c:=8) (fun x hx=>by
   unfold lensO at hx
   obtain ⟨o,ho,rfl⟩:=List.mem_map.1 hx
   exact hs32 o (List.mem_of_mem_take ho)) (by unfold lensO;rw [List.length_map,List.length_take];omega)
  omega
 have HLn:=Lib.hid hnl
 have HO:=Lib.hid hO
 have HN8:=Lib.hid hn8
 have hni:(n:Int)<=8:=by omega
 clear hO hT hf hc hck hs32 hnl hn8
 obtain ⟨H,hH⟩:∃ H,H=w.heap.size:=⟨_,rfl⟩
 obtain ⟨W0,hW⟩:∃ W,W=w.alloc (.cells #[.int .i64 0,.int .i64 0,.int .i64 0] 42):=⟨_,rfl⟩
 have HB0:Hid (Below w.heap.size w W0):=Lib.hid (by rw [hW];exact lit_below w _)
 have HR0:Hid (RB W0 H #[.int .i64 0,.int .i64 0,.int .i64 0] 42):=Lib.hid (by rw [hW,hH];exact rb_new w _ _)
 have HHw:Hid (w.heap.size<=H):=Lib.hid (by omega)
 have HH:=Lib.hid hH.symm
 have HW:=Lib.hid hW.symm
 have hzf:=zeroFlt
 have hzp:=zeroPlace
 clear hH hW
 go_enter Tryz.func30,Tryz.ntmps30
 go_wp2_with fail
 rw [HW.out,HH.out]
 refine (HR.out _ HB0.out).mono ?_
 rintro e u ⟨Z,rs,rfl,hp,hr,hb⟩
 have HB1:=Lib.hid (after HB0.out hb)
 have HR1:=Lib.hid (HR0.out.next hb)
 have HRA:=Lib.hid (HRowAt.out rs hr)
 have HP1:=Lib.hid hp
 clear hb hr hp HR HRowAt
 obtain ⟨V,hV⟩:∃ V,V=u.alloc (.cells #[.int .i64 0,.int .i64 0,.int .i64 0] 42):=⟨_,rfl⟩
 have hbv:Below u.heap.size u V:=by rw [hV];exact lit_below _ _
 have HB2:=Lib.hid (after HB1.out hbv)
 have HR2:=Lib.hid (HR1.out.next hbv)
 have HP2:=Lib.hid (HP1.out.next hbv)
 have HVe:=Lib.hid hV.symm
 clear hbv hV
 go_wp2_with fail
 rw [HVe.out]
 refine (HBs.out _ HB2.out).mono ?_
 rintro e W ⟨ba,bc,rfl,hbs,hb⟩
 have HBW:=Lib.hid (after HB2.out hb)
 have HRW:=Lib.hid (HR2.out.next hb)
 have HPW:=Lib.hid (HP2.out.next hb)
 have HSW:=Lib.hid hbs
 rw [HLl.out] at HSW ⊢
 have HOW:=Lib.hid (HO.out.next HBW.out)
 have HHW:Hid (H < W.heap.size):=Lib.hid (lt_of_block HRW.out)
 clear hb hbs HB0 HB1 HB2 HR0 HR1 HR2 HP1 HP2 HVe HO HBs HW
 go_wp2_with fail
 go_loopw [7,29] (fun out i wr=>∃ (k q:Nat) (wx:World) (L:List Ms) (oa:Option Addr) (oc:Nat),wx=wr/\k<=n/\out=.slice oa q oc/\i=.int .i64 k/\Hid (q=L.length)/\Hid (SU W wx L oa oc)/\Hid (L.map knM=catKN (Os.take k))) (fun _ i _=>n - (intOf i).toNat)
 case atStart=>exact ⟨0,0,_,[],none,0,rfl,by omega,rfl,rfl,Lib.hid rfl,Lib.hid (SU.nil _),Lib.hid rfl⟩
 case round=>
  obtain ⟨k,q,wx,L,oa,oc,rfl,hk,rfl,rfl,HOq,HQ,HKn⟩:=hrel
  by_cases hlt:k < n
  ·have hlti:(k:Int) < (n:Int):=by omega
   have hkl:k < Os.length:=by have:=HLn.out;omega
   have hO1:=HOW.out.next HQ.out.kk
   obtain ⟨bb,off,hae,-,hcc⟩:=hO1.sl.cells (by intro e;rw [e] at hkl;simp at hkl)
   subst hae
   obtain ⟨c0,c1⟩:=ox_cells (fun j hj=>hcc k hkl j hj)
   obtain ⟨o,ho⟩:∃ o,o=Os[k]:=⟨_,rfl⟩
   have HOm:Hid (o ∈ Os):=Lib.hid (by rw [ho];exact List.getElem_mem hkl)
   have HOk:Hid (Os[k]?=some o):=Lib.hid (by rw [ho];exact List.getElem?_eq_getElem hkl)
   rw [<-ho] at c0 c1
   obtain ⟨on,hon⟩:∃ on,on=o.L.length:=⟨_,rfl⟩
   obtain ⟨om,hom⟩:∃ om,om=o.l.length:=⟨_,rfl⟩
   rw [<-hon] at c0
   rw [<-hom] at c1
   have HON:=Lib.hid hon
   have HOM:=Lib.hid hom
   have hoi:(on:Int)<=32:=by have:=HS32.out o HOm.out;omega
   obtain ⟨xa,hxa⟩:∃ xa,xa=o.a:=⟨_,rfl⟩
   have HXA:=Lib.hid hxa
   rw [<-hxa] at c0
   have HLt:=Lib.hid hlt
   have hb1:=lit_below wx (.cells #[.slice xa on o.c,.slice o.a2 om o.c2] 25)
   have HQ1:=Lib.hid (HQ.out.next hb1)
   clear hcc hkl hO1 ho hon hom hxa hlt hk hb1
   generalize o.c=xc at*
   generalize o.a2=xa2 at*
   generalize o.c2=xc2 at*
   go_wp2_with fail
   go_loopw [7,37] (fun out i wr=>∃ (j q:Nat) (wy:World) (L:List Ms) (oa:Option Addr) (oc:Nat),wy=wr/\j<=on/\out=.slice oa q oc/\i=.int .i64 j/\Hid (q=L.length)/\Hid (SU W wy L oa oc)/\Hid (L.map knM=catKN (Os.take k) ++ (o.L.take j).map knM)) (fun _ i _=>on - (intOf i).toNat)
   case atStart=>exact ⟨0,q,_,L,oa,oc,rfl,by omega,rfl,rfl,HOq,HQ1,Lib.hid (by rw [HKn.out];simp)⟩
   case round=>
    clear HQ HQ1 HKn HOq
    rename_i _ _ _ _ _ _ _
    obtain ⟨j,q,wy,L,oa,oc,rfl,hj,rfl,rfl,HOq,HQ,HKn⟩:=hrel
    by_cases hltj:j < on
    ·have hltji:(j:Int) < (on:Int):=by omega
     have hjl:j < o.L.length:=by rw [<-HON.out];exact hltj
     have hO1:=HOW.out.next HQ.out.kk
     have hs1:=hO1.s1 o HOm.out
     rw [<-HON.out,<-HXA.out] at hs1
     obtain ⟨b2,off2,hae2,-,hc2⟩:=hs1.cells (by intro e;rw [e] at hjl;simp at hjl)
     obtain ⟨d0,d1,d2,d3,d4,d5⟩:=ms_cells (fun q hq=>hc2 j hjl q hq)
     obtain ⟨m,hm⟩:∃ m,m=o.L[j]:=⟨_,rfl⟩
     have HMm:Hid (m ∈ o.L):=Lib.hid (by rw [hm];exact List.getElem_mem hjl)
     have HMj:Hid (o.L[j]?=some m):=Lib.hid (by rw [hm];exact List.getElem?_eq_getElem hjl)
     rw [<-hm] at d0 d1 d2 d3 d4 d5
     obtain ⟨⟨nm,ki,kp,al,dt,rels⟩,ra0,rc0⟩:=m
     simp only [] at d0 d1 d2 d3 d4 d5
     obtain ⟨nr,hnr⟩:∃ nr,nr=rels.length:=⟨_,rfl⟩
     rw [<-hnr] at d5
     have HNR:=Lib.hid hnr
     have HNd:=Lib.hid (HNeed.out o HOm.out j _ HMj.out)
     have hnr64:(nr:Int)<=64:=by have:=HNd.out.1;simp only [] at this;omega
     have HN64:Hid (nr<=64):=Lib.hid (by omega)
     have HLj:=Lib.hid hltj
     subst hae2
     obtain ⟨wt,hwt⟩:∃ x,x=wy.alloc (.cells #[.string ⟨nm.toArray⟩,.int .i64 ki,.bool kp,.int .i64 al,.string ⟨dt.toArray⟩,.slice ra0 nr rc0] 57):=⟨_,rfl⟩
     have HYT:Hid (Below wy.heap.size wy wt):=Lib.hid (by rw [hwt];exact lit_below _ _)
     have HTs:Hid (wy.heap.size+1=wt.heap.size):=Lib.hid (by rw [hwt,World.size_alloc])
     have HWt:=Lib.hid hwt.symm
     have HRU:=Lib.hid (RU.mk0 wt nm ki kp al dt)
     clear hwt hjl hO1 hs1 hc2 hm hnr hj hltj
     go_wp2_with fail
     rw [HWt.out,HTs.out]
     clear d0 d1 d2 d3 d4 d5
     go_loopw [55] (fun i wr=>∃ (r:Nat) (wz:World) (rl:List Rl) (ra:Option Addr) (rc:Nat),wz=wr/\r<=nr/\i=.int .i64 r/\Hid (r=rl.length)/\Hid (RU wt wz nm ki kp al dt rl ra rc)) (fun i _=>nr - (intOf i).toNat)
     case atStart=>exact ⟨0,_,[],none,0,rfl,by omega,rfl,Lib.hid rfl,HRU⟩
     case round=>
      clear HRU
      obtain ⟨r,wz,rl,ra,rc,rfl,hr,rfl,HRl,HU⟩:=hrel
      have HBz:=Lib.hid (after HYT.out HU.out.kk)
      have HBWz:=Lib.hid (after HQ.out.kk HBz.out)
      by_cases hltr:r < nr
      ·have hltri:(r:Int) < (nr:Int):=by omega
       have hO1:=HOW.out.next HBWz.out
       have hrl:r < rels.length:=by rw [<-HNR.out];exact hltr
       have hno:=hO1.no o HOm.out _ HMm.out
       simp only [] at hno
       rw [<-HNR.out] at hno
       obtain ⟨b3,off3,hae3,-,hc3⟩:=hno.cells (by intro e;rw [e] at hrl;simp at hrl)
       subst hae3
       have e0:=hc3 r hrl 0 (by decide)
       have e1:=hc3 r hrl 1 (by decide)
       have e2:=hc3 r hrl 2 (by decide)
       have e3:=hc3 r hrl 3 (by decide)
       have HSx:=Lib.hid (HNd.out.2 rels[r] (List.getElem_mem hrl))
       generalize rels[r]=x at e0 e1 e2 e3 HSx
       obtain ⟨xp,xk,xs,xad⟩:=x
       replace e0:wz.cell? ⟨b3,off3+r*4+0,none⟩=some (.int .i64 xp):=e0
       replace e1:wz.cell? ⟨b3,off3+r*4+1,none⟩=some (.int .i64 xk):=e1
       replace e2:wz.cell? ⟨b3,off3+r*4+2,none⟩=some (.int .i64 xs):=e2
       replace e3:wz.cell? ⟨b3,off3+r*4+3,none⟩=some (.int .i64 xad):=e3
       rw [Nat.add_zero] at e0
       have hsx:=HSx.out
       simp only [] at hsx
       obtain ⟨s,rfl⟩:∃ s:Nat,xs=(s:Int):=⟨xs.toNat,by omega⟩
       have hsl:s < o.l.length:=by omega
       obtain ⟨Y,hY⟩:∃ Y,Y=wz.alloc (.cells #[.int .i64 xp,.int .i64 xk,.int .i64 (s:Int),.int .i64 xad] 82):=⟨_,rfl⟩
       obtain ⟨R0,hR0⟩:∃ R0,R0=wz.heap.size:=⟨_,rfl⟩
       have hbY:Below wz.heap.size wz Y:=by rw [hY];exact lit_below _ _
       have HUY:=Lib.hid (HU.out.next hbY)
       have HBzY:=Lib.hid (after HBz.out hbY)
       have HBWY:=Lib.hid (after HBWz.out hbY)
       have HBzw:Hid (wz.heap.size<=Y.heap.size):=Lib.hid hbY.size
       have HRY:Hid (RB Y R0 #[.int .i64 xp,.int .i64 xk,.int .i64 (s:Int),.int .i64 xad] 82):=Lib.hid (by rw [hY,hR0];exact rb_new _ _ _)
       have HYe:=Lib.hid hY.symm
       have HR0e:=Lib.hid hR0.symm
       have hP:=HPW.out.next HBWY.out
       have hkr:k < rs.length:=by have:=hP.sl.len;have:=HLt.out;omega
       obtain ⟨row,hrow⟩:∃ row,row=rs[k]:=⟨_,rfl⟩
       obtain ⟨zb,zoff,hze,-,hzc⟩:=hP.sl.cells (by intro e;rw [e] at hkr;simp at hkr)
       have z0:=hzc k hkr 0 (by decide)
       rw [<-hrow] at z0
       replace z0:Y.cell? ⟨zb,zoff+k*1+0,none⟩=some (.slice row.ad row.l.length row.cap):=z0
       rw [Nat.mul_one,Nat.add_zero] at z0
       injection hze with hze
       injection hze with hze1 hze2 hze3
       subst hze1
       subst hze2
       rw [Nat.zero_add] at z0
       obtain ⟨hra1,hra2⟩:=HRA.out k row o (by rw [hrow];exact List.getElem?_eq_getElem hkr) HOk.out
       have hps:=hP.s1 row (by rw [hrow];exact List.getElem_mem hkr)
       have hsr:s < row.l.length:=by omega
       obtain ⟨pb,poff,hpe,-,hpc⟩:=hps.cells (by intro e;rw [e] at hsr;simp at hsr)
       rw [hpe] at z0
       obtain ⟨g0,g1,g2⟩:=pl_cells (fun j hj=>hpc s hsr j hj)
       have HPI:=Lib.hid (hra2 row.l[s] (List.getElem_mem hsr))
       generalize row.l[s]=pp at g0 g1 g2 HPI
       obtain ⟨po,ps,pf⟩:=pp
       simp only [] at g0 g1 g2
       obtain ⟨rn,hrn⟩:∃ rn,rn=row.l.length:=⟨_,rfl⟩
       rw [<-hrn] at z0
       have hsi:(s:Int) < (rn:Int):=by omega
       have hki:(k:Int) < (n:Int):=by have:=HLt.out;omega
       obtain ⟨rcap,hrc⟩:∃ rcap,rcap=row.cap:=⟨_,rfl⟩
       rw [<-hrc] at z0
       have HLr:=Lib.hid hltr
       clear hO1 hrl hno hc3 HSx hsx hsl hY hR0 hbY hP hkr hrow hzc hra1 hra2 hps hsr hpe hpc hrn hrc hltr hr
       go_wp2_with fail
       rw [HYe.out,HR0e.out]
       have HcS:Hid (∀ v,Below Y.heap.size Y v->v.cell? ⟨Z,k,none⟩=some (.slice (some ⟨pb,poff,none⟩) rn rcap)/\v.cell? ⟨pb,poff+s*3,none⟩=some (.int .i64 po)/\v.cell? ⟨pb,poff+s*3+1,none⟩=some (.int .i64 ps)/\v.cell? ⟨pb,poff+s*3+2,none⟩=some (.int .i64 pf)/\v.cell? ⟨R0,2,none⟩=some (.int .i64 (s:Int))):=Lib.hid fun v hv=>⟨keepc hv z0,keepc hv g0,keepc hv g1,keepc hv g2,(HRY.out.next hv).cell⟩
       clear z0 g0 g1 g2
       refine wp_region_held_drew (S:=fun v=>v.cell? ⟨Z,k,none⟩=some (.slice (some ⟨pb,poff,none⟩) rn rcap)/\v.cell? ⟨pb,poff+s*3,none⟩=some (.int .i64 po)/\v.cell? ⟨pb,poff+s*3+1,none⟩=some (.int .i64 ps)/\v.cell? ⟨pb,poff+s*3+2,none⟩=some (.int .i64 pf)/\v.cell? ⟨R0,2,none⟩=some (.int .i64 (s:Int))) (by kernel_rfl) (HcS.out _ (Below.refl _ _).drew) (fun hHeld=>?_)
       refine tk 0 ?_ rfl hHeld ?_ ?_
       rotate_left 1
       ·intro w hS;obtain ⟨_,_,_,_,_⟩:=hS;go_simp;(try with_reducible rfl)
       (try simp only [Act.put,List.setIfInBounds_toArray,List.set_cons_zero,List.set_cons_succ])
       refine tk 1 ?_ rfl hHeld ?_ ?_
       rotate_left 1
       ·intro w hS;obtain ⟨_,_,_,_,_⟩:=hS;go_simp;(try with_reducible rfl)
       (try simp only [Act.put,List.setIfInBounds_toArray,List.set_cons_zero,List.set_cons_succ])
       refine tk 2 ?_ rfl hHeld ?_ ?_
       rotate_left 1
       ·intro w hS;obtain ⟨_,_,_,_,_⟩:=hS;go_simp;(try with_reducible rfl)
       (try simp only [Act.put,List.setIfInBounds_toArray,List.set_cons_zero,List.set_cons_succ])
       refine tk 3 ?_ rfl hHeld ?_ ?_
       rotate_left 1
       ·intro w hS;obtain ⟨_,_,_,_,_⟩:=hS;go_simp;(try with_reducible rfl)
       (try simp only [Act.put,List.setIfInBounds_toArray,List.set_cons_zero,List.set_cons_succ])
       refine tk 4 ?_ rfl hHeld ?_ ?_
       rotate_left 1
       ·intro w hS;obtain ⟨_,_,_,_,_⟩:=hS;go_simp;(try with_reducible rfl)
       (try simp only [Act.put,List.setIfInBounds_toArray,List.set_cons_zero,List.set_cons_succ])
       refine tk 5 ?_ rfl hHeld ?_ ?_
       rotate_left 1
       ·intro w hS;obtain ⟨_,_,_,_,_⟩:=hS;go_simp;(try with_reducible rfl)
       (try simp only [Act.put,List.setIfInBounds_toArray,List.set_cons_zero,List.set_cons_succ])
       refine tk 6 ?_ rfl hHeld ?_ ?_
       rotate_left 1
       ·intro w hS;obtain ⟨_,_,_,_,_⟩:=hS;go_simp;(try with_reducible rfl)
       (try simp only [Act.put,List.setIfInBounds_toArray,List.set_cons_zero,List.set_cons_succ])
       refine tk 7 ?_ rfl hHeld ?_ ?_
       rotate_left 1
       ·intro w hS;obtain ⟨_,_,_,_,_⟩:=hS;go_simp;(try with_reducible rfl)
       (try simp only [Act.put,List.setIfInBounds_toArray,List.set_cons_zero,List.set_cons_succ])
       refine rd 8 rfl (fun K hK=>?_)
       go_simp
       refine hK.out _ _ (HcS.out _ ((Below.refl _ _).alloc (Nat.le_refl _) _).drew) (fun hHeld2=>?_)
       clear hK K
       refine rd 9 rfl (fun K hK=>?_)
       go_simp
       refine hK.out _ _ (HcS.out _ ((Below.refl _ _).alloc (Nat.le_refl _) _).drew) (fun hHeld3=>?_)
       clear hK K hHeld hHeld2 hHeld3 HcS
       refine wpAnyH_done (by kernel_rfl) ?_ _
       obtain ⟨Y2,hY2⟩:∃ Y2,Y2=(Y.alloc (.cells #[.int .i64 po,.int .i64 ps,.int .i64 pf] 46)).drew:=⟨_,rfl⟩
       obtain ⟨P0,hP0⟩:∃ P0,P0=Y.heap.size:=⟨_,rfl⟩
       have hb2:Below Y.heap.size Y Y2:=by rw [hY2];exact (lit_below _ _).drew
       have HU2:=Lib.hid (HUY.out.next hb2)
       have HBz2:=Lib.hid (after HBzY.out hb2)
       have HBW2:=Lib.hid (after HBWY.out hb2)
       have HR2:=Lib.hid (HRY.out.next hb2)
       have HP2:Hid (RB Y2 P0 #[.int .i64 po,.int .i64 ps,.int .i64 pf] 46):=Lib.hid (by rw [hY2,hP0];exact rb_new _ _ _)
       have HPw:Hid (wz.heap.size<=P0):=Lib.hid (by rw [hP0];exact HBzw.out)
       rw [<-hY2,<-hP0]
       have HR0b:Hid (wz.heap.size<=R0):=Lib.hid (by rw [<-HR0e.out];exact Nat.le_refl _)
       clear hY2 hP0 hb2 HUY HBzY HBWY HRY HYe HR0e
       have hpi:=HPI.out
       have hw0:IntKind.i64.wrap (9223372036854775807 - pf)=9223372036854775807 - pf:=by have:=hpi.f0;have:=hpi.f1;rw [IntKind.wrap_i64];simp only [] at *;omega
       clear hpi
       have r3:Y2.cell? ⟨R0,3,none⟩=some (.int .i64 xad):=HR2.out.cell
       have q2:Y2.cell? ⟨P0,2,none⟩=some (.int .i64 pf):=HP2.out.cell
       by_cases hov:9223372036854775807 - pf < xad
       ·go_wp2_with fail
        have HRV:=Lib.hid (HRW.out.next HBW2.out)
        have HRH:Hid (R0 ≠ H):=Lib.hid (by have h1:=HHW.out;have h2:=HR0b.out;have h3:=HBWz.out.size;omega)
        have p0:Y2.cell? ⟨H,0,none⟩=some (.int .i64 0):=HRV.out.cell
        have p1:Y2.cell? ⟨H,1,none⟩=some (.int .i64 0):=HRV.out.cell
        have p2:Y2.cell? ⟨H,2,none⟩=some (.int .i64 0):=HRV.out.cell
        have f0:Y2.frozen? ⟨H,0,none⟩=false:=HRV.out.frozen
        have f1:Y2.frozen? ⟨H,1,none⟩=false:=HRV.out.frozen
        have f2:Y2.frozen? ⟨H,2,none⟩=false:=HRV.out.frozen
        have HPt:=Lib.hid (put_flt 4 (k:Int) (s:Int) (after HBW.out HBW2.out) HHw.out HRV.out)
        have HXs:=Lib.hid (rb_put3 HR2.out HRH.out (.int .i64 4) (.int .i64 (k:Int)) (.int .i64 (s:Int)))
        clear r3 q2 hw0
        refine wp_region_held_drew (S:=fun v=>v.cell? ⟨R0,2,none⟩=some (.int .i64 (s:Int))) (by kernel_rfl) HR2.out.cell (fun hHeld=>?_)
        refine tk 0 ?_ rfl hHeld ?_ ?_
        rotate_left 1
        ·intro w hS;go_simp;(try with_reducible rfl)
        (try simp only [Act.put,List.setIfInBounds_toArray,List.set_cons_zero,List.set_cons_succ])
        refine tk 1 ?_ rfl hHeld ?_ ?_
        rotate_left 1
        ·intro w hS;go_simp;(try with_reducible rfl)
        (try simp only [Act.put,List.setIfInBounds_toArray,List.set_cons_zero,List.set_cons_succ])
        refine tk 2 ?_ rfl hHeld ?_ ?_
        rotate_left 1
        ·intro w hS;go_simp;(try with_reducible rfl)
        (try simp only [Act.put,List.setIfInBounds_toArray,List.set_cons_zero,List.set_cons_succ])
        refine tk 3 ?_ rfl hHeld ?_ ?_
        rotate_left 1
        ·intro w hS;go_simp;(try with_reducible rfl)
        (try simp only [Act.put,List.setIfInBounds_toArray,List.set_cons_zero,List.set_cons_succ])
        refine tk 4 ?_ rfl hHeld ?_ ?_
        rotate_left 1
        ·intro w hS;go_simp;(try with_reducible rfl)
        (try simp only [Act.put,List.setIfInBounds_toArray,List.set_cons_zero,List.set_cons_succ])
        refine rd 5 rfl (fun K hK=>?_)
        go_simp
        refine hK.out _ _ (HXs.out.cell) (fun hHeld2=>?_)
        clear hK K
        refine wpAnyH_done (by kernel_rfl) ?_ _
        go_wp2
        refine bodyPost_ret (results_two_cell (P:=Tryz.prog) rfl _ _ H 42 _ (0,0) _ _ rfl HPt.out.1 Tryz.underlying42 rfl (by kernel_rfl) rfl) rfl ?_
        exact Or.inl ⟨4,(k:Int),(s:Int),by decide,rfl,HPt.out.2.drew⟩
       ·have hpi:=HPI.out
        obtain ⟨kb,hkb⟩:∃ kb:Nat,po=(kb:Int):=⟨po.toNat,by have:=hpi.o0;simp only [] at this;omega⟩
        have hkbn:kb < (basN 0 (lensO Os)).length:=by have:=hpi.o1;have:=HSW.out.len;simp only [] at *;omega
        subst hkb
        have hsb:=HSW.out.next HBW2.out
        obtain ⟨b4,off4,hba,hb4,hbc⟩:=hsb.cells (by intro e;rw [e] at hkbn;simp at hkbn)
        subst hba
        have w0:=hbc kb hkbn 0 (by decide)
        generalize (basN 0 (lensO Os))[kb]=bv at w0
        replace w0:Y2.cell? ⟨b4,off4+kb*1+0,none⟩=some (.int .i64 (bv:Int)):=w0
        rw [Nat.mul_one,Nat.add_zero] at w0
        have hkbi:(kb:Int) < (n:Int):=by have:=hpi.o1;simp only [] at this;omega
        have HB4:Hid (b4 < W.heap.size):=Lib.hid (by
         have h2:=HSW.out.cells (by intro e;rw [e] at hkbn;simp at hkbn)
         obtain ⟨b5,off5,h3,h4,-⟩:=h2
         injection h3 with h3
         injection h3 with h3
         rw [h3];exact h4)
        clear hpi hkbn hsb hbc hb4
        go_wp2_with fail
        clear r3 q2 hw0 hov
        obtain ⟨Y3,hY3⟩:∃ Y3,Y3=Y2.drew:=⟨_,rfl⟩
        have hb3:Below Y2.heap.size Y2 Y3:=by rw [hY3];exact (Below.refl _ _).drew
        have HU3:=Lib.hid (HU2.out.next hb3)
        have HBz3:=Lib.hid (after HBz2.out hb3)
        have HBW3:=Lib.hid (after HBW2.out hb3)
        have HR3:=Lib.hid (HR2.out.next hb3)
        have HP3:=Lib.hid (HP2.out.next hb3)
        have w3:Y3.cell? ⟨b4,off4+kb,none⟩=some (.int .i64 (bv:Int)):=keepc hb3 w0
        have HW3:=Lib.hid w3
        obtain ⟨T0,hT0⟩:∃ T0,T0=wt.heap.size:=⟨_,rfl⟩
        have HTe:=Lib.hid hT0
        rw [<-hT0]
        have t5:Y3.cell? ⟨T0,5,none⟩=some (.slice ra rl.length rc):=by rw [hT0];exact HU3.out.xx.cell
        have HOwn:Hid (∀ b,(Value.slice ra rl.length rc).ownBlock=some b->T0+1<=b/\b < wz.heap.size):=Lib.hid fun b hb=>by rw [hT0];exact HU.out.oo.lt b hb
        have HTz:Hid (T0 < wz.heap.size):=Lib.hid (by rw [hT0];exact lt_of_block HU.out.xx)
        have HWT:Hid (W.heap.size<=T0):=Lib.hid (by rw [hT0];have:=HQ.out.kk.size;have:=HYT.out.size;omega)
        have HZ3:Hid (wz.heap.size<=Y3.heap.size):=Lib.hid (by have h1:=HPw.out;have h2:=lt_of_block HP3.out;omega)
        obtain ⟨v1,hv1⟩:∃ v1,IntKind.i64.wrap ((bv:Int)+ps)=v1:=⟨_,rfl⟩
        obtain ⟨v2,hv2⟩:∃ v2,IntKind.i64.wrap (pf+xad)=v2:=⟨_,rfl⟩
        have HcS:Hid (∀ v,Below Y3.heap.size Y3 v->v.cell? ⟨R0,0,none⟩=some (.int .i64 xp)/\v.cell? ⟨R0,1,none⟩=some (.int .i64 xk)/\v.cell? ⟨R0,3,none⟩=some (.int .i64 xad)/\v.cell? ⟨P0,0,none⟩=some (.int .i64 (kb:Int))/\v.cell? ⟨P0,1,none⟩=some (.int .i64 ps)/\v.cell? ⟨P0,2,none⟩=some (.int .i64 pf)/\v.cell? ⟨b4,off4+kb,none⟩=some (.int .i64 (bv:Int))):=Lib.hid fun v hv=>⟨(HR3.out.next hv).cell,(HR3.out.next hv).cell,(HR3.out.next hv).cell,(HP3.out.next hv).cell,(HP3.out.next hv).cell,(HP3.out.next hv).cell,keepc hv HW3.out⟩
        have HcG:Hid (∀ v,(Y3.alloc (.cells (rlA ⟨xp,xk,v1,v2⟩) 119)).grownBy v (Value.slice ra rl.length rc).ownBlock->v.cell? ⟨R0,0,none⟩=some (.int .i64 xp)/\v.cell? ⟨R0,1,none⟩=some (.int .i64 xk)/\v.cell? ⟨R0,3,none⟩=some (.int .i64 xad)/\v.cell? ⟨P0,0,none⟩=some (.int .i64 (kb:Int))/\v.cell? ⟨P0,1,none⟩=some (.int .i64 ps)/\v.cell? ⟨P0,2,none⟩=some (.int .i64 pf)/\v.cell? ⟨b4,off4+kb,none⟩=some (.int .i64 (bv:Int))):=Lib.hid fun v hg=>by
         have h1:=HcS.out _ (lit_below Y3 (.cells (rlA ⟨xp,xk,v1,v2⟩) 119))
         have n1:some R0 ≠ (Value.slice ra rl.length rc).ownBlock:=fun e=>by have:=HOwn.out _ e.symm;have:=HR0b.out;omega
         have n2:some P0 ≠ (Value.slice ra rl.length rc).ownBlock:=fun e=>by have:=HOwn.out _ e.symm;have:=HPw.out;omega
         have n3:some b4 ≠ (Value.slice ra rl.length rc).ownBlock:=fun e=>by have:=HOwn.out _ e.symm;have:=HB4.out;have:=HWT.out;omega
         exact ⟨hg.cell h1.1 n1,hg.cell h1.2.1 n1,hg.cell h1.2.2.1 n1,hg.cell h1.2.2.2.1 n2,hg.cell h1.2.2.2.2.1 n2,hg.cell h1.2.2.2.2.2.1 n2,hg.cell h1.2.2.2.2.2.2 n3⟩
        have HTne:Hid (some T0 ≠ (Value.slice ra rl.length rc).ownBlock):=Lib.hid fun e=>by have:=HOwn.out _ e.symm;omega
        have hrl64:Hid (rl.length<=64):=Lib.hid (by have:=HRl.out;have:=HLr.out;have:=HN64.out;omega)
        have HT5:Hid (Y3.cell? ⟨T0,5,none⟩=some (.slice ra rl.length rc)/\Y3.frozen? ⟨T0,5,none⟩=false/\T0 < Y3.heap.size):=Lib.hid ⟨t5,by rw [hT0];exact HU3.out.xx.frozen,by have:=HTz.out;have:=HZ3.out;omega⟩
        have HOo:Hid (Y3.ownsRow (T0+1) 119 4 (.slice ra rl.length rc) rl.length (rl.flatMap rlC)):=Lib.hid (by rw [hT0];exact HU3.out.oo)
        clear hb3 w0 w3 t5 hT0
        refine wp_region_held_drew (S:=fun v=>v.cell? ⟨R0,0,none⟩=some (.int .i64 xp)/\v.cell? ⟨R0,1,none⟩=some (.int .i64 xk)/\v.cell? ⟨R0,3,none⟩=some (.int .i64 xad)/\v.cell? ⟨P0,0,none⟩=some (.int .i64 (kb:Int))/\v.cell? ⟨P0,1,none⟩=some (.int .i64 ps)/\v.cell? ⟨P0,2,none⟩=some (.int .i64 pf)/\v.cell? ⟨b4,off4+kb,none⟩=some (.int .i64 (bv:Int))) (by kernel_rfl) (by rw [<-hY3];exact HcS.out _ (Below.refl _ _)) (fun hHeld=>?_)
        rw [<-hY3] at hHeld ⊢
        clear hY3
        refine tk 0 ?_ rfl hHeld ?_ ?_
        rotate_left 1
        ·intro w hS;obtain ⟨_,_,_,_,_,_,_⟩:=hS;go_simp;(try with_reducible rfl)
        (try simp only [Act.put,List.setIfInBounds_toArray,List.set_cons_zero,List.set_cons_succ])
        refine tk 2 ?_ rfl hHeld ?_ ?_
        rotate_left 1
        ·intro w hS;obtain ⟨_,_,_,_,_,_,_⟩:=hS;go_simp;(try with_reducible rfl)
        (try simp only [Act.put,List.setIfInBounds_toArray,List.set_cons_zero,List.set_cons_succ])
        refine tk 3 ?_ rfl hHeld ?_ ?_
        rotate_left 1
        ·intro w hS;obtain ⟨_,_,_,_,_,_,_⟩:=hS;go_simp;(try with_reducible rfl)
        (try simp only [Act.put,List.setIfInBounds_toArray,List.set_cons_zero,List.set_cons_succ])
        refine tk 4 ?_ rfl hHeld ?_ ?_
        rotate_left 1
        ·intro w hS;obtain ⟨_,_,_,_,_,_,_⟩:=hS;go_simp;(try with_reducible rfl)
        (try simp only [Act.put,List.setIfInBounds_toArray,List.set_cons_zero,List.set_cons_succ])
        refine tk 5 ?_ rfl hHeld ?_ ?_
        rotate_left 1
        ·intro w hS;obtain ⟨_,_,_,_,_,_,_⟩:=hS;go_simp;(try with_reducible rfl)
        (try simp only [Act.put,List.setIfInBounds_toArray,List.set_cons_zero,List.set_cons_succ])
        refine tk 6 ?_ rfl hHeld ?_ ?_
        rotate_left 1
        ·intro w hS;obtain ⟨_,_,_,_,_,_,_⟩:=hS;go_simp;(try with_reducible rfl)
        (try simp only [Act.put,List.setIfInBounds_toArray,List.set_cons_zero,List.set_cons_succ])
        refine tk 7 ?_ rfl hHeld ?_ ?_
        rotate_left 1
        ·intro w hS;obtain ⟨_,_,_,_,_,_,_⟩:=hS;go_simp;(try with_reducible rfl)
        (try simp only [Act.put,List.setIfInBounds_toArray,List.set_cons_zero,List.set_cons_succ])
        refine tk 8 ?_ rfl hHeld ?_ ?_
        rotate_left 1
        ·intro w hS;obtain ⟨_,_,_,_,_,_,_⟩:=hS;go_simp;(try with_reducible rfl)
        (try simp only [Act.put,List.setIfInBounds_toArray,List.set_cons_zero,List.set_cons_succ])
        refine tk 9 ?_ rfl hHeld ?_ ?_
        rotate_left 1
        ·intro w hS;obtain ⟨_,_,_,_,_,_,_⟩:=hS;go_simp;(try with_reducible rfl)
        (try simp only [Act.put,List.setIfInBounds_toArray,List.set_cons_zero,List.set_cons_succ])
        refine tk 10 ?_ rfl hHeld ?_ ?_
        rotate_left 1
        ·intro w hS;obtain ⟨_,_,_,_,_,_,_⟩:=hS;go_simp;(try with_reducible rfl)
        (try simp only [Act.put,List.setIfInBounds_toArray,List.set_cons_zero,List.set_cons_succ])
        refine tk 11 ?_ rfl hHeld ?_ ?_
        rotate_left 1
        ·intro w hS;obtain ⟨_,_,_,_,_,_,_⟩:=hS;go_simp;(try with_reducible rfl)
        (try simp only [Act.put,List.setIfInBounds_toArray,List.set_cons_zero,List.set_cons_succ])
        refine tk 12 ?_ rfl hHeld ?_ ?_
        rotate_left 1
        ·intro w hS;obtain ⟨_,_,_,_,_,_,_⟩:=hS;go_simp;(try with_reducible rfl)
        (try simp only [Act.put,List.setIfInBounds_toArray,List.set_cons_zero,List.set_cons_succ])
        refine tk 13 ?_ rfl hHeld ?_ ?_
        rotate_left 1
        ·intro w hS;obtain ⟨_,_,_,_,_,_,_⟩:=hS;go_simp;(try with_reducible rfl)
        (try simp only [Act.put,List.setIfInBounds_toArray,List.set_cons_zero,List.set_cons_succ])
        refine tk 14 ?_ rfl hHeld ?_ ?_
        rotate_left 1
        ·intro w hS;obtain ⟨_,_,_,_,_,_,_⟩:=hS;go_simp;(try with_reducible rfl)
        (try simp only [Act.put,List.setIfInBounds_toArray,List.set_cons_zero,List.set_cons_succ])
        refine tk 15 ?_ rfl hHeld ?_ ?_
        rotate_left 1
        ·intro w hS;obtain ⟨_,_,_,_,_,_,_⟩:=hS;go_simp;(try with_reducible rfl)
        (try simp only [Act.put,List.setIfInBounds_toArray,List.set_cons_zero,List.set_cons_succ])
        refine tk 16 ?_ rfl hHeld ?_ ?_
        rotate_left 1
        ·intro w hS;obtain ⟨_,_,_,_,_,_,_⟩:=hS;go_simp;(try with_reducible rfl)
        (try simp only [Act.put,List.setIfInBounds_toArray,List.set_cons_zero,List.set_cons_succ])
        refine tk 17 ?_ rfl hHeld ?_ ?_
        rotate_left 1
        ·intro w hS;obtain ⟨_,_,_,_,_,_,_⟩:=hS;go_simp;(try with_reducible rfl)
        (try simp only [Act.put,List.setIfInBounds_toArray,List.set_cons_zero,List.set_cons_succ])
        refine tk 18 ?_ rfl hHeld ?_ ?_
        rotate_left 1
        ·intro w hS;obtain ⟨_,_,_,_,_,_,_⟩:=hS;go_simp;(try with_reducible rfl)
        (try simp only [Act.put,List.setIfInBounds_toArray,List.set_cons_zero,List.set_cons_succ])
        refine tk 19 ?_ rfl hHeld ?_ ?_
        rotate_left 1
        ·intro w hS;obtain ⟨_,_,_,_,_,_,_⟩:=hS;go_simp;(try with_reducible rfl)
        (try simp only [Act.put,List.setIfInBounds_toArray,List.set_cons_zero,List.set_cons_succ])
        have t5:=HT5.out.1
        refine wpAnyH_ready (rs:=[1,20]) (by kernel_rfl) (by simp) ?_
        refine AllReadyH.cons rfl (fun K hK=>?_) (AllReadyH.cons rfl (fun K hK=>?_) AllReadyH.nil)
        ·go_simp
         refine hK.out _ _ hHeld (fun hHeld2=>?_)
         clear hK K
         refine rd 20 rfl (fun K hK=>?_)
         go_simp
         refine hK.out _ _ (HcS.out _ (lit_below _ _)) (fun hHeld3=>?_)
         clear hK K
         refine rd 21 rfl (fun K hK=>?_)
         refine step_append_lies _ (by rfl) _ _ _ (by rfl) (T0+1) 119 i0 _ 4 32 Tryz.underlying61 hi hz0 hz1 hz2 rfl (by omega) (.slice ra rl.length rc) rl.length (rl.flatMap rlC) (by rfl) (HOo.out.alloc _) ⟨Y3.heap.size,0,none⟩ 1 1 (rlC ⟨xp,xk,v1,v2⟩) (by rfl) (by rfl) (World.news_of_block (cs:=rlA ⟨xp,xk,v1,v2⟩) (t:=119) (fr:=(0,0)) (heap_alloc_new Y3 _)) (rl_one _) (by omega) (by have:=hrl64.out;unfold maxLen;omega) (by have:=hrl64.out;omega) (by have:=HT5.out.2.2;simp;omega) (Y3.heap.size+1) (by simp) ?_
         intro g3 cap w3 hown3 hgrow hat hlt3
         have hSw:=HcG.out _ hgrow
         have s5:w3.cell? ⟨T0,5,none⟩=some (.slice ra rl.length rc):=hgrow.cell ((World.cell?_alloc_past (w:=Y3) _ _ _ HT5.out.2.2).trans HT5.out.1) HTne.out
         have s6:w3.frozen? ⟨T0,5,none⟩=false:=(World.frozen?_of_block (hgrow.block T0 (by have:=HT5.out.2.2;rw [World.size_alloc];omega) HTne.out)).trans ((World.frozen?_alloc_past (w:=Y3) _ _ _ HT5.out.2.2).trans HT5.out.2.1)
         refine hK.out _ _ hSw (fun hHeld4=>?_)
         clear hK K
         refine rd 22 rfl (fun K hK=>?_)
         go_simp
         refine hK.out _ _ hSw (fun hHeld5=>?_)
         clear hK K
         have HUn:Hid (RU wt (w3.setCell ⟨T0,5,none⟩ (.slice (some ⟨g3,0,none⟩) (rl.length+1) cap)) nm ki kp al dt (rl ++ [⟨xp,xk,v1,v2⟩]) (some ⟨g3,0,none⟩) cap):=Lib.hid (by rw [HTe.out] at hown3 ⊢;exact HU3.out.push hown3 hgrow)
         have hSs:(fun v:World=>v.cell? ⟨R0,0,none⟩=some (.int .i64 xp)/\v.cell? ⟨R0,1,none⟩=some (.int .i64 xk)/\v.cell? ⟨R0,3,none⟩=some (.int .i64 xad)/\v.cell? ⟨P0,0,none⟩=some (.int .i64 (kb:Int))/\v.cell? ⟨P0,1,none⟩=some (.int .i64 ps)/\v.cell? ⟨P0,2,none⟩=some (.int .i64 pf)/\v.cell? ⟨b4,off4+kb,none⟩=some (.int .i64 (bv:Int))) (w3.setCell ⟨T0,5,none⟩ (.slice (some ⟨g3,0,none⟩) (rl.length+1) cap)):=by
          have n1:R0 ≠ T0:=by have:=HR0b.out;have:=HTz.out;omega
          have n2:P0 ≠ T0:=by have:=HPw.out;have:=HTz.out;omega
          have n3:b4 ≠ T0:=by have:=HB4.out;have:=HWT.out;omega
          exact ⟨(World.cell?_of_block (Below.heap_setCell _ _ _ _ n1)).trans hSw.1,(World.cell?_of_block (Below.heap_setCell _ _ _ _ n1)).trans hSw.2.1,(World.cell?_of_block (Below.heap_setCell _ _ _ _ n1)).trans hSw.2.2.1,(World.cell?_of_block (Below.heap_setCell _ _ _ _ n2)).trans hSw.2.2.2.1,(World.cell?_of_block (Below.heap_setCell _ _ _ _ n2)).trans hSw.2.2.2.2.1,(World.cell?_of_block (Below.heap_setCell _ _ _ _ n2)).trans hSw.2.2.2.2.2.1,(World.cell?_of_block (Below.heap_setCell _ _ _ _ n3)).trans hSw.2.2.2.2.2.2⟩
         clear hSw
         refine rd 23 rfl (fun K hK=>?_)
         go_simp
         refine hK.out _ _ hSs (fun hHeld6=>?_)
         clear hK K
         refine wpAnyH_done (by kernel_rfl) ?_ _
         have HRl2:Hid (r+1=(rl ++ [(⟨xp,xk,v1,v2⟩:Rl)]).length):=Lib.hid (by rw [HRl.out];simp)
         clear hown3 hgrow hat hlt3 s5 s6 hSs hHeld hHeld2 hHeld3 hHeld4 hHeld5 hHeld6
         go_wp2
         rw [HTe.out] at HUn ⊢
         go_roundw
         case rel=>exact ⟨r+1,_,_,_,_,rfl,by have:=HLr.out;omega,by go_num,HRl2,HUn⟩
         case measure=>have:=HLr.out;simp [intOf];omega
        ·go_simp
         refine hK.out _ _ (HcS.out _ (lit_below _ _)) (fun hHeld2=>?_)
         clear hK K
         have t6:(Y3.alloc (.cells #[.int .i64 xp,.int .i64 xk,.int .i64 v1,.int .i64 v2] 119)).cell? ⟨T0,5,none⟩=some (.slice ra rl.length rc):=(World.cell?_alloc_past (w:=Y3) _ _ _ HT5.out.2.2).trans t5
         refine rd 1 rfl (fun K hK=>?_)
         go_simp
         refine hK.out _ _ hHeld2 (fun hHeld3=>?_)
         clear hK K t6
         refine rd 21 rfl (fun K hK=>?_)
         refine step_append_lies _ (by rfl) _ _ _ (by rfl) (T0+1) 119 i0 _ 4 32 Tryz.underlying61 hi hz0 hz1 hz2 rfl (by omega) (.slice ra rl.length rc) rl.length (rl.flatMap rlC) (by rfl) (HOo.out.alloc _) ⟨Y3.heap.size,0,none⟩ 1 1 (rlC ⟨xp,xk,v1,v2⟩) (by rfl) (by rfl) (World.news_of_block (cs:=rlA ⟨xp,xk,v1,v2⟩) (t:=119) (fr:=(0,0)) (heap_alloc_new Y3 _)) (rl_one _) (by omega) (by have:=hrl64.out;unfold maxLen;omega) (by have:=hrl64.out;omega) (by have:=HT5.out.2.2;simp;omega) (Y3.heap.size+1) (by simp) ?_
         intro g3 cap w3 hown3 hgrow hat hlt3
         have hSw:=HcG.out _ hgrow
         have s5:w3.cell? ⟨T0,5,none⟩=some (.slice ra rl.length rc):=hgrow.cell ((World.cell?_alloc_past (w:=Y3) _ _ _ HT5.out.2.2).trans HT5.out.1) HTne.out
         have s6:w3.frozen? ⟨T0,5,none⟩=false:=(World.frozen?_of_block (hgrow.block T0 (by have:=HT5.out.2.2;rw [World.size_alloc];omega) HTne.out)).trans ((World.frozen?_alloc_past (w:=Y3) _ _ _ HT5.out.2.2).trans HT5.out.2.1)
         refine hK.out _ _ hSw (fun hHeld4=>?_)
         clear hK K
         refine rd 22 rfl (fun K hK=>?_)
         go_simp
         refine hK.out _ _ hSw (fun hHeld5=>?_)
         clear hK K
         have HUn:Hid (RU wt (w3.setCell ⟨T0,5,none⟩ (.slice (some ⟨g3,0,none⟩) (rl.length+1) cap)) nm ki kp al dt (rl ++ [⟨xp,xk,v1,v2⟩]) (some ⟨g3,0,none⟩) cap):=Lib.hid (by rw [HTe.out] at hown3 ⊢;exact HU3.out.push hown3 hgrow)
         have hSs:(fun v:World=>v.cell? ⟨R0,0,none⟩=some (.int .i64 xp)/\v.cell? ⟨R0,1,none⟩=some (.int .i64 xk)/\v.cell? ⟨R0,3,none⟩=some (.int .i64 xad)/\v.cell? ⟨P0,0,none⟩=some (.int .i64 (kb:Int))/\v.cell? ⟨P0,1,none⟩=some (.int .i64 ps)/\v.cell? ⟨P0,2,none⟩=some (.int .i64 pf)/\v.cell? ⟨b4,off4+kb,none⟩=some (.int .i64 (bv:Int))) (w3.setCell ⟨T0,5,none⟩ (.slice (some ⟨g3,0,none⟩) (rl.length+1) cap)):=by
          have n1:R0 ≠ T0:=by have:=HR0b.out;have:=HTz.out;omega
          have n2:P0 ≠ T0:=by have:=HPw.out;have:=HTz.out;omega
          have n3:b4 ≠ T0:=by have:=HB4.out;have:=HWT.out;omega
          exact ⟨(World.cell?_of_block (Below.heap_setCell _ _ _ _ n1)).trans hSw.1,(World.cell?_of_block (Below.heap_setCell _ _ _ _ n1)).trans hSw.2.1,(World.cell?_of_block (Below.heap_setCell _ _ _ _ n1)).trans hSw.2.2.1,(World.cell?_of_block (Below.heap_setCell _ _ _ _ n2)).trans hSw.2.2.2.1,(World.cell?_of_block (Below.heap_setCell _ _ _ _ n2)).trans hSw.2.2.2.2.1,(World.cell?_of_block (Below.heap_setCell _ _ _ _ n2)).trans hSw.2.2.2.2.2.1,(World.cell?_of_block (Below.heap_setCell _ _ _ _ n3)).trans hSw.2.2.2.2.2.2⟩
         clear hSw
         refine rd 23 rfl (fun K hK=>?_)
         go_simp
         refine hK.out _ _ hSs (fun hHeld6=>?_)
         clear hK K
         refine wpAnyH_done (by kernel_rfl) ?_ _
         have HRl2:Hid (r+1=(rl ++ [(⟨xp,xk,v1,v2⟩:Rl)]).length):=Lib.hid (by rw [HRl.out];simp)
         clear hown3 hgrow hat hlt3 s5 s6 hSs hHeld hHeld2 hHeld3 hHeld4 hHeld5 hHeld6
         go_wp2
         rw [HTe.out] at HUn ⊢
         go_roundw
         case rel=>exact ⟨r+1,_,_,_,_,rfl,by have:=HLr.out;omega,by go_num,HRl2,HUn⟩
         case measure=>have:=HLr.out;simp [intOf];omega
      ·obtain rfl:nr=r:=by omega
       have hge:¬ (nr:Int) < (nr:Int):=by omega
       have HQz:=Lib.hid (HQ.out.next HBz.out)
       have t0:wz.cell? ⟨wt.heap.size,0,none⟩=some (.string ⟨nm.toArray⟩):=HU.out.xx.cell
       have t1:wz.cell? ⟨wt.heap.size,1,none⟩=some (.int .i64 ki):=HU.out.xx.cell
       have t2:wz.cell? ⟨wt.heap.size,2,none⟩=some (.bool kp):=HU.out.xx.cell
       have t3:wz.cell? ⟨wt.heap.size,3,none⟩=some (.int .i64 al):=HU.out.xx.cell
       have t4:wz.cell? ⟨wt.heap.size,4,none⟩=some (.string ⟨dt.toArray⟩):=HU.out.xx.cell
       have t5:wz.cell? ⟨wt.heap.size,5,none⟩=some (.slice ra rl.length rc):=HU.out.xx.cell
       have hql:Hid (q<=300):=Lib.hid (by
        have h1:=congrArg List.length HKn.out
        rw [List.length_map,List.length_append,List.length_map,List.length_take] at h1
        have h2:=HCat.out k (by have:=HLt.out;omega)
        have h3:=HLj.out
        have h4:=HS32.out o HOm.out
        have:=HOq.out
        omega)
       have hx0:Hid (W.heap.size<=wz.heap.size):=Lib.hid HQz.out.kk.size
       have HNw:Hid ((wz.alloc (.cells #[.string ⟨nm.toArray⟩,.int .i64 ki,.bool kp,.int .i64 al,.string ⟨dt.toArray⟩,.slice ra rl.length rc] 63)).heap[wz.heap.size]?=some (.cells #[.string ⟨nm.toArray⟩,.int .i64 ki,.bool kp,.int .i64 al,.string ⟨dt.toArray⟩,.slice ra rl.length rc] 63)):=Lib.hid (heap_alloc_new wz _)
       have HK2:Hid ((L ++ [(⟨⟨nm,ki,kp,al,dt,rl⟩,ra,rc⟩:Ms)]).map knM=catKN (Os.take k) ++ (o.L.take (j+1)).map knM):=Lib.hid (by rw [List.map_append,HKn.out,List.take_add_one,HMj.out,List.map_append,List.append_assoc];rfl)
       clear hltr hr HRl
       go_wp2_with (at_builtin;refine wpList_append_lies _ rfl _ _ 58 rfl W.heap.size 63 i1 (.agg #[.string ⟨#[]⟩,.int .i64 0,.bool false,.int .i64 0,.string ⟨#[]⟩,.slice none 0 0]) 6 80 Tryz.underlying58 hj hy0 hy1 hy2 rfl (by decide) (.slice oa q oc) q (L.flatMap msC) rfl (by have:=HQz.out.oo;rw [<-HOq.out] at this;exact this.alloc _) ⟨wz.heap.size,0,none⟩ 1 1 (msC ⟨⟨nm,ki,kp,al,dt,rl⟩,ra,rc⟩) rfl rfl (World.news_of_block (cs:=#[.string ⟨nm.toArray⟩,.int .i64 ki,.bool kp,.int .i64 al,.string ⟨dt.toArray⟩,.slice ra rl.length rc]) (t:=63) (fr:=(0,0)) HNw.out) (ms_ones _) (by decide) (by have:=hql.out;unfold maxLen;omega) (by have:=hql.out;omega) (by have:=hx0.out;simp;omega) (wz.heap.size+1) (by simp) ?_;intro g cap w2 hown2 hgrow2 hlie2 hlt2)
       rw [HOq.out] at hown2 hgrow2
       have HQ2:=Lib.hid (HQz.out.grow hown2 hgrow2)
       have HOq2:Hid (q+1=(L ++ [(⟨⟨nm,ki,kp,al,dt,rl⟩,ra,rc⟩:Ms)]).length):=Lib.hid (by rw [HOq.out];simp)
       clear hown2 hgrow2 hlie2 hlt2 HNw t0 t1 t2 t3 t4 t5
       go_roundw
       case rel=>exact ⟨j+1,q+1,_,_,_,_,rfl,by have:=HLj.out;omega,by rw [HOq.out],by go_num,HOq2,HQ2,HK2⟩
       case measure=>have:=HLj.out;simp [intOf];omega
    ·obtain rfl:on=j:=by omega
     have hge:¬ (on:Int) < (on:Int):=by omega
     have HK2:Hid (L.map knM=catKN (Os.take (k+1))):=Lib.hid (by
      have:=HKn.out
      rw [HON.out,List.take_length] at this
      rw [this,List.take_add_one,HOk.out]
      unfold catKN
      rw [List.flatMap_append]
      simp)
     clear hltj hj
     go_wp2
     go_roundw
     case rel=>exact ⟨k+1,q,_,L,_,_,rfl,by have:=HLt.out;omega,rfl,by go_num,HOq,HQ,HK2⟩
     case measure=>have:=HLt.out;simp [intOf];omega
  ·obtain rfl:n=k:=by omega
   have hge:¬ (n:Int) < (n:Int):=by omega
   have HKe:Hid (L.map knM=catKN Os):=Lib.hid (by have:=HKn.out;rw [HLn.out,List.take_length] at this;exact this)
   have HRV:=Lib.hid (HRW.out.next HQ.out.kk)
   have p0:wx.cell? ⟨H,0,none⟩=some (.int .i64 0):=HRV.out.cell
   have p1:wx.cell? ⟨H,1,none⟩=some (.int .i64 0):=HRV.out.cell
   have p2:wx.cell? ⟨H,2,none⟩=some (.int .i64 0):=HRV.out.cell
   have f0:wx.frozen? ⟨H,0,none⟩=false:=HRV.out.frozen
   have f1:wx.frozen? ⟨H,1,none⟩=false:=HRV.out.frozen
   have f2:wx.frozen? ⟨H,2,none⟩=false:=HRV.out.frozen
   have HPt:=Lib.hid (put_flt 0 0 0 (after HBW.out HQ.out.kk) HHw.out HRV.out)
   have HPr:=Lib.hid (HQ.out.put3 HHW.out (.int .i64 0) (.int .i64 0) (.int .i64 0))
   clear hlt hk
   go_wp2
   refine bodyPost_ret (results_two_cell (P:=Tryz.prog) rfl _ _ H 42 _ (0,0) _ _ rfl HPt.out.1 Tryz.underlying42 rfl (by kernel_rfl) rfl) rfl ?_
   exact Or.inr ⟨oa,oc,L,by rw [<-HOq.out];rfl,HPr.out,HKe.out,HPt.out.2⟩
end Go.Proofs.YthkolmebokfagaaGreatDoor
