/- mem: New, of regions that have no place in common. -/
import Derived.Test.YtobdldadfipcgaaGreatDoorqA
import Derived.Laws.MakeOwn
import Derived.Lib.BufferWrite
import Derived.Deep.RegionHeld3
import Derived.Deep.AppendLies
import Derived.Deep.QuietTactic
import Derived.BigQuiet
import Derived.StillTactics
import Derived.OwnWalk
import Derived.Laws.Pointers
import Derived.Sort.Grow
import Derived.Laws.CopyOwn
import Derived.Laws.Rows
import Derived.Deep.RegionLaw
import Derived.Shelf.SlSortCmp.WholeK
import Derived.Shelf.Lay
import Derived.Ground.SlsfProg
import Derived.Shelf.SlSortCmp.NoneTotal
set_option maxRecDepth 100000
set_option maxHeartbeats 8000000
set_option linter.unusedVariables false
set_option linter.unusedSimpArgs false
namespace Go.Proofs
open Go.Shelf
shelf_lay_g SlLaysF0.n6 Slsf 6 at Tryz 17 as Tryz.sortAr
end Go.Proofs
namespace Go.Proofs.YtobdldadfipcgaaGreatDoor
set_option maxRecDepth 100000
namespace Me
open Go.ChangeShapes Go.WideShapes Go.Deep Go.RowKit
theorem lt_of_block {w:World} {k:Nat} {o:Obj} (h:w.heap[k]?=some o):k < w.heap.size:=(Array.getElem?_eq_some_iff.1 h).1
theorem owns_below {w w':World} {base:Nat} {e:TypeId} {sz:Nat} {v:Value} {n:Nat} {xs:List Value} (h:w.ownsRow base e sz v n xs) (hb:Below w.heap.size w w'):w'.ownsRow base e sz v n xs:=by
 obtain ⟨h1,h2⟩:=h
 refine ⟨h1,?_⟩
 rcases h2 with h2 | ⟨g,cap,cur,e1,e2,e3,e4⟩
 ·exact .inl h2
 ·exact .inr ⟨g,cap,cur,e1,e2,(hb.block g (lt_of_block e3)).trans e3,e4⟩
theorem owns_cells {w:World} {base:Nat} {e:TypeId} {sz:Nat} {v:Value} {n:Nat} {xs:List Value} (h:w.ownsRow base e sz v n xs) (hn:0 < n):
  ∃ g cap,v=.slice (some ⟨g,0,none⟩) n cap/\base<=g/\g < w.heap.size/\∀ j,j < n*sz->w.cell? ⟨g,j,none⟩=xs[j]?:=by
 rcases h.2 with ⟨-,h0⟩ | ⟨g,cap,cur,rfl,hb,hg,-⟩
 ·omega
 ·exact ⟨g,cap,rfl,hb,lt_of_block hg,fun j hj=>h.cellAt j hj⟩
structure Ar where
 pos:Nat
 kind:Int
 blk:Nat
 bs:List UInt8
deriving Inhabited
def arC (a:Ar):List Value:=[.int .u64 a.pos,.int .i64 a.kind,.slice (some ⟨a.blk,0,none⟩) a.bs.length a.bs.length]
def arV (a:Ar):Value:=.agg #[.int .u64 a.pos,.int .i64 a.kind,.slice (some ⟨a.blk,0,none⟩) a.bs.length a.bs.length]
theorem arC_len (a:Ar):(arC a).length=3:=rfl
def AB (w:World) (base:Nat) (a:Ar):Prop:=base<=a.blk/\w.heap[a.blk]?=some (.cells (Lib.byteCells a.bs).toArray 5 (0,0))
def MS (w:World) (base p:Nat) (l:List Ar):Prop:=
 ∃ v,w.heap[p]?=some (.cells #[v] 67 (0,0))/\base<=p/\w.ownsRow base 72 3 v l.length (l.flatMap arC)/\(∀ a ∈ l,AB w base a)/\(l.map Ar.blk).Nodup
theorem MS.below {w w':World} {base p:Nat} {l:List Ar} (h:MS w base p l) (hb:Below w.heap.size w w'):MS w' base p l:=by
 obtain ⟨v,h1,h2,h3,h4,h5⟩:=h
 refine ⟨v,(hb.block p (lt_of_block h1)).trans h1,h2,owns_below h3 hb,fun a ha=>?_,h5⟩
 obtain ⟨k1,k2⟩:=h4 a ha
 exact ⟨k1,(hb.block _ (lt_of_block k2)).trans k2⟩
theorem ar_cells {w:World} {base p:Nat} {l:List Ar} (h:MS w base p l) {k:Nat} (hk:k < l.length):
  ∃ g cap,w.cell? ⟨p,0,none⟩=some (.slice (some ⟨g,0,none⟩) l.length cap)/\g < w.heap.size/\w.cell? ⟨g,k*3,none⟩=some (.int .u64 l[k].pos)/\w.cell? ⟨g,k*3+1,none⟩=some (.int .i64 l[k].kind)/\w.cell? ⟨g,k*3+2,none⟩=some (.slice (some ⟨l[k].blk,0,none⟩) l[k].bs.length l[k].bs.length):=by
 obtain ⟨v,h1,h2,h3,-⟩:=h
 obtain ⟨g,cap,rfl,-,hg,hc⟩:=owns_cells h3 (by omega)
 refine ⟨g,cap,by rw [World.cell?,h1];rfl,hg,?_,?_,?_⟩
 ·rw [hc _ (by omega)];exact flat_get arC_len l k hk 0 (by omega)
 ·rw [hc _ (by omega)];exact flat_get arC_len l k hk 1 (by omega)
 ·rw [hc _ (by omega)];exact flat_get arC_len l k hk 2 (by omega)
def cmpA (a b:Ar):Int:=if a.pos < b.pos then -1 else if b.pos < a.pos then 1 else 0
theorem byPlace_any (a b:Ar) (w:World):Calls Tryz.prog 18 #[arV a,arV b] w fun e w'=>e=.returned (.int .i64 (cmpA a b))/\∃ os,w'=Go.Sort.grow w os:=by
 obtain ⟨p,k,x,s⟩:=a
 obtain ⟨p',k',x',s'⟩:=b
 unfold arV cmpA
 simp only []
 by_cases h1:p < p'
 ·go_enter Tryz.func18,Tryz.ntmps18
  go_wp2
  go_ret
  exact ⟨by simp [h1],_,by rw [Go.Sort.alloc_eq_grow,Go.Sort.alloc_eq_grow,Go.Sort.grow_grow]⟩
 ·by_cases h2:p' < p
  ·go_enter Tryz.func18,Tryz.ntmps18
   go_wp2
   go_ret
   exact ⟨by simp [h1,h2],_,by rw [Go.Sort.alloc_eq_grow,Go.Sort.alloc_eq_grow,Go.Sort.grow_grow]⟩
  ·go_enter Tryz.func18,Tryz.ntmps18
   go_wp2
   go_ret
   exact ⟨by simp [h1,h2],_,by rw [Go.Sort.alloc_eq_grow,Go.Sort.alloc_eq_grow,Go.Sort.grow_grow]⟩
def Rises (l:List Ar):Prop:=∀ (i j:Nat) (hi:i < l.length) (hj:j < l.length),i<=j->l[i].pos<=l[j].pos
theorem owns_form {w:World} {base:Nat} {e:TypeId} {sz:Nat} {v:Value} {n:Nat} {xs:List Value} (h:w.ownsRow base e sz v n xs):∃ a c,v=.slice a n c:=by
 rcases h.2 with ⟨rfl,rfl⟩ | ⟨g,cap,cur,rfl,-⟩
 ·exact ⟨_,_,rfl⟩
 ·exact ⟨_,_,rfl⟩
theorem MS.base {w:World} {base p:Nat} {l:List Ar} (h:MS w base p l):base<=w.heap.size:=by
 obtain ⟨v,h1,h2,-⟩:=h
 have:=lt_of_block h1;omega
open Go.ChangeShapes Go.WideShapes Go.Deep Go.RowKit
theorem info_u8:(Tryz.prog.info? 5).map (fun i=>(i.zero,i.size,i.bytes))=some (some (.int .u8 0),1,1):=by kernel_rfl
theorem make_u8 (n:Nat) (hn:n<=65536) (w:World):(Instr.makeSlice 70 (.int .i64 n) (.int .i64 n)).run Tryz.prog w=.ok (.slice (some ⟨w.heap.size,0,none⟩) n n) (w.alloc (.cells (madeCells #[.int .u8 0] n) 5)):=by
 obtain ⟨i0,hi0,hz0,hz1,hz2⟩:=info_parts info_u8
 have:=run_makeSlice (P:=Tryz.prog) w 70 5 i0 (.int .u8 0) Tryz.underlying70 hi0 hz0 .i64 .i64 n n (by omega) (by omega) (by rw [hz1];omega) (by rw [hz2];omega) (by omega)
 rw [hz1] at this
 simp only [Int.toNat_natCast,Nat.mul_one] at this
 exact this
theorem al2 (W:World) (o1 o2:Obj):((W.alloc o1).alloc o2).drew.heap.size=W.heap.size+2/\((W.alloc o1).alloc o2).drew.heap[W.heap.size]?=some o1/\((W.alloc o1).alloc o2).drew.heap[W.heap.size+1]?=some o2/\∀ k,k < W.heap.size->((W.alloc o1).alloc o2).drew.heap[k]?=W.heap[k]?:=by
 have hs:(W.alloc o1).heap.size=W.heap.size+1:=by simp
 refine ⟨?_,?_,?_,fun k hk=>?_⟩
 ·show ((W.alloc o1).alloc o2).heap.size=_
  simp
 ·show ((W.alloc o1).alloc o2).heap[_]?=_
  rw [Below.heap_alloc _ _ _ (by omega)];exact (MapKept.heap_alloc W o1).1
 ·show ((W.alloc o1).alloc o2).heap[_]?=_
  rw [<-hs];exact (MapKept.heap_alloc _ o2).1
 ·show ((W.alloc o1).alloc o2).heap[_]?=_
  rw [Below.heap_alloc _ _ _ (by omega),Below.heap_alloc _ _ _ hk]
theorem al2' {W V:World} {o1 o2:Obj} {s:Nat} (hs:W.heap.size=s) (h:V=((W.alloc o1).alloc o2).drew):V.heap.size=s+2/\V.heap[s]?=some o1/\V.heap[s+1]?=some o2/\∀ k,k < s->V.heap[k]?=W.heap[k]?:=by
 subst h;subst hs;exact al2 W o1 o2
theorem set3 {w:World} {X:Nat} {a b c x y z:Value} {T:TypeId} (h:w.heap[X]?=some (.cells #[a,b,c] T (0,0))):
  (((w.setCell ⟨X,0,none⟩ x).setCell ⟨X,1,none⟩ y).setCell ⟨X,2,none⟩ z).heap[X]?=some (.cells #[x,y,z] T (0,0)):=by
 unfold World.setCell
 simp [h,Array.getElem?_modify]
def NewAP (pos:Nat) (kind:Int) (D:ByteArray) (w:World) (e:Ending) (w':World):Prop:=
 ∃ b,w.heap.size<=b/\e=.returned (.agg #[.int .u64 pos,.int .i64 kind,.slice (some ⟨b,0,none⟩) D.size D.size])/\w'.heap[b]?=some (.cells (Lib.byteCells D.data.toList).toArray 5 (0,0))/\Below w.heap.size w w'
theorem newArea_any (pos:Nat) (kind:Int) (D:ByteArray) (w:World) (h1:1<=D.size) (h2:D.size<=65536):Calls Tryz.prog 16 #[.agg #[.int .u64 pos,.int .i64 kind,.string D]] w (NewAP pos kind D w):=by
 have hmk:=fun w=>make_u8 D.size h2 w
 obtain ⟨W,hW⟩:∃ W,W=(w.alloc (.cells #[.int .u64 pos,.int .i64 kind,.string D] 43)).alloc (.cells #[.int .u64 0,.int .i64 0,.slice none 0 0] 72):=⟨_,rfl⟩
 obtain ⟨X,hX⟩:∃ X,X=w.heap.size:=⟨_,rfl⟩
 have hWs:W.heap.size=X+2:=by rw [hW,hX];simp
 have x0:W.heap[X]?=some (.cells #[.int .u64 pos,.int .i64 kind,.string D] 43 (0,0)):=by rw [hW,hX];exact (Below.heap_alloc _ _ _ (by simp)).trans (MapKept.heap_alloc w _).1
 have c0:W.cell? ⟨X,0,none⟩=some (.int .u64 pos):=by rw [World.cell?,x0];rfl
 have c1:W.cell? ⟨X,1,none⟩=some (.int .i64 kind):=by rw [World.cell?,x0];rfl
 have c2:W.cell? ⟨X,2,none⟩=some (.string D):=by rw [World.cell?,x0];rfl
 have HW:=Lib.hid hW
 have HX:=Lib.hid hX
 have HX0:=Lib.hid x0
 have hXl:X < W.heap.size:=by omega
 clear hW hX x0
 go_enter Tryz.func16,Tryz.ntmps16
 go_wp2_with fail
 rw [<-HW.out,<-HX.out]
 go_region_held3 (fun w'=>w'.cell? ⟨X,0,none⟩=some (.int .u64 pos)/\w'.cell? ⟨X,1,none⟩=some (.int .i64 kind)/\w'.cell? ⟨X,2,none⟩=some (.string D)) (go_keep) (first | fail)
 ·obtain ⟨V,hV⟩:∃ V,V=((W.alloc (.cells (madeCells #[.int .u8 0] D.size) 5)).alloc (.cells #[.int .u64 pos,.int .i64 kind,.slice (some ⟨X+2,0,none⟩) D.size D.size] 72)).drew:=⟨_,rfl⟩
  obtain ⟨hVs,hA1,hA2,hA3⟩:=al2' hWs hV
  have hb:V.heap[X+2]?=some (.cells (madeCells #[.int .u8 0] D.size) 5 (0,0)):=hA1
  have hY:V.heap[X+2+1]?=some (.cells #[.int .u64 pos,.int .i64 kind,.slice (some ⟨X+2,0,none⟩) D.size D.size] 72 (0,0)):=hA2
  have hR:V.heap[X+1]?=some (.cells #[.int .u64 0,.int .i64 0,.slice none 0 0] 72 (0,0)):=by
   rw [hA3 _ (by omega),HW.out]
   have:=(MapKept.heap_alloc (w.alloc (.cells #[.int .u64 pos,.int .i64 kind,.string D] 43)) (.cells #[.int .u64 0,.int .i64 0,.slice none 0 0] 72)).1
   rwa [show (w.alloc (.cells #[.int .u64 pos,.int .i64 kind,.string D] 43)).heap.size=X+1 from by rw [HX.out];simp] at this
  have hBV:Below w.heap.size w V:=by
   have h0:Below w.heap.size w W:=by rw [HW.out];exact ((Below.refl _ _).alloc (Nat.le_refl _) _).alloc (by simp) _
   rw [hV]
   exact ((h0.alloc h0.size _).alloc (by have:=h0.size;simp;omega) _).drew
  rw [<-hV]
  have HBV:=Lib.hid hBV
  have hcp:=fun ty=>Lib.run_copy_row_string (P:=Tryz.prog) V 70 9 ty 5 (X+2) 0 D.size D.size D (madeCells #[.int .u8 0] D.size) 5 Tryz.underlying70 (by kernel_rfl) hb (Nat.le_refl _) (by rw [size_madeCells];simp)
  obtain ⟨V2,hV2⟩:∃ V2,V2=V.setRow (X+2) ((madeCells #[.int .u8 0] D.size).toList.take 0 ++ Lib.byteCells D.data.toList ++ (madeCells #[.int .u8 0] D.size).toList.drop (0+D.size)).toArray:=⟨_,rfl⟩
  rw [<-hV2] at hcp
  have hb2:V2.heap[X+2]?=some (.cells (Lib.byteCells D.data.toList).toArray 5 (0,0)):=by
   rw [hV2,setRow_heap V _ _ _ _ _ hb]
   congr 3
   rw [List.take_zero,List.nil_append,Nat.zero_add,List.drop_of_length_le (by rw [Array.length_toList,size_madeCells];simp),List.append_nil]
  have hY2:V2.heap[X+2+1]?=V.heap[X+2+1]?:=by rw [hV2];exact setRow_other V (X+2) (X+2+1) _ (by omega)
  have hR2:V2.heap[X+1]?=V.heap[X+1]?:=by rw [hV2];exact setRow_other V (X+2) (X+1) _ (by omega)
  rw [hY] at hY2
  rw [hR] at hR2
  have hB2:Below w.heap.size w V2:=by rw [hV2];exact below_setRow HBV.out (by rw [<-HX.out];omega) _
  have HB2:=Lib.hid hB2
  have HR2:=Lib.hid (set3 (x:=.int .u64 pos) (y:=.int .i64 kind) (z:=.slice (some ⟨X+2,0,none⟩) D.size D.size) hR2)
  have Hb2:=Lib.hid hb2
  have y0:V2.cell? ⟨X+2+1,0,none⟩=some (.int .u64 pos):=by rw [World.cell?,hY2];rfl
  have y1:V2.cell? ⟨X+2+1,1,none⟩=some (.int .i64 kind):=by rw [World.cell?,hY2];rfl
  have y2:V2.cell? ⟨X+2+1,2,none⟩=some (.slice (some ⟨X+2,0,none⟩) D.size D.size):=by rw [World.cell?,hY2];rfl
  have r0:V2.cell? ⟨X+1,0,none⟩=some (.int .u64 0):=by rw [World.cell?,hR2];rfl
  have r1:V2.cell? ⟨X+1,1,none⟩=some (.int .i64 0):=by rw [World.cell?,hR2];rfl
  have r2:V2.cell? ⟨X+1,2,none⟩=some (.slice none 0 0):=by rw [World.cell?,hR2];rfl
  have g0:V2.frozen? ⟨X+1,0,none⟩=false:=by rw [World.frozen?,hR2];rfl
  have g1:V2.frozen? ⟨X+1,1,none⟩=false:=by rw [World.frozen?,hR2];rfl
  have g2:V2.frozen? ⟨X+1,2,none⟩=false:=by rw [World.frozen?,hR2];rfl
  have v0:V.cell? ⟨X+2+1,2,none⟩=some (.slice (some ⟨X+2,0,none⟩) D.size D.size):=by rw [World.cell?,hY];rfl
  have v1:V.cell? ⟨X,2,none⟩=some (.string D):=by
   rw [World.cell?,show V.heap[X]?=W.heap[X]? from hA3 _ (by omega),HX0.out];rfl
  have hXV:X < V.heap.size:=by omega
  clear hA1 hA2 hA3 hV hV2 hb hY hR hBV hb2 hY2 hR2 hB2 c0 c1 c2 hmk
  go_wp2
  refine bodyPost_ret (results_cell_row (P:=Tryz.prog) rfl _ _ (X+1) 72 _ (0,0) _ rfl HR2.out Tryz.underlying72 rfl (by kernel_rfl)) rfl ?_
  refine ⟨X+2,by rw [<-HX.out];omega,rfl,?_,((HB2.out.setCell (by rw [<-HX.out];simp) _).setCell (by rw [<-HX.out];simp) _).setCell (by rw [<-HX.out];simp) _⟩
  rw [Below.heap_setCell _ _ _ _ (by simp),Below.heap_setCell _ _ _ _ (by simp),Below.heap_setCell _ _ _ _ (by simp)]
  exact Hb2.out
 ·obtain ⟨V,hV⟩:∃ V,V=((W.alloc (.cells #[.int .u64 pos,.int .i64 kind,.slice (some ⟨X+2+1,0,none⟩) D.size D.size] 72)).alloc (.cells (madeCells #[.int .u8 0] D.size) 5)).drew:=⟨_,rfl⟩
  obtain ⟨hVs,hA1,hA2,hA3⟩:=al2' hWs hV
  have hb:V.heap[X+2+1]?=some (.cells (madeCells #[.int .u8 0] D.size) 5 (0,0)):=hA2
  have hY:V.heap[X+2]?=some (.cells #[.int .u64 pos,.int .i64 kind,.slice (some ⟨X+2+1,0,none⟩) D.size D.size] 72 (0,0)):=hA1
  have hR:V.heap[X+1]?=some (.cells #[.int .u64 0,.int .i64 0,.slice none 0 0] 72 (0,0)):=by
   rw [hA3 _ (by omega),HW.out]
   have:=(MapKept.heap_alloc (w.alloc (.cells #[.int .u64 pos,.int .i64 kind,.string D] 43)) (.cells #[.int .u64 0,.int .i64 0,.slice none 0 0] 72)).1
   rwa [show (w.alloc (.cells #[.int .u64 pos,.int .i64 kind,.string D] 43)).heap.size=X+1 from by rw [HX.out];simp] at this
  have hBV:Below w.heap.size w V:=by
   have h0:Below w.heap.size w W:=by rw [HW.out];exact ((Below.refl _ _).alloc (Nat.le_refl _) _).alloc (by simp) _
   rw [hV]
   exact ((h0.alloc h0.size _).alloc (by have:=h0.size;simp;omega) _).drew
  rw [<-hV]
  have HBV:=Lib.hid hBV
  have hcp:=fun ty=>Lib.run_copy_row_string (P:=Tryz.prog) V 70 9 ty 5 (X+2+1) 0 D.size D.size D (madeCells #[.int .u8 0] D.size) 5 Tryz.underlying70 (by kernel_rfl) hb (Nat.le_refl _) (by rw [size_madeCells];simp)
  obtain ⟨V2,hV2⟩:∃ V2,V2=V.setRow (X+2+1) ((madeCells #[.int .u8 0] D.size).toList.take 0 ++ Lib.byteCells D.data.toList ++ (madeCells #[.int .u8 0] D.size).toList.drop (0+D.size)).toArray:=⟨_,rfl⟩
  rw [<-hV2] at hcp
  have hb2:V2.heap[X+2+1]?=some (.cells (Lib.byteCells D.data.toList).toArray 5 (0,0)):=by
   rw [hV2,setRow_heap V _ _ _ _ _ hb]
   congr 3
   rw [List.take_zero,List.nil_append,Nat.zero_add,List.drop_of_length_le (by rw [Array.length_toList,size_madeCells];simp),List.append_nil]
  have hY2:V2.heap[X+2]?=V.heap[X+2]?:=by rw [hV2];exact setRow_other V (X+2+1) (X+2) _ (by omega)
  have hR2:V2.heap[X+1]?=V.heap[X+1]?:=by rw [hV2];exact setRow_other V (X+2+1) (X+1) _ (by omega)
  rw [hY] at hY2
  rw [hR] at hR2
  have hB2:Below w.heap.size w V2:=by rw [hV2];exact below_setRow HBV.out (by rw [<-HX.out];omega) _
  have HB2:=Lib.hid hB2
  have HR2:=Lib.hid (set3 (x:=.int .u64 pos) (y:=.int .i64 kind) (z:=.slice (some ⟨X+2+1,0,none⟩) D.size D.size) hR2)
  have Hb2:=Lib.hid hb2
  have y0:V2.cell? ⟨X+2,0,none⟩=some (.int .u64 pos):=by rw [World.cell?,hY2];rfl
  have y1:V2.cell? ⟨X+2,1,none⟩=some (.int .i64 kind):=by rw [World.cell?,hY2];rfl
  have y2:V2.cell? ⟨X+2,2,none⟩=some (.slice (some ⟨X+2+1,0,none⟩) D.size D.size):=by rw [World.cell?,hY2];rfl
  have r0:V2.cell? ⟨X+1,0,none⟩=some (.int .u64 0):=by rw [World.cell?,hR2];rfl
  have r1:V2.cell? ⟨X+1,1,none⟩=some (.int .i64 0):=by rw [World.cell?,hR2];rfl
  have r2:V2.cell? ⟨X+1,2,none⟩=some (.slice none 0 0):=by rw [World.cell?,hR2];rfl
  have g0:V2.frozen? ⟨X+1,0,none⟩=false:=by rw [World.frozen?,hR2];rfl
  have g1:V2.frozen? ⟨X+1,1,none⟩=false:=by rw [World.frozen?,hR2];rfl
  have g2:V2.frozen? ⟨X+1,2,none⟩=false:=by rw [World.frozen?,hR2];rfl
  have v0:V.cell? ⟨X+2,2,none⟩=some (.slice (some ⟨X+2+1,0,none⟩) D.size D.size):=by rw [World.cell?,hY];rfl
  have v1:V.cell? ⟨X,2,none⟩=some (.string D):=by
   rw [World.cell?,show V.heap[X]?=W.heap[X]? from hA3 _ (by omega),HX0.out];rfl
  have hXV:X < V.heap.size:=by omega
  clear hA1 hA2 hA3 hV hV2 hb hY hR hBV hb2 hY2 hR2 hB2 c0 c1 c2 hmk
  go_wp2
  refine bodyPost_ret (results_cell_row (P:=Tryz.prog) rfl _ _ (X+1) 72 _ (0,0) _ rfl HR2.out Tryz.underlying72 rfl (by kernel_rfl)) rfl ?_
  refine ⟨X+2+1,by rw [<-HX.out];omega,rfl,?_,((HB2.out.setCell (by rw [<-HX.out];simp) _).setCell (by rw [<-HX.out];simp) _).setCell (by rw [<-HX.out];simp) _⟩
  rw [Below.heap_setCell _ _ _ _ (by simp),Below.heap_setCell _ _ _ _ (by simp),Below.heap_setCell _ _ _ _ (by simp)]
  exact Hb2.out
open Go.ChangeShapes Go.WideShapes Go.Deep Go.RowKit
structure Rg where
 pos:Nat
 kind:Int
 data:ByteArray
def rgC (r:Rg):List Value:=[.int .u64 r.pos,.int .i64 r.kind,.string r.data]
theorem rgC_len (r:Rg):(rgC r).length=3:=rfl
def GoodR (r:Rg):Prop:=1<=r.kind/\r.kind<=3/\1<=r.data.size/\r.data.size<=65536
theorem sl_rg {w:World} {B:Nat} {a:Option Addr} {n:Nat} {l:List Rg} (h:SL rgC 3 w B a n l) {k:Nat} (hk:k < n) (hl:k < l.length):
  ∃ b off,a=some ⟨b,off,none⟩/\b < B/\w.cell? ⟨b,off+k*3,none⟩=some (.int .u64 l[k].pos)/\w.cell? ⟨b,off+k*3+1,none⟩=some (.int .i64 l[k].kind)/\w.cell? ⟨b,off+k*3+2,none⟩=some (.string l[k].data):=by
 obtain ⟨b,off,e,h1,h2⟩:=h.cells (h.ne hk)
 refine ⟨b,off,e,h1,?_,?_,?_⟩
 ·exact h2 k hl 0 (by omega)
 ·exact h2 k hl 1 (by omega)
 ·exact h2 k hl 2 (by omega)
theorem info_area:(Tryz.prog.info? 72).map (fun i=>(i.zero,i.size,i.bytes))=some (some (.agg #[.int .u64 0,.int .i64 0,.slice none 0 0]),3,40):=by kernel_rfl
theorem own_ar {w:World} {base:Nat} {v:Value} {n:Nat} {xs:List Value} (h:w.ownsRow base 72 3 v n xs) {k:Nat} (hk:v.ownBlock=some k):base<=k/\∃ cur,w.heap[k]?=some (.cells cur 72 (0,0)):=by
 rcases h.2 with ⟨h,-⟩ | ⟨g,cap,cur,e1,e2,e3,-⟩
 ·rw [h] at hk;cases hk
 ·rw [e1] at hk
  simp only [Value.ownBlock,Option.some.injEq] at hk
  subst hk;exact ⟨e2,cur,e3⟩
theorem ms_end {w2 w3:World} {base p g cap:Nat} {v:Value} {L:List Ar} {a:Ar} {U:Obj} (h:MS w2 base p L) (hp:w2.heap[p]?=some (.cells #[v] 67 (0,0))) (hb:AB w2 base a) (hn:a.blk ∉ L.map Ar.blk)
  (hown:w3.ownsRow base 72 3 (.slice (some ⟨g,0,none⟩) (L.length+1) cap) (L.length+1) (L.flatMap arC ++ arC a)) (hg:(w2.alloc U).grownBy w3 v.ownBlock):
  MS (w3.setCell ⟨p,0,none⟩ (.slice (some ⟨g,0,none⟩) (L.length+1) cap)) base p (L ++ [a])/\Below base w2 (w3.setCell ⟨p,0,none⟩ (.slice (some ⟨g,0,none⟩) (L.length+1) cap)):=by
 have hbase:=h.base
 obtain ⟨v',h1,h2,h3,h4,h5⟩:=h
 rw [hp] at h1
 simp only [Option.some.injEq,Obj.cells.injEq,Array.mk.injEq,List.cons.injEq,and_true] at h1
 subst h1
 have hkeep:∀ (k:Nat) (cs:Array Value) (T:TypeId),T ≠ 72->w2.heap[k]?=some (.cells cs T (0,0))->w3.heap[k]?=some (.cells cs T (0,0)):=by
  intro k cs T hT hk
  have hkl:=lt_of_block hk
  rw [hg.block k (by simp;omega) (fun e=>by obtain ⟨-,cur,hc⟩:=own_ar h3 e.symm;rw [hk] at hc;simp at hc;exact hT hc.2),Below.heap_alloc w2 U k hkl]
  exact hk
 have hp3:=hkeep p _ _ (by decide) hp
 have hAB:∀ b,AB w2 base b->AB (w3.setCell ⟨p,0,none⟩ (.slice (some ⟨g,0,none⟩) (L.length+1) cap)) base b:=by
  intro b ⟨q1,q2⟩
  refine ⟨q1,?_⟩
  rw [Below.heap_setCell _ _ _ _ (fun e=>by simp only [] at e;rw [e,hp] at q2;simp at q2)]
  exact hkeep _ _ _ (by decide) q2
 refine ⟨⟨.slice (some ⟨g,0,none⟩) (L.length+1) cap,?_,h2,?_,fun b hbm=>?_,?_⟩,?_⟩
 ·unfold World.setCell
  simp [hp3,Array.getElem?_modify]
 ·rw [List.flatMap_append,List.length_append,show ([a]:List Ar).flatMap arC=arC a from by simp]
  obtain ⟨k1,k2⟩:=hown
  refine ⟨by simpa using k1,?_⟩
  rcases k2 with ⟨-,k2⟩ | ⟨g',cap',cur,e1,e2,e3,e4⟩
  ·omega
  ·refine .inr ⟨g',cap',cur,e1,e2,?_,e4⟩
   rw [Below.heap_setCell _ _ _ _ (fun e=>by simp only [] at e;rw [e,hp3] at e3;simp at e3)]
   exact e3
 ·rcases List.mem_append.1 hbm with hb' | hb'
  ·exact hAB b (h4 b hb')
  ·rw [List.mem_singleton.1 hb'];exact hAB a hb
 ·rw [List.map_append,List.nodup_append]
  refine ⟨h5,by simp,fun x hx y hy=>?_⟩
  simp at hy
  subst hy
  intro e;subst e;exact hn hx
 ·exact (((Below.refl base w2).alloc hbase U).grown hg (by simp;omega) (fun k hk=>(own_ar h3 hk).1)).setCell h2 _
open Go.ChangeShapes Go.WideShapes Go.Deep Go.RowKit
theorem cmp_lays (blk off size:Nat) (w:World):CmpLays Tryz.prog 18 #[] arC 3 cmpA blk off size w:=
 fun _ _ _ _ x y=>(byPlace_any x y _).mono fun _ _ ⟨he,os,hw⟩=>⟨he,0,os,hw⟩
theorem lt_cmpA (x y:Ar):ltOf cmpA x y=decide (x.pos < y.pos):=by
 unfold ltOf cmpA
 by_cases h1:x.pos < y.pos
 ·simp [h1]
 ·by_cases h2:y.pos < x.pos <;> simp [h1,h2]
theorem swoA:Go.Sort.SWO (ltOf cmpA) where
 irrefl x:=by rw [lt_cmpA];simp
 trans x y z h1 h2:=by rw [lt_cmpA] at *;simp at *;omega
 ntrans x y z h1 h2:=by rw [lt_cmpA] at *;simp at *;omega
theorem sw_other (w:World) (g n:Nat) (d:Array Ar) (os:Array Obj) {k:Nat} (hk:k < w.heap.size) (hne:k ≠ g):(sortWorldK arC 3 w g 0 n d os).heap[k]?=w.heap[k]?:=by
 unfold sortWorldK Go.Sort.grow Go.Sort.putRowK Go.Sort.putRow Go.Sort.mapBlock Go.Sort.ahead
 rw [Array.getElem?_append,if_pos (by simpa using hk),Array.getElem?_modify,if_neg (Ne.symm hne)]
theorem sw_row {w:World} {g n:Nat} {d:Array Ar} {os:Array Obj} {cur:Array Value} {T:TypeId} {fr:Nat × Nat} (h:w.heap[g]?=some (.cells cur T fr)):
  (sortWorldK arC 3 w g 0 n d os).heap[g]?=some (.cells (Go.Sort.putCells id 0 (Go.Sort.flatK arC 3 d) cur) T fr):=by
 unfold sortWorldK Go.Sort.grow Go.Sort.putRowK Go.Sort.putRow Go.Sort.mapBlock Go.Sort.ahead
 rw [Array.getElem?_append,if_pos (by simpa using lt_of_block h),Array.getElem?_modify,if_pos rfl]
 show (w.heap[g]?).map _=_
 rw [h]
 rfl
theorem sw_size (w:World) (g n:Nat) (d:Array Ar) (os:Array Obj):w.heap.size<=(sortWorldK arC 3 w g 0 n d os).heap.size:=by
 unfold sortWorldK Go.Sort.grow Go.Sort.putRowK Go.Sort.putRow Go.Sort.mapBlock Go.Sort.ahead
 simp
theorem holds_ar {w:World} {base g cap:Nat} {L:List Ar} (h:w.ownsRow base 72 3 (.slice (some ⟨g,0,none⟩) L.length cap) L.length (L.flatMap arC)):Go.Sort.HoldsK arC 3 w g 0 L.toArray:=by
 rcases h.2 with ⟨h',-⟩ | ⟨g',cap',cur,e1,e2,e3,e4⟩
 ·cases h'
 ·injection e1 with e1 _ _
  injection e1 with e1
  injection e1 with e1
  subst e1
  intro j hj
  have hsz:(Go.Sort.flatK arC 3 L.toArray).size=L.length*3:=by unfold Go.Sort.flatK;simp
  rw [hsz] at hj
  refine ⟨?_,by rw [World.frozen?,e3];rfl⟩
  rw [Nat.zero_add,h.cellAt j hj,Go.Sort.get_flatK arC 3 L.toArray j (by simpa using hj)]
  have hk:j / 3 < L.length:=by omega
  have:=flat_get arC_len L (j / 3) hk (j % 3) (by omega)
  rw [show j / 3*3+j % 3=j by omega] at this
  rw [this]
  have e5:L.toArray[j / 3]! =L[j / 3]:=by simp [hk]
  rw [e5]
  have hc:j % 3=0\/j % 3=1\/j % 3=2:=by omega
  rcases hc with hc | hc | hc <;> rw [hc] <;> rfl
theorem putCells_take (d:Array Ar) (cur:Array Value) (h:d.size*3<=cur.size):(Go.Sort.putCells id 0 (Go.Sort.flatK arC 3 d) cur).toList.take (d.size*3)=d.toList.flatMap arC:=by
 have hl:(d.toList.flatMap arC).length=d.size*3:=by rw [flat_len arC_len];simp
 have hsz:(Go.Sort.flatK arC 3 d).size=d.size*3:=by unfold Go.Sort.flatK;simp
 apply List.ext_getElem?
 intro j
 by_cases hj:j < d.size*3
 ·rw [List.getElem?_take_of_lt hj]
  have hk:j / 3 < d.toList.length:=by simp;omega
  have:=flat_get arC_len d.toList (j / 3) hk (j % 3) (by omega)
  rw [show j / 3*3+j % 3=j by omega] at this
  rw [this,Array.getElem?_toList,Go.Sort.putCells,Array.getElem?_mapIdx,Array.getElem?_eq_getElem (by omega)]
  simp only [Option.map_some]
  rw [if_pos ⟨Nat.zero_le _,by omega⟩,Nat.sub_zero,id,Go.Sort.get_flatK arC 3 d j hj]
  have e5:d[j / 3]! =d.toList[j / 3]:=by
   have:j / 3 < d.size:=by omega
   simp [this]
  rw [e5]
  have hc:j % 3=0\/j % 3=1\/j % 3=2:=by omega
  rcases hc with hc | hc | hc <;> rw [hc] <;> rfl
 ·rw [List.getElem?_eq_none (by rw [List.length_take];omega),List.getElem?_eq_none (by omega)]
theorem ms_sorted {w:World} {base p g cap n:Nat} {L:List Ar} {d:Array Ar} {os:Array Obj} (h:MS w base p L) (hp:w.heap[p]?=some (.cells #[.slice (some ⟨g,0,none⟩) L.length cap] 67 (0,0))) (hd:d.toList.Perm L):
  MS (sortWorldK arC 3 w g 0 n d os) base p d.toList/\Below base w (sortWorldK arC 3 w g 0 n d os):=by
 have hbase:=h.base
 obtain ⟨v,h1,h2,h3,h4,h5⟩:=h
 rw [hp] at h1
 simp only [Option.some.injEq,Obj.cells.injEq,Array.mk.injEq,List.cons.injEq,and_true] at h1
 subst h1
 have hdl:d.toList.length=L.length:=hd.length_eq
 obtain ⟨k1,k2⟩:=h3
 rcases k2 with ⟨k2,-⟩ | ⟨g',cap',cur,e1,e2,e3,e4,e5,e6,e7⟩
 ·cases k2
 ·injection e1 with e1 e8 e9
  injection e1 with e1
  injection e1 with e1
  subst e1;subst e9
  have hoth:∀ (k:Nat) (cs:Array Value) (T:TypeId),T ≠ 72->w.heap[k]?=some (.cells cs T (0,0))->(sortWorldK arC 3 w g 0 n d os).heap[k]?=some (.cells cs T (0,0)):=by
   intro k cs T hT hk
   rw [sw_other w g n d os (lt_of_block hk) (fun e=>by rw [e,e3] at hk;simp at hk;exact hT hk.2.symm)]
   exact hk
  refine ⟨⟨.slice (some ⟨g,0,none⟩) L.length cap,hoth p _ _ (by decide) hp,h2,⟨?_,.inr ⟨g,cap,_,by rw [hdl],e2,sw_row e3,by omega,e5,?_,?_⟩⟩,fun a ha=>?_,?_⟩,?_⟩
  ·rw [flat_len arC_len]
  ·unfold Go.Sort.putCells;simpa using e6
  ·have:=putCells_take d cur (by have:d.size=L.length:=(by simpa using hdl);rw [e6,this];exact Nat.mul_le_mul_right _ e4)
   simpa using this
  ·obtain ⟨q1,q2⟩:=h4 a (hd.mem_iff.1 ha)
   exact ⟨q1,hoth _ _ _ (by decide) q2⟩
  ·exact (hd.map Ar.blk).nodup_iff.2 h5
  ·exact ⟨rfl,rfl,rfl,sw_size _ _ _ _ _,fun k hk=>sw_other w g n d os (by omega) (by omega)⟩
open Go.ChangeShapes Go.WideShapes Go.Deep Go.RowKit
theorem sort_any {w:World} {base p:Nat} {v:Value} {L:List Ar} (h:MS w base p L) (hp:w.heap[p]?=some (.cells #[v] 67 (0,0))) (hl:L.length<=20000):
  Calls Tryz.prog 17 #[v,.func (.func 18) #[] #[]] w fun e w'=>e=.returned (.tuple #[])/\∃ L':List Ar,L'.Perm L/\Rises L'/\MS w' base p L'/\Below base w w':=by
 have hbase:=h.base
 have hown:w.ownsRow base 72 3 v L.length (L.flatMap arC):=by
  obtain ⟨v',h1,h2,h3,-⟩:=h
  rw [hp] at h1
  simp only [Option.some.injEq,Obj.cells.injEq,Array.mk.injEq,List.cons.injEq,and_true] at h1
  subst h1;exact h3
 by_cases h0:L.length=0
 ·obtain ⟨a,c,rfl⟩:=owns_form hown
  rw [h0]
  have:=AnyF.slices_SortFunc_none Tryz.sortAr a c (.func (.func 18) #[] #[]) w
  change Calls Tryz.prog 17 _ _ _ at this
  refine this.mono ?_
  rintro e w' ⟨he,rfl⟩
  exact ⟨he,L,List.Perm.refl _,fun i j hi=>by omega,h,Below.refl _ _⟩
 ·obtain ⟨g,cap,rfl,hbg,hg,-⟩:=owns_cells hown (by omega)
  have eg:∀ args w,(callFunc 18 args).run Tryz.prog w=.ok (.enter 18 args) w:=enters_of Tryz.func18 (by kernel_rfl) rfl
  have hcon:=AnyQ.slices_SortFunc Tryz.sortAr 3 Tryz.isAgg72 Tryz.sizeOf72 arC arC_len (fun x v hv=>by simp [arC] at hv;rcases hv with rfl | rfl | rfl <;> rfl) cmpA swoA 18 #[] g 0 cap L.toArray w eg (cmp_lays g 0 L.toArray.size w) (holds_ar hown) hg (by simp;omega)
  change Calls Tryz.prog 17 _ _ _ at hcon
  rw [List.size_toArray] at hcon
  refine hcon.mono ?_
  rintro e w' ⟨he,d,n,os,⟨hs,-,hperm⟩,hsort,rfl⟩
  have hds:d.size=L.length:=by simpa using hs
  have hP:d.toList.Perm L:=by
   have e1:(d.extract 0 L.length)=d:=by rw [<-hds];exact Array.extract_size
   have e2:(L.toArray.extract 0 L.length)=L.toArray:=by
    have:L.length=L.toArray.size:=by simp
    rw [this];exact Array.extract_size
   rw [e1,e2] at hperm
   exact hperm
  obtain ⟨q1,q2⟩:=ms_sorted (n:=n) (os:=os) h hp hP
  refine ⟨he,d.toList,hP,fun i j hi hj hij=>?_,q1,q2⟩
  rcases Nat.lt_or_ge i j with h1 | h1
  ·have:=hsort i j (Nat.zero_le _) h1 (by rw [<-hds];simpa using hj)
   rw [lt_cmpA] at this
   have hi':i < d.size:=by simpa using hi
   have hj':j < d.size:=by simpa using hj
   simp only [getElem!_pos,hi',hj',decide_eq_false_iff_not] at this
   simp only [Array.getElem_toList]
   omega
  ·obtain rfl:i=j:=by omega
   exact Nat.le_refl _
open Go.ChangeShapes Go.WideShapes Go.Deep Go.RowKit
def keyA (a:Ar):Nat × Int × List UInt8:=(a.pos,a.kind,a.bs)
def keyR (r:Rg):Nat × Int × List UInt8:=(r.pos,r.kind,r.data.data.toList)
def DisjK (x y:Nat × Int × List UInt8):Prop:=x.1+x.2.2.length<=y.1\/y.1+y.2.2.length<=x.1
def NewP (l:List Rg) (w:World) (e:Ending) (w':World):Prop:=
 (∃ er:Int,er ≠ 0/\e=.returned (.tuple #[.pointer none,.int .i64 er])/\Below w.heap.size w w'/\((∃ r ∈ l,¬ (GoodR r/\r.pos<=4611686018427387904))\/¬ (l.map keyR).Pairwise DisjK))\/
 (∃ p,e=.returned (.tuple #[.pointer (some ⟨p,0,none⟩),.int .i64 0])/\Below w.heap.size w w')
theorem new_bad {l:List Rg} {k:Nat} (hk:k < l.length) (h:¬ (GoodR l[k]/\l[k].pos<=4611686018427387904)):(∃ r ∈ l,¬ (GoodR r/\r.pos<=4611686018427387904))\/¬ (l.map keyR).Pairwise DisjK:=.inl ⟨l[k],List.getElem_mem _,h⟩
theorem len_of {l:List Rg} {L L':List Ar} (hk:L.map keyA=l.map keyR) (hp:L'.Perm L) (h1:∀ (j:Nat) (h:j < l.length),GoodR l[j]) {a:Ar} (ha:a ∈ L'):a.bs.length<=65536:=by
 have hK:(L'.map keyA).Perm (l.map keyR):=by rw [<-hk];exact hp.map keyA
 have hm:keyA a ∈ l.map keyR:=hK.mem_iff.1 (List.mem_map_of_mem ha)
 obtain ⟨r,hr,he⟩:=List.mem_map.1 hm
 obtain ⟨j,hj,rfl⟩:=List.getElem_of_mem hr
 obtain ⟨-,-,g3,g4⟩:=h1 j hj
 unfold keyA keyR at he
 simp only [Prod.mk.injEq] at he
 obtain ⟨e1,-,e3⟩:=he
 have e4:a.bs.length=l[j].data.size:=by rw [<-e3];rfl
 omega
theorem pos_of {l:List Rg} {L L':List Ar} (hk:L.map keyA=l.map keyR) (hp:L'.Perm L) (h1:∀ (j:Nat) (h:j < l.length),l[j].pos<=4611686018427387904) {a:Ar} (ha:a ∈ L'):a.pos<=4611686018427387904:=by
 have hK:(L'.map keyA).Perm (l.map keyR):=by rw [<-hk];exact hp.map keyA
 have hm:keyA a ∈ l.map keyR:=hK.mem_iff.1 (List.mem_map_of_mem ha)
 obtain ⟨r,hr,he⟩:=List.mem_map.1 hm
 obtain ⟨j,hj,rfl⟩:=List.getElem_of_mem hr
 have:=h1 j hj
 unfold keyA keyR at he
 simp only [Prod.mk.injEq] at he
 omega
theorem disj_adj {l:List Rg} {L L':List Ar} (hk:L.map keyA=l.map keyR) (hp:L'.Perm L) (hr:Rises L') (hg:∀ (j:Nat) (h:j < l.length),GoodR l[j]) (hpw:(l.map keyR).Pairwise DisjK) {j:Nat} (h:j+1 < L'.length):L'[j].pos+L'[j].bs.length<=L'[j+1].pos:=by
 have hK:(L'.map keyA).Perm (l.map keyR):=by rw [<-hk];exact hp.map keyA
 have hpw':(L'.map keyA).Pairwise DisjK:=(hK.pairwise_iff (fun {x y} hd=>hd.symm)).2 hpw
 rw [List.pairwise_map,List.pairwise_iff_getElem] at hpw'
 have d:=hpw' j (j+1) (by omega) h (by omega)
 unfold DisjK keyA at d
 simp only at d
 rcases d with d | d
 ·exact d
 ·have h1:=hr j (j+1) (by omega) h (by omega)
  have hm:keyA L'[j+1] ∈ l.map keyR:=hK.mem_iff.1 (List.mem_map_of_mem (List.getElem_mem _))
  obtain ⟨r,hrm,he⟩:=List.mem_map.1 hm
  obtain ⟨i,hi,rfl⟩:=List.getElem_of_mem hrm
  obtain ⟨-,-,g3,-⟩:=hg i hi
  unfold keyA keyR at he
  simp only [Prod.mk.injEq] at he
  obtain ⟨e1,-,e3⟩:=he
  have e4:L'[j+1].bs.length=l[i].data.size:=by rw [<-e3];rfl
  omega
theorem New_walk (a:Option Addr) (n c:Nat) (l:List Rg) (w:World) (hl:SL rgC 3 w w.heap.size a n l) (hn:n<=20000) (hp:∀ r ∈ l,r.pos < 18446744073709551616) (hz:∀ r ∈ l,r.data.size<=maxLen):
  Calls Tryz.prog 7 #[.slice a n c] w (NewP l w):=by
 have hln:=hl.len
 have HL:=Lib.hid hl
 have HLN:=Lib.hid hln
 have HZ:=Lib.hid hz
 have HPP:=Lib.hid hp
 have HB:=Lib.hid (Below.refl w.heap.size w)
 clear hl hln hz hp
 go_enter Tryz.func7,Tryz.ntmps7
 go_wp2
 go_loopw [15] (fun i wr=>∃ k:Nat,k<=n/\i=.int .i64 k/\Hid (∀ (j:Nat) (h:j < l.length),j < k->GoodR l[j])/\Below w.heap.size w wr) (fun i _=>n - (intOf i).toNat)
 case atStart=>exact ⟨0,by omega,rfl,Lib.hid (fun j h hj=>by omega),HB.out⟩
 case round=>
  obtain ⟨k,hk,rfl,H1,hb⟩:=hrel
  replace HB:=Lib.hid hb
  clear hb
  by_cases hlt:k < n
  ·have hkl:k < l.length:=by rw [<-HLN.out];exact hlt
   obtain ⟨b,off,rfl,hbB,c0,c1,c2⟩:=sl_rg (HL.out.below HB.out) hlt hkl
   have hz:=HZ.out l[k] (List.getElem_mem _)
   have HN:Hid (GoodR l[k]->∀ (j:Nat) (h:j < l.length),j < k+1->GoodR l[j]):=Lib.hid (fun h0 j h hj=>by
    by_cases e:j=k
    ·subst e;exact h0
    ·exact H1.out j h (by omega))
   have HX:=Lib.hid (new_bad hkl)
   generalize l[k]=r at*
   obtain ⟨P,K,D⟩:=r
   simp only [] at c0 c1 c2 hz
   unfold maxLen at hz
   clear hkl
   by_cases g1:K < 1
   ·go_wp2
    go_ret2
    exact .inl ⟨1,by decide,rfl,HB.out.alloc HB.out.size _,HX.out (fun h=>by have:=h.1.1;(try simp only [] at this);omega)⟩
   by_cases g2:3 < K
   ·go_wp2
    go_ret2
    exact .inl ⟨1,by decide,rfl,HB.out.alloc HB.out.size _,HX.out (fun h=>by have:=h.1.2.1;(try simp only [] at this);omega)⟩
   by_cases g3:D.size=0
   ·have g3':((D.size:Nat):Int)=0:=by omega
    go_wp2
    go_ret2
    exact .inl ⟨1,by decide,rfl,HB.out.alloc HB.out.size _,HX.out (fun h=>by have:=h.1.2.2.1;(try simp only [] at this);omega)⟩
   by_cases g4:65536 < D.size
   ·go_wp2
    go_ret2
    exact .inl ⟨1,by decide,rfl,HB.out.alloc HB.out.size _,HX.out (fun h=>by have:=h.1.2.2.2;simp only [] at this;omega)⟩
   have g3':((D.size:Int) == 0)=false:=by rw [beq_eq_false_iff_ne];omega
   have g5:1<=D.size:=by omega
   clear g3
   go_wp2
   go_roundw
   case rel=>exact ⟨k+1,by omega,by go_num,Lib.hid (HN.out ⟨by simp only [];omega,by simp only [];omega,by simp only [];omega,by simp only [];omega⟩),HB.out.alloc HB.out.size _⟩
   case measure=>simp [intOf];omega
  ·obtain rfl:n=k:=by omega
   have HG1:Hid (∀ (j:Nat) (h:j < l.length),GoodR l[j]):=Lib.hid (fun j h=>H1.out j h (by rw [HLN.out];exact h))
   clear H1
   go_wp2
   go_loopw [42] (fun i wr=>∃ k:Nat,k<=n/\i=.int .i64 k/\Hid (∀ (j:Nat) (h:j < l.length),j < k->l[j].pos<=4611686018427387904)/\Below w.heap.size w wr) (fun i _=>n - (intOf i).toNat)
   case atStart=>exact ⟨0,by omega,rfl,Lib.hid (fun j h hj=>by omega),HB.out⟩
   case round=>
    obtain ⟨k,hk,rfl,H1,hb⟩:=hrel
    replace HB:=Lib.hid hb
    clear hb
    by_cases hlt:k < n
    ·have hkl:k < l.length:=by rw [<-HLN.out];exact hlt
     obtain ⟨b,off,hae,hbB,c0,c1,c2⟩:=sl_rg (HL.out.below HB.out) hlt hkl
     subst hae
     have HN:Hid (l[k].pos<=4611686018427387904->∀ (j:Nat) (h:j < l.length),j < k+1->l[j].pos<=4611686018427387904):=Lib.hid (fun h0 j h hj=>by
      by_cases e:j=k
      ·subst e;exact h0
      ·exact H1.out j h (by omega))
     have HX:=Lib.hid (new_bad hkl)
     generalize l[k]=r at*
     obtain ⟨P,K,D⟩:=r
     simp only [] at c0 c1 c2
     clear hkl
     by_cases g1:4611686018427387904 < P
     ·go_wp2
      go_ret2
      exact .inl ⟨4,by decide,rfl,HB.out.alloc HB.out.size _,HX.out (fun h=>by have:=h.2;omega)⟩
     go_wp2
     go_roundw
     case rel=>exact ⟨k+1,by omega,by go_num,Lib.hid (HN.out (by simp only [];omega)),HB.out.alloc HB.out.size _⟩
     case measure=>simp [intOf];omega
    ·obtain rfl:n=k:=by omega
     have HG2:Hid (∀ (j:Nat) (h:j < l.length),l[j].pos<=4611686018427387904):=Lib.hid (fun j h=>H1.out j h (by rw [HLN.out];exact h))
     clear H1
     obtain ⟨p,hp⟩:∃ p,p=wr.heap.size:=⟨_,rfl⟩
     have HM0:Hid (MS (wr.alloc (.cells #[.slice none 0 0] 67)) w.heap.size p []):=Lib.hid ⟨.slice none 0 0,by rw [hp];exact (MapKept.heap_alloc wr _).1,by rw [hp];exact HB.out.size,⟨rfl,.inl ⟨rfl,rfl⟩⟩,by simp,by simp⟩
     replace HB:=Lib.hid (HB.out.alloc HB.out.size (.cells #[.slice none 0 0] 67))
     have hpb:w.heap.size<=p:=by have:=HM0.out;obtain ⟨-,-,h,-⟩:=this;exact h
     have HPE:=Lib.hid hp
     clear hp
     go_wp2
     rw [<-HPE.out]
     go_loopw [54] (fun i wr=>∃ (k:Nat) (L:List Ar),k<=n/\i=.int .i64 k/\L.length=k/\Hid (L.map keyA=(l.take k).map keyR)/\MS wr w.heap.size p L/\Below w.heap.size w wr) (fun i _=>n - (intOf i).toNat)
     case atStart=>exact ⟨0,[],by omega,rfl,rfl,Lib.hid rfl,HM0.out,HB.out⟩
     case round=>
      obtain ⟨k,L,hk,rfl,hLk,HK,hms,hb⟩:=hrel
      replace HB:=Lib.hid hb
      have HM:=Lib.hid hms
      clear hb hms HM0
      by_cases hlt:k < n
      ·have hkl:k < l.length:=by rw [<-HLN.out];exact hlt
       obtain ⟨b,off,hae,hbB,c0,c1,c2⟩:=sl_rg (HL.out.below HB.out) hlt hkl
       subst hae
       have HKN:Hid (∀ x:Ar,keyA x=keyR l[k]->(L ++ [x]).map keyA=(l.take (k+1)).map keyR):=Lib.hid (fun x hx=>by
        rw [List.map_append,HK.out,List.take_succ_eq_append_getElem hkl,List.map_append,List.map_singleton,List.map_singleton,hx])
       have hgr:=HG1.out k hkl
       generalize l[k]=r at*
       obtain ⟨P,K,D⟩:=r
       obtain ⟨-,-,d1,d2⟩:=hgr
       simp only [] at c0 c1 c2 d1 d2
       clear hkl
       obtain ⟨v,h1,h2,h3,h4,h5⟩:=HM.out
       rw [hLk] at h3
       obtain ⟨va,vc,rfl⟩:=owns_form h3
       obtain ⟨R,hR⟩:∃ R,R=wr.heap.size:=⟨_,rfl⟩
       obtain ⟨W,hW⟩:∃ W,W=wr.alloc (.cells #[.int .u64 P,.int .i64 K,.string D] 43):=⟨_,rfl⟩
       have hWB:Below wr.heap.size wr W:=by rw [hW];exact (Below.refl _ _).alloc (Nat.le_refl _) _
       have hRW:W.heap[R]?=some (.cells #[.int .u64 P,.int .i64 K,.string D] 43 (0,0)):=by rw [hW,hR];exact (MapKept.heap_alloc wr _).1
       have hpW:=(hWB.block p (lt_of_block h1)).trans h1
       have c3:W.cell? ⟨R,0,none⟩=some (.int .u64 P):=by rw [World.cell?,hRW];rfl
       have c4:W.cell? ⟨R,1,none⟩=some (.int .i64 K):=by rw [World.cell?,hRW];rfl
       have c5:W.cell? ⟨R,2,none⟩=some (.string D):=by rw [World.cell?,hRW];rfl
       have p0:W.cell? ⟨p,0,none⟩=some (.slice va k vc):=by rw [World.cell?,hpW];rfl
       have HMW:=Lib.hid (HM.out.below hWB)
       have HOW:=Lib.hid (owns_below h3 hWB)
       have HpW:=Lib.hid hpW
       have hRl:R < W.heap.size:=lt_of_block hRW
       have hpl:p < W.heap.size:=lt_of_block hpW
       have HWB:=Lib.hid hWB
       have HW:=Lib.hid hW
       have HRE:=Lib.hid hR
       have hWb:w.heap.size<=W.heap.size:=by omega
       have hnr:(Value.slice va k vc).ownBlock ≠ some R:=fun e=>by
        obtain ⟨-,cur,hc⟩:=own_ar h3 e
        have:=lt_of_block hc;omega
       clear h1 h2 h3 h4 h5 hR hW hWB hRW hpW
       obtain ⟨i0,hi0,hz0,hz1,hz2⟩:=info_parts info_area
       go_wp2_with fail
       rw [<-HW.out,<-HRE.out]
       have hno:(Value.slice va k vc).ownBlock ≠ some p:=fun e=>by
        obtain ⟨-,cur,hc⟩:=own_ar HOW.out e
        have:=HpW.out
        rw [this] at hc;simp at hc
       go_region_law ((first
        | (go_simp;go_at_call 16;refine (newArea_any P K D W.drew d1 d2).mono ?_;rintro e w2 ⟨b2,hb2,rfl,hb3,hb4⟩;have hb5:=((Below.refl W.heap.size W).drew).trans hb4;have hp2:p < w2.heap.size:=Nat.lt_of_lt_of_le hpl hb5.size;have hR2:R < w2.heap.size:=Nat.lt_of_lt_of_le hRl hb5.size;have HM2:=Lib.hid (HMW.out.below hb5);have HO2:=Lib.hid (owns_below HOW.out hb5);have s0:w2.cell? ⟨p,0,none⟩=some (.slice va k vc):=(hb4.cell (p:=⟨p,0,none⟩) hpl).trans p0;have s1:w2.cell? ⟨R,0,none⟩=some (.int .u64 P):=(hb4.cell (p:=⟨R,0,none⟩) hRl).trans c3;have s2:w2.cell? ⟨R,1,none⟩=some (.int .i64 K):=(hb4.cell (p:=⟨R,1,none⟩) hRl).trans c4;have s3:w2.cell? ⟨R,2,none⟩=some (.string D):=(hb4.cell (p:=⟨R,2,none⟩) hRl).trans c5;have HB5:=Lib.hid hb5;have HB3:=Lib.hid hb3;have s4:w2.frozen? ⟨p,0,none⟩=false:=(by rw [World.frozen?,(HB5.out.block p hpl).trans HpW.out];rfl);clear hb3 hb4 hb5)
        | (refine step_append_lies _ (by rfl) _ _ _ (by rfl) w.heap.size 72 i0 _ 3 40 Tryz.underlying65 hi0 hz0 hz1 hz2 rfl (by omega) (.slice va k vc) k (L.flatMap arC) (by rfl) (HO2.out.alloc _) ⟨w2.heap.size,0,none⟩ 1 1 (arC ⟨P,K,b2,D.data.toList⟩) (by rfl) (by rfl) (World.news_of_block (cs:=#[.int .u64 P,.int .i64 K,.slice (some ⟨b2,0,none⟩) D.size D.size]) (t:=72) (fr:=(0,0)) (heap_alloc_new w2 _)) (by simp [arC,Value.oneCell']) (by omega) (by unfold maxLen;omega) (by omega) (by simp;omega) (w2.heap.size+1) (by simp) ?_;intro g cap w3 hown3 hgrow hat hlt3;have t0:w3.cell? ⟨p,0,none⟩=some (.slice va k vc):=(hgrow.cell_far _ (by simp;omega) (Ne.symm hno)).trans ((World.cell?_alloc_past (w:=w2) _ _ _ hp2).trans s0);have t1:w3.cell? ⟨R,0,none⟩=some (.int .u64 P):=(hgrow.cell_far _ (by simp;omega) (Ne.symm hnr)).trans ((World.cell?_alloc_past (w:=w2) _ _ _ hR2).trans s1);have t2:w3.cell? ⟨R,1,none⟩=some (.int .i64 K):=(hgrow.cell_far _ (by simp;omega) (Ne.symm hnr)).trans ((World.cell?_alloc_past (w:=w2) _ _ _ hR2).trans s2);have t3:w3.cell? ⟨R,2,none⟩=some (.string D):=(hgrow.cell_far _ (by simp;omega) (Ne.symm hnr)).trans ((World.cell?_alloc_past (w:=w2) _ _ _ hR2).trans s3);have t4:w3.frozen? ⟨p,0,none⟩=false:=(hgrow.frozen_far _ (by simp;omega) (Ne.symm hno)).trans ((World.frozen?_alloc_past (w:=w2) _ _ _ hp2).trans s4))))
       all_goals
        have hp2':=(HB5.out.block p hpl).trans HpW.out
        have hnew:b2 ∉ L.map Ar.blk:=fun hm=>by
         obtain ⟨y,hy,hye⟩:=List.mem_map.1 hm
         have hay:AB W w.heap.size y:=by obtain ⟨-,-,-,-,h4,-⟩:=HMW.out;exact h4 y hy
         have h9:=lt_of_block hay.2
         have h8:W.heap.size<=b2:=hb2
         omega
        have hE:=ms_end HM2.out hp2' (a:=⟨P,K,b2,D.data.toList⟩) ⟨Nat.le_trans hWb hb2,HB3.out⟩ hnew (by rw [hLk];exact hown3) hgrow
        have HE:=Lib.hid hE
        rw [hLk] at HE
        have HKN2:=Lib.hid (HKN.out ⟨P,K,b2,D.data.toList⟩ rfl)
        clear hE hp2' hnew hown3 hgrow hat
        go_wp2
        go_roundw
        case rel=>exact ⟨k+1,L ++ [⟨P,K,b2,D.data.toList⟩],by omega,by go_num,by simp [hLk],HKN2,HE.out.1,((HB.out.trans (HWB.out.mono HB.out.size)).trans (HB5.out.mono hWb)).trans HE.out.2⟩
        case measure=>simp [intOf];omega
      ·obtain rfl:n=k:=by omega
       have hkeys:(L.map keyA)=l.map keyR:=by rw [HK.out,List.take_of_length_le (by rw [HLN.out];exact Nat.le_refl _)]
       obtain ⟨v,h1,-⟩:=HM.out
       have HS:=Lib.hid (sort_any HM.out h1 (by omega))
       have p0:wr.cell? ⟨p,0,none⟩=some v:=by rw [World.cell?,h1];rfl
       have HKE:=Lib.hid hkeys
       clear h1 hkeys HK
       go_wp2_with fail
       refine HS.out.mono ?_
       rintro e w2 ⟨rfl,L',hperm,hris,hms,hb⟩
       have HM2:=Lib.hid hms
       have HP2:=Lib.hid hperm
       have HR2:=Lib.hid hris
       replace HB:=Lib.hid (HB.out.trans hb)
       have hLn:L'.length=n:=by rw [hperm.length_eq,hLk]
       clear hb hms hperm hris HM HS p0
       go_wp2
       go_loopw [11] (fun i wr=>∃ k:Nat,1<=k/\(k=1\/k<=n)/\i=.int .i64 k/\Hid (∀ (j:Nat) (h:j+1 < L'.length),j+1 < k->L'[j].pos+L'[j].bs.length<=L'[j+1].pos)/\MS wr w.heap.size p L'/\Below w.heap.size w wr) (fun i _=>n - (intOf i).toNat)
       case atStart=>exact ⟨1,by omega,.inl rfl,rfl,Lib.hid (fun j h hj=>by omega),HM2.out,HB.out⟩
       case round=>
        obtain ⟨k,hk1,hk,rfl,H1,hms,hb⟩:=hrel
        replace HB:=Lib.hid hb
        have HM:=Lib.hid hms
        clear hb hms
        obtain ⟨v',h1,-,h3,-⟩:=HM.out
        rw [hLn] at h3
        obtain ⟨va,vc,rfl⟩:=owns_form h3
        have p0:wr.cell? ⟨p,0,none⟩=some (.slice va n vc):=by rw [World.cell?,h1];rfl
        have hpl:p < wr.heap.size:=lt_of_block h1
        clear h1 h3
        by_cases hlt:k < n
        ·obtain ⟨j,rfl⟩:∃ j,k=j+1:=⟨k - 1,by omega⟩
         obtain ⟨g,cap,p1,hgl,c0,c1,c2⟩:=ar_cells HM.out (show j < L'.length by omega)
         obtain ⟨g',cap',p2,-,c3,c4,c5⟩:=ar_cells HM.out (show j+1 < L'.length by omega)
         rw [p0] at p1 p2
         injection p1 with p1
         injection p1 with p1 p1n p1c
         injection p2 with p2
         injection p2 with p2 p2n p2c
         clear p1n p2n
         rw [p1] at p2
         injection p2 with p2
         injection p2 with p2 p2o p2s
         clear p2o p2s
         subst p1 p1c p2 p2c
         have hle:=HR2.out j (j+1) (by omega) (by omega) (by omega)
         have HN:Hid (L'[j].pos+L'[j].bs.length<=L'[j+1].pos->∀ (i:Nat) (h:i+1 < L'.length),i+1 < j+1+1->L'[i].pos+L'[i].bs.length<=L'[i+1].pos):=Lib.hid (fun h0 i h hi=>by
          by_cases e:i=j
          ·subst e;exact h0
          ·exact H1.out i h (by omega))
         have HDj:Hid ((l.map keyR).Pairwise DisjK->L'[j].pos+L'[j].bs.length<=L'[j+1].pos):=Lib.hid (fun hpw=>disj_adj HKE.out HP2.out HR2.out HG1.out hpw (by omega))
         have hM65:=len_of HKE.out HP2.out HG1.out (a:=L'[j]) (List.getElem_mem _)
         have hP2:=pos_of HKE.out HP2.out HG2.out (a:=L'[j+1]) (List.getElem_mem _)
         generalize L'[j+1]=A2 at*
         generalize L'[j]=A1 at*
         obtain ⟨P1,K1,X1,S1⟩:=A1
         obtain ⟨P2,K2,X2,S2⟩:=A2
         simp only [] at c0 c1 c2 c3 c4 c5 hle hM65 hP2
         obtain ⟨M,hM⟩:∃ M,M=S1.length:=⟨_,rfl⟩
         rw [<-hM] at hM65 c2
         have HMM:=Lib.hid hM
         obtain ⟨R,hR⟩:∃ R,R=wr.heap.size:=⟨_,rfl⟩
         obtain ⟨W,hW⟩:∃ W,W=wr.alloc (.cells #[.int .u64 P1,.int .i64 K1,.slice (some ⟨X1,0,none⟩) M M] 72):=⟨_,rfl⟩
         have hWB:Below wr.heap.size wr W:=by rw [hW];exact (Below.refl _ _).alloc (Nat.le_refl _) _
         have hRW:W.heap[R]?=some (.cells #[.int .u64 P1,.int .i64 K1,.slice (some ⟨X1,0,none⟩) M M] 72 (0,0)):=by rw [hW,hR];exact (MapKept.heap_alloc wr _).1
         have HMW:=Lib.hid (HM.out.below hWB)
         have HB2:=Lib.hid (HB.out.trans (hWB.mono HB.out.size))
         have w0:W.cell? ⟨p,0,none⟩=some (.slice (some ⟨g,0,none⟩) n vc):=(hWB.cell (p:=⟨p,0,none⟩) hpl).trans p0
         have w3:W.cell? ⟨g,(j+1)*3,none⟩=some (.int .u64 P2):=(hWB.cell (p:=⟨g,(j+1)*3,none⟩) hgl).trans c3
         have r0:W.cell? ⟨R,0,none⟩=some (.int .u64 P1):=by rw [World.cell?,hRW];rfl
         have r2:W.cell? ⟨R,2,none⟩=some (.slice (some ⟨X1,0,none⟩) M M):=by rw [World.cell?,hRW];rfl
         obtain ⟨F,hF⟩:∃ F,F=P2 - P1:=⟨_,rfl⟩
         have hxF:(P2:Int) - P1=(F:Int):=by omega
         have hFeq:P1+F=P2:=by omega
         have hFw:IntKind.u64.wrap (F:Int)=(F:Int):=by rw [IntKind.wrap_u64,Int.emod_eq_of_lt (by omega) (by omega)]
         have HW:=Lib.hid hW
         have HRE:=Lib.hid hR
         have HFE:=Lib.hid hFeq
         clear hW hR hWB hRW hF hFeq hle hM hP2
         by_cases hov:F < M
         ·go_wp2_with fail
          rw [<-HW.out,<-HRE.out]
          go_quiet (fail)
          go_wp2
          go_ret2
          exact .inl ⟨7,by decide,rfl,below_drewN HB2.out _,.inr (fun hpw=>by have h1:=HDj.out hpw;have h2:=HFE.out;have h3:=HMM.out;(try simp only [] at h1);omega)⟩
         ·go_wp2_with fail
          rw [<-HW.out,<-HRE.out]
          go_quiet (fail)
          go_wp2
          go_roundw
          case rel=>exact ⟨j+1+1,by omega,.inr (by omega),by go_num,Lib.hid (HN.out (by have h1:=HFE.out;have h2:=HMM.out;show P1+S1.length<=P2;omega)),HMW.out.below (below_refl_drewN _ _),below_drewN HB2.out _⟩
          case measure=>simp [intOf];omega
        ·go_wp2
         go_ret2
         exact .inr ⟨p,rfl,HB.out⟩
end Me
end Go.Proofs.YtobdldadfipcgaaGreatDoor
