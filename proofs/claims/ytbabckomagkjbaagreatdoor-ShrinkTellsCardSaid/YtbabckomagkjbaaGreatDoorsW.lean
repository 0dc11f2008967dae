/- shrink: two orders, joined: the closure; joined. shrink: the sort of what stands. shrink: standing. -/
import Derived.Test.YtbabckomagkjbaaGreatDoorsV
import Derived.Shelf.SlSortCmp.NoneTotal
import Derived.Shelf.Lay
import Derived.Ground.SlsfProg
set_option maxRecDepth 100000
set_option maxHeartbeats 3000000
set_option linter.unusedVariables false
set_option linter.unusedSimpArgs false
namespace Go.Proofs.YtbabckomagkjbaaGreatDoor
open Go.ChangeShapes Go.WideShapes Go.Deep Go.RowKit
def Grown (w w':World):Prop:=∃ q os,w'=Go.Sort.grow (w.drewN q) os
theorem Grown.refl (w:World):Grown w w:=⟨0,#[],by rw [Go.Sort.grow_empty];rfl⟩
theorem grown_drew (w:World):Grown w w.drew:=⟨1,#[],by rw [Go.Sort.grow_empty];rfl⟩
theorem Grown.trans {a b c:World} (h:Grown a b) (h':Grown b c):Grown a c:=by
 obtain ⟨q,os,rfl⟩:=h
 obtain ⟨q',os',rfl⟩:=h'
 exact ⟨_,_,grown_grow a q q' os os'⟩
theorem Grown.cell {a b:World} (h:Grown a b) {p:Addr} (hp:p.block < a.heap.size):b.cell? p=a.cell? p:=by
 obtain ⟨q,os,rfl⟩:=h
 exact grow_cell hp
theorem Grown.below {a b:World} (h:Grown a b):Below a.heap.size a b:=by
 obtain ⟨q,os,rfl⟩:=h
 refine ⟨rfl,rfl,rfl,?_,fun k hk=>?_⟩
 ·show a.heap.size<=(a.heap ++ os).size
  simp
 ·show (a.heap ++ os)[k]?=a.heap[k]?
  rw [Array.getElem?_append,if_pos hk]
theorem joined1_any (u:World) (c1 c2:Nat) (r1 r2 a b:Int) (o1 o2:Value) (h1:c1 < u.heap.size) (h2:c2 < u.heap.size)
  (x1:u.cell? ⟨c1,0,none⟩=some (.func (.func 83) #[o1] #[])) (x2:u.cell? ⟨c2,0,none⟩=some (.func (.func 83) #[o2] #[]))
  (k1:∀ v,Grown u v->Calls Tryz.prog 83 #[o1,.int .i64 a,.int .i64 b] v (GrowP r1 v)) (k2:∀ v,Grown u v->Calls Tryz.prog 83 #[o2,.int .i64 a,.int .i64 b] v (GrowP r2 v)):
  Calls Tryz.prog 99 #[.int .i64 a,.int .i64 b,.pointer (some ⟨c1,0,none⟩),.pointer (some ⟨c2,0,none⟩)] u (GrowP (orI r1 r2) u):=by
 have H1:=Lib.hid k1
 have H2:=Lib.hid k2
 have HKp:Hid (∀ v,Grown u v->(fun v=>v.cell? ⟨c1,0,none⟩=some (.func (.func 83) #[o1] #[])/\v.cell? ⟨c2,0,none⟩=some (.func (.func 83) #[o2] #[])) v):=Lib.hid (fun v hv=>⟨(hv.cell (p:=⟨c1,0,none⟩) h1).trans x1,(hv.cell (p:=⟨c2,0,none⟩) h2).trans x2⟩)
 clear k1 k2 h1 h2 x1 x2
 go_enter Tryz.func99,Tryz.ntmps99
 go_wp2_with fail
 refine wp_region_held_drew (S:=fun v=>v.cell? ⟨c1,0,none⟩=some (.func (.func 83) #[o1] #[])/\v.cell? ⟨c2,0,none⟩=some (.func (.func 83) #[o2] #[])) (by kernel_rfl) (HKp.out _ (grown_drew u)) (fun hHeld=>?_)
 refine wpAnyH_take (i:=0) (v:=?_) rfl (by kernel_rfl) (by kernel_rfl) (by kernel_rfl) (fun _ _ _ h=>h) (Or.inl ⟨by kernel_rfl,?_⟩) hHeld ?_
 rotate_left 1
 ·intro w hSw;(try dsimp only at hSw);obtain ⟨x1,x2⟩:=hSw;go_simp;(try with_reducible rfl)
 (try simp only [Act.put,List.setIfInBounds_toArray,List.set_cons_zero,List.set_cons_succ])
 refine wpAnyH_take (i:=1) (v:=?_) rfl (by kernel_rfl) (by kernel_rfl) (by kernel_rfl) (fun _ _ _ h=>h) (Or.inl ⟨by kernel_rfl,?_⟩) hHeld ?_
 rotate_left 1
 ·intro w hSw;(try dsimp only at hSw);obtain ⟨x1,x2⟩:=hSw;go_simp;(try with_reducible rfl)
 (try simp only [Act.put,List.setIfInBounds_toArray,List.set_cons_zero,List.set_cons_succ])
 refine wpAnyH_take (i:=2) (v:=?_) rfl (by kernel_rfl) (by kernel_rfl) (by kernel_rfl) (fun _ _ _ h=>h) (Or.inl ⟨by kernel_rfl,?_⟩) hHeld ?_
 rotate_left 1
 ·intro w hSw;(try dsimp only at hSw);obtain ⟨x1,x2⟩:=hSw;go_simp;(try with_reducible rfl)
 (try simp only [Act.put,List.setIfInBounds_toArray,List.set_cons_zero,List.set_cons_succ])
 refine wpAnyH_take (i:=4) (v:=?_) rfl (by kernel_rfl) (by kernel_rfl) (by kernel_rfl) (fun _ _ _ h=>h) (Or.inl ⟨by kernel_rfl,?_⟩) hHeld ?_
 rotate_left 1
 ·intro w hSw;(try dsimp only at hSw);obtain ⟨x1,x2⟩:=hSw;go_simp;(try with_reducible rfl)
 (try simp only [Act.put,List.setIfInBounds_toArray,List.set_cons_zero,List.set_cons_succ])
 refine wpAnyH_take (i:=5) (v:=?_) rfl (by kernel_rfl) (by kernel_rfl) (by kernel_rfl) (fun _ _ _ h=>h) (Or.inl ⟨by kernel_rfl,?_⟩) hHeld ?_
 rotate_left 1
 ·intro w hSw;(try dsimp only at hSw);obtain ⟨x1,x2⟩:=hSw;go_simp;(try with_reducible rfl)
 (try simp only [Act.put,List.setIfInBounds_toArray,List.set_cons_zero,List.set_cons_succ])
 refine wpAnyH_take (i:=6) (v:=?_) rfl (by kernel_rfl) (by kernel_rfl) (by kernel_rfl) (fun _ _ _ h=>h) (Or.inl ⟨by kernel_rfl,?_⟩) hHeld ?_
 rotate_left 1
 ·intro w hSw;(try dsimp only at hSw);obtain ⟨x1,x2⟩:=hSw;go_simp;(try with_reducible rfl)
 (try simp only [Act.put,List.setIfInBounds_toArray,List.set_cons_zero,List.set_cons_succ])
 refine wpAnyH_ready (rs:=[3]) (by kernel_rfl) (by simp) ?_
 refine AllReadyH.cons rfl (fun K hK=>?_) ?_
 ·go_simp;go_wp2_with (go_at_call 83;refine (H1.out _ (grown_drew u)).mono ?_;rintro e v1 ⟨rfl,hg1⟩);have G1:=((grown_drew u)).trans hg1
  refine hK.out _ _ (HKp.out _ G1) (fun hHeld=>?_)
  clear hK K
  refine wpAnyH_ready (rs:=[7]) (by kernel_rfl) (by simp) ?_
  refine AllReadyH.cons rfl (fun K hK=>?_) ?_
  rotate_left 1
  ·exact AllReadyH.nil
  go_simp;go_wp2_with (go_at_call 83;refine (H2.out _ G1).mono ?_;rintro e v2 ⟨rfl,hg2⟩);have G2:=(G1).trans hg2
  refine hK.out _ _ (HKp.out _ G2) (fun hHeld=>?_)
  clear hK K
  refine wpAnyH_ready (rs:=[8]) (by kernel_rfl) (by simp) ?_
  refine AllReadyH.cons rfl (fun K hK=>?_) ?_
  rotate_left 1
  ·exact AllReadyH.nil
  obtain ⟨v9,hv9⟩:∃ x,x=v2.alloc (.cells #[.int .i64 r1,.int .i64 r2] 3):=⟨_,rfl⟩
  have hr9:RB v9 v2.heap.size #[.int .i64 r1,.int .i64 r2] 3:=by rw [hv9];exact rb_new _ _ _
  have G9:Grown u v9:=G2.trans ⟨0,#[_],by rw [hv9,Go.Sort.alloc_eq_grow];rfl⟩
  go_simp
  rw [<-hv9]
  refine hK.out _ _ (HKp.out _ G9) (fun hHeld=>?_)
  clear hK K
  have HO:=Or_any v2.heap.size r1 r2 v9 hr9
  clear hr9 hv9
  generalize v2.heap.size=bi at HO ⊢
  refine wpAnyH_ready (rs:=[9]) (by kernel_rfl) (by simp) ?_
  refine AllReadyH.cons rfl (fun K hK=>?_) ?_
  rotate_left 1
  ·exact AllReadyH.nil
  go_simp
  go_wp2_with (go_at_call 100;refine HO.mono ?_;rintro e v10 ⟨rfl,h10⟩;obtain rfl:=h10)
  refine hK.out _ _ (HKp.out _ G9) (fun hHeld=>?_)
  clear hK K
  refine wpAnyH_ready (rs:=[10]) (by kernel_rfl) (by simp) ?_
  refine AllReadyH.cons rfl (fun K hK=>?_) ?_
  ·go_simp
   refine hK.out _ _ (HKp.out _ G9) (fun hHeld=>?_)
   clear hK K
   refine wpAnyH_done (by kernel_rfl) ?_ _
   go_wp2
   go_ret
   exact ⟨rfl,G9⟩
  exact AllReadyH.nil
 exact AllReadyH.nil
theorem joined_any (u:World) (o1 o2:Value):Calls Tryz.prog 82 #[.func (.func 83) #[o1] #[],.func (.func 83) #[o2] #[]] u (fun e w'=>∃ T,e=.returned (.func (.func 99) #[] #[.pointer (some ⟨u.heap.size,0,none⟩),.pointer (some ⟨u.heap.size+1,0,none⟩)])/\w'=(u.alloc (.cells #[.func (.func 83) #[o1] #[]] T)).alloc (.cells #[.func (.func 83) #[o2] #[]] T)):=by
 go_enter Tryz.func82,Tryz.ntmps82
 go_wp2
 go_ret
 exact ⟨_,rfl,rfl⟩
end Go.Proofs.YtbabckomagkjbaaGreatDoor
namespace Go.Proofs
open Go.Shelf
shelf_lay_g SlLaysF.n6 Slsf 6 at Tryz 81 as Tryz.sortIn
end Go.Proofs
namespace Go.Proofs.YtbabckomagkjbaaGreatDoor
open Go.ChangeShapes Go.WideShapes Go.Deep Go.RowKit Go.Shelf
theorem none_try (a:Option Addr) (c:Nat) (fv:Value) (w:World):Calls Tryz.prog 81 #[.slice a 0 c,fv] w (fun e w'=>e=.returned (.tuple #[])/\w'=w):=
 AnyF.slices_SortFunc_none { Tryz.sortIn with } a c fv w
def cfU (S:List Sc) (x y:Nat):Int:=orI (cmpI (kindN S x) (kindN S y)) (cmpI x y)
theorem cfU_key {S:List Sc} {x y:Nat} (hx:x<=256) (hy:y<=256):decide (cfU S x y < 0)=decide (keyU S x < keyU S y):=by
 unfold cfU orI cmpI keyU
 obtain ⟨a,ha⟩:∃ a,a=kindN S x:=⟨_,rfl⟩
 obtain ⟨b,hb⟩:∃ b,b=kindN S y:=⟨_,rfl⟩
 rw [<-ha,<-hb]
 rw [decide_eq_decide]
 split <;> split at*<;> (try split at *) <;> (try split) <;> omega
section
variable {N:Nat}
abbrev enF (x:Fin (N+1)):Value:=.int .i64 ((x.val:Nat):Int)
def cfF (S:List Sc) (x y:Fin (N+1)):Int:=cfU S x.val y.val
theorem lt_key {S:List Sc} (hN:N<=255) (x y:Fin (N+1)):ltOf (cfF S) x y=decide (keyU S x.val < keyU S y.val):=
 cfU_key (by have:=x.isLt;omega) (by have:=y.isLt;omega)
theorem swoU {S:List Sc} (hN:N<=255):Go.Sort.SWO (ltOf (cfF (N:=N) S)) where
 irrefl x:=by rw [lt_key hN];simp
 trans x y z h1 h2:=by rw [lt_key hN] at *;simp at *;omega
 ntrans x y z h1 h2:=by rw [lt_key hN] at *;simp at *;omega
theorem s1_other (w:World) (g n:Nat) (d:Array (Fin (N+1))) (os:Array Obj) {k:Nat} (hk:k < w.heap.size) (hne:k ≠ g):(sortWorld enF w g 0 n d os).heap[k]?=w.heap[k]?:=by
 unfold sortWorld Go.Sort.grow Go.Sort.putRow Go.Sort.mapBlock Go.Sort.ahead
 rw [Array.getElem?_append,if_pos (by simpa using hk),Array.getElem?_modify,if_neg (Ne.symm hne)]
theorem s1_row {w:World} {g n:Nat} {d:Array (Fin (N+1))} {os:Array Obj} {cur:Array Value} {T:TypeId} {fr:Nat × Nat} (h:w.heap[g]?=some (.cells cur T fr)):
  (sortWorld enF w g 0 n d os).heap[g]?=some (.cells (Go.Sort.putCells enF 0 d cur) T fr):=by
 unfold sortWorld Go.Sort.grow Go.Sort.putRow Go.Sort.mapBlock Go.Sort.ahead
 rw [Array.getElem?_append,if_pos (by simpa using lt_of_block h),Array.getElem?_modify,if_pos rfl]
 show (w.heap[g]?).map _=_
 rw [h]
 rfl
theorem s1_size (w:World) (g n:Nat) (d:Array (Fin (N+1))) (os:Array Obj):w.heap.size<=(sortWorld enF w g 0 n d os).heap.size:=by
 unfold sortWorld Go.Sort.grow Go.Sort.putRow Go.Sort.mapBlock Go.Sort.ahead
 simp
theorem s1_below {w0 w:World} {g n:Nat} {d:Array (Fin (N+1))} {os:Array Obj} (hb:Below w0.heap.size w0 w) (hg:w0.heap.size<=g):Below w0.heap.size w0 (sortWorld enF w g 0 n d os):=by
 refine ⟨hb.os,hb.tape,hb.output,Nat.le_trans hb.size (s1_size _ _ _ _ _),fun k hk=>?_⟩
 rw [s1_other w g n d os (Nat.lt_of_lt_of_le hk hb.size) (by omega)]
 exact hb.block k hk
theorem flat_enI:∀ l:List Nat,l.flatMap enI=l.map (fun (k:Nat)=>Value.int .i64 (k:Int))
 | []=>rfl
 | a :: t=>by rw [List.flatMap_cons,flat_enI t];rfl
theorem put_take (d:Array (Fin (N+1))) (cur:Array Value) (h:d.size<=cur.size):(Go.Sort.putCells enF 0 d cur).toList.take d.size=(d.toList.map (fun x=>x.val)).flatMap enI:=by
 rw [flat_enI]
 apply List.ext_getElem?
 intro j
 by_cases hj:j < d.size
 ·rw [List.getElem?_take_of_lt hj,Array.getElem?_toList,Go.Sort.putCells,Array.getElem?_mapIdx,Array.getElem?_eq_getElem (by omega)]
  simp only [Option.map_some]
  rw [if_pos ⟨Nat.zero_le _,by omega⟩,Nat.sub_zero,List.map_map,List.getElem?_map,Array.getElem?_toList,Array.getElem?_eq_getElem hj]
  simp [hj]
 ·rw [List.getElem?_eq_none (by rw [List.length_take];omega),List.getElem?_eq_none (by simp;omega)]
theorem val_ofNat {l:List Nat} (h:∀ k ∈ l,k<=N):(l.map (fun k=>Fin.ofNat (N+1) k)).map (fun x=>x.val)=l:=by
 rw [List.map_map]
 conv=>rhs;rw [<-List.map_id l]
 apply List.map_congr_left
 intro k hk
 have:=h k hk
 show k % (N+1)=k
 exact Nat.mod_eq_of_lt (by omega)
theorem sort_units (w0 w:World) (bx c1 c2 g cap base:Nat) (ua:Option Addr) (n uc:Nat) (L:List Ms) (l:List Nat) (hn:n<=256) (hln:l.length<=256) (hl:∀ k ∈ l,k < n) (hs:SL msC 6 w0 w0.heap.size ua n L) (hb:Below w0.heap.size w0 w)
  (hbx:RB w bx #[.slice ua n uc] 22) (x1:w.cell? ⟨c1,0,none⟩=some (.func (.func 83) #[.agg #[by1V bx]] #[])) (x2:w.cell? ⟨c2,0,none⟩=some (.func (.func 83) #[.agg #[by2V]] #[]))
  (n1:c1 ≠ g) (n2:c2 ≠ g) (n3:bx ≠ g) (hg0:w0.heap.size<=g) (hbg:base<=g)
  (hown:w.ownsRow base 3 1 (.slice (some ⟨g,0,none⟩) l.length cap) l.length (l.flatMap enI)) (h0:l ≠ []):
  Calls Tryz.prog 81 #[.slice (some ⟨g,0,none⟩) l.length cap,.func (.func 99) #[] #[.pointer (some ⟨c1,0,none⟩),.pointer (some ⟨c2,0,none⟩)]] w (fun e w'=>e=.returned (.tuple #[])/\
   ∃ d:List Nat,d.Perm l/\d.Pairwise (fun x y=>keyU (L.map (·.sc)) x<=keyU (L.map (·.sc)) y)/\w'.ownsRow base 3 1 (.slice (some ⟨g,0,none⟩) d.length cap) d.length (d.flatMap enI)/\Below w0.heap.size w0 w'):=by
 obtain ⟨N,hN⟩:∃ N,n=N+1:=by
  cases n with
  | zero=>
   cases l with
   | nil=>exact absurd rfl h0
   | cons a t=>exact absurd (hl a (List.mem_cons_self ..)) (Nat.not_lt_zero _)
  | succ N=>exact ⟨N,rfl⟩
 have hN2:N<=255:=by omega
 obtain ⟨D,hD⟩:∃ D:Array (Fin (N+1)),D=(l.map (fun k=>Fin.ofNat (N+1) k)).toArray:=⟨_,rfl⟩
 have hDl:D.toList.map (fun x=>x.val)=l:=by rw [hD];exact val_ofNat (fun k hk=>by have:=hl k hk;omega)
 have hDs:D.size=l.length:=by rw [hD];simp
 rcases hown.2 with ⟨h,-⟩ | ⟨g',cap',cur,e1,e2,e3,e4,e5,e6,e7⟩
 ·cases h
 injection e1 with e1 e8 e9
 injection e1 with e1
 injection e1 with e1
 subst e1;subst e9
 have hgs:=lt_of_block e3
 have hH:Go.Sort.Holds enF w g 0 D:=by
  intro j hj
  refine ⟨?_,by rw [World.frozen?,e3];rfl⟩
  rw [Nat.zero_add,hown.cellAt j (by omega),flat_enI,<-hDl,List.map_map,List.getElem?_map,Array.getElem?_toList,Array.getElem?_eq_getElem hj]
  simp [hj]
 have eg:∀ args w,(callFunc 99 args).run Tryz.prog w=.ok (.enter 99 args) w:=enters_of Tryz.func99 (by kernel_rfl) rfl
 have hcmp:CmpLays1 Tryz.prog 99 #[.pointer (some ⟨c1,0,none⟩),.pointer (some ⟨c2,0,none⟩)] enF (cfF (N:=N) (L.map (·.sc))) g 0 D.size w:=by
  intro m os dk hdk x y
  have hbw:Below w0.heap.size w0 (sortWorld enF w g 0 m dk os):=s1_below hb hg0
  have hoth:∀ k,k < w.heap.size->k ≠ g->(sortWorld enF w g 0 m dk os).heap[k]?=w.heap[k]?:=fun k hk hne=>s1_other w g m dk os hk hne
  have hcell:∀ k v,k ≠ g->w.cell? ⟨k,0,none⟩=some v->(sortWorld enF w g 0 m dk os).cell? ⟨k,0,none⟩=some v:=by
   intro k v hne hv
   have hk:k < w.heap.size:=cell_lt hv
   rw [<-hv]
   unfold World.cell?
   rw [show (sortWorld enF w g 0 m dk os).heap[k]?=w.heap[k]? from hoth k hk hne]
  have hbx2:RB (sortWorld enF w g 0 m dk os) bx #[.slice ua n uc] 22:=(hoth bx (lt_of_block hbx) n3).trans hbx
  have y1:=hcell c1 _ n1 x1
  have y2:=hcell c2 _ n2 x2
  have hx:x.val < n:=by have:=x.isLt;omega
  have hy:y.val < n:=by have:=y.isLt;omega
  exact joined1_any (sortWorld enF w g 0 m dk os) c1 c2 _ _ _ _ _ _ (cell_lt y1) (cell_lt y2) y1 y2
   (fun v hv=>cmp1_any v bx ua n uc L x.val y.val hn hx hy (hbx2.next hv.below) (by
     have h1:Below w0.heap.size w0 v:=after hbw hv.below
     exact hs.next h1))
   (fun v hv=>cmp2_any v _ _)
 have hcon:=Any.slices_SortFunc Tryz.sortIn enF (fun x=>rfl) (cfF (N:=N) (L.map (·.sc))) (swoU hN2) 99 #[.pointer (some ⟨c1,0,none⟩),.pointer (some ⟨c2,0,none⟩)] g 0 cap D w eg hcmp hH hgs (by rw [hDs];omega)
 change Calls Tryz.prog 81 _ _ _ at hcon
 rw [hDs] at hcon
 refine hcon.mono ?_
 rintro e w' ⟨he,d,m,os,⟨hds,-,hperm⟩,hsort,rfl⟩
 have hds2:d.size=l.length:=by rw [hds,hDs]
 refine ⟨he,d.toList.map (fun x=>x.val),?_,?_,⟨?_,.inr ⟨g,cap,_,?_,e2,s1_row e3,by simp;omega,e5,?_,?_⟩⟩,s1_below hb hg0⟩
 ·have e1:(d.extract 0 l.length)=d:=by rw [<-hds2];exact Array.extract_size
  have e2:(D.extract 0 l.length)=D:=by rw [<-hDs];exact Array.extract_size
  rw [e1,e2] at hperm
  have:=hperm.map (fun x=>x.val)
  rw [hDl] at this
  exact this
 ·rw [List.pairwise_map]
  rw [List.pairwise_iff_getElem]
  intro i j hi hj hij
  have:=hsort i j (Nat.zero_le _) hij (by rw [<-hds2];simpa using hj)
  rw [lt_key hN2] at this
  have hi':i < d.size:=by simpa using hi
  have hj':j < d.size:=by simpa using hj
  simp only [getElem!_pos,hi',hj',decide_eq_false_iff_not] at this
  simp only [Array.getElem_toList]
  omega
 ·rw [flat_enI];simp
 ·simp [hds2]
 ·unfold Go.Sort.putCells;simpa using e6
 ·have:=put_take d cur (by omega)
  rw [show (d.toList.map (fun x=>x.val)).length*1=d.size from by simp]
  exact this
end
end Go.Proofs.YtbabckomagkjbaaGreatDoor
namespace Go.Proofs.YtbabckomagkjbaaGreatDoor
open Go.ChangeShapes Go.WideShapes Go.Deep Go.RowKit
def selfK (rep:List Int) (k:Nat):List Nat:=(List.range k).filter (fun (k:Nat)=>decide (rep[k]?=some (k:Int)))
theorem selfK_in {rep:List Int} {k:Nat} (h:rep[k]?=some (k:Int)):selfK rep (k+1)=selfK rep k ++ [k]:=by
 unfold selfK;rw [selfL_snoc,if_pos h]
theorem selfK_out {rep:List Int} {k:Nat} (h:rep[k]? ≠ some (k:Int)):selfK rep (k+1)=selfK rep k:=by
 unfold selfK;rw [selfL_snoc,if_neg h,List.append_nil]
theorem selfK_len (rep:List Int) (k:Nat):(selfK rep k).length<=k:=by
 unfold selfK
 exact Nat.le_trans (List.length_filter_le _ _) (by simp)
def RowP (l:List Nat) (w:World) (e:Ending) (w':World):Prop:=∃ a c,e=.returned (.slice a l.length c)/\w'.ownsRow w.heap.size 3 1 (.slice a l.length c) l.length (l.flatMap enI)/\Below w.heap.size w w'
theorem owns_down {w:World} {b b':Nat} {e:TypeId} {size:Nat} {v:Value} {n:Nat} {xs:List Value} (h:w.ownsRow b' e size v n xs) (hb:b<=b'):w.ownsRow b e size v n xs:=by
 refine ⟨h.1,?_⟩
 rcases h.2 with h1 | ⟨g,cap,cur,e1,e2,e3⟩
 ·exact .inl h1
 ·exact .inr ⟨g,cap,cur,e1,by omega,e3⟩
theorem standing_any (w:World) (ua:Option Addr) (n uc:Nat) (L:List Ms) (ra:Option Addr) (rc:Nat) (rep:List Int) (hn:n<=256) (hs:SL msC 6 w w.heap.size ua n L) (hr:SL enZ 1 w w.heap.size ra n rep):
  Calls Tryz.prog 58 #[.slice ua n uc,.slice ra n rc] w (RowP (standL (L.map (·.sc)) rep) w):=by
 obtain ⟨W1,hW1⟩:∃ x,x=w.alloc (.cells #[.slice ua n uc] 22):=⟨_,rfl⟩
 have hb1:Below w.heap.size w W1:=by rw [hW1];exact lit_below w _
 have hr1:RB W1 w.heap.size #[.slice ua n uc] 22:=by rw [hW1];exact rb_new w _ _
 have hsz1:W1.heap.size=w.heap.size+1:=by rw [hW1,World.size_alloc]
 have hni:(n:Int)<=256:=by omega
 obtain ⟨i0,hi,hz0,hz1,hz2⟩:=info_parts info_intG
 have hmf:∀ (fn:Fn) (first cap:Array Value) (w:World),(Instr.makeFunc fn first cap).run Tryz.prog w=.ok (.func fn first cap) w:=fun _ _ _ _=>rfl
 have HRl:Hid (rep.length=n):=Lib.hid hr.len.symm
 have HR:=Lib.hid (fun u (hu:Below w.heap.size w u)=>hr.next hu)
 have HS:=Lib.hid hs
 have HN:=Lib.hid hn
 have HB1:=Lib.hid hb1
 have HX1:=Lib.hid hr1
 have HZ1:=Lib.hid hsz1
 have HWE:Hid (w.alloc (.cells #[.slice ua n uc] 22)=W1):=Lib.hid hW1.symm
 have HQ0:Hid (RQ W1 W1 [] none 0):=Lib.hid ⟨World.ownsRow_nil _ _ _ _,Below.refl _ _⟩
 obtain ⟨bx,hbx⟩:∃ x,x=w.heap.size:=⟨_,rfl⟩
 have HBx:=Lib.hid hbx
 rw [<-hbx] at HX1
 clear hs hr hn hb1 hr1 hsz1 hW1 hbx
 go_enter Tryz.func58,Tryz.ntmps58
 go_wp2_with fail
 rw [HWE.out,<-HBx.out]
 go_loopw [5,12] (fun l i wr=>∃ (k:Nat) (wx:World) (rs:List Nat) (a:Option Addr) (q c:Nat),wx=wr/\k<=n/\l=.slice a q c/\i=.int .i64 k/\Hid (q=rs.length)/\Hid (RQ W1 wx rs a c)/\Hid (rs=selfK rep k)) (fun _ i _=>n - (intOf i).toNat)
 case atStart=>exact ⟨0,_,[],none,0,0,rfl,by omega,rfl,rfl,Lib.hid rfl,HQ0,Lib.hid rfl⟩
 case round=>
  clear HQ0
  obtain ⟨k,wx,rs,a,q,c,rfl,hk,rfl,rfl,HQq,HQ,HRs⟩:=hrel
  by_cases hlt:k < n
  ·have hlti:(k:Int) < (n:Int):=by omega
   have HLT:=Lib.hid hlt
   have hrl:=HR.out wx (after HB1.out HQ.out.kk)
   obtain ⟨v,hv⟩:∃ v,rep[k]?=some v:=⟨_,List.getElem?_eq_getElem (by rw [HRl.out];exact hlt)⟩
   obtain ⟨rb,ro,hra,-,-⟩:=hrl.cells (by intro e;rw [e] at hv;cases hv)
   subst hra
   have r0:wx.cell? ⟨rb,ro+k,none⟩=some (.int .i64 v):=ints_cells hrl (Below.refl _ _) hv
   have HV:=Lib.hid hv
   have hql:Hid (q<=256):=Lib.hid (by rw [HQq.out,HRs.out];have:=selfK_len rep k;have:=HN.out;omega)
   have hx0:Hid (W1.heap.size<=wx.heap.size):=Lib.hid HQ.out.kk.size
   clear hrl hv hlt hk
   by_cases hvk:v=(k:Int)
   ·have t1:((k:Int) == v)=true:=by simp [hvk]
    have t2:(v == (k:Int))=true:=by simp [hvk]
    have HR5:Hid (rs ++ [k]=selfK rep (k+1)):=Lib.hid (by rw [selfK_in (by rw [HV.out,hvk]),<-HRs.out])
    have HNw:Hid ((wx.alloc (.cells #[.int .i64 (k:Int)] 3)).heap[wx.heap.size]?=some (.cells #[.int .i64 (k:Int)] 3)):=Lib.hid (heap_alloc_new wx _)
    clear hvk
    go_wp2_with (at_builtin;refine wpList_append_lies _ rfl _ _ 23 rfl W1.heap.size 3 i0 (.int .i64 0) 1 8 Tryz.underlying23 hi hz0 hz1 hz2 rfl (by decide) (.slice a q c) q (rs.flatMap enI) rfl (by have:=HQ.out.oo;rw [<-HQq.out] at this;exact this.alloc _) ⟨wx.heap.size,0,none⟩ 1 1 (enI k) rfl rfl (World.news_of_block (cs:=#[.int .i64 (k:Int)]) (t:=3) (fr:=(0,0)) HNw.out) (by simp [enI,Value.oneCell']) (by decide) (by have:=hql.out;unfold maxLen;omega) (by have:=hql.out;omega) (by have:=hx0.out;simp;omega) (wx.heap.size+1) (by simp) ?_;intro g cap w2 hown2 hgrow2 hlie2 hlt2)
    rw [HQq.out] at hown2 hgrow2
    have HQ2:=Lib.hid (HQ.out.grow hown2 hgrow2)
    have HQq2:Hid (q+1=(rs ++ [k]).length):=Lib.hid (by rw [HQq.out];simp)
    clear hown2 hgrow2 hlie2 hlt2 HNw
    go_roundw
    case rel=>exact ⟨k+1,_,_,_,_,_,rfl,by have:=HLT.out;omega,rfl,by go_num,HQq2,HQ2,HR5⟩
    case measure=>have:=HLT.out;simp [intOf];omega
   ·have t1:((k:Int) == v)=false:=by simp;omega
    have t2:(v == (k:Int))=false:=by simp [hvk]
    have HR5:Hid (rs=selfK rep (k+1)):=Lib.hid (by rw [selfK_out (by rw [HV.out];simpa using hvk)];exact HRs.out)
    clear hvk
    go_wp2
    go_roundw
    case rel=>exact ⟨k+1,_,_,_,_,_,rfl,by have:=HLT.out;omega,rfl,by go_num,HQq,HQ,HR5⟩
    case measure=>have:=HLT.out;simp [intOf];omega
  ·have hlti:¬ (k:Int) < (n:Int):=by omega
   have hkn:k=n:=by omega
   rw [hkn] at HRs
   have HSelf:Hid (rs=selfL rep):=Lib.hid (by rw [HRs.out];unfold selfK selfL;rw [HRl.out])
   obtain ⟨V1,hV1⟩:∃ x,x=wx.alloc (.cells #[by1V bx] 131):=⟨_,rfl⟩
   obtain ⟨V2,hV2⟩:∃ x,x=V1.alloc (.cells #[by2V] 131):=⟨_,rfl⟩
   have hb2:Below wx.heap.size wx V1:=by rw [hV1];exact lit_below _ _
   have hb3:Below V1.heap.size V1 V2:=by rw [hV2];exact lit_below _ _
   have hz:V1.heap.size=wx.heap.size+1:=by rw [hV1,World.size_alloc]
   have q1:RB V2 wx.heap.size #[by1V bx] 131:=(show RB V1 wx.heap.size #[by1V bx] 131 by rw [hV1];exact rb_new _ _ _).next hb3
   have q2:RB V2 (wx.heap.size+1) #[by2V] 131:=by rw [<-hz,hV2];exact rb_new _ _ _
   have z1:V2.cell? ⟨wx.heap.size,0,none⟩=some (by1V bx):=q1.cell
   have z2:V2.cell? ⟨wx.heap.size+1,0,none⟩=some by2V:=q2.cell
   rw [hV2,hV1] at z1 z2
   have HVE:Hid ((wx.alloc (.cells #[by1V bx] 131)).alloc (.cells #[by2V] 131)=V2):=Lib.hid (by rw [hV2,hV1])
   have HBV:=Lib.hid (after hb2 hb3)
   have HJ:=Lib.hid (joined_any V2 (.agg #[by1V bx]) (.agg #[by2V]))
   clear hk hlt hkn hV1 hV2 hb2 hb3 hz q1 q2 HRs
   go_wp2_with fail
   have hve:=HVE.out
   simp only [by1V,by2V] at hve
   rw [hve]
   clear hve z1 z2
   refine HJ.out.mono ?_
   rintro e V3 ⟨T,rfl,hV3⟩
   obtain ⟨c1,hc1⟩:∃ x,x=V2.heap.size:=⟨_,rfl⟩
   rw [<-hc1]
   obtain ⟨V4,hV4⟩:∃ x,x=V2.alloc (.cells #[.func (.func 83) #[.agg #[by1V bx]] #[]] T):=⟨_,rfl⟩
   rw [<-hV4] at hV3
   have hb4:Below V2.heap.size V2 V4:=by rw [hV4];exact lit_below _ _
   have hb5:Below V4.heap.size V4 V3:=by rw [hV3];exact lit_below _ _
   have hz4:V4.heap.size=c1+1:=by rw [hV4,World.size_alloc,hc1]
   have y1:V3.cell? ⟨c1,0,none⟩=some (.func (.func 83) #[.agg #[by1V bx]] #[]):=(RB.next (show RB V4 c1 #[.func (.func 83) #[.agg #[by1V bx]] #[]] T by rw [hV4,hc1];exact rb_new _ _ _) hb5).cell
   have y2:V3.cell? ⟨c1+1,0,none⟩=some (.func (.func 83) #[.agg #[by2V]] #[]):=(show RB V3 (c1+1) #[.func (.func 83) #[.agg #[by2V]] #[]] T by rw [hV3,<-hz4];exact rb_new _ _ _).cell
   have hbV:=after HBV.out (after hb4 hb5)
   have hbW:=after HQ.out.kk hbV
   have hoo:=owns_next HQ.out.oo hbV
   have hbx3:=HX1.out.next hbW
   have hb0:=after HB1.out hbW
   have hcz:wx.heap.size<=c1:=by rw [hc1];exact HBV.out.size
   have HOo:=Lib.hid hoo
   have HB0:=Lib.hid hb0
   by_cases hrs:rs=[]
   ·have hq0:q=0:=by rw [HQq.out,hrs];rfl
    have hst:standL (L.map (·.sc)) rep=[]:=by unfold standL;rw [<-HSelf.out,hrs];rfl
    have HNt:=Lib.hid (fun fv=>none_try a c fv V3)
    have HRe:Hid (RowP (standL (L.map (·.sc)) rep) w (.returned (.slice a q c)) V3):=Lib.hid (by
     rw [hst]
     rw [hrs] at hoo
     exact ⟨a,c,by rw [hq0];rfl,owns_down hoo (by rw [HZ1.out];omega),hb0⟩)
    subst hq0
    clear hV3 hV4 hb4 hb5 hz4 y1 y2 hbV hbW hoo hbx3 hb0 hcz hrs hst hc1
    go_wp2_with (go_at_call 81;refine (HNt.out _).mono ?_;rintro e w' ⟨rfl,hw⟩;obtain rfl:=hw)
    go_ret
    exact HRe.out
   ·rcases hoo.2 with ⟨h,h'⟩ | ⟨g,cap',cur,e1,e2,e3,-⟩
    ·exact absurd (List.length_eq_zero_iff.1 h') hrs
    injection e1 with e1 e4 e5
    subst e1;subst e5
    have hgl:g < wx.heap.size:=by
     rcases HQ.out.oo.2 with ⟨h,h'⟩ | ⟨g',cap'',cur',f1,f2,f3,-⟩
     ·cases h
     ·injection f1 with f1 _ _
      injection f1 with f1
      injection f1 with f1
      subst f1
      exact lt_of_block f3
    have hlen:rs.length<=256:=by rw [HSelf.out];have:=selfL_len rep;have:=HRl.out;have:=HN.out;omega
    have hmem:∀ k ∈ rs,k < n:=fun k hk=>by
     rw [HSelf.out] at hk
     have:=(List.getElem?_eq_some_iff.1 (selfL_mem.1 hk)).1
     rw [HRl.out] at this;exact this
    have HSo:=Lib.hid (sort_units w V3 bx c1 (c1+1) g c W1.heap.size ua n uc L rs HN.out hlen hmem HS.out hb0 hbx3 y1 y2 (by omega) (by omega) (by have:=HBx.out;have:=HZ1.out;omega) (by have:=HZ1.out;omega) e2 hoo hrs)
    have HRe:Hid (∀ (w':World) (d:List Nat),d.Perm rs->d.Pairwise (fun x y=>keyU (L.map (·.sc)) x<=keyU (L.map (·.sc)) y)->w'.ownsRow W1.heap.size 3 1 (.slice (some ⟨g,0,none⟩) d.length c) d.length (d.flatMap enI)->Below w.heap.size w w'->RowP (standL (L.map (·.sc)) rep) w (.returned (.slice (some ⟨g,0,none⟩) q c)) w'):=Lib.hid (fun w' d h1 h2 h3 h4=>by
     have hd:d=standL (L.map (·.sc)) rep:=standL_one (by rw [HRl.out];exact HN.out) (by rw [<-HSelf.out];exact h1) h2
     rw [<-hd]
     exact ⟨_,_,by rw [HQq.out,h1.length_eq],owns_down h3 (by rw [HZ1.out];omega),h4⟩)
    rw [<-HQq.out] at HSo
    clear hV3 hV4 hb4 hb5 hz4 y1 y2 hbV hbW hoo hbx3 hb0 hcz hrs hc1 e2 e3 hgl hlen hmem e4
    go_wp2_with (go_at_call 81;refine HSo.out.mono ?_;rintro e w' ⟨rfl,d,h1,h2,h3,h4⟩)
    go_ret
    exact HRe.out _ d h1 h2 h3 h4
end Go.Proofs.YtbabckomagkjbaaGreatDoor
