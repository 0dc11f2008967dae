/- graph's law: quads. graph: Roots. rows of ints, rows of bools: are two the same. the reference: a unit as a section. the reference's Big of units. graph: an entry among no objects. graph's law: what linked wants of each function. graph's law: linked. graph: units, ints as arguments. -/
import Derived.Test.YtbabckomagkjbaaGreatDoorqK
import Derived.Laws.IdiomRangeMap
import Derived.Laws.EntriesVeiled
set_option maxRecDepth 100000
set_option maxHeartbeats 2000000
set_option linter.unusedVariables false
set_option linter.unusedSimpArgs false
namespace Go.Proofs.YtbabckomagkjbaaGreatDoor
open Go.RowKit
open Go.ChangeShapes Go.WideShapes Go.Deep Go.RowKit
abbrev zrB (n:Nat):ByteArray:=⟨(List.replicate n (0:UInt8)).toArray⟩
def qRel (k:Nat) (x:Int):Rl:=⟨8*k,1,x,0⟩
def qRels:Nat->List Int->List Rl
 | _,[]=>[]
 | k,x :: t=>qRel k x :: qRels (k+1) t
theorem qRels_len:∀ (l:List Int) (k:Nat),(qRels k l).length=l.length
 | [],_=>rfl
 | x :: t,k=>by rw [qRels,List.length_cons,qRels_len t,List.length_cons]
theorem info_ref:(Tryz.prog.info? 61).map (fun i=>(i.zero,i.size,i.bytes))=some (some (.agg #[.int .i64 0,.int .i64 0,.int .i64 0,.int .i64 0]),4,32):=by kernel_rfl
structure UQ (w u:World) (X:Nat) (N D:ByteArray) (rl:List Rl) (a:Option Addr) (c:Nat):Prop where
 xx:RB u X #[.string ⟨#[]⟩,.int .i64 0,.bool false,.int .i64 0,.string ⟨#[]⟩,.slice none 0 0] 43
 yy:RB u (X+1) #[.string N,.int .i64 2,.bool false,.int .i64 0,.string D,.slice a rl.length c] 43
 oo:u.ownsRow (X+2) 61 4 (.slice a rl.length c) rl.length (rl.flatMap rlC)
 kk:Below w.heap.size w u
 ee:X=w.heap.size
theorem UQ.text {w u:World} {X:Nat} {N D:ByteArray} {rl:List Rl} {a:Option Addr} {c:Nat} (h:UQ w u X N D rl a c) (E:ByteArray):UQ w (u.setCell ⟨X+1,4,none⟩ (.string E)) X N E rl a c:=by
 have hx:=h.ee
 refine ⟨(hother (by omega)).trans h.xx,?_,own_kp3 h.oo (KP.step (X+1) u 4 _) (by omega),h.kk.setCell (p:=⟨X+1,4,none⟩) (by show w.heap.size<=X+1;omega) _,h.ee⟩
 exact h.yy.set (j:=4) _
theorem UQ.append {w u w2:World} {X:Nat} {N D:ByteArray} {rl:List Rl} {a a':Option Addr} {c c':Nat} {x:Rl} (h:UQ w u X N D rl a c)
  (hown:w2.ownsRow (X+2) 61 4 (.slice a' (rl.length+1) c') (rl.length+1) (rl.flatMap rlC ++ rlC x)) (hgrow:(u.alloc (.cells (rlA x) 61)).drew.grownBy w2 (Value.slice a rl.length c).ownBlock):
  UQ w (w2.setCell ⟨X+1,5,none⟩ (.slice a' (rl.length+1) c')) X N D (rl ++ [x]) a' c':=by
 have hx:=h.ee
 have hp:X+1 < u.heap.size:=lt_of_block h.yy
 have hbV:Below (X+2) u (u.alloc (.cells (rlA x) 61)).drew:=((Below.refl (X+2) u).alloc (by omega) _).drew
 have hbw:Below (X+2) u w2:=hbV.grown hgrow (by have:=hbV.size;omega) (fun j hj=>(h.oo.lt j hj).1)
 have h1:RB w2 X #[.string ⟨#[]⟩,.int .i64 0,.bool false,.int .i64 0,.string ⟨#[]⟩,.slice none 0 0] 43:=(hbw.block X (by omega)).trans h.xx
 have h2:RB w2 (X+1) #[.string N,.int .i64 2,.bool false,.int .i64 0,.string D,.slice a rl.length c] 43:=(hbw.block (X+1) (by omega)).trans h.yy
 refine ⟨(hother (by omega)).trans h1,?_,?_,(h.kk.trans (hbw.mono (by omega))).setCell (p:=⟨X+1,5,none⟩) (by show w.heap.size<=X+1;omega) _,h.ee⟩
 ·have:=hset (o:=5) (x:=.slice a' (rl.length+1) c') h2
  unfold RB
  simpa using this
 ·have:=own_kp3 hown (KP.step (X+1) w2 5 (.slice a' (rl.length+1) c')) (by omega)
  simpa [List.flatMap_append] using this
theorem UQ.mk0 (w:World) (N:ByteArray):UQ w ((w.alloc (.cells #[.string ⟨#[]⟩,.int .i64 0,.bool false,.int .i64 0,.string ⟨#[]⟩,.slice none 0 0] 43)).alloc (.cells #[.string N,.int .i64 2,.bool false,.int .i64 0,.string ⟨#[]⟩,.slice none 0 0] 43)) w.heap.size N ⟨#[]⟩ [] none 0:=by
 have h:=two_rb (w:=w) (A:=#[.string ⟨#[]⟩,.int .i64 0,.bool false,.int .i64 0,.string ⟨#[]⟩,.slice none 0 0]) (B:=#[.string N,.int .i64 2,.bool false,.int .i64 0,.string ⟨#[]⟩,.slice none 0 0]) (T:=43) (U:=43)
 exact ⟨h.1,h.2.1,World.ownsRow_nil _ _ _ _,h.2.2,rfl⟩
def QuadP (N:ByteArray) (R:List Int) (w:World) (e:Ending) (w':World):Prop:=
 ∃ a c,e=.returned (.agg #[.string N,.int .i64 2,.bool false,.int .i64 0,.string (zrB (8*R.length)),.slice a R.length c])/\w'.ownsRow w.heap.size 61 4 (.slice a R.length c) R.length ((qRels 0 R).flatMap rlC)/\Below w.heap.size w w'
theorem UQ.fin {w u:World} {X:Nat} {N D:ByteArray} {rl:List Rl} {a:Option Addr} {c:Nat} {R:List Int} (h:UQ w u X N D rl a c) (hR:rl=qRels 0 R) (hD:D=zrB (8*R.length)):
  ∃ u',u'=((((((u.setCell ⟨X,0,none⟩ (.string N)).setCell ⟨X,1,none⟩ (.int .i64 2)).setCell ⟨X,2,none⟩ (.bool false)).setCell ⟨X,3,none⟩ (.int .i64 0)).setCell ⟨X,4,none⟩ (.string D)).setCell ⟨X,5,none⟩ (.slice a rl.length c))/\
   RB u' X #[.string N,.int .i64 2,.bool false,.int .i64 0,.string D,.slice a rl.length c] 43/\QuadP N R w (.returned (.agg #[.string N,.int .i64 2,.bool false,.int .i64 0,.string D,.slice a rl.length c])) u':=by
 have hx:=h.ee
 refine ⟨_,rfl,?_,?_⟩
 ·have h0:RB (u.setCell ⟨X,0,none⟩ (.string N)) X #[.string N,.int .i64 0,.bool false,.int .i64 0,.string ⟨#[]⟩,.slice none 0 0] 43:=h.xx.set (j:=0) _
  have h1:RB ((u.setCell ⟨X,0,none⟩ (.string N)).setCell ⟨X,1,none⟩ (.int .i64 2)) X #[.string N,.int .i64 2,.bool false,.int .i64 0,.string ⟨#[]⟩,.slice none 0 0] 43:=h0.set (j:=1) _
  have h2:RB (((u.setCell ⟨X,0,none⟩ (.string N)).setCell ⟨X,1,none⟩ (.int .i64 2)).setCell ⟨X,2,none⟩ (.bool false)) X #[.string N,.int .i64 2,.bool false,.int .i64 0,.string ⟨#[]⟩,.slice none 0 0] 43:=h1.set (j:=2) _
  have h3:RB ((((u.setCell ⟨X,0,none⟩ (.string N)).setCell ⟨X,1,none⟩ (.int .i64 2)).setCell ⟨X,2,none⟩ (.bool false)).setCell ⟨X,3,none⟩ (.int .i64 0)) X #[.string N,.int .i64 2,.bool false,.int .i64 0,.string ⟨#[]⟩,.slice none 0 0] 43:=h2.set (j:=3) _
  have h4:RB (((((u.setCell ⟨X,0,none⟩ (.string N)).setCell ⟨X,1,none⟩ (.int .i64 2)).setCell ⟨X,2,none⟩ (.bool false)).setCell ⟨X,3,none⟩ (.int .i64 0)).setCell ⟨X,4,none⟩ (.string D)) X #[.string N,.int .i64 2,.bool false,.int .i64 0,.string D,.slice none 0 0] 43:=h3.set (j:=4) _
  exact h4.set (j:=5) _
 ·have hK:KP X u ((((((u.setCell ⟨X,0,none⟩ (.string N)).setCell ⟨X,1,none⟩ (.int .i64 2)).setCell ⟨X,2,none⟩ (.bool false)).setCell ⟨X,3,none⟩ (.int .i64 0)).setCell ⟨X,4,none⟩ (.string D)).setCell ⟨X,5,none⟩ (.slice a rl.length c)):=(((((KP.step X u 0 _).trans' (KP.step X _ 1 _)).trans' (KP.step X _ 2 _)).trans' (KP.step X _ 3 _)).trans' (KP.step X _ 4 _)).trans' (KP.step X _ 5 _)
  have ho:=own_kp3 h.oo hK (by omega)
  have hl:rl.length=R.length:=by rw [hR,qRels_len]
  refine ⟨a,c,by rw [hD,hl],?_,?_⟩
  ·rw [<-hl,<-hR]
   refine ⟨ho.1,?_⟩
   rcases ho.2 with hh | ⟨g,cap,cur,hv,hb,r⟩
   ·exact .inl hh
   ·exact .inr ⟨g,cap,cur,hv,by omega,r⟩
  ·exact KP.to_below h.kk hK (by omega)
open Go.ChangeShapes Go.WideShapes Go.Deep Go.RowKit
def rootsN:Nat->Int->List Sc->List Nat
 | _,_,[]=>[]
 | k,e,s :: t=>if s.keep=true\/(k:Int)=e then k :: rootsN (k+1) e t else rootsN (k+1) e t
theorem rootsN_snoc:∀ (l:List Sc) (k:Nat) (e:Int) (s:Sc),rootsN k e (l ++ [s])=rootsN k e l ++ if s.keep=true\/((k+l.length:Nat):Int)=e then [k+l.length] else []
 | [],k,e,s=>by simp [rootsN]
 | x :: t,k,e,s=>by
  rw [List.cons_append,rootsN,rootsN_snoc t (k+1) e s,rootsN,List.length_cons,show k+1+t.length=k+(t.length+1) from by omega]
  by_cases h:x.keep=true\/(k:Int)=e
  ·rw [if_pos h,if_pos h,List.cons_append]
  ·rw [if_neg h,if_neg h]
theorem rootsN_len:∀ (l:List Sc) (k:Nat) (e:Int),(rootsN k e l).length<=l.length
 | [],_,_=>by simp [rootsN]
 | x :: t,k,e=>by
  have:=rootsN_len t (k+1) e
  rw [rootsN];split <;> simp <;> omega
def RootsR (Ls:List Sc) (e0:Int) (w:World) (e:Ending) (w':World):Prop:=
 if unitsR Ls=true/\0<=e0/\e0 < (Ls.length:Int) then ∃ a c,e=.returned (.tuple #[.slice a (rootsN 0 e0 Ls).length c,.int .i64 0])/\w'.ownsRow w.heap.size 3 1 (.slice a (rootsN 0 e0 Ls).length c) (rootsN 0 e0 Ls).length ((rootsN 0 e0 Ls).flatMap enI)/\Below w.heap.size w w'
 else e=.returned (.tuple #[.slice none 0 0,.int .i64 1])/\Below w.heap.size w w'
theorem rootsR_no {Ls:List Sc} {e0:Int} {w w':World} {e:Ending} (h:¬ (unitsR Ls=true/\0<=e0/\e0 < (Ls.length:Int))) (he:e=.returned (.tuple #[.slice none 0 0,.int .i64 1])) (hb:Below w.heap.size w w'):RootsR Ls e0 w e w':=by
 unfold RootsR;rw [if_neg h];exact ⟨he,hb⟩
structure RQ (w u:World) (l:List Nat) (a:Option Addr) (c:Nat):Prop where
 oo:u.ownsRow w.heap.size 3 1 (.slice a l.length c) l.length (l.flatMap enI)
 kk:Below w.heap.size w u
theorem RQ.alloc {w u:World} {l:List Nat} {a:Option Addr} {c:Nat} (h:RQ w u l a c) (o:Obj):RQ w (u.alloc o) l a c:=
 ⟨h.oo.alloc _,h.kk.alloc h.kk.size _⟩
theorem RQ.grow {w u w2:World} {l:List Nat} {a a':Option Addr} {c c':Nat} {k:Nat} (h:RQ w u l a c) (hown:w2.ownsRow w.heap.size 3 1 (.slice a' (l.length+1) c') (l.length+1) (l.flatMap enI ++ enI k))
  (hgrow:(u.alloc (.cells #[.int .i64 (k:Int)] 3)).grownBy w2 (Value.slice a l.length c).ownBlock):RQ w w2 (l ++ [k]) a' c':=by
 refine ⟨by simpa [List.flatMap_append] using hown,?_⟩
 exact (h.kk.alloc h.kk.size _).grown hgrow (by have:=h.kk.size;rw [World.size_alloc];omega) (fun j hj=>(h.oo.lt j hj).1)
theorem gRoots_any (ua:Option Addr) (un uc:Nat) (L:List Ms) (e0:Int) (w:World) (hun:un<=maxLen) (hs:SL msC 6 w w.heap.size ua un L) (hno:Notes w w.heap.size L) (hg:∀ m ∈ L,GoodSc m.sc) (hb:∀ m ∈ L,m.sc.rels.length*32<=reachBytes) (hT:TabP w):
  Calls Tryz.prog 10 #[.slice ua un uc,.int .i64 e0] w (RootsR (L.map (·.sc)) e0 w):=by
 have hlen:(L.map (·.sc)).length=un:=by rw [List.length_map];exact hs.len.symm
 have hni:(un:Int)<=9223372036854775807:=by unfold maxLen at hun;omega
 have HI:Hid (∀ u,Below w.heap.size w u->Calls Tryz.prog 15 #[.slice ua un uc] u (RetB (.bool (unitsR (L.map (·.sc)))) u)):=Lib.hid fun u hu=>gIs_any ua un uc L u hun (hs.next hu) (hno.next hu) hg hb (hT.next hu)
 have HLn:=Lib.hid hlen
 have HS:=Lib.hid hs
 have HLL:=Lib.hid hs.len
 have HB:Hid (Below w.heap.size w w):=Lib.hid (Below.refl _ w)
 clear hs hno hg hb hT hlen hun
 cases hu:unitsR (L.map (·.sc))
 ·rw [hu] at HI
  have HN:Hid (¬ (unitsR (L.map (·.sc))=true/\0<=e0/\e0 < ((L.map (·.sc)).length:Int))):=Lib.hid (fun h=>by rw [hu] at h;cases h.1)
  clear hu
  go_enter Tryz.func10,Tryz.ntmps10
  go_wp2_with fail
  refine (HI.out _ HB.out).mono ?_
  rintro e u ⟨rfl,hb⟩
  replace HB:=Lib.hid hb
  clear hb
  go_wp2
  go_ret2
  exact rootsR_no HN.out rfl HB.out
 ·rw [hu] at HI
  have HU:=Lib.hid hu
  clear hu
  by_cases hk:e0 < 0\/(un:Int)<=e0
  ·have HN:Hid (¬ (unitsR (L.map (·.sc))=true/\0<=e0/\e0 < ((L.map (·.sc)).length:Int))):=Lib.hid (fun h=>by rw [HLn.out] at h;omega)
   have hcs:e0 < 0\/(¬ e0 < 0/\(un:Int)<=e0):=by omega
   clear hk
   rcases hcs with h1 | ⟨h1,h2⟩
   all_goals
    go_enter Tryz.func10,Tryz.ntmps10
    go_wp2_with fail
    refine (HI.out _ HB.out).mono ?_
    rintro e u ⟨rfl,hb⟩
    replace HB:=Lib.hid hb
    clear hb
    go_wp2
    go_ret2
    exact rootsR_no HN.out rfl HB.out
  have h1:¬ e0 < 0:=fun h=>hk (.inl h)
  have h2:¬ (un:Int)<=e0:=fun h=>hk (.inr h)
  have HY:Hid (unitsR (L.map (·.sc))=true/\0<=e0/\e0 < ((L.map (·.sc)).length:Int)):=Lib.hid ⟨HU.out,by omega,by rw [HLn.out];omega⟩
  have HM:Hid (un<=256):=Lib.hid (by rw [<-HLn.out];exact units_len HU.out)
  obtain ⟨i0,hi,hz0,hz1,hz2⟩:=info_parts info_intG
  clear hk
  go_enter Tryz.func10,Tryz.ntmps10
  go_wp2_with fail
  refine (HI.out _ HB.out).mono ?_
  rintro e u ⟨rfl,hb⟩
  have HQ0:Hid (RQ w u [] none 0):=Lib.hid ⟨World.ownsRow_nil _ _ _ _,hb⟩
  clear hb HB HI
  go_wp2_with fail
  go_loopw [6,24] (fun l i wr=>∃ (k:Nat) (wx:World) (rs:List Nat) (a:Option Addr) (q c:Nat),wx=wr/\k<=un/\l=.slice a q c/\i=.int .i64 k/\Hid (q=rs.length)/\Hid (RQ w wx rs a c)/\Hid (rs=rootsN 0 e0 ((L.map (·.sc)).take k))) (fun _ i _=>un - (intOf i).toNat)
  case atStart=>exact ⟨0,_,[],none,0,0,rfl,by omega,rfl,rfl,Lib.hid rfl,HQ0,Lib.hid rfl⟩
  case round=>
   clear HQ0
   obtain ⟨k,wx,rs,a,q,c,rfl,hk,rfl,rfl,HQq,HQ,HRs⟩:=hrel
   by_cases hlt:k < un
   ·have hlti:(k:Int) < (un:Int):=by omega
    have HLT:=Lib.hid hlt
    have hk1:k < L.length:=by have:=HLL.out;omega
    obtain ⟨b,off,hua,hBl,hc⟩:=(HS.out.next HQ.out.kk).cells ((HS.out.next HQ.out.kk).ne hlt)
    subst hua
    obtain ⟨c0,c1,c2',c3,c4,c5⟩:=ms_cells (fun j hj=>hc k hk1 j hj)
    have hat:(L.map (·.sc))[k]?=some L[k].sc:=by rw [List.getElem?_map,List.getElem?_eq_getElem hk1];rfl
    have HTk:Hid ((L.map (·.sc)).take (k+1)=(L.map (·.sc)).take k ++ [L[k].sc]/\((L.map (·.sc)).take k).length=k):=Lib.hid ⟨by rw [List.take_add_one,hat];rfl,by rw [List.length_take,HLn.out];omega⟩
    generalize L[k]'hk1=m at c0 c1 c2' c3 c4 c5 hat HTk
    obtain ⟨⟨nm,ki,kp,al,dt,rl⟩,ad,cp⟩:=m
    simp only at c0 c1 c2' c3 c4 c5
    obtain ⟨nr,hnr⟩:∃ nr,nr=rl.length:=⟨_,rfl⟩
    rw [<-hnr] at c5
    have HQ1:=Lib.hid (HQ.out.alloc (.cells #[.string ⟨nm.toArray⟩,.int .i64 ki,.bool kp,.int .i64 al,.string ⟨dt.toArray⟩,.slice ad nr cp] 43))
    have hql:Hid (q<=256):=Lib.hid (by rw [HQq.out,HRs.out];have:=rootsN_len ((L.map (·.sc)).take k) 0 e0;have:=HTk.out.2;have:=HM.out;omega)
    have hx0:Hid (w.heap.size<=wx.heap.size):=Lib.hid HQ.out.kk.size
    have HSn:=Lib.hid (rootsN_snoc ((L.map (·.sc)).take k) 0 e0 ⟨nm,ki,kp,al,dt,rl⟩)
    rw [<-HTk.out.1,HTk.out.2,<-HRs.out,Nat.zero_add] at HSn
    have HNw:Hid (((wx.alloc (.cells #[.string ⟨nm.toArray⟩,.int .i64 ki,.bool kp,.int .i64 al,.string ⟨dt.toArray⟩,.slice ad nr cp] 43)).alloc (.cells #[.int .i64 (k:Int)] 3)).heap[wx.heap.size+1]?=some (.cells #[.int .i64 (k:Int)] 3)):=Lib.hid (by have:=heap_alloc_new (wx.alloc (.cells #[.string ⟨nm.toArray⟩,.int .i64 ki,.bool kp,.int .i64 al,.string ⟨dt.toArray⟩,.slice ad nr cp] 43)) (.cells #[.int .i64 (k:Int)] 3);rw [World.size_alloc] at this;exact this)
    clear hc hBl hk1 hlt hk hat hnr HQ
    by_cases hkk:kp=true\/(k:Int)=e0
    ·have HR5:Hid (rs ++ [k]=rootsN 0 e0 ((L.map (·.sc)).take (k+1))):=Lib.hid (by rw [HSn.out,if_pos hkk])
     have hcs:kp=true\/(kp=false/\(k:Int)=e0):=by rcases hkk with h | h;exact .inl h;cases kp;exact .inr ⟨rfl,h⟩;exact .inl rfl
     clear hkk HSn
     replace hcs:(kp=true/\True)\/(kp=false/\((k:Int) == e0)=true):=by rcases hcs with h | ⟨h,he⟩;exact .inl ⟨h,trivial⟩;exact .inr ⟨h,beq_iff_eq.2 he⟩
     rcases hcs with ⟨rfl,hd⟩ | ⟨rfl,hd⟩
     all_goals
      go_wp2_with (at_builtin;refine wpList_append_lies _ rfl _ _ 23 rfl w.heap.size 3 i0 (.int .i64 0) 1 8 Tryz.underlying23 hi hz0 hz1 hz2 rfl (by decide) (.slice a q c) q (rs.flatMap enI) rfl (by have:=HQ1.out.oo;rw [<-HQq.out] at this;exact this.alloc _) ⟨wx.heap.size+1,0,none⟩ 1 1 (enI k) rfl rfl (World.news_of_block (cs:=#[.int .i64 (k:Int)]) (t:=3) (fr:=(0,0)) HNw.out) (by simp [enI,Value.oneCell']) (by decide) (by have:=hql.out;unfold maxLen;omega) (by have:=hql.out;omega) (by have:=hx0.out;simp;omega) (wx.heap.size+1+1) (by simp) ?_;intro g cap w2 hown2 hgrow2 hlie2 hlt2)
      rw [HQq.out] at hown2 hgrow2
      have HQ2:=Lib.hid (HQ1.out.grow hown2 hgrow2)
      have HQq2:Hid (q+1=(rs ++ [k]).length):=Lib.hid (by rw [HQq.out];simp)
      clear hown2 hgrow2 hlie2 hlt2 HQ1 HNw
      go_roundw
      case rel=>exact ⟨k+1,_,_,_,_,_,rfl,by have:=HLT.out;omega,rfl,by go_num,HQq2,HQ2,HR5⟩
      case measure=>have:=HLT.out;simp [intOf];omega
    ·have hkf:kp=false:=by cases kp;rfl;exact absurd (.inl rfl) hkk
     have hke:¬ (k:Int)=e0:=fun h=>hkk (.inr h)
     have HR5:Hid (rs=rootsN 0 e0 ((L.map (·.sc)).take (k+1))):=Lib.hid (by rw [HSn.out,if_neg hkk,List.append_nil])
     subst hkf
     clear hkk HSn HNw
     go_wp2
     go_roundw
     case rel=>exact ⟨k+1,_,_,_,_,_,rfl,by have:=HLT.out;omega,rfl,by go_num,HQq,HQ1,HR5⟩
     case measure=>have:=HLT.out;simp [intOf];omega
   ·have hnlt:¬ (k:Int) < (un:Int):=by omega
    have hT:(L.map (·.sc)).take k=L.map (·.sc):=List.take_of_length_le (by rw [HLn.out];omega)
    rw [hT] at HRs
    clear hk hlt hT
    go_wp2
    go_ret2
    unfold RootsR
    rw [if_pos HY.out,<-HRs.out]
    exact ⟨a,c,by rw [<-HQq.out];rfl,HQ.out.oo,HQ.out.kk⟩
open Go.ChangeShapes Go.WideShapes Go.Deep Go.RowKit
def enB (b:Bool):List Value:=[.bool b]
theorem sameI_no (a a':Option Addr) (n n' c c':Nat) (w:World) (hne:n ≠ n') (hn:n<=1000000) (hn':n'<=1000000):
  Calls Tryz.prog 17 #[.slice a n c,.slice a' n' c'] w (RetB (.bool false) w):=by
 have hb:((n:Int) != n')=true:=by rw [bne_iff_ne];omega
 have HN:=Lib.hid hne
 clear hne
 go_enter Tryz.func17,Tryz.ntmps17
 go_wp2
 go_ret
 exact retB_bool rfl (Below.refl _ _)
theorem sameI_yes (a a':Option Addr) (n c c':Nat) (l l':List Int) (w:World) (hn:n<=1000000) (h:SL enZ 1 w w.heap.size a n l) (h':SL enZ 1 w w.heap.size a' n l'):
  Calls Tryz.prog 17 #[.slice a n c,.slice a' n c'] w (RetB (.bool (decide (l=l'))) w):=by
 have hl:=Lib.hid h.len
 have hl':=Lib.hid h'.len
 go_enter Tryz.func17,Tryz.ntmps17
 go_wp2
 go_loopw [5] (fun i wr=>∃ k:Nat,k<=n/\i=.int .i64 k/\l.take k=l'.take k/\Below w.heap.size w wr) (fun i _=>n - (intOf i).toNat)
 case atStart=>exact ⟨0,by omega,rfl,rfl,Below.refl _ _⟩
 case round=>
  obtain ⟨k,hk,rfl,htk,hb⟩:=hrel
  have HT:=Lib.hid htk
  clear htk
  by_cases hlt:k < n
  ·have hk1:k < l.length:=by have:=hl.out;omega
   have hk2:k < l'.length:=by have:=hl'.out;omega
   obtain ⟨b,off,rfl,hB,hc⟩:=(h.below hb).cells (h.ne hlt)
   obtain ⟨b',off',rfl,hB',hc'⟩:=(h'.below hb).cells (h'.ne hlt)
   have c0:=hc k hk1 0 (by omega)
   have d0:=hc' k hk2 0 (by omega)
   obtain ⟨x,hx⟩:∃ x,x=l[k]:=⟨_,rfl⟩
   obtain ⟨y,hy⟩:∃ y,y=l'[k]:=⟨_,rfl⟩
   rw [<-hx] at c0
   rw [<-hy] at d0
   simp only [enZ,Nat.add_zero,Nat.mul_one,List.getElem?_cons_zero] at c0 d0
   have HX:=Lib.hid hx
   have HY:=Lib.hid hy
   clear hc hc' h h' hx hy
   by_cases e:x=y
   ·have hb2:(x != y)=false:=by simp [e]
    have HE:=Lib.hid e
    clear e
    go_wp2
    go_quiet (fail)
    go_wp2
    go_roundw
    case rel=>
     refine ⟨k+1,by omega,by go_num,?_,below_drewN hb _⟩
     rw [List.take_succ_eq_append_getElem hk1,List.take_succ_eq_append_getElem hk2,HT.out,<-HX.out,<-HY.out,HE.out]
    case measure=>simp [intOf];omega
   ·have hb2:(x != y)=true:=by simp [e]
    have HE:=Lib.hid e
    clear e
    go_wp2
    go_quiet (fail)
    go_wp2
    go_ret
    refine retB_bool ?_ (below_drewN hb _)
    symm;rw [decide_eq_false_iff_not]
    intro hh
    subst hh
    exact HE.out (HX.out.trans HY.out.symm)
  ·go_wp2
   go_ret
   refine retB_bool ?_ hb
   symm;rw [decide_eq_true_eq]
   have:=HT.out
   rwa [List.take_of_length_le (by have:=hl.out;omega),List.take_of_length_le (by have:=hl'.out;omega)] at this
theorem sameI_any (a a':Option Addr) (n n' c c':Nat) (l l':List Int) (w:World) (hn:n<=1000000) (hn':n'<=1000000) (h:SL enZ 1 w w.heap.size a n l) (h':SL enZ 1 w w.heap.size a' n' l'):
  Calls Tryz.prog 17 #[.slice a n c,.slice a' n' c'] w (RetB (.bool (decide (l=l'))) w):=by
 by_cases e:n=n'
 ·subst e
  exact sameI_yes a a' n c c' l l' w hn h h'
 ·have:decide (l=l')=false:=by
   rw [decide_eq_false_iff_not]
   intro hh;subst hh;exact e (h.len.trans h'.len.symm)
  rw [this]
  exact sameI_no a a' n n' c c' w e hn hn'
open Go.ChangeShapes Go.WideShapes Go.Deep Go.RowKit
theorem rSec_any (nm dt:List UInt8) (ki:Int) (kp:Bool) (al:Int) (rl:List Rl) (ad:Option Addr) (cap:Nat) (w:World) (hs:SL rlC 4 w w.heap.size ad rl.length rl) (hb:rl.length*32<=reachBytes):
  Calls Tryz.prog 42 #[.agg #[.string ⟨nm.toArray⟩,.int .i64 ki,.bool kp,.int .i64 al,.string ⟨dt.toArray⟩,.slice ad rl.length cap]] w (SecQ ⟨nm,ki,kp,al,dt,rl⟩ w):=by
 have HSl:=Lib.hid hs
 obtain ⟨n,hn⟩:∃ n,n=rl.length:=⟨_,rfl⟩
 have HN:=Lib.hid hn
 have hbn:n*32<=140737488351232:=by rw [hn];exact hb
 have HBn:=Lib.hid hbn
 have hni:(n:Int)<=140737488351232:=by omega
 obtain ⟨i0,hi,hz0,hz1,hz2⟩:=info_parts info_rel
 obtain ⟨X,hX⟩:∃ X,X=w.heap.size:=⟨_,rfl⟩
 have HXE:=Lib.hid hX
 have h0:=Lib.hid (QS.mk0 w ⟨⟨nm,ki,kp,al,dt,rl⟩,ad,cap⟩)
 rw [<-hX] at h0
 change Hid (QS w (((w.alloc (.cells #[.string ⟨nm.toArray⟩,.int .i64 ki,.bool kp,.int .i64 al,.string ⟨dt.toArray⟩,.slice ad rl.length cap] 43)).alloc (.cells #[.string ⟨#[]⟩,.int .i64 0,.bool false,.int .i64 0,.string ⟨#[]⟩,.slice none 0 0] 66)).alloc (.cells #[.string ⟨nm.toArray⟩,.int .i64 ki,.bool kp,.int .i64 al,.string ⟨dt.toArray⟩,.slice none 0 0] 66)) X ⟨⟨nm,ki,kp,al,dt,rl⟩,ad,cap⟩ ⟨nm,ki,kp,al,dt,[]⟩ none 0) at h0
 rw [<-hn] at h0 ⊢
 clear hs hb hn hbn
 go_enter Tryz.func42,Tryz.ntmps42
 go_wp2
 rw [<-hX]
 clear hX
 try rw [show X+1+1=X+2 from rfl]
 generalize (((w.alloc (.cells #[.string ⟨nm.toArray⟩,.int .i64 ki,.bool kp,.int .i64 al,.string ⟨dt.toArray⟩,.slice ad n cap] 43)).alloc (.cells #[.string ⟨#[]⟩,.int .i64 0,.bool false,.int .i64 0,.string ⟨#[]⟩,.slice none 0 0] 66)).alloc (.cells #[.string ⟨nm.toArray⟩,.int .i64 ki,.bool kp,.int .i64 al,.string ⟨dt.toArray⟩,.slice none 0 0] 66))=W0 at h0 ⊢
 go_loopw [4] (fun i wr=>∃ (j:Nat) (xs:List Rl) (a:Option Addr) (c:Nat),Hid (QS w wr X ⟨⟨nm,ki,kp,al,dt,rl⟩,ad,cap⟩ ⟨nm,ki,kp,al,dt,xs⟩ a c)/\j<=n/\i=.int .i64 j/\Hid (xs=rl.take j)) (fun i _=>n - (intOf i).toNat)
 case atStart=>exact ⟨0,[],none,0,h0,by omega,rfl,Lib.hid rfl⟩
 case round=>
  clear h0
  obtain ⟨j,xs,a,c,HQ,hj,rfl,HXs⟩:=hrel
  obtain ⟨q,hq⟩:∃ q,q=xs.length:=⟨_,rfl⟩
  have x5:wr.cell? ⟨X,5,none⟩=some (.slice ad n cap):=by have:=HQ.out.ub.cell (j:=5);rw [HN.out];exact this
  have HQq:=Lib.hid hq
  by_cases hlt:j < n
  ·have hlti:(j:Int) < (n:Int):=by omega
   have HLT:=Lib.hid hlt
   have hjr:j < rl.length:=by have:=HN.out;omega
   have hqj:q=j:=by rw [hq,HXs.out,List.length_take];omega
   have hsl:=HSl.out.below HQ.out.kk
   obtain ⟨b,off,had,hB,hc⟩:=hsl.cells (hsl.ne hjr)
   subst had
   obtain ⟨d0,d1,d2,d3⟩:=rl_cells (fun i hi=>hc j hjr i hi)
   have HTk:Hid (rl.take (j+1)=rl.take j ++ [rl[j]]):=Lib.hid (by rw [List.take_add_one,List.getElem?_eq_getElem hjr];rfl)
   generalize rl[j]=r at d0 d1 d2 d3 HTk
   obtain ⟨rp,rk,rs,ra⟩:=r
   simp only at d0 d1 d2 d3
   have HOW:Hid (wr.ownsRow (X+3) 91 4 (.slice a q c) q (xs.flatMap rlC)):=Lib.hid (by have:=HQ.out.oo;simp only at this;rw [hq];exact this)
   have hX2:X+2 < wr.heap.size:=lt_of_block HQ.out.yy
   have y5:wr.cell? ⟨X+2,5,none⟩=some (.slice a q c):=by have:=HQ.out.yy.cell (j:=5);rw [hq];exact this
   have yf:wr.frozen? ⟨X+2,5,none⟩=false:=HQ.out.yy.frozen
   have tA:(wr.alloc (.cells #[.int .i64 rp,.int .i64 rk,.int .i64 rs,.int .i64 ra] 61)).cell? ⟨X+2,5,none⟩=some (.slice a q c):=(World.cell?_alloc_past (w:=wr) _ _ _ hX2).trans y5
   have hno:(Value.slice a q c).ownBlock ≠ some (X+2):=fun e=>by have:=(HOW.out.lt (X+2) e).1;omega
   have hm:q+1<=maxLen:=by unfold maxLen;have:=HBn.out;omega
   have hby:(q+1)*32<=140737488355328:=by have:=HBn.out;omega
   have hnews:∀ j u,(rlC ⟨rp,rk,rs,ra⟩)[j]?=some u->((wr.alloc (.cells #[.int .i64 rp,.int .i64 rk,.int .i64 rs,.int .i64 ra] 61)).alloc (.cells #[.int .i64 rp,.int .i64 rk,.int .i64 rs,.int .i64 ra] 91)).cell? ((⟨wr.heap.size+1,0,none⟩:Addr).add j)=some u:=World.news_of_block (cs:=rlA ⟨rp,rk,rs,ra⟩) (t:=91) (fr:=(0,0)) (by have:=heap_alloc_new (wr.alloc (.cells #[.int .i64 rp,.int .i64 rk,.int .i64 rs,.int .i64 ra] 61)) (.cells (rlA ⟨rp,rk,rs,ra⟩) 91);rw [World.size_alloc] at this;exact this)
   clear hsl hc hB hjr hq hqj hj hlt
   go_wp2_with (at_builtin;refine wpList_append_lies _ rfl _ _ 64 rfl (X+3) 91 i0 (.agg #[.int .i64 0,.int .i64 0,.int .i64 0,.int .i64 0]) 4 32 Tryz.underlying64 hi hz0 hz1 hz2 rfl (by decide) (.slice a q c) q (xs.flatMap rlC) rfl ((HOW.out.alloc _).alloc _) ⟨wr.heap.size+1,0,none⟩ 1 1 (rlC ⟨rp,rk,rs,ra⟩) rfl rfl hnews (rl_one _) (by decide) hm hby (by simp;omega) (wr.heap.size+1+1) (by simp) ?_;intro g2 cap2 w2 hown2 hgrow2 hlie2 hlt2;have t0:w2.cell? ⟨X+2,5,none⟩=some (.slice a q c):=(hgrow2.cell_far _ (by simp;omega) (Ne.symm hno)).trans ((World.cell?_alloc_past _ _ _ (by rw [World.size_alloc];exact Nat.lt_succ_of_lt hX2)).trans tA);have t1:w2.frozen? ⟨X+2,5,none⟩=false:=(hgrow2.frozen_far _ (by simp;omega) (Ne.symm hno)).trans ((World.frozen?_alloc_past _ _ _ (by rw [World.size_alloc];exact Nat.lt_succ_of_lt hX2)).trans ((World.frozen?_alloc_past (w:=wr) _ _ _ hX2).trans yf)))
   rw [HQq.out] at hown2 hgrow2
   have HQ2:=Lib.hid ((HQ.out.alloc (.cells #[.int .i64 rp,.int .i64 rk,.int .i64 rs,.int .i64 ra] 61)).append (x:=⟨rp,rk,rs,ra⟩) hown2 hgrow2)
   simp only [] at HQ2
   rw [<-HQq.out] at HQ2
   clear hown2 hgrow2 hlie2 hlt2 t0 t1 y5 yf tA hno hnews d0 d1 d2 d3
   go_roundw
   case rel=>exact ⟨j+1,xs ++ [⟨rp,rk,rs,ra⟩],_,_,HQ2,by have:=HLT.out;omega,by go_num,Lib.hid (by rw [HTk.out,HXs.out])⟩
   case measure=>have:=HLT.out;simp [intOf];omega
  ·have hnlt:¬ (j:Int) < (n:Int):=by omega
   have hxr:xs=rl:=by rw [HXs.out,List.take_of_length_le (by have:=HN.out;omega)]
   subst hxr
   have HF:=Lib.hid HQ.out.fin
   have y0:wr.cell? ⟨X+2,0,none⟩=some (.string ⟨nm.toArray⟩):=HQ.out.yy.cell
   have y1:wr.cell? ⟨X+2,1,none⟩=some (.int .i64 ki):=HQ.out.yy.cell
   have y2:wr.cell? ⟨X+2,2,none⟩=some (.bool kp):=HQ.out.yy.cell
   have y3:wr.cell? ⟨X+2,3,none⟩=some (.int .i64 al):=HQ.out.yy.cell
   have y4:wr.cell? ⟨X+2,4,none⟩=some (.string ⟨dt.toArray⟩):=HQ.out.yy.cell
   have y5:wr.cell? ⟨X+2,5,none⟩=some (.slice a q c):=by have:=HQ.out.yy.cell (j:=5);rw [HQq.out];exact this
   obtain ⟨x0,x1,x2,x3,x4,x5,xf,xl⟩:=HQ.out.xx.six
   have xf0:=xf 0
   have xf1:=xf 1
   have xf2:=xf 2
   have xf3:=xf 3
   have xf4:=xf 4
   have xf5:=xf 5
   rw [show (⟨nm,ki,kp,al,dt,xs⟩:Sc).rels.length=q from HQq.out.symm] at HF
   clear xf hj hlt hq
   go_wp2
   refine bodyPost_ret (results_cell_row (P:=Tryz.prog) rfl _ _ (X+1) 66 _ (0,0) _ rfl HF.out.1 Tryz.underlying66 rfl (by kernel_rfl)) rfl ?_
   exact HF.out.2
open Go.ChangeShapes Go.WideShapes Go.Deep Go.RowKit
open Go.ChangeShapes Go.WideShapes Go.Deep Go.RowKit
theorem rb_new (w:World) (A:Array Value) (T:TypeId):RB (w.alloc (.cells A T)) w.heap.size A T:=(MapKept.heap_alloc w _).1
open Go.ChangeShapes Go.WideShapes Go.Deep Go.RowKit
theorem lit_below (u:World) (o:Obj):Below u.heap.size u (u.alloc o):=(Below.refl _ _).alloc (Nat.le_refl _) _
structure LK (u:World) (ua:Option Addr) (L:List Ms):Prop where
 sl:SL msC 6 u u.heap.size ua L.length L
 no:Notes u u.heap.size L
 tb:TabP u
 gd:∀ m ∈ L,GoodSc m.sc
 fw:∀ m ∈ L,m.sc.rels.length*32<=reachBytes
theorem LK.next {u v:World} {ua:Option Addr} {L:List Ms} (h:LK u ua L) (hb:Below u.heap.size u v):LK v ua L:=⟨h.sl.next hb,h.no.next hb,h.tb.next hb,h.gd,h.fw⟩
theorem rb_sl {u:World} {g:Nat} {l:List Bool} (h:RB u g (blA l) 4):SL enB 1 u u.heap.size (some ⟨g,0,none⟩) l.length l:=by
 refine ⟨rfl,fun _=>⟨g,0,rfl,lt_of_block h,fun k hk j hj=>?_⟩⟩
 have:j=0:=by omega
 subst this
 rw [show 0+k*1+0=k from by omega,h.cell,blA_get (List.getElem?_eq_getElem hk)]
 rfl
open Go.ChangeShapes Go.WideShapes Go.Deep Go.RowKit
open Go.ChangeShapes Go.WideShapes Go.Deep Go.RowKit
theorem weightsAll_mem {H:Type} {P:Program} {e:TypeId} {d:DataW H} {z:Nat}:∀ {l:List (DataW H)},d ∈ l->z ∈ d.weights P e->z ∈ DataW.weightsAll P e l
 | x :: t,hd,hz=>by
  simp only [DataW.weightsAll,List.mem_append]
  rcases List.mem_cons.1 hd with rfl | hd
  ·exact .inl hz
  ·exact .inr (weightsAll_mem hd hz)
section
variable {α:Type} {enc:α->List Value} {sz:Nat}
theorem open_SL4 {H:Type} {encH:TypeId × Value->H} {P:Program} {W:World} {u:Value} {fuel:Nat} {d:DataW H × List MemPlace} {t e:TypeId} {fs:Array Field} {B:Nat} (good:α->Prop) (dummy:α)
  (ht:P.underlying t=some (.slice e)) (he:P.underlying e=some (.struct fs)) (hone:oneCellFields P fs=true) (hC:P.cellsOf e=fs.size) (hfs:fs.size=sz) (h0:0 < sz)
  (henc:∀ x,(enc x).length=sz)
  (hel:∀ (cell:Nat->Option Value) (m:Nat),(∀ (j:Nat) (f:Field),fs[j]?=some f->∃ (u:Value) (y:DataW H × List MemPlace),cell j=some u/\DataW.trod encH P W 0 (fun _=>true) true m f.type [u]=some y/\∀ z ∈ y.1.weights P f.type,z<=B)->∃ x:α,good x/\∀ j,j < sz->cell j=(enc x)[j]?)
  (hf:DataW.trod encH P W 0 (fun _=>true) true fuel t [u]=some d) (hB:∀ z ∈ d.1.weights P t,z<=B):
  ∃ (a:Option Addr) (n c:Nat) (l:List α),u=.slice a n c/\n<=maxLen/\(∀ x ∈ l,good x)/\SL enc sz W W.heap.size a n l/\(a=none->n=0/\c=0)/\n<=c/\∀ R bt:Nat,(∀ el sp,d.1=.slice el sp->(el.length+sp.length)*bt<=R)->n*bt<=R:=by
 rcases open_slice_fields ht he hone hC hf with ⟨hcs,hx⟩ | ⟨a,len,cap,m,D,Pl,hcs,hb,hl,hm,hmm,hx,hi⟩
 ·simp only [List.cons.injEq,and_true] at hcs
  subst hcs
  exact ⟨none,0,0,[],rfl,by unfold maxLen;omega,by simp,SL.nil _ _ _,fun _=>⟨rfl,rfl⟩,Nat.le_refl _,by intro R bt _;omega⟩
 ·simp only [List.cons.injEq,and_true] at hcs
  subst hcs
  have hlm:len<=m:=by split at hmm <;> omega
  have hc:∀ i,i < len->∃ x:α,good x/\∀ j,j < sz->W.cell? (a.add (i*sz+j))=(enc x)[j]?:=by
   intro i hi'
   obtain ⟨ys,k,hD,-,-,hfs'⟩:=hi i (by omega)
   refine hel (fun j=>W.cell? (a.add (i*sz+j))) k (fun j f hj=>?_)
   obtain ⟨u,y,c1,c3,c2⟩:=hfs' j f hj
   rw [hfs] at c1
   refine ⟨u,y,c1,c2,fun z hz=>hB z ?_⟩
   rw [hx]
   simp only [DataW.weights,ht]
   refine List.mem_cons_of_mem _ (List.mem_append_left _ (weightsAll_mem (List.mem_map.2 ⟨i,by simpa using hi',rfl⟩) ?_))
   rw [hD]
   simp only [DataW.weights,he]
   refine DataW.weights_mem_each (j:=j) (t:=f.type) (d:=y.1) ?_ ?_ z hz
   ·rw [List.getElem?_map,Array.getElem?_toList,hj];rfl
   ·rw [List.getElem?_map,c3];rfl
  have hall:∃ g:Nat->α,∀ i,i < len->good (g i)/\∀ j,j < sz->W.cell? (a.add (i*sz+j))=(enc (g i))[j]?:=
   ⟨fun i=>if h:i < len then Classical.choose (hc i h) else dummy,fun i h=>by simp only [h,dite_true];exact Classical.choose_spec (hc i h)⟩
  obtain ⟨g,hg⟩:=hall
  refine ⟨some a,len,cap,(List.range len).map g,rfl,by omega,?_,⟨by simp,?_⟩,by simp,hl,fun R bt hR=>?_⟩
  rotate_left 2
  ·have:=hR _ _ (by rw [hx])
   simp only [List.length_map,List.length_range] at this
   exact Nat.le_trans (Nat.mul_le_mul_right _ (Nat.le_add_right _ _)) this
  ·intro f hf
   obtain ⟨i,hi2,rfl⟩:=List.mem_map.1 hf
   exact (hg i (by simpa using hi2)).1
  ·intro hne
   have hlen:0 < len:=by
    rcases Nat.eq_zero_or_pos len with h | h
    ·subst h;simp at hne
    ·exact h
   have h00:=(hg 0 hlen).2 0 h0
   have hsome:∃ u,W.cell? (a.add (0*sz+0))=some u:=by
    rw [h00];exact ⟨_,List.getElem?_eq_getElem (by rw [henc];exact h0)⟩
   obtain ⟨u,hu⟩:=hsome
   have ea:a.add (0*sz+0)=a:=by simp [Addr.add]
   rw [ea] at hu
   have hal:a.block < W.heap.size:=cell_lt hu
   obtain ⟨b,off,el⟩:=a
   have hel':el=none:=cell_spot hu
   subst hel'
   refine ⟨b,off,rfl,hal,fun k hk j hj=>?_⟩
   have hk':k < len:=by simpa using hk
   have:=(hg k hk').2 j hj
   rw [add_none] at this
   simpa only [Nat.add_assoc,List.getElem_map,List.getElem_range] using this
end
end Go.Proofs.YtbabckomagkjbaaGreatDoor
