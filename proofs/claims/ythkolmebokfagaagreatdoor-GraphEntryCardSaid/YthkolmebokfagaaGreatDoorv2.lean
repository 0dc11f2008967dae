/- sym: Check, firsts, places. sym: places, Find. sym: Find; what stands once; the rows of places. sym: the rows of places grow. sym: Resolve's rows, symbol by symbol. sym: Resolve. -/
import Derived.Test.YthkolmebokfagaaGreatDoorv1
import Derived.Laws.EntriesVeiled
import Derived.Deep.AppendLies
set_option maxRecDepth 100000
set_option maxHeartbeats 3000000
set_option linter.unusedVariables false
set_option linter.unusedSimpArgs false
namespace Go.Proofs.YthkolmebokfagaaGreatDoor
open Go.RowKit
open Go.ChangeShapes Go.WideShapes Go.Deep Go.RowKit
theorem OS.all {w:World} {B:Nat} {a:Option Addr} {n:Nat} {Os:List Ox} (h:OS w B a n Os):n=(Os.map obOf).length:=by rw [List.length_map];exact h.sl.len
theorem ois_at {w:World} {a:Option Addr} {n:Nat} {Os:List Ox} (hO:OS w w.heap.size a n Os) (hT:TabP w) {k:Nat} {o:Ox} (ho:Os[k]?=some o) {u:World} (hu:Below w.heap.size w u):
  Calls Tryz.prog 15 #[.agg #[.slice o.a o.L.length o.c,.slice o.a2 o.l.length o.c2]] u (RetB (.bool (isO (obOf o))) u):=by
 have hm:=List.mem_of_getElem? ho
 have h:=hO.next hu
 exact oIs_any o.a _ o.c o.L o.a2 _ o.c2 o.l (h.l1 o hm) (h.l2 o hm) u (h.s1 o hm) (h.no o hm) (h.gd o hm) (h.s2 o hm) (h.gs o hm) (hT.next hu)
theorem check_any (a:Option Addr) (n c:Nat) (Os:List Ox) (w:World) (hO:OS w w.heap.size a n Os) (hT:TabP w):
  Calls Tryz.prog 25 #[.slice a n c] w (RetB (.int .i64 (checkL (Os.map obOf))) w):=by
 have hn:n=Os.length:=hO.sl.len
 have hni:(n:Int)<=9223372036854775807:=by have:=hO.ln;unfold maxLen at this;omega
 by_cases hb:8 < n
 ·have HR:Hid (checkL (Os.map obOf)=2):=Lib.hid (by unfold checkL;rw [if_pos (by rw [List.length_map];omega)])
  have hbi:(8:Int) < (n:Int):=by omega
  clear hO hT hn
  go_enter Tryz.func25,Tryz.ntmps25
  go_wp2
  go_ret
  exact ⟨by rw [HR.out];rfl,Below.refl _ _⟩
 have HNb:Hid (¬ 8 < n):=Lib.hid hb
 have hbi:¬ (8:Int) < (n:Int):=by omega
 have HIs:Hid (∀ (k:Nat) (o:Ox) (u:World),Os[k]?=some o->Below w.heap.size w u->Calls Tryz.prog 15 #[.agg #[.slice o.a o.L.length o.c,.slice o.a2 o.l.length o.c2]] u (RetB (.bool (isO (obOf o))) u)):=Lib.hid (fun k o u ho hu=>ois_at hO hT ho hu)
 have HO:=Lib.hid hO
 have HLn:=Lib.hid hn
 clear hO hT hn hb
 go_enter Tryz.func25,Tryz.ntmps25
 go_wp2
 go_loopw [10] (fun i wr=>∃ (k:Nat) (wx:World),wx=wr/\k<=n/\i=.int .i64 k/\Below w.heap.size w wx/\Hid (∀ q o,Os[q]?=some o->q < k->isO (obOf o)=true)) (fun i _=>n - (intOf i).toNat)
 case atStart=>exact ⟨0,_,rfl,by omega,rfl,Below.refl _ _,Lib.hid (fun q o _ h=>by omega)⟩
 case round=>
  obtain ⟨k,wx,rfl,hk,rfl,hbx,HQ⟩:=hrel
  have HB:=Lib.hid hbx
  clear hbx
  by_cases hlt:k < n
  ·have hlti:(k:Int) < (n:Int):=by omega
   have hk1:k < Os.length:=by have:=HLn.out;omega
   obtain ⟨bb,off,hae,hBB,hcc⟩:=(HO.out.next HB.out).sl.cells (HO.out.sl.ne hlt)
   subst hae
   obtain ⟨c0,c1⟩:=ox_cells (fun j hj=>hcc k hk1 j hj)
   obtain ⟨o,ho⟩:∃ o,o=Os[k]:=⟨_,rfl⟩
   have HOo:Hid (Os[k]?=some o):=Lib.hid (by rw [ho];exact List.getElem?_eq_getElem hk1)
   rw [<-ho] at c0 c1
   clear hcc ho hBB
   have HA:Hid (Below w.heap.size w (wx.alloc (.cells #[.slice o.a o.L.length o.c,.slice o.a2 o.l.length o.c2] 25))):=Lib.hid (HB.out.alloc HB.out.size _)
   have HI:=Lib.hid (HIs.out k o _ HOo.out HA.out)
   obtain ⟨oa,oc,oL,oa2,oc2,ol⟩:=o
   simp only [] at c0 c1 HI
   obtain ⟨on,hon⟩:∃ on,on=oL.length:=⟨_,rfl⟩
   obtain ⟨m,hm⟩:∃ m,m=ol.length:=⟨_,rfl⟩
   rw [<-hon] at c0 HI HA
   rw [<-hm] at c1 HI HA
   obtain ⟨r,hr⟩:∃ r,r=isO (obOf ⟨oa,oc,oL,oa2,oc2,ol⟩):=⟨_,rfl⟩
   rw [<-hr] at HI
   have HR:=Lib.hid hr
   clear hon hm hr
   cases r
   ·go_wp2_with fail
    refine HI.out.mono ?_
    rintro e u ⟨rfl,hb⟩
    have HB2:=Lib.hid (after HA.out hb)
    have HC:Hid (checkL (Os.map obOf)=1):=Lib.hid (by
     unfold checkL
     rw [if_neg (by rw [List.length_map,<-HLn.out];exact HNb.out),if_neg (fun h=>by
      have:=List.all_eq_true.1 h _ (List.mem_map.2 ⟨_,List.mem_of_getElem? HOo.out,rfl⟩)
      rw [<-HR.out] at this;cases this)])
    clear hb
    go_wp2
    go_ret
    exact ⟨by rw [HC.out];rfl,HB2.out⟩
   ·go_wp2_with fail
    refine HI.out.mono ?_
    rintro e u ⟨rfl,hb⟩
    have HB2:=Lib.hid (after HA.out hb)
    have HQ2:Hid (∀ q o,Os[q]?=some o->q < k+1->isO (obOf o)=true):=Lib.hid (fun q o h hq=>by
     by_cases e:q=k
     ·subst e
      rw [HOo.out] at h
      cases h
      exact HR.out.symm
     ·exact HQ.out q o h (by omega))
    clear hb c0 c1
    go_wp2
    go_roundw
    case rel=>exact ⟨k+1,_,rfl,by omega,by go_num,HB2.out,HQ2⟩
    case measure=>simp [intOf];omega
  ·have hlti:¬ (k:Int) < (n:Int):=by omega
   have HC:Hid (checkL (Os.map obOf)=0):=Lib.hid (checkL_zero.2 ⟨by rw [List.length_map,<-HLn.out];have:=HNb.out;omega,fun o ho=>by
    obtain ⟨x,hx,rfl⟩:=List.mem_map.1 ho
    obtain ⟨q,hq,rfl⟩:=List.getElem_of_mem hx
    exact HQ.out q _ (List.getElem?_eq_getElem hq) (by have:=HLn.out;omega)⟩)
   go_wp2
   go_ret
   exact ⟨by rw [HC.out];rfl,HB.out⟩
def MapP (w:World) (F:FN) (e:Ending) (w':World):Prop:=∃ g,e=.returned (.map (some g))/\FM w' g F/\w.heap.size<=g/\Below w.heap.size w w'
theorem firsts_any (a:Option Addr) (n c:Nat) (Os:List Ox) (b:Int) (w:World) (hO:OS w w.heap.size a n Os):
  Calls Tryz.prog 86 #[.slice a n c,.int .i64 b] w (MapP w (fun nm=>fstP b nm (flatS 0 (Os.map (·.l))))):=by
 have hmm:=@run_makeMap Tryz.prog
 obtain ⟨H,hH⟩:∃ H,H=w.heap.size:=⟨_,rfl⟩
 obtain ⟨A1,hA1⟩:∃ A,A=w.alloc (.cells #[.int .i64 b] 3):=⟨_,rfl⟩
 obtain ⟨A2,hA2⟩:∃ A,A=A1.alloc (.map #[] 0):=⟨_,rfl⟩
 obtain ⟨A3,hA3⟩:∃ A,A=A2.alloc (.cells #[.map (some (H+1))] 99):=⟨_,rfl⟩
 have s1:A1.heap.size=H+1:=by rw [hA1,World.size_alloc,hH]
 have s2:A2.heap.size=H+1+1:=by rw [hA2,World.size_alloc,s1]
 have b1:Below w.heap.size w A1:=by rw [hA1];exact lit_below w _
 have b2:Below A1.heap.size A1 A2:=by rw [hA2];exact lit_below A1 _
 have b3:Below A2.heap.size A2 A3:=by rw [hA3];exact lit_below A2 _
 have HB:=Lib.hid (after (after b1 b2) b3)
 have hr0:RB A3 H #[.int .i64 b] 3:=by
  have:RB A1 H #[.int .i64 b] 3:=by rw [hA1,hH];exact rb_new w _ _
  exact (this.next b2).next b3
 have hr1:FM A3 (H+1) (fun _=>none):=by
  have:FM A2 (H+1) (fun _=>none):=FM.none _ _ (by rw [hA2,<-s1];exact (MapKept.heap_alloc _ _).1)
  exact this.next b3
 have hr2:RB A3 (H+1+1) #[.map (some (H+1))] 99:=by rw [hA3,<-s2];exact rb_new _ _ _
 have h0:IF H (H+1) (H+1+1) H b (fun _=>none) (fun j=>j=H+1\/j=H+1+1\/j=H) A3:=⟨rfl,hr1,hr2,hr0,by omega,by omega,by omega,by omega,by omega⟩
 have HE:=Lib.hid (each_any (IF H (H+1) (H+1+1) H b) H (ei_if _ _ _ _ _) (stepF b) 107 #[.pointer (some ⟨H+1+1,0,none⟩),.pointer (some ⟨H,0,none⟩)] (fun _ _=>by kernel_rfl) a n c Os A3 (by have:=HB.out.size;omega) (by rw [hH];exact hO.below HB.out) (fun _=>none) _ h0 (fun s X u k j y N _ _ hi hN hl=>firsts1_any _ _ _ _ _ _ _ k j y N u hi hN hl))
 obtain ⟨r1,r2⟩:=runE_first0 b (flatS 0 (Os.map (·.l)))
 have HR1:=Lib.hid r1
 have HR2:=Lib.hid r2
 have HAE:Hid (((w.alloc (.cells #[.int .i64 b] 3)).alloc (.map #[] 0)).alloc (.cells #[.map (some (H+1))] 99)=A3):=Lib.hid (by rw [hA3,hA2,hA1])
 have HH:=Lib.hid hH
 clear s1 s2 b1 b2 b3 hr0 hr1 hr2 h0 r1 r2 hA1 hA2 hA3 hO hH
 go_enter Tryz.func86,Tryz.ntmps86
 go_wp2_with fail
 clear hmm
 try rw [<-HH.out]
 rw [HAE.out]
 refine HE.out.mono ?_
 rintro e u ⟨X',rfl,hi,hko,hX⟩
 rw [HR2.out] at hi
 obtain ⟨-,h1,h2,-⟩:=hi
 have HM1:=Lib.hid h1
 have HB1:Hid (Below w.heap.size w u):=Lib.hid (HB.out.trans (hko.below (by have:=HB.out.size;rw [HH.out] at *;omega) (fun j hj=>by rw [<-HH.out];rcases hj with h | h | h <;> omega)))
 have y0:u.cell? ⟨H+1+1,0,none⟩=some (.map (some (H+1))):=h2.cell
 clear h1 h2 hko hX
 go_wp2
 go_ret
 exact ⟨_,rfl,HM1.out,by rw [<-HH.out];omega,HB1.out⟩
open Go.ChangeShapes Go.WideShapes Go.Deep Go.RowKit
def Dn (es:Array MapEntry) (seen:Array Nat) (nm:List UInt8):Prop:=∃ e ∈ es.toList,seen.contains e.born=true/\∃ N,e.key=.string N/\N.data.toList=nm
def PI (F2 F3 Fc:FN) (es:Array MapEntry) (seen:Array Nat):Prop:=∀ nm,(F2 nm ≠ none->Fc nm=F2 nm)/\(F2 nm=none->Dn es seen nm->Fc nm=F3 nm)/\(F2 nm=none->¬ Dn es seen nm->Fc nm=none)
theorem fm_kn {es:Array MapEntry} {clock:Nat} {l:List (ByteArray × Pl)} (h:FMs es clock l):(es.toList.map (·.key)).Nodup:=by
 have e:es.toList.map (·.key)=l.map (fun p=>Value.string p.1):=by
  have:=congrArg (List.map Prod.fst) h.eq
  simpa [List.map_map,Function.comp_def,pairP] using this
 rw [e,show l.map (fun p=>Value.string p.1)=(l.map (·.1)).map Value.string by rw [List.map_map];rfl]
 exact List.Pairwise.map Value.string (fun a b hab e=>hab (by cases e;rfl)) h.nd
theorem pi_start (F2 F3:FN) (es:Array MapEntry):PI F2 F3 F2 es #[]:=by
 intro nm
 refine ⟨fun _=>rfl,fun _ h=>?_,fun h _=>h⟩
 obtain ⟨e,-,h1,-⟩:=h
 simp at h1
theorem dn_push {es:Array MapEntry} {clock:Nat} {l:List (ByteArray × Pl)} (h:FMs es clock l) {seen:Array Nat} {e:MapEntry} (he:e ∈ es.toList) {N:ByteArray} (hk:e.key=.string N) (nm:List UInt8):Dn es (seen.push e.born) nm ↔ Dn es seen nm\/nm=N.data.toList:=by
 constructor
 ·rintro ⟨x,hx,h1,M,hM,rfl⟩
  rw [contains_push,Bool.or_eq_true] at h1
  rcases h1 with h1 | h1
  ·exact .inl ⟨x,hx,h1,M,hM,rfl⟩
  ·right
   have:=born_inj h.bn hx he (by simpa using h1)
   rw [this,hk] at hM
   cases hM;rfl
 ·rintro (⟨x,hx,h1,h2⟩ | rfl)
  ·exact ⟨x,hx,by rw [contains_push,h1];rfl,h2⟩
  ·exact ⟨e,he,by rw [contains_push];simp,N,hk,rfl⟩
theorem dn_not {es:Array MapEntry} {clock:Nat} {l:List (ByteArray × Pl)} (h:FMs es clock l) {seen:Array Nat} {e:MapEntry} (he:e ∈ es.toList) (hs:seen.contains e.born=false) {N:ByteArray} (hk:e.key=.string N):¬ Dn es seen N.data.toList:=by
 rintro ⟨x,hx,h1,M,hM,hMN⟩
 have e2:x=e:=nodup_at (fm_kn h) hx he (by rw [hM,hk,ba_eq hMN])
 rw [e2,hs] at h1
 cases h1
theorem pi_some {F2 F3 Fc:FN} {es:Array MapEntry} {clock:Nat} {l:List (ByteArray × Pl)} {seen:Array Nat} (h:PI F2 F3 Fc es seen) (hm:FMs es clock l) {e:MapEntry} (he:e ∈ es.toList) (hs:seen.contains e.born=false) {N:ByteArray} (hk:e.key=.string N) (hc:Fc N.data.toList ≠ none):PI F2 F3 Fc es (seen.push e.born):=by
 have hn:=dn_not hm he hs hk
 intro nm
 rw [dn_push hm he hk]
 refine ⟨(h nm).1,fun h2 hd=>?_,fun h2 hd=>(h nm).2.2 h2 (fun x=>hd (.inl x))⟩
 rcases hd with hd | rfl
 ·exact (h nm).2.1 h2 hd
 ·exact absurd ((h _).2.2 h2 hn) hc
theorem pi_none {F2 F3 Fc:FN} {es:Array MapEntry} {clock:Nat} {l:List (ByteArray × Pl)} {seen:Array Nat} (h:PI F2 F3 Fc es seen) (hm:FMs es clock l) {e:MapEntry} (he:e ∈ es.toList) (hs:seen.contains e.born=false) {N:ByteArray} (hk:e.key=.string N) {p:Pl} (hp:F3 N.data.toList=some p) (hc:Fc N.data.toList=none):PI F2 F3 (setF Fc N.data.toList p) es (seen.push e.born):=by
 have hn:=dn_not hm he hs hk
 have h2n:F2 N.data.toList=none:=by
  cases h2:F2 N.data.toList with
  | none=>rfl
  | some q=>have:=(h N.data.toList).1 (by rw [h2];simp);rw [hc,h2] at this;cases this
 intro nm
 rw [dn_push hm he hk]
 unfold setF
 by_cases e2:nm=N.data.toList
 ·rw [if_pos e2]
  subst e2
  exact ⟨fun hh=>absurd h2n hh,fun _ _=>hp.symm,fun _ hh=>absurd (.inr rfl) hh⟩
 ·rw [if_neg e2]
  refine ⟨(h nm).1,fun h2 hd=>?_,fun h2 hd=>(h nm).2.2 h2 (fun x=>hd (.inl x))⟩
  rcases hd with hd | hd
  ·exact (h nm).2.1 h2 hd
  ·exact absurd hd e2
theorem pi_end {F2 F3 Fc:FN} {es:Array MapEntry} {clock:Nat} {l:List (ByteArray × Pl)} {seen:Array Nat} (h:PI F2 F3 Fc es seen) (hm:FMs es clock l) (hF:∀ nm,F3 nm=lookB l nm) (hl:(leftOf es seen).size=0):Fc=fun nm=>(F2 nm).or (F3 nm):=by
 funext nm
 cases h2:F2 nm with
 | some q=>rw [(h nm).1 (by rw [h2];simp),h2];rfl
 | none=>
  rw [Option.none_or]
  by_cases hd:Dn es seen nm
  ·exact (h nm).2.1 h2 hd
  ·rw [(h nm).2.2 h2 hd]
   cases h3:F3 nm with
   | none=>rfl
   | some p=>
    exfalso
    rw [hF] at h3
    obtain ⟨q,hq,h4,h5⟩:=lookB_some h3
    have:pairP q ∈ es.toList.map (fun e=>(e.key,e.val)):=by rw [hm.eq];exact List.mem_map.2 ⟨q,hq,rfl⟩
    obtain ⟨x,hx,hxe⟩:=List.mem_map.1 this
    simp only [pairP,Prod.mk.injEq] at hxe
    exact hd ⟨x,hx,all_seen es seen hl x hx,q.1,hxe.1,h4⟩
open Go.ChangeMaps (setBlock)
theorem next_facts {w w1:World} (h:w1=w\/w1=w.drew) {r:Nat} {o:Obj} (o':Obj) (hr:w.heap[r]?=some o):w.grownBy (setBlock w1 r o') (some r)/\(setBlock w1 r o').heap[r]?=some o':=by
 have hlt:=lt_of_block hr
 have key:∀ v:World,v.os=w.os->v.tape=w.tape->v.output=w.output->v.heap=w.heap->w.grownBy (setBlock v r o') (some r)/\(setBlock v r o').heap[r]?=some o':=by
  intro v h1 h2 h3 h4
  refine ⟨⟨h1,h2,h3,by simp [setBlock,h4],fun i hi hne=>?_⟩,?_⟩
  ·simp only [setBlock]
   rw [Array.getElem?_setIfInBounds_ne (fun e=>hne (by rw [e])),h4]
  ·simp [setBlock,h4,hlt]
 rcases h with rfl | rfl
 ·exact key _ rfl rfl rfl rfl
 ·exact key _ rfl rfl rfl rfl
def leftW (g r:Nat) (u:World):Nat:=match u.heap[r]?,u.heap[g]? with | some (.mapIter _ _ seen _),some (.map es _)=>(leftOf es seen).size | _,_=>0
theorem leftW_eq {g r:Nat} {u:World} {m:Option Nat} {s c:Nat} {seen:Array Nat} {es:Array MapEntry} {clock:Nat} (h1:u.heap[r]?=some (.mapIter m s seen c)) (h2:u.heap[g]?=some (.map es clock)):leftW g r u=(leftOf es seen).size:=by
 unfold leftW;rw [h1,h2]
structure PR (w:World) (g2 g3 r:Nat) (F2 F3:FN) (es:Array MapEntry) (clock:Nat) (seen:Array Nat) (wr:World):Prop where
 it:∃ c,wr.heap[r]?=some (.mapIter (some g3) clock seen c)/\clock<=c
 m3:wr.heap[g3]?=some (.map es clock)
 m2:∃ Fc,FM wr g2 Fc/\PI F2 F3 Fc es seen
 bl:Below w.heap.size w wr
theorem PR.next {w:World} {g2 g3 r:Nat} {F2 F3:FN} {es:Array MapEntry} {clock:Nat} {seen:Array Nat} {u v:World} (h:PR w g2 g3 r F2 F3 es clock seen u) (hb:Below u.heap.size u v):PR w g2 g3 r F2 F3 es clock seen v:=by
 obtain ⟨⟨c,h1,h2⟩,h3,⟨Fc,h4,h5⟩,h6⟩:=h
 exact ⟨⟨c,(hb.block r (lt_of_block h1)).trans h1,h2⟩,(hb.block g3 (lt_of_block h3)).trans h3,⟨Fc,h4.next hb,h5⟩,after h6 hb⟩
theorem places_any (a:Option Addr) (n c:Nat) (Os:List Ox) (w:World) (hO:OS w w.heap.size a n Os):
  Calls Tryz.prog 53 #[.slice a n c] w (MapP w (plcL (flatS 0 (Os.map (·.l))))):=by
 have HF:=Lib.hid (fun (b:Int) (u:World) (hu:Below w.heap.size w u)=>firsts_any a n c Os b u (hO.next hu))
 obtain ⟨l,hl⟩:∃ l,l=flatS 0 (Os.map (·.l)):=⟨_,rfl⟩
 rw [<-hl] at HF ⊢
 clear hl hO
 go_enter Tryz.func53,Tryz.ntmps53
 go_wp2_with fail
 refine (HF.out 2 w (Below.refl _ _)).mono ?_
 rintro e u ⟨g2,rfl,hm,hg,hb⟩
 have HM:=Lib.hid hm
 have HB:=Lib.hid hb
 have HG2:Hid (w.heap.size<=g2):=Lib.hid hg
 clear hm hb hg
 go_wp2_with fail
 refine (HF.out 3 u HB.out).mono ?_
 rintro e u2 ⟨g3,rfl,hm3,hg3,hb2⟩
 obtain ⟨es,clock,ll,hblk,hms,hF3⟩:=hm3
 have HMs:=Lib.hid hms
 have HF3:=Lib.hid hF3
 have HB1:=Lib.hid (after HB.out hb2)
 have HG3:Hid (g2 < g3):=Lib.hid (by have:=HM.out.lt;omega)
 replace HM:=Lib.hid (HM.out.next hb2)
 obtain ⟨r,hr⟩:∃ r,r=u2.heap.size:=⟨_,rfl⟩
 have HRE:=Lib.hid hr
 have hrg:=run_range_map (P:=Tryz.prog) u2 99 9 46 g3 es clock Tryz.underlying99 hblk
 have HP:Hid (PR w g2 g3 r (fun nm=>fstP 2 nm l) (fun nm=>fstP 3 nm l) es clock #[] (u2.alloc (.mapIter (some g3) clock #[] clock))):=Lib.hid ⟨⟨clock,by rw [hr];exact (MapKept.heap_alloc _ _).1,Nat.le_refl _⟩,(Below.heap_alloc _ _ _ (lt_of_block hblk)).trans hblk,⟨_,HM.out.next (lit_below _ _),pi_start _ _ _⟩,HB1.out.alloc HB1.out.size _⟩
 have HGr:Hid (g3 < r):=Lib.hid (by rw [hr];exact lt_of_block hblk)
 clear hblk hms hF3 hg3 hb2 HF HB HB1 HM hr
 go_wp2
 try rw [<-HRE.out]
 generalize (u2.alloc (.mapIter (some g3) clock #[] clock))=W0 at HP ⊢
 clear hrg
 go_loopw [4] (fun i wr=>∃ seen,Hid (PR w g2 g3 r (fun nm=>fstP 2 nm l) (fun nm=>fstP 3 nm l) es clock seen wr)) (fun _ wr=>leftW g3 r wr)
 case atStart=>exact ⟨#[],HP⟩
 case round=>
  clear HP
  obtain ⟨seen,HR⟩:=hrel
  obtain ⟨⟨ck,hit,hck⟩,hm3,⟨Fc,hm2,hpi⟩,hbl⟩:=HR.out
  have HM2:=Lib.hid hm2
  have HPI:=Lib.hid hpi
  have HM3:=Lib.hid hm3
  have HBL:=Lib.hid hbl
  have HIT:=Lib.hid hit
  have hty:∀ ty:TypeId,(Instr.next (.pointer (some ⟨r,0,none⟩)) false ty).run Tryz.prog wr=(Instr.next (.pointer (some ⟨r,0,none⟩)) false 0).run Tryz.prog wr:=fun ty=>by simp only [Instr.next]
  rcases run_next_at (P:=Tryz.prog) wr 0 r g3 clock ck seen es clock hit hm3 HMs.out.bo hck with ⟨hz,hnx⟩ | ⟨e,he,w1,hw1,hrun⟩
  ·have hn2:∀ ty:TypeId,(Instr.next (.pointer (some ⟨r,0,none⟩)) false ty).run Tryz.prog wr=.ok (.tuple #[.bool false]) wr:=fun ty=>(hty ty).trans hnx
   clear hty
   have HEnd:=Lib.hid (pi_end hpi HMs.out HF3.out hz)
   clear hnx hit hck hm3 hm2 hpi hbl hz
   go_wp2
   go_ret
   exact ⟨g2,rfl,by have:=HM2.out;rw [HEnd.out] at this;exact this,HG2.out,HBL.out⟩
  ·obtain ⟨hee,hes⟩:=mem_left he
   have hsh:=left_shrinks es seen e he
   obtain ⟨⟨N,⟨po,ps,pf⟩⟩,hp,hk,hv⟩:=fm_key HMs.out hee
   simp only at hk hv
   obtain ⟨w2,hw2⟩:∃ x,x=setBlock w1 r (.mapIter (some g3) clock (seen.push e.born) clock):=⟨_,rfl⟩
   obtain ⟨hgr,hr2⟩:=next_facts hw1 (.mapIter (some g3) clock (seen.push e.born) clock) hit
   rw [<-hw2] at hgr hr2 hrun
   rw [hk,hv] at hrun
   have hn2:∀ ty:TypeId,(Instr.next (.pointer (some ⟨r,0,none⟩)) false ty).run Tryz.prog wr=.ok (.tuple #[.bool true,.string N,plV ⟨po,ps,pf⟩]) w2:=fun ty=>(hty ty).trans hrun
   have hm3':w2.heap[g3]?=some (.map es clock):=(hgr.block g3 (lt_of_block hm3) (fun x=>by have:=HGr.out;cases x;omega)).trans hm3
   have hm2':FM w2 g2 Fc:=hm2.same (hgr.block g2 hm2.lt (fun x=>by have:=HGr.out;have:=HG3.out;cases x;omega))
   have hent:=run_entry_at (P:=Tryz.prog) w2 r g3 clock seen es clock e hr2 hm3' hee HMs.out.bn
   rw [hk,hv] at hent
   have hbl2:Below w.heap.size w w2:=hbl.grown hgr hbl.size (fun j hj=>by have:=HG2.out;have:=HG3.out;have:=HGr.out;cases hj;omega)
   have hNs:N.size<=maxLen:=HMs.out.sz _ hp
   have h3N:lookB ll N.data.toList=some ⟨po,ps,pf⟩:=lookB_of HMs.out hp
   obtain ⟨W3,hW3⟩:∃ x,x=w2.alloc (.cells #[.int .i64 po,.int .i64 ps,.int .i64 pf] 46):=⟨_,rfl⟩
   have hb3:Below w2.heap.size w2 W3:=by rw [hW3];exact lit_below w2 _
   obtain ⟨R5,hR5⟩:∃ x,x=w2.heap.size:=⟨_,rfl⟩
   have hr5:RB W3 R5 #[.int .i64 po,.int .i64 ps,.int .i64 pf] 46:=by rw [hW3,hR5];exact rb_new w2 _ _
   obtain ⟨v,hvv⟩:∃ v,v=(Fc N.data.toList).getD plZ:=⟨_,rfl⟩
   obtain ⟨is,his⟩:∃ is,is=(Fc N.data.toList).isSome:=⟨_,rfl⟩
   have hlk:=fm_look (hm2'.next hb3) hNs
   rw [<-hvv,<-his] at hlk
   unfold plV at hlk hn2 hent
   obtain ⟨vo,vs,vf⟩:=v
   simp only at hlk hn2 hent
   obtain ⟨W4,hW4⟩:∃ x,x=W3.alloc (.cells #[.int .i64 vo,.int .i64 vs,.int .i64 vf] 46):=⟨_,rfl⟩
   have hb4:Below W3.heap.size W3 W4:=by rw [hW4];exact lit_below W3 _
   have hb34:=after hb3 hb4
   have HB4:Hid (Below w.heap.size w W4):=Lib.hid (after hbl2 hb34)
   have HFM4:=Lib.hid (hm2'.next hb34)
   have HI4:Hid (W4.heap[r]?=some (.mapIter (some g3) clock (seen.push e.born) clock)):=Lib.hid ((hb34.block r (lt_of_block hr2)).trans hr2)
   have HM4:Hid (W4.heap[g3]?=some (.map es clock)):=Lib.hid ((hb34.block g3 (lt_of_block hm3')).trans hm3')
   have HL:Hid (leftW g3 r wr=(leftOf es seen).size):=Lib.hid (leftW_eq hit hm3)
   have HSh:=Lib.hid hsh
   have t0:W4.cell? ⟨R5,0,none⟩=some (.int .i64 po):=(hr5.next hb4).cell
   have t1:W4.cell? ⟨R5,1,none⟩=some (.int .i64 ps):=(hr5.next hb4).cell
   have t2:W4.cell? ⟨R5,2,none⟩=some (.int .i64 pf):=(hr5.next hb4).cell
   have HAE:Hid ((w2.alloc (.cells #[.int .i64 po,.int .i64 ps,.int .i64 pf] 46)).alloc (.cells #[.int .i64 vo,.int .i64 vs,.int .i64 vf] 46)=W4):=Lib.hid (by rw [hW4,hW3])
   rw [hW4,hW3,hR5] at t0 t1 t2
   rw [hW3] at hlk
   cases is
   ·have hFn:Fc N.data.toList=none:=by
     cases hq:Fc N.data.toList with
     | none=>rfl
     | some q=>rw [hq] at his;cases his
    have HPI2:=Lib.hid (pi_none hpi HMs.out hee hes hk ((HF3.out _).trans h3N) hFn)
    obtain ⟨w',hput,hfm,hg'⟩:=fm_put HFM4.out N ⟨po,ps,pf⟩ hNs hFn
    unfold plV at hput
    simp only at hput
    rw [<-HAE.out] at hput
    have HFM5:Hid (FM w' g2 (setF Fc N.data.toList ⟨po,ps,pf⟩)):=Lib.hid hfm
    have HG5:=Lib.hid hg'
    clear hty hrun hit hck hm3 hm2 hpi hbl he hw1 hee hes hsh hp hk hv hw2 hgr hr2 hm3' hm2' hbl2 hNs h3N hW3 hb3 hR5 hr5 hvv his hW4 hb4 hb34 hFn hfm hg'
    go_wp2
    go_roundw
    case rel=>
     refine ⟨seen.push e.born,Lib.hid ⟨⟨clock,?_,Nat.le_refl _⟩,?_,⟨_,HFM5.out,HPI2.out⟩,?_⟩⟩
     ·exact (HG5.out.block r (lt_of_block HI4.out) (fun x=>by have:=HGr.out;have:=HG3.out;cases x;omega)).trans HI4.out
     ·exact (HG5.out.block g3 (lt_of_block HM4.out) (fun x=>by have:=HG3.out;cases x;omega)).trans HM4.out
     ·exact HB4.out.grown HG5.out HB4.out.size (fun j hj=>by cases hj;exact HG2.out)
    case measure=>
     rw [HL.out,leftW_eq ((HG5.out.block r (lt_of_block HI4.out) (fun x=>by have:=HGr.out;have:=HG3.out;cases x;omega)).trans HI4.out) ((HG5.out.block g3 (lt_of_block HM4.out) (fun x=>by have:=HG3.out;cases x;omega)).trans HM4.out)]
     exact HSh.out
   ·have hFs:Fc N.data.toList ≠ none:=by
     intro hq;rw [hq] at his;cases his
    have HPI2:=Lib.hid (pi_some hpi HMs.out hee hes hk hFs)
    clear hty hrun hit hck hm3 hm2 hpi hbl he hw1 hee hes hsh hp hk hv hw2 hgr hr2 hm3' hm2' hbl2 hNs h3N hW3 hb3 hR5 hr5 hvv his hW4 hb4 hb34 hFs t0 t1 t2
    go_wp2
    rw [HAE.out]
    go_roundw
    case rel=>exact ⟨seen.push e.born,Lib.hid ⟨⟨clock,HI4.out,Nat.le_refl _⟩,HM4.out,⟨_,HFM4.out,HPI2.out⟩,HB4.out⟩⟩
    case measure=>
     rw [HL.out,leftW_eq HI4.out HM4.out]
     exact HSh.out
open Go.ChangeShapes Go.WideShapes Go.Deep Go.RowKit
theorem flatO_eq (Os:List Ox):flatS 0 (Os.map (·.l))=flatO (Os.map obOf):=by unfold flatO;rw [List.map_map];rfl
def FindP (r:Option Pl) (w:World) (e:Ending) (w':World):Prop:=e=.returned (.tuple #[.agg #[.int .i64 (r.getD plZ).obj,.int .i64 (r.getD plZ).sec,.int .i64 (r.getD plZ).off],.bool r.isSome])/\Below w.heap.size w w'
theorem pfld0 (a b c:Value) (w:World):(Instr.field 46 (.agg #[a,b,c]) 0).run Tryz.prog w=.ok a w:=by kernel_rfl
theorem below_set3 {w u:World} (h:Below w.heap.size w u) {H:Nat} (hH:w.heap.size<=H) (a b c:Value):Below w.heap.size w (((u.setCell ⟨H,0,none⟩ a).setCell ⟨H,1,none⟩ b).setCell ⟨H,2,none⟩ c):=
 ((h.setCell (p:=⟨H,0,none⟩) hH a).setCell (p:=⟨H,1,none⟩) hH b).setCell (p:=⟨H,2,none⟩) hH c
theorem sFind_any (a:Option Addr) (n c:Nat) (Os:List Ox) (N:ByteArray) (hN:N.size<=maxLen) (w:World) (hO:OS w w.heap.size a n Os) (hT:TabP w):
  Calls Tryz.prog 21 #[.slice a n c,.string N] w (FindP (findO (Os.map obOf) N.data.toList) w):=by
 have HCk:Hid (∀ u,Below w.heap.size w u->Calls Tryz.prog 25 #[.slice a n c] u (RetB (.int .i64 (checkL (Os.map obOf))) u)):=Lib.hid (fun u hu=>check_any a n c Os u (hO.next hu) (hT.next hu))
 have HPl:Hid (∀ u,Below w.heap.size w u->Calls Tryz.prog 53 #[.slice a n c] u (MapP u (plcL (flatO (Os.map obOf))))):=Lib.hid (fun u hu=>by rw [<-flatO_eq];exact places_any a n c Os u (hO.next hu))
 have HNs:=Lib.hid hN
 obtain ⟨R,hR⟩:∃ R,R=findO (Os.map obOf) N.data.toList:=⟨_,rfl⟩
 rw [<-hR]
 unfold findO at hR
 obtain ⟨H,hH⟩:∃ H,H=w.heap.size:=⟨_,rfl⟩
 have HH:=Lib.hid hH
 have HR0:Hid (RB (w.alloc (.cells #[.int .i64 0,.int .i64 0,.int .i64 0] 46)) H #[.int .i64 0,.int .i64 0,.int .i64 0] 46):=Lib.hid (by rw [hH];exact rb_new w _ _)
 have HB0:Hid (Below w.heap.size w (w.alloc (.cells #[.int .i64 0,.int .i64 0,.int .i64 0] 46))):=Lib.hid (lit_below w _)
 clear hO hT hH
 by_cases hem:N.data.toList=[]
 ·rw [if_pos (.inl hem)] at hR
  subst hR
  obtain rfl:=ba_none hem
  clear hem
  go_enter Tryz.func21,Tryz.ntmps21
  go_wp2
  rw [HH.out] at HR0
  refine bodyPost_ret (results_cell_two (P:=Tryz.prog) rfl _ _ w.heap.size 46 _ (0,0) _ (.bool false) rfl HR0.out Tryz.underlying46 rfl (by kernel_rfl) rfl) rfl ?_
  exact ⟨rfl,HB0.out⟩
 obtain ⟨e1,e2,e3⟩:=ba_ne hem
 by_cases hck:checkL (Os.map obOf)=0
 ·have HE:Hid (R=plcL (flatO (Os.map obOf)) N.data.toList):=Lib.hid (by rw [hR,if_neg (by rintro (h | h);exact hem h;exact h hck)])
  rw [hck] at HCk
  clear hem hck hR
  go_enter Tryz.func21,Tryz.ntmps21
  go_wp2_with fail
  try rw [<-HH.out]
  generalize (w.alloc (.cells #[.int .i64 0,.int .i64 0,.int .i64 0] 46))=W0 at HR0 HB0 ⊢
  refine (HCk.out _ HB0.out).mono ?_
  rintro e u ⟨rfl,hb⟩
  replace HR0:=Lib.hid (HR0.out.next hb)
  replace HB0:=Lib.hid (after HB0.out hb)
  clear hb
  go_wp2_with fail
  refine (HPl.out _ HB0.out).mono ?_
  rintro e u2 ⟨g,rfl,hm,hg,hb⟩
  replace HR0:=Lib.hid (HR0.out.next hb)
  replace HB0:=Lib.hid (after HB0.out hb)
  have hlk:=fm_look hm HNs.out
  rw [<-HE.out] at hlk
  unfold plV at hlk
  obtain ⟨v,hv⟩:∃ v,v=R.getD plZ:=⟨_,rfl⟩
  obtain ⟨is,his⟩:∃ is,is=R.isSome:=⟨_,rfl⟩
  rw [<-hv,<-his] at hlk
  have HV:=Lib.hid hv
  have HI:=Lib.hid his
  obtain ⟨vo,vs,vf⟩:=v
  simp only at hlk
  obtain ⟨W3,hW3⟩:∃ x,x=u2.alloc (.cells #[.int .i64 vo,.int .i64 vs,.int .i64 vf] 46):=⟨_,rfl⟩
  have hb3:Below u2.heap.size u2 W3:=by rw [hW3];exact lit_below u2 _
  have HR3:Hid (RB W3 H #[.int .i64 0,.int .i64 0,.int .i64 0] 46):=Lib.hid (HR0.out.next hb3)
  have HB3:=Lib.hid (after HB0.out hb3)
  have x0:W3.cell? ⟨H,0,none⟩=some (.int .i64 0):=HR3.out.cell
  have x1:W3.cell? ⟨H,1,none⟩=some (.int .i64 0):=HR3.out.cell
  have x2:W3.cell? ⟨H,2,none⟩=some (.int .i64 0):=HR3.out.cell
  have f0:W3.frozen? ⟨H,0,none⟩=false:=HR3.out.frozen
  have f1:W3.frozen? ⟨H,1,none⟩=false:=HR3.out.frozen
  have f2:W3.frozen? ⟨H,2,none⟩=false:=HR3.out.frozen
  rw [hW3] at x0 x1 x2 f0 f1 f2
  have HR4:=Lib.hid (((HR3.out.set (j:=0) (.int .i64 vo)).set (j:=1) (.int .i64 vs)).set (j:=2) (.int .i64 vf))
  have HW3:=Lib.hid hW3
  clear hv his hW3 hb3 hm hg hb
  go_wp2
  rw [<-HW3.out]
  refine bodyPost_ret (results_cell_two (P:=Tryz.prog) rfl _ _ H 46 _ (0,0) _ (.bool is) rfl HR4.out Tryz.underlying46 rfl (by kernel_rfl) rfl) rfl ?_
  exact ⟨by rw [<-HV.out,<-HI.out];rfl,below_set3 HB3.out (by rw [HH.out];exact Nat.le_refl _) _ _ _⟩
 ·have HE:Hid (R=none):=Lib.hid (by rw [hR,if_pos (.inr hck)])
  obtain ⟨ck,hck2⟩:∃ ck,ck=checkL (Os.map obOf):=⟨_,rfl⟩
  rw [<-hck2] at HCk hck
  have t0:(ck != 0)=true:=by simp [hck]
  clear hem hck hR hck2
  go_enter Tryz.func21,Tryz.ntmps21
  go_wp2_with fail
  try rw [<-HH.out]
  generalize (w.alloc (.cells #[.int .i64 0,.int .i64 0,.int .i64 0] 46))=W0 at HR0 HB0 ⊢
  refine (HCk.out _ HB0.out).mono ?_
  rintro e u ⟨rfl,hb⟩
  replace HR0:=Lib.hid (HR0.out.next hb)
  replace HB0:=Lib.hid (after HB0.out hb)
  have x0:u.cell? ⟨H,0,none⟩=some (.int .i64 0):=HR0.out.cell
  have x1:u.cell? ⟨H,1,none⟩=some (.int .i64 0):=HR0.out.cell
  have x2:u.cell? ⟨H,2,none⟩=some (.int .i64 0):=HR0.out.cell
  have f0:u.frozen? ⟨H,0,none⟩=false:=HR0.out.frozen
  have f1:u.frozen? ⟨H,1,none⟩=false:=HR0.out.frozen
  have f2:u.frozen? ⟨H,2,none⟩=false:=HR0.out.frozen
  have HR4:=Lib.hid (((HR0.out.set (j:=0) (.int .i64 0)).set (j:=1) (.int .i64 0)).set (j:=2) (.int .i64 0))
  clear hb
  go_wp2
  refine bodyPost_ret (results_cell_two (P:=Tryz.prog) rfl _ _ H 46 _ (0,0) _ (.bool false) rfl HR4.out Tryz.underlying46 rfl (by kernel_rfl) rfl) rfl ?_
  exact ⟨by rw [HE.out];rfl,below_set3 HB0.out (by rw [HH.out];exact Nat.le_refl _) _ _ _⟩
def OnceP (g:Nat) (w:World) (e:Ending) (w':World):Prop:=e=.returned (.func (.func 87) #[] #[.pointer (some ⟨w.heap.size,0,none⟩)])/\w'=w.alloc (.cells #[.map (some g)] 99)
theorem once_any (g:Nat) (w:World):Calls Tryz.prog 55 #[.map (some g)] w (OnceP g w):=by
 go_enter Tryz.func55,Tryz.ntmps55
 go_wp2
 go_ret
 exact ⟨rfl,rfl⟩
def IO (B M c:Nat) (F:FN) (_:Unit) (X:Nat->Prop) (u:World):Prop:=X=(fun j=>j=M\/j=c)/\FM u M F/\RB u c #[.map (some M)] 99/\B<=M/\B<=c
theorem ei_io (B M c:Nat) (F:FN):EI (IO B M c F) B:=by
 constructor
 ·rintro s X u u' ⟨rfl,h1,h2,h3⟩ hs hk
  exact ⟨rfl,h1.same (hk M (.inl rfl)),(hk c (.inr rfl)).trans h2,h3⟩
 ·rintro s X u j ⟨rfl,h1,h2,h3,h4⟩ hj
  rcases hj with rfl | rfl
  ·exact ⟨h3,h1.lt⟩
  ·exact ⟨h4,lt_of_block h2⟩
theorem once1_any (B M c:Nat) (F:FN) (X:Nat->Prop) (k j:Nat) (y:Sy) (N:ByteArray) (u:World) (h:IO B M c F () X u) (hN:N=⟨y.name.toArray⟩) (hl:y.name.length<=maxLen):
  Calls Tryz.prog 87 #[fltV0 k j,syVa N y,.pointer (some ⟨c,0,none⟩)] u (CbP (IO B M c F) (stepO F () ⟨k,j,y⟩).1 (stepO F () ⟨k,j,y⟩).2 X u):=by
 have hI:=ei_io B M c F
 have hNl:N.data.toList=y.name:=by rw [hN]
 have hNs:N.size<=maxLen:=by rw [hN];show y.name.toArray.size<=_;simpa using hl
 obtain ⟨yn,yb,ys,yo⟩:=y
 simp only at hNl hN hl
 obtain ⟨P,hP⟩:∃ P,P=u.heap.size:=⟨_,rfl⟩
 obtain ⟨A1,hA1⟩:∃ A,A=u.alloc (.cells #[.int .i64 0,.int .i64 (k:Int),.int .i64 (j:Int)] 42):=⟨_,rfl⟩
 obtain ⟨A2,hA2⟩:∃ A,A=A1.alloc (.cells #[.string N,.int .i64 yb,.int .i64 ys,.int .i64 yo] 66):=⟨_,rfl⟩
 have hz1:A1.heap.size=P+1:=by rw [hA1,World.size_alloc,hP]
 have hb1:Below u.heap.size u A1:=by rw [hA1];exact lit_below u _
 have hb2:Below A1.heap.size A1 A2:=by rw [hA2];exact lit_below A1 _
 have hba:=after hb1 hb2
 have hra:RB A2 P #[.int .i64 0,.int .i64 (k:Int),.int .i64 (j:Int)] 42:=by
  have:RB A1 P #[.int .i64 0,.int .i64 (k:Int),.int .i64 (j:Int)] 42:=by rw [hA1,hP];exact rb_new u _ _
  exact this.next hb2
 have hrs:RB A2 (P+1) #[.string N,.int .i64 yb,.int .i64 ys,.int .i64 yo] 66:=by rw [hA2,<-hz1];exact rb_new A1 _ _
 have HI2:=Lib.hid (hI.next h hba)
 obtain ⟨hXe,hf2,hc2,hB4⟩:=hI.next h hba
 obtain ⟨v,hv⟩:∃ v,v=(F N.data.toList).getD plZ:=⟨_,rfl⟩
 have hlk:=fm_look1 hf2 hNs
 rw [<-hv] at hlk
 unfold plV at hlk
 have HV:Hid ((F yn).getD plZ=v):=Lib.hid (by rw [hv,hNl])
 obtain ⟨vo,vs,vf⟩:=v
 simp only at hlk
 have HBA:=Lib.hid hba
 have g0:A2.cell? ⟨c,0,none⟩=some (.map (some M)):=hc2.cell
 have q0:A2.cell? ⟨P+1,0,none⟩=some (.string N):=hrs.cell
 have q1:A2.cell? ⟨P+1,1,none⟩=some (.int .i64 yb):=hrs.cell
 have q2:A2.cell? ⟨P+1,2,none⟩=some (.int .i64 ys):=hrs.cell
 have r1:A2.cell? ⟨P,1,none⟩=some (.int .i64 (k:Int)):=hra.cell
 rw [hA2,hA1] at g0 q0 q1 q2 r1 hlk
 rw [hP] at q0 q1 q2 r1
 have HAE:Hid ((u.alloc (.cells #[.int .i64 0,.int .i64 (k:Int),.int .i64 (j:Int)] 42)).alloc (.cells #[.string N,.int .i64 yb,.int .i64 ys,.int .i64 yo] 66)=A2):=Lib.hid (by rw [hA2,hA1])
 clear hXe hf2 hc2 hB4 hA1 hA2 hz1 hb1 hb2 hba hra hrs hP hN hl hNl hNs hv h
 have hf0:=pfld0
 by_cases e1:yb=2
 ·subst e1
  by_cases e2:ys = -1
  ·have t2:(ys != -1)=false:=by simp [e2]
   have HS:Hid (stepO F () ⟨k,j,⟨yn,2,ys,yo⟩⟩=((),0)):=Lib.hid (by unfold stepO twiceB;simp [e2])
   clear e2
   go_enter Tryz.func87,Tryz.ntmps87
   go_wp2
   rw [HAE.out]
   go_ret
   exact ⟨X,by rw [HS.out];rfl,by rw [HS.out];exact HI2.out,KO.of_below HBA.out,fun j hj=>.inl hj⟩
  ·have t2:(ys != -1)=true:=by simp [e2]
   by_cases e3:vo=(k:Int)
   ·have t3:(vo != (k:Int))=false:=by simp [e3]
    have HS:Hid (stepO F () ⟨k,j,⟨yn,2,ys,yo⟩⟩=((),0)):=Lib.hid (by unfold stepO twiceB;simp [HV.out,e3])
    clear e2 e3
    go_enter Tryz.func87,Tryz.ntmps87
    go_wp2
    rw [HAE.out]
    go_ret
    exact ⟨X,by rw [HS.out];rfl,by rw [HS.out];exact HI2.out,KO.of_below HBA.out,fun j hj=>.inl hj⟩
   ·have t3:(vo != (k:Int))=true:=by simp [e3]
    have HS:Hid (stepO F () ⟨k,j,⟨yn,2,ys,yo⟩⟩=((),7)):=Lib.hid (by unfold stepO twiceB;simp [HV.out,e3,e2])
    clear e2 e3
    go_enter Tryz.func87,Tryz.ntmps87
    go_wp2
    rw [HAE.out]
    go_ret
    exact ⟨X,by rw [HS.out];rfl,by rw [HS.out];exact HI2.out,KO.of_below HBA.out,fun j hj=>.inl hj⟩
 ·have t1:(yb == 2)=false:=by simp [e1]
  have HS:Hid (stepO F () ⟨k,j,⟨yn,yb,ys,yo⟩⟩=((),0)):=Lib.hid (by unfold stepO twiceB;simp [e1])
  clear e1
  go_enter Tryz.func87,Tryz.ntmps87
  go_wp2
  rw [HAE.out]
  go_ret
  exact ⟨X,by rw [HS.out];rfl,by rw [HS.out];exact HI2.out,KO.of_below HBA.out,fun j hj=>.inl hj⟩
open Go.ChangeShapes Go.WideShapes Go.Deep Go.RowKit
theorem info_place:(Tryz.prog.info? 46).map (fun i=>(i.zero,i.size,i.bytes))=some (some (.agg #[.int .i64 0,.int .i64 0,.int .i64 0]),3,24):=by kernel_rfl
theorem ownsRow_same {w w':World} {base:Nat} {e:TypeId} {size:Nat} {v:Value} {n:Nat} {xs:List Value} (h:w.ownsRow base e size v n xs) (hk:∀ g,v.ownBlock=some g->w'.heap[g]?=w.heap[g]?):w'.ownsRow base e size v n xs:=by
 refine ⟨h.1,?_⟩
 rcases h.2 with hn | ⟨g,cap,cur,rfl,hb,hgg,rest⟩
 ·exact .inl hn
 ·exact .inr ⟨g,cap,cur,rfl,hb,(hk g rfl).trans hgg,rest⟩
theorem ownsRow_block {w:World} {base:Nat} {e:TypeId} {size:Nat} {v:Value} {n:Nat} {xs:List Value} (h:w.ownsRow base e size v n xs) {g:Nat} (hg:v.ownBlock=some g):base<=g/\g < w.heap.size:=by
 rcases h.2 with ⟨rfl,-⟩ | ⟨g',cap,cur,rfl,hb,hgg,rest⟩
 ·cases hg
 ·cases hg
  exact ⟨hb,lt_of_block hgg⟩
structure IRs (B M c q Z bs n:Nat) (F:FN) (vs:List Value) (R:List (List Pl)) (u:World):Prop where
 fm:FM u M F
 rc:RB u c #[.map (some M)] 99
 rq:RB u q #[.slice (some ⟨Z,0,none⟩) n n] 40
 rz:RB u Z vs.toArray 104
 l1:vs.length=n
 l2:R.length=n
 ow:∀ (i:Nat) (v:Value) (r:List Pl),vs[i]?=some v->R[i]?=some r->u.ownsRow bs 46 3 v r.length (r.flatMap plC)
 ds:∀ (i j:Nat) (v v':Value) (g:Nat),vs[i]?=some v->vs[j]?=some v'->i ≠ j->v.ownBlock=some g->v'.ownBlock ≠ some g
 bM:B<=M/\M < bs
 bc:B<=c/\c < bs
 bq:B<=q/\q < bs
 bZ:B<=Z/\Z < bs
 nM:Z ≠ M/\Z ≠ c/\Z ≠ q
 bs':bs<=u.heap.size
def XR (M c q Z:Nat) (vs:List Value) (j:Nat):Prop:=j=M\/j=c\/j=q\/j=Z\/∃ v ∈ vs,v.ownBlock=some j
def IRx (B M c q Z bs n:Nat) (F:FN) (R:List (List Pl)) (X:Nat->Prop) (u:World):Prop:=∃ vs,X=XR M c q Z vs/\IRs B M c q Z bs n F vs R u
theorem IRs.own {B M c q Z bs n:Nat} {F:FN} {vs:List Value} {R:List (List Pl)} {u:World} (h:IRs B M c q Z bs n F vs R u) {v:Value} (hv:v ∈ vs) {g:Nat} (hg:v.ownBlock=some g):bs<=g/\g < u.heap.size:=by
 obtain ⟨i,hi⟩:=List.getElem?_of_mem hv
 have hl:=(List.getElem?_eq_some_iff.1 hi).1
 have hr:i < R.length:=by rw [h.l2,<-h.l1];exact hl
 exact ownsRow_block (h.ow i v R[i] hi (List.getElem?_eq_getElem hr)) hg
theorem IRs.same {B M c q Z bs n:Nat} {F:FN} {vs:List Value} {R:List (List Pl)} {u u':World} (h:IRs B M c q Z bs n F vs R u) (hs:u.heap.size<=u'.heap.size) (hk:∀ j,XR M c q Z vs j->u'.heap[j]?=u.heap[j]?):IRs B M c q Z bs n F vs R u':=
 ⟨h.fm.same (hk M (.inl rfl)),(hk c (.inr (.inl rfl))).trans h.rc,(hk q (.inr (.inr (.inl rfl)))).trans h.rq,(hk Z (.inr (.inr (.inr (.inl rfl))))).trans h.rz,h.l1,h.l2,
  fun i v r hi hr=>ownsRow_same (h.ow i v r hi hr) (fun g hg=>hk g (.inr (.inr (.inr (.inr ⟨v,List.mem_of_getElem? hi,hg⟩))))),h.ds,h.bM,h.bc,h.bq,h.bZ,h.nM,Nat.le_trans h.bs' hs⟩
theorem ei_ir (B M c q Z bs n:Nat) (F:FN):EI (IRx B M c q Z bs n F) B:=by
 constructor
 ·rintro R X u u' ⟨vs,rfl,h⟩ hs hk
  exact ⟨vs,rfl,h.same hs hk⟩
 ·rintro R X u j ⟨vs,rfl,h⟩ hj
  have hbs:=h.bs'
  rcases hj with rfl | rfl | rfl | rfl | ⟨v,hv,hg⟩
  ·exact ⟨h.bM.1,h.fm.lt⟩
  ·exact ⟨h.bc.1,lt_of_block h.rc⟩
  ·exact ⟨h.bq.1,lt_of_block h.rq⟩
  ·exact ⟨h.bZ.1,lt_of_block h.rz⟩
  ·have:=h.own hv hg
   have:=h.bM
   exact ⟨by omega,by omega⟩
theorem IRs.next {B M c q Z bs n:Nat} {F:FN} {vs:List Value} {R:List (List Pl)} {u u':World} (h:IRs B M c q Z bs n F vs R u) (hb:Below u.heap.size u u'):IRs B M c q Z bs n F vs R u':=
 h.same hb.size (fun j hj=>hb.block j ((ei_ir B M c q Z bs n F).lt R _ u j ⟨vs,rfl,h⟩ hj).2)
theorem IRs.push {B M c q Z bs n:Nat} {F:FN} {vs:List Value} {R:List (List Pl)} {u W w2:World} (h:IRs B M c q Z bs n F vs R u) (hb:Below u.heap.size u W) {k:Nat} {v:Value} {r:List Pl} (hv:vs[k]?=some v) (hr:R[k]?=some r) {p:Pl} {g cap H:Nat}
  (hown:w2.ownsRow bs 46 3 (.slice (some ⟨g,0,none⟩) (r.length+1) cap) (r.length+1) (r.flatMap plC ++ plC p)) (hgrow:W.grownBy w2 v.ownBlock) (hlie:v.ownBlock=some g\/g=H) (hH:u.heap.size<=H):
  IRx B M c q Z bs n F (R.modify k (· ++ [p])) (XR M c q Z (vs.set k (.slice (some ⟨g,0,none⟩) (r.length+1) cap))) (w2.setCell ⟨Z,k,none⟩ (.slice (some ⟨g,0,none⟩) (r.length+1) cap))/\KO (XR M c q Z vs) u (w2.setCell ⟨Z,k,none⟩ (.slice (some ⟨g,0,none⟩) (r.length+1) cap))/\∀ j,XR M c q Z (vs.set k (.slice (some ⟨g,0,none⟩) (r.length+1) cap)) j->XR M c q Z vs j\/u.heap.size<=j:=by
 have hvm:v ∈ vs:=List.mem_of_getElem? hv
 have hX:∀ j,XR M c q Z vs j->j < u.heap.size:=fun j hj=>((ei_ir B M c q Z bs n F).lt R _ u j ⟨vs,rfl,h⟩ hj).2
 have hkl:k < vs.length:=(List.getElem?_eq_some_iff.1 hv).1
 have hvo:∀ j,v.ownBlock=some j->bs<=j:=fun j hj=>(h.own hvm hj).1
 have key:∀ j,j < u.heap.size->v.ownBlock ≠ some j->w2.heap[j]?=u.heap[j]?:=fun j hj hn=>(hgrow.block j (Nat.lt_of_lt_of_le hj hb.size) (fun e=>hn e.symm)).trans (hb.block j hj)
 have keyZ:∀ j,j < u.heap.size->v.ownBlock ≠ some j->j ≠ Z->(w2.setCell ⟨Z,k,none⟩ (.slice (some ⟨g,0,none⟩) (r.length+1) cap)).heap[j]?=u.heap[j]?:=fun j hj hn hz=>(Below.heap_setCell _ _ _ _ (by simpa using hz)).trans (key j hj hn)
 have hlow:∀ j,j < bs->v.ownBlock ≠ some j:=fun j hj e=>by have:=hvo j e;omega
 have hsz:u.heap.size<=w2.heap.size:=Nat.le_trans hb.size hgrow.size
 have hgZ:g ≠ Z:=fun e=>by
  have:=(ownsRow_block hown (g:=g) rfl).1
  have:=h.bZ
  omega
 have hgb:∀ i v',vs[i]?=some v'->i ≠ k->v'.ownBlock ≠ some g:=fun i v' hi hne e=>by
  rcases hlie with hl | hl
  ·exact h.ds k i v v' g hv hi (Ne.symm hne) hl e
  ·have:=(h.own (List.mem_of_getElem? hi) e).2
   omega
 have hset:∀ i x,(vs.set k (.slice (some ⟨g,0,none⟩) (r.length+1) cap))[i]?=some x->(i=k/\x=.slice (some ⟨g,0,none⟩) (r.length+1) cap)\/(i ≠ k/\vs[i]?=some x):=by
  intro i x hx
  by_cases e:k=i
  ·subst e
   rw [List.getElem?_set_self hkl] at hx
   exact .inl ⟨rfl,(Option.some.inj hx).symm⟩
  ·rw [List.getElem?_set_ne e] at hx
   exact .inr ⟨fun x=>e x.symm,hx⟩
 refine ⟨⟨_,rfl,⟨?_,?_,?_,?_,by rw [List.length_set];exact h.l1,by rw [List.length_modify];exact h.l2,?_,?_,h.bM,h.bc,h.bq,h.bZ,h.nM,?_⟩⟩,⟨?_,?_,?_,?_,?_⟩,?_⟩
 ·exact h.fm.same (keyZ M (hX M (.inl rfl)) (hlow _ h.bM.2) (Ne.symm h.nM.1))
 ·exact (keyZ c (hX c (.inr (.inl rfl))) (hlow _ h.bc.2) (Ne.symm h.nM.2.1)).trans h.rc
 ·exact (keyZ q (hX q (.inr (.inr (.inl rfl)))) (hlow _ h.bq.2) (Ne.symm h.nM.2.2)).trans h.rq
 ·have hz:RB w2 Z vs.toArray 104:=(key Z (hX Z (.inr (.inr (.inr (.inl rfl))))) (hlow _ h.bZ.2)).trans h.rz
  have:=hz.set (j:=k) (.slice (some ⟨g,0,none⟩) (r.length+1) cap)
  rwa [show vs.toArray.setIfInBounds k (.slice (some ⟨g,0,none⟩) (r.length+1) cap)=(vs.set k (.slice (some ⟨g,0,none⟩) (r.length+1) cap)).toArray by simp] at this
 ·intro i x y hx hy
  rw [List.getElem?_modify] at hy
  rcases hset i x hx with ⟨rfl,rfl⟩ | ⟨hne,hx⟩
  ·rw [hr] at hy
   simp only [if_true,Option.map_eq_map,Option.map_some,Option.some.injEq] at hy
   subst hy
   rw [List.length_append,List.flatMap_append,show [p].flatMap plC=plC p by simp]
   exact ownsRow_same hown (fun j hj=>by cases hj;exact Below.heap_setCell _ _ _ _ (by simpa using hgZ))
  ·simp only [if_neg (Ne.symm hne),Option.map_eq_map,Option.map_id_fun',id_eq] at hy
   have ho:=h.ow i x y hx (by simpa using hy)
   refine ownsRow_same ho (fun j hj=>?_)
   have hb2:=h.own (List.mem_of_getElem? hx) hj
   exact keyZ j hb2.2 (fun e=>h.ds k i v x j hv hx (Ne.symm hne) e hj) (by have:=h.bZ;omega)
 ·intro i j x y b hx hy hne hb1 hb2
  rcases hset i x hx with ⟨rfl,rfl⟩ | ⟨h1,hx'⟩
  ·rcases hset j y hy with ⟨rfl,rfl⟩ | ⟨h2,hy'⟩
   ·exact hne rfl
   ·cases hb1
    exact hgb j y hy' h2 hb2
  ·rcases hset j y hy with ⟨rfl,rfl⟩ | ⟨h2,hy'⟩
   ·cases hb2
    exact hgb i x hx' h1 hb1
   ·exact h.ds i j x y b hx' hy' hne hb1 hb2
 ·exact Nat.le_trans h.bs' (Nat.le_trans hsz (by simp [World.setCell]))
 ·exact hgrow.os.trans hb.os
 ·exact hgrow.tape.trans hb.tape
 ·exact hgrow.output.trans hb.output
 ·exact Nat.le_trans hsz (by simp [World.setCell])
 ·intro j hj hn
  exact keyZ j hj (fun e=>hn (.inr (.inr (.inr (.inr ⟨v,hvm,e⟩))))) (fun e=>hn (.inr (.inr (.inr (.inl e)))))
 ·rintro j (h1 | h1 | h1 | h1 | ⟨x,hx,hj⟩)
  ·exact .inl (.inl h1)
  ·exact .inl (.inr (.inl h1))
  ·exact .inl (.inr (.inr (.inl h1)))
  ·exact .inl (.inr (.inr (.inr (.inl h1))))
  ·obtain ⟨i,hi⟩:=List.getElem?_of_mem hx
   rcases hset i x hi with ⟨rfl,rfl⟩ | ⟨h1,hx⟩
   ·cases hj
    rcases hlie with hl | hl
    ·exact .inl (.inr (.inr (.inr (.inr ⟨v,hvm,hl⟩))))
    ·exact .inr (by show u.heap.size<=g;omega)
   ·exact .inl (.inr (.inr (.inr (.inr ⟨x,List.mem_of_getElem? hx,hj⟩))))
open Go.ChangeShapes Go.WideShapes Go.Deep Go.RowKit
theorem rows_small {F:FN}:∀ (pre:List At) (R0 R:List (List Pl)) (m:Nat),(∀ r ∈ R0,r.length<=m)->runE (stepR F) R0 pre=(R,flZ)->∀ r ∈ R,r.length<=m+pre.length
 | [],R0,R,m,h0,h=>by cases h;exact h0
 | a :: t,R0,R,m,h0,h=>by
  by_cases hc:lostB F a=true
  ·rw [runE_stop (by simp [stepR,hc])] at h
   have:=congrArg (fun x=>x.2.code) h
   simp [stepR,hc,flZ] at this
  ·rw [runE_cons (by simp [stepR,hc])] at h
   intro r hr
   have:=rows_small t _ R (m+1) (fun x hx=>by
    simp only [stepR,if_neg hc] at hx
    obtain ⟨i,hi⟩:=List.getElem?_of_mem hx
    rw [List.getElem?_modify] at hi
    cases hR:R0[i]? with
    | none=>rw [hR] at hi;cases hi
    | some z=>
     rw [hR] at hi
     have hz:=h0 z (List.mem_of_getElem? hR)
     simp only [Option.map_eq_map,Option.map_some,Option.some.injEq] at hi
     rw [<-hi]
     split
     ·simp;omega
     ·omega) h r hr
   rw [List.length_cons];omega
theorem owns_slice {w:World} {base:Nat} {e:TypeId} {size:Nat} {v:Value} {n:Nat} {xs:List Value} (h:w.ownsRow base e size v n xs):∃ a c,v=.slice a n c:=by
 rcases h.2 with ⟨rfl,rfl⟩ | ⟨g,cap,cur,rfl,-⟩
 ·exact ⟨none,0,rfl⟩
 ·exact ⟨_,_,rfl⟩
theorem resolve1_own (B M c q Z bs n:Nat) (F:FN) (vs:List Value) (R:List (List Pl)) (k j:Nat) (N:ByteArray) (yn:List UInt8) (yb ys yo:Int) (u:World) (h:IRs B M c q Z bs n F vs R u) (hN:N=⟨yn.toArray⟩) (hl:yn.length<=maxLen) (hk:k < n) (hn:n<=1000000) (hrl:∀ r ∈ R,r.length<=1000000) (hb1:yb=1):
  Calls Tryz.prog 56 #[fltV0 k j,syVa N ⟨yn,yb,ys,yo⟩,.pointer (some ⟨c,0,none⟩),.pointer (some ⟨q,0,none⟩)] u (CbP (IRx B M c q Z bs n F) (R.modify k (· ++ [placeA F k ⟨yn,yb,ys,yo⟩])) 0 (XR M c q Z vs) u):=by
 obtain ⟨i0,hi,hz0,hz1,hz2⟩:=info_parts info_place
 have hNl:N.data.toList=yn:=by rw [hN]
 have hNs:N.size<=maxLen:=by rw [hN];show yn.toArray.size<=_;simpa using hl
 obtain ⟨v,hv⟩:∃ v,vs[k]?=some v:=⟨_,List.getElem?_eq_getElem (by rw [h.l1];exact hk)⟩
 obtain ⟨r,hr⟩:∃ r,R[k]?=some r:=⟨_,List.getElem?_eq_getElem (by rw [h.l2];exact hk)⟩
 have hrs:=hrl r (List.mem_of_getElem? hr)
 obtain ⟨P,hP⟩:∃ P,P=u.heap.size:=⟨_,rfl⟩
 obtain ⟨A1,hA1⟩:∃ A,A=u.alloc (.cells #[.int .i64 0,.int .i64 (k:Int),.int .i64 (j:Int)] 42):=⟨_,rfl⟩
 obtain ⟨A2,hA2⟩:∃ A,A=A1.alloc (.cells #[.string N,.int .i64 yb,.int .i64 ys,.int .i64 yo] 66):=⟨_,rfl⟩
 have hz1':A1.heap.size=P+1:=by rw [hA1,World.size_alloc,hP]
 have hz2':A2.heap.size=P+1+1:=by rw [hA2,World.size_alloc,hz1']
 have hb1':Below u.heap.size u A1:=by rw [hA1];exact lit_below u _
 have hb2:Below A1.heap.size A1 A2:=by rw [hA2];exact lit_below A1 _
 have hba:=after hb1' hb2
 have hra:RB A2 P #[.int .i64 0,.int .i64 (k:Int),.int .i64 (j:Int)] 42:=by
  have:RB A1 P #[.int .i64 0,.int .i64 (k:Int),.int .i64 (j:Int)] 42:=by rw [hA1,hP];exact rb_new u _ _
  exact this.next hb2
 have hrs':RB A2 (P+1) #[.string N,.int .i64 yb,.int .i64 ys,.int .i64 yo] 66:=by rw [hA2,<-hz1'];exact rb_new A1 _ _
 have hI2:=h.next hba
 have hlk:=fm_look hI2.fm hNs
 obtain ⟨w0,hw0⟩:∃ v,v=(F N.data.toList).getD plZ:=⟨_,rfl⟩
 obtain ⟨is,his⟩:∃ is,is=(F N.data.toList).isSome:=⟨_,rfl⟩
 rw [<-hw0,<-his] at hlk
 unfold plV at hlk
 obtain ⟨vo,vs',vf⟩:=w0
 simp only at hlk
 have HPA:Hid (placeA F k ⟨yn,yb,ys,yo⟩=⟨(k:Int),ys,yo⟩):=Lib.hid (by unfold placeA;rw [if_pos hb1])
 have t1:(yb == 1)=true:=by simp [hb1]
 obtain ⟨A3,hA3⟩:∃ A,A=A2.alloc (.cells #[.int .i64 vo,.int .i64 vs',.int .i64 vf] 46):=⟨_,rfl⟩
 have hb3:Below A2.heap.size A2 A3:=by rw [hA3];exact lit_below A2 _
 have g0:A2.cell? ⟨c,0,none⟩=some (.map (some M)):=hI2.rc.cell
 have g1:A2.cell? ⟨P+1,0,none⟩=some (.string N):=hrs'.cell
 have q1:A3.cell? ⟨P+1,1,none⟩=some (.int .i64 yb):=(hrs'.next hb3).cell
 have q2:A3.cell? ⟨P+1,2,none⟩=some (.int .i64 ys):=(hrs'.next hb3).cell
 have q3:A3.cell? ⟨P+1,3,none⟩=some (.int .i64 yo):=(hrs'.next hb3).cell
 have r1:A3.cell? ⟨P,1,none⟩=some (.int .i64 (k:Int)):=(hra.next hb3).cell
 obtain ⟨W,hW⟩:∃ A,A=A2.alloc (.cells #[.int .i64 (k:Int),.int .i64 ys,.int .i64 yo] 46):=⟨_,rfl⟩
 have hbw:Below A2.heap.size A2 W:=by rw [hW];exact lit_below A2 _
 have HBW:=Lib.hid (after hba hbw)
 have HW:=Lib.hid hW
 have HP2:Hid (RB W (P+1+1) #[.int .i64 (k:Int),.int .i64 ys,.int .i64 yo] 46):=Lib.hid (by rw [hW,<-hz2'];exact rb_new A2 _ _)
 have HPf:Hid (RB W P #[.int .i64 0,.int .i64 (k:Int),.int .i64 (j:Int)] 42):=Lib.hid (hra.next hbw)
 have HIW:=Lib.hid (hI2.next hbw)
 rw [hA3,hA2,hA1] at q1 q2 q3 r1
 rw [hP] at q1 q2 q3 r1
 rw [hA2,hA1] at g0 g1 hlk
 rw [hP] at g1
 have HAE:Hid (((u.alloc (.cells #[.int .i64 0,.int .i64 (k:Int),.int .i64 (j:Int)] 42)).alloc (.cells #[.string N,.int .i64 yb,.int .i64 ys,.int .i64 yo] 66)).alloc (.cells #[.int .i64 (k:Int),.int .i64 ys,.int .i64 yo] 46)=W):=Lib.hid (by rw [hW,hA2,hA1])
 obtain ⟨va,vc,hvs⟩:=owns_slice (h.ow k v r hv hr)
 obtain ⟨m,hm⟩:∃ m,m=r.length:=⟨_,rfl⟩
 rw [<-hm] at hvs hrs
 subst hvs
 have HM:=Lib.hid hm
 have HH:=Lib.hid h
 have HV:=Lib.hid hv
 have HR:=Lib.hid hr
 have HPP:=Lib.hid hP
 have hkl:k < vs.length:=by rw [h.l1];exact hk
 have hvg:vs.toArray[k]?=some (.slice va m vc):=by simpa using hv
 have hZk:W.cell? ⟨Z,k,none⟩=some (.slice va m vc):=by rw [HIW.out.rz.cell];exact hvg
 have fZk:W.frozen? ⟨Z,k,none⟩=false:=HIW.out.rz.frozen
 have hqc:W.cell? ⟨q,0,none⟩=some (.slice (some ⟨Z,0,none⟩) n n):=HIW.out.rq.cell
 have hpc0:W.cell? ⟨P+1+1,0,none⟩=some (.int .i64 (k:Int)):=HP2.out.cell
 have hpc1:W.cell? ⟨P+1+1,1,none⟩=some (.int .i64 ys):=HP2.out.cell
 have hpc2:W.cell? ⟨P+1+1,2,none⟩=some (.int .i64 yo):=HP2.out.cell
 have hfk:W.cell? ⟨P,1,none⟩=some (.int .i64 (k:Int)):=HPf.out.cell
 have sZ:Z < W.heap.size:=lt_of_block HIW.out.rz
 have sq:q < W.heap.size:=lt_of_block HIW.out.rq
 have sP2:P+1+1 < W.heap.size:=lt_of_block HP2.out
 have sP:P < W.heap.size:=by omega
 have aZk:(W.alloc (.cells #[.int .i64 (k:Int),.int .i64 ys,.int .i64 yo] 46)).cell? ⟨Z,k,none⟩=some (.slice va m vc):=(World.cell?_alloc_past (w:=W) _ _ _ sZ).trans hZk
 have aqc:(W.alloc (.cells #[.int .i64 (k:Int),.int .i64 ys,.int .i64 yo] 46)).cell? ⟨q,0,none⟩=some (.slice (some ⟨Z,0,none⟩) n n):=(World.cell?_alloc_past (w:=W) _ _ _ sq).trans hqc
 have afk:(W.alloc (.cells #[.int .i64 (k:Int),.int .i64 ys,.int .i64 yo] 46)).cell? ⟨P,1,none⟩=some (.int .i64 (k:Int)):=(World.cell?_alloc_past (w:=W) _ _ _ sP).trans hfk
 have HOW:Hid (W.ownsRow bs 46 3 (.slice va m vc) m (r.flatMap plC)):=Lib.hid (by have:=HIW.out.ow k _ r hv hr;rw [<-hm] at this;exact this)
 have HnoZ:Hid ((Value.slice va m vc).ownBlock ≠ some Z):=Lib.hid (fun e=>by have:=(h.own (List.mem_of_getElem? hv) e).1;have:=h.bZ;omega)
 have Hnoq:Hid ((Value.slice va m vc).ownBlock ≠ some q):=Lib.hid (fun e=>by have:=(h.own (List.mem_of_getElem? hv) e).1;have:=h.bq;omega)
 have HnoP:Hid ((Value.slice va m vc).ownBlock ≠ some P):=Lib.hid (fun e=>by have:=(h.own (List.mem_of_getElem? hv) e).2;omega)
 have HnoP2:Hid ((Value.slice va m vc).ownBlock ≠ some (P+1+1)):=Lib.hid (fun e=>by have:=(h.own (List.mem_of_getElem? hv) e).2;omega)
 have HqZ:Hid (q ≠ Z):=Lib.hid (fun e=>h.nM.2.2 e.symm)
 have HPZ:Hid (P ≠ Z):=Lib.hid (fun e=>by have:=lt_of_block h.rz;omega)
 have HP2Z:Hid (P+1+1 ≠ Z):=Lib.hid (fun e=>by have:=lt_of_block h.rz;omega)
 have HsP2:=Lib.hid sP2
 have Hsq:=Lib.hid sq
 have HsP:=Lib.hid sP
 have hmi:(m:Int)+1<=9223372036854775807:=by omega
 have hki:(k:Int) < (n:Int):=by omega
 have HbsW:Hid (bs<=W.heap.size):=Lib.hid HIW.out.bs'
 have HsZ:=Lib.hid sZ
 have Hrs:=Lib.hid hrs
 clear hI2 hb3 hba hb2 hb1' hz2' hz1' hrs' hra hA1 hA2 hA3 hN hl hW hbw h hv hr hm hkl hvg hP hrl sZ sq sP sP2 hk hn hw0 his hNl hNs hb1
 go_enter Tryz.func56,Tryz.ntmps56
 go_wp2
 rw [HAE.out]
 rw [HPP.out] at hpc0 hpc1 hpc2 hfk afk HnoP HsP HnoP2 HPZ HP2Z HsP2
 have hqZ:q ≠ Z:=HqZ.out
 have hPZ:u.heap.size ≠ Z:=HPZ.out
 have hP2Z:u.heap.size+1+1 ≠ Z:=HP2Z.out
 have ap0:(W.alloc (.cells #[.int .i64 (k:Int),.int .i64 ys,.int .i64 yo] 46)).cell? ⟨u.heap.size+1+1,0,none⟩=some (.int .i64 (k:Int)):=(World.cell?_alloc_past (w:=W) _ _ _ HsP2.out).trans hpc0
 have ap1:(W.alloc (.cells #[.int .i64 (k:Int),.int .i64 ys,.int .i64 yo] 46)).cell? ⟨u.heap.size+1+1,1,none⟩=some (.int .i64 ys):=(World.cell?_alloc_past (w:=W) _ _ _ HsP2.out).trans hpc1
 have ap2:(W.alloc (.cells #[.int .i64 (k:Int),.int .i64 ys,.int .i64 yo] 46)).cell? ⟨u.heap.size+1+1,2,none⟩=some (.int .i64 yo):=(World.cell?_alloc_past (w:=W) _ _ _ HsP2.out).trans hpc2
 refine wp_region_held_drew (S:=fun w'=>w'.cell? ⟨q,0,none⟩=some (.slice (some ⟨Z,0,none⟩) n n)/\w'.cell? ⟨u.heap.size,1,none⟩=some (.int .i64 (k:Int))/\w'.cell? ⟨u.heap.size+1+1,0,none⟩=some (.int .i64 (k:Int))/\w'.cell? ⟨u.heap.size+1+1,1,none⟩=some (.int .i64 ys)/\w'.cell? ⟨u.heap.size+1+1,2,none⟩=some (.int .i64 yo)) (by kernel_rfl) (by simp [*,World.cell?_setCell_far]) (fun hHeld=>?_)
 refine wpAnyH_take (i:=0) (v:=?_) rfl (by kernel_rfl) (by kernel_rfl) (by kernel_rfl) (fun _ _ _ h=>h) (Or.inl ⟨by rfl,?_⟩) (by assumption) ?_
 rotate_left 1
 ·intro w hSw;(try dsimp only at hSw);obtain ⟨y0,y1,y2,y3,y4⟩:=hSw;go_simp;with_reducible rfl
 (try simp only [Act.put,List.setIfInBounds_toArray,List.set_cons_zero,List.set_cons_succ])
 refine wpAnyH_take (i:=1) (v:=?_) rfl (by kernel_rfl) (by kernel_rfl) (by kernel_rfl) (fun _ _ _ h=>h) (Or.inl ⟨by rfl,?_⟩) (by assumption) ?_
 rotate_left 1
 ·intro w hSw;(try dsimp only at hSw);obtain ⟨y0,y1,y2,y3,y4⟩:=hSw;go_simp;with_reducible rfl
 (try simp only [Act.put,List.setIfInBounds_toArray,List.set_cons_zero,List.set_cons_succ])
 refine wpAnyH_take (i:=2) (v:=?_) rfl (by kernel_rfl) (by kernel_rfl) (by kernel_rfl) (fun _ _ _ h=>h) (Or.inl ⟨by rfl,?_⟩) (by assumption) ?_
 rotate_left 1
 ·intro w hSw;(try dsimp only at hSw);obtain ⟨y0,y1,y2,y3,y4⟩:=hSw;go_simp;with_reducible rfl
 (try simp only [Act.put,List.setIfInBounds_toArray,List.set_cons_zero,List.set_cons_succ])
 refine wpAnyH_take (i:=3) (v:=?_) rfl (by kernel_rfl) (by kernel_rfl) (by kernel_rfl) (fun _ _ _ h=>h) (Or.inl ⟨by rfl,?_⟩) (by assumption) ?_
 rotate_left 1
 ·intro w hSw;(try dsimp only at hSw);obtain ⟨y0,y1,y2,y3,y4⟩:=hSw;go_simp;with_reducible rfl
 (try simp only [Act.put,List.setIfInBounds_toArray,List.set_cons_zero,List.set_cons_succ])
 refine wpAnyH_take (i:=4) (v:=?_) rfl (by kernel_rfl) (by kernel_rfl) (by kernel_rfl) (fun _ _ _ h=>h) (Or.inl ⟨by rfl,?_⟩) (by assumption) ?_
 rotate_left 1
 ·intro w hSw;(try dsimp only at hSw);obtain ⟨y0,y1,y2,y3,y4⟩:=hSw;go_simp;with_reducible rfl
 (try simp only [Act.put,List.setIfInBounds_toArray,List.set_cons_zero,List.set_cons_succ])
 refine wpAnyH_take (i:=5) (v:=?_) rfl (by kernel_rfl) (by kernel_rfl) (by kernel_rfl) (fun _ _ _ h=>h) (Or.inl ⟨by rfl,?_⟩) (by assumption) ?_
 rotate_left 1
 ·intro w hSw;(try dsimp only at hSw);obtain ⟨y0,y1,y2,y3,y4⟩:=hSw;go_simp;with_reducible rfl
 (try simp only [Act.put,List.setIfInBounds_toArray,List.set_cons_zero,List.set_cons_succ])
 refine wpAnyH_take (i:=6) (v:=?_) rfl (by kernel_rfl) (by kernel_rfl) (by kernel_rfl) (fun _ _ _ h=>h) (Or.inl ⟨by rfl,?_⟩) (by assumption) ?_
 rotate_left 1
 ·intro w hSw;(try dsimp only at hSw);obtain ⟨y0,y1,y2,y3,y4⟩:=hSw;go_simp;with_reducible rfl
 (try simp only [Act.put,List.setIfInBounds_toArray,List.set_cons_zero,List.set_cons_succ])
 refine wpAnyH_take (i:=8) (v:=?_) rfl (by kernel_rfl) (by kernel_rfl) (by kernel_rfl) (fun _ _ _ h=>h) (Or.inl ⟨by rfl,?_⟩) (by assumption) ?_
 rotate_left 1
 ·intro w hSw;(try dsimp only at hSw);obtain ⟨y0,y1,y2,y3,y4⟩:=hSw;go_simp;with_reducible rfl
 (try simp only [Act.put,List.setIfInBounds_toArray,List.set_cons_zero,List.set_cons_succ])
 refine wpAnyH_ready (rs:=[7,9]) (by kernel_rfl) (by simp) ?_
 refine AllReadyH.cons rfl (fun K hK=>?_) ?_
 ·go_simp
  refine hK.out _ _ (by simp [*,World.cell?_setCell_far]) (fun hHeld=>?_)
  clear hK K
  refine wpAnyH_ready (rs:=[9]) (by kernel_rfl) (by simp) ?_
  refine AllReadyH.cons rfl (fun K hK=>?_) ?_
  ·go_simp
   refine hK.out _ _ (by simp [*,World.cell?_setCell_far]) (fun hHeld=>?_)
   clear hK K
   refine wpAnyH_ready (rs:=[10]) (by kernel_rfl) (by simp) ?_
   refine AllReadyH.cons rfl (fun K hK=>?_) ?_
   ·(have hrs:=Hrs.out;have hsz:=HsZ.out;have hbs:=HbsW.out;refine step_append_lies _ (by rfl) _ _ _ (by rfl) bs 46 i0 _ 3 24 Tryz.underlying104 hi hz0 hz1 hz2 rfl (by omega) (.slice va m vc) m (r.flatMap plC) (by rfl) (HOW.out.alloc _) ⟨W.heap.size,0,none⟩ 1 1 (plC ⟨(k:Int),ys,yo⟩) (by rfl) (by rfl) (World.news_of_block (cs:=#[.int .i64 (k:Int),.int .i64 ys,.int .i64 yo]) (t:=46) (fr:=(0,0)) (heap_alloc_new W _)) (by simp [plC,Value.oneCell']) (by omega) (by unfold maxLen;omega) (by omega) (by simp;omega) (W.heap.size+1) (by simp) ?_;intro g cap w3 hown3 hgrow hat hlt3;have s5:w3.cell? ⟨Z,k,none⟩=some (.slice va m vc):=(hgrow.cell_far _ (by simp;omega) (Ne.symm HnoZ.out)).trans aZk;have s6:w3.frozen? ⟨Z,k,none⟩=false:=(hgrow.frozen_far _ (by simp;omega) (Ne.symm HnoZ.out)).trans ((World.frozen?_alloc_past (w:=W) _ _ _ hsz).trans fZk);have s7:w3.cell? ⟨q,0,none⟩=some (.slice (some ⟨Z,0,none⟩) n n):=(hgrow.cell_far _ (by have:=Hsq.out;simp;omega) (Ne.symm Hnoq.out)).trans aqc;have s8:w3.cell? ⟨u.heap.size,1,none⟩=some (.int .i64 (k:Int)):=(hgrow.cell_far _ (by have:=HsP.out;simp;omega) (Ne.symm HnoP.out)).trans afk;have s9:w3.cell? ⟨u.heap.size+1+1,0,none⟩=some (.int .i64 (k:Int)):=(hgrow.cell_far _ (by have:=HsP2.out;simp;omega) (Ne.symm HnoP2.out)).trans ap0;have s10:w3.cell? ⟨u.heap.size+1+1,1,none⟩=some (.int .i64 ys):=(hgrow.cell_far _ (by have:=HsP2.out;simp;omega) (Ne.symm HnoP2.out)).trans ap1;have s11:w3.cell? ⟨u.heap.size+1+1,2,none⟩=some (.int .i64 yo):=(hgrow.cell_far _ (by have:=HsP2.out;simp;omega) (Ne.symm HnoP2.out)).trans ap2)
    refine hK.out _ _ (by simp [*,World.cell?_setCell_far]) (fun hHeld=>?_)
    clear hK K
    refine wpAnyH_take (i:=11) (v:=?_) rfl (by kernel_rfl) (by kernel_rfl) (by kernel_rfl) (fun _ _ _ h=>h) (Or.inl ⟨by rfl,?_⟩) (by assumption) ?_
    rotate_left 1
    ·intro w hSw;(try dsimp only at hSw);obtain ⟨y0,y1,y2,y3,y4⟩:=hSw;go_simp;with_reducible rfl
    (try simp only [Act.put,List.setIfInBounds_toArray,List.set_cons_zero,List.set_cons_succ])
    refine wpAnyH_ready (rs:=[12]) (by kernel_rfl) (by simp) ?_
    refine AllReadyH.cons rfl (fun K hK=>?_) ?_
    ·go_simp
     refine hK.out _ _ (⟨(World.cell?_setCell_far _ ⟨Z,k,none⟩ ⟨q,0,none⟩ _ (Ne.symm hqZ)).trans s7,(World.cell?_setCell_far _ ⟨Z,k,none⟩ ⟨u.heap.size,1,none⟩ _ (Ne.symm hPZ)).trans s8,(World.cell?_setCell_far _ ⟨Z,k,none⟩ ⟨u.heap.size+1+1,0,none⟩ _ (Ne.symm hP2Z)).trans s9,(World.cell?_setCell_far _ ⟨Z,k,none⟩ ⟨u.heap.size+1+1,1,none⟩ _ (Ne.symm hP2Z)).trans s10,(World.cell?_setCell_far _ ⟨Z,k,none⟩ ⟨u.heap.size+1+1,2,none⟩ _ (Ne.symm hP2Z)).trans s11⟩) (fun hHeld=>?_)
     clear hK K
     refine wpAnyH_done (by kernel_rfl) ?_ _
     have hpush:=HH.out.push (HBW.out.alloc HBW.out.size (.cells #[.int .i64 (k:Int),.int .i64 ys,.int .i64 yo] 46)) HV.out HR.out (p:=⟨(k:Int),ys,yo⟩) (g:=g) (cap:=cap) (H:=W.heap.size+1) (by rw [<-HM.out];exact hown3) ⟨hgrow.os,hgrow.tape,hgrow.output,hgrow.size,hgrow.block⟩ hat (by have:=HBW.out.size;omega)
     rw [<-HM.out] at hpush
     have HPu:=Lib.hid hpush
     clear hpush hown3 hgrow hat hlt3 hrs hsz hbs
     go_wp2
     go_ret
     exact ⟨_,rfl,by rw [HPA.out];exact HPu.out.1,HPu.out.2.1,HPu.out.2.2⟩
    exact AllReadyH.nil
   exact AllReadyH.nil
  exact AllReadyH.nil
 refine AllReadyH.cons rfl (fun K hK=>?_) ?_
 ·go_simp
  refine hK.out _ _ (by simp [*,World.cell?_setCell_far]) (fun hHeld=>?_)
  clear hK K
  refine wpAnyH_ready (rs:=[7]) (by kernel_rfl) (by simp) ?_
  refine AllReadyH.cons rfl (fun K hK=>?_) ?_
  ·go_simp
   refine hK.out _ _ (by simp [*,World.cell?_setCell_far]) (fun hHeld=>?_)
   clear hK K
   refine wpAnyH_ready (rs:=[10]) (by kernel_rfl) (by simp) ?_
   refine AllReadyH.cons rfl (fun K hK=>?_) ?_
   ·(have hrs:=Hrs.out;have hsz:=HsZ.out;have hbs:=HbsW.out;refine step_append_lies _ (by rfl) _ _ _ (by rfl) bs 46 i0 _ 3 24 Tryz.underlying104 hi hz0 hz1 hz2 rfl (by omega) (.slice va m vc) m (r.flatMap plC) (by rfl) (HOW.out.alloc _) ⟨W.heap.size,0,none⟩ 1 1 (plC ⟨(k:Int),ys,yo⟩) (by rfl) (by rfl) (World.news_of_block (cs:=#[.int .i64 (k:Int),.int .i64 ys,.int .i64 yo]) (t:=46) (fr:=(0,0)) (heap_alloc_new W _)) (by simp [plC,Value.oneCell']) (by omega) (by unfold maxLen;omega) (by omega) (by simp;omega) (W.heap.size+1) (by simp) ?_;intro g cap w3 hown3 hgrow hat hlt3;have s5:w3.cell? ⟨Z,k,none⟩=some (.slice va m vc):=(hgrow.cell_far _ (by simp;omega) (Ne.symm HnoZ.out)).trans aZk;have s6:w3.frozen? ⟨Z,k,none⟩=false:=(hgrow.frozen_far _ (by simp;omega) (Ne.symm HnoZ.out)).trans ((World.frozen?_alloc_past (w:=W) _ _ _ hsz).trans fZk);have s7:w3.cell? ⟨q,0,none⟩=some (.slice (some ⟨Z,0,none⟩) n n):=(hgrow.cell_far _ (by have:=Hsq.out;simp;omega) (Ne.symm Hnoq.out)).trans aqc;have s8:w3.cell? ⟨u.heap.size,1,none⟩=some (.int .i64 (k:Int)):=(hgrow.cell_far _ (by have:=HsP.out;simp;omega) (Ne.symm HnoP.out)).trans afk;have s9:w3.cell? ⟨u.heap.size+1+1,0,none⟩=some (.int .i64 (k:Int)):=(hgrow.cell_far _ (by have:=HsP2.out;simp;omega) (Ne.symm HnoP2.out)).trans ap0;have s10:w3.cell? ⟨u.heap.size+1+1,1,none⟩=some (.int .i64 ys):=(hgrow.cell_far _ (by have:=HsP2.out;simp;omega) (Ne.symm HnoP2.out)).trans ap1;have s11:w3.cell? ⟨u.heap.size+1+1,2,none⟩=some (.int .i64 yo):=(hgrow.cell_far _ (by have:=HsP2.out;simp;omega) (Ne.symm HnoP2.out)).trans ap2)
    refine hK.out _ _ (by simp [*,World.cell?_setCell_far]) (fun hHeld=>?_)
    clear hK K
    refine wpAnyH_take (i:=11) (v:=?_) rfl (by kernel_rfl) (by kernel_rfl) (by kernel_rfl) (fun _ _ _ h=>h) (Or.inl ⟨by rfl,?_⟩) (by assumption) ?_
    rotate_left 1
    ·intro w hSw;(try dsimp only at hSw);obtain ⟨y0,y1,y2,y3,y4⟩:=hSw;go_simp;with_reducible rfl
    (try simp only [Act.put,List.setIfInBounds_toArray,List.set_cons_zero,List.set_cons_succ])
    refine wpAnyH_ready (rs:=[12]) (by kernel_rfl) (by simp) ?_
    refine AllReadyH.cons rfl (fun K hK=>?_) ?_
    ·go_simp
     refine hK.out _ _ (⟨(World.cell?_setCell_far _ ⟨Z,k,none⟩ ⟨q,0,none⟩ _ (Ne.symm hqZ)).trans s7,(World.cell?_setCell_far _ ⟨Z,k,none⟩ ⟨u.heap.size,1,none⟩ _ (Ne.symm hPZ)).trans s8,(World.cell?_setCell_far _ ⟨Z,k,none⟩ ⟨u.heap.size+1+1,0,none⟩ _ (Ne.symm hP2Z)).trans s9,(World.cell?_setCell_far _ ⟨Z,k,none⟩ ⟨u.heap.size+1+1,1,none⟩ _ (Ne.symm hP2Z)).trans s10,(World.cell?_setCell_far _ ⟨Z,k,none⟩ ⟨u.heap.size+1+1,2,none⟩ _ (Ne.symm hP2Z)).trans s11⟩) (fun hHeld=>?_)
     clear hK K
     refine wpAnyH_done (by kernel_rfl) ?_ _
     have hpush:=HH.out.push (HBW.out.alloc HBW.out.size (.cells #[.int .i64 (k:Int),.int .i64 ys,.int .i64 yo] 46)) HV.out HR.out (p:=⟨(k:Int),ys,yo⟩) (g:=g) (cap:=cap) (H:=W.heap.size+1) (by rw [<-HM.out];exact hown3) ⟨hgrow.os,hgrow.tape,hgrow.output,hgrow.size,hgrow.block⟩ hat (by have:=HBW.out.size;omega)
     rw [<-HM.out] at hpush
     have HPu:=Lib.hid hpush
     clear hpush hown3 hgrow hat hlt3 hrs hsz hbs
     go_wp2
     go_ret
     exact ⟨_,rfl,by rw [HPA.out];exact HPu.out.1,HPu.out.2.1,HPu.out.2.2⟩
    exact AllReadyH.nil
   exact AllReadyH.nil
  exact AllReadyH.nil
 exact AllReadyH.nil
theorem resolve1_far (B M c q Z bs n:Nat) (F:FN) (vs:List Value) (R:List (List Pl)) (k j:Nat) (N:ByteArray) (yn:List UInt8) (yb ys yo:Int) (u:World) (h:IRs B M c q Z bs n F vs R u) (hN:N=⟨yn.toArray⟩) (hl:yn.length<=maxLen) (hk:k < n) (hn:n<=1000000) (hrl:∀ r ∈ R,r.length<=1000000) (hb1:yb ≠ 1) (hso:(F yn).isSome=true):
  Calls Tryz.prog 56 #[fltV0 k j,syVa N ⟨yn,yb,ys,yo⟩,.pointer (some ⟨c,0,none⟩),.pointer (some ⟨q,0,none⟩)] u (CbP (IRx B M c q Z bs n F) (R.modify k (· ++ [placeA F k ⟨yn,yb,ys,yo⟩])) 0 (XR M c q Z vs) u):=by
 obtain ⟨i0,hi,hz0,hz1,hz2⟩:=info_parts info_place
 have hNl:N.data.toList=yn:=by rw [hN]
 have hNs:N.size<=maxLen:=by rw [hN];show yn.toArray.size<=_;simpa using hl
 obtain ⟨v,hv⟩:∃ v,vs[k]?=some v:=⟨_,List.getElem?_eq_getElem (by rw [h.l1];exact hk)⟩
 obtain ⟨r,hr⟩:∃ r,R[k]?=some r:=⟨_,List.getElem?_eq_getElem (by rw [h.l2];exact hk)⟩
 have hrs:=hrl r (List.mem_of_getElem? hr)
 obtain ⟨P,hP⟩:∃ P,P=u.heap.size:=⟨_,rfl⟩
 obtain ⟨A1,hA1⟩:∃ A,A=u.alloc (.cells #[.int .i64 0,.int .i64 (k:Int),.int .i64 (j:Int)] 42):=⟨_,rfl⟩
 obtain ⟨A2,hA2⟩:∃ A,A=A1.alloc (.cells #[.string N,.int .i64 yb,.int .i64 ys,.int .i64 yo] 66):=⟨_,rfl⟩
 have hz1':A1.heap.size=P+1:=by rw [hA1,World.size_alloc,hP]
 have hz2':A2.heap.size=P+1+1:=by rw [hA2,World.size_alloc,hz1']
 have hb1':Below u.heap.size u A1:=by rw [hA1];exact lit_below u _
 have hb2:Below A1.heap.size A1 A2:=by rw [hA2];exact lit_below A1 _
 have hba:=after hb1' hb2
 have hra:RB A2 P #[.int .i64 0,.int .i64 (k:Int),.int .i64 (j:Int)] 42:=by
  have:RB A1 P #[.int .i64 0,.int .i64 (k:Int),.int .i64 (j:Int)] 42:=by rw [hA1,hP];exact rb_new u _ _
  exact this.next hb2
 have hrs':RB A2 (P+1) #[.string N,.int .i64 yb,.int .i64 ys,.int .i64 yo] 66:=by rw [hA2,<-hz1'];exact rb_new A1 _ _
 have hI2:=h.next hba
 have hlk:=fm_look hI2.fm hNs
 obtain ⟨w0,hw0⟩:∃ v,v=(F N.data.toList).getD plZ:=⟨_,rfl⟩
 have his:(F N.data.toList).isSome=true:=by rw [hNl];exact hso
 rw [<-hw0,his] at hlk
 unfold plV at hlk
 have hpa:placeA F k ⟨yn,yb,ys,yo⟩=w0:=by unfold placeA;rw [if_neg hb1,hw0,hNl]
 obtain ⟨vo,vs',vf⟩:=w0
 simp only at hlk
 have HPA:Hid (placeA F k ⟨yn,yb,ys,yo⟩=⟨vo,vs',vf⟩):=Lib.hid hpa
 have t1:(yb == 1)=false:=by simp [hb1]
 obtain ⟨A3,hA3⟩:∃ A,A=A2.alloc (.cells #[.int .i64 vo,.int .i64 vs',.int .i64 vf] 46):=⟨_,rfl⟩
 have hb3:Below A2.heap.size A2 A3:=by rw [hA3];exact lit_below A2 _
 have g0:A2.cell? ⟨c,0,none⟩=some (.map (some M)):=hI2.rc.cell
 have g1:A2.cell? ⟨P+1,0,none⟩=some (.string N):=hrs'.cell
 have q1:A3.cell? ⟨P+1,1,none⟩=some (.int .i64 yb):=(hrs'.next hb3).cell
 have q2:A3.cell? ⟨P+1,2,none⟩=some (.int .i64 ys):=(hrs'.next hb3).cell
 have q3:A3.cell? ⟨P+1,3,none⟩=some (.int .i64 yo):=(hrs'.next hb3).cell
 have r1:A3.cell? ⟨P,1,none⟩=some (.int .i64 (k:Int)):=(hra.next hb3).cell
 obtain ⟨W,hW⟩:∃ A,A=A2.alloc (.cells #[.int .i64 vo,.int .i64 vs',.int .i64 vf] 46):=⟨_,rfl⟩
 have hbw:Below A2.heap.size A2 W:=by rw [hW];exact lit_below A2 _
 have HBW:=Lib.hid (after hba hbw)
 have HW:=Lib.hid hW
 have HP2:Hid (RB W (P+1+1) #[.int .i64 vo,.int .i64 vs',.int .i64 vf] 46):=Lib.hid (by rw [hW,<-hz2'];exact rb_new A2 _ _)
 have HPf:Hid (RB W P #[.int .i64 0,.int .i64 (k:Int),.int .i64 (j:Int)] 42):=Lib.hid (hra.next hbw)
 have HIW:=Lib.hid (hI2.next hbw)
 rw [hA3,hA2,hA1] at q1 q2 q3 r1
 rw [hP] at q1 q2 q3 r1
 rw [hA2,hA1] at g0 g1 hlk
 rw [hP] at g1
 have HAE:Hid (((u.alloc (.cells #[.int .i64 0,.int .i64 (k:Int),.int .i64 (j:Int)] 42)).alloc (.cells #[.string N,.int .i64 yb,.int .i64 ys,.int .i64 yo] 66)).alloc (.cells #[.int .i64 vo,.int .i64 vs',.int .i64 vf] 46)=W):=Lib.hid (by rw [hW,hA2,hA1])
 obtain ⟨va,vc,hvs⟩:=owns_slice (h.ow k v r hv hr)
 obtain ⟨m,hm⟩:∃ m,m=r.length:=⟨_,rfl⟩
 rw [<-hm] at hvs hrs
 subst hvs
 have HM:=Lib.hid hm
 have HH:=Lib.hid h
 have HV:=Lib.hid hv
 have HR:=Lib.hid hr
 have HPP:=Lib.hid hP
 have hkl:k < vs.length:=by rw [h.l1];exact hk
 have hvg:vs.toArray[k]?=some (.slice va m vc):=by simpa using hv
 have hZk:W.cell? ⟨Z,k,none⟩=some (.slice va m vc):=by rw [HIW.out.rz.cell];exact hvg
 have fZk:W.frozen? ⟨Z,k,none⟩=false:=HIW.out.rz.frozen
 have hqc:W.cell? ⟨q,0,none⟩=some (.slice (some ⟨Z,0,none⟩) n n):=HIW.out.rq.cell
 have hpc0:W.cell? ⟨P+1+1,0,none⟩=some (.int .i64 vo):=HP2.out.cell
 have hpc1:W.cell? ⟨P+1+1,1,none⟩=some (.int .i64 vs'):=HP2.out.cell
 have hpc2:W.cell? ⟨P+1+1,2,none⟩=some (.int .i64 vf):=HP2.out.cell
 have hfk:W.cell? ⟨P,1,none⟩=some (.int .i64 (k:Int)):=HPf.out.cell
 have sZ:Z < W.heap.size:=lt_of_block HIW.out.rz
 have sq:q < W.heap.size:=lt_of_block HIW.out.rq
 have sP2:P+1+1 < W.heap.size:=lt_of_block HP2.out
 have sP:P < W.heap.size:=by omega
 have aZk:(W.alloc (.cells #[.int .i64 vo,.int .i64 vs',.int .i64 vf] 46)).cell? ⟨Z,k,none⟩=some (.slice va m vc):=(World.cell?_alloc_past (w:=W) _ _ _ sZ).trans hZk
 have aqc:(W.alloc (.cells #[.int .i64 vo,.int .i64 vs',.int .i64 vf] 46)).cell? ⟨q,0,none⟩=some (.slice (some ⟨Z,0,none⟩) n n):=(World.cell?_alloc_past (w:=W) _ _ _ sq).trans hqc
 have afk:(W.alloc (.cells #[.int .i64 vo,.int .i64 vs',.int .i64 vf] 46)).cell? ⟨P,1,none⟩=some (.int .i64 (k:Int)):=(World.cell?_alloc_past (w:=W) _ _ _ sP).trans hfk
 have HOW:Hid (W.ownsRow bs 46 3 (.slice va m vc) m (r.flatMap plC)):=Lib.hid (by have:=HIW.out.ow k _ r hv hr;rw [<-hm] at this;exact this)
 have HnoZ:Hid ((Value.slice va m vc).ownBlock ≠ some Z):=Lib.hid (fun e=>by have:=(h.own (List.mem_of_getElem? hv) e).1;have:=h.bZ;omega)
 have Hnoq:Hid ((Value.slice va m vc).ownBlock ≠ some q):=Lib.hid (fun e=>by have:=(h.own (List.mem_of_getElem? hv) e).1;have:=h.bq;omega)
 have HnoP:Hid ((Value.slice va m vc).ownBlock ≠ some P):=Lib.hid (fun e=>by have:=(h.own (List.mem_of_getElem? hv) e).2;omega)
 have HnoP2:Hid ((Value.slice va m vc).ownBlock ≠ some (P+1+1)):=Lib.hid (fun e=>by have:=(h.own (List.mem_of_getElem? hv) e).2;omega)
 have HqZ:Hid (q ≠ Z):=Lib.hid (fun e=>h.nM.2.2 e.symm)
 have HPZ:Hid (P ≠ Z):=Lib.hid (fun e=>by have:=lt_of_block h.rz;omega)
 have HP2Z:Hid (P+1+1 ≠ Z):=Lib.hid (fun e=>by have:=lt_of_block h.rz;omega)
 have HsP2:=Lib.hid sP2
 have Hsq:=Lib.hid sq
 have HsP:=Lib.hid sP
 have hmi:(m:Int)+1<=9223372036854775807:=by omega
 have hki:(k:Int) < (n:Int):=by omega
 have HbsW:Hid (bs<=W.heap.size):=Lib.hid HIW.out.bs'
 have HsZ:=Lib.hid sZ
 have Hrs:=Lib.hid hrs
 clear hI2 hb3 hba hb2 hb1' hz2' hz1' hrs' hra hA1 hA2 hA3 hN hl hW hbw h hv hr hm hkl hvg hP hrl sZ sq sP sP2 hk hn hw0 his hNl hNs hpa hso hb1
 go_enter Tryz.func56,Tryz.ntmps56
 go_wp2
 rw [HAE.out]
 rw [HPP.out] at hpc0 hpc1 hpc2 hfk afk HnoP HsP HnoP2 HPZ HP2Z HsP2
 have hqZ:q ≠ Z:=HqZ.out
 have hPZ:u.heap.size ≠ Z:=HPZ.out
 have hP2Z:u.heap.size+1+1 ≠ Z:=HP2Z.out
 have ap0:(W.alloc (.cells #[.int .i64 vo,.int .i64 vs',.int .i64 vf] 46)).cell? ⟨u.heap.size+1+1,0,none⟩=some (.int .i64 vo):=(World.cell?_alloc_past (w:=W) _ _ _ HsP2.out).trans hpc0
 have ap1:(W.alloc (.cells #[.int .i64 vo,.int .i64 vs',.int .i64 vf] 46)).cell? ⟨u.heap.size+1+1,1,none⟩=some (.int .i64 vs'):=(World.cell?_alloc_past (w:=W) _ _ _ HsP2.out).trans hpc1
 have ap2:(W.alloc (.cells #[.int .i64 vo,.int .i64 vs',.int .i64 vf] 46)).cell? ⟨u.heap.size+1+1,2,none⟩=some (.int .i64 vf):=(World.cell?_alloc_past (w:=W) _ _ _ HsP2.out).trans hpc2
 refine wp_region_held_drew (S:=fun w'=>w'.cell? ⟨q,0,none⟩=some (.slice (some ⟨Z,0,none⟩) n n)/\w'.cell? ⟨u.heap.size,1,none⟩=some (.int .i64 (k:Int))/\w'.cell? ⟨u.heap.size+1+1,0,none⟩=some (.int .i64 vo)/\w'.cell? ⟨u.heap.size+1+1,1,none⟩=some (.int .i64 vs')/\w'.cell? ⟨u.heap.size+1+1,2,none⟩=some (.int .i64 vf)) (by kernel_rfl) (by simp [*,World.cell?_setCell_far]) (fun hHeld=>?_)
 refine wpAnyH_take (i:=0) (v:=?_) rfl (by kernel_rfl) (by kernel_rfl) (by kernel_rfl) (fun _ _ _ h=>h) (Or.inl ⟨by rfl,?_⟩) (by assumption) ?_
 rotate_left 1
 ·intro w hSw;(try dsimp only at hSw);obtain ⟨y0,y1,y2,y3,y4⟩:=hSw;go_simp;with_reducible rfl
 (try simp only [Act.put,List.setIfInBounds_toArray,List.set_cons_zero,List.set_cons_succ])
 refine wpAnyH_take (i:=1) (v:=?_) rfl (by kernel_rfl) (by kernel_rfl) (by kernel_rfl) (fun _ _ _ h=>h) (Or.inl ⟨by rfl,?_⟩) (by assumption) ?_
 rotate_left 1
 ·intro w hSw;(try dsimp only at hSw);obtain ⟨y0,y1,y2,y3,y4⟩:=hSw;go_simp;with_reducible rfl
 (try simp only [Act.put,List.setIfInBounds_toArray,List.set_cons_zero,List.set_cons_succ])
 refine wpAnyH_take (i:=2) (v:=?_) rfl (by kernel_rfl) (by kernel_rfl) (by kernel_rfl) (fun _ _ _ h=>h) (Or.inl ⟨by rfl,?_⟩) (by assumption) ?_
 rotate_left 1
 ·intro w hSw;(try dsimp only at hSw);obtain ⟨y0,y1,y2,y3,y4⟩:=hSw;go_simp;with_reducible rfl
 (try simp only [Act.put,List.setIfInBounds_toArray,List.set_cons_zero,List.set_cons_succ])
 refine wpAnyH_take (i:=3) (v:=?_) rfl (by kernel_rfl) (by kernel_rfl) (by kernel_rfl) (fun _ _ _ h=>h) (Or.inl ⟨by rfl,?_⟩) (by assumption) ?_
 rotate_left 1
 ·intro w hSw;(try dsimp only at hSw);obtain ⟨y0,y1,y2,y3,y4⟩:=hSw;go_simp;with_reducible rfl
 (try simp only [Act.put,List.setIfInBounds_toArray,List.set_cons_zero,List.set_cons_succ])
 refine wpAnyH_take (i:=4) (v:=?_) rfl (by kernel_rfl) (by kernel_rfl) (by kernel_rfl) (fun _ _ _ h=>h) (Or.inl ⟨by rfl,?_⟩) (by assumption) ?_
 rotate_left 1
 ·intro w hSw;(try dsimp only at hSw);obtain ⟨y0,y1,y2,y3,y4⟩:=hSw;go_simp;with_reducible rfl
 (try simp only [Act.put,List.setIfInBounds_toArray,List.set_cons_zero,List.set_cons_succ])
 refine wpAnyH_take (i:=5) (v:=?_) rfl (by kernel_rfl) (by kernel_rfl) (by kernel_rfl) (fun _ _ _ h=>h) (Or.inl ⟨by rfl,?_⟩) (by assumption) ?_
 rotate_left 1
 ·intro w hSw;(try dsimp only at hSw);obtain ⟨y0,y1,y2,y3,y4⟩:=hSw;go_simp;with_reducible rfl
 (try simp only [Act.put,List.setIfInBounds_toArray,List.set_cons_zero,List.set_cons_succ])
 refine wpAnyH_take (i:=6) (v:=?_) rfl (by kernel_rfl) (by kernel_rfl) (by kernel_rfl) (fun _ _ _ h=>h) (Or.inl ⟨by rfl,?_⟩) (by assumption) ?_
 rotate_left 1
 ·intro w hSw;(try dsimp only at hSw);obtain ⟨y0,y1,y2,y3,y4⟩:=hSw;go_simp;with_reducible rfl
 (try simp only [Act.put,List.setIfInBounds_toArray,List.set_cons_zero,List.set_cons_succ])
 refine wpAnyH_take (i:=8) (v:=?_) rfl (by kernel_rfl) (by kernel_rfl) (by kernel_rfl) (fun _ _ _ h=>h) (Or.inl ⟨by rfl,?_⟩) (by assumption) ?_
 rotate_left 1
 ·intro w hSw;(try dsimp only at hSw);obtain ⟨y0,y1,y2,y3,y4⟩:=hSw;go_simp;with_reducible rfl
 (try simp only [Act.put,List.setIfInBounds_toArray,List.set_cons_zero,List.set_cons_succ])
 refine wpAnyH_ready (rs:=[7,9]) (by kernel_rfl) (by simp) ?_
 refine AllReadyH.cons rfl (fun K hK=>?_) ?_
 ·go_simp
  refine hK.out _ _ (by simp [*,World.cell?_setCell_far]) (fun hHeld=>?_)
  clear hK K
  refine wpAnyH_ready (rs:=[9]) (by kernel_rfl) (by simp) ?_
  refine AllReadyH.cons rfl (fun K hK=>?_) ?_
  ·go_simp
   refine hK.out _ _ (by simp [*,World.cell?_setCell_far]) (fun hHeld=>?_)
   clear hK K
   refine wpAnyH_ready (rs:=[10]) (by kernel_rfl) (by simp) ?_
   refine AllReadyH.cons rfl (fun K hK=>?_) ?_
   ·(have hrs:=Hrs.out;have hsz:=HsZ.out;have hbs:=HbsW.out;refine step_append_lies _ (by rfl) _ _ _ (by rfl) bs 46 i0 _ 3 24 Tryz.underlying104 hi hz0 hz1 hz2 rfl (by omega) (.slice va m vc) m (r.flatMap plC) (by rfl) (HOW.out.alloc _) ⟨W.heap.size,0,none⟩ 1 1 (plC ⟨vo,vs',vf⟩) (by rfl) (by rfl) (World.news_of_block (cs:=#[.int .i64 vo,.int .i64 vs',.int .i64 vf]) (t:=46) (fr:=(0,0)) (heap_alloc_new W _)) (by simp [plC,Value.oneCell']) (by omega) (by unfold maxLen;omega) (by omega) (by simp;omega) (W.heap.size+1) (by simp) ?_;intro g cap w3 hown3 hgrow hat hlt3;have s5:w3.cell? ⟨Z,k,none⟩=some (.slice va m vc):=(hgrow.cell_far _ (by simp;omega) (Ne.symm HnoZ.out)).trans aZk;have s6:w3.frozen? ⟨Z,k,none⟩=false:=(hgrow.frozen_far _ (by simp;omega) (Ne.symm HnoZ.out)).trans ((World.frozen?_alloc_past (w:=W) _ _ _ hsz).trans fZk);have s7:w3.cell? ⟨q,0,none⟩=some (.slice (some ⟨Z,0,none⟩) n n):=(hgrow.cell_far _ (by have:=Hsq.out;simp;omega) (Ne.symm Hnoq.out)).trans aqc;have s8:w3.cell? ⟨u.heap.size,1,none⟩=some (.int .i64 (k:Int)):=(hgrow.cell_far _ (by have:=HsP.out;simp;omega) (Ne.symm HnoP.out)).trans afk;have s9:w3.cell? ⟨u.heap.size+1+1,0,none⟩=some (.int .i64 vo):=(hgrow.cell_far _ (by have:=HsP2.out;simp;omega) (Ne.symm HnoP2.out)).trans ap0;have s10:w3.cell? ⟨u.heap.size+1+1,1,none⟩=some (.int .i64 vs'):=(hgrow.cell_far _ (by have:=HsP2.out;simp;omega) (Ne.symm HnoP2.out)).trans ap1;have s11:w3.cell? ⟨u.heap.size+1+1,2,none⟩=some (.int .i64 vf):=(hgrow.cell_far _ (by have:=HsP2.out;simp;omega) (Ne.symm HnoP2.out)).trans ap2)
    refine hK.out _ _ (by simp [*,World.cell?_setCell_far]) (fun hHeld=>?_)
    clear hK K
    refine wpAnyH_take (i:=11) (v:=?_) rfl (by kernel_rfl) (by kernel_rfl) (by kernel_rfl) (fun _ _ _ h=>h) (Or.inl ⟨by rfl,?_⟩) (by assumption) ?_
    rotate_left 1
    ·intro w hSw;(try dsimp only at hSw);obtain ⟨y0,y1,y2,y3,y4⟩:=hSw;go_simp;with_reducible rfl
    (try simp only [Act.put,List.setIfInBounds_toArray,List.set_cons_zero,List.set_cons_succ])
    refine wpAnyH_ready (rs:=[12]) (by kernel_rfl) (by simp) ?_
    refine AllReadyH.cons rfl (fun K hK=>?_) ?_
    ·go_simp
     refine hK.out _ _ (⟨(World.cell?_setCell_far _ ⟨Z,k,none⟩ ⟨q,0,none⟩ _ (Ne.symm hqZ)).trans s7,(World.cell?_setCell_far _ ⟨Z,k,none⟩ ⟨u.heap.size,1,none⟩ _ (Ne.symm hPZ)).trans s8,(World.cell?_setCell_far _ ⟨Z,k,none⟩ ⟨u.heap.size+1+1,0,none⟩ _ (Ne.symm hP2Z)).trans s9,(World.cell?_setCell_far _ ⟨Z,k,none⟩ ⟨u.heap.size+1+1,1,none⟩ _ (Ne.symm hP2Z)).trans s10,(World.cell?_setCell_far _ ⟨Z,k,none⟩ ⟨u.heap.size+1+1,2,none⟩ _ (Ne.symm hP2Z)).trans s11⟩) (fun hHeld=>?_)
     clear hK K
     refine wpAnyH_done (by kernel_rfl) ?_ _
     have hpush:=HH.out.push (HBW.out.alloc HBW.out.size (.cells #[.int .i64 vo,.int .i64 vs',.int .i64 vf] 46)) HV.out HR.out (p:=⟨vo,vs',vf⟩) (g:=g) (cap:=cap) (H:=W.heap.size+1) (by rw [<-HM.out];exact hown3) ⟨hgrow.os,hgrow.tape,hgrow.output,hgrow.size,hgrow.block⟩ hat (by have:=HBW.out.size;omega)
     rw [<-HM.out] at hpush
     have HPu:=Lib.hid hpush
     clear hpush hown3 hgrow hat hlt3 hrs hsz hbs
     go_wp2
     go_ret
     exact ⟨_,rfl,by rw [HPA.out];exact HPu.out.1,HPu.out.2.1,HPu.out.2.2⟩
    exact AllReadyH.nil
   exact AllReadyH.nil
  exact AllReadyH.nil
 refine AllReadyH.cons rfl (fun K hK=>?_) ?_
 ·go_simp
  refine hK.out _ _ (by simp [*,World.cell?_setCell_far]) (fun hHeld=>?_)
  clear hK K
  refine wpAnyH_ready (rs:=[7]) (by kernel_rfl) (by simp) ?_
  refine AllReadyH.cons rfl (fun K hK=>?_) ?_
  ·go_simp
   refine hK.out _ _ (by simp [*,World.cell?_setCell_far]) (fun hHeld=>?_)
   clear hK K
   refine wpAnyH_ready (rs:=[10]) (by kernel_rfl) (by simp) ?_
   refine AllReadyH.cons rfl (fun K hK=>?_) ?_
   ·(have hrs:=Hrs.out;have hsz:=HsZ.out;have hbs:=HbsW.out;refine step_append_lies _ (by rfl) _ _ _ (by rfl) bs 46 i0 _ 3 24 Tryz.underlying104 hi hz0 hz1 hz2 rfl (by omega) (.slice va m vc) m (r.flatMap plC) (by rfl) (HOW.out.alloc _) ⟨W.heap.size,0,none⟩ 1 1 (plC ⟨vo,vs',vf⟩) (by rfl) (by rfl) (World.news_of_block (cs:=#[.int .i64 vo,.int .i64 vs',.int .i64 vf]) (t:=46) (fr:=(0,0)) (heap_alloc_new W _)) (by simp [plC,Value.oneCell']) (by omega) (by unfold maxLen;omega) (by omega) (by simp;omega) (W.heap.size+1) (by simp) ?_;intro g cap w3 hown3 hgrow hat hlt3;have s5:w3.cell? ⟨Z,k,none⟩=some (.slice va m vc):=(hgrow.cell_far _ (by simp;omega) (Ne.symm HnoZ.out)).trans aZk;have s6:w3.frozen? ⟨Z,k,none⟩=false:=(hgrow.frozen_far _ (by simp;omega) (Ne.symm HnoZ.out)).trans ((World.frozen?_alloc_past (w:=W) _ _ _ hsz).trans fZk);have s7:w3.cell? ⟨q,0,none⟩=some (.slice (some ⟨Z,0,none⟩) n n):=(hgrow.cell_far _ (by have:=Hsq.out;simp;omega) (Ne.symm Hnoq.out)).trans aqc;have s8:w3.cell? ⟨u.heap.size,1,none⟩=some (.int .i64 (k:Int)):=(hgrow.cell_far _ (by have:=HsP.out;simp;omega) (Ne.symm HnoP.out)).trans afk;have s9:w3.cell? ⟨u.heap.size+1+1,0,none⟩=some (.int .i64 vo):=(hgrow.cell_far _ (by have:=HsP2.out;simp;omega) (Ne.symm HnoP2.out)).trans ap0;have s10:w3.cell? ⟨u.heap.size+1+1,1,none⟩=some (.int .i64 vs'):=(hgrow.cell_far _ (by have:=HsP2.out;simp;omega) (Ne.symm HnoP2.out)).trans ap1;have s11:w3.cell? ⟨u.heap.size+1+1,2,none⟩=some (.int .i64 vf):=(hgrow.cell_far _ (by have:=HsP2.out;simp;omega) (Ne.symm HnoP2.out)).trans ap2)
    refine hK.out _ _ (by simp [*,World.cell?_setCell_far]) (fun hHeld=>?_)
    clear hK K
    refine wpAnyH_take (i:=11) (v:=?_) rfl (by kernel_rfl) (by kernel_rfl) (by kernel_rfl) (fun _ _ _ h=>h) (Or.inl ⟨by rfl,?_⟩) (by assumption) ?_
    rotate_left 1
    ·intro w hSw;(try dsimp only at hSw);obtain ⟨y0,y1,y2,y3,y4⟩:=hSw;go_simp;with_reducible rfl
    (try simp only [Act.put,List.setIfInBounds_toArray,List.set_cons_zero,List.set_cons_succ])
    refine wpAnyH_ready (rs:=[12]) (by kernel_rfl) (by simp) ?_
    refine AllReadyH.cons rfl (fun K hK=>?_) ?_
    ·go_simp
     refine hK.out _ _ (⟨(World.cell?_setCell_far _ ⟨Z,k,none⟩ ⟨q,0,none⟩ _ (Ne.symm hqZ)).trans s7,(World.cell?_setCell_far _ ⟨Z,k,none⟩ ⟨u.heap.size,1,none⟩ _ (Ne.symm hPZ)).trans s8,(World.cell?_setCell_far _ ⟨Z,k,none⟩ ⟨u.heap.size+1+1,0,none⟩ _ (Ne.symm hP2Z)).trans s9,(World.cell?_setCell_far _ ⟨Z,k,none⟩ ⟨u.heap.size+1+1,1,none⟩ _ (Ne.symm hP2Z)).trans s10,(World.cell?_setCell_far _ ⟨Z,k,none⟩ ⟨u.heap.size+1+1,2,none⟩ _ (Ne.symm hP2Z)).trans s11⟩) (fun hHeld=>?_)
     clear hK K
     refine wpAnyH_done (by kernel_rfl) ?_ _
     have hpush:=HH.out.push (HBW.out.alloc HBW.out.size (.cells #[.int .i64 vo,.int .i64 vs',.int .i64 vf] 46)) HV.out HR.out (p:=⟨vo,vs',vf⟩) (g:=g) (cap:=cap) (H:=W.heap.size+1) (by rw [<-HM.out];exact hown3) ⟨hgrow.os,hgrow.tape,hgrow.output,hgrow.size,hgrow.block⟩ hat (by have:=HBW.out.size;omega)
     rw [<-HM.out] at hpush
     have HPu:=Lib.hid hpush
     clear hpush hown3 hgrow hat hlt3 hrs hsz hbs
     go_wp2
     go_ret
     exact ⟨_,rfl,by rw [HPA.out];exact HPu.out.1,HPu.out.2.1,HPu.out.2.2⟩
    exact AllReadyH.nil
   exact AllReadyH.nil
  exact AllReadyH.nil
 exact AllReadyH.nil
theorem resolve1_lost (B M c q Z bs n:Nat) (F:FN) (vs:List Value) (R:List (List Pl)) (k j:Nat) (N:ByteArray) (yn:List UInt8) (yb ys yo:Int) (u:World) (h:IRs B M c q Z bs n F vs R u) (hN:N=⟨yn.toArray⟩) (hl:yn.length<=maxLen) (hb1:yb ≠ 1) (hso:F yn=none):
  Calls Tryz.prog 56 #[fltV0 k j,syVa N ⟨yn,yb,ys,yo⟩,.pointer (some ⟨c,0,none⟩),.pointer (some ⟨q,0,none⟩)] u (CbP (IRx B M c q Z bs n F) R 6 (XR M c q Z vs) u):=by
 have hNl:N.data.toList=yn:=by rw [hN]
 have hNs:N.size<=maxLen:=by rw [hN];show yn.toArray.size<=_;simpa using hl
 obtain ⟨P,hP⟩:∃ P,P=u.heap.size:=⟨_,rfl⟩
 obtain ⟨A1,hA1⟩:∃ A,A=u.alloc (.cells #[.int .i64 0,.int .i64 (k:Int),.int .i64 (j:Int)] 42):=⟨_,rfl⟩
 obtain ⟨A2,hA2⟩:∃ A,A=A1.alloc (.cells #[.string N,.int .i64 yb,.int .i64 ys,.int .i64 yo] 66):=⟨_,rfl⟩
 have hz1':A1.heap.size=P+1:=by rw [hA1,World.size_alloc,hP]
 have hb1':Below u.heap.size u A1:=by rw [hA1];exact lit_below u _
 have hb2:Below A1.heap.size A1 A2:=by rw [hA2];exact lit_below A1 _
 have hba:=after hb1' hb2
 have hrs':RB A2 (P+1) #[.string N,.int .i64 yb,.int .i64 ys,.int .i64 yo] 66:=by rw [hA2,<-hz1'];exact rb_new A1 _ _
 have hI2:=h.next hba
 have hlk:=fm_look hI2.fm hNs
 rw [hNl,hso] at hlk
 simp only [Option.getD_none,Option.isSome_none,plV,plZ] at hlk
 obtain ⟨A3,hA3⟩:∃ A,A=A2.alloc (.cells #[.int .i64 0,.int .i64 0,.int .i64 0] 46):=⟨_,rfl⟩
 have hb3:Below A2.heap.size A2 A3:=by rw [hA3];exact lit_below A2 _
 have HI3:=Lib.hid (hI2.next hb3)
 have HB3:=Lib.hid (after hba hb3)
 have g0:A2.cell? ⟨c,0,none⟩=some (.map (some M)):=hI2.rc.cell
 have g1:A2.cell? ⟨P+1,0,none⟩=some (.string N):=hrs'.cell
 have q1:A3.cell? ⟨P+1,1,none⟩=some (.int .i64 yb):=(hrs'.next hb3).cell
 rw [hA3,hA2,hA1] at q1
 rw [hP] at q1
 rw [hA2,hA1] at g0 g1 hlk
 rw [hP] at g1
 have t1:(yb == 1)=false:=by simp [hb1]
 have HAE:Hid (((u.alloc (.cells #[.int .i64 0,.int .i64 (k:Int),.int .i64 (j:Int)] 42)).alloc (.cells #[.string N,.int .i64 yb,.int .i64 ys,.int .i64 yo] 66)).alloc (.cells #[.int .i64 0,.int .i64 0,.int .i64 0] 46)=A3):=Lib.hid (by rw [hA3,hA2,hA1])
 clear hI2 hb3 hba hb2 hb1' hz1' hrs' hA1 hA2 hA3 hN hl h hP hNl hNs hso hb1
 go_enter Tryz.func56,Tryz.ntmps56
 go_wp2
 rw [HAE.out]
 go_ret
 exact ⟨_,rfl,⟨vs,rfl,HI3.out⟩,KO.of_below HB3.out,fun j hj=>.inl hj⟩
theorem resolve1_any (B M c q Z bs n:Nat) (F:FN) (X:Nat->Prop) (R:List (List Pl)) (k j:Nat) (y:Sy) (N:ByteArray) (u:World) (h:IRx B M c q Z bs n F R X u) (hN:N=⟨y.name.toArray⟩) (hl:y.name.length<=maxLen) (hk:k < n) (hn:n<=1000000) (hrl:∀ r ∈ R,r.length<=1000000):
  Calls Tryz.prog 56 #[fltV0 k j,syVa N y,.pointer (some ⟨c,0,none⟩),.pointer (some ⟨q,0,none⟩)] u (CbP (IRx B M c q Z bs n F) (stepR F R ⟨k,j,y⟩).1 (stepR F R ⟨k,j,y⟩).2 X u):=by
 obtain ⟨vs,rfl,hs⟩:=h
 obtain ⟨yn,yb,ys,yo⟩:=y
 simp only at hN hl
 by_cases hlo:lostB F ⟨k,j,⟨yn,yb,ys,yo⟩⟩=true
 ·have e:stepR F R ⟨k,j,⟨yn,yb,ys,yo⟩⟩=(R,6):=by unfold stepR;rw [if_pos hlo]
  rw [e]
  unfold lostB at hlo
  simp only [Bool.and_eq_true,decide_eq_true_eq,Option.isNone_iff_eq_none] at hlo
  exact resolve1_lost B M c q Z bs n F vs R k j N yn yb ys yo u hs hN hl hlo.1 hlo.2
 ·have e:stepR F R ⟨k,j,⟨yn,yb,ys,yo⟩⟩=(R.modify k (· ++ [placeA F k ⟨yn,yb,ys,yo⟩]),0):=by unfold stepR;rw [if_neg hlo]
  rw [e]
  by_cases hb:yb=1
  ·exact resolve1_own B M c q Z bs n F vs R k j N yn yb ys yo u hs hN hl hk hn hrl hb
  ·refine resolve1_far B M c q Z bs n F vs R k j N yn yb ys yo u hs hN hl hk hn hrl hb ?_
   unfold lostB at hlo
   simp only [Bool.and_eq_true,decide_eq_true_eq,Option.isNone_iff_eq_none,not_and] at hlo
   cases hF:F yn with
   | none=>exact absurd hF (hlo hb)
   | some p=>rfl
open Go.ChangeShapes Go.WideShapes Go.Deep Go.RowKit
theorem results_two_cell {P:Program} {fn:Func} {p q:Tmp} {ty:TypeId} (h:fn.results=#[.tmp q,.cell p ty]) (tmps:Array Value) (w:World) (g:Nat) (t:TypeId) (cs:Array Value) (fr:Nat × Nat) (d:TypeDesc) (x:Value)
  (hp:tmps.getD p undef=.pointer (some ⟨g,0,none⟩)) (hg:w.heap[g]?=some (.cells cs t fr))
  (hu:P.underlying ty=some d) (hd:(match d with | .struct _ | .array _ _=>true | _=>false)=true) (hi:(P.info? ty).map (·.size)=some cs.size) (hx:tmps.getD q undef=x):
  (results fn tmps).run P w=.ok (.tuple #[x,.agg cs]) w:=by
 have hp':tmps[p]?.getD undef=.pointer (some ⟨g,0,none⟩):=by simpa using hp
 have hx':tmps[q]?.getD undef=x:=by simpa using hx
 simp [results,h,hp',hx',asAddr,run_loadVar_row w g t ty cs fr d hg hu hd hi]
structure Rw where
 ad:Option Addr
 cap:Nat
 l:List Pl
def rwC (r:Rw):List Value:=[.slice r.ad r.l.length r.cap]
theorem rw_len (r:Rw):(rwC r).length=1:=rfl
structure PRows (w:World) (a:Option Addr) (n:Nat) (rs:List Rw):Prop where
 sl:SL rwC 1 w w.heap.size a n rs
 s1:∀ r ∈ rs,SL plC 3 w w.heap.size r.ad r.l.length r.l
theorem PRows.next {w w':World} {a:Option Addr} {n:Nat} {rs:List Rw} (h:PRows w a n rs) (hb:Below w.heap.size w w'):PRows w' a n rs:=
 ⟨h.sl.next hb,fun r hr=>(h.s1 r hr).next hb⟩
def ResP (os:List Ob) (n:Nat) (w:World) (e:Ending) (w':World):Prop:=
 (faultL os ≠ flZ/\e=.returned (.tuple #[.slice none 0 0,flV (faultL os)])/\Below w.heap.size w w')\/
 (faultL os=flZ/\∃ Z rs,e=.returned (.tuple #[.slice (some ⟨Z,0,none⟩) n n,flV flZ])/\PRows w' (some ⟨Z,0,none⟩) n rs/\rs.map (·.l)=rowsL os/\Below w.heap.size w w')
theorem IRs.rows {B M c q Z bs n:Nat} {F:FN} {vs:List Value} {R:List (List Pl)} {u:World} (h:IRs B M c q Z bs n F vs R u):∃ rs:List Rw,PRows u (some ⟨Z,0,none⟩) n rs/\rs.map (·.l)=R:=by
 have hex:∀ i (hi:i < n),∃ r:Rw,vs[i]?=some (.slice r.ad r.l.length r.cap)/\R[i]?=some r.l/\SL plC 3 u u.heap.size r.ad r.l.length r.l:=by
  intro i hi
  have h1:i < vs.length:=by rw [h.l1];exact hi
  have h2:i < R.length:=by rw [h.l2];exact hi
  have ho:=h.ow i vs[i] R[i] (List.getElem?_eq_getElem h1) (List.getElem?_eq_getElem h2)
  obtain ⟨a,c,hv,hsl,-⟩:=SL.ofOwns (enc:=plC) (l:=R[i]) pl_len (by decide) ho
  exact ⟨⟨a,c,R[i]⟩,by rw [List.getElem?_eq_getElem h1,hv],List.getElem?_eq_getElem h2,hsl⟩
 have hall:∃ g:Nat->Rw,∀ i,i < n->vs[i]?=some (.slice (g i).ad (g i).l.length (g i).cap)/\R[i]?=some (g i).l/\SL plC 3 u u.heap.size (g i).ad (g i).l.length (g i).l:=
  ⟨fun i=>if hi:i < n then Classical.choose (hex i hi) else ⟨none,0,[]⟩,fun i hi=>by simp only [hi,dite_true];exact Classical.choose_spec (hex i hi)⟩
 obtain ⟨g,hg⟩:=hall
 refine ⟨(List.range n).map g,⟨⟨by simp,fun _=>⟨Z,0,rfl,lt_of_block h.rz,fun k hk j hj=>?_⟩⟩,fun r hr=>?_⟩,?_⟩
 ·have hkn:k < n:=by simpa using hk
  have:j=0:=by omega
  subst this
  simp only [List.getElem_map,List.getElem_range]
  rw [show 0+k*1+0=k from by omega,h.rz.cell]
  have:=(hg k hkn).1
  simp only [List.getElem?_toArray]
  rw [this];rfl
 ·obtain ⟨i,hi,rfl⟩:=List.mem_map.1 hr
  exact (hg i (by simpa using hi)).2.2
 ·apply List.ext_getElem?
  intro i
  by_cases hi:i < n
  ·rw [List.getElem?_map,List.getElem?_map,List.getElem?_range hi,(hg i hi).2.1];rfl
  ·rw [List.getElem?_eq_none (by simp;omega),List.getElem?_eq_none (by rw [h.l2];omega)]
theorem info_rows:(Tryz.prog.info? 104).map (fun i=>(i.zero,i.size,i.bytes))=some (some (.slice none 0 0),1,24):=by kernel_rfl
theorem make_rows (n:Nat) (hn:n<=1000000) (w:World):(Instr.makeSlice 40 (.int .i64 (n:Int)) (.int .i64 (n:Int))).run Tryz.prog w=.ok (.slice (some ⟨w.heap.size,0,none⟩) n n) (w.alloc (.cells (List.replicate n (.slice none 0 0:Value)).toArray 104)):=by
 obtain ⟨i0,hi0,hz0,hz1,hz2⟩:=info_parts info_rows
 have:=run_makeSlice (P:=Tryz.prog) w 40 104 i0 (.slice none 0 0) Tryz.underlying40 hi0 hz0 .i64 .i64 n n (by omega) (by omega) (by rw [hz1];omega) (by rw [hz2];omega) (by omega)
 rw [hz1] at this
 simp only [Int.toNat_natCast,Nat.mul_one] at this
 rw [this,show madeCells (Value.slice none 0 0).cells n=(List.replicate n (.slice none 0 0:Value)).toArray from by
  apply Array.ext
  ·rw [size_madeCells];simp
  ·intro i h1 h2
   have:i % 1=0:=Nat.mod_one i
   simp [madeCells,Value.cells,this]]
theorem flatR_len (k:Nat):∀ (j:Nat) (l:List Sy),(flatR k j l).length=l.length
 | _,[]=>rfl
 | j,y :: t=>by show (flatR k (j+1) t).length+1=_;rw [flatR_len k (j+1) t];rfl
theorem flatS_len:∀ (k:Nat) (l:List (List Sy)),(∀ x ∈ l,x.length<=128)->(flatS k l).length<=128*l.length
 | _,[],_=>Nat.le_refl _
 | k,x :: t,h=>by
  show (flatR k 0 x ++ flatS (k+1) t).length<=_
  rw [List.length_append,flatR_len,List.length_cons]
  have h1:=h x (List.mem_cons_self ..)
  have h2:=flatS_len (k+1) t (fun y hy=>h y (List.mem_cons_of_mem _ hy))
  omega
theorem flat_small {Os:List Ox} (h:checkL (Os.map obOf)=0):(flatS 0 (Os.map (·.l))).length<=1024:=by
 obtain ⟨h1,h2⟩:=checkL_zero.1 h
 have:=flatS_len 0 (Os.map (·.l)) (fun x hx=>by
  obtain ⟨o,ho,rfl⟩:=List.mem_map.1 hx
  exact (isO_syms (h2 (obOf o) (List.mem_map.2 ⟨o,ho,rfl⟩))).2.1)
 rw [List.length_map] at this h1
 omega
theorem map_eq_l (Os:List Ox):Os.map (·.l)=(Os.map obOf).map (·.syms):=by rw [List.map_map];rfl
theorem fault_ck {os:List Ob} (h:checkL os ≠ 0):faultL os=⟨checkL os,0,0⟩:=by unfold faultL;rw [if_pos h]
theorem fault_tw {os:List Ob} (h:checkL os=0) {a:At} (ha:(flatO os).find? (twiceB (plcL (flatO os)))=some a):faultL os=fltAt 7 (some a):=by unfold faultL;rw [if_neg (by rw [h];simp),ha];rfl
theorem fault_lo {os:List Ob} (h:checkL os=0) (ha:(flatO os).find? (twiceB (plcL (flatO os)))=none):faultL os=fltAt 6 ((flatO os).find? (lostB (plcL (flatO os)))):=by unfold faultL;rw [if_neg (by rw [h];simp),ha]
theorem res_ck (a:Option Addr) (n c:Nat) (Os:List Ox) (w:World) (hO:OS w w.heap.size a n Os) (hT:TabP w) (hck:checkL (Os.map obOf) ≠ 0):
  Calls Tryz.prog 19 #[.slice a n c] w (ResP (Os.map obOf) n w):=by
 have HCk:Hid (∀ u,Below w.heap.size w u->Calls Tryz.prog 25 #[.slice a n c] u (RetB (.int .i64 (checkL (Os.map obOf))) u)):=Lib.hid (fun u hu=>check_any a n c Os u (hO.next hu) (hT.next hu))
 obtain ⟨H,hH⟩:∃ H,H=w.heap.size:=⟨_,rfl⟩
 have HH:=Lib.hid hH
 have HR0:Hid (RB (w.alloc (.cells #[.int .i64 0,.int .i64 0,.int .i64 0] 42)) H #[.int .i64 0,.int .i64 0,.int .i64 0] 42):=Lib.hid (by rw [hH];exact rb_new w _ _)
 have HB0:Hid (Below w.heap.size w (w.alloc (.cells #[.int .i64 0,.int .i64 0,.int .i64 0] 42))):=Lib.hid (lit_below w _)
 have HE:=Lib.hid (fault_ck hck)
 obtain ⟨ck,hck2⟩:∃ ck,ck=checkL (Os.map obOf):=⟨_,rfl⟩
 rw [<-hck2] at HCk hck HE
 have HN:=Lib.hid hck
 have t0:(ck != 0)=true:=by simp [hck]
 clear hck hck2 hO hT hH
 go_enter Tryz.func19,Tryz.ntmps19
 go_wp2_with fail
 try rw [<-HH.out]
 generalize (w.alloc (.cells #[.int .i64 0,.int .i64 0,.int .i64 0] 42))=W0 at HR0 HB0 ⊢
 refine (HCk.out _ HB0.out).mono ?_
 rintro e u ⟨rfl,hb⟩
 replace HR0:=Lib.hid (HR0.out.next hb)
 replace HB0:=Lib.hid (after HB0.out hb)
 clear hb
 have x0:u.cell? ⟨H,0,none⟩=some (.int .i64 0):=HR0.out.cell
 have f0:u.frozen? ⟨H,0,none⟩=false:=HR0.out.frozen
 have x1:u.cell? ⟨H,1,none⟩=some (.int .i64 0):=HR0.out.cell
 have f1:u.frozen? ⟨H,1,none⟩=false:=HR0.out.frozen
 have x2:u.cell? ⟨H,2,none⟩=some (.int .i64 0):=HR0.out.cell
 have f2:u.frozen? ⟨H,2,none⟩=false:=HR0.out.frozen
 have HR4:=Lib.hid (((HR0.out.set (j:=0) (.int .i64 ck)).set (j:=1) (.int .i64 0)).set (j:=2) (.int .i64 0))
 go_wp2
 refine bodyPost_ret (results_two_cell (P:=Tryz.prog) rfl _ _ H 42 _ (0,0) _ (.slice none 0 0) rfl HR4.out Tryz.underlying42 rfl (by kernel_rfl) rfl) rfl ?_
 refine .inl ⟨?_,by rw [HE.out];rfl,below_set3 HB0.out (by rw [HH.out];exact Nat.le_refl _) _ _ _⟩
 intro e
 rw [HE.out] at e
 exact HN.out (congrArg Flt.code e)
theorem res_tw (a:Option Addr) (n c:Nat) (Os:List Ox) (w:World) (hO:OS w w.heap.size a n Os) (hT:TabP w) (hck:checkL (Os.map obOf)=0) (x:At) (htw:(flatO (Os.map obOf)).find? (twiceB (plcL (flatO (Os.map obOf))))=some x):
  Calls Tryz.prog 19 #[.slice a n c] w (ResP (Os.map obOf) n w):=by
 have HFA:=Lib.hid (fault_tw hck htw)
 have HCk:Hid (∀ u,Below w.heap.size w u->Calls Tryz.prog 25 #[.slice a n c] u (RetB (.int .i64 (checkL (Os.map obOf))) u)):=Lib.hid (fun u hu=>check_any a n c Os u (hO.next hu) (hT.next hu))
 obtain ⟨H,hH⟩:∃ H,H=w.heap.size:=⟨_,rfl⟩
 have HH:=Lib.hid hH
 have HR0:Hid (RB (w.alloc (.cells #[.int .i64 0,.int .i64 0,.int .i64 0] 42)) H #[.int .i64 0,.int .i64 0,.int .i64 0] 42):=Lib.hid (by rw [hH];exact rb_new w _ _)
 have HB0:Hid (Below w.heap.size w (w.alloc (.cells #[.int .i64 0,.int .i64 0,.int .i64 0] 42))):=Lib.hid (lit_below w _)
 have HPl:Hid (∀ u,Below w.heap.size w u->Calls Tryz.prog 53 #[.slice a n c] u (MapP u (plcL (flatO (Os.map obOf))))):=Lib.hid (fun u hu=>by rw [<-flatO_eq];exact places_any a n c Os u (hO.next hu))
 have HO:=Lib.hid hO
 have HFs:=Lib.hid (flat_small hck)
 have HN8:Hid (n<=8):=Lib.hid (by have:=(checkL_zero.1 hck).1;rw [List.length_map] at this;have:=hO.sl.len;omega)
 have HLn:Hid (n=Os.length):=Lib.hid hO.sl.len
 obtain ⟨F,hF⟩:∃ F,F=plcL (flatO (Os.map obOf)):=⟨_,rfl⟩
 rw [<-hF] at HPl htw
 obtain ⟨fl,hfl⟩:∃ fl,fl=flatS 0 (Os.map (·.l)):=⟨_,rfl⟩
 have hfl2:flatO (Os.map obOf)=fl:=by rw [hfl,flatO_eq]
 rw [hfl2] at htw
 rw [<-hfl] at HFs
 have HFl:=Lib.hid hfl
 have HTW:=Lib.hid htw
 rw [hck] at HCk
 clear htw hck hO hT hH hfl hfl2
 go_enter Tryz.func19,Tryz.ntmps19
 go_wp2_with fail
 try rw [<-HH.out]
 generalize (w.alloc (.cells #[.int .i64 0,.int .i64 0,.int .i64 0] 42))=W0 at HR0 HB0 ⊢
 refine (HCk.out _ HB0.out).mono ?_
 rintro e u ⟨rfl,hb⟩
 replace HR0:=Lib.hid (HR0.out.next hb)
 replace HB0:=Lib.hid (after HB0.out hb)
 clear hb
 go_wp2_with fail
 refine (HPl.out _ HB0.out).mono ?_
 rintro e u2 ⟨M,rfl,hm,hg,hb⟩
 have HMg:Hid (H < M):=Lib.hid (by have:=lt_of_block HR0.out;omega)
 replace HR0:=Lib.hid (HR0.out.next hb)
 replace HB0:=Lib.hid (after HB0.out hb)
 obtain ⟨cc,hcc⟩:∃ x,x=u2.heap.size:=⟨_,rfl⟩
 obtain ⟨W1,hW1⟩:∃ x,x=u2.alloc (.cells #[.map (some M)] 99):=⟨_,rfl⟩
 have hb1:Below u2.heap.size u2 W1:=by rw [hW1];exact lit_below u2 _
 have HR1:Hid (RB W1 H #[.int .i64 0,.int .i64 0,.int .i64 0] 42):=Lib.hid (HR0.out.next hb1)
 have HB1:=Lib.hid (after HB0.out hb1)
 have HM1:Hid (FM W1 M F):=Lib.hid (hm.next hb1)
 have HC1:Hid (RB W1 cc #[.map (some M)] 99):=Lib.hid (by rw [hW1,hcc];exact rb_new u2 _ _)
 have HMc:Hid (M < cc/\W1.heap.size=cc+1):=Lib.hid ⟨by rw [hcc];exact hm.lt,by rw [hW1,World.size_alloc,hcc]⟩
 have y0:W1.cell? ⟨cc,0,none⟩=some (.map (some M)):=HC1.out.cell
 rw [hW1,hcc] at y0
 have HW1:Hid (u2.alloc (.cells #[.map (some M)] 99)=W1):=Lib.hid hW1.symm
 have HCC:=Lib.hid hcc
 clear hm hg hb hcc hW1 hb1 HR0 HB0
 go_wp2_with fail
 rw [HW1.out]
 rw [HW1.out] at y0
 rw [<-HCC.out] at y0
 refine (once_any M W1).mono ?_
 rintro e W2 ⟨rfl,hw2⟩
 have hb2:Below W1.heap.size W1 W2:=by rw [hw2];exact lit_below W1 _
 have hc2:RB W2 (cc+1) #[.map (some M)] 99:=by rw [hw2,<-HMc.out.2];exact rb_new W1 _ _
 have HB2:=Lib.hid (after HB1.out hb2)
 have h0:IO H M (cc+1) F () (fun j=>j=M\/j=cc+1) W2:=⟨rfl,HM1.out.next hb2,hc2,by have:=HMg.out;omega,by have:=HMg.out;have:=HMc.out.1;omega⟩
 have HE1:=Lib.hid (each_any (IO H M (cc+1) F) H (ei_io _ _ _ _) (stepO F) 87 #[.pointer (some ⟨cc+1,0,none⟩)] (fun _ _=>by kernel_rfl) a n c Os W2 (by have:=HB2.out.size;rw [HH.out];exact this) (by rw [HH.out];exact HO.out.below HB2.out) () _ h0 (fun s X u k j y N _ _ hi hN hl=>once1_any _ _ _ _ _ k j y N u hi hN hl))
 rw [<-HFl.out] at HE1
 have HC2:Hid (RB W2 cc #[.map (some M)] 99):=Lib.hid (HC1.out.next hb2)
 have HR2:Hid (RB W2 H #[.int .i64 0,.int .i64 0,.int .i64 0] 42):=Lib.hid (HR1.out.next hb2)
 have HS2:Hid (W2.heap.size=cc+1+1):=Lib.hid (by rw [hw2,World.size_alloc,HMc.out.2])
 clear hw2 hb2 hc2 h0
 rw [HMc.out.2]
 go_wp2_with fail
 refine HE1.out.mono ?_
 rintro e u3 ⟨X',rfl,hi,hko,hX⟩
 rw [runE_once,HTW.out]
 have HX1:Hid (∀ j,(j=M\/j=cc+1)->H < j):=Lib.hid (fun j hj=>by have:=HMg.out;have:=HMc.out.1;rcases hj with h | h <;> omega)
 have HB3:Hid (Below w.heap.size w u3):=Lib.hid (HB2.out.trans (hko.below (by rw [<-HH.out];have:=HS2.out;have:=HMg.out;have:=HMc.out.1;omega) (fun j hj=>by rw [<-HH.out];have:=HX1.out j hj;omega)))
 have HM3:Hid (FM u3 M F):=Lib.hid hi.2.1
 have HR3:Hid (RB u3 H #[.int .i64 0,.int .i64 0,.int .i64 0] 42):=Lib.hid ((hko.block H (lt_of_block HR2.out) (fun hx=>by have:=HX1.out _ hx;omega)).trans HR2.out)
 have HC3:Hid (RB u3 cc #[.map (some M)] 99):=Lib.hid ((hko.block cc (by have:=HS2.out;omega) (fun hx=>by have:=HMc.out.1;rcases hx with h | h <;> omega)).trans HC2.out)
 have HS3:Hid (cc+1+1<=u3.heap.size):=Lib.hid (by have:=hko.size;have:=HS2.out;omega)
 clear hi hko hX HE1 HR1 HB1 HM1 HC1 HB2 HR2 HC2 y0
 obtain ⟨xk,xj,xy⟩:=x
 simp only [fltAt,flV]
 obtain ⟨W4,hW4⟩:∃ z,z=u3.alloc (.cells #[.int .i64 7,.int .i64 (xk:Int),.int .i64 (xj:Int)] 42):=⟨_,rfl⟩
 have hb4:Below u3.heap.size u3 W4:=by rw [hW4];exact lit_below u3 _
 have HR4:Hid (RB W4 H #[.int .i64 0,.int .i64 0,.int .i64 0] 42):=Lib.hid (HR3.out.next hb4)
 have HB4:=Lib.hid (after HB3.out hb4)
 have x0:W4.cell? ⟨H,0,none⟩=some (.int .i64 0):=HR4.out.cell
 have f0:W4.frozen? ⟨H,0,none⟩=false:=HR4.out.frozen
 have x1:W4.cell? ⟨H,1,none⟩=some (.int .i64 0):=HR4.out.cell
 have f1:W4.frozen? ⟨H,1,none⟩=false:=HR4.out.frozen
 have x2:W4.cell? ⟨H,2,none⟩=some (.int .i64 0):=HR4.out.cell
 have f2:W4.frozen? ⟨H,2,none⟩=false:=HR4.out.frozen
 have HW4:Hid (u3.alloc (.cells #[.int .i64 7,.int .i64 (xk:Int),.int .i64 (xj:Int)] 42)=W4):=Lib.hid hW4.symm
 rw [hW4] at x0 f0 x1 f1 x2 f2
 have hZ:RB W4 u3.heap.size #[.int .i64 7,.int .i64 (xk:Int),.int .i64 (xj:Int)] 42:=by rw [hW4];exact rb_new u3 _ _
 have z0:W4.cell? ⟨u3.heap.size,0,none⟩=some (.int .i64 7):=hZ.cell
 have z1:W4.cell? ⟨u3.heap.size,1,none⟩=some (.int .i64 (xk:Int)):=hZ.cell
 have z2:W4.cell? ⟨u3.heap.size,2,none⟩=some (.int .i64 (xj:Int)):=hZ.cell
 have HR5:=Lib.hid (((HR4.out.set (j:=0) (.int .i64 7)).set (j:=1) (.int .i64 (xk:Int))).set (j:=2) (.int .i64 (xj:Int)))
 clear hW4 hb4 hZ
 go_wp2
 rw [HW4.out]
 rw [HW4.out] at x0 f0 x1 f1 x2 f2
 go_region
 all_goals
  go_wp2
  refine bodyPost_ret (results_two_cell (P:=Tryz.prog) rfl _ _ H 42 _ (0,0) _ (.slice none 0 0) rfl HR5.out Tryz.underlying42 rfl (by kernel_rfl) rfl) rfl ?_
  refine .inl ⟨?_,by rw [HFA.out];rfl,?_⟩
  ·intro e
   rw [HFA.out] at e
   exact absurd (congrArg Flt.code e) (by simp [fltAt,flZ])
  ·have hb:=below_set3 HB4.out (H:=H) (by rw [HH.out];exact Nat.le_refl _) (.int .i64 7) (.int .i64 (xk:Int)) (.int .i64 (xj:Int))
   exact ⟨hb.os,hb.tape,hb.output,hb.size,hb.block⟩
theorem res_lo (a:Option Addr) (n c:Nat) (Os:List Ox) (w:World) (hO:OS w w.heap.size a n Os) (hT:TabP w) (hck:checkL (Os.map obOf)=0) (x:At) (htw:(flatO (Os.map obOf)).find? (twiceB (plcL (flatO (Os.map obOf))))=none) (hlo:(flatO (Os.map obOf)).find? (lostB (plcL (flatO (Os.map obOf))))=some x):
  Calls Tryz.prog 19 #[.slice a n c] w (ResP (Os.map obOf) n w):=by
 have HFA:Hid (faultL (Os.map obOf)=fltAt 6 (some x)):=Lib.hid (by rw [fault_lo hck htw,hlo])
 have HCk:Hid (∀ u,Below w.heap.size w u->Calls Tryz.prog 25 #[.slice a n c] u (RetB (.int .i64 (checkL (Os.map obOf))) u)):=Lib.hid (fun u hu=>check_any a n c Os u (hO.next hu) (hT.next hu))
 obtain ⟨H,hH⟩:∃ H,H=w.heap.size:=⟨_,rfl⟩
 have HH:=Lib.hid hH
 have HR0:Hid (RB (w.alloc (.cells #[.int .i64 0,.int .i64 0,.int .i64 0] 42)) H #[.int .i64 0,.int .i64 0,.int .i64 0] 42):=Lib.hid (by rw [hH];exact rb_new w _ _)
 have HB0:Hid (Below w.heap.size w (w.alloc (.cells #[.int .i64 0,.int .i64 0,.int .i64 0] 42))):=Lib.hid (lit_below w _)
 have HPl:Hid (∀ u,Below w.heap.size w u->Calls Tryz.prog 53 #[.slice a n c] u (MapP u (plcL (flatO (Os.map obOf))))):=Lib.hid (fun u hu=>by rw [<-flatO_eq];exact places_any a n c Os u (hO.next hu))
 have HO:=Lib.hid hO
 have HFs:=Lib.hid (flat_small hck)
 have HN8:Hid (n<=8):=Lib.hid (by have:=(checkL_zero.1 hck).1;rw [List.length_map] at this;have:=hO.sl.len;omega)
 have HLn:Hid (n=Os.length):=Lib.hid hO.sl.len
 obtain ⟨F,hF⟩:∃ F,F=plcL (flatO (Os.map obOf)):=⟨_,rfl⟩
 rw [<-hF] at HPl htw hlo
 obtain ⟨fl,hfl⟩:∃ fl,fl=flatS 0 (Os.map (·.l)):=⟨_,rfl⟩
 have hfl2:flatO (Os.map obOf)=fl:=by rw [hfl,flatO_eq]
 rw [hfl2] at htw hlo
 rw [<-hfl] at HFs
 have HFl:=Lib.hid hfl
 have HTW:=Lib.hid htw
 have HLO:=Lib.hid hlo
 rw [hck] at HCk
 clear htw hlo hck hO hT hH hfl hfl2
 go_enter Tryz.func19,Tryz.ntmps19
 go_wp2_with fail
 try rw [<-HH.out]
 generalize (w.alloc (.cells #[.int .i64 0,.int .i64 0,.int .i64 0] 42))=W0 at HR0 HB0 ⊢
 refine (HCk.out _ HB0.out).mono ?_
 rintro e u ⟨rfl,hb⟩
 replace HR0:=Lib.hid (HR0.out.next hb)
 replace HB0:=Lib.hid (after HB0.out hb)
 clear hb
 go_wp2_with fail
 refine (HPl.out _ HB0.out).mono ?_
 rintro e u2 ⟨M,rfl,hm,hg,hb⟩
 have HMg:Hid (H < M):=Lib.hid (by have:=lt_of_block HR0.out;omega)
 replace HR0:=Lib.hid (HR0.out.next hb)
 replace HB0:=Lib.hid (after HB0.out hb)
 obtain ⟨cc,hcc⟩:∃ x,x=u2.heap.size:=⟨_,rfl⟩
 obtain ⟨W1,hW1⟩:∃ x,x=u2.alloc (.cells #[.map (some M)] 99):=⟨_,rfl⟩
 have hb1:Below u2.heap.size u2 W1:=by rw [hW1];exact lit_below u2 _
 have HR1:Hid (RB W1 H #[.int .i64 0,.int .i64 0,.int .i64 0] 42):=Lib.hid (HR0.out.next hb1)
 have HB1:=Lib.hid (after HB0.out hb1)
 have HM1:Hid (FM W1 M F):=Lib.hid (hm.next hb1)
 have HC1:Hid (RB W1 cc #[.map (some M)] 99):=Lib.hid (by rw [hW1,hcc];exact rb_new u2 _ _)
 have HMc:Hid (M < cc/\W1.heap.size=cc+1):=Lib.hid ⟨by rw [hcc];exact hm.lt,by rw [hW1,World.size_alloc,hcc]⟩
 have y0:W1.cell? ⟨cc,0,none⟩=some (.map (some M)):=HC1.out.cell
 rw [hW1,hcc] at y0
 have HW1:Hid (u2.alloc (.cells #[.map (some M)] 99)=W1):=Lib.hid hW1.symm
 have HCC:=Lib.hid hcc
 clear hm hg hb hcc hW1 hb1 HR0 HB0
 go_wp2_with fail
 rw [HW1.out]
 rw [HW1.out] at y0
 rw [<-HCC.out] at y0
 refine (once_any M W1).mono ?_
 rintro e W2 ⟨rfl,hw2⟩
 have hb2:Below W1.heap.size W1 W2:=by rw [hw2];exact lit_below W1 _
 have hc2:RB W2 (cc+1) #[.map (some M)] 99:=by rw [hw2,<-HMc.out.2];exact rb_new W1 _ _
 have HB2:=Lib.hid (after HB1.out hb2)
 have h0:IO H M (cc+1) F () (fun j=>j=M\/j=cc+1) W2:=⟨rfl,HM1.out.next hb2,hc2,by have:=HMg.out;omega,by have:=HMg.out;have:=HMc.out.1;omega⟩
 have HE1:=Lib.hid (each_any (IO H M (cc+1) F) H (ei_io _ _ _ _) (stepO F) 87 #[.pointer (some ⟨cc+1,0,none⟩)] (fun _ _=>by kernel_rfl) a n c Os W2 (by have:=HB2.out.size;rw [HH.out];exact this) (by rw [HH.out];exact HO.out.below HB2.out) () _ h0 (fun s X u k j y N _ _ hi hN hl=>once1_any _ _ _ _ _ k j y N u hi hN hl))
 rw [<-HFl.out] at HE1
 have HC2:Hid (RB W2 cc #[.map (some M)] 99):=Lib.hid (HC1.out.next hb2)
 have HR2:Hid (RB W2 H #[.int .i64 0,.int .i64 0,.int .i64 0] 42):=Lib.hid (HR1.out.next hb2)
 have HS2:Hid (W2.heap.size=cc+1+1):=Lib.hid (by rw [hw2,World.size_alloc,HMc.out.2])
 clear hw2 hb2 hc2 h0
 rw [HMc.out.2]
 go_wp2_with fail
 refine HE1.out.mono ?_
 rintro e u3 ⟨X',rfl,hi,hko,hX⟩
 rw [runE_once,HTW.out]
 have HX1:Hid (∀ j,(j=M\/j=cc+1)->H < j):=Lib.hid (fun j hj=>by have:=HMg.out;have:=HMc.out.1;rcases hj with h | h <;> omega)
 have HB3:Hid (Below w.heap.size w u3):=Lib.hid (HB2.out.trans (hko.below (by rw [<-HH.out];have:=HS2.out;have:=HMg.out;have:=HMc.out.1;omega) (fun j hj=>by rw [<-HH.out];have:=HX1.out j hj;omega)))
 have HM3:Hid (FM u3 M F):=Lib.hid hi.2.1
 have HR3:Hid (RB u3 H #[.int .i64 0,.int .i64 0,.int .i64 0] 42):=Lib.hid ((hko.block H (lt_of_block HR2.out) (fun hx=>by have:=HX1.out _ hx;omega)).trans HR2.out)
 have HC3:Hid (RB u3 cc #[.map (some M)] 99):=Lib.hid ((hko.block cc (by have:=HS2.out;omega) (fun hx=>by have:=HMc.out.1;rcases hx with h | h <;> omega)).trans HC2.out)
 have HS3:Hid (cc+1+1<=u3.heap.size):=Lib.hid (by have:=hko.size;have:=HS2.out;omega)
 clear hi hko hX HE1 HR1 HB1 HM1 HC1 HB2 HR2 HC2 y0
 simp only [fltAt,flV,flZ]
 obtain ⟨Z,hZ⟩:∃ z,z=u3.heap.size+1:=⟨_,rfl⟩
 obtain ⟨W4,hW4⟩:∃ z,z=u3.alloc (.cells #[.int .i64 0,.int .i64 0,.int .i64 0] 42):=⟨_,rfl⟩
 have hb4:Below u3.heap.size u3 W4:=by rw [hW4];exact lit_below u3 _
 have hz4:W4.heap.size=Z:=by rw [hW4,World.size_alloc,hZ]
 obtain ⟨W5,hW5⟩:∃ z,z=W4.alloc (.cells (List.replicate n (.slice none 0 0:Value)).toArray 104):=⟨_,rfl⟩
 have hb5:Below W4.heap.size W4 W5:=by rw [hW5];exact lit_below W4 _
 have hz5:W5.heap.size=Z+1:=by rw [hW5,World.size_alloc,hz4]
 obtain ⟨W6,hW6⟩:∃ z,z=W5.alloc (.cells #[.slice (some ⟨Z,0,none⟩) n n] 40):=⟨_,rfl⟩
 have hb6:Below W5.heap.size W5 W6:=by rw [hW6];exact lit_below W5 _
 have hz6:W6.heap.size=Z+1+1:=by rw [hW6,World.size_alloc,hz5]
 have hb46:=after (after hb4 hb5) hb6
 have hF4:RB W4 u3.heap.size #[.int .i64 0,.int .i64 0,.int .i64 0] 42:=by rw [hW4];exact rb_new u3 _ _
 have hn8:=HN8.out
 have hmk:=make_rows n (by omega) W4
 rw [hz4,<-hW5] at hmk
 have w0:W4.cell? ⟨u3.heap.size,0,none⟩=some (.int .i64 0):=hF4.cell
 have hrz:RB W5 Z (List.replicate n (.slice none 0 0:Value)).toArray 104:=by rw [hW5,<-hz4];exact rb_new W4 _ _
 have hrq:RB W6 (Z+1) #[.slice (some ⟨Z,0,none⟩) n n] 40:=by rw [hW6,<-hz5];exact rb_new W5 _ _
 have hS3:=HS3.out
 have hMc:=HMc.out.1
 have hMg:=HMg.out
 have HB6:=Lib.hid (after HB3.out hb46)
 have HR6:Hid (RB W6 H #[.int .i64 0,.int .i64 0,.int .i64 0] 42):=Lib.hid (HR3.out.next hb46)
 have hIR:IRs H M cc (Z+1) Z (Z+1+1) n F (List.replicate n (.slice none 0 0)) (List.replicate n []) W6:=by
  refine ⟨HM3.out.next hb46,HC3.out.next hb46,hrq,hrz.next hb6,by simp,by simp,?_,?_,by omega,by omega,by omega,by omega,by omega,by omega⟩
  ·intro i v r hv hr
   have e1:v=.slice none 0 0:=List.eq_of_mem_replicate (List.mem_of_getElem? hv)
   have e2:r=[]:=List.eq_of_mem_replicate (List.mem_of_getElem? hr)
   subst e1 e2
   exact World.ownsRow_nil _ _ _ _
  ·intro i j v v' g hv hv' hne hg
   have e1:v=.slice none 0 0:=List.eq_of_mem_replicate (List.mem_of_getElem? hv)
   subst e1
   cases hg
 have HX6:Hid (∀ j,XR M cc (Z+1) Z (List.replicate n (.slice none 0 0)) j->H < j):=Lib.hid (fun j hj=>by
  rcases hj with h | h | h | h | ⟨v,hv,hg⟩
  ·omega
  ·omega
  ·omega
  ·omega
  ·have e1:v=.slice none 0 0:=List.eq_of_mem_replicate hv
   subst e1
   cases hg)
 have hln:=HLn.out
 have hfl:=HFl.out
 have hfs:=HFs.out
 have HE2:=Lib.hid (each_any (IRx H M cc (Z+1) Z (Z+1+1) n F) H (ei_ir _ _ _ _ _ _ _ _) (stepR F) 56 #[.pointer (some ⟨cc,0,none⟩),.pointer (some ⟨Z+1,0,none⟩)] (fun _ _=>by kernel_rfl) a n c Os W6 (by omega) (by rw [HH.out];exact HO.out.below HB6.out) (List.replicate n []) _ ⟨_,rfl,hIR⟩ (fun s X u k j y N hmem hpre hi hN hl=>resolve1_any _ _ _ _ _ _ _ _ _ _ k j y N u hi hN hl (by
  obtain ⟨o,ho,-⟩:=flat_mem hmem
  have:=(List.getElem?_eq_some_iff.1 ho).1
  simp only at this
  omega) (by omega) (by
  obtain ⟨rest,pre,h1,h2⟩:=hpre
  have h3:=rows_small pre _ _ 0 (fun r hr=>by rw [List.eq_of_mem_replicate hr];exact Nat.le_refl _) h2
  intro r hr
  have h4:=h3 r hr
  have h5:=congrArg List.length h1
  rw [<-hfl] at h5
  simp only [List.length_append,List.length_cons] at h5
  omega)))
 rw [<-hfl] at HE2
 have HWE:Hid ((u3.alloc (.cells #[.int .i64 0,.int .i64 0,.int .i64 0] 42))=W4):=Lib.hid hW4.symm
 have HWF:Hid (W5.alloc (.cells #[.slice (some ⟨Z,0,none⟩) n n] 40)=W6):=Lib.hid hW6.symm
 have HZ:Hid (u3.heap.size+1=Z):=Lib.hid hZ.symm
 have HZ5:Hid (W5.heap.size=Z+1):=Lib.hid hz5
 have HZ6:Hid (W6.heap.size=Z+1+1):=Lib.hid hz6
 have HZg:Hid (H < Z):=Lib.hid (by omega)
 rw [hW4] at w0 hmk
 clear hW4 hb4 hz4 hW5 hb5 hz5 hW6 hb6 hz6 hb46 hF4 hrz hrq hS3 hMc hMg hIR hZ hln hfl hfs hn8
 go_wp2_with fail
 clear hmk w0
 rw [HZ5.out,HWF.out,<-HCC.out]
 refine HE2.out.mono ?_
 rintro e u7 ⟨X',rfl,hi,hko,hX⟩
 rw [runE_lost,HLO.out]
 have HB7:Hid (Below w.heap.size w u7):=Lib.hid (HB6.out.trans (hko.below (by rw [<-HH.out];have:=HZ6.out;have:=HZg.out;omega) (fun j hj=>by rw [<-HH.out];have:=HX6.out j hj;omega)))
 have HR7:Hid (RB u7 H #[.int .i64 0,.int .i64 0,.int .i64 0] 42):=Lib.hid ((hko.block H (lt_of_block HR6.out) (fun hx=>by have:=HX6.out _ hx;omega)).trans HR6.out)
 obtain ⟨xk,xj,xy⟩:=x
 simp only [fltAt,flV]
 clear hi hko hX HE2
 obtain ⟨W8,hW8⟩:∃ z,z=u7.alloc (.cells #[.int .i64 6,.int .i64 (xk:Int),.int .i64 (xj:Int)] 42):=⟨_,rfl⟩
 have hb8:Below u7.heap.size u7 W8:=by rw [hW8];exact lit_below u7 _
 have HR8:Hid (RB W8 H #[.int .i64 0,.int .i64 0,.int .i64 0] 42):=Lib.hid (HR7.out.next hb8)
 have HB8:=Lib.hid (after HB7.out hb8)
 have x0:W8.cell? ⟨H,0,none⟩=some (.int .i64 0):=HR8.out.cell
 have f0:W8.frozen? ⟨H,0,none⟩=false:=HR8.out.frozen
 have x1:W8.cell? ⟨H,1,none⟩=some (.int .i64 0):=HR8.out.cell
 have f1:W8.frozen? ⟨H,1,none⟩=false:=HR8.out.frozen
 have x2:W8.cell? ⟨H,2,none⟩=some (.int .i64 0):=HR8.out.cell
 have f2:W8.frozen? ⟨H,2,none⟩=false:=HR8.out.frozen
 have HW8:Hid (u7.alloc (.cells #[.int .i64 6,.int .i64 (xk:Int),.int .i64 (xj:Int)] 42)=W8):=Lib.hid hW8.symm
 have hZ8:RB W8 u7.heap.size #[.int .i64 6,.int .i64 (xk:Int),.int .i64 (xj:Int)] 42:=by rw [hW8];exact rb_new u7 _ _
 have z0:W8.cell? ⟨u7.heap.size,0,none⟩=some (.int .i64 6):=hZ8.cell
 have z1:W8.cell? ⟨u7.heap.size,1,none⟩=some (.int .i64 (xk:Int)):=hZ8.cell
 have z2:W8.cell? ⟨u7.heap.size,2,none⟩=some (.int .i64 (xj:Int)):=hZ8.cell
 have HR9:=Lib.hid (((HR8.out.set (j:=0) (.int .i64 6)).set (j:=1) (.int .i64 (xk:Int))).set (j:=2) (.int .i64 (xj:Int)))
 clear hW8 hb8 hZ8
 go_wp2
 rw [HW8.out]
 go_region
 all_goals
  go_wp2
  refine bodyPost_ret (results_two_cell (P:=Tryz.prog) rfl _ _ H 42 _ (0,0) _ (.slice none 0 0) rfl HR9.out Tryz.underlying42 rfl (by kernel_rfl) rfl) rfl ?_
  refine .inl ⟨?_,by rw [HFA.out];rfl,?_⟩
  ·intro e
   rw [HFA.out] at e
   exact absurd (congrArg Flt.code e) (by simp [fltAt,flZ])
  ·have hb:=below_set3 HB8.out (H:=H) (by rw [HH.out];exact Nat.le_refl _) (.int .i64 6) (.int .i64 (xk:Int)) (.int .i64 (xj:Int))
   exact ⟨hb.os,hb.tape,hb.output,hb.size,hb.block⟩
theorem res_ok (a:Option Addr) (n c:Nat) (Os:List Ox) (w:World) (hO:OS w w.heap.size a n Os) (hT:TabP w) (hck:checkL (Os.map obOf)=0) (htw:(flatO (Os.map obOf)).find? (twiceB (plcL (flatO (Os.map obOf))))=none) (hlo:(flatO (Os.map obOf)).find? (lostB (plcL (flatO (Os.map obOf))))=none):
  Calls Tryz.prog 19 #[.slice a n c] w (ResP (Os.map obOf) n w):=by
 have HFA:Hid (faultL (Os.map obOf)=flZ):=Lib.hid (by rw [fault_lo hck htw,hlo];rfl)
 have HRo:Hid (rowsL (Os.map obOf)=rowsA (plcL (flatO (Os.map obOf))) 0 (Os.map (·.l))):=Lib.hid (by unfold rowsL;rw [<-map_eq_l])
 have HCk:Hid (∀ u,Below w.heap.size w u->Calls Tryz.prog 25 #[.slice a n c] u (RetB (.int .i64 (checkL (Os.map obOf))) u)):=Lib.hid (fun u hu=>check_any a n c Os u (hO.next hu) (hT.next hu))
 obtain ⟨H,hH⟩:∃ H,H=w.heap.size:=⟨_,rfl⟩
 have HH:=Lib.hid hH
 have HR0:Hid (RB (w.alloc (.cells #[.int .i64 0,.int .i64 0,.int .i64 0] 42)) H #[.int .i64 0,.int .i64 0,.int .i64 0] 42):=Lib.hid (by rw [hH];exact rb_new w _ _)
 have HB0:Hid (Below w.heap.size w (w.alloc (.cells #[.int .i64 0,.int .i64 0,.int .i64 0] 42))):=Lib.hid (lit_below w _)
 have HPl:Hid (∀ u,Below w.heap.size w u->Calls Tryz.prog 53 #[.slice a n c] u (MapP u (plcL (flatO (Os.map obOf))))):=Lib.hid (fun u hu=>by rw [<-flatO_eq];exact places_any a n c Os u (hO.next hu))
 have HO:=Lib.hid hO
 have HFs:=Lib.hid (flat_small hck)
 have HN8:Hid (n<=8):=Lib.hid (by have:=(checkL_zero.1 hck).1;rw [List.length_map] at this;have:=hO.sl.len;omega)
 have HLn:Hid (n=Os.length):=Lib.hid hO.sl.len
 obtain ⟨F,hF⟩:∃ F,F=plcL (flatO (Os.map obOf)):=⟨_,rfl⟩
 rw [<-hF] at HPl htw hlo HRo
 obtain ⟨fl,hfl⟩:∃ fl,fl=flatS 0 (Os.map (·.l)):=⟨_,rfl⟩
 have hfl2:flatO (Os.map obOf)=fl:=by rw [hfl,flatO_eq]
 rw [hfl2] at htw hlo
 rw [<-hfl] at HFs
 have HFl:=Lib.hid hfl
 have HTW:=Lib.hid htw
 have HLO:=Lib.hid hlo
 rw [hck] at HCk
 clear htw hlo hck hO hT hH hfl hfl2
 go_enter Tryz.func19,Tryz.ntmps19
 go_wp2_with fail
 try rw [<-HH.out]
 generalize (w.alloc (.cells #[.int .i64 0,.int .i64 0,.int .i64 0] 42))=W0 at HR0 HB0 ⊢
 refine (HCk.out _ HB0.out).mono ?_
 rintro e u ⟨rfl,hb⟩
 replace HR0:=Lib.hid (HR0.out.next hb)
 replace HB0:=Lib.hid (after HB0.out hb)
 clear hb
 go_wp2_with fail
 refine (HPl.out _ HB0.out).mono ?_
 rintro e u2 ⟨M,rfl,hm,hg,hb⟩
 have HMg:Hid (H < M):=Lib.hid (by have:=lt_of_block HR0.out;omega)
 replace HR0:=Lib.hid (HR0.out.next hb)
 replace HB0:=Lib.hid (after HB0.out hb)
 obtain ⟨cc,hcc⟩:∃ x,x=u2.heap.size:=⟨_,rfl⟩
 obtain ⟨W1,hW1⟩:∃ x,x=u2.alloc (.cells #[.map (some M)] 99):=⟨_,rfl⟩
 have hb1:Below u2.heap.size u2 W1:=by rw [hW1];exact lit_below u2 _
 have HR1:Hid (RB W1 H #[.int .i64 0,.int .i64 0,.int .i64 0] 42):=Lib.hid (HR0.out.next hb1)
 have HB1:=Lib.hid (after HB0.out hb1)
 have HM1:Hid (FM W1 M F):=Lib.hid (hm.next hb1)
 have HC1:Hid (RB W1 cc #[.map (some M)] 99):=Lib.hid (by rw [hW1,hcc];exact rb_new u2 _ _)
 have HMc:Hid (M < cc/\W1.heap.size=cc+1):=Lib.hid ⟨by rw [hcc];exact hm.lt,by rw [hW1,World.size_alloc,hcc]⟩
 have y0:W1.cell? ⟨cc,0,none⟩=some (.map (some M)):=HC1.out.cell
 rw [hW1,hcc] at y0
 have HW1:Hid (u2.alloc (.cells #[.map (some M)] 99)=W1):=Lib.hid hW1.symm
 have HCC:=Lib.hid hcc
 clear hm hg hb hcc hW1 hb1 HR0 HB0
 go_wp2_with fail
 rw [HW1.out]
 rw [HW1.out] at y0
 rw [<-HCC.out] at y0
 refine (once_any M W1).mono ?_
 rintro e W2 ⟨rfl,hw2⟩
 have hb2:Below W1.heap.size W1 W2:=by rw [hw2];exact lit_below W1 _
 have hc2:RB W2 (cc+1) #[.map (some M)] 99:=by rw [hw2,<-HMc.out.2];exact rb_new W1 _ _
 have HB2:=Lib.hid (after HB1.out hb2)
 have h0:IO H M (cc+1) F () (fun j=>j=M\/j=cc+1) W2:=⟨rfl,HM1.out.next hb2,hc2,by have:=HMg.out;omega,by have:=HMg.out;have:=HMc.out.1;omega⟩
 have HE1:=Lib.hid (each_any (IO H M (cc+1) F) H (ei_io _ _ _ _) (stepO F) 87 #[.pointer (some ⟨cc+1,0,none⟩)] (fun _ _=>by kernel_rfl) a n c Os W2 (by have:=HB2.out.size;rw [HH.out];exact this) (by rw [HH.out];exact HO.out.below HB2.out) () _ h0 (fun s X u k j y N _ _ hi hN hl=>once1_any _ _ _ _ _ k j y N u hi hN hl))
 rw [<-HFl.out] at HE1
 have HC2:Hid (RB W2 cc #[.map (some M)] 99):=Lib.hid (HC1.out.next hb2)
 have HR2:Hid (RB W2 H #[.int .i64 0,.int .i64 0,.int .i64 0] 42):=Lib.hid (HR1.out.next hb2)
 have HS2:Hid (W2.heap.size=cc+1+1):=Lib.hid (by rw [hw2,World.size_alloc,HMc.out.2])
 clear hw2 hb2 hc2 h0
 rw [HMc.out.2]
 go_wp2_with fail
 refine HE1.out.mono ?_
 rintro e u3 ⟨X',rfl,hi,hko,hX⟩
 rw [runE_once,HTW.out]
 have HX1:Hid (∀ j,(j=M\/j=cc+1)->H < j):=Lib.hid (fun j hj=>by have:=HMg.out;have:=HMc.out.1;rcases hj with h | h <;> omega)
 have HB3:Hid (Below w.heap.size w u3):=Lib.hid (HB2.out.trans (hko.below (by rw [<-HH.out];have:=HS2.out;have:=HMg.out;have:=HMc.out.1;omega) (fun j hj=>by rw [<-HH.out];have:=HX1.out j hj;omega)))
 have HM3:Hid (FM u3 M F):=Lib.hid hi.2.1
 have HR3:Hid (RB u3 H #[.int .i64 0,.int .i64 0,.int .i64 0] 42):=Lib.hid ((hko.block H (lt_of_block HR2.out) (fun hx=>by have:=HX1.out _ hx;omega)).trans HR2.out)
 have HC3:Hid (RB u3 cc #[.map (some M)] 99):=Lib.hid ((hko.block cc (by have:=HS2.out;omega) (fun hx=>by have:=HMc.out.1;rcases hx with h | h <;> omega)).trans HC2.out)
 have HS3:Hid (cc+1+1<=u3.heap.size):=Lib.hid (by have:=hko.size;have:=HS2.out;omega)
 clear hi hko hX HE1 HR1 HB1 HM1 HC1 HB2 HR2 HC2 y0
 simp only [fltAt,flV,flZ]
 obtain ⟨Z,hZ⟩:∃ z,z=u3.heap.size+1:=⟨_,rfl⟩
 obtain ⟨W4,hW4⟩:∃ z,z=u3.alloc (.cells #[.int .i64 0,.int .i64 0,.int .i64 0] 42):=⟨_,rfl⟩
 have hb4:Below u3.heap.size u3 W4:=by rw [hW4];exact lit_below u3 _
 have hz4:W4.heap.size=Z:=by rw [hW4,World.size_alloc,hZ]
 obtain ⟨W5,hW5⟩:∃ z,z=W4.alloc (.cells (List.replicate n (.slice none 0 0:Value)).toArray 104):=⟨_,rfl⟩
 have hb5:Below W4.heap.size W4 W5:=by rw [hW5];exact lit_below W4 _
 have hz5:W5.heap.size=Z+1:=by rw [hW5,World.size_alloc,hz4]
 obtain ⟨W6,hW6⟩:∃ z,z=W5.alloc (.cells #[.slice (some ⟨Z,0,none⟩) n n] 40):=⟨_,rfl⟩
 have hb6:Below W5.heap.size W5 W6:=by rw [hW6];exact lit_below W5 _
 have hz6:W6.heap.size=Z+1+1:=by rw [hW6,World.size_alloc,hz5]
 have hb46:=after (after hb4 hb5) hb6
 have hF4:RB W4 u3.heap.size #[.int .i64 0,.int .i64 0,.int .i64 0] 42:=by rw [hW4];exact rb_new u3 _ _
 have hn8:=HN8.out
 have hmk:=make_rows n (by omega) W4
 rw [hz4,<-hW5] at hmk
 have w0:W4.cell? ⟨u3.heap.size,0,none⟩=some (.int .i64 0):=hF4.cell
 have hrz:RB W5 Z (List.replicate n (.slice none 0 0:Value)).toArray 104:=by rw [hW5,<-hz4];exact rb_new W4 _ _
 have hrq:RB W6 (Z+1) #[.slice (some ⟨Z,0,none⟩) n n] 40:=by rw [hW6,<-hz5];exact rb_new W5 _ _
 have hS3:=HS3.out
 have hMc:=HMc.out.1
 have hMg:=HMg.out
 have HB6:=Lib.hid (after HB3.out hb46)
 have HR6:Hid (RB W6 H #[.int .i64 0,.int .i64 0,.int .i64 0] 42):=Lib.hid (HR3.out.next hb46)
 have hIR:IRs H M cc (Z+1) Z (Z+1+1) n F (List.replicate n (.slice none 0 0)) (List.replicate n []) W6:=by
  refine ⟨HM3.out.next hb46,HC3.out.next hb46,hrq,hrz.next hb6,by simp,by simp,?_,?_,by omega,by omega,by omega,by omega,by omega,by omega⟩
  ·intro i v r hv hr
   have e1:v=.slice none 0 0:=List.eq_of_mem_replicate (List.mem_of_getElem? hv)
   have e2:r=[]:=List.eq_of_mem_replicate (List.mem_of_getElem? hr)
   subst e1 e2
   exact World.ownsRow_nil _ _ _ _
  ·intro i j v v' g hv hv' hne hg
   have e1:v=.slice none 0 0:=List.eq_of_mem_replicate (List.mem_of_getElem? hv)
   subst e1
   cases hg
 have HX6:Hid (∀ j,XR M cc (Z+1) Z (List.replicate n (.slice none 0 0)) j->H < j):=Lib.hid (fun j hj=>by
  rcases hj with h | h | h | h | ⟨v,hv,hg⟩
  ·omega
  ·omega
  ·omega
  ·omega
  ·have e1:v=.slice none 0 0:=List.eq_of_mem_replicate hv
   subst e1
   cases hg)
 have hln:=HLn.out
 have hfl:=HFl.out
 have hfs:=HFs.out
 have HE2:=Lib.hid (each_any (IRx H M cc (Z+1) Z (Z+1+1) n F) H (ei_ir _ _ _ _ _ _ _ _) (stepR F) 56 #[.pointer (some ⟨cc,0,none⟩),.pointer (some ⟨Z+1,0,none⟩)] (fun _ _=>by kernel_rfl) a n c Os W6 (by omega) (by rw [HH.out];exact HO.out.below HB6.out) (List.replicate n []) _ ⟨_,rfl,hIR⟩ (fun s X u k j y N hmem hpre hi hN hl=>resolve1_any _ _ _ _ _ _ _ _ _ _ k j y N u hi hN hl (by
  obtain ⟨o,ho,-⟩:=flat_mem hmem
  have:=(List.getElem?_eq_some_iff.1 ho).1
  simp only at this
  omega) (by omega) (by
  obtain ⟨rest,pre,h1,h2⟩:=hpre
  have h3:=rows_small pre _ _ 0 (fun r hr=>by rw [List.eq_of_mem_replicate hr];exact Nat.le_refl _) h2
  intro r hr
  have h4:=h3 r hr
  have h5:=congrArg List.length h1
  rw [<-hfl] at h5
  simp only [List.length_append,List.length_cons] at h5
  omega)))
 rw [<-hfl] at HE2
 have HWE:Hid ((u3.alloc (.cells #[.int .i64 0,.int .i64 0,.int .i64 0] 42))=W4):=Lib.hid hW4.symm
 have HWF:Hid (W5.alloc (.cells #[.slice (some ⟨Z,0,none⟩) n n] 40)=W6):=Lib.hid hW6.symm
 have HZ:Hid (u3.heap.size+1=Z):=Lib.hid hZ.symm
 have HZ5:Hid (W5.heap.size=Z+1):=Lib.hid hz5
 have HZ6:Hid (W6.heap.size=Z+1+1):=Lib.hid hz6
 have HZg:Hid (H < Z):=Lib.hid (by omega)
 rw [hW4] at w0 hmk
 clear hW4 hb4 hz4 hW5 hb5 hz5 hW6 hb6 hz6 hb46 hF4 hrz hrq hS3 hMc hMg hIR hZ hln hfl hfs hn8
 go_wp2_with fail
 clear hmk w0
 rw [HZ5.out,HWF.out,<-HCC.out]
 refine HE2.out.mono ?_
 rintro e u7 ⟨X',rfl,hi,hko,hX⟩
 rw [runE_lost,HLO.out]
 have HB7:Hid (Below w.heap.size w u7):=Lib.hid (HB6.out.trans (hko.below (by rw [<-HH.out];have:=HZ6.out;have:=HZg.out;omega) (fun j hj=>by rw [<-HH.out];have:=HX6.out j hj;omega)))
 have HR7:Hid (RB u7 H #[.int .i64 0,.int .i64 0,.int .i64 0] 42):=Lib.hid ((hko.block H (lt_of_block HR6.out) (fun hx=>by have:=HX6.out _ hx;omega)).trans HR6.out)
 have hrr:=runE_rows0 F (Os.map (·.l)) (by rw [<-HFl.out];exact HLO.out)
 rw [List.length_map,<-HLn.out,<-HFl.out] at hrr
 rw [hrr] at hi
 obtain ⟨vs',-,hIR⟩:=hi
 have HIR:=Lib.hid hIR
 simp only [fltAt,flV,flZ]
 clear hko hX HE2 hIR hrr
 obtain ⟨W8,hW8⟩:∃ z,z=u7.alloc (.cells #[.int .i64 0,.int .i64 0,.int .i64 0] 42):=⟨_,rfl⟩
 have hb8:Below u7.heap.size u7 W8:=by rw [hW8];exact lit_below u7 _
 have HR8:Hid (RB W8 H #[.int .i64 0,.int .i64 0,.int .i64 0] 42):=Lib.hid (HR7.out.next hb8)
 have HB8:=Lib.hid (after HB7.out hb8)
 have HI8:=Lib.hid (HIR.out.next hb8)
 have x0:W8.cell? ⟨H,0,none⟩=some (.int .i64 0):=HR8.out.cell
 have f0:W8.frozen? ⟨H,0,none⟩=false:=HR8.out.frozen
 have x1:W8.cell? ⟨H,1,none⟩=some (.int .i64 0):=HR8.out.cell
 have f1:W8.frozen? ⟨H,1,none⟩=false:=HR8.out.frozen
 have x2:W8.cell? ⟨H,2,none⟩=some (.int .i64 0):=HR8.out.cell
 have f2:W8.frozen? ⟨H,2,none⟩=false:=HR8.out.frozen
 have HW8:Hid (u7.alloc (.cells #[.int .i64 0,.int .i64 0,.int .i64 0] 42)=W8):=Lib.hid hW8.symm
 have hZ8:RB W8 u7.heap.size #[.int .i64 0,.int .i64 0,.int .i64 0] 42:=by rw [hW8];exact rb_new u7 _ _
 have z0:W8.cell? ⟨u7.heap.size,0,none⟩=some (.int .i64 0):=hZ8.cell
 have zq:W8.cell? ⟨Z+1,0,none⟩=some (.slice (some ⟨Z,0,none⟩) n n):=HI8.out.rq.cell
 have HR9:=Lib.hid (((HR8.out.set (j:=0) (.int .i64 0)).set (j:=1) (.int .i64 0)).set (j:=2) (.int .i64 0))
 clear hb8 hZ8
 rw [hW8] at z0 zq x0 x1 x2 f0 f1 f2
 clear hW8
 go_wp2
 rw [HW8.out]
 refine bodyPost_ret (results_two_cell (P:=Tryz.prog) rfl _ _ H 42 _ (0,0) _ (.slice (some ⟨Z,0,none⟩) n n) rfl HR9.out Tryz.underlying42 rfl (by kernel_rfl) rfl) rfl ?_
 have hfin:IRs H M cc (Z+1) Z (Z+1+1) n F vs' (rowsA F 0 (Os.map (·.l))) (((W8.setCell ⟨H,0,none⟩ (.int .i64 0)).setCell ⟨H,1,none⟩ (.int .i64 0)).setCell ⟨H,2,none⟩ (.int .i64 0)):=HI8.out.same (by simp [World.setCell]) (fun j hj=>set3_heap _ _ _ _ _ _ (fun e=>by
  have hlt:=(ei_ir H M cc (Z+1) Z (Z+1+1) n F).lt _ _ _ j ⟨vs',rfl,HI8.out⟩ hj
  have hZg:=HZg.out
  have hMg:=HMg.out
  have hMc:=HMc.out.1
  rcases hj with h | h | h | h | ⟨v,hv,hg⟩
  ·omega
  ·omega
  ·omega
  ·omega
  ·have:=(HI8.out.own hv hg).1
   omega))
 obtain ⟨rs,h1,h2⟩:=hfin.rows
 exact .inr ⟨HFA.out,Z,rs,rfl,h1,by rw [h2,HRo.out],below_set3 HB8.out (by rw [HH.out];exact Nat.le_refl _) _ _ _⟩
theorem resolve_any (a:Option Addr) (n c:Nat) (Os:List Ox) (w:World) (hO:OS w w.heap.size a n Os) (hT:TabP w):
  Calls Tryz.prog 19 #[.slice a n c] w (ResP (Os.map obOf) n w):=by
 by_cases hck:checkL (Os.map obOf)=0
 ·cases htw:(flatO (Os.map obOf)).find? (twiceB (plcL (flatO (Os.map obOf)))) with
  | some x=>exact res_tw a n c Os w hO hT hck x htw
  | none=>
   cases hlo:(flatO (Os.map obOf)).find? (lostB (plcL (flatO (Os.map obOf)))) with
   | some x=>exact res_lo a n c Os w hO hT hck x htw hlo
   | none=>exact res_ok a n c Os w hO hT hck htw hlo
 ·exact res_ck a n c Os w hO hT hck
end Go.Proofs.YthkolmebokfagaaGreatDoor
