/- what both Refs, and both Lost, of shrink and of its reference tell. shrink's law: ShrinkTells. -/
import Derived.Test.YtbabckomagkjbaaGreatDoort1
import Derived.Test.YtbabckomagkjbaaGreatDoors1
set_option maxRecDepth 100000
set_option maxHeartbeats 8000000
set_option linter.unusedVariables false
set_option linter.unusedSimpArgs false
namespace Go.Proofs.YtbabckomagkjbaaGreatDoor
open Go.ChangeShapes Go.WideShapes Go.Deep Go.RowKit
def RO (l:List Rl) (er:Int) (w:World) (e:Ending) (w':World):Prop:=∃ a c,e=.returned (.tuple #[.slice a l.length c,.int .i64 er])/\RRf w w' l a c
def RF (l:List Rl) (er:Int) (w:World) (e:Ending) (w':World):Prop:=∃ a c,e=.returned (.tuple #[.slice a l.length c,.int .i64 er])/\SL rlC 4 w' w'.heap.size a l.length l/\Below w.heap.size w w'
def LF (l:List ByteArray) (er:Int) (w:World) (e:Ending) (w':World):Prop:=∃ a c,e=.returned (.tuple #[.slice a l.length c,.int .i64 er])/\SL enS 1 w' w'.heap.size a l.length l/\Below w.heap.size w w'
structure Ov (n:Nat) (L:List Ms) (rn ln an:Nat) (rep live align:List Int) (oa a1 a2 a3:Option Addr) (v:World):Prop where
 us:SL msC 6 v v.heap.size oa n L
 no:Notes v v.heap.size L
 r1:SL enZ 1 v v.heap.size a1 rn rep
 r2:SL enZ 1 v v.heap.size a2 ln live
 r3:SL enZ 1 v v.heap.size a3 an align
theorem Ov.next {n:Nat} {L:List Ms} {rn ln an:Nat} {rep live align:List Int} {oa a1 a2 a3:Option Addr} {v u:World} (h:Ov n L rn ln an rep live align oa a1 a2 a3 v) (hb:Below v.heap.size v u):Ov n L rn ln an rep live align oa a1 a2 a3 u:=
 ⟨h.us.next hb,h.no.next hb,h.r1.next hb,h.r2.next hb,h.r3.next hb⟩
theorem refs_len {S:List Sc} {rep live align:List Int} (h:IsQ S rep live align) (k:Nat):(refsK S rep k).length<=64:=by
 unfold refsK
 cases hS:S[k]? with
 | none=>simp
 | some s=>simp only [];rw [List.length_map];exact (units_sec h.1 hS).1.rels
theorem live_nat {S:List Sc} {rep live align:List Int} (h:IsQ S rep live align) {e0:Int} (hm:e0 ∈ live):∃ k:Nat,e0=(k:Int):=by
 obtain ⟨k,hkn,hke⟩:∃ k,k ∈ standL S rep/\Int.ofNat k=e0:=List.mem_map.1 (by rw [<-h.2.2.2.1];exact hm)
 exact ⟨k,hke.symm⟩
theorem is_len {S:List Sc} {rep live align:List Int} (h:IsQ S rep live align):rep.length=S.length:=h.2.1.1
theorem ref_refs (S:List Sc) (v:World) (oa:Option Addr) (n oc:Nat) (Lo:List Ms) (rn ln an:Nat) (rep live align:List Int) (a1:Option Addr) (c1:Nat) (a2:Option Addr) (c2:Nat) (a3:Option Addr) (c3:Nat) (hS:Lo.map (·.sc)=S) (hn:n<=maxLen) (hln:ln<=maxLen)
  (h:Ov n Lo rn ln an rep live align oa a1 a2 a3 v) (hIs:∀ u,Below v.heap.size v u->Calls Tryz.prog 40 #[.slice oa n oc,.agg (kpV a1 rn c1 a2 ln c2 a3 an c3)] u (IffP (IsQ S rep live align) u)) (e0:Int):
  (∀ k:Nat,e0=k->IsQ S rep live align->e0 ∈ live->Calls Tryz.prog 34 #[.slice oa n oc,.agg (kpV a1 rn c1 a2 ln c2 a3 an c3),.int .i64 e0] v (RF (refsK S rep k) 0 v))/\
  (¬ (IsQ S rep live align/\e0 ∈ live)->Calls Tryz.prog 34 #[.slice oa n oc,.agg (kpV a1 rn c1 a2 ln c2 a3 an c3),.int .i64 e0] v (RF [] 1 v)):=by
 subst hS
 have hno:(Lo.map (·.sc)).length=n:=by rw [List.length_map];exact h.us.len.symm
 refine ⟨fun k hk hq hm=>?_,fun hno=>?_⟩
 ·subst hk
  obtain rfl:rn=n:=by rw [h.r1.len,is_len hq,hno]
  exact (rRefs_yes v oa rn oc Lo a1 c1 rep a2 ln c2 live a3 an c3 align k h.us h.no h.r1 h.r2 hln hIs hq hm).mono fun e w' ⟨a,c,he,h1,h2⟩=>⟨a,c,he,h1,h2⟩
 ·exact (rRefs_no v oa n oc Lo a1 rn c1 rep a2 ln c2 live a3 an c3 align e0 hn h.us h.r1 hIs hno).mono fun e w' h=>⟨none,0,h.1,SL.nil _ _ _,h.2⟩
theorem ref_lost (S:List Sc) (v:World) (oa:Option Addr) (n oc:Nat) (Lo:List Ms) (rn ln an:Nat) (rep live align:List Int) (a1:Option Addr) (c1:Nat) (a2:Option Addr) (c2:Nat) (a3:Option Addr) (c3:Nat) (hS:Lo.map (·.sc)=S)
  (h:Ov n Lo rn ln an rep live align oa a1 a2 a3 v) (hIs:∀ u,Below v.heap.size v u->Calls Tryz.prog 40 #[.slice oa n oc,.agg (kpV a1 rn c1 a2 ln c2 a3 an c3)] u (IffP (IsQ S rep live align) u)):
  (IsQ S rep live align->Calls Tryz.prog 36 #[.slice oa n oc,.agg (kpV a1 rn c1 a2 ln c2 a3 an c3)] v (LF (lostK S rep n) 0 v))/\
  (¬ IsQ S rep live align->Calls Tryz.prog 36 #[.slice oa n oc,.agg (kpV a1 rn c1 a2 ln c2 a3 an c3)] v (LF [] 1 v)):=by
 subst hS
 have hno:(Lo.map (·.sc)).length=n:=by rw [List.length_map];exact h.us.len.symm
 refine ⟨fun hq=>?_,fun hno=>?_⟩
 ·obtain rfl:rn=n:=by rw [h.r1.len,is_len hq,hno]
  exact rLost_yes v oa rn oc Lo a1 c1 rep a2 ln c2 live a3 an c3 align h.us h.r1 hIs hq
 ·exact (rLost_no v oa n oc a1 rn c1 a2 ln c2 a3 an c3 _ hIs hno).mono fun e w' h=>⟨none,0,h.1,SL.nil _ _ _,h.2⟩
theorem own_refs (S:List Sc) (u:World) (ua:Option Addr) (n uc:Nat) (L:List Ms) (rn ln an:Nat) (rep live align:List Int) (ra:Option Addr) (rc:Nat) (la:Option Addr) (lc:Nat) (aa:Option Addr) (ac:Nat) (hS:L.map (·.sc)=S) (hln:ln<=maxLen)
  (h:Ov n L rn ln an rep live align ua ra la aa u) (hIs:∀ v,Below u.heap.size u v->Calls Tryz.prog 39 #[.slice ua n uc,.agg (kpV ra rn rc la ln lc aa an ac)] v (IffP (IsQ S rep live align) v)) (e0:Int):
  (∀ k:Nat,e0=k->IsQ S rep live align->e0 ∈ live->Calls Tryz.prog 33 #[.slice ua n uc,.agg (kpV ra rn rc la ln lc aa an ac),.int .i64 e0] u (RO (refsK S rep k) 0 u))/\
  (¬ (IsQ S rep live align/\e0 ∈ live)->Calls Tryz.prog 33 #[.slice ua n uc,.agg (kpV ra rn rc la ln lc aa an ac),.int .i64 e0] u (RO [] 1 u)):=by
 subst hS
 have hno:(L.map (·.sc)).length=n:=by rw [List.length_map];exact h.us.len.symm
 refine ⟨fun k hk hq hm=>?_,fun hno=>?_⟩
 ·subst hk
  obtain rfl:rn=n:=by rw [h.r1.len,is_len hq,hno]
  exact (refs_own u ua rn uc L ra rc rep la ln lc live aa an ac align k h.us h.no h.r1 h.r2 hln hIs hq hm).mono fun e w' ⟨a,c,he,h⟩=>⟨a,c,he,h⟩
 ·exact (refs_no u ua n uc #[] (fun _=>True) ra rn rc la ln lc aa an ac e0 live _ h.r2 hln hIs hno).mono fun e w' h=>⟨none,0,h.1,World.ownsRow_nil _ _ _ _,h.2⟩
theorem own_lost (S:List Sc) (u:World) (ua:Option Addr) (n uc:Nat) (L:List Ms) (rn ln an:Nat) (rep live align:List Int) (ra:Option Addr) (rc:Nat) (la:Option Addr) (lc:Nat) (aa:Option Addr) (ac:Nat) (hS:L.map (·.sc)=S)
  (h:Ov n L rn ln an rep live align ua ra la aa u) (hIs:∀ v,Below u.heap.size u v->Calls Tryz.prog 39 #[.slice ua n uc,.agg (kpV ra rn rc la ln lc aa an ac)] v (IffP (IsQ S rep live align) v)):
  (IsQ S rep live align->Calls Tryz.prog 35 #[.slice ua n uc,.agg (kpV ra rn rc la ln lc aa an ac)] u (LF (lostK S rep n) 0 u))/\
  (¬ IsQ S rep live align->Calls Tryz.prog 35 #[.slice ua n uc,.agg (kpV ra rn rc la ln lc aa an ac)] u (LF [] 1 u)):=by
 subst hS
 have hno:(L.map (·.sc)).length=n:=by rw [List.length_map];exact h.us.len.symm
 refine ⟨fun hq=>?_,fun hno=>?_⟩
 ·obtain rfl:rn=n:=by rw [h.r1.len,is_len hq,hno]
  exact lost_yes u ua rn uc L ra rc rep la ln lc live aa an ac align h.us h.r1 hIs hq
 ·exact (lost_no u ua n uc ra rn rc la ln lc aa an ac _ hIs hno).mono fun e w' h=>⟨none,0,h.1,SL.nil _ _ _,h.2⟩
theorem two_refs (S:List Sc) (n:Nat) (ua:Option Addr) (uc:Nat) (L:List Ms) (oa:Option Addr) (oc:Nat) (Lo:List Ms) (rn ln an:Nat) (rep live align:List Int) (ra:Option Addr) (rc:Nat) (la:Option Addr) (lc:Nat) (aa:Option Addr) (ac:Nat) (a1:Option Addr) (c1:Nat) (a2:Option Addr) (c2:Nat) (a3:Option Addr) (c3:Nat)
  (hS:L.map (·.sc)=S) (hSo:Lo.map (·.sc)=S) (hn:n<=maxLen) (hln:ln<=maxLen) (u v0:World) (h:Ov n L rn ln an rep live align ua ra la aa u) (ho:Ov n Lo rn ln an rep live align oa a1 a2 a3 v0)
  (hIs:∀ v,Below u.heap.size u v->Calls Tryz.prog 39 #[.slice ua n uc,.agg (kpV ra rn rc la ln lc aa an ac)] v (IffP (IsQ S rep live align) v))
  (hIr:∀ v,Below v0.heap.size v0 v->Calls Tryz.prog 40 #[.slice oa n oc,.agg (kpV a1 rn c1 a2 ln c2 a3 an c3)] v (IffP (IsQ S rep live align) v)) (e0:Int):
  ∃ l er,l.length<=64/\Calls Tryz.prog 33 #[.slice ua n uc,.agg (kpV ra rn rc la ln lc aa an ac),.int .i64 e0] u (RO l er u)/\∀ v,Below v0.heap.size v0 v->Calls Tryz.prog 34 #[.slice oa n oc,.agg (kpV a1 rn c1 a2 ln c2 a3 an c3),.int .i64 e0] v (RF l er v):=by
 by_cases hok:IsQ S rep live align/\e0 ∈ live
 ·obtain ⟨k,hk⟩:=live_nat hok.1 hok.2
  exact ⟨_,_,refs_len hok.1 k,(own_refs S u ua n uc L rn ln an rep live align ra rc la lc aa ac hS hln h hIs e0).1 k hk hok.1 hok.2,fun v hv=>(ref_refs S v oa n oc Lo rn ln an rep live align a1 c1 a2 c2 a3 c3 hSo hn hln (ho.next hv) (fun v' hv'=>hIr v' (after hv hv')) e0).1 k hk hok.1 hok.2⟩
 ·exact ⟨[],1,by simp,(own_refs S u ua n uc L rn ln an rep live align ra rc la lc aa ac hS hln h hIs e0).2 hok,fun v hv=>(ref_refs S v oa n oc Lo rn ln an rep live align a1 c1 a2 c2 a3 c3 hSo hn hln (ho.next hv) (fun v' hv'=>hIr v' (after hv hv')) e0).2 hok⟩
theorem two_lost (S:List Sc) (n:Nat) (ua:Option Addr) (uc:Nat) (L:List Ms) (oa:Option Addr) (oc:Nat) (Lo:List Ms) (rn ln an:Nat) (rep live align:List Int) (ra:Option Addr) (rc:Nat) (la:Option Addr) (lc:Nat) (aa:Option Addr) (ac:Nat) (a1:Option Addr) (c1:Nat) (a2:Option Addr) (c2:Nat) (a3:Option Addr) (c3:Nat)
  (hS:L.map (·.sc)=S) (hSo:Lo.map (·.sc)=S) (hn:n<=300) (u v0:World) (h:Ov n L rn ln an rep live align ua ra la aa u) (ho:Ov n Lo rn ln an rep live align oa a1 a2 a3 v0)
  (hIs:∀ v,Below u.heap.size u v->Calls Tryz.prog 39 #[.slice ua n uc,.agg (kpV ra rn rc la ln lc aa an ac)] v (IffP (IsQ S rep live align) v))
  (hIr:∀ v,Below v0.heap.size v0 v->Calls Tryz.prog 40 #[.slice oa n oc,.agg (kpV a1 rn c1 a2 ln c2 a3 an c3)] v (IffP (IsQ S rep live align) v)):
  ∃ l er,l.length<=300/\(∀ u',Below u.heap.size u u'->Calls Tryz.prog 35 #[.slice ua n uc,.agg (kpV ra rn rc la ln lc aa an ac)] u' (LF l er u'))/\∀ v,Below v0.heap.size v0 v->Calls Tryz.prog 36 #[.slice oa n oc,.agg (kpV a1 rn c1 a2 ln c2 a3 an c3)] v (LF l er v):=by
 by_cases hok:IsQ S rep live align
 ·exact ⟨_,_,by have:=lostK_len S rep n;omega,fun u' hu'=>(own_lost S u' ua n uc L rn ln an rep live align ra rc la lc aa ac hS (h.next hu') (fun v' hv'=>hIs v' (after hu' hv'))).1 hok,fun v hv=>(ref_lost S v oa n oc Lo rn ln an rep live align a1 c1 a2 c2 a3 c3 hSo (ho.next hv) (fun v' hv'=>hIr v' (after hv hv'))).1 hok⟩
 ·exact ⟨[],1,by simp,fun u' hu'=>(own_lost S u' ua n uc L rn ln an rep live align ra rc la lc aa ac hS (h.next hu') (fun v' hv'=>hIs v' (after hu' hv'))).2 hok,fun v hv=>(ref_lost S v oa n oc Lo rn ln an rep live align a1 c1 a2 c2 a3 c3 hSo (ho.next hv) (fun v' hv'=>hIr v' (after hv hv'))).2 hok⟩
theorem good_own {un:Nat} {L Lo:List Ms} (hg:∀ m ∈ L,GoodSc m.sc) (hb:∀ m ∈ L,m.sc.rels.length*32<=reachBytes) (h:Lo.map (·.sc)=L.map (·.sc)) (hf:FewU un L):(∀ m ∈ Lo,GoodSc m.sc)/\(∀ m ∈ Lo,m.sc.rels.length*32<=reachBytes)/\FewU un Lo:=by
 have key:∀ m ∈ Lo,∃ x ∈ L,x.sc=m.sc:=fun m hm=>by
  have:m.sc ∈ L.map (·.sc):=by rw [<-h];exact List.mem_map.2 ⟨m,hm,rfl⟩
  obtain ⟨x,hx,e⟩:=List.mem_map.1 this
  exact ⟨x,hx,e⟩
 refine ⟨fun m hm=>?_,fun m hm=>?_,hf.1,hf.2.imp id (fun h=>⟨h.1,fun m hm=>?_⟩)⟩
 ·obtain ⟨x,hx,e⟩:=key m hm;rw [<-e];exact hg x hx
 ·obtain ⟨x,hx,e⟩:=key m hm;rw [<-e];exact hb x hx
 ·obtain ⟨x,hx,e⟩:=key m hm;rw [<-e];exact h.2 x hx
end Go.Proofs.YtbabckomagkjbaaGreatDoor
namespace Go.Proofs.YtbabckomagkjbaaGreatDoor
open Go.ChangeShapes Go.WideShapes Go.Deep Go.RowKit
theorem ShrinkTells_walk (w:World) (ua:Option Addr) (un uc:Nat) (L:List Ms) (hun:un<=maxLen) (hs:SL msC 6 w w.heap.size ua un L) (hno:Notes w w.heap.size L) (hg:∀ m ∈ L,GoodSc m.sc) (hb:∀ m ∈ L,m.sc.rels.length*32<=reachBytes) (hz:∀ m ∈ L,m.ad=none->m.sc.rels.length=0/\m.cap=0)
  (ra:Option Addr) (rn rc:Nat) (la:Option Addr) (ln lc:Nat) (aa:Option Addr) (an ac:Nat) (rep live align:List Int) (hk:rn<=maxLen/\ln<=maxLen/\an<=maxLen) (hr:SL enZ 1 w w.heap.size ra rn rep) (hl:SL enZ 1 w w.heap.size la ln live) (ha:SL enZ 1 w w.heap.size aa an align) (zr:ra=none->rn=0/\rc=0) (zl:la=none->ln=0/\lc=0) (za:aa=none->an=0/\ac=0)
  (e0:Int) (he : -9223372036854775808<=e0/\e0<=9223372036854775807) (hT:TabP w):
  Calls Tryz.prog 6 #[.slice ua un uc,.agg (kpV ra rn rc la ln lc aa an ac),.int .i64 e0] w (RetB (.bool true) w):=by
 have HBg:Hid (∀ u,Below w.heap.size w u->Calls Tryz.prog 31 #[.slice ua un uc,.agg (kpV ra rn rc la ln lc aa an ac)] u (BigK un rn ln an L u)):=Lib.hid fun u hu=>rBigK_any u ua un uc L ra rn rc la ln lc aa an ac hun (hs.next hu) (hno.next hu) hb hk.1 hk.2.1 hk.2.2
 have HSk:Hid (∀ u,Below w.heap.size w u->Calls Tryz.prog 29 #[] u (RetB (.bool true) u)):=Lib.hid fun u hu=>shrunk_is u (hT.next hu)
 have HOw:Hid (∀ u,un<=300->Below w.heap.size w u->Calls Tryz.prog 9 #[.slice ua un uc] u (OwnP un (L.map (·.sc)) u)):=Lib.hid fun u h3 hu=>rOwn_any ua un uc L u h3 (hs.next hu) (hno.next hu) hb hz
 have HOk:Hid (∀ u,(rn<=300/\ln<=300/\an<=300)->Below w.heap.size w u->Calls Tryz.prog 32 #[.agg (kpV ra rn rc la ln lc aa an ac)] u (OwnK rn ln an rep live align u)):=Lib.hid fun u h3 hu=>rOwnK_any u ra rn rc la ln lc aa an ac rep live align (hr.next hu) (hl.next hu) (ha.next hu) zr zl za h3.1 h3.2.1 h3.2.2
 have HIs:Hid (∀ u,Below w.heap.size w u->Calls Tryz.prog 39 #[.slice ua un uc,.agg (kpV ra rn rc la ln lc aa an ac)] u (IffP (IsQ (L.map (·.sc)) rep live align) u)):=Lib.hid fun u hu=>shrIs_any u ua un uc L ra rn rc rep la ln lc live aa an ac align hun (hs.next hu) (hno.next hu) hg hb (hr.next hu) (hl.next hu) (ha.next hu) hk.1 hk.2.1 hk.2.2 (hT.next hu)
 have HOw2:Hid (∀ (Lo:List Ms),Lo.map (·.sc)=L.map (·.sc)->FewU un L->(∀ m ∈ Lo,GoodSc m.sc)/\(∀ m ∈ Lo,m.sc.rels.length*32<=reachBytes)/\FewU un Lo):=Lib.hid (fun Lo h hf=>good_own hg hb h hf)
 have HOv:Hid (∀ u,Below w.heap.size w u->Ov un L rn ln an rep live align ua ra la aa u):=Lib.hid fun u hu=>⟨hs.next hu,hno.next hu,hr.next hu,hl.next hu,ha.next hu⟩
 have HBd:=Lib.hid hb
 have HMx:=Lib.hid hun
 have HMk:=Lib.hid hk
 obtain ⟨K,hK⟩:∃ x,x=w.heap.size:=⟨_,rfl⟩
 obtain ⟨W1,hW1⟩:∃ x,x=w.alloc (.cells (kpV ra rn rc la ln lc aa an ac) 46):=⟨_,rfl⟩
 have hb1:Below w.heap.size w W1:=by rw [hW1];exact lit_below w _
 have HK0:Hid (RB W1 K (kpV ra rn rc la ln lc aa an ac) 46):=Lib.hid (by rw [hW1,hK];exact rb_new w _ _)
 have HB:Hid (Below w.heap.size w W1):=Lib.hid hb1
 have HWE:Hid (w.alloc (.cells (kpV ra rn rc la ln lc aa an ac) 46)=W1):=Lib.hid hW1.symm
 have HKe:=Lib.hid hK
 clear hs hno hg hb hz he hT hun hk hr hl ha zr zl za hK hW1 hb1
 go_enter Tryz.func6,Tryz.ntmps6
 go_wp2_with fail
 have hwe:=HWE.out
 simp only [kpV] at hwe
 rw [hwe]
 (try rw [<-HKe.out])
 clear hwe HWE
 refine (HBg.out _ HB.out).mono ?_
 rintro e u ⟨r,rfl,hr,hb⟩
 replace HB:=Lib.hid (after HB.out hb)
 replace HK0:=Lib.hid (HK0.out.next hb)
 have HFw:=Lib.hid hr
 clear hb hr
 cases r
 rotate_left
 ·go_wp2
  go_ret
  exact ⟨rfl,HB.out⟩
 replace HFw:=Lib.hid (HFw.out rfl)
 go_wp2_with fail
 refine (HOw.out _ HFw.out.1.1 HB.out).mono ?_
 rintro e u1 ⟨oa,oc,Lo,rfl,hon,hvi,hsc⟩
 replace HB:=Lib.hid (after HB.out hvi.kk)
 replace HK0:=Lib.hid (HK0.out.next hvi.kk)
 have HSc:=Lib.hid hsc
 have HVs:Hid (∀ v,Below u1.heap.size u1 v->SL msC 6 v v.heap.size oa un Lo/\Notes v v.heap.size Lo):=Lib.hid (fun v hv=>by
  have h:=hvi.next hv
  exact ⟨by have:=h.sl;rwa [<-hon] at this,h.notes⟩)
 have x0:u1.cell? ⟨K,0,none⟩=some (.slice ra rn rc):=HK0.out.cell
 have x1:u1.cell? ⟨K,1,none⟩=some (.slice la ln lc):=HK0.out.cell
 have x2:u1.cell? ⟨K,2,none⟩=some (.slice aa an ac):=HK0.out.cell
 clear hon hvi hsc HOw HBg
 go_wp2_with fail
 refine (HOk.out _ HFw.out.2 HB.out).mono ?_
 rintro e u2 ⟨a1,c1,a2,c2,a3,c3,rfl,h1,h2,h3,hb⟩
 obtain ⟨M,hM⟩:∃ x,x=u2.heap.size:=⟨_,rfl⟩
 obtain ⟨V,hV⟩:∃ x,x=u2.alloc (.cells (kpV a1 rn c1 a2 ln c2 a3 an c3) 46):=⟨_,rfl⟩
 have hbV:Below u2.heap.size u2 V:=by rw [hV];exact lit_below _ _
 have hab:=after hb hbV
 have HM:Hid (RB V M (kpV a1 rn c1 a2 ln c2 a3 an c3) 46):=Lib.hid (by rw [hV,hM];exact rb_new _ _ _)
 have HVE:Hid (u2.alloc (.cells (kpV a1 rn c1 a2 ln c2 a3 an c3) 46)=V):=Lib.hid hV.symm
 have HMe:=Lib.hid hM
 replace HB:=Lib.hid (after HB.out hab)
 replace HK0:=Lib.hid (HK0.out.next hab)
 have HOo:Hid (Ov un Lo rn ln an rep live align oa a1 a2 a3 V):=Lib.hid ⟨(HVs.out _ hab).1,(HVs.out _ hab).2,h1.next hbV,h2.next hbV,h3.next hbV⟩
 have HOu:Hid (Ov un L rn ln an rep live align ua ra la aa V):=Lib.hid (HOv.out _ HB.out)
 have hq:=HOw2.out Lo HSc.out HFw.out.1
 have HIu:Hid (∀ v,Below V.heap.size V v->Calls Tryz.prog 39 #[.slice ua un uc,.agg (kpV ra rn rc la ln lc aa an ac)] v (IffP (IsQ (L.map (·.sc)) rep live align) v)):=Lib.hid fun v hv=>HIs.out v (after HB.out hv)
 have HIo:Hid (∀ v,Below V.heap.size V v->Calls Tryz.prog 40 #[.slice oa un oc,.agg (kpV a1 rn c1 a2 ln c2 a3 an c3)] v (IffP (IsQ (L.map (·.sc)) rep live align) v)):=Lib.hid fun v hv=>by
  have q:=HOo.out.next hv
  have h3:=HFw.out.2
  have:=rShrIs_any v oa un oc Lo a1 rn c1 rep a2 ln c2 live a3 an c3 align HMx.out q.us q.no hq.1 hq.2.1 q.r1 q.r2 q.r3 (by omega) (by omega) (by omega) hq.2.2
  rw [HSc.out] at this
  exact this
 obtain ⟨l,er,hl64,hRu,hRo⟩:=two_refs (L.map (·.sc)) un ua uc L oa oc Lo rn ln an rep live align ra rc la lc aa ac a1 c1 a2 c2 a3 c3 rfl HSc.out HMx.out HMk.out.2.1 V V HOu.out HOo.out HIu.out HIo.out e0
 obtain ⟨ll,el,hl3,hLu,hLo⟩:=two_lost (L.map (·.sc)) un ua uc L oa oc Lo rn ln an rep live align ra rc la lc aa ac a1 c1 a2 c2 a3 c3 rfl HSc.out HFw.out.1.1 V V HOu.out HOo.out HIu.out HIo.out
 have HRu:=Lib.hid hRu
 have HRo:=Lib.hid hRo
 have HLu:=Lib.hid hLu
 have HLo:=Lib.hid hLo
 obtain ⟨n,hn⟩:∃ x,x=l.length:=⟨_,rfl⟩
 obtain ⟨nl,hnl⟩:∃ x,x=ll.length:=⟨_,rfl⟩
 have HN:=Lib.hid hn
 have HNl:=Lib.hid hnl
 have hn64:n<=64:=by omega
 have hni:(n:Int)<=64:=by omega
 have HL3:Hid (nl<=300):=Lib.hid (by omega)
 have HcX:Hid (∀ v,Below V.heap.size V v->v.cell? ⟨K,0,none⟩=some (.slice ra rn rc)/\v.cell? ⟨K,1,none⟩=some (.slice la ln lc)/\v.cell? ⟨K,2,none⟩=some (.slice aa an ac)/\v.cell? ⟨M,0,none⟩=some (.slice a1 rn c1)/\v.cell? ⟨M,1,none⟩=some (.slice a2 ln c2)/\v.cell? ⟨M,2,none⟩=some (.slice a3 an c3)):=Lib.hid fun v hv=>⟨(HK0.out.next hv).cell,(HK0.out.next hv).cell,(HK0.out.next hv).cell,(HM.out.next hv).cell,(HM.out.next hv).cell,(HM.out.next hv).cell⟩
 clear hV hM hbV h1 h2 h3 hb hab hq hRu hRo hLu hLo hn hnl hl64 hl3 x0 x1 x2 HIs HOw2 HOk HVs
 obtain ⟨x0,x1,x2,y0,y1,y2⟩:=HcX.out V (Below.refl _ _)
 have hve:=HVE.out
 simp only [kpV] at hve
 rw [<-hve] at x0 x1 x2
 have HVe:=Lib.hid hve
 clear hve HVE y0 y1 y2
 go_wp2_with fail
 rw [HVe.out]
 (try rw [<-HMe.out])
 clear HVe
 refine HRu.out.mono ?_
 rintro e v1 ⟨pa,pc,rfl,hrr⟩
 rw [<-HN.out]
 have HRR:=Lib.hid hrr
 have HB1:=Lib.hid hrr.kk
 clear hrr x0 x1 x2
 obtain ⟨x0,x1,x2,y0,y1,y2⟩:=HcX.out v1 HB1.out
 go_wp2_with fail
 refine (HRo.out _ HB1.out).mono ?_
 rintro e v2 ⟨pb,cb,rfl,hsl,hb⟩
 rw [<-HN.out]
 rw [<-HN.out] at hsl
 have HSb:=Lib.hid hsl
 replace HRR:=Lib.hid (HRR.out.next hb)
 have HB2:=Lib.hid (after HB1.out hb)
 clear hsl hb x0 x1 x2 y0 y1 y2 HB1
 obtain ⟨x0,x1,x2,y0,y1,y2⟩:=HcX.out v2 HB2.out
 go_wp2_with fail
 refine (HLu.out _ HB2.out).mono ?_
 rintro e v3 ⟨pd,cd,rfl,hsl,hb⟩
 rw [<-HNl.out]
 rw [<-HNl.out] at hsl
 have HSc1:=Lib.hid hsl
 replace HRR:=Lib.hid (HRR.out.next hb)
 replace HSb:=Lib.hid (HSb.out.next hb)
 have HB3:=Lib.hid (after HB2.out hb)
 clear hsl hb x0 x1 x2 y0 y1 y2 HB2
 obtain ⟨x0,x1,x2,y0,y1,y2⟩:=HcX.out v3 HB3.out
 go_wp2_with fail
 refine (HLo.out _ HB3.out).mono ?_
 rintro e v4 ⟨pe,ce,rfl,hsl,hb⟩
 rw [<-HNl.out]
 rw [<-HNl.out] at hsl
 have HSd:=Lib.hid hsl
 replace HRR:=Lib.hid (HRR.out.next hb)
 replace HSb:=Lib.hid (HSb.out.next hb)
 replace HSc1:=Lib.hid (HSc1.out.next hb)
 have HB4:=Lib.hid (after HB3.out hb)
 clear hsl hb x0 x1 x2 y0 y1 y2 HB3 HRu HRo HLu HLo
 obtain ⟨v0,hv0⟩:∃ x,x=v4.drew:=⟨_,rfl⟩
 have HV0:Hid (v4.drew=v0):=Lib.hid hv0.symm
 have hb0:Below v4.heap.size v4 v0:=by rw [hv0];exact below_drewN (Below.refl _ _) 1
 replace HRR:=Lib.hid (HRR.out.next hb0)
 replace HSb:=Lib.hid (HSb.out.next hb0)
 replace HSc1:=Lib.hid (HSc1.out.next hb0)
 replace HSd:=Lib.hid (HSd.out.next hb0)
 replace HB4:=Lib.hid (after HB4.out hb0)
 clear hv0 hb0
 have HC1:=Lib.hid (rSameRefs_any pa pb n pc cb l l v0 (by omega) (by have:=HRR.out.sl;rwa [<-HN.out] at this) HSb.out)
 have HC2:Hid (∀ v,Below v0.heap.size v0 v->Calls Tryz.prog 38 #[.slice pd nl cd,.slice pe nl ce] v (RetB (.bool true) v)):=Lib.hid fun v hv=>same13_any v pd pe nl cd ce ll (by have:=HL3.out;omega) (HSc1.out.next hv) (HSd.out.next hv)
 have HC3:Hid (∀ v,Below v0.heap.size v0 v->Calls Tryz.prog 39 #[.slice ua un uc,.agg (kpV ra rn rc la ln lc aa an ac)] v (IffP (IsQ (L.map (·.sc)) rep live align) v)):=Lib.hid fun v hv=>HIu.out v (after HB4.out hv)
 have HC4:Hid (∀ v,Below v0.heap.size v0 v->Calls Tryz.prog 40 #[.slice oa un oc,.agg (kpV a1 rn c1 a2 ln c2 a3 an c3)] v (IffP (IsQ (L.map (·.sc)) rep live align) v)):=Lib.hid fun v hv=>HIo.out v (after HB4.out hv)
 have HcK:=HcX
 replace HcX:Hid (∀ v,Below v0.heap.size v0 v->v.cell? ⟨K,0,none⟩=some (.slice ra rn rc)/\v.cell? ⟨K,1,none⟩=some (.slice la ln lc)/\v.cell? ⟨K,2,none⟩=some (.slice aa an ac)/\v.cell? ⟨M,0,none⟩=some (.slice a1 rn c1)/\v.cell? ⟨M,1,none⟩=some (.slice a2 ln c2)/\v.cell? ⟨M,2,none⟩=some (.slice a3 an c3)):=Lib.hid fun v hv=>HcK.out v (after HB4.out hv)
 have t1:(er != er)=false:=by simp
 have t2:(el != el)=false:=by simp
 go_wp2_with fail
 refine wp_region_held_drew (S:=fun v=>v.cell? ⟨K,0,none⟩=some (.slice ra rn rc)/\v.cell? ⟨K,1,none⟩=some (.slice la ln lc)/\v.cell? ⟨K,2,none⟩=some (.slice aa an ac)/\v.cell? ⟨M,0,none⟩=some (.slice a1 rn c1)/\v.cell? ⟨M,1,none⟩=some (.slice a2 ln c2)/\v.cell? ⟨M,2,none⟩=some (.slice a3 an c3)) (by kernel_rfl) (by rw [HV0.out];exact HcX.out _ (Below.refl _ _)) (fun hHeld=>?_)
 rw [HV0.out]
 have hHeld0:=HcX.out _ (Below.refl _ _)
 clear hHeld
 refine tk 0 ?_ rfl hHeld0 ?_ ?_
 rotate_left 1
 ·intro w hS;obtain ⟨_,_,_,_,_,_⟩:=hS;go_simp;(try with_reducible rfl)
 refine tk 1 ?_ rfl hHeld0 ?_ ?_
 rotate_left 1
 ·intro w hS;obtain ⟨_,_,_,_,_,_⟩:=hS;go_simp;(try with_reducible rfl)
 (try simp only [Act.put,List.setIfInBounds_toArray,List.set_cons_zero,List.set_cons_succ])
 refine rd 2 rfl (fun K hK=>?_)
 go_simp
 go_wp2_with (go_at_call 37;refine (HC1.out).mono ?_;rintro e q1 ⟨rr,rfl,hrr,hb⟩)
 have hrt:rr=true:=by simpa using hrr
 subst hrt
 clear hrr
 have HBq1:=Lib.hid hb
 clear hb
 refine hK.out _ _ (HcX.out _ HBq1.out) (fun hHeld1=>?_)
 clear hK K
 refine tk 3 ?_ rfl hHeld1 ?_ ?_
 rotate_left 1
 ·intro w hS;obtain ⟨_,_,_,_,_,_⟩:=hS;go_simp;(try with_reducible rfl)
 refine tk 4 ?_ rfl hHeld1 ?_ ?_
 rotate_left 1
 ·intro w hS;obtain ⟨_,_,_,_,_,_⟩:=hS;go_simp;(try with_reducible rfl)
 refine tk 5 ?_ rfl hHeld1 ?_ ?_
 rotate_left 1
 ·intro w hS;obtain ⟨_,_,_,_,_,_⟩:=hS;go_simp;(try with_reducible rfl)
 refine tk 6 ?_ rfl hHeld1 ?_ ?_
 rotate_left 1
 ·intro w hS;obtain ⟨_,_,_,_,_,_⟩:=hS;go_simp;(try with_reducible rfl)
 refine tk 7 ?_ rfl hHeld1 ?_ ?_
 rotate_left 1
 ·intro w hS;obtain ⟨_,_,_,_,_,_⟩:=hS;go_simp;(try with_reducible rfl)
 (try simp only [Act.put,List.setIfInBounds_toArray,List.set_cons_zero,List.set_cons_succ])
 refine rd 8 rfl (fun K hK=>?_)
 go_simp
 refine hK.out _ _ (HcX.out _ HBq1.out) (fun hHeld2=>?_)
 clear hK K
 refine tk 9 ?_ rfl hHeld2 ?_ ?_
 rotate_left 1
 ·intro w hS;obtain ⟨_,_,_,_,_,_⟩:=hS;go_simp;(try with_reducible rfl)
 refine tk 10 ?_ rfl hHeld2 ?_ ?_
 rotate_left 1
 ·intro w hS;obtain ⟨_,_,_,_,_,_⟩:=hS;go_simp;(try with_reducible rfl)
 refine tk 11 ?_ rfl hHeld2 ?_ ?_
 rotate_left 1
 ·intro w hS;obtain ⟨_,_,_,_,_,_⟩:=hS;go_simp;(try with_reducible rfl)
 (try simp only [Act.put,List.setIfInBounds_toArray,List.set_cons_zero,List.set_cons_succ])
 refine rd 12 rfl (fun K hK=>?_)
 go_simp
 go_wp2_with (go_at_call 38;refine (HC2.out _ HBq1.out).mono ?_;rintro e q2 ⟨rfl,hb⟩)
 have HBq2:=Lib.hid (after HBq1.out hb)
 clear hb
 refine hK.out _ _ (HcX.out _ HBq2.out) (fun hHeld3=>?_)
 clear hK K
 refine tk 13 ?_ rfl hHeld3 ?_ ?_
 rotate_left 1
 ·intro w hS;obtain ⟨_,_,_,_,_,_⟩:=hS;go_simp;(try with_reducible rfl)
 (try simp only [Act.put,List.setIfInBounds_toArray,List.set_cons_zero,List.set_cons_succ])
 refine rd 14 rfl (fun K hK=>?_)
 go_simp
 refine hK.out _ _ (HcX.out _ HBq2.out) (fun hHeld4=>?_)
 clear hK K
 refine tk 15 ?_ rfl hHeld4 ?_ ?_
 rotate_left 1
 ·intro w hS;obtain ⟨_,_,_,_,_,_⟩:=hS;go_simp;(try with_reducible rfl)
 refine tk 16 ?_ rfl hHeld4 ?_ ?_
 rotate_left 1
 ·intro w hS;obtain ⟨_,_,_,_,_,_⟩:=hS;go_simp;(try with_reducible rfl)
 refine tk 17 ?_ rfl hHeld4 ?_ ?_
 rotate_left 1
 ·intro w hS;obtain ⟨_,_,_,_,_,_⟩:=hS;go_simp;(try with_reducible rfl)
 refine tk 18 ?_ rfl hHeld4 ?_ ?_
 rotate_left 1
 ·intro w hS;obtain ⟨_,_,_,_,_,_⟩:=hS;go_simp;(try with_reducible rfl)
 (try simp only [Act.put,List.setIfInBounds_toArray,List.set_cons_zero,List.set_cons_succ])
 refine rd 19 rfl (fun K hK=>?_)
 go_simp
 refine hK.out _ _ (HcX.out _ HBq2.out) (fun hHeld5=>?_)
 clear hK K
 refine tk 20 ?_ rfl hHeld5 ?_ ?_
 rotate_left 1
 ·intro w hS;obtain ⟨_,_,_,_,_,_⟩:=hS;go_simp;(try with_reducible rfl)
 refine tk 21 ?_ rfl hHeld5 ?_ ?_
 rotate_left 1
 ·intro w hS;obtain ⟨_,_,_,_,_,_⟩:=hS;go_simp;(try with_reducible rfl)
 refine tk 22 ?_ rfl hHeld5 ?_ ?_
 rotate_left 1
 ·intro w hS;obtain ⟨_,_,_,_,_,_⟩:=hS;go_simp;(try with_reducible rfl)
 refine tk 24 ?_ rfl hHeld5 ?_ ?_
 rotate_left 1
 ·intro w hS;obtain ⟨_,_,_,_,_,_⟩:=hS;go_simp;(try with_reducible rfl)
 refine tk 25 ?_ rfl hHeld5 ?_ ?_
 rotate_left 1
 ·intro w hS;obtain ⟨_,_,_,_,_,_⟩:=hS;go_simp;(try with_reducible rfl)
 (try simp only [Act.put,List.setIfInBounds_toArray,List.set_cons_zero,List.set_cons_succ])
 refine rd 23 rfl (fun K hK=>?_)
 go_simp
 go_wp2_with (go_at_call 39;refine (HC3.out _ HBq2.out).mono ?_;rintro e q3 ⟨r1,rfl,hr1,hb⟩)
 have HI1:=Lib.hid hr1
 clear hr1
 have HBq3:=Lib.hid (after HBq2.out hb)
 clear hb
 refine hK.out _ _ (HcX.out _ HBq3.out) (fun hHeld6=>?_)
 clear hK K
 refine rd 26 rfl (fun K hK=>?_)
 go_simp
 go_wp2_with (go_at_call 40;refine (HC4.out _ HBq3.out).mono ?_;rintro e q4 ⟨r2,rfl,hr2,hb⟩)
 have hrr:r2=r1:=by have h1:=HI1.out;cases r1 <;> cases r2 <;> simp_all
 subst hrr
 clear hr2
 have t9:(r2 != r2)=false:=by simp
 have HBq4:=Lib.hid (after HBq3.out hb)
 clear hb
 refine hK.out _ _ (HcX.out _ HBq4.out) (fun hHeld7=>?_)
 clear hK K
 refine tk 27 ?_ rfl hHeld7 ?_ ?_
 rotate_left 1
 ·intro w hS;obtain ⟨_,_,_,_,_,_⟩:=hS;go_simp;(try with_reducible rfl)
 (try simp only [Act.put,List.setIfInBounds_toArray,List.set_cons_zero,List.set_cons_succ])
 refine rd 28 rfl (fun K hK=>?_)
 go_simp
 refine hK.out _ _ (HcX.out _ HBq4.out) (fun hHeld8=>?_)
 clear hK K
 refine wpAnyH_done (by kernel_rfl) ?_ _
 replace HRR:=Lib.hid (HRR.out.next HBq4.out)
 clear HC1 HC2 HC3 HC4 HcX HSb HSc1 HSd HBq1 HBq2 HBq3 HBq4 HI1 HB4 t1 t2 t9 hHeld0 hHeld1 hHeld2 hHeld3 hHeld4 hHeld5 hHeld6 hHeld7 hHeld8
 have HR0:=HRR
 clear HRR
 go_wp2_with fail
 go_loopw [17] (fun iv wr=>∃ (q:Nat) (wy:World) (ls:List Rl),wy=wr/\q<=n/\iv=.int .i64 q/\Hid (n=ls.length)/\Hid (RRf V wy ls pa pc)) (fun iv _=>n - (intOf iv).toNat)
 case atStart=>exact ⟨0,_,l,rfl,by omega,rfl,HN,HR0⟩
 case round=>
  clear HR0
  obtain ⟨q,wy,ls,rfl,hq,rfl,HLn,HRR⟩:=hrel
  by_cases hlt:q < n
  ·have hlti:(q:Int) < (n:Int):=by omega
   have HLT:=Lib.hid hlt
   obtain ⟨r,hr⟩:∃ r,ls[q]?=some r:=⟨_,List.getElem?_eq_getElem (by rw [<-HLn.out];exact hlt)⟩
   obtain ⟨g,hpa,hg,hgl,fz,c0,c1,c2,c3⟩:=HRR.out.at hr
   subst hpa
   have HR1:Hid (RRf V (wy.setCell ⟨g,q*4+2,none⟩ (.int .i64 99)) (ls.set q ⟨r.pos,r.kind,99,r.add⟩) (some ⟨g,0,none⟩) pc):=Lib.hid (HRR.out.put hr)
   have HL1:Hid (n=(ls.set q ⟨r.pos,r.kind,99,r.add⟩).length):=Lib.hid (by rw [List.length_set];exact HLn.out)
   clear hlt hq hr hg hgl c0 c1 c3
   go_wp2
   go_roundw
   case rel=>exact ⟨q+1,_,_,rfl,by have:=HLT.out;omega,by go_num,HL1,HR1⟩
   case measure=>have:=HLT.out;simp [intOf];omega
  ·have hnq:¬ (q:Int) < (n:Int):=by omega
   have HB5:=Lib.hid HRR.out.kk
   obtain ⟨Z,hZ⟩:∃ x,x=wy:=⟨_,rfl⟩
   rw [<-hZ] at HB5 ⊢
   clear hZ hlt hq HRR HLn
   go_wp2_with fail
   refine (HSk.out _ (after HB.out HB5.out)).mono ?_
   rintro e z1 ⟨rfl,hb⟩
   replace HB5:=Lib.hid (after HB5.out hb)
   clear hb
   have HSu:=Lib.hid (rSameU_is ua oa un uc oc L Lo z1 HMx.out (HOu.out.next HB5.out).us (HOu.out.next HB5.out).no (HOo.out.next HB5.out).us (HOo.out.next HB5.out).no HBd.out HSc.out)
   go_wp2_with fail
   refine HSu.out.mono ?_
   rintro e z2 ⟨rfl,hb⟩
   replace HB5:=Lib.hid (after HB5.out hb)
   clear hb
   obtain ⟨x0,x1,x2,y0,y1,y2⟩:=HcK.out z2 HB5.out
   have HSm:=Lib.hid (same23_true z2 ra rn rc la ln lc aa an ac a1 c1 a2 c2 a3 c3 rep live align (by have:=HFw.out.2;omega) (by have:=HFw.out.2;omega) (by have:=HFw.out.2;omega) (HOu.out.next HB5.out).r1 (HOu.out.next HB5.out).r2 (HOu.out.next HB5.out).r3 (HOo.out.next HB5.out).r1 (HOo.out.next HB5.out).r2 (HOo.out.next HB5.out).r3)
   go_wp2_with fail
   refine HSm.out.mono ?_
   rintro e z3 ⟨rfl,hb⟩
   replace HB5:=Lib.hid (after HB5.out hb)
   clear hb
   go_wp2
   go_ret
   exact ⟨rfl,after HB.out HB5.out⟩
end Go.Proofs.YtbabckomagkjbaaGreatDoor
