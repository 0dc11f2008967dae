/- shrink: the document's row, plain; cleatref23.Same. shrink: the document's row, walked. shrink: Lost, refused. shrink: Refs, whose row is the call's own; how it is written. -/
import Derived.Test.YtbabckomagkjbaaGreatDoorsZ
set_option maxRecDepth 100000
set_option maxHeartbeats 3000000
set_option linter.unusedVariables false
set_option linter.unusedSimpArgs false
namespace Go.Proofs.YtbabckomagkjbaaGreatDoor
open Go.ChangeShapes Go.WideShapes Go.Deep Go.RowKit
def rS (a:Int):Sc:=⟨[114],1,false,a,[192,3,95,214],[]⟩
def mS:Sc:=⟨[109],1,false,0,[0,0,0,148,0,0,0,148],[⟨0,2,2,0⟩,⟨4,2,3,0⟩]⟩
def dS:Sc:=⟨[100],3,true,0,[],[]⟩
def rowU:List Sc:=[dS,mS,rS 2,rS 4,rS 2]
def insU:List Bool:=[true,true,true,true,false]
def repU:List Int:=[0,1,2,2,-1]
theorem rowU_is:unitsR rowU=true:=by kernel_rfl
theorem rootU:rootZ rowU 1=[0,1]:=by decide +kernel
theorem inU:inS rowU 1=insU:=by
 unfold inS
 rw [rootU]
 have h0:Rch rowU [0,1] 0:=.root (by simp)
 have h1:Rch rowU [0,1] 1:=.root (by simp)
 have h2:Rch rowU [0,1] 2:=.step (s:=mS) (r:=⟨0,2,2,0⟩) h1 rfl (by simp [mS]) rfl
 have h3:Rch rowU [0,1] 3:=.step (s:=mS) (r:=⟨4,2,3,0⟩) h1 rfl (by simp [mS]) rfl
 have h4:¬ Rch rowU [0,1] 4:=by
  intro h
  have:=rch_sub (L:=rowU) (roots:=[0,1]) (fun k=>k < 4) (fun k hk=>by simp at hk;omega) (fun i s hi hs r hr k hk=>by
   have:i=0\/i=1\/i=2\/i=3:=by omega
   rcases this with rfl | rfl | rfl | rfl
   ·simp [rowU,dS] at hs;subst hs;simp at hr
   ·simp [rowU,mS] at hs;subst hs;simp at hr;rcases hr with rfl | rfl <;> (simp at hk;omega)
   ·simp [rowU,rS] at hs;subst hs;simp at hr
   ·simp [rowU,rS] at hs;subst hs;simp at hr) h
  omega
 have get:∀ k,k < 5->∀ b:Bool,(b=true ↔ Rch rowU [0,1] k)->(reachB rowU [0,1])[k]?=some b:=by
  intro k hk b hb
  have hl:k < (reachB rowU [0,1]).length:=by rw [reachB_len];exact hk
  have hi:=reachB_iff (L:=rowU) (roots:=[0,1]) (k:=k) hk
  rw [List.getElem?_eq_getElem hl] at hi ⊢
  congr 1
  rw [Bool.eq_iff_iff,hb,<-hi]
  simp
 apply List.ext_getElem?
 intro k
 by_cases hk:k < 5
 ·have:k=0\/k=1\/k=2\/k=3\/k=4:=by omega
  rcases this with rfl | rfl | rfl | rfl | rfl
  ·rw [get 0 hk true ⟨fun _=>h0,fun _=>rfl⟩];rfl
  ·rw [get 1 hk true ⟨fun _=>h1,fun _=>rfl⟩];rfl
  ·rw [get 2 hk true ⟨fun _=>h2,fun _=>rfl⟩];rfl
  ·rw [get 3 hk true ⟨fun _=>h3,fun _=>rfl⟩];rfl
  ·rw [get 4 hk false ⟨fun h=>(by cases h),fun h=>absurd h h4⟩];rfl
 ·rw [List.getElem?_eq_none (by rw [reachB_len];show 5<=k;omega),List.getElem?_eq_none (by show 5<=k;omega)]
theorem rowU_0:foldN rowU insU 0=[0,1,2,2,4]:=by
 show part1 _ _=_
 rw [part1_raw];decide +kernel
theorem rowU_fix {j:Nat} (h:nextP rowU insU (foldN rowU insU j)=foldN rowU insU j):foldN rowU insU j=[0,1,2,2,4]:=by
 rw [<-rowU_0]
 exact foldN_one h (by rw [rowU_0,nextP_raw];decide +kernel)
theorem endU {j:Nat} (h:nextP rowU insU (foldN rowU insU j)=foldN rowU insU j):endL insU (foldN rowU insU j)=repU:=by
 rw [rowU_fix h];decide +kernel
theorem standU:standL rowU repU=[1,2,0]:=by decide +kernel
theorem alignU:alignL rowU repU=[0,4,0]:=by decide +kernel
theorem refsU:refsK rowU repU 1=[⟨0,2,2,0⟩,⟨4,2,2,0⟩]:=by simp [refsK,rowU,mS,newRl,repU]
theorem lostU:lostK rowU repU 5=[⟨#[114]⟩]:=by decide +kernel
theorem isU {j:Nat} (h:nextP rowU insU (foldN rowU insU j)=foldN rowU insU j):IsQ rowU repU ((standL rowU repU).map Int.ofNat) (alignL rowU repU):=by
 have h2:nextP rowU (reachB rowU (rootZ rowU 1)) (foldN rowU (reachB rowU (rootZ rowU 1)) j)=foldN rowU (reachB rowU (rootZ rowU 1)) j:=by
  have:=inU
  unfold inS at this
  rw [this];exact h
 have h3:=left_reps rowU_is (reachB_len _ _) h2
 have h4:=left_lead rowU_is (by rw [rootU];rfl) h2
 have e:endL (reachB rowU (rootZ rowU 1)) (foldN rowU (reachB rowU (rootZ rowU 1)) j)=repU:=by
  have:=inU
  unfold inS at this
  rw [this];exact endU h
 rw [e] at h3 h4
 exact ⟨rowU_is,h3,h4,rfl,rfl⟩
theorem same23_true (w:World) (ra:Option Addr) (rn rc:Nat) (la:Option Addr) (ln lc:Nat) (aa:Option Addr) (an ac:Nat) (ra':Option Addr) (rc':Nat) (la':Option Addr) (lc':Nat) (aa':Option Addr) (ac':Nat) (rep live align:List Int) (h1:rn<=1000000) (h2:ln<=1000000) (h3:an<=1000000)
  (r1:SL enZ 1 w w.heap.size ra rn rep) (r2:SL enZ 1 w w.heap.size la ln live) (r3:SL enZ 1 w w.heap.size aa an align) (s1:SL enZ 1 w w.heap.size ra' rn rep) (s2:SL enZ 1 w w.heap.size la' ln live) (s3:SL enZ 1 w w.heap.size aa' an align):
  Calls Tryz.prog 30 #[.agg (kpV ra rn rc la ln lc aa an ac),.agg (kpV ra' rn rc' la' ln lc' aa' an ac')] w (RetB (.bool true) w):=by
 obtain ⟨W1,hW1⟩:∃ x,x=w.alloc (.cells (kpV ra rn rc la ln lc aa an ac) 46):=⟨_,rfl⟩
 obtain ⟨W2,hW2⟩:∃ x,x=W1.alloc (.cells (kpV ra' rn rc' la' ln lc' aa' an ac') 46):=⟨_,rfl⟩
 have hb1:Below w.heap.size w W1:=by rw [hW1];exact lit_below _ _
 have hb2:Below W1.heap.size W1 W2:=by rw [hW2];exact lit_below _ _
 have hz:W1.heap.size=w.heap.size+1:=by rw [hW1,World.size_alloc]
 have HX:Hid (RB W2 w.heap.size (kpV ra rn rc la ln lc aa an ac) 46):=Lib.hid ((show RB W1 w.heap.size (kpV ra rn rc la ln lc aa an ac) 46 by rw [hW1];exact rb_new _ _ _).next hb2)
 have HY:Hid (RB W2 (w.heap.size+1) (kpV ra' rn rc' la' ln lc' aa' an ac') 46):=Lib.hid (by rw [<-hz,hW2];exact rb_new _ _ _)
 have HB:=Lib.hid (after hb1 hb2)
 obtain ⟨X,hX⟩:∃ x,x=w.heap.size:=⟨_,rfl⟩
 rw [<-hX] at HX HY
 have HXe:=Lib.hid hX
 have HS1:Hid (∀ u,Below w.heap.size w u->Calls Tryz.prog 17 #[.slice ra rn rc,.slice ra' rn rc'] u (RetB (.bool true) u)):=Lib.hid (fun u hu=>by have:=sameI_any ra ra' rn rn rc rc' rep rep u h1 h1 (r1.next hu) (s1.next hu);rwa [decide_eq_true (rfl:rep=rep)] at this)
 have HS2:Hid (∀ u,Below w.heap.size w u->Calls Tryz.prog 17 #[.slice la ln lc,.slice la' ln lc'] u (RetB (.bool true) u)):=Lib.hid (fun u hu=>by have:=sameI_any la la' ln ln lc lc' live live u h2 h2 (r2.next hu) (s2.next hu);rwa [decide_eq_true (rfl:live=live)] at this)
 have HS3:Hid (∀ u,Below w.heap.size w u->Calls Tryz.prog 17 #[.slice aa an ac,.slice aa' an ac'] u (RetB (.bool true) u)):=Lib.hid (fun u hu=>by have:=sameI_any aa aa' an an ac ac' align align u h3 h3 (r3.next hu) (s3.next hu);rwa [decide_eq_true (rfl:align=align)] at this)
 have x0:W2.cell? ⟨X,0,none⟩=some (.slice ra rn rc):=HX.out.cell
 have y0:W2.cell? ⟨X+1,0,none⟩=some (.slice ra' rn rc'):=HY.out.cell
 rw [hW2,hW1,hX] at x0 y0
 have HWE:Hid ((w.alloc (.cells (kpV ra rn rc la ln lc aa an ac) 46)).alloc (.cells (kpV ra' rn rc' la' ln lc' aa' an ac') 46)=W2):=Lib.hid (by rw [hW2,hW1])
 clear r1 r2 r3 s1 s2 s3 h1 h2 h3 hW1 hW2 hb1 hb2 hz hX
 go_enter Tryz.func30,Tryz.ntmps30
 go_wp2_with fail
 have hwe:=HWE.out
 simp only [kpV] at hwe
 (try simp only [kpV])
 rw [hwe]
 rw [<-HXe.out]
 clear hwe x0 y0
 refine (HS1.out W2 HB.out).mono ?_
 rintro e u1 ⟨rfl,hb⟩
 replace HB:=Lib.hid (after HB.out hb)
 replace HX:=Lib.hid (HX.out.next hb)
 replace HY:=Lib.hid (HY.out.next hb)
 clear hb
 have x1:u1.cell? ⟨X,1,none⟩=some (.slice la ln lc):=HX.out.cell
 have y1:u1.cell? ⟨X+1,1,none⟩=some (.slice la' ln lc'):=HY.out.cell
 go_wp2_with fail
 clear x1 y1
 refine (HS2.out u1 HB.out).mono ?_
 rintro e u2 ⟨rfl,hb⟩
 replace HB:=Lib.hid (after HB.out hb)
 replace HX:=Lib.hid (HX.out.next hb)
 replace HY:=Lib.hid (HY.out.next hb)
 clear hb
 have x2:u2.cell? ⟨X,2,none⟩=some (.slice aa an ac):=HX.out.cell
 have y2:u2.cell? ⟨X+1,2,none⟩=some (.slice aa' an ac'):=HY.out.cell
 go_wp2_with fail
 clear x2 y2
 refine (HS3.out u2 HB.out).mono ?_
 rintro e u3 ⟨rfl,hb⟩
 replace HB:=Lib.hid (after HB.out hb)
 clear hb
 go_wp2
 go_ret
 exact ⟨rfl,HB.out⟩
end Go.Proofs.YtbabckomagkjbaaGreatDoor
namespace Go.Proofs.YtbabckomagkjbaaGreatDoor
open Go.ChangeShapes Go.WideShapes Go.Deep Go.RowKit
def rowM (b:Nat):List Ms:=[⟨dS,none,0⟩,⟨mS,some ⟨b,0,none⟩,2⟩,⟨rS 2,none,0⟩,⟨rS 4,none,0⟩,⟨rS 2,none,0⟩]
theorem rowM_sc (b:Nat):(rowM b).map (·.sc)=rowU:=rfl
theorem units_lit5 (u:World) (L:List Ms):SL msC 6 (u.alloc (.cells (L.flatMap msC).toArray 43)) (u.alloc (.cells (L.flatMap msC).toArray 43)).heap.size (some ⟨u.heap.size,0,none⟩) L.length L:=by
 rw [World.size_alloc];exact SL.lit u 43 L ms_len (by decide) _ rfl L.length rfl
theorem refs_lit (u:World) (l:List Rl):SL rlC 4 (u.alloc (.cells (l.flatMap rlC).toArray 61)) (u.alloc (.cells (l.flatMap rlC).toArray 61)).heap.size (some ⟨u.heap.size,0,none⟩) l.length l:=by
 rw [World.size_alloc];exact SL.lit u 61 l rl_len (by decide) _ rfl l.length rfl
theorem ints_lit (u:World) (l:List Int):SL enZ 1 (u.alloc (.cells (l.flatMap enZ).toArray 3)) (u.alloc (.cells (l.flatMap enZ).toArray 3)).heap.size (some ⟨u.heap.size,0,none⟩) l.length l:=by
 rw [World.size_alloc];exact SL.lit u 3 l enz_len (by decide) _ rfl l.length rfl
theorem strs_lit (u:World) (l:List ByteArray):SL enS 1 (u.alloc (.cells (l.flatMap enS).toArray 9)) (u.alloc (.cells (l.flatMap enS).toArray 9)).heap.size (some ⟨u.heap.size,0,none⟩) l.length l:=by
 rw [World.size_alloc];exact SL.lit u 9 l enS_len (by decide) _ rfl l.length rfl
theorem rowM_notes {u:World} {b:Nat} (h:SL rlC 4 u u.heap.size (some ⟨b,0,none⟩) 2 mS.rels):Notes u u.heap.size (rowM b):=by
 intro m hm
 simp only [rowM,List.mem_cons,List.not_mem_nil,or_false] at hm
 rcases hm with rfl | rfl | rfl | rfl | rfl
 ·exact ⟨rfl,fun h=>absurd rfl h⟩
 ·exact h
 ·exact ⟨rfl,fun h=>absurd rfl h⟩
 ·exact ⟨rfl,fun h=>absurd rfl h⟩
 ·exact ⟨rfl,fun h=>absurd rfl h⟩
theorem small_good (s:Sc) (h1:s.name.length<=10) (h2:0<=s.kind/\s.kind<=10) (h3:0<=s.align/\s.align<=10) (h4:s.data.length<=10) (h5:∀ r ∈ s.rels,(0<=r.pos/\r.pos<=10)/\(0<=r.kind/\r.kind<=10)/\(0<=r.sym/\r.sym<=10)/\(0<=r.add/\r.add<=10)):GoodSc s:=by
 refine ⟨?_,?_,?_,?_,?_⟩
 ·unfold maxLen;omega
 ·unfold i64ok;omega
 ·unfold i64ok;omega
 ·unfold maxLen;omega
 ·intro r hr
  obtain ⟨a,b,c,d⟩:=h5 r hr
  refine ⟨?_,?_,?_,?_⟩ <;> (simp only [i64ok];omega)
theorem rowM_good (b:Nat):∀ m ∈ rowM b,GoodSc m.sc:=by
 intro m hm
 simp only [rowM,List.mem_cons,List.not_mem_nil,or_false] at hm
 rcases hm with rfl | rfl | rfl | rfl | rfl <;> dsimp only <;> refine small_good _ (by decide) (by decide) (by decide) (by decide) ?_ <;> intro r hr
 ·cases hr
 ·simp only [mS,List.mem_cons,List.not_mem_nil,or_false] at hr
  rcases hr with rfl | rfl <;> decide
 ·cases hr
 ·cases hr
 ·cases hr
theorem rowM_few (b:Nat):∀ m ∈ rowM b,m.sc.rels.length*32<=reachBytes:=by
 intro m hm
 simp only [rowM,List.mem_cons,List.not_mem_nil,or_false] at hm
 rcases hm with rfl | rfl | rfl | rfl | rfl
 ·exact Nat.zero_le _
 ·show 2*32<=_;unfold reachBytes;omega
 ·exact Nat.zero_le _
 ·exact Nat.zero_le _
 ·exact Nat.zero_le _
def ShrU (w:World) (e:Ending) (w':World):Prop:=∃ (Z:Nat) (la:Option Addr) (lc:Nat) (aa:Option Addr) (ac:Nat),e=.returned (.tuple #[.agg #[.slice (some ⟨Z,0,none⟩) 5 5,.slice la 3 lc,.slice aa 3 ac],.int .i64 0])/\
 SL enZ 1 w' w'.heap.size (some ⟨Z,0,none⟩) 5 repU/\SL enZ 1 w' w'.heap.size la 3 [1,2,0]/\SL enZ 1 w' w'.heap.size aa 3 [0,4,0]/\Below w.heap.size w w'
theorem shrU_of {w:World} {e:Ending} {w':World} (h:ShrP rowU 1 5 w e w'):ShrU w e w':=by
 obtain ⟨j,Z,la,lc,aa,ac,hfx,he,hz,hl,ha,hb⟩:=h
 rw [inU] at hfx he hz hl ha
 rw [endU hfx] at he hz hl ha
 rw [standU] at he hl ha
 rw [alignU] at ha
 exact ⟨Z,la,lc,aa,ac,he,rb_slI hz,hl,ha,hb⟩
theorem isUU:IsQ rowU repU [1,2,0] [0,4,0]:=by
 have h:=isU (j:=0) (by rw [rowU_0,nextP_raw];decide +kernel)
 rw [standU,alignU] at h
 exact h
structure UK (u:World) (ua:Addr) (b:Nat):Prop where
 us:SL msC 6 u u.heap.size (some ua) 5 (rowM b)
 no:Notes u u.heap.size (rowM b)
 tt:TabP u
theorem UK.next {u v:World} {ua:Addr} {b:Nat} (h:UK u ua b) (hb:Below u.heap.size u v):UK v ua b:=⟨h.us.next hb,h.no.next hb,h.tt.next hb⟩
theorem UK.shrink {u:World} {ua:Addr} {b c:Nat} (h:UK u ua b):Calls Tryz.prog 27 #[.slice (some ua) 5 c,.int .i64 1] u (ShrU u):=
 (shrink_yes u (some ua) 5 c (rowM b) 1 (by unfold maxLen;omega) h.us h.no (rowM_good b) (rowM_few b) h.tt (by rw [rowM_sc];exact ⟨rowU_is,by omega,by omega⟩)).mono fun e w' hp=>shrU_of (by rw [rowM_sc] at hp;exact hp)
structure KK (u:World) (Z:Nat) (la aa:Option Addr):Prop where
 rz:SL enZ 1 u u.heap.size (some ⟨Z,0,none⟩) 5 repU
 rl:SL enZ 1 u u.heap.size la 3 [1,2,0]
 ra:SL enZ 1 u u.heap.size aa 3 [0,4,0]
theorem KK.next {u v:World} {Z:Nat} {la aa:Option Addr} (h:KK u Z la aa) (hb:Below u.heap.size u v):KK v Z la aa:=⟨h.rz.next hb,h.rl.next hb,h.ra.next hb⟩
theorem UK.is {u:World} {ua:Addr} {b c Z lc ac:Nat} {la aa:Option Addr} (h:UK u ua b) (k:KK u Z la aa):Calls Tryz.prog 39 #[.slice (some ua) 5 c,.agg (kpV (some ⟨Z,0,none⟩) 5 5 la 3 lc aa 3 ac)] u (IffP (IsQ rowU repU [1,2,0] [0,4,0]) u):=
 shrIs_any u (some ua) 5 c (rowM b) (some ⟨Z,0,none⟩) 5 5 repU la 3 lc [1,2,0] aa 3 ac [0,4,0] (by unfold maxLen;omega) h.us h.no (rowM_good b) (rowM_few b) k.rz k.rl k.ra (by unfold maxLen;omega) (by unfold maxLen;omega) (by unfold maxLen;omega) h.tt
theorem UK.isT {u:World} {ua:Addr} {b c Z lc ac:Nat} {la aa:Option Addr} (h:UK u ua b) (k:KK u Z la aa):Calls Tryz.prog 39 #[.slice (some ua) 5 c,.agg (kpV (some ⟨Z,0,none⟩) 5 5 la 3 lc aa 3 ac)] u (RetB (.bool true) u):=
 (h.is k).mono fun e w' hp=>by
  obtain ⟨r,he,hr,hb⟩:=hp
  rw [hr.2 isUU] at he
  exact ⟨he,hb⟩
theorem UK.refs {u:World} {ua:Addr} {b c Z lc ac:Nat} {la aa:Option Addr} (h:UK u ua b) (k:KK u Z la aa):Calls Tryz.prog 33 #[.slice (some ua) 5 c,.agg (kpV (some ⟨Z,0,none⟩) 5 5 la 3 lc aa 3 ac),.int .i64 1] u (RefsP [⟨0,2,2,0⟩,⟨4,2,2,0⟩] u):=by
 have:=refs_yes u (some ua) 5 c (rowM b) (some ⟨Z,0,none⟩) 5 repU la 3 lc [1,2,0] aa 3 ac [0,4,0] 1 h.us h.no k.rz k.rl (by unfold maxLen;omega) (fun v hv=>(h.next hv).is (k.next hv)) isUU (by simp)
 rw [rowM_sc,refsU] at this
 exact this
theorem UK.refsNo {u:World} {ua:Addr} {b c Z lc ac:Nat} {la aa:Option Addr} (h:UK u ua b) (k:KK u Z la aa):Calls Tryz.prog 33 #[.slice (some ua) 5 c,.agg (kpV (some ⟨Z,0,none⟩) 5 5 la 3 lc aa 3 ac),.int .i64 3] u (RetB (.tuple #[.slice none 0 0,.int .i64 1]) u):=
 refs_no u (some ua) 5 c #[] (fun _=>True) (some ⟨Z,0,none⟩) 5 5 la 3 lc aa 3 ac 3 [1,2,0] _ k.rl (by unfold maxLen;omega) (fun v hv=>(h.next hv).is (k.next hv)) (by simp)
theorem UK.lost {u:World} {ua:Addr} {b c Z lc ac:Nat} {la aa:Option Addr} (h:UK u ua b) (k:KK u Z la aa):Calls Tryz.prog 35 #[.slice (some ua) 5 c,.agg (kpV (some ⟨Z,0,none⟩) 5 5 la 3 lc aa 3 ac)] u (LostP [⟨#[114]⟩] u):=by
 have:=lost_yes u (some ua) 5 c (rowM b) (some ⟨Z,0,none⟩) 5 repU la 3 lc [1,2,0] aa 3 ac [0,4,0] h.us k.rz (fun v hv=>(h.next hv).is (k.next hv)) isUU
 rw [rowM_sc,lostU] at this
 exact this
abbrev retU (a:Int):Array Value:=#[.string ⟨#[114]⟩,.int .i64 1,.bool false,.int .i64 a,.string ⟨#[192,3,95,214]⟩,.slice none 0 0]
theorem shrunk_is (w:World) (hT:TabP w):Calls Tryz.prog 29 #[] w (RetB (.bool true) w):=by
 obtain ⟨H,hH⟩:∃ H,H=w.heap.size:=⟨_,rfl⟩
 obtain ⟨W1,hW1⟩:∃ x,x=w.alloc (.cells (retU 2) 43):=⟨_,rfl⟩
 obtain ⟨W2,hW2⟩:∃ x,x=W1.alloc (.cells (retU 4) 43):=⟨_,rfl⟩
 obtain ⟨W3,hW3⟩:∃ x,x=W2.alloc (.cells (mS.rels.flatMap rlC).toArray 61):=⟨_,rfl⟩
 obtain ⟨W4,hW4⟩:∃ x,x=W3.alloc (.cells ((rowM (H+1+1)).flatMap msC).toArray 43):=⟨_,rfl⟩
 have hb1:Below w.heap.size w W1:=by rw [hW1];exact lit_below _ _
 have hb2:Below W1.heap.size W1 W2:=by rw [hW2];exact lit_below _ _
 have hb3:Below W2.heap.size W2 W3:=by rw [hW3];exact lit_below _ _
 have hb4:Below W3.heap.size W3 W4:=by rw [hW4];exact lit_below _ _
 have hz1:W1.heap.size=H+1:=by rw [hW1,World.size_alloc,hH]
 have hz2:W2.heap.size=H+1+1:=by rw [hW2,World.size_alloc,hz1]
 have hz3:W3.heap.size=H+1+1+1:=by rw [hW3,World.size_alloc,hz2]
 have r1:RB W1 H (retU 2) 43:=by rw [hW1,hH];exact rb_new _ _ _
 have r1':RB W3 H (retU 2) 43:=(r1.next hb2).next hb3
 have r2:RB W3 (H+1) (retU 4) 43:=(show RB W2 (H+1) (retU 4) 43 by rw [<-hz1,hW2];exact rb_new _ _ _).next hb3
 have hB4:=after hb1 (after hb2 (after hb3 hb4))
 have hn:SL rlC 4 W4 W4.heap.size (some ⟨H+1+1,0,none⟩) 2 mS.rels:=by
  have:SL rlC 4 W3 W3.heap.size (some ⟨W2.heap.size,0,none⟩) 2 mS.rels:=by rw [hW3];exact refs_lit W2 mS.rels
  rw [hz2] at this
  exact this.next hb4
 have HUK:Hid (UK W4 ⟨H+1+1+1,0,none⟩ (H+1+1)):=Lib.hid ⟨by
  have:SL msC 6 W4 W4.heap.size (some ⟨W3.heap.size,0,none⟩) 5 (rowM (H+1+1)):=by rw [hW4];exact units_lit5 W3 (rowM (H+1+1))
  rw [hz3] at this
  exact this,rowM_notes hn,hT.next hB4⟩
 have HB:=Lib.hid hB4
 have x0:W1.cell? ⟨H,0,none⟩=some (.string ⟨#[114]⟩):=r1.cell
 have x1:W1.cell? ⟨H,1,none⟩=some (.int .i64 1):=r1.cell
 have x2:W1.cell? ⟨H,2,none⟩=some (.bool false):=r1.cell
 have x3:W1.cell? ⟨H,3,none⟩=some (.int .i64 2):=r1.cell
 have x4:W1.cell? ⟨H,4,none⟩=some (.string ⟨#[192,3,95,214]⟩):=r1.cell
 have x5:W1.cell? ⟨H,5,none⟩=some (.slice none 0 0):=r1.cell
 have y0:W3.cell? ⟨H,0,none⟩=some (.string ⟨#[114]⟩):=r1'.cell
 have y1:W3.cell? ⟨H,1,none⟩=some (.int .i64 1):=r1'.cell
 have y2:W3.cell? ⟨H,2,none⟩=some (.bool false):=r1'.cell
 have y3:W3.cell? ⟨H,3,none⟩=some (.int .i64 2):=r1'.cell
 have y4:W3.cell? ⟨H,4,none⟩=some (.string ⟨#[192,3,95,214]⟩):=r1'.cell
 have y5:W3.cell? ⟨H,5,none⟩=some (.slice none 0 0):=r1'.cell
 have z0:W3.cell? ⟨H+1,0,none⟩=some (.string ⟨#[114]⟩):=r2.cell
 have z1:W3.cell? ⟨H+1,1,none⟩=some (.int .i64 1):=r2.cell
 have z2:W3.cell? ⟨H+1,2,none⟩=some (.bool false):=r2.cell
 have z3:W3.cell? ⟨H+1,3,none⟩=some (.int .i64 4):=r2.cell
 have z4:W3.cell? ⟨H+1,4,none⟩=some (.string ⟨#[192,3,95,214]⟩):=r2.cell
 have z5:W3.cell? ⟨H+1,5,none⟩=some (.slice none 0 0):=r2.cell
 have eL:(mS.rels.flatMap rlC).toArray=#[.int .i64 0,.int .i64 2,.int .i64 2,.int .i64 0,.int .i64 4,.int .i64 2,.int .i64 3,.int .i64 0]:=rfl
 rw [eL] at hW3
 rw [hW3,hW2,hW1] at y0 y1 y2 y3 y4 y5 z0 z1 z2 z3 z4 z5
 rw [hW1] at x0 x1 x2 x3 x4 x5
 rw [hH] at x0 x1 x2 x3 x4 x5 y0 y1 y2 y3 y4 y5 z0 z1 z2 z3 z4 z5
 have HWE:Hid ((((w.alloc (.cells (retU 2) 43)).alloc (.cells (retU 4) 43)).alloc (.cells #[.int .i64 0,.int .i64 2,.int .i64 2,.int .i64 0,.int .i64 4,.int .i64 2,.int .i64 3,.int .i64 0] 61)).alloc (.cells #[.string ⟨#[100]⟩,.int .i64 3,.bool true,.int .i64 0,.string ⟨#[]⟩,.slice none 0 0,.string ⟨#[109]⟩,.int .i64 1,.bool false,.int .i64 0,.string ⟨#[0,0,0,148,0,0,0,148]⟩,.slice (some ⟨H+1+1,0,none⟩) 2 2,.string ⟨#[114]⟩,.int .i64 1,.bool false,.int .i64 2,.string ⟨#[192,3,95,214]⟩,.slice none 0 0,.string ⟨#[114]⟩,.int .i64 1,.bool false,.int .i64 4,.string ⟨#[192,3,95,214]⟩,.slice none 0 0,.string ⟨#[114]⟩,.int .i64 1,.bool false,.int .i64 2,.string ⟨#[192,3,95,214]⟩,.slice none 0 0] 43)=W4):=Lib.hid (by rw [hW4,hW3,hW2,hW1];rfl)
 have HH:=Lib.hid hH
 clear hW1 hW2 hW3 hW4 hb1 hb2 hb3 hb4 hz1 hz2 hz3 r1 r1' r2 hB4 hn hT eL hH
 go_enter Tryz.func29,Tryz.ntmps29
 go_wp2_with fail
 rw [<-HH.out]
 have hwe:=HWE.out
 simp only [retU] at hwe
 rw [hwe]
 clear hwe HWE x0 x1 x2 x3 x4 x5 y0 y1 y2 y3 y4 y5 z0 z1 z2 z3 z4 z5
 refine HUK.out.shrink.mono ?_
 rintro e u1 ⟨Z,la,lc,aa,ac,rfl,k1,k2,k3,hb⟩
 replace HB:=Lib.hid (after HB.out hb)
 replace HUK:=Lib.hid (HUK.out.next hb)
 have HKK:Hid (KK u1 Z la aa):=Lib.hid ⟨k1,k2,k3⟩
 obtain ⟨K,hK⟩:∃ x,x=u1.heap.size:=⟨_,rfl⟩
 obtain ⟨V1,hV1⟩:∃ x,x=u1.alloc (.cells #[.slice (some ⟨Z,0,none⟩) 5 5,.slice la 3 lc,.slice aa 3 ac] 46):=⟨_,rfl⟩
 have hbv:Below u1.heap.size u1 V1:=by rw [hV1];exact lit_below _ _
 have HRK:Hid (RB V1 K #[.slice (some ⟨Z,0,none⟩) 5 5,.slice la 3 lc,.slice aa 3 ac] 46):=Lib.hid (by rw [hV1,hK];exact rb_new _ _ _)
 replace HB:=Lib.hid (after HB.out hbv)
 replace HUK:=Lib.hid (HUK.out.next hbv)
 replace HKK:=Lib.hid (HKK.out.next hbv)
 have x0:V1.cell? ⟨K,0,none⟩=some (.slice (some ⟨Z,0,none⟩) 5 5):=HRK.out.cell
 have x1:V1.cell? ⟨K,1,none⟩=some (.slice la 3 lc):=HRK.out.cell
 have x2:V1.cell? ⟨K,2,none⟩=some (.slice aa 3 ac):=HRK.out.cell
 rw [hV1,hK] at x0 x1 x2
 have HVE:Hid (u1.alloc (.cells #[.slice (some ⟨Z,0,none⟩) 5 5,.slice la 3 lc,.slice aa 3 ac] 46)=V1):=Lib.hid hV1.symm
 have HK:=Lib.hid hK
 clear hb hbv k1 k2 k3 hV1 hK
 go_wp2_with fail
 rw [HVE.out,<-HK.out]
 clear x0 x1 x2
 refine (HUK.out.refs HKK.out).mono ?_
 rintro e u2 ⟨ra,rc,he,hrs,hb⟩
 have he:e=.returned (.tuple #[.slice ra 2 rc,.int .i64 0]):=he
 subst he
 replace HB:=Lib.hid (after HB.out hb)
 replace HUK:=Lib.hid (HUK.out.next hb)
 replace HKK:=Lib.hid (HKK.out.next hb)
 replace HRK:=Lib.hid (HRK.out.next hb)
 have HRs:Hid (SL rlC 4 u2 u2.heap.size ra 2 [⟨0,2,2,0⟩,⟨4,2,2,0⟩]):=Lib.hid hrs
 clear hb hrs
 have x0:u2.cell? ⟨K,0,none⟩=some (.slice (some ⟨Z,0,none⟩) 5 5):=HRK.out.cell
 have x1:u2.cell? ⟨K,1,none⟩=some (.slice la 3 lc):=HRK.out.cell
 have x2:u2.cell? ⟨K,2,none⟩=some (.slice aa 3 ac):=HRK.out.cell
 go_wp2_with fail
 clear x0 x1 x2
 refine (HUK.out.lost HKK.out).mono ?_
 rintro e u3 ⟨oa,oc,he,hos,hb⟩
 have he:e=.returned (.tuple #[.slice oa 1 oc,.int .i64 0]):=he
 subst he
 replace HB:=Lib.hid (after HB.out hb)
 replace HUK:=Lib.hid (HUK.out.next hb)
 replace HKK:=Lib.hid (HKK.out.next hb)
 replace HRK:=Lib.hid (HRK.out.next hb)
 replace HRs:=Lib.hid (HRs.out.next hb)
 have HOs:Hid (SL enS 1 u3 u3.heap.size oa 1 [⟨#[114]⟩]):=Lib.hid hos
 clear hb hos
 have x0:u3.cell? ⟨K,0,none⟩=some (.slice (some ⟨Z,0,none⟩) 5 5):=HRK.out.cell
 have x1:u3.cell? ⟨K,1,none⟩=some (.slice la 3 lc):=HRK.out.cell
 have x2:u3.cell? ⟨K,2,none⟩=some (.slice aa 3 ac):=HRK.out.cell
 go_wp2_with fail
 clear x0 x1 x2
 refine (HUK.out.refsNo HKK.out).mono ?_
 rintro e u4 ⟨rfl,hb⟩
 replace HB:=Lib.hid (after HB.out hb)
 replace HUK:=Lib.hid (HUK.out.next hb)
 replace HKK:=Lib.hid (HKK.out.next hb)
 replace HRK:=Lib.hid (HRK.out.next hb)
 replace HRs:=Lib.hid (HRs.out.next hb)
 replace HOs:=Lib.hid (HOs.out.next hb)
 clear hb
 have x0:u4.cell? ⟨K,0,none⟩=some (.slice (some ⟨Z,0,none⟩) 5 5):=HRK.out.cell
 have x1:u4.cell? ⟨K,1,none⟩=some (.slice la 3 lc):=HRK.out.cell
 have x2:u4.cell? ⟨K,2,none⟩=some (.slice aa 3 ac):=HRK.out.cell
 go_wp2_with fail
 clear x0 x1 x2
 obtain ⟨A1,hA1⟩:∃ x,x=u4.alloc (.cells (repU.flatMap enZ).toArray 3):=⟨_,rfl⟩
 obtain ⟨A2,hA2⟩:∃ x,x=A1.alloc (.cells (([1,2,0]:List Int).flatMap enZ).toArray 3):=⟨_,rfl⟩
 obtain ⟨A3,hA3⟩:∃ x,x=A2.alloc (.cells (([0,4,0]:List Int).flatMap enZ).toArray 3):=⟨_,rfl⟩
 have hz1:A1.heap.size=u4.heap.size+1:=by rw [hA1,World.size_alloc]
 have hz2:A2.heap.size=u4.heap.size+1+1:=by rw [hA2,World.size_alloc,hz1]
 have hc1:Below u4.heap.size u4 A1:=by rw [hA1];exact lit_below _ _
 have hc2:Below A1.heap.size A1 A2:=by rw [hA2];exact lit_below _ _
 have hc3:Below A2.heap.size A2 A3:=by rw [hA3];exact lit_below _ _
 have l1:SL enZ 1 A3 A3.heap.size (some ⟨u4.heap.size,0,none⟩) 5 repU:=((show SL enZ 1 A1 A1.heap.size (some ⟨u4.heap.size,0,none⟩) 5 repU by rw [hA1];exact ints_lit u4 repU).next hc2).next hc3
 have l2:SL enZ 1 A3 A3.heap.size (some ⟨u4.heap.size+1,0,none⟩) 3 [1,2,0]:=(show SL enZ 1 A2 A2.heap.size (some ⟨u4.heap.size+1,0,none⟩) 3 [1,2,0] by rw [<-hz1,hA2];exact ints_lit A1 [1,2,0]).next hc3
 have l3:SL enZ 1 A3 A3.heap.size (some ⟨u4.heap.size+1+1,0,none⟩) 3 [0,4,0]:=by rw [<-hz2,hA3];exact ints_lit A2 [0,4,0]
 have hb:=after hc1 (after hc2 hc3)
 replace HB:=Lib.hid (after HB.out hb)
 replace HUK:=Lib.hid (HUK.out.next hb)
 replace HKK:=Lib.hid (HKK.out.next hb)
 replace HRK:=Lib.hid (HRK.out.next hb)
 replace HRs:=Lib.hid (HRs.out.next hb)
 replace HOs:=Lib.hid (HOs.out.next hb)
 have hve:((u4.alloc (.cells #[.int .i64 0,.int .i64 1,.int .i64 2,.int .i64 2,.int .i64 (-1)] 3)).alloc (.cells #[.int .i64 1,.int .i64 2,.int .i64 0] 3)).alloc (.cells #[.int .i64 0,.int .i64 4,.int .i64 0] 3)=A3:=by rw [hA3,hA2,hA1];rfl
 rw [hve]
 have HSm:=Lib.hid (same23_true A3 (some ⟨Z,0,none⟩) 5 5 la 3 lc aa 3 ac (some ⟨u4.heap.size,0,none⟩) 5 (some ⟨u4.heap.size+1,0,none⟩) 3 (some ⟨u4.heap.size+1+1,0,none⟩) 3 repU [1,2,0] [0,4,0] (by omega) (by omega) (by omega) HKK.out.rz HKK.out.rl HKK.out.ra l1 l2 l3)
 clear hve hb l1 l2 l3 hc1 hc2 hc3 hz1 hz2 hA1 hA2 hA3
 refine HSm.out.mono ?_
 rintro e u5 ⟨rfl,hb⟩
 replace HB:=Lib.hid (after HB.out hb)
 replace HUK:=Lib.hid (HUK.out.next hb)
 replace HKK:=Lib.hid (HKK.out.next hb)
 replace HRK:=Lib.hid (HRK.out.next hb)
 replace HRs:=Lib.hid (HRs.out.next hb)
 replace HOs:=Lib.hid (HOs.out.next hb)
 clear hb HSm
 obtain ⟨rb,ro,e1,-,hcr⟩:=HRs.out.cells (by simp)
 subst e1
 have g2:u5.cell? ⟨rb,ro+4+2,none⟩=some (.int .i64 2):=hcr 1 (by simp) 2 (by omega)
 have g2':u5.cell? ⟨rb,ro+6,none⟩=some (.int .i64 2):=hcr 1 (by simp) 2 (by omega)
 obtain ⟨B1,hB1⟩:∃ x,x=u5.alloc (.cells (([⟨#[114]⟩]:List ByteArray).flatMap enS).toArray 9):=⟨_,rfl⟩
 have hb:Below u5.heap.size u5 B1:=by rw [hB1];exact lit_below _ _
 have l1:SL enS 1 B1 B1.heap.size (some ⟨u5.heap.size,0,none⟩) 1 [⟨#[114]⟩]:=by rw [hB1];exact strs_lit u5 [⟨#[114]⟩]
 clear hcr
 replace HB:=Lib.hid (after HB.out hb)
 replace HUK:=Lib.hid (HUK.out.next hb)
 replace HKK:=Lib.hid (HKK.out.next hb)
 replace HRK:=Lib.hid (HRK.out.next hb)
 replace HRs:=Lib.hid (HRs.out.next hb)
 replace HOs:=Lib.hid (HOs.out.next hb)
 have HS3:=Lib.hid (same13_any B1 oa (some ⟨u5.heap.size,0,none⟩) 1 oc 1 [⟨#[114]⟩] (by omega) HOs.out l1)
 have HVE2:Hid (u5.alloc (.cells #[.string ⟨#[114]⟩] 9)=B1):=Lib.hid (by rw [hB1];rfl)
 clear hb l1 hB1 HVE
 go_wp2_with fail
 rw [HVE2.out]
 clear g2 g2'
 refine HS3.out.mono ?_
 rintro e u6 ⟨rfl,hb⟩
 replace HB:=Lib.hid (after HB.out hb)
 replace HUK:=Lib.hid (HUK.out.next hb)
 replace HKK:=Lib.hid (HKK.out.next hb)
 replace HRK:=Lib.hid (HRK.out.next hb)
 replace HRs:=Lib.hid (HRs.out.next hb)
 replace HOs:=Lib.hid (HOs.out.next hb)
 clear hb HS3
 have x0:u6.cell? ⟨K,0,none⟩=some (.slice (some ⟨Z,0,none⟩) 5 5):=HRK.out.cell
 have x1:u6.cell? ⟨K,1,none⟩=some (.slice la 3 lc):=HRK.out.cell
 have x2:u6.cell? ⟨K,2,none⟩=some (.slice aa 3 ac):=HRK.out.cell
 go_wp2_with fail
 clear x0 x1 x2
 refine (HUK.out.isT HKK.out).mono ?_
 rintro e u7 ⟨rfl,hb⟩
 replace HB:=Lib.hid (after HB.out hb)
 clear hb
 go_wp2
 go_ret
 exact ⟨rfl,HB.out⟩
end Go.Proofs.YtbabckomagkjbaaGreatDoor
namespace Go.Proofs.YtbabckomagkjbaaGreatDoor
open Go.ChangeShapes Go.WideShapes Go.Deep Go.RowKit
theorem lost_no (w:World) (ua:Option Addr) (n uc:Nat) (ra:Option Addr) (rn rc:Nat) (la:Option Addr) (ln lc:Nat) (aa:Option Addr) (an ac:Nat) (P:Prop)
  (hIs:∀ u,Below w.heap.size w u->Calls Tryz.prog 39 #[.slice ua n uc,.agg (kpV ra rn rc la ln lc aa an ac)] u (IffP P u)) (h:¬ P):
  Calls Tryz.prog 35 #[.slice ua n uc,.agg (kpV ra rn rc la ln lc aa an ac)] w (RetB (.tuple #[.slice none 0 0,.int .i64 1]) w):=by
 obtain ⟨W1,hW1⟩:∃ x,x=w.alloc (.cells (kpV ra rn rc la ln lc aa an ac) 46):=⟨_,rfl⟩
 have hb1:Below w.heap.size w W1:=by rw [hW1];exact lit_below w _
 have hr1:RB W1 w.heap.size (kpV ra rn rc la ln lc aa an ac) 46:=by rw [hW1];exact rb_new w _ _
 have HI:=Lib.hid (hIs W1 hb1)
 have HWE:Hid (w.alloc (.cells (kpV ra rn rc la ln lc aa an ac) 46)=W1):=Lib.hid hW1.symm
 have HBu:=Lib.hid hb1
 have HN:=Lib.hid h
 obtain ⟨X,hX⟩:∃ x,x=w.heap.size:=⟨_,rfl⟩
 have HX:=Lib.hid hX
 have x0:W1.cell? ⟨X,0,none⟩=some (.slice ra rn rc):=hX ▸ hr1.cell
 have x1:W1.cell? ⟨X,1,none⟩=some (.slice la ln lc):=hX ▸ hr1.cell
 have x2:W1.cell? ⟨X,2,none⟩=some (.slice aa an ac):=hX ▸ hr1.cell
 rw [hW1,hX] at x0 x1 x2
 clear hIs h hW1 hb1 hr1 hX
 go_enter Tryz.func35,Tryz.ntmps35
 go_wp2_with fail
 have hwe:=HWE.out
 simp only [kpV] at hwe
 (try simp only [kpV])
 rw [hwe]
 (try rw [<-HX.out])
 clear x0 x1 x2 hwe
 refine HI.out.mono ?_
 rintro e u ⟨r,rfl,hr,hb⟩
 have HB:=Lib.hid (after HBu.out hb)
 have hrf:r=false:=by cases r;rfl;exact absurd (hr.1 rfl) HN.out
 subst hrf
 clear hb hr
 go_wp2
 go_ret2
 exact ⟨rfl,HB.out⟩
end Go.Proofs.YtbabckomagkjbaaGreatDoor
namespace Go.Proofs.YtbabckomagkjbaaGreatDoor
open Go.ChangeShapes Go.WideShapes Go.Deep Go.RowKit
def RefsO (l:List Rl) (w:World) (e:Ending) (w':World):Prop:=∃ a c,e=.returned (.tuple #[.slice a l.length c,.int .i64 0])/\RRf w w' l a c
theorem refs_own (w:World) (ua:Option Addr) (n uc:Nat) (L:List Ms) (ra:Option Addr) (rc:Nat) (rep:List Int) (la:Option Addr) (ln lc:Nat) (live:List Int) (aa:Option Addr) (an ac:Nat) (align:List Int) (k:Nat) (hs:SL msC 6 w w.heap.size ua n L) (hno:Notes w w.heap.size L)
  (hr:SL enZ 1 w w.heap.size ra n rep) (hl:SL enZ 1 w w.heap.size la ln live) (hln:ln<=maxLen)
  (hIs:∀ u,Below w.heap.size w u->Calls Tryz.prog 39 #[.slice ua n uc,.agg (kpV ra n rc la ln lc aa an ac)] u (IffP (IsQ (L.map (·.sc)) rep live align) u)) (h:IsQ (L.map (·.sc)) rep live align) (hm:(k:Int) ∈ live):
  Calls Tryz.prog 33 #[.slice ua n uc,.agg (kpV ra n rc la ln lc aa an ac),.int .i64 (k:Int)] w (RefsO (refsK (L.map (·.sc)) rep k) w):=by
 obtain ⟨i0,hi,hz0,hz1,hz2⟩:=info_parts info_ref
 obtain ⟨W1,hW1⟩:∃ x,x=w.alloc (.cells (kpV ra n rc la ln lc aa an ac) 46):=⟨_,rfl⟩
 have hb1:Below w.heap.size w W1:=by rw [hW1];exact lit_below w _
 have hr1:RB W1 w.heap.size (kpV ra n rc la ln lc aa an ac) 46:=by rw [hW1];exact rb_new w _ _
 have HI:=Lib.hid (hIs W1 hb1)
 have HC:=Lib.hid (fun u (hu:Below w.heap.size w u)=>contains_any u la ln lc live (k:Int) hln (hl.next hu))
 have HWE:Hid (w.alloc (.cells (kpV ra n rc la ln lc aa an ac) 46)=W1):=Lib.hid hW1.symm
 have HBu:=Lib.hid hb1
 have HR1:=Lib.hid hr1
 have HY:=Lib.hid h
 have HM:=Lib.hid hm
 obtain ⟨S,hS⟩:∃ S,S=L.map (·.sc):=⟨_,rfl⟩
 have hSl:S.length=n:=by rw [hS,List.length_map];exact hs.len.symm
 rw [<-hS] at h HI HY ⊢
 have hn2:n<=256:=by have:=units_len h.1;rw [hSl] at this;exact this
 have hni:(n:Int)<=256:=by omega
 have hkr:rep[k]?=some (k:Int):=by
  have:=h.2.2.2.1
  rw [this] at hm
  obtain ⟨q,hq,he⟩:=List.mem_map.1 hm
  have:q=k:=by have:(q:Int)=(k:Int):=he;omega
  subst this
  exact standL_mem.1 hq
 have hkn:k < n:=by have:=(List.getElem?_eq_some_iff.1 hkr).1;rw [h.2.1.1,hSl] at this;exact this
 obtain ⟨mi,hmi⟩:∃ x,L[k]?=some x:=⟨_,List.getElem?_eq_getElem (by rw [<-hs.len];exact hkn)⟩
 have HSi:Hid (S[k]?=some mi.sc):=Lib.hid (by rw [hS,List.getElem?_map,hmi];rfl)
 have HQi:=Lib.hid (units_sec h.1 HSi.out)
 have HNo:=Lib.hid (fun u (hu:Below w.heap.size w u)=>(hno.next hu) mi (List.mem_of_getElem? hmi))
 have HR:=Lib.hid (fun u (hu:Below w.heap.size w u)=>hr.next hu)
 have HRl:Hid (rep.length=n):=Lib.hid hr.len.symm
 have HSl:=Lib.hid hSl
 have HMi:=Lib.hid hmi
 have HS:=Lib.hid hs
 have hki:(k:Int) < (n:Int):=by omega
 obtain ⟨X,hX⟩:∃ x,x=w.heap.size:=⟨_,rfl⟩
 have HX:=Lib.hid hX
 rw [<-hX] at HR1
 have x0:W1.cell? ⟨X,0,none⟩=some (.slice ra n rc):=hX ▸ hr1.cell
 have x1:W1.cell? ⟨X,1,none⟩=some (.slice la ln lc):=hX ▸ hr1.cell
 have x2:W1.cell? ⟨X,2,none⟩=some (.slice aa an ac):=hX ▸ hr1.cell
 rw [hW1,hX] at x0 x1 x2
 obtain ⟨ub,uo,hua,-,-⟩:=hs.cells (by intro e;rw [e] at hmi;cases hmi)
 subst hua
 obtain ⟨rb,ro,hra,-,-⟩:=hr.cells (by intro e;rw [e] at hkr;cases hkr)
 subst hra
 clear hIs hl hln h hW1 hb1 hr1 hX hs hno hr hm hS hSl hn2 hkr hkn hmi
 go_enter Tryz.func33,Tryz.ntmps33
 go_wp2_with fail
 have hwe:=HWE.out
 simp only [kpV] at hwe
 (try simp only [kpV])
 rw [hwe]
 (try rw [<-HX.out])
 clear x0 x1 x2 hwe
 refine HI.out.mono ?_
 rintro e u ⟨r,rfl,hrr,hb⟩
 have HB:=Lib.hid (after HBu.out hb)
 have HR2:=Lib.hid (HR1.out.next hb)
 have hrt:r=true:=hrr.2 HY.out
 subst hrt
 clear hb hrr
 have x1:u.cell? ⟨X,1,none⟩=some (.slice la ln lc):=HR2.out.cell
 have HCu:=Lib.hid (HC.out u HB.out)
 rw [decide_eq_true HM.out] at HCu
 have hul:=HS.out.next HB.out
 obtain ⟨-,-,-,-,-,y5⟩:=unit_cells hul (Below.refl _ _) HMi.out
 have HNi:=Lib.hid (HNo.out u HB.out)
 clear hul
 obtain ⟨⟨mn,mk0,mp,ml,md,mr⟩,ma,mc⟩:=mi
 simp only at y5 HNi HSi HQi
 obtain ⟨pn,hpn⟩:∃ r,r=mr.length:=⟨_,rfl⟩
 rw [<-hpn] at y5
 have HPn:=Lib.hid hpn
 have hpi:(pn:Int)<=64:=by have:=HQi.out.1.rels;simp only at this;omega
 have HRk:Hid (refsK S rep k=mr.map (newRl rep)):=Lib.hid (refsK_get HSi.out)
 have HQ0:Hid (RRf u u [] none 0):=Lib.hid ⟨World.ownsRow_nil _ _ _ _,Below.refl _ _⟩
 clear hpn
 go_wp2_with (go_at_call 61;refine HCu.out.mono ?_;rintro e w' ⟨rfl,hw⟩;obtain rfl:=hw.symm)
 go_loopw [8,28] (fun l i wr=>∃ (q:Nat) (wx:World) (rs:List Rl) (a:Option Addr) (m c:Nat),wx=wr/\q<=pn/\l=.slice a m c/\i=.int .i64 q/\Hid (m=rs.length)/\Hid (RRf u wx rs a c)/\Hid (rs=(mr.take q).map (newRl rep))) (fun _ i _=>pn - (intOf i).toNat)
 case atStart=>exact ⟨0,_,[],none,0,0,rfl,by omega,rfl,rfl,Lib.hid rfl,HQ0,Lib.hid rfl⟩
 case round=>
  clear HQ0 x1 y5
  obtain ⟨q,wx,rs,a,m,c,rfl,hq,rfl,rfl,HQq,HQ,HRs⟩:=hrel
  by_cases hlt:q < pn
  ·have hlti:(q:Int) < (pn:Int):=by omega
   have HLT:=Lib.hid hlt
   have hbx:=HQ.out.kk
   have hk1:q < mr.length:=by rw [<-HPn.out];exact hlt
   obtain ⟨b1,o1,hae1,hB1,hc1⟩:=(HNi.out.next hbx).cells (by intro e;rw [e] at hk1;simp at hk1)
   subst hae1
   obtain ⟨c0,c1,c2,c3⟩:=rl_cells (fun q' hq'=>hc1 q hk1 q' hq')
   obtain ⟨x,hx⟩:∃ x,x=mr[q]:=⟨_,rfl⟩
   have hxx:mr[q]?=some x:=by rw [hx];exact List.getElem?_eq_getElem hk1
   obtain ⟨a0,a1⟩:=HQi.out.2 x (List.mem_of_getElem? hxx)
   rw [<-hx] at c0 c1 c2 c3
   obtain ⟨t,ht⟩:∃ a:Nat,x.sym=(a:Int):=⟨x.sym.toNat,by omega⟩
   rw [ht] at c2
   rw [ht,HSl.out] at a1
   obtain ⟨xv,hxv⟩:∃ v,rep[t]?=some v:=⟨_,List.getElem?_eq_getElem (by rw [HRl.out];omega)⟩
   obtain ⟨xp,hxp⟩:∃ z,z=x.pos:=⟨_,rfl⟩
   obtain ⟨xk,hxk⟩:∃ z,z=x.kind:=⟨_,rfl⟩
   obtain ⟨xa,hxa⟩:∃ z,z=x.add:=⟨_,rfl⟩
   rw [<-hxp] at c0
   rw [<-hxk] at c1
   rw [<-hxa] at c3
   have HNr:Hid (newRl rep x=⟨xp,xk,xv,xa⟩):=Lib.hid (by unfold newRl;rw [ht,Int.toNat_natCast,hxv,hxp,hxk,hxa];rfl)
   obtain ⟨Wb,hWb⟩:∃ y,y=wx.alloc (.cells #[.int .i64 xp,.int .i64 xk,.int .i64 (t:Int),.int .i64 xa] 61):=⟨_,rfl⟩
   have hbb:Below wx.heap.size wx Wb:=by rw [hWb];exact lit_below wx _
   have g0:Wb.cell? ⟨X,0,none⟩=some (.slice (some ⟨rb,ro,none⟩) n rc):=((HR2.out.next hbx).next hbb).cell
   have g1:Wb.cell? ⟨rb,ro+t,none⟩=some (.int .i64 xv):=ints_cells (HR.out Wb (after (after HB.out hbx) hbb)) (Below.refl _ _) hxv
   have hrv:RB Wb wx.heap.size #[.int .i64 xp,.int .i64 xk,.int .i64 (t:Int),.int .i64 xa] 61:=by rw [hWb];exact rb_new wx _ _
   have g2:Wb.cell? ⟨wx.heap.size,2,none⟩=some (.int .i64 (t:Int)):=hrv.cell
   rw [hWb] at g0 g1 g2
   have hti:(t:Int) < (n:Int):=a1
   have HR5:Hid (rs ++ [(⟨xp,xk,xv,xa⟩:Rl)]=(mr.take (q+1)).map (newRl rep)):=Lib.hid (by rw [List.take_add_one,hxx,List.map_append,<-HRs.out,<-HNr.out];rfl)
   have hql:Hid (m<=64):=Lib.hid (by rw [HQq.out,HRs.out,List.length_map];have:=HPn.out;rw [List.length_take];omega)
   have hx0:Hid (u.heap.size<=wx.heap.size):=Lib.hid HQ.out.kk.size
   have HQ1:=Lib.hid (HQ.out.alloc (.cells #[.int .i64 xp,.int .i64 xk,.int .i64 xv,.int .i64 xa] 61))
   have HNw:Hid (((wx.alloc (.cells #[.int .i64 xp,.int .i64 xk,.int .i64 xv,.int .i64 xa] 61)).alloc (.cells #[.int .i64 xp,.int .i64 xk,.int .i64 xv,.int .i64 xa] 61)).heap[wx.heap.size+1]?=some (.cells #[.int .i64 xp,.int .i64 xk,.int .i64 xv,.int .i64 xa] 61)):=Lib.hid (by have:=heap_alloc_new (wx.alloc (.cells #[.int .i64 xp,.int .i64 xk,.int .i64 xv,.int .i64 xa] 61)) (.cells #[.int .i64 xp,.int .i64 xk,.int .i64 xv,.int .i64 xa] 61);rw [World.size_alloc] at this;exact this)
   clear hbx hk1 hB1 hc1 hx hxx a0 a1 ht hxv hxp hxk hxa hWb hbb hrv hlt hq HNr
   go_wp2_with (at_builtin;refine wpList_append_lies _ rfl _ _ 41 rfl u.heap.size 61 i0 (.agg #[.int .i64 0,.int .i64 0,.int .i64 0,.int .i64 0]) 4 32 Tryz.underlying41 hi hz0 hz1 hz2 rfl (by decide) (.slice a m c) m (rs.flatMap rlC) rfl (by have:=HQ1.out.oo;rw [<-HQq.out] at this;exact this.alloc _) ⟨wx.heap.size+1,0,none⟩ 1 1 (rlC ⟨xp,xk,xv,xa⟩) rfl rfl (World.news_of_block (cs:=#[.int .i64 xp,.int .i64 xk,.int .i64 xv,.int .i64 xa]) (t:=61) (fr:=(0,0)) HNw.out) (by simp [rlC,Value.oneCell']) (by decide) (by have:=hql.out;unfold maxLen;omega) (by have:=hql.out;omega) (by have:=hx0.out;simp;omega) (wx.heap.size+1+1) (by simp) ?_;intro g cap w2 hown2 hgrow2 hlie2 hlt2)
   rw [HQq.out] at hown2 hgrow2
   have HQ2:=Lib.hid (HQ1.out.grow hown2 hgrow2)
   have HQq2:Hid (m+1=(rs ++ [(⟨xp,xk,xv,xa⟩:Rl)]).length):=Lib.hid (by rw [HQq.out];simp)
   clear hown2 hgrow2 hlie2 hlt2 HQ1 HNw
   go_roundw
   case rel=>exact ⟨q+1,_,_,_,_,_,rfl,by have:=HLT.out;omega,rfl,by go_num,HQq2,HQ2,HR5⟩
   case measure=>have:=HLT.out;simp [intOf];omega
  ·have hlti:¬ (q:Int) < (pn:Int):=by omega
   have hqe:q=pn:=by omega
   have HEnd:Hid (rs=mr.map (newRl rep)):=Lib.hid (by rw [HRs.out,hqe,List.take_of_length_le (by have:=HPn.out;omega)])
   clear hq hlt hqe
   go_wp2
   go_ret2
   rw [HRk.out,<-HEnd.out]
   exact ⟨a,c,by rw [<-HQq.out];rfl,owns_down HQ.out.oo HB.out.size,after HB.out HQ.out.kk⟩
theorem owns_put {w:World} {base:Nat} {e:TypeId} {size:Nat} {g c n:Nat} {xs:List Value} {q:Nat} {x:Value} (h:w.ownsRow base e size (.slice (some ⟨g,0,none⟩) n c) n xs) (hq:q < n*size):
  (w.setCell ⟨g,q,none⟩ x).ownsRow base e size (.slice (some ⟨g,0,none⟩) n c) n (xs.set q x):=by
 refine ⟨by rw [List.length_set];exact h.1,.inr ?_⟩
 rcases h.2 with ⟨hv,-⟩ | ⟨g',cap,cur,hv,hb,hg,h1,h2,h3,h4⟩
 ·cases hv
 ·injection hv with e1 e2 e3
  injection e1 with e1
  injection e1 with e1
  subst e1 e3
  have hrb:RB w g cur e:=hg
  have:=hrb.set (j:=q) x
  refine ⟨g,c,cur.setIfInBounds q x,rfl,hb,this,h1,h2,by simpa using h3,?_⟩
  rw [Array.toList_setIfInBounds,<-h4,List.take_set]
theorem owns_form4 {w:World} {base:Nat} {e:TypeId} {size:Nat} {a:Option Addr} {n c:Nat} {xs:List Value} (h:w.ownsRow base e size (.slice a n c) n xs) (hn:0 < n):∃ g,a=some ⟨g,0,none⟩/\base<=g/\∃ cs,RB w g cs e:=by
 rcases h.2 with ⟨-,h0⟩ | ⟨g,cap,cur,hv,hb,hg,-⟩
 ·omega
 ·injection hv with e1 e2 e3
  exact ⟨g,e1,hb,cur,hg⟩
theorem flat_set (l:List Rl) (q:Nat) (r:Rl) (v:Int) (h:l[q]?=some r):(l.flatMap rlC).set (q*4+2) (.int .i64 v)=(l.set q ⟨r.pos,r.kind,v,r.add⟩).flatMap rlC:=by
 induction l generalizing q with
 | nil=>simp at h
 | cons x t ih=>
  cases q with
  | zero=>
   simp only [List.getElem?_cons_zero,Option.some.injEq] at h
   subst h
   rw [List.set_cons_zero,List.flatMap_cons,List.flatMap_cons]
   rfl
  | succ q=>
   have h2:t[q]?=some r:=by simpa using h
   rw [List.set_cons_succ,List.flatMap_cons,List.flatMap_cons,<-ih q h2]
   rw [List.set_append_right _ _ (by rw [rl_len];omega),rl_len]
   congr 2
   omega
theorem RRf.put {w u:World} {l:List Rl} {g c q:Nat} {r:Rl} {v:Int} (h:RRf w u l (some ⟨g,0,none⟩) c) (hq:l[q]?=some r):
  RRf w (u.setCell ⟨g,q*4+2,none⟩ (.int .i64 v)) (l.set q ⟨r.pos,r.kind,v,r.add⟩) (some ⟨g,0,none⟩) c:=by
 have hl:=(List.getElem?_eq_some_iff.1 hq).1
 have hg:=(h.oo.lt g rfl).1
 refine ⟨?_,h.kk.setCell (p:=⟨g,q*4+2,none⟩) hg _⟩
 rw [List.length_set,<-flat_set l q r v hq]
 exact owns_put h.oo (by omega)
theorem RRf.at {w u:World} {l:List Rl} {a:Option Addr} {c q:Nat} {r:Rl} (h:RRf w u l a c) (hq:l[q]?=some r):
  ∃ g,a=some ⟨g,0,none⟩/\w.heap.size<=g/\g < u.heap.size/\u.frozen? ⟨g,q*4+2,none⟩=false/\
   u.cell? ⟨g,q*4,none⟩=some (.int .i64 r.pos)/\u.cell? ⟨g,q*4+1,none⟩=some (.int .i64 r.kind)/\u.cell? ⟨g,q*4+2,none⟩=some (.int .i64 r.sym)/\u.cell? ⟨g,q*4+3,none⟩=some (.int .i64 r.add):=by
 have hl:=(List.getElem?_eq_some_iff.1 hq).1
 obtain ⟨g,e,hg,cs,hr⟩:=owns_form4 h.oo (by omega)
 have hs:=h.sl
 subst e
 obtain ⟨b,o,e,-,hc⟩:=hs.cells (by intro e;rw [e] at hq;cases hq)
 injection e with e
 injection e with e1 e2
 subst e1 e2
 have hx:l[q]=r:=by have:=(List.getElem?_eq_some_iff.1 hq).2;exact this
 obtain ⟨c0,c1,c2,c3⟩:=rl_cells (fun j hj=>hc q hl j hj)
 rw [hx] at c0 c1 c2 c3
 simp only [Nat.zero_add] at c0 c1 c2 c3
 exact ⟨g,rfl,hg,lt_of_block hr,hr.frozen,c0,c1,c2,c3⟩
end Go.Proofs.YtbabckomagkjbaaGreatDoor
