/- shrink: the document's row, plain; cleatref23.Same. shrink: the document's row, walked. -/
import Derived.Test.YtbabckomagkjbaaGreatDoorsZ
set_option maxRecDepth 100000
set_option maxHeartbeats 3000000
set_option linter.unusedVariables false
set_option linter.unusedSimpArgs false
namespace Go.Proofs.YtbabckomagkjbaaGreatDoor
open Go.ChangeShapes Go.WideShapes Go.Deep Go.RowKit
def rS (a:Int):Sc:=⟨[114],1,false,a,[192,3,95,214],[]⟩
def mS:Sc:=⟨[109],1,false,0,[0,0,0,148,0,0,0,148],[⟨0,2,2,0⟩,⟨4,2,3,0⟩]⟩
def dS:Sc:=⟨[100],3,true,0,[],[]⟩
def rowU:List Sc:=[dS,mS,rS 2,rS 4,rS 2]
def insU:List Bool:=[true,true,true,true,false]
def repU:List Int:=[0,1,2,2,-1]
theorem rowU_is:unitsR rowU=true:=by kernel_rfl
theorem rootU:rootZ rowU 1=[0,1]:=by decide +kernel
theorem inU:inS rowU 1=insU:=by
 unfold inS
 rw [rootU]
 have h0:Rch rowU [0,1] 0:=.root (by simp)
 have h1:Rch rowU [0,1] 1:=.root (by simp)
 have h2:Rch rowU [0,1] 2:=.step (s:=mS) (r:=⟨0,2,2,0⟩) h1 rfl (by simp [mS]) rfl
 have h3:Rch rowU [0,1] 3:=.step (s:=mS) (r:=⟨4,2,3,0⟩) h1 rfl (by simp [mS]) rfl
 have h4:¬ Rch rowU [0,1] 4:=by
  intro h
  have:=rch_sub (L:=rowU) (roots:=[0,1]) (fun k=>k < 4) (fun k hk=>by simp at hk;omega) (fun i s hi hs r hr k hk=>by
   have:i=0\/i=1\/i=2\/i=3:=by omega
   rcases this with rfl | rfl | rfl | rfl
   ·simp [rowU,dS] at hs;subst hs;simp at hr
   ·simp [rowU,mS] at hs;subst hs;simp at hr;rcases hr with rfl | rfl <;> (simp at hk;omega)
   ·simp [rowU,rS] at hs;subst hs;simp at hr
   ·simp [rowU,rS] at hs;subst hs;simp at hr) h
  omega
 have get:∀ k,k < 5->∀ b:Bool,(b=true ↔ Rch rowU [0,1] k)->(reachB rowU [0,1])[k]?=some b:=by
  intro k hk b hb
  have hl:k < (reachB rowU [0,1]).length:=by rw [reachB_len];exact hk
  have hi:=reachB_iff (L:=rowU) (roots:=[0,1]) (k:=k) hk
  rw [List.getElem?_eq_getElem hl] at hi ⊢
  congr 1
  rw [Bool.eq_iff_iff,hb,<-hi]
  simp
 apply List.ext_getElem?
 intro k
 by_cases hk:k < 5
 ·have:k=0\/k=1\/k=2\/k=3\/k=4:=by omega
  rcases this with rfl | rfl | rfl | rfl | rfl
  ·rw [get 0 hk true ⟨fun _=>h0,fun _=>rfl⟩];rfl
  ·rw [get 1 hk true ⟨fun _=>h1,fun _=>rfl⟩];rfl
  ·rw [get 2 hk true ⟨fun _=>h2,fun _=>rfl⟩];rfl
  ·rw [get 3 hk true ⟨fun _=>h3,fun _=>rfl⟩];rfl
  ·rw [get 4 hk false ⟨fun h=>(by cases h),fun h=>absurd h h4⟩];rfl
 ·rw [List.getElem?_eq_none (by rw [reachB_len];show 5<=k;omega),List.getElem?_eq_none (by show 5<=k;omega)]
theorem rowU_0:foldN rowU insU 0=[0,1,2,2,4]:=by
 show part1 _ _=_
 rw [part1_raw];decide +kernel
theorem rowU_fix {j:Nat} (h:nextP rowU insU (foldN rowU insU j)=foldN rowU insU j):foldN rowU insU j=[0,1,2,2,4]:=by
 rw [<-rowU_0]
 exact foldN_one h (by rw [rowU_0,nextP_raw];decide +kernel)
theorem endU {j:Nat} (h:nextP rowU insU (foldN rowU insU j)=foldN rowU insU j):endL insU (foldN rowU insU j)=repU:=by
 rw [rowU_fix h];decide +kernel
theorem standU:standL rowU repU=[1,2,0]:=by decide +kernel
theorem alignU:alignL rowU repU=[0,4,0]:=by decide +kernel
theorem refsU:refsK rowU repU 1=[⟨0,2,2,0⟩,⟨4,2,2,0⟩]:=by simp [refsK,rowU,mS,newRl,repU]
theorem lostU:lostK rowU repU 5=[⟨#[114]⟩]:=by decide +kernel
theorem isU {j:Nat} (h:nextP rowU insU (foldN rowU insU j)=foldN rowU insU j):IsQ rowU repU ((standL rowU repU).map Int.ofNat) (alignL rowU repU):=by
 have h2:nextP rowU (reachB rowU (rootZ rowU 1)) (foldN rowU (reachB rowU (rootZ rowU 1)) j)=foldN rowU (reachB rowU (rootZ rowU 1)) j:=by
  have:=inU
  unfold inS at this
  rw [this];exact h
 have h3:=left_reps rowU_is (reachB_len _ _) h2
 have h4:=left_lead rowU_is (by rw [rootU];rfl) h2
 have e:endL (reachB rowU (rootZ rowU 1)) (foldN rowU (reachB rowU (rootZ rowU 1)) j)=repU:=by
  have:=inU
  unfold inS at this
  rw [this];exact endU h
 rw [e] at h3 h4
 exact ⟨rowU_is,h3,h4,rfl,rfl⟩
theorem same23_true (w:World) (ra:Option Addr) (rn rc:Nat) (la:Option Addr) (ln lc:Nat) (aa:Option Addr) (an ac:Nat) (ra':Option Addr) (rc':Nat) (la':Option Addr) (lc':Nat) (aa':Option Addr) (ac':Nat) (rep live align:List Int) (h1:rn<=1000000) (h2:ln<=1000000) (h3:an<=1000000)
  (r1:SL enZ 1 w w.heap.size ra rn rep) (r2:SL enZ 1 w w.heap.size la ln live) (r3:SL enZ 1 w w.heap.size aa an align) (s1:SL enZ 1 w w.heap.size ra' rn rep) (s2:SL enZ 1 w w.heap.size la' ln live) (s3:SL enZ 1 w w.heap.size aa' an align):
  Calls Tryz.prog 30 #[.agg (kpV ra rn rc la ln lc aa an ac),.agg (kpV ra' rn rc' la' ln lc' aa' an ac')] w (RetB (.bool true) w):=by
 obtain ⟨W1,hW1⟩:∃ x,x=w.alloc (.cells (kpV ra rn rc la ln lc aa an ac) 46):=⟨_,rfl⟩
 obtain ⟨W2,hW2⟩:∃ x,x=W1.alloc (.cells (kpV ra' rn rc' la' ln lc' aa' an ac') 46):=⟨_,rfl⟩
 have hb1:Below w.heap.size w W1:=by rw [hW1];exact lit_below _ _
 have hb2:Below W1.heap.size W1 W2:=by rw [hW2];exact lit_below _ _
 have hz:W1.heap.size=w.heap.size+1:=by rw [hW1,World.size_alloc]
 have HX:Hid (RB W2 w.heap.size (kpV ra rn rc la ln lc aa an ac) 46):=Lib.hid ((show RB W1 w.heap.size (kpV ra rn rc la ln lc aa an ac) 46 by rw [hW1];exact rb_new _ _ _).next hb2)
 have HY:Hid (RB W2 (w.heap.size+1) (kpV ra' rn rc' la' ln lc' aa' an ac') 46):=Lib.hid (by rw [<-hz,hW2];exact rb_new _ _ _)
 have HB:=Lib.hid (after hb1 hb2)
 obtain ⟨X,hX⟩:∃ x,x=w.heap.size:=⟨_,rfl⟩
 rw [<-hX] at HX HY
 have HXe:=Lib.hid hX
 have HS1:Hid (∀ u,Below w.heap.size w u->Calls Tryz.prog 17 #[.slice ra rn rc,.slice ra' rn rc'] u (RetB (.bool true) u)):=Lib.hid (fun u hu=>by have:=sameI_any ra ra' rn rn rc rc' rep rep u h1 h1 (r1.next hu) (s1.next hu);rwa [decide_eq_true (rfl:rep=rep)] at this)
 have HS2:Hid (∀ u,Below w.heap.size w u->Calls Tryz.prog 17 #[.slice la ln lc,.slice la' ln lc'] u (RetB (.bool true) u)):=Lib.hid (fun u hu=>by have:=sameI_any la la' ln ln lc lc' live live u h2 h2 (r2.next hu) (s2.next hu);rwa [decide_eq_true (rfl:live=live)] at this)
 have HS3:Hid (∀ u,Below w.heap.size w u->Calls Tryz.prog 17 #[.slice aa an ac,.slice aa' an ac'] u (RetB (.bool true) u)):=Lib.hid (fun u hu=>by have:=sameI_any aa aa' an an ac ac' align align u h3 h3 (r3.next hu) (s3.next hu);rwa [decide_eq_true (rfl:align=align)] at this)
 have x0:W2.cell? ⟨X,0,none⟩=some (.slice ra rn rc):=HX.out.cell
 have y0:W2.cell? ⟨X+1,0,none⟩=some (.slice ra' rn rc'):=HY.out.cell
 rw [hW2,hW1,hX] at x0 y0
 have HWE:Hid ((w.alloc (.cells (kpV ra rn rc la ln lc aa an ac) 46)).alloc (.cells (kpV ra' rn rc' la' ln lc' aa' an ac') 46)=W2):=Lib.hid (by rw [hW2,hW1])
 clear r1 r2 r3 s1 s2 s3 h1 h2 h3 hW1 hW2 hb1 hb2 hz hX
 go_enter Tryz.func30,Tryz.ntmps30
 go_wp2_with fail
 have hwe:=HWE.out
 simp only [kpV] at hwe
 (try simp only [kpV])
 rw [hwe]
 rw [<-HXe.out]
 clear hwe x0 y0
 refine (HS1.out W2 HB.out).mono ?_
 rintro e u1 ⟨rfl,hb⟩
 replace HB:=Lib.hid (after HB.out hb)
 replace HX:=Lib.hid (HX.out.next hb)
 replace HY:=Lib.hid (HY.out.next hb)
 clear hb
 have x1:u1.cell? ⟨X,1,none⟩=some (.slice la ln lc):=HX.out.cell
 have y1:u1.cell? ⟨X+1,1,none⟩=some (.slice la' ln lc'):=HY.out.cell
 go_wp2_with fail
 clear x1 y1
 refine (HS2.out u1 HB.out).mono ?_
 rintro e u2 ⟨rfl,hb⟩
 replace HB:=Lib.hid (after HB.out hb)
 replace HX:=Lib.hid (HX.out.next hb)
 replace HY:=Lib.hid (HY.out.next hb)
 clear hb
 have x2:u2.cell? ⟨X,2,none⟩=some (.slice aa an ac):=HX.out.cell
 have y2:u2.cell? ⟨X+1,2,none⟩=some (.slice aa' an ac'):=HY.out.cell
 go_wp2_with fail
 clear x2 y2
 refine (HS3.out u2 HB.out).mono ?_
 rintro e u3 ⟨rfl,hb⟩
 replace HB:=Lib.hid (after HB.out hb)
 clear hb
 go_wp2
 go_ret
 exact ⟨rfl,HB.out⟩
end Go.Proofs.YtbabckomagkjbaaGreatDoor
namespace Go.Proofs.YtbabckomagkjbaaGreatDoor
open Go.ChangeShapes Go.WideShapes Go.Deep Go.RowKit
def rowM (b:Nat):List Ms:=[⟨dS,none,0⟩,⟨mS,some ⟨b,0,none⟩,2⟩,⟨rS 2,none,0⟩,⟨rS 4,none,0⟩,⟨rS 2,none,0⟩]
theorem rowM_sc (b:Nat):(rowM b).map (·.sc)=rowU:=rfl
theorem units_lit5 (u:World) (L:List Ms):SL msC 6 (u.alloc (.cells (L.flatMap msC).toArray 43)) (u.alloc (.cells (L.flatMap msC).toArray 43)).heap.size (some ⟨u.heap.size,0,none⟩) L.length L:=by
 rw [World.size_alloc];exact SL.lit u 43 L ms_len (by decide) _ rfl L.length rfl
theorem refs_lit (u:World) (l:List Rl):SL rlC 4 (u.alloc (.cells (l.flatMap rlC).toArray 61)) (u.alloc (.cells (l.flatMap rlC).toArray 61)).heap.size (some ⟨u.heap.size,0,none⟩) l.length l:=by
 rw [World.size_alloc];exact SL.lit u 61 l rl_len (by decide) _ rfl l.length rfl
theorem ints_lit (u:World) (l:List Int):SL enZ 1 (u.alloc (.cells (l.flatMap enZ).toArray 3)) (u.alloc (.cells (l.flatMap enZ).toArray 3)).heap.size (some ⟨u.heap.size,0,none⟩) l.length l:=by
 rw [World.size_alloc];exact SL.lit u 3 l enz_len (by decide) _ rfl l.length rfl
theorem strs_lit (u:World) (l:List ByteArray):SL enS 1 (u.alloc (.cells (l.flatMap enS).toArray 9)) (u.alloc (.cells (l.flatMap enS).toArray 9)).heap.size (some ⟨u.heap.size,0,none⟩) l.length l:=by
 rw [World.size_alloc];exact SL.lit u 9 l enS_len (by decide) _ rfl l.length rfl
theorem rowM_notes {u:World} {b:Nat} (h:SL rlC 4 u u.heap.size (some ⟨b,0,none⟩) 2 mS.rels):Notes u u.heap.size (rowM b):=by
 intro m hm
 simp only [rowM,List.mem_cons,List.not_mem_nil,or_false] at hm
 rcases hm with rfl | rfl | rfl | rfl | rfl
 ·exact ⟨rfl,fun h=>absurd rfl h⟩
 ·exact h
 ·exact ⟨rfl,fun h=>absurd rfl h⟩
 ·exact ⟨rfl,fun h=>absurd rfl h⟩
 ·exact ⟨rfl,fun h=>absurd rfl h⟩
theorem small_good (s:Sc) (h1:s.name.length<=10) (h2:0<=s.kind/\s.kind<=10) (h3:0<=s.align/\s.align<=10) (h4:s.data.length<=10) (h5:∀ r ∈ s.rels,(0<=r.pos/\r.pos<=10)/\(0<=r.kind/\r.kind<=10)/\(0<=r.sym/\r.sym<=10)/\(0<=r.add/\r.add<=10)):GoodSc s:=by
 refine ⟨?_,?_,?_,?_,?_⟩
 ·unfold maxLen;omega
 ·unfold i64ok;omega
 ·unfold i64ok;omega
 ·unfold maxLen;omega
 ·intro r hr
  obtain ⟨a,b,c,d⟩:=h5 r hr
  refine ⟨?_,?_,?_,?_⟩ <;> (simp only [i64ok];omega)
theorem rowM_good (b:Nat):∀ m ∈ rowM b,GoodSc m.sc:=by
 intro m hm
 simp only [rowM,List.mem_cons,List.not_mem_nil,or_false] at hm
 rcases hm with rfl | rfl | rfl | rfl | rfl <;> dsimp only <;> refine small_good _ (by decide) (by decide) (by decide) (by decide) ?_ <;> intro r hr
 ·cases hr
 ·simp only [mS,List.mem_cons,List.not_mem_nil,or_false] at hr
  rcases hr with rfl | rfl <;> decide
 ·cases hr
 ·cases hr
 ·cases hr
theorem rowM_few (b:Nat):∀ m ∈ rowM b,m.sc.rels.length*32<=reachBytes:=by
 intro m hm
 simp only [rowM,List.mem_cons,List.not_mem_nil,or_false] at hm
 rcases hm with rfl | rfl | rfl | rfl | rfl
 ·exact Nat.zero_le _
 ·show 2*32<=_;unfold reachBytes;omega
 ·exact Nat.zero_le _
 ·exact Nat.zero_le _
 ·exact Nat.zero_le _
def ShrU (w:World) (e:Ending) (w':World):Prop:=∃ (Z:Nat) (la:Option Addr) (lc:Nat) (aa:Option Addr) (ac:Nat),e=.returned (.tuple #[.agg #[.slice (some ⟨Z,0,none⟩) 5 5,.slice la 3 lc,.slice aa 3 ac],.int .i64 0])/\
 SL enZ 1 w' w'.heap.size (some ⟨Z,0,none⟩) 5 repU/\SL enZ 1 w' w'.heap.size la 3 [1,2,0]/\SL enZ 1 w' w'.heap.size aa 3 [0,4,0]/\Below w.heap.size w w'
theorem shrU_of {w:World} {e:Ending} {w':World} (h:ShrP rowU 1 5 w e w'):ShrU w e w':=by
 obtain ⟨j,Z,la,lc,aa,ac,hfx,he,hz,hl,ha,hb⟩:=h
 rw [inU] at hfx he hz hl ha
 rw [endU hfx] at he hz hl ha
 rw [standU] at he hl ha
 rw [alignU] at ha
 exact ⟨Z,la,lc,aa,ac,he,rb_slI hz,hl,ha,hb⟩
theorem isUU:IsQ rowU repU [1,2,0] [0,4,0]:=by
 have h:=isU (j:=0) (by rw [rowU_0,nextP_raw];decide +kernel)
 rw [standU,alignU] at h
 exact h
structure UK (u:World) (ua:Addr) (b:Nat):Prop where
 us:SL msC 6 u u.heap.size (some ua) 5 (rowM b)
 no:Notes u u.heap.size (rowM b)
 tt:TabP u
theorem UK.next {u v:World} {ua:Addr} {b:Nat} (h:UK u ua b) (hb:Below u.heap.size u v):UK v ua b:=⟨h.us.next hb,h.no.next hb,h.tt.next hb⟩
theorem UK.shrink {u:World} {ua:Addr} {b c:Nat} (h:UK u ua b):Calls Tryz.prog 27 #[.slice (some ua) 5 c,.int .i64 1] u (ShrU u):=
 (shrink_yes u (some ua) 5 c (rowM b) 1 (by unfold maxLen;omega) h.us h.no (rowM_good b) (rowM_few b) h.tt (by rw [rowM_sc];exact ⟨rowU_is,by omega,by omega⟩)).mono fun e w' hp=>shrU_of (by rw [rowM_sc] at hp;exact hp)
structure KK (u:World) (Z:Nat) (la aa:Option Addr):Prop where
 rz:SL enZ 1 u u.heap.size (some ⟨Z,0,none⟩) 5 repU
 rl:SL enZ 1 u u.heap.size la 3 [1,2,0]
 ra:SL enZ 1 u u.heap.size aa 3 [0,4,0]
theorem KK.next {u v:World} {Z:Nat} {la aa:Option Addr} (h:KK u Z la aa) (hb:Below u.heap.size u v):KK v Z la aa:=⟨h.rz.next hb,h.rl.next hb,h.ra.next hb⟩
theorem UK.is {u:World} {ua:Addr} {b c Z lc ac:Nat} {la aa:Option Addr} (h:UK u ua b) (k:KK u Z la aa):Calls Tryz.prog 39 #[.slice (some ua) 5 c,.agg (kpV (some ⟨Z,0,none⟩) 5 5 la 3 lc aa 3 ac)] u (IffP (IsQ rowU repU [1,2,0] [0,4,0]) u):=
 shrIs_any u (some ua) 5 c (rowM b) (some ⟨Z,0,none⟩) 5 5 repU la 3 lc [1,2,0] aa 3 ac [0,4,0] (by unfold maxLen;omega) h.us h.no (rowM_good b) (rowM_few b) k.rz k.rl k.ra (by unfold maxLen;omega) (by unfold maxLen;omega) (by unfold maxLen;omega) h.tt
theorem UK.isT {u:World} {ua:Addr} {b c Z lc ac:Nat} {la aa:Option Addr} (h:UK u ua b) (k:KK u Z la aa):Calls Tryz.prog 39 #[.slice (some ua) 5 c,.agg (kpV (some ⟨Z,0,none⟩) 5 5 la 3 lc aa 3 ac)] u (RetB (.bool true) u):=
 (h.is k).mono fun e w' hp=>by
  obtain ⟨r,he,hr,hb⟩:=hp
  rw [hr.2 isUU] at he
  exact ⟨he,hb⟩
theorem UK.refs {u:World} {ua:Addr} {b c Z lc ac:Nat} {la aa:Option Addr} (h:UK u ua b) (k:KK u Z la aa):Calls Tryz.prog 33 #[.slice (some ua) 5 c,.agg (kpV (some ⟨Z,0,none⟩) 5 5 la 3 lc aa 3 ac),.int .i64 1] u (RefsP [⟨0,2,2,0⟩,⟨4,2,2,0⟩] u):=by
 have:=refs_yes u (some ua) 5 c (rowM b) (some ⟨Z,0,none⟩) 5 repU la 3 lc [1,2,0] aa 3 ac [0,4,0] 1 h.us h.no k.rz k.rl (by unfold maxLen;omega) (fun v hv=>(h.next hv).is (k.next hv)) isUU (by simp)
 rw [rowM_sc,refsU] at this
 exact this
theorem UK.refsNo {u:World} {ua:Addr} {b c Z lc ac:Nat} {la aa:Option Addr} (h:UK u ua b) (k:KK u Z la aa):Calls Tryz.prog 33 #[.slice (some ua) 5 c,.agg (kpV (some ⟨Z,0,none⟩) 5 5 la 3 lc aa 3 ac),.int .i64 3] u (RetB (.tuple #[.slice none 0 0,.int .i64 1]) u):=
 refs_no u (some ua) 5 c #[] (fun _=>True) (some ⟨Z,0,none⟩) 5 5 la 3 lc aa 3 ac 3 [1,2,0] _ k.rl (by unfold maxLen;omega) (fun v hv=>(h.next hv).is (k.next hv)) (by simp)
theorem UK.lost {u:World} {ua:Addr} {b c Z lc ac:Nat} {la aa:Option Addr} (h:UK u ua b) (k:KK u Z la aa):Calls Tryz.prog 35 #[.slice (some ua) 5 c,.agg (kpV (some ⟨Z,0,none⟩) 5 5 la 3 lc aa 3 ac)] u (LostP [⟨#[114]⟩] u):=by
 have:=lost_yes u (some ua) 5 c (rowM b) (some ⟨Z,0,none⟩) 5 repU la 3 lc [1,2,0] aa 3 ac [0,4,0] h.us k.rz (fun v hv=>(h.next hv).is (k.next hv)) isUU
 rw [rowM_sc,lostU] at this
 exact this
abbrev retU (a:Int):Array Value:=#[.string ⟨#[114]⟩,.int .i64 1,.bool false,.int .i64 a,.string ⟨#[192,3,95,214]⟩,.slice none 0 0]
theorem shrunk_is (w:World) (hT:TabP w):Calls Tryz.prog 29 #[] w (RetB (.bool true) w):=by
 obtain ⟨H,hH⟩:∃ H,H=w.heap.size:=⟨_,rfl⟩
 obtain ⟨W1,hW1⟩:∃ x,x=w.alloc (.cells (retU 2) 43):=⟨_,rfl⟩
 obtain ⟨W2,hW2⟩:∃ x,x=W1.alloc (.cells (retU 4) 43):=⟨_,rfl⟩
 obtain ⟨W3,hW3⟩:∃ x,x=W2.alloc (.cells (mS.rels.flatMap rlC).toArray 61):=⟨_,rfl⟩
 obtain ⟨W4,hW4⟩:∃ x,x=W3.alloc (.cells ((rowM (H+1+1)).flatMap msC).toArray 43):=⟨_,rfl⟩
 have hb1:Below w.heap.size w W1:=by rw [hW1];exact lit_below _ _
 have hb2:Below W1.heap.size W1 W2:=by rw [hW2];exact lit_below _ _
 have hb3:Below W2.heap.size W2 W3:=by rw [hW3];exact lit_below _ _
 have hb4:Below W3.heap.size W3 W4:=by rw [hW4];exact lit_below _ _
 have hz1:W1.heap.size=H+1:=by rw [hW1,World.size_alloc,hH]
 have hz2:W2.heap.size=H+1+1:=by rw [hW2,World.size_alloc,hz1]
 have hz3:W3.heap.size=H+1+1+1:=by rw [hW3,World.size_alloc,hz2]
 have r1:RB W1 H (retU 2) 43:=by rw [hW1,hH];exact rb_new _ _ _
 have r1':RB W3 H (retU 2) 43:=(r1.next hb2).next hb3
 have r2:RB W3 (H+1) (retU 4) 43:=(show RB W2 (H+1) (retU 4) 43 by rw [<-hz1,hW2];exact rb_new _ _ _).next hb3
 have hB4:=after hb1 (after hb2 (after hb3 hb4))
 have hn:SL rlC 4 W4 W4.heap.size (some ⟨H+1+1,0,none⟩) 2 mS.rels:=by
  have:SL rlC 4 W3 W3.heap.size (some ⟨W2.heap.size,0,none⟩) 2 mS.rels:=by rw [hW3];exact refs_lit W2 mS.rels
  rw [hz2] at this
  exact this.next hb4
 have HUK:Hid (UK W4 ⟨H+1+1+1,0,none⟩ (H+1+1)):=Lib.hid ⟨by
  have:SL msC 6 W4 W4.heap.size (some ⟨W3.heap.size,0,none⟩) 5 (rowM (H+1+1)):=by rw [hW4];exact units_lit5 W3 (rowM (H+1+1))
  rw [hz3] at this
  exact this,rowM_notes hn,hT.next hB4⟩
 have HB:=Lib.hid hB4
 have x0:W1.cell? ⟨H,0,none⟩=some (.string ⟨#[114]⟩):=r1.cell
 have x1:W1.cell? ⟨H,1,none⟩=some (.int .i64 1):=r1.cell
 have x2:W1.cell? ⟨H,2,none⟩=some (.bool false):=r1.cell
 have x3:W1.cell? ⟨H,3,none⟩=some (.int .i64 2):=r1.cell
 have x4:W1.cell? ⟨H,4,none⟩=some (.string ⟨#[192,3,95,214]⟩):=r1.cell
 have x5:W1.cell? ⟨H,5,none⟩=some (.slice none 0 0):=r1.cell
 have y0:W3.cell? ⟨H,0,none⟩=some (.string ⟨#[114]⟩):=r1'.cell
 have y1:W3.cell? ⟨H,1,none⟩=some (.int .i64 1):=r1'.cell
 have y2:W3.cell? ⟨H,2,none⟩=some (.bool false):=r1'.cell
 have y3:W3.cell? ⟨H,3,none⟩=some (.int .i64 2):=r1'.cell
 have y4:W3.cell? ⟨H,4,none⟩=some (.string ⟨#[192,3,95,214]⟩):=r1'.cell
 have y5:W3.cell? ⟨H,5,none⟩=some (.slice none 0 0):=r1'.cell
 have z0:W3.cell? ⟨H+1,0,none⟩=some (.string ⟨#[114]⟩):=r2.cell
 have z1:W3.cell? ⟨H+1,1,none⟩=some (.int .i64 1):=r2.cell
 have z2:W3.cell? ⟨H+1,2,none⟩=some (.bool false):=r2.cell
 have z3:W3.cell? ⟨H+1,3,none⟩=some (.int .i64 4):=r2.cell
 have z4:W3.cell? ⟨H+1,4,none⟩=some (.string ⟨#[192,3,95,214]⟩):=r2.cell
 have z5:W3.cell? ⟨H+1,5,none⟩=some (.slice none 0 0):=r2.cell
 have eL:(mS.rels.flatMap rlC).toArray=#[.int .i64 0,.int .i64 2,.int .i64 2,.int .i64 0,.int .i64 4,.int .i64 2,.int .i64 3,.int .i64 0]:=rfl
 rw [eL] at hW3
 rw [hW3,hW2,hW1] at y0 y1 y2 y3 y4 y5 z0 z1 z2 z3 z4 z5
 rw [hW1] at x0 x1 x2 x3 x4 x5
 rw [hH] at x0 x1 x2 x3 x4 x5 y0 y1 y2 y3 y4 y5 z0 z1 z2 z3 z4 z5
 have HWE:Hid ((((w.alloc (.cells (retU 2) 43)).alloc (.cells (retU 4) 43)).alloc (.cells #[.int .i64 0,.int .i64 2,.int .i64 2,.int .i64 0,.int .i64 4,.int .i64 2,.int .i64 3,.int .i64 0] 61)).alloc (.cells #[.string ⟨#[100]⟩,.int .i64 3,.bool true,.int .i64 0,.string ⟨#[]⟩,.slice none 0 0,.string ⟨#[109]⟩,.int .i64 1,.bool false,.int .i64 0,.string ⟨#[0,0,0,148,0,0,0,148]⟩,.slice (some ⟨H+1+1,0,none⟩) 2 2,.string ⟨#[114]⟩,.int .i64 1,.bool false,.int .i64 2,.string ⟨#[192,3,95,214]⟩,.slice none 0 0,.string ⟨#[114]⟩,.int .i64 1,.bool false,.int .i64 4,.string ⟨#[192,3,95,214]⟩,.slice none 0 0,.string ⟨#[114]⟩,.int .i64 1,.bool false,.int .i64 2,.string ⟨#[192,3,95,214]⟩,.slice none 0 0] 43)=W4):=Lib.hid (by rw [hW4,hW3,hW2,hW1];rfl)
 have HH:=Lib.hid hH
 clear hW1 hW2 hW3 hW4 hb1 hb2 hb3 hb4 hz1 hz2 hz3 r1 r1' r2 hB4 hn hT eL hH
 go_enter Tryz.func29,Tryz.ntmps29
 go_wp2_with fail
 rw [<-HH.out]
 have hwe:=HWE.out
 simp only [retU] at hwe
 rw [hwe]
 clear hwe HWE x0 x1 x2 x3 x4 x5 y0 y1 y2 y3 y4 y5 z0 z1 z2 z3 z4 z5
 refine HUK.out.shrink.mono ?_
 rintro e u1 ⟨Z,la,lc,aa,ac,rfl,k1,k2,k3,hb⟩
 replace HB:=Lib.hid (after HB.out hb)
 replace HUK:=Lib.hid (HUK.out.next hb)
 have HKK:Hid (KK u1 Z la aa):=Lib.hid ⟨k1,k2,k3⟩
 obtain ⟨K,hK⟩:∃ x,x=u1.heap.size:=⟨_,rfl⟩
 obtain ⟨V1,hV1⟩:∃ x,x=u1.alloc (.cells #[.slice (some ⟨Z,0,none⟩) 5 5,.slice la 3 lc,.slice aa 3 ac] 46):=⟨_,rfl⟩
 have hbv:Below u1.heap.size u1 V1:=by rw [hV1];exact lit_below _ _
 have HRK:Hid (RB V1 K #[.slice (some ⟨Z,0,none⟩) 5 5,.slice la 3 lc,.slice aa 3 ac] 46):=Lib.hid (by rw [hV1,hK];exact rb_new _ _ _)
 replace HB:=Lib.hid (after HB.out hbv)
 replace HUK:=Lib.hid (HUK.out.next hbv)
 replace HKK:=Lib.hid (HKK.out.next hbv)
 have x0:V1.cell? ⟨K,0,none⟩=some (.slice (some ⟨Z,0,none⟩) 5 5):=HRK.out.cell
 have x1:V1.cell? ⟨K,1,none⟩=some (.slice la 3 lc):=HRK.out.cell
 have x2:V1.cell? ⟨K,2,none⟩=some (.slice aa 3 ac):=HRK.out.cell
 rw [hV1,hK] at x0 x1 x2
 have HVE:Hid (u1.alloc (.cells #[.slice (some ⟨Z,0,none⟩) 5 5,.slice la 3 lc,.slice aa 3 ac] 46)=V1):=Lib.hid hV1.symm
 have HK:=Lib.hid hK
 clear hb hbv k1 k2 k3 hV1 hK
 go_wp2_with fail
 rw [HVE.out,<-HK.out]
 clear x0 x1 x2
 refine (HUK.out.refs HKK.out).mono ?_
 rintro e u2 ⟨ra,rc,he,hrs,hb⟩
 have he:e=.returned (.tuple #[.slice ra 2 rc,.int .i64 0]):=he
 subst he
 replace HB:=Lib.hid (after HB.out hb)
 replace HUK:=Lib.hid (HUK.out.next hb)
 replace HKK:=Lib.hid (HKK.out.next hb)
 replace HRK:=Lib.hid (HRK.out.next hb)
 have HRs:Hid (SL rlC 4 u2 u2.heap.size ra 2 [⟨0,2,2,0⟩,⟨4,2,2,0⟩]):=Lib.hid hrs
 clear hb hrs
 have x0:u2.cell? ⟨K,0,none⟩=some (.slice (some ⟨Z,0,none⟩) 5 5):=HRK.out.cell
 have x1:u2.cell? ⟨K,1,none⟩=some (.slice la 3 lc):=HRK.out.cell
 have x2:u2.cell? ⟨K,2,none⟩=some (.slice aa 3 ac):=HRK.out.cell
 go_wp2_with fail
 clear x0 x1 x2
 refine (HUK.out.lost HKK.out).mono ?_
 rintro e u3 ⟨oa,oc,he,hos,hb⟩
 have he:e=.returned (.tuple #[.slice oa 1 oc,.int .i64 0]):=he
 subst he
 replace HB:=Lib.hid (after HB.out hb)
 replace HUK:=Lib.hid (HUK.out.next hb)
 replace HKK:=Lib.hid (HKK.out.next hb)
 replace HRK:=Lib.hid (HRK.out.next hb)
 replace HRs:=Lib.hid (HRs.out.next hb)
 have HOs:Hid (SL enS 1 u3 u3.heap.size oa 1 [⟨#[114]⟩]):=Lib.hid hos
 clear hb hos
 have x0:u3.cell? ⟨K,0,none⟩=some (.slice (some ⟨Z,0,none⟩) 5 5):=HRK.out.cell
 have x1:u3.cell? ⟨K,1,none⟩=some (.slice la 3 lc):=HRK.out.cell
 have x2:u3.cell? ⟨K,2,none⟩=some (.slice aa 3 ac):=HRK.out.cell
 go_wp2_with fail
 clear x0 x1 x2
 refine (HUK.out.refsNo HKK.out).mono ?_
 rintro e u4 ⟨rfl,hb⟩
 replace HB:=Lib.hid (after HB.out hb)
 replace HUK:=Lib.hid (HUK.out.next hb)
 replace HKK:=Lib.hid (HKK.out.next hb)
 replace HRK:=Lib.hid (HRK.out.next hb)
 replace HRs:=Lib.hid (HRs.out.next hb)
 replace HOs:=Lib.hid (HOs.out.next hb)
 clear hb
 have x0:u4.cell? ⟨K,0,none⟩=some (.slice (some ⟨Z,0,none⟩) 5 5):=HRK.out.cell
 have x1:u4.cell? ⟨K,1,none⟩=some (.slice la 3 lc):=HRK.out.cell
 have x2:u4.cell? ⟨K,2,none⟩=some (.slice aa 3 ac):=HRK.out.cell
 go_wp2_with fail
 clear x0 x1 x2
 obtain ⟨A1,hA1⟩:∃ x,x=u4.alloc (.cells (repU.flatMap enZ).toArray 3):=⟨_,rfl⟩
 obtain ⟨A2,hA2⟩:∃ x,x=A1.alloc (.cells (([1,2,0]:List Int).flatMap enZ).toArray 3):=⟨_,rfl⟩
 obtain ⟨A3,hA3⟩:∃ x,x=A2.alloc (.cells (([0,4,0]:List Int).flatMap enZ).toArray 3):=⟨_,rfl⟩
 have hz1:A1.heap.size=u4.heap.size+1:=by rw [hA1,World.size_alloc]
 have hz2:A2.heap.size=u4.heap.size+1+1:=by rw [hA2,World.size_alloc,hz1]
 have hc1:Below u4.heap.size u4 A1:=by rw [hA1];exact lit_below _ _
 have hc2:Below A1.heap.size A1 A2:=by rw [hA2];exact lit_below _ _
 have hc3:Below A2.heap.size A2 A3:=by rw [hA3];exact lit_below _ _
 have l1:SL enZ 1 A3 A3.heap.size (some ⟨u4.heap.size,0,none⟩) 5 repU:=((show SL enZ 1 A1 A1.heap.size (some ⟨u4.heap.size,0,none⟩) 5 repU by rw [hA1];exact ints_lit u4 repU).next hc2).next hc3
 have l2:SL enZ 1 A3 A3.heap.size (some ⟨u4.heap.size+1,0,none⟩) 3 [1,2,0]:=(show SL enZ 1 A2 A2.heap.size (some ⟨u4.heap.size+1,0,none⟩) 3 [1,2,0] by rw [<-hz1,hA2];exact ints_lit A1 [1,2,0]).next hc3
 have l3:SL enZ 1 A3 A3.heap.size (some ⟨u4.heap.size+1+1,0,none⟩) 3 [0,4,0]:=by rw [<-hz2,hA3];exact ints_lit A2 [0,4,0]
 have hb:=after hc1 (after hc2 hc3)
 replace HB:=Lib.hid (after HB.out hb)
 replace HUK:=Lib.hid (HUK.out.next hb)
 replace HKK:=Lib.hid (HKK.out.next hb)
 replace HRK:=Lib.hid (HRK.out.next hb)
 replace HRs:=Lib.hid (HRs.out.next hb)
 replace HOs:=Lib.hid (HOs.out.next hb)
 have hve:((u4.alloc (.cells #[.int .i64 0,.int .i64 1,.int .i64 2,.int .i64 2,.int .i64 (-1)] 3)).alloc (.cells #[.int .i64 1,.int .i64 2,.int .i64 0] 3)).alloc (.cells #[.int .i64 0,.int .i64 4,.int .i64 0] 3)=A3:=by rw [hA3,hA2,hA1];rfl
 rw [hve]
 have HSm:=Lib.hid (same23_true A3 (some ⟨Z,0,none⟩) 5 5 la 3 lc aa 3 ac (some ⟨u4.heap.size,0,none⟩) 5 (some ⟨u4.heap.size+1,0,none⟩) 3 (some ⟨u4.heap.size+1+1,0,none⟩) 3 repU [1,2,0] [0,4,0] (by omega) (by omega) (by omega) HKK.out.rz HKK.out.rl HKK.out.ra l1 l2 l3)
 clear hve hb l1 l2 l3 hc1 hc2 hc3 hz1 hz2 hA1 hA2 hA3
 refine HSm.out.mono ?_
 rintro e u5 ⟨rfl,hb⟩
 replace HB:=Lib.hid (after HB.out hb)
 replace HUK:=Lib.hid (HUK.out.next hb)
 replace HKK:=Lib.hid (HKK.out.next hb)
 replace HRK:=Lib.hid (HRK.out.next hb)
 replace HRs:=Lib.hid (HRs.out.next hb)
 replace HOs:=Lib.hid (HOs.out.next hb)
 clear hb HSm
 obtain ⟨rb,ro,e1,-,hcr⟩:=HRs.out.cells (by simp)
 subst e1
 have g2:u5.cell? ⟨rb,ro+4+2,none⟩=some (.int .i64 2):=hcr 1 (by simp) 2 (by omega)
 have g2':u5.cell? ⟨rb,ro+6,none⟩=some (.int .i64 2):=hcr 1 (by simp) 2 (by omega)
 obtain ⟨B1,hB1⟩:∃ x,x=u5.alloc (.cells (([⟨#[114]⟩]:List ByteArray).flatMap enS).toArray 9):=⟨_,rfl⟩
 have hb:Below u5.heap.size u5 B1:=by rw [hB1];exact lit_below _ _
 have l1:SL enS 1 B1 B1.heap.size (some ⟨u5.heap.size,0,none⟩) 1 [⟨#[114]⟩]:=by rw [hB1];exact strs_lit u5 [⟨#[114]⟩]
 clear hcr
 replace HB:=Lib.hid (after HB.out hb)
 replace HUK:=Lib.hid (HUK.out.next hb)
 replace HKK:=Lib.hid (HKK.out.next hb)
 replace HRK:=Lib.hid (HRK.out.next hb)
 replace HRs:=Lib.hid (HRs.out.next hb)
 replace HOs:=Lib.hid (HOs.out.next hb)
 have HS3:=Lib.hid (same13_any B1 oa (some ⟨u5.heap.size,0,none⟩) 1 oc 1 [⟨#[114]⟩] (by omega) HOs.out l1)
 have HVE2:Hid (u5.alloc (.cells #[.string ⟨#[114]⟩] 9)=B1):=Lib.hid (by rw [hB1];rfl)
 clear hb l1 hB1 HVE
 go_wp2_with fail
 rw [HVE2.out]
 clear g2 g2'
 refine HS3.out.mono ?_
 rintro e u6 ⟨rfl,hb⟩
 replace HB:=Lib.hid (after HB.out hb)
 replace HUK:=Lib.hid (HUK.out.next hb)
 replace HKK:=Lib.hid (HKK.out.next hb)
 replace HRK:=Lib.hid (HRK.out.next hb)
 replace HRs:=Lib.hid (HRs.out.next hb)
 replace HOs:=Lib.hid (HOs.out.next hb)
 clear hb HS3
 have x0:u6.cell? ⟨K,0,none⟩=some (.slice (some ⟨Z,0,none⟩) 5 5):=HRK.out.cell
 have x1:u6.cell? ⟨K,1,none⟩=some (.slice la 3 lc):=HRK.out.cell
 have x2:u6.cell? ⟨K,2,none⟩=some (.slice aa 3 ac):=HRK.out.cell
 go_wp2_with fail
 clear x0 x1 x2
 refine (HUK.out.isT HKK.out).mono ?_
 rintro e u7 ⟨rfl,hb⟩
 replace HB:=Lib.hid (after HB.out hb)
 clear hb
 go_wp2
 go_ret
 exact ⟨rfl,HB.out⟩
end Go.Proofs.YtbabckomagkjbaaGreatDoor
