/- The reference of shrink: Refs, Lost, SameRefs. shrink's law, what it wants besides: big. The reference of shrink: Own. What is left, as an argument. -/
import Derived.Test.YtbabckomagkjbaaGreatDoorh2
import Derived.Test.YtbabckomagkjbaaGreatDoorsZ
import Derived.Test.YtbabckomagkjbaaGreatDoork1
import Derived.Lib.AppendZeros
import Derived.Lib.SmallJoins
set_option maxRecDepth 100000
set_option maxHeartbeats 3000000
set_option linter.unusedVariables false
set_option linter.unusedSimpArgs false
namespace Go.Proofs.YtbabckomagkjbaaGreatDoor
open Go.ChangeShapes Go.WideShapes Go.Deep Go.RowKit
theorem rLost_no (w:World) (ua:Option Addr) (n uc:Nat) (ra:Option Addr) (rn rc:Nat) (la:Option Addr) (ln lc:Nat) (aa:Option Addr) (an ac:Nat) (P:Prop)
  (hIs:∀ u,Below w.heap.size w u->Calls Tryz.prog 40 #[.slice ua n uc,.agg (kpV ra rn rc la ln lc aa an ac)] u (IffP P u)) (h:¬ P):
  Calls Tryz.prog 36 #[.slice ua n uc,.agg (kpV ra rn rc la ln lc aa an ac)] w (RetB (.tuple #[.slice none 0 0,.int .i64 1]) w):=by
 obtain ⟨W1,hW1⟩:∃ x,x=w.alloc (.cells (kpV ra rn rc la ln lc aa an ac) 46):=⟨_,rfl⟩
 have hb1:Below w.heap.size w W1:=by rw [hW1];exact lit_below w _
 have hr1:RB W1 w.heap.size (kpV ra rn rc la ln lc aa an ac) 46:=by rw [hW1];exact rb_new w _ _
 have HI:=Lib.hid (hIs W1 hb1)
 have HWE:Hid (w.alloc (.cells (kpV ra rn rc la ln lc aa an ac) 46)=W1):=Lib.hid hW1.symm
 have HBu:=Lib.hid hb1
 have HN:=Lib.hid h
 obtain ⟨X,hX⟩:∃ x,x=w.heap.size:=⟨_,rfl⟩
 have HX:=Lib.hid hX
 have x0:W1.cell? ⟨X,0,none⟩=some (.slice ra rn rc):=hX ▸ hr1.cell
 have x1:W1.cell? ⟨X,1,none⟩=some (.slice la ln lc):=hX ▸ hr1.cell
 have x2:W1.cell? ⟨X,2,none⟩=some (.slice aa an ac):=hX ▸ hr1.cell
 rw [hW1,hX] at x0 x1 x2
 clear hIs h hW1 hb1 hr1 hX
 go_enter Tryz.func36,Tryz.ntmps36
 go_wp2_with fail
 have hwe:=HWE.out
 simp only [kpV] at hwe
 (try simp only [kpV])
 rw [hwe]
 (try rw [<-HX.out])
 clear x0 x1 x2 hwe
 refine HI.out.mono ?_
 rintro e u ⟨r,rfl,hr,hb⟩
 have HB:=Lib.hid (after HBu.out hb)
 have hrf:r=false:=by cases r;rfl;exact absurd (hr.1 rfl) HN.out
 subst hrf
 clear hb hr
 go_wp2
 go_ret2
 exact ⟨rfl,HB.out⟩
theorem rLost_yes (w:World) (ua:Option Addr) (n uc:Nat) (L:List Ms) (ra:Option Addr) (rc:Nat) (rep:List Int) (la:Option Addr) (ln lc:Nat) (live:List Int) (aa:Option Addr) (an ac:Nat) (align:List Int) (hs:SL msC 6 w w.heap.size ua n L)
  (hr:SL enZ 1 w w.heap.size ra n rep)
  (hIs:∀ u,Below w.heap.size w u->Calls Tryz.prog 40 #[.slice ua n uc,.agg (kpV ra n rc la ln lc aa an ac)] u (IffP (IsQ (L.map (·.sc)) rep live align) u)) (h:IsQ (L.map (·.sc)) rep live align):
  Calls Tryz.prog 36 #[.slice ua n uc,.agg (kpV ra n rc la ln lc aa an ac)] w (LostP (lostK (L.map (·.sc)) rep n) w):=by
 obtain ⟨i0,hi,hz0,hz1,hz2⟩:=info_parts info_str
 obtain ⟨W1,hW1⟩:∃ x,x=w.alloc (.cells (kpV ra n rc la ln lc aa an ac) 46):=⟨_,rfl⟩
 have hb1:Below w.heap.size w W1:=by rw [hW1];exact lit_below w _
 have hr1:RB W1 w.heap.size (kpV ra n rc la ln lc aa an ac) 46:=by rw [hW1];exact rb_new w _ _
 have HI:=Lib.hid (hIs W1 hb1)
 have HWE:Hid (w.alloc (.cells (kpV ra n rc la ln lc aa an ac) 46)=W1):=Lib.hid hW1.symm
 have HBu:=Lib.hid hb1
 have HR1:=Lib.hid hr1
 have HY:=Lib.hid h
 obtain ⟨S,hS⟩:∃ S,S=L.map (·.sc):=⟨_,rfl⟩
 have hSl:S.length=n:=by rw [hS,List.length_map];exact hs.len.symm
 rw [<-hS] at h HI HY ⊢
 have hn2:n<=256:=by have:=units_len h.1;rw [hSl] at this;exact this
 have hni:(n:Int)<=256:=by omega
 have HR:=Lib.hid (fun u (hu:Below w.heap.size w u)=>hr.next hu)
 have HRl:Hid (rep.length=n):=Lib.hid hr.len.symm
 have HU:=Lib.hid (fun u (hu:Below w.heap.size w u)=>hs.next hu)
 have HUl:=Lib.hid hs.len
 have HSe:=Lib.hid hS
 have HN:=Lib.hid hn2
 obtain ⟨X,hX⟩:∃ x,x=w.heap.size:=⟨_,rfl⟩
 have HX:=Lib.hid hX
 rw [<-hX] at HR1
 have x0:W1.cell? ⟨X,0,none⟩=some (.slice ra n rc):=hX ▸ hr1.cell
 have x1:W1.cell? ⟨X,1,none⟩=some (.slice la ln lc):=hX ▸ hr1.cell
 have x2:W1.cell? ⟨X,2,none⟩=some (.slice aa an ac):=hX ▸ hr1.cell
 rw [hW1,hX] at x0 x1 x2
 clear hIs h hW1 hb1 hr1 hX hs hr hS hSl hn2
 go_enter Tryz.func36,Tryz.ntmps36
 go_wp2_with fail
 have hwe:=HWE.out
 simp only [kpV] at hwe
 (try simp only [kpV])
 rw [hwe]
 (try rw [<-HX.out])
 clear x0 x1 x2 hwe
 refine HI.out.mono ?_
 rintro e u ⟨r,rfl,hrr,hb⟩
 have HB:=Lib.hid (after HBu.out hb)
 have HR2:=Lib.hid (HR1.out.next hb)
 have hrt:r=true:=hrr.2 HY.out
 subst hrt
 clear hb hrr
 have x0:u.cell? ⟨X,0,none⟩=some (.slice ra n rc):=HR2.out.cell
 have HQ0:Hid (RS u u [] none 0):=Lib.hid ⟨World.ownsRow_nil _ _ _ _,Below.refl _ _⟩
 go_wp2_with fail
 go_loopw [6,7] (fun l i wr=>∃ (q:Nat) (wx:World) (rs:List ByteArray) (a:Option Addr) (m c:Nat),wx=wr/\q<=n/\l=.slice a m c/\i=.int .i64 q/\Hid (m=rs.length)/\Hid (RS u wx rs a c)/\Hid (rs=lostK S rep q)) (fun _ i _=>n - (intOf i).toNat)
 case atStart=>exact ⟨0,_,[],none,0,0,rfl,by omega,rfl,rfl,Lib.hid rfl,HQ0,Lib.hid rfl⟩
 case round=>
  clear HQ0 x0
  obtain ⟨q,wx,rs,a,m,c,rfl,hq,rfl,rfl,HQq,HQ,HRs⟩:=hrel
  by_cases hlt:q < n
  ·have hlti:(q:Int) < (n:Int):=by omega
   have HLT:=Lib.hid hlt
   have hbw:=after HB.out HQ.out.kk
   have x0:wx.cell? ⟨X,0,none⟩=some (.slice ra n rc):=(HR2.out.next HQ.out.kk).cell
   have hrl:=HR.out wx hbw
   have hul:=HU.out wx hbw
   obtain ⟨v,hv⟩:∃ v,rep[q]?=some v:=⟨_,List.getElem?_eq_getElem (by rw [HRl.out];exact hlt)⟩
   obtain ⟨mm,hmm⟩:∃ x,L[q]?=some x:=⟨_,List.getElem?_eq_getElem (by rw [<-HUl.out];exact hlt)⟩
   obtain ⟨rb,ro,hra,-,-⟩:=hrl.cells (by intro e;rw [e] at hv;cases hv)
   obtain ⟨ub,uo,hua,-,-⟩:=hul.cells (by intro e;rw [e] at hmm;cases hmm)
   subst hra
   subst hua
   have r0:wx.cell? ⟨rb,ro+q,none⟩=some (.int .i64 v):=ints_cells hrl (Below.refl _ _) hv
   obtain ⟨y0,-,-,-,-,-⟩:=unit_cells hul (Below.refl _ _) hmm
   obtain ⟨N1,hN1⟩:∃ N:ByteArray,N=⟨mm.sc.name.toArray⟩:=⟨_,rfl⟩
   rw [<-hN1] at y0
   have HV:=Lib.hid hv
   have HSq:Hid (S[q]?=some mm.sc):=Lib.hid (by rw [HSe.out,List.getElem?_map,hmm];rfl)
   have HN1:=Lib.hid hN1
   have hql:Hid (m<=256):=Lib.hid (by rw [HQq.out,HRs.out];have:=lostK_len S rep q;have:=HN.out;omega)
   have hx0:Hid (u.heap.size<=wx.heap.size):=Lib.hid HQ.out.kk.size
   clear hbw hrl hul hv hmm hN1 hlt hq
   by_cases e:v = -1
   ·have t1:(v == -1)=true:=by simp [e]
    have HR5:Hid (rs ++ [N1]=lostK S rep (q+1)):=Lib.hid (by rw [lostK_in (by rw [HV.out,e]) HSq.out,HRs.out,HN1.out])
    have HNw:Hid ((wx.alloc (.cells #[.string N1] 9)).heap[wx.heap.size]?=some (.cells #[.string N1] 9)):=Lib.hid (heap_alloc_new wx _)
    subst e
    go_wp2_with (at_builtin;refine wpList_append_lies _ rfl _ _ 55 rfl u.heap.size 9 i0 (.string ⟨#[]⟩) 1 16 Tryz.underlying55 hi hz0 hz1 hz2 rfl (by decide) (.slice a m c) m (rs.flatMap enS) rfl (by have:=HQ.out.oo;rw [<-HQq.out] at this;exact this.alloc _) ⟨wx.heap.size,0,none⟩ 1 1 (enS N1) rfl rfl (World.news_of_block (cs:=#[.string N1]) (t:=9) (fr:=(0,0)) HNw.out) (by simp [enS,Value.oneCell']) (by decide) (by have:=hql.out;unfold maxLen;omega) (by have:=hql.out;omega) (by have:=hx0.out;simp;omega) (wx.heap.size+1) (by simp) ?_;intro g cap w2 hown2 hgrow2 hlie2 hlt2)
    rw [HQq.out] at hown2 hgrow2
    have HQ2:=Lib.hid (HQ.out.grow hown2 hgrow2)
    have HQq2:Hid (m+1=(rs ++ [N1]).length):=Lib.hid (by rw [HQq.out];simp)
    clear hown2 hgrow2 hlie2 hlt2 HNw
    go_roundw
    case rel=>exact ⟨q+1,_,_,_,_,_,rfl,by have:=HLT.out;omega,rfl,by go_num,HQq2,HQ2,HR5⟩
    case measure=>have:=HLT.out;simp [intOf];omega
   ·have t1:(v == -1)=false:=by simp [e]
    have HR5:Hid (rs=lostK S rep (q+1)):=Lib.hid (by rw [lostK_out (by rw [HV.out];simpa using e)];exact HRs.out)
    clear e
    go_wp2
    go_roundw
    case rel=>exact ⟨q+1,_,_,_,_,_,rfl,by have:=HLT.out;omega,rfl,by go_num,HQq,HQ,HR5⟩
    case measure=>have:=HLT.out;simp [intOf];omega
  ·have hlti:¬ (q:Int) < (n:Int):=by omega
   have hqe:q=n:=by omega
   have HEnd:Hid (rs=lostK S rep n):=Lib.hid (by rw [HRs.out,hqe])
   clear hq hlt hqe
   go_wp2
   go_ret2
   rw [<-HEnd.out]
   exact ⟨a,c,by rw [<-HQq.out];rfl,HQ.out.sl,after HB.out HQ.out.kk⟩
theorem rRefs_no (w:World) (ua:Option Addr) (n uc:Nat) (L:List Ms) (ra:Option Addr) (rn rc:Nat) (rep:List Int) (la:Option Addr) (ln lc:Nat) (live:List Int) (aa:Option Addr) (an ac:Nat) (align:List Int) (at':Int) (hn:n<=maxLen) (hs:SL msC 6 w w.heap.size ua n L) (hr:SL enZ 1 w w.heap.size ra rn rep)
  (hIs:∀ u,Below w.heap.size w u->Calls Tryz.prog 40 #[.slice ua n uc,.agg (kpV ra rn rc la ln lc aa an ac)] u (IffP (IsQ (L.map (·.sc)) rep live align) u)) (h:¬ (IsQ (L.map (·.sc)) rep live align/\at' ∈ live)):
  Calls Tryz.prog 34 #[.slice ua n uc,.agg (kpV ra rn rc la ln lc aa an ac),.int .i64 at'] w (RetB (.tuple #[.slice none 0 0,.int .i64 1]) w):=by
 obtain ⟨W1,hW1⟩:∃ x,x=w.alloc (.cells (kpV ra rn rc la ln lc aa an ac) 46):=⟨_,rfl⟩
 have hb1:Below w.heap.size w W1:=by rw [hW1];exact lit_below w _
 have hr1:RB W1 w.heap.size (kpV ra rn rc la ln lc aa an ac) 46:=by rw [hW1];exact rb_new w _ _
 have HI:=Lib.hid (hIs W1 hb1)
 have HWE:Hid (w.alloc (.cells (kpV ra rn rc la ln lc aa an ac) 46)=W1):=Lib.hid hW1.symm
 have HBu:=Lib.hid hb1
 have HR1:=Lib.hid hr1
 have hni:(n:Int)<=9223372036854775807:=by unfold maxLen at hn;omega
 have hlen:(L.map (·.sc)).length=n:=by rw [List.length_map];exact hs.len.symm
 have HR:=Lib.hid (fun u (hu:Below w.heap.size w u)=>hr.next hu)
 have HRl:Hid (rep.length=rn):=Lib.hid hr.len.symm
 obtain ⟨X,hX⟩:∃ x,x=w.heap.size:=⟨_,rfl⟩
 have HX:=Lib.hid hX
 rw [<-hX] at HR1
 have x0:W1.cell? ⟨X,0,none⟩=some (.slice ra rn rc):=hX ▸ hr1.cell
 have x1:W1.cell? ⟨X,1,none⟩=some (.slice la ln lc):=hX ▸ hr1.cell
 have x2:W1.cell? ⟨X,2,none⟩=some (.slice aa an ac):=hX ▸ hr1.cell
 rw [hW1,hX] at x0 x1 x2
 by_cases hq:IsQ (L.map (·.sc)) rep live align
 rotate_left
 ·have HN:=Lib.hid hq
  clear hIs h hW1 hb1 hr1 hX hs hr hq hlen hn
  go_enter Tryz.func34,Tryz.ntmps34
  go_wp2_with fail
  have hwe:=HWE.out
  simp only [kpV] at hwe
  (try simp only [kpV])
  rw [hwe]
  (try rw [<-HX.out])
  clear x0 x1 x2 hwe
  refine HI.out.mono ?_
  rintro e u ⟨r,rfl,hr,hb⟩
  have HB:=Lib.hid (after HBu.out hb)
  have hrf:r=false:=by cases r;rfl;exact absurd (hr.1 rfl) HN.out
  subst hrf
  clear hb hr
  go_wp2
  go_ret2
  exact ⟨rfl,HB.out⟩
 have hrn:rn=n:=by rw [<-HRl.out,hq.2.1.1,hlen]
 have HY:=Lib.hid hq
 by_cases hin:at' < 0\/(n:Int)<=at'
 ·have hcs:at' < 0\/(¬ at' < 0/\(n:Int)<=at'):=by omega
  clear hIs h hW1 hb1 hr1 hX hs hr hq hlen hn hin hrn
  rcases hcs with h1 | ⟨h1,h2⟩
  all_goals
   go_enter Tryz.func34,Tryz.ntmps34
   go_wp2_with fail
   have hwe:=HWE.out
   simp only [kpV] at hwe
   (try simp only [kpV])
   rw [hwe]
   (try rw [<-HX.out])
   clear x0 x1 x2 hwe
   refine HI.out.mono ?_
   rintro e u ⟨r,rfl,hr,hb⟩
   have HB:=Lib.hid (after HBu.out hb)
   have hrt:r=true:=hr.2 HY.out
   subst hrt
   clear hb hr
   go_wp2
   go_ret2
   exact ⟨rfl,HB.out⟩
 ·obtain ⟨k,rfl⟩:∃ k:Nat,at'=(k:Int):=⟨at'.toNat,by omega⟩
  have hk:k < n:=by omega
  obtain ⟨v,hv⟩:∃ x,rep[k]?=some x:=⟨_,List.getElem?_eq_getElem (by rw [HRl.out];omega)⟩
  have hne:v ≠ (k:Int):=fun e=>h ⟨hq,by
   rw [hq.2.2.2.1]
   exact List.mem_map.2 ⟨k,standL_mem.2 (by rw [hv,e]),rfl⟩⟩
  have h1:¬ (k:Int) < 0:=by omega
  have h2:¬ (n:Int)<=(k:Int):=by omega
  have t3:(v != (k:Int))=true:=by simp [hne]
  have hkr:(k:Int) < (rn:Int):=by omega
  obtain ⟨rb,ro,hra,-,-⟩:=hr.cells (by intro e;rw [e] at hv;cases hv)
  subst hra
  have HV:=Lib.hid hv
  clear hIs h hW1 hb1 hr1 hX hs hr hq hlen hn hin hrn hv hne hk
  go_enter Tryz.func34,Tryz.ntmps34
  go_wp2_with fail
  have hwe:=HWE.out
  simp only [kpV] at hwe
  (try simp only [kpV])
  rw [hwe]
  (try rw [<-HX.out])
  clear x0 x1 x2 hwe
  refine HI.out.mono ?_
  rintro e u ⟨r,rfl,hr,hb⟩
  have HB:=Lib.hid (after HBu.out hb)
  have hrt:r=true:=hr.2 HY.out
  subst hrt
  have x0:u.cell? ⟨X,0,none⟩=some (.slice (some ⟨rb,ro,none⟩) rn rc):=(HR1.out.next hb).cell
  have r0:u.cell? ⟨rb,ro+k,none⟩=some (.int .i64 v):=ints_cells (HR.out u HB.out) (Below.refl _ _) HV.out
  clear hb hr
  go_wp2
  go_ret2
  exact ⟨rfl,HB.out⟩
theorem rRefs_yes (w:World) (ua:Option Addr) (n uc:Nat) (L:List Ms) (ra:Option Addr) (rc:Nat) (rep:List Int) (la:Option Addr) (ln lc:Nat) (live:List Int) (aa:Option Addr) (an ac:Nat) (align:List Int) (k:Nat) (hs:SL msC 6 w w.heap.size ua n L) (hno:Notes w w.heap.size L)
  (hr:SL enZ 1 w w.heap.size ra n rep) (hl:SL enZ 1 w w.heap.size la ln live) (hln:ln<=maxLen)
  (hIs:∀ u,Below w.heap.size w u->Calls Tryz.prog 40 #[.slice ua n uc,.agg (kpV ra n rc la ln lc aa an ac)] u (IffP (IsQ (L.map (·.sc)) rep live align) u)) (h:IsQ (L.map (·.sc)) rep live align) (hm:(k:Int) ∈ live):
  Calls Tryz.prog 34 #[.slice ua n uc,.agg (kpV ra n rc la ln lc aa an ac),.int .i64 (k:Int)] w (RefsP (refsK (L.map (·.sc)) rep k) w):=by
 obtain ⟨i0,hi,hz0,hz1,hz2⟩:=info_parts info_ref
 obtain ⟨W1,hW1⟩:∃ x,x=w.alloc (.cells (kpV ra n rc la ln lc aa an ac) 46):=⟨_,rfl⟩
 have hb1:Below w.heap.size w W1:=by rw [hW1];exact lit_below w _
 have hr1:RB W1 w.heap.size (kpV ra n rc la ln lc aa an ac) 46:=by rw [hW1];exact rb_new w _ _
 have HI:=Lib.hid (hIs W1 hb1)
 have HWE:Hid (w.alloc (.cells (kpV ra n rc la ln lc aa an ac) 46)=W1):=Lib.hid hW1.symm
 have HBu:=Lib.hid hb1
 have HR1:=Lib.hid hr1
 have HY:=Lib.hid h
 have HM:=Lib.hid hm
 obtain ⟨S,hS⟩:∃ S,S=L.map (·.sc):=⟨_,rfl⟩
 have hSl:S.length=n:=by rw [hS,List.length_map];exact hs.len.symm
 rw [<-hS] at h HI HY ⊢
 have hn2:n<=256:=by have:=units_len h.1;rw [hSl] at this;exact this
 have hni:(n:Int)<=256:=by omega
 have hkr:rep[k]?=some (k:Int):=by
  have:=h.2.2.2.1
  rw [this] at hm
  obtain ⟨q,hq,he⟩:=List.mem_map.1 hm
  have:q=k:=by have:(q:Int)=(k:Int):=he;omega
  subst this
  exact standL_mem.1 hq
 have hkn:k < n:=by have:=(List.getElem?_eq_some_iff.1 hkr).1;rw [h.2.1.1,hSl] at this;exact this
 obtain ⟨mi,hmi⟩:∃ x,L[k]?=some x:=⟨_,List.getElem?_eq_getElem (by rw [<-hs.len];exact hkn)⟩
 have HSi:Hid (S[k]?=some mi.sc):=Lib.hid (by rw [hS,List.getElem?_map,hmi];rfl)
 have HQi:=Lib.hid (units_sec h.1 HSi.out)
 have HNo:=Lib.hid (fun u (hu:Below w.heap.size w u)=>(hno.next hu) mi (List.mem_of_getElem? hmi))
 have HR:=Lib.hid (fun u (hu:Below w.heap.size w u)=>hr.next hu)
 have HRl:Hid (rep.length=n):=Lib.hid hr.len.symm
 have HSl:=Lib.hid hSl
 have HMi:=Lib.hid hmi
 have HS:=Lib.hid hs
 have hki:(k:Int) < (n:Int):=by omega
 obtain ⟨X,hX⟩:∃ x,x=w.heap.size:=⟨_,rfl⟩
 have HX:=Lib.hid hX
 rw [<-hX] at HR1
 have x0:W1.cell? ⟨X,0,none⟩=some (.slice ra n rc):=hX ▸ hr1.cell
 have x1:W1.cell? ⟨X,1,none⟩=some (.slice la ln lc):=hX ▸ hr1.cell
 have x2:W1.cell? ⟨X,2,none⟩=some (.slice aa an ac):=hX ▸ hr1.cell
 rw [hW1,hX] at x0 x1 x2
 obtain ⟨ub,uo,hua,-,-⟩:=hs.cells (by intro e;rw [e] at hmi;cases hmi)
 subst hua
 obtain ⟨rb,ro,hra,-,-⟩:=hr.cells (by intro e;rw [e] at hkr;cases hkr)
 subst hra
 have HKr:=Lib.hid hkr
 clear hIs hl hln h hW1 hb1 hr1 hX hs hno hr hm hS hSl hn2 hkr hkn hmi
 go_enter Tryz.func34,Tryz.ntmps34
 go_wp2_with fail
 have hwe:=HWE.out
 simp only [kpV] at hwe
 (try simp only [kpV])
 rw [hwe]
 (try rw [<-HX.out])
 clear x0 x1 x2 hwe
 refine HI.out.mono ?_
 rintro e u ⟨r,rfl,hrr,hb⟩
 have HB:=Lib.hid (after HBu.out hb)
 have HR2:=Lib.hid (HR1.out.next hb)
 have hrt:r=true:=hrr.2 HY.out
 subst hrt
 clear hb hrr
 have x0:u.cell? ⟨X,0,none⟩=some (.slice (some ⟨rb,ro,none⟩) n rc):=HR2.out.cell
 have r0:u.cell? ⟨rb,ro+k,none⟩=some (.int .i64 (k:Int)):=ints_cells (HR.out u HB.out) (Below.refl _ _) HKr.out
 have tk0:decide ((k:Int) < 0)=false:=decide_eq_false (by omega)
 have tk1:decide ((n:Int)<=(k:Int))=false:=decide_eq_false (by omega)
 have tk3:decide (n<=k)=false:=decide_eq_false (by omega)
 have tk2:((k:Int) != (k:Int))=false:=by simp
 have hul:=HS.out.next HB.out
 obtain ⟨-,-,-,-,-,y5⟩:=unit_cells hul (Below.refl _ _) HMi.out
 have HNi:=Lib.hid (HNo.out u HB.out)
 clear hul
 obtain ⟨⟨mn,mk0,mp,ml,md,mr⟩,ma,mc⟩:=mi
 simp only at y5 HNi HSi HQi
 obtain ⟨pn,hpn⟩:∃ r,r=mr.length:=⟨_,rfl⟩
 rw [<-hpn] at y5
 have HPn:=Lib.hid hpn
 have hpi:(pn:Int)<=64:=by have:=HQi.out.1.rels;simp only at this;omega
 have HRk:Hid (refsK S rep k=mr.map (newRl rep)):=Lib.hid (refsK_get HSi.out)
 have HQ0:Hid (RRf u u [] none 0):=Lib.hid ⟨World.ownsRow_nil _ _ _ _,Below.refl _ _⟩
 clear hpn
 go_wp2_with fail
 have HY5:Hid (∀ v,Below u.heap.size u v->v.cell? ⟨ub,uo+k*6+5,none⟩=some (.slice ma pn mc)):=Lib.hid (fun v hv=>by
  obtain ⟨-,-,-,-,-,z5⟩:=unit_cells (HS.out.next (after HB.out hv)) (Below.refl _ _) HMi.out
  rw [HPn.out]
  exact z5)
 clear x0 r0
 go_loopw [8,9] (fun l i wr=>∃ (q:Nat) (wx:World) (rs:List Rl) (a:Option Addr) (m c:Nat),wx=wr/\q<=pn/\l=.slice a m c/\i=.int .i64 q/\Hid (m=rs.length)/\Hid (RRf u wx rs a c)/\Hid (rs=(mr.take q).map (newRl rep))) (fun _ i _=>pn - (intOf i).toNat)
 case atStart=>exact ⟨0,_,[],none,0,0,rfl,by omega,rfl,rfl,Lib.hid rfl,HQ0,Lib.hid rfl⟩
 case round=>
  clear HQ0 y5
  obtain ⟨q,wx,rs,a,m,c,rfl,hq,rfl,rfl,HQq,HQ,HRs⟩:=hrel
  have y5:=HY5.out _ HQ.out.kk
  by_cases hlt:q < pn
  ·have hlti:(q:Int) < (pn:Int):=by omega
   have HLT:=Lib.hid hlt
   have hbx:=HQ.out.kk
   have hk1:q < mr.length:=by rw [<-HPn.out];exact hlt
   obtain ⟨b1,o1,hae1,hB1,hc1⟩:=(HNi.out.next hbx).cells (by intro e;rw [e] at hk1;simp at hk1)
   subst hae1
   obtain ⟨c0,c1,c2,c3⟩:=rl_cells (fun q' hq'=>hc1 q hk1 q' hq')
   obtain ⟨x,hx⟩:∃ x,x=mr[q]:=⟨_,rfl⟩
   have hxx:mr[q]?=some x:=by rw [hx];exact List.getElem?_eq_getElem hk1
   obtain ⟨a0,a1⟩:=HQi.out.2 x (List.mem_of_getElem? hxx)
   rw [<-hx] at c0 c1 c2 c3
   obtain ⟨t,ht⟩:∃ a:Nat,x.sym=(a:Int):=⟨x.sym.toNat,by omega⟩
   rw [ht] at c2
   rw [ht,HSl.out] at a1
   obtain ⟨xv,hxv⟩:∃ v,rep[t]?=some v:=⟨_,List.getElem?_eq_getElem (by rw [HRl.out];omega)⟩
   obtain ⟨xp,hxp⟩:∃ z,z=x.pos:=⟨_,rfl⟩
   obtain ⟨xk,hxk⟩:∃ z,z=x.kind:=⟨_,rfl⟩
   obtain ⟨xa,hxa⟩:∃ z,z=x.add:=⟨_,rfl⟩
   rw [<-hxp] at c0
   rw [<-hxk] at c1
   rw [<-hxa] at c3
   have HNr:Hid (newRl rep x=⟨xp,xk,xv,xa⟩):=Lib.hid (by unfold newRl;rw [ht,Int.toNat_natCast,hxv,hxp,hxk,hxa];rfl)
   obtain ⟨Wb,hWb⟩:∃ y,y=wx.alloc (.cells #[.int .i64 xp,.int .i64 xk,.int .i64 (t:Int),.int .i64 xa] 61):=⟨_,rfl⟩
   have hbb:Below wx.heap.size wx Wb:=by rw [hWb];exact lit_below wx _
   have g0:Wb.cell? ⟨X,0,none⟩=some (.slice (some ⟨rb,ro,none⟩) n rc):=((HR2.out.next hbx).next hbb).cell
   have g1:Wb.cell? ⟨rb,ro+t,none⟩=some (.int .i64 xv):=ints_cells (HR.out Wb (after (after HB.out hbx) hbb)) (Below.refl _ _) hxv
   have hrv:RB Wb wx.heap.size #[.int .i64 xp,.int .i64 xk,.int .i64 (t:Int),.int .i64 xa] 61:=by rw [hWb];exact rb_new wx _ _
   have g2:Wb.cell? ⟨wx.heap.size,2,none⟩=some (.int .i64 (t:Int)):=hrv.cell
   rw [hWb] at g0 g1 g2
   have hti:(t:Int) < (n:Int):=a1
   have HR5:Hid (rs ++ [(⟨xp,xk,xv,xa⟩:Rl)]=(mr.take (q+1)).map (newRl rep)):=Lib.hid (by rw [List.take_add_one,hxx,List.map_append,<-HRs.out,<-HNr.out];rfl)
   have hql:Hid (m<=64):=Lib.hid (by rw [HQq.out,HRs.out,List.length_map];have:=HPn.out;rw [List.length_take];omega)
   have hx0:Hid (u.heap.size<=wx.heap.size):=Lib.hid HQ.out.kk.size
   have HQ1:=Lib.hid (HQ.out.alloc (.cells #[.int .i64 xp,.int .i64 xk,.int .i64 xv,.int .i64 xa] 61))
   have HNw:Hid (((wx.alloc (.cells #[.int .i64 xp,.int .i64 xk,.int .i64 xv,.int .i64 xa] 61)).alloc (.cells #[.int .i64 xp,.int .i64 xk,.int .i64 xv,.int .i64 xa] 61)).heap[wx.heap.size+1]?=some (.cells #[.int .i64 xp,.int .i64 xk,.int .i64 xv,.int .i64 xa] 61)):=Lib.hid (by have:=heap_alloc_new (wx.alloc (.cells #[.int .i64 xp,.int .i64 xk,.int .i64 xv,.int .i64 xa] 61)) (.cells #[.int .i64 xp,.int .i64 xk,.int .i64 xv,.int .i64 xa] 61);rw [World.size_alloc] at this;exact this)
   clear hbx hk1 hB1 hc1 hx hxx a0 a1 ht hxv hxp hxk hxa hWb hbb hrv hlt hq HNr
   go_wp2_with (at_builtin;refine wpList_append_lies _ rfl _ _ 41 rfl u.heap.size 61 i0 (.agg #[.int .i64 0,.int .i64 0,.int .i64 0,.int .i64 0]) 4 32 Tryz.underlying41 hi hz0 hz1 hz2 rfl (by decide) (.slice a m c) m (rs.flatMap rlC) rfl (by have:=HQ1.out.oo;rw [<-HQq.out] at this;exact this.alloc _) ⟨wx.heap.size+1,0,none⟩ 1 1 (rlC ⟨xp,xk,xv,xa⟩) rfl rfl (World.news_of_block (cs:=#[.int .i64 xp,.int .i64 xk,.int .i64 xv,.int .i64 xa]) (t:=61) (fr:=(0,0)) HNw.out) (by simp [rlC,Value.oneCell']) (by decide) (by have:=hql.out;unfold maxLen;omega) (by have:=hql.out;omega) (by have:=hx0.out;simp;omega) (wx.heap.size+1+1) (by simp) ?_;intro g cap w2 hown2 hgrow2 hlie2 hlt2)
   rw [HQq.out] at hown2 hgrow2
   have HQ2:=Lib.hid (HQ1.out.grow hown2 hgrow2)
   have HQq2:Hid (m+1=(rs ++ [(⟨xp,xk,xv,xa⟩:Rl)]).length):=Lib.hid (by rw [HQq.out];simp)
   clear hown2 hgrow2 hlie2 hlt2 HQ1 HNw
   go_roundw
   case rel=>exact ⟨q+1,_,_,_,_,_,rfl,by have:=HLT.out;omega,rfl,by go_num,HQq2,HQ2,HR5⟩
   case measure=>have:=HLT.out;simp [intOf];omega
  ·have hlti:¬ (q:Int) < (pn:Int):=by omega
   have hqe:q=pn:=by omega
   have HEnd:Hid (rs=mr.map (newRl rep)):=Lib.hid (by rw [HRs.out,hqe,List.take_of_length_le (by have:=HPn.out;omega)])
   clear hq hlt hqe
   go_wp2
   go_ret2
   rw [HRk.out,<-HEnd.out]
   exact ⟨a,c,by rw [<-HQq.out];rfl,HQ.out.sl,after HB.out HQ.out.kk⟩
theorem rSameRefs_any (a a':Option Addr) (n c c':Nat) (l l':List Rl) (w:World) (hn:n<=4398046511104) (h:SL rlC 4 w w.heap.size a n l) (h':SL rlC 4 w w.heap.size a' n l'):
  Calls Tryz.prog 37 #[.slice a n c,.slice a' n c'] w (fun e w'=>∃ r:Bool,e=.returned (.bool r)/\(r=true ↔ l=l')/\Below w.heap.size w w'):=by
 have hl:=Lib.hid h.len
 have hl':=Lib.hid h'.len
 have t0:((n:Int) != (n:Int))=false:=by simp
 go_enter Tryz.func37,Tryz.ntmps37
 go_wp2
 go_loopw [5] (fun i wr=>∃ k:Nat,k<=n/\i=.int .i64 k/\l.take k=l'.take k/\Below w.heap.size w wr) (fun i _=>n - (intOf i).toNat)
 case atStart=>exact ⟨0,by omega,rfl,rfl,Below.refl _ _⟩
 case round=>
  obtain ⟨k,hk,rfl,htk,hb⟩:=hrel
  have HT:=Lib.hid htk
  clear htk
  by_cases hlt:k < n
  ·have hk1:k < l.length:=by have:=hl.out;omega
   have hk2:k < l'.length:=by have:=hl'.out;omega
   obtain ⟨b,off,rfl,hB,hc⟩:=(h.below hb).cells (h.ne hlt)
   obtain ⟨b',off',rfl,hB',hc'⟩:=(h'.below hb).cells (h'.ne hlt)
   obtain ⟨c0,c1,c2,c3⟩:=rl_cells (fun j hj=>hc k hk1 j hj)
   obtain ⟨d0,d1,d2,d3⟩:=rl_cells (fun j hj=>hc' k hk2 j hj)
   obtain ⟨x,hx⟩:∃ x,x=l[k]:=⟨_,rfl⟩
   obtain ⟨y,hy⟩:∃ y,y=l'[k]:=⟨_,rfl⟩
   rw [<-hx] at c0 c1 c2 c3
   rw [<-hy] at d0 d1 d2 d3
   have HX:=Lib.hid hx
   have HY:=Lib.hid hy
   have hnq:=neq_rf x y
   clear hc hc' h h' hx hy
   cases e:sameRl x y
   ·have HE:Hid (x ≠ y):=Lib.hid (fun hh=>by rw [sameRl_iff.2 hh] at e;cases e)
    rw [e] at hnq
    clear e
    go_wp2
    go_quiet (fail)
    go_wp2
    go_ret
    refine ⟨false,rfl,?_,below_drewN hb _⟩
    constructor
    ·intro h;cases h
    ·intro hh
     subst hh
     exact (HE.out (HX.out.trans HY.out.symm)).elim
   ·have HE:Hid (x=y):=Lib.hid (sameRl_iff.1 e)
    rw [e] at hnq
    clear e
    go_wp2
    go_quiet (fail)
    go_wp2
    go_roundw
    case rel=>
     refine ⟨k+1,by omega,by go_num,?_,below_drewN hb _⟩
     rw [List.take_succ_eq_append_getElem hk1,List.take_succ_eq_append_getElem hk2,HT.out,<-HX.out,<-HY.out,HE.out]
    case measure=>simp [intOf];omega
  ·go_wp2
   go_ret
   refine ⟨true,rfl,⟨fun _=>?_,fun _=>rfl⟩,hb⟩
   have:=HT.out
   rwa [List.take_of_length_le (by have:=hl.out;omega),List.take_of_length_le (by have:=hl'.out;omega)] at this
end Go.Proofs.YtbabckomagkjbaaGreatDoor
namespace Go.Proofs.YtbabckomagkjbaaGreatDoor
open Go.ChangeShapes Go.WideShapes Go.Deep Go.RowKit
theorem results_cell_one {P:Program} {fn:Func} {p:Tmp} {ty:TypeId} (h:fn.results=#[.cell p ty]) (tmps:Array Value) (w:World) (g:Nat) (t:TypeId) (cs:Array Value) (fr:Nat × Nat) (d:TypeDesc)
  (hp:tmps.getD p undef=.pointer (some ⟨g,0,none⟩)) (hg:w.heap[g]?=some (.cells cs t fr))
  (hu:P.underlying ty=some d) (hd:(match d with | .struct _ | .array _ _=>true | _=>false)=true) (hi:(P.info? ty).map (·.size)=some cs.size):
  (results fn tmps).run P w=.ok (.agg cs) w:=by
 have hp':tmps[p]?.getD undef=.pointer (some ⟨g,0,none⟩):=by simpa using hp
 simp [results,h,hp',asAddr,run_loadVar_row w g t ty cs fr d hg hu hd hi]
def BigK (un rn ln an:Nat) (L:List Ms) (w:World) (e:Ending) (w':World):Prop:=∃ r:Bool,e=.returned (.bool r)/\(r=false->FewU un L/\rn<=300/\ln<=300/\an<=300)/\Below w.heap.size w w'
theorem rBigK_any (w:World) (ua:Option Addr) (un uc:Nat) (L:List Ms) (ra:Option Addr) (rn rc:Nat) (la:Option Addr) (ln lc:Nat) (aa:Option Addr) (an ac:Nat) (hun:un<=maxLen) (hs:SL msC 6 w w.heap.size ua un L) (hno:Notes w w.heap.size L) (hb:∀ m ∈ L,m.sc.rels.length*32<=reachBytes) (hrn:rn<=maxLen) (hln:ln<=maxLen) (han:an<=maxLen):
  Calls Tryz.prog 31 #[.slice ua un uc,.agg (kpV ra rn rc la ln lc aa an ac)] w (BigK un rn ln an L w):=by
 obtain ⟨W1,hW1⟩:∃ x,x=w.alloc (.cells (kpV ra rn rc la ln lc aa an ac) 46):=⟨_,rfl⟩
 have hb1:Below w.heap.size w W1:=by rw [hW1];exact lit_below w _
 have hr1:RB W1 w.heap.size (kpV ra rn rc la ln lc aa an ac) 46:=by rw [hW1];exact rb_new w _ _
 have HI:=Lib.hid (rBigU2_any ua un uc L W1 hun (hs.next hb1) (hno.next hb1) hb)
 have HWE:Hid (w.alloc (.cells (kpV ra rn rc la ln lc aa an ac) 46)=W1):=Lib.hid hW1.symm
 have HBu:=Lib.hid hb1
 have HR1:=Lib.hid hr1
 have h1i:(rn:Int)<=9223372036854775807:=by unfold maxLen at hrn;omega
 have h2i:(ln:Int)<=9223372036854775807:=by unfold maxLen at hln;omega
 have h3i:(an:Int)<=9223372036854775807:=by unfold maxLen at han;omega
 obtain ⟨X,hX⟩:∃ x,x=w.heap.size:=⟨_,rfl⟩
 have HX:=Lib.hid hX
 rw [<-hX] at HR1
 clear hs hno hb hun hrn hln han hW1 hb1 hr1 hX
 go_enter Tryz.func31,Tryz.ntmps31
 go_wp2_with fail
 have hwe:=HWE.out
 simp only [kpV] at hwe
 rw [hwe]
 (try rw [<-HX.out])
 refine HI.out.mono ?_
 rintro e u ⟨r,rfl,hr,hb⟩
 have HB:=Lib.hid (after HBu.out hb)
 have HFw:=Lib.hid hr
 have x0:u.cell? ⟨X,0,none⟩=some (.slice ra rn rc):=(HR1.out.next hb).cell
 have x1:u.cell? ⟨X,1,none⟩=some (.slice la ln lc):=(HR1.out.next hb).cell
 have x2:u.cell? ⟨X,2,none⟩=some (.slice aa an ac):=(HR1.out.next hb).cell
 clear hb hr hwe
 cases r
 rotate_left
 ·go_wp2
  go_ret
  exact ⟨true,rfl,fun h=>(by cases h),HB.out⟩
 replace HFw:=Lib.hid (HFw.out rfl)
 have hcs:(300:Int) < (rn:Int)\/(¬ (300:Int) < (rn:Int)/\(300:Int) < (ln:Int))\/(¬ (300:Int) < (rn:Int)/\¬ (300:Int) < (ln:Int)/\(300:Int) < (an:Int))\/(¬ (300:Int) < (rn:Int)/\¬ (300:Int) < (ln:Int)/\¬ (300:Int) < (an:Int)):=by omega
 rcases hcs with h1 | ⟨h1,h2⟩ | ⟨h1,h2,h3⟩ | ⟨h1,h2,h3⟩
 ·go_wp2
  go_ret
  exact ⟨true,rfl,fun h=>(by cases h),HB.out⟩
 ·go_wp2
  go_ret
  exact ⟨true,rfl,fun h=>(by cases h),HB.out⟩
 ·go_wp2
  go_ret
  exact ⟨true,rfl,fun h=>(by cases h),HB.out⟩
 ·have HL3:Hid (rn<=300/\ln<=300/\an<=300):=Lib.hid ⟨by omega,by omega,by omega⟩
  have d1:decide ((300:Int) < (rn:Int))=false:=decide_eq_false h1
  have d2:decide ((300:Int) < (ln:Int))=false:=decide_eq_false h2
  have d3:decide ((300:Int) < (an:Int))=false:=decide_eq_false h3
  have e1:decide (300 < rn)=false:=decide_eq_false (by omega)
  have e2:decide (300 < ln)=false:=decide_eq_false (by omega)
  have e3:decide (300 < an)=false:=decide_eq_false (by omega)
  clear h1 h2 h3
  go_wp2
  go_ret
  exact ⟨false,rfl,fun _=>⟨HFw.out,HL3.out⟩,HB.out⟩
theorem in_ones (l:List Int):∀ u ∈ l.flatMap enZ,u.oneCell'=true:=by
 intro u hu
 obtain ⟨b,-,hb⟩:=List.mem_flatMap.1 hu
 simp only [enZ,List.mem_singleton] at hb
 subst hb;rfl
theorem app_ints {w:World} {m c:Nat} {ys:List Int} {a:Option Addr} (hs:SL enZ 1 w w.heap.size a m ys) (hz:a=none->m=0/\c=0) (hm:m<=300) (ty:TypeId):
  ∃ a' c' w',(Builtin.append_ #[23,23] ty #[.slice none 0 0,.slice a m c]).run Tryz.prog w=.ok (.slice a' m c') w'/\w'.ownsRow w.heap.size 3 1 (.slice a' m c') m (ys.flatMap enZ)/\Below w.heap.size w w':=by
 obtain ⟨i0,hi,hi0,hi1,hi2⟩:=info_parts info_intG
 have hfl:(ys.flatMap enZ).length=m*1:=by rw [flat_len enz_len,hs.len]
 have hown:=World.ownsRow_nil w w.heap.size 3 1
 cases a with
 | none=>
  obtain ⟨rfl,rfl⟩:=hz rfl
  have hy:ys=[]:=by have:=hs.len;cases ys with | nil=>rfl | cons=>simp at this
  subst hy
  exact ⟨none,0,w,run_append_owned_none w w.heap.size 23 ty 3 i0 1 Tryz.underlying23 hi _ 0 _ hown,by simpa using hown,Below.refl _ _⟩
 | some ad=>
  obtain ⟨v',w',hr,ho,hgr,-⟩:=run_append_own (P:=Tryz.prog) w w.heap.size 23 ty 3 i0 _ 1 8 Tryz.underlying23 hi hi0 hi1 hi2 rfl (by decide) _ 0 _ hown ad m c (ys.flatMap enZ) hfl (hs.news enz_len (by decide)) (in_ones ys) (by unfold maxLen;omega) (by omega) (Nat.le_refl _)
  rw [Nat.zero_add,List.nil_append] at ho
  obtain ⟨a',c',rfl⟩:∃ a' c',v'=.slice a' m c':=by
   rcases ho.2 with ⟨h,h0⟩ | ⟨g,cap,cur,h,-⟩
   ·exact ⟨none,0,by rw [h,h0]⟩
   ·exact ⟨_,_,h⟩
  exact ⟨a',c',w',hr,ho,(Below.refl _ _).grown hgr (Nat.le_refl _) (fun k hk=>by simp [Value.ownBlock] at hk)⟩
def OwnK (rn ln an:Nat) (rep live align:List Int) (w:World) (e:Ending) (w':World):Prop:=∃ (a1:Option Addr) (c1:Nat) (a2:Option Addr) (c2:Nat) (a3:Option Addr) (c3:Nat),e=.returned (.agg (kpV a1 rn c1 a2 ln c2 a3 an c3))/\SL enZ 1 w' w'.heap.size a1 rn rep/\SL enZ 1 w' w'.heap.size a2 ln live/\SL enZ 1 w' w'.heap.size a3 an align/\Below w.heap.size w w'
theorem own_slZ {w:World} {B n:Nat} {a:Option Addr} {c:Nat} {l:List Int} (h:w.ownsRow B 3 1 (.slice a n c) n (l.flatMap enZ)) (hl:l.length=n):SL enZ 1 w w.heap.size a n l:=by
 subst hl;exact owns_slZ h
end Go.Proofs.YtbabckomagkjbaaGreatDoor
namespace Go.Proofs.YtbabckomagkjbaaGreatDoor
open Go.ChangeShapes Go.WideShapes Go.Deep Go.RowKit
theorem rOwnK_any (w:World) (ra:Option Addr) (rn rc:Nat) (la:Option Addr) (ln lc:Nat) (aa:Option Addr) (an ac:Nat) (rep live align:List Int) (hr:SL enZ 1 w w.heap.size ra rn rep) (hl:SL enZ 1 w w.heap.size la ln live) (ha:SL enZ 1 w w.heap.size aa an align) (zr:ra=none->rn=0/\rc=0) (zl:la=none->ln=0/\lc=0) (za:aa=none->an=0/\ac=0) (h1:rn<=300) (h2:ln<=300) (h3:an<=300):
  Calls Tryz.prog 32 #[.agg (kpV ra rn rc la ln lc aa an ac)] w (OwnK rn ln an rep live align w):=by
 obtain ⟨A0,hA0⟩:∃ x,x=w.alloc (.cells (kpV ra rn rc la ln lc aa an ac) 46):=⟨_,rfl⟩
 obtain ⟨A1,hA1⟩:∃ x,x=A0.alloc (.cells keptZ 46):=⟨_,rfl⟩
 obtain ⟨A2,hA2⟩:∃ x,x=A1.alloc (.cells keptZ 46):=⟨_,rfl⟩
 have s0:A0.heap.size=w.heap.size+1:=by rw [hA0,World.size_alloc]
 have s1:A1.heap.size=w.heap.size+1+1:=by rw [hA1,World.size_alloc,s0]
 have s2:A2.heap.size=w.heap.size+1+1+1:=by rw [hA2,World.size_alloc,s1]
 have b0:Below w.heap.size w A0:=by rw [hA0];exact lit_below _ _
 have b1:Below A0.heap.size A0 A1:=by rw [hA1];exact lit_below _ _
 have b2:Below A1.heap.size A1 A2:=by rw [hA2];exact lit_below _ _
 have rX:RB A2 w.heap.size (kpV ra rn rc la ln lc aa an ac) 46:=((by rw [hA0];exact rb_new w _ _:RB A0 w.heap.size (kpV ra rn rc la ln lc aa an ac) 46).next b1).next b2
 have rQ:RB A2 (w.heap.size+1) keptZ 46:=(by rw [<-s0,hA1];exact rb_new A0 _ _:RB A1 (w.heap.size+1) keptZ 46).next b2
 have rP:RB A2 (w.heap.size+1+1) keptZ 46:=by rw [<-s1,hA2];exact rb_new A1 _ _
 have bw:Below w.heap.size w A2:=after (after b0 b1) b2
 obtain ⟨H,hH⟩:∃ x,x=w.heap.size:=⟨_,rfl⟩
 obtain ⟨a1,c1,V1,e1,o1,p1⟩:=app_ints (hr.next bw) zr h1 23
 have q1:Below w.heap.size w (V1.setCell ⟨w.heap.size+1+1,0,none⟩ (.slice a1 rn c1)):=(after bw p1).setCell (p:=⟨w.heap.size+1+1,0,none⟩) (by show _<=w.heap.size+1+1;omega) _
 have z1:A2.heap.size<=(V1.setCell ⟨w.heap.size+1+1,0,none⟩ (.slice a1 rn c1)).heap.size:=by have:=p1.size;simpa using this
 obtain ⟨a2,c2,V2,e2,o2,p2⟩:=app_ints (hl.next q1) zl h2 23
 have q2:Below w.heap.size w (V2.setCell ⟨w.heap.size+1+1,1,none⟩ (.slice a2 ln c2)):=(after q1 p2).setCell (p:=⟨w.heap.size+1+1,1,none⟩) (by show _<=w.heap.size+1+1;omega) _
 obtain ⟨a3,c3,V3,e3,o3,p3⟩:=app_ints (ha.next q2) za h3 23
 have q3:Below w.heap.size w (V3.setCell ⟨w.heap.size+1+1,2,none⟩ (.slice a3 an c3)):=(after q2 p3).setCell (p:=⟨w.heap.size+1+1,2,none⟩) (by show _<=w.heap.size+1+1;omega) _
 have z2:(V1.setCell ⟨w.heap.size+1+1,0,none⟩ (.slice a1 rn c1)).heap.size<=(V2.setCell ⟨w.heap.size+1+1,1,none⟩ (.slice a2 ln c2)).heap.size:=by have:=p2.size;simpa using this
 have r1:=(rP.next p1)
 have r1':=r1.set (j:=0) (.slice a1 rn c1)
 have r2:=r1'.next p2
 have r2':=r2.set (j:=1) (.slice a2 ln c2)
 have r3:=r2'.next p3
 have r3':=r3.set (j:=2) (.slice a3 an c3)
 have k1:RB (V1.setCell ⟨w.heap.size+1+1,0,none⟩ (.slice a1 rn c1)) w.heap.size (kpV ra rn rc la ln lc aa an ac) 46:=(hother (by omega)).trans (rX.next p1)
 have k2:RB (V2.setCell ⟨w.heap.size+1+1,1,none⟩ (.slice a2 ln c2)) w.heap.size (kpV ra rn rc la ln lc aa an ac) 46:=(hother (by omega)).trans (k1.next p2)
 have m1:RB (V1.setCell ⟨w.heap.size+1+1,0,none⟩ (.slice a1 rn c1)) (w.heap.size+1) keptZ 46:=(hother (by omega)).trans (rQ.next p1)
 have m2:RB (V2.setCell ⟨w.heap.size+1+1,1,none⟩ (.slice a2 ln c2)) (w.heap.size+1) keptZ 46:=(hother (by omega)).trans (m1.next p2)
 have m3:RB (V3.setCell ⟨w.heap.size+1+1,2,none⟩ (.slice a3 an c3)) (w.heap.size+1) keptZ 46:=(hother (by omega)).trans (m2.next p3)
 have mF:RB ((((V3.setCell ⟨w.heap.size+1+1,2,none⟩ (.slice a3 an c3)).setCell ⟨w.heap.size+1,0,none⟩ (.slice a1 rn c1)).setCell ⟨w.heap.size+1,1,none⟩ (.slice a2 ln c2)).setCell ⟨w.heap.size+1,2,none⟩ (.slice a3 an c3)) (w.heap.size+1) (kpV a1 rn c1 a2 ln c2 a3 an c3) 46:=((m3.set (j:=0) _).set (j:=1) _).set (j:=2) _
 have f1:=owns_set (o:=2) (y:=.slice a3 an c3) (owns_next (owns_set (o:=1) (y:=.slice a2 ln c2) (owns_next (owns_set (o:=0) (y:=.slice a1 rn c1) o1 (show w.heap.size+1+1 < A2.heap.size by omega)) p2) (show w.heap.size+1+1 < A2.heap.size by omega)) p3) (show w.heap.size+1+1 < A2.heap.size by omega)
 have f2:=owns_set (o:=2) (y:=.slice a3 an c3) (owns_next (owns_set (o:=1) (y:=.slice a2 ln c2) o2 (show w.heap.size+1+1 < _ by omega)) p3) (show w.heap.size+1+1 < _ by omega)
 have f3:=owns_set (o:=2) (y:=.slice a3 an c3) o3 (show w.heap.size+1+1 < _ by omega)
 have g1:=own_slZ (owns_set (o:=2) (y:=.slice a3 an c3) (owns_set (o:=1) (y:=.slice a2 ln c2) (owns_set (o:=0) (y:=.slice a1 rn c1) f1 (show w.heap.size+1 < _ by omega)) (show w.heap.size+1 < _ by omega)) (show w.heap.size+1 < _ by omega)) hr.len.symm
 have g2:=own_slZ (owns_set (o:=2) (y:=.slice a3 an c3) (owns_set (o:=1) (y:=.slice a2 ln c2) (owns_set (o:=0) (y:=.slice a1 rn c1) f2 (show w.heap.size+1 < _ by omega)) (show w.heap.size+1 < _ by omega)) (show w.heap.size+1 < _ by omega)) hl.len.symm
 have g3:=own_slZ (owns_set (o:=2) (y:=.slice a3 an c3) (owns_set (o:=1) (y:=.slice a2 ln c2) (owns_set (o:=0) (y:=.slice a1 rn c1) f3 (show w.heap.size+1 < _ by omega)) (show w.heap.size+1 < _ by omega)) (show w.heap.size+1 < _ by omega)) ha.len.symm
 have q4:Below w.heap.size w ((((V3.setCell ⟨w.heap.size+1+1,2,none⟩ (.slice a3 an c3)).setCell ⟨w.heap.size+1,0,none⟩ (.slice a1 rn c1)).setCell ⟨w.heap.size+1,1,none⟩ (.slice a2 ln c2)).setCell ⟨w.heap.size+1,2,none⟩ (.slice a3 an c3)):=((q3.setCell (p:=⟨w.heap.size+1,0,none⟩) (by show _<=w.heap.size+1;omega) _).setCell (p:=⟨w.heap.size+1,1,none⟩) (by show _<=w.heap.size+1;omega) _).setCell (p:=⟨w.heap.size+1,2,none⟩) (by show _<=w.heap.size+1;omega) _
 have HMF:=Lib.hid mF
 have HFin:Hid (OwnK rn ln an rep live align w (.returned (.agg (kpV a1 rn c1 a2 ln c2 a3 an c3))) ((((V3.setCell ⟨w.heap.size+1+1,2,none⟩ (.slice a3 an c3)).setCell ⟨w.heap.size+1,0,none⟩ (.slice a1 rn c1)).setCell ⟨w.heap.size+1,1,none⟩ (.slice a2 ln c2)).setCell ⟨w.heap.size+1,2,none⟩ (.slice a3 an c3))):=Lib.hid ⟨a1,c1,a2,c2,a3,c3,rfl,g1,g2,g3,q4⟩
 have x0:A2.cell? ⟨w.heap.size,0,none⟩=some (.slice ra rn rc):=rX.cell
 have y0:A2.cell? ⟨w.heap.size+1+1,0,none⟩=some (.slice none 0 0):=rP.cell
 have HFV1:Hid (V1.cell? ⟨w.heap.size+1+1,0,none⟩=some (.slice none 0 0)/\V1.cell? ⟨w.heap.size+1+1,1,none⟩=some (.slice none 0 0)/\V1.cell? ⟨w.heap.size,1,none⟩=some (.slice la ln lc)/\V1.frozen? ⟨w.heap.size+1+1,0,none⟩=false):=Lib.hid ⟨r1.cell,r1.cell,(rX.next p1).cell,r1.frozen⟩
 have HFV2:Hid (V2.cell? ⟨w.heap.size+1+1,1,none⟩=some (.slice none 0 0)/\V2.cell? ⟨w.heap.size+1+1,2,none⟩=some (.slice none 0 0)/\V2.cell? ⟨w.heap.size,2,none⟩=some (.slice aa an ac)/\V2.frozen? ⟨w.heap.size+1+1,1,none⟩=false):=Lib.hid ⟨r2.cell,r2.cell,(k1.next p2).cell,r2.frozen⟩
 have HFV3:Hid (V3.cell? ⟨w.heap.size+1+1,0,none⟩=some (.slice a1 rn c1)/\V3.cell? ⟨w.heap.size+1+1,1,none⟩=some (.slice a2 ln c2)/\V3.cell? ⟨w.heap.size+1+1,2,none⟩=some (.slice none 0 0)/\V3.frozen? ⟨w.heap.size+1+1,2,none⟩=false/\V3.cell? ⟨w.heap.size+1,0,none⟩=some (.slice none 0 0)/\V3.cell? ⟨w.heap.size+1,1,none⟩=some (.slice none 0 0)/\V3.cell? ⟨w.heap.size+1,2,none⟩=some (.slice none 0 0)/\V3.frozen? ⟨w.heap.size+1,0,none⟩=false/\V3.frozen? ⟨w.heap.size+1,1,none⟩=false/\V3.frozen? ⟨w.heap.size+1,2,none⟩=false):=Lib.hid ⟨r3.cell,r3.cell,r3.cell,r3.frozen,(m2.next p3).cell,(m2.next p3).cell,(m2.next p3).cell,(m2.next p3).frozen,(m2.next p3).frozen,(m2.next p3).frozen⟩
 have HE1:=Lib.hid e1
 have HE2:=Lib.hid e2
 have HE3:=Lib.hid e3
 have HWE:Hid (((w.alloc (.cells (kpV ra rn rc la ln lc aa an ac) 46)).alloc (.cells keptZ 46)).alloc (.cells keptZ 46)=A2):=Lib.hid (by rw [hA2,hA1,hA0])
 rw [hA2,hA1,hA0] at x0 y0 HE1
 clear hr hl ha zr zl za h1 h2 h3 hA0 hA1 hA2 s0 s1 s2 b0 b1 b2 rX rQ rP bw hH e1 o1 p1 q1 z1 e2 o2 p2 q2 e3 o3 p3 q3 z2 r1 r1' r2 r2' r3 r3' k1 k2 m1 m2 m3 mF f1 f2 f3 g1 g2 g3 q4
 go_enter Tryz.func32,Tryz.ntmps32
 go_wp2_with (at_builtin;first
  | (refine Lib.wpList_append_run _ rfl _ _ 23 23 rfl _ _ rfl rfl _ _ HE1.out ?_;clear x0 y0 HE1;obtain ⟨z0',y1,x1,t0⟩:=HFV1.out;clear HFV1)
  | (refine Lib.wpList_append_run _ rfl _ _ 23 23 rfl _ _ rfl rfl _ _ HE2.out ?_;clear z0' y1 x1 t0 HE2;obtain ⟨z1',y2,x2,t1⟩:=HFV2.out;clear HFV2)
  | (refine Lib.wpList_append_run _ rfl _ _ 23 23 rfl _ _ rfl rfl _ _ HE3.out ?_;clear z1' y2 x2 t1 HE3;obtain ⟨w0,w1,z2',t2,u0,u1,u2,v0,v1,v2⟩:=HFV3.out;clear HFV3))
 refine bodyPost_ret (results_cell_one (P:=Tryz.prog) rfl _ _ (w.heap.size+1) 46 _ (0,0) _ rfl HMF.out Tryz.underlying46 rfl (by kernel_rfl)) rfl ?_
 exact HFin.out
end Go.Proofs.YtbabckomagkjbaaGreatDoor
namespace Go.Proofs.YtbabckomagkjbaaGreatDoor
open Go.ChangeShapes Go.WideShapes Go.Deep Go.RowKit
theorem open_intsK {H:Type} {encH:TypeId × Value->H} {W:World} {cell:Value} {fuel:Nat} {x:DataW H × List MemPlace} (hf:DataW.trod encH Tryz.prog W 0 (fun _=>true) true fuel 23 [cell]=some x):
  ∃ (a:Option Addr) (n c:Nat) (l:List Int),cell=.slice a n c/\n<=maxLen/\SL enZ 1 W W.heap.size a n l/\(a=none->n=0/\c=0):=by
 rcases Go.ChangeShapes.open_ints Tryz.underlying23 Tryz.underlying3 (by kernel_rfl) hf with ⟨hcs,hx⟩ | ⟨a,len,cap,zs,hcs,hb,hl,hm,hlen,hx,hc,hw⟩
 ·simp only [List.cons.injEq,and_true] at hcs
  subst hcs
  exact ⟨none,0,0,[],rfl,by unfold maxLen;omega,SL.nil _ _ _,fun _=>⟨rfl,rfl⟩⟩
 ·simp only [List.cons.injEq,and_true] at hcs
  subst hcs
  simp only [if_true] at hlen
  refine ⟨some a,len,cap,zs.take len,rfl,by omega,⟨by rw [List.length_take];omega,fun hne=>?_⟩,by simp⟩
  have hl0:0 < len:=by
   rcases Nat.eq_zero_or_pos len with h | h
   ·subst h;simp at hne
   ·exact h
  have h00:=hc 0 (by omega)
  have ea:a.add 0=a:=by simp [Addr.add]
  rw [ea] at h00
  have hal:a.block < W.heap.size:=cell_lt h00
  obtain ⟨b,off,el⟩:=a
  have hel':el=none:=cell_spot h00
  subst hel'
  refine ⟨b,off,rfl,hal,fun k hk j hj=>?_⟩
  have:j=0:=by omega
  subst this
  have hk':k < len/\k < zs.length:=by rw [List.length_take] at hk;omega
  have:=hc k hk'.2
  rw [add_none] at this
  rw [show off+k*1+0=off+k from by omega,this,List.getElem_take]
  simp [enZ,List.getD_eq_getElem?_getD,List.getElem?_eq_getElem hk'.2]
theorem open_Kept {H:Type} {encH:TypeId × Value->H} {W:World} {base:Nat} {v:Value} {d:DataW H} {p:List MemPlace}
  (hv:Value.okWide Tryz.prog W .any base 46 v) (h:DataW.Trod encH Tryz.prog W 0 (fun _=>true) true 46 v d p):
  ∃ (ra:Option Addr) (rn rc:Nat) (la:Option Addr) (ln lc:Nat) (aa:Option Addr) (an ac:Nat) (rep live align:List Int),v=.agg (kpV ra rn rc la ln lc aa an ac)/\(rn<=maxLen/\ln<=maxLen/\an<=maxLen)/\
   SL enZ 1 W W.heap.size ra rn rep/\SL enZ 1 W W.heap.size la ln live/\SL enZ 1 W W.heap.size aa an align/\(ra=none->rn=0/\rc=0)/\(la=none->ln=0/\lc=0)/\(aa=none->an=0/\ac=0):=by
 obtain ⟨c0,c1,c2,y0,y1,y2,m,rfl,-,-,h0,h1,h2⟩:=Go.Joins.open_agg3 Tryz.underlying46 (by kernel_rfl) (by kernel_rfl) hv h
 obtain ⟨ra,rn,rc,rep,rfl,a1,a2,a3⟩:=open_intsK h0
 obtain ⟨la,ln,lc,live,rfl,b1,b2,b3⟩:=open_intsK h1
 obtain ⟨aa,an,ac,align,rfl,d1,d2,d3⟩:=open_intsK h2
 exact ⟨ra,rn,rc,la,ln,lc,aa,an,ac,rep,live,align,rfl,⟨a1,b1,d1⟩,a2,b2,d2,a3,b3,d3⟩
end Go.Proofs.YtbabckomagkjbaaGreatDoor
