/- The reference's Same of any two sections. The reference's SameSyms. The reference's Same of two objects. -/
import Derived.Test.YthkolmebokfagaaGreatDoorqL
set_option maxRecDepth 100000
set_option maxHeartbeats 3000000
set_option linter.unusedVariables false
set_option linter.unusedSimpArgs false
namespace Go.Proofs.YthkolmebokfagaaGreatDoor
open Go.RowKit
open Go.ChangeShapes Go.WideShapes Go.Deep Go.RowKit
theorem ba_neq {N D:ByteArray} (h:N ≠ D):(N.toList == D.toList)=false/\¬ N.toList=D.toList:=by
 have hne:N.data.toList ≠ D.data.toList:=fun x=>h (ByteArray.ext (Array.toList_inj.1 x))
 exact ⟨by rw [beq_eq_false_iff_ne,ByteArray.toList_eq,ByteArray.toList_eq];exact hne,by rw [ByteArray.toList_eq,ByteArray.toList_eq];exact hne⟩
theorem rSame_any (N B N2 B2:ByteArray) (k k2:Int) (kp kp2:Bool) (al al2:Int) (a a2:Option Addr) (n c n2 c2:Nat) (l l2:List Rl) (w:World) (hn:n<=1000000) (hn2:n2<=1000000) (hs:SL rlC 4 w w.heap.size a n l) (hs2:SL rlC 4 w w.heap.size a2 n2 l2):Calls Tryz.prog 85 #[.agg #[.string N,.int .i64 k,.bool kp,.int .i64 al,.string B,.slice a n c],.agg #[.string N2,.int .i64 k2,.bool kp2,.int .i64 al2,.string B2,.slice a2 n2 c2]] w (fun e w'=>∃ r:Bool,e=.returned (.bool r)/\(r=true ↔ (N=N2/\k=k2/\kp=kp2/\al=al2/\B=B2/\l=l2))/\Below w.heap.size w w'):=by
 have HC:Hid (∀ u,Below w.heap.size w u->Calls Tryz.prog 106 #[.slice a n c,.slice a2 n2 c2] u (fun e w'=>∃ r:Bool,e=.returned (.bool r)/\(r=true ↔ l=l2)/\Below u.heap.size u w')):=Lib.hid (fun u hu=>rSameRels_any a a2 n n2 c c2 l l2 u hn hn2 (hs.next hu) (hs2.next hu))
 have HW:=Lib.hid (two_rb (w:=w) (A:=#[.string N,.int .i64 k,.bool kp,.int .i64 al,.string B,.slice a n c]) (B:=#[.string N2,.int .i64 k2,.bool kp2,.int .i64 al2,.string B2,.slice a2 n2 c2]) (T:=57) (U:=57))
 have HB0:Hid (Below w.heap.size w ((w.alloc (.cells #[.string N,.int .i64 k,.bool kp,.int .i64 al,.string B,.slice a n c] 57)).alloc (.cells #[.string N2,.int .i64 k2,.bool kp2,.int .i64 al2,.string B2,.slice a2 n2 c2] 57))):=Lib.hid HW.out.2.2
 clear hs hs2 hn hn2
 by_cases h1:N=N2
 case neg=>
  obtain ⟨e1,e2⟩:=ba_neq h1
  have hne1:=Lib.hid h1
  clear h1 HW HC
  go_enter Tryz.func85,Tryz.ntmps85
  go_wp2
  go_ret
  exact ⟨false,rfl,⟨fun h=>(by cases h),fun h=>absurd h.1 hne1.out⟩,HB0.out⟩
 by_cases h2:k=k2
 case neg=>
  have e1:(k == k2)=false:=by simp;exact h2
  have hne1:=Lib.hid h2
  subst h1
  clear h2 HW HC
  go_enter Tryz.func85,Tryz.ntmps85
  go_wp2
  go_ret
  exact ⟨false,rfl,⟨fun h=>(by cases h),fun h=>absurd h.2.1 hne1.out⟩,HB0.out⟩
 by_cases h3:kp=kp2
 case neg=>
  have e1:(kp == kp2)=false:=by rw [beq_eq_false_iff_ne];exact h3
  have hne1:=Lib.hid h3
  subst h1 h2
  clear h3 HW HC
  go_enter Tryz.func85,Tryz.ntmps85
  go_wp2
  go_ret
  exact ⟨false,rfl,⟨fun h=>(by cases h),fun h=>absurd h.2.2.1 hne1.out⟩,HB0.out⟩
 by_cases h4:al=al2
 case neg=>
  have e1:(al == al2)=false:=by simp;exact h4
  have hne1:=Lib.hid h4
  subst h1 h2 h3
  clear h4 HW HC
  go_enter Tryz.func85,Tryz.ntmps85
  go_wp2
  go_ret
  exact ⟨false,rfl,⟨fun h=>(by cases h),fun h=>absurd h.2.2.2.1 hne1.out⟩,HB0.out⟩
 by_cases h5:B=B2
 case neg=>
  obtain ⟨e1,e2⟩:=ba_neq h5
  have hne1:=Lib.hid h5
  subst h1 h2 h3 h4
  clear h5 HW HC
  go_enter Tryz.func85,Tryz.ntmps85
  go_wp2
  go_ret
  exact ⟨false,rfl,⟨fun h=>(by cases h),fun h=>absurd h.2.2.2.2.1 hne1.out⟩,HB0.out⟩
 subst h1 h2 h3 h4 h5
 clear HW
 go_enter Tryz.func85,Tryz.ntmps85
 go_wp2_with fail
 refine (HC.out _ HB0.out).mono ?_
 rintro e u ⟨r,rfl,hr,hb⟩
 have HR:=Lib.hid hr
 have HB5:=Lib.hid (after HB0.out hb)
 clear hb hr
 go_wp2
 go_ret
 exact ⟨r,rfl,⟨fun h=>(by refine ⟨?_,?_,?_,?_,?_,HR.out.1 h⟩ <;> first | trivial | rfl),fun h=>HR.out.2 h.2.2.2.2.2⟩,HB5.out⟩
open Go.ChangeShapes Go.WideShapes Go.Deep Go.RowKit
def sameSy (x y:Sy):Bool:=(⟨x.name.toArray⟩:ByteArray).toList == (⟨y.name.toArray⟩:ByteArray).toList && (x.bind == y.bind && (x.sec == y.sec && x.off == y.off))
theorem sameSy_iff {x y:Sy}:sameSy x y=true ↔ x=y:=by
 unfold sameSy
 cases x;cases y
 rw [ByteArray.toList_eq,ByteArray.toList_eq]
 simp [Sy.mk.injEq]
theorem neq_sy (x y:Sy):∀ w,(Sem.run Tryz.prog (binOp BinOp.neq 66 (syV x) (syV y)) w)=Result.ok (.bool (!sameSy x y)) w:=by
 intro w
 obtain ⟨p,k,s,a⟩:=x
 obtain ⟨p',k',s',a'⟩:=y
 simp only [syV]
 generalize hN:(⟨p.toArray⟩:ByteArray)=N
 generalize hM:(⟨p'.toArray⟩:ByteArray)=M
 unfold sameSy
 simp only [hN,hM]
 simp [go_sem]
 repeat' split
 all_goals first | (simp_all;done) | (simp_all;omega)
theorem rSyms_any (a a':Option Addr) (n n' c c':Nat) (l l':List Sy) (w:World) (hn:n<=maxLen) (hn':n'<=maxLen) (h:SL syC 4 w w.heap.size a n l) (h':SL syC 4 w w.heap.size a' n' l'):
  Calls Tryz.prog 84 #[.slice a n c,.slice a' n' c'] w (fun e w'=>∃ r:Bool,e=.returned (.bool r)/\(r=true ↔ l=l')/\Below w.heap.size w w'):=by
 have hni:(n:Int)<=9223372036854775807:=by unfold maxLen at hn;omega
 have hl:=Lib.hid h.len
 have hl':=Lib.hid h'.len
 by_cases e:n=n'
 rotate_left
 ·have hb:((n:Int) != n')=true:=by rw [bne_iff_ne];omega
  have HN:Hid (l ≠ l'):=Lib.hid (fun hh=>by subst hh;exact e (hl.out.trans hl'.out.symm))
  clear e hn hn' h h'
  go_enter Tryz.func84,Tryz.ntmps84
  go_wp2
  go_ret
  exact ⟨false,rfl,⟨fun h=>(by cases h),fun h=>absurd h HN.out⟩,Below.refl _ _⟩
 subst e
 go_enter Tryz.func84,Tryz.ntmps84
 go_wp2
 go_loopw [5] (fun i wr=>∃ k:Nat,k<=n/\i=.int .i64 k/\l.take k=l'.take k/\Below w.heap.size w wr) (fun i _=>n - (intOf i).toNat)
 case atStart=>exact ⟨0,by omega,rfl,rfl,Below.refl _ _⟩
 case round=>
  obtain ⟨k,hk,rfl,htk,hb⟩:=hrel
  have HT:=Lib.hid htk
  clear htk
  by_cases hlt:k < n
  ·have hk1:k < l.length:=by have:=hl.out;omega
   have hk2:k < l'.length:=by have:=hl'.out;omega
   obtain ⟨b,off,rfl,hB,hc⟩:=(h.below hb).cells (h.ne hlt)
   obtain ⟨b',off',rfl,hB',hc'⟩:=(h'.below hb).cells (h'.ne hlt)
   obtain ⟨c0,c1,c2,c3⟩:=sy_cells (fun j hj=>hc k hk1 j hj)
   obtain ⟨d0,d1,d2,d3⟩:=sy_cells (fun j hj=>hc' k hk2 j hj)
   obtain ⟨x,hx⟩:∃ x,x=l[k]:=⟨_,rfl⟩
   obtain ⟨y,hy⟩:∃ y,y=l'[k]:=⟨_,rfl⟩
   rw [<-hx] at c0 c1 c2 c3
   rw [<-hy] at d0 d1 d2 d3
   have HX:=Lib.hid hx
   have HY:=Lib.hid hy
   have hnq:=neq_sy x y
   clear hc hc' h h' hx hy
   cases e:sameSy x y
   ·have HE:Hid (x ≠ y):=Lib.hid (fun hh=>by rw [sameSy_iff.2 hh] at e;cases e)
    rw [e] at hnq
    clear e
    go_wp2
    go_quiet (fail)
    go_wp2
    go_ret
    refine ⟨false,rfl,?_,below_drewN hb _⟩
    constructor
    ·intro h;cases h
    ·intro hh
     subst hh
     exact (HE.out (HX.out.trans HY.out.symm)).elim
   ·have HE:Hid (x=y):=Lib.hid (sameSy_iff.1 e)
    rw [e] at hnq
    clear e
    go_wp2
    go_quiet (fail)
    go_wp2
    go_roundw
    case rel=>
     refine ⟨k+1,by omega,by go_num,?_,below_drewN hb _⟩
     rw [List.take_succ_eq_append_getElem hk1,List.take_succ_eq_append_getElem hk2,HT.out,<-HX.out,<-HY.out,HE.out]
    case measure=>simp [intOf];omega
  ·go_wp2
   go_ret
   refine ⟨true,rfl,⟨fun _=>?_,fun _=>rfl⟩,hb⟩
   have:=HT.out
   rwa [List.take_of_length_le (by have:=hl.out;omega),List.take_of_length_le (by have:=hl'.out;omega)] at this
open Go.ChangeShapes Go.WideShapes Go.Deep Go.RowKit
def SameP (p:Prop) (w:World) (e:Ending) (w':World):Prop:=∃ r:Bool,e=.returned (.bool r)/\(r=true ↔ p)/\Below w.heap.size w w'
theorem rOSame_any (a a2 a' a2':Option Addr) (n c n2 c2 n' c' n2' c2':Nat) (L L':List Ms) (l l':List Sy) (w:World) (hn:n<=maxLen) (hn2:n2<=maxLen) (hn':n'<=maxLen) (hn2':n2'<=maxLen)
  (hs:SL msC 6 w w.heap.size a n L) (hs2:SL syC 4 w w.heap.size a2 n2 l) (hs':SL msC 6 w w.heap.size a' n' L') (hs2':SL syC 4 w w.heap.size a2' n2' l') (hno:Notes w w.heap.size L) (hno':Notes w w.heap.size L') (hr:∀ m ∈ L,m.sc.rels.length<=1000000) (hr':∀ m ∈ L',m.sc.rels.length<=1000000):
  Calls Tryz.prog 52 #[.agg #[.slice a n c,.slice a2 n2 c2],.agg #[.slice a' n' c',.slice a2' n2' c2']] w (SameP (L.map (·.sc)=L'.map (·.sc)/\l=l') w):=by
 have HSy:Hid (∀ u,Below w.heap.size w u->Calls Tryz.prog 84 #[.slice a2 n2 c2,.slice a2' n2' c2'] u (fun e w'=>∃ r:Bool,e=.returned (.bool r)/\(r=true ↔ l=l')/\Below u.heap.size u w')):=Lib.hid fun u hu=>rSyms_any a2 a2' n2 n2' c2 c2' l l' u hn2 hn2' (hs2.next hu) (hs2'.next hu)
 have HS:=Lib.hid hs
 have HS':=Lib.hid hs'
 have HNo:=Lib.hid hno
 have HNo':=Lib.hid hno'
 have HRb:=Lib.hid hr
 have HRb':=Lib.hid hr'
 have HLn:=Lib.hid hs.len
 have HLn':=Lib.hid hs'.len
 have hni:(n:Int)<=9223372036854775807:=by unfold maxLen at hn;omega
 have HW:=Lib.hid (two_rb (w:=w) (A:=#[.slice a n c,.slice a2 n2 c2]) (B:=#[.slice a' n' c',.slice a2' n2' c2']) (T:=25) (U:=25))
 by_cases h1:n=n'
 rotate_left
 ·have e1:((n:Int) != (n':Int))=true:=by rw [bne_iff_ne];omega
  have hne:Hid (L.map (·.sc) ≠ L'.map (·.sc)):=Lib.hid (fun h=>by
   have:=congrArg List.length h
   simp only [List.length_map] at this
   exact h1 (HLn.out.trans (this.trans HLn'.out.symm)))
  have HB0:=Lib.hid HW.out.2.2
  clear hs hs2 hs' hs2' hno hno' hr hr' h1 HW HSy
  go_enter Tryz.func52,Tryz.ntmps52
  go_wp2
  go_ret
  exact ⟨false,rfl,⟨fun h=>(by cases h),fun h=>absurd h.1 hne.out⟩,HB0.out⟩
 subst h1
 obtain ⟨X,hX⟩:∃ X,X=w.heap.size:=⟨_,rfl⟩
 rw [<-hX] at HW
 have HXE:=Lib.hid hX
 clear hs hs2 hs' hs2' hno hno' hr hr' hX
 go_enter Tryz.func52,Tryz.ntmps52
 go_wp2_with fail
 try rw [<-HXE.out]
 generalize (w.alloc (.cells #[.slice a n c,.slice a2 n2 c2] 25)).alloc (.cells #[.slice a' n c',.slice a2' n2' c2'] 25)=W at HW ⊢
 have HB:Hid (Below w.heap.size w W):=Lib.hid (by have:=HW.out.2.2;rw [HXE.out] at this;exact this)
 have HRX:=Lib.hid HW.out.1
 have HRY:=Lib.hid HW.out.2.1
 clear HW HXE
 refine (HSy.out _ HB.out).mono ?_
 rintro e u ⟨r,rfl,hr,hb⟩
 have HR:=Lib.hid hr
 replace HB:=Lib.hid (after HB.out hb)
 replace HRX:=Lib.hid (HRX.out.next hb)
 replace HRY:=Lib.hid (HRY.out.next hb)
 clear hb hr
 cases r
 ·go_wp2
  go_ret
  exact ⟨false,rfl,⟨fun h=>(by cases h),fun h=>(by have:=HR.out.2 h.2;cases this)⟩,HB.out⟩
 have HEl:Hid (l=l'):=Lib.hid (HR.out.1 rfl)
 go_wp2
 have HBs:=Lib.hid HB.out
 have HXs:=Lib.hid HRX.out
 have HYs:=Lib.hid HRY.out
 clear HB HRX HRY HSy HR
 go_loopw [5] (fun i wr=>∃ (k:Nat) (wx:World),wx=wr/\k<=n/\i=.int .i64 k/\Below w.heap.size w wx/\RB wx X #[.slice a n c,.slice a2 n2 c2] 25/\RB wx (X+1) #[.slice a' n c',.slice a2' n2' c2'] 25/\Hid ((L.take k).map (·.sc)=(L'.take k).map (·.sc))) (fun i _=>n - (intOf i).toNat)
 case atStart=>exact ⟨0,_,rfl,by omega,rfl,HBs.out,HXs.out,HYs.out,Lib.hid (by simp)⟩
 case round=>
  clear HBs HXs HYs
  obtain ⟨k,wx,rfl,hk,rfl,hb,hrx,hry,HI⟩:=hrel
  have HB:=Lib.hid hb
  have HRX:=Lib.hid hrx
  have HRY:=Lib.hid hry
  clear hb hrx hry
  by_cases hlt:k < n
  ·have hlti:(k:Int) < (n:Int):=by omega
   have hk1:k < L.length:=by have:=HLn.out;omega
   have hk2:k < L'.length:=by have:=HLn'.out;omega
   obtain ⟨bb,off,rfl,hB1,hc⟩:=(HS.out.next HB.out).cells (HS.out.ne hlt)
   obtain ⟨bd,ofd,rfl,hB2,hd⟩:=(HS'.out.next HB.out).cells (HS'.out.ne hlt)
   obtain ⟨c0,c1,c2',c3,c4,c5⟩:=ms_cells (fun j hj=>hc k hk1 j hj)
   obtain ⟨d0,d1,d2,d3,d4,d5⟩:=ms_cells (fun j hj=>hd k hk2 j hj)
   have hnk:=HNo.out L[k] (List.getElem_mem hk1)
   have hnk':=HNo'.out L'[k] (List.getElem_mem hk2)
   have hbk:=HRb.out L[k] (List.getElem_mem hk1)
   have hbk':=HRb'.out L'[k] (List.getElem_mem hk2)
   obtain ⟨ms,hms⟩:∃ ms,ms=L[k]:=⟨_,rfl⟩
   obtain ⟨mt,hmt⟩:∃ mt,mt=L'[k]:=⟨_,rfl⟩
   rw [<-hms] at c0 c1 c2' c3 c4 c5 hnk hbk
   rw [<-hmt] at d0 d1 d2 d3 d4 d5 hnk' hbk'
   have HMs:=Lib.hid hms
   have HMt:=Lib.hid hmt
   clear hms hmt hc hd hB1 hB2
   obtain ⟨⟨nm,ki,kp,al,dt,rl⟩,ad,cp⟩:=ms
   obtain ⟨⟨nm',ki',kp',al',dt',rl'⟩,ad',cp'⟩:=mt
   obtain ⟨N,hN⟩:∃ N:ByteArray,N=⟨nm.toArray⟩:=⟨_,rfl⟩
   obtain ⟨B,hBB⟩:∃ B:ByteArray,B=⟨dt.toArray⟩:=⟨_,rfl⟩
   obtain ⟨N',hN'⟩:∃ N:ByteArray,N=⟨nm'.toArray⟩:=⟨_,rfl⟩
   obtain ⟨B',hBB'⟩:∃ B:ByteArray,B=⟨dt'.toArray⟩:=⟨_,rfl⟩
   have hNl:nm=N.data.toList:=by rw [hN]
   have hBl:dt=B.data.toList:=by rw [hBB]
   have hNl':nm'=N'.data.toList:=by rw [hN']
   have hBl':dt'=B'.data.toList:=by rw [hBB']
   simp only [] at c0 c1 c2' c3 c4 c5 d0 d1 d2 d3 d4 d5 hnk hnk' hbk hbk'
   rw [<-hN] at c0
   rw [<-hBB] at c4
   rw [<-hN'] at d0
   rw [<-hBB'] at d4
   clear hN hBB hN' hBB'
   subst hNl hBl hNl' hBl'
   obtain ⟨nr,hnr⟩:∃ nr,nr=rl.length:=⟨_,rfl⟩
   obtain ⟨nr',hnr'⟩:∃ nr,nr=rl'.length:=⟨_,rfl⟩
   rw [<-hnr] at c5 hnk hbk
   rw [<-hnr'] at d5 hnk' hbk'
   have HC:Hid (∀ u,Below w.heap.size w u->Calls Tryz.prog 85 #[.agg #[.string N,.int .i64 ki,.bool kp,.int .i64 al,.string B,.slice ad nr cp],.agg #[.string N',.int .i64 ki',.bool kp',.int .i64 al',.string B',.slice ad' nr' cp']] u (fun e w'=>∃ r:Bool,e=.returned (.bool r)/\(r=true ↔ (N=N'/\ki=ki'/\kp=kp'/\al=al'/\B=B'/\rl=rl'))/\Below u.heap.size u w')):=Lib.hid fun u hu=>rSame_any N B N' B' ki ki' kp kp' al al' ad ad' nr cp nr' cp' rl rl' u hbk hbk' (hnk.next hu) (hnk'.next hu)
   have HT1:Hid ((L.take (k+1)).map (·.sc)=(L.take k).map (·.sc) ++ [⟨N.data.toList,ki,kp,al,B.data.toList,rl⟩]):=Lib.hid (by
    rw [List.take_succ_eq_append_getElem hk1,List.map_append,List.map_cons,List.map_nil,<-HMs.out])
   have HT2:Hid ((L'.take (k+1)).map (·.sc)=(L'.take k).map (·.sc) ++ [⟨N'.data.toList,ki',kp',al',B'.data.toList,rl'⟩]):=Lib.hid (by
    rw [List.take_succ_eq_append_getElem hk2,List.map_append,List.map_cons,List.map_nil,<-HMt.out])
   clear hnr hnr' hnk hnk' hbk hbk' HMs HMt
   have x0:wx.cell? ⟨X,0,none⟩=some (.slice (some ⟨bb,off,none⟩) n c):=HRX.out.cell
   have y0:wx.cell? ⟨X+1,0,none⟩=some (.slice (some ⟨bd,ofd,none⟩) n c'):=HRY.out.cell
   go_wp2_with fail
   first | (go_region_with (go_at_call 85;refine (HC.out _ (HB.out.trans (((Below.refl wx.heap.size wx).drew).mono HB.out.size))).mono ?_;rintro e u ⟨r,rfl,hr,hb⟩;have hb2:Below wx.heap.size wx u:=((Below.refl wx.heap.size wx).drew).trans hb)) | fail
   all_goals
    replace HRX:=Lib.hid (HRX.out.next hb2)
    replace HRY:=Lib.hid (HRY.out.next hb2)
    replace HB:=Lib.hid (after HB.out hb2)
    have HR:=Lib.hid hr
    clear hb2 hr x0 y0 c0 c1 c2' c3 c4 c5 d0 d1 d2 d3 d4 d5
    cases r
    ·have HNE:Hid (L.map (·.sc) ≠ L'.map (·.sc)):=Lib.hid (fun h=>by
      have h2:=congrArg (List.take (k+1)) h
      rw [<-List.map_take,<-List.map_take,HT1.out,HT2.out,HI.out] at h2
      have h3:=List.append_cancel_left h2
      simp only [List.cons.injEq,Sc.mk.injEq,and_true] at h3
      obtain ⟨q1,q2,q3,q4,q5,q6⟩:=h3
      have:=HR.out.2 ⟨ByteArray.ext (Array.toList_inj.1 q1),q2,q3,q4,ByteArray.ext (Array.toList_inj.1 q5),q6⟩
      cases this)
     go_wp2
     go_ret
     exact ⟨false,rfl,⟨fun h=>(by cases h),fun h=>absurd h.1 HNE.out⟩,HB.out⟩
    ·have HI2:Hid ((L.take (k+1)).map (·.sc)=(L'.take (k+1)).map (·.sc)):=Lib.hid (by
      obtain ⟨q1,q2,q3,q4,q5,q6⟩:=HR.out.1 rfl
      rw [HT1.out,HT2.out,HI.out,q1,q2,q3,q4,q5,q6])
     go_wp2
     go_roundw
     case rel=>exact ⟨k+1,_,rfl,by omega,by go_num,HB.out,HRX.out,HRY.out,HI2⟩
     case measure=>simp [intOf];omega
  ·have hlti:¬ (k:Int) < (n:Int):=by omega
   have x0:wx.cell? ⟨X,0,none⟩=some (.slice a n c):=HRX.out.cell
   have HE:Hid (L.map (·.sc)=L'.map (·.sc)):=Lib.hid (by
    have:=HI.out
    rwa [List.take_of_length_le (by have:=HLn.out;omega),List.take_of_length_le (by have:=HLn'.out;omega)] at this)
   go_wp2
   go_ret
   exact ⟨true,rfl,⟨fun _=>⟨HE.out,HEl.out⟩,fun _=>rfl⟩,HB.out⟩
end Go.Proofs.YthkolmebokfagaaGreatDoor
