/- veneer: slices.Repeat of one number. veneer: the yard. veneer: what a yard tells. veneer: the veneer of a call, and where it goes. -/
import Derived.Test.YtiohgaghmnpplaaGreatDoorqA
import Derived.Test.YtiohgaghmnpplaaGreatDoorx1
import Derived.Test.YtiohgaghmnpplaaGreatDoorw2
import Derived.Laws.CopyRow
set_option maxRecDepth 100000
set_option maxHeartbeats 3000000
set_option linter.unusedVariables false
set_option linter.unusedSimpArgs false
namespace Go.Proofs.YtiohgaghmnpplaaGreatDoor
section
open Go.ChangeShapes Go.WideShapes Go.Deep Go.RowKit
def eR (n k:Nat)(v:Int):List Int:=List.replicate k v++List.replicate (n-k) 0
def RepP (n:Nat)(v:Int)(w:World)(e:Ending)(w':World):Prop:=e=.returned (.slice (some ⟨w.heap.size,0,none⟩) n n)/\RB w' w.heap.size (iJ (List.replicate n v)) 3/\Below w.heap.size w w'
theorem mul1 (n:Nat)(hn:n<=256)(w:World):Calls Tryz.prog 84 #[.int .u64 1,.int .u64 (n:Int)] w (bQ (.tuple #[.int .u64 0,.int .u64 (n:Int)]) w):=by
 have h:=Tryz.bits_Mul 1 n (by decide) (by omega) w;refine h.mono fun e w' hh=>⟨?_,hh.2.symm⟩
 rw[hh.1];have e1:1*n/18446744073709551616=0:=by omega
 have e2:1*n%18446744073709551616=n:=by omega
 rw[e1,e2];rfl
theorem rb_setRow {u:World}{g:Nat}{cs cs':Array Value}{T:TypeId}(h:RB u g cs T):RB (u.setRow g cs') g cs' T:=by
 unfold RB at h⊢;simp only[World.setRow];rw[Array.getElem?_modify,if_pos rfl,h];rfl
theorem below_row {w u:World}{X g:Nat}(h:Below X w u)(hg:X<=g)(cs:Array Value):Below X w (u.setRow g cs):=
 ⟨h.os,h.tape,h.output,by simpa[World.setRow]using h.size,fun k hk=>by
  rw[<-h.block k hk];simp only[World.setRow];rw[Array.getElem?_modify,if_neg (by omega)]⟩
theorem fill_len {n k:Nat}(v:Int)(h:k<=n):(eR n k v).length=n:=by unfold eR;simp;omega
theorem inA_size (l:List Int):(iJ l).size=l.length:=by simp
theorem inA_list (l:List Int):(iJ l).toList=l.map (Value.int .i64):=by simp
theorem fill_copy {n k m:Nat}{v:Int}(h:k+m<=n):((iJ (eR n k v)).toList.take k++(List.replicate m v).map (Value.int .i64)++(iJ (eR n k v)).toList.drop (k+m)).toArray=iJ (eR n (k+m) v):=by
 have e1:(eR n k v).take k=List.replicate k v:=by
  unfold eR;rw[List.take_append_of_le_length (by simp),List.take_replicate,Nat.min_self]
 have e2:(eR n k v).drop (k+m)=List.replicate (n-(k+m)) 0:=by
  unfold eR;rw[List.drop_append,List.drop_replicate,List.drop_replicate,List.length_replicate];rw[show k-(k+m)=0 from by omega,show n-k-(k+m-k)=n-(k+m)from by omega];rfl
 rw[inA_list,<-List.map_take,<-List.map_drop,e1,e2];unfold iJ;congr 1;rw[<-List.map_append,<-List.map_append];congr 1;unfold eR;rw[<-List.replicate_append_replicate]
theorem fill_src {n k m j:Nat}{v:Int}(hj:j<m)(hm:m<=k):(eR n k v)[j]?=some v:=by
 unfold eR;rw[List.getElem?_append_left (by simp;omega),List.getElem?_replicate,if_pos (by omega)]
theorem copy_at (n k m:Nat)(v:Int)(g:Nat)(w:World)(hk:k+m<=n)(hm:m<=k)(hmin:m=Nat.min k (n-k))(hg:RB w g (iJ (eR n k v)) 3)(ty:TypeId)(c1 c2:Nat):
  (Builtin.copy_ #[23,23] ty #[.slice (some ⟨g,k,none⟩) (n-k) c1,.slice (some ⟨g,0,none⟩) k c2]).run Tryz.prog w=.ok (.int .i64 (m:Int)) (w.setRow g (iJ (eR n (k+m) v))):=by
 have h:=run_copy_row (P:=Tryz.prog) w 23 23 ty 3 g k (n-k) c1 ⟨g,0,none⟩ k c2 (iJ (eR n k v)) 3 ((List.replicate m v).map (Value.int .i64)) Tryz.underlying23 (by kernel_rfl) hg (by simp[hmin]) (by
  intro j x hx;rw[List.getElem?_map,List.getElem?_replicate]at hx;split at hx
  ·rename_i hj;simp only[Option.map_some,Option.some.injEq]at hx;subst hx;have:=hg.cell (j:=j);rw[show((⟨g,0,none⟩:Addr).add j)=⟨g,j,none⟩from by simp[Addr.add];exact fun h=>h.symm,this];exact gG (fill_src hj hm)
  ·cases hx) (by rw[inA_size,fill_len v (by omega)];simp;omega) (by
  intro x hx;obtain⟨y,-,rfl⟩:=List.mem_map.1 hx;rfl)
 rw[h];have e:((List.replicate m v).map (Value.int .i64)).length=m:=by simp
 rw[e,fill_copy hk];rfl
theorem copy_first (n:Nat)(hn:1<=n)(v:Int)(g b:Nat)(w:World)(hb:RB w b #[.int .i64 v] 3)(hg:RB w g (iJ (List.replicate n 0)) 3)(ty:TypeId):
  (Builtin.copy_ #[23,23] ty #[.slice (some ⟨g,0,none⟩) n n,.slice (some ⟨b,0,none⟩) 1 1]).run Tryz.prog w=.ok (.int .i64 1) (w.setRow g (iJ (eR n 1 v))):=by
 have h:=run_copy_row (P:=Tryz.prog) w 23 23 ty 3 g 0 n n ⟨b,0,none⟩ 1 1 (iJ (List.replicate n 0)) 3 [.int .i64 v] Tryz.underlying23 (by kernel_rfl) hg (by show 1=Nat.min 1 n;exact(Nat.min_eq_left hn).symm) (by
  intro j x hx;match j,hx with
  |0,hx=>
   simp only[List.getElem?_cons_zero,Option.some.injEq]at hx;subst hx;exact hb.cell) (by rw[inA_size];simp;omega) (by intro x hx;rw[List.mem_singleton.1 hx];rfl)
 rw[h];have e:=fill_copy (n:=n) (k:=0) (m:=1) (v:=v) (by omega);rw[show eR n 0 v=List.replicate n 0 from by unfold eR;simp]at e;simp only[Nat.zero_add]at e;rw[show([Value.int .i64 v]:List Value)=(List.replicate 1 v).map (Value.int .i64)from rfl];simp only[List.length_map,List.length_replicate,Nat.zero_add];rw[e];rfl
theorem slRepeat_0 (b:Nat)(v:Int)(w:World):
  Calls Tryz.prog 55 #[.slice (some ⟨b,0,none⟩) 1 1,.int .i64 0] w (RepP 0 v w):=by
 have hmk:∀w,(Instr.makeSlice 23 (.int .i64 0) (.int .i64 0)).run Tryz.prog w=.ok (.slice (some ⟨w.heap.size,0,none⟩) 0 0) (w.alloc (.cells #[] 3)):=fun w=>jX 0 (by omega) w
 have HM:Hid (∀u,Calls Tryz.prog 84 #[.int .u64 1,.int .u64 0] u (bQ (.tuple #[.int .u64 0,.int .u64 0]) u)):=aH (fun u=>mul1 0 (by decide) u);have hcp:∀ty,(Builtin.copy_ #[23,23] ty #[.slice (some ⟨w.heap.size,0,none⟩) 0 0,.slice (some ⟨b,0,none⟩) 1 1]).run Tryz.prog (w.alloc (.cells #[] 3))=.ok (.int .i64 0) (w.alloc (.cells #[] 3)):=fun ty=>run_copy_none (P:=Tryz.prog) (w.alloc (.cells #[] 3)) 23 23 ty 3 (some ⟨w.heap.size,0,none⟩) (some ⟨b,0,none⟩) 0 0 1 1 Tryz.underlying23 (by kernel_rfl) rfl
 have HB:Hid (Below w.heap.size w (w.alloc (.cells #[] 3))):=aH (aC _ _);have HR:Hid (RB (w.alloc (.cells #[] 3)) w.heap.size (iJ (List.replicate 0 v)) 3):=aH (aQ _ _ _);go_enter Tryz.func55,Tryz.ntmps55;go_wp2_with fail
 refine(HM.out _).mono ?_;rintro e u ⟨rfl,rfl⟩;go_wp2_with fail
 go_loopw [8] (fun i wr=>i=.int .i64 0/\wr=w.alloc (.cells #[] 3)) (fun _ _=>0)
 case atStart=>exact⟨rfl,rfl⟩
 case round=>
  obtain⟨rfl,rfl⟩:=hrel;go_wp2;go_ret;exact⟨rfl,HR.out,HB.out⟩
theorem slRepeat_any (n:Nat)(hn:n<=256)(hn1:1<=n)(b:Nat)(v:Int)(w:World)(hb:RB w b #[.int .i64 v] 3):
  Calls Tryz.prog 55 #[.slice (some ⟨b,0,none⟩) 1 1,.int .i64 (n:Int)] w (RepP n v w):=by
 have hmk:=jX n (by omega);have HM:=aH (fun u=>mul1 n hn u);have hni:(n:Int)<=256:=by omega
 have hni1:(1:Int)<=(n:Int):=by omega
 have hnu:IntKind.u64.wrap (n:Int)=(n:Int):=by rw[IntKind.wrap_u64];omega
 have hcp:=fun ty=>copy_first n hn1 v w.heap.size b (w.alloc (.cells (iJ (List.replicate n 0)) 3)) (hb.next (aC _ _)) (aQ _ _ _) ty
 have HB:Hid (Below w.heap.size w ((w.alloc (.cells (iJ (List.replicate n 0)) 3)).setRow w.heap.size (iJ (eR n 1 v)))):=aH (below_row (aC _ _) (Nat.le_refl _) _);have HR:Hid (RB ((w.alloc (.cells (iJ (List.replicate n 0)) 3)).setRow w.heap.size (iJ (eR n 1 v))) w.heap.size (iJ (eR n 1 v)) 3):=aH (rb_setRow (aQ _ _ _));have HN1:=aH hn1;clear hb hn hn1;go_enter Tryz.func55,Tryz.ntmps55;go_wp2_with fail
 refine(HM.out _).mono ?_;rintro e u ⟨rfl,rfl⟩;go_wp2_with fail
 clear hcp hmk;generalize(w.alloc (.cells (iJ (List.replicate n 0)) 3)).setRow w.heap.size (iJ (eR n 1 v))=W1 at HB HR⊢;go_loopw [8] (fun i wr=>∃(k:Nat) (wx:World),wx=wr/\1<=k/\k<=n/\i=.int .i64 k/\Hid (RB wx w.heap.size (iJ (eR n k v)) 3)/\Hid (Below w.heap.size w wx)) (fun i _=>n-(intOf i).toNat)
 case atStart=>exact⟨1,_,rfl,by omega,HN1.out,rfl,HR,HB⟩
 case round=>
  clear HR HB;obtain⟨k,wx,rfl,hk1,hk,rfl,HR,HB⟩:=hrel;by_cases hlt:k<n
  ·have hlti:(k:Int)<(n:Int):=by omega
   have hki1:(1:Int)<=(k:Int):=by omega
   have hnk:¬n=k:=by omega
   obtain⟨m,hm⟩:=aE (Nat.min k (n-k));have hmk:m<=k:=by rw[hm];exact Nat.min_le_left _ _
   have hmn0:m<=n-k:=by rw[hm];exact Nat.min_le_right _ _
   have hmn:k+m<=n:=by omega
   have hm1:1<=m:=by rw[hm];exact Nat.le_min.2 ⟨hk1,by omega⟩
   have HMm:=aH hm;clear hm;have hkb:(k:Int)<=256:=by omega
   have hmb:(m:Int)<=256:=by omega
   have hw9:IntKind.i64.wrap ((k:Int)+(m:Int))=(((k+m:Nat)):Int):=by rw[IntKind.wrap_i64];omega
   go_wp2_with fail
   refine wp_region_held_drew (S:=fun _=>True) (by kernel_rfl) trivial (fun hHeld=>?_);obtain⟨V,hV⟩:=aE wx.drew;rw[<-hV];have HRv:Hid (RB V w.heap.size (iJ (eR n k v)) 3):=aH (by rw[hV];exact HR.out.next (Below.refl _ _).drew);have HBv:Hid (Below w.heap.size w V):=aH (by rw[hV];exact HB.out.drew);clear hV;iterate 7 refine aN _ rfl hHeld ?_
   have hcp:=fun ty=>copy_at n k m v w.heap.size V hmn hmk HMm.out HRv.out ty (n-k) n
   have HRn:Hid (RB (V.setRow w.heap.size (iJ (eR n (k+m) v))) w.heap.size (iJ (eR n (k+m) v)) 3):=aH (rb_setRow HRv.out);have HBn:Hid (Below w.heap.size w (V.setRow w.heap.size (iJ (eR n (k+m) v)))):=aH (below_row HBv.out (Nat.le_refl _) _);refine rd 7 rfl (fun K hK=>?_);go_simp;refine hK.out _ _ trivial (fun hHeld2=>?_);clear hK K;refine aI 8 _ rfl hHeld2 ?_;refine rd 9 rfl (fun K hK=>?_);go_simp;refine hK.out _ _ trivial (fun hHeld3=>?_);clear hK K;refine wpAnyH_done (by kernel_rfl) ?_ _;have HMn:=aH hmn;have HM1:=aH hm1;clear hcp hmk hmn0 hmn hm1 hlt hk hk1;go_wp2;go_roundw
   case rel=>exact⟨k+m,_,rfl,by have:=HM1.out;omega,HMn.out,by go_num,HRn,HBn⟩
   case measure=>have:=HM1.out;have:=HMn.out;simp[intOf];omega
  ·obtain rfl:n=k:=by omega
   have hge:¬(n:Int)<(n:Int):=by omega
   have HF:Hid (RB wx w.heap.size (iJ (List.replicate n v)) 3):=aH (by have:=HR.out;unfold eR at this;simpa using this);clear hk1 hk hlt;go_wp2;go_ret;exact⟨rfl,HF.out,HB.out⟩
def jZ (n:Nat)(L:List Nat):List Int:=(List.range n).map (fun k=>if k∈L then((L.idxOf k:Nat):Int)else -1)
theorem oL (n:Nat)(L:List Nat):(jZ n L).length=n:=by unfold jZ;simp
theorem iU {n k:Nat}(L:List Nat)(h:k<n):(jZ n L)[k]?=some (if k∈L then((L.idxOf k:Nat):Int)else -1):=by
 unfold jZ;rw[List.getElem?_map,List.getElem?_range h];rfl
theorem idx_app_in {a:Nat}{l t:List Nat}(h:a∈l):(l++t).idxOf a=l.idxOf a:=by
 rw[List.idxOf_append,if_pos h]
theorem idx_app_out {a:Nat}{l t:List Nat}(h:a∉l):(l++t).idxOf a=l.length+t.idxOf a:=by
 rw[List.idxOf_append,if_neg h,Nat.add_comm]
theorem where_nil (n:Nat):jZ n []=List.replicate n (-1):=by
 apply List.ext_getElem?;intro i;by_cases h:i<n
 ·rw[iU _ h,List.getElem?_replicate,if_pos h];rfl
 ·rw[List.getElem?_eq_none (by rw[oL];omega),List.getElem?_eq_none (by simp;omega)]
theorem where_step {n k p:Nat}{L:List Nat}(hn:L.Nodup)(hk:L[k]?=some p)(hp:p<n):(jZ n (L.take k)).set p (k:Int)=jZ n (L.take (k+1)):=by
 obtain⟨hkl,hkp⟩:=eX hk;have e:L.take (k+1)=L.take k++ [p]:=by rw[List.take_add_one,hk];rfl
 have hnp:p∉L.take k:=by
  intro hh;obtain⟨j,hj⟩:=List.getElem?_of_mem hh;have hj':j<k:=by have:=(eX hj).1;rw[List.length_take]at this;omega
  rw[List.getElem?_take,if_pos hj']at hj;have:=(List.getElem?_inj (eX hj).1 hn).1 (hj.trans hk.symm);omega
 apply List.ext_getElem?;intro i;by_cases hi:i<n
 ·rw[iU _ hi];by_cases ep:p=i
  ·subst ep;rw[List.getElem?_set_self (by rw[oL];exact hi),e];rw[if_pos (by simp),idx_app_out hnp];simp[List.length_take];omega
  ·rw[List.getElem?_set_ne ep,iU _ hi,e];by_cases hm:i∈L.take k
   ·rw[if_pos hm,if_pos (List.mem_append_left _ hm),idx_app_in hm]
   ·rw[if_neg hm,if_neg (by simp only[List.mem_append,List.mem_singleton];rintro(h|h);exact hm h;exact ep h.symm)]
 ·rw[List.getElem?_eq_none (by rw[List.length_set,oL];omega),List.getElem?_eq_none (by rw[oL];omega)]
abbrev ydA (ua:Option Addr)(n uc:Nat)(ra:Option Addr)(rn rc:Nat)(la:Option Addr)(ln lc:Nat)(aa:Option Addr)(an ac g:Nat):Array Value:=#[.slice ua n uc,.slice ra rn rc,.slice la ln lc,.slice aa an ac,.slice (some ⟨g,0,none⟩) n n]
structure Yp where
 ua:Option Addr
 n:Nat
 uc:Nat
 ra:Option Addr
 rn:Nat
 rc:Nat
 la:Option Addr
 ln:Nat
 lc:Nat
 aa:Option Addr
 an:Nat
 ac:Nat
abbrev Yp.arr (p:Yp)(g:Nat):Array Value:=ydA p.ua p.n p.uc p.ra p.rn p.rc p.la p.ln p.lc p.aa p.an p.ac g
abbrev Yp.kp (p:Yp):Value:=.agg #[.slice p.ra p.rn p.rc,.slice p.la p.ln p.lc,.slice p.aa p.an p.ac]
structure YD (p:Yp)(L:List Nat)(u:World)(Y g:Nat):Prop where
 yy:RB u Y (p.arr g) 102
 gg:RB u g (iJ (jZ p.n L)) 3
theorem YD.next {p:Yp}{L:List Nat}{u v:World}{Y g:Nat}(h:YD p L u Y g)(hb:Below u.heap.size u v):YD p L v Y g:=⟨h.yy.next hb,h.gg.next hb⟩
def NewYP (p:Yp)(L:List Nat)(w:World)(e:Ending)(w':World):Prop:=∃Y g,e=.returned (.pointer (some ⟨Y,0,none⟩))/\YD p L w' Y g/\w.heap.size<=Y/\w.heap.size<=g/\Below w.heap.size w w'
theorem rep_any (n:Nat)(hn:n<=256)(b:Nat)(w:World)(hb:RB w b #[.int .i64 (-1)] 3):Calls Tryz.prog 55 #[.slice (some ⟨b,0,none⟩) 1 1,.int .i64 (n:Int)] w (RepP n (-1) w):=by
 by_cases h:1<=n
 ·exact slRepeat_any n hn h b (-1) w hb
 ·obtain rfl:n=0:=by omega
  exact slRepeat_0 b (-1) w
theorem nT (p:Yp)(L:List Nat)(w:World)(hn:p.n<=256)(hL:SL dT 1 w w.heap.size p.la p.ln (L.map Int.ofNat))(hd:L.Nodup)(hlt:∀k∈L,k<p.n)(hln:p.ln<=256):
  Calls Tryz.prog 27 #[.slice p.ua p.n p.uc,p.kp] w (NewYP p L w):=by
 obtain⟨ua,n,uc,ra,rn,rc,la,ln,lc,aa,an,ac⟩:=p;simp only[]at hn hL hlt hln⊢;have hl:ln=L.length:=by have:=hL.len;simpa using this
 have hni:(n:Int)<=256:=by omega
 have hlni:(ln:Int)<=256:=by omega
 have HL:=aH hL;have HLl:=aH hl;have HD:=aH hd;have HLt:=aH hlt;have HC:=aH (fun(b:Nat) (u:World) (hb:RB u b #[.int .i64 (-1)] 3)=>rep_any n hn b u hb);obtain⟨X,hX⟩:=aE w.heap.size;obtain⟨W,hW⟩:=aE (w.alloc (.cells #[.slice ra rn rc,.slice la ln lc,.slice aa an ac] 25));have HB:Hid (Below w.heap.size w W):=aH (by rw[hW];exact aC w _);have HX:Hid (RB W X #[.slice ra rn rc,.slice la ln lc,.slice aa an ac] 25):=aH (by rw[hW,hX];exact aQ w _ _);have HWe:=aH hW.symm;have HXe:=aH hX.symm;clear hL hl hd hlt hn hln hX hW;go_enter Tryz.func27,Tryz.ntmps27;go_wp2_with fail
 rw[HWe.out,HXe.out];have HcS:Hid (∀v,Below W.heap.size W v->v.cell? ⟨X,0,none⟩=some (.slice ra rn rc)/\v.cell? ⟨X,1,none⟩=some (.slice la ln lc)/\v.cell? ⟨X,2,none⟩=some (.slice aa an ac)):=aH fun v hv=>⟨(HX.out.next hv).cell,(HX.out.next hv).cell,(HX.out.next hv).cell⟩
 refine wp_region_held_drew (S:=fun v=>v.cell? ⟨X,0,none⟩=some (.slice ra rn rc)/\v.cell? ⟨X,1,none⟩=some (.slice la ln lc)/\v.cell? ⟨X,2,none⟩=some (.slice aa an ac)) (by kernel_rfl) (HcS.out _ (Below.refl _ _).drew) (fun hHeld=>?_);obtain⟨V,hV⟩:=aE W.drew;rw[<-hV]at hHeld⊢;have HT:=aH (show Below W.heap.size W V by rw[hV];exact(Below.refl _ _).drew);clear hV;iterate 2 refine aN _ rfl hHeld ?_
 refine aI 3 _ rfl hHeld ?_;refine aI 4 _ rfl hHeld ?_;have HT2:=aH (after HT.out (aC V (.cells #[.int .i64 (-1)] 3)));have HBb:Hid (RB (V.alloc (.cells #[.int .i64 (-1)] 3)) V.heap.size #[.int .i64 (-1)] 3):=aH (aQ _ _ _);refine rd 2 rfl (fun K hK=>?_);go_simp;refine hK.out _ _ (HcS.out _ HT2.out) (fun hHeld2=>?_);clear hK K;refine rd 5 rfl (fun K hK=>?_);go_simp;go_wp2_with (go_at_call 55;refine(HC.out _ _ HBb.out).mono ?_;rintro e u1 ⟨rfl,hr,hb⟩)
 have HT3:=aH (after HT2.out hb);obtain⟨g,hg⟩:=aE (V.heap.size+1);have hr2:RB u1 g (iJ (List.replicate n (-1))) 3:=by rw[World.size_alloc,<-hg]at hr;exact hr
 have HR:=aH hr2;have HGe:=aH hg.symm;have HGw:Hid (w.heap.size<=g):=aH (by have:=(after HB.out HT.out).size;omega);clear hr hb hg hr2;refine hK.out _ _ (HcS.out _ HT3.out) (fun hHeld3=>?_);clear hK K;refine aI 6 _ rfl hHeld3 ?_;refine rd 7 rfl (fun K hK=>?_);go_simp;have HT4:=aH (after HT3.out (aC u1 (.cells #[.slice ua n uc,.slice ra rn rc,.slice la ln lc,.slice aa an ac,.slice (some ⟨V.heap.size+1,0,none⟩) n n] 102)));refine hK.out _ _ (HcS.out _ HT4.out) (fun hHeld4=>?_);clear hK K;refine rd 8 rfl (fun K hK=>?_);go_simp;refine hK.out _ _ hHeld4 (fun hHeld5=>?_);clear hK K hHeld hHeld2 hHeld3 hHeld4 hHeld5;refine wpAnyH_done (by kernel_rfl) ?_ _;obtain⟨Y,hY⟩:=aE u1.heap.size;have HYw:Hid (w.heap.size<=Y):=aH (by have:=(after HB.out HT3.out).size;omega);have hb1:=aC u1 (.cells (ydA ua n uc ra rn rc la ln lc aa an ac g) 102);have HYD:Hid (YD ⟨ua,n,uc,ra,rn,rc,la,ln,lc,aa,an,ac⟩ [] (u1.alloc (.cells (ydA ua n uc ra rn rc la ln lc aa an ac g) 102)) Y g):=aH ⟨by rw[hY];exact aQ _ _ _,by show RB _ g (iJ (jZ n [])) _;rw[where_nil];exact HR.out.next hb1⟩;have HXv:Hid (RB (u1.alloc (.cells (ydA ua n uc ra rn rc la ln lc aa an ac g) 102)) X #[.slice ra rn rc,.slice la ln lc,.slice aa an ac] 25):=aH ((HX.out.next HT3.out).next hb1);have HBn:=aH (after (after HB.out HT3.out) hb1);have HYe:=aH hY.symm;clear hY hb1;rw[HGe.out];try rw[HYe.out]
 generalize u1.alloc (.cells #[.slice ua n uc,.slice ra rn rc,.slice la ln lc,.slice aa an ac,.slice (some ⟨g,0,none⟩) n n] 102)=U0 at HYD HXv HBn⊢;have x1:U0.cell? ⟨X,1,none⟩=some (.slice la ln lc):=HXv.out.cell;go_wp2_with fail
 clear x1;go_loopw [19] (fun i wr=>∃(k:Nat) (wx:World),wx=wr/\k<=ln/\i=.int .i64 k/\Hid (YD ⟨ua,n,uc,ra,rn,rc,la,ln,lc,aa,an,ac⟩ (L.take k) wx Y g)/\Hid (Below w.heap.size w wx)) (fun i _=>ln-(intOf i).toNat)
 case atStart=>exact⟨0,_,rfl,by omega,rfl,HYD,HBn⟩
 case round=>
  clear HYD HBn HXv;obtain⟨k,wx,rfl,hk,rfl,HYD,HBn⟩:=hrel;by_cases hlt:k<ln
  ·have hlti:(k:Int)<(ln:Int):=by omega
   have HLT:=aH hlt;have hkl:k<L.length:=by rw[<-HLl.out];exact hlt
   obtain⟨q,hq⟩:=aG (l:=L) (i:=k) hkl;have hqn:=HLt.out q (eQ hq);have hqi:(q:Int)<(n:Int):=by omega
   obtain⟨lb,lo,hla,hlb,-⟩:=HL.out.cells (by intro e;rw[List.map_eq_nil_iff]at e;rw[e]at hkl;simp at hkl);subst hla;have r0:wx.cell? ⟨lb,lo+k,none⟩=some (.int .i64 (q:Int)):=bR HL.out HBn.out (by rw[List.getElem?_map,hq];rfl);have y4:wx.cell? ⟨Y,4,none⟩=some (.slice (some ⟨g,0,none⟩) n n):=HYD.out.yy.cell;have z0:wx.cell? ⟨g,q,none⟩=some (.int .i64 (-1)):=by
    rw[HYD.out.gg.cell];refine gG ?_;rw[iU _ hqn,if_neg];intro hh;obtain⟨j,hj⟩:=List.getElem?_of_mem hh;have hj':j<k:=by have:=(eX hj).1;rw[List.length_take]at this;omega
    rw[List.getElem?_take,if_pos hj']at hj;have:=(List.getElem?_inj (eX hj).1 HD.out).1 (hj.trans hq.symm);omega
   have z1:wx.frozen? ⟨g,q,none⟩=false:=HYD.out.gg.frozen;have hgY:Y≠g:=by
    intro e;have h1:=HYD.out.yy;have h2:=HYD.out.gg;unfold RB at h1 h2;rw[e,h2]at h1;simp only[Option.some.injEq,Obj.cells.injEq]at h1;exact absurd h1.2.1 (by decide)
   have HYn:Hid (YD ⟨ua,n,uc,ra,rn,rc,some ⟨lb,lo,none⟩,ln,lc,aa,an,ac⟩ (L.take (k+1)) (wx.setCell ⟨g,q,none⟩ (.int .i64 (k:Int))) Y g):=aH ⟨(Below.heap_setCell _ _ _ _ hgY).trans HYD.out.yy,by
    have:=HYD.out.gg.set (j:=q) (.int .i64 (k:Int));rw[sD,where_step HD.out hq hqn]at this;exact this⟩
   have HBm:Hid (Below w.heap.size w (wx.setCell ⟨g,q,none⟩ (.int .i64 (k:Int)))):=aH (HBn.out.setCell (p:=⟨g,q,none⟩) HGw.out _);clear hkl hq hqn hlb hk hlt hgY;go_wp2;go_roundw
   case rel=>exact⟨k+1,_,rfl,by have:=HLT.out;omega,by go_num,HYn,HBm⟩
   case measure=>have:=HLT.out;simp[intOf];omega
  ·obtain rfl:ln=k:=by omega
   have hge:¬(ln:Int)<(ln:Int):=by omega
   have HE:Hid (L.take ln=L):=aH (by rw[HLl.out,List.take_length]);clear hk hlt;go_wp2;go_ret;exact⟨Y,g,rfl,by have:=HYD.out;rw[HE.out]at this;exact this,HYw.out,HGw.out,HBn.out⟩
theorem stand_no {L:List Nat}{k:Int}(h:k<0):bC L k=false:=by unfold bC;rw[decide_eq_false (by omega),Bool.false_and]
theorem stand_out {L:List Nat}{n:Nat}{k:Int}(hL:∀x∈L,x<n)(h:(n:Int)<=k):bC L k=false:=by
 unfold bC;rw[decide_eq_false (p:=k.toNat∈L) (fun hh=>by have:=hL _ hh;omega),Bool.and_false]
theorem stand_in {L:List Nat} {k:Nat}:bC L (k:Int)=decide (k ∈ L):=by
 unfold bC;rw[decide_eq_true (by omega),Bool.true_and];simp
theorem stands_any (p:Yp)(L:List Nat)(Y g:Nat)(at':Int)(u:World)(hn:p.n<=256)(hL:∀x∈L,x<p.n)(h:YD p L u Y g):
  Calls Tryz.prog 54 #[.pointer (some ⟨Y,0,none⟩),.int .i64 at'] u (bQ (.bool (bC L at')) u):=by
 obtain⟨ua,n,uc,ra,rn,rc,la,ln,lc,aa,an,ac⟩:=p;simp only[]at hn hL;have y0:u.cell? ⟨Y,0,none⟩=some (.slice ua n uc):=h.yy.cell;have y4:u.cell? ⟨Y,4,none⟩=some (.slice (some ⟨g,0,none⟩) n n):=h.yy.cell;have hni:(n:Int)<=256:=by omega
 by_cases h0:at'<0
 ·rw[stand_no h0];have h1:¬(0:Int)<=at':=by omega
  go_enter Tryz.func54,Tryz.ntmps54;go_wp2;go_ret;exact⟨rfl,rfl⟩
 ·by_cases h2:(n:Int)<=at'
  ·rw[stand_out hL h2];have h1:(0:Int)<=at':=by omega
   have h3:¬at'<(n:Int):=by omega
   go_enter Tryz.func54,Tryz.ntmps54;go_wp2;go_ret;exact⟨rfl,rfl⟩
  ·obtain⟨k,rfl⟩:∃k:Nat,at'=(k:Int):=⟨at'.toNat,by omega⟩;have hk:k<n:=by omega
   have hki:(k:Int)<(n:Int):=by omega
   rw[stand_in];have z0:u.cell? ⟨g,k,none⟩=some (.int .i64 (if k∈L then((L.idxOf k:Nat):Int)else -1)):=by
    have:RB u g (iJ (jZ n L)) 3:=h.gg;rw[this.cell];exact gG (iU L hk)
   clear h hL h0 h2 hn hk;by_cases hm:k∈L
   ·rw[if_pos hm]at z0;rw[decide_eq_true hm];obtain⟨j,hj⟩:=aE (L.idxOf k);rw[<-hj]at z0;have hj0:(0:Int)<=(j:Int):=by omega
    clear hm hj;go_enter Tryz.func54,Tryz.ntmps54;go_wp2;go_ret;exact⟨rfl,rfl⟩
   ·rw[if_neg hm]at z0;rw[decide_eq_false hm];clear hm;go_enter Tryz.func54,Tryz.ntmps54;go_wp2;go_ret;exact⟨rfl,rfl⟩
theorem beqI (k:Int):(k == 1)=decide (k=1):=by
 by_cases h:k=1
 ·subst h;rfl
 ·rw[decide_eq_false h,beq_eq_false_iff_ne];exact h
theorem kindN_at {Lm:List Ms}{k:Nat}{m:Ms}(h:Lm[k]?=some m):bG (Lm.map (·.sc)) k=m.sc.kind:=by unfold bG;rw[List.getElem?_map,h];rfl
theorem isCode_any (p:Yp)(L:List Nat)(Lm:List Ms)(Y g:Nat)(at':Int)(u:World)(hn:p.n<=256)(hL:∀x∈L,x<p.n)(hs:SL mX 6 u u.heap.size p.ua p.n Lm)(h:YD p L u Y g):
  Calls Tryz.prog 39 #[.pointer (some ⟨Y,0,none⟩),.int .i64 at'] u (bQ (.bool (eF (Lm.map (·.sc)) L at')) u):=by
 have HC:=aH (stands_any p L Y g at' u hn hL h);obtain⟨ua,n,uc,ra,rn,rc,la,ln,lc,aa,an,ac⟩:=p;simp only[]at hn hL hs;have y0:u.cell? ⟨Y,0,none⟩=some (.slice ua n uc):=h.yy.cell;have hni:(n:Int)<=256:=by omega
 unfold eF;cases hb:bC L at'
 ·rw[hb]at HC;rw[Bool.false_and];clear h hL hs hn hb;go_enter Tryz.func39,Tryz.ntmps39;go_wp2_with fail
  refine HC.out.mono ?_;rintro e w' ⟨rfl,rfl⟩;go_wp2;go_ret;exact⟨rfl,rfl⟩
 ·have hb2:=hb;unfold bC at hb;simp only[Bool.and_eq_true,decide_eq_true_eq]at hb;obtain⟨k,rfl⟩:∃k:Nat,at'=(k:Int):=⟨at'.toNat,by omega⟩;rw[Int.toNat_natCast]at hb⊢;have hk:k<n:=hL k hb.2;have hki:(k:Int)<(n:Int):=by omega
  obtain⟨m,hm⟩:=aG (l:=Lm) (i:=k) (by have:=hs.len;omega);obtain⟨ub,uo,hua,-,-⟩:=hs.cells (by intro e;rw[e]at hm;cases hm);subst hua;obtain⟨-,d1,-,-,-,-⟩:=cO hs (Below.refl _ _) hm;rw[hb2]at HC;rw[kindN_at hm,Bool.true_and];generalize m.sc.kind=kd at d1;clear h hL hs hn hb hb2 hm hk;go_enter Tryz.func39,Tryz.ntmps39;go_wp2_with fail
  refine HC.out.mono ?_;rintro e w' ⟨rfl,rfl⟩;go_wp2;go_ret;exact⟨congrArg (fun z=>Ending.returned (Value.bool z)) (beqI kd),rfl⟩
theorem lenN_at {Lm:List Ms}{k:Nat}{m:Ms}(h:Lm[k]?=some m):iI (Lm.map (·.sc)) k=m.sc.data.length:=by unfold iI;rw[List.getElem?_map,h];rfl
theorem end_any (p:Yp)(L:List Nat)(Lm:List Ms)(Y g k:Nat)(u:World)(hn:p.n<=256)(hk:k<p.n)(hs:SL mX 6 u u.heap.size p.ua p.n Lm)(h:YD p L u Y g)(hd:iI (Lm.map (·.sc)) k<=100000):
  Calls Tryz.prog 56 #[.pointer (some ⟨Y,0,none⟩),.int .i64 (k:Int)] u (bQ (.int .i64 ((gN (Lm.map (·.sc)) k:Nat):Int)) u):=by
 obtain⟨ua,n,uc,ra,rn,rc,la,ln,lc,aa,an,ac⟩:=p;simp only[]at hn hk hs;have y0:u.cell? ⟨Y,0,none⟩=some (.slice ua n uc):=h.yy.cell;have hni:(n:Int)<=256:=by omega
 have hki:(k:Int)<(n:Int):=by omega
 obtain⟨m,hm⟩:=aG (l:=Lm) (i:=k) (by have:=hs.len;omega);obtain⟨ub,uo,hua,-,-⟩:=hs.cells (by intro e;rw[e]at hm;cases hm);subst hua;obtain⟨-,-,-,-,d4,-⟩:=cO hs (Below.refl _ _) hm;rw[lenN_at hm]at hd;unfold gN;rw[lenN_at hm];obtain⟨B,hB⟩:∃B:ByteArray,B=⟨m.sc.data.toArray⟩:=⟨_,rfl⟩;have hBs:B.size=m.sc.data.length:=by rw[hB];show m.sc.data.toArray.size=_;simp
 rw[<-hB]at d4;rw[<-hBs]at hd⊢;have hbi:(B.size:Int)<=100000:=by omega
 have HE:Hid ((((B.size+3)/4*4:Nat):Int)=((B.size:Int)+3)/4*4):=aH (by omega);clear h hs hn hm hB hBs hd hk;go_enter Tryz.func56,Tryz.ntmps56;go_wp2;go_ret;exact⟨congrArg (fun z=>Ending.returned (Value.int .i64 z)) (by rw[HE.out];omega),rfl⟩
end
section
open Go.ChangeShapes Go.WideShapes Go.Deep Go.RowKit
open Go.Proofs.YtiohgaghmnpplaaGreatDoor.Pl (encU encU_len)
theorem gC {w:World}{pb po pn:Nat}{P:List Int}(h:SL encU 1 w w.heap.size (some ⟨pb,po,none⟩) pn P){u:World}(hu:Below w.heap.size w u){q:Nat}{v:Int}(hq:P[q]?=some v):u.cell? ⟨pb,po+q,none⟩=some (.int .u64 v):=by
 obtain⟨b,o,e,hb,hc⟩:=h.cells (by intro e;rw[e]at hq;cases hq);cases e
 obtain⟨hql,hqv⟩:=eX hq;have h1:=hc q hql 0 (by decide);rw[Nat.mul_one,Nat.add_zero]at h1;rw[hqv]at h1;exact(hu.cell (p:=⟨pb,po+q,none⟩) hb).trans h1
theorem veneer_any (p:Yp)(L:List Nat)(Y g:Nat)(at':Int)(r:Rl)(rep:List Int)(v:Int)(w:World)(h:YD p L w Y g)(hr:SL dT 1 w w.heap.size p.ra p.rn rep)(h0:0<=r.sym)(hv:rep[r.sym.toNat]?=some v):
  Calls Tryz.prog 40 #[.pointer (some ⟨Y,0,none⟩),.int .i64 at',.agg #[.int .i64 r.pos,.int .i64 r.kind,.int .i64 r.sym,.int .i64 r.add]] w (aP (lG (at',v,r.add)) w):=by
 obtain⟨ua,n,uc,ra,rn,rc,la,ln,lc,aa,an,ac⟩:=p;simp only[]at hr;obtain⟨po,rk,sy,ad⟩:=r;simp only[]at h0 hv⊢;obtain⟨q,rfl⟩:∃q:Nat,sy=(q:Int):=⟨sy.toNat,by omega⟩;rw[Int.toNat_natCast]at hv;have hrl:=hr.len;have hq:q<rn:=by have:=(eX hv).1;omega
 have hqi:(q:Int)<(rn:Int):=by omega
 obtain⟨rb,ro,hra,-,-⟩:=hr.cells (by intro e;rw[e]at hv;cases hv);subst hra;have HR:=aH (fun u (hu:Below w.heap.size w u)=>bR hr hu hv);have HYD:=aH h;obtain⟨X,hX⟩:=aE w.heap.size;obtain⟨W,hW⟩:=aE ((w.alloc (.cells #[.int .i64 po,.int .i64 rk,.int .i64 (q:Int),.int .i64 ad] 57)).alloc (.cells #[.int .i64 0,.int .i64 0,.int .i64 0] 80));have z1:(w.alloc (.cells #[.int .i64 po,.int .i64 rk,.int .i64 (q:Int),.int .i64 ad] 57)).heap.size=w.heap.size+1:=World.size_alloc _ _;have HB:Hid (Below w.heap.size w W):=aH (by rw[hW];exact after (aC _ _) (aC _ _));have HX:Hid (RB W X #[.int .i64 po,.int .i64 rk,.int .i64 (q:Int),.int .i64 ad] 57):=aH (by rw[hW,hX];exact(aQ _ _ _).next (aC _ _));have HZ:Hid (RB W (X+1) #[.int .i64 0,.int .i64 0,.int .i64 0] 80):=aH (by rw[hW,hX,<-z1];exact aQ _ _ _);have HWe:=aH hW.symm;have HXe:=aH hX.symm;clear hr hv h hrl hq h0 hX hW z1;go_enter Tryz.func40,Tryz.ntmps40;go_wp2_with fail
 rw[HWe.out,HXe.out];have HcS:Hid (∀v',Below W.heap.size W v'->v'.cell? ⟨Y,1,none⟩=some (.slice (some ⟨rb,ro,none⟩) rn rc)/\v'.cell? ⟨X,2,none⟩=some (.int .i64 (q:Int))/\v'.cell? ⟨X,3,none⟩=some (.int .i64 ad)/\v'.cell? ⟨rb,ro+q,none⟩=some (.int .i64 v)):=aH fun v' hv'=>⟨(HYD.out.yy.next (after HB.out hv')).cell,(HX.out.next hv').cell,(HX.out.next hv').cell,HR.out _ (after HB.out hv')⟩
 refine wp_region_held_drew (S:=fun v'=>v'.cell? ⟨Y,1,none⟩=some (.slice (some ⟨rb,ro,none⟩) rn rc)/\v'.cell? ⟨X,2,none⟩=some (.int .i64 (q:Int))/\v'.cell? ⟨X,3,none⟩=some (.int .i64 ad)/\v'.cell? ⟨rb,ro+q,none⟩=some (.int .i64 v)) (by kernel_rfl) (HcS.out _ (Below.refl _ _).drew) (fun hHeld=>?_);obtain⟨V,hV⟩:=aE W.drew;rw[<-hV]at hHeld⊢;have hT:Below W.heap.size W V:=by rw[hV];exact(Below.refl _ _).drew
 have HBv:=aH (after HB.out hT);have HZv:=aH (HZ.out.next hT);clear hV hT;iterate 13 refine aN _ rfl hHeld ?_
 have s0:V.cell? ⟨X+1,0,none⟩=some (.int .i64 0):=HZv.out.cell;have s1:V.cell? ⟨X+1,1,none⟩=some (.int .i64 0):=HZv.out.cell;have s2:V.cell? ⟨X+1,2,none⟩=some (.int .i64 0):=HZv.out.cell;have q0:V.frozen? ⟨X+1,0,none⟩=false:=HZv.out.frozen;have q1:V.frozen? ⟨X+1,1,none⟩=false:=HZv.out.frozen;have q2:V.frozen? ⟨X+1,2,none⟩=false:=HZv.out.frozen;have HF:Hid (RB (((V.setCell ⟨X+1,0,none⟩ (.int .i64 at')).setCell ⟨X+1,1,none⟩ (.int .i64 v)).setCell ⟨X+1,2,none⟩ (.int .i64 ad)) (X+1) #[.int .i64 at',.int .i64 v,.int .i64 ad] 80):=aH (by
  have h0:RB (V.setCell ⟨X+1,0,none⟩ (.int .i64 at')) (X+1) #[.int .i64 at',.int .i64 0,.int .i64 0] 80:=HZv.out.set (j:=0) _;have h1:RB ((V.setCell ⟨X+1,0,none⟩ (.int .i64 at')).setCell ⟨X+1,1,none⟩ (.int .i64 v)) (X+1) #[.int .i64 at',.int .i64 v,.int .i64 0] 80:=h0.set (j:=1) _;exact h1.set (j:=2) _)
 have HBf:Hid (Below w.heap.size w (((V.setCell ⟨X+1,0,none⟩ (.int .i64 at')).setCell ⟨X+1,1,none⟩ (.int .i64 v)).setCell ⟨X+1,2,none⟩ (.int .i64 ad))):=aH (by
  have hx:=HXe.out;exact((HBv.out.setCell (p:=⟨X+1,0,none⟩) (by show w.heap.size<=X+1;omega) _).setCell (p:=⟨X+1,1,none⟩) (by show w.heap.size<=X+1;omega) _).setCell (p:=⟨X+1,2,none⟩) (by show w.heap.size<=X+1;omega) _)
 have hfar:∀(b o:Nat),b≠X+1->(((V.setCell ⟨X+1,0,none⟩ (.int .i64 at')).setCell ⟨X+1,1,none⟩ (.int .i64 v)).setCell ⟨X+1,2,none⟩ (.int .i64 ad)).cell? ⟨b,o,none⟩=V.cell? ⟨b,o,none⟩:=fun b o hb=>by
  rw[World.cell?_setCell_far _ _ _ _ (Ne.symm hb),World.cell?_setCell_far _ _ _ _ (Ne.symm hb),World.cell?_setCell_far _ _ _ _ (Ne.symm hb)]
 have hYX:Y≠X+1:=by have:=lt_of_block HYD.out.yy;have:=HXe.out;omega
 have hRX:rb≠X+1:=by have:=bM (HR.out _ (Below.refl _ _));have:=HXe.out;simp only at*;omega
 have hSf:(((V.setCell ⟨X+1,0,none⟩ (.int .i64 at')).setCell ⟨X+1,1,none⟩ (.int .i64 v)).setCell ⟨X+1,2,none⟩ (.int .i64 ad)).cell? ⟨Y,1,none⟩=some (.slice (some ⟨rb,ro,none⟩) rn rc)/\(((V.setCell ⟨X+1,0,none⟩ (.int .i64 at')).setCell ⟨X+1,1,none⟩ (.int .i64 v)).setCell ⟨X+1,2,none⟩ (.int .i64 ad)).cell? ⟨X,2,none⟩=some (.int .i64 (q:Int))/\(((V.setCell ⟨X+1,0,none⟩ (.int .i64 at')).setCell ⟨X+1,1,none⟩ (.int .i64 v)).setCell ⟨X+1,2,none⟩ (.int .i64 ad)).cell? ⟨X,3,none⟩=some (.int .i64 ad)/\(((V.setCell ⟨X+1,0,none⟩ (.int .i64 at')).setCell ⟨X+1,1,none⟩ (.int .i64 v)).setCell ⟨X+1,2,none⟩ (.int .i64 ad)).cell? ⟨rb,ro+q,none⟩=some (.int .i64 v):=by
  rw[hfar _ _ hYX,hfar _ _ (by omega),hfar _ _ (by omega),hfar _ _ hRX];exact hHeld
 clear hfar hYX hRX;refine rd 13 rfl (fun K hK=>?_);go_simp;refine hK.out _ _ hSf (fun hHeld2=>?_);clear hK K hSf hHeld2 hHeld;refine wpAnyH_done (by kernel_rfl) ?_ _;clear s0 s1 s2 q0 q1 q2;go_wp2;refine bodyPost_ret (results_cell_row (P:=Tryz.prog) rfl _ _ (X+1) 80 _ (0,0) _ rfl HF.out Tryz.underlying80 rfl (by kernel_rfl)) rfl ?_;exact⟨rfl,HBf.out⟩
theorem plc_at {L:List Nat}{P:List Int}{q:Nat}{x:Int}(h:P[L.idxOf q]?=some x):pK L P (q:Int)=x:=by
 unfold pK;rw[Int.toNat_natCast,h];rfl
theorem goal_any (p:Yp)(L:List Nat)(Y g:Nat)(x:Vn)(pa:Option Addr)(pn pc:Nat)(P:List Int)(q:Nat)(c:Int)(w:World)(h:YD p L w Y g)(hn:p.n<=256)(hx:x.2.1=(q:Int))(hqL:q∈L)(hq:q<p.n)(hP:SL encU 1 w w.heap.size pa pn P)(hc:P[L.idxOf q]?=some c)(c0:0<=c)(c1:c<18446744073709551616)(ha:cS x.2.2):
  Calls Tryz.prog 42 #[.pointer (some ⟨Y,0,none⟩),lG x,.slice pa pn pc] w (aP (.int .u64 (mZ L P x)) w):=by
 obtain⟨ua,n,uc,ra,rn,rc,la,ln,lc,aa,an,ac⟩:=p;simp only[]at hn hq;obtain⟨se,tt,ad⟩:=x;simp only[]at hx ha⊢;subst hx;have hni:(n:Int)<=256:=by omega
 have hqi:(q:Int)<(n:Int):=by omega
 have z0:∀v',Below w.heap.size w v'->v'.cell? ⟨g,q,none⟩=some (.int .i64 ((L.idxOf q:Nat):Int)):=fun v' hv'=>by
  have h1:RB w g (iJ (jZ n L)) 3:=h.gg;have:=(h1.next hv').cell (j:=q);rw[this];refine gG ?_;rw[iU L hq,if_pos hqL]
 obtain⟨j,hj⟩:=aE (L.idxOf q);rw[<-hj]at hc z0;have hjp:j<pn:=by have:=(eX hc).1;have:=hP.len;omega
 have hji:(j:Int)<(pn:Int):=by omega
 obtain⟨pb,po,hpa,-,-⟩:=hP.cells (by intro e;rw[e]at hc;cases hc);subst hpa;have HG:Hid (IntKind.u64.wrap (c+IntKind.u64.wrap ad)=mZ L P (se,(q:Int),ad)):=aH (by
  unfold mZ;simp only;rw[plc_at (by rw[<-hj];exact hc),IntKind.wrap_u64,IntKind.wrap_u64];omega)
 have HZ0:=aH z0;have HP:=aH (fun u (hu:Below w.heap.size w u)=>gC hP hu hc);have HYD:=aH h;obtain⟨X,hX⟩:=aE w.heap.size;obtain⟨W,hW⟩:=aE (w.alloc (.cells #[.int .i64 se,.int .i64 (q:Int),.int .i64 ad] 80));have HB:Hid (Below w.heap.size w W):=aH (by rw[hW];exact aC _ _);have HX:Hid (RB W X #[.int .i64 se,.int .i64 (q:Int),.int .i64 ad] 80):=aH (by rw[hW,hX];exact aQ _ _ _);have HWe:=aH hW.symm;have HXe:=aH hX.symm;clear hP hc h hX hW hj hjp z0 hq hqL hn ha;go_enter Tryz.func42,Tryz.ntmps42;go_wp2_with fail
 rw[HWe.out,HXe.out];have HcS:Hid (∀v',Below W.heap.size W v'->v'.cell? ⟨Y,4,none⟩=some (.slice (some ⟨g,0,none⟩) n n)/\v'.cell? ⟨X,1,none⟩=some (.int .i64 (q:Int))/\v'.cell? ⟨X,2,none⟩=some (.int .i64 ad)/\v'.cell? ⟨g,q,none⟩=some (.int .i64 (j:Int))/\v'.cell? ⟨pb,po+j,none⟩=some (.int .u64 c)):=aH fun v' hv'=>⟨(HYD.out.yy.next (after HB.out hv')).cell,(HX.out.next hv').cell,(HX.out.next hv').cell,HZ0.out _ (after HB.out hv'),HP.out _ (after HB.out hv')⟩
 refine wp_region_held_drew (S:=fun v'=>v'.cell? ⟨Y,4,none⟩=some (.slice (some ⟨g,0,none⟩) n n)/\v'.cell? ⟨X,1,none⟩=some (.int .i64 (q:Int))/\v'.cell? ⟨X,2,none⟩=some (.int .i64 ad)/\v'.cell? ⟨g,q,none⟩=some (.int .i64 (j:Int))/\v'.cell? ⟨pb,po+j,none⟩=some (.int .u64 c)) (by kernel_rfl) (HcS.out _ (Below.refl _ _).drew) (fun hHeld=>?_);iterate 15 refine aN _ rfl hHeld ?_
 refine rd 15 rfl (fun K hK=>?_);go_simp;refine hK.out _ _ hHeld (fun hHeld2=>?_);clear hK K hHeld2 hHeld;refine wpAnyH_done (by kernel_rfl) ?_ _;go_wp2;go_ret;exact⟨congrArg (fun z=>Ending.returned (Value.int .u64 z)) HG.out,after HB.out (Below.refl _ _).drew⟩
end
end Go.Proofs.YtiohgaghmnpplaaGreatDoor
