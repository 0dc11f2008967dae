/- shrink: the sort of what stands. shrink: standing. shrink: aligns. shrink: Shrink. -/
import Derived.Test.YtiohgaghmnpplaaGreatDoorqA
import Derived.Test.YtiohgaghmnpplaaGreatDoorw3
import Derived.Shelf.SlSortCmp.NoneTotal
import Derived.Shelf.Lay
import Derived.Ground.SlsfProg
set_option maxRecDepth 100000
set_option maxHeartbeats 3000000
set_option linter.unusedVariables false
set_option linter.unusedSimpArgs false
namespace Go.Proofs.YtiohgaghmnpplaaGreatDoor
end Go.Proofs.YtiohgaghmnpplaaGreatDoor
namespace Go.Proofs
open Go.Shelf
shelf_lay_g SlLaysF.n6 Slsf 6 at Tryz 81 as Tryz.sortIn
end Go.Proofs
namespace Go.Proofs.YtiohgaghmnpplaaGreatDoor
open Go.ChangeShapes Go.WideShapes Go.Deep Go.RowKit Go.Shelf
theorem none_try (a:Option Addr)(c:Nat)(fv:Value)(w:World):Calls Tryz.prog 81 #[.slice a 0 c,fv] w (fun e w'=>e=.returned (.tuple #[])/\w'=w):=
 AnyF.slices_SortFunc_none { Tryz.sortIn with } a c fv w
def cfU (S:List Sc)(x y:Nat):Int:=orI (cmpI (bG S x) (bG S y)) (cmpI x y)
theorem cfU_key {S:List Sc} {x y:Nat} (hx:x<=256) (hy:y<=256):decide (cfU S x y < 0)=decide (jS S x < jS S y):=by
 unfold cfU orI cmpI jS;obtain⟨a,ha⟩:=aE (bG S x);obtain⟨b,hb⟩:=aE (bG S y);rw[<-ha,<-hb];rw[decide_eq_decide];split<;>split at*<;>(try split at*)<;>(try split)<;>omega
section
variable {N:Nat}
abbrev enF (x:Fin (N+1)):Value:=.int .i64 ((x.val:Nat):Int)
def cfF (S:List Sc)(x y:Fin (N+1)):Int:=cfU S x.val y.val
theorem lt_key {S:List Sc} (hN:N<=255) (x y:Fin (N+1)):ltOf (cfF S) x y=decide (jS S x.val < jS S y.val):=
 cfU_key (by have:=x.isLt;omega) (by have:=y.isLt;omega)
theorem swoU {S:List Sc}(hN:N<=255):Go.Sort.SWO (ltOf (cfF (N:=N) S)) where
 irrefl x:=by rw[lt_key hN];simp
 trans x y z h1 h2:=by rw[lt_key hN]at*;simp at*;omega
 ntrans x y z h1 h2:=by rw[lt_key hN]at*;simp at*;omega
theorem s1_other (w:World)(g n:Nat)(d:Array (Fin (N+1)))(os:Array Obj){k:Nat}(hk:k<w.heap.size)(hne:k≠g):(sortWorld enF w g 0 n d os).heap[k]?=w.heap[k]?:=by
 unfold sortWorld Go.Sort.grow Go.Sort.putRow Go.Sort.mapBlock Go.Sort.ahead;rw[Array.getElem?_append,if_pos (by simpa using hk),Array.getElem?_modify,if_neg (Ne.symm hne)]
theorem s1_row {w:World}{g n:Nat}{d:Array (Fin (N+1))}{os:Array Obj}{cur:Array Value}{T:TypeId}{fr:Nat×Nat}(h:w.heap[g]?=some (.cells cur T fr)):
  (sortWorld enF w g 0 n d os).heap[g]?=some (.cells (Go.Sort.putCells enF 0 d cur) T fr):=by
 unfold sortWorld Go.Sort.grow Go.Sort.putRow Go.Sort.mapBlock Go.Sort.ahead;rw[Array.getElem?_append,if_pos (by simpa using lt_of_block h),Array.getElem?_modify,if_pos rfl];show(w.heap[g]?).map _=_
 rw[h];rfl
theorem s1_size (w:World)(g n:Nat)(d:Array (Fin (N+1)))(os:Array Obj):w.heap.size<=(sortWorld enF w g 0 n d os).heap.size:=by
 unfold sortWorld Go.Sort.grow Go.Sort.putRow Go.Sort.mapBlock Go.Sort.ahead;simp
theorem s1_below {w0 w:World}{g n:Nat}{d:Array (Fin (N+1))}{os:Array Obj}(hb:Below w0.heap.size w0 w)(hg:w0.heap.size<=g):Below w0.heap.size w0 (sortWorld enF w g 0 n d os):=by
 refine⟨hb.os,hb.tape,hb.output,Nat.le_trans hb.size (s1_size _ _ _ _ _),fun k hk=>?_⟩;rw[s1_other w g n d os (Nat.lt_of_lt_of_le hk hb.size) (by omega)];exact hb.block k hk
theorem sG:∀l:List Nat,l.flatMap enI=l.map (fun(k:Nat)=>Value.int .i64 (k:Int))
 | []=>rfl
 |a :: t=>by rw[List.flatMap_cons,sG t];rfl
theorem put_take (d:Array (Fin (N+1)))(cur:Array Value)(h:d.size<=cur.size):(Go.Sort.putCells enF 0 d cur).toList.take d.size=(d.toList.map (fun x=>x.val)).flatMap enI:=by
 rw[sG];apply List.ext_getElem?;intro j;by_cases hj:j<d.size
 ·rw[List.getElem?_take_of_lt hj,Array.getElem?_toList,Go.Sort.putCells,Array.getElem?_mapIdx,Array.getElem?_eq_getElem (by omega)];simp only[Option.map_some];rw[if_pos ⟨Nat.zero_le _,by omega⟩,Nat.sub_zero,List.map_map,List.getElem?_map,Array.getElem?_toList,Array.getElem?_eq_getElem hj];simp[hj]
 ·rw[List.getElem?_eq_none (by rw[List.length_take];omega),List.getElem?_eq_none (by simp;omega)]
theorem val_ofNat {l:List Nat}(h:∀k∈l,k<=N):(l.map (fun k=>Fin.ofNat (N+1) k)).map (fun x=>x.val)=l:=by
 rw[List.map_map];conv=>rhs;rw[<-List.map_id l]
 apply List.map_congr_left;intro k hk;have:=h k hk;show k%(N+1)=k
 exact Nat.mod_eq_of_lt (by omega)
theorem sort_units (w0 w:World)(bx c1 c2 g cap base:Nat)(ua:Option Addr)(n uc:Nat)(L:List Ms)(l:List Nat)(hn:n<=256)(hln:l.length<=256)(hl:∀k∈l,k<n)(hs:SL mX 6 w0 w0.heap.size ua n L)(hb:Below w0.heap.size w0 w)
  (hbx:RB w bx #[.slice ua n uc] 22) (x1:w.cell? ⟨c1,0,none⟩=some (.func (.func 83) #[.agg #[pM bx]] #[])) (x2:w.cell? ⟨c2,0,none⟩=some (.func (.func 83) #[.agg #[by2V]] #[]))
  (n1:c1≠g) (n2:c2≠g) (n3:bx≠g) (hg0:w0.heap.size<=g) (hbg:base<=g)
  (hown:w.ownsRow base 3 1 (.slice (some ⟨g,0,none⟩) l.length cap) l.length (l.flatMap enI)) (h0:l≠ []):
  Calls Tryz.prog 81 #[.slice (some ⟨g,0,none⟩) l.length cap,.func (.func 110) #[] #[.pointer (some ⟨c1,0,none⟩),.pointer (some ⟨c2,0,none⟩)]] w (fun e w'=>e=.returned (.tuple #[])/\
   ∃d:List Nat,d.Perm l/\d.Pairwise (fun x y=>jS (L.map (·.sc)) x<=jS (L.map (·.sc)) y)/\w'.ownsRow base 3 1 (.slice (some ⟨g,0,none⟩) d.length cap) d.length (d.flatMap enI)/\Below w0.heap.size w0 w'):=by
 obtain⟨N,hN⟩:∃N,n=N+1:=by
  cases n with
  |zero=>
   cases l with
   |nil=>exact absurd rfl h0
   |cons a t=>exact absurd (hl a (List.mem_cons_self ..)) (Nat.not_lt_zero _)
  |succ N=>exact⟨N,rfl⟩
 have hN2:N<=255:=by omega
 obtain⟨D,hD⟩:∃D:Array (Fin (N+1)),D=(l.map (fun k=>Fin.ofNat (N+1) k)).toArray:=⟨_,rfl⟩;have hDl:D.toList.map (fun x=>x.val)=l:=by rw[hD];exact val_ofNat (fun k hk=>by have:=hl k hk;omega)
 have hDs:D.size=l.length:=by rw[hD];simp
 rcases hown.2 with⟨h,-⟩|⟨g',cap',cur,e1,e2,e3,e4,e5,e6,e7⟩
 ·cases h
 injection e1 with e1 e8 e9
 injection e1 with e1
 injection e1 with e1
 subst e1;subst e9;have hgs:=lt_of_block e3;have hH:Go.Sort.Holds enF w g 0 D:=by
  intro j hj;refine⟨?_,by rw[World.frozen?,e3];rfl⟩;rw[Nat.zero_add,hown.cellAt j (by omega),sG,<-hDl,List.map_map,List.getElem?_map,Array.getElem?_toList,Array.getElem?_eq_getElem hj];simp[hj]
 have eg:∀args w,(callFunc 110 args).run Tryz.prog w=.ok (.enter 110 args) w:=enters_of Tryz.func110 (by kernel_rfl) rfl;have hcmp:CmpLays1 Tryz.prog 110 #[.pointer (some ⟨c1,0,none⟩),.pointer (some ⟨c2,0,none⟩)] enF (cfF (N:=N) (L.map (·.sc))) g 0 D.size w:=by
  intro m os dk hdk x y;have hbw:Below w0.heap.size w0 (sortWorld enF w g 0 m dk os):=s1_below hb hg0;have hoth:∀k,k<w.heap.size->k≠g->(sortWorld enF w g 0 m dk os).heap[k]?=w.heap[k]?:=fun k hk hne=>s1_other w g m dk os hk hne
  have hcell:∀k v,k≠g->w.cell? ⟨k,0,none⟩=some v->(sortWorld enF w g 0 m dk os).cell? ⟨k,0,none⟩=some v:=by
   intro k v hne hv;have hk:k<w.heap.size:=bM hv;rw[<-hv];unfold World.cell?;rw[show(sortWorld enF w g 0 m dk os).heap[k]?=w.heap[k]? from hoth k hk hne]
  have hbx2:RB (sortWorld enF w g 0 m dk os) bx #[.slice ua n uc] 22:=(hoth bx (lt_of_block hbx) n3).trans hbx;have y1:=hcell c1 _ n1 x1;have y2:=hcell c2 _ n2 x2;have hx:x.val<n:=by have:=x.isLt;omega
  have hy:y.val<n:=by have:=y.isLt;omega
  exact joined1_any (sortWorld enF w g 0 m dk os) c1 c2 _ _ _ _ _ _ (bM y1) (bM y2) y1 y2
   (fun v hv=>cmp1_any v bx ua n uc L x.val y.val hn hx hy (hbx2.next hv.below) (by
     have h1:Below w0.heap.size w0 v:=after hbw hv.below;exact hs.next h1))
   (fun v hv=>cmp2_any v _ _)
 have hcon:=Any.slices_SortFunc Tryz.sortIn enF (fun x=>rfl) (cfF (N:=N) (L.map (·.sc))) (swoU hN2) 110 #[.pointer (some ⟨c1,0,none⟩),.pointer (some ⟨c2,0,none⟩)] g 0 cap D w eg hcmp hH hgs (by rw[hDs];omega);change Calls Tryz.prog 81 _ _ _ at hcon;rw[hDs]at hcon;refine hcon.mono ?_;rintro e w' ⟨he,d,m,os,⟨hds,-,hperm⟩,hsort,rfl⟩;have hds2:d.size=l.length:=by rw[hds,hDs]
 refine⟨he,d.toList.map (fun x=>x.val),?_,?_,⟨?_,.inr ⟨g,cap,_,?_,e2,s1_row e3,by simp;omega,e5,?_,?_⟩⟩,s1_below hb hg0⟩
 ·have e1:(d.extract 0 l.length)=d:=by rw[<-hds2];exact Array.extract_size
  have e2:(D.extract 0 l.length)=D:=by rw[<-hDs];exact Array.extract_size
  rw[e1,e2]at hperm;have:=hperm.map (fun x=>x.val);rw[hDl]at this;exact this
 ·rw[List.pairwise_map];rw[List.pairwise_iff_getElem];intro i j hi hj hij;have:=hsort i j (Nat.zero_le _) hij (by rw[<-hds2];simpa using hj);rw[lt_key hN2]at this;have hi':i<d.size:=by simpa using hi
  have hj':j<d.size:=by simpa using hj
  simp only[getElem!_pos,hi',hj',decide_eq_false_iff_not]at this;simp only[Array.getElem_toList];omega
 ·rw[sG];simp
 ·simp[hds2]
 ·unfold Go.Sort.putCells;simpa using e6
 ·have:=put_take d cur (by omega);rw[show(d.toList.map (fun x=>x.val)).length*1=d.size from by simp];exact this
end
end Go.Proofs.YtiohgaghmnpplaaGreatDoor
namespace Go.Proofs.YtiohgaghmnpplaaGreatDoor
section
open Go.ChangeShapes Go.WideShapes Go.Deep Go.RowKit
def mR (rep:List Int) (k:Nat):List Nat:=(List.range k).filter (fun (k:Nat)=>decide (rep[k]?=some (k:Int)))
theorem selfK_in {rep:List Int}{k:Nat}(h:rep[k]?=some (k:Int)):mR rep (k+1)=mR rep k++ [k]:=by
 unfold mR;rw[selfL_snoc,if_pos h]
theorem selfK_out {rep:List Int}{k:Nat}(h:rep[k]? ≠some (k:Int)):mR rep (k+1)=mR rep k:=by
 unfold mR;rw[selfL_snoc,if_neg h,List.append_nil]
theorem selfK_len (rep:List Int)(k:Nat):(mR rep k).length<=k:=by
 unfold mR;exact Nat.le_trans (List.length_filter_le _ _) (by simp)
def RowP (l:List Nat)(w:World)(e:Ending)(w':World):Prop:=∃a c,e=.returned (.slice a l.length c)/\w'.ownsRow w.heap.size 3 1 (.slice a l.length c) l.length (l.flatMap enI)/\Below w.heap.size w w'
theorem oX {w:World}{b b':Nat}{e:TypeId}{size:Nat}{v:Value}{n:Nat}{xs:List Value}(h:w.ownsRow b' e size v n xs)(hb:b<=b'):w.ownsRow b e size v n xs:=by
 refine⟨h.1,?_⟩;rcases h.2 with h1|⟨g,cap,cur,e1,e2,e3⟩
 ·exact .inl h1
 ·exact .inr ⟨g,cap,cur,e1,by omega,e3⟩
theorem standing_any (w:World)(ua:Option Addr)(n uc:Nat)(L:List Ms)(ra:Option Addr)(rc:Nat)(rep:List Int)(hn:n<=256)(hs:SL mX 6 w w.heap.size ua n L)(hr:SL dT 1 w w.heap.size ra n rep):
  Calls Tryz.prog 49 #[.slice ua n uc,.slice ra n rc] w (RowP (aJ (L.map (·.sc)) rep) w):=by
 obtain⟨W1,hW1⟩:=aE (w.alloc (.cells #[.slice ua n uc] 22));have hb1:Below w.heap.size w W1:=by rw[hW1];exact aC w _
 have hr1:RB W1 w.heap.size #[.slice ua n uc] 22:=by rw[hW1];exact aQ w _ _
 have hsz1:W1.heap.size=w.heap.size+1:=by rw[hW1,World.size_alloc]
 have hni:(n:Int)<=256:=by omega
 obtain⟨i0,hi,hz0,hz1,hz2⟩:=info_parts pA;have hmf:∀(fn:Fn) (first cap:Array Value) (w:World),(Instr.makeFunc fn first cap).run Tryz.prog w=.ok (.func fn first cap) w:=fun _ _ _ _=>rfl
 have HRl:Hid (rep.length=n):=aH hr.len.symm;have HR:=aH (fun u (hu:Below w.heap.size w u)=>hr.next hu);have HS:=aH hs;have HN:=aH hn;have HB1:=aH hb1;have HX1:=aH hr1;have HZ1:=aH hsz1;have HWE:Hid (w.alloc (.cells #[.slice ua n uc] 22)=W1):=aH hW1.symm;have HQ0:Hid (RQ W1 W1 [] none 0):=aH ⟨World.ownsRow_nil _ _ _ _,Below.refl _ _⟩;obtain⟨bx,hbx⟩:=aE w.heap.size;have HBx:=aH hbx;rw[<-hbx]at HX1;clear hs hr hn hb1 hr1 hsz1 hW1 hbx;go_enter Tryz.func49,Tryz.ntmps49;go_wp2_with fail
 rw[HWE.out,<-HBx.out];go_loopw [5,12] (fun l i wr=>∃(k:Nat) (wx:World) (rs:List Nat) (a:Option Addr) (q c:Nat),wx=wr/\k<=n/\l=.slice a q c/\i=.int .i64 k/\Hid (q=rs.length)/\Hid (RQ W1 wx rs a c)/\Hid (rs=mR rep k)) (fun _ i _=>n-(intOf i).toNat)
 case atStart=>exact⟨0,_,[],none,0,0,rfl,by omega,rfl,rfl,aH rfl,HQ0,aH rfl⟩
 case round=>
  clear HQ0;obtain⟨k,wx,rs,a,q,c,rfl,hk,rfl,rfl,HQq,HQ,HRs⟩:=hrel;by_cases hlt:k<n
  ·have hlti:(k:Int)<(n:Int):=by omega
   have HLT:=aH hlt;have hrl:=HR.out wx (after HB1.out HQ.out.kk);obtain⟨v,hv⟩:=aG (l:=rep) (i:=k) (by rw[HRl.out];exact hlt);obtain⟨rb,ro,hra,-,-⟩:=hrl.cells (by intro e;rw[e]at hv;cases hv);subst hra;have r0:wx.cell? ⟨rb,ro+k,none⟩=some (.int .i64 v):=bR hrl (Below.refl _ _) hv;have HV:=aH hv;have hql:Hid (q<=256):=aH (by rw[HQq.out,HRs.out];have:=selfK_len rep k;have:=HN.out;omega);have hx0:Hid (W1.heap.size<=wx.heap.size):=aH HQ.out.kk.size;clear hrl hv hlt hk;by_cases hvk:v=(k:Int)
   ·have t1:((k:Int)==v)=true:=by simp[hvk]
    have t2:(v==(k:Int))=true:=by simp[hvk]
    have HR5:Hid (rs++ [k]=mR rep (k+1)):=aH (by rw[selfK_in (by rw[HV.out,hvk]),<-HRs.out]);have HNw:Hid ((wx.alloc (.cells #[.int .i64 (k:Int)] 3)).heap[wx.heap.size]?=some (.cells #[.int .i64 (k:Int)] 3)):=aH (heap_alloc_new wx _);clear hvk;go_wp2_with (at_builtin;refine wpList_append_lies _ rfl _ _ 23 rfl W1.heap.size 3 i0 (.int .i64 0) 1 8 Tryz.underlying23 hi hz0 hz1 hz2 rfl (by decide) (.slice a q c) q (rs.flatMap enI) rfl (by have:=HQ.out.oo;rw [<-HQq.out] at this;exact this.alloc _) ⟨wx.heap.size,0,none⟩ 1 1 (enI k) rfl rfl (World.news_of_block (cs:=#[.int .i64 (k:Int)]) (t:=3) (fr:=(0,0)) HNw.out) (by simp [enI,Value.oneCell']) (by decide) (by have:=hql.out;unfold maxLen;omega) (by have:=hql.out;omega) (by have:=hx0.out;simp;omega) (wx.heap.size+1) (by simp) ?_;intro g cap w2 hown2 hgrow2 hlie2 hlt2)
    rw[HQq.out]at hown2 hgrow2;have HQ2:=aH (HQ.out.grow hown2 hgrow2);have HQq2:Hid (q+1=(rs++ [k]).length):=aH (by rw[HQq.out];simp);clear hown2 hgrow2 hlie2 hlt2 HNw;go_roundw
    case rel=>exact⟨k+1,_,_,_,_,_,rfl,by have:=HLT.out;omega,rfl,by go_num,HQq2,HQ2,HR5⟩
    case measure=>have:=HLT.out;simp[intOf];omega
   ·have t1:((k:Int)==v)=false:=by simp;omega
    have t2:(v==(k:Int))=false:=by simp[hvk]
    have HR5:Hid (rs=mR rep (k+1)):=aH (by rw[selfK_out (by rw[HV.out];simpa using hvk)];exact HRs.out);clear hvk;go_wp2;go_roundw
    case rel=>exact⟨k+1,_,_,_,_,_,rfl,by have:=HLT.out;omega,rfl,by go_num,HQq,HQ,HR5⟩
    case measure=>have:=HLT.out;simp[intOf];omega
  ·have hlti:¬(k:Int)<(n:Int):=by omega
   have hkn:k=n:=by omega
   rw[hkn]at HRs;have HSelf:Hid (rs=kW rep):=aH (by rw[HRs.out];unfold mR kW;rw[HRl.out]);obtain⟨V1,hV1⟩:=aE (wx.alloc (.cells #[pM bx] 127));obtain⟨V2,hV2⟩:=aE (V1.alloc (.cells #[by2V] 127));have hb2:Below wx.heap.size wx V1:=by rw[hV1];exact aC _ _
   have hb3:Below V1.heap.size V1 V2:=by rw[hV2];exact aC _ _
   have hz:V1.heap.size=wx.heap.size+1:=by rw[hV1,World.size_alloc]
   have q1:RB V2 wx.heap.size #[pM bx] 127:=(show RB V1 wx.heap.size #[pM bx] 127 by rw[hV1];exact aQ _ _ _).next hb3;have q2:RB V2 (wx.heap.size+1) #[by2V] 127:=by rw[<-hz,hV2];exact aQ _ _ _
   have z1:V2.cell? ⟨wx.heap.size,0,none⟩=some (pM bx):=q1.cell;have z2:V2.cell? ⟨wx.heap.size+1,0,none⟩=some by2V:=q2.cell;rw[hV2,hV1]at z1 z2;have HVE:Hid ((wx.alloc (.cells #[pM bx] 127)).alloc (.cells #[by2V] 127)=V2):=aH (by rw[hV2,hV1]);have HBV:=aH (after hb2 hb3);have HJ:=aH (joined_any V2 (.agg #[pM bx]) (.agg #[by2V]));clear hk hlt hkn hV1 hV2 hb2 hb3 hz q1 q2 HRs;go_wp2_with fail
   have hve:=HVE.out;simp only[pM,by2V]at hve;rw[hve];clear hve z1 z2;refine HJ.out.mono ?_;rintro e V3 ⟨T,rfl,hV3⟩;obtain⟨c1,hc1⟩:=aE V2.heap.size;rw[<-hc1];obtain⟨V4,hV4⟩:=aE (V2.alloc (.cells #[.func (.func 83) #[.agg #[pM bx]] #[]] T));rw[<-hV4]at hV3;have hb4:Below V2.heap.size V2 V4:=by rw[hV4];exact aC _ _
   have hb5:Below V4.heap.size V4 V3:=by rw[hV3];exact aC _ _
   have hz4:V4.heap.size=c1+1:=by rw[hV4,World.size_alloc,hc1]
   have y1:V3.cell? ⟨c1,0,none⟩=some (.func (.func 83) #[.agg #[pM bx]] #[]):=(RB.next (show RB V4 c1 #[.func (.func 83) #[.agg #[pM bx]] #[]] T by rw[hV4,hc1];exact aQ _ _ _) hb5).cell;have y2:V3.cell? ⟨c1+1,0,none⟩=some (.func (.func 83) #[.agg #[by2V]] #[]):=(show RB V3 (c1+1) #[.func (.func 83) #[.agg #[by2V]] #[]] T by rw[hV3,<-hz4];exact aQ _ _ _).cell;have hbV:=after HBV.out (after hb4 hb5);have hbW:=after HQ.out.kk hbV;have hoo:=owns_next HQ.out.oo hbV;have hbx3:=HX1.out.next hbW;have hb0:=after HB1.out hbW;have hcz:wx.heap.size<=c1:=by rw[hc1];exact HBV.out.size
   by_cases hrs:rs=[]
   ·have hq0:q=0:=by rw[HQq.out,hrs];rfl
    have hst:aJ (L.map (·.sc)) rep=[]:=by unfold aJ;rw[<-HSelf.out,hrs];rfl
    have HNt:=aH (fun fv=>none_try a c fv V3);have HRe:Hid (RowP (aJ (L.map (·.sc)) rep) w (.returned (.slice a q c)) V3):=aH (by
     rw[hst];rw[hrs]at hoo;exact⟨a,c,by rw[hq0];rfl,oX hoo (by rw[HZ1.out];omega),hb0⟩)
    subst hq0;clear hV3 hV4 hb4 hb5 hz4 y1 y2 hbV hbW hoo hbx3 hb0 hcz hrs hst hc1;go_wp2_with (go_at_call 81;refine(HNt.out _).mono ?_;rintro e w' ⟨rfl,hw⟩;obtain rfl:=hw)
    go_ret;exact HRe.out
   ·rcases hoo.2 with⟨h,h'⟩|⟨g,cap',cur,e1,e2,e3,-⟩
    ·exact absurd (List.length_eq_zero_iff.1 h') hrs
    injection e1 with e1 e4 e5
    subst e1;subst e5;have hgl:g<wx.heap.size:=by
     rcases HQ.out.oo.2 with⟨h,h'⟩|⟨g',cap'',cur',f1,f2,f3,-⟩
     ·cases h
     ·injection f1 with f1 _ _
      injection f1 with f1
      injection f1 with f1
      subst f1;exact lt_of_block f3
    have hlen:rs.length<=256:=by rw[HSelf.out];have:=oO rep;have:=HRl.out;have:=HN.out;omega
    have hmem:∀k∈rs,k<n:=fun k hk=>by
     rw[HSelf.out]at hk;have:=(eX (lO.1 hk)).1;rw[HRl.out]at this;exact this
    have HSo:=aH (sort_units w V3 bx c1 (c1+1) g c W1.heap.size ua n uc L rs HN.out hlen hmem HS.out hb0 hbx3 y1 y2 (by omega) (by omega) (by have:=HBx.out;have:=HZ1.out;omega) (by have:=HZ1.out;omega) e2 hoo hrs);have HRe:Hid (∀(w':World) (d:List Nat),d.Perm rs->d.Pairwise (fun x y=>jS (L.map (·.sc)) x<=jS (L.map (·.sc)) y)->w'.ownsRow W1.heap.size 3 1 (.slice (some ⟨g,0,none⟩) d.length c) d.length (d.flatMap enI)->Below w.heap.size w w'->RowP (aJ (L.map (·.sc)) rep) w (.returned (.slice (some ⟨g,0,none⟩) q c)) w'):=aH (fun w' d h1 h2 h3 h4=>by
     have hd:d=aJ (L.map (·.sc)) rep:=standL_one (by rw[HRl.out];exact HN.out) (by rw[<-HSelf.out];exact h1) h2;rw[<-hd];exact⟨_,_,by rw[HQq.out,h1.length_eq],oX h3 (by rw[HZ1.out];omega),h4⟩)
    rw[<-HQq.out]at HSo;clear hV3 hV4 hb4 hb5 hz4 y1 y2 hbV hbW hoo hbx3 hb0 hcz hrs hc1 e2 e3 hgl hlen hmem e4;go_wp2_with (go_at_call 81;refine HSo.out.mono ?_;rintro e w' ⟨rfl,d,h1,h2,h3,h4⟩)
    go_ret;exact HRe.out _ d h1 h2 h3 h4
def kE (S:List Sc)(rep:List Int)(n k:Nat):List Int:=(List.range n).map (fun a=>eE S rep a k)
theorem oY (S:List Sc)(rep:List Int)(n k:Nat):(kE S rep n k).length=n:=by unfold kE;simp
theorem lU {S:List Sc}{rep:List Int}{n k a:Nat}(h:a<n):(kE S rep n k)[a]?=some (eE S rep a k):=by
 unfold kE;rw[List.getElem?_map,List.getElem?_range h];rfl
theorem mostL_zero (S:List Sc)(rep:List Int)(n:Nat):kE S rep n 0=List.replicate n 0:=by
 apply List.ext_getElem?;intro i;by_cases h:i<n
 ·rw[lU h,List.getElem?_replicate,if_pos h];rfl
 ·rw[List.getElem?_eq_none (by rw[oY];omega),List.getElem?_eq_none (by simp;omega)]
theorem mostL_out {S:List Sc}{rep:List Int}{n k:Nat}{v:Int}(h:rep[k]?=some v)(hv:v<0):kE S rep n (k+1)=kE S rep n k:=by
 unfold kE;apply List.map_congr_left;intro a ha;show(if rep[k]?=some (a:Int)then _ else _)=_
 rw[if_neg (by rw[h];intro e;have:=Option.some.inj e;omega)]
theorem mostL_in {S:List Sc}{rep:List Int}{n k p:Nat}(h:rep[k]?=some (p:Int))(hp:p<n):(kE S rep n k).set p (max (eE S rep p k) (oF S k))=kE S rep n (k+1):=by
 apply List.ext_getElem?;intro i;by_cases hi:i<n
 ·rw[lU hi];by_cases e:p=i
  ·subst e;rw[List.getElem?_set_self (by rw[oY];exact hi)];show _=some (if rep[k]?=some (p:Int)then _ else _)
   rw[if_pos h]
  ·rw[List.getElem?_set_ne e,lU hi];show _=some (if rep[k]?=some (i:Int)then _ else _)
   rw[if_neg (by rw[h];intro e2;have:=Option.some.inj e2;omega)]
 ·rw[List.getElem?_eq_none (by rw[List.length_set,oY];omega),List.getElem?_eq_none (by rw[oY];omega)]
structure RZ (w u:World)(l:List Int)(a:Option Addr)(c:Nat):Prop where
 oo:u.ownsRow w.heap.size 3 1 (.slice a l.length c) l.length (l.flatMap dT)
 kk:Below w.heap.size w u
theorem RZ.grow {w u w2:World}{l:List Int}{a a':Option Addr}{c c':Nat}{k:Int}(h:RZ w u l a c)(hown:w2.ownsRow w.heap.size 3 1 (.slice a' (l.length+1) c') (l.length+1) (l.flatMap dT++dT k))
  (hgrow:(u.alloc (.cells #[.int .i64 k] 3)).grownBy w2 (Value.slice a l.length c).ownBlock):RZ w w2 (l++ [k]) a' c':=by
 refine⟨by simpa[List.flatMap_append]using hown,?_⟩;exact(h.kk.alloc h.kk.size _).grown hgrow (by have:=h.kk.size;rw[World.size_alloc];omega) (fun j hj=>(h.oo.lt j hj).1)
def RowZ (l:List Int)(w:World)(e:Ending)(w':World):Prop:=∃a c,e=.returned (.slice a l.length c)/\w'.ownsRow w.heap.size 3 1 (.slice a l.length c) l.length (l.flatMap dT)/\Below w.heap.size w w'
def BestR (w:World)(mb:Nat)(l:List Int)(u:World):Prop:=Below w.heap.size w u/\RB u mb (iJ l) 3
theorem aligns_any (w:World)(ua:Option Addr)(n uc:Nat)(L:List Ms)(ra:Option Addr)(rc:Nat)(rep:List Int)(la:Option Addr)(ln lc:Nat)(live:List Int)(hn:n<=256)(hs:SL mX 6 w w.heap.size ua n L)(hr:SL dT 1 w w.heap.size ra n rep)(hl:SL dT 1 w w.heap.size la ln live)
  (hrep:∀(k:Nat) (v:Int),rep[k]?=some v->v<(n:Int)) (hlive:∀x∈live,0<=x/\x<(n:Int)) (hln:ln<=256):
  Calls Tryz.prog 51 #[.slice ua n uc,.slice ra n rc,.slice la ln lc] w (RowZ (live.map (fun x=>eE (L.map (·.sc)) rep x.toNat n)) w):=by
 have hmk:=jX n (by omega);have hni:(n:Int)<=256:=by omega
 have hlni:(ln:Int)<=256:=by omega
 obtain⟨i0,hi,hz0,hz1,hz2⟩:=info_parts pA;have HRl:Hid (rep.length=n):=aH hr.len.symm;have HLl:Hid (live.length=ln):=aH hl.len.symm;have HUl:Hid (L.length=n):=aH hs.len.symm;have HR:=aH (fun u (hu:Below w.heap.size w u)=>hr.next hu);have HLv:=aH (fun u (hu:Below w.heap.size w u)=>hl.next hu);have HS:=aH (fun u (hu:Below w.heap.size w u)=>hs.next hu);have HS0:=aH hs;have HLn:=aH hln;have HRp:=aH hrep;have HLi:=aH hlive;obtain⟨S,hS⟩:=aE (L.map (·.sc));have HSe:=aH hS;rw[<-hS];obtain⟨W1,hW1⟩:=aE (w.alloc (.cells (iJ (List.replicate n 0)) 3));obtain⟨mb,hmb⟩:=aE w.heap.size;have HM0:Hid (BestR w mb (kE S rep n 0) W1):=aH ⟨by rw[hW1];exact aC w _,by rw[mostL_zero,hW1,hmb];exact aQ w _ _⟩;have HWE:Hid (w.alloc (.cells (iJ (List.replicate n 0)) 3)=W1):=aH hW1.symm;have HMb:=aH hmb;clear hs hr hl hn hln hrep hlive hS hW1 hmb;go_enter Tryz.func51,Tryz.ntmps51;go_wp2_with fail
 rw[HWE.out,<-HMb.out];clear hmk;go_loopw [18] (fun i wr=>∃(k:Nat) (wx:World),wx=wr/\k<=n/\i=.int .i64 k/\Hid (BestR w mb (kE S rep n k) wx)) (fun i _=>n-(intOf i).toNat)
 case atStart=>exact⟨0,_,rfl,by omega,rfl,HM0⟩
 case round=>
  clear HM0;obtain⟨k,wx,rfl,hk,rfl,HM⟩:=hrel;by_cases hlt:k<n
  ·have hlti:(k:Int)<(n:Int):=by omega
   have HLT:=aH hlt;have hkk:=HM.out.1;have hrl:=HR.out wx hkk;have hul:=HS.out wx hkk;obtain⟨v,hv⟩:=aG (l:=rep) (i:=k) (by rw[HRl.out];exact hlt);obtain⟨m,hm⟩:=aG (l:=L) (i:=k) (by rw[HUl.out];exact hlt);obtain⟨rb,ro,hra,-,-⟩:=hrl.cells (by intro e;rw[e]at hv;cases hv);obtain⟨ub,uo,hua,hubl,-⟩:=HS0.out.cells (by intro e;rw[e]at hm;cases hm);subst hra;subst hua;have r0:wx.cell? ⟨rb,ro+k,none⟩=some (.int .i64 v):=bR hrl (Below.refl _ _) hv;obtain⟨-,-,-,y3,-,-⟩:=cO hul (Below.refl _ _) hm;have HUb:Hid (ub<mb):=aH (by rw[HMb.out];exact hubl);have hal:oF S k=m.sc.align:=by unfold oF;rw[HSe.out,List.getElem?_map,hm];rfl
   obtain⟨al,hal2⟩:=aE m.sc.align;rw[<-hal2]at y3 hal;have HV:=aH hv;have HAl:=aH hal;have hvn:=HRp.out k v hv;clear hkk hrl hul hv hm hal hal2 hlt hk hubl;by_cases hneg:v<0
   ·have HNx:Hid (BestR w mb (kE S rep n (k+1)) wx):=aH (by rw[mostL_out HV.out hneg];exact HM.out);have t1:¬(0:Int)<=v:=by omega
    go_wp2;go_roundw
    case rel=>exact⟨k+1,_,rfl,by have:=HLT.out;omega,by go_num,HNx⟩
    case measure=>have:=HLT.out;simp[intOf];omega
   ·obtain⟨p,hp⟩:∃p:Nat,v=(p:Int):=⟨v.toNat,by omega⟩;subst hp;have hpn:p<n:=by omega
    have hpi:(p:Int)<(n:Int):=hvn;have hp0:(0:Int)<=(p:Int):=by omega
    obtain⟨m0,hm0⟩:=aE (eE S rep p k);have HPn:=aH hpn;clear hneg hvn hpn;go_wp2_with fail
    obtain⟨v0,hv0,hbd⟩:=aD wx;have HMv:Hid (BestR w mb (kE S rep n k) v0):=aH ⟨after HM.out.1 hbd,HM.out.2.next hbd⟩;have z0:v0.cell? ⟨mb,p,none⟩=some (.int .i64 m0):=by rw[HMv.out.2.cell];exact gG (by rw[hm0];exact lU HPn.out)
    have y3':v0.cell? ⟨ub,uo+k*6+3,none⟩=some (.int .i64 al):=(hbd.cell (p:=⟨ub,uo+k*6+3,none⟩) (bM y3)).trans y3;have f0:v0.frozen? ⟨mb,p,none⟩=false:=HMv.out.2.frozen;have HNx:Hid (BestR w mb (kE S rep n (k+1)) (v0.setCell ⟨mb,p,none⟩ (.int .i64 (max m0 al)))):=aH ⟨HMv.out.1.setCell (p:=⟨mb,p,none⟩) (by rw[HMb.out];exact Nat.le_refl _) _,by
     have:=HMv.out.2.set (j:=p) (.int .i64 (max m0 al));rw[sD,hm0,<-HAl.out,mostL_in HV.out HPn.out]at this;rw[hm0,<-HAl.out];exact this⟩
    have y4':(v0.setCell ⟨mb,p,none⟩ (.int .i64 (max m0 al))).cell? ⟨ub,uo+k*6+3,none⟩=some (.int .i64 al):=by
     rw[World.cell?_setCell_far _ _ _ _ (by have:=HUb.out;show mb≠ub;omega)];exact y3'
    have HV0:=aH hv0;clear hv0 hbd y3 hm0;refine wp_region_held_drew (S:=fun v=>v.cell? ⟨ub,uo+k*6+3,none⟩=some (.int .i64 al)) (by kernel_rfl) (by rw[<-HV0.out];exact y3') (fun hHeld=>?_);rw[<-HV0.out];have hHeld0:=y3';clear hHeld;iterate 5 refine aN _ rfl hHeld0 ?_
    refine aI 6 _ rfl hHeld0 ?_;refine aI 7 _ rfl hHeld0 ?_;refine aI 8 _ rfl hHeld0 ?_;refine aI 9 _ rfl hHeld0 ?_;refine aI 10 _ rfl hHeld0 ?_;refine wpAnyH_ready (rs:=[5]) (by kernel_rfl) (by simp) ?_;refine AllReadyH.cons rfl (fun K hK=>?_) ?_
    ·go_simp;refine hK.out _ _ (y3') (fun hHeld=>?_);clear hK K;iterate 2 refine aN _ rfl hHeld0 ?_
     refine wpAnyH_ready (rs:=[13]) (by kernel_rfl) (by simp) ?_;refine AllReadyH.cons rfl (fun K hK=>?_) ?_
     ·go_simp;refine hK.out _ _ (y4') (fun hHeld=>?_);clear hK K;refine wpAnyH_done (by kernel_rfl) ?_ _;go_wp2;go_roundw
      case rel=>exact⟨k+1,_,rfl,by have:=HLT.out;omega,by go_num,HNx⟩
      case measure=>have:=HLT.out;simp[intOf];omega
     exact AllReadyH.nil
    exact AllReadyH.nil
  ·have hlti:¬(k:Int)<(n:Int):=by omega
   have hkn:k=n:=by omega
   rw[hkn]at HM;obtain⟨W2,hW2⟩:=aE wx;rw[<-hW2]at HM;rw[<-hW2];have HQ0:Hid (RZ W2 W2 [] none 0):=aH ⟨World.ownsRow_nil _ _ _ _,Below.refl _ _⟩;clear hk hlt hkn hW2;go_wp2_with fail
   go_loopw [10,41] (fun l i wr=>∃(k:Nat) (wx:World) (rs:List Int) (a:Option Addr) (q c:Nat),wx=wr/\k<=ln/\l=.slice a q c/\i=.int .i64 k/\Hid (q=rs.length)/\Hid (RZ W2 wx rs a c)/\Hid (rs=(live.take k).map (fun x=>eE S rep x.toNat n))) (fun _ i _=>ln-(intOf i).toNat)
   case atStart=>exact⟨0,_,[],none,0,0,rfl,by omega,rfl,rfl,aH rfl,HQ0,aH rfl⟩
   case round=>
    clear HQ0;obtain⟨k,wx,rs,a,q,c,rfl,hk,rfl,rfl,HQq,HQ,HRs⟩:=hrel;by_cases hlt:k<ln
    ·have hlti2:(k:Int)<(ln:Int):=by omega
     have HLT:=aH hlt;have hbw:=after HM.out.1 HQ.out.kk;have hll:=HLv.out wx hbw;obtain⟨v,hv⟩:=aG (l:=live) (i:=k) (by rw[HLl.out];exact hlt);obtain⟨lb,lo,hla,-,-⟩:=hll.cells (by intro e;rw[e]at hv;cases hv);subst hla;have l0:wx.cell? ⟨lb,lo+k,none⟩=some (.int .i64 v):=bR hll (Below.refl _ _) hv;obtain⟨v0,v1⟩:=HLi.out v (eQ hv);obtain⟨p,hp⟩:∃p:Nat,v=(p:Int):=⟨v.toNat,by omega⟩;subst hp;obtain⟨mo,hmo⟩:=aE (eE S rep p n);have z0:wx.cell? ⟨mb,p,none⟩=some (.int .i64 mo):=by rw[(HM.out.2.next HQ.out.kk).cell];exact gG (by rw[hmo];exact lU (by omega))
     have hpi:(p:Int)<(n:Int):=v1;have HR5:Hid (rs++ [mo]=(live.take (k+1)).map (fun x=>eE S rep x.toNat n)):=aH (by rw[List.take_add_one,hv,List.map_append,<-HRs.out,hmo];rfl);have hql:Hid (q<=256):=aH (by rw[HQq.out,HRs.out,List.length_map];have:=List.length_take_le k live;have:=HLn.out;have:=HLl.out;rw[List.length_take];omega);have hx0:Hid (W2.heap.size<=wx.heap.size):=aH HQ.out.kk.size;have HNw:Hid ((wx.alloc (.cells #[.int .i64 mo] 3)).heap[wx.heap.size]?=some (.cells #[.int .i64 mo] 3)):=aH (heap_alloc_new wx _);clear hbw hll hv v0 v1 hmo hlt hk;go_wp2_with (at_builtin;refine wpList_append_lies _ rfl _ _ 23 rfl W2.heap.size 3 i0 (.int .i64 0) 1 8 Tryz.underlying23 hi hz0 hz1 hz2 rfl (by decide) (.slice a q c) q (rs.flatMap dT) rfl (by have:=HQ.out.oo;rw [<-HQq.out] at this;exact this.alloc _) ⟨wx.heap.size,0,none⟩ 1 1 (dT mo) rfl rfl (World.news_of_block (cs:=#[.int .i64 mo]) (t:=3) (fr:=(0,0)) HNw.out) (by simp [dT,Value.oneCell']) (by decide) (by have:=hql.out;unfold maxLen;omega) (by have:=hql.out;omega) (by have:=hx0.out;simp;omega) (wx.heap.size+1) (by simp) ?_;intro g cap w2 hown2 hgrow2 hlie2 hlt2)
     rw[HQq.out]at hown2 hgrow2;have HQ2:=aH (HQ.out.grow hown2 hgrow2);have HQq2:Hid (q+1=(rs++ [mo]).length):=aH (by rw[HQq.out];simp);clear hown2 hgrow2 hlie2 hlt2 HNw;go_roundw
     case rel=>exact⟨k+1,_,_,_,_,_,rfl,by have:=HLT.out;omega,rfl,by go_num,HQq2,HQ2,HR5⟩
     case measure=>have:=HLT.out;simp[intOf];omega
    ·have hlti2:¬(k:Int)<(ln:Int):=by omega
     have hkl:k=ln:=by omega
     have HEnd:Hid (rs=live.map (fun x=>eE S rep x.toNat n)):=aH (by rw[HRs.out,hkl,List.take_of_length_le (by have:=HLl.out;omega)]);clear hk hlt hkl;go_wp2;go_ret;rw[<-HEnd.out];exact⟨a,c,by rw[<-HQq.out];rfl,oX HQ.out.oo HM.out.1.size,after HM.out.1 HQ.out.kk⟩
theorem enz_len (x:Int):(dT x).length=1:=rfl
theorem rU {w:World}{b:Nat}{a:Option Addr}{c:Nat}{l:List Int}(h:w.ownsRow b 3 1 (.slice a l.length c) l.length (l.flatMap dT)):SL dT 1 w w.heap.size a l.length l:=by
 obtain⟨a',c',e,h',-⟩:=SL.ofOwns enz_len (by decide) h;injection e with e1 e2 e3
 subst e1;exact h'
theorem flat_nz (l:List Nat):l.flatMap enI=(l.map Int.ofNat).flatMap dT:=by
 induction l with
 |nil=>rfl
 |cons x t ih=>rw[List.flatMap_cons,List.map_cons,List.flatMap_cons,ih];rfl
theorem owns_slN {w:World}{b:Nat}{a:Option Addr}{c:Nat}{l:List Nat}(h:w.ownsRow b 3 1 (.slice a l.length c) l.length (l.flatMap enI)):SL dT 1 w w.heap.size a l.length (l.map Int.ofNat):=by
 have h2:w.ownsRow b 3 1 (.slice a (l.map Int.ofNat).length c) (l.map Int.ofNat).length ((l.map Int.ofNat).flatMap dT):=by rw[<-flat_nz,List.length_map];exact h
 have:=rU h2;rw[List.length_map]at this;exact this
theorem live_rng {S:List Sc}{rep:List Int}(hl:rep.length=S.length):∀x∈(aJ S rep).map Int.ofNat,0<=x/\x<(S.length:Int):=by
 intro x hx;obtain⟨k,hk,rfl⟩:=List.mem_map.1 hx;have:=(eX (qA.1 hk)).1;simp only[Int.ofNat_eq_natCast];omega
end
end Go.Proofs.YtiohgaghmnpplaaGreatDoor
