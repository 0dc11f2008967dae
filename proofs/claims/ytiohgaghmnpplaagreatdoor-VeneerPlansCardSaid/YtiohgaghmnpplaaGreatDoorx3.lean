/- veneer, plain: what is left of right units. veneer: right. veneer: layVeneers. -/
import Derived.Test.YtiohgaghmnpplaaGreatDoorqA
import Derived.Test.YtiohgaghmnpplaaGreatDoorx1
import Derived.Test.YtiohgaghmnpplaaGreatDoorw5
import Derived.Test.YtiohgaghmnpplaaGreatDoorx2
set_option maxRecDepth 100000
set_option maxHeartbeats 3000000
set_option linter.unusedVariables false
set_option linter.unusedSimpArgs false
namespace Go.Proofs.YtiohgaghmnpplaaGreatDoor
section
open Go.ChangeShapes Go.WideShapes Go.Deep Go.RowKit
theorem stand_nodup (S:List Sc)(rep:List Int):(aJ S rep).Nodup:=by
 have h:(kW rep).Nodup:=List.nodup_range.sublist List.filter_sublist;exact((iV (kW rep)).nodup_iff).2 h
theorem most_le {S:List Sc}{rep:List Int}(hA:∀j,oF S j<=12)(a:Nat):∀m,eE S rep a m<=12
 |0=>by unfold eE;decide
 |m+1=>by
  have ih:=most_le (rep:=rep) hA a m;have:=hA m;unfold eE;split<;>omega
theorem kind_le {S:List Sc}(hu:bN S=true)(k:Nat)(hk:k<S.length):1<=bG S k/\bG S k<=3:=by
 have hs:S[k]?=some S[k]:=iS hk;unfold bG;rw[hs];unfold bN at hu;simp only[Bool.and_eq_true,List.all_eq_true]at hu;have h1:=hu.2 S[k] (List.getElem_mem hk);unfold dO at h1;simp only[Bool.and_eq_true]at h1;obtain⟨hh,-⟩:=sec_iff.1 h1.1;obtain⟨-,h2,h3,-⟩:=head_iff.1 hh;simp only;omega
theorem left_of {S:List Sc}{rep live align:List Int}(h:lE S rep live align):live=(aJ S rep).map Int.ofNat/\align=eP S rep/\iT S rep (aJ S rep) (eP S rep):=by
 obtain⟨hu,⟨hr1,hr2⟩,hl,h1,h2⟩:=h;have hn:=fK hu;have hself:∀k,k∈aJ S rep->rep[k]?=some (k:Int)/\k<S.length:=fun k hk=>by
  have:=(qA (S:=S) (rep:=rep)).1 hk;refine⟨this,?_⟩;have:=(eX this).1;omega
 refine⟨h1,h2,⟨stand_nodup S rep,by unfold eP;simp,?_,?_,?_,?_⟩⟩
 ·intro a ha;unfold eP at ha;obtain⟨k,-,rfl⟩:=List.mem_map.1 ha;refine⟨mostN_pos _,most_le (fun j=>?_) k _⟩;unfold oF;cases e:S[j]? with
  |none=>decide
  |some s=>exact(dZ hu e).1.a1
 ·intro k hk;obtain⟨hk1,hk2⟩:=hself k hk;have hs:S[k]?=some S[k]:=iS hk2;obtain⟨so,sr⟩:=dZ hu hs;refine⟨S[k],hs,so.data,so.rels,fun r hr=>⟨(so.all r hr).p0,(so.all r hr).p1,?_⟩⟩;obtain⟨j,hj⟩:=List.getElem?_of_mem hr;obtain⟨x,x0,x1,-⟩:=hl k (k:Int) hk1 (by omega) S[k] S[k] hs (by rw[Int.toNat_natCast];exact hs) j r r hj hj;unfold bC pJ;rw[x1];simp only[Option.getD_some,Bool.and_eq_true,decide_eq_true_eq];refine⟨x0,(qA (S:=S)).2 ?_⟩;rcases hr2 _ _ x1 with rfl|⟨-,-,h5,-⟩
  ·omega
  ·rw[Int.toNat_of_nonneg x0];exact h5
 ·rw[qB];exact Nat.le_trans (oO rep) (by omega)
 ·intro i j hi hj hij hk;rcases Nat.lt_or_eq_of_le hij with hlt|rfl
  ·have hp:=List.pairwise_iff_getElem.1 (standL_up (S:=S) (rep:=rep)) i j hi hj hlt;have hi2:=(hself _ (List.getElem_mem hi)).2;have hj2:=(hself _ (List.getElem_mem hj)).2;have:=kind_le hu _ hi2;unfold jS at hp;omega
  ·exact hk
theorem fX {n j:Nat}(h:j<n)(hw:wrap64 ((j:Int)+1)=(j:Int)+1):n-(intOf (.int .i64 (wrap64 ((j:Int)+1)))).toNat<n-(intOf (.int .i64 (j:Int))).toNat:=by
 rw[hw];have e1:(intOf (.int .i64 ((j:Int)+1))).toNat=j+1:=by show((j:Int)+1).toNat=j+1;omega
 have e2:(intOf (.int .i64 (j:Int))).toNat=j:=by show((j:Int)).toNat=j;omega
 rw[e1,e2];omega
def fO (n:Nat)(l:List Vn):List Int:=(List.range n).map (fun(k:Nat)=>((cZ l (k:Int):Nat):Int))
theorem mL (n:Nat)(l:List Vn):(fO n l).length=n:=by unfold fO;simp
theorem fE {n k:Nat}(l:List Vn)(h:k<n):(fO n l)[k]?=some ((cZ l (k:Int):Nat):Int):=by
 unfold fO;rw[List.getElem?_map,List.getElem?_range h];rfl
theorem qO (n:Nat):fO n []=List.replicate n 0:=by
 apply List.ext_getElem?;intro i;by_cases h:i<n
 ·rw[fE _ h,List.getElem?_replicate,if_pos h];rfl
 ·rw[List.getElem?_eq_none (by rw[mL];omega),List.getElem?_eq_none (by simp;omega)]
theorem oC {n k:Nat}{l:List Vn}{x:Vn}(hx:x.1=(k:Int))(hk:k<n):(fO n l).set k (((cZ l (k:Int):Nat):Int)+1)=fO n (l++ [x]):=by
 apply List.ext_getElem?;intro i;by_cases hi:i<n
 ·rw[fE _ hi,gV,jD];by_cases e:k=i
  ·subst e;rw[List.getElem?_set_self (by rw[mL];exact hi),if_pos hx];simp
  ·rw[List.getElem?_set_ne e,fE _ hi,if_neg (by rw[hx];omega),Nat.add_zero]
 ·rw[List.getElem?_eq_none (by rw[List.length_set,mL];omega),List.getElem?_eq_none (by rw[mL];omega)]
theorem cnt_len (l:List Vn)(k:Int):cZ l k<=l.length:=List.length_filter_le _ _
def rW (l:List Vn):List (Vn×Int):=l.map (fun x=>(x,1))
theorem ones_mem {l:List Vn}{x:Vn}(h:x∈l):∃p∈rW l,p.1=x:=⟨(x,1),List.mem_map.2 ⟨x,h,rfl⟩,rfl⟩
theorem ones_not {l:List Vn}{x:Vn}(h:x∉l):∀p∈rW l,p.1≠x:=by
 intro p hp e;obtain⟨y,hy,rfl⟩:=List.mem_map.1 hp;exact h (e▸hy)
theorem ones_good {l:List Vn}(h:∀x∈l,cR x):∀p∈rW l,cR p.1:=by
 intro p hp;obtain⟨y,hy,rfl⟩:=List.mem_map.1 hp;exact h y hy
theorem ones_snoc (l:List Vn)(x:Vn):rW (l++ [x])=rW l++ [(x,1)]:=by unfold rW;rw[List.map_append];rfl
structure RS (p:Yp)(L:List Nat)(w u:World)(Y g M:Nat)(l:List Vn):Prop where
 bb:Below w.heap.size w u
 yd:YD p L u Y g
 mm:VM u M (rW l)
 cc:RB u (M+1) (iJ (fO p.n l)) 3
theorem RS.next {p:Yp}{L:List Nat}{w u v:World}{Y g M:Nat}{l:List Vn}(h:RS p L w u Y g M l)(hb:Below u.heap.size u v):RS p L w v Y g M l:=
 ⟨after h.bb hb,h.yd.next hb,h.mm.next hb,h.cc.next hb⟩
theorem RB.grown {w w':World}{X M:Nat}{cs:Array Value}{T:TypeId}(h:RB w X cs T)(hg:w.grownBy w' (some M))(hne:X≠M):RB w' X cs T:=
 (hg.block X (lt_of_block h) (fun e=>hne (by cases e;rfl))).trans h
theorem rb_map {w:World}{X M:Nat}{cs:Array Value}{T:TypeId}{l:List (Vn×Int)}(h:RB w X cs T)(hm:VM w M l):X≠M:=by
 rintro rfl;obtain⟨es,clock,h1,-⟩:=hm;unfold RB at h;rw[h1]at h;cases h
theorem right_snoc {S:List Sc}{L:List Nat}{v:List Vn}{k:Nat}{x:Vn}(hk:v[k]?=some x)(h:aX S L (v.take k) (v.drop k)=aX S L [] v):
  (if x∈v.take k\/eF S L x.1=false\/bC L x.2.1=false then false else if 64<cZ (v.take (k+1)) x.1 then false else aX S L (v.take (k+1)) (v.drop (k+1)))=aX S L [] v:=by
 obtain⟨h1,h2⟩:=eX hk;rw[<-h,List.drop_eq_getElem_cons h1,h2,show v.take (k+1)=v.take k++ [x]from by rw[List.take_add_one,hk];rfl];rfl
theorem grown_trans {w u v:World}{b:Option Nat}(h1:w.grownBy u b)(h2:u.grownBy v b):w.grownBy v b:=
 ⟨h2.os.trans h1.os,h2.tape.trans h1.tape,h2.output.trans h1.output,Nat.le_trans h1.size h2.size,fun k hk hb=>(h2.block k (Nat.lt_of_lt_of_le hk h1.size) hb).trans (h1.block k hk hb)⟩
section
variable {P:Program} {ops:Array Oper} {Q:Exit->Act->World->Prop} {md:Region.Mode} {S:World->Prop} {o o2:Oper} {fuel:Nat} {listed:Array Bool} {a:Act} {w:World}
theorem rd2 (i j:Nat)(ho:ops[i]?=some o)(ho2:ops[j]?=some o2)
  (h:∀K':Act->World->Prop,Shut (∀a w,S w->(S w->wpAnyH P md ops Q S fuel (listed.setIfInBounds i true) a w)->K' a w)->if Region.wanted o (yielded ops a.tmps)=true then Oper.wp P o a w K' Q else K' (a.put o.dst undef) w)
  (h2:∀K':Act->World->Prop,Shut (∀a w,S w->(S w->wpAnyH P md ops Q S fuel (listed.setIfInBounds j true) a w)->K' a w)->if Region.wanted o2 (yielded ops a.tmps)=true then Oper.wp P o2 a w K' Q else K' (a.put o2.dst undef) w)
  (hr:Region.ready md ops listed=[i,j]:=by kernel_rfl):wpAnyH P md ops Q S (fuel+1) listed a w:=
 wpAnyH_ready hr (by simp) (AllReadyH.cons ho h (AllReadyH.cons ho2 h2 AllReadyH.nil))
end
theorem vRight_any (p:Yp)(Lm:List Ms)(rep live align:List Int)(va:Option Addr)(vn vc:Nat)(v:List Vn)(w:World)(hn:p.n<=maxLen)(hs:SL mX 6 w w.heap.size p.ua p.n Lm)(hno:iQ w w.heap.size Lm)(hg:∀x∈Lm,fP x.sc)(hb:∀x∈Lm,x.sc.rels.length*32<=reachBytes)
  (hr:SL dT 1 w w.heap.size p.ra p.rn rep) (hl:SL dT 1 w w.heap.size p.la p.ln live) (ha:SL dT 1 w w.heap.size p.aa p.an align) (hrn:p.rn<=maxLen) (hln:p.ln<=maxLen) (han:p.an<=maxLen) (hT:jL w)
  (hv:SL gB 3 w w.heap.size va vn v) (hgv:∀x∈v,cR x) (hvn:vn<=maxLen):
  Calls Tryz.prog 26 #[.slice p.ua p.n p.uc,p.kp,.slice va vn vc] w (oI (lE (Lm.map (·.sc)) rep live align/\aX (Lm.map (·.sc)) (aJ (Lm.map (·.sc)) rep) [] v=true) w):=by
 obtain⟨S,hS⟩:=aE (Lm.map (·.sc));rw[<-hS];have HIs:Hid (∀u,Below w.heap.size w u->Calls Tryz.prog 22 #[.slice p.ua p.n p.uc,p.kp] u (oI (lE S rep live align) u)):=aH fun u hu=>by
  rw[hS];exact shrIs_any u p.ua p.n p.uc Lm p.ra p.rn p.rc rep p.la p.ln p.lc live p.aa p.an p.ac align hn (hs.next hu) (hno.next hu) hg hb (hr.next hu) (hl.next hu) (ha.next hu) hrn hln han (hT.next hu)
 have HNy:Hid (lE S rep live align->p.n<=256/\(∀x∈aJ S rep,x<p.n)/\∀u,Below w.heap.size w u->Calls Tryz.prog 27 #[.slice p.ua p.n p.uc,p.kp] u (NewYP p (aJ S rep) u)):=aH fun hQ=>by
  obtain⟨e1,e2,hLQ⟩:=left_of hQ;have hn2:p.n<=256:=by have:=fK hQ.1;have h3:=hs.len;rw[hS,List.length_map]at this;omega
  have hlt:∀x∈aJ S rep,x<p.n:=fun x hx=>by
   obtain⟨s,hs2,-⟩:=hLQ.inn x hx;have:=(eX hs2).1;rw[hS,List.length_map,<-hs.len]at this;exact this
  exact⟨hn2,hlt,fun u hu=>nT p (aJ S rep) u hn2 (by have:=hl.next hu;rw[e1]at this;exact this) hLQ.nd hlt (by have:=hl.len;rw[e1,List.length_map]at this;have:=hLQ.n256;omega)⟩
 have HIc:Hid (p.n<=256->(∀x∈aJ S rep,x<p.n)->∀(u:World) (Y g:Nat) (k:Int),Below w.heap.size w u->YD p (aJ S rep) u Y g->Calls Tryz.prog 39 #[.pointer (some ⟨Y,0,none⟩),.int .i64 k] u (bQ (.bool (eF S (aJ S rep) k)) u)):=aH fun h1 h2 u Y g k hu hy=>by
  rw[hS]at hy h2⊢;exact isCode_any p _ Lm Y g k u h1 h2 (hs.next hu) hy
 have HSt:Hid (p.n<=256->(∀x∈aJ S rep,x<p.n)->∀(u:World) (Y g:Nat) (k:Int),YD p (aJ S rep) u Y g->Calls Tryz.prog 54 #[.pointer (some ⟨Y,0,none⟩),.int .i64 k] u (bQ (.bool (bC (aJ S rep) k)) u)):=aH fun h1 h2 u Y g k hy=>stands_any p _ Y g k u h1 h2 hy
 have HV:=aH (fun u (hu:Below w.heap.size w u)=>hv.next hu);have HVl:Hid (v.length=vn):=aH hv.len.symm;have HVn:=aH hvn;have HGv:=aH hgv;obtain⟨ua,n,uc,ra,rn,rc,la,ln,lc,aa,an,ac⟩:=p;simp only[]at HIs HNy HIc HSt hn hrn hln han⊢;obtain⟨X,hX⟩:=aE w.heap.size;obtain⟨W,hW⟩:=aE (w.alloc (.cells #[.slice ra rn rc,.slice la ln lc,.slice aa an ac] 25));have HB:Hid (Below w.heap.size w W):=aH (by rw[hW];exact aC w _);have HX:Hid (RB W X #[.slice ra rn rc,.slice la ln lc,.slice aa an ac] 25):=aH (by rw[hW,hX];exact aQ w _ _);have HWe:=aH hW.symm;have HXe:=aH hX.symm;clear hn hs hno hg hb hr hl ha hrn hln han hT hv hgv hvn hX hW hS;go_enter Tryz.func26,Tryz.ntmps26;go_wp2_with fail
 rw[HWe.out,HXe.out];have y0:W.cell? ⟨X,0,none⟩=some (.slice ra rn rc):=HX.out.cell;have y1:W.cell? ⟨X,1,none⟩=some (.slice la ln lc):=HX.out.cell;have y2:W.cell? ⟨X,2,none⟩=some (.slice aa an ac):=HX.out.cell;go_wp2_with fail
 refine(HIs.out _ HB.out).mono ?_;rintro e u1 ⟨r,rfl,hr,hb⟩;have HB1:=aH (after HB.out hb);have HX1:=aH (HX.out.next hb);have HR:=aH hr;clear y0 y1 y2 hb hr;cases r
 ·go_wp2;go_ret;exact⟨false,rfl,by simp only[Bool.false_eq_true,false_iff];rintro⟨hq,-⟩;exact absurd (HR.out.2 hq) (by decide),HB1.out⟩
 have HQ:=aH (HR.out.1 rfl);clear HR;have HN:Hid (n<=256):=aH (HNy.out HQ.out).1;have HLt:=aH (HNy.out HQ.out).2.1;have hni:(n:Int)<=256:=by have:=HN.out;omega
 have hmk:=jX n (by have:=HN.out;omega);have y0:u1.cell? ⟨X,0,none⟩=some (.slice ra rn rc):=HX1.out.cell;have y1:u1.cell? ⟨X,1,none⟩=some (.slice la ln lc):=HX1.out.cell;have y2:u1.cell? ⟨X,2,none⟩=some (.slice aa an ac):=HX1.out.cell;go_wp2_with fail
 refine((HNy.out HQ.out).2.2 _ HB1.out).mono ?_;rintro e u2 ⟨Y,g,rfl,hyd,hY,hG,hb2⟩;have HB2:=aH (after HB1.out hb2);have hmm:=@run_makeMap Tryz.prog;have hM2:Below u2.heap.size u2 (u2.alloc (.map #[] 0)):=aC u2 _;have hM3:=aC (u2.alloc (.map #[] 0)) (.cells (iJ (List.replicate n 0)) 3);have hsz:(u2.alloc (.map #[] 0)).heap.size=u2.heap.size+1:=World.size_alloc _ _;have HS0:Hid (RS ⟨ua,n,uc,ra,rn,rc,la,ln,lc,aa,an,ac⟩ (aJ S rep) w ((u2.alloc (.map #[] 0)).alloc (.cells (iJ (List.replicate n 0)) 3)) Y g u2.heap.size []):=aH ⟨after (after HB2.out hM2) hM3,(hyd.next hM2).next hM3,(VM.mk0 u2).next hM3,by rw[<-hsz];show RB _ _ (iJ (fO n [])) _;rw[qO];exact aQ _ _ _⟩;have hYl:=lt_of_block hyd.yy;have hGl:=lt_of_block hyd.gg;clear y0 y1 y2 hY hG hb2 hyd hM2 hM3;go_wp2_with fail
 clear hmm hmk;try rw[hsz]
 obtain⟨M,hM⟩:=aE u2.heap.size;rw[<-hM]at HS0 hYl hGl⊢;have HYl:Hid (Y<M/\g<M):=aH ⟨hYl,hGl⟩;have HMw:Hid (w.heap.size<=M):=aH (by rw[hM];exact HB2.out.size);clear hYl hGl hM hsz;have HR0:Hid (aX S (aJ S rep) (v.take 0) (v.drop 0)=aX S (aJ S rep) [] v):=aH rfl;go_loopw [27] (fun i wr=>∃(k:Nat) (wx:World),wx=wr/\k<=vn/\i=.int .i64 k/\Hid (RS ⟨ua,n,uc,ra,rn,rc,la,ln,lc,aa,an,ac⟩ (aJ S rep) w wx Y g M (v.take k))/\Hid (aX S (aJ S rep) (v.take k) (v.drop k)=aX S (aJ S rep) [] v)) (fun i _=>vn-(intOf i).toNat)
 case atStart=>exact⟨0,_,rfl,by omega,rfl,HS0,HR0⟩
 case round=>
  clear HS0 HR0;obtain⟨k,wx,rfl,hk,rfl,HS,HR⟩:=hrel;by_cases hlt:k<vn
  ·have hlti:(k:Int)<(vn:Int):=by omega
   have HLT:=aH hlt;have HWk:Hid (wrap64 ((k:Int)+1)=(k:Int)+1):=aH (by have:=HVn.out;unfold maxLen at this;unfold wrap64;omega);have hkl:k<v.length:=by rw[HVl.out];exact hlt
   obtain⟨x,hx⟩:=aG (l:=v) (i:=k) hkl;have hxg:=HGv.out x (eQ hx);obtain⟨vb,vo,hva,-,hvc⟩:=(HV.out wx HS.out.bb).cells (by intro e;rw[e]at hkl;simp at hkl);subst hva;obtain⟨x0,x1,x2⟩:=fI (off:=vo) (k:=k) (x:=x) (fun j hj=>by have h1:=hvc k hkl j hj;rw[(eX hx).2]at h1;exact h1);clear hvc hk hlt hkl;have HXk:=aH hx;have HXg:=aH hxg;clear hx hxg;obtain⟨se,tt,ad⟩:=x;simp only[]at x0 x1 x2;have HN1:=aH (right_snoc HXk.out HR.out);have HTk:Hid (v.take (k+1)=v.take k++ [(se,tt,ad)]):=aH (by rw[List.take_add_one,HXk.out];rfl);have HGk:Hid (∀q∈rW (v.take k),cR q.1):=aH (ones_good (fun y hy=>HGv.out y (List.mem_of_mem_take hy)));obtain⟨X2,hX2⟩:=aE wx.heap.size;obtain⟨W2,hW2⟩:=aE (wx.alloc (.cells #[.int .i64 se,.int .i64 tt,.int .i64 ad] 80));have HS2:Hid (RS ⟨ua,n,uc,ra,rn,rc,la,ln,lc,aa,an,ac⟩ (aJ S rep) w W2 Y g M (v.take k)):=aH (by rw[hW2];exact HS.out.next (aC _ _));have HR2:Hid (RB W2 X2 #[.int .i64 se,.int .i64 tt,.int .i64 ad] 80):=aH (by rw[hW2,hX2];exact aQ _ _ _);have HX2w:Hid (w.heap.size<=X2/\M+1<X2):=aH ⟨by rw[hX2];exact HS.out.bb.size,by rw[hX2];exact lt_of_block HS.out.cc⟩;have HW2e:=aH hW2.symm;have HX2e:=aH hX2.symm;have HL2:Hid (cR (se,tt,ad)):=HXg;clear HS HR hW2 hX2;go_wp2_with fail
   rw[HW2e.out,HX2e.out];clear HW2e HX2e x0 x1 x2;have c0:W2.cell? ⟨X2,0,none⟩=some (.int .i64 se):=HR2.out.cell;have c1:W2.cell? ⟨X2,1,none⟩=some (.int .i64 tt):=HR2.out.cell;have c2:W2.cell? ⟨X2,2,none⟩=some (.int .i64 ad):=HR2.out.cell;by_cases hin:(se,tt,ad)∈v.take k
   ·obtain⟨z,hz⟩:=vm_yes HS2.out.mm HGk.out (ones_mem hin);dsimp only[lG]at hz;rw[hz];clear hz;have HF:Hid (aX S (aJ S rep) [] v=false):=aH (by rw[<-HN1.out,if_pos (.inl hin)]);clear hin;go_wp2;go_ret;exact⟨false,rfl,(by simp only[Bool.false_eq_true,false_iff];rintro⟨-,h2⟩;rw[HF.out]at h2;cases h2),HS2.out.bb⟩
   have hz:=(vm_no HS2.out.mm HGk.out HL2.out (ones_not hin)).1;dsimp only[lG]at hz;rw[hz];clear hz;by_cases hc:eF S (aJ S rep) se=true;rotate_left
   ·have hcf:eF S (aJ S rep) se=false:=by cases h:eF S (aJ S rep) se;rfl;exact absurd h hc
    have HF:Hid (aX S (aJ S rep) [] v=false):=aH (by rw[<-HN1.out,if_pos (.inr (.inl hcf))]);have HCf:=aH hcf;clear hin hc hcf;go_wp2_with fail
    refine(HIc.out HN.out HLt.out _ Y g se HS2.out.bb HS2.out.yd).mono ?_;rintro e u ⟨rfl,rfl⟩;rw[HCf.out];go_wp2;go_ret;exact⟨false,rfl,(by simp only[Bool.false_eq_true,false_iff];rintro⟨-,h2⟩;rw[HF.out]at h2;cases h2),HS2.out.bb⟩
   by_cases hd:bC (aJ S rep) tt=true;rotate_left
   ·have hdf:bC (aJ S rep) tt=false:=by cases h:bC (aJ S rep) tt;rfl;exact absurd h hd
    have HF:Hid (aX S (aJ S rep) [] v=false):=aH (by rw[<-HN1.out,if_pos (.inr (.inr hdf))]);have HCf:=aH hc;have HDf:=aH hdf;clear hin hc hd hdf;go_wp2_with fail
    refine(HIc.out HN.out HLt.out _ Y g se HS2.out.bb HS2.out.yd).mono ?_;rintro e u ⟨rfl,rfl⟩;rw[HCf.out];go_wp2_with fail
    refine(HSt.out HN.out HLt.out _ Y g tt HS2.out.yd).mono ?_;rintro e u ⟨rfl,rfl⟩;rw[HDf.out];go_wp2;go_ret;exact⟨false,rfl,(by simp only[Bool.false_eq_true,false_iff];rintro⟨-,h2⟩;rw[HF.out]at h2;cases h2),HS2.out.bb⟩
   have HN2:Hid ((if 64<cZ (v.take (k+1)) se then false else aX S (aJ S rep) (v.take (k+1)) (v.drop (k+1)))=aX S (aJ S rep) [] v):=aH (by
    have h9:=HN1.out;rw[if_neg (show¬((se,tt,ad)∈v.take k\/eF S (aJ S rep) se=false\/bC (aJ S rep) tt=false)from by rintro(h|h|h);exact hin h;rw[hc]at h;cases h;rw[hd]at h;cases h)]at h9;exact h9)
   have HIn:=aH hin;have HCf:=aH hc;have HDf:=aH hd;clear hin hc hd HN1;go_wp2_with fail
   refine(HIc.out HN.out HLt.out _ Y g se HS2.out.bb HS2.out.yd).mono ?_;rintro e u ⟨rfl,rfl⟩;rw[HCf.out];go_wp2_with fail
   refine(HSt.out HN.out HLt.out _ Y g tt HS2.out.yd).mono ?_;rintro e u ⟨rfl,rfl⟩;rw[HDf.out];clear c0 c1 c2;go_wp2_with fail
   have hcd:=HCf.out;unfold eF bC at hcd;simp only[Bool.and_eq_true,decide_eq_true_eq]at hcd;obtain⟨⟨hse0,hseL⟩,-⟩:=hcd;obtain⟨ks,hks⟩:∃ks:Nat,se=(ks:Int):=⟨se.toNat,by omega⟩;subst hks;rw[Int.toNat_natCast]at hseL;have hkn:ks<n:=HLt.out ks hseL;have hki:(ks:Int)<(n:Int):=by omega
   obtain⟨cn,hcn⟩:=aE (cZ (v.take k) (ks:Int));have hcb:(cn:Int)<9223372036854775807:=by
    have h1:=cnt_len (v.take k) (ks:Int);have h2:(v.take k).length<=k:=by rw[List.length_take];omega
    have h3:=HLT.out;have h4:=HVn.out;unfold maxLen at h4;omega
   have HC1:Hid (cZ (v.take (k+1)) (ks:Int)=cn+1):=aH (by rw[HTk.out,gV,jD,if_pos rfl,hcn]);obtain⟨V,hV,hT⟩:=aD W2;have HS3:=aH (HS2.out.next hT);have HR3:=aH (HR2.out.next hT);have HcS:Hid (∀v',V.grownBy v' (some M)->v'.cell? ⟨X2,0,none⟩=some (.int .i64 (ks:Int))/\v'.cell? ⟨X2,1,none⟩=some (.int .i64 tt)/\v'.cell? ⟨X2,2,none⟩=some (.int .i64 ad)):=aH fun v' hv'=>by
    have h1:=HR3.out.grown hv' (by have:=HX2w.out;omega);exact⟨h1.cell,h1.cell,h1.cell⟩
   have hS0:V.cell? ⟨X2,0,none⟩=some (.int .i64 (ks:Int))/\V.cell? ⟨X2,1,none⟩=some (.int .i64 tt)/\V.cell? ⟨X2,2,none⟩=some (.int .i64 ad):=⟨HR3.out.cell,HR3.out.cell,HR3.out.cell⟩;obtain⟨V1,st,hE,hG1,hLk,V2,hSt,hM2,hG2⟩:=vm_entry HS3.out.mm HGk.out ((ks:Int),tt,ad) 1 HL2.out (ones_not HIn.out);rw[show(1:Int)=IntKind.i64.wrap 1 from rfl]at hSt;have hLk0:=(vm_no HS3.out.mm HGk.out HL2.out (ones_not HIn.out)).2;dsimp only[lG]at hE hLk hLk0;have hG12:V.grownBy V2 (some M):=grown_trans hG1 hG2;have hVsz:(V.heap.size:Nat)=V.heap.size:=rfl;have HBb:Hid (Below w.heap.size w V2):=aH (HS3.out.bb.grown hG12 HS3.out.bb.size (fun j hj=>by cases hj;exact HMw.out));have HYD4:Hid (YD ⟨ua,n,uc,ra,rn,rc,la,ln,lc,aa,an,ac⟩ (aJ S rep) V2 Y g):=aH ⟨HS3.out.yd.yy.grown hG12 (by have:=HYl.out;omega),HS3.out.yd.gg.grown hG12 (by have:=HYl.out;omega)⟩;have HCC:Hid (RB V2 (M+1) (iJ (fO n (v.take k))) 3):=aH (HS3.out.cc.grown hG12 (by omega));have HMM:Hid (VM V2 M (rW (v.take (k+1)))):=aH (by rw[HTk.out,ones_snoc];exact hM2);have HR4:Hid (RB V2 X2 #[.int .i64 (ks:Int),.int .i64 tt,.int .i64 ad] 80):=aH (HR3.out.grown hG12 (by have:=HX2w.out;omega));have z0:V2.cell? ⟨M+1,ks,none⟩=some (.int .i64 (cn:Int)):=by
    rw[HCC.out.cell];exact gG (by rw[hcn];exact fE _ hkn)
   have z1:V2.frozen? ⟨M+1,ks,none⟩=false:=HCC.out.frozen;have hne:∀b,b<M->b≠M+1:=fun b hb=>by omega
   have HS5:Hid (RS ⟨ua,n,uc,ra,rn,rc,la,ln,lc,aa,an,ac⟩ (aJ S rep) w (V2.setCell ⟨M+1,ks,none⟩ (.int .i64 ((cn:Int)+1))) Y g M (v.take (k+1))):=aH ⟨HBb.out.setCell (p:=⟨M+1,ks,none⟩) (by have:=HMw.out;show w.heap.size<=M+1;omega) _,
    ⟨(Below.heap_setCell _ _ _ _ (hne _ HYl.out.1)).trans HYD4.out.yy,(Below.heap_setCell _ _ _ _ (hne _ HYl.out.2)).trans HYD4.out.gg⟩,
    by obtain⟨es,clock,h1,h2⟩:=HMM.out;exact⟨es,clock,(Below.heap_setCell _ _ _ _ (show M≠M+1 by omega)).trans h1,h2⟩,
    by
     have:=HCC.out.set (j:=ks) (.int .i64 ((cn:Int)+1));rw[sD,hcn,oC (x:=((ks:Int),tt,ad)) rfl hkn,<-HTk.out]at this;rw[hcn];exact this⟩
   have d0:V2.cell? ⟨X2,0,none⟩=some (.int .i64 (ks:Int)):=HR4.out.cell;have d1:(V2.setCell ⟨M+1,ks,none⟩ (.int .i64 ((cn:Int)+1))).cell? ⟨X2,0,none⟩=some (.int .i64 (ks:Int)):=by
    rw[World.cell?_setCell_far _ _ _ _ (by have:=HX2w.out;show M+1≠X2;omega)];exact d0
   have d2:(V2.setCell ⟨M+1,ks,none⟩ (.int .i64 ((cn:Int)+1))).cell? ⟨M+1,ks,none⟩=some (.int .i64 ((cn:Int)+1)):=by
    rw[HS5.out.cc.cell];exact gG ((fE _ hkn).trans (by rw[HC1.out];simp))
   clear hne hcn hseL hkn;have hS1:=HcS.out V1 hG1;have hS2:=HcS.out V2 hG12;clear hM2 hG1 hG2 hG12 hT hVsz;refine aS (S:=fun v'=>v'.cell? ⟨X2,0,none⟩=some (.int .i64 (ks:Int))/\v'.cell? ⟨X2,1,none⟩=some (.int .i64 tt)/\v'.cell? ⟨X2,2,none⟩=some (.int .i64 ad)) hV hS0 ?_;clear hV;iterate 2 refine aN _ rfl hS0 ?_
   refine rd2 2 4 rfl rfl (fun K hK=>?_) (fun K hK=>?_)
   ·go_simp;refine hK.out _ _ hS0 (fun hX9=>?_);clear hK K hX9;refine aI 3 _ rfl hS0 ?_;refine rd 4 rfl (fun K hK=>?_);go_simp;refine hK.out _ _ hS1 (fun hX9=>?_);clear hK K hX9;refine aI 5 _ rfl hS1 ?_;refine rd 6 rfl (fun K hK=>?_);go_simp;refine hK.out _ _ hS2 (fun hX9=>?_);clear hK K hX9;refine wpAnyH_done (by kernel_rfl) ?_ _;clear hE hLk hLk0 hSt hS0 hS1 hS2;by_cases hgt:64<cn+1
    ·have hgi:(64:Int)<(cn:Int)+1:=by omega
     have HF:Hid (aX S (aJ S rep) [] v=false):=aH (by rw[<-HN2.out,if_pos (by rw[HC1.out];exact hgt)]);clear hgt;go_wp2;go_ret;exact⟨false,rfl,(by simp only[Bool.false_eq_true,false_iff];rintro⟨-,h2⟩;rw[HF.out]at h2;cases h2),HS5.out.bb⟩
    ·have hgi:¬(64:Int)<(cn:Int)+1:=by omega
     have HNx:Hid (aX S (aJ S rep) (v.take (k+1)) (v.drop (k+1))=aX S (aJ S rep) [] v):=aH (by have h9:=HN2.out;rw[if_neg (by rw[HC1.out];exact hgt)]at h9;exact h9);clear hgt;go_wp2;go_roundw
     case rel=>exact⟨k+1,_,rfl,by have:=HLT.out;omega,by rw[HWk.out];go_num,HS5,HNx⟩
     case measure=>exact fX HLT.out HWk.out
   ·go_simp;refine hK.out _ _ hS1 (fun hX9=>?_);clear hK K hX9;refine aI 5 _ rfl hS1 ?_;refine rd 2 rfl (fun K hK=>?_);go_simp;refine hK.out _ _ hS1 (fun hX9=>?_);clear hK K hX9;refine aI 3 _ rfl hS1 ?_;refine rd 6 rfl (fun K hK=>?_);go_simp;refine hK.out _ _ hS2 (fun hX9=>?_);clear hK K hX9;refine wpAnyH_done (by kernel_rfl) ?_ _;clear hE hLk hLk0 hSt hS0 hS1 hS2;by_cases hgt:64<cn+1
    ·have hgi:(64:Int)<(cn:Int)+1:=by omega
     have HF:Hid (aX S (aJ S rep) [] v=false):=aH (by rw[<-HN2.out,if_pos (by rw[HC1.out];exact hgt)]);clear hgt;go_wp2;go_ret;exact⟨false,rfl,(by simp only[Bool.false_eq_true,false_iff];rintro⟨-,h2⟩;rw[HF.out]at h2;cases h2),HS5.out.bb⟩
    ·have hgi:¬(64:Int)<(cn:Int)+1:=by omega
     have HNx:Hid (aX S (aJ S rep) (v.take (k+1)) (v.drop (k+1))=aX S (aJ S rep) [] v):=aH (by have h9:=HN2.out;rw[if_neg (by rw[HC1.out];exact hgt)]at h9;exact h9);clear hgt;go_wp2;go_roundw
     case rel=>exact⟨k+1,_,rfl,by have:=HLT.out;omega,by rw[HWk.out];go_num,HS5,HNx⟩
     case measure=>exact fX HLT.out HWk.out
  ·obtain rfl:vn=k:=by omega
   have hge:¬(vn:Int)<(vn:Int):=by omega
   have HE:Hid (aX S (aJ S rep) [] v=true):=aH (by rw[<-HR.out,List.drop_of_length_le (by rw[HVl.out];exact Nat.le_refl _)];rfl);clear hk hlt;go_wp2;go_ret;exact⟨true,rfl,(by simp only[true_iff];exact⟨HQ.out,HE.out⟩),HS.out.bb⟩
end
section
open Go.ChangeShapes Go.WideShapes Go.Deep Go.RowKit
open Go.Proofs.YtiohgaghmnpplaaGreatDoor.Pl (encU encU_len)
def RowU (l:List Int)(w:World)(e:Ending)(w':World):Prop:=∃a c,e=.returned (.slice a l.length c)/\w'.ownsRow w.heap.size 26 1 (.slice a l.length c) l.length (l.flatMap encU)/\Below w.heap.size w w'
structure VS (n:Nat)(w u:World)(C:Nat)(l:List Vn)(acc:List Int)(a:Option Addr)(q c:Nat):Prop where
 bb:Below w.heap.size w u
 cc:RB u C (iJ (fO n l)) 3
 oo:u.ownsRow (C+1) 26 1 (.slice a q c) q (acc.flatMap encU)
theorem venR_n {S:List Sc}{live:List Nat}{P:List Int}:∀(v seen:List Vn),(venR S live P seen v).length=v.length
 | [],_=>rfl
 |x :: t,seen=>by show(venR S live P (seen++ [x]) t).length+1=_;rw[venR_n t];rfl
theorem cnt_take {v:List Vn}{k:Int}(i:Nat):cZ (v.take i) k<=cZ v k:=by
 have h:=gV (v.take i) (v.drop i) k;rw[List.take_append_drop]at h;omega
theorem layVen_any (p:Yp)(L:List Nat)(Lm:List Ms)(Y g:Nat)(va:Option Addr)(vn vc:Nat)(v:List Vn)(pa:Option Addr)(pn pc:Nat)(P:List Int)(w:World)(h:YD p L w Y g)(hn:p.n<=256)(hL:∀x∈L,x<p.n)(hs:SL mX 6 w w.heap.size p.ua p.n Lm)
  (hv:SL gB 3 w w.heap.size va vn v) (hgv:∀x∈v,∃q:Nat,x.1=(q:Int)/\q∈L/\iI (Lm.map (·.sc)) q<=4096) (hvn:vn<=1000000) (hcv:∀k,cZ v k<=64) (hP:SL encU 1 w w.heap.size pa pn P) (hpl:P.length=L.length) (hpb:∀x∈P,0<=x/\x<=4611686018432630784):
  Calls Tryz.prog 58 #[.pointer (some ⟨Y,0,none⟩),.slice va vn vc,.slice pa pn pc] w (RowU (kS (Lm.map (·.sc)) L P v) w):=by
 obtain⟨S,hS⟩:=aE (Lm.map (·.sc));have HEnd:Hid (∀(u:World) (k:Nat),Below w.heap.size w u->k<p.n->iI S k<=100000->Calls Tryz.prog 56 #[.pointer (some ⟨Y,0,none⟩),.int .i64 (k:Int)] u (bQ (.int .i64 ((gN S k:Nat):Int)) u)):=aH fun u k hu hk hd=>by
  rw[hS]at hd⊢;exact end_any p L Lm Y g k u hn hk (hs.next hu) (h.next hu) hd
 rw[<-hS]at hgv⊢;have HV:=aH (fun u (hu:Below w.heap.size w u)=>hv.next hu);have HVl:Hid (v.length=vn):=aH hv.len.symm;have HVn:=aH hvn;have HGv:=aH hgv;have HCv:=aH hcv;have HPs:=aH hP;have HPl:=aH hpl;have HPb:=aH hpb;have HLt:=aH hL;have HYD:=aH h;have HN:=aH hn;obtain⟨ua,n,uc,ra,rn,rc,la,ln,lc,aa,an,ac⟩:=p;simp only[]at HEnd HN HLt hn;have hni:(n:Int)<=256:=by omega
 have hmk:=jX n (by omega);obtain⟨R,hR⟩:=aE (kS S L P v);have HRe:=aH hR;rw[<-hR];have HRl:Hid (R.length=vn):=aH (by rw[hR];unfold kS;rw[venR_n];exact HVl.out);obtain⟨C,hC⟩:=aE w.heap.size;obtain⟨W,hW⟩:=aE (w.alloc (.cells (iJ (List.replicate n 0)) 3));have HS0:Hid (VS n w W C [] [] none 0 0):=aH ⟨by rw[hW];exact aC w _,by rw[hW,hC,qO];exact aQ w _ _,World.ownsRow_nil _ _ _ _⟩;have HWe:=aH hW.symm;have HCe:=aH hC.symm;have hy0:w.cell? ⟨Y,0,none⟩=some (.slice ua n uc):=HYD.out.yy.cell;clear h hs hn hL hv hgv hvn hcv hP hpl hpb hR hC hW;go_enter Tryz.func58,Tryz.ntmps58;go_wp2_with fail
 rw[HWe.out,HCe.out];clear hmk hy0;obtain⟨i0,hi,hz0,hz1,hz2⟩:=info_parts Pl.info26;go_loopw [8,19] (fun l i wr=>∃(k:Nat) (wx:World) (a:Option Addr) (c:Nat),wx=wr/\k<=vn/\l=.slice a k c/\i=.int .i64 k/\Hid (VS n w wx C (v.take k) (R.take k) a k c)) (fun _ i _=>vn-(intOf i).toNat)
 case atStart=>exact⟨0,_,none,0,rfl,by omega,rfl,rfl,HS0⟩
 case round=>
  clear HS0;obtain⟨k,wx,a,c,rfl,hk,rfl,rfl,HS⟩:=hrel;by_cases hlt:k<vn
  ·have hlti:(k:Int)<(vn:Int):=by omega
   have HLT:=aH hlt;have HWk:Hid (wrap64 ((k:Int)+1)=(k:Int)+1):=aH (by have:=HVn.out;unfold wrap64;omega);have hkl:k<v.length:=by rw[HVl.out];exact hlt
   obtain⟨x,hx⟩:=aG (l:=v) (i:=k) hkl;obtain⟨vb,vo,hva,-,hvc⟩:=(HV.out wx HS.out.bb).cells (by intro e;rw[e]at hkl;simp at hkl);subst hva;obtain⟨x0,x1,x2⟩:=fI (off:=vo) (k:=k) (x:=x) (fun j hj=>by have h1:=hvc k hkl j hj;rw[(eX hx).2]at h1;exact h1);obtain⟨ks,hks,hkL,hd⟩:=HGv.out x (eQ hx);have hkn:=HLt.out ks hkL;have hRk:R[k]?=some (pK L P (ks:Int)+((gN S ks+12*cZ (v.take k) (ks:Int):Nat):Int)):=by
    have:=venR_at (S:=S) (live:=L) (P:=P) v [] k x hx;rw[hks,List.nil_append,Int.toNat_natCast]at this;rw[HRe.out];exact this
   obtain⟨cn,hcn⟩:=aE (cZ (v.take k) (ks:Int));rw[<-hcn]at hRk;have hc64:cn<=64:=by rw[hcn];exact Nat.le_trans (cnt_take k) (HCv.out _)
   have hen:gN S ks<=5000:=by unfold gN;omega
   obtain⟨en,hene⟩:=aE (gN S ks);rw[<-hene]at hRk hen;obtain⟨j,hj⟩:=aE (L.idxOf ks);have hjl:j<P.length:=by rw[HPl.out,hj];exact List.idxOf_lt_length_iff.2 hkL
   obtain⟨pv,hpv⟩:=aG (l:=P) (i:=j) hjl;obtain⟨pv0,pv1⟩:=HPb.out pv (eQ hpv);rw[plc_at (by rw[<-hj];exact hpv)]at hRk;have hjp:j<pn:=by have:=HPs.out.len;omega
   obtain⟨pb,po,hpa,-,-⟩:=HPs.out.cells (by intro e;rw[e]at hpv;cases hpv);subst hpa;have HPc:=aH (fun u (hu:Below w.heap.size w u)=>gC HPs.out hu hpv);have HGc:Hid (∀u,Below w.heap.size w u->u.cell? ⟨g,ks,none⟩=some (.int .i64 (j:Int))):=aH fun u hu=>by
    rw[(HYD.out.next hu).gg.cell];exact gG (by rw[iU L hkn,if_pos hkL,hj])
   have HYc:Hid (∀u,Below w.heap.size w u->u.cell? ⟨Y,4,none⟩=some (.slice (some ⟨g,0,none⟩) n n)):=aH fun u hu=>(HYD.out.next hu).yy.cell
   have HRk:=aH hRk;have HXk:=aH hx;have HCn:=aH hcn;have HKn:Hid (ks<n/\iI S ks<=100000):=aH ⟨hkn,by omega⟩;have HEn:=aH hene;have hji:(j:Int)<(pn:Int):=by omega
   have hki:(ks:Int)<(n:Int):=by omega
   have hcni:(cn:Int)<=64:=by omega
   have heni:(en:Int)<=5000:=by omega
   obtain⟨se,tt,ad⟩:=x;simp only[]at x0 x1 x2 hks;subst hks;obtain⟨X2,hX2⟩:=aE wx.heap.size;obtain⟨W2,hW2⟩:=aE (wx.alloc (.cells #[.int .i64 (ks:Int),.int .i64 tt,.int .i64 ad] 80));have hB2:Below wx.heap.size wx W2:=by rw[hW2];exact aC _ _
   have HB2:Hid (Below w.heap.size w W2):=aH (after HS.out.bb hB2);have HCc:Hid (RB W2 C (iJ (fO n (v.take k))) 3):=aH (HS.out.cc.next hB2);have HOo:Hid (W2.ownsRow (C+1) 26 1 (.slice a k c) k ((R.take k).flatMap encU)):=aH (by rw[hW2];exact HS.out.oo.alloc _);have HR2:Hid (RB W2 X2 #[.int .i64 (ks:Int),.int .i64 tt,.int .i64 ad] 80):=aH (by rw[hW2,hX2];exact aQ _ _ _);have HX2w:Hid (w.heap.size<=C/\C<X2):=aH ⟨by rw[<-HCe.out];exact Nat.le_refl _,by rw[hX2];exact lt_of_block HS.out.cc⟩;have HOl:Hid (∀jb,(Value.slice a k c).ownBlock=some jb->C+1<=jb/\jb<X2):=aH fun jb hjb=>by rw[hX2];exact HS.out.oo.lt jb hjb
   have HW2e:=aH hW2.symm;have HX2e:=aH hX2.symm;clear hvc hk hlt hkl hx hkL hd hkn hRk hcn hc64 hen hene hj hjl hpv hjp hW2 hX2 hB2 HS;go_wp2_with fail
   rw[HW2e.out,HX2e.out];have HcS:Hid (∀v',Below W2.heap.size W2 v'->v'.cell? ⟨Y,4,none⟩=some (.slice (some ⟨g,0,none⟩) n n)/\v'.cell? ⟨X2,0,none⟩=some (.int .i64 (ks:Int))/\v'.cell? ⟨g,ks,none⟩=some (.int .i64 (j:Int))/\v'.cell? ⟨pb,po+j,none⟩=some (.int .u64 pv)/\v'.cell? ⟨C,ks,none⟩=some (.int .i64 (cn:Int))):=aH fun v' hv'=>⟨HYc.out _ (after HB2.out hv'),(HR2.out.next hv').cell,HGc.out _ (after HB2.out hv'),HPc.out _ (after HB2.out hv'),by rw[(HCc.out.next hv').cell];exact gG (by rw[HCn.out];exact fE _ HKn.out.1)⟩
   have HSc:Hid (∀v',Below w.heap.size w v'->RB v' C (iJ (fO n (v.take k))) 3->RB v' X2 #[.int .i64 (ks:Int),.int .i64 tt,.int .i64 ad] 80->v'.cell? ⟨Y,4,none⟩=some (.slice (some ⟨g,0,none⟩) n n)/\v'.cell? ⟨X2,0,none⟩=some (.int .i64 (ks:Int))/\v'.cell? ⟨g,ks,none⟩=some (.int .i64 (j:Int))/\v'.cell? ⟨pb,po+j,none⟩=some (.int .u64 pv)/\v'.cell? ⟨C,ks,none⟩=some (.int .i64 (cn:Int))):=aH fun v' h1 h2 h3=>⟨HYc.out _ h1,h3.cell,HGc.out _ h1,HPc.out _ h1,by rw[h2.cell];exact gG (by rw[HCn.out];exact fE _ HKn.out.1)⟩
   obtain⟨V,hV,hT⟩:=aD W2;have HOv:Hid (V.ownsRow (C+1) 26 1 (.slice a k c) k ((R.take k).flatMap encU)):=aH (by rw[hV];exact HOo.out);have HBv:=aH (after HB2.out hT);have HCv3:=aH (HCc.out.next hT);have HRv:=aH (HR2.out.next hT);have hS0:=HcS.out V hT;clear HcS;refine aS (S:=fun v'=>v'.cell? ⟨Y,4,none⟩=some (.slice (some ⟨g,0,none⟩) n n)/\v'.cell? ⟨X2,0,none⟩=some (.int .i64 (ks:Int))/\v'.cell? ⟨g,ks,none⟩=some (.int .i64 (j:Int))/\v'.cell? ⟨pb,po+j,none⟩=some (.int .u64 pv)/\v'.cell? ⟨C,ks,none⟩=some (.int .i64 (cn:Int))) hV hS0 ?_;clear hV hT;have hz63:k+1<=maxLen:=by have:=HLT.out;have:=HVn.out;unfold maxLen;omega
   have hzby:(k+1)*8<=140737488355328:=by have:=HLT.out;have:=HVn.out;omega
   obtain⟨z,hz⟩:=aE (pv+((en+12*cn:Nat):Int));have hZ:IntKind.u64.wrap (pv+IntKind.u64.wrap (IntKind.i64.wrap ((en:Int)+IntKind.i64.wrap (12*(cn:Int)))))=z:=by
    rw[show IntKind.i64.wrap (12*(cn:Int))=12*(cn:Int)from by rw[IntKind.wrap_i64];omega,show IntKind.i64.wrap ((en:Int)+12*(cn:Int))=(en:Int)+12*(cn:Int)from by rw[IntKind.wrap_i64];omega,IntKind.wrap_u64,IntKind.wrap_u64,hz];omega
   obtain⟨W4,hW4⟩:=aE (V.alloc (.cells #[.int .u64 z] 26));have hb4:Below V.heap.size V W4:=by rw[hW4];exact aC _ _
   obtain ⟨v',W5,hr,ho,hgr,-⟩:=run_append_own (P:=Tryz.prog) W4 (C+1) 31 31 26 i0 (.int .u64 0) 1 8 Tryz.underlying31 hi hz0 hz1 hz2 rfl (by decide) (.slice a k c) k ((R.take k).flatMap encU) (by rw [hW4];exact HOv.out.alloc _) ⟨V.heap.size,0,none⟩ 1 1 [.int .u64 z] rfl (by rw [hW4];exact cell_one_new _ _ _) (Pl.one_one z) hz63 hzby (by have h1:=lt_of_block HCv3.out;have:=hb4.size;omega);obtain⟨a',c',rfl⟩:∃a' c',v'=.slice a' (k+1) c':=by
    rcases ho.2 with⟨h,h0⟩|⟨g,cap,cur,h,-⟩
    ·omega
    ·exact⟨_,_,h⟩
   have hRt:R.take (k+1)=R.take k++ [z]:=by rw[List.take_add_one,HRk.out,<-hz];rfl
   have hfar:∀b,b<=X2->(b<C+1\/b=X2)->some b≠(Value.slice a k c).ownBlock:=fun b hb hb2 e=>by have:=HOl.out b e.symm;omega
   have HB5:Hid (Below w.heap.size w W5):=aH ((after HBv.out hb4).grown hgr (after HBv.out hb4).size (fun jb hjb=>by have:=HOl.out jb hjb;have:=HX2w.out;omega));have HC5:Hid (RB W5 C (iJ (fO n (v.take k))) 3):=aH ((hgr.block C (lt_of_block (HCv3.out.next hb4)) (hfar C (by have:=HX2w.out;omega) (.inl (by omega)))).trans (HCv3.out.next hb4));have HR5:Hid (RB W5 X2 #[.int .i64 (ks:Int),.int .i64 tt,.int .i64 ad] 80):=aH ((hgr.block X2 (lt_of_block (HRv.out.next hb4)) (hfar X2 (Nat.le_refl _) (.inr rfl))).trans (HRv.out.next hb4));have HO5:Hid (W5.ownsRow (C+1) 26 1 (.slice a' (k+1) c') (k+1) ((R.take (k+1)).flatMap encU)):=aH (by rw[hRt,List.flatMap_append];exact ho);have hS4:=HSc.out W4 (after HBv.out hb4) (HCv3.out.next hb4) (HRv.out.next hb4);have hS5:=HSc.out W5 HB5.out HC5.out HR5.out;have x5:W5.cell? ⟨X2,0,none⟩=some (.int .i64 (ks:Int)):=HR5.out.cell;have z5:W5.cell? ⟨C,ks,none⟩=some (.int .i64 (cn:Int)):=hS5.2.2.2.2;have f5:W5.frozen? ⟨C,ks,none⟩=false:=HC5.out.frozen;have HTk:Hid (v.take (k+1)=v.take k++ [((ks:Int),tt,ad)]):=aH (by rw[List.take_add_one,HXk.out];rfl);have HSn:Hid (VS n w (W5.setCell ⟨C,ks,none⟩ (.int .i64 ((cn:Int)+1))) C (v.take (k+1)) (R.take (k+1)) a' (k+1) c'):=aH ⟨HB5.out.setCell (p:=⟨C,ks,none⟩) (by have:=HX2w.out;show w.heap.size<=C;omega) _,by
    have:=HC5.out.set (j:=ks) (.int .i64 ((cn:Int)+1));rw[sD,HCn.out,oC (x:=((ks:Int),tt,ad)) rfl HKn.out.1,<-HTk.out]at this;rw[HCn.out];exact this,ownsRow_setCell_below HO5.out (by show C<C+1;omega) _⟩
   clear hz hz63 hzby hb4 ho hgr hRt hfar;iterate 15 refine aN _ rfl hS0 ?_
   refine aI 16 _ rfl hS0 ?_;refine aI 17 _ rfl hS0 ?_;refine aI 18 _ rfl hS0 ?_;refine aI 19 _ rfl hS0 ?_;refine aI 20 _ rfl hS0 ?_;refine aI 21 _ rfl hS0 ?_;refine rd 15 rfl (fun K hK=>?_);go_simp;go_wp2_with (go_at_call 56;refine(HEnd.out V ks HBv.out HKn.out.1 HKn.out.2).mono ?_;rintro e u ⟨rfl,rfl⟩;rw[<-HEn.out])
   refine hK.out _ _ hS0 (fun hX9=>?_);clear hK K hX9;iterate 3 refine aN _ rfl hS0 ?_
   refine rd 25 rfl (fun K hK=>?_);go_simp;rw[<-hW4];refine hK.out _ _ hS4 (fun hX9=>?_);clear hK K hX9;refine rd 26 rfl (fun K hK=>?_);refine step_run rfl _ _ 31 rfl _ _ (by rfl) (by rfl) hr ?_;refine hK.out _ _ hS5 (fun hX9=>?_);clear hK K hX9;refine rd 27 rfl (fun K hK=>?_);go_simp;refine hK.out _ _ hS5 (fun hX9=>?_);clear hK K hX9;refine wpAnyH_done (by kernel_rfl) ?_ _;clear hS0 hS4 hS5 hr hZ hW4;go_wp2;go_roundw
   case rel=>exact⟨k+1,_,_,_,rfl,by have:=HLT.out;omega,rfl,by rw[HWk.out];go_num,HSn⟩
   case measure=>exact fX HLT.out HWk.out
  ·obtain rfl:vn=k:=by omega
   have hge:¬(vn:Int)<(vn:Int):=by omega
   have HE:Hid (R.take vn=R):=aH (by rw[<-HRl.out,List.take_length]);clear hk hlt;go_wp2;go_ret;have ho:=HS.out.oo;rw[HE.out]at ho;refine⟨a,c,by rw[HRl.out];rfl,?_,HS.out.bb⟩;rw[HRl.out];exact oX ho (by have:=HCe.out;omega)
end
end Go.Proofs.YtiohgaghmnpplaaGreatDoor
