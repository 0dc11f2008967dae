/- veneer: rounds, which keeps its state in memory of its own. veneer: a range over rounds; Plan. -/
import Derived.Test.YtiohgaghmnpplaaGreatDoorqA
import Derived.Test.YtiohgaghmnpplaaGreatDoorx4
import Derived.Test.YtiohgaghmnpplaaGreatDoorw1
import Derived.RangeFuncNested
import Derived.RangeFuncBound
import Derived.RangeFuncCalls
import Derived.RangeFuncLeaves
import Derived.Shelf.Abstract
import Derived.Shelf.RegionOpen
import Derived.OwnWalkIn
import Derived.TacticsInMore
import Derived.LoopNIn
import Derived.LoopIn
import Derived.Laws.EntriesVeiled
set_option maxRecDepth 100000
set_option maxHeartbeats 3000000
set_option linter.unusedVariables false
set_option linter.unusedSimpArgs false
namespace Go.Proofs.YtiohgaghmnpplaaGreatDoor
open Go.ChangeShapes Go.WideShapes Go.Deep Go.RowKit Go.Shelf
open Go.Proofs.YtiohgaghmnpplaaGreatDoor.Pl (encU encU_len)
attribute [local go_sem] Oper.semAt_some
structure YK (H l B:Nat)(W W':World):Prop where
 os:W'.os=W.os
 tape:W'.tape=W.tape
 output:W'.output=W.output
 size:W.heap.size<=W'.heap.size
 block:∀j,j<H->j≠l->j≠B->W'.heap[j]?=W.heap[j]?
theorem YK.refl (H l B:Nat)(W:World):YK H l B W W:=⟨rfl,rfl,rfl,Nat.le_refl _,fun _ _ _ _=>rfl⟩
theorem YK.trans {H l B:Nat}{a b c:World}(h:YK H l B a b)(k:YK H l B b c):YK H l B a c:=
 ⟨k.os.trans h.os,k.tape.trans h.tape,k.output.trans h.output,Nat.le_trans h.size k.size,fun j a b c=>(k.block j a b c).trans (h.block j a b c)⟩
theorem YK.mono {H H' l B:Nat}{a b:World}(h:YK H l B a b)(hH:H'<=H):YK H' l B a b:=⟨h.os,h.tape,h.output,h.size,fun j x y z=>h.block j (by omega) y z⟩
theorem YK.of {H l B:Nat}{a b:World}(h:Below H a b):YK H l B a b:=⟨h.os,h.tape,h.output,h.size,fun j x _ _=>h.block j x⟩
theorem YK.below {H l B n:Nat}{a b:World}(h:YK H l B a b)(h1:n<=l)(h2:n<=B)(h3:n<=H):Below n a b:=⟨h.os,h.tape,h.output,h.size,fun j hj=>h.block j (by omega) (by omega) (by omega)⟩
theorem YK.rb {H l B X:Nat}{a b:World}{cs:Array Value}{T:TypeId}(h:YK H l B a b)(hr:RB a X cs T)(h1:X<H)(h2:X≠l)(h3:X≠B):RB b X cs T:=(h.block X h1 h2 h3).trans hr
theorem YK.own {H l B n q c sz:Nat}{e:TypeId}{xs:List Value}{ad:Option Addr}{a b:World}(h:YK H l B a b)(ho:a.ownsRow n e sz (.slice ad q c) q xs)(h0:a.heap.size<=H)(h1:l<n)(h2:B<n):b.ownsRow n e sz (.slice ad q c) q xs:=by
 obtain⟨h3,h4⟩:=ho;refine⟨h3,?_⟩;rcases h4 with h4|⟨g,cap,cur,e1,e2,e3,e4⟩
 ·exact .inl h4
 ·exact .inr ⟨g,cap,cur,e1,e2,(h.block g (by have:=lt_of_block e3;omega) (by omega) (by omega)).trans e3,e4⟩
structure RDy (p:Yp)(L:List Nat)(w u:World)(Y g Yb Ob:Nat)(o:Array Value):Prop where
 bb:Below w.heap.size w u
 yd:YD p L u Y g
 yb:RB u Yb #[.pointer (some ⟨Y,0,none⟩)] 62
 ob:RB u Ob o 28
theorem RDy.next {p:Yp}{L:List Nat}{w u v:World}{Y g Yb Ob:Nat}{o:Array Value}(h:RDy p L w u Y g Yb Ob o)(hb:Below u.heap.size u v):RDy p L w v Y g Yb Ob o:=
 ⟨after h.bb hb,h.yd.next hb,h.yb.next hb,h.ob.next hb⟩
theorem RDy.yk {p:Yp}{L:List Nat}{w u v:World}{Y g Yb Ob H l B:Nat}{o:Array Value}(h:RDy p L w u Y g Yb Ob o)(hk:YK H l B u v)(h1:w.heap.size<=l)(h2:w.heap.size<=B)(h3:w.heap.size<=H)(h4:Y<H/\g<H/\Yb<H/\Ob<H)(h5:Y≠l/\g≠l/\Yb≠l/\Ob≠l)(h6:Y≠B/\g≠B/\Yb≠B/\Ob≠B):RDy p L w v Y g Yb Ob o:=
 ⟨h.bb.trans (hk.below h1 h2 h3),⟨hk.rb h.yd.yy h4.1 h5.1 h6.1,hk.rb h.yd.gg h4.2.1 h5.2.1 h6.2.1⟩,hk.rb h.yb h4.2.2.1 h5.2.2.1 h6.2.2.1,hk.rb h.ob h4.2.2.2 h5.2.2.2 h6.2.2.2⟩
section
variable (S:List Sc) (L:List Nat) (align rep:List Int) (t d r:Int)
def qW (v:List Vn):List Vn:=gJ S L (bF S L align t d v) rep r v
def iH (j:Nat):List Vn:=jO (qW S L align rep t d r) j
def atAt:Nat->List Int
 |0=>[]
 |j+1=>bF S L align t d (iH S L align rep t d r j)
def veAt:Nat->List Int
 |0=>[]
 |j+1=>kS S L (bF S L align t d (iH S L align rep t d r j)) (iH S L align rep t d r j)
def kL:List Vn:=(fF S L).map (fun c=>eM rep c.1 c.2)
end
section
variable {S:List Sc} {L:List Nat} {align rep:List Int} {t d r:Int}
theorem nH (v:List Vn):(qW S L align rep t d r v).Nodup/\∀x∈qW S L align rep t d r v,x∉v/\x∈kL S L rep:=by
 obtain⟨h1,h2,-⟩:=wants_inv S L (bF S L align t d v) rep r v;exact⟨h1,h2⟩
theorem vAt_ok (j:Nat):(iH S L align rep t d r j).Nodup/\∀x∈iH S L align rep t d r j,x∈kL S L rep:=rC nH j
theorem qP (h:iT S rep L align):(kL S L rep).length<=16384:=by
 unfold kL;rw[List.length_map];have h1:=callsL_le (S:=S) L (fun a ha=>by obtain⟨s,h1,-,h2,-⟩:=h.inn a ha;unfold bZ;rw[h1];exact h2);have:=h.n256;omega
theorem rE (h:iT S rep L align)(j:Nat):(iH S L align rep t d r j).length<=16384:=Nat.le_trans (vens_len nH j) (qP h)
theorem oN (h:iT S rep L align)(j:Nat):aX S L [] (iH S L align rep t d r j)=true:=calls_right h (vAt_ok j).1 (vAt_ok j).2
theorem vAt_good (hc:∀a∈L,∀f∈bZ S a,cR (eM rep a f))(j:Nat):∀x∈iH S L align rep t d r j,cR x:=by
 intro x hx;obtain⟨c,h1,rfl⟩:=List.mem_map.1 ((vAt_ok j).2 x hx);obtain⟨c1,-,c3,-⟩:=lZ.1 h1;exact hc _ c1 _ c3
def EndsAt (S:List Sc)(L:List Nat)(align rep:List Int)(t d r:Int)(m:Nat):Prop:=qW S L align rep t d r (iH S L align rep t d r m)=[]/\∀i,i<m->qW S L align rep t d r (iH S L align rep t d r i)≠ []
theorem ends_one {m m':Nat}(h:EndsAt S L align rep t d r m)(h':EndsAt S L align rep t d r m'):m=m':=by
 rcases Nat.lt_trichotomy m m' with c|c|c
 ·exact absurd h.1 (h'.2 m c)
 ·exact c
 ·exact absurd h'.1 (h.2 m' c)
end
def PlanV (S:List Sc)(L:List Nat)(align rep:List Int)(t d r:Int)(H:Nat)(x:Value)(u:World):Prop:=∃(m:Nat) (aA:Option Addr) (nA cA:Nat) (aV:Option Addr) (nV cV:Nat) (aW:Option Addr) (nW cW:Nat),
 EndsAt S L align rep t d r m/\x=.agg #[.slice aA nA cA,.slice aV nV cV,.slice aW nW cW,.int .i64 ((m+1:Nat):Int)]/\
 u.ownsRow H 26 1 (.slice aA nA cA) nA ((bF S L align t d (iH S L align rep t d r m)).flatMap encU)/\u.ownsRow H 80 3 (.slice aV nV cV) nV ((iH S L align rep t d r m).flatMap gB)/\
 u.ownsRow H 26 1 (.slice aW nW cW) nW ((kS S L (bF S L align t d (iH S L align rep t d r m)) (iH S L align rep t d r m)).flatMap encU)
structure RSy (S:List Sc)(L:List Nat)(align rep:List Int)(t d r:Int)(u:World)(P j:Nat)(aA:Option Addr)(nA cA:Nat)(aV:Option Addr)(nV cV:Nat)(aW:Option Addr)(nW cW:Nat):Prop where
 pp:RB u P #[.slice aA nA cA,.slice aV nV cV,.slice aW nW cW,.int .i64 (j:Int)] 44
 oA:u.ownsRow (P+1) 26 1 (.slice aA nA cA) nA ((atAt S L align rep t d r j).flatMap encU)
 oV:u.ownsRow (P+1) 80 3 (.slice aV nV cV) nV ((iH S L align rep t d r j).flatMap gB)
 oW:u.ownsRow (P+1) 26 1 (.slice aW nW cW) nW ((veAt S L align rep t d r j).flatMap encU)
def oP (P:Nat)(w:World):Nat:=match w.cell? ⟨P,3,none⟩with
 |some (.int _ n)=>n.toNat
 |_=>0
theorem own_grown {w w':World}{n q c sz:Nat}{e:TypeId}{xs:List Value}{ad:Option Addr}{row:Option Nat}(h:w.ownsRow n e sz (.slice ad q c) q xs)(hg:w.grownBy w' row)(hr:∀j,row=some j->j<n):w'.ownsRow n e sz (.slice ad q c) q xs:=by
 refine⟨h.1,?_⟩;rcases h.2 with h4|⟨g,cap,cur,e1,e2,e3,e4⟩
 ·exact .inl h4
 ·exact .inr ⟨g,cap,cur,e1,e2,(hg.block g (lt_of_block e3) (fun h9=>by have:=hr g h9.symm;omega)).trans e3,e4⟩
theorem YK.set (H P j:Nat)(A:World)(v:Value):YK H P P A (A.setCell ⟨P,j,none⟩ v):=
 ⟨by simp[World.setCell],by simp[World.setCell],by simp[World.setCell],by simp[World.setCell],fun k _ h _=>Below.heap_setCell A ⟨P,j,none⟩ v k h⟩
theorem own_set {w:World}{P j q c sz:Nat}{e:TypeId}{xs:List Value}{ad:Option Addr}{n:Nat}(v:Value)(h:w.ownsRow n e sz (.slice ad q c) q xs)(hn:P<n):(w.setCell ⟨P,j,none⟩ v).ownsRow n e sz (.slice ad q c) q xs:=
 (YK.set w.heap.size P j w v).own h (Nat.le_refl _) hn hn
theorem app_vens {w:World}{B n c m c2:Nat}{xs ys:List Vn}{a b:Option Addr}(hown:w.ownsRow B 80 3 (.slice a n c) n (xs.flatMap gB))(hs:SL gB 3 w w.heap.size b m ys)(hz:b=none->m=0/\c2=0)(hn:n<=100000)(hm:m<=100000)(hB:B<=w.heap.size)(ty:TypeId):
  ∃a' c' w',(Builtin.append_ #[29,29] ty #[.slice a n c,.slice b m c2]).run Tryz.prog w=.ok (.slice a' (n+m) c') w'/\w'.ownsRow B 80 3 (.slice a' (n+m) c') (n+m) ((xs++ys).flatMap gB)/\w.grownBy w' (Value.slice a n c).ownBlock/\(b=none->w'=w):=by
 obtain⟨i0,hi,hi0,hi1,hi2⟩:=info_parts info_vn;have hfl:(ys.flatMap gB).length=m*3:=by rw[nZ pX,hs.len]
 cases b with
 |none=>
  obtain⟨rfl,rfl⟩:=hz rfl;have hy:ys=[]:=by have:=hs.len;cases ys with|nil=>rfl|cons=>simp at this
  subst hy;exact⟨a,c,w,run_append_owned_none w B 29 ty 80 i0 3 Tryz.underlying29 hi _ n _ hown,by simpa using hown,⟨rfl,rfl,rfl,Nat.le_refl _,fun _ _ _=>rfl⟩,fun _=>rfl⟩
 |some ad=>
  obtain ⟨v',w',hr,ho,hgr,hf⟩:=run_append_own (P:=Tryz.prog) w B 29 ty 80 i0 _ 3 24 Tryz.underlying29 hi hi0 hi1 hi2 rfl (by decide) _ n _ hown ad m c2 (ys.flatMap gB) hfl (hs.news pX (by decide)) (by
   intro u hu;obtain⟨b,-,hb⟩:=List.mem_flatMap.1 hu;exact vn_ones b u hb) (by unfold maxLen;omega) (by omega) hB
  rw[<-List.flatMap_append]at ho;obtain⟨a',c',rfl⟩:∃a' c',v'=.slice a' (n+m) c':=by
   rcases ho.2 with⟨h,h0⟩|⟨g,cap,cur,h,-⟩
   ·exact⟨none,0,by rw[h,h0]⟩
   ·exact⟨_,_,h⟩
  exact⟨a',c',w',hr,ho,hgr,fun h=>by cases h⟩
theorem app_listIn {F:Fence}{n:Nat}{w:World}{ops:Array Oper}{rest:List Oper}{o:Oper}{a:Act}{Q:Exit->Act->World->Prop}(hgd:o.guard=none)(s x:Operand)(t:TypeId)
  (ho:o.op=.call { callee:=.builtin .append,args:=#[s,x],argTypes:=#[t,t] }) (sv xv:Value) (hs:a.eval s=sv) (hx:a.eval x=xv) {v':Value} {w':World}
  (hr:(Builtin.append_ #[t,t] o.type #[sv,xv]).run Tryz.prog w=.ok v' w') (h:wpListIn F n Tryz.prog ops Q rest (a.put o.dst v') w'):wpListIn F n Tryz.prog ops Q (o :: rest) a w:=
 wpListIn_plain hgd fun K hK=>by
  unfold Oper.wpIn;refine⟨?_,?_⟩
  ·simp[Oper.about,ho,resolve,Target.leads,Sem.run_pure]
  ·rw[Oper.semAt_plain F _ _ (by rw[ho];intro c hc';cases hc')];simp[execOp,ho,resolve,invoke,builtin,hs,hx,hr,Result.andThen];exact hK _ _ h
structure RBy (S:List Sc)(L:List Nat)(align rep:List Int)(t d r:Int)(H j:Nat)(bb:Bool)(x:Value)(u:World):Prop where
 on:bb=true->∀i,i<j->qW S L align rep t d r (iH S L align rep t d r i)≠ []
 off:bb=false->PlanV S L align rep t d r H x u
theorem qC {P j:Nat}{w:World}{x y z:Value}{T:TypeId}(h:RB w P #[x,y,z,.int .i64 (j:Int)] T):oP P w=j:=by
 unfold oP;rw[h.cell];simp
def IsPl (x:Value):Prop:=∃(aA:Option Addr) (nA cA:Nat) (aV:Option Addr) (nV cV:Nat) (aW:Option Addr) (nW cW:Nat) (k:Int),x=.agg #[.slice aA nA cA,.slice aV nV cV,.slice aW nW cW,.int .i64 k]
theorem rounds1_in (n:Nat)(p:Yp)(S:List Sc)(rep:List Int)(L:List Nat)(align:List Int)(Y g Yb Ob l Bl:Nat)(t d st r:Int)(w W:World)(Lm:List Ms)
  (hRD:RDy p L w W Y g Yb Ob (fV t d st r)) (hQ:iT S rep L align) (hn:p.n<=256) (hL:∀x∈L,x<p.n) (hSe:S=Lm.map (·.sc)) (hms:SL mX 6 w w.heap.size p.ua p.n Lm) (hno:iQ w w.heap.size Lm) (hgr:∀m∈Lm,∀r∈m.sc.rels,jN r)
  (hla:SL dT 1 w w.heap.size p.la p.ln (L.map Int.ofNat)) (haa:SL dT 1 w w.heap.size p.aa p.an align) (hrp:SL dT 1 w w.heap.size p.ra p.rn rep) (hsy:∀k∈L,∀f∈bZ S k,0<=f.sym/\∃z,rep[f.sym.toNat]?=some z) (hgc:∀a∈L,∀f∈bZ S a,cR (eM rep a f))
  (t0:0<=t) (t1:t<=4611686018427387904) (d0:0<=d) (d1:d<=4611686018427387904) (hr0:cS r)
  (hl1:w.heap.size<=l) (hl2:l<W.heap.size) (hb1:w.heap.size<=Bl) (hb2:Bl<W.heap.size) (hY1:Y≠l/\g≠l/\Yb≠l/\Ob≠l) (hY2:Y≠Bl/\g≠Bl/\Yb≠Bl/\Ob≠Bl)
  (J:Value->World->Prop) (hJ:∀x A B,J x A->Below W.heap.size A B->J x B)
  (hY:∀x0 x A,IsPl x->W.heap.size<=A.heap.size->J x0 A->YieldAt Fence.wide (n-1) Tryz.prog l #[x] A fun e B=>e=.returned (.bool true)/\J x B/\YK A.heap.size l Bl A B) (x0:Value) (h0:J x0 W):
  CallsIn Fence.wide n Tryz.prog 71 #[.func (.yield l) #[] #[],.pointer (some ⟨Yb,0,none⟩),.pointer (some ⟨Ob,0,none⟩)] W fun e W'=>(∃v,e=.returned v)/\∃x,J x W'/\PlanV S L align rep t d r W.heap.size x W'/\Below w.heap.size w W':=by
 have HLay:Hid (∀(u:World) (va:Option Addr) (vn vc j:Nat),RDy p L w u Y g Yb Ob (fV t d st r)->SL gB 3 u u.heap.size va vn (iH S L align rep t d r j)->Calls Tryz.prog 28 #[.pointer (some ⟨Y,0,none⟩),.agg (fV t d st r),.slice va vn vc] u (TwoU (bF S L align t d (iH S L align rep t d r j)) (kS S L (bF S L align t d (iH S L align rep t d r j)) (iH S L align rep t d r j)) u)):=
  aH fun u va vn vc j hu hv=>yLay_any p S rep L align Y g t d st r va vn vc _ u ⟨hu.yd,hn,hL,⟨Lm,hSe,hms.next hu.bb⟩,hla.next hu.bb,haa.next hu.bb⟩ hQ hv (oN hQ j) (by have:=hv.len;have:=rE (t:=t) (d:=d) (r:=r) hQ j;omega) t0 t1 d0 d1
 have HWan:Hid (∀(u:World) (va:Option Addr) (vn vc:Nat) (pa:Option Addr) (pn pc j:Nat),RDy p L w u Y g Yb Ob (fV t d st r)->SL gB 3 u u.heap.size va vn (iH S L align rep t d r j)->SL encU 1 u u.heap.size pa pn (bF S L align t d (iH S L align rep t d r j))->Calls Tryz.prog 31 #[.pointer (some ⟨Y,0,none⟩),.agg (fV t d st r),.slice va vn vc,.slice pa pn pc] u (RowV (qW S L align rep t d r (iH S L align rep t d r j)) u)):=
  aH fun u va vn vc pa pn pc j hu hv hP=>yWants_any p S rep L align Y g t d st r va vn vc _ pa pn pc _ u ⟨hu.yd,hn,hL,⟨Lm,hSe,hms.next hu.bb⟩,hla.next hu.bb,haa.next hu.bb⟩ hQ hv (vAt_ok j).1 (vAt_good hgc j) (by have:=hv.len;have:=rE (t:=t) (d:=d) (r:=r) hQ j;omega) Lm hSe (hms.next hu.bb) (hno.next hu.bb) hgr (hrp.next hu.bb) hP hsy (iX S L align t d _ hQ.al) (lR hQ (gZ.1 (oN hQ j)).2.2 t0 t1 d0 d1) hr0
 have HC:Hid (∀j,(∀i,i<j->qW S L align rep t d r (iH S L align rep t d r i)≠ [])->j<=(kL S L rep).length):=aH fun j h=>vens_ends nH j h
 have HCl:Hid ((kL S L rep).length<=16384):=aH (qP hQ);have HVl:Hid (∀j,(iH S L align rep t d r j).length<=16384):=aH (rE hQ);have HRD:=aH hRD;have HJ:=aH hJ;have HY:=aH hY;have HB:=aH (And.intro (And.intro hl1 hl2) (And.intro hb1 hb2));have HY1:=aH hY1;have HY2:=aH hY2;have H0:=aH h0;clear hRD hQ hn hL hSe hms hno hgr hla haa hrp hsy hgc t0 t1 d0 d1 hr0 hl1 hl2 hb1 hb2 hY1 hY2 hJ hY h0;obtain⟨P,hP⟩:=aE W.heap.size;obtain⟨W1,hW1⟩:=aE (W.alloc (.cells #[.slice none 0 0,.slice none 0 0,.slice none 0 0,.int .i64 0] 44));have hb:=aC W (.cells #[.slice none 0 0,.slice none 0 0,.slice none 0 0,.int .i64 0] 44);have HS0:Hid (RSy S L align rep t d r W1 P 0 none 0 0 none 0 0 none 0 0):=aH ⟨by rw[hW1,hP];exact aQ _ _ _,World.ownsRow_nil _ _ _ _,World.ownsRow_nil _ _ _ _,World.ownsRow_nil _ _ _ _⟩;have HR0:Hid (RDy p L w W1 Y g Yb Ob (fV t d st r)):=aH (by rw[hW1];exact HRD.out.next hb);have HJ0:Hid (J x0 W1):=aH (by rw[hW1];exact HJ.out _ _ _ H0.out hb);have HPl:Hid (P=W.heap.size/\P<W1.heap.size):=aH ⟨hP,by rw[hW1,World.size_alloc];omega⟩;have HWe:=aH hW1.symm;have HPe:=aH hP.symm;clear hb hP hW1;refine callsIn_of_wp Tryz.func71 rfl trivial ?_ rfl;simp only[Tryz.ntmps71,List.size_toArray,List.length_cons,List.length_nil,Nat.reduceAdd,Nat.reduceSub,Array.replicate_succ,Array.replicate_zero,List.push_toArray,List.append_toArray,List.nil_append,List.cons_append];gi_wp2_with fail;rw[HWe.out,HPe.out];gi_loopw [5] (fun b wr=>∃(j:Nat) (bb:Bool) (x:Value) (aA:Option Addr) (nA cA:Nat) (aV:Option Addr) (nV cV:Nat) (aW:Option Addr) (nW cW:Nat) (wx:World),wx=wr/\b=.bool bb/\Hid (RSy S L align rep t d r wx P j aA nA cA aV nV cV aW nW cW)/\Hid (RDy p L w wx Y g Yb Ob (fV t d st r))/\Hid (J x wx)/\Hid (W.heap.size<=wx.heap.size)/\Hid (RBy S L align rep t d r W.heap.size j bb x wx))
  (fun b wr=>match b with| .bool true=>(kL S L rep).length+1-oP P wr|_=>0)
 case atStart=>exact⟨0,true,x0,none,0,0,none,0,0,none,0,0,W1,rfl,rfl,HS0,HR0,HJ0,aH (by have:=HPl.out;omega),aH ⟨fun _ i hi=>absurd hi (Nat.not_lt_zero i),(fun h=>by cases h)⟩⟩
 case round=>
  clear HS0 HR0 HJ0;obtain⟨j,bb,x,aA,nA,cA,aV,nV,cV,aW,nW,cW,wx,rfl,rfl,HS,HR,HJx,HSz,HBy⟩:=hrel;cases bb
  ·gi_wp2;go_end0;exact⟨⟨_,rfl⟩,x,HJx.out,HBy.out.off rfl,HR.out.bb⟩
  ·have HOn:=aH (HBy.out.on rfl);have HjC:=aH (HC.out j HOn.out);have HWk:IntKind.i64.wrap ((j:Int)+1)=((j+1:Nat):Int):=by have:=HjC.out;have:=HCl.out;rw[IntKind.wrap_i64];omega
   have HWk2:wrap64 ((j:Int)+1)=((j+1:Nat):Int):=by have:=HjC.out;have:=HCl.out;unfold wrap64;omega
   have HPw:Hid (P<wx.heap.size):=aH (lt_of_block HS.out.pp);have HPn:Hid (w.heap.size<=P):=aH (by have h1:=HB.out;have h2:=HPl.out;omega);have HYw:Hid (Y<P/\g<P/\Yb<P/\Ob<P):=aH (by
    rw[HPl.out.1];exact⟨lt_of_block HRD.out.yd.yy,lt_of_block HRD.out.yd.gg,lt_of_block HRD.out.yb,lt_of_block HRD.out.ob⟩)
   obtain⟨j1,hj1⟩:=aE (j+1);have Hj1:=aH hj1;rw[<-hj1]at HWk HWk2;obtain⟨U1,hU1⟩:=aE (wx.setCell ⟨P,3,none⟩ (.int .i64 (j1:Int)));have hk1:YK wx.heap.size P P wx U1:=by rw[hU1];exact YK.set _ _ _ _ _
   have hs1:RB U1 P #[.slice aA nA cA,.slice aV nV cV,.slice aW nW cW,.int .i64 (j1:Int)] 44:=by rw[hU1];exact HS.out.pp.set (j:=3) _
   have HS1:Hid (RB U1 P #[.slice aA nA cA,.slice aV nV cV,.slice aW nW cW,.int .i64 (j1:Int)] 44):=aH hs1;have HO1:Hid (U1.ownsRow (P+1) 80 3 (.slice aV nV cV) nV ((iH S L align rep t d r j).flatMap gB)):=aH (hk1.own HS.out.oV (Nat.le_refl _) (by omega) (by omega));have HR1:Hid (RDy p L w U1 Y g Yb Ob (fV t d st r)):=aH (HR.out.yk hk1 HPn.out HPn.out (by have:=HPn.out;have:=HPw.out;omega) (by have:=HYw.out;have:=HPw.out;omega) (by have:=HYw.out;omega) (by have:=HYw.out;omega));have HJ1:Hid (J x U1):=aH (HJ.out _ _ _ HJx.out (by rw[hU1];exact((Below.refl _ wx).setCell (p:=⟨P,3,none⟩) (by rw[HPl.out.1];exact Nat.le_refl _) _)));have HSz1:Hid (W.heap.size<=U1.heap.size):=aH (Nat.le_trans HSz.out hk1.size);obtain⟨aV',cV',e9,hvs,hvn⟩:=SL.ofOwns pX (by decide) HO1.out;injection e9 with e1 e2 e3
   subst e1;subst e3;have HLy:=aH (HLay.out U1 aV nV cV j HR1.out hvs);have HnV:Hid (nV=(iH S L align rep t d r j).length):=aH hvs.len;have p3:wx.cell? ⟨P,3,none⟩=some (.int .i64 (j:Int)):=HS.out.pp.cell;have q3:wx.frozen? ⟨P,3,none⟩=false:=HS.out.pp.frozen;have y0:U1.cell? ⟨Yb,0,none⟩=some (.pointer (some ⟨Y,0,none⟩)):=HR1.out.yb.cell;have o0:U1.cell? ⟨Ob,0,none⟩=some (.int .u64 t):=HR1.out.ob.cell;have o1:U1.cell? ⟨Ob,1,none⟩=some (.int .u64 d):=HR1.out.ob.cell;have o2:U1.cell? ⟨Ob,2,none⟩=some (.int .u64 st):=HR1.out.ob.cell;have o3:U1.cell? ⟨Ob,3,none⟩=some (.int .i64 r):=HR1.out.ob.cell;have p1:U1.cell? ⟨P,1,none⟩=some (.slice aV nV cV):=HS1.out.cell;rw[hU1]at y0 o0 o1 o2 o3 p1;have HU1e:=aH hU1.symm;clear hj1 hk1 hs1 hvs hvn hU1 e2;gi_wp2_with fail;refine⟨trivial,(fun h=>by cases h),?_⟩;rw[HU1e.out];refine(callsIn_wide.2 HLy.out).mono ?_;rintro e u2 ⟨a2,c2,a3,c3,rfl,ho2,ho3,hap,hb2⟩;obtain⟨R2,hR2⟩:=aE (bF S L align t d (iH S L align rep t d r j));obtain⟨V2,hV2⟩:=aE (kS S L R2 (iH S L align rep t d r j));rw[<-hR2]at ho2 ho3 hap;rw[<-hV2]at ho3 hap;rw[<-hR2,<-hV2];obtain⟨n2,hn2⟩:=aE R2.length;obtain⟨n3,hn3⟩:=aE V2.length;rw[<-hn2]at ho2 hap⊢;rw[<-hn3]at ho3 hap⊢;have HRe:=aH hR2;have HVe:=aH hV2;have HPU:Hid (P<U1.heap.size):=aH (lt_of_block HS1.out);have hs2:=HS1.out.next hb2;obtain⟨U3,hU3⟩:=aE ((u2.setCell ⟨P,0,none⟩ (.slice a2 n2 c2)).setCell ⟨P,2,none⟩ (.slice a3 n3 c3));have hk3:YK u2.heap.size P P u2 U3:=by rw[hU3];exact(YK.set _ _ _ _ _).trans (YK.set _ _ _ _ _)
   have HS3:Hid (RB U3 P #[.slice a2 n2 c2,.slice aV nV cV,.slice a3 n3 c3,.int .i64 (j1:Int)] 44):=aH (by
    rw[hU3];have h0:RB (u2.setCell ⟨P,0,none⟩ (.slice a2 n2 c2)) P #[.slice a2 n2 c2,.slice aV nV cV,.slice aW nW cW,.int .i64 (j1:Int)] 44:=hs2.set (j:=0) _;exact h0.set (j:=2) _)
   have HA3:Hid (U3.ownsRow U1.heap.size 26 1 (.slice a2 n2 c2) n2 (R2.flatMap encU)):=aH (hk3.own ho2 (Nat.le_refl _) HPU.out HPU.out);have HW3:Hid (U3.ownsRow U1.heap.size 26 1 (.slice a3 n3 c3) n3 (V2.flatMap encU)):=aH (hk3.own ho3 (Nat.le_refl _) HPU.out HPU.out);have HO3:Hid (U3.ownsRow (P+1) 80 3 (.slice aV nV cV) nV ((iH S L align rep t d r j).flatMap gB)):=aH (hk3.own (Pl.own_next HO1.out hb2) (Nat.le_refl _) (by omega) (by omega));have HR3:Hid (RDy p L w U3 Y g Yb Ob (fV t d st r)):=aH ((HR1.out.next hb2).yk hk3 HPn.out HPn.out (by have:=HPn.out;have:=HPU.out;have:=hb2.size;omega) (by have:=HYw.out;have:=HPU.out;have:=hb2.size;omega) (by have:=HYw.out;omega) (by have:=HYw.out;omega));have HJ3:Hid (J x U3):=aH (HJ.out _ _ _ HJ1.out (by
    rw[hU3];exact(((hb2.mono HSz1.out).setCell (p:=⟨P,0,none⟩) (by rw[HPl.out.1];exact Nat.le_refl _) _).setCell (p:=⟨P,2,none⟩) (by rw[HPl.out.1];exact Nat.le_refl _) _)))
   have HSz3:Hid (W.heap.size<=U3.heap.size):=aH (Nat.le_trans (Nat.le_trans HSz1.out hb2.size) hk3.size);have HBV:Hid (∀k,(Value.slice aV nV cV).ownBlock=some k->k<U1.heap.size):=aH fun k hk=>(HO1.out.lt k hk).2
   have HXg:Hid (U1.heap.size<=U3.heap.size):=aH (Nat.le_trans hb2.size hk3.size);obtain⟨xx,hxx⟩:=aE (Value.agg #[.slice a2 n2 c2,.slice aV nV cV,.slice a3 n3 c3,.int .i64 (j1:Int)]);obtain⟨fn,tmps,assign,body,hy,hRo⟩:=HY.out x xx U3 ⟨_,_,_,_,_,_,_,_,_,_,hxx⟩ HSz3.out HJ3.out;have HRo:=aH hRo;have HXX:=aH hxx;have hy2:(Instr.yield l #[.agg #[.slice a2 n2 c2,.slice aV nV cV,.slice a3 n3 c3,.int .i64 (j1:Int)]]).run Tryz.prog U3=.ok (.round l fn tmps assign body) U3:=by rw[<-hxx];exact hy
   have b0:u2.frozen? ⟨P,0,none⟩=false:=hs2.frozen;have b2:(u2.setCell ⟨P,0,none⟩ (.slice a2 n2 c2)).frozen? ⟨P,2,none⟩=false:=by
    have h0:RB (u2.setCell ⟨P,0,none⟩ (.slice a2 n2 c2)) P #[.slice a2 n2 c2,.slice aV nV cV,.slice aW nW cW,.int .i64 (j1:Int)] 44:=hs2.set (j:=0) _;exact h0.frozen
   have d0:u2.cell? ⟨P,0,none⟩=some (.slice aA nA cA):=hs2.cell;have d2:(u2.setCell ⟨P,0,none⟩ (.slice a2 n2 c2)).cell? ⟨P,2,none⟩=some (.slice aW nW cW):=by
    have h0:RB (u2.setCell ⟨P,0,none⟩ (.slice a2 n2 c2)) P #[.slice a2 n2 c2,.slice aV nV cV,.slice aW nW cW,.int .i64 (j1:Int)] 44:=hs2.set (j:=0) _;exact h0.cell
   have s0:U3.cell? ⟨P,0,none⟩=some (.slice a2 n2 c2):=HS3.out.cell;have s1:U3.cell? ⟨P,1,none⟩=some (.slice aV nV cV):=HS3.out.cell;have s2:U3.cell? ⟨P,2,none⟩=some (.slice a3 n3 c3):=HS3.out.cell;have s3:U3.cell? ⟨P,3,none⟩=some (.int .i64 (j1:Int)):=HS3.out.cell;rw[hU3]at s0 s1 s2 s3 hy2;have HU3e:=aH hU3.symm;clear hR2 hV2 hn2 hn3 ho2 ho3 hap hb2 hs2 hk3 hU3 hxx hy hRo p3 q3 y0 o0 o1 o2 o3 p1;gi_wp2_with fail;refine⟨(fun h=>by cases h),?_⟩;rw[HU3e.out];refine HRo.out.mono ?_;rintro e W3 ⟨rfl,hJ3,hk3⟩;have hPl:l<P/\Bl<P:=by have h1:=HB.out;have h2:=HPl.out;omega
   have hPU3:=lt_of_block HS3.out;have HSw:=aH (hk3.rb HS3.out hPU3 (by omega) (by omega));have HAw:=aH (hk3.own HA3.out (Nat.le_refl _) (by have:=HPU.out;omega) (by have:=HPU.out;omega));have HWw:=aH (hk3.own HW3.out (Nat.le_refl _) (by have:=HPU.out;omega) (by have:=HPU.out;omega));have HOw:=aH (hk3.own HO3.out (Nat.le_refl _) (by omega) (by omega));have HRw:=aH (HR3.out.yk hk3 HB.out.1.1 HB.out.2.1 (by have:=HPn.out;omega) (by have:=HYw.out;omega) HY1.out HY2.out);have HJw:=aH hJ3;have HSzw:Hid (U3.heap.size<=W3.heap.size):=aH hk3.size;obtain⟨aV',cV',e9,hvs,hvn⟩:=SL.ofOwns pX (by decide) HOw.out;injection e9 with e1 e2 e3
   subst e1;subst e3;obtain⟨a2',c2',e9,hps,hpn⟩:=SL.ofOwns encU_len (by decide) HAw.out;injection e9 with e4 e5 e6
   subst e4;subst e6;have HWn:=aH (HWan.out W3 aV nV cV a2 n2 c2 j HRw.out hvs (by rw[<-HRe.out];exact hps));have y0:W3.cell? ⟨Yb,0,none⟩=some (.pointer (some ⟨Y,0,none⟩)):=HRw.out.yb.cell;have o0:W3.cell? ⟨Ob,0,none⟩=some (.int .u64 t):=HRw.out.ob.cell;have o1:W3.cell? ⟨Ob,1,none⟩=some (.int .u64 d):=HRw.out.ob.cell;have o2:W3.cell? ⟨Ob,2,none⟩=some (.int .u64 st):=HRw.out.ob.cell;have o3:W3.cell? ⟨Ob,3,none⟩=some (.int .i64 r):=HRw.out.ob.cell;have p0:W3.cell? ⟨P,0,none⟩=some (.slice a2 n2 c2):=HSw.out.cell;have p1:W3.cell? ⟨P,1,none⟩=some (.slice aV nV cV):=HSw.out.cell;clear hJ3 hk3 hPU3 hvs hvn hps hpn e2 e5 s0 s1 s2 s3 b0 b2 d0 d2 hy2 HRo HWk HWk2;gi_wp2_with fail;refine⟨trivial,(fun h=>by cases h),?_⟩;refine(callsIn_wide.2 HWn.out).mono ?_;rintro e u4 ⟨a4,c4,rfl,ho4,hem,hb4⟩;have hs4:=HSw.out.next hb4;have hA4:=Pl.own_next HAw.out hb4;have hW4:=Pl.own_next HWw.out hb4;have hO4:=Pl.own_next HOw.out hb4;have hR4:=HRw.out.next hb4;have hJ4:=HJ.out _ _ _ HJw.out (hb4.mono (by have:=HSz3.out;have:=HSzw.out;omega));have hz4:U3.heap.size<=u4.heap.size:=Nat.le_trans HSzw.out hb4.size;have hz3:=HSz3.out;have hPU:=HPU.out;have hXg:=HXg.out;have hcj:=HjC.out;have hv1:iH S L align rep t d r j1=iH S L align rep t d r j++qW S L align rep t d r (iH S L align rep t d r j):=by rw[Hj1.out];rfl
   have ha1:atAt S L align rep t d r j1=R2:=by rw[Hj1.out,HRe.out];rfl
   have he1:veAt S L align rep t d r j1=V2:=by rw[Hj1.out,HVe.out,HRe.out];rfl
   by_cases hw:qW S L align rep t d r (iH S L align rep t d r j)=[]
   ·obtain⟨rfl,rfl⟩:=hem hw;have hq:(qW S L align rep t d r (iH S L align rep t d r j)).length=0:=by rw[hw];rfl
    obtain⟨i0,hi,hi0,hi1,hi2⟩:=info_parts info_vn;have HAp:=aH (run_append_owned_none u4 (P+1) 29 29 80 i0 3 Tryz.underlying29 hi (.slice aV nV cV) nV _ hO4);obtain⟨U5,hU5⟩:=aE (u4.setCell ⟨P,1,none⟩ (.slice aV nV cV));have hk5:YK u4.heap.size P P u4 U5:=by rw[hU5];exact YK.set _ _ _ _ _
    have hs5:RB U5 P #[.slice a2 n2 c2,.slice aV nV cV,.slice a3 n3 c3,.int .i64 (j1:Int)] 44:=by rw[hU5];exact hs4.set (j:=1) _
    have hA5:=hk5.own hA4 (Nat.le_refl _) hPU hPU;have hW5:=hk5.own hW4 (Nat.le_refl _) hPU hPU;have hO5:=hk5.own hO4 (Nat.le_refl _) (by omega) (by omega);have hJ5:J xx U5:=HJ.out _ _ _ hJ4 (by rw[hU5];exact((Below.refl _ u4).setCell (p:=⟨P,1,none⟩) (by rw[HPl.out.1];exact Nat.le_refl _) _));have HEnd:Hid (∃(j':Nat) (bb:Bool) (x:Value) (aA:Option Addr) (nA cA:Nat) (aV':Option Addr) (nV' cV':Nat) (aW:Option Addr) (nW cW:Nat) (wx:World),wx=U5/\Value.bool false=.bool bb/\Hid (RSy S L align rep t d r wx P j' aA nA cA aV' nV' cV' aW nW cW)/\Hid (RDy p L w wx Y g Yb Ob (fV t d st r))/\Hid (J x wx)/\Hid (W.heap.size<=wx.heap.size)/\Hid (RBy S L align rep t d r W.heap.size j' bb x wx)):=aH
     ⟨j1,false,xx,a2,n2,c2,aV,nV,cV,a3,n3,c3,U5,rfl,rfl,aH ⟨hs5,by rw[ha1];exact Pl.own_down hA5 (by omega),by rw[hv1,hw,List.append_nil];exact hO5,by rw[he1];exact Pl.own_down hW5 (by omega)⟩,
      aH (hR4.yk hk5 HPn.out HPn.out (by have:=HPn.out;omega) (by have:=HYw.out;omega) (by have:=HYw.out;omega) (by have:=HYw.out;omega)),aH hJ5,aH (by have:=hk5.size;omega),
      aH ⟨(fun h=>by cases h),fun _=>⟨j,a2,n2,c2,aV,nV,cV,a3,n3,c3,⟨hw,HOn.out⟩,by rw[HXX.out,Hj1.out],by rw[<-HRe.out];exact Pl.own_down hA5 (by have:=HPl.out;omega),Pl.own_down hO5 (by have:=HPl.out;omega),by rw[<-HRe.out,<-HVe.out];exact Pl.own_down hW5 (by have:=HPl.out;omega)⟩⟩⟩
    have HM:Hid (0<(kL S L rep).length+1-oP P wx):=aH (by rw[qC HS.out.pp];omega);have p1':u4.cell? ⟨P,1,none⟩=some (.slice aV nV cV):=hs4.cell;have q1':u4.frozen? ⟨P,1,none⟩=false:=hs4.frozen;rw[hU5]at HEnd;rw[hq];clear hs4 hA4 hW4 hO4 hR4 hJ4 hz4 hz3 hPU hXg hcj hv1 ha1 he1 hw hq hU5 hk5 hs5 hA5 hW5 hO5 hJ5 ho4 hem hb4 y0 o0 o1 o2 o3 p0 p1;gi_wp2_with (gi_at_builtin;refine app_listIn rfl _ _ 29 rfl _ _ (by rfl) (by rfl) HAp.out ?_);go_roundw
    case rel=>exact HEnd.out
    case measure=>exact HM.out
   ·have hq0:(0:Int)<((qW S L align rep t d r (iH S L align rep t d r j)).length:Nat):=by
     have:=Nat.pos_of_ne_zero (fun h=>hw (List.eq_nil_of_length_eq_zero h));omega
    have hl4:(qW S L align rep t d r (iH S L align rep t d r j)).length<=16384:=Nat.le_trans (nS _ _ (nH _).1 (fun y hy=>((nH _).2 y hy).2)) HCl.out;have hnv:nV<=16384:=by rw[HnV.out];exact HVl.out j
    obtain⟨a4',c4',e9,hws,hwn⟩:=SL.ofOwns pX (by decide) ho4;injection e9 with e7 e8 e10
    subst e7;subst e10;obtain⟨q4,hq4⟩:=aE ((qW S L align rep t d r (iH S L align rep t d r j)).length);rw[<-hq4]at hq0 hl4 hws hwn⊢;obtain⟨a5,c5,W5,hr5,ho5,hg5,-⟩:=app_vens hO4 hws hwn (by omega) (by omega) (by have:=lt_of_block hs4;omega) 29;have hfar:∀k,(Value.slice aV nV cV).ownBlock=some k->P+1<=k/\k<U1.heap.size:=fun k hk=>⟨(hO4.lt k hk).1,HBV.out k hk⟩
    have hs5:RB W5 P #[.slice a2 n2 c2,.slice aV nV cV,.slice a3 n3 c3,.int .i64 (j1:Int)] 44:=(hg5.block P (lt_of_block hs4) (fun e=>by have:=(hfar P e.symm).1;omega)).trans hs4;obtain⟨U5,hU5⟩:=aE (W5.setCell ⟨P,1,none⟩ (.slice a5 (nV+q4) c5));have hk5:YK W5.heap.size P P W5 U5:=by rw[hU5];exact YK.set _ _ _ _ _
    have hs6:RB U5 P #[.slice a2 n2 c2,.slice a5 (nV+q4) c5,.slice a3 n3 c3,.int .i64 (j1:Int)] 44:=by rw[hU5];exact hs5.set (j:=1) _
    have hA5:=hk5.own (own_grown hA4 hg5 (fun k hk=>(hfar k hk).2)) (Nat.le_refl _) hPU hPU;have hW5:=hk5.own (own_grown hW4 hg5 (fun k hk=>(hfar k hk).2)) (Nat.le_refl _) hPU hPU;have hO5:=hk5.own ho5 (Nat.le_refl _) (by omega) (by omega);have hJ5:J xx U5:=HJ.out _ _ _ hJ4 (by
     rw[hU5];exact((((Below.refl W.heap.size u4).grown hg5 (by omega) (fun k hk=>by have:=(hfar k hk).1;have:=HPl.out;omega)).setCell (p:=⟨P,1,none⟩) (by rw[HPl.out.1];exact Nat.le_refl _) _)))
    have hb45:Below P u4 U5:=by
     rw[hU5];exact((((Below.refl P u4).grown hg5 (by have:=lt_of_block hs4;omega) (fun k hk=>by have:=(hfar k hk).1;omega)).setCell (p:=⟨P,1,none⟩) (Nat.le_refl _) _))
    have hR5:RDy p L w U5 Y g Yb Ob (fV t d st r):=hR4.yk (l:=P) (B:=P) (YK.of hb45) HPn.out HPn.out HPn.out HYw.out (by have:=HYw.out;omega) (by have:=HYw.out;omega);have HEnd:Hid (∃(j':Nat) (bb:Bool) (x:Value) (aA:Option Addr) (nA cA:Nat) (aV':Option Addr) (nV' cV':Nat) (aW:Option Addr) (nW cW:Nat) (wx:World),wx=U5/\Value.bool true=.bool bb/\Hid (RSy S L align rep t d r wx P j' aA nA cA aV' nV' cV' aW nW cW)/\Hid (RDy p L w wx Y g Yb Ob (fV t d st r))/\Hid (J x wx)/\Hid (W.heap.size<=wx.heap.size)/\Hid (RBy S L align rep t d r W.heap.size j' bb x wx)):=aH
     ⟨j1,true,xx,a2,n2,c2,a5,nV+q4,c5,a3,n3,c3,U5,rfl,rfl,aH ⟨hs6,by rw[ha1];exact Pl.own_down hA5 (by omega),by rw[hv1];exact hO5,by rw[he1];exact Pl.own_down hW5 (by omega)⟩,
      aH hR5,aH hJ5,aH (by have:=hb45.size;omega),
      aH ⟨fun _ i hi=>by
       rcases Nat.lt_or_ge i j with h9|h9
       ·exact HOn.out i h9
       ·obtain rfl:i=j:=by have:=Hj1.out;omega
        exact hw,(fun h=>by cases h)⟩⟩
    have HM:Hid ((kL S L rep).length+1-oP P U5<(kL S L rep).length+1-oP P wx):=aH (by rw[qC HS.out.pp,qC hs6];have:=Hj1.out;omega);have HAp:=aH hr5;have HQd:Hid (decide (0 < q4)=true):=aH (decide_eq_true (by omega));have p1':u4.cell? ⟨P,1,none⟩=some (.slice aV nV cV):=hs4.cell;have q1':W5.frozen? ⟨P,1,none⟩=false:=hs5.frozen;have p1'':W5.cell? ⟨P,1,none⟩=some (.slice aV nV cV):=hs5.cell;rw[hU5]at HEnd HM;clear hs4 hA4 hW4 hO4 hR4 hJ4 hz4 hz3 hPU hXg hcj hv1 ha1 he1 hw hU5 hk5 hs5 hA5 hW5 hO5 hJ5 ho4 hem hb4 y0 o0 o1 o2 o3 p0 p1 hr5 ho5 hg5 hfar hs6 hb45 hR5 hws hwn hq4 hl4 hnv e8;gi_wp2_with (gi_at_builtin;refine app_listIn rfl _ _ 29 rfl _ _ (by rfl) (by rfl) HAp.out ?_);go_roundw
    case rel=>rw[HQd.out];exact HEnd.out
    case measure=>rw[HQd.out];exact HM.out
attribute [local go_sem] Oper.semAt_some
theorem pF {n:Nat}{w:World}{l:Nat}{o:Obj}(h:n<=l):Below n w (w.putObj l o):=
 ⟨rfl,rfl,rfl,by simp[World.putObj],fun k hk=>World.putObj_heap_other (by omega)⟩
theorem yk_put {H l B:Nat}{w:World}{o:Obj}:YK H l B w (w.putObj l o):=
 ⟨rfl,rfl,rfl,by simp[World.putObj],fun k _ hk _=>World.putObj_heap_other hk⟩
theorem pW {F:Fence}{n:Nat}{P:Program}{g:Operand}{ps:Array Tmp}{assign body:Code}{Q:Exit->Act->World->Prop}{a:Act}{w:World}
  (hro:F.round=none) (h1:1<=n) {gf:Nat} {lb:Array Value} (hg:a.eval g=.func (.func gf) #[] lb) (hFg:F.fn gf) (eg:∀args w,(callFunc gf args).run P w=.ok (.enter gf args) w)
  (Bl:Nat) (hBl:Bl<w.heap.size) {S:Nat->Value->World->Prop} (I:Value->World->Prop) (hI:∀x A B,I x A->Below w.heap.size A B->I x B)
  (hseq:∀(l:Nat) (J:Value->World->Prop) (W:World),Below w.heap.size w W->w.heap.size<=l->l<W.heap.size->(∀x A B,J x A->Below W.heap.size A B->J x B)->
    (∀x0 x A,IsPl x->W.heap.size<=A.heap.size->J x0 A->YieldAt F (n-1-1) P l #[x] A fun e B=>e=.returned (.bool true)/\J x B/\YK A.heap.size l Bl A B)->∀x0,J x0 W->
    CallsIn F (n-1) P gf (#[.func (.yield l) #[] #[]]++lb) W fun e W'=>(∃v,e=.returned v)/\∃x,J x W'/\S W.heap.size x W')
  (hps:ps.size=1) (x₀:Value) (h0:I x₀ w) (Ax:Value->Act->World->Prop) (hAx:∀x a' A B l,Ax x a' A->YK A.heap.size l l A B->w.heap.size<=l->(∃r,A.heap[l]?=some (.loop r))->Ax x a' B)
  (hassign:∀(l:Nat) (x0 x:Value) (W:World) (K:Act->World->Prop),IsPl x->I x0 W->(∀a' W',W.grownBy W' none->Ax x a' W'->K a' W')->
    assign.wpIn (F.inRound l) (n-1-1) P (Exit.then K (fun _ _ _=>False)) { tmps:=(ps.zip #[x]).foldl (fun t (p,v)=>t.setIfInBounds p v) a.tmps,defers:=[] } W)
  (hbody:∀(l:Nat) (x0 x:Value) (a':Act) (W:World),IsPl x->I x0 W->Ax x a' W->body.wpIn (F.inRound l) (n-1-1) P (fun e _ W'=>e=.normal/\W.grownBy W' (some Bl)/\I x W') a' W)
  (hdone:∀(x:Value) (W W':World),S (w.heap.size+2) x W->YK W.heap.size (w.heap.size+1) (w.heap.size+1) W W'->I x W'->W'.heap[w.heap.size]?=some (.deferred (some []))->Q .normal { a with defers:={ target:=.collected w.heap.size,args:=#[] } :: a.defers } W'):
  (Code.rangeFunc g ps assign body).wpIn F n P Q a w:=by
 refine wpIn_rangeFunc fun fn hfn=>?_
 rw[hro];obtain⟨rec,hrec⟩:∃rec:LoopState->Option Code->Loop,rec=fun st pe=>{ state:=st,pending:=pe,fn,tmps:=a.tmps,params:=ps,assign,body,defers:=w.heap.size }:=⟨_,rfl⟩
 obtain⟨W1,hW1⟩:∃W1,(w.alloc (.deferred (some []))).alloc (.loop (rec .ready none))=W1:=⟨_,rfl⟩;have hL1:W1.heap[w.heap.size+1]?=some (.loop (rec .ready none)):=by
  have:=World.alloc_heap_new (w.alloc (.deferred (some []))) (.loop (rec .ready none));rw[World.size_alloc]at this;rw[<-hW1];exact this
 have hK1:W1.heap[w.heap.size]?=some (.deferred (some [])):=by
  rw[<-hW1];exact(Below.heap_alloc _ _ _ (by simp)).trans (World.alloc_heap_new w _)
 have hZ1:W1.heap.size=w.heap.size+2:=by rw[<-hW1,World.size_alloc,World.size_alloc]
 have hB1:Below w.heap.size w W1:=by rw[<-hW1];exact((Below.refl _ w).alloc (Nat.le_refl _) _).alloc (by simp) _
 have hI1:I x₀ W1:=hI _ _ _ h0 hB1;refine⟨w.heap.size+1,[{ target:=.collected w.heap.size,args:=#[] }],W1,{ target:=.fn (.func gf) lb,args:=#[.func (.yield (w.heap.size+1)) #[] #[]] },W1,gf,
  #[.func (.yield (w.heap.size+1)) #[] #[]]++lb,W1,?_,?_,?_,?_,fun _=>h1,?_⟩
 ·rw[<-hW1,hrec];exact run_enterLoop_outer _ _ _ _ _
 ·simp only[resolve,hg];simp[go_sem]
 ·intro f' hf';simp[Target.leads]at hf';subst hf';exact hFg
 ·simp[invoke,go_sem,eg]
 refine(hseq (w.heap.size+1) (fun x W=>I x W/\W.heap[w.heap.size+1]?=some (.loop (rec .ready none))/\W.heap[w.heap.size]?=some (.deferred (some []))) W1 hB1 (by omega) (by omega)
  (fun x A B h hb=>⟨hI _ _ _ h.1 (hb.mono (by omega)),(hb.block _ (by omega)).trans h.2.1,(hb.block _ (by omega)).trans h.2.2⟩) ?_ x₀ ⟨hI1,hL1,hK1⟩).mono ?_
 ·rintro x0 x W hgx hsz ⟨hi,hl,hk⟩;have hlt:w.heap.size+1<W.heap.size:=(gH hl).1;have hy:=run_yield (P:=P) (args:=#[x]) hl (by rw[hrec];exact hps.symm);rw[hrec]at hy;refine⟨fn,_,assign,body,hy,roundIn_of_wpIn hfn (hassign _ x0 x W _ hgx hi (fun a1 W' hg1 hx1=>?_))⟩;have hl1:W'.heap[w.heap.size+1]?=some (.loop (rec .ready none)):=(hg1.block _ hlt (by simp)).trans hl;have hk1:W'.heap[w.heap.size]?=some (.deferred (some [])):=(hg1.block _ (by omega) (by simp)).trans hk;refine⟨_,run_beginRound hl1 (by rw[hrec]),?_⟩;obtain⟨W2,hW2⟩:∃W2,W'.putObj (w.heap.size+1) (.loop { rec .ready none with state:=.busy })=W2:=⟨_,rfl⟩;rw[hW2];have hl2:W2.heap[w.heap.size+1]?=some (.loop { rec .ready none with state:=.busy }):=by rw[<-hW2];exact World.putObj_heap_same (gH hl1).1
  have hk2:W2.heap[w.heap.size]?=some (.deferred (some [])):=by rw[<-hW2];exact(World.putObj_heap_other (by omega)).trans hk1
  have hy2:YK W'.heap.size (w.heap.size+1) (w.heap.size+1) W' W2:=by rw[<-hW2];exact yk_put
  have hb2:Below w.heap.size W' W2:=by rw[<-hW2];exact pF (by omega)
  have hbg:Below w.heap.size W W':=⟨hg1.os,hg1.tape,hg1.output,hg1.size,fun k hk=>hg1.block k (by omega) (by simp)⟩;refine wpIn_mono (hbody _ x0 x a1 W2 hgx (hI _ _ _ (hI _ _ _ hi hbg) hb2) (hAx _ _ _ _ _ hx1 hy2 (by omega) ⟨_,hl1⟩)) ?_;rintro e a3 W3 ⟨rfl,hg3,hi3⟩;have hl3:W3.heap[w.heap.size+1]?=some (.loop { rec .ready none with state:=.busy }):=(hg3.block _ (gH hl2).1 (by simp;omega)).trans hl2;have hr:=run_endRound (P:=P) none hl3;rw[hrec]at hr;refine⟨_,_,hr,rfl,⟨hI _ _ _ hi3 (pF (by omega)),?_,(World.putObj_heap_other (by omega)).trans ((hg3.block _ (gH hk2).1 (by simp;omega)).trans hk2)⟩,?_⟩
  ·rw[hrec];exact World.putObj_heap_same (gH hl3).1
  ·have q1:YK W.heap.size (w.heap.size+1) Bl W W':=⟨hg1.os,hg1.tape,hg1.output,hg1.size,fun k hk _ _=>hg1.block k hk (by simp)⟩;have q2:YK W.heap.size (w.heap.size+1) Bl W' W2:=by rw[<-hW2];exact yk_put
   have q3:YK W.heap.size (w.heap.size+1) Bl W2 W3:=⟨hg3.os,hg3.tape,hg3.output,hg3.size,fun k hk _ h9=>hg3.block k (by have:=hg1.size;have:=hy2.size;omega) (by simp;exact h9)⟩;exact((q1.trans q2).trans q3).trans yk_put
 ·rintro e W2 ⟨⟨v,rfl⟩,x,⟨hi,hl,hk⟩,hS⟩;have hr:=run_endLoop (P:=P) hl (by rw[hrec];simp);rw[hrec]at hr;rw[hZ1]at hS;exact⟨none,_,hr,hdone x W2 _ hS yk_put (hI _ _ _ hi (pF (by omega))) ((World.putObj_heap_other (by omega)).trans hk)⟩
theorem sE {t d st r:Int}(h:Pl.goodB t d st r=true):t<=4611686018427387904/\d<=4611686018427387904/\8192<=r/\r<=134217724:=by
 unfold Pl.goodB Pl.evB at h;simp only[Bool.and_eq_true,decide_eq_true_eq]at h;omega
structure LQ (p:Yp)(Lm:List Ms)(rep live align:List Int)(w:World):Prop where
 hn:p.n<=maxLen
 hs:SL mX 6 w w.heap.size p.ua p.n Lm
 hno:iQ w w.heap.size Lm
 hg:∀x∈Lm,fP x.sc
 hb:∀x∈Lm,x.sc.rels.length*32<=reachBytes
 hr:SL dT 1 w w.heap.size p.ra p.rn rep
 hl:SL dT 1 w w.heap.size p.la p.ln live
 ha:SL dT 1 w w.heap.size p.aa p.an align
 hrn:p.rn<=maxLen
 hln:p.ln<=maxLen
 han:p.an<=maxLen
 hT:jL w
theorem LQ.next {p:Yp}{Lm:List Ms}{rep live align:List Int}{w u:World}(h:LQ p Lm rep live align w)(hb:Below w.heap.size w u):LQ p Lm rep live align u:=
 ⟨h.hn,h.hs.next hb,h.hno.next hb,h.hg,h.hb,h.hr.next hb,h.hl.next hb,h.ha.next hb,h.hrn,h.hln,h.han,h.hT.next hb⟩
theorem LQ.is {p:Yp}{Lm:List Ms}{rep live align:List Int}{w:World}(h:LQ p Lm rep live align w):Calls Tryz.prog 22 #[.slice p.ua p.n p.uc,.agg (kpV p.ra p.rn p.rc p.la p.ln p.lc p.aa p.an p.ac)] w (oI (lE (Lm.map (·.sc)) rep live align) w):=
 shrIs_any w p.ua p.n p.uc Lm p.ra p.rn p.rc rep p.la p.ln p.lc live p.aa p.an p.ac align h.hn h.hs h.hno h.hg h.hb h.hr h.hl h.ha h.hrn h.hln h.han h.hT
theorem LQ.left {p:Yp}{Lm:List Ms}{rep live align:List Int}{w:World}(h:LQ p Lm rep live align w)(hq:lE (Lm.map (·.sc)) rep live align):
  iT (Lm.map (·.sc)) rep (aJ (Lm.map (·.sc)) rep) align/\p.n<=256/\(∀x∈aJ (Lm.map (·.sc)) rep,x<p.n)/\p.ln<=256/\SL dT 1 w w.heap.size p.la p.ln ((aJ (Lm.map (·.sc)) rep).map Int.ofNat)/\live=(aJ (Lm.map (·.sc)) rep).map Int.ofNat/\
  (∀k∈aJ (Lm.map (·.sc)) rep,∀f∈bZ (Lm.map (·.sc)) k,0<=f.sym/\∃z,rep[f.sym.toNat]?=some z)/\(∀a∈aJ (Lm.map (·.sc)) rep,∀f∈bZ (Lm.map (·.sc)) a,cR (eM rep a f)):=by
 obtain⟨h1,h2,h3⟩:=left_of hq;rw[<-h2]at h3;have hu:=hq.1;have hN:=fK hu;have hn:p.n=(Lm.map (·.sc)).length:=by rw[List.length_map];exact h.hs.len
 have hlt:∀x∈aJ (Lm.map (·.sc)) rep,x<p.n:=fun x hx=>by
  obtain⟨s,hs,-⟩:=h3.inn x hx;rw[hn];exact(eX hs).1
 have hsy:∀k∈aJ (Lm.map (·.sc)) rep,∀f∈bZ (Lm.map (·.sc)) k,0<=f.sym/\∃z,rep[f.sym.toNat]?=some z:=fun k hk f hf=>by
  obtain⟨s,hs,-⟩:=h3.inn k hk;have e:bZ (Lm.map (·.sc)) k=s.rels:=by unfold bZ;rw[hs]
  rw[e]at hf;obtain⟨a1,a2⟩:=(dZ hu hs).2 f hf;refine⟨a1,_,iS (?_)⟩;have:=hq.2.1.1;omega
 refine⟨h3,by omega,hlt,?_,by rw[<-h1];exact h.hl,h1,hsy,fun a ha f hf=>?_⟩
 ·have e1:=h.hl.len;rw[h1,List.length_map]at e1;have:=h3.n256;omega
 ·obtain⟨s,hs,-,-,hsr⟩:=h3.inn a ha;have e:bZ (Lm.map (·.sc)) a=s.rels:=by unfold bZ;rw[hs]
  have hf2:=hf;rw[e]at hf2;have hst:=(hsr f hf2).2.2;unfold bC at hst;simp only[Bool.and_eq_true,decide_eq_true_eq]at hst;have hn1:=hlt _ hst.2;have hn2:=hlt a ha;rw[List.getElem?_map]at hs;obtain⟨m,hm,rfl⟩:=Option.map_eq_some_iff.1 hs;have hg:=(h.hg m (eQ hm)).rels f hf2;refine⟨?_,?_,hg.2.2.2⟩
  ·show cS (a:Int);unfold cS;omega
  ·show cS (pJ rep f.sym);unfold cS;omega
abbrev set4 (u:World)(P:Nat)(a b c d:Value):World:=(((u.setCell ⟨P,0,none⟩ a).setCell ⟨P,1,none⟩ b).setCell ⟨P,2,none⟩ c).setCell ⟨P,3,none⟩ d
theorem oT {u:World}{P:Nat}{x0 x1 x2 x3 a b c d:Value}{T:TypeId}(h:RB u P #[x0,x1,x2,x3] T):RB (set4 u P a b c d) P #[a,b,c,d] T:=by
 have h0:RB (u.setCell ⟨P,0,none⟩ a) P #[a,x1,x2,x3] T:=h.set (j:=0) _;have h1:RB ((u.setCell ⟨P,0,none⟩ a).setCell ⟨P,1,none⟩ b) P #[a,b,x2,x3] T:=h0.set (j:=1) _;have h2:RB (((u.setCell ⟨P,0,none⟩ a).setCell ⟨P,1,none⟩ b).setCell ⟨P,2,none⟩ c) P #[a,b,c,x3] T:=h1.set (j:=2) _;exact h2.set (j:=3) _
theorem kN {n P:Nat}{w u:World}{a b c d:Value}(h:Below n w u)(hn:n<=P):Below n w (set4 u P a b c d):=
 (((h.setCell (p:=⟨P,0,none⟩) hn _).setCell (p:=⟨P,1,none⟩) hn _).setCell (p:=⟨P,2,none⟩) hn _).setCell (p:=⟨P,3,none⟩) hn _
theorem grow_set4 {u:World}{P:Nat}{a b c d:Value}:u.grownBy (set4 u P a b c d) (some P):=
 ⟨by simp[World.setCell],by simp[World.setCell],by simp[World.setCell],by simp[World.setCell],fun k _ hk=>by
  have h:k≠P:=fun e=>hk (by rw[e])
  unfold set4;rw[Below.heap_setCell _ ⟨P,3,none⟩ _ k h,Below.heap_setCell _ ⟨P,2,none⟩ _ k h,Below.heap_setCell _ ⟨P,1,none⟩ _ k h,Below.heap_setCell _ ⟨P,0,none⟩ _ k h]⟩
theorem fD {u:World}{P:Nat}{x0 x1 x2 x3:Value}{T:TypeId}(h:RB u P #[x0,x1,x2,x3] T):(u.cell? ⟨P,0,none⟩=some x0/\u.cell? ⟨P,1,none⟩=some x1/\u.cell? ⟨P,2,none⟩=some x2/\u.cell? ⟨P,3,none⟩=some x3)/\(u.frozen? ⟨P,0,none⟩=false/\u.frozen? ⟨P,1,none⟩=false/\u.frozen? ⟨P,2,none⟩=false/\u.frozen? ⟨P,3,none⟩=false):=
 ⟨⟨h.cell,h.cell,h.cell,h.cell⟩,h.frozen,h.frozen,h.frozen,h.frozen⟩
abbrev plan0:Value:=.agg #[.slice none 0 0,.slice none 0 0,.slice none 0 0,.int .i64 0]
theorem PlanV.to {S:List Sc}{L:List Nat}{align rep:List Int}{t d r:Int}{H H':Nat}{x:Value}{u v:World}(h:PlanV S L align rep t d r H x u)(hk:∀(e:TypeId) (sz:Nat) (ad:Option Addr) (q c:Nat) (xs:List Value),u.ownsRow H e sz (.slice ad q c) q xs->v.ownsRow H' e sz (.slice ad q c) q xs):PlanV S L align rep t d r H' x v:=by
 obtain⟨m,aA,nA,cA,aV,nV,cV,aW,nW,cW,h1,h2,h3,h4,h5⟩:=h;exact⟨m,aA,nA,cA,aV,nV,cV,aW,nW,cW,h1,h2,hk _ _ _ _ _ _ h3,hk _ _ _ _ _ _ h4,hk _ _ _ _ _ _ h5⟩
def onlyN (Q:Exit->Act->World->Prop):Exit->Act->World->Prop
 | .normal,a,w=>Q .normal a w
 |_,_,_=>False
theorem wp_onlyN {P:Program}{c:Code}{Q:Exit->Act->World->Prop}{a:Act}{w:World}(h:c.wp P (onlyN Q) a w):c.wp P Q a w:=
 wp_mono h (fun e a w h=>by cases e<;>first|exact h|exact h.elim)
theorem rounds_any (Y:Nat)(o:Array Value)(ho:∃a b c d,o=fV a b c d)(w:World):Calls Tryz.prog 38 #[.pointer (some ⟨Y,0,none⟩),.agg o] w (fun e w'=>e=.returned (.func (.func 71) #[] #[.pointer (some ⟨w.heap.size,0,none⟩),.pointer (some ⟨w.heap.size+1,0,none⟩)])/\
  w'=(w.alloc (.cells #[.pointer (some ⟨Y,0,none⟩)] 62)).alloc (.cells o 28)):=by
 obtain⟨a,b,c,d,rfl⟩:=ho;go_enter Tryz.func38,Tryz.ntmps38;go_wp2;go_ret;exact⟨rfl,rfl⟩
def PlanP (ok:Prop)(S:List Sc)(L:List Nat)(align rep:List Int)(t d r:Int)(w:World)(e:Ending)(w':World):Prop:=
 (ok/\∃x,e=.returned (.tuple #[x,.int .i64 0])/\PlanV S L align rep t d r w.heap.size x w'/\Below w.heap.size w w')\/(¬ok/\e=.returned (.tuple #[plan0,.int .i64 1])/\Below w.heap.size w w')
abbrev kD:Array Value:=#[.slice none 0 0,.slice none 0 0,.slice none 0 0,.int .i64 0]
theorem Plan_any (p:Yp)(Lm:List Ms)(rep live align:List Int)(t d st r:Int)(w:World)(h:LQ p Lm rep live align w)(t0:0<=t)(t1:t<18446744073709551616)(d0:0<=d)(d1:d<18446744073709551616)(s0:0<=st)(s1:st<18446744073709551616):
  Calls Tryz.prog 17 #[.slice p.ua p.n p.uc,p.kp,.agg (fV t d st r)] w (PlanP (Pl.goodB t d st r=true/\lE (Lm.map (·.sc)) rep live align) (Lm.map (·.sc)) (aJ (Lm.map (·.sc)) rep) align rep t d r w):=by
 obtain⟨S,hS⟩:=aE (Lm.map (·.sc));obtain⟨gb,hgb⟩:=aE (Pl.goodB t d st r);have HGo:Hid (∀u,Calls Tryz.prog 23 #[.agg #[.int .u64 t,.int .u64 d,.int .u64 st,.int .i64 r]] u (aP (.bool gb) u)):=aH fun u=>by rw[hgb];exact Pl.good_any t d st r u t0 t1 d0 d1 s0 s1
 have HIs:Hid (∀u,Below w.heap.size w u->Calls Tryz.prog 22 #[.slice p.ua p.n p.uc,.agg #[.slice p.ra p.rn p.rc,.slice p.la p.ln p.lc,.slice p.aa p.an p.ac]] u (oI (lE S rep live align) u)):=aH fun u hu=>by rw[hS];exact(h.next hu).is
 have HLf:Hid (lE S rep live align->iT S rep (aJ S rep) align/\p.n<=256/\(∀x∈aJ S rep,x<p.n)/\p.ln<=256/\SL dT 1 w w.heap.size p.la p.ln ((aJ S rep).map Int.ofNat)/\live=(aJ S rep).map Int.ofNat/\
  (∀k∈aJ S rep,∀f∈bZ S k,0<=f.sym/\∃z,rep[f.sym.toNat]?=some z)/\(∀a∈aJ S rep,∀f∈bZ S a,cR (eM rep a f))):=aH (by rw[hS];exact h.left)
 have HGb:=aH hgb;rw[<-hS,<-hgb];have HSe:=aH hS;have HLQ:=aH h;have HT0:=aH (And.intro t0 d0);obtain⟨X,hX⟩:=aE w.heap.size;obtain⟨W,hW⟩:=aE (((w.alloc (.cells #[.slice p.ra p.rn p.rc,.slice p.la p.ln p.lc,.slice p.aa p.an p.ac] 25)).alloc (.cells (fV t d st r) 28)).alloc (.cells kD 44));have z1:(w.alloc (.cells #[.slice p.ra p.rn p.rc,.slice p.la p.ln p.lc,.slice p.aa p.an p.ac] 25)).heap.size=X+1:=by rw[World.size_alloc,hX]
 have z2:((w.alloc (.cells #[.slice p.ra p.rn p.rc,.slice p.la p.ln p.lc,.slice p.aa p.an p.ac] 25)).alloc (.cells (fV t d st r) 28)).heap.size=X+1+1:=by rw[World.size_alloc,z1]
 have z3:W.heap.size=X+3:=by rw[hW,World.size_alloc,z2]
 have HB:Hid (Below w.heap.size w W):=aH (by rw[hW];exact after (aC _ _) (after (aC _ _) (aC _ _)));have HK:Hid (RB W X #[.slice p.ra p.rn p.rc,.slice p.la p.ln p.lc,.slice p.aa p.an p.ac] 25):=aH (by rw[hW,hX];exact((aQ _ _ _).next (aC _ _)).next (aC _ _));have HO:Hid (RB W (X+1) (fV t d st r) 28):=aH (by rw[hW,<-z1];exact(aQ _ _ _).next (aC _ _));have HZ:Hid (RB W (X+2) kD 44):=aH (by rw[hW,<-z2];exact aQ _ _ _);have HZs:=aH z3;have HWe:=aH hW.symm;have HXe:=aH hX.symm;have o0:W.cell? ⟨X+1,0,none⟩=some (.int .u64 t):=HO.out.cell;have o1:W.cell? ⟨X+1,1,none⟩=some (.int .u64 d):=HO.out.cell;have o2:W.cell? ⟨X+1,2,none⟩=some (.int .u64 st):=HO.out.cell;have o3:W.cell? ⟨X+1,3,none⟩=some (.int .i64 r):=HO.out.cell;rw[hW,hX]at o0 o1 o2 o3;clear hS hgb h t0 t1 d0 d1 s0 s1 hX hW z1 z2 z3;refine(callsIn_wide (n:=4)).1 ?_;refine callsIn_of_wp_marks Tryz.func17 rfl trivial ?_ rfl;refine wpIn_wide.2 ?_;simp only[Tryz.ntmps17,List.size_toArray,List.length_cons,List.length_nil,Nat.reduceAdd,Nat.reduceSub,Array.replicate_succ,Array.replicate_zero,List.push_toArray,List.append_toArray,List.nil_append,List.cons_append];go_wp2_with fail
 refine(HGo.out _).mono ?_;rintro e u ⟨rfl,hb1⟩;rw[HWe.out]at hb1;rw[HXe.out];have HU:Hid (Below w.heap.size w u/\RB u X #[.slice p.ra p.rn p.rc,.slice p.la p.ln p.lc,.slice p.aa p.an p.ac] 25/\RB u (X+1) (fV t d st r) 28/\RB u (X+2) kD 44/\X+3<=u.heap.size):=aH ⟨after HB.out hb1,HK.out.next hb1,HO.out.next hb1,HZ.out.next hb1,by have:=hb1.size;have:=HZs.out;omega⟩;clear hb1 o0 o1 o2 o3;have HIs2:=aH (HIs.out u HU.out.1);cases gb
 ·obtain⟨⟨z0,z1,z2,z3⟩,q0,q1,q2,q3⟩:=fD HU.out.2.2.2.1;have HF:=aH (oT (a:=.slice none 0 0) (b:=.slice none 0 0) (c:=.slice none 0 0) (d:=.int .i64 0) HU.out.2.2.2.1);go_wp2_with fail
  refine ⟨_,eU (P:=Tryz.prog) rfl _ _ (X+2) 44 _ (0,0) _ (.int .i64 1) rfl HF.out Tryz.underlying44 rfl (by kernel_rfl) rfl,.inr ⟨fun h=>(by cases h.1),rfl,kN HU.out.1 (by have:=HXe.out;omega)⟩⟩
 ·have k0:u.cell? ⟨X,0,none⟩=some (.slice p.ra p.rn p.rc):=HU.out.2.1.cell;have k1:u.cell? ⟨X,1,none⟩=some (.slice p.la p.ln p.lc):=HU.out.2.1.cell;have k2:u.cell? ⟨X,2,none⟩=some (.slice p.aa p.an p.ac):=HU.out.2.1.cell;go_wp2_with fail
  refine HIs2.out.mono ?_;rintro e v ⟨b,rfl,hbq,hb2⟩;have HBq:=aH hbq;have HV:Hid (Below w.heap.size w v/\RB v X #[.slice p.ra p.rn p.rc,.slice p.la p.ln p.lc,.slice p.aa p.an p.ac] 25/\RB v (X+1) (fV t d st r) 28/\RB v (X+2) kD 44/\X+3<=v.heap.size):=aH ⟨after HU.out.1 hb2,HU.out.2.1.next hb2,HU.out.2.2.1.next hb2,HU.out.2.2.2.1.next hb2,by have:=hb2.size;have:=HU.out.2.2.2.2;omega⟩;clear hbq hb2 k0 k1 k2 HIs2;cases b
  ·obtain⟨⟨z0,z1,z2,z3⟩,q0,q1,q2,q3⟩:=fD HV.out.2.2.2.1;have HF:=aH (oT (a:=.slice none 0 0) (b:=.slice none 0 0) (c:=.slice none 0 0) (d:=.int .i64 0) HV.out.2.2.2.1);go_wp2_with fail
   refine ⟨_,eU (P:=Tryz.prog) rfl _ _ (X+2) 44 _ (0,0) _ (.int .i64 1) rfl HF.out Tryz.underlying44 rfl (by kernel_rfl) rfl,.inr ⟨fun h=>(by have:=HBq.out.2 h.2;cases this),rfl,kN HV.out.1 (by have:=HXe.out;omega)⟩⟩
  ·have HQ:=aH (HBq.out.1 rfl);obtain⟨hLQ,hn,hlt,hln,hla,hlv,hsy,hgc⟩:=HLf.out HQ.out;obtain⟨L,hL⟩:=aE (aJ S rep);have HLe:=aH hL;rw[<-hL]at hLQ hlt hla hlv hsy hgc⊢;obtain⟨Bl,hBl⟩:=aE v.heap.size;obtain⟨V1,hV1⟩:=aE (v.alloc (.cells kD 44));have hb1:Below v.heap.size v V1:=by rw[hV1];exact aC _ _
   have hz1:V1.heap.size=Bl+1:=by rw[hV1,World.size_alloc,hBl]
   obtain⟨V,hV,hT⟩:=aD V1;have hb2:Below v.heap.size v V:=after hb1 hT;have HVw:Hid (Below w.heap.size w V):=aH (after HV.out.1 hb2);have HVK:Hid (RB V X #[.slice p.ra p.rn p.rc,.slice p.la p.ln p.lc,.slice p.aa p.an p.ac] 25):=aH (HV.out.2.1.next hb2);have HVO:Hid (RB V (X+1) (fV t d st r) 28):=aH (HV.out.2.2.1.next hb2);have HVZ:Hid (RB V (X+2) kD 44):=aH (HV.out.2.2.2.1.next hb2);have HVL:Hid (RB V Bl kD 44):=aH (by
    have:RB V1 Bl kD 44:=by rw[hV1,hBl];exact aQ _ _ _
    exact this.next hT)
   have HBs:Hid (X+3<=Bl/\Bl<V.heap.size/\X=w.heap.size):=aH ⟨by have:=HV.out.2.2.2.2;omega,by have:=hT.size;omega,HXe.out.symm⟩;have HYa:Hid (Calls Tryz.prog 27 #[.slice p.ua p.n p.uc,.agg #[.slice p.ra p.rn p.rc,.slice p.la p.ln p.lc,.slice p.aa p.an p.ac]] V (NewYP p L V)):=aH (nT p L V hn (hla.next HVw.out) hLQ.nd hlt hln);have HAll:=aH (And.intro hLQ (And.intro hn (And.intro hlt (And.intro hla (And.intro hsy hgc)))));have hS7:V.cell? ⟨X,0,none⟩=some (.slice p.ra p.rn p.rc)/\V.cell? ⟨X,1,none⟩=some (.slice p.la p.ln p.lc)/\V.cell? ⟨X,2,none⟩=some (.slice p.aa p.an p.ac)/\V.cell? ⟨X+1,0,none⟩=some (.int .u64 t)/\V.cell? ⟨X+1,1,none⟩=some (.int .u64 d)/\V.cell? ⟨X+1,2,none⟩=some (.int .u64 st)/\V.cell? ⟨X+1,3,none⟩=some (.int .i64 r):=⟨HVK.out.cell,HVK.out.cell,HVK.out.cell,HVO.out.cell,HVO.out.cell,HVO.out.cell,HVO.out.cell⟩;have HBle:=aH hBl.symm;have HV1e:=aH hV1.symm;clear hLQ hn hlt hln hla hlv hsy hgc hL hb1 hz1 hT hb2;go_wp2_with fail
   rw[HV1e.out,HBle.out];refine wp_onlyN ?_;refine aS (S:=fun v'=>v'.cell? ⟨X,0,none⟩=some (.slice p.ra p.rn p.rc)/\v'.cell? ⟨X,1,none⟩=some (.slice p.la p.ln p.lc)/\v'.cell? ⟨X,2,none⟩=some (.slice p.aa p.an p.ac)/\v'.cell? ⟨X+1,0,none⟩=some (.int .u64 t)/\v'.cell? ⟨X+1,1,none⟩=some (.int .u64 d)/\v'.cell? ⟨X+1,2,none⟩=some (.int .u64 st)/\v'.cell? ⟨X+1,3,none⟩=some (.int .i64 r)) hV hS7 ?_;clear hV hBl hV1;iterate 2 refine aN _ rfl hS7 ?_
   refine aI 3 _ rfl hS7 ?_;refine rd 2 rfl (fun K hK=>?_);go_simp;go_wp2_with (go_at_call 27;refine HYa.out.mono ?_;rintro e u2 ⟨Y,g,rfl,hyd,hY1,hg1,hb2⟩)
   have HYD:=aH (And.intro hyd (And.intro hY1 (And.intro hg1 hb2)));have hS72:u2.cell? ⟨X,0,none⟩=some (.slice p.ra p.rn p.rc)/\u2.cell? ⟨X,1,none⟩=some (.slice p.la p.ln p.lc)/\u2.cell? ⟨X,2,none⟩=some (.slice p.aa p.an p.ac)/\u2.cell? ⟨X+1,0,none⟩=some (.int .u64 t)/\u2.cell? ⟨X+1,1,none⟩=some (.int .u64 d)/\u2.cell? ⟨X+1,2,none⟩=some (.int .u64 st)/\u2.cell? ⟨X+1,3,none⟩=some (.int .i64 r):=⟨(HVK.out.next hb2).cell,(HVK.out.next hb2).cell,(HVK.out.next hb2).cell,(HVO.out.next hb2).cell,(HVO.out.next hb2).cell,(HVO.out.next hb2).cell,(HVO.out.next hb2).cell⟩;refine hK.out _ _ hS72 (fun hX9=>?_);clear hK K hX9 hyd hY1 hg1 hb2 hS7;refine rd 4 rfl (fun K hK=>?_);go_simp;have HRo:=aH (rounds_any Y (fV t d st r) ⟨t,d,st,r,rfl⟩ u2);go_wp2_with (go_at_call 38;refine HRo.out.mono ?_;rintro e u3 ⟨rfl,hu3⟩)
   obtain⟨Yb,hYb⟩:=aE u2.heap.size;have hzb:(u2.alloc (.cells #[.pointer (some ⟨Y,0,none⟩)] 62)).heap.size=Yb+1:=by rw[World.size_alloc,hYb]
   have hb3:Below u2.heap.size u2 u3:=by rw[hu3];exact after (aC _ _) (aC _ _)
   have hyb:RB u3 Yb #[.pointer (some ⟨Y,0,none⟩)] 62:=by rw[hu3,hYb];exact(aQ _ _ _).next (aC _ _)
   have hob:RB u3 (Yb+1) (fV t d st r) 28:=by rw[hu3,<-hzb];exact aQ _ _ _
   have hzu:u3.heap.size=Yb+2:=by rw[hu3,World.size_alloc,hzb]
   obtain⟨hyd,hY1,hg1,hb2⟩:=HYD.out;have HRD:Hid (RDy p L w u3 Y g Yb (Yb+1) (fV t d st r)):=aH ⟨after HVw.out (after hb2 hb3),hyd.next hb3,hyb,hob⟩;have HLs:Hid (RB u3 Bl kD 44):=aH ((HVL.out.next hb2).next hb3);have HZ3:Hid (RB u3 (X+2) kD 44):=aH ((HVZ.out.next hb2).next hb3);have HNs:Hid (w.heap.size+3<=Bl/\Bl<Y/\Bl<g/\Y<Yb/\g<Yb/\u3.heap.size=Yb+2):=aH (by
    have h1:=HBs.out;have h2:=lt_of_block hyd.yy;have h3:=lt_of_block hyd.gg;omega)
   have hS73:u3.cell? ⟨X,0,none⟩=some (.slice p.ra p.rn p.rc)/\u3.cell? ⟨X,1,none⟩=some (.slice p.la p.ln p.lc)/\u3.cell? ⟨X,2,none⟩=some (.slice p.aa p.an p.ac)/\u3.cell? ⟨X+1,0,none⟩=some (.int .u64 t)/\u3.cell? ⟨X+1,1,none⟩=some (.int .u64 d)/\u3.cell? ⟨X+1,2,none⟩=some (.int .u64 st)/\u3.cell? ⟨X+1,3,none⟩=some (.int .i64 r):=⟨((HVK.out.next hb2).next hb3).cell,((HVK.out.next hb2).next hb3).cell,((HVK.out.next hb2).next hb3).cell,((HVO.out.next hb2).next hb3).cell,((HVO.out.next hb2).next hb3).cell,((HVO.out.next hb2).next hb3).cell,((HVO.out.next hb2).next hb3).cell⟩;rw[<-hu3,<-hYb];clear hzb hb3 hyb hob hzu hyd hY1 hg1 hb2 hS72 hYb hu3 HYD HRo;refine hK.out _ _ hS73 (fun hX9=>?_);clear hK K hX9 hS73;refine wpAnyH_done (by kernel_rfl) ?_ _;unfold onlyN;go_simp;go_wp2_with fail
   refine(wpIn_wide (n:=4)).1 ?_;refine pW rfl (by omega) (gf:=71) (lb:=#[.pointer (some ⟨Yb,0,none⟩),.pointer (some ⟨Yb+1,0,none⟩)]) rfl trivial (enters_of Tryz.func71 (by kernel_rfl) rfl)
    Bl (by have:=HNs.out;omega) (S:=fun H x W=>PlanV S L align rep t d r H x W/\Below w.heap.size w W) (fun x W=>∃(aA:Option Addr) (nA cA:Nat) (aV:Option Addr) (nV cV:Nat) (aW:Option Addr) (nW cW:Nat) (k:Int),x=.agg #[.slice aA nA cA,.slice aV nV cV,.slice aW nW cW,.int .i64 k]/\RB W Bl #[.slice aA nA cA,.slice aV nV cV,.slice aW nW cW,.int .i64 k] 44/\RB W (X+2) kD 44) ?inv ?seq rfl plan0 ⟨_,_,_,_,_,_,_,_,_,_,rfl,HLs.out,HZ3.out⟩
    (fun x a' W'=>∃X9,a'={ tmps:=#[.slice p.ua p.n p.uc,p.kp,.agg (fV t d st r),undef,.pointer (some ⟨X,0,none⟩),.pointer (some ⟨X+1,0,none⟩),.pointer (some ⟨X+1+1,0,none⟩),.int .i64 0,.pointer (some ⟨Bl,0,none⟩),.pointer (some ⟨X9,0,none⟩),.agg #[.int .u64 t,.int .u64 d,.int .u64 st,.int .i64 r],.bool true,.bool false,.bool false,.slice p.ua p.n p.uc,.agg #[.slice p.ra p.rn p.rc,.slice p.la p.ln p.lc,.slice p.aa p.an p.ac],.bool true,.bool false,.bool false,undef,.slice p.ua p.n p.uc,.agg #[.slice p.ra p.rn p.rc,.slice p.la p.ln p.lc,.slice p.aa p.an p.ac],.pointer (some ⟨Y,0,none⟩),.agg #[.int .u64 t,.int .u64 d,.int .u64 st,.int .i64 r],.func (.func 71) #[] #[.pointer (some ⟨Yb,0,none⟩),.pointer (some ⟨Yb+1,0,none⟩)],x,undef,undef],defers:=[] }/\Bl<X9/\∃(aA:Option Addr) (nA cA:Nat) (aV:Option Addr) (nV cV:Nat) (aW:Option Addr) (nW cW:Nat) (k:Int),x=.agg #[.slice aA nA cA,.slice aV nV cV,.slice aW nW cW,.int .i64 k]/\RB W' X9 #[.slice aA nA cA,.slice aV nV cV,.slice aW nW cW,.int .i64 k] 44) ?ax ?assign ?body ?done
   case inv=>
    rintro x A B ⟨aA,nA,cA,aV,nV,cV,aW,nW,cW,k,rfl,h1,h2⟩ hb;have h3:=HNs.out;have h4:=HBs.out;exact⟨_,_,_,_,_,_,_,_,_,_,rfl,(hb.block Bl (by omega)).trans h1,(hb.block (X+2) (by omega)).trans h2⟩
   case seq=>
    intro l J W hbW hl1 hl2 hJ hY x0 h0;obtain⟨hLQ,hn,hlt,hla,hsy,hgc⟩:=HAll.out;have h3:=HNs.out;have h4:=sE HGb.out.symm;have hrd:=HRD.out.next hbW;have haa:=HLQ.out.ha;refine(rounds1_in 3 p S rep L align Y g Yb (Yb+1) l Bl t d st r w W Lm hrd hLQ hn hlt HSe.out HLQ.out.hs HLQ.out.hno (fun m hm r hr=>(HLQ.out.hg m hm).rels r hr) hla haa HLQ.out.hr hsy hgc HT0.out.1 h4.1 HT0.out.2 h4.2.1 ⟨by omega,by omega⟩ (by omega) hl2 (by omega) (by omega) (by omega) (by omega) J hJ hY x0 h0).mono ?_;rintro e W' ⟨hv,x,hj,hp,hb⟩;exact⟨hv,x,hj,hp,hb⟩
   case ax=>
    rintro x a' A B l ⟨X9,ha,hX,aA,nA,cA,aV,nV,cV,aW,nW,cW,k,hx,h1⟩ hk hl ⟨rc,hrc⟩;refine⟨X9,ha,hX,aA,nA,cA,aV,nV,cV,aW,nW,cW,k,hx,hk.rb h1 (lt_of_block h1) ?_ ?_⟩;all_goals
     rintro rfl;rw[show A.heap[X9]?=_ from h1]at hrc;cases hrc
   case assign=>
    rintro l x0 x W K ⟨aA,nA,cA,aV,nV,cV,aW,nW,cW,k,rfl⟩ ⟨bA,mA,dA,bV,mV,dV,bW,mW,dW,k2,hx0,hR,hZ9⟩ hK;have HKK:=aH (hK { tmps:=#[.slice p.ua p.n p.uc,p.kp,.agg (fV t d st r),undef,.pointer (some ⟨X,0,none⟩),.pointer (some ⟨X+1,0,none⟩),.pointer (some ⟨X+1+1,0,none⟩),.int .i64 0,.pointer (some ⟨Bl,0,none⟩),.pointer (some ⟨W.heap.size,0,none⟩),.agg #[.int .u64 t,.int .u64 d,.int .u64 st,.int .i64 r],.bool true,.bool false,.bool false,.slice p.ua p.n p.uc,.agg #[.slice p.ra p.rn p.rc,.slice p.la p.ln p.lc,.slice p.aa p.an p.ac],.bool true,.bool false,.bool false,undef,.slice p.ua p.n p.uc,.agg #[.slice p.ra p.rn p.rc,.slice p.la p.ln p.lc,.slice p.aa p.an p.ac],.pointer (some ⟨Y,0,none⟩),.agg #[.int .u64 t,.int .u64 d,.int .u64 st,.int .i64 r],.func (.func 71) #[] #[.pointer (some ⟨Yb,0,none⟩),.pointer (some ⟨Yb+1,0,none⟩)],.agg #[.slice aA nA cA,.slice aV nV cV,.slice aW nW cW,.int .i64 k],undef,undef],defers:=[] } (W.alloc (.cells #[.slice aA nA cA,.slice aV nV cV,.slice aW nW cW,.int .i64 k] 44)) (World.grownBy_alloc W _ none) ⟨W.heap.size,rfl,lt_of_block hR,_,_,_,_,_,_,_,_,_,_,rfl,aQ _ _ _⟩);clear hK hR hZ9;gi_wp2;exact HKK.out
   case body=>
    rintro l x0 x a' W hgx ⟨bA,mA,dA,bV,mV,dV,bW,mW,dW,k2,hx0,hR,hZ9⟩ ⟨X9,rfl,hX,aA,nA,cA,aV,nV,cV,aW,nW,cW,k,rfl,h1⟩;obtain⟨⟨z0,z1,z2,z3⟩,q0,q1,q2,q3⟩:=fD hR;obtain⟨⟨y0,y1,y2,y3⟩,-⟩:=fD h1;have HF:=aH (oT (a:=.slice aA nA cA) (b:=.slice aV nV cV) (c:=.slice aW nW cW) (d:=.int .i64 k) hR);have HF2:Hid (RB (set4 W Bl (.slice aA nA cA) (.slice aV nV cV) (.slice aW nW cW) (.int .i64 k)) (X+2) kD 44):=aH ((grow_set4.block (X+2) (lt_of_block hZ9) (by simp;have:=HBs.out;omega)).trans hZ9);clear hR hZ9 h1 hgx;gi_wp2;refine⟨grow_set4,aA,nA,cA,aV,nV,cV,aW,nW,cW,k,?_,HF.out,HF2.out⟩;simp
   case done=>
    rintro x W W' ⟨hP,hb⟩ hyk ⟨aA,nA,cA,aV,nV,cV,aW,nW,cW,k,rfl,hR,hZ9⟩ hD;obtain⟨⟨y0,y1,y2,y3⟩,-⟩:=fD hR;obtain⟨⟨z0,z1,z2,z3⟩,q0,q1,q2,q3⟩:=fD hZ9;have h3:=HNs.out;have h4:=HBs.out;obtain⟨D,hDe⟩:=aE u3.heap.size;rw[<-hDe]at hP hyk hD⊢;obtain⟨U1,hU1⟩:=aE (set4 W' (X+2) (.slice aA nA cA) (.slice aV nV cV) (.slice aW nW cW) (.int .i64 k));have hg1:W'.grownBy U1 (some (X+2)):=by rw[hU1];exact grow_set4
    have hD1:U1.heap[D]?=some (.deferred (some [])):=(hg1.block D (lt_of_block hD) (by simp;omega)).trans hD;have hF1:RB U1 (X+2) #[.slice aA nA cA,.slice aV nV cV,.slice aW nW cW,.int .i64 k] 44:=by rw[hU1];exact oT hZ9
    have HF:=aH (show RB (U1.putObj D (.deferred none)) (X+2) #[.slice aA nA cA,.slice aV nV cV,.slice aW nW cW,.int .i64 k] 44 from(World.putObj_heap_other (by omega)).trans hF1);have HP:Hid (PlanV S L align rep t d r w.heap.size (.agg #[.slice aA nA cA,.slice aV nV cV,.slice aW nW cW,.int .i64 k]) (U1.putObj D (.deferred none))):=aH (hP.to (fun e sz ad q c xs ho=>by
     have a1:=hyk.own ho (Nat.le_refl _) (by omega) (by omega);have a2:=own_grown a1 hg1 (fun j hj=>by cases hj;omega);exact Pl.own_down ((yk_put (H:=U1.heap.size) (l:=D) (B:=D) (o:=.deferred none)).own a2 (Nat.le_refl _) (by omega) (by omega)) (by omega)))
    have HBw:Hid (Below w.heap.size w (U1.putObj D (.deferred none))):=aH (by
     have a1:Below w.heap.size w W':=hb.trans (hyk.below (by omega) (by omega) (by have:=hb.size;omega));have a2:Below w.heap.size w U1:=by rw[hU1];exact kN a1 (by omega)
     exact a2.trans (pF (by omega)))
    have HD1:=aH hD1;have HU1:Hid ((((W'.setCell ⟨X+1+1,0,none⟩ (.slice aA nA cA)).setCell ⟨X+1+1,1,none⟩ (.slice aV nV cV)).setCell ⟨X+1+1,2,none⟩ (.slice aW nW cW)).setCell ⟨X+1+1,3,none⟩ (.int .i64 k)=U1):=aH hU1.symm;clear hP hb hyk hR hZ9 hD hg1 hD1 hF1 hU1 hDe h3 h4;go_wp2_with fail
    rw[HU1.out];refine⟨by simp,.inl ⟨D,_,rfl,run_takeDeferred HD1.out,?_⟩⟩;refine ⟨_,eU (P:=Tryz.prog) rfl _ _ (X+2) 44 _ (0,0) _ (.int .i64 0) rfl HF.out Tryz.underlying44 rfl (by kernel_rfl) rfl,.inl ⟨⟨trivial,HQ.out⟩,_,rfl,?_,HBw.out⟩⟩;have h9:=HP.out;rw[HLe.out]at h9;exact h9
end Go.Proofs.YtiohgaghmnpplaaGreatDoor
