/- Slices as lists: what the cells of a slice hold, kept over whatever is laid above; no function of the program in sight. A drawn region by hand, short. Plain arithmetic on powers of two and on masks of ones; no Go in sight. The frame that all laws of this seat share. The frame that all laws of this seat share: a call that returns true, and of what was there turns nothing, meets a law's row. Plain facts on rotations, bit by bit; no Go in sight. Plain facts on masks: numbers of 64 bits that are some bits again and again; no Go in sight. Plain facts on the count of ones, byte by byte; no Go in sight. What the functions of bits and of its reference answer (lowest bits, powers, sizes), for masks. What both Rotate functions answer, for every input. What the small functions of masks answer. What the loops of masks answer. Sizes, rows of ones, trailing zeros. Trailing zeros, by the library's table; how much a part is turned. The closure that tells sizes; Size. mask.Size. mask.make64. Plain facts on turns; no Go in sight. The answer of find, as a plain function. Masks as patterns: each has one shape, and the shape is what is found; no Go in sight. mask.find. mask.Is, mask.Encode. -/
import Derived.Test.YtiohgaghmnpplaaGreatDoorRows
import Derived.WalkKit
import Derived.WalkSpells
import Derived.WalkLawsBesides
import Derived.Lib.Hide
import Derived.OpenShut
import Derived.Laws.AppendOwnNone
import Derived.Deep.Slices
import Derived.Deep.Fields
import Derived.ChangeSame
import Derived.Deep.RegionHeld
import Derived.ProofKit
import Derived.Shelf.Spec.TrailingZeros
import Derived.Deep.QuietTactic
import Derived.BigQuiet
import Derived.Outline
set_option maxHeartbeats 1000000
set_option linter.unusedVariables false
set_option linter.unusedSimpArgs false
namespace Go.Proofs.YtiohgaghmnpplaaGreatDoor
section
open Go.ChangeShapes Go.WideShapes Go.Deep Go.RowKit
def bQ (v:Value)(w:World)(e:Ending)(w':World):Prop:=e=.returned v/\w=w'
theorem bO {a b:Bool}{w:World}(h:a=b):bQ (.bool b) w (.returned (.bool a)) w:=⟨by rw[h],rfl⟩
theorem bK {k:IntKind}{a b:Int}{w:World}(h:a=b):bQ (.int k b) w (.returned (.int k a)) w:=⟨by rw[h],rfl⟩
abbrev two (k l:IntKind)(p:Int×Int):Value:=.tuple #[.int k p.1,.int l p.2]
theorem bI {k l:IntKind}{a b:Int}{p:Int×Int}{w:World}(h:p=(a,b)):bQ (two k l p) w (.returned (.tuple #[.int k a,.int l b])) w:=by subst h;exact⟨rfl,rfl⟩
def aP (v:Value)(w:World)(e:Ending)(w':World):Prop:=e=.returned v/\Below w.heap.size w w'
theorem aB {a b:Bool}{w w':World}(h:a=b)(hb:Below w.heap.size w w'):aP (.bool b) w (.returned (.bool a)) w':=⟨by rw[h],hb⟩
def kP (v:Value)(w:World)(e:Ending)(w':World):Prop:=e=.returned v/\∃n,w'=w.drewN n
theorem retD_int {k:IntKind}{a b:Int}{w:World}(h:a=b)(n:Nat):kP (.int k b) w (.returned (.int k a)) (w.drewN n):=by subst h;exact⟨rfl,n,rfl⟩
theorem rN {k l:IntKind}{a b:Int}{p:Int×Int}{w:World}(h:p=(a,b))(n:Nat):kP (two k l p) w (.returned (.tuple #[.int k a,.int l b])) (w.drewN n):=by subst h;exact⟨rfl,n,rfl⟩
theorem eA (w:World)(n:Nat):Below w.heap.size w (w.drewN n):=below_drewN (Below.refl _ _) n
theorem after {w a b:World}(h:Below w.heap.size w a)(k:Below a.heap.size a b):Below w.heap.size w b:=h.trans (k.mono h.size)
theorem eW {α:Type}{l:List α}{k:Nat}(h:k<l.length):l.drop k=l[k] :: l.drop (k+1):=List.drop_eq_getElem_cons h
theorem bM {w:World}{a:Addr}{v:Value}(h:w.cell? a=some v):a.block<w.heap.size:=by
 apply Classical.byContradiction;intro hn;have:w.heap[a.block]?=none:=by simp;omega
 simp[World.cell?,this]at h
theorem cell_spot {w:World}{a:Addr}{v:Value}(h:w.cell? a=some v):a.spot=none:=by
 cases hs:a.spot with
 |none=>rfl
 |some x=>
  unfold World.cell? at h;split at h
  ·simp[hs]at h
  ·cases h
theorem add_none (b off n:Nat):(⟨b,off,none⟩:Addr).add n=⟨b,off+n,none⟩:=by
 unfold Addr.add;by_cases h:n=0
 ·simp[h]
 ·simp[h]
structure SL {α:Type}(enc:α->List Value)(sz:Nat)(w:World)(B:Nat)(a:Option Addr)(n:Nat)(l:List α):Prop where
 len:n=l.length
 cells:l≠ []->∃b off,a=some ⟨b,off,none⟩/\b<B/\∀k (h:k<l.length) j,j<sz->w.cell? ⟨b,off+k*sz+j,none⟩=(enc l[k])[j]?
variable {α:Type} {enc:α->List Value} {sz:Nat}
theorem SL.nil (w:World)(B:Nat)(a:Option Addr):SL enc sz w B a 0 []:=⟨rfl,fun h=>(h rfl).elim⟩
theorem SL.below {w w':World}{B:Nat}{a:Option Addr}{n:Nat}{l:List α}(h:SL enc sz w B a n l)(hb:Below B w w'):SL enc sz w' B a n l:=
 ⟨h.len,fun hl=>by
  obtain⟨b,off,e,hB,hc⟩:=h.cells hl;exact⟨b,off,e,hB,fun k hk j hj=>(hb.cell (p:=⟨b,off+k*sz+j,none⟩) hB).trans (hc k hk j hj)⟩⟩
theorem SL.up {w:World}{B:Nat}{a:Option Addr}{n:Nat}{l:List α}(h:SL enc sz w B a n l){B':Nat}(hB:B<=B'):SL enc sz w B' a n l:=
 ⟨h.len,fun hl=>by obtain⟨b,off,e,h1,h2⟩:=h.cells hl;exact⟨b,off,e,by omega,h2⟩⟩
theorem SL.next {w w':World}{a:Option Addr}{n:Nat}{l:List α}(h:SL enc sz w w.heap.size a n l)(hb:Below w.heap.size w w'):SL enc sz w' w'.heap.size a n l:=
 (h.below hb).up hb.size
theorem SL.ne {w:World}{B:Nat}{a:Option Addr}{n:Nat}{l:List α}(h:SL enc sz w B a n l){k:Nat}(hk:k<n):l≠ []:=by
 intro e;have:=h.len;rw[e]at this;simp at this;omega
theorem nZ (henc:∀x,(enc x).length=sz)(l:List α):(l.flatMap enc).length=l.length*sz:=by
 induction l with
 |nil=>simp
 |cons f r ih=>rw[List.flatMap_cons,List.length_append,ih,henc,List.length_cons,Nat.succ_mul];omega
theorem sF (henc:∀x,(enc x).length=sz)(l:List α)(k:Nat)(h:k<l.length)(j:Nat)(hj:j<sz):(l.flatMap enc)[k*sz+j]?=(enc l[k])[j]?:=by
 induction l generalizing k with
 |nil=>simp at h
 |cons f r ih=>
  rw[List.flatMap_cons];cases k with
  |zero=>rw[List.getElem?_append_left (by rw[henc];omega)];simp
  |succ k=>
   rw[List.getElem?_append_right (by rw[henc,Nat.succ_mul];omega),henc,show(k+1)*sz+j-sz=k*sz+j from by rw[Nat.succ_mul];omega];simpa using ih k (by simpa using h)
theorem SL.news {w:World}{B:Nat}{ad:Addr}{n:Nat}{l:List α}(henc:∀x,(enc x).length=sz)(hsz:0<sz)(h:SL enc sz w B (some ad) n l):
  ∀j u,(l.flatMap enc)[j]?=some u->w.cell? (ad.add j)=some u:=by
 intro j u hj;have hlt:j<l.length*sz:=by
  rw[<-nZ henc];exact(List.getElem?_eq_some_iff.1 hj).1
 by_cases hl:l=[]
 ·subst hl;simp at hlt
 obtain⟨b,off,e,hB,hc⟩:=h.cells hl;obtain rfl:=Option.some.inj e;have hk:j/sz<l.length:=(Nat.div_lt_iff_lt_mul hsz).2 hlt;have hr:j%sz<sz:=Nat.mod_lt _ hsz;have e1:j/sz*sz+j%sz=j:=by rw[Nat.mul_comm];exact Nat.div_add_mod j sz
 have g:=sF henc l (j/sz) hk (j%sz) hr;have c:=hc (j/sz) hk (j%sz) hr;rw[e1]at g;rw[add_none,show off+j=off+j/sz*sz+j%sz from by omega,c,<-g];exact hj
theorem SL.ofOwns {w:World}{base:Nat}{e:TypeId}{v:Value}{n:Nat}{l:List α}(henc:∀x,(enc x).length=sz)(hsz:0<sz)(hown:w.ownsRow base e sz v n (l.flatMap enc)):
  ∃a c,v=.slice a n c/\SL enc sz w w.heap.size a n l/\(a=none->n=0/\c=0):=by
 have hl:n=l.length:=by
  have:=hown.1;rw[nZ henc]at this;exact(Nat.eq_of_mul_eq_mul_right hsz this).symm
 rcases hown.2 with⟨rfl,rfl⟩|⟨g,cap,cur,rfl,hbg,hgg,_,_,hcs,htk⟩
 ·have:l=[]:=by cases l with|nil=>rfl|cons=>simp at hl
  subst this;exact⟨none,0,rfl,SL.nil _ _ _,fun _=>⟨rfl,rfl⟩⟩
 ·refine⟨some ⟨g,0,none⟩,cap,rfl,⟨hl,fun hne=>⟨g,0,rfl,?_,fun k hk j hj=>?_⟩⟩,by simp⟩
  ·apply Classical.byContradiction;intro hn;have:w.heap[g]?=none:=by simp;omega
   rw[this]at hgg;cases hgg
  ·have hlt:k*sz+j<n*sz:=by
    have:k+1<=n:=by omega
    have:=Nat.mul_le_mul_right sz this;rw[Nat.succ_mul]at this;omega
   have c0:=hown.cellAt (k*sz+j) hlt;rw[Nat.zero_add,c0,sF henc l k hk j hj]
theorem SL.lit (w:World)(T:TypeId)(l:List α)(henc:∀x,(enc x).length=sz)(hsz:0<sz)(cs:Array Value)(hcs:cs.toList=l.flatMap enc)(n:Nat)(hn:n=l.length):
  SL enc sz (w.alloc (.cells cs T)) (w.heap.size+1) (some ⟨w.heap.size,0,none⟩) n l:=by
 refine⟨hn,fun _=>⟨w.heap.size,0,rfl,by omega,fun k hk j hj=>?_⟩⟩;have e:=(MapKept.heap_alloc w (.cells cs T)).1;unfold World.cell?;rw[e];simp only[Nat.zero_add];rw[<-sF henc l k hk j hj,<-hcs];simp
section
variable {H:Type} {encH:TypeId×Value->H} {P:Program} {w:World} {base:Nat} {spare:Nat->Bool} {held:Bool}
theorem lB {t e:TypeId}{fs:Array Field}{fuel:Nat}{cs:List Value}{x:DataW H×List MemPlace}(ht:P.underlying t=some (.slice e))(he:P.underlying e=some (.struct fs))
  (hone:oneCellFields P fs=true) (hC:P.cellsOf e=fs.size) (h:DataW.trod encH P w base spare held fuel t cs=some x):
  (cs=[.slice none 0 0]/\x=(.nil,[]))\/
  ∃(a:Addr) (len cap m:Nat) (D:Nat->DataW H) (Pl:Nat->List MemPlace),cs=[.slice (some a) len cap]/\base<=a.block/\len<=cap/\cap<=maxLen/\m=(if spare a.block then cap else len)/\
   x=(.slice ((List.range len).map D) ((List.range (m-len)).map fun j=>D (len+j)),MemPlace.row a (m*fs.size)++(List.range m).flatMap Pl)/\
   ∀i,i<m->∃(ys:List (DataW H×List MemPlace)) (n:Nat),D i=.agg (ys.map (·.1))/\Pl i=ys.flatMap (·.2)/\ys.length=fs.size/\
    ∀(j:Nat) (f:Field),fs[j]?=some f->∃(v:Value) (y:DataW H×List MemPlace),w.cell? (a.add (i*fs.size+j))=some v/\ys[j]?=some y/\DataW.trod encH P w base spare held n f.type [v]=some y:=by
 rcases open_slice ht h with h0|⟨a,len,cap,m,n,D,Pl,hcs,hb,hl,hm,hmm,hx,hi⟩
 ·exact .inl h0
 ·refine .inr ⟨a,len,cap,m,D,Pl,hcs,hb,hl,hm,hmm,by rw[hC]at hx;exact hx,fun i him=>?_⟩;obtain⟨cs',hc,ht'⟩:=hi i him;rw[hC]at hc;obtain⟨ys,n',hn',hy,hlen,hyl,hf⟩:=DataW.trod_struct he ht';obtain⟨_,hcl,hat⟩:=World.cells?_some hc;simp only[Prod.mk.injEq]at hy;refine⟨ys,n',hy.1,hy.2,hyl,fun j f hj=>?_⟩;obtain⟨ho,hk⟩:=hone_of hone j f hj;have hjl:j<fs.size:=(Array.getElem?_eq_some_iff.1 hj).1;have hcell:=hat j hjl;have hv:cs'[j]?=some (cs'[j]'(by omega)):=List.getElem?_eq_getElem (by omega);have h1:=hf j f hj;rw[ho,hk]at h1;have hone':(cs'.drop j).take 1=[cs'[j]'(by omega)]:=by
   rw[List.drop_eq_getElem_cons (by omega)];rfl
  rw[hone']at h1;have hys:ys[j]?=some (ys[j]'(by omega)):=List.getElem?_eq_getElem (by omega);refine⟨_,_,?_,hys,h1.trans hys⟩;rw[<-Go.Deep.add_add,hcell,hv]
end
theorem aH {p:Prop}(h:p):Hid p:=Lib.hid h
theorem aE {α:Type _}(a:α):∃x,x=a:=⟨a,rfl⟩
theorem aG {α:Type _}{l:List α}{i:Nat}(h:i<l.length):∃x,l[i]?=some x:=⟨_,List.getElem?_eq_getElem h⟩
theorem iS {α:Type _}{l:List α}{i:Nat}(h:i<l.length):l[i]?=some l[i]:=List.getElem?_eq_getElem h
theorem eX {α:Type _}{l:List α}{i:Nat}{a:α}(h:l[i]?=some a):∃h:i<l.length,l[i]=a:=List.getElem?_eq_some_iff.1 h
theorem gH {α:Type _}{l:Array α}{i:Nat}{a:α}(h:l[i]?=some a):∃h:i<l.size,l[i]=a:=Array.getElem?_eq_some_iff.1 h
theorem aL {n j:Nat}(h:Hid (j<n))(hw:Hid (wrap64 ((j:Int)+1)=(j:Int)+1)):n-(intOf (.int .i64 (wrap64 ((j:Int)+1)))).toNat<n-(intOf (.int .i64 (j:Int))).toNat:=by
 have:=h.out;have e1:(intOf (.int .i64 ((j:Int)+1))).toNat=j+1:=by show((j:Int)+1).toNat=j+1;omega
 have e2:(intOf (.int .i64 (j:Int))).toNat=j:=by show((j:Int)).toNat=j;omega
 rw[hw.out,e1,e2];omega
theorem aK {n j:Nat}(h:Hid (j<n))(hw:Hid (wrap64 ((j:Int)+1)=(j:Int)+1)):n-(intOf (.int .i64 ((j:Int)+1))).toNat<n-(intOf (.int .i64 (j:Int))).toNat:=by
 have:=aL h hw;rwa[hw.out]at this
theorem eQ {α:Type _}{l:List α}{i:Nat}{a:α}(h:l[i]?=some a):a∈l:=List.mem_of_getElem? h
end
section
open Go.Deep Go.RowKit
section
variable {P:Program} {ops:Array Oper} {Q:Exit->Act->World->Prop} {md:Region.Mode} {S:World->Prop} {o:Oper} {fuel:Nat} {listed:Array Bool} {a:Act} {w:World}
theorem tk (i:Nat)(v:Value)(hi:ops[i]?=some o)(hS:S w)(hy:∀w,S w->(execOp a.eval o).run P w=.ok (.value v) w)(h:wpAnyH P md ops Q S fuel (listed.setIfInBounds i true) (a.put o.dst v) w)
  (hw:Region.wanted o (yielded ops a.tmps)=true:=by kernel_rfl) (hs:Region.noSelect ops=true:=by kernel_rfl) (hf:Region.free md ops listed i=true:=by kernel_rfl) (hr:(Region.ready md ops listed).contains i=true:=by kernel_rfl)
  (hQ:∀c a w,Q (.panic c) (a.put o.dst v) w->Q (.panic c) a w:=by exact fun _ _ _ h=>h):wpAnyH P md ops Q S (fuel+1) listed a w:=
 wpAnyH_take hi hs hf hr hQ (Or.inl ⟨hw,hy⟩) hS h
theorem sk (i:Nat)(hi:ops[i]?=some o)(hS:S w)(h:wpAnyH P md ops Q S fuel (listed.setIfInBounds i true) (a.put o.dst undef) w)
  (hw:Region.wanted o (yielded ops a.tmps)=false:=by kernel_rfl) (hs:Region.noSelect ops=true:=by kernel_rfl) (hf:Region.free md ops listed i=true:=by kernel_rfl) (hr:(Region.ready md ops listed).contains i=true:=by kernel_rfl)
  (hQ:∀c a w,Q (.panic c) (a.put o.dst undef) w->Q (.panic c) a w:=by exact fun _ _ _ h=>h):wpAnyH P md ops Q S (fuel+1) listed a w:=
 wpAnyH_take hi hs hf hr hQ (Or.inr ⟨hw,rfl⟩) hS h
theorem aN (v:Value)(hi:ops[ops.size-(fuel+1)]?=some o)(hS:S w)(h:wpAnyH P md ops Q S fuel (listed.setIfInBounds (ops.size-(fuel+1)) true) (a.put o.dst v) w)
  (hy:∀w,S w->(execOp a.eval o).run P w=.ok (.value v) w:=by intro w hS;(repeat (obtain⟨_,hS⟩:=hS));go_simp;(try with_reducible rfl))
  (hw:Region.wanted o (yielded ops a.tmps)=true:=by kernel_rfl) (hs:Region.noSelect ops=true:=by kernel_rfl) (hf:Region.free md ops listed (ops.size-(fuel+1))=true:=by kernel_rfl) (hr:(Region.ready md ops listed).contains (ops.size-(fuel+1))=true:=by kernel_rfl)
  (hQ:∀c a w,Q (.panic c) (a.put o.dst v) w->Q (.panic c) a w:=by exact fun _ _ _ h=>h):wpAnyH P md ops Q S (fuel+1) listed a w:=
 tk _ v hi hS hy h hw hs hf hr hQ
theorem aO (hi:ops[ops.size-(fuel+1)]?=some o)(hS:S w)(h:wpAnyH P md ops Q S fuel (listed.setIfInBounds (ops.size-(fuel+1)) true) (a.put o.dst undef) w)
  (hw:Region.wanted o (yielded ops a.tmps)=false:=by kernel_rfl) (hs:Region.noSelect ops=true:=by kernel_rfl) (hf:Region.free md ops listed (ops.size-(fuel+1))=true:=by kernel_rfl) (hr:(Region.ready md ops listed).contains (ops.size-(fuel+1))=true:=by kernel_rfl)
  (hQ:∀c a w,Q (.panic c) (a.put o.dst undef) w->Q (.panic c) a w:=by exact fun _ _ _ h=>h):wpAnyH P md ops Q S (fuel+1) listed a w:=
 sk _ hi hS h hw hs hf hr hQ
theorem aI (i:Nat)(v:Value)(hi:ops[i]?=some o)(hS:S w)(h:wpAnyH P md ops Q S fuel (listed.setIfInBounds i true) (a.put o.dst v) w)
  (hy:∀w,S w->(execOp a.eval o).run P w=.ok (.value v) w:=by intro w hS;(repeat (obtain⟨_,hS⟩:=hS));go_simp;(try with_reducible rfl))
  (hw:Region.wanted o (yielded ops a.tmps)=true:=by kernel_rfl) (hs:Region.noSelect ops=true:=by kernel_rfl) (hf:Region.free md ops listed i=true:=by kernel_rfl) (hr:(Region.ready md ops listed).contains i=true:=by kernel_rfl)
  (hQ:∀c a w,Q (.panic c) (a.put o.dst v) w->Q (.panic c) a w:=by exact fun _ _ _ h=>h):wpAnyH P md ops Q S (fuel+1) listed a w:=
 tk i v hi hS hy h hw hs hf hr hQ
theorem rd (i:Nat)(ho:ops[i]?=some o)(h:∀K':Act->World->Prop,Shut (∀a w,S w->(S w->wpAnyH P md ops Q S fuel (listed.setIfInBounds i true) a w)->K' a w)->if Region.wanted o (yielded ops a.tmps)=true then Oper.wp P o a w K' Q else K' (a.put o.dst undef) w)
  (hr:Region.ready md ops listed=[i]:=by kernel_rfl):wpAnyH P md ops Q S (fuel+1) listed a w:=
 wpAnyH_ready hr (by simp) (AllReadyH.cons ho h AllReadyH.nil)
end
theorem aD (w:World):∃V,V=w.drew/\Below w.heap.size w V:=⟨_,rfl,(Below.refl _ _).drew⟩
theorem aS {P:Program}{ops:Array Oper}{Q:Exit->Act->World->Prop}{S:World->Prop}{V w:World}{a:Act}{id:Nat}(hV:V=w.drew)(hS:S V)(h:wpAnyH P .any ops Q S ops.size (Array.replicate ops.size false) a V)(hm:P.follows .mixedOrders=true:=by kernel_rfl):(Code.region id ops true).wp P Q a w:=by
 subst hV;exact wp_region_held_drew hm hS fun _=>h
theorem aR {P:Program}{ops:Array Oper}{Q:Exit->Act->World->Prop}{S:World->Prop}{V w:World}{a:Act}{id:Nat}{C0:World->Prop}(hV:V=w.drew)(hS:∀v,C0 v->S v)(c0:C0 V)(h:wpAnyH P .any ops Q S ops.size (Array.replicate ops.size false) a V)(hm:P.follows .mixedOrders=true:=by kernel_rfl):(Code.region id ops true).wp P Q a w:=
 aS hV (hS V c0) h hm
theorem aR2 {P:Program}{ops:Array Oper}{Q:Exit->Act->World->Prop}{S:World->Prop}{V w:World}{a:Act}{id:Nat}{C0 C1:World->Prop}(hV:V=w.drew)(hS:∀v,C0 v->C1 v->S v)(c0:C0 V)(c1:C1 V)(h:wpAnyH P .any ops Q S ops.size (Array.replicate ops.size false) a V)(hm:P.follows .mixedOrders=true:=by kernel_rfl):(Code.region id ops true).wp P Q a w:=
 aS hV (hS V c0 c1) h hm
theorem aR3 {P:Program}{ops:Array Oper}{Q:Exit->Act->World->Prop}{S:World->Prop}{V w:World}{a:Act}{id:Nat}{C0 C1 C2:World->Prop}(hV:V=w.drew)(hS:∀v,C0 v->C1 v->C2 v->S v)(c0:C0 V)(c1:C1 V)(c2:C2 V)(h:wpAnyH P .any ops Q S ops.size (Array.replicate ops.size false) a V)(hm:P.follows .mixedOrders=true:=by kernel_rfl):(Code.region id ops true).wp P Q a w:=
 aS hV (hS V c0 c1 c2) h hm
theorem aR4 {P:Program}{ops:Array Oper}{Q:Exit->Act->World->Prop}{S:World->Prop}{V w:World}{a:Act}{id:Nat}{C0 C1 C2 C3:World->Prop}(hV:V=w.drew)(hS:∀v,C0 v->C1 v->C2 v->C3 v->S v)(c0:C0 V)(c1:C1 V)(c2:C2 V)(c3:C3 V)(h:wpAnyH P .any ops Q S ops.size (Array.replicate ops.size false) a V)(hm:P.follows .mixedOrders=true:=by kernel_rfl):(Code.region id ops true).wp P Q a w:=
 aS hV (hS V c0 c1 c2 c3) h hm
end
section
open Go.RowKit
theorem kB (k:Nat):1<=(2:Int)^k:=by
 induction k with
 |zero=>decide
 |succ k ih=>rw[Int.pow_succ];omega
theorem pow_mono' {a b:Nat}(h:a<=b):(2:Int)^a<=2^b:=by
 obtain⟨c,rfl⟩:=Nat.le.dest h;rw[Int.pow_add];have h1:=kB a;have h2:=kB c;have:=Int.mul_le_mul_of_nonneg_left h2 (show(0:Int)<=2^a by omega);omega
theorem kC (k m:Nat)(h:k<=m)(M:Int)(hm:(2:Int)^m=M):1<=(2:Int)^k/\(2:Int)^k<=M:=⟨kB k,hm▸pow_mono' h⟩
theorem pP (n:Int)(h:n<=32):1<=(2:Int)^n.toNat/\(2:Int)^n.toNat<=4294967296:=kC _ 32 (by omega) _ (by decide)
theorem pow63 (n:Int)(h:n<=63):1<=(2:Int)^n.toNat/\(2:Int)^n.toNat<=9223372036854775808:=kC _ 63 (by omega) _ (by decide)
theorem bD (k:Nat):((2^k:Nat):Int)=(2:Int)^k:=by simp
theorem and_compl (v k m:Nat)(hk:k<=m)(hv:v<2^m):v&&&(2^m-1-(2^k-1))=v/2^k*2^k:=by
 apply Nat.eq_of_testBit_eq;intro i;have e:2^m-1-(2^k-1)=2^k*(2^(m-k)-1):=by
  have:2^m=2^k*2^(m-k):=by rw[<-Nat.pow_add];congr 1;omega
  rw[Nat.mul_sub_one,<-this];have:=Nat.one_le_two_pow (n:=k);omega
 rw[e,Nat.testBit_and,Nat.testBit_two_pow_mul,Nat.mul_comm,Nat.testBit_two_pow_mul,Nat.testBit_two_pow_sub_one,Nat.testBit_div_two_pow];by_cases h:i>=k
 ·have:k+(i-k)=i:=by omega
  have h2:i-k+k=i:=by omega
  by_cases h3:i<m
  ·simp[h,this,h2];intro;omega
  ·have:v.testBit i=false:=Nat.testBit_lt_two_pow (Nat.lt_of_lt_of_le hv (Nat.pow_le_pow_right (by decide) (by omega)));simp[h,h2,this]
 ·simp[h]
theorem andNot_ones_nat (v k:Nat)(h1:v<4294967296)(hk:k<=32):
  bits BinOp.andNot IntKind.u32 (v:Int) ((2:Int)^k-1)=((v/2^k*2^k:Nat):Int):=by
 have hp:=kC k 32 hk 4294967296 (by decide);have e:((2:Int)^k-1)=((2^k-1:Nat):Int):=by
  have:=Nat.one_le_two_pow (n:=k);rw[Int.ofNat_sub this,bD];rfl
 have e2:2^k<=2^32:=Nat.pow_le_pow_right (by decide) hk;rw[e,u32_andNot_nat _ _ h1 (by omega)];have:=and_compl v k 32 hk (by omega);simp only[show(4294967295:Nat)=2^32-1 from rfl,this]
theorem andNot_ones (v n:Int)(h0:0<=v)(h1:v<4294967296)(hn:0<=n)(hn':n<=32):
  (bits BinOp.andNot IntKind.u32 v (2 ^ n.toNat - 1) != 0)=decide ((2:Int) ^ n.toNat<=v):=by
 obtain⟨k,rfl⟩:=Int.eq_ofNat_of_zero_le hn;obtain⟨v,rfl⟩:=Int.eq_ofNat_of_zero_le h0;rw[Int.toNat_natCast,andNot_ones_nat v k (by omega) (by omega)];have h2:(2:Nat)^k>=1:=Nat.one_le_two_pow;rw[Bool.eq_iff_iff];simp only[bne_iff_ne,decide_eq_true_eq,<-bD];constructor
 ·intro h;apply Classical.byContradiction;intro h3;apply h;rw[Nat.div_eq_of_lt (by omega)];simp
 ·intro h h3;have h4:v/2^k>=1:=(Nat.one_le_div_iff (by omega)).2 (by omega);have h5:v/2^k*2^k>=1*2^k:=Nat.mul_le_mul_right _ h4;omega
theorem div_eq_one (v:Int) (k:Nat) (h:v < 2 ^ (k+1)):(v / 2 ^ k == 1)=decide ((2:Int) ^ k<=v):=by
 have hp:=kB k;rw[Int.pow_succ]at h;rw[Bool.eq_iff_iff];simp only[beq_iff_eq,decide_eq_true_eq];constructor
 ·intro e;have:=Int.ediv_mul_le v (show(2:Int)^k≠0 by omega);rw[e]at this;omega
 ·intro e;have h1:(1:Int)<=v/2^k:=(Int.le_ediv_iff_mul_le (by omega)).2 (by omega);have h2:v/2^k<2:=(Int.ediv_lt_iff_lt_mul (by omega)).2 (by omega);omega
theorem wrap_ones (n:Int)(h:n<=63):IntKind.u64.wrap (IntKind.u64.wrap (2^n.toNat)-1)=2^n.toNat-1:=by
 have:=pow63 n h;simp only[IntKind.wrap_u64];omega
theorem and_ones64 (v n:Int)(h0:0<=v)(h1:v<18446744073709551616)(hn:0<=n)(h:n<=63):
  bits BinOp.and IntKind.u64 v (2^n.toNat-1)=v%2^n.toNat:=by
 have hp:=pow63 n h;obtain⟨k,rfl⟩:=Int.eq_ofNat_of_zero_le hn;obtain⟨v,rfl⟩:=Int.eq_ofNat_of_zero_le h0;rw[Int.toNat_natCast]at hp⊢;have e:((2:Int)^k-1)=((2^k-1:Nat):Int):=by
  have:=Nat.one_le_two_pow (n:=k);rw[Int.ofNat_sub this,bD];rfl
 have e2:2^k<=2^63:=Nat.pow_le_pow_right (by decide) (by omega);rw[e,u64_and_nat _ _ (by omega) (by omega),Nat.and_two_pow_sub_one_eq_mod,<-bD];rfl
theorem qR (v n:Int)(h0:0<=v)(h1:v<4294967296)(hn:0<=n)(h:n<=32):
  bits BinOp.and IntKind.u32 v (2^n.toNat-1)=v%2^n.toNat:=by
 have hp:=pP n h;obtain⟨k,rfl⟩:=Int.eq_ofNat_of_zero_le hn;obtain⟨v,rfl⟩:=Int.eq_ofNat_of_zero_le h0;rw[Int.toNat_natCast]at hp⊢;have e:((2:Int)^k-1)=((2^k-1:Nat):Int):=by
  have:=Nat.one_le_two_pow (n:=k);rw[Int.ofNat_sub this,bD];rfl
 have e2:2^k<=2^32:=Nat.pow_le_pow_right (by decide) (by omega);rw[e,u32_and_nat _ _ (by omega) (by omega),Nat.and_two_pow_sub_one_eq_mod,<-bD];rfl
end
section
open Go.ChangeShapes Go.WideShapes Go.ChangeAt Go.RowKit
theorem own:ownKnob Tryz.prog.godebug=none:=by kernel_rfl
theorem trodAll_below {H:Type}{enc:TypeId×Value->H}{P:Program}(hl:laidOutB P=true){W W':World}(hb:Below W.heap.size W W'):
  ∀(ts:List TypeId) (vs:List Value) (ds:List (DataW H)) (ps:List MemPlace),(∀t∈ts,P.readableRec t=true/\t<P.types.size)->DataW.TrodAll enc P W 0 (fun _=>true) true ts vs ds ps->(∀x∈ps,x.block<W.heap.size)->
  DataW.TrodAll enc P W' 0 (fun b=>decide (b < W.heap.size)) true ts vs ds ps:=by
 intro ts;induction ts with
 |nil=>
  intro vs ds ps _ h _;obtain⟨rfl,rfl,rfl⟩:=trodAll_nil h;exact trodAll_mk0
 |cons t ts ih=>
  intro vs ds ps hr h hlt;obtain⟨v,vs,d,ds,p,q,rfl,rfl,rfl,h0,r0⟩:=trodAll_cons h;have h1:=Below.trod hl (hr t (by simp)).1 (hr t (by simp)).2 h0 hb (fun x hx=>hlt x (List.mem_append.2 (.inl hx)));exact trodAll_cons_mk h1 (ih vs ds q (fun t ht=>hr t (List.mem_cons_of_mem _ ht)) r0 (fun x hx=>hlt x (List.mem_append.2 (.inr hx))))
theorem law_post {H:Type}{enc:TypeId×Value->H}{P:Program}{f:Func}{s:ChangeSpec}{W W':World}{args:Array Value}{ds gs:List (DataW H)}{before:List MemPlace}{tb:TypeId}
  (hl:laidOutB P=true) (hr:∀t∈f.params.toList,P.readableRec t=true/\t<P.types.size) (ht:f.resultTypes.toList=[tb]) (hsz:f.resultTypes.size=1) (hu:P.underlying tb=some .bool) (hv:s.vars=[])
  (hs:s.fn H (ds++gs)={ results:=[.lit (.bool true)],args:=ds })
  (hW:DataW.Whole enc P f.params.toList s.vars false W args.toList ds gs before) (hb:Below W.heap.size W W'):s.post enc P f false true false false W args (.bool true) W':=by
 have hW':=hW;obtain⟨p,q,hA,hV,rfl,hfz,hnd⟩:=hW;rw[hv]at hV;obtain⟨rfl,rfl⟩:=trodVars_none hV;have hlt:∀x∈p,x.block<W.heap.size:=fun x hx=>hW'.lt x (List.mem_append.2 (.inl hx))
 refine⟨ds,[],p++ [],[],p,[],hW',?_,?_,?_,hb.frame _,fun h=>by cases h⟩
 ·rw[hs,ht,hsz];exact trodAll_cons_mk (shut_bool hu _) trodAll_mk0
 ·rw[hs];exact trodAll_below hl hb _ _ _ _ hr hA hlt
 ·rw[hv,hs];rfl
theorem wf_i64 {a:Int}(h:(Lit.int .i64 a).wf=true) : -9223372036854775808<=a/\a<=9223372036854775807:=bounds_i64 h
end
section
open Go.RowKit
def rH (v b s:Nat):Nat->Nat
 |0=>0
 |k+1=>rH v b s k|||(v/2^k%2)*2^((k+s-b)%s)
def fB (v b s:Nat):Nat->Nat
 |0=>0
 |i+1=>fB v b s i+if v.testBit ((i+b)%s)then 2^i else 0
theorem modS (a s:Nat)(h:a<2*s):a%s=if a<s then a else a-s:=by
 by_cases c:a<s
 ·rw[if_pos c,Nat.mod_eq_of_lt c]
 ·rw[if_neg c,Nat.mod_eq_sub_mod (by omega),Nat.mod_eq_of_lt (by omega)]
theorem bit_mul (x m j:Nat) (hx:x<=1):(x*2 ^ m).testBit j=(decide (x=1) && decide (j=m)):=by
 have:x=0\/x=1:=by omega
 rcases this with rfl|rfl
 ·simp
 ·rw[Nat.one_mul,Nat.testBit_two_pow];simp[eq_comm]
theorem half_bit (v k:Nat):v/2^k%2=if v.testBit k then 1 else 0:=by
 have:=Nat.testBit_eq_decide_div_mod_eq (x:=v) (i:=k);by_cases h:v/2^k%2=1
 ·simp[this,h]
 ·have:v.testBit k=false:=by simp[this,h]
  simp[this];omega
theorem turnN_bit (v b s:Nat)(hb:b<s)(k:Nat)(hk:k<=s)(j:Nat):
  (rH v b s k).testBit j=(decide (j < s) && (decide ((j+b) % s < k) && v.testBit ((j+b) % s))):=by
 induction k with
 |zero=>simp[rH]
 |succ k ih=>
  rw[rH,Nat.testBit_or,ih (by omega),bit_mul _ _ _ (by omega),half_bit];by_cases hj:j<s
  ·have e1:=modS (j+b) s (by omega);have e2:=modS (k+s-b) s (by omega);by_cases c:(j+b)%s=k
   ·have:j=(k+s-b)%s:=by rw[e1]at c;rw[e2];split at c<;>split<;>omega
    simp only[c];cases hv:v.testBit k<;>simp[hj,this]<;>omega
   ·have:¬j=(k+s-b)%s:=by intro h;apply c;rw[e1];rw[e2]at h;split at h<;>split<;>omega
    have e:((j+b)%s<k+1)=((j+b)%s<k):=by simp only[eq_iff_iff];omega
    simp[this,e]
  ·have:¬j=(k+s-b)%s:=by have:=Nat.mod_lt (k+s-b) (show s>0 by omega);omega
   simp[hj,this]
theorem rL (v b s i:Nat):fB v b s i<2^i:=by
 induction i with
 |zero=>simp[fB]
 |succ i ih=>rw[fB,Nat.pow_succ];split<;>omega
theorem rotN_bit (v b s:Nat) (i j:Nat):(fB v b s i).testBit j=(decide (j < i) && v.testBit ((j+b) % s)):=by
 induction i with
 |zero=>simp[fB]
 |succ i ih=>
  rw[fB];have hl:=rL v b s i;have e:fB v b s i+(if v.testBit ((i+b)%s)then 2^i else 0)=fB v b s i|||(if v.testBit ((i+b)%s)then 2^i else 0):=by
   split
   ·rw[Nat.or_comm,nat_join i _ _ (by simp) hl,Nat.add_comm]
   ·simp
  rw[e,Nat.testBit_or,ih];by_cases c:j=i
  ·subst c;cases v.testBit ((j+b)%s)<;>simp
  ·have h2:(if v.testBit ((i+b)%s)=true then 2^i else 0).testBit j=false:=by
    split
    ·rw[Nat.testBit_two_pow];simp;omega
    ·simp
   rw[h2];have e:(j<i+1)=(j<i):=by simp only[eq_iff_iff];omega
   simp[e]
theorem turn_rot (v b s:Nat)(hb:b<s):rH v b s s=fB v b s s:=by
 apply Nat.eq_of_testBit_eq;intro j;rw[turnN_bit v b s hb s (Nat.le_refl _),rotN_bit];have:=Nat.mod_lt (j+b) (show s>0 by omega);simp[this]
theorem turnN_lt (v b s k:Nat)(hb:b<s)(hk:k<=s):rH v b s k<2^s:=by
 apply Nat.lt_pow_two_of_testBit;intro i hi;rw[turnN_bit v b s hb k hk];simp;omega
theorem or_step (t x m:Nat)(ht:t<18446744073709551616)(hx:x<=1)(hm:m<=63):
  bits BinOp.or IntKind.u64 (t:Int) (IntKind.u64.wrap ((x:Int)*2^m))=((t|||x*2^m:Nat):Int):=by
 have hp:2^m<=2^63:=Nat.pow_le_pow_right (by decide) hm;have hq:x*2^m<=1*2^m:=Nat.mul_le_mul_right _ hx;have e:IntKind.u64.wrap ((x:Int)*2^m)=((x*2^m:Nat):Int):=by
  rw[IntKind.wrap_u64,Int.natCast_mul,bD,Int.emod_eq_of_lt]
  ·rw[<-bD,<-Int.natCast_mul];omega
  ·rw[<-bD,<-Int.natCast_mul];omega
 rw[e,u64_or_nat _ _ ht (by omega)]
theorem and_bit (v k:Nat)(hv:v<18446744073709551616):bits BinOp.and IntKind.u64 ((v:Int)/2^k) 1=((v/2^k%2:Nat):Int):=by
 have e:((v:Int)/2^k)=((v/2^k:Nat):Int):=by rw[<-bD];rfl
 have h:v/2^k<=v:=Nat.div_le_self _ _;have:=u64_and_nat (v/2^k) 1 (by omega) (by decide);rw[nat_mask1]at this;rw[e];exact this
def mB (v s:Nat):Nat->Nat
 |0=>0
 |i+1=>mB v s i+if v.testBit (i%s)then 2^i else 0
theorem agN_lt (v s i:Nat):mB v s i<2^i:=by
 induction i with
 |zero=>simp[mB]
 |succ i ih=>rw[mB,Nat.pow_succ];split<;>omega
theorem add_bit (a i:Nat)(b:Bool)(ha:a<2^i)(j:Nat):(a+if b then 2^i else 0).testBit j=(if j=i then b else a.testBit j):=by
 have e:a+(if b then 2^i else 0)=a|||(if b then 2^i else 0):=by
  cases b
  ·simp
  ·simp only[if_true];rw[Nat.or_comm,nat_join i _ _ (by simp) ha,Nat.add_comm]
 rw[e,Nat.testBit_or];by_cases c:j=i
 ·subst c;rw[Nat.testBit_lt_two_pow ha];cases b<;>simp
 ·rw[if_neg c];cases b
  ·simp
  ·simp only[if_true];rw[Nat.testBit_two_pow];simp;omega
theorem mO (v s i j:Nat):(mB v s i).testBit j=(decide (j < i) && v.testBit (j % s)):=by
 induction i with
 |zero=>simp[mB]
 |succ i ih=>
  rw[mB,add_bit _ _ _ (agN_lt v s i)];by_cases c:j=i
  ·subst c;simp
  ·rw[if_neg c,ih];have e:(j<i+1)=(j<i):=by simp only[eq_iff_iff];omega
   simp[e]
def perB (v s:Nat):Prop:=∀j,j<64->v.testBit j=v.testBit (j%s)
theorem agN_per (v s:Nat)(hv:v<2^64)(hs:0<s)(hs2:s<=64):mB (v%2^s) s 64=v↔perB v s:=by
 constructor
 ·intro h j hj;have h1:=mO (v%2^s) s 64 j;rw[h]at h1;rw[h1,Nat.testBit_mod_two_pow];simp[hj,Nat.mod_lt j hs]
 ·intro h;apply Nat.eq_of_testBit_eq;intro j;rw[mO,Nat.testBit_mod_two_pow];by_cases hj:j<64
  ·rw[h j hj];simp[hj,Nat.mod_lt j hs]
  ·have:=Nat.testBit_lt_two_pow (x:=v) (i:=j) (Nat.lt_of_lt_of_le hv (Nat.pow_le_pow_right (by decide) (by omega)));simp[hj,this]
def gA (v:Nat):Nat->Nat
 |0=>0
 |i+1=>gA v i+if v.testBit i then 1 else 0
theorem iY (v n:Nat):gA v n<=n:=by
 induction n with
 |zero=>simp[gA]
 |succ n ih=>rw[gA];split<;>omega
theorem rS (v n m:Nat)(hv:v<2^n)(h:n<=m):gA v m=gA v n:=by
 induction m with
 |zero=>rw[show n=0 by omega]
 |succ m ih=>
  by_cases c:n=m+1
  ·rw[c]
  ·rw[gA,ih (by omega),Nat.testBit_lt_two_pow (Nat.lt_of_lt_of_le hv (Nat.pow_le_pow_right (by decide) (by omega)))];simp
structure dF (v k r s:Nat):Prop where
 size:s=2\/s=4\/s=8\/s=16\/s=32\/s=64
 one:1<=k
 less:k<s
 turn:r<s
 lt:v<2^64
 bit:∀ j,j < 64->v.testBit j=decide ((j+r) % s < k)
theorem dF.pos {v k r s:Nat}(h:dF v k r s):2<=s/\s<=64:=by have:=h.size;omega
theorem dF.per {v k r s:Nat}(h:dF v k r s):perB v s:=by
 intro j hj;have hp:=h.pos;rw[h.bit j hj,h.bit (j%s) (by have:=Nat.mod_lt j (show 0<s by omega);omega),Nat.mod_add_mod]
theorem dF.least {v k r s:Nat}(h:dF v k r s)(t:Nat)(ht:t=2\/t=4\/t=8\/t=16\/t=32)(hts:t<s):¬perB v t:=by
 intro hper;have hp:=h.pos;have hdvd:t∣s:=by
  rcases ht with e|e|e|e|e<;>subst e<;>rcases h.size with e|e|e|e|e|e<;>subst e<;>first|decide|omega
 have key:∀p,p<s->p+t<s->(p<k↔p+t<k):=by
  intro p hp1 hp2;have hr:=h.turn;have e1:((p+s-r)%s+r)%s=p:=by
   rw[Nat.mod_add_mod,show p+s-r+r=p+s from by omega,Nat.add_mod_right,Nat.mod_eq_of_lt hp1]
  have e2:((p+t+s-r)%s+r)%s=p+t:=by
   rw[Nat.mod_add_mod,show p+t+s-r+r=p+t+s from by omega,Nat.add_mod_right,Nat.mod_eq_of_lt hp2]
  have l1:=Nat.mod_lt (p+s-r) (show 0<s by omega);have l2:=Nat.mod_lt (p+t+s-r) (show 0<s by omega);have b1:=h.bit ((p+s-r)%s) (by omega);have b2:=h.bit ((p+t+s-r)%s) (by omega);rw[e1]at b1;rw[e2]at b2;have m1:=hper ((p+s-r)%s) (by omega);have m2:=hper ((p+t+s-r)%s) (by omega);rw[Nat.mod_mod_of_dvd _ hdvd]at m1 m2;have e3:(p+t+s-r)%t=(p+s-r)%t:=by
   rw[show p+t+s-r=p+s-r+t from by omega,Nat.add_mod_right]
  rw[e3]at m2;rw[<-m1]at m2;rw[b1,b2]at m2;have:=decide_eq_decide.1 m2;exact this.symm
 have hk:=h.one;have hks:=h.less;by_cases c:k-1+t<s
 ·have:=key (k-1) (by omega) c;omega
 ·have:=key (s-1-t) (by omega) (by omega);omega
theorem pc_row (k r s:Nat) (hk:k<=s) (hr:r < s) (v:Nat) (h:∀ j,j < s->v.testBit j=decide ((j+r) % s < k)):gA v s=k:=by
 have step:∀n,n<=s->gA v n=(if n+r<=s then min k (n+r)-min k r else(k-min k r)+min k (n+r-s)):=by
  intro n;induction n with
  |zero=>intro _;simp[gA];omega
  |succ n ih=>
   intro hn;rw[gA,ih (by omega),h n (by omega),modS (n+r) s (by omega)];by_cases c1:n+r<s
   ·rw[if_pos c1,if_pos (show n+r<=s by omega),if_pos (show n+1+r<=s by omega)];by_cases c2:n+r<k
    ·simp[c2];omega
    ·simp[c2];omega
   ·rw[if_neg c1,if_neg (show¬n+1+r<=s by omega)];by_cases c3:n+r=s
    ·rw[if_pos (by omega)];by_cases c2:n+r-s<k
     ·simp[c2];omega
     ·simp[c2];omega
    ·rw[if_neg (by omega)];by_cases c2:n+r-s<k
     ·simp[c2];omega
     ·simp[c2];omega
 rw[step s (Nat.le_refl _)];by_cases c:r=0
 ·subst c;rw[if_pos (by omega)];omega
 ·rw[if_neg (by omega)];omega
def nF:List Nat->Nat
 | []=>0
 |b :: l=>b+256*nF l
theorem oE (b c y z:Nat)(hb:b<256)(hc:c<256):(b+256*y)&&&(c+256*z)=(b&&&c)+256*(y&&&z):=by
 have h1:((b+256*y)&&&(c+256*z))%2^8=(b&&&c):=by
  rw[Nat.and_mod_two_pow,show(b+256*y)%2^8=b from by omega,show(c+256*z)%2^8=c from by omega]
 have h2:((b+256*y)&&&(c+256*z))/2^8=(y&&&z):=by
  rw[Nat.and_div_two_pow,show(b+256*y)/2^8=y from by omega,show(c+256*z)/2^8=z from by omega]
 omega
theorem b55:∀b,b<256->∀k,k<2->(b/2+128*k)&&&85=b/2&&&85:=by decide+kernel
theorem b33:∀b,b<256->∀k,k<4->(b/4+64*k)&&&51=b/4&&&51:=by decide+kernel
def f1 (b:Nat):Nat:=(b/2&&&85)+(b&&&85)
def f2 (b:Nat):Nat:=(b/4&&&51)+(b&&&51)
def f3 (b:Nat):Nat:=b/16+b%16
theorem f_lt:∀b,b<256->f1 b<256/\f2 (f1 b)<256/\f2 (f1 b)/16<=4/\f2 (f1 b)%16<=4/\f3 (f2 (f1 b))=gA b 8:=by decide+kernel
theorem pcN_byte (b y n:Nat)(hb:b<256):gA (b+256*y) (8+n)=gA b 8+gA y n:=by
 induction n with
 |zero=>
  simp only[Nat.add_zero,gA];have:∀j,j<8->(b+256*y).testBit j=b.testBit j:=by
   intro j hj;have h:=Nat.testBit_mod_two_pow (b+256*y) 8 j;rw[show(b+256*y)%2^8=b from by omega]at h;rw[h];simp[hj]
  simp only[this 0 (by omega),this 1 (by omega),this 2 (by omega),this 3 (by omega),this 4 (by omega),this 5 (by omega),this 6 (by omega),this 7 (by omega)]
 |succ n ih=>
  have h:((b+256*y)/2^8).testBit n=(b+256*y).testBit (n+8):=Nat.testBit_div_two_pow _ _;rw[show(b+256*y)/2^8=y from by omega,Nat.add_comm n 8]at h;rw[show 8+(n+1)=8+n+1 from rfl,show gA (b+256*y) (8+n+1)=gA (b+256*y) (8+n)+if (b+256*y).testBit (8+n)then 1 else 0 from rfl,ih,
   show gA y (n+1)=gA y n+if y.testBit n then 1 else 0 from rfl,h,Nat.add_assoc]
def okB8 (l:List Nat):Prop:=∀b∈l,b<256
theorem swar1 (l:List Nat)(h:okB8 l):(nF l/2&&&nF (l.map fun _=>85))+(nF l&&&nF (l.map fun _=>85))=nF (l.map f1):=by
 induction l with
 |nil=>rfl
 |cons b l ih=>
  have hb:=h b (by simp);have ih:=ih (fun x hx=>h x (by simp[hx]));simp only[List.map,nF];rw[show(b+256*nF l)/2=(b/2+128*(nF l%2))+256*(nF l/2)from by omega,
   oE _ _ _ _ (by omega) (by omega),oE _ _ _ _ hb (by omega),b55 b hb _ (by omega),<-ih]
  unfold f1;omega
theorem swar2 (l:List Nat)(h:okB8 l):(nF l/4&&&nF (l.map fun _=>51))+(nF l&&&nF (l.map fun _=>51))=nF (l.map f2):=by
 induction l with
 |nil=>rfl
 |cons b l ih=>
  have hb:=h b (by simp);have ih:=ih (fun x hx=>h x (by simp[hx]));simp only[List.map,nF];rw[show(b+256*nF l)/4=(b/4+64*(nF l%4))+256*(nF l/4)from by omega,
   oE _ _ _ _ (by omega) (by omega),oE _ _ _ _ hb (by omega),b33 b hb _ (by omega),<-ih]
  unfold f2;omega
theorem swar3 (l:List Nat)(h:∀b∈l,b/16<=4/\b%16<=4):(nF l/16+nF l)&&&nF (l.map fun _=>15)=nF (l.map f3):=by
 induction l with
 |nil=>rfl
 |cons b l ih=>
  have hb:=h b (by simp);have ih:=ih (fun x hx=>h x (by simp[hx]));have hy:nF l%16<=4:=by
   cases l with
   |nil=>simp[nF]
   |cons c l=>have:=h c (by simp);simp only[nF];omega
  simp only[List.map,nF];rw[show(b+256*nF l)/16+(b+256*nF l)=(b/16+b+16*(nF l%16))+256*(nF l/16+nF l)from by omega,
   oE _ _ _ _ (by omega) (by omega),ih,show(15:Nat)=2^4-1 from rfl,Nat.and_two_pow_sub_one_eq_mod]
  unfold f3;omega
theorem ofB_pc (l:List Nat)(h:okB8 l):gA (nF l) (8*l.length)=(l.map fun b=>gA b 8).sum:=by
 induction l with
 |nil=>rfl
 |cons b l ih=>
  rw[nF,List.length_cons,show 8*(l.length+1)=8+8*l.length from by omega,pcN_byte _ _ _ (h b (by simp)),ih (fun x hx=>h x (by simp[hx]))];simp
def sw1 (x:Nat):Nat:=(x/2&&&6148914691236517205)+(x&&&6148914691236517205)
def sw2 (x:Nat):Nat:=(x/4&&&3689348814741910323)+(x&&&3689348814741910323)
def sw3 (x:Nat):Nat:=(x/16+x)&&&1085102592571150095
theorem swar (x:Nat)(hx:x<18446744073709551616):
  ∃t0 t1 t2 t3 t4 t5 t6 t7,t0<=8/\t1<=8/\t2<=8/\t3<=8/\t4<=8/\t5<=8/\t6<=8/\t7<=8/\
   sw3 (sw2 (sw1 x))=t0+256*(t1+256*(t2+256*(t3+256*(t4+256*(t5+256*(t6+256*t7))))))/\
   gA x 64=t0+t1+t2+t3+t4+t5+t6+t7/\sw1 x<18446744073709551616/\sw2 (sw1 x)<1152921504606846976*5:=by
 obtain⟨b0,b1,b2,b3,b4,b5,b6,b7,k0,k1,k2,k3,k4,k5,k6,k7,he⟩:∃b0 b1 b2 b3 b4 b5 b6 b7,b0<256/\b1<256/\b2<256/\b3<256/\b4<256/\b5<256/\b6<256/\b7<256/\
   x=b0+256*(b1+256*(b2+256*(b3+256*(b4+256*(b5+256*(b6+256*b7)))))):=by
  refine⟨x%256,x/256%256,x/65536%256,x/16777216%256,x/4294967296%256,x/1099511627776%256,x/281474976710656%256,x/72057594037927936,?_,?_,?_,?_,?_,?_,?_,?_,?_⟩;all_goals omega
 have hl:okB8 [b0,b1,b2,b3,b4,b5,b6,b7]:=by
  intro b hb;simp only[List.mem_cons,List.not_mem_nil,or_false]at hb;rcases hb with rfl|rfl|rfl|rfl|rfl|rfl|rfl|rfl<;>assumption
 have hpc:=ofB_pc _ hl;have s1:=swar1 _ hl;have g:=fun b hb=>f_lt b (hl b hb)
 have hl1:okB8 ([b0,b1,b2,b3,b4,b5,b6,b7].map f1):=by
  intro b hb;obtain⟨c,hc,rfl⟩:=List.mem_map.1 hb;exact(g c hc).1
 have s2:=swar2 _ hl1;have s3:=swar3 (([b0,b1,b2,b3,b4,b5,b6,b7].map f1).map f2) (by
  intro b hb;obtain⟨c,hc,rfl⟩:=List.mem_map.1 hb;obtain⟨d,hd,rfl⟩:=List.mem_map.1 hc;exact⟨(g d hd).2.2.1,(g d hd).2.2.2.1⟩)
 simp only[List.map,nF,Nat.mul_zero,Nat.add_zero,Nat.reduceMul,Nat.reduceAdd]at s1 s2 s3;have e0:=g b0 (by simp);have e1:=g b1 (by simp);have e2:=g b2 (by simp);have e3:=g b3 (by simp);have e4:=g b4 (by simp);have e5:=g b5 (by simp);have e6:=g b6 (by simp);have e7:=g b7 (by simp);simp only[List.map,List.sum_cons,List.sum_nil,Nat.add_zero]at hpc;have p0:=iY b0 8;have p1:=iY b1 8;have p2:=iY b2 8;have p3:=iY b3 8;have p4:=iY b4 8;have p5:=iY b5 8;have p6:=iY b6 8;have p7:=iY b7 8;rw[<-he]at s1;have q1:sw1 x=f1 b0+256*(f1 b1+256*(f1 b2+256*(f1 b3+256*(f1 b4+256*(f1 b5+256*(f1 b6+256*f1 b7)))))):=s1;have q2:sw2 (sw1 x)=f2 (f1 b0)+256*(f2 (f1 b1)+256*(f2 (f1 b2)+256*(f2 (f1 b3)+256*(f2 (f1 b4)+256*(f2 (f1 b5)+256*(f2 (f1 b6)+256*f2 (f1 b7))))))):=by rw[q1];exact s2
 have q3:sw3 (sw2 (sw1 x))=f3 (f2 (f1 b0))+256*(f3 (f2 (f1 b1))+256*(f3 (f2 (f1 b2))+256*(f3 (f2 (f1 b3))+256*(f3 (f2 (f1 b4))+256*(f3 (f2 (f1 b5))+256*(f3 (f2 (f1 b6))+256*f3 (f2 (f1 b7)))))))):=by rw[q2];exact s3
 refine⟨gA b0 8,gA b1 8,gA b2 8,gA b3 8,gA b4 8,gA b5 8,gA b6 8,gA b7 8,p0,p1,p2,p3,p4,p5,p6,p7,?_,?_,?_,?_⟩
 ·rw[q3,e0.2.2.2.2,e1.2.2.2.2,e2.2.2.2.2,e3.2.2.2.2,e4.2.2.2.2,e5.2.2.2.2,e6.2.2.2.2,e7.2.2.2.2]
 ·have e:nF [b0,b1,b2,b3,b4,b5,b6,b7]=x:=by rw[he];rfl
  rw[e,show 8*[b0,b1,b2,b3,b4,b5,b6,b7].length=64 from rfl]at hpc;omega
 ·rw[q1];omega
 ·rw[q2];omega
theorem swar_end (t0 t1 t2 t3 t4 t5 t6 t7 z:Nat)(k0:t0<=8)(k1:t1<=8)(k2:t2<=8)(k3:t3<=8)(k4:t4<=8)(k5:t5<=8)(k6:t6<=8)(k7:t7<=8)
  (hz:z=t0+256*(t1+256*(t2+256*(t3+256*(t4+256*(t5+256*(t6+256*t7))))))):
  ∃a b y:Nat,(z:Int)+(z:Int)/256=a/\a<4611686018427387904/\(a:Int)+(a:Int)/65536=b/\b<4611686018427387904/\(b:Int)+(b:Int)/4294967296=y/\y<4611686018427387904/\y%128=t0+t1+t2+t3+t4+t5+t6+t7:=by
 obtain⟨z6,h6⟩:=aE (t6+256*t7);obtain⟨z5,h5⟩:=aE (t5+256*z6);obtain⟨z4,h4⟩:=aE (t4+256*z5);obtain⟨z3,h3⟩:=aE (t3+256*z4);obtain⟨z2,h2⟩:=aE (t2+256*z3);obtain⟨z1,h1⟩:=aE (t1+256*z2);rw[<-h6,<-h5,<-h4,<-h3,<-h2,<-h1]at hz;have d1:z/256=z1:=by omega
 have d2:(z+z1)/65536=z2+z3:=by omega
 have d3:(z+z1+(z2+z3))/4294967296=z4+z5+z6+t7:=by omega
 refine⟨z+z1,z+z1+(z2+z3),z+z1+(z2+z3)+(z4+z5+z6+t7),?_,?_,?_,?_,?_,?_,?_⟩
 ·rw[<-d1];rfl
 ·clear d1 d2 d3;omega
 ·rw[<-d2];rfl
 ·clear d1 d2 d3;omega
 ·rw[<-d3];rfl
 ·clear d1 d2 d3;omega
 ·clear d1 d2 d3;omega
theorem eK (n:Int)(w:World)(h:n<=63):
  Calls Tryz.prog 103 #[.int .i64 n] w (bQ (.int .u64 (2^n.toNat)) w):=by
 go_enter Tryz.func103,Tryz.ntmps103;go_wp2;go_loop [3,4] (fun p i=>∃k:Nat,k<=n.toNat/\i=.int .i64 k/\p=.int .u64 (2^k)) (fun _ i=>n.toNat-(intOf i).toNat)
 case atStart=>exact⟨0,Nat.zero_le _,rfl,rfl⟩
 case round=>
  obtain⟨k,hk,rfl,rfl⟩:=hrel;by_cases hlt:(k:Int)<n
  ·have hp:=kC (k+1) 63 (by omega) 9223372036854775808 (by decide);have e:IntKind.u64.wrap (2*2^k)=2^(k+1):=by
    rw[Int.pow_succ]at hp⊢;rw[IntKind.wrap_u64];omega
   have E:=aH e;clear e hp;go_wp2;go_round
   case rel=>exact⟨k+1,by omega,by go_num,by rw[E.out]⟩
   case measure=>simp[intOf];omega
  ·go_wp2;go_ret;refine bK ?_;rw[show n.toNat=k from by omega]
theorem pH (v n:Int)(w:World)(h0:0<=v)(h1:v<18446744073709551616):
  Calls Tryz.prog 204 #[.int .u64 v,.int .i64 n] w (bQ (.bool (decide (64<=n\/v < 2 ^ n.toNat))) w):=by
 by_cases h:64<=n
 ·go_enter Tryz.func204,Tryz.ntmps204;go_wp2;go_ret;exact bO (by simp[h])
 ·go_enter Tryz.func204,Tryz.ntmps204;go_wp2_with (first|(go_at_call 103;refine(eK _ _ (by omega)).mono ?_;rintro e w' ⟨rfl,rfl⟩))
  go_ret;exact bO (by simp[h];omega)
theorem Bit_any (v n:Int)(w:World)(h0:0<=v)(h1:v<18446744073709551616)(hn:n<=63):
  Calls Tryz.prog 187 #[.int .u64 v,.int .i64 n] w (bQ (.bool (v/2^n.toNat%2==1)) w):=by
 have hp:=pow63 n hn;have hq:0<=v/2^n.toNat:=Int.ediv_nonneg h0 (by omega);go_enter Tryz.func187,Tryz.ntmps187;go_wp2_with (first|(go_at_call 103;refine(eK _ _ (by omega)).mono ?_;rintro e w' ⟨rfl,rfl⟩))
 go_ret;exact bO rfl
def low (v n:Int):Int:=if n<=0 then 0 else if 64<=n then v else v%2^n.toNat
theorem low_any (v n:Int)(w:World)(h0:0<=v)(h1:v<18446744073709551616):
  Calls Tryz.prog 153 #[.int .u64 v,.int .i64 n] w (bQ (.int .u64 (low v n)) w):=by
 by_cases c1:n<=0
 ·go_enter Tryz.func153,Tryz.ntmps153;go_wp2;go_ret;exact bK (by simp[low,c1])
 by_cases c2:64<=n
 ·go_enter Tryz.func153,Tryz.ntmps153;go_wp2;go_ret;refine bK ?_;unfold low;rw[if_neg (by omega),if_pos (by omega)]
 have ha:=and_ones64 v n h0 h1 (by omega) (by omega);have hb:=wrap_ones n (by omega);rw[<-hb]at ha;have HA:=aH ha;clear ha hb;go_enter Tryz.func153,Tryz.ntmps153;go_wp2;go_ret;refine bK ?_;rw[HA.out];unfold low;rw[if_neg (by omega),if_neg (by omega)]
theorem refLow_any (v n:Int)(w:World)(h0:0<=v)(h1:v<18446744073709551616):
  Calls Tryz.prog 160 #[.int .u64 v,.int .i64 n] w (bQ (.int .u64 (low v n)) w):=by
 by_cases c1:n<=0
 ·go_enter Tryz.func160,Tryz.ntmps160;go_wp2;go_ret;exact bK (by simp[low,c1])
 by_cases c2:64<=n
 ·go_enter Tryz.func160,Tryz.ntmps160;go_wp2;go_ret;refine bK ?_;unfold low;rw[if_neg (by omega),if_pos (by omega)]
 have hp:=pow63 n (by omega);go_enter Tryz.func160,Tryz.ntmps160;go_wp2_with (first|(go_at_call 103;refine(eK _ _ (by omega)).mono ?_;rintro e w' ⟨rfl,rfl⟩))
 go_ret;refine bK ?_;unfold low;rw[if_neg (by omega),if_neg (by omega)]
def cD (n:Int):Bool:=n==2||n==4||n==8||n==16||n==32||n==64
theorem kG (n:Int)(w:World):
  Calls Tryz.prog 203 #[.int .i64 n] w (bQ (.bool (cD n)) w):=by
 go_enter Tryz.func203,Tryz.ntmps203;go_wp2;go_loop [4] (fun i=>∃k:Nat,k<=6/\i=.int .i64 k/\∀j,j<k->n≠2*2^j) (fun i=>6-(intOf i).toNat)
 case atStart=>exact⟨0,by omega,rfl,by omega⟩
 case round=>
  obtain⟨k,hk,rfl,hn⟩:=hrel;have HN:=aH hn;clear hn;by_cases hlt:(k:Int)<6
  ·have hw:wrap64 (2*2^k)=2*2^k:=by
    have:=kC k 5 (by omega) 32 (by decide);unfold wrap64;omega
   by_cases he:n=2*2^k
   ·have hb:(n==2*2^k)=true:=by simpa using he
    have HE:=aH he;clear he;go_wp2;go_ret;refine bO ?_;have h6:k=0\/k=1\/k=2\/k=3\/k=4\/k=5:=by omega
    rw[HE.out];rcases h6 with rfl|rfl|rfl|rfl|rfl|rfl<;>rfl
   ·have hb:(n==2*2^k)=false:=by simpa using he
    have HE:=aH he;clear he;go_wp2;go_round
    case rel=>exact⟨k+1,by omega,by go_num,fun j hj=>if h:j=k then h▸HE.out else HN.out j (by omega)⟩
    case measure=>simp[intOf];omega
  ·go_wp2;go_ret;refine bO ?_;obtain rfl:k=6:=by omega
   have h0:=HN.out 0 (by omega);have h1:=HN.out 1 (by omega);have h2:=HN.out 2 (by omega);have h3:=HN.out 3 (by omega);have h4:=HN.out 4 (by omega);have h5:=HN.out 5 (by omega);simp only[Int.reducePow,Int.reduceMul]at h0 h1 h2 h3 h4 h5;simp[cD,h0,h1,h2,h3,h4,h5]
def rotS (v b s:Int):Int×Int:=
 if ¬(cD s=true/\0<=b/\b<s)then(0,1)else if 2^s.toNat<=v then(0,4)else(fB v.toNat b.toNat s.toNat s.toNat,0)
theorem rotS0 {v b s:Int}(h:¬(cD s=true/\0<=b/\b<s)):rotS v b s=(0,1):=if_pos h
theorem rotS1 {v b s:Int}(h:cD s=true)(hb:0<=b)(hbs:b<s)(hv:2^s.toNat<=v):rotS v b s=(0,4):=by
 unfold rotS;rw[if_neg (by simp[h,hb,hbs]),if_pos hv]
theorem rotS2 {v b s:Nat}(h:cD s=true)(hbs:b<s)(hv:(v:Int)<2^s):rotS v b s=(((fB v b s s:Nat):Int),0):=by
 unfold rotS;rw[if_neg (by simp[h,hbs]),if_neg (by simp only[Int.toNat_natCast];omega)];rfl
theorem dS {s:Int}(hs:cD s=true):s<=64/\2<=s:=by simp[cD]at hs;omega
theorem low_ne (v s:Int) (h0:0<=v) (h1:v < 18446744073709551616) (hs:cD s=true):(low v s != v)=decide (2 ^ s.toNat<=v):=by
 have hl:=dS hs;unfold low;rw[if_neg (by omega)];by_cases c:64<=s
 ·obtain rfl:s=64:=by omega
  rw[if_pos c];have e:¬((2:Int)^(64:Int).toNat<=v):=by
   rw[show(2:Int)^(64:Int).toNat=18446744073709551616 from by decide];omega
  rw[decide_eq_false e];simp
 ·rw[if_neg c,Bool.eq_iff_iff];have hp:=pow63 s (by omega);simp only[bne_iff_ne,decide_eq_true_eq];constructor
  ·intro h;apply Classical.byContradiction;intro h2;exact h (Int.emod_eq_of_lt h0 (by omega))
  ·intro h h2;have:=Int.emod_lt_of_pos v (show(0:Int)<2^s.toNat by omega);omega
theorem rotate_ok (v b s:Nat)(w:World)(h1:v<18446744073709551616)(hs:cD s=true)(hb:b<s)(hv:(v:Int)<2^s):
  Calls Tryz.prog 185 #[.int .u64 v,.int .i64 b,.int .i64 s] w (bQ (two .u64 .i64 (rotS v b s)) w):=by
 have hs':=dS hs;have hl:(low v s !=v)=false:=by
  rw[low_ne _ _ (by omega) (by omega) hs,decide_eq_false_iff_not,Int.toNat_natCast];omega
 have HV:=aH hv;clear hv;go_enter Tryz.func185,Tryz.ntmps185;go_wp2_with (first|(go_at_call 203;refine(kG _ _).mono ?_;rintro e w' ⟨rfl,rfl⟩)|(go_at_call 153;refine(low_any _ _ _ (by omega) (by omega)).mono ?_;rintro e w' ⟨rfl,rfl⟩))
 go_loop [8,29] (fun t i=>∃k:Nat,k<=s/\i=.int .i64 k/\t=.int .u64 (rH v b s k)) (fun _ i=>s-(intOf i).toNat)
 case atStart=>exact⟨0,by omega,rfl,rfl⟩
 case round=>
  obtain⟨k,hk,rfl,rfl⟩:=hrel;by_cases hlt:k<s
  ·obtain⟨m,hm,hms⟩:∃m:Nat,((k:Int)+s-b)%s=m/\m=(k+s-b)%s:=⟨(k+s-b)%s,by rw[Int.natCast_emod,Int.ofNat_sub (by omega)];rfl,rfl⟩;have hml:m<s:=by rw[hms];exact Nat.mod_lt _ (by omega)
   obtain⟨x,hx,hxs⟩:∃x:Nat,bits BinOp.and IntKind.u64 ((v:Int)/2^k) 1=x/\x=v/2^k%2:=⟨_,and_bit v k h1,rfl⟩;have hx1:x<=1:=by omega
   have ht:rH v b s k<18446744073709551616:=Nat.lt_of_lt_of_le (turnN_lt v b s k hb (by omega)) (Nat.le_trans (Nat.pow_le_pow_right (by decide) (show s<=64 by omega)) (by decide));have H3:=aH (or_step (rH v b s k) x m ht hx1 (by omega));have H1:=aH hms;have H2:=aH hxs;clear hms hxs ht;go_wp2;go_round
   case rel=>exact⟨k+1,by omega,by go_num,by rw[H3.out,H1.out,H2.out];rfl⟩
   case measure=>simp[intOf];omega
  ·go_wp2;go_ret2;refine bI ?_;rw[show k=s from by omega,rotS2 hs hb HV.out,turn_rot v b s hb]
theorem rotate_any (v b s:Int)(w:World)(h0:0<=v)(h1:v<18446744073709551616):
  Calls Tryz.prog 185 #[.int .u64 v,.int .i64 b,.int .i64 s] w (bQ (two .u64 .i64 (rotS v b s)) w):=by
 by_cases hs:cD s=true
 ·have hl:=dS hs;by_cases hb0:b<0
  ·go_enter Tryz.func185,Tryz.ntmps185;go_wp2_with (first|(go_at_call 203;refine(kG _ _).mono ?_;rintro e w' ⟨rfl,rfl⟩))
   go_ret2;exact bI (rotS0 (by omega))
  by_cases hb1:s<=b
  ·go_enter Tryz.func185,Tryz.ntmps185;go_wp2_with (first|(go_at_call 203;refine(kG _ _).mono ?_;rintro e w' ⟨rfl,rfl⟩))
   go_ret2;exact bI (rotS0 (by omega))
  by_cases hv:2^s.toNat<=v
  ·have hl:(low v s !=v)=true:=by rw[low_ne v s h0 h1 hs];simpa using hv
   have HV:=aH hv;clear hv;go_enter Tryz.func185,Tryz.ntmps185;go_wp2_with (first|(go_at_call 203;refine(kG _ _).mono ?_;rintro e w' ⟨rfl,rfl⟩)|(go_at_call 153;refine(low_any _ _ _ (by omega) (by omega)).mono ?_;rintro e w' ⟨rfl,rfl⟩))
   go_ret2;exact bI (rotS1 hs (by omega) (by omega) HV.out)
  obtain⟨v,rfl⟩:=Int.eq_ofNat_of_zero_le h0;obtain⟨b,rfl⟩:=Int.eq_ofNat_of_zero_le (show 0<=b by omega);obtain⟨s,rfl⟩:=Int.eq_ofNat_of_zero_le (show 0<=s by omega);exact rotate_ok v b s w (by omega) hs (by omega) (by simpa using hv)
 ·have hs':cD s=false:=by simpa using hs
  go_enter Tryz.func185,Tryz.ntmps185;go_wp2_with (first|(go_at_call 203;refine(kG _ _).mono ?_;rintro e w' ⟨rfl,rfl⟩))
  go_ret2;exact bI (rotS0 (by simp[hs']))
theorem Small_yes (v n:Int)(w:World)(h0:0<=v)(h1:v<18446744073709551616)(h:64<=n\/v<2^n.toNat):
  Calls Tryz.prog 204 #[.int .u64 v,.int .i64 n] w (bQ (.bool true) w):=by
 have:=pH v n w h0 h1;rwa[decide_eq_true h]at this
theorem Small_no (v n:Int)(w:World)(h0:0<=v)(h1:v<18446744073709551616)(h:¬(64<=n\/v<2^n.toNat)):
  Calls Tryz.prog 204 #[.int .u64 v,.int .i64 n] w (bQ (.bool false) w):=by
 have:=pH v n w h0 h1;rwa[decide_eq_false h]at this
theorem Bit_nat (v k:Nat)(w:World)(h1:v<18446744073709551616)(hn:k<=63):
  Calls Tryz.prog 187 #[.int .u64 v,.int .i64 k] w (bQ (.bool (v.testBit k)) w):=by
 have h:=Bit_any v k w (by omega) (by omega) (by omega);have e:((v:Int)/2^(k:Int).toNat%2==1)=v.testBit k:=by
  rw[Int.toNat_natCast,Nat.testBit_eq_decide_div_mod_eq,Bool.eq_iff_iff,<-bD];simp only[beq_iff_eq,decide_eq_true_eq];constructor<;>intro h<;>omega
 rwa[e]at h
theorem sum_step (r m:Nat)(hr:r<2^m)(hm:m<=63):
  IntKind.u64.wrap ((r:Int)+2^m)=((r+2^m:Nat):Int):=by
 have hp:2^m<=2^63:=Nat.pow_le_pow_right (by decide) hm;rw[IntKind.wrap_u64,Int.natCast_add,bD,Int.emod_eq_of_lt]
 ·rw[<-bD,<-Int.natCast_add];omega
 ·rw[<-bD,<-Int.natCast_add];omega
theorem refRotate_ok (v b s:Nat)(w:World)(h1:v<18446744073709551616)(hs:cD s=true)(hb:b<s)(hv:(v:Int)<2^s):
  Calls Tryz.prog 188 #[.int .u64 v,.int .i64 b,.int .i64 s] w (bQ (two .u64 .i64 (rotS v b s)) w):=by
 have hs':=dS hs;have hl:(64:Int)<=s\/(v:Int)<2^(s:Int).toNat:=by rw[Int.toNat_natCast];exact .inr hv
 have HR:=aH (rotS2 hs hb hv);have HL:=aH hl;obtain⟨z,hz⟩:∃z:Int,z=s:=⟨_,rfl⟩;have hsz:((((z=2\/z=4)\/z=8)\/z=16)\/z=32)\/z=64:=by rw[hz];simpa[cD]using hs
 rw[<-hz];rw[<-hz]at HL;have HZ:=aH hz;clear hv hl hs;rcases hsz with((((rfl|rfl)|rfl)|rfl)|rfl)|rfl
 all_goals
  clear hz;have hbz:=HZ.out;have hb1:(b:Int)<s:=by omega
  rw[<-hbz]at hb1;clear hbz;go_enter Tryz.func188,Tryz.ntmps188;go_wp2_with (first|(go_at_call 204;refine(Small_yes _ _ _ (by omega) (by omega) HL.out).mono ?_;rintro e w' ⟨rfl,rfl⟩))
  go_loop [8,9] (fun t i=>∃k:Nat,k<=s/\i=.int .i64 k/\t=.int .u64 (fB v b s k)) (fun _ i=>s-(intOf i).toNat)
  case atStart=>exact⟨0,by omega,rfl,rfl⟩
  case round=>
   obtain⟨k,hk,rfl,rfl⟩:=hrel;by_cases hlt:k<s
   ·obtain⟨m,hm,hms⟩:∃m:Nat,((k:Int)+b)%s=m/\m=(k+b)%s:=⟨(k+b)%s,by rw[Int.natCast_emod];rfl,rfl⟩;rw[<-HZ.out]at hm;have hml:m<s:=by rw[hms];exact Nat.mod_lt _ (by omega)
    have hz2:=HZ.out;have hlt2:(k:Int)<s:=by omega
    rw[<-hz2]at hlt2;have h63:k<=63:=by omega
    have h64:m<=63:=by omega
    have H3:=aH (sum_step _ k (rL v b s k) (by omega));have H1:=aH hms;clear hms hz2;cases hx:v.testBit m
    all_goals
     have H2:=aH hx;go_wp2_with (first|(go_at_call 187;refine(Bit_nat _ _ _ (by omega) (by omega)).mono ?_;rintro e w' ⟨rfl,rfl⟩)|(go_at_call 103;refine(eK _ _ (by omega)).mono ?_;rintro e w' ⟨rfl,rfl⟩))
     go_round
     case rel=>exact⟨k+1,by omega,by go_num,by(try rw[H3.out]);rw[fB,<-H1.out,H2.out];simp⟩
     case measure=>simp[intOf];omega
   ·have hz2:=HZ.out;have hlt2:¬(k:Int)<s:=by omega
    rw[<-hz2]at hlt2;clear hz2;go_wp2;go_ret2;refine bI ?_;rw[show k=s from by omega];rw[HZ.out];exact HR.out
theorem refRotate_sz (v b s:Int)(w:World)(hs:cD s=false):
  Calls Tryz.prog 188 #[.int .u64 v,.int .i64 b,.int .i64 s] w (bQ (two .u64 .i64 (rotS v b s)) w):=by
 have HS:=aH hs;simp[cD]at hs;obtain⟨⟨⟨⟨⟨n1,n2⟩,n3⟩,n4⟩,n5⟩,n6⟩:=hs;go_enter Tryz.func188,Tryz.ntmps188;go_wp2;go_ret2;exact bI (rotS0 (by rw[HS.out];simp))
theorem refRotate_any (v b s:Int)(w:World)(h0:0<=v)(h1:v<18446744073709551616):
  Calls Tryz.prog 188 #[.int .u64 v,.int .i64 b,.int .i64 s] w (bQ (two .u64 .i64 (rotS v b s)) w):=by
 cases hs:cD s
 ·exact refRotate_sz v b s w hs
 ·have hl:=dS hs;by_cases hb0:b<0
  ·have H:=aH (rotS0 (v:=v) (b:=b) (s:=s) (by omega));have hsz:((((s=2\/s=4)\/s=8)\/s=16)\/s=32)\/s=64:=by simpa[cD]using hs
   clear hs;rcases hsz with((((rfl|rfl)|rfl)|rfl)|rfl)|rfl
   all_goals
    go_enter Tryz.func188,Tryz.ntmps188;go_wp2;go_ret2;exact bI H.out
  by_cases hb1:s<=b
  ·have H:=aH (rotS0 (v:=v) (b:=b) (s:=s) (by omega));have hsz:((((s=2\/s=4)\/s=8)\/s=16)\/s=32)\/s=64:=by simpa[cD]using hs
   clear hs;rcases hsz with((((rfl|rfl)|rfl)|rfl)|rfl)|rfl
   all_goals
    go_enter Tryz.func188,Tryz.ntmps188;go_wp2;go_ret2;exact bI H.out
  by_cases hv:2^s.toNat<=v
  ·have H:=aH (rotS1 (v:=v) (b:=b) (s:=s) hs (by omega) (by omega) hv);have hn:¬(64<=s\/v<2^s.toNat):=by
    have:=low_ne v s h0 h1 hs;intro h;rcases h with h|h
    ·obtain rfl:s=64:=by omega
     rw[show(2:Int)^(64:Int).toNat=18446744073709551616 from by decide]at hv;omega
    ·omega
   have HN:=aH hn;have hsz:((((s=2\/s=4)\/s=8)\/s=16)\/s=32)\/s=64:=by simpa[cD]using hs
   clear hs hn hv;rcases hsz with((((rfl|rfl)|rfl)|rfl)|rfl)|rfl
   all_goals
    go_enter Tryz.func188,Tryz.ntmps188;go_wp2_with (first|(go_at_call 204;refine(Small_no _ _ _ (by omega) (by omega) HN.out).mono ?_;rintro e w' ⟨rfl,rfl⟩))
    go_ret2;exact bI H.out
  obtain⟨v,rfl⟩:=Int.eq_ofNat_of_zero_le h0;obtain⟨b,rfl⟩:=Int.eq_ofNat_of_zero_le (show 0<=b by omega);obtain⟨s,rfl⟩:=Int.eq_ofNat_of_zero_le (show 0<=s by omega);exact refRotate_ok v b s w (by omega) hs (by omega) (by simpa using hv)
theorem iO (a b:Nat)(ha:a<18446744073709551616)(hb:b<18446744073709551616):bits .and .u64 (a:Int) (b:Int)=((a&&&b:Nat):Int):=bits_and_u64_nat a b ha hb
theorem and_i64_127 (x:Nat)(hx:x<9223372036854775808):bits .and .i64 (x:Int) 127=((x%128:Nat):Int):=by
 have h1:(BitVec.ofInt 64 (x:Int)).toNat=x:=by
  rw[BitVec.ofInt_natCast,BitVec.toNat_ofNat];exact Nat.mod_eq_of_lt (by omega)
 have h2:(BitVec.ofInt 64 127).toNat=127:=by decide
 have e:(BitVec.ofInt 64 (x:Int)&&&BitVec.ofInt 64 127).toNat=x%128:=by
  rw[BitVec.toNat_and,h1,h2];exact Nat.and_two_pow_sub_one_eq_mod x 7
 show IntKind.i64.wrap ((BitVec.ofInt 64 (x:Int)&&&BitVec.ofInt 64 127).toNat:Int)=_
 rw[e];simp only[IntKind.wrap_i64];omega
def dB (s:Int):Int:=if s=64 then 1 else 0
def bX (s:Int):Int:=if s=64 then 0 else 64-2*s
theorem upper_any (s:Int)(w:World):Calls Tryz.prog 122 #[.int .i64 s] w (bQ (.int .i64 (dB s)) w):=by
 unfold dB;by_cases c:s=64
 ·rw[if_pos c];go_enter Tryz.func122,Tryz.ntmps122;go_wp2;go_ret;exact bK rfl
 ·rw[if_neg c];go_enter Tryz.func122,Tryz.ntmps122;go_wp2;go_ret;exact bK rfl
theorem lead_any (s:Int)(w:World)(h:2<=s)(h2:s<=64):Calls Tryz.prog 123 #[.int .i64 s] w (bQ (.int .i64 (bX s)) w):=by
 unfold bX;by_cases c:s=64
 ·rw[if_pos c];go_enter Tryz.func123,Tryz.ntmps123;go_wp2;go_ret;exact bK rfl
 ·rw[if_neg c];go_enter Tryz.func123,Tryz.ntmps123;go_wp2;go_ret;exact bK rfl
theorem ones_any (x:Nat)(w:World)(hx:x<18446744073709551616):
  Calls Tryz.prog 184 #[.int .u64 x] w (bQ (.int .i64 (gA x 64)) w):=by
 go_enter Tryz.func184,Tryz.ntmps184;go_wp2;go_ret;refine bK ?_;obtain⟨t0,t1,t2,t3,t4,t5,t6,t7,k0,k1,k2,k3,k4,k5,k6,k7,he,hp,l1,l2⟩:=swar x hx;have e1:IntKind.u64.wrap (bits BinOp.and IntKind.u64 ((x:Int)/2) 6148914691236517205+bits BinOp.and IntKind.u64 (x:Int) 6148914691236517205)=((sw1 x:Nat):Int):=by
  have a1:=iO (x/2) 6148914691236517205 (by omega) (by omega);have a2:=iO x 6148914691236517205 (by omega) (by omega);simp only[Int.natCast_ediv,Int.cast_ofNat_Int]at a1 a2;rw[a1,a2,IntKind.wrap_u64];unfold sw1 at l1⊢;omega
 have e2:IntKind.u64.wrap (bits BinOp.and IntKind.u64 (((sw1 x:Nat):Int)/4) 3689348814741910323+bits BinOp.and IntKind.u64 ((sw1 x:Nat):Int) 3689348814741910323)=((sw2 (sw1 x):Nat):Int):=by
  have a1:=iO (sw1 x/4) 3689348814741910323 (by omega) (by omega);have a2:=iO (sw1 x) 3689348814741910323 (by omega) (by omega);simp only[Int.natCast_ediv,Int.cast_ofNat_Int]at a1 a2;rw[a1,a2,IntKind.wrap_u64];unfold sw2 at l2⊢;omega
 have e3:bits BinOp.and IntKind.u64 (IntKind.u64.wrap (((sw2 (sw1 x):Nat):Int)/16+((sw2 (sw1 x):Nat):Int))) 1085102592571150095=((sw3 (sw2 (sw1 x)):Nat):Int):=by
  have a1:=iO (sw2 (sw1 x)/16+sw2 (sw1 x)) 1085102592571150095 (by omega) (by omega);rw[IntKind.wrap_u64,show(((sw2 (sw1 x):Nat):Int)/16+((sw2 (sw1 x):Nat):Int))%18446744073709551616=((sw2 (sw1 x)/16+sw2 (sw1 x):Nat):Int)from by omega];exact a1
 rw[e1,e2,e3,he,hp];clear e1 e2 e3 hp;obtain⟨a,b,y,ha,ha2,hb,hb2,hy,hy2,hr⟩:=swar_end t0 t1 t2 t3 t4 t5 t6 t7 _ k0 k1 k2 k3 k4 k5 k6 k7 rfl;rw[ha,show IntKind.u64.wrap (a:Int)=a from by rw[IntKind.wrap_u64];omega,hb,show IntKind.u64.wrap (b:Int)=b from by rw[IntKind.wrap_u64];omega,hy,
  show IntKind.u64.wrap (y:Int)=y from by rw[IntKind.wrap_u64];omega,show wrap64 (y:Int)=y from by unfold wrap64;omega,and_i64_127 y (by omega),hr]
theorem agN_self (p s:Nat)(h:p<2^s):mB p s s=p:=by
 apply Nat.eq_of_testBit_eq;intro j;rw[mO];by_cases c:j<s
 ·simp[c,Nat.mod_eq_of_lt c]
 ·have:=Nat.testBit_lt_two_pow (x:=p) (i:=j) (Nat.lt_of_lt_of_le h (Nat.pow_le_pow_right (by decide) (by omega)));simp[c,this]
theorem agN_double (p s m:Nat)(h:s∣m):mB p s m|||(mB p s m*2^m)=mB p s (2*m):=by
 apply Nat.eq_of_testBit_eq;intro j;rw[Nat.testBit_or,Nat.mul_comm (mB p s m),Nat.testBit_two_pow_mul,mO,mO,mO];by_cases c:m<=j
 ·have e:(j-m)%s=j%s:=by
   obtain⟨q,rfl⟩:=h;obtain⟨r,rfl⟩:=Nat.le.dest c;rw[Nat.add_sub_cancel_left,Nat.add_comm,Nat.add_mul_mod_self_left]
  have e2:(j-m<m)=(j<2*m):=by simp only[eq_iff_iff];omega
  rw[e];simp[c,Nat.not_lt.2 c,e2]
 ·have c1:j<m:=by omega
  have c2:j<2*m:=by omega
  simp[c,c1,c2]
theorem or_double (p s m:Nat)(h:s∣m)(hm:2*m<=64):
  bits BinOp.or IntKind.u64 (mB p s m:Int) (IntKind.u64.wrap ((mB p s m:Int)*2^m))=((mB p s (2*m):Nat):Int):=by
 have l1:=agN_lt p s m;have l2:mB p s m*2^m<18446744073709551616:=by
  have h1:mB p s m*2^m<2^m*2^m:=Nat.mul_lt_mul_of_pos_right l1 (Nat.two_pow_pos m);rw[<-Nat.pow_add]at h1;exact Nat.lt_of_lt_of_le h1 (Nat.le_trans (Nat.pow_le_pow_right (by decide) (show m+m<=64 by omega)) (by decide))
 have l3:mB p s m<18446744073709551616:=Nat.lt_of_lt_of_le l1 (Nat.le_trans (Nat.pow_le_pow_right (by decide) (show m<=64 by omega)) (by decide));rw[show((mB p s m:Int)*2^m)=((mB p s m*2^m:Nat):Int)from by rw[Int.natCast_mul,bD],IntKind.wrap_u64,
  show((mB p s m*2^m:Nat):Int)%18446744073709551616=((mB p s m*2^m:Nat):Int)from by omega,bits_or_u64_nat _ _ l3 l2,agN_double p s m h]
theorem repeat_any (p s:Nat)(w:World)(hs:cD s=true)(hp:p<2^s):
  Calls Tryz.prog 182 #[.int .u64 p,.int .i64 s] w (bQ (.int .u64 (mB p s 64:Nat)) w):=by
 have hl:=dS hs;have E0:=aH (agN_self p s hp);clear hp;go_enter Tryz.func182,Tryz.ntmps182;go_wp2;go_loop [1,5] (fun i v=>∃m:Nat,cD m=true/\s∣m/\i=.int .i64 m/\v=.int .u64 (mB p s m:Nat)) (fun i _=>64-(intOf i).toNat)
 case atStart=>exact⟨s,hs,Nat.dvd_refl s,rfl,by rw[E0.out]⟩
 case round=>
  obtain⟨m,hm,hd,rfl,rfl⟩:=hrel;have hm2:=dS hm;have H0:=aH hm;have HD:=aH hd;clear hd hm;by_cases hlt:m<64
  ·have h32:m<=32:=by have:=H0.out;simp[cD]at this;omega
   have HE:=aH (or_double p s m HD.out (by omega));have l1:mB p s m<18446744073709551616:=Nat.lt_of_lt_of_le (agN_lt p s m) (Nat.le_trans (Nat.pow_le_pow_right (by decide) (show m<=64 by omega)) (by decide));go_wp2;go_round
   case rel=>exact⟨2*m,by have:=H0.out;simp[cD]at this⊢;omega,Nat.dvd_trans HD.out (Nat.dvd_mul_left m 2),by go_num,by rw[HE.out]⟩
   case measure=>simp[intOf];omega
  ·obtain rfl:m=64:=by omega
   go_wp2;go_ret;exact bK rfl
theorem refOnes_any (v:Nat)(w:World)(hv:v<18446744073709551616):
  Calls Tryz.prog 159 #[.int .u64 v] w (bQ (.int .i64 (gA v 64:Nat)) w):=by
 go_enter Tryz.func159,Tryz.ntmps159;go_wp2;go_loop [3,4] (fun n i=>∃k:Nat,k<=64/\i=.int .i64 k/\n=.int .i64 (gA v k:Nat)) (fun _ i=>64-(intOf i).toNat)
 case atStart=>exact⟨0,by omega,rfl,rfl⟩
 case round=>
  obtain⟨k,hk,rfl,rfl⟩:=hrel;have hle:=iY v k;by_cases hlt:k<64
  ·cases hx:v.testBit k
   all_goals
    have HX:=aH hx;go_wp2_with (first|(go_at_call 187;refine(Bit_nat _ _ _ (by omega) (by omega)).mono ?_;rintro e w' ⟨rfl,rfl⟩))
    go_round
    case rel=>exact⟨k+1,by omega,by go_num,by rw[gA,HX.out];go_num⟩
    case measure=>simp[intOf];omega
  ·obtain rfl:k=64:=by omega
   go_wp2;go_ret;exact bK rfl
theorem again_any (v s:Nat)(w:World)(hv:v<18446744073709551616)(h1:1<=s)(h2:s<=64):
  Calls Tryz.prog 186 #[.int .u64 v,.int .i64 s] w (bQ (.int .u64 (mB v s 64:Nat)) w):=by
 go_enter Tryz.func186,Tryz.ntmps186;go_wp2;go_loop [5,6] (fun t i=>∃k:Nat,k<=64/\i=.int .i64 k/\t=.int .u64 (mB v s k:Nat)) (fun _ i=>64-(intOf i).toNat)
 case atStart=>exact⟨0,by omega,rfl,rfl⟩
 case round=>
  obtain⟨k,hk,rfl,rfl⟩:=hrel;by_cases hlt:k<64
  ·obtain⟨m,hm,hms⟩:∃m:Nat,(k:Int)%s=m/\m=k%s:=⟨k%s,by rw[Int.natCast_emod],rfl⟩;have hml:m<s:=by rw[hms];exact Nat.mod_lt _ (by omega)
   have H1:=aH hms;have H3:=aH (sum_step _ k (agN_lt v s k) (by omega));clear hms;cases hx:v.testBit m
   all_goals
    have HX:=aH hx;go_wp2_with (first|(go_at_call 187;refine(Bit_nat _ _ _ (by omega) (by omega)).mono ?_;rintro e w' ⟨rfl,rfl⟩)|(go_at_call 103;refine(eK _ _ (by omega)).mono ?_;rintro e w' ⟨rfl,rfl⟩))
    go_round
    case rel=>exact⟨k+1,by omega,by go_num,by(try rw[H3.out]);rw[mB,<-H1.out,HX.out];simp⟩
    case measure=>simp[intOf];omega
  ·obtain rfl:k=64:=by omega
   go_wp2;go_ret;exact bK rfl
def pz (v s:Nat):Bool:=mB (v%2^s) s 64==v
structure LeastSz (v m:Nat):Prop where
 size:cD m=true
 has:pz v m=true
 least:∀t:Nat,cD t=true->t<m->pz v t=false
theorem LeastSz.uniq {v m n:Nat}(h:LeastSz v m)(k:LeastSz v n):m=n:=by
 rcases Nat.lt_trichotomy m n with c|c|c
 ·have:=k.least m h.size c;rw[h.has]at this;cases this
 ·exact c
 ·have:=h.least n k.size c;rw[k.has]at this;cases this
def sizeL (v:Nat):Nat:=if pz v 2 then 2 else if pz v 4 then 4 else if pz v 8 then 8 else if pz v 16 then 16 else if pz v 32 then 32 else 64
theorem pz64 (v:Nat)(hv:v<18446744073709551616):pz v 64=true:=by
 unfold pz;rw[Nat.mod_eq_of_lt (show v<2^64 from hv),agN_self v 64 hv,beq_self_eq_true]
theorem eC {t:Nat}(h:cD t=true):t=2\/t=4\/t=8\/t=16\/t=32\/t=64:=by simp[cD]at h;omega
theorem gY (v:Nat)(hv:v<18446744073709551616):LeastSz v (sizeL v):=by
 have h64:=pz64 v hv;unfold sizeL;cases h2:pz v 2
 ·cases h4:pz v 4
  ·cases h8:pz v 8
   ·cases h16:pz v 16
    ·cases h32:pz v 32
     ·exact⟨rfl,h64,fun t ht hl=>by rcases eC ht with rfl|rfl|rfl|rfl|rfl|rfl<;>first|assumption|(simp at hl)⟩
     ·exact⟨rfl,h32,fun t ht hl=>by rcases eC ht with rfl|rfl|rfl|rfl|rfl|rfl<;>first|assumption|(simp at hl)⟩
    ·exact⟨rfl,h16,fun t ht hl=>by rcases eC ht with rfl|rfl|rfl|rfl|rfl|rfl<;>first|assumption|(simp at hl)⟩
   ·exact⟨rfl,h8,fun t ht hl=>by rcases eC ht with rfl|rfl|rfl|rfl|rfl|rfl<;>first|assumption|(simp at hl)⟩
  ·exact⟨rfl,h4,fun t ht hl=>by rcases eC ht with rfl|rfl|rfl|rfl|rfl|rfl<;>first|assumption|(simp at hl)⟩
 ·exact⟨rfl,h2,fun t ht hl=>by rcases eC ht with rfl|rfl|rfl|rfl|rfl|rfl<;>first|assumption|(simp at hl)⟩
theorem low_nat (v s:Nat)(hs:1<=s)(hv:v<18446744073709551616):low v s=((v%2^s:Nat):Int):=by
 unfold low;rw[if_neg (by omega)];by_cases c:64<=(s:Int)
 ·rw[if_pos c,Nat.mod_eq_of_lt (Nat.lt_of_lt_of_le hv (Nat.le_trans (by decide) (Nat.pow_le_pow_right (by decide) (show 64<=s by omega))))]
 ·rw[if_neg c,Int.toNat_natCast,Int.natCast_emod,bD]
theorem refLow_nat (v s:Nat)(w:World)(hs:1<=s)(hv:v<18446744073709551616):
  Calls Tryz.prog 160 #[.int .u64 v,.int .i64 s] w (bQ (.int .u64 (v%2^s:Nat)) w):=by
 have:=refLow_any v s w (by omega) (by omega);rwa[low_nat v s hs hv]at this
theorem low_natC (v s:Nat)(w:World)(hs:1<=s)(hv:v<18446744073709551616):
  Calls Tryz.prog 153 #[.int .u64 v,.int .i64 s] w (bQ (.int .u64 (v%2^s:Nat)) w):=by
 have:=low_any v s w (by omega) (by omega);rwa[low_nat v s hs hv]at this
theorem refSize_any (v:Nat)(w:World)(hv:v<18446744073709551616):
  Calls Tryz.prog 158 #[.int .u64 v] w (bQ (.int .i64 (sizeL v:Nat)) w):=by
 have L:=aH (gY v hv);go_enter Tryz.func158,Tryz.ntmps158;go_wp2;go_loop [3] (fun i=>∃m:Nat,cD m=true/\i=.int .i64 m/\∀t:Nat,cD t=true->t<m->pz v t=false) (fun i=>64-(intOf i).toNat)
 case atStart=>exact⟨2,rfl,rfl,fun t ht hl=>by rcases eC ht with rfl|rfl|rfl|rfl|rfl|rfl<;>simp at hl⟩
 case round=>
  obtain⟨m,hm,rfl,hb⟩:=hrel;have hm2:=dS hm;have H0:=aH hm;have HB:=aH hb;clear hm hb;by_cases hlt:m<64
  ·have h32:m<=32:=by have:=H0.out;simp[cD]at this;omega
   obtain⟨x,hx,HL⟩:∃x:Nat,x=v%2^m/\Hid (∀w,Calls Tryz.prog 160 #[.int .u64 v,.int .i64 m] w (bQ (.int .u64 x) w)):=⟨_,rfl,aH fun w=>refLow_nat v m w (by omega) hv⟩;have hxl:x<18446744073709551616:=by rw[hx];exact Nat.lt_of_le_of_lt (Nat.mod_le _ _) hv
   have he:(((mB x m 64:Nat):Int)==(v:Int))=pz v m:=by rw[hx];unfold pz;rw[Bool.eq_iff_iff];simp;omega
   clear hx;cases hp:pz v m
   ·rw[hp]at he;have HP:=aH hp;clear hp;go_wp2_with (first|(go_at_call 160;refine(HL.out _).mono ?_;rintro e w' ⟨rfl,rfl⟩)|(go_at_call 186;refine(again_any _ _ _ (by omega) (by omega) (by omega)).mono ?_;rintro e w' ⟨rfl,rfl⟩))
    go_round
    case rel=>
     refine⟨2*m,by have:=H0.out;simp[cD]at this⊢;omega,by go_num,fun t ht hl=>?_⟩;by_cases c:t<m
     ·exact HB.out t ht c
     ·have e:t=m:=by
       rcases eC ht with rfl|rfl|rfl|rfl|rfl|rfl<;>rcases eC H0.out with e|e|e|e|e|e<;>omega
      rw[e];exact HP.out
    case measure=>simp[intOf];omega
   ·rw[hp]at he;have HP:=aH hp;clear hp;go_wp2_with (first|(go_at_call 160;refine(HL.out _).mono ?_;rintro e w' ⟨rfl,rfl⟩)|(go_at_call 186;refine(again_any _ _ _ (by omega) (by omega) (by omega)).mono ?_;rintro e w' ⟨rfl,rfl⟩))
    go_ret;exact bK (by rw[L.out.uniq ⟨H0.out,HP.out,HB.out⟩])
  ·obtain rfl:m=64:=by omega
   go_wp2;go_ret;exact bK (by rw[L.out.uniq ⟨H0.out,pz64 v hv,HB.out⟩];rfl)
theorem row_step (k:Nat)(hk:k<=63):IntKind.u64.wrap (((2^k-1:Nat):Int)+2^k)=((2^(k+1)-1:Nat):Int):=by
 have h:=sum_step (2^k-1) k (by have:=Nat.two_pow_pos k;omega) hk;rw[h,Nat.pow_succ];have:=Nat.two_pow_pos k;congr 1;omega
theorem pow_lt64 (k:Nat)(hk:k<=64):2^k-1<18446744073709551616:=by
 have:=Nat.pow_le_pow_right (show 0<2 by decide) hk;have:=Nat.two_pow_pos k;omega
theorem row_any (k r s:Nat)(w:World)(hs:cD s=true)(hk:k<s)(hr:r<s):
  Calls Tryz.prog 161 #[.int .i64 k,.int .i64 r,.int .i64 s] w (bQ (.int .u64 (fB (2^k-1) r s s:Nat)) w):=by
 have hl:=dS hs;have hpl:=pow_lt64 k (by omega);have R:=aH (rotS2 (v:=2^k-1) hs hr (by
  have h1:2^k<=2^s:=Nat.pow_le_pow_right (by decide) (by omega);have h2:=Nat.two_pow_pos k;rw[<-bD];omega))
 go_enter Tryz.func161,Tryz.ntmps161;go_wp2;go_loop [7,8] (fun t i=>∃j:Nat,j<=k/\i=.int .i64 j/\t=.int .u64 (2^j-1:Nat)) (fun _ i=>k-(intOf i).toNat)
 case atStart=>exact⟨0,by omega,rfl,rfl⟩
 case round=>
  obtain⟨j,hj,rfl,rfl⟩:=hrel;by_cases hlt:j<k
  ·have H3:=aH (row_step j (by omega));go_wp2_with (first|(go_at_call 103;refine(eK _ _ (by omega)).mono ?_;rintro e w' ⟨rfl,rfl⟩))
   go_round
   case rel=>exact⟨j+1,by omega,by go_num,by rw[H3.out]⟩
   case measure=>simp[intOf];omega
  ·obtain rfl:j=k:=by omega
   go_wp2_with (first|(go_at_call 188;refine(refRotate_any _ _ _ _ (by omega) (by omega)).mono ?_;rintro e w' ⟨rfl,rfl⟩))
   go_ret;refine bK ?_;rw[R.out]
theorem tz_any (x:Nat)(w:World)(hx:x<18446744073709551616)(hT:TabAt 3 Lib.deBruijn64tab w):
  Calls Tryz.prog 183 #[.int .u64 x] w (bQ (.int .i64 (Lib.ctz 64 x)) w):=by
 by_cases hx0:x=0
 ·subst hx0;go_enter Tryz.func183,Tryz.ntmps183;go_wp2;go_ret;exact bK rfl
 ·obtain⟨hlow,hk⟩:=Lib.lowest_bit 64 x hx0 hx;obtain⟨hi,htab⟩:=Lib.deBruijn64_at _ hk;have hcell:=hT _ hi;rw[htab]at hcell;have key:=tz64_key x _ hx hx0 hlow;obtain⟨k,hkk⟩:=aE (Lib.ctz 64 x);obtain⟨idx,hidx⟩:=aE (2^Lib.ctz 64 x*285870213051353865%18446744073709551616/288230376151711744);rw[<-hidx]at hcell key hi;rw[<-hkk]at hcell hk⊢;clear hT hlow htab hidx hkk;have hi2:idx<64:=hi;have hx1:((x:Int)==0)=false:=by rw[beq_eq_false_iff_ne];omega
  go_enter Tryz.func183,Tryz.ntmps183;go_wp2_with (simp only[key])
  go_ret;exact bK rfl
theorem Ones_any (x:Nat)(w:World)(hx:x<18446744073709551616):
  Calls Tryz.prog 155 #[.int .u64 x] w (bQ (.int .i64 (gA x 64:Nat)) w):=by
 go_enter Tryz.func155,Tryz.ntmps155;go_wp2_with (first|(go_at_call 184;refine(ones_any _ _ hx).mono ?_;rintro e w' ⟨rfl,rfl⟩))
 go_ret;exact bK rfl
theorem ctz_le (x:Nat)(hx:x<18446744073709551616):Lib.ctz 64 x<=64:=by
 by_cases h:x=0
 ·subst h;decide
 ·have:=(Lib.lowest_bit 64 x h hx).2;omega
theorem and_one (x:Nat)(hx:x<18446744073709551616):bits BinOp.and IntKind.u64 (x:Int) 1=((x%2:Nat):Int):=by
 have:=and_bit x 0 hx;simpa using this
theorem xor_max (x:Nat)(hx:x<18446744073709551616):bits BinOp.xor IntKind.u64 IntKind.u64.max (x:Int)=((18446744073709551615-x:Nat):Int):=by
 have h1:(BitVec.ofInt 64 (x:Int)).toNat=x:=by
  rw[BitVec.ofInt_natCast,BitVec.toNat_ofNat];exact Nat.mod_eq_of_lt (by omega)
 have h2:BitVec.ofInt 64 IntKind.u64.max=BitVec.allOnes 64:=by decide
 have e:(BitVec.ofInt 64 IntKind.u64.max^^^BitVec.ofInt 64 (x:Int)).toNat=18446744073709551615-x:=by
  rw[h2,BitVec.allOnes_xor,BitVec.toNat_not,h1]
 show IntKind.u64.wrap ((BitVec.ofInt 64 IntKind.u64.max^^^BitVec.ofInt 64 (x:Int)).toNat:Int)=_
 rw[e,IntKind.wrap_u64];omega
def turnS (x s:Nat):Int:=if x%2=0 then((s:Int)-(Lib.ctz 64 x:Nat)%s)%s else(gA x 64:Nat)-(Lib.ctz 64 (18446744073709551615-x):Nat)
theorem turn_any (x s:Nat)(w:World)(hx:x<18446744073709551616)(h1:1<=s)(h2:s<=64)(hT:TabAt 3 Lib.deBruijn64tab w):
  Calls Tryz.prog 154 #[.int .u64 x,.int .i64 s] w (bQ (.int .i64 (turnS x s)) w):=by
 have HT:=aH hT;have a1:=and_one x hx;clear hT;unfold turnS;by_cases c:x%2=0
 ·rw[if_pos c];have hb:(bits BinOp.and IntKind.u64 (x:Int) 1==0)=true:=by rw[a1,c];rfl
  clear a1 c;obtain⟨z,hz,hzl⟩:∃z:Nat,z=Lib.ctz 64 x/\z<=64:=⟨_,rfl,ctz_le x hx⟩;have K:Hid (∀w,TabAt 3 Lib.deBruijn64tab w->Calls Tryz.prog 183 #[.int .u64 x] w (bQ (.int .i64 z) w)):=aH fun w h=>by rw[hz];exact tz_any x w hx h
  rw[<-hz];clear hz;have m1:0<=(z:Int)%s:=Int.emod_nonneg _ (by omega);have m2:(z:Int)%s<s:=Int.emod_lt_of_pos _ (by omega);go_enter Tryz.func154,Tryz.ntmps154;go_wp2_with (first|(go_at_call 183;refine(K.out _ HT.out).mono ?_;rintro e w' ⟨rfl,rfl⟩))
  go_ret;exact bK rfl
 ·rw[if_neg c];have hb:(bits BinOp.and IntKind.u64 (x:Int) 1==0)=false:=by rw[a1,show x%2=1 by omega];rfl
  clear a1 c;have hy:18446744073709551615-x<18446744073709551616:=by omega
  have hpl:=iY x 64;obtain⟨y,hye⟩:∃y:Nat,y=18446744073709551615-x:=⟨_,rfl⟩;rw[<-hye]at hy⊢;have hyl:=ctz_le y hy;have K:Hid (∀w,TabAt 3 Lib.deBruijn64tab w->Calls Tryz.prog 183 #[.int .u64 (bits BinOp.xor IntKind.u64 IntKind.u64.max (x:Int))] w (bQ (.int .i64 (Lib.ctz 64 y)) w)):=aH fun w h=>by rw[xor_max x hx,<-hye];exact tz_any y w hy h
  obtain⟨q,hq⟩:=aE (gA x 64);have KO:Hid (∀w,Calls Tryz.prog 155 #[.int .u64 x] w (bQ (.int .i64 q) w)):=aH fun w=>by rw[hq];exact Ones_any x w hx
  obtain⟨z,hz⟩:=aE (Lib.ctz 64 y);rw[<-hz]at K hyl⊢;rw[<-hq]at hpl⊢;clear hz hq hye;go_enter Tryz.func154,Tryz.ntmps154;go_wp2_with (first|(go_at_call 155;refine(KO.out _).mono ?_;rintro e w' ⟨rfl,rfl⟩)|(go_at_call 183;refine(K.out _ HT.out).mono ?_;rintro e w' ⟨rfl,rfl⟩))
  go_ret;exact bK rfl
theorem jU {w w':World}{b:Nat}{u:Value}(h:w.grownBy w' (some b)):w.grownBy (w'.setCell ⟨b,0,none⟩ u) (some b):=
 ⟨h.os,h.tape,h.output,by have:=h.size;simp[World.setCell];omega,fun k hk hne=>by
  rw[<-h.block k hk hne];exact Below.heap_setCell _ _ _ _ (by simp at hne⊢;omega)⟩
abbrev nextV (B:Nat):Value:=.func (Fn.func 202) #[] #[.pointer (some ⟨B,0,none⟩)]
def lF (w:World)(B:Nat)(m:Int):Prop:=w.heap[B]?=some (.cells #[.int .i64 m] 3 (0,0))
def CloPost (w:World)(B m:Nat)(e:Ending)(w':World):Prop:=
 e=.returned (.int .i64 (if 32<m then 0 else(m:Int)*2))/\lF w' B ((m:Int)*2)/\w.grownBy w' (some B)
theorem clo_any (m B:Nat)(w:World)(h1:1<=m)(h2:m<=64)(hB:lF w B m):
  Calls Tryz.prog 202 #[.pointer (some ⟨B,0,none⟩)] w (CloPost w B m):=by
 unfold lF at hB;have hlt:=lt_of_block hB;have hc:=cell_of_one hB;have hf:=free_of_one hB;have HB:=aH hB;clear hB;by_cases c:32<m
 ·go_enter Tryz.func202,Tryz.ntmps202;go_wp2;go_ret;exact⟨by rw[if_pos c];rfl,one_setCell HB.out,jU (World.grownBy.refl _ _)⟩
 ·go_enter Tryz.func202,Tryz.ntmps202;go_wp2;go_ret;exact⟨by rw[if_neg c];rfl,one_setCell HB.out,jU (World.grownBy.refl _ _)⟩
def SizesPost (w:World)(e:Ending)(w':World):Prop:=e=.returned (nextV w.heap.size)/\w'=w.alloc (.cells #[.int .i64 1] 3)
theorem sizes_any (w:World):Calls Tryz.prog 181 #[] w (SizesPost w):=by
 go_enter Tryz.func181,Tryz.ntmps181;go_wp2;go_ret;exact⟨rfl,rfl⟩
theorem repeat_low (v m:Nat)(w:World)(hs:cD m=true):
  Calls Tryz.prog 182 #[.int .u64 (v%2^m:Nat),.int .i64 m] w (bQ (.int .u64 (mB (v%2^m) m 64:Nat)) w):=
 repeat_any _ m w hs (Nat.mod_lt _ (Nat.two_pow_pos m))
def CloSmall (w:World)(B m:Nat)(e:Ending)(w':World):Prop:=
 e=.returned (.int .i64 ((2*m:Nat):Int))/\lF w' B ((2*m:Nat):Int)/\w.grownBy w' (some B)
theorem clo_small (m B:Nat)(w:World)(h1:1<=m)(h2:m<=32)(hB:lF w B m):
  Calls Tryz.prog 202 #[.pointer (some ⟨B,0,none⟩)] w (CloSmall w B m):=by
 refine(clo_any m B w h1 (by omega) hB).mono ?_;rintro e w' ⟨he,hc,hg⟩;rw[if_neg (by omega),Int.mul_comm]at he;rw[Int.mul_comm]at hc;exact⟨by rw[he];simp,by simpa using hc,hg⟩
theorem Size_any (v:Nat)(w:World)(hv:v<18446744073709551616):
  Calls Tryz.prog 152 #[.int .u64 v] w (aP (.int .i64 (sizeL v:Nat)) w):=by
 have L:=aH (gY v hv);go_enter Tryz.func152,Tryz.ntmps152;go_wp2_with (first|(go_at_call 181;refine(sizes_any _).mono ?_;rintro e w1 ⟨rfl,rfl⟩))
 obtain⟨B,hBd⟩:∃B:Nat,B=w.heap.size:=⟨_,rfl⟩;have hblk:lF (w.alloc (.cells #[.int .i64 1] 3)) B (1:Nat):=by rw[hBd];exact(MapKept.heap_alloc w _).1
 have hb2:=(Below.refl w.heap.size w).alloc (Nat.le_refl _) (.cells #[.int .i64 1] 3);have hBs:w.heap.size<=B:=by omega
 rw[<-hBd];obtain⟨wo,ho⟩:∃wo:World,wo=w.alloc (.cells #[.int .i64 1] 3):=⟨_,rfl⟩;rw[<-ho]at hb2 hblk⊢;have hBl:B<wo.heap.size:=by rw[ho,hBd];simp
 clear ho hBd;refine(clo_small 1 B wo (by omega) (by omega) hblk).mono ?_;rintro e w1 ⟨rfl,hc1,hg⟩;have hb1:=hb2.grown hg hb2.size (fun j hj=>by cases hj;exact hBs);have HC:=aH hc1;clear hb2 hblk hg hc1 hBl;go_wp2;go_loopw [4] (fun i wl=>∃m:Nat,cD m=true/\i=.int .i64 m/\(∀t:Nat,cD t=true->t<m->pz v t=false)/\lF wl B m/\Below w.heap.size w wl) (fun i _=>64-(intOf i).toNat)
 case atStart=>exact⟨2,rfl,rfl,fun t ht hl=>by rcases eC ht with rfl|rfl|rfl|rfl|rfl|rfl<;>simp at hl,HC.out,hb1⟩
 case round=>
  obtain⟨m,hm,rfl,hlow,hcell,hb⟩:=hrel;have hm2:=dS hm;have H0:=aH hm;have HB:=aH hlow;have HCE:=aH hcell;clear hm hlow hcell HC;obtain⟨x,hx,HL⟩:∃x:Nat,x=v%2^m/\Hid (∀w,Calls Tryz.prog 153 #[.int .u64 v,.int .i64 m] w (bQ (.int .u64 x) w)):=⟨_,rfl,aH fun w=>low_natC v m w (by omega) hv⟩;have HR:Hid (∀w,Calls Tryz.prog 182 #[.int .u64 x,.int .i64 m] w (bQ (.int .u64 (mB x m 64:Nat)) w)):=aH fun w=>by rw[hx];exact repeat_low v m w H0.out
  have he:(((mB x m 64:Nat):Int) !=(v:Int))=!pz v m:=by rw[hx];unfold pz;rw[Bool.eq_iff_iff];simp;omega
  clear hx;cases hp:pz v m
  ·have h32:m<=32:=by
    rcases eC H0.out with e|e|e|e|e|e<;>subst e<;>first|omega|(rw[pz64 v hv]at hp;cases hp)
   rw[hp]at he;have HP:=aH hp;clear hp;have he2:(((mB x m 64:Nat):Int) !=(v:Int))=true:=he;clear he;go_wp2_with (first|(go_at_call 153;refine(HL.out _).mono ?_;rintro e w' ⟨rfl,rfl⟩)|(go_at_call 182;refine(HR.out _).mono ?_;rintro e w' ⟨rfl,rfl⟩))
   refine(clo_small m B _ (by omega) h32 HCE.out).mono ?_;rintro e w2 ⟨rfl,hc2,hg2⟩;have hb3:=hb.grown hg2 hb.size (fun j hj=>by cases hj;exact hBs);have HC2:=aH hc2;clear hg2 hc2;go_wp2;go_roundw
   case rel=>
    refine⟨2*m,by have:=H0.out;simp[cD]at this⊢;omega,rfl,fun t ht hl=>?_,HC2.out,hb3⟩;by_cases c:t<m
    ·exact HB.out t ht c
    ·have e:t=m:=by
      rcases eC ht with rfl|rfl|rfl|rfl|rfl|rfl<;>rcases eC H0.out with e|e|e|e|e|e<;>omega
     rw[e];exact HP.out
   case measure=>simp[intOf];omega
  ·rw[hp]at he;have HP:=aH hp;clear hp;have he2:(((mB x m 64:Nat):Int) !=(v:Int))=false:=he;clear he;go_wp2_with (first|(go_at_call 153;refine(HL.out _).mono ?_;rintro e w' ⟨rfl,rfl⟩)|(go_at_call 182;refine(HR.out _).mono ?_;rintro e w' ⟨rfl,rfl⟩))
   go_ret;refine⟨?_,hb⟩;rw[L.out.uniq ⟨H0.out,HP.out,HB.out⟩];rfl
def fS (k r s:Nat):Nat:=mB (fB (2^k-1) r s s) s 64
theorem low_ones (k:Nat)(hk:k<=63):18446744073709551615%2^k=2^k-1:=by
 have h:18446744073709551615=2^k*(2^(64-k)-1)+(2^k-1):=by
  rw[Nat.mul_sub_one,<-Nat.pow_add,show k+(64-k)=64 from by omega];have:=Nat.pow_le_pow_right (show 0<2 by decide) (show k<=64 by omega);have:=Nat.two_pow_pos k;omega
 rw[h,Nat.mul_add_mod];exact Nat.mod_eq_of_lt (by have:=Nat.two_pow_pos k;omega)
theorem lowOnes_any (k:Nat)(w:World)(h1:1<=k)(hk:k<=63):
  Calls Tryz.prog 153 #[.int .u64 18446744073709551615,.int .i64 k] w (bQ (.int .u64 (2^k-1:Nat)) w):=by
 have:=low_natC 18446744073709551615 k w h1 (by omega);rwa[low_ones k hk]at this
theorem make64_any (k r s:Nat)(w:World)(hs:cD s=true)(h1:1<=k)(hk:k<s)(hr:r<s):
  Calls Tryz.prog 156 #[.agg #[.int .i64 s,.int .i64 r,.int .i64 k]] w (aP (.int .u64 (fS k r s)) w):=by
 have hl:=dS hs;have hlt:=rL (2^k-1) r s s;have HK:Hid (∀w,Calls Tryz.prog 153 #[.int .u64 18446744073709551615,.int .i64 k] w (bQ (.int .u64 (2^k-1:Nat)) w)):=aH fun w=>lowOnes_any k w h1 (by omega)
 have hp:=rotS2 (v:=2^k-1) hs hr (by
  have h1:2^k<=2^s:=Nat.pow_le_pow_right (by decide) (by omega);have h2:=Nat.two_pow_pos k;rw[<-bD];omega)
 have hpl:=pow_lt64 k (by omega);unfold fS;obtain⟨q,hq⟩:=aE (fB (2^k-1) r s s);obtain⟨o,ho⟩:=aE (2^k-1);rw[<-hq]at hlt⊢;have HR:Hid (∀w,Calls Tryz.prog 185 #[.int .u64 o,.int .i64 r,.int .i64 s] w (bQ (.tuple #[.int .u64 q,.int .i64 0]) w)):=aH fun w=>by
  have:=rotate_any ((2^k-1:Nat):Int) r s w (by omega) (by omega);rw[hp,<-hq,<-ho]at this;exact this
 have HP:Hid (∀w,Calls Tryz.prog 182 #[.int .u64 q,.int .i64 s] w (bQ (.int .u64 (mB q s 64:Nat)) w)):=aH fun w=>repeat_any q s w hs hlt
 have hql:q<18446744073709551616:=Nat.lt_of_lt_of_le hlt (Nat.le_trans (Nat.pow_le_pow_right (by decide) (show s<=64 by omega)) (by decide));rw[<-ho]at HK;clear hq ho hp hlt hpl hs;go_enter Tryz.func156,Tryz.ntmps156;go_wp2;go_quiet (first
  |(go_at_call 153;exact Calls.quiet_of_same ((HK.out _).mono fun e w' h=>⟨h.1,h.2.symm⟩))
  |(go_at_call 185;exact Calls.quiet_of_same ((HR.out _).mono fun e w' h=>⟨h.1,h.2.symm⟩)))
 go_wp2_with (first|(go_at_call 182;refine(HP.out _).mono ?_;rintro e w' ⟨rfl,rfl⟩))
 go_ret;exact⟨rfl,below_drewN ((Below.refl _ _).alloc (Nat.le_refl _) _) _⟩
theorem ctz_bits (x:Nat)(hx:x<18446744073709551616)(h0:x≠0):(∀j,j<Lib.ctz 64 x->x.testBit j=false)/\x.testBit (Lib.ctz 64 x)=true:=by
 obtain⟨m,hm,-⟩:=Lib.ctzFrom_spec 64 x (by omega) hx;have e:Lib.ctz 64 x=Lib.ctzFrom 64 x:=by simp[Lib.ctz,h0]
 rw[<-e]at hm;generalize Lib.ctz 64 x=k at hm;subst hm;constructor
 ·intro j hj;rw[Nat.testBit_two_pow_mul];simp;omega
 ·rw[Nat.testBit_two_pow_mul];simp
theorem pcN_mono (v n m:Nat)(h:n<=m):gA v n<=gA v m:=by
 induction m with
 |zero=>rw[show n=0 by omega];exact Nat.le_refl _
 |succ m ih=>
  by_cases c:n=m+1
  ·rw[c];exact Nat.le_refl _
  ·have:=ih (by omega);rw[gA];omega
theorem pcN_all (v n:Nat)(h:∀j,j<n->v.testBit j=true):gA v n=n:=by
 induction n with
 |zero=>rfl
 |succ n ih=>rw[gA,ih (fun j hj=>h j (by omega)),h n (by omega)];simp
theorem pD (x j:Nat)(hx:x<18446744073709551616)(hj:j<64):(18446744073709551615-x).testBit j=!x.testBit j:=by
 have:=Nat.testBit_two_pow_sub_succ (x:=x) (n:=64) hx j;rw[show 2^64-(x+1)=18446744073709551615-x from by omega]at this;rw[this];simp[hj]
theorem ctz_compl_le (x:Nat)(hx:x<18446744073709551616):Lib.ctz 64 (18446744073709551615-x)<=gA x 64:=by
 have hl:=ctz_le (18446744073709551615-x) (by omega);have ha:=pcN_all x (Lib.ctz 64 (18446744073709551615-x)) (by
  intro j hj;by_cases h0:18446744073709551615-x=0
  ·have:=pD x j hx (by omega);rw[h0]at this;simpa using this
  ·have h1:=(ctz_bits (18446744073709551615-x) (by omega) h0).1 j hj;rw[pD x j hx (by omega)]at h1;simpa using h1)
 have:=pcN_mono x _ 64 hl;omega
theorem turnS_lt (x s:Nat)(hx:x<18446744073709551616)(hs:1<=s)(ho:gA x 64<s):∃r:Nat,r<s/\turnS x s=r:=by
 unfold turnS;by_cases c:x%2=0
 ·rw[if_pos c];have h1:=Int.emod_nonneg (((s:Int)-(Lib.ctz 64 x:Nat)%s)) (show(s:Int)≠0 by omega);have h2:=Int.emod_lt_of_pos (((s:Int)-(Lib.ctz 64 x:Nat)%s)) (show(0:Int)<s by omega);exact⟨(((s:Int)-(Lib.ctz 64 x:Nat)%s)%s).toNat,by omega,by omega⟩
 ·rw[if_neg c];have:=ctz_compl_le x hx;exact⟨gA x 64-Lib.ctz 64 (18446744073709551615-x),by omega,by omega⟩
abbrev Tab (w:World):Prop:=TabAt 3 Lib.deBruijn64tab w/\3<w.heap.size
theorem Tab.below {w w':World}{B:Nat}(h:Tab w)(hb:Below B w w')(hB:3<B):Tab w':=
 ⟨fun j hj=>by rw[hb.cell (p:=⟨3,j,none⟩) hB];exact h.1 j hj,Nat.lt_of_lt_of_le h.2 hb.size⟩
abbrev lH (p:Int×Int×Int):Value:=.agg #[.int .i64 p.1,.int .i64 p.2.1,.int .i64 p.2.2]
def cK (v:Nat):Nat:=v%2^sizeL v
def findS (v:Nat):Int×Int×Int:=
 if gA (cK v) 64=0\/gA (cK v) 64=sizeL v then(0,0,0)
 else if fS (gA (cK v) 64) (turnS (cK v) (sizeL v)).toNat (sizeL v)=v then(sizeL v,turnS (cK v) (sizeL v),gA (cK v) 64)else(0,0,0)
theorem oZ {s:Nat}(h:s=2\/s=4\/s=8\/s=16\/s=32\/s=64):cD s=true:=by rcases h with rfl|rfl|rfl|rfl|rfl|rfl<;>rfl
theorem bits_ext {a b:Nat}(ha:a<18446744073709551616)(hb:b<18446744073709551616)(h:∀j,j<64->a.testBit j=b.testBit j):a=b:=by
 apply Nat.eq_of_testBit_eq;intro j;by_cases c:j<64
 ·exact h j c
 ·have hp:18446744073709551616<=2^j:=Nat.le_trans (by decide) (Nat.pow_le_pow_right (show 0<2 by decide) (show 64<=j by omega));rw[Nat.testBit_lt_two_pow (Nat.lt_of_lt_of_le ha hp),Nat.testBit_lt_two_pow (Nat.lt_of_lt_of_le hb hp)]
theorem maskN_lt (k r s:Nat):fS k r s<18446744073709551616:=agN_lt _ _ 64
theorem sC (k r s:Nat)(hs:cD s=true)(h1:1<=k)(hk:k<s)(hr:r<s):dF (fS k r s) k r s:=by
 refine⟨eC hs,h1,hk,hr,maskN_lt _ _ _,?_⟩;intro j hj;have hpos:0<s:=by omega
 unfold fS;rw[mO,rotN_bit,Nat.testBit_two_pow_sub_one,Nat.mod_add_mod];simp[hj,Nat.mod_lt j hpos]
theorem dF.eq {v k r s:Nat}(h:dF v k r s):v=fS k r s:=bits_ext h.lt (maskN_lt _ _ _) fun j hj=>by
 have q:=sC k r s (oZ h.size) h.one h.less h.turn;rw[h.bit j hj,q.bit j hj]
theorem dF.sizeL {v k r s:Nat}(h:dF v k r s):sizeL v=s:=by
 have hv:=h.lt;refine(gY v hv).uniq ⟨oZ h.size,?_,fun t ht hts=>?_⟩
 ·unfold pz;rw[beq_iff_eq];exact(agN_per v s hv (by have:=h.pos;omega) h.pos.2).2 h.per
 ·have ht6:=eC ht;have hp:=h.pos;have:=h.least t (by omega) hts;unfold pz;rw[beq_eq_false_iff_ne];intro e;exact this ((agN_per v t hv (by omega) (by omega)).1 e)
theorem dF.partBit {v k r s:Nat} (h:dF v k r s) (j:Nat) (hj:j < s):(v % 2 ^ s).testBit j=decide ((j+r) % s < k):=by
 rw[Nat.testBit_mod_two_pow,h.bit j (by have:=h.pos;omega)];simp[hj]
theorem dF.ones {v k r s:Nat}(h:dF v k r s):gA (v%2^s) 64=k:=by
 rw[rS _ s 64 (Nat.mod_lt _ (Nat.two_pow_pos s)) h.pos.2];exact pc_row k r s (by have:=h.less;omega) h.turn _ h.partBit
theorem ctz_eq (x m:Nat)(hx:x<18446744073709551616)(h0:∀j,j<m->x.testBit j=false)(h1:x.testBit m=true):Lib.ctz 64 x=m:=by
 have hne:x≠0:=by rintro rfl;simp at h1
 obtain⟨a,b⟩:=ctz_bits x hx hne;rcases Nat.lt_trichotomy (Lib.ctz 64 x) m with c|c|c
 ·rw[h0 _ c]at b;cases b
 ·exact c
 ·rw[a _ c]at h1;cases h1
theorem dF.turnS {v k r s:Nat}(h:dF v k r s):turnS (v%2^s) s=r:=by
 have hp:=h.pos;have hr:=h.turn;have hk:=h.less;have h1:=h.one;have hx:v%2^s<18446744073709551616:=Nat.lt_of_le_of_lt (Nat.mod_le _ _) h.lt;have hb:=h.partBit;have hone:=h.ones;have b0:=hb 0 (by omega);rw[Nat.zero_add,Nat.mod_eq_of_lt hr,Nat.testBit_zero]at b0;unfold Go.Proofs.YtiohgaghmnpplaaGreatDoor.turnS;generalize v%2^s=x at*
 by_cases c:x%2=0
 ·rw[if_pos c];have hkr:¬r<k:=by intro h;simp[h]at b0;omega
  have hc:Lib.ctz 64 x=s-r:=ctz_eq x (s-r) hx
   (fun j hj=>by rw[hb j (by omega),modS _ _ (by omega),if_pos (by omega)];simp;omega)
   (by rw[hb (s-r) (by omega),show s-r+r=s by omega,Nat.mod_self];simp;omega)
  rw[hc,Int.emod_eq_of_lt (show(0:Int)<=((s-r:Nat):Int) by omega) (by omega),show(s:Int)-((s-r:Nat):Int)=r by omega,Int.emod_eq_of_lt (by omega) (by omega)]
 ·rw[if_neg c];have hkr:r<k:=by
   apply Classical.byContradiction;intro h;simp[h]at b0;omega
  have hc:Lib.ctz 64 (18446744073709551615-x)=k-r:=ctz_eq _ (k-r) (by omega)
   (fun j hj=>by rw[pD x j hx (by omega),hb j (by omega),modS _ _ (by omega),if_pos (by omega)];simp;omega)
   (by rw[pD x _ hx (by omega),hb (k-r) (by omega),show k-r+r=k by omega,Nat.mod_eq_of_lt hk];simp)
  rw[hc,hone];omega
theorem dF.findS {v k r s:Nat}(h:dF v k r s):findS v=((s:Int),(r:Int),(k:Int)):=by
 have h1:=h.one;have hk:=h.less;unfold Go.Proofs.YtiohgaghmnpplaaGreatDoor.findS cK;rw[h.sizeL,h.ones,h.turnS,if_neg (by omega),Int.toNat_natCast,<-h.eq,if_pos rfl]
theorem qL {v:Nat}(hv:v<18446744073709551616)(h:∀k r s,¬dF v k r s):findS v=(0,0,0):=by
 have L:=gY v hv;have hsl:=dS L.size;have hps:cK v<2^sizeL v:=Nat.mod_lt _ (Nat.two_pow_pos _);have hpv:cK v<18446744073709551616:=Nat.lt_of_le_of_lt (Nat.mod_le _ _) hv;have hol:gA (cK v) 64<=sizeL v:=by rw[rS _ _ _ hps (by omega)];exact iY _ _
 unfold findS;by_cases c:gA (cK v) 64=0\/gA (cK v) 64=sizeL v
 ·rw[if_pos c]
 ·rw[if_neg c];obtain⟨r,hr,ht⟩:=turnS_lt (cK v) (sizeL v) hpv (by omega) (by omega);rw[ht,Int.toNat_natCast];by_cases e:fS (gA (cK v) 64) r (sizeL v)=v
  ·have:=sC (gA (cK v) 64) r (sizeL v) L.size (by omega) (by omega) hr;rw[e]at this;exact(h _ _ _ this).elim
  ·rw[if_neg e]
theorem pat_or (v:Nat)(hv:v<18446744073709551616):(∃k r s,dF v k r s)\/∀k r s,¬dF v k r s:=by
 by_cases h:∃k r s,dF v k r s
 ·exact .inl h
 ·exact .inr fun k r s p=>h ⟨k,r,s,p⟩
theorem dF.uniq {v k r s k' r' s':Nat}(h:dF v k r s)(g:dF v k' r' s'):k=k'/\r=r'/\s=s':=by
 have e:=h.findS.symm.trans g.findS;simp only[Prod.mk.injEq]at e;omega
theorem pat_of_part {v k r s:Nat}(hv:v<18446744073709551616)(hs:cD s=true)(hper:pz v s=true)(h1:1<=k)(hk:k<s)(hr:r<s)(h:fB (2^k-1) r s s=v%2^s):dF v k r s:=by
 have hl:=dS hs;have e:v=fS k r s:=by
  unfold fS;rw[h];unfold pz at hper;exact(beq_iff_eq.1 hper).symm
 have:=sC k r s hs h1 hk hr;rwa[<-e]at this
theorem dF.part {v k r s:Nat}(h:dF v k r s):fB (2^k-1) r s s=v%2^s:=by
 apply Nat.eq_of_testBit_eq;intro j;rw[rotN_bit,Nat.testBit_two_pow_sub_one];by_cases c:j<s
 ·rw[h.partBit j c];simp[c]
 ·rw[Nat.testBit_mod_two_pow];simp[c]
def eV (n r s t:Int):Bool:=(n == dB t) && decide (r < t) && decide (1<=s - bX t+1) && decide (s - bX t+1 < t)
def lQ (n r s:Int):Int×Int×Int:=
 if eV n r s 2 then(2,r,s-bX 2+1)else if eV n r s 4 then(4,r,s-bX 4+1)else if eV n r s 8 then(8,r,s-bX 8+1)
 else if eV n r s 16 then(16,r,s-bX 16+1)else if eV n r s 32 then(32,r,s-bX 32+1)else if eV n r s 64 then(64,r,s-bX 64+1)else(0,0,0)
theorem nL (n r s:Int):lQ n r s=(0,0,0)/\(∀t,cD t=true->eV n r s t=false)\/∃t:Int,cD t=true/\eV n r s t=true/\(∀u,cD u=true->u<t->eV n r s u=false)/\lQ n r s=(t,r,s-bX t+1):=by
 have six:∀t:Int,cD t=true->t=2\/t=4\/t=8\/t=16\/t=32\/t=64:=fun t h=>by simp[cD]at h;omega
 unfold lQ;cases h2:eV n r s 2
 ·cases h4:eV n r s 4
  ·cases h8:eV n r s 8
   ·cases h16:eV n r s 16
    ·cases h32:eV n r s 32
     ·cases h64:eV n r s 64
      ·exact .inl ⟨rfl,fun t ht=>by rcases six t ht with rfl|rfl|rfl|rfl|rfl|rfl<;>assumption⟩
      ·exact .inr ⟨64,rfl,h64,fun t ht hl=>by rcases six t ht with rfl|rfl|rfl|rfl|rfl|rfl<;>first|assumption|(simp at hl),rfl⟩
     ·exact .inr ⟨32,rfl,h32,fun t ht hl=>by rcases six t ht with rfl|rfl|rfl|rfl|rfl|rfl<;>first|assumption|(simp at hl),rfl⟩
    ·exact .inr ⟨16,rfl,h16,fun t ht hl=>by rcases six t ht with rfl|rfl|rfl|rfl|rfl|rfl<;>first|assumption|(simp at hl),rfl⟩
   ·exact .inr ⟨8,rfl,h8,fun t ht hl=>by rcases six t ht with rfl|rfl|rfl|rfl|rfl|rfl<;>first|assumption|(simp at hl),rfl⟩
  ·exact .inr ⟨4,rfl,h4,fun t ht hl=>by rcases six t ht with rfl|rfl|rfl|rfl|rfl|rfl<;>first|assumption|(simp at hl),rfl⟩
 ·exact .inr ⟨2,rfl,h2,fun t ht hl=>by rcases six t ht with rfl|rfl|rfl|rfl|rfl|rfl<;>first|assumption|(simp at hl),rfl⟩
def decS (n r s:Int):Int×Int:=
 if n<0\/n>1\/r<0\/r>63\/s<0\/s>63 then(0,1)
 else if lQ n r s=(0,0,0)then(0,3)else(((fS (lQ n r s).2.2.toNat (lQ n r s).2.1.toNat (lQ n r s).1.toNat:Nat):Int),0)
def encS (v:Nat):Int×Int×Int×Int:=
 if (findS v).1=0 then(0,0,0,3)else(dB (findS v).1,(findS v).2.1,bX (findS v).1+(findS v).2.2-1,0)
def isS (v:Nat):Bool:=decide ((findS v).1 ≠ 0)
theorem dF.encS {v k r s:Nat}(h:dF v k r s):encS v=(dB s,(r:Int),bX s+k-1,0):=by
 have hp:=h.pos;unfold Go.Proofs.YtiohgaghmnpplaaGreatDoor.encS;rw[h.findS,if_neg (by simp;omega)]
theorem encS_none {v:Nat}(hv:v<18446744073709551616)(h:∀k r s,¬dF v k r s):encS v=(0,0,0,3):=by
 unfold encS;rw[qL hv h,if_pos rfl]
theorem dF.isS {v k r s:Nat}(h:dF v k r s):isS v=true:=by
 have hp:=h.pos;unfold Go.Proofs.YtiohgaghmnpplaaGreatDoor.isS;rw[h.findS];simp;omega
theorem isS_none {v:Nat}(hv:v<18446744073709551616)(h:∀k r s,¬dF v k r s):isS v=false:=by
 unfold isS;rw[qL hv h];simp
theorem dec_pat {n r s a:Int}(h:decS n r s=(a,0)):∃k r' s':Nat,dF a.toNat k r' s'/\0<=a/\n=dB s'/\r=r'/\s=bX s'+k-1:=by
 unfold decS at h;split at h
 ·simp at h
 rename_i hb;rcases nL n r s with⟨e,-⟩|⟨t,ht,ho,-,e⟩
 ·rw[if_pos e]at h;simp at h
 ·have h6:t=2\/t=4\/t=8\/t=16\/t=32\/t=64:=by simp[cD]at ht;omega
  rw[if_neg (by rw[e];simp;omega),e]at h;simp only[Prod.mk.injEq,and_true]at h;unfold eV at ho;simp only[Bool.and_eq_true,beq_iff_eq,decide_eq_true_eq]at ho;obtain⟨⟨⟨h1,h2⟩,h3⟩,h4⟩:=ho;have et:(t.toNat:Int)=t:=by omega
  refine⟨(s-bX t+1).toNat,r.toNat,t.toNat,?_,?_,?_,?_,?_⟩
  ·have:=sC (s-bX t+1).toNat r.toNat t.toNat (by rw[et];exact ht) (by omega) (by omega) (by omega);rw[<-h,Int.toNat_natCast];exact this
  ·omega
  ·rw[et];exact h1
  ·omega
  ·rw[et];omega
theorem dF.decS {v k r s:Nat}(h:dF v k r s):decS (dB s) r (bX s+k-1)=((v:Int),0):=by
 have hp:=h.pos;have hr:=h.turn;have hk:=h.less;have h1:=h.one;have hb:¬(dB s<0\/dB s>1\/(r:Int)<0\/(r:Int)>63\/bX s+k-1<0\/bX s+k-1>63):=by
  unfold dB bX;rcases h.size with e|e|e|e|e|e<;>subst e<;>simp<;>omega
 have hok:eV (dB s) r (bX s+k-1) s=true:=by
  unfold eV;simp only[Bool.and_eq_true,beq_self_eq_true,decide_eq_true_eq,true_and];omega
 have hlow:∀u:Int,cD u=true->u<s->eV (dB s) r (bX s+k-1) u=false:=by
  intro u hu hus;have h6:u=2\/u=4\/u=8\/u=16\/u=32\/u=64:=by simp[cD]at hu;omega
  rw[Bool.eq_false_iff];intro ho;unfold eV at ho;simp only[Bool.and_eq_true,beq_iff_eq,decide_eq_true_eq]at ho;obtain⟨⟨⟨a1,a2⟩,a3⟩,a4⟩:=ho;unfold dB at a1;unfold bX at a3;rcases h.size with e|e|e|e|e|e<;>rcases h6 with f|f|f|f|f|f<;>subst e<;>subst f<;>simp at a1 a3 hus<;>omega
 unfold Go.Proofs.YtiohgaghmnpplaaGreatDoor.decS;rw[if_neg hb];rcases nL (dB s) r (bX s+k-1)with⟨e,hn⟩|⟨t,ht,ho,hl,e⟩
 ·have:=hn s (oZ h.size);rw[hok]at this;cases this
 ·have ets:t=s:=by
   rcases Int.lt_trichotomy t s with c|c|c
   ·rw[hlow t ht c]at ho;cases ho
   ·exact c
   ·have:=hl s (oZ h.size) c;rw[hok]at this;cases this
  subst ets;rw[e,if_neg (by simp;omega)];simp only[Prod.mk.injEq,and_true];rw[show(bX (s:Int)+k-1-bX s+1).toNat=k by omega,Int.toNat_natCast,Int.toNat_natCast,<-h.eq]
theorem blk3 {w:World}{B T:Nat}{x y z:Value}(h:w.heap[B]?=some (.cells #[x,y,z] T (0,0))):
  (∀X,(w.alloc X).cell? ⟨B,0,none⟩=some x)/\(∀X,(w.alloc X).cell? ⟨B,1,none⟩=some y)/\(∀X,(w.alloc X).cell? ⟨B,2,none⟩=some z)/\
  (∀X,(w.alloc X).frozen? ⟨B,0,none⟩=false)/\(∀X,(w.alloc X).frozen? ⟨B,1,none⟩=false)/\(∀X,(w.alloc X).frozen? ⟨B,2,none⟩=false):=by
 have hl:=lt_of_block h;have h2:∀X,(w.alloc X).heap[B]?=some (.cells #[x,y,z] T (0,0)):=fun X=>(Below.heap_alloc _ _ _ hl).trans h
 exact⟨fun X=>by simp[World.cell?,h2],fun X=>by simp[World.cell?,h2],fun X=>by simp[World.cell?,h2],fun X=>by simp[World.frozen?,h2],fun X=>by simp[World.frozen?,h2],fun X=>by simp[World.frozen?,h2]⟩
theorem blk0 {w:World}{B T:Nat}{x y z:Value}(h:w.heap[B]?=some (.cells #[x,y,z] T (0,0))):
  w.cell? ⟨B,0,none⟩=some x/\w.cell? ⟨B,1,none⟩=some y/\w.cell? ⟨B,2,none⟩=some z/\w.frozen? ⟨B,0,none⟩=false/\w.frozen? ⟨B,1,none⟩=false/\w.frozen? ⟨B,2,none⟩=false:=by
 exact⟨by simp[World.cell?,h],by simp[World.cell?,h],by simp[World.cell?,h],by simp[World.frozen?,h],by simp[World.frozen?,h],by simp[World.frozen?,h]⟩
theorem set0 {w:World}{B T:Nat}{x y z a:Value}(h:w.heap[B]?=some (.cells #[x,y,z] T (0,0))):(w.setCell ⟨B,0,none⟩ a).heap[B]?=some (.cells #[a,y,z] T (0,0)):=by
 simp[World.setCell,h,Array.getElem?_modify]
theorem set1 {w:World}{B T:Nat}{x y z a:Value}(h:w.heap[B]?=some (.cells #[x,y,z] T (0,0))):(w.setCell ⟨B,1,none⟩ a).heap[B]?=some (.cells #[x,a,z] T (0,0)):=by
 simp[World.setCell,h,Array.getElem?_modify]
theorem set2 {w:World}{B T:Nat}{x y z a:Value}(h:w.heap[B]?=some (.cells #[x,y,z] T (0,0))):(w.setCell ⟨B,2,none⟩ a).heap[B]?=some (.cells #[x,y,a] T (0,0)):=by
 simp[World.setCell,h,Array.getElem?_modify]
theorem set012 {w:World}{B T:Nat}{x y z:Value}(h:w.heap[B]?=some (.cells #[x,y,z] T (0,0)))(a b c:Value):
  (((w.setCell ⟨B,0,none⟩ a).setCell ⟨B,1,none⟩ b).setCell ⟨B,2,none⟩ c).heap[B]?=some (.cells #[a,b,c] T (0,0)):=set2 (set1 (set0 h))
theorem iP {w0 w:World}{B:Nat}{a b c:Value}{S:Nat}(hb:Below S w0 w)(hB:S<=B):
  Below S w0 (((w.setCell ⟨B,0,none⟩ a).setCell ⟨B,1,none⟩ b).setCell ⟨B,2,none⟩ c):=
 ((hb.setCell (p:=⟨B,0,none⟩) hB _).setCell (p:=⟨B,1,none⟩) hB _).setCell (p:=⟨B,2,none⟩) hB _
theorem find_any (v:Nat)(w:World)(hv:v<18446744073709551616)(hT:Tab w):
  Calls Tryz.prog 121 #[.int .u64 v] w (aP (lH (findS v)) w):=by
 have L:=gY v hv;have hsz:=L.size;have hsl:=dS hsz;have hpv:cK v<18446744073709551616:=Nat.lt_of_le_of_lt (Nat.mod_le _ _) hv;have hps:cK v<2^sizeL v:=Nat.mod_lt _ (Nat.two_pow_pos _);have hoe:gA (cK v) 64=gA (cK v) (sizeL v):=rS _ _ _ hps (by omega);have hol:gA (cK v) 64<=sizeL v:=by rw[hoe];exact iY _ _
 have HLow:Hid (∀w,Calls Tryz.prog 153 #[.int .u64 v,.int .i64 (sizeL v:Nat)] w (bQ (.int .u64 (cK v:Nat)) w)):=aH fun w=>low_natC v (sizeL v) w (by omega) hv
 have HTurn:Hid (∀w,Tab w->Calls Tryz.prog 154 #[.int .u64 (cK v:Nat),.int .i64 (sizeL v:Nat)] w (bQ (.int .i64 (turnS (cK v) (sizeL v))) w)):=aH fun w h=>turn_any (cK v) (sizeL v) w hpv (by omega) (by omega) h.1
 have HOnes:Hid (∀w,Calls Tryz.prog 155 #[.int .u64 (cK v:Nat)] w (bQ (.int .i64 (gA (cK v) 64:Nat)) w)):=aH fun w=>Ones_any _ w hpv
 have HSize:Hid (∀w,Calls Tryz.prog 152 #[.int .u64 v] w (aP (.int .i64 (sizeL v:Nat)) w)):=aH fun w=>Size_any v w hv
 have HM:Hid (∀(k r s:Nat) w,cD s=true->1<=k->k<s->r<s->Calls Tryz.prog 156 #[.agg #[.int .i64 s,.int .i64 r,.int .i64 k]] w (aP (.int .u64 (fS k r s)) w)):=aH fun k r s w a b c d=>make64_any k r s w a b c d
 have HT:=aH hT;have HTL:gA (cK v) 64<sizeL v->∃r:Nat,r<sizeL v/\turnS (cK v) (sizeL v)=r:=fun h=>turnS_lt _ _ hpv (by omega) h
 unfold findS;generalize cK v=p at*
 generalize sizeL v=s at*
 generalize gA p 64=o at*
 generalize turnS p s=t at*
 clear hoe hps L hT;have hsz':=aH hsz;have HTL':=aH HTL;clear hsz HTL;by_cases c0:o=0\/o=s
 ·rw[if_pos c0];by_cases c00:o=0;all_goals
   first|subst c00|(obtain rfl:o=s:=by omega)
   clear c0;go_enter Tryz.func121,Tryz.ntmps121;go_wp2_with fail
   refine(HSize.out _).mono ?_;rintro e w1 ⟨rfl,hb1⟩;obtain⟨B,hB⟩:=aE w.heap.size;have hBl:B<w1.heap.size:=by have:=hb1.size;simp at this;omega
   have hblk:w1.heap[B]?=some (.cells #[.int .i64 0,.int .i64 0,.int .i64 0] 168 (0,0)):=by
    rw[hb1.block B (by rw[hB];simp),hB];exact(MapKept.heap_alloc w _).1
   have HBW:Hid (Below w.heap.size w w1):=aH (((Below.refl w.heap.size w).alloc (Nat.le_refl _) _).trans (hb1.mono (by simp)));have HBN:Hid (w.heap.size<=B):=aH (by omega);clear hb1;rw[<-hB];clear hB;have HBK:=aH hblk;obtain⟨d0,d1,d2,e0,e1,e2⟩:=blk3 hblk;have d11:∀a X,((w1.setCell ⟨B,0,none⟩ a).alloc X).cell? ⟨B,1,none⟩=some (.int .i64 0):=fun a X=>(blk3 (set0 hblk)).2.1 X
   have e11:∀a X,((w1.setCell ⟨B,0,none⟩ a).alloc X).frozen? ⟨B,1,none⟩=false:=fun a X=>(blk3 (set0 hblk)).2.2.2.2.1 X
   have d22:∀a b X,(((w1.setCell ⟨B,0,none⟩ a).setCell ⟨B,1,none⟩ b).alloc X).cell? ⟨B,2,none⟩=some (.int .i64 0):=fun a b X=>(blk3 (set1 (set0 hblk))).2.2.1 X
   have e22:∀a b X,(((w1.setCell ⟨B,0,none⟩ a).setCell ⟨B,1,none⟩ b).alloc X).frozen? ⟨B,2,none⟩=false:=fun a b X=>(blk3 (set1 (set0 hblk))).2.2.2.2.2 X
   clear hblk;go_wp2_with (first|(go_at_call 153;refine(HLow.out _).mono ?_;rintro e w' ⟨rfl,rfl⟩)|(go_at_call 154;refine(HTurn.out _ (HT.out.below HBW.out HT.out.2)).mono ?_;rintro e w' ⟨rfl,rfl⟩)|(go_at_call 155;refine(HOnes.out _).mono ?_;rintro e w' ⟨rfl,rfl⟩))
   obtain⟨f0,f1,f2,-,-,-⟩:=blk3 (set012 HBK.out (.int .i64 0) (.int .i64 0) (.int .i64 0));refine bodyPost_ret (v:=lH (0,0,0)) (by simp [results,Tryz.results121,go_sem,f0,f1,f2]) rfl ⟨rfl,?_⟩;exact(iP HBW.out HBN.out).alloc (by simpa using HBW.out.size) _
 ·rw[if_neg c0];obtain⟨r,hr,rfl⟩:=HTL'.out (by omega);rw[Int.toNat_natCast];have HMM:Hid (∀w,Calls Tryz.prog 156 #[.agg #[.int .i64 s,.int .i64 r,.int .i64 o]] w (aP (.int .u64 (fS o r s)) w)):=aH fun w=>HM.out o r s w hsz'.out (by omega) (by omega) hr
  have q0:((o:Int)==0)=false:=by rw[beq_eq_false_iff_ne];omega
  have qs:((o:Int)==(s:Int))=false:=by rw[beq_eq_false_iff_ne];omega
  clear HM;generalize fS o r s=m at*
  by_cases c:m=v;all_goals
   first|rw[if_pos c]|rw[if_neg c]
   first|(have qm:((m:Int) !=(v:Int))=false:=by(rw[c];simp))|(have qm:((m:Int) !=(v:Int))=true:=by(rw[bne_iff_ne];omega))
   clear c;go_enter Tryz.func121,Tryz.ntmps121;go_wp2_with fail
   refine(HSize.out _).mono ?_;rintro e w1 ⟨rfl,hb1⟩;obtain⟨B,hB⟩:=aE w.heap.size;have hBl:B<w1.heap.size:=by have:=hb1.size;simp at this;omega
   have hblk:w1.heap[B]?=some (.cells #[.int .i64 0,.int .i64 0,.int .i64 0] 168 (0,0)):=by
    rw[hb1.block B (by rw[hB];simp),hB];exact(MapKept.heap_alloc w _).1
   have HBW:Hid (Below w.heap.size w w1):=aH (((Below.refl w.heap.size w).alloc (Nat.le_refl _) _).trans (hb1.mono (by simp)));have HBN:Hid (w.heap.size<=B):=aH (by omega);clear hb1;rw[<-hB];clear hB;have HBK:=aH hblk;clear hblk;go_wp2_with (first|(go_at_call 153;refine(HLow.out _).mono ?_;rintro e w' ⟨rfl,rfl⟩)|(go_at_call 154;refine(HTurn.out _ (HT.out.below HBW.out HT.out.2)).mono ?_;rintro e w' ⟨rfl,rfl⟩)|(go_at_call 155;refine(HOnes.out _).mono ?_;rintro e w' ⟨rfl,rfl⟩))
   obtain⟨X,hX⟩:∃X:Obj,X=Obj.cells #[.int .i64 s,.int .i64 r,.int .i64 o] 168:=⟨_,rfl⟩;obtain⟨M,hM⟩:=aE w1.heap.size;obtain⟨w2,hw2⟩:=aE (w1.alloc X);have m1:w2.heap[M]?=some (.cells #[.int .i64 s,.int .i64 r,.int .i64 o] 168 (0,0)):=by rw[hw2,hM,hX];exact(MapKept.heap_alloc w1 _).1
   have b1:w2.heap[B]?=some (.cells #[.int .i64 0,.int .i64 0,.int .i64 0] 168 (0,0)):=by rw[hw2];exact(Below.heap_alloc _ _ _ hBl).trans HBK.out
   have HB2:Hid (Below w.heap.size w w2):=aH (by rw[hw2];exact HBW.out.alloc HBW.out.size X);rw[<-hX,<-hw2,<-hM];clear hX hM hw2;refine(HMM.out _).mono ?_;rintro e w3 ⟨rfl,hb3⟩;have m3:w3.heap[M]?=some (.cells #[.int .i64 s,.int .i64 r,.int .i64 o] 168 (0,0)):=(hb3.block M (lt_of_block m1)).trans m1;have b3:w3.heap[B]?=some (.cells #[.int .i64 0,.int .i64 0,.int .i64 0] 168 (0,0)):=(hb3.block B (lt_of_block b1)).trans b1;have HB3:Hid (Below w.heap.size w w3):=aH (after HB2.out hb3);obtain⟨g0,g1,g2,-,-,-⟩:=blk0 m3;obtain⟨d0,d1,d2,e0,e1,e2⟩:=blk0 b3;have B3:=aH b3;clear m1 b1 hb3 m3 b3 HB2;go_wp2;first
   | (obtain ⟨f0,f1,f2,-,-,-⟩:=blk0 (set012 B3.out (.int .i64 0) (.int .i64 0) (.int .i64 0))
      refine bodyPost_ret (v:=lH (0,0,0)) (by simp [results,Tryz.results121,go_sem,f0,f1,f2]) rfl ⟨rfl,iP HB3.out HBN.out⟩)
   | (obtain ⟨f0,f1,f2,-,-,-⟩:=blk0 (set012 B3.out (.int .i64 s) (.int .i64 r) (.int .i64 o))
      refine bodyPost_ret (v:=lH (s,r,o)) (by simp [results,Tryz.results121,go_sem,f0,f1,f2]) rfl ⟨rfl,iP HB3.out HBN.out⟩)
theorem Is_any (v:Nat)(w:World)(hv:v<18446744073709551616)(hT:Tab w):
  Calls Tryz.prog 119 #[.int .u64 v] w (aP (.bool (isS v)) w):=by
 rcases pat_or v hv with⟨k,r,s,h⟩|hn
 ·have hp:=h.pos;rw[h.isS];have HF:Hid (Calls Tryz.prog 121 #[.int .u64 v] w (aP (lH (s,r,k)) w)):=aH (by have:=find_any v w hv hT;rwa[h.findS]at this);have q:((s:Int)==0)=false:=by rw[beq_eq_false_iff_ne];omega
  clear h hT;go_enter Tryz.func119,Tryz.ntmps119;go_wp2_with fail
  refine HF.out.mono ?_;rintro e w1 ⟨rfl,hb⟩;have HB:=aH hb;clear hb;go_wp2;go_ret;exact⟨rfl,HB.out⟩
 ·rw[isS_none hv hn];have HF:Hid (Calls Tryz.prog 121 #[.int .u64 v] w (aP (lH (0,0,0)) w)):=aH (by have:=find_any v w hv hT;rwa[qL hv hn]at this);clear hn hT;go_enter Tryz.func119,Tryz.ntmps119;go_wp2_with fail
  refine HF.out.mono ?_;rintro e w1 ⟨rfl,hb⟩;have HB:=aH hb;clear hb;go_wp2;go_ret;exact⟨rfl,HB.out⟩
abbrev four (p:Int×Int×Int×Int):Value:=.tuple #[.int .i64 p.1,.int .i64 p.2.1,.int .i64 p.2.2.1,.int .i64 p.2.2.2]
theorem upper_b (s:Int):0<=dB s/\dB s<=1:=by unfold dB;split<;>omega
theorem lead_b (s:Int)(h:2<=s)(h2:s<=64) : -64<=bX s/\bX s<=60:=by unfold bX;split<;>omega
end
end Go.Proofs.YtiohgaghmnpplaaGreatDoor
