/- sym's laws: objects as arguments; what is too big. sym's laws: rows of rows, are two the same; places and faults compared. sym's laws: resolved. -/
import Derived.Test.YthkolmebokfagaaGreatDoorv2
import Derived.Test.YthkolmebokfagaaGreatDoorv1
set_option maxRecDepth 100000
set_option maxHeartbeats 4000000
set_option linter.unusedVariables false
set_option linter.unusedSimpArgs false
namespace Go.Proofs.YthkolmebokfagaaGreatDoor
open Go.RowKit
open Go.ChangeShapes Go.WideShapes Go.Deep Go.RowKit
structure OxG (W:World) (o:Ox):Prop where
 s1:SL msC 6 W W.heap.size o.a o.L.length o.L
 no:Notes W W.heap.size o.L
 s2:SL syC 4 W W.heap.size o.a2 o.l.length o.l
 gd:∀ m ∈ o.L,GoodSc m.sc
 gs:∀ s ∈ o.l,GoodSy s
 l1:o.L.length<=maxLen
 l2:o.l.length<=maxLen
theorem OxG.next {w w':World} {o:Ox} (h:OxG w o) (hb:Below w.heap.size w w'):OxG w' o:=⟨h.s1.next hb,h.no.next hb,h.s2.next hb,h.gd,h.gs,h.l1,h.l2⟩
theorem obj_cells {H:Type} {encH:TypeId × Value->H} {W:World} {v0 v1:Value} {m:Nat} {y0 y1:DataW H × List MemPlace}
  (t0:DataW.trod encH Tryz.prog W 0 (fun _=>true) true m 22 [v0]=some y0) (t1:DataW.trod encH Tryz.prog W 0 (fun _=>true) true m 23 [v1]=some y1):
  ∃ o:Ox,OxG W o/\v0=.slice o.a o.L.length o.c/\v1=.slice o.a2 o.l.length o.c2:=by
 obtain ⟨a,n,c,L,rfl,h2,h3,h4,h5,h6,-⟩:=open_SL3 (sz:=6) (enc:=msC) (fun m:Ms=>GoodSc m.sc/\SL rlC 4 W W.heap.size m.ad m.sc.rels.length m.sc.rels) ⟨scZ,none,0⟩ Tryz.underlying22 Tryz.underlying57 (by kernel_rfl) (by kernel_rfl) rfl (by decide) ms_len (by
  intro cell m hc
  obtain ⟨u0,z0,g0,s0⟩:=hc 0 _ rfl
  obtain ⟨u1,z1,g1,s1⟩:=hc 1 _ rfl
  obtain ⟨u2,z2,g2,s2⟩:=hc 2 _ rfl
  obtain ⟨u3,z3,g3,s3⟩:=hc 3 _ rfl
  obtain ⟨u4,z4,g4,s4⟩:=hc 4 _ rfl
  obtain ⟨u5,z5,g5,s5⟩:=hc 5 _ rfl
  obtain ⟨x0,e0,-,w0⟩:=DataW.trod_string Tryz.underlying9 s0
  obtain ⟨x1,e1,-,w1⟩:=DataW.trod_int Tryz.underlying3 s1
  obtain ⟨x2,e2,-⟩:=DataW.trod_bool Tryz.underlying4 s2
  obtain ⟨x3,e3,-,w3⟩:=DataW.trod_int Tryz.underlying3 s3
  obtain ⟨x4,e4,-,w4⟩:=DataW.trod_string Tryz.underlying9 s4
  simp only [List.cons.injEq,and_true] at e0 e1 e2 e3 e4
  subst e0 e1 e2 e3 e4
  obtain ⟨ra,rn,rc,rl,rfl,r2,r3,r4,r5,r6,-⟩:=open_SL3 (sz:=4) (enc:=rlC) GoodRl ⟨0,0,0,0⟩ Tryz.underlying55 Tryz.underlying82 (by kernel_rfl) (by kernel_rfl) rfl (by decide) rl_len (by
   intro cell m hc
   obtain ⟨u0,z0,g0,s0⟩:=hc 0 _ rfl
   obtain ⟨u1,z1,g1,s1⟩:=hc 1 _ rfl
   obtain ⟨u2,z2,g2,s2⟩:=hc 2 _ rfl
   obtain ⟨u3,z3,g3,s3⟩:=hc 3 _ rfl
   obtain ⟨k0,e0,-,w0⟩:=DataW.trod_int Tryz.underlying3 s0
   obtain ⟨k1,e1,-,w1⟩:=DataW.trod_int Tryz.underlying3 s1
   obtain ⟨k2,e2,-,w2⟩:=DataW.trod_int Tryz.underlying3 s2
   obtain ⟨k3,e3,-,w3⟩:=DataW.trod_int Tryz.underlying3 s3
   simp only [List.cons.injEq,and_true] at e0 e1 e2 e3
   subst e0 e1 e2 e3
   refine ⟨⟨k0,k1,k2,k3⟩,⟨bounds_i64 w0,bounds_i64 w1,bounds_i64 w2,bounds_i64 w3⟩,fun j hj=>?_⟩
   match j,hj with
   | 0,_=>exact g0
   | 1,_=>exact g1
   | 2,_=>exact g2
   | 3,_=>rw [show (rlC ⟨k0,k1,k2,k3⟩)[3]?=some (.int .i64 k3) from rfl];exact g3) s5
  have hrl:=r4.len
  subst hrl
  refine ⟨⟨⟨x0.data.toList,x1,x2,x3,x4.data.toList,rl⟩,ra,rc⟩,⟨⟨?_,bounds_i64 w1,bounds_i64 w3,?_,r3⟩,r4⟩,fun j hj=>?_⟩
  ·show x0.data.toList.length<=maxLen
   rw [Array.length_toList];exact w0
  ·show x4.data.toList.length<=maxLen
   rw [Array.length_toList];exact w4
  match j,hj with
  | 0,_=>exact g0
  | 1,_=>exact g1
  | 2,_=>exact g2
  | 3,_=>exact g3
  | 4,_=>exact g4
  | 5,_=>exact g5) t0
 obtain ⟨a2,n2,c2,l,rfl,k2,k3,k4,k5,k6,-⟩:=open_SL3 (sz:=4) (enc:=syC) GoodSy ⟨[],0,0,0⟩ Tryz.underlying23 Tryz.underlying66 (by kernel_rfl) (by kernel_rfl) rfl (by decide) sy_len (by
  intro cell m hc
  obtain ⟨u0,z0,g0,s0⟩:=hc 0 _ rfl
  obtain ⟨u1,z1,g1,s1⟩:=hc 1 _ rfl
  obtain ⟨u2,z2,g2,s2⟩:=hc 2 _ rfl
  obtain ⟨u3,z3,g3,s3⟩:=hc 3 _ rfl
  obtain ⟨x0,e0,-,w0⟩:=DataW.trod_string Tryz.underlying9 s0
  obtain ⟨x1,e1,-,w1⟩:=DataW.trod_int Tryz.underlying3 s1
  obtain ⟨x2,e2,-,w2⟩:=DataW.trod_int Tryz.underlying3 s2
  obtain ⟨x3,e3,-,w3⟩:=DataW.trod_int Tryz.underlying3 s3
  simp only [List.cons.injEq,and_true] at e0 e1 e2 e3
  subst e0 e1 e2 e3
  refine ⟨⟨x0.data.toList,x1,x2,x3⟩,⟨?_,bounds_i64 w1,bounds_i64 w2,bounds_i64 w3⟩,fun j hj=>?_⟩
  ·show x0.data.toList.length<=maxLen
   rw [Array.length_toList];exact w0
  match j,hj with
  | 0,_=>exact g0
  | 1,_=>exact g1
  | 2,_=>exact g2
  | 3,_=>exact g3) t1
 have e1:=h4.len
 have e2:=k4.len
 subst e1 e2
 exact ⟨⟨a,c,L,a2,c2,l⟩,⟨h4,fun m hm=>(h3 m hm).2,k4,fun m hm=>(h3 m hm).1,k3,h2,k2⟩,rfl,rfl⟩
theorem open_Objs {H:Type} {encH:TypeId × Value->H} {W:World} {base:Nat} {v:Value} {d:DataW H} {p:List MemPlace}
  (hv:Value.okWide Tryz.prog W .any base 38 v) (h:DataW.Trod encH Tryz.prog W 0 (fun _=>true) true 38 v d p):
  ∃ (a:Option Addr) (n c:Nat) (Os:List Ox),v=.slice a n c/\OS W W.heap.size a n Os/\(a=none->n=0/\c=0):=by
 obtain ⟨a0,len0,cap0,rfl⟩:=okWide_slice Tryz.underlying38 hv
 obtain ⟨fuel,hf⟩:=h
 simp only [Value.cells] at hf
 obtain ⟨a,n,c,Os,hveq,h2,h3,h4,h5,h6,-⟩:=open_SL3 (sz:=2) (enc:=oxC) (fun o:Ox=>OxG W o) ⟨none,0,[],none,0,[]⟩ Tryz.underlying38 Tryz.underlying25 (by kernel_rfl) (by kernel_rfl) rfl (by decide) ox_len (by
  intro cell m hc
  obtain ⟨v0,z0,g0,s0⟩:=hc 0 _ rfl
  obtain ⟨v1,z1,g1,s1⟩:=hc 1 _ rfl
  obtain ⟨o,ho,rfl,rfl⟩:=obj_cells s0 s1
  refine ⟨o,ho,fun j hj=>?_⟩
  match j,hj with
  | 0,_=>exact g0
  | 1,_=>exact g1) hf
 exact ⟨a,n,c,Os,hveq,⟨h4,fun o ho=>(h3 o ho).s1,fun o ho=>(h3 o ho).no,fun o ho=>(h3 o ho).s2,fun o ho=>(h3 o ho).gd,fun o ho=>(h3 o ho).gs,fun o ho=>(h3 o ho).l1,fun o ho=>(h3 o ho).l2,h2⟩,h5⟩
theorem OS.at {w:World} {a:Option Addr} {n:Nat} {Os:List Ox} (h:OS w w.heap.size a n Os) {o:Ox} (ho:o ∈ Os):OxG w o:=⟨h.s1 o ho,h.no o ho,h.s2 o ho,h.gd o ho,h.gs o ho,h.l1 o ho,h.l2 o ho⟩
open Go.ChangeShapes Go.WideShapes Go.Deep Go.RowKit
def samePl (x y:Pl):Bool:=x.obj == y.obj && (x.sec == y.sec && x.off == y.off)
theorem samePl_iff {x y:Pl}:samePl x y=true ↔ x=y:=by
 cases x;cases y
 simp [samePl,Pl.mk.injEq]
abbrev plW (x:Pl):Value:=.agg #[.int .i64 x.obj,.int .i64 x.sec,.int .i64 x.off]
theorem neq_pl (x y:Pl):∀ w,(Sem.run Tryz.prog (binOp BinOp.neq 46 (plW x) (plW y)) w)=Result.ok (.bool (!samePl x y)) w:=by
 intro w
 obtain ⟨p,k,s⟩:=x
 obtain ⟨p',k',s'⟩:=y
 simp [go_sem,samePl]
 repeat' split
 all_goals first | (simp_all;done) | (simp_all;omega)
theorem eql_pl (x y:Pl):∀ w,(Sem.run Tryz.prog (binOp BinOp.eql 46 (plW x) (plW y)) w)=Result.ok (.bool (samePl x y)) w:=by
 intro w
 obtain ⟨p,k,s⟩:=x
 obtain ⟨p',k',s'⟩:=y
 simp [go_sem,samePl]
 repeat' split
 all_goals first | (simp_all;done) | (simp_all;omega)
def sameFl (x y:Flt):Bool:=x.code == y.code && (x.obj == y.obj && x.sym == y.sym)
theorem sameFl_iff {x y:Flt}:sameFl x y=true ↔ x=y:=by
 cases x;cases y
 simp [sameFl,Flt.mk.injEq]
abbrev flW (x:Flt):Value:=.agg #[.int .i64 x.code,.int .i64 x.obj,.int .i64 x.sym]
theorem eql_fl (x y:Flt):∀ w,(Sem.run Tryz.prog (binOp BinOp.eql 42 (flW x) (flW y)) w)=Result.ok (.bool (sameFl x y)) w:=by
 intro w
 obtain ⟨p,k,s⟩:=x
 obtain ⟨p',k',s'⟩:=y
 simp [go_sem,sameFl]
 repeat' split
 all_goals first | (simp_all;done) | (simp_all;omega)
theorem pl_cells {w:World} {b off k:Nat} {p:Pl} (h:∀ j,j < 3->w.cell? ⟨b,off+k*3+j,none⟩=(plC p)[j]?):
  w.cell? ⟨b,off+k*3,none⟩=some (.int .i64 p.obj)/\w.cell? ⟨b,off+k*3+1,none⟩=some (.int .i64 p.sec)/\w.cell? ⟨b,off+k*3+2,none⟩=some (.int .i64 p.off):=
 ⟨h 0 (by omega),h 1 (by omega),h 2 (by omega)⟩
def SameRP (L L':List (List Pl)) (w:World) (e:Ending) (w':World):Prop:=∃ r:Bool,e=.returned (.bool r)/\(r=true ↔ L=L')/\Below w.heap.size w w'
theorem same20_no (a a':Option Addr) (n n' c c':Nat) (w:World) (L L':List (List Pl)) (hne:n ≠ n') (hn:n<=1000000) (hn':n'<=1000000) (h1:n=L.length) (h2:n'=L'.length):
  Calls Tryz.prog 24 #[.slice a n c,.slice a' n' c'] w (SameRP L L' w):=by
 have hb:((n:Int) != n')=true:=by rw [bne_iff_ne];omega
 have HN:Hid (L ≠ L'):=Lib.hid (fun e=>hne (by rw [h1,h2,e]))
 clear hne h1 h2
 go_enter Tryz.func24,Tryz.ntmps24
 go_wp2
 go_ret
 exact ⟨false,rfl,⟨fun h=>(by cases h),fun h=>(HN.out h).elim⟩,Below.refl _ _⟩
theorem same20_yes (a a':Option Addr) (n c c':Nat) (rs rs':List Rw) (w:World) (hn:n<=1000000) (hm:∀ r ∈ rs,r.l.length<=1000000) (hm':∀ r ∈ rs',r.l.length<=1000000) (h:PRows w a n rs) (h':PRows w a' n rs'):
  Calls Tryz.prog 24 #[.slice a n c,.slice a' n c'] w (SameRP (rs.map (·.l)) (rs'.map (·.l)) w):=by
 have hl:=Lib.hid h.sl.len
 have hl':=Lib.hid h'.sl.len
 have H:=Lib.hid h
 have H':=Lib.hid h'
 have HM:=Lib.hid hm
 have HM':=Lib.hid hm'
 clear h h' hm hm'
 go_enter Tryz.func24,Tryz.ntmps24
 go_wp2
 go_loopw [5] (fun i wr=>∃ k:Nat,k<=n/\i=.int .i64 k/\Hid ((rs.map (·.l)).take k=(rs'.map (·.l)).take k)/\Below w.heap.size w wr) (fun i _=>n - (intOf i).toNat)
 case atStart=>exact ⟨0,by omega,rfl,Lib.hid rfl,Below.refl _ _⟩
 case round=>
  obtain ⟨k,hk,rfl,HT,hb⟩:=hrel
  have HB:=Lib.hid hb
  clear hb
  by_cases hlt:k < n
  ·have hlti:(k:Int) < (n:Int):=by omega
   have hk1:k < rs.length:=by have:=hl.out;omega
   have hk2:k < rs'.length:=by have:=hl'.out;omega
   obtain ⟨b,off,hae,hB,hc⟩:=(H.out.next HB.out).sl.cells (H.out.sl.ne hlt)
   obtain ⟨b',off',hae',hB',hc'⟩:=(H'.out.next HB.out).sl.cells (H'.out.sl.ne hlt)
   subst hae hae'
   have c0:=hc k hk1 0 (by omega)
   have d0:=hc' k hk2 0 (by omega)
   obtain ⟨x,hx⟩:∃ x,x=rs[k]:=⟨_,rfl⟩
   obtain ⟨y,hy⟩:∃ y,y=rs'[k]:=⟨_,rfl⟩
   have HX:Hid ((rs.map (·.l))[k]?=some x.l):=Lib.hid (by rw [List.getElem?_map,List.getElem?_eq_getElem hk1,hx];rfl)
   have HY:Hid ((rs'.map (·.l))[k]?=some y.l):=Lib.hid (by rw [List.getElem?_map,List.getElem?_eq_getElem hk2,hy];rfl)
   have HX0:Hid (rs[k]=x):=Lib.hid hx.symm
   have HY0:Hid (rs'[k]=y):=Lib.hid hy.symm
   have HXm:Hid (x ∈ rs):=Lib.hid (by rw [hx];exact List.getElem_mem hk1)
   have HYm:Hid (y ∈ rs'):=Lib.hid (by rw [hy];exact List.getElem_mem hk2)
   rw [<-hx] at c0
   rw [<-hy] at d0
   clear hc hc' hx hy hB hB'
   obtain ⟨xa,xc,xl⟩:=x
   obtain ⟨ya,yc,yl⟩:=y
   simp only [rwC,Nat.add_zero,Nat.mul_one,List.getElem?_cons_zero] at c0 d0 HX HY
   obtain ⟨m,hm⟩:∃ m,m=xl.length:=⟨_,rfl⟩
   obtain ⟨m',hm'⟩:∃ m',m'=yl.length:=⟨_,rfl⟩
   rw [<-hm] at c0
   rw [<-hm'] at d0
   have hmi:(m:Int)<=1000000:=by have:=HM.out _ HXm.out;simp only at this;omega
   have hmi':(m':Int)<=1000000:=by have:=HM'.out _ HYm.out;simp only at this;omega
   have HMl:=Lib.hid hm
   have HMl':=Lib.hid hm'
   clear hm hm'
   by_cases hmm:m=m'
   ·subst hmm
    go_wp2
    go_quiet (fail)
    go_wp2
    clear c0 d0
    go_loopw [6] (fun i wr=>∃ j:Nat,j<=m/\i=.int .i64 j/\Hid (xl.take j=yl.take j)/\Below w.heap.size w wr) (fun i _=>m - (intOf i).toNat)
    case atStart=>exact ⟨0,by omega,rfl,Lib.hid rfl,below_drewN HB.out _⟩
    case round=>
     clear HB
     obtain ⟨j,hj,rfl,HT2,hb⟩:=hrel
     have HB:=Lib.hid hb
     clear hb
     have HS:=Lib.hid (H.out.next HB.out)
     have HS':=Lib.hid (H'.out.next HB.out)
     obtain ⟨b3,off3,hae3,hB3,hc3⟩:=HS.out.sl.cells (H.out.sl.ne hlt)
     obtain ⟨b4,off4,hae4,hB4,hc4⟩:=HS'.out.sl.cells (H'.out.sl.ne hlt)
     cases hae3
     cases hae4
     have c0:=hc3 k hk1 0 (by omega)
     have d0:=hc4 k hk2 0 (by omega)
     rw [HX0.out] at c0
     rw [HY0.out] at d0
     simp only [rwC,Nat.add_zero,Nat.mul_one,List.getElem?_cons_zero] at c0 d0
     rw [<-HMl.out] at c0
     rw [<-HMl'.out] at d0
     clear hc3 hc4 hB3 hB4
     by_cases hlj:j < m
     ·have hlji:(j:Int) < (m:Int):=by omega
      have hj1:j < xl.length:=by have:=HMl.out;omega
      have hj2:j < yl.length:=by have:=HMl'.out;omega
      obtain ⟨b5,off5,hae5,hB5,hc5⟩:=(HS.out.s1 _ HXm.out).cells (by intro e;simp only at e;rw [e] at hj1;simp at hj1)
      obtain ⟨b6,off6,hae6,hB6,hc6⟩:=(HS'.out.s1 _ HYm.out).cells (by intro e;simp only at e;rw [e] at hj2;simp at hj2)
      simp only at hae5 hae6 hc5 hc6
      subst hae5 hae6
      obtain ⟨p0,p1,p2⟩:=pl_cells (fun q hq=>hc5 j hj1 q hq)
      obtain ⟨q0,q1,q2⟩:=pl_cells (fun q hq=>hc6 j hj2 q hq)
      obtain ⟨u,hu⟩:∃ u,u=xl[j]:=⟨_,rfl⟩
      obtain ⟨v,hv⟩:∃ v,v=yl[j]:=⟨_,rfl⟩
      rw [<-hu] at p0 p1 p2
      rw [<-hv] at q0 q1 q2
      have HU:=Lib.hid hu
      have HV:=Lib.hid hv
      have hnq:=neq_pl u v
      clear hc5 hc6 hu hv hB5 hB6
      cases e:samePl u v
      ·have HE:Hid (rs.map (·.l) ≠ rs'.map (·.l)):=Lib.hid (fun hh=>by
        have h1:=HX.out
        rw [hh,HY.out] at h1
        have h2:=Option.some.inj h1
        have h3:u=v:=by rw [HU.out,HV.out];simp only [h2]
        rw [samePl_iff.2 h3] at e;cases e)
       rw [e] at hnq
       clear e
       go_wp2
       go_quiet (fail)
       go_wp2
       go_ret
       exact ⟨false,rfl,⟨fun h=>(by cases h),fun h=>(HE.out h).elim⟩,below_drewN HB.out _⟩
      ·have HE:Hid (u=v):=Lib.hid (samePl_iff.1 e)
       rw [e] at hnq
       clear e
       go_wp2
       go_quiet (fail)
       go_wp2
       go_roundw
       case rel=>
        refine ⟨j+1,by omega,by go_num,Lib.hid ?_,below_drewN HB.out _⟩
        rw [List.take_succ_eq_append_getElem hj1,List.take_succ_eq_append_getElem hj2,HT2.out,<-HU.out,<-HV.out,HE.out]
       case measure=>simp [intOf];omega
     ·have hlji:¬ (j:Int) < (m:Int):=by omega
      have HE:Hid (xl=yl):=Lib.hid (by
       have:=HT2.out
       rwa [List.take_of_length_le (by have:=HMl.out;omega),List.take_of_length_le (by have:=HMl'.out;omega)] at this)
      go_wp2
      go_roundw
      case rel=>
       refine ⟨k+1,by omega,by go_num,Lib.hid ?_,HB.out⟩
       rw [List.take_add_one,List.take_add_one,HT.out,HX.out,HY.out,HE.out]
      case measure=>simp [intOf];omega
   ·have hne:((m:Int) != m')=true:=by rw [bne_iff_ne];omega
    have HN:Hid (rs.map (·.l) ≠ rs'.map (·.l)):=Lib.hid (fun e=>hmm (by
     have h1:=HX.out
     rw [e,HY.out] at h1
     rw [HMl.out,HMl'.out,<-Option.some.inj h1]))
    clear hmm
    go_wp2
    go_quiet (fail)
    go_wp2
    go_ret
    exact ⟨false,rfl,⟨fun h=>(by cases h),fun h=>(HN.out h).elim⟩,below_drewN HB.out _⟩
  ·have hlti:¬ (k:Int) < (n:Int):=by omega
   go_wp2
   go_ret
   refine ⟨true,rfl,⟨fun _=>?_,fun _=>rfl⟩,HB.out⟩
   have:=HT.out
   rwa [List.take_of_length_le (by rw [List.length_map];have:=hl.out;omega),List.take_of_length_le (by rw [List.length_map];have:=hl'.out;omega)] at this
theorem same20_any (a a':Option Addr) (n n' c c':Nat) (rs rs':List Rw) (w:World) (hn:n<=1000000) (hn':n'<=1000000) (hm:∀ r ∈ rs,r.l.length<=1000000) (hm':∀ r ∈ rs',r.l.length<=1000000) (h:PRows w a n rs) (h':PRows w a' n' rs'):
  Calls Tryz.prog 24 #[.slice a n c,.slice a' n' c'] w (SameRP (rs.map (·.l)) (rs'.map (·.l)) w):=by
 by_cases e:n=n'
 ·subst e
  exact same20_yes a a' n c c' rs rs' w hn hm hm' h h'
 ·exact same20_no a a' n n' c c' w _ _ e hn hn' (by rw [List.length_map];exact h.sl.len) (by rw [List.length_map];exact h'.sl.len)
open Go.ChangeShapes Go.WideShapes Go.Deep Go.RowKit
abbrev wkS:Sc:=⟨[116],1,false,0,[],[]⟩
abbrev wkO (b1 b2:Nat) (nm:List UInt8) (bd:Int):Ox:=⟨some ⟨b1,0,none⟩,1,[⟨wkS,none,0⟩],some ⟨b2,0,none⟩,1,[⟨nm,bd,0,0⟩]⟩
abbrev wkB (nm:List UInt8) (bd:Int):Ob:=⟨[wkS],[⟨nm,bd,0,0⟩]⟩
theorem wk_good:GoodSc wkS:=by
 refine ⟨by show (1:Nat)<=maxLen;unfold maxLen;omega,by constructor <;> decide,by constructor <;> decide,by show (0:Nat)<=maxLen;omega,?_⟩
 intro r h;cases h
theorem wk_sym (nm:List UInt8) (bd:Int) (hn:nm.length<=10) (hb : -10<=bd/\bd<=10) (se:Int) (hs : -10<=se/\se<=10):GoodSy ⟨nm,bd,se,0⟩:=by
 have h0:i64ok 0:=by constructor <;> decide
 have h1:i64ok bd:=⟨by omega,by omega⟩
 have h2:i64ok se:=⟨by omega,by omega⟩
 exact ⟨by show nm.length<=maxLen;unfold maxLen;omega,h1,h2,h0⟩
theorem wk_oxg (u:World) (b1 b2:Nat) (nm:List UInt8) (bd:Int) (hn:nm.length<=10) (hb : -10<=bd/\bd<=10) (h1:RB u b1 #[.string ⟨#[116]⟩,.int .i64 1,.bool false,.int .i64 0,.string ⟨#[]⟩,.slice none 0 0] 57) (h2:RB u b2 #[.string ⟨nm.toArray⟩,.int .i64 bd,.int .i64 0,.int .i64 0] 66):OxG u (wkO b1 b2 nm bd):=by
 refine ⟨⟨rfl,fun _=>⟨b1,0,rfl,lt_of_block h1,fun k hk j hj=>?_⟩⟩,?_,⟨rfl,fun _=>⟨b2,0,rfl,lt_of_block h2,fun k hk j hj=>?_⟩⟩,?_,?_,by show (1:Nat)<=maxLen;unfold maxLen;omega,by show (1:Nat)<=maxLen;unfold maxLen;omega⟩
 ·have:k=0:=by simpa using hk
  subst this
  rw [show 0+0*6+j=j from by omega,h1.cell]
  match j,hj with
  | 0,_=>rfl
  | 1,_=>rfl
  | 2,_=>rfl
  | 3,_=>rfl
  | 4,_=>rfl
  | 5,_=>rfl
 ·intro m hm
  rw [List.mem_singleton] at hm
  subst hm
  exact SL.nil _ _ _
 ·have:k=0:=by simpa using hk
  subst this
  rw [show 0+0*4+j=j from by omega,h2.cell]
  match j,hj with
  | 0,_=>rfl
  | 1,_=>rfl
  | 2,_=>rfl
  | 3,_=>rfl
 ·intro m hm
  rw [List.mem_singleton] at hm
  subst hm
  exact wk_good
 ·intro s hs
  rw [List.mem_singleton] at hs
  subst hs
  exact wk_sym nm bd hn hb 0 ⟨by decide,by decide⟩
def WeakP (nm:List UInt8) (bd:Int) (w:World) (e:Ending) (w':World):Prop:=∃ b1 b2,e=.returned (.agg #[.slice (some ⟨b1,0,none⟩) 1 1,.slice (some ⟨b2,0,none⟩) 1 1])/\OxG w' (wkO b1 b2 nm bd)/\Below w.heap.size w w'
theorem weak_any (nm:List UInt8) (N:ByteArray) (hN:N=⟨nm.toArray⟩) (bd:Int) (hn:nm.length<=10) (hb : -10<=bd/\bd<=10) (w:World):Calls Tryz.prog 59 #[.string N,.int .i64 bd] w (WeakP nm bd w):=by
 obtain ⟨H,hH⟩:∃ H,H=w.heap.size:=⟨_,rfl⟩
 obtain ⟨A0,hA0⟩:∃ A,A=w.alloc (.cells #[.slice (some ⟨H+1,0,none⟩) 1 1,.slice (some ⟨H+1+1,0,none⟩) 1 1] 25):=⟨_,rfl⟩
 obtain ⟨A1,hA1⟩:∃ A,A=A0.alloc (.cells #[.string ⟨#[116]⟩,.int .i64 1,.bool false,.int .i64 0,.string ⟨#[]⟩,.slice none 0 0] 57):=⟨_,rfl⟩
 obtain ⟨A2,hA2⟩:∃ A,A=A1.alloc (.cells #[.string N,.int .i64 bd,.int .i64 0,.int .i64 0] 66):=⟨_,rfl⟩
 have hz0:A0.heap.size=H+1:=by rw [hA0,World.size_alloc,hH]
 have hz1:A1.heap.size=H+1+1:=by rw [hA1,World.size_alloc,hz0]
 have b0:Below w.heap.size w A0:=by rw [hA0];exact lit_below w _
 have b1:Below A0.heap.size A0 A1:=by rw [hA1];exact lit_below A0 _
 have b2:Below A1.heap.size A1 A2:=by rw [hA2];exact lit_below A1 _
 have r0:RB A2 H #[.slice (some ⟨H+1,0,none⟩) 1 1,.slice (some ⟨H+1+1,0,none⟩) 1 1] 25:=by
  have:RB A0 H #[.slice (some ⟨H+1,0,none⟩) 1 1,.slice (some ⟨H+1+1,0,none⟩) 1 1] 25:=by rw [hA0,hH];exact rb_new w _ _
  exact (this.next b1).next b2
 have r1:RB A2 (H+1) #[.string ⟨#[116]⟩,.int .i64 1,.bool false,.int .i64 0,.string ⟨#[]⟩,.slice none 0 0] 57:=by
  have:RB A1 (H+1) #[.string ⟨#[116]⟩,.int .i64 1,.bool false,.int .i64 0,.string ⟨#[]⟩,.slice none 0 0] 57:=by rw [hA1,<-hz0];exact rb_new A0 _ _
  exact this.next b2
 have r2:RB A2 (H+1+1) #[.string N,.int .i64 bd,.int .i64 0,.int .i64 0] 66:=by rw [hA2,<-hz1];exact rb_new A1 _ _
 have HB:=Lib.hid (after (after b0 b1) b2)
 have HR:=Lib.hid r0
 have HG:Hid (OxG A2 (wkO (H+1) (H+1+1) nm bd)):=Lib.hid (wk_oxg _ _ _ nm bd hn hb r1 (by rw [<-hN];exact r2))
 have HAE:Hid ((((w.alloc (.cells #[.slice (some ⟨H+1,0,none⟩) 1 1,.slice (some ⟨H+1+1,0,none⟩) 1 1] 25)).alloc (.cells #[.string ⟨#[116]⟩,.int .i64 1,.bool false,.int .i64 0,.string ⟨#[]⟩,.slice none 0 0] 57)).alloc (.cells #[.string N,.int .i64 bd,.int .i64 0,.int .i64 0] 66))=A2):=Lib.hid (by rw [hA2,hA1,hA0])
 have HH:=Lib.hid hH
 clear hN hb hz0 hz1 b0 b1 b2 r0 r1 r2 hA0 hA1 hA2 hH
 go_enter Tryz.func59,Tryz.ntmps59
 go_wp2
 rw [<-HH.out,HAE.out]
 refine bodyPost_ret (results_cell_row (P:=Tryz.prog) rfl _ _ H 25 _ (0,0) _ rfl HR.out Tryz.underlying25 rfl (by kernel_rfl)) rfl ?_
 exact ⟨H+1,H+1+1,rfl,HG.out,HB.out⟩
theorem two_objs (u:World) (o p:Ox) (ho:OxG u o) (hp:OxG u p):OS (u.alloc (.cells #[.slice o.a o.L.length o.c,.slice o.a2 o.l.length o.c2,.slice p.a p.L.length p.c,.slice p.a2 p.l.length p.c2] 25)) (u.alloc (.cells #[.slice o.a o.L.length o.c,.slice o.a2 o.l.length o.c2,.slice p.a p.L.length p.c,.slice p.a2 p.l.length p.c2] 25)).heap.size (some ⟨u.heap.size,0,none⟩) 2 [o,p]:=by
 have hb:=lit_below u (.cells #[.slice o.a o.L.length o.c,.slice o.a2 o.l.length o.c2,.slice p.a p.L.length p.c,.slice p.a2 p.l.length p.c2] 25)
 have ho':=ho.next hb
 have hp':=hp.next hb
 have key:∀ x ∈ [o,p],OxG (u.alloc (.cells #[.slice o.a o.L.length o.c,.slice o.a2 o.l.length o.c2,.slice p.a p.L.length p.c,.slice p.a2 p.l.length p.c2] 25)) x:=by
  intro x hx
  simp only [List.mem_cons,List.not_mem_nil,or_false] at hx
  rcases hx with rfl | rfl
  ·exact ho'
  ·exact hp'
 refine ⟨?_,fun x hx=>(key x hx).s1,fun x hx=>(key x hx).no,fun x hx=>(key x hx).s2,fun x hx=>(key x hx).gd,fun x hx=>(key x hx).gs,fun x hx=>(key x hx).l1,fun x hx=>(key x hx).l2,by unfold maxLen;omega⟩
 rw [World.size_alloc];exact SL.lit u 25 [o,p] ox_len (by decide) _ rfl 2 rfl
theorem one_obj (u:World) (o:Ox) (ho:OxG u o):OS (u.alloc (.cells #[.slice o.a o.L.length o.c,.slice o.a2 o.l.length o.c2] 25)) (u.alloc (.cells #[.slice o.a o.L.length o.c,.slice o.a2 o.l.length o.c2] 25)).heap.size (some ⟨u.heap.size,0,none⟩) 1 [o]:=by
 have ho':=ho.next (lit_below u (.cells #[.slice o.a o.L.length o.c,.slice o.a2 o.l.length o.c2] 25))
 have key:∀ x ∈ [o],OxG (u.alloc (.cells #[.slice o.a o.L.length o.c,.slice o.a2 o.l.length o.c2] 25)) x:=by
  intro x hx
  rw [List.mem_singleton] at hx
  subst hx
  exact ho'
 refine ⟨?_,fun x hx=>(key x hx).s1,fun x hx=>(key x hx).no,fun x hx=>(key x hx).s2,fun x hx=>(key x hx).gd,fun x hx=>(key x hx).gs,fun x hx=>(key x hx).l1,fun x hx=>(key x hx).l2,by unfold maxLen;omega⟩
 rw [World.size_alloc];exact SL.lit u 25 [o] ox_len (by decide) _ rfl 1 rfl
theorem fl1:faultL [wkB [97] 3,wkB [97] 2]=flZ:=by kernel_rfl
theorem rw1:rowsL [wkB [97] 3,wkB [97] 2]=[[⟨1,0,0⟩],[⟨1,0,0⟩]]:=by kernel_rfl
theorem fl2:faultL [wkB [97] 2,wkB [97] 2]=⟨7,1,0⟩:=by kernel_rfl
theorem fl3:faultL [⟨[],[⟨[98],3,-1,0⟩]⟩]=⟨6,0,0⟩:=by kernel_rfl
theorem fi4:findO [wkB [98] 1,wkB [97] 3] [97]=some ⟨1,0,0⟩:=by kernel_rfl
def Res1 (w:World) (e:Ending) (w':World):Prop:=∃ Z rs,e=.returned (.tuple #[.slice (some ⟨Z,0,none⟩) 2 2,.agg #[.int .i64 0,.int .i64 0,.int .i64 0]])/\PRows w' (some ⟨Z,0,none⟩) 2 rs/\rs.map (·.l)=[[⟨1,0,0⟩],[⟨1,0,0⟩]]/\Below w.heap.size w w'
def ResF (c o s:Int) (w:World) (e:Ending) (w':World):Prop:=e=.returned (.tuple #[.slice none 0 0,.agg #[.int .i64 c,.int .i64 o,.int .i64 s]])/\Below w.heap.size w w'
theorem res1 {w:World} {a:Option Addr} {c:Nat} {Os:List Ox} (hO:OS w w.heap.size a 2 Os) (hT:TabP w) (hm:Os.map obOf=[wkB [97] 3,wkB [97] 2]):Calls Tryz.prog 19 #[.slice a 2 c] w (Res1 w):=by
 refine (resolve_any a 2 c Os w hO hT).mono ?_
 rw [hm]
 rintro e w' (⟨h,-⟩ | ⟨-,Z,rs,rfl,h1,h2,hb⟩)
 ·exact absurd fl1 h
 ·exact ⟨Z,rs,rfl,h1,h2.trans rw1,hb⟩
theorem resF {w:World} {a:Option Addr} {n c:Nat} {Os:List Ox} {os:List Ob} {f:Flt} (hO:OS w w.heap.size a n Os) (hT:TabP w) (hm:Os.map obOf=os) (hf:faultL os=f) (hz:f ≠ flZ):Calls Tryz.prog 19 #[.slice a n c] w (ResF f.code f.obj f.sym w):=by
 refine (resolve_any a n c Os w hO hT).mono ?_
 rw [hm]
 rintro e w' (⟨-,rfl,hb⟩ | ⟨h,-⟩)
 ·rw [hf];exact ⟨rfl,hb⟩
 ·rw [hf] at h;exact absurd h hz
def FindA (w:World) (e:Ending) (w':World):Prop:=e=.returned (.tuple #[.agg #[.int .i64 1,.int .i64 0,.int .i64 0],.bool true])/\Below w.heap.size w w'
theorem find4 {w:World} {a:Option Addr} {c:Nat} {Os:List Ox} (hO:OS w w.heap.size a 2 Os) (hT:TabP w) (hm:Os.map obOf=[wkB [98] 1,wkB [97] 3]):Calls Tryz.prog 21 #[.slice a 2 c,.string ⟨#[97]⟩] w (FindA w):=by
 refine (sFind_any a 2 c Os ⟨#[97]⟩ (by decide) w hO hT).mono ?_
 rw [hm]
 rintro e w' ⟨rfl,hb⟩
 refine ⟨?_,hb⟩
 rw [show (⟨#[97]⟩:ByteArray).data.toList=[97] from rfl,fi4]
 rfl
theorem rows_lens {rs:List Rw} {L:List (List Pl)} (h:rs.map (·.l)=L) (k:Nat) (hL:∀ x ∈ L,x.length<=k):∀ r ∈ rs,r.l.length<=k:=fun r hr=>hL _ (h ▸ List.mem_map.2 ⟨r,hr,rfl⟩)
theorem lit_rows (u:World) (p1 p2:Nat) (x:Pl) (h1:RB u p1 #[.int .i64 x.obj,.int .i64 x.sec,.int .i64 x.off] 46) (h2:RB u p2 #[.int .i64 x.obj,.int .i64 x.sec,.int .i64 x.off] 46):PRows (u.alloc (.cells #[.slice (some ⟨p1,0,none⟩) 1 1,.slice (some ⟨p2,0,none⟩) 1 1] 104)) (some ⟨u.heap.size,0,none⟩) 2 [⟨some ⟨p1,0,none⟩,1,[x]⟩,⟨some ⟨p2,0,none⟩,1,[x]⟩]:=by
 have hb:=lit_below u (.cells #[.slice (some ⟨p1,0,none⟩) 1 1,.slice (some ⟨p2,0,none⟩) 1 1] 104)
 have key:∀ p,RB u p #[.int .i64 x.obj,.int .i64 x.sec,.int .i64 x.off] 46->SL plC 3 (u.alloc (.cells #[.slice (some ⟨p1,0,none⟩) 1 1,.slice (some ⟨p2,0,none⟩) 1 1] 104)) (u.alloc (.cells #[.slice (some ⟨p1,0,none⟩) 1 1,.slice (some ⟨p2,0,none⟩) 1 1] 104)).heap.size (some ⟨p,0,none⟩) 1 [x]:=by
  intro p hp
  have hp':=hp.next hb
  refine ⟨rfl,fun _=>⟨p,0,rfl,lt_of_block hp',fun k hk j hj=>?_⟩⟩
  have:k=0:=by simpa using hk
  subst this
  rw [show 0+0*3+j=j from by omega,hp'.cell]
  match j,hj with
  | 0,_=>rfl
  | 1,_=>rfl
  | 2,_=>rfl
 refine ⟨?_,?_⟩
 ·rw [World.size_alloc];exact SL.lit u 104 [⟨some ⟨p1,0,none⟩,1,[x]⟩,⟨some ⟨p2,0,none⟩,1,[x]⟩] rw_len (by decide) _ rfl 2 rfl
 ·intro r hr
  simp only [List.mem_cons,List.not_mem_nil,or_false] at hr
  rcases hr with rfl | rfl
  ·exact key p1 h1
  ·exact key p2 h2
theorem lone_oxg (u:World) (b:Nat) (h2:RB u b #[.string ⟨#[98]⟩,.int .i64 3,.int .i64 (-1),.int .i64 0] 66):OxG u ⟨none,0,[],some ⟨b,0,none⟩,1,[⟨[98],3,-1,0⟩]⟩:=by
 refine ⟨SL.nil _ _ _,(by intro m hm;cases hm),⟨rfl,fun _=>⟨b,0,rfl,lt_of_block h2,fun k hk j hj=>?_⟩⟩,(by intro m hm;cases hm),?_,by show (0:Nat)<=maxLen;omega,by show (1:Nat)<=maxLen;unfold maxLen;omega⟩
 ·have:k=0:=by simpa using hk
  subst this
  rw [show 0+0*4+j=j from by omega,h2.cell]
  match j,hj with
  | 0,_=>rfl
  | 1,_=>rfl
  | 2,_=>rfl
  | 3,_=>rfl
 ·intro s hs
  rw [List.mem_singleton] at hs
  subst hs
  exact wk_sym [98] 3 (by decide) (by decide) (-1) (by decide)
theorem resolved_is (w:World) (hT:TabP w):Calls Tryz.prog 23 #[] w (RetB (.bool true) w):=by
 have HT:=Lib.hid hT
 have HB:Hid (Below w.heap.size w w):=Lib.hid (Below.refl _ w)
 clear hT
 go_enter Tryz.func23,Tryz.ntmps23
 go_wp2_with fail
 refine (weak_any [97] ⟨#[97]⟩ rfl 3 (by decide) (by decide) _).mono ?_
 rintro e u1 ⟨p1,q1,rfl,hs,hb⟩
 replace HB:=Lib.hid (after HB.out hb)
 have S1:=Lib.hid hs
 clear hs
 clear hb
 go_wp2_with fail
 refine (weak_any [97] ⟨#[97]⟩ rfl 2 (by decide) (by decide) _).mono ?_
 rintro e u2 ⟨p2,q2,rfl,hs,hb⟩
 replace HB:=Lib.hid (after HB.out hb)
 replace S1:=Lib.hid (S1.out.next hb)
 have S2:=Lib.hid hs
 clear hs
 clear hb
 obtain ⟨H3,hH⟩:∃ H,H=u2.heap.size:=⟨_,rfl⟩
 have HH:=Lib.hid hH
 have HOO:=Lib.hid (two_objs u2 _ _ S1.out S2.out)
 rw [<-hH] at HOO
 have HA0:=Lib.hid (lit_below u2 (.cells #[.slice (some ⟨p1,0,none⟩) 1 1,.slice (some ⟨q1,0,none⟩) 1 1,.slice (some ⟨p2,0,none⟩) 1 1,.slice (some ⟨q2,0,none⟩) 1 1] 25))
 clear hH
 go_wp2_with fail
 try rw [<-HH.out]
 generalize (u2.alloc (.cells #[.slice (some ⟨p1,0,none⟩) 1 1,.slice (some ⟨q1,0,none⟩) 1 1,.slice (some ⟨p2,0,none⟩) 1 1,.slice (some ⟨q2,0,none⟩) 1 1] 25))=W3_0 at HA0 HOO ⊢
 replace HB:=Lib.hid (after HB.out HA0.out)
 replace S1:=Lib.hid (S1.out.next HA0.out)
 replace S2:=Lib.hid (S2.out.next HA0.out)
 clear HH HA0
 refine (res1 HOO.out (HT.out.next HB.out) rfl).mono ?_
 rintro e u4 ⟨Z1,rs1,rfl,hs,hr1,hb⟩
 clear HOO
 clear S1
 clear S2
 replace HB:=Lib.hid (after HB.out hb)
 have HP1:=Lib.hid hs
 clear hs
 clear hb
 have HR1:=Lib.hid hr1
 clear hr1
 obtain ⟨H5,hH⟩:∃ H,H=u4.heap.size:=⟨_,rfl⟩
 have HH:=Lib.hid hH
 have HF1:=Lib.hid (rb_new u4 #[.int .i64 0,.int .i64 0,.int .i64 0] 42)
 rw [<-hH] at HF1
 have HA0:=Lib.hid (lit_below u4 (.cells #[.int .i64 0,.int .i64 0,.int .i64 0] 42))
 clear hH
 go_wp2_with fail
 try rw [<-HH.out]
 generalize (u4.alloc (.cells #[.int .i64 0,.int .i64 0,.int .i64 0] 42))=W5_0 at HA0 HF1 ⊢
 replace HB:=Lib.hid (after HB.out HA0.out)
 replace HP1:=Lib.hid (HP1.out.next HA0.out)
 clear HH HA0
 refine (weak_any [97] ⟨#[97]⟩ rfl 2 (by decide) (by decide) _).mono ?_
 rintro e u6 ⟨p3,q3,rfl,hs,hb⟩
 replace HB:=Lib.hid (after HB.out hb)
 replace HP1:=Lib.hid (HP1.out.next hb)
 replace HF1:=Lib.hid (HF1.out.next hb)
 have S3:=Lib.hid hs
 clear hs
 clear hb
 go_wp2_with fail
 refine (weak_any [97] ⟨#[97]⟩ rfl 2 (by decide) (by decide) _).mono ?_
 rintro e u7 ⟨p4,q4,rfl,hs,hb⟩
 replace HB:=Lib.hid (after HB.out hb)
 replace HP1:=Lib.hid (HP1.out.next hb)
 replace HF1:=Lib.hid (HF1.out.next hb)
 replace S3:=Lib.hid (S3.out.next hb)
 have S4:=Lib.hid hs
 clear hs
 clear hb
 obtain ⟨H8,hH⟩:∃ H,H=u7.heap.size:=⟨_,rfl⟩
 have HH:=Lib.hid hH
 have HOO:=Lib.hid (two_objs u7 _ _ S3.out S4.out)
 rw [<-hH] at HOO
 have HA0:=Lib.hid (lit_below u7 (.cells #[.slice (some ⟨p3,0,none⟩) 1 1,.slice (some ⟨q3,0,none⟩) 1 1,.slice (some ⟨p4,0,none⟩) 1 1,.slice (some ⟨q4,0,none⟩) 1 1] 25))
 clear hH
 go_wp2_with fail
 try rw [<-HH.out]
 generalize (u7.alloc (.cells #[.slice (some ⟨p3,0,none⟩) 1 1,.slice (some ⟨q3,0,none⟩) 1 1,.slice (some ⟨p4,0,none⟩) 1 1,.slice (some ⟨q4,0,none⟩) 1 1] 25))=W8_0 at HA0 HOO ⊢
 replace HB:=Lib.hid (after HB.out HA0.out)
 replace HP1:=Lib.hid (HP1.out.next HA0.out)
 replace HF1:=Lib.hid (HF1.out.next HA0.out)
 replace S3:=Lib.hid (S3.out.next HA0.out)
 replace S4:=Lib.hid (S4.out.next HA0.out)
 clear HH HA0
 refine (resF (f:=⟨7,1,0⟩) HOO.out (HT.out.next HB.out) rfl fl2 (by decide)).mono ?_
 rintro e u9 ⟨rfl,hb⟩
 clear HOO
 clear S3
 clear S4
 replace HB:=Lib.hid (after HB.out hb)
 replace HP1:=Lib.hid (HP1.out.next hb)
 replace HF1:=Lib.hid (HF1.out.next hb)
 clear hb
 simp only []
 obtain ⟨H11,hH⟩:∃ H,H=u9.heap.size:=⟨_,rfl⟩
 have HH:=Lib.hid hH
 have HF2:=Lib.hid (rb_new u9 #[.int .i64 7,.int .i64 1,.int .i64 0] 42)
 rw [<-hH] at HF2
 have HA0:=Lib.hid (lit_below u9 (.cells #[.int .i64 7,.int .i64 1,.int .i64 0] 42))
 have hS1:(u9.alloc (.cells #[.int .i64 7,.int .i64 1,.int .i64 0] 42)).heap.size=H11+1:=by rw [World.size_alloc,<-hH]
 have HSy:=Lib.hid (rb_new (u9.alloc (.cells #[.int .i64 7,.int .i64 1,.int .i64 0] 42)) #[.string ⟨#[98]⟩,.int .i64 3,.int .i64 (-1),.int .i64 0] 66)
 rw [hS1] at HSy
 have HA1:=Lib.hid (lit_below (u9.alloc (.cells #[.int .i64 7,.int .i64 1,.int .i64 0] 42)) (.cells #[.string ⟨#[98]⟩,.int .i64 3,.int .i64 (-1),.int .i64 0] 66))
 clear hS1
 clear hH
 have HG3:Hid (OxG ((u9.alloc (.cells #[.int .i64 7,.int .i64 1,.int .i64 0] 42)).alloc (.cells #[.string ⟨#[98]⟩,.int .i64 3,.int .i64 (-1),.int .i64 0] 66)) ⟨none,0,[],some ⟨H11+1,0,none⟩,1,[⟨[98],3,-1,0⟩]⟩):=Lib.hid (lone_oxg _ _ HSy.out)
 have HOO:=Lib.hid (one_obj ((u9.alloc (.cells #[.int .i64 7,.int .i64 1,.int .i64 0] 42)).alloc (.cells #[.string ⟨#[98]⟩,.int .i64 3,.int .i64 (-1),.int .i64 0] 66)) _ HG3.out)
 have hSz:((u9.alloc (.cells #[.int .i64 7,.int .i64 1,.int .i64 0] 42)).alloc (.cells #[.string ⟨#[98]⟩,.int .i64 3,.int .i64 (-1),.int .i64 0] 66)).heap.size=H11+1+1:=by rw [World.size_alloc,World.size_alloc,<-HH.out]
 rw [hSz] at HOO
 have HA2:=Lib.hid (lit_below ((u9.alloc (.cells #[.int .i64 7,.int .i64 1,.int .i64 0] 42)).alloc (.cells #[.string ⟨#[98]⟩,.int .i64 3,.int .i64 (-1),.int .i64 0] 66)) (.cells #[.slice none 0 0,.slice (some ⟨H11+1,0,none⟩) 1 1] 25))
 clear hSz
 go_wp2_with fail
 try rw [<-HH.out]
 generalize (u9.alloc (.cells #[.int .i64 7,.int .i64 1,.int .i64 0] 42))=W11_0 at HA0 HA1 HA2 HF2 HSy HOO ⊢
 replace HB:=Lib.hid (after HB.out HA0.out)
 replace HP1:=Lib.hid (HP1.out.next HA0.out)
 replace HF1:=Lib.hid (HF1.out.next HA0.out)
 generalize (W11_0.alloc (.cells #[.string ⟨#[98]⟩,.int .i64 3,.int .i64 (-1),.int .i64 0] 66))=W11_1 at HA1 HA2 HSy HOO ⊢
 replace HB:=Lib.hid (after HB.out HA1.out)
 replace HP1:=Lib.hid (HP1.out.next HA1.out)
 replace HF1:=Lib.hid (HF1.out.next HA1.out)
 replace HF2:=Lib.hid (HF2.out.next HA1.out)
 generalize (W11_1.alloc (.cells #[.slice none 0 0,.slice (some ⟨H11+1,0,none⟩) 1 1] 25))=W11_2 at HA2 HOO ⊢
 replace HB:=Lib.hid (after HB.out HA2.out)
 replace HP1:=Lib.hid (HP1.out.next HA2.out)
 replace HF1:=Lib.hid (HF1.out.next HA2.out)
 replace HF2:=Lib.hid (HF2.out.next HA2.out)
 replace HSy:=Lib.hid (HSy.out.next HA2.out)
 clear HH HA0 HA1 HA2
 clear HG3
 refine (resF (f:=⟨6,0,0⟩) HOO.out (HT.out.next HB.out) rfl fl3 (by decide)).mono ?_
 rintro e u12 ⟨rfl,hb⟩
 clear HOO
 clear HSy
 replace HB:=Lib.hid (after HB.out hb)
 replace HP1:=Lib.hid (HP1.out.next hb)
 replace HF1:=Lib.hid (HF1.out.next hb)
 replace HF2:=Lib.hid (HF2.out.next hb)
 clear hb
 simp only []
 obtain ⟨H13,hH⟩:∃ H,H=u12.heap.size:=⟨_,rfl⟩
 have HH:=Lib.hid hH
 have HF3:=Lib.hid (rb_new u12 #[.int .i64 6,.int .i64 0,.int .i64 0] 42)
 rw [<-hH] at HF3
 have HA0:=Lib.hid (lit_below u12 (.cells #[.int .i64 6,.int .i64 0,.int .i64 0] 42))
 clear hH
 go_wp2_with fail
 try rw [<-HH.out]
 generalize (u12.alloc (.cells #[.int .i64 6,.int .i64 0,.int .i64 0] 42))=W13_0 at HA0 HF3 ⊢
 replace HB:=Lib.hid (after HB.out HA0.out)
 replace HP1:=Lib.hid (HP1.out.next HA0.out)
 replace HF1:=Lib.hid (HF1.out.next HA0.out)
 replace HF2:=Lib.hid (HF2.out.next HA0.out)
 clear HH HA0
 refine (weak_any [98] ⟨#[98]⟩ rfl 1 (by decide) (by decide) _).mono ?_
 rintro e u14 ⟨p5,q5,rfl,hs,hb⟩
 replace HB:=Lib.hid (after HB.out hb)
 replace HP1:=Lib.hid (HP1.out.next hb)
 replace HF1:=Lib.hid (HF1.out.next hb)
 replace HF2:=Lib.hid (HF2.out.next hb)
 replace HF3:=Lib.hid (HF3.out.next hb)
 have S5:=Lib.hid hs
 clear hs
 clear hb
 go_wp2_with fail
 refine (weak_any [97] ⟨#[97]⟩ rfl 3 (by decide) (by decide) _).mono ?_
 rintro e u15 ⟨p6,q6,rfl,hs,hb⟩
 replace HB:=Lib.hid (after HB.out hb)
 replace HP1:=Lib.hid (HP1.out.next hb)
 replace HF1:=Lib.hid (HF1.out.next hb)
 replace HF2:=Lib.hid (HF2.out.next hb)
 replace HF3:=Lib.hid (HF3.out.next hb)
 replace S5:=Lib.hid (S5.out.next hb)
 have S6:=Lib.hid hs
 clear hs
 clear hb
 obtain ⟨H16,hH⟩:∃ H,H=u15.heap.size:=⟨_,rfl⟩
 have HH:=Lib.hid hH
 have HOO:=Lib.hid (two_objs u15 _ _ S5.out S6.out)
 rw [<-hH] at HOO
 have HA0:=Lib.hid (lit_below u15 (.cells #[.slice (some ⟨p5,0,none⟩) 1 1,.slice (some ⟨q5,0,none⟩) 1 1,.slice (some ⟨p6,0,none⟩) 1 1,.slice (some ⟨q6,0,none⟩) 1 1] 25))
 clear hH
 go_wp2_with fail
 try rw [<-HH.out]
 generalize (u15.alloc (.cells #[.slice (some ⟨p5,0,none⟩) 1 1,.slice (some ⟨q5,0,none⟩) 1 1,.slice (some ⟨p6,0,none⟩) 1 1,.slice (some ⟨q6,0,none⟩) 1 1] 25))=W16_0 at HA0 HOO ⊢
 replace HB:=Lib.hid (after HB.out HA0.out)
 replace HP1:=Lib.hid (HP1.out.next HA0.out)
 replace HF1:=Lib.hid (HF1.out.next HA0.out)
 replace HF2:=Lib.hid (HF2.out.next HA0.out)
 replace HF3:=Lib.hid (HF3.out.next HA0.out)
 replace S5:=Lib.hid (S5.out.next HA0.out)
 replace S6:=Lib.hid (S6.out.next HA0.out)
 clear HH HA0
 refine (find4 HOO.out (HT.out.next HB.out) rfl).mono ?_
 rintro e u17 ⟨rfl,hb⟩
 clear HOO
 clear S5
 clear S6
 replace HB:=Lib.hid (after HB.out hb)
 replace HP1:=Lib.hid (HP1.out.next hb)
 replace HF1:=Lib.hid (HF1.out.next hb)
 replace HF2:=Lib.hid (HF2.out.next hb)
 replace HF3:=Lib.hid (HF3.out.next hb)
 clear hb
 obtain ⟨H18,hH⟩:∃ H,H=u17.heap.size:=⟨_,rfl⟩
 have HH:=Lib.hid hH
 have HP7:=Lib.hid (rb_new u17 #[.int .i64 1,.int .i64 0,.int .i64 0] 46)
 rw [<-hH] at HP7
 have HA0:=Lib.hid (lit_below u17 (.cells #[.int .i64 1,.int .i64 0,.int .i64 0] 46))
 have hS1:(u17.alloc (.cells #[.int .i64 1,.int .i64 0,.int .i64 0] 46)).heap.size=H18+1:=by rw [World.size_alloc,<-hH]
 have HP9:=Lib.hid (rb_new (u17.alloc (.cells #[.int .i64 1,.int .i64 0,.int .i64 0] 46)) #[.int .i64 1,.int .i64 0,.int .i64 0] 46)
 rw [hS1] at HP9
 have HA1:=Lib.hid (lit_below (u17.alloc (.cells #[.int .i64 1,.int .i64 0,.int .i64 0] 46)) (.cells #[.int .i64 1,.int .i64 0,.int .i64 0] 46))
 have hS2:((u17.alloc (.cells #[.int .i64 1,.int .i64 0,.int .i64 0] 46)).alloc (.cells #[.int .i64 1,.int .i64 0,.int .i64 0] 46)).heap.size=H18+1+1:=by rw [World.size_alloc,hS1]
 have HQ1:=Lib.hid (rb_new ((u17.alloc (.cells #[.int .i64 1,.int .i64 0,.int .i64 0] 46)).alloc (.cells #[.int .i64 1,.int .i64 0,.int .i64 0] 46)) #[.int .i64 1,.int .i64 0,.int .i64 0] 46)
 rw [hS2] at HQ1
 have HA2:=Lib.hid (lit_below ((u17.alloc (.cells #[.int .i64 1,.int .i64 0,.int .i64 0] 46)).alloc (.cells #[.int .i64 1,.int .i64 0,.int .i64 0] 46)) (.cells #[.int .i64 1,.int .i64 0,.int .i64 0] 46))
 have hS3:(((u17.alloc (.cells #[.int .i64 1,.int .i64 0,.int .i64 0] 46)).alloc (.cells #[.int .i64 1,.int .i64 0,.int .i64 0] 46)).alloc (.cells #[.int .i64 1,.int .i64 0,.int .i64 0] 46)).heap.size=H18+1+1+1:=by rw [World.size_alloc,hS2]
 have HQ2:=Lib.hid (rb_new (((u17.alloc (.cells #[.int .i64 1,.int .i64 0,.int .i64 0] 46)).alloc (.cells #[.int .i64 1,.int .i64 0,.int .i64 0] 46)).alloc (.cells #[.int .i64 1,.int .i64 0,.int .i64 0] 46)) #[.int .i64 1,.int .i64 0,.int .i64 0] 46)
 rw [hS3] at HQ2
 have HA3:=Lib.hid (lit_below (((u17.alloc (.cells #[.int .i64 1,.int .i64 0,.int .i64 0] 46)).alloc (.cells #[.int .i64 1,.int .i64 0,.int .i64 0] 46)).alloc (.cells #[.int .i64 1,.int .i64 0,.int .i64 0] 46)) (.cells #[.int .i64 1,.int .i64 0,.int .i64 0] 46))
 clear hS1 hS2 hS3
 clear hH
 have HLR:=Lib.hid (lit_rows ((((u17.alloc (.cells #[.int .i64 1,.int .i64 0,.int .i64 0] 46)).alloc (.cells #[.int .i64 1,.int .i64 0,.int .i64 0] 46)).alloc (.cells #[.int .i64 1,.int .i64 0,.int .i64 0] 46)).alloc (.cells #[.int .i64 1,.int .i64 0,.int .i64 0] 46)) (H18+1+1) (H18+1+1+1) ⟨1,0,0⟩ (HQ1.out.next (lit_below (((u17.alloc (.cells #[.int .i64 1,.int .i64 0,.int .i64 0] 46)).alloc (.cells #[.int .i64 1,.int .i64 0,.int .i64 0] 46)).alloc (.cells #[.int .i64 1,.int .i64 0,.int .i64 0] 46)) (.cells #[.int .i64 1,.int .i64 0,.int .i64 0] 46))) HQ2.out)
 have hSz:((((u17.alloc (.cells #[.int .i64 1,.int .i64 0,.int .i64 0] 46)).alloc (.cells #[.int .i64 1,.int .i64 0,.int .i64 0] 46)).alloc (.cells #[.int .i64 1,.int .i64 0,.int .i64 0] 46)).alloc (.cells #[.int .i64 1,.int .i64 0,.int .i64 0] 46)).heap.size=H18+1+1+1+1:=by rw [World.size_alloc,World.size_alloc,World.size_alloc,World.size_alloc,<-HH.out]
 rw [hSz] at HLR
 have HA4:=Lib.hid (lit_below ((((u17.alloc (.cells #[.int .i64 1,.int .i64 0,.int .i64 0] 46)).alloc (.cells #[.int .i64 1,.int .i64 0,.int .i64 0] 46)).alloc (.cells #[.int .i64 1,.int .i64 0,.int .i64 0] 46)).alloc (.cells #[.int .i64 1,.int .i64 0,.int .i64 0] 46)) (.cells #[.slice (some ⟨H18+1+1,0,none⟩) 1 1,.slice (some ⟨H18+1+1+1,0,none⟩) 1 1] 104))
 clear hSz
 have hfe:=eql_fl ⟨0,0,0⟩ ⟨0,0,0⟩
 rw [show sameFl ⟨0,0,0⟩ ⟨0,0,0⟩=true from rfl] at hfe
 have k0:((u17.alloc (.cells #[.int .i64 1,.int .i64 0,.int .i64 0] 46)).alloc (.cells #[.int .i64 1,.int .i64 0,.int .i64 0] 46)).cell? ⟨H5,0,none⟩=some (.int .i64 0):=((HF1.out.next (lit_below u17 (.cells #[.int .i64 1,.int .i64 0,.int .i64 0] 46))).next (lit_below (u17.alloc (.cells #[.int .i64 1,.int .i64 0,.int .i64 0] 46)) (.cells #[.int .i64 1,.int .i64 0,.int .i64 0] 46))).cell
 have k1:((u17.alloc (.cells #[.int .i64 1,.int .i64 0,.int .i64 0] 46)).alloc (.cells #[.int .i64 1,.int .i64 0,.int .i64 0] 46)).cell? ⟨H5,1,none⟩=some (.int .i64 0):=((HF1.out.next (lit_below u17 (.cells #[.int .i64 1,.int .i64 0,.int .i64 0] 46))).next (lit_below (u17.alloc (.cells #[.int .i64 1,.int .i64 0,.int .i64 0] 46)) (.cells #[.int .i64 1,.int .i64 0,.int .i64 0] 46))).cell
 have k2:((u17.alloc (.cells #[.int .i64 1,.int .i64 0,.int .i64 0] 46)).alloc (.cells #[.int .i64 1,.int .i64 0,.int .i64 0] 46)).cell? ⟨H5,2,none⟩=some (.int .i64 0):=((HF1.out.next (lit_below u17 (.cells #[.int .i64 1,.int .i64 0,.int .i64 0] 46))).next (lit_below (u17.alloc (.cells #[.int .i64 1,.int .i64 0,.int .i64 0] 46)) (.cells #[.int .i64 1,.int .i64 0,.int .i64 0] 46))).cell
 go_wp2_with fail
 try rw [<-HH.out]
 generalize (u17.alloc (.cells #[.int .i64 1,.int .i64 0,.int .i64 0] 46))=W18_0 at HA0 HA1 HA2 HA3 HA4 HP7 HP9 HQ1 HQ2 HLR ⊢
 replace HB:=Lib.hid (after HB.out HA0.out)
 replace HP1:=Lib.hid (HP1.out.next HA0.out)
 replace HF1:=Lib.hid (HF1.out.next HA0.out)
 replace HF2:=Lib.hid (HF2.out.next HA0.out)
 replace HF3:=Lib.hid (HF3.out.next HA0.out)
 generalize (W18_0.alloc (.cells #[.int .i64 1,.int .i64 0,.int .i64 0] 46))=W18_1 at HA1 HA2 HA3 HA4 HP9 HQ1 HQ2 HLR ⊢
 replace HB:=Lib.hid (after HB.out HA1.out)
 replace HP1:=Lib.hid (HP1.out.next HA1.out)
 replace HF1:=Lib.hid (HF1.out.next HA1.out)
 replace HF2:=Lib.hid (HF2.out.next HA1.out)
 replace HF3:=Lib.hid (HF3.out.next HA1.out)
 replace HP7:=Lib.hid (HP7.out.next HA1.out)
 generalize (W18_1.alloc (.cells #[.int .i64 1,.int .i64 0,.int .i64 0] 46))=W18_2 at HA2 HA3 HA4 HQ1 HQ2 HLR ⊢
 replace HB:=Lib.hid (after HB.out HA2.out)
 replace HP1:=Lib.hid (HP1.out.next HA2.out)
 replace HF1:=Lib.hid (HF1.out.next HA2.out)
 replace HF2:=Lib.hid (HF2.out.next HA2.out)
 replace HF3:=Lib.hid (HF3.out.next HA2.out)
 replace HP7:=Lib.hid (HP7.out.next HA2.out)
 replace HP9:=Lib.hid (HP9.out.next HA2.out)
 generalize (W18_2.alloc (.cells #[.int .i64 1,.int .i64 0,.int .i64 0] 46))=W18_3 at HA3 HA4 HQ2 HLR ⊢
 replace HB:=Lib.hid (after HB.out HA3.out)
 replace HP1:=Lib.hid (HP1.out.next HA3.out)
 replace HF1:=Lib.hid (HF1.out.next HA3.out)
 replace HF2:=Lib.hid (HF2.out.next HA3.out)
 replace HF3:=Lib.hid (HF3.out.next HA3.out)
 replace HP7:=Lib.hid (HP7.out.next HA3.out)
 replace HP9:=Lib.hid (HP9.out.next HA3.out)
 replace HQ1:=Lib.hid (HQ1.out.next HA3.out)
 generalize (W18_3.alloc (.cells #[.slice (some ⟨H18+1+1,0,none⟩) 1 1,.slice (some ⟨H18+1+1+1,0,none⟩) 1 1] 104))=W18_4 at HA4 HLR ⊢
 replace HB:=Lib.hid (after HB.out HA4.out)
 replace HP1:=Lib.hid (HP1.out.next HA4.out)
 replace HF1:=Lib.hid (HF1.out.next HA4.out)
 replace HF2:=Lib.hid (HF2.out.next HA4.out)
 replace HF3:=Lib.hid (HF3.out.next HA4.out)
 replace HP7:=Lib.hid (HP7.out.next HA4.out)
 replace HP9:=Lib.hid (HP9.out.next HA4.out)
 replace HQ1:=Lib.hid (HQ1.out.next HA4.out)
 replace HQ2:=Lib.hid (HQ2.out.next HA4.out)
 clear HH HA0 HA1 HA2 HA3 HA4
 clear k0 k1 k2 hfe
 refine (same20_any _ _ 2 2 _ _ rs1 _ _ (by decide) (by decide) (rows_lens HR1.out 1000000 (by decide)) (by intro r hr;simp only [List.mem_cons,List.not_mem_nil,or_false] at hr;rcases hr with rfl | rfl <;> exact (by show (1:Nat)<=1000000;decide)) HP1.out HLR.out).mono ?_
 rintro e u19 ⟨r,rfl,hr,hb⟩
 clear HP1
 clear HLR
 clear HQ1
 clear HQ2
 replace HB:=Lib.hid (after HB.out hb)
 replace HF1:=Lib.hid (HF1.out.next hb)
 replace HF2:=Lib.hid (HF2.out.next hb)
 replace HF3:=Lib.hid (HF3.out.next hb)
 replace HP7:=Lib.hid (HP7.out.next hb)
 replace HP9:=Lib.hid (HP9.out.next hb)
 clear hb
 rw [HR1.out] at hr
 obtain rfl:r=true:=hr.2 rfl
 clear hr
 have he2:=eql_fl ⟨7,1,0⟩ ⟨7,1,0⟩
 rw [show sameFl ⟨7,1,0⟩ ⟨7,1,0⟩=true from rfl] at he2
 have m20:u19.cell? ⟨H11,0,none⟩=some (.int .i64 7):=HF2.out.cell
 have m21:u19.cell? ⟨H11,1,none⟩=some (.int .i64 1):=HF2.out.cell
 have m22:u19.cell? ⟨H11,2,none⟩=some (.int .i64 0):=HF2.out.cell
 have he3:=eql_fl ⟨6,0,0⟩ ⟨6,0,0⟩
 rw [show sameFl ⟨6,0,0⟩ ⟨6,0,0⟩=true from rfl] at he3
 have m30:u19.cell? ⟨H13,0,none⟩=some (.int .i64 6):=HF3.out.cell
 have m31:u19.cell? ⟨H13,1,none⟩=some (.int .i64 0):=HF3.out.cell
 have m32:u19.cell? ⟨H13,2,none⟩=some (.int .i64 0):=HF3.out.cell
 have hpe:=eql_pl ⟨1,0,0⟩ ⟨1,0,0⟩
 rw [show samePl ⟨1,0,0⟩ ⟨1,0,0⟩=true from rfl] at hpe
 have n70:u19.cell? ⟨H18,0,none⟩=some (.int .i64 1):=HP7.out.cell
 have n90:u19.cell? ⟨H18+1,0,none⟩=some (.int .i64 1):=HP9.out.cell
 have n71:u19.cell? ⟨H18,1,none⟩=some (.int .i64 0):=HP7.out.cell
 have n91:u19.cell? ⟨H18+1,1,none⟩=some (.int .i64 0):=HP9.out.cell
 have n72:u19.cell? ⟨H18,2,none⟩=some (.int .i64 0):=HP7.out.cell
 have n92:u19.cell? ⟨H18+1,2,none⟩=some (.int .i64 0):=HP9.out.cell
 go_wp2
 go_ret
 exact ⟨rfl,HB.out⟩
end Go.Proofs.YthkolmebokfagaaGreatDoor
