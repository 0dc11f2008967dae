/- The openers that the card wants. -/
import Derived.Test.YtbabckomagkjbaaGreatDoorh2
import Derived.Deep.AppendLies
import Derived.Deep.Grids
set_option maxRecDepth 100000
set_option maxHeartbeats 600000
set_option linter.unusedVariables false
set_option linter.unusedSimpArgs false
namespace Go.Proofs.YtbabckomagkjbaaGreatDoor
open Go.ChangeShapes Go.WideShapes Go.Deep Go.RowKit
theorem open_Units2 {H:Type} {encH:TypeId × Value->H} {W:World} {base:Nat} {v:Value} {d:DataW H} {p:List MemPlace}
  (hv:Value.okWide Tryz.prog W .any base 22 v) (h:DataW.Trod encH Tryz.prog W 0 (fun _=>true) true 22 v d p) (hB:∀ z ∈ d.weights Tryz.prog 22,z<=reachBytes):
  ∃ (a:Option Addr) (n c:Nat) (L:List Ms),v=.slice a n c/\n<=maxLen/\SL msC 6 W W.heap.size a n L/\Notes W W.heap.size L/\(∀ m ∈ L,GoodSc m.sc)/\(∀ m ∈ L,m.sc.rels.length*32<=reachBytes)/\(∀ m ∈ L,m.ad=none->m.sc.rels.length=0/\m.cap=0):=by
 obtain ⟨a0,len0,cap0,rfl⟩:=okWide_slice Tryz.underlying22 hv
 obtain ⟨fuel,hf⟩:=h
 simp only [Value.cells] at hf
 obtain ⟨a,n,c,L,hveq,h2,h3,h4,h5,h6,-⟩:=open_SL4 (sz:=6) (enc:=msC) (fun m:Ms=>((GoodSc m.sc/\m.sc.rels.length*32<=reachBytes)/\(m.ad=none->m.sc.rels.length=0/\m.cap=0))/\SL rlC 4 W W.heap.size m.ad m.sc.rels.length m.sc.rels) ⟨scZ,none,0⟩ Tryz.underlying22 Tryz.underlying43 (by kernel_rfl) (by kernel_rfl) rfl (by decide) ms_len (by
  intro cell m hc
  obtain ⟨u0,z0,g0,s0,b0⟩:=hc 0 _ rfl
  obtain ⟨u1,z1,g1,s1,b1⟩:=hc 1 _ rfl
  obtain ⟨u2,z2,g2,s2,b2⟩:=hc 2 _ rfl
  obtain ⟨u3,z3,g3,s3,b3⟩:=hc 3 _ rfl
  obtain ⟨u4,z4,g4,s4,b4⟩:=hc 4 _ rfl
  obtain ⟨u5,z5,g5,s5,b5⟩:=hc 5 _ rfl
  obtain ⟨x0,e0,-,w0⟩:=DataW.trod_string Tryz.underlying9 s0
  obtain ⟨x1,e1,-,w1⟩:=DataW.trod_int Tryz.underlying3 s1
  obtain ⟨x2,e2,-⟩:=DataW.trod_bool Tryz.underlying4 s2
  obtain ⟨x3,e3,-,w3⟩:=DataW.trod_int Tryz.underlying3 s3
  obtain ⟨x4,e4,-,w4⟩:=DataW.trod_string Tryz.underlying9 s4
  simp only [List.cons.injEq,and_true] at e0 e1 e2 e3 e4
  subst e0 e1 e2 e3 e4
  obtain ⟨ra,rn,rc,rl,rfl,r2,r3,r4,r5,r6,r7⟩:=open_SL4 (sz:=4) (enc:=rlC) GoodRl ⟨0,0,0,0⟩ Tryz.underlying41 Tryz.underlying61 (by kernel_rfl) (by kernel_rfl) rfl (by decide) rl_len (by
   intro cell m hc
   obtain ⟨u0,z0,g0,s0,b0⟩:=hc 0 _ rfl
   obtain ⟨u1,z1,g1,s1,b1⟩:=hc 1 _ rfl
   obtain ⟨u2,z2,g2,s2,b2⟩:=hc 2 _ rfl
   obtain ⟨u3,z3,g3,s3,b3⟩:=hc 3 _ rfl
   obtain ⟨k0,e0,-,w0⟩:=DataW.trod_int Tryz.underlying3 s0
   obtain ⟨k1,e1,-,w1⟩:=DataW.trod_int Tryz.underlying3 s1
   obtain ⟨k2,e2,-,w2⟩:=DataW.trod_int Tryz.underlying3 s2
   obtain ⟨k3,e3,-,w3⟩:=DataW.trod_int Tryz.underlying3 s3
   simp only [List.cons.injEq,and_true] at e0 e1 e2 e3
   subst e0 e1 e2 e3
   refine ⟨⟨k0,k1,k2,k3⟩,⟨bounds_i64 w0,bounds_i64 w1,bounds_i64 w2,bounds_i64 w3⟩,fun j hj=>?_⟩
   match j,hj with
   | 0,_=>exact g0
   | 1,_=>exact g1
   | 2,_=>exact g2
   | 3,_=>rw [show (rlC ⟨k0,k1,k2,k3⟩)[3]?=some (.int .i64 k3) from rfl];exact g3) s5 b5
  have b5':∀ z ∈ DataW.weights Tryz.prog 41 z5.1,z<=reachBytes:=b5
  have hrb:rn*32<=reachBytes:=r7 _ 32 (fun el sp hd=>b5' _ (by
   rw [hd]
   simp only [DataW.weights,Tryz.underlying41]
   rw [show Tryz.prog.bytesOf 61=32 from by kernel_rfl]
   exact List.mem_cons_self ..))
  have hrl:=r4.len
  subst hrl
  refine ⟨⟨⟨x0.data.toList,x1,x2,x3,x4.data.toList,rl⟩,ra,rc⟩,⟨⟨⟨⟨?_,bounds_i64 w1,bounds_i64 w3,?_,r3⟩,hrb⟩,r5⟩,r4⟩,fun j hj=>?_⟩
  ·show x0.data.toList.length<=maxLen
   rw [Array.length_toList];exact w0
  ·show x4.data.toList.length<=maxLen
   rw [Array.length_toList];exact w4
  match j,hj with
  | 0,_=>exact g0
  | 1,_=>exact g1
  | 2,_=>exact g2
  | 3,_=>exact g3
  | 4,_=>exact g4
  | 5,_=>exact g5) hf hB
 exact ⟨a,n,c,L,hveq,h2,h4,fun m hm=>(h3 m hm).2,fun m hm=>(h3 m hm).1.1.1,fun m hm=>(h3 m hm).1.1.2,fun m hm=>(h3 m hm).1.2⟩
end Go.Proofs.YtbabckomagkjbaaGreatDoor
namespace Go.Proofs.YtbabckomagkjbaaGreatDoor
open Go.ChangeShapes Go.WideShapes Go.Deep Go.RowKit
theorem open_Bools {H:Type} {encH:TypeId × Value->H} {W:World} {base:Nat} {v:Value} {d:DataW H} {p:List MemPlace}
  (hv:Value.okWide Tryz.prog W .any base 29 v) (h:DataW.Trod encH Tryz.prog W 0 (fun _=>true) true 29 v d p):
  ∃ (a:Option Addr) (n c:Nat) (l:List Bool),v=.slice a n c/\n<=maxLen/\SL enB 1 W W.heap.size a n l/\(a=none->n=0/\c=0):=by
 obtain ⟨a0,len0,cap0,rfl⟩:=okWide_slice Tryz.underlying29 hv
 obtain ⟨fuel,hf⟩:=h
 simp only [Value.cells] at hf
 rcases Go.Deep.open_bools Tryz.underlying29 Tryz.underlying4 (by kernel_rfl) hf with ⟨hcs,hx⟩ | ⟨a,len,cap,F,hcs,hb,hl,hm,hx,hc⟩
 ·simp only [List.cons.injEq,and_true] at hcs
  cases hcs
  exact ⟨none,0,0,[],rfl,by unfold maxLen;omega,SL.nil _ _ _,fun _=>⟨rfl,rfl⟩⟩
 ·simp only [List.cons.injEq,and_true] at hcs
  cases hcs
  refine ⟨some a,len0,cap0,(List.range len0).map F,rfl,by omega,⟨by simp,fun hne=>?_⟩,by simp⟩
  have hl0:0 < len0:=by
   rcases Nat.eq_zero_or_pos len0 with h | h
   ·subst h;simp at hne
   ·exact h
  have h00:=hc 0 (by omega)
  have ea:a.add 0=a:=by simp [Addr.add]
  rw [ea] at h00
  have hal:a.block < W.heap.size:=cell_lt h00
  obtain ⟨b,off,el⟩:=a
  have hel':el=none:=cell_spot h00
  subst hel'
  refine ⟨b,off,rfl,hal,fun k hk j hj=>?_⟩
  have:j=0:=by omega
  subst this
  have hk':k < len0:=by simpa using hk
  have:=hc k (by omega)
  rw [add_none] at this
  rw [show off+k*1+0=off+k from by omega,this]
  simp [enB]
end Go.Proofs.YtbabckomagkjbaaGreatDoor
