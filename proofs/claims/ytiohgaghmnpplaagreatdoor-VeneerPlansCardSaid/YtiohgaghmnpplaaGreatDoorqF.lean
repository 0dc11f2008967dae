/- num.Value, num.Signed, num.Text. lex.IsWord. operand: names. operand: tokens, plain. -/
import Derived.Test.YtiohgaghmnpplaaGreatDoorqA
import Derived.Test.YtiohgaghmnpplaaGreatDoorShelf
import Derived.Lib.Strings
import Derived.Laws.RangeString
import Derived.Laws.RangeAny
import Derived.Laws.Runes
import Derived.Shelf.Spec.BitsCarry
import Derived.Outline
import Derived.WalkMore
import Derived.ScopeJumps
import Derived.Lib.AppendIntMem
import Derived.WalkSmall
import Derived.Lib.ValidLaws
import Derived.Lib.TrimUEq
import Derived.Deep.QuietTactic
import Derived.BigQuiet
import Derived.OwnWalk
import Derived.Laws.Pointers
import Derived.RegionTactic
import Derived.Lib.OthersKept
import Derived.Deep.LoopGhost
set_option maxRecDepth 100000
set_option maxHeartbeats 2000000
set_option linter.unusedVariables false
set_option linter.unusedSimpArgs false
namespace Go.Proofs.YtiohgaghmnpplaaGreatDoor
section
open Go.RowKit Go.Sort
def dJ (c:UInt8):Nat:=if 48<=c.toNat/\c.toNat<=57 then c.toNat-48 else if 97<=c.toNat/\c.toNat<=102 then c.toNat-87 else if 65<=c.toNat/\c.toNat<=70 then c.toNat-55 else 16
theorem digB_ascii {c:UInt8}(h:dJ c<16):c.toNat<128:=by
 unfold dJ at h;(repeat' split at h)<;>omega
def digR (r:Nat):Nat:=if 48<=r/\r<=57 then r-48 else if 97<=r/\r<=102 then r-87 else if 65<=r/\r<=70 then r-55 else 16
theorem digR_high {r:Nat}(h:128<=r):digR r=16:=by unfold digR;rw[if_neg (by omega),if_neg (by omega),if_neg (by omega)]
theorem digB_high {c:UInt8}(h:128<=c.toNat):dJ c=16:=digR_high h
def rZ (b:Nat) (l:List UInt8):Bool:=l.all fun c=>decide (dJ c < b)
theorem okL_cons (b:Nat) (c:UInt8) (l:List UInt8):rZ b (c :: l)=(decide (dJ c < b) && rZ b l):=rfl
def vf (b:Nat):List UInt8->Nat->Option Nat
 | [],v=>some v
 |c :: r,v=>if v*b+dJ c<18446744073709551616 then vf b r (v*b+dJ c)else none
def mD (b:Nat)(l:List UInt8):Int×Int:=
 if l=[]\/rZ b l=false then(0,3)else match vf b l 0 with
  |some v=>((v:Int),0)
  |none=>(0,4)
def lM (l:List UInt8):Int×Int:=if Lib.hasPrefix l [48,120]=true then mD 16 (l.drop 2)else mD 10 l
theorem valD_bad {b:Nat}{l:List UInt8}(h:l=[]\/rZ b l=false):mD b l=(0,3):=by unfold mD;rw[if_pos h]
theorem valD_some {b v:Nat}{l:List UInt8}(h:¬(l=[]\/rZ b l=false))(e:vf b l 0=some v):mD b l=((v:Int),0):=by unfold mD;rw[if_neg h,e]
theorem valD_none {b:Nat}{l:List UInt8}(h:¬(l=[]\/rZ b l=false))(e:vf b l 0=none):mD b l=(0,4):=by unfold mD;rw[if_neg h,e]
theorem vf_step {b v:Nat}{c:UInt8}{r:List UInt8}(h:v*b+dJ c<18446744073709551616):vf b (c :: r) v=vf b r (v*b+dJ c):=by rw[vf,if_pos h]
theorem vf_stop {b v:Nat}{c:UInt8}{r:List UInt8}(h:¬v*b+dJ c<18446744073709551616):vf b (c :: r) v=none:=by rw[vf,if_neg h]
theorem rY {b:Nat}{l:List UInt8}(h:rZ b l=true)(k:Nat)(hk:k<l.length):dJ l[k]<b:=by
 unfold rZ at h;rw[List.all_eq_true]at h;exact of_decide_eq_true (h _ (List.getElem_mem hk))
theorem iZ (D:ByteArray)(pos:Nat)(h:pos<D.size):D.data.toList.drop pos=D[pos] :: D.data.toList.drop (pos+1):=by
 rw[List.drop_eq_getElem_cons (by simpa using h)];rfl
theorem pE (D:ByteArray):D.data.toList.length=D.size:=Array.length_toList
def lN (m:Bool)(v:Int):Int×Int:=if m=true then(if v<=9223372036854775808 then(-v,0)else(0,4))else if v<=9223372036854775807 then(v,0)else(0,4)
theorem digit_any (r:Nat)(w:World)(h:r<=2147483647):Calls Tryz.prog 242 #[.int .i32 r] w (bQ (.int .u64 (digR r:Nat)) w):=by
 have hc:(48<=r/\r<=57)\/(57<r/\97<=r/\r<=102)\/(57<r/\r<97/\65<=r/\r<=70)\/r<48\/(57<r/\r<65)\/(70<r/\r<97)\/102<r:=by omega
 rcases hc with⟨h1,h2⟩|⟨h1,h2,h3⟩|⟨h1,h2,h3,h4⟩|h1|⟨h1,h2⟩|⟨h1,h2⟩|h1
 ·have H:Hid ((digR r:Int)=(r:Int)-48):=aH (by unfold digR;rw[if_pos ⟨h1,h2⟩];omega);go_enter Tryz.func242,Tryz.ntmps242;go_wp2;go_ret;exact bK (by rw[H.out])
 ·have H:Hid ((digR r:Int)=(r:Int)-97+10):=aH (by unfold digR;rw[if_neg (by omega),if_pos ⟨h2,h3⟩];omega);go_enter Tryz.func242,Tryz.ntmps242;go_wp2;go_ret;exact bK (by rw[H.out])
 ·have H:Hid ((digR r:Int)=(r:Int)-65+10):=aH (by unfold digR;rw[if_neg (by omega),if_neg (by omega),if_pos ⟨h3,h4⟩];omega);go_enter Tryz.func242,Tryz.ntmps242;go_wp2;go_ret;exact bK (by rw[H.out])
 all_goals
  have H:Hid ((digR r:Int)=16):=aH (by unfold digR;rw[if_neg (by omega),if_neg (by omega),if_neg (by omega)];rfl);go_enter Tryz.func242,Tryz.ntmps242;go_wp2;go_ret;exact bK (by rw[H.out])
theorem oB (D:ByteArray)(pos:Nat)(h:pos<D.size)(w:World):
  Calls Tryz.prog 242 #[.int .i32 (Utf8.decode D pos).1] w (bQ (.int .u64 (dJ D[pos]:Nat)) w):=by
 have e:digR (Utf8.decode D pos).1=dJ D[pos]:=by
  by_cases c:(D[pos]'h).toNat<128
  ·rw[decode_ascii D pos h c];rfl
  ·rw[digR_high (decode_high D pos h (by omega)).1,digB_high (by omega)]
 have:=digit_any (Utf8.decode D pos).1 w (decode_le D pos);rwa[e]at this
theorem lL (D:ByteArray)(pos:Nat)(h:pos<D.size)(hd:dJ D[pos]<16):(Utf8.decode D pos).2=1:=by
 rw[decode_ascii D pos h (digB_ascii hd)]
theorem pR (D:ByteArray)(b:Nat)(w:World)(hb:b<=16):
  Calls Tryz.prog 240 #[.string D,.int .u64 b] w (aP (.bool (rZ b D.data.toList&&!D.data.toList.isEmpty)) w):=by
 have HL:=aH (pE D);go_enter Tryz.func240,Tryz.ntmps240;go_wp2;go_loopw [6] (fun _ wr=>∃pos:Nat,pos<=D.size/\wr=w.iter D pos/\rZ b D.data.toList=rZ b (D.data.toList.drop pos)) (fun _ wr=>D.size-wr.iterPos w.heap.size)
 case atStart=>exact⟨0,by omega,rfl,rfl⟩
 case round=>
  obtain⟨pos,hp,rfl,hok⟩:=hrel;have HOK:=aH hok;clear hok;by_cases hlt:pos<D.size
  ·have hnx:∀ty,(Instr.next (.pointer (some ⟨w.heap.size,0,none⟩)) true ty).run Tryz.prog (w.iter D pos)=_:=fun ty=>run_next_any w D pos ty hlt
   have HD:Hid (∀w,Calls Tryz.prog 242 #[.int .i32 (Utf8.decode D pos).1] w (bQ (.int .u64 (dJ D[pos]:Nat)) w)):=aH fun w=>oB D pos hlt w
   have HS:=aH (iZ D pos hlt);by_cases hd:dJ D[pos]<b
   ·have HW:=aH (lL D pos hlt (by omega));have HC:Hid (rZ b D.data.toList=rZ b (D.data.toList.drop (pos+1))):=aH (by rw[HOK.out,HS.out,okL_cons,decide_eq_true hd,Bool.true_and]);generalize dJ D[pos]=d at*
    go_wp2_with (first|(go_at_call 242;refine(HD.out _).mono ?_;rintro e w' ⟨rfl,rfl⟩))
    go_roundw
    case rel=>exact⟨pos+1,by omega,by rw[HW.out],HC.out⟩
    case measure=>rw[World.iterPos_iter,HW.out];simp;omega
   ·have HC:Hid (rZ b D.data.toList=false):=aH (by rw[HOK.out,HS.out,okL_cons,decide_eq_false hd,Bool.false_and]);generalize dJ D[pos]=d at*
    go_wp2_with (first|(go_at_call 242;refine(HD.out _).mono ?_;rintro e w' ⟨rfl,rfl⟩))
    go_ret;exact aB (by rw[HC.out,Bool.false_and]) ((Below.refl _ _).alloc (Nat.le_refl _) _)
  ·have hnx:∀ty,(Instr.next (.pointer (some ⟨w.heap.size,0,none⟩)) true ty).run Tryz.prog (w.iter D pos)=_:=fun ty=>run_next_end w D pos ty hlt
   have HC:Hid (rZ b D.data.toList=true):=aH (by rw[HOK.out,List.drop_eq_nil_of_le (by rw[HL.out];omega)];rfl);go_wp2;go_ret;refine aB ?_ ((Below.refl _ _).alloc (Nat.le_refl _) _);rw[HC.out,Bool.true_and,Lib.toList_data]
theorem mul_at (v b:Nat)(B:Int)(hB:B=b)(w:World)(hv:v<18446744073709551616)(hb:b<=16):
  Calls Tryz.prog 114 #[.int .u64 v,.int .u64 B] w (bQ (.tuple #[.int .u64 ((v*b/18446744073709551616:Nat):Int),.int .u64 ((v*b%18446744073709551616:Nat):Int)]) w):=by
 subst hB;exact(Tryz.bits_Mul64 v b hv (by omega) w).mono fun e w' h=>⟨h.1,h.2.symm⟩
theorem add_at (x y:Nat)(w:World):(callFunc 241 #[.int .u64 x,.int .u64 y,.int .u64 0]).run Tryz.prog w=
  .ok (.value (.tuple #[.int .u64 (((x+y)%18446744073709551616:Nat):Int),.int .u64 (((x+y)/18446744073709551616:Nat):Int)])) w:=by
 rw[run_callFunc_extern Tryz.func241 (by kernel_rfl) (by kernel_rfl) (by kernel_rfl) (e:=add64Entry) (by kernel_rfl),run_add64 x y 0 (by omega) (by omega) (by omega) (by omega)];simp only[Result.andThen];congr 5<;>omega
theorem jW {k l:IntKind}{a b:Int}{p:Int×Int}{w w':World}(h:p=(a,b))(hb:Below w.heap.size w w'):aP (two k l p) w (.returned (.tuple #[.int k a,.int l b])) w':=by subst h;exact⟨rfl,hb⟩
theorem trim_list (l:List UInt8)(h:Lib.hasPrefix l [48,120]=true):Lib.trimPrefix l [48,120]=l.drop 2:=by
 unfold Lib.trimPrefix;first|(rw[if_pos h];rfl)|simp[h]
def Jmp (w:World)(a:Act)(w':World):Prop:=Below w.heap.size w w'/\∃(u0 u1 u2 u3 u4 u5 u6 u7 u8 u9 u10 u11 u12 u13 u14 u15 u16 u17 u18 u19 u20 u21 u22 u23 u24 u25 u26 u27 u28 u29 u30 u31 u32 u33 u34 u35 u36 u37 u38 u39 u40 u41 u42 u43 u44 u45 u46 u47 u48 u49 u50 u51 u52:Value),a={ tmps:=#[u0,u1,u2,u3,u4,u5,u6,u7,u8,u9,u10,u11,u12,u13,u14,u15,u16,u17,u18,u19,u20,u21,u22,u23,u24,u25,u26,u27,u28,u29,u30,u31,u32,u33,u34,u35,u36,u37,u38,u39,u40,u41,u42,u43,u44,u45,u46,u47,u48,u49,u50,u51,u52],defers:=[] }
def VRel (b:Nat)(D:ByteArray)(o:Option Nat)(w1:World)(x:Value)(wr:World):Prop:=
 ∃pos n:Nat,pos<=D.size/\wr=w1.iter D pos/\x=.int .u64 n/\n<18446744073709551616/\vf b (D.data.toList.drop pos) n=o
theorem Value_16 (s D E:ByteArray)(w:World)(hE:D=E)
  (hC:∀w,Calls Tryz.prog 230 #[.string s,.string ⟨#[48,120]⟩] w (bQ (.tuple #[.string E,.bool true]) w)):
  Calls Tryz.prog 231 #[.string s] w (aP (two .u64 .i64 (mD 16 D.data.toList)) w):=by
 subst hE;have HC:=aH hC;clear hC;have HA:Hid (∀w,Calls Tryz.prog 240 #[.string D,.int .u64 16] w (aP (.bool (rZ 16 D.data.toList&&!D.data.toList.isEmpty)) w)):=aH fun w=>pR D 16 w (by omega)
 have HLen:=aH (pE D);by_cases hbad:D.data.toList=[]\/rZ 16 D.data.toList=false
 ·have HV:=aH (valD_bad hbad);have hv:(rZ 16 D.data.toList&&!D.data.toList.isEmpty)=false:=by rcases hbad with h|h<;>rw[h]<;>simp
  rw[hv]at HA;clear hbad hv;go_enter Tryz.func231,Tryz.ntmps231;go_wp2;go_step3;go_wp2_with (first|(go_at_call 230;((with_reducible refine(HC.out _).mono ?_);rintro e w' ⟨rfl,rfl⟩)))
  refine(HA.out _).mono ?_;rintro e w1 ⟨rfl,hb1⟩;have HB:=aH hb1;clear hb1;go_wp2;rw[Exit.noGoto_ret];go_ret2;exact jW (by rw[HV.out]) HB.out
 have hv:(rZ 16 D.data.toList&&!D.data.toList.isEmpty)=true:=by
  have h1:rZ 16 D.data.toList=true:=by cases h:rZ 16 D.data.toList<;>simp[h]at hbad⊢
  have h2:D.data.toList.isEmpty=false:=by rw[List.isEmpty_eq_false_iff];exact fun h=>hbad (.inl h)
  rw[h1,h2];rfl
 have HOK:Hid (rZ 16 D.data.toList=true):=aH (by simp at hv;exact hv.1);rw[hv]at HA;have HG:=aH hbad;clear hbad hv;cases ho:vf 16 D.data.toList 0 with
 |some z=>
  have HV:=aH (valD_some HG.out ho);have HO:=aH ho;clear ho;go_enter Tryz.func231,Tryz.ntmps231;go_wp2;go_step3;go_wp2_with (first|(go_at_call 230;((with_reducible refine(HC.out _).mono ?_);rintro e w' ⟨rfl,rfl⟩)))
  refine(HA.out _).mono ?_;rintro e w1 ⟨rfl,hb1⟩;have HB:=aH hb1;clear hb1;go_wp2;go_loopw [8,10,11,12,13,14] (fun x _ _ _ _ _ wr=>VRel 16 D (some z) w1 x wr) (fun _ _ _ _ _ _ wr=>D.size-wr.iterPos w1.heap.size)
  case atStart=>exact⟨0,0,by omega,rfl,rfl,by omega,HO.out⟩
  case round=>
   obtain⟨pos,n,hp,rfl,rfl,hn,hvf⟩:=hrel;have HF:=aH hvf;clear hvf;by_cases hlt:pos<D.size
   ·have hnx:∀ty,(Instr.next (.pointer (some ⟨w1.heap.size,0,none⟩)) true ty).run Tryz.prog (w1.iter D pos)=_:=fun ty=>run_next_any w1 D pos ty hlt
    have hdb:dJ D[pos]<16:=rY HOK.out pos (by rw[HLen.out];exact hlt);have HW:=aH (lL D pos hlt (by omega));have HD:Hid (∀w,Calls Tryz.prog 242 #[.int .i32 (Utf8.decode D pos).1] w (bQ (.int .u64 (dJ D[pos]:Nat)) w)):=aH fun w=>oB D pos hlt w
    have HS:=aH (iZ D pos hlt);have hst:n*16+dJ D[pos]<18446744073709551616:=by
     apply Classical.byContradiction;intro h;have h2:=HF.out;rw[HS.out,vf_stop h]at h2;cases h2
    have HF2:Hid (vf 16 (D.data.toList.drop (pos+1)) (n*16+dJ D[pos])=some z):=aH (by have h2:=HF.out;rwa[HS.out,vf_step hst]at h2);have HM:Hid (∀w,Calls Tryz.prog 114 #[.int .u64 n,.int .u64 16] w (bQ (.tuple #[.int .u64 0,.int .u64 ((n*16:Nat):Int)]) w)):=aH fun w=>by
     have h:=mul_at n 16 16 rfl w hn (by omega);rw[Nat.div_eq_of_lt (by omega),Nat.mod_eq_of_lt (by omega)]at h;exact h
    have hadd:∀w,(callFunc 241 #[.int .u64 ((n*16:Nat):Int),.int .u64 (dJ D[pos]:Nat),.int .u64 0]).run Tryz.prog w=.ok (.value (.tuple #[.int .u64 ((n*16+dJ D[pos]:Nat):Int),.int .u64 0])) w:=fun w=>by
     have h:=add_at (n*16) (dJ D[pos]) w;rw[Nat.div_eq_of_lt hst,Nat.mod_eq_of_lt hst]at h;exact h
    generalize dJ D[pos]=d at*
    generalize n*16+d=q at*
    generalize n*16=p at*
    go_wp2_with (first|(go_at_call 114;((with_reducible refine(HM.out _).mono ?_);rintro e w' ⟨rfl,rfl⟩))|(go_at_call 242;((with_reducible refine(HD.out _).mono ?_);rintro e w' ⟨rfl,rfl⟩)))
    go_roundw
    case rel=>exact⟨pos+1,q,by omega,by rw[HW.out],rfl,hst,HF2.out⟩
    case measure=>rw[World.iterPos_iter,HW.out];simp;omega
   ·have hnx:∀ty,(Instr.next (.pointer (some ⟨w1.heap.size,0,none⟩)) true ty).run Tryz.prog (w1.iter D pos)=_:=fun ty=>run_next_end w1 D pos ty hlt
    have HE:Hid (n=z):=aH (by
     have h2:=HF.out;rw[List.drop_eq_nil_of_le (by rw[HLen.out];omega)]at h2;exact Option.some.inj h2)
    go_wp2;rw[Exit.noGoto_ret];go_ret2;exact jW (by rw[HV.out,HE.out]) (HB.out.alloc HB.out.size _)
 |none=>
  have HV:=aH (valD_none HG.out ho);have HO:=aH ho;clear ho;go_enter Tryz.func231,Tryz.ntmps231;go_wp2;refine wp_scope_jumps 0 (fun a' w'=>Jmp w a' w') (fun _ _=>0) rfl ?_ ?_
  ·go_wp2_with (first|(go_at_call 230;((with_reducible refine(HC.out _).mono ?_);rintro e w' ⟨rfl,rfl⟩)))
   refine(HA.out _).mono ?_;rintro e w1 ⟨rfl,hb1⟩;have HB:=aH hb1;clear hb1;go_wp2;go_loopw [8,10,11,12,13,14] (fun x _ _ _ _ _ wr=>VRel 16 D none w1 x wr) (fun _ _ _ _ _ _ wr=>D.size-wr.iterPos w1.heap.size)
   case atStart=>exact⟨0,0,by omega,rfl,rfl,by omega,HO.out⟩
   case round=>
    obtain⟨pos,n,hp,rfl,rfl,hn,hvf⟩:=hrel;have HF:=aH hvf;clear hvf;by_cases hlt:pos<D.size
    ·have hnx:∀ty,(Instr.next (.pointer (some ⟨w1.heap.size,0,none⟩)) true ty).run Tryz.prog (w1.iter D pos)=_:=fun ty=>run_next_any w1 D pos ty hlt
     have hdb:dJ D[pos]<16:=rY HOK.out pos (by rw[HLen.out];exact hlt);have HW:=aH (lL D pos hlt (by omega));have HD:Hid (∀w,Calls Tryz.prog 242 #[.int .i32 (Utf8.decode D pos).1] w (bQ (.int .u64 (dJ D[pos]:Nat)) w)):=aH fun w=>oB D pos hlt w
     have HS:=aH (iZ D pos hlt);by_cases hst:n*16+dJ D[pos]<18446744073709551616
     ·have HF2:Hid (vf 16 (D.data.toList.drop (pos+1)) (n*16+dJ D[pos])=none):=aH (by have h2:=HF.out;rwa[HS.out,vf_step hst]at h2);have HM:Hid (∀w,Calls Tryz.prog 114 #[.int .u64 n,.int .u64 16] w (bQ (.tuple #[.int .u64 0,.int .u64 ((n*16:Nat):Int)]) w)):=aH fun w=>by
       have h:=mul_at n 16 16 rfl w hn (by omega);rw[Nat.div_eq_of_lt (by omega),Nat.mod_eq_of_lt (by omega)]at h;exact h
      have hadd:∀w,(callFunc 241 #[.int .u64 ((n*16:Nat):Int),.int .u64 (dJ D[pos]:Nat),.int .u64 0]).run Tryz.prog w=.ok (.value (.tuple #[.int .u64 ((n*16+dJ D[pos]:Nat):Int),.int .u64 0])) w:=fun w=>by
       have h:=add_at (n*16) (dJ D[pos]) w;rw[Nat.div_eq_of_lt hst,Nat.mod_eq_of_lt hst]at h;exact h
      generalize dJ D[pos]=d at*
      generalize n*16+d=q at*
      generalize n*16=p at*
      go_wp2_with (first|(go_at_call 114;((with_reducible refine(HM.out _).mono ?_);rintro e w' ⟨rfl,rfl⟩))|(go_at_call 242;((with_reducible refine(HD.out _).mono ?_);rintro e w' ⟨rfl,rfl⟩)))
      go_roundw
      case rel=>exact⟨pos+1,q,by omega,by rw[HW.out],rfl,hst,HF2.out⟩
      case measure=>rw[World.iterPos_iter,HW.out];simp;omega
     ·have HM:Hid (∀w,Calls Tryz.prog 114 #[.int .u64 n,.int .u64 16] w (bQ (.tuple #[.int .u64 ((n*16/18446744073709551616:Nat):Int),.int .u64 ((n*16%18446744073709551616:Nat):Int)]) w)):=aH fun w=>mul_at n 16 16 rfl w hn (by omega)
      have hadd:∀w,(callFunc 241 #[.int .u64 ((n*16%18446744073709551616:Nat):Int),.int .u64 (dJ D[pos]:Nat),.int .u64 0]).run Tryz.prog w=_:=fun w=>add_at _ _ w
      have hor:n*16/18446744073709551616≠0\/n*16/18446744073709551616=0/\(n*16%18446744073709551616+dJ D[pos])/18446744073709551616=1:=by omega
      clear hst hn;generalize dJ D[pos]=d at*
      generalize(n*16%18446744073709551616+d)/18446744073709551616=cy at*
      generalize(n*16%18446744073709551616+d)%18446744073709551616=sm at*
      generalize n*16%18446744073709551616=lo at*
      generalize n*16/18446744073709551616=hi at*
      rcases hor with h1|⟨rfl,rfl⟩
      ·have q1:((hi:Int) !=0)=true:=by rw[bne_iff_ne];omega
       clear h1;go_wp2_with (first|(go_at_call 114;((with_reducible refine(HM.out _).mono ?_);rintro e w' ⟨rfl,rfl⟩))|(go_at_call 242;((with_reducible refine(HD.out _).mono ?_);rintro e w' ⟨rfl,rfl⟩)))
       go_step3;exact⟨rfl,HB.out.alloc HB.out.size _,_,_,_,_,_,_,_,_,_,_,_,_,_,_,_,_,_,_,_,_,_,_,_,_,_,_,_,_,_,_,_,_,_,_,_,_,_,_,_,_,_,_,_,_,_,_,_,_,_,_,_,_,_,rfl⟩
      ·go_wp2_with (first|(go_at_call 114;((with_reducible refine(HM.out _).mono ?_);rintro e w' ⟨rfl,rfl⟩))|(go_at_call 242;((with_reducible refine(HD.out _).mono ?_);rintro e w' ⟨rfl,rfl⟩)))
       go_step3;exact⟨rfl,HB.out.alloc HB.out.size _,_,_,_,_,_,_,_,_,_,_,_,_,_,_,_,_,_,_,_,_,_,_,_,_,_,_,_,_,_,_,_,_,_,_,_,_,_,_,_,_,_,_,_,_,_,_,_,_,_,_,_,_,_,rfl⟩
    ·exfalso;have h2:=HF.out;rw[List.drop_eq_nil_of_le (by rw[HLen.out];omega)]at h2;cases h2
  ·rintro a' w' ⟨hb,u0,u1,u2,u3,u4,u5,u6,u7,u8,u9,u10,u11,u12,u13,u14,u15,u16,u17,u18,u19,u20,u21,u22,u23,u24,u25,u26,u27,u28,u29,u30,u31,u32,u33,u34,u35,u36,u37,u38,u39,u40,u41,u42,u43,u44,u45,u46,u47,u48,u49,u50,u51,u52,rfl⟩;have HB:=aH hb;clear hb;go_wp2;simp only[Exit.jump];go_ret2;exact jW (by rw[HV.out]) HB.out
theorem Value_10 (s D E:ByteArray)(w:World)(hE:D=s)
  (hC:∀w,Calls Tryz.prog 230 #[.string s,.string ⟨#[48,120]⟩] w (bQ (.tuple #[.string E,.bool false]) w)):
  Calls Tryz.prog 231 #[.string s] w (aP (two .u64 .i64 (mD 10 D.data.toList)) w):=by
 subst hE;have HC:=aH hC;clear hC;have HA:Hid (∀w,Calls Tryz.prog 240 #[.string D,.int .u64 10] w (aP (.bool (rZ 10 D.data.toList&&!D.data.toList.isEmpty)) w)):=aH fun w=>pR D 10 w (by omega)
 have HLen:=aH (pE D);by_cases hbad:D.data.toList=[]\/rZ 10 D.data.toList=false
 ·have HV:=aH (valD_bad hbad);have hv:(rZ 10 D.data.toList&&!D.data.toList.isEmpty)=false:=by rcases hbad with h|h<;>rw[h]<;>simp
  rw[hv]at HA;clear hbad hv;go_enter Tryz.func231,Tryz.ntmps231;go_wp2;go_step3;go_wp2_with (first|(go_at_call 230;((with_reducible refine(HC.out _).mono ?_);rintro e w' ⟨rfl,rfl⟩)))
  refine(HA.out _).mono ?_;rintro e w1 ⟨rfl,hb1⟩;have HB:=aH hb1;clear hb1;go_wp2;rw[Exit.noGoto_ret];go_ret2;exact jW (by rw[HV.out]) HB.out
 have hv:(rZ 10 D.data.toList&&!D.data.toList.isEmpty)=true:=by
  have h1:rZ 10 D.data.toList=true:=by cases h:rZ 10 D.data.toList<;>simp[h]at hbad⊢
  have h2:D.data.toList.isEmpty=false:=by rw[List.isEmpty_eq_false_iff];exact fun h=>hbad (.inl h)
  rw[h1,h2];rfl
 have HOK:Hid (rZ 10 D.data.toList=true):=aH (by simp at hv;exact hv.1);rw[hv]at HA;have HG:=aH hbad;clear hbad hv;cases ho:vf 10 D.data.toList 0 with
 |some z=>
  have HV:=aH (valD_some HG.out ho);have HO:=aH ho;clear ho;go_enter Tryz.func231,Tryz.ntmps231;go_wp2;go_step3;go_wp2_with (first|(go_at_call 230;((with_reducible refine(HC.out _).mono ?_);rintro e w' ⟨rfl,rfl⟩)))
  refine(HA.out _).mono ?_;rintro e w1 ⟨rfl,hb1⟩;have HB:=aH hb1;clear hb1;go_wp2;go_loopw [8,10,11,12,13,14] (fun x _ _ _ _ _ wr=>VRel 10 D (some z) w1 x wr) (fun _ _ _ _ _ _ wr=>D.size-wr.iterPos w1.heap.size)
  case atStart=>exact⟨0,0,by omega,rfl,rfl,by omega,HO.out⟩
  case round=>
   obtain⟨pos,n,hp,rfl,rfl,hn,hvf⟩:=hrel;have HF:=aH hvf;clear hvf;by_cases hlt:pos<D.size
   ·have hnx:∀ty,(Instr.next (.pointer (some ⟨w1.heap.size,0,none⟩)) true ty).run Tryz.prog (w1.iter D pos)=_:=fun ty=>run_next_any w1 D pos ty hlt
    have hdb:dJ D[pos]<10:=rY HOK.out pos (by rw[HLen.out];exact hlt);have HW:=aH (lL D pos hlt (by omega));have HD:Hid (∀w,Calls Tryz.prog 242 #[.int .i32 (Utf8.decode D pos).1] w (bQ (.int .u64 (dJ D[pos]:Nat)) w)):=aH fun w=>oB D pos hlt w
    have HS:=aH (iZ D pos hlt);have hst:n*10+dJ D[pos]<18446744073709551616:=by
     apply Classical.byContradiction;intro h;have h2:=HF.out;rw[HS.out,vf_stop h]at h2;cases h2
    have HF2:Hid (vf 10 (D.data.toList.drop (pos+1)) (n*10+dJ D[pos])=some z):=aH (by have h2:=HF.out;rwa[HS.out,vf_step hst]at h2);have HM:Hid (∀w,Calls Tryz.prog 114 #[.int .u64 n,.int .u64 10] w (bQ (.tuple #[.int .u64 0,.int .u64 ((n*10:Nat):Int)]) w)):=aH fun w=>by
     have h:=mul_at n 10 10 rfl w hn (by omega);rw[Nat.div_eq_of_lt (by omega),Nat.mod_eq_of_lt (by omega)]at h;exact h
    have hadd:∀w,(callFunc 241 #[.int .u64 ((n*10:Nat):Int),.int .u64 (dJ D[pos]:Nat),.int .u64 0]).run Tryz.prog w=.ok (.value (.tuple #[.int .u64 ((n*10+dJ D[pos]:Nat):Int),.int .u64 0])) w:=fun w=>by
     have h:=add_at (n*10) (dJ D[pos]) w;rw[Nat.div_eq_of_lt hst,Nat.mod_eq_of_lt hst]at h;exact h
    generalize dJ D[pos]=d at*
    generalize n*10+d=q at*
    generalize n*10=p at*
    go_wp2_with (first|(go_at_call 114;((with_reducible refine(HM.out _).mono ?_);rintro e w' ⟨rfl,rfl⟩))|(go_at_call 242;((with_reducible refine(HD.out _).mono ?_);rintro e w' ⟨rfl,rfl⟩)))
    go_roundw
    case rel=>exact⟨pos+1,q,by omega,by rw[HW.out],rfl,hst,HF2.out⟩
    case measure=>rw[World.iterPos_iter,HW.out];simp;omega
   ·have hnx:∀ty,(Instr.next (.pointer (some ⟨w1.heap.size,0,none⟩)) true ty).run Tryz.prog (w1.iter D pos)=_:=fun ty=>run_next_end w1 D pos ty hlt
    have HE:Hid (n=z):=aH (by
     have h2:=HF.out;rw[List.drop_eq_nil_of_le (by rw[HLen.out];omega)]at h2;exact Option.some.inj h2)
    go_wp2;rw[Exit.noGoto_ret];go_ret2;exact jW (by rw[HV.out,HE.out]) (HB.out.alloc HB.out.size _)
 |none=>
  have HV:=aH (valD_none HG.out ho);have HO:=aH ho;clear ho;go_enter Tryz.func231,Tryz.ntmps231;go_wp2;refine wp_scope_jumps 0 (fun a' w'=>Jmp w a' w') (fun _ _=>0) rfl ?_ ?_
  ·go_wp2_with (first|(go_at_call 230;((with_reducible refine(HC.out _).mono ?_);rintro e w' ⟨rfl,rfl⟩)))
   refine(HA.out _).mono ?_;rintro e w1 ⟨rfl,hb1⟩;have HB:=aH hb1;clear hb1;go_wp2;go_loopw [8,10,11,12,13,14] (fun x _ _ _ _ _ wr=>VRel 10 D none w1 x wr) (fun _ _ _ _ _ _ wr=>D.size-wr.iterPos w1.heap.size)
   case atStart=>exact⟨0,0,by omega,rfl,rfl,by omega,HO.out⟩
   case round=>
    obtain⟨pos,n,hp,rfl,rfl,hn,hvf⟩:=hrel;have HF:=aH hvf;clear hvf;by_cases hlt:pos<D.size
    ·have hnx:∀ty,(Instr.next (.pointer (some ⟨w1.heap.size,0,none⟩)) true ty).run Tryz.prog (w1.iter D pos)=_:=fun ty=>run_next_any w1 D pos ty hlt
     have hdb:dJ D[pos]<10:=rY HOK.out pos (by rw[HLen.out];exact hlt);have HW:=aH (lL D pos hlt (by omega));have HD:Hid (∀w,Calls Tryz.prog 242 #[.int .i32 (Utf8.decode D pos).1] w (bQ (.int .u64 (dJ D[pos]:Nat)) w)):=aH fun w=>oB D pos hlt w
     have HS:=aH (iZ D pos hlt);by_cases hst:n*10+dJ D[pos]<18446744073709551616
     ·have HF2:Hid (vf 10 (D.data.toList.drop (pos+1)) (n*10+dJ D[pos])=none):=aH (by have h2:=HF.out;rwa[HS.out,vf_step hst]at h2);have HM:Hid (∀w,Calls Tryz.prog 114 #[.int .u64 n,.int .u64 10] w (bQ (.tuple #[.int .u64 0,.int .u64 ((n*10:Nat):Int)]) w)):=aH fun w=>by
       have h:=mul_at n 10 10 rfl w hn (by omega);rw[Nat.div_eq_of_lt (by omega),Nat.mod_eq_of_lt (by omega)]at h;exact h
      have hadd:∀w,(callFunc 241 #[.int .u64 ((n*10:Nat):Int),.int .u64 (dJ D[pos]:Nat),.int .u64 0]).run Tryz.prog w=.ok (.value (.tuple #[.int .u64 ((n*10+dJ D[pos]:Nat):Int),.int .u64 0])) w:=fun w=>by
       have h:=add_at (n*10) (dJ D[pos]) w;rw[Nat.div_eq_of_lt hst,Nat.mod_eq_of_lt hst]at h;exact h
      generalize dJ D[pos]=d at*
      generalize n*10+d=q at*
      generalize n*10=p at*
      go_wp2_with (first|(go_at_call 114;((with_reducible refine(HM.out _).mono ?_);rintro e w' ⟨rfl,rfl⟩))|(go_at_call 242;((with_reducible refine(HD.out _).mono ?_);rintro e w' ⟨rfl,rfl⟩)))
      go_roundw
      case rel=>exact⟨pos+1,q,by omega,by rw[HW.out],rfl,hst,HF2.out⟩
      case measure=>rw[World.iterPos_iter,HW.out];simp;omega
     ·have HM:Hid (∀w,Calls Tryz.prog 114 #[.int .u64 n,.int .u64 10] w (bQ (.tuple #[.int .u64 ((n*10/18446744073709551616:Nat):Int),.int .u64 ((n*10%18446744073709551616:Nat):Int)]) w)):=aH fun w=>mul_at n 10 10 rfl w hn (by omega)
      have hadd:∀w,(callFunc 241 #[.int .u64 ((n*10%18446744073709551616:Nat):Int),.int .u64 (dJ D[pos]:Nat),.int .u64 0]).run Tryz.prog w=_:=fun w=>add_at _ _ w
      have hor:n*10/18446744073709551616≠0\/n*10/18446744073709551616=0/\(n*10%18446744073709551616+dJ D[pos])/18446744073709551616=1:=by omega
      clear hst hn;generalize dJ D[pos]=d at*
      generalize(n*10%18446744073709551616+d)/18446744073709551616=cy at*
      generalize(n*10%18446744073709551616+d)%18446744073709551616=sm at*
      generalize n*10%18446744073709551616=lo at*
      generalize n*10/18446744073709551616=hi at*
      rcases hor with h1|⟨rfl,rfl⟩
      ·have q1:((hi:Int) !=0)=true:=by rw[bne_iff_ne];omega
       clear h1;go_wp2_with (first|(go_at_call 114;((with_reducible refine(HM.out _).mono ?_);rintro e w' ⟨rfl,rfl⟩))|(go_at_call 242;((with_reducible refine(HD.out _).mono ?_);rintro e w' ⟨rfl,rfl⟩)))
       go_step3;exact⟨rfl,HB.out.alloc HB.out.size _,_,_,_,_,_,_,_,_,_,_,_,_,_,_,_,_,_,_,_,_,_,_,_,_,_,_,_,_,_,_,_,_,_,_,_,_,_,_,_,_,_,_,_,_,_,_,_,_,_,_,_,_,_,rfl⟩
      ·go_wp2_with (first|(go_at_call 114;((with_reducible refine(HM.out _).mono ?_);rintro e w' ⟨rfl,rfl⟩))|(go_at_call 242;((with_reducible refine(HD.out _).mono ?_);rintro e w' ⟨rfl,rfl⟩)))
       go_step3;exact⟨rfl,HB.out.alloc HB.out.size _,_,_,_,_,_,_,_,_,_,_,_,_,_,_,_,_,_,_,_,_,_,_,_,_,_,_,_,_,_,_,_,_,_,_,_,_,_,_,_,_,_,_,_,_,_,_,_,_,_,_,_,_,_,rfl⟩
    ·exfalso;have h2:=HF.out;rw[List.drop_eq_nil_of_le (by rw[HLen.out];omega)]at h2;cases h2
  ·rintro a' w' ⟨hb,u0,u1,u2,u3,u4,u5,u6,u7,u8,u9,u10,u11,u12,u13,u14,u15,u16,u17,u18,u19,u20,u21,u22,u23,u24,u25,u26,u27,u28,u29,u30,u31,u32,u33,u34,u35,u36,u37,u38,u39,u40,u41,u42,u43,u44,u45,u46,u47,u48,u49,u50,u51,u52,rfl⟩;have HB:=aH hb;clear hb;go_wp2;simp only[Exit.jump];go_ret2;exact jW (by rw[HV.out]) HB.out
theorem mP (s:ByteArray)(w:World):
  Calls Tryz.prog 231 #[.string s] w (aP (two .u64 .i64 (lM s.data.toList)) w):=by
 by_cases hp:Lib.hasPrefix s.data.toList [48,120]=true
 ·have hS:lM s.data.toList=mD 16 (⟨(s.data.toList.drop 2).toArray⟩:ByteArray).data.toList:=by unfold lM;rw[if_pos hp]
  rw[hS];exact Value_16 s _ _ w rfl fun w=>(Tryz.strings_CutPrefix s ⟨#[48,120]⟩ w).mono fun e w' h=>⟨by
    have h1:=h.1;rw[show(⟨#[48,120]⟩:ByteArray).data.toList=[48,120]from rfl,trim_list _ hp,hp]at h1;exact h1,h.2.symm⟩
 ·have hp':Lib.hasPrefix s.data.toList [48,120]=false:=by simpa using hp
  have hS:lM s.data.toList=mD 10 s.data.toList:=by unfold lM;rw[if_neg hp]
  rw[hS];exact Value_10 s s _ w rfl fun w=>(Tryz.strings_CutPrefix s ⟨#[48,120]⟩ w).mono fun e w' h=>⟨by
    have h1:=h.1;rw[show(⟨#[48,120]⟩:ByteArray).data.toList=[48,120]from rfl,hp']at h1;exact h1,h.2.symm⟩
theorem signS1 {v:Int}(h:v<=9223372036854775808):lN true v=(-v,0):=by unfold lN;rw[if_pos rfl,if_pos h]
theorem signS2 {v:Int}(h:¬v<=9223372036854775808):lN true v=(0,4):=by unfold lN;rw[if_pos rfl,if_neg h]
theorem signS3 {v:Int}(h:v<=9223372036854775807):lN false v=(v,0):=by unfold lN;rw[if_neg (by decide),if_pos h]
theorem signS4 {v:Int}(h:¬v<=9223372036854775807):lN false v=(0,4):=by unfold lN;rw[if_neg (by decide),if_neg h]
theorem neg_wrap {v:Int}(h0:0<=v)(h:v<=9223372036854775808):IntKind.i64.wrap (IntKind.u64.wrap (-v))= -v:=by rw[IntKind.wrap_u64,IntKind.wrap_i64];omega
theorem Signed_any (m:Bool)(v:Int)(w:World)(h0:0<=v)(h1:v<18446744073709551616):
  Calls Tryz.prog 215 #[.bool m,.int .u64 v] w (bQ (two .i64 .i64 (lN m v)) w):=by
 cases m
 ·by_cases c:v<=9223372036854775807
  ·have H:=aH (signS3 c);go_enter Tryz.func215,Tryz.ntmps215;go_wp2;go_ret2;exact bI H.out
  ·have H:=aH (signS4 c);go_enter Tryz.func215,Tryz.ntmps215;go_wp2;go_ret2;exact bI H.out
 ·by_cases c:v<=9223372036854775808
  ·have H:=aH (signS1 c);have HW:=aH (neg_wrap h0 c);go_enter Tryz.func215,Tryz.ntmps215;go_wp2;go_ret2;exact bI (H.out.trans (by first|rfl|rw[HW.out]|(congr 1;unfold wrap64;rw[IntKind.wrap_u64];omega)|(congr 1;unfold wrap64;omega)))
  ·have H:=aH (signS2 c);go_enter Tryz.func215,Tryz.ntmps215;go_wp2;go_ret2;exact bI H.out
abbrev nD (w:World):Prop:=Lib.TabIs Tryz.prog w "internal/strconv.uint64pow10" .u64 Lib.pow10Tab
theorem arr24:Tryz.prog.arrayLen 277=24:=by kernel_rfl
theorem fmt10_any (u:Nat)(w:World)(hu64:u<18446744073709551616)(hT:nD w):
  Calls Tryz.prog 246 #[.int .u64 u,.int .i64 10] w (aP (.string ⟨(Lib.decDigits u).toArray⟩) w):=by
 by_cases hs:u<100
 ·have HS:Hid (∀w,Calls Tryz.prog 247 #[.int .i64 u] w (bQ (.string ⟨(Lib.decDigits u).toArray⟩) w)):=aH fun w=>(Tryz.internal_strconv_small u hs w).mono fun e w' h=>⟨h.1,h.2.symm⟩
  clear hT;go_enter Tryz.func246,Tryz.ntmps246;go_wp2_with (first|(go_at_call 247;((with_reducible refine(HS.out _).mono ?_);rintro e w' ⟨rfl,rfl⟩)))
  go_ret;exact⟨rfl,Below.refl _ _⟩
 ·have hu1:1<=u:=by omega
  have hnd20:Lib.nDigits u<=20:=by have:=Lib.numDigits_eq u hu1 hu64;split at this<;>omega
  have hsl:∀W,(Instr.sliceAt 277 (.pointer (some ⟨w.heap.size,0,none⟩)) none (some (.int .i64 (Lib.nDigits u:Int))) none).run Tryz.prog W=.ok (.slice (some ⟨w.heap.size,0,none⟩) (Lib.nDigits u) 24) W:=fun W=>by
   rw[run_sliceAt_array_h W 277 ⟨w.heap.size,0,none⟩ (by kernel_rfl) .i64 (Lib.nDigits u:Int) (by omega) (by rw[arr24];omega)];rw[arr24];rfl
  have hH0:=Lib.holds_zero0 w 277 (Lib.nDigits u) (by omega);have hfmt:=Tryz.internal_strconv_formatBase10 w.heap.size 0 24 u (Array.replicate (Lib.nDigits u) 0) (w.alloc (.cells Lib.zeros24 277)) hH0 (by rw[Array.size_replicate];exact Lib.lt_pow_nDigits u) hu64 (by rw[Array.size_replicate];omega);rw[Array.size_replicate]at hfmt;have HH0:=aH hH0;have HF:=aH hfmt;have HN:Hid (∀w,nD w->Calls Tryz.prog 248 #[.int .u64 u] w (bQ (.int .i64 (Lib.nDigits u:Nat)) w)):=aH fun w h=>(Tryz.internal_strconv_numDigits u hu1 hu64 w h).mono fun e w' h=>⟨h.1,h.2.symm⟩
  have HT:=aH hT;have hu100:100<=u:=by omega
  clear hH0 hfmt hT hs hu1;go_enter Tryz.func246,Tryz.ntmps246;go_wp2_with (first|(go_at_call 248;((with_reducible refine(HN.out _ (Lib.tabIs_alloc HT.out _)).mono ?_);rintro e w' ⟨rfl,rfl⟩)))
  go_at_call 249;refine HF.out.mono ?_;rintro e w' ⟨rfl,k,v',dk,rfl,hF⟩;have hcv:(convert 118 9 (.slice (some ⟨w.heap.size,0,none⟩) (Lib.nDigits u) 24)).run Tryz.prog ((putRow (fun(b:UInt8)=>Value.int .u8 (b.toNat:Int)) (w.alloc (.cells Lib.zeros24 277)) w.heap.size 0 dk).drewN k)=.ok (.string ⟨(Lib.decDigits u).toArray⟩) ((putRow (fun(b:UInt8)=>Value.int .u8 (b.toNat:Int)) (w.alloc (.cells Lib.zeros24 277)) w.heap.size 0 dk).drewN k):=by
   have h:=run_convert_bytes_back (P:=Tryz.prog) ((putRow (fun(b:UInt8)=>Value.int .u8 (b.toNat:Int)) (w.alloc (.cells Lib.zeros24 277)) w.heap.size 0 dk).drewN k) 118 9 5 ⟨w.heap.size,0,none⟩ 24 (Lib.decDigits u) Tryz.underlying118 Tryz.underlying5 Tryz.underlying9 (fun j hj=>by
    rw[Lib.row_is_numeral hF j hj,Lib.add_plain,World.cell?_drewN];exact cell?_putRow (fun(b:UInt8)=>Value.int .u8 (b.toNat:Int)) _ w.heap.size 0 _ dk HH0.out (by rw[hF.size,Array.size_replicate]) j (by rw[hF.size];rw[Lib.decDigits_length]at hj;exact hj))
   rw[Lib.decDigits_length]at h;exact h
  have hnx2:Below w.heap.size w ((putRow (fun(b:UInt8)=>Value.int .u8 (b.toNat:Int)) (w.alloc (.cells Lib.zeros24 277)) w.heap.size 0 dk).drewN k):=by
   obtain⟨os,eo⟩:=Lib.fin_at w (.cells Lib.zeros24 277) dk k 0;rw[eo];exact Lib.below_grow _ w (Nat.le_refl _) k os
  have HB2:=aH hnx2;clear hnx2;go_wp2;go_ret;exact⟨rfl,HB2.out⟩
def dgB (d:Nat):UInt8:=UInt8.ofNat (if d<10 then 48+d else 87+d)
def digL (b u:Nat):List UInt8:=if h:u<b\/b<2 then [dgB u]else digL b (u/b)++ [dgB (u%b)]
termination_by u
decreasing_by exact Nat.div_lt_self (by omega) (by omega)
theorem qN {b u:Nat}(h:u<b):digL b u=[dgB u]:=by rw[digL,dif_pos (.inl h)]
theorem digL_big {b u:Nat}(h:b<=u)(hb:2<=b):digL b u=digL b (u/b)++ [dgB (u%b)]:=by rw[digL,dif_neg (by omega)]
theorem decDigits_digL (u:Nat):Lib.decDigits u=digL 10 u:=by
 induction u using Nat.strongRecOn with
 |_ u ih=>
  by_cases h:u<10
  ·rw[qN h,Lib.decDigits,dif_pos h];simp[dgB,h]
  ·rw[digL_big (by omega) (by omega),Lib.decDigits,dif_neg h,ih (u/10) (by omega)];have:u%10<10:=Nat.mod_lt _ (by decide);simp[dgB,this]
def textB (u:Nat):ByteArray:=⟨(digL 10 u).toArray⟩
theorem Text_any (u:Nat)(w:World)(hu:u<18446744073709551616)(hT:nD w):
  Calls Tryz.prog 232 #[.int .u64 u] w (aP (.string (textB u)) w):=by
 have HF:Hid (Calls Tryz.prog 246 #[.int .u64 u,.int .i64 10] w (aP (.string (textB u)) w)):=aH (by
  have:=fmt10_any u w hu hT;rwa[decDigits_digL]at this)
 clear hT;have HG:Hid (Calls Tryz.prog 243 #[.int .u64 u,.int .i64 10] w (aP (.string (textB u)) w)):=aH (by
  go_enter Tryz.func243,Tryz.ntmps243;go_wp2_with fail
  refine HF.out.mono ?_;rintro e w1 ⟨rfl,hb⟩;have HB:=aH hb;clear hb;go_wp2;go_ret;exact⟨rfl,HB.out⟩)
 go_enter Tryz.func232,Tryz.ntmps232;go_wp2_with fail
 refine HG.out.mono ?_;rintro e w1 ⟨rfl,hb⟩;have HB:=aH hb;clear hb;go_wp2;go_ret;exact⟨rfl,HB.out⟩
end
section
open Go.ChangeShapes Go.WideShapes Go.Deep Go.RowKit
def eN (r:Int):Bool:=(decide (97<=r) && decide (r<=122)) || (decide (65<=r) && decide (r<=90)) || r == 95 || r == 46 || r == 36
def digI (r:Int):Bool:=decide (48<=r) && decide (r<=57)
def wordR (r:Nat):Bool:=eN r||digI r
theorem wordR_lt {r:Nat}(h:wordR r=true):r<128:=by
 unfold wordR eN digI at h;simp only[Bool.or_eq_true,Bool.and_eq_true,decide_eq_true_eq,beq_iff_eq]at h;omega
theorem lt_of_block {w:World}{k:Nat}{o:Obj}(h:w.heap[k]?=some o):k<w.heap.size:=(gH h).1
abbrev KP (p:Nat)(w w':World):Prop:=w.grownBy w' (some p)
theorem KP.of_below {p:Nat}{w w':World}(h:Below w.heap.size w w'):KP p w w':=⟨h.os,h.tape,h.output,h.size,fun k hk _=>h.block k hk⟩
theorem KP.step (p:Nat)(w:World)(o:Nat)(v:Value):KP p w (w.setCell ⟨p,o,none⟩ v):=⟨rfl,rfl,rfl,by simp[World.setCell],fun k hk hn=>Below.heap_setCell _ _ _ _ (fun e=>hn (by rw[e]))⟩
theorem KP.refl (p:Nat)(w:World):KP p w w:=World.grownBy.refl _ _
theorem gF (x:Int)(w:World):Calls Tryz.prog 165 #[.int .i64 x] w (bQ (.bool (eN x)) w):=by
 go_enter Tryz.func165,Tryz.ntmps165;go_wp2;all_goals
  go_ret;refine bO ?_;unfold eN;first|(simp_all;done)|(simp_all;omega)|(rw[Bool.eq_iff_iff];simp;omega)
theorem nY (x:Int)(w:World):Calls Tryz.prog 166 #[.int .i64 x] w (bQ (.bool (digI x)) w):=by
 go_enter Tryz.func166,Tryz.ntmps166;go_wp2;all_goals
  go_ret;refine bO ?_;unfold digI;first|(simp_all;done)|(simp_all;omega)|(rw[Bool.eq_iff_iff];simp;omega)
def fR (b:UInt8):Bool:=wordR b.toNat
def cN (l:List UInt8):Bool:=match l with | []=>false | b :: t=>decide (l.length<=31) && eN (b.toNat:Int) && l.all fR
theorem wordB_high {b:UInt8}(h:128<=b.toNat):fR b=false:=by
 cases hb:fR b with
 |false=>rfl
 |true=>have:=wordR_lt hb;omega
theorem word_high {r:Int}(h:128<=r):eN r=false/\digI r=false:=by
 unfold eN digI;simp only[Bool.or_eq_false_iff,Bool.and_eq_false_iff,decide_eq_false_iff_not,beq_eq_false_iff_ne,ne_eq];omega
theorem jI {s:ByteArray}{pos:Nat}(h:pos<s.size):s.data.toList.drop pos=s[pos] :: s.data.toList.drop (pos+1):=by
 have h2:pos<s.data.toList.length:=by simpa using h
 rw[eW h2];rfl
theorem IsWord_any (s:ByteArray)(hs:s.size<=maxLen)(w:World):Calls Tryz.prog 136 #[.string s] w (aP (.bool (cN s.data.toList)) w):=by
 have hlen:s.data.toList.length=s.size:=by simp
 have hs9:(s.size:Int)<=9223372036854775807:=by unfold maxLen at hs;omega
 by_cases h0:s.size<1
 ·have h0z:(s.size:Int)<1:=by omega
  have HE:Hid (cN s.data.toList=false):=aH (by
   have:s.data.toList=[]:=List.length_eq_zero_iff.1 (by omega);rw[this];rfl)
  clear hs hlen h0;go_enter Tryz.func136,Tryz.ntmps136;go_wp2;go_ret;exact aB HE.out.symm (Below.refl _ _)
 obtain⟨b,t,hbt⟩:∃b t,s.data.toList=b :: t:=by
  cases h:s.data.toList with
  |nil=>rw[h]at hlen;simp at hlen;omega
  |cons b t=>exact⟨b,t,rfl⟩
 by_cases h31:31<s.size
 ·have h31z:(31:Int)<(s.size:Int):=by omega
  have h0z:¬(s.size:Int)<1:=by omega
  have HE:Hid (cN s.data.toList=false):=aH (by
   rw[hbt]at hlen⊢;unfold cN;simp only;rw[decide_eq_false (by omega)];rfl)
  clear hs hlen h0 h31 hbt;go_enter Tryz.func136,Tryz.ntmps136;go_wp2;go_ret;exact aB HE.out.symm (Below.refl _ _)
 have h31z:¬(31:Int)<(s.size:Int):=by omega
 have h0z:¬(s.size:Int)<1:=by omega
 have h0s:0<s.size:=by omega
 have hb0:s[0]=b:=by
  have:=jI h0s;rw[List.drop_zero,hbt]at this;simp only[List.cons.injEq]at this;exact this.1.symm
 have hE:cN s.data.toList=(eN (b.toNat:Int)&&s.data.toList.all fR):=by
  rw[hbt]at hlen⊢;unfold cN;simp only;rw[decide_eq_true (by omega),Bool.true_and]
 have HE:=aH hE;have hne:¬s.toList=[]:=fun h=>by
  have:=congrArg List.length h;rw[ByteArray.toList_eq,hlen]at this;simp only[List.length_nil]at this;omega
 have hne2:(0:Int)<(s.size:Int):=by omega
 obtain⟨B,hB⟩:=aE b.toNat;have hBl:B<256:=by rw[hB];exact b.toNat_lt
 have hi64:IntKind.i64.wrap ((s[0].toNat:Nat):Int)=(B:Int):=by rw[hb0,<-hB,IntKind.wrap_i64];omega
 have hi64':IntKind.i64.wrap (B:Int)=(B:Int):=by rw[IntKind.wrap_i64];omega
 have hB0:s[0].toNat=B:=by rw[hb0,hB]
 have HL:=aH hlen;rw[<-hB]at HE;clear hs hlen h0 h31 hbt hb0 hE hB hBl;cases c:eN (B:Int)
 ·rw[c,Bool.false_and]at HE;go_enter Tryz.func136,Tryz.ntmps136;go_wp2_with fail
  refine(gF _ _).mono ?_;rintro e w' ⟨rfl,rfl⟩;go_wp2;go_ret;exact aB HE.out.symm (Below.refl _ _)
 ·rw[c,Bool.true_and]at HE;go_enter Tryz.func136,Tryz.ntmps136;go_wp2_with fail
  refine(gF _ _).mono ?_;rintro e w' ⟨rfl,rfl⟩;go_wp2;clear hne hne2 hi64 hi64' hB0 h0z h31z;go_loopg [] (s.size) (fun k wl=>∃pos:Nat,wl=w.iter s pos/\Hid (s.data.toList.all fR=(s.data.toList.drop pos).all fR)/\Hid (k=s.size-pos))
  case atStart=>exact⟨0,rfl,aH (by rw[List.drop_zero]),aH rfl⟩
  case round=>
   obtain⟨pos,rfl,HA,HK⟩:=hrel;by_cases hp:pos<s.size
   ·obtain⟨x,hx⟩:=aE (s[pos]);have hd:=jI hp;rw[<-hx]at hd;by_cases ha:x.toNat<128
    ·obtain⟨r,hr⟩:=aE x.toNat;have hnx:∀ty,(Instr.next (.pointer (some ⟨w.heap.size,0,none⟩)) true ty).run Tryz.prog (w.iter s pos)=.ok (.tuple #[.bool true,.int .i64 pos,.int .i32 (r:Int)]) (w.iter s (pos+1)):=fun ty=>by
      have:=run_next_ascii (P:=Tryz.prog) w s pos ty hp (by rw[<-hx];exact ha);rw[this,<-hx,hr]
     have hw:IntKind.i64.wrap (r:Int)=r:=by rw[IntKind.wrap_i64];omega
     have HW:Hid (fR x=(eN (r:Int)||digI (r:Int))):=aH (by unfold fR wordR;rw[hr]);have HD:=aH hd;have HP:=aH hp;clear hx hd ha hr hp;cases c1:eN (r:Int)
     ·cases c2:digI (r:Int)
      ·have HF:Hid (s.data.toList.all fR=false):=aH (by rw[HA.out,HD.out,List.all_cons,HW.out,c1,c2];rfl);go_wp2_with fail
       refine(gF _ _).mono ?_;rintro e w' ⟨rfl,rfl⟩;go_wp2_with fail
       refine(nY _ _).mono ?_;rintro e w' ⟨rfl,rfl⟩;go_wp2;go_ret;exact aB (by rw[HE.out,HF.out]) ((Below.refl _ _).alloc (Nat.le_refl _) _)
      ·have HF:Hid (s.data.toList.all fR=(s.data.toList.drop (pos+1)).all fR):=aH (by rw[HA.out,HD.out,List.all_cons,HW.out,c1,c2];rfl);go_wp2_with fail
       refine(gF _ _).mono ?_;rintro e w' ⟨rfl,rfl⟩;go_wp2_with fail
       refine(nY _ _).mono ?_;rintro e w' ⟨rfl,rfl⟩;go_wp2;go_roundg (s.size-(pos+1))
       case measure=>have:=HP.out;have:=HK.out;omega
       case rel=>exact⟨pos+1,rfl,HF,aH rfl⟩
     ·have HF:Hid (s.data.toList.all fR=(s.data.toList.drop (pos+1)).all fR):=aH (by rw[HA.out,HD.out,List.all_cons,HW.out,c1];rfl);go_wp2_with fail
      refine(gF _ _).mono ?_;rintro e w' ⟨rfl,rfl⟩;go_wp2;go_roundg (s.size-(pos+1))
      case measure=>have:=HP.out;have:=HK.out;omega
      case rel=>exact⟨pos+1,rfl,HF,aH rfl⟩
    ·have hhi:=decode_high s pos hp (by rw[<-hx];omega);obtain⟨r,hr⟩:=aE ((Utf8.decode s pos).1);have hrl:r<=1114111:=by rw[hr];exact Lib.rune_le s pos
     obtain⟨q,hq⟩:=aE (pos+(Utf8.decode s pos).2);have hnx:∀ty,(Instr.next (.pointer (some ⟨w.heap.size,0,none⟩)) true ty).run Tryz.prog (w.iter s pos)=.ok (.tuple #[.bool true,.int .i64 pos,.int .i32 (r:Nat)]) (w.iter s q):=fun ty=>by
      have:=run_next_any (P:=Tryz.prog) w s pos ty hp;rw[this,hr,hq]
     rw[<-hr]at hhi;have hw:IntKind.i64.wrap (r:Int)=r:=by rw[IntKind.wrap_i64];omega
     have hwh:=word_high (r:=(r:Int)) (by omega);have c1:=hwh.1;have c2:=hwh.2;have HF:Hid (s.data.toList.all fR=false):=aH (by rw[HA.out,hd,List.all_cons,wordB_high (by omega)];rfl);clear hx hd ha hr hq hhi hrl hwh;go_wp2_with fail
     refine(gF _ _).mono ?_;rintro e w' ⟨rfl,rfl⟩;go_wp2_with fail
     refine(nY _ _).mono ?_;rintro e w' ⟨rfl,rfl⟩;go_wp2;go_ret;exact aB (by rw[HE.out,HF.out]) ((Below.refl _ _).alloc (Nat.le_refl _) _)
   ·have hnx:∀ty,(Instr.next (.pointer (some ⟨w.heap.size,0,none⟩)) true ty).run Tryz.prog (w.iter s pos)=_:=fun ty=>run_next_end w s pos ty hp
    have HF:Hid (s.data.toList.all fR=true):=aH (by
     rw[HA.out,List.drop_eq_nil_of_le (by have:=HL.out;omega)];rfl)
    clear hp;go_wp2;go_ret;exact aB (by rw[HE.out,HF.out]) ((Below.refl _ _).alloc (Nat.le_refl _) _)
theorem KP.trans' {p:Nat}{a b c:World}(h:KP p a b)(k:KP p b c):KP p a c:=h.trans k
abbrev cS (k:Int):Prop := -9223372036854775808<=k/\k<=9223372036854775807
theorem KP.below {p B:Nat}{w u u':World}(h:KP p w u)(hb:Below B u u')(hB:w.heap.size<=B):KP p w u':=
 ⟨hb.os.trans h.os,hb.tape.trans h.tape,hb.output.trans h.output,Nat.le_trans h.size hb.size,fun k hk hn=>(hb.block k (by omega)).trans (h.block k hk hn)⟩
theorem KP.to_below {w u u':World}{p:Nat}(hw:Below w.heap.size w u)(h:KP p u u')(hp:w.heap.size<=p):Below w.heap.size w u':=
 hw.trans ⟨h.os,h.tape,h.output,h.size,fun k hk=>h.block k (by have:=hw.size;omega) (by simp;omega)⟩
theorem set3 {w:World}{X:Nat}{a b c x y z:Value}{T:TypeId}(h:w.heap[X]?=some (.cells #[a,b,c] T (0,0))):
  (((w.setCell ⟨X,0,none⟩ x).setCell ⟨X,1,none⟩ y).setCell ⟨X,2,none⟩ z).heap[X]?=some (.cells #[x,y,z] T (0,0)):=by
 unfold World.setCell;simp[h,Array.getElem?_modify]
theorem kO {a b:ByteArray}(h:a.data.toList=b.data.toList):a=b:=by
 cases a;cases b
 congr 1;exact Array.ext' h
def RTab (w:World):Prop:=True
theorem RTab.next {w w':World}(h:RTab w)(hb:Below w.heap.size w w'):RTab w':=trivial
end
section
open Go.ChangeShapes Go.WideShapes Go.Deep Go.RowKit
open Go.ChangeShapes Go.WideShapes Go.Deep Go.RowKit
def gO (n:Nat):List UInt8:=if n<10 then [UInt8.ofNat (48+n)]else [UInt8.ofNat (48+n/10),UInt8.ofNat (48+n%10)]
theorem decL_dig {n:Nat}(h:n<100):digL 10 n=gO n:=by
 unfold gO;by_cases c:n<10
 ·rw[qN c,if_pos c];unfold dgB;rw[if_pos c]
 ·rw[digL_big (by omega) (by decide),qN (by omega),if_neg c];unfold dgB;rw[if_pos (by omega),if_pos (by omega)];rfl
theorem decL_val:∀n:Fin 31,lM (gO n.val)=((n.val:Int),0):=by decide+kernel
theorem decL_inj:∀n m:Fin 31,gO n.val=gO m.val->n=m:=by decide+kernel
def hO (n:Nat):List UInt8:=120 :: gO n
abbrev spB:List UInt8:=[115,112]
abbrev xzB:List UInt8:=[120,122,114]
def fU (s:List UInt8):Int×Bool×Int:=
 if s=spB then(31,true,0)else if s=xzB then(31,false,0)else
  match (List.range 31).find? (fun n=>decide (s=hO n)) with
  |some n=>((n:Int),false,0)
  |none=>(0,false,3)
def bP (n:Int)(st:Bool):List UInt8×Int:=
 if n<0\/n>31\/(st=true/\n≠31)then([],1)else if st=true then(spB,0)else if n=31 then(xzB,0)else(hO n.toNat,0)
theorem find_reg {s:List UInt8} {n:Nat} (hn:n < 31) (h:s=hO n):(List.range 31).find? (fun k=>decide (s=hO k))=some n:=by
 subst h;have hm:n∈List.range 31:=List.mem_range.2 hn;cases hf:(List.range 31).find? (fun k=>decide (hO n=hO k)) with
 |none=>exact absurd (List.find?_eq_none.1 hf n hm) (by simp)
 |some k=>
  have h1:=List.find?_some hf;have h2:=List.mem_range.1 (List.mem_of_find?_eq_some hf);have h3:hO n=hO k:=of_decide_eq_true h1;unfold hO at h3;have:=decL_inj ⟨n,hn⟩ ⟨k,h2⟩ (List.cons.inj h3).2;simp only[Fin.mk.injEq]at this;rw[this]
theorem find_no {s:List UInt8} (h:∀ n,n < 31->s ≠ hO n):(List.range 31).find? (fun k=>decide (s=hO k))=none:=
 List.find?_eq_none.2 fun n hn=>by simpa using h n (List.mem_range.1 hn)
theorem nm_ne:∀n:Fin 31,hO n.val≠spB/\hO n.val≠xzB:=by decide+kernel
theorem regL_at {s:List UInt8}{n:Nat}(hn:n<31)(h:s=hO n):fU s=((n:Int),false,0):=by
 unfold fU;have:=nm_ne ⟨n,hn⟩;rw[if_neg (by rw[h];exact this.1),if_neg (by rw[h];exact this.2),find_reg hn h]
theorem rO {s:List UInt8}(h1:s≠spB)(h2:s≠xzB)(h:∀n,n<31->s≠hO n):fU s=(0,false,3):=by
 unfold fU;rw[if_neg h1,if_neg h2,find_no h]
theorem regL_cases (s:List UInt8):(s=spB/\fU s=(31,true,0))\/(s=xzB/\fU s=(31,false,0))\/(∃n,n<31/\s=hO n/\fU s=((n:Int),false,0))\/(s≠spB/\s≠xzB/\(∀n,n<31->s≠hO n)/\fU s=(0,false,3)):=by
 by_cases h1:s=spB
 ·exact .inl ⟨h1,by unfold fU;rw[if_pos h1]⟩
 by_cases h2:s=xzB
 ·exact .inr (.inl ⟨h2,by unfold fU;rw[if_neg h1,if_pos h2]⟩)
 by_cases h3:∃n,n<31/\s=hO n
 ·obtain⟨n,hn,hs⟩:=h3;exact .inr (.inr (.inl ⟨n,hn,hs,regL_at hn hs⟩))
 ·have h4:∀n,n<31->s≠hO n:=fun n hn hs=>h3 ⟨n,hn,hs⟩
  exact .inr (.inr (.inr ⟨h1,h2,h4,rO h1 h2 h4⟩))
abbrev regV (r:Int×Bool×Int):Value:=.tuple #[.int .i64 r.1,.bool r.2.1,.int .i64 r.2.2]
theorem text_ba {n:Nat}(h:n<100):textB n=⟨(gO n).toArray⟩:=by unfold textB;rw[decL_dig h]
def shB (j:Nat):List UInt8:=if j=0 then [108,115,108]else if j=1 then [108,115,114]else if j=2 then [97,115,114]else [114,111,114]
def ShN (w:World):Prop:=∀j,j<4->w.cell? ⟨4,j,none⟩=some (.string ⟨(shB j).toArray⟩)
def nE (w:World):Prop:=RTab w/\nD w/\ShN w
theorem ShN.next {w w':World}(h:ShN w)(hb:Below w.heap.size w w'):ShN w':=fun j hj=>by
 rw[hb.cell (p:=⟨4,j,none⟩) (bM (h j hj))];exact h j hj
theorem nD.next {w w':World}(h:nD w)(hb:Below w.heap.size w w'):nD w':=Lib.tabBelow_of_tabIs h w' hb
theorem nE.next {w w':World}(h:nE w)(hb:Below w.heap.size w w'):nE w':=⟨h.1.next hb,nD.next h.2.1 hb,h.2.2.next hb⟩
theorem jM {s:ByteArray}{l:List UInt8}(h:s.data.toList≠l):(s.toList==l)=false:=by
 rw[beq_eq_false_iff_ne,ByteArray.toList_eq];exact h
theorem trim_x {d:List UInt8}:Lib.trimPrefix (120 :: d) [120]=d/\Lib.hasPrefix (120 :: d) [120]=true:=by
 constructor
 ·unfold Lib.trimPrefix;rfl
 ·rfl
theorem no_x {s:List UInt8}(h:Lib.hasPrefix s [120]=false):∀d,s≠120 :: d:=by
 rintro d rfl;rw[trim_x.2]at h;cases h
theorem has_x {s:List UInt8}(h:Lib.hasPrefix s [120]=true):∃d,s=120 :: d:=by
 cases s with
 |nil=>cases h
 |cons a t=>
  unfold Lib.hasPrefix at h;simp only[List.isPrefixOf,Bool.and_true,beq_iff_eq]at h;exact⟨t,by rw[<-h]⟩
theorem vf_lt {b:Nat}{l:List UInt8}{v x:Nat}(h:vf b l v=some x)(hv:v<18446744073709551616):x<18446744073709551616:=by
 induction l generalizing v with
 |nil=>rw[vf]at h;cases h;exact hv
 |cons c r ih=>
  rw[vf]at h;split at h
  ·rename_i c1;exact ih h c1
  ·cases h
theorem valD_range (b:Nat)(l:List UInt8):0<=(mD b l).1/\(mD b l).1<18446744073709551616/\((mD b l).2=0\/((mD b l).1=0/\((mD b l).2=3\/(mD b l).2=4))):=by
 unfold mD;split
 ·decide
 ·split
  ·rename_i v hv;have:=vf_lt hv (by decide);exact⟨by simp only;omega,by simp only;omega,.inl rfl⟩
  ·decide
theorem pY (l:List UInt8):0<=(lM l).1/\(lM l).1<18446744073709551616/\((lM l).2=0\/((lM l).1=0/\((lM l).2=3\/(lM l).2=4))):=by
 unfold lM;split
 ·exact valD_range _ _
 ·exact valD_range _ _
theorem Reg_any (s:ByteArray)(w:World)(hT:nD w):Calls Tryz.prog 212 #[.string s] w (aP (regV (fU s.data.toList)) w):=by
 by_cases h1:s.data.toList=spB
 ·have hs:s=⟨#[115,112]⟩:=kO h1;subst hs;have HE:Hid (fU (⟨#[115,112]⟩:ByteArray).data.toList=(31,true,0)):=aH (by decide+kernel);clear hT h1;go_enter Tryz.func212,Tryz.ntmps212;go_wp2;go_ret3;exact⟨by rw[HE.out];rfl,Below.refl _ _⟩
 by_cases h2:s.data.toList=xzB
 ·have hs:s=⟨#[120,122,114]⟩:=kO h2;subst hs;have HE:Hid (fU (⟨#[120,122,114]⟩:ByteArray).data.toList=(31,false,0)):=aH (by decide+kernel);clear hT h1 h2;go_enter Tryz.func212,Tryz.ntmps212;go_wp2;go_ret3;exact⟨by rw[HE.out];rfl,Below.refl _ _⟩
 have n1:=jM h1;have n2:=jM h2;have HC:Hid (Calls Tryz.prog 230 #[.string s,.string ⟨#[120]⟩] w fun e w'=>e=.returned (.tuple #[.string ⟨(Lib.trimPrefix s.data.toList [120]).toArray⟩,.bool (Lib.hasPrefix s.data.toList [120])])/\w'=w):=aH (Tryz.strings_CutPrefix s ⟨#[120]⟩ w);cases hp:Lib.hasPrefix s.data.toList [120]
 ·have HE:Hid (fU s.data.toList=(0,false,3)):=aH (rO h1 h2 fun n hn=>no_x hp _);rw[hp]at HC;obtain⟨D,hD⟩:∃D:ByteArray,D=⟨(Lib.trimPrefix s.data.toList [120]).toArray⟩:=⟨_,rfl⟩;rw[<-hD]at HC;have HV:=aH (mP D w);obtain⟨p,hpv⟩:=aE (lM D.data.toList);rw[<-hpv]at HV;clear hD hpv hT h1 h2 hp;go_enter Tryz.func212,Tryz.ntmps212;go_wp2_with fail
  refine HC.out.mono ?_;rintro e w' ⟨rfl,rfl⟩;go_wp2_with fail
  refine HV.out.mono ?_;rintro e w1 ⟨rfl,hb⟩;have HB:=aH hb;clear hb;go_wp2;go_ret3;exact⟨by rw[HE.out];rfl,HB.out⟩
 ·obtain⟨d,hd⟩:=has_x hp;rw[hp]at HC;rw[hd,trim_x.1]at HC;have HV:=aH (mP ⟨d.toArray⟩ w);rw[show(⟨d.toArray⟩:ByteArray).data.toList=d from rfl]at HV;obtain⟨v,e0,hv⟩:∃v e0,lM d=(v,e0):=⟨_,_,rfl⟩;rw[hv]at HV;have hvb:=pY d;rw[hv]at hvb;have hnm:∀n,n<31->s.data.toList=hO n->v=n/\e0=0/\d=gO n:=fun n hn hs=>by
   rw[hd]at hs;have h3:=(List.cons.inj hs).2;rw[h3,decL_val ⟨n,hn⟩]at hv;simp only[Prod.mk.injEq]at hv;exact⟨hv.1.symm,hv.2.symm,h3⟩
  obtain⟨D,hD⟩:∃D:ByteArray,D=⟨d.toArray⟩:=⟨_,rfl⟩;rw[<-hD]at HC HV;by_cases he:e0=0
  ·by_cases hv30:(30:Int)<v
   ·have HE:Hid (fU s.data.toList=(0,false,3)):=aH (rO h1 h2 fun n hn hs=>by have:=(hnm n hn hs).1;omega);subst he;clear hT h1 h2 hp hd hv hvb hnm hD;go_enter Tryz.func212,Tryz.ntmps212;go_wp2_with fail
    refine HC.out.mono ?_;rintro e w' ⟨rfl,rfl⟩;go_wp2_with fail
    refine HV.out.mono ?_;rintro e w1 ⟨rfl,hb⟩;have HB:=aH hb;clear hb;go_wp2;go_ret3;exact⟨by rw[HE.out];rfl,HB.out⟩
   ·obtain⟨k,hk⟩:∃k:Nat,v=k:=⟨v.toNat,by omega⟩;subst hk;have hk31:k<31:=by omega
    have HTX:Hid (∀u,nD u->Calls Tryz.prog 232 #[.int .u64 (k:Int)] u (aP (.string ⟨(gO k).toArray⟩) u)):=aH fun u hu=>by
     have:=Text_any k u (by omega) hu;rwa[text_ba (by omega)]at this
    have HT:=aH hT;have hw:IntKind.i64.wrap (k:Int)=k:=by rw[IntKind.wrap_i64];omega
    subst he;by_cases hdk:gO k=d
    ·have HE:Hid (fU s.data.toList=((k:Int),false,0)):=aH (regL_at hk31 (by rw[hd,<-hdk];rfl));rw[hdk,<-hD]at HTX;clear hT h1 h2 hp hd hv hvb hnm hD hdk hk31;go_enter Tryz.func212,Tryz.ntmps212;go_wp2_with fail
     refine HC.out.mono ?_;rintro e w' ⟨rfl,rfl⟩;go_wp2_with fail
     refine HV.out.mono ?_;rintro e w1 ⟨rfl,hb⟩;have HB:=aH hb;clear hb;go_wp2_with fail
     refine(HTX.out _ (nD.next HT.out HB.out)).mono ?_;rintro e w2 ⟨rfl,hb⟩;have HB2:=aH (after HB.out hb);clear hb;go_wp2;go_ret3;exact⟨by rw[HE.out];rfl,HB2.out⟩
    ·have HE:Hid (fU s.data.toList=(0,false,3)):=aH (rO h1 h2 fun n hn hs=>by
      obtain⟨q1,-,q3⟩:=hnm n hn hs;have:k=n:=by omega
      exact hdk (by rw[this,q3]))
     obtain⟨K,hK⟩:∃K:ByteArray,K=⟨(gO k).toArray⟩:=⟨_,rfl⟩;rw[<-hK]at HTX;have hkd:(K.toList==D.toList)=false:=by rw[beq_eq_false_iff_ne,ByteArray.toList_eq,ByteArray.toList_eq,hK,hD];exact hdk
     have hkd2:(K.toList !=D.toList)=true:=by rw[bne,hkd];rfl
     clear hT h1 h2 hp hd hv hvb hnm hD hdk hk31 hK;go_enter Tryz.func212,Tryz.ntmps212;go_wp2_with fail
     refine HC.out.mono ?_;rintro e w' ⟨rfl,rfl⟩;go_wp2_with fail
     refine HV.out.mono ?_;rintro e w1 ⟨rfl,hb⟩;have HB:=aH hb;clear hb;go_wp2_with fail
     refine(HTX.out _ (nD.next HT.out HB.out)).mono ?_;rintro e w2 ⟨rfl,hb⟩;have HB2:=aH (after HB.out hb);clear hb;go_wp2;go_ret3;exact⟨by rw[HE.out];rfl,HB2.out⟩
  ·have HE:Hid (fU s.data.toList=(0,false,3)):=aH (rO h1 h2 fun n hn hs=>he (hnm n hn hs).2.1);have hne:(e0 !=0)=true:=by rw[bne_iff_ne];exact he
   clear hT h1 h2 hp hd hv hvb hnm hD he;go_enter Tryz.func212,Tryz.ntmps212;go_wp2_with fail
   refine HC.out.mono ?_;rintro e w' ⟨rfl,rfl⟩;go_wp2_with fail
   refine HV.out.mono ?_;rintro e w1 ⟨rfl,hb⟩;have HB:=aH hb;clear hb;go_wp2;go_ret3;exact⟨by rw[HE.out];rfl,HB.out⟩
def iW (s:List UInt8):Int:=if s=[108,115,108]then 0 else if s=[108,115,114]then 1 else if s=[97,115,114]then 2 else if s=[114,111,114]then 3 else -1
abbrev shV:Value:=.agg #[.string ⟨#[108,115,108]⟩,.string ⟨#[108,115,114]⟩,.string ⟨#[97,115,114]⟩,.string ⟨#[114,111,114]⟩]
theorem shiftKind_any (s:ByteArray)(w:World)(hT:ShN w):Calls Tryz.prog 213 #[.string s] w (bQ (.int .i64 (iW s.data.toList)) w):=by
 have c0:w.cell? ⟨4,0,none⟩=some (.string ⟨#[108,115,108]⟩):=hT 0 (by omega);have c1:w.cell? ⟨4,1,none⟩=some (.string ⟨#[108,115,114]⟩):=hT 1 (by omega);have c2:w.cell? ⟨4,2,none⟩=some (.string ⟨#[97,115,114]⟩):=hT 2 (by omega);have c3:w.cell? ⟨4,3,none⟩=some (.string ⟨#[114,111,114]⟩):=hT 3 (by omega);have i0:∀w,(Instr.index 268 shV (.int .i64 0)).run Tryz.prog w=.ok (.string ⟨#[108,115,108]⟩) w:=fun _=>by kernel_rfl
 have i1:∀w,(Instr.index 268 shV (.int .i64 1)).run Tryz.prog w=.ok (.string ⟨#[108,115,114]⟩) w:=fun _=>by kernel_rfl
 have i2:∀w,(Instr.index 268 shV (.int .i64 2)).run Tryz.prog w=.ok (.string ⟨#[97,115,114]⟩) w:=fun _=>by kernel_rfl
 have i3:∀w,(Instr.index 268 shV (.int .i64 3)).run Tryz.prog w=.ok (.string ⟨#[114,111,114]⟩) w:=fun _=>by kernel_rfl
 clear hT;have hc:(∃r:Int,(s=⟨#[108,115,108]⟩/\r=0)\/(s=⟨#[108,115,114]⟩/\r=1)\/(s=⟨#[97,115,114]⟩/\r=2)\/(s=⟨#[114,111,114]⟩/\r=3))\/(s.data.toList≠ [108,115,108]/\s.data.toList≠ [108,115,114]/\s.data.toList≠ [97,115,114]/\s.data.toList≠ [114,111,114]):=by
  by_cases h0:s.data.toList=[108,115,108]
  ·exact .inl ⟨_,.inl ⟨kO h0,rfl⟩⟩
  by_cases h1:s.data.toList=[108,115,114]
  ·exact .inl ⟨_,.inr (.inl ⟨kO h1,rfl⟩)⟩
  by_cases h2:s.data.toList=[97,115,114]
  ·exact .inl ⟨_,.inr (.inr (.inl ⟨kO h2,rfl⟩))⟩
  by_cases h3:s.data.toList=[114,111,114]
  ·exact .inl ⟨_,.inr (.inr (.inr ⟨kO h3,rfl⟩))⟩
  exact .inr ⟨h0,h1,h2,h3⟩
 rcases hc with⟨r,⟨rfl,rfl⟩|⟨rfl,rfl⟩|⟨rfl,rfl⟩|⟨rfl,rfl⟩⟩|⟨h0,h1,h2,h3⟩
 rotate_left 4
 ·have n0:=jM h0;have n1:=jM h1;have n2:=jM h2;have n3:=jM h3;have HE:Hid (iW s.data.toList= -1):=aH (by unfold iW;rw[if_neg h0,if_neg h1,if_neg h2,if_neg h3]);clear h0 h1 h2 h3;go_enter Tryz.func213,Tryz.ntmps213;go_wp2;refine wp_loop_rounds 5 ?_;rw[rounds_succ];go_wp2;all_goals (try (rw[rounds_succ];go_wp2))
  all_goals (try (rw[rounds_succ];go_wp2))
  all_goals (try (rw[rounds_succ];go_wp2))
  all_goals (try (rw[rounds_succ];go_wp2))
  all_goals (go_ret;exact⟨by rw[HE.out];rfl,rfl⟩)
 all_goals
  go_enter Tryz.func213,Tryz.ntmps213;go_wp2;refine wp_loop_rounds 5 ?_;rw[rounds_succ];go_wp2;all_goals (try (rw[rounds_succ];go_wp2))
  all_goals (try (rw[rounds_succ];go_wp2))
  all_goals (try (rw[rounds_succ];go_wp2))
  all_goals (try (rw[rounds_succ];go_wp2))
  all_goals (go_ret;exact⟨rfl,rfl⟩)
def cI (s:List UInt8):Bool:=cN s && decide ((fU s).2.2 ≠ 0) && decide (iW s < 0)
theorem isName_any (s:ByteArray)(hs:s.size<=maxLen)(w:World)(hT:nE w):Calls Tryz.prog 193 #[.string s] w (aP (.bool (cI s.data.toList)) w):=by
 have HR:=aH (Reg_any s w hT.2.1);have HW:=aH (fun u=>IsWord_any s hs u);have HK:Hid (∀u,nE u->Calls Tryz.prog 213 #[.string s] u (bQ (.int .i64 (iW s.data.toList)) u)):=aH fun u hu=>shiftKind_any s u hu.2.2
 have HT:=aH hT;obtain⟨r,hr⟩:=aE (fU s.data.toList);obtain⟨b,hb⟩:=aE (cN s.data.toList);obtain⟨k,hk⟩:=aE (iW s.data.toList);have HE:Hid (cI s.data.toList=(b && decide (r.2.2 ≠ 0) && decide (k < 0))):=aH (by unfold cI;rw [<-hr,<-hb,<-hk]);rw[<-hr]at HR;rw[<-hb]at HW;rw[<-hk]at HK;obtain⟨n,st,e0⟩:=r;clear hT hs hr hb hk;cases b
 ·go_enter Tryz.func193,Tryz.ntmps193;go_wp2_with fail
  refine HR.out.mono ?_;rintro e w1 ⟨rfl,hb⟩;have HB1:=aH hb;clear hb;go_wp2_with fail
  refine(HW.out _).mono ?_;rintro e w2 ⟨rfl,hb⟩;have HB2:=aH (after HB1.out hb);clear hb;go_wp2;go_ret;exact⟨by rw[HE.out];rfl,HB2.out⟩
 ·by_cases he:e0=0
  ·subst he;go_enter Tryz.func193,Tryz.ntmps193;go_wp2_with fail
   refine HR.out.mono ?_;rintro e w1 ⟨rfl,hb⟩;have HB1:=aH hb;clear hb;go_wp2_with fail
   refine(HW.out _).mono ?_;rintro e w2 ⟨rfl,hb⟩;have HB2:=aH (after HB1.out hb);clear hb;go_wp2;go_ret;exact⟨by rw[HE.out];rfl,HB2.out⟩
  ·have hne:(e0 !=0)=true:=by rw[bne_iff_ne];exact he
   replace HE:Hid (cI s.data.toList=decide (k < 0)):=aH (by rw [HE.out,decide_eq_true he];simp);clear he;go_enter Tryz.func193,Tryz.ntmps193;go_wp2_with fail
   refine HR.out.mono ?_;rintro e w1 ⟨rfl,hb⟩;have HB1:=aH hb;clear hb;go_wp2_with fail
   refine(HW.out _).mono ?_;rintro e w2 ⟨rfl,hb⟩;have HB2:=aH (after HB1.out hb);clear hb;go_wp2_with fail
   refine(HK.out _ (HT.out.next HB2.out)).mono ?_;rintro e w3 ⟨rfl,rfl⟩;go_wp2;go_ret;exact⟨by rw[HE.out];rfl,HB2.out⟩
open Go.ChangeShapes Go.WideShapes Go.Deep Go.RowKit
def isDg (c:UInt8):Bool:=decide (48<=c.toNat) && decide (c.toNat<=57)
def kT:List UInt8->Nat->Option Nat
 | [],n=>some n
 |c :: t,n=>if isDg c=true then kT t (10*n+(c.toNat-48))else none
def eH (s:List UInt8):Option (Nat×Bool):=
 if s.length<2\/5<s.length then none else
  match s.getLast? with
  |none=>none
  |some c=>if c=102\/c=98 then(match kT s.dropLast 0 with|none=>none|some n=>some (n,c==102))else none
def labelV (o:Option (Nat×Bool)):Value:=match o with|none=>.tuple #[.int .i64 0,.bool false,.bool false]|some (n,u)=>.tuple #[.int .i64 (n:Int),.bool u,.bool true]
theorem mG {s:List UInt8}(h:s.length<2\/5<s.length):eH s=none:=by unfold eH;rw[if_pos h]
theorem Label_any (s:ByteArray)(hs:s.size<=maxLen)(w:World):Calls Tryz.prog 192 #[.string s] w (kP (labelV (eH s.data.toList)) w):=by
 have hlen:s.data.toList.length=s.size:=by simp
 have hs9:(s.size:Int)<=9223372036854775807:=by unfold maxLen at hs;omega
 by_cases h1:s.size<2
 ·have h1z:(s.size:Int)<2:=by omega
  have HE:Hid (eH s.data.toList=none):=aH (mG (.inl (by omega)));clear hs hlen h1;go_enter Tryz.func192,Tryz.ntmps192;go_wp2;go_ret3;exact⟨by rw[HE.out];rfl,0,rfl⟩
 by_cases h2:5<s.size
 ·have h1z:¬(s.size:Int)<2:=by omega
  have h2z:(5:Int)<(s.size:Int):=by omega
  have HE:Hid (eH s.data.toList=none):=aH (mG (.inr (by omega)));clear hs hlen h1 h2;go_enter Tryz.func192,Tryz.ntmps192;go_wp2;go_ret3;exact⟨by rw[HE.out];rfl,0,rfl⟩
 have h1z:¬(s.size:Int)<2:=by omega
 have h2z:¬(5:Int)<(s.size:Int):=by omega
 obtain⟨m,hm⟩:∃m,s.size=m+1:=⟨s.size-1,by omega⟩;have hmz:IntKind.i64.wrap ((s.size:Int)-1)=(m:Int):=by rw[IntKind.wrap_i64];omega
 have hm0:(0:Int)<=m:=by omega
 have hmn:(m:Int)<=(s.size:Int):=by omega
 have hmn2:(m:Int)<(s.size:Int):=by omega
 have hne:¬s.toList=[]:=fun h=>by
  have:=congrArg List.length h;rw[ByteArray.toList_eq,hlen]at this;simp only[List.length_nil]at this;omega
 obtain⟨D,hD⟩:∃D,s.extract 0 m=D:=⟨_,rfl⟩;have hml:m<s.size:=by omega
 obtain⟨c,hc⟩:∃c:UInt8,s[m]'hml=c:=⟨_,rfl⟩;have hDl:D.data.toList=s.data.toList.take m:=by
  rw[<-hD,ByteArray.data_extract,Array.toList_extract];simp[List.extract]
 have hDz:D.size=m:=by
  have:D.data.toList.length=m:=by rw[hDl,List.length_take];omega
  rw[<-this];simp
 have hsplit:s.data.toList=D.data.toList++ [c]:=by
  rw[hDl,<-hc];have:=List.take_append_drop m s.data.toList;rw[jI (by omega),List.drop_eq_nil_of_le (by omega)]at this;exact this.symm
 have hLE:eH s.data.toList=if c=102\/c=98 then(match kT D.data.toList 0 with|none=>none|some n=>some (n,c==102))else none:=by
  unfold eH;rw[if_neg (by omega),hsplit,List.getLast?_append];simp
 have HLE:=aH hLE;have HDZ:=aH hDz;have hm5:(m:Int)<=4:=by omega
 clear hs hlen h1 h2 hm hDl hsplit hLE;by_cases c1:c=102\/c=98
 ·have HL2:Hid (eH s.data.toList=(match kT D.data.toList 0 with|none=>none|some n=>some (n,c==102))):=aH (by rw[HLE.out,if_pos c1]);rcases c1 with rfl|rfl
  all_goals
   go_enter Tryz.func192,Tryz.ntmps192;go_wp2;go_quiet (fail);go_wp2;clear hmz hmn hmn2 hD hc hne h1z h2z;go_loopg [7,35] (m) (fun g nv iv wl=>∃k n:Nat,nv=.int .i64 (n:Int)/\iv=.int .i64 (k:Int)/\k<=m/\n<10^k/\Hid (kT D.data.toList 0=kT (D.data.toList.drop k) n)/\Hid (g=m-k)/\Hid (∃q,wl=w.drewN q))
   case atStart=>exact⟨0,0,rfl,rfl,by omega,by decide,aH (by rw[List.drop_zero]),aH rfl,aH ⟨_,rfl⟩⟩
   case round=>
    obtain⟨k,n,rfl,rfl,hk,hn,HA,HG,HW⟩:=hrel;by_cases hlt:k<m
    ·have hlt2:k<D.size:=by rw[hDz];exact hlt
     obtain⟨x,hx⟩:∃x:UInt8,D[k]=x:=⟨_,rfl⟩;have hdr:=jI hlt2;rw[hx]at hdr;have hltz:(k:Int)<(m:Int):=by omega
     have HDR:=aH hdr;have hx256:x.toNat<256:=x.toNat_lt;have hn4:n<10000:=by
      have:(10:Nat)^k<=10^4:=Nat.pow_le_pow_right (by decide) (by omega);omega
     have HN:=aH hn;clear hdr hn;by_cases hd:48<=x.toNat/\x.toNat<=57
     ·obtain⟨d,hdd⟩:=aE (x.toNat-48);have HC:Hid (kT D.data.toList 0=kT (D.data.toList.drop (k+1)) (10*n+d)):=aH (by
       rw[HA.out,HDR.out,kT,if_pos (by unfold isDg;simp[hd.1,hd.2]),hdd])
      have HN2:Hid (10*n+d<10^(k+1)):=aH (by have:=HN.out;rw[Nat.pow_succ];omega);have l1:¬((x.toNat:Int)<48):=by omega
      have l2:¬((57:Int)<(x.toNat:Int)):=by omega
      have w1:IntKind.i64.wrap (10*(n:Int))=10*(n:Int):=by rw[IntKind.wrap_i64];omega
      have w2:IntKind.u8.wrap ((x.toNat:Int)-48)=(d:Int):=by rw[IntKind.wrap_u8];omega
      have w3:IntKind.i64.wrap (d:Int)=(d:Int):=by rw[IntKind.wrap_i64];omega
      have w4:IntKind.i64.wrap (10*(n:Int)+(d:Int))=((10*n+d:Nat):Int):=by rw[IntKind.wrap_i64];omega
      clear hd hdd hx256 hn4;go_wp2;go_roundg (m-(k+1))
      case measure=>have:=HG.out;omega
      case rel=>exact⟨k+1,10*n+d,by first|rfl|(congr 1;omega),by go_num,by omega,HN2.out,HC,aH rfl,HW⟩
     ·have HC:Hid (eH s.data.toList=none):=aH (by
       rw[HL2.out,HA.out,HDR.out,kT,if_neg (by unfold isDg;simp;omega)])
      have HQ:=HW.out;by_cases l1:(x.toNat:Int)<48
      ·clear hd hx256 hn4;go_wp2;go_ret3;exact⟨by rw[HC.out];rfl,HW.out⟩
      ·have l2:(57:Int)<(x.toNat:Int):=by omega
       clear hd hx256 hn4;go_wp2;go_ret3;exact⟨by rw[HC.out];rfl,HW.out⟩
    ·have hltz:¬(k:Int)<(m:Int):=by omega
     have HC:Hid (kT D.data.toList 0=some n):=aH (by
      rw[HA.out,List.drop_eq_nil_of_le (by
       have:=HDZ.out;have h2:D.data.toList.length=D.size:=by simp
       omega),kT])
     go_wp2;go_ret3;exact⟨by rw[HL2.out,HC.out];rfl,HW.out⟩
 ·have HL2:Hid (eH s.data.toList=none):=aH (by rw[HLE.out,if_neg c1]);have hc256:c.toNat<256:=c.toNat_lt;have d1:((c.toNat:Int) !=102)=true:=by
   rw[bne_iff_ne];intro h;exact c1 (.inl (UInt8.toNat_inj.1 (by show c.toNat=102;omega)))
  have d2:((c.toNat:Int) !=98)=true:=by
   rw[bne_iff_ne];intro h;exact c1 (.inr (UInt8.toNat_inj.1 (by show c.toNat=98;omega)))
  clear c1 hc256;go_enter Tryz.func192,Tryz.ntmps192;go_wp2;go_quiet (fail);go_wp2;go_ret3;exact⟨by rw[HL2.out];rfl,_,rfl⟩
structure Ti where
 kind:Int
 text:List UInt8
 v:Int
def tiC (t:Ti):List Value:=[.int .i64 t.kind,.string ⟨t.text.toArray⟩,.int .u64 t.v]
abbrev tiZ:Ti:=⟨0,[],0⟩
abbrev coB:List UInt8:=[44]
abbrev coT:Ti:=⟨4,coB,0⟩
structure GoodTi (t:Ti):Prop where
 kind:cS t.kind
 text:t.text.length<=maxLen
 v:0<=t.v/\t.v<18446744073709551616
def oJ (l:List Ti):Prop:=∀t∈l,GoodTi t
def cQ (l:List Ti):Ti:=l.headD tiZ
def isSg (s:List UInt8)(t:Ti):Bool:=t.kind==4&&t.text==s
structure Po where
 kind:Int
 reg:Int
 stack:Bool
 minus:Bool
 v:Int
 sym:List UInt8
 add:Int
abbrev gU:Po:=⟨0,0,false,false,0,[],0⟩
abbrev Pr (α:Type):Type:=List Ti->Option (α×List Ti×Bool)
def failP {α:Type}:Pr α:=fun _=>none
def pureP {α:Type}(a:α):Pr α:=fun l=>some (a,l,false)
def iG {α β:Type}(f:Pr α)(k:α->Pr β):Pr β:=fun l=>
 match f l with
 |none=>none
 |some (a,r,g)=>match k a r with
  |none=>none
  |some (b,r',g')=>some (b,r',g||g')
def nQ {α:Type}(q:Ti->Option (α×Bool)):Pr α:=fun l=>
 match l with
 | []=>none
 |t :: r=>match q t with
  |none=>none
  |some (a,g)=>some (a,r,g)
def ifP {α:Type}(q:Ti->Bool)(f g:Pr α):Pr α:=fun l=>if q (cQ l)=true then f l else g l
def jE (s:List UInt8):Pr Bool:=ifP (isSg s) (nQ fun _=>some (true,false)) (pureP false)
def digQ (t:Ti):Option (Int×Bool):=if t.kind=2 then(if (lM t.text).2=0 then some ((lM t.text).1,false)else if (lM t.text).2=4 then some (0,true)else none)else none
def iN:Pr Int:=nQ digQ
def plainP:Pr Int:=ifP (fun t=>t.kind==5) (nQ fun t=>some (t.v,false)) iN
def jQ:Pr (Bool×Int):=iG (jE [45]) fun m=>iG plainP fun v=>pureP (m&&v !=0,v)
def addTo (m:Bool):Pr Int:=iG iN fun v=>fun l=>some ((lN m v).1,l,(lN m v).2 !=0)
def qS:Pr Int:=iG (jE [45]) fun m=>if m=true then addTo true else iG (jE [43]) fun q=>if q=true then addTo false else pureP 0
def nX (t:Ti):Bool:=(t.kind==2&&(eH t.text).isSome)||(t.kind==1&&cI t.text)
def kK:Pr Po:=ifP nX (iG (nQ fun t=>some (t.text,false)) fun s=>iG qS fun a=>pureP ⟨3,0,false,false,0,s,a⟩)
 (iG jQ fun n=>pureP ⟨2,0,false,n.1,n.2,[],0⟩)
structure Fr {α:Type}(f:Pr α)(may:Bool):Prop where
 pre:∀ {l r a g},f l=some (a,r,g)->∀X,f (l++coT :: X)=some (a,r++coT :: X,g)
 suf:∀ {l r a g},f l=some (a,r,g)->(may=true/\r=l)\/∃u t,l=u++t :: r/\isSg coB t=false
theorem Fr.fail {α:Type}(m:Bool):Fr (failP:Pr α) m:=⟨fun h=>(by cases h),fun h=>(by cases h)⟩
theorem Fr.bind {α β:Type}{f:Pr α}{k:α->Pr β}{m n:Bool}(hf:Fr f m)(hk:∀a,Fr (k a) n):Fr (iG f k) (m&&n):=by
 have key:∀ {l r b g},iG f k l=some (b,r,g)->∃a r1 g1 g2,f l=some (a,r1,g1)/\k a r1=some (b,r,g2)/\g=(g1||g2):=by
  intro l r b g h;unfold iG at h;split at h
  ·cases h
  ·rename_i a r1 g1 h1;split at h
   ·cases h
   ·rename_i b' r' g' h2;simp only[Option.some.injEq,Prod.mk.injEq]at h;obtain⟨rfl,rfl,rfl⟩:=h;exact⟨a,r1,g1,g',h1,h2,rfl⟩
 refine⟨fun h X=>?_,fun h=>?_⟩
 ·obtain⟨a,r1,g1,g2,h1,h2,rfl⟩:=key h;unfold iG;rw[hf.pre h1 X];simp only;rw[(hk a).pre h2 X]
 ·obtain⟨a,r1,g1,g2,h1,h2,rfl⟩:=key h;rcases hf.suf h1 with⟨hm,rfl⟩|⟨u,t,rfl,ht⟩
  ·rcases(hk a).suf h2 with⟨hn,rfl⟩|h3
   ·exact .inl ⟨by rw[hm,hn];rfl,rfl⟩
   ·exact .inr h3
  ·rcases(hk a).suf h2 with⟨hn,rfl⟩|⟨u',t',rfl,ht'⟩
   ·exact .inr ⟨u,t,rfl,ht⟩
   ·exact .inr ⟨u++t :: u',t',by simp,ht'⟩
theorem Fr.one {α:Type}{q:Ti->Option (α×Bool)}(h:∀t,isSg coB t=true->q t=none):Fr (nQ q) false:=by
 have key:∀ {l r a g},nQ q l=some (a,r,g)->∃t,l=t :: r/\q t=some (a,g):=by
  intro l r a g h;unfold nQ at h;split at h
  ·cases h
  ·rename_i t r';split at h
   ·cases h
   ·rename_i e;simp only[Option.some.injEq,Prod.mk.injEq]at h;obtain⟨rfl,rfl,rfl⟩:=h;exact⟨t,rfl,e⟩
 refine⟨fun e X=>?_,fun e=>?_⟩
 ·obtain⟨t,rfl,ht⟩:=key e;rw[List.cons_append];unfold nQ;simp only[ht]
 ·obtain⟨t,rfl,ht⟩:=key e;refine .inr ⟨[],t,rfl,?_⟩;cases hc:isSg coB t with
  |false=>rfl
  |true=>rw[h t hc]at ht;cases ht
structure Pf {α:Type}(f:Pr α):Prop where
 pre:∀ {l r a g},f l=some (a,r,g)->∀X,f (l++coT :: X)=some (a,r++coT :: X,g)
 suf:∀ {l r a g},f l=some (a,r,g)->∃u,l=u++r
theorem Pf.one {α:Type}{q:Ti->Option (α×Bool)}:Pf (nQ q):=by
 have key:∀ {l r a g},nQ q l=some (a,r,g)->∃t,l=t :: r/\q t=some (a,g):=by
  intro l r a g h;unfold nQ at h;split at h
  ·cases h
  ·rename_i t r';split at h
   ·cases h
   ·rename_i e;simp only[Option.some.injEq,Prod.mk.injEq]at h;obtain⟨rfl,rfl,rfl⟩:=h;exact⟨t,rfl,e⟩
 refine⟨fun e X=>?_,fun e=>?_⟩
 ·obtain⟨t,rfl,ht⟩:=key e;rw[List.cons_append];unfold nQ;simp only[ht]
 ·obtain⟨t,rfl,ht⟩:=key e;exact⟨[t],rfl⟩
theorem Pf.then {α β:Type}{f:Pr α}{k:α->Pr β}(hf:Pf f)(hk:∀a,Fr (k a) false):Fr (iG f k) false:=by
 have key:∀ {l r b g},iG f k l=some (b,r,g)->∃a r1 g1 g2,f l=some (a,r1,g1)/\k a r1=some (b,r,g2)/\g=(g1||g2):=by
  intro l r b g h;unfold iG at h;split at h
  ·cases h
  ·rename_i a r1 g1 h1;split at h
   ·cases h
   ·rename_i b' r' g' h2;simp only[Option.some.injEq,Prod.mk.injEq]at h;obtain⟨rfl,rfl,rfl⟩:=h;exact⟨a,r1,g1,g',h1,h2,rfl⟩
 refine⟨fun h X=>?_,fun h=>?_⟩
 ·obtain⟨a,r1,g1,g2,h1,h2,rfl⟩:=key h;unfold iG;rw[hf.pre h1 X];simp only;rw[(hk a).pre h2 X]
 ·obtain⟨a,r1,g1,g2,h1,h2,rfl⟩:=key h;obtain⟨u,rfl⟩:=hf.suf h1;rcases(hk a).suf h2 with⟨hn,-⟩|⟨u',t',rfl,ht'⟩
  ·cases hn
  ·exact .inr ⟨u++u',t',by simp,ht'⟩
end
end Go.Proofs.YtiohgaghmnpplaaGreatDoor
