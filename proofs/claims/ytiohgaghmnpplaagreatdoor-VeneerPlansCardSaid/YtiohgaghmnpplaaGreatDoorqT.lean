/- The tie of a table of strings: what the row lists is what the cells hold. Nothing of the program. The eight tables that the rows of layers 16 and 19 list. A last text. -/
import Derived.Lib.LaidTab
import Derived.ChangeArms
import Derived.Test.YtiohgaghmnpplaaGreatDoorqI
set_option linter.unusedVariables false
set_option linter.unusedSimpArgs false
namespace Go.Proofs.YtiohgaghmnpplaaGreatDoor
section
def strData {H:Type}(zs:List (List UInt8)):DataW H:=.agg (zs.map fun z=>.lit (.string z))
def StrIs (P:Program)(w:World)(name:String)(zs:List (List UInt8)):Prop:=w.var? P name=some (zs.map fun z=>Value.string ⟨z.toArray⟩).toArray
theorem cells_of_strs {H:Type}{enc:TypeId×Value->H}{P:Program}{w:World}{base:Nat}{sp:Nat->Bool}{held:Bool}{fuel:Nat}{t e:TypeId}{n:Nat}{cs:List Value}{zs:List (List UInt8)}{p:List MemPlace}
  (ht:P.underlying t=some (.array n e)) (he:P.underlying e=some .string) (hce:P.cellsOf e=1) (hct:P.cellsOf t=n)
  (h:DataW.trod enc P w base sp held fuel t cs=some (strData zs,p)):cs=zs.map fun z=>Value.string ⟨z.toArray⟩:=by
 match fuel,h with
 |0,h=>simp[DataW.trod]at h
 |f+1,h=>
  simp only[DataW.trod,ht,hce,hct,Nat.mul_one]at h;split at h
  case isFalse=>cases h
  case isTrue hl=>
   obtain⟨xs,hm,hx⟩:=Option.map_eq_some_iff.1 h;have h1:xs.map (·.1)=zs.map fun z=>(DataW.lit (.string z):DataW H):=by simpa[strData]using congrArg Prod.fst hx
   have hxl:xs.length=n:=by simpa using Lib.mapM_length hm
   have hzl:zs.length=n:=by simpa[hxl]using(congrArg List.length h1).symm
   refine List.ext_getElem? fun i=>?_
   by_cases hi:i<n
   ·obtain⟨b,hb,hf⟩:=Lib.mapM_at hm i i (by simp[hi]);obtain⟨s,hc,rfl,_⟩:=DataW.trod_string he hf;have c1:cs[i]?=some (.string s):=by
     have c0:=congrArg (·[0]?) hc;simpa[List.getElem?_take,List.getElem?_drop]using c0
    have c2:(xs.map (·.1))[i]?=some (DataW.lit (.string s.data.toList):DataW H):=by simp[hb]
    rw[h1,List.getElem?_map,Option.map_eq_some_iff]at c2;obtain⟨z,hz,hzz⟩:=c2;injection hzz with hzz
    injection hzz with hzz
    subst hzz;rw[c1,List.getElem?_map,hz];simp
   ·rw[List.getElem?_eq_none (by omega),List.getElem?_eq_none (by simp;omega)]
theorem strIs_of_head {P:Program}{W:World}{name:String}{zs:List (List UInt8)}{rest:List (String×DataW Unit)}{g:Nat}{t e:TypeId}{n:Nat}
  (hg:P.globalNamed name=some g) (hty:(P.globals[g]?).map (·.type)=some t) (ht:P.underlying t=some (.array n e)) (he:P.underlying e=some .string) (hce:P.cellsOf e=1) (hct:P.cellsOf t=n)
  (h:laidMet P ((name,strData zs) :: rest) W):StrIs P W name zs:=by
 obtain⟨ps,⟨g',t',cs,fuel,p,q,hg',ht',hvar,hd,_,_⟩,_⟩:=h;have e1:=Option.some.inj (hg.symm.trans hg');subst e1;have e2:=Option.some.inj (hty.symm.trans ht');subst e2;rw[StrIs,hvar,<-cells_of_strs ht he hce hct hd]
theorem StrIs.cell {P:Program}{W:World}{name:String}{zs:List (List UInt8)}{g:Nat}(h:StrIs P W name zs)(hg:P.globalNamed name=some g)(i:Nat)(hi:i<zs.length):
  W.cell? ⟨g,i,none⟩=some (.string ⟨(zs.getD i []).toArray⟩):=by
 have:=World.var?_cell hg h i;simpa[List.getD,hi]using this
end
section
open Go.RowKit
theorem oSh:Tryz.prog.globalNamed "cleat/operand.shiftNames" =some 4:=by kernel_rfl
theorem tab10':([1,10,100,1000,10000,100000,1000000,10000000,100000000,1000000000,10000000000,100000000000,1000000000000,10000000000000,100000000000000,1000000000000000,10000000000000000,100000000000000000,1000000000000000000,10000000000000000000]:List Int)=Lib.pow10Tab:=by decide+kernel
theorem tabP_of {w:World}{y:List Int}(h32:Lib.TabIs Tryz.prog w "math/bits.deBruijn32tab" .u8 y)
  (h64:Lib.TabIs Tryz.prog w "math/bits.deBruijn64tab" .u8 [0,1,56,2,57,49,28,3,61,58,42,50,38,29,17,4,62,47,59,36,45,43,51,22,53,39,33,30,24,18,12,5,63,55,48,27,60,41,37,16,46,35,44,21,52,32,23,11,54,26,40,15,34,20,31,10,25,14,19,9,13,8,7,6])
  (hsh:Lib.TabIs Tryz.prog w "cleat/inst.shapes" .i64 shL) (hb:Lib.TabIs Tryz.prog w "cleat/code.bases" .u32 baI) (hl:Lib.TabIs Tryz.prog w "cleat/code.loose" .u32 loI)
  (hp:Lib.TabIs Tryz.prog w "internal/strconv.uint64pow10" .u64 [1,10,100,1000,10000,100000,1000000,10000000,100000000,1000000000,10000000000,100000000000,1000000000000,10000000000000,100000000000000,1000000000000000,10000000000000000,100000000000000000,1000000000000000000,10000000000000000000])
  (hs:StrIs Tryz.prog w "cleat/operand.shiftNames" [[108,115,108],[108,115,114],[97,115,114],[114,111,114]]) (hf:oG Tryz.prog w "cleat/part.fitting" .i64 mI):jL w:=by
 refine⟨tabs7_of h64 hsh hb hl hf,trivial,by rw[tab10']at hp;exact hp,fun j hj=>?_⟩;rw[hs.cell oSh j (by simpa using hj)];match j,hj with
 |0,_=>rfl
 |1,_=>rfl
 |2,_=>rfl
 |3,_=>rfl
end
end Go.Proofs.YtiohgaghmnpplaaGreatDoor
