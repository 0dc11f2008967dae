/- line: Make, where no form has the operands. -/
import Derived.Test.YthejefldnpeciaaGreatDooryN
namespace Go.Proofs.YthejefldnpeciaaGreatDoor
set_option linter.unusedVariables false
set_option linter.unusedSimpArgs false
open Go.ChangeShapes Go.WideShapes Go.Deep Go.RowKit

set_option maxRecDepth 100000 in
set_option maxHeartbeats 4000000 in
theorem make_arg {w : World} (hT : TabL w) (S : ByteArray) (oa : Option Addr) (n oc : Nat) (L : List Po) (hs : SL poC 7 w w.heap.size oa n L) (hn : n ≤ 1000000) (hg : ∀ o ∈ L, GoodPo o) {fs : List Fm} (h : nameT S.data.toList = some fs) (h0 : (seekF fs (kindsL L)).op = 0) :
    Calls Tryz.prog 8 #[.string S, .slice oa n oc] w (RetB (mkV (inZ, ndZ, 1)) w) := by
  have hzi := zeroInst
  have hzn := zeroNeed
  have hfb := fldBook
  obtain ⟨W, hW⟩ : ∃ W, W = (w.alloc (.cells (inC inZ) 26)).alloc (.cells (ndA ndZ) 28) := ⟨_, rfl⟩
  obtain ⟨R, hR⟩ : ∃ R, R = w.heap.size := ⟨_, rfl⟩
  obtain ⟨Q, hQ⟩ : ∃ Q, Q = w.heap.size + 1 := ⟨_, rfl⟩
  have HZ : Hid (ZZ w W R Q) := Lib.hid (by rw [hW, hR, hQ]; exact ZZ.start w)
  have HN := Lib.hid (newBook_any W (hT.next HZ.out.k).2.2)
  have HW := Lib.hid hW.symm
  have HRe := Lib.hid hR.symm
  have HQe := Lib.hid hQ.symm
  have HA : Hid (∀ u M, BO u M bookT → ∃ v, (Instr.lookup 54 (.map (some M)) (.string S) true).run Tryz.prog u = .ok (.tuple #[v, .bool true]) u ∧ FO u v fs) := Lib.hid fun u M hb => hb.look book_short book_nodup (name_some h)
  have HKi : Hid (∀ u, Below w.heap.size w u → Calls Tryz.prog 20 #[.slice oa n oc] u (KiP L u)) := Lib.hid fun u hu => kinds_any u oa n oc L (hs.next hu) hn (fun o ho => (hg o ho).kind)
  have HFl : Hid (fs.length ≤ 1000) := Lib.hid (forms_few _ (name_some h))
  have t0 : ((seekF fs (kindsL L)).op == 0) = true := by simpa using h0
  generalize hf : seekF fs (kindsL L) = f at t0
  have HF := Lib.hid hf
  clear hT hs hn hg h h0 hW hR hQ hf
  go_enter Tryz.func8, Tryz.ntmps8
  go_wp2_with fail
  rw [HW.out, HQe.out, HRe.out]
  refine HN.out.mono ?_
  rintro e u ⟨M, rfl, hbo, hb⟩
  obtain ⟨v, hlk, hfo⟩ := HA.out u M hbo
  replace HZ := Lib.hid (HZ.out.next hb)
  have HFo := Lib.hid hfo
  clear hbo hb hfo
  go_wp2_with fail
  refine (HKi.out _ HZ.out.k).mono ?_
  rintro e u2 ⟨rfl, hb⟩
  replace HZ := Lib.hid (HZ.out.next hb)
  obtain ⟨b, hvb, hsk⟩ := seek_any (HFo.out.next hb) HFl.out ⟨(kindsL L).toArray⟩
  rw [show (⟨(kindsL L).toArray⟩ : ByteArray).data.toList = kindsL L by simp] at hsk
  have HSk := Lib.hid hsk
  subst hvb
  clear hb hsk hlk HKi HA HN
  go_wp2_with fail
  refine HSk.out.mono ?_
  rw [HF.out]
  rintro e u3 ⟨rfl, hb⟩
  replace HZ := Lib.hid (HZ.out.next hb)
  clear hb HSk HFo HFl
  obtain ⟨V, hV⟩ : ∃ V, V = u3.alloc (.cells (fmA f) 59) := ⟨_, rfl⟩
  have HZV : Hid (ZZ w V R Q) := Lib.hid (by rw [hV]; exact HZ.out.next ((Below.refl _ _).alloc (Nat.le_refl _) _))
  obtain ⟨x0, x1, x2, x3, x4, x5, x6, x7, x8, x9, xf⟩ := ten_cells HZV.out.r
  obtain ⟨y0, y1, y2, y3, y4, yf⟩ := five_cells HZV.out.s
  rw [hV] at x0 x1 x2 x3 x4 x5 x6 x7 x8 x9 xf y0 y1 y2 y3 y4 yf
  have n1 : R ≠ Q := HZV.out.ne
  have n2 : Q ≠ R := Ne.symm n1
  obtain ⟨hr1, hs1, hb1⟩ := HZV.out.told inZ ndZ
  rw [hV] at hr1 hs1 hb1
  have H1 := Lib.hid hr1
  have H2 := Lib.hid hs1
  have H3 := Lib.hid hb1
  clear hr1 hs1 hb1 hV
  go_wp2
  refine bodyPost_ret (results_make _ _ R Q inZ ndZ 1 rfl rfl rfl H1.out H2.out) rfl ?_
  exact ⟨rfl, H3.out⟩
end Go.Proofs.YthejefldnpeciaaGreatDoor
