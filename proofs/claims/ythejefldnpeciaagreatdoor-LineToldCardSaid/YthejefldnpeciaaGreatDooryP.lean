/- line: Make, where a form has the operands. -/
import Derived.Test.YthejefldnpeciaaGreatDooryO
namespace Go.Proofs.YthejefldnpeciaaGreatDoor
set_option linter.unusedVariables false
set_option linter.unusedSimpArgs false
open Go.ChangeShapes Go.WideShapes Go.Deep Go.RowKit

/-- While operands are added. -/
structure LW (w u : World) (R Q p Fb : Nat) (f : Fm) (m : Mk) : Prop where
  z : ZZ w u R Q
  m : MS u p m
  t : TL u p
  f : RB u Fb (fmA f) 59
  nr : R ≠ p
  nq : Q ≠ p
  nf : Fb ≠ p
  lp : w.heap.size ≤ p
theorem LW.kept {w u v : World} {R Q p Fb : Nat} {f : Fm} {m m' : Mk} (h : LW w u R Q p Fb f m) (hk : KP p u v) (hm : MS v p m') : LW w v R Q p Fb f m' :=
  ⟨h.z.kept hk h.nr h.nq h.lp, hm, h.t.kept hk, RB.kept h.f hk h.nf, h.nr, h.nq, h.nf, h.lp⟩
theorem LW.next {w u v : World} {R Q p Fb : Nat} {f : Fm} {m : Mk} (h : LW w u R Q p Fb f m) (hb : Below u.heap.size u v) : LW w v R Q p Fb f m :=
  ⟨h.z.next hb, h.m.next hb, h.t.next hb, RB.next h.f hb, h.nr, h.nq, h.nf, h.lp⟩
theorem LW.set {w u : World} {R Q p Fb : Nat} {f : Fm} {m m' : Mk} (h : LW w u R Q p Fb f m) (j : Nat) (x : Value) (e : (mkA m).setIfInBounds j x = mkA m') : LW w (u.setCell ⟨p, j, none⟩ x) R Q p Fb f m' :=
  h.kept (KP.step p u j x) (by show RB _ p (mkA m') _; rw [← e]; exact RB.set h.m x)
theorem LW.lay {w u : World} {R Q p Fb : Nat} {f : Fm} {m : Mk} (h : LW w u R Q p Fb f m) (o : Obj) : LW w (u.alloc o) R Q p Fb f m := h.next ((Below.refl _ _).alloc (Nat.le_refl _) o)
abbrev mk0 (f : Fm) : Mk := ⟨f, ⟨f.op, 0, 0, 0, 0, 0, 0, 0, 0, 0⟩, ndZ, 0, false, false⟩
theorem LW.start {w u : World} {R Q : Nat} (hz : ZZ w u R Q) (hT : TabL w) (f : Fm) : LW w ((u.alloc (.cells (fmA f) 59)).alloc (.cells (mkA (mk0 f)) 63)) R Q (u.heap.size + 1) u.heap.size f (mk0 f) := by
  have s1 : (u.alloc (.cells (fmA f) 59)).heap.size = u.heap.size + 1 := World.size_alloc _ _
  have b1 : Below u.heap.size u (u.alloc (.cells (fmA f) 59)) := (Below.refl _ _).alloc (Nat.le_refl _) _
  have b2 : Below (u.alloc (.cells (fmA f) 59)).heap.size (u.alloc (.cells (fmA f) 59)) ((u.alloc (.cells (fmA f) 59)).alloc (.cells (mkA (mk0 f)) 63)) := (Below.refl _ _).alloc (Nat.le_refl _) _
  have hR := lt_of_block hz.r
  have hQ := lt_of_block hz.s
  have hk := hz.k.size
  refine ⟨hz.next (after b1 b2), ?_, ⟨w, hT, by omega, after hz.k (after b1 b2)⟩, RB.next (MapKept.heap_alloc u _).1 b2, by omega, by omega, by omega, by omega⟩
  have := (MapKept.heap_alloc (u.alloc (.cells (fmA f) 59)) (.cells (mkA (mk0 f)) 63)).1
  rw [s1] at this
  exact this
set_option maxRecDepth 100000 in
set_option maxHeartbeats 16000000 in
theorem make_plain {w : World} (hT : TabL w) (S : ByteArray) (oa : Option Addr) (n oc : Nat) (L : List Po) (hs : SL poC 7 w w.heap.size oa n L) (hn : n ≤ 1000000) (hg : ∀ o ∈ L, GoodPo o) {fs : List Fm} (h : nameT S.data.toList = some fs) (h0 : (seekF fs (kindsL L)).op ≠ 0) (h31 : (seekF fs (kindsL L)).op ≠ 31) :
    Calls Tryz.prog 8 #[.string S, .slice oa n oc] w (RetB (mkV (makeF (seekF fs (kindsL L)) S.data.toList L)) w) := by
  have hzi := zeroInst
  have hzn := zeroNeed
  have hfb := fldBook
  obtain ⟨W, hW⟩ : ∃ W, W = (w.alloc (.cells (inC inZ) 26)).alloc (.cells (ndA ndZ) 28) := ⟨_, rfl⟩
  obtain ⟨R, hR⟩ : ∃ R, R = w.heap.size := ⟨_, rfl⟩
  obtain ⟨Q, hQ⟩ : ∃ Q, Q = w.heap.size + 1 := ⟨_, rfl⟩
  have HZ : Hid (ZZ w W R Q) := Lib.hid (by rw [hW, hR, hQ]; exact ZZ.start w)
  have HN := Lib.hid (newBook_any W (hT.next HZ.out.k).2.2)
  have HW := Lib.hid hW.symm
  have HRe := Lib.hid hR.symm
  have HQe := Lib.hid hQ.symm
  have HA : Hid (∀ u M, BO u M bookT → ∃ v, (Instr.lookup 54 (.map (some M)) (.string S) true).run Tryz.prog u = .ok (.tuple #[v, .bool true]) u ∧ FO u v fs) := Lib.hid fun u M hb => hb.look book_short book_nodup (name_some h)
  have HKi : Hid (∀ u, Below w.heap.size w u → Calls Tryz.prog 20 #[.slice oa n oc] u (KiP L u)) := Lib.hid fun u hu => kinds_any u oa n oc L (hs.next hu) hn (fun o ho => (hg o ho).kind)
  have HFl : Hid (fs.length ≤ 1000) := Lib.hid (forms_few _ (name_some h))
  have t0 : ((seekF fs (kindsL L)).op == 0) = false := by simpa using h0
  obtain ⟨hf1, hf2, hf3, hf4⟩ := form_kinds h h0
  have HKd := Lib.hid hf4
  have HL4 := Lib.hid hf3
  have HNz := Lib.hid h0
  have HG1 : Hid (GM (startM (seekF fs (kindsL L)) S.data.toList) (seekF fs (kindsL L)) 0) := Lib.hid (GM.start _ _ (forms_ok _ (name_some h) _ hf1).2.2.1)
  have HT := Lib.hid hT
  have HGo := Lib.hid hg
  have HLn := Lib.hid hs.len
  have HSl : Hid (∀ u, Below w.heap.size w u → SL poC 7 u u.heap.size oa n L) := Lib.hid fun u hu => hs.next hu
  have hni : (n : Int) ≤ 1000000 := by omega
  generalize hf : seekF fs (kindsL L) = f at t0 HNz HG1 h31
  have HF := Lib.hid hf
  have t31 : (f.op == 31) = false := by simpa using h31
  obtain ⟨m1, hm1⟩ : ∃ m1, m1 = startM f S.data.toList := ⟨_, rfl⟩
  have HM1 := Lib.hid hm1
  have HM0 : Hid (m1 = mk0 f) := Lib.hid (by rw [hm1]; unfold startM; rw [if_neg h31])
  rw [← hm1] at HG1
  clear hm1 h31
  clear hT hs hn hg h h0 hW hR hQ hf hf1 hf2 hf3 hf4
  go_enter Tryz.func8, Tryz.ntmps8
  go_wp2_with fail
  rw [HW.out, HQe.out, HRe.out]
  refine HN.out.mono ?_
  rintro e u ⟨M, rfl, hbo, hb⟩
  obtain ⟨v, hlk, hfo⟩ := HA.out u M hbo
  replace HZ := Lib.hid (HZ.out.next hb)
  have HFo := Lib.hid hfo
  clear hbo hb hfo
  go_wp2_with fail
  refine (HKi.out _ HZ.out.k).mono ?_
  rintro e u2 ⟨rfl, hb⟩
  replace HZ := Lib.hid (HZ.out.next hb)
  obtain ⟨b, hvb, hsk⟩ := seek_any (HFo.out.next hb) HFl.out ⟨(kindsL L).toArray⟩
  rw [show (⟨(kindsL L).toArray⟩ : ByteArray).data.toList = kindsL L by simp] at hsk
  have HSk := Lib.hid hsk
  subst hvb
  clear hb hsk hlk HKi HA HN
  go_wp2_with fail
  refine HSk.out.mono ?_
  rw [HF.out]
  rintro e u3 ⟨rfl, hb⟩
  replace HZ := Lib.hid (HZ.out.next hb)
  clear hb HSk HFo HFl
  obtain ⟨Fb, hFb⟩ : ∃ Fb, Fb = u3.heap.size := ⟨_, rfl⟩
  obtain ⟨p, hp⟩ : ∃ p, p = u3.heap.size + 1 := ⟨_, rfl⟩
  obtain ⟨V, hV⟩ : ∃ V, V = (u3.alloc (.cells (fmA f) 59)).alloc (.cells (mkA (mk0 f)) 63) := ⟨_, rfl⟩
  have HL0 : Hid (LW w V R Q p Fb f (mk0 f)) := Lib.hid (by rw [hV, hFb, hp]; exact LW.start HZ.out HT.out f)
  have HVe := Lib.hid hV.symm
  have HFbe := Lib.hid hFb.symm
  have HPe := Lib.hid hp.symm
  clear hV hFb hp HZ
  have HL1 : Hid (LW w V R Q p Fb f ((L.take 0).foldl addM m1)) := Lib.hid (by rw [HM0.out]; exact HL0.out)
  clear HL0
  go_wp2_with fail
  rw [HVe.out, HPe.out, HFbe.out]
  clear HVe HPe HFbe HT HF HRe HQe HW
  go_loopw [54] (fun i wr => ∃ (k : Nat) (wx : World), wx = wr ∧ k ≤ n ∧ i = .int .i64 k ∧ Hid (LW w wx R Q p Fb f ((L.take k).foldl addM m1))) (fun i _ => n - (intOf i).toNat)
  case atStart => exact ⟨0, _, rfl, by omega, rfl, HL1⟩
  case round =>
    clear HL1
    obtain ⟨k, wx, rfl, hk, rfl, HL⟩ := hrel
    by_cases hlt : k < n
    · have hlti : (k : Int) < (n : Int) := by omega
      have HLT := Lib.hid hlt
      obtain ⟨o, ho⟩ : ∃ o, L[k]? = some o := ⟨_, List.getElem?_eq_getElem (by rw [← HLn.out]; exact hlt)⟩
      obtain ⟨b, of, hoa, -, hc⟩ := (HSl.out wx HL.out.z.k).cells (by intro e; rw [e] at ho; cases ho)
      subst hoa
      obtain ⟨hkl, hoe⟩ := List.getElem?_eq_some_iff.1 ho
      obtain ⟨y0, y1, y2, y3, y4, y5, y6⟩ := po_cells (fun j hj => hc k hkl j hj)
      rw [hoe] at y0 y1 y2 y3 y4 y5 y6
      have hmem := List.mem_of_getElem? ho
      have hgm : GM ((L.take k).foldl addM m1) f (0 + (L.take k).length) := GM.fold _ 0 HG1.out (fun x hx => HGo.out x (List.mem_of_mem_take hx))
      have hlk : (L.take k).length ≤ 3 := by rw [List.length_take]; have := HL4.out; have := HLn.out; omega
      have HAdd := Lib.hid (add_any (HL.out.lay (.cells (poA o) 38)).m (HL.out.lay (.cells (poA o) 38)).t o (HGo.out o hmem).v (HKd.out o hmem) ⟨hgm.r0, by have := hgm.r1; omega⟩)
      have HFk : Hid ((L.take (k + 1)).foldl addM m1 = addM ((L.take k).foldl addM m1) o) := Lib.hid (fold_take ho m1)
      generalize (L.take k).foldl addM m1 = mk at HL HAdd HFk hgm
      clear hc ho hkl hoe hmem hgm hlk hk hlt
      go_wp2_with fail
      refine HAdd.out.mono ?_
      rintro e u ⟨rfl, hm, hkp⟩
      have HL2 : Hid (LW w u R Q p Fb f ((L.take (k + 1)).foldl addM m1)) := Lib.hid (by rw [HFk.out]; exact (HL.out.lay _).kept hkp hm)
      clear hm hkp
      go_wp2
      go_roundw
      case rel => exact ⟨k + 1, _, rfl, by have := HLT.out; omega, by go_num, HL2⟩
      case measure => have := HLT.out; simp [intOf]; omega
    · have hlti : ¬ (k : Int) < (n : Int) := by omega
      have hkn : k = n := by omega
      have HLe : Hid (LW w wx R Q p Fb f (L.foldl addM m1)) := Lib.hid (by have := HL.out; rwa [hkn, HLn.out, List.take_length] at this)
      have HGe : Hid (GM (L.foldl addM m1) f (0 + L.length)) := Lib.hid (GM.fold _ 0 HG1.out HGo.out)
      have HFe : Hid (makeF f S.data.toList L = doneM (endM f L (L.foldl addM m1))) := Lib.hid (by unfold makeF; rw [if_neg HNz.out]; unfold fillM; rw [← HM1.out])
      generalize L.foldl addM m1 = mm at HLe HGe HFe
      clear HL hkn hk hlt
      have d1 : wx.cell? ⟨Fb, 1, none⟩ = some (.int .i64 f.op) := RB.cell HLe.out.f
      by_cases h36 : f.op = 36 ∧ n = 0
      · have t36 : (f.op == 36) = true := by simpa using h36.1
        have tn : ((n : Int) == 0) = true := by simp [h36.2]
        have p5 : wx.cell? ⟨p, 5, none⟩ = some (.int .i64 mm.i.n) := RB.cell HLe.out.m
        have f5 : wx.frozen? ⟨p, 5, none⟩ = false := RB.frozen HLe.out.m
        obtain ⟨m3, hm3⟩ : ∃ m3 : Mk, m3 = { mm with i := { mm.i with n := 30 } } := ⟨_, rfl⟩
        have HL3 : Hid (LW w (wx.setCell ⟨p, 5, none⟩ (.int .i64 30)) R Q p Fb f m3) := Lib.hid (HLe.out.set (m' := m3) 5 (.int .i64 30) (by rw [hm3]; rfl))
        have HI3 : Hid (InB m3.i) := Lib.hid (by rw [hm3]; have := HGe.out.i; exact ⟨this.op, this.d, by unfold i64B; simp only; omega, this.m, this.a, this.imm, this.mask, this.shift, this.amount, this.cond⟩)
        have HD : Hid (makeF f S.data.toList L = doneM m3) := Lib.hid (by rw [HFe.out, hm3]; unfold endM; rw [if_pos ⟨h36.1, List.length_eq_zero_iff.1 (by rw [← HLn.out]; exact h36.2)⟩])
        clear hm3 h36 HLe HGe HFe
        have c19 : World.cell? _ ⟨p, 19, none⟩ = some (.bool m3.wrong) := RB.cell HL3.out.m
        cases hwr : m3.wrong with
        | true =>
          rw [hwr] at c19
          have HZz := HL3.out.z
          obtain ⟨x0, x1, x2, x3, x4, x5, x6, x7, x8, x9, xf⟩ := ten_cells HZz.r
          obtain ⟨y0, y1, y2, y3, y4, yf⟩ := five_cells HZz.s
          have n1 : R ≠ Q := HZz.ne
          have n2 : Q ≠ R := Ne.symm n1
          obtain ⟨hr1, hs1, hb1⟩ := HZz.told inZ ndZ
          have H1 := Lib.hid hr1
          have H2 := Lib.hid hs1
          have H3 := Lib.hid hb1
          have HQ1 : Hid (makeF f S.data.toList L = (inZ, ndZ, 1)) := Lib.hid (by rw [HD.out]; unfold doneM; rw [if_pos hwr])
          clear hr1 hs1 hb1 HZz
          go_wp2
          refine bodyPost_ret (results_make _ _ R Q inZ ndZ 1 rfl rfl rfl H1.out H2.out) rfl ?_
          exact ⟨by rw [HQ1.out], H3.out⟩
        | false =>
          rw [hwr] at c19
          have c20 : World.cell? _ ⟨p, 20, none⟩ = some (.bool m3.great) := RB.cell HL3.out.m
          cases hgr : m3.great with
          | true =>
            rw [hgr] at c20
            have HZz := HL3.out.z
            obtain ⟨x0, x1, x2, x3, x4, x5, x6, x7, x8, x9, xf⟩ := ten_cells HZz.r
            obtain ⟨y0, y1, y2, y3, y4, yf⟩ := five_cells HZz.s
            have n1 : R ≠ Q := HZz.ne
            have n2 : Q ≠ R := Ne.symm n1
            obtain ⟨hr1, hs1, hb1⟩ := HZz.told inZ ndZ
            have H1 := Lib.hid hr1
            have H2 := Lib.hid hs1
            have H3 := Lib.hid hb1
            have HQ1 : Hid (makeF f S.data.toList L = (inZ, ndZ, 4)) := Lib.hid (by rw [HD.out]; unfold doneM; rw [if_neg (by rw [hwr]; decide), if_pos (.inl hgr)])
            clear hr1 hs1 hb1 HZz
            go_wp2
            refine bodyPost_ret (results_make _ _ R Q inZ ndZ 4 rfl rfl rfl H1.out H2.out) rfl ?_
            exact ⟨by rw [HQ1.out], H3.out⟩
          | false =>
            rw [hgr] at c20
            have c3 : World.cell? _ ⟨p, 3, none⟩ = some (.int .i64 m3.i.op) := RB.cell HL3.out.m
            have c4 : World.cell? _ ⟨p, 4, none⟩ = some (.int .i64 m3.i.d) := RB.cell HL3.out.m
            have c5 : World.cell? _ ⟨p, 5, none⟩ = some (.int .i64 m3.i.n) := RB.cell HL3.out.m
            have c6 : World.cell? _ ⟨p, 6, none⟩ = some (.int .i64 m3.i.m) := RB.cell HL3.out.m
            have c7 : World.cell? _ ⟨p, 7, none⟩ = some (.int .i64 m3.i.a) := RB.cell HL3.out.m
            have c8 : World.cell? _ ⟨p, 8, none⟩ = some (.int .i64 m3.i.imm) := RB.cell HL3.out.m
            have c9 : World.cell? _ ⟨p, 9, none⟩ = some (.int .u64 m3.i.mask) := RB.cell HL3.out.m
            have c10 : World.cell? _ ⟨p, 10, none⟩ = some (.int .i64 m3.i.shift) := RB.cell HL3.out.m
            have c11 : World.cell? _ ⟨p, 11, none⟩ = some (.int .i64 m3.i.amount) := RB.cell HL3.out.m
            have c12 : World.cell? _ ⟨p, 12, none⟩ = some (.int .i64 m3.i.cond) := RB.cell HL3.out.m
            have HIs := Lib.hid (InstIs_any m3.i _ HL3.out.t.tab.1 HI3.out)
            have HWr := Lib.hid hwr
            have HGr := Lib.hid hgr
            clear hwr hgr
            go_wp2_with fail
            refine HIs.out.mono ?_
            rintro e v ⟨rfl, hb⟩
            replace HL3 := Lib.hid (HL3.out.next hb)
            clear hb HIs c3 c4 c5 c6 c7 c8 c9 c10 c11 c12 c19 c20
            cases his : isI m3.i with
            | false =>
              have HZz := HL3.out.z
              obtain ⟨x0, x1, x2, x3, x4, x5, x6, x7, x8, x9, xf⟩ := ten_cells HZz.r
              obtain ⟨y0, y1, y2, y3, y4, yf⟩ := five_cells HZz.s
              have n1 : R ≠ Q := HZz.ne
              have n2 : Q ≠ R := Ne.symm n1
              obtain ⟨hr1, hs1, hb1⟩ := HZz.told inZ ndZ
              have H1 := Lib.hid hr1
              have H2 := Lib.hid hs1
              have H3 := Lib.hid hb1
              have HQ1 : Hid (makeF f S.data.toList L = (inZ, ndZ, 4)) := Lib.hid (by rw [HD.out]; unfold doneM; rw [if_neg (by rw [HWr.out]; decide), if_pos (.inr his)])
              clear hr1 hs1 hb1 HZz
              go_wp2
              refine bodyPost_ret (results_make _ _ R Q inZ ndZ 4 rfl rfl rfl H1.out H2.out) rfl ?_
              exact ⟨by rw [HQ1.out], H3.out⟩
            | true =>
              have c3 : World.cell? _ ⟨p, 3, none⟩ = some (.int .i64 m3.i.op) := RB.cell HL3.out.m
              have c4 : World.cell? _ ⟨p, 4, none⟩ = some (.int .i64 m3.i.d) := RB.cell HL3.out.m
              have c5 : World.cell? _ ⟨p, 5, none⟩ = some (.int .i64 m3.i.n) := RB.cell HL3.out.m
              have c6 : World.cell? _ ⟨p, 6, none⟩ = some (.int .i64 m3.i.m) := RB.cell HL3.out.m
              have c7 : World.cell? _ ⟨p, 7, none⟩ = some (.int .i64 m3.i.a) := RB.cell HL3.out.m
              have c8 : World.cell? _ ⟨p, 8, none⟩ = some (.int .i64 m3.i.imm) := RB.cell HL3.out.m
              have c9 : World.cell? _ ⟨p, 9, none⟩ = some (.int .u64 m3.i.mask) := RB.cell HL3.out.m
              have c10 : World.cell? _ ⟨p, 10, none⟩ = some (.int .i64 m3.i.shift) := RB.cell HL3.out.m
              have c11 : World.cell? _ ⟨p, 11, none⟩ = some (.int .i64 m3.i.amount) := RB.cell HL3.out.m
              have c12 : World.cell? _ ⟨p, 12, none⟩ = some (.int .i64 m3.i.cond) := RB.cell HL3.out.m
              have c13 : World.cell? _ ⟨p, 13, none⟩ = some (.int .i64 m3.nd.kind) := RB.cell HL3.out.m
              have c14 : World.cell? _ ⟨p, 14, none⟩ = some (.string ⟨m3.nd.sym.toArray⟩) := RB.cell HL3.out.m
              have c15 : World.cell? _ ⟨p, 15, none⟩ = some (.int .i64 m3.nd.add) := RB.cell HL3.out.m
              have c16 : World.cell? _ ⟨p, 16, none⟩ = some (.bool m3.nd.minus) := RB.cell HL3.out.m
              have c17 : World.cell? _ ⟨p, 17, none⟩ = some (.int .u64 m3.nd.v) := RB.cell HL3.out.m
              have HQ1 : Hid (makeF f S.data.toList L = (m3.i, m3.nd, 0)) := Lib.hid (by rw [HD.out]; unfold doneM; rw [if_neg (by rw [HWr.out]; decide), if_neg (by rw [HGr.out, his]; decide)])
              obtain ⟨V0, hV0⟩ : ∃ V0, V0 = v.drew := ⟨_, rfl⟩
              have HV0 : Hid (v.drew = V0) := Lib.hid hV0.symm
              have hb0 : Below v.heap.size v V0 := by rw [hV0]; exact (Below.refl _ _).drew
              have hL4 := HL3.out.next hb0
              have HcP : Hid (∀ u, MS u p m3 → u.cell? ⟨p, 3, none⟩ = some (.int .i64 m3.i.op) ∧ u.cell? ⟨p, 4, none⟩ = some (.int .i64 m3.i.d) ∧ u.cell? ⟨p, 5, none⟩ = some (.int .i64 m3.i.n) ∧ u.cell? ⟨p, 6, none⟩ = some (.int .i64 m3.i.m) ∧ u.cell? ⟨p, 7, none⟩ = some (.int .i64 m3.i.a) ∧ u.cell? ⟨p, 8, none⟩ = some (.int .i64 m3.i.imm) ∧ u.cell? ⟨p, 9, none⟩ = some (.int .u64 m3.i.mask) ∧ u.cell? ⟨p, 10, none⟩ = some (.int .i64 m3.i.shift) ∧ u.cell? ⟨p, 11, none⟩ = some (.int .i64 m3.i.amount) ∧ u.cell? ⟨p, 12, none⟩ = some (.int .i64 m3.i.cond) ∧ u.cell? ⟨p, 13, none⟩ = some (.int .i64 m3.nd.kind) ∧ u.cell? ⟨p, 14, none⟩ = some (.string ⟨m3.nd.sym.toArray⟩) ∧ u.cell? ⟨p, 15, none⟩ = some (.int .i64 m3.nd.add) ∧ u.cell? ⟨p, 16, none⟩ = some (.bool m3.nd.minus) ∧ u.cell? ⟨p, 17, none⟩ = some (.int .u64 m3.nd.v)) := Lib.hid fun u hu => ⟨RB.cell hu, RB.cell hu, RB.cell hu, RB.cell hu, RB.cell hu, RB.cell hu, RB.cell hu, RB.cell hu, RB.cell hu, RB.cell hu, RB.cell hu, RB.cell hu, RB.cell hu, RB.cell hu, RB.cell hu⟩
              have HM4 := Lib.hid hL4.m
              have HM5 : Hid (MS (set10 V0 R m3.i) p m3) := Lib.hid (RB.kept hL4.m (kp10 V0 R m3.i) (Ne.symm hL4.nr))
              have HM6 : Hid (MS (set5b (set10 V0 R m3.i) Q m3.nd) p m3) := Lib.hid (RB.kept HM5.out (kp5 _ Q m3.nd) (Ne.symm hL4.nq))
              have HZz := hL4.z
              obtain ⟨x0, x1, x2, x3, x4, x5, x6, x7, x8, x9, xf⟩ := ten_cells HZz.r
              obtain ⟨y0, y1, y2, y3, y4, yf⟩ := five_cells (RB.kept HZz.s (kp10 V0 R m3.i) (Ne.symm HZz.ne))
              have n1 : R ≠ Q := HZz.ne
              have n2 : Q ≠ R := Ne.symm n1
              obtain ⟨hr1, hs1, hb1⟩ := HZz.told m3.i m3.nd
              have H1 := Lib.hid hr1
              have H2 := Lib.hid hs1
              have H3 := Lib.hid hb1
              clear hr1 hs1 hb1 HZz hV0 hb0 hL4 c3 c4 c5 c6 c7 c8 c9 c10 c11 c12 c13 c14 c15 c16 c17
              go_wp2_with fail
              refine wp_region_held_drew (S := fun v => v.cell? ⟨p, 3, none⟩ = some (.int .i64 m3.i.op) ∧ v.cell? ⟨p, 4, none⟩ = some (.int .i64 m3.i.d) ∧ v.cell? ⟨p, 5, none⟩ = some (.int .i64 m3.i.n) ∧ v.cell? ⟨p, 6, none⟩ = some (.int .i64 m3.i.m) ∧ v.cell? ⟨p, 7, none⟩ = some (.int .i64 m3.i.a) ∧ v.cell? ⟨p, 8, none⟩ = some (.int .i64 m3.i.imm) ∧ v.cell? ⟨p, 9, none⟩ = some (.int .u64 m3.i.mask) ∧ v.cell? ⟨p, 10, none⟩ = some (.int .i64 m3.i.shift) ∧ v.cell? ⟨p, 11, none⟩ = some (.int .i64 m3.i.amount) ∧ v.cell? ⟨p, 12, none⟩ = some (.int .i64 m3.i.cond) ∧ v.cell? ⟨p, 13, none⟩ = some (.int .i64 m3.nd.kind) ∧ v.cell? ⟨p, 14, none⟩ = some (.string ⟨m3.nd.sym.toArray⟩) ∧ v.cell? ⟨p, 15, none⟩ = some (.int .i64 m3.nd.add) ∧ v.cell? ⟨p, 16, none⟩ = some (.bool m3.nd.minus) ∧ v.cell? ⟨p, 17, none⟩ = some (.int .u64 m3.nd.v)) (by kernel_rfl) (by rw [HV0.out]; exact HcP.out _ HM4.out) (fun hHeld => ?_)
              rw [HV0.out]
              have hHeld0 := HcP.out _ HM4.out
              clear hHeld
              refine tk 0 ?_ rfl hHeld0 ?_ ?_
              rotate_left 1
              · intro w hS; obtain ⟨_, _, _, _, _, _, _, _, _, _, _, _, _, _, _⟩ := hS; go_simp; (try with_reducible rfl)
              (try simp only [Act.put, List.setIfInBounds_toArray, List.set_cons_zero, List.set_cons_succ])
              refine tk 1 ?_ rfl hHeld0 ?_ ?_
              rotate_left 1
              · intro w hS; obtain ⟨_, _, _, _, _, _, _, _, _, _, _, _, _, _, _⟩ := hS; go_simp; (try with_reducible rfl)
              (try simp only [Act.put, List.setIfInBounds_toArray, List.set_cons_zero, List.set_cons_succ])
              refine tk 2 ?_ rfl hHeld0 ?_ ?_
              rotate_left 1
              · intro w hS; obtain ⟨_, _, _, _, _, _, _, _, _, _, _, _, _, _, _⟩ := hS; go_simp; (try with_reducible rfl)
              (try simp only [Act.put, List.setIfInBounds_toArray, List.set_cons_zero, List.set_cons_succ])
              refine tk 3 ?_ rfl hHeld0 ?_ ?_
              rotate_left 1
              · intro w hS; obtain ⟨_, _, _, _, _, _, _, _, _, _, _, _, _, _, _⟩ := hS; go_simp; (try with_reducible rfl)
              (try simp only [Act.put, List.setIfInBounds_toArray, List.set_cons_zero, List.set_cons_succ])
              refine tk 4 ?_ rfl hHeld0 ?_ ?_
              rotate_left 1
              · intro w hS; obtain ⟨_, _, _, _, _, _, _, _, _, _, _, _, _, _, _⟩ := hS; go_simp; (try with_reducible rfl)
              (try simp only [Act.put, List.setIfInBounds_toArray, List.set_cons_zero, List.set_cons_succ])
              refine tk 5 ?_ rfl hHeld0 ?_ ?_
              rotate_left 1
              · intro w hS; obtain ⟨_, _, _, _, _, _, _, _, _, _, _, _, _, _, _⟩ := hS; go_simp; (try with_reducible rfl)
              (try simp only [Act.put, List.setIfInBounds_toArray, List.set_cons_zero, List.set_cons_succ])
              refine tk 6 ?_ rfl hHeld0 ?_ ?_
              rotate_left 1
              · intro w hS; obtain ⟨_, _, _, _, _, _, _, _, _, _, _, _, _, _, _⟩ := hS; go_simp; (try with_reducible rfl)
              (try simp only [Act.put, List.setIfInBounds_toArray, List.set_cons_zero, List.set_cons_succ])
              refine tk 7 ?_ rfl hHeld0 ?_ ?_
              rotate_left 1
              · intro w hS; obtain ⟨_, _, _, _, _, _, _, _, _, _, _, _, _, _, _⟩ := hS; go_simp; (try with_reducible rfl)
              (try simp only [Act.put, List.setIfInBounds_toArray, List.set_cons_zero, List.set_cons_succ])
              refine rd 8 rfl (fun K hK => ?_)
              go_simp
              refine hK.out _ _ (HcP.out _ HM5.out) (fun hHeld1 => ?_)
              clear hK K
              refine rd 9 rfl (fun K hK => ?_)
              go_simp
              refine hK.out _ _ (HcP.out _ HM6.out) (fun hHeld2 => ?_)
              clear hK K
              refine rd 10 rfl (fun K hK => ?_)
              go_simp
              refine hK.out _ _ (HcP.out _ HM6.out) (fun hHeld3 => ?_)
              clear hK K
              refine wpAnyH_done (by kernel_rfl) ?_ _
              go_wp2
              refine bodyPost_ret (results_make _ _ R Q m3.i m3.nd 0 rfl rfl rfl H1.out H2.out) rfl ?_
              exact ⟨by rw [HQ1.out], H3.out⟩
      · obtain ⟨m3, hm3⟩ : ∃ m3 : Mk, m3 = mm := ⟨_, rfl⟩
        have HL3 : Hid (LW w wx R Q p Fb f m3) := Lib.hid (by rw [hm3]; exact HLe.out)
        have HI3 : Hid (InB m3.i) := Lib.hid (by rw [hm3]; exact HGe.out.i)
        have HD : Hid (makeF f S.data.toList L = doneM m3) := Lib.hid (by rw [HFe.out, hm3]; unfold endM; rw [if_neg (fun hc => h36 ⟨hc.1, by rw [HLn.out, hc.2]; rfl⟩)])
        by_cases h37 : f.op = 36
        · have t36 : (f.op == 36) = true := by simpa using h37
          have tn : ((n : Int) == 0) = false := by
            rw [beq_eq_false_iff_ne]; intro e; exact h36 ⟨h37, by omega⟩
          clear hm3 h36 h37 HLe HGe HFe
          have c19 : World.cell? _ ⟨p, 19, none⟩ = some (.bool m3.wrong) := RB.cell HL3.out.m
          cases hwr : m3.wrong with
          | true =>
            rw [hwr] at c19
            have HZz := HL3.out.z
            obtain ⟨x0, x1, x2, x3, x4, x5, x6, x7, x8, x9, xf⟩ := ten_cells HZz.r
            obtain ⟨y0, y1, y2, y3, y4, yf⟩ := five_cells HZz.s
            have n1 : R ≠ Q := HZz.ne
            have n2 : Q ≠ R := Ne.symm n1
            obtain ⟨hr1, hs1, hb1⟩ := HZz.told inZ ndZ
            have H1 := Lib.hid hr1
            have H2 := Lib.hid hs1
            have H3 := Lib.hid hb1
            have HQ1 : Hid (makeF f S.data.toList L = (inZ, ndZ, 1)) := Lib.hid (by rw [HD.out]; unfold doneM; rw [if_pos hwr])
            clear hr1 hs1 hb1 HZz
            go_wp2
            refine bodyPost_ret (results_make _ _ R Q inZ ndZ 1 rfl rfl rfl H1.out H2.out) rfl ?_
            exact ⟨by rw [HQ1.out], H3.out⟩
          | false =>
            rw [hwr] at c19
            have c20 : World.cell? _ ⟨p, 20, none⟩ = some (.bool m3.great) := RB.cell HL3.out.m
            cases hgr : m3.great with
            | true =>
              rw [hgr] at c20
              have HZz := HL3.out.z
              obtain ⟨x0, x1, x2, x3, x4, x5, x6, x7, x8, x9, xf⟩ := ten_cells HZz.r
              obtain ⟨y0, y1, y2, y3, y4, yf⟩ := five_cells HZz.s
              have n1 : R ≠ Q := HZz.ne
              have n2 : Q ≠ R := Ne.symm n1
              obtain ⟨hr1, hs1, hb1⟩ := HZz.told inZ ndZ
              have H1 := Lib.hid hr1
              have H2 := Lib.hid hs1
              have H3 := Lib.hid hb1
              have HQ1 : Hid (makeF f S.data.toList L = (inZ, ndZ, 4)) := Lib.hid (by rw [HD.out]; unfold doneM; rw [if_neg (by rw [hwr]; decide), if_pos (.inl hgr)])
              clear hr1 hs1 hb1 HZz
              go_wp2
              refine bodyPost_ret (results_make _ _ R Q inZ ndZ 4 rfl rfl rfl H1.out H2.out) rfl ?_
              exact ⟨by rw [HQ1.out], H3.out⟩
            | false =>
              rw [hgr] at c20
              have c3 : World.cell? _ ⟨p, 3, none⟩ = some (.int .i64 m3.i.op) := RB.cell HL3.out.m
              have c4 : World.cell? _ ⟨p, 4, none⟩ = some (.int .i64 m3.i.d) := RB.cell HL3.out.m
              have c5 : World.cell? _ ⟨p, 5, none⟩ = some (.int .i64 m3.i.n) := RB.cell HL3.out.m
              have c6 : World.cell? _ ⟨p, 6, none⟩ = some (.int .i64 m3.i.m) := RB.cell HL3.out.m
              have c7 : World.cell? _ ⟨p, 7, none⟩ = some (.int .i64 m3.i.a) := RB.cell HL3.out.m
              have c8 : World.cell? _ ⟨p, 8, none⟩ = some (.int .i64 m3.i.imm) := RB.cell HL3.out.m
              have c9 : World.cell? _ ⟨p, 9, none⟩ = some (.int .u64 m3.i.mask) := RB.cell HL3.out.m
              have c10 : World.cell? _ ⟨p, 10, none⟩ = some (.int .i64 m3.i.shift) := RB.cell HL3.out.m
              have c11 : World.cell? _ ⟨p, 11, none⟩ = some (.int .i64 m3.i.amount) := RB.cell HL3.out.m
              have c12 : World.cell? _ ⟨p, 12, none⟩ = some (.int .i64 m3.i.cond) := RB.cell HL3.out.m
              have HIs := Lib.hid (InstIs_any m3.i _ HL3.out.t.tab.1 HI3.out)
              have HWr := Lib.hid hwr
              have HGr := Lib.hid hgr
              clear hwr hgr
              go_wp2_with fail
              refine HIs.out.mono ?_
              rintro e v ⟨rfl, hb⟩
              replace HL3 := Lib.hid (HL3.out.next hb)
              clear hb HIs c3 c4 c5 c6 c7 c8 c9 c10 c11 c12 c19 c20
              cases his : isI m3.i with
              | false =>
                have HZz := HL3.out.z
                obtain ⟨x0, x1, x2, x3, x4, x5, x6, x7, x8, x9, xf⟩ := ten_cells HZz.r
                obtain ⟨y0, y1, y2, y3, y4, yf⟩ := five_cells HZz.s
                have n1 : R ≠ Q := HZz.ne
                have n2 : Q ≠ R := Ne.symm n1
                obtain ⟨hr1, hs1, hb1⟩ := HZz.told inZ ndZ
                have H1 := Lib.hid hr1
                have H2 := Lib.hid hs1
                have H3 := Lib.hid hb1
                have HQ1 : Hid (makeF f S.data.toList L = (inZ, ndZ, 4)) := Lib.hid (by rw [HD.out]; unfold doneM; rw [if_neg (by rw [HWr.out]; decide), if_pos (.inr his)])
                clear hr1 hs1 hb1 HZz
                go_wp2
                refine bodyPost_ret (results_make _ _ R Q inZ ndZ 4 rfl rfl rfl H1.out H2.out) rfl ?_
                exact ⟨by rw [HQ1.out], H3.out⟩
              | true =>
                have c3 : World.cell? _ ⟨p, 3, none⟩ = some (.int .i64 m3.i.op) := RB.cell HL3.out.m
                have c4 : World.cell? _ ⟨p, 4, none⟩ = some (.int .i64 m3.i.d) := RB.cell HL3.out.m
                have c5 : World.cell? _ ⟨p, 5, none⟩ = some (.int .i64 m3.i.n) := RB.cell HL3.out.m
                have c6 : World.cell? _ ⟨p, 6, none⟩ = some (.int .i64 m3.i.m) := RB.cell HL3.out.m
                have c7 : World.cell? _ ⟨p, 7, none⟩ = some (.int .i64 m3.i.a) := RB.cell HL3.out.m
                have c8 : World.cell? _ ⟨p, 8, none⟩ = some (.int .i64 m3.i.imm) := RB.cell HL3.out.m
                have c9 : World.cell? _ ⟨p, 9, none⟩ = some (.int .u64 m3.i.mask) := RB.cell HL3.out.m
                have c10 : World.cell? _ ⟨p, 10, none⟩ = some (.int .i64 m3.i.shift) := RB.cell HL3.out.m
                have c11 : World.cell? _ ⟨p, 11, none⟩ = some (.int .i64 m3.i.amount) := RB.cell HL3.out.m
                have c12 : World.cell? _ ⟨p, 12, none⟩ = some (.int .i64 m3.i.cond) := RB.cell HL3.out.m
                have c13 : World.cell? _ ⟨p, 13, none⟩ = some (.int .i64 m3.nd.kind) := RB.cell HL3.out.m
                have c14 : World.cell? _ ⟨p, 14, none⟩ = some (.string ⟨m3.nd.sym.toArray⟩) := RB.cell HL3.out.m
                have c15 : World.cell? _ ⟨p, 15, none⟩ = some (.int .i64 m3.nd.add) := RB.cell HL3.out.m
                have c16 : World.cell? _ ⟨p, 16, none⟩ = some (.bool m3.nd.minus) := RB.cell HL3.out.m
                have c17 : World.cell? _ ⟨p, 17, none⟩ = some (.int .u64 m3.nd.v) := RB.cell HL3.out.m
                have HQ1 : Hid (makeF f S.data.toList L = (m3.i, m3.nd, 0)) := Lib.hid (by rw [HD.out]; unfold doneM; rw [if_neg (by rw [HWr.out]; decide), if_neg (by rw [HGr.out, his]; decide)])
                obtain ⟨V0, hV0⟩ : ∃ V0, V0 = v.drew := ⟨_, rfl⟩
                have HV0 : Hid (v.drew = V0) := Lib.hid hV0.symm
                have hb0 : Below v.heap.size v V0 := by rw [hV0]; exact (Below.refl _ _).drew
                have hL4 := HL3.out.next hb0
                have HcP : Hid (∀ u, MS u p m3 → u.cell? ⟨p, 3, none⟩ = some (.int .i64 m3.i.op) ∧ u.cell? ⟨p, 4, none⟩ = some (.int .i64 m3.i.d) ∧ u.cell? ⟨p, 5, none⟩ = some (.int .i64 m3.i.n) ∧ u.cell? ⟨p, 6, none⟩ = some (.int .i64 m3.i.m) ∧ u.cell? ⟨p, 7, none⟩ = some (.int .i64 m3.i.a) ∧ u.cell? ⟨p, 8, none⟩ = some (.int .i64 m3.i.imm) ∧ u.cell? ⟨p, 9, none⟩ = some (.int .u64 m3.i.mask) ∧ u.cell? ⟨p, 10, none⟩ = some (.int .i64 m3.i.shift) ∧ u.cell? ⟨p, 11, none⟩ = some (.int .i64 m3.i.amount) ∧ u.cell? ⟨p, 12, none⟩ = some (.int .i64 m3.i.cond) ∧ u.cell? ⟨p, 13, none⟩ = some (.int .i64 m3.nd.kind) ∧ u.cell? ⟨p, 14, none⟩ = some (.string ⟨m3.nd.sym.toArray⟩) ∧ u.cell? ⟨p, 15, none⟩ = some (.int .i64 m3.nd.add) ∧ u.cell? ⟨p, 16, none⟩ = some (.bool m3.nd.minus) ∧ u.cell? ⟨p, 17, none⟩ = some (.int .u64 m3.nd.v)) := Lib.hid fun u hu => ⟨RB.cell hu, RB.cell hu, RB.cell hu, RB.cell hu, RB.cell hu, RB.cell hu, RB.cell hu, RB.cell hu, RB.cell hu, RB.cell hu, RB.cell hu, RB.cell hu, RB.cell hu, RB.cell hu, RB.cell hu⟩
                have HM4 := Lib.hid hL4.m
                have HM5 : Hid (MS (set10 V0 R m3.i) p m3) := Lib.hid (RB.kept hL4.m (kp10 V0 R m3.i) (Ne.symm hL4.nr))
                have HM6 : Hid (MS (set5b (set10 V0 R m3.i) Q m3.nd) p m3) := Lib.hid (RB.kept HM5.out (kp5 _ Q m3.nd) (Ne.symm hL4.nq))
                have HZz := hL4.z
                obtain ⟨x0, x1, x2, x3, x4, x5, x6, x7, x8, x9, xf⟩ := ten_cells HZz.r
                obtain ⟨y0, y1, y2, y3, y4, yf⟩ := five_cells (RB.kept HZz.s (kp10 V0 R m3.i) (Ne.symm HZz.ne))
                have n1 : R ≠ Q := HZz.ne
                have n2 : Q ≠ R := Ne.symm n1
                obtain ⟨hr1, hs1, hb1⟩ := HZz.told m3.i m3.nd
                have H1 := Lib.hid hr1
                have H2 := Lib.hid hs1
                have H3 := Lib.hid hb1
                clear hr1 hs1 hb1 HZz hV0 hb0 hL4 c3 c4 c5 c6 c7 c8 c9 c10 c11 c12 c13 c14 c15 c16 c17
                go_wp2_with fail
                refine wp_region_held_drew (S := fun v => v.cell? ⟨p, 3, none⟩ = some (.int .i64 m3.i.op) ∧ v.cell? ⟨p, 4, none⟩ = some (.int .i64 m3.i.d) ∧ v.cell? ⟨p, 5, none⟩ = some (.int .i64 m3.i.n) ∧ v.cell? ⟨p, 6, none⟩ = some (.int .i64 m3.i.m) ∧ v.cell? ⟨p, 7, none⟩ = some (.int .i64 m3.i.a) ∧ v.cell? ⟨p, 8, none⟩ = some (.int .i64 m3.i.imm) ∧ v.cell? ⟨p, 9, none⟩ = some (.int .u64 m3.i.mask) ∧ v.cell? ⟨p, 10, none⟩ = some (.int .i64 m3.i.shift) ∧ v.cell? ⟨p, 11, none⟩ = some (.int .i64 m3.i.amount) ∧ v.cell? ⟨p, 12, none⟩ = some (.int .i64 m3.i.cond) ∧ v.cell? ⟨p, 13, none⟩ = some (.int .i64 m3.nd.kind) ∧ v.cell? ⟨p, 14, none⟩ = some (.string ⟨m3.nd.sym.toArray⟩) ∧ v.cell? ⟨p, 15, none⟩ = some (.int .i64 m3.nd.add) ∧ v.cell? ⟨p, 16, none⟩ = some (.bool m3.nd.minus) ∧ v.cell? ⟨p, 17, none⟩ = some (.int .u64 m3.nd.v)) (by kernel_rfl) (by rw [HV0.out]; exact HcP.out _ HM4.out) (fun hHeld => ?_)
                rw [HV0.out]
                have hHeld0 := HcP.out _ HM4.out
                clear hHeld
                refine tk 0 ?_ rfl hHeld0 ?_ ?_
                rotate_left 1
                · intro w hS; obtain ⟨_, _, _, _, _, _, _, _, _, _, _, _, _, _, _⟩ := hS; go_simp; (try with_reducible rfl)
                (try simp only [Act.put, List.setIfInBounds_toArray, List.set_cons_zero, List.set_cons_succ])
                refine tk 1 ?_ rfl hHeld0 ?_ ?_
                rotate_left 1
                · intro w hS; obtain ⟨_, _, _, _, _, _, _, _, _, _, _, _, _, _, _⟩ := hS; go_simp; (try with_reducible rfl)
                (try simp only [Act.put, List.setIfInBounds_toArray, List.set_cons_zero, List.set_cons_succ])
                refine tk 2 ?_ rfl hHeld0 ?_ ?_
                rotate_left 1
                · intro w hS; obtain ⟨_, _, _, _, _, _, _, _, _, _, _, _, _, _, _⟩ := hS; go_simp; (try with_reducible rfl)
                (try simp only [Act.put, List.setIfInBounds_toArray, List.set_cons_zero, List.set_cons_succ])
                refine tk 3 ?_ rfl hHeld0 ?_ ?_
                rotate_left 1
                · intro w hS; obtain ⟨_, _, _, _, _, _, _, _, _, _, _, _, _, _, _⟩ := hS; go_simp; (try with_reducible rfl)
                (try simp only [Act.put, List.setIfInBounds_toArray, List.set_cons_zero, List.set_cons_succ])
                refine tk 4 ?_ rfl hHeld0 ?_ ?_
                rotate_left 1
                · intro w hS; obtain ⟨_, _, _, _, _, _, _, _, _, _, _, _, _, _, _⟩ := hS; go_simp; (try with_reducible rfl)
                (try simp only [Act.put, List.setIfInBounds_toArray, List.set_cons_zero, List.set_cons_succ])
                refine tk 5 ?_ rfl hHeld0 ?_ ?_
                rotate_left 1
                · intro w hS; obtain ⟨_, _, _, _, _, _, _, _, _, _, _, _, _, _, _⟩ := hS; go_simp; (try with_reducible rfl)
                (try simp only [Act.put, List.setIfInBounds_toArray, List.set_cons_zero, List.set_cons_succ])
                refine tk 6 ?_ rfl hHeld0 ?_ ?_
                rotate_left 1
                · intro w hS; obtain ⟨_, _, _, _, _, _, _, _, _, _, _, _, _, _, _⟩ := hS; go_simp; (try with_reducible rfl)
                (try simp only [Act.put, List.setIfInBounds_toArray, List.set_cons_zero, List.set_cons_succ])
                refine tk 7 ?_ rfl hHeld0 ?_ ?_
                rotate_left 1
                · intro w hS; obtain ⟨_, _, _, _, _, _, _, _, _, _, _, _, _, _, _⟩ := hS; go_simp; (try with_reducible rfl)
                (try simp only [Act.put, List.setIfInBounds_toArray, List.set_cons_zero, List.set_cons_succ])
                refine rd 8 rfl (fun K hK => ?_)
                go_simp
                refine hK.out _ _ (HcP.out _ HM5.out) (fun hHeld1 => ?_)
                clear hK K
                refine rd 9 rfl (fun K hK => ?_)
                go_simp
                refine hK.out _ _ (HcP.out _ HM6.out) (fun hHeld2 => ?_)
                clear hK K
                refine rd 10 rfl (fun K hK => ?_)
                go_simp
                refine hK.out _ _ (HcP.out _ HM6.out) (fun hHeld3 => ?_)
                clear hK K
                refine wpAnyH_done (by kernel_rfl) ?_ _
                go_wp2
                refine bodyPost_ret (results_make _ _ R Q m3.i m3.nd 0 rfl rfl rfl H1.out H2.out) rfl ?_
                exact ⟨by rw [HQ1.out], H3.out⟩
        · have t36 : (f.op == 36) = false := by simpa using h37
          clear hm3 h36 h37 HLe HGe HFe
          have c19 : World.cell? _ ⟨p, 19, none⟩ = some (.bool m3.wrong) := RB.cell HL3.out.m
          cases hwr : m3.wrong with
          | true =>
            rw [hwr] at c19
            have HZz := HL3.out.z
            obtain ⟨x0, x1, x2, x3, x4, x5, x6, x7, x8, x9, xf⟩ := ten_cells HZz.r
            obtain ⟨y0, y1, y2, y3, y4, yf⟩ := five_cells HZz.s
            have n1 : R ≠ Q := HZz.ne
            have n2 : Q ≠ R := Ne.symm n1
            obtain ⟨hr1, hs1, hb1⟩ := HZz.told inZ ndZ
            have H1 := Lib.hid hr1
            have H2 := Lib.hid hs1
            have H3 := Lib.hid hb1
            have HQ1 : Hid (makeF f S.data.toList L = (inZ, ndZ, 1)) := Lib.hid (by rw [HD.out]; unfold doneM; rw [if_pos hwr])
            clear hr1 hs1 hb1 HZz
            go_wp2
            refine bodyPost_ret (results_make _ _ R Q inZ ndZ 1 rfl rfl rfl H1.out H2.out) rfl ?_
            exact ⟨by rw [HQ1.out], H3.out⟩
          | false =>
            rw [hwr] at c19
            have c20 : World.cell? _ ⟨p, 20, none⟩ = some (.bool m3.great) := RB.cell HL3.out.m
            cases hgr : m3.great with
            | true =>
              rw [hgr] at c20
              have HZz := HL3.out.z
              obtain ⟨x0, x1, x2, x3, x4, x5, x6, x7, x8, x9, xf⟩ := ten_cells HZz.r
              obtain ⟨y0, y1, y2, y3, y4, yf⟩ := five_cells HZz.s
              have n1 : R ≠ Q := HZz.ne
              have n2 : Q ≠ R := Ne.symm n1
              obtain ⟨hr1, hs1, hb1⟩ := HZz.told inZ ndZ
              have H1 := Lib.hid hr1
              have H2 := Lib.hid hs1
              have H3 := Lib.hid hb1
              have HQ1 : Hid (makeF f S.data.toList L = (inZ, ndZ, 4)) := Lib.hid (by rw [HD.out]; unfold doneM; rw [if_neg (by rw [hwr]; decide), if_pos (.inl hgr)])
              clear hr1 hs1 hb1 HZz
              go_wp2
              refine bodyPost_ret (results_make _ _ R Q inZ ndZ 4 rfl rfl rfl H1.out H2.out) rfl ?_
              exact ⟨by rw [HQ1.out], H3.out⟩
            | false =>
              rw [hgr] at c20
              have c3 : World.cell? _ ⟨p, 3, none⟩ = some (.int .i64 m3.i.op) := RB.cell HL3.out.m
              have c4 : World.cell? _ ⟨p, 4, none⟩ = some (.int .i64 m3.i.d) := RB.cell HL3.out.m
              have c5 : World.cell? _ ⟨p, 5, none⟩ = some (.int .i64 m3.i.n) := RB.cell HL3.out.m
              have c6 : World.cell? _ ⟨p, 6, none⟩ = some (.int .i64 m3.i.m) := RB.cell HL3.out.m
              have c7 : World.cell? _ ⟨p, 7, none⟩ = some (.int .i64 m3.i.a) := RB.cell HL3.out.m
              have c8 : World.cell? _ ⟨p, 8, none⟩ = some (.int .i64 m3.i.imm) := RB.cell HL3.out.m
              have c9 : World.cell? _ ⟨p, 9, none⟩ = some (.int .u64 m3.i.mask) := RB.cell HL3.out.m
              have c10 : World.cell? _ ⟨p, 10, none⟩ = some (.int .i64 m3.i.shift) := RB.cell HL3.out.m
              have c11 : World.cell? _ ⟨p, 11, none⟩ = some (.int .i64 m3.i.amount) := RB.cell HL3.out.m
              have c12 : World.cell? _ ⟨p, 12, none⟩ = some (.int .i64 m3.i.cond) := RB.cell HL3.out.m
              have HIs := Lib.hid (InstIs_any m3.i _ HL3.out.t.tab.1 HI3.out)
              have HWr := Lib.hid hwr
              have HGr := Lib.hid hgr
              clear hwr hgr
              go_wp2_with fail
              refine HIs.out.mono ?_
              rintro e v ⟨rfl, hb⟩
              replace HL3 := Lib.hid (HL3.out.next hb)
              clear hb HIs c3 c4 c5 c6 c7 c8 c9 c10 c11 c12 c19 c20
              cases his : isI m3.i with
              | false =>
                have HZz := HL3.out.z
                obtain ⟨x0, x1, x2, x3, x4, x5, x6, x7, x8, x9, xf⟩ := ten_cells HZz.r
                obtain ⟨y0, y1, y2, y3, y4, yf⟩ := five_cells HZz.s
                have n1 : R ≠ Q := HZz.ne
                have n2 : Q ≠ R := Ne.symm n1
                obtain ⟨hr1, hs1, hb1⟩ := HZz.told inZ ndZ
                have H1 := Lib.hid hr1
                have H2 := Lib.hid hs1
                have H3 := Lib.hid hb1
                have HQ1 : Hid (makeF f S.data.toList L = (inZ, ndZ, 4)) := Lib.hid (by rw [HD.out]; unfold doneM; rw [if_neg (by rw [HWr.out]; decide), if_pos (.inr his)])
                clear hr1 hs1 hb1 HZz
                go_wp2
                refine bodyPost_ret (results_make _ _ R Q inZ ndZ 4 rfl rfl rfl H1.out H2.out) rfl ?_
                exact ⟨by rw [HQ1.out], H3.out⟩
              | true =>
                have c3 : World.cell? _ ⟨p, 3, none⟩ = some (.int .i64 m3.i.op) := RB.cell HL3.out.m
                have c4 : World.cell? _ ⟨p, 4, none⟩ = some (.int .i64 m3.i.d) := RB.cell HL3.out.m
                have c5 : World.cell? _ ⟨p, 5, none⟩ = some (.int .i64 m3.i.n) := RB.cell HL3.out.m
                have c6 : World.cell? _ ⟨p, 6, none⟩ = some (.int .i64 m3.i.m) := RB.cell HL3.out.m
                have c7 : World.cell? _ ⟨p, 7, none⟩ = some (.int .i64 m3.i.a) := RB.cell HL3.out.m
                have c8 : World.cell? _ ⟨p, 8, none⟩ = some (.int .i64 m3.i.imm) := RB.cell HL3.out.m
                have c9 : World.cell? _ ⟨p, 9, none⟩ = some (.int .u64 m3.i.mask) := RB.cell HL3.out.m
                have c10 : World.cell? _ ⟨p, 10, none⟩ = some (.int .i64 m3.i.shift) := RB.cell HL3.out.m
                have c11 : World.cell? _ ⟨p, 11, none⟩ = some (.int .i64 m3.i.amount) := RB.cell HL3.out.m
                have c12 : World.cell? _ ⟨p, 12, none⟩ = some (.int .i64 m3.i.cond) := RB.cell HL3.out.m
                have c13 : World.cell? _ ⟨p, 13, none⟩ = some (.int .i64 m3.nd.kind) := RB.cell HL3.out.m
                have c14 : World.cell? _ ⟨p, 14, none⟩ = some (.string ⟨m3.nd.sym.toArray⟩) := RB.cell HL3.out.m
                have c15 : World.cell? _ ⟨p, 15, none⟩ = some (.int .i64 m3.nd.add) := RB.cell HL3.out.m
                have c16 : World.cell? _ ⟨p, 16, none⟩ = some (.bool m3.nd.minus) := RB.cell HL3.out.m
                have c17 : World.cell? _ ⟨p, 17, none⟩ = some (.int .u64 m3.nd.v) := RB.cell HL3.out.m
                have HQ1 : Hid (makeF f S.data.toList L = (m3.i, m3.nd, 0)) := Lib.hid (by rw [HD.out]; unfold doneM; rw [if_neg (by rw [HWr.out]; decide), if_neg (by rw [HGr.out, his]; decide)])
                obtain ⟨V0, hV0⟩ : ∃ V0, V0 = v.drew := ⟨_, rfl⟩
                have HV0 : Hid (v.drew = V0) := Lib.hid hV0.symm
                have hb0 : Below v.heap.size v V0 := by rw [hV0]; exact (Below.refl _ _).drew
                have hL4 := HL3.out.next hb0
                have HcP : Hid (∀ u, MS u p m3 → u.cell? ⟨p, 3, none⟩ = some (.int .i64 m3.i.op) ∧ u.cell? ⟨p, 4, none⟩ = some (.int .i64 m3.i.d) ∧ u.cell? ⟨p, 5, none⟩ = some (.int .i64 m3.i.n) ∧ u.cell? ⟨p, 6, none⟩ = some (.int .i64 m3.i.m) ∧ u.cell? ⟨p, 7, none⟩ = some (.int .i64 m3.i.a) ∧ u.cell? ⟨p, 8, none⟩ = some (.int .i64 m3.i.imm) ∧ u.cell? ⟨p, 9, none⟩ = some (.int .u64 m3.i.mask) ∧ u.cell? ⟨p, 10, none⟩ = some (.int .i64 m3.i.shift) ∧ u.cell? ⟨p, 11, none⟩ = some (.int .i64 m3.i.amount) ∧ u.cell? ⟨p, 12, none⟩ = some (.int .i64 m3.i.cond) ∧ u.cell? ⟨p, 13, none⟩ = some (.int .i64 m3.nd.kind) ∧ u.cell? ⟨p, 14, none⟩ = some (.string ⟨m3.nd.sym.toArray⟩) ∧ u.cell? ⟨p, 15, none⟩ = some (.int .i64 m3.nd.add) ∧ u.cell? ⟨p, 16, none⟩ = some (.bool m3.nd.minus) ∧ u.cell? ⟨p, 17, none⟩ = some (.int .u64 m3.nd.v)) := Lib.hid fun u hu => ⟨RB.cell hu, RB.cell hu, RB.cell hu, RB.cell hu, RB.cell hu, RB.cell hu, RB.cell hu, RB.cell hu, RB.cell hu, RB.cell hu, RB.cell hu, RB.cell hu, RB.cell hu, RB.cell hu, RB.cell hu⟩
                have HM4 := Lib.hid hL4.m
                have HM5 : Hid (MS (set10 V0 R m3.i) p m3) := Lib.hid (RB.kept hL4.m (kp10 V0 R m3.i) (Ne.symm hL4.nr))
                have HM6 : Hid (MS (set5b (set10 V0 R m3.i) Q m3.nd) p m3) := Lib.hid (RB.kept HM5.out (kp5 _ Q m3.nd) (Ne.symm hL4.nq))
                have HZz := hL4.z
                obtain ⟨x0, x1, x2, x3, x4, x5, x6, x7, x8, x9, xf⟩ := ten_cells HZz.r
                obtain ⟨y0, y1, y2, y3, y4, yf⟩ := five_cells (RB.kept HZz.s (kp10 V0 R m3.i) (Ne.symm HZz.ne))
                have n1 : R ≠ Q := HZz.ne
                have n2 : Q ≠ R := Ne.symm n1
                obtain ⟨hr1, hs1, hb1⟩ := HZz.told m3.i m3.nd
                have H1 := Lib.hid hr1
                have H2 := Lib.hid hs1
                have H3 := Lib.hid hb1
                clear hr1 hs1 hb1 HZz hV0 hb0 hL4 c3 c4 c5 c6 c7 c8 c9 c10 c11 c12 c13 c14 c15 c16 c17
                go_wp2_with fail
                refine wp_region_held_drew (S := fun v => v.cell? ⟨p, 3, none⟩ = some (.int .i64 m3.i.op) ∧ v.cell? ⟨p, 4, none⟩ = some (.int .i64 m3.i.d) ∧ v.cell? ⟨p, 5, none⟩ = some (.int .i64 m3.i.n) ∧ v.cell? ⟨p, 6, none⟩ = some (.int .i64 m3.i.m) ∧ v.cell? ⟨p, 7, none⟩ = some (.int .i64 m3.i.a) ∧ v.cell? ⟨p, 8, none⟩ = some (.int .i64 m3.i.imm) ∧ v.cell? ⟨p, 9, none⟩ = some (.int .u64 m3.i.mask) ∧ v.cell? ⟨p, 10, none⟩ = some (.int .i64 m3.i.shift) ∧ v.cell? ⟨p, 11, none⟩ = some (.int .i64 m3.i.amount) ∧ v.cell? ⟨p, 12, none⟩ = some (.int .i64 m3.i.cond) ∧ v.cell? ⟨p, 13, none⟩ = some (.int .i64 m3.nd.kind) ∧ v.cell? ⟨p, 14, none⟩ = some (.string ⟨m3.nd.sym.toArray⟩) ∧ v.cell? ⟨p, 15, none⟩ = some (.int .i64 m3.nd.add) ∧ v.cell? ⟨p, 16, none⟩ = some (.bool m3.nd.minus) ∧ v.cell? ⟨p, 17, none⟩ = some (.int .u64 m3.nd.v)) (by kernel_rfl) (by rw [HV0.out]; exact HcP.out _ HM4.out) (fun hHeld => ?_)
                rw [HV0.out]
                have hHeld0 := HcP.out _ HM4.out
                clear hHeld
                refine tk 0 ?_ rfl hHeld0 ?_ ?_
                rotate_left 1
                · intro w hS; obtain ⟨_, _, _, _, _, _, _, _, _, _, _, _, _, _, _⟩ := hS; go_simp; (try with_reducible rfl)
                (try simp only [Act.put, List.setIfInBounds_toArray, List.set_cons_zero, List.set_cons_succ])
                refine tk 1 ?_ rfl hHeld0 ?_ ?_
                rotate_left 1
                · intro w hS; obtain ⟨_, _, _, _, _, _, _, _, _, _, _, _, _, _, _⟩ := hS; go_simp; (try with_reducible rfl)
                (try simp only [Act.put, List.setIfInBounds_toArray, List.set_cons_zero, List.set_cons_succ])
                refine tk 2 ?_ rfl hHeld0 ?_ ?_
                rotate_left 1
                · intro w hS; obtain ⟨_, _, _, _, _, _, _, _, _, _, _, _, _, _, _⟩ := hS; go_simp; (try with_reducible rfl)
                (try simp only [Act.put, List.setIfInBounds_toArray, List.set_cons_zero, List.set_cons_succ])
                refine tk 3 ?_ rfl hHeld0 ?_ ?_
                rotate_left 1
                · intro w hS; obtain ⟨_, _, _, _, _, _, _, _, _, _, _, _, _, _, _⟩ := hS; go_simp; (try with_reducible rfl)
                (try simp only [Act.put, List.setIfInBounds_toArray, List.set_cons_zero, List.set_cons_succ])
                refine tk 4 ?_ rfl hHeld0 ?_ ?_
                rotate_left 1
                · intro w hS; obtain ⟨_, _, _, _, _, _, _, _, _, _, _, _, _, _, _⟩ := hS; go_simp; (try with_reducible rfl)
                (try simp only [Act.put, List.setIfInBounds_toArray, List.set_cons_zero, List.set_cons_succ])
                refine tk 5 ?_ rfl hHeld0 ?_ ?_
                rotate_left 1
                · intro w hS; obtain ⟨_, _, _, _, _, _, _, _, _, _, _, _, _, _, _⟩ := hS; go_simp; (try with_reducible rfl)
                (try simp only [Act.put, List.setIfInBounds_toArray, List.set_cons_zero, List.set_cons_succ])
                refine tk 6 ?_ rfl hHeld0 ?_ ?_
                rotate_left 1
                · intro w hS; obtain ⟨_, _, _, _, _, _, _, _, _, _, _, _, _, _, _⟩ := hS; go_simp; (try with_reducible rfl)
                (try simp only [Act.put, List.setIfInBounds_toArray, List.set_cons_zero, List.set_cons_succ])
                refine tk 7 ?_ rfl hHeld0 ?_ ?_
                rotate_left 1
                · intro w hS; obtain ⟨_, _, _, _, _, _, _, _, _, _, _, _, _, _, _⟩ := hS; go_simp; (try with_reducible rfl)
                (try simp only [Act.put, List.setIfInBounds_toArray, List.set_cons_zero, List.set_cons_succ])
                refine rd 8 rfl (fun K hK => ?_)
                go_simp
                refine hK.out _ _ (HcP.out _ HM5.out) (fun hHeld1 => ?_)
                clear hK K
                refine rd 9 rfl (fun K hK => ?_)
                go_simp
                refine hK.out _ _ (HcP.out _ HM6.out) (fun hHeld2 => ?_)
                clear hK K
                refine rd 10 rfl (fun K hK => ?_)
                go_simp
                refine hK.out _ _ (HcP.out _ HM6.out) (fun hHeld3 => ?_)
                clear hK K
                refine wpAnyH_done (by kernel_rfl) ?_ _
                go_wp2
                refine bodyPost_ret (results_make _ _ R Q m3.i m3.nd 0 rfl rfl rfl H1.out H2.out) rfl ?_
                exact ⟨by rw [HQ1.out], H3.out⟩
end Go.Proofs.YthejefldnpeciaaGreatDoor
