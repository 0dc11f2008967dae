/- lex: token. -/
import Derived.Test.YtngoipcjipbelaaDoorLH
import Derived.Laws.Rows
namespace Go.Proofs.YtngoipcjipbelaaDoor
set_option linter.unusedVariables false
set_option linter.unusedSimpArgs false
open Go.ChangeShapes Go.WideShapes Go.Deep Go.RowKit

section
variable {P : Program}
/-- Two results: a struct in a variable of its own, and another one. -/
theorem results_cell_two {fn : Func} {p q : Tmp} {ty : TypeId} (h : fn.results = #[.cell p ty, .tmp q]) (tmps : Array Value) (w : World) (g : Nat) (t : TypeId) (cs : Array Value) (fr : Nat × Nat) (d : TypeDesc) (x : Value)
    (hp : tmps.getD p undef = .pointer (some ⟨g, 0, none⟩)) (hg : w.heap[g]? = some (.cells cs t fr))
    (hu : P.underlying ty = some d) (hd : (match d with | .struct _ | .array _ _ => true | _ => false) = true) (hi : (P.info? ty).map (·.size) = some cs.size) (hx : tmps.getD q undef = x) :
    (results fn tmps).run P w = .ok (.tuple #[.agg cs, x]) w := by
  have hp' : tmps[p]?.getD undef = .pointer (some ⟨g, 0, none⟩) := by simpa using hp
  have hx' : tmps[q]?.getD undef = x := by simpa using hx
  simp [results, h, hp', hx', asAddr, run_loadVar_row w g t ty cs fr d hg hu hd hi]
end
def tkC (t : Tk) : List Value := [.int .i64 (t.kind : Int), .string ⟨t.text.toArray⟩, .int .u64 (t.v : Int)]
def TokP (p : Nat) (rs : List Nat) (at0 : Nat) (w : World) (e : Ending) (w' : World) : Prop :=
  match tokL (rs.drop at0) with
  | some (t, u) => ∃ a1, a1 ≤ rs.length ∧ rs.drop a1 = u ∧ e = .returned (.tuple #[.agg (tkC t).toArray, .bool true]) ∧ RD w' p rs a1 ∧ KP p w w'
  | none => ∃ (k : Int) (s : ByteArray) (x : Int), e = .returned (.tuple #[.agg #[.int .i64 k, .string s, .int .u64 x], .bool false]) ∧ KP p w w'
theorem TokP.some_mk {p : Nat} {rs : List Nat} {s : Nat} {w : World} {e : Ending} {w' : World} {t : Tk} {u : List Nat} (h : tokL (rs.drop s) = some (t, u)) {a1 : Nat} (h1 : a1 ≤ rs.length) (h2 : rs.drop a1 = u)
    (h3 : e = .returned (.tuple #[.agg (tkC t).toArray, .bool true])) (h4 : RD w' p rs a1) (h5 : KP p w w') : TokP p rs s w e w' := by
  unfold TokP; rw [h]; exact ⟨a1, h1, h2, h3, h4, h5⟩
theorem TokP.none_mk {p : Nat} {rs : List Nat} {s : Nat} {w : World} {e : Ending} {w' : World} (h : tokL (rs.drop s) = none) {k : Int} {t : ByteArray} {x : Int} (h3 : e = .returned (.tuple #[.agg #[.int .i64 k, .string t, .int .u64 x], .bool false])) (h5 : KP p w w') : TokP p rs s w e w' := by
  unfold TokP; rw [h]; exact ⟨k, t, x, h3, h5⟩
theorem set3 {w : World} {X : Nat} {a b c x y z : Value} {T : TypeId} (h : w.heap[X]? = some (.cells #[a, b, c] T (0, 0))) :
    (((w.setCell ⟨X, 0, none⟩ x).setCell ⟨X, 1, none⟩ y).setCell ⟨X, 2, none⟩ z).heap[X]? = some (.cells #[x, y, z] T (0, 0)) := by
  unfold World.setCell
  simp [h, Array.getElem?_modify]
/-- The result's block. -/
def TB (w : World) (X : Nat) : Prop := w.heap[X]? = some (.cells #[.int .i64 0, .string ⟨#[]⟩, .int .u64 0] 31 (0, 0))
theorem TB.kept {w w' : World} {X p : Nat} (h : TB w X) (hk : KP p w w') (hne : X ≠ p) : TB w' X := (hk.block X (lt_of_block h) (fun e => hne (by cases e; rfl))).trans h
theorem TB.cells {w : World} {X : Nat} (h : TB w X) : w.cell? ⟨X, 0, none⟩ = some (.int .i64 0) ∧ w.cell? ⟨X, 1, none⟩ = some (.string ⟨#[]⟩) ∧ w.cell? ⟨X, 2, none⟩ = some (.int .u64 0) ∧
    w.frozen? ⟨X, 0, none⟩ = false ∧ w.frozen? ⟨X, 1, none⟩ = false ∧ w.frozen? ⟨X, 2, none⟩ = false :=
  ⟨by rw [World.cell?, h]; rfl, by rw [World.cell?, h]; rfl, by rw [World.cell?, h]; rfl, by rw [World.frozen?, h]; rfl, by rw [World.frozen?, h]; rfl, by rw [World.frozen?, h]; rfl⟩
/-- What stands when the token's cells have been written. -/
theorem tok_end {w u : World} {X p a1 : Nat} {rs : List Nat} (ht : TB u X) (hR : RD u p rs a1) (hK : KP p w u) (hX : X = w.heap.size) (hp : p < X) (x y z : Value) :
    RD (((u.setCell ⟨X, 0, none⟩ x).setCell ⟨X, 1, none⟩ y).setCell ⟨X, 2, none⟩ z) p rs a1 ∧ KP p w (((u.setCell ⟨X, 0, none⟩ x).setCell ⟨X, 1, none⟩ y).setCell ⟨X, 2, none⟩ z) ∧
    (((u.setCell ⟨X, 0, none⟩ x).setCell ⟨X, 1, none⟩ y).setCell ⟨X, 2, none⟩ z).heap[X]? = some (.cells #[x, y, z] 31 (0, 0)) := by
  have hb : Below X u (((u.setCell ⟨X, 0, none⟩ x).setCell ⟨X, 1, none⟩ y).setCell ⟨X, 2, none⟩ z) :=
    (((Below.refl X u).setCell (p := ⟨X, 0, none⟩) (Nat.le_refl _) x).setCell (p := ⟨X, 1, none⟩) (Nat.le_refl _) y).setCell (p := ⟨X, 2, none⟩) (Nat.le_refl _) z
  exact ⟨hR.below hb hp, KP.below hK hb (by omega), set3 ht⟩
/-- The same, for a token that was laid in a block of its own first. -/
theorem TB.lies {u : World} {X : Nat} (h : TB u X) (o : Obj) : TB (u.alloc o) X := (Below.heap_alloc u o X (lt_of_block h)).trans h
theorem RD.lies {u : World} {p a1 : Nat} {rs : List Nat} (h : RD u p rs a1) (o : Obj) : RD (u.alloc o) p rs a1 := h.below ((Below.refl _ _).alloc (Nat.le_refl _) o) h.lt
theorem KP.lies {w u : World} {p : Nat} (h : KP p w u) (o : Obj) : KP p w (u.alloc o) := KP.trans' h (KP.of_below ((Below.refl _ _).alloc (Nat.le_refl _) o))
theorem tok_end_no {w u : World} {X p : Nat} (ht : TB u X) (hK : KP p w u) (hX : X = w.heap.size) (hp : p < X) (x y z : Value) :
    KP p w (((u.setCell ⟨X, 0, none⟩ x).setCell ⟨X, 1, none⟩ y).setCell ⟨X, 2, none⟩ z) ∧
    (((u.setCell ⟨X, 0, none⟩ x).setCell ⟨X, 1, none⟩ y).setCell ⟨X, 2, none⟩ z).heap[X]? = some (.cells #[x, y, z] 31 (0, 0)) := by
  have hb : Below X u (((u.setCell ⟨X, 0, none⟩ x).setCell ⟨X, 1, none⟩ y).setCell ⟨X, 2, none⟩ z) :=
    (((Below.refl X u).setCell (p := ⟨X, 0, none⟩) (Nat.le_refl _) x).setCell (p := ⟨X, 1, none⟩) (Nat.le_refl _) y).setCell (p := ⟨X, 2, none⟩) (Nat.le_refl _) z
  exact ⟨KP.below hK hb (by omega), set3 ht⟩
set_option maxRecDepth 100000 in
set_option maxHeartbeats 4000000 in
theorem token_word {w : World} {p at0 : Nat} {rs : List Nat} (h : RD w p rs at0) (h1 : at0 < rs.length) (h2 : rs.length ≤ 300) (hvr : ∀ r ∈ rs, VR r) {r : Nat} (hr : rs[at0]? = some r) (c : letterI r = true) :
    Calls Tryd.prog 41 #[.pointer (some ⟨p, 0, none⟩)] w (TokP p rs at0 w) := by
  obtain ⟨X, hX⟩ : ∃ X, X = w.heap.size := ⟨_, rfl⟩
  have hpX : p < X := by rw [hX]; exact h.lt
  have hb0 : Below w.heap.size w (w.alloc (.cells #[.int .i64 0, .string ⟨#[]⟩, .int .u64 0] 31)) := (Below.refl _ _).alloc (Nat.le_refl _) _
  have HR0 := Lib.hid (h.below hb0 h.lt)
  have HK0 := Lib.hid (KP.of_below (p := p) hb0)
  have HT0 : Hid (TB (w.alloc (.cells #[.int .i64 0, .string ⟨#[]⟩, .int .u64 0] 31)) X) := Lib.hid (by rw [hX]; exact (MapKept.heap_alloc w _).1)
  have HX := Lib.hid hX
  have HL := Lib.hid (And.intro (And.intro h1 h2) hpX)
  have HNE : Hid (X ≠ p) := Lib.hid (by omega)
  have hd : rs.drop at0 = r :: rs.drop (at0 + 1) := by
    obtain ⟨hlt, he⟩ := List.getElem?_eq_some_iff.1 hr
    rw [drop_cons hlt, he]
  have hpk : peekZ (rs.drop at0) = (r : Int) := by rw [hd]; rfl
  have HVR := Lib.hid hvr
  have HTK : Hid (tokL (rs.drop at0) = some (⟨1, ((rs.drop at0).takeWhile wordR).flatMap encL, 0⟩, (rs.drop at0).dropWhile wordR)) := Lib.hid (by
    rw [hd]
    unfold tokL
    simp only
    rw [if_pos c])
  have HPK : Hid (∀ u, RD u p rs at0 → Calls Tryd.prog 61 #[.pointer (some ⟨p, 0, none⟩), .int .i64 0] u (PeekP p rs at0 (r : Int) u)) := Lib.hid fun u hu => by
    rw [← hpk]; exact peek0 hu (by omega) (by omega)
  clear h h1 h2 hb0 hpX hr hd hpk hvr
  go_enter Tryd.func41, Tryd.ntmps41
  go_wp2_with fail
  rw [← hX]
  clear hX
  generalize w.alloc (.cells #[.int .i64 0, .string ⟨#[]⟩, .int .u64 0] 31) = W0 at HR0 HK0 HT0 ⊢
  refine (HPK.out W0 HR0.out).mono ?_
  rintro e u1 ⟨rfl, hR, hK⟩
  have HR1 := Lib.hid hR
  have HK1 := Lib.hid (KP.trans' HK0.out hK)
  have HT1 := Lib.hid (HT0.out.kept hK HNE.out)
  clear hR hK
  go_wp2_with fail
  refine (isLetter_any _ _).mono ?_
  rintro e w' ⟨rfl, rfl⟩
  go_wp2_with fail
  refine (name_any HR1.out (by have := HL.out.1; omega) HL.out.1.2).mono ?_
  rintro e u2 ⟨rfl, a1, q1, q2, hR, hK⟩
  have HQ := Lib.hid (And.intro q1 q2)
  have HR2 := Lib.hid hR
  have HK2 := Lib.hid (KP.trans' HK1.out hK)
  have HT2 := Lib.hid (HT1.out.kept hK HNE.out)
  clear hR hK q1 q2
  obtain ⟨x0, x1, x2, y0, y1, y2⟩ := HT2.out.cells
  have hXl : X < u2.heap.size := lt_of_block HT2.out
  have HE := Lib.hid (tok_end HT2.out HR2.out HK2.out HX.out HL.out.2 (.int .i64 1) (.string (bytesOf ((rs.drop at0).takeWhile wordR))) (.int .u64 0))
  go_wp2
  refine bodyPost_ret (results_cell_two (P := Tryd.prog) rfl _ _ X 31 _ (0, 0) _ (.bool true) rfl HE.out.2.2 Tryd.underlying31 rfl (by kernel_rfl) rfl) rfl ?_
  exact TokP.some_mk HTK.out HQ.out.1 HQ.out.2 rfl HE.out.1 HE.out.2.1
set_option maxRecDepth 100000 in
set_option maxHeartbeats 4000000 in
theorem token_number {w : World} {p at0 : Nat} {rs : List Nat} (h : RD w p rs at0) (h1 : at0 < rs.length) (h2 : rs.length ≤ 300) (hvr : ∀ r ∈ rs, VR r) {r : Nat} (hr : rs[at0]? = some r) (c : letterI r = false) (d : digI r = true) :
    Calls Tryd.prog 41 #[.pointer (some ⟨p, 0, none⟩)] w (TokP p rs at0 w) := by
  obtain ⟨X, hX⟩ : ∃ X, X = w.heap.size := ⟨_, rfl⟩
  have hpX : p < X := by rw [hX]; exact h.lt
  have hb0 : Below w.heap.size w (w.alloc (.cells #[.int .i64 0, .string ⟨#[]⟩, .int .u64 0] 31)) := (Below.refl _ _).alloc (Nat.le_refl _) _
  have HR0 := Lib.hid (h.below hb0 h.lt)
  have HK0 := Lib.hid (KP.of_below (p := p) hb0)
  have HT0 : Hid (TB (w.alloc (.cells #[.int .i64 0, .string ⟨#[]⟩, .int .u64 0] 31)) X) := Lib.hid (by rw [hX]; exact (MapKept.heap_alloc w _).1)
  have HX := Lib.hid hX
  have HL := Lib.hid (And.intro (And.intro h1 h2) hpX)
  have HNE : Hid (X ≠ p) := Lib.hid (by omega)
  have hd : rs.drop at0 = r :: rs.drop (at0 + 1) := by
    obtain ⟨hlt, he⟩ := List.getElem?_eq_some_iff.1 hr
    rw [drop_cons hlt, he]
  have hpk : peekZ (rs.drop at0) = (r : Int) := by rw [hd]; rfl
  have HVR := Lib.hid hvr
  have HTK : Hid (tokL (rs.drop at0) = some (⟨2, ((rs.drop at0).takeWhile wordR).flatMap encL, 0⟩, (rs.drop at0).dropWhile wordR)) := Lib.hid (by
    rw [hd]
    unfold tokL
    simp only
    rw [if_neg (by rw [c]; decide), if_pos d])
  have HPK : Hid (∀ u, RD u p rs at0 → Calls Tryd.prog 61 #[.pointer (some ⟨p, 0, none⟩), .int .i64 0] u (PeekP p rs at0 (r : Int) u)) := Lib.hid fun u hu => by
    rw [← hpk]; exact peek0 hu (by omega) (by omega)
  clear h h1 h2 hb0 hpX hr hd hpk hvr
  go_enter Tryd.func41, Tryd.ntmps41
  go_wp2_with fail
  rw [← hX]
  clear hX
  generalize w.alloc (.cells #[.int .i64 0, .string ⟨#[]⟩, .int .u64 0] 31) = W0 at HR0 HK0 HT0 ⊢
  refine (HPK.out W0 HR0.out).mono ?_
  rintro e u1 ⟨rfl, hR, hK⟩
  have HR1 := Lib.hid hR
  have HK1 := Lib.hid (KP.trans' HK0.out hK)
  have HT1 := Lib.hid (HT0.out.kept hK HNE.out)
  clear hR hK
  go_wp2_with fail
  refine (isLetter_any _ _).mono ?_
  rintro e w' ⟨rfl, rfl⟩
  go_wp2_with fail
  refine (isDigit_any _ _).mono ?_
  rintro e w' ⟨rfl, rfl⟩
  go_wp2_with fail
  refine (name_any HR1.out (by have := HL.out.1; omega) HL.out.1.2).mono ?_
  rintro e u2 ⟨rfl, a1, q1, q2, hR, hK⟩
  have HQ := Lib.hid (And.intro q1 q2)
  have HR2 := Lib.hid hR
  have HK2 := Lib.hid (KP.trans' HK1.out hK)
  have HT2 := Lib.hid (HT1.out.kept hK HNE.out)
  clear hR hK q1 q2
  obtain ⟨x0, x1, x2, y0, y1, y2⟩ := HT2.out.cells
  have hXl : X < u2.heap.size := lt_of_block HT2.out
  have HE := Lib.hid (tok_end HT2.out HR2.out HK2.out HX.out HL.out.2 (.int .i64 2) (.string (bytesOf ((rs.drop at0).takeWhile wordR))) (.int .u64 0))
  go_wp2
  refine bodyPost_ret (results_cell_two (P := Tryd.prog) rfl _ _ X 31 _ (0, 0) _ (.bool true) rfl HE.out.2.2 Tryd.underlying31 rfl (by kernel_rfl) rfl) rfl ?_
  exact TokP.some_mk HTK.out HQ.out.1 HQ.out.2 rfl HE.out.1 HE.out.2.1
set_option maxRecDepth 100000 in
set_option maxHeartbeats 4000000 in
theorem token_text {w : World} {p at0 : Nat} {rs : List Nat} (h : RD w p rs at0) (h1 : at0 < rs.length) (h2 : rs.length ≤ 300) (hvr : ∀ r ∈ rs, VR r) {r : Nat} (hr : rs[at0]? = some r) (c : letterI r = false) (d : digI r = false) (eq : r = 34) {vs : List Nat} {u : List Nat} (f : textL (rs.drop (at0 + 1)) = some (vs, u)) :
    Calls Tryd.prog 41 #[.pointer (some ⟨p, 0, none⟩)] w (TokP p rs at0 w) := by
  obtain ⟨X, hX⟩ : ∃ X, X = w.heap.size := ⟨_, rfl⟩
  have hpX : p < X := by rw [hX]; exact h.lt
  have hb0 : Below w.heap.size w (w.alloc (.cells #[.int .i64 0, .string ⟨#[]⟩, .int .u64 0] 31)) := (Below.refl _ _).alloc (Nat.le_refl _) _
  have HR0 := Lib.hid (h.below hb0 h.lt)
  have HK0 := Lib.hid (KP.of_below (p := p) hb0)
  have HT0 : Hid (TB (w.alloc (.cells #[.int .i64 0, .string ⟨#[]⟩, .int .u64 0] 31)) X) := Lib.hid (by rw [hX]; exact (MapKept.heap_alloc w _).1)
  have HX := Lib.hid hX
  have HL := Lib.hid (And.intro (And.intro h1 h2) hpX)
  have HNE : Hid (X ≠ p) := Lib.hid (by omega)
  have hd : rs.drop at0 = r :: rs.drop (at0 + 1) := by
    obtain ⟨hlt, he⟩ := List.getElem?_eq_some_iff.1 hr
    rw [drop_cons hlt, he]
  have hpk : peekZ (rs.drop at0) = (r : Int) := by rw [hd]; rfl
  have HVR := Lib.hid hvr
  have HTK : Hid (tokL (rs.drop at0) = some (⟨3, vs.flatMap encL, 0⟩, u)) := Lib.hid (by
    rw [hd]
    unfold tokL
    simp only
    rw [if_neg (by rw [c]; decide), if_neg (by rw [d]; decide), if_pos eq, f])
  have HF := Lib.hid f
  have hlt0 := h1
  clear f
  have HPK : Hid (∀ u, RD u p rs at0 → Calls Tryd.prog 61 #[.pointer (some ⟨p, 0, none⟩), .int .i64 0] u (PeekP p rs at0 (r : Int) u)) := Lib.hid fun u hu => by
    rw [← hpk]; exact peek0 hu (by omega) (by omega)
  subst eq
  clear h h1 h2 hb0 hpX hr hd hpk hvr
  go_enter Tryd.func41, Tryd.ntmps41
  go_wp2_with fail
  rw [← hX]
  clear hX
  generalize w.alloc (.cells #[.int .i64 0, .string ⟨#[]⟩, .int .u64 0] 31) = W0 at HR0 HK0 HT0 ⊢
  refine (HPK.out W0 HR0.out).mono ?_
  rintro e u1 ⟨rfl, hR, hK⟩
  have HR1 := Lib.hid hR
  have HK1 := Lib.hid (KP.trans' HK0.out hK)
  have HT1 := Lib.hid (HT0.out.kept hK HNE.out)
  clear hR hK
  go_wp2_with fail
  refine (isLetter_any _ _).mono ?_
  rintro e w' ⟨rfl, rfl⟩
  go_wp2_with fail
  refine (isDigit_any _ _).mono ?_
  rintro e w' ⟨rfl, rfl⟩
  go_wp2_with fail
  refine (text_any HR1.out HL.out.1.1 HL.out.1.2 HVR.out).mono ?_
  intro e u2 hO
  unfold TextP at hO
  rw [HF.out] at hO
  obtain ⟨a1, q1, q2, rfl, hR, hK⟩ := hO
  have HQ := Lib.hid (And.intro q1 q2)
  have HR2 := Lib.hid hR
  have HK2 := Lib.hid (KP.trans' HK1.out hK)
  have HT2 := Lib.hid (HT1.out.kept hK HNE.out)
  clear hR hK q1 q2
  obtain ⟨x0, x1, x2, y0, y1, y2⟩ := HT2.out.cells
  have hXl : X < u2.heap.size := lt_of_block HT2.out
  have HE := Lib.hid (tok_end HT2.out HR2.out HK2.out HX.out HL.out.2 (.int .i64 3) (.string (bytesOf vs)) (.int .u64 0))
  go_wp2
  refine bodyPost_ret (results_cell_two (P := Tryd.prog) rfl _ _ X 31 _ (0, 0) _ (.bool true) rfl HE.out.2.2 Tryd.underlying31 rfl (by kernel_rfl) rfl) rfl ?_
  exact TokP.some_mk HTK.out HQ.out.1 HQ.out.2 rfl HE.out.1 HE.out.2.1
set_option maxRecDepth 100000 in
set_option maxHeartbeats 4000000 in
theorem token_text_no {w : World} {p at0 : Nat} {rs : List Nat} (h : RD w p rs at0) (h1 : at0 < rs.length) (h2 : rs.length ≤ 300) (hvr : ∀ r ∈ rs, VR r) {r : Nat} (hr : rs[at0]? = some r) (c : letterI r = false) (d : digI r = false) (eq : r = 34) (f : textL (rs.drop (at0 + 1)) = none) :
    Calls Tryd.prog 41 #[.pointer (some ⟨p, 0, none⟩)] w (TokP p rs at0 w) := by
  obtain ⟨X, hX⟩ : ∃ X, X = w.heap.size := ⟨_, rfl⟩
  have hpX : p < X := by rw [hX]; exact h.lt
  have hb0 : Below w.heap.size w (w.alloc (.cells #[.int .i64 0, .string ⟨#[]⟩, .int .u64 0] 31)) := (Below.refl _ _).alloc (Nat.le_refl _) _
  have HR0 := Lib.hid (h.below hb0 h.lt)
  have HK0 := Lib.hid (KP.of_below (p := p) hb0)
  have HT0 : Hid (TB (w.alloc (.cells #[.int .i64 0, .string ⟨#[]⟩, .int .u64 0] 31)) X) := Lib.hid (by rw [hX]; exact (MapKept.heap_alloc w _).1)
  have HX := Lib.hid hX
  have HL := Lib.hid (And.intro (And.intro h1 h2) hpX)
  have HNE : Hid (X ≠ p) := Lib.hid (by omega)
  have hd : rs.drop at0 = r :: rs.drop (at0 + 1) := by
    obtain ⟨hlt, he⟩ := List.getElem?_eq_some_iff.1 hr
    rw [drop_cons hlt, he]
  have hpk : peekZ (rs.drop at0) = (r : Int) := by rw [hd]; rfl
  have HVR := Lib.hid hvr
  have HTK : Hid (tokL (rs.drop at0) = none) := Lib.hid (by
    rw [hd]
    unfold tokL
    simp only
    rw [if_neg (by rw [c]; decide), if_neg (by rw [d]; decide), if_pos eq, f])
  have HF := Lib.hid f
  clear f
  have HPK : Hid (∀ u, RD u p rs at0 → Calls Tryd.prog 61 #[.pointer (some ⟨p, 0, none⟩), .int .i64 0] u (PeekP p rs at0 (r : Int) u)) := Lib.hid fun u hu => by
    rw [← hpk]; exact peek0 hu (by omega) (by omega)
  subst eq
  clear h h1 h2 hb0 hpX hr hd hpk hvr
  go_enter Tryd.func41, Tryd.ntmps41
  go_wp2_with fail
  rw [← hX]
  clear hX
  generalize w.alloc (.cells #[.int .i64 0, .string ⟨#[]⟩, .int .u64 0] 31) = W0 at HR0 HK0 HT0 ⊢
  refine (HPK.out W0 HR0.out).mono ?_
  rintro e u1 ⟨rfl, hR, hK⟩
  have HR1 := Lib.hid hR
  have HK1 := Lib.hid (KP.trans' HK0.out hK)
  have HT1 := Lib.hid (HT0.out.kept hK HNE.out)
  clear hR hK
  go_wp2_with fail
  refine (isLetter_any _ _).mono ?_
  rintro e w' ⟨rfl, rfl⟩
  go_wp2_with fail
  refine (isDigit_any _ _).mono ?_
  rintro e w' ⟨rfl, rfl⟩
  go_wp2_with fail
  refine (text_any HR1.out HL.out.1.1 HL.out.1.2 HVR.out).mono ?_
  intro e u2 hO
  unfold TextP at hO
  rw [HF.out] at hO
  obtain ⟨rfl, hK⟩ := hO
  have HK2 := Lib.hid (KP.trans' HK1.out hK)
  have HT2 := Lib.hid (HT1.out.kept hK HNE.out)
  clear hK
  obtain ⟨x0, x1, x2, y0, y1, y2⟩ := HT2.out.cells
  have hXl : X < u2.heap.size := lt_of_block HT2.out
  have HE := Lib.hid (tok_end_no HT2.out HK2.out HX.out HL.out.2 (.int .i64 3) (.string ⟨#[]⟩) (.int .u64 0))
  go_wp2
  refine bodyPost_ret (results_cell_two (P := Tryd.prog) rfl _ _ X 31 _ (0, 0) _ (.bool false) rfl HE.out.2 Tryd.underlying31 rfl (by kernel_rfl) rfl) rfl ?_
  exact TokP.none_mk HTK.out rfl HE.out.1
set_option maxRecDepth 100000 in
set_option maxHeartbeats 4000000 in
theorem token_character {w : World} {p at0 : Nat} {rs : List Nat} (h : RD w p rs at0) (h1 : at0 < rs.length) (h2 : rs.length ≤ 300) (hvr : ∀ r ∈ rs, VR r) {r : Nat} (hr : rs[at0]? = some r) (c : letterI r = false) (d : digI r = false) (eq : r = 39) {vs : Nat} {u : List Nat} (f : charL (rs.drop (at0 + 1)) = some (vs, u)) (fv : vs ≤ 1114111) :
    Calls Tryd.prog 41 #[.pointer (some ⟨p, 0, none⟩)] w (TokP p rs at0 w) := by
  obtain ⟨X, hX⟩ : ∃ X, X = w.heap.size := ⟨_, rfl⟩
  have hpX : p < X := by rw [hX]; exact h.lt
  have hb0 : Below w.heap.size w (w.alloc (.cells #[.int .i64 0, .string ⟨#[]⟩, .int .u64 0] 31)) := (Below.refl _ _).alloc (Nat.le_refl _) _
  have HR0 := Lib.hid (h.below hb0 h.lt)
  have HK0 := Lib.hid (KP.of_below (p := p) hb0)
  have HT0 : Hid (TB (w.alloc (.cells #[.int .i64 0, .string ⟨#[]⟩, .int .u64 0] 31)) X) := Lib.hid (by rw [hX]; exact (MapKept.heap_alloc w _).1)
  have HX := Lib.hid hX
  have HL := Lib.hid (And.intro (And.intro h1 h2) hpX)
  have HNE : Hid (X ≠ p) := Lib.hid (by omega)
  have hd : rs.drop at0 = r :: rs.drop (at0 + 1) := by
    obtain ⟨hlt, he⟩ := List.getElem?_eq_some_iff.1 hr
    rw [drop_cons hlt, he]
  have hpk : peekZ (rs.drop at0) = (r : Int) := by rw [hd]; rfl
  have HVR := Lib.hid hvr
  have HTK : Hid (tokL (rs.drop at0) = some (⟨5, [], vs⟩, u)) := Lib.hid (by
    rw [hd]
    unfold tokL
    simp only
    rw [if_neg (by rw [c]; decide), if_neg (by rw [d]; decide), if_neg (by rw [eq]; decide), if_pos eq, f])
  have HF := Lib.hid f
  have hlt0 := h1
  clear f
  have HPK : Hid (∀ u, RD u p rs at0 → Calls Tryd.prog 61 #[.pointer (some ⟨p, 0, none⟩), .int .i64 0] u (PeekP p rs at0 (r : Int) u)) := Lib.hid fun u hu => by
    rw [← hpk]; exact peek0 hu (by omega) (by omega)
  subst eq
  clear h h1 h2 hb0 hpX hr hd hpk hvr
  go_enter Tryd.func41, Tryd.ntmps41
  go_wp2_with fail
  rw [← hX]
  clear hX
  generalize w.alloc (.cells #[.int .i64 0, .string ⟨#[]⟩, .int .u64 0] 31) = W0 at HR0 HK0 HT0 ⊢
  refine (HPK.out W0 HR0.out).mono ?_
  rintro e u1 ⟨rfl, hR, hK⟩
  have HR1 := Lib.hid hR
  have HK1 := Lib.hid (KP.trans' HK0.out hK)
  have HT1 := Lib.hid (HT0.out.kept hK HNE.out)
  clear hR hK
  go_wp2_with fail
  refine (isLetter_any _ _).mono ?_
  rintro e w' ⟨rfl, rfl⟩
  go_wp2_with fail
  refine (isDigit_any _ _).mono ?_
  rintro e w' ⟨rfl, rfl⟩
  go_wp2_with fail
  refine (character_any HR1.out HL.out.1.1 HL.out.1.2 HVR.out).mono ?_
  intro e u2 hO
  unfold CharP at hO
  rw [HF.out] at hO
  obtain ⟨a1, q1, q2, rfl, hR, hK⟩ := hO
  have HQ := Lib.hid (And.intro q1 q2)
  have HR2 := Lib.hid hR
  have HK2 := Lib.hid (KP.trans' HK1.out hK)
  have HT2 := Lib.hid (HT1.out.kept hK HNE.out)
  clear hR hK q1 q2
  have hw64 : IntKind.u64.wrap (vs : Int) = vs := by rw [IntKind.wrap_u64]; omega
  obtain ⟨x0, x1, x2, y0, y1, y2⟩ := HT2.out.cells
  have hXl : X < u2.heap.size := lt_of_block HT2.out
  have HE := Lib.hid (tok_end HT2.out HR2.out HK2.out HX.out HL.out.2 (.int .i64 5) (.string ⟨#[]⟩) (.int .u64 (vs : Int)))
  go_wp2
  refine bodyPost_ret (results_cell_two (P := Tryd.prog) rfl _ _ X 31 _ (0, 0) _ (.bool true) rfl HE.out.2.2 Tryd.underlying31 rfl (by kernel_rfl) rfl) rfl ?_
  exact TokP.some_mk HTK.out HQ.out.1 HQ.out.2 rfl HE.out.1 HE.out.2.1
set_option maxRecDepth 100000 in
set_option maxHeartbeats 4000000 in
theorem token_character_no {w : World} {p at0 : Nat} {rs : List Nat} (h : RD w p rs at0) (h1 : at0 < rs.length) (h2 : rs.length ≤ 300) (hvr : ∀ r ∈ rs, VR r) {r : Nat} (hr : rs[at0]? = some r) (c : letterI r = false) (d : digI r = false) (eq : r = 39) (f : charL (rs.drop (at0 + 1)) = none) :
    Calls Tryd.prog 41 #[.pointer (some ⟨p, 0, none⟩)] w (TokP p rs at0 w) := by
  obtain ⟨X, hX⟩ : ∃ X, X = w.heap.size := ⟨_, rfl⟩
  have hpX : p < X := by rw [hX]; exact h.lt
  have hb0 : Below w.heap.size w (w.alloc (.cells #[.int .i64 0, .string ⟨#[]⟩, .int .u64 0] 31)) := (Below.refl _ _).alloc (Nat.le_refl _) _
  have HR0 := Lib.hid (h.below hb0 h.lt)
  have HK0 := Lib.hid (KP.of_below (p := p) hb0)
  have HT0 : Hid (TB (w.alloc (.cells #[.int .i64 0, .string ⟨#[]⟩, .int .u64 0] 31)) X) := Lib.hid (by rw [hX]; exact (MapKept.heap_alloc w _).1)
  have HX := Lib.hid hX
  have HL := Lib.hid (And.intro (And.intro h1 h2) hpX)
  have HNE : Hid (X ≠ p) := Lib.hid (by omega)
  have hd : rs.drop at0 = r :: rs.drop (at0 + 1) := by
    obtain ⟨hlt, he⟩ := List.getElem?_eq_some_iff.1 hr
    rw [drop_cons hlt, he]
  have hpk : peekZ (rs.drop at0) = (r : Int) := by rw [hd]; rfl
  have HVR := Lib.hid hvr
  have HTK : Hid (tokL (rs.drop at0) = none) := Lib.hid (by
    rw [hd]
    unfold tokL
    simp only
    rw [if_neg (by rw [c]; decide), if_neg (by rw [d]; decide), if_neg (by rw [eq]; decide), if_pos eq, f])
  have HF := Lib.hid f
  clear f
  have HPK : Hid (∀ u, RD u p rs at0 → Calls Tryd.prog 61 #[.pointer (some ⟨p, 0, none⟩), .int .i64 0] u (PeekP p rs at0 (r : Int) u)) := Lib.hid fun u hu => by
    rw [← hpk]; exact peek0 hu (by omega) (by omega)
  subst eq
  clear h h1 h2 hb0 hpX hr hd hpk hvr
  go_enter Tryd.func41, Tryd.ntmps41
  go_wp2_with fail
  rw [← hX]
  clear hX
  generalize w.alloc (.cells #[.int .i64 0, .string ⟨#[]⟩, .int .u64 0] 31) = W0 at HR0 HK0 HT0 ⊢
  refine (HPK.out W0 HR0.out).mono ?_
  rintro e u1 ⟨rfl, hR, hK⟩
  have HR1 := Lib.hid hR
  have HK1 := Lib.hid (KP.trans' HK0.out hK)
  have HT1 := Lib.hid (HT0.out.kept hK HNE.out)
  clear hR hK
  go_wp2_with fail
  refine (isLetter_any _ _).mono ?_
  rintro e w' ⟨rfl, rfl⟩
  go_wp2_with fail
  refine (isDigit_any _ _).mono ?_
  rintro e w' ⟨rfl, rfl⟩
  go_wp2_with fail
  refine (character_any HR1.out HL.out.1.1 HL.out.1.2 HVR.out).mono ?_
  intro e u2 hO
  unfold CharP at hO
  rw [HF.out] at hO
  obtain ⟨rfl, hK⟩ := hO
  have HK2 := Lib.hid (KP.trans' HK1.out hK)
  have HT2 := Lib.hid (HT1.out.kept hK HNE.out)
  clear hK
  obtain ⟨x0, x1, x2, y0, y1, y2⟩ := HT2.out.cells
  have hXl : X < u2.heap.size := lt_of_block HT2.out
  have HE := Lib.hid (tok_end_no HT2.out HK2.out HX.out HL.out.2 (.int .i64 5) (.string ⟨#[]⟩) (.int .u64 0))
  go_wp2
  refine bodyPost_ret (results_cell_two (P := Tryd.prog) rfl _ _ X 31 _ (0, 0) _ (.bool false) rfl HE.out.2 Tryd.underlying31 rfl (by kernel_rfl) rfl) rfl ?_
  exact TokP.none_mk HTK.out rfl HE.out.1
set_option maxRecDepth 100000 in
set_option maxHeartbeats 4000000 in
theorem token_sign {w : World} {p at0 : Nat} {rs : List Nat} (h : RD w p rs at0) (h1 : at0 < rs.length) (h2 : rs.length ≤ 300) (hvr : ∀ r ∈ rs, VR r) {r : Nat} (hr : rs[at0]? = some r) (c : letterI r = false) (d : digI r = false) (e34 : ¬ r = 34) (e39 : ¬ r = 39) (f : signR r = true) :
    Calls Tryd.prog 41 #[.pointer (some ⟨p, 0, none⟩)] w (TokP p rs at0 w) := by
  obtain ⟨X, hX⟩ : ∃ X, X = w.heap.size := ⟨_, rfl⟩
  have hpX : p < X := by rw [hX]; exact h.lt
  have hb0 : Below w.heap.size w (w.alloc (.cells #[.int .i64 0, .string ⟨#[]⟩, .int .u64 0] 31)) := (Below.refl _ _).alloc (Nat.le_refl _) _
  have HR0 := Lib.hid (h.below hb0 h.lt)
  have HK0 := Lib.hid (KP.of_below (p := p) hb0)
  have HT0 : Hid (TB (w.alloc (.cells #[.int .i64 0, .string ⟨#[]⟩, .int .u64 0] 31)) X) := Lib.hid (by rw [hX]; exact (MapKept.heap_alloc w _).1)
  have HX := Lib.hid hX
  have HL := Lib.hid (And.intro (And.intro h1 h2) hpX)
  have HNE : Hid (X ≠ p) := Lib.hid (by omega)
  have hd : rs.drop at0 = r :: rs.drop (at0 + 1) := by
    obtain ⟨hlt, he⟩ := List.getElem?_eq_some_iff.1 hr
    rw [drop_cons hlt, he]
  have hpk : peekZ (rs.drop at0) = (r : Int) := by rw [hd]; rfl
  have HVR := Lib.hid hvr
  have HTK : Hid (tokL (rs.drop at0) = some (⟨4, encL r, 0⟩, rs.drop (at0 + 1))) := Lib.hid (by
    rw [hd]
    unfold tokL
    simp only
    rw [if_neg (by rw [c]; decide), if_neg (by rw [d]; decide), if_neg e34, if_neg e39, if_pos f])
  have hvr1 := hvr r (List.mem_of_getElem? hr)
  have HENC : Hid (Utf8.encode (r : Int) = ⟨(encL r).toArray⟩) := Lib.hid (by
    have := encode_encL hvr1
    rw [← this])
  have HR := Lib.hid (show r ≤ 1114111 by unfold VR at hvr1; omega)
  have hn34 : ((r : Int) == 34) = false := by rw [beq_eq_false_iff_ne]; omega
  have hn39 : ((r : Int) == 39) = false := by rw [beq_eq_false_iff_ne]; omega
  clear e34 e39 hvr1
  have HPK : Hid (∀ u, RD u p rs at0 → Calls Tryd.prog 61 #[.pointer (some ⟨p, 0, none⟩), .int .i64 0] u (PeekP p rs at0 (r : Int) u)) := Lib.hid fun u hu => by
    rw [← hpk]; exact peek0 hu (by omega) (by omega)
  clear h h1 h2 hb0 hpX hr hd hpk hvr
  go_enter Tryd.func41, Tryd.ntmps41
  go_wp2_with fail
  rw [← hX]
  clear hX
  generalize w.alloc (.cells #[.int .i64 0, .string ⟨#[]⟩, .int .u64 0] 31) = W0 at HR0 HK0 HT0 ⊢
  refine (HPK.out W0 HR0.out).mono ?_
  rintro e u1 ⟨rfl, hR, hK⟩
  have HR1 := Lib.hid hR
  have HK1 := Lib.hid (KP.trans' HK0.out hK)
  have HT1 := Lib.hid (HT0.out.kept hK HNE.out)
  clear hR hK
  go_wp2_with fail
  refine (isLetter_any _ _).mono ?_
  rintro e w' ⟨rfl, rfl⟩
  go_wp2_with fail
  refine (isDigit_any _ _).mono ?_
  rintro e w' ⟨rfl, rfl⟩
  go_wp2_with fail
  refine (isSign_any _ HR.out _).mono ?_
  rintro e w' ⟨rfl, rfl⟩
  obtain ⟨m, hm⟩ : ∃ m, m = at0 + 1 := ⟨_, rfl⟩
  have hw : IntKind.i64.wrap ((at0 : Int) + 1) = (m : Int) := by rw [wrap_at at0 (by have := HL.out; omega), hm]
  have hw32 : IntKind.i32.wrap (r : Int) = r := by have := HR.out; rw [IntKind.wrap_i32]; omega
  have HM := Lib.hid hm
  obtain ⟨aa, cc, c0, c1, f1⟩ := HR1.out.cells
  have HR2 := Lib.hid (HR1.out.step m)
  have HK2 := Lib.hid (KP.trans' HK1.out (KP.step p u1 1 (.int .i64 (m : Int))))
  have HT2 := Lib.hid (HT1.out.kept (KP.step p u1 1 (.int .i64 (m : Int))) HNE.out)
  have hs := HENC.out
  have hXp : X ≠ p := HNE.out
  clear hm
  obtain ⟨x0, x1, x2, y0, y1, y2⟩ := HT1.out.cells
  have hXl : X < u1.heap.size := lt_of_block HT1.out
  have HE := Lib.hid (tok_end HT2.out HR2.out HK2.out HX.out HL.out.2 (.int .i64 4) (.string ⟨(encL r).toArray⟩) (.int .u64 0))
  go_wp2
  refine bodyPost_ret (results_cell_two (P := Tryd.prog) rfl _ _ X 31 _ (0, 0) _ (.bool true) rfl HE.out.2.2 Tryd.underlying31 rfl (by kernel_rfl) rfl) rfl ?_
  exact TokP.some_mk HTK.out (a1 := m) (by have := HM.out; have := HL.out; omega) (by rw [HM.out]) rfl HE.out.1 HE.out.2.1
set_option maxRecDepth 100000 in
set_option maxHeartbeats 4000000 in
theorem token_none {w : World} {p at0 : Nat} {rs : List Nat} (h : RD w p rs at0) (h1 : at0 < rs.length) (h2 : rs.length ≤ 300) (hvr : ∀ r ∈ rs, VR r) {r : Nat} (hr : rs[at0]? = some r) (c : letterI r = false) (d : digI r = false) (e34 : ¬ r = 34) (e39 : ¬ r = 39) (f : signR r = false) :
    Calls Tryd.prog 41 #[.pointer (some ⟨p, 0, none⟩)] w (TokP p rs at0 w) := by
  obtain ⟨X, hX⟩ : ∃ X, X = w.heap.size := ⟨_, rfl⟩
  have hpX : p < X := by rw [hX]; exact h.lt
  have hb0 : Below w.heap.size w (w.alloc (.cells #[.int .i64 0, .string ⟨#[]⟩, .int .u64 0] 31)) := (Below.refl _ _).alloc (Nat.le_refl _) _
  have HR0 := Lib.hid (h.below hb0 h.lt)
  have HK0 := Lib.hid (KP.of_below (p := p) hb0)
  have HT0 : Hid (TB (w.alloc (.cells #[.int .i64 0, .string ⟨#[]⟩, .int .u64 0] 31)) X) := Lib.hid (by rw [hX]; exact (MapKept.heap_alloc w _).1)
  have HX := Lib.hid hX
  have HL := Lib.hid (And.intro (And.intro h1 h2) hpX)
  have HNE : Hid (X ≠ p) := Lib.hid (by omega)
  have hd : rs.drop at0 = r :: rs.drop (at0 + 1) := by
    obtain ⟨hlt, he⟩ := List.getElem?_eq_some_iff.1 hr
    rw [drop_cons hlt, he]
  have hpk : peekZ (rs.drop at0) = (r : Int) := by rw [hd]; rfl
  have HVR := Lib.hid hvr
  have HTK : Hid (tokL (rs.drop at0) = none) := Lib.hid (by
    rw [hd]
    unfold tokL
    simp only
    rw [if_neg (by rw [c]; decide), if_neg (by rw [d]; decide), if_neg e34, if_neg e39, if_neg (by rw [f]; decide)])
  have hvr1 := hvr r (List.mem_of_getElem? hr)
  have HENC : Hid (Utf8.encode (r : Int) = ⟨(encL r).toArray⟩) := Lib.hid (by
    have := encode_encL hvr1
    rw [← this])
  have HR := Lib.hid (show r ≤ 1114111 by unfold VR at hvr1; omega)
  have hn34 : ((r : Int) == 34) = false := by rw [beq_eq_false_iff_ne]; omega
  have hn39 : ((r : Int) == 39) = false := by rw [beq_eq_false_iff_ne]; omega
  clear e34 e39 hvr1
  have HPK : Hid (∀ u, RD u p rs at0 → Calls Tryd.prog 61 #[.pointer (some ⟨p, 0, none⟩), .int .i64 0] u (PeekP p rs at0 (r : Int) u)) := Lib.hid fun u hu => by
    rw [← hpk]; exact peek0 hu (by omega) (by omega)
  clear h h1 h2 hb0 hpX hr hd hpk hvr
  go_enter Tryd.func41, Tryd.ntmps41
  go_wp2_with fail
  rw [← hX]
  clear hX
  generalize w.alloc (.cells #[.int .i64 0, .string ⟨#[]⟩, .int .u64 0] 31) = W0 at HR0 HK0 HT0 ⊢
  refine (HPK.out W0 HR0.out).mono ?_
  rintro e u1 ⟨rfl, hR, hK⟩
  have HR1 := Lib.hid hR
  have HK1 := Lib.hid (KP.trans' HK0.out hK)
  have HT1 := Lib.hid (HT0.out.kept hK HNE.out)
  clear hR hK
  go_wp2_with fail
  refine (isLetter_any _ _).mono ?_
  rintro e w' ⟨rfl, rfl⟩
  go_wp2_with fail
  refine (isDigit_any _ _).mono ?_
  rintro e w' ⟨rfl, rfl⟩
  go_wp2_with fail
  refine (isSign_any _ HR.out _).mono ?_
  rintro e w' ⟨rfl, rfl⟩
  have HT2 := HT1
  have HK2 := HK1
  obtain ⟨x0, x1, x2, y0, y1, y2⟩ := HT2.out.cells
  have hXl : X < u1.heap.size := lt_of_block HT2.out
  have HE := Lib.hid (tok_end_no HT2.out HK2.out HX.out HL.out.2 (.int .i64 0) (.string ⟨#[]⟩) (.int .u64 0))
  go_wp2
  refine bodyPost_ret (results_cell_two (P := Tryd.prog) rfl _ _ X 31 _ (0, 0) _ (.bool false) rfl HE.out.2 Tryd.underlying31 rfl (by kernel_rfl) rfl) rfl ?_
  exact TokP.none_mk HTK.out rfl HE.out.1
end Go.Proofs.YtngoipcjipbelaaDoor
