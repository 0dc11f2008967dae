/- line: maps from names to seekers; the makers of forms. -/
import Derived.Test.YthejefldnpeciaaGreatDooryJ
import Derived.Maps.Own
import Derived.Maps.OwnOps
import Derived.Maps.Keyed
import Derived.StringKeys
import Derived.Carry
namespace Go.Proofs.YthejefldnpeciaaGreatDoor
set_option linter.unusedVariables false
set_option linter.unusedSimpArgs false
open Go.ChangeShapes Go.WideShapes Go.Deep Go.RowKit

theorem sKey : Maps.Keyed Tryz.prog 9 := Maps.string_keyed Tryz.underlying9
theorem sKeyOf {s : ByteArray} (h : s.size ≤ maxLen) : keyOf Tryz.prog 9 (.string s) = some (.string s.data.toList) := Go.WideMaps.keyOf_string_mk Tryz.underlying9 h
theorem zeroFn (w : World) : (zeroValue 52).run Tryz.prog w = .ok .nilFunc w := by kernel_rfl
def pairF (p : ByteArray × Value) : Value × Value := (.string p.1, p.2)
def FMp (w : World) (b : Nat) (l : List (ByteArray × Value)) : Prop := ∃ es clock, w.heap[b]? = some (.map es clock) ∧ es.toList.map (fun e => (e.key, e.val)) = l.map pairF
theorem fp_key {l : List (ByteArray × Value)} {es : Array MapEntry} (h : es.toList.map (fun e => (e.key, e.val)) = l.map pairF) {e : MapEntry} (he : e ∈ es.toList) : ∃ p ∈ l, e.key = .string p.1 ∧ e.val = p.2 := by
  have : (e.key, e.val) ∈ es.toList.map (fun e => (e.key, e.val)) := List.mem_map.2 ⟨e, he, rfl⟩
  rw [h] at this
  obtain ⟨p, hp, hh⟩ := List.mem_map.1 this
  simp only [pairF, Prod.mk.injEq] at hh
  exact ⟨p, hp, hh.1.symm, hh.2.symm⟩
theorem fp_keys {l : List (ByteArray × Value)} {es : Array MapEntry} (h : es.toList.map (fun e => (e.key, e.val)) = l.map pairF) (hg : ∀ p ∈ l, p.1.size ≤ maxLen) : ∀ e ∈ es.toList, ∃ k, keyOf Tryz.prog 9 e.key = some k := by
  intro e he
  obtain ⟨p, hp, hk, -⟩ := fp_key h he
  rw [hk]
  exact ⟨_, sKeyOf (hg p hp)⟩
theorem fp_no {l : List (ByteArray × Value)} {b : Nat} {w : World} (h : FMp w b l) (hg : ∀ p ∈ l, p.1.size ≤ maxLen) {k : ByteArray} (hk : k.size ≤ maxLen) (hn : ∀ p ∈ l, p.1 ≠ k) :
    (Instr.lookup 54 (.map (some b)) (.string k) true).run Tryz.prog w = .ok (.tuple #[.nilFunc, .bool false]) w := by
  obtain ⟨es, clock, hb, he⟩ := h
  have hkey := sKeyOf hk
  rcases sKey.find w hkey es.toList (fp_keys he hg) with ⟨h1, -⟩ | ⟨j, e, h1, h2, h3⟩
  · simp [Instr.lookup, run_underlying Tryz.underlying54, MapKept.run_getObj_map hb, sKey.check w _ hkey, h1, zeroFn, Result.andThen]
  · obtain ⟨p, hp, hpk, -⟩ := fp_key he (List.mem_of_getElem? h2)
    rw [h3] at hpk
    simp only [Value.string.injEq] at hpk
    exact absurd hpk.symm (hn p hp)
theorem fp_yes {l : List (ByteArray × Value)} {b : Nat} {w : World} (h : FMp w b l) (hg : ∀ p ∈ l, p.1.size ≤ maxLen) {k : ByteArray} {v : Value} (hk : (k, v) ∈ l) (hu : ∀ p ∈ l, p.1 = k → p.2 = v) :
    (Instr.lookup 54 (.map (some b)) (.string k) true).run Tryz.prog w = .ok (.tuple #[v, .bool true]) w := by
  obtain ⟨es, clock, hb, he⟩ := h
  have hkey := sKeyOf (hg _ hk)
  rcases sKey.find w hkey es.toList (fp_keys he hg) with ⟨h1, h2⟩ | ⟨j, e, h1, h2, h3⟩
  · exfalso
    have : pairF (k, v) ∈ l.map pairF := List.mem_map.2 ⟨_, hk, rfl⟩
    rw [← he] at this
    obtain ⟨e, hee, heq⟩ := List.mem_map.1 this
    simp only [pairF, Prod.mk.injEq] at heq
    exact h2 e hee heq.1
  · obtain ⟨p, hp, hpk, hpv⟩ := fp_key he (List.mem_of_getElem? h2)
    rw [h3] at hpk
    simp only [Value.string.injEq] at hpk
    have hv := hu p hp hpk.symm
    rw [hv] at hpv
    simp [Instr.lookup, run_underlying Tryz.underlying54, MapKept.run_getObj_map hb, sKey.check w _ hkey, h1, hpv, Result.andThen]
theorem fp_put {l : List (ByteArray × Value)} {b : Nat} {w : World} (h : FMp w b l) (hg : ∀ p ∈ l, p.1.size ≤ maxLen) (k : ByteArray) (v : Value) (hk : k.size ≤ maxLen) (hn : ∀ p ∈ l, p.1 ≠ k) :
    ∃ w', (Instr.mapUpdate 54 (.map (some b)) (.string k) v).run Tryz.prog w = .ok () w' ∧ FMp w' b (l ++ [(k, v)]) ∧ w.grownBy w' (some b) := by
  obtain ⟨es, clock, hb, he⟩ := h
  have hkey := sKeyOf hk
  rcases sKey.find w hkey es.toList (fp_keys he hg) with ⟨h1, -⟩ | ⟨j, e, h1, h2, h3⟩
  · refine ⟨ChangeMaps.setBlock w b (.map (es.push ⟨.string k, v, clock⟩) (clock + 1)), ?_, ⟨es.push ⟨.string k, v, clock⟩, clock + 1, ?_, ?_⟩, ?_⟩
    · simp [Instr.mapUpdate, run_underlying Tryz.underlying54, MapKept.run_getObj_map hb, sKey.check w false hkey, h1, MapKept.run_setObj_map _ hb, Result.andThen, ChangeMaps.setBlock]
    · have := lt_of_block hb
      simp [ChangeMaps.setBlock, this]
    · rw [Array.toList_push, List.map_append, he, List.map_append]; rfl
    · refine ⟨rfl, rfl, rfl, by simp [ChangeMaps.setBlock], fun i hi hne => ?_⟩
      simp only [ChangeMaps.setBlock]
      rw [Array.getElem?_setIfInBounds_ne (fun e => hne (by rw [e]))]
  · obtain ⟨p, hp, hpk, -⟩ := fp_key he (List.mem_of_getElem? h2)
    rw [h3] at hpk
    simp only [Value.string.injEq] at hpk
    exact absurd hpk.symm (hn p hp)
theorem FMp.next {w w' : World} {b : Nat} {l : List (ByteArray × Value)} (h : FMp w b l) (hb : Below w.heap.size w w') : FMp w' b l := by
  obtain ⟨es, clock, h1, h2⟩ := h
  exact ⟨es, clock, (hb.block b (lt_of_block h1)).trans h1, h2⟩
theorem FO.grown {w w' : World} {v : Value} {fs : List Fm} {b : Nat} {l : List (ByteArray × Value)} (h : FO w v fs) (hm : FMp w b l) (hg : w.grownBy w' (some b)) : FO w' v fs := by
  obtain ⟨es, clock, hb, -⟩ := hm
  obtain ⟨B, a, c, h1, h2, h3⟩ := h
  have ne : ∀ k, (∃ cs t fr, w.heap[k]? = some (.cells cs t fr)) → k ≠ b := by
    rintro k ⟨cs, t, fr, hk⟩ rfl
    rw [hb] at hk; cases hk
  refine ⟨B, a, c, h1, ?_, h3.len, fun hne => ?_⟩
  · exact (hg.block B (lt_of_block h2) (fun e => ne B ⟨_, _, _, h2⟩ (by cases e; rfl))).trans h2
  · obtain ⟨q, o, e, hq, hc⟩ := h3.cells hne
    have hq2 : w'.heap[q]? = w.heap[q]? := hg.block q hq (fun e => by
      cases e
      have h0 := hc 0 (List.length_pos_iff.2 hne) 0 (by omega)
      simp only [Nat.zero_mul, Nat.add_zero] at h0
      unfold World.cell? at h0
      rw [hb] at h0
      simp [fmC] at h0)
    refine ⟨q, o, e, Nat.lt_of_lt_of_le hq hg.size, fun k hk j hj => ?_⟩
    rw [← hc k hk j hj]
    unfold World.cell?
    rw [hq2]
/-- The book: a map from names to seekers of their forms. -/
def BO (w : World) (b : Nat) (T : List (List UInt8 × List Fm)) : Prop :=
  ∃ l : List (ByteArray × Value), FMp w b l ∧ l.map (fun p => p.1.data.toList) = T.map (·.1) ∧ ∀ (i : Nat) p q, l[i]? = some p → T[i]? = some q → FO w p.2 q.2
theorem BO.next {w w' : World} {b : Nat} {T : List (List UInt8 × List Fm)} (h : BO w b T) (hb : Below w.heap.size w w') : BO w' b T := by
  obtain ⟨l, h1, h2, h3⟩ := h
  exact ⟨l, h1.next hb, h2, fun i p q hp hq => (h3 i p q hp hq).next hb⟩
theorem ba_eq {a b : ByteArray} (h : a.data.toList = b.data.toList) : a = b := ba_ext h
def Short (T : List (List UInt8 × List Fm)) : Prop := ∀ q ∈ T, q.1.length ≤ 100
theorem bo_short {l : List (ByteArray × Value)} {T : List (List UInt8 × List Fm)} (h : l.map (fun p => p.1.data.toList) = T.map (·.1)) (hs : Short T) : ∀ p ∈ l, p.1.size ≤ maxLen := by
  intro p hp
  have : p.1.data.toList ∈ T.map (·.1) := by rw [← h]; exact List.mem_map.2 ⟨p, hp, rfl⟩
  obtain ⟨q, hq, e⟩ := List.mem_map.1 this
  have h2 := hs q hq
  have h3 : p.1.size = q.1.length := by rw [e]; simp
  unfold maxLen; omega
theorem BO.put {w : World} {b : Nat} {T : List (List UInt8 × List Fm)} (h : BO w b T) (hs : Short T) (k : ByteArray) (kl : List UInt8) (hkl : k.data.toList = kl) (v : Value) (fs : List Fm) (hk : k.size ≤ 100) (hn : kl ∉ T.map (·.1)) (hv : FO w v fs) :
    ∃ w', (Instr.mapUpdate 54 (.map (some b)) (.string k) v).run Tryz.prog w = .ok () w' ∧ BO w' b (T ++ [(kl, fs)]) ∧ w.grownBy w' (some b) := by
  obtain ⟨l, h1, h2, h3⟩ := h
  obtain ⟨w', e1, e2, e3⟩ := fp_put h1 (bo_short h2 hs) k v (by unfold maxLen; omega) (fun p hp he => hn (by rw [← h2, ← hkl, ← he]; exact List.mem_map.2 ⟨p, hp, rfl⟩))
  refine ⟨w', e1, ⟨l ++ [(k, v)], e2, by rw [List.map_append, List.map_append, h2]; simp [hkl], fun i p q hp hq => ?_⟩, e3⟩
  have hll : l.length = T.length := by have := congrArg List.length h2; simpa using this
  by_cases hi : i < l.length
  · rw [List.getElem?_append_left hi] at hp
    rw [List.getElem?_append_left (by omega)] at hq
    exact (h3 i p q hp hq).grown h1 e3
  · rw [List.getElem?_append_right (by omega)] at hp hq
    have : i - l.length = 0 := by
      have := (List.getElem?_eq_some_iff.1 hp).1
      simp at this; omega
    rw [this] at hp
    rw [← hll, this] at hq
    simp only [List.getElem?_cons_zero, Option.some.injEq] at hp hq
    subst hp hq
    exact hv.grown h1 e3
theorem BO.look {w : World} {b : Nat} {T : List (List UInt8 × List Fm)} (h : BO w b T) (hs : Short T) (hd : (T.map (·.1)).Nodup) {S : ByteArray} {fs : List Fm} (hf : (S.data.toList, fs) ∈ T) :
    ∃ v, (Instr.lookup 54 (.map (some b)) (.string S) true).run Tryz.prog w = .ok (.tuple #[v, .bool true]) w ∧ FO w v fs := by
  obtain ⟨l, h1, h2, h3⟩ := h
  obtain ⟨i, hi⟩ := List.getElem?_of_mem hf
  have hll : l.length = T.length := by have := congrArg List.length h2; simpa using this
  have hil : i < T.length := (List.getElem?_eq_some_iff.1 hi).1
  obtain ⟨p, hp⟩ : ∃ p, l[i]? = some p := ⟨_, List.getElem?_eq_getElem (by omega)⟩
  have hkey : ∀ (j : Nat) x, l[j]? = some x → (T.map (·.1))[j]? = some x.1.data.toList := fun j x hx => by rw [← h2, List.getElem?_map, hx]; rfl
  have hpe : p.1 = S := by
    have := hkey i p hp
    rw [List.getElem?_map, hi] at this
    simp only [Option.map_some, Option.some.injEq] at this
    exact ba_eq this.symm
  refine ⟨p.2, fp_yes h1 (bo_short h2 hs) (v := p.2) (by rw [← hpe]; exact List.mem_of_getElem? hp) (fun x hx hxe => ?_), h3 i p _ hp hi⟩
  obtain ⟨j, hj⟩ := List.getElem?_of_mem hx
  have k1 := hkey j x hj
  have k2 := hkey i p hp
  have : j = i := by
    have hj1 := (List.getElem?_eq_some_iff.1 k1)
    have hi1 := (List.getElem?_eq_some_iff.1 k2)
    exact (List.getElem_inj hd).1 (hj1.2.trans ((by rw [hxe, hpe] : x.1.data.toList = p.1.data.toList).trans hi1.2.symm))
  subst this
  rw [hp] at hj
  cases hj; rfl
theorem BO.absent {w : World} {b : Nat} {T : List (List UInt8 × List Fm)} (h : BO w b T) (hs : Short T) {S : ByteArray} (hS : S.size ≤ maxLen) (hf : S.data.toList ∉ T.map (·.1)) :
    (Instr.lookup 54 (.map (some b)) (.string S) true).run Tryz.prog w = .ok (.tuple #[.nilFunc, .bool false]) w := by
  obtain ⟨l, h1, h2, h3⟩ := h
  exact fp_no h1 (bo_short h2 hs) hS (fun p hp he => hf (by rw [← h2, ← he]; exact List.mem_map.2 ⟨p, hp, rfl⟩))
theorem fm_lit (u : World) (fs : List Fm) : SL fmC 3 (u.alloc (.cells (fs.flatMap fmC).toArray 59)) (u.alloc (.cells (fs.flatMap fmC).toArray 59)).heap.size (some ⟨u.heap.size, 0, none⟩) fs.length fs := by
  rw [World.size_alloc]; exact SL.lit u 59 fs fm_len (by decide) _ rfl fs.length rfl
theorem among_lit (u : World) (fs : List Fm) (A : Array Value) (hA : A = (fs.flatMap fmC).toArray) (n : Nat) (hn : n = fs.length) : Calls Tryz.prog 34 #[.slice (some ⟨u.heap.size, 0, none⟩) n n] (u.alloc (.cells A 59)) (AmP fs u) := by
  subst hA hn
  refine (among_any _ _ _ _ fs (fm_lit u fs)).mono ?_
  rintro e w' ⟨v, he, h1, h2⟩
  exact ⟨v, he, h1, after ((Below.refl _ _).alloc (Nat.le_refl _) _) h2⟩
set_option maxRecDepth 100000 in
theorem oneReg_any (w : World) (op need : Int) : Calls Tryz.prog 35 #[.int .i64 op, .int .i64 need] w (AmP [⟨[114, 115], op, need⟩, ⟨[114, 110], op, 0⟩] w) := by
  go_enter Tryz.func35, Tryz.ntmps35
  go_wp2_with fail
  refine (among_lit w [⟨[114, 115], op, need⟩, ⟨[114, 110], op, 0⟩] _ rfl _ rfl).mono ?_
  rintro e u ⟨v, rfl, hf, hb⟩
  have HF := Lib.hid hf
  have HB := Lib.hid hb
  clear hf hb
  go_wp2
  go_ret
  exact ⟨v, rfl, HF.out, HB.out⟩
set_option maxRecDepth 100000 in
theorem goTo_any (w : World) (op need : Int) : Calls Tryz.prog 36 #[.int .i64 op, .int .i64 need] w (AmP [⟨[115], op, need⟩, ⟨[110], op, 0⟩] w) := by
  go_enter Tryz.func36, Tryz.ntmps36
  go_wp2_with fail
  refine (among_lit w [⟨[115], op, need⟩, ⟨[110], op, 0⟩] _ rfl _ rfl).mono ?_
  rintro e u ⟨v, rfl, hf, hb⟩
  have HF := Lib.hid hf
  have HB := Lib.hid hb
  clear hf hb
  go_wp2
  go_ret
  exact ⟨v, rfl, HF.out, HB.out⟩
set_option maxRecDepth 100000 in
theorem sum_any (w : World) (sh lo : Int) : Calls Tryz.prog 37 #[.int .i64 sh, .int .i64 lo] w (AmP [⟨[114, 114, 110], sh, 0⟩, ⟨[114, 114, 110, 104], sh, 0⟩, ⟨[114, 114, 114], lo, 0⟩, ⟨[114, 114, 114, 104], lo, 0⟩] w) := by
  go_enter Tryz.func37, Tryz.ntmps37
  go_wp2_with fail
  refine (among_lit w [⟨[114, 114, 110], sh, 0⟩, ⟨[114, 114, 110, 104], sh, 0⟩, ⟨[114, 114, 114], lo, 0⟩, ⟨[114, 114, 114, 104], lo, 0⟩] _ rfl _ rfl).mono ?_
  rintro e u ⟨v, rfl, hf, hb⟩
  have HF := Lib.hid hf
  have HB := Lib.hid hb
  clear hf hb
  go_wp2
  go_ret
  exact ⟨v, rfl, HF.out, HB.out⟩
set_option maxRecDepth 100000 in
theorem logic_any (w : World) (sh lo : Int) : Calls Tryz.prog 38 #[.int .i64 sh, .int .i64 lo] w (AmP [⟨[114, 114, 110], sh, 0⟩, ⟨[114, 114, 114], lo, 0⟩, ⟨[114, 114, 114, 104], lo, 0⟩] w) := by
  go_enter Tryz.func38, Tryz.ntmps38
  go_wp2_with fail
  refine (among_lit w [⟨[114, 114, 110], sh, 0⟩, ⟨[114, 114, 114], lo, 0⟩, ⟨[114, 114, 114, 104], lo, 0⟩] _ rfl _ rfl).mono ?_
  rintro e u ⟨v, rfl, hf, hb⟩
  have HF := Lib.hid hf
  have HB := Lib.hid hb
  clear hf hb
  go_wp2
  go_ret
  exact ⟨v, rfl, HF.out, HB.out⟩
set_option maxRecDepth 100000 in
theorem wide_any (w : World) (op : Int) : Calls Tryz.prog 39 #[.int .i64 op] w (AmP [⟨[114, 110], op, 0⟩, ⟨[114, 110, 104], op, 0⟩] w) := by
  go_enter Tryz.func39, Tryz.ntmps39
  go_wp2_with fail
  refine (among_lit w [⟨[114, 110], op, 0⟩, ⟨[114, 110, 104], op, 0⟩] _ rfl _ rfl).mono ?_
  rintro e u ⟨v, rfl, hf, hb⟩
  have HF := Lib.hid hf
  have HB := Lib.hid hb
  clear hf hb
  go_wp2
  go_ret
  exact ⟨v, rfl, HF.out, HB.out⟩
end Go.Proofs.YthejefldnpeciaaGreatDoor
