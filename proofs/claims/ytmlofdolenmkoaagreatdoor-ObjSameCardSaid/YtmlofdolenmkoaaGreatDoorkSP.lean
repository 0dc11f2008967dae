/- obj, plain: the bytes tell objects apart. -/
import Derived.Test.YtmlofdolenmkoaaGreatDoorkSG
namespace Go.Proofs.YtmlofdolenmkoaaGreatDoor
set_option linter.unusedVariables false
set_option linter.unusedSimpArgs false
open Go.ChangeShapes Go.WideShapes Go.Deep Go.RowKit
open Go.Proofs.YtmlofdolenmkoaaGreatDoor.Wi (putL putL_len getL getL_back zig zag zag_zig zig_lt)

theorem putL_inj {v w : Nat} {a b : List UInt8} (hv : v < 18446744073709551616) (hw : w < 18446744073709551616) (h : putL v ++ a = putL w ++ b) : v = w ∧ a = b := by
  have h1 := getL_back v a hv
  rw [h, getL_back w b hw] at h1
  simp only [Prod.mk.injEq] at h1
  obtain ⟨rfl, -, -⟩ := h1
  exact ⟨rfl, List.append_cancel_left h⟩
theorem txtL_inj {d e a b : List UInt8} (hd : d.length < 18446744073709551616) (he : e.length < 18446744073709551616) (h : txtL d ++ a = txtL e ++ b) : d = e ∧ a = b := by
  unfold txtL at h
  rw [List.append_assoc, List.append_assoc] at h
  obtain ⟨h1, h2⟩ := putL_inj hd he h
  exact List.append_inj h2 h1
theorem flat_inj {α : Type} {f : α → List UInt8} {ok : α → Prop} (hf : ∀ x y, ok x → ok y → ∀ a b : List UInt8, f x ++ a = f y ++ b → x = y ∧ a = b) :
    ∀ {l m : List α}, l.length = m.length → (∀ x ∈ l, ok x) → (∀ x ∈ m, ok x) → ∀ {a b : List UInt8}, l.flatMap f ++ a = m.flatMap f ++ b → l = m ∧ a = b
  | [], [], _, _, _, a, b, h => ⟨rfl, by simpa using h⟩
  | [], _ :: _, hl, _, _, _, _, _ => by simp at hl
  | _ :: _, [], hl, _, _, _, _, _ => by simp at hl
  | x :: l, y :: m, hl, h1, h2, a, b, h => by
    rw [List.flatMap_cons, List.flatMap_cons, List.append_assoc, List.append_assoc] at h
    obtain ⟨rfl, h3⟩ := hf x y (h1 x (List.mem_cons_self ..)) (h2 y (List.mem_cons_self ..)) _ _ h
    obtain ⟨rfl, h4⟩ := flat_inj hf (by simpa using hl) (fun z hz => h1 z (List.mem_cons_of_mem _ hz)) (fun z hz => h2 z (List.mem_cons_of_mem _ hz)) h3
    exact ⟨rfl, h4⟩
theorem toNat_inj {x y : Int} (hx : 0 ≤ x) (hy : 0 ≤ y) (h : x.toNat = y.toNat) : x = y := by omega
def RelFull (r : Rl) : Prop := RelOk r 4096 ∧ GoodRl r
theorem relB_inj (r q : Rl) (hr : RelFull r) (hq : RelFull q) (a b : List UInt8) (h : relB r ++ a = relB q ++ b) : r = q ∧ a = b := by
  obtain ⟨r1, r2⟩ := hr
  obtain ⟨q1, q2⟩ := hq
  unfold relB at h
  simp only [List.append_assoc] at h
  have a1 := r1.p0; have a2 := r1.p1; have a3 := r1.k0; have a4 := r1.k1; have a5 := r1.s0; have a6 := r2.2.2.1.2
  have b1 := q1.p0; have b2 := q1.p1; have b3 := q1.k0; have b4 := q1.k1; have b5 := q1.s0; have b6 := q2.2.2.1.2
  obtain ⟨e1, h⟩ := putL_inj (by omega) (by omega) h
  obtain ⟨e2, h⟩ := putL_inj (by omega) (by omega) h
  obtain ⟨e3, h⟩ := putL_inj (by omega) (by omega) h
  obtain ⟨e4, hz⟩ := putL_inj (zig_lt r2.2.2.2.1 r2.2.2.2.2) (zig_lt q2.2.2.2.1 q2.2.2.2.2) h
  have e5 := congrArg zag e4
  rw [zag_zig, zag_zig] at e5
  cases r; cases q
  simp only at *
  exact ⟨by rw [Rl.mk.injEq]; exact ⟨toNat_inj a1 b1 e1, toNat_inj a3 b3 e2, toNat_inj a5 b5 e3, e5⟩, hz⟩
def SecFull (s : Sc) : Prop := SecOk s ∧ GoodSc s
theorem keepI_inj {x y : Bool} (h : keepI x = keepI y) : x = y := by cases x <;> cases y <;> simp [keepI] at h <;> rfl
theorem RelOk.up {r : Rl} {d : Nat} (h : RelOk r d) (hd : d ≤ 4096) : RelOk r 4096 := ⟨h.p0, by have := h.p1; omega, h.k0, h.k1, h.s0⟩
theorem secB_inj (s t : Sc) (hs : SecFull s) (ht : SecFull t) (a b : List UInt8) (h : secB s ++ a = secB t ++ b) : s = t ∧ a = b := by
  obtain ⟨s1, s2⟩ := hs
  obtain ⟨t1, t2⟩ := ht
  unfold secB at h
  simp only [List.append_assoc] at h
  have a1 := s1.name; have a2 := s1.k0; have a3 := s1.k1; have a4 := s1.a0; have a5 := s1.a1; have a6 := s1.data; have a7 := s1.rels
  have b1 := t1.name; have b2 := t1.k0; have b3 := t1.k1; have b4 := t1.a0; have b5 := t1.a1; have b6 := t1.data; have b7 := t1.rels
  have ks : keepI s.keep < 18446744073709551616 := by unfold keepI; split <;> omega
  have kt : keepI t.keep < 18446744073709551616 := by unfold keepI; split <;> omega
  obtain ⟨e1, h⟩ := txtL_inj (by omega) (by omega) h
  obtain ⟨e2, h⟩ := putL_inj (by omega) (by omega) h
  obtain ⟨e3, h⟩ := putL_inj ks kt h
  obtain ⟨e4, h⟩ := putL_inj (by omega) (by omega) h
  obtain ⟨e5, h⟩ := txtL_inj (by omega) (by omega) h
  obtain ⟨e6, h⟩ := putL_inj (by omega) (by omega) h
  obtain ⟨e7, hz⟩ := flat_inj (ok := RelFull) relB_inj e6 (fun r hr => ⟨(s1.all r hr).up a6, s2.rels r hr⟩) (fun r hr => ⟨(t1.all r hr).up b6, t2.rels r hr⟩) h
  cases s; cases t
  simp only at *
  exact ⟨by rw [Sc.mk.injEq]; exact ⟨e1, toNat_inj a2 b2 e2, keepI_inj e3, toNat_inj a4 b4 e4, e5, e7⟩, hz⟩
theorem symB_inj (s t : Sy) (hs : SymOk s) (ht : SymOk t) (a b : List UInt8) (h : symB s ++ a = symB t ++ b) : s = t ∧ a = b := by
  unfold symB at h
  simp only [List.append_assoc] at h
  have a1 := hs.name; have a2 := hs.b0; have a3 := hs.b1; have a4 := hs.s0; have a5 := hs.s1; have a6 := hs.o0; have a7 := hs.o1
  have b1 := ht.name; have b2 := ht.b0; have b3 := ht.b1; have b4 := ht.s0; have b5 := ht.s1; have b6 := ht.o0; have b7 := ht.o1
  obtain ⟨e1, h⟩ := txtL_inj (by omega) (by omega) h
  obtain ⟨e2, h⟩ := putL_inj (by omega) (by omega) h
  obtain ⟨e3, h⟩ := putL_inj (by omega) (by omega) h
  obtain ⟨e4, hz⟩ := putL_inj (by omega) (by omega) h
  cases s; cases t
  simp only at *
  exact ⟨by rw [Sy.mk.injEq]; exact ⟨e1, toNat_inj a2 b2 e2, by omega, toNat_inj a6 b6 e4⟩, hz⟩
/-- Two right objects of the same bytes are the same. -/
theorem putO_inj {o p : Ob} (ho : isO o = true) (hp : isO p = true) (hgo : ∀ s ∈ o.secs, GoodSc s) (hgp : ∀ s ∈ p.secs, GoodSc s) (h : putO o = putO p) : o = p := by
  obtain ⟨o1, o2, o3, o4⟩ := is_ok ho
  obtain ⟨p1, p2, p3, p4⟩ := is_ok hp
  unfold putO at h
  simp only [List.append_assoc] at h
  have h := List.append_cancel_left h
  obtain ⟨e1, h⟩ := putL_inj (by omega) (by omega) h
  obtain ⟨e2, h⟩ := flat_inj (ok := SecFull) secB_inj e1 (fun s hs => ⟨o3 s hs, hgo s hs⟩) (fun s hs => ⟨p3 s hs, hgp s hs⟩) h
  obtain ⟨e3, h⟩ := putL_inj (by omega) (by omega) h
  obtain ⟨e4, -⟩ := flat_inj (ok := SymOk) (a := []) (b := []) symB_inj e3 o4 p4 (by simpa using h)
  cases o; cases p
  simp only at e2 e4
  rw [e2, e4]
end Go.Proofs.YtmlofdolenmkoaaGreatDoor
