/- operand's law: of, and given. -/
import Derived.Test.YtngoipcjipbelaaDoorOW
import Derived.Test.YtngoipcjipbelaaDoorLP
namespace Go.Proofs.YtngoipcjipbelaaDoor
set_option linter.unusedVariables false
set_option linter.unusedSimpArgs false
open Go.ChangeShapes Go.WideShapes Go.Deep Go.RowKit

def toTi (t : Tk) : Ti := ⟨(t.kind : Int), t.text, (t.v : Int)⟩
theorem sl_ti {w : World} {B n : Nat} {a : Option Addr} {ts : List Tk} (h : SL tkC 3 w B a n ts) : SL tiC 3 w B a n (ts.map toTi) := by
  refine ⟨by rw [List.length_map]; exact h.len, fun hne => ?_⟩
  obtain ⟨b, off, e, hB, hc⟩ := h.cells (fun e => hne (by rw [e]; rfl))
  refine ⟨b, off, e, hB, fun k hk j hj => ?_⟩
  rw [List.length_map] at hk
  rw [hc k hk j hj, List.getElem_map]; rfl
/-- What of tells of a line whose tokens are ts. -/
theorem of_yes {s : ByteArray} {ts : List Tk} (hL : ∀ w, Tab w → Calls Tryd.prog 16 #[.string s] w (RetTs ts w)) (hg : GoodTs (ts.map toTi)) (hn : ts.length ≤ 1000000) (w : World) (hT : TabO w) :
    Calls Tryd.prog 49 #[.string s] w (ParseP (ts.map toTi) w) := by
  have HL := Lib.hid (hL w hT.1)
  have HT := Lib.hid hT
  have HG := Lib.hid hg
  have HN := Lib.hid hn
  have HP := Lib.hid (fun (u : World) (a : Option Addr) (c : Nat) (h : SL tiC 3 u u.heap.size a ts.length (ts.map toTi)) (ht : TabO u) => by
    have q := Parse_any (w := u) (a := a) (c := c) (ts := ts.map toTi) (by rw [List.length_map]; exact h) ht hg (by rw [List.length_map]; exact hn)
    rw [List.length_map] at q
    exact q)
  have HCv := Lib.hid (fun (u : World) (a : Option Addr) (h : SL tkC 3 u u.heap.size a ts.length ts) => sl_ti h)
  clear hL hT hg hn
  generalize ts.map toTi = tt at HP HG HCv ⊢
  go_enter Tryd.func49, Tryd.ntmps49
  go_wp2_with fail
  refine HL.out.mono ?_
  rintro e u1 ⟨a, c, rfl, hsl, hnil, hb⟩
  have HR := Lib.hid (HP.out u1 a c (HCv.out u1 a hsl) (HT.out.next hb))
  have HB := Lib.hid hb
  clear hsl hnil hb
  obtain ⟨n, hn⟩ : ∃ n, n = ts.length := ⟨_, rfl⟩
  rw [← hn] at HR ⊢
  clear hn
  go_wp2_with fail
  refine HR.out.mono ?_
  intro e u2 hO
  unfold ParseP at hO
  obtain ⟨os, er, hp⟩ : ∃ os er, parseL tt = (os, er) := ⟨_, _, rfl⟩
  rw [hp] at hO
  obtain ⟨a2, c2, rfl, hsl, hnil, hb⟩ := hO
  have HS := Lib.hid hsl
  have HNL := Lib.hid hnil
  have HB2 := Lib.hid (HB.out.trans (hb.mono HB.out.size))
  have HPq := Lib.hid hp
  clear hsl hnil hb hp
  generalize hm : os.length = m
  go_wp2
  go_ret2
  rw [← hm]
  unfold ParseP
  rw [HPq.out]
  exact ⟨a2, c2, rfl, HS.out, HNL.out, HB2.out⟩
end Go.Proofs.YtngoipcjipbelaaDoor
