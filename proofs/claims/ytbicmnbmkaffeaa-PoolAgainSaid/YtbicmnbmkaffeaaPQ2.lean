/- pool: the map of literals, looked up, put to, and cleared. -/
import Derived.Test.YtbicmnbmkaffeaaPQ1
namespace Go.Proofs.Ytbicmnbmkaffeaa
set_option linter.unusedVariables false
set_option linter.unusedSimpArgs false
open Go.ChangeShapes Go.WideShapes Go.Deep Go.RowKit

theorem lit_size : ∃ m, Try.prog.types.size = m + 1 := ⟨Try.prog.types.size - 1, by kernel_rfl⟩
theorem litKeyOf (x : Lt) (hx : GoodL x) : ∃ l, keyOf Try.prog 31 (litV x) = some l := by
  obtain ⟨m, hm⟩ := lit_size
  have hk : Try.prog.keyType 31 = true := by kernel_rfl
  have hf : (litV x).formed Try.prog 31 = true := by
    have c0 : Try.prog.cellsOf 31 = 3 := by kernel_rfl
    simp [Value.formed, Try.underlying31, c0]
  have h := keyLits_lit m x hx
  rw [← show Try.prog.types.size + 1 = m + 2 from by omega] at h
  refine ⟨.string (keyBytes [.string x.sym.data.toList, .int .i64 x.add, .int .u64 x.v]), ?_⟩
  unfold keyOf
  rw [Try.underlying31]
  simp only [hk, hf, Bool.and_self, if_true]
  rw [show (litV x).cells.toList = [.string x.sym, .int .i64 x.add, .int .u64 x.v] from rfl, h]
  rfl
def ents (l : List Lt) : List (Value × Value) := l.zipIdx.map fun p => (litV p.1, .int .i64 p.2)
theorem ents_mem {l : List Lt} {k v : Value} (h : (k, v) ∈ ents l) : ∃ x i, l[i]? = some x ∧ k = litV x ∧ v = .int .i64 (i : Nat) := by
  obtain ⟨⟨x, i⟩, hp, he⟩ := List.mem_map.1 h
  simp only [Prod.mk.injEq] at he
  have := List.mem_zipIdx' hp
  refine ⟨x, i, ?_, he.1.symm, he.2.symm⟩
  rw [List.getElem?_eq_getElem this.1, ← this.2]
theorem ents_at {l : List Lt} {i : Nat} {x : Lt} (h : l[i]? = some x) : (ents l)[i]? = some (litV x, .int .i64 (i : Nat)) := by
  unfold ents
  rw [List.getElem?_map, List.getElem?_zipIdx, h]
  simp
theorem ents_snoc (l : List Lt) (x : Lt) : ents (l ++ [x]) = ents l ++ [(litV x, .int .i64 (l.length : Nat))] := by
  unfold ents
  rw [List.zipIdx_append, List.map_append]
  simp
/-- Block b is a map that has each literal of the list, with its place. -/
def PM (w : World) (b : Nat) (l : List Lt) : Prop := ∃ es clock, w.heap[b]? = some (.map es clock) ∧ es.toList.map (fun e => (e.key, e.val)) = ents l
theorem PM.len {w : World} {b : Nat} {l : List Lt} {es : Array MapEntry} (h : es.toList.map (fun e => (e.key, e.val)) = ents l) : es.size = l.length := by
  have := congrArg List.length h
  simpa [ents] using this
theorem es_key {l : List Lt} {es : Array MapEntry} (h : es.toList.map (fun e => (e.key, e.val)) = ents l) {e : MapEntry} (he : e ∈ es.toList) : ∃ x i, l[i]? = some x ∧ e.key = litV x ∧ e.val = .int .i64 (i : Nat) := by
  have : (e.key, e.val) ∈ es.toList.map (fun e => (e.key, e.val)) := List.mem_map.2 ⟨e, he, rfl⟩
  rw [h] at this
  exact ents_mem this
theorem es_keys {l : List Lt} {es : Array MapEntry} (h : es.toList.map (fun e => (e.key, e.val)) = ents l) (hg : ∀ x ∈ l, GoodL x) : ∀ e ∈ es.toList, ∃ k, keyOf Try.prog 31 e.key = some k := by
  intro e he
  obtain ⟨x, i, hx, hk, -⟩ := es_key h he
  rw [hk]
  exact litKeyOf x (hg x (List.mem_of_getElem? hx))
theorem zero_int (w : World) : (zeroValue 3).run Try.prog w = .ok (.int .i64 0) w := by kernel_rfl

theorem look_nil (x : Lt) (hx : GoodL x) (w : World) : (Instr.lookup 61 (.map none) (litV x) true).run Try.prog w = .ok (.tuple #[.int .i64 0, .bool false]) w := by
  obtain ⟨kl, hkey⟩ := litKeyOf x hx
  have hf := litKey.find w hkey [] (by simp)
  have h1 : (Instr.findKey 31 (litV x) []).run Try.prog w = .ok none w := by
    rcases hf with ⟨h, -⟩ | ⟨j, e, -, h, -⟩
    · exact h
    · simp at h
  simp [Instr.lookup, run_underlying Try.underlying61, litKey.check w _ hkey, h1, zero_int, Result.andThen]
theorem look_no {l : List Lt} {b : Nat} {w : World} (h : PM w b l) (hg : ∀ y ∈ l, GoodL y) (x : Lt) (hx : GoodL x) (hn : x ∉ l) :
    (Instr.lookup 61 (.map (some b)) (litV x) true).run Try.prog w = .ok (.tuple #[.int .i64 0, .bool false]) w := by
  obtain ⟨es, clock, hb, he⟩ := h
  obtain ⟨kl, hkey⟩ := litKeyOf x hx
  rcases litKey.find w hkey es.toList (es_keys he hg) with ⟨h1, -⟩ | ⟨j, e, h1, h2, h3⟩
  · simp [Instr.lookup, run_underlying Try.underlying61, MapKept.run_getObj_map hb, litKey.check w _ hkey, h1, zero_int, Result.andThen]
  · obtain ⟨y, i, hy, hk, -⟩ := es_key he (List.mem_of_getElem? h2)
    rw [h3] at hk
    exact absurd (litV_inj hk ▸ List.mem_of_getElem? hy) hn
theorem look_yes {l : List Lt} {b : Nat} {w : World} (h : PM w b l) (hg : ∀ y ∈ l, GoodL y) (hd : l.Nodup) (x : Lt) (i : Nat) (hi : l[i]? = some x) :
    (Instr.lookup 61 (.map (some b)) (litV x) true).run Try.prog w = .ok (.tuple #[.int .i64 (i : Nat), .bool true]) w := by
  obtain ⟨es, clock, hb, he⟩ := h
  obtain ⟨kl, hkey⟩ := litKeyOf x (hg x (List.mem_of_getElem? hi))
  have hei := ents_at hi
  rw [← he, List.getElem?_map, Option.map_eq_some_iff] at hei
  obtain ⟨e0, he0, heq⟩ := hei
  simp only [Prod.mk.injEq] at heq
  rcases litKey.find w hkey es.toList (es_keys he hg) with ⟨h1, h2⟩ | ⟨j, e, h1, h2, h3⟩
  · exact absurd heq.1 (h2 e0 (List.mem_of_getElem? he0))
  · obtain ⟨y, k, hy, hk, hv⟩ := es_key he (List.mem_of_getElem? h2)
    rw [h3] at hk
    obtain rfl := litV_inj hk
    have hki : k = i := (List.getElem?_inj (List.getElem?_eq_some_iff.1 hy).1 hd).1 (hy.trans hi.symm)
    simp [Instr.lookup, run_underlying Try.underlying61, MapKept.run_getObj_map hb, litKey.check w _ hkey, h1, hv, hki, Result.andThen]
/-- A literal that is not there is put behind. -/
theorem put_new {l : List Lt} {b : Nat} {w : World} (h : PM w b l) (hg : ∀ y ∈ l, GoodL y) (x : Lt) (hx : GoodL x) (hn : x ∉ l) :
    ∃ o, (Instr.mapUpdate 61 (.map (some b)) (litV x) (.int .i64 (l.length : Nat))).run Try.prog w = .ok () (ChangeMaps.setBlock w b o) ∧ ∀ w', w'.heap[b]? = some o → PM w' b (l ++ [x]) := by
  obtain ⟨es, clock, hb, he⟩ := h
  obtain ⟨kl, hkey⟩ := litKeyOf x hx
  rcases litKey.find w hkey es.toList (es_keys he hg) with ⟨h1, -⟩ | ⟨j, e, h1, h2, h3⟩
  · refine ⟨.map (es.push ⟨litV x, .int .i64 (l.length : Nat), clock⟩) (clock + 1), ?_, fun w' hw' => ⟨_, _, hw', ?_⟩⟩
    · simp [Instr.mapUpdate, run_underlying Try.underlying61, MapKept.run_getObj_map hb, litKey.check w false hkey, h1, MapKept.run_setObj_map _ hb, Result.andThen, ChangeMaps.setBlock]
    · rw [Array.toList_push, List.map_append, he, ents_snoc]; rfl
  · obtain ⟨y, i, hy, hk, -⟩ := es_key he (List.mem_of_getElem? h2)
    rw [h3] at hk
    exact absurd (litV_inj hk ▸ List.mem_of_getElem? hy) hn
theorem clear_map {l : List Lt} {b : Nat} {w : World} (h : PM w b l) :
    ∃ o, (Builtin.clear_ #[61] 0 #[.map (some b)]).run Try.prog w = .ok (.tuple #[]) (ChangeMaps.setBlock w b o) ∧ ∀ w', w'.heap[b]? = some o → PM w' b [] := by
  obtain ⟨es, clock, hb, he⟩ := h
  refine ⟨.map #[] clock, ?_, fun w' hw' => ⟨_, _, hw', rfl⟩⟩
  simp [Builtin.clear_, run_underlying Try.underlying61, MapKept.run_getObj_map hb, MapKept.run_setObj_map _ hb, Result.andThen, ChangeMaps.setBlock]
theorem clear_nil (w : World) : (Builtin.clear_ #[61] 0 #[.map none]).run Try.prog w = .ok (.tuple #[]) w := by
  simp [Builtin.clear_, run_underlying Try.underlying61, Result.andThen]
end Go.Proofs.Ytbicmnbmkaffeaa
