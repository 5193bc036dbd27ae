/- Frames of one station, out of a row of a call's own. No condition. -/
import Derived.Test.YtfmhdnhaaohdjaaJs
namespace Go.Proofs.Ytfmhdnhaaohdjaa
open Go.RowKit Go.ChangeShapes Go.WideShapes Go.Deep Ieee
set_option linter.unusedVariables false
set_option linter.unusedSimpArgs false

def keepM (Q : List Sct) (s : Int) : List Sct := Q.filter fun S => decide (S.x = s)
def keepE (V : List Ent) (s : Int) : List Ent := V.filter fun e => decide (e.s.x = s)
theorem keepE_S (V : List Ent) (s : Int) : entS (keepE V s) = keepM (entS V) s := by
  unfold entS keepE keepM
  rw [List.filter_map]; rfl
theorem keepE_sub (V : List Ent) (s : Int) : (keepE V s).Sublist V := List.filter_sublist
theorem keepE_len (V : List Ent) (s : Int) : (keepE V s).length ≤ V.length := List.length_filter_le ..
theorem keepM_len (Q : List Sct) (s : Int) : (keepM Q s).length ≤ Q.length := List.length_filter_le ..
theorem keepM_tot (Q : List Sct) (s : Int) : totM (keepM Q s) ≤ totM Q := by
  unfold keepM
  induction Q with
  | nil => exact Nat.le_refl _
  | cons a r ih =>
    rw [List.filter_cons]
    split
    · simp only [totM]; omega
    · simp only [totM]; omega
theorem take_succ_E (V : List Ent) (k : Nat) (h : k < V.length) : V.take (k + 1) = V.take k ++ [V.getD k noE] := take_succ_getD V noE k h
theorem keepE_yes {V : List Ent} {s : Int} {k : Nat} (h : k < V.length) (hx : (V.getD k noE).s.x = s) : keepE (V.take (k + 1)) s = keepE (V.take k) s ++ [V.getD k noE] := by
  rw [take_succ_E V k h]
  unfold keepE
  rw [List.filter_append, List.filter_cons, decide_eq_true hx]; rfl
theorem keepE_no {V : List Ent} {s : Int} {k : Nat} (h : k < V.length) (hx : ¬ (V.getD k noE).s.x = s) : keepE (V.take (k + 1)) s = keepE (V.take k) s := by
  rw [take_succ_E V k h]
  unfold keepE
  rw [List.filter_append, List.filter_cons, decide_eq_false hx]; simp
theorem keepE_all {V : List Ent} {s : Int} {k : Nat} (h : k ≤ V.length) (hx : ∀ j, j < k → (V.getD j noE).s.x = s) : keepE (V.take k) s = V.take k := by
  induction k with
  | zero => rfl
  | succ k ih => rw [keepE_yes (by omega) (hx k (by omega)), ih (by omega) (fun j hj => hx j (by omega)), take_succ_E V k (by omega)]
theorem keepE_whole {V : List Ent} {s : Int} {n : Nat} (h : V.length = n) : keepE (V.take n) s = keepE V s := by rw [List.take_of_length_le (by omega)]
theorem EntsOk.sub {w : World} {lo hi : Nat} {V U : List Ent} (h : EntsOk w lo hi V) (hs : U.Sublist V) : EntsOk w lo hi U :=
  ⟨fun e he => h.1 e (hs.subset he), (hs.map _).nodup h.2⟩
/-- A row of entries, wherever it lies. -/
theorem EntsOk.own2 {w : World} {lo hi g : Nat} {cs : Array Value} {t : TypeId} {V : List Ent} (h : EntsOk w lo hi V) (hg : w.heap[g]? = some (.cells cs t (0, 0))) (ht : cs.toList.take (V.length * 3) = entsV V) (hl : lo ≤ g) (hh : g < hi) (hne : ∀ e ∈ V, e.b ≠ g) :
    OwM w lo hi (some ⟨g, 0, none⟩) V.length (entS V) := by
  have hsz : V.length * 3 ≤ cs.size := by
    have h9 := congrArg List.length ht
    rw [entsV_len, List.length_take] at h9
    have h8 : cs.toList.length = cs.size := Array.length_toList
    omega
  refine ⟨by simp [entS], .inr ⟨g, fun j => (V.getD j noE).b, cs, t, rfl, hg, hsz, hl, by omega, fun j hj => ?_, fun i j hij hj => ?_⟩⟩
  · have hm : V.getD j noE ∈ V := by
      rw [List.getD_eq_getElem?_getD, List.getElem?_eq_getElem hj]
      exact List.getElem_mem hj
    obtain ⟨e1, e2, e3, e4⟩ := h.1 _ hm
    obtain ⟨c1, c2, c3⟩ := entsV_three V j hj
    rw [entS_at]
    have hc : ∀ i, i < V.length * 3 → cs[i]? = (entsV V)[i]? := fun i hi => by
      rw [← ht, List.getElem?_take_of_lt hi]; simp
    exact ⟨_, _, ⟨(hc _ (by omega)).trans c1, (hc _ (by omega)).trans c2, (hc _ (by omega)).trans c3⟩, e1, e2, hne _ hm, e3, e4⟩
  · have hn := h.2
    have := (List.pairwise_iff_getElem.1 hn) i j (by simp; omega) (by simpa using hj) hij
    intro he
    apply this
    have he' : (V.getD i noE).b = (V.getD j noE).b := he
    rw [List.getD_eq_getElem?_getD, List.getD_eq_getElem?_getD, List.getElem?_eq_getElem hj, List.getElem?_eq_getElem (by omega : i < V.length)] at he'
    simpa using he'
/-- The entries of a list of frames of a call's own. -/
theorem OwM.entsO {w : World} {lo hi n : Nat} {A : Option Addr} {R : List Sct} (h : OwM w lo hi A n R) (hpos : 0 < n) : ∃ (g : Nat) (cs : Array Value) (t : TypeId) (V : List Ent), A = some ⟨g, 0, none⟩ ∧ w.heap[g]? = some (.cells cs t (0, 0)) ∧ n * 3 ≤ cs.size ∧ lo ≤ g ∧ g < hi ∧ V.length = n ∧ entS V = R ∧ cs.toList.take (n * 3) = entsV V ∧ EntsOk w lo hi V ∧ ∀ e ∈ V, e.b ≠ g := by
  rcases h.ex with h0 | ⟨g, f, cs, t, hA, hg, hz, h1, h2, h3, h4⟩
  · omega
  have each : ∀ j, j < n → ∃ q : Ent, q.s = R.getD j noT ∧ q.b = f j ∧ F3 cs (j * 3) q.s.x q.s.z q.A q.s.v.length q.c ∧ OwL w q.b (q.b + 1) q.A q.s.v.length q.s.v ∧ q.s.v.length ≤ q.c ∧ q.b ≠ g ∧ lo ≤ q.b ∧ q.b < hi := by
    intro j hj
    obtain ⟨A', c', e1, e2, e3, e4, e5, e6⟩ := h3 j hj
    exact ⟨⟨R.getD j noT, f j, A', c'⟩, rfl, rfl, e1, e2, e3, e4, e5, e6⟩
  obtain ⟨q, hq⟩ := Go.Deep.choose_lt each
  have hat : ∀ j, j < n → ((List.range n).map q).getD j noE = q j := fun j hj => by simp [List.getD, hj]
  have hlen : ((List.range n).map q).length = n := by simp
  refine ⟨g, cs, t, (List.range n).map q, hA, hg, hz, h1, h2, hlen, ?_, ?_, ⟨fun e he => ?_, ?_⟩, fun e he => ?_⟩
  · apply List.ext_getElem?
    intro j
    unfold entS
    by_cases hj : j < n
    · have h1 : R[j]? = some (R.getD j noT) := by
        rw [List.getD_eq_getElem?_getD, List.getElem?_eq_getElem (by rw [h.len]; exact hj)]; rfl
      rw [h1, List.getElem?_map, List.getElem?_map, List.getElem?_range hj]
      simp [(hq j hj).1]
    · rw [List.getElem?_eq_none (by simp; omega), List.getElem?_eq_none (by rw [h.len]; omega)]
  · apply List.ext_getElem?
    intro j
    have h8 : cs.toList.length = cs.size := Array.length_toList
    by_cases hjl : j < n * 3
    · obtain ⟨i, r, hi, hr⟩ : ∃ i r, j = i * 3 + r ∧ r < 3 := ⟨j / 3, j % 3, by omega, by omega⟩
      subst hi
      have hin : i < n := by omega
      obtain ⟨p0, p1, p2⟩ := (hq i hin).2.2.1
      obtain ⟨c0, c1, c2⟩ := entsV_three ((List.range n).map q) i (by omega)
      rw [hat i hin] at c0 c1 c2
      rw [List.getElem?_take_of_lt hjl, Array.getElem?_toList]
      rcases (by omega : r = 0 ∨ r = 1 ∨ r = 2) with rfl | rfl | rfl
      · rw [Nat.add_zero, c0, p0]
      · rw [c1, p1]
      · rw [c2, p2]
    · rw [List.getElem?_eq_none (by rw [List.length_take]; omega), List.getElem?_eq_none (by rw [entsV_len, hlen]; omega)]
  · obtain ⟨j, hj, rfl⟩ := List.mem_map.1 he
    have := (hq j (List.mem_range.1 hj)).2.2.2
    exact ⟨this.1, this.2.1, this.2.2.2⟩
  · rw [List.map_map]
    refine List.pairwise_iff_getElem.2 fun i j hi hj hij => ?_
    simp only [List.length_map, List.length_range] at hi hj
    simp only [List.getElem_map, List.getElem_range, Function.comp]
    rw [(hq i hi).2.1, (hq j hj).2.1]
    exact h4 i j hij hj
  · obtain ⟨j, hj, rfl⟩ := List.mem_map.1 he
    exact (hq j (List.mem_range.1 hj)).2.2.2.2.2.1
/-- Old blocks stay, but for one. -/
theorem grow_ext {w w' : World} {row : Option Nat} (h : Ext w w') : w.grownBy w' row := ⟨h.os, h.tape, h.output, h.size, fun k hk _ => h.block k hk⟩
theorem grow_set {w w' : World} {g i : Nat} {v : Value} (h : w.grownBy w' (some g)) : w.grownBy (w'.setCell ⟨g, i, none⟩ v) (some g) :=
  ⟨h.os, h.tape, h.output, by simpa using h.size, fun k hk hne => (Below.heap_setCell w' _ v k (fun he => hne (by rw [he]))).trans (h.block k hk hne)⟩
theorem grow_row {w w' : World} {g : Nat} {cs : Array Value} (h : w.grownBy w' (some g)) : w.grownBy (w'.setRow g cs) (some g) :=
  ⟨h.os, h.tape, h.output, by simpa [World.setRow] using h.size, fun k hk hne => (setRow_other w' g k cs (fun he => hne (by rw [he]))).trans (h.block k hk hne)⟩
theorem EntsOk.grown {w w' : World} {lo hi g : Nat} {V : List Ent} (h : EntsOk w lo hi V) (hh : hi ≤ w.heap.size) (hg : w.grownBy w' (some g)) (hne : ∀ e ∈ V, e.b ≠ g) : EntsOk w' lo hi V :=
  ⟨fun e he => ⟨(h.1 e he).1.same (fun k h1 h2 => by
    have h3 := (h.1 e he).2.2.2
    have : k = e.b := by omega
    rw [this]
    exact hg.block _ (by omega) (fun h4 => hne e he (Option.some.inj h4))), (h.1 e he).2⟩, h.2⟩
/-- Three cells of a row are put. -/
theorem put3_take (cs : Array Value) (i : Nat) (v0 v1 v2 : Value) (h : i * 3 + 3 ≤ cs.size) : (put3 cs i v0 v1 v2).toList.take ((i + 1) * 3) = cs.toList.take (i * 3) ++ [v0, v1, v2] := by
  have h8 : cs.toList.length = cs.size := Array.length_toList
  have h9 : (put3 cs i v0 v1 v2).toList.length = cs.size := by rw [Array.length_toList, put3_size]
  apply List.ext_getElem?
  intro j
  by_cases h1 : j < i * 3
  · rw [List.getElem?_take_of_lt (by omega), Array.getElem?_toList, put3_other _ _ _ _ _ _ (by omega), List.getElem?_append_left (by rw [List.length_take]; omega), List.getElem?_take_of_lt h1, Array.getElem?_toList]
  · rw [List.getElem?_append_right (by rw [List.length_take]; omega), List.length_take, show min (i * 3) cs.toList.length = i * 3 by omega]
    by_cases h2 : j < i * 3 + 3
    · rw [List.getElem?_take_of_lt (by omega), Array.getElem?_toList]
      unfold put3
      rcases (by omega : j = i * 3 ∨ j = i * 3 + 1 ∨ j = i * 3 + 2) with rfl | rfl | rfl
      · rw [Array.getElem?_setIfInBounds_ne (by omega), Array.getElem?_setIfInBounds_ne (by omega), Array.getElem?_setIfInBounds_self_of_lt (by omega), Nat.sub_self]; rfl
      · rw [Array.getElem?_setIfInBounds_ne (by omega), Array.getElem?_setIfInBounds_self_of_lt (by simp; omega), show i * 3 + 1 - i * 3 = 1 by omega]; rfl
      · rw [Array.getElem?_setIfInBounds_self_of_lt (by simp; omega), show i * 3 + 2 - i * 3 = 2 by omega]; rfl
    · rw [List.getElem?_eq_none (by rw [List.length_take]; omega), List.getElem?_eq_none (by simp; omega)]
theorem zero_frm (w : World) : (zeroValue 27).run Try.prog w = .ok (.agg #[.int .i64 0, .int .i64 0, .slice none 0 0]) w := by kernel_rfl
theorem run_clear_frm (w : World) {g o m c : Nat} {cs : Array Value} {t : TypeId} (hg : w.heap[g]? = some (.cells cs t (0, 0))) (hm : 0 < m) (hs : o + m * 3 ≤ cs.size) :
    ∃ cs' : Array Value, (∀ ty : TypeId, (Builtin.clear_ #[34] ty #[.slice (some ⟨g, o, none⟩) m c]).run Try.prog w = .ok (.tuple #[]) (w.setRow g cs')) ∧ cs'.toList.take o = cs.toList.take o ∧ cs'.size = cs.size := by
  have hl : (Builtin.zeroCells (Value.cells (.agg #[.int .i64 0, .int .i64 0, .slice none 0 0])) m).toList.length = m * 3 := by
    rw [Array.length_toList, size_zeroCells]; rfl
  have h1 : ∀ v ∈ (Builtin.zeroCells (Value.cells (.agg #[.int .i64 0, .int .i64 0, .slice none 0 0])) m).toList, v.oneCell' = true := by
    intro v hv
    simp only [Builtin.zeroCells, Value.cells, Array.toList_map, List.mem_map] at hv
    obtain ⟨i, _, rfl⟩ := hv
    have hsz : (#[Value.int IntKind.i64 0, Value.int IntKind.i64 0, Value.slice none 0 0] : Array Value).size = 3 := rfl
    rw [hsz]
    rcases (by omega : i % 3 = 0 ∨ i % 3 = 1 ∨ i % 3 = 2) with h | h | h <;> rw [h] <;> rfl
  have hst := run_storeCells_at (P := Try.prog) g o t _ 0 cs w hg (by rw [hl]; omega) h1
  obtain ⟨m', rfl⟩ : ∃ m', m = m' + 1 := ⟨m - 1, by omega⟩
  generalize hvs : (Builtin.zeroCells (Value.cells (.agg #[.int .i64 0, .int .i64 0, .slice none 0 0])) (m' + 1)).toList = vs at hst hl h1
  have h8 : cs.toList.length = cs.size := Array.length_toList
  refine ⟨(cs.toList.take (o + 0) ++ vs ++ cs.toList.drop (o + 0 + vs.length)).toArray, fun ty => by simp only [Builtin.clear_]; simp [run_underlying Try.underlying34, zero_frm, hvs, hst], ?_, ?_⟩
  · rw [List.append_assoc, Nat.add_zero]
    have hlt : (cs.toList.take o).length = o := by rw [List.length_take]; omega
    exact (List.take_left' hlt)
  · simp only [List.size_toArray, List.length_append, List.length_take, List.length_drop]
    omega
end Go.Proofs.Ytfmhdnhaaohdjaa
