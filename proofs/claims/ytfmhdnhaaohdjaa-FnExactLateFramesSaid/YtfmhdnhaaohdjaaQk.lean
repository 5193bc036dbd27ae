/- Lists of ints that grow by one number a time; a number put into a set, the reference. Condition: the list is a call's own. -/
import Derived.Test.YtfmhdnhaaohdjaaQi
import Derived.Laws.AppendOwn
import Derived.Lib.Hide
namespace Go.Proofs.Ytfmhdnhaaohdjaa
open Go.RowKit Ieee
set_option linter.unusedVariables false
set_option linter.unusedSimpArgs false

def intsV (X : List Int) : List Value := X.map (fun x => .int .i64 x)
/-- The slice v is a list of a call's own that may grow: it lies in a block from base on. -/
def OwA (w : World) (base : Nat) (v : Value) (X : List Int) : Prop := w.ownsRow base 2 1 v X.length (intsV X)
theorem info_i64q : (Try.prog.info? 2).map (fun i => (i.zero, i.size, i.bytes)) = some (some (.int .i64 0), 1, 8) := by kernel_rfl
theorem OwA.nil (w : World) (base : Nat) : OwA w base (.slice none 0 0) [] := World.ownsRow_nil _ _ _ _
theorem OwA.made (w : World) (base : Nat) (hb : base ≤ w.heap.size) : OwA (w.alloc (.cells #[] 2)) base (.slice (some ⟨w.heap.size, 0, none⟩) 0 0) [] :=
  World.ownsRow_made (e := 2) (size := 1) w #[] 0 hb (Nat.zero_le _) rfl
theorem OwA.alloc {w : World} {base : Nat} {v : Value} {X : List Int} (h : OwA w base v X) (o : Obj) : OwA (w.alloc o) base v X := World.ownsRow.alloc h o
theorem OwA.kept {w w' : World} {base b : Nat} {v : Value} {X : List Int} (h : OwA w base v X) (hg : w.grownBy w' (some b)) (hb : b < base) : OwA w' base v X := by
  refine World.ownsRow.kept h hg ?_
  cases hv : v.ownBlock with
  | none => exact .inl rfl
  | some k => exact .inr (by have := (World.ownsRow.lt h k hv).1; intro he; cases he; omega)
theorem OwA.owi {w : World} {base : Nat} {v : Value} {X : List Int} (h : OwA w base v X) : ∃ A c, v = .slice A X.length c ∧ OwI w base w.heap.size A X.length X := by
  obtain ⟨hlen, hd⟩ := h
  rcases hd with ⟨hv, h0⟩ | ⟨g, cap, cur, hv, hb, hg, hnc, _, hcs, htk⟩
  · have : X = [] := List.eq_nil_of_length_eq_zero h0
    subst this
    exact ⟨none, 0, hv, OwI.nil _ _ _ _⟩
  · refine ⟨some ⟨g, 0, none⟩, cap, hv, rfl, .inr ⟨g, cur, rfl, hb, blk_lt hg, hg, by omega, fun j hj => ?_⟩⟩
    have h1 : (intsV X)[j]? = some (.int .i64 (X.getD j 0)) := by simp [intsV, List.getD, hj]
    rw [← htk, List.getElem?_take_of_lt (by omega)] at h1
    simpa using h1
theorem OwA.owi2 {w : World} {base : Nat} {A : Option Addr} {n c : Nat} {X : List Int} (h : OwA w base (.slice A n c) X) : X.length = n ∧ OwI w base w.heap.size A n X := by
  obtain ⟨A', c', hv, ho⟩ := h.owi
  simp only [Value.slice.injEq] at hv
  obtain ⟨rfl, rfl, rfl⟩ := hv
  exact ⟨rfl, ho⟩
section
variable {ops : Array Oper} {rest : List Oper} {o : Oper} {a : Act} {Q : Exit → Act → World → Prop}
/-- One number is appended; other blocks stay. -/
theorem app_int2 (hgd : o.guard = none) (s x : Operand) (ho : o.op = .call { callee := .builtin .append, args := #[s, x], argTypes := #[38, 38] })
    (base : Nat) (v : Value) (X : List Int) (y : Int) {w : World} (W0 : World) (hW : w = W0.alloc (.cells #[.int .i64 y] 2)) (hown : OwA W0 base v X) (hs : a.eval s = v) (hx : a.eval x = .slice (some ⟨W0.heap.size, 0, none⟩) 1 1)
    (hn : X.length ≤ 10000000) (hb : base ≤ W0.heap.size)
    (h : ∀ v' w', OwA w' base v' (X ++ [y]) → Below base W0 w' → W0.heap.size < w'.heap.size → (∀ g, g < W0.heap.size → v.ownBlock ≠ some g → w'.heap[g]? = W0.heap[g]?) → wpList Try.prog ops Q rest (a.put o.dst v') w') :
    wpList Try.prog ops Q (o :: rest) a w := by
  subst hW
  obtain ⟨i0, hi, hz0, hz1, hz2⟩ := info_parts info_i64q
  have hsz : (W0.alloc (.cells #[.int .i64 y] 2)).heap.size = W0.heap.size + 1 := by simp
  refine wpList_append_own _ hgd s x 38 ho base 2 i0 (.int .i64 0) 1 8 Try.underlying38 hi hz0 hz1 hz2 rfl (by decide) v X.length (intsV X) hs (hown.alloc _) ⟨W0.heap.size, 0, none⟩ 1 1 [.int .i64 y] hx rfl ?_ ?_ ?_ ?_ ?_ ?_
  · intro j u hj
    match j, hj with
    | 0, hj =>
      simp at hj
      subst hj
      simp [Addr.add]
  · intro u hu; simp at hu; subst hu; rfl
  · unfold maxLen; omega
  · omega
  · omega
  · intro v' w' h2 h3 _
    refine h v' w' ?_ (Below.grown (Below.alloc (Below.refl _ _) hb _) h3 (by omega) (fun k hk => (World.ownsRow.lt (OwA.alloc hown (.cells #[.int .i64 y] 2)) k hk).1)) ?_ ?_
    · unfold OwA
      have e : intsV (X ++ [y]) = intsV X ++ [.int .i64 y] := by simp [intsV]
      rw [e, List.length_append]
      exact h2
    · have := h3.size
      omega
    · intro g hg hne
      exact (h3.block g (by omega) (fun he => hne he.symm)).trans (Below.heap_alloc W0 _ g hg)
/-- One number is appended. -/
theorem app_int (hgd : o.guard = none) (s x : Operand) (ho : o.op = .call { callee := .builtin .append, args := #[s, x], argTypes := #[38, 38] })
    (base : Nat) (v : Value) (X : List Int) (y : Int) {w : World} (W0 : World) (hW : w = W0.alloc (.cells #[.int .i64 y] 2)) (hown : OwA W0 base v X) (hs : a.eval s = v) (hx : a.eval x = .slice (some ⟨W0.heap.size, 0, none⟩) 1 1)
    (hn : X.length ≤ 10000000) (hb : base ≤ W0.heap.size)
    (h : ∀ v' w', OwA w' base v' (X ++ [y]) → Below base W0 w' → W0.heap.size < w'.heap.size → wpList Try.prog ops Q rest (a.put o.dst v') w') :
    wpList Try.prog ops Q (o :: rest) a w :=
  app_int2 hgd s x ho base v X y W0 hW hown hs hx hn hb (fun v' w' h1 h2 h3 _ => h v' w' h1 h2 h3)
end
theorem Ext.below {w W0 w' : World} {base : Nat} (hx : Ext w W0) (hb : w.heap.size ≤ base) (h : Below base W0 w') : Ext w w' := Below.trans hx (Below.mono h hb)
/-- A number put into a set, number by number. -/
def putK (X : List Int) (y : Int) : Nat → List Int × Bool
  | 0 => ([], false)
  | k + 1 => if (putK X y k).2 = false ∧ y ≤ X.getD k 0 then ((if y < X.getD k 0 then (putK X y k).1 ++ [y] else (putK X y k).1) ++ [X.getD k 0], true) else ((putK X y k).1 ++ [X.getD k 0], (putK X y k).2)
def putL (X : List Int) (y : Int) : List Int := if (putK X y X.length).2 = true then (putK X y X.length).1 else (putK X y X.length).1 ++ [y]
theorem putK_len (X : List Int) (y : Int) : ∀ k, (putK X y k).1.length ≤ 2 * k
  | 0 => by simp [putK]
  | k + 1 => by
    have h := putK_len X y k
    rw [putK]
    split
    · split <;> simp <;> omega
    · simp; omega
theorem putK_old {X : List Int} {y : Int} {k : Nat} {o : List Int} (h : putK X y k = (o, true)) : putK X y (k + 1) = (o ++ [X.getD k 0], true) := by
  rw [putK, h]; simp
theorem putK_lt {X : List Int} {y : Int} {k : Nat} {o : List Int} (h : putK X y k = (o, false)) (hl : X.getD k 0 < y) : putK X y (k + 1) = (o ++ [X.getD k 0], false) := by
  rw [putK, h, if_neg (by simp only [true_and]; omega)]
theorem putK_eq {X : List Int} {y : Int} {k : Nat} {o : List Int} (h : putK X y k = (o, false)) (hl : X.getD k 0 = y) : putK X y (k + 1) = (o ++ [X.getD k 0], true) := by
  rw [putK, h, if_pos (by simp only [true_and]; omega), if_neg (by omega)]
theorem putK_gt {X : List Int} {y : Int} {k : Nat} {o : List Int} (h : putK X y k = (o, false)) (hl : y < X.getD k 0) : putK X y (k + 1) = (o ++ [y] ++ [X.getD k 0], true) := by
  rw [putK, h, if_pos (by simp only [true_and]; omega), if_pos hl]
set_option maxRecDepth 20000 in
set_option maxHeartbeats 4000000 in
theorem c_l00Put {w : World} {lo hi n c : Nat} {A : Option Addr} {X : List Int} {y : Int} (h : OwI w lo hi A n X) (hh : hi ≤ w.heap.size) (hn : n ≤ 1000000) :
    Calls Try.prog 68 #[.slice A n c, .int .i64 y] w fun e w' => ∃ A' n' c', e = .returned (.slice A' n' c') ∧ OwI w' w.heap.size w'.heap.size A' n' (putL X y) ∧ Ext w w' := by
  go_enter Try.func68, Try.ntmps68
  go_wp2_with (fail)
  go_loopw [5, 6, 7] (fun v d i wr => ∃ (k : Nat) (O : List Int) (b : Bool), k ≤ n ∧ i = .int .i64 k ∧ d = .bool b ∧ putK X y k = (O, b) ∧ OwA wr w.heap.size v O ∧ Ext w wr) (fun _ _ i _ => n - (intOf i).toNat)
  case atStart => exact ⟨0, [], false, Nat.zero_le _, rfl, rfl, rfl, OwA.made w _ (Nat.le_refl _), (by repeat (first | assumption | exact Ext.refl _ | apply Ext.drewN | apply Ext.drew | apply Ext.alloc | (refine Ext.trans ?_ (by assumption)) | (refine Ext.set ?_ (by dsimp only; omega) _)))⟩
  case round =>
    obtain ⟨k, O, b, hk, rfl, rfl, hst, hown, hx⟩ := hrel
    have hlen := putK_len X y k
    rw [hst] at hlen
    dsimp only at hlen
    have hsz := hx.size
    by_cases hlt : k < n
    · have hlt' : (k : Int) < (n : Int) := by omega
      obtain ⟨g, rfl, hc⟩ := (h.ext hh hx).cell hlt
      have HST := Lib.hid hst
      cases b
      case true =>
        have hnx := Lib.hid (putK_old hst)
        generalize X.getD k 0 = x at hc hnx
        clear hst
        go_wp2_with (at_builtin; refine app_int rfl _ _ rfl w.heap.size _ _ x wr rfl hown rfl rfl (by omega) hsz ?_; intro v' w4 ho4 hb4 hs4)
        exact ⟨⟨k + 1, _, _, by omega, by go_num, rfl, hnx.out, ho4, hx.below (Nat.le_refl _) hb4⟩, by simp [intOf]; omega⟩
      case false =>
        rcases Int.lt_trichotomy (X.getD k 0) y with hl | hl | hl
        · have hnx := Lib.hid (putK_lt hst hl)
          generalize X.getD k 0 = x at hc hnx hl
          have h1 : ¬ y ≤ x := by omega
          clear hst
          go_wp2_with (at_builtin; refine app_int rfl _ _ rfl w.heap.size _ _ x wr rfl hown rfl rfl (by omega) hsz ?_; intro v' w4 ho4 hb4 hs4)
          exact ⟨⟨k + 1, _, _, by omega, by go_num, rfl, hnx.out, ho4, hx.below (Nat.le_refl _) hb4⟩, by simp [intOf]; omega⟩
        · have hnx := Lib.hid (putK_eq hst hl)
          generalize X.getD k 0 = x at hc hnx hl
          have h1 : y ≤ x := by omega
          have h2 : ¬ y < x := by omega
          subst hl
          clear hst
          go_wp2_with (at_builtin; refine app_int rfl _ _ rfl w.heap.size _ _ x wr rfl hown rfl rfl (by omega) hsz ?_; intro v' w4 ho4 hb4 hs4)
          exact ⟨⟨k + 1, _, _, by omega, by go_num, rfl, hnx.out, ho4, hx.below (Nat.le_refl _) hb4⟩, by simp [intOf]; omega⟩
        · have hnx := Lib.hid (putK_gt hst hl)
          obtain ⟨x, hxe⟩ : ∃ x, X.getD k 0 = x := ⟨_, rfl⟩
          have hrd : ∀ W : World, Ext w W → W.cell? ⟨g, k, none⟩ = some (.int .i64 x) := fun W hW => by
            obtain ⟨g4, hg4, hc4⟩ := (h.ext hh hW).cell hlt
            cases hg4
            rw [hc4, hxe]
          have HRD := Lib.hid hrd
          rw [hxe] at hc hnx hl
          have h1 : y ≤ x := by omega
          clear hst hxe hrd
          go_wp2_with (first | (at_builtin; refine app_int rfl _ _ rfl w.heap.size _ _ y wr rfl hown rfl rfl (by omega) hsz ?_; intro v' w4 ho4 hb4 hs4; have hx4 := hx.below (Nat.le_refl _) hb4; have hsz4 := hx4.size; have hc4 := HRD.out _ hx4) | (at_builtin; refine app_int rfl _ _ rfl w.heap.size _ _ x w4 rfl ho4 rfl rfl (by simp; omega) hsz4 ?_; intro v5 w5 ho5 hb5 hs5))
          exact ⟨⟨k + 1, _, _, by omega, by go_num, rfl, hnx.out, ho5, hx4.below (Nat.le_refl _) hb5⟩, by simp [intOf]; omega⟩
    · obtain rfl : k = n := by omega
      have hXn := h.len
      cases b
      case true =>
        have hput : putL X y = O := by unfold putL; rw [hXn, hst]; rfl
        obtain ⟨A1, c1, rfl, ho1⟩ := hown.owi
        go_wp2_with (fail)
        go_ret
        exact ⟨_, _, _, rfl, by rw [hput]; exact ho1, hx⟩
      case false =>
        have hput : putL X y = O ++ [y] := by unfold putL; rw [hXn, hst]; rfl
        have HP := Lib.hid hput
        clear hst hput
        go_wp2_with (at_builtin; refine app_int rfl _ _ rfl w.heap.size _ _ y wr rfl hown rfl rfl (by omega) hsz ?_; intro v' w4 ho4 hb4 hs4)
        obtain ⟨A1, c1, rfl, ho1⟩ := ho4.owi
        go_ret
        exact ⟨_, _, _, rfl, by rw [HP.out]; exact ho1, hx.below (Nat.le_refl _) hb4⟩
end Go.Proofs.Ytfmhdnhaaohdjaa
