/- Frames that come late, the program, and the law's two sides. Condition: the list is read. -/
import Derived.Test.YtfmhdnhaaohdjaaQl
namespace Go.Proofs.Ytfmhdnhaaohdjaa
open Go.RowKit Go.ChangeShapes Go.WideShapes Go.Deep Go.Maps Ieee
set_option linter.unusedVariables false
set_option linter.unusedSimpArgs false

def RetIQ (w : World) (e : Ending) (w' : World) (ok : Bool) (q : Nat) (Q : List Int) : Prop :=
  ∃ A c, e = .returned (.tuple #[.slice A q c, .bool ok]) ∧ OwI w' w.heap.size w'.heap.size A q Q ∧ Ext w w'
theorem RetI.q {w w' : World} {e : Ending} {ok : Bool} {M : List Int} (h : RetI w e w' ok M) : RetIQ w e w' ok (outI ok M).length (outI ok M) := by
  obtain ⟨A, n, c, rfl, ho, hx⟩ := h
  obtain rfl := ho.len
  exact ⟨A, c, rfl, ho, hx⟩
theorem law_i64 : Keyed Try.prog 2 := int_keyed Try.underlying2
theorem zero_i64 (w : World) : (zeroValue 2).run Try.prog w = .ok (.int .i64 0) w := by kernel_rfl
theorem key_i64 {s : Int} (h1 : -9223372036854775808 ≤ s) (h2 : s ≤ 9223372036854775807) : keyOf Try.prog 2 (.int .i64 s) = some (.int .i64 s) := keyOf_int_mk Try.underlying2 (WalkArith.wf_i64 (by omega))
/-- A map of the call's own keeps its entries while blocks behind it turn. -/
theorem ownsMap_below {w w' : World} {P : Program} {k : TypeId} {R : Value → Option (DataW Unit × List MemPlace)} {b n base : Nat} {D : DataW Unit} (h : w.ownsMap P k R b n D) (hb : Below base w w') (hl : b < base) : w'.ownsMap P k R b n D := by
  obtain ⟨es, clock, hg, hrest⟩ := h
  exact ⟨es, clock, (hb.block b hl).trans hg, hrest⟩
/-- What a map of ints tells. -/
def TellI (D : DataW Unit) (g : Int → Int) : Prop := ∀ s : Int, -9223372036854775808 ≤ s → s ≤ 9223372036854775807 → D.atKey (.int .i64 s) (.lit (.int .i64 0)) = .lit (.int .i64 (g s))
theorem TellI.put {D : DataW Unit} {g : Int → Int} {s v : Int} (h : TellI D g) (hm : IsMap D) (g' : Int → Int) (h1 : g' s = v) (h2 : ∀ t, t ≠ s → g' t = g t) : TellI (D.put (.int .i64 s) (.lit (.int .i64 v))) g' := by
  intro t ht1 ht2
  by_cases hts : t = s
  · subst hts
    rw [atKey_put_same hm (by trivial), h1]
  · rw [atKey_put_other (by intro he; injection he with _ he; exact hts he), h t ht1 ht2, h2 t hts]
theorem TellI.nil : TellI (.map []) (fun _ => 0) := fun s _ _ => rfl
section
variable {ops : Array Oper} {rest : List Oper} {o : Oper} {a : Act} {Q : Exit → Act → World → Prop} {w : World}
theorem look_i64 (hg : o.guard = none) (m x : Operand) (hop : o.op = Op.lookup 79 m x false) (b n : Nat) (D : DataW Unit) (g : Int → Int) (s : Int)
    (hown : w.ownsMap Try.prog 2 (plainElem Try.prog 2) b n D) (ht : TellI D g) (h1 : -9223372036854775808 ≤ s) (h2 : s ≤ 9223372036854775807) (hm : a.eval m = .map (some b)) (hx : a.eval x = .int .i64 s)
    (hK : wpList Try.prog ops Q rest (a.put o.dst (.int .i64 (g s))) w) : wpList Try.prog ops Q (o :: rest) a w :=
  wpList_lookup_own_int w hg m x 79 hop 2 2 .i64 law_i64 Try.underlying79 Try.underlying2 (zero_i64 _) b n D hm hown _ _ hx (key_i64 h1 h2)
    (fun c hat _ => by
      rw [ht s h1 h2] at hat
      simp only [DataW.lit.injEq, Lit.int.injEq, true_and] at hat
      rw [← hat]; exact hK)
theorem upd_i64 (hg : o.guard = none) (m x v : Operand) (hop : o.op = Op.mapUpdate 79 m x v) (b n : Nat) (D : DataW Unit) (s u : Int)
    (hown : w.ownsMap Try.prog 2 (plainElem Try.prog 2) b n D) (hn : n < 1000000000) (h1 : -9223372036854775808 ≤ s) (h2 : s ≤ 9223372036854775807) (h3 : -9223372036854775808 ≤ u) (h4 : u ≤ 9223372036854775807) (hm : a.eval m = .map (some b)) (hx : a.eval x = .int .i64 s) (hv : a.eval v = .int .i64 u)
    (hK : ∀ w', w'.ownsMap Try.prog 2 (plainElem Try.prog 2) b (n + 1) (D.put (.int .i64 s) (.lit (.int .i64 u))) → w.grownBy w' (some b) → wpList Try.prog ops Q rest (a.put o.dst undef) w') : wpList Try.prog ops Q (o :: rest) a w :=
  wpList_mapUpdate_own w hg m x v 79 hop 2 2 law_i64 Try.underlying79 _ b n D hm hown (by unfold maxLen; omega) _ _ _ hx hv (key_i64 h1 h2) _ [] (plainElem_int Try.underlying2 (WalkArith.wf_i64 (by omega))) hK
end
theorem lateL_step {R : List Sct} {k : Nat} (hz : 0 ≤ (R.getD k noT).z) : lateL R (k + 1) = if (R.getD k noT).z < topM R k (R.getD k noT).x then lateL R k ++ [(k : Int)] else lateL R k := by
  rw [lateL_succ]
  have : isLate R k = decide ((R.getD k noT).z < topM R k (R.getD k noT).x) := topM_any hz k
  rw [this]
  by_cases h : (R.getD k noT).z < topM R k (R.getD k noT).x
  · rw [decide_eq_true h, if_pos rfl, if_pos h]
  · rw [decide_eq_false h, if_neg (by decide), if_neg h]
set_option maxRecDepth 20000 in
set_option maxHeartbeats 4000000 in
theorem c_impl_LateFrames {w : World} {B n c : Nat} {A : Option Addr} {R : List Sct} (h : RdM w B A n R) (hB : B ≤ w.heap.size) (hn : n ≤ 1048576) (hr : ∀ j, j < n → (R.getD j noT).v.length ≤ 1048576) :
    Calls Try.prog 26 #[.slice A n c] w fun e w' => RetI w e w' (areM R) (lateL R n) := by
  have cV := c_impl_AreFrames (c := c) h hB hn hr
  cases hV : areM R
  · rw [hV] at cV
    go_enter Try.func26, Try.ntmps26
    go_wp2_with (go_at_call 23; refine Calls.mono cV ?_; rintro e w1 ⟨rfl, hx1⟩)
    go_ret2
    exact retI_no rfl hx1
  rw [hV] at cV
  have hl := h.len
  obtain ⟨hn12, hall⟩ := areM_of hV
  have hall2 : ∀ j, j < n → 0 ≤ (R.getD j noT).x ∧ (R.getD j noT).x ≤ 200 ∧ 0 ≤ (R.getD j noT).z ∧ (R.getD j noT).z ≤ 100000 := fun j hj => by
    obtain ⟨h1, h2, h3, h4, _⟩ := fvF_of (hall j (by omega))
    exact ⟨h1, h2, h3, h4⟩
  have HALL := Lib.hid hall2
  have hmm := @run_makeMap Try.prog
  clear hall hall2 hV
  go_enter Try.func26, Try.ntmps26
  go_wp2_with (go_at_call 23; refine Calls.mono cV ?_; rintro e w1 ⟨rfl, hx1⟩)
  go_loopw [5, 14] (fun v y wr => ∃ (k : Nat) (D : DataW Unit), k ≤ n ∧ y = .int .i64 k ∧ OwA wr (w1.heap.size + 1) v (lateL R k) ∧ wr.ownsMap Try.prog 2 (plainElem Try.prog 2) w1.heap.size k D ∧ TellI D (topM R k) ∧ Ext w wr) (fun _ y _ => n - (intOf y).toNat)
  case atStart => exact ⟨0, .map [], Nat.zero_le _, rfl, OwA.nil _ _, World.ownsMap_made _ _ _ _, TellI.nil, (by repeat (first | assumption | exact Ext.refl _ | apply Ext.drewN | apply Ext.drew | apply Ext.alloc | (refine Ext.trans ?_ (by assumption)) | (refine Ext.set ?_ (by dsimp only; omega) _)))⟩
  case round =>
    obtain ⟨k, D, hk, rfl, hown, hmap, htell, hx⟩ := hrel
    have hml := hmap.lt
    by_cases hlt : k < n
    · have hlt' : (k : Int) < (n : Int) := by omega
      obtain ⟨b1, o1, A1, c1, rfl, hb1, ⟨d0, d1, d2⟩, hrd, _⟩ := (h.below (hx.mono hB)).cell hlt
      obtain ⟨i1, i2, i3, i4⟩ := HALL.out k hlt
      have htop := topM_le (R := R) (s := (R.getD k noT).x) (m := 100000) (by omega) k (fun j hj => (HALL.out j (by omega)).2.2.2)
      have hls := lateL_step (R := R) (k := k) i3
      have hll := lateL_len R k
      have hnx : ∀ t, topM R (k + 1) t = if (R.getD k noT).x = t then max (topM R k t) (R.getD k noT).z else topM R k t := fun t => rfl
      obtain ⟨X, hXe⟩ : ∃ x, (R.getD k noT).x = x := ⟨_, rfl⟩
      obtain ⟨Z, hZe⟩ : ∃ x, (R.getD k noT).z = x := ⟨_, rfl⟩
      obtain ⟨Lk, hLe⟩ : ∃ x, (R.getD k noT).v.length = x := ⟨_, rfl⟩
      rw [hXe] at d0 i1 i2 htop hls
      rw [hZe] at d1 i3 i4 hls
      rw [hLe] at d2
      simp only [hXe, hZe] at hnx
      obtain ⟨g, hg⟩ : ∃ g, topM R k = g := ⟨_, rfl⟩
      rw [hg] at htell htop hls
      simp only [hg] at hnx
      obtain ⟨q0, q1, q2⟩ : SbAt (wr.alloc (.cells #[.int .i64 X, .int .i64 Z, .slice A1 Lk c1] 27)) wr.heap.size X Z A1 Lk c1 := SbAt.blk (T := 27) (by repeat (first | (refine al_at ?_ ?_ <;> first | rfl | (simp only [al_size] <;> omega)) | apply al_old))
      have HNX := Lib.hid hnx
      have HTE := Lib.hid htell
      have hown1 := hown.alloc (.cells #[.int .i64 X, .int .i64 Z, .slice A1 Lk c1] 27)
      have hmap1 := hmap.alloc (.cells #[.int .i64 X, .int .i64 Z, .slice A1 Lk c1] 27)
      have hsz1 : w1.heap.size + 1 ≤ (wr.alloc (.cells #[.int .i64 X, .int .i64 Z, .slice A1 Lk c1] 27)).heap.size := by rw [al_size]; omega
      clear hrd hXe hZe hLe hnx htell hg
      by_cases hc : Z < g X
      · rw [if_pos hc] at hls
        have HLS := Lib.hid hls
        have hmx : max (g X) Z = g X := by omega
        clear hls
        go_wp2_with (first | (at_lookup; refine look_i64 rfl _ _ rfl w1.heap.size k D g X hmap1 HTE.out (by omega) (by omega) rfl rfl ?_) | (at_builtin; refine app_int2 rfl _ _ rfl (w1.heap.size + 1) _ _ (k : Int) (wr.alloc (.cells #[.int .i64 X, .int .i64 Z, .slice A1 Lk c1] 27)) rfl hown1 rfl (by show Value.slice (some ⟨wr.heap.size + 1, 0, none⟩) 1 1 = _; rw [al_size]) (by omega) hsz1 ?_; intro v' w4 ho4 hb4 hs4 hk4; have hmap4 := ownsMap_below hmap1 hb4 (by omega); have hbx4 := (hk4 wr.heap.size (by simp) (fun he => Nat.lt_irrefl _ (World.ownsRow.lt hown _ he).2)).trans (al_at (w := wr) (o := .cells #[.int .i64 X, .int .i64 Z, .slice A1 Lk c1] 27) rfl rfl); obtain ⟨q0', q1', q2', _⟩ := SbAt.blk hbx4) | (at_lookup; refine look_i64 rfl _ _ rfl w1.heap.size k D g X hmap4 HTE.out (by omega) (by omega) rfl rfl ?_) | (at_mapUpdate; refine upd_i64 rfl _ _ _ rfl w1.heap.size k D X (g X) hmap4 (by omega) (by omega) (by omega) (by omega) (by omega) rfl rfl rfl ?_; intro w5 hmap5 hgr5))
        have hx4 : Ext w w4 := Ext.below (Ext.alloc hx _) (by have := hx1.size; omega) hb4
        have hx5 : Ext w w5 := Below.grown hx4 hgr5 hx4.size (fun g' hg' => by cases hg'; exact hx1.size)
        exact ⟨⟨k + 1, _, by omega, by go_num, by rw [HLS.out]; exact ho4.kept hgr5 (by omega), hmap5, HTE.out.put hmap4.isMap _ (by rw [HNX.out, if_pos rfl, hmx]) (fun t ht => by rw [HNX.out, if_neg (fun he => ht he.symm)]), hx5⟩, by simp [intOf]; omega⟩
      · rw [if_neg hc] at hls
        have HLS := Lib.hid hls
        clear hls
        by_cases hc2 : g X < Z
        · have hmx : max (g X) Z = Z := by omega
          go_wp2_with (first | (at_lookup; refine look_i64 rfl _ _ rfl w1.heap.size k D g X hmap1 HTE.out (by omega) (by omega) rfl rfl ?_) | (at_mapUpdate; refine upd_i64 rfl _ _ _ rfl w1.heap.size k D X Z hmap1 (by omega) (by omega) (by omega) (by omega) (by omega) rfl rfl rfl ?_; intro w5 hmap5 hgr5))
          have hx5 : Ext w w5 := Below.grown (Ext.alloc hx _) hgr5 (by have := hx.size; simp; omega) (fun g' hg' => by cases hg'; exact hx1.size)
          exact ⟨⟨k + 1, _, by omega, by go_num, by rw [HLS.out]; exact hown1.kept hgr5 (by omega), hmap5, HTE.out.put hmap1.isMap _ (by rw [HNX.out, if_pos rfl, hmx]) (fun t ht => by rw [HNX.out, if_neg (fun he => ht he.symm)]), hx5⟩, by simp [intOf]; omega⟩
        · have hmx : max (g X) Z = g X := by omega
          go_wp2_with (first | (at_lookup; refine look_i64 rfl _ _ rfl w1.heap.size k D g X hmap1 HTE.out (by omega) (by omega) rfl rfl ?_) | (at_mapUpdate; refine upd_i64 rfl _ _ _ rfl w1.heap.size k D X (g X) hmap1 (by omega) (by omega) (by omega) (by omega) (by omega) rfl rfl rfl ?_; intro w5 hmap5 hgr5))
          have hx5 : Ext w w5 := Below.grown (Ext.alloc hx _) hgr5 (by have := hx.size; simp; omega) (fun g' hg' => by cases hg'; exact hx1.size)
          exact ⟨⟨k + 1, _, by omega, by go_num, by rw [HLS.out]; exact hown1.kept hgr5 (by omega), hmap5, HTE.out.put hmap1.isMap _ (by rw [HNX.out, if_pos rfl, hmx]) (fun t ht => by rw [HNX.out, if_neg (fun he => ht he.symm)]), hx5⟩, by simp [intOf]; omega⟩
    · obtain rfl : k = n := by omega
      obtain ⟨A5, c5, rfl, ho5⟩ := hown.owi
      go_wp2_with (fail)
      go_ret2
      exact ⟨_, _, _, rfl, ho5.more (by have := hx1.size; omega) (Nat.le_refl _), hx⟩
theorem both_LateFrames {n0 : Nat} {R0 : List Sct} (hl0 : R0.length = n0) (hn0 : n0 ≤ 1048576) (hr0 : ∀ j, j < n0 → (R0.getD j noT).v.length ≤ 1048576) (_ht0 : totM R0 ≤ 1048576) (_hok0 : ∀ j, j < n0 → (R0.getD j noT).Ok) :
    ∃ ok Q q, q ≤ 1048576 ∧ (∀ W : World, ∀ (B0 : Nat) (A0 : Option Addr) (c0 : Nat), RdM W B0 A0 n0 R0 → B0 ≤ W.heap.size → Calls Try.prog 25 #[.slice A0 n0 c0] W fun e w' => RetIQ W e w' ok q Q) ∧
      (∀ W : World, ∀ (B0 : Nat) (A0 : Option Addr) (c0 : Nat), RdM W B0 A0 n0 R0 → B0 ≤ W.heap.size → Calls Try.prog 26 #[.slice A0 n0 c0] W fun e w' => RetIQ W e w' ok q Q) :=
  ⟨areM R0, outI (areM R0) (lateL R0 n0), (outI (areM R0) (lateL R0 n0)).length, Nat.le_trans (outI_len _ _) (Nat.le_trans (lateL_len _ _) hn0),
    fun _ _ _ _ h0 hB0 => Calls.mono (c_spec_LateFrames h0 hB0 hn0 hr0) (fun _ _ h => h.q), fun _ _ _ _ h0 hB0 => Calls.mono (c_impl_LateFrames h0 hB0 hn0 hr0) (fun _ _ h => h.q)⟩
end Go.Proofs.Ytfmhdnhaaohdjaa
