/- Contracts: sums of all traces at a tick, and their means, on both sides. Condition: the gather is read. -/
import Derived.Test.YtbdmdpaggnaneaaYe
import Derived.Test.YtbdmdpaggnaneaaWc
namespace Go.Proofs.Ytbdmdpaggnaneaa
open Go.RowKit Ieee

/-- The sum of a column, and how many of its numbers are not zero. -/
def fcs (R : List (List (Option Nat))) (k : Nat) : Nat → Option Nat
  | 0 => fz
  | i + 1 => fop .add .f32 (fcs R k i) ((R.getD i []).getD k none)
def nlive (R : List (List (Option Nat))) (k : Nat) : Nat → Nat
  | 0 => 0
  | i + 1 => nlive R k i + (if fzero32 ((R.getD i []).getD k none) then 0 else 1)
theorem nlive_on {R : List (List (Option Nat))} {k i : Nat} (h : fzero32 ((R.getD i []).getD k none) = true) : nlive R k (i + 1) = nlive R k i := by
  show nlive R k i + (if fzero32 ((R.getD i []).getD k none) then 0 else 1) = _; rw [h]; rfl
theorem nlive_off {R : List (List (Option Nat))} {k i : Nat} (h : fzero32 ((R.getD i []).getD k none) = false) : nlive R k (i + 1) = nlive R k i + 1 := by
  show nlive R k i + (if fzero32 ((R.getD i []).getD k none) then 0 else 1) = _; rw [h]; rfl
theorem nlive_le (R : List (List (Option Nat))) (k : Nat) : ∀ i, nlive R k i ≤ i
  | 0 => Nat.le_refl _
  | i + 1 => by
    have := nlive_le R k i
    show nlive R k i + (if fzero32 ((R.getD i []).getD k none) then 0 else 1) ≤ i + 1
    split <;> omega
def fstack (R : List (List (Option Nat))) (n k : Nat) : Option Nat := fop .quo .f32 (fcs R k n) (some (mk n))
def fmean0 (S : Option Nat) (l : Nat) : Option Nat := if l = 0 then fz else fop .quo .f32 S (some (mk l))
def flive (R : List (List (Option Nat))) (n k : Nat) : Option Nat := fmean0 (fcs R k n) (nlive R k n)
theorem fmean0_z {S : Option Nat} {l : Nat} (h : l = 0) : fmean0 S l = fz := if_pos h
theorem fmean0_p {S : Option Nat} {l : Nat} (h : ¬ l = 0) : fmean0 S l = fop .quo .f32 S (some (mk l)) := if_neg h
/-- != 0 of a float. -/
theorem nzero32 (b : Nat) : (FloatKind.f32.format.order b 0 != some .eq) = !fzero32 (fl .f32 b) := by
  rw [← zero32]; rfl

theorem grown_extB {w W1 w1 w' : World} {o : Obj} {v : Value} {n : Nat} {e : TypeId} {xs : List Value} (hW : W1 = w.alloc o) (hx : Ext W1 w1) (hown : w1.ownsRow (w.heap.size + 1) e 1 v n xs) (hg : w1.grownBy w' v.ownBlock) : Ext W1 w' := by
  have hs : W1.heap.size = w.heap.size + 1 := by rw [hW]; simp
  exact Below.grown hx hg hx.size (fun k hk => by rw [hs]; exact (hown.lt k hk).1)

set_option maxRecDepth 20000 in
set_option maxHeartbeats 4000000 in
theorem c_l04Sum {w : World} {B b np cp n ct k T : Nat} {t : Int} {Ap At : Option Addr} {R : List (List (Option Nat))} (hb : GbAt w b t Ap np cp At n ct) (hr : RdS w B At n R) (hn : n ≤ 1048576) (hrow : ∀ j, j < n → (R.getD j []).length = T) (hk : k < T) (_hT : T ≤ 1048576) :
    Calls Try.prog 75 #[.pointer (some ⟨b, 0, none⟩), .int .i64 (k : Int)] w fun e w' => ∃ r, e = .returned (.tuple #[.float .f32 r, .int .i64 (nlive R k n : Int)]) ∧ Fl .f32 r (fcs R k n) ∧ Dr w w' := by
  have p0 := hb.p0
  have p1 := hb.p1
  have p2 := hb.p2
  have hkT : (k : Int) < (T : Int) := by omega
  go_enter Try.func75, Try.ntmps75
  go_wp2_with (fail)
  go_loopw [6, 7, 8] (fun s l i wr => ∃ (j r q : Nat), j ≤ n ∧ i = .int .i64 j ∧ s = .float .f32 r ∧ q = nlive R k j ∧ l = .int .i64 (q : Int) ∧ Fl .f32 r (fcs R k j) ∧ Dr w wr) (fun _ _ i _ => n - (intOf i).toNat)
  case atStart => exact ⟨0, 0, 0, Nat.zero_le _, rfl, rfl, rfl, rfl, fl_fz, 0, rfl⟩
  case round =>
    obtain ⟨j, r, q, hj, rfl, rfl, hq, rfl, hs, m, rfl⟩ := hrel
    by_cases hlt : j < n
    · have hlt' : (j : Int) < (n : Int) := by omega
      obtain ⟨b1, o1, A1, c1, rfl, hb1, hc1, hr1, hl1⟩ := hr.cell hlt
      rw [hrow j hlt] at hc1 hr1 hl1
      obtain ⟨b2, o2, x, rfl, hb2, hc2, hx2⟩ := hr1.cell hk
      have hnz := nzero32 x
      rw [hx2.eq] at hnz
      have hqb := nlive_le R k j
      have hqn : q ≤ 1048576 := by omega
      have hF : fcs R k (j + 1) = fop .add .f32 (fcs R k j) ((R.getD j []).getD k none) := rfl
      have HF := Lib.hid hF
      cases hZ : fzero32 ((R.getD j []).getD k none)
      · have hq2 : q + 1 = nlive R k (j + 1) := by rw [nlive_off hZ, hq]
        have HQ := Lib.hid hq2
        rw [hZ] at hnz
        clear hF hq2 hZ hr1 hq
        go_wp2_with (apply upon_fop rfl; (exact hs); (exact hx2); intro r6 n6 hr6; rw [← HF.out] at hr6)
        exact ⟨⟨j + 1, r6, q + 1, by omega, by go_num, rfl, HQ.out, by go_num, hr6, _, rfl⟩, by simp [intOf]; omega⟩
      · have hq2 : q = nlive R k (j + 1) := by rw [nlive_on hZ, hq]
        have HQ := Lib.hid hq2
        rw [hZ] at hnz
        clear hF hq2 hZ hr1 hq
        go_wp2_with (apply upon_fop rfl; (exact hs); (exact hx2); intro r6 n6 hr6; rw [← HF.out] at hr6)
        exact ⟨⟨j + 1, r6, q, by omega, by go_num, rfl, HQ.out, rfl, hr6, _, rfl⟩, by simp [intOf]; omega⟩
    · obtain rfl : j = n := by omega
      have HQ := Lib.hid hq
      clear hq
      go_wp2_with (fail)
      go_ret2
      exact ⟨r, by rw [← HQ.out]; rfl, hs, _, rfl⟩

set_option maxRecDepth 20000 in
set_option maxHeartbeats 8000000 in
theorem c_sp_StackOf {w : World} {B n m cp ct T : Nat} {Ap At : Option Addr} {G : Gat} (hp0 : RdF w B Ap n G.p) (hr0 : RdS w B At m G.r) (hB : B ≤ w.heap.size) (h1 : n ≤ 1048576) (h2 : m ≤ 1048576) (h3 : ∀ j, j < m → (G.r.getD j []).length ≤ 1048576) (hT : fvG G = true → G.t = (T : Int)) :
    Calls Try.prog 35 #[.agg #[.int .i64 G.t, .slice Ap n cp, .slice At m ct]] w fun e w' => RetL w e w' (fvG G) (lst (fstack G.r m) T) := by
  obtain ⟨i0, hi, hz0, hz1, hz2⟩ := info_parts info_f32
  have hbox : GbAt (w.alloc (.cells #[.int .i64 G.t, .slice Ap n cp, .slice At m ct] 43)) w.heap.size G.t Ap n cp At m ct := GbAt.blk (T := 43) (by repeat (first | (refine al_at ?_ ?_ <;> first | rfl | (simp only [al_size] <;> omega)) | apply al_old))
  have hp := hp0.below (Below.mono (w := w) (w' := w.alloc (.cells #[.int .i64 G.t, .slice Ap n cp, .slice At m ct] 43)) (by repeat (first | assumption | exact Ext.refl _ | apply Ext.drewN | apply Ext.drew | apply Ext.alloc | (refine Ext.trans ?_ (by assumption)) | (refine Ext.set ?_ (by dsimp only; omega) _))) hB)
  have hr := hr0.below (Below.mono (w := w) (w' := w.alloc (.cells #[.int .i64 G.t, .slice Ap n cp, .slice At m ct] 43)) (by repeat (first | assumption | exact Ext.refl _ | apply Ext.drewN | apply Ext.drew | apply Ext.alloc | (refine Ext.trans ?_ (by assumption)) | (refine Ext.set ?_ (by dsimp only; omega) _))) hB)
  have cV := c_l04Is hbox hp hr h1 h2 h3
  have hm := hr0.len
  cases hV : fvG G
  · rw [hV] at cV
    go_enter Try.func35, Try.ntmps35
    go_wp2_with (go_at_call 70; refine Calls.mono cV ?_; rintro e w1 ⟨rfl, n1, rfl⟩)
    go_ret2
    exact retL_no rfl (by repeat (first | assumption | exact Ext.refl _ | apply Ext.drewN | apply Ext.drew | apply Ext.alloc | (refine Ext.trans ?_ (by assumption)) | (refine Ext.set ?_ (by dsimp only; omega) _)))
  rw [hV] at cV
  have hvg := fvG_of hV
  have hTt := hT hV
  rw [hTt] at hbox hp hr ⊢
  have hTb : T ≤ 64 := by have := hvg.t2; rw [hTt] at this; omega
  have hrow : ∀ j, j < m → (G.r.getD j []).length = T := fun j hj => by have := hvg.row j (by omega); rw [hTt] at this; omega
  rw [hTt] at cV
  have HROW := Lib.hid hrow
  clear hT hTt hrow hvg h3 hp hp0
  go_enter Try.func35, Try.ntmps35
  go_wp2_with (go_at_call 70; refine Calls.mono cV ?_; rintro e w1 ⟨rfl, n1, rfl⟩)
  go_loopw [4, 5] (fun v i wr => ∃ (k : Nat) (xs : List Value), k ≤ T ∧ i = .int .i64 k ∧ wr.ownsRow (w.heap.size + 1) 23 1 v k xs ∧ (∀ j, j < k → ∃ r, xs[j]? = some (.float .f32 r) ∧ Fl .f32 r ((fstack G.r m) j)) ∧ Ext (w.alloc (.cells #[.int .i64 (T : Int), .slice Ap n cp, .slice At m ct] 43)) wr) (fun _ i _ => T - (intOf i).toNat)
  case atStart => exact ⟨0, [], Nat.zero_le _, rfl, by have h0 := World.ownsRow_made (base := w.heap.size + 1) (size := 1) (e := 23) ((w.alloc (.cells #[.int .i64 (T : Int), .slice Ap n cp, .slice At m ct] 43)).drewN n1) #[] 0 (by simp) (Nat.zero_le _) rfl; simpa using h0, fun j hj => absurd hj (Nat.not_lt_zero _), (by repeat (first | assumption | exact Ext.refl _ | apply Ext.drewN | apply Ext.drew | apply Ext.alloc | (refine Ext.trans ?_ (by assumption)) | (refine Ext.set ?_ (by dsimp only; omega) _)))⟩
  case round =>
    obtain ⟨k, xs, hk, rfl, hown, hxs, hxx⟩ := hrel
    have hx : Ext w wr := Ext.trans (by repeat (first | assumption | exact Ext.refl _ | apply Ext.drewN | apply Ext.drew | apply Ext.alloc | (refine Ext.trans ?_ (by assumption)) | (refine Ext.set ?_ (by dsimp only; omega) _))) hxx
    obtain ⟨p0, p1, p2, _⟩ := hbox.ext hxx
    have HX := Lib.hid hxs
    clear hxs
    by_cases hlt : k < T
    · have hlt' : (k : Int) < (T : Int) := by omega
      have cs := c_l04Sum (k := k) (hbox.ext hxx) (hr.below (hxx.mono (Nat.le_trans hB (by simp)))) h2 HROW.out hlt (by omega)
      have CS := Lib.hid cs
      clear cs
      go_wp2_with (first | (go_at_call 75; refine Calls.mono CS.out ?_; rintro e w5 ⟨r5, rfl, hr5, n5, rfl⟩) | (apply upon_fop rfl; (exact hr5); (exact fl_mk m); intro r6 n6 hr6) | (at_builtin; refine wpList_append_own _ rfl _ _ 22 rfl (w.heap.size + 1) 23 i0 (.float .f32 0) 1 4 Try.underlying22 hi hz0 hz1 hz2 rfl (by decide) _ _ _ rfl (World.ownsRow.alloc (w := wr.drewN _) hown _) ⟨wr.heap.size, 0, none⟩ 1 1 [.float .f32 r6] rfl rfl ?_ ?_ ?_ ?_ ?_ ?_))
      all_goals first
        | exact one_new (w := wr.drewN _)
        | (intro u hu; simp at hu; subst hu; rfl)
        | (unfold maxLen; omega)
        | omega
        | (have := hxx.size; simp at this ⊢; omega)
        | (intro v' w4 hown' hgrow _
           have hl' : xs.length = k := by have := hown.1; omega
           have hx' := grown_extB rfl (Ext.alloc (Ext.drewN hxx _) _) (World.ownsRow.alloc (w := wr.drewN _) hown _) hgrow
           have HXX := Lib.hid (row_step hl' HX.out hr6)
           clear hown hgrow hx hxx
           go_wp2_with (fail)
           exact ⟨⟨k + 1, _, by omega, by go_num, hown', HXX.out, hx'⟩, by simp [intOf]; omega⟩)
    · obtain rfl : k = T := by omega
      obtain ⟨A2, c2, rfl, ho2⟩ := OwF.owl ⟨xs, hown, HX.out⟩
      go_wp2_with (fail)
      go_ret2
      exact ⟨_, _, _, rfl, ho2.more (Nat.le_succ _) (Nat.le_refl _), hx⟩

set_option maxRecDepth 20000 in
set_option maxHeartbeats 8000000 in
theorem c_sp_LiveStack {w : World} {B n m cp ct T : Nat} {Ap At : Option Addr} {G : Gat} (hp0 : RdF w B Ap n G.p) (hr0 : RdS w B At m G.r) (hB : B ≤ w.heap.size) (h1 : n ≤ 1048576) (h2 : m ≤ 1048576) (h3 : ∀ j, j < m → (G.r.getD j []).length ≤ 1048576) (hT : fvG G = true → G.t = (T : Int)) :
    Calls Try.prog 38 #[.agg #[.int .i64 G.t, .slice Ap n cp, .slice At m ct]] w fun e w' => RetL w e w' (fvG G) (lst (flive G.r m) T) := by
  obtain ⟨i0, hi, hz0, hz1, hz2⟩ := info_parts info_f32
  have hbox : GbAt (w.alloc (.cells #[.int .i64 G.t, .slice Ap n cp, .slice At m ct] 43)) w.heap.size G.t Ap n cp At m ct := GbAt.blk (T := 43) (by repeat (first | (refine al_at ?_ ?_ <;> first | rfl | (simp only [al_size] <;> omega)) | apply al_old))
  have hp := hp0.below (Below.mono (w := w) (w' := w.alloc (.cells #[.int .i64 G.t, .slice Ap n cp, .slice At m ct] 43)) (by repeat (first | assumption | exact Ext.refl _ | apply Ext.drewN | apply Ext.drew | apply Ext.alloc | (refine Ext.trans ?_ (by assumption)) | (refine Ext.set ?_ (by dsimp only; omega) _))) hB)
  have hr := hr0.below (Below.mono (w := w) (w' := w.alloc (.cells #[.int .i64 G.t, .slice Ap n cp, .slice At m ct] 43)) (by repeat (first | assumption | exact Ext.refl _ | apply Ext.drewN | apply Ext.drew | apply Ext.alloc | (refine Ext.trans ?_ (by assumption)) | (refine Ext.set ?_ (by dsimp only; omega) _))) hB)
  have cV := c_l04Is hbox hp hr h1 h2 h3
  have hm := hr0.len
  cases hV : fvG G
  · rw [hV] at cV
    go_enter Try.func38, Try.ntmps38
    go_wp2_with (go_at_call 70; refine Calls.mono cV ?_; rintro e w1 ⟨rfl, n1, rfl⟩)
    go_ret2
    exact retL_no rfl (by repeat (first | assumption | exact Ext.refl _ | apply Ext.drewN | apply Ext.drew | apply Ext.alloc | (refine Ext.trans ?_ (by assumption)) | (refine Ext.set ?_ (by dsimp only; omega) _)))
  rw [hV] at cV
  have hvg := fvG_of hV
  have hTt := hT hV
  rw [hTt] at hbox hp hr ⊢
  have hTb : T ≤ 64 := by have := hvg.t2; rw [hTt] at this; omega
  have hrow : ∀ j, j < m → (G.r.getD j []).length = T := fun j hj => by have := hvg.row j (by omega); rw [hTt] at this; omega
  rw [hTt] at cV
  have HROW := Lib.hid hrow
  clear hT hTt hrow hvg h3 hp hp0
  go_enter Try.func38, Try.ntmps38
  go_wp2_with (go_at_call 70; refine Calls.mono cV ?_; rintro e w1 ⟨rfl, n1, rfl⟩)
  go_loopw [4, 5] (fun v i wr => ∃ (k : Nat) (xs : List Value), k ≤ T ∧ i = .int .i64 k ∧ wr.ownsRow (w.heap.size + 1) 23 1 v k xs ∧ (∀ j, j < k → ∃ r, xs[j]? = some (.float .f32 r) ∧ Fl .f32 r ((flive G.r m) j)) ∧ Ext (w.alloc (.cells #[.int .i64 (T : Int), .slice Ap n cp, .slice At m ct] 43)) wr) (fun _ i _ => T - (intOf i).toNat)
  case atStart => exact ⟨0, [], Nat.zero_le _, rfl, by have h0 := World.ownsRow_made (base := w.heap.size + 1) (size := 1) (e := 23) ((w.alloc (.cells #[.int .i64 (T : Int), .slice Ap n cp, .slice At m ct] 43)).drewN n1) #[] 0 (by simp) (Nat.zero_le _) rfl; simpa using h0, fun j hj => absurd hj (Nat.not_lt_zero _), (by repeat (first | assumption | exact Ext.refl _ | apply Ext.drewN | apply Ext.drew | apply Ext.alloc | (refine Ext.trans ?_ (by assumption)) | (refine Ext.set ?_ (by dsimp only; omega) _)))⟩
  case round =>
    obtain ⟨k, xs, hk, rfl, hown, hxs, hxx⟩ := hrel
    have hx : Ext w wr := Ext.trans (by repeat (first | assumption | exact Ext.refl _ | apply Ext.drewN | apply Ext.drew | apply Ext.alloc | (refine Ext.trans ?_ (by assumption)) | (refine Ext.set ?_ (by dsimp only; omega) _))) hxx
    obtain ⟨p0, p1, p2, _⟩ := hbox.ext hxx
    have HX := Lib.hid hxs
    clear hxs
    by_cases hlt : k < T
    · have hlt' : (k : Int) < (T : Int) := by omega
      have cs := c_l04Sum (k := k) (hbox.ext hxx) (hr.below (hxx.mono (Nat.le_trans hB (by simp)))) h2 HROW.out hlt (by omega)
      have CS := Lib.hid cs
      clear cs
      obtain ⟨q, hq⟩ : ∃ q, nlive G.r k m = q := ⟨_, rfl⟩
      have hqb := nlive_le G.r k m
      have CS := Lib.hid (by have := CS.out; rw [hq] at this; exact this : Calls Try.prog 75 #[.pointer (some ⟨w.heap.size, 0, none⟩), .int .i64 (k : Int)] wr fun e w' => ∃ r, e = .returned (.tuple #[.float .f32 r, .int .i64 (q : Int)]) ∧ Fl .f32 r (fcs G.r k m) ∧ Dr wr w')
      by_cases hz : q = 0
      · have hfl : Fl .f32 0 (flive G.r m k) := by show Fl .f32 0 (fmean0 _ (nlive G.r k m)); rw [fmean0_z (by omega)]; exact fl_fz
        have HQ := Lib.hid hq
        clear hq hqb
        subst hz
        go_wp2_with (first | (go_at_call 75; refine Calls.mono CS.out ?_; rintro e w5 ⟨r5, rfl, hr5, n5, rfl⟩) | (at_builtin; refine wpList_append_own _ rfl _ _ 22 rfl (w.heap.size + 1) 23 i0 (.float .f32 0) 1 4 Try.underlying22 hi hz0 hz1 hz2 rfl (by decide) _ _ _ rfl (World.ownsRow.alloc (w := wr.drewN _) hown _) ⟨wr.heap.size, 0, none⟩ 1 1 [.float .f32 0] rfl rfl ?_ ?_ ?_ ?_ ?_ ?_))
        all_goals first
          | exact one_new (w := wr.drewN _)
          | (intro u hu; simp at hu; subst hu; rfl)
          | (unfold maxLen; omega)
          | omega
          | (have := hxx.size; simp at this ⊢; omega)
          | (intro v' w4 hown' hgrow _
             have hl' : xs.length = k := by have := hown.1; omega
             have hx' := grown_extB rfl (Ext.alloc (Ext.drewN hxx _) _) (World.ownsRow.alloc (w := wr.drewN _) hown _) hgrow
             have HXX := Lib.hid (row_step hl' HX.out hfl)
             clear hown hgrow hx hxx
             go_wp2_with (fail)
             exact ⟨⟨k + 1, _, by omega, by go_num, hown', HXX.out, hx'⟩, by simp [intOf]; omega⟩)
      · have hfl : ∀ r, Fl .f32 r (fop .quo .f32 (fcs G.r k m) (some (mk q))) → Fl .f32 r (flive G.r m k) := fun r h => by show Fl .f32 r (fmean0 _ (nlive G.r k m)); rw [hq, fmean0_p hz]; exact h
        have HFL := Lib.hid hfl
        have HQ := Lib.hid hq
        have hmi := mk_int q
        clear hq hqb hfl
        go_wp2_with (first | (go_at_call 75; refine Calls.mono CS.out ?_; rintro e w5 ⟨r5, rfl, hr5, n5, rfl⟩) | (apply upon_fop rfl; (exact hr5); (exact fl_mk q); intro r6 n6 hr6; have hf6 := HFL.out _ hr6) | (at_builtin; refine wpList_append_own _ rfl _ _ 22 rfl (w.heap.size + 1) 23 i0 (.float .f32 0) 1 4 Try.underlying22 hi hz0 hz1 hz2 rfl (by decide) _ _ _ rfl (World.ownsRow.alloc (w := wr.drewN _) hown _) ⟨wr.heap.size, 0, none⟩ 1 1 [.float .f32 r6] rfl rfl ?_ ?_ ?_ ?_ ?_ ?_))
        all_goals first
          | exact one_new (w := wr.drewN _)
          | (intro u hu; simp at hu; subst hu; rfl)
          | (unfold maxLen; omega)
          | omega
          | (have := hxx.size; simp at this ⊢; omega)
          | (intro v' w4 hown' hgrow _
             have hl' : xs.length = k := by have := hown.1; omega
             have hx' := grown_extB rfl (Ext.alloc (Ext.drewN hxx _) _) (World.ownsRow.alloc (w := wr.drewN _) hown _) hgrow
             have HXX := Lib.hid (row_step hl' HX.out hf6)
             clear hown hgrow hx hxx
             go_wp2_with (fail)
             exact ⟨⟨k + 1, _, by omega, by go_num, hown', HXX.out, hx'⟩, by simp [intOf]; omega⟩)
    · obtain rfl : k = T := by omega
      obtain ⟨A2, c2, rfl, ho2⟩ := OwF.owl ⟨xs, hown, HX.out⟩
      go_wp2_with (fail)
      go_ret2
      exact ⟨_, _, _, rfl, ho2.more (Nat.le_succ _) (Nat.le_refl _), hx⟩

set_option maxRecDepth 20000 in
set_option maxHeartbeats 400000 in
theorem c_mean1 {w : World} {g q s : Nat} {l : Int} {Q S : Option Nat} (hg : w.cell? ⟨g, 0, none⟩ = some (.float .f32 q)) (fq : Fl .f32 q Q) (fs : Fl .f32 s S) :
    Calls Try.prog 77 #[.float .f32 s, .int .i64 l, .pointer (some ⟨g, 0, none⟩)] w fun e w' => ∃ r, e = .returned (.float .f32 r) ∧ Fl .f32 r (fop .quo .f32 S Q) ∧ Dr w w' := by
  go_enter Try.func77, Try.ntmps77
  go_wp2_with (apply upon_fop rfl; (exact fs); (exact fq); intro r8 n8 hr8)
  go_ret
  exact ⟨_, rfl, by assumption, _, rfl⟩
set_option maxRecDepth 20000 in
set_option maxHeartbeats 400000 in
theorem c_live1 {w : World} {s l : Nat} (hl : l ≤ 1048576) {S : Option Nat} (fs : Fl .f32 s S) :
    Calls Try.prog 79 #[.float .f32 s, .int .i64 (l : Int)] w fun e w' => ∃ r, e = .returned (.float .f32 r) ∧ Fl .f32 r (fmean0 S l) ∧ Dr w w' := by
  by_cases hz : l = 0
  · rw [fmean0_z hz]
    subst hz
    go_enter Try.func79, Try.ntmps79
    go_wp2_with (fail)
    go_ret
    exact ⟨_, rfl, fl_fz, 0, rfl⟩
  · rw [fmean0_p hz]
    have hmi := mk_int l
    go_enter Try.func79, Try.ntmps79
    go_wp2_with (apply upon_fop rfl; (exact fs); (exact fl_mk l); intro r8 n8 hr8)
    go_ret
    exact ⟨_, rfl, by assumption, _, rfl⟩

set_option maxRecDepth 20000 in
set_option maxHeartbeats 8000000 in
theorem c_stackBy_mean {w : World} {B n m cp ct T : Nat} {Ap At : Option Addr} {G : Gat} (hp0 : RdF w B Ap n G.p) (hr0 : RdS w B At m G.r) (hB : B ≤ w.heap.size) (h1 : n ≤ 1048576) (h2 : m ≤ 1048576) (h3 : ∀ j, j < m → (G.r.getD j []).length ≤ 1048576) (hT : fvG G = true → G.t = (T : Int)) {g : Nat} (hg : w.cell? ⟨g, 0, none⟩ = some (.float .f32 (mk m))) (hgl : g < w.heap.size) :
    Calls Try.prog 76 #[.agg #[.int .i64 G.t, .slice Ap n cp, .slice At m ct], .func (.func 77) #[] #[.pointer (some ⟨g, 0, none⟩)]] w fun e w' => RetL w e w' (fvG G) (lst (fstack G.r m) T) := by
  have hbox : GbAt (w.alloc (.cells #[.int .i64 G.t, .slice Ap n cp, .slice At m ct] 43)) w.heap.size G.t Ap n cp At m ct := GbAt.blk (T := 43) (by repeat (first | (refine al_at ?_ ?_ <;> first | rfl | (simp only [al_size] <;> omega)) | apply al_old))
  have hp := hp0.below (Below.mono (w := w) (w' := w.alloc (.cells #[.int .i64 G.t, .slice Ap n cp, .slice At m ct] 43)) (by repeat (first | assumption | exact Ext.refl _ | apply Ext.drewN | apply Ext.drew | apply Ext.alloc | (refine Ext.trans ?_ (by assumption)) | (refine Ext.set ?_ (by dsimp only; omega) _))) hB)
  have hr := hr0.below (Below.mono (w := w) (w' := w.alloc (.cells #[.int .i64 G.t, .slice Ap n cp, .slice At m ct] 43)) (by repeat (first | assumption | exact Ext.refl _ | apply Ext.drewN | apply Ext.drew | apply Ext.alloc | (refine Ext.trans ?_ (by assumption)) | (refine Ext.set ?_ (by dsimp only; omega) _))) hB)
  have cV := c_valid (cp := cp) (ct := ct) hp hr (Nat.le_trans hB (by simp)) h1 h2 h3
  have hm := hr0.len
  cases hV : fvG G
  · rw [hV] at cV
    go_enter Try.func76, Try.ntmps76
    go_wp2_with (go_at_call 33; refine Calls.mono cV ?_; rintro e w1 ⟨rfl, hx1⟩)
    go_ret2
    exact retL_no rfl (by repeat (first | assumption | exact Ext.refl _ | apply Ext.drewN | apply Ext.drew | apply Ext.alloc | (refine Ext.trans ?_ (by assumption)) | (refine Ext.set ?_ (by dsimp only; omega) _)))
  rw [hV] at cV
  have hvg := fvG_of hV
  have hTt := hT hV
  rw [hTt] at hbox hp hr cV ⊢
  have hTb : T ≤ 64 := by have := hvg.t2; rw [hTt] at this; omega
  have hrow : ∀ j, j < m → (G.r.getD j []).length = T := fun j hj => by have := hvg.row j (by omega); rw [hTt] at this; omega
  have HROW := Lib.hid hrow
  have hmk := fun W => run_make_row' (P := Try.prog) 22 23 (.float .f32 0) 4 Try.underlying22 info_f32 rfl .i64 .i64 T (by omega) (by omega) W
  clear hT hTt hrow hvg h3 hp hp0
  go_enter Try.func76, Try.ntmps76
  go_wp2_with (go_at_call 33; refine Calls.mono cV ?_; rintro e w1 ⟨rfl, hx1⟩; obtain ⟨p0, p1, p2, _⟩ := hbox.ext hx1)
  have hxw1 : Ext w w1 := Ext.trans (by repeat (first | assumption | exact Ext.refl _ | apply Ext.drewN | apply Ext.drew | apply Ext.alloc | (refine Ext.trans ?_ (by assumption)) | (refine Ext.set ?_ (by dsimp only; omega) _))) hx1
  clear p0 p1 p2
  go_loopw [20] (fun i wr => ∃ (k : Nat) (cs : Array Value), k ≤ T ∧ i = .int .i64 k ∧ wr.heap[w1.heap.size]? = some (.cells cs 23 (0, 0)) ∧ cs.size = T ∧ (∀ j, j < k → ∃ r, cs[j]? = some (.float .f32 r) ∧ Fl .f32 r ((fstack G.r m) j)) ∧ Ext w1 wr) (fun i _ => T - (intOf i).toNat)
  case atStart => exact ⟨0, _, Nat.zero_le _, rfl, heap_alloc_new w1 _, size_madeCells _ _, fun j hj => absurd hj (Nat.not_lt_zero _), (by repeat (first | assumption | exact Ext.refl _ | apply Ext.drewN | apply Ext.drew | apply Ext.alloc | (refine Ext.trans ?_ (by assumption)) | (refine Ext.set ?_ (by dsimp only; omega) _)))⟩
  case round =>
    obtain ⟨k, cs, hk, rfl, hgk, hsz, hp, hx⟩ := hrel
    have HP := Lib.hid hp
    have HG := Lib.hid hgk
    have HZ := Lib.hid hsz
    clear hp hgk hsz
    have hxx := hx1.trans hx
    have hrr := hr.below (hxx.mono (Nat.le_trans hB (by simp)))
    obtain ⟨p0, p1, p2, _⟩ := hbox.ext hxx
    by_cases hlt : k < T
    · have hlt' : (k : Int) < (T : Int) := by omega
      obtain ⟨u0, e0, z0⟩ := own_cell HG.out HZ.out hlt
      have hcg := ((Ext.trans (Ext.trans (Ext.alloc (Ext.refl w) _) hx1) hx).cell (p := ⟨g, 0, none⟩) hgl).trans hg
      go_wp2_with (fail)
      go_loopw [8, 9, 26] (fun s l i wi => ∃ (j r q d : Nat), j ≤ m ∧ i = .int .i64 j ∧ s = .float .f32 r ∧ q = nlive G.r k j ∧ l = .int .i64 (q : Int) ∧ Fl .f32 r (fcs G.r k j) ∧ wi = wr.drewN d) (fun _ _ i _ => m - (intOf i).toNat)
      case atStart => exact ⟨0, 0, 0, 0, Nat.zero_le _, rfl, rfl, rfl, rfl, fl_fz, rfl⟩
      case round =>
        obtain ⟨j, r, q, d, hj, rfl, rfl, hq, rfl, hs, rfl⟩ := hrel
        have hqb := nlive_le G.r k j
        have hqn : q ≤ 1048576 := by omega
        by_cases hlj : j < m
        · have hlj' : (j : Int) < (m : Int) := by omega
          obtain ⟨b1, o1, A1, c1, rfl, hb1, hc1, hr1, hl1⟩ := hrr.cell hlj
          rw [HROW.out j hlj] at hc1 hr1 hl1
          obtain ⟨b2, o2, x, rfl, hb2, hc2, hx2⟩ := hr1.cell hlt
          have hnz := nzero32 x
          rw [hx2.eq] at hnz
          have hF : fcs G.r k (j + 1) = fop .add .f32 (fcs G.r k j) ((G.r.getD j []).getD k none) := rfl
          have HF := Lib.hid hF
          cases hZ : fzero32 ((G.r.getD j []).getD k none)
          · have hq2 : q + 1 = nlive G.r k (j + 1) := by rw [nlive_off hZ, hq]
            have HQ := Lib.hid hq2
            rw [hZ] at hnz
            clear hF hq2 hZ hr1 hq
            go_wp2_with (apply upon_fop rfl; (exact hs); (exact hx2); intro r6 n6 hr6; rw [← HF.out] at hr6)
            exact ⟨⟨j + 1, r6, q + 1, _, by omega, by go_num, rfl, HQ.out, by go_num, hr6, rfl⟩, by simp [intOf]; omega⟩
          · have hq2 : q = nlive G.r k (j + 1) := by rw [nlive_on hZ, hq]
            have HQ := Lib.hid hq2
            rw [hZ] at hnz
            clear hF hq2 hZ hr1 hq
            go_wp2_with (apply upon_fop rfl; (exact hs); (exact hx2); intro r6 n6 hr6; rw [← HF.out] at hr6)
            exact ⟨⟨j + 1, r6, q, _, by omega, by go_num, rfl, HQ.out, rfl, hr6, rfl⟩, by simp [intOf]; omega⟩
        · obtain rfl : j = m := by omega
          clear hq
          go_wp2_with (go_at_call 77; refine Calls.mono (c_mean1 (g := g) (Q := some (mk j)) hcg (fl_mk j) hs) ?_; rintro e w6 ⟨r6, rfl, hr6, n6, rfl⟩)
          exact ⟨⟨k + 1, _, by omega, by go_num, blk_set1 (w := World.drewN _ _) HG.out k _, by rw [Array.size_setIfInBounds]; exact HZ.out, pre_setF (F := fstack G.r j) (by have := HZ.out; omega) HP.out hr6, (by repeat (first | assumption | exact Ext.refl _ | apply Ext.drewN | apply Ext.drew | apply Ext.alloc | (refine Ext.trans ?_ (by assumption)) | (refine Ext.set ?_ (by dsimp only; omega) _)))⟩, by simp [intOf]; omega⟩
    · obtain rfl : k = T := by omega
      go_wp2_with (fail)
      go_ret2
      exact ⟨_, _, _, rfl, (own_lst HG.out HZ.out HP.out).more hxw1.size (Nat.le_refl _), hxw1.trans hx⟩

set_option maxRecDepth 20000 in
set_option maxHeartbeats 8000000 in
theorem c_stackBy_live {w : World} {B n m cp ct T : Nat} {Ap At : Option Addr} {G : Gat} (hp0 : RdF w B Ap n G.p) (hr0 : RdS w B At m G.r) (hB : B ≤ w.heap.size) (h1 : n ≤ 1048576) (h2 : m ≤ 1048576) (h3 : ∀ j, j < m → (G.r.getD j []).length ≤ 1048576) (hT : fvG G = true → G.t = (T : Int)) :
    Calls Try.prog 76 #[.agg #[.int .i64 G.t, .slice Ap n cp, .slice At m ct], .func (.func 79) #[] #[]] w fun e w' => RetL w e w' (fvG G) (lst (flive G.r m) T) := by
  have hbox : GbAt (w.alloc (.cells #[.int .i64 G.t, .slice Ap n cp, .slice At m ct] 43)) w.heap.size G.t Ap n cp At m ct := GbAt.blk (T := 43) (by repeat (first | (refine al_at ?_ ?_ <;> first | rfl | (simp only [al_size] <;> omega)) | apply al_old))
  have hp := hp0.below (Below.mono (w := w) (w' := w.alloc (.cells #[.int .i64 G.t, .slice Ap n cp, .slice At m ct] 43)) (by repeat (first | assumption | exact Ext.refl _ | apply Ext.drewN | apply Ext.drew | apply Ext.alloc | (refine Ext.trans ?_ (by assumption)) | (refine Ext.set ?_ (by dsimp only; omega) _))) hB)
  have hr := hr0.below (Below.mono (w := w) (w' := w.alloc (.cells #[.int .i64 G.t, .slice Ap n cp, .slice At m ct] 43)) (by repeat (first | assumption | exact Ext.refl _ | apply Ext.drewN | apply Ext.drew | apply Ext.alloc | (refine Ext.trans ?_ (by assumption)) | (refine Ext.set ?_ (by dsimp only; omega) _))) hB)
  have cV := c_valid (cp := cp) (ct := ct) hp hr (Nat.le_trans hB (by simp)) h1 h2 h3
  have hm := hr0.len
  cases hV : fvG G
  · rw [hV] at cV
    go_enter Try.func76, Try.ntmps76
    go_wp2_with (go_at_call 33; refine Calls.mono cV ?_; rintro e w1 ⟨rfl, hx1⟩)
    go_ret2
    exact retL_no rfl (by repeat (first | assumption | exact Ext.refl _ | apply Ext.drewN | apply Ext.drew | apply Ext.alloc | (refine Ext.trans ?_ (by assumption)) | (refine Ext.set ?_ (by dsimp only; omega) _)))
  rw [hV] at cV
  have hvg := fvG_of hV
  have hTt := hT hV
  rw [hTt] at hbox hp hr cV ⊢
  have hTb : T ≤ 64 := by have := hvg.t2; rw [hTt] at this; omega
  have hrow : ∀ j, j < m → (G.r.getD j []).length = T := fun j hj => by have := hvg.row j (by omega); rw [hTt] at this; omega
  have HROW := Lib.hid hrow
  have hmk := fun W => run_make_row' (P := Try.prog) 22 23 (.float .f32 0) 4 Try.underlying22 info_f32 rfl .i64 .i64 T (by omega) (by omega) W
  clear hT hTt hrow hvg h3 hp hp0
  go_enter Try.func76, Try.ntmps76
  go_wp2_with (go_at_call 33; refine Calls.mono cV ?_; rintro e w1 ⟨rfl, hx1⟩; obtain ⟨p0, p1, p2, _⟩ := hbox.ext hx1)
  have hxw1 : Ext w w1 := Ext.trans (by repeat (first | assumption | exact Ext.refl _ | apply Ext.drewN | apply Ext.drew | apply Ext.alloc | (refine Ext.trans ?_ (by assumption)) | (refine Ext.set ?_ (by dsimp only; omega) _))) hx1
  clear p0 p1 p2
  go_loopw [20] (fun i wr => ∃ (k : Nat) (cs : Array Value), k ≤ T ∧ i = .int .i64 k ∧ wr.heap[w1.heap.size]? = some (.cells cs 23 (0, 0)) ∧ cs.size = T ∧ (∀ j, j < k → ∃ r, cs[j]? = some (.float .f32 r) ∧ Fl .f32 r ((flive G.r m) j)) ∧ Ext w1 wr) (fun i _ => T - (intOf i).toNat)
  case atStart => exact ⟨0, _, Nat.zero_le _, rfl, heap_alloc_new w1 _, size_madeCells _ _, fun j hj => absurd hj (Nat.not_lt_zero _), (by repeat (first | assumption | exact Ext.refl _ | apply Ext.drewN | apply Ext.drew | apply Ext.alloc | (refine Ext.trans ?_ (by assumption)) | (refine Ext.set ?_ (by dsimp only; omega) _)))⟩
  case round =>
    obtain ⟨k, cs, hk, rfl, hgk, hsz, hp, hx⟩ := hrel
    have HP := Lib.hid hp
    have HG := Lib.hid hgk
    have HZ := Lib.hid hsz
    clear hp hgk hsz
    have hxx := hx1.trans hx
    have hrr := hr.below (hxx.mono (Nat.le_trans hB (by simp)))
    obtain ⟨p0, p1, p2, _⟩ := hbox.ext hxx
    by_cases hlt : k < T
    · have hlt' : (k : Int) < (T : Int) := by omega
      obtain ⟨u0, e0, z0⟩ := own_cell HG.out HZ.out hlt
      go_wp2_with (fail)
      go_loopw [8, 9, 26] (fun s l i wi => ∃ (j r q d : Nat), j ≤ m ∧ i = .int .i64 j ∧ s = .float .f32 r ∧ q = nlive G.r k j ∧ l = .int .i64 (q : Int) ∧ Fl .f32 r (fcs G.r k j) ∧ wi = wr.drewN d) (fun _ _ i _ => m - (intOf i).toNat)
      case atStart => exact ⟨0, 0, 0, 0, Nat.zero_le _, rfl, rfl, rfl, rfl, fl_fz, rfl⟩
      case round =>
        obtain ⟨j, r, q, d, hj, rfl, rfl, hq, rfl, hs, rfl⟩ := hrel
        have hqb := nlive_le G.r k j
        have hqn : q ≤ 1048576 := by omega
        by_cases hlj : j < m
        · have hlj' : (j : Int) < (m : Int) := by omega
          obtain ⟨b1, o1, A1, c1, rfl, hb1, hc1, hr1, hl1⟩ := hrr.cell hlj
          rw [HROW.out j hlj] at hc1 hr1 hl1
          obtain ⟨b2, o2, x, rfl, hb2, hc2, hx2⟩ := hr1.cell hlt
          have hnz := nzero32 x
          rw [hx2.eq] at hnz
          have hF : fcs G.r k (j + 1) = fop .add .f32 (fcs G.r k j) ((G.r.getD j []).getD k none) := rfl
          have HF := Lib.hid hF
          cases hZ : fzero32 ((G.r.getD j []).getD k none)
          · have hq2 : q + 1 = nlive G.r k (j + 1) := by rw [nlive_off hZ, hq]
            have HQ := Lib.hid hq2
            rw [hZ] at hnz
            clear hF hq2 hZ hr1 hq
            go_wp2_with (apply upon_fop rfl; (exact hs); (exact hx2); intro r6 n6 hr6; rw [← HF.out] at hr6)
            exact ⟨⟨j + 1, r6, q + 1, _, by omega, by go_num, rfl, HQ.out, by go_num, hr6, rfl⟩, by simp [intOf]; omega⟩
          · have hq2 : q = nlive G.r k (j + 1) := by rw [nlive_on hZ, hq]
            have HQ := Lib.hid hq2
            rw [hZ] at hnz
            clear hF hq2 hZ hr1 hq
            go_wp2_with (apply upon_fop rfl; (exact hs); (exact hx2); intro r6 n6 hr6; rw [← HF.out] at hr6)
            exact ⟨⟨j + 1, r6, q, _, by omega, by go_num, rfl, HQ.out, rfl, hr6, rfl⟩, by simp [intOf]; omega⟩
        · obtain rfl : j = m := by omega
          have HQ := Lib.hid hq
          clear hq
          go_wp2_with (go_at_call 79; refine Calls.mono (c_live1 (by omega) hs) ?_; rintro e w6 ⟨r6, rfl, hr6, n6, rfl⟩; rw [HQ.out] at hr6)
          exact ⟨⟨k + 1, _, by omega, by go_num, blk_set1 (w := World.drewN _ _) HG.out k _, by rw [Array.size_setIfInBounds]; exact HZ.out, pre_setF (F := flive G.r j) (by have := HZ.out; omega) HP.out hr6, (by repeat (first | assumption | exact Ext.refl _ | apply Ext.drewN | apply Ext.drew | apply Ext.alloc | (refine Ext.trans ?_ (by assumption)) | (refine Ext.set ?_ (by dsimp only; omega) _)))⟩, by simp [intOf]; omega⟩
    · obtain rfl : k = T := by omega
      go_wp2_with (fail)
      go_ret2
      exact ⟨_, _, _, rfl, (own_lst HG.out HZ.out HP.out).more hxw1.size (Nat.le_refl _), hxw1.trans hx⟩

set_option maxRecDepth 20000 in
set_option maxHeartbeats 4000000 in
theorem c_im_StackOf {w : World} {B n m cp ct T : Nat} {Ap At : Option Addr} {G : Gat} (hp0 : RdF w B Ap n G.p) (hr0 : RdS w B At m G.r) (hB : B ≤ w.heap.size) (h1 : n ≤ 1048576) (h2 : m ≤ 1048576) (h3 : ∀ j, j < m → (G.r.getD j []).length ≤ 1048576) (hT : fvG G = true → G.t = (T : Int)) :
    Calls Try.prog 36 #[.agg #[.int .i64 G.t, .slice Ap n cp, .slice At m ct]] w fun e w' => RetL w e w' (fvG G) (lst (fstack G.r m) T) := by
  have hmi := mk_int m
  go_enter Try.func36, Try.ntmps36
  go_wp2_with ((go_at_call 76; refine Calls.mono (c_stackBy_mean (g := w.heap.size + 1) (hp0.below (Below.mono (w := w) (by repeat (first | assumption | exact Ext.refl _ | apply Ext.drewN | apply Ext.drew | apply Ext.alloc | (refine Ext.trans ?_ (by assumption)) | (refine Ext.set ?_ (by dsimp only; omega) _))) hB)) (hr0.below (Below.mono (w := w) (by repeat (first | assumption | exact Ext.refl _ | apply Ext.drewN | apply Ext.drew | apply Ext.alloc | (refine Ext.trans ?_ (by assumption)) | (refine Ext.set ?_ (by dsimp only; omega) _))) hB)) (Nat.le_trans hB (Below.size (w := w) (B := w.heap.size) (by repeat (first | assumption | exact Ext.refl _ | apply Ext.drewN | apply Ext.drew | apply Ext.alloc | (refine Ext.trans ?_ (by assumption)) | (refine Ext.set ?_ (by dsimp only; omega) _))))) h1 h2 h3 hT (cell1' (by first | exact al_at (by simp) rfl | exact blk_set1 (al_at (by simp) rfl) 0 _)) (by simp)) ?_; rintro e w2 ⟨A2, n2, c2, rfl, ho2, hx2⟩))
  go_ret2
  exact ⟨_, _, _, rfl, ho2.more (Below.size (w := w) (B := w.heap.size) (by repeat (first | assumption | exact Ext.refl _ | apply Ext.drewN | apply Ext.drew | apply Ext.alloc | (refine Ext.trans ?_ (by assumption)) | (refine Ext.set ?_ (by dsimp only; omega) _)))) (Nat.le_refl _), Ext.trans (by repeat (first | assumption | exact Ext.refl _ | apply Ext.drewN | apply Ext.drew | apply Ext.alloc | (refine Ext.trans ?_ (by assumption)) | (refine Ext.set ?_ (by dsimp only; omega) _))) hx2⟩
theorem both_StackOf {G0 : Gat} (hs0 : gsz G0 ≤ 1048576) :
    ∃ ok Q q, q ≤ 1048576 ∧ (∀ (W : World) (B0 : Nat) (v0 : Value), RdG W B0 v0 G0 → B0 ≤ W.heap.size → Calls Try.prog 35 #[v0] W fun e w' => RetQ W e w' ok q Q) ∧
      (∀ (W : World) (B0 : Nat) (v0 : Value), RdG W B0 v0 G0 → B0 ≤ W.heap.size → Calls Try.prog 36 #[v0] W fun e w' => RetQ W e w' ok q Q) := by
  obtain ⟨s1, s2, s3⟩ : G0.p.length ≤ 1048576 ∧ G0.r.length ≤ 1048576 ∧ tot G0.r ≤ 1048576 := by unfold gsz at hs0; omega
  have s4 : ∀ j, j < G0.r.length → (G0.r.getD j []).length ≤ 1048576 := fun j hj => Nat.le_trans (tot_at hj) s3
  have hT : fvG G0 = true → G0.t = ((if fvG G0 then G0.t.toNat else 0 : Nat) : Int) := fun h => by have := (fvG_of h).t1; rw [if_pos h]; omega
  have hTb : (if fvG G0 then G0.t.toNat else 0 : Nat) ≤ 64 := by
    by_cases h : fvG G0 = true
    · rw [if_pos h]; have := (fvG_of h).t2; omega
    · rw [if_neg h]; omega
  generalize (if fvG G0 then G0.t.toNat else 0 : Nat) = T at hT hTb
  refine ⟨fvG G0, outL (fvG G0) (lst (fstack G0.r G0.r.length) T), (outL (fvG G0) (lst (fstack G0.r G0.r.length) T)).length, Nat.le_trans (outL_len _ _) (by rw [lst_len]; omega), fun W B0 v0 h hB => ?_, fun W B0 v0 h hB => ?_⟩
  · obtain ⟨Ap, cp, At, ct, rfl, hp, hr, _, _⟩ := h.ex
    exact Calls.mono (c_sp_StackOf hp hr hB s1 s2 s4 hT) (fun _ _ hr => hr.q)
  · obtain ⟨Ap, cp, At, ct, rfl, hp, hr, _, _⟩ := h.ex
    exact Calls.mono (c_im_StackOf hp hr hB s1 s2 s4 hT) (fun _ _ hr => hr.q)

set_option maxRecDepth 20000 in
set_option maxHeartbeats 4000000 in
theorem c_im_LiveStack {w : World} {B n m cp ct T : Nat} {Ap At : Option Addr} {G : Gat} (hp0 : RdF w B Ap n G.p) (hr0 : RdS w B At m G.r) (hB : B ≤ w.heap.size) (h1 : n ≤ 1048576) (h2 : m ≤ 1048576) (h3 : ∀ j, j < m → (G.r.getD j []).length ≤ 1048576) (hT : fvG G = true → G.t = (T : Int)) :
    Calls Try.prog 39 #[.agg #[.int .i64 G.t, .slice Ap n cp, .slice At m ct]] w fun e w' => RetL w e w' (fvG G) (lst (flive G.r m) T) := by
  have hmi := mk_int m
  go_enter Try.func39, Try.ntmps39
  go_wp2_with ((go_at_call 76; refine Calls.mono (c_stackBy_live (hp0.below (Below.mono (w := w) (by repeat (first | assumption | exact Ext.refl _ | apply Ext.drewN | apply Ext.drew | apply Ext.alloc | (refine Ext.trans ?_ (by assumption)) | (refine Ext.set ?_ (by dsimp only; omega) _))) hB)) (hr0.below (Below.mono (w := w) (by repeat (first | assumption | exact Ext.refl _ | apply Ext.drewN | apply Ext.drew | apply Ext.alloc | (refine Ext.trans ?_ (by assumption)) | (refine Ext.set ?_ (by dsimp only; omega) _))) hB)) (Nat.le_trans hB (Below.size (w := w) (B := w.heap.size) (by repeat (first | assumption | exact Ext.refl _ | apply Ext.drewN | apply Ext.drew | apply Ext.alloc | (refine Ext.trans ?_ (by assumption)) | (refine Ext.set ?_ (by dsimp only; omega) _))))) h1 h2 h3 hT) ?_; rintro e w2 ⟨A2, n2, c2, rfl, ho2, hx2⟩))
  go_ret2
  exact ⟨_, _, _, rfl, ho2.more (Below.size (w := w) (B := w.heap.size) (by repeat (first | assumption | exact Ext.refl _ | apply Ext.drewN | apply Ext.drew | apply Ext.alloc | (refine Ext.trans ?_ (by assumption)) | (refine Ext.set ?_ (by dsimp only; omega) _)))) (Nat.le_refl _), Ext.trans (by repeat (first | assumption | exact Ext.refl _ | apply Ext.drewN | apply Ext.drew | apply Ext.alloc | (refine Ext.trans ?_ (by assumption)) | (refine Ext.set ?_ (by dsimp only; omega) _))) hx2⟩
theorem both_LiveStack {G0 : Gat} (hs0 : gsz G0 ≤ 1048576) :
    ∃ ok Q q, q ≤ 1048576 ∧ (∀ (W : World) (B0 : Nat) (v0 : Value), RdG W B0 v0 G0 → B0 ≤ W.heap.size → Calls Try.prog 38 #[v0] W fun e w' => RetQ W e w' ok q Q) ∧
      (∀ (W : World) (B0 : Nat) (v0 : Value), RdG W B0 v0 G0 → B0 ≤ W.heap.size → Calls Try.prog 39 #[v0] W fun e w' => RetQ W e w' ok q Q) := by
  obtain ⟨s1, s2, s3⟩ : G0.p.length ≤ 1048576 ∧ G0.r.length ≤ 1048576 ∧ tot G0.r ≤ 1048576 := by unfold gsz at hs0; omega
  have s4 : ∀ j, j < G0.r.length → (G0.r.getD j []).length ≤ 1048576 := fun j hj => Nat.le_trans (tot_at hj) s3
  have hT : fvG G0 = true → G0.t = ((if fvG G0 then G0.t.toNat else 0 : Nat) : Int) := fun h => by have := (fvG_of h).t1; rw [if_pos h]; omega
  have hTb : (if fvG G0 then G0.t.toNat else 0 : Nat) ≤ 64 := by
    by_cases h : fvG G0 = true
    · rw [if_pos h]; have := (fvG_of h).t2; omega
    · rw [if_neg h]; omega
  generalize (if fvG G0 then G0.t.toNat else 0 : Nat) = T at hT hTb
  refine ⟨fvG G0, outL (fvG G0) (lst (flive G0.r G0.r.length) T), (outL (fvG G0) (lst (flive G0.r G0.r.length) T)).length, Nat.le_trans (outL_len _ _) (by rw [lst_len]; omega), fun W B0 v0 h hB => ?_, fun W B0 v0 h hB => ?_⟩
  · obtain ⟨Ap, cp, At, ct, rfl, hp, hr, _, _⟩ := h.ex
    exact Calls.mono (c_sp_LiveStack hp hr hB s1 s2 s4 hT) (fun _ _ hr => hr.q)
  · obtain ⟨Ap, cp, At, ct, rfl, hp, hr, _, _⟩ := h.ex
    exact Calls.mono (c_im_LiveStack hp hr hB s1 s2 s4 hT) (fun _ _ hr => hr.q)
end Go.Proofs.Ytbdmdpaggnaneaa
