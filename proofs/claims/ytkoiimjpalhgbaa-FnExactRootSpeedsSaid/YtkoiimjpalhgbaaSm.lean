/- Contracts: sums down to boundaries, as lists of their own, on both sides. Condition: the ground is read. -/
import Derived.Test.YtkoiimjpalhgbaaRy2
import Derived.OwnWalk
import Derived.Deep.RegionWith
namespace Go.Proofs.Ytkoiimjpalhgbaa
open Go.RowKit Ieee

/-- The sum of what the first layers have. -/
def sums (q : Ly → Option Nat) (L : List Ly) : Nat → Option Nat
  | 0 => fz
  | j + 1 => fop .add .f32 (sums q L j) (q (L.getD j default))
/-- A list of floats of the call's own, from block base on. -/
structure OwF (w : World) (base : Nat) (v : Value) (n : Nat) (F : Nat → Option Nat) : Prop where
  own : ∃ xs, w.ownsRow base 23 1 v n xs ∧ ∀ j, j < n → ∃ r, xs[j]? = some (.float .f32 r) ∧ Fl .f32 r (F j)
theorem OwF.rd {w : World} {base n : Nat} {v : Value} {F : Nat → Option Nat} (h : OwF w base v n F) :
    ∃ A c, v = .slice A n c ∧ ∀ j, j < n → ∃ g r, A = some ⟨g, 0, none⟩ ∧ base ≤ g ∧ g < w.heap.size ∧ w.cell? ⟨g, j, none⟩ = some (.float .f32 r) ∧ Fl .f32 r (F j) := by
  obtain ⟨xs, ho, hx⟩ := h.own
  have ho' := ho
  obtain ⟨_, hd⟩ := ho
  rcases hd with ⟨hv, hn⟩ | ⟨g, cap, cur, hv, hb, hg, _, _, _, _⟩
  · exact ⟨none, 0, by rw [hv, hn], fun j hj => by omega⟩
  · refine ⟨some ⟨g, 0, none⟩, cap, hv, fun j hj => ?_⟩
    obtain ⟨r, h1, h2⟩ := hx j hj
    rw [hv] at ho'
    exact ⟨g, r, rfl, hb, blk_lt hg, by rw [ho'.cellAt j (by omega)]; exact h1, h2⟩
theorem OwF.ext {w w' : World} {base n : Nat} {v : Value} {F : Nat → Option Nat} (h : OwF w base v n F) (hx : Ext w w') : OwF w' base v n F := by
  obtain ⟨xs, ho, hr⟩ := h.own
  refine ⟨xs, ⟨ho.1, ?_⟩, hr⟩
  rcases ho.2 with hn | ⟨g, cap, cur, hv, hb, hg, hrest⟩
  · exact .inl hn
  · exact .inr ⟨g, cap, cur, hv, hb, hx.blk hg, hrest⟩
theorem cell1' {w : World} {g : Nat} {v0 : Value} {t : TypeId} (hg : w.heap[g]? = some (.cells #[v0] t (0, 0))) : w.cell? ⟨g, 0, none⟩ = some v0 := by
  rw [cell_of_row w g _ _ _ (0, 0) hg]; rfl
theorem sums_step {q : Ly → Option Nat} {L : List Ly} {k r : Nat} {xs : List Value} (hl : xs.length = k) (h : ∀ j, j < k → ∃ r, xs[j]? = some (.float .f32 r) ∧ Fl .f32 r (sums q L (j + 1))) (hr : Fl .f32 r (sums q L (k + 1))) :
    ∀ j, j < k + 1 → ∃ r', (xs ++ [Value.float .f32 r])[j]? = some (.float .f32 r') ∧ Fl .f32 r' (sums q L (j + 1)) := by
  intro j hj
  by_cases hjk : j = k
  · subst hjk
    exact ⟨r, by rw [List.getElem?_append_right (by omega), hl]; simp, hr⟩
  · obtain ⟨r', h1, h2⟩ := h j (by omega)
    exact ⟨r', by rw [List.getElem?_append_left (by omega)]; exact h1, h2⟩
theorem one_new {w : World} {r : Nat} : ∀ j u, [Value.float .f32 r][j]? = some u → (w.alloc (.cells #[.float .f32 r] 23)).cell? ((⟨w.heap.size, 0, none⟩ : Addr).add j) = some u := by
  intro j u hj
  match j, hj with
  | 0, hj =>
    simp at hj
    subst hj
    simp [Addr.add]
theorem grown_ext {w w1 w' : World} {v : Value} {n : Nat} {e : TypeId} {xs : List Value} (hx : Ext w w1) (hown : w1.ownsRow w.heap.size e 1 v n xs) (hg : w1.grownBy w' v.ownBlock) : Ext w w' :=
  Below.grown hx hg hx.size (fun k hk => (hown.lt k hk).1)
theorem info_f32 : (Try.prog.info? 23).map (fun i => (i.zero, i.size, i.bytes)) = some (some (.float .f32 0), 1, 4) := by kernel_rfl

set_option maxRecDepth 20000 in
set_option maxHeartbeats 2000000 in
theorem c_l02Depths {w : World} {b n c s d : Nat} {A : Option Addr} {L : List Ly} (hp : GpAt w b A n c s d) (h : RdL w A n L) (hn : n ≤ 1048576) :
    Calls Try.prog 57 #[.pointer (some ⟨b, 0, none⟩)] w fun e w' => ∃ v, e = .returned v ∧ OwF w' w.heap.size v n (fun j => sums Ly.t L (j + 1)) ∧ Ext w w' := by
  have hl := Lib.hid h.len
  have p0 := hp.c0
  obtain ⟨i0, hi, hz0, hz1, hz2⟩ := info_parts info_f32
  go_enter Try.func57, Try.ntmps57
  go_wp2_with (fail)
  go_loopw [3, 4, 5] (fun s v i wr => ∃ (k r : Nat) (xs : List Value), k ≤ n ∧ i = .int .i64 k ∧ s = .float .f32 r ∧ Fl .f32 r (sums Ly.t L k) ∧ wr.ownsRow w.heap.size 23 1 v k xs ∧ (∀ j, j < k → ∃ r, xs[j]? = some (.float .f32 r) ∧ Fl .f32 r (sums Ly.t L (j + 1))) ∧ Ext w wr) (fun _ _ i _ => n - (intOf i).toNat)
  case atStart => exact ⟨0, 0, [], Nat.zero_le _, rfl, rfl, fl_fz, World.ownsRow_made w _ 0 (Nat.le_refl _) (Nat.zero_le _) rfl, fun j hj => absurd hj (Nat.not_lt_zero _), (by repeat (first | assumption | exact Ext.refl _ | apply Ext.drewN | apply Ext.drew | apply Ext.alloc | (refine Ext.trans ?_ (by assumption)) | (refine Ext.set ?_ (by dsimp only; omega) _)))⟩
  case round =>
    obtain ⟨k, r, xs, hk, rfl, rfl, hr, hown, hxs, hx⟩ := hrel
    have HX := Lib.hid hxs
    clear hxs
    have p0' := (hp.ext hx).c0
    by_cases hlt : k < n
    · obtain ⟨b', off, r0, r1, r2, r3, rfl, hb, hy⟩ := (h.ext hx).cell hlt
      have hc0 := hy.c0
      have q0 := hy.f0
      have hT : sums Ly.t L (k + 1) = fop .add .f32 (sums Ly.t L k) (L.getD k default).t := rfl
      have HT := Lib.hid hT
      clear hT
      go_wp2_with (first | (apply upon_fop rfl; (exact hr); (exact q0); intro r5 n5 hr5; rw [← HT.out] at hr5) | (at_builtin; refine wpList_append_own _ rfl _ _ 35 rfl w.heap.size 23 i0 (.float .f32 0) 1 4 Try.underlying35 hi hz0 hz1 hz2 rfl (by decide) _ _ _ rfl (World.ownsRow.alloc (w := wr.drewN n5) hown _) ⟨wr.heap.size, 0, none⟩ 1 1 [.float .f32 r5] rfl rfl ?c1 ?c2 ?c3 ?c4 ?c5 ?_))
      case c1 => exact one_new (w := wr.drewN n5)
      case c2 => intro u hu; simp at hu; subst hu; rfl
      case c3 => unfold maxLen; omega
      case c4 => omega
      case c5 => have := hx.size; simp; omega
      · intro v' w1 hown' hgrow _
        have hl' : xs.length = k := by have := hown.1; omega
        have hx' : Ext w w1 := grown_ext (Ext.alloc (Ext.drewN hx n5) _) (World.ownsRow.alloc (w := wr.drewN n5) hown _) hgrow
        have HXX := Lib.hid (sums_step hl' HX.out hr5)
        clear hown hgrow hx
        go_wp2_with (fail)
        exact ⟨⟨k + 1, r5, _, by omega, by go_num, rfl, hr5, hown', HXX.out, hx'⟩, by simp [intOf]; omega⟩
    · have hkn : k = n := by omega
      subst hkn
      go_wp2_with (fail)
      go_ret
      exact ⟨_, rfl, ⟨xs, hown, HX.out⟩, hx⟩
/-- The time through a layer, and its square's share. -/
def fthru (y : Ly) : Option Nat := fop .quo .f32 y.t y.s
def fsqthru (y : Ly) : Option Nat := fop .mul .f32 (fop .mul .f32 y.s y.s) (fthru y)
set_option maxRecDepth 20000 in
set_option maxHeartbeats 2000000 in
theorem c_l02Times {w : World} {b n c s d : Nat} {A : Option Addr} {L : List Ly} (hp : GpAt w b A n c s d) (h : RdL w A n L) (hn : n ≤ 1048576) :
    Calls Try.prog 70 #[.pointer (some ⟨b, 0, none⟩)] w fun e w' => ∃ v, e = .returned v ∧ OwF w' w.heap.size v n (fun j => sums fthru L (j + 1)) ∧ Ext w w' := by
  have hl := Lib.hid h.len
  have p0 := hp.c0
  obtain ⟨i0, hi, hz0, hz1, hz2⟩ := info_parts info_f32
  go_enter Try.func70, Try.ntmps70
  go_wp2_with (fail)
  go_loopw [3, 4, 5] (fun s v i wr => ∃ (k r : Nat) (xs : List Value), k ≤ n ∧ i = .int .i64 k ∧ s = .float .f32 r ∧ Fl .f32 r (sums fthru L k) ∧ wr.ownsRow w.heap.size 23 1 v k xs ∧ (∀ j, j < k → ∃ r, xs[j]? = some (.float .f32 r) ∧ Fl .f32 r (sums fthru L (j + 1))) ∧ Ext w wr) (fun _ _ i _ => n - (intOf i).toNat)
  case atStart => exact ⟨0, 0, [], Nat.zero_le _, rfl, rfl, fl_fz, World.ownsRow_made w _ 0 (Nat.le_refl _) (Nat.zero_le _) rfl, fun j hj => absurd hj (Nat.not_lt_zero _), (by repeat (first | assumption | exact Ext.refl _ | apply Ext.drewN | apply Ext.drew | apply Ext.alloc | (refine Ext.trans ?_ (by assumption)) | (refine Ext.set ?_ (by dsimp only; omega) _)))⟩
  case round =>
    obtain ⟨k, r, xs, hk, rfl, rfl, hr, hown, hxs, hx⟩ := hrel
    have HX := Lib.hid hxs
    clear hxs
    have p0' := (hp.ext hx).c0
    by_cases hlt : k < n
    · obtain ⟨b', off, r0, r1, r2, r3, rfl, hb, hy⟩ := (h.ext hx).cell hlt
      have hc0 := hy.c0
      have hc1 := hy.c1
      have q0 := hy.f0
      have q1 := hy.f1
      have hlt' : (k : Int) < (n : Int) := by omega
      have hT : sums fthru L (k + 1) = fop .add .f32 (sums fthru L k) (fop .quo .f32 (L.getD k default).t (L.getD k default).s) := rfl
      have HT := Lib.hid hT
      clear hT
      go_wp2_with (fail)
      go_region_with (first | (apply upon_fop rfl; (exact q0); (exact q1); intro r6 n6 hr6) | (apply upon_fop rfl; (exact hr); (exact hr6); intro r5 n5 hr5; rw [← HT.out] at hr5))
      all_goals
        go_wp2_with (at_builtin; refine wpList_append_own _ rfl _ _ 35 rfl w.heap.size 23 i0 (.float .f32 0) 1 4 Try.underlying35 hi hz0 hz1 hz2 rfl (by decide) _ _ _ rfl (World.ownsRow.alloc (w := wr.drewN _) hown _) ⟨wr.heap.size, 0, none⟩ 1 1 [.float .f32 r5] rfl rfl ?_ ?_ ?_ ?_ ?_ ?_)
      all_goals first
        | exact one_new (w := wr.drewN _)
        | (intro u hu; simp at hu; subst hu; rfl)
        | (unfold maxLen; omega)
        | omega
        | (have := hx.size; simp; omega)
        | (intro v' w1 hown' hgrow _
           have hl' : xs.length = k := by have := hown.1; omega
           have hx' : Ext w w1 := grown_ext (Ext.alloc (Ext.drewN hx _) _) (World.ownsRow.alloc (w := wr.drewN _) hown _) hgrow
           have HXX := Lib.hid (sums_step hl' HX.out hr5)
           clear hown hgrow hx
           go_wp2_with (fail)
           exact ⟨⟨k + 1, r5, _, by omega, by go_num, rfl, hr5, hown', HXX.out, hx'⟩, by simp [intOf]; omega⟩)
    · have hkn : k = n := by omega
      subst hkn
      go_wp2_with (fail)
      go_ret
      exact ⟨_, rfl, ⟨xs, hown, HX.out⟩, hx⟩
/-- What a function of a layer returns. -/
def LegFn (f : FuncId) (q : Ly → Option Nat) : Prop := ∀ (r0 r1 r2 r3 : Nat) (y : Ly) (w : World), Fl .f32 r0 y.t → Fl .f32 r1 y.s → Calls Try.prog f #[.agg #[.float .f32 r0, .float .f32 r1, .float .f32 r2, .float .f32 r3]] w fun e w' => ∃ r, e = .returned (.float .f32 r) ∧ Fl .f32 r (q y) ∧ Ext w w'
theorem leg_thickOf : LegFn 60 Ly.t := by
  intro r0 r1 r2 r3 y w h0 _
  go_enter Try.func60, Try.ntmps60
  go_wp2
  go_ret
  exact ⟨_, rfl, h0, (by repeat (first | assumption | exact Ext.refl _ | apply Ext.drewN | apply Ext.drew | apply Ext.alloc | (refine Ext.trans ?_ (by assumption)) | (refine Ext.set ?_ (by dsimp only; omega) _)))⟩
theorem leg_timeThrough : LegFn 71 fthru := by
  intro r0 r1 r2 r3 y w h0 h1
  go_enter Try.func71, Try.ntmps71
  go_wp2_with ((apply upon_fop rfl; (first | assumption | exact Fl.const (of_decide_eq_true (by kernel_rfl))); (first | assumption | exact Fl.const (of_decide_eq_true (by kernel_rfl))); intro r n hr))
  go_ret
  exact ⟨_, rfl, by assumption, (by repeat (first | assumption | exact Ext.refl _ | apply Ext.drewN | apply Ext.drew | apply Ext.alloc | (refine Ext.trans ?_ (by assumption)) | (refine Ext.set ?_ (by dsimp only; omega) _)))⟩
theorem pre_setF {cs : Array Value} {k q : Nat} {F : Nat → Option Nat} (hk : k < cs.size) (hp : ∀ j, j < k → ∃ r, cs[j]? = some (.float .f32 r) ∧ Fl .f32 r (F j)) (hq : Fl .f32 q (F k)) :
    ∀ j, j < k + 1 → ∃ r, (cs.setIfInBounds k (.float .f32 q))[j]? = some (.float .f32 r) ∧ Fl .f32 r (F j) := by
  intro j hj
  by_cases h : j = k
  · subst h
    exact ⟨q, by simp [hk], hq⟩
  · obtain ⟨r, h1, h2⟩ := hp j (by omega)
    exact ⟨r, by rw [Array.getElem?_setIfInBounds, if_neg (fun e => h e.symm)]; exact h1, h2⟩
theorem own_cell {w : World} {g n k : Nat} {cs : Array Value} {t : TypeId} (hg : w.heap[g]? = some (.cells cs t (0, 0))) (hsz : cs.size = n) (hk : k < n) :
    ∃ u, w.cell? ⟨g, k, none⟩ = some u ∧ w.frozen? ⟨g, k, none⟩ = false :=
  ⟨cs[k]'(by omega), by rw [cell_of_row w g _ cs _ (0, 0) hg]; exact Array.getElem?_eq_getElem (by omega), by simp [World.frozen?, hg]⟩
set_option maxRecDepth 20000 in
set_option maxHeartbeats 4000000 in
theorem c_sums_thickOf {w : World} {n c : Nat} {A : Option Addr} {L : List Ly} (h : RdL w A n L) (hn : n ≤ 1048576) :
    Calls Try.prog 59 #[.slice A n c, .func (.func 60) #[] #[]] w fun e w' => ∃ v, e = .returned v ∧ OwF w' w.heap.size v n (fun j => sums Ly.t L (j + 1)) ∧ Ext w w' := by
  have hl := Lib.hid h.len
  have hmk := fun W => run_make_row' (P := Try.prog) 35 23 (.float .f32 0) 4 Try.underlying35 info_f32 rfl .i64 .i64 n (by omega) (by omega) W
  go_enter Try.func59, Try.ntmps59
  go_wp2_with (fail)
  go_loopw [6, 14] (fun s i wr => ∃ (k r : Nat) (cs : Array Value), k ≤ n ∧ i = .int .i64 k ∧ s = .float .f32 r ∧ Fl .f32 r (sums Ly.t L k) ∧ wr.heap[w.heap.size]? = some (.cells cs 23 (0, 0)) ∧ cs.size = n ∧ (∀ j, j < k → ∃ r, cs[j]? = some (.float .f32 r) ∧ Fl .f32 r (sums Ly.t L (j + 1))) ∧ Ext w wr) (fun _ i _ => n - (intOf i).toNat)
  case atStart => exact ⟨0, 0, _, Nat.zero_le _, rfl, rfl, fl_fz, heap_alloc_new w _, size_madeCells _ _, fun j hj => absurd hj (Nat.not_lt_zero _), (by repeat (first | assumption | exact Ext.refl _ | apply Ext.drewN | apply Ext.drew | apply Ext.alloc | (refine Ext.trans ?_ (by assumption)) | (refine Ext.set ?_ (by dsimp only; omega) _)))⟩
  case round =>
    obtain ⟨k, r, cs, hk, rfl, rfl, hr, hg, hsz, hxs, hx⟩ := hrel
    have HX := Lib.hid hxs
    have HG := Lib.hid hg
    have HS := Lib.hid hsz
    clear hxs hg hsz
    by_cases hlt : k < n
    · obtain ⟨b', off, r0, r1, r2, r3, rfl, hb, hy⟩ := (h.ext hx).cell hlt
      have hc0 := hy.c0
      have hc1 := hy.c1
      have hc2 := hy.c2
      have hc3 := hy.c3
      have hT : sums Ly.t L (k + 1) = fop .add .f32 (sums Ly.t L k) (Ly.t (L.getD k default)) := rfl
      have HT := Lib.hid hT
      clear hT
      have hlt' : (k : Int) < (n : Int) := by omega
      go_wp2_with (first | (go_at_call 60; refine Calls.mono (leg_thickOf r0 r1 r2 r3 (L.getD k default) _ hy.f0 hy.f1) ?_; rintro e w2 ⟨r6, rfl, hr6, hx2⟩; have g2 := Lib.hid (hx2.blk (al_old HG.out)); obtain ⟨u0, e0, z0⟩ := own_cell g2.out HS.out hlt) | (apply upon_fop rfl; (exact hr); (exact hr6); intro r5 n5 hr5; rw [← HT.out] at hr5))
      exact ⟨⟨k + 1, r5, cs.setIfInBounds k (.float .f32 r5), by omega, by go_num, rfl, hr5, blk_set1 (w := World.drewN w2 _) g2.out k _, by rw [Array.size_setIfInBounds]; exact HS.out, pre_setF (F := fun j => sums Ly.t L (j + 1)) (by have := HS.out; omega) HX.out hr5, Ext.set (by repeat (first | assumption | exact Ext.refl _ | apply Ext.drewN | apply Ext.drew | apply Ext.alloc | (refine Ext.trans ?_ (by assumption)) | (refine Ext.set ?_ (by dsimp only; omega) _))) (Nat.le_refl _) _⟩, by simp [intOf]; omega⟩
    · have hkn : k = n := by omega
      subst hkn
      go_wp2_with (fail)
      go_ret
      refine ⟨_, rfl, ⟨cs.toList, ⟨by simp [HS.out], .inr ⟨w.heap.size, k, cs, rfl, Nat.le_refl _, HG.out, Nat.le_refl _, by unfold maxLen; omega, by rw [HS.out]; omega, ?_⟩⟩, ?_⟩, hx⟩
      · rw [List.take_of_length_le]; simp [HS.out]
      · intro j hj
        obtain ⟨r', h1, h2⟩ := HX.out j hj
        exact ⟨r', by simpa using h1, h2⟩
set_option maxRecDepth 20000 in
set_option maxHeartbeats 4000000 in
theorem c_sums_timeThrough {w : World} {n c : Nat} {A : Option Addr} {L : List Ly} (h : RdL w A n L) (hn : n ≤ 1048576) :
    Calls Try.prog 59 #[.slice A n c, .func (.func 71) #[] #[]] w fun e w' => ∃ v, e = .returned v ∧ OwF w' w.heap.size v n (fun j => sums fthru L (j + 1)) ∧ Ext w w' := by
  have hl := Lib.hid h.len
  have hmk := fun W => run_make_row' (P := Try.prog) 35 23 (.float .f32 0) 4 Try.underlying35 info_f32 rfl .i64 .i64 n (by omega) (by omega) W
  go_enter Try.func59, Try.ntmps59
  go_wp2_with (fail)
  go_loopw [6, 14] (fun s i wr => ∃ (k r : Nat) (cs : Array Value), k ≤ n ∧ i = .int .i64 k ∧ s = .float .f32 r ∧ Fl .f32 r (sums fthru L k) ∧ wr.heap[w.heap.size]? = some (.cells cs 23 (0, 0)) ∧ cs.size = n ∧ (∀ j, j < k → ∃ r, cs[j]? = some (.float .f32 r) ∧ Fl .f32 r (sums fthru L (j + 1))) ∧ Ext w wr) (fun _ i _ => n - (intOf i).toNat)
  case atStart => exact ⟨0, 0, _, Nat.zero_le _, rfl, rfl, fl_fz, heap_alloc_new w _, size_madeCells _ _, fun j hj => absurd hj (Nat.not_lt_zero _), (by repeat (first | assumption | exact Ext.refl _ | apply Ext.drewN | apply Ext.drew | apply Ext.alloc | (refine Ext.trans ?_ (by assumption)) | (refine Ext.set ?_ (by dsimp only; omega) _)))⟩
  case round =>
    obtain ⟨k, r, cs, hk, rfl, rfl, hr, hg, hsz, hxs, hx⟩ := hrel
    have HX := Lib.hid hxs
    have HG := Lib.hid hg
    have HS := Lib.hid hsz
    clear hxs hg hsz
    by_cases hlt : k < n
    · obtain ⟨b', off, r0, r1, r2, r3, rfl, hb, hy⟩ := (h.ext hx).cell hlt
      have hc0 := hy.c0
      have hc1 := hy.c1
      have hc2 := hy.c2
      have hc3 := hy.c3
      have hT : sums fthru L (k + 1) = fop .add .f32 (sums fthru L k) (fthru (L.getD k default)) := rfl
      have HT := Lib.hid hT
      clear hT
      have hlt' : (k : Int) < (n : Int) := by omega
      go_wp2_with (first | (go_at_call 71; refine Calls.mono (leg_timeThrough r0 r1 r2 r3 (L.getD k default) _ hy.f0 hy.f1) ?_; rintro e w2 ⟨r6, rfl, hr6, hx2⟩; have g2 := Lib.hid (hx2.blk (al_old HG.out)); obtain ⟨u0, e0, z0⟩ := own_cell g2.out HS.out hlt) | (apply upon_fop rfl; (exact hr); (exact hr6); intro r5 n5 hr5; rw [← HT.out] at hr5))
      exact ⟨⟨k + 1, r5, cs.setIfInBounds k (.float .f32 r5), by omega, by go_num, rfl, hr5, blk_set1 (w := World.drewN w2 _) g2.out k _, by rw [Array.size_setIfInBounds]; exact HS.out, pre_setF (F := fun j => sums fthru L (j + 1)) (by have := HS.out; omega) HX.out hr5, Ext.set (by repeat (first | assumption | exact Ext.refl _ | apply Ext.drewN | apply Ext.drew | apply Ext.alloc | (refine Ext.trans ?_ (by assumption)) | (refine Ext.set ?_ (by dsimp only; omega) _))) (Nat.le_refl _) _⟩, by simp [intOf]; omega⟩
    · have hkn : k = n := by omega
      subst hkn
      go_wp2_with (fail)
      go_ret
      refine ⟨_, rfl, ⟨cs.toList, ⟨by simp [HS.out], .inr ⟨w.heap.size, k, cs, rfl, Nat.le_refl _, HG.out, Nat.le_refl _, by unfold maxLen; omega, by rw [HS.out]; omega, ?_⟩⟩, ?_⟩, hx⟩
      · rw [List.take_of_length_le]; simp [HS.out]
      · intro j hj
        obtain ⟨r', h1, h2⟩ := HX.out j hj
        exact ⟨r', by simpa using h1, h2⟩
set_option maxRecDepth 20000 in
set_option maxHeartbeats 2000000 in
theorem leg_squareThrough : LegFn 74 fsqthru := by
  intro r0 r1 r2 r3 y w h0 h1
  go_enter Try.func74, Try.ntmps74
  go_wp2_with (fail)
  go_region_with (first | (go_at_call 69; refine Calls.mono (c_mulNumbers (by assumption) (by assumption) _) ?_; rintro e w1 ⟨r6, rfl, hr6, n9, rfl⟩) | (go_at_call 71; refine Calls.mono (leg_timeThrough r0 r1 r2 r3 y _ h0 h1) ?_; rintro e w2 ⟨r7, rfl, hr7, hx7⟩; obtain ⟨e0, e1, e2, e3, z0, z1, z2, z3⟩ := cells4 (hx7.blk (g := w.heap.size) (o := .cells #[.float .f32 r0, .float .f32 r1, .float .f32 r2, .float .f32 r3] 57 (0, 0)) (by repeat (first | (refine al_at ?_ ?_ <;> first | rfl | (simp only [al_size] <;> omega)) | apply al_old)))))
  all_goals
    go_wp2_with (fail)
    go_ret
    exact ⟨_, rfl, by assumption, (by repeat (first | assumption | exact Ext.refl _ | apply Ext.drewN | apply Ext.drew | apply Ext.alloc | (refine Ext.trans ?_ (by assumption)) | (refine Ext.set ?_ (by dsimp only; omega) _)))⟩
set_option maxRecDepth 20000 in
set_option maxHeartbeats 4000000 in
theorem c_sums_squareThrough {w : World} {n c : Nat} {A : Option Addr} {L : List Ly} (h : RdL w A n L) (hn : n ≤ 1048576) :
    Calls Try.prog 59 #[.slice A n c, .func (.func 74) #[] #[]] w fun e w' => ∃ v, e = .returned v ∧ OwF w' w.heap.size v n (fun j => sums fsqthru L (j + 1)) ∧ Ext w w' := by
  have hl := Lib.hid h.len
  have hmk := fun W => run_make_row' (P := Try.prog) 35 23 (.float .f32 0) 4 Try.underlying35 info_f32 rfl .i64 .i64 n (by omega) (by omega) W
  go_enter Try.func59, Try.ntmps59
  go_wp2_with (fail)
  go_loopw [6, 14] (fun s i wr => ∃ (k r : Nat) (cs : Array Value), k ≤ n ∧ i = .int .i64 k ∧ s = .float .f32 r ∧ Fl .f32 r (sums fsqthru L k) ∧ wr.heap[w.heap.size]? = some (.cells cs 23 (0, 0)) ∧ cs.size = n ∧ (∀ j, j < k → ∃ r, cs[j]? = some (.float .f32 r) ∧ Fl .f32 r (sums fsqthru L (j + 1))) ∧ Ext w wr) (fun _ i _ => n - (intOf i).toNat)
  case atStart => exact ⟨0, 0, _, Nat.zero_le _, rfl, rfl, fl_fz, heap_alloc_new w _, size_madeCells _ _, fun j hj => absurd hj (Nat.not_lt_zero _), (by repeat (first | assumption | exact Ext.refl _ | apply Ext.drewN | apply Ext.drew | apply Ext.alloc | (refine Ext.trans ?_ (by assumption)) | (refine Ext.set ?_ (by dsimp only; omega) _)))⟩
  case round =>
    obtain ⟨k, r, cs, hk, rfl, rfl, hr, hg, hsz, hxs, hx⟩ := hrel
    have HX := Lib.hid hxs
    have HG := Lib.hid hg
    have HS := Lib.hid hsz
    clear hxs hg hsz
    by_cases hlt : k < n
    · obtain ⟨b', off, r0, r1, r2, r3, rfl, hb, hy⟩ := (h.ext hx).cell hlt
      have hc0 := hy.c0
      have hc1 := hy.c1
      have hc2 := hy.c2
      have hc3 := hy.c3
      have hT : sums fsqthru L (k + 1) = fop .add .f32 (sums fsqthru L k) (fsqthru (L.getD k default)) := rfl
      have HT := Lib.hid hT
      clear hT
      have hlt' : (k : Int) < (n : Int) := by omega
      go_wp2_with (first | (go_at_call 74; refine Calls.mono (leg_squareThrough r0 r1 r2 r3 (L.getD k default) _ hy.f0 hy.f1) ?_; rintro e w2 ⟨r6, rfl, hr6, hx2⟩; have g2 := Lib.hid (hx2.blk (al_old HG.out)); obtain ⟨u0, e0, z0⟩ := own_cell g2.out HS.out hlt) | (apply upon_fop rfl; (exact hr); (exact hr6); intro r5 n5 hr5; rw [← HT.out] at hr5))
      exact ⟨⟨k + 1, r5, cs.setIfInBounds k (.float .f32 r5), by omega, by go_num, rfl, hr5, blk_set1 (w := World.drewN w2 _) g2.out k _, by rw [Array.size_setIfInBounds]; exact HS.out, pre_setF (F := fun j => sums fsqthru L (j + 1)) (by have := HS.out; omega) HX.out hr5, Ext.set (by repeat (first | assumption | exact Ext.refl _ | apply Ext.drewN | apply Ext.drew | apply Ext.alloc | (refine Ext.trans ?_ (by assumption)) | (refine Ext.set ?_ (by dsimp only; omega) _))) (Nat.le_refl _) _⟩, by simp [intOf]; omega⟩
    · have hkn : k = n := by omega
      subst hkn
      go_wp2_with (fail)
      go_ret
      refine ⟨_, rfl, ⟨cs.toList, ⟨by simp [HS.out], .inr ⟨w.heap.size, k, cs, rfl, Nat.le_refl _, HG.out, Nat.le_refl _, by unfold maxLen; omega, by rw [HS.out]; omega, ?_⟩⟩, ?_⟩, hx⟩
      · rw [List.take_of_length_le]; simp [HS.out]
      · intro j hj
        obtain ⟨r', h1, h2⟩ := HX.out j hj
        exact ⟨r', by simpa using h1, h2⟩
end Go.Proofs.Ytkoiimjpalhgbaa
