/- Contracts: all waves of a ground, as interface values in a row of their own. Condition: the ground is read. -/
import Derived.Test.YtkoiimjpalhgbabFt
import Derived.Test.YtkoiimjpalhgbabSm
namespace Go.Proofs.Ytkoiimjpalhgbab
open Go.RowKit Ieee

/-- The wave with this number among all: along the surface, then below each layer. -/
def WvAt (n : Nat) (A : Option Addr) (L : List Ly) (S : Option Nat) : Nat → Value → Prop
  | 0, u => ∃ r, u = .iface 113 (.agg #[.float .f32 r]) ∧ Fl .f32 r (fspeed L S 0)
  | j + 1, u => ∃ r, u = .iface 80 (.agg #[.slice A (j + 1) n, .float .f32 r]) ∧ Fl .f32 r (fspeed L S (j + 1))
theorem info_wave : (Try.prog.info? 90).map (fun i => (i.zero, i.size, i.bytes)) = some (some .nilIface, 1, 16) := by kernel_rfl
theorem one_any {w : World} {x : Value} {t : TypeId} : ∀ j u, [x][j]? = some u → (w.alloc (.cells #[x] t)).cell? ((⟨w.heap.size, 0, none⟩ : Addr).add j) = some u := by
  intro j u hj
  match j, hj with
  | 0, hj =>
    simp at hj
    subst hj
    simp [Addr.add]
theorem wv_step {n : Nat} {A : Option Addr} {L : List Ly} {S : Option Nat} {k : Nat} {xs : List Value} {x : Value} (hl : xs.length = k) (h : ∀ j, j < k → ∃ u, xs[j]? = some u ∧ WvAt n A L S j u) (hx : WvAt n A L S k x) :
    ∀ j, j < k + 1 → ∃ u, (xs ++ [x])[j]? = some u ∧ WvAt n A L S j u := by
  intro j hj
  by_cases hjk : j = k
  · subst hjk
    exact ⟨x, by rw [List.getElem?_append_right (by omega), hl]; simp, hx⟩
  · obtain ⟨u, h1, h2⟩ := h j (by omega)
    exact ⟨u, by rw [List.getElem?_append_left (by omega)]; exact h1, h2⟩
theorem own_one (w : World) (x : Value) (t : TypeId) : (w.alloc (.cells #[x] t)).ownsRow w.heap.size t 1 (.slice (some ⟨w.heap.size, 0, none⟩) 1 1) 1 [x] :=
  ⟨rfl, .inr ⟨w.heap.size, 1, #[x], rfl, Nat.le_refl _, heap_alloc_new w _, Nat.le_refl _, by unfold maxLen; omega, rfl, rfl⟩⟩
theorem own_more {w : World} {base base' n size : Nat} {v : Value} {e : TypeId} {xs : List Value} (h : w.ownsRow base e size v n xs) (hb : base' ≤ base) : w.ownsRow base' e size v n xs := by
  refine ⟨h.1, ?_⟩
  rcases h.2 with hn | ⟨g, cap, cur, hv, hb', hrest⟩
  · exact .inl hn
  · exact .inr ⟨g, cap, cur, hv, by omega, hrest⟩
theorem own_ext {w w' : World} {base n size : Nat} {v : Value} {e : TypeId} {xs : List Value} (h : w.ownsRow base e size v n xs) (hx : Ext w w') : w'.ownsRow base e size v n xs := by
  refine ⟨h.1, ?_⟩
  rcases h.2 with hn | ⟨g, cap, cur, hv, hb, hg, hrest⟩
  · exact .inl hn
  · exact .inr ⟨g, cap, cur, hv, hb, hx.blk hg, hrest⟩
set_option linter.unusedSimpArgs false in
set_option maxRecDepth 20000 in
set_option maxHeartbeats 4000000 in
theorem c_wavesOf {w : World} {n s d : Nat} {A : Option Addr} {L : List Ly} {S D : Option Nat} (h : RdL w A n L) (hn : n ≤ 1048576) (fs : Fl .f32 s S) (fd : Fl .f32 d D) (hV : fvalid L S D = true) :
    Calls Try.prog 78 #[.agg #[.slice A n n, .float .f32 s, .float .f32 d]] w fun e w' => ∃ v xs, e = .returned v ∧ w'.ownsRow w.heap.size 90 1 v (n + 1) xs ∧ (∀ j, j < n + 1 → ∃ u, xs[j]? = some u ∧ WvAt n A L S j u) ∧ Ext w w' := by
  have hbox : GpAt (w.alloc (.cells #[.slice A n n, .float .f32 s, .float .f32 d] 31)) w.heap.size A n n s d := GpAt.blk (t := 31) (by repeat (first | (refine al_at ?_ ?_ <;> first | rfl | (simp only [al_size] <;> omega)) | apply al_old))
  obtain ⟨i0, hi, hz0, hz1, hz2⟩ := info_parts info_wave
  have hl := h.len
  have hn1 : 1 ≤ n := by
    have := hV
    unfold fvalid at this
    simp only [Bool.and_eq_true, decide_eq_true_eq] at this
    omega
  obtain ⟨b0, off0, s0, s1, s2, s3, rfl, hb0, hy0⟩ := h.cell (k := 0) (by omega)
  have q1 := hy0.f1
  have hc1 := hy0.c1
  have hn0 : (0 : Int) < (n : Int) := by omega
  have w0 : WvAt n (some ⟨b0, off0, none⟩) L S 0 (.iface 113 (.agg #[.float .f32 s1])) := ⟨s1, rfl, by rw [fspeed_at (by omega)]; exact q1⟩
  have W0 := Lib.hid w0
  clear w0 hl
  go_enter Try.func78, Try.ntmps78
  go_wp2_with (fail)
  go_loopw [3, 18] (fun v i wr => ∃ (k : Nat) (xs : List Value), k ≤ n ∧ i = .int .i64 k ∧ wr.ownsRow (w.heap.size + 1) 90 1 v (k + 1) xs ∧ (∀ j, j < k + 1 → ∃ u, xs[j]? = some u ∧ WvAt n (some ⟨b0, off0, none⟩) L S j u) ∧ Ext (w.alloc (.cells #[.slice (some ⟨b0, off0, none⟩) n n, .float .f32 s, .float .f32 d] 31)) wr) (fun _ i _ => n - (intOf i).toNat)
  case atStart =>
    refine ⟨0, [.iface 113 (.agg #[.float .f32 s1])], Nat.zero_le _, rfl, ?_, fun j hj => ?_, (by repeat (first | assumption | exact Ext.refl _ | apply Ext.drewN | apply Ext.drew | apply Ext.alloc | (refine Ext.trans ?_ (by assumption)) | (refine Ext.set ?_ (by dsimp only; omega) _)))⟩
    · obtain ⟨h1, h2⟩ := own_one (w.alloc (.cells #[.slice (some ⟨b0, off0, none⟩) n n, .float .f32 s, .float .f32 d] 31)) (.iface 113 (.agg #[.float .f32 s1])) 90
      refine ⟨h1, ?_⟩
      rcases h2 with ⟨h2, _⟩ | ⟨g, cap, cur, e1, e2, e3⟩
      · cases h2
      · exact .inr ⟨g, cap, cur, by simpa using e1, by simp at e2; omega, e3⟩
    · obtain rfl : j = 0 := by omega
      exact ⟨_, rfl, W0.out⟩
  case round =>
    obtain ⟨k, xs, hk, rfl, hown, hxs, hx⟩ := hrel
    have HX := Lib.hid hxs
    clear hxs
    have hxw : Ext w wr := Ext.trans (by repeat (first | assumption | exact Ext.refl _ | apply Ext.drewN | apply Ext.drew | apply Ext.alloc | (refine Ext.trans ?_ (by assumption)) | (refine Ext.set ?_ (by dsimp only; omega) _))) hx
    obtain ⟨p0, p1, p2, _⟩ := hbox.ext (w' := wr) hx
    by_cases hlt : k < n
    · have hlt' : (k : Int) < (n : Int) := by omega
      go_wp2_with (first | (go_at_call 74; refine Calls.mono (c_headWaveOf_yes (h.ext (by repeat (first | assumption | exact Ext.refl _ | apply Ext.drewN | apply Ext.drew | apply Ext.alloc | (refine Ext.trans ?_ (by assumption)) | (refine Ext.set ?_ (by dsimp only; omega) _)))) hn fs fd hV (show k + 1 ≤ n by omega)) ?_; rintro e w2 ⟨r2, rfl, hr2, hx2⟩) | (at_builtin; refine wpList_append_own _ rfl _ _ 87 rfl (w.heap.size + 1) 90 i0 .nilIface 1 16 Try.underlying87 hi hz0 hz1 hz2 rfl (by decide) _ _ _ rfl (World.ownsRow.alloc (w := w2.alloc _) (World.ownsRow.alloc (w := w2) (own_ext hown hx2) _) _) ⟨w2.heap.size + 1, 0, none⟩ 1 1 [.iface 80 (.agg #[.slice (some ⟨b0, off0, none⟩) (k + 1) n, .float .f32 r2])] rfl rfl ?_ ?_ ?_ ?_ ?_ ?_))
      all_goals first
        | (intro j u hj; have h9 := one_any (w := w2.alloc (.cells #[.slice (some ⟨b0, off0, none⟩) (k + 1) n, .float .f32 r2] 80)) (t := 90) j u hj; rwa [al_size] at h9)
        | (intro u hu; simp at hu; subst hu; rfl)
        | (unfold maxLen; omega)
        | omega
        | (have := hx.size; have := hx2.size; simp at *; omega)
        | (intro v' w4 hown' hgrow _
           have hl' : xs.length = k + 1 := by have := hown.1; omega
           have hxa : Ext (w.alloc (.cells #[.slice (some ⟨b0, off0, none⟩) n n, .float .f32 s, .float .f32 d] 31)) ((w2.alloc (.cells #[.slice (some ⟨b0, off0, none⟩) (k + 1) n, .float .f32 r2] 80)).alloc (.cells #[.iface 80 (.agg #[.slice (some ⟨b0, off0, none⟩) (k + 1) n, .float .f32 r2])] 90)) := (hx.trans hx2).trans ((Ext.refl _).alloc _ |>.alloc _)
           have hown2 := World.ownsRow.alloc (w := w2.alloc (.cells #[.slice (some ⟨b0, off0, none⟩) (k + 1) n, .float .f32 r2] 80)) (World.ownsRow.alloc (w := w2) (own_ext hown hx2) _) (.cells #[.iface 80 (.agg #[.slice (some ⟨b0, off0, none⟩) (k + 1) n, .float .f32 r2])] 90)
           have hx' := Below.grown hxa hgrow hxa.size (fun q hq => by
             have h9 := (hown2.lt q hq)
             rw [al_size]; exact h9.1)
           have HXX := Lib.hid (wv_step hl' HX.out (x := .iface 80 (.agg #[.slice (some ⟨b0, off0, none⟩) (k + 1) n, .float .f32 r2])) ⟨r2, rfl, hr2⟩)
           clear hown hgrow hx
           go_wp2_with (fail)
           exact ⟨⟨k + 1, _, by omega, by go_num, hown', HXX.out, hx'⟩, by simp [intOf]; omega⟩)
    · have hkn : k = n := by omega
      subst hkn
      go_wp2_with (fail)
      go_ret
      exact ⟨_, xs, rfl, own_more hown (Nat.le_succ _), HX.out, hxw⟩
end Go.Proofs.Ytkoiimjpalhgbab
