/- Paths: four floats; copied by the laws; whether they are paths, on both sides. No condition. -/
import Derived.Test.YtddemhlhlbpecaaYa
import Derived.Test.YtddemhlhlbpecaaTz
import Derived.Test.YtddemhlhlbpecaaYo
namespace Go.Proofs.Ytddemhlhlbpecaa
open Go.RowKit Go.ChangeShapes Go.WideShapes Go.Deep Ieee
set_option linter.unusedVariables false
set_option linter.unusedSimpArgs false

/-- A path: the bits of its four numbers. -/
structure Pth where
  a : Nat
  b : Nat
  c : Nat
  d : Nat
def Pth.val (g : Pth) : Value := .agg #[.float .f32 g.a, .float .f32 g.b, .float .f32 g.c, .float .f32 g.d]
structure Pth.Ok (g : Pth) : Prop where
  a : g.a < 4294967296
  b : g.b < 4294967296
  c : g.c < 4294967296
  d : g.d < 4294967296
/-- A path in a box of its own. -/
structure PbAt (w : World) (bx : Nat) (g : Pth) : Prop where
  p0 : w.cell? ⟨bx, 0, none⟩ = some (.float .f32 g.a)
  p1 : w.cell? ⟨bx, 1, none⟩ = some (.float .f32 g.b)
  p2 : w.cell? ⟨bx, 2, none⟩ = some (.float .f32 g.c)
  p3 : w.cell? ⟨bx, 3, none⟩ = some (.float .f32 g.d)
  lt : bx < w.heap.size
theorem PbAt.blk {w : World} {bx : Nat} {T : TypeId} {g : Pth} (hg : w.heap[bx]? = some (.cells #[.float .f32 g.a, .float .f32 g.b, .float .f32 g.c, .float .f32 g.d] T (0, 0))) : PbAt w bx g :=
  ⟨by rw [cell_of_row w bx _ _ _ (0, 0) hg]; rfl, by rw [cell_of_row w bx _ _ _ (0, 0) hg]; rfl, by rw [cell_of_row w bx _ _ _ (0, 0) hg]; rfl, by rw [cell_of_row w bx _ _ _ (0, 0) hg]; rfl, blk_lt hg⟩
theorem PbAt.ext {w w' : World} {bx : Nat} {g : Pth} (h : PbAt w bx g) (hx : Ext w w') : PbAt w' bx g :=
  ⟨(hx.cell h.lt).trans h.p0, (hx.cell h.lt).trans h.p1, (hx.cell h.lt).trans h.p2, (hx.cell h.lt).trans h.p3, Nat.lt_of_lt_of_le h.lt hx.size⟩
theorem PbAt.drewN {w : World} {bx : Nat} {g : Pth} (h : PbAt w bx g) (m : Nat) : PbAt (w.drewN m) bx g := ⟨h.p0, h.p1, h.p2, h.p3, h.lt⟩
theorem PbAt.kb {w w' : World} {lo hi bx : Nat} {g : Pth} (h : PbAt w bx g) (hk : Kb lo hi w w') (hb : bx < lo ∨ hi ≤ bx) : PbAt w' bx g := by
  have hblk : w'.heap[bx]? = w.heap[bx]? := by
    rcases hb with h1 | h1
    · exact hk.below.block bx h1
    · exact hk.above bx h1 h.lt
  have hc : ∀ i, w'.cell? ⟨bx, i, none⟩ = w.cell? ⟨bx, i, none⟩ := fun i => World.cell?_of_block hblk
  exact ⟨(hc 0).trans h.p0, (hc 1).trans h.p1, (hc 2).trans h.p2, (hc 3).trans h.p3, Nat.lt_of_lt_of_le h.lt hk.below.size⟩
theorem four_c {w : World} {g : Nat} {v0 v1 v2 v3 : Value} {t : TypeId} (hg : w.heap[g]? = some (.cells #[v0, v1, v2, v3] t (0, 0))) :
    w.cell? ⟨g, 0, none⟩ = some v0 ∧ w.cell? ⟨g, 1, none⟩ = some v1 ∧ w.cell? ⟨g, 2, none⟩ = some v2 ∧ w.cell? ⟨g, 3, none⟩ = some v3 ∧ w.frozen? ⟨g, 0, none⟩ = false ∧ w.frozen? ⟨g, 1, none⟩ = false ∧ w.frozen? ⟨g, 2, none⟩ = false ∧ w.frozen? ⟨g, 3, none⟩ = false := by
  refine ⟨?_, ?_, ?_, ?_, ?_, ?_, ?_, ?_⟩
  all_goals first | (rw [cell_of_row w g _ _ _ (0, 0) hg]; rfl) | simp [World.frozen?, hg]
set_option maxRecDepth 20000 in
set_option maxHeartbeats 1000000 in
theorem c_toPath {w : World} {g : Pth} (hg : g.Ok) : Calls Try.prog 16 #[g.val] w fun e w' => e = .returned g.val ∧ Ext w w' := by
  obtain ⟨a, b, c, d⟩ := g
  unfold Pth.val
  dsimp only
  go_enter Try.func16, Try.ntmps16
  go_wp2_with (fail)
  (try simp only [Exit.inBlock, Exit.then])
  refine bodyPost_ret (results_cell_row rfl _ _ (w.heap.size + 1) 28 #[.float .f32 a, .float .f32 b, .float .f32 c, .float .f32 d] (0, 0) _ rfl (by first | exact al_old (al_at (al_size _ _).symm rfl) | exact al_at (al_size _ _).symm rfl) Try.underlying28 rfl (by kernel_rfl)) rfl ?_
  exact ⟨rfl, (by repeat (first | assumption | exact Ext.refl _ | apply Ext.drewN | apply Ext.drew | apply Ext.alloc | (refine Ext.trans ?_ (by assumption)) | (refine Ext.set ?_ (by dsimp only; omega) _)))⟩
def m1000 : Option Nat := fl .f32 3296329728
def p1000 : Option Nat := fl .f32 1148846080
/-- A number of a path. -/
def fplace (X : Option Nat) : Bool := fge32 X m1000 && fle32 X p1000
theorem fl_m1000 : Fl .f32 3296329728 m1000 := Fl.of32 (by decide)
theorem fl_p1000 : Fl .f32 1148846080 p1000 := Fl.of32 (by decide)
set_option maxRecDepth 20000 in
set_option maxHeartbeats 400000 in
theorem c_l06Place {r : Nat} {X : Option Nat} (h : Fl .f32 r X) (w : World) : Calls Try.prog 121 #[.float .f32 r] w fun e w' => e = .returned (.bool (fplace X)) ∧ w' = w := by
  have h1 := h.oge fl_m1000
  have h2 := h.ole fl_p1000
  unfold fplace
  cases hA : fge32 X m1000
  · rw [hA] at h1
    go_enter Try.func121, Try.ntmps121
    go_wp2_with (fail)
    go_ret
    exact ⟨rfl, rfl⟩
  · rw [hA] at h1
    rw [Bool.true_and]
    cases hB : fle32 X p1000
    all_goals
      rw [hB] at h2
      go_enter Try.func121, Try.ntmps121
      go_wp2_with (fail)
      go_ret
      exact ⟨rfl, rfl⟩
set_option maxRecDepth 20000 in
set_option maxHeartbeats 400000 in
theorem c_isEnd {r : Nat} {X : Option Nat} (h : Fl .f32 r X) (w : World) : Calls Try.prog 124 #[.float .f32 r] w fun e w' => e = .returned (.bool (fplace X)) ∧ w' = w := by
  have h1 := fl_m1000.ole h
  rw [fle_ge] at h1
  have h2 := h.ole fl_p1000
  unfold fplace
  cases hA : fge32 X m1000
  · rw [hA] at h1
    go_enter Try.func124, Try.ntmps124
    go_wp2_with (fail)
    go_ret
    exact ⟨rfl, rfl⟩
  · rw [hA] at h1
    rw [Bool.true_and]
    cases hB : fle32 X p1000
    all_goals
      rw [hB] at h2
      go_enter Try.func124, Try.ntmps124
      go_wp2_with (fail)
      go_ret
      exact ⟨rfl, rfl⟩
/-- A path is one. -/
def fpath (g : Pth) : Bool := fplace (fl .f32 g.a) && (fplace (fl .f32 g.b) && (fplace (fl .f32 g.c) && fplace (fl .f32 g.d)))
set_option maxRecDepth 20000 in
set_option maxHeartbeats 4000000 in
theorem c_l06Path {w : World} {bx : Nat} {g : Pth} (hb : PbAt w bx g) (hg : g.Ok) : Calls Try.prog 60 #[.pointer (some ⟨bx, 0, none⟩)] w fun e w' => e = .returned (.bool (fpath g)) ∧ Dr w w' := by
  obtain ⟨p0, p1, p2, p3, _⟩ := hb
  have cA := fun W => c_l06Place (Fl.of32 hg.a) W
  have cB := fun W => c_l06Place (Fl.of32 hg.b) W
  have cC := fun W => c_l06Place (Fl.of32 hg.c) W
  have cD := fun W => c_l06Place (Fl.of32 hg.d) W
  unfold fpath
  cases ha : fplace (fl .f32 g.a)
  case false =>
    rw [ha] at cA
    rw [Bool.false_and]
    go_enter Try.func60, Try.ntmps60
    go_wp2_with (first | (go_at_call_of 121 g.a; refine Calls.mono (cA _) ?_; rintro e wa ⟨rfl, rfl⟩) | (go_at_call_of 121 g.b; refine Calls.mono (cB _) ?_; rintro e wb ⟨rfl, rfl⟩) | (go_at_call_of 121 g.c; refine Calls.mono (cC _) ?_; rintro e wc ⟨rfl, rfl⟩) | (go_at_call_of 121 g.d; refine Calls.mono (cD _) ?_; rintro e wd ⟨rfl, rfl⟩))
    go_ret
    exact ⟨rfl, 0, rfl⟩
  rw [ha] at cA
  rw [Bool.true_and]
  cases hb : fplace (fl .f32 g.b)
  case false =>
    rw [hb] at cB
    rw [Bool.false_and]
    go_enter Try.func60, Try.ntmps60
    go_wp2_with (first | (go_at_call_of 121 g.a; refine Calls.mono (cA _) ?_; rintro e wa ⟨rfl, rfl⟩) | (go_at_call_of 121 g.b; refine Calls.mono (cB _) ?_; rintro e wb ⟨rfl, rfl⟩) | (go_at_call_of 121 g.c; refine Calls.mono (cC _) ?_; rintro e wc ⟨rfl, rfl⟩) | (go_at_call_of 121 g.d; refine Calls.mono (cD _) ?_; rintro e wd ⟨rfl, rfl⟩))
    go_ret
    exact ⟨rfl, 0, rfl⟩
  rw [hb] at cB
  rw [Bool.true_and]
  cases hc : fplace (fl .f32 g.c)
  case false =>
    rw [hc] at cC
    rw [Bool.false_and]
    go_enter Try.func60, Try.ntmps60
    go_wp2_with (first | (go_at_call_of 121 g.a; refine Calls.mono (cA _) ?_; rintro e wa ⟨rfl, rfl⟩) | (go_at_call_of 121 g.b; refine Calls.mono (cB _) ?_; rintro e wb ⟨rfl, rfl⟩) | (go_at_call_of 121 g.c; refine Calls.mono (cC _) ?_; rintro e wc ⟨rfl, rfl⟩) | (go_at_call_of 121 g.d; refine Calls.mono (cD _) ?_; rintro e wd ⟨rfl, rfl⟩))
    go_ret
    exact ⟨rfl, 0, rfl⟩
  rw [hc] at cC
  rw [Bool.true_and]
  cases hd : fplace (fl .f32 g.d)
  all_goals
    rw [hd] at cD
    go_enter Try.func60, Try.ntmps60
    go_wp2_with (first | (go_at_call_of 121 g.a; refine Calls.mono (cA _) ?_; rintro e wa ⟨rfl, rfl⟩) | (go_at_call_of 121 g.b; refine Calls.mono (cB _) ?_; rintro e wb ⟨rfl, rfl⟩) | (go_at_call_of 121 g.c; refine Calls.mono (cC _) ?_; rintro e wc ⟨rfl, rfl⟩) | (go_at_call_of 121 g.d; refine Calls.mono (cD _) ?_; rintro e wd ⟨rfl, rfl⟩))
    go_ret
    exact ⟨rfl, 0, rfl⟩
set_option maxRecDepth 20000 in
set_option maxHeartbeats 4000000 in
theorem c_impl_IsPath {w : World} {g : Pth} (hg : g.Ok) : Calls Try.prog 64 #[g.val] w fun e w' => e = .returned (.bool (fpath g)) ∧ Ext w w' := by
  have hbox : PbAt (w.alloc (.cells #[.float .f32 g.a, .float .f32 g.b, .float .f32 g.c, .float .f32 g.d] 28)) w.heap.size g := PbAt.blk (T := 28) (by repeat (first | (refine al_at ?_ ?_ <;> first | rfl | (simp only [al_size] <;> omega)) | apply al_old))
  obtain ⟨p0, p1, p2, p3, _⟩ := hbox
  unfold Pth.val
  have cA := fun W => c_isEnd (Fl.of32 hg.a) W
  have cB := fun W => c_isEnd (Fl.of32 hg.b) W
  have cC := fun W => c_isEnd (Fl.of32 hg.c) W
  have cD := fun W => c_isEnd (Fl.of32 hg.d) W
  unfold fpath
  cases ha : fplace (fl .f32 g.a)
  case false =>
    rw [ha] at cA
    rw [Bool.false_and]
    go_enter Try.func64, Try.ntmps64
    go_wp2_with (first | (go_at_call_of 124 g.a; refine Calls.mono (cA _) ?_; rintro e wa ⟨rfl, rfl⟩) | (go_at_call_of 124 g.b; refine Calls.mono (cB _) ?_; rintro e wb ⟨rfl, rfl⟩) | (go_at_call_of 124 g.c; refine Calls.mono (cC _) ?_; rintro e wc ⟨rfl, rfl⟩) | (go_at_call_of 124 g.d; refine Calls.mono (cD _) ?_; rintro e wd ⟨rfl, rfl⟩))
    go_ret
    exact ⟨rfl, (by repeat (first | assumption | exact Ext.refl _ | apply Ext.drewN | apply Ext.drew | apply Ext.alloc | (refine Ext.trans ?_ (by assumption)) | (refine Ext.set ?_ (by dsimp only; omega) _)))⟩
  rw [ha] at cA
  rw [Bool.true_and]
  cases hb : fplace (fl .f32 g.b)
  case false =>
    rw [hb] at cB
    rw [Bool.false_and]
    go_enter Try.func64, Try.ntmps64
    go_wp2_with (first | (go_at_call_of 124 g.a; refine Calls.mono (cA _) ?_; rintro e wa ⟨rfl, rfl⟩) | (go_at_call_of 124 g.b; refine Calls.mono (cB _) ?_; rintro e wb ⟨rfl, rfl⟩) | (go_at_call_of 124 g.c; refine Calls.mono (cC _) ?_; rintro e wc ⟨rfl, rfl⟩) | (go_at_call_of 124 g.d; refine Calls.mono (cD _) ?_; rintro e wd ⟨rfl, rfl⟩))
    go_ret
    exact ⟨rfl, (by repeat (first | assumption | exact Ext.refl _ | apply Ext.drewN | apply Ext.drew | apply Ext.alloc | (refine Ext.trans ?_ (by assumption)) | (refine Ext.set ?_ (by dsimp only; omega) _)))⟩
  rw [hb] at cB
  rw [Bool.true_and]
  cases hc : fplace (fl .f32 g.c)
  case false =>
    rw [hc] at cC
    rw [Bool.false_and]
    go_enter Try.func64, Try.ntmps64
    go_wp2_with (first | (go_at_call_of 124 g.a; refine Calls.mono (cA _) ?_; rintro e wa ⟨rfl, rfl⟩) | (go_at_call_of 124 g.b; refine Calls.mono (cB _) ?_; rintro e wb ⟨rfl, rfl⟩) | (go_at_call_of 124 g.c; refine Calls.mono (cC _) ?_; rintro e wc ⟨rfl, rfl⟩) | (go_at_call_of 124 g.d; refine Calls.mono (cD _) ?_; rintro e wd ⟨rfl, rfl⟩))
    go_ret
    exact ⟨rfl, (by repeat (first | assumption | exact Ext.refl _ | apply Ext.drewN | apply Ext.drew | apply Ext.alloc | (refine Ext.trans ?_ (by assumption)) | (refine Ext.set ?_ (by dsimp only; omega) _)))⟩
  rw [hc] at cC
  rw [Bool.true_and]
  cases hd : fplace (fl .f32 g.d)
  all_goals
    rw [hd] at cD
    go_enter Try.func64, Try.ntmps64
    go_wp2_with (first | (go_at_call_of 124 g.a; refine Calls.mono (cA _) ?_; rintro e wa ⟨rfl, rfl⟩) | (go_at_call_of 124 g.b; refine Calls.mono (cB _) ?_; rintro e wb ⟨rfl, rfl⟩) | (go_at_call_of 124 g.c; refine Calls.mono (cC _) ?_; rintro e wc ⟨rfl, rfl⟩) | (go_at_call_of 124 g.d; refine Calls.mono (cD _) ?_; rintro e wd ⟨rfl, rfl⟩))
    go_ret
    exact ⟨rfl, (by repeat (first | assumption | exact Ext.refl _ | apply Ext.drewN | apply Ext.drew | apply Ext.alloc | (refine Ext.trans ?_ (by assumption)) | (refine Ext.set ?_ (by dsimp only; omega) _)))⟩
set_option maxRecDepth 20000 in
/-- A PATH AMONG THE ARGUMENTS. -/
theorem open_path {H : Type} {enc : TypeId × Value → H} {b0 : Nat} {r : Reach} {u : Value} {d : DataW H} {ps : List MemPlace} {w : World} (hval : Value.okWide Try.prog w r b0 24 u)
    (hd : DataW.Trod enc Try.prog w 0 (fun _ => true) true 24 u d ps) : ∃ g : Pth, u = g.val ∧ g.Ok := by
  obtain ⟨v0, v1, v2, v3, y0, y1, y2, y3, n, rfl, _, _, g0, g1, g2, g3⟩ := Go.Joins.open_agg4 Try.underlying24 (by kernel_rfl) (by kernel_rfl) hval hd
  obtain ⟨b0, rfl, w0⟩ := trod_float_cell Try.underlying22 g0
  obtain ⟨b1, rfl, w1⟩ := trod_float_cell Try.underlying22 g1
  obtain ⟨b2, rfl, w2⟩ := trod_float_cell Try.underlying22 g2
  obtain ⟨b3, rfl, w3⟩ := trod_float_cell Try.underlying22 g3
  exact ⟨⟨b0, b1, b2, b3⟩, rfl, ⟨wf32 w0, wf32 w1, wf32 w2, wf32 w3⟩⟩
end Go.Proofs.Ytddemhlhlbpecaa
