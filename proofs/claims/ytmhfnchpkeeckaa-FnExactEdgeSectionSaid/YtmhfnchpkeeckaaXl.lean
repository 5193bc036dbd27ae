/- Contracts: edges of sections, sections made smooth, the program. Condition: the section is read. -/
import Derived.Test.YtmhfnchpkeeckaaXk
import Derived.Test.YtmhfnchpkeeckaaMo3
namespace Go.Proofs.Ytmhfnchpkeeckaa
open Go.RowKit Go.ChangeShapes Go.WideShapes Go.Deep Ieee
set_option linter.unusedVariables false
set_option linter.unusedSimpArgs false

theorem cellF_at {a x z : Nat} (G : Nat → Nat → Option Nat) (h : x < a) : cellF a G (a * z + x) = G x z := by
  have ha : 0 < a := by omega
  unfold cellF
  rw [Nat.mul_add_mod, Nat.mod_eq_of_lt h, Nat.mul_add_div ha, Nat.div_eq_of_lt h, Nat.add_zero]
theorem OwF.nil (w : World) (base : Nat) (F : Nat → Option Nat) : OwF w base (.slice none 0 0) 0 F := ⟨[], ⟨rfl, .inl ⟨rfl, rfl⟩⟩, fun j hj => absurd hj (Nat.not_lt_zero _)⟩
theorem OwF.rowT {w : World} {base n : Nat} {v : Value} {F : Nat → Option Nat} (h : OwF w base v n F) (hn : 0 < n) : ∃ g cap, v = .slice (some ⟨g, 0, none⟩) n cap ∧ n ≤ cap ∧ base ≤ g ∧ OwL w base w.heap.size (some ⟨g, 0, none⟩) n (lst F n) := by
  have h2 := h
  obtain ⟨xs, ⟨_, hd⟩, _⟩ := h.own
  rcases hd with ⟨_, h0⟩ | ⟨g, cap, cur, hv, hb, _, hnc, _⟩
  · omega
  · obtain ⟨A, c, hv2, ho⟩ := h2.owl
    rw [hv] at hv2
    injection hv2 with h3 h4 h5
    subst h3
    exact ⟨g, cap, hv, hnc, hb, ho⟩
set_option maxRecDepth 20000 in
set_option maxHeartbeats 4000000 in
theorem c_EdgeSection1 {w : World} {B g n c a b x z : Nat} {A : Option Addr} {L : List (Option Nat)} (hb : SbAt w g (a : Int) (b : Int) A n c) (hp : RdF w B A n L) (hB : B ≤ w.heap.size) (s4 : 1 ≤ a) (s5 : a ≤ 16) (s6 : 1 ≤ b) (s7 : b ≤ 16) (s8 : a * b = n) (hx16 : x < 16) (hz16 : z < 16) :
    Calls Try.prog 76 #[.int .i64 (x : Int), .int .i64 (z : Int), .pointer (some ⟨g, 0, none⟩)] w fun e w' => ∃ r, e = .returned (.float .f32 r) ∧ Fl .f32 r (fedge L a b x z) ∧ Ext w w' := by
  have ftwo : Fl .f32 1073741824 k32two := Fl.of32 (by decide)
  have HP := Lib.hid hp
  have HB := Lib.hid hb
  obtain ⟨hwx0, hwx1, hwx2, hwx3, hwx4⟩ := wrap_small x hx16
  obtain ⟨hwz0, hwz1, hwz2, hwz3, hwz4⟩ := wrap_small z hz16
  clear hp hb
  go_enter Try.func76, Try.ntmps76
  go_wp2_with (fail)
  refine wp_region_any (by kernel_rfl) ?_
  refine wpAny_mo_go (md := .any) (R := Ext) (w := w) [(0, 6), (1, 7), (2, 8), (3, 9), (4, 10), (5, 11), (6, 12), (7, 13), (8, 14), (9, 15), (10, 16), (11, 17)] [12] (tl := [_]) (S := ?S1_) (by kernel_rfl) (by rfl) (by rfl) Ext.refl ext_tr (ext_drew1 _) ?hS1_ ?go1_
  case hS1_ => intro vs; simp only [putAll, Act.put, List.setIfInBounds_toArray, List.set_cons_zero, List.set_cons_succ]; rfl
  case go1_ =>
  refine mo_fix _ (by rfl) (by rfl) (by intro vs w1 hx_ hd; obtain ⟨l0, l1, l2, _⟩ := HB.out.ext (w' := w1) hx_; go_simp; first | done | rfl) ?_
  refine mo_fix _ (by rfl) (by rfl) (by intro vs w1 hx_ hd; obtain ⟨l0, l1, l2, _⟩ := HB.out.ext (w' := w1) hx_; go_simp; first | done | rfl) ?_
  refine mo_fix _ (by rfl) (by rfl) (by intro vs w1 hx_ hd; obtain ⟨l0, l1, l2, _⟩ := HB.out.ext (w' := w1) hx_; go_simp; first | done | rfl) ?_
  refine mo_fix _ (by rfl) (by rfl) (by intro vs w1 hx_ hd; obtain ⟨l0, l1, l2, _⟩ := HB.out.ext (w' := w1) hx_; have e2 := hd 2 (by kernel_rfl); simp (decide := true) only [factAt, if_true, if_false] at e2; simp only [e2]; go_simp; first | done | rfl) ?_
  refine mo_callF (k := .f32) (by rfl) (by rfl) (by intro vs w1 hx_ hd; obtain ⟨l0, l1, l2, _⟩ := HB.out.ext (w' := w1) hx_; have e0 := hd 0 (by kernel_rfl); have e1 := hd 1 (by kernel_rfl); have e3 := hd 3 (by kernel_rfl); simp (decide := true) only [factAt, if_true, if_false] at e0 e1 e3; simp only [e0, e1, e3]; refine ⟨_, _, by go_simp; first | done | rfl | exact ⟨rfl, rfl⟩, ?_⟩; exact c_nearestValue (HP.out.below (hx_.mono hB)) (Nat.le_trans hB hx_.size) s4 s5 s6 s7 s8 _ _ (cell_small x hx16).1 (cell_small z hz16).2.1) ?_
  refine mo_fix _ (by rfl) (by rfl) (by intro vs w1 hx_ hd; obtain ⟨l0, l1, l2, _⟩ := HB.out.ext (w' := w1) hx_; go_simp; first | done | rfl) ?_
  refine mo_fix _ (by rfl) (by rfl) (by intro vs w1 hx_ hd; obtain ⟨l0, l1, l2, _⟩ := HB.out.ext (w' := w1) hx_; go_simp; first | done | rfl) ?_
  refine mo_fix _ (by rfl) (by rfl) (by intro vs w1 hx_ hd; obtain ⟨l0, l1, l2, _⟩ := HB.out.ext (w' := w1) hx_; go_simp; first | done | rfl) ?_
  refine mo_fix _ (by rfl) (by rfl) (by intro vs w1 hx_ hd; obtain ⟨l0, l1, l2, _⟩ := HB.out.ext (w' := w1) hx_; have e7 := hd 7 (by kernel_rfl); simp (decide := true) only [factAt, if_true, if_false] at e7; simp only [e7]; go_simp; first | done | rfl) ?_
  refine mo_callF (k := .f32) (by rfl) (by rfl) (by intro vs w1 hx_ hd; obtain ⟨l0, l1, l2, _⟩ := HB.out.ext (w' := w1) hx_; have e5 := hd 5 (by kernel_rfl); have e6 := hd 6 (by kernel_rfl); have e8 := hd 8 (by kernel_rfl); simp (decide := true) only [factAt, if_true, if_false] at e5 e6 e8; simp only [e5, e6, e8]; refine ⟨_, _, by go_simp; first | done | rfl | exact ⟨rfl, rfl⟩, ?_⟩; exact c_nearestValue (HP.out.below (hx_.mono hB)) (Nat.le_trans hB hx_.size) s4 s5 s6 s7 s8 _ _ (cell_small x hx16).1 (cell_small z hz16).2.2) ?_
  refine mo_fop (op := .sub) (by rfl) (by rfl) (by rfl) (by intro vs w1 hx_ hd; obtain ⟨l0, l1, l2, _⟩ := HB.out.ext (w' := w1) hx_; have e4 := hd 4 (by kernel_rfl); have e9 := hd 9 (by kernel_rfl); simp (decide := true) only [factAt, if_true, if_false] at e4 e9; obtain ⟨r4, e4, f4⟩ := e4; obtain ⟨r9, e9, f9⟩ := e9; simp only [e4, e9]; exact ⟨_, _, f4, f9, by go_simp; rfl⟩) ?_
  refine mo_fop (op := .quo) (by rfl) (by rfl) (by rfl) (by intro vs w1 hx_ hd; obtain ⟨l0, l1, l2, _⟩ := HB.out.ext (w' := w1) hx_; have e10 := hd 10 (by kernel_rfl); simp (decide := true) only [factAt, if_true, if_false] at e10; obtain ⟨r10, e10, f10⟩ := e10; simp only [e10]; exact ⟨_, _, f10, ftwo, by go_simp; rfl⟩) ?_
  refine mo_end ?_
  intro vs w2 hx2 hd
  have e11 := hd 11 (by kernel_rfl)
  simp (decide := true) only [factAt, if_true, if_false] at e11
  obtain ⟨r, e11, f11⟩ := e11
  rw [fop_half] at f11
  generalize vs 11 = v11 at e11 ⊢
  subst e11
  clear hd
  go_wp2_with (fail)
  go_ret
  exact ⟨_, rfl, f11, hx2⟩
set_option maxRecDepth 20000 in
set_option maxHeartbeats 8000000 in
theorem c_SmoothSection1 {w : World} {B g g2 n c a b x z p : Nat} {P : Option Nat} {A : Option Addr} {L : List (Option Nat)} (hb : SbAt w g (a : Int) (b : Int) A n c) (hs : w.cell? ⟨g2, 0, none⟩ = some (.float .f32 p)) (hs2 : g2 < w.heap.size) (fp : Fl .f32 p P) (hp : RdF w B A n L) (hB : B ≤ w.heap.size) (s4 : 1 ≤ a) (s5 : a ≤ 16) (s6 : 1 ≤ b) (s7 : b ≤ 16) (s8 : a * b = n) (hx16 : x < 16) (hz16 : z < 16) :
    Calls Try.prog 78 #[.int .i64 (x : Int), .int .i64 (z : Int), .pointer (some ⟨g, 0, none⟩), .pointer (some ⟨g2, 0, none⟩)] w fun e w' => ∃ r, e = .returned (.float .f32 r) ∧ Fl .f32 r (fsmooth P L a b x z) ∧ Ext w w' := by
  have ffour : Fl .f32 1082130432 k32four := Fl.of32 (by decide)
  have HP := Lib.hid hp
  have HB := Lib.hid hb
  obtain ⟨hwx0, hwx1, hwx2, hwx3, hwx4⟩ := wrap_small x hx16
  obtain ⟨hwz0, hwz1, hwz2, hwz3, hwz4⟩ := wrap_small z hz16
  clear hp hb
  have HS := Lib.hid hs
  clear hs
  go_enter Try.func78, Try.ntmps78
  go_wp2_with (fail)
  refine wp_region_any (by kernel_rfl) ?_
  refine wpAny_mo_go (md := .any) (R := Ext) (w := w) [(0, 8), (1, 9), (2, 10), (3, 11), (4, 12), (5, 13), (6, 14), (7, 15), (8, 16), (9, 17), (10, 18), (11, 19), (12, 20), (13, 21), (14, 22), (15, 23), (16, 24), (17, 25), (18, 26), (19, 27), (20, 28), (21, 29), (22, 30)] [23] (tl := [_]) (S := ?S2_) (by kernel_rfl) (by rfl) (by rfl) Ext.refl ext_tr (ext_drew1 _) ?hS2_ ?go2_
  case hS2_ => intro vs; simp only [putAll, Act.put, List.setIfInBounds_toArray, List.set_cons_zero, List.set_cons_succ]; rfl
  case go2_ =>
  refine mo_fix _ (by rfl) (by rfl) (by intro vs w1 hx_ hd; obtain ⟨l0, l1, l2, _⟩ := HB.out.ext (w' := w1) hx_; go_simp; first | done | rfl) ?_
  refine mo_fix _ (by rfl) (by rfl) (by intro vs w1 hx_ hd; obtain ⟨l0, l1, l2, _⟩ := HB.out.ext (w' := w1) hx_; go_simp; first | done | rfl) ?_
  refine mo_fix _ (by rfl) (by rfl) (by intro vs w1 hx_ hd; obtain ⟨l0, l1, l2, _⟩ := HB.out.ext (w' := w1) hx_; have e1 := hd 1 (by kernel_rfl); simp (decide := true) only [factAt, if_true, if_false] at e1; simp only [e1]; go_simp; first | done | rfl) ?_
  refine mo_fix _ (by rfl) (by rfl) (by intro vs w1 hx_ hd; obtain ⟨l0, l1, l2, _⟩ := HB.out.ext (w' := w1) hx_; go_simp; first | done | rfl) ?_
  refine mo_callF (k := .f32) (by rfl) (by rfl) (by intro vs w1 hx_ hd; obtain ⟨l0, l1, l2, _⟩ := HB.out.ext (w' := w1) hx_; have e0 := hd 0 (by kernel_rfl); have e2 := hd 2 (by kernel_rfl); have e3 := hd 3 (by kernel_rfl); simp (decide := true) only [factAt, if_true, if_false] at e0 e2 e3; simp only [e0, e2, e3]; refine ⟨_, _, by go_simp; first | done | rfl | exact ⟨rfl, rfl⟩, ?_⟩; exact c_nearestValue (HP.out.below (hx_.mono hB)) (Nat.le_trans hB hx_.size) s4 s5 s6 s7 s8 _ _ (cell_small x hx16).2.2 (cell_small z hz16).1) ?_
  refine mo_fix _ (by rfl) (by rfl) (by intro vs w1 hx_ hd; obtain ⟨l0, l1, l2, _⟩ := HB.out.ext (w' := w1) hx_; go_simp; first | done | rfl) ?_
  refine mo_fix _ (by rfl) (by rfl) (by intro vs w1 hx_ hd; obtain ⟨l0, l1, l2, _⟩ := HB.out.ext (w' := w1) hx_; go_simp; first | done | rfl) ?_
  refine mo_fix _ (by rfl) (by rfl) (by intro vs w1 hx_ hd; obtain ⟨l0, l1, l2, _⟩ := HB.out.ext (w' := w1) hx_; have e6 := hd 6 (by kernel_rfl); simp (decide := true) only [factAt, if_true, if_false] at e6; simp only [e6]; go_simp; first | done | rfl) ?_
  refine mo_fix _ (by rfl) (by rfl) (by intro vs w1 hx_ hd; obtain ⟨l0, l1, l2, _⟩ := HB.out.ext (w' := w1) hx_; go_simp; first | done | rfl) ?_
  refine mo_callF (k := .f32) (by rfl) (by rfl) (by intro vs w1 hx_ hd; obtain ⟨l0, l1, l2, _⟩ := HB.out.ext (w' := w1) hx_; have e5 := hd 5 (by kernel_rfl); have e7 := hd 7 (by kernel_rfl); have e8 := hd 8 (by kernel_rfl); simp (decide := true) only [factAt, if_true, if_false] at e5 e7 e8; simp only [e5, e7, e8]; refine ⟨_, _, by go_simp; first | done | rfl | exact ⟨rfl, rfl⟩, ?_⟩; exact c_nearestValue (HP.out.below (hx_.mono hB)) (Nat.le_trans hB hx_.size) s4 s5 s6 s7 s8 _ _ (cell_small x hx16).2.1 (cell_small z hz16).1) ?_
  refine mo_fop (op := .add) (by rfl) (by rfl) (by rfl) (by intro vs w1 hx_ hd; obtain ⟨l0, l1, l2, _⟩ := HB.out.ext (w' := w1) hx_; have e4 := hd 4 (by kernel_rfl); have e9 := hd 9 (by kernel_rfl); simp (decide := true) only [factAt, if_true, if_false] at e4 e9; obtain ⟨r4, e4, f4⟩ := e4; obtain ⟨r9, e9, f9⟩ := e9; simp only [e4, e9]; exact ⟨_, _, f4, f9, by go_simp; rfl⟩) ?_
  refine mo_fix _ (by rfl) (by rfl) (by intro vs w1 hx_ hd; obtain ⟨l0, l1, l2, _⟩ := HB.out.ext (w' := w1) hx_; go_simp; first | done | rfl) ?_
  refine mo_fix _ (by rfl) (by rfl) (by intro vs w1 hx_ hd; obtain ⟨l0, l1, l2, _⟩ := HB.out.ext (w' := w1) hx_; go_simp; first | done | rfl) ?_
  refine mo_fix _ (by rfl) (by rfl) (by intro vs w1 hx_ hd; obtain ⟨l0, l1, l2, _⟩ := HB.out.ext (w' := w1) hx_; go_simp; first | done | rfl) ?_
  refine mo_fix _ (by rfl) (by rfl) (by intro vs w1 hx_ hd; obtain ⟨l0, l1, l2, _⟩ := HB.out.ext (w' := w1) hx_; have e13 := hd 13 (by kernel_rfl); simp (decide := true) only [factAt, if_true, if_false] at e13; simp only [e13]; go_simp; first | done | rfl) ?_
  refine mo_callF (k := .f32) (by rfl) (by rfl) (by intro vs w1 hx_ hd; obtain ⟨l0, l1, l2, _⟩ := HB.out.ext (w' := w1) hx_; have e11 := hd 11 (by kernel_rfl); have e12 := hd 12 (by kernel_rfl); have e14 := hd 14 (by kernel_rfl); simp (decide := true) only [factAt, if_true, if_false] at e11 e12 e14; simp only [e11, e12, e14]; refine ⟨_, _, by go_simp; first | done | rfl | exact ⟨rfl, rfl⟩, ?_⟩; exact c_nearestValue (HP.out.below (hx_.mono hB)) (Nat.le_trans hB hx_.size) s4 s5 s6 s7 s8 _ _ (cell_small x hx16).1 (cell_small z hz16).2.2) ?_
  refine mo_fop (op := .add) (by rfl) (by rfl) (by rfl) (by intro vs w1 hx_ hd; obtain ⟨l0, l1, l2, _⟩ := HB.out.ext (w' := w1) hx_; have e10 := hd 10 (by kernel_rfl); have e15 := hd 15 (by kernel_rfl); simp (decide := true) only [factAt, if_true, if_false] at e10 e15; obtain ⟨r10, e10, f10⟩ := e10; obtain ⟨r15, e15, f15⟩ := e15; simp only [e10, e15]; exact ⟨_, _, f10, f15, by go_simp; rfl⟩) ?_
  refine mo_fix _ (by rfl) (by rfl) (by intro vs w1 hx_ hd; obtain ⟨l0, l1, l2, _⟩ := HB.out.ext (w' := w1) hx_; go_simp; first | done | rfl) ?_
  refine mo_fix _ (by rfl) (by rfl) (by intro vs w1 hx_ hd; obtain ⟨l0, l1, l2, _⟩ := HB.out.ext (w' := w1) hx_; go_simp; first | done | rfl) ?_
  refine mo_fix _ (by rfl) (by rfl) (by intro vs w1 hx_ hd; obtain ⟨l0, l1, l2, _⟩ := HB.out.ext (w' := w1) hx_; go_simp; first | done | rfl) ?_
  refine mo_fix _ (by rfl) (by rfl) (by intro vs w1 hx_ hd; obtain ⟨l0, l1, l2, _⟩ := HB.out.ext (w' := w1) hx_; have e19 := hd 19 (by kernel_rfl); simp (decide := true) only [factAt, if_true, if_false] at e19; simp only [e19]; go_simp; first | done | rfl) ?_
  refine mo_callF (k := .f32) (by rfl) (by rfl) (by intro vs w1 hx_ hd; obtain ⟨l0, l1, l2, _⟩ := HB.out.ext (w' := w1) hx_; have e17 := hd 17 (by kernel_rfl); have e18 := hd 18 (by kernel_rfl); have e20 := hd 20 (by kernel_rfl); simp (decide := true) only [factAt, if_true, if_false] at e17 e18 e20; simp only [e17, e18, e20]; refine ⟨_, _, by go_simp; first | done | rfl | exact ⟨rfl, rfl⟩, ?_⟩; exact c_nearestValue (HP.out.below (hx_.mono hB)) (Nat.le_trans hB hx_.size) s4 s5 s6 s7 s8 _ _ (cell_small x hx16).1 (cell_small z hz16).2.1) ?_
  refine mo_fop (op := .add) (by rfl) (by rfl) (by rfl) (by intro vs w1 hx_ hd; obtain ⟨l0, l1, l2, _⟩ := HB.out.ext (w' := w1) hx_; have e16 := hd 16 (by kernel_rfl); have e21 := hd 21 (by kernel_rfl); simp (decide := true) only [factAt, if_true, if_false] at e16 e21; obtain ⟨r16, e16, f16⟩ := e16; obtain ⟨r21, e21, f21⟩ := e21; simp only [e16, e21]; exact ⟨_, _, f16, f21, by go_simp; rfl⟩) ?_
  refine mo_end ?_
  intro vs w2 hx2 hd
  have e22 := hd 22 (by kernel_rfl)
  simp (decide := true) only [factAt, if_true, if_false] at e22
  obtain ⟨r7, e22, f7⟩ := e22
  have f7 : Fl .f32 r7 (fround L a b x z) := f7
  generalize vs 22 = v22 at e22 ⊢
  subst e22
  clear hd
  have HB2 := Lib.hid (HB.out.ext hx2)
  have HP2 := Lib.hid (HP.out.below (hx2.mono hB))
  have HS2 := Lib.hid ((hx2.cell (p := ⟨g2, 0, none⟩) hs2).trans HS.out)
  have hB2 : B ≤ w2.heap.size := Nat.le_trans hB hx2.size
  have hs22 : g2 < w2.heap.size := Nat.lt_of_lt_of_le hs2 hx2.size
  go_wp2_with (fail)
  refine wp_region_any (by kernel_rfl) ?_
  refine wpAny_mo_go (md := .any) (R := Ext) (w := w2) [(0, 31), (1, 32), (2, 33), (3, 34), (4, 35), (5, 36), (6, 37), (7, 38), (8, 39), (9, 40), (10, 41), (11, 42)] [12] (tl := [_]) (S := ?S3_) (by kernel_rfl) (by rfl) (by rfl) Ext.refl ext_tr (ext_drew1 _) ?hS3_ ?go3_
  case hS3_ => intro vs; simp only [putAll, Act.put, List.setIfInBounds_toArray, List.set_cons_zero, List.set_cons_succ]; rfl
  case go3_ =>
  refine mo_fix _ (by rfl) (by rfl) (by intro vs w1 hx_ hd; obtain ⟨l0, l1, l2, _⟩ := HB2.out.ext (w' := w1) hx_; have l3 := (hx_.cell (p := ⟨g2, 0, none⟩) hs22).trans HS2.out; go_simp; first | done | rfl) ?_
  refine mo_fop (op := .sub) (by rfl) (by rfl) (by rfl) (by intro vs w1 hx_ hd; have e0 := hd 0 (by kernel_rfl); simp (decide := true) only [factAt, if_true, if_false] at e0; simp only [e0]; exact ⟨_, _, fl_fu, fp, by go_simp; rfl⟩) ?_
  refine mo_fix _ (by rfl) (by rfl) (by intro vs w1 hx_ hd; obtain ⟨l0, l1, l2, _⟩ := HB2.out.ext (w' := w1) hx_; have l3 := (hx_.cell (p := ⟨g2, 0, none⟩) hs22).trans HS2.out; go_simp; first | done | rfl) ?_
  refine mo_fix _ (by rfl) (by rfl) (by intro vs w1 hx_ hd; obtain ⟨l0, l1, l2, _⟩ := HB2.out.ext (w' := w1) hx_; have l3 := (hx_.cell (p := ⟨g2, 0, none⟩) hs22).trans HS2.out; go_simp; first | done | rfl) ?_
  refine mo_fix _ (by rfl) (by rfl) (by intro vs w1 hx_ hd; obtain ⟨l0, l1, l2, _⟩ := HB2.out.ext (w' := w1) hx_; have l3 := (hx_.cell (p := ⟨g2, 0, none⟩) hs22).trans HS2.out; go_simp; first | done | rfl) ?_
  refine mo_callF (k := .f32) (by rfl) (by rfl) (by intro vs w1 hx_ hd; obtain ⟨l0, l1, l2, _⟩ := HB2.out.ext (w' := w1) hx_; have l3 := (hx_.cell (p := ⟨g2, 0, none⟩) hs22).trans HS2.out; have e2 := hd 2 (by kernel_rfl); have e3 := hd 3 (by kernel_rfl); have e4 := hd 4 (by kernel_rfl); simp (decide := true) only [factAt, if_true, if_false] at e2 e3 e4; simp only [e2, e3, e4]; refine ⟨_, _, by go_simp; first | done | rfl | exact ⟨rfl, rfl⟩, ?_⟩; exact c_nearestValue (HP2.out.below (hx_.mono hB2)) (Nat.le_trans hB2 hx_.size) s4 s5 s6 s7 s8 _ _ (cell_small x hx16).1 (cell_small z hz16).1) ?_
  refine mo_callF (k := .f32) (by rfl) (by rfl) (by intro vs w1 hx_ hd; obtain ⟨l0, l1, l2, _⟩ := HB2.out.ext (w' := w1) hx_; have l3 := (hx_.cell (p := ⟨g2, 0, none⟩) hs22).trans HS2.out; have e1 := hd 1 (by kernel_rfl); have e5 := hd 5 (by kernel_rfl); simp (decide := true) only [factAt, if_true, if_false] at e1 e5; obtain ⟨r1, e1, f1⟩ := e1; obtain ⟨r5, e5, f5⟩ := e5; simp only [e1, e5]; refine ⟨_, _, by go_simp; first | done | rfl | exact ⟨rfl, rfl⟩, ?_⟩; exact Calls.mono (c_mulNumbers f1 f5 _) (fun _ _ h => by obtain ⟨r, h1, h2, h3⟩ := h; exact ⟨r, h1, h2, h3.below⟩)) ?_
  refine mo_fix _ (by rfl) (by rfl) (by intro vs w1 hx_ hd; obtain ⟨l0, l1, l2, _⟩ := HB2.out.ext (w' := w1) hx_; have l3 := (hx_.cell (p := ⟨g2, 0, none⟩) hs22).trans HS2.out; go_simp; first | done | rfl) ?_
  refine mo_fix _ (by rfl) (by rfl) (by intro vs w1 hx_ hd; obtain ⟨l0, l1, l2, _⟩ := HB2.out.ext (w' := w1) hx_; have l3 := (hx_.cell (p := ⟨g2, 0, none⟩) hs22).trans HS2.out; go_simp; first | done | rfl) ?_
  refine mo_fop (op := .quo) (by rfl) (by rfl) (by rfl) (by intro vs w1 hx_ hd; have e8 := hd 8 (by kernel_rfl); simp (decide := true) only [factAt, if_true, if_false] at e8; simp only [e8]; exact ⟨_, _, f7, ffour, by go_simp; rfl⟩) ?_
  refine mo_callF (k := .f32) (by rfl) (by rfl) (by intro vs w1 hx_ hd; obtain ⟨l0, l1, l2, _⟩ := HB2.out.ext (w' := w1) hx_; have l3 := (hx_.cell (p := ⟨g2, 0, none⟩) hs22).trans HS2.out; have e7 := hd 7 (by kernel_rfl); have e9 := hd 9 (by kernel_rfl); simp (decide := true) only [factAt, if_true, if_false] at e7 e9; obtain ⟨r9, e9, f9⟩ := e9; simp only [e7, e9]; refine ⟨_, _, by go_simp; first | done | rfl | exact ⟨rfl, rfl⟩, ?_⟩; exact Calls.mono (c_mulNumbers fp f9 _) (fun _ _ h => by obtain ⟨r, h1, h2, h3⟩ := h; exact ⟨r, h1, h2, h3.below⟩)) ?_
  refine mo_fop (op := .add) (by rfl) (by rfl) (by rfl) (by intro vs w1 hx_ hd; obtain ⟨l0, l1, l2, _⟩ := HB2.out.ext (w' := w1) hx_; have l3 := (hx_.cell (p := ⟨g2, 0, none⟩) hs22).trans HS2.out; have e6 := hd 6 (by kernel_rfl); have e10 := hd 10 (by kernel_rfl); simp (decide := true) only [factAt, if_true, if_false] at e6 e10; obtain ⟨r6, e6, f6⟩ := e6; obtain ⟨r10, e10, f10⟩ := e10; simp only [e6, e10]; exact ⟨_, _, f6, f10, by go_simp; rfl⟩) ?_
  refine mo_end ?_
  intro vs w3 hx3 hd
  have e11 := hd 11 (by kernel_rfl)
  simp (decide := true) only [factAt, if_true, if_false] at e11
  obtain ⟨r, e11, f11⟩ := e11
  rw [fop_quart] at f11
  generalize vs 11 = v11 at e11 ⊢
  subst e11
  clear hd
  go_wp2_with (fail)
  go_ret
  exact ⟨_, rfl, f11, hx2.trans hx3⟩
set_option maxRecDepth 20000 in
set_option maxHeartbeats 8000000 in
theorem c_cells_EdgeSection {w : World} {B g c : Nat} {A : Option Addr} {x z : Int} {L : List (Option Nat)} (hb : SbAt w g x z A L.length c) (hp : RdF w B A L.length L) (hB : B ≤ w.heap.size) (hcA : L.length ≤ c) (za : L.length ≤ 1048576) :
    Calls Try.prog 75 #[.agg #[.int .i64 x, .int .i64 z, .slice A L.length c], .func (.func 76) #[] #[.pointer (some ⟨g, 0, none⟩)]] w fun e w' => RetT w e w' (fvT ⟨x, z, L⟩) (outT (fvT ⟨x, z, L⟩) ⟨x, z, lst (cellF x.toNat (fedge L x.toNat z.toNat)) L.length⟩) := by
  obtain ⟨i0, hi, hz0, hz1, hz2⟩ := info_parts info_f32
  obtain ⟨W1, hW1⟩ : ∃ W1, W1 = (w.alloc (.cells #[.int .i64 x, .int .i64 z, .slice A L.length c] 27)).alloc (.cells #[.int .i64 0, .int .i64 0, .slice none 0 0] 27) := ⟨_, rfl⟩
  have hx1 : Ext w W1 := by rw [hW1]; exact (by repeat (first | assumption | exact Ext.refl _ | apply Ext.drewN | apply Ext.drew | apply Ext.alloc | (refine Ext.trans ?_ (by assumption)) | (refine Ext.set ?_ (by dsimp only; omega) _)))
  have HBX : Hid (SbAt W1 w.heap.size x z A L.length c) := Lib.hid (by rw [hW1]; exact SbAt.blk (T := 27) (by repeat (first | (refine al_at ?_ ?_ <;> first | rfl | (simp only [al_size] <;> omega)) | apply al_old)))
  have HZ1 : Hid (W1.heap[w.heap.size + 1]? = some (.cells #[.int .i64 0, .int .i64 0, .slice none 0 0] 27 (0, 0))) := Lib.hid (by rw [hW1]; exact al_at (by simp only [al_size]) rfl)
  have hs1 : W1.heap.size = w.heap.size + 1 + 1 := by rw [hW1]; simp only [al_size]
  have HVS := Lib.hid (fun (W : World) (hx : Ext w W) => c_impl_ValidSection (w := W) (B := B) (S := ⟨x, z, L⟩) ⟨A, c, rfl, hp.below (hx.mono hB), hcA⟩ (Nat.le_trans hB hx.size) za)
  have HP := Lib.hid hp
  have HB := Lib.hid hb
  clear hp hb
  cases hV : fvT ⟨x, z, L⟩
  · go_enter Try.func75, Try.ntmps75
    go_wp2_with (fail)
    rw [← hW1]
    clear hW1
    obtain ⟨p0, p1, p2, _⟩ := HBX.out
    obtain ⟨c0, c1, c2, x0, x1, x2⟩ := three_c HZ1.out
    go_wp2_with (go_at_call 18; refine Calls.mono (HVS.out _ hx1) ?_; rw [hV]; rintro e w1 ⟨rfl, hxa⟩; obtain ⟨c0, c1, c2, x0, x1, x2⟩ := three_c (hxa.blk HZ1.out))
    (try simp only [Exit.inBlock, Exit.then])
    refine bodyPost_ret (results_cellT rfl _ _ (w.heap.size + 1) 27 #[.int .i64 0, .int .i64 0, .slice none 0 0] (0, 0) _ rfl (by repeat (first | exact hxa.blk HZ1.out | exact blk_set1 (blk_set1 (blk_set1 (hxa.blk HZ1.out) 0 _) 1 _) 2 _)) Try.underlying27 rfl (by kernel_rfl)) rfl ?_
    exact retT_no rfl (by repeat (first | assumption | exact Ext.refl _ | apply Ext.drewN | apply Ext.drew | apply Ext.alloc | (refine Ext.trans ?_ (by assumption)) | (refine Ext.set ?_ (by dsimp only; omega) _)))
  have HV := Lib.hid hV
  obtain ⟨a, b, rfl, rfl, s4, s5, s6, s7, s8, e9, e10, e11⟩ := fvT_nat hV
  rw [Int.toNat_natCast, Int.toNat_natCast]
  have S8 := Lib.hid s8
  clear hV s8 e11
  go_enter Try.func75, Try.ntmps75
  go_wp2_with (fail)
  rw [← hW1]
  clear hW1
  obtain ⟨p0, p1, p2, _⟩ := HBX.out
  go_wp2_with (go_at_call 18; refine Calls.mono (HVS.out _ hx1) ?_; rw [HV.out]; rintro e w1 ⟨rfl, hxa⟩; obtain ⟨p0, p1, p2, _⟩ := HBX.out.ext hxa)
  have hwa : Ext w w1 := hx1.trans hxa
  have hsa := hxa.size
  have HCL := Lib.hid (fun (W : World) (hW : Ext w1 W) (x z : Nat) (hx : x < a) (hz : z < b) => c_EdgeSection1 (w := W) (hB := Nat.le_trans hB (hwa.trans hW).size) (hp := HP.out.below ((hwa.trans hW).mono hB)) (hb := HB.out.ext (hwa.trans hW)) (s4 := s4) (s5 := s5) (s6 := s6) (s7 := s7) (s8 := S8.out) (hx16 := Nat.lt_of_lt_of_le hx s5) (hz16 := Nat.lt_of_lt_of_le hz s7))
  go_loopw [6, 15] (fun v y wr => ∃ (zq m : Nat), zq ≤ b ∧ y = .int .i64 zq ∧ m = a * zq ∧ OwF wr w1.heap.size v m (cellF a (fedge L a b)) ∧ Ext w1 wr) (fun _ y _ => b - (intOf y).toNat)
  case atStart => exact ⟨0, 0, Nat.zero_le _, rfl, (Nat.mul_zero a).symm, OwF.nil _ _ _, Ext.refl _⟩
  case round =>
    obtain ⟨zq, m, hzq, rfl, hm, hof, hxr⟩ := hrel
    have HM := Lib.hid hm
    have HOF := Lib.hid hof
    obtain ⟨p0, p1, p2, _⟩ := HBX.out.ext (hxa.trans hxr)
    clear hm hof
    by_cases hlt : zq < b
    · have hlt' : (zq : Int) < (b : Int) := by omega
      go_wp2_with (fail)
      go_loopw [6, 20] (fun v y wi => ∃ (xq m' : Nat), xq ≤ a ∧ y = .int .i64 xq ∧ m' = a * zq + xq ∧ OwF wi w1.heap.size v m' (cellF a (fedge L a b)) ∧ Ext w1 wi) (fun _ y _ => a - (intOf y).toNat)
      case atStart => exact ⟨0, m, Nat.zero_le _, rfl, HM.out, HOF.out, hxr⟩
      case round =>
        obtain ⟨xq, m', hxq, rfl, hm', hof', hxi⟩ := hrel
        have HM' := Lib.hid hm'
        have HOF' := Lib.hid hof'
        clear hof'
        by_cases hltx : xq < a
        · have hltx' : (xq : Int) < (a : Int) := by omega
          have hmn : m' + 1 ≤ L.length := by
            have h5 : a * (zq + 1) ≤ a * b := Nat.mul_le_mul_left a hlt
            rw [Nat.mul_add, Nat.mul_one, S8.out] at h5
            omega
          clear hm'
          go_wp2_with (first | (go_at_call 76; refine Calls.mono (HCL.out _ (by repeat (first | assumption | exact Ext.refl _ | apply Ext.drewN | apply Ext.drew | apply Ext.alloc | (refine Ext.trans ?_ (by assumption)) | (refine Ext.set ?_ (by dsimp only; omega) _))) xq zq hltx hlt) ?_; rintro e w5 ⟨r5, rfl, hr5, hx5⟩; rw [← cellF_at (fedge L a b) hltx, ← HM'.out] at hr5; have hof5 := HOF'.out.ext hx5; obtain ⟨xs, hown, hxs⟩ := id hof5; have HX := Lib.hid hxs; clear hxs) | (at_builtin; refine wpList_append_own _ rfl _ _ 22 rfl w1.heap.size 32 i0 (.float .f32 0) 1 4 Try.underlying22 hi hz0 hz1 hz2 rfl (by decide) _ _ _ rfl (World.ownsRow.alloc (w := w5) hown _) ⟨w5.heap.size, 0, none⟩ 1 1 [.float .f32 r5] rfl rfl ?_ ?_ ?_ ?_ ?_ ?_))
          all_goals first
            | exact one_new (w := w5)
            | (intro u hu; simp at hu; subst hu; rfl)
            | (unfold maxLen; omega)
            | omega
            | (have := (hxi.trans hx5).size; simp; omega)
            | (intro v' w4 hown' hgrow _
               have hl' : xs.length = m' := by have := hown.1; omega
               have hx' : Ext w1 w4 := grown_ext (Ext.alloc (hxi.trans hx5) _) (World.ownsRow.alloc (w := w5) hown _) hgrow
               have HXX := Lib.hid (row_step hl' HX.out hr5)
               clear hown hgrow
               go_wp2_with (fail)
               exact ⟨⟨xq + 1, m' + 1, by omega, by go_num, by rw [HM'.out]; omega, ⟨_, hown', HXX.out⟩, hx'⟩, by simp [intOf]; omega⟩)
        · obtain rfl : xq = a := by omega
          go_wp2_with (fail)
          exact ⟨⟨zq + 1, m', by omega, by go_num, by rw [HM'.out, Nat.mul_add, Nat.mul_one], HOF'.out, hxi⟩, by simp [intOf]; omega⟩
    · obtain rfl : zq = b := by omega
      have hml : m = L.length := by rw [HM.out, S8.out]
      subst hml
      obtain ⟨gq, cap, rfl, hcap, hgq, hoL⟩ := HOF.out.rowT (by omega)
      have hzz := (hxa.trans hxr).blk HZ1.out
      obtain ⟨c0, c1, c2, x0, x1, x2⟩ := three_c hzz
      have HBZ := Lib.hid (fun u0 u1 u2 => blk_set1 (blk_set1 (blk_set1 hzz 0 u0) 1 u1) 2 u2)
      have HOL := Lib.hid hoL
      have hsr := hxr.size
      have hwr : Ext w wr := hwa.trans hxr
      clear hzz hoL
      go_wp2_with (fail)
      (try simp only [Exit.inBlock, Exit.then])
      refine bodyPost_ret (results_cellT rfl _ _ (w.heap.size + 1) 27 #[.int .i64 (a : Int), .int .i64 (zq : Int), .slice (some ⟨gq, 0, none⟩) L.length cap] (0, 0) _ rfl (HBZ.out _ _ _) Try.underlying27 rfl (by kernel_rfl)) rfl ?_
      exact ⟨_, rfl, by
        show OwT _ _ _ _ ⟨(a : Int), (zq : Int), lst (cellF a (fedge L a zq)) L.length⟩
        refine OwT.more (lo := w1.heap.size) (hi := wr.heap.size) ?_ (by omega) (by simp)
        have h0 : OwT wr w1.heap.size wr.heap.size (.agg #[.int .i64 (a : Int), .int .i64 (zq : Int), .slice (some ⟨gq, 0, none⟩) L.length cap]) ⟨(a : Int), (zq : Int), lst (cellF a (fedge L a zq)) L.length⟩ := OwT.of HOL.out hcap
        repeat (first | exact h0 | (refine OwT.setOther ?_ (by left; dsimp only; omega) _)), (by repeat (first | assumption | exact Ext.refl _ | apply Ext.drewN | apply Ext.drew | apply Ext.alloc | (refine Ext.trans ?_ (by assumption)) | (refine Ext.set ?_ (by dsimp only; omega) _)))⟩
set_option maxRecDepth 20000 in
set_option maxHeartbeats 8000000 in
theorem c_cells_SmoothSection {w : World} {B g c : Nat} {A : Option Addr} {x z : Int} {L : List (Option Nat)} (hb : SbAt w g x z A L.length c) (hp : RdF w B A L.length L) (hB : B ≤ w.heap.size) (hcA : L.length ≤ c) (za : L.length ≤ 1048576) {g2 p : Nat} {P : Option Nat} (hs : w.cell? ⟨g2, 0, none⟩ = some (.float .f32 p)) (hs2 : g2 < w.heap.size) (fp : Fl .f32 p P) :
    Calls Try.prog 75 #[.agg #[.int .i64 x, .int .i64 z, .slice A L.length c], .func (.func 78) #[] #[.pointer (some ⟨g, 0, none⟩), .pointer (some ⟨g2, 0, none⟩)]] w fun e w' => RetT w e w' (fvT ⟨x, z, L⟩) (outT (fvT ⟨x, z, L⟩) ⟨x, z, lst (cellF x.toNat (fsmooth P L x.toNat z.toNat)) L.length⟩) := by
  obtain ⟨i0, hi, hz0, hz1, hz2⟩ := info_parts info_f32
  obtain ⟨W1, hW1⟩ : ∃ W1, W1 = (w.alloc (.cells #[.int .i64 x, .int .i64 z, .slice A L.length c] 27)).alloc (.cells #[.int .i64 0, .int .i64 0, .slice none 0 0] 27) := ⟨_, rfl⟩
  have hx1 : Ext w W1 := by rw [hW1]; exact (by repeat (first | assumption | exact Ext.refl _ | apply Ext.drewN | apply Ext.drew | apply Ext.alloc | (refine Ext.trans ?_ (by assumption)) | (refine Ext.set ?_ (by dsimp only; omega) _)))
  have HBX : Hid (SbAt W1 w.heap.size x z A L.length c) := Lib.hid (by rw [hW1]; exact SbAt.blk (T := 27) (by repeat (first | (refine al_at ?_ ?_ <;> first | rfl | (simp only [al_size] <;> omega)) | apply al_old)))
  have HZ1 : Hid (W1.heap[w.heap.size + 1]? = some (.cells #[.int .i64 0, .int .i64 0, .slice none 0 0] 27 (0, 0))) := Lib.hid (by rw [hW1]; exact al_at (by simp only [al_size]) rfl)
  have hs1 : W1.heap.size = w.heap.size + 1 + 1 := by rw [hW1]; simp only [al_size]
  have HVS := Lib.hid (fun (W : World) (hx : Ext w W) => c_impl_ValidSection (w := W) (B := B) (S := ⟨x, z, L⟩) ⟨A, c, rfl, hp.below (hx.mono hB), hcA⟩ (Nat.le_trans hB hx.size) za)
  have HP := Lib.hid hp
  have HB := Lib.hid hb
  clear hp hb
  cases hV : fvT ⟨x, z, L⟩
  · go_enter Try.func75, Try.ntmps75
    go_wp2_with (fail)
    rw [← hW1]
    clear hW1
    obtain ⟨p0, p1, p2, _⟩ := HBX.out
    obtain ⟨c0, c1, c2, x0, x1, x2⟩ := three_c HZ1.out
    go_wp2_with (go_at_call 18; refine Calls.mono (HVS.out _ hx1) ?_; rw [hV]; rintro e w1 ⟨rfl, hxa⟩; obtain ⟨c0, c1, c2, x0, x1, x2⟩ := three_c (hxa.blk HZ1.out))
    (try simp only [Exit.inBlock, Exit.then])
    refine bodyPost_ret (results_cellT rfl _ _ (w.heap.size + 1) 27 #[.int .i64 0, .int .i64 0, .slice none 0 0] (0, 0) _ rfl (by repeat (first | exact hxa.blk HZ1.out | exact blk_set1 (blk_set1 (blk_set1 (hxa.blk HZ1.out) 0 _) 1 _) 2 _)) Try.underlying27 rfl (by kernel_rfl)) rfl ?_
    exact retT_no rfl (by repeat (first | assumption | exact Ext.refl _ | apply Ext.drewN | apply Ext.drew | apply Ext.alloc | (refine Ext.trans ?_ (by assumption)) | (refine Ext.set ?_ (by dsimp only; omega) _)))
  have HV := Lib.hid hV
  obtain ⟨a, b, rfl, rfl, s4, s5, s6, s7, s8, e9, e10, e11⟩ := fvT_nat hV
  rw [Int.toNat_natCast, Int.toNat_natCast]
  have S8 := Lib.hid s8
  clear hV s8 e11
  go_enter Try.func75, Try.ntmps75
  go_wp2_with (fail)
  rw [← hW1]
  clear hW1
  obtain ⟨p0, p1, p2, _⟩ := HBX.out
  go_wp2_with (go_at_call 18; refine Calls.mono (HVS.out _ hx1) ?_; rw [HV.out]; rintro e w1 ⟨rfl, hxa⟩; obtain ⟨p0, p1, p2, _⟩ := HBX.out.ext hxa)
  have hwa : Ext w w1 := hx1.trans hxa
  have hsa := hxa.size
  have HCL := Lib.hid (fun (W : World) (hW : Ext w1 W) (x z : Nat) (hx : x < a) (hz : z < b) => c_SmoothSection1 (w := W) (hB := Nat.le_trans hB (hwa.trans hW).size) (hp := HP.out.below ((hwa.trans hW).mono hB)) (hb := HB.out.ext (hwa.trans hW)) (hs := ((hwa.trans hW).cell (p := ⟨g2, 0, none⟩) hs2).trans hs) (hs2 := Nat.lt_of_lt_of_le hs2 (hwa.trans hW).size) (fp := fp) (s4 := s4) (s5 := s5) (s6 := s6) (s7 := s7) (s8 := S8.out) (hx16 := Nat.lt_of_lt_of_le hx s5) (hz16 := Nat.lt_of_lt_of_le hz s7))
  go_loopw [6, 15] (fun v y wr => ∃ (zq m : Nat), zq ≤ b ∧ y = .int .i64 zq ∧ m = a * zq ∧ OwF wr w1.heap.size v m (cellF a (fsmooth P L a b)) ∧ Ext w1 wr) (fun _ y _ => b - (intOf y).toNat)
  case atStart => exact ⟨0, 0, Nat.zero_le _, rfl, (Nat.mul_zero a).symm, OwF.nil _ _ _, Ext.refl _⟩
  case round =>
    obtain ⟨zq, m, hzq, rfl, hm, hof, hxr⟩ := hrel
    have HM := Lib.hid hm
    have HOF := Lib.hid hof
    obtain ⟨p0, p1, p2, _⟩ := HBX.out.ext (hxa.trans hxr)
    clear hm hof
    by_cases hlt : zq < b
    · have hlt' : (zq : Int) < (b : Int) := by omega
      go_wp2_with (fail)
      go_loopw [6, 20] (fun v y wi => ∃ (xq m' : Nat), xq ≤ a ∧ y = .int .i64 xq ∧ m' = a * zq + xq ∧ OwF wi w1.heap.size v m' (cellF a (fsmooth P L a b)) ∧ Ext w1 wi) (fun _ y _ => a - (intOf y).toNat)
      case atStart => exact ⟨0, m, Nat.zero_le _, rfl, HM.out, HOF.out, hxr⟩
      case round =>
        obtain ⟨xq, m', hxq, rfl, hm', hof', hxi⟩ := hrel
        have HM' := Lib.hid hm'
        have HOF' := Lib.hid hof'
        clear hof'
        by_cases hltx : xq < a
        · have hltx' : (xq : Int) < (a : Int) := by omega
          have hmn : m' + 1 ≤ L.length := by
            have h5 : a * (zq + 1) ≤ a * b := Nat.mul_le_mul_left a hlt
            rw [Nat.mul_add, Nat.mul_one, S8.out] at h5
            omega
          clear hm'
          go_wp2_with (first | (go_at_call 78; refine Calls.mono (HCL.out _ (by repeat (first | assumption | exact Ext.refl _ | apply Ext.drewN | apply Ext.drew | apply Ext.alloc | (refine Ext.trans ?_ (by assumption)) | (refine Ext.set ?_ (by dsimp only; omega) _))) xq zq hltx hlt) ?_; rintro e w5 ⟨r5, rfl, hr5, hx5⟩; rw [← cellF_at (fsmooth P L a b) hltx, ← HM'.out] at hr5; have hof5 := HOF'.out.ext hx5; obtain ⟨xs, hown, hxs⟩ := id hof5; have HX := Lib.hid hxs; clear hxs) | (at_builtin; refine wpList_append_own _ rfl _ _ 22 rfl w1.heap.size 32 i0 (.float .f32 0) 1 4 Try.underlying22 hi hz0 hz1 hz2 rfl (by decide) _ _ _ rfl (World.ownsRow.alloc (w := w5) hown _) ⟨w5.heap.size, 0, none⟩ 1 1 [.float .f32 r5] rfl rfl ?_ ?_ ?_ ?_ ?_ ?_))
          all_goals first
            | exact one_new (w := w5)
            | (intro u hu; simp at hu; subst hu; rfl)
            | (unfold maxLen; omega)
            | omega
            | (have := (hxi.trans hx5).size; simp; omega)
            | (intro v' w4 hown' hgrow _
               have hl' : xs.length = m' := by have := hown.1; omega
               have hx' : Ext w1 w4 := grown_ext (Ext.alloc (hxi.trans hx5) _) (World.ownsRow.alloc (w := w5) hown _) hgrow
               have HXX := Lib.hid (row_step hl' HX.out hr5)
               clear hown hgrow
               go_wp2_with (fail)
               exact ⟨⟨xq + 1, m' + 1, by omega, by go_num, by rw [HM'.out]; omega, ⟨_, hown', HXX.out⟩, hx'⟩, by simp [intOf]; omega⟩)
        · obtain rfl : xq = a := by omega
          go_wp2_with (fail)
          exact ⟨⟨zq + 1, m', by omega, by go_num, by rw [HM'.out, Nat.mul_add, Nat.mul_one], HOF'.out, hxi⟩, by simp [intOf]; omega⟩
    · obtain rfl : zq = b := by omega
      have hml : m = L.length := by rw [HM.out, S8.out]
      subst hml
      obtain ⟨gq, cap, rfl, hcap, hgq, hoL⟩ := HOF.out.rowT (by omega)
      have hzz := (hxa.trans hxr).blk HZ1.out
      obtain ⟨c0, c1, c2, x0, x1, x2⟩ := three_c hzz
      have HBZ := Lib.hid (fun u0 u1 u2 => blk_set1 (blk_set1 (blk_set1 hzz 0 u0) 1 u1) 2 u2)
      have HOL := Lib.hid hoL
      have hsr := hxr.size
      have hwr : Ext w wr := hwa.trans hxr
      clear hzz hoL
      go_wp2_with (fail)
      (try simp only [Exit.inBlock, Exit.then])
      refine bodyPost_ret (results_cellT rfl _ _ (w.heap.size + 1) 27 #[.int .i64 (a : Int), .int .i64 (zq : Int), .slice (some ⟨gq, 0, none⟩) L.length cap] (0, 0) _ rfl (HBZ.out _ _ _) Try.underlying27 rfl (by kernel_rfl)) rfl ?_
      exact ⟨_, rfl, by
        show OwT _ _ _ _ ⟨(a : Int), (zq : Int), lst (cellF a (fsmooth P L a zq)) L.length⟩
        refine OwT.more (lo := w1.heap.size) (hi := wr.heap.size) ?_ (by omega) (by simp)
        have h0 : OwT wr w1.heap.size wr.heap.size (.agg #[.int .i64 (a : Int), .int .i64 (zq : Int), .slice (some ⟨gq, 0, none⟩) L.length cap]) ⟨(a : Int), (zq : Int), lst (cellF a (fsmooth P L a zq)) L.length⟩ := OwT.of HOL.out hcap
        repeat (first | exact h0 | (refine OwT.setOther ?_ (by left; dsimp only; omega) _)), (by repeat (first | assumption | exact Ext.refl _ | apply Ext.drewN | apply Ext.drew | apply Ext.alloc | (refine Ext.trans ?_ (by assumption)) | (refine Ext.set ?_ (by dsimp only; omega) _)))⟩
end Go.Proofs.Ytmhfnchpkeeckaa
