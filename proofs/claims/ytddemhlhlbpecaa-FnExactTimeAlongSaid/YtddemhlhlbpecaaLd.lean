/- Lengths of a path in cells, the reference. Condition: the path is one, the parts are few. -/
import Derived.Test.YtddemhlhlbpecaaLc
import Derived.Test.YtddemhlhlbpecaaWc
import Derived.Test.YtddemhlhlbpecaaTn
namespace Go.Proofs.Ytddemhlhlbpecaa
open Go.RowKit Ieee
set_option linter.unusedVariables false
set_option linter.unusedSimpArgs false

/-- The length of a part of a path. -/
def flong (g : Pth) (parts : Nat) : Option Nat := fop .quo .f32 (fsq2 (fop .sub .f32 (fl .f32 g.c) (fl .f32 g.a)) (fop .sub .f32 (fl .f32 g.d) (fl .f32 g.b))) (some (mk parts))
/-- Lengths in cells, after some parts. -/
def flens (pc : Nat → Int) (W : Option Nat) : Nat → Nat → Option Nat
  | 0, _ => fz
  | k + 1, j => if pc k = (j : Int) then fop .add .f32 (flens pc W k j) W else flens pc W k j
theorem flens_on {pc : Nat → Int} {W : Option Nat} {k j : Nat} (h : pc k = (j : Int)) : flens pc W (k + 1) j = fop .add .f32 (flens pc W k j) W := by
  show (if pc k = (j : Int) then _ else _) = _
  rw [if_pos h]
theorem flens_off {pc : Nat → Int} {W : Option Nat} {k j : Nat} (h : pc k ≠ (j : Int)) : flens pc W (k + 1) j = flens pc W k j := by
  show (if pc k = (j : Int) then _ else _) = _
  rw [if_neg h]
theorem pcell_cases {a b n : Nat} (hab : (a : Int) * (b : Int) = (n : Int)) (ha : 1 ≤ a) (x z : Int) : pcell a b x z = -1 ∨ ∃ t : Nat, pcell a b x z = (t : Int) ∧ t < n := by
  unfold pcell
  cases hX : inB x 0 ((a : Int) - 1)
  · exact .inl rfl
  · cases hZ : inB z 0 ((b : Int) - 1)
    · exact .inl rfl
    · obtain ⟨h1, h2⟩ := inB_of hX
      obtain ⟨h3, h4⟩ := inB_of hZ
      have h5 : 0 ≤ (a : Int) * z := Int.mul_nonneg (by omega) h3
      have h6 : (a : Int) * z ≤ (a : Int) * ((b : Int) - 1) := Int.mul_le_mul_of_nonneg_left (by omega) (by omega)
      rw [Int.mul_sub, Int.mul_one, hab] at h6
      refine .inr ⟨(x + a * z).toNat, ?_, ?_⟩
      · simp; omega
      · omega
set_option maxRecDepth 20000 in
set_option maxHeartbeats 8000000 in
theorem c_l06Lengths {w : World} {bx : Nat} {g : Pth} (hb : PbAt w bx g) (hg : g.Ok) (hp : fpath g = true) {a b n : Nat} (ha : 1 ≤ a) (ha2 : a ≤ 16) (hb1 : 1 ≤ b) (hb2 : b ≤ 16) (hab : (a : Int) * (b : Int) = (n : Int)) (hn1 : 1 ≤ n) (hn : n ≤ 256) {parts : Nat} (hpq : 1 ≤ parts) (hpt : parts ≤ 256) :
    Calls Try.prog 62 #[.int .i64 (a : Int), .int .i64 (b : Int), .pointer (some ⟨bx, 0, none⟩), .int .i64 (parts : Int)] w fun e w' => ∃ A2, e = .returned (.slice A2 n n) ∧ OwL w' w.heap.size w'.heap.size A2 n (lst (flens (fun i => pcellOf g a b i parts) (flong g parts) parts) n) ∧ Ext w w' := by
  have hmk := fun W => run_make_row' (P := Try.prog) 25 22 (.float .f32 0) 4 Try.underlying25 info_f32 rfl .i64 .i64 n (by omega) (by omega) W
  have fa : Fl .f32 g.a (fl .f32 g.a) := Fl.of32 hg.a
  have fb : Fl .f32 g.b (fl .f32 g.b) := Fl.of32 hg.b
  have fc : Fl .f32 g.c (fl .f32 g.c) := Fl.of32 hg.c
  have fd : Fl .f32 g.d (fl .f32 g.d) := Fl.of32 hg.d
  have hbl := hb.lt
  have HB := Lib.hid hb
  go_enter Try.func62, Try.ntmps62
  go_wp2_with (fail)
  refine wp_region_any (by kernel_rfl) ?_
  refine wpAny_mo_go (md := .any) (R := Ext) (w := w) [(0, 15), (1, 16), (2, 17), (3, 18), (4, 19), (5, 20), (6, 21), (7, 22), (8, 23)] [9] (tl := [_]) (S := ?S6_) (by kernel_rfl) (by rfl) (by rfl) Ext.refl ext_tr (ext_drew1 _) ?hS6_ ?go6_
  case hS6_ => intro vs; simp only [putAll, Act.put, List.setIfInBounds_toArray, List.set_cons_zero, List.set_cons_succ]; rfl
  case go6_ =>
  refine mo_fix _ (by rfl) (by rfl) (by intro vs w1 hx_ hd; obtain ⟨l0, l1, l2, l3, _⟩ := HB.out.ext (w' := w1) hx_; go_simp; first | done | rfl) ?_
  refine mo_fix _ (by rfl) (by rfl) (by intro vs w1 hx_ hd; obtain ⟨l0, l1, l2, l3, _⟩ := HB.out.ext (w' := w1) hx_; have e0 := hd 0 (by kernel_rfl); simp (decide := true) only [factAt, if_true, if_false] at e0; simp only [e0]; go_simp; first | done | rfl) ?_
  refine mo_fix _ (by rfl) (by rfl) (by intro vs w1 hx_ hd; obtain ⟨l0, l1, l2, l3, _⟩ := HB.out.ext (w' := w1) hx_; have e1 := hd 1 (by kernel_rfl); simp (decide := true) only [factAt, if_true, if_false] at e1; simp only [e1]; go_simp; first | done | rfl) ?_
  refine mo_fix _ (by rfl) (by rfl) (by intro vs w1 hx_ hd; obtain ⟨l0, l1, l2, l3, _⟩ := HB.out.ext (w' := w1) hx_; have e2 := hd 2 (by kernel_rfl); simp (decide := true) only [factAt, if_true, if_false] at e2; simp only [e2]; go_simp; first | done | rfl) ?_
  refine mo_fix _ (by rfl) (by rfl) (by intro vs w1 hx_ hd; obtain ⟨l0, l1, l2, l3, _⟩ := HB.out.ext (w' := w1) hx_; go_simp; first | done | rfl) ?_
  refine mo_fix _ (by rfl) (by rfl) (by intro vs w1 hx_ hd; obtain ⟨l0, l1, l2, l3, _⟩ := HB.out.ext (w' := w1) hx_; have e4 := hd 4 (by kernel_rfl); simp (decide := true) only [factAt, if_true, if_false] at e4; simp only [e4]; go_simp; first | done | rfl) ?_
  refine mo_fix _ (by rfl) (by rfl) (by intro vs w1 hx_ hd; obtain ⟨l0, l1, l2, l3, _⟩ := HB.out.ext (w' := w1) hx_; have e5 := hd 5 (by kernel_rfl); simp (decide := true) only [factAt, if_true, if_false] at e5; simp only [e5]; go_simp; first | done | rfl) ?_
  refine mo_fix _ (by rfl) (by rfl) (by intro vs w1 hx_ hd; obtain ⟨l0, l1, l2, l3, _⟩ := HB.out.ext (w' := w1) hx_; have e6 := hd 6 (by kernel_rfl); simp (decide := true) only [factAt, if_true, if_false] at e6; simp only [e6]; go_simp; first | done | rfl) ?_
  refine mo_fop (op := .sub) (by rfl) (by rfl) (by rfl) (by intro vs w1 hx_ hd; have e3 := hd 3 (by kernel_rfl); have e7 := hd 7 (by kernel_rfl); simp (decide := true) only [factAt, if_true, if_false] at e3 e7; simp only [e3, e7]; exact ⟨_, _, fc, fa, by go_simp; rfl⟩) ?_
  refine mo_end ?_
  intro vs w2 hx2 hd
  have e8 := hd 8 (by kernel_rfl)
  simp (decide := true) only [factAt, if_true, if_false] at e8
  obtain ⟨rx, e8, fx⟩ := e8
  generalize vs 8 = v8 at e8 ⊢
  subst e8
  clear hd
  have HB2 := Lib.hid (HB.out.ext hx2)
  go_wp2_with (fail)
  refine wp_region_any (by kernel_rfl) ?_
  refine wpAny_mo_go (md := .any) (R := Ext) (w := w2) [(0, 24), (1, 25), (2, 26), (3, 27), (4, 28), (5, 29), (6, 30), (7, 31), (8, 32)] [9] (tl := [_]) (S := ?S7_) (by kernel_rfl) (by rfl) (by rfl) Ext.refl ext_tr (ext_drew1 _) ?hS7_ ?go7_
  case hS7_ => intro vs; simp only [putAll, Act.put, List.setIfInBounds_toArray, List.set_cons_zero, List.set_cons_succ]; rfl
  case go7_ =>
  refine mo_fix _ (by rfl) (by rfl) (by intro vs w1 hx_ hd; obtain ⟨l0, l1, l2, l3, _⟩ := HB2.out.ext (w' := w1) hx_; go_simp; first | done | rfl) ?_
  refine mo_fix _ (by rfl) (by rfl) (by intro vs w1 hx_ hd; obtain ⟨l0, l1, l2, l3, _⟩ := HB2.out.ext (w' := w1) hx_; have e0 := hd 0 (by kernel_rfl); simp (decide := true) only [factAt, if_true, if_false] at e0; simp only [e0]; go_simp; first | done | rfl) ?_
  refine mo_fix _ (by rfl) (by rfl) (by intro vs w1 hx_ hd; obtain ⟨l0, l1, l2, l3, _⟩ := HB2.out.ext (w' := w1) hx_; have e1 := hd 1 (by kernel_rfl); simp (decide := true) only [factAt, if_true, if_false] at e1; simp only [e1]; go_simp; first | done | rfl) ?_
  refine mo_fix _ (by rfl) (by rfl) (by intro vs w1 hx_ hd; obtain ⟨l0, l1, l2, l3, _⟩ := HB2.out.ext (w' := w1) hx_; have e2 := hd 2 (by kernel_rfl); simp (decide := true) only [factAt, if_true, if_false] at e2; simp only [e2]; go_simp; first | done | rfl) ?_
  refine mo_fix _ (by rfl) (by rfl) (by intro vs w1 hx_ hd; obtain ⟨l0, l1, l2, l3, _⟩ := HB2.out.ext (w' := w1) hx_; go_simp; first | done | rfl) ?_
  refine mo_fix _ (by rfl) (by rfl) (by intro vs w1 hx_ hd; obtain ⟨l0, l1, l2, l3, _⟩ := HB2.out.ext (w' := w1) hx_; have e4 := hd 4 (by kernel_rfl); simp (decide := true) only [factAt, if_true, if_false] at e4; simp only [e4]; go_simp; first | done | rfl) ?_
  refine mo_fix _ (by rfl) (by rfl) (by intro vs w1 hx_ hd; obtain ⟨l0, l1, l2, l3, _⟩ := HB2.out.ext (w' := w1) hx_; have e5 := hd 5 (by kernel_rfl); simp (decide := true) only [factAt, if_true, if_false] at e5; simp only [e5]; go_simp; first | done | rfl) ?_
  refine mo_fix _ (by rfl) (by rfl) (by intro vs w1 hx_ hd; obtain ⟨l0, l1, l2, l3, _⟩ := HB2.out.ext (w' := w1) hx_; have e6 := hd 6 (by kernel_rfl); simp (decide := true) only [factAt, if_true, if_false] at e6; simp only [e6]; go_simp; first | done | rfl) ?_
  refine mo_fop (op := .sub) (by rfl) (by rfl) (by rfl) (by intro vs w1 hx_ hd; have e3 := hd 3 (by kernel_rfl); have e7 := hd 7 (by kernel_rfl); simp (decide := true) only [factAt, if_true, if_false] at e3 e7; simp only [e3, e7]; exact ⟨_, _, fd, fb, by go_simp; rfl⟩) ?_
  refine mo_end ?_
  intro vs w3 hx3 hd
  have e8 := hd 8 (by kernel_rfl)
  simp (decide := true) only [factAt, if_true, if_false] at e8
  obtain ⟨rz, e8, fz'⟩ := e8
  generalize vs 8 = v8 at e8 ⊢
  subst e8
  clear hd
  have hxz : Ext w w3 := hx2.trans hx3
  have HBw := Lib.hid hb
  clear HB HB2 hx2 hx3
  have HW := Lib.hid (show fop .quo .f32 (froot (fop .add .f32 (fop .mul .f32 (fop .sub .f32 (fl .f32 g.c) (fl .f32 g.a)) (fop .sub .f32 (fl .f32 g.c) (fl .f32 g.a))) (fop .mul .f32 (fop .sub .f32 (fl .f32 g.d) (fl .f32 g.b)) (fop .sub .f32 (fl .f32 g.d) (fl .f32 g.b))))) (some (mk parts)) = flong g parts from rfl)
  go_wp2_with (first | (apply upon_fop rfl; (exact fx); (exact fx); intro r1 n1 hr1) | (apply upon_fop rfl; (exact fz'); (exact fz'); intro r2 n2 hr2) | (apply upon_fop rfl; (exact hr1); (exact hr2); intro r3 n3 hr3) | (go_at_call 122; refine Calls.mono (c_l01Sqrt hr3 _) ?_; rintro e w' ⟨r4, rfl, hr4, n4, rfl⟩) | (apply upon_fop rfl; (exact hr4); (exact fl_mk parts); intro r5 n5 hr5; rw [HW.out] at hr5))
  have hxd : Ext w3 ((w3.drewN (n1 + n2 + n3 + n4 + n5)).alloc (.cells (madeCells #[.float .f32 0] n) 22)) := (by repeat (first | assumption | exact Ext.refl _ | apply Ext.drewN | apply Ext.drew | apply Ext.alloc | (refine Ext.trans ?_ (by assumption)) | (refine Ext.set ?_ (by dsimp only; omega) _)))
  go_loopw [13] (fun y wr => ∃ (k : Nat) (cs : Array Value), k ≤ parts ∧ y = .int .i64 k ∧ wr.heap[w3.heap.size]? = some (.cells cs 22 (0, 0)) ∧ cs.size = n ∧ RowF cs n (flens (fun i => pcellOf g a b i parts) (flong g parts) k) ∧ Ext w3 wr) (fun y _ => parts - (intOf y).toNat)
  case atStart => exact ⟨0, _, Nat.zero_le _, rfl, heap_alloc_new _ _, size_madeCells _ _, RowF.made (fun _ _ => rfl), hxd⟩
  case round =>
    obtain ⟨k, cs, hk, rfl, hgg, hsz, hrow, hx⟩ := hrel
    have HG := Lib.hid hgg
    have HS := Lib.hid hsz
    have HX := Lib.hid hrow
    clear hgg hsz hrow
    by_cases hlt : k < parts
    · have hlt' : (k : Int) < (parts : Int) := by omega
      have hwr : Ext w wr := hxz.trans hx
      have HC := Lib.hid (c_l06Cell (HBw.out.ext hwr) hg hp ha ha2 hb1 hb2 hlt hpt)
      rcases pcell_cases hab ha (flr (falng (fl .f32 g.a) (fl .f32 g.c) (fmid k parts))) (flr (falng (fl .f32 g.b) (fl .f32 g.d) (fmid k parts))) with hpc | ⟨t, hpc, ht⟩
      · have hpc' : pcellOf g a b k parts = -1 := hpc
        have HF : Hid (RowF cs n (flens (fun i => pcellOf g a b i parts) (flong g parts) (k + 1))) := Lib.hid (HX.out.keep (fun j _ => (flens_off (by show pcellOf g a b k parts ≠ _; rw [hpc']; omega)).symm))
        go_wp2_with (go_at_call 123; refine Calls.mono HC.out ?_; rw [hpc']; rintro e w4 ⟨rfl, hx4⟩)
        exact ⟨⟨k + 1, cs, by omega, by go_num, hx4.blk (g := w3.heap.size) HG.out, HS.out, HF.out, hx.trans hx4⟩, by simp [intOf]; omega⟩
      · have hpc' : pcellOf g a b k parts = (t : Int) := hpc
        have ht' : (t : Int) < (n : Int) := by omega
        have HT := Lib.hid (show flens (fun i => pcellOf g a b i parts) (flong g parts) (k + 1) t = fop .add .f32 (flens (fun i => pcellOf g a b i parts) (flong g parts) k t) (flong g parts) from flens_on hpc')
        go_wp2_with (first | (go_at_call 123; refine Calls.mono HC.out ?_; rw [hpc']; rintro e w4 ⟨rfl, hx4⟩; have HG4 := Lib.hid (hx4.blk (g := w3.heap.size) HG.out); obtain ⟨u0, f0, f1, f2⟩ := HX.out.cell HG4.out ht) | (apply upon_fop rfl; (exact f2); (exact hr5); intro r6 n6 hr6; rw [← HT.out] at hr6))
        exact ⟨⟨k + 1, cs.setIfInBounds t (.float .f32 r6), by omega, by go_num, by exact blk_set1 (w := World.drewN w4 _) HG4.out t _, by rw [Array.size_setIfInBounds]; exact HS.out, HX.out.set HS.out hr6 (fun j _ hj => (flens_off (by show pcellOf g a b k parts ≠ _; rw [hpc']; omega)).symm), (by have hx34 : Ext w3 w4 := hx.trans hx4; exact (by repeat (first | assumption | exact Ext.refl _ | apply Ext.drewN | apply Ext.drew | apply Ext.alloc | (refine Ext.trans ?_ (by assumption)) | (refine Ext.set ?_ (by dsimp only; omega) _))))⟩, by simp [intOf]; omega⟩
    · obtain rfl : k = parts := by omega
      have ho5 := HX.out.lst HG.out HS.out
      go_wp2_with (fail)
      go_ret
      exact ⟨_, rfl, ho5.more hxz.size (Nat.le_refl _), hxz.trans hx⟩
end Go.Proofs.Ytddemhlhlbpecaa
