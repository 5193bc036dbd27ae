/- Cells on a path, the program. Condition: the path is one, the parts are few. -/
import Derived.Test.YtddemhlhlbpecaaLd
namespace Go.Proofs.Ytddemhlhlbpecaa
open Go.RowKit Ieee
set_option linter.unusedVariables false
set_option linter.unusedSimpArgs false

/-- The cells of the first parts, in order. -/
def pcs (pc : Nat → Int) : Nat → List Nat
  | 0 => []
  | k + 1 => if 0 ≤ pc k then pcs pc k ++ [(pc k).toNat] else pcs pc k
theorem pcs_on {pc : Nat → Int} {k t : Nat} (h : pc k = (t : Int)) : pcs pc (k + 1) = pcs pc k ++ [t] := by
  show (if 0 ≤ pc k then _ else _) = _
  rw [h, if_pos (by omega)]; rfl
theorem pcs_off {pc : Nat → Int} {k : Nat} (h : pc k = -1) : pcs pc (k + 1) = pcs pc k := by
  show (if 0 ≤ pc k then _ else _) = _
  rw [h, if_neg (by omega)]
theorem pcs_len (pc : Nat → Int) (k : Nat) : (pcs pc k).length ≤ k := by
  induction k with
  | zero => exact Nat.le_refl _
  | succ k ih =>
    show (if 0 ≤ pc k then _ else _ : List Nat).length ≤ _
    split
    · rw [List.length_append]; simp; omega
    · omega
/-- Lengths in cells, cell by cell. -/
def alens (W : Option Nat) (C : List Nat) (j : Nat) : Option Nat := C.foldl (fun s t => if t = j then fop .add .f32 s W else s) fz
theorem alens_snoc (W : Option Nat) (C : List Nat) (t j : Nat) : alens W (C ++ [t]) j = if t = j then fop .add .f32 (alens W C j) W else alens W C j := by
  unfold alens; rw [List.foldl_append]; rfl
theorem alens_flens {pc : Nat → Int} (W : Option Nat) (hpc : ∀ k, pc k = -1 ∨ ∃ t : Nat, pc k = (t : Int)) (k j : Nat) : alens W (pcs pc k) j = flens pc W k j := by
  induction k with
  | zero => rfl
  | succ k ih =>
    rcases hpc k with h | ⟨t, h⟩
    · rw [pcs_off h, flens_off (by rw [h]; omega), ih]
    · rw [pcs_on h, alens_snoc]
      by_cases htj : t = j
      · subst htj
        rw [if_pos rfl, flens_on h, ih]
      · rw [if_neg htj, flens_off (by rw [h]; omega), ih]
/-- The values of cells. -/
def ivals (C : List Nat) : List Value := C.map fun (t : Nat) => .int .i64 (t : Int)
theorem ivals_len (C : List Nat) : (ivals C).length = C.length := by simp [ivals]
theorem ivals_snoc (C : List Nat) (t : Nat) : ivals C ++ [.int .i64 (t : Int)] = ivals (C ++ [t]) := by simp [ivals]
theorem info_int64 : (Try.prog.info? 2).map (fun i => (i.zero, i.size, i.bytes)) = some (some (.int .i64 0), 1, 8) := by kernel_rfl
theorem one_newint {w : World} {r : Int} : ∀ j u, [Value.int .i64 r][j]? = some u → (w.alloc (.cells #[.int .i64 r] 2)).cell? ((⟨w.heap.size, 0, none⟩ : Addr).add j) = some u := by
  intro j u hj
  match j, hj with
  | 0, hj =>
    simp at hj
    subst hj
    show (w.alloc _).cell? ⟨w.heap.size, 0 + 0, none⟩ = _
    rw [cell_of_row _ w.heap.size (0 + 0) #[.int .i64 r] 2 (0, 0) (heap_alloc_new w _)]
    rfl
  | j + 1, hj => simp at hj
theorem ownsRow_ext {w w' : World} {lo n s : Nat} {e : TypeId} {v : Value} {xs : List Value} (h : w.ownsRow lo e s v n xs) (hx : Ext w w') : w'.ownsRow lo e s v n xs := by
  refine ⟨h.1, ?_⟩
  rcases h.2 with h1 | ⟨g, cap, cur, hv, hb, hg, r⟩
  · exact .inl h1
  · exact .inr ⟨g, cap, cur, hv, hb, hx.blk hg, r⟩
theorem ownsRow_low {w : World} {lo lo' n s : Nat} {e : TypeId} {v : Value} {xs : List Value} (h : w.ownsRow lo e s v n xs) (hl : lo' ≤ lo) : w.ownsRow lo' e s v n xs := by
  refine ⟨h.1, ?_⟩
  rcases h.2 with h1 | ⟨g, cap, cur, hv, hb, r⟩
  · exact .inl h1
  · exact .inr ⟨g, cap, cur, hv, Nat.le_trans hl hb, r⟩
set_option maxRecDepth 20000 in
set_option maxHeartbeats 1000000 in
theorem c_isCellP (x z i k : Int) (w : World) : Calls Try.prog 159 #[.int .i64 x, .int .i64 z, .int .i64 i, .int .i64 k] w fun e w' => e = .returned (.bool (inB i 0 (x - 1) && inB k 0 (z - 1))) ∧ w' = w := by
  by_cases h1 : 0 ≤ i
  · by_cases h2 : i < x
    · rw [inB_yes h1 (by omega), Bool.true_and]
      by_cases h3 : 0 ≤ k
      · by_cases h4 : k < z
        · rw [inB_yes h3 (by omega)]
          go_enter Try.func159, Try.ntmps159
          go_wp2_with (fail)
          go_ret
          exact ⟨rfl, rfl⟩
        · rw [inB_hi (by omega)]
          go_enter Try.func159, Try.ntmps159
          go_wp2_with (fail)
          go_ret
          exact ⟨rfl, rfl⟩
      · rw [inB_lo (by omega)]
        go_enter Try.func159, Try.ntmps159
        go_wp2_with (fail)
        go_ret
        exact ⟨rfl, rfl⟩
    · rw [inB_hi (by omega), Bool.false_and]
      go_enter Try.func159, Try.ntmps159
      go_wp2_with (fail)
      go_ret
      exact ⟨rfl, rfl⟩
  · rw [inB_lo (by omega), Bool.false_and]
    go_enter Try.func159, Try.ntmps159
    go_wp2_with (fail)
    go_ret
    exact ⟨rfl, rfl⟩
set_option maxRecDepth 20000 in
set_option maxHeartbeats 8000000 in
theorem c_cellsOn {w : World} {p1 p2 p3 p4 : Nat} (hg : Pth.Ok ⟨p1, p2, p3, p4⟩) (hp : fpath ⟨p1, p2, p3, p4⟩ = true) {a b n : Nat} (ha : 1 ≤ a) (ha2 : a ≤ 16) (hb1 : 1 ≤ b) (hb2 : b ≤ 16) (hab : (a : Int) * (b : Int) = (n : Int)) (hn1 : 1 ≤ n) (hn : n ≤ 256) {parts : Nat} (hpq : 1 ≤ parts) (hpt : parts ≤ 256) :
    Calls Try.prog 126 #[.int .i64 (a : Int), .int .i64 (b : Int), .agg #[.float .f32 p1, .float .f32 p2, .float .f32 p3, .float .f32 p4], .int .i64 (parts : Int)] w fun e w' => ∃ v, e = .returned v ∧ w'.ownsRow w.heap.size 2 1 v (pcs (fun i => pcellOf ⟨p1, p2, p3, p4⟩ a b i parts) parts).length (ivals (pcs (fun i => pcellOf ⟨p1, p2, p3, p4⟩ a b i parts) parts)) ∧ Ext w w' := by
  obtain ⟨i0, hi, hz0, hz1, hz2⟩ := info_parts info_int64
  obtain ⟨ba, bb, bc, bd⟩ := path_bs hg hp
  have fa : Fl .f32 p1 (fl .f32 p1) := Fl.of32 hg.a
  have fb : Fl .f32 p2 (fl .f32 p2) := Fl.of32 hg.b
  have fc : Fl .f32 p3 (fl .f32 p3) := Fl.of32 hg.c
  have fd : Fl .f32 p4 (fl .f32 p4) := Fl.of32 hg.d
  have HBX := Lib.hid (PbAt.blk (w := w.alloc (.cells #[.float .f32 p1, .float .f32 p2, .float .f32 p3, .float .f32 p4] 28)) (bx := w.heap.size) (T := 28) (g := ⟨p1, p2, p3, p4⟩) (heap_alloc_new w _))
  obtain ⟨W0, hW0⟩ : ∃ W0, W0 = w.alloc (.cells #[.float .f32 p1, .float .f32 p2, .float .f32 p3, .float .f32 p4] 28) := ⟨_, rfl⟩
  have hxW : Ext w W0 := by rw [hW0]; exact (by repeat (first | assumption | exact Ext.refl _ | apply Ext.drewN | apply Ext.drew | apply Ext.alloc | (refine Ext.trans ?_ (by assumption)) | (refine Ext.set ?_ (by dsimp only; omega) _)))
  rw [← hW0] at HBX
  go_enter Try.func126, Try.ntmps126
  go_wp2_with (fail)
  rw [← hW0]
  go_loopw [9, 15] (fun v y wr => ∃ (k : Nat), k ≤ parts ∧ y = .int .i64 k ∧ wr.ownsRow W0.heap.size 2 1 v (pcs (fun i => pcellOf ⟨p1, p2, p3, p4⟩ a b i parts) k).length (ivals (pcs (fun i => pcellOf ⟨p1, p2, p3, p4⟩ a b i parts) k)) ∧ Ext W0 wr) (fun _ y _ => parts - (intOf y).toNat)
  case atStart => exact ⟨0, Nat.zero_le _, rfl, World.ownsRow_nil _ _ _ _, Ext.refl _⟩
  case round =>
    obtain ⟨k, hk, rfl, hown, hx⟩ := hrel
    by_cases hlt : k < parts
    · have hlt' : (k : Int) < (parts : Int) := by omega
      have bq := mid_bs (i := k) (parts := parts) (by omega) (by omega) hpt
      have HXA := Lib.hid (alng_bs ba bc bq)
      have HXC := Lib.hid (alng_bs bb bd bq)
      have HQ := Lib.hid (show fop .quo .f32 (fop .add .f32 (some (mk k)) (fl .f32 1056964608)) (some (mk parts)) = fmid k parts from rfl)
      go_wp2_with (first | (apply upon_fop rfl; (exact fl_mk k); (exact fl_hlf); intro r1 n1 hr1) | (apply upon_fop rfl; (exact hr1); (exact fl_mk parts); intro r2 n2 hr2; rw [HQ.out] at hr2))
      have HB := Lib.hid ((HBX.out.ext hx).drewN (n1 + n2))
      have HO := Lib.hid hown
      have hxd : Ext wr (wr.drewN (n1 + n2)) := Ext.drewN (Ext.refl _) _
      generalize hW1 : wr.drewN (n1 + n2) = wd at HB hxd ⊢
      refine wp_region_any (by kernel_rfl) ?_
      refine wpAny_mo_go (md := .any) (R := Ext) (w := wd) [(0, 24), (1, 25), (2, 26), (3, 27), (4, 28), (5, 29), (6, 30), (7, 31), (8, 32), (9, 33), (10, 34)] [11] (tl := [_]) (S := ?S8_) (by kernel_rfl) (by rfl) (by rfl) Ext.refl ext_tr (ext_drew1 _) ?hS8_ ?go8_
      case hS8_ => intro vs; simp only [putAll, Act.put, List.setIfInBounds_toArray, List.set_cons_zero, List.set_cons_succ]; rfl
      case go8_ =>
      refine mo_fix _ (by rfl) (by rfl) (by intro vs w1 hx_ hd; obtain ⟨l0, l1, l2, l3, _⟩ := HB.out.ext (w' := w1) hx_; go_simp; first | done | rfl) ?_
      refine mo_fix _ (by rfl) (by rfl) (by intro vs w1 hx_ hd; obtain ⟨l0, l1, l2, l3, _⟩ := HB.out.ext (w' := w1) hx_; have e0 := hd 0 (by kernel_rfl); simp (decide := true) only [factAt, if_true, if_false] at e0; simp only [e0]; go_simp; first | done | rfl) ?_
      refine mo_fix _ (by rfl) (by rfl) (by intro vs w1 hx_ hd; obtain ⟨l0, l1, l2, l3, _⟩ := HB.out.ext (w' := w1) hx_; go_simp; first | done | rfl) ?_
      refine mo_fix _ (by rfl) (by rfl) (by intro vs w1 hx_ hd; obtain ⟨l0, l1, l2, l3, _⟩ := HB.out.ext (w' := w1) hx_; have e2 := hd 2 (by kernel_rfl); simp (decide := true) only [factAt, if_true, if_false] at e2; simp only [e2]; go_simp; first | done | rfl) ?_
      refine mo_fix _ (by rfl) (by rfl) (by intro vs w1 hx_ hd; obtain ⟨l0, l1, l2, l3, _⟩ := HB.out.ext (w' := w1) hx_; go_simp; first | done | rfl) ?_
      refine mo_fix _ (by rfl) (by rfl) (by intro vs w1 hx_ hd; obtain ⟨l0, l1, l2, l3, _⟩ := HB.out.ext (w' := w1) hx_; have e4 := hd 4 (by kernel_rfl); simp (decide := true) only [factAt, if_true, if_false] at e4; simp only [e4]; go_simp; first | done | rfl) ?_
      refine mo_fop (op := .sub) (by rfl) (by rfl) (by rfl) (by intro vs w1 hx_ hd; have e3 := hd 3 (by kernel_rfl); have e5 := hd 5 (by kernel_rfl); simp (decide := true) only [factAt, if_true, if_false] at e3 e5; simp only [e3, e5]; exact ⟨_, _, fc, fa, by go_simp; rfl⟩) ?_
      refine mo_fix _ (by rfl) (by rfl) (by intro vs w1 hx_ hd; obtain ⟨l0, l1, l2, l3, _⟩ := HB.out.ext (w' := w1) hx_; go_simp; first | done | rfl) ?_
      refine mo_callF (k := .f32) (by rfl) (by rfl) (by intro vs w1 hx_ hd; obtain ⟨l0, l1, l2, l3, _⟩ := HB.out.ext (w' := w1) hx_; have e6 := hd 6 (by kernel_rfl); have e7 := hd 7 (by kernel_rfl); simp (decide := true) only [factAt, if_true, if_false] at e6 e7; obtain ⟨r6, e6, f6⟩ := e6; simp only [e6, e7]; refine ⟨_, _, by go_simp; first | done | rfl | exact ⟨rfl, rfl⟩, ?_⟩; exact Calls.mono (c_mulNumbers f6 hr2 _) (fun _ _ h => by obtain ⟨r, h1, h2, h3⟩ := h; exact ⟨r, h1, h2, h3.below⟩)) ?_
      refine mo_fop (op := .add) (by rfl) (by rfl) (by rfl) (by intro vs w1 hx_ hd; have e1 := hd 1 (by kernel_rfl); have e8 := hd 8 (by kernel_rfl); simp (decide := true) only [factAt, if_true, if_false] at e1 e8; obtain ⟨r8, e8, f8⟩ := e8; simp only [e1, e8]; exact ⟨_, _, fa, f8, by go_simp; rfl⟩) ?_
      refine mo_call (fun v _ => v = .int .i64 (flr (falng (fl .f32 p1) (fl .f32 p3) (fmid k parts)))) (by rfl) (by rfl) (fun _ _ _ h _ => h) (by intro vs w1 hx_ hd; have e9 := hd 9 (by kernel_rfl); simp (decide := true) only [factAt, if_true, if_false] at e9; obtain ⟨r9, e9, f9⟩ := e9; simp only [e9]; refine ⟨_, _, by go_simp; first | done | rfl | exact ⟨rfl, rfl⟩, ?_⟩; exact Calls.mono (c_floorOf f9 HXA.out _) (fun _ _ h => ⟨_, h.1, rfl, h.2.below⟩)) ?_
      refine mo_end ?_
      intro vs w2 hx2 hd
      have e10 := hd 10 (by kernel_rfl)
      simp (decide := true) only [factAt, if_true, if_false] at e10
      generalize vs 10 = v10 at e10 ⊢
      subst e10
      clear hd
      have HB2 := Lib.hid (HB.out.ext hx2)
      go_wp2_with (fail)
      refine wp_region_any (by kernel_rfl) ?_
      refine wpAny_mo_go (md := .any) (R := Ext) (w := w2) [(0, 35), (1, 36), (2, 37), (3, 38), (4, 39), (5, 40), (6, 41), (7, 42), (8, 43), (9, 44), (10, 45)] [11] (tl := [_]) (S := ?S9_) (by kernel_rfl) (by rfl) (by rfl) Ext.refl ext_tr (ext_drew1 _) ?hS9_ ?go9_
      case hS9_ => intro vs; simp only [putAll, Act.put, List.setIfInBounds_toArray, List.set_cons_zero, List.set_cons_succ]; rfl
      case go9_ =>
      refine mo_fix _ (by rfl) (by rfl) (by intro vs w1 hx_ hd; obtain ⟨l0, l1, l2, l3, _⟩ := HB2.out.ext (w' := w1) hx_; go_simp; first | done | rfl) ?_
      refine mo_fix _ (by rfl) (by rfl) (by intro vs w1 hx_ hd; obtain ⟨l0, l1, l2, l3, _⟩ := HB2.out.ext (w' := w1) hx_; have e0 := hd 0 (by kernel_rfl); simp (decide := true) only [factAt, if_true, if_false] at e0; simp only [e0]; go_simp; first | done | rfl) ?_
      refine mo_fix _ (by rfl) (by rfl) (by intro vs w1 hx_ hd; obtain ⟨l0, l1, l2, l3, _⟩ := HB2.out.ext (w' := w1) hx_; go_simp; first | done | rfl) ?_
      refine mo_fix _ (by rfl) (by rfl) (by intro vs w1 hx_ hd; obtain ⟨l0, l1, l2, l3, _⟩ := HB2.out.ext (w' := w1) hx_; have e2 := hd 2 (by kernel_rfl); simp (decide := true) only [factAt, if_true, if_false] at e2; simp only [e2]; go_simp; first | done | rfl) ?_
      refine mo_fix _ (by rfl) (by rfl) (by intro vs w1 hx_ hd; obtain ⟨l0, l1, l2, l3, _⟩ := HB2.out.ext (w' := w1) hx_; go_simp; first | done | rfl) ?_
      refine mo_fix _ (by rfl) (by rfl) (by intro vs w1 hx_ hd; obtain ⟨l0, l1, l2, l3, _⟩ := HB2.out.ext (w' := w1) hx_; have e4 := hd 4 (by kernel_rfl); simp (decide := true) only [factAt, if_true, if_false] at e4; simp only [e4]; go_simp; first | done | rfl) ?_
      refine mo_fop (op := .sub) (by rfl) (by rfl) (by rfl) (by intro vs w1 hx_ hd; have e3 := hd 3 (by kernel_rfl); have e5 := hd 5 (by kernel_rfl); simp (decide := true) only [factAt, if_true, if_false] at e3 e5; simp only [e3, e5]; exact ⟨_, _, fd, fb, by go_simp; rfl⟩) ?_
      refine mo_fix _ (by rfl) (by rfl) (by intro vs w1 hx_ hd; obtain ⟨l0, l1, l2, l3, _⟩ := HB2.out.ext (w' := w1) hx_; go_simp; first | done | rfl) ?_
      refine mo_callF (k := .f32) (by rfl) (by rfl) (by intro vs w1 hx_ hd; obtain ⟨l0, l1, l2, l3, _⟩ := HB2.out.ext (w' := w1) hx_; have e6 := hd 6 (by kernel_rfl); have e7 := hd 7 (by kernel_rfl); simp (decide := true) only [factAt, if_true, if_false] at e6 e7; obtain ⟨r6, e6, f6⟩ := e6; simp only [e6, e7]; refine ⟨_, _, by go_simp; first | done | rfl | exact ⟨rfl, rfl⟩, ?_⟩; exact Calls.mono (c_mulNumbers f6 hr2 _) (fun _ _ h => by obtain ⟨r, h1, h2, h3⟩ := h; exact ⟨r, h1, h2, h3.below⟩)) ?_
      refine mo_fop (op := .add) (by rfl) (by rfl) (by rfl) (by intro vs w1 hx_ hd; have e1 := hd 1 (by kernel_rfl); have e8 := hd 8 (by kernel_rfl); simp (decide := true) only [factAt, if_true, if_false] at e1 e8; obtain ⟨r8, e8, f8⟩ := e8; simp only [e1, e8]; exact ⟨_, _, fb, f8, by go_simp; rfl⟩) ?_
      refine mo_call (fun v _ => v = .int .i64 (flr (falng (fl .f32 p2) (fl .f32 p4) (fmid k parts)))) (by rfl) (by rfl) (fun _ _ _ h _ => h) (by intro vs w1 hx_ hd; have e9 := hd 9 (by kernel_rfl); simp (decide := true) only [factAt, if_true, if_false] at e9; obtain ⟨r9, e9, f9⟩ := e9; simp only [e9]; refine ⟨_, _, by go_simp; first | done | rfl | exact ⟨rfl, rfl⟩, ?_⟩; exact Calls.mono (c_floorOf f9 HXC.out _) (fun _ _ h => ⟨_, h.1, rfl, h.2.below⟩)) ?_
      refine mo_end ?_
      intro vs w3 hx3 hd
      have e10 := hd 10 (by kernel_rfl)
      simp (decide := true) only [factAt, if_true, if_false] at e10
      generalize vs 10 = v10 at e10 ⊢
      subst e10
      clear hd
      have hx03 : Ext wr w3 := hxd.trans (hx2.trans hx3)
      have hx3' : Ext W0 w3 := hx.trans hx03
      have hown3 := ownsRow_ext HO.out hx03
      have hpl := pcs_len (fun i => pcellOf ⟨p1, p2, p3, p4⟩ a b i parts) k
      have HPC := Lib.hid (show pcellOf ⟨p1, p2, p3, p4⟩ a b k parts = pcell a b (flr (falng (fl .f32 p1) (fl .f32 p3) (fmid k parts))) (flr (falng (fl .f32 p2) (fl .f32 p4) (fmid k parts))) from rfl)
      clear hx2 hx3 hxd hW1 HB HB2 HXA HXC HQ HO hown
      generalize flr (falng (fl .f32 p1) (fl .f32 p3) (fmid k parts)) = x at HPC ⊢
      generalize flr (falng (fl .f32 p2) (fl .f32 p4) (fmid k parts)) = z at HPC ⊢
      cases hX : (inB x 0 ((a : Int) - 1) && inB z 0 ((b : Int) - 1))
      · have hpc : pcellOf ⟨p1, p2, p3, p4⟩ a b k parts = -1 := by rw [HPC.out]; unfold pcell; rw [hX]; rfl
        have HN := Lib.hid (pcs_off (pc := fun i => pcellOf ⟨p1, p2, p3, p4⟩ a b i parts) hpc)
        go_wp2_with (go_at_call 159; refine Calls.mono (c_isCellP _ _ _ _ _) ?_; rw [hX]; rintro e w4 ⟨rfl, rfl⟩)
        exact ⟨⟨k + 1, by omega, by go_num, by rw [HN.out]; exact hown3, hx3'⟩, by simp [intOf]; omega⟩
      · have hX2 := hX
        rw [Bool.and_eq_true] at hX2
        obtain ⟨h1, h2⟩ := inB_of hX2.1
        obtain ⟨h3, h4⟩ := inB_of hX2.2
        have hm1 : 0 ≤ (a : Int) * z := Int.mul_nonneg (by omega) h3
        have hm2 : (a : Int) * z ≤ 16 * 16 := Int.mul_le_mul (by omega) (by omega) h3 (by omega)
        have hpc : pcellOf ⟨p1, p2, p3, p4⟩ a b k parts = x + (a : Int) * z := by rw [HPC.out]; unfold pcell; rw [hX]; rfl
        have hw1 : IntKind.i64.wrap ((a : Int) * z) = (a : Int) * z := IntWalk.i64_in _ (by omega)
        have hw2 : IntKind.i64.wrap (x + (a : Int) * z) = x + (a : Int) * z := IntWalk.i64_in _ (by omega)
        obtain ⟨t, ht⟩ : ∃ t : Nat, x + (a : Int) * z = (t : Int) := ⟨(x + (a : Int) * z).toNat, by omega⟩
        have HN := Lib.hid (pcs_on (pc := fun i => pcellOf ⟨p1, p2, p3, p4⟩ a b i parts) (hpc.trans ht))
        go_wp2_with (first | (go_at_call 159; refine Calls.mono (c_isCellP _ _ _ _ _) ?_; rw [hX]; rintro e w4 ⟨rfl, rfl⟩) | (at_builtin; refine wpList_append_own _ rfl _ _ 142 rfl W0.heap.size 2 i0 (.int .i64 0) 1 8 Try.underlying142 hi hz0 hz1 hz2 rfl (by decide) _ _ _ rfl (World.ownsRow.alloc (w := w4) hown3 _) ⟨w4.heap.size, 0, none⟩ 1 1 [.int .i64 (t : Int)] rfl rfl ?_ ?_ ?_ ?_ ?_ ?_))
        all_goals first
          | exact one_newint (w := w4)
          | (intro u hu; simp at hu; subst hu; rfl)
          | (unfold maxLen; omega)
          | omega
          | (have := hx3'.size; simp; omega)
          | (intro v' w5 hown' hgrow _
             have hx' : Ext W0 w5 := grown_ext (Ext.alloc hx3' _) (World.ownsRow.alloc (w := w4) hown3 _) hgrow
             have HOO := Lib.hid hown'
             clear hown' hgrow
             go_wp2_with (fail)
             refine ⟨⟨k + 1, by omega, by go_num, ?_, hx'⟩, by simp [intOf]; omega⟩
             have h9 := HOO.out
             rw [ivals_snoc] at h9
             have hs0 : W0.heap.size = w.heap.size + 1 := by rw [hW0]; simp only [al_size]
             rw [HN.out, List.length_append, hs0]
             exact h9)
    · obtain rfl : k = parts := by omega
      go_wp2_with (fail)
      go_ret
      exact ⟨_, rfl, ownsRow_low hown (by rw [hW0]; simp), hxW.trans hx⟩
end Go.Proofs.Ytddemhlhlbpecaa
