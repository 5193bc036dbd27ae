/- Contracts: echoes of the surface, on both sides. Condition: the list is read. -/
import Derived.Test.YtcjddnkebdjhoacUa
import Derived.Test.YtcjddnkebdjhoacUd
import Derived.Test.YtcjddnkebdjhoacTh
namespace Go.Proofs.Ytcjddnkebdjhoac
open Go.RowKit Ieee

set_option maxRecDepth 20000 in
set_option maxHeartbeats 4000000 in
theorem c_l03Back {w : World} {B n c : Nat} {A : Option Addr} {L : List (Option Nat)} (h : RdF w B A n L) (hn : n ≤ 1048576) {B' m c' : Nat} {A' : Option Addr} {M : List (Option Nat)} (h' : RdF w B' A' m M) {k : Nat} (hk0 : k ≤ n) (hk1 : k ≤ m) :
    Calls Try.prog 123 #[.slice A n c, .slice A' m c', .int .i64 (k : Int)] w fun e w' => ∃ r, e = .returned (.float .f32 r) ∧ Fl .f32 r (ffs L M ((k : Int) - 1) k) ∧ Dr w w' := by
  have hl := Lib.hid h.len
  have hl' := Lib.hid h'.len
  go_enter Try.func123, Try.ntmps123
  go_wp2_with (fail)
  go_loopw [7, 8] (fun x y wr => ∃ (i r : Nat), i ≤ k ∧ y = .int .i64 i ∧ x = .float .f32 r ∧ Fl .f32 r (ffs L M ((k : Int) - 1) i) ∧ Dr w wr) (fun _ y _ => k - (intOf y).toNat)
  case atStart => exact ⟨0, 0, Nat.zero_le _, rfl, rfl, fl_fz, 0, rfl⟩
  case round =>
    obtain ⟨i, r, g2, rfl, rfl, hr, q, rfl⟩ := hrel
    by_cases h2 : i < k
    · obtain ⟨b1, o1, t1, rfl, hb1, hc1, ht1⟩ := h.cell (show i < n by omega)
      obtain ⟨d, hd⟩ : ∃ d : Nat, (k : Int) - 1 - (i : Int) = (d : Int) := ⟨((k : Int) - 1 - i).toNat, by omega⟩
      have hdm : d < m := by omega
      obtain ⟨b2, o2, t2, rfl, hb2, hc2, ht2⟩ := h'.cell hdm
      have hT : ffs L M ((k : Int) - 1) (i + 1) = fop .add .f32 (ffs L M ((k : Int) - 1) i) (fop .mul .f32 (L.getD i none) (M.getD d none)) := by
        rw [ffs_yes (meet_yes (by omega) (by rw [hl'.out]; omega)), hd, Int.toNat_natCast]
      have HT := Lib.hid hT
      have h2' : (i : Int) < (k : Int) := by omega
      have h2n : (i : Int) < (n : Int) := by omega
      have hdm' : (d : Int) < (m : Int) := by omega
      have hw1 : IntKind.i64.wrap ((k : Int) - 1) = (k : Int) - 1 := IntWalk.i64_in _ (by omega)
      have hwr : IntKind.i64.wrap (d : Int) = (d : Int) := IntWalk.i64_in _ (by omega)
      clear hT
      go_wp2_with (fail)
      go_region_with (first | (apply upon_fop rfl; (exact ht1); (exact ht2); intro r5 n5 hr5) | (apply upon_fop rfl; (exact hr); (exact hr5); intro r6 n6 hr6; rw [← HT.out] at hr6))
      all_goals
        go_wp2_with (fail)
        exact ⟨⟨i + 1, r6, by omega, by go_num, rfl, hr6, _, rfl⟩, by simp [intOf]; omega⟩
    · obtain rfl : i = k := by omega
      go_wp2_with (fail)
      go_ret
      exact ⟨r, rfl, hr, q, rfl⟩

set_option maxRecDepth 20000 in
set_option maxHeartbeats 4000000 in
theorem c_spec_AddSurface {w : World} {B n c : Nat} {A : Option Addr} {L : List (Option Nat)} (h : RdF w B A n L) (hB : B ≤ w.heap.size) (hn : n ≤ 1048576) {p : Nat} {P : Option Nat} (fp : Fl .f32 p P) :
    Calls Try.prog 63 #[.slice A n c, .float .f32 p] w fun e w' => RetL w e w' (tlen n && fsurf P) (lst (glF (faddS L P)) n) := by
  cases hV : tlen n
  · go_enter Try.func63, Try.ntmps63
    go_wp2_with (go_at_call 119; refine Calls.mono (c_l03Is _ _ _ _) ?_; rw [hV]; rintro e w1 ⟨rfl, rfl⟩)
    go_ret2
    exact retL_no rfl (by repeat (first | assumption | exact Ext.refl _ | apply Ext.drewN | apply Ext.drew | apply Ext.alloc | (refine Ext.trans ?_ (by assumption)) | (refine Ext.set ?_ (by dsimp only; omega) _)))
  rw [Bool.true_and]
  cases hW : fsurf P
  · go_enter Try.func63, Try.ntmps63
    go_wp2_with (first | (go_at_call 119; refine Calls.mono (c_l03Is _ _ _ _) ?_; rw [hV]; rintro e w1 ⟨rfl, rfl⟩) | (go_at_call 122; refine Calls.mono (c_l03Surface fp) ?_; rw [hW]; rintro e w1 ⟨rfl, rfl⟩))
    go_ret2
    exact retL_no rfl (by repeat (first | assumption | exact Ext.refl _ | apply Ext.drewN | apply Ext.drew | apply Ext.alloc | (refine Ext.trans ?_ (by assumption)) | (refine Ext.set ?_ (by dsimp only; omega) _)))
  obtain ⟨i0, hi, hz0, hz1, hz2⟩ := info_parts info_f32
  go_enter Try.func63, Try.ntmps63
  go_wp2_with (first | (go_at_call 119; refine Calls.mono (c_l03Is _ _ _ _) ?_; rw [hV]; rintro e w1 ⟨rfl, rfl⟩) | (go_at_call 122; refine Calls.mono (c_l03Surface fp) ?_; rw [hW]; rintro e w1 ⟨rfl, rfl⟩))
  go_loopw [6, 19] (fun v y wr => ∃ (k : Nat) (xs : List Value), k ≤ n ∧ y = .int .i64 k ∧ wr.ownsRow w.heap.size 31 1 v k xs ∧ (∀ j, j < k → ∃ r, xs[j]? = some (.float .f32 r) ∧ Fl .f32 r (glF (faddS L P) j)) ∧ Ext w wr) (fun _ y _ => n - (intOf y).toNat)
  case atStart => exact ⟨0, [], Nat.zero_le _, rfl, World.ownsRow_made _ _ 0 (Nat.le_refl _) (Nat.zero_le _) rfl, fun j hj => absurd hj (Nat.not_lt_zero _), (by repeat (first | assumption | exact Ext.refl _ | apply Ext.drewN | apply Ext.drew | apply Ext.alloc | (refine Ext.trans ?_ (by assumption)) | (refine Ext.set ?_ (by dsimp only; omega) _)))⟩
  case round =>
    obtain ⟨k, xs, hk, rfl, hown, hxs, hx⟩ := hrel
    have HX := Lib.hid hxs
    clear hxs
    by_cases hlt : k < n
    · have hlt' : (k : Int) < (n : Int) := by omega
      obtain ⟨b1, o1, t1, rfl, hb1, hc1, ht1⟩ := (h.below (hx.mono hB)).cell hlt
      have ho4 : OwF wr w.heap.size _ k (glF (faddS L P)) := ⟨xs, hown, HX.out⟩
      obtain ⟨A4, c4, rfl, ho5⟩ := ho4.owl
      rw [gl_lst] at ho5
      have hT : glF (faddS L P) k = fop .sub .f32 (L.getD k none) (fop .mul .f32 P (ffs L (gl (faddS L P) k) ((k : Int) - 1) k)) := by
        show faddS L P (gl (faddS L P) k) = _
        unfold faddS
        rw [gl_len]
      have HT := Lib.hid hT
      clear hT
      go_wp2_with (fail)
      go_region_law (first | (refine step_append_float (by rfl) (.tmp 22) (.tmp 34) 25 (by rfl) 31 i0 (.float .f32 0) 4 Try.underlying25 hi hz0 hz1 hz2 (by rfl) w.heap.size _ k xs (by rfl) _ _ (by rfl) (by rfl) (by exact hown) (by unfold maxLen; omega) (by omega) (by have := hx.size; simp; omega) ?_; intro v' w4 hown' hgrow; have hl' : xs.length = k := (by have := hown.1; omega); have hx' : Ext w w4 := (by refine grown_ext (xs := xs) (n := k) (e := 31) ?_ ?_ hgrow; exact Ext.alloc (Ext.drewN hx _) _; exact World.ownsRow.alloc (w := wr.drewN _) hown _); clear hown hgrow hx) | (refine step_call_float3 Try.func123 (by kernel_rfl) (by kernel_rfl) (.slice (some ⟨b1, o1, none⟩) n c) (.slice A4 k c4) (.int .i64 (k : Int)) ?_ ?_ ?_ (c_l03Back (RdF.below h (Below.mono (w := w) (by repeat (first | assumption | exact Ext.refl _ | apply Ext.drewN | apply Ext.drew | apply Ext.alloc | (refine Ext.trans ?_ (by assumption)) | (refine Ext.set ?_ (by dsimp only; omega) _))) hB)) hn (ho5.rd.below (by repeat (first | assumption | exact Ext.refl _ | apply Ext.drewN | apply Ext.drew | apply Ext.alloc | (refine Ext.trans ?_ (by assumption)) | (refine Ext.set ?_ (by dsimp only; omega) _)))) hk (Nat.le_refl _)) ?_; (focus go_simp); (focus go_simp); (focus go_simp); intro r n0 hr; obtain ⟨R, N, hq, hR⟩ := fop_rule (P := Try.prog) (op := .mul) rfl fp hr 31; obtain ⟨R2, N2, hq2, hR2⟩ := fop_rule_of (P := Try.prog) (op := .sub) rfl ht1 hR 31; rw [← HT.out] at hR2; have HR2 := Lib.hid hR2; clear hR hR2 hr))
      all_goals
        go_wp2_with (fail)
        exact ⟨⟨k + 1, _, by omega, by go_num, hown', row_step hl' HX.out (HR2.out _ _), hx'⟩, by simp [intOf]; omega⟩
    · obtain rfl : k = n := by omega
      have ho4 : OwF wr w.heap.size _ k (glF (faddS L P)) := ⟨xs, hown, HX.out⟩
      obtain ⟨A4, c4, rfl, ho5⟩ := ho4.owl
      go_wp2_with (fail)
      go_ret2
      exact ⟨_, _, _, rfl, ho5, hx⟩
set_option maxRecDepth 20000 in
set_option maxHeartbeats 4000000 in
theorem c_impl_AddSurface {w : World} {B n c : Nat} {A : Option Addr} {L : List (Option Nat)} (h : RdF w B A n L) (hB : B ≤ w.heap.size) (hn : n ≤ 1048576) {p : Nat} {P : Option Nat} (fp : Fl .f32 p P) :
    Calls Try.prog 64 #[.slice A n c, .float .f32 p] w fun e w' => RetL w e w' (tlen n && fsurf P) (lst (glF (faddS L P)) n) := by
  cases hV : tlen n
  · go_enter Try.func64, Try.ntmps64
    go_wp2_with (go_at_call 26; refine Calls.mono (c_IsTrace _ _ _ _) ?_; rw [hV]; rintro e w1 ⟨rfl, rfl⟩)
    go_ret2
    exact retL_no rfl (by repeat (first | assumption | exact Ext.refl _ | apply Ext.drewN | apply Ext.drew | apply Ext.alloc | (refine Ext.trans ?_ (by assumption)) | (refine Ext.set ?_ (by dsimp only; omega) _)))
  rw [Bool.true_and]
  cases hW : fsurf P
  · go_enter Try.func64, Try.ntmps64
    go_wp2_with (first | (go_at_call 26; refine Calls.mono (c_IsTrace _ _ _ _) ?_; rw [hV]; rintro e w1 ⟨rfl, rfl⟩) | (go_at_call 124; refine Calls.mono (c_isSurface fp) ?_; rw [hW]; rintro e w1 ⟨rfl, rfl⟩))
    go_ret2
    exact retL_no rfl (by repeat (first | assumption | exact Ext.refl _ | apply Ext.drewN | apply Ext.drew | apply Ext.alloc | (refine Ext.trans ?_ (by assumption)) | (refine Ext.set ?_ (by dsimp only; omega) _)))
  obtain ⟨i0, hi, hz0, hz1, hz2⟩ := info_parts info_f32
  go_enter Try.func64, Try.ntmps64
  go_wp2_with (first | (go_at_call 26; refine Calls.mono (c_IsTrace _ _ _ _) ?_; rw [hV]; rintro e w1 ⟨rfl, rfl⟩) | (go_at_call 124; refine Calls.mono (c_isSurface fp) ?_; rw [hW]; rintro e w1 ⟨rfl, rfl⟩))
  go_loopw [6, 19] (fun v y wr => ∃ (k : Nat) (xs : List Value), k ≤ n ∧ y = .int .i64 k ∧ wr.ownsRow w.heap.size 31 1 v k xs ∧ (∀ j, j < k → ∃ r, xs[j]? = some (.float .f32 r) ∧ Fl .f32 r (glF (faddS L P) j)) ∧ Ext w wr) (fun _ y _ => n - (intOf y).toNat)
  case atStart => exact ⟨0, [], Nat.zero_le _, rfl, ⟨rfl, .inl ⟨rfl, rfl⟩⟩, fun j hj => absurd hj (Nat.not_lt_zero _), (by repeat (first | assumption | exact Ext.refl _ | apply Ext.drewN | apply Ext.drew | apply Ext.alloc | (refine Ext.trans ?_ (by assumption)) | (refine Ext.set ?_ (by dsimp only; omega) _)))⟩
  case round =>
    obtain ⟨k, xs, hk, rfl, hown, hxs, hx⟩ := hrel
    have HX := Lib.hid hxs
    clear hxs
    by_cases hlt : k < n
    · have hlt' : (k : Int) < (n : Int) := by omega
      obtain ⟨b1, o1, t1, rfl, hb1, hc1, ht1⟩ := (h.below (hx.mono hB)).cell hlt
      have ho4 : OwF wr w.heap.size _ k (glF (faddS L P)) := ⟨xs, hown, HX.out⟩
      obtain ⟨A4, c4, rfl, ho5⟩ := ho4.owl
      rw [gl_lst] at ho5
      have hT : glF (faddS L P) k = fop .sub .f32 (L.getD k none) (fop .mul .f32 P (ffs L (gl (faddS L P) k) ((k : Int) - 1) k)) := by
        show faddS L P (gl (faddS L P) k) = _
        unfold faddS
        rw [gl_len]
      have HT := Lib.hid hT
      clear hT
      have hw1 : IntKind.i64.wrap ((k : Int) - 1) = (k : Int) - 1 := IntWalk.i64_in _ (by omega)
      go_wp2_with (first | (go_at_call 86; refine Calls.mono (c_foldAtG (RdF.below h (Below.mono (w := w) (by repeat (first | assumption | exact Ext.refl _ | apply Ext.drewN | apply Ext.drew | apply Ext.alloc | (refine Ext.trans ?_ (by assumption)) | (refine Ext.set ?_ (by dsimp only; omega) _))) hB)) hn (ho5.rd.below (by repeat (first | assumption | exact Ext.refl _ | apply Ext.drewN | apply Ext.drew | apply Ext.alloc | (refine Ext.trans ?_ (by assumption)) | (refine Ext.set ?_ (by dsimp only; omega) _)))) (by omega) (by omega) (by omega)) ?_; rw [ffs_past hk]; rintro e w_4 ⟨r4, rfl, hr4, n4, rfl⟩) | (go_at_call 87; refine Calls.mono (c_mulNumbers fp hr4 _) ?_; rintro e w_6 ⟨r6, rfl, hr6, n6, rfl⟩) | (apply upon_fop rfl; (exact ht1); (exact hr6); intro r5 n5 hr5; rw [← HT.out] at hr5) | (at_builtin; refine wpList_append_own _ rfl _ _ 25 rfl w.heap.size 31 i0 (.float .f32 0) 1 4 Try.underlying25 hi hz0 hz1 hz2 rfl (by decide) _ _ _ rfl (World.ownsRow.alloc (w := wr.drewN _) hown _) ⟨wr.heap.size, 0, none⟩ 1 1 [.float .f32 r5] rfl rfl ?_ ?_ ?_ ?_ ?_ ?_))
      all_goals first
        | exact one_new (w := wr.drewN _)
        | (intro u hu; simp at hu; subst hu; rfl)
        | (unfold maxLen; omega)
        | omega
        | (have := hx.size; simp; omega)
        | (intro v' w4 hown' hgrow _
           have hl' : xs.length = k := by have := hown.1; omega
           have hx' : Ext w w4 := grown_ext (Ext.alloc (Ext.drewN hx _) _) (World.ownsRow.alloc (w := wr.drewN _) hown _) hgrow
           have HXX := Lib.hid (row_step hl' HX.out hr5)
           clear hown hgrow hx
           go_wp2_with (fail)
           exact ⟨⟨k + 1, _, by omega, by go_num, hown', HXX.out, hx'⟩, by simp [intOf]; omega⟩)
    · obtain rfl : k = n := by omega
      have ho4 : OwF wr w.heap.size _ k (glF (faddS L P)) := ⟨xs, hown, HX.out⟩
      obtain ⟨A4, c4, rfl, ho5⟩ := ho4.owl
      go_wp2_with (fail)
      go_ret2
      exact ⟨_, _, _, rfl, ho5, hx⟩
theorem both_AddSurface {n0 : Nat} {L0 : List (Option Nat)} (_hl0 : L0.length = n0) (hn0 : n0 ≤ 1048576) {p1 : Nat} {P1 : Option Nat} (fp1 : Fl .f32 p1 P1) :
    ∃ ok Q q, q ≤ 1048576 ∧ (∀ W : World, ∀ (B0 : Nat) (A0 : Option Addr) (c0 : Nat), RdF W B0 A0 n0 L0 → B0 ≤ W.heap.size → Calls Try.prog 63 #[.slice A0 n0 c0, .float .f32 p1] W fun e w' => RetQ W e w' ok q Q) ∧
      (∀ W : World, ∀ (B0 : Nat) (A0 : Option Addr) (c0 : Nat), RdF W B0 A0 n0 L0 → B0 ≤ W.heap.size → Calls Try.prog 64 #[.slice A0 n0 c0, .float .f32 p1] W fun e w' => RetQ W e w' ok q Q) :=
  ⟨tlen n0 && fsurf P1, outL (tlen n0 && fsurf P1) (lst (glF (faddS L0 P1)) n0), (outL (tlen n0 && fsurf P1) (lst (glF (faddS L0 P1)) n0)).length, Nat.le_trans (outL_len _ _) (by rw [lst_len]; omega),
    fun W _ _ _ h0 hB0 => Calls.mono (c_spec_AddSurface (w := W) h0 hB0 hn0 fp1) (fun _ _ hr => hr.q), fun W _ _ _ h0 hB0 => Calls.mono (c_impl_AddSurface (w := W) h0 hB0 hn0 fp1) (fun _ _ hr => hr.q)⟩

set_option maxRecDepth 20000 in
set_option maxHeartbeats 4000000 in
theorem c_spec_DropSurface {w : World} {B n c : Nat} {A : Option Addr} {L : List (Option Nat)} (h : RdF w B A n L) (hB : B ≤ w.heap.size) (hn : n ≤ 1048576) {p : Nat} {P : Option Nat} (fp : Fl .f32 p P) :
    Calls Try.prog 65 #[.slice A n c, .float .f32 p] w fun e w' => RetL w e w' (tlen n && fsurf P) (lst (glF (fdropS L P)) n) := by
  cases hV : tlen n
  · go_enter Try.func65, Try.ntmps65
    go_wp2_with (go_at_call 119; refine Calls.mono (c_l03Is _ _ _ _) ?_; rw [hV]; rintro e w1 ⟨rfl, rfl⟩)
    go_ret2
    exact retL_no rfl (by repeat (first | assumption | exact Ext.refl _ | apply Ext.drewN | apply Ext.drew | apply Ext.alloc | (refine Ext.trans ?_ (by assumption)) | (refine Ext.set ?_ (by dsimp only; omega) _)))
  rw [Bool.true_and]
  cases hW : fsurf P
  · go_enter Try.func65, Try.ntmps65
    go_wp2_with (first | (go_at_call 119; refine Calls.mono (c_l03Is _ _ _ _) ?_; rw [hV]; rintro e w1 ⟨rfl, rfl⟩) | (go_at_call 122; refine Calls.mono (c_l03Surface fp) ?_; rw [hW]; rintro e w1 ⟨rfl, rfl⟩))
    go_ret2
    exact retL_no rfl (by repeat (first | assumption | exact Ext.refl _ | apply Ext.drewN | apply Ext.drew | apply Ext.alloc | (refine Ext.trans ?_ (by assumption)) | (refine Ext.set ?_ (by dsimp only; omega) _)))
  obtain ⟨i0, hi, hz0, hz1, hz2⟩ := info_parts info_f32
  go_enter Try.func65, Try.ntmps65
  go_wp2_with (first | (go_at_call 119; refine Calls.mono (c_l03Is _ _ _ _) ?_; rw [hV]; rintro e w1 ⟨rfl, rfl⟩) | (go_at_call 122; refine Calls.mono (c_l03Surface fp) ?_; rw [hW]; rintro e w1 ⟨rfl, rfl⟩))
  go_loopw [6, 19] (fun v y wr => ∃ (k : Nat) (xs : List Value), k ≤ n ∧ y = .int .i64 k ∧ wr.ownsRow w.heap.size 31 1 v k xs ∧ (∀ j, j < k → ∃ r, xs[j]? = some (.float .f32 r) ∧ Fl .f32 r (glF (fdropS L P) j)) ∧ Ext w wr) (fun _ y _ => n - (intOf y).toNat)
  case atStart => exact ⟨0, [], Nat.zero_le _, rfl, World.ownsRow_made _ _ 0 (Nat.le_refl _) (Nat.zero_le _) rfl, fun j hj => absurd hj (Nat.not_lt_zero _), (by repeat (first | assumption | exact Ext.refl _ | apply Ext.drewN | apply Ext.drew | apply Ext.alloc | (refine Ext.trans ?_ (by assumption)) | (refine Ext.set ?_ (by dsimp only; omega) _)))⟩
  case round =>
    obtain ⟨k, xs, hk, rfl, hown, hxs, hx⟩ := hrel
    have HX := Lib.hid hxs
    clear hxs
    by_cases hlt : k < n
    · have hlt' : (k : Int) < (n : Int) := by omega
      obtain ⟨b1, o1, t1, rfl, hb1, hc1, ht1⟩ := (h.below (hx.mono hB)).cell hlt
      have ho4 : OwF wr w.heap.size _ k (glF (fdropS L P)) := ⟨xs, hown, HX.out⟩
      obtain ⟨A4, c4, rfl, ho5⟩ := ho4.owl
      rw [gl_lst] at ho5
      have hT : glF (fdropS L P) k = fop .add .f32 (L.getD k none) (fop .mul .f32 P (ffs (gl (fdropS L P) k) L ((k : Int) - 1) k)) := by
        show fdropS L P (gl (fdropS L P) k) = _
        unfold fdropS
        rw [gl_len]
      have HT := Lib.hid hT
      clear hT
      go_wp2_with (fail)
      go_region_law (first | (refine step_append_float (by rfl) (.tmp 22) (.tmp 34) 25 (by rfl) 31 i0 (.float .f32 0) 4 Try.underlying25 hi hz0 hz1 hz2 (by rfl) w.heap.size _ k xs (by rfl) _ _ (by rfl) (by rfl) (by exact hown) (by unfold maxLen; omega) (by omega) (by have := hx.size; simp; omega) ?_; intro v' w4 hown' hgrow; have hl' : xs.length = k := (by have := hown.1; omega); have hx' : Ext w w4 := (by refine grown_ext (xs := xs) (n := k) (e := 31) ?_ ?_ hgrow; exact Ext.alloc (Ext.drewN hx _) _; exact World.ownsRow.alloc (w := wr.drewN _) hown _); clear hown hgrow hx) | (refine step_call_float3 Try.func123 (by kernel_rfl) (by kernel_rfl) (.slice A4 k c4) (.slice (some ⟨b1, o1, none⟩) n c) (.int .i64 (k : Int)) ?_ ?_ ?_ (c_l03Back (ho5.rd.below (by repeat (first | assumption | exact Ext.refl _ | apply Ext.drewN | apply Ext.drew | apply Ext.alloc | (refine Ext.trans ?_ (by assumption)) | (refine Ext.set ?_ (by dsimp only; omega) _)))) (by omega) (RdF.below h (Below.mono (w := w) (by repeat (first | assumption | exact Ext.refl _ | apply Ext.drewN | apply Ext.drew | apply Ext.alloc | (refine Ext.trans ?_ (by assumption)) | (refine Ext.set ?_ (by dsimp only; omega) _))) hB)) (Nat.le_refl _) hk) ?_; (focus go_simp); (focus go_simp); (focus go_simp); intro r n0 hr; obtain ⟨R, N, hq, hR⟩ := fop_rule (P := Try.prog) (op := .mul) rfl fp hr 31; obtain ⟨R2, N2, hq2, hR2⟩ := fop_rule_of (P := Try.prog) (op := .add) rfl ht1 hR 31; rw [← HT.out] at hR2; have HR2 := Lib.hid hR2; clear hR hR2 hr))
      all_goals
        go_wp2_with (fail)
        exact ⟨⟨k + 1, _, by omega, by go_num, hown', row_step hl' HX.out (HR2.out _ _), hx'⟩, by simp [intOf]; omega⟩
    · obtain rfl : k = n := by omega
      have ho4 : OwF wr w.heap.size _ k (glF (fdropS L P)) := ⟨xs, hown, HX.out⟩
      obtain ⟨A4, c4, rfl, ho5⟩ := ho4.owl
      go_wp2_with (fail)
      go_ret2
      exact ⟨_, _, _, rfl, ho5, hx⟩
set_option maxRecDepth 20000 in
set_option maxHeartbeats 4000000 in
theorem c_impl_DropSurface {w : World} {B n c : Nat} {A : Option Addr} {L : List (Option Nat)} (h : RdF w B A n L) (hB : B ≤ w.heap.size) (hn : n ≤ 1048576) {p : Nat} {P : Option Nat} (fp : Fl .f32 p P) :
    Calls Try.prog 66 #[.slice A n c, .float .f32 p] w fun e w' => RetL w e w' (tlen n && fsurf P) (lst (glF (fdropS L P)) n) := by
  cases hV : tlen n
  · go_enter Try.func66, Try.ntmps66
    go_wp2_with (go_at_call 26; refine Calls.mono (c_IsTrace _ _ _ _) ?_; rw [hV]; rintro e w1 ⟨rfl, rfl⟩)
    go_ret2
    exact retL_no rfl (by repeat (first | assumption | exact Ext.refl _ | apply Ext.drewN | apply Ext.drew | apply Ext.alloc | (refine Ext.trans ?_ (by assumption)) | (refine Ext.set ?_ (by dsimp only; omega) _)))
  rw [Bool.true_and]
  cases hW : fsurf P
  · go_enter Try.func66, Try.ntmps66
    go_wp2_with (first | (go_at_call 26; refine Calls.mono (c_IsTrace _ _ _ _) ?_; rw [hV]; rintro e w1 ⟨rfl, rfl⟩) | (go_at_call 124; refine Calls.mono (c_isSurface fp) ?_; rw [hW]; rintro e w1 ⟨rfl, rfl⟩))
    go_ret2
    exact retL_no rfl (by repeat (first | assumption | exact Ext.refl _ | apply Ext.drewN | apply Ext.drew | apply Ext.alloc | (refine Ext.trans ?_ (by assumption)) | (refine Ext.set ?_ (by dsimp only; omega) _)))
  obtain ⟨i0, hi, hz0, hz1, hz2⟩ := info_parts info_f32
  go_enter Try.func66, Try.ntmps66
  go_wp2_with (first | (go_at_call 26; refine Calls.mono (c_IsTrace _ _ _ _) ?_; rw [hV]; rintro e w1 ⟨rfl, rfl⟩) | (go_at_call 124; refine Calls.mono (c_isSurface fp) ?_; rw [hW]; rintro e w1 ⟨rfl, rfl⟩))
  go_loopw [6, 19] (fun v y wr => ∃ (k : Nat) (xs : List Value), k ≤ n ∧ y = .int .i64 k ∧ wr.ownsRow w.heap.size 31 1 v k xs ∧ (∀ j, j < k → ∃ r, xs[j]? = some (.float .f32 r) ∧ Fl .f32 r (glF (fdropS L P) j)) ∧ Ext w wr) (fun _ y _ => n - (intOf y).toNat)
  case atStart => exact ⟨0, [], Nat.zero_le _, rfl, ⟨rfl, .inl ⟨rfl, rfl⟩⟩, fun j hj => absurd hj (Nat.not_lt_zero _), (by repeat (first | assumption | exact Ext.refl _ | apply Ext.drewN | apply Ext.drew | apply Ext.alloc | (refine Ext.trans ?_ (by assumption)) | (refine Ext.set ?_ (by dsimp only; omega) _)))⟩
  case round =>
    obtain ⟨k, xs, hk, rfl, hown, hxs, hx⟩ := hrel
    have HX := Lib.hid hxs
    clear hxs
    by_cases hlt : k < n
    · have hlt' : (k : Int) < (n : Int) := by omega
      obtain ⟨b1, o1, t1, rfl, hb1, hc1, ht1⟩ := (h.below (hx.mono hB)).cell hlt
      have ho4 : OwF wr w.heap.size _ k (glF (fdropS L P)) := ⟨xs, hown, HX.out⟩
      obtain ⟨A4, c4, rfl, ho5⟩ := ho4.owl
      rw [gl_lst] at ho5
      have hT : glF (fdropS L P) k = fop .add .f32 (L.getD k none) (fop .mul .f32 P (ffs (gl (fdropS L P) k) L ((k : Int) - 1) k)) := by
        show fdropS L P (gl (fdropS L P) k) = _
        unfold fdropS
        rw [gl_len]
      have HT := Lib.hid hT
      clear hT
      have hw1 : IntKind.i64.wrap ((k : Int) - 1) = (k : Int) - 1 := IntWalk.i64_in _ (by omega)
      go_wp2_with (first | (go_at_call 86; refine Calls.mono (c_foldAtG (ho5.rd.below (by repeat (first | assumption | exact Ext.refl _ | apply Ext.drewN | apply Ext.drew | apply Ext.alloc | (refine Ext.trans ?_ (by assumption)) | (refine Ext.set ?_ (by dsimp only; omega) _)))) (by omega) (RdF.below h (Below.mono (w := w) (by repeat (first | assumption | exact Ext.refl _ | apply Ext.drewN | apply Ext.drew | apply Ext.alloc | (refine Ext.trans ?_ (by assumption)) | (refine Ext.set ?_ (by dsimp only; omega) _))) hB)) hn (by omega) (by omega)) ?_; rintro e w_4 ⟨r4, rfl, hr4, n4, rfl⟩) | (go_at_call 87; refine Calls.mono (c_mulNumbers fp hr4 _) ?_; rintro e w_6 ⟨r6, rfl, hr6, n6, rfl⟩) | (apply upon_fop rfl; (exact ht1); (exact hr6); intro r5 n5 hr5; rw [← HT.out] at hr5) | (at_builtin; refine wpList_append_own _ rfl _ _ 25 rfl w.heap.size 31 i0 (.float .f32 0) 1 4 Try.underlying25 hi hz0 hz1 hz2 rfl (by decide) _ _ _ rfl (World.ownsRow.alloc (w := wr.drewN _) hown _) ⟨wr.heap.size, 0, none⟩ 1 1 [.float .f32 r5] rfl rfl ?_ ?_ ?_ ?_ ?_ ?_))
      all_goals first
        | exact one_new (w := wr.drewN _)
        | (intro u hu; simp at hu; subst hu; rfl)
        | (unfold maxLen; omega)
        | omega
        | (have := hx.size; simp; omega)
        | (intro v' w4 hown' hgrow _
           have hl' : xs.length = k := by have := hown.1; omega
           have hx' : Ext w w4 := grown_ext (Ext.alloc (Ext.drewN hx _) _) (World.ownsRow.alloc (w := wr.drewN _) hown _) hgrow
           have HXX := Lib.hid (row_step hl' HX.out hr5)
           clear hown hgrow hx
           go_wp2_with (fail)
           exact ⟨⟨k + 1, _, by omega, by go_num, hown', HXX.out, hx'⟩, by simp [intOf]; omega⟩)
    · obtain rfl : k = n := by omega
      have ho4 : OwF wr w.heap.size _ k (glF (fdropS L P)) := ⟨xs, hown, HX.out⟩
      obtain ⟨A4, c4, rfl, ho5⟩ := ho4.owl
      go_wp2_with (fail)
      go_ret2
      exact ⟨_, _, _, rfl, ho5, hx⟩
theorem both_DropSurface {n0 : Nat} {L0 : List (Option Nat)} (_hl0 : L0.length = n0) (hn0 : n0 ≤ 1048576) {p1 : Nat} {P1 : Option Nat} (fp1 : Fl .f32 p1 P1) :
    ∃ ok Q q, q ≤ 1048576 ∧ (∀ W : World, ∀ (B0 : Nat) (A0 : Option Addr) (c0 : Nat), RdF W B0 A0 n0 L0 → B0 ≤ W.heap.size → Calls Try.prog 65 #[.slice A0 n0 c0, .float .f32 p1] W fun e w' => RetQ W e w' ok q Q) ∧
      (∀ W : World, ∀ (B0 : Nat) (A0 : Option Addr) (c0 : Nat), RdF W B0 A0 n0 L0 → B0 ≤ W.heap.size → Calls Try.prog 66 #[.slice A0 n0 c0, .float .f32 p1] W fun e w' => RetQ W e w' ok q Q) :=
  ⟨tlen n0 && fsurf P1, outL (tlen n0 && fsurf P1) (lst (glF (fdropS L0 P1)) n0), (outL (tlen n0 && fsurf P1) (lst (glF (fdropS L0 P1)) n0)).length, Nat.le_trans (outL_len _ _) (by rw [lst_len]; omega),
    fun W _ _ _ h0 hB0 => Calls.mono (c_spec_DropSurface (w := W) h0 hB0 hn0 fp1) (fun _ _ hr => hr.q), fun W _ _ _ h0 hB0 => Calls.mono (c_impl_DropSurface (w := W) h0 hB0 hn0 fp1) (fun _ _ hr => hr.q)⟩
end Go.Proofs.Ytcjddnkebdjhoac
