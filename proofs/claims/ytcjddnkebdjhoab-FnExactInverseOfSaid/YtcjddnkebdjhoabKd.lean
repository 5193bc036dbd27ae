/- Contracts: inverses of filters, the reference. Condition: the list is read. -/
import Derived.Test.YtcjddnkebdjhoabKc
namespace Go.Proofs.Ytcjddnkebdjhoab
open Go.RowKit Ieee

set_option maxRecDepth 20000 in
set_option maxHeartbeats 4000000 in
theorem c_foldAtH {w : World} {B n c : Nat} {A : Option Addr} {L : List (Option Nat)} (h : RdF w B A n L) (hn : n ≤ 1048576) {B' m c' : Nat} {A' : Option Addr} {M : List (Option Nat)} (h' : RdF w B' A' m M) (hm : m ≤ 1048576) {k : Int} (hk0 : -1 ≤ k) (hk1 : k + 1 ≤ n + m) :
    Calls Try.prog 54 #[.slice A n c, .slice A' m c', .int .i64 k, .func (.func 55) #[] #[]] w fun e w' => ∃ r, e = .returned (.float .f32 r) ∧ Fl .f32 r (ffs L M k n) ∧ Dr w w' := by
  have hl := Lib.hid h.len
  have hl' := Lib.hid h'.len
  have hfirst : ∃ lo : Nat, (max 0 (k - m + 1) : Int) = (lo : Int) ∧ lo ≤ n ∧ (lo : Int) ≤ k + 1 ∧ k - m + 1 ≤ lo ∧ ffs L M k lo = fz := by
    refine ⟨(max 0 (k - m + 1) : Int).toNat, by omega, by omega, by omega, by omega, ffs_zero fun j hj => meet_no (.inr ?_)⟩
    rw [hl'.out]; omega
  obtain ⟨lo, hlo, l1, l2, l3, hLZ⟩ := hfirst
  have LZ := Lib.hid hLZ
  clear hLZ
  have hcase : (0 < k - (m : Int) + 1 ∧ k - (m : Int) + 1 = (lo : Int)) ∨ (¬ 0 < k - (m : Int) + 1 ∧ lo = 0) := by omega
  clear hlo
  rcases hcase with ⟨d1, d2⟩ | ⟨d1, d2⟩
  case' inr => have D2 := Lib.hid d2; clear d2
  all_goals
    go_enter Try.func54, Try.ntmps54
    go_wp2_with (fail)
    go_loopw [9, 10] (fun x y wr => ∃ (i r : Nat), lo ≤ i ∧ i ≤ n ∧ (i : Int) ≤ k + 1 ∧ y = .int .i64 i ∧ x = .float .f32 r ∧ Fl .f32 r (ffs L M k i) ∧ Dr w wr) (fun _ y _ => n - (intOf y).toNat)
    case atStart => exact ⟨lo, 0, Nat.le_refl _, l1, l2, by first | rfl | (congr 1; have := D2.out; omega), rfl, by rw [LZ.out]; exact fl_fz, 0, rfl⟩
    case round =>
      obtain ⟨i, r, g1, g2, g3, rfl, rfl, hr, q, rfl⟩ := hrel
      by_cases h1 : (i : Int) ≤ k
      · by_cases h2 : i < n
        · obtain ⟨b1, o1, t1, rfl, hb1, hc1, ht1⟩ := h.cell h2
          obtain ⟨d, hd⟩ : ∃ d : Nat, k - (i : Int) = (d : Int) := ⟨(k - i).toNat, by omega⟩
          have hdm : d < m := by omega
          obtain ⟨b2, o2, t2, rfl, hb2, hc2, ht2⟩ := h'.cell hdm
          have hT : ffs L M k (i + 1) = fop .add .f32 (ffs L M k i) (fop .mul .f32 (L.getD i none) (M.getD d none)) := by
            rw [ffs_yes (meet_yes h1 (by rw [hl'.out]; omega)), hd, Int.toNat_natCast]
          have HT := Lib.hid hT
          have h2' : (i : Int) < (n : Int) := by omega
          have hdm' : (d : Int) < (m : Int) := by omega
          have hwr : IntKind.i64.wrap (d : Int) = (d : Int) := IntWalk.i64_in _ (by omega)
          clear hT
          go_wp2_with (fail)
          go_region_with (first | (go_at_call 55; refine Calls.mono (c_mulNumbers ht1 ht2 _) ?_; rintro e w2 ⟨r5, rfl, hr5, n5, rfl⟩) | (apply upon_fop rfl; (exact hr); (exact hr5); intro r6 n6 hr6; rw [← HT.out] at hr6))
          all_goals
            go_wp2_with (fail)
            exact ⟨⟨i + 1, r6, by omega, by omega, by omega, by go_num, rfl, hr6, _, rfl⟩, by simp [intOf]; omega⟩
        · obtain rfl : i = n := by omega
          go_wp2_with (fail)
          go_ret
          exact ⟨r, rfl, hr, q, rfl⟩
      · have hT : ffs L M k n = ffs L M k i := ffs_stop g2 fun j j1 _ => meet_no (.inl (by omega))
        have HT := Lib.hid hT
        clear hT
        go_wp2_with (fail)
        go_ret
        exact ⟨r, rfl, by rw [HT.out]; exact hr, q, rfl⟩

theorem own_one' {W : World} {base r : Nat} (hb : base ≤ W.heap.size) : (W.alloc (.cells #[.float .f32 r] 34)).ownsRow base 34 1 (.slice (some ⟨W.heap.size, 0, none⟩) 1 1) 1 [.float .f32 r] :=
  ⟨rfl, .inr ⟨W.heap.size, 1, #[.float .f32 r], rfl, hb, heap_alloc_new W _, Nat.le_refl _, by unfold maxLen; omega, rfl, rfl⟩⟩
/-- What an inverse goes on with. -/
def finv (L T : List (Option Nat)) (m : Nat) (X : List (Option Nat)) : Option Nat := if X.length = 0 then fop .quo .f32 fu (L.getD 0 none) else fop .quo .f32 (fneg32 (ffs T X ((X.length : Int) - 1) m)) (L.getD 0 none)
def ftail (L : List (Option Nat)) (m : Nat) : List (Option Nat) := lst (fun j => L.getD (1 + j) none) m
theorem glF_0 {L T : List (Option Nat)} {m : Nat} : glF (finv L T m) 0 = fop .quo .f32 fu (L.getD 0 none) := by unfold glF finv; rw [gl_len, if_pos rfl]
theorem glF_s {L T : List (Option Nat)} {m k : Nat} (h : 1 ≤ k) : glF (finv L T m) k = fop .quo .f32 (fneg32 (ffs T (gl (finv L T m) k) ((k : Int) - 1) m)) (L.getD 0 none) := by unfold glF finv; rw [gl_len, if_neg (by omega)]
def okIv (n : Nat) (X : Option Nat) (i : Int) : Bool := tlen n && (!fzero32 X && inB i 1 128)
set_option maxRecDepth 20000 in
set_option maxHeartbeats 8000000 in
theorem c_spec_InverseOf {w : World} {B n c : Nat} {A : Option Addr} {L : List (Option Nat)} (h : RdF w B A n L) (hB : B ≤ w.heap.size) (hn : n ≤ 1048576) (_hcap : n ≤ c) {i : Int} (_hi : -9223372036854775808 ≤ i) (_hj : i ≤ 9223372036854775807) :
    Calls Try.prog 36 #[.slice A n c, .int .i64 i] w fun e w' => RetL w e w' (okIv n (L.getD 0 none) i) (lst (glF (finv L (ftail L (n - 1)) (n - 1))) i.toNat) := by
  unfold okIv
  cases hV : tlen n
  · go_enter Try.func36, Try.ntmps36
    go_wp2_with (go_at_call 41; refine Calls.mono (c_l03Is _ _ _ _) ?_; rw [hV]; rintro e w1 ⟨rfl, rfl⟩)
    go_ret2
    exact retL_no rfl (by repeat (first | assumption | exact Ext.refl _ | apply Ext.drewN | apply Ext.drew | apply Ext.alloc | (refine Ext.trans ?_ (by assumption)) | (refine Ext.set ?_ (by dsimp only; omega) _)))
  rw [Bool.true_and]
  have hpos : 0 < n := (tlen_of hV).1
  have hposI : (0 : Int) < (n : Int) := by omega
  obtain ⟨b0, o0, t0, rfl, hb0, hc0, ht0⟩ := h.cell hpos
  have hc00 : w.cell? ⟨b0, o0, none⟩ = some (.float .f32 t0) := by simpa using hc0
  have hz := zero32 t0
  rw [ht0.eq] at hz
  cases hZ : fzero32 (L.getD 0 none)
  case true =>
    rw [hZ] at hz
    go_enter Try.func36, Try.ntmps36
    go_wp2_with (go_at_call 41; refine Calls.mono (c_l03Is _ _ _ _) ?_; rw [hV]; rintro e w1 ⟨rfl, rfl⟩)
    go_ret2
    exact retL_no rfl (by repeat (first | assumption | exact Ext.refl _ | apply Ext.drewN | apply Ext.drew | apply Ext.alloc | (refine Ext.trans ?_ (by assumption)) | (refine Ext.set ?_ (by dsimp only; omega) _)))
  rw [hZ] at hz
  cases hI : inB i 1 128
  · go_enter Try.func36, Try.ntmps36
    go_wp2_with (first | (go_at_call 41; refine Calls.mono (c_l03Is _ _ _ _) ?_; rw [hV]; rintro e w1 ⟨rfl, rfl⟩) | (go_at_call 42; refine Calls.mono (c_l00In _ _ _ _) ?_; rw [hI]; rintro e w1 ⟨rfl, rfl⟩))
    go_ret2
    exact retL_no rfl (by repeat (first | assumption | exact Ext.refl _ | apply Ext.drewN | apply Ext.drew | apply Ext.alloc | (refine Ext.trans ?_ (by assumption)) | (refine Ext.set ?_ (by dsimp only; omega) _)))
  obtain ⟨p1, p2⟩ := inB_of hI
  obtain ⟨N, rfl⟩ : ∃ N : Nat, i = (N : Int) := ⟨i.toNat, by omega⟩
  rw [Int.toNat_natCast]
  have hN : 1 ≤ N := by omega
  have hN8 : N ≤ 128 := by omega
  obtain ⟨m, hm⟩ : ∃ m, n = m + 1 := ⟨n - 1, by omega⟩
  have hmn : n - 1 = m := by omega
  rw [hmn]
  obtain ⟨T, hT⟩ : ∃ T, ftail L m = T := ⟨_, rfl⟩
  rw [hT]
  have hTl : T.length = m := by rw [← hT]; exact lst_len _ _
  have hTat : ∀ j, j < m → T.getD j none = L.getD (1 + j) none := fun j hj => by rw [← hT]; exact lst_at hj
  have HTL := Lib.hid hTl
  have HTA := Lib.hid hTat
  have HM := Lib.hid hm
  clear hTl hTat hm hmn hT hc0 p1 p2
  obtain ⟨i0, hi, hz0, hz1, hz2⟩ := info_parts info_f32
  go_enter Try.func36, Try.ntmps36
  go_wp2_with (first | (go_at_call 41; refine Calls.mono (c_l03Is _ _ _ _) ?_; rw [hV]; rintro e w1 ⟨rfl, rfl⟩) | (go_at_call 42; refine Calls.mono (c_l00In _ _ _ _) ?_; rw [hI]; rintro e w1 ⟨rfl, rfl⟩) | (apply upon_fop rfl; (exact fl_fu); (exact ht0); intro r1 n1 hr1))
  have HR1 : Hid (Fl .f32 r1 (glF (finv L T m) 0)) := Lib.hid (by rw [glF_0]; exact hr1)
  clear hr1
  go_loopw [6, 7] (fun v y wr => 1 ≤ intOf y ∧ ∃ (k : Nat) (xs : List Value), k ≤ N ∧ y = .int .i64 k ∧ wr.ownsRow w.heap.size 34 1 v k xs ∧ (∀ j, j < k → ∃ r, xs[j]? = some (.float .f32 r) ∧ Fl .f32 r (glF (finv L T m) j)) ∧ Ext w wr) (fun _ y _ => N - (intOf y).toNat)
  case atStart => exact ⟨by simp [intOf], 1, [.float .f32 r1], hN, rfl, own_one' (by simp), fun j hj => ⟨r1, by (obtain rfl : j = 0 := by omega); rfl, by (obtain rfl : j = 0 := by omega); exact HR1.out⟩, (by repeat (first | assumption | exact Ext.refl _ | apply Ext.drewN | apply Ext.drew | apply Ext.alloc | (refine Ext.trans ?_ (by assumption)) | (refine Ext.set ?_ (by dsimp only; omega) _)))⟩
  case round =>
    obtain ⟨hy1, k, xs, hk, rfl, hown, hxs, hx⟩ := hrel
    have hk1 : 1 ≤ k := by simp [intOf] at hy1; omega
    clear hy1
    have HX : Hid (∀ j, j < k → ∃ r, xs[j]? = some (.float .f32 r) ∧ Fl .f32 r (glF (finv L T m) j)) := Lib.hid hxs
    have HO := Lib.hid hown
    clear hxs
    have ho4 : OwF wr w.heap.size _ k (glF (finv L T m)) := ⟨xs, hown, HX.out⟩
    obtain ⟨A4, c4, rfl, ho5⟩ := ho4.owl
    by_cases hlt : k < N
    · have hlt' : (k : Int) < (N : Int) := by omega
      rw [gl_lst] at ho5
      obtain ⟨X, hX⟩ : ∃ X, gl (finv L T m) k = X := ⟨_, rfl⟩
      have hXl : X.length = k := by rw [← hX]; exact gl_len _ _
      have hGF := glF_s (L := L) (T := T) (m := m) hk1
      rw [hX] at ho5 hGF
      have HGF := Lib.hid hGF
      have HXL := Lib.hid hXl
      have hRX := ho5.rd
      clear hown ho4 ho5 hX hGF hXl
      have hcw : wr.cell? ⟨b0, o0, none⟩ = some (.float .f32 t0) := (hx.cell (p := ⟨b0, o0, none⟩) (by show b0 < _; omega)).trans hc00
      go_wp2_with (fail)
      go_loopw [8, 9] (fun x z wq => ∃ (j r q : Nat), j ≤ m ∧ j ≤ k ∧ z = .int .i64 ((j + 1 : Nat) : Int) ∧ x = .float .f32 r ∧ Fl .f32 r (ffs T X ((k : Int) - 1) j) ∧ wq = wr.drewN q) (fun _ z _ => m + 1 - (intOf z).toNat)
      case atStart => exact ⟨0, 0, 0, Nat.zero_le _, Nat.zero_le _, rfl, rfl, fl_fz, rfl⟩
      case round =>
        obtain ⟨j, r, q, hj1, hj2, rfl, rfl, hr, rfl⟩ := hrel
        obtain ⟨s, hs⟩ : ∃ s, s = j + 1 := ⟨_, rfl⟩
        rw [← hs]
        have HSS := Lib.hid hs
        by_cases h1 : s ≤ k
        · have h1' : (s : Int) ≤ (k : Int) := by omega
          by_cases h2 : s < n
          · have h2' : (s : Int) < (n : Int) := by omega
            have hjm : j < m := by have := HM.out; omega
            obtain ⟨b1, o1, t1, hA1, hb1, hc1, ht1⟩ := (h.below (hx.mono hB)).cell h2
            simp only [Option.some.injEq, Addr.mk.injEq, and_true] at hA1
            obtain ⟨rfl, rfl⟩ := hA1
            obtain ⟨d, hd⟩ : ∃ d : Nat, (k : Int) - (s : Int) = (d : Int) := ⟨k - s, by omega⟩
            have hdk : d < k := by omega
            obtain ⟨b2, o2, t2, rfl, hb2, hc2, ht2⟩ := hRX.cell hdk
            have hT3 : ffs T X ((k : Int) - 1) (j + 1) = fop .add .f32 (ffs T X ((k : Int) - 1) j) (fop .mul .f32 (L.getD s none) (X.getD d none)) := by
              rw [ffs_yes (meet_yes (by omega) (by rw [HXL.out]; omega)), HTA.out j hjm, show 1 + j = s by omega, show ((k : Int) - 1 - (j : Int)).toNat = d by omega]
            have HT := Lib.hid hT3
            have hdI : (d : Int) < (k : Int) := by omega
            have hwd : IntKind.i64.wrap (d : Int) = (d : Int) := IntWalk.i64_in _ (by omega)
            have hws : IntKind.i64.wrap ((s : Int) + 1) = (s : Int) + 1 := IntWalk.i64_in _ (by omega)
            clear hT3 hs
            go_wp2_with (fail)
            refine wp_region_loose 13 (by kernel_rfl) (by kernel_rfl) ?_
            simp only [List.take_succ_cons, List.take_zero, List.drop_succ_cons, List.drop_zero]
            refine la_start ?_
            refine la_fix _ (by rfl) (by intros; go_simp; rfl) ?_
            try simp only [Act.put, List.setIfInBounds_toArray, List.set_cons_zero, List.set_cons_succ]
            refine la_fix _ (by rfl) (by intros; go_simp; rfl) ?_
            try simp only [Act.put, List.setIfInBounds_toArray, List.set_cons_zero, List.set_cons_succ]
            refine la_fix _ (by rfl) (by intros; go_simp; rfl) ?_
            try simp only [Act.put, List.setIfInBounds_toArray, List.set_cons_zero, List.set_cons_succ]
            refine la_fix _ (by rfl) (by intros; go_simp; rfl) ?_
            try simp only [Act.put, List.setIfInBounds_toArray, List.set_cons_zero, List.set_cons_succ]
            refine la_fix _ (by rfl) (by intros; go_simp; rfl) ?_
            try simp only [Act.put, List.setIfInBounds_toArray, List.set_cons_zero, List.set_cons_succ]
            refine la_fix _ (by rfl) (by intros; go_simp; rfl) ?_
            try simp only [Act.put, List.setIfInBounds_toArray, List.set_cons_zero, List.set_cons_succ]
            refine la_fix _ (by rfl) (by intros; go_simp; rfl) ?_
            try simp only [Act.put, List.setIfInBounds_toArray, List.set_cons_zero, List.set_cons_succ]
            refine la_fix _ (by rfl) (by intros; go_simp; rfl) ?_
            try simp only [Act.put, List.setIfInBounds_toArray, List.set_cons_zero, List.set_cons_succ]
            refine la_fix _ (by rfl) (by intros; go_simp; rfl) ?_
            try simp only [Act.put, List.setIfInBounds_toArray, List.set_cons_zero, List.set_cons_succ]
            refine la_fix _ (by rfl) (by intros; go_simp; rfl) ?_
            try simp only [Act.put, List.setIfInBounds_toArray, List.set_cons_zero, List.set_cons_succ]
            refine la_fix _ (by rfl) (by intros; go_simp; rfl) ?_
            try simp only [Act.put, List.setIfInBounds_toArray, List.set_cons_zero, List.set_cons_succ]
            refine la_fop (op := .mul) (by rfl) (by rfl) (by intros; refine ⟨_, _, ?_, ?_, fun q => (by go_simp; rfl)⟩ <;> (first | assumption | exact fl_fu | exact fl_fz)) ?_
            try simp only [Act.put, List.setIfInBounds_toArray, List.set_cons_zero, List.set_cons_succ]
            refine la_fop (op := .add) (by rfl) (by rfl) (by intros; refine ⟨_, _, ?_, ?_, fun q => (by go_simp; rfl)⟩ <;> (first | assumption | exact fl_fu | exact fl_fz)) ?_
            try simp only [Act.put, List.setIfInBounds_toArray, List.set_cons_zero, List.set_cons_succ]
            refine la_end ?_
            intro r5 hr5 r6 hr6 q2
            rw [← HT.out] at hr6
            go_wp2_with (fail)
            exact ⟨⟨j + 1, r6, _, by omega, by have := HSS.out; omega, by have := HSS.out; congr 1; omega, rfl, hr6, by first | rfl | exact World.drewN_drewN _ _ _⟩, by have := HSS.out; simp [intOf]; omega⟩
          · have hjm : j = m := by have := HM.out; omega
            have hr' : Fl .f32 r (ffs T X ((k : Int) - 1) m) := by rw [← hjm]; exact hr
            have hown := HO.out
            have h2' : ¬ (s : Int) < (n : Int) := by omega
            clear hr hs hjm
            go_wp2_with (first | (apply upon_fop rfl; (exact fneg32_fl hr'); (exact ht0); intro r7 n7 hr7; rw [← HGF.out] at hr7) | (at_builtin; refine wpList_append_own _ rfl _ _ 22 rfl w.heap.size 34 i0 (.float .f32 0) 1 4 Try.underlying22 hi hz0 hz1 hz2 rfl (by decide) _ _ _ rfl (World.ownsRow.alloc (w := wr.drewN (q + n7)) hown _) ⟨wr.heap.size, 0, none⟩ 1 1 [.float .f32 r7] rfl rfl ?_ ?_ ?_ ?_ ?_ ?_))
            all_goals first
              | exact one_new (w := wr.drewN (q + n7))
              | (intro j0 u hj0; have h0 := one_new (w := wr.drewN (q + n7)) j0 u hj0; have e0 : (⟨(wr.drewN (q + n7)).heap.size, 0, none⟩ : Addr).add j0 = ⟨wr.heap.size, j0, none⟩ := (by rw [show (wr.drewN (q + n7)).heap.size = wr.heap.size from rfl]; simp [Addr.add]; first | done | (intros; omega)); rw [e0] at h0; exact h0)
              | rfl
              | (intro u hu; simp at hu; subst hu; rfl)
              | (unfold maxLen; omega)
              | omega
              | (have := hx.size; simp; omega)
              | (intro v' w4 hown' hgrow _
                 have hl' : xs.length = k := by have := hown.1; omega
                 have hx' : Ext w w4 := grown_ext (Ext.alloc (Ext.drewN hx _) _) (World.ownsRow.alloc (w := wr.drewN (q + n7)) hown _) hgrow
                 have HXX := Lib.hid (row_step hl' HX.out hr7)
                 clear hown hgrow hx
                 go_wp2_with (fail)
                 exact ⟨⟨by simp [intOf]; omega, k + 1, _, by omega, by go_num, hown', HXX.out, hx'⟩, by simp [intOf]; omega⟩)
        · have h1' : ¬ (s : Int) ≤ (k : Int) := by omega
          have hr' : Fl .f32 r (ffs T X ((k : Int) - 1) m) := by
            rw [ffs_stop hj1 fun u u1 _ => meet_no (.inl (by omega))]; exact hr
          have hown := HO.out
          clear hr hs
          go_wp2_with (first | (apply upon_fop rfl; (exact fneg32_fl hr'); (exact ht0); intro r7 n7 hr7; rw [← HGF.out] at hr7) | (at_builtin; refine wpList_append_own _ rfl _ _ 22 rfl w.heap.size 34 i0 (.float .f32 0) 1 4 Try.underlying22 hi hz0 hz1 hz2 rfl (by decide) _ _ _ rfl (World.ownsRow.alloc (w := wr.drewN (q + n7)) hown _) ⟨wr.heap.size, 0, none⟩ 1 1 [.float .f32 r7] rfl rfl ?_ ?_ ?_ ?_ ?_ ?_))
          all_goals first
            | exact one_new (w := wr.drewN (q + n7))
            | (intro j0 u hj0; have h0 := one_new (w := wr.drewN (q + n7)) j0 u hj0; have e0 : (⟨(wr.drewN (q + n7)).heap.size, 0, none⟩ : Addr).add j0 = ⟨wr.heap.size, j0, none⟩ := (by rw [show (wr.drewN (q + n7)).heap.size = wr.heap.size from rfl]; simp [Addr.add]; first | done | (intros; omega)); rw [e0] at h0; exact h0)
            | rfl
            | (intro u hu; simp at hu; subst hu; rfl)
            | (unfold maxLen; omega)
            | omega
            | (have := hx.size; simp; omega)
            | (intro v' w4 hown' hgrow _
               have hl' : xs.length = k := by have := hown.1; omega
               have hx' : Ext w w4 := grown_ext (Ext.alloc (Ext.drewN hx _) _) (World.ownsRow.alloc (w := wr.drewN (q + n7)) hown _) hgrow
               have HXX := Lib.hid (row_step hl' HX.out hr7)
               clear hown hgrow hx
               go_wp2_with (fail)
               exact ⟨⟨by simp [intOf]; omega, k + 1, _, by omega, by go_num, hown', HXX.out, hx'⟩, by simp [intOf]; omega⟩)
    · obtain rfl : k = N := by omega
      go_wp2_with (fail)
      go_ret2
      exact ⟨_, _, _, rfl, ho5, hx⟩
end Go.Proofs.Ytcjddnkebdjhoab
