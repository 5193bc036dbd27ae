/- Contracts: right sides of filters, on both sides. Condition: the lists are read. -/
import Derived.Test.YtcjddnkebdjhoabKb
namespace Go.Proofs.Ytcjddnkebdjhoab
open Go.RowKit Ieee

/-- The first i products of a right side. -/
def ftt (A F : List (Option Nat)) (k : Nat) : Nat → Option Nat
  | 0 => fz
  | i + 1 => fop .add .f32 (ftt A F k i) (fop .mul .f32 (A.getD (if i ≤ k then k - i else i - k) none) (F.getD i none))
theorem ftt_le {A F : List (Option Nat)} {k i d : Nat} (h : k = d + i ∨ i = d + k) : ftt A F k (i + 1) = fop .add .f32 (ftt A F k i) (fop .mul .f32 (A.getD d none) (F.getD i none)) := by
  rw [ftt]
  by_cases h1 : i ≤ k
  · rw [if_pos h1, show k - i = d by omega]
  · rw [if_neg h1, show i - k = d by omega]
/-- The right side of which k numbers are whole, and one of i products. -/
def ftk (A F : List (Option Nat)) (n k i j : Nat) : Option Nat := if j = k then ftt A F k i else fsetK (fun j => ftt A F j n) k j
theorem ftk_0 {A F : List (Option Nat)} {n k j : Nat} : fsetK (fun j => ftt A F j n) k j = ftk A F n k 0 j := by
  unfold ftk
  by_cases h : j = k
  · subst h; rw [if_pos rfl]; unfold fsetK; rw [if_neg (by omega)]; rfl
  · rw [if_neg h]
theorem ftk_at {A F : List (Option Nat)} {n k i : Nat} : ftk A F n k i k = ftt A F k i := by unfold ftk; rw [if_pos rfl]
theorem ftk_other {A F : List (Option Nat)} {n k i j : Nat} (h : j ≠ k) : ftk A F n k i j = ftk A F n k (i + 1) j := by unfold ftk; rw [if_neg h, if_neg h]
theorem ftk_all {A F : List (Option Nat)} {n k j : Nat} : ftk A F n k n j = fsetK (fun j => ftt A F j n) (k + 1) j := by
  unfold ftk
  by_cases h : j = k
  · subst h; rw [if_pos rfl, fsetK_at]
  · rw [if_neg h]; exact fsetK_other _ h
def okTt (n m : Nat) : Bool := elen n && same2 n m
set_option maxRecDepth 20000 in
set_option maxHeartbeats 8000000 in
theorem c_spec_TimesToeplitz {w : World} {B n c : Nat} {A : Option Addr} {L : List (Option Nat)} (h : RdF w B A n L) (hB : B ≤ w.heap.size) (hn : n ≤ 1048576) {B' m c' : Nat} {A' : Option Addr} {M : List (Option Nat)} (h' : RdF w B' A' m M) (hB' : B' ≤ w.heap.size) (_hm : m ≤ 1048576) :
    Calls Try.prog 24 #[.slice A n c, .slice A' m c'] w fun e w' => RetL w e w' (okTt n m) (lst (fun k => ftt L M k n) n) := by
  unfold okTt
  cases hV : elen n
  · go_enter Try.func24, Try.ntmps24
    go_wp2_with (go_at_call 49; refine Calls.mono (c_l05Filter _ _ _ _) ?_; rw [hV]; rintro e w1 ⟨rfl, rfl⟩)
    go_ret2
    exact retL_no rfl (by repeat (first | assumption | exact Ext.refl _ | apply Ext.drewN | apply Ext.drew | apply Ext.alloc | (refine Ext.trans ?_ (by assumption)) | (refine Ext.set ?_ (by dsimp only; omega) _)))
  rw [Bool.true_and]
  by_cases hnm : n = m
  case neg =>
    rw [same2_no hnm]
    have i3 : ((m : Int) != (n : Int)) = true := by rw [bne_iff_ne]; omega
    clear hnm
    go_enter Try.func24, Try.ntmps24
    go_wp2_with (go_at_call 49; refine Calls.mono (c_l05Filter _ _ _ _) ?_; rw [hV]; rintro e w1 ⟨rfl, rfl⟩)
    go_ret2
    exact retL_no rfl (by repeat (first | assumption | exact Ext.refl _ | apply Ext.drewN | apply Ext.drew | apply Ext.alloc | (refine Ext.trans ?_ (by assumption)) | (refine Ext.set ?_ (by dsimp only; omega) _)))
  subst hnm
  rw [same2_yes rfl]
  have i3 : ((n : Int) != (n : Int)) = false := by simp
  obtain ⟨i0, hi, hz0, hz1, hz2⟩ := info_parts info_f32
  go_enter Try.func24, Try.ntmps24
  go_wp2_with (go_at_call 49; refine Calls.mono (c_l05Filter _ _ _ _) ?_; rw [hV]; rintro e w1 ⟨rfl, rfl⟩)
  go_loopw [6, 24] (fun v y wr => ∃ (k : Nat) (xs : List Value), k ≤ n ∧ y = .int .i64 k ∧ wr.ownsRow w.heap.size 34 1 v k xs ∧ (∀ j, j < k → ∃ r, xs[j]? = some (.float .f32 r) ∧ Fl .f32 r ((fun k => ftt L M k n) j)) ∧ Ext w wr) (fun _ y _ => n - (intOf y).toNat)
  case atStart => exact ⟨0, [], Nat.zero_le _, rfl, World.ownsRow_made _ _ 0 (Nat.le_refl _) (Nat.zero_le _) rfl, fun j hj => absurd hj (Nat.not_lt_zero _), (by repeat (first | assumption | exact Ext.refl _ | apply Ext.drewN | apply Ext.drew | apply Ext.alloc | (refine Ext.trans ?_ (by assumption)) | (refine Ext.set ?_ (by dsimp only; omega) _)))⟩
  case round =>
    obtain ⟨k, xs, hk, rfl, hown, hxs, hx⟩ := hrel
    have HX : Hid (∀ j, j < k → ∃ r, xs[j]? = some (.float .f32 r) ∧ Fl .f32 r ((fun k => ftt L M k n) j)) := Lib.hid hxs
    have HO := Lib.hid hown
    clear hxs hown
    by_cases hlt : k < n
    · have hlt' : (k : Int) < (n : Int) := by omega
      go_wp2_with (fail)
      go_loopw [8, 29] (fun x z wq => ∃ (i r q : Nat), i ≤ n ∧ z = .int .i64 i ∧ x = .float .f32 r ∧ Fl .f32 r (ftt L M k i) ∧ wq = wr.drewN q) (fun _ z _ => n - (intOf z).toNat)
      case atStart => exact ⟨0, 0, 0, Nat.zero_le _, rfl, rfl, fl_fz, rfl⟩
      case round =>
        obtain ⟨i, r, q, hi2, rfl, rfl, hr, rfl⟩ := hrel
        by_cases h2 : i < n
        · have h2' : (i : Int) < (n : Int) := by omega
          obtain ⟨b1, o1, t1, rfl, hb1, hc1, ht1⟩ := (h'.below (hx.mono hB')).cell h2
          by_cases hik : i ≤ k
          · obtain ⟨d, hd⟩ : ∃ d : Nat, k = d + i := ⟨k - i, by omega⟩
            have hdi : (k : Int) - (i : Int) = (d : Int) := by omega
            have hdn : d < n := by omega
            obtain ⟨b2, o2, t2, rfl, hb2, hc2, ht2⟩ := (h.below (hx.mono hB)).cell hdn
            have HT := Lib.hid (ftt_le (A := L) (F := M) (.inl hd))
            have hdI : (d : Int) < (n : Int) := by omega
            have hwd : IntKind.i64.wrap (d : Int) = (d : Int) := IntWalk.i64_in _ (by omega)
            have hd0 : ¬ (d : Int) < 0 := by omega
            clear hd hik
            go_wp2_with (fail)
            refine wp_region_loose 11 (by kernel_rfl) (by kernel_rfl) ?_
            simp only [List.take_succ_cons, List.take_zero, List.drop_succ_cons, List.drop_zero]
            refine la_start ?_
            refine la_fix _ (by rfl) (by intros; go_simp; rfl) ?_
            try simp only [Act.put, List.setIfInBounds_toArray, List.set_cons_zero, List.set_cons_succ]
            refine la_fix _ (by rfl) (by intros; go_simp; rfl) ?_
            try simp only [Act.put, List.setIfInBounds_toArray, List.set_cons_zero, List.set_cons_succ]
            refine la_fix _ (by rfl) (by intros; go_simp; rfl) ?_
            try simp only [Act.put, List.setIfInBounds_toArray, List.set_cons_zero, List.set_cons_succ]
            refine la_fix _ (by rfl) (by intros; go_simp; rfl) ?_
            try simp only [Act.put, List.setIfInBounds_toArray, List.set_cons_zero, List.set_cons_succ]
            refine la_fix _ (by rfl) (by intros; go_simp; rfl) ?_
            try simp only [Act.put, List.setIfInBounds_toArray, List.set_cons_zero, List.set_cons_succ]
            refine la_fix _ (by rfl) (by intros; go_simp; rfl) ?_
            try simp only [Act.put, List.setIfInBounds_toArray, List.set_cons_zero, List.set_cons_succ]
            refine la_fix _ (by rfl) (by intros; go_simp; rfl) ?_
            try simp only [Act.put, List.setIfInBounds_toArray, List.set_cons_zero, List.set_cons_succ]
            refine la_fix _ (by rfl) (by intros; go_simp; rfl) ?_
            try simp only [Act.put, List.setIfInBounds_toArray, List.set_cons_zero, List.set_cons_succ]
            refine la_fix _ (by rfl) (by intros; go_simp; rfl) ?_
            try simp only [Act.put, List.setIfInBounds_toArray, List.set_cons_zero, List.set_cons_succ]
            refine la_fop (op := .mul) (by rfl) (by rfl) (by intros; refine ⟨_, _, ?_, ?_, fun q => (by go_simp; rfl)⟩ <;> (first | assumption | exact fl_fu | exact fl_fz)) ?_
            try simp only [Act.put, List.setIfInBounds_toArray, List.set_cons_zero, List.set_cons_succ]
            refine la_fop (op := .add) (by rfl) (by rfl) (by intros; refine ⟨_, _, ?_, ?_, fun q => (by go_simp; rfl)⟩ <;> (first | assumption | exact fl_fu | exact fl_fz)) ?_
            try simp only [Act.put, List.setIfInBounds_toArray, List.set_cons_zero, List.set_cons_succ]
            refine la_end ?_
            intro r5 hr5 r6 hr6 q2
            rw [← HT.out] at hr6
            go_wp2_with (fail)
            exact ⟨⟨i + 1, r6, _, by omega, by go_num, rfl, hr6, by first | rfl | exact World.drewN_drewN _ _ _⟩, by simp [intOf]; omega⟩
          · obtain ⟨d, hd⟩ : ∃ d : Nat, i = d + k := ⟨i - k, by omega⟩
            obtain ⟨y, hy⟩ : ∃ y : Int, y = (k : Int) - (i : Int) := ⟨_, rfl⟩
            have hyn : -y = (d : Int) := by omega
            have hy0 : y < 0 := by omega
            have hdn : d < n := by omega
            obtain ⟨b2, o2, t2, rfl, hb2, hc2, ht2⟩ := (h.below (hx.mono hB)).cell hdn
            have HT := Lib.hid (ftt_le (A := L) (F := M) (.inr hd))
            have hdI : (d : Int) < (n : Int) := by omega
            have hwy : IntKind.i64.wrap y = y := IntWalk.i64_in _ (by omega)
            have hwd : IntKind.i64.wrap (d : Int) = (d : Int) := IntWalk.i64_in _ (by omega)
            have hy2 : (k : Int) - (i : Int) = y := hy.symm
            clear hd hik hy
            go_wp2_with (fail)
            refine wp_region_loose 11 (by kernel_rfl) (by kernel_rfl) ?_
            simp only [List.take_succ_cons, List.take_zero, List.drop_succ_cons, List.drop_zero]
            refine la_start ?_
            refine la_fix _ (by rfl) (by intros; go_simp; rfl) ?_
            try simp only [Act.put, List.setIfInBounds_toArray, List.set_cons_zero, List.set_cons_succ]
            refine la_fix _ (by rfl) (by intros; go_simp; rfl) ?_
            try simp only [Act.put, List.setIfInBounds_toArray, List.set_cons_zero, List.set_cons_succ]
            refine la_fix _ (by rfl) (by intros; go_simp; rfl) ?_
            try simp only [Act.put, List.setIfInBounds_toArray, List.set_cons_zero, List.set_cons_succ]
            refine la_fix _ (by rfl) (by intros; go_simp; rfl) ?_
            try simp only [Act.put, List.setIfInBounds_toArray, List.set_cons_zero, List.set_cons_succ]
            refine la_fix _ (by rfl) (by intros; go_simp; rfl) ?_
            try simp only [Act.put, List.setIfInBounds_toArray, List.set_cons_zero, List.set_cons_succ]
            refine la_fix _ (by rfl) (by intros; go_simp; rfl) ?_
            try simp only [Act.put, List.setIfInBounds_toArray, List.set_cons_zero, List.set_cons_succ]
            refine la_fix _ (by rfl) (by intros; go_simp; rfl) ?_
            try simp only [Act.put, List.setIfInBounds_toArray, List.set_cons_zero, List.set_cons_succ]
            refine la_fix _ (by rfl) (by intros; go_simp; rfl) ?_
            try simp only [Act.put, List.setIfInBounds_toArray, List.set_cons_zero, List.set_cons_succ]
            refine la_fix _ (by rfl) (by intros; go_simp; rfl) ?_
            try simp only [Act.put, List.setIfInBounds_toArray, List.set_cons_zero, List.set_cons_succ]
            refine la_fop (op := .mul) (by rfl) (by rfl) (by intros; refine ⟨_, _, ?_, ?_, fun q => (by go_simp; rfl)⟩ <;> (first | assumption | exact fl_fu | exact fl_fz)) ?_
            try simp only [Act.put, List.setIfInBounds_toArray, List.set_cons_zero, List.set_cons_succ]
            refine la_fop (op := .add) (by rfl) (by rfl) (by intros; refine ⟨_, _, ?_, ?_, fun q => (by go_simp; rfl)⟩ <;> (first | assumption | exact fl_fu | exact fl_fz)) ?_
            try simp only [Act.put, List.setIfInBounds_toArray, List.set_cons_zero, List.set_cons_succ]
            refine la_end ?_
            intro r5 hr5 r6 hr6 q2
            rw [← HT.out] at hr6
            go_wp2_with (fail)
            exact ⟨⟨i + 1, r6, _, by omega, by go_num, rfl, hr6, by first | rfl | exact World.drewN_drewN _ _ _⟩, by simp [intOf]; omega⟩
        · obtain rfl : i = n := by omega
          have hown := HO.out
          go_wp2_with (at_builtin; refine wpList_append_own _ rfl _ _ 22 rfl w.heap.size 34 i0 (.float .f32 0) 1 4 Try.underlying22 hi hz0 hz1 hz2 rfl (by decide) _ _ _ rfl (World.ownsRow.alloc (w := wr.drewN q) hown _) ⟨wr.heap.size, 0, none⟩ 1 1 [.float .f32 r] rfl rfl ?_ ?_ ?_ ?_ ?_ ?_)
          all_goals first
            | exact one_new (w := wr.drewN q)
            | (intro j0 u hj0; have h0 := one_new (w := wr.drewN q) j0 u hj0; have e0 : (⟨(wr.drewN q).heap.size, 0, none⟩ : Addr).add j0 = ⟨wr.heap.size, j0, none⟩ := (by rw [show (wr.drewN q).heap.size = wr.heap.size from rfl]; simp [Addr.add]; first | done | (intros; omega)); rw [e0] at h0; exact h0)
            | rfl
            | (intro u hu; simp at hu; subst hu; rfl)
            | (unfold maxLen; omega)
            | omega
            | (have := hx.size; simp; omega)
            | (intro v' w4 hown' hgrow _
               have hl' : xs.length = k := by have := hown.1; omega
               have hx' : Ext w w4 := grown_ext (Ext.alloc (Ext.drewN hx _) _) (World.ownsRow.alloc (w := wr.drewN q) hown _) hgrow
               have HXX := Lib.hid (row_step hl' HX.out hr)
               clear hown hgrow hx
               go_wp2_with (fail)
               exact ⟨⟨k + 1, _, by omega, by go_num, hown', HXX.out, hx'⟩, by simp [intOf]; omega⟩)
    · obtain rfl : k = n := by omega
      have ho4 : OwF wr w.heap.size _ k (fun j => ftt L M j k) := ⟨xs, HO.out, HX.out⟩
      obtain ⟨A4, c4, rfl, ho5⟩ := ho4.owl
      go_wp2_with (fail)
      go_ret2
      exact ⟨_, _, _, rfl, ho5, hx⟩
set_option maxRecDepth 20000 in
set_option maxHeartbeats 8000000 in
theorem c_impl_TimesToeplitz {w : World} {B n c : Nat} {A : Option Addr} {L : List (Option Nat)} (h : RdF w B A n L) (hB : B ≤ w.heap.size) (hn : n ≤ 1048576) {B' m c' : Nat} {A' : Option Addr} {M : List (Option Nat)} (h' : RdF w B' A' m M) (hB' : B' ≤ w.heap.size) (_hm : m ≤ 1048576) :
    Calls Try.prog 25 #[.slice A n c, .slice A' m c'] w fun e w' => RetL w e w' (okTt n m) (lst (fun k => ftt L M k n) n) := by
  unfold okTt
  have HE := Lib.hid (elen_int n)
  cases hV : elen n
  · go_enter Try.func25, Try.ntmps25
    go_wp2_with (go_at_call 46; refine Calls.mono (c_isFilterLength _ _) ?_; rw [HE.out, hV]; rintro e w1 ⟨rfl, rfl⟩)
    go_ret2
    exact retL_no rfl (by repeat (first | assumption | exact Ext.refl _ | apply Ext.drewN | apply Ext.drew | apply Ext.alloc | (refine Ext.trans ?_ (by assumption)) | (refine Ext.set ?_ (by dsimp only; omega) _)))
  rw [Bool.true_and]
  by_cases hnm : n = m
  case neg =>
    rw [same2_no hnm]
    have i3 : ((m : Int) != (n : Int)) = true := by rw [bne_iff_ne]; omega
    clear hnm
    go_enter Try.func25, Try.ntmps25
    go_wp2_with (go_at_call 46; refine Calls.mono (c_isFilterLength _ _) ?_; rw [HE.out, hV]; rintro e w1 ⟨rfl, rfl⟩)
    go_ret2
    exact retL_no rfl (by repeat (first | assumption | exact Ext.refl _ | apply Ext.drewN | apply Ext.drew | apply Ext.alloc | (refine Ext.trans ?_ (by assumption)) | (refine Ext.set ?_ (by dsimp only; omega) _)))
  subst hnm
  rw [same2_yes rfl]
  have i3 : ((n : Int) != (n : Int)) = false := by simp
  have hmk := fun W => run_make_row' (P := Try.prog) 22 34 (.float .f32 0) 4 Try.underlying22 info_f32 rfl .i64 .i64 n (by omega) (by omega) W
  go_enter Try.func25, Try.ntmps25
  go_wp2_with (go_at_call 46; refine Calls.mono (c_isFilterLength _ _) ?_; rw [HE.out, hV]; rintro e w1 ⟨rfl, rfl⟩)
  go_loopw [26] (fun y wr => ∃ (k : Nat) (cs : Array Value), k ≤ n ∧ y = .int .i64 k ∧ wr.heap[w.heap.size]? = some (.cells cs 34 (0, 0)) ∧ cs.size = n ∧ RowF cs n (fsetK (fun j => ftt L M j n) k) ∧ Ext w wr) (fun y _ => n - (intOf y).toNat)
  case atStart => exact ⟨0, _, Nat.zero_le _, rfl, heap_alloc_new _ _, size_madeCells _ _, RowF.made fun j _ => fsetK_zero _ _, (by repeat (first | assumption | exact Ext.refl _ | apply Ext.drewN | apply Ext.drew | apply Ext.alloc | (refine Ext.trans ?_ (by assumption)) | (refine Ext.set ?_ (by dsimp only; omega) _)))⟩
  case round =>
    obtain ⟨k, cs, hk, rfl, hg, hsz, hrow, hx⟩ := hrel
    by_cases hlt : k < n
    · have hlt' : (k : Int) < (n : Int) := by omega
      have HR0 : Hid (RowF cs n (ftk L M n k 0)) := Lib.hid (hrow.keep fun j _ => ftk_0)
      have HG0 := Lib.hid hg
      have HS0 := Lib.hid hsz
      have HX0 := Lib.hid hx
      clear hrow hg hsz hx
      go_wp2_with (fail)
      go_loopw [31] (fun z wi => ∃ (i : Nat) (ds : Array Value), i ≤ n ∧ z = .int .i64 i ∧ wi.heap[w.heap.size]? = some (.cells ds 34 (0, 0)) ∧ ds.size = n ∧ RowF ds n (ftk L M n k i) ∧ Ext w wi) (fun z _ => n - (intOf z).toNat)
      case atStart => exact ⟨0, cs, Nat.zero_le _, rfl, HG0.out, HS0.out, HR0.out, HX0.out⟩
      case round =>
        obtain ⟨i, ds, hi2, rfl, hg, hsz, hrow, hx⟩ := hrel
        have HX := Lib.hid hrow
        have HG := Lib.hid hg
        have HS := Lib.hid hsz
        clear hrow hg hsz HR0 HG0 HS0 HX0
        by_cases h2 : i < n
        · have h2' : (i : Int) < (n : Int) := by omega
          obtain ⟨u0, e0, z0, f0⟩ := HX.out.cell HG.out hlt
          rw [ftk_at] at f0
          obtain ⟨b1, o1, t1, rfl, hb1, hc1, ht1⟩ := (h'.below (hx.mono hB')).cell h2
          obtain ⟨d, hd⟩ : ∃ d : Nat, k = d + i ∨ i = d + k := by
            by_cases hik : i ≤ k
            · exact ⟨k - i, .inl (by omega)⟩
            · exact ⟨i - k, .inr (by omega)⟩
          have hdn : d < n := by omega
          obtain ⟨b2, o2, t2, rfl, hb2, hc2, ht2⟩ := (h.below (hx.mono hB)).cell hdn
          have HT := Lib.hid (ftt_le (A := L) (F := M) hd)
          have hdI : (d : Int) < (n : Int) := by omega
          obtain ⟨y, hy⟩ : ∃ y : Int, y = (k : Int) - (i : Int) := ⟨_, rfl⟩
          obtain ⟨z, hz⟩ : ∃ z : Int, z = (i : Int) - (k : Int) := ⟨_, rfl⟩
          have hwy : IntKind.i64.wrap y = y := IntWalk.i64_in _ (by omega)
          have hwz : IntKind.i64.wrap z = z := IntWalk.i64_in _ (by omega)
          have hy2 : (k : Int) - (i : Int) = y := hy.symm
          have hz2 : (i : Int) - (k : Int) = z := hz.symm
          have hcase : (y < z ∧ z = (d : Int)) ∨ (¬ y < z ∧ y = (d : Int)) := by omega
          clear hd hy hz
          rcases hcase with ⟨m1, rfl⟩ | ⟨m1, rfl⟩
          all_goals
            go_wp2_with (fail)
            try have m2 : ¬ ((d : Int) < z) := by omega
            refine wp_region_loose 18 (by kernel_rfl) (by kernel_rfl) ?_
            simp only [List.take_succ_cons, List.take_zero, List.drop_succ_cons, List.drop_zero]
            refine la_start ?_
            refine la_fix _ (by rfl) (by intros; go_simp; rfl) ?_
            try simp only [Act.put, List.setIfInBounds_toArray, List.set_cons_zero, List.set_cons_succ]
            refine la_fix _ (by rfl) (by intros; go_simp; rfl) ?_
            try simp only [Act.put, List.setIfInBounds_toArray, List.set_cons_zero, List.set_cons_succ]
            refine la_fix _ (by rfl) (by intros; go_simp; rfl) ?_
            try simp only [Act.put, List.setIfInBounds_toArray, List.set_cons_zero, List.set_cons_succ]
            refine la_fix _ (by rfl) (by intros; go_simp; rfl) ?_
            try simp only [Act.put, List.setIfInBounds_toArray, List.set_cons_zero, List.set_cons_succ]
            refine la_fix _ (by rfl) (by intros; go_simp; rfl) ?_
            try simp only [Act.put, List.setIfInBounds_toArray, List.set_cons_zero, List.set_cons_succ]
            refine la_fix _ (by rfl) (by intros; go_simp; rfl) ?_
            try simp only [Act.put, List.setIfInBounds_toArray, List.set_cons_zero, List.set_cons_succ]
            refine la_fix _ (by rfl) (by intros; go_simp; rfl) ?_
            try simp only [Act.put, List.setIfInBounds_toArray, List.set_cons_zero, List.set_cons_succ]
            refine la_fix _ (by rfl) (by intros; go_simp; rfl) ?_
            try simp only [Act.put, List.setIfInBounds_toArray, List.set_cons_zero, List.set_cons_succ]
            refine la_fix _ (by rfl) (by intros; go_simp; rfl) ?_
            try simp only [Act.put, List.setIfInBounds_toArray, List.set_cons_zero, List.set_cons_succ]
            refine la_fix _ (by rfl) (by intros; go_simp; rfl) ?_
            try simp only [Act.put, List.setIfInBounds_toArray, List.set_cons_zero, List.set_cons_succ]
            refine la_fix _ (by rfl) (by intros; go_simp; rfl) ?_
            try simp only [Act.put, List.setIfInBounds_toArray, List.set_cons_zero, List.set_cons_succ]
            refine la_fix _ (by rfl) (by intros; go_simp; rfl) ?_
            try simp only [Act.put, List.setIfInBounds_toArray, List.set_cons_zero, List.set_cons_succ]
            refine la_fix _ (by rfl) (by intros; go_simp; rfl) ?_
            try simp only [Act.put, List.setIfInBounds_toArray, List.set_cons_zero, List.set_cons_succ]
            refine la_fix _ (by rfl) (by intros; go_simp; rfl) ?_
            try simp only [Act.put, List.setIfInBounds_toArray, List.set_cons_zero, List.set_cons_succ]
            refine la_fix _ (by rfl) (by intros; go_simp; rfl) ?_
            try simp only [Act.put, List.setIfInBounds_toArray, List.set_cons_zero, List.set_cons_succ]
            refine la_callF (k := .f32) (by rfl) (by intros; refine ⟨_, fun q => (by go_simp; first | rfl | exact ⟨rfl, rfl⟩), fun q => ?_⟩; exact c_mulNumbers ht2 ht1 _) ?_
            try simp only [Act.put, List.setIfInBounds_toArray, List.set_cons_zero, List.set_cons_succ]
            refine la_fop (op := .add) (by rfl) (by rfl) (by intros; refine ⟨_, _, ?_, ?_, fun q => (by go_simp; rfl)⟩ <;> (first | assumption | exact fl_fu | exact fl_fz)) ?_
            try simp only [Act.put, List.setIfInBounds_toArray, List.set_cons_zero, List.set_cons_succ]
            refine la_fix _ (by rfl) (by intros; go_simp; rfl) ?_
            try simp only [Act.put, List.setIfInBounds_toArray, List.set_cons_zero, List.set_cons_succ]
            refine la_end ?_
            intro r5 hr5 r6 hr6 q
            rw [← HT.out] at hr6
            go_wp2_with (fail)
            exact ⟨⟨i + 1, _, by omega, by go_num, blk_set1 (w := World.drewN wr q) HG.out k (.float .f32 r6), by rw [Array.size_setIfInBounds]; exact HS.out, HX.out.set HS.out (by rw [ftk_at]; exact hr6) (fun j _ hj => ftk_other hj), Ext.set (by repeat (first | assumption | exact Ext.refl _ | apply Ext.drewN | apply Ext.drew | apply Ext.alloc | (refine Ext.trans ?_ (by assumption)) | (refine Ext.set ?_ (by dsimp only; omega) _))) (Nat.le_refl _) _⟩, by simp [intOf]; omega⟩
        · obtain rfl : i = n := by omega
          have hR := HX.out.keep (G := fsetK (fun j => ftt L M j i) (k + 1)) (fun j _ => ftk_all)
          go_wp2_with (fail)
          exact ⟨⟨k + 1, ds, by omega, by go_num, HG.out, HS.out, hR, hx⟩, by simp [intOf]; omega⟩
    · obtain rfl : k = n := by omega
      have ho5 := (hrow.keep (G := fun j => ftt L M j k) (fun j hj => fsetK_all _ hj)).lst hg hsz
      go_wp2_with (fail)
      go_ret2
      exact ⟨_, _, _, rfl, ho5, hx⟩
theorem both_TimesToeplitz {n0 : Nat} {L0 : List (Option Nat)} (_hl0 : L0.length = n0) (hn0 : n0 ≤ 1048576) {n1 : Nat} {L1 : List (Option Nat)} (_hl1 : L1.length = n1) (hn1 : n1 ≤ 1048576) :
    ∃ ok Q q, q ≤ 1048576 ∧ (∀ W : World, ∀ (B0 : Nat) (A0 : Option Addr) (c0 : Nat), RdF W B0 A0 n0 L0 → B0 ≤ W.heap.size → ∀ (B1 : Nat) (A1 : Option Addr) (c1 : Nat), RdF W B1 A1 n1 L1 → B1 ≤ W.heap.size → Calls Try.prog 24 #[.slice A0 n0 c0, .slice A1 n1 c1] W fun e w' => RetQ W e w' ok q Q) ∧
      (∀ W : World, ∀ (B0 : Nat) (A0 : Option Addr) (c0 : Nat), RdF W B0 A0 n0 L0 → B0 ≤ W.heap.size → ∀ (B1 : Nat) (A1 : Option Addr) (c1 : Nat), RdF W B1 A1 n1 L1 → B1 ≤ W.heap.size → Calls Try.prog 25 #[.slice A0 n0 c0, .slice A1 n1 c1] W fun e w' => RetQ W e w' ok q Q) :=
  ⟨okTt n0 n1, outL (okTt n0 n1) (lst (fun k => ftt L0 L1 k n0) n0), (outL (okTt n0 n1) (lst (fun k => ftt L0 L1 k n0) n0)).length, Nat.le_trans (outL_len _ _) (by rw [lst_len]; omega),
    fun W _ _ _ h0 hB0 _ _ _ h1 hB1 => Calls.mono (c_spec_TimesToeplitz (w := W) h0 hB0 hn0 h1 hB1 hn1) (fun _ _ hr => hr.q), fun W _ _ _ h0 hB0 _ _ _ h1 hB1 => Calls.mono (c_impl_TimesToeplitz (w := W) h0 hB0 hn0 h1 hB1 hn1) (fun _ _ hr => hr.q)⟩

end Go.Proofs.Ytcjddnkebdjhoab
