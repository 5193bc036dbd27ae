/- Contracts: convolutions with a product that is told, filters that are applied, on both sides. Condition: the lists are read. -/
import Derived.Test.YtceldjkgddbfaabFb
import Derived.Test.YtceldjkgddbfaabTf
import Derived.Test.YtceldjkgddbfaabTv
namespace Go.Proofs.Ytceldjkgddbfaab
open Go.RowKit Ieee

theorem getD_get {M : List (Option Nat)} {i : Nat} (h : i < M.length) : M.getD i none = M[i] := by simp [List.getD, h]
theorem lst_self {L : List (Option Nat)} {n : Nat} (h : L.length = n) : lst (fun j => L.getD j none) n = L := by
  apply List.ext_getElem
  · rw [lst_len, h]
  · intro i h1 h2
    have e1 := lst_at (F := fun j => L.getD j none) (j := i) (n := n) (by omega)
    rw [getD_get h1] at e1
    exact e1.trans (getD_get h2)
theorem RdF.take {w : World} {B n m : Nat} {A : Option Addr} {L : List (Option Nat)} (h : RdF w B A n L) (hm : m ≤ n) : RdF w B A m (L.take m) := by
  refine ⟨by rw [List.length_take, h.len]; omega, fun k hk => ?_⟩
  obtain ⟨b, off, hA, hb, hj⟩ := h.at_ k (by omega)
  refine ⟨b, off, hA, hb, fun j hjm => ?_⟩
  obtain ⟨r, h1, h2⟩ := hj j (by omega)
  refine ⟨r, h1, ?_⟩
  have : (L.take m).getD j none = L.getD j none := by simp [List.getD, hjm]
  rw [this]; exact h2

set_option maxRecDepth 20000 in
set_option maxHeartbeats 4000000 in
theorem c_l05Apply {w : World} {B n c : Nat} {A : Option Addr} {L : List (Option Nat)} (h : RdF w B A n L) (hB : B ≤ w.heap.size) (hn : n ≤ 1048576) {B' m c' : Nat} {A' : Option Addr} {M : List (Option Nat)} (h' : RdF w B' A' m M) (hB' : B' ≤ w.heap.size) (hm : m ≤ 1048576) :
    Calls Try.prog 64 #[.slice A n c, .slice A' m c'] w fun e w' => ∃ v, e = .returned v ∧ OwF w' w.heap.size v n (fun k => ffs M L (k : Int) m) ∧ Ext w w' := by
  have hl := Lib.hid h.len
  have hl' := Lib.hid h'.len
  obtain ⟨i0, hi, hz0, hz1, hz2⟩ := info_parts info_f32
  go_enter Try.func64, Try.ntmps64
  go_wp2_with (fail)
  go_loopw [5, 12] (fun v y wr => ∃ (k : Nat) (xs : List Value), k ≤ n ∧ y = .int .i64 k ∧ wr.ownsRow w.heap.size 28 1 v k xs ∧ (∀ j, j < k → ∃ r, xs[j]? = some (.float .f32 r) ∧ Fl .f32 r (ffs M L (j : Int) m)) ∧ Ext w wr) (fun _ y _ => n - (intOf y).toNat)
  case atStart => exact ⟨0, [], Nat.zero_le _, rfl, World.ownsRow_made _ _ 0 (Nat.le_refl _) (Nat.zero_le _) rfl, fun j hj => absurd hj (Nat.not_lt_zero _), (by repeat (first | assumption | exact Ext.refl _ | apply Ext.drewN | apply Ext.drew | apply Ext.alloc | (refine Ext.trans ?_ (by assumption)) | (refine Ext.set ?_ (by dsimp only; omega) _)))⟩
  case round =>
    obtain ⟨k, xs, hk, rfl, hown, hxs, hx⟩ := hrel
    have HX : Hid (∀ j, j < k → ∃ r, xs[j]? = some (.float .f32 r) ∧ Fl .f32 r ((fun k : Nat => ffs M L (k : Int) m) j)) := Lib.hid hxs
    have HO := Lib.hid hown
    clear hxs hown
    by_cases hlt : k < n
    · have hlt' : (k : Int) < (n : Int) := by omega
      go_wp2_with (fail)
      go_loopw [7, 8] (fun x z wq => ∃ (i r q : Nat), i ≤ m ∧ i ≤ k + 1 ∧ z = .int .i64 i ∧ x = .float .f32 r ∧ Fl .f32 r (ffs M L (k : Int) i) ∧ wq = wr.drewN q) (fun _ z _ => m - (intOf z).toNat)
      case atStart => exact ⟨0, 0, 0, Nat.zero_le _, Nat.zero_le _, rfl, rfl, fl_fz, rfl⟩
      case round =>
        obtain ⟨i, r, q, hi2, hi3, rfl, rfl, hr, rfl⟩ := hrel
        by_cases h1 : (i : Int) ≤ (k : Int)
        · by_cases h2 : i < m
          · have h2' : (i : Int) < (m : Int) := by omega
            obtain ⟨b1, o1, t1, rfl, hb1, hc1, ht1⟩ := (h'.below (hx.mono hB')).cell h2
            obtain ⟨d, hd⟩ : ∃ d : Nat, (k : Int) - (i : Int) = (d : Int) := ⟨((k : Int) - i).toNat, by omega⟩
            have hdm : d < n := by omega
            obtain ⟨b2, o2, t2, rfl, hb2, hc2, ht2⟩ := (h.below (hx.mono hB)).cell hdm
            have hT3 : ffs M L (k : Int) (i + 1) = fop .add .f32 (ffs M L (k : Int) i) (fop .mul .f32 (M.getD i none) (L.getD d none)) := by
              rw [ffs_yes (meet_yes h1 (by rw [hl.out]; omega)), hd, Int.toNat_natCast]
            have HT := Lib.hid hT3
            have i2 : (d : Int) < (n : Int) := by omega
            have hwr : IntKind.i64.wrap (d : Int) = (d : Int) := IntWalk.i64_in _ (by omega)
            clear hT3
            go_wp2_with (fail)
            go_region_with (first | (apply upon_fop rfl; (exact ht1); (exact ht2); intro r5 n5 hr5) | (apply upon_fop rfl; (exact hr); (exact hr5); intro r6 n6 hr6; rw [← HT.out] at hr6))
            all_goals
              go_wp2_with (fail)
              exact ⟨⟨i + 1, r6, _, by omega, by omega, by go_num, rfl, hr6, rfl⟩, by simp [intOf]; omega⟩
          · obtain rfl : i = m := by omega
            have hown := HO.out
            go_wp2_with (at_builtin; refine wpList_append_own _ rfl _ _ 22 rfl w.heap.size 28 i0 (.float .f32 0) 1 4 Try.underlying22 hi hz0 hz1 hz2 rfl (by decide) _ _ _ rfl (World.ownsRow.alloc (w := wr.drewN q) hown _) ⟨wr.heap.size, 0, none⟩ 1 1 [.float .f32 r] rfl rfl ?_ ?_ ?_ ?_ ?_ ?_)
            all_goals first
              | exact one_new (w := wr.drewN q)
              | (intro j0 u hj0; have h0 := one_new (w := wr.drewN q) j0 u hj0; have e0 : (⟨(wr.drewN q).heap.size, 0, none⟩ : Addr).add j0 = ⟨wr.heap.size, j0, none⟩ := (by rw [show (wr.drewN q).heap.size = wr.heap.size from rfl]; simp [Addr.add]; first | done | (intros; omega)); rw [e0] at h0; exact h0)
              | rfl
              | (intro u hu; simp at hu; subst hu; rfl)
              | (unfold maxLen; omega)
              | omega
              | (have := hx.size; simp; omega)
              | (intro v' w4 hown' hgrow _
                 have hl' : xs.length = k := by have := hown.1; omega
                 have hx' : Ext w w4 := grown_ext (Ext.alloc (Ext.drewN hx _) _) (World.ownsRow.alloc (w := wr.drewN q) hown _) hgrow
                 have HXX := Lib.hid (row_step hl' HX.out hr)
                 clear hown hgrow hx
                 go_wp2_with (fail)
                 exact ⟨⟨k + 1, _, by omega, by go_num, hown', HXX.out, hx'⟩, by simp [intOf]; omega⟩)
        · have hr' : Fl .f32 r (ffs M L (k : Int) m) := by
            rw [ffs_stop hi2 fun j j1 _ => meet_no (.inl (by omega))]; exact hr
          have hown := HO.out
          clear hr
          go_wp2_with (at_builtin; refine wpList_append_own _ rfl _ _ 22 rfl w.heap.size 28 i0 (.float .f32 0) 1 4 Try.underlying22 hi hz0 hz1 hz2 rfl (by decide) _ _ _ rfl (World.ownsRow.alloc (w := wr.drewN q) hown _) ⟨wr.heap.size, 0, none⟩ 1 1 [.float .f32 r] rfl rfl ?_ ?_ ?_ ?_ ?_ ?_)
          all_goals first
            | exact one_new (w := wr.drewN q)
            | (intro j0 u hj0; have h0 := one_new (w := wr.drewN q) j0 u hj0; have e0 : (⟨(wr.drewN q).heap.size, 0, none⟩ : Addr).add j0 = ⟨wr.heap.size, j0, none⟩ := (by rw [show (wr.drewN q).heap.size = wr.heap.size from rfl]; simp [Addr.add]; first | done | (intros; omega)); rw [e0] at h0; exact h0)
            | rfl
            | (intro u hu; simp at hu; subst hu; rfl)
            | (unfold maxLen; omega)
            | omega
            | (have := hx.size; simp; omega)
            | (intro v' w4 hown' hgrow _
               have hl' : xs.length = k := by have := hown.1; omega
               have hx' : Ext w w4 := grown_ext (Ext.alloc (Ext.drewN hx _) _) (World.ownsRow.alloc (w := wr.drewN q) hown _) hgrow
               have HXX := Lib.hid (row_step hl' HX.out hr')
               clear hown hgrow hx
               go_wp2_with (fail)
               exact ⟨⟨k + 1, _, by omega, by go_num, hown', HXX.out, hx'⟩, by simp [intOf]; omega⟩)
    · obtain rfl : k = n := by omega
      have hown := HO.out
      go_wp2_with (fail)
      go_ret
      exact ⟨_, rfl, ⟨xs, hown, HX.out⟩, hx⟩
def okAp (n m : Nat) : Bool := tlen n && tlen m
set_option maxRecDepth 20000 in
set_option maxHeartbeats 4000000 in
theorem c_impl_ApplyFilter {w : World} {B n c : Nat} {A : Option Addr} {L : List (Option Nat)} (h : RdF w B A n L) (hB : B ≤ w.heap.size) (hn : n ≤ 1048576) {B' m c' : Nat} {A' : Option Addr} {M : List (Option Nat)} (h' : RdF w B' A' m M) (hB' : B' ≤ w.heap.size) (hm : m ≤ 1048576) :
    Calls Try.prog 67 #[.slice A n c, .slice A' m c'] w fun e w' => RetL w e w' (okAp n m) (lst (fun k => ffs M L (k : Int) m) n) := by
  unfold okAp
  cases hV : tlen n
  · go_enter Try.func67, Try.ntmps67
    go_wp2_with (go_at_call 72; refine Calls.mono (c_IsTrace _ _ _ _) ?_; rw [hV]; rintro e w1 ⟨rfl, rfl⟩)
    go_ret2
    exact retL_no rfl (by repeat (first | assumption | exact Ext.refl _ | apply Ext.drewN | apply Ext.drew | apply Ext.alloc | (refine Ext.trans ?_ (by assumption)) | (refine Ext.set ?_ (by dsimp only; omega) _)))
  rw [Bool.true_and]
  cases hW : tlen m
  · go_enter Try.func67, Try.ntmps67
    go_wp2_with (first | (go_at_call 72; refine Calls.mono (c_IsTrace _ _ _ _) ?_; rw [hV]; rintro e w1 ⟨rfl, rfl⟩) | (go_at_call 72; refine Calls.mono (c_IsTrace _ _ _ _) ?_; rw [hW]; rintro e w1 ⟨rfl, rfl⟩))
    go_ret2
    exact retL_no rfl (by repeat (first | assumption | exact Ext.refl _ | apply Ext.drewN | apply Ext.drew | apply Ext.alloc | (refine Ext.trans ?_ (by assumption)) | (refine Ext.set ?_ (by dsimp only; omega) _)))
  have hm1 := (tlen_of hW).1
  have hmk := fun W => run_make_row' (P := Try.prog) 22 28 (.float .f32 0) 4 Try.underlying22 info_f32 rfl .i64 .i64 n (by omega) (by omega) W
  go_enter Try.func67, Try.ntmps67
  go_wp2_with (first | (go_at_call 72; refine Calls.mono (c_IsTrace _ _ _ _) ?_; rw [hV]; rintro e w1 ⟨rfl, rfl⟩) | (go_at_call 72; refine Calls.mono (c_IsTrace _ _ _ _) ?_; rw [hW]; rintro e w1 ⟨rfl, rfl⟩))
  go_loopw [21] (fun i wr => ∃ (k : Nat) (cs : Array Value), k ≤ n ∧ i = .int .i64 k ∧ wr.heap[w.heap.size]? = some (.cells cs 28 (0, 0)) ∧ cs.size = n ∧ (∀ j, j < k → ∃ r, cs[j]? = some (.float .f32 r) ∧ Fl .f32 r ((fun k : Nat => ffs M L (k : Int) m) j)) ∧ Ext w wr) (fun i _ => n - (intOf i).toNat)
  case atStart => exact ⟨0, _, Nat.zero_le _, rfl, heap_alloc_new _ _, size_madeCells _ _, fun j hj => absurd hj (Nat.not_lt_zero _), (by repeat (first | assumption | exact Ext.refl _ | apply Ext.drewN | apply Ext.drew | apply Ext.alloc | (refine Ext.trans ?_ (by assumption)) | (refine Ext.set ?_ (by dsimp only; omega) _)))⟩
  case round =>
    obtain ⟨k, cs, hk, rfl, hg, hsz, hxs, hx⟩ := hrel
    have HX := Lib.hid hxs
    have HG := Lib.hid hg
    have HS := Lib.hid hsz
    clear hxs hg hsz
    by_cases hlt : k < n
    · obtain ⟨u0, e0, z0⟩ := own_cell HG.out HS.out hlt
      have hlt' : (k : Int) < (n : Int) := by omega
      go_wp2_with (go_at_call 57; refine Calls.mono (c_foldAtG (h'.below (hx.mono hB')) hm (h.below (hx.mono hB)) hn (by omega) (by omega)) ?_; rintro e w_2 ⟨r5, rfl, hr5, n5, rfl⟩)
      exact ⟨⟨k + 1, cs.setIfInBounds k (.float .f32 r5), by omega, by go_num, by exact blk_set1 (w := World.drewN wr _) HG.out k _, by rw [Array.size_setIfInBounds]; exact HS.out, pre_setF (F := fun k : Nat => ffs M L (k : Int) m) (by have := HS.out; omega) HX.out hr5, (by repeat (first | assumption | exact Ext.refl _ | apply Ext.drewN | apply Ext.drew | apply Ext.alloc | (refine Ext.trans ?_ (by assumption)) | (refine Ext.set ?_ (by dsimp only; omega) _)))⟩, by simp [intOf]; omega⟩
    · obtain rfl : k = n := by omega
      have ho5 := own_lst HG.out HS.out HX.out
      go_wp2_with (fail)
      go_ret2
      exact ⟨_, _, _, rfl, ho5, hx⟩

end Go.Proofs.Ytceldjkgddbfaab
