/- Contracts: convolutions, on both sides. Condition: the lists are read. -/
import Derived.Test.YtcjddnkebdjhoacTv
namespace Go.Proofs.Ytcjddnkebdjhoac
open Go.RowKit Ieee

set_option maxRecDepth 20000 in
set_option maxHeartbeats 4000000 in
theorem c_l03Fold {w : World} {B n c : Nat} {A : Option Addr} {L : List (Option Nat)} (h : RdF w B A n L) (hn : n ≤ 1048576) {B' m c' : Nat} {A' : Option Addr} {M : List (Option Nat)} (h' : RdF w B' A' m M) (hm : m ≤ 1048576) (hB : B ≤ w.heap.size) (hB' : B' ≤ w.heap.size) {N : Nat} (hN : n + m = N + 1) :
    Calls Try.prog 120 #[.slice A n c, .slice A' m c'] w fun e w' => ∃ v, e = .returned v ∧ OwF w' w.heap.size v N (ffold L M) ∧ Ext w w' := by
  have hl := Lib.hid h.len
  have hl' := Lib.hid h'.len
  obtain ⟨i0, hi, hz0, hz1, hz2⟩ := info_parts info_f32
  have hNi : (n : Int) + (m : Int) - 1 = (N : Int) := by omega
  go_enter Try.func120, Try.ntmps120
  go_wp2_with (fail)
  go_loopw [5, 6] (fun v y wr => ∃ (k : Nat) (xs : List Value), k ≤ N ∧ y = .int .i64 k ∧ wr.ownsRow w.heap.size 31 1 v k xs ∧ (∀ j, j < k → ∃ r, xs[j]? = some (.float .f32 r) ∧ Fl .f32 r (ffold L M j)) ∧ Ext w wr) (fun _ y _ => N - (intOf y).toNat)
  case atStart => exact ⟨0, [], Nat.zero_le _, rfl, World.ownsRow_made _ _ 0 (Nat.le_refl _) (Nat.zero_le _) rfl, fun j hj => absurd hj (Nat.not_lt_zero _), (by repeat (first | assumption | exact Ext.refl _ | apply Ext.drewN | apply Ext.drew | apply Ext.alloc | (refine Ext.trans ?_ (by assumption)) | (refine Ext.set ?_ (by dsimp only; omega) _)))⟩
  case round =>
    obtain ⟨k, xs, hk, rfl, hown, hxs, hx⟩ := hrel
    have HX := Lib.hid hxs
    have HO := Lib.hid hown
    clear hxs hown
    by_cases hlt : k < N
    · have hlt' : (k : Int) < (N : Int) := by omega
      go_wp2_with (fail)
      go_loopw [7, 22] (fun x z wq => ∃ (i r q : Nat), i ≤ n ∧ z = .int .i64 i ∧ x = .float .f32 r ∧ Fl .f32 r (ffs L M k i) ∧ wq = wr.drewN q) (fun _ z _ => n - (intOf z).toNat)
      case atStart => exact ⟨0, 0, 0, Nat.zero_le _, rfl, rfl, fl_fz, rfl⟩
      case round =>
        obtain ⟨i, r, q, hi2, rfl, rfl, hr, rfl⟩ := hrel
        by_cases h2 : i < n
        · have h2' : (i : Int) < (n : Int) := by omega
          obtain ⟨b1, o1, t1, rfl, hb1, hc1, ht1⟩ := (h.below (hx.mono hB)).cell h2
          have hwr : IntKind.i64.wrap ((k : Int) - (i : Int)) = (k : Int) - (i : Int) := IntWalk.i64_in _ (by omega)
          cases hT : meet k M.length i
          · have hT2 := Lib.hid (ffs_no (L := L) hT)
            by_cases h3 : (i : Int) ≤ k
            · have i1 : (0 : Int) ≤ (k : Int) - (i : Int) := by omega
              have i2 : ¬ (k : Int) - (i : Int) < (m : Int) := by
                intro h4
                rw [meet_yes h3 (by rw [hl'.out]; exact h4)] at hT; cases hT
              clear hT h3
              go_wp2_with (fail)
              exact ⟨⟨i + 1, r, q, by omega, by go_num, rfl, by rw [hT2.out]; exact hr, rfl⟩, by simp [intOf]; omega⟩
            · have i1 : ¬ (0 : Int) ≤ (k : Int) - (i : Int) := by omega
              clear hT h3
              go_wp2_with (fail)
              exact ⟨⟨i + 1, r, q, by omega, by go_num, rfl, by rw [hT2.out]; exact hr, rfl⟩, by simp [intOf]; omega⟩
          · obtain ⟨m1, m2⟩ := meet_of hT
            rw [hl'.out] at m2
            obtain ⟨d, hd⟩ : ∃ d : Nat, (k : Int) - (i : Int) = (d : Int) := ⟨((k : Int) - i).toNat, by omega⟩
            have hdm : d < m := by omega
            obtain ⟨b2, o2, t2, rfl, hb2, hc2, ht2⟩ := (h'.below (hx.mono hB')).cell hdm
            have hT3 : ffs L M k (i + 1) = fop .add .f32 (ffs L M k i) (fop .mul .f32 (L.getD i none) (M.getD d none)) := by
              rw [ffs_yes hT, hd, Int.toNat_natCast]
            have HT := Lib.hid hT3
            have i2 : (d : Int) < (m : Int) := by omega
            rw [hd] at hwr
            clear hT hT3 m1 m2
            go_wp2_with (fail)
            go_region_with (first | (apply upon_fop rfl; (exact ht1); (exact ht2); intro r5 n5 hr5) | (apply upon_fop rfl; (exact hr); (exact hr5); intro r6 n6 hr6; rw [← HT.out] at hr6))
            all_goals
              go_wp2_with (fail)
              exact ⟨⟨i + 1, r6, _, by omega, by go_num, rfl, hr6, rfl⟩, by simp [intOf]; omega⟩
        · obtain rfl : i = n := by omega
          have hr2 : Fl .f32 r (ffold L M k) := by unfold ffold; rw [hl.out]; exact hr
          have hown := HO.out
          clear hr
          go_wp2_with (at_builtin; refine wpList_append_own _ rfl _ _ 25 rfl w.heap.size 31 i0 (.float .f32 0) 1 4 Try.underlying25 hi hz0 hz1 hz2 rfl (by decide) _ _ _ rfl (World.ownsRow.alloc (w := wr.drewN q) hown _) ⟨wr.heap.size, 0, none⟩ 1 1 [.float .f32 r] rfl rfl ?_ ?_ ?_ ?_ ?_ ?_)
          all_goals first
            | exact one_new (w := wr.drewN q)
            | (intro u hu; simp at hu; subst hu; rfl)
            | (unfold maxLen; omega)
            | omega
            | (have := hx.size; simp; omega)
            | (intro v' w4 hown' hgrow _
               have hl' : xs.length = k := by have := hown.1; omega
               have hx' : Ext w w4 := grown_ext (Ext.alloc (Ext.drewN hx q) _) (World.ownsRow.alloc (w := wr.drewN q) hown _) hgrow
               have HXX := Lib.hid (row_step hl' HX.out hr2)
               clear hown hgrow hx
               go_wp2_with (fail)
               exact ⟨⟨k + 1, _, by omega, by go_num, hown', HXX.out, hx'⟩, by simp [intOf]; omega⟩)
    · obtain rfl : k = N := by omega
      have hown := HO.out
      go_wp2_with (fail)
      go_ret
      exact ⟨_, rfl, ⟨xs, hown, HX.out⟩, hx⟩
end Go.Proofs.Ytcjddnkebdjhoac
