/- Contracts: one number of a convolution, the product of which is told. Condition: the lists are read. -/
import Derived.Test.YtceldjkgddbfaabTr
namespace Go.Proofs.Ytceldjkgddbfaab
open Go.RowKit Ieee

set_option maxRecDepth 20000 in
set_option maxHeartbeats 4000000 in
theorem c_foldAtG {w : World} {B n c : Nat} {A : Option Addr} {L : List (Option Nat)} (h : RdF w B A n L) (hn : n ≤ 1048576) {B' m c' : Nat} {A' : Option Addr} {M : List (Option Nat)} (h' : RdF w B' A' m M) (hm : m ≤ 1048576) {k : Int} (hk0 : -1 ≤ k) (hk1 : k + 2 ≤ n + m) :
    Calls Try.prog 57 #[.slice A n c, .slice A' m c', .int .i64 k, .func (.func 58) #[] #[]] w fun e w' => ∃ r, e = .returned (.float .f32 r) ∧ Fl .f32 r (ffs L M k n) ∧ Dr w w' := by
  have hl := Lib.hid h.len
  have hl' := Lib.hid h'.len
  have hfirst : ∃ lo : Nat, (max 0 (k - m + 1) : Int) = (lo : Int) ∧ lo ≤ n ∧ (lo : Int) ≤ k + 1 ∧ k - m + 1 ≤ lo ∧ ffs L M k lo = fz := by
    refine ⟨(max 0 (k - m + 1) : Int).toNat, by omega, by omega, by omega, by omega, ffs_zero fun j hj => meet_no (.inr ?_)⟩
    rw [hl'.out]; omega
  obtain ⟨lo, hlo, l1, l2, l3, hLZ⟩ := hfirst
  have LZ := Lib.hid hLZ
  clear hLZ
  have hcase : (0 < k - (m : Int) + 1 ∧ k - (m : Int) + 1 = (lo : Int)) ∨ (¬ 0 < k - (m : Int) + 1 ∧ lo = 0) := by omega
  clear hlo
  rcases hcase with ⟨d1, d2⟩ | ⟨d1, d2⟩
  case' inr => have D2 := Lib.hid d2; clear d2
  all_goals
    go_enter Try.func57, Try.ntmps57
    go_wp2_with (fail)
    go_loopw [9, 10] (fun x y wr => ∃ (i r : Nat), lo ≤ i ∧ i ≤ n ∧ (i : Int) ≤ k + 1 ∧ y = .int .i64 i ∧ x = .float .f32 r ∧ Fl .f32 r (ffs L M k i) ∧ Dr w wr) (fun _ y _ => n - (intOf y).toNat)
    case atStart => exact ⟨lo, 0, Nat.le_refl _, l1, l2, by first | rfl | (congr 1; have := D2.out; omega), rfl, by rw [LZ.out]; exact fl_fz, 0, rfl⟩
    case round =>
      obtain ⟨i, r, g1, g2, g3, rfl, rfl, hr, q, rfl⟩ := hrel
      by_cases h1 : (i : Int) ≤ k
      · by_cases h2 : i < n
        · obtain ⟨b1, o1, t1, rfl, hb1, hc1, ht1⟩ := h.cell h2
          obtain ⟨d, hd⟩ : ∃ d : Nat, k - (i : Int) = (d : Int) := ⟨(k - i).toNat, by omega⟩
          have hdm : d < m := by omega
          obtain ⟨b2, o2, t2, rfl, hb2, hc2, ht2⟩ := h'.cell hdm
          have hT : ffs L M k (i + 1) = fop .add .f32 (ffs L M k i) (fop .mul .f32 (L.getD i none) (M.getD d none)) := by
            rw [ffs_yes (meet_yes h1 (by rw [hl'.out]; omega)), hd, Int.toNat_natCast]
          have HT := Lib.hid hT
          have h2' : (i : Int) < (n : Int) := by omega
          have hdm' : (d : Int) < (m : Int) := by omega
          have hwr : IntKind.i64.wrap (d : Int) = (d : Int) := IntWalk.i64_in _ (by omega)
          clear hT
          go_wp2_with (fail)
          go_region_with (first | (go_at_call 58; refine Calls.mono (c_mulNumbers ht1 ht2 _) ?_; rintro e w2 ⟨r5, rfl, hr5, n5, rfl⟩) | (apply upon_fop rfl; (exact hr); (exact hr5); intro r6 n6 hr6; rw [← HT.out] at hr6))
          all_goals
            go_wp2_with (fail)
            exact ⟨⟨i + 1, r6, by omega, by omega, by omega, by go_num, rfl, hr6, _, rfl⟩, by simp [intOf]; omega⟩
        · obtain rfl : i = n := by omega
          go_wp2_with (fail)
          go_ret
          exact ⟨r, rfl, hr, q, rfl⟩
      · have hT : ffs L M k n = ffs L M k i := ffs_stop g2 fun j j1 _ => meet_no (.inl (by omega))
        have HT := Lib.hid hT
        clear hT
        go_wp2_with (fail)
        go_ret
        exact ⟨r, rfl, by rw [HT.out]; exact hr, q, rfl⟩
end Go.Proofs.Ytceldjkgddbfaab
