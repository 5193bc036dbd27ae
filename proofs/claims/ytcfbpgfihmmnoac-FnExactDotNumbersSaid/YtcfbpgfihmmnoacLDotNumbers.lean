/- The law FnExactDotNumbers: every call of the law returns true and leaves the memory that was there as it was, whatever the arguments. No condition. -/
import Derived.Test.YtcfbpgfihmmnoacOpen
import Derived.Test.YtcfbpgfihmmnoacC2
namespace Go.Proofs.Ytcfbpgfihmmnoac
open Go.RowKit Ieee

set_option maxHeartbeats 1000000 in
theorem c_dotLists_no {w : World} {n n' c c' : Nat} {A A' : Option Addr} (hn : n ≠ n' ∨ 256 < n) (f : Value) :
    Calls Try.prog 31 #[.slice A n c, .slice A' n' c', f] w fun e w' => e = .returned (.tuple #[.float .f32 0, .bool false]) ∧ w = w' := by
  by_cases h1 : n = n'
  · have h2 : (256 : Int) < n := by omega
    have h3 : ((n : Int) != (n' : Int)) = false := by simp [h1]
    clear h1 hn
    go_enter Try.func31, Try.ntmps31
    go_wp2
    go_ret2
    exact ⟨rfl, rfl⟩
  · have h3 : ((n : Int) != (n' : Int)) = true := by rw [bne_iff_ne]; omega
    clear h1 hn
    go_enter Try.func31, Try.ntmps31
    go_wp2
    go_ret2
    exact ⟨rfl, rfl⟩

theorem size_drewN (w : World) (m : Nat) : (w.drewN m).heap.size = w.heap.size := rfl

set_option maxHeartbeats 4000000 in
theorem w_FnExactDotNumbers {v v' : Value} {w : World} (o : ∃ A n c L, v = .slice A n c ∧ n ≤ maxLen ∧ RdF w w.heap.size A n L) (o' : ∃ A n c L, v' = .slice A n c ∧ n ≤ maxLen ∧ RdF w w.heap.size A n L) :
    Calls Try.prog 4 #[v, v'] w fun e w' => e = .returned (.bool true) ∧ Below w.heap.size w w' := by
  obtain ⟨A, n, c, L, rfl, hm, h⟩ := o
  obtain ⟨A', n', c', L', rfl, hm', h'⟩ := o'
  unfold maxLen at hm hm'
  by_cases hn : n ≤ 1048576
  · by_cases hn' : n' ≤ 1048576
    · go_enter Try.func4, Try.ntmps4
      go_wp2_with (fail)
      refine (c_toFloat32S h (Nat.le_refl _) hn).mono ?_
      rintro e w1 ⟨rfl, h1, hb1, hs1⟩
      go_wp2_with (fail)
      refine (c_toFloat32S (h'.below hb1) (Nat.le_of_lt hs1) hn').mono ?_
      rintro e w2 ⟨rfl, h2, hb2, hs2⟩
      have hB2 : Below w.heap.size w w2 := hb1.trans (hb2.mono (Nat.le_of_lt hs1))
      have h1' := h1.below (hb2.mono hs1)
      by_cases hf : n = n' ∧ n ≤ 256
      · obtain ⟨rfl, hf⟩ := hf
        have hf' : decide ((n : Int) ≤ 256) = true := by simp; omega
        have hnn : ((n : Int) != (n : Int)) = false := by simp
        go_wp2_with (first | (go_at_call 30; refine (c_l01Dot h1' h2 hn).mono ?_; rintro e w' ⟨r1, rfl, hr1, m1, rfl⟩) | (go_at_call 12; go_in) | (go_at_call 27; go_in))
        have hB3 := below_drewN hB2 m1
        refine (c_toFloat32S (h.below hB3) hB3.size hn).mono ?_
        rintro e w3 ⟨rfl, h3, hb3, hs3⟩
        have hB4 := hB3.trans (hb3.mono hB3.size)
        go_wp2_with (fail)
        refine (c_toFloat32S (h'.below hB4) hB4.size hn).mono ?_
        rintro e w4 ⟨rfl, h4, hb4, hs4⟩
        have hB5 := hB4.trans (hb4.mono hB4.size)
        have h3' := h3.below (hb4.mono hs3)
        go_wp2_with (first | (go_at_call 31; refine (c_dotLists h3' h4 hf).mono ?_; rintro e w' ⟨r2, rfl, hr2, m2, rfl⟩) | (go_at_call 13; go_in) | (apply upon_wide s_f32 Try.underlying28; (first | assumption | exact Fl.const (of_decide_eq_true (by kernel_rfl))); intro r n hr) | (go_at_call 10; refine Calls.mono (c_sameFloat (by assumption) (by assumption) _) ?_; rintro e w' ⟨rfl, n3, rfl⟩))
        refine (c_toFloat32S ((h.below hB5).drewN _) hB5.size hn).mono ?_
        rintro e w5 ⟨rfl, h5, hb5, hs5⟩
        have hB6 := (below_drewN hB5 _).trans (hb5.mono hB5.size)
        have hx0 := (h3'.drewN _).below (hb5.mono (by simp only [size_drewN] at *; omega))
        have hx1 := (h4.drewN _).below (hb5.mono hs4)
        go_wp2_with (go_at_call 11; refine (c_eqFloat32S hx0 h5 hn).mono ?_; rintro e w' ⟨rfl, n4, rfl⟩)
        refine (c_toFloat32S ((h'.below hB6).drewN _) hB6.size hn).mono ?_
        rintro e w6 ⟨rfl, h6, hb6, hs6⟩
        have hx2 := (hx1.drewN _).below (hb6.mono (by simp only [size_drewN] at *; omega))
        go_wp2_with (go_at_call 11; refine (c_eqFloat32S hx2 h6 hn).mono ?_; rintro e w' ⟨rfl, n4, rfl⟩)
        go_ret
        exact ⟨rfl, below_drewN ((below_drewN hB6 _).trans (hb6.mono hB6.size)) _⟩
      · have hne : n ≠ n' ∨ 256 < n := by omega
        have f0 : Fl .f32 0 (some 0) := ⟨fl32_zero, by decide⟩
        have hsd : ∀ (W : World) (a b : Value), a = .slice (some ⟨w.heap.size, 0, none⟩) n n → b = .slice (some ⟨w1.heap.size, 0, none⟩) n' n' → Calls Try.prog 12 #[a, b] W fun e w' => e = .returned (.tuple #[.float .f32 0, .bool false]) ∧ W = w' := by
          rintro W a b rfl rfl
          by_cases hd : n ≤ 256
          · have hd1 : decide ((n : Int) ≤ 256) = true := by simp; omega
            have hd2 : ((n : Int) != (n' : Int)) = true := by rw [bne_iff_ne]; omega
            clear hne h1' h2 h1 hb1 hb2 hB2
            go_enter Try.func12, Try.ntmps12
            go_wp2
            go_ret2
            exact ⟨rfl, rfl⟩
          · have hd1 : decide ((n : Int) ≤ 256) = false := by simp; omega
            clear hne h1' h2 h1 hb1 hb2 hB2
            go_enter Try.func12, Try.ntmps12
            go_wp2
            go_ret2
            exact ⟨rfl, rfl⟩
        have HSD := Lib.hid hsd
        clear hsd
        go_wp2_with (go_at_call 12; refine (HSD.out _ _ _ rfl rfl).mono ?_; rintro e w' ⟨rfl, rfl⟩)
        refine (c_toFloat32S (h.below hB2) hB2.size hn).mono ?_
        rintro e w3 ⟨rfl, h3, hb3, hs3⟩
        have hB4 := hB2.trans (hb3.mono hB2.size)
        go_wp2_with (fail)
        refine (c_toFloat32S (h'.below hB4) hB4.size hn').mono ?_
        rintro e w4 ⟨rfl, h4, hb4, hs4⟩
        have hB5 := hB4.trans (hb4.mono hB4.size)
        have h3' := h3.below (hb4.mono hs3)
        go_wp2_with (first | (go_at_call 31; refine (c_dotLists_no hne _).mono ?_; rintro e w' ⟨rfl, rfl⟩) | (go_at_call 13; go_in) | (apply upon_wide s_f32 Try.underlying28; (first | assumption | exact Fl.const (of_decide_eq_true (by kernel_rfl))); intro r n hr) | (go_at_call 10; refine Calls.mono (c_sameFloat (by assumption) (by assumption) _) ?_; rintro e w' ⟨rfl, n3, rfl⟩))
        refine (c_toFloat32S ((h.below hB5).drewN _) hB5.size hn).mono ?_
        rintro e w5 ⟨rfl, h5, hb5, hs5⟩
        have hB6 := (below_drewN hB5 _).trans (hb5.mono hB5.size)
        have hx0 := (h3'.drewN _).below (hb5.mono (by simp only [size_drewN] at *; omega))
        have hx1 := (h4.drewN _).below (hb5.mono hs4)
        go_wp2_with (go_at_call 11; refine (c_eqFloat32S hx0 h5 hn).mono ?_; rintro e w' ⟨rfl, n4, rfl⟩)
        refine (c_toFloat32S ((h'.below hB6).drewN _) hB6.size hn').mono ?_
        rintro e w6 ⟨rfl, h6, hb6, hs6⟩
        have hx2 := (hx1.drewN _).below (hb6.mono (by simp only [size_drewN] at *; omega))
        go_wp2_with (go_at_call 11; refine (c_eqFloat32S hx2 h6 hn').mono ?_; rintro e w' ⟨rfl, n4, rfl⟩)
        go_ret
        exact ⟨rfl, below_drewN ((below_drewN hB6 _).trans (hb6.mono hB6.size)) _⟩
    · have hn1 : (1048576 : Int) < n' := by omega
      have hn2 : decide ((1048576 : Int) < n) = false := by simp; omega
      go_enter Try.func4, Try.ntmps4
      go_wp2
      go_ret
      exact ⟨rfl, Below.refl _ _⟩
  · have hn' : (1048576 : Int) < n := by omega
    go_enter Try.func4, Try.ntmps4
    go_wp2
    go_ret
    exact ⟨rfl, Below.refl _ _⟩
open Go.ChangeShapes Go.WideShapes Go.ChangeAt Go.ChangeMaps in
theorem FnExactDotNumbers_holds : Rows.FnExactDotNumbersSaid :=
  OpenClaim.holds_of_wide 4 Try.f4 rfl rfl rfl rfl rfl rfl rfl ⟨rfl, rfl, rfl, rfl, rfl⟩ rfl rfl rfl rfl rfl (by kernel_rfl) Try.func4 (by kernel_rfl)
    (of_decide_eq_true (by kernel_rfl)) (by unfold Func.isWrapper; first | (rw [if_pos (by decide +kernel)]; kernel_rfl) | (rw [if_neg (by decide +kernel)]; exact ⟨rfl, rfl⟩))
    (fun os started H enc _ => law_lifted os started H enc 4 Try.f4 Rows.fnExactDotNumbersSpec (by kernel_rfl) Try.func4
      (ChangeSpec.witness6 (enc := enc) (C := Try.checked) false ⟨#[], #[.slice none 0 0, .slice none 0 0], []⟩ 8 (by kernel_rfl) (by kernel_rfl) (by kernel_rfl) (by kernel_rfl))
      (by rw [Try.params4]; intro t ht; simp at ht; subst ht <;> exact ⟨by kernel_rfl, of_decide_eq_true (by kernel_rfl)⟩) rfl 4 (by kernel_rfl) Try.underlying4
      (by intro ds hds; rw [Try.params4] at hds; match ds, hds with | [_, _], _ => rfl)
      (by
        intro W base args ds ps hval hA hlt
        rw [Try.params4] at hA hval
        obtain ⟨v0, v1, d0, d1, p0, p1, rfl, rfl, rfl, h0, h1⟩ := trodAll_two hA
        have o0 := open_floats Try.underlying22 Try.underlying23 cells_f32 (hval 0 22 v0 rfl rfl) h0 (fun x hx => hlt x (by simp [hx]))
        have o1 := open_floats Try.underlying22 Try.underlying23 cells_f32 (hval 1 22 v1 rfl rfl) h1 (fun x hx => hlt x (by simp [hx]))
        exact w_FnExactDotNumbers (w := W) o0 o1))

end Go.Proofs.Ytcfbpgfihmmnoac
