/- Contracts: products of a pilot and a shifted trace, on both sides. Condition: both lists are read and of one length. -/
import Derived.Test.YtbdmdpaggnaneaaYj
namespace Go.Proofs.Ytbdmdpaggnaneaa
open Go.RowKit Ieee

/-- The sum of the first k products that are there. -/
def fmt (L T : List (Option Nat)) (n : Nat) (v : Int) : Nat → Option Nat
  | 0 => fz
  | k + 1 => if inB ((k : Int) + v) 0 ((n : Int) - 1) then fop .add .f32 (fmt L T n v k) (fop .mul .f32 (L.getD k none) (T.getD ((k : Int) + v).toNat none)) else fmt L T n v k
theorem fmt_in {L T : List (Option Nat)} {n k : Nat} {v : Int} (h : inB ((k : Int) + v) 0 ((n : Int) - 1) = true) : fmt L T n v (k + 1) = fop .add .f32 (fmt L T n v k) (fop .mul .f32 (L.getD k none) (T.getD ((k : Int) + v).toNat none)) := by
  show (if _ then _ else _) = _
  rw [h]; rfl
theorem fmt_out {L T : List (Option Nat)} {n k : Nat} {v : Int} (h : inB ((k : Int) + v) 0 ((n : Int) - 1) = false) : fmt L T n v (k + 1) = fmt L T n v k := by
  show (if _ then _ else _) = _
  rw [h]; rfl
theorem fmt_dot {L T : List (Option Nat)} {n lo hi d : Nat} {v : Int} (h1 : (v ≤ 0 ∧ (lo : Int) = -v ∧ hi = 0) ∨ (0 ≤ v ∧ lo = 0 ∧ (hi : Int) = v)) (h2 : n ≤ lo + hi ∧ d = 0 ∨ lo + hi + d = n) :
    ∀ k, k ≤ n → fmt L T n v k = fdot ((lst (fun j => L.getD (lo + j) none) d).take (k - lo)) ((lst (fun j => T.getD (hi + j) none) d).take (k - lo)) := by
  intro k
  induction k with
  | zero => intro _; simp [fdot, fmt, fz]; exact fl32_zero
  | succ k ih =>
    intro hk
    have ih := ih (by omega)
    by_cases ha : lo ≤ k ∧ k - lo < d
    · rw [fmt_in (inB_yes (by omega) (by omega)), ih, show k + 1 - lo = (k - lo) + 1 by omega, fdot_succ _ _ (k - lo) (by rw [lst_len]; exact ha.2) (by rw [lst_len]; exact ha.2), lst_at ha.2, lst_at ha.2, show lo + (k - lo) = k by omega, show ((k : Int) + v).toNat = hi + (k - lo) by omega]
    · by_cases hb : k < lo
      · rw [fmt_out (inB_lo (by omega)), ih, show k + 1 - lo = k - lo by omega]
      · rw [fmt_out (by
          rcases h2 with h2 | h2
          · rcases Int.lt_or_le ((k : Int) + v) 0 with h3 | h3
            · exact inB_lo h3
            · exact inB_hi (by omega)
          · exact inB_hi (by omega)), ih, List.take_of_length_le (by rw [lst_len]; omega), List.take_of_length_le (by rw [lst_len]; omega), List.take_of_length_le (by rw [lst_len]; omega), List.take_of_length_le (by rw [lst_len]; omega)]
theorem fmt_all {L T : List (Option Nat)} {n lo hi d : Nat} {v : Int} (h1 : (v ≤ 0 ∧ (lo : Int) = -v ∧ hi = 0) ∨ (0 ≤ v ∧ lo = 0 ∧ (hi : Int) = v)) (h2 : n ≤ lo + hi ∧ d = 0 ∨ lo + hi + d = n) :
    fmt L T n v n = fdot (lst (fun j => L.getD (lo + j) none) d) (lst (fun j => T.getD (hi + j) none) d) := by
  rw [fmt_dot h1 h2 n (Nat.le_refl _), List.take_of_length_le (by rw [lst_len]; omega), List.take_of_length_le (by rw [lst_len]; omega)]
set_option maxRecDepth 20000 in
set_option maxHeartbeats 8000000 in
theorem c_l04Match {w : World} {B B' n c c' : Nat} {A A' : Option Addr} {L T : List (Option Nat)} {v : Int} (h : RdF w B A n L) (h' : RdF w B' A' n T) (hn : n ≤ 64) (hv0 : -64 ≤ v) (hv1 : v ≤ 64) :
    Calls Try.prog 89 #[.slice A n c, .slice A' n c', .int .i64 v] w fun e w' => ∃ r, e = .returned (.float .f32 r) ∧ Fl .f32 r (fmt L T n v n) ∧ Dr w w' := by
  have hw3 : IntKind.i64.wrap ((n : Int) - 1) = (n : Int) - 1 := IntWalk.i64_in _ (by omega)
  go_enter Try.func89, Try.ntmps89
  go_wp2_with (fail)
  go_loopw [7, 8] (fun s i wr => ∃ k r : Nat, k ≤ n ∧ i = .int .i64 k ∧ s = .float .f32 r ∧ Fl .f32 r (fmt L T n v k) ∧ Dr w wr) (fun _ i _ => n - (intOf i).toNat)
  case atStart => exact ⟨0, 0, Nat.zero_le _, rfl, rfl, fl_fz, 0, rfl⟩
  case round =>
    obtain ⟨k, r, hk, rfl, rfl, hr, m, rfl⟩ := hrel
    by_cases hlt : k < n
    · have hlt' : (k : Int) < (n : Int) := by omega
      have hw1 : IntKind.i64.wrap ((k : Int) + v) = (k : Int) + v := IntWalk.i64_in _ (by omega)
      have cI := fun W : World => c_l00In ((k : Int) + v) 0 ((n : Int) - 1) W
      have CI := Lib.hid cI
      clear cI
      cases hin : inB ((k : Int) + v) 0 ((n : Int) - 1)
      · have HF := Lib.hid (fmt_out (L := L) (T := T) hin)
        have HIN := Lib.hid hin
        go_wp2_with (first | (go_at_call 88; refine Calls.mono (CI.out _) ?_; rintro e w1 ⟨rfl, rfl⟩; rw [HIN.out]))
        exact ⟨⟨k + 1, r, by omega, by go_num, rfl, by rw [HF.out]; exact hr, _, rfl⟩, by simp [intOf]; omega⟩
      · obtain ⟨i1, i2⟩ := inB_of hin
        obtain ⟨t, ht⟩ : ∃ t : Nat, (k : Int) + v = (t : Int) := ⟨((k : Int) + v).toNat, by omega⟩
        have hF := fmt_in (L := L) (T := T) hin
        rw [ht, Int.toNat_natCast] at hF
        rw [ht] at hw1 CI hin
        have hlt2 : t < n := by omega
        have hlt2' : (t : Int) < (n : Int) := by omega
        obtain ⟨b, off, q, rfl, hb, hc, hq⟩ := h.cell hlt
        obtain ⟨b', off', q', rfl, hb', hc', hq'⟩ := h'.cell hlt2
        have HF := Lib.hid hF
        have HIN := Lib.hid hin
        clear hF hin i1 i2
        go_wp2_with (first | (go_at_call 88; refine Calls.mono (CI.out _) ?_; rintro e w1 ⟨rfl, rfl⟩; rw [HIN.out]))
        go_region_with ((apply upon_fop rfl; (first | assumption | exact Fl.const (of_decide_eq_true (by kernel_rfl))); (first | assumption | exact Fl.const (of_decide_eq_true (by kernel_rfl))); intro r n hr))
        all_goals
          go_wp2
          exact ⟨⟨k + 1, _, by omega, by go_num, rfl, by rw [HF.out]; assumption, _, rfl⟩, by simp [intOf]; omega⟩
    · have hkn : k = n := by omega
      go_wp2_with (fail)
      go_ret
      exact ⟨r, rfl, by rw [hkn] at hr; exact hr, m, rfl⟩
set_option maxRecDepth 20000 in
set_option maxHeartbeats 4000000 in
theorem c_windowOf_no {w : World} {n c b off : Nat} {i j : Int} (hn : 0 < n) (h : (j ≤ n ∧ j ≤ i) ∨ (j ≤ 0) ∨ (n ≤ i)) :
    Calls Try.prog 83 #[.slice (some ⟨b, off, none⟩) n c, .int .i64 i, .int .i64 j] w fun e w' => e = .returned (.slice none 0 0) ∧ w = w' := by
  by_cases h1 : i < 0
  · have h2 : ¬ ((n : Int) < j) := by omega
    have h3 : j ≤ 0 := by omega
    clear h
    go_enter Try.func83, Try.ntmps83
    go_wp2_with (fail)
    go_ret
    exact ⟨rfl, rfl⟩
  · by_cases h2 : (n : Int) < j
    · have h3 : (n : Int) ≤ i := by omega
      clear h
      go_enter Try.func83, Try.ntmps83
      go_wp2_with (fail)
      go_ret
      exact ⟨rfl, rfl⟩
    · have h3 : j ≤ i := by omega
      clear h
      go_enter Try.func83, Try.ntmps83
      go_wp2_with (fail)
      go_ret
      exact ⟨rfl, rfl⟩
theorem rdf_nil {w : World} {B : Nat} : RdF w B none 0 [] := ⟨rfl, fun _ hk => absurd hk (Nat.not_lt_zero _)⟩
set_option maxRecDepth 20000 in
set_option maxHeartbeats 8000000 in
theorem c_productShifted {w : World} {B B' n c c' b b' off off' : Nat} {L T : List (Option Nat)} {v : Int} (h : RdF w B (some ⟨b, off, none⟩) n L) (h' : RdF w B' (some ⟨b', off', none⟩) n T) (hn0 : 0 < n) (hn : n ≤ 64) (hc : n ≤ c) (hc' : n ≤ c') (hv0 : -64 ≤ v) (hv1 : v ≤ 64) :
    Calls Try.prog 90 #[.slice (some ⟨b, off, none⟩) n c, .slice (some ⟨b', off', none⟩) n c', .int .i64 v] w fun e w' => ∃ r, e = .returned (.float .f32 r) ∧ Fl .f32 r (fmt L T n v n) ∧ Dr w w' := by
  have hw1 : IntKind.i64.wrap (-v) = -v := IntWalk.i64_in _ (by omega)
  have hw2 : IntKind.i64.wrap ((n : Int) - v) = (n : Int) - v := IntWalk.i64_in _ (by omega)
  have hw3 : IntKind.i64.wrap ((n : Int) + v) = (n : Int) + v := IntWalk.i64_in _ (by omega)
  have c0 : ∀ W, Calls Try.prog 116 #[.slice none 0 0, .slice none 0 0, .func (.func 54) #[] #[]] W fun e w' => ∃ r, e = .returned (.tuple #[.float .f32 r, .bool true]) ∧ Fl .f32 r (fdot [] []) ∧ Dr W w' := fun W => c_dotLists (B := 0) (B' := 0) rdf_nil rdf_nil (by omega)
  by_cases hd : v < n ∧ -v < n
  · obtain ⟨lo, hi, d, h1, h2, h3⟩ : ∃ lo hi d : Nat, ((v ≤ 0 ∧ (lo : Int) = -v ∧ hi = 0) ∨ (0 ≤ v ∧ lo = 0 ∧ (hi : Int) = v)) ∧ lo + hi + d = n ∧ 0 < d := by
      refine ⟨(-v).toNat, v.toNat, n - v.natAbs, ?_, ?_, ?_⟩ <;> omega
    have hF := fmt_all (L := L) (T := T) h1 (.inr h2)
    have cA := fun W : World => c_windowOf (w := W) (n := n) (c := c) (b := b) (off := off) (lo := lo) (d := d) (i := -v) (j := (n : Int) - v) hn hc (by omega) (by omega) h3
    have cB := fun W : World => c_windowOf (w := W) (n := n) (c := c') (b := b') (off := off') (lo := hi) (d := d) (i := v) (j := (n : Int) + v) hn hc' (by omega) (by omega) h3
    have cD := c_dotLists (c := d) (c' := d) (h.sub (lo := lo) (d := d) (by omega)) (h'.sub (lo := hi) (d := d) (by omega)) (by omega)
    have HF := Lib.hid hF
    have CA := Lib.hid cA
    have CB := Lib.hid cB
    have CD := Lib.hid cD
    clear hF cA cB cD c0 h1 h2 hd
    go_enter Try.func90, Try.ntmps90
    go_wp2_with (first | (go_at_call_of 83 b; refine Calls.mono (CA.out _) ?_; rintro e w1 ⟨rfl, rfl⟩) | (go_at_call_of 83 b'; refine Calls.mono (CB.out _) ?_; rintro e w2 ⟨rfl, rfl⟩) | (go_at_call 116; refine Calls.mono CD.out ?_; rintro e w' ⟨r, rfl, hr, m, rfl⟩) | (go_at_call 106; go_in))
    go_ret
    exact ⟨r, rfl, by rw [HF.out]; exact hr, _, rfl⟩
  · obtain ⟨lo, hi, h1, h2⟩ : ∃ lo hi : Nat, ((v ≤ 0 ∧ (lo : Int) = -v ∧ hi = 0) ∨ (0 ≤ v ∧ lo = 0 ∧ (hi : Int) = v)) ∧ n ≤ lo + hi := by
      refine ⟨(-v).toNat, v.toNat, ?_, ?_⟩ <;> omega
    have hF := fmt_all (L := L) (T := T) h1 (.inl ⟨h2, rfl⟩)
    have cA := fun W : World => c_windowOf_no (w := W) (n := n) (c := c) (b := b) (off := off) (i := -v) (j := (n : Int) - v) hn0 (by omega)
    have cB := fun W : World => c_windowOf_no (w := W) (n := n) (c := c') (b := b') (off := off') (i := v) (j := (n : Int) + v) hn0 (by omega)
    have HF := Lib.hid hF
    have CA := Lib.hid cA
    have CB := Lib.hid cB
    have CD := Lib.hid c0
    clear hF cA cB c0 h1 h2 hd
    go_enter Try.func90, Try.ntmps90
    go_wp2_with (first | (go_at_call_of 83 b; refine Calls.mono (CA.out _) ?_; rintro e w1 ⟨rfl, rfl⟩) | (go_at_call_of 83 b'; refine Calls.mono (CB.out _) ?_; rintro e w2 ⟨rfl, rfl⟩) | (go_at_call 116; refine Calls.mono (CD.out _) ?_; rintro e w' ⟨r, rfl, hr, m, rfl⟩) | (go_at_call 106; go_in))
    go_ret
    exact ⟨r, rfl, by rw [HF.out]; exact hr, _, rfl⟩
end Go.Proofs.Ytbdmdpaggnaneaa
