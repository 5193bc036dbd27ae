/- Contracts: products of a pilot and a shifted trace, on both sides, of what is shared with filters. Condition: both lists are read and of one length. -/
import Derived.Test.YtceldjkgddbfaabYf
import Derived.Test.YtceldjkgddbfaabRa
import Derived.Test.YtceldjkgddbfaabYz
namespace Go.Proofs.Ytceldjkgddbfaab
open Go.RowKit Ieee

/-- The sum of the first k products that are there. -/
def fmt (L T : List (Option Nat)) (n : Nat) (v : Int) : Nat → Option Nat
  | 0 => fz
  | k + 1 => if inB ((k : Int) + v) 0 ((n : Int) - 1) then fop .add .f32 (fmt L T n v k) (fop .mul .f32 (L.getD k none) (T.getD ((k : Int) + v).toNat none)) else fmt L T n v k
theorem fmt_in {L T : List (Option Nat)} {n k : Nat} {v : Int} (h : inB ((k : Int) + v) 0 ((n : Int) - 1) = true) : fmt L T n v (k + 1) = fop .add .f32 (fmt L T n v k) (fop .mul .f32 (L.getD k none) (T.getD ((k : Int) + v).toNat none)) := by
  show (if _ then _ else _) = _
  rw [h]; rfl
theorem fmt_out {L T : List (Option Nat)} {n k : Nat} {v : Int} (h : inB ((k : Int) + v) 0 ((n : Int) - 1) = false) : fmt L T n v (k + 1) = fmt L T n v k := by
  show (if _ then _ else _) = _
  rw [h]; rfl
theorem fmt_dot {L T : List (Option Nat)} {n lo hi d : Nat} {v : Int} (h1 : (v ≤ 0 ∧ (lo : Int) = -v ∧ hi = 0) ∨ (0 ≤ v ∧ lo = 0 ∧ (hi : Int) = v)) (h2 : n ≤ lo + hi ∧ d = 0 ∨ lo + hi + d = n) :
    ∀ k, k ≤ n → fmt L T n v k = fdot ((lst (fun j => L.getD (lo + j) none) d).take (k - lo)) ((lst (fun j => T.getD (hi + j) none) d).take (k - lo)) := by
  intro k
  induction k with
  | zero => intro _; simp [fdot, fmt, fz]; exact fl32_zero
  | succ k ih =>
    intro hk
    have ih := ih (by omega)
    by_cases ha : lo ≤ k ∧ k - lo < d
    · rw [fmt_in (inB_yes (by omega) (by omega)), ih, show k + 1 - lo = (k - lo) + 1 by omega, fdot_succ _ _ (k - lo) (by rw [lst_len]; exact ha.2) (by rw [lst_len]; exact ha.2), lst_at ha.2, lst_at ha.2, show lo + (k - lo) = k by omega, show ((k : Int) + v).toNat = hi + (k - lo) by omega]
    · by_cases hb : k < lo
      · rw [fmt_out (inB_lo (by omega)), ih, show k + 1 - lo = k - lo by omega]
      · rw [fmt_out (by
          rcases h2 with h2 | h2
          · rcases Int.lt_or_le ((k : Int) + v) 0 with h3 | h3
            · exact inB_lo h3
            · exact inB_hi (by omega)
          · exact inB_hi (by omega)), ih, List.take_of_length_le (by rw [lst_len]; omega), List.take_of_length_le (by rw [lst_len]; omega), List.take_of_length_le (by rw [lst_len]; omega), List.take_of_length_le (by rw [lst_len]; omega)]
theorem fmt_all {L T : List (Option Nat)} {n lo hi d : Nat} {v : Int} (h1 : (v ≤ 0 ∧ (lo : Int) = -v ∧ hi = 0) ∨ (0 ≤ v ∧ lo = 0 ∧ (hi : Int) = v)) (h2 : n ≤ lo + hi ∧ d = 0 ∨ lo + hi + d = n) :
    fmt L T n v n = fdot (lst (fun j => L.getD (lo + j) none) d) (lst (fun j => T.getD (hi + j) none) d) := by
  rw [fmt_dot h1 h2 n (Nat.le_refl _), List.take_of_length_le (by rw [lst_len]; omega), List.take_of_length_le (by rw [lst_len]; omega)]
set_option maxRecDepth 20000 in
set_option maxHeartbeats 8000000 in
theorem c_l04Match {w : World} {B B' n c c' : Nat} {A A' : Option Addr} {L T : List (Option Nat)} {v : Int} (h : RdF w B A n L) (h' : RdF w B' A' n T) (hn : n ≤ 64) (hv0 : -64 ≤ v) (hv1 : v ≤ 64) :
    Calls Try.prog 79 #[.slice A n c, .slice A' n c', .int .i64 v] w fun e w' => ∃ r, e = .returned (.float .f32 r) ∧ Fl .f32 r (fmt L T n v n) ∧ Dr w w' := by
  have hw3 : IntKind.i64.wrap ((n : Int) - 1) = (n : Int) - 1 := IntWalk.i64_in _ (by omega)
  go_enter Try.func79, Try.ntmps79
  go_wp2_with (fail)
  go_loopw [7, 8] (fun s i wr => ∃ k r : Nat, k ≤ n ∧ i = .int .i64 k ∧ s = .float .f32 r ∧ Fl .f32 r (fmt L T n v k) ∧ Dr w wr) (fun _ i _ => n - (intOf i).toNat)
  case atStart => exact ⟨0, 0, Nat.zero_le _, rfl, rfl, fl_fz, 0, rfl⟩
  case round =>
    obtain ⟨k, r, hk, rfl, rfl, hr, m, rfl⟩ := hrel
    by_cases hlt : k < n
    · have hlt' : (k : Int) < (n : Int) := by omega
      have hw1 : IntKind.i64.wrap ((k : Int) + v) = (k : Int) + v := IntWalk.i64_in _ (by omega)
      have cI := fun W : World => c_l00In ((k : Int) + v) 0 ((n : Int) - 1) W
      have CI := Lib.hid cI
      clear cI
      cases hin : inB ((k : Int) + v) 0 ((n : Int) - 1)
      · have HF := Lib.hid (fmt_out (L := L) (T := T) hin)
        have HIN := Lib.hid hin
        go_wp2_with (first | (go_at_call 71; refine Calls.mono (CI.out _) ?_; rintro e w1 ⟨rfl, rfl⟩; rw [HIN.out]))
        exact ⟨⟨k + 1, r, by omega, by go_num, rfl, by rw [HF.out]; exact hr, _, rfl⟩, by simp [intOf]; omega⟩
      · obtain ⟨i1, i2⟩ := inB_of hin
        obtain ⟨t, ht⟩ : ∃ t : Nat, (k : Int) + v = (t : Int) := ⟨((k : Int) + v).toNat, by omega⟩
        have hF := fmt_in (L := L) (T := T) hin
        rw [ht, Int.toNat_natCast] at hF
        rw [ht] at hw1 CI hin
        have hlt2 : t < n := by omega
        have hlt2' : (t : Int) < (n : Int) := by omega
        obtain ⟨b, off, q, rfl, hb, hc, hq⟩ := h.cell hlt
        obtain ⟨b', off', q', rfl, hb', hc', hq'⟩ := h'.cell hlt2
        have HF := Lib.hid hF
        have HIN := Lib.hid hin
        clear hF hin i1 i2
        go_wp2_with (first | (go_at_call 71; refine Calls.mono (CI.out _) ?_; rintro e w1 ⟨rfl, rfl⟩; rw [HIN.out]))
        go_region_with ((apply upon_fop rfl; (first | assumption | exact Fl.const (of_decide_eq_true (by kernel_rfl))); (first | assumption | exact Fl.const (of_decide_eq_true (by kernel_rfl))); intro r n hr))
        all_goals
          go_wp2
          exact ⟨⟨k + 1, _, by omega, by go_num, rfl, by rw [HF.out]; assumption, _, rfl⟩, by simp [intOf]; omega⟩
    · have hkn : k = n := by omega
      go_wp2_with (fail)
      go_ret
      exact ⟨r, rfl, by rw [hkn] at hr; exact hr, m, rfl⟩
theorem fmt_fcr {L T : List (Option Nat)} {v : Int} : ∀ k, fmt L T T.length v k = fcr L T v k
  | 0 => rfl
  | k + 1 => by
    show (if _ then _ else _) = (if _ then _ else _)
    rw [fmt_fcr k]
theorem c_productShifted {w : World} {B B' n c c' b b' off off' : Nat} {L T : List (Option Nat)} {v : Int} (h : RdF w B (some ⟨b, off, none⟩) n L) (h' : RdF w B' (some ⟨b', off', none⟩) n T) (hn0 : 0 < n) (hn : n ≤ 64) (hc : n ≤ c) (hc' : n ≤ c') (hv0 : -64 ≤ v) (hv1 : v ≤ 64) :
    Calls Try.prog 82 #[.slice (some ⟨b, off, none⟩) n c, .slice (some ⟨b', off', none⟩) n c', .int .i64 v] w fun e w' => ∃ r, e = .returned (.float .f32 r) ∧ Fl .f32 r (fmt L T n v n) ∧ Dr w w' := by
  have e := fmt_fcr (L := L) (T := T) (v := v) n
  rw [h'.len] at e
  rw [e]
  exact c_productShifted2 h h' hn0 hn0 (by omega) (by omega) hc hc' (by omega) (by omega)
end Go.Proofs.Ytceldjkgddbfaab
