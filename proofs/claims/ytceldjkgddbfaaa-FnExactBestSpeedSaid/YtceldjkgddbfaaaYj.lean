/- Contracts: how much traces are alike, the program: windows of traces. Condition: the gather is read. -/
import Derived.Test.YtceldjkgddbfaaaYi
namespace Go.Proofs.Ytceldjkgddbfaaa
open Go.RowKit Ieee

/-- A part of a list that is read. -/
theorem RdF.sub {w : World} {B n b off lo d : Nat} {L : List (Option Nat)} (h : RdF w B (some ⟨b, off, none⟩) n L) (hd : lo + d ≤ n) : RdF w B (some ⟨b, off + lo, none⟩) d (lst (fun j => L.getD (lo + j) none) d) := by
  refine ⟨lst_len _ _, fun k hk => ?_⟩
  obtain ⟨b', off', hA, hb, hj⟩ := h.at_ (lo + k) (by omega)
  simp only [Option.some.injEq, Addr.mk.injEq, and_true] at hA
  obtain ⟨rfl, rfl⟩ := hA
  refine ⟨b, off + lo, rfl, hb, fun j hjd => ?_⟩
  obtain ⟨r, h1, h2⟩ := hj (lo + j) (by omega)
  exact ⟨r, by rw [Nat.add_assoc]; exact h1, by rw [lst_at hjd]; exact h2⟩
set_option maxRecDepth 20000 in
set_option maxHeartbeats 4000000 in
theorem c_windowOf {w : World} {n c b off lo d : Nat} {i j : Int} (_hn : n ≤ 64) (hc : n ≤ c) (hlo : (i < 0 ∧ lo = 0) ∨ (lo : Int) = i) (hhi : ((n : Int) < j ∧ lo + d = n) ∨ (((lo + d : Nat) : Int) = j ∧ lo + d ≤ n)) (hd : 0 < d) :
    Calls Try.prog 114 #[.slice (some ⟨b, off, none⟩) n c, .int .i64 i, .int .i64 j] w fun e w' => e = .returned (.slice (some ⟨b, off + lo, none⟩) d d) ∧ w = w' := by
  obtain ⟨hi, hhe⟩ : ∃ hi, lo + d = hi := ⟨_, rfl⟩
  have hsub : hi - lo = d := by omega
  have l1 : ¬ ((hi : Int) ≤ (lo : Int)) := by omega
  have l2 : (lo : Int) ≤ (hi : Int) := by omega
  have l3 : (hi : Int) ≤ (c : Int) := by omega
  have l4 : hi ≤ c := by omega
  have l5 : lo ≤ hi := by omega
  have l6 : (0 : Int) ≤ (lo : Int) := by omega
  have l7 : (hi : Int) - (lo : Int) = (d : Int) := by omega
  rcases hlo with ⟨h1, h2⟩ | h1
  · subst h2
    rw [Nat.zero_add] at hhe
    subst hhe
    rcases hhi with ⟨h3, h4⟩ | ⟨h3, h4⟩
    · have h5 : d = n := by omega
      subst h5
      go_enter Try.func114, Try.ntmps114
      go_wp2_with (fail)
      go_ret
      exact ⟨rfl, rfl⟩
    · have h5 : (d : Int) = j := by omega
      subst h5
      have h6 : ¬ ((n : Int) < (d : Int)) := by omega
      go_enter Try.func114, Try.ntmps114
      go_wp2_with (fail)
      go_ret
      exact ⟨rfl, rfl⟩
  · subst h1
    have h0 : ¬ ((lo : Int) < 0) := by omega
    rcases hhi with ⟨h3, h4⟩ | ⟨h3, h4⟩
    · have h5 : hi = n := by omega
      subst h5
      go_enter Try.func114, Try.ntmps114
      go_wp2_with (fail)
      go_ret
      exact ⟨by rw [← hsub]; rfl, rfl⟩
    · rw [hhe] at h3
      subst h3
      have h6 : ¬ ((n : Int) < (hi : Int)) := by omega
      go_enter Try.func114, Try.ntmps114
      go_wp2_with (fail)
      go_ret
      exact ⟨by rw [← hsub]; rfl, rfl⟩
def okW (t i r : Int) : Bool := inB i 0 (t - 1) && inB r 0 64
theorem okW_of {t i r : Int} (h : okW t i r = true) : 0 ≤ i ∧ i < t ∧ 0 ≤ r ∧ r ≤ 64 := by
  unfold okW at h
  rw [Bool.and_eq_true] at h
  have h1 := inB_of h.1
  have h2 := inB_of h.2
  omega
theorem okW_yes {t i r : Int} (h0 : 0 ≤ i) (h1 : i < t) (h2 : 0 ≤ r) (h3 : r ≤ 64) : okW t i r = true := by unfold okW; rw [inB_yes h0 (by omega), inB_yes h2 h3]; rfl
theorem okW_no {t i r : Int} (h : ¬ (0 ≤ i ∧ i < t ∧ 0 ≤ r ∧ r ≤ 64)) : okW t i r = false := by
  cases h1 : okW t i r
  · rfl
  · exact absurd (okW_of h1) h
set_option maxRecDepth 20000 in
set_option maxHeartbeats 4000000 in
theorem c_isWindow {w : World} {t i r : Int} {Ap At : Option Addr} {n cp m ct : Nat} :
    Calls Try.prog 113 #[.agg #[.int .i64 t, .slice Ap n cp, .slice At m ct], .int .i64 i, .int .i64 r] w fun e w' => e = .returned (.bool (okW t i r)) ∧ Ext w w' := by
  by_cases h0 : 0 ≤ i
  case neg =>
    rw [okW_no (by omega)]
    go_enter Try.func113, Try.ntmps113
    go_wp2_with (fail)
    go_ret
    exact ⟨rfl, (by repeat (first | assumption | exact Ext.refl _ | apply Ext.drewN | apply Ext.drew | apply Ext.alloc | (refine Ext.trans ?_ (by assumption)) | (refine Ext.set ?_ (by dsimp only; omega) _)))⟩
  by_cases h1 : i < t
  case neg =>
    rw [okW_no (by omega)]
    go_enter Try.func113, Try.ntmps113
    go_wp2_with (fail)
    go_ret
    exact ⟨rfl, (by repeat (first | assumption | exact Ext.refl _ | apply Ext.drewN | apply Ext.drew | apply Ext.alloc | (refine Ext.trans ?_ (by assumption)) | (refine Ext.set ?_ (by dsimp only; omega) _)))⟩
  by_cases h2 : 0 ≤ r
  case neg =>
    rw [okW_no (by omega)]
    go_enter Try.func113, Try.ntmps113
    go_wp2_with (fail)
    go_ret
    exact ⟨rfl, (by repeat (first | assumption | exact Ext.refl _ | apply Ext.drewN | apply Ext.drew | apply Ext.alloc | (refine Ext.trans ?_ (by assumption)) | (refine Ext.set ?_ (by dsimp only; omega) _)))⟩
  by_cases h3 : r ≤ 64
  case neg =>
    rw [okW_no (by omega)]
    go_enter Try.func113, Try.ntmps113
    go_wp2_with (fail)
    go_ret
    exact ⟨rfl, (by repeat (first | assumption | exact Ext.refl _ | apply Ext.drewN | apply Ext.drew | apply Ext.alloc | (refine Ext.trans ?_ (by assumption)) | (refine Ext.set ?_ (by dsimp only; omega) _)))⟩
  rw [okW_yes h0 h1 h2 h3]
  go_enter Try.func113, Try.ntmps113
  go_wp2_with (fail)
  go_ret
  exact ⟨rfl, (by repeat (first | assumption | exact Ext.refl _ | apply Ext.drewN | apply Ext.drew | apply Ext.alloc | (refine Ext.trans ?_ (by assumption)) | (refine Ext.set ?_ (by dsimp only; omega) _)))⟩
set_option maxRecDepth 20000 in
set_option maxHeartbeats 4000000 in
theorem c_l04Window {w : World} {b : Nat} {t i r : Int} {Ap At : Option Addr} {n cp m ct : Nat} (hb : GbAt w b t Ap n cp At m ct) (ht0 : -9223372036854775808 < t) (ht : t ≤ 9223372036854775807) :
    Calls Try.prog 86 #[.pointer (some ⟨b, 0, none⟩), .int .i64 i, .int .i64 r] w fun e w' => e = .returned (.bool (okW t i r)) ∧ Dr w w' := by
  have p0 := hb.p0
  obtain ⟨t1, ht1⟩ : ∃ x, t - 1 = x := ⟨_, rfl⟩
  have hw1 : IntKind.i64.wrap t1 = t1 := IntWalk.i64_in _ (by omega)
  unfold okW
  rw [ht1]
  have c1 : ∀ W, Calls Try.prog 82 #[.int .i64 i, .int .i64 0, .int .i64 t1] W fun e w' => e = .returned (.bool (inB i 0 t1)) ∧ W = w' := fun W => c_l00In _ _ _ W
  have c2 : ∀ W, Calls Try.prog 82 #[.int .i64 r, .int .i64 0, .int .i64 64] W fun e w' => e = .returned (.bool (inB r 0 64)) ∧ W = w' := fun W => c_l00In _ _ _ W
  have C1 := Lib.hid c1
  have C2 := Lib.hid c2
  clear c1 c2
  cases h1 : inB i 0 t1
  · rw [h1] at C1
    go_enter Try.func86, Try.ntmps86
    go_wp2_with (first | (go_at_call_of 82 i; refine Calls.mono (C1.out _) ?_; rintro e w1 ⟨rfl, rfl⟩))
    go_ret
    exact ⟨rfl, 0, rfl⟩
  · rw [h1] at C1
    rw [Bool.true_and]
    go_enter Try.func86, Try.ntmps86
    go_wp2_with (first | (go_at_call_of 82 i; refine Calls.mono (C1.out _) ?_; rintro e w1 ⟨rfl, rfl⟩) | (go_at_call_of 82 r; refine Calls.mono (C2.out _) ?_; rintro e w1 ⟨rfl, rfl⟩))
    go_ret
    exact ⟨rfl, 0, rfl⟩
end Go.Proofs.Ytceldjkgddbfaaa
