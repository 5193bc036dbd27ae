/- Contracts: values of the nearest cells, on both sides. Condition: the section is valid and read. -/
import Derived.Test.YtmhfnchpkeeckaaXf
import Derived.Test.YtmhfnchpkeeckaaWn
import Derived.Test.YtmhfnchpkeeckaaHq
namespace Go.Proofs.Ytmhfnchpkeeckaa
open Go.RowKit Go.ChangeShapes Go.WideShapes Go.Deep Ieee
set_option linter.unusedVariables false
set_option linter.unusedSimpArgs false
attribute [local irreducible] wpQuiet

/-- The nearest one of the numbers below n. -/
def clampN (n : Nat) (i : Int) : Nat := if i < 0 then 0 else if (n : Int) ≤ i then n - 1 else i.toNat
theorem clampN_lt {n : Nat} (h : 1 ≤ n) (i : Int) : clampN n i < n := by
  unfold clampN
  split
  · omega
  · split <;> omega
theorem clamp_spec {n : Nat} (h : 1 ≤ n) (i : Int) : (if (if (n : Int) - 1 < i then (n : Int) - 1 else i) < (0 : Int) then (0 : Int) else (if (n : Int) - 1 < i then (n : Int) - 1 else i)) = (clampN n i : Int) := by
  unfold clampN
  by_cases h0 : i < 0
  · rw [if_neg (show ¬ (n : Int) - 1 < i by omega), if_pos h0, if_pos h0]; rfl
  · by_cases h1 : (n : Int) ≤ i
    · rw [if_pos (show (n : Int) - 1 < i by omega), if_neg (show ¬ (n : Int) - 1 < 0 by omega), if_neg h0, if_pos h1]; omega
    · rw [if_neg (show ¬ (n : Int) - 1 < i by omega), if_neg h0, if_neg h0, if_neg h1]; omega
theorem clamp_impl {n : Nat} (h : 1 ≤ n) (i : Int) : (if (n : Int) - 1 < (if i < 0 then 0 else i) then (n : Int) - 1 else (if i < 0 then 0 else i)) = (clampN n i : Int) := by
  unfold clampN
  by_cases h0 : i < 0
  · rw [if_pos h0, if_pos h0, if_neg (show ¬ (n : Int) - 1 < 0 by omega)]; rfl
  · rw [if_neg h0, if_neg h0]
    by_cases h1 : (n : Int) ≤ i
    · rw [if_pos (show (n : Int) - 1 < i by omega), if_pos h1]; omega
    · rw [if_neg (show ¬ (n : Int) - 1 < i by omega), if_neg h1]; omega
/-- The value of the nearest cell. -/
def at2 (L : List (Option Nat)) (a b : Nat) (i k : Int) : Option Nat := L.getD (clampN a i + a * clampN b k) none
theorem clamp_in {a b n : Nat} (ha : 1 ≤ a) (hb : 1 ≤ b) (hab : a * b = n) (i k : Int) : ∃ p q r : Nat, clampN a i = p ∧ clampN b k = q ∧ a * clampN b k = r ∧ (a : Int) * (q : Int) = (r : Int) ∧ p + r < n ∧ p < a ∧ q < b := by
  have h1 := clampN_lt ha i
  have h2 := clampN_lt hb k
  refine ⟨_, _, _, rfl, rfl, rfl, by simp, ?_, h1, h2⟩
  have h5 : a * (clampN b k + 1) ≤ a * b := Nat.mul_le_mul_left a (by omega)
  rw [Nat.mul_add, Nat.mul_one, hab] at h5
  omega
set_option maxRecDepth 20000 in
set_option maxHeartbeats 4000000 in
theorem c_l06At {w : World} {B bx n c a b : Nat} {A : Option Addr} {L : List (Option Nat)} (hb : SbAt w bx (a : Int) (b : Int) A n c) (hp : RdF w B A n L) (ha1 : 1 ≤ a) (ha2 : a ≤ 16) (hb1 : 1 ≤ b) (hb2 : b ≤ 16) (hab : a * b = n) (i k : Int) (hi : -1000 ≤ i ∧ i ≤ 1000) (hk : -1000 ≤ k ∧ k ≤ 1000) :
    Calls Try.prog 74 #[.pointer (some ⟨bx, 0, none⟩), .int .i64 i, .int .i64 k] w fun e w' => ∃ r, e = .returned (.float .f32 r) ∧ Fl .f32 r (at2 L a b i k) ∧ Dr w w' := by
  obtain ⟨p, q, r, h1, h2, h3, h4, h5, h6, h7⟩ := clamp_in ha1 hb1 hab i k
  have e1 := clamp_spec ha1 i
  have e2 := clamp_spec hb1 k
  rw [h1] at e1
  rw [h2] at e2
  have hn256 : n ≤ 256 := by rw [← hab]; exact Nat.mul_le_mul ha2 hb2
  unfold at2
  rw [h1, h3]
  obtain ⟨b1, o1, t1, rfl, hb1', hc1, ht1⟩ := hp.cell h5
  obtain ⟨p0, p1, p2, _⟩ := hb
  obtain ⟨m, hm⟩ : ∃ m, p + r = m := ⟨_, rfl⟩
  rw [hm] at hc1 ht1 h5 ⊢
  generalize L.getD m none = Y at ht1 ⊢
  have hwr := IntWalk.i64_in (r : Int) (by omega)
  have hwm : IntKind.i64.wrap ((p : Int) + (r : Int)) = (m : Int) := by rw [IntWalk.i64_in _ (by omega)]; omega
  have hwa := IntWalk.i64_in ((a : Int) - 1) (by omega)
  have hwb := IntWalk.i64_in ((b : Int) - 1) (by omega)
  obtain ⟨mi, hmi⟩ : ∃ mi, (if (a : Int) - 1 < i then (a : Int) - 1 else i) = mi := ⟨_, rfl⟩
  obtain ⟨mk, hmk⟩ : ∃ mk, (if (b : Int) - 1 < k then (b : Int) - 1 else k) = mk := ⟨_, rfl⟩
  rw [hmi] at e1
  rw [hmk] at e2
  have cMi := fun W => c_l00Min ((a : Int) - 1) i W
  have cMk := fun W => c_l00Min ((b : Int) - 1) k W
  have cXi := fun W => c_l00Max 0 mi W
  have cXk := fun W => c_l00Max 0 mk W
  rw [hmi] at cMi
  rw [hmk] at cMk
  rw [e1] at cXi
  rw [e2] at cXk
  clear hm hmi hmk e1 e2 h1 h2 h3 hab hp
  go_enter Try.func74, Try.ntmps74
  go_wp2_with (first | (go_at_call 95; refine Calls.mono (cMi _) ?_; rintro e w1 ⟨rfl, rfl⟩) | (go_at_call 94; refine Calls.mono (cXi _) ?_; rintro e w1 ⟨rfl, rfl⟩))
  go_quiet (first | (go_at_call 95; exact Calls.quiet_of_same (Calls.mono (cMk _) (fun _ _ h => ⟨h.1, h.2.symm⟩))) | (go_at_call 94; exact Calls.quiet_of_same (Calls.mono (cXk _) (fun _ _ h => ⟨h.1, h.2.symm⟩))))
  go_wp2_with (fail)
  go_ret
  exact ⟨_, rfl, ht1, _, rfl⟩
set_option maxRecDepth 20000 in
set_option maxHeartbeats 4000000 in
theorem c_nearestValue {w : World} {B n c a b : Nat} {A : Option Addr} {L : List (Option Nat)} (hp : RdF w B A n L) (hB : B ≤ w.heap.size) (ha1 : 1 ≤ a) (ha2 : a ≤ 16) (hb1 : 1 ≤ b) (hb2 : b ≤ 16) (hab : a * b = n) (i k : Int) (hi : -1000 ≤ i ∧ i ≤ 1000) (hk : -1000 ≤ k ∧ k ≤ 1000) :
    Calls Try.prog 77 #[.agg #[.int .i64 (a : Int), .int .i64 (b : Int), .slice A n c], .int .i64 i, .int .i64 k] w fun e w' => ∃ r, e = .returned (.float .f32 r) ∧ Fl .f32 r (at2 L a b i k) ∧ Ext w w' := by
  obtain ⟨p, q, r, h1, h2, h3, h4, h5, h6, h7⟩ := clamp_in ha1 hb1 hab i k
  have hn256 : n ≤ 256 := by rw [← hab]; exact Nat.mul_le_mul ha2 hb2
  have E1 := Lib.hid (clamp_impl ha1 i)
  have E2 := Lib.hid (clamp_impl hb1 k)
  have H1 := Lib.hid h1
  have H2 := Lib.hid h2
  unfold at2
  rw [h1, h3]
  have hx1 : Ext w (w.alloc (.cells #[.int .i64 (a : Int), .int .i64 (b : Int), .slice A n c] 27)) := (by repeat (first | assumption | exact Ext.refl _ | apply Ext.drewN | apply Ext.drew | apply Ext.alloc | (refine Ext.trans ?_ (by assumption)) | (refine Ext.set ?_ (by dsimp only; omega) _)))
  have hbox : SbAt (w.alloc (.cells #[.int .i64 (a : Int), .int .i64 (b : Int), .slice A n c] 27)) w.heap.size (a : Int) (b : Int) A n c := SbAt.blk (T := 27) (by repeat (first | (refine al_at ?_ ?_ <;> first | rfl | (simp only [al_size] <;> omega)) | apply al_old))
  obtain ⟨p0, p1, p2, _⟩ := hbox
  have hp1 := hp.below (hx1.mono hB)
  obtain ⟨b1, o1, t1, rfl, hb1', hc1, ht1⟩ := hp1.cell h5
  obtain ⟨m, hm⟩ : ∃ m, p + r = m := ⟨_, rfl⟩
  rw [hm] at hc1 ht1 h5 ⊢
  generalize L.getD m none = Y at ht1 ⊢
  have hwr := IntWalk.i64_in (r : Int) (by omega)
  have hwm : IntKind.i64.wrap ((p : Int) + (r : Int)) = (m : Int) := by rw [IntWalk.i64_in _ (by omega)]; omega
  have hwa := IntWalk.i64_in ((a : Int) - 1) (by omega)
  have hwb := IntWalk.i64_in ((b : Int) - 1) (by omega)
  clear hm hab hp hp1 h1 h2 h3
  go_enter Try.func77, Try.ntmps77
  go_wp2_with (fail)
  go_quiet (fail)
  rw [E1.out, E2.out, H1.out, H2.out]
  generalize (if i < 0 then (0 : Int) else i) = g1
  generalize (if k < 0 then (0 : Int) else k) = g2
  go_wp2_with (fail)
  go_ret
  exact ⟨_, rfl, ht1, (by repeat (first | assumption | exact Ext.refl _ | apply Ext.drewN | apply Ext.drew | apply Ext.alloc | (refine Ext.trans ?_ (by assumption)) | (refine Ext.set ?_ (by dsimp only; omega) _)))⟩
end Go.Proofs.Ytmhfnchpkeeckaa
