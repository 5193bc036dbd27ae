/- Contracts: sums of shifted products. Condition: the lists are read. -/
import Derived.Test.YtceldjkgddbfaabWn
import Derived.Test.YtceldjkgddbfaabKa
namespace Go.Proofs.Ytceldjkgddbfaab
open Go.RowKit Ieee

/-- The sum of the first k products that are there, of lists of any lengths. -/
def fcr (P T : List (Option Nat)) (v : Int) : Nat → Option Nat
  | 0 => fz
  | k + 1 => if inB ((k : Int) + v) 0 ((T.length : Int) - 1) then fop .add .f32 (fcr P T v k) (fop .mul .f32 (P.getD k none) (T.getD ((k : Int) + v).toNat none)) else fcr P T v k
theorem fcr_in {P T : List (Option Nat)} {k t : Nat} {v : Int} (h : (k : Int) + v = (t : Int)) (ht : t < T.length) : fcr P T v (k + 1) = fop .add .f32 (fcr P T v k) (fop .mul .f32 (P.getD k none) (T.getD t none)) := by
  show (if _ then _ else _) = _
  rw [inB_yes (by omega) (by omega), h, Int.toNat_natCast]; rfl
theorem fcr_out {P T : List (Option Nat)} {k : Nat} {v : Int} (h : (k : Int) + v < 0 ∨ (T.length : Int) ≤ (k : Int) + v) : fcr P T v (k + 1) = fcr P T v k := by
  show (if _ then _ else _) = _
  rw [show inB ((k : Int) + v) 0 ((T.length : Int) - 1) = false by rcases h with h | h; exact inB_lo h; exact inB_hi (by omega)]; rfl
theorem fcr_stop {P T : List (Option Nat)} {v : Int} {i : Nat} : ∀ {n : Nat}, i ≤ n → (∀ j, i ≤ j → j < n → (j : Int) + v < 0 ∨ (T.length : Int) ≤ (j : Int) + v) → fcr P T v n = fcr P T v i
  | 0, h, _ => by rw [show i = 0 by omega]
  | n + 1, h, hm => by
    rcases Nat.lt_or_ge n i with h1 | h1
    · rw [show i = n + 1 by omega]
    · rw [fcr_out (hm n h1 (Nat.lt_succ_self n))]; exact fcr_stop h1 fun j h2 h3 => hm j h2 (by omega)
theorem product_comm (x y : Datum) : x.product y = y.product x := by
  cases x <;> cases y <;> simp only [Datum.product, Nat.mul_comm, Int.add_comm, Bool.xor_comm]
theorem mul_comm32 (X Y : Option Nat) : fop .mul .f32 X Y = fop .mul .f32 Y X := by
  cases X with
  | none => cases Y <;> rfl
  | some x =>
    cases Y with
    | none => rfl
    | some y =>
      show ((FloatKind.f32.format.read x).product (FloatKind.f32.format.read y)).map _ = ((FloatKind.f32.format.read y).product (FloatKind.f32.format.read x)).map _
      rw [product_comm]
theorem fcr_dot {P T : List (Option Nat)} {n lo hi d : Nat} {v : Int} (h1 : (v ≤ 0 ∧ (lo : Int) = -v ∧ hi = 0) ∨ (0 ≤ v ∧ lo = 0 ∧ (hi : Int) = v)) (hd : d = min (n - lo) (T.length - hi)) :
    ∀ k, k ≤ n → fcr P T v k = fdot ((lst (fun j => P.getD (lo + j) none) d).take (k - lo)) ((lst (fun j => T.getD (hi + j) none) d).take (k - lo)) := by
  intro k
  induction k with
  | zero => intro _; simp [fdot, fcr, fz]; exact fl32_zero
  | succ k ih =>
    intro hk
    have ih := ih (by omega)
    by_cases ha : lo ≤ k ∧ k - lo < d
    · rw [fcr_in (t := hi + (k - lo)) (by omega) (by omega), ih, show k + 1 - lo = (k - lo) + 1 by omega, fdot_succ _ _ (k - lo) (by rw [lst_len]; exact ha.2) (by rw [lst_len]; exact ha.2), lst_at ha.2, lst_at ha.2, show lo + (k - lo) = k by omega]
    · by_cases hb : k < lo
      · rw [fcr_out (by omega), ih, show k + 1 - lo = k - lo by omega]
      · rw [fcr_out (by omega), ih, List.take_of_length_le (by rw [lst_len]; omega), List.take_of_length_le (by rw [lst_len]; omega), List.take_of_length_le (by rw [lst_len]; omega), List.take_of_length_le (by rw [lst_len]; omega)]
theorem fcr_all {P T : List (Option Nat)} {n lo hi d : Nat} {v : Int} (h1 : (v ≤ 0 ∧ (lo : Int) = -v ∧ hi = 0) ∨ (0 ≤ v ∧ lo = 0 ∧ (hi : Int) = v)) (hd : d = min (n - lo) (T.length - hi)) :
    fcr P T v n = fdot (lst (fun j => P.getD (lo + j) none) d) (lst (fun j => T.getD (hi + j) none) d) := by
  rw [fcr_dot h1 hd n (Nat.le_refl _), List.take_of_length_le (by rw [lst_len]; omega), List.take_of_length_le (by rw [lst_len]; omega)]
set_option maxRecDepth 20000 in
set_option maxHeartbeats 8000000 in
theorem c_productShifted2 {w : World} {B B' n m c c' b b' off off' : Nat} {L T : List (Option Nat)} {v : Int} (h : RdF w B (some ⟨b, off, none⟩) n L) (h' : RdF w B' (some ⟨b', off', none⟩) m T) (hn0 : 0 < n) (hm0 : 0 < m) (hn : n ≤ 128) (hm : m ≤ 128) (hc : n ≤ c) (hc' : m ≤ c') (hv0 : -128 ≤ v) (hv1 : v ≤ 128) :
    Calls Try.prog 82 #[.slice (some ⟨b, off, none⟩) n c, .slice (some ⟨b', off', none⟩) m c', .int .i64 v] w fun e w' => ∃ r, e = .returned (.float .f32 r) ∧ Fl .f32 r (fcr L T v n) ∧ Dr w w' := by
  have hw1 : IntKind.i64.wrap (-v) = -v := IntWalk.i64_in _ (by omega)
  have hw2 : IntKind.i64.wrap ((m : Int) - v) = (m : Int) - v := IntWalk.i64_in _ (by omega)
  have hw3 : IntKind.i64.wrap ((n : Int) + v) = (n : Int) + v := IntWalk.i64_in _ (by omega)
  have c0 : ∀ W, Calls Try.prog 132 #[.slice none 0 0, .slice none 0 0, .func (.func 58) #[] #[]] W fun e w' => ∃ r, e = .returned (.tuple #[.float .f32 r, .bool true]) ∧ Fl .f32 r (fdot [] []) ∧ Dr W w' := fun W => c_dotLists (B := 0) (B' := 0) rdf_nil rdf_nil (by omega)
  have hl' := h'.len
  obtain ⟨lo, hi, h1⟩ : ∃ lo hi : Nat, ((v ≤ 0 ∧ (lo : Int) = -v ∧ hi = 0) ∨ (0 ≤ v ∧ lo = 0 ∧ (hi : Int) = v)) := ⟨(-v).toNat, v.toNat, by omega⟩
  obtain ⟨d, hd⟩ : ∃ d : Nat, d = min (n - lo) (m - hi) := ⟨_, rfl⟩
  have hF := fcr_all (P := L) (T := T) (n := n) (d := d) h1 (by rw [hl']; exact hd)
  rcases Nat.eq_zero_or_pos d with hd0 | hd0
  · have cA := fun W : World => c_windowOf_no (w := W) (n := n) (c := c) (b := b) (off := off) (i := -v) (j := (m : Int) - v) hn0 (by omega)
    have cB := fun W : World => c_windowOf_no (w := W) (n := m) (c := c') (b := b') (off := off') (i := v) (j := (n : Int) + v) hm0 (by omega)
    subst hd0
    have HF := Lib.hid hF
    have CA := Lib.hid cA
    have CB := Lib.hid cB
    have CD := Lib.hid c0
    clear hF cA cB c0 h1 hd hl'
    go_enter Try.func82, Try.ntmps82
    go_wp2_with (first | (go_at_call_of 120 (-v); refine Calls.mono (CA.out _) ?_; rintro e w1 ⟨rfl, rfl⟩) | (go_at_call 120; refine Calls.mono (CB.out _) ?_; rintro e w2 ⟨rfl, rfl⟩) | (go_at_call 132; refine Calls.mono (CD.out _) ?_; rintro e w' ⟨r, rfl, hr, q, rfl⟩) | (go_at_call 121; go_in))
    go_ret
    exact ⟨r, rfl, by rw [HF.out]; exact hr, _, rfl⟩
  · have cA := fun W : World => c_windowOf (w := W) (n := n) (c := c) (b := b) (off := off) (lo := lo) (d := d) (i := -v) (j := (m : Int) - v) (by omega) hc (by omega) (by omega) hd0
    have cB := fun W : World => c_windowOf (w := W) (n := m) (c := c') (b := b') (off := off') (lo := hi) (d := d) (i := v) (j := (n : Int) + v) (by omega) hc' (by omega) (by omega) hd0
    have cD := c_dotLists (c := d) (c' := d) (h.sub (lo := lo) (d := d) (by omega)) (h'.sub (lo := hi) (d := d) (by omega)) (by omega)
    have HF := Lib.hid hF
    have CA := Lib.hid cA
    have CB := Lib.hid cB
    have CD := Lib.hid cD
    clear hF cA cB cD c0 h1 hd hl'
    go_enter Try.func82, Try.ntmps82
    go_wp2_with (first | (go_at_call_of 120 (-v); refine Calls.mono (CA.out _) ?_; rintro e w1 ⟨rfl, rfl⟩) | (go_at_call 120; refine Calls.mono (CB.out _) ?_; rintro e w2 ⟨rfl, rfl⟩) | (go_at_call 132; refine Calls.mono CD.out ?_; rintro e w' ⟨r, rfl, hr, q, rfl⟩) | (go_at_call 121; go_in))
    go_ret
    exact ⟨r, rfl, by rw [HF.out]; exact hr, _, rfl⟩
end Go.Proofs.Ytceldjkgddbfaab
