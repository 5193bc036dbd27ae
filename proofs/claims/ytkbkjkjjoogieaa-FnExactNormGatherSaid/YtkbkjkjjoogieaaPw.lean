/- Contracts: the index of the greatest number of a list, the program; sizes, the reference. Condition: the list is read. -/
import Derived.Test.YtkbkjkjjoogieaaUp
namespace Go.Proofs.Ytkbkjkjjoogieaa
open Go.RowKit Ieee
set_option linter.unusedVariables false
set_option linter.unusedSimpArgs false
attribute [local irreducible] wpQuiet

set_option maxRecDepth 20000 in
set_option maxHeartbeats 400000 in
theorem c_l04SizeX (p : Nat) (w : World) : Calls Try.prog 93 #[.float .f32 p] w fun e w' => e = .returned (.float .f32 (szw p)) ∧ w' = w := by
  cases ho : (FloatKind.f32.format.order p 0 == some .lt)
  · have e := szw_no ho
    go_enter Try.func93, Try.ntmps93
    go_wp2
    go_ret
    exact ⟨by rw [e]; rfl, rfl⟩
  · have e := szw_yes ho
    go_enter Try.func93, Try.ntmps93
    go_wp2
    go_ret
    exact ⟨by rw [e]; rfl, rfl⟩
/-- What is known of the greatest number so far. -/
def PkSt2 (L : List (Option Nat)) (k : Nat) (i f : Value) : Prop :=
  (pk L k = none ∧ i = .int .i64 0 ∧ f = .bool false) ∨ ∃ j : Nat, pk L k = some j ∧ i = .int .i64 (j : Int) ∧ f = .bool true
set_option maxRecDepth 20000 in
set_option maxHeartbeats 4000000 in
theorem c_peakOf {w : World} {B n c : Nat} {A : Option Addr} {L : List (Option Nat)} (h : RdF w B A n L) (hn : n ≤ 1048576) :
    Calls Try.prog 127 #[.slice A n c] w fun e w' => e = .returned (.tuple #[.int .i64 (atP L n : Int), .bool (pk L n).isSome]) ∧ Dr w w' := by
  go_enter Try.func127, Try.ntmps127
  go_wp2_with (fail)
  go_loopw [4, 5, 10] (fun i f y wr => ∃ (k m : Nat), k ≤ n ∧ y = .int .i64 k ∧ PkSt2 L k i f ∧ wr = w.drewN m) (fun _ _ y _ => n - (intOf y).toNat)
  case atStart => exact ⟨0, 0, Nat.zero_le _, rfl, .inl ⟨rfl, rfl, rfl⟩, rfl⟩
  case round =>
    obtain ⟨k, m, hk, rfl, hst, rfl⟩ := hrel
    by_cases hlt : k < n
    · have hlt' : (k : Int) < (n : Int) := by omega
      cases hS : (L.getD k none).isSome
      · obtain ⟨b1, o1, t1, rfl, hb1, hc1, ht1⟩ := h.cell hlt
        have hs := (eq_self ht1).trans hS
        have HS := Lib.hid (pk_nan hS)
        rcases hst with ⟨hp, rfl, rfl⟩ | ⟨j, hp, rfl, rfl⟩
        · have HP := Lib.hid hp
          clear hp
          go_wp2_with (fail)
          exact ⟨⟨k + 1, _, by omega, by go_num, .inl ⟨HS.out.trans HP.out, rfl, rfl⟩, rfl⟩, by simp [intOf]; omega⟩
        · have HP := Lib.hid hp
          clear hp
          go_wp2_with (fail)
          exact ⟨⟨k + 1, _, by omega, by go_num, .inr ⟨j, HS.out.trans HP.out, rfl, rfl⟩, rfl⟩, by simp [intOf]; omega⟩
      · rcases hst with ⟨hp, rfl, rfl⟩ | ⟨j, hp, rfl, rfl⟩
        · obtain ⟨b1, o1, t1, rfl, hb1, hc1, ht1⟩ := h.cell hlt
          have hs := (eq_self ht1).trans hS
          have HP := Lib.hid (pk_first hS hp)
          clear hp
          go_wp2_with (fail)
          exact ⟨⟨k + 1, _, by omega, by go_num, .inr ⟨k, HP.out, rfl, rfl⟩, rfl⟩, by simp [intOf]; omega⟩
        · obtain ⟨hjk, hSj⟩ := pk_lt hp
          obtain ⟨b, off, rfl, hb, rs, hrl, hrs⟩ := h.words (by omega)
          obtain ⟨hc1, ht1⟩ := hrs k hlt
          obtain ⟨hc0, ht0⟩ := hrs j (by omega)
          clear hrs
          generalize rs.getD k 0 = t1 at ht1 hc1
          generalize rs.getD j 0 = t0 at ht0 hc0
          have hs := (eq_self ht1).trans hS
          have hjn : (j : Int) < (n : Int) := by omega
          cases hF : fstr (L.getD k none) (L.getD j none)
          · have HP := Lib.hid (pk_less hS hp hF)
            clear hp h
            go_wp2_with (go_at_call 146; refine Calls.mono (c_isStronger ht1 ht0 _) ?_; rw [hF]; rintro e w1 ⟨rfl, m1, rfl⟩)
            exact ⟨⟨k + 1, _, by omega, by go_num, .inr ⟨j, HP.out, rfl, rfl⟩, rfl⟩, by simp [intOf]; omega⟩
          · have HP := Lib.hid (pk_more hS hp hF)
            clear hp h
            go_wp2_with (go_at_call 146; refine Calls.mono (c_isStronger ht1 ht0 _) ?_; rw [hF]; rintro e w1 ⟨rfl, m1, rfl⟩)
            exact ⟨⟨k + 1, _, by omega, by go_num, .inr ⟨k, HP.out, rfl, rfl⟩, rfl⟩, by simp [intOf]; omega⟩
    · obtain rfl : k = n := by omega
      rcases hst with ⟨hp, rfl, rfl⟩ | ⟨j, hp, rfl, rfl⟩
      · have HP := Lib.hid hp
        clear hp
        go_wp2_with (fail)
        go_ret2
        exact ⟨by unfold atP; rw [HP.out]; rfl, _, rfl⟩
      · have HP := Lib.hid hp
        clear hp
        go_wp2_with (fail)
        go_ret2
        exact ⟨by unfold atP; rw [HP.out]; rfl, _, rfl⟩
end Go.Proofs.Ytkbkjkjjoogieaa
