/- Contracts: the share of a signal, on both sides. Condition: the lists are read, and have room for what they have. -/
import Derived.Test.YthgmkipifolbfaaTp
namespace Go.Proofs.Ythgmkipifolbfaa
open Go.RowKit Ieee

def fshs (L : List (Option Nat)) (n : Nat) (M : List (Option Nat)) (m : Nat) : Option Nat := fop .add .f32 (fsq L n) (fsq M m)
def okS (L : List (Option Nat)) (n : Nat) (M : List (Option Nat)) (m : Nat) : Bool := tlen n && (tlen m && gt0 (fshs L n M m))
theorem okS_a {L M : List (Option Nat)} {n m : Nat} (h : tlen n = false) : okS L n M m = false := by unfold okS; rw [h]; rfl
theorem okS_b {L M : List (Option Nat)} {n m : Nat} (h : tlen m = false) : okS L n M m = false := by unfold okS; rw [h]; simp
theorem okS_c {L M : List (Option Nat)} {n m : Nat} (h : gt0 (fshs L n M m) = false) : okS L n M m = false := by unfold okS; rw [h]; simp
theorem okS_yes {L M : List (Option Nat)} {n m : Nat} (h1 : tlen n = true) (h2 : tlen m = true) (h3 : gt0 (fshs L n M m) = true) : okS L n M m = true := by unfold okS; rw [h1, h2, h3]; rfl

set_option maxRecDepth 20000 in
set_option maxHeartbeats 4000000 in
theorem c_spec_ShareOfSignal {w : World} {B n c : Nat} {A : Option Addr} {L : List (Option Nat)} (h : RdF w B A n L) (hn : n ≤ 1048576) {B' m c' : Nat} {A' : Option Addr} {M : List (Option Nat)} (h' : RdF w B' A' m M) (hm : m ≤ 1048576) :
    Calls Try.prog 42 #[.slice A n c, .slice A' m c'] w fun e w' => RetE w e w' (okS L n M m) (xE (okS L n M m) (fop .quo .f32 (fsq L n) (fshs L n M m))) := by
  cases hV : tlen n
  · go_enter Try.func42, Try.ntmps42
    go_wp2_with (go_at_call 44; refine Calls.mono (c_l03Is _ _ _ _) ?_; rw [hV]; rintro e w1 ⟨rfl, rfl⟩)
    go_ret2
    exact retE_no (okS_a hV) (by first | exact ⟨_, rfl⟩ | exact ⟨0, rfl⟩)
  cases hW : tlen m
  · go_enter Try.func42, Try.ntmps42
    go_wp2_with (first | (go_at_call 44; refine Calls.mono (c_l03Is _ _ _ _) ?_; rw [hV]; rintro e w1 ⟨rfl, rfl⟩) | (go_at_call 44; refine Calls.mono (c_l03Is _ _ _ _) ?_; rw [hW]; rintro e w1 ⟨rfl, rfl⟩))
    go_ret2
    exact retE_no (okS_b hW) (by first | exact ⟨_, rfl⟩ | exact ⟨0, rfl⟩)
  cases hG : gt0 (fop .add .f32 (fsq L n) (fsq M m))
  · go_enter Try.func42, Try.ntmps42
    go_wp2_with (first | (go_at_call 44; refine Calls.mono (c_l03Is _ _ _ _) ?_; rw [hV]; rintro e w1 ⟨rfl, rfl⟩) | (go_at_call 44; refine Calls.mono (c_l03Is _ _ _ _) ?_; rw [hW]; rintro e w1 ⟨rfl, rfl⟩) | (go_at_call 59; refine Calls.mono (c_l03Energy h hn) ?_; rintro e w2 ⟨r1, rfl, hr1, n1, rfl⟩) | (go_at_call 59; refine Calls.mono (c_l03Energy (h'.dr ⟨_, rfl⟩) hm) ?_; rintro e w2 ⟨r2, rfl, hr2, n2, rfl⟩) | (refine upon_fop (op := .add) rfl hr1 hr2 ?_; intro r3 n3 hr3; have hg := hr3.ogt0; rw [hG] at hg))
    go_ret2
    exact retE_no (okS_c hG) (by first | exact ⟨_, rfl⟩ | exact ⟨0, rfl⟩)
  · go_enter Try.func42, Try.ntmps42
    go_wp2_with (first | (go_at_call 44; refine Calls.mono (c_l03Is _ _ _ _) ?_; rw [hV]; rintro e w1 ⟨rfl, rfl⟩) | (go_at_call 44; refine Calls.mono (c_l03Is _ _ _ _) ?_; rw [hW]; rintro e w1 ⟨rfl, rfl⟩) | (go_at_call 59; refine Calls.mono (c_l03Energy h hn) ?_; rintro e w2 ⟨r1, rfl, hr1, n1, rfl⟩) | (go_at_call 59; refine Calls.mono (c_l03Energy (h'.dr ⟨_, rfl⟩) hm) ?_; rintro e w2 ⟨r2, rfl, hr2, n2, rfl⟩) | (refine upon_fop (op := .add) rfl hr1 hr2 ?_; intro r3 n3 hr3; have hg := hr3.ogt0; rw [hG] at hg) | (refine upon_fop (op := .quo) rfl hr1 hr3 ?_; intro r4 n4 hr4))
    go_ret2
    exact retE_yes (okS_yes hV hW hG) hr4 (by first | exact ⟨_, rfl⟩ | exact ⟨0, rfl⟩)

set_option maxRecDepth 20000 in
set_option maxHeartbeats 4000000 in
theorem c_impl_ShareOfSignal {w : World} {B n c : Nat} {A : Option Addr} {L : List (Option Nat)} (h : RdF w B A n L) (hn : n ≤ 1048576) {B' m c' : Nat} {A' : Option Addr} {M : List (Option Nat)} (h' : RdF w B' A' m M) (hm : m ≤ 1048576) (hcap : n ≤ c) (hcap' : m ≤ c') :
    Calls Try.prog 43 #[.slice A n c, .slice A' m c'] w fun e w' => RetE w e w' (okS L n M m) (xE (okS L n M m) (fop .quo .f32 (fsq L n) (fshs L n M m))) := by
  cases hV : tlen n
  · cases hW : tlen m
    all_goals
      go_enter Try.func43, Try.ntmps43
      go_wp2_with (first | (go_at_call 38; refine Calls.mono (c_impl_EnergyOfTrace h hn hcap) ?_; rw [hV]; rintro e w2 ⟨r1, rfl, hr1, n1, rfl⟩) | (go_at_call 38; refine Calls.mono (c_impl_EnergyOfTrace (h'.dr ⟨_, rfl⟩) hm hcap') ?_; rw [hW]; rintro e w2 ⟨r2, rfl, hr2, n2, rfl⟩) | (refine upon_fop (op := .add) rfl hr1 hr2 ?_; intro r3 n3 hr3))
      go_ret2
      exact retE_no (okS_a hV) (by first | exact ⟨_, rfl⟩ | exact ⟨0, rfl⟩)
  cases hW : tlen m
  · go_enter Try.func43, Try.ntmps43
    go_wp2_with (first | (go_at_call 38; refine Calls.mono (c_impl_EnergyOfTrace h hn hcap) ?_; rw [hV]; rintro e w2 ⟨r1, rfl, hr1, n1, rfl⟩) | (go_at_call 38; refine Calls.mono (c_impl_EnergyOfTrace (h'.dr ⟨_, rfl⟩) hm hcap') ?_; rw [hW]; rintro e w2 ⟨r2, rfl, hr2, n2, rfl⟩) | (refine upon_fop (op := .add) rfl hr1 hr2 ?_; intro r3 n3 hr3))
    go_ret2
    exact retE_no (okS_b hW) (by first | exact ⟨_, rfl⟩ | exact ⟨0, rfl⟩)
  cases hG : gt0 (fop .add .f32 (xE true (fsq L n)) (xE true (fsq M m)))
  · go_enter Try.func43, Try.ntmps43
    go_wp2_with (first | (go_at_call 38; refine Calls.mono (c_impl_EnergyOfTrace h hn hcap) ?_; rw [hV]; rintro e w2 ⟨r1, rfl, hr1, n1, rfl⟩) | (go_at_call 38; refine Calls.mono (c_impl_EnergyOfTrace (h'.dr ⟨_, rfl⟩) hm hcap') ?_; rw [hW]; rintro e w2 ⟨r2, rfl, hr2, n2, rfl⟩) | (refine upon_fop (op := .add) rfl hr1 hr2 ?_; intro r3 n3 hr3; have hg := hr3.ogt0; rw [hG] at hg))
    go_ret2
    exact retE_no (okS_c hG) (by first | exact ⟨_, rfl⟩ | exact ⟨0, rfl⟩)
  · go_enter Try.func43, Try.ntmps43
    go_wp2_with (first | (go_at_call 38; refine Calls.mono (c_impl_EnergyOfTrace h hn hcap) ?_; rw [hV]; rintro e w2 ⟨r1, rfl, hr1, n1, rfl⟩) | (go_at_call 38; refine Calls.mono (c_impl_EnergyOfTrace (h'.dr ⟨_, rfl⟩) hm hcap') ?_; rw [hW]; rintro e w2 ⟨r2, rfl, hr2, n2, rfl⟩) | (refine upon_fop (op := .add) rfl hr1 hr2 ?_; intro r3 n3 hr3; have hg := hr3.ogt0; rw [hG] at hg) | (refine upon_fop (op := .quo) rfl hr1 hr3 ?_; intro r4 n4 hr4))
    go_ret2
    exact retE_yes (okS_yes hV hW hG) hr4 (by first | exact ⟨_, rfl⟩ | exact ⟨0, rfl⟩)

theorem both_ShareOfSignal {n0 : Nat} {L0 : List (Option Nat)} (_hl0 : L0.length = n0) (hn0 : n0 ≤ 1048576) {n1 : Nat} {L1 : List (Option Nat)} (_hl1 : L1.length = n1) (hn1 : n1 ≤ 1048576) :
    ∃ ok X, (∀ W : World, ∀ (B0 : Nat) (A0 : Option Addr) (c0 : Nat), RdF W B0 A0 n0 L0 → B0 ≤ W.heap.size → n0 ≤ c0 → ∀ (B1 : Nat) (A1 : Option Addr) (c1 : Nat), RdF W B1 A1 n1 L1 → B1 ≤ W.heap.size → n1 ≤ c1 → Calls Try.prog 42 #[.slice A0 n0 c0, .slice A1 n1 c1] W fun e w' => RetE W e w' ok X) ∧
      (∀ W : World, ∀ (B0 : Nat) (A0 : Option Addr) (c0 : Nat), RdF W B0 A0 n0 L0 → B0 ≤ W.heap.size → n0 ≤ c0 → ∀ (B1 : Nat) (A1 : Option Addr) (c1 : Nat), RdF W B1 A1 n1 L1 → B1 ≤ W.heap.size → n1 ≤ c1 → Calls Try.prog 43 #[.slice A0 n0 c0, .slice A1 n1 c1] W fun e w' => RetE W e w' ok X) :=
  ⟨okS L0 n0 L1 n1, xE (okS L0 n0 L1 n1) (fop .quo .f32 (fsq L0 n0) (fshs L0 n0 L1 n1)), fun W _ _ _ h0 _ _ _ _ _ h1 _ _ => c_spec_ShareOfSignal (w := W) h0 hn0 h1 hn1, fun W _ _ _ h0 _ hc0 _ _ _ h1 _ hc1 => c_impl_ShareOfSignal (w := W) h0 hn0 h1 hn1 hc0 hc1⟩
end Go.Proofs.Ythgmkipifolbfaa
