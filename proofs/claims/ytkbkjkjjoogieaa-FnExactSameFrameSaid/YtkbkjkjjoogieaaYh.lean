/- Contracts: whether gathers are the same, on both sides. Condition: both are read. -/
import Derived.Test.YtkbkjkjjoogieaaYd
namespace Go.Proofs.Ytkbkjkjjoogieaa
open Go.RowKit Ieee

def upto (p : Nat → Bool) (k : Nat) : Bool := (List.range k).all p
theorem upto_zero (p : Nat → Bool) : upto p 0 = true := rfl
theorem upto_succ (p : Nat → Bool) (k : Nat) : upto p (k + 1) = (upto p k && p k) := by unfold upto; rw [List.range_succ, List.all_append]; simp
theorem upto_step {p : Nat → Bool} {k : Nat} (h : upto p k = true) (h1 : p k = true) : upto p (k + 1) = true := by rw [upto_succ, h, h1]; rfl
theorem upto_no {p : Nat → Bool} {k n : Nat} (hk : k < n) (h : p k = false) : upto p n = false := by
  rw [Bool.eq_false_iff]
  intro ha
  unfold upto at ha
  rw [List.all_eq_true] at ha
  have := ha k (List.mem_range.2 hk)
  rw [h] at this; cases this
def fsame (X Y : Option Nat) : Bool := decide (fbits X = fbits Y)
def sameL (L M : List (Option Nat)) : Bool := same2 L.length M.length && upto (fun j => fsame (L.getD j none) (M.getD j none)) L.length
def sameR (R S : List (List (Option Nat))) : Bool := same2 R.length S.length && upto (fun j => sameL (R.getD j []) (S.getD j [])) R.length
def sameG (G H : Gat) : Bool := decide (G.t = H.t) && (sameL G.p H.p && sameR G.r H.r)
theorem sameL_len {L M : List (Option Nat)} {n m : Nat} (h : L.length = n) (h' : M.length = m) (hn : n ≠ m) : sameL L M = false := by unfold sameL; rw [h, h', same2_no hn]; rfl
theorem sameL_eq {L M : List (Option Nat)} {n : Nat} (h : L.length = n) (h' : M.length = n) : sameL L M = upto (fun j => fsame (L.getD j none) (M.getD j none)) n := by unfold sameL; rw [h, h', same2_yes rfl]; rfl
theorem sameR_len {R S : List (List (Option Nat))} {n m : Nat} (h : R.length = n) (h' : S.length = m) (hn : n ≠ m) : sameR R S = false := by unfold sameR; rw [h, h', same2_no hn]; rfl
theorem sameR_eq {R S : List (List (Option Nat))} {n : Nat} (h : R.length = n) (h' : S.length = n) : sameR R S = upto (fun j => sameL (R.getD j []) (S.getD j [])) n := by unfold sameR; rw [h, h', same2_yes rfl]; rfl

set_option maxRecDepth 20000 in
set_option maxHeartbeats 400000 in
theorem c_l01Same {a b : Nat} {X Y : Option Nat} (fa : Fl .f32 a X) (fb : Fl .f32 b Y) (w : World) :
    Calls Try.prog 107 #[.float .f32 a, .float .f32 b] w fun e w' => e = .returned (.bool (fsame X Y)) ∧ Dr w w' := by
  go_enter Try.func107, Try.ntmps107
  go_wp2_with (go_at_call 131; refine Calls.mono (c_spec_l01Bits (by assumption) _) ?_; rintro e w' ⟨rfl, rfl⟩)
  go_ret
  exact ⟨rfl, 0, rfl⟩
set_option maxRecDepth 20000 in
set_option maxHeartbeats 400000 in
theorem c_SameNumber {a b : Nat} {X Y : Option Nat} (fa : Fl .f32 a X) (fb : Fl .f32 b Y) (w : World) :
    Calls Try.prog 109 #[.float .f32 a, .float .f32 b] w fun e w' => e = .returned (.bool (fsame X Y)) ∧ Dr w w' := by
  go_enter Try.func109, Try.ntmps109
  go_wp2_with (go_at_call 132; refine Calls.mono (c_impl_BitsOf (by assumption) _) ?_; rintro e w' ⟨rfl, rfl⟩)
  go_ret
  exact ⟨rfl, 0, rfl⟩

set_option maxRecDepth 20000 in
set_option maxHeartbeats 4000000 in
theorem c_l01SameAll {w : World} {B B' n m c c' : Nat} {A A' : Option Addr} {L M : List (Option Nat)} (h : RdF w B A n L) (h' : RdF w B' A' m M) (hn : n ≤ 1048576) (hm : m ≤ 1048576) :
    Calls Try.prog 65 #[.slice A n c, .slice A' m c'] w fun e w' => e = .returned (.bool (sameL L M)) ∧ Dr w w' := by
  have hl := h.len
  have hl' := h'.len
  by_cases hnm : n = m
  case neg =>
    rw [sameL_len hl hl' hnm]
    have hi : ¬ ((n : Int) = (m : Int)) := by omega
    clear hl hl'
    go_enter Try.func65, Try.ntmps65
    go_wp2_with (fail)
    go_ret
    exact ⟨rfl, 0, rfl⟩
  subst hnm
  rw [sameL_eq hl hl']
  clear hl hl'
  go_enter Try.func65, Try.ntmps65
  go_wp2_with (fail)
  go_loopw [5] (fun i wr => ∃ k : Nat, k ≤ n ∧ i = .int .i64 k ∧ upto (fun j => fsame (L.getD j none) (M.getD j none)) k = true ∧ Dr w wr) (fun i _ => n - (intOf i).toNat)
  case atStart => exact ⟨0, Nat.zero_le _, rfl, rfl, 0, rfl⟩
  case round =>
    obtain ⟨k, hk, rfl, ha, hD⟩ := hrel
    have hxr : Ext w wr := hD.below
    have HA := Lib.hid ha
    clear ha
    by_cases hlt : k < n
    · have hlt' : (k : Int) < (n : Int) := by omega
      obtain ⟨b1, o1, t1, rfl, hb1, hc1, ht1⟩ := h.cell hlt
      obtain ⟨b2, o2, t2, rfl, hb2, hc2, ht2⟩ := h'.cell hlt
      have hc1 : wr.cell? ⟨b1, o1 + k, none⟩ = some (.float .f32 t1) := by obtain ⟨q, rfl⟩ := hD; exact hc1
      have hc2 : wr.cell? ⟨b2, o2 + k, none⟩ = some (.float .f32 t2) := by obtain ⟨q, rfl⟩ := hD; exact hc2
      have cS : ∀ W, Ext wr W → Calls Try.prog 107 #[.float .f32 t1, .float .f32 t2] W fun e w' => e = .returned (.bool (fsame (L.getD k none) (M.getD k none))) ∧ ∃ q, w' = W.drewN q := fun W _ => c_l01Same ht1 ht2 W
      cases hF : fsame (L.getD k none) (M.getD k none)
      · rw [hF] at cS
        have hend := Lib.hid (upto_no (p := fun j => fsame (L.getD j none) (M.getD j none)) hlt hF).symm
        clear hF ht1 ht2
        go_wp2_with (fail)
        go_quiet (first | (go_at_call 107; exact Calls.quiet_of (cS _ (by repeat (first | assumption | exact Ext.refl _ | apply Ext.drewN | apply Ext.drew | apply Ext.alloc | (refine Ext.trans ?_ (by assumption)) | (refine Ext.set ?_ (by dsimp only; omega) _))))))
        go_wp2_with (fail)
        go_ret
        exact ⟨retb hend.out, hD.drewN _⟩
      · rw [hF] at cS
        have hst := Lib.hid (upto_step (p := fun j => fsame (L.getD j none) (M.getD j none)) HA.out hF)
        clear hF ht1 ht2
        go_wp2_with (fail)
        go_quiet (first | (go_at_call 107; exact Calls.quiet_of (cS _ (by repeat (first | assumption | exact Ext.refl _ | apply Ext.drewN | apply Ext.drew | apply Ext.alloc | (refine Ext.trans ?_ (by assumption)) | (refine Ext.set ?_ (by dsimp only; omega) _))))))
        go_wp2_with (fail)
        exact ⟨⟨k + 1, by omega, by go_num, hst.out, hD.drewN _⟩, by simp [intOf]; omega⟩
    · obtain rfl : k = n := by omega
      go_wp2_with (fail)
      go_ret
      exact ⟨retb HA.out.symm, hD⟩

set_option maxRecDepth 20000 in
set_option maxHeartbeats 4000000 in
theorem c_EqF1 {w : World} {B B' n m c c' : Nat} {A A' : Option Addr} {L M : List (Option Nat)} (h : RdF w B A n L) (h' : RdF w B' A' m M) (hn : n ≤ 1048576) (hm : m ≤ 1048576) :
    Calls Try.prog 108 #[.slice A n c, .slice A' m c', .func (.func 109) #[] #[]] w fun e w' => e = .returned (.bool (sameL L M)) ∧ Dr w w' := by
  have hl := h.len
  have hl' := h'.len
  by_cases hnm : n = m
  case neg =>
    rw [sameL_len hl hl' hnm]
    have hi : ¬ ((n : Int) = (m : Int)) := by omega
    clear hl hl'
    go_enter Try.func108, Try.ntmps108
    go_wp2_with (fail)
    go_ret
    exact ⟨rfl, 0, rfl⟩
  subst hnm
  rw [sameL_eq hl hl']
  clear hl hl'
  go_enter Try.func108, Try.ntmps108
  go_wp2_with (fail)
  go_loopw [17] (fun i wr => ∃ k : Nat, k ≤ n ∧ i = .int .i64 k ∧ upto (fun j => fsame (L.getD j none) (M.getD j none)) k = true ∧ Dr w wr) (fun i _ => n - (intOf i).toNat)
  case atStart => exact ⟨0, Nat.zero_le _, rfl, rfl, 0, rfl⟩
  case round =>
    obtain ⟨k, hk, rfl, ha, hD⟩ := hrel
    have hxr : Ext w wr := hD.below
    have HA := Lib.hid ha
    clear ha
    by_cases hlt : k < n
    · have hlt' : (k : Int) < (n : Int) := by omega
      obtain ⟨b1, o1, t1, rfl, hb1, hc1, ht1⟩ := h.cell hlt
      obtain ⟨b2, o2, t2, rfl, hb2, hc2, ht2⟩ := h'.cell hlt
      have hc1 : wr.cell? ⟨b1, o1 + k, none⟩ = some (.float .f32 t1) := by obtain ⟨q, rfl⟩ := hD; exact hc1
      have hc2 : wr.cell? ⟨b2, o2 + k, none⟩ = some (.float .f32 t2) := by obtain ⟨q, rfl⟩ := hD; exact hc2
      have cS : ∀ W, Ext wr W → Calls Try.prog 109 #[.float .f32 t1, .float .f32 t2] W fun e w' => e = .returned (.bool (fsame (L.getD k none) (M.getD k none))) ∧ ∃ q, w' = W.drewN q := fun W _ => c_SameNumber ht1 ht2 W
      cases hF : fsame (L.getD k none) (M.getD k none)
      · rw [hF] at cS
        have hend := Lib.hid (upto_no (p := fun j => fsame (L.getD j none) (M.getD j none)) hlt hF).symm
        clear hF ht1 ht2
        go_wp2_with (go_at_call 109; refine Calls.mono (cS _ (by repeat (first | assumption | exact Ext.refl _ | apply Ext.drewN | apply Ext.drew | apply Ext.alloc | (refine Ext.trans ?_ (by assumption)) | (refine Ext.set ?_ (by dsimp only; omega) _)))) ?_; rintro e w5 ⟨rfl, q5, rfl⟩)
        go_ret
        exact ⟨retb hend.out, hD.drewN _⟩
      · rw [hF] at cS
        have hst := Lib.hid (upto_step (p := fun j => fsame (L.getD j none) (M.getD j none)) HA.out hF)
        clear hF ht1 ht2
        go_wp2_with (go_at_call 109; refine Calls.mono (cS _ (by repeat (first | assumption | exact Ext.refl _ | apply Ext.drewN | apply Ext.drew | apply Ext.alloc | (refine Ext.trans ?_ (by assumption)) | (refine Ext.set ?_ (by dsimp only; omega) _)))) ?_; rintro e w5 ⟨rfl, q5, rfl⟩)
        exact ⟨⟨k + 1, by omega, by go_num, hst.out, hD.drewN _⟩, by simp [intOf]; omega⟩
    · obtain rfl : k = n := by omega
      go_wp2_with (fail)
      go_ret
      exact ⟨retb HA.out.symm, hD⟩

set_option maxRecDepth 20000 in
set_option maxHeartbeats 400000 in
theorem c_sameNumbers {w : World} {B B' n m c c' : Nat} {A A' : Option Addr} {L M : List (Option Nat)} (h : RdF w B A n L) (h' : RdF w B' A' m M) (hn : n ≤ 1048576) (hm : m ≤ 1048576) :
    Calls Try.prog 66 #[.slice A n c, .slice A' m c'] w fun e w' => e = .returned (.bool (sameL L M)) ∧ Dr w w' := by
  go_enter Try.func66, Try.ntmps66
  go_wp2_with (go_at_call 108; refine Calls.mono (c_EqF1 h h' hn hm) ?_; rintro e w1 ⟨rfl, n1, rfl⟩)
  go_ret
  exact ⟨rfl, _, rfl⟩



end Go.Proofs.Ytkbkjkjjoogieaa
