/- Contracts: whether gathers are the same, on both sides. Condition: both are read. -/
import Derived.Test.YtbdmdpaggnaneabYd
namespace Go.Proofs.Ytbdmdpaggnaneab
open Go.RowKit Ieee

def upto (p : Nat → Bool) (k : Nat) : Bool := (List.range k).all p
theorem upto_zero (p : Nat → Bool) : upto p 0 = true := rfl
theorem upto_succ (p : Nat → Bool) (k : Nat) : upto p (k + 1) = (upto p k && p k) := by unfold upto; rw [List.range_succ, List.all_append]; simp
theorem upto_step {p : Nat → Bool} {k : Nat} (h : upto p k = true) (h1 : p k = true) : upto p (k + 1) = true := by rw [upto_succ, h, h1]; rfl
theorem upto_no {p : Nat → Bool} {k n : Nat} (hk : k < n) (h : p k = false) : upto p n = false := by
  rw [Bool.eq_false_iff]
  intro ha
  unfold upto at ha
  rw [List.all_eq_true] at ha
  have := ha k (List.mem_range.2 hk)
  rw [h] at this; cases this
def fsame (X Y : Option Nat) : Bool := decide (fbits X = fbits Y)
def sameL (L M : List (Option Nat)) : Bool := same2 L.length M.length && upto (fun j => fsame (L.getD j none) (M.getD j none)) L.length
def sameR (R S : List (List (Option Nat))) : Bool := same2 R.length S.length && upto (fun j => sameL (R.getD j []) (S.getD j [])) R.length
def sameG (G H : Gat) : Bool := decide (G.t = H.t) && (sameL G.p H.p && sameR G.r H.r)
theorem sameL_len {L M : List (Option Nat)} {n m : Nat} (h : L.length = n) (h' : M.length = m) (hn : n ≠ m) : sameL L M = false := by unfold sameL; rw [h, h', same2_no hn]; rfl
theorem sameL_eq {L M : List (Option Nat)} {n : Nat} (h : L.length = n) (h' : M.length = n) : sameL L M = upto (fun j => fsame (L.getD j none) (M.getD j none)) n := by unfold sameL; rw [h, h', same2_yes rfl]; rfl
theorem sameR_len {R S : List (List (Option Nat))} {n m : Nat} (h : R.length = n) (h' : S.length = m) (hn : n ≠ m) : sameR R S = false := by unfold sameR; rw [h, h', same2_no hn]; rfl
theorem sameR_eq {R S : List (List (Option Nat))} {n : Nat} (h : R.length = n) (h' : S.length = n) : sameR R S = upto (fun j => sameL (R.getD j []) (S.getD j [])) n := by unfold sameR; rw [h, h', same2_yes rfl]; rfl

set_option maxRecDepth 20000 in
set_option maxHeartbeats 400000 in
theorem c_l01Same {a b : Nat} {X Y : Option Nat} (fa : Fl .f32 a X) (fb : Fl .f32 b Y) (w : World) :
    Calls Try.prog 94 #[.float .f32 a, .float .f32 b] w fun e w' => e = .returned (.bool (fsame X Y)) ∧ Dr w w' := by
  go_enter Try.func94, Try.ntmps94
  go_wp2_with (go_at_call 120; refine Calls.mono (c_spec_l01Bits (by assumption) _) ?_; rintro e w' ⟨rfl, rfl⟩)
  go_ret
  exact ⟨rfl, 0, rfl⟩
set_option maxRecDepth 20000 in
set_option maxHeartbeats 400000 in
theorem c_SameNumber {a b : Nat} {X Y : Option Nat} (fa : Fl .f32 a X) (fb : Fl .f32 b Y) (w : World) :
    Calls Try.prog 96 #[.float .f32 a, .float .f32 b] w fun e w' => e = .returned (.bool (fsame X Y)) ∧ Dr w w' := by
  go_enter Try.func96, Try.ntmps96
  go_wp2_with (go_at_call 121; refine Calls.mono (c_impl_BitsOf (by assumption) _) ?_; rintro e w' ⟨rfl, rfl⟩)
  go_ret
  exact ⟨rfl, 0, rfl⟩

set_option maxRecDepth 20000 in
set_option maxHeartbeats 4000000 in
theorem c_l01SameAll {w : World} {B B' n m c c' : Nat} {A A' : Option Addr} {L M : List (Option Nat)} (h : RdF w B A n L) (h' : RdF w B' A' m M) (hn : n ≤ 1048576) (hm : m ≤ 1048576) :
    Calls Try.prog 52 #[.slice A n c, .slice A' m c'] w fun e w' => e = .returned (.bool (sameL L M)) ∧ Dr w w' := by
  have hl := h.len
  have hl' := h'.len
  by_cases hnm : n = m
  case neg =>
    rw [sameL_len hl hl' hnm]
    have hi : ¬ ((n : Int) = (m : Int)) := by omega
    clear hl hl'
    go_enter Try.func52, Try.ntmps52
    go_wp2_with (fail)
    go_ret
    exact ⟨rfl, 0, rfl⟩
  subst hnm
  rw [sameL_eq hl hl']
  clear hl hl'
  go_enter Try.func52, Try.ntmps52
  go_wp2_with (fail)
  go_loopw [5] (fun i wr => ∃ k : Nat, k ≤ n ∧ i = .int .i64 k ∧ upto (fun j => fsame (L.getD j none) (M.getD j none)) k = true ∧ Dr w wr) (fun i _ => n - (intOf i).toNat)
  case atStart => exact ⟨0, Nat.zero_le _, rfl, rfl, 0, rfl⟩
  case round =>
    obtain ⟨k, hk, rfl, ha, hD⟩ := hrel
    have hxr : Ext w wr := hD.below
    have HA := Lib.hid ha
    clear ha
    by_cases hlt : k < n
    · have hlt' : (k : Int) < (n : Int) := by omega
      obtain ⟨b1, o1, t1, rfl, hb1, hc1, ht1⟩ := h.cell hlt
      obtain ⟨b2, o2, t2, rfl, hb2, hc2, ht2⟩ := h'.cell hlt
      have hc1 : wr.cell? ⟨b1, o1 + k, none⟩ = some (.float .f32 t1) := by obtain ⟨q, rfl⟩ := hD; exact hc1
      have hc2 : wr.cell? ⟨b2, o2 + k, none⟩ = some (.float .f32 t2) := by obtain ⟨q, rfl⟩ := hD; exact hc2
      have cS : ∀ W, Ext wr W → Calls Try.prog 94 #[.float .f32 t1, .float .f32 t2] W fun e w' => e = .returned (.bool (fsame (L.getD k none) (M.getD k none))) ∧ ∃ q, w' = W.drewN q := fun W _ => c_l01Same ht1 ht2 W
      cases hF : fsame (L.getD k none) (M.getD k none)
      · rw [hF] at cS
        have hend := Lib.hid (upto_no (p := fun j => fsame (L.getD j none) (M.getD j none)) hlt hF).symm
        clear hF ht1 ht2
        go_wp2_with (fail)
        go_quiet (first | (go_at_call 94; exact Calls.quiet_of (cS _ (by repeat (first | assumption | exact Ext.refl _ | apply Ext.drewN | apply Ext.drew | apply Ext.alloc | (refine Ext.trans ?_ (by assumption)) | (refine Ext.set ?_ (by dsimp only; omega) _))))))
        go_wp2_with (fail)
        go_ret
        exact ⟨retb hend.out, hD.drewN _⟩
      · rw [hF] at cS
        have hst := Lib.hid (upto_step (p := fun j => fsame (L.getD j none) (M.getD j none)) HA.out hF)
        clear hF ht1 ht2
        go_wp2_with (fail)
        go_quiet (first | (go_at_call 94; exact Calls.quiet_of (cS _ (by repeat (first | assumption | exact Ext.refl _ | apply Ext.drewN | apply Ext.drew | apply Ext.alloc | (refine Ext.trans ?_ (by assumption)) | (refine Ext.set ?_ (by dsimp only; omega) _))))))
        go_wp2_with (fail)
        exact ⟨⟨k + 1, by omega, by go_num, hst.out, hD.drewN _⟩, by simp [intOf]; omega⟩
    · obtain rfl : k = n := by omega
      go_wp2_with (fail)
      go_ret
      exact ⟨retb HA.out.symm, hD⟩

set_option maxRecDepth 20000 in
set_option maxHeartbeats 4000000 in
theorem c_EqF1 {w : World} {B B' n m c c' : Nat} {A A' : Option Addr} {L M : List (Option Nat)} (h : RdF w B A n L) (h' : RdF w B' A' m M) (hn : n ≤ 1048576) (hm : m ≤ 1048576) :
    Calls Try.prog 95 #[.slice A n c, .slice A' m c', .func (.func 96) #[] #[]] w fun e w' => e = .returned (.bool (sameL L M)) ∧ Dr w w' := by
  have hl := h.len
  have hl' := h'.len
  by_cases hnm : n = m
  case neg =>
    rw [sameL_len hl hl' hnm]
    have hi : ¬ ((n : Int) = (m : Int)) := by omega
    clear hl hl'
    go_enter Try.func95, Try.ntmps95
    go_wp2_with (fail)
    go_ret
    exact ⟨rfl, 0, rfl⟩
  subst hnm
  rw [sameL_eq hl hl']
  clear hl hl'
  go_enter Try.func95, Try.ntmps95
  go_wp2_with (fail)
  go_loopw [17] (fun i wr => ∃ k : Nat, k ≤ n ∧ i = .int .i64 k ∧ upto (fun j => fsame (L.getD j none) (M.getD j none)) k = true ∧ Dr w wr) (fun i _ => n - (intOf i).toNat)
  case atStart => exact ⟨0, Nat.zero_le _, rfl, rfl, 0, rfl⟩
  case round =>
    obtain ⟨k, hk, rfl, ha, hD⟩ := hrel
    have hxr : Ext w wr := hD.below
    have HA := Lib.hid ha
    clear ha
    by_cases hlt : k < n
    · have hlt' : (k : Int) < (n : Int) := by omega
      obtain ⟨b1, o1, t1, rfl, hb1, hc1, ht1⟩ := h.cell hlt
      obtain ⟨b2, o2, t2, rfl, hb2, hc2, ht2⟩ := h'.cell hlt
      have hc1 : wr.cell? ⟨b1, o1 + k, none⟩ = some (.float .f32 t1) := by obtain ⟨q, rfl⟩ := hD; exact hc1
      have hc2 : wr.cell? ⟨b2, o2 + k, none⟩ = some (.float .f32 t2) := by obtain ⟨q, rfl⟩ := hD; exact hc2
      have cS : ∀ W, Ext wr W → Calls Try.prog 96 #[.float .f32 t1, .float .f32 t2] W fun e w' => e = .returned (.bool (fsame (L.getD k none) (M.getD k none))) ∧ ∃ q, w' = W.drewN q := fun W _ => c_SameNumber ht1 ht2 W
      cases hF : fsame (L.getD k none) (M.getD k none)
      · rw [hF] at cS
        have hend := Lib.hid (upto_no (p := fun j => fsame (L.getD j none) (M.getD j none)) hlt hF).symm
        clear hF ht1 ht2
        go_wp2_with (go_at_call 96; refine Calls.mono (cS _ (by repeat (first | assumption | exact Ext.refl _ | apply Ext.drewN | apply Ext.drew | apply Ext.alloc | (refine Ext.trans ?_ (by assumption)) | (refine Ext.set ?_ (by dsimp only; omega) _)))) ?_; rintro e w5 ⟨rfl, q5, rfl⟩)
        go_ret
        exact ⟨retb hend.out, hD.drewN _⟩
      · rw [hF] at cS
        have hst := Lib.hid (upto_step (p := fun j => fsame (L.getD j none) (M.getD j none)) HA.out hF)
        clear hF ht1 ht2
        go_wp2_with (go_at_call 96; refine Calls.mono (cS _ (by repeat (first | assumption | exact Ext.refl _ | apply Ext.drewN | apply Ext.drew | apply Ext.alloc | (refine Ext.trans ?_ (by assumption)) | (refine Ext.set ?_ (by dsimp only; omega) _)))) ?_; rintro e w5 ⟨rfl, q5, rfl⟩)
        exact ⟨⟨k + 1, by omega, by go_num, hst.out, hD.drewN _⟩, by simp [intOf]; omega⟩
    · obtain rfl : k = n := by omega
      go_wp2_with (fail)
      go_ret
      exact ⟨retb HA.out.symm, hD⟩

set_option maxRecDepth 20000 in
set_option maxHeartbeats 400000 in
theorem c_sameNumbers {w : World} {B B' n m c c' : Nat} {A A' : Option Addr} {L M : List (Option Nat)} (h : RdF w B A n L) (h' : RdF w B' A' m M) (hn : n ≤ 1048576) (hm : m ≤ 1048576) :
    Calls Try.prog 54 #[.slice A n c, .slice A' m c'] w fun e w' => e = .returned (.bool (sameL L M)) ∧ Dr w w' := by
  go_enter Try.func54, Try.ntmps54
  go_wp2_with (go_at_call 95; refine Calls.mono (c_EqF1 h h' hn hm) ?_; rintro e w1 ⟨rfl, n1, rfl⟩)
  go_ret
  exact ⟨rfl, _, rfl⟩

set_option maxRecDepth 20000 in
set_option maxHeartbeats 4000000 in
theorem c_EqF2 {w : World} {B B' n m c c' : Nat} {A A' : Option Addr} {L M : List (List (Option Nat))} (h : RdS w B A n L) (h' : RdS w B' A' m M) (hn : n ≤ 1048576) (hm : m ≤ 1048576) (hB : B ≤ w.heap.size) (hB' : B' ≤ w.heap.size) (h3 : ∀ j, j < n → (L.getD j []).length ≤ 1048576) (h3' : ∀ j, j < m → (M.getD j []).length ≤ 1048576) :
    Calls Try.prog 55 #[.slice A n c, .slice A' m c', .func (.func 54) #[] #[]] w fun e w' => e = .returned (.bool (sameR L M)) ∧ Dr w w' := by
  have hl := h.len
  have hl' := h'.len
  by_cases hnm : n = m
  case neg =>
    rw [sameR_len hl hl' hnm]
    have hi : ¬ ((n : Int) = (m : Int)) := by omega
    clear hl hl'
    go_enter Try.func55, Try.ntmps55
    go_wp2_with (fail)
    go_ret
    exact ⟨rfl, 0, rfl⟩
  subst hnm
  rw [sameR_eq hl hl']
  clear hl hl'
  go_enter Try.func55, Try.ntmps55
  go_wp2_with (fail)
  go_loopw [17] (fun i wr => ∃ k : Nat, k ≤ n ∧ i = .int .i64 k ∧ upto (fun j => sameL (L.getD j []) (M.getD j [])) k = true ∧ Dr w wr) (fun i _ => n - (intOf i).toNat)
  case atStart => exact ⟨0, Nat.zero_le _, rfl, rfl, 0, rfl⟩
  case round =>
    obtain ⟨k, hk, rfl, ha, hD⟩ := hrel
    have hxr : Ext w wr := hD.below
    have HA := Lib.hid ha
    clear ha
    by_cases hlt : k < n
    · have hlt' : (k : Int) < (n : Int) := by omega
      obtain ⟨b1, o1, A1, c1, rfl, hb1, hc1, hr1, _⟩ := h.cell hlt
      obtain ⟨b2, o2, A2, c2, rfl, hb2, hc2, hr2, _⟩ := h'.cell hlt
      have hc1 : wr.cell? ⟨b1, o1 + k, none⟩ = some (.slice A1 (L.getD k []).length c1) := by obtain ⟨q, rfl⟩ := hD; exact hc1
      have hc2 : wr.cell? ⟨b2, o2 + k, none⟩ = some (.slice A2 (M.getD k []).length c2) := by obtain ⟨q, rfl⟩ := hD; exact hc2
      have hq1 := h3 k hlt
      have hq2 := h3' k hlt
      obtain ⟨n1, hn1⟩ : ∃ x, (L.getD k []).length = x := ⟨_, rfl⟩
      obtain ⟨n2, hn2⟩ : ∃ x, (M.getD k []).length = x := ⟨_, rfl⟩
      rw [hn1] at hc1 hr1 hq1
      rw [hn2] at hc2 hr2 hq2
      clear hn1 hn2
      have cS : ∀ W, Ext wr W → Calls Try.prog 54 #[.slice A1 n1 c1, .slice A2 n2 c2] W fun e w' => e = .returned (.bool (sameL (L.getD k []) (M.getD k []))) ∧ ∃ q, w' = W.drewN q := fun W hW => c_sameNumbers (hr1.below (Below.mono (hxr.trans hW) hB)) (hr2.below (Below.mono (hxr.trans hW) hB')) hq1 hq2
      cases hF : sameL (L.getD k []) (M.getD k [])
      · rw [hF] at cS
        have hend := Lib.hid (upto_no (p := fun j => sameL (L.getD j []) (M.getD j [])) hlt hF).symm
        clear hF hr1 hr2
        go_wp2_with (go_at_call 54; refine Calls.mono (cS _ (by repeat (first | assumption | exact Ext.refl _ | apply Ext.drewN | apply Ext.drew | apply Ext.alloc | (refine Ext.trans ?_ (by assumption)) | (refine Ext.set ?_ (by dsimp only; omega) _)))) ?_; rintro e w5 ⟨rfl, q5, rfl⟩)
        go_ret
        exact ⟨retb hend.out, hD.drewN _⟩
      · rw [hF] at cS
        have hst := Lib.hid (upto_step (p := fun j => sameL (L.getD j []) (M.getD j [])) HA.out hF)
        clear hF hr1 hr2
        go_wp2_with (go_at_call 54; refine Calls.mono (cS _ (by repeat (first | assumption | exact Ext.refl _ | apply Ext.drewN | apply Ext.drew | apply Ext.alloc | (refine Ext.trans ?_ (by assumption)) | (refine Ext.set ?_ (by dsimp only; omega) _)))) ?_; rintro e w5 ⟨rfl, q5, rfl⟩)
        exact ⟨⟨k + 1, by omega, by go_num, hst.out, hD.drewN _⟩, by simp [intOf]; omega⟩
    · obtain rfl : k = n := by omega
      go_wp2_with (fail)
      go_ret
      exact ⟨retb HA.out.symm, hD⟩

set_option maxRecDepth 20000 in
set_option maxHeartbeats 8000000 in
theorem c_im_Same {w : World} {B B' n m cp ct n' m' cp' ct' : Nat} {Ap At Ap' At' : Option Addr} {G H : Gat} (hp : RdF w B Ap n G.p) (hr : RdS w B At m G.r) (hp' : RdF w B' Ap' n' H.p) (hr' : RdS w B' At' m' H.r) (hB : B ≤ w.heap.size) (hB' : B' ≤ w.heap.size) (h1 : n ≤ 1048576) (h2 : m ≤ 1048576) (h3 : ∀ j, j < m → (G.r.getD j []).length ≤ 1048576) (h1' : n' ≤ 1048576) (h2' : m' ≤ 1048576) (h3' : ∀ j, j < m' → (H.r.getD j []).length ≤ 1048576) :
    Calls Try.prog 18 #[.agg #[.int .i64 G.t, .slice Ap n cp, .slice At m ct], .agg #[.int .i64 H.t, .slice Ap' n' cp', .slice At' m' ct']] w fun e w' => e = .returned (.bool (sameG G H)) ∧ Ext w w' := by
  have cL : ∀ W, Ext w W → Calls Try.prog 54 #[.slice Ap n cp, .slice Ap' n' cp'] W fun e w' => e = .returned (.bool (sameL G.p H.p)) ∧ Dr W w' := fun W hW => c_sameNumbers (hp.below (hW.mono hB)) (hp'.below (hW.mono hB')) h1 h1'
  have cR : ∀ W, Ext w W → Calls Try.prog 55 #[.slice At m ct, .slice At' m' ct', .func (.func 54) #[] #[]] W fun e w' => e = .returned (.bool (sameR G.r H.r)) ∧ Dr W w' := fun W hW => c_EqF2 (hr.below (hW.mono hB)) (hr'.below (hW.mono hB')) h2 h2' (Nat.le_trans hB hW.size) (Nat.le_trans hB' hW.size) h3 h3'
  by_cases ht : G.t = H.t
  case neg =>
    rw [show sameG G H = false by unfold sameG; rw [decide_eq_false ht]; rfl]
    go_enter Try.func18, Try.ntmps18
    go_wp2_with (fail)
    go_ret
    exact ⟨rfl, (by repeat (first | assumption | exact Ext.refl _ | apply Ext.drewN | apply Ext.drew | apply Ext.alloc | (refine Ext.trans ?_ (by assumption)) | (refine Ext.set ?_ (by dsimp only; omega) _)))⟩
  have hG : sameG G H = (sameL G.p H.p && sameR G.r H.r) := by unfold sameG; rw [decide_eq_true ht]; rfl
  rw [hG]
  cases hL : sameL G.p H.p
  · rw [hL] at cL
    go_enter Try.func18, Try.ntmps18
    go_wp2_with (go_at_call 54; refine Calls.mono (cL _ (by repeat (first | assumption | exact Ext.refl _ | apply Ext.drewN | apply Ext.drew | apply Ext.alloc | (refine Ext.trans ?_ (by assumption)) | (refine Ext.set ?_ (by dsimp only; omega) _)))) ?_; rintro e w1 ⟨rfl, n1, rfl⟩)
    go_ret
    exact ⟨rfl, (by repeat (first | assumption | exact Ext.refl _ | apply Ext.drewN | apply Ext.drew | apply Ext.alloc | (refine Ext.trans ?_ (by assumption)) | (refine Ext.set ?_ (by dsimp only; omega) _)))⟩
  · rw [hL] at cL
    rw [Bool.true_and]
    go_enter Try.func18, Try.ntmps18
    go_wp2_with (first | (go_at_call 54; refine Calls.mono (cL _ (by repeat (first | assumption | exact Ext.refl _ | apply Ext.drewN | apply Ext.drew | apply Ext.alloc | (refine Ext.trans ?_ (by assumption)) | (refine Ext.set ?_ (by dsimp only; omega) _)))) ?_; rintro e w1 ⟨rfl, n1, rfl⟩) | (go_at_call 55; refine Calls.mono (cR _ (by repeat (first | assumption | exact Ext.refl _ | apply Ext.drewN | apply Ext.drew | apply Ext.alloc | (refine Ext.trans ?_ (by assumption)) | (refine Ext.set ?_ (by dsimp only; omega) _)))) ?_; rintro e w1 ⟨rfl, n2, rfl⟩))
    go_ret
    exact ⟨rfl, (by repeat (first | assumption | exact Ext.refl _ | apply Ext.drewN | apply Ext.drew | apply Ext.alloc | (refine Ext.trans ?_ (by assumption)) | (refine Ext.set ?_ (by dsimp only; omega) _)))⟩

set_option maxRecDepth 20000 in
set_option maxHeartbeats 8000000 in
theorem c_sp_Same {w : World} {B B' n m cp ct n' m' cp' ct' : Nat} {Ap At Ap' At' : Option Addr} {G H : Gat} (hp : RdF w B Ap n G.p) (hr : RdS w B At m G.r) (hp' : RdF w B' Ap' n' H.p) (hr' : RdS w B' At' m' H.r) (hB : B ≤ w.heap.size) (hB' : B' ≤ w.heap.size) (h1 : n ≤ 1048576) (h2 : m ≤ 1048576) (h3 : ∀ j, j < m → (G.r.getD j []).length ≤ 1048576) (h1' : n' ≤ 1048576) (h2' : m' ≤ 1048576) (h3' : ∀ j, j < m' → (H.r.getD j []).length ≤ 1048576) :
    Calls Try.prog 16 #[.agg #[.int .i64 G.t, .slice Ap n cp, .slice At m ct], .agg #[.int .i64 H.t, .slice Ap' n' cp', .slice At' m' ct']] w fun e w' => e = .returned (.bool (sameG G H)) ∧ Ext w w' := by
  have cL : ∀ W, Ext w W → Calls Try.prog 52 #[.slice Ap n cp, .slice Ap' n' cp'] W fun e w' => e = .returned (.bool (sameL G.p H.p)) ∧ Dr W w' := fun W hW => c_l01SameAll (hp.below (hW.mono hB)) (hp'.below (hW.mono hB')) h1 h1'
  have hlm := hr.len
  have hlm' := hr'.len
  by_cases ht : G.t = H.t
  case neg =>
    rw [show sameG G H = false by unfold sameG; rw [decide_eq_false ht]; rfl]
    clear hlm hlm'
    go_enter Try.func16, Try.ntmps16
    go_wp2_with (fail)
    go_ret
    exact ⟨rfl, (by repeat (first | assumption | exact Ext.refl _ | apply Ext.drewN | apply Ext.drew | apply Ext.alloc | (refine Ext.trans ?_ (by assumption)) | (refine Ext.set ?_ (by dsimp only; omega) _)))⟩
  have hG : sameG G H = (sameL G.p H.p && sameR G.r H.r) := by unfold sameG; rw [decide_eq_true ht]; rfl
  rw [hG, ht]
  by_cases hmm : m = m'
  case neg =>
    rw [sameR_len hlm hlm' hmm, Bool.and_false]
    have hi : ¬ ((m : Int) = (m' : Int)) := by omega
    clear hlm hlm' hG
    go_enter Try.func16, Try.ntmps16
    go_wp2_with (fail)
    go_ret
    exact ⟨rfl, (by repeat (first | assumption | exact Ext.refl _ | apply Ext.drewN | apply Ext.drew | apply Ext.alloc | (refine Ext.trans ?_ (by assumption)) | (refine Ext.set ?_ (by dsimp only; omega) _)))⟩
  subst hmm
  rw [sameR_eq hlm hlm']
  clear hG hlm hlm' ht
  cases hL : sameL G.p H.p
  · rw [hL] at cL
    go_enter Try.func16, Try.ntmps16
    go_wp2_with (go_at_call 52; refine Calls.mono (cL _ (by repeat (first | assumption | exact Ext.refl _ | apply Ext.drewN | apply Ext.drew | apply Ext.alloc | (refine Ext.trans ?_ (by assumption)) | (refine Ext.set ?_ (by dsimp only; omega) _)))) ?_; rintro e w1 ⟨rfl, n1, rfl⟩)
    go_ret
    exact ⟨rfl, (by repeat (first | assumption | exact Ext.refl _ | apply Ext.drewN | apply Ext.drew | apply Ext.alloc | (refine Ext.trans ?_ (by assumption)) | (refine Ext.set ?_ (by dsimp only; omega) _)))⟩
  rw [hL] at cL
  rw [Bool.true_and]
  have hbx1 : GbAt ((w.alloc (.cells #[.int .i64 H.t, .slice Ap n cp, .slice At m ct] 28)).alloc (.cells #[.int .i64 H.t, .slice Ap' n' cp', .slice At' m ct'] 28)) w.heap.size H.t Ap n cp At m ct := GbAt.blk (T := 28) (by repeat (first | (refine al_at ?_ ?_ <;> first | rfl | (simp only [al_size] <;> omega)) | apply al_old))
  have hbx2 : GbAt ((w.alloc (.cells #[.int .i64 H.t, .slice Ap n cp, .slice At m ct] 28)).alloc (.cells #[.int .i64 H.t, .slice Ap' n' cp', .slice At' m ct'] 28)) (w.heap.size + 1) H.t Ap' n' cp' At' m ct' := GbAt.blk (T := 28) (by repeat (first | (refine al_at ?_ ?_ <;> first | rfl | (simp only [al_size] <;> omega)) | apply al_old))
  go_enter Try.func16, Try.ntmps16
  go_wp2_with (go_at_call 52; refine Calls.mono (cL _ (by repeat (first | assumption | exact Ext.refl _ | apply Ext.drewN | apply Ext.drew | apply Ext.alloc | (refine Ext.trans ?_ (by assumption)) | (refine Ext.set ?_ (by dsimp only; omega) _)))) ?_; rintro e w1 ⟨rfl, n1, rfl⟩)
  go_loopw [5] (fun i wr => ∃ k : Nat, k ≤ m ∧ i = .int .i64 k ∧ upto (fun j => sameL (G.r.getD j []) (H.r.getD j [])) k = true ∧ Ext ((w.alloc (.cells #[.int .i64 H.t, .slice Ap n cp, .slice At m ct] 28)).alloc (.cells #[.int .i64 H.t, .slice Ap' n' cp', .slice At' m ct'] 28)) wr) (fun i _ => m - (intOf i).toNat)
  case atStart => exact ⟨0, Nat.zero_le _, rfl, rfl, by first | exact (Ext.refl _).drewN _ | exact Ext.refl _⟩
  case round =>
    obtain ⟨k, hk, rfl, ha, hxx⟩ := hrel
    have hxr : Ext w wr := Ext.trans (Ext.alloc (Ext.alloc (Ext.refl w) _) _) hxx
    have HA := Lib.hid ha
    clear ha
    obtain ⟨p0, p1, p2, _⟩ := hbx1.ext hxx
    obtain ⟨q0, q1, q2, _⟩ := hbx2.ext hxx
    by_cases hlt : k < m
    · have hlt' : (k : Int) < (m : Int) := by omega
      obtain ⟨b1, o1, A1, c1, rfl, hb1, hc1, hr1, _⟩ := (hr.below (hxr.mono hB)).cell hlt
      obtain ⟨b2, o2, A2, c2, rfl, hb2, hc2, hr2, _⟩ := (hr'.below (hxr.mono hB')).cell hlt
      have hq1 := h3 k hlt
      have hq2 := h3' k hlt
      obtain ⟨n1, hn1⟩ : ∃ x, (G.r.getD k []).length = x := ⟨_, rfl⟩
      obtain ⟨n2, hn2⟩ : ∃ x, (H.r.getD k []).length = x := ⟨_, rfl⟩
      rw [hn1] at hc1 hr1 hq1
      rw [hn2] at hc2 hr2 hq2
      clear hn1 hn2
      have cS : ∀ W, Ext wr W → Calls Try.prog 52 #[.slice A1 n1 c1, .slice A2 n2 c2] W fun e w' => e = .returned (.bool (sameL (G.r.getD k []) (H.r.getD k []))) ∧ ∃ q, w' = W.drewN q := fun W hW => c_l01SameAll (hr1.below (hW.mono (Nat.le_trans hB hxr.size))) (hr2.below (hW.mono (Nat.le_trans hB' hxr.size))) hq1 hq2
      cases hF : sameL (G.r.getD k []) (H.r.getD k [])
      · rw [hF] at cS
        have hend := Lib.hid (upto_no (p := fun j => sameL (G.r.getD j []) (H.r.getD j [])) hlt hF).symm
        clear hF hr1 hr2
        go_wp2_with (fail)
        go_quiet (first | (go_at_call 52; exact Calls.quiet_of (cS _ (by repeat (first | assumption | exact Ext.refl _ | apply Ext.drewN | apply Ext.drew | apply Ext.alloc | (refine Ext.trans ?_ (by assumption)) | (refine Ext.set ?_ (by dsimp only; omega) _))))))
        go_wp2_with (fail)
        go_ret
        exact ⟨retb hend.out, (by repeat (first | assumption | exact Ext.refl _ | apply Ext.drewN | apply Ext.drew | apply Ext.alloc | (refine Ext.trans ?_ (by assumption)) | (refine Ext.set ?_ (by dsimp only; omega) _)))⟩
      · rw [hF] at cS
        have hst := Lib.hid (upto_step (p := fun j => sameL (G.r.getD j []) (H.r.getD j [])) HA.out hF)
        clear hF hr1 hr2
        go_wp2_with (fail)
        go_quiet (first | (go_at_call 52; exact Calls.quiet_of (cS _ (by repeat (first | assumption | exact Ext.refl _ | apply Ext.drewN | apply Ext.drew | apply Ext.alloc | (refine Ext.trans ?_ (by assumption)) | (refine Ext.set ?_ (by dsimp only; omega) _))))))
        go_wp2_with (fail)
        exact ⟨⟨k + 1, by omega, by go_num, hst.out, (by repeat (first | assumption | exact Ext.refl _ | apply Ext.drewN | apply Ext.drew | apply Ext.alloc | (refine Ext.trans ?_ (by assumption)) | (refine Ext.set ?_ (by dsimp only; omega) _)))⟩, by simp [intOf]; omega⟩
    · obtain rfl : k = m := by omega
      go_wp2_with (fail)
      go_ret
      exact ⟨retb HA.out.symm, (by repeat (first | assumption | exact Ext.refl _ | apply Ext.drewN | apply Ext.drew | apply Ext.alloc | (refine Ext.trans ?_ (by assumption)) | (refine Ext.set ?_ (by dsimp only; omega) _)))⟩
theorem both_SameGather {G0 G1 : Gat} (hs0 : gsz G0 ≤ 1048576) (hs1 : gsz G1 ≤ 1048576) :
    ∃ X, (∀ (W : World) (B0 : Nat) (v0 : Value), RdG W B0 v0 G0 → B0 ≤ W.heap.size → ∀ (B1 : Nat) (v1 : Value), RdG W B1 v1 G1 → B1 ≤ W.heap.size → Calls Try.prog 16 #[v0, v1] W fun e w' => e = .returned (.bool X) ∧ Ext W w') ∧
      (∀ (W : World) (B0 : Nat) (v0 : Value), RdG W B0 v0 G0 → B0 ≤ W.heap.size → ∀ (B1 : Nat) (v1 : Value), RdG W B1 v1 G1 → B1 ≤ W.heap.size → Calls Try.prog 18 #[v0, v1] W fun e w' => e = .returned (.bool X) ∧ Ext W w') := by
  obtain ⟨s1, s2, s3⟩ : G0.p.length ≤ 1048576 ∧ G0.r.length ≤ 1048576 ∧ tot G0.r ≤ 1048576 := by unfold gsz at hs0; omega
  have s4 : ∀ j, j < G0.r.length → (G0.r.getD j []).length ≤ 1048576 := fun j hj => Nat.le_trans (tot_at hj) s3
  obtain ⟨u1, u2, u3⟩ : G1.p.length ≤ 1048576 ∧ G1.r.length ≤ 1048576 ∧ tot G1.r ≤ 1048576 := by unfold gsz at hs1; omega
  have u4 : ∀ j, j < G1.r.length → (G1.r.getD j []).length ≤ 1048576 := fun j hj => Nat.le_trans (tot_at hj) u3
  refine ⟨sameG G0 G1, fun W B0 v0 h hB B1 v1 h' hB' => ?_, fun W B0 v0 h hB B1 v1 h' hB' => ?_⟩
  · obtain ⟨Ap, cp, At, ct, rfl, hp, hr, _, _⟩ := h.ex
    obtain ⟨Ap', cp', At', ct', rfl, hp', hr', _, _⟩ := h'.ex
    exact c_sp_Same hp hr hp' hr' hB hB' s1 s2 s4 u1 u2 u4
  · obtain ⟨Ap, cp, At, ct, rfl, hp, hr, _, _⟩ := h.ex
    obtain ⟨Ap', cp', At', ct', rfl, hp', hr', _, _⟩ := h'.ex
    exact c_im_Same hp hr hp' hr' hB hB' s1 s2 s4 u1 u2 u4
end Go.Proofs.Ytbdmdpaggnaneab
