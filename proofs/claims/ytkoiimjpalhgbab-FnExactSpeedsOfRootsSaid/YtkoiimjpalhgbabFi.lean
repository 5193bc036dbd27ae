/- Contracts: lists whose numbers are all finite are returned, on both sides. Condition: the list is read (RdF). -/
import Derived.Test.YtkoiimjpalhgbabOw
import Derived.Test.YtkoiimjpalhgbabG1
namespace Go.Proofs.Ytkoiimjpalhgbab
open Go.RowKit Ieee

def finL (L : List (Option Nat)) : Bool := L.all (ffin .f32)
theorem finL_no {L : List (Option Nat)} {k : Nat} (h : k < L.length) (hf : ffin .f32 (L.getD k none) = false) : finL L = false := by
  rw [Bool.eq_false_iff]
  intro ha
  unfold finL at ha
  rw [List.all_eq_true] at ha
  have := ha (L.getD k none) (by simp [List.getD, h])
  rw [hf] at this; cases this
theorem finL_step {L : List (Option Nat)} {k : Nat} (h : k < L.length) (ha : finL (L.take k) = true) (hf : ffin .f32 (L.getD k none) = true) : finL (L.take (k + 1)) = true := by
  unfold finL at *
  rw [take_succ_getD L none k h, List.all_append, ha]; simpa using hf
/-- What is returned of a list, if it is one. -/
def slc (ok : Bool) (A : Option Addr) (n c : Nat) : Value := if ok then .slice A n c else .slice none 0 0
def outL (ok : Bool) (M : List (Option Nat)) : List (Option Nat) := if ok then M else []
theorem outL_len (ok : Bool) (M : List (Option Nat)) : (outL ok M).length ≤ M.length := by cases ok <;> simp [outL]
/-- A list of a call's own is returned, with its success. -/
def RetL (w : World) (e : Ending) (w' : World) (ok : Bool) (M : List (Option Nat)) : Prop :=
  ∃ A n c, e = .returned (.tuple #[.slice A n c, .bool ok]) ∧ OwL w' w.heap.size w'.heap.size A n (outL ok M) ∧ Ext w w'

set_option maxRecDepth 20000 in
set_option maxHeartbeats 1000000 in
theorem c_l02List {w : World} {B n c : Nat} {A : Option Addr} {L : List (Option Nat)} (h : RdF w B A n L) (hn : n ≤ 1048576) :
    Calls Try.prog 80 #[.slice A n c] w fun e w' => e = .returned (.tuple #[slc (finL L) A n c, .bool (finL L)]) ∧ Dr w w' := by
  have hl := Lib.hid h.len
  go_enter Try.func80, Try.ntmps80
  go_wp2_with (fail)
  go_loopw [4] (fun i wr => ∃ k : Nat, k ≤ n ∧ i = .int .i64 k ∧ finL (L.take k) = true ∧ Dr w wr) (fun i _ => n - (intOf i).toNat)
  case atStart => exact ⟨0, Nat.zero_le _, rfl, rfl, 0, rfl⟩
  case round =>
    obtain ⟨k, hk, rfl, ha, m, rfl⟩ := hrel
    have HA := Lib.hid ha
    clear ha
    by_cases hlt : k < n
    · obtain ⟨b, off, r, rfl, hb, hc, hr⟩ := h.cell hlt
      cases hF : ffin .f32 (L.getD k none)
      · have hend := Lib.hid (finL_no (by have := hl.out; omega) hF)
        go_wp2_with (go_at_call 62; refine Calls.mono (c_l01Finite hr _) ?_; rw [hF]; rintro e w' ⟨rfl, n1, rfl⟩)
        go_ret2
        exact ⟨by rw [hend.out]; rfl, _, rfl⟩
      · have hend := Lib.hid (finL_step (by have := hl.out; omega) HA.out hF)
        go_wp2_with (go_at_call 62; refine Calls.mono (c_l01Finite hr _) ?_; rw [hF]; rintro e w' ⟨rfl, n1, rfl⟩)
        exact ⟨⟨k + 1, by omega, by go_num, hend.out, _, rfl⟩, by simp [intOf]; omega⟩
    · have hkn : k = n := by omega
      subst hkn
      have hend := Lib.hid (show finL L = true by have := HA.out; rwa [fsum_all hl.out] at this)
      go_wp2_with (fail)
      go_ret2
      exact ⟨by rw [hend.out]; rfl, _, rfl⟩
set_option maxRecDepth 20000 in
set_option maxHeartbeats 1000000 in
theorem c_finiteList {w : World} {B n c : Nat} {A : Option Addr} {L : List (Option Nat)} (h : RdF w B A n L) (hn : n ≤ 1048576) :
    Calls Try.prog 83 #[.slice A n c] w fun e w' => e = .returned (.tuple #[slc (finL L) A n c, .bool (finL L)]) ∧ Dr w w' := by
  have hl := Lib.hid h.len
  go_enter Try.func83, Try.ntmps83
  go_wp2_with (fail)
  go_loopw [8] (fun i wr => ∃ k : Nat, k ≤ n ∧ i = .int .i64 k ∧ finL (L.take k) = true ∧ Dr w wr) (fun i _ => n - (intOf i).toNat)
  case atStart => exact ⟨0, Nat.zero_le _, rfl, rfl, 0, rfl⟩
  case round =>
    obtain ⟨k, hk, rfl, ha, m, rfl⟩ := hrel
    have HA := Lib.hid ha
    clear ha
    by_cases hlt : k < n
    · obtain ⟨b, off, r, rfl, hb, hc, hr⟩ := h.cell hlt
      cases hF : ffin .f32 (L.getD k none)
      · have hend := Lib.hid (finL_no (by have := hl.out; omega) hF)
        go_wp2_with (go_at_call 69; refine Calls.mono (c_impl_IsFinite hr _) ?_; rw [hF]; rintro e w' ⟨rfl, n1, rfl⟩)
        go_ret2
        exact ⟨by rw [hend.out]; rfl, _, rfl⟩
      · have hend := Lib.hid (finL_step (by have := hl.out; omega) HA.out hF)
        go_wp2_with (go_at_call 69; refine Calls.mono (c_impl_IsFinite hr _) ?_; rw [hF]; rintro e w' ⟨rfl, n1, rfl⟩)
        exact ⟨⟨k + 1, by omega, by go_num, hend.out, _, rfl⟩, by simp [intOf]; omega⟩
    · have hkn : k = n := by omega
      subst hkn
      have hend := Lib.hid (show finL L = true by have := HA.out; rwa [fsum_all hl.out] at this)
      go_wp2_with (fail)
      go_ret2
      exact ⟨by rw [hend.out]; rfl, _, rfl⟩
end Go.Proofs.Ytkoiimjpalhgbab
