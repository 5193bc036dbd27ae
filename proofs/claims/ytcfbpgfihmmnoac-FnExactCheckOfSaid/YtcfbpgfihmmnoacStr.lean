/- Strings by their bytes: names and check numbers, and the walks of the functions that read them. Condition: strings of at most 1048576 bytes (the laws ask no more). -/
import Derived.Test.YtcfbpgfihmmnoacLaw
import Derived.Test.YtcfbpgfihmmnoacRows
import Derived.WalkKit
import Derived.WalkSpells
import Derived.WalkLawsBesides
import Derived.Lib.Hide
import Derived.Lib.ConvBytes
namespace Go.Proofs.Ytcfbpgfihmmnoac
open Go.RowKit

theorem bytes_below (w : World) (e : TypeId) (s : ByteArray) : Below w.heap.size w (Lib.bytesWorld w e s) :=
  ⟨rfl, rfl, rfl, by rw [Lib.bytesWorld_size]; omega, fun k hk => Lib.bytesWorld_at_old w e s k hk⟩

theorem bytes_len (s : ByteArray) : s.data.toList.length = s.size := by rw [Array.length_toList]; rfl

theorem byte_at (s : ByteArray) (k : Nat) (h : k < s.size) : s[k] = s.data.toList.getD k 0 := by
  have h' : k < s.data.toList.length := by rw [bytes_len]; exact h
  rw [List.getD_eq_getElem?_getD, List.getElem?_eq_getElem h']
  rfl

theorem take_succ_byte (s : ByteArray) (k : Nat) (h : k < s.size) : s.data.toList.take (k + 1) = s.data.toList.take k ++ [s.data.toList.getD k 0] := by
  have h' : k < s.data.toList.length := by rw [bytes_len]; exact h
  rw [List.take_succ_eq_append_getElem h', List.getD_eq_getElem?_getD, List.getElem?_eq_getElem h']
  rfl

theorem take_all (s : ByteArray) (k : Nat) (h : k = s.size) : s.data.toList.take k = s.data.toList := List.take_of_length_le (by rw [bytes_len]; omega)

/-- The check number of bytes. -/
def chk (start : Nat) (l : List UInt8) : Nat := l.foldl (fun n c => (733 * n + c.toNat + 61) % 65003) start
theorem chk_lt (start : Nat) (h : start < 65003) (l : List UInt8) : chk start l < 65003 := by
  unfold chk
  induction l generalizing start with
  | nil => exact h
  | cons c l ih => exact ih _ (Nat.mod_lt _ (by omega))
theorem chk_succ (start : Nat) (s : ByteArray) (k : Nat) (h : k < s.size) : chk start (s.data.toList.take (k + 1)) = (733 * chk start (s.data.toList.take k) + (s.data.toList.getD k 0).toNat + 61) % 65003 := by
  rw [take_succ_byte s k h, chk, List.foldl_append]; rfl

set_option maxHeartbeats 400000 in
theorem c_l01Check (w : World) (start : Nat) (hs : start < 65003) (s : ByteArray) (hn : s.size ≤ 1048576) :
    Calls Try.prog 46 #[.int .i64 start, .string s] w fun e w' => e = .returned (.int .i64 (chk start s.data.toList)) ∧ w = w' := by
  go_enter Try.func46, Try.ntmps46
  go_wp2
  go_loop [0, 5] (fun x i => ∃ k : Nat, k ≤ s.size ∧ i = .int .i64 k ∧ x = .int .i64 (chk start (s.data.toList.take k))) (fun _ i => s.size - (intOf i).toNat)
  case atStart => exact ⟨0, Nat.zero_le _, rfl, rfl⟩
  case round =>
    obtain ⟨k, hk, rfl, rfl⟩ := hrel
    have hb := chk_lt start hs (s.data.toList.take k)
    by_cases hlt : k < s.size
    · have hc := chk_succ start s k hlt
      have hy := byte_at s k hlt
      have h256 : s[k].toNat < 256 := s[k].toNat_lt
      have HC := Lib.hid hc
      have HY := Lib.hid hy
      clear hc hy
      generalize hg : chk start (s.data.toList.take k) = x at *
      have HG := Lib.hid hg
      clear hg
      go_wp2
      exact ⟨⟨k + 1, by omega, by go_num, by rw [HC.out, ← HY.out]; simp⟩, by simp [intOf]; omega⟩
    · go_wp2
      go_ret
      exact ⟨by rw [take_all s k (by omega)]; rfl, rfl⟩
set_option maxHeartbeats 800000 in
theorem c_impl_CheckOf (w : World) (start : Nat) (hs : start < 65003) (s : ByteArray) (hn : s.size ≤ 1048576) :
    Calls Try.prog 26 #[.int .i64 start, .string s] w fun e w' => e = .returned (.tuple #[.int .i64 (chk start s.data.toList), .bool true]) ∧ Below w.heap.size w w' := by
  have hcv := fun W => Lib.run_convert_string_bytes (P := Try.prog) W 9 32 5 s Try.underlying9 Try.underlying32 Try.underlying5
  have h1 : ¬ ((start : Int) < 0) := by omega
  have h2 : ¬ (65003 ≤ (start : Int)) := by omega
  go_enter Try.func26, Try.ntmps26
  go_wp2
  go_loop [6, 8, 19] (fun x _ i => ∃ k : Nat, k ≤ s.size ∧ i = .int .i64 k ∧ x = .int .i64 (chk start (s.data.toList.take k))) (fun _ _ i => s.size - (intOf i).toNat)
  case atStart => exact ⟨0, Nat.zero_le _, rfl, rfl⟩
  case round =>
    obtain ⟨k, hk, rfl, rfl⟩ := hrel
    have hb := chk_lt start hs (s.data.toList.take k)
    by_cases hlt : k < s.size
    · have hc := chk_succ start s k hlt
      have hcell := Lib.bytesWorld_cell w 5 s k hlt
      have h256 : (s.data.toList.getD k 0).toNat < 256 := UInt8.toNat_lt _
      generalize s.data.toList.getD k 0 = y at *
      have HC := Lib.hid hc
      clear hc
      generalize hg : chk start (s.data.toList.take k) = x at *
      have HG := Lib.hid hg
      clear hg
      go_wp2
      exact ⟨⟨k + 1, by omega, by go_num, by rw [HC.out]; simp⟩, by simp [intOf]; omega⟩
    · go_wp2
      go_ret2
      exact ⟨by rw [take_all s k (by omega)]; rfl, bytes_below _ _ _⟩
/-- A name: 1 to 8 bytes from a to z. -/
def letters (l : List UInt8) : Bool := l.all fun c => 97 ≤ c.toNat && c.toNat ≤ 122
theorem letters_succ (s : ByteArray) (k : Nat) (h : k < s.size) : letters (s.data.toList.take (k + 1)) = (letters (s.data.toList.take k) && (97 ≤ (s.data.toList.getD k 0).toNat && (s.data.toList.getD k 0).toNat ≤ 122)) := by
  rw [take_succ_byte s k h, letters, List.all_append]; simp [letters]
theorem letters_no (s : ByteArray) (k : Nat) (h : k < s.size) (hc : ¬ (97 ≤ (s.data.toList.getD k 0).toNat ∧ (s.data.toList.getD k 0).toNat ≤ 122)) : letters s.data.toList = false := by
  have h1 := List.take_append_drop (k + 1) s.data.toList
  rw [← h1, letters, List.all_append]
  have h2 : letters (s.data.toList.take (k + 1)) = false := by
    rw [letters_succ s k h]
    have : (decide (97 ≤ (s.data.toList.getD k 0).toNat) && decide ((s.data.toList.getD k 0).toNat ≤ 122)) = false := by
      rw [Bool.eq_false_iff]; intro hh; rw [Bool.and_eq_true, decide_eq_true_eq, decide_eq_true_eq] at hh; exact hc hh
    rw [this, Bool.and_false]
  unfold letters at h2
  rw [h2]; rfl
def nameB (s : ByteArray) : Bool := letters s.data.toList && (decide (1 ≤ s.size) && decide (s.size ≤ 8))

theorem nameB_all (s : ByteArray) (h : letters s.data.toList = true) : nameB s = (decide (1 ≤ s.size) && decide (s.size ≤ 8)) := by unfold nameB; rw [h, Bool.true_and]
theorem nameB_no (s : ByteArray) (h : letters s.data.toList = false) : nameB s = false := by unfold nameB; rw [h, Bool.false_and]

end Go.Proofs.Ytcfbpgfihmmnoac
