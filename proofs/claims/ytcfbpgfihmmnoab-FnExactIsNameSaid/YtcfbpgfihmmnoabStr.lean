/- Strings by their bytes: names and check numbers, and the walks of the functions that read them. Condition: strings of at most 1048576 bytes (the laws ask no more). -/
import Derived.Test.YtcfbpgfihmmnoabLaw
import Derived.Test.YtcfbpgfihmmnoabRows
import Derived.WalkKit
import Derived.WalkSpells
import Derived.WalkLawsBesides
import Derived.Lib.Hide
import Derived.Lib.ConvBytes
namespace Go.Proofs.Ytcfbpgfihmmnoab
open Go.RowKit

theorem bytes_below (w : World) (e : TypeId) (s : ByteArray) : Below w.heap.size w (Lib.bytesWorld w e s) :=
  ⟨rfl, rfl, rfl, by rw [Lib.bytesWorld_size]; omega, fun k hk => Lib.bytesWorld_at_old w e s k hk⟩

theorem bytes_len (s : ByteArray) : s.data.toList.length = s.size := by rw [Array.length_toList]; rfl

theorem byte_at (s : ByteArray) (k : Nat) (h : k < s.size) : s[k] = s.data.toList.getD k 0 := by
  have h' : k < s.data.toList.length := by rw [bytes_len]; exact h
  rw [List.getD_eq_getElem?_getD, List.getElem?_eq_getElem h']
  rfl

theorem take_succ_byte (s : ByteArray) (k : Nat) (h : k < s.size) : s.data.toList.take (k + 1) = s.data.toList.take k ++ [s.data.toList.getD k 0] := by
  have h' : k < s.data.toList.length := by rw [bytes_len]; exact h
  rw [List.take_succ_eq_append_getElem h', List.getD_eq_getElem?_getD, List.getElem?_eq_getElem h']
  rfl

theorem take_all (s : ByteArray) (k : Nat) (h : k = s.size) : s.data.toList.take k = s.data.toList := List.take_of_length_le (by rw [bytes_len]; omega)

/-- The check number of bytes. -/
def chk (start : Nat) (l : List UInt8) : Nat := l.foldl (fun n c => (733 * n + c.toNat + 61) % 65003) start
theorem chk_lt (start : Nat) (h : start < 65003) (l : List UInt8) : chk start l < 65003 := by
  unfold chk
  induction l generalizing start with
  | nil => exact h
  | cons c l ih => exact ih _ (Nat.mod_lt _ (by omega))
theorem chk_succ (start : Nat) (s : ByteArray) (k : Nat) (h : k < s.size) : chk start (s.data.toList.take (k + 1)) = (733 * chk start (s.data.toList.take k) + (s.data.toList.getD k 0).toNat + 61) % 65003 := by
  rw [take_succ_byte s k h, chk, List.foldl_append]; rfl

/-- A name: 1 to 8 bytes from a to z. -/
def letters (l : List UInt8) : Bool := l.all fun c => 97 ≤ c.toNat && c.toNat ≤ 122
theorem letters_succ (s : ByteArray) (k : Nat) (h : k < s.size) : letters (s.data.toList.take (k + 1)) = (letters (s.data.toList.take k) && (97 ≤ (s.data.toList.getD k 0).toNat && (s.data.toList.getD k 0).toNat ≤ 122)) := by
  rw [take_succ_byte s k h, letters, List.all_append]; simp [letters]
theorem letters_no (s : ByteArray) (k : Nat) (h : k < s.size) (hc : ¬ (97 ≤ (s.data.toList.getD k 0).toNat ∧ (s.data.toList.getD k 0).toNat ≤ 122)) : letters s.data.toList = false := by
  have h1 := List.take_append_drop (k + 1) s.data.toList
  rw [← h1, letters, List.all_append]
  have h2 : letters (s.data.toList.take (k + 1)) = false := by
    rw [letters_succ s k h]
    have : (decide (97 ≤ (s.data.toList.getD k 0).toNat) && decide ((s.data.toList.getD k 0).toNat ≤ 122)) = false := by
      rw [Bool.eq_false_iff]; intro hh; rw [Bool.and_eq_true, decide_eq_true_eq, decide_eq_true_eq] at hh; exact hc hh
    rw [this, Bool.and_false]
  unfold letters at h2
  rw [h2]; rfl
def nameB (s : ByteArray) : Bool := letters s.data.toList && (decide (1 ≤ s.size) && decide (s.size ≤ 8))

theorem nameB_all (s : ByteArray) (h : letters s.data.toList = true) : nameB s = (decide (1 ≤ s.size) && decide (s.size ≤ 8)) := by unfold nameB; rw [h, Bool.true_and]
theorem nameB_no (s : ByteArray) (h : letters s.data.toList = false) : nameB s = false := by unfold nameB; rw [h, Bool.false_and]

set_option maxHeartbeats 800000 in
theorem c_spec_IsName (w : World) (s : ByteArray) (hn : s.size ≤ 1048576) :
    Calls Try.prog 27 #[.string s] w fun e w' => e = .returned (.bool (nameB s)) ∧ w = w' := by
  go_enter Try.func27, Try.ntmps27
  go_wp2
  go_loop [3] (fun i => ∃ k : Nat, k ≤ s.size ∧ i = .int .i64 k ∧ letters (s.data.toList.take k) = true) (fun i => s.size - (intOf i).toNat)
  case atStart => exact ⟨0, Nat.zero_le _, rfl, rfl⟩
  case round =>
    obtain ⟨k, hk, rfl, hl⟩ := hrel
    have HL := Lib.hid hl
    clear hl
    by_cases hlt : k < s.size
    · have hy := byte_at s k hlt
      have h256 : s[k].toNat < 256 := s[k].toNat_lt
      have hls := letters_succ s k hlt
      have hno := letters_no s k hlt
      rw [← hy] at hls hno
      have HLS := Lib.hid hls
      have HNO := Lib.hid hno
      have HY := Lib.hid hy
      clear hls hno hy
      by_cases hc1 : ((s[k].toNat : Nat) : Int) < 97
      · go_wp2
        go_ret
        exact ⟨by rw [nameB_no s (HNO.out (by omega))]; rfl, rfl⟩
      · by_cases hc2 : (122 : Int) < ((s[k].toNat : Nat) : Int)
        · go_wp2
          go_ret
          exact ⟨by rw [nameB_no s (HNO.out (by omega))]; rfl, rfl⟩
        · go_wp2
          exact ⟨⟨k + 1, by omega, by go_num, by rw [HLS.out, HL.out]; simp; omega⟩, by simp [intOf]; omega⟩
    · have hall := HL.out
      rw [take_all s k (by omega)] at hall
      have hN := nameB_all s hall
      clear hall
      by_cases h1 : 1 ≤ s.size
      · have h1' : (1 : Int) ≤ (s.size : Int) := by omega
        have HN := Lib.hid hN
        clear hN
        go_wp2
        go_ret
        refine ⟨?_, rfl⟩
        rw [HN.out]
        simp [h1]
        omega
      · have h1' : (s.size : Int) < 1 := by omega
        have HN := Lib.hid hN
        clear hN
        go_wp2
        go_ret
        refine ⟨?_, rfl⟩
        rw [HN.out]
        simp [h1]
set_option maxHeartbeats 800000 in
theorem c_impl_IsName (w : World) (s : ByteArray) (hn : s.size ≤ 1048576) :
    Calls Try.prog 28 #[.string s] w fun e w' => e = .returned (.bool (nameB s)) ∧ Below w.heap.size w w' := by
  have hcv := fun W => Lib.run_convert_string_bytes (P := Try.prog) W 9 36 5 s Try.underlying9 Try.underlying36 Try.underlying5
  go_enter Try.func28, Try.ntmps28
  go_wp2
  go_loop [4, 8] (fun _ i => ∃ k : Nat, k ≤ s.size ∧ i = .int .i64 k ∧ letters (s.data.toList.take k) = true) (fun _ i => s.size - (intOf i).toNat)
  case atStart => exact ⟨0, Nat.zero_le _, rfl, rfl⟩
  case round =>
    obtain ⟨k, hk, rfl, hl⟩ := hrel
    have HL := Lib.hid hl
    clear hl
    by_cases hlt : k < s.size
    · have hcell := Lib.bytesWorld_cell w 5 s k hlt
      have h256 : (s.data.toList.getD k 0).toNat < 256 := UInt8.toNat_lt _
      have hls := letters_succ s k hlt
      have hno := letters_no s k hlt
      generalize s.data.toList.getD k 0 = y at *
      have HLS := Lib.hid hls
      have HNO := Lib.hid hno
      clear hls hno
      by_cases hc1 : ((y.toNat : Nat) : Int) < 97
      · go_wp2
        go_ret
        exact ⟨by rw [nameB_no s (HNO.out (by omega))]; rfl, bytes_below _ _ _⟩
      · by_cases hc2 : (122 : Int) < ((y.toNat : Nat) : Int)
        · go_wp2
          go_ret
          exact ⟨by rw [nameB_no s (HNO.out (by omega))]; rfl, bytes_below _ _ _⟩
        · go_wp2
          exact ⟨⟨k + 1, by omega, by go_num, by rw [HLS.out, HL.out]; simp; omega⟩, by simp [intOf]; omega⟩
    · have hall := HL.out
      rw [take_all s k (by omega)] at hall
      have hN := nameB_all s hall
      clear hall
      have HN := Lib.hid hN
      clear hN
      by_cases h1 : 1 ≤ s.size
      · have h1' : (1 : Int) ≤ (s.size : Int) := by omega
        go_wp2
        go_ret
        refine ⟨?_, bytes_below _ _ _⟩
        rw [HN.out]
        simp [h1]
        omega
      · have h1' : (s.size : Int) < 1 := by omega
        go_wp2
        go_ret
        refine ⟨?_, bytes_below _ _ _⟩
        rw [HN.out]
        simp [h1]
end Go.Proofs.Ytcfbpgfihmmnoab
