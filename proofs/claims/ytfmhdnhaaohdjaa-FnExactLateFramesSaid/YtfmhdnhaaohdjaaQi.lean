/- Contracts: lists of ints that come back: compared, marked, held. Condition: the lists are a call's own. -/
import Derived.Test.YtfmhdnhaaohdjaaYb
import Derived.Deep.OwnRows
import Derived.OwnWalk
namespace Go.Proofs.Ytfmhdnhaaohdjaa
open Go.RowKit Ieee

/-- The slice of address A and length n holds the ints X, in a block from lo to hi. -/
structure OwI (w : World) (lo hi : Nat) (A : Option Addr) (n : Nat) (X : List Int) : Prop where
  len : X.length = n
  at_ : n = 0 ∨ ∃ g cs, A = some ⟨g, 0, none⟩ ∧ lo ≤ g ∧ g < hi ∧ w.heap[g]? = some (.cells cs 2 (0, 0)) ∧ n ≤ cs.size ∧ ∀ j, j < n → cs[j]? = some (.int .i64 (X.getD j 0))
theorem OwI.same {w w' : World} {lo hi n : Nat} {A : Option Addr} {X : List Int} (h : OwI w lo hi A n X) (hs : Same lo hi w w') : OwI w' lo hi A n X := by
  refine ⟨h.len, ?_⟩
  rcases h.at_ with h0 | ⟨g, cs, hA, h1, h2, hg, hrest⟩
  · exact .inl h0
  · exact .inr ⟨g, cs, hA, h1, h2, (hs g h1 h2).trans hg, hrest⟩
theorem OwI.ext {w w' : World} {lo hi n : Nat} {A : Option Addr} {X : List Int} (h : OwI w lo hi A n X) (hh : hi ≤ w.heap.size) (hx : Ext w w') : OwI w' lo hi A n X := h.same (hx.same hh)
theorem OwI.more {w : World} {lo hi lo' hi' n : Nat} {A : Option Addr} {X : List Int} (h : OwI w lo hi A n X) (h1 : lo' ≤ lo) (h2 : hi ≤ hi') : OwI w lo' hi' A n X := by
  refine ⟨h.len, ?_⟩
  rcases h.at_ with h0 | ⟨g, cs, hA, h3, h4, hrest⟩
  · exact .inl h0
  · exact .inr ⟨g, cs, hA, by omega, by omega, hrest⟩
theorem OwI.nil (w : World) (lo hi : Nat) (A : Option Addr) : OwI w lo hi A 0 [] := ⟨rfl, .inl rfl⟩
theorem OwI.cell {w : World} {lo hi n k : Nat} {A : Option Addr} {X : List Int} (h : OwI w lo hi A n X) (hk : k < n) : ∃ g, A = some ⟨g, 0, none⟩ ∧ w.cell? ⟨g, k, none⟩ = some (.int .i64 (X.getD k 0)) := by
  rcases h.at_ with h0 | ⟨g, cs, rfl, _, _, hg, _, hc⟩
  · omega
  · exact ⟨g, rfl, by rw [cell_of_row w g _ cs _ (0, 0) hg]; exact hc k hk⟩
def outI (ok : Bool) (X : List Int) : List Int := if ok then X else []
theorem outI_len (ok : Bool) (X : List Int) : (outI ok X).length ≤ X.length := by cases ok <;> simp [outI]
/-- A list of ints of a call's own is returned, with its success. -/
def RetI (w : World) (e : Ending) (w' : World) (ok : Bool) (X : List Int) : Prop :=
  ∃ A n c, e = .returned (.tuple #[.slice A n c, .bool ok]) ∧ OwI w' w.heap.size w'.heap.size A n (outI ok X) ∧ Ext w w'
theorem retI_no {w w' : World} {X : List Int} {f : Bool} (hf : f = false) (hx : Ext w w') : RetI w (.returned (.tuple #[.slice none 0 0, .bool false])) w' f X := by
  subst hf; exact ⟨none, 0, 0, rfl, OwI.nil _ _ _ _, hx⟩
def lstI (F : Nat → Int) (n : Nat) : List Int := (List.range n).map F
theorem lstI_len (F : Nat → Int) (n : Nat) : (lstI F n).length = n := by simp [lstI]
theorem lstI_at {F : Nat → Int} {n j : Nat} (h : j < n) : (lstI F n).getD j 0 = F j := by simp [lstI, List.getD, h]
def marksI (k n : Nat) : List Int := lstI (fun j => ((k + j : Nat) : Int)) n
theorem marksI_len (k n : Nat) : (marksI k n).length = n := lstI_len _ _
theorem marksI_at {k n j : Nat} (h : j < n) : (marksI k n).getD j 0 = ((k + j : Nat) : Int) := lstI_at h
theorem markI_step {cs : Array Value} {k k0 : Nat} (hk : k < cs.size) (h : ∀ j, j < k → cs[j]? = some (.int .i64 ((k0 + j : Nat) : Int))) :
    ∀ j, j < k + 1 → (cs.setIfInBounds k (.int .i64 ((k0 + k : Nat) : Int)))[j]? = some (.int .i64 ((k0 + j : Nat) : Int)) := by
  intro j hj
  by_cases hjk : j = k
  · subst hjk; simp [hk]
  · rw [Array.getElem?_setIfInBounds, if_neg (by omega)]; exact h j (by omega)
set_option maxRecDepth 20000 in
set_option maxHeartbeats 2000000 in
theorem c_eqInt64S {w : World} {lo hi lo' hi' n c c' : Nat} {A A' : Option Addr} {X : List Int} (h : OwI w lo hi A n X) (h' : OwI w lo' hi' A' n X) (hn : n ≤ 1048576) :
    Calls Try.prog 27 #[.slice A n c, .slice A' n c'] w fun e w' => e = .returned (.bool true) ∧ Dr w w' := by
  go_enter Try.func27, Try.ntmps27
  go_wp2_with (fail)
  go_loopw [5] (fun i wr => ∃ k : Nat, k ≤ n ∧ i = .int .i64 k ∧ Dr w wr) (fun i _ => n - (intOf i).toNat)
  case atStart => exact ⟨0, Nat.zero_le _, rfl, 0, rfl⟩
  case round =>
    obtain ⟨k, hk, rfl, m, rfl⟩ := hrel
    by_cases hlt : k < n
    · obtain ⟨g, rfl, hc⟩ := h.cell hlt
      obtain ⟨g', rfl, hc'⟩ := h'.cell hlt
      have hlt' : (k : Int) < (n : Int) := by omega
      generalize X.getD k 0 = x at hc hc'
      go_wp2_with (fail)
      go_region_with (fail)
      all_goals
        go_wp2_with (fail)
        exact ⟨⟨k + 1, by omega, by go_num, _, rfl⟩, by simp [intOf]; omega⟩
    · have hkn : k = n := by omega
      go_wp2_with (fail)
      go_ret
      exact ⟨rfl, m, rfl⟩
set_option maxRecDepth 20000 in
set_option maxHeartbeats 1000000 in
theorem c_markInt64S {w : World} {lo hi n c k0 : Nat} {A : Option Addr} {X : List Int} (h : OwI w lo hi A n X) (hn : n ≤ 1048576) (hk0 : k0 ≤ 1000000000) :
    Calls Try.prog 29 #[.slice A n c, .int .i64 (k0 : Int)] w fun e w' => e = .returned (.int .i64 ((k0 + n : Nat) : Int)) ∧ OwI w' lo hi A n (marksI k0 n) ∧ Kb lo hi w w' := by
  rcases Nat.eq_zero_or_pos n with rfl | hpos
  · go_enter Try.func29, Try.ntmps29
    go_wp2_with (fail)
    go_loopw [1, 5] (fun k i wr => k = .int .i64 (k0 : Int) ∧ i = .int .i64 0 ∧ wr = w) (fun _ _ _ => 0)
    case atStart => exact ⟨rfl, rfl, rfl⟩
    case round =>
      obtain ⟨rfl, rfl, rfl⟩ := hrel
      go_wp2_with (fail)
      go_ret
      exact ⟨rfl, OwI.nil _ _ _ _, Kb.refl _ _ _⟩
  obtain ⟨g, cs0, rfl, hlo, hhi, hg0, hsz0, _⟩ := h.at_.resolve_left (by omega)
  go_enter Try.func29, Try.ntmps29
  go_wp2_with (fail)
  go_loopw [1, 5] (fun q i wr => ∃ (k : Nat) (cs : Array Value), k ≤ n ∧ i = .int .i64 k ∧ q = .int .i64 ((k0 + k : Nat) : Int) ∧ wr.heap[g]? = some (.cells cs 2 (0, 0)) ∧ n ≤ cs.size ∧ (∀ j, j < k → cs[j]? = some (.int .i64 ((k0 + j : Nat) : Int))) ∧ Kb lo hi w wr) (fun _ i _ => n - (intOf i).toNat)
  case atStart => exact ⟨0, cs0, Nat.zero_le _, rfl, rfl, hg0, hsz0, fun j hj => absurd hj (Nat.not_lt_zero _), Kb.refl _ _ _⟩
  case round =>
    obtain ⟨k, cs, hk, rfl, rfl, hg, hsz, hp, hkb⟩ := hrel
    by_cases hlt : k < n
    · obtain ⟨u, hu⟩ : ∃ u, cs[k]? = some u := ⟨cs[k]'(by omega), Array.getElem?_eq_getElem (by omega)⟩
      have hold : wr.cell? ⟨g, k, none⟩ = some u := by rw [cell_of_row wr g _ cs _ (0, 0) hg]; exact hu
      have hfz : wr.frozen? ⟨g, k, none⟩ = false := by simp [World.frozen?, hg]
      have HG := Lib.hid hg
      have HP := Lib.hid hp
      have HS := Lib.hid hsz
      have hi' : (k : Int) < (n : Int) := by omega
      obtain ⟨q, hq⟩ : ∃ q, k0 + k = q := ⟨_, rfl⟩
      have hq' : ((k0 + k : Nat) : Int) = (q : Int) := by rw [hq]
      have hqb : q ≤ 2000000000 := by omega
      have HQ := Lib.hid hq
      rw [hq]
      clear hg hp hsz hu hq hq'
      go_wp2_with (fail)
      refine ⟨⟨k + 1, cs.setIfInBounds k (.int .i64 ((k0 + k : Nat) : Int)), by omega, by go_num, ?_, ?_, by rw [Array.size_setIfInBounds]; exact HS.out, markI_step (by have := HS.out; omega) HP.out, ?_⟩, by simp [intOf]; omega⟩
      · have := HQ.out; go_num
      · rw [HQ.out]; exact blk_set1 HG.out _ _
      · exact hkb.set hlo hhi _
    · have hkn : k = n := by omega
      subst hkn
      go_wp2_with (fail)
      go_ret
      exact ⟨rfl, ⟨marksI_len _ _, .inr ⟨g, cs, rfl, hlo, hhi, hg, hsz, fun j hj => by rw [marksI_at hj]; exact hp j hj⟩⟩, hkb⟩
set_option maxRecDepth 20000 in
set_option maxHeartbeats 1000000 in
theorem c_heldInt64S {w : World} {lo hi n c k0 : Nat} {A : Option Addr} (h : OwI w lo hi A n (marksI k0 n)) (hn : n ≤ 1048576) (hk0 : k0 ≤ 1000000000) :
    Calls Try.prog 30 #[.slice A n c, .int .i64 (k0 : Int)] w fun e w' => e = .returned (.int .i64 ((k0 + n : Nat) : Int)) ∧ w' = w := by
  go_enter Try.func30, Try.ntmps30
  go_wp2_with (fail)
  go_loopw [1, 5] (fun q i wr => ∃ k : Nat, k ≤ n ∧ i = .int .i64 k ∧ q = .int .i64 ((k0 + k : Nat) : Int) ∧ wr = w) (fun _ i _ => n - (intOf i).toNat)
  case atStart => exact ⟨0, Nat.zero_le _, rfl, rfl, rfl⟩
  case round =>
    obtain ⟨k, hk, rfl, rfl, rfl⟩ := hrel
    by_cases hlt : k < n
    · obtain ⟨g, rfl, hc⟩ := h.cell hlt
      rw [marksI_at hlt] at hc
      have hi' : (k : Int) < (n : Int) := by omega
      go_wp2_with (fail)
      exact ⟨⟨k + 1, by omega, by go_num, by go_num, trivial⟩, by simp [intOf]; omega⟩
    · have hkn : k = n := by omega
      subst hkn
      go_wp2_with (fail)
      go_ret
      exact ⟨rfl, rfl⟩
end Go.Proofs.Ytfmhdnhaaohdjaa
