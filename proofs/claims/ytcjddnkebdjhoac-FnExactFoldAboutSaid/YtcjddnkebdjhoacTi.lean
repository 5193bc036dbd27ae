/- Contracts: convolutions of two traces, on both sides. Condition: the lists are read. -/
import Derived.Test.YtcjddnkebdjhoacTh
import Derived.Test.YtcjddnkebdjhoacTe
namespace Go.Proofs.Ytcjddnkebdjhoac
open Go.RowKit Ieee

theorem fold_N {n m : Nat} (h1 : 1 ≤ n) (h2 : 1 ≤ m) : ∃ N, n + m = N + 1 := ⟨n + m - 1, by omega⟩
def okFold (n m : Nat) : Bool := tlen n && (tlen m && le2 (n + m) 129)
theorem okFold_a {n m : Nat} (h : tlen n = false) : okFold n m = false := by unfold okFold; rw [h]; rfl
theorem okFold_b {n m : Nat} (h : tlen m = false) : okFold n m = false := by unfold okFold; rw [h]; simp
theorem okFold_c {n m : Nat} (h : le2 (n + m) 129 = false) : okFold n m = false := by unfold okFold; rw [h]; simp
theorem okFold_yes {n m : Nat} (h1 : tlen n = true) (h2 : tlen m = true) (h3 : le2 (n + m) 129 = true) : okFold n m = true := by unfold okFold; rw [h1, h2, h3]; rfl
def fabout (L M : List (Option Nat)) (j : Nat) : Option Nat := ffold L M (M.length / 2 + j)

set_option maxRecDepth 20000 in
set_option maxHeartbeats 4000000 in
theorem c_spec_FoldTraces {w : World} {B n c : Nat} {A : Option Addr} {L : List (Option Nat)} (h : RdF w B A n L) (hB : B ≤ w.heap.size) (hn : n ≤ 1048576) {B' m c' : Nat} {A' : Option Addr} {M : List (Option Nat)} (h' : RdF w B' A' m M) (hB' : B' ≤ w.heap.size) (hm : m ≤ 1048576) :
    Calls Try.prog 57 #[.slice A n c, .slice A' m c'] w fun e w' => RetL w e w' (okFold n m) (lst (ffold L M) (n + m - 1)) := by
  cases hV : tlen n
  · rw [okFold_a hV]
    go_enter Try.func57, Try.ntmps57
    go_wp2_with (go_at_call 119; refine Calls.mono (c_l03Is _ _ _ _) ?_; rw [hV]; rintro e w1 ⟨rfl, rfl⟩)
    go_ret2
    exact retL_no rfl (by repeat (first | assumption | exact Ext.refl _ | apply Ext.drewN | apply Ext.drew | apply Ext.alloc | (refine Ext.trans ?_ (by assumption)) | (refine Ext.set ?_ (by dsimp only; omega) _)))
  cases hW : tlen m
  · rw [okFold_b hW]
    go_enter Try.func57, Try.ntmps57
    go_wp2_with (first | (go_at_call 119; refine Calls.mono (c_l03Is _ _ _ _) ?_; rw [hV]; rintro e w1 ⟨rfl, rfl⟩) | (go_at_call 119; refine Calls.mono (c_l03Is _ _ _ _) ?_; rw [hW]; rintro e w1 ⟨rfl, rfl⟩))
    go_ret2
    exact retL_no rfl (by repeat (first | assumption | exact Ext.refl _ | apply Ext.drewN | apply Ext.drew | apply Ext.alloc | (refine Ext.trans ?_ (by assumption)) | (refine Ext.set ?_ (by dsimp only; omega) _)))
  have b1 := tlen_of hV
  have b2 := tlen_of hW
  cases hX : le2 (n + m) 129
  · rw [okFold_c hX]
    have hgt : (128 : Int) < (n : Int) + (m : Int) - 1 := by have := le2_not hX; omega
    go_enter Try.func57, Try.ntmps57
    go_wp2_with (first | (go_at_call 119; refine Calls.mono (c_l03Is _ _ _ _) ?_; rw [hV]; rintro e w1 ⟨rfl, rfl⟩) | (go_at_call 119; refine Calls.mono (c_l03Is _ _ _ _) ?_; rw [hW]; rintro e w1 ⟨rfl, rfl⟩))
    go_ret2
    exact retL_no rfl (by repeat (first | assumption | exact Ext.refl _ | apply Ext.drewN | apply Ext.drew | apply Ext.alloc | (refine Ext.trans ?_ (by assumption)) | (refine Ext.set ?_ (by dsimp only; omega) _)))
  rw [okFold_yes hV hW hX]
  have hle : ¬ (128 : Int) < (n : Int) + (m : Int) - 1 := by have := le2_of hX; omega
  obtain ⟨N, hN⟩ := fold_N b1.1 b2.1
  have hNN := Lib.hid hN
  have e1 : n + m - 1 = N := by omega
  rw [e1]
  clear hN e1
  go_enter Try.func57, Try.ntmps57
  go_wp2_with (first | (go_at_call 119; refine Calls.mono (c_l03Is _ _ _ _) ?_; rw [hV]; rintro e w1 ⟨rfl, rfl⟩) | (go_at_call 119; refine Calls.mono (c_l03Is _ _ _ _) ?_; rw [hW]; rintro e w1 ⟨rfl, rfl⟩) | (go_at_call 120; refine Calls.mono (c_l03Fold h hn h' hm hB hB' hNN.out) ?_; rintro e w2 ⟨v, rfl, ho, hx2⟩; obtain ⟨A2, c2, rfl, ho2⟩ := ho.owl))
  go_ret2
  exact ⟨_, _, _, rfl, ho2, hx2⟩

set_option maxRecDepth 20000 in
set_option maxHeartbeats 4000000 in
theorem c_impl_FoldTraces_no {w : World} {n c : Nat} {A : Option Addr} (hn : n ≤ 1048576) {m c' : Nat} {A' : Option Addr} (hm : m ≤ 1048576) (hok : okFold n m = false) :
    Calls Try.prog 21 #[.slice A n c, .slice A' m c'] w fun e w' => e = .returned (.tuple #[.slice none 0 0, .bool false]) ∧ w' = w := by
  cases hV : tlen n
  · go_enter Try.func21, Try.ntmps21
    go_wp2_with (go_at_call 26; refine Calls.mono (c_IsTrace _ _ _ _) ?_; rw [hV]; rintro e w1 ⟨rfl, rfl⟩)
    go_ret2
    exact ⟨rfl, rfl⟩
  cases hW : tlen m
  · go_enter Try.func21, Try.ntmps21
    go_wp2_with (first | (go_at_call 26; refine Calls.mono (c_IsTrace _ _ _ _) ?_; rw [hV]; rintro e w1 ⟨rfl, rfl⟩) | (go_at_call 26; refine Calls.mono (c_IsTrace _ _ _ _) ?_; rw [hW]; rintro e w1 ⟨rfl, rfl⟩))
    go_ret2
    exact ⟨rfl, rfl⟩
  have hX : le2 (n + m) 129 = false := by
    unfold okFold at hok; rw [hV, hW] at hok; exact hok
  have b1 := tlen_of hV
  have b2 := tlen_of hW
  have hgt : (128 : Int) < (n : Int) + (m : Int) - 1 := by have := le2_not hX; omega
  go_enter Try.func21, Try.ntmps21
  go_wp2_with (first | (go_at_call 26; refine Calls.mono (c_IsTrace _ _ _ _) ?_; rw [hV]; rintro e w1 ⟨rfl, rfl⟩) | (go_at_call 26; refine Calls.mono (c_IsTrace _ _ _ _) ?_; rw [hW]; rintro e w1 ⟨rfl, rfl⟩))
  go_ret2
  exact ⟨rfl, rfl⟩

set_option maxRecDepth 20000 in
set_option maxHeartbeats 4000000 in
theorem c_impl_FoldTraces_yes {w : World} {B n c : Nat} {A : Option Addr} {L : List (Option Nat)} (h : RdF w B A n L) (hB : B ≤ w.heap.size) (hn : n ≤ 1048576) {B' m c' : Nat} {A' : Option Addr} {M : List (Option Nat)} (h' : RdF w B' A' m M) (hB' : B' ≤ w.heap.size) (hm : m ≤ 1048576) (hok : okFold n m = true) {N : Nat} (hN : n + m = N + 1) :
    Calls Try.prog 21 #[.slice A n c, .slice A' m c'] w fun e w' => ∃ cs, e = .returned (.tuple #[.slice (some ⟨w.heap.size, 0, none⟩) N N, .bool true]) ∧ w'.heap[w.heap.size]? = some (.cells cs 31 (0, 0)) ∧ cs.size = N ∧ (∀ j, j < N → ∃ r, cs[j]? = some (.float .f32 r) ∧ Fl .f32 r (ffold L M j)) ∧ Ext w w' := by
  unfold okFold at hok
  rw [Bool.and_eq_true, Bool.and_eq_true] at hok
  obtain ⟨hV, hW, hX⟩ := hok
  have b1 := tlen_of hV
  have b2 := tlen_of hW
  have hle : ¬ (128 : Int) < (n : Int) + (m : Int) - 1 := by have := le2_of hX; omega
  have hNi : (n : Int) + (m : Int) - 1 = (N : Int) := by omega
  have hN1 : N ≤ 128 := by have := le2_of hX; omega
  have hl := Lib.hid h.len
  have hNN := Lib.hid hN
  clear hN
  have hmk := fun W => run_make_row' (P := Try.prog) 25 31 (.float .f32 0) 4 Try.underlying25 info_f32 rfl .i64 .i64 N (by omega) (by omega) W
  go_enter Try.func21, Try.ntmps21
  go_wp2_with (first | (go_at_call 26; refine Calls.mono (c_IsTrace _ _ _ _) ?_; rw [hV]; rintro e w1 ⟨rfl, rfl⟩) | (go_at_call 26; refine Calls.mono (c_IsTrace _ _ _ _) ?_; rw [hW]; rintro e w1 ⟨rfl, rfl⟩))
  go_loopw [31] (fun y wr => ∃ (k : Nat) (cs : Array Value), k ≤ N ∧ y = .int .i64 k ∧ wr.heap[w.heap.size]? = some (.cells cs 31 (0, 0)) ∧ cs.size = N ∧ (∀ j, j < k → ∃ r, cs[j]? = some (.float .f32 r) ∧ Fl .f32 r (ffold L M j)) ∧ Ext w wr) (fun y _ => N - (intOf y).toNat)
  case atStart => exact ⟨0, _, Nat.zero_le _, rfl, heap_alloc_new _ _, size_madeCells _ _, fun j hj => absurd hj (Nat.not_lt_zero _), (by repeat (first | assumption | exact Ext.refl _ | apply Ext.drewN | apply Ext.drew | apply Ext.alloc | (refine Ext.trans ?_ (by assumption)) | (refine Ext.set ?_ (by dsimp only; omega) _)))⟩
  case round =>
    obtain ⟨k, cs, hk, rfl, hg, hsz, hxs, hx⟩ := hrel
    have HX := Lib.hid hxs
    have HG := Lib.hid hg
    have HS := Lib.hid hsz
    clear hxs hg hsz
    by_cases hlt : k < N
    · obtain ⟨u0, e0, z0⟩ := own_cell HG.out HS.out hlt
      have hlt' : (k : Int) < (N : Int) := by omega
      have hk1 : (k : Int) + 2 ≤ (n : Int) + (m : Int) := by have := hNN.out; omega
      have hT : ffold L M k = ffs L M k n := by unfold ffold; rw [hl.out]
      have HT := Lib.hid hT
      clear hT
      go_wp2_with (go_at_call 86; refine Calls.mono (c_foldAtG (h.below (hx.mono hB)) hn (h'.below (hx.mono hB')) hm (by omega) hk1) ?_; rw [← HT.out]; rintro e w_2 ⟨r5, rfl, hr5, n5, rfl⟩)
      exact ⟨⟨k + 1, cs.setIfInBounds k (.float .f32 r5), by omega, by go_num, by exact blk_set1 (w := World.drewN wr _) HG.out k _, by rw [Array.size_setIfInBounds]; exact HS.out, pre_setF (F := ffold L M) (by have := HS.out; omega) HX.out hr5, (by repeat (first | assumption | exact Ext.refl _ | apply Ext.drewN | apply Ext.drew | apply Ext.alloc | (refine Ext.trans ?_ (by assumption)) | (refine Ext.set ?_ (by dsimp only; omega) _)))⟩, by simp [intOf]; omega⟩
    · obtain rfl : k = N := by omega
      go_wp2_with (fail)
      go_ret2
      exact ⟨cs, rfl, HG.out, HS.out, HX.out, hx⟩

theorem c_impl_FoldTraces {w : World} {B n c : Nat} {A : Option Addr} {L : List (Option Nat)} (h : RdF w B A n L) (hB : B ≤ w.heap.size) (hn : n ≤ 1048576) {B' m c' : Nat} {A' : Option Addr} {M : List (Option Nat)} (h' : RdF w B' A' m M) (hB' : B' ≤ w.heap.size) (hm : m ≤ 1048576) :
    Calls Try.prog 21 #[.slice A n c, .slice A' m c'] w fun e w' => RetL w e w' (okFold n m) (lst (ffold L M) (n + m - 1)) := by
  cases hok : okFold n m
  · refine Calls.mono (c_impl_FoldTraces_no (w := w) hn hm hok) ?_
    rintro e w' ⟨rfl, rfl⟩
    exact retL_no rfl (Ext.refl _)
  · have hk := hok
    unfold okFold at hk
    rw [Bool.and_eq_true, Bool.and_eq_true] at hk
    obtain ⟨N, hN⟩ := fold_N (tlen_of hk.1).1 (tlen_of hk.2.1).1
    refine Calls.mono (c_impl_FoldTraces_yes (w := w) h hB hn h' hB' hm hok hN) ?_
    rintro e w' ⟨cs, rfl, hg, hs, hx, hxt⟩
    rw [show n + m - 1 = N by omega]
    exact ⟨_, _, _, rfl, own_lst hg hs hx, hxt⟩
theorem both_FoldTraces {n0 : Nat} {L0 : List (Option Nat)} (_hl0 : L0.length = n0) (hn0 : n0 ≤ 1048576) {n1 : Nat} {L1 : List (Option Nat)} (_hl1 : L1.length = n1) (hn1 : n1 ≤ 1048576) :
    ∃ ok Q q, q ≤ 1048576 ∧ (∀ W : World, ∀ (B0 : Nat) (A0 : Option Addr) (c0 : Nat), RdF W B0 A0 n0 L0 → B0 ≤ W.heap.size → ∀ (B1 : Nat) (A1 : Option Addr) (c1 : Nat), RdF W B1 A1 n1 L1 → B1 ≤ W.heap.size → Calls Try.prog 57 #[.slice A0 n0 c0, .slice A1 n1 c1] W fun e w' => RetQ W e w' ok q Q) ∧
      (∀ W : World, ∀ (B0 : Nat) (A0 : Option Addr) (c0 : Nat), RdF W B0 A0 n0 L0 → B0 ≤ W.heap.size → ∀ (B1 : Nat) (A1 : Option Addr) (c1 : Nat), RdF W B1 A1 n1 L1 → B1 ≤ W.heap.size → Calls Try.prog 21 #[.slice A0 n0 c0, .slice A1 n1 c1] W fun e w' => RetQ W e w' ok q Q) :=
  ⟨okFold n0 n1, outL (okFold n0 n1) (lst (ffold L0 L1) (n0 + n1 - 1)), (outL (okFold n0 n1) (lst (ffold L0 L1) (n0 + n1 - 1))).length, by
    cases hk : okFold n0 n1
    · exact Nat.zero_le _
    · unfold okFold at hk
      rw [Bool.and_eq_true, Bool.and_eq_true] at hk
      have := le2_of hk.2.2
      show (lst _ _).length ≤ _
      rw [lst_len]; omega, fun W _ _ _ h0 hB0 _ _ _ h1 hB1 => Calls.mono (c_spec_FoldTraces (w := W) h0 hB0 hn0 h1 hB1 hn1) (fun _ _ hr => hr.q), fun W _ _ _ h0 hB0 _ _ _ h1 hB1 => Calls.mono (c_impl_FoldTraces (w := W) h0 hB0 hn0 h1 hB1 hn1) (fun _ _ hr => hr.q)⟩
end Go.Proofs.Ytcjddnkebdjhoac
