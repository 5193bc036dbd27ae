/- Contracts: lists of ints that a law gives: opened, copied, compared, marked. Condition: the lists are read, or a call's own. -/
import Derived.Test.YtceldjkgddbfaaaZo
import Derived.Test.YtceldjkgddbfaaaYc
namespace Go.Proofs.Ytceldjkgddbfaaa
open Go.RowKit Ieee

/-- The slice of address A and length n holds the ints X, in a block from lo to hi. -/
structure OwI (w : World) (lo hi : Nat) (A : Option Addr) (n : Nat) (X : List Int) : Prop where
  len : X.length = n
  at_ : n = 0 ∨ ∃ g cs, A = some ⟨g, 0, none⟩ ∧ lo ≤ g ∧ g < hi ∧ w.heap[g]? = some (.cells cs 2 (0, 0)) ∧ n ≤ cs.size ∧ ∀ j, j < n → cs[j]? = some (.int .i64 (X.getD j 0))
theorem OwI.same {w w' : World} {lo hi n : Nat} {A : Option Addr} {X : List Int} (h : OwI w lo hi A n X) (hs : Same lo hi w w') : OwI w' lo hi A n X := by
  refine ⟨h.len, ?_⟩
  rcases h.at_ with h0 | ⟨g, cs, hA, h1, h2, hg, hrest⟩
  · exact .inl h0
  · exact .inr ⟨g, cs, hA, h1, h2, (hs g h1 h2).trans hg, hrest⟩
theorem OwI.ext {w w' : World} {lo hi n : Nat} {A : Option Addr} {X : List Int} (h : OwI w lo hi A n X) (hh : hi ≤ w.heap.size) (hx : Ext w w') : OwI w' lo hi A n X := h.same (hx.same hh)
theorem OwI.more {w : World} {lo hi lo' hi' n : Nat} {A : Option Addr} {X : List Int} (h : OwI w lo hi A n X) (h1 : lo' ≤ lo) (h2 : hi ≤ hi') : OwI w lo' hi' A n X := by
  refine ⟨h.len, ?_⟩
  rcases h.at_ with h0 | ⟨g, cs, hA, h3, h4, hrest⟩
  · exact .inl h0
  · exact .inr ⟨g, cs, hA, by omega, by omega, hrest⟩
theorem OwI.nil (w : World) (lo hi : Nat) (A : Option Addr) : OwI w lo hi A 0 [] := ⟨rfl, .inl rfl⟩
theorem OwI.cell {w : World} {lo hi n k : Nat} {A : Option Addr} {X : List Int} (h : OwI w lo hi A n X) (hk : k < n) : ∃ g, A = some ⟨g, 0, none⟩ ∧ w.cell? ⟨g, k, none⟩ = some (.int .i64 (X.getD k 0)) := by
  rcases h.at_ with h0 | ⟨g, cs, rfl, _, _, hg, _, hc⟩
  · omega
  · exact ⟨g, rfl, by rw [cell_of_row w g _ cs _ (0, 0) hg]; exact hc k hk⟩
def lstI (F : Nat → Int) (n : Nat) : List Int := (List.range n).map F
theorem lstI_len (F : Nat → Int) (n : Nat) : (lstI F n).length = n := by simp [lstI]
theorem lstI_at {F : Nat → Int} {n j : Nat} (h : j < n) : (lstI F n).getD j 0 = F j := by simp [lstI, List.getD, h]
def marksI (k n : Nat) : List Int := lstI (fun j => ((k + j : Nat) : Int)) n
theorem marksI_len (k n : Nat) : (marksI k n).length = n := lstI_len _ _
theorem marksI_at {k n j : Nat} (h : j < n) : (marksI k n).getD j 0 = ((k + j : Nat) : Int) := lstI_at h
theorem markI_step {cs : Array Value} {k k0 : Nat} (hk : k < cs.size) (h : ∀ j, j < k → cs[j]? = some (.int .i64 ((k0 + j : Nat) : Int))) :
    ∀ j, j < k + 1 → (cs.setIfInBounds k (.int .i64 ((k0 + k : Nat) : Int)))[j]? = some (.int .i64 ((k0 + j : Nat) : Int)) := by
  intro j hj
  by_cases hjk : j = k
  · subst hjk; simp [hk]
  · rw [Array.getElem?_setIfInBounds, if_neg (by omega)]; exact h j (by omega)
set_option maxRecDepth 20000 in
set_option maxHeartbeats 2000000 in
theorem c_eqInt64S {w : World} {lo hi lo' hi' n c c' : Nat} {A A' : Option Addr} {X : List Int} (h : OwI w lo hi A n X) (h' : OwI w lo' hi' A' n X) (hn : n ≤ 1048576) :
    Calls Try.prog 40 #[.slice A n c, .slice A' n c'] w fun e w' => e = .returned (.bool true) ∧ Dr w w' := by
  go_enter Try.func40, Try.ntmps40
  go_wp2_with (fail)
  go_loopw [5] (fun i wr => ∃ k : Nat, k ≤ n ∧ i = .int .i64 k ∧ Dr w wr) (fun i _ => n - (intOf i).toNat)
  case atStart => exact ⟨0, Nat.zero_le _, rfl, 0, rfl⟩
  case round =>
    obtain ⟨k, hk, rfl, m, rfl⟩ := hrel
    by_cases hlt : k < n
    · obtain ⟨g, rfl, hc⟩ := h.cell hlt
      obtain ⟨g', rfl, hc'⟩ := h'.cell hlt
      have hlt' : (k : Int) < (n : Int) := by omega
      generalize X.getD k 0 = x at hc hc'
      go_wp2_with (fail)
      go_region_with (fail)
      all_goals
        go_wp2_with (fail)
        exact ⟨⟨k + 1, by omega, by go_num, _, rfl⟩, by simp [intOf]; omega⟩
    · have hkn : k = n := by omega
      go_wp2_with (fail)
      go_ret
      exact ⟨rfl, m, rfl⟩
set_option maxRecDepth 20000 in
set_option maxHeartbeats 1000000 in
theorem c_markInt64S {w : World} {lo hi n c k0 : Nat} {A : Option Addr} {X : List Int} (h : OwI w lo hi A n X) (hn : n ≤ 1048576) (hk0 : k0 ≤ 1000000000) :
    Calls Try.prog 41 #[.slice A n c, .int .i64 (k0 : Int)] w fun e w' => e = .returned (.int .i64 ((k0 + n : Nat) : Int)) ∧ OwI w' lo hi A n (marksI k0 n) ∧ Kb lo hi w w' := by
  rcases Nat.eq_zero_or_pos n with rfl | hpos
  · go_enter Try.func41, Try.ntmps41
    go_wp2_with (fail)
    go_loopw [1, 5] (fun k i wr => k = .int .i64 (k0 : Int) ∧ i = .int .i64 0 ∧ wr = w) (fun _ _ _ => 0)
    case atStart => exact ⟨rfl, rfl, rfl⟩
    case round =>
      obtain ⟨rfl, rfl, rfl⟩ := hrel
      go_wp2_with (fail)
      go_ret
      exact ⟨rfl, OwI.nil _ _ _ _, Kb.refl _ _ _⟩
  obtain ⟨g, cs0, rfl, hlo, hhi, hg0, hsz0, _⟩ := h.at_.resolve_left (by omega)
  go_enter Try.func41, Try.ntmps41
  go_wp2_with (fail)
  go_loopw [1, 5] (fun q i wr => ∃ (k : Nat) (cs : Array Value), k ≤ n ∧ i = .int .i64 k ∧ q = .int .i64 ((k0 + k : Nat) : Int) ∧ wr.heap[g]? = some (.cells cs 2 (0, 0)) ∧ n ≤ cs.size ∧ (∀ j, j < k → cs[j]? = some (.int .i64 ((k0 + j : Nat) : Int))) ∧ Kb lo hi w wr) (fun _ i _ => n - (intOf i).toNat)
  case atStart => exact ⟨0, cs0, Nat.zero_le _, rfl, rfl, hg0, hsz0, fun j hj => absurd hj (Nat.not_lt_zero _), Kb.refl _ _ _⟩
  case round =>
    obtain ⟨k, cs, hk, rfl, rfl, hg, hsz, hp, hkb⟩ := hrel
    by_cases hlt : k < n
    · obtain ⟨u, hu⟩ : ∃ u, cs[k]? = some u := ⟨cs[k]'(by omega), Array.getElem?_eq_getElem (by omega)⟩
      have hold : wr.cell? ⟨g, k, none⟩ = some u := by rw [cell_of_row wr g _ cs _ (0, 0) hg]; exact hu
      have hfz : wr.frozen? ⟨g, k, none⟩ = false := by simp [World.frozen?, hg]
      have HG := Lib.hid hg
      have HP := Lib.hid hp
      have HS := Lib.hid hsz
      have hi' : (k : Int) < (n : Int) := by omega
      obtain ⟨q, hq⟩ : ∃ q, k0 + k = q := ⟨_, rfl⟩
      have hq' : ((k0 + k : Nat) : Int) = (q : Int) := by rw [hq]
      have hqb : q ≤ 2000000000 := by omega
      have HQ := Lib.hid hq
      rw [hq]
      clear hg hp hsz hu hq hq'
      go_wp2_with (fail)
      refine ⟨⟨k + 1, cs.setIfInBounds k (.int .i64 ((k0 + k : Nat) : Int)), by omega, by go_num, ?_, ?_, by rw [Array.size_setIfInBounds]; exact HS.out, markI_step (by have := HS.out; omega) HP.out, ?_⟩, by simp [intOf]; omega⟩
      · have := HQ.out; go_num
      · rw [HQ.out]; exact blk_set1 HG.out _ _
      · exact hkb.set hlo hhi _
    · have hkn : k = n := by omega
      subst hkn
      go_wp2_with (fail)
      go_ret
      exact ⟨rfl, ⟨marksI_len _ _, .inr ⟨g, cs, rfl, hlo, hhi, hg, hsz, fun j hj => by rw [marksI_at hj]; exact hp j hj⟩⟩, hkb⟩
theorem RdI.len {w : World} {B n : Nat} {A : Option Addr} {X : List Int} (h : RdI w B A n X) : X.length = n := h.1
theorem OwI.rd {w : World} {lo hi n : Nat} {A : Option Addr} {X : List Int} (h : OwI w lo hi A n X) : RdI w hi A n X := by
  refine ⟨h.len, fun k hk => ?_⟩
  rcases h.at_ with h0 | ⟨g, cs, rfl, _, h2, hg, _, hc⟩
  · omega
  · exact ⟨g, 0, rfl, h2, by rw [Nat.zero_add, cell_of_row w g _ cs _ (0, 0) hg]; exact hc k hk⟩
theorem info_int : (Try.prog.info? 2).map (fun i => (i.zero, i.size, i.bytes)) = some (some (.int .i64 0), 1, 8) := by kernel_rfl
theorem preI_set {cs : Array Value} {k : Nat} {X : List Int} (hk : k < cs.size) (h : ∀ j, j < k → cs[j]? = some (.int .i64 (X.getD j 0))) : ∀ j, j < k + 1 → (cs.setIfInBounds k (.int .i64 (X.getD k 0)))[j]? = some (.int .i64 (X.getD j 0)) := by
  intro j hj
  by_cases hjk : j = k
  · subst hjk; simp [hk]
  · rw [Array.getElem?_setIfInBounds, if_neg (fun e => hjk e.symm)]; exact h j (by omega)
set_option maxRecDepth 20000 in
set_option maxHeartbeats 2000000 in
theorem c_toInt {w : World} {B n c : Nat} {A : Option Addr} {X : List Int} (h : RdI w B A n X) (hB : B ≤ w.heap.size) (hn : n ≤ 1048576) :
    Calls Try.prog 38 #[.slice A n c] w fun e w' => e = .returned (.slice (some ⟨w.heap.size, 0, none⟩) n n) ∧ OwI w' w.heap.size (w.heap.size + 1) (some ⟨w.heap.size, 0, none⟩) n X ∧ Ext w w' ∧ w.heap.size < w'.heap.size := by
  have hmk := fun W => run_make_row' (P := Try.prog) 46 2 (.int .i64 0) 8 Try.underlying46 info_int rfl .i64 .i64 n (by omega) (by omega) W
  go_enter Try.func38, Try.ntmps38
  go_wp2_with (fail)
  go_loopw [4] (fun i wr => ∃ (k : Nat) (cs : Array Value), k ≤ n ∧ i = .int .i64 k ∧ wr.heap[w.heap.size]? = some (.cells cs 2 (0, 0)) ∧ cs.size = n ∧ (∀ j, j < k → cs[j]? = some (.int .i64 (X.getD j 0))) ∧ Ext w wr) (fun i _ => n - (intOf i).toNat)
  case atStart => exact ⟨0, _, Nat.zero_le _, rfl, heap_alloc_new w _, size_madeCells _ _, fun j hj => absurd hj (Nat.not_lt_zero _), (by repeat (first | assumption | exact Ext.refl _ | apply Ext.drewN | apply Ext.drew | apply Ext.alloc | (refine Ext.trans ?_ (by assumption)) | (refine Ext.set ?_ (by dsimp only; omega) _)))⟩
  case round =>
    obtain ⟨k, cs, hk, rfl, hg, hsz, hp, hbel⟩ := hrel
    have HG := Lib.hid hg
    have HP := Lib.hid hp
    have HS := Lib.hid hsz
    by_cases hlt : k < n
    · obtain ⟨b, off, rfl, hb, hc⟩ := (h.below (hbel.mono hB)).2 k hlt
      obtain ⟨x, hx⟩ : ∃ x, X.getD k 0 = x := ⟨_, rfl⟩
      rw [hx] at hc
      have HX := Lib.hid hx
      obtain ⟨u, hu⟩ : ∃ u, cs[k]? = some u := ⟨cs[k]'(by omega), Array.getElem?_eq_getElem (by omega)⟩
      have hold : wr.cell? ⟨w.heap.size, k, none⟩ = some u := by rw [cell_of_row wr w.heap.size k cs _ (0, 0) hg]; exact hu
      have hfz : wr.frozen? ⟨w.heap.size, k, none⟩ = false := by simp [World.frozen?, hg]
      have hlt' : (k : Int) < (n : Int) := by omega
      clear hg hp hsz hu hx
      go_wp2_with (fail)
      exact ⟨⟨k + 1, cs.setIfInBounds k (.int .i64 x), by omega, by go_num, blk_set1 HG.out k _, by rw [Array.size_setIfInBounds]; exact HS.out, by rw [← HX.out]; exact preI_set (by have := HS.out; omega) HP.out, (by repeat (first | assumption | exact Ext.refl _ | apply Ext.drewN | apply Ext.drew | apply Ext.alloc | (refine Ext.trans ?_ (by assumption)) | (refine Ext.set ?_ (by dsimp only; omega) _)))⟩, by simp [intOf]; omega⟩
    · obtain rfl : k = n := by omega
      clear hg hp hsz
      go_wp2_with (fail)
      go_ret
      exact ⟨rfl, ⟨h.len, .inr ⟨w.heap.size, cs, rfl, Nat.le_refl _, Nat.lt_succ_self _, HG.out, Nat.le_of_eq HS.out.symm, HP.out⟩⟩, hbel, blk_lt HG.out⟩
theorem cells_i64 : Try.prog.cellsOf 2 = 1 := by kernel_rfl
section
open Go.ChangeShapes Go.WideShapes
variable {H : Type} {enc : TypeId × Value → H} {P : Program} {w : World}
theorem open_ints {b0 : Nat} {r : Reach} {t e : TypeId} {v : Value} {d : DataW H} {ps : List MemPlace} (ht : P.underlying t = some (.slice e)) (he : P.underlying e = some (.int .i64)) (hc : P.cellsOf e = 1)
    (hval : Value.okWide P w r b0 t v) (hd : DataW.Trod enc P w 0 (fun _ => true) true t v d ps) (hlt : ∀ x ∈ ps, x.block < w.heap.size) :
    ∃ A n c X, v = .slice A n c ∧ n ≤ maxLen ∧ RdI w w.heap.size A n X := by
  obtain ⟨a0, len0, cap0, rfl⟩ := okWide_slice ht hval
  obtain ⟨fuel, hf⟩ := hd
  rcases Go.Deep.open_slice1 ht hc hf with ⟨hcs, _⟩ | ⟨a, len, cap, m, n, V, D, Pl, hcs, _, hl, hm, hmm, hx, hcell⟩
  · simp [Value.cells] at hcs
    obtain ⟨rfl, rfl, rfl⟩ := hcs
    exact ⟨none, 0, 0, [], rfl, Nat.zero_le _, rfl, fun k hk => absurd hk (Nat.not_lt_zero _)⟩
  · simp [Value.cells] at hcs
    obtain ⟨rfl, rfl, rfl⟩ := hcs
    simp only [if_true] at hmm
    have hfl : ∀ i, i < len0 → ∃ b, V i = .int .i64 b := fun i hi => by
      obtain ⟨b, hb, _⟩ := trod_int_cell he (hcell i (by omega)).2
      exact ⟨b, hb⟩
    refine ⟨some a, len0, cap0, (List.range len0).map fun i => match V i with | .int .i64 b => b | _ => 0, rfl, Nat.le_trans hl hm, by simp, fun k hk => ?_⟩
    obtain ⟨b, off, spot⟩ := a
    have hspot : spot = none := by simpa [Addr.add] using World.cell?_spot (hcell 0 (by omega)).1
    subst hspot
    have hblk : b < w.heap.size := by
      have : MemPlace.cell b (off + k) ∈ ps := by
        have hx2 := congrArg Prod.snd hx
        simp only at hx2
        rw [hx2]
        exact List.mem_append_left _ (MemPlace.mem_row.2 ⟨k, by omega, rfl⟩)
      exact hlt _ this
    refine ⟨b, off, rfl, hblk, ?_⟩
    obtain ⟨q, h1⟩ := hfl k hk
    have h3 := (hcell k (by omega)).1
    rw [add_plain, h1] at h3
    rw [h3]
    have : ((List.range len0).map fun i => match V i with | .int .i64 b => b | _ => 0).getD k 0 = q := by
      simp [List.getD, hk, h1]
    rw [this]
end
end Go.Proofs.Ytceldjkgddbfaaa
