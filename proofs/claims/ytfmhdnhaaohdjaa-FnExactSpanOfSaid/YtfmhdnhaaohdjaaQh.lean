/- Lists of frames of a call's own, marked. Condition: the list is a call's own. -/
import Derived.Test.YtfmhdnhaaohdjaaQg
import Derived.Test.YtfmhdnhaaohdjaaYc
namespace Go.Proofs.Ytfmhdnhaaohdjaa
open Go.RowKit Go.Deep Ieee
set_option linter.unusedVariables false
set_option linter.unusedSimpArgs false

theorem wrap_one {M : Nat} (h : M ≤ 1000000000) : IntKind.i64.wrap ((M : Int) + 1) = (M : Int) + 1 := IntWalk.i64_in _ (by omega)
theorem wrap_two {M : Nat} (h : M ≤ 1000000000) : IntKind.i64.wrap ((M : Int) + 1 + 1) = (M : Int) + 1 + 1 := IntWalk.i64_in _ (by omega)
/-- The first mark of a frame. -/
def mkM (k0 : Nat) (R : List Sct) (j : Nat) : Nat := k0 + (2 * j + totM (R.take j))
def marksM (k0 : Nat) (R : List Sct) : List Sct := (List.range R.length).map fun j => ⟨(mkM k0 R j : Int), (mkM k0 R j : Int) + 1, marks (mkM k0 R j + 2) (R.getD j noT).v.length⟩
theorem marksM_len (k0 : Nat) (R : List Sct) : (marksM k0 R).length = R.length := by simp [marksM]
theorem marksM_at {k0 : Nat} {R : List Sct} {j : Nat} (h : j < R.length) : (marksM k0 R).getD j noT = ⟨(mkM k0 R j : Int), (mkM k0 R j : Int) + 1, marks (mkM k0 R j + 2) (R.getD j noT).v.length⟩ := by simp [marksM, List.getD, h]
/-- What stands at a frame's place after k rounds. -/
def mixM (k0 : Nat) (R : List Sct) (k j : Nat) : Sct := if j < k then ⟨(mkM k0 R j : Int), (mkM k0 R j : Int) + 1, marks (mkM k0 R j + 2) (R.getD j noT).v.length⟩ else R.getD j noT
theorem mixM_same {k0 : Nat} {R : List Sct} {k i : Nat} (h : i ≠ k) : mixM k0 R (k + 1) i = mixM k0 R k i := by
  unfold mixM
  by_cases h1 : i < k
  · rw [if_pos h1, if_pos (by omega)]
  · rw [if_neg h1, if_neg (by omega)]
theorem mixM_new {k0 : Nat} {R : List Sct} {k : Nat} : mixM k0 R (k + 1) k = ⟨(mkM k0 R k : Int), (mkM k0 R k : Int) + 1, marks (mkM k0 R k + 2) (R.getD k noT).v.length⟩ := by
  unfold mixM; rw [if_pos (Nat.lt_succ_self _)]
theorem mixM_old {k0 : Nat} {R : List Sct} {k : Nat} : mixM k0 R k k = R.getD k noT := by unfold mixM; rw [if_neg (Nat.lt_irrefl _)]
theorem mixM_zero {k0 : Nat} {R : List Sct} {j : Nat} : mixM k0 R 0 j = R.getD j noT := by unfold mixM; rw [if_neg (Nat.not_lt_zero _)]
theorem mixM_all {k0 n : Nat} {R : List Sct} {j : Nat} (h : j < n) (hl : R.length = n) : mixM k0 R n j = (marksM k0 R).getD j noT := by
  unfold mixM; rw [if_pos h, marksM_at (by omega)]
theorem mixM_len {k0 : Nat} {R : List Sct} {k j : Nat} : (mixM k0 R k j).v.length = (R.getD j noT).v.length := by
  unfold mixM; split
  · exact marks_len _ _
  · rfl
theorem mkM_next {k0 : Nat} {R : List Sct} {k : Nat} (h : k < R.length) : mkM k0 R (k + 1) = mkM k0 R k + 2 + (R.getD k noT).v.length := by
  unfold mkM; rw [totM_take_succ R k h]; omega
set_option maxRecDepth 20000 in
set_option maxHeartbeats 4000000 in
theorem c_markFrameS {w : World} {lo hi n c k0 : Nat} {A : Option Addr} {R : List Sct} (h : OwM w lo hi A n R) (hn : n ≤ 1048576) (ht : totM R ≤ 1048576) (hk0 : k0 ≤ 100000000) :
    Calls Try.prog 28 #[.slice A n c, .int .i64 (k0 : Int)] w fun e w' => e = .returned (.int .i64 ((k0 + (2 * n + totM R) : Nat) : Int)) ∧ OwM w' lo hi A n (marksM k0 R) ∧ Kb lo hi w w' := by
  rcases Nat.eq_zero_or_pos n with rfl | hpos
  · obtain rfl : R = [] := List.eq_nil_of_length_eq_zero h.len
    go_enter Try.func28, Try.ntmps28
    go_wp2_with (fail)
    go_loopw [1, 5] (fun k i wr => k = .int .i64 (k0 : Int) ∧ i = .int .i64 0 ∧ wr = w) (fun _ _ _ => 0)
    case atStart => exact ⟨rfl, rfl, rfl⟩
    case round =>
      obtain ⟨rfl, rfl, rfl⟩ := hrel
      go_wp2_with (fail)
      go_ret
      exact ⟨rfl, OwM.nil _ _ _ _, Kb.refl _ _ _⟩
  obtain ⟨g, f, cs0, t, rfl, hg, hs, hg1, hg2, hc, hinj⟩ := h.ex.resolve_left (by omega)
  have hlen := h.len
  obtain ⟨q, hq⟩ := Go.Deep.choose_lt (p := fun j (x : Option Addr × Nat) => F3 cs0 (j * 3) (R.getD j noT).x (R.getD j noT).z x.1 (R.getD j noT).v.length x.2 ∧ OwL w (f j) (f j + 1) x.1 (R.getD j noT).v.length (R.getD j noT).v ∧ (R.getD j noT).v.length ≤ x.2 ∧ f j ≠ g ∧ lo ≤ f j ∧ f j < hi) (fun j hj => by
    obtain ⟨A', c', h1⟩ := hc j hj
    exact ⟨(A', c'), h1⟩)
  have HQ := Lib.hid hq
  have hgs := blk_lt hg
  go_enter Try.func28, Try.ntmps28
  go_wp2_with (fail)
  go_loopw [1, 5] (fun kk i wr => ∃ (k M : Nat) (cs : Array Value), k ≤ n ∧ M = mkM k0 R k ∧ i = .int .i64 k ∧ kk = .int .i64 (M : Int) ∧ wr.heap[g]? = some (.cells cs t (0, 0)) ∧ n * 3 ≤ cs.size ∧
    (∀ j, j < n → F3 cs (j * 3) (mixM k0 R k j).x (mixM k0 R k j).z (q j).1 (R.getD j noT).v.length (q j).2 ∧ OwL wr (f j) (f j + 1) (q j).1 (R.getD j noT).v.length (mixM k0 R k j).v) ∧ Kb lo hi w wr) (fun _ i _ => n - (intOf i).toNat)
  case atStart => exact ⟨0, k0, cs0, Nat.zero_le _, by simp [mkM, totM], rfl, rfl, hg, hs, fun j hj => by rw [mixM_zero]; exact ⟨(HQ.out j hj).1, (HQ.out j hj).2.1⟩, Kb.refl _ _ _⟩
  case round =>
    obtain ⟨k, M, cs, hk, hM, rfl, rfl, hgw, hsz, hrows, hkb⟩ := hrel
    have HR := Lib.hid hrows
    clear hrows
    by_cases hlt : k < n
    · have hlt' : (k : Int) < (n : Int) := by omega
      obtain ⟨⟨f0, f1, f2⟩, hrow⟩ := HR.out k hlt
      obtain ⟨_, _, _, hfk, hfl, hfh⟩ := HQ.out k hlt
      obtain ⟨u0, u1, u2, e0, e1, e2, z0, z1, z2⟩ := three_of_row hgw hsz hlt
      have hb1 := blk_set1 hgw (k * 3) (.int .i64 (M : Int))
      have hb2 := blk_set1 hb1 (k * 3 + 1) (.int .i64 ((M : Int) + 1))
      have hcell : ((wr.setCell ⟨g, k * 3, none⟩ (.int .i64 (M : Int))).setCell ⟨g, k * 3 + 1, none⟩ (.int .i64 ((M : Int) + 1))).cell? ⟨g, k * 3 + 2, none⟩ = some (.slice (q k).1 (R.getD k noT).v.length (q k).2) := by
        rw [cell_of_row _ g _ _ _ (0, 0) hb2, Array.getElem?_setIfInBounds, if_neg (by omega), Array.getElem?_setIfInBounds, if_neg (by omega)]; exact f2
      have hnx := mkM_next (k0 := k0) (R := R) (k := k) (by rw [hlen]; exact hlt)
      have htl := totM_take_le R (k + 1)
      have hLL := totM_at (R := R) (k := k) (by rw [hlen]; exact hlt)
      have hMb : mkM k0 R (k + 1) ≤ k0 + (2 * n + totM R) := by unfold mkM; omega
      have hro : OwL ((wr.setCell ⟨g, k * 3, none⟩ (.int .i64 (M : Int))).setCell ⟨g, k * 3 + 1, none⟩ (.int .i64 ((M : Int) + 1))) (f k) (f k + 1) (q k).1 (R.getD k noT).v.length (mixM k0 R k k).v := by
        refine hrow.same (fun b h1 h2 => ?_)
        have : b = f k := by omega
        subst this
        rw [Below.heap_setCell _ _ _ _ hfk, Below.heap_setCell _ _ _ _ hfk]
      obtain ⟨Ak, hAk⟩ : ∃ x, (q k).1 = x := ⟨_, rfl⟩
      obtain ⟨ck, hck⟩ : ∃ x, (q k).2 = x := ⟨_, rfl⟩
      obtain ⟨Lk, hLk⟩ : ∃ x, (R.getD k noT).v.length = x := ⟨_, rfl⟩
      rw [hAk, hck, hLk] at hcell
      rw [hAk, hLk] at hro
      rw [hLk] at hnx hLL
      have hmk := c_markFloat32S (c := ck) (k0 := M + 2) hro (by omega) (by omega)
      have hM9 : M ≤ 1000000000 := by omega
      have hw1 : IntKind.i64.wrap ((M : Int) + 1) = (M : Int) + 1 := wrap_one hM9
      have hw2 : IntKind.i64.wrap ((M : Int) + 1 + 1) = (M : Int) + 1 + 1 := wrap_two hM9
      have hu2 : wr.cell? ⟨g, k * 3 + 2, none⟩ = some (.slice Ak Lk ck) := by rw [← hAk, ← hck, ← hLk, cell_of_row wr g _ cs _ (0, 0) hgw]; exact f2
      rw [show ((M + 2 : Nat) : Int) = (M : Int) + 1 + 1 by omega] at hmk
      have HM := Lib.hid hmk
      have HAK := Lib.hid hAk
      have HLK := Lib.hid hLk
      have HCK := Lib.hid hck
      have HNX := Lib.hid hnx
      have HMM := Lib.hid hM
      have HRO := Lib.hid hrow
      clear hrow hro hmk hM hAk hck hLk hnx htl hMb hLL e2 hcell
      go_wp2_with (go_at_call 51; refine Calls.mono HM.out ?_; rintro e w2 ⟨rfl, ho2, hk2⟩)
      have hgk : w2.heap[g]? = some (.cells ((cs.setIfInBounds (k * 3) (.int .i64 (M : Int))).setIfInBounds (k * 3 + 1) (.int .i64 ((M : Int) + 1))) t (0, 0)) := by
        rcases Nat.lt_or_ge g (f k) with h1 | h1
        · exact (hk2.below.block g h1).trans hb2
        · exact (hk2.above g (by omega) (blk_lt hb2)).trans hb2
      refine ⟨⟨k + 1, M + 2 + Lk, _, by omega, by rw [HMM.out]; exact HNX.out.symm, by go_num, rfl, hgk, by simp only [Array.size_setIfInBounds]; exact hsz, fun j hj => ?_, ?_⟩, by simp [intOf]; omega⟩
      · by_cases hjk : j = k
        · subst hjk
          rw [mixM_new, ← HMM.out, HLK.out, HAK.out, HCK.out]
          refine ⟨⟨?_, ?_, ?_⟩, ho2⟩
          · rw [Array.getElem?_setIfInBounds, if_neg (by omega), Array.getElem?_setIfInBounds, if_pos rfl, if_pos (by omega)]
          · rw [Array.getElem?_setIfInBounds, if_pos rfl, if_pos (by simp only [Array.size_setIfInBounds]; omega)]
          · rw [Array.getElem?_setIfInBounds, if_neg (by omega), Array.getElem?_setIfInBounds, if_neg (by omega), f2, HLK.out, HAK.out, HCK.out]
        · obtain ⟨⟨k0', k1', k2'⟩, hro'⟩ := HR.out j hj
          obtain ⟨_, _, _, hfj, _, _⟩ := HQ.out j hj
          rw [mixM_same hjk]
          refine ⟨⟨?_, ?_, ?_⟩, ?_⟩
          · rw [Array.getElem?_setIfInBounds, if_neg (by omega), Array.getElem?_setIfInBounds, if_neg (by omega)]; exact k0'
          · rw [Array.getElem?_setIfInBounds, if_neg (by omega), Array.getElem?_setIfInBounds, if_neg (by omega)]; exact k1'
          · rw [Array.getElem?_setIfInBounds, if_neg (by omega), Array.getElem?_setIfInBounds, if_neg (by omega)]; exact k2'
          · rcases hro'.at_ with h5 | ⟨gb, ob, cb, hA, hl1, hl2, hgb, _⟩
            · exact ⟨hro'.len, .inl h5⟩
            · refine hro'.same (fun b h1 h2 => ?_)
              have hbe : b = f j := by omega
              have hgbe : gb = f j := by omega
              subst hbe
              have hne : f j ≠ f k := by
                rcases Nat.lt_trichotomy j k with h3 | h3 | h3
                · exact hinj j k h3 hlt
                · exact absurd h3 hjk
                · exact Ne.symm (hinj k j h3 hj)
              have hW : ((wr.setCell ⟨g, k * 3, none⟩ (.int .i64 (M : Int))).setCell ⟨g, k * 3 + 1, none⟩ (.int .i64 ((M : Int) + 1))).heap[f j]? = wr.heap[f j]? := by
                rw [Below.heap_setCell _ _ _ _ hfj, Below.heap_setCell _ _ _ _ hfj]
              rcases Nat.lt_or_ge (f j) (f k) with h4 | h4
              · exact (hk2.below.block _ h4).trans hW
              · exact (hk2.above _ (by omega) (by rw [hgbe] at hgb; simpa using blk_lt hgb)).trans hW
      · have hkW : Kb lo hi wr ((wr.setCell ⟨g, k * 3, none⟩ (.int .i64 (M : Int))).setCell ⟨g, k * 3 + 1, none⟩ (.int .i64 ((M : Int) + 1))) :=
          ⟨Below.setCell (Below.setCell (Below.refl _ _) hg1 _) hg1 _, fun b h1 h2 => by rw [Below.heap_setCell _ _ _ _ (by dsimp only; omega), Below.heap_setCell _ _ _ _ (by dsimp only; omega)]⟩
        exact (hkb.trans hkW).trans (Kb.wide hk2 hfl (by omega))
    · obtain rfl : k = n := by omega
      have hfin : M = k0 + (2 * k + totM R) := by rw [hM]; unfold mkM; rw [totM_all hlen]
      have HF := Lib.hid hfin
      clear hM hfin
      go_wp2_with (fail)
      go_ret
      refine ⟨by rw [← HF.out]; rfl, ⟨by rw [marksM_len, hlen], .inr ⟨g, f, cs, t, rfl, hgw, hsz, hg1, hg2, fun j hj => ?_, hinj⟩⟩, hkb⟩
      obtain ⟨h1, h2⟩ := HR.out j hj
      obtain ⟨_, _, hcq, hfj, hfl, hfh⟩ := HQ.out j hj
      have hml := mixM_len (k0 := k0) (R := R) (k := k) (j := j)
      rw [mixM_all hj hlen] at h1 h2 hml
      rw [hml]
      exact ⟨(q j).1, (q j).2, h1, h2, hcq, hfj, hfl, hfh⟩
set_option maxRecDepth 20000 in
set_option maxHeartbeats 4000000 in
theorem c_heldFrameS {w : World} {B n c k0 : Nat} {A : Option Addr} {R : List Sct} (h : RdM w B A n (marksM k0 R)) (hl : R.length = n) (hn : n ≤ 1048576) (ht : totM R ≤ 1048576) (hk0 : k0 ≤ 100000000) :
    Calls Try.prog 39 #[.slice A n c, .int .i64 (k0 : Int)] w fun e w' => e = .returned (.int .i64 ((k0 + (2 * n + totM R) : Nat) : Int)) ∧ w' = w := by
  go_enter Try.func39, Try.ntmps39
  go_wp2_with (fail)
  go_loopw [1, 5] (fun q i wr => ∃ k M : Nat, k ≤ n ∧ M = mkM k0 R k ∧ i = .int .i64 k ∧ q = .int .i64 (M : Int) ∧ wr = w) (fun _ i _ => n - (intOf i).toNat)
  case atStart => exact ⟨0, k0, Nat.zero_le _, by simp [mkM, totM], rfl, rfl, rfl⟩
  case round =>
    obtain ⟨k, M, hk, hM, rfl, rfl, rfl⟩ := hrel
    by_cases hlt : k < n
    · obtain ⟨b, off, A1, c1, rfl, hb, ⟨f0, f1, f2⟩, hrd, hlc⟩ := h.cell hlt
      have hkl : k < R.length := by omega
      rw [marksM_at hkl] at f0 f1 f2 hrd hlc
      dsimp only at f0 f1 f2 hrd hlc
      rw [marks_len] at f2 hrd hlc
      have hnx := mkM_next (k0 := k0) hkl
      have hLL := totM_at (R := R) (k := k) hkl
      have htl := totM_take_le R (k + 1)
      have hMb : mkM k0 R (k + 1) ≤ k0 + (2 * n + totM R) := by unfold mkM; omega
      have hlt' : (k : Int) < (n : Int) := by omega
      rw [← hM] at f0 f1 hrd hnx
      obtain ⟨Lk, hLk⟩ : ∃ x, (R.getD k noT).v.length = x := ⟨_, rfl⟩
      rw [hLk] at f2 hrd hlc hnx hLL
      have hhd := c_heldFloat32S (c := c1) hrd (by omega) (by omega)
      rw [show ((M + 2 : Nat) : Int) = (M : Int) + 1 + 1 by omega] at hhd
      have hw1 : IntKind.i64.wrap ((M : Int) + 1) = (M : Int) + 1 := IntWalk.i64_in _ (by omega)
      have hw2 : IntKind.i64.wrap ((M : Int) + 1 + 1) = (M : Int) + 1 + 1 := IntWalk.i64_in _ (by omega)
      obtain ⟨M2, hM2⟩ : ∃ M2, M + 2 + Lk = M2 := ⟨_, rfl⟩
      rw [hM2] at hhd hnx
      have hneg : ¬ ((M2 : Int) < 0) := by omega
      have HH := Lib.hid hhd
      have HNX := Lib.hid hnx
      clear hhd hM hnx hrd hlc hLL htl hMb hM2 hLk
      go_wp2_with (go_at_call 53; refine Calls.mono HH.out ?_; rintro e w2 ⟨rfl, rfl⟩)
      exact ⟨⟨k + 1, M2, by omega, HNX.out.symm, by go_num, rfl, trivial⟩, by simp [intOf]; omega⟩
    · obtain rfl : k = n := by omega
      have hfin : M = k0 + (2 * k + totM R) := by rw [hM]; unfold mkM; rw [totM_all hl]
      have HF := Lib.hid hfin
      clear hM hfin
      go_wp2_with (fail)
      go_ret
      exact ⟨by rw [← HF.out]; rfl, rfl⟩
end Go.Proofs.Ytfmhdnhaaohdjaa
