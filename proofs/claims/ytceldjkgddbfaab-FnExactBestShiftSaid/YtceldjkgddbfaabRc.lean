/- Contracts: lags that are ranged over, and collected. Condition: the lists are read. -/
import Derived.Test.YtceldjkgddbfaabRb
import Derived.RangeFuncNested
import Derived.RangeFuncBound
import Derived.RangeFuncCalls
import Derived.RangeFuncLeaves
import Derived.RangeFuncBox
import Derived.Shelf.Abstract
import Derived.Shelf.RegionOpen
import Derived.OwnWalkIn
import Derived.TacticsInMore
import Derived.LoopNIn
import Derived.LoopIn
import Derived.Maps.AppendAt
namespace Go.Proofs.Ytceldjkgddbfaab
open Go.RowKit Go.Shelf Ieee

attribute [local go_sem] Oper.semAt_some

theorem grownBy_drewN (W : World) (q : Nat) : W.grownBy (W.drewN q) none := ⟨rfl, rfl, rfl, Nat.le_refl _, fun _ _ _ => rfl⟩
/-- What the lags give. -/
def LagS (F : Nat → Option Nat) (k : Nat) (ys : List Nat) : Prop := ys.length = k ∧ ∀ j, j < k → Fl .f32 (ys.getD j 0) (F j)
theorem LagS.nil (F : Nat → Option Nat) : LagS F 0 [] := ⟨rfl, fun _ h => absurd h (Nat.not_lt_zero _)⟩
theorem LagS.snoc {F : Nat → Option Nat} {k r : Nat} {ys : List Nat} (h : LagS F k ys) (hr : Fl .f32 r (F k)) : LagS F (k + 1) (ys ++ [r]) := by
  refine ⟨by rw [List.length_append, h.1]; rfl, fun j hj => ?_⟩
  by_cases hjk : j = k
  · subst hjk
    have : (ys ++ [r]).getD j 0 = r := by simp [List.getD, ← h.1]
    rw [this]; exact hr
  · have : (ys ++ [r]).getD j 0 = ys.getD j 0 := by simp [List.getD, List.getElem?_append_left (show j < ys.length by rw [h.1]; omega)]
    rw [this]; exact h.2 j (by omega)

set_option maxRecDepth 100000 in
set_option maxRecDepth 20000 in
set_option maxHeartbeats 4000000 in
theorem lags1_in (m : Nat) (hm1 : 1 ≤ m) (l n₀ g1 g2 g3 g4 : Nat) {B n c B' n' c' b b' off off' : Nat} {P T : List (Option Nat)} {lo hq : Int} {N : Nat} (hhq : hq = lo + N - 1)
    (hn0 : 0 < n) (hm0 : 0 < n') (hn : n ≤ 128) (hn' : n' ≤ 128) (hc : n ≤ c) (hc' : n' ≤ c') (hlo : -128 ≤ lo) (hhi : lo + N ≤ 129) (hg1 : g1 < n₀) (hg2 : g2 < n₀) (hg3 : g3 < n₀) (hg4 : g4 < n₀) (hB : B ≤ n₀) (hB' : B' ≤ n₀)
    (J Jx : List Nat → World → Prop)
    (hY : ∀ pre x W, J pre W → pre.length < N → YieldAt Fence.wide (m - 1) Try.prog l #[.float .f32 x] W fun e W' =>
      (e = .returned (.bool true) ∧ J (pre ++ [x]) W' ∧ Below n₀ W W') ∨ (e = .returned (.bool false) ∧ Jx (pre ++ [x]) W'))
    (W : World) (hn₀ : n₀ ≤ W.heap.size) (hJ : AbidesFrom W.heap.size J) (h : RdF W B (some ⟨b, off, none⟩) n P) (h' : RdF W B' (some ⟨b', off', none⟩) n' T)
    (k1 : W.cell? ⟨g1, 0, none⟩ = some (.int .i64 lo)) (k2 : W.cell? ⟨g2, 0, none⟩ = some (.int .i64 hq)) (k3 : W.cell? ⟨g3, 0, none⟩ = some (.slice (some ⟨b, off, none⟩) n c)) (k4 : W.cell? ⟨g4, 0, none⟩ = some (.slice (some ⟨b', off', none⟩) n' c')) (h0 : J [] W) :
    CallsIn Fence.wide m Try.prog 114 #[.func (.yield l) #[] #[], .pointer (some ⟨g1, 0, none⟩), .pointer (some ⟨g2, 0, none⟩), .pointer (some ⟨g3, 0, none⟩), .pointer (some ⟨g4, 0, none⟩)] W fun e W' => (∃ v, e = .returned v) ∧
      ((∃ ys, LagS (fun k => fcr P T (lo + k) n) N ys ∧ J ys W') ∨ (∃ pre, True ∧ Jx pre W')) := by
  have HHQ := Lib.hid hhq
  clear hhq
  refine callsIn_of_wp Try.func114 rfl trivial ?_ rfl
  simp only [Try.ntmps114, List.size_toArray, List.length_cons, List.length_nil, Nat.reduceAdd, Nat.reduceSub, Array.replicate_succ, Array.replicate_zero, List.push_toArray, List.append_toArray, List.nil_append, List.cons_append]
  gi_wp2
  gi_loopw [6] (fun i wr => ∃ (k : Nat) (ys : List Nat), k ≤ N ∧ i = .int .i64 (lo + k) ∧ LagS (fun k => fcr P T (lo + k) n) k ys ∧ J ys wr ∧ Below n₀ W wr)
    (fun i _ => (lo + N - intOf i).toNat)
  case atStart => exact ⟨0, [], Nat.zero_le _, by simp, LagS.nil _, h0, Below.refl _ _⟩
  case round =>
    obtain ⟨k, ys, hk, rfl, hS, hJs, hnx⟩ := hrel
    have c1 := (hnx.cell (p := ⟨g1, 0, none⟩) hg1).trans k1
    have c2 := (hnx.cell (p := ⟨g2, 0, none⟩) hg2).trans k2
    have c3 := (hnx.cell (p := ⟨g3, 0, none⟩) hg3).trans k3
    have c4 := (hnx.cell (p := ⟨g4, 0, none⟩) hg4).trans k4
    by_cases hlt : k < N
    · obtain ⟨y, hy⟩ : ∃ y : Int, y = lo + k := ⟨_, rfl⟩
      rw [← hy]
      have hle : y ≤ hq := by have := HHQ.out; omega
      have hwy : IntKind.i64.wrap (y + 1) = y + 1 := IntWalk.i64_in _ (by omega)
      have CP := Lib.hid (c_productShifted2 (w := wr) (v := y) (h.below (hnx.mono hB)) (h'.below (hnx.mono hB')) hn0 hm0 hn hn' hc hc' (by omega) (by omega))
      have HYY := Lib.hid hy
      clear hy
      gi_wp2_with (refine ⟨trivial, ?_⟩; gi_at_call 82; refine (callsIn_wide.2 CP.out).mono ?_; rintro e w5 ⟨r5, rfl, hr5, n5, rfl⟩; obtain ⟨fn, tmps, assign, body, hyd, hR⟩ := hY ys r5 (wr.drewN n5) (hJ _ _ _ none hJs (grownBy_drewN _ _) (fun r e => by cases e)) (by rw [hS.1]; exact hlt))
      refine hR.mono ?_
      rintro e W3 (⟨rfl, hJ3, hk3⟩ | ⟨rfl, hJx3⟩)
      · gi_wp2
        go_roundw
        case rel => exact ⟨k + 1, ys ++ [r5], by omega, by have := HYY.out; congr 1; omega, hS.snoc (by show Fl .f32 r5 (fcr P T (lo + (k : Int)) n); rw [← HYY.out]; exact hr5), hJ3, (hnx.trans ((Dr.below ⟨n5, rfl⟩ : Below wr.heap.size wr (wr.drewN n5)).mono (Nat.le_trans hn₀ hnx.size))).trans hk3⟩
        case measure => have := HYY.out; simp [intOf]; omega
      · gi_wp2
        refine bodyPost_ret (results_none rfl _ _ _) rfl ?_
        exact ⟨⟨_, rfl⟩, .inr ⟨_, trivial, hJx3⟩⟩
    · obtain rfl : k = N := by omega
      obtain ⟨y, hy⟩ : ∃ y : Int, y = lo + k := ⟨_, rfl⟩
      rw [← hy]
      have hle : ¬ (y ≤ hq) := by have := HHQ.out; omega
      clear hy
      gi_wp2
      go_end0
      exact ⟨⟨_, rfl⟩, .inl ⟨ys, hS, hJs⟩⟩
set_option maxRecDepth 100000 in
set_option maxRecDepth 20000 in
set_option maxHeartbeats 4000000 in
/-- What an iterator gives, appended to nothing. -/
theorem appendSeq_in (m : Nat) (hm : 3 ≤ m) (n₀ gf : Nat) (lb : Array Value) (eg : ∀ args w, (callFunc gf args).run Try.prog w = .ok (.enter gf args) w) (S Sp : List Nat → Prop) (N : Nat) (hN : N ≤ 1000) (w : World) (hn₀ : n₀ ≤ w.heap.size)
    (hseq : SeqStopsK Fence.wide (m - 1) Try.prog gf lb (fun x : Nat => #[Value.float .f32 x]) (Below n₀) S Sp N w) (_hSN : ∀ ys, S ys → ys.length = N) :
    CallsIn Fence.wide m Try.prog 113 #[.slice none 0 0, .func (.func gf) #[] lb] w fun e W' => ∃ v ys, e = .returned v ∧ S ys ∧ W'.ownsRow w.heap.size 28 1 v ys.length (ys.map (Value.float .f32)) ∧ Below w.heap.size w W' := by
  have h1 : 1 ≤ m := by omega
  obtain ⟨i0, hi, hz0, hz1, hz2⟩ := info_parts info_f32
  refine callsIn_of_wp_marks Try.func113 rfl trivial ?_ rfl
  simp only [Try.ntmps113, List.size_toArray, List.length_cons, List.length_nil, Nat.reduceAdd, Nat.reduceSub, Array.replicate_succ, Array.replicate_zero, List.push_toArray, List.append_toArray, List.nil_append, List.cons_append]
  gi_wp2
  have bO := Boxed.new w 22 (.slice none 0 0)
  have hB0 : Below w.heap.size w (w.alloc (.cells #[.slice none 0 0] 22)) := (Below.refl _ w).alloc (Nat.le_refl _) _
  refine wpIn_rangeFunc_ownG rfl h1 (gf := gf) (lb := lb) rfl trivial eg hseq belowK_t (belowK_b (by simp; omega)) hB0 (fun _ => rfl)
    (fun (pre : List Nat) W => (∃ v, Boxed W w.heap.size 22 v ∧ W.ownsRow w.heap.size 28 1 v pre.length (pre.map (Value.float .f32)) ∧ True) ∧ Below w.heap.size w W)
    (fun _ _ _ => False)
    (OwnFrom.and (Own.from (holdsRow_own w.heap.size w.heap.size 22 28 1 (fun pre : List Nat => pre.length) (fun pre : List Nat => pre.map (Value.float .f32)) (fun _ _ => True)) _) (ownFrom_below (Nat.le_refl _) (by simp)))
    (fun _ _ _ _ _ hs _ _ => hs)
    ⟨⟨_, bO, World.ownsRow_nil _ _ _ _, trivial⟩, hB0⟩
    (fun x => { tmps := #[.slice none 0 0, .func (.func gf) #[] lb, .pointer (some ⟨w.heap.size, 0, none⟩), undef, .slice none 0 0, .float .f32 x, .func (.func gf) #[] lb, .float .f32 x, undef, undef, undef, undef, undef], defers := [] }) ?assign ?body ?done ?stop
  case assign =>
    intro l x W K hK
    gi_wp2
    exact hK
  case body =>
    rintro l pre x W ⟨⟨v, hv, hrow, _⟩, hB⟩ hlt
    have hc := hv.cell
    gi_wp2_with (gi_at_builtin; refine wpListIn_append_own _ rfl _ _ 22 rfl w.heap.size 28 i0 (.float .f32 0) 1 4 Try.underlying22 hi hz0 hz1 hz2 rfl (by decide) _ _ _ rfl (hrow.alloc _) ⟨W.heap.size, 0, none⟩ 1 1 [.float .f32 x] rfl rfl (cell_one_new _ _ _) (by simp [Value.oneCell']) (by unfold maxLen; omega) (by omega) (by have := hB.size; simp; omega) ?_; intro v' w1 hown' hgrow _; obtain ⟨g', cap', rfl⟩ := ownsRow_succ hown'; obtain ⟨hv1, hv2, hr2, hk2, hb2⟩ := hv.appended (by decide) hrow hB.size (Nat.le_refl _) hown' hgrow; have hc1 := hv1.cell; have hf1 := hv1.frozen)
    exact ⟨hk2.from _, hb2.mono hn₀, ⟨_, hv2, by simpa using hr2, trivial⟩, hB.trans hb2⟩
  case done =>
    rintro D ys W hD hS ⟨⟨v, hv, hrow, _⟩, hB⟩ hK
    have hc := hv.cell
    gi_wp2
    refine ⟨by simp, .inl ⟨_, _, rfl, run_takeDeferred hK, ?_⟩⟩
    exact ⟨_, results_tmp rfl _ _ _, v, ys, rfl, hS, ownsRow_putObj hrow _ hK rfl, hB.trans (belowK_b (w := w) (Nat.le_refl _) W D _ _ (by simp at hD; omega) hK rfl rfl)⟩
  case stop =>
    rintro D c pre W _ _ h _
    exact h.elim
end Go.Proofs.Ytceldjkgddbfaab
