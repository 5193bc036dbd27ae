/- Contract: shifts that fit a pilot best, the program. Condition: the gather and the pilot are read. -/
import Derived.Test.YtceldjkgddbfaabYs
namespace Go.Proofs.Ytceldjkgddbfaab
open Go.RowKit Ieee

theorem fbest_congr {F F' : Nat → Option Nat} {n : Nat} (h : ∀ j, j < n → F j = F' j) : ∀ k, k ≤ n → fbest F k = fbest F' k := by
  intro k
  induction k with
  | zero => intro _; rfl
  | succ k ih =>
    intro hk
    have e := ih (by omega)
    have e1 := h k (by omega)
    have e2 : F (fbest F k) = F' (fbest F k) := by
      rcases Nat.eq_zero_or_pos k with h0 | h0
      · subst h0; exact h 0 (by omega)
      · exact h _ (by have := fbest_lt F k h0; omega)
    show (if _ then _ else _) = (if _ then _ else _)
    rw [e1, e2, e]
theorem prefI_set {cs : Array Value} {k : Nat} {X : Nat → Int} {x : Int} (hk : k < cs.size) (h : ∀ j, j < k → cs[j]? = some (.int .i64 (X j))) (hx : x = X k) : ∀ j, j < k + 1 → (cs.setIfInBounds k (.int .i64 x))[j]? = some (.int .i64 (X j)) := by
  intro j hj
  by_cases hjk : j = k
  · subst hjk; simp [hk, hx]
  · rw [Array.getElem?_setIfInBounds, if_neg (fun e => hjk e.symm)]; exact h j (by omega)
set_option maxRecDepth 20000 in
set_option maxHeartbeats 40000000 in
theorem c_im_ShiftsOf {w : World} {B n m q cp ct cq : Nat} {mo : Int} {Ap At Aq : Option Addr} {P : List (Option Nat)} {G : Gat} (hp0 : RdF w B Ap n G.p) (hr0 : RdS w B At m G.r) (hq0 : RdF w B Aq q P) (hcq : q ≤ cq) (hB : B ≤ w.heap.size) (h1 : n ≤ 1048576) (h2 : m ≤ 1048576) (h3 : ∀ j, j < m → (G.r.getD j []).length ≤ 1048576) (hqn : q ≤ 1048576) (hmo0 : -9223372036854775808 ≤ mo) (hmo1 : mo ≤ 9223372036854775807) {T K : Nat} (hT : fvG G = true → G.t = (T : Int)) (hK : inB mo 0 64 = true → (K : Int) = 2 * mo + 1) :
    Calls Try.prog 33 #[.agg #[.int .i64 G.t, .slice Ap n cp, .slice At m ct], .slice Aq q cq, .int .i64 mo] w fun e w' => RetI w e w' (okS G q mo) (lstI (bsh P G.r T mo K) m) := by
  have hbox : GbAt (w.alloc (.cells #[.int .i64 G.t, .slice Ap n cp, .slice At m ct] 47)) w.heap.size G.t Ap n cp At m ct := GbAt.blk (T := 47) (by repeat (first | (refine al_at ?_ ?_ <;> first | rfl | (simp only [al_size] <;> omega)) | apply al_old))
  have hp := hp0.below (Below.mono (w := w) (w' := w.alloc (.cells #[.int .i64 G.t, .slice Ap n cp, .slice At m ct] 47)) (by repeat (first | assumption | exact Ext.refl _ | apply Ext.drewN | apply Ext.drew | apply Ext.alloc | (refine Ext.trans ?_ (by assumption)) | (refine Ext.set ?_ (by dsimp only; omega) _))) hB)
  have hr := hr0.below (Below.mono (w := w) (w' := w.alloc (.cells #[.int .i64 G.t, .slice Ap n cp, .slice At m ct] 47)) (by repeat (first | assumption | exact Ext.refl _ | apply Ext.drewN | apply Ext.drew | apply Ext.alloc | (refine Ext.trans ?_ (by assumption)) | (refine Ext.set ?_ (by dsimp only; omega) _))) hB)
  have hq := hq0.below (Below.mono (w := w) (w' := w.alloc (.cells #[.int .i64 G.t, .slice Ap n cp, .slice At m ct] 47)) (by repeat (first | assumption | exact Ext.refl _ | apply Ext.drewN | apply Ext.drew | apply Ext.alloc | (refine Ext.trans ?_ (by assumption)) | (refine Ext.set ?_ (by dsimp only; omega) _))) hB)
  have cV := c_valid (cp := cp) (ct := ct) hp hr (Nat.le_trans hB (by simp)) h1 h2 h3
  have hm := hr0.len
  cases hV : fvG G
  · rw [hV] at cV
    go_enter Try.func33, Try.ntmps33
    go_wp2_with (go_at_call 81; refine Calls.mono cV ?_; rintro e w1 ⟨rfl, hx1⟩)
    go_ret2
    exact retI_no (by unfold okS; rw [hV]; rfl) (by repeat (first | assumption | exact Ext.refl _ | apply Ext.drewN | apply Ext.drew | apply Ext.alloc | (refine Ext.trans ?_ (by assumption)) | (refine Ext.set ?_ (by dsimp only; omega) _)))
  rw [hV] at cV
  have hvg := fvG_of hV
  have hTt := hT hV
  have hok : okS G q mo = (decide ((q : Int) = (T : Int)) && inB mo 0 64) := by unfold okS; rw [hV, hTt]; rfl
  rw [hok]
  clear hok
  rw [hTt] at hbox hp hr hq cV ⊢
  by_cases hqT : (q : Int) = (T : Int)
  case neg =>
    have hne : ((q : Int) != (T : Int)) = true := by simp only [bne_iff_ne]; exact hqT
    rw [decide_eq_false hqT, Bool.false_and]
    clear hqT hT hK hTt hvg h3
    go_enter Try.func33, Try.ntmps33
    go_wp2_with (go_at_call 81; refine Calls.mono cV ?_; rintro e w1 ⟨rfl, hx1⟩; obtain ⟨p0, p1, p2, _⟩ := hbox.ext hx1)
    go_ret2
    exact retI_no rfl (by repeat (first | assumption | exact Ext.refl _ | apply Ext.drewN | apply Ext.drew | apply Ext.alloc | (refine Ext.trans ?_ (by assumption)) | (refine Ext.set ?_ (by dsimp only; omega) _)))
  obtain rfl : q = T := by omega
  rw [decide_eq_true hqT, Bool.true_and]
  have hself : ((q : Int) != (q : Int)) = false := by simp
  cases hM : inB mo 0 64
  · rcases inB_not hM with hlo | hhi
    · clear hqT hT hK hTt hvg h3 hM
      go_enter Try.func33, Try.ntmps33
      go_wp2_with (go_at_call 81; refine Calls.mono cV ?_; rintro e w1 ⟨rfl, hx1⟩; obtain ⟨p0, p1, p2, _⟩ := hbox.ext hx1)
      go_ret2
      exact retI_no rfl (by repeat (first | assumption | exact Ext.refl _ | apply Ext.drewN | apply Ext.drew | apply Ext.alloc | (refine Ext.trans ?_ (by assumption)) | (refine Ext.set ?_ (by dsimp only; omega) _)))
    · have hlo : ¬ mo < 0 := by omega
      clear hqT hT hK hTt hvg h3 hM
      go_enter Try.func33, Try.ntmps33
      go_wp2_with (go_at_call 81; refine Calls.mono cV ?_; rintro e w1 ⟨rfl, hx1⟩; obtain ⟨p0, p1, p2, _⟩ := hbox.ext hx1)
      go_ret2
      exact retI_no rfl (by repeat (first | assumption | exact Ext.refl _ | apply Ext.drewN | apply Ext.drew | apply Ext.alloc | (refine Ext.trans ?_ (by assumption)) | (refine Ext.set ?_ (by dsimp only; omega) _)))
  have hKK := hK hM
  obtain ⟨g1, g2⟩ := inB_of hM
  have hTb : q ≤ 64 := by have := hvg.t2; rw [hTt] at this; omega
  have hT1 : 0 < q := by have := hvg.t1; rw [hTt] at this; omega
  have hK1 : 1 ≤ K ∧ K ≤ 129 := by omega
  have hrow : ∀ j, j < m → (G.r.getD j []).length = q := fun j hj => by have := hvg.row j (by omega); rw [hTt] at this; omega
  have hlo : ¬ mo < 0 := by omega
  have hhi : ¬ 64 < mo := by omega
  have hwk1 : IntKind.i64.wrap (2 * mo) = 2 * mo := IntWalk.i64_in _ (by omega)
  have hwk2 : IntKind.i64.wrap (2 * mo + 1) = (K : Int) := (IntWalk.i64_in _ (by omega)).trans hKK.symm
  have hmk1 := fun W => run_make_row' (P := Try.prog) 44 2 (.int .i64 0) 8 Try.underlying44 info_i64 rfl .i64 .i64 m (by omega) (by omega) W
  have hmk2 := fun W => run_make_row' (P := Try.prog) 22 28 (.float .f32 0) 4 Try.underlying22 info_f32 rfl .i64 .i64 K (by omega) (by omega) W
  obtain ⟨b, off, _, rfl, _⟩ := hq0.cell hT1
  have HROW := Lib.hid hrow
  have HKK := Lib.hid hKK
  clear hqT hT hK hTt hvg h3 hM hrow hp hp0 hKK hmo0 hmo1
  go_enter Try.func33, Try.ntmps33
  go_wp2_with (go_at_call 81; refine Calls.mono cV ?_; rintro e w1 ⟨rfl, hx1⟩; obtain ⟨p0, p1, p2, _⟩ := hbox.ext hx1)
  have hxw1 : Ext w w1 := Ext.trans (by repeat (first | assumption | exact Ext.refl _ | apply Ext.drewN | apply Ext.drew | apply Ext.alloc | (refine Ext.trans ?_ (by assumption)) | (refine Ext.set ?_ (by dsimp only; omega) _))) hx1
  clear p0 p1 p2
  go_loopw [44] (fun i wr => ∃ (k : Nat) (cs cs2 : Array Value), k ≤ m ∧ i = .int .i64 k ∧ wr.heap[w1.heap.size]? = some (.cells cs 2 (0, 0)) ∧ cs.size = m ∧ wr.heap[w1.heap.size + 1]? = some (.cells cs2 28 (0, 0)) ∧ cs2.size = K ∧ (∀ j, j < k → cs[j]? = some (.int .i64 (bsh P G.r q mo K j))) ∧ Ext w1 wr) (fun i _ => m - (intOf i).toNat)
  case atStart => exact ⟨0, _, _, Nat.zero_le _, rfl, al_old (heap_alloc_new w1 _), size_madeCells _ _, al_at (al_size w1 _).symm rfl, size_madeCells _ _, fun j hj => absurd hj (Nat.not_lt_zero _), (by repeat (first | assumption | exact Ext.refl _ | apply Ext.drewN | apply Ext.drew | apply Ext.alloc | (refine Ext.trans ?_ (by assumption)) | (refine Ext.set ?_ (by dsimp only; omega) _)))⟩
  case round =>
    obtain ⟨k, cs, cs2, hk, rfl, hg1, hs1, hg2, hs2, hps, hx⟩ := hrel
    have hxx := hx1.trans hx
    have HG1 := Lib.hid hg1
    have HS1 := Lib.hid hs1
    have HG2 := Lib.hid hg2
    have HS2 := Lib.hid hs2
    have HPS := Lib.hid hps
    clear hg1 hs1 hg2 hs2 hps
    obtain ⟨p0, p1, p2, _⟩ := hbox.ext hxx
    by_cases hlt : k < m
    · have hlt' : (k : Int) < (m : Int) := by omega
      have hsw := hxw1.size
      have hqq := hq.below (hx1.mono (Nat.le_trans hB (by simp)))
      obtain ⟨b1, o1, A1, c1, rfl, hb1, hc0, hr1, hl1⟩ := (hr.below (hx1.mono (Nat.le_trans hB (by simp)))).cell hlt
      have hc1 := (hx.cell (p := ⟨b1, o1 + k, none⟩) (by dsimp only; omega)).trans hc0
      rw [HROW.out k hlt] at hc1 hr1 hl1
      obtain ⟨b2, o2, _, rfl, _⟩ := hr1.cell hT1
      have cM := fun (W : World) (hW : Ext w1 W) (v : Int) (hv0 : -64 ≤ v) (hv1 : v ≤ 64) => c_productShifted (w := W) (c := cq) (c' := c1) (hqq.below (hW.mono (Nat.le_trans hB hsw))) (hr1.below (hW.mono (Nat.le_trans hB hsw))) hT1 hTb hcq hl1 hv0 hv1
      obtain ⟨F, hF⟩ : ∃ F, fpro P (G.r.getD k []) q mo = F := ⟨_, rfl⟩
      have hFv : ∀ j : Nat, fmt P (G.r.getD k []) q ((j : Int) - mo) q = F j := fun j => by rw [← hF]; rfl
      have hbs : bsh P G.r q mo K k = (fbest F K : Int) - mo := by unfold bsh; rw [hF]
      have CM := Lib.hid cM
      have HF := Lib.hid hFv
      have HBS := Lib.hid hbs
      clear cM hF hFv hbs hqq hr1 hc0
      go_wp2_with (fail)
      go_loopw [51] (fun y wi => ∃ (j : Nat) (cs3 : Array Value), j ≤ K ∧ y = .int .i64 j ∧ wi.heap[w1.heap.size]? = some (.cells cs 2 (0, 0)) ∧ wi.heap[w1.heap.size + 1]? = some (.cells cs3 28 (0, 0)) ∧ cs3.size = K ∧ (∀ t, t < j → ∃ r, cs3[t]? = some (.float .f32 r) ∧ Fl .f32 r (F t)) ∧ Ext w1 wi) (fun y _ => K - (intOf y).toNat)
      case atStart => exact ⟨0, cs2, Nat.zero_le _, rfl, HG1.out, HG2.out, HS2.out, fun t ht => absurd ht (Nat.not_lt_zero _), hx⟩
      case round =>
        obtain ⟨j, cs3, hj, rfl, hg1, hg2, hs3, hp3, hxi⟩ := hrel
        have HI1 := Lib.hid hg1
        have HI2 := Lib.hid hg2
        have HS3 := Lib.hid hs3
        have HP3 := Lib.hid hp3
        clear hg1 hg2 hs3 hp3
        by_cases hlj : j < K
        · have hlj' : (j : Int) < (K : Int) := by omega
          have hKK2 := HKK.out
          have hwv : IntKind.i64.wrap ((j : Int) - mo) = (j : Int) - mo := IntWalk.i64_in _ (by omega)
          have cMj := CM.out wr hxi ((j : Int) - mo) (by omega) (by omega)
          rw [HF.out j] at cMj
          have CMj := Lib.hid cMj
          obtain ⟨u0, e0, z0⟩ := own_cell HI2.out HS3.out hlj
          clear cMj hKK2
          go_wp2_with (go_at_call 82; refine Calls.mono CMj.out ?_; rintro e w6 ⟨r6, rfl, hr6, n6, rfl⟩)
          exact ⟨⟨j + 1, _, by omega, by go_num, set_other (w := World.drewN _ _) HI1.out (by dsimp only; omega), blk_set1 (w := World.drewN _ _) HI2.out j _, by rw [Array.size_setIfInBounds]; exact HS3.out, pre_setF (F := F) (by have := HS3.out; omega) HP3.out hr6, (by repeat (first | assumption | exact Ext.refl _ | apply Ext.drewN | apply Ext.drew | apply Ext.alloc | (refine Ext.trans ?_ (by assumption)) | (refine Ext.set ?_ (by dsimp only; omega) _)))⟩, by simp [intOf]; omega⟩
        · obtain rfl : j = K := by omega
          have hrd := (own_lst HI2.out HS3.out HP3.out).rd
          have cG := c_greatestOf (c := j) hrd (by omega)
          have hfb : fbest (fun t => (lst F j).getD t none) j = fbest F j := fbest_congr (fun t ht => lst_at ht) j (Nat.le_refl _)
          rw [hfb] at cG
          have hel := fbest_lt F j (by omega)
          obtain ⟨e, he⟩ : ∃ e, fbest F j = e := ⟨_, rfl⟩
          rw [he] at cG hel
          have hwe : IntKind.i64.wrap ((e : Int) - mo) = (e : Int) - mo := IntWalk.i64_in _ (by omega)
          have hbx : (e : Int) - mo = bsh P G.r q mo j k := by rw [HBS.out, he]
          have CG := Lib.hid cG
          have HBX := Lib.hid hbx
          obtain ⟨u1, e1, z1⟩ := own_cell HI1.out HS1.out hlt
          clear cG hbx hfb hrd he
          go_wp2_with (go_at_call 75; refine Calls.mono CG.out ?_; rintro e5 w6 ⟨rfl, n6, rfl⟩)
          exact ⟨⟨k + 1, _, cs3, by omega, by go_num, blk_set1 (w := World.drewN _ _) HI1.out k _, by rw [Array.size_setIfInBounds]; exact HS1.out, set_other (w := World.drewN _ _) HI2.out (by dsimp only; omega), HS3.out, prefI_set (by have := HS1.out; omega) HPS.out HBX.out, (by repeat (first | assumption | exact Ext.refl _ | apply Ext.drewN | apply Ext.drew | apply Ext.alloc | (refine Ext.trans ?_ (by assumption)) | (refine Ext.set ?_ (by dsimp only; omega) _)))⟩, by simp [intOf]; omega⟩
    · obtain rfl : k = m := by omega
      go_wp2_with (fail)
      go_ret2
      refine ⟨_, _, _, rfl, ⟨lstI_len _ _, .inr ⟨w1.heap.size, cs, rfl, hxw1.size, blk_lt HG1.out, HG1.out, Nat.le_of_eq HS1.out.symm, fun j hj => ?_⟩⟩, hxw1.trans hx⟩
      show cs[j]? = some (.int .i64 ((lstI (bsh P G.r q mo K) k).getD j 0))
      rw [lstI_at hj]
      exact HPS.out j hj
end Go.Proofs.Ytceldjkgddbfaab
