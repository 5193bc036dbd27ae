/- Contracts: two parts of a frame, on both sides. Condition: the frame is read. -/
import Derived.Test.YtfmhdnhaaohdjaaQb
import Derived.Test.YtfmhdnhaaohdjaaQj
import Derived.Test.YtfmhdnhaaohdjaaYl
import Derived.Test.YtfmhdnhaaohdjaaMo2
import Derived.Test.YtfmhdnhaaohdjaaYm
import Derived.Laws.ResultCell
namespace Go.Proofs.Ytfmhdnhaaohdjaa
open Go.RowKit Go.ChangeShapes Go.WideShapes Go.Deep Ieee
set_option linter.unusedVariables false
set_option linter.unusedSimpArgs false

theorem results_cct {fn : Func} {p q u : Tmp} {tp tq : TypeId} (h : fn.results = #[.cell p tp, .cell q tq, .tmp u]) (tmps : Array Value) (P : Program) (w : World) :
    (results fn tmps).run P w =
      ((asAddr (tmps.getD p undef)).run P w).andThen fun a w₁ => ((loadVar tp a).run P w₁).andThen fun v w₂ => ((asAddr (tmps.getD q undef)).run P w₂).andThen fun b w₃ => ((loadVar tq b).run P w₃).andThen fun x w₄ => .ok (.tuple #[v, x, tmps.getD u undef]) w₄ := by
  simp only [results, h]
  simp [Sem.run_bind, Result.andThen]
theorem results_cell3 {P : Program} {fn : Func} {p q u : Tmp} {tp tq : TypeId} (h : fn.results = #[.cell p tp, .cell q tq, .tmp u]) (tmps : Array Value) (w : World) (g1 g2 : Nat) (t1 t2 : TypeId) (cs1 cs2 : Array Value) (f1 f2 : Nat × Nat) (d1 d2 : TypeDesc)
    (hp : tmps.getD p undef = .pointer (some ⟨g1, 0, none⟩)) (hq : tmps.getD q undef = .pointer (some ⟨g2, 0, none⟩)) (hg1 : w.heap[g1]? = some (.cells cs1 t1 f1)) (hg2 : w.heap[g2]? = some (.cells cs2 t2 f2))
    (hu1 : P.underlying tp = some d1) (hd1 : (match d1 with | .struct _ | .array _ _ => true | _ => false) = true) (hi1 : (P.info? tp).map (·.size) = some cs1.size)
    (hu2 : P.underlying tq = some d2) (hd2 : (match d2 with | .struct _ | .array _ _ => true | _ => false) = true) (hi2 : (P.info? tq).map (·.size) = some cs2.size) :
    (results fn tmps).run P w = .ok (.tuple #[.agg cs1, .agg cs2, tmps.getD u undef]) w := by
  rw [results_cct h, hp]
  simp [asAddr, Result.andThen, run_loadVar_row w g1 t1 tp cs1 f1 d1 hg1 hu1 hd1 hi1]
  have hq' : tmps[q]?.getD undef = .pointer (some ⟨g2, 0, none⟩) := by simpa using hq
  rw [hq']
  simp [asAddr, Result.andThen, run_loadVar_row w g2 t2 tq cs2 f2 d2 hg2 hu2 hd2 hi2]
theorem ext6 {w W : World} {g1 g2 : Nat} (hx : Ext w W) (h1 : w.heap.size ≤ g1) (h2 : w.heap.size ≤ g2) (u0 u1 u2 v0 v1 v2 : Value) :
    Ext w ((((((W.setCell ⟨g1, 0, none⟩ u0).setCell ⟨g1, 1, none⟩ u1).setCell ⟨g1, 2, none⟩ u2).setCell ⟨g2, 0, none⟩ v0).setCell ⟨g2, 1, none⟩ v1).setCell ⟨g2, 2, none⟩ v2) :=
  Ext.set (Ext.set (Ext.set (Ext.set (Ext.set (Ext.set hx h1 _) h1 _) h1 _) h2 _) h2 _) h2 _
theorem drew_heap {W : World} {g : Nat} {o : Obj} (h : W.heap[g]? = some o) : W.drew.heap[g]? = some o := h
theorem OwL.drew {W : World} {lo hi m : Nat} {A : Option Addr} {L : List (Option Nat)} (h : OwL W lo hi A m L) : OwL W.drew lo hi A m L := h.same (fun _ _ _ => rfl)
theorem own6 {W : World} {gA g1 g2 m : Nat} {L : List (Option Nat)} (h : OwL W gA (gA + 1) (some ⟨gA, 0, none⟩) m L) (h1 : gA ≠ g1) (h2 : gA ≠ g2) (u0 u1 u2 v0 v1 v2 : Value) :
    OwL ((((((W.setCell ⟨g1, 0, none⟩ u0).setCell ⟨g1, 1, none⟩ u1).setCell ⟨g1, 2, none⟩ u2).setCell ⟨g2, 0, none⟩ v0).setCell ⟨g2, 1, none⟩ v1).setCell ⟨g2, 2, none⟩ v2) gA (gA + 1) (some ⟨gA, 0, none⟩) m L :=
  h.same (fun k h3 h4 => by
    have hk1 : k ≠ g1 := by omega
    have hk2 : k ≠ g2 := by omega
    rw [Below.heap_setCell _ _ _ _ hk2, Below.heap_setCell _ _ _ _ hk2, Below.heap_setCell _ _ _ _ hk2, Below.heap_setCell _ _ _ _ hk1, Below.heap_setCell _ _ _ _ hk1, Below.heap_setCell _ _ _ _ hk1])
/-- Two frames of a call's own are returned, with their success: the second one behind the first one. -/
def RetSS (w : World) (e : Ending) (w' : World) (ok : Bool) (S1 S2 : Sct) : Prop :=
  ∃ v1 v2 mid, e = .returned (.tuple #[v1, v2, .bool ok]) ∧ OwT w' w.heap.size mid v1 S1 ∧ OwT w' mid w'.heap.size v2 S2 ∧ w.heap.size ≤ mid ∧ mid ≤ w'.heap.size ∧ Ext w w'
theorem retSS_no {w w' : World} {S1 S2 : Sct} {f : Bool} (hf : f = false) (hx : Ext w w') : RetSS w (.returned (.tuple #[.agg #[.int .i64 0, .int .i64 0, .slice none 0 0], .agg #[.int .i64 0, .int .i64 0, .slice none 0 0], .bool false])) w' f (outT f S1) (outT f S2) := by
  subst hf; exact ⟨_, _, w.heap.size, rfl, OwT.no _ _ _ _ _, OwT.no _ _ _ _ _, Nat.le_refl _, hx.size, hx⟩
/-- Two boxes that are filled, one after the other. -/
theorem two_boxes {W : World} {g1 g2 : Nat} {T : TypeId} {a0 a1 a2 b0 b1 b2 : Value} (h1 : W.heap[g1]? = some (.cells #[a0, a1, a2] T (0, 0))) (h2 : W.heap[g2]? = some (.cells #[b0, b1, b2] T (0, 0))) (hne : g1 ≠ g2) (u0 u1 u2 v0 v1 v2 : Value) :
    ((((((W.setCell ⟨g1, 0, none⟩ u0).setCell ⟨g1, 1, none⟩ u1).setCell ⟨g1, 2, none⟩ u2).setCell ⟨g2, 0, none⟩ v0).setCell ⟨g2, 1, none⟩ v1).setCell ⟨g2, 2, none⟩ v2).heap[g1]? = some (.cells #[u0, u1, u2] T (0, 0)) ∧
    ((((((W.setCell ⟨g1, 0, none⟩ u0).setCell ⟨g1, 1, none⟩ u1).setCell ⟨g1, 2, none⟩ u2).setCell ⟨g2, 0, none⟩ v0).setCell ⟨g2, 1, none⟩ v1).setCell ⟨g2, 2, none⟩ v2).heap[g2]? = some (.cells #[v0, v1, v2] T (0, 0)) :=
  ⟨set_other (set_other (set_other (blk_set1 (blk_set1 (blk_set1 h1 0 u0) 1 u1) 2 u2) hne) hne) hne, blk_set1 (blk_set1 (blk_set1 (set_other (set_other (set_other h2 hne.symm) hne.symm) hne.symm) 0 v0) 1 v1) 2 v2⟩
/-- A part of a list. -/
def subL (L : List (Option Nat)) (lo d : Nat) : List (Option Nat) := lst (fun j => L.getD (lo + j) none) d
theorem subL_len (L : List (Option Nat)) (lo d : Nat) : (subL L lo d).length = d := lst_len _ _
theorem RdF.subF {w : World} {B n b off lo d : Nat} {L : List (Option Nat)} (h : RdF w B (some ⟨b, off, none⟩) n L) (hd : lo + d ≤ n) : RdF w B (some ⟨b, off + lo, none⟩) d (subL L lo d) := by
  refine ⟨lst_len _ _, fun k hk => ?_⟩
  obtain ⟨b', off', hA, hb, hj⟩ := h.at_ (lo + k) (by omega)
  simp only [Option.some.injEq, Addr.mk.injEq, and_true] at hA
  obtain ⟨rfl, rfl⟩ := hA
  refine ⟨b, off + lo, rfl, hb, fun j hjd => ?_⟩
  obtain ⟨r, h1, h2⟩ := hj (lo + j) (by omega)
  exact ⟨r, by rw [Nat.add_assoc]; exact h1, by unfold subL; rw [lst_at hjd]; exact h2⟩
theorem subL_all {p : Option Nat → Bool} {L : List (Option Nat)} {lo d : Nat} (h : allL p L = true) (hd : lo + d ≤ L.length) : allL p (subL L lo d) = true := by
  unfold allL
  rw [List.all_eq_true]
  intro x hx
  unfold subL lst at hx
  rw [List.mem_map] at hx
  obtain ⟨j, hj, rfl⟩ := hx
  have := List.mem_range.1 hj
  exact allL_at (by omega) h
theorem words_new {w : World} {b o m B : Nat} {rs : List Nat} (hb : b < B) (hB : B ≤ w.heap.size) (hl : rs.length = m) (hc : ∀ j, j < m → w.cell? ⟨b, o + j, none⟩ = some (.float .f32 (rs.getD j 0))) :
    ∀ W : World, Ext w W → ∀ j u, (fvals rs)[j]? = some u → W.cell? ((⟨b, o, none⟩ : Addr).add j) = some u := by
  intro W hW j u hj
  have hjn : j < m := by
    rcases Nat.lt_or_ge j m with h1 | h1
    · exact h1
    · rw [List.getElem?_eq_none (by simp [fvals, hl]; omega)] at hj; cases hj
  rw [fvals_at (by omega)] at hj
  cases hj
  have e0 : (⟨b, o, none⟩ : Addr).add j = ⟨b, o + j, none⟩ := by simp [Addr.add]
  rw [e0]
  exact (hW.cell (by show b < _; omega)).trans (hc j hjn)
/-- A list of its own, new since w0. -/
def NewL (w0 : World) (m : Nat) (L : List (Option Nat)) (v : Value) (w : World) : Prop := ∃ g cap, v = .slice (some ⟨g, 0, none⟩) m cap ∧ w0.heap.size ≤ g ∧ m ≤ cap ∧ g < w.heap.size ∧ OwL w g (g + 1) (some ⟨g, 0, none⟩) m L
theorem NewL.ext {w0 w w' : World} {m : Nat} {L : List (Option Nat)} {v : Value} (h : NewL w0 m L v w) (hx : Ext w w') : NewL w0 m L v w' := by
  obtain ⟨g, cap, h1, h2, h3, h4, h5⟩ := h
  exact ⟨g, cap, h1, h2, h3, Nat.lt_of_lt_of_le h4 hx.size, h5.ext h4 hx⟩
theorem NewL.later {w0 w1 w : World} {m : Nat} {L : List (Option Nat)} {v : Value} (h : NewL w1 m L v w) (hx : w0.heap.size ≤ w1.heap.size) : NewL w0 m L v w := by
  obtain ⟨g, cap, h1, h2, h3⟩ := h
  exact ⟨g, cap, h1, by omega, h3⟩
theorem own_ne {w : World} {g gP m : Nat} {L : List (Option Nat)} {cs : Array Value} (h : OwL w g (g + 1) (some ⟨g, 0, none⟩) m L) (hm : 0 < m) (hP : w.heap[gP]? = some (.cells cs 27 (0, 0))) : g ≠ gP := by
  rcases h.at_ with h0 | ⟨g', off, cs', hA, _, _, hg, _⟩
  · omega
  · simp only [Option.some.injEq, Addr.mk.injEq] at hA
    obtain ⟨rfl, _⟩ := hA
    exact typ_ne hg hP (by decide)
/-- A box that is filled beside a list. -/
theorem fill_box {Wa w2 : World} {gP gA m : Nat} {T : TypeId} {a0 a1 a2 : Value} {L : List (Option Nat)} (hx : Ext Wa w2) (hgP : Wa.heap.size ≤ gP) (hb : w2.heap[gP]? = some (.cells #[a0, a1, a2] T (0, 0))) (ho : OwL w2 gA (gA + 1) (some ⟨gA, 0, none⟩) m L) (hne : gA ≠ gP) (v0 v1 v2 : Value) :
    ∃ Wb, (((w2.setCell ⟨gP, 0, none⟩ v0).setCell ⟨gP, 1, none⟩ v1).setCell ⟨gP, 2, none⟩ v2) = Wb ∧ Ext Wa Wb ∧ Wb.heap[gP]? = some (.cells #[v0, v1, v2] T (0, 0)) ∧ OwL Wb gA (gA + 1) (some ⟨gA, 0, none⟩) m L ∧ Wb.heap.size = w2.heap.size :=
  ⟨_, rfl, Ext.set (Ext.set (Ext.set hx hgP _) hgP _) hgP _, blk_set1 (blk_set1 (blk_set1 hb 0 v0) 1 v1) 2 v2, ho.same (fun k h1 h2 => by
    have hk : k ≠ gP := by omega
    rw [Below.heap_setCell _ _ _ _ hk, Below.heap_setCell _ _ _ _ hk, Below.heap_setCell _ _ _ _ hk]), by simp⟩
theorem c_cloneN {w : World} {B n c : Nat} {A : Option Addr} {L : List (Option Nat)} (h : RdF w B A n L) (hB : B ≤ w.heap.size) (hn : n ≤ 1048576) (hpos : 0 < n) :
    Calls Try.prog 71 #[.slice A n c] w fun e w' => ∃ v, e = .returned v ∧ NewL w n L v w' ∧ Ext w w' := by
  refine Calls.mono (c_cloneG h hB hn hpos) ?_
  rintro e w' ⟨g, cs, c', rfl, h1, h2, h3, h4, h5, h6⟩
  have h7 := rowF_lst' h5 h3 h4
  rw [lst_self h.len] at h7
  exact ⟨_, rfl, ⟨g, c', rfl, h1, h2, blk_lt h3, h7.at0⟩, h6⟩
/-- A frame may be cut there. -/
def okSp (S : Sct) (i : Int) : Bool := fvF S && (inB i 1 ((S.v.length : Int) - 1) && decide (S.z + i ≤ 100000))
def cutA (S : Sct) (i : Int) : Sct := ⟨S.x, S.z, subL S.v 0 i.toNat⟩
def cutB (S : Sct) (i : Int) : Sct := ⟨S.x, S.z + i, subL S.v i.toNat (S.v.length - i.toNat)⟩
theorem okSp_of {S : Sct} {i : Int} (h : okSp S i = true) : fvF S = true ∧ ∃ a n : Nat, i = (a : Int) ∧ S.v.length = n ∧ i.toNat = a ∧ 1 ≤ a ∧ a < n ∧ n ≤ 128 ∧ S.z + i ≤ 100000 ∧ 0 ≤ S.z := by
  unfold okSp at h
  simp only [Bool.and_eq_true] at h
  obtain ⟨h1, h2, h3⟩ := h
  have h4 := inB_of h2
  obtain ⟨_, _, h5, _, h6, h7, _⟩ := fvF_of h1
  have := of_decide_eq_true h3
  exact ⟨h1, i.toNat, S.v.length, by omega, rfl, rfl, by omega, by omega, by omega, by omega, h5⟩
theorem cutB_ok {S : Sct} {i : Int} (h : fvF S = true) (hi : inB i 1 ((S.v.length : Int) - 1) = true) : fvF (cutB S i) = decide (S.z + i ≤ 100000) := by
  have h4 := inB_of hi
  obtain ⟨h1, h2, h5, h6, h7, h8, h9⟩ := fvF_of h
  have hl : (subL S.v i.toNat (S.v.length - i.toNat)).length = S.v.length - i.toNat := subL_len _ _ _
  unfold fvF cutB fgoodF
  dsimp only
  rw [hl, tlen_yes (by omega) (by omega), subL_all h9 (by omega), inB_yes h1 h2]
  by_cases hz : S.z + i ≤ 100000
  · rw [inB_yes (by omega) hz, decide_eq_true hz]; rfl
  · rw [inB_hi (by omega), decide_eq_false hz]; rfl
set_option maxRecDepth 20000 in
set_option maxHeartbeats 4000000 in
theorem c_spec_SplitFrame {w : World} {B : Nat} {u : Value} {S : Sct} (h : RdT w B u S) (hB : B ≤ w.heap.size) (za : S.v.length ≤ 1048576) (hok : S.Ok) {i : Int} (hi1 : -9223372036854775808 ≤ i) (hj1 : i ≤ 9223372036854775807) :
    Calls Try.prog 33 #[u, .int .i64 i] w fun e w' => RetSS w e w' (okSp S i) (outT (okSp S i) (cutA S i)) (outT (okSp S i) (cutB S i)) := by
  obtain ⟨A, c, rfl, hp, hcA⟩ := h.ex
  clear h
  obtain ⟨W1, hW1⟩ : ∃ W1, W1 = ((w.alloc (.cells #[.int .i64 S.x, .int .i64 S.z, .slice A S.v.length c] 27)).alloc (.cells #[.int .i64 0, .int .i64 0, .slice none 0 0] 27)).alloc (.cells #[.int .i64 0, .int .i64 0, .slice none 0 0] 27) := ⟨_, rfl⟩
  have hx1 : Ext w W1 := by rw [hW1]; exact (by repeat (first | assumption | exact Ext.refl _ | apply Ext.drewN | apply Ext.drew | apply Ext.alloc | (refine Ext.trans ?_ (by assumption)) | (refine Ext.set ?_ (by dsimp only; omega) _)))
  have hbox : SbAt W1 w.heap.size S.x S.z A S.v.length c := by rw [hW1]; exact ((SbAt.blk (T := 27) (heap_alloc_new w _)).ext (Ext.alloc (Ext.refl _) _)).ext (Ext.alloc (Ext.refl _) _)
  have hz1 : W1.heap[w.heap.size + 1]? = some (.cells #[.int .i64 0, .int .i64 0, .slice none 0 0] 27 (0, 0)) := by rw [hW1]; exact al_old (al_at (al_size _ _).symm rfl)
  have hz2 : W1.heap[w.heap.size + 1 + 1]? = some (.cells #[.int .i64 0, .int .i64 0, .slice none 0 0] 27 (0, 0)) := by rw [hW1]; exact al_at (by rw [al_size, al_size]) rfl
  have hs1 : W1.heap.size = w.heap.size + 1 + 1 + 1 := by rw [hW1, al_size, al_size, al_size]
  have hp1 := hp.below (hx1.mono hB)
  have cI := c_l07Is hbox.p0 hbox.p1 hbox.p2 hp1 za
  have cR := fun (W : World) => c_l00In i 1 ((S.v.length : Int) - 1) W
  have hw1 : IntKind.i64.wrap ((S.v.length : Int) - 1) = (S.v.length : Int) - 1 := IntWalk.i64_in _ (by omega)
  obtain ⟨p0, p1, p2, _⟩ := id hbox
  obtain ⟨c0, c1, c2, x0, x1, x2⟩ := three_c hz1
  obtain ⟨d0, d1, d2, y0, y1, y2⟩ := three_c hz2
  cases hV : fvF S
  · have hno : okSp S i = false := by unfold okSp; rw [hV]; rfl
    rw [hno]
    rw [hV] at cI
    clear cR hw1 hp hp1
    go_enter Try.func33, Try.ntmps33
    go_wp2_with (fail)
    rw [← hW1]
    clear hW1
    go_wp2_with (go_at_call 62; refine Calls.mono cI ?_; rintro e w1 ⟨rfl, n1, rfl⟩)
    (try simp only [Exit.inBlock, Exit.then])
    have HB2 := two_boxes hz1 hz2 (by omega) (.int .i64 0) (.int .i64 0) (.slice none 0 0) (.int .i64 0) (.int .i64 0) (.slice none 0 0)
    refine bodyPost_ret (results_cell3 rfl _ _ (w.heap.size + 1) (w.heap.size + 1 + 1) 27 27 #[.int .i64 0, .int .i64 0, .slice none 0 0] #[.int .i64 0, .int .i64 0, .slice none 0 0] (0, 0) (0, 0) _ _ rfl rfl HB2.1 HB2.2 Try.underlying27 rfl (by kernel_rfl) Try.underlying27 rfl (by kernel_rfl)) rfl ?_
    exact retSS_no rfl (ext6 (hx1.drewN _) (by omega) (by omega) _ _ _ _ _ _)
  rw [hV] at cI
  obtain ⟨_, _, hv3, hv4, hv5, hv6, _⟩ := fvF_of hV
  cases hR : inB i 1 ((S.v.length : Int) - 1)
  · have hno : okSp S i = false := by unfold okSp; rw [hR]; simp
    rw [hno]
    rw [hR] at cR
    clear hp hp1 hR hV
    go_enter Try.func33, Try.ntmps33
    go_wp2_with (fail)
    rw [← hW1]
    clear hW1
    go_wp2_with (first | (go_at_call 62; refine Calls.mono cI ?_; rintro e w1 ⟨rfl, n1, rfl⟩) | (go_at_call 70; refine Calls.mono (cR _) ?_; rintro e w2 ⟨rfl, rfl⟩))
    (try simp only [Exit.inBlock, Exit.then])
    have HB2 := two_boxes hz1 hz2 (by omega) (.int .i64 0) (.int .i64 0) (.slice none 0 0) (.int .i64 0) (.int .i64 0) (.slice none 0 0)
    refine bodyPost_ret (results_cell3 rfl _ _ (w.heap.size + 1) (w.heap.size + 1 + 1) 27 27 #[.int .i64 0, .int .i64 0, .slice none 0 0] #[.int .i64 0, .int .i64 0, .slice none 0 0] (0, 0) (0, 0) _ _ rfl rfl HB2.1 HB2.2 Try.underlying27 rfl (by kernel_rfl) Try.underlying27 rfl (by kernel_rfl)) rfl ?_
    exact retSS_no rfl (ext6 (hx1.drewN _) (by omega) (by omega) _ _ _ _ _ _)
  rw [hR] at cR
  have hri := inB_of hR
  have hwz : IntKind.i64.wrap (S.z + i) = S.z + i := IntWalk.i64_in _ (by omega)
  by_cases hZ : S.z + i ≤ 100000
  case neg =>
    have hno : okSp S i = false := by unfold okSp; rw [decide_eq_false hZ]; simp
    rw [hno]
    have hZ2 : S.z + i > 100000 := by omega
    clear hp hp1 hR hV
    go_enter Try.func33, Try.ntmps33
    go_wp2_with (fail)
    rw [← hW1]
    clear hW1
    go_wp2_with (first | (go_at_call 62; refine Calls.mono cI ?_; rintro e w1 ⟨rfl, n1, rfl⟩) | (go_at_call 70; refine Calls.mono (cR _) ?_; rintro e w2 ⟨rfl, rfl⟩))
    (try simp only [Exit.inBlock, Exit.then])
    have HB2 := two_boxes hz1 hz2 (by omega) (.int .i64 0) (.int .i64 0) (.slice none 0 0) (.int .i64 0) (.int .i64 0) (.slice none 0 0)
    refine bodyPost_ret (results_cell3 rfl _ _ (w.heap.size + 1) (w.heap.size + 1 + 1) 27 27 #[.int .i64 0, .int .i64 0, .slice none 0 0] #[.int .i64 0, .int .i64 0, .slice none 0 0] (0, 0) (0, 0) _ _ rfl rfl HB2.1 HB2.2 Try.underlying27 rfl (by kernel_rfl) Try.underlying27 rfl (by kernel_rfl)) rfl ?_
    exact retSS_no rfl (ext6 (hx1.drewN _) (by omega) (by omega) _ _ _ _ _ _)
  have hyes : okSp S i = true := by unfold okSp; rw [hV, hR, decide_eq_true hZ]; rfl
  rw [hyes]
  obtain ⟨a, ha⟩ : ∃ a : Nat, i = (a : Int) := ⟨i.toNat, by omega⟩
  obtain ⟨n, hn⟩ : ∃ n, S.v.length = n := ⟨_, rfl⟩
  obtain ⟨d, hd⟩ : ∃ d, n - a = d := ⟨_, rfl⟩
  have hbl := hbox.lt
  obtain ⟨i0, hi0, hz00, hz01, hz02⟩ := info_parts info_f32
  subst ha
  have hta : ((a : Int)).toNat = a := Int.toNat_natCast a
  have hqa := hta
  rw [hn] at hW1 hp hp1 hbox cR hw1 hri p2 hcA hv5 hv6 za
  have ha1 : 1 ≤ a := by omega
  have han : a < n := by omega
  have hcA' : n ≤ c := hcA
  obtain ⟨ba, oa, rfl, hba, _, _, _⟩ := hp.words (by omega)
  have hqA := hp.subF (lo := 0) (d := a) (by omega)
  have hqB := hp.subF (lo := a) (d := d) (by omega)
  have hLA : (subL S.v 0 a).length = a := subL_len _ _ _
  have hLB : (subL S.v a d).length = d := subL_len _ _ _
  have hcutA : cutA S (a : Int) = ⟨S.x, S.z, subL S.v 0 a⟩ := by unfold cutA; rw [hta]
  have hcutB : cutB S (a : Int) = ⟨S.x, S.z + (a : Int), subL S.v a d⟩ := by unfold cutB; rw [hta, hn, hd]
  obtain ⟨bA, oA, hAA, hbA, rsA, hrlA, hrsA⟩ := hqA.words (by omega)
  obtain ⟨bB, oB, hAB, hbB, rsB, hrlB, hrsB⟩ := hqB.words (by omega)
  simp only [Nat.add_zero, Option.some.injEq, Addr.mk.injEq, and_true] at hAA hAB
  obtain ⟨rfl, rfl⟩ := hAA
  obtain ⟨e1, rfl⟩ := hAB
  subst e1
  have hnewA := words_new hbA hB hrlA (fun j hj => (hrsA j hj).1)
  have hnewB := words_new hbB hB hrlB (fun j hj => (hrsB j hj).1)
  have HNA := Lib.hid hnewA
  have HNB := Lib.hid hnewB
  have HRA := Lib.hid hrsA
  have HRB := Lib.hid hrsB
  have HLA := Lib.hid hLA
  have HLB := Lib.hid hLB
  have HCA := Lib.hid hcutA
  have HCB := Lib.hid hcutB
  have h3 : (a : Int) ≤ (c : Int) := by omega
  have h4 : (a : Int) ≤ (n : Int) := by omega
  clear hp hp1 hqA hqB hR hV hnewA hnewB hrsA hrsB hLA hLB hcutA hcutB
  go_enter Try.func33, Try.ntmps33
  go_wp2_with (fail)
  rw [← hW1]
  clear hW1
  go_wp2_with (first | (go_at_call 62; refine Calls.mono cI ?_; rintro e w1 ⟨rfl, n1, rfl⟩) | (go_at_call 70; refine Calls.mono (cR _) ?_; rintro e w2 ⟨rfl, rfl⟩))
  have hxa : Ext w (W1.drewN n1) := hx1.drewN _
  have hsa : (W1.drewN n1).heap.size = w.heap.size + 1 + 1 + 1 := hs1
  have hbxa : SbAt (W1.drewN n1) w.heap.size S.x S.z (some ⟨ba, oa, none⟩) n c := ⟨p0, p1, p2, by rw [hsa]; omega⟩
  have hz1a : (W1.drewN n1).heap[w.heap.size + 1]? = some (.cells #[.int .i64 0, .int .i64 0, .slice none 0 0] 27 (0, 0)) := hz1
  have hz2a : (W1.drewN n1).heap[w.heap.size + 1 + 1]? = some (.cells #[.int .i64 0, .int .i64 0, .slice none 0 0] 27 (0, 0)) := hz2
  obtain ⟨Wa, hWa⟩ : ∃ Wa, W1.drewN n1 = Wa := ⟨_, rfl⟩
  rw [hWa] at hxa hsa hbxa hz1a hz2a ⊢
  clear hWa hx1 hbox hz1 hz2 hs1 cI p0 p1 p2 c0 c1 c2 d0 d1 d2
  obtain ⟨p0, p1, p2, hbla⟩ := id hbxa
  refine wp_region_any (by kernel_rfl) ?_
  refine wpAny_mo_go (md := .any) (R := Ext) (w := Wa) [(0, 29), (1, 30), (2, 31), (3, 32), (4, 33), (5, 34), (6, 35), (7, 36), (8, 37), (9, 38), (10, 39), (11, 7)] [12] (tl := [_]) (S := ?S1_) (by kernel_rfl) (by rfl) (by rfl) Ext.refl ext_tr (ext_drew1 _) ?hS1_ ?go1_
  case hS1_ => intro vs; simp only [putAll, Act.put, List.setIfInBounds_toArray, List.set_cons_zero, List.set_cons_succ]; rfl
  case go1_ =>
  refine mo_fix _ (by rfl) (by rfl) (by intro vs w1 hx_ hd; have q0 := (hx_.cell hbla).trans p0; have q1 := (hx_.cell hbla).trans p1; have q2 := (hx_.cell hbla).trans p2; go_simp; first | done | rfl) ?_
  refine mo_fix _ (by rfl) (by rfl) (by intro vs w1 hx_ hd; have q0 := (hx_.cell hbla).trans p0; have q1 := (hx_.cell hbla).trans p1; have q2 := (hx_.cell hbla).trans p2; have e0 := hd 0 (by kernel_rfl); simp (decide := true) only [factAt, if_true, if_false] at e0; simp only [e0]; go_simp; first | done | rfl) ?_
  refine mo_fix _ (by rfl) (by rfl) (by intro vs w1 hx_ hd; have q0 := (hx_.cell hbla).trans p0; have q1 := (hx_.cell hbla).trans p1; have q2 := (hx_.cell hbla).trans p2; go_simp; first | done | rfl) ?_
  refine mo_fix _ (by rfl) (by rfl) (by intro vs w1 hx_ hd; have q0 := (hx_.cell hbla).trans p0; have q1 := (hx_.cell hbla).trans p1; have q2 := (hx_.cell hbla).trans p2; have e2 := hd 2 (by kernel_rfl); simp (decide := true) only [factAt, if_true, if_false] at e2; simp only [e2]; go_simp; first | done | rfl) ?_
  refine mo_make (fun a => .slice (some a) 0 0) (.cells #[] 83) (by rfl) (by rfl) (by intro vs w1 hx_ hd; have q0 := (hx_.cell hbla).trans p0; have q1 := (hx_.cell hbla).trans p1; have q2 := (hx_.cell hbla).trans p2; go_simp; first | done | rfl) ?_
  refine mo_fix _ (by rfl) (by rfl) (by intro vs w1 hx_ hd; have q0 := (hx_.cell hbla).trans p0; have q1 := (hx_.cell hbla).trans p1; have q2 := (hx_.cell hbla).trans p2; go_simp; first | done | rfl) ?_
  refine mo_fix _ (by rfl) (by rfl) (by intro vs w1 hx_ hd; have q0 := (hx_.cell hbla).trans p0; have q1 := (hx_.cell hbla).trans p1; have q2 := (hx_.cell hbla).trans p2; have e5 := hd 5 (by kernel_rfl); simp (decide := true) only [factAt, if_true, if_false] at e5; simp only [e5]; go_simp; first | done | rfl) ?_
  refine mo_fix _ (by rfl) (by rfl) (by intro vs w1 hx_ hd; have q0 := (hx_.cell hbla).trans p0; have q1 := (hx_.cell hbla).trans p1; have q2 := (hx_.cell hbla).trans p2; go_simp; first | done | rfl) ?_
  refine mo_fix _ (by rfl) (by rfl) (by intro vs w1 hx_ hd; have q0 := (hx_.cell hbla).trans p0; have q1 := (hx_.cell hbla).trans p1; have q2 := (hx_.cell hbla).trans p2; have e6 := hd 6 (by kernel_rfl); have e7 := hd 7 (by kernel_rfl); simp (decide := true) only [factAt, if_true, if_false] at e6 e7; simp only [e6, e7]; go_simp; first | done | rfl) ?_
  refine mo_append 83 (fvals rsA) (.tmp 33) (.tmp 37) 22 (by rfl) (by rfl) (by rfl) i0 (.float .f32 0) 4 Try.underlying22 hi0 hz00 hz01 hz02 rfl a ha1 (by simp [fvals, hrlA]) (by unfold maxLen; omega) (by omega) (by intro vs w1 hx_ hd; have e4 := hd 4 (by kernel_rfl); have e8 := hd 8 (by kernel_rfl); simp (decide := true) only [factAt, if_true, if_false] at e4 e8; obtain ⟨g4, e4, _⟩ := e4; exact ⟨g4, ⟨ba, oa, none⟩, c, e4, e8, HNA.out _ (hxa.trans hx_)⟩) ?_
  refine mo_of (fun us => .agg #[us 1, us 3, us 9]) (by rfl) (by rfl) (by intro us vs w1 hu hx_ hd; have q0 := (hx_.cell hbla).trans p0; have q1 := (hx_.cell hbla).trans p1; have q2 := (hx_.cell hbla).trans p2; have e1 := hd 1 (by kernel_rfl); have e3 := hd 3 (by kernel_rfl); have e9 := hd 9 (by kernel_rfl); simp (decide := true) only [factAt, if_true, if_false] at e1 e3 e9; rw [hu 1 (by kernel_rfl)]; rw [hu 3 (by kernel_rfl)]; rw [hu 9 (by kernel_rfl)]; obtain ⟨g9, c9, cs9, e9, _⟩ := e9; rw [e1, e3, e9]; go_simp; first | done | rfl) ?_
  refine mo_make (fun a => .pointer (some a)) (.cells #[.int .i64 0, .int .i64 0, .slice none 0 0] 27) (by rfl) (by rfl) (by intro vs w1 hx_ hd; have q0 := (hx_.cell hbla).trans p0; have q1 := (hx_.cell hbla).trans p1; have q2 := (hx_.cell hbla).trans p2; go_simp; first | done | rfl) ?_
  refine mo_end ?_
  intro vs w2 hx2 hd
  have e1 := hd 1 (by kernel_rfl)
  have e3 := hd 3 (by kernel_rfl)
  have e9 := hd 9 (by kernel_rfl)
  have e11 := hd 11 (by kernel_rfl)
  obtain ⟨us, hu, e10⟩ := seen_got (hd 10 (by kernel_rfl))
  simp (decide := true) only [factAt, if_true, if_false] at e1 e3 e9 e10 e11
  rw [hu 1 (by kernel_rfl), hu 3 (by kernel_rfl), hu 9 (by kernel_rfl)] at e10
  obtain ⟨gA, capA, csA, e9, hgA, hgA2, hnA, hhA, hsA, hrA, hoA⟩ := e9.owl hrlA HLA.out (fun j hj => (HRA.out j hj).2)
  rw [e1, e3, e9] at e10
  obtain ⟨gP, e11, hgP, hbP⟩ := e11
  generalize vs 10 = v10 at e10 ⊢
  generalize vs 11 = v11 at e11 ⊢
  subst e10
  subst e11
  clear hd hu e1 e3 e9 hrA hhA
  have hneP := own_ne hoA (by omega) hbP
  obtain ⟨Wb, hWb, hxb, hbPb, hoAb, hsb⟩ := fill_box hx2 hgP hbP hoA hneP (.int .i64 S.x) (.int .i64 S.z) (.slice (some ⟨gA, 0, none⟩) a capA)
  obtain ⟨c0, c1, c2, x0, x1, x2⟩ := three_c hbP
  go_wp2_with (fail)
  (try rw [hWb])
  clear hWb c0 c1 c2 x0 x1 x2 hbP hx2 hoA
  have hbxb := hbxa.ext hxb
  have hz1b := hxb.blk hz1a
  have hz2b := hxb.blk hz2a
  have hszb := hxb.size
  clear p0 p1 p2 hbxa hz1a hz2a
  obtain ⟨p0, p1, p2, hblb⟩ := id hbxb
  have hd1 : 0 < d := by omega
  have hca : ¬ c = a := by omega
  refine wp_region_any (by kernel_rfl) ?_
  refine wpAny_mo_go (md := .any) (R := Ext) (w := Wb) [(0, 40), (1, 41), (2, 42), (3, 43), (4, 44), (5, 45), (6, 46), (7, 47), (8, 48), (9, 49), (10, 50), (11, 51), (12, 52), (13, 8)] [14] (tl := [_]) (S := ?S2_) (by kernel_rfl) (by rfl) (by rfl) Ext.refl ext_tr (ext_drew1 _) ?hS2_ ?go2_
  case hS2_ => intro vs; simp only [putAll, Act.put, List.setIfInBounds_toArray, List.set_cons_zero, List.set_cons_succ]; rfl
  case go2_ =>
  refine mo_fix _ (by rfl) (by rfl) (by intro vs w1 hx_ hd; have q0 := (hx_.cell hblb).trans p0; have q1 := (hx_.cell hblb).trans p1; have q2 := (hx_.cell hblb).trans p2; go_simp; first | done | rfl) ?_
  refine mo_fix _ (by rfl) (by rfl) (by intro vs w1 hx_ hd; have q0 := (hx_.cell hblb).trans p0; have q1 := (hx_.cell hblb).trans p1; have q2 := (hx_.cell hblb).trans p2; have e0 := hd 0 (by kernel_rfl); simp (decide := true) only [factAt, if_true, if_false] at e0; simp only [e0]; go_simp; first | done | rfl) ?_
  refine mo_fix _ (by rfl) (by rfl) (by intro vs w1 hx_ hd; have q0 := (hx_.cell hblb).trans p0; have q1 := (hx_.cell hblb).trans p1; have q2 := (hx_.cell hblb).trans p2; go_simp; first | done | rfl) ?_
  refine mo_fix _ (by rfl) (by rfl) (by intro vs w1 hx_ hd; have q0 := (hx_.cell hblb).trans p0; have q1 := (hx_.cell hblb).trans p1; have q2 := (hx_.cell hblb).trans p2; have e2 := hd 2 (by kernel_rfl); simp (decide := true) only [factAt, if_true, if_false] at e2; simp only [e2]; go_simp; first | done | rfl) ?_
  refine mo_fix _ (by rfl) (by rfl) (by intro vs w1 hx_ hd; have q0 := (hx_.cell hblb).trans p0; have q1 := (hx_.cell hblb).trans p1; have q2 := (hx_.cell hblb).trans p2; go_simp; first | done | rfl) ?_
  refine mo_fix _ (by rfl) (by rfl) (by intro vs w1 hx_ hd; have q0 := (hx_.cell hblb).trans p0; have q1 := (hx_.cell hblb).trans p1; have q2 := (hx_.cell hblb).trans p2; have e3 := hd 3 (by kernel_rfl); have e4 := hd 4 (by kernel_rfl); simp (decide := true) only [factAt, if_true, if_false] at e3 e4; simp only [e3, e4]; go_simp; first | done | rfl) ?_
  refine mo_make (fun a => .slice (some a) 0 0) (.cells #[] 83) (by rfl) (by rfl) (by intro vs w1 hx_ hd; have q0 := (hx_.cell hblb).trans p0; have q1 := (hx_.cell hblb).trans p1; have q2 := (hx_.cell hblb).trans p2; go_simp; first | done | rfl) ?_
  refine mo_fix _ (by rfl) (by rfl) (by intro vs w1 hx_ hd; have q0 := (hx_.cell hblb).trans p0; have q1 := (hx_.cell hblb).trans p1; have q2 := (hx_.cell hblb).trans p2; go_simp; first | done | rfl) ?_
  refine mo_fix _ (by rfl) (by rfl) (by intro vs w1 hx_ hd; have q0 := (hx_.cell hblb).trans p0; have q1 := (hx_.cell hblb).trans p1; have q2 := (hx_.cell hblb).trans p2; have e7 := hd 7 (by kernel_rfl); simp (decide := true) only [factAt, if_true, if_false] at e7; simp only [e7]; go_simp; first | done | rfl) ?_
  refine mo_fix _ (by rfl) (by rfl) (by intro vs w1 hx_ hd; have q0 := (hx_.cell hblb).trans p0; have q1 := (hx_.cell hblb).trans p1; have q2 := (hx_.cell hblb).trans p2; go_simp; first | done | rfl) ?_
  refine mo_fix _ (by rfl) (by rfl) (by intro vs w1 hx_ hd; have q0 := (hx_.cell hblb).trans p0; have q1 := (hx_.cell hblb).trans p1; have q2 := (hx_.cell hblb).trans p2; have e8 := hd 8 (by kernel_rfl); have e9 := hd 9 (by kernel_rfl); simp (decide := true) only [factAt, if_true, if_false] at e8 e9; simp only [e8, e9]; go_simp; first | done | rfl) ?_
  refine mo_append 83 (fvals rsB) (.tmp 46) (.tmp 50) 22 (by rfl) (by rfl) (by rfl) i0 (.float .f32 0) 4 Try.underlying22 hi0 hz00 hz01 hz02 rfl d hd1 (by simp [fvals, hrlB]) (by unfold maxLen; omega) (by omega) (by intro vs w1 hx_ hd; have e4 := hd 6 (by kernel_rfl); have e8 := hd 10 (by kernel_rfl); simp (decide := true) only [factAt, if_true, if_false] at e4 e8; obtain ⟨g4, e4, _⟩ := e4; exact ⟨g4, ⟨ba, oa + a, none⟩, c - a, e4, e8, HNB.out _ ((hxa.trans hxb).trans hx_)⟩) ?_
  refine mo_of (fun us => .agg #[us 1, us 5, us 11]) (by rfl) (by rfl) (by intro us vs w1 hu hx_ hd; have q0 := (hx_.cell hblb).trans p0; have q1 := (hx_.cell hblb).trans p1; have q2 := (hx_.cell hblb).trans p2; have e1 := hd 1 (by kernel_rfl); have e5 := hd 5 (by kernel_rfl); have e11 := hd 11 (by kernel_rfl); simp (decide := true) only [factAt, if_true, if_false] at e1 e5 e11; rw [hu 1 (by kernel_rfl)]; rw [hu 5 (by kernel_rfl)]; rw [hu 11 (by kernel_rfl)]; obtain ⟨g9, c9, cs9, e11, _⟩ := e11; rw [e1, e5, e11]; go_simp; first | done | rfl) ?_
  refine mo_make (fun a => .pointer (some a)) (.cells #[.int .i64 0, .int .i64 0, .slice none 0 0] 27) (by rfl) (by rfl) (by intro vs w1 hx_ hd; have q0 := (hx_.cell hblb).trans p0; have q1 := (hx_.cell hblb).trans p1; have q2 := (hx_.cell hblb).trans p2; go_simp; first | done | rfl) ?_
  refine mo_end ?_
  intro vs w3 hx3 hd
  have e1 := hd 1 (by kernel_rfl)
  have e5 := hd 5 (by kernel_rfl)
  have e11 := hd 11 (by kernel_rfl)
  have e13 := hd 13 (by kernel_rfl)
  obtain ⟨us, hu, e12⟩ := seen_got (hd 12 (by kernel_rfl))
  simp (decide := true) only [factAt, if_true, if_false] at e1 e5 e11 e12 e13
  rw [hu 1 (by kernel_rfl), hu 5 (by kernel_rfl), hu 11 (by kernel_rfl)] at e12
  obtain ⟨gB, capB, csB, e11, hgB, hgB2, hnB, hhB, hsB, hrB, hoB⟩ := e11.owl hrlB HLB.out (fun j hj => (HRB.out j hj).2)
  rw [e1, e5, e11] at e12
  obtain ⟨gQ, e13, hgQ, hbQ⟩ := e13
  generalize vs 12 = v12 at e12 ⊢
  generalize vs 13 = v13 at e13 ⊢
  subst e12
  subst e13
  clear hd hu e1 e5 e11 hrB hhB
  have hneQ := own_ne hoB (by omega) hbQ
  obtain ⟨Wc, hWc, hxc, hbQc, hoBc, hsc⟩ := fill_box hx3 hgQ hbQ hoB hneQ (.int .i64 S.x) (.int .i64 (S.z + (a : Int))) (.slice (some ⟨gB, 0, none⟩) d capB)
  obtain ⟨c0, c1, c2, x0, x1, x2⟩ := three_c hbQ
  go_wp2_with (fail)
  (try rw [hWc])
  clear hWc c0 c1 c2 x0 x1 x2 hbQ hx3 hoB
  have hz1c := hxc.blk hz1b
  have hz2c := hxc.blk hz2b
  have hbPc := hxc.blk hbPb
  have hoAc := hoAb.ext (by omega) hxc
  have hszc := hxc.size
  have hxw : Ext w Wc := (hxa.trans hxb).trans hxc
  clear p0 p1 p2 hz1b hz2b hbPb hoAb hbxb
  obtain ⟨c0, c1, c2, x0, x1, x2⟩ := three_c hz1c
  obtain ⟨d0, d1, d2, y0, y1, y2⟩ := three_c hz2c
  obtain ⟨f0, f1, f2, _, _, _⟩ := three_c hbPc
  obtain ⟨g0, g1, g2, _, _, _⟩ := three_c hbQc
  have HB2 := Lib.hid (two_boxes hz1c hz2c (by omega) (.int .i64 S.x) (.int .i64 S.z) (.slice (some ⟨gA, 0, none⟩) a capA) (.int .i64 S.x) (.int .i64 (S.z + (a : Int))) (.slice (some ⟨gB, 0, none⟩) d capB))
  have HE6 := Lib.hid (ext6 (g1 := w.heap.size + 1) (g2 := w.heap.size + 1 + 1) hxw (by omega) (by omega) (.int .i64 S.x) (.int .i64 S.z) (.slice (some ⟨gA, 0, none⟩) a capA) (.int .i64 S.x) (.int .i64 (S.z + (a : Int))) (.slice (some ⟨gB, 0, none⟩) d capB))
  have HOA := Lib.hid (own6 (g1 := w.heap.size + 1) (g2 := w.heap.size + 1 + 1) hoAc (by omega) (by omega) (.int .i64 S.x) (.int .i64 S.z) (.slice (some ⟨gA, 0, none⟩) a capA) (.int .i64 S.x) (.int .i64 (S.z + (a : Int))) (.slice (some ⟨gB, 0, none⟩) d capB))
  have HOB := Lib.hid (own6 (g1 := w.heap.size + 1) (g2 := w.heap.size + 1 + 1) hoBc (by omega) (by omega) (.int .i64 S.x) (.int .i64 S.z) (.slice (some ⟨gA, 0, none⟩) a capA) (.int .i64 S.x) (.int .i64 (S.z + (a : Int))) (.slice (some ⟨gB, 0, none⟩) d capB))
  go_region_with (fail)
  all_goals
    go_wp2_with (fail)
    (try simp only [Exit.inBlock, Exit.then])
    (try simp only [List.getElem_toArray, List.getElem_cons_succ, List.getElem_cons_zero])
    (try simp only [Act.put, List.setIfInBounds_toArray, List.set_cons_zero, List.set_cons_succ])
    refine bodyPost_ret (results_cell3 rfl _ _ (w.heap.size + 1) (w.heap.size + 1 + 1) 27 27 #[.int .i64 S.x, .int .i64 S.z, .slice (some ⟨gA, 0, none⟩) a capA] #[.int .i64 S.x, .int .i64 (S.z + (a : Int)), .slice (some ⟨gB, 0, none⟩) d capB] (0, 0) (0, 0) _ _ rfl rfl (by exact drew_heap HB2.out.1) (by exact drew_heap HB2.out.2) Try.underlying27 rfl (by kernel_rfl) Try.underlying27 rfl (by kernel_rfl)) rfl ?_
    refine ⟨_, _, gA + 1, rfl, ?_, ?_, by omega, by simp; omega, Ext.drew HE6.out⟩
    · rw [show outT true (cutA S (a : Int)) = ⟨S.x, S.z, subL S.v 0 a⟩ from HCA.out]
      exact OwT.of ((OwL.drew HOA.out).more (by omega) (Nat.le_refl _)) hnA
    · rw [show outT true (cutB S (a : Int)) = ⟨S.x, S.z + (a : Int), subL S.v a d⟩ from HCB.out]
      exact OwT.of ((OwL.drew HOB.out).more (by omega) (by simp; omega)) hnB
end Go.Proofs.Ytfmhdnhaaohdjaa
