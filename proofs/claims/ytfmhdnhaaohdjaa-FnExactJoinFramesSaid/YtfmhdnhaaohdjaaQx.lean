/- Contracts: frames counted, copied, compared, marked, held; a frame among a law's arguments. No condition but sizes. -/
import Derived.Test.YtfmhdnhaaohdjaaXa
import Derived.Test.YtfmhdnhaaohdjaaYb
import Derived.Test.YtfmhdnhaaohdjaaYo
import Derived.Deep.RegionHeld3
namespace Go.Proofs.Ytfmhdnhaaohdjaa
open Go.RowKit Go.ChangeShapes Go.WideShapes Go.Deep Ieee
set_option linter.unusedVariables false
set_option linter.unusedSimpArgs false

set_option maxRecDepth 20000 in
set_option maxHeartbeats 1000000 in
theorem c_szFrame {w : World} {B : Nat} {u : Value} {S : Sct} (h : RdT w B u S) (h1 : S.v.length ≤ maxLen) {l : Nat} (hl : l ≤ 1048576) :
    Calls Try.prog 15 #[u, .int .i64 (l : Int)] w fun e w' => e = .returned (.int .i64 (if S.v.length ≤ l then ((l - S.v.length : Nat) : Int) else -1)) ∧ Ext w w' := by
  obtain ⟨A, c, rfl, hp, _⟩ := h.ex
  unfold maxLen at h1
  have hbox : SbAt (w.alloc (.cells #[.int .i64 S.x, .int .i64 S.z, .slice A S.v.length c] 24)) w.heap.size S.x S.z A S.v.length c := SbAt.blk (T := 24) (by repeat (first | (refine al_at ?_ ?_ <;> first | rfl | (simp only [al_size] <;> omega)) | apply al_old))
  obtain ⟨p0, p1, p2, _⟩ := hbox
  have hs1 := fun W => c_szFloat32S (w := W) (n := S.v.length) (c := c) (A := A) (left := (l : Int)) (by omega) (by omega) (by omega)
  by_cases q1 : S.v.length ≤ l
  case neg =>
    rw [if_neg (by omega)] at hs1 ⊢
    have HS1 := Lib.hid hs1
    clear hs1
    go_enter Try.func15, Try.ntmps15
    go_wp2_with (go_at_call 61; refine Calls.mono (HS1.out _) ?_; rintro e w2 ⟨rfl, rfl⟩)
    go_ret
    exact ⟨rfl, (by repeat (first | assumption | exact Ext.refl _ | apply Ext.drewN | apply Ext.drew | apply Ext.alloc | (refine Ext.trans ?_ (by assumption)) | (refine Ext.set ?_ (by dsimp only; omega) _)))⟩
  rw [if_pos (by omega)] at hs1
  rw [if_pos q1]
  rw [show (l : Int) - (S.v.length : Int) = ((l - S.v.length : Nat) : Int) by omega] at hs1
  have HS1 := Lib.hid hs1
  clear hs1
  generalize l - S.v.length = m1 at *
  go_enter Try.func15, Try.ntmps15
  go_wp2_with (go_at_call 61; refine Calls.mono (HS1.out _) ?_; rintro e w2 ⟨rfl, rfl⟩)
  go_ret
  exact ⟨rfl, (by repeat (first | assumption | exact Ext.refl _ | apply Ext.drewN | apply Ext.drew | apply Ext.alloc | (refine Ext.trans ?_ (by assumption)) | (refine Ext.set ?_ (by dsimp only; omega) _)))⟩
set_option linter.unusedSimpArgs false in
set_option maxRecDepth 20000 in
set_option maxHeartbeats 4000000 in
theorem c_toFrame {w : World} {B : Nat} {u : Value} {S : Sct} (h : RdT w B u S) (hB : B ≤ w.heap.size) (h1 : S.v.length ≤ 1048576) :
    Calls Try.prog 17 #[u] w fun e w' => ∃ u', e = .returned u' ∧ OwT w' w.heap.size w'.heap.size u' S ∧ Ext w w' := by
  obtain ⟨A, c, rfl, hp, _⟩ := h.ex
  have e1 := fun (W : World) (hx : Ext w W) => c_toFl (w := W) (c := c) (hp.below (hx.mono hB)) (Nat.le_trans hB hx.size) h1
  have E1 := Lib.hid e1
  clear e1
  go_enter Try.func17, Try.ntmps17
  go_wp2_with (go_at_call 63; refine Calls.mono (E1.out _ (by repeat (first | assumption | exact Ext.refl _ | apply Ext.drewN | apply Ext.drew | apply Ext.alloc | (refine Ext.trans ?_ (by assumption)) | (refine Ext.set ?_ (by dsimp only; omega) _)))) ?_; rintro e w2 ⟨rfl, ho2, hx2, hs2⟩; have bB := hx2.blk (g := w.heap.size + 1) (o := .cells #[.int .i64 0, .int .i64 0, .slice none 0 0] 27 (0, 0)) (by repeat (first | (refine al_at ?_ ?_ <;> first | rfl | (simp only [al_size] <;> omega)) | apply al_old)); have bC := hx2.blk (g := w.heap.size + 1 + 1) (o := .cells #[.int .i64 S.x, .int .i64 S.z, .slice none 0 0] 27 (0, 0)) (by repeat (first | (refine al_at ?_ ?_ <;> first | rfl | (simp only [al_size] <;> omega)) | apply al_old)); have BB := Lib.hid bB; have BC := Lib.hid bC; clear bB bC; obtain ⟨c0, c1, c2, x0, x1, x2⟩ := three_c BB.out; obtain ⟨d0, d1, d2, y0, y1, y2⟩ := three_c BC.out)
  have hx2' : Ext w w2 := Ext.trans (by repeat (first | assumption | exact Ext.refl _ | apply Ext.drewN | apply Ext.drew | apply Ext.alloc | (refine Ext.trans ?_ (by assumption)) | (refine Ext.set ?_ (by dsimp only; omega) _))) hx2
  have ho2' : OwL w2 (w.heap.size + 1 + 1 + 1) (w.heap.size + 1 + 1 + 1 + 1) (some ⟨w.heap.size + 1 + 1 + 1, 0, none⟩) S.v.length S.v := by simpa using ho2
  have hs2' : w.heap.size + 1 + 1 + 1 < w2.heap.size := by simpa using hs2
  have hG3 : OwT w2 (w.heap.size + 1 + 1 + 1) (w.heap.size + 1 + 1 + 1 + 1) (.agg #[.int .i64 S.x, .int .i64 S.z, .slice (some ⟨w.heap.size + 1 + 1 + 1, 0, none⟩) S.v.length S.v.length]) S := ⟨_, _, rfl, ho2', Nat.le_refl _⟩
  exact bodyPost_ret (v := .agg #[.int .i64 S.x, .int .i64 S.z, .slice (some ⟨w.heap.size + 1 + 1 + 1, 0, none⟩) S.v.length S.v.length]) (by simp [results, Try.results17, go_sem, c0, c1, c2, x0, x1, x2, d0, d1, d2, y0, y1, y2]) rfl
    ⟨_, rfl, by
      refine OwT.more (lo := w.heap.size + 1 + 1 + 1) (hi := w.heap.size + 1 + 1 + 1 + 1) ?_ (by omega) (by simp; omega)
      repeat (first | exact hG3 | (refine OwT.setOther ?_ (by left; dsimp only; omega) _)), (by repeat (first | assumption | exact Ext.refl _ | apply Ext.drewN | apply Ext.drew | apply Ext.alloc | (refine Ext.trans ?_ (by assumption)) | (refine Ext.set ?_ (by dsimp only; omega) _)))⟩
set_option linter.unusedSimpArgs false in
set_option maxRecDepth 20000 in
set_option maxHeartbeats 4000000 in
theorem c_toFrame2 {w : World} {B : Nat} {u : Value} {S : Sct} (h : RdT w B u S) (hB : B ≤ w.heap.size) (h1 : S.v.length ≤ 1048576) :
    Calls Try.prog 17 #[u] w fun e w' => ∃ u', e = .returned u' ∧ OwT w' w.heap.size w'.heap.size u' S ∧ Ext w w' ∧ w.heap.size < w'.heap.size := by
  obtain ⟨A, c, rfl, hp, _⟩ := h.ex
  have e1 := fun (W : World) (hx : Ext w W) => c_toFl (w := W) (c := c) (hp.below (hx.mono hB)) (Nat.le_trans hB hx.size) h1
  have E1 := Lib.hid e1
  clear e1
  go_enter Try.func17, Try.ntmps17
  go_wp2_with (go_at_call 63; refine Calls.mono (E1.out _ (by repeat (first | assumption | exact Ext.refl _ | apply Ext.drewN | apply Ext.drew | apply Ext.alloc | (refine Ext.trans ?_ (by assumption)) | (refine Ext.set ?_ (by dsimp only; omega) _)))) ?_; rintro e w2 ⟨rfl, ho2, hx2, hs2⟩; have bB := hx2.blk (g := w.heap.size + 1) (o := .cells #[.int .i64 0, .int .i64 0, .slice none 0 0] 27 (0, 0)) (by repeat (first | (refine al_at ?_ ?_ <;> first | rfl | (simp only [al_size] <;> omega)) | apply al_old)); have bC := hx2.blk (g := w.heap.size + 1 + 1) (o := .cells #[.int .i64 S.x, .int .i64 S.z, .slice none 0 0] 27 (0, 0)) (by repeat (first | (refine al_at ?_ ?_ <;> first | rfl | (simp only [al_size] <;> omega)) | apply al_old)); have BB := Lib.hid bB; have BC := Lib.hid bC; clear bB bC; obtain ⟨c0, c1, c2, x0, x1, x2⟩ := three_c BB.out; obtain ⟨d0, d1, d2, y0, y1, y2⟩ := three_c BC.out)
  have hx2' : Ext w w2 := Ext.trans (by repeat (first | assumption | exact Ext.refl _ | apply Ext.drewN | apply Ext.drew | apply Ext.alloc | (refine Ext.trans ?_ (by assumption)) | (refine Ext.set ?_ (by dsimp only; omega) _))) hx2
  have ho2' : OwL w2 (w.heap.size + 1 + 1 + 1) (w.heap.size + 1 + 1 + 1 + 1) (some ⟨w.heap.size + 1 + 1 + 1, 0, none⟩) S.v.length S.v := by simpa using ho2
  have hs2' : w.heap.size + 1 + 1 + 1 < w2.heap.size := by simpa using hs2
  have hG3 : OwT w2 (w.heap.size + 1 + 1 + 1) (w.heap.size + 1 + 1 + 1 + 1) (.agg #[.int .i64 S.x, .int .i64 S.z, .slice (some ⟨w.heap.size + 1 + 1 + 1, 0, none⟩) S.v.length S.v.length]) S := ⟨_, _, rfl, ho2', Nat.le_refl _⟩
  exact bodyPost_ret (v := .agg #[.int .i64 S.x, .int .i64 S.z, .slice (some ⟨w.heap.size + 1 + 1 + 1, 0, none⟩) S.v.length S.v.length]) (by simp [results, Try.results17, go_sem, c0, c1, c2, x0, x1, x2, d0, d1, d2, y0, y1, y2]) rfl
    ⟨_, rfl, by
      refine OwT.more (lo := w.heap.size + 1 + 1 + 1) (hi := w.heap.size + 1 + 1 + 1 + 1) ?_ (by omega) (by simp; omega)
      repeat (first | exact hG3 | (refine OwT.setOther ?_ (by left; dsimp only; omega) _)), (by repeat (first | assumption | exact Ext.refl _ | apply Ext.drewN | apply Ext.drew | apply Ext.alloc | (refine Ext.trans ?_ (by assumption)) | (refine Ext.set ?_ (by dsimp only; omega) _))), by simp; omega⟩
set_option maxRecDepth 20000 in
set_option maxHeartbeats 4000000 in
theorem c_eqFrame {w : World} {B B' : Nat} {u u' : Value} {S : Sct} (h : RdT w B u S) (h' : RdT w B' u' S) (hB : B ≤ w.heap.size) (hB' : B' ≤ w.heap.size) (h1 : S.v.length ≤ 1048576) :
    Calls Try.prog 19 #[u, u'] w fun e w' => e = .returned (.bool true) ∧ Ext w w' := by
  obtain ⟨A, c, rfl, hp, _⟩ := h.ex
  obtain ⟨A', c', rfl, hp', _⟩ := h'.ex
  have e1 := fun (W : World) (hx : Ext w W) => c_eqFloat32S (w := W) (c := c) (c' := c') (hp.below (hx.mono hB)) (hp'.below (hx.mono hB')) h1
  have E1 := Lib.hid e1
  clear e1
  go_enter Try.func19, Try.ntmps19
  go_wp2_with (go_at_call 49; refine Calls.mono (E1.out _ (by repeat (first | assumption | exact Ext.refl _ | apply Ext.drewN | apply Ext.drew | apply Ext.alloc | (refine Ext.trans ?_ (by assumption)) | (refine Ext.set ?_ (by dsimp only; omega) _)))) ?_; rintro e w2 ⟨rfl, n2, rfl⟩)
  go_ret
  exact ⟨rfl, (by repeat (first | assumption | exact Ext.refl _ | apply Ext.drewN | apply Ext.drew | apply Ext.alloc | (refine Ext.trans ?_ (by assumption)) | (refine Ext.set ?_ (by dsimp only; omega) _)))⟩
set_option maxRecDepth 20000 in
set_option maxHeartbeats 4000000 in
theorem c_markFrame {w : World} {lo hi k0 : Nat} {u : Value} {S : Sct} (h : OwT w lo hi u S) (hhi : hi ≤ w.heap.size) (hlo : lo ≤ hi) (h1 : S.v.length ≤ 1048576) (hk0 : k0 ≤ 10000000) :
    Calls Try.prog 35 #[u, .int .i64 (k0 : Int)] w fun e w' => e = .returned (.int .i64 ((k0 + S.v.length : Nat) : Int)) ∧ OwT w' lo hi u (markT k0 S) ∧ Kb lo hi w w' := by
  obtain ⟨A, c, rfl, hp, hc⟩ := h.ex
  have hbox : SbAt (w.alloc (.cells #[.int .i64 S.x, .int .i64 S.z, .slice A S.v.length c] 27)) w.heap.size S.x S.z A S.v.length c := SbAt.blk (T := 27) (by repeat (first | (refine al_at ?_ ?_ <;> first | rfl | (simp only [al_size] <;> omega)) | apply al_old))
  obtain ⟨p0, p1, p2, _⟩ := hbox
  have m1 := fun (W : World) (hx : Ext w W) => c_markFloat32S (w := W) (c := c) (k0 := k0) (hp.ext hhi hx) h1 (by omega)
  obtain ⟨K1, hK1⟩ : ∃ K1, k0 + S.v.length = K1 := ⟨_, rfl⟩
  rw [hK1] at m1
  have HK1 := Lib.hid hK1
  clear hK1
  have M1 := Lib.hid m1
  have hX1 : Ext w (w.alloc (.cells #[.int .i64 S.x, .int .i64 S.z, .slice A S.v.length c] 27)) := (by repeat (first | assumption | exact Ext.refl _ | apply Ext.drewN | apply Ext.drew | apply Ext.alloc | (refine Ext.trans ?_ (by assumption)) | (refine Ext.set ?_ (by dsimp only; omega) _)))
  clear m1
  go_enter Try.func35, Try.ntmps35
  go_wp2_with (go_at_call 51; refine Calls.mono (M1.out _ (by repeat (first | assumption | exact Ext.refl _ | apply Ext.drewN | apply Ext.drew | apply Ext.alloc | (refine Ext.trans ?_ (by assumption)) | (refine Ext.set ?_ (by dsimp only; omega) _)))) ?_; rintro e w2 ⟨rfl, ho2, hk2⟩)
  go_ret
  have hkk : Kb lo hi w w2 := (Ext.kb hX1 (Nat.le_trans hlo hhi)).trans hk2
  refine ⟨by rw [HK1.out]; rfl, ⟨A, c, ?_, ?_, ?_⟩, hkk⟩
  · show _ = Value.agg #[.int .i64 S.x, .int .i64 S.z, .slice A (marks k0 S.v.length).length c]
    rw [marks_len]
  · show OwL w2 lo hi A (marks k0 S.v.length).length (marks k0 S.v.length)
    rw [marks_len]; exact ho2
  · show (marks k0 S.v.length).length ≤ c
    rw [marks_len]; exact hc
set_option maxRecDepth 20000 in
set_option maxHeartbeats 4000000 in
theorem c_heldFrame {w : World} {B k0 : Nat} {u : Value} {S : Sct} (h : RdT w B u (markT k0 S)) (hB : B ≤ w.heap.size) (h1 : S.v.length ≤ 1048576) (hk0 : k0 ≤ 10000000) :
    Calls Try.prog 36 #[u, .int .i64 (k0 : Int)] w fun e w' => e = .returned (.int .i64 ((k0 + S.v.length : Nat) : Int)) ∧ Ext w w' := by
  obtain ⟨A, c, rfl, hp, _⟩ := h.ex
  simp only [markT, marks_len] at hp ⊢
  have hbox : SbAt (w.alloc (.cells #[.int .i64 S.x, .int .i64 S.z, .slice A S.v.length c] 27)) w.heap.size S.x S.z A S.v.length c := SbAt.blk (T := 27) (by repeat (first | (refine al_at ?_ ?_ <;> first | rfl | (simp only [al_size] <;> omega)) | apply al_old))
  obtain ⟨p0, p1, p2, _⟩ := hbox
  have m1 := fun (W : World) (hx : Ext w W) => c_heldFloat32S (w := W) (c := c) (k0 := k0) (hp.below (hx.mono hB)) h1 (by omega)
  obtain ⟨K1, hK1⟩ : ∃ K1, k0 + S.v.length = K1 := ⟨_, rfl⟩
  rw [hK1] at m1
  have M1 := Lib.hid m1
  have hn1 : ¬ ((K1 : Int) < 0) := by omega
  have HK1 := Lib.hid hK1
  clear m1 hp hK1
  go_enter Try.func36, Try.ntmps36
  go_wp2_with (go_at_call 53; refine Calls.mono (M1.out _ (by repeat (first | assumption | exact Ext.refl _ | apply Ext.drewN | apply Ext.drew | apply Ext.alloc | (refine Ext.trans ?_ (by assumption)) | (refine Ext.set ?_ (by dsimp only; omega) _)))) ?_; rintro e w2 ⟨rfl, rfl⟩)
  go_ret
  exact ⟨by rw [HK1.out]; rfl, (by repeat (first | assumption | exact Ext.refl _ | apply Ext.drewN | apply Ext.drew | apply Ext.alloc | (refine Ext.trans ?_ (by assumption)) | (refine Ext.set ?_ (by dsimp only; omega) _)))⟩
set_option maxRecDepth 20000 in
/-- A FRAME AMONG THE ARGUMENTS. -/
theorem open_frame {H : Type} {enc : TypeId × Value → H} {b0 : Nat} {r : Reach} {u : Value} {d : DataW H} {ps : List MemPlace} {w : World} (hval : Value.okWide Try.prog w r b0 24 u)
    (hd : DataW.Trod enc Try.prog w 0 (fun _ => true) true 24 u d ps) (hlt : ∀ x ∈ ps, x.block < w.heap.size) :
    ∃ S : Sct, RdT w w.heap.size u S ∧ S.Ok ∧ S.v.length ≤ maxLen := by
  obtain ⟨v0, v1, v2, y0, y1, y2, n, rfl, _, rfl, g0, g1, g2⟩ := Go.Joins.open_agg3 Try.underlying24 (by kernel_rfl) (by kernel_rfl) hval hd
  obtain ⟨b0, rfl, w0⟩ := trod_int_cell Try.underlying2 g0
  obtain ⟨b1, rfl, w1⟩ := trod_int_cell Try.underlying2 g1
  obtain ⟨A1, n1, c1, L, rfl, m1, l1, h1⟩ := open_list Try.underlying22 Try.underlying83 cells_f32 g2 (fun q hq => hlt q (by simp [hq]))
  obtain rfl := h1.len
  exact ⟨⟨b0, b1, L⟩, ⟨A1, c1, rfl, h1, l1⟩, ⟨(wfi64 w0).1, (wfi64 w0).2, (wfi64 w1).1, (wfi64 w1).2⟩, m1⟩
end Go.Proofs.Ytfmhdnhaaohdjaa
