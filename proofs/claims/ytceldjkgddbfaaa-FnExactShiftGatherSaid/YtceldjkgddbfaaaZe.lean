/- Contracts: gathers without distances and with them, on both sides. Condition: the gather is read. -/
import Derived.Test.YtceldjkgddbfaaaZd
namespace Go.Proofs.Ytceldjkgddbfaaa
open Go.RowKit Ieee

theorem GbAt.kb {w w' : World} {lo hi b : Nat} {t : Int} {Ap At : Option Addr} {np cp nt ct : Nat} (h : GbAt w b t Ap np cp At nt ct) (hk : Kb lo hi w w') (hb : b < lo ∨ hi ≤ b) : GbAt w' b t Ap np cp At nt ct := by
  have hblk : w'.heap[b]? = w.heap[b]? := by
    rcases hb with h1 | h1
    · exact hk.below.block b h1
    · exact hk.above b h1 h.lt
  have hc : ∀ i, w'.cell? ⟨b, i, none⟩ = w.cell? ⟨b, i, none⟩ := fun i => World.cell?_of_block hblk
  exact ⟨(hc 0).trans h.p0, (hc 1).trans h.p1, (hc 2).trans h.p2, Nat.lt_of_lt_of_le h.lt hk.below.size⟩
/-- A gather of a call's own is returned, with its success, to the letter. -/
def RetGQ (w : World) (e : Ending) (w' : World) (ok : Bool) (Q : Gat) : Prop :=
  ∃ v, e = .returned (.tuple #[v, .bool ok]) ∧ OwG w' w.heap.size w'.heap.size v Q ∧ Ext w w'
theorem tot_lens : ∀ (R R' : List (List (Option Nat))), R.length = R'.length → (∀ j, j < R.length → (R.getD j []).length = (R'.getD j []).length) → tot R = tot R'
  | [], [], _, _ => rfl
  | [], _ :: _, h, _ => by simp at h
  | _ :: _, [], h, _ => by simp at h
  | a :: R, a' :: R', h, hj => by
    have h0 := hj 0 (by simp)
    have h1 := tot_lens R R' (by simpa using h) (fun j hl => by have := hj (j + 1) (by simp; omega); simpa using this)
    simp only [List.getD_cons_zero] at h0
    simp only [tot]
    omega
theorem gsz_out {ok : Bool} {G : Gat} (h : gsz G ≤ 1048576) : gsz (outG ok G) ≤ 1048576 := by
  cases ok
  · show gsz noG ≤ _
    decide
  · exact h
theorem gsz_all {q : List (Option Nat) → Option Nat → Option Nat → Nat → Option Nat} {V : Option Nat} {G : Gat} : gsz (allG q V G) = gsz G := by
  unfold gsz allG
  dsimp only
  rw [lstS_len, tot_lens (lstS (allF q V G) G.r.length) G.r (lstS_len _ _) (fun j hj => by rw [lstS_len] at hj; rw [lstS_at hj]; unfold allF; rw [lst_len])]
set_option linter.unusedSimpArgs false in
set_option maxRecDepth 20000 in
set_option maxHeartbeats 8000000 in
theorem c_impl_CorrectGather {w : World} {B : Nat} {v : Value} {G : Gat} (h : RdG w B v G) (hB : B ≤ w.heap.size) (h1 : G.p.length ≤ 1048576) (h2 : G.r.length ≤ 1048576) (h3 : ∀ j, j < G.r.length → (G.r.getD j []).length ≤ 1048576) {s : Nat} {S : Option Nat} (fs : Fl .f32 s S) :
    Calls Try.prog 28 #[v, .float .f32 s] w fun e w' => RetG w e w' (fvG G && fabove S) (allG fcorr S G) := by
  obtain ⟨Ap, cp, At, ct, rfl, hp, hr, hcp, hct⟩ := h.ex
  obtain ⟨W1, hW1⟩ : ∃ W1, W1 = (w.alloc (.cells #[.int .i64 G.t, .slice Ap G.p.length cp, .slice At G.r.length ct] 25)).alloc (.cells #[.int .i64 0, .slice none 0 0, .slice none 0 0] 25) := ⟨_, rfl⟩
  have hbx : GbAt W1 w.heap.size G.t Ap G.p.length cp At G.r.length ct := by rw [hW1]; exact (GbAt.blk (T := 25) (by repeat (first | (refine al_at ?_ ?_ <;> first | rfl | (simp only [al_size] <;> omega)) | apply al_old))).ext (Ext.alloc (Ext.refl _) _)
  have hx1 : Ext w W1 := by rw [hW1]; exact (by repeat (first | assumption | exact Ext.refl _ | apply Ext.drewN | apply Ext.drew | apply Ext.alloc | (refine Ext.trans ?_ (by assumption)) | (refine Ext.set ?_ (by dsimp only; omega) _)))
  have hz1 : W1.heap[w.heap.size + 1]? = some (.cells #[.int .i64 0, .slice none 0 0, .slice none 0 0] 25 (0, 0)) := by rw [hW1]; exact al_at (al_size _ _).symm rfl
  have hs1 : W1.heap.size = w.heap.size + 1 + 1 := by rw [hW1, al_size, al_size]
  have HRE := Lib.hid (c_retimeG_curve (w := W1) (h.below (hx1.mono hB)) (Nat.le_trans hB hx1.size) h1 h2 h3 fs)
  obtain ⟨p0, p1, p2, _⟩ := id hbx
  obtain ⟨ok, hok⟩ : ∃ ok, (fvG G && fabove S) = ok := ⟨_, rfl⟩
  rw [hok] at HRE ⊢
  clear hok
  go_enter Try.func28, Try.ntmps28
  go_wp2_with (fail)
  rw [← hW1]
  clear hW1
  go_wp2_with (go_at_call 75; refine Calls.mono HRE.out ?_; rintro e w2 ⟨x, rfl, ho, hx2⟩; obtain ⟨Ap2, cp2, At2, ct2, hv⟩ := ho.val; have hz2 := hx2.blk hz1; obtain ⟨c0, c1, c2, x0, x1, x2⟩ := three_c hz2; subst hv; have HO := Lib.hid ho; clear ho)
  (try simp only [Exit.inBlock, Exit.then])
  have HBZ := Lib.hid (fun u0 u1 u2 => blk_set1 (blk_set1 (blk_set1 hz2 0 u0) 1 u1) 2 u2)
  have hs2 := hx2.size
  refine bodyPost_ret (results_cell2 rfl _ _ (w.heap.size + 1) 25 #[.int .i64 (outG ok (allG fcorr S G)).t, .slice Ap2 (outG ok (allG fcorr S G)).p.length cp2, .slice At2 (outG ok (allG fcorr S G)).r.length ct2] (0, 0) _ rfl (HBZ.out _ _ _) Try.underlying25 rfl (by kernel_rfl)) rfl ?_
  exact ⟨_, rfl, by
    refine OwG.more (lo := w.heap.size + 1 + 1) (hi := w2.heap.size) ?_ (by omega) (by simp)
    repeat (first | exact HO.out.more (by omega) (Nat.le_refl _) | (refine OwG.setOther ?_ (by left; dsimp only; omega) _)), (by repeat (first | assumption | exact Ext.refl _ | apply Ext.drewN | apply Ext.drew | apply Ext.alloc | (refine Ext.trans ?_ (by assumption)) | (refine Ext.set ?_ (by dsimp only; omega) _)))⟩
set_option linter.unusedSimpArgs false in
set_option maxRecDepth 20000 in
set_option maxHeartbeats 8000000 in
theorem c_impl_BendGather {w : World} {B : Nat} {v : Value} {G : Gat} (h : RdG w B v G) (hB : B ≤ w.heap.size) (h1 : G.p.length ≤ 1048576) (h2 : G.r.length ≤ 1048576) (h3 : ∀ j, j < G.r.length → (G.r.getD j []).length ≤ 1048576) {s : Nat} {S : Option Nat} (fs : Fl .f32 s S) :
    Calls Try.prog 30 #[v, .float .f32 s] w fun e w' => RetG w e w' (fvG G && fabove S) (allG fbend S G) := by
  obtain ⟨Ap, cp, At, ct, rfl, hp, hr, hcp, hct⟩ := h.ex
  obtain ⟨W1, hW1⟩ : ∃ W1, W1 = (w.alloc (.cells #[.int .i64 G.t, .slice Ap G.p.length cp, .slice At G.r.length ct] 25)).alloc (.cells #[.int .i64 0, .slice none 0 0, .slice none 0 0] 25) := ⟨_, rfl⟩
  have hbx : GbAt W1 w.heap.size G.t Ap G.p.length cp At G.r.length ct := by rw [hW1]; exact (GbAt.blk (T := 25) (by repeat (first | (refine al_at ?_ ?_ <;> first | rfl | (simp only [al_size] <;> omega)) | apply al_old))).ext (Ext.alloc (Ext.refl _) _)
  have hx1 : Ext w W1 := by rw [hW1]; exact (by repeat (first | assumption | exact Ext.refl _ | apply Ext.drewN | apply Ext.drew | apply Ext.alloc | (refine Ext.trans ?_ (by assumption)) | (refine Ext.set ?_ (by dsimp only; omega) _)))
  have hz1 : W1.heap[w.heap.size + 1]? = some (.cells #[.int .i64 0, .slice none 0 0, .slice none 0 0] 25 (0, 0)) := by rw [hW1]; exact al_at (al_size _ _).symm rfl
  have hs1 : W1.heap.size = w.heap.size + 1 + 1 := by rw [hW1, al_size, al_size]
  have HRE := Lib.hid (c_retimeG_straight (w := W1) (h.below (hx1.mono hB)) (Nat.le_trans hB hx1.size) h1 h2 h3 fs)
  obtain ⟨p0, p1, p2, _⟩ := id hbx
  obtain ⟨ok, hok⟩ : ∃ ok, (fvG G && fabove S) = ok := ⟨_, rfl⟩
  rw [hok] at HRE ⊢
  clear hok
  go_enter Try.func30, Try.ntmps30
  go_wp2_with (fail)
  rw [← hW1]
  clear hW1
  go_wp2_with (go_at_call 75; refine Calls.mono HRE.out ?_; rintro e w2 ⟨x, rfl, ho, hx2⟩; obtain ⟨Ap2, cp2, At2, ct2, hv⟩ := ho.val; have hz2 := hx2.blk hz1; obtain ⟨c0, c1, c2, x0, x1, x2⟩ := three_c hz2; subst hv; have HO := Lib.hid ho; clear ho)
  (try simp only [Exit.inBlock, Exit.then])
  have HBZ := Lib.hid (fun u0 u1 u2 => blk_set1 (blk_set1 (blk_set1 hz2 0 u0) 1 u1) 2 u2)
  have hs2 := hx2.size
  refine bodyPost_ret (results_cell2 rfl _ _ (w.heap.size + 1) 25 #[.int .i64 (outG ok (allG fbend S G)).t, .slice Ap2 (outG ok (allG fbend S G)).p.length cp2, .slice At2 (outG ok (allG fbend S G)).r.length ct2] (0, 0) _ rfl (HBZ.out _ _ _) Try.underlying25 rfl (by kernel_rfl)) rfl ?_
  exact ⟨_, rfl, by
    refine OwG.more (lo := w.heap.size + 1 + 1) (hi := w2.heap.size) ?_ (by omega) (by simp)
    repeat (first | exact HO.out.more (by omega) (Nat.le_refl _) | (refine OwG.setOther ?_ (by left; dsimp only; omega) _)), (by repeat (first | assumption | exact Ext.refl _ | apply Ext.drewN | apply Ext.drew | apply Ext.alloc | (refine Ext.trans ?_ (by assumption)) | (refine Ext.set ?_ (by dsimp only; omega) _)))⟩
theorem both_CorrectGather {G0 : Gat} (hs0 : gsz G0 ≤ 1048576) {p1 : Nat} {P1 : Option Nat} (fp1 : Fl .f32 p1 P1) :
    ∃ ok Q, gsz Q ≤ 1048576 ∧ (∀ (W : World), ∀ (B0 : Nat) (v0 : Value), RdG W B0 v0 G0 → B0 ≤ W.heap.size → Calls Try.prog 27 #[v0, .float .f32 p1] W fun e w' => RetGQ W e w' ok Q) ∧
      (∀ (W : World), ∀ (B0 : Nat) (v0 : Value), RdG W B0 v0 G0 → B0 ≤ W.heap.size → Calls Try.prog 28 #[v0, .float .f32 p1] W fun e w' => RetGQ W e w' ok Q) := by
  obtain ⟨s1_0, s2_0, s3_0⟩ : G0.p.length ≤ 1048576 ∧ G0.r.length ≤ 1048576 ∧ tot G0.r ≤ 1048576 := by have h9 := hs0; unfold gsz at h9; omega
  have s4_0 : ∀ j, j < G0.r.length → (G0.r.getD j []).length ≤ 1048576 := fun j hj => Nat.le_trans (tot_at hj) s3_0
  exact ⟨fvG G0 && fabove P1, outG (fvG G0 && fabove P1) (allG fcorr P1 G0), by exact gsz_out (by rw [gsz_all]; exact hs0), fun W B0 v0 h0 hB0 => c_spec_CorrectGather (w := W) h0 hB0 s1_0 s2_0 s4_0 fp1, fun W B0 v0 h0 hB0 => c_impl_CorrectGather (w := W) h0 hB0 s1_0 s2_0 s4_0 fp1⟩
theorem both_BendGather {G0 : Gat} (hs0 : gsz G0 ≤ 1048576) {p1 : Nat} {P1 : Option Nat} (fp1 : Fl .f32 p1 P1) :
    ∃ ok Q, gsz Q ≤ 1048576 ∧ (∀ (W : World), ∀ (B0 : Nat) (v0 : Value), RdG W B0 v0 G0 → B0 ≤ W.heap.size → Calls Try.prog 29 #[v0, .float .f32 p1] W fun e w' => RetGQ W e w' ok Q) ∧
      (∀ (W : World), ∀ (B0 : Nat) (v0 : Value), RdG W B0 v0 G0 → B0 ≤ W.heap.size → Calls Try.prog 30 #[v0, .float .f32 p1] W fun e w' => RetGQ W e w' ok Q) := by
  obtain ⟨s1_0, s2_0, s3_0⟩ : G0.p.length ≤ 1048576 ∧ G0.r.length ≤ 1048576 ∧ tot G0.r ≤ 1048576 := by have h9 := hs0; unfold gsz at h9; omega
  have s4_0 : ∀ j, j < G0.r.length → (G0.r.getD j []).length ≤ 1048576 := fun j hj => Nat.le_trans (tot_at hj) s3_0
  exact ⟨fvG G0 && fabove P1, outG (fvG G0 && fabove P1) (allG fbend P1 G0), by exact gsz_out (by rw [gsz_all]; exact hs0), fun W B0 v0 h0 hB0 => c_spec_BendGather (w := W) h0 hB0 s1_0 s2_0 s4_0 fp1, fun W B0 v0 h0 hB0 => c_impl_BendGather (w := W) h0 hB0 s1_0 s2_0 s4_0 fp1⟩
end Go.Proofs.Ytceldjkgddbfaaa
