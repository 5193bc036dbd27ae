/- Contracts: roots of mean squares of speeds, on both sides. Condition: the ground is read. -/
import Derived.Test.YtkoiimjpalhgbaaMe
import Derived.Deep.Cut
import Derived.Deep.CutRange
namespace Go.Proofs.Ytkoiimjpalhgbaa
open Go.RowKit Ieee

def fssq (L : List Ly) (j : Nat) : Option Nat := sums fsqthru L (j + 1)
def frms (L : List Ly) (j : Nat) : Option Nat := froot (fop .quo .f32 (fssq L j) (ftim L j))
def okR (L : List Ly) (S D : Option Nat) : Bool := fvalid L S D && (finL (lst (ftim L) L.length) && finL (lst (frms L) L.length))
theorem okR_no {L : List Ly} {S D : Option Nat} {n k : Nat} (hl : L.length = n) (hk : k < n) (h : ffin .f32 (ftim L k) = false) : okR L S D = false := by
  unfold okR
  rw [hl, finL_not hk h]; simp
theorem okR_yes {L : List Ly} {S D : Option Nat} {n : Nat} (hl : L.length = n) (hV : fvalid L S D = true) (h2 : ∀ j, j < n → ffin .f32 (ftim L j) = true) : okR L S D = finL (lst (frms L) n) := by
  unfold okR
  rw [hl, hV, finL_all h2]; rfl
/-- A row of which the first numbers are set, the others not yet. -/
theorem two_set {cs : Array Value} {off k n q : Nat} {F G : Nat → Option Nat} (hs : off + k < cs.size) (hF : ∀ j, j < k → ∃ r, cs[off + j]? = some (.float .f32 r) ∧ Fl .f32 r (F j))
    (hG : ∀ j, k ≤ j → j < n → ∃ r, cs[off + j]? = some (.float .f32 r) ∧ Fl .f32 r (G j)) (hq : Fl .f32 q (F k)) :
    (∀ j, j < k + 1 → ∃ r, (cs.setIfInBounds (off + k) (.float .f32 q))[off + j]? = some (.float .f32 r) ∧ Fl .f32 r (F j)) ∧
      (∀ j, k + 1 ≤ j → j < n → ∃ r, (cs.setIfInBounds (off + k) (.float .f32 q))[off + j]? = some (.float .f32 r) ∧ Fl .f32 r (G j)) := by
  constructor
  · intro j hj
    by_cases h : j = k
    · subst h
      exact ⟨q, by simp [hs], hq⟩
    · obtain ⟨r, h1, h2⟩ := hF j (by omega)
      exact ⟨r, by rw [Array.getElem?_setIfInBounds, if_neg (by omega)]; exact h1, h2⟩
  · intro j hj hjn
    obtain ⟨r, h1, h2⟩ := hG j (by omega) hjn
    exact ⟨r, by rw [Array.getElem?_setIfInBounds, if_neg (by omega)]; exact h1, h2⟩

set_option maxRecDepth 20000 in
set_option maxHeartbeats 4000000 in
theorem c_spec_RootSpeeds {w : World} {n c s d : Nat} {A : Option Addr} {L : List Ly} {S D : Option Nat} (h : RdL w A n L) (hn : n ≤ 1048576) (fs : Fl .f32 s S) (fd : Fl .f32 d D) :
    Calls Try.prog 39 #[.agg #[.slice A n c, .float .f32 s, .float .f32 d]] w fun e w' => RetL w e w' (okR L S D) (lst (frms L) L.length) := by
  have hbox : GpAt (w.alloc (.cells #[.slice A n c, .float .f32 s, .float .f32 d] 30)) w.heap.size A n c s d := GpAt.blk (t := 30) (by repeat (first | (refine al_at ?_ ?_ <;> first | rfl | (simp only [al_size] <;> omega)) | apply al_old))
  have hl := h.len
  obtain ⟨i0, hi, hz0, hz1, hz2⟩ := info_parts info_f32
  cases hV : fvalid L S D
  · have hend : okR L S D = false := by unfold okR; rw [hV]; rfl
    rw [hend]
    clear hend
    go_enter Try.func39, Try.ntmps39
    go_wp2_with (go_at_call 48; refine Calls.mono (c_l02Is hbox (h.ext (by repeat (first | assumption | exact Ext.refl _ | apply Ext.drewN | apply Ext.drew | apply Ext.alloc | (refine Ext.trans ?_ (by assumption)) | (refine Ext.set ?_ (by dsimp only; omega) _)))) fs fd) ?_; rw [hV]; rintro e w1 ⟨rfl, n1, rfl⟩)
    go_ret2
    exact retL_no rfl (by repeat (first | assumption | exact Ext.refl _ | apply Ext.drewN | apply Ext.drew | apply Ext.alloc | (refine Ext.trans ?_ (by assumption)) | (refine Ext.set ?_ (by dsimp only; omega) _)))
  have HL := Lib.hid hl
  have HNO : ∀ k, k < n → ffin .f32 (ftim L k) = false → okR L S D = false := fun k hk hh => okR_no hl hk hh
  have HYES := okR_yes hl hV
  rw [hl]
  have HN := Lib.hid HNO
  have HY := Lib.hid HYES
  clear HNO HYES hl
  go_enter Try.func39, Try.ntmps39
  go_wp2_with (first | (go_at_call 48; refine Calls.mono (c_l02Is hbox (h.ext (by repeat (first | assumption | exact Ext.refl _ | apply Ext.drewN | apply Ext.drew | apply Ext.alloc | (refine Ext.trans ?_ (by assumption)) | (refine Ext.set ?_ (by dsimp only; omega) _)))) fs fd) ?_; rw [hV]; rintro e w1 ⟨rfl, n1, rfl⟩) | (go_at_call 70; refine Calls.mono (c_l02Times (hbox.ext (by repeat (first | assumption | exact Ext.refl _ | apply Ext.drewN | apply Ext.drew | apply Ext.alloc | (refine Ext.trans ?_ (by assumption)) | (refine Ext.set ?_ (by dsimp only; omega) _)))) (h.ext (by repeat (first | assumption | exact Ext.refl _ | apply Ext.drewN | apply Ext.drew | apply Ext.alloc | (refine Ext.trans ?_ (by assumption)) | (refine Ext.set ?_ (by dsimp only; omega) _)))) hn) ?_; rintro e w3 ⟨v, rfl, ho, hx3⟩; obtain ⟨A3, c3, rfl, ho3⟩ := ho.owl))
  have hbox3 := hbox.ext (w' := w3) (by repeat (first | assumption | exact Ext.refl _ | apply Ext.drewN | apply Ext.drew | apply Ext.alloc | (refine Ext.trans ?_ (by assumption)) | (refine Ext.set ?_ (by dsimp only; omega) _)))
  have hX : Ext w w3 := (by repeat (first | assumption | exact Ext.refl _ | apply Ext.drewN | apply Ext.drew | apply Ext.alloc | (refine Ext.trans ?_ (by assumption)) | (refine Ext.set ?_ (by dsimp only; omega) _)))
  have z3 := hX.size
  go_loopw [5, 6, 7] (fun sm v i wr => ∃ (k r : Nat) (xs : List Value), k ≤ n ∧ i = .int .i64 k ∧ sm = .float .f32 r ∧ Fl .f32 r (sums fsqthru L k) ∧ wr.ownsRow w3.heap.size 23 1 v k xs ∧ (∀ j, j < k → ∃ r, xs[j]? = some (.float .f32 r) ∧ Fl .f32 r (frms L j)) ∧ (∀ j, j < k → ffin .f32 (ftim L j) = true) ∧ Ext w3 wr) (fun _ _ i _ => n - (intOf i).toNat)
  case atStart => exact ⟨0, 0, [], Nat.zero_le _, rfl, rfl, fl_fz, World.ownsRow_made w3 _ 0 (Nat.le_refl _) (Nat.zero_le _) rfl, fun j hj => absurd hj (Nat.not_lt_zero _), fun j hj => absurd hj (Nat.not_lt_zero _), (by repeat (first | assumption | exact Ext.refl _ | apply Ext.drewN | apply Ext.drew | apply Ext.alloc | (refine Ext.trans ?_ (by assumption)) | (refine Ext.set ?_ (by dsimp only; omega) _)))⟩
  case round =>
    obtain ⟨k, r, xs, hk, rfl, rfl, hr, hown, hxs, hb, hx⟩ := hrel
    have HX := Lib.hid hxs
    have HB := Lib.hid hb
    clear hxs hb
    obtain ⟨p0, p1, p2, _⟩ := hbox3.ext (w' := wr) hx
    by_cases hlt : k < n
    · obtain ⟨b', off, r0, r1, r2, r3, rfl, hb', hy⟩ := (h.ext (hX.trans hx)).cell hlt
      obtain ⟨b3, o3, t3, rfl, hb3, hc3, hr3⟩ := (ho3.ext (Nat.le_refl _) hx).rd.cell hlt
      rw [lst_at hlt] at hr3
      have hr3 : Fl .f32 t3 (ftim L k) := hr3
      have hc0 := hy.c0
      have hc1 := hy.c1
      have q0 := hy.f0
      have q1 := hy.f1
      have hT : fssq L k = fop .add .f32 (sums fsqthru L k) (fop .mul .f32 (fop .mul .f32 (L.getD k default).s (L.getD k default).s) (fop .quo .f32 (L.getD k default).t (L.getD k default).s)) := rfl
      have hU : frms L k = froot (fop .quo .f32 (fssq L k) (ftim L k)) := rfl
      have HT := Lib.hid hT
      have HU := Lib.hid hU
      clear hT hU
      have hlt' : (k : Int) < (n : Int) := by omega
      go_wp2_with (fail)
      go_cut [5] from 13 to 59 (fun sx wx => ∃ r m, sx = .float .f32 r ∧ Fl .f32 r (fssq L k) ∧ wx = wr.drewN m)
      case first =>
        clear hown ho3 hc3 hx hX h hbox3 hbox hr3 HN HY HB HX z3 HL HU
        go_region_with (first | (apply upon_fop rfl; (exact q1); (exact q1); intro r4 n4 hr4) | (apply upon_fop rfl; (exact q0); (exact q1); intro r5 n5 hr5) | (apply upon_fop rfl; (exact hr4); (exact hr5); intro r6 n6 hr6) | (apply upon_fop rfl; (exact hr); (exact hr6); intro r7 n7 hr7; rw [← HT.out] at hr7))
        all_goals
          go_wp2_with (fail)
          go_meet
          exact ⟨r7, _, rfl, hr7, rfl⟩
      case rest =>
        obtain ⟨r7, m7, rfl, hr7, rfl⟩ := hcut
        cases hG : ffin .f32 (ftim L k)
        · have hend := Lib.hid (HN.out k hlt hG)
          go_wp2_with (go_at_call 72; refine Calls.mono (c_l01Finite hr3 _) ?_; rw [hG]; rintro e w' ⟨rfl, n1, rfl⟩)
          go_ret2
          exact retL_no hend.out (by repeat (first | assumption | exact Ext.refl _ | apply Ext.drewN | apply Ext.drew | apply Ext.alloc | (refine Ext.trans ?_ (by assumption)) | (refine Ext.set ?_ (by dsimp only; omega) _)))
        go_wp2_with (first | (go_at_call 72; refine Calls.mono (c_l01Finite hr3 _) ?_; rw [hG]; rintro e w' ⟨rfl, n1, rfl⟩) | (apply upon_fop rfl; (exact hr7); (exact hr3); intro r8 n8 hr8) | (go_at_call 73; refine Calls.mono (c_l01Sqrt hr8 _) ?_; rw [← HU.out]; rintro e w' ⟨r9, rfl, hr9, n9, rfl⟩) | (at_builtin; refine wpList_append_own _ rfl _ _ 35 rfl w3.heap.size 23 i0 (.float .f32 0) 1 4 Try.underlying35 hi hz0 hz1 hz2 rfl (by decide) _ _ _ rfl (World.ownsRow.alloc (w := wr.drewN _) hown _) ⟨wr.heap.size, 0, none⟩ 1 1 [.float .f32 r9] rfl rfl ?_ ?_ ?_ ?_ ?_ ?_))
        all_goals first
          | exact one_new (w := wr.drewN _)
          | (intro u hu; simp at hu; subst hu; rfl)
          | (unfold maxLen; omega)
          | omega
          | (have := hx.size; simp; omega)
          | (intro v' w4 hown' hgrow _
             have hl' : xs.length = k := by have := hown.1; omega
             have hx' : Ext w3 w4 := grown_ext (Ext.alloc (Ext.drewN hx _) _) (World.ownsRow.alloc (w := wr.drewN _) hown _) hgrow
             have HXX := Lib.hid (row_step hl' HX.out hr9)
             clear hown hgrow hx
             go_wp2_with (fail)
             exact ⟨⟨k + 1, r7, _, by omega, by go_num, rfl, hr7, hown', HXX.out, fin_step HB.out hG, hx'⟩, by simp [intOf]; omega⟩)
    · have hkn : k = n := by omega
      subst hkn
      have ho4 : OwF wr w3.heap.size _ k (frms L) := ⟨xs, hown, HX.out⟩
      obtain ⟨A4, c4, rfl, ho5⟩ := ho4.owl
      have hend := Lib.hid (HY.out HB.out)
      go_wp2_with (go_at_call 56; refine Calls.mono (c_l02List ho5.rd hn) ?_; rintro e w5 ⟨rfl, n3, rfl⟩)
      go_ret2
      rw [hend.out]
      exact retL_of (w1 := wr) (hX.trans hx) (ho5.more z3 (Nat.le_refl _)) (by repeat (first | assumption | exact Ext.refl _ | apply Ext.drewN | apply Ext.drew | apply Ext.alloc | (refine Ext.trans ?_ (by assumption)) | (refine Ext.set ?_ (by dsimp only; omega) _)))
set_option maxRecDepth 20000 in
set_option maxHeartbeats 4000000 in
theorem c_impl_RootSpeeds {w : World} {n c s d : Nat} {A : Option Addr} {L : List Ly} {S D : Option Nat} (h : RdL w A n L) (hn : n ≤ 1048576) (fs : Fl .f32 s S) (fd : Fl .f32 d D) :
    Calls Try.prog 40 #[.agg #[.slice A n c, .float .f32 s, .float .f32 d]] w fun e w' => RetL w e w' (okR L S D) (lst (frms L) L.length) := by
  have hbox : GpAt (w.alloc (.cells #[.slice A n c, .float .f32 s, .float .f32 d] 30)) w.heap.size A n c s d := GpAt.blk (t := 30) (by repeat (first | (refine al_at ?_ ?_ <;> first | rfl | (simp only [al_size] <;> omega)) | apply al_old))
  have hl := h.len
  have key2 := fun W hx => c_impl_TimesDown (w := W) (c := c) (h.ext hx) hn fs fd
  have hokR : okR L S D = (okL ftim L S D && finL (lst (frms L) L.length)) := by
    unfold okR okL
    rw [Bool.and_assoc]
  cases hB : okL ftim L S D
  · rw [hB] at key2 hokR
    rw [hokR]
    simp only [Bool.false_and]
    go_enter Try.func40, Try.ntmps40
    go_wp2_with (go_at_call 36; refine Calls.mono (key2 _ (by repeat (first | assumption | exact Ext.refl _ | apply Ext.drewN | apply Ext.drew | apply Ext.alloc | (refine Ext.trans ?_ (by assumption)) | (refine Ext.set ?_ (by dsimp only; omega) _)))) ?_; rintro e w3 ⟨A3, n3, c3, rfl, ho3, hx3⟩; obtain ⟨p0, p1, p2, _⟩ := hbox.ext (w' := w3) (by repeat (first | assumption | exact Ext.refl _ | apply Ext.drewN | apply Ext.drew | apply Ext.alloc | (refine Ext.trans ?_ (by assumption)) | (refine Ext.set ?_ (by dsimp only; omega) _))))
    go_ret2
    exact retL_no rfl (by repeat (first | assumption | exact Ext.refl _ | apply Ext.drewN | apply Ext.drew | apply Ext.alloc | (refine Ext.trans ?_ (by assumption)) | (refine Ext.set ?_ (by dsimp only; omega) _)))
  have hn1 : 1 ≤ n := by
    unfold okL fvalid at hB
    simp only [Bool.and_eq_true, decide_eq_true_eq] at hB
    have := hB.1.1.1.1.1
    omega
  rw [hB] at key2 hokR
  rw [hokR, hl]
  simp only [Bool.true_and]
  rw [hl] at key2
  clear hokR hl
  go_enter Try.func40, Try.ntmps40
  go_wp2_with (first | (go_at_call 36; refine Calls.mono (key2 _ (by repeat (first | assumption | exact Ext.refl _ | apply Ext.drewN | apply Ext.drew | apply Ext.alloc | (refine Ext.trans ?_ (by assumption)) | (refine Ext.set ?_ (by dsimp only; omega) _)))) ?_; rintro e w2 ⟨A3, n3, c3, rfl, ho3, hx2⟩; obtain ⟨p0, p1, p2, _⟩ := hbox.ext (w' := w2) (by repeat (first | assumption | exact Ext.refl _ | apply Ext.drewN | apply Ext.drew | apply Ext.alloc | (refine Ext.trans ?_ (by assumption)) | (refine Ext.set ?_ (by dsimp only; omega) _))); replace ho3 : OwL w2 _ w2.heap.size A3 n3 (lst (ftim L) n) := ho3; (have e3 := ho3.len); rw [lst_len] at e3; subst e3) | (go_at_call 59; refine Calls.mono (c_sums_squareThrough (h.ext (by repeat (first | assumption | exact Ext.refl _ | apply Ext.drewN | apply Ext.drew | apply Ext.alloc | (refine Ext.trans ?_ (by assumption)) | (refine Ext.set ?_ (by dsimp only; omega) _)))) hn) ?_; rintro e w3 ⟨v, rfl, ho, hx3⟩; obtain ⟨A2, c2, rfl, ho2⟩ := ho.owl; obtain ⟨p0, p1, p2, _⟩ := hbox.ext (w' := w3) (by repeat (first | assumption | exact Ext.refl _ | apply Ext.drewN | apply Ext.drew | apply Ext.alloc | (refine Ext.trans ?_ (by assumption)) | (refine Ext.set ?_ (by dsimp only; omega) _)))))
  have hX : Ext w w3 := (by repeat (first | assumption | exact Ext.refl _ | apply Ext.drewN | apply Ext.drew | apply Ext.alloc | (refine Ext.trans ?_ (by assumption)) | (refine Ext.set ?_ (by dsimp only; omega) _)))
  have z2 : w.heap.size ≤ w2.heap.size := (show Ext w w2 from (by repeat (first | assumption | exact Ext.refl _ | apply Ext.drewN | apply Ext.drew | apply Ext.alloc | (refine Ext.trans ?_ (by assumption)) | (refine Ext.set ?_ (by dsimp only; omega) _)))).size
  obtain ⟨g, off, cs0, rfl, hlo, hhi, hg0, hsz0, hc0⟩ := ho2.at_.resolve_left (by omega)
  go_loopw [21] (fun i wr => ∃ (k : Nat) (cs : Array Value), k ≤ n ∧ i = .int .i64 k ∧ wr.heap[g]? = some (.cells cs 23 (0, 0)) ∧ off + n ≤ cs.size ∧ (∀ j, j < k → ∃ r, cs[off + j]? = some (.float .f32 r) ∧ Fl .f32 r (frms L j)) ∧ (∀ j, k ≤ j → j < n → ∃ r, cs[off + j]? = some (.float .f32 r) ∧ Fl .f32 r (fssq L j)) ∧ Ext w2 wr) (fun i _ => n - (intOf i).toNat)
  case atStart =>
    refine ⟨0, cs0, Nat.zero_le _, rfl, hg0, hsz0, fun j hj => absurd hj (Nat.not_lt_zero _), fun j _ hj => ?_, (by repeat (first | assumption | exact Ext.refl _ | apply Ext.drewN | apply Ext.drew | apply Ext.alloc | (refine Ext.trans ?_ (by assumption)) | (refine Ext.set ?_ (by dsimp only; omega) _)))⟩
    obtain ⟨r, h1, h2⟩ := hc0 j hj
    rw [lst_at hj] at h2
    exact ⟨r, h1, h2⟩
  case round =>
    obtain ⟨k, cs, hk, rfl, hg, hsz, hxs, hys, hx⟩ := hrel
    have HX := Lib.hid hxs
    have HYS := Lib.hid hys
    have HG := Lib.hid hg
    have HS := Lib.hid hsz
    clear hxs hg hsz hys
    by_cases hlt : k < n
    · obtain ⟨b3, o3, r3, rfl, hb3, hc3, hr3⟩ := (ho3.ext (Nat.le_refl _) hx).rd.cell hlt
      rw [lst_at hlt] at hr3
      have hr3 : Fl .f32 r3 (ftim L k) := hr3
      obtain ⟨r2, e2, hr2⟩ := HYS.out k (Nat.le_refl _) hlt
      have e0 : wr.cell? ⟨g, off + k, none⟩ = some (.float .f32 r2) := by rw [cell_of_row wr g _ cs _ (0, 0) HG.out]; exact e2
      have z0 : wr.frozen? ⟨g, off + k, none⟩ = false := by have := HG.out; simp [World.frozen?, this]
      have hU : frms L k = froot (fop .quo .f32 (fssq L k) (ftim L k)) := rfl
      have HU := Lib.hid hU
      clear hU e2
      have hlt' : (k : Int) < (n : Int) := by omega
      go_wp2_with (first | (apply upon_fop rfl; (exact hr2); (exact hr3); intro r5 n5 hr5) | (go_at_call 75; refine Calls.mono (c_RootNumber hr5 _) ?_; rw [← HU.out]; rintro e w' ⟨r9, rfl, hr9, n9, rfl⟩))
      have hts := two_set (by have := HS.out; omega) HX.out HYS.out hr9
      exact ⟨⟨k + 1, cs.setIfInBounds (off + k) (.float .f32 r9), by omega, by go_num, blk_set1 (w := World.drewN wr _) HG.out (off + k) _, by rw [Array.size_setIfInBounds]; exact HS.out, hts.1, hts.2, Ext.set (by repeat (first | assumption | exact Ext.refl _ | apply Ext.drewN | apply Ext.drew | apply Ext.alloc | (refine Ext.trans ?_ (by assumption)) | (refine Ext.set ?_ (by dsimp only; omega) _))) (by dsimp only; omega) _⟩, by simp [intOf]; omega⟩
    · have hkn : k = n := by omega
      subst hkn
      have ho5 : OwL wr w2.heap.size wr.heap.size (some ⟨g, off, none⟩) k (lst (frms L) k) :=
        ⟨lst_len _ _, .inr ⟨g, off, cs, rfl, hlo, blk_lt HG.out, HG.out, HS.out, fun j hj => by
          obtain ⟨r, h1, h2⟩ := HX.out j hj
          exact ⟨r, h1, by rw [lst_at hj]; exact h2⟩⟩⟩
      go_wp2_with (go_at_call 58; refine Calls.mono (c_finiteList ho5.rd hn) ?_; rintro e w5 ⟨rfl, n3, rfl⟩)
      go_ret2
      exact retL_of (w1 := wr) (by repeat (first | assumption | exact Ext.refl _ | apply Ext.drewN | apply Ext.drew | apply Ext.alloc | (refine Ext.trans ?_ (by assumption)) | (refine Ext.set ?_ (by dsimp only; omega) _))) (ho5.more z2 (Nat.le_refl _)) (by repeat (first | assumption | exact Ext.refl _ | apply Ext.drewN | apply Ext.drew | apply Ext.alloc | (refine Ext.trans ?_ (by assumption)) | (refine Ext.set ?_ (by dsimp only; omega) _)))
theorem both_RootSpeeds {n s d : Nat} {L : List Ly} {S D : Option Nat} (hl : L.length = n) (hn : n ≤ 1048576) (fs : Fl .f32 s S) (fd : Fl .f32 d D) :
    ∃ ok Q q, q ≤ 1048576 ∧ (∀ (W : World) (A : Option Addr) (c : Nat), RdL W A n L → Calls Try.prog 39 #[.agg #[.slice A n c, .float .f32 s, .float .f32 d]] W fun e w' => RetQ W e w' ok q Q) ∧
      (∀ (W : World) (A : Option Addr), RdL W A n L → Calls Try.prog 40 #[.agg #[.slice A n n, .float .f32 s, .float .f32 d]] W fun e w' => RetQ W e w' ok q Q) :=
  ⟨okR L S D, outL (okR L S D) (lst (frms L) L.length), (outL (okR L S D) (lst (frms L) L.length)).length, Nat.le_trans (outL_len _ _) (by rw [lst_len]; omega),
    fun _ _ _ h => Calls.mono (c_spec_RootSpeeds h hn fs fd) (fun _ _ hr => hr.q), fun _ _ h => Calls.mono (c_impl_RootSpeeds h hn fs fd) (fun _ _ hr => hr.q)⟩

end Go.Proofs.Ytkoiimjpalhgbaa
