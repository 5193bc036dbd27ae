/- Contracts: spectra at even distances, on both sides. Condition: the list is read. -/
import Derived.Test.YthgmkipifolbfacSp2
import Derived.Test.YthgmkipifolbfacCl
import Derived.Test.YthgmkipifolbfacTr
namespace Go.Proofs.Ythgmkipifolbfac
open Go.RowKit Ieee

def fcnt (k c : Nat) : Option Nat := fop .quo .f32 (fl .f32 (floatOfInt .f32 (k : Int))) (fl .f32 (floatOfInt .f32 (c : Int)))
theorem fl_i32 (i : Int) : Fl .f32 (floatOfInt .f32 i) (fl .f32 (floatOfInt .f32 i)) := ⟨rfl, FloatKind.f32.format.write_lt (.number (i < 0) i.natAbs 0)⟩
theorem cnt_all : ((List.range 129).all fun c => (List.range c).all fun k => ffin .f32 (fcnt k c)) = true := by decide +kernel
theorem cnt_fin {k c : Nat} (h : k < c) (hc : c < 129) : ffin .f32 (fcnt k c) = true := by
  have h1 := List.all_eq_true.1 cnt_all c (List.mem_range.2 hc)
  exact List.all_eq_true.1 h1 k (List.mem_range.2 h)
def lstX (F : Nat → Cn) (n : Nat) : List Cn := (List.range n).map F
theorem lstX_len (F : Nat → Cn) (n : Nat) : (lstX F n).length = n := by simp [lstX]
theorem lstX_at {F : Nat → Cn} {n j : Nat} (h : j < n) : (lstX F n).getD j cnone = F j := by simp [lstX, List.getD, h]
def outX (ok : Bool) (M : List Cn) : List Cn := if ok then M else []
def RetX (w : World) (e : Ending) (w' : World) (ok : Bool) (M : List Cn) : Prop :=
  ∃ A n c, e = .returned (.tuple #[.slice A n c, .bool ok]) ∧ OwX w' w.heap.size w'.heap.size A n (outX ok M) ∧ Ext w w'
def RetXQ (w : World) (e : Ending) (w' : World) (ok : Bool) (q : Nat) (Q : List Cn) : Prop :=
  ∃ A c, e = .returned (.tuple #[.slice A q c, .bool ok]) ∧ OwX w' w.heap.size w'.heap.size A q Q ∧ Ext w w'
theorem RetX.q {w w' : World} {e : Ending} {ok : Bool} {M : List Cn} (h : RetX w e w' ok M) : RetXQ w e w' ok (outX ok M).length (outX ok M) := by
  obtain ⟨A, n, c, rfl, ho, hx⟩ := h
  obtain rfl := ho.len
  exact ⟨A, c, rfl, ho, hx⟩
theorem retX_no {w w' : World} {M : List Cn} {f : Bool} (hf : f = false) (hx : Ext w w') : RetX w (.returned (.tuple #[.slice none 0 0, .bool false])) w' f M := by
  subst hf; exact ⟨none, 0, 0, rfl, OwX.nil _ _ _ _, hx⟩
theorem info_c64 : (Try.prog.info? 23).map (fun i => (i.zero, i.size, i.bytes)) = some (some (.complex .f32 0 0), 1, 8) := by kernel_rfl
def FX (xs : List Value) (F : Nat → Cn) (k : Nat) : Prop := ∀ j, j < k → ∃ r i, xs[j]? = some (.complex .f32 r i) ∧ Fl .f32 r (F j).1 ∧ Fl .f32 i (F j).2
theorem FX.step {F : Nat → Cn} {k r i : Nat} {xs : List Value} (hl : xs.length = k) (h : FX xs F k) (hr : Fl .f32 r (F k).1) (hi : Fl .f32 i (F k).2) : FX (xs ++ [Value.complex .f32 r i]) F (k + 1) := by
  intro j hj
  by_cases hjk : j = k
  · subst hjk
    exact ⟨r, i, by rw [List.getElem?_append_right (by omega), hl]; simp, hr, hi⟩
  · obtain ⟨r', i', h1, h2, h3⟩ := h j (by omega)
    exact ⟨r', i', by rw [List.getElem?_append_left (by omega)]; exact h1, h2, h3⟩
theorem owx_of_own {w : World} {base n : Nat} {v : Value} {xs : List Value} {F : Nat → Cn} (h : w.ownsRow base 23 1 v n xs) (hF : FX xs F n) : ∃ A c, v = .slice A n c ∧ OwX w base w.heap.size A n (lstX F n) := by
  rcases h.2 with ⟨rfl, hn0⟩ | ⟨g, cap, cur, rfl, hbg, hg, hnc, hcm, hcs, htake⟩
  · subst hn0
    exact ⟨_, _, rfl, ⟨lstX_len _ _, .inl rfl⟩⟩
  · rw [Nat.mul_one] at hcs htake
    refine ⟨_, _, rfl, ⟨lstX_len _ _, .inr ⟨g, 0, cur, rfl, hbg, blk_lt hg, hg, by omega, fun j hj => ?_⟩⟩⟩
    obtain ⟨r, i, e1, e2, e3⟩ := hF j hj
    refine ⟨r, i, ?_, by rw [lstX_at hj]; exact e2, by rw [lstX_at hj]; exact e3⟩
    rw [Nat.zero_add, ← Array.getElem?_toList, ← e1, ← htake, List.getElem?_take_of_lt hj]
theorem one_newX {w : World} {r i : Nat} : ∀ j u, [Value.complex .f32 r i][j]? = some u → (w.alloc (.cells #[.complex .f32 r i] 23)).cell? ((⟨w.heap.size, 0, none⟩ : Addr).add j) = some u := by
  intro j u hj
  match j, hj with
  | 0, hj =>
    simp at hj
    subst hj
    simp [Addr.add]
def RowX (cs : Array Value) (F : Nat → Cn) (k : Nat) : Prop := ∀ j, j < k → ∃ r i, cs[j]? = some (.complex .f32 r i) ∧ Fl .f32 r (F j).1 ∧ Fl .f32 i (F j).2
theorem RowX.step {F : Nat → Cn} {k n r i : Nat} {cs : Array Value} (hs : cs.size = n) (hk : k < n) (h : RowX cs F k) (hr : Fl .f32 r (F k).1) (hi : Fl .f32 i (F k).2) : RowX (cs.setIfInBounds k (.complex .f32 r i)) F (k + 1) := by
  intro j hj
  by_cases hjk : j = k
  · subst hjk
    have : j < cs.size := by omega
    exact ⟨r, i, by simp [this], hr, hi⟩
  · obtain ⟨r', i', h1, h2, h3⟩ := h j (by omega)
    exact ⟨r', i', by rw [Array.getElem?_setIfInBounds, if_neg (by omega)]; exact h1, h2, h3⟩

set_option maxRecDepth 20000 in
set_option maxHeartbeats 4000000 in
theorem c_spec_SpectrumOfTrace {w : World} {B n c : Nat} {A : Option Addr} {L : List (Option Nat)} (h : RdF w B A n L) (hB : B ≤ w.heap.size) (hn : n ≤ 1048576) {i : Int} (_hi0 : -9223372036854775808 ≤ i) (_hi1 : i ≤ 9223372036854775807) {R I : Nat → Nat → Option Nat} (hcs : ∀ k j, PhCase (fback (fcnt k i.toNat) j) (R k j) (I k j)) :
    Calls Try.prog 22 #[.slice A n c, .int .i64 i] w fun e w' => RetX w e w' (tlen n && inB i 1 128) (lstX (fun k => (csm (R k) L n, csm (I k) L n)) i.toNat) := by
  cases hV : tlen n
  · go_enter Try.func22, Try.ntmps22
    go_wp2_with (go_at_call 89; refine Calls.mono (c_l03Is _ _ _ _) ?_; rw [hV]; rintro e w1 ⟨rfl, rfl⟩)
    go_ret2
    exact retX_no rfl (by repeat (first | assumption | exact Ext.refl _ | apply Ext.drewN | apply Ext.drew | apply Ext.alloc | (refine Ext.trans ?_ (by assumption)) | (refine Ext.set ?_ (by dsimp only; omega) _)))
  rw [Bool.true_and]
  cases hX : inB i 1 128
  · go_enter Try.func22, Try.ntmps22
    go_wp2_with (first | (go_at_call 89; refine Calls.mono (c_l03Is _ _ _ _) ?_; rw [hV]; rintro e w1 ⟨rfl, rfl⟩) | (go_at_call 95; refine Calls.mono (c_l00In _ _ _ _) ?_; rw [hX]; rintro e w1 ⟨rfl, rfl⟩))
    go_ret2
    exact retX_no rfl (by repeat (first | assumption | exact Ext.refl _ | apply Ext.drewN | apply Ext.drew | apply Ext.alloc | (refine Ext.trans ?_ (by assumption)) | (refine Ext.set ?_ (by dsimp only; omega) _)))
  obtain ⟨g1, g2⟩ := inB_of hX
  obtain ⟨M, rfl⟩ : ∃ M : Nat, i = (M : Int) := ⟨i.toNat, by omega⟩
  rw [Int.toNat_natCast] at hcs ⊢
  have HCS := Lib.hid hcs
  clear hcs
  obtain ⟨i0, hi, hz0, hz1, hz2⟩ := info_parts info_c64
  go_enter Try.func22, Try.ntmps22
  go_wp2_with (first | (go_at_call 89; refine Calls.mono (c_l03Is _ _ _ _) ?_; rw [hV]; rintro e w1 ⟨rfl, rfl⟩) | (go_at_call 95; refine Calls.mono (c_l00In _ _ _ _) ?_; rw [hX]; rintro e w1 ⟨rfl, rfl⟩))
  go_loopw [6, 7] (fun v y wr => ∃ (k : Nat) (xs : List Value), k ≤ M ∧ y = .int .i64 k ∧ wr.ownsRow w.heap.size 23 1 v k xs ∧ FX xs (fun k => (csm (R k) L n, csm (I k) L n)) k ∧ Ext w wr) (fun _ y _ => M - (intOf y).toNat)
  case atStart => exact ⟨0, [], Nat.zero_le _, rfl, World.ownsRow_made _ _ 0 (Nat.le_refl _) (Nat.zero_le _) rfl, fun j hj => absurd hj (Nat.not_lt_zero _), (by repeat (first | assumption | exact Ext.refl _ | apply Ext.drewN | apply Ext.drew | apply Ext.alloc | (refine Ext.trans ?_ (by assumption)) | (refine Ext.set ?_ (by dsimp only; omega) _)))⟩
  case round =>
    obtain ⟨k, xs, hk, rfl, hown, hxs, hx⟩ := hrel
    have HX := Lib.hid hxs
    clear hxs
    by_cases hlt : k < M
    · have hlt' : (k : Int) < (M : Int) := by omega
      go_wp2_with (first | (refine upon_fop (op := .quo) rfl (fl_i32 _) (fl_i32 _) ?_; intro r2 n2 hr2) | (go_at_call 91; refine Calls.mono (c_l03Spectrum (RdF.drewN (h.below (hx.mono hB)) _) hn hr2 (HCS.out k)) ?_; rintro e w_2 ⟨r3, i3, rfl, hr3, hi3, n3, rfl⟩) | (at_builtin; refine wpList_append_own _ rfl _ _ 35 rfl w.heap.size 23 i0 (.complex .f32 0 0) 1 8 Try.underlying35 hi hz0 hz1 hz2 rfl (by decide) _ _ _ rfl (World.ownsRow.alloc (w := wr.drewN _) hown _) ⟨wr.heap.size, 0, none⟩ 1 1 [.complex .f32 r3 i3] rfl rfl ?_ ?_ ?_ ?_ ?_ ?_))
      all_goals first
        | exact one_newX (w := wr.drewN _)
        | (intro u hu; simp at hu; subst hu; rfl)
        | (unfold maxLen; omega)
        | omega
        | (have := hx.size; simp; omega)
        | (intro v' w4 hown' hgrow _
           have hl' : xs.length = k := by have := hown.1; omega
           have hx' : Ext w w4 := grown_ext (Ext.alloc (Ext.drewN hx _) _) (World.ownsRow.alloc (w := wr.drewN _) hown _) hgrow
           have HXX := Lib.hid (FX.step (F := fun k => (csm (R k) L n, csm (I k) L n)) hl' HX.out hr3 hi3)
           clear hown hgrow hx
           go_wp2_with (fail)
           exact ⟨⟨k + 1, _, by omega, by go_num, by exact hown', HXX.out, hx'⟩, by simp [intOf]; omega⟩)
    · obtain rfl : k = M := by omega
      obtain ⟨A4, c4, rfl, ho5⟩ := owx_of_own hown HX.out
      go_wp2_with (fail)
      go_ret2
      exact ⟨_, _, _, rfl, ho5, hx⟩

set_option maxRecDepth 20000 in
set_option maxHeartbeats 4000000 in
theorem c_impl_SpectrumOfTrace {w : World} {B n c : Nat} {A : Option Addr} {L : List (Option Nat)} (h : RdF w B A n L) (hB : B ≤ w.heap.size) (hn : n ≤ 1048576) {i : Int} (_hi0 : -9223372036854775808 ≤ i) (_hi1 : i ≤ 9223372036854775807) {R I : Nat → Nat → Option Nat} (hcs : ∀ k j, PhCase (fback (fcnt k i.toNat) j) (R k j) (I k j)) :
    Calls Try.prog 23 #[.slice A n c, .int .i64 i] w fun e w' => RetX w e w' (tlen n && inB i 1 128) (lstX (fun k => (csm (R k) L n, csm (I k) L n)) i.toNat) := by
  cases hV : tlen n
  · go_enter Try.func23, Try.ntmps23
    go_wp2_with (go_at_call 92; refine Calls.mono (c_IsTrace _ _ _ _) ?_; rw [hV]; rintro e w1 ⟨rfl, rfl⟩)
    go_ret2
    exact retX_no rfl (by repeat (first | assumption | exact Ext.refl _ | apply Ext.drewN | apply Ext.drew | apply Ext.alloc | (refine Ext.trans ?_ (by assumption)) | (refine Ext.set ?_ (by dsimp only; omega) _)))
  rw [Bool.true_and]
  cases hX : inB i 1 128
  · go_enter Try.func23, Try.ntmps23
    go_wp2_with (first | (go_at_call 92; refine Calls.mono (c_IsTrace _ _ _ _) ?_; rw [hV]; rintro e w1 ⟨rfl, rfl⟩) | (go_at_call 96; refine Calls.mono (c_isTraceLength _ _) ?_; rw [hX]; rintro e w1 ⟨rfl, rfl⟩))
    go_ret2
    exact retX_no rfl (by repeat (first | assumption | exact Ext.refl _ | apply Ext.drewN | apply Ext.drew | apply Ext.alloc | (refine Ext.trans ?_ (by assumption)) | (refine Ext.set ?_ (by dsimp only; omega) _)))
  obtain ⟨g1, g2⟩ := inB_of hX
  obtain ⟨M, rfl⟩ : ∃ M : Nat, i = (M : Int) := ⟨i.toNat, by omega⟩
  rw [Int.toNat_natCast] at hcs ⊢
  have HCS := Lib.hid hcs
  clear hcs
  have hmk := fun W => run_make_row' (P := Try.prog) 35 23 (.complex .f32 0 0) 8 Try.underlying35 info_c64 rfl .i64 .i64 M (by omega) (by omega) W
  go_enter Try.func23, Try.ntmps23
  go_wp2_with (first | (go_at_call 92; refine Calls.mono (c_IsTrace _ _ _ _) ?_; rw [hV]; rintro e w1 ⟨rfl, rfl⟩) | (go_at_call 96; refine Calls.mono (c_isTraceLength _ _) ?_; rw [hX]; rintro e w1 ⟨rfl, rfl⟩))
  go_loopw [20] (fun y wr => ∃ (k : Nat) (cs : Array Value), k ≤ M ∧ y = .int .i64 k ∧ wr.heap[w.heap.size]? = some (.cells cs 23 (0, 0)) ∧ cs.size = M ∧ RowX cs (fun k => (csm (R k) L n, csm (I k) L n)) k ∧ Ext w wr) (fun y _ => M - (intOf y).toNat)
  case atStart => exact ⟨0, _, Nat.zero_le _, rfl, heap_alloc_new _ _, size_madeCells _ _, fun j hj => absurd hj (Nat.not_lt_zero _), (by repeat (first | assumption | exact Ext.refl _ | apply Ext.drewN | apply Ext.drew | apply Ext.alloc | (refine Ext.trans ?_ (by assumption)) | (refine Ext.set ?_ (by dsimp only; omega) _)))⟩
  case round =>
    obtain ⟨k, cs, hk, rfl, hg, hsz, hxs, hx⟩ := hrel
    have HX := Lib.hid hxs
    have HG := Lib.hid hg
    have HS := Lib.hid hsz
    clear hxs hg hsz
    by_cases hlt : k < M
    · obtain ⟨u0, e0, z0⟩ := own_cell HG.out HS.out hlt
      have hlt' : (k : Int) < (M : Int) := by omega
      have hfin := Lib.hid (show (tlen n && ffin .f32 (fcnt k M)) = true by rw [hV, cnt_fin hlt (by omega)]; rfl)
      go_wp2_with (first | (refine upon_fop (op := .quo) rfl (fl_i32 _) (fl_i32 _) ?_; intro r2 n2 hr2) | (go_at_call 20; refine Calls.mono (c_impl_SpectrumAt (T := fcnt k M) (RdF.drewN (h.below (hx.mono hB)) _) hn hr2 (HCS.out k)) ?_; rintro e w_2 ⟨r3, i3, rfl, hr3, hi3, n3, rfl⟩; rw [hfin.out] at hr3 hi3))
      exact ⟨⟨k + 1, _, by omega, by go_num, cblk_set1 (w := wr.drewN _) HG.out k _, by rw [Array.size_setIfInBounds]; exact HS.out, RowX.step HS.out hlt HX.out hr3 hi3, (by repeat (first | assumption | exact Ext.refl _ | apply Ext.drewN | apply Ext.drew | apply Ext.alloc | (refine Ext.trans ?_ (by assumption)) | (refine Ext.set ?_ (by dsimp only; omega) _)))⟩, by simp [intOf]; omega⟩
    · obtain rfl : k = M := by omega
      have ho5 : OwX wr w.heap.size wr.heap.size (some ⟨w.heap.size, 0, none⟩) k (lstX (fun k => (csm (R k) L n, csm (I k) L n)) k) := ⟨lstX_len _ _, .inr ⟨w.heap.size, 0, cs, rfl, Nat.le_refl _, blk_lt HG.out, HG.out, by rw [HS.out]; omega, fun j hj => by
        obtain ⟨r, i, e1, e2, e3⟩ := HX.out j hj
        exact ⟨r, i, by rw [Nat.zero_add]; exact e1, by rw [lstX_at hj]; exact e2, by rw [lstX_at hj]; exact e3⟩⟩⟩
      go_wp2_with (fail)
      go_ret2
      exact ⟨_, _, _, rfl, ho5, hx⟩
end Go.Proofs.Ythgmkipifolbfac
