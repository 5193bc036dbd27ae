/- Contracts: the best shift, on both sides. Condition: the lists are read. -/
import Derived.Test.YtceldjkgddbfaabPd
import Derived.Test.YtceldjkgddbfaabYz
import Derived.Deep.QuietTactic
import Derived.BigQuiet
namespace Go.Proofs.Ytceldjkgddbfaab
open Go.RowKit Go.Shelf Ieee

theorem fbest_congr {F G : Nat → Option Nat} : ∀ k, (∀ j, j < k → F j = G j) → fbest F k = fbest G k
  | 0, _ => rfl
  | k + 1, h => by
    have ih := fbest_congr k (fun j hj => h j (by omega))
    have hlt : fbest G k < k + 1 := by
      rcases Nat.eq_zero_or_pos k with h0 | h0
      · subst h0; exact Nat.lt_succ_self 0
      · have := fbest_lt G k h0; omega
    show (if _ then _ else _) = (if _ then _ else _)
    rw [ih, h k (Nat.lt_succ_self k), h _ hlt]
theorem fhas_congr {F G : Nat → Option Nat} (k : Nat) (h : ∀ j, j < k → F j = G j) : fhas F k = fhas G k := by
  unfold fhas
  rw [fbest_congr k h]
  rcases Nat.eq_zero_or_pos k with h0 | h0
  · subst h0; rfl
  · rw [h _ (fbest_lt G k h0)]
def sF (L M : List (Option Nat)) (n : Nat) (i : Int) : Nat → Option Nat := fun k => fcr L M (-i + (k : Int)) n
def okBs (n m : Nat) (i : Int) : Bool := tlen n && (tlen m && inB i 0 128)
def bpO (ok : Bool) (F : Nat → Option Nat) (N : Nat) : Bool := ok && fhas F N
def bpI (ok : Bool) (i : Int) (F : Nat → Option Nat) (N : Nat) : Int := if bpO ok F N then (fbest F N : Int) - i else 0
def bpX (ok : Bool) (F : Nat → Option Nat) (N : Nat) : Option Nat := if bpO ok F N then F (fbest F N) else fz
/-- A shift, a number and their success are returned. -/
def RetP (w : World) (e : Ending) (w' : World) (ok : Bool) (i : Int) (F : Nat → Option Nat) (N : Nat) : Prop :=
  ∃ x, e = .returned (.tuple #[.int .i64 (bpI ok i F N), .float .f32 x, .bool (bpO ok F N)]) ∧ Fl .f32 x (bpX ok F N) ∧ Ext w w'
theorem retP_no {w w' : World} {ok : Bool} {i : Int} {F : Nat → Option Nat} {N : Nat} (h : bpO ok F N = false) (hx : Ext w w') : RetP w (.returned (.tuple #[.int .i64 0, .float .f32 0, .bool false])) w' ok i F N :=
  ⟨0, by unfold bpI; rw [h]; rfl, by unfold bpX; rw [h]; exact fl_fz, hx⟩
theorem retP_yes {w w' : World} {ok : Bool} {i b : Int} {x : Nat} {F : Nat → Option Nat} {N : Nat} (h : bpO ok F N = true) (hb : b = (fbest F N : Int) - i) (hr : Fl .f32 x (F (fbest F N))) (hx : Ext w w') : RetP w (.returned (.tuple #[.int .i64 b, .float .f32 x, .bool true])) w' ok i F N :=
  ⟨x, by unfold bpI; rw [h, hb]; rfl, by unfold bpX; rw [h]; exact hr, hx⟩
set_option maxRecDepth 20000 in
set_option maxHeartbeats 8000000 in
theorem c_impl_BestShift {w : World} {B n c : Nat} {A : Option Addr} {L : List (Option Nat)} (h : RdF w B A n L) (hB : B ≤ w.heap.size) (_hn : n ≤ 1048576) (hcap : n ≤ c) {B' m c' : Nat} {A' : Option Addr} {M : List (Option Nat)} (h' : RdF w B' A' m M) (hB' : B' ≤ w.heap.size) (_hm : m ≤ 1048576) (hcap' : m ≤ c') {i : Int} (_hi : -9223372036854775808 ≤ i) (_hj : i ≤ 9223372036854775807) :
    Calls Try.prog 28 #[.slice A n c, .slice A' m c', .int .i64 i] w fun e w' => RetP w e w' (okBs n m i) i (sF L M n i) (2 * i.toNat + 1) := by
  unfold okBs
  cases hV : tlen n
  · go_enter Try.func28, Try.ntmps28
    go_wp2_with (go_at_call 72; refine Calls.mono (c_IsTrace _ _ _ _) ?_; rw [hV]; rintro e w1 ⟨rfl, rfl⟩)
    go_ret3
    exact retP_no rfl (by repeat (first | assumption | exact Ext.refl _ | apply Ext.drewN | apply Ext.drew | apply Ext.alloc | (refine Ext.trans ?_ (by assumption)) | (refine Ext.set ?_ (by dsimp only; omega) _)))
  cases hW : tlen m
  · go_enter Try.func28, Try.ntmps28
    go_wp2_with (first | (go_at_call 72; refine Calls.mono (c_IsTrace _ _ _ _) ?_; rw [hV]; rintro e w1 ⟨rfl, rfl⟩) | (go_at_call 72; refine Calls.mono (c_IsTrace _ _ _ _) ?_; rw [hW]; rintro e w1 ⟨rfl, rfl⟩))
    go_ret3
    exact retP_no rfl (by repeat (first | assumption | exact Ext.refl _ | apply Ext.drewN | apply Ext.drew | apply Ext.alloc | (refine Ext.trans ?_ (by assumption)) | (refine Ext.set ?_ (by dsimp only; omega) _)))
  by_cases h0 : i < 0
  · rw [inB_lo h0]
    go_enter Try.func28, Try.ntmps28
    go_wp2_with (first | (go_at_call 72; refine Calls.mono (c_IsTrace _ _ _ _) ?_; rw [hV]; rintro e w1 ⟨rfl, rfl⟩) | (go_at_call 72; refine Calls.mono (c_IsTrace _ _ _ _) ?_; rw [hW]; rintro e w1 ⟨rfl, rfl⟩))
    go_ret3
    exact retP_no rfl (by repeat (first | assumption | exact Ext.refl _ | apply Ext.drewN | apply Ext.drew | apply Ext.alloc | (refine Ext.trans ?_ (by assumption)) | (refine Ext.set ?_ (by dsimp only; omega) _)))
  by_cases h1 : 128 < i
  · rw [inB_hi h1]
    go_enter Try.func28, Try.ntmps28
    go_wp2_with (first | (go_at_call 72; refine Calls.mono (c_IsTrace _ _ _ _) ?_; rw [hV]; rintro e w1 ⟨rfl, rfl⟩) | (go_at_call 72; refine Calls.mono (c_IsTrace _ _ _ _) ?_; rw [hW]; rintro e w1 ⟨rfl, rfl⟩))
    go_ret3
    exact retP_no rfl (by repeat (first | assumption | exact Ext.refl _ | apply Ext.drewN | apply Ext.drew | apply Ext.alloc | (refine Ext.trans ?_ (by assumption)) | (refine Ext.set ?_ (by dsimp only; omega) _)))
  rw [inB_yes (by omega) (by omega)]
  obtain ⟨Z, rfl⟩ : ∃ Z : Nat, i = (Z : Int) := ⟨i.toNat, by omega⟩
  rw [Int.toNat_natCast]
  have n1 := tlen_of hV
  have m1 := tlen_of hW
  obtain ⟨b1, o1, t1, rfl, _, _, _⟩ := h.cell (show 0 < n by omega)
  obtain ⟨b2, o2, t2, rfl, _, _, _⟩ := h'.cell (show 0 < m by omega)
  obtain ⟨lo, hlo⟩ : ∃ lo : Int, lo = -(Z : Int) := ⟨_, rfl⟩
  have hwl : IntKind.i64.wrap lo = lo := IntWalk.i64_in _ (by omega)
  have hl2 : -(Z : Int) = lo := hlo.symm
  obtain ⟨N, hN⟩ : ∃ N : Nat, 2 * Z + 1 = N := ⟨_, rfl⟩
  rw [hN]
  have hNb : N ≤ 1048576 := by omega
  have hN0 : 0 < N := by omega
  obtain ⟨F, hF⟩ : ∃ F : Nat → Option Nat, F = sF L M n (Z : Int) := ⟨_, rfl⟩
  rw [← hF]
  have cC := fun (W : World) (hW : Ext w W) (g1 g2 g3 g4 : Nat) => c_collectLags (w := W) (c := c) (c' := c') (lo := lo) (hq := (Z : Int)) (N := N) (h.below (hW.mono hB)) (h'.below (hW.mono hB')) (Nat.le_trans hB hW.size) (Nat.le_trans hB' hW.size) (by omega) (by omega) n1.2 m1.2 hcap hcap' g1 g2 g3 g4 (by omega) (by omega) (by omega)
  rw [show (fun k : Nat => fcr L M (lo + (k : Int)) n) = F by rw [hF, hlo]; rfl] at cC
  have CC := Lib.hid cC
  have HN := Lib.hid hN
  clear cC hlo hF hN
  cases hO : fhas F N
  · have hf : Hid (bpO true F N = false) := Lib.hid (by unfold bpO; rw [hO]; rfl)
    have hO1 := fhas_congr N (fun j hj => lst_at (F := F) hj)
    rw [hO] at hO1
    have HO := Lib.hid hO1
    clear hO hO1
    go_enter Try.func28, Try.ntmps28
    go_wp2_with (first | (go_at_call 72; refine Calls.mono (c_IsTrace _ _ _ _) ?_; rw [hV]; rintro e w1 ⟨rfl, rfl⟩) | (go_at_call 72; refine Calls.mono (c_IsTrace _ _ _ _) ?_; rw [hW]; rintro e w1 ⟨rfl, rfl⟩) | (go_at_call 74; refine Calls.mono c_lags ?_; rintro e w2 ⟨g1, g2, g3, g4, rfl, ⟨q1, q2, q3, q4⟩, ⟨r1, r2, r3, r4⟩, hx2⟩; have C2 := Lib.hid (CC.out _ hx2 g1 g2 g3 g4 q1 q2 q3 q4 r1 r2 r3 r4); clear r1 r2 r3 r4) | (go_at_call 73; refine Calls.mono C2.out ?_; rintro e w3 ⟨v, rfl, ho, hx3⟩; obtain ⟨A2, c2, rfl, ho2⟩ := ho.owl) | (go_at_call 75; refine Calls.mono (c_greatestOf ho2.rd hNb) ?_; rw [HO.out]; rintro e w4 ⟨rfl, n4, rfl⟩))
    go_ret3
    exact retP_no hf.out (Ext.drewN (hx2.trans hx3) n4)
  · have hf : Hid (bpO true F N = true) := Lib.hid (by unfold bpO; rw [hO]; rfl)
    have hO1 := fhas_congr N (fun j hj => lst_at (F := F) hj)
    have hO2 := fbest_congr N (fun j hj => lst_at (F := F) hj)
    rw [hO] at hO1
    have hlt := fbest_lt F N hN0
    obtain ⟨e, he⟩ : ∃ e, fbest F N = e := ⟨_, rfl⟩
    rw [he] at hlt hO2
    have hlt' : (e : Int) < (N : Int) := by omega
    have HL := Lib.hid (lst_at (F := F) hlt)
    have HE := Lib.hid he
    have HO := Lib.hid hO1
    have HP := Lib.hid hO2
    obtain ⟨d, hd⟩ : ∃ d : Int, (e : Int) - (Z : Int) = d := ⟨_, rfl⟩
    have HN2 := HN.out
    have hwd : IntKind.i64.wrap d = d := IntWalk.i64_in _ (by omega)
    clear hO hO1 hO2 he HN2
    go_enter Try.func28, Try.ntmps28
    go_wp2_with (first | (go_at_call 72; refine Calls.mono (c_IsTrace _ _ _ _) ?_; rw [hV]; rintro e w1 ⟨rfl, rfl⟩) | (go_at_call 72; refine Calls.mono (c_IsTrace _ _ _ _) ?_; rw [hW]; rintro e w1 ⟨rfl, rfl⟩) | (go_at_call 74; refine Calls.mono c_lags ?_; rintro e w2 ⟨g1, g2, g3, g4, rfl, ⟨q1, q2, q3, q4⟩, ⟨r1, r2, r3, r4⟩, hx2⟩; have C2 := Lib.hid (CC.out _ hx2 g1 g2 g3 g4 q1 q2 q3 q4 r1 r2 r3 r4); clear r1 r2 r3 r4) | (go_at_call 73; refine Calls.mono C2.out ?_; rintro e w3 ⟨v, rfl, ho, hx3⟩; obtain ⟨A2, c2, rfl, ho2⟩ := ho.owl; obtain ⟨b5, o5, t5, rfl, hb5, hc5, ht5⟩ := ho2.rd.cell hlt; rw [HL.out] at ht5) | (go_at_call 75; refine Calls.mono (c_greatestOf ho2.rd hNb) ?_; rw [HO.out, HP.out]; rintro e w4 ⟨rfl, n4, rfl⟩))
    go_quiet (fail)
    go_wp2_with (fail)
    go_ret3
    obtain ⟨x9, y1, y2, y3⟩ := retP_yes (w := w) (i := (Z : Int)) (b := d) (x := t5) hf.out (by rw [HE.out]; exact hd.symm) (by rw [HE.out]; exact ht5) (hx2.trans hx3)
    exact ⟨x9, y1, y2, (by repeat (first | assumption | exact Ext.refl _ | apply Ext.drewN | apply Ext.drew | apply Ext.alloc | (refine Ext.trans ?_ (by assumption)) | (refine Ext.set ?_ (by dsimp only; omega) _)))⟩
set_option linter.unusedSimpArgs false in
set_option maxRecDepth 20000 in
set_option maxHeartbeats 16000000 in
theorem c_spec_BestShift {w : World} {B n c : Nat} {A : Option Addr} {L : List (Option Nat)} (h : RdF w B A n L) (_hB : B ≤ w.heap.size) (_hn : n ≤ 1048576) (_hcap : n ≤ c) {B' m c' : Nat} {A' : Option Addr} {M : List (Option Nat)} (h' : RdF w B' A' m M) (_hB' : B' ≤ w.heap.size) (_hm : m ≤ 1048576) (_hcap' : m ≤ c') {i : Int} (_hi : -9223372036854775808 ≤ i) (_hj : i ≤ 9223372036854775807) :
    Calls Try.prog 27 #[.slice A n c, .slice A' m c', .int .i64 i] w fun e w' => RetP w e w' (okBs n m i) i (sF L M n i) (2 * i.toNat + 1) := by
  unfold okBs
  cases hV : tlen n
  · go_enter Try.func27, Try.ntmps27
    go_wp2_with (go_at_call 70; refine Calls.mono (c_l03Is _ _ _ _) ?_; rw [hV]; rintro e w1 ⟨rfl, rfl⟩)
    go_ret3
    exact retP_no rfl (by repeat (first | assumption | exact Ext.refl _ | apply Ext.drewN | apply Ext.drew | apply Ext.alloc | (refine Ext.trans ?_ (by assumption)) | (refine Ext.set ?_ (by dsimp only; omega) _)))
  cases hW : tlen m
  · go_enter Try.func27, Try.ntmps27
    go_wp2_with (first | (go_at_call 70; refine Calls.mono (c_l03Is _ _ _ _) ?_; rw [hV]; rintro e w1 ⟨rfl, rfl⟩) | (go_at_call 70; refine Calls.mono (c_l03Is _ _ _ _) ?_; rw [hW]; rintro e w1 ⟨rfl, rfl⟩))
    go_ret3
    exact retP_no rfl (by repeat (first | assumption | exact Ext.refl _ | apply Ext.drewN | apply Ext.drew | apply Ext.alloc | (refine Ext.trans ?_ (by assumption)) | (refine Ext.set ?_ (by dsimp only; omega) _)))
  cases hI : inB i 0 128
  · go_enter Try.func27, Try.ntmps27
    go_wp2_with (first | (go_at_call 70; refine Calls.mono (c_l03Is _ _ _ _) ?_; rw [hV]; rintro e w1 ⟨rfl, rfl⟩) | (go_at_call 70; refine Calls.mono (c_l03Is _ _ _ _) ?_; rw [hW]; rintro e w1 ⟨rfl, rfl⟩) | (go_at_call 71; refine Calls.mono (c_l00In _ _ _ _) ?_; rw [hI]; rintro e w1 ⟨rfl, rfl⟩))
    go_ret3
    exact retP_no rfl (by repeat (first | assumption | exact Ext.refl _ | apply Ext.drewN | apply Ext.drew | apply Ext.alloc | (refine Ext.trans ?_ (by assumption)) | (refine Ext.set ?_ (by dsimp only; omega) _)))
  obtain ⟨p1, p2⟩ := inB_of hI
  obtain ⟨Z, rfl⟩ : ∃ Z : Nat, i = (Z : Int) := ⟨i.toNat, by omega⟩
  rw [Int.toNat_natCast]
  have n1 := tlen_of hV
  have m1 := tlen_of hW
  have hl := Lib.hid h'.len
  obtain ⟨F, hF⟩ : ∃ F : Nat → Option Nat, F = sF L M n (Z : Int) := ⟨_, rfl⟩
  rw [← hF]
  have HFa : Hid (∀ k : Nat, F k = fcr L M (-(Z : Int) + (k : Int)) n) := Lib.hid (fun k => by rw [hF]; rfl)
  clear hF
  obtain ⟨lo, hlo⟩ : ∃ lo : Int, lo = -(Z : Int) := ⟨_, rfl⟩
  have hwl : IntKind.i64.wrap lo = lo := IntWalk.i64_in _ (by omega)
  have hl2 : -(Z : Int) = lo := hlo.symm
  obtain ⟨mm, hmm⟩ : ∃ mm : Int, (m : Int) - 1 = mm := ⟨_, rfl⟩
  have hwm : IntKind.i64.wrap mm = mm := IntWalk.i64_in _ (by omega)
  obtain ⟨N, hN⟩ : ∃ N : Nat, 2 * Z + 1 = N := ⟨_, rfl⟩
  rw [hN]
  have HN := Lib.hid hN
  have hlos : Hid (lo = -(Z : Int)) := Lib.hid hlo
  clear hlo hN p1 p2
  go_enter Try.func27, Try.ntmps27
  go_wp2_with (first | (go_at_call 70; refine Calls.mono (c_l03Is _ _ _ _) ?_; rw [hV]; rintro e w1 ⟨rfl, rfl⟩) | (go_at_call 70; refine Calls.mono (c_l03Is _ _ _ _) ?_; rw [hW]; rintro e w1 ⟨rfl, rfl⟩) | (go_at_call 71; refine Calls.mono (c_l00In _ _ _ _) ?_; rw [hI]; rintro e w1 ⟨rfl, rfl⟩))
  go_loopw [9, 10, 11, 12] (fun bv mv fv y wr => ∃ (k q2 t : Nat) (s bi : Int) (fb : Bool), k ≤ N ∧ s = -(Z : Int) + (k : Int) ∧ y = .int .i64 s ∧ bv = .int .i64 bi ∧ mv = .float .f32 q2 ∧ fv = .bool fb ∧ ((fhas F k = false ∧ fb = false ∧ bi = 0 ∧ q2 = 0) ∨ (fhas F k = true ∧ fb = true ∧ bi = (fbest F k : Int) - (Z : Int) ∧ Fl .f32 q2 (F (fbest F k)))) ∧ wr = w.drewN t) (fun _ _ _ y _ => ((Z : Int) + 1 - intOf y).toNat)
  case atStart => exact ⟨0, 0, 0, lo, 0, false, Nat.zero_le _, by rw [hlos.out]; omega, rfl, rfl, rfl, rfl, .inl ⟨rfl, rfl, rfl, rfl⟩, rfl⟩
  case round =>
    obtain ⟨k, q2, t, s, bi, fb, hkN, hsk, rfl, rfl, rfl, rfl, hst, rfl⟩ := hrel
    have HST := Lib.hid hst
    have HN2 := HN.out
    by_cases hlt : k < N
    · have hlt' : s ≤ (Z : Int) := by omega
      have hge : -128 ≤ s ∧ s ≤ 128 := by have := (inB_of hI).2; omega
      obtain ⟨hge1, hge2⟩ := hge
      obtain ⟨s1, hs1⟩ : ∃ s1 : Int, s + 1 = s1 := ⟨_, rfl⟩
      have hws1 : IntKind.i64.wrap s1 = s1 := IntWalk.i64_in _ (by omega)
      have hs1k : Hid (s1 = -(Z : Int) + ((k + 1 : Nat) : Int)) := Lib.hid (by omega)
      have hFk : Hid (F k = fcr L M s n) := Lib.hid (by rw [HFa.out, hsk])
      have hsk : Hid (s = (k : Int) - (Z : Int)) := Lib.hid (by omega)
      rename_i hsk0
      clear hsk0 HN2
      go_wp2_with (fail)
      go_loopw [13, 38] (fun x z wq => ∃ (i r q : Nat), i ≤ n ∧ z = .int .i64 i ∧ x = .float .f32 r ∧ Fl .f32 r (fcr L M s i) ∧ wq = w.drewN q) (fun _ z _ => n - (intOf z).toNat)
      case atStart => exact ⟨0, 0, t, Nat.zero_le _, rfl, rfl, fl_fz, rfl⟩
      case round =>
        obtain ⟨i, r, q, hi2, rfl, rfl, hr, rfl⟩ := hrel
        by_cases h1 : i < n
        · have h1' : (i : Int) < (n : Int) := by omega
          obtain ⟨D, hD⟩ : ∃ D : Int, (i : Int) + s = D := ⟨_, rfl⟩
          have hwD : IntKind.i64.wrap D = D := IntWalk.i64_in _ (by omega)
          cases hI2 : inB D 0 mm
          · have HT := Lib.hid (fcr_out (P := L) (T := M) (k := i) (v := s) (by rw [hl.out]; have := inB_not hI2; omega))
            go_wp2_with (go_at_call 71; refine Calls.mono (c_l00In _ _ _ _) ?_; rw [hI2]; rintro e w7 ⟨rfl, rfl⟩)
            exact ⟨⟨i + 1, r, q, by omega, by go_num, rfl, by rw [HT.out]; exact hr, rfl⟩, by simp [intOf]; omega⟩
          · obtain ⟨z1, z2⟩ := inB_of hI2
            obtain ⟨d, rfl⟩ : ∃ d : Nat, D = (d : Int) := ⟨D.toNat, by omega⟩
            have h2' : (d : Int) < (m : Int) := by omega
            obtain ⟨b1, o1, t1, rfl, hb1, hc1, ht1⟩ := h.cell h1
            obtain ⟨b2, o2, t2, rfl, hb2, hc2, ht2⟩ := h'.cell (show d < m by omega)
            have HT := Lib.hid (fcr_in (P := L) (T := M) (k := i) (t := d) (v := s) hD (by rw [hl.out]; omega))
            go_wp2_with (go_at_call 71; refine Calls.mono (c_l00In _ _ _ _) ?_; rw [hI2]; rintro e w7 ⟨rfl, rfl⟩)
            refine wp_region_loose 11 (by kernel_rfl) (by kernel_rfl) ?_
            simp only [List.take_succ_cons, List.take_zero, List.drop_succ_cons, List.drop_zero]
            refine la_start ?_
            refine la_fix _ (by rfl) (by intros; go_simp; rfl) ?_
            try simp only [Act.put, List.setIfInBounds_toArray, List.set_cons_zero, List.set_cons_succ]
            refine la_fix _ (by rfl) (by intros; go_simp; rfl) ?_
            try simp only [Act.put, List.setIfInBounds_toArray, List.set_cons_zero, List.set_cons_succ]
            refine la_fix _ (by rfl) (by intros; go_simp; rfl) ?_
            try simp only [Act.put, List.setIfInBounds_toArray, List.set_cons_zero, List.set_cons_succ]
            refine la_fix _ (by rfl) (by intros; go_simp; rfl) ?_
            try simp only [Act.put, List.setIfInBounds_toArray, List.set_cons_zero, List.set_cons_succ]
            refine la_fix _ (by rfl) (by intros; go_simp; rfl) ?_
            try simp only [Act.put, List.setIfInBounds_toArray, List.set_cons_zero, List.set_cons_succ]
            refine la_fix _ (by rfl) (by intros; go_simp; rfl) ?_
            try simp only [Act.put, List.setIfInBounds_toArray, List.set_cons_zero, List.set_cons_succ]
            refine la_fix _ (by rfl) (by intros; go_simp; rfl) ?_
            try simp only [Act.put, List.setIfInBounds_toArray, List.set_cons_zero, List.set_cons_succ]
            refine la_fix _ (by rfl) (by intros; go_simp; rfl) ?_
            try simp only [Act.put, List.setIfInBounds_toArray, List.set_cons_zero, List.set_cons_succ]
            refine la_fix _ (by rfl) (by intros; go_simp; rfl) ?_
            try simp only [Act.put, List.setIfInBounds_toArray, List.set_cons_zero, List.set_cons_succ]
            refine la_fop (op := .mul) (by rfl) (by rfl) (by intros; refine ⟨_, _, ?_, ?_, fun q => (by go_simp; rfl)⟩ <;> (first | assumption | exact fl_fu | exact fl_fz)) ?_
            try simp only [Act.put, List.setIfInBounds_toArray, List.set_cons_zero, List.set_cons_succ]
            refine la_fop (op := .add) (by rfl) (by rfl) (by intros; refine ⟨_, _, ?_, ?_, fun q => (by go_simp; rfl)⟩ <;> (first | assumption | exact fl_fu | exact fl_fz)) ?_
            try simp only [Act.put, List.setIfInBounds_toArray, List.set_cons_zero, List.set_cons_succ]
            refine la_end ?_
            intro r5 hr5 r6 hr6 q3
            rw [← HT.out] at hr6
            go_wp2_with (fail)
            exact ⟨⟨i + 1, r6, _, by omega, by go_num, rfl, hr6, by first | rfl | exact World.drewN_drewN _ _ _⟩, by simp [intOf]; omega⟩
        · obtain ⟨e9, he9⟩ : ∃ e9 : Nat, e9 = i := ⟨_, rfl⟩
          have hin : n = i := by omega
          subst hin
          have hr' : Fl .f32 r (F k) := by rw [hFk.out]; exact hr
          clear hr
          have hself := order_self_ne .f32 r
          rw [hr'.eq] at hself
          cases hX : (F k).isSome
          · have hXn : F k = none := by cases hF : F k with
              | none => rfl
              | some x => rw [hF] at hX; cases hX
            rw [hXn] at hself
            have hs2 : (FloatKind.f32.format.order r r == some .eq) = false := by
              have hself2 : (!(FloatKind.f32.format.order r r == some .eq)) = true := hself
              simpa using hself2
            obtain ⟨e1, e2⟩ := fbest_skip hXn
            have E1 := Lib.hid e1
            have E2 := Lib.hid e2
            clear hself e1 e2 hXn hX hst
            go_wp2_with (fail)
            exact ⟨⟨k + 1, q2, _, s1, bi, fb, by omega, hs1k.out, rfl, rfl, rfl, rfl, by rw [E1.out, E2.out]; exact HST.out, by first | rfl | (simp only [World.drewN_drewN])⟩, by simp [intOf]; omega⟩
          · have hs2 : (FloatKind.f32.format.order r r == some .eq) = true := by
              cases hF : F k with
              | none => rw [hF] at hX; cases hX
              | some x =>
                rw [hF] at hself
                have hself2 : (!(FloatKind.f32.format.order r r == some .eq)) = false := hself
                simpa using hself2
            rcases hst with ⟨hH, rfl, rfl, rfl⟩ | ⟨hH, rfl, hbi, hq2⟩
            · obtain ⟨e1, e2⟩ := fbest_first hH hX
              have E1 := Lib.hid e1
              have E2 := Lib.hid e2
              clear hself e1 e2 hX hH
              go_wp2_with (fail)
              exact ⟨⟨k + 1, r, _, s1, s, true, by omega, hs1k.out, rfl, rfl, rfl, rfl, .inr ⟨E2.out, rfl, by rw [E1.out]; exact hsk.out, by rw [E1.out]; exact hr'⟩, by first | rfl | (simp only [World.drewN_drewN])⟩, by simp [intOf]; omega⟩
            · obtain ⟨e, he⟩ : ∃ e, fbest F k = e := ⟨_, rfl⟩
              have HE := Lib.hid he
              have hogt := hr'.ogt hq2
              rw [he] at hogt
              have HBI := Lib.hid hbi
              clear hbi
              cases hg : fgt32 (F k) (F e)
              · obtain ⟨e1, e2⟩ := fbest_less hH (by rw [he]; exact hg)
                rw [hg] at hogt
                have E1 := Lib.hid e1
                have E2 := Lib.hid e2
                have HQ2 := Lib.hid hq2
                clear hself e1 e2 hX hH hg hq2 he
                go_wp2_with (fail)
                exact ⟨⟨k + 1, q2, _, s1, bi, true, by omega, hs1k.out, rfl, rfl, rfl, rfl, .inr ⟨E2.out, rfl, by rw [E1.out]; exact HBI.out, by rw [E1.out]; exact HQ2.out⟩, by first | rfl | (simp only [World.drewN_drewN])⟩, by simp [intOf]; omega⟩
              · obtain ⟨e1, e2⟩ := fbest_more hH hX (by rw [he]; exact hg)
                rw [hg] at hogt
                have E1 := Lib.hid e1
                have E2 := Lib.hid e2
                clear hself e1 e2 hX hH hg hq2 he
                go_wp2_with (fail)
                exact ⟨⟨k + 1, r, _, s1, s, true, by omega, hs1k.out, rfl, rfl, rfl, rfl, .inr ⟨E2.out, rfl, by rw [E1.out]; exact hsk.out, by rw [E1.out]; exact hr'⟩, by first | rfl | (simp only [World.drewN_drewN])⟩, by simp [intOf]; omega⟩
    · have hkN2 : N = k := by omega
      subst hkN2
      have hlt' : ¬ s ≤ (Z : Int) := by omega
      clear hsk HN2
      rcases hst with ⟨hH, rfl, rfl, rfl⟩ | ⟨hH, rfl, hbi, hq2⟩
      · have hf : Hid (bpO true F N = false) := Lib.hid (by unfold bpO; rw [hH]; rfl)
        clear hH
        go_wp2_with (fail)
        go_ret3
        exact retP_no hf.out (by repeat (first | assumption | exact Ext.refl _ | apply Ext.drewN | apply Ext.drew | apply Ext.alloc | (refine Ext.trans ?_ (by assumption)) | (refine Ext.set ?_ (by dsimp only; omega) _)))
      · have hf : Hid (bpO true F N = true) := Lib.hid (by unfold bpO; rw [hH]; rfl)
        have HBI := Lib.hid hbi
        have HQ2 := Lib.hid hq2
        clear hH hbi hq2
        go_wp2_with (fail)
        go_ret3
        exact retP_yes hf.out HBI.out HQ2.out (by repeat (first | assumption | exact Ext.refl _ | apply Ext.drewN | apply Ext.drew | apply Ext.alloc | (refine Ext.trans ?_ (by assumption)) | (refine Ext.set ?_ (by dsimp only; omega) _)))
theorem both_BestShift {n0 : Nat} {L0 : List (Option Nat)} (_hl0 : L0.length = n0) (hn0 : n0 ≤ 1048576) {n1 : Nat} {L1 : List (Option Nat)} (_hl1 : L1.length = n1) (hn1 : n1 ≤ 1048576) {i2 : Int} (hi2 : -9223372036854775808 ≤ i2) (hj2 : i2 ≤ 9223372036854775807) :
    ∃ ok iz X, (∀ W : World, ∀ (B0 : Nat) (A0 : Option Addr) (c0 : Nat), RdF W B0 A0 n0 L0 → B0 ≤ W.heap.size → n0 ≤ c0 → ∀ (B1 : Nat) (A1 : Option Addr) (c1 : Nat), RdF W B1 A1 n1 L1 → B1 ≤ W.heap.size → n1 ≤ c1 → Calls Try.prog 27 #[.slice A0 n0 c0, .slice A1 n1 c1, .int .i64 i2] W fun e w' => ∃ x, e = .returned (.tuple #[.int .i64 iz, .float .f32 x, .bool ok]) ∧ Fl .f32 x X ∧ Ext W w') ∧
      (∀ W : World, ∀ (B0 : Nat) (A0 : Option Addr) (c0 : Nat), RdF W B0 A0 n0 L0 → B0 ≤ W.heap.size → n0 ≤ c0 → ∀ (B1 : Nat) (A1 : Option Addr) (c1 : Nat), RdF W B1 A1 n1 L1 → B1 ≤ W.heap.size → n1 ≤ c1 → Calls Try.prog 28 #[.slice A0 n0 c0, .slice A1 n1 c1, .int .i64 i2] W fun e w' => ∃ x, e = .returned (.tuple #[.int .i64 iz, .float .f32 x, .bool ok]) ∧ Fl .f32 x X ∧ Ext W w') :=
  ⟨_, _, _, fun W _ _ _ h0 hB0 hc0 _ _ _ h1 hB1 hc1 => c_spec_BestShift (w := W) h0 hB0 hn0 hc0 h1 hB1 hn1 hc1 hi2 hj2, fun W _ _ _ h0 hB0 hc0 _ _ _ h1 hB1 hc1 => c_impl_BestShift (w := W) h0 hB0 hn0 hc0 h1 hB1 hn1 hc1 hi2 hj2⟩
end Go.Proofs.Ytceldjkgddbfaab
