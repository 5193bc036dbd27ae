/- Contracts: predictions and shaping filters, on both sides. Condition: the lists are read. -/
import Derived.Test.YtceldjkgddbfaabPd
import Derived.Test.YtceldjkgddbfaabWn
import Derived.Test.YtceldjkgddbfaabFd
import Derived.Test.YtceldjkgddbfaabMo2
namespace Go.Proofs.Ytceldjkgddbfaab
open Go.RowKit Ieee

theorem size_drew (w : World) : w.drew.heap.size = w.heap.size := rfl
/-- Equations with white noise. -/
def okSw (n m : Nat) (P : Option Nat) (L : List (Option Nat)) : Bool := okWh n P && okSv n m (lst (fwhite L P) n)
def swF (n : Nat) (P : Option Nat) (L M : List (Option Nat)) : List (Option Nat) := tF (lst (fwhite L P) n) M (n - 1)
set_option maxRecDepth 20000 in
set_option maxHeartbeats 4000000 in
theorem c_solveWhite {w : World} {B n c : Nat} {A : Option Addr} {L : List (Option Nat)} (h : RdF w B A n L) (hB : B ≤ w.heap.size) (hn : n ≤ 1048576) {p : Nat} {P : Option Nat} (fp : Fl .f32 p P) {B' m c' : Nat} {A' : Option Addr} {M : List (Option Nat)} (h' : RdF w B' A' m M) (hB' : B' ≤ w.heap.size) (hm : m ≤ 1048576) :
    Calls Try.prog 63 #[.slice A n c, .float .f32 p, .slice A' m c'] w fun e w' => RetL w e w' (okSw n m P L) (swF n P L M) := by
  unfold okSw swF
  cases hW : okWh n P
  · go_enter Try.func63, Try.ntmps63
    go_wp2_with (go_at_call 110; refine Calls.mono (c_impl_WhiteAuto h hB hn fp) ?_; rw [hW]; rintro e w2 ⟨A2, n2, c2, rfl, ho, hx2⟩)
    go_ret2
    exact retL_no rfl hx2
  rw [Bool.true_and]
  go_enter Try.func63, Try.ntmps63
  go_wp2_with (first | (go_at_call 110; refine Calls.mono (c_impl_WhiteAuto h hB hn fp) ?_; rw [hW]; rintro e w2 ⟨A2, n2, c2, rfl, ho, hx2⟩; obtain rfl : n = n2 := (by have h9 := ho.len; simp only [outL, if_true, lst_len] at h9; exact h9)) | (go_at_call 15; refine Calls.mono (c_impl_SolveToeplitz ho.rd (Nat.le_refl _) hn (h'.below (hx2.mono hB')) (Nat.le_trans hB' hx2.size) hm) ?_; simp only [outL, if_true]; rintro e w3 ⟨A3, n3, c3, rfl, ho3, hx3⟩))
  go_ret2
  exact ⟨_, _, _, rfl, ho3.more hx2.size (Nat.le_refl _), hx2.trans hx3⟩
/-- The auto of a prediction, and the numbers ahead. -/
def prX (L : List (Option Nat)) (n : Nat) (N : Nat) : List (Option Nat) := lst (fun k => fcr L L (k : Int) n) N
def prT (L : List (Option Nat)) (n g c : Nat) : List (Option Nat) := (prX L n (g + c)).take c
def prD (L : List (Option Nat)) (n g c : Nat) : List (Option Nat) := lst (fun j => (prX L n (g + c)).getD (g + j) none) c
def okPr (n : Nat) (i j : Int) (P : Option Nat) (L : List (Option Nat)) : Bool := tlen n && (inB i 1 24 && (inB j 1 24 && (inB (i + j) 1 24 && okSw j.toNat j.toNat P (prT L n i.toNat j.toNat))))
def prF (n : Nat) (i j : Int) (P : Option Nat) (L : List (Option Nat)) : List (Option Nat) := swF j.toNat P (prT L n i.toNat j.toNat) (prD L n i.toNat j.toNat)
theorem prF_len (n : Nat) (i j : Int) (P : Option Nat) (L : List (Option Nat)) : (prF n i j P L).length = j.toNat - 1 + 1 := by unfold prF swF; rw [tF_len]
theorem okSw_at {c : Nat} {P : Option Nat} {L : List (Option Nat)} (h1 : 1 ≤ c) (h2 : c ≤ 24) : okSw c c P L = (fway P && tok (lst (fwhite L P) c) (c - 1)) := by
  unfold okSw okWh okSv
  rw [same2_yes rfl, show elen c = true by rw [← elen_int]; exact inB_yes (by omega) (by omega)]
  simp
set_option maxRecDepth 20000 in
set_option maxHeartbeats 8000000 in
theorem c_l05Predict {w : World} {B n c : Nat} {A : Option Addr} {L : List (Option Nat)} (h : RdF w B A n L) (hB : B ≤ w.heap.size) (hn : n ≤ 1048576) {i j : Int} {p : Nat} {P : Option Nat} (fp : Fl .f32 p P) :
    Calls Try.prog 61 #[.slice A n c, .int .i64 i, .int .i64 j, .float .f32 p] w fun e w' => RetL w e w' (okPr n i j P L) (prF n i j P L) := by
  unfold okPr
  cases hV : tlen n
  · go_enter Try.func61, Try.ntmps61
    go_wp2_with (go_at_call 70; refine Calls.mono (c_l03Is _ _ _ _) ?_; rw [hV]; rintro e w1 ⟨rfl, rfl⟩)
    go_ret2
    exact retL_no rfl (by repeat (first | assumption | exact Ext.refl _ | apply Ext.drewN | apply Ext.drew | apply Ext.alloc | (refine Ext.trans ?_ (by assumption)) | (refine Ext.set ?_ (by dsimp only; omega) _)))
  cases hI : inB i 1 24
  · go_enter Try.func61, Try.ntmps61
    go_wp2_with (first | (go_at_call 70; refine Calls.mono (c_l03Is _ _ _ _) ?_; rw [hV]; rintro e w1 ⟨rfl, rfl⟩) | (go_at_call 71; refine Calls.mono (c_l00In _ _ _ _) ?_; rw [hI]; rintro e w1 ⟨rfl, rfl⟩))
    go_ret2
    exact retL_no rfl (by repeat (first | assumption | exact Ext.refl _ | apply Ext.drewN | apply Ext.drew | apply Ext.alloc | (refine Ext.trans ?_ (by assumption)) | (refine Ext.set ?_ (by dsimp only; omega) _)))
  cases hJ : inB j 1 24
  · go_enter Try.func61, Try.ntmps61
    go_wp2_with (first | (go_at_call 70; refine Calls.mono (c_l03Is _ _ _ _) ?_; rw [hV]; rintro e w1 ⟨rfl, rfl⟩) | (go_at_call 71; refine Calls.mono (c_l00In _ _ _ _) ?_; rw [hI]; rintro e w1 ⟨rfl, rfl⟩) | (go_at_call 71; refine Calls.mono (c_l00In _ _ _ _) ?_; rw [hJ]; rintro e w1 ⟨rfl, rfl⟩))
    go_ret2
    exact retL_no rfl (by repeat (first | assumption | exact Ext.refl _ | apply Ext.drewN | apply Ext.drew | apply Ext.alloc | (refine Ext.trans ?_ (by assumption)) | (refine Ext.set ?_ (by dsimp only; omega) _)))
  obtain ⟨p1, p2⟩ := inB_of hI
  obtain ⟨p3, p4⟩ := inB_of hJ
  obtain ⟨gp, rfl⟩ : ∃ N : Nat, i = (N : Int) := ⟨i.toNat, by omega⟩
  obtain ⟨ct, rfl⟩ : ∃ N : Nat, j = (N : Int) := ⟨j.toNat, by omega⟩
  obtain ⟨N, hN⟩ : ∃ N, N = gp + ct := ⟨_, rfl⟩
  have hs : (gp : Int) + (ct : Int) = (N : Int) := by omega
  have hwr : IntKind.i64.wrap (N : Int) = (N : Int) := IntWalk.i64_in _ (by omega)
  rw [hs]
  cases hG : inB (N : Int) 1 24
  · have hgt : (24 : Int) < (N : Int) := by
      rcases Int.lt_or_le 24 (N : Int) with h9 | h9
      · exact h9
      · rw [inB_yes (by omega) h9] at hG; cases hG
    clear p1 p2 p3 p4 hN
    go_enter Try.func61, Try.ntmps61
    go_wp2_with (first | (go_at_call 70; refine Calls.mono (c_l03Is _ _ _ _) ?_; rw [hV]; rintro e w1 ⟨rfl, rfl⟩) | (go_at_call 71; refine Calls.mono (c_l00In _ _ _ _) ?_; rw [hI]; rintro e w1 ⟨rfl, rfl⟩) | (go_at_call 71; refine Calls.mono (c_l00In _ _ _ _) ?_; rw [hJ]; rintro e w1 ⟨rfl, rfl⟩))
    go_ret2
    exact retL_no rfl (by repeat (first | assumption | exact Ext.refl _ | apply Ext.drewN | apply Ext.drew | apply Ext.alloc | (refine Ext.trans ?_ (by assumption)) | (refine Ext.set ?_ (by dsimp only; omega) _)))
  have hgt : ¬ ((24 : Int) < (N : Int)) := by have := (inB_of hG).2; omega
  have hct1 : 1 ≤ ct := by omega
  have hct2 : ct ≤ 24 := by omega
  simp only [Int.toNat_natCast, Bool.true_and]
  rw [okSw_at hct1 hct2]
  have hN24 : N ≤ 24 := by have := (inB_of hG).2; omega
  have hNp : 0 < N := by omega
  have hcN : ct ≤ N := by omega
  have hgN : gp ≤ N := by omega
  have hgd : N - gp = ct := by omega
  have hgdI : (N : Int) - (gp : Int) = (ct : Int) := by omega
  have q1 : ¬ ((ct : Int) < 0) := by omega
  have q2 : ¬ ((gp : Int) < 0) := by omega
  have q3 : ¬ ((N : Int) < (ct : Int)) := by omega
  have q4 : ¬ ((N : Int) < (gp : Int)) := by omega
  clear p1 p2 p3 p4
  have HN := Lib.hid hN
  clear hN hgd
  cases hW : fway P
  · go_enter Try.func61, Try.ntmps61
    go_wp2_with (first | (go_at_call 70; refine Calls.mono (c_l03Is _ _ _ _) ?_; rw [hV]; rintro e w1 ⟨rfl, rfl⟩) | (go_at_call 71; refine Calls.mono (c_l00In _ _ _ _) ?_; rw [hI]; rintro e w1 ⟨rfl, rfl⟩) | (go_at_call 71; refine Calls.mono (c_l00In _ _ _ _) ?_; rw [hJ]; rintro e w1 ⟨rfl, rfl⟩) | (go_at_call 107; refine Calls.mono (c_l05Near fp _) ?_; rw [hW]; rintro e w1 ⟨rfl, n1, rfl⟩))
    go_ret2
    exact retL_no rfl (by repeat (first | assumption | exact Ext.refl _ | apply Ext.drewN | apply Ext.drew | apply Ext.alloc | (refine Ext.trans ?_ (by assumption)) | (refine Ext.set ?_ (by dsimp only; omega) _)))
  rw [Bool.true_and]
  go_enter Try.func61, Try.ntmps61
  go_wp2_with (first | (go_at_call 70; refine Calls.mono (c_l03Is _ _ _ _) ?_; rw [hV]; rintro e w1 ⟨rfl, rfl⟩) | (go_at_call 71; refine Calls.mono (c_l00In _ _ _ _) ?_; rw [hI]; rintro e w1 ⟨rfl, rfl⟩) | (go_at_call 71; refine Calls.mono (c_l00In _ _ _ _) ?_; rw [hJ]; rintro e w1 ⟨rfl, rfl⟩) | (go_at_call 107; refine Calls.mono (c_l05Near fp _) ?_; rw [hW]; rintro e w1 ⟨rfl, n1, rfl⟩) | (go_at_call 108; refine Calls.mono (c_l05Auto (h.drewN _) hB hn hN24) ?_; rintro e w2 ⟨v, rfl, ho, hx2⟩; obtain ⟨A2, c2, rfl, hcc, ho2⟩ := ho.owlc; obtain ⟨g2, o2, rfl, hg2, hg3⟩ := ho2.block hNp; have hcc2 : ¬ ((c2 : Int) < (ct : Int)) := (by omega); have hcc3 : ¬ ((c2 : Int) < (N : Int)) := (by omega)))
  have eT : (lst (fun k : Nat => fcr L L (k : Int) n) N).take ct = prT L n gp ct := by unfold prT prX; rw [← HN.out]
  have eD : lst (fun j => (lst (fun k : Nat => fcr L L (k : Int) n) N).getD (gp + j) none) ct = prD L n gp ct := by unfold prD prX; rw [← HN.out]
  have hRT := ho2.rd.take hcN
  have hRD := ho2.rd.sub (lo := gp) (d := ct) (by have := HN.out; omega)
  rw [eT] at hRT
  rw [eD] at hRD
  have HW := Lib.hid (fun (W : World) (hW : Ext w2 W) => c_l05White (w := W) (c := c2) (hRT.below hW) hW.size (by omega) hct1 fp)
  have HRD := Lib.hid hRD
  obtain ⟨d2, hd2⟩ : ∃ d2 : Nat, c2 - gp = d2 := ⟨_, rfl⟩
  have hd2I : (c2 : Int) - (gp : Int) = (d2 : Int) := by omega
  have hne : ¬ c2 = gp := by have := HN.out; omega
  have hgd : N - gp = ct := by have := HN.out; omega
  clear hRT hRD ho ho2 eT eD
  obtain ⟨LW, hLW⟩ : ∃ LW, lst (fwhite (prT L n gp ct) P) ct = LW := ⟨_, rfl⟩
  obtain ⟨LD, hLD⟩ : ∃ LD, prD L n gp ct = LD := ⟨_, rfl⟩
  rw [hLW] at HW
  rw [hLD] at HRD
  have HLW := Lib.hid hLW
  have HLD := Lib.hid hLD
  clear hLW hLD
  refine wp_region_any (by kernel_rfl) ?_
  refine wpAny_mo_go (md := .any) (R := Ext) (w := w2) [(0, 45), (1, 46), (2, 47), (3, 48), (4, 49), (5, 50), (6, 51), (7, 52), (8, 53), (9, 44), (10, 54), (11, 55), (12, 56), (13, 57), (14, 11), (15, 12), (16, 13)] [17] (tl := [_]) (S := ?S1_) (by kernel_rfl) (by rfl) (by rfl) Ext.refl ext_tr (ext_drew1 _) ?hS1_ ?go1_
  case hS1_ => intro vs; simp only [putAll, Act.put, List.setIfInBounds_toArray, List.set_cons_zero, List.set_cons_succ]; rfl
  case go1_ =>
  refine mo_fix _ (by rfl) (by rfl) (by intro vs w1 hx_ hd; go_simp; first | done | rfl) ?_
  refine mo_fix _ (by rfl) (by rfl) (by intro vs w1 hx_ hd; go_simp; first | done | rfl) ?_
  refine mo_fix _ (by rfl) (by rfl) (by intro vs w1 hx_ hd; have e0 := hd 0 (by kernel_rfl); have e1 := hd 1 (by kernel_rfl); simp (decide := true) only [factAt, if_true, if_false] at e0 e1; simp only [e0, e1]; go_simp; first | done | rfl) ?_
  refine mo_fix _ (by rfl) (by rfl) (by intro vs w1 hx_ hd; go_simp; first | done | rfl) ?_
  refine mo_call (fun v w => ∃ g4 c4 hi, v = .slice (some ⟨g4, 0, none⟩) ct c4 ∧ hi ≤ w.heap.size ∧ OwL w w2.heap.size hi (some ⟨g4, 0, none⟩) ct LW) (by rfl) (by rfl) (by rintro v wa wb ⟨g4, c4, hi, h1, h2, h3⟩ hxab; exact ⟨g4, c4, hi, h1, Nat.le_trans h2 hxab.size, h3.ext h2 hxab⟩) (by intro vs w1 hx_ hd; have e2 := hd 2 (by kernel_rfl); have e3 := hd 3 (by kernel_rfl); simp (decide := true) only [factAt, if_true, if_false] at e2 e3; simp only [e2, e3]; refine ⟨_, _, by go_simp; first | done | rfl | exact ⟨rfl, rfl⟩, ?_⟩; refine Calls.mono (HW.out w1 hx_) ?_; rintro e w4 ⟨g4, c4, rfl, ho4, hx4⟩; exact ⟨_, rfl, ⟨g4, c4, w4.heap.size, rfl, Nat.le_refl _, ho4.more hx_.size (Nat.le_refl _)⟩, hx4⟩) ?_
  refine mo_fix _ (by rfl) (by rfl) (by intro vs w1 hx_ hd; go_simp; first | done | rfl) ?_
  refine mo_fix _ (by rfl) (by rfl) (by intro vs w1 hx_ hd; go_simp; first | done | rfl) ?_
  refine mo_fix _ (by rfl) (by rfl) (by intro vs w1 hx_ hd; have e5 := hd 5 (by kernel_rfl); have e6 := hd 6 (by kernel_rfl); simp (decide := true) only [factAt, if_true, if_false] at e5 e6; simp only [e5, e6]; go_simp; first | done | rfl) ?_
  refine mo_call (fun v w => ∃ fv lv r, v = .tuple #[fv, lv, .float .f32 r, .bool (tok LW (ct - 1))] ∧ (tok LW (ct - 1) = true → ∃ A3 c3 hi, fv = .slice A3 ct c3 ∧ hi ≤ w.heap.size ∧ OwL w w2.heap.size hi A3 ct (tF LW LD (ct - 1))) ∧ (tok LW (ct - 1) = false → fv = .slice none 0 0)) (by rfl) (by rfl) (by rintro v wa wb ⟨fv, lv, r, h1, h2, h3⟩ hxab; exact ⟨fv, lv, r, h1, fun e => by obtain ⟨A3, c3, hi, q1, q2, q3⟩ := h2 e; exact ⟨A3, c3, hi, q1, Nat.le_trans q2 hxab.size, q3.ext q2 hxab⟩, h3⟩) (by intro vs w1 hx_ hd; have e4 := hd 4 (by kernel_rfl); have e7 := hd 7 (by kernel_rfl); simp (decide := true) only [factAt, if_true, if_false] at e4 e7; obtain ⟨g4, c4, hi, e4, h4, ho4⟩ := e4; simp only [e4, e7]; refine ⟨_, _, by go_simp; first | done | rfl | exact ⟨rfl, rfl⟩, ?_⟩; refine Calls.mono (c_l05Solve ho4.rd h4 hct2 hct1 (HRD.out.below hx_) hx_.size) ?_; rintro e w5 ⟨fv, lv, r, rfl, hyes, hno, hx5⟩; exact ⟨_, rfl, ⟨fv, lv, r, rfl, fun e => by obtain ⟨A3, c3, q1, q2⟩ := hyes e; exact ⟨A3, c3, w5.heap.size, q1, Nat.le_refl _, q2.more hx_.size (Nat.le_refl _)⟩, hno⟩, hx5⟩) ?_
  refine mo_of (fun us => us 8) (by rfl) (by rfl) (by intro us vs w1 hu hx_ hd; have e8 := hd 8 (by kernel_rfl); simp (decide := true) only [factAt, if_true, if_false] at e8; rw [hu 8 (by kernel_rfl)]; go_simp; first | done | rfl) ?_
  refine mo_of (fun us => tupAt (us 9) 0) (by rfl) (by rfl) (by intro us vs w1 hu hx_ hd; obtain ⟨u9, h9, e9⟩ := seen_got (hd 9 (by kernel_rfl)); have e8 := hd 8 (by kernel_rfl); simp (decide := true) only [factAt, if_true, if_false] at e8 e9; rw [h9 8 (by kernel_rfl)] at e9; obtain ⟨fv, lv, r, e8, _⟩ := e8; rw [hu 9 (by kernel_rfl), e9, e8]; go_simp; first | done | rfl) ?_
  refine mo_of (fun us => tupAt (us 9) 1) (by rfl) (by rfl) (by intro us vs w1 hu hx_ hd; obtain ⟨u9, h9, e9⟩ := seen_got (hd 9 (by kernel_rfl)); have e8 := hd 8 (by kernel_rfl); simp (decide := true) only [factAt, if_true, if_false] at e8 e9; rw [h9 8 (by kernel_rfl)] at e9; obtain ⟨fv, lv, r, e8, _⟩ := e8; rw [hu 9 (by kernel_rfl), e9, e8]; go_simp; first | done | rfl) ?_
  refine mo_of (fun us => tupAt (us 9) 2) (by rfl) (by rfl) (by intro us vs w1 hu hx_ hd; obtain ⟨u9, h9, e9⟩ := seen_got (hd 9 (by kernel_rfl)); have e8 := hd 8 (by kernel_rfl); simp (decide := true) only [factAt, if_true, if_false] at e8 e9; rw [h9 8 (by kernel_rfl)] at e9; obtain ⟨fv, lv, r, e8, _⟩ := e8; rw [hu 9 (by kernel_rfl), e9, e8]; go_simp; first | done | rfl) ?_
  refine mo_of (fun us => tupAt (us 9) 3) (by rfl) (by rfl) (by intro us vs w1 hu hx_ hd; obtain ⟨u9, h9, e9⟩ := seen_got (hd 9 (by kernel_rfl)); have e8 := hd 8 (by kernel_rfl); simp (decide := true) only [factAt, if_true, if_false] at e8 e9; rw [h9 8 (by kernel_rfl)] at e9; obtain ⟨fv, lv, r, e8, _⟩ := e8; rw [hu 9 (by kernel_rfl), e9, e8]; go_simp; first | done | rfl) ?_
  refine mo_of (fun us => us 10) (by rfl) (by rfl) (by intro us vs w1 hu hx_ hd; have e10 := hd 10 (by kernel_rfl); simp (decide := true) only [factAt, if_true, if_false] at e10; rw [hu 10 (by kernel_rfl)]; go_simp; first | done | rfl) ?_
  refine mo_of (fun us => us 11) (by rfl) (by rfl) (by intro us vs w1 hu hx_ hd; have e11 := hd 11 (by kernel_rfl); simp (decide := true) only [factAt, if_true, if_false] at e11; rw [hu 11 (by kernel_rfl)]; go_simp; first | done | rfl) ?_
  refine mo_of (fun us => us 12) (by rfl) (by rfl) (by intro us vs w1 hu hx_ hd; have e12 := hd 12 (by kernel_rfl); simp (decide := true) only [factAt, if_true, if_false] at e12; rw [hu 12 (by kernel_rfl)]; go_simp; first | done | rfl) ?_
  refine mo_end ?_
  intro vs w3 hx3 hd
  have e8 := hd 8 (by kernel_rfl)
  obtain ⟨u9, h9, e9⟩ := seen_got (hd 9 (by kernel_rfl))
  obtain ⟨u10, h10, e10⟩ := seen_got (hd 10 (by kernel_rfl))
  obtain ⟨u13, h13, e13⟩ := seen_got (hd 13 (by kernel_rfl))
  obtain ⟨u14, h14, e14⟩ := seen_got (hd 14 (by kernel_rfl))
  simp (decide := true) only [factAt, if_true, if_false] at e8 e9 e10 e13 e14
  rw [h9 8 (by kernel_rfl)] at e9
  rw [h10 9 (by kernel_rfl)] at e10
  rw [h13 9 (by kernel_rfl)] at e13
  rw [h14 10 (by kernel_rfl)] at e14
  obtain ⟨fv, lv, r, e8, hyes, hno⟩ := e8
  rw [e8] at e9
  rw [e9] at e10 e13
  replace e10 : vs 10 = fv := e10
  replace e13 : vs 13 = .bool (tok LW (ct - 1)) := e13
  rw [e10] at e14
  simp only [e13, e14]
  clear hd h9 h10 h13 h14
  go_wp2_with (fail)
  go_ret2
  have z2 := hx2.size
  simp only [size_drewN] at z2
  rw [HLW.out]
  cases hT : tok LW (ct - 1)
  · rw [hno hT]; exact retL_no rfl (by repeat (first | assumption | exact Ext.refl _ | apply Ext.drewN | apply Ext.drew | apply Ext.alloc | (refine Ext.trans ?_ (by assumption)) | (refine Ext.set ?_ (by dsimp only; omega) _)))
  · obtain ⟨A3, c3, hi, rfl, q2, ho5⟩ := hyes hT
    rw [← HLW.out, ← HLD.out] at ho5
    exact ⟨_, _, _, rfl, ho5.more (by omega) q2, (by repeat (first | assumption | exact Ext.refl _ | apply Ext.drewN | apply Ext.drew | apply Ext.alloc | (refine Ext.trans ?_ (by assumption)) | (refine Ext.set ?_ (by dsimp only; omega) _)))⟩
end Go.Proofs.Ytceldjkgddbfaab
