/- Contracts: predictions, the program and both. Condition: the lists are read. -/
import Derived.Test.YtceldjkgddbfaabPe
namespace Go.Proofs.Ytceldjkgddbfaab
open Go.RowKit Ieee

set_option maxRecDepth 20000 in
set_option maxHeartbeats 8000000 in
theorem c_impl_PredictionOf {w : World} {B n c : Nat} {A : Option Addr} {L : List (Option Nat)} (h : RdF w B A n L) (hB : B ≤ w.heap.size) (hn : n ≤ 1048576) (hcap : n ≤ c) {i j : Int} (_hi : -9223372036854775808 ≤ i) (_hj : i ≤ 9223372036854775807) (_hi2 : -9223372036854775808 ≤ j) (_hj2 : j ≤ 9223372036854775807) {p : Nat} {P : Option Nat} (fp : Fl .f32 p P) :
    Calls Try.prog 20 #[.slice A n c, .int .i64 i, .int .i64 j, .float .f32 p] w fun e w' => RetL w e w' (okPr n i j P L) (prF n i j P L) := by
  unfold okPr
  cases hI : inB i 1 24
  · rw [Bool.false_and, Bool.and_false]
    go_enter Try.func20, Try.ntmps20
    go_wp2_with (first | (go_at_call 53; refine Calls.mono (c_isFilterLength _ _) ?_; rw [hI]; rintro e w1 ⟨rfl, rfl⟩))
    go_ret2
    exact retL_no rfl (by repeat (first | assumption | exact Ext.refl _ | apply Ext.drewN | apply Ext.drew | apply Ext.alloc | (refine Ext.trans ?_ (by assumption)) | (refine Ext.set ?_ (by dsimp only; omega) _)))
  cases hJ : inB j 1 24
  · rw [Bool.false_and, Bool.and_false, Bool.and_false]
    go_enter Try.func20, Try.ntmps20
    go_wp2_with (first | (go_at_call 53; refine Calls.mono (c_isFilterLength _ _) ?_; rw [hI]; rintro e w1 ⟨rfl, rfl⟩) | (go_at_call 53; refine Calls.mono (c_isFilterLength _ _) ?_; rw [hJ]; rintro e w1 ⟨rfl, rfl⟩))
    go_ret2
    exact retL_no rfl (by repeat (first | assumption | exact Ext.refl _ | apply Ext.drewN | apply Ext.drew | apply Ext.alloc | (refine Ext.trans ?_ (by assumption)) | (refine Ext.set ?_ (by dsimp only; omega) _)))
  rw [Bool.true_and, Bool.true_and]
  obtain ⟨p1, p2⟩ := inB_of hI
  obtain ⟨p3, p4⟩ := inB_of hJ
  obtain ⟨gp, rfl⟩ : ∃ N : Nat, i = (N : Int) := ⟨i.toNat, by omega⟩
  obtain ⟨ct, rfl⟩ : ∃ N : Nat, j = (N : Int) := ⟨j.toNat, by omega⟩
  obtain ⟨N, hN⟩ : ∃ N, N = gp + ct := ⟨_, rfl⟩
  have hs : (gp : Int) + (ct : Int) = (N : Int) := by omega
  have hwr : IntKind.i64.wrap (N : Int) = (N : Int) := IntWalk.i64_in _ (by omega)
  rw [hs]
  have HN := Lib.hid hN
  have hct1 : 1 ≤ ct := by omega
  have hct2 : ct ≤ 24 := by omega
  have hN1 : -9223372036854775808 ≤ (N : Int) := by omega
  have hN2 : (N : Int) ≤ 9223372036854775807 := by omega
  have HAU := Lib.hid (c_autoC h hB hn hcap hN1 hN2)
  clear hN hN1 hN2 _hi _hj _hi2 _hj2
  cases hA : okAu n (N : Int)
  · have hf : (tlen n && (inB (N : Int) 1 24 && okSw (ct : Int).toNat (ct : Int).toNat P (prT L n (gp : Int).toNat (ct : Int).toNat))) = false := by
      unfold okAu at hA
      rw [← Bool.and_assoc, hA, Bool.false_and]
    have HF := Lib.hid hf
    clear hf p1 p2 p3 p4
    rw [hA] at HAU
    go_enter Try.func20, Try.ntmps20
    go_wp2_with (first | (go_at_call 53; refine Calls.mono (c_isFilterLength _ _) ?_; rw [hI]; rintro e w1 ⟨rfl, rfl⟩) | (go_at_call 53; refine Calls.mono (c_isFilterLength _ _) ?_; rw [hJ]; rintro e w1 ⟨rfl, rfl⟩) | (go_at_call 62; refine Calls.mono HAU.out ?_; rintro e w2 ⟨A2, n2, c2, rfl, ho, hcc, hx2⟩))
    go_ret2
    exact retL_no HF.out hx2
  have hAA := hA
  unfold okAu at hAA
  rw [Bool.and_eq_true] at hAA
  rw [hAA.1, hAA.2, Bool.true_and, Bool.true_and]
  simp only [Int.toNat_natCast]
  have hN24 : N ≤ 24 := by have := (inB_of hAA.2).2; omega
  have hcN : ct ≤ N := by have := HN.out; omega
  have hNp : 0 < N := by omega
  have q1 : ¬ ((ct : Int) < 0) := by omega
  have q2 : ¬ ((gp : Int) < 0) := by omega
  have q3 : ¬ ((N : Int) < (ct : Int)) := by omega
  have q4 : ¬ ((N : Int) < (gp : Int)) := by have := HN.out; omega
  clear p1 p2 p3 p4 hAA
  rw [hA] at HAU
  go_enter Try.func20, Try.ntmps20
  go_wp2_with (first | (go_at_call 53; refine Calls.mono (c_isFilterLength _ _) ?_; rw [hI]; rintro e w1 ⟨rfl, rfl⟩) | (go_at_call 53; refine Calls.mono (c_isFilterLength _ _) ?_; rw [hJ]; rintro e w1 ⟨rfl, rfl⟩) | (go_at_call 62; refine Calls.mono HAU.out ?_; rintro e w2 ⟨A2, n2, c2, rfl, ho2, hcc, hx2⟩; simp only [outL, if_true] at ho2; obtain rfl : N = n2 := (by have h9 := ho2.len; rw [lst_len, Int.toNat_natCast] at h9; exact h9); rw [Int.toNat_natCast] at ho2; obtain ⟨g2, o2, rfl, hg2, hg3⟩ := ho2.block hNp; have hcc2 : ¬ ((c2 : Int) < (ct : Int)) := (by omega); have hcc3 : ¬ ((c2 : Int) < (N : Int)) := (by omega)))
  have eT : (lst (fun k : Nat => fcr L L (k : Int) n) N).take ct = prT L n gp ct := by unfold prT prX; rw [← HN.out]
  have eD : lst (fun j => (lst (fun k : Nat => fcr L L (k : Int) n) N).getD (gp + j) none) ct = prD L n gp ct := by unfold prD prX; rw [← HN.out]
  have hRT := ho2.rd.take hcN
  have hRD := ho2.rd.sub (lo := gp) (d := ct) (by have := HN.out; omega)
  rw [eT] at hRT
  rw [eD] at hRD
  obtain ⟨d2, hd2⟩ : ∃ d2 : Nat, c2 - gp = d2 := ⟨_, rfl⟩
  have hd2I : (c2 : Int) - (gp : Int) = (d2 : Int) := by have := HN.out; omega
  have hgdI : (N : Int) - (gp : Int) = (ct : Int) := by have := HN.out; omega
  have hne : ¬ c2 = gp := by have := HN.out; omega
  have hgd : N - gp = ct := by have := HN.out; omega
  obtain ⟨LT, hLT⟩ : ∃ LT, prT L n gp ct = LT := ⟨_, rfl⟩
  obtain ⟨LD, hLD⟩ : ∃ LD, prD L n gp ct = LD := ⟨_, rfl⟩
  rw [hLT] at hRT
  rw [hLD] at hRD
  have HRT := Lib.hid hRT
  have HRD := Lib.hid hRD
  have HLT := Lib.hid hLT
  have HLD := Lib.hid hLD
  obtain ⟨ok, hok⟩ : ∃ ok, okSw ct ct P LT = ok := ⟨_, rfl⟩
  have HOK := Lib.hid hok
  clear hRT hRD ho2 eT eD hLT hLD hok
  refine wp_region_any (by kernel_rfl) ?_
  refine wpAny_mo_go (md := .any) (R := Ext) (w := w2) [(0, 30), (1, 31), (2, 32), (3, 33), (4, 34), (5, 35), (6, 36), (7, 37), (8, 38), (9, 39), (10, 8)] [11] (tl := [_]) (S := ?S1_) (by kernel_rfl) (by rfl) (by rfl) Ext.refl ext_tr (ext_drew1 _) ?hS1_ ?go1_
  case hS1_ => intro vs; simp only [putAll, Act.put, List.setIfInBounds_toArray, List.set_cons_zero, List.set_cons_succ]; rfl
  case go1_ =>
  refine mo_fix _ (by rfl) (by rfl) (by intro vs w1 hx_ hd; go_simp; first | done | rfl) ?_
  refine mo_fix _ (by rfl) (by rfl) (by intro vs w1 hx_ hd; go_simp; first | done | rfl) ?_
  refine mo_fix _ (by rfl) (by rfl) (by intro vs w1 hx_ hd; have e0 := hd 0 (by kernel_rfl); have e1 := hd 1 (by kernel_rfl); simp (decide := true) only [factAt, if_true, if_false] at e0 e1; simp only [e0, e1]; go_simp; first | done | rfl) ?_
  refine mo_fix _ (by rfl) (by rfl) (by intro vs w1 hx_ hd; go_simp; first | done | rfl) ?_
  refine mo_fix _ (by rfl) (by rfl) (by intro vs w1 hx_ hd; go_simp; first | done | rfl) ?_
  refine mo_fix _ (by rfl) (by rfl) (by intro vs w1 hx_ hd; go_simp; first | done | rfl) ?_
  refine mo_fix _ (by rfl) (by rfl) (by intro vs w1 hx_ hd; have e4 := hd 4 (by kernel_rfl); have e5 := hd 5 (by kernel_rfl); simp (decide := true) only [factAt, if_true, if_false] at e4 e5; simp only [e4, e5]; go_simp; first | done | rfl) ?_
  refine mo_call (fun v w => ∃ A3 n3 c3, v = .tuple #[.slice A3 n3 c3, .bool ok] ∧ ∃ hi, hi ≤ w.heap.size ∧ OwL w w2.heap.size hi A3 n3 (outL ok (swF ct P LT LD))) (by rfl) (by rfl) (by rintro v wa wb ⟨A3, n3, c3, h1, hi, h2, h3⟩ hxab; exact ⟨A3, n3, c3, h1, hi, Nat.le_trans h2 hxab.size, h3.ext h2 hxab⟩) (by intro vs w1 hx_ hd; have e2 := hd 2 (by kernel_rfl); have e3 := hd 3 (by kernel_rfl); have e6 := hd 6 (by kernel_rfl); simp (decide := true) only [factAt, if_true, if_false] at e2 e3 e6; simp only [e2, e3, e6]; refine ⟨_, _, by go_simp; first | done | rfl | exact ⟨rfl, rfl⟩, ?_⟩; refine Calls.mono (c_solveWhite (HRT.out.below hx_) hx_.size (by omega) fp (HRD.out.below hx_) hx_.size (by omega)) ?_; rw [HOK.out]; rintro e w5 ⟨A3, n3, c3, rfl, ho5, hx5⟩; exact ⟨_, rfl, ⟨A3, n3, c3, rfl, w5.heap.size, Nat.le_refl _, ho5.more hx_.size (Nat.le_refl _)⟩, hx5⟩) ?_
  refine mo_of (fun us => tupAt (us 7) 0) (by rfl) (by rfl) (by intro us vs w1 hu hx_ hd; have e7 := hd 7 (by kernel_rfl); simp (decide := true) only [factAt, if_true, if_false] at e7; obtain ⟨A3, n3, c3, e7, _⟩ := e7; rw [hu 7 (by kernel_rfl), e7]; go_simp; first | done | rfl) ?_
  refine mo_of (fun us => tupAt (us 7) 1) (by rfl) (by rfl) (by intro us vs w1 hu hx_ hd; have e7 := hd 7 (by kernel_rfl); simp (decide := true) only [factAt, if_true, if_false] at e7; obtain ⟨A3, n3, c3, e7, _⟩ := e7; rw [hu 7 (by kernel_rfl), e7]; go_simp; first | done | rfl) ?_
  refine mo_of (fun us => us 8) (by rfl) (by rfl) (by intro us vs w1 hu hx_ hd; have e8 := hd 8 (by kernel_rfl); simp (decide := true) only [factAt, if_true, if_false] at e8; rw [hu 8 (by kernel_rfl)]; go_simp; first | done | rfl) ?_
  refine mo_end ?_
  intro vs w3 hx3 hd
  have e7 := hd 7 (by kernel_rfl)
  obtain ⟨u8, h8, e8⟩ := seen_got (hd 8 (by kernel_rfl))
  obtain ⟨u9, h9, e9⟩ := seen_got (hd 9 (by kernel_rfl))
  obtain ⟨u10, h10, e10⟩ := seen_got (hd 10 (by kernel_rfl))
  simp (decide := true) only [factAt, if_true, if_false] at e7 e8 e9 e10
  rw [h8 7 (by kernel_rfl)] at e8
  rw [h9 7 (by kernel_rfl)] at e9
  rw [h10 8 (by kernel_rfl)] at e10
  obtain ⟨A3, n3, c3, e7, hi, q2, ho5⟩ := e7
  rw [e7] at e8 e9
  replace e8 : vs 8 = .slice A3 n3 c3 := e8
  replace e9 : vs 9 = .bool ok := e9
  rw [e8] at e10
  simp only [e9, e10]
  clear hd h8 h9 h10
  go_wp2_with (fail)
  go_ret2
  have z2 := hx2.size
  rw [HLT.out, HOK.out]
  rw [← HLT.out, ← HLD.out] at ho5
  exact ⟨_, _, _, rfl, ho5.more (by omega) q2, (by repeat (first | assumption | exact Ext.refl _ | apply Ext.drewN | apply Ext.drew | apply Ext.alloc | (refine Ext.trans ?_ (by assumption)) | (refine Ext.set ?_ (by dsimp only; omega) _)))⟩
set_option maxRecDepth 20000 in
set_option maxHeartbeats 2000000 in
theorem c_spec_PredictionOf {w : World} {B n c : Nat} {A : Option Addr} {L : List (Option Nat)} (h : RdF w B A n L) (hB : B ≤ w.heap.size) (hn : n ≤ 1048576) (_hcap : n ≤ c) {i j : Int} (_hi : -9223372036854775808 ≤ i) (_hj : i ≤ 9223372036854775807) (_hi2 : -9223372036854775808 ≤ j) (_hj2 : j ≤ 9223372036854775807) {p : Nat} {P : Option Nat} (fp : Fl .f32 p P) :
    Calls Try.prog 19 #[.slice A n c, .int .i64 i, .int .i64 j, .float .f32 p] w fun e w' => RetL w e w' (okPr n i j P L) (prF n i j P L) := by
  go_enter Try.func19, Try.ntmps19
  go_wp2_with (go_at_call 61; refine Calls.mono (c_l05Predict h hB hn fp) ?_; rintro e w2 ⟨A2, n2, c2, rfl, ho, hx2⟩)
  go_ret2
  exact ⟨_, _, _, rfl, ho, hx2⟩
theorem both_PredictionOf {n0 : Nat} {L0 : List (Option Nat)} (_hl0 : L0.length = n0) (hn0 : n0 ≤ 1048576) {i1 : Int} (hi1 : -9223372036854775808 ≤ i1) (hj1 : i1 ≤ 9223372036854775807) {i2 : Int} (hi2 : -9223372036854775808 ≤ i2) (hj2 : i2 ≤ 9223372036854775807) {p3 : Nat} {P3 : Option Nat} (fp3 : Fl .f32 p3 P3) :
    ∃ ok Q q, q ≤ 1048576 ∧ (∀ W : World, ∀ (B0 : Nat) (A0 : Option Addr) (c0 : Nat), RdF W B0 A0 n0 L0 → B0 ≤ W.heap.size → n0 ≤ c0 → Calls Try.prog 19 #[.slice A0 n0 c0, .int .i64 i1, .int .i64 i2, .float .f32 p3] W fun e w' => RetQ W e w' ok q Q) ∧
      (∀ W : World, ∀ (B0 : Nat) (A0 : Option Addr) (c0 : Nat), RdF W B0 A0 n0 L0 → B0 ≤ W.heap.size → n0 ≤ c0 → Calls Try.prog 20 #[.slice A0 n0 c0, .int .i64 i1, .int .i64 i2, .float .f32 p3] W fun e w' => RetQ W e w' ok q Q) :=
  ⟨okPr n0 i1 i2 P3 L0, outL (okPr n0 i1 i2 P3 L0) (prF n0 i1 i2 P3 L0), (outL (okPr n0 i1 i2 P3 L0) (prF n0 i1 i2 P3 L0)).length, (by (cases hq : okPr n0 i1 i2 P3 L0; exact Nat.zero_le _; (show (prF _ _ _ _ _).length ≤ _; rw [prF_len]; unfold okPr at hq; simp only [Bool.and_eq_true] at hq; have := inB_of hq.2.2.1; omega))),
    fun W _ _ _ h0 hB0 hc0 => Calls.mono (c_spec_PredictionOf (w := W) h0 hB0 hn0 hc0 hi1 hj1 hi2 hj2 fp3) (fun _ _ hr => hr.q), fun W _ _ _ h0 hB0 hc0 => Calls.mono (c_impl_PredictionOf (w := W) h0 hB0 hn0 hc0 hi1 hj1 hi2 hj2 fp3) (fun _ _ hr => hr.q)⟩

end Go.Proofs.Ytceldjkgddbfaab
