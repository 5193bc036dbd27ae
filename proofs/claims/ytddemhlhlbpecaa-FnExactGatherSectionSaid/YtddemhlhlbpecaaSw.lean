/- Shares told cell by cell, the program. Condition: the section is valid, the speed is above zero. -/
import Derived.Test.YtddemhlhlbpecaaSv
namespace Go.Proofs.Ytddemhlhlbpecaa
open Go.RowKit Ieee
set_option linter.unusedVariables false
set_option linter.unusedSimpArgs false

/-- Only the row g turns. -/
def Kp (g : Nat) (w w' : World) : Prop := w.heap.size ≤ w'.heap.size ∧ ∀ k x, k ≠ g → w.heap[k]? = some x → w'.heap[k]? = some x
theorem Kp.refl (g : Nat) (w : World) : Kp g w w := ⟨Nat.le_refl _, fun _ _ _ h => h⟩
theorem Kp.trans {g : Nat} {w w' w'' : World} (h : Kp g w w') (h' : Kp g w' w'') : Kp g w w'' := ⟨Nat.le_trans h.1 h'.1, fun k x hk hx => h'.2 k x hk (h.2 k x hk hx)⟩
theorem Kp.ext {g : Nat} {w w' : World} (h : Ext w w') : Kp g w w' := ⟨h.size, fun k x _ hx => h.blk hx⟩
/-- A state of the row that is made, and how shares change it. -/
structure Tell (P : Program) (fn : Nat) (q1 q2 q3 q4 : Value) (n g : Nat) (St : World → (Nat → Option Nat) → Prop) (up : (Nat → Option Nat) → Nat → Option Nat → (Nat → Option Nat)) : Prop where
  ext : ∀ w w' F, St w F → Ext w w' → St w' F
  lt : ∀ w F, St w F → g < w.heap.size
  tell : ∀ w F (at_ r : Nat) (Sh : Option Nat), St w F → at_ < n → Fl .f32 r Sh → Calls P fn #[.int .i64 (at_ : Int), .float .f32 r, q1, q2, q3, q4] w fun e w' => e = .returned (.tuple #[]) ∧ St w' (up F at_ Sh) ∧ Kp g w w'
theorem cv_fl {z d : Int} {V : Option Nat} (h : Nk .f32 (cvT z d V)) : ∃ t, Fl .f32 t (cvT z d V) := by
  obtain ⟨t, ht, hp⟩ := h
  refine ⟨t, ?_, ?_⟩
  · rw [ht]
    unfold fl FloatKind.decode
    cases hr : FloatKind.f32.format.read t with
    | nan => rw [hr] at hp; cases hp
    | infinity s => rfl
    | number s m i => rfl
  · unfold cvT fcurve fsq2 froot fconv at ht
    rw [if_neg (by decide)] at ht
    obtain ⟨a, _, rfl⟩ := Option.map_eq_some_iff.1 ht
    exact FloatKind.f32.format.write_lt _
theorem geq_mk {t : Nat} {X : Option Nat} (h : Fl .f32 t X) (hX : Nk .f32 X) {n : Nat} (hn : n < 16777216) : (FloatKind.f32.format.order t (mk n) == some .gt || FloatKind.f32.format.order t (mk n) == some .eq) = !flt32 X (some (mk n)) := by
  rw [← h.olt (fl_mk n)]
  have : ∃ o, FloatKind.f32.format.order t (mk n) = some o := by
    obtain ⟨b, rfl, hp⟩ := hX
    obtain ⟨rfl, _⟩ := fl_some h.eq
    obtain ⟨a, j, ha, _⟩ := int_fin32 n hn
    rcases shape .f32 b with ⟨s, m, e, k⟩ | ⟨s, hr, _, _⟩ | k
    · exact ⟨_, k.order ha⟩
    · refine ⟨if s then .lt else .gt, ?_⟩
      unfold Format.order
      rw [hr, ha.read]
      cases s <;> rfl
    · have := h.eq
      rw [k] at this; cases this
  obtain ⟨o, ho⟩ := this
  rw [ho]
  cases o <;> rfl
set_option maxRecDepth 20000 in
set_option maxHeartbeats 8000000 in
theorem c_eachShare {w : World} {c : Nat} {A : Option Addr} {a b n g : Nat} {St : World → (Nat → Option Nat) → Prop} {up : (Nat → Option Nat) → Nat → Option Nat → (Nat → Option Nat)} {q1 q2 q3 q4 : Value}
    (hT : Tell Try.prog 132 q1 q2 q3 q4 n g St up) (ha : 1 ≤ a) (ha2 : a ≤ 16) (hb1 : 1 ≤ b) (hb2 : b ≤ 16) (hab : a * b = n) (hn : n ≤ 256) {v : Nat} {V : Option Nat} (hv : Fl .f32 v V) (hV : fabove V = true) {k : Nat} (hk : k < n)
    {Z : Nat → (Nat → Option Nat)} (hZ0 : ∀ u, inX a b V k u = false → Z (u + 1) = Z u)
    (hZ1 : ∀ u, inX a b V k u = true → ¬ flo (cvX a V k u) + 1 < b → Z (u + 1) = up (Z u) (atX a V k u) (fop .sub .f32 one32 (shX a V k u)))
    (hZ2 : ∀ u, inX a b V k u = true → flo (cvX a V k u) + 1 < b → Z (u + 1) = up (up (Z u) (atX a V k u) (fop .sub .f32 one32 (shX a V k u))) (atX a V k u + a) (shX a V k u))
    (hst : St w (Z 0)) :
    Calls Try.prog 131 #[.agg #[.int .i64 (a : Int), .int .i64 (b : Int), .slice A n c], .int .i64 (k : Int), .float .f32 v, .func (.func 132) #[] #[q1, q2, q3, q4]] w fun e w' => e = .returned (.tuple #[]) ∧ St w' (Z a) ∧ Kp g w w' := by
  obtain ⟨W1, hW1⟩ : ∃ W1, W1 = w.alloc (.cells #[.int .i64 (a : Int), .int .i64 (b : Int), .slice A n c] 38) := ⟨_, rfl⟩
  have hx1 : Ext w W1 := by rw [hW1]; exact (by repeat (first | assumption | exact Ext.refl _ | apply Ext.drewN | apply Ext.drew | apply Ext.alloc | (refine Ext.trans ?_ (by assumption)) | (refine Ext.set ?_ (by dsimp only; omega) _)))
  have hs1 : W1.heap[w.heap.size]? = some (.cells #[.int .i64 (a : Int), .int .i64 (b : Int), .slice A n c] 38 (0, 0)) := by rw [hW1]; exact heap_alloc_new w _
  have hgl := hT.lt _ _ hst
  have HST := Lib.hid (hT.ext _ _ _ hst hx1)
  have HT := Lib.hid hT
  have H0 := Lib.hid hZ0
  have H1 := Lib.hid hZ1
  have H2 := Lib.hid hZ2
  have HS1 := Lib.hid hs1
  obtain ⟨l0, l1, l2, _, _, _⟩ := three_c hs1
  have haz : ¬ ((a : Int) = 0) := by omega
  have hkm : IntKind.i64.wrap ((k % a : Nat) : Int) = ((k % a : Nat) : Int) := IntWalk.i64_in _ (by have h9 : k % a < a := Nat.mod_lt _ (by omega); generalize k % a = d9 at h9; omega)
  have hkd : IntKind.i64.wrap ((k / a : Nat) : Int) = ((k / a : Nat) : Int) := IntWalk.i64_in _ (by have h9 : k / a ≤ k := Nat.div_le_self _ _; generalize k / a = d9 at h9; omega)
  clear hs1 hst hT hZ0 hZ1 hZ2
  go_enter Try.func131, Try.ntmps131
  go_wp2_with (fail)
  rw [← hW1]
  clear hW1
  refine wp_region_loose 5 (by kernel_rfl) (by kernel_rfl) ?_
  simp only [List.take_succ_cons, List.take_zero, List.drop_succ_cons, List.drop_zero]
  refine la_start ?_
  refine la_fix _ (by rfl) (by intros; go_simp; rfl) ?_
  try simp only [Act.put, List.setIfInBounds_toArray, List.set_cons_zero, List.set_cons_succ]
  refine la_fix _ (by rfl) (by intros; go_simp; rfl) ?_
  try simp only [Act.put, List.setIfInBounds_toArray, List.set_cons_zero, List.set_cons_succ]
  refine la_fix _ (by rfl) (by intros; go_simp; rfl) ?_
  try simp only [Act.put, List.setIfInBounds_toArray, List.set_cons_zero, List.set_cons_succ]
  refine la_fix _ (by rfl) (by intros; go_simp; rfl) ?_
  try simp only [Act.put, List.setIfInBounds_toArray, List.set_cons_zero, List.set_cons_succ]
  refine la_fix _ (by rfl) (by intros; go_simp; rfl) ?_
  try simp only [Act.put, List.setIfInBounds_toArray, List.set_cons_zero, List.set_cons_succ]
  refine la_end ?_
  intro q9
  go_wp2_with (fail)
  have hx9 : Ext W1 (W1.drewN q9) := (by repeat (first | assumption | exact Ext.refl _ | apply Ext.drewN | apply Ext.drew | apply Ext.alloc | (refine Ext.trans ?_ (by assumption)) | (refine Ext.set ?_ (by dsimp only; omega) _)))
  obtain ⟨W2, hW2⟩ : ∃ W2, W2 = W1.drewN q9 := ⟨_, rfl⟩
  rw [← hW2] at hx9 ⊢
  refine wp_region_any (by kernel_rfl) ?_
  refine wpAny_mo_go (md := .any) (R := Ext) (w := W2) [(0, 20), (1, 21), (2, 22), (3, 23), (4, 24), (5, 25), (6, 10), (7, 11)] [] (tl := []) (S := ?S2_) (by kernel_rfl) (by rfl) (by rfl) Ext.refl ext_tr (ext_drew1 _) ?hS2_ ?go2_
  case hS2_ => intro vs; simp only [putAll, Act.put, List.setIfInBounds_toArray, List.set_cons_zero, List.set_cons_succ]; rfl
  case go2_ =>
  refine mo_fix _ (by rfl) (by rfl) (by intro vs w1 hx_ hd; skip; go_simp; first | done | rfl) ?_
  refine mo_fix _ (by rfl) (by rfl) (by intro vs w1 hx_ hd; skip; go_simp; first | done | rfl) ?_
  refine mo_fix (.int .i64 ((k % a : Nat) : Int)) (by rfl) (by rfl) (by intro vs w1 hx_ hd; have e0 := hd 0 (by kernel_rfl); have e1 := hd 1 (by kernel_rfl); simp (decide := true) only [factAt, if_true, if_false] at e0 e1; simp only [e0, e1]; go_simp; rw [if_neg (by omega)]; exact congrArg (fun z => Result.ok (Next.value (Value.int .i64 z)) w1) (tmod_nat k a)) ?_
  refine mo_fix _ (by rfl) (by rfl) (by intro vs w1 hx_ hd; skip; go_simp; first | done | rfl) ?_
  refine mo_fix _ (by rfl) (by rfl) (by intro vs w1 hx_ hd; skip; go_simp; first | done | rfl) ?_
  refine mo_fix (.int .i64 ((k / a : Nat) : Int)) (by rfl) (by rfl) (by intro vs w1 hx_ hd; have e3 := hd 3 (by kernel_rfl); have e4 := hd 4 (by kernel_rfl); simp (decide := true) only [factAt, if_true, if_false] at e3 e4; simp only [e3, e4]; go_simp; rw [if_neg (by omega)]; exact congrArg (fun z => Result.ok (Next.value (Value.int .i64 z)) w1) hkd) ?_
  refine mo_of (fun us => us 2) (by rfl) (by rfl) (by intro us vs w1 hu hx_ hd; skip; have e2 := hd 2 (by kernel_rfl); simp (decide := true) only [factAt, if_true, if_false] at e2; rw [hu 2 (by kernel_rfl)]; go_simp; first | done | rfl) ?_
  refine mo_of (fun us => us 5) (by rfl) (by rfl) (by intro us vs w1 hu hx_ hd; skip; have e5 := hd 5 (by kernel_rfl); simp (decide := true) only [factAt, if_true, if_false] at e5; rw [hu 5 (by kernel_rfl)]; go_simp; first | done | rfl) ?_
  refine mo_end ?_
  intro vs w3 hx3 hd
  have e2 := hd 2 (by kernel_rfl)
  have e5 := hd 5 (by kernel_rfl)
  obtain ⟨u6, h6, e6⟩ := seen_got (hd 6 (by kernel_rfl))
  obtain ⟨u7, h7, e7⟩ := seen_got (hd 7 (by kernel_rfl))
  simp (decide := true) only [factAt, if_true, if_false] at e2 e5 e6 e7
  rw [h6 2 (by kernel_rfl), e2] at e6
  rw [h7 5 (by kernel_rfl), e5] at e7
  generalize vs 6 = v6 at e6 ⊢
  generalize vs 7 = v7 at e7 ⊢
  subst e6 e7
  clear hd e2 e5 h6 h7
  have hx13 : Ext W1 w3 := hx9.trans hx3
  have HST3 := Lib.hid (HT.out.ext _ _ _ HST.out hx13)
  have hkp3 : Kp g w w3 := (Kp.ext hx1).trans (Kp.ext hx13)
  obtain ⟨xm, hxm⟩ : ∃ xm, xm = k % a := ⟨_, rfl⟩
  obtain ⟨zm, hzm⟩ : ∃ zm, zm = k / a := ⟨_, rfl⟩
  have hxma : xm < a := by rw [hxm]; exact Nat.mod_lt _ (by omega)
  rw [← hxm, ← hzm]
  have HCV : Hid (∀ u, cvX a V k u = cvT (zm : Int) ((u : Int) - (xm : Int)) V) := Lib.hid (fun u => by unfold cvX; rw [hxm, hzm])
  clear hkm hkd hxm hzm
  go_wp2_with (fail)
  go_loopw [27] (fun y wr => ∃ (u : Nat), u ≤ a ∧ y = .int .i64 u ∧ St wr (Z u) ∧ Kp g w wr) (fun y _ => a - (intOf y).toNat)
  case atStart => exact ⟨0, Nat.zero_le _, rfl, HST3.out, hkp3⟩
  case round =>
    obtain ⟨u, hu, rfl, hstr, hkp⟩ := hrel
    have HSR := Lib.hid hstr
    clear hstr
    by_cases hul : u < a
    · have hul' : (u : Int) < (a : Int) := by omega
      have hdw : IntKind.i64.wrap ((u : Int) - (xm : Int)) = (u : Int) - (xm : Int) := IntWalk.i64_in _ (by omega)
      have hnk := nk_cv (zm : Int) ((u : Int) - (xm : Int)) hv hV
      rw [← HCV.out u] at hnk
      have HNK := Lib.hid hnk
      have HX3 := Lib.hid (show fsq2 (ki (zm : Int)) (fop .quo .f32 (ki ((u : Int) - (xm : Int))) V) = cvX a V k u from (HCV.out u).symm)
      have fz1 := fl_ki (zm : Int)
      have fd1 := fl_ki ((u : Int) - (xm : Int))
      have HI0 := Lib.hid (H0.out u)
      have HI1 := Lib.hid (H1.out u)
      have HI2 := Lib.hid (H2.out u)
      cases hI : inX a b V k u
      · go_wp2_with (first | (go_at_call 101; refine Calls.mono (c_curveOf fd1 hv) ?_; rintro e w7 ⟨g7, q7, rfl, hg7, hl7, hc7, hq7, hx7⟩) | (go_at_call 145; refine Calls.mono (c_curve1 hc7 hq7 fz1) ?_; rintro e w8 ⟨r7, rfl, hr7, n7, rfl⟩; rw [HX3.out] at hr7; have hge := geq_mk hr7 HNK.out (n := b) (by omega); rw [show flt32 (cvX a V k u) (some (mk b)) = false from hI] at hge; rw [← mk_int] at hge))
        exact ⟨⟨u + 1, by omega, by go_num, by rw [HI0.out hI]; exact HT.out.ext _ _ _ HSR.out (Ext.trans hx7 (by repeat (first | assumption | exact Ext.refl _ | apply Ext.drewN | apply Ext.drew | apply Ext.alloc | (refine Ext.trans ?_ (by assumption)) | (refine Ext.set ?_ (by dsimp only; omega) _)))), hkp.trans ((Kp.ext hx7).trans (Kp.ext (by repeat (first | assumption | exact Ext.refl _ | apply Ext.drewN | apply Ext.drew | apply Ext.alloc | (refine Ext.trans ?_ (by assumption)) | (refine Ext.set ?_ (by dsimp only; omega) _)))))⟩, by simp [intOf]; omega⟩
      · obtain ⟨K, hK⟩ : ∃ K, K = flo (cvX a V k u) := ⟨_, rfl⟩
        have hAT : atX a V k u = u + a * K := by unfold atX; rw [hK]
        have HSH : Hid (fop .sub .f32 (cvX a V k u) (some (mk K)) = shX a V k u) := Lib.hid (by rw [hK]; rfl)
        have hKb : K < b := by
          obtain ⟨t9, hf9⟩ : ∃ t, Fl .f32 t (cvX a V k u) := by
            have h9 := HNK.out
            rw [HCV.out u] at h9 ⊢
            exact cv_fl h9
          rw [hK]
          exact (below32 hf9 HNK.out (n := b) (by omega) hI).1
        have hb3 := at_lt hab hul hKb
        obtain ⟨M, hM⟩ : ∃ M, M = a * K := ⟨_, rfl⟩
        have hw3 : IntKind.i64.wrap ((a : Int) * (K : Int)) = (M : Int) := by rw [show (a : Int) * (K : Int) = ((a * K : Nat) : Int) by simp, ← hM]; exact IntWalk.i64_in _ (by omega)
        rw [← hM] at hb3 hAT
        obtain ⟨P1, hP1⟩ : ∃ P1, P1 = u + M := ⟨_, rfl⟩
        have hw4 : IntKind.i64.wrap ((u : Int) + (M : Int)) = (P1 : Int) := by rw [hP1]; exact IntWalk.i64_in _ (by omega)
        rw [← hP1] at hb3 hAT
        have HB3 := Lib.hid hb3
        have hkw : IntKind.i64.wrap ((K : Int) + 1) = (K : Int) + 1 := IntWalk.i64_in _ (by omega)
        rw [hAT, ← hK] at HI1 HI2
        have HK := Lib.hid hK
        clear hK
        by_cases hkb : K + 1 < b
        · have hkb' : (K : Int) + 1 < (b : Int) := by omega
          have hb4 := at_lt2 hab hul hkb
          obtain ⟨M2, hM2⟩ : ∃ M2, M2 = a * (K + 1) := ⟨_, rfl⟩
          have hMM : M2 = M + a := by rw [hM2, hM, Nat.mul_succ]
          rw [← hM, ← hP1] at hb4
          have hw5 : IntKind.i64.wrap ((a : Int) * ((K : Int) + 1)) = (M2 : Int) := by rw [show (a : Int) * ((K : Int) + 1) = ((a * (K + 1) : Nat) : Int) by simp, ← hM2]; exact IntWalk.i64_in _ (by omega)
          obtain ⟨P2, hP2⟩ : ∃ P2, P2 = P1 + a := ⟨_, rfl⟩
          have hw6 : IntKind.i64.wrap ((u : Int) + (M2 : Int)) = (P2 : Int) := by rw [show (u : Int) + (M2 : Int) = (P2 : Int) by omega]; exact IntWalk.i64_in _ (by omega)
          rw [← hP2] at hb4
          have HB4 := Lib.hid hb4
          have HZN := Lib.hid (HI2.out hI hkb)
          rw [← hP2] at HZN
          clear hM2 hMM hP2 hP1 hAT hM
          go_wp2_with (first | (go_at_call 101; refine Calls.mono (c_curveOf fd1 hv) ?_; rintro e w7 ⟨g7, q7, rfl, hg7, hl7, hc7, hq7, hx7⟩) | (go_at_call 145; refine Calls.mono (c_curve1 hc7 hq7 fz1) ?_; rintro e w8 ⟨r7, rfl, hr7, n7, rfl⟩; rw [HX3.out] at hr7; have hge := geq_mk hr7 HNK.out (n := b) (by omega); rw [show flt32 (cvX a V k u) (some (mk b)) = true from hI] at hge; rw [← mk_int] at hge; obtain ⟨k4, k5⟩ := below32 hr7 HNK.out (n := b) (by omega) hI; rw [← HK.out] at k4 k5; have hcv := fun W => run_convert_float_int (P := Try.prog) W 22 3 .f32 .i64 r7 K s_f32 Try.underlying3 k5; have HS8 := Lib.hid (HT.out.ext _ _ _ HSR.out hx7); have hkp8 : Kp g w w7 := hkp.trans (Kp.ext hx7)) | (apply upon_fop rfl; (exact hr7); (exact (fl_mk K)); intro r8 n8 hr8; rw [HSH.out] at hr8) | (apply upon_fop rfl; (exact fl_one32); (exact hr8); intro r9 n9 hr9) | (go_at_call_of 132 r9; refine Calls.mono (HT.out.tell _ _ P1 _ _ (HT.out.ext _ _ _ HS8.out (by repeat (first | assumption | exact Ext.refl _ | apply Ext.drewN | apply Ext.drew | apply Ext.alloc | (refine Ext.trans ?_ (by assumption)) | (refine Ext.set ?_ (by dsimp only; omega) _)))) HB3.out hr9) ?_; rintro e wt ⟨rfl, hst1, hkp1⟩; have hkp1 := hkp8.trans (Kp.trans (Kp.ext (Ext.drewN (Ext.refl w7) _)) hkp1)) | (go_at_call_of 132 r8; refine Calls.mono (HT.out.tell _ _ P2 _ _ hst1 HB4.out hr8) ?_; rintro e wt2 ⟨rfl, hst2, hkp2⟩))
          exact ⟨⟨u + 1, by omega, by go_num, by rw [HZN.out]; exact hst2, hkp1.trans hkp2⟩, by simp [intOf]; omega⟩
        · have hkb' : ¬ ((K : Int) + 1 < (b : Int)) := by omega
          have HZN := Lib.hid (HI1.out hI hkb)
          clear hP1 hAT hM
          go_wp2_with (first | (go_at_call 101; refine Calls.mono (c_curveOf fd1 hv) ?_; rintro e w7 ⟨g7, q7, rfl, hg7, hl7, hc7, hq7, hx7⟩) | (go_at_call 145; refine Calls.mono (c_curve1 hc7 hq7 fz1) ?_; rintro e w8 ⟨r7, rfl, hr7, n7, rfl⟩; rw [HX3.out] at hr7; have hge := geq_mk hr7 HNK.out (n := b) (by omega); rw [show flt32 (cvX a V k u) (some (mk b)) = true from hI] at hge; rw [← mk_int] at hge; obtain ⟨k4, k5⟩ := below32 hr7 HNK.out (n := b) (by omega) hI; rw [← HK.out] at k4 k5; have hcv := fun W => run_convert_float_int (P := Try.prog) W 22 3 .f32 .i64 r7 K s_f32 Try.underlying3 k5; have HS8 := Lib.hid (HT.out.ext _ _ _ HSR.out hx7); have hkp8 : Kp g w w7 := hkp.trans (Kp.ext hx7)) | (apply upon_fop rfl; (exact hr7); (exact (fl_mk K)); intro r8 n8 hr8; rw [HSH.out] at hr8) | (apply upon_fop rfl; (exact fl_one32); (exact hr8); intro r9 n9 hr9) | (go_at_call_of 132 r9; refine Calls.mono (HT.out.tell _ _ P1 _ _ (HT.out.ext _ _ _ HS8.out (by repeat (first | assumption | exact Ext.refl _ | apply Ext.drewN | apply Ext.drew | apply Ext.alloc | (refine Ext.trans ?_ (by assumption)) | (refine Ext.set ?_ (by dsimp only; omega) _)))) HB3.out hr9) ?_; rintro e wt ⟨rfl, hst1, hkp1⟩; have hkp1 := hkp8.trans (Kp.trans (Kp.ext (Ext.drewN (Ext.refl w7) _)) hkp1)))
          exact ⟨⟨u + 1, by omega, by go_num, by rw [HZN.out]; exact hst1, hkp1⟩, by simp [intOf]; omega⟩
    · obtain rfl : a = u := by omega
      go_wp2_with (fail)
      go_end0
      exact ⟨rfl, HSR.out, hkp⟩
end Go.Proofs.Ytddemhlhlbpecaa
