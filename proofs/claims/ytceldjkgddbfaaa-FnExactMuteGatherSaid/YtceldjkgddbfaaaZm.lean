/- Contracts: gathers without what comes first, on both sides. Condition: the gather is read. -/
import Derived.Test.YtceldjkgddbfaaaZi
import Derived.Test.YtceldjkgddbfaaaPk
namespace Go.Proofs.Ytceldjkgddbfaaa
open Go.RowKit Ieee

theorem fin_nzero : Fin_ .f32 2147483648 true 0 0 := by
  have h := Fin_.of_word .f32 true 0 0 (by decide +kernel) (Or.inl rfl) (by decide +kernel)
  have e : FloatKind.f32.format.word true (0 * FloatKind.f32.format.binade + 0) = 2147483648 := by decide +kernel
  rwa [e] at h
theorem quo_nought {a c m e : Nat} {s : Bool} (ha : Fin_ .f32 a s 0 0) (hc : Fin_ .f32 c false m e) (hm : m ≠ 0) (hw : FloatKind.f32.format.word s 0 = a) : fop .quo .f32 (some a) (some c) = some a := by
  have em : fop .quo .f32 (some a) (some c) = ((FloatKind.f32.format.read a).quotient (FloatKind.f32.format.fractionBits + 2) (FloatKind.f32.format.read c)).map FloatKind.f32.format.write := rfl
  rw [em, hc.read, ha.read]
  simp only [Datum.quotient, if_neg hm, Nat.zero_shiftLeft, Nat.zero_div, Nat.mul_zero, Nat.zero_mod, Bool.xor_false]
  show some (FloatKind.f32.format.nearest s 0 _) = some a
  rw [near_zero, hw]
theorem quo_zero {r : Nat} {S : Option Nat} (fs : Fl .f32 r S) (hS : fabove S = true) : fop .quo .f32 (some 2147483648) S = some 2147483648 ∧ fop .quo .f32 (some 0) S = some 0 := by
  unfold fabove at hS
  rw [Bool.and_eq_true] at hS
  obtain ⟨hf, hg⟩ := hS
  have hX := fs.eq
  rcases shape .f32 r with ⟨s, m, e, k⟩ | ⟨s, hr, _, _⟩ | k
  · rw [k.fl] at hX
    subst hX
    have hgo := fs.ogt0
    rw [hg, k.order fin_zero, sv_zero] at hgo
    have hcm : compare (sv s m e) 0 = .gt := by
      have h9 : some (compare (sv s m e) 0) = some Ordering.gt := by simpa using hgo
      exact Option.some.inj h9
    rw [cmp_eq] at hcm
    have hpos : 0 < sv s m e := by
      by_cases h1 : sv s m e < 0
      · rw [if_pos h1] at hcm; cases hcm
      · rw [if_neg h1] at hcm
        by_cases h2 : sv s m e = 0
        · rw [if_pos h2] at hcm; cases hcm
        · omega
    have hm : m ≠ 0 := by rintro rfl; rw [sv_zero] at hpos; omega
    have hs : s = false := by
      cases s
      · rfl
      · rw [sv_neg] at hpos; have := sv_pos (show 0 < m by omega) e; omega
    subst hs
    exact ⟨quo_nought fin_nzero k hm (by decide +kernel), quo_nought fin_zero k hm (by decide +kernel)⟩
  · rw [fl_inf hr] at hX
    subst hX
    unfold ffin FloatKind.decode at hf
    simp only at hf
    rw [hr] at hf; cases hf
  · rw [k] at hX; subst hX; cases hf
theorem abs_form {b : Nat} {P : Option Nat} (fp : Fl .f32 b P) (hP : ffin .f32 P = true) : ∃ m e, e * 8388608 + m < 255 * 8388608 ∧ Fin_ .f32 (e * 8388608 + m) false m e ∧ fconv .f64 .f32 (fabs64 P) = some (e * 8388608 + m) ∧ (∃ c m' e', fabs64 P = some c ∧ Fin_ .f64 c false m' e' ∧ narrow c = e * 8388608 + m) ∧
    (fsz P = some (e * 8388608 + m) ∨ (fsz P = some 2147483648 ∧ e * 8388608 + m = 0)) := by
  have hPn : P ≠ none := by rintro rfl; cases hP
  have hb : b < 4294967296 := fp.lt
  have hX := fp.eq
  rcases shape .f32 b with ⟨s, m0, e0, k⟩ | ⟨s, hr, _, _⟩ | k
  · rw [k.fl] at hX
    obtain ⟨m1, e1, hw, _⟩ := k.wide
    have h40 : fabs64 P = some (wide b % 9223372036854775808) := by
      rw [← hX]; unfold fabs64 fconv; rw [if_neg (by decide)]; rfl
    rcases abs2 fp hPn with ⟨a, c, t, m, e, m', e', h1, h2, h3, h4, h5, h6⟩ | ⟨a, c, h1, h2, h4, h5⟩
    · obtain ⟨q1, q2, q3, q4⟩ := h2.e32
      have hfw : Fin_ .f32 (e * 8388608 + m) false m e := by
        have hf := Fin_.of_word .f32 false m e h2.lt h2.low h2.top
        have e2 : FloatKind.f32.format.word false (e * FloatKind.f32.format.binade + m) = e * 8388608 + m := by rw [bin32]; simp [Format.word]
        rwa [e2] at hf
      have hna : narrow c = e * 8388608 + m := by
        unfold narrow FloatKind.encode FloatKind.decode
        rw [h5.read]
        show single.nearest false m' (double.leastPlace + (e' : Int)) = _
        rw [double_least, narrow_word false m e m' e' q1 q3 q4 h6, single_binade]
        simp [Format.word]
      refine ⟨m, e, q4, hfw, ?_, ⟨c, m', e', h4, h5, hna⟩, ?_⟩
      · rw [h4]
        unfold fconv
        rw [if_neg (by decide)]
        show some (narrow c) = _
        rw [hna]
      · have hab : a < 4294967296 := by
          have := h1
          unfold fsz at this
          split at this
          · rw [← hX] at this; simp only [fneg32, Option.map_some, Option.some.injEq] at this; rw [← this]; exact neg32_lt hb
          · rw [← hX] at this; cases this; exact hb
        have hwd := word32 h2 hab
        cases t
        · left
          simp only [Bool.false_eq_true, if_false, Nat.zero_add] at hwd
          rw [h1, hwd]
        · right
          have hm0 : m = 0 := by
            rcases Nat.eq_zero_or_pos m with h0 | h0
            · exact h0
            · rw [sv_neg] at h3; have := sv_pos h0 e; omega
          subst hm0
          have he0 : e = 0 := by rcases q3 with h0 | h0; exact h0; omega
          subst he0
          simp only [if_true] at hwd
          rw [h1, hwd]
          exact ⟨rfl, rfl⟩
    · rw [h40] at h4
      cases h4
      have := hw.abs.read
      rw [h5] at this; cases this
  · rw [fl_inf hr] at hX
    subst hX
    unfold ffin FloatKind.decode at hP
    simp only at hP
    rw [hr] at hP; cases hP
  · rw [k] at hX; exact absurd hX.symm hPn
theorem lt_noughts (a : Nat) : (FloatKind.f32.format.order a 2147483648 == some .lt) = (FloatKind.f32.format.order a 0 == some .lt) := by
  rcases shape .f32 a with ⟨s, m, e, k⟩ | ⟨s, hr, _, _⟩ | k
  · rw [k.order fin_nzero, k.order fin_zero, sv_zero, sv_zero]
  · unfold Format.order
    rw [hr, fin_nzero.read, fin_zero.read]
    cases s <;> rfl
  · have e1 := order_fl .f32 a 2147483648
    have e2 := order_fl .f32 a 0
    rw [k] at e1 e2
    rw [e1, e2]; rfl
/-- What comes first is the same, whichever way the sign is taken off. -/
theorem mute_same {b r : Nat} {P S : Option Nat} (fp : Fl .f32 b P) (fs : Fl .f32 r S) (hP : ffin .f32 P = true) (hS : fabove S = true) (k : Nat) :
    flt32 (some (mk k)) (fop .quo .f32 (fconv .f64 .f32 (fabs64 P)) S) = flt32 (some (mk k)) (fop .quo .f32 (fsz P) S) := by
  obtain ⟨m, e, _, _, h1, _, h2 | ⟨h2, h3⟩⟩ := abs_form fp hP
  · rw [h1, h2]
  · rw [h1, h2, h3, (quo_zero fs hS).1, (quo_zero fs hS).2]
    exact (lt_noughts (mk k)).symm
theorem fits_abs {b : Nat} {P : Option Nat} (fp : Fl .f32 b P) (hP : ffin .f32 P = true) : Fits .f64 .f32 (fabs64 P) := by
  obtain ⟨m, e, _, hf, _, ⟨c, m', e', h1, h2, h3⟩, _⟩ := abs_form fp hP
  right
  intro a ha
  rw [h1] at ha
  cases ha
  right
  show (FloatKind.f32.decode (narrow c)).isInfinity = false
  rw [h3]
  unfold FloatKind.decode
  rw [hf.read]; rfl
@[local go_sem] theorem run_neg33 {P : Program} (w : World) (k : FloatKind) (b : Nat) : (Op.unary .neg (.float k b)).run P w = .ok (.float k (Op.negFloat k b)) w := rfl
set_option maxRecDepth 20000 in
set_option maxHeartbeats 2000000 in
theorem c_l04Size {w : World} {b : Nat} {P : Option Nat} (fp : Fl .f32 b P) :
    Calls Try.prog 77 #[.float .f32 b] w fun e w' => ∃ r, e = .returned (.float .f32 r) ∧ Fl .f32 r (fsz P) ∧ Dr w w' := by
  have ho := fp.olt0
  have hng := fneg32_fl fp
  cases hl : lt0 P
  · rw [hl] at ho
    rw [show fsz P = P from if_neg (by rw [show flt32 P fz = lt0 P from rfl, hl]; decide)]
    have HB := Lib.hid fp
    clear hng
    go_enter Try.func77, Try.ntmps77
    go_wp2
    go_ret
    exact ⟨_, rfl, HB.out, 0, rfl⟩
  · rw [hl] at ho
    rw [show fsz P = fneg32 P from if_pos hl]
    have HB := Lib.hid hng
    clear hng
    go_enter Try.func77, Try.ntmps77
    go_wp2
    go_ret
    exact ⟨_, rfl, HB.out, 0, rfl⟩
set_option maxRecDepth 20000 in
set_option maxHeartbeats 2000000 in
theorem c_absoluteOf {w : World} {b : Nat} {P : Option Nat} (fp : Fl .f32 b P) (hP : ffin .f32 P = true) :
    Calls Try.prog 78 #[.float .f32 b] w fun e w' => ∃ r, e = .returned (.float .f32 r) ∧ Fl .f32 r (fconv .f64 .f32 (fabs64 P)) ∧ Dr w w' := by
  have hft := fits_abs fp hP
  clear hP
  go_enter Try.func78, Try.ntmps78
  go_wp2_with (first | (apply upon_wide s_f32 Try.underlying58; (exact fp); intro r4 n4 hr4) | (go_at_call 107; refine Calls.mono (c_Abs _ hr4.lt _) ?_; rintro e w5 ⟨rfl, rfl⟩; have hab := fabs64_fl hr4) | (apply upon_narrow s_f64 Try.underlying35; (exact hab); (exact hft); intro r6 n6 hr6))
  go_ret
  exact ⟨_, rfl, hr6, _, by first | rfl | (simp only [World.drewN_drewN]; rfl)⟩
def muG (S : Option Nat) (G : Gat) (i k : Nat) : Bool := flt32 (some (mk k)) (fop .quo .f32 (fsz (G.p.getD i none)) S)
set_option linter.unusedSimpArgs false in
set_option maxRecDepth 20000 in
set_option maxHeartbeats 40000000 in
theorem c_spec_MuteGather {w : World} {B : Nat} {v : Value} {G : Gat} (h : RdG w B v G) (hB : B ≤ w.heap.size) (h1 : G.p.length ≤ 1048576) (h2 : G.r.length ≤ 1048576) (h3 : ∀ j, j < G.r.length → (G.r.getD j []).length ≤ 1048576) {s : Nat} {S : Option Nat} (fs : Fl .f32 s S) :
    Calls Try.prog 31 #[v, .float .f32 s] w fun e w' => RetG w e w' (fvG G && fabove S) (mutG (muG S G) G) := by
  obtain ⟨Ap, cp, At, ct, rfl, hp, hr, hcp, hct⟩ := h.ex
  obtain ⟨W1, hW1⟩ : ∃ W1, W1 = (w.alloc (.cells #[.int .i64 G.t, .slice Ap G.p.length cp, .slice At G.r.length ct] 25)).alloc (.cells #[.int .i64 0, .slice none 0 0, .slice none 0 0] 25) := ⟨_, rfl⟩
  have hbx : GbAt W1 w.heap.size G.t Ap G.p.length cp At G.r.length ct := by rw [hW1]; exact (GbAt.blk (T := 25) (by repeat (first | (refine al_at ?_ ?_ <;> first | rfl | (simp only [al_size] <;> omega)) | apply al_old))).ext (Ext.alloc (Ext.refl _) _)
  have hx1 : Ext w W1 := by rw [hW1]; exact (by repeat (first | assumption | exact Ext.refl _ | apply Ext.drewN | apply Ext.drew | apply Ext.alloc | (refine Ext.trans ?_ (by assumption)) | (refine Ext.set ?_ (by dsimp only; omega) _)))
  have hz1 : W1.heap[w.heap.size + 1]? = some (.cells #[.int .i64 0, .slice none 0 0, .slice none 0 0] 25 (0, 0)) := by rw [hW1]; exact al_at (al_size _ _).symm rfl
  have hs1 : W1.heap.size = w.heap.size + 1 + 1 := by rw [hW1, al_size, al_size]
  have HIS := Lib.hid (c_l04Is hbx (hp.below (hx1.mono hB)) (hr.below (hx1.mono hB)) h1 h2 h3)
  cases hV : fvG G
  · rw [hV] at HIS
    go_enter Try.func31, Try.ntmps31
    go_wp2_with (fail)
    rw [← hW1]
    obtain ⟨c0, c1, c2, x0, x1, x2⟩ := three_c hz1
    clear hW1
    go_wp2_with ((go_at_call 63; refine Calls.mono HIS.out ?_; rintro e w1 ⟨rfl, n1, rfl⟩))
    (try simp only [Exit.inBlock, Exit.then])
    refine bodyPost_ret (results_cell2 rfl _ _ (w.heap.size + 1) 25 #[.int .i64 0, .slice none 0 0, .slice none 0 0] (0, 0) _ rfl (by repeat (first | exact hz1 | exact blk_set1 (blk_set1 (blk_set1 hz1 0 _) 1 _) 2 _)) Try.underlying25 rfl (by kernel_rfl)) rfl ?_
    exact retG_no rfl (by repeat (first | assumption | exact Ext.refl _ | apply Ext.drewN | apply Ext.drew | apply Ext.alloc | (refine Ext.trans ?_ (by assumption)) | (refine Ext.set ?_ (by dsimp only; omega) _)))
  rw [hV] at HIS
  have hVG := fvG_of hV
  rw [Bool.true_and]
  cases hA : fabove S
  · go_enter Try.func31, Try.ntmps31
    go_wp2_with (fail)
    rw [← hW1]
    obtain ⟨c0, c1, c2, x0, x1, x2⟩ := three_c hz1
    clear hW1
    go_wp2_with (first | (go_at_call 63; refine Calls.mono HIS.out ?_; rintro e w1 ⟨rfl, n1, rfl⟩) | (go_at_call 65; refine Calls.mono (c_l02Above fs _) ?_; rw [hA]; rintro e w1 ⟨rfl, n2, rfl⟩))
    (try simp only [Exit.inBlock, Exit.then])
    refine bodyPost_ret (results_cell2 rfl _ _ (w.heap.size + 1) 25 #[.int .i64 0, .slice none 0 0, .slice none 0 0] (0, 0) _ rfl (by repeat (first | exact hz1 | exact blk_set1 (blk_set1 (blk_set1 hz1 0 _) 1 _) 2 _)) Try.underlying25 rfl (by kernel_rfl)) rfl ?_
    exact retG_no rfl (by repeat (first | assumption | exact Ext.refl _ | apply Ext.drewN | apply Ext.drew | apply Ext.alloc | (refine Ext.trans ?_ (by assumption)) | (refine Ext.set ?_ (by dsimp only; omega) _)))
  have hpl := hp.len
  have hrl := hr.len
  have hn1 := hVG.n1
  have hmn := hVG.m
  have hrw : ∀ j, j < G.r.length → 1 ≤ (G.r.getD j []).length ∧ (G.r.getD j []).length ≤ 64 := fun j hj => by
    have h4 := hVG.row j hj
    have h5 := hVG.t1
    have h6 := hVG.t2
    omega
  have hfp : ∀ j, j < G.p.length → ffin .f32 (G.p.getD j none) = true := fun j hj => allL_at hj hVG.fin
  have HCO := Lib.hid (fun (W : World) (hW : Ext W1 W) => c_l04Own (w := W) (hbx.ext hW) (hp.below ((hx1.trans hW).mono hB)) (hr.below ((hx1.trans hW).mono hB)) (Nat.le_trans hB (hx1.trans hW).size) h1 h2 h3 (by omega) (by omega) (fun j hj => (hrw j hj).1))
  obtain ⟨m, hm⟩ : ∃ m, G.p.length = m := ⟨_, rfl⟩
  rw [hmn, hm] at hrw
  rw [hm] at hn1 hp hbx h1 hcp hfp
  rw [hmn, hm] at hr hbx h2 hct
  have hRL : G.r.length = m := hmn.trans hm
  have HRW := Lib.hid hrw
  have HPL := Lib.hid hm
  have HRL := Lib.hid hRL
  have HP := Lib.hid hp
  have HBX1 := Lib.hid hbx
  have HFP := Lib.hid hfp
  have hn2 : m ≤ 16 := by rw [← hm]; exact hVG.n2
  rw [hm, hRL] at hW1
  rw [hm, hRL]
  obtain ⟨mu, hmu⟩ : ∃ mu, mu = muG S G := ⟨_, rfl⟩
  rw [← hmu]
  have HMU := Lib.hid hmu
  clear hVG hmn hpl hrl hrw hp hr h3 h hm hRL hfp hmu
  go_enter Try.func31, Try.ntmps31
  go_wp2_with (fail)
  rw [← hW1]
  clear hW1
  go_wp2_with (first | (go_at_call 63; refine Calls.mono HIS.out ?_; rintro e w1 ⟨rfl, n1, rfl⟩) | (go_at_call 65; refine Calls.mono (c_l02Above fs _) ?_; rw [hA]; rintro e w1 ⟨rfl, n2, rfl⟩) | (go_at_call 66; refine Calls.mono (HCO.out _ (by repeat (first | assumption | exact Ext.refl _ | apply Ext.drewN | apply Ext.drew | apply Ext.alloc | (refine Ext.trans ?_ (by assumption)) | (refine Ext.set ?_ (by dsimp only; omega) _)))) ?_; rintro e w2 ⟨x, rfl, ho, hx2⟩; obtain ⟨Ap2, cp2, At2, ct2, gp, g, f, hv, hop⟩ := ho.inP; rw [HPL.out, HRL.out] at hv hop; subst hv; have hx12 : Ext W1 w2 := (by repeat (first | assumption | exact Ext.refl _ | apply Ext.drewN | apply Ext.drew | apply Ext.alloc | (refine Ext.trans ?_ (by assumption)) | (refine Ext.set ?_ (by dsimp only; omega) _))); have hb2 := HBX1.out.ext hx12; obtain ⟨b0, b1', b2', _⟩ := id hb2))
  have hx02 : Ext w w2 := hx1.trans hx12
  have hzb := hx12.blk hz1
  have hz2 := hx12.size
  have hz3 := hx2.size
  simp only [size_drewN] at hz3 hop
  have hgb := hop.g_in.resolve_left (by omega)
  obtain ⟨off, _, _, hAt2, _⟩ := hop.row (i := 0) hn1
  subst hAt2
  have HOP := Lib.hid (hop.more (lo' := w.heap.size + 1 + 1) (by omega) (Nat.le_refl _))
  have HZB := Lib.hid hzb
  clear hop hzb ho b0 b1' b2'
  go_loopw [7] (fun y wr => ∃ k : Nat, k ≤ m ∧ y = .int .i64 k ∧ wr.heap[w2.heap.size]? = some (.cells #[.int .i64 G.t, .slice Ap2 m cp2, .slice (some ⟨g, off, none⟩) m ct2] 25 (0, 0)) ∧ wr.heap[w.heap.size + 1]? = some (.cells #[.int .i64 0, .slice none 0 0, .slice none 0 0] 25 (0, 0)) ∧ OwP wr (w.heap.size + 1 + 1) w2.heap.size Ap2 m cp2 (some ⟨g, off, none⟩) m ct2 gp g f G.p (mstS mu G k 0) ∧ Ext W1 wr) (fun y _ => m - (intOf y).toNat)
  case atStart => exact ⟨0, Nat.zero_le _, rfl, (by first | exact heap_alloc_new w2 _ | exact blk_set1 (blk_set1 (blk_set1 (heap_alloc_new w2 _) 0 _) 1 _) 2 _), (by repeat (first | exact HZB.out | apply al_old | (refine set_other ?_ (by dsimp only; omega)))), by rw [mst_start]; exact HOP.out.ext (Nat.le_refl _) (by repeat (first | assumption | exact Ext.refl _ | apply Ext.drewN | apply Ext.drew | apply Ext.alloc | (refine Ext.trans ?_ (by assumption)) | (refine Ext.set ?_ (by dsimp only; omega) _))), (by repeat (first | assumption | exact Ext.refl _ | apply Ext.drewN | apply Ext.drew | apply Ext.alloc | (refine Ext.trans ?_ (by assumption)) | (refine Ext.set ?_ (by dsimp only; omega) _)))⟩
  case round =>
    obtain ⟨k, hk, rfl, hbX, hzX, hop, hx⟩ := hrel
    have HBX := Lib.hid hbX
    have HZX := Lib.hid hzX
    have HOQ := Lib.hid hop
    have hs2 := blk_lt hbX
    have hx0r : Ext w wr := hx1.trans hx
    by_cases hlt : k < m
    · have hlt' : (k : Int) < (m : Int) := by omega
      have hRl : k < G.r.length := by rw [HRL.out]; exact hlt
      obtain ⟨b3, o3, t3, rfl, hb3, hc3w, ht3⟩ := (HP.out.below (hx1.mono hB)).cell hlt
      have hb3w : b3 < W1.heap.size := Nat.lt_of_lt_of_le hb3 (Nat.le_trans hB hx1.size)
      have hc3 := (hx.cell (p := ⟨b3, o3 + k, none⟩) hb3w).trans hc3w
      obtain ⟨g1, g2⟩ := HRW.out k hlt
      obtain ⟨Lk, hLk⟩ : ∃ x, (G.r.getD k []).length = x := ⟨_, rfl⟩
      have hrowk : ∀ t, ((mstS mu G k t).getD k []).length = Lk := fun t => by rw [mstS_row hRl, hLk]
      rw [hLk] at g1 g2
      have HROW := Lib.hid hrowk
      have HLK := Lib.hid hLk
      have hLkI : (1 : Int) ≤ (Lk : Int) := by omega
      have hfi := hop.f_in k hlt
      have hbr := HBX1.out.ext hx
      have p1r := hbr.p1
      obtain ⟨P3, hP3⟩ : ∃ P3, G.p.getD k none = P3 := ⟨_, rfl⟩
      have hP3f := HFP.out k hlt
      rw [hP3] at ht3 hP3f
      have HP3 := Lib.hid hP3
      obtain ⟨d0, d1, d2, y0, y1, y2⟩ := three_c hbX
      clear hbX hzX hop hrowk hLk hP3 hbr
      obtain ⟨off8, A4, c4, hA4, z1, _⟩ := HOQ.out.row hlt
      obtain rfl : off = off8 := by simpa using hA4
      rw [HROW.out] at z1
      obtain ⟨Q3, hQ3⟩ : ∃ Q3, fop .quo .f32 (fsz P3) S = Q3 := ⟨_, rfl⟩
      have HQ3 : Hid (∀ t : Nat, flt32 (some (mk t)) (fop .quo .f32 (fsz P3) S) = flt32 (some (mk t)) Q3) := Lib.hid (fun t => by rw [← hQ3])
      go_wp2_with (first | (go_at_call 77; refine Calls.mono (c_l04Size ht3) ?_; rintro e w7 ⟨r7, rfl, hr7, n7, rfl⟩) | (apply upon_fop rfl; (exact hr7); (exact fs); intro r8 n8 hr8))
      rw [hQ3] at hr8
      go_loopw [9] (fun z wq => ∃ t : Nat, 0 ≤ t ∧ t ≤ Lk ∧ z = .int .i64 t ∧ wq.heap[w2.heap.size]? = some (.cells #[.int .i64 G.t, .slice Ap2 m cp2, .slice (some ⟨g, off, none⟩) m ct2] 25 (0, 0)) ∧ wq.heap[w.heap.size + 1]? = some (.cells #[.int .i64 0, .slice none 0 0, .slice none 0 0] 25 (0, 0)) ∧ OwP wq (w.heap.size + 1 + 1) w2.heap.size Ap2 m cp2 (some ⟨g, off, none⟩) m ct2 gp g f G.p (mstS mu G k t) ∧ Ext W1 wq) (fun z _ => Lk - (intOf z).toNat)
      case atStart => exact ⟨0, Nat.le_refl _, Nat.zero_le _, rfl, (by repeat (first | exact HBX.out | (refine set_other ?_ (by dsimp only; omega)))), (by repeat (first | exact HZX.out | (refine set_other ?_ (by dsimp only; omega)))), HOQ.out.ext (Nat.le_of_lt hs2) (by repeat (first | assumption | exact Ext.refl _ | apply Ext.drewN | apply Ext.drew | apply Ext.alloc | (refine Ext.trans ?_ (by assumption)) | (refine Ext.set ?_ (by dsimp only; omega) _))), (by repeat (first | assumption | exact Ext.refl _ | apply Ext.drewN | apply Ext.drew | apply Ext.alloc | (refine Ext.trans ?_ (by assumption)) | (refine Ext.set ?_ (by dsimp only; omega) _)))⟩
      case round =>
        obtain ⟨t, ht1, htL, rfl, hbX, hzX, hop, hxq⟩ := hrel
        have HBQ := Lib.hid hbX
        have HZQ := Lib.hid hzX
        have HOT := Lib.hid hop
        have hs3 := blk_lt hbX
        have p1q := (HBX1.out.ext hxq).p1
        have hc3q := (hxq.cell (p := ⟨b3, o3 + k, none⟩) hb3w).trans hc3w
        obtain ⟨d0, d1, d2, y0, y1, y2⟩ := three_c hbX
        by_cases htl : t < Lk
        · have htl' : (t : Int) < (Lk : Int) := by omega
          have hmi := mk_int t
          obtain ⟨off8, A4, c4, o4, q4, hA8, z1, rfl, z3, z4, z5, z6⟩ := hop.num (i := k) (k := t) hlt (by rw [HROW.out]; exact htl)
          obtain rfl : off = off8 := by simpa using hA8
          rw [HROW.out] at z1
          have HPUT := Lib.hid (z6 0 fz fl_fz)
          clear hbX hzX hop z4 z6
          have hme : mu k t = flt32 (some (mk t)) Q3 := by rw [HMU.out]; unfold muG; rw [HP3.out]; exact HQ3.out t
          have holt := (fl_mk t).olt hr8
          cases hg : flt32 (some (mk t)) Q3
          · rw [hg] at hme holt
            have HMT := Lib.hid hme
            clear hme
            go_wp2_with (fail)
            exact ⟨⟨t + 1, by omega, by omega, by go_num, (by repeat (first | exact HBQ.out | (refine set_other ?_ (by dsimp only; omega)))), (by repeat (first | exact HZQ.out | (refine set_other ?_ (by dsimp only; omega)))), (by have h9 := HOT.out; rw [← mst_skip HMT.out] at h9; exact h9), (by repeat (first | assumption | exact Ext.refl _ | apply Ext.drewN | apply Ext.drew | apply Ext.alloc | (refine Ext.trans ?_ (by assumption)) | (refine Ext.set ?_ (by dsimp only; omega) _)))⟩, by simp [intOf]; omega⟩
          · rw [hg] at hme holt
            have HMT := Lib.hid hme
            clear hme
            go_wp2_with (fail)
            exact ⟨⟨t + 1, by omega, by omega, by go_num, (by repeat (first | exact HBQ.out | (refine set_other ?_ (by dsimp only; omega)))), (by repeat (first | exact HZQ.out | (refine set_other ?_ (by dsimp only; omega)))), (by have h9 := HPUT.out; rw [mst_put hRl (by rw [HLK.out]; exact htl) HMT.out] at h9; exact h9), (by repeat (first | assumption | exact Ext.refl _ | apply Ext.drewN | apply Ext.drew | apply Ext.alloc | (refine Ext.trans ?_ (by assumption)) | (refine Ext.set ?_ (by dsimp only; omega) _)))⟩, by simp [intOf]; omega⟩
        · obtain rfl : t = Lk := by omega
          have hn9 : mstS mu G k t = mstS mu G (k + 1) 0 := mst_next HLK.out.symm
          have HNX : Hid (OwP wr (w.heap.size + 1 + 1) w2.heap.size Ap2 m cp2 (some ⟨g, off, none⟩) m ct2 gp g f G.p (mstS mu G (k + 1) 0)) := Lib.hid (by rw [← hn9]; exact hop)
          obtain ⟨off8, A4, c4, hA4, z1, _⟩ := hop.row hlt
          obtain rfl : off = off8 := by simpa using hA4
          rw [HROW.out] at z1
          clear hbX hzX hop hn9
          go_wp2_with (fail)
          exact ⟨⟨k + 1, by omega, by go_num, HBQ.out, HZQ.out, HNX.out, hxq⟩, by simp [intOf]; omega⟩
    · obtain rfl : k = m := by omega
      have p1r := (HBX1.out.ext hx).p1
      obtain ⟨d0, d1, d2, y0, y1, y2⟩ := three_c hbX
      obtain ⟨c0', c1', c2', x0', x1', x2'⟩ := three_c hzX
      have hG : OwG wr (w.heap.size + 1 + 1) w2.heap.size (.agg #[.int .i64 G.t, .slice Ap2 k cp2, .slice (some ⟨g, off, none⟩) k ct2]) (mutG mu G) := by
        have h1 := hop.toG (t := G.t)
        unfold mutG
        rw [HRL.out]
        exact h1
      have HG := Lib.hid hG
      have hmt : (mutG mu G).p.length = k ∧ (mutG mu G).r.length = k := ⟨HPL.out, mstS_len.trans HRL.out⟩
      have HBZ := Lib.hid (fun u0 u1 u2 => blk_set1 (blk_set1 (blk_set1 hzX 0 u0) 1 u1) 2 u2)
      clear hG hbX hzX hop
      go_wp2_with (fail)
      (try simp only [Exit.inBlock, Exit.then])
      refine bodyPost_ret (results_cell2 rfl _ _ (w.heap.size + 1) 25 #[.int .i64 G.t, .slice Ap2 k cp2, .slice (some ⟨g, off, none⟩) k ct2] (0, 0) _ rfl (HBZ.out _ _ _) Try.underlying25 rfl (by kernel_rfl)) rfl ?_
      exact ⟨_, rfl, by
        refine OwG.more (lo := w.heap.size + 1 + 1) (hi := w2.heap.size) ?_ (by omega) (by simp; omega)
        repeat (first | exact HG.out | (refine OwG.setOther ?_ (by left; dsimp only; omega) _)), (by repeat (first | assumption | exact Ext.refl _ | apply Ext.drewN | apply Ext.drew | apply Ext.alloc | (refine Ext.trans ?_ (by assumption)) | (refine Ext.set ?_ (by dsimp only; omega) _)))⟩
set_option linter.unusedSimpArgs false in
set_option maxRecDepth 20000 in
set_option maxHeartbeats 40000000 in
theorem c_impl_MuteGather {w : World} {B : Nat} {v : Value} {G : Gat} (h : RdG w B v G) (hB : B ≤ w.heap.size) (h1 : G.p.length ≤ 1048576) (h2 : G.r.length ≤ 1048576) (h3 : ∀ j, j < G.r.length → (G.r.getD j []).length ≤ 1048576) {s : Nat} {S : Option Nat} (fs : Fl .f32 s S) :
    Calls Try.prog 32 #[v, .float .f32 s] w fun e w' => RetG w e w' (fvG G && fabove S) (mutG (muG S G) G) := by
  obtain ⟨Ap, cp, At, ct, rfl, hp, hr, hcp, hct⟩ := h.ex
  obtain ⟨W1, hW1⟩ : ∃ W1, W1 = (w.alloc (.cells #[.int .i64 G.t, .slice Ap G.p.length cp, .slice At G.r.length ct] 25)).alloc (.cells #[.int .i64 0, .slice none 0 0, .slice none 0 0] 25) := ⟨_, rfl⟩
  have hbx : GbAt W1 w.heap.size G.t Ap G.p.length cp At G.r.length ct := by rw [hW1]; exact (GbAt.blk (T := 25) (by repeat (first | (refine al_at ?_ ?_ <;> first | rfl | (simp only [al_size] <;> omega)) | apply al_old))).ext (Ext.alloc (Ext.refl _) _)
  have hx1 : Ext w W1 := by rw [hW1]; exact (by repeat (first | assumption | exact Ext.refl _ | apply Ext.drewN | apply Ext.drew | apply Ext.alloc | (refine Ext.trans ?_ (by assumption)) | (refine Ext.set ?_ (by dsimp only; omega) _)))
  have hz1 : W1.heap[w.heap.size + 1]? = some (.cells #[.int .i64 0, .slice none 0 0, .slice none 0 0] 25 (0, 0)) := by rw [hW1]; exact al_at (al_size _ _).symm rfl
  have hs1 : W1.heap.size = w.heap.size + 1 + 1 := by rw [hW1, al_size, al_size]
  have HIS := Lib.hid (c_impl_ValidGather (h.below (hx1.mono hB)) (Nat.le_trans hB hx1.size) h1 h2 h3)
  obtain ⟨p0, p1, p2, _⟩ := id hbx
  cases hV : fvG G
  · rw [hV] at HIS
    go_enter Try.func32, Try.ntmps32
    go_wp2_with (fail)
    rw [← hW1]
    clear hW1
    go_wp2_with ((go_at_call 57; refine Calls.mono HIS.out ?_; rintro e w1 ⟨rfl, hxv⟩; have hbv := hbx.ext hxv; obtain ⟨p0, p1, p2, _⟩ := id hbv; have hzv := hxv.blk hz1; obtain ⟨c0, c1, c2, x0, x1, x2⟩ := three_c hzv))
    (try simp only [Exit.inBlock, Exit.then])
    refine bodyPost_ret (results_cell2 rfl _ _ (w.heap.size + 1) 25 #[.int .i64 0, .slice none 0 0, .slice none 0 0] (0, 0) _ rfl (by repeat (first | exact hzv | exact blk_set1 (blk_set1 (blk_set1 hzv 0 _) 1 _) 2 _)) Try.underlying25 rfl (by kernel_rfl)) rfl ?_
    exact retG_no rfl (by repeat (first | assumption | exact Ext.refl _ | apply Ext.drewN | apply Ext.drew | apply Ext.alloc | (refine Ext.trans ?_ (by assumption)) | (refine Ext.set ?_ (by dsimp only; omega) _)))
  rw [hV] at HIS
  have hVG := fvG_of hV
  rw [Bool.true_and]
  cases hA : fabove S
  · go_enter Try.func32, Try.ntmps32
    go_wp2_with (fail)
    rw [← hW1]
    clear hW1
    go_wp2_with (first | (go_at_call 57; refine Calls.mono HIS.out ?_; rintro e w1 ⟨rfl, hxv⟩; have hbv := hbx.ext hxv; obtain ⟨p0, p1, p2, _⟩ := id hbv; have hzv := hxv.blk hz1; obtain ⟨c0, c1, c2, x0, x1, x2⟩ := three_c hzv) | (go_at_call 71; refine Calls.mono (c_isPositive fs) ?_; rw [hA]; rintro e w4 ⟨rfl, n2, rfl⟩))
    (try simp only [Exit.inBlock, Exit.then])
    refine bodyPost_ret (results_cell2 rfl _ _ (w.heap.size + 1) 25 #[.int .i64 0, .slice none 0 0, .slice none 0 0] (0, 0) _ rfl (by repeat (first | exact hzv | exact blk_set1 (blk_set1 (blk_set1 hzv 0 _) 1 _) 2 _)) Try.underlying25 rfl (by kernel_rfl)) rfl ?_
    exact retG_no rfl (by repeat (first | assumption | exact Ext.refl _ | apply Ext.drewN | apply Ext.drew | apply Ext.alloc | (refine Ext.trans ?_ (by assumption)) | (refine Ext.set ?_ (by dsimp only; omega) _)))
  have hpl := hp.len
  have hrl := hr.len
  have hn1 := hVG.n1
  have hmn := hVG.m
  have hrw : ∀ j, j < G.r.length → 1 ≤ (G.r.getD j []).length ∧ (G.r.getD j []).length ≤ 64 := fun j hj => by
    have h4 := hVG.row j hj
    have h5 := hVG.t1
    have h6 := hVG.t2
    omega
  have hfp : ∀ j, j < G.p.length → ffin .f32 (G.p.getD j none) = true := fun j hj => allL_at hj hVG.fin
  have HCO := Lib.hid (fun (W : World) (hW : Ext W1 W) => c_copyGather (w := W) (cp := cp) (ct := ct) (hp.below ((hx1.trans hW).mono hB)) (hr.below ((hx1.trans hW).mono hB)) (Nat.le_trans hB (hx1.trans hW).size) h1 h2 h3 (by omega) (by omega) (fun j hj => (hrw j hj).1))
  obtain ⟨m, hm⟩ : ∃ m, G.p.length = m := ⟨_, rfl⟩
  rw [hmn, hm] at hrw
  rw [hm] at hn1 hp hbx h1 hcp hfp p1 HIS HCO
  rw [hmn, hm] at hr hbx h2 hct p2 HIS HCO
  have hRL : G.r.length = m := hmn.trans hm
  have HRW := Lib.hid hrw
  have HPL := Lib.hid hm
  have HRL := Lib.hid hRL
  have HP := Lib.hid hp
  have HBX1 := Lib.hid hbx
  have HFP := Lib.hid hfp
  have hn2 : m ≤ 16 := by rw [← hm]; exact hVG.n2
  rw [hm, hRL] at hW1
  rw [hm, hRL]
  obtain ⟨mu, hmu⟩ : ∃ mu, mu = muG S G := ⟨_, rfl⟩
  rw [← hmu]
  have HMU := Lib.hid hmu
  clear hVG hmn hpl hrl hrw hp hr h3 h hm hRL hfp hmu
  go_enter Try.func32, Try.ntmps32
  go_wp2_with (fail)
  rw [← hW1]
  clear hW1
  go_wp2_with (first | (go_at_call 57; refine Calls.mono HIS.out ?_; rintro e w1 ⟨rfl, hxv⟩; have hbv := hbx.ext hxv; obtain ⟨p0, p1, p2, _⟩ := id hbv; have hzv := hxv.blk hz1; obtain ⟨c0, c1, c2, x0, x1, x2⟩ := three_c hzv) | (go_at_call 71; refine Calls.mono (c_isPositive fs) ?_; rw [hA]; rintro e w4 ⟨rfl, n2, rfl⟩) | (go_at_call 72; refine Calls.mono (HCO.out _ (by repeat (first | assumption | exact Ext.refl _ | apply Ext.drewN | apply Ext.drew | apply Ext.alloc | (refine Ext.trans ?_ (by assumption)) | (refine Ext.set ?_ (by dsimp only; omega) _)))) ?_; rintro e w2 ⟨x, rfl, ho, hx2⟩; obtain ⟨Ap2, cp2, At2, ct2, gp, g, f, hv, hop⟩ := ho.inP; rw [HPL.out, HRL.out] at hv hop; subst hv; have hx12 : Ext W1 w2 := (by repeat (first | assumption | exact Ext.refl _ | apply Ext.drewN | apply Ext.drew | apply Ext.alloc | (refine Ext.trans ?_ (by assumption)) | (refine Ext.set ?_ (by dsimp only; omega) _))); have hb2 := HBX1.out.ext hx12; obtain ⟨b0, b1', b2', _⟩ := id hb2))
  have hx02 : Ext w w2 := hx1.trans hx12
  have hzb := hx12.blk hz1
  have hz2 := hx12.size
  have hz3 := hx2.size
  simp only [size_drewN] at hz3 hop
  have hz4 := hxv.size
  have hgb := hop.g_in.resolve_left (by omega)
  obtain ⟨off, _, _, hAt2, _⟩ := hop.row (i := 0) hn1
  subst hAt2
  have HOP := Lib.hid (hop.more (lo' := w.heap.size + 1 + 1) (by omega) (Nat.le_refl _))
  have HZB := Lib.hid hzb
  clear hop hzb ho b0 b1' b2' p0 p1 p2
  go_loopw [25] (fun y wr => ∃ k : Nat, k ≤ m ∧ y = .int .i64 k ∧ wr.heap[w2.heap.size]? = some (.cells #[.int .i64 G.t, .slice Ap2 m cp2, .slice (some ⟨g, off, none⟩) m ct2] 25 (0, 0)) ∧ wr.heap[w.heap.size + 1]? = some (.cells #[.int .i64 0, .slice none 0 0, .slice none 0 0] 25 (0, 0)) ∧ OwP wr (w.heap.size + 1 + 1) w2.heap.size Ap2 m cp2 (some ⟨g, off, none⟩) m ct2 gp g f G.p (mstS mu G k 0) ∧ Ext W1 wr) (fun y _ => m - (intOf y).toNat)
  case atStart => exact ⟨0, Nat.zero_le _, rfl, (by first | exact heap_alloc_new w2 _ | exact blk_set1 (blk_set1 (blk_set1 (heap_alloc_new w2 _) 0 _) 1 _) 2 _), (by repeat (first | exact HZB.out | apply al_old | (refine set_other ?_ (by dsimp only; omega)))), by rw [mst_start]; exact HOP.out.ext (Nat.le_refl _) (by repeat (first | assumption | exact Ext.refl _ | apply Ext.drewN | apply Ext.drew | apply Ext.alloc | (refine Ext.trans ?_ (by assumption)) | (refine Ext.set ?_ (by dsimp only; omega) _))), (by repeat (first | assumption | exact Ext.refl _ | apply Ext.drewN | apply Ext.drew | apply Ext.alloc | (refine Ext.trans ?_ (by assumption)) | (refine Ext.set ?_ (by dsimp only; omega) _)))⟩
  case round =>
    obtain ⟨k, hk, rfl, hbX, hzX, hop, hx⟩ := hrel
    have HBX := Lib.hid hbX
    have HZX := Lib.hid hzX
    have HOQ := Lib.hid hop
    have hs2 := blk_lt hbX
    have hx0r : Ext w wr := hx1.trans hx
    by_cases hlt : k < m
    · have hlt' : (k : Int) < (m : Int) := by omega
      have hRl : k < G.r.length := by rw [HRL.out]; exact hlt
      obtain ⟨b3, o3, t3, rfl, hb3, hc3w, ht3⟩ := (HP.out.below (hx1.mono hB)).cell hlt
      have hb3w : b3 < W1.heap.size := Nat.lt_of_lt_of_le hb3 (Nat.le_trans hB hx1.size)
      have hc3 := (hx.cell (p := ⟨b3, o3 + k, none⟩) hb3w).trans hc3w
      obtain ⟨g1, g2⟩ := HRW.out k hlt
      obtain ⟨Lk, hLk⟩ : ∃ x, (G.r.getD k []).length = x := ⟨_, rfl⟩
      have hrowk : ∀ t, ((mstS mu G k t).getD k []).length = Lk := fun t => by rw [mstS_row hRl, hLk]
      rw [hLk] at g1 g2
      have HROW := Lib.hid hrowk
      have HLK := Lib.hid hLk
      have hLkI : (1 : Int) ≤ (Lk : Int) := by omega
      have hfi := hop.f_in k hlt
      have hbr := HBX1.out.ext hx
      have p1r := hbr.p1
      obtain ⟨P3, hP3⟩ : ∃ P3, G.p.getD k none = P3 := ⟨_, rfl⟩
      have hP3f := HFP.out k hlt
      rw [hP3] at ht3 hP3f
      have HP3 := Lib.hid hP3
      obtain ⟨d0, d1, d2, y0, y1, y2⟩ := three_c hbX
      clear hbX hzX hop hrowk hLk hP3 hbr
      obtain ⟨off8, A4, c4, hA4, z1, _⟩ := HOQ.out.row hlt
      obtain rfl : off = off8 := by simpa using hA4
      rw [HROW.out] at z1
      obtain ⟨Q3, hQ3⟩ : ∃ Q3, fop .quo .f32 (fconv .f64 .f32 (fabs64 P3)) S = Q3 := ⟨_, rfl⟩
      have HQ3 : Hid (∀ t : Nat, flt32 (some (mk t)) (fop .quo .f32 (fsz P3) S) = flt32 (some (mk t)) Q3) := Lib.hid (fun t => by rw [← hQ3]; exact (mute_same ht3 fs hP3f hA t).symm)
      go_wp2_with (first | (go_at_call 78; refine Calls.mono (c_absoluteOf ht3 hP3f) ?_; rintro e w7 ⟨r7, rfl, hr7, n7, rfl⟩) | (apply upon_fop rfl; (exact hr7); (exact fs); intro r8 n8 hr8))
      rw [hQ3] at hr8
      go_loopw [40] (fun z wq => ∃ t : Nat, 0 ≤ t ∧ t ≤ Lk ∧ z = .int .i64 t ∧ wq.heap[w2.heap.size]? = some (.cells #[.int .i64 G.t, .slice Ap2 m cp2, .slice (some ⟨g, off, none⟩) m ct2] 25 (0, 0)) ∧ wq.heap[w.heap.size + 1]? = some (.cells #[.int .i64 0, .slice none 0 0, .slice none 0 0] 25 (0, 0)) ∧ OwP wq (w.heap.size + 1 + 1) w2.heap.size Ap2 m cp2 (some ⟨g, off, none⟩) m ct2 gp g f G.p (mstS mu G k t) ∧ Ext W1 wq) (fun z _ => Lk - (intOf z).toNat)
      case atStart => exact ⟨0, Nat.le_refl _, Nat.zero_le _, rfl, (by repeat (first | exact HBX.out | (refine set_other ?_ (by dsimp only; omega)))), (by repeat (first | exact HZX.out | (refine set_other ?_ (by dsimp only; omega)))), HOQ.out.ext (Nat.le_of_lt hs2) (by repeat (first | assumption | exact Ext.refl _ | apply Ext.drewN | apply Ext.drew | apply Ext.alloc | (refine Ext.trans ?_ (by assumption)) | (refine Ext.set ?_ (by dsimp only; omega) _))), (by repeat (first | assumption | exact Ext.refl _ | apply Ext.drewN | apply Ext.drew | apply Ext.alloc | (refine Ext.trans ?_ (by assumption)) | (refine Ext.set ?_ (by dsimp only; omega) _)))⟩
      case round =>
        obtain ⟨t, ht1, htL, rfl, hbX, hzX, hop, hxq⟩ := hrel
        have HBQ := Lib.hid hbX
        have HZQ := Lib.hid hzX
        have HOT := Lib.hid hop
        have hs3 := blk_lt hbX
        have p1q := (HBX1.out.ext hxq).p1
        have hc3q := (hxq.cell (p := ⟨b3, o3 + k, none⟩) hb3w).trans hc3w
        obtain ⟨d0, d1, d2, y0, y1, y2⟩ := three_c hbX
        by_cases htl : t < Lk
        · have htl' : (t : Int) < (Lk : Int) := by omega
          have hmi := mk_int t
          obtain ⟨off8, A4, c4, o4, q4, hA8, z1, rfl, z3, z4, z5, z6⟩ := hop.num (i := k) (k := t) hlt (by rw [HROW.out]; exact htl)
          obtain rfl : off = off8 := by simpa using hA8
          rw [HROW.out] at z1
          have HPUT := Lib.hid (z6 0 fz fl_fz)
          clear hbX hzX hop z4 z6
          have hme : mu k t = flt32 (some (mk t)) Q3 := by rw [HMU.out]; unfold muG; rw [HP3.out]; exact HQ3.out t
          have holt := (fl_mk t).olt hr8
          cases hg : flt32 (some (mk t)) Q3
          · rw [hg] at hme holt
            have HMT := Lib.hid hme
            clear hme
            go_wp2_with (fail)
            exact ⟨⟨t + 1, by omega, by omega, by go_num, (by repeat (first | exact HBQ.out | (refine set_other ?_ (by dsimp only; omega)))), (by repeat (first | exact HZQ.out | (refine set_other ?_ (by dsimp only; omega)))), (by have h9 := HOT.out; rw [← mst_skip HMT.out] at h9; exact h9), (by repeat (first | assumption | exact Ext.refl _ | apply Ext.drewN | apply Ext.drew | apply Ext.alloc | (refine Ext.trans ?_ (by assumption)) | (refine Ext.set ?_ (by dsimp only; omega) _)))⟩, by simp [intOf]; omega⟩
          · rw [hg] at hme holt
            have HMT := Lib.hid hme
            clear hme
            go_wp2_with (fail)
            exact ⟨⟨t + 1, by omega, by omega, by go_num, (by repeat (first | exact HBQ.out | (refine set_other ?_ (by dsimp only; omega)))), (by repeat (first | exact HZQ.out | (refine set_other ?_ (by dsimp only; omega)))), (by have h9 := HPUT.out; rw [mst_put hRl (by rw [HLK.out]; exact htl) HMT.out] at h9; exact h9), (by repeat (first | assumption | exact Ext.refl _ | apply Ext.drewN | apply Ext.drew | apply Ext.alloc | (refine Ext.trans ?_ (by assumption)) | (refine Ext.set ?_ (by dsimp only; omega) _)))⟩, by simp [intOf]; omega⟩
        · obtain rfl : t = Lk := by omega
          have hn9 : mstS mu G k t = mstS mu G (k + 1) 0 := mst_next HLK.out.symm
          have HNX : Hid (OwP wr (w.heap.size + 1 + 1) w2.heap.size Ap2 m cp2 (some ⟨g, off, none⟩) m ct2 gp g f G.p (mstS mu G (k + 1) 0)) := Lib.hid (by rw [← hn9]; exact hop)
          obtain ⟨off8, A4, c4, hA4, z1, _⟩ := hop.row hlt
          obtain rfl : off = off8 := by simpa using hA4
          rw [HROW.out] at z1
          clear hbX hzX hop hn9
          go_wp2_with (fail)
          exact ⟨⟨k + 1, by omega, by go_num, HBQ.out, HZQ.out, HNX.out, hxq⟩, by simp [intOf]; omega⟩
    · obtain rfl : k = m := by omega
      have p1r := (HBX1.out.ext hx).p1
      obtain ⟨d0, d1, d2, y0, y1, y2⟩ := three_c hbX
      obtain ⟨c0', c1', c2', x0', x1', x2'⟩ := three_c hzX
      have hG : OwG wr (w.heap.size + 1 + 1) w2.heap.size (.agg #[.int .i64 G.t, .slice Ap2 k cp2, .slice (some ⟨g, off, none⟩) k ct2]) (mutG mu G) := by
        have h1 := hop.toG (t := G.t)
        unfold mutG
        rw [HRL.out]
        exact h1
      have HG := Lib.hid hG
      have hmt : (mutG mu G).p.length = k ∧ (mutG mu G).r.length = k := ⟨HPL.out, mstS_len.trans HRL.out⟩
      have HBZ := Lib.hid (fun u0 u1 u2 => blk_set1 (blk_set1 (blk_set1 hzX 0 u0) 1 u1) 2 u2)
      clear hG hbX hzX hop
      go_wp2_with (fail)
      (try simp only [Exit.inBlock, Exit.then])
      refine bodyPost_ret (results_cell2 rfl _ _ (w.heap.size + 1) 25 #[.int .i64 G.t, .slice Ap2 k cp2, .slice (some ⟨g, off, none⟩) k ct2] (0, 0) _ rfl (HBZ.out _ _ _) Try.underlying25 rfl (by kernel_rfl)) rfl ?_
      exact ⟨_, rfl, by
        refine OwG.more (lo := w.heap.size + 1 + 1) (hi := w2.heap.size) ?_ (by omega) (by simp; omega)
        repeat (first | exact HG.out | (refine OwG.setOther ?_ (by left; dsimp only; omega) _)), (by repeat (first | assumption | exact Ext.refl _ | apply Ext.drewN | apply Ext.drew | apply Ext.alloc | (refine Ext.trans ?_ (by assumption)) | (refine Ext.set ?_ (by dsimp only; omega) _)))⟩
end Go.Proofs.Ytceldjkgddbfaaa
