/- Cells in which the parts of a path lie, on both sides. Condition: the path is one, the parts are few. -/
import Derived.Test.YtddemhlhlbpecaaPt
import Derived.Test.YtddemhlhlbpecaaBs
import Derived.Test.YtddemhlhlbpecaaFz
import Derived.Test.YtddemhlhlbpecaaWb
import Derived.Test.YtddemhlhlbpecaaMo3
import Derived.Test.YtddemhlhlbpecaaXc
namespace Go.Proofs.Ytddemhlhlbpecaa
open Go.RowKit Ieee
set_option linter.unusedVariables false
set_option linter.unusedSimpArgs false

theorem fin_p1000 : Fin_ .f32 1148846080 false 16384000 135 := by
  have h := Fin_.of_word .f32 false 16384000 135 (by decide +kernel) (Or.inr (by decide +kernel)) (by decide +kernel)
  have e : FloatKind.f32.format.word false (135 * FloatKind.f32.format.binade + 16384000) = 1148846080 := by decide +kernel
  rwa [e] at h
theorem fin_m1000 : Fin_ .f32 3296329728 true 16384000 135 := by
  have h := Fin_.of_word .f32 true 16384000 135 (by decide +kernel) (Or.inr (by decide +kernel)) (by decide +kernel)
  have e : FloatKind.f32.format.word true (135 * FloatKind.f32.format.binade + 16384000) = 3296329728 := by decide +kernel
  rwa [e] at h
theorem place_bs {t : Nat} {X : Option Nat} (h : Fl .f32 t X) (hp : fplace X = true) : Bs X 159 := by
  unfold fplace at hp
  rw [Bool.and_eq_true] at hp
  obtain ⟨hg, hl⟩ := hp
  have hX := h.eq
  have o1 : FloatKind.f32.format.order t 3296329728 = ford .f32 X m1000 := h.order fl_m1000
  have o2 : FloatKind.f32.format.order t 1148846080 = ford .f32 X p1000 := h.order fl_p1000
  unfold fge32 at hg
  unfold fle32 at hl
  rw [← o1] at hg
  rw [← o2] at hl
  have hv : (16384000 : Nat) * 2 ^ 135 ≤ 2 ^ 159 := by decide +kernel
  rcases shape .f32 t with ⟨s, m, e, k⟩ | ⟨s, hr, _, _⟩ | k
  · refine ⟨t, s, m, e, by rw [← hX, k.fl], k, Nat.le_trans ?_ hv⟩
    rw [k.order fin_m1000] at hg
    rw [k.order fin_p1000] at hl
    cases s
    · rw [sv_plus, sv_plus, cmp_eq] at hl
      generalize 16384000 * 2 ^ 135 = V at hl ⊢
      by_cases h1 : m * 2 ^ e ≤ V
      · exact h1
      · exfalso
        rw [if_neg (by omega), if_neg (by omega)] at hl
        cases hl
    · rw [sv_minus, sv_minus, Bool.or_eq_true, beq_iff_eq, beq_iff_eq, Option.some.injEq, Option.some.injEq, cmp_gt, cmp_is_eq] at hg
      generalize 16384000 * 2 ^ 135 = V at hg ⊢
      omega
  · exfalso
    cases s
    · rw [show FloatKind.f32.format.order t 1148846080 = some .gt from by unfold Format.order; rw [hr, fin_p1000.read]; rfl] at hl
      cases hl
    · rw [show FloatKind.f32.format.order t 3296329728 = some .lt from by unfold Format.order; rw [hr, fin_m1000.read]; rfl] at hg
      cases hg
  · exfalso
    rw [o1, ← hX, k] at hg
    cases hg
/-- A float within bounds that is rounded down. -/
theorem flr_of {x : Nat} {X : Option Nat} (hb : Bs X 178) (hx : Fl .f64 x (fconv .f32 .f64 X)) :
    (∃ s m i, FloatKind.f64.decode x = .number s m i) ∧ floatToIntVal .f64 (floorw x) .i64 = some (flr X) := by
  obtain ⟨b, s, m, e, hX, k, hle⟩ := hb
  refine flr_wide k hX hx ?_
  have h2 : 2 ^ 178 / 2 ^ 149 < 1073741824 := by decide +kernel
  exact Nat.lt_of_le_of_lt (Nat.div_le_div_right hle) h2
set_option maxRecDepth 20000 in
set_option maxHeartbeats 400000 in
theorem c_floorOf {t : Nat} {X : Option Nat} (h : Fl .f32 t X) (hb : Bs X 178) (w : World) : Calls Try.prog 158 #[.float .f32 t] w fun e w' => e = .returned (.int .i64 (flr X)) ∧ Dr w w' := by
  have HF := Lib.hid (fun x hx => flr_of (x := x) hb hx)
  go_enter Try.func158, Try.ntmps158
  go_wp2_with (first | (apply upon_wide s_f32 Try.underlying41; (exact h); intro r4 n4 hr4; have kk := HF.out r4 hr4; have hcv := fun W => run_convert_float_int (P := Try.prog) W 41 2 .f64 .i64 (floorw r4) (flr X) s_f64 Try.underlying2 kk.2) | (go_at_call 98; refine Calls.mono (c_Floor kk.1 _) ?_; rintro e w1 ⟨rfl, rfl⟩))
  go_ret
  exact ⟨rfl, _, rfl⟩
section
variable {P : Program} {ops : Array Oper} {w0 : World} {S : (Nat → Value) → Act} {fin : List (Nat × Fact) → Prop} {j : Nat} {d : Tmp} {rest : List (Nat × Tmp)} {Fs : List (Nat × Fact)}
theorem mo_wide {o : Oper} {src dst : TypeId} {X : Option Nat} (hs : (P.underlying src).isSome = true) (hdt : P.underlying dst = some (.float .f64)) (ho : ops[j]? = some o) (hg : o.guard = none)
    (h : ∀ vs w', Ext w0 w' → Deps ops Fs j vs w' → ∃ x, Fl .f32 x X ∧ (execOp (S vs).eval o).run P w' = ((convert src dst (.float .f32 x)).run P w').andThen fun v w' => .ok (.value v) w')
    (hrest : MoGo P .any ops Ext w0 S fin rest ((j, fun _ u _ => FlOf .f64 (fconv .f32 .f64 X) u) :: Fs)) : MoGo P .any ops Ext w0 S fin ((j, d) :: rest) Fs :=
  mo_any _ ho hg (fun _ _ _ _ h _ => h) (fun vs w' hw hd => by
    obtain ⟨x, hx, hr⟩ := h vs w' hw hd
    unfold moAt
    rw [hr]
    obtain ⟨r, n, e, e1, e2⟩ := run_fconv (P := P) w' src dst .f32 .f64 x hx.lt hs hdt (fits_wide x)
    rw [e]
    exact ⟨⟨r, rfl, ⟨by rw [e1, hx.eq], e2⟩⟩, Ext.drewN (Ext.refl _) n⟩) hrest
end
/-- The middle of a part of a path. -/
def fmid (i parts : Nat) : Option Nat := fop .quo .f32 (fop .add .f32 (some (mk i)) (fl .f32 1056964608)) (some (mk parts))
/-- A place along a path. -/
def falng (F T Q : Option Nat) : Option Nat := fop .add .f32 F (fop .mul .f32 (fop .sub .f32 T F) Q)
/-- The cell of a part of a path, -1 if there is none. -/
def pcell (wide deep x z : Int) : Int := if inB x 0 (wide - 1) && inB z 0 (deep - 1) then x + wide * z else -1
def pcellOf (g : Pth) (wide deep : Int) (i parts : Nat) : Int :=
  pcell wide deep (flr (falng (fl .f32 g.a) (fl .f32 g.c) (fmid i parts))) (flr (falng (fl .f32 g.b) (fl .f32 g.d) (fmid i parts)))
theorem fin_hlf : Fin_ .f32 1056964608 false 8388608 125 := by
  have h := Fin_.of_word .f32 false 8388608 125 (by decide +kernel) (Or.inr (by decide +kernel)) (by decide +kernel)
  have e : FloatKind.f32.format.word false (125 * FloatKind.f32.format.binade + 8388608) = 1056964608 := by decide +kernel
  rwa [e] at h
theorem fl_hlf : Fl .f32 1056964608 (fl .f32 1056964608) := Fl.of32 (by decide)
theorem hlf_bs : Bs (fl .f32 1056964608) 148 := ⟨1056964608, false, 8388608, 125, fin_hlf.fl, fin_hlf, by decide +kernel⟩
theorem mk_bs {i : Nat} (hi : i ≤ 256) : Bs (some (mk i)) 157 := by
  obtain ⟨n, j, hn, hv⟩ := int_fin32 i (by omega)
  refine ⟨mk i, false, n, j, rfl, hn, ?_⟩
  rw [hv, show 157 = 8 + 149 from rfl, Nat.pow_add]
  exact Nat.mul_le_mul_right _ (by omega)
theorem mid_bs {i parts : Nat} (hi : i ≤ 256) (hp : 1 ≤ parts) (hq : parts ≤ 256) : Bs (fmid i parts) 159 := by
  obtain ⟨n, j, hn, hv⟩ := int_fin32 parts (by omega)
  unfold fmid
  refine bs_quo (E := 158) (C := 149) 159 (bs_add 158 (mk_bs hi) hlf_bs (by decide) (by decide) (by decide) (by decide)) hn ?_ (by decide) (by decide) (by decide)
  rw [hv]
  exact Nat.le_mul_of_pos_left _ (by omega)
theorem alng_bs {F T Q : Option Nat} (hF : Bs F 159) (hT : Bs T 159) (hQ : Bs Q 159) : Bs (falng F T Q) 178 := by
  unfold falng
  exact bs_add (E := 159) (E' := 177) 178 hF (bs_mul (E := 160) (E' := 159) 177 (bs_sub (E := 159) (E' := 159) 160 hT hF (by decide) (by decide) (by decide) (by decide)) hQ (by decide) (by decide) (by decide)) (by decide) (by decide) (by decide) (by decide)
theorem path_bs {g : Pth} (hg : g.Ok) (hp : fpath g = true) : Bs (fl .f32 g.a) 159 ∧ Bs (fl .f32 g.b) 159 ∧ Bs (fl .f32 g.c) 159 ∧ Bs (fl .f32 g.d) 159 := by
  unfold fpath at hp
  rw [Bool.and_eq_true, Bool.and_eq_true, Bool.and_eq_true] at hp
  exact ⟨place_bs (Fl.of32 hg.a) hp.1, place_bs (Fl.of32 hg.b) hp.2.1, place_bs (Fl.of32 hg.c) hp.2.2.1, place_bs (Fl.of32 hg.d) hp.2.2.2⟩
set_option maxRecDepth 20000 in
set_option maxHeartbeats 4000000 in
theorem c_l06Cell {w : World} {bx : Nat} {g : Pth} (hb : PbAt w bx g) (hg : g.Ok) (hp : fpath g = true) {a b : Nat} (ha : 1 ≤ a) (ha2 : a ≤ 16) (hb1 : 1 ≤ b) (hb2 : b ≤ 16) {i parts : Nat} (hi : i < parts) (hpt : parts ≤ 256) :
    Calls Try.prog 123 #[.int .i64 (a : Int), .int .i64 (b : Int), .pointer (some ⟨bx, 0, none⟩), .int .i64 (parts : Int), .int .i64 (i : Int)] w fun e w' => e = .returned (.int .i64 (pcellOf g a b i parts)) ∧ Ext w w' := by
  obtain ⟨ba, bb, bc, bd⟩ := path_bs hg hp
  have bq := mid_bs (i := i) (parts := parts) (by omega) (by omega) hpt
  have HXA := Lib.hid (alng_bs ba bc bq)
  have HXC := Lib.hid (alng_bs bb bd bq)
  have fa : Fl .f32 g.a (fl .f32 g.a) := Fl.of32 hg.a
  have fb : Fl .f32 g.b (fl .f32 g.b) := Fl.of32 hg.b
  have fc : Fl .f32 g.c (fl .f32 g.c) := Fl.of32 hg.c
  have fd : Fl .f32 g.d (fl .f32 g.d) := Fl.of32 hg.d
  have hbl := hb.lt
  have HQ := Lib.hid (show fop .quo .f32 (fop .add .f32 (some (mk i)) (fl .f32 1056964608)) (some (mk parts)) = fmid i parts from rfl)
  go_enter Try.func123, Try.ntmps123
  go_wp2_with (first | (apply upon_fop rfl; (exact fl_mk i); (exact fl_hlf); intro r1 n1 hr1) | (apply upon_fop rfl; (exact hr1); (exact fl_mk parts); intro r2 n2 hr2; rw [HQ.out] at hr2))
  have HB := Lib.hid (hb.drewN (n1 + n2))
  have hbl1 : bx < (w.drewN (n1 + n2)).heap.size := hbl
  generalize hW1 : w.drewN (n1 + n2) = wd at HB hbl1 ⊢
  have hxd : Ext w wd := by rw [← hW1]; exact Ext.drewN (Ext.refl _) _
  clear hW1
  refine wp_region_any (by kernel_rfl) ?_
  refine wpAny_mo_go (md := .any) (R := Ext) (w := wd) [(0, 20), (1, 21), (2, 22), (3, 23), (4, 24), (5, 25), (6, 26), (7, 27), (8, 28), (9, 29), (10, 30), (11, 31), (12, 32), (13, 33), (14, 34), (15, 35), (16, 36), (17, 37), (18, 38)] [19] (tl := [_]) (S := ?S3_) (by kernel_rfl) (by rfl) (by rfl) Ext.refl ext_tr (ext_drew1 _) ?hS3_ ?go3_
  case hS3_ => intro vs; simp only [putAll, Act.put, List.setIfInBounds_toArray, List.set_cons_zero, List.set_cons_succ]; rfl
  case go3_ =>
  refine mo_fix _ (by rfl) (by rfl) (by intro vs w1 hx_ hd; obtain ⟨l0, l1, l2, l3, _⟩ := HB.out.ext (w' := w1) hx_; go_simp; first | done | rfl) ?_
  refine mo_fix _ (by rfl) (by rfl) (by intro vs w1 hx_ hd; obtain ⟨l0, l1, l2, l3, _⟩ := HB.out.ext (w' := w1) hx_; have e0 := hd 0 (by kernel_rfl); simp (decide := true) only [factAt, if_true, if_false] at e0; simp only [e0]; go_simp; first | done | rfl) ?_
  refine mo_fix _ (by rfl) (by rfl) (by intro vs w1 hx_ hd; obtain ⟨l0, l1, l2, l3, _⟩ := HB.out.ext (w' := w1) hx_; have e1 := hd 1 (by kernel_rfl); simp (decide := true) only [factAt, if_true, if_false] at e1; simp only [e1]; go_simp; first | done | rfl) ?_
  refine mo_fix _ (by rfl) (by rfl) (by intro vs w1 hx_ hd; obtain ⟨l0, l1, l2, l3, _⟩ := HB.out.ext (w' := w1) hx_; have e2 := hd 2 (by kernel_rfl); simp (decide := true) only [factAt, if_true, if_false] at e2; simp only [e2]; go_simp; first | done | rfl) ?_
  refine mo_fix _ (by rfl) (by rfl) (by intro vs w1 hx_ hd; obtain ⟨l0, l1, l2, l3, _⟩ := HB.out.ext (w' := w1) hx_; go_simp; first | done | rfl) ?_
  refine mo_fix _ (by rfl) (by rfl) (by intro vs w1 hx_ hd; obtain ⟨l0, l1, l2, l3, _⟩ := HB.out.ext (w' := w1) hx_; have e4 := hd 4 (by kernel_rfl); simp (decide := true) only [factAt, if_true, if_false] at e4; simp only [e4]; go_simp; first | done | rfl) ?_
  refine mo_fix _ (by rfl) (by rfl) (by intro vs w1 hx_ hd; obtain ⟨l0, l1, l2, l3, _⟩ := HB.out.ext (w' := w1) hx_; have e5 := hd 5 (by kernel_rfl); simp (decide := true) only [factAt, if_true, if_false] at e5; simp only [e5]; go_simp; first | done | rfl) ?_
  refine mo_fix _ (by rfl) (by rfl) (by intro vs w1 hx_ hd; obtain ⟨l0, l1, l2, l3, _⟩ := HB.out.ext (w' := w1) hx_; have e6 := hd 6 (by kernel_rfl); simp (decide := true) only [factAt, if_true, if_false] at e6; simp only [e6]; go_simp; first | done | rfl) ?_
  refine mo_fix _ (by rfl) (by rfl) (by intro vs w1 hx_ hd; obtain ⟨l0, l1, l2, l3, _⟩ := HB.out.ext (w' := w1) hx_; go_simp; first | done | rfl) ?_
  refine mo_fix _ (by rfl) (by rfl) (by intro vs w1 hx_ hd; obtain ⟨l0, l1, l2, l3, _⟩ := HB.out.ext (w' := w1) hx_; have e8 := hd 8 (by kernel_rfl); simp (decide := true) only [factAt, if_true, if_false] at e8; simp only [e8]; go_simp; first | done | rfl) ?_
  refine mo_fix _ (by rfl) (by rfl) (by intro vs w1 hx_ hd; obtain ⟨l0, l1, l2, l3, _⟩ := HB.out.ext (w' := w1) hx_; have e9 := hd 9 (by kernel_rfl); simp (decide := true) only [factAt, if_true, if_false] at e9; simp only [e9]; go_simp; first | done | rfl) ?_
  refine mo_fix _ (by rfl) (by rfl) (by intro vs w1 hx_ hd; obtain ⟨l0, l1, l2, l3, _⟩ := HB.out.ext (w' := w1) hx_; have e10 := hd 10 (by kernel_rfl); simp (decide := true) only [factAt, if_true, if_false] at e10; simp only [e10]; go_simp; first | done | rfl) ?_
  refine mo_fop (op := .sub) (by rfl) (by rfl) (by rfl) (by intro vs w1 hx_ hd; have e7 := hd 7 (by kernel_rfl); have e11 := hd 11 (by kernel_rfl); simp (decide := true) only [factAt, if_true, if_false] at e7 e11; simp only [e7, e11]; exact ⟨_, _, fc, fa, by go_simp; rfl⟩) ?_
  refine mo_fix _ (by rfl) (by rfl) (by intro vs w1 hx_ hd; obtain ⟨l0, l1, l2, l3, _⟩ := HB.out.ext (w' := w1) hx_; go_simp; first | done | rfl) ?_
  refine mo_fop (op := .mul) (by rfl) (by rfl) (by rfl) (by intro vs w1 hx_ hd; have e12 := hd 12 (by kernel_rfl); have e13 := hd 13 (by kernel_rfl); simp (decide := true) only [factAt, if_true, if_false] at e12 e13; obtain ⟨r12, e12, f12⟩ := e12; simp only [e12, e13]; exact ⟨_, _, f12, hr2, by go_simp; rfl⟩) ?_
  refine mo_fop (op := .add) (by rfl) (by rfl) (by rfl) (by intro vs w1 hx_ hd; have e3 := hd 3 (by kernel_rfl); have e14 := hd 14 (by kernel_rfl); simp (decide := true) only [factAt, if_true, if_false] at e3 e14; obtain ⟨r14, e14, f14⟩ := e14; simp only [e3, e14]; exact ⟨_, _, fa, f14, by go_simp; rfl⟩) ?_
  refine mo_wide (src := 22) (dst := 41) s_f32 Try.underlying41 (by rfl) (by rfl) (by intro vs w1 hx_ hd; have e15 := hd 15 (by kernel_rfl); simp (decide := true) only [factAt, if_true, if_false] at e15; obtain ⟨r15, e15, f15⟩ := e15; simp only [e15]; exact ⟨_, f15, by go_simp; first | done | rfl⟩) ?_
  refine mo_call (fun v _ => ∃ r, v = .float .f64 (floorw r) ∧ Fl .f64 r (fconv .f32 .f64 (falng (fl .f32 g.a) (fl .f32 g.c) (fmid i parts)))) (by rfl) (by rfl) (fun _ _ _ h _ => h) (by intro vs w1 hx_ hd; have e16 := hd 16 (by kernel_rfl); simp (decide := true) only [factAt, if_true, if_false] at e16; obtain ⟨r16, e16, f16⟩ := e16; simp only [e16]; refine ⟨_, _, by go_simp; first | done | rfl | exact ⟨rfl, rfl⟩, ?_⟩; exact Calls.mono (c_Floor (flr_of HXA.out f16).1 _) (fun _ _ h => ⟨_, h.1, ⟨_, rfl, f16⟩, by rw [h.2]; exact Ext.refl _⟩)) ?_
  refine mo_fix (.int .i64 (flr (falng (fl .f32 g.a) (fl .f32 g.c) (fmid i parts)))) (by rfl) (by rfl) (by intro vs w1 hx_ hd; have e17 := hd 17 (by kernel_rfl); simp (decide := true) only [factAt, if_true, if_false] at e17; obtain ⟨r17, e17, f17⟩ := e17; simp only [e17]; have hcv := fun W => run_convert_float_int (P := Try.prog) W 41 2 .f64 .i64 (floorw r17) _ s_f64 Try.underlying2 (flr_of HXA.out f17).2; go_simp; first | done | (rw [hcv]; rfl) | rfl) ?_
  refine mo_end ?_
  intro vs w2 hx2 hd
  have e18 := hd 18 (by kernel_rfl)
  simp (decide := true) only [factAt, if_true, if_false] at e18
  generalize vs 18 = v18 at e18 ⊢
  subst e18
  clear hd
  have HB2 := Lib.hid (HB.out.ext hx2)
  go_wp2_with (fail)
  refine wp_region_any (by kernel_rfl) ?_
  refine wpAny_mo_go (md := .any) (R := Ext) (w := w2) [(0, 39), (1, 40), (2, 41), (3, 42), (4, 43), (5, 44), (6, 45), (7, 46), (8, 47), (9, 48), (10, 49), (11, 50), (12, 51), (13, 52), (14, 53), (15, 54), (16, 55), (17, 56), (18, 57)] [19] (tl := [_]) (S := ?S4_) (by kernel_rfl) (by rfl) (by rfl) Ext.refl ext_tr (ext_drew1 _) ?hS4_ ?go4_
  case hS4_ => intro vs; simp only [putAll, Act.put, List.setIfInBounds_toArray, List.set_cons_zero, List.set_cons_succ]; rfl
  case go4_ =>
  refine mo_fix _ (by rfl) (by rfl) (by intro vs w1 hx_ hd; obtain ⟨l0, l1, l2, l3, _⟩ := HB2.out.ext (w' := w1) hx_; go_simp; first | done | rfl) ?_
  refine mo_fix _ (by rfl) (by rfl) (by intro vs w1 hx_ hd; obtain ⟨l0, l1, l2, l3, _⟩ := HB2.out.ext (w' := w1) hx_; have e0 := hd 0 (by kernel_rfl); simp (decide := true) only [factAt, if_true, if_false] at e0; simp only [e0]; go_simp; first | done | rfl) ?_
  refine mo_fix _ (by rfl) (by rfl) (by intro vs w1 hx_ hd; obtain ⟨l0, l1, l2, l3, _⟩ := HB2.out.ext (w' := w1) hx_; have e1 := hd 1 (by kernel_rfl); simp (decide := true) only [factAt, if_true, if_false] at e1; simp only [e1]; go_simp; first | done | rfl) ?_
  refine mo_fix _ (by rfl) (by rfl) (by intro vs w1 hx_ hd; obtain ⟨l0, l1, l2, l3, _⟩ := HB2.out.ext (w' := w1) hx_; have e2 := hd 2 (by kernel_rfl); simp (decide := true) only [factAt, if_true, if_false] at e2; simp only [e2]; go_simp; first | done | rfl) ?_
  refine mo_fix _ (by rfl) (by rfl) (by intro vs w1 hx_ hd; obtain ⟨l0, l1, l2, l3, _⟩ := HB2.out.ext (w' := w1) hx_; go_simp; first | done | rfl) ?_
  refine mo_fix _ (by rfl) (by rfl) (by intro vs w1 hx_ hd; obtain ⟨l0, l1, l2, l3, _⟩ := HB2.out.ext (w' := w1) hx_; have e4 := hd 4 (by kernel_rfl); simp (decide := true) only [factAt, if_true, if_false] at e4; simp only [e4]; go_simp; first | done | rfl) ?_
  refine mo_fix _ (by rfl) (by rfl) (by intro vs w1 hx_ hd; obtain ⟨l0, l1, l2, l3, _⟩ := HB2.out.ext (w' := w1) hx_; have e5 := hd 5 (by kernel_rfl); simp (decide := true) only [factAt, if_true, if_false] at e5; simp only [e5]; go_simp; first | done | rfl) ?_
  refine mo_fix _ (by rfl) (by rfl) (by intro vs w1 hx_ hd; obtain ⟨l0, l1, l2, l3, _⟩ := HB2.out.ext (w' := w1) hx_; have e6 := hd 6 (by kernel_rfl); simp (decide := true) only [factAt, if_true, if_false] at e6; simp only [e6]; go_simp; first | done | rfl) ?_
  refine mo_fix _ (by rfl) (by rfl) (by intro vs w1 hx_ hd; obtain ⟨l0, l1, l2, l3, _⟩ := HB2.out.ext (w' := w1) hx_; go_simp; first | done | rfl) ?_
  refine mo_fix _ (by rfl) (by rfl) (by intro vs w1 hx_ hd; obtain ⟨l0, l1, l2, l3, _⟩ := HB2.out.ext (w' := w1) hx_; have e8 := hd 8 (by kernel_rfl); simp (decide := true) only [factAt, if_true, if_false] at e8; simp only [e8]; go_simp; first | done | rfl) ?_
  refine mo_fix _ (by rfl) (by rfl) (by intro vs w1 hx_ hd; obtain ⟨l0, l1, l2, l3, _⟩ := HB2.out.ext (w' := w1) hx_; have e9 := hd 9 (by kernel_rfl); simp (decide := true) only [factAt, if_true, if_false] at e9; simp only [e9]; go_simp; first | done | rfl) ?_
  refine mo_fix _ (by rfl) (by rfl) (by intro vs w1 hx_ hd; obtain ⟨l0, l1, l2, l3, _⟩ := HB2.out.ext (w' := w1) hx_; have e10 := hd 10 (by kernel_rfl); simp (decide := true) only [factAt, if_true, if_false] at e10; simp only [e10]; go_simp; first | done | rfl) ?_
  refine mo_fop (op := .sub) (by rfl) (by rfl) (by rfl) (by intro vs w1 hx_ hd; have e7 := hd 7 (by kernel_rfl); have e11 := hd 11 (by kernel_rfl); simp (decide := true) only [factAt, if_true, if_false] at e7 e11; simp only [e7, e11]; exact ⟨_, _, fd, fb, by go_simp; rfl⟩) ?_
  refine mo_fix _ (by rfl) (by rfl) (by intro vs w1 hx_ hd; obtain ⟨l0, l1, l2, l3, _⟩ := HB2.out.ext (w' := w1) hx_; go_simp; first | done | rfl) ?_
  refine mo_fop (op := .mul) (by rfl) (by rfl) (by rfl) (by intro vs w1 hx_ hd; have e12 := hd 12 (by kernel_rfl); have e13 := hd 13 (by kernel_rfl); simp (decide := true) only [factAt, if_true, if_false] at e12 e13; obtain ⟨r12, e12, f12⟩ := e12; simp only [e12, e13]; exact ⟨_, _, f12, hr2, by go_simp; rfl⟩) ?_
  refine mo_fop (op := .add) (by rfl) (by rfl) (by rfl) (by intro vs w1 hx_ hd; have e3 := hd 3 (by kernel_rfl); have e14 := hd 14 (by kernel_rfl); simp (decide := true) only [factAt, if_true, if_false] at e3 e14; obtain ⟨r14, e14, f14⟩ := e14; simp only [e3, e14]; exact ⟨_, _, fb, f14, by go_simp; rfl⟩) ?_
  refine mo_wide (src := 22) (dst := 41) s_f32 Try.underlying41 (by rfl) (by rfl) (by intro vs w1 hx_ hd; have e15 := hd 15 (by kernel_rfl); simp (decide := true) only [factAt, if_true, if_false] at e15; obtain ⟨r15, e15, f15⟩ := e15; simp only [e15]; exact ⟨_, f15, by go_simp; first | done | rfl⟩) ?_
  refine mo_call (fun v _ => ∃ r, v = .float .f64 (floorw r) ∧ Fl .f64 r (fconv .f32 .f64 (falng (fl .f32 g.b) (fl .f32 g.d) (fmid i parts)))) (by rfl) (by rfl) (fun _ _ _ h _ => h) (by intro vs w1 hx_ hd; have e16 := hd 16 (by kernel_rfl); simp (decide := true) only [factAt, if_true, if_false] at e16; obtain ⟨r16, e16, f16⟩ := e16; simp only [e16]; refine ⟨_, _, by go_simp; first | done | rfl | exact ⟨rfl, rfl⟩, ?_⟩; exact Calls.mono (c_Floor (flr_of HXC.out f16).1 _) (fun _ _ h => ⟨_, h.1, ⟨_, rfl, f16⟩, by rw [h.2]; exact Ext.refl _⟩)) ?_
  refine mo_fix (.int .i64 (flr (falng (fl .f32 g.b) (fl .f32 g.d) (fmid i parts)))) (by rfl) (by rfl) (by intro vs w1 hx_ hd; have e17 := hd 17 (by kernel_rfl); simp (decide := true) only [factAt, if_true, if_false] at e17; obtain ⟨r17, e17, f17⟩ := e17; simp only [e17]; have hcv := fun W => run_convert_float_int (P := Try.prog) W 41 2 .f64 .i64 (floorw r17) _ s_f64 Try.underlying2 (flr_of HXC.out f17).2; go_simp; first | done | (rw [hcv]; rfl) | rfl) ?_
  refine mo_end ?_
  intro vs w3 hx3 hd
  have e18 := hd 18 (by kernel_rfl)
  simp (decide := true) only [factAt, if_true, if_false] at e18
  generalize vs 18 = v18 at e18 ⊢
  subst e18
  clear hd
  have HPC := Lib.hid (show pcellOf g a b i parts = pcell a b (flr (falng (fl .f32 g.a) (fl .f32 g.c) (fmid i parts))) (flr (falng (fl .f32 g.b) (fl .f32 g.d) (fmid i parts))) from rfl)
  have hxz : Ext w w3 := hxd.trans (hx2.trans hx3)
  clear hxd hx2 hx3 HB HB2 HXA HXC HQ
  generalize flr (falng (fl .f32 g.a) (fl .f32 g.c) (fmid i parts)) = x at HPC ⊢
  generalize flr (falng (fl .f32 g.b) (fl .f32 g.d) (fmid i parts)) = z at HPC ⊢
  have hx := fun W => c_l00In x 0 ((a : Int) - 1) W
  have hz := fun W => c_l00In z 0 ((b : Int) - 1) W
  cases hX : inB x 0 ((a : Int) - 1)
  · rw [hX] at hx
    go_wp2_with (go_at_call 120; refine Calls.mono (hx _) ?_; rintro e w1 ⟨rfl, rfl⟩)
    go_ret
    exact ⟨by rw [HPC.out]; unfold pcell; rw [hX]; rfl, hxz⟩
  · rw [hX] at hx
    obtain ⟨h1, h2⟩ := inB_of hX
    cases hZ : inB z 0 ((b : Int) - 1)
    · rw [hZ] at hz
      go_wp2_with (first | (go_at_call_of 120 x; refine Calls.mono (hx _) ?_; rintro e w1 ⟨rfl, rfl⟩) | (go_at_call_of 120 z; refine Calls.mono (hz _) ?_; rintro e w1 ⟨rfl, rfl⟩))
      go_ret
      exact ⟨by rw [HPC.out]; unfold pcell; rw [hX, hZ]; rfl, hxz⟩
    · rw [hZ] at hz
      obtain ⟨h3, h4⟩ := inB_of hZ
      have hm1 : 0 ≤ (a : Int) * z := Int.mul_nonneg (by omega) h3
      have hm2 : (a : Int) * z ≤ 16 * 16 := Int.mul_le_mul (by omega) (by omega) h3 (by omega)
      go_wp2_with (first | (go_at_call_of 120 x; refine Calls.mono (hx _) ?_; rintro e w1 ⟨rfl, rfl⟩) | (go_at_call_of 120 z; refine Calls.mono (hz _) ?_; rintro e w1 ⟨rfl, rfl⟩))
      go_ret
      exact ⟨by rw [HPC.out]; unfold pcell; rw [hX, hZ]; rfl, hxz⟩
end Go.Proofs.Ytddemhlhlbpecaa
