/- Contracts: sections copied by the reference, and made of zeros. Condition: the section is read and has a value. -/
import Derived.Test.YtddemhlhlbpecaaXd
namespace Go.Proofs.Ytddemhlhlbpecaa
open Go.RowKit Go.ChangeShapes Go.WideShapes Go.Deep Ieee
set_option linter.unusedVariables false
set_option linter.unusedSimpArgs false

theorem results_cellT {P : Program} {fn : Func} {p u : Tmp} {ty : TypeId} (h : fn.results = #[.cell p ty, .tmp u]) (tmps : Array Value) (w : World) (g : Nat) (t : TypeId) (cs : Array Value) (fr : Nat × Nat) (d : TypeDesc)
    (hp : tmps.getD p undef = .pointer (some ⟨g, 0, none⟩)) (hg : w.heap[g]? = some (.cells cs t fr))
    (hu : P.underlying ty = some d) (hd : (match d with | .struct _ | .array _ _ => true | _ => false) = true) (hi : (P.info? ty).map (·.size) = some cs.size) :
    (results fn tmps).run P w = .ok (.tuple #[.agg cs, tmps.getD u undef]) w := by
  rw [results_cell_tmp h, hp]
  simp [asAddr, run_loadVar_row w g t ty cs fr d hg hu hd hi]
/-- A section with a row of its own, new since w. -/
def NewT (w : World) (v : Value) (w' : World) (x z : Int) (n : Nat) (F : Nat → Option Nat) : Prop :=
  ∃ g cap cs, v = .agg #[.int .i64 x, .int .i64 z, .slice (some ⟨g, 0, none⟩) n cap] ∧ w.heap.size ≤ g ∧ w'.heap[g]? = some (.cells cs 22 (0, 0)) ∧ n ≤ cap ∧ n ≤ cs.size ∧ RowF cs n F ∧ Ext w w'
theorem NewT.own {w w' : World} {v : Value} {x z : Int} {n : Nat} {F : Nat → Option Nat} (h : NewT w v w' x z n F) : OwT w' w.heap.size w'.heap.size v ⟨x, z, lst F n⟩ ∧ Ext w w' := by
  obtain ⟨g, cap, cs, rfl, h1, h2, h3, h4, h5, h6⟩ := h
  exact ⟨OwT.of ((rowF_lst' h5 h2 h4).more h1 (Nat.le_refl _)) h3, h6⟩
set_option maxRecDepth 20000 in
set_option maxHeartbeats 4000000 in
theorem c_l06Own {w : World} {B b n c : Nat} {A : Option Addr} {x z : Int} {L : List (Option Nat)} (hb : SbAt w b x z A n c) (hp : RdF w B A n L) (hB : B ≤ w.heap.size) (h1 : n ≤ 1048576) (hn : 0 < n) :
    Calls Try.prog 74 #[.pointer (some ⟨b, 0, none⟩)] w fun e w' => ∃ v, e = .returned v ∧ NewT w v w' x z n (fun j => L.getD j none) := by
  obtain ⟨i0, hi, hz0, hz1, hz2⟩ := info_parts info_f32
  obtain ⟨ba, oa, rfl, hba, rs, hrl, hrs⟩ := hp.words hn
  have HR := Lib.hid hrs
  have hnew : ∀ W : World, Ext w W → ∀ j u, (fvals rs)[j]? = some u → W.cell? ((⟨ba, oa, none⟩ : Addr).add j) = some u := by
    intro W hW j u hj
    have hjn : j < n := by
      rcases Nat.lt_or_ge j n with h1 | h1
      · exact h1
      · rw [List.getElem?_eq_none (by simp [fvals, hrl]; omega)] at hj; cases hj
    rw [fvals_at (by omega)] at hj
    cases hj
    have hc := (HR.out j hjn).1
    have e0 : (⟨ba, oa, none⟩ : Addr).add j = ⟨ba, oa + j, none⟩ := by simp [Addr.add]
    rw [e0]
    exact (hW.cell (by show ba < _; omega)).trans hc
  have HNEW := Lib.hid hnew
  have p0 := hb.p0
  have p1 := hb.p1
  have p2 := hb.p2
  have hbl := hb.lt
  have HPL := Lib.hid hp.len
  clear hrs hnew hb hp
  go_enter Try.func74, Try.ntmps74
  go_wp2_with (fail)
  obtain ⟨W1, hW1⟩ : ∃ W1, W1 = w.alloc (.cells #[.int .i64 0, .int .i64 0, .slice none 0 0] 38) := ⟨_, rfl⟩
  have hx1 : Ext w W1 := by rw [hW1]; exact (by repeat (first | assumption | exact Ext.refl _ | apply Ext.drewN | apply Ext.drew | apply Ext.alloc | (refine Ext.trans ?_ (by assumption)) | (refine Ext.set ?_ (by dsimp only; omega) _)))
  have hz1' : W1.heap[w.heap.size]? = some (.cells #[.int .i64 0, .int .i64 0, .slice none 0 0] 38 (0, 0)) := by rw [hW1]; exact heap_alloc_new w _
  have hs1 : W1.heap.size = w.heap.size + 1 := by rw [hW1]; exact al_size _ _
  rw [← hW1]
  clear hW1
  refine wp_region_any (by kernel_rfl) ?_
  refine wpAny_mo_go (md := .any) (R := Ext) (w := W1) [(0, 3), (1, 4), (2, 5), (3, 6), (4, 7), (5, 8), (6, 9), (7, 10), (8, 11), (9, 12), (10, 13), (11, 14), (12, 15), (13, 16), (14, 17)] [15] (tl := [_]) (S := ?S12_) (by kernel_rfl) (by rfl) (by rfl) Ext.refl ext_tr (ext_drew1 _) ?hS12_ ?go12_
  case hS12_ => intro vs; simp only [putAll, Act.put, List.setIfInBounds_toArray, List.set_cons_zero, List.set_cons_succ]; rfl
  case go12_ =>
  refine mo_fix _ (by rfl) (by rfl) (by intro vs w1 hx_ hd; have q0 := ((hx1.trans hx_).cell hbl).trans p0; have q1 := ((hx1.trans hx_).cell hbl).trans p1; have q2 := ((hx1.trans hx_).cell hbl).trans p2; go_simp; first | done | rfl) ?_
  refine mo_fix _ (by rfl) (by rfl) (by intro vs w1 hx_ hd; have q0 := ((hx1.trans hx_).cell hbl).trans p0; have q1 := ((hx1.trans hx_).cell hbl).trans p1; have q2 := ((hx1.trans hx_).cell hbl).trans p2; have e0 := hd 0 (by kernel_rfl); simp (decide := true) only [factAt, if_true, if_false] at e0; simp only [e0]; go_simp; first | done | rfl) ?_
  refine mo_fix _ (by rfl) (by rfl) (by intro vs w1 hx_ hd; have q0 := ((hx1.trans hx_).cell hbl).trans p0; have q1 := ((hx1.trans hx_).cell hbl).trans p1; have q2 := ((hx1.trans hx_).cell hbl).trans p2; have e1 := hd 1 (by kernel_rfl); simp (decide := true) only [factAt, if_true, if_false] at e1; simp only [e1]; go_simp; first | done | rfl) ?_
  refine mo_fix _ (by rfl) (by rfl) (by intro vs w1 hx_ hd; have q0 := ((hx1.trans hx_).cell hbl).trans p0; have q1 := ((hx1.trans hx_).cell hbl).trans p1; have q2 := ((hx1.trans hx_).cell hbl).trans p2; have e2 := hd 2 (by kernel_rfl); simp (decide := true) only [factAt, if_true, if_false] at e2; simp only [e2]; go_simp; first | done | rfl) ?_
  refine mo_fix _ (by rfl) (by rfl) (by intro vs w1 hx_ hd; have q0 := ((hx1.trans hx_).cell hbl).trans p0; have q1 := ((hx1.trans hx_).cell hbl).trans p1; have q2 := ((hx1.trans hx_).cell hbl).trans p2; go_simp; first | done | rfl) ?_
  refine mo_fix _ (by rfl) (by rfl) (by intro vs w1 hx_ hd; have q0 := ((hx1.trans hx_).cell hbl).trans p0; have q1 := ((hx1.trans hx_).cell hbl).trans p1; have q2 := ((hx1.trans hx_).cell hbl).trans p2; have e4 := hd 4 (by kernel_rfl); simp (decide := true) only [factAt, if_true, if_false] at e4; simp only [e4]; go_simp; first | done | rfl) ?_
  refine mo_fix _ (by rfl) (by rfl) (by intro vs w1 hx_ hd; have q0 := ((hx1.trans hx_).cell hbl).trans p0; have q1 := ((hx1.trans hx_).cell hbl).trans p1; have q2 := ((hx1.trans hx_).cell hbl).trans p2; have e5 := hd 5 (by kernel_rfl); simp (decide := true) only [factAt, if_true, if_false] at e5; simp only [e5]; go_simp; first | done | rfl) ?_
  refine mo_fix _ (by rfl) (by rfl) (by intro vs w1 hx_ hd; have q0 := ((hx1.trans hx_).cell hbl).trans p0; have q1 := ((hx1.trans hx_).cell hbl).trans p1; have q2 := ((hx1.trans hx_).cell hbl).trans p2; have e6 := hd 6 (by kernel_rfl); simp (decide := true) only [factAt, if_true, if_false] at e6; simp only [e6]; go_simp; first | done | rfl) ?_
  refine mo_make (fun a => .slice (some a) 0 0) (.cells #[] 22) (by rfl) (by rfl) (by intro vs w1 hx_ hd; have q0 := ((hx1.trans hx_).cell hbl).trans p0; have q1 := ((hx1.trans hx_).cell hbl).trans p1; have q2 := ((hx1.trans hx_).cell hbl).trans p2; go_simp; first | done | rfl) ?_
  refine mo_fix _ (by rfl) (by rfl) (by intro vs w1 hx_ hd; have q0 := ((hx1.trans hx_).cell hbl).trans p0; have q1 := ((hx1.trans hx_).cell hbl).trans p1; have q2 := ((hx1.trans hx_).cell hbl).trans p2; go_simp; first | done | rfl) ?_
  refine mo_fix _ (by rfl) (by rfl) (by intro vs w1 hx_ hd; have q0 := ((hx1.trans hx_).cell hbl).trans p0; have q1 := ((hx1.trans hx_).cell hbl).trans p1; have q2 := ((hx1.trans hx_).cell hbl).trans p2; have e9 := hd 9 (by kernel_rfl); simp (decide := true) only [factAt, if_true, if_false] at e9; simp only [e9]; go_simp; first | done | rfl) ?_
  refine mo_fix _ (by rfl) (by rfl) (by intro vs w1 hx_ hd; have q0 := ((hx1.trans hx_).cell hbl).trans p0; have q1 := ((hx1.trans hx_).cell hbl).trans p1; have q2 := ((hx1.trans hx_).cell hbl).trans p2; have e10 := hd 10 (by kernel_rfl); simp (decide := true) only [factAt, if_true, if_false] at e10; simp only [e10]; go_simp; first | done | rfl) ?_
  refine mo_fix _ (by rfl) (by rfl) (by intro vs w1 hx_ hd; have q0 := ((hx1.trans hx_).cell hbl).trans p0; have q1 := ((hx1.trans hx_).cell hbl).trans p1; have q2 := ((hx1.trans hx_).cell hbl).trans p2; have e11 := hd 11 (by kernel_rfl); simp (decide := true) only [factAt, if_true, if_false] at e11; simp only [e11]; go_simp; first | done | rfl) ?_
  refine mo_append 22 (fvals rs) (.tmp 11) (.tmp 15) 25 (by rfl) (by rfl) (by rfl) i0 (.float .f32 0) 4 Try.underlying25 hi hz0 hz1 hz2 rfl n hn (by simp [fvals, hrl]) (by unfold maxLen; omega) (by omega) (by intro vs w1 hx_ hd; have e4 := hd 8 (by kernel_rfl); have e8 := hd 12 (by kernel_rfl); simp (decide := true) only [factAt, if_true, if_false] at e4 e8; obtain ⟨g4, e4, _⟩ := e4; exact ⟨g4, ⟨ba, oa, none⟩, c, e4, e8, HNEW.out _ (hx1.trans hx_)⟩) ?_
  refine mo_of (fun us => .agg #[us 3, us 7, us 13]) (by rfl) (by rfl) (by intro us vs w1 hu hx_ hd; have q0 := ((hx1.trans hx_).cell hbl).trans p0; have q1 := ((hx1.trans hx_).cell hbl).trans p1; have q2 := ((hx1.trans hx_).cell hbl).trans p2; have e3 := hd 3 (by kernel_rfl); have e7 := hd 7 (by kernel_rfl); have e13 := hd 13 (by kernel_rfl); simp (decide := true) only [factAt, if_true, if_false] at e3 e7 e13; rw [hu 3 (by kernel_rfl)]; rw [hu 7 (by kernel_rfl)]; rw [hu 13 (by kernel_rfl)]; obtain ⟨g9, c9, cs9, e13, _⟩ := e13; rw [e3, e7, e13]; go_simp; first | done | rfl) ?_
  refine mo_end ?_
  intro vs w2 hx2 hd
  have e3 := hd 3 (by kernel_rfl)
  have e7 := hd 7 (by kernel_rfl)
  have e13 := hd 13 (by kernel_rfl)
  obtain ⟨us, hu, e14⟩ := seen_got (hd 14 (by kernel_rfl))
  simp (decide := true) only [factAt, if_true, if_false] at e3 e7 e13 e14
  rw [hu 3 (by kernel_rfl), hu 7 (by kernel_rfl), hu 13 (by kernel_rfl)] at e14
  obtain ⟨gp, capp, csp, e13, hgp, hgp2, hnp, hhp, hsp, hrp, hop⟩ := e13.owl hrl HPL.out (fun j hj => (HR.out j hj).2)
  rw [e3, e7, e13] at e14
  generalize vs 14 = v14 at e14 ⊢
  subst e14
  have hzb := hx2.blk hz1'
  obtain ⟨c0, c1, c2, z0, z1, z2⟩ := three_c hzb
  have hx02 : Ext w w2 := hx1.trans hx2
  rw [hs1] at hgp
  have HBZ := Lib.hid (fun u0 u1 u2 => blk_set1 (blk_set1 (blk_set1 hzb 0 u0) 1 u1) 2 u2)
  have HHP := Lib.hid hhp
  have HRP := Lib.hid hrp
  clear hd hu e3 e7 e13 hzb hhp hrp
  go_wp2_with (fail)
  (try simp only [Exit.inBlock, Exit.then])
  refine bodyPost_ret (results_cell_row rfl _ _ w.heap.size 38 #[.int .i64 x, .int .i64 z, .slice (some ⟨gp, 0, none⟩) n capp] (0, 0) _ rfl (HBZ.out _ _ _) Try.underlying38 rfl (by kernel_rfl)) rfl ?_
  exact ⟨_, rfl, gp, capp, csp, rfl, by omega, set_other (set_other (set_other HHP.out (by dsimp only; omega)) (by dsimp only; omega)) (by dsimp only; omega), hnp, hsp, HRP.out, (by repeat (first | assumption | exact Ext.refl _ | apply Ext.drewN | apply Ext.drew | apply Ext.alloc | (refine Ext.trans ?_ (by assumption)) | (refine Ext.set ?_ (by dsimp only; omega) _)))⟩
set_option maxRecDepth 20000 in
set_option maxHeartbeats 4000000 in
theorem c_l06Flat {w : World} {x z n : Nat} (h1 : x * z = n) (h2 : (x : Int) * (z : Int) = (n : Int)) (h3 : n ≤ 256) :
    Calls Try.prog 129 #[.int .i64 (x : Int), .int .i64 (z : Int)] w fun e w' => ∃ v, e = .returned v ∧ NewT w v w' x z n (fun _ => fz) := by
  have hmk := fun W => run_make_row' (P := Try.prog) 25 22 (.float .f32 0) 4 Try.underlying25 info_f32 rfl .i64 .i64 n (by omega) (by omega) W
  have hwr := IntWalk.i64_in (n : Int) (by omega)
  go_enter Try.func129, Try.ntmps129
  go_wp2_with (fail)
  (try simp only [Exit.inBlock, Exit.then])
  refine bodyPost_ret (results_cell_row rfl _ _ w.heap.size 38 #[.int .i64 (x : Int), .int .i64 (z : Int), .slice (some ⟨w.heap.size + 1, 0, none⟩) n n] (0, 0) _ rfl (al_old (heap_alloc_new w _)) Try.underlying38 rfl (by kernel_rfl)) rfl ?_
  exact ⟨_, rfl, w.heap.size + 1, n, madeCells #[.float .f32 0] n, rfl, by omega, al_at (al_size _ _).symm rfl, Nat.le_refl _, Nat.le_of_eq (size_madeCells _ _).symm, RowF.made (fun _ _ => rfl), (by repeat (first | assumption | exact Ext.refl _ | apply Ext.drewN | apply Ext.drew | apply Ext.alloc | (refine Ext.trans ?_ (by assumption)) | (refine Ext.set ?_ (by dsimp only; omega) _)))⟩
end Go.Proofs.Ytddemhlhlbpecaa
