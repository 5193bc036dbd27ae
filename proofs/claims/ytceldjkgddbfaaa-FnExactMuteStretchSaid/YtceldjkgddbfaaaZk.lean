/- Contracts: gathers without what is stretched, on both sides. Condition: the gather is read. -/
import Derived.Test.YtceldjkgddbfaaaZi
import Derived.Test.YtceldjkgddbfaaaWe
namespace Go.Proofs.Ytceldjkgddbfaaa
open Go.RowKit Ieee

/-- Whether the number k of a trace is stretched too far, and whether that can be told. -/
def muX (V M P : Option Nat) (k : Nat) : Bool := if k = 0 then !fzero32 P else fgt32 (numX (fstretch (some (mk k)) P V)) M
def okX (V P : Option Nat) (k : Nat) : Bool := decide (k = 0) || ffin .f32 (fstretch (some (mk k)) P V)
def muS (V M : Option Nat) (G : Gat) (i k : Nat) : Bool := muX V M (G.p.getD i none) k
def okS2 (V : Option Nat) (G : Gat) (i k : Nat) : Bool := okX V (G.p.getD i none) k
def allOk (V : Option Nat) (G : Gat) : Bool := (List.range G.r.length).all fun i => (List.range (G.r.getD i []).length).all fun k => okS2 V G i k
theorem allOk_no {V : Option Nat} {G : Gat} {i k : Nat} (hi : i < G.r.length) (hk : k < (G.r.getD i []).length) (h : okS2 V G i k = false) : allOk V G = false := by
  cases hA : allOk V G
  · rfl
  · unfold allOk at hA
    rw [List.all_eq_true] at hA
    have h1 := hA i (List.mem_range.2 hi)
    rw [List.all_eq_true] at h1
    have h2 := h1 k (List.mem_range.2 hk)
    rw [h] at h2; cases h2
theorem allOk_yes {V : Option Nat} {G : Gat} (h : ∀ i, i < G.r.length → ∀ k, k < (G.r.getD i []).length → okS2 V G i k = true) : allOk V G = true := by
  unfold allOk
  rw [List.all_eq_true]
  intro i hi
  rw [List.all_eq_true]
  intro k hk
  exact h i (List.mem_range.1 hi) k (List.mem_range.1 hk)
theorem above_mk {k : Nat} (h1 : k ≠ 0) (h2 : k ≤ 64) : fabove (some (mk k)) = true := by
  have h : ∀ k : Fin 65, k.val = 0 ∨ fabove (some (mk k.val)) = true := by decide +kernel
  exact (h ⟨k, by omega⟩).resolve_left h1
theorem muX_zero {V M P : Option Nat} : muX V M P 0 = !fzero32 P := rfl
theorem muX_next {V M P : Option Nat} {k : Nat} (h : k ≠ 0) : muX V M P k = fgt32 (numX (fstretch (some (mk k)) P V)) M := by unfold muX; rw [if_neg h]
theorem okX_next {V P : Option Nat} {k : Nat} (h : k ≠ 0) : okX V P k = ffin .f32 (fstretch (some (mk k)) P V) := by unfold okX; rw [decide_eq_false h, Bool.false_or]
theorem Fl.nz {r : Nat} {X : Option Nat} (h : Fl .f32 r X) : (FloatKind.f32.format.order r 0 != some .eq) = !fzero32 X := by
  rw [bne, zero32, h.eq]
set_option maxRecDepth 20000 in
set_option maxHeartbeats 4000000 in
theorem c_isStretched {w : World} {k : Nat} (hk : k ≤ 64) {p v m : Nat} {P V M : Option Nat} (fp : Fl .f32 p P) (fv : Fl .f32 v V) (fm : Fl .f32 m M) (hP : ffin .f32 P = true) (hV : fabove V = true) :
    Calls Try.prog 80 #[.int .i64 (k : Int), .float .f32 p, .float .f32 v, .float .f32 m] w fun e w' => e = .returned (.tuple #[.bool (muX V M P k), .bool (okX V P k)]) ∧ Ext w w' := by
  by_cases h0 : k = 0
  · subst h0
    have hn := fp.nz
    rw [muX_zero, show okX V P 0 = true from rfl]
    cases hz : fzero32 P
    · rw [hz] at hn
      go_enter Try.func80, Try.ntmps80
      go_wp2_with (fail)
      go_ret2
      exact ⟨rfl, (by repeat (first | assumption | exact Ext.refl _ | apply Ext.drewN | apply Ext.drew | apply Ext.alloc | (refine Ext.trans ?_ (by assumption)) | (refine Ext.set ?_ (by dsimp only; omega) _)))⟩
    · rw [hz] at hn
      go_enter Try.func80, Try.ntmps80
      go_wp2_with (fail)
      go_ret2
      exact ⟨rfl, (by repeat (first | assumption | exact Ext.refl _ | apply Ext.drewN | apply Ext.drew | apply Ext.alloc | (refine Ext.trans ?_ (by assumption)) | (refine Ext.set ?_ (by dsimp only; omega) _)))⟩
  · have hk0 : ((k : Int) == 0) = false := by rw [beq_eq_false_iff_ne]; omega
    rw [muX_next h0, okX_next h0]
    have hmi := mk_int k
    obtain ⟨e1, e2⟩ := tell_yes (show okStretch (some (mk k)) P V = true by unfold okStretch; rw [above_mk h0 hk, hP, hV]; rfl) (fstretch (some (mk k)) P V)
    have cS := fun W => c_impl_StretchAt (w := W) (fl_mk k) fp fv
    rw [e1, e2] at cS
    have CS := Lib.hid cS
    clear cS e1 e2
    cases hg : fgt32 (numX (fstretch (some (mk k)) P V)) M
    · go_enter Try.func80, Try.ntmps80
      go_wp2_with (go_at_call 109; refine Calls.mono (CS.out _) ?_; rintro e w4 ⟨r4, rfl, hr4, hx4⟩; have hogt := hr4.ogt fm; rw [hg] at hogt)
      go_ret2
      exact ⟨rfl, (by repeat (first | assumption | exact Ext.refl _ | apply Ext.drewN | apply Ext.drew | apply Ext.alloc | (refine Ext.trans ?_ (by assumption)) | (refine Ext.set ?_ (by dsimp only; omega) _)))⟩
    · go_enter Try.func80, Try.ntmps80
      go_wp2_with (go_at_call 109; refine Calls.mono (CS.out _) ?_; rintro e w4 ⟨r4, rfl, hr4, hx4⟩; have hogt := hr4.ogt fm; rw [hg] at hogt)
      go_ret2
      exact ⟨rfl, (by repeat (first | assumption | exact Ext.refl _ | apply Ext.drewN | apply Ext.drew | apply Ext.alloc | (refine Ext.trans ?_ (by assumption)) | (refine Ext.set ?_ (by dsimp only; omega) _)))⟩
set_option linter.unusedSimpArgs false in
set_option maxRecDepth 20000 in
set_option maxHeartbeats 40000000 in
theorem c_spec_MuteStretch {w : World} {B : Nat} {v : Value} {G : Gat} (h : RdG w B v G) (hB : B ≤ w.heap.size) (h1 : G.p.length ≤ 1048576) (h2 : G.r.length ≤ 1048576) (h3 : ∀ j, j < G.r.length → (G.r.getD j []).length ≤ 1048576) {s q : Nat} {S M : Option Nat} (fs : Fl .f32 s S) (fm : Fl .f32 q M) :
    Calls Try.prog 33 #[v, .float .f32 s, .float .f32 q] w fun e w' => RetG w e w' (fvG G && (fabove S && allOk S G)) (mutG (muS S M G) G) := by
  obtain ⟨Ap, cp, At, ct, rfl, hp, hr, hcp, hct⟩ := h.ex
  obtain ⟨W1, hW1⟩ : ∃ W1, W1 = (w.alloc (.cells #[.int .i64 G.t, .slice Ap G.p.length cp, .slice At G.r.length ct] 25)).alloc (.cells #[.int .i64 0, .slice none 0 0, .slice none 0 0] 25) := ⟨_, rfl⟩
  have hbx : GbAt W1 w.heap.size G.t Ap G.p.length cp At G.r.length ct := by rw [hW1]; exact (GbAt.blk (T := 25) (by repeat (first | (refine al_at ?_ ?_ <;> first | rfl | (simp only [al_size] <;> omega)) | apply al_old))).ext (Ext.alloc (Ext.refl _) _)
  have hx1 : Ext w W1 := by rw [hW1]; exact (by repeat (first | assumption | exact Ext.refl _ | apply Ext.drewN | apply Ext.drew | apply Ext.alloc | (refine Ext.trans ?_ (by assumption)) | (refine Ext.set ?_ (by dsimp only; omega) _)))
  have hz1 : W1.heap[w.heap.size + 1]? = some (.cells #[.int .i64 0, .slice none 0 0, .slice none 0 0] 25 (0, 0)) := by rw [hW1]; exact al_at (al_size _ _).symm rfl
  have hs1 : W1.heap.size = w.heap.size + 1 + 1 := by rw [hW1, al_size, al_size]
  have HIS := Lib.hid (c_l04Is hbx (hp.below (hx1.mono hB)) (hr.below (hx1.mono hB)) h1 h2 h3)
  cases hV : fvG G
  · rw [hV] at HIS
    go_enter Try.func33, Try.ntmps33
    go_wp2_with (fail)
    rw [← hW1]
    obtain ⟨c0, c1, c2, x0, x1, x2⟩ := three_c hz1
    clear hW1
    go_wp2_with ((go_at_call 63; refine Calls.mono HIS.out ?_; rintro e w1 ⟨rfl, n1, rfl⟩))
    (try simp only [Exit.inBlock, Exit.then])
    refine bodyPost_ret (results_cell2 rfl _ _ (w.heap.size + 1) 25 #[.int .i64 0, .slice none 0 0, .slice none 0 0] (0, 0) _ rfl (by repeat (first | exact hz1 | exact blk_set1 (blk_set1 (blk_set1 hz1 0 _) 1 _) 2 _)) Try.underlying25 rfl (by kernel_rfl)) rfl ?_
    exact retG_no rfl (by repeat (first | assumption | exact Ext.refl _ | apply Ext.drewN | apply Ext.drew | apply Ext.alloc | (refine Ext.trans ?_ (by assumption)) | (refine Ext.set ?_ (by dsimp only; omega) _)))
  rw [hV] at HIS
  have hVG := fvG_of hV
  rw [Bool.true_and]
  cases hA : fabove S
  · go_enter Try.func33, Try.ntmps33
    go_wp2_with (fail)
    rw [← hW1]
    obtain ⟨c0, c1, c2, x0, x1, x2⟩ := three_c hz1
    clear hW1
    go_wp2_with (first | (go_at_call 63; refine Calls.mono HIS.out ?_; rintro e w1 ⟨rfl, n1, rfl⟩) | (go_at_call 65; refine Calls.mono (c_l02Above fs _) ?_; rw [hA]; rintro e w1 ⟨rfl, n2, rfl⟩))
    (try simp only [Exit.inBlock, Exit.then])
    refine bodyPost_ret (results_cell2 rfl _ _ (w.heap.size + 1) 25 #[.int .i64 0, .slice none 0 0, .slice none 0 0] (0, 0) _ rfl (by repeat (first | exact hz1 | exact blk_set1 (blk_set1 (blk_set1 hz1 0 _) 1 _) 2 _)) Try.underlying25 rfl (by kernel_rfl)) rfl ?_
    exact retG_no rfl (by repeat (first | assumption | exact Ext.refl _ | apply Ext.drewN | apply Ext.drew | apply Ext.alloc | (refine Ext.trans ?_ (by assumption)) | (refine Ext.set ?_ (by dsimp only; omega) _)))
  rw [Bool.true_and]
  have hpl := hp.len
  have hrl := hr.len
  have hn1 := hVG.n1
  have hmn := hVG.m
  have hrw : ∀ j, j < G.r.length → 1 ≤ (G.r.getD j []).length ∧ (G.r.getD j []).length ≤ 64 := fun j hj => by
    have h4 := hVG.row j hj
    have h5 := hVG.t1
    have h6 := hVG.t2
    omega
  have hfp : ∀ j, j < G.p.length → ffin .f32 (G.p.getD j none) = true := fun j hj => allL_at hj hVG.fin
  have HCO := Lib.hid (fun (W : World) (hW : Ext W1 W) => c_l04Own (w := W) (hbx.ext hW) (hp.below ((hx1.trans hW).mono hB)) (hr.below ((hx1.trans hW).mono hB)) (Nat.le_trans hB (hx1.trans hW).size) h1 h2 h3 (by omega) (by omega) (fun j hj => (hrw j hj).1))
  obtain ⟨m, hm⟩ : ∃ m, G.p.length = m := ⟨_, rfl⟩
  rw [hmn, hm] at hrw
  rw [hm] at hn1 hp hbx h1 hcp hfp
  rw [hmn, hm] at hr hbx h2 hct
  have hRL : G.r.length = m := hmn.trans hm
  have HRW := Lib.hid hrw
  have HPL := Lib.hid hm
  have HRL := Lib.hid hRL
  have HP := Lib.hid hp
  have HBX1 := Lib.hid hbx
  have HFP := Lib.hid hfp
  have hn2 : m ≤ 16 := by rw [← hm]; exact hVG.n2
  rw [hm, hRL] at hW1
  rw [hm, hRL]
  obtain ⟨mu, hmu⟩ : ∃ mu, mu = muS S M G := ⟨_, rfl⟩
  rw [← hmu]
  have HMU := Lib.hid hmu
  clear hVG hmn hpl hrl hrw hp hr h3 h hm hRL hfp hmu
  go_enter Try.func33, Try.ntmps33
  go_wp2_with (fail)
  rw [← hW1]
  clear hW1
  go_wp2_with (first | (go_at_call 63; refine Calls.mono HIS.out ?_; rintro e w1 ⟨rfl, n1, rfl⟩) | (go_at_call 65; refine Calls.mono (c_l02Above fs _) ?_; rw [hA]; rintro e w1 ⟨rfl, n2, rfl⟩) | (go_at_call 66; refine Calls.mono (HCO.out _ (by repeat (first | assumption | exact Ext.refl _ | apply Ext.drewN | apply Ext.drew | apply Ext.alloc | (refine Ext.trans ?_ (by assumption)) | (refine Ext.set ?_ (by dsimp only; omega) _)))) ?_; rintro e w2 ⟨x, rfl, ho, hx2⟩; obtain ⟨Ap2, cp2, At2, ct2, gp, g, f, hv, hop⟩ := ho.inP; rw [HPL.out, HRL.out] at hv hop; subst hv; have hx12 : Ext W1 w2 := (by repeat (first | assumption | exact Ext.refl _ | apply Ext.drewN | apply Ext.drew | apply Ext.alloc | (refine Ext.trans ?_ (by assumption)) | (refine Ext.set ?_ (by dsimp only; omega) _))); have hb2 := HBX1.out.ext hx12; obtain ⟨b0, b1', b2', _⟩ := id hb2))
  have hx02 : Ext w w2 := hx1.trans hx12
  have hzb := hx12.blk hz1
  have hz2 := hx12.size
  have hz3 := hx2.size
  simp only [size_drewN] at hz3 hop
  have hgb := hop.g_in.resolve_left (by omega)
  obtain ⟨off, _, _, hAt2, _⟩ := hop.row (i := 0) hn1
  subst hAt2
  have HOP := Lib.hid (hop.more (lo' := w.heap.size + 1 + 1) (by omega) (Nat.le_refl _))
  have HZB := Lib.hid hzb
  clear hop hzb ho b0 b1' b2'
  go_loopw [9] (fun y wr => ∃ k : Nat, k ≤ m ∧ y = .int .i64 k ∧ wr.heap[w2.heap.size]? = some (.cells #[.int .i64 G.t, .slice Ap2 m cp2, .slice (some ⟨g, off, none⟩) m ct2] 25 (0, 0)) ∧ wr.heap[w.heap.size + 1]? = some (.cells #[.int .i64 0, .slice none 0 0, .slice none 0 0] 25 (0, 0)) ∧ OwP wr (w.heap.size + 1 + 1) w2.heap.size Ap2 m cp2 (some ⟨g, off, none⟩) m ct2 gp g f G.p (mstS mu G k 0) ∧ (∀ j, j < k → ∀ t, t < (G.r.getD j []).length → okS2 S G j t = true) ∧ Ext W1 wr) (fun y _ => m - (intOf y).toNat)
  case atStart => exact ⟨0, Nat.zero_le _, rfl, (by first | exact heap_alloc_new w2 _ | exact blk_set1 (blk_set1 (blk_set1 (heap_alloc_new w2 _) 0 _) 1 _) 2 _), (by repeat (first | exact HZB.out | apply al_old | (refine set_other ?_ (by dsimp only; omega)))), by rw [mst_start]; exact HOP.out.ext (Nat.le_refl _) (by repeat (first | assumption | exact Ext.refl _ | apply Ext.drewN | apply Ext.drew | apply Ext.alloc | (refine Ext.trans ?_ (by assumption)) | (refine Ext.set ?_ (by dsimp only; omega) _))), fun j hj => absurd hj (Nat.not_lt_zero _), (by repeat (first | assumption | exact Ext.refl _ | apply Ext.drewN | apply Ext.drew | apply Ext.alloc | (refine Ext.trans ?_ (by assumption)) | (refine Ext.set ?_ (by dsimp only; omega) _)))⟩
  case round =>
    obtain ⟨k, hk, rfl, hbX, hzX, hop, hko, hx⟩ := hrel
    have HKO := Lib.hid hko
    have HBX := Lib.hid hbX
    have HZX := Lib.hid hzX
    have HOQ := Lib.hid hop
    have hs2 := blk_lt hbX
    have hx0r : Ext w wr := hx1.trans hx
    by_cases hlt : k < m
    · have hlt' : (k : Int) < (m : Int) := by omega
      have hRl : k < G.r.length := by rw [HRL.out]; exact hlt
      obtain ⟨b3, o3, t3, rfl, hb3, hc3w, ht3⟩ := (HP.out.below (hx1.mono hB)).cell hlt
      have hb3w : b3 < W1.heap.size := Nat.lt_of_lt_of_le hb3 (Nat.le_trans hB hx1.size)
      have hc3 := (hx.cell (p := ⟨b3, o3 + k, none⟩) hb3w).trans hc3w
      obtain ⟨g1, g2⟩ := HRW.out k hlt
      obtain ⟨Lk, hLk⟩ : ∃ x, (G.r.getD k []).length = x := ⟨_, rfl⟩
      have hrowk : ∀ t, ((mstS mu G k t).getD k []).length = Lk := fun t => by rw [mstS_row hRl, hLk]
      rw [hLk] at g1 g2
      have HROW := Lib.hid hrowk
      have HLK := Lib.hid hLk
      have hLkI : (1 : Int) ≤ (Lk : Int) := by omega
      have hfi := hop.f_in k hlt
      have hbr := HBX1.out.ext hx
      have p1r := hbr.p1
      obtain ⟨P3, hP3⟩ : ∃ P3, G.p.getD k none = P3 := ⟨_, rfl⟩
      have hP3f := HFP.out k hlt
      rw [hP3] at ht3 hP3f
      have HP3 := Lib.hid hP3
      obtain ⟨d0, d1, d2, y0, y1, y2⟩ := three_c hbX
      clear hbX hzX hop hrowk hLk hP3 hbr hko
      obtain ⟨off8, A4, c4, o4, q4, hA8, z1, rfl, z3, z4, z5, z6⟩ := HOQ.out.num (i := k) (k := 0) hlt (by rw [HROW.out]; exact g1)
      obtain rfl : off = off8 := by simpa using hA8
      rw [HROW.out] at z1
      simp only [Nat.add_zero] at z3 z5 z6
      have hnz := ht3.nz
      have hme : mu k 0 = !fzero32 P3 := by rw [HMU.out]; unfold muS; rw [HP3.out]; rfl
      have hok0 : Hid (∀ j, j < 1 → okS2 S G k j = true) := Lib.hid (fun j hj => by have h9 : j = 0 := (by omega); subst h9; unfold okS2 okX; rfl)
      cases hZ : fzero32 P3
      · rw [hZ] at hnz hme
        have HPU := Lib.hid (z6 0 fz fl_fz)
        have HMT := Lib.hid hme
        clear z4 z6 hme
        go_wp2_with (fail)
        go_loopw [10] (fun z wq => ∃ t : Nat, 1 ≤ t ∧ t ≤ Lk ∧ z = .int .i64 t ∧ wq.heap[w2.heap.size]? = some (.cells #[.int .i64 G.t, .slice Ap2 m cp2, .slice (some ⟨g, off, none⟩) m ct2] 25 (0, 0)) ∧ wq.heap[w.heap.size + 1]? = some (.cells #[.int .i64 0, .slice none 0 0, .slice none 0 0] 25 (0, 0)) ∧ OwP wq (w.heap.size + 1 + 1) w2.heap.size Ap2 m cp2 (some ⟨g, off, none⟩) m ct2 gp g f G.p (mstS mu G k t) ∧ (∀ j, j < t → okS2 S G k j = true) ∧ Ext W1 wq) (fun z _ => Lk - (intOf z).toNat)
        case atStart => exact ⟨1, Nat.le_refl _, g1, rfl, (by repeat (first | exact HBX.out | (refine set_other ?_ (by dsimp only; omega)))), (by repeat (first | exact HZX.out | (refine set_other ?_ (by dsimp only; omega)))), (by have h9 := HPU.out; have h8 := mst_put (q := mu) (G := G) (i := k) (k := 0) hRl (by rw [HLK.out]; exact g1) HMT.out; rw [h8] at h9; exact h9), hok0.out, (by repeat (first | assumption | exact Ext.refl _ | apply Ext.drewN | apply Ext.drew | apply Ext.alloc | (refine Ext.trans ?_ (by assumption)) | (refine Ext.set ?_ (by dsimp only; omega) _)))⟩
        case round =>
          obtain ⟨t, ht1, htL, rfl, hbX, hzX, hop, hto, hxq⟩ := hrel
          have HTO := Lib.hid hto
          have HBQ := Lib.hid hbX
          have HZQ := Lib.hid hzX
          have HOT := Lib.hid hop
          have hs3 := blk_lt hbX
          have p1q := (HBX1.out.ext hxq).p1
          have hc3q := (hxq.cell (p := ⟨b3, o3 + k, none⟩) hb3w).trans hc3w
          obtain ⟨d0, d1, d2, y0, y1, y2⟩ := three_c hbX
          by_cases htl : t < Lk
          · have htl' : (t : Int) < (Lk : Int) := by omega
            have hmi := mk_int t
            obtain ⟨off8, A4, c4, o4, q4, hA8, z1, rfl, z3, z4, z5, z6⟩ := hop.num (i := k) (k := t) hlt (by rw [HROW.out]; exact htl)
            obtain rfl : off = off8 := by simpa using hA8
            rw [HROW.out] at z1
            have HPUT := Lib.hid (z6 0 fz fl_fz)
            clear hbX hzX hop z4 z6 hto
            have h0 : t ≠ 0 := by omega
            have hme : mu k t = fgt32 (numX (fstretch (some (mk t)) P3 S)) M := by rw [HMU.out]; unfold muS; rw [HP3.out, muX_next h0]
            have hoe : okS2 S G k t = ffin .f32 (fstretch (some (mk t)) P3 S) := by unfold okS2; rw [HP3.out, okX_next h0]
            cases hF : ffin .f32 (fstretch (some (mk t)) P3 S)
            · have hno : allOk S G = false := allOk_no hRl (by rw [HLK.out]; exact htl) (by rw [hoe, hF])
              have HNO := Lib.hid hno
              obtain ⟨c0', c1', c2', x0', x1', x2'⟩ := three_c HZQ.out
              clear hme hoe hno
              go_wp2_with (go_at_call 79; refine Calls.mono (c_l04Stretch (fl_mk t) ht3 fs) ?_; rw [hF]; rintro e w7 ⟨r7, rfl, hr7, n7, rfl⟩)
              (try simp only [Exit.inBlock, Exit.then])
              refine bodyPost_ret (results_cell2 rfl _ _ (w.heap.size + 1) 25 #[.int .i64 0, .slice none 0 0, .slice none 0 0] (0, 0) _ rfl (by repeat (first | exact HZQ.out | exact blk_set1 (blk_set1 (blk_set1 HZQ.out 0 _) 1 _) 2 _)) Try.underlying25 rfl (by kernel_rfl)) rfl ?_
              exact retG_no HNO.out (by repeat (first | assumption | exact Ext.refl _ | apply Ext.drewN | apply Ext.drew | apply Ext.alloc | (refine Ext.trans ?_ (by assumption)) | (refine Ext.set ?_ (by dsimp only; omega) _)))
            rw [hF] at hoe
            have HOK := Lib.hid hoe
            cases hg : fgt32 (numX (fstretch (some (mk t)) P3 S)) M
            · rw [hg] at hme
              have HMT := Lib.hid hme
              clear hme hoe
              go_wp2_with (go_at_call 79; refine Calls.mono (c_l04Stretch (fl_mk t) ht3 fs) ?_; rw [hF]; rintro e w7 ⟨r7, rfl, hr7, n7, rfl⟩; have hogt := hr7.ogt fm; rw [hg] at hogt)
              exact ⟨⟨t + 1, by omega, by omega, by go_num, (by repeat (first | exact HBQ.out | (refine set_other ?_ (by dsimp only; omega)))), (by repeat (first | exact HZQ.out | (refine set_other ?_ (by dsimp only; omega)))), (by have h9 := HOT.out; rw [← mst_skip HMT.out] at h9; first | exact h9 | exact h9.ext (Nat.le_of_lt (by first | exact hs3 | (simp; omega))) (by repeat (first | assumption | exact Ext.refl _ | apply Ext.drewN | apply Ext.drew | apply Ext.alloc | (refine Ext.trans ?_ (by assumption)) | (refine Ext.set ?_ (by dsimp only; omega) _)))), fun j hj => by rcases Nat.lt_or_ge j t with h9 | h9; exact HTO.out j h9; (obtain rfl : j = t := by omega); exact HOK.out, (by repeat (first | assumption | exact Ext.refl _ | apply Ext.drewN | apply Ext.drew | apply Ext.alloc | (refine Ext.trans ?_ (by assumption)) | (refine Ext.set ?_ (by dsimp only; omega) _)))⟩, by simp [intOf]; omega⟩
            · rw [hg] at hme
              have HMT := Lib.hid hme
              clear hme hoe
              go_wp2_with (go_at_call 79; refine Calls.mono (c_l04Stretch (fl_mk t) ht3 fs) ?_; rw [hF]; rintro e w7 ⟨r7, rfl, hr7, n7, rfl⟩; have hogt := hr7.ogt fm; rw [hg] at hogt)
              exact ⟨⟨t + 1, by omega, by omega, by go_num, (by repeat (first | exact HBQ.out | (refine set_other ?_ (by dsimp only; omega)))), (by repeat (first | exact HZQ.out | (refine set_other ?_ (by dsimp only; omega)))), (by have h9 := HPUT.out; rw [mst_put hRl (by rw [HLK.out]; exact htl) HMT.out] at h9; first | exact h9 | exact h9.ext (Nat.le_of_lt (by simp; omega)) (Ext.drewN (Ext.refl _) n7)), fun j hj => by rcases Nat.lt_or_ge j t with h9 | h9; exact HTO.out j h9; (obtain rfl : j = t := by omega); exact HOK.out, (by repeat (first | assumption | exact Ext.refl _ | apply Ext.drewN | apply Ext.drew | apply Ext.alloc | (refine Ext.trans ?_ (by assumption)) | (refine Ext.set ?_ (by dsimp only; omega) _)))⟩, by simp [intOf]; omega⟩
          · obtain rfl : t = Lk := by omega
            have hn9 : mstS mu G k t = mstS mu G (k + 1) 0 := mst_next HLK.out.symm
            have HNX : Hid (OwP wr (w.heap.size + 1 + 1) w2.heap.size Ap2 m cp2 (some ⟨g, off, none⟩) m ct2 gp g f G.p (mstS mu G (k + 1) 0)) := Lib.hid (by rw [← hn9]; exact hop)
            obtain ⟨off8, A4, c4, hA4, z1, _⟩ := hop.row hlt
            obtain rfl : off = off8 := by simpa using hA4
            rw [HROW.out] at z1
            clear hbX hzX hop hn9 hto
            go_wp2_with (fail)
            exact ⟨⟨k + 1, by omega, by go_num, HBQ.out, HZQ.out, HNX.out, fun j hj => by rcases Nat.lt_or_ge j k with h9 | h9; exact HKO.out j h9; (obtain rfl : j = k := by omega); rw [HLK.out]; exact HTO.out, hxq⟩, by simp [intOf]; omega⟩
      · rw [hZ] at hnz hme
        have HMT := Lib.hid hme
        clear z4 z6 hme
        go_wp2_with (fail)
        go_loopw [10] (fun z wq => ∃ t : Nat, 1 ≤ t ∧ t ≤ Lk ∧ z = .int .i64 t ∧ wq.heap[w2.heap.size]? = some (.cells #[.int .i64 G.t, .slice Ap2 m cp2, .slice (some ⟨g, off, none⟩) m ct2] 25 (0, 0)) ∧ wq.heap[w.heap.size + 1]? = some (.cells #[.int .i64 0, .slice none 0 0, .slice none 0 0] 25 (0, 0)) ∧ OwP wq (w.heap.size + 1 + 1) w2.heap.size Ap2 m cp2 (some ⟨g, off, none⟩) m ct2 gp g f G.p (mstS mu G k t) ∧ (∀ j, j < t → okS2 S G k j = true) ∧ Ext W1 wq) (fun z _ => Lk - (intOf z).toNat)
        case atStart => exact ⟨1, Nat.le_refl _, g1, rfl, (by repeat (first | exact HBX.out | (refine set_other ?_ (by dsimp only; omega)))), (by repeat (first | exact HZX.out | (refine set_other ?_ (by dsimp only; omega)))), (by have h9 := HOQ.out; rw [← mst_skip HMT.out] at h9; exact h9), hok0.out, (by repeat (first | assumption | exact Ext.refl _ | apply Ext.drewN | apply Ext.drew | apply Ext.alloc | (refine Ext.trans ?_ (by assumption)) | (refine Ext.set ?_ (by dsimp only; omega) _)))⟩
        case round =>
          obtain ⟨t, ht1, htL, rfl, hbX, hzX, hop, hto, hxq⟩ := hrel
          have HTO := Lib.hid hto
          have HBQ := Lib.hid hbX
          have HZQ := Lib.hid hzX
          have HOT := Lib.hid hop
          have hs3 := blk_lt hbX
          have p1q := (HBX1.out.ext hxq).p1
          have hc3q := (hxq.cell (p := ⟨b3, o3 + k, none⟩) hb3w).trans hc3w
          obtain ⟨d0, d1, d2, y0, y1, y2⟩ := three_c hbX
          by_cases htl : t < Lk
          · have htl' : (t : Int) < (Lk : Int) := by omega
            have hmi := mk_int t
            obtain ⟨off8, A4, c4, o4, q4, hA8, z1, rfl, z3, z4, z5, z6⟩ := hop.num (i := k) (k := t) hlt (by rw [HROW.out]; exact htl)
            obtain rfl : off = off8 := by simpa using hA8
            rw [HROW.out] at z1
            have HPUT := Lib.hid (z6 0 fz fl_fz)
            clear hbX hzX hop z4 z6 hto
            have h0 : t ≠ 0 := by omega
            have hme : mu k t = fgt32 (numX (fstretch (some (mk t)) P3 S)) M := by rw [HMU.out]; unfold muS; rw [HP3.out, muX_next h0]
            have hoe : okS2 S G k t = ffin .f32 (fstretch (some (mk t)) P3 S) := by unfold okS2; rw [HP3.out, okX_next h0]
            cases hF : ffin .f32 (fstretch (some (mk t)) P3 S)
            · have hno : allOk S G = false := allOk_no hRl (by rw [HLK.out]; exact htl) (by rw [hoe, hF])
              have HNO := Lib.hid hno
              obtain ⟨c0', c1', c2', x0', x1', x2'⟩ := three_c HZQ.out
              clear hme hoe hno
              go_wp2_with (go_at_call 79; refine Calls.mono (c_l04Stretch (fl_mk t) ht3 fs) ?_; rw [hF]; rintro e w7 ⟨r7, rfl, hr7, n7, rfl⟩)
              (try simp only [Exit.inBlock, Exit.then])
              refine bodyPost_ret (results_cell2 rfl _ _ (w.heap.size + 1) 25 #[.int .i64 0, .slice none 0 0, .slice none 0 0] (0, 0) _ rfl (by repeat (first | exact HZQ.out | exact blk_set1 (blk_set1 (blk_set1 HZQ.out 0 _) 1 _) 2 _)) Try.underlying25 rfl (by kernel_rfl)) rfl ?_
              exact retG_no HNO.out (by repeat (first | assumption | exact Ext.refl _ | apply Ext.drewN | apply Ext.drew | apply Ext.alloc | (refine Ext.trans ?_ (by assumption)) | (refine Ext.set ?_ (by dsimp only; omega) _)))
            rw [hF] at hoe
            have HOK := Lib.hid hoe
            cases hg : fgt32 (numX (fstretch (some (mk t)) P3 S)) M
            · rw [hg] at hme
              have HMT := Lib.hid hme
              clear hme hoe
              go_wp2_with (go_at_call 79; refine Calls.mono (c_l04Stretch (fl_mk t) ht3 fs) ?_; rw [hF]; rintro e w7 ⟨r7, rfl, hr7, n7, rfl⟩; have hogt := hr7.ogt fm; rw [hg] at hogt)
              exact ⟨⟨t + 1, by omega, by omega, by go_num, (by repeat (first | exact HBQ.out | (refine set_other ?_ (by dsimp only; omega)))), (by repeat (first | exact HZQ.out | (refine set_other ?_ (by dsimp only; omega)))), (by have h9 := HOT.out; rw [← mst_skip HMT.out] at h9; first | exact h9 | exact h9.ext (Nat.le_of_lt (by first | exact hs3 | (simp; omega))) (by repeat (first | assumption | exact Ext.refl _ | apply Ext.drewN | apply Ext.drew | apply Ext.alloc | (refine Ext.trans ?_ (by assumption)) | (refine Ext.set ?_ (by dsimp only; omega) _)))), fun j hj => by rcases Nat.lt_or_ge j t with h9 | h9; exact HTO.out j h9; (obtain rfl : j = t := by omega); exact HOK.out, (by repeat (first | assumption | exact Ext.refl _ | apply Ext.drewN | apply Ext.drew | apply Ext.alloc | (refine Ext.trans ?_ (by assumption)) | (refine Ext.set ?_ (by dsimp only; omega) _)))⟩, by simp [intOf]; omega⟩
            · rw [hg] at hme
              have HMT := Lib.hid hme
              clear hme hoe
              go_wp2_with (go_at_call 79; refine Calls.mono (c_l04Stretch (fl_mk t) ht3 fs) ?_; rw [hF]; rintro e w7 ⟨r7, rfl, hr7, n7, rfl⟩; have hogt := hr7.ogt fm; rw [hg] at hogt)
              exact ⟨⟨t + 1, by omega, by omega, by go_num, (by repeat (first | exact HBQ.out | (refine set_other ?_ (by dsimp only; omega)))), (by repeat (first | exact HZQ.out | (refine set_other ?_ (by dsimp only; omega)))), (by have h9 := HPUT.out; rw [mst_put hRl (by rw [HLK.out]; exact htl) HMT.out] at h9; first | exact h9 | exact h9.ext (Nat.le_of_lt (by simp; omega)) (Ext.drewN (Ext.refl _) n7)), fun j hj => by rcases Nat.lt_or_ge j t with h9 | h9; exact HTO.out j h9; (obtain rfl : j = t := by omega); exact HOK.out, (by repeat (first | assumption | exact Ext.refl _ | apply Ext.drewN | apply Ext.drew | apply Ext.alloc | (refine Ext.trans ?_ (by assumption)) | (refine Ext.set ?_ (by dsimp only; omega) _)))⟩, by simp [intOf]; omega⟩
          · obtain rfl : t = Lk := by omega
            have hn9 : mstS mu G k t = mstS mu G (k + 1) 0 := mst_next HLK.out.symm
            have HNX : Hid (OwP wr (w.heap.size + 1 + 1) w2.heap.size Ap2 m cp2 (some ⟨g, off, none⟩) m ct2 gp g f G.p (mstS mu G (k + 1) 0)) := Lib.hid (by rw [← hn9]; exact hop)
            obtain ⟨off8, A4, c4, hA4, z1, _⟩ := hop.row hlt
            obtain rfl : off = off8 := by simpa using hA4
            rw [HROW.out] at z1
            clear hbX hzX hop hn9 hto
            go_wp2_with (fail)
            exact ⟨⟨k + 1, by omega, by go_num, HBQ.out, HZQ.out, HNX.out, fun j hj => by rcases Nat.lt_or_ge j k with h9 | h9; exact HKO.out j h9; (obtain rfl : j = k := by omega); rw [HLK.out]; exact HTO.out, hxq⟩, by simp [intOf]; omega⟩
    · obtain rfl : k = m := by omega
      have p1r := (HBX1.out.ext hx).p1
      obtain ⟨d0, d1, d2, y0, y1, y2⟩ := three_c hbX
      obtain ⟨c0', c1', c2', x0', x1', x2'⟩ := three_c hzX
      have hG : OwG wr (w.heap.size + 1 + 1) w2.heap.size (.agg #[.int .i64 G.t, .slice Ap2 k cp2, .slice (some ⟨g, off, none⟩) k ct2]) (mutG mu G) := by
        have h1 := hop.toG (t := G.t)
        unfold mutG
        rw [HRL.out]
        exact h1
      have hall : allOk S G = true := allOk_yes (by rw [HRL.out]; exact hko)
      have HALL := Lib.hid hall
      have HG := Lib.hid hG
      have hmt : (mutG mu G).p.length = k ∧ (mutG mu G).r.length = k := ⟨HPL.out, mstS_len.trans HRL.out⟩
      have HBZ := Lib.hid (fun u0 u1 u2 => blk_set1 (blk_set1 (blk_set1 hzX 0 u0) 1 u1) 2 u2)
      clear hG hbX hzX hop hall hko
      go_wp2_with (fail)
      (try simp only [Exit.inBlock, Exit.then])
      refine bodyPost_ret (results_cell2 rfl _ _ (w.heap.size + 1) 25 #[.int .i64 G.t, .slice Ap2 k cp2, .slice (some ⟨g, off, none⟩) k ct2] (0, 0) _ rfl (HBZ.out _ _ _) Try.underlying25 rfl (by kernel_rfl)) rfl ?_
      show RetG _ _ _ (allOk S G) (mutG mu G)
      rw [HALL.out]
      exact ⟨_, rfl, by
        refine OwG.more (lo := w.heap.size + 1 + 1) (hi := w2.heap.size) ?_ (by omega) (by simp; omega)
        repeat (first | exact HG.out | (refine OwG.setOther ?_ (by left; dsimp only; omega) _)), (by repeat (first | assumption | exact Ext.refl _ | apply Ext.drewN | apply Ext.drew | apply Ext.alloc | (refine Ext.trans ?_ (by assumption)) | (refine Ext.set ?_ (by dsimp only; omega) _)))⟩
set_option linter.unusedSimpArgs false in
set_option maxRecDepth 20000 in
set_option maxHeartbeats 40000000 in
theorem c_impl_MuteStretch {w : World} {B : Nat} {v : Value} {G : Gat} (h : RdG w B v G) (hB : B ≤ w.heap.size) (h1 : G.p.length ≤ 1048576) (h2 : G.r.length ≤ 1048576) (h3 : ∀ j, j < G.r.length → (G.r.getD j []).length ≤ 1048576) {s q : Nat} {S M : Option Nat} (fs : Fl .f32 s S) (fm : Fl .f32 q M) :
    Calls Try.prog 34 #[v, .float .f32 s, .float .f32 q] w fun e w' => RetG w e w' (fvG G && (fabove S && allOk S G)) (mutG (muS S M G) G) := by
  obtain ⟨Ap, cp, At, ct, rfl, hp, hr, hcp, hct⟩ := h.ex
  obtain ⟨W1, hW1⟩ : ∃ W1, W1 = (w.alloc (.cells #[.int .i64 G.t, .slice Ap G.p.length cp, .slice At G.r.length ct] 25)).alloc (.cells #[.int .i64 0, .slice none 0 0, .slice none 0 0] 25) := ⟨_, rfl⟩
  have hbx : GbAt W1 w.heap.size G.t Ap G.p.length cp At G.r.length ct := by rw [hW1]; exact (GbAt.blk (T := 25) (by repeat (first | (refine al_at ?_ ?_ <;> first | rfl | (simp only [al_size] <;> omega)) | apply al_old))).ext (Ext.alloc (Ext.refl _) _)
  have hx1 : Ext w W1 := by rw [hW1]; exact (by repeat (first | assumption | exact Ext.refl _ | apply Ext.drewN | apply Ext.drew | apply Ext.alloc | (refine Ext.trans ?_ (by assumption)) | (refine Ext.set ?_ (by dsimp only; omega) _)))
  have hz1 : W1.heap[w.heap.size + 1]? = some (.cells #[.int .i64 0, .slice none 0 0, .slice none 0 0] 25 (0, 0)) := by rw [hW1]; exact al_at (al_size _ _).symm rfl
  have hs1 : W1.heap.size = w.heap.size + 1 + 1 := by rw [hW1, al_size, al_size]
  have HIS := Lib.hid (c_impl_ValidGather (h.below (hx1.mono hB)) (Nat.le_trans hB hx1.size) h1 h2 h3)
  obtain ⟨p0, p1, p2, _⟩ := id hbx
  cases hV : fvG G
  · rw [hV] at HIS
    go_enter Try.func34, Try.ntmps34
    go_wp2_with (fail)
    rw [← hW1]
    clear hW1
    go_wp2_with ((go_at_call 57; refine Calls.mono HIS.out ?_; rintro e w1 ⟨rfl, hxv⟩; have hbv := hbx.ext hxv; obtain ⟨p0, p1, p2, _⟩ := id hbv; have hzv := hxv.blk hz1; obtain ⟨c0, c1, c2, x0, x1, x2⟩ := three_c hzv))
    (try simp only [Exit.inBlock, Exit.then])
    refine bodyPost_ret (results_cell2 rfl _ _ (w.heap.size + 1) 25 #[.int .i64 0, .slice none 0 0, .slice none 0 0] (0, 0) _ rfl (by repeat (first | exact hzv | exact blk_set1 (blk_set1 (blk_set1 hzv 0 _) 1 _) 2 _)) Try.underlying25 rfl (by kernel_rfl)) rfl ?_
    exact retG_no rfl (by repeat (first | assumption | exact Ext.refl _ | apply Ext.drewN | apply Ext.drew | apply Ext.alloc | (refine Ext.trans ?_ (by assumption)) | (refine Ext.set ?_ (by dsimp only; omega) _)))
  rw [hV] at HIS
  have hVG := fvG_of hV
  rw [Bool.true_and]
  cases hA : fabove S
  · go_enter Try.func34, Try.ntmps34
    go_wp2_with (fail)
    rw [← hW1]
    clear hW1
    go_wp2_with (first | (go_at_call 57; refine Calls.mono HIS.out ?_; rintro e w1 ⟨rfl, hxv⟩; have hbv := hbx.ext hxv; obtain ⟨p0, p1, p2, _⟩ := id hbv; have hzv := hxv.blk hz1; obtain ⟨c0, c1, c2, x0, x1, x2⟩ := three_c hzv) | (go_at_call 71; refine Calls.mono (c_isPositive fs) ?_; rw [hA]; rintro e w4 ⟨rfl, n2, rfl⟩))
    (try simp only [Exit.inBlock, Exit.then])
    refine bodyPost_ret (results_cell2 rfl _ _ (w.heap.size + 1) 25 #[.int .i64 0, .slice none 0 0, .slice none 0 0] (0, 0) _ rfl (by repeat (first | exact hzv | exact blk_set1 (blk_set1 (blk_set1 hzv 0 _) 1 _) 2 _)) Try.underlying25 rfl (by kernel_rfl)) rfl ?_
    exact retG_no rfl (by repeat (first | assumption | exact Ext.refl _ | apply Ext.drewN | apply Ext.drew | apply Ext.alloc | (refine Ext.trans ?_ (by assumption)) | (refine Ext.set ?_ (by dsimp only; omega) _)))
  rw [Bool.true_and]
  have hpl := hp.len
  have hrl := hr.len
  have hn1 := hVG.n1
  have hmn := hVG.m
  have hrw : ∀ j, j < G.r.length → 1 ≤ (G.r.getD j []).length ∧ (G.r.getD j []).length ≤ 64 := fun j hj => by
    have h4 := hVG.row j hj
    have h5 := hVG.t1
    have h6 := hVG.t2
    omega
  have hfp : ∀ j, j < G.p.length → ffin .f32 (G.p.getD j none) = true := fun j hj => allL_at hj hVG.fin
  have HCO := Lib.hid (fun (W : World) (hW : Ext W1 W) => c_copyGather (w := W) (cp := cp) (ct := ct) (hp.below ((hx1.trans hW).mono hB)) (hr.below ((hx1.trans hW).mono hB)) (Nat.le_trans hB (hx1.trans hW).size) h1 h2 h3 (by omega) (by omega) (fun j hj => (hrw j hj).1))
  obtain ⟨m, hm⟩ : ∃ m, G.p.length = m := ⟨_, rfl⟩
  rw [hmn, hm] at hrw
  rw [hm] at hn1 hp hbx h1 hcp hfp p1 HIS HCO
  rw [hmn, hm] at hr hbx h2 hct p2 HIS HCO
  have hRL : G.r.length = m := hmn.trans hm
  have HRW := Lib.hid hrw
  have HPL := Lib.hid hm
  have HRL := Lib.hid hRL
  have HP := Lib.hid hp
  have HBX1 := Lib.hid hbx
  have HFP := Lib.hid hfp
  have hn2 : m ≤ 16 := by rw [← hm]; exact hVG.n2
  rw [hm, hRL] at hW1
  rw [hm, hRL]
  obtain ⟨mu, hmu⟩ : ∃ mu, mu = muS S M G := ⟨_, rfl⟩
  rw [← hmu]
  have HMU := Lib.hid hmu
  clear hVG hmn hpl hrl hrw hp hr h3 h hm hRL hfp hmu
  go_enter Try.func34, Try.ntmps34
  go_wp2_with (fail)
  rw [← hW1]
  clear hW1
  go_wp2_with (first | (go_at_call 57; refine Calls.mono HIS.out ?_; rintro e w1 ⟨rfl, hxv⟩; have hbv := hbx.ext hxv; obtain ⟨p0, p1, p2, _⟩ := id hbv; have hzv := hxv.blk hz1; obtain ⟨c0, c1, c2, x0, x1, x2⟩ := three_c hzv) | (go_at_call 71; refine Calls.mono (c_isPositive fs) ?_; rw [hA]; rintro e w4 ⟨rfl, n2, rfl⟩) | (go_at_call 72; refine Calls.mono (HCO.out _ (by repeat (first | assumption | exact Ext.refl _ | apply Ext.drewN | apply Ext.drew | apply Ext.alloc | (refine Ext.trans ?_ (by assumption)) | (refine Ext.set ?_ (by dsimp only; omega) _)))) ?_; rintro e w2 ⟨x, rfl, ho, hx2⟩; obtain ⟨Ap2, cp2, At2, ct2, gp, g, f, hv, hop⟩ := ho.inP; rw [HPL.out, HRL.out] at hv hop; subst hv; have hx12 : Ext W1 w2 := (by repeat (first | assumption | exact Ext.refl _ | apply Ext.drewN | apply Ext.drew | apply Ext.alloc | (refine Ext.trans ?_ (by assumption)) | (refine Ext.set ?_ (by dsimp only; omega) _))); have hb2 := HBX1.out.ext hx12; obtain ⟨b0, b1', b2', _⟩ := id hb2))
  have hx02 : Ext w w2 := hx1.trans hx12
  have hzb := hx12.blk hz1
  have hz2 := hx12.size
  have hz3 := hx2.size
  simp only [size_drewN] at hz3 hop
  have hz4 := hxv.size
  have hgb := hop.g_in.resolve_left (by omega)
  obtain ⟨off, _, _, hAt2, _⟩ := hop.row (i := 0) hn1
  subst hAt2
  have HOP := Lib.hid (hop.more (lo' := w.heap.size + 1 + 1) (by omega) (Nat.le_refl _))
  have HZB := Lib.hid hzb
  clear hop hzb ho b0 b1' b2' p0 p1 p2
  go_loopw [28] (fun y wr => ∃ k : Nat, k ≤ m ∧ y = .int .i64 k ∧ wr.heap[w2.heap.size]? = some (.cells #[.int .i64 G.t, .slice Ap2 m cp2, .slice (some ⟨g, off, none⟩) m ct2] 25 (0, 0)) ∧ wr.heap[w.heap.size + 1]? = some (.cells #[.int .i64 0, .slice none 0 0, .slice none 0 0] 25 (0, 0)) ∧ OwP wr (w.heap.size + 1 + 1) w2.heap.size Ap2 m cp2 (some ⟨g, off, none⟩) m ct2 gp g f G.p (mstS mu G k 0) ∧ (∀ j, j < k → ∀ t, t < (G.r.getD j []).length → okS2 S G j t = true) ∧ Ext W1 wr) (fun y _ => m - (intOf y).toNat)
  case atStart => exact ⟨0, Nat.zero_le _, rfl, (by first | exact heap_alloc_new w2 _ | exact blk_set1 (blk_set1 (blk_set1 (heap_alloc_new w2 _) 0 _) 1 _) 2 _), (by repeat (first | exact HZB.out | apply al_old | (refine set_other ?_ (by dsimp only; omega)))), by rw [mst_start]; exact HOP.out.ext (Nat.le_refl _) (by repeat (first | assumption | exact Ext.refl _ | apply Ext.drewN | apply Ext.drew | apply Ext.alloc | (refine Ext.trans ?_ (by assumption)) | (refine Ext.set ?_ (by dsimp only; omega) _))), fun j hj => absurd hj (Nat.not_lt_zero _), (by repeat (first | assumption | exact Ext.refl _ | apply Ext.drewN | apply Ext.drew | apply Ext.alloc | (refine Ext.trans ?_ (by assumption)) | (refine Ext.set ?_ (by dsimp only; omega) _)))⟩
  case round =>
    obtain ⟨k, hk, rfl, hbX, hzX, hop, hko, hx⟩ := hrel
    have HKO := Lib.hid hko
    have HBX := Lib.hid hbX
    have HZX := Lib.hid hzX
    have HOQ := Lib.hid hop
    have hs2 := blk_lt hbX
    have hx0r : Ext w wr := hx1.trans hx
    by_cases hlt : k < m
    · have hlt' : (k : Int) < (m : Int) := by omega
      have hRl : k < G.r.length := by rw [HRL.out]; exact hlt
      obtain ⟨b3, o3, t3, rfl, hb3, hc3w, ht3⟩ := (HP.out.below (hx1.mono hB)).cell hlt
      have hb3w : b3 < W1.heap.size := Nat.lt_of_lt_of_le hb3 (Nat.le_trans hB hx1.size)
      have hc3 := (hx.cell (p := ⟨b3, o3 + k, none⟩) hb3w).trans hc3w
      obtain ⟨g1, g2⟩ := HRW.out k hlt
      obtain ⟨Lk, hLk⟩ : ∃ x, (G.r.getD k []).length = x := ⟨_, rfl⟩
      have hrowk : ∀ t, ((mstS mu G k t).getD k []).length = Lk := fun t => by rw [mstS_row hRl, hLk]
      rw [hLk] at g1 g2
      have HROW := Lib.hid hrowk
      have HLK := Lib.hid hLk
      have hLkI : (1 : Int) ≤ (Lk : Int) := by omega
      have hfi := hop.f_in k hlt
      have hbr := HBX1.out.ext hx
      have p1r := hbr.p1
      obtain ⟨P3, hP3⟩ : ∃ P3, G.p.getD k none = P3 := ⟨_, rfl⟩
      have hP3f := HFP.out k hlt
      rw [hP3] at ht3 hP3f
      have HP3 := Lib.hid hP3
      obtain ⟨d0, d1, d2, y0, y1, y2⟩ := three_c hbX
      clear hbX hzX hop hrowk hLk hP3 hbr hko
      obtain ⟨off8, A4, c4, hA4, z1, _⟩ := HOQ.out.row hlt
      obtain rfl : off = off8 := by simpa using hA4
      rw [HROW.out] at z1
      have hok0 : Hid (∀ j, j < 0 → okS2 S G k j = true) := Lib.hid (fun j hj => absurd hj (Nat.not_lt_zero _))
      go_wp2_with (fail)
      go_loopw [39] (fun z wq => ∃ t : Nat, 0 ≤ t ∧ t ≤ Lk ∧ z = .int .i64 t ∧ wq.heap[w2.heap.size]? = some (.cells #[.int .i64 G.t, .slice Ap2 m cp2, .slice (some ⟨g, off, none⟩) m ct2] 25 (0, 0)) ∧ wq.heap[w.heap.size + 1]? = some (.cells #[.int .i64 0, .slice none 0 0, .slice none 0 0] 25 (0, 0)) ∧ OwP wq (w.heap.size + 1 + 1) w2.heap.size Ap2 m cp2 (some ⟨g, off, none⟩) m ct2 gp g f G.p (mstS mu G k t) ∧ (∀ j, j < t → okS2 S G k j = true) ∧ Ext W1 wq) (fun z _ => Lk - (intOf z).toNat)
      case atStart => exact ⟨0, Nat.le_refl _, Nat.zero_le _, rfl, (by repeat (first | exact HBX.out | (refine set_other ?_ (by dsimp only; omega)))), (by repeat (first | exact HZX.out | (refine set_other ?_ (by dsimp only; omega)))), HOQ.out, hok0.out, (by repeat (first | assumption | exact Ext.refl _ | apply Ext.drewN | apply Ext.drew | apply Ext.alloc | (refine Ext.trans ?_ (by assumption)) | (refine Ext.set ?_ (by dsimp only; omega) _)))⟩
      case round =>
        obtain ⟨t, ht1, htL, rfl, hbX, hzX, hop, hto, hxq⟩ := hrel
        have HTO := Lib.hid hto
        have HBQ := Lib.hid hbX
        have HZQ := Lib.hid hzX
        have HOT := Lib.hid hop
        have hs3 := blk_lt hbX
        have p1q := (HBX1.out.ext hxq).p1
        have hc3q := (hxq.cell (p := ⟨b3, o3 + k, none⟩) hb3w).trans hc3w
        obtain ⟨d0, d1, d2, y0, y1, y2⟩ := three_c hbX
        by_cases htl : t < Lk
        · have htl' : (t : Int) < (Lk : Int) := by omega
          have hmi := mk_int t
          obtain ⟨off8, A4, c4, o4, q4, hA8, z1, rfl, z3, z4, z5, z6⟩ := hop.num (i := k) (k := t) hlt (by rw [HROW.out]; exact htl)
          obtain rfl : off = off8 := by simpa using hA8
          rw [HROW.out] at z1
          have HPUT := Lib.hid (z6 0 fz fl_fz)
          clear hbX hzX hop z4 z6 hto
          have hme : mu k t = muX S M P3 t := by rw [HMU.out]; unfold muS; rw [HP3.out]
          have hoe : okS2 S G k t = okX S P3 t := by unfold okS2; rw [HP3.out]
          have cST := fun W => c_isStretched (w := W) (k := t) (by omega) ht3 fs fm hP3f hA
          cases hF : okX S P3 t
          · have hno : allOk S G = false := allOk_no hRl (by rw [HLK.out]; exact htl) (by rw [hoe, hF])
            have HNO := Lib.hid hno
            rw [hF] at cST
            obtain ⟨bo, hbo⟩ : ∃ bo, muX S M P3 t = bo := ⟨_, rfl⟩
            rw [hbo] at cST
            have CST := Lib.hid cST
            clear hme hoe hno cST hbo
            go_wp2_with (go_at_call 80; refine Calls.mono (CST.out _) ?_; rintro e w7 ⟨rfl, hx7⟩; have hz7 := hx7.blk HZQ.out; obtain ⟨c0', c1', c2', x0', x1', x2'⟩ := three_c hz7)
            (try simp only [Exit.inBlock, Exit.then])
            refine bodyPost_ret (results_cell2 rfl _ _ (w.heap.size + 1) 25 #[.int .i64 0, .slice none 0 0, .slice none 0 0] (0, 0) _ rfl (by repeat (first | exact hz7 | exact blk_set1 (blk_set1 (blk_set1 hz7 0 _) 1 _) 2 _)) Try.underlying25 rfl (by kernel_rfl)) rfl ?_
            exact retG_no HNO.out (by repeat (first | assumption | exact Ext.refl _ | apply Ext.drewN | apply Ext.drew | apply Ext.alloc | (refine Ext.trans ?_ (by assumption)) | (refine Ext.set ?_ (by dsimp only; omega) _)))
          rw [hF] at hoe cST
          have HOK := Lib.hid hoe
          cases hg : muX S M P3 t
          · rw [hg] at hme cST
            have HMT := Lib.hid hme
            have CST := Lib.hid cST
            clear hme hoe cST
            go_wp2_with (go_at_call 80; refine Calls.mono (CST.out _) ?_; rintro e w7 ⟨rfl, hx7⟩)
            have hb7 := hx7.blk HBQ.out
            have hz7 := hx7.blk HZQ.out
            exact ⟨⟨t + 1, by omega, by omega, by go_num, hb7, hz7, (by have h9 := HOT.out; rw [← mst_skip HMT.out] at h9; exact h9.ext (Nat.le_of_lt hs3) hx7), fun j hj => by rcases Nat.lt_or_ge j t with h9 | h9; exact HTO.out j h9; (obtain rfl : j = t := by omega); exact HOK.out, (by repeat (first | assumption | exact Ext.refl _ | apply Ext.drewN | apply Ext.drew | apply Ext.alloc | (refine Ext.trans ?_ (by assumption)) | (refine Ext.set ?_ (by dsimp only; omega) _)))⟩, by simp [intOf]; omega⟩
          · rw [hg] at hme cST
            have HMT := Lib.hid hme
            have CST := Lib.hid cST
            clear hme hoe cST
            go_wp2_with (go_at_call 80; refine Calls.mono (CST.out _) ?_; rintro e w7 ⟨rfl, hx7⟩; obtain ⟨b7, b7x, b7y, _, _, _⟩ := three_c (hx7.blk HBQ.out); have q1 := (hx7.cell (p := ⟨g, off + k, none⟩) (by dsimp only; omega)).trans z1; obtain ⟨off9, A8, c8, o8, q8, hA8', e1, hA9, e3, _, e5, e6⟩ := (HOT.out.ext (Nat.le_of_lt hs3) hx7).num (i := k) (k := t) hlt (by rw [HROW.out]; exact htl); (obtain rfl : off = off9 := by simpa using hA8'); rw [HROW.out] at e1; rw [q1] at e1; (obtain rfl : o4 = o8 := by simp only [Option.some.injEq, Value.slice.injEq, hA9, Addr.mk.injEq] at e1; omega); have HPU := Lib.hid (e6 0 fz fl_fz); clear e1 e6 hA9)
            have hb7 := hx7.blk HBQ.out
            have hz7 := hx7.blk HZQ.out
            exact ⟨⟨t + 1, by omega, by omega, by go_num, set_other hb7 (by dsimp only; omega), set_other hz7 (by dsimp only; omega), (by have h9 := HPU.out; rw [mst_put hRl (by rw [HLK.out]; exact htl) HMT.out] at h9; exact h9), fun j hj => by rcases Nat.lt_or_ge j t with h9 | h9; exact HTO.out j h9; (obtain rfl : j = t := by omega); exact HOK.out, (by repeat (first | assumption | exact Ext.refl _ | apply Ext.drewN | apply Ext.drew | apply Ext.alloc | (refine Ext.trans ?_ (by assumption)) | (refine Ext.set ?_ (by dsimp only; omega) _)))⟩, by simp [intOf]; omega⟩
        · obtain rfl : t = Lk := by omega
          have hn9 : mstS mu G k t = mstS mu G (k + 1) 0 := mst_next HLK.out.symm
          have HNX : Hid (OwP wr (w.heap.size + 1 + 1) w2.heap.size Ap2 m cp2 (some ⟨g, off, none⟩) m ct2 gp g f G.p (mstS mu G (k + 1) 0)) := Lib.hid (by rw [← hn9]; exact hop)
          obtain ⟨off8, A4, c4, hA4, z1, _⟩ := hop.row hlt
          obtain rfl : off = off8 := by simpa using hA4
          rw [HROW.out] at z1
          clear hbX hzX hop hn9 hto
          go_wp2_with (fail)
          exact ⟨⟨k + 1, by omega, by go_num, HBQ.out, HZQ.out, HNX.out, fun j hj => by rcases Nat.lt_or_ge j k with h9 | h9; exact HKO.out j h9; (obtain rfl : j = k := by omega); rw [HLK.out]; exact HTO.out, hxq⟩, by simp [intOf]; omega⟩
    · obtain rfl : k = m := by omega
      have p1r := (HBX1.out.ext hx).p1
      obtain ⟨d0, d1, d2, y0, y1, y2⟩ := three_c hbX
      obtain ⟨c0', c1', c2', x0', x1', x2'⟩ := three_c hzX
      have hG : OwG wr (w.heap.size + 1 + 1) w2.heap.size (.agg #[.int .i64 G.t, .slice Ap2 k cp2, .slice (some ⟨g, off, none⟩) k ct2]) (mutG mu G) := by
        have h1 := hop.toG (t := G.t)
        unfold mutG
        rw [HRL.out]
        exact h1
      have hall : allOk S G = true := allOk_yes (by rw [HRL.out]; exact hko)
      have HALL := Lib.hid hall
      have HG := Lib.hid hG
      have hmt : (mutG mu G).p.length = k ∧ (mutG mu G).r.length = k := ⟨HPL.out, mstS_len.trans HRL.out⟩
      have HBZ := Lib.hid (fun u0 u1 u2 => blk_set1 (blk_set1 (blk_set1 hzX 0 u0) 1 u1) 2 u2)
      clear hG hbX hzX hop hall hko
      go_wp2_with (fail)
      (try simp only [Exit.inBlock, Exit.then])
      refine bodyPost_ret (results_cell2 rfl _ _ (w.heap.size + 1) 25 #[.int .i64 G.t, .slice Ap2 k cp2, .slice (some ⟨g, off, none⟩) k ct2] (0, 0) _ rfl (HBZ.out _ _ _) Try.underlying25 rfl (by kernel_rfl)) rfl ?_
      show RetG _ _ _ (allOk S G) (mutG mu G)
      rw [HALL.out]
      exact ⟨_, rfl, by
        refine OwG.more (lo := w.heap.size + 1 + 1) (hi := w2.heap.size) ?_ (by omega) (by simp; omega)
        repeat (first | exact HG.out | (refine OwG.setOther ?_ (by left; dsimp only; omega) _)), (by repeat (first | assumption | exact Ext.refl _ | apply Ext.drewN | apply Ext.drew | apply Ext.alloc | (refine Ext.trans ?_ (by assumption)) | (refine Ext.set ?_ (by dsimp only; omega) _)))⟩
end Go.Proofs.Ytceldjkgddbfaaa
