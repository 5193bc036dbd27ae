/- Contracts: an event is added to a gather, on both sides. Condition: the gather is read. -/
import Derived.Test.YtddemhlhlbpecaaZo
import Derived.Test.YtddemhlhlbpecaaZm
import Derived.Test.YtddemhlhlbpecaaNq
import Derived.Test.YtddemhlhlbpecaaZe
namespace Go.Proofs.Ytddemhlhlbpecaa
open Go.RowKit Ieee

section
variable {F : Nat → Nat → Option Nat} {G : Gat} {i : Nat}
theorem gst_same (h : ∀ t, t < (G.r.getD i []).length → F i t = (G.r.getD i []).getD t none) : gstS F G i 0 = gstS F G (i + 1) 0 := by
  refine ext_getD (d := []) (by rw [gstS_len, gstS_len]) fun j hj => ?_
  rw [gstS_len] at hj
  rw [gstS_at hj, gstS_at hj]
  refine ext_getD (d := none) (by rw [gst_len, gst_len]) fun t ht => ?_
  rw [gst_len] at ht
  rw [gst_at ht, gst_at ht]
  by_cases hji : j = i
  · subst hji
    rw [if_neg (by simp), if_pos (by simp), h t ht]
  · refine congrArg (fun b : Bool => if b then F j t else (G.r.getD j []).getD t none) ?_
    rw [Bool.eq_iff_iff]
    simp only [Bool.or_eq_true, Bool.and_eq_true, decide_eq_true_eq]
    omega
theorem gst_zero (hi : i < G.r.length) {K : Nat} (hK : K < (G.r.getD i []).length) : ((gstS F G i 0).getD i []).getD K none = (G.r.getD i []).getD K none := by
  rw [gstS_at hi, gst_at hK, if_neg (by simp)]
theorem gst_one (hi : i < G.r.length) {K : Nat} (hK : K < (G.r.getD i []).length) (h : ∀ t, t < (G.r.getD i []).length → t ≠ K → F i t = (G.r.getD i []).getD t none) :
    (gstS F G i 0).set i (((gstS F G i 0).getD i []).set K (F i K)) = gstS F G (i + 1) 0 := by
  refine ext_getD (d := []) (by rw [List.length_set, gstS_len, gstS_len]) fun j hj => ?_
  rw [List.length_set, gstS_len] at hj
  by_cases hji : j = i
  · subst hji
    rw [getD_set_at (by rw [gstS_len]; exact hj), gstS_at hj, gstS_at hj]
    refine ext_getD (d := none) (by rw [List.length_set, gst_len, gst_len]) fun t ht => ?_
    rw [List.length_set, gst_len] at ht
    rw [gst_at ht, if_pos (by simp)]
    by_cases htk : t = K
    · subst htk
      rw [getD_set_at (by rw [gst_len]; exact ht)]
    · rw [getD_set_no htk, gst_at ht, if_neg (by simp), h t ht htk]
  · rw [getD_set_no hji, gstS_at hj, gstS_at hj]
    refine ext_getD (d := none) (by rw [gst_len, gst_len]) fun t ht => ?_
    rw [gst_len] at ht
    rw [gst_at ht, gst_at ht]
    refine congrArg (fun b : Bool => if b then F j t else (G.r.getD j []).getD t none) ?_
    rw [Bool.eq_iff_iff]
    simp only [Bool.or_eq_true, Bool.and_eq_true, decide_eq_true_eq]
    omega
end
/-- When an event comes, and half a tick. -/
def evT (G : Gat) (S V : Option Nat) (j : Nat) : Option Nat := fop .add .f32 (fcurve S (G.p.getD j none) V) (fl .f32 1056964608)
def evF (G : Gat) (S V Z : Option Nat) (j t : Nat) : Option Nat := if flt32 (evT G S V j) (some (mk G.t.toNat)) && decide (t = flo (evT G S V j)) then fop .add .f32 ((G.r.getD j []).getD t none) Z else (G.r.getD j []).getD t none
theorem fl_half32 : Fl .f32 1056964608 (fl .f32 1056964608) := Fl.of32 (by decide)
theorem nk_half : Nk .f32 (fl .f32 1056964608) := ⟨1056964608, by decide +kernel, by decide +kernel⟩
theorem nq_fin {a : Nat} {X : Option Nat} (h : Fl .f32 a X) (hX : ffin .f32 X = true) : Nq X := nq_of h (by rintro rfl; cases hX)
def okEv (G : Gat) (S V : Option Nat) : Bool := fvG G && (fway S && fabove V)
set_option linter.unusedSimpArgs false in
set_option maxRecDepth 20000 in
set_option maxHeartbeats 40000000 in
theorem c_spec_AddEvent {w : World} {B : Nat} {v : Value} {G : Gat} (h : RdG w B v G) (hB : B ≤ w.heap.size) (h1 : G.p.length ≤ 1048576) (h2 : G.r.length ≤ 1048576) (h3 : ∀ j, j < G.r.length → (G.r.getD j []).length ≤ 1048576) {s : Nat} {S : Option Nat} (fs : Fl .f32 s S) {q : Nat} {V : Option Nat} (fv : Fl .f32 q V) {z : Nat} {Z : Option Nat} (fzz : Fl .f32 z Z) :
    Calls Try.prog 42 #[v, .float .f32 s, .float .f32 q, .float .f32 z] w fun e w' => RetG w e w' (okEv G S V) (genG (evF G S V Z) G) := by
  unfold okEv
  obtain ⟨Ap, cp, At, ct, rfl, hp, hr, hcp, hct⟩ := h.ex
  obtain ⟨W1, hW1⟩ : ∃ W1, W1 = (w.alloc (.cells #[.int .i64 G.t, .slice Ap G.p.length cp, .slice At G.r.length ct] 54)).alloc (.cells #[.int .i64 0, .slice none 0 0, .slice none 0 0] 54) := ⟨_, rfl⟩
  have hbx : GbAt W1 w.heap.size G.t Ap G.p.length cp At G.r.length ct := by rw [hW1]; exact (GbAt.blk (T := 54) (by repeat (first | (refine al_at ?_ ?_ <;> first | rfl | (simp only [al_size] <;> omega)) | apply al_old))).ext (Ext.alloc (Ext.refl _) _)
  have hx1 : Ext w W1 := by rw [hW1]; exact (by repeat (first | assumption | exact Ext.refl _ | apply Ext.drewN | apply Ext.drew | apply Ext.alloc | (refine Ext.trans ?_ (by assumption)) | (refine Ext.set ?_ (by dsimp only; omega) _)))
  have hz1 : W1.heap[w.heap.size + 1]? = some (.cells #[.int .i64 0, .slice none 0 0, .slice none 0 0] 54 (0, 0)) := by rw [hW1]; exact al_at (al_size _ _).symm rfl
  have hs1 : W1.heap.size = w.heap.size + 1 + 1 := by rw [hW1, al_size, al_size]
  have HIS := Lib.hid (c_l04Is hbx (hp.below (hx1.mono hB)) (hr.below (hx1.mono hB)) h1 h2 h3)
  cases hV : fvG G
  case false =>
    rw [hV] at HIS
    go_enter Try.func42, Try.ntmps42
    go_wp2_with (fail)
    rw [← hW1]
    obtain ⟨c0, c1, c2, x0, x1, x2⟩ := three_c hz1
    clear hW1
    go_wp2_with (first | (go_at_call 85; refine Calls.mono HIS.out ?_; rintro e w1 ⟨rfl, n1, rfl⟩))
    (try simp only [Exit.inBlock, Exit.then])
    refine bodyPost_ret (results_cell2 rfl _ _ (w.heap.size + 1) 54 #[.int .i64 0, .slice none 0 0, .slice none 0 0] (0, 0) _ rfl (by repeat (first | exact hz1 | exact blk_set1 (blk_set1 (blk_set1 hz1 0 _) 1 _) 2 _)) Try.underlying54 rfl (by kernel_rfl)) rfl ?_
    exact retG_no rfl (by repeat (first | assumption | exact Ext.refl _ | apply Ext.drewN | apply Ext.drew | apply Ext.alloc | (refine Ext.trans ?_ (by assumption)) | (refine Ext.set ?_ (by dsimp only; omega) _)))
  rw [hV] at HIS
  have hVG := fvG_of hV
  rw [Bool.true_and]
  cases hA : fway S
  case false =>
    go_enter Try.func42, Try.ntmps42
    go_wp2_with (fail)
    rw [← hW1]
    obtain ⟨c0, c1, c2, x0, x1, x2⟩ := three_c hz1
    clear hW1
    go_wp2_with (first | (go_at_call 85; refine Calls.mono HIS.out ?_; rintro e w1 ⟨rfl, n1, rfl⟩) | (go_at_call 97; refine Calls.mono (c_l02Way fs _) ?_; rw [hA]; rintro e w3 ⟨rfl, n2, rfl⟩))
    (try simp only [Exit.inBlock, Exit.then])
    refine bodyPost_ret (results_cell2 rfl _ _ (w.heap.size + 1) 54 #[.int .i64 0, .slice none 0 0, .slice none 0 0] (0, 0) _ rfl (by repeat (first | exact hz1 | exact blk_set1 (blk_set1 (blk_set1 hz1 0 _) 1 _) 2 _)) Try.underlying54 rfl (by kernel_rfl)) rfl ?_
    exact retG_no rfl (by repeat (first | assumption | exact Ext.refl _ | apply Ext.drewN | apply Ext.drew | apply Ext.alloc | (refine Ext.trans ?_ (by assumption)) | (refine Ext.set ?_ (by dsimp only; omega) _)))
  rw [Bool.true_and]
  cases hC : fabove V
  case false =>
    go_enter Try.func42, Try.ntmps42
    go_wp2_with (fail)
    rw [← hW1]
    obtain ⟨c0, c1, c2, x0, x1, x2⟩ := three_c hz1
    clear hW1
    go_wp2_with (first | (go_at_call 85; refine Calls.mono HIS.out ?_; rintro e w1 ⟨rfl, n1, rfl⟩) | (go_at_call 97; refine Calls.mono (c_l02Way fs _) ?_; rw [hA]; rintro e w3 ⟨rfl, n2, rfl⟩) | (go_at_call 78; refine Calls.mono (c_l02Above fv _) ?_; rw [hC]; rintro e w4 ⟨rfl, n3, rfl⟩))
    (try simp only [Exit.inBlock, Exit.then])
    refine bodyPost_ret (results_cell2 rfl _ _ (w.heap.size + 1) 54 #[.int .i64 0, .slice none 0 0, .slice none 0 0] (0, 0) _ rfl (by repeat (first | exact hz1 | exact blk_set1 (blk_set1 (blk_set1 hz1 0 _) 1 _) 2 _)) Try.underlying54 rfl (by kernel_rfl)) rfl ?_
    exact retG_no rfl (by repeat (first | assumption | exact Ext.refl _ | apply Ext.drewN | apply Ext.drew | apply Ext.alloc | (refine Ext.trans ?_ (by assumption)) | (refine Ext.set ?_ (by dsimp only; omega) _)))
  have hpl := hp.len
  have hrl := hr.len
  have hn1 := hVG.n1
  have hmn := hVG.m
  have hrw : ∀ j, j < G.r.length → 1 ≤ (G.r.getD j []).length ∧ (G.r.getD j []).length ≤ 64 := fun j hj => by
    have h4 := hVG.row j hj
    have h5 := hVG.t1
    have h6 := hVG.t2
    omega
  obtain ⟨tk, htk⟩ : ∃ tk : Nat, G.t = (tk : Int) := ⟨G.t.toNat, by have h5 := hVG.t1; omega⟩
  have htk2 : G.t.toNat = tk := by omega
  have htr : ∀ j, j < G.r.length → (G.r.getD j []).length = tk := fun j hj => by have h4 := hVG.row j hj; omega
  have htk3 : tk < 16777216 := by have h6 := hVG.t2; omega
  have hfp : ∀ j, j < G.p.length → ffin .f32 (G.p.getD j none) = true := fun j hj => allL_at hj hVG.fin
  have hSf : Nq S := nq_fin fs (by unfold fway at hA; rw [Bool.and_eq_true] at hA; exact hA.1)
  have HCO := Lib.hid (fun (W : World) (hW : Ext W1 W) => c_l04Own (w := W) (hbx.ext hW) (hp.below ((hx1.trans hW).mono hB)) (hr.below ((hx1.trans hW).mono hB)) (Nat.le_trans hB (hx1.trans hW).size) h1 h2 h3 (by omega) (by omega) (fun j hj => (hrw j hj).1))
  obtain ⟨m, hm⟩ : ∃ m, G.p.length = m := ⟨_, rfl⟩
  rw [hmn, hm] at hrw htr
  rw [hm] at hn1 hp hbx h1 hcp hfp
  rw [hmn, hm] at hr hbx h2 hct
  have hRL : G.r.length = m := hmn.trans hm
  have HRW := Lib.hid hrw
  have HTR := Lib.hid htr
  have HPL := Lib.hid hm
  have HRL := Lib.hid hRL
  have HP := Lib.hid hp
  have HBX1 := Lib.hid hbx
  have HFP := Lib.hid hfp
  have HSF := Lib.hid hSf
  have HTK := Lib.hid htk
  have HTK2 := Lib.hid htk2
  have hn2 : m ≤ 16 := by rw [← hm]; exact hVG.n2
  rw [hm, hRL] at hW1
  rw [hm, hRL]
  obtain ⟨mu, hmu⟩ : ∃ mu, mu = evF G S V Z := ⟨_, rfl⟩
  rw [← hmu]
  have HMU := Lib.hid hmu
  clear hVG hmn hpl hrl hrw hp hr h3 h hm hRL hfp hmu htr hSf htk htk2
  go_enter Try.func42, Try.ntmps42
  go_wp2_with (fail)
  rw [← hW1]
  clear hW1
  go_wp2_with (first | (go_at_call 85; refine Calls.mono HIS.out ?_; rintro e w1 ⟨rfl, n1, rfl⟩) | (go_at_call 97; refine Calls.mono (c_l02Way fs _) ?_; rw [hA]; rintro e w3 ⟨rfl, n2, rfl⟩) | (go_at_call 78; refine Calls.mono (c_l02Above fv _) ?_; rw [hC]; rintro e w4 ⟨rfl, n3, rfl⟩) | (go_at_call 86; refine Calls.mono (HCO.out _ (by repeat (first | assumption | exact Ext.refl _ | apply Ext.drewN | apply Ext.drew | apply Ext.alloc | (refine Ext.trans ?_ (by assumption)) | (refine Ext.set ?_ (by dsimp only; omega) _)))) ?_; rintro e w2 ⟨x, rfl, ho, hx2⟩; obtain ⟨Ap2, cp2, At2, ct2, gp, g, f, hv, hop⟩ := ho.inP; rw [HPL.out, HRL.out] at hv hop; subst hv; have hx12 : Ext W1 w2 := (by repeat (first | assumption | exact Ext.refl _ | apply Ext.drewN | apply Ext.drew | apply Ext.alloc | (refine Ext.trans ?_ (by assumption)) | (refine Ext.set ?_ (by dsimp only; omega) _))); have hb2 := HBX1.out.ext hx12; obtain ⟨b0, b1', b2', _⟩ := id hb2))
  have hx02 : Ext w w2 := hx1.trans hx12
  have hzb := hx12.blk hz1
  have hz2 := hx12.size
  have hz3 := hx2.size
  simp only [size_drewN] at hz3 hop
  have hgb := hop.g_in.resolve_left (by omega)
  obtain ⟨off, _, _, hAt2, _⟩ := hop.row (i := 0) hn1
  subst hAt2
  have HOP := Lib.hid (hop.more (lo' := w.heap.size + 1 + 1) (by omega) (Nat.le_refl _))
  have HZB := Lib.hid hzb
  clear hop hzb ho b0 b1' b2'
  go_loopw [11] (fun y wr => ∃ k : Nat, k ≤ m ∧ y = .int .i64 k ∧ wr.heap[w2.heap.size]? = some (.cells #[.int .i64 G.t, .slice Ap2 m cp2, .slice (some ⟨g, off, none⟩) m ct2] 54 (0, 0)) ∧ wr.heap[w.heap.size + 1]? = some (.cells #[.int .i64 0, .slice none 0 0, .slice none 0 0] 54 (0, 0)) ∧ OwP wr (w.heap.size + 1 + 1) w2.heap.size Ap2 m cp2 (some ⟨g, off, none⟩) m ct2 gp g f G.p (gstS mu G k 0) ∧ Ext W1 wr) (fun y _ => m - (intOf y).toNat)
  case atStart => exact ⟨0, Nat.zero_le _, rfl, (by first | exact heap_alloc_new w2 _ | exact blk_set1 (blk_set1 (blk_set1 (heap_alloc_new w2 _) 0 _) 1 _) 2 _), (by repeat (first | exact HZB.out | apply al_old | (refine set_other ?_ (by dsimp only; omega)))), by rw [gst_start]; exact HOP.out.ext (Nat.le_refl _) (by repeat (first | assumption | exact Ext.refl _ | apply Ext.drewN | apply Ext.drew | apply Ext.alloc | (refine Ext.trans ?_ (by assumption)) | (refine Ext.set ?_ (by dsimp only; omega) _))), (by repeat (first | assumption | exact Ext.refl _ | apply Ext.drewN | apply Ext.drew | apply Ext.alloc | (refine Ext.trans ?_ (by assumption)) | (refine Ext.set ?_ (by dsimp only; omega) _)))⟩
  case round =>
    obtain ⟨k, hk, rfl, hbX, hzX, hop, hx⟩ := hrel
    have HBX := Lib.hid hbX
    have HZX := Lib.hid hzX
    have HOQ := Lib.hid hop
    have hs2 := blk_lt hbX
    have hx0r : Ext w wr := hx1.trans hx
    by_cases hlt : k < m
    · have hlt' : (k : Int) < (m : Int) := by omega
      have hRl : k < G.r.length := by rw [HRL.out]; exact hlt
      obtain ⟨b3, o3, t3, rfl, hb3, hc3w, ht3⟩ := (HP.out.below (hx1.mono hB)).cell hlt
      have hb3w : b3 < W1.heap.size := Nat.lt_of_lt_of_le hb3 (Nat.le_trans hB hx1.size)
      have hc3 := (hx.cell (p := ⟨b3, o3 + k, none⟩) hb3w).trans hc3w
      obtain ⟨g1, g2⟩ := HRW.out k hlt
      have hLk := HTR.out k hlt
      have hrowk : ((gstS mu G k 0).getD k []).length = tk := by rw [gstS_row hRl, hLk]
      have HROW := Lib.hid hrowk
      have HLK := Lib.hid hLk
      have hfi := hop.f_in k hlt
      have hbr := HBX1.out.ext hx
      have p0r := hbr.p0
      have p1r := hbr.p1
      obtain ⟨P3, hP3⟩ : ∃ P3, G.p.getD k none = P3 := ⟨_, rfl⟩
      have hP3f := HFP.out k hlt
      rw [hP3] at ht3 hP3f
      have hnk : Nk .f32 (fop .add .f32 (fcurve S P3 V) (fl .f32 1056964608)) := nk_add (nk_curve HSF.out (nq_fin ht3 hP3f) fv hC) nk_half
      have HEV : Hid (evT G S V k = fop .add .f32 (fcurve S P3 V) (fl .f32 1056964608)) := Lib.hid (by unfold evT; rw [hP3])
      have HP3 := Lib.hid hP3
      obtain ⟨d0, d1, d2, y0, y1, y2⟩ := three_c hbX
      clear hbX hzX hop hrowk hLk hP3 hbr
      obtain ⟨X3, hX3⟩ : ∃ X3, fop .add .f32 (fcurve S P3 V) (fl .f32 1056964608) = X3 := ⟨_, rfl⟩
      rw [hX3] at hnk HEV
      have HX3 := Lib.hid hX3
      have HNK := Lib.hid hnk
      clear hX3 hnk
      have HLB := Lib.hid (fun (t x : Nat) (h : Fl .f32 t X3) (hx : Fl .f64 x (fconv .f32 .f64 X3)) => floor_below h hx HNK.out htk3)
      cases hg : flt32 X3 (some (mk tk))
      case false =>
        have hsame : gstS mu G k 0 = gstS mu G (k + 1) 0 := gst_same (fun t _ => by rw [HMU.out]; unfold evF; rw [HEV.out, HTK2.out, hg]; rfl)
        have HNX : Hid (OwP wr (w.heap.size + 1 + 1) w2.heap.size Ap2 m cp2 (some ⟨g, off, none⟩) m ct2 gp g f G.p (gstS mu G (k + 1) 0)) := Lib.hid (by rw [← hsame]; exact HOQ.out)
        clear hsame
        go_wp2_with (first | (go_at_call 99; refine Calls.mono (c_l04Curve fs ht3 fv _) ?_; rintro e w7 ⟨r7, rfl, hr7, n7, rfl⟩) | (apply upon_fop rfl; (exact hr7); (exact fl_half32); intro r8 n8 hr8; rw [HX3.out] at hr8) | (apply upon_wide s_f32 Try.underlying41; (exact hr8); intro r9 n9 hr9; obtain ⟨k1, k2, k3⟩ := HLB.out _ _ hr8 hr9; rw [hg] at k2 k3; rw [← HTK.out] at k2) | (go_at_call 98; refine Calls.mono (c_Floor2 k1 _) ?_; rintro e w8 ⟨rfl, rfl⟩))
        
        exact ⟨⟨k + 1, by omega, by go_num, (by repeat (first | exact HBX.out | (refine set_other ?_ (by dsimp only; omega)))), (by repeat (first | exact HZX.out | (refine set_other ?_ (by dsimp only; omega)))), HNX.out.ext (Nat.le_of_lt hs2) (by repeat (first | assumption | exact Ext.refl _ | apply Ext.drewN | apply Ext.drew | apply Ext.alloc | (refine Ext.trans ?_ (by assumption)) | (refine Ext.set ?_ (by dsimp only; omega) _))), (by repeat (first | assumption | exact Ext.refl _ | apply Ext.drewN | apply Ext.drew | apply Ext.alloc | (refine Ext.trans ?_ (by assumption)) | (refine Ext.set ?_ (by dsimp only; omega) _)))⟩, by simp [intOf]; omega⟩
      case true =>
        go_wp2_with (first | (go_at_call 99; refine Calls.mono (c_l04Curve fs ht3 fv _) ?_; rintro e w7 ⟨r7, rfl, hr7, n7, rfl⟩) | (apply upon_fop rfl; (exact hr7); (exact fl_half32); intro r8 n8 hr8; rw [HX3.out] at hr8) | (apply upon_wide s_f32 Try.underlying41; (exact hr8); intro r9 n9 hr9; obtain ⟨k1, k2, k3⟩ := HLB.out _ _ hr8 hr9; rw [hg] at k2 k3; rw [← HTK.out] at k2; obtain ⟨k4, k5, k6⟩ := k3 rfl; have hcv := fun W => run_convert_float_int (P := Try.prog) W 41 3 .f64 .i64 (floorw r9) (flo X3) s_f64 Try.underlying3 k5) | (go_at_call 98; refine Calls.mono (c_Floor2 k1 _) ?_; rintro e w8 ⟨rfl, rfl⟩))
        obtain ⟨off8, A4, c4, o4, q4, hA8, z1, rfl, z3, z4, z5, z6⟩ := HOQ.out.num (i := k) (k := flo X3) hlt (by rw [HROW.out]; exact k4)
        obtain rfl : off = off8 := by simpa using hA8
        rw [HROW.out] at z1
        rw [gst_zero hRl (by rw [HLK.out]; exact k4)] at z4
        have HF : Hid (mu k (flo X3) = fop .add .f32 ((G.r.getD k []).getD (flo X3) none) Z) := Lib.hid (by rw [HMU.out]; unfold evF; rw [HEV.out, HTK2.out, hg, decide_eq_true rfl]; rfl)
        have HPUT := Lib.hid z6
        have hK : (flo X3 : Int) < (tk : Int) := by omega
        have HONE := Lib.hid (gst_one (F := mu) (G := G) (i := k) hRl (K := flo X3) (by rw [HLK.out]; exact k4) (fun t _ ht => by rw [HMU.out]; unfold evF; rw [HEV.out, HTK2.out, decide_eq_false ht, Bool.and_false]; rfl))
        clear z6 k5 k6 k3
        refine wp_region_loose 19 (by kernel_rfl) (by kernel_rfl) ?_
        simp only [List.take_succ_cons, List.take_zero, List.drop_succ_cons, List.drop_zero]
        refine la_start ?_
        refine la_fix _ (by rfl) (by intros; go_simp; rfl) ?_
        try simp only [Act.put, List.setIfInBounds_toArray, List.set_cons_zero, List.set_cons_succ]
        refine la_fix _ (by rfl) (by intros; go_simp; rfl) ?_
        try simp only [Act.put, List.setIfInBounds_toArray, List.set_cons_zero, List.set_cons_succ]
        refine la_fix _ (by rfl) (by intros; go_simp; rfl) ?_
        try simp only [Act.put, List.setIfInBounds_toArray, List.set_cons_zero, List.set_cons_succ]
        refine la_fix _ (by rfl) (by intros; go_simp; rfl) ?_
        try simp only [Act.put, List.setIfInBounds_toArray, List.set_cons_zero, List.set_cons_succ]
        refine la_fix _ (by rfl) (by intros; go_simp; rfl) ?_
        try simp only [Act.put, List.setIfInBounds_toArray, List.set_cons_zero, List.set_cons_succ]
        refine la_fix _ (by rfl) (by intros; go_simp; rfl) ?_
        try simp only [Act.put, List.setIfInBounds_toArray, List.set_cons_zero, List.set_cons_succ]
        refine la_fix _ (by rfl) (by intros; go_simp; rfl) ?_
        try simp only [Act.put, List.setIfInBounds_toArray, List.set_cons_zero, List.set_cons_succ]
        refine la_fix _ (by rfl) (by intros; go_simp; rfl) ?_
        try simp only [Act.put, List.setIfInBounds_toArray, List.set_cons_zero, List.set_cons_succ]
        refine la_fix _ (by rfl) (by intros; go_simp; rfl) ?_
        try simp only [Act.put, List.setIfInBounds_toArray, List.set_cons_zero, List.set_cons_succ]
        refine la_fix _ (by rfl) (by intros; go_simp; rfl) ?_
        try simp only [Act.put, List.setIfInBounds_toArray, List.set_cons_zero, List.set_cons_succ]
        refine la_fix _ (by rfl) (by intros; go_simp; rfl) ?_
        try simp only [Act.put, List.setIfInBounds_toArray, List.set_cons_zero, List.set_cons_succ]
        refine la_fix _ (by rfl) (by intros; go_simp; rfl) ?_
        try simp only [Act.put, List.setIfInBounds_toArray, List.set_cons_zero, List.set_cons_succ]
        refine la_fix _ (by rfl) (by intros; go_simp; rfl) ?_
        try simp only [Act.put, List.setIfInBounds_toArray, List.set_cons_zero, List.set_cons_succ]
        refine la_fix _ (by rfl) (by intros; go_simp; rfl) ?_
        try simp only [Act.put, List.setIfInBounds_toArray, List.set_cons_zero, List.set_cons_succ]
        refine la_fix _ (by rfl) (by intros; go_simp; rfl) ?_
        try simp only [Act.put, List.setIfInBounds_toArray, List.set_cons_zero, List.set_cons_succ]
        refine la_fix _ (by rfl) (by intros; go_simp; rfl) ?_
        try simp only [Act.put, List.setIfInBounds_toArray, List.set_cons_zero, List.set_cons_succ]
        refine la_fix _ (by rfl) (by intros; go_simp; rfl) ?_
        try simp only [Act.put, List.setIfInBounds_toArray, List.set_cons_zero, List.set_cons_succ]
        refine la_fop (op := .add) (by rfl) (by rfl) (by intros; refine ⟨_, _, ?_, ?_, fun q => (by go_simp; rfl)⟩ <;> (first | assumption | exact fl_fu | exact fl_fz)) ?_
        try simp only [Act.put, List.setIfInBounds_toArray, List.set_cons_zero, List.set_cons_succ]
        refine la_fix _ (by rfl) (by intros; go_simp; rfl) ?_
        try simp only [Act.put, List.setIfInBounds_toArray, List.set_cons_zero, List.set_cons_succ]
        refine la_end ?_
        intro r5 hr5 q5
        rw [← HF.out] at hr5
        go_wp2_with (fail)
        exact ⟨⟨k + 1, by omega, by go_num, (by repeat (first | exact HBX.out | (refine set_other ?_ (by dsimp only; omega)))), (by repeat (first | exact HZX.out | (refine set_other ?_ (by dsimp only; omega)))), (by rw [← HONE.out]; exact (HPUT.out r5 _ hr5).same (fun g _ _ => rfl)), (by repeat (first | assumption | exact Ext.refl _ | apply Ext.drewN | apply Ext.drew | apply Ext.alloc | (refine Ext.trans ?_ (by assumption)) | (refine Ext.set ?_ (by dsimp only; omega) _)))⟩, by simp [intOf]; omega⟩
    · obtain rfl : k = m := by omega
      have p1r := (HBX1.out.ext hx).p1
      obtain ⟨d0, d1, d2, y0, y1, y2⟩ := three_c hbX
      obtain ⟨c0', c1', c2', x0', x1', x2'⟩ := three_c hzX
      have hG : OwG wr (w.heap.size + 1 + 1) w2.heap.size (.agg #[.int .i64 G.t, .slice Ap2 k cp2, .slice (some ⟨g, off, none⟩) k ct2]) (genG mu G) := by
        have h1 := hop.toG (t := G.t)
        unfold genG
        rw [HRL.out]
        exact h1
      have HG := Lib.hid hG
      have hmt : (genG mu G).p.length = k ∧ (genG mu G).r.length = k := ⟨HPL.out, gstS_len.trans HRL.out⟩
      have HBZ := Lib.hid (fun u0 u1 u2 => blk_set1 (blk_set1 (blk_set1 hzX 0 u0) 1 u1) 2 u2)
      clear hG hbX hzX hop
      go_wp2_with (fail)
      (try simp only [Exit.inBlock, Exit.then])
      refine bodyPost_ret (results_cell2 rfl _ _ (w.heap.size + 1) 54 #[.int .i64 G.t, .slice Ap2 k cp2, .slice (some ⟨g, off, none⟩) k ct2] (0, 0) _ rfl (HBZ.out _ _ _) Try.underlying54 rfl (by kernel_rfl)) rfl ?_
      exact ⟨_, rfl, by
        refine OwG.more (lo := w.heap.size + 1 + 1) (hi := w2.heap.size) ?_ (by omega) (by simp; omega)
        repeat (first | exact HG.out | (refine OwG.setOther ?_ (by left; dsimp only; omega) _)), (by repeat (first | assumption | exact Ext.refl _ | apply Ext.drewN | apply Ext.drew | apply Ext.alloc | (refine Ext.trans ?_ (by assumption)) | (refine Ext.set ?_ (by dsimp only; omega) _)))⟩
set_option linter.unusedSimpArgs false in
set_option maxRecDepth 20000 in
set_option maxHeartbeats 40000000 in
theorem c_impl_AddEvent {w : World} {B : Nat} {v : Value} {G : Gat} (h : RdG w B v G) (hB : B ≤ w.heap.size) (h1 : G.p.length ≤ 1048576) (h2 : G.r.length ≤ 1048576) (h3 : ∀ j, j < G.r.length → (G.r.getD j []).length ≤ 1048576) {s : Nat} {S : Option Nat} (fs : Fl .f32 s S) {q : Nat} {V : Option Nat} (fv : Fl .f32 q V) {z : Nat} {Z : Option Nat} (fzz : Fl .f32 z Z) :
    Calls Try.prog 43 #[v, .float .f32 s, .float .f32 q, .float .f32 z] w fun e w' => RetG w e w' (okEv G S V) (genG (evF G S V Z) G) := by
  unfold okEv
  obtain ⟨Ap, cp, At, ct, rfl, hp, hr, hcp, hct⟩ := h.ex
  obtain ⟨W1, hW1⟩ : ∃ W1, W1 = (w.alloc (.cells #[.int .i64 G.t, .slice Ap G.p.length cp, .slice At G.r.length ct] 54)).alloc (.cells #[.int .i64 0, .slice none 0 0, .slice none 0 0] 54) := ⟨_, rfl⟩
  have hbx : GbAt W1 w.heap.size G.t Ap G.p.length cp At G.r.length ct := by rw [hW1]; exact (GbAt.blk (T := 54) (by repeat (first | (refine al_at ?_ ?_ <;> first | rfl | (simp only [al_size] <;> omega)) | apply al_old))).ext (Ext.alloc (Ext.refl _) _)
  have hx1 : Ext w W1 := by rw [hW1]; exact (by repeat (first | assumption | exact Ext.refl _ | apply Ext.drewN | apply Ext.drew | apply Ext.alloc | (refine Ext.trans ?_ (by assumption)) | (refine Ext.set ?_ (by dsimp only; omega) _)))
  have hz1 : W1.heap[w.heap.size + 1]? = some (.cells #[.int .i64 0, .slice none 0 0, .slice none 0 0] 54 (0, 0)) := by rw [hW1]; exact al_at (al_size _ _).symm rfl
  have hs1 : W1.heap.size = w.heap.size + 1 + 1 := by rw [hW1, al_size, al_size]
  have HIS := Lib.hid (c_impl_ValidGather (h.below (hx1.mono hB)) (Nat.le_trans hB hx1.size) h1 h2 h3)
  obtain ⟨p0, p1, p2, _⟩ := id hbx
  cases hV : fvG G
  case false =>
    rw [hV] at HIS
    go_enter Try.func43, Try.ntmps43
    go_wp2_with (fail)
    rw [← hW1]
    clear hW1
    go_wp2_with (first | (go_at_call 89; refine Calls.mono HIS.out ?_; rintro e w1 ⟨rfl, hxv⟩; have hbv := hbx.ext hxv; obtain ⟨p0, p1, p2, _⟩ := id hbv; have hzv := hxv.blk hz1; obtain ⟨c0, c1, c2, x0, x1, x2⟩ := three_c hzv))
    (try simp only [Exit.inBlock, Exit.then])
    refine bodyPost_ret (results_cell2 rfl _ _ (w.heap.size + 1) 54 #[.int .i64 0, .slice none 0 0, .slice none 0 0] (0, 0) _ rfl (by repeat (first | exact hzv | exact blk_set1 (blk_set1 (blk_set1 hzv 0 _) 1 _) 2 _)) Try.underlying54 rfl (by kernel_rfl)) rfl ?_
    exact retG_no rfl (by repeat (first | assumption | exact Ext.refl _ | apply Ext.drewN | apply Ext.drew | apply Ext.alloc | (refine Ext.trans ?_ (by assumption)) | (refine Ext.set ?_ (by dsimp only; omega) _)))
  rw [hV] at HIS
  have hVG := fvG_of hV
  rw [Bool.true_and]
  cases hA : fway S
  case false =>
    go_enter Try.func43, Try.ntmps43
    go_wp2_with (fail)
    rw [← hW1]
    clear hW1
    go_wp2_with (first | (go_at_call 89; refine Calls.mono HIS.out ?_; rintro e w1 ⟨rfl, hxv⟩; have hbv := hbx.ext hxv; obtain ⟨p0, p1, p2, _⟩ := id hbv; have hzv := hxv.blk hz1; obtain ⟨c0, c1, c2, x0, x1, x2⟩ := three_c hzv) | (go_at_call 100; refine Calls.mono (c_isDistance fs _) ?_; rw [hA]; rintro e w3 ⟨rfl, n2, rfl⟩))
    (try simp only [Exit.inBlock, Exit.then])
    refine bodyPost_ret (results_cell2 rfl _ _ (w.heap.size + 1) 54 #[.int .i64 0, .slice none 0 0, .slice none 0 0] (0, 0) _ rfl (by repeat (first | exact hzv | exact blk_set1 (blk_set1 (blk_set1 hzv 0 _) 1 _) 2 _)) Try.underlying54 rfl (by kernel_rfl)) rfl ?_
    exact retG_no rfl (by repeat (first | assumption | exact Ext.refl _ | apply Ext.drewN | apply Ext.drew | apply Ext.alloc | (refine Ext.trans ?_ (by assumption)) | (refine Ext.set ?_ (by dsimp only; omega) _)))
  rw [Bool.true_and]
  cases hC : fabove V
  case false =>
    go_enter Try.func43, Try.ntmps43
    go_wp2_with (fail)
    rw [← hW1]
    clear hW1
    go_wp2_with (first | (go_at_call 89; refine Calls.mono HIS.out ?_; rintro e w1 ⟨rfl, hxv⟩; have hbv := hbx.ext hxv; obtain ⟨p0, p1, p2, _⟩ := id hbv; have hzv := hxv.blk hz1; obtain ⟨c0, c1, c2, x0, x1, x2⟩ := three_c hzv) | (go_at_call 100; refine Calls.mono (c_isDistance fs _) ?_; rw [hA]; rintro e w3 ⟨rfl, n2, rfl⟩) | (go_at_call 93; refine Calls.mono (c_isPositive fv) ?_; rw [hC]; rintro e w4 ⟨rfl, n3, rfl⟩))
    (try simp only [Exit.inBlock, Exit.then])
    refine bodyPost_ret (results_cell2 rfl _ _ (w.heap.size + 1) 54 #[.int .i64 0, .slice none 0 0, .slice none 0 0] (0, 0) _ rfl (by repeat (first | exact hzv | exact blk_set1 (blk_set1 (blk_set1 hzv 0 _) 1 _) 2 _)) Try.underlying54 rfl (by kernel_rfl)) rfl ?_
    exact retG_no rfl (by repeat (first | assumption | exact Ext.refl _ | apply Ext.drewN | apply Ext.drew | apply Ext.alloc | (refine Ext.trans ?_ (by assumption)) | (refine Ext.set ?_ (by dsimp only; omega) _)))
  have hpl := hp.len
  have hrl := hr.len
  have hn1 := hVG.n1
  have hmn := hVG.m
  have hrw : ∀ j, j < G.r.length → 1 ≤ (G.r.getD j []).length ∧ (G.r.getD j []).length ≤ 64 := fun j hj => by
    have h4 := hVG.row j hj
    have h5 := hVG.t1
    have h6 := hVG.t2
    omega
  obtain ⟨tk, htk⟩ : ∃ tk : Nat, G.t = (tk : Int) := ⟨G.t.toNat, by have h5 := hVG.t1; omega⟩
  have htk2 : G.t.toNat = tk := by omega
  have htr : ∀ j, j < G.r.length → (G.r.getD j []).length = tk := fun j hj => by have h4 := hVG.row j hj; omega
  have htk3 : tk < 16777216 := by have h6 := hVG.t2; omega
  have hfp : ∀ j, j < G.p.length → ffin .f32 (G.p.getD j none) = true := fun j hj => allL_at hj hVG.fin
  have hSf : Nq S := nq_fin fs (by unfold fway at hA; rw [Bool.and_eq_true] at hA; exact hA.1)
  have HCO := Lib.hid (fun (W : World) (hW : Ext W1 W) => c_copyGather (w := W) (cp := cp) (ct := ct) (hp.below ((hx1.trans hW).mono hB)) (hr.below ((hx1.trans hW).mono hB)) (Nat.le_trans hB (hx1.trans hW).size) h1 h2 h3 (by omega) (by omega) (fun j hj => (hrw j hj).1))
  obtain ⟨m, hm⟩ : ∃ m, G.p.length = m := ⟨_, rfl⟩
  rw [hmn, hm] at hrw htr
  rw [hm] at hn1 hp hbx h1 hcp hfp p1 HIS HCO
  rw [hmn, hm] at hr hbx h2 hct p2 HIS HCO
  have hRL : G.r.length = m := hmn.trans hm
  have HRW := Lib.hid hrw
  have HTR := Lib.hid htr
  have HPL := Lib.hid hm
  have HRL := Lib.hid hRL
  have HP := Lib.hid hp
  have HBX1 := Lib.hid hbx
  have HFP := Lib.hid hfp
  have HSF := Lib.hid hSf
  have HTK := Lib.hid htk
  have HTK2 := Lib.hid htk2
  have hn2 : m ≤ 16 := by rw [← hm]; exact hVG.n2
  rw [hm, hRL] at hW1
  rw [hm, hRL]
  obtain ⟨mu, hmu⟩ : ∃ mu, mu = evF G S V Z := ⟨_, rfl⟩
  rw [← hmu]
  have HMU := Lib.hid hmu
  clear hVG hmn hpl hrl hrw hp hr h3 h hm hRL hfp hmu htr hSf htk htk2
  go_enter Try.func43, Try.ntmps43
  go_wp2_with (fail)
  rw [← hW1]
  clear hW1
  go_wp2_with (first | (go_at_call 89; refine Calls.mono HIS.out ?_; rintro e w1 ⟨rfl, hxv⟩; have hbv := hbx.ext hxv; obtain ⟨p0, p1, p2, _⟩ := id hbv; have hzv := hxv.blk hz1; obtain ⟨c0, c1, c2, x0, x1, x2⟩ := three_c hzv) | (go_at_call 100; refine Calls.mono (c_isDistance fs _) ?_; rw [hA]; rintro e w3 ⟨rfl, n2, rfl⟩) | (go_at_call 93; refine Calls.mono (c_isPositive fv) ?_; rw [hC]; rintro e w4 ⟨rfl, n3, rfl⟩) | (go_at_call 90; refine Calls.mono (HCO.out _ (by repeat (first | assumption | exact Ext.refl _ | apply Ext.drewN | apply Ext.drew | apply Ext.alloc | (refine Ext.trans ?_ (by assumption)) | (refine Ext.set ?_ (by dsimp only; omega) _)))) ?_; rintro e w2 ⟨x, rfl, ho, hx2⟩; obtain ⟨Ap2, cp2, At2, ct2, gp, g, f, hv, hop⟩ := ho.inP; rw [HPL.out, HRL.out] at hv hop; subst hv; have hx12 : Ext W1 w2 := (by repeat (first | assumption | exact Ext.refl _ | apply Ext.drewN | apply Ext.drew | apply Ext.alloc | (refine Ext.trans ?_ (by assumption)) | (refine Ext.set ?_ (by dsimp only; omega) _))); have hb2 := HBX1.out.ext hx12; obtain ⟨b0, b1', b2', _⟩ := id hb2))
  have hx02 : Ext w w2 := hx1.trans hx12
  have hzb := hx12.blk hz1
  have hz2 := hx12.size
  have hz3 := hx2.size
  simp only [size_drewN] at hz3 hop
  have hz4 := hxv.size
  have hgb := hop.g_in.resolve_left (by omega)
  obtain ⟨off, _, _, hAt2, _⟩ := hop.row (i := 0) hn1
  subst hAt2
  have HOP := Lib.hid (hop.more (lo' := w.heap.size + 1 + 1) (by omega) (Nat.le_refl _))
  have HZB := Lib.hid hzb
  clear hop hzb ho b0 b1' b2' p0 p1 p2
  go_loopw [33] (fun y wr => ∃ k : Nat, k ≤ m ∧ y = .int .i64 k ∧ wr.heap[w2.heap.size]? = some (.cells #[.int .i64 G.t, .slice Ap2 m cp2, .slice (some ⟨g, off, none⟩) m ct2] 54 (0, 0)) ∧ wr.heap[w.heap.size + 1]? = some (.cells #[.int .i64 0, .slice none 0 0, .slice none 0 0] 54 (0, 0)) ∧ OwP wr (w.heap.size + 1 + 1) w2.heap.size Ap2 m cp2 (some ⟨g, off, none⟩) m ct2 gp g f G.p (gstS mu G k 0) ∧ Ext W1 wr) (fun y _ => m - (intOf y).toNat)
  case atStart => exact ⟨0, Nat.zero_le _, rfl, (by first | exact heap_alloc_new w2 _ | exact blk_set1 (blk_set1 (blk_set1 (heap_alloc_new w2 _) 0 _) 1 _) 2 _), (by repeat (first | exact HZB.out | apply al_old | (refine set_other ?_ (by dsimp only; omega)))), by rw [gst_start]; exact HOP.out.ext (Nat.le_refl _) (by repeat (first | assumption | exact Ext.refl _ | apply Ext.drewN | apply Ext.drew | apply Ext.alloc | (refine Ext.trans ?_ (by assumption)) | (refine Ext.set ?_ (by dsimp only; omega) _))), (by repeat (first | assumption | exact Ext.refl _ | apply Ext.drewN | apply Ext.drew | apply Ext.alloc | (refine Ext.trans ?_ (by assumption)) | (refine Ext.set ?_ (by dsimp only; omega) _)))⟩
  case round =>
    obtain ⟨k, hk, rfl, hbX, hzX, hop, hx⟩ := hrel
    have HBX := Lib.hid hbX
    have HZX := Lib.hid hzX
    have HOQ := Lib.hid hop
    have hs2 := blk_lt hbX
    have hx0r : Ext w wr := hx1.trans hx
    by_cases hlt : k < m
    · have hlt' : (k : Int) < (m : Int) := by omega
      have hRl : k < G.r.length := by rw [HRL.out]; exact hlt
      obtain ⟨b3, o3, t3, rfl, hb3, hc3w, ht3⟩ := (HP.out.below (hx1.mono hB)).cell hlt
      have hb3w : b3 < W1.heap.size := Nat.lt_of_lt_of_le hb3 (Nat.le_trans hB hx1.size)
      have hc3 := (hx.cell (p := ⟨b3, o3 + k, none⟩) hb3w).trans hc3w
      obtain ⟨g1, g2⟩ := HRW.out k hlt
      have hLk := HTR.out k hlt
      have hrowk : ((gstS mu G k 0).getD k []).length = tk := by rw [gstS_row hRl, hLk]
      have HROW := Lib.hid hrowk
      have HLK := Lib.hid hLk
      have hfi := hop.f_in k hlt
      have hbr := HBX1.out.ext hx
      have p0r := hbr.p0
      have p1r := hbr.p1
      obtain ⟨P3, hP3⟩ : ∃ P3, G.p.getD k none = P3 := ⟨_, rfl⟩
      have hP3f := HFP.out k hlt
      rw [hP3] at ht3 hP3f
      have hnk : Nk .f32 (fop .add .f32 (fcurve S P3 V) (fl .f32 1056964608)) := nk_add (nk_curve HSF.out (nq_fin ht3 hP3f) fv hC) nk_half
      have HEV : Hid (evT G S V k = fop .add .f32 (fcurve S P3 V) (fl .f32 1056964608)) := Lib.hid (by unfold evT; rw [hP3])
      have HP3 := Lib.hid hP3
      obtain ⟨d0, d1, d2, y0, y1, y2⟩ := three_c hbX
      clear hbX hzX hop hrowk hLk hP3 hbr
      obtain ⟨X3, hX3⟩ : ∃ X3, fop .add .f32 (fcurve S P3 V) (fl .f32 1056964608) = X3 := ⟨_, rfl⟩
      rw [hX3] at hnk HEV
      have HX3 := Lib.hid hX3
      have HNK := Lib.hid hnk
      clear hX3 hnk
      have HLB := Lib.hid (fun (t x : Nat) (h : Fl .f32 t X3) (hx : Fl .f64 x (fconv .f32 .f64 X3)) => floor_below h hx HNK.out htk3)
      cases hg : flt32 X3 (some (mk tk))
      case false =>
        have hsame : gstS mu G k 0 = gstS mu G (k + 1) 0 := gst_same (fun t _ => by rw [HMU.out]; unfold evF; rw [HEV.out, HTK2.out, hg]; rfl)
        have HNX : Hid (OwP wr (w.heap.size + 1 + 1) w2.heap.size Ap2 m cp2 (some ⟨g, off, none⟩) m ct2 gp g f G.p (gstS mu G (k + 1) 0)) := Lib.hid (by rw [← hsame]; exact HOQ.out)
        clear hsame
        go_wp2_with (first | (go_at_call 101; refine Calls.mono (c_curveOf ht3 fv) ?_; rintro e w7 ⟨g7, q7, rfl, hg7, hl7, hc7, hq7, hx7⟩; have hbr7 := HBX1.out.ext (hx.trans hx7); have p0s := hbr7.p0; obtain ⟨d0, d1, d2, y0, y1, y2⟩ := three_c (hx7.blk HBX.out)) | (go_at_call 145; refine Calls.mono (c_curve1 hc7 hq7 fs) ?_; rintro e w8 ⟨r7, rfl, hr7, n7, rfl⟩) | (apply upon_fop rfl; (exact hr7); (exact fl_half32); intro r8 n8 hr8; rw [show fop .add .f32 (fsq2 S (fop .quo .f32 P3 V)) (fl .f32 1056964608) = X3 from HX3.out] at hr8; have k2 := hr8.olt (fl_mk tk); rw [hg, ← mk_int, ← HTK.out] at k2))
        have hs7 := hx7.size
        exact ⟨⟨k + 1, by omega, by go_num, hx7.blk HBX.out, hx7.blk HZX.out, HNX.out.ext (Nat.le_of_lt hs2) (Ext.trans hx7 (by repeat (first | assumption | exact Ext.refl _ | apply Ext.drewN | apply Ext.drew | apply Ext.alloc | (refine Ext.trans ?_ (by assumption)) | (refine Ext.set ?_ (by dsimp only; omega) _)))), Ext.trans (hx.trans hx7) (by repeat (first | assumption | exact Ext.refl _ | apply Ext.drewN | apply Ext.drew | apply Ext.alloc | (refine Ext.trans ?_ (by assumption)) | (refine Ext.set ?_ (by dsimp only; omega) _)))⟩, by simp [intOf]; omega⟩
      case true =>
        have HF : Hid (mu k (flo X3) = fop .add .f32 ((G.r.getD k []).getD (flo X3) none) Z) := Lib.hid (by rw [HMU.out]; unfold evF; rw [HEV.out, HTK2.out, hg, decide_eq_true rfl]; rfl)
        have HONE := Lib.hid (fun (h : flo X3 < tk) => gst_one (F := mu) (G := G) (i := k) hRl (K := flo X3) (by rw [HLK.out]; exact h) (fun t _ ht => by rw [HMU.out]; unfold evF; rw [HEV.out, HTK2.out, decide_eq_false ht, Bool.and_false]; rfl))
        go_wp2_with (first | (go_at_call 101; refine Calls.mono (c_curveOf ht3 fv) ?_; rintro e w7 ⟨g7, q7, rfl, hg7, hl7, hc7, hq7, hx7⟩; have hbr7 := HBX1.out.ext (hx.trans hx7); have p0s := hbr7.p0; obtain ⟨d0, d1, d2, y0, y1, y2⟩ := three_c (hx7.blk HBX.out); have HO7 := Lib.hid (HOQ.out.ext (Nat.le_of_lt hs2) hx7)) | (go_at_call 145; refine Calls.mono (c_curve1 hc7 hq7 fs) ?_; rintro e w8 ⟨r7, rfl, hr7, n7, rfl⟩) | (apply upon_fop rfl; (exact hr7); (exact fl_half32); intro r8 n8 hr8; rw [show fop .add .f32 (fsq2 S (fop .quo .f32 P3 V)) (fl .f32 1056964608) = X3 from HX3.out] at hr8; have k2 := hr8.olt (fl_mk tk); rw [hg, ← mk_int, ← HTK.out] at k2; obtain ⟨k4, k5⟩ := below32 hr8 HNK.out htk3 hg; have hcv := fun W => run_convert_float_int (P := Try.prog) W 22 3 .f32 .i64 r8 (flo X3) s_f32 Try.underlying3 k5; have hK : (flo X3 : Int) < (tk : Int) := (by omega); obtain ⟨off8, A4, c4, o4, q4, hA8, z1, rfl, z3, z4, z5, z6⟩ := HO7.out.num (i := k) (k := flo X3) hlt (by rw [HROW.out]; exact k4); obtain rfl : off = off8 := (by simpa using hA8); rw [HROW.out] at z1; rw [gst_zero hRl (by rw [HLK.out]; exact k4)] at z4; have HPUT := Lib.hid z6; clear z6 k5) | (apply upon_fop rfl; (exact z4); (exact fzz); intro r5 n5 hr5; rw [← HF.out] at hr5))
        have hs7 := hx7.size
        have HB7 := Lib.hid (hx7.blk (g := w2.heap.size) HBX.out)
        have HZ7 := Lib.hid (hx7.blk (g := w.heap.size + 1) HZX.out)
        have hx17 : Ext W1 w7 := hx.trans hx7
        exact ⟨⟨k + 1, by omega, by go_num, (by repeat (first | exact HB7.out | (refine set_other ?_ (by dsimp only; omega)))), (by repeat (first | exact HZ7.out | (refine set_other ?_ (by dsimp only; omega)))), (by rw [← HONE.out k4]; exact (HPUT.out r5 _ hr5).same (fun g _ _ => rfl)), (by repeat (first | assumption | exact Ext.refl _ | apply Ext.drewN | apply Ext.drew | apply Ext.alloc | (refine Ext.trans ?_ (by assumption)) | (refine Ext.set ?_ (by dsimp only; omega) _)))⟩, by simp [intOf]; omega⟩
    · obtain rfl : k = m := by omega
      have p1r := (HBX1.out.ext hx).p1
      obtain ⟨d0, d1, d2, y0, y1, y2⟩ := three_c hbX
      obtain ⟨c0', c1', c2', x0', x1', x2'⟩ := three_c hzX
      have hG : OwG wr (w.heap.size + 1 + 1) w2.heap.size (.agg #[.int .i64 G.t, .slice Ap2 k cp2, .slice (some ⟨g, off, none⟩) k ct2]) (genG mu G) := by
        have h1 := hop.toG (t := G.t)
        unfold genG
        rw [HRL.out]
        exact h1
      have HG := Lib.hid hG
      have hmt : (genG mu G).p.length = k ∧ (genG mu G).r.length = k := ⟨HPL.out, gstS_len.trans HRL.out⟩
      have HBZ := Lib.hid (fun u0 u1 u2 => blk_set1 (blk_set1 (blk_set1 hzX 0 u0) 1 u1) 2 u2)
      clear hG hbX hzX hop
      go_wp2_with (fail)
      (try simp only [Exit.inBlock, Exit.then])
      refine bodyPost_ret (results_cell2 rfl _ _ (w.heap.size + 1) 54 #[.int .i64 G.t, .slice Ap2 k cp2, .slice (some ⟨g, off, none⟩) k ct2] (0, 0) _ rfl (HBZ.out _ _ _) Try.underlying54 rfl (by kernel_rfl)) rfl ?_
      exact ⟨_, rfl, by
        refine OwG.more (lo := w.heap.size + 1 + 1) (hi := w2.heap.size) ?_ (by omega) (by simp; omega)
        repeat (first | exact HG.out | (refine OwG.setOther ?_ (by left; dsimp only; omega) _)), (by repeat (first | assumption | exact Ext.refl _ | apply Ext.drewN | apply Ext.drew | apply Ext.alloc | (refine Ext.trans ?_ (by assumption)) | (refine Ext.set ?_ (by dsimp only; omega) _)))⟩
end Go.Proofs.Ytddemhlhlbpecaa
