/- Contracts: a gather whose traces have the same size, on both sides. Condition: the gather is read. -/
import Derived.Test.YtkbkjkjjoogieaaNg
import Derived.Test.YtkbkjkjjoogieaaAd
namespace Go.Proofs.Ytkbkjkjjoogieaa
open Go.RowKit Ieee
set_option linter.unusedVariables false

section
variable {F : Nat → Nat → Option Nat} {G : Gat} {i : Nat}
theorem gst_row0 (hi : i < G.r.length) : (gstS F G i 0).getD i [] = G.r.getD i [] := ext_getD (d := none) (gstS_row hi) (fun t ht => gst_zero hi (by rwa [gstS_row hi] at ht))
theorem gst_cur (hi : i < G.r.length) {K : Nat} (hK : K < (G.r.getD i []).length) : ((gstS F G i K).getD i []).getD K none = (G.r.getD i []).getD K none := by
  rw [gstS_at hi, gst_at hK, if_neg (by simp)]
end
set_option linter.unusedSimpArgs false in
set_option maxRecDepth 20000 in
set_option maxHeartbeats 40000000 in
theorem c_spec_NormGather {w : World} {B : Nat} {v : Value} {G : Gat} (h : RdG w B v G) (hB : B ≤ w.heap.size) (h1 : G.p.length ≤ 1048576) (h2 : G.r.length ≤ 1048576) (h3 : ∀ j, j < G.r.length → (G.r.getD j []).length ≤ 1048576) :
    Calls Try.prog 55 #[v] w fun e w' => RetG w e w' (fvG G) (genG (nmF G) G) := by
  obtain ⟨Ap, cp, At, ct, rfl, hp, hr, hcp, hct⟩ := h.ex
  obtain ⟨W1, hW1⟩ : ∃ W1, W1 = (w.alloc (.cells #[.int .i64 G.t, .slice Ap G.p.length cp, .slice At G.r.length ct] 68)).alloc (.cells #[.int .i64 0, .slice none 0 0, .slice none 0 0] 68) := ⟨_, rfl⟩
  have hbx : GbAt W1 w.heap.size G.t Ap G.p.length cp At G.r.length ct := by rw [hW1]; exact (GbAt.blk (T := 68) (by repeat (first | (refine al_at ?_ ?_ <;> first | rfl | (simp only [al_size] <;> omega)) | apply al_old))).ext (Ext.alloc (Ext.refl _) _)
  have hx1 : Ext w W1 := by rw [hW1]; exact (by repeat (first | assumption | exact Ext.refl _ | apply Ext.drewN | apply Ext.drew | apply Ext.alloc | (refine Ext.trans ?_ (by assumption)) | (refine Ext.set ?_ (by dsimp only; omega) _)))
  have hz1 : W1.heap[w.heap.size + 1]? = some (.cells #[.int .i64 0, .slice none 0 0, .slice none 0 0] 68 (0, 0)) := by rw [hW1]; exact al_at (al_size _ _).symm rfl
  have hs1 : W1.heap.size = w.heap.size + 1 + 1 := by rw [hW1, al_size, al_size]
  have HIS := Lib.hid (c_l04Is hbx (hp.below (hx1.mono hB)) (hr.below (hx1.mono hB)) h1 h2 h3)
  cases hV : fvG G
  case false =>
    rw [hV] at HIS
    go_enter Try.func55, Try.ntmps55
    go_wp2_with (fail)
    rw [← hW1]
    obtain ⟨c0, c1, c2, x0, x1, x2⟩ := three_c hz1
    clear hW1
    go_wp2_with (first | (go_at_call 91; refine Calls.mono HIS.out ?_; rintro e w1 ⟨rfl, n1, rfl⟩))
    (try simp only [Exit.inBlock, Exit.then])
    refine bodyPost_ret (results_cell2 rfl _ _ (w.heap.size + 1) 68 #[.int .i64 0, .slice none 0 0, .slice none 0 0] (0, 0) _ rfl (by repeat (first | exact hz1 | exact blk_set1 (blk_set1 (blk_set1 hz1 0 _) 1 _) 2 _)) Try.underlying68 rfl (by kernel_rfl)) rfl ?_
    exact retG_no rfl (by repeat (first | assumption | exact Ext.refl _ | apply Ext.drewN | apply Ext.drew | apply Ext.alloc | (refine Ext.trans ?_ (by assumption)) | (refine Ext.set ?_ (by dsimp only; omega) _)))
  rw [hV] at HIS
  have hVG := fvG_of hV
  have hpl := hp.len
  have hrl := hr.len
  have hn1 := hVG.n1
  have hmn := hVG.m
  have hrw : ∀ j, j < G.r.length → 1 ≤ (G.r.getD j []).length ∧ (G.r.getD j []).length ≤ 64 := fun j hj => by
    have h4 := hVG.row j hj
    have h5 := hVG.t1
    have h6 := hVG.t2
    omega
  obtain ⟨tk, htk⟩ : ∃ tk : Nat, G.t = (tk : Int) := ⟨G.t.toNat, by have h5 := hVG.t1; omega⟩
  have htk2 : G.t.toNat = tk := by omega
  have htr : ∀ j, j < G.r.length → (G.r.getD j []).length = tk := fun j hj => by have h4 := hVG.row j hj; omega
  have htk3 : tk < 16777216 := by have h6 := hVG.t2; omega
  have hfp : ∀ j, j < G.p.length → ffin .f32 (G.p.getD j none) = true := fun j hj => allL_at hj hVG.fin
  have HCO := Lib.hid (fun (W : World) (hW : Ext W1 W) => c_l04Own (w := W) (hbx.ext hW) (hp.below ((hx1.trans hW).mono hB)) (hr.below ((hx1.trans hW).mono hB)) (Nat.le_trans hB (hx1.trans hW).size) h1 h2 h3 (by omega) (by omega) (fun j hj => (hrw j hj).1))
  obtain ⟨m, hm⟩ : ∃ m, G.p.length = m := ⟨_, rfl⟩
  rw [hmn, hm] at hrw htr
  rw [hm] at hn1 hp hbx h1 hcp hfp
  rw [hmn, hm] at hr hbx h2 hct
  have hRL : G.r.length = m := hmn.trans hm
  have HRW := Lib.hid hrw
  have HTR := Lib.hid htr
  have HPL := Lib.hid hm
  have HRL := Lib.hid hRL
  have HP := Lib.hid hp
  have HBX1 := Lib.hid hbx
  have HFP := Lib.hid hfp
  have HTK := Lib.hid htk
  have HTK2 := Lib.hid htk2
  have hn2 : m ≤ 16 := by rw [← hm]; exact hVG.n2
  rw [hm, hRL] at hW1
  rw [hm, hRL]
  obtain ⟨mu, hmu⟩ : ∃ mu, mu = nmF G := ⟨_, rfl⟩
  rw [← hmu]
  have HMU := Lib.hid hmu
  clear hVG hmn hpl hrl hrw hp hr h3 h hm hRL hfp hmu htr htk htk2
  go_enter Try.func55, Try.ntmps55
  go_wp2_with (fail)
  rw [← hW1]
  clear hW1
  go_wp2_with (first | (go_at_call 91; refine Calls.mono HIS.out ?_; rintro e w1 ⟨rfl, n1, rfl⟩) | (go_at_call 92; refine Calls.mono (HCO.out _ (by repeat (first | assumption | exact Ext.refl _ | apply Ext.drewN | apply Ext.drew | apply Ext.alloc | (refine Ext.trans ?_ (by assumption)) | (refine Ext.set ?_ (by dsimp only; omega) _)))) ?_; rintro e w2 ⟨x, rfl, ho, hx2⟩; obtain ⟨Ap2, cp2, At2, ct2, gp, g, f, hv, hop⟩ := ho.inP; rw [HPL.out, HRL.out] at hv hop; subst hv; have hx12 : Ext W1 w2 := (by repeat (first | assumption | exact Ext.refl _ | apply Ext.drewN | apply Ext.drew | apply Ext.alloc | (refine Ext.trans ?_ (by assumption)) | (refine Ext.set ?_ (by dsimp only; omega) _))); have hb2 := HBX1.out.ext hx12; obtain ⟨b0, b1', b2', _⟩ := id hb2))
  have hx02 : Ext w w2 := hx1.trans hx12
  have hzb := hx12.blk hz1
  have hz2 := hx12.size
  have hz3 := hx2.size
  (try simp only [size_drewN] at hz3 hop)
  have hgb := hop.g_in.resolve_left (by omega)
  obtain ⟨off, _, _, hAt2, _⟩ := hop.row (i := 0) hn1
  subst hAt2
  have HOP := Lib.hid (hop.more (lo' := w.heap.size + 1 + 1) (by omega) (Nat.le_refl _))
  have HZB := Lib.hid hzb
  clear hop hzb ho b0 b1' b2'
  go_loopw [5] (fun y wr => ∃ k : Nat, k ≤ m ∧ y = .int .i64 k ∧ wr.heap[w2.heap.size]? = some (.cells #[.int .i64 G.t, .slice Ap2 m cp2, .slice (some ⟨g, off, none⟩) m ct2] 68 (0, 0)) ∧ wr.heap[w.heap.size + 1]? = some (.cells #[.int .i64 0, .slice none 0 0, .slice none 0 0] 68 (0, 0)) ∧ OwP wr (w.heap.size + 1 + 1) w2.heap.size Ap2 m cp2 (some ⟨g, off, none⟩) m ct2 gp g f G.p (gstS mu G k 0) ∧ Ext W1 wr) (fun y _ => m - (intOf y).toNat)
  case atStart => exact ⟨0, Nat.zero_le _, rfl, (by first | exact heap_alloc_new w2 _ | exact blk_set1 (blk_set1 (blk_set1 (heap_alloc_new w2 _) 0 _) 1 _) 2 _), (by repeat (first | exact HZB.out | apply al_old | (refine set_other ?_ (by dsimp only; omega)))), by rw [gst_start]; exact HOP.out.ext (Nat.le_refl _) (by repeat (first | assumption | exact Ext.refl _ | apply Ext.drewN | apply Ext.drew | apply Ext.alloc | (refine Ext.trans ?_ (by assumption)) | (refine Ext.set ?_ (by dsimp only; omega) _))), (by repeat (first | assumption | exact Ext.refl _ | apply Ext.drewN | apply Ext.drew | apply Ext.alloc | (refine Ext.trans ?_ (by assumption)) | (refine Ext.set ?_ (by dsimp only; omega) _)))⟩
  case round =>
    obtain ⟨k, hk, rfl, hbX, hzX, hop, hx⟩ := hrel
    have HBX := Lib.hid hbX
    have HZX := Lib.hid hzX
    have HOQ := Lib.hid hop
    have hs2 := blk_lt hbX
    have hx0r : Ext w wr := hx1.trans hx
    by_cases hlt : k < m
    · have hlt' : (k : Int) < (m : Int) := by omega
      have hRl : k < G.r.length := by rw [HRL.out]; exact hlt
      obtain ⟨g1, g2⟩ := HRW.out k hlt
      have hLk := HTR.out k hlt
      have hrowk : ∀ t, ((gstS mu G k t).getD k []).length = tk := fun t => by rw [gstS_row hRl, hLk]
      rw [hLk] at g1 g2
      have HROW := Lib.hid hrowk
      have HLK := Lib.hid hLk
      have hfi := hop.f_in k hlt
      have htkI : (1 : Int) ≤ (tk : Int) := by omega
      obtain ⟨R, hR⟩ : ∃ R, G.r.getD k [] = R := ⟨_, rfl⟩
      have HR := Lib.hid hR
      obtain ⟨M, hM⟩ : ∃ M, most R tk = M := ⟨_, rfl⟩
      have HM := Lib.hid hM
      have HF : Hid (∀ t, mu k t = if fabove M = true then fop .quo .f32 (R.getD t none) M else R.getD t none) := Lib.hid (fun t => by rw [HMU.out]; unfold nmF; rw [hLk, hR, hM])
      have hread : ∀ t, t < tk → ((gstS mu G k t).getD k []).getD t none = R.getD t none := fun t ht => by rw [gst_cur hRl (by rw [hLk]; exact ht), hR]
      have hread0 : ∀ t, t < tk → ((gstS mu G k 0).getD k []).getD t none = R.getD t none := fun t ht => by rw [gst_zero hRl (by rw [hLk]; exact ht), hR]
      have HREAD := Lib.hid hread
      have HREAD0 := Lib.hid hread0
      obtain ⟨off8, A4, c4, o4, q4, hA8, z1, hA4, _, _, _, _⟩ := hop.num (i := k) (k := 0) hlt (by rw [hrowk]; omega)
      obtain rfl : off = off8 := by simpa using hA8
      rw [hrowk] at z1
      have hfg : f k ≠ g := by obtain ⟨_, _, _, _, _, _, _, _, hfg⟩ := hop.row hlt; exact hfg
      obtain ⟨d0, d1, d2, y0, y1, y2⟩ := three_c hbX
      subst hA4
      have HZ1 := Lib.hid z1
      clear hbX hzX hop hrowk hLk hread hread0 hM hR
      go_wp2_with (fail)
      go_loopw [6, 7] (fun x z wq => ∃ (t r : Nat), t ≤ tk ∧ z = .int .i64 t ∧ x = .float .f32 r ∧ Fl .f32 r (most R t) ∧ wr = wq) (fun _ z _ => tk - (intOf z).toNat)
      case atStart => exact ⟨0, 0, Nat.zero_le _, rfl, rfl, fl_fz, rfl⟩
      case round =>
        obtain ⟨t, r, htL, rfl, rfl, hr, rfl⟩ := hrel
        by_cases htl : t < tk
        · have htl' : (t : Int) < (tk : Int) := by omega
          obtain ⟨off8, A8, c8, o8, q8, hA8, z1', hA8', z3, z4, z5, _⟩ := HOQ.out.num (i := k) (k := t) hlt (by rw [HROW.out]; exact htl)
          obtain rfl : off = off8 := by simpa using hA8
          rw [HROW.out] at z1'
          rw [HREAD0.out t htl] at z4
          subst hA8'
          have hz9 := z1'.symm.trans z1
          obtain ⟨hz8, hz7⟩ : o8 = o4 ∧ c8 = c4 := by simpa using hz9
          subst hz8 hz7
          have hgt := (szw_fl z4).ogt hr
          cases hg : fgt32 (fsz (R.getD t none)) (most R t)
          · rw [hg] at hgt
            have HS := Lib.hid (most_no hg)
            clear hg
            go_wp2_with (go_at_call 93; refine Calls.mono (c_l04SizeX _ _) ?_; rintro e w7 ⟨rfl, rfl⟩)
            exact ⟨⟨t + 1, r, by omega, by go_num, rfl, by rw [HS.out]; exact hr, (by first | exact rfl | trivial)⟩, by simp [intOf]; omega⟩
          · rw [hg] at hgt
            have HS := Lib.hid (most_yes hg)
            clear hg
            go_wp2_with (go_at_call 93; refine Calls.mono (c_l04SizeX _ _) ?_; rintro e w7 ⟨rfl, rfl⟩)
            exact ⟨⟨t + 1, _, by omega, by go_num, rfl, by rw [HS.out]; exact szw_fl z4, (by first | exact rfl | trivial)⟩, by simp [intOf]; omega⟩
        · obtain rfl : tk = t := by omega
          rw [HM.out] at hr
          go_wp2_with (fail)
          cases hA : fabove M
          case false =>
            have hsame : gstS mu G k 0 = gstS mu G (k + 1) 0 := gst_same (fun t _ => by rw [HF.out, hA, if_neg (by decide), HR.out])
            have HNX : Hid (OwP wr (w.heap.size + 1 + 1) w2.heap.size Ap2 m cp2 (some ⟨g, off, none⟩) m ct2 gp g f G.p (gstS mu G (k + 1) 0)) := Lib.hid (by rw [← hsame]; exact HOQ.out)
            clear hsame
            go_loopw [8] (fun z wq => ∃ q : Nat, z = .int .i64 0 ∧ wq = wr.drewN q) (fun z _ => 0)
            case atStart => exact ⟨0, rfl, rfl⟩
            case round =>
              obtain ⟨q, rfl, rfl⟩ := hrel
              have htl' : (0 : Int) < (tk : Int) := by omega
              go_wp2_with (go_at_call 94; refine Calls.mono (c_l02Above hr _) ?_; rw [hA]; rintro e w8 ⟨rfl, n8, rfl⟩)
              exact ⟨⟨k + 1, by omega, by go_num, (by repeat (first | exact HBX.out | (refine set_other ?_ (by dsimp only; omega)))), (by repeat (first | exact HZX.out | (refine set_other ?_ (by dsimp only; omega)))), HNX.out.ext (Nat.le_of_lt hs2) (by repeat (first | assumption | exact Ext.refl _ | apply Ext.drewN | apply Ext.drew | apply Ext.alloc | (refine Ext.trans ?_ (by assumption)) | (refine Ext.set ?_ (by dsimp only; omega) _))), (by repeat (first | assumption | exact Ext.refl _ | apply Ext.drewN | apply Ext.drew | apply Ext.alloc | (refine Ext.trans ?_ (by assumption)) | (refine Ext.set ?_ (by dsimp only; omega) _)))⟩, by simp [intOf]; omega⟩
          case true =>
            go_loopw [8] (fun z wq => ∃ t : Nat, t ≤ tk ∧ z = .int .i64 t ∧ wq.heap[w2.heap.size]? = some (.cells #[.int .i64 G.t, .slice Ap2 m cp2, .slice (some ⟨g, off, none⟩) m ct2] 68 (0, 0)) ∧ wq.heap[w.heap.size + 1]? = some (.cells #[.int .i64 0, .slice none 0 0, .slice none 0 0] 68 (0, 0)) ∧ wq.cell? ⟨g, off + k, none⟩ = some (.slice (some ⟨f k, o4, none⟩) tk c4) ∧ OwP wq (w.heap.size + 1 + 1) w2.heap.size Ap2 m cp2 (some ⟨g, off, none⟩) m ct2 gp g f G.p (gstS mu G k t) ∧ Ext W1 wq) (fun z _ => tk - (intOf z).toNat)
            case atStart => exact ⟨0, Nat.zero_le _, rfl, (by repeat (first | exact HBX.out | (refine set_other ?_ (by dsimp only; omega)))), (by repeat (first | exact HZX.out | (refine set_other ?_ (by dsimp only; omega)))), HZ1.out, HOQ.out.ext (Nat.le_of_lt hs2) (by repeat (first | assumption | exact Ext.refl _ | apply Ext.drewN | apply Ext.drew | apply Ext.alloc | (refine Ext.trans ?_ (by assumption)) | (refine Ext.set ?_ (by dsimp only; omega) _))), (by repeat (first | assumption | exact Ext.refl _ | apply Ext.drewN | apply Ext.drew | apply Ext.alloc | (refine Ext.trans ?_ (by assumption)) | (refine Ext.set ?_ (by dsimp only; omega) _)))⟩
            case round =>
              obtain ⟨t, htL, rfl, hbX, hzX, hz1, hop, hxq⟩ := hrel
              have HBQ := Lib.hid hbX
              have HZQ := Lib.hid hzX
              have HOT := Lib.hid hop
              have HZ1Q := Lib.hid hz1
              have hs3 := blk_lt hbX
              obtain ⟨d0, d1, d2, y0, y1, y2⟩ := three_c hbX
              by_cases htl : t < tk
              · have htl' : (t : Int) < (tk : Int) := by omega
                obtain ⟨off8, A8, c8, o8, q8, hA8, z1', hA8', z3, z4, z5, z6⟩ := hop.num (i := k) (k := t) hlt (by rw [HROW.out]; exact htl)
                obtain rfl : off = off8 := by simpa using hA8
                rw [HROW.out] at z1'
                rw [HREAD.out t htl] at z4
                subst hA8'
                have hz9 := z1'.symm.trans hz1
                obtain ⟨hz8, hz7⟩ : o8 = o4 ∧ c8 = c4 := by simpa using hz9
                subst hz8 hz7
                have HPUT := Lib.hid z6
                clear z6
                have HDV : Hid (mu k t = fop .quo .f32 (R.getD t none) M) := Lib.hid (by rw [HF.out, if_pos hA])
                have HPT := Lib.hid (gst_put (F := mu) (G := G) (i := k) hRl (k := t) (by rw [HLK.out]; exact htl))
                clear hbX hzX hop
                go_wp2_with (go_at_call 94; refine Calls.mono (c_l02Above hr _) ?_; rw [hA]; rintro e w8 ⟨rfl, n8, rfl⟩)
                refine wp_region_loose 17 (by kernel_rfl) (by kernel_rfl) ?_
                simp only [List.take_succ_cons, List.take_zero, List.drop_succ_cons, List.drop_zero]
                refine la_start ?_
                refine la_fix _ (by rfl) (by intros; go_simp; rfl) ?_
                try simp only [Act.put, List.setIfInBounds_toArray, List.set_cons_zero, List.set_cons_succ]
                refine la_fix _ (by rfl) (by intros; go_simp; rfl) ?_
                try simp only [Act.put, List.setIfInBounds_toArray, List.set_cons_zero, List.set_cons_succ]
                refine la_fix _ (by rfl) (by intros; go_simp; rfl) ?_
                try simp only [Act.put, List.setIfInBounds_toArray, List.set_cons_zero, List.set_cons_succ]
                refine la_fix _ (by rfl) (by intros; go_simp; rfl) ?_
                try simp only [Act.put, List.setIfInBounds_toArray, List.set_cons_zero, List.set_cons_succ]
                refine la_fix _ (by rfl) (by intros; go_simp; rfl) ?_
                try simp only [Act.put, List.setIfInBounds_toArray, List.set_cons_zero, List.set_cons_succ]
                refine la_fix _ (by rfl) (by intros; go_simp; rfl) ?_
                try simp only [Act.put, List.setIfInBounds_toArray, List.set_cons_zero, List.set_cons_succ]
                refine la_fix _ (by rfl) (by intros; go_simp; rfl) ?_
                try simp only [Act.put, List.setIfInBounds_toArray, List.set_cons_zero, List.set_cons_succ]
                refine la_fix _ (by rfl) (by intros; go_simp; rfl) ?_
                try simp only [Act.put, List.setIfInBounds_toArray, List.set_cons_zero, List.set_cons_succ]
                refine la_fix _ (by rfl) (by intros; go_simp; rfl) ?_
                try simp only [Act.put, List.setIfInBounds_toArray, List.set_cons_zero, List.set_cons_succ]
                refine la_fix _ (by rfl) (by intros; go_simp; rfl) ?_
                try simp only [Act.put, List.setIfInBounds_toArray, List.set_cons_zero, List.set_cons_succ]
                refine la_fix _ (by rfl) (by intros; go_simp; rfl) ?_
                try simp only [Act.put, List.setIfInBounds_toArray, List.set_cons_zero, List.set_cons_succ]
                refine la_fix _ (by rfl) (by intros; go_simp; rfl) ?_
                try simp only [Act.put, List.setIfInBounds_toArray, List.set_cons_zero, List.set_cons_succ]
                refine la_fix _ (by rfl) (by intros; go_simp; rfl) ?_
                try simp only [Act.put, List.setIfInBounds_toArray, List.set_cons_zero, List.set_cons_succ]
                refine la_fix _ (by rfl) (by intros; go_simp; rfl) ?_
                try simp only [Act.put, List.setIfInBounds_toArray, List.set_cons_zero, List.set_cons_succ]
                refine la_fix _ (by rfl) (by intros; go_simp; rfl) ?_
                try simp only [Act.put, List.setIfInBounds_toArray, List.set_cons_zero, List.set_cons_succ]
                refine la_fop (op := .quo) (by rfl) (by rfl) (by intros; refine ⟨_, _, ?_, ?_, fun q => (by go_simp; rfl)⟩ <;> (first | assumption | exact fl_fu | exact fl_fz)) ?_
                try simp only [Act.put, List.setIfInBounds_toArray, List.set_cons_zero, List.set_cons_succ]
                refine la_fix _ (by rfl) (by intros; go_simp; rfl) ?_
                try simp only [Act.put, List.setIfInBounds_toArray, List.set_cons_zero, List.set_cons_succ]
                refine la_end ?_
                intro r5 hr5 q5
                rw [← HDV.out] at hr5
                go_wp2_with (fail)
                exact ⟨⟨t + 1, by omega, by go_num, (by repeat (first | exact HBQ.out | (refine set_other ?_ (by dsimp only; omega)))), (by repeat (first | exact HZQ.out | (refine set_other ?_ (by dsimp only; omega)))), (World.cell?_of_block (Below.heap_setCell _ _ _ g (by dsimp only; omega))).trans HZ1Q.out, (by rw [← HPT.out]; exact (HPUT.out r5 _ hr5).same (fun g _ _ => rfl)), (by repeat (first | assumption | exact Ext.refl _ | apply Ext.drewN | apply Ext.drew | apply Ext.alloc | (refine Ext.trans ?_ (by assumption)) | (refine Ext.set ?_ (by dsimp only; omega) _)))⟩, by simp [intOf]; omega⟩
              · obtain rfl : tk = t := by omega
                have hn9 : gstS mu G k tk = gstS mu G (k + 1) 0 := gst_next HLK.out.symm
                have HNX : Hid (OwP wr (w.heap.size + 1 + 1) w2.heap.size Ap2 m cp2 (some ⟨g, off, none⟩) m ct2 gp g f G.p (gstS mu G (k + 1) 0)) := Lib.hid (by rw [← hn9]; exact hop)
                clear hbX hzX hop hn9
                go_wp2_with (fail)
                exact ⟨⟨k + 1, by omega, by go_num, (by repeat (first | exact HBQ.out | (refine set_other ?_ (by dsimp only; omega)))), (by repeat (first | exact HZQ.out | (refine set_other ?_ (by dsimp only; omega)))), HNX.out.ext (Nat.le_of_lt hs3) (by repeat (first | assumption | exact Ext.refl _ | apply Ext.drewN | apply Ext.drew | apply Ext.alloc | (refine Ext.trans ?_ (by assumption)) | (refine Ext.set ?_ (by dsimp only; omega) _))), (by repeat (first | assumption | exact Ext.refl _ | apply Ext.drewN | apply Ext.drew | apply Ext.alloc | (refine Ext.trans ?_ (by assumption)) | (refine Ext.set ?_ (by dsimp only; omega) _)))⟩, by simp [intOf]; omega⟩
    · obtain rfl : k = m := by omega
      have p1r := (HBX1.out.ext hx).p1
      obtain ⟨d0, d1, d2, y0, y1, y2⟩ := three_c hbX
      obtain ⟨c0', c1', c2', x0', x1', x2'⟩ := three_c hzX
      have hG : OwG wr (w.heap.size + 1 + 1) w2.heap.size (.agg #[.int .i64 G.t, .slice Ap2 k cp2, .slice (some ⟨g, off, none⟩) k ct2]) (genG mu G) := by
        have h1 := hop.toG (t := G.t)
        unfold genG
        rw [HRL.out]
        exact h1
      have HG := Lib.hid hG
      have hmt : (genG mu G).p.length = k ∧ (genG mu G).r.length = k := ⟨HPL.out, gstS_len.trans HRL.out⟩
      have HBZ := Lib.hid (fun u0 u1 u2 => blk_set1 (blk_set1 (blk_set1 hzX 0 u0) 1 u1) 2 u2)
      clear hG hbX hzX hop
      go_wp2_with (fail)
      (try simp only [Exit.inBlock, Exit.then])
      refine bodyPost_ret (results_cell2 rfl _ _ (w.heap.size + 1) 68 #[.int .i64 G.t, .slice Ap2 k cp2, .slice (some ⟨g, off, none⟩) k ct2] (0, 0) _ rfl (HBZ.out _ _ _) Try.underlying68 rfl (by kernel_rfl)) rfl ?_
      exact ⟨_, rfl, by
        refine OwG.more (lo := w.heap.size + 1 + 1) (hi := w2.heap.size) ?_ (by omega) (by simp; omega)
        repeat (first | exact HG.out | (refine OwG.setOther ?_ (by left; dsimp only; omega) _)), (by repeat (first | assumption | exact Ext.refl _ | apply Ext.drewN | apply Ext.drew | apply Ext.alloc | (refine Ext.trans ?_ (by assumption)) | (refine Ext.set ?_ (by dsimp only; omega) _)))⟩
set_option linter.unusedSimpArgs false in
set_option maxRecDepth 20000 in
set_option maxHeartbeats 40000000 in
theorem c_impl_NormGather {w : World} {B : Nat} {v : Value} {G : Gat} (h : RdG w B v G) (hB : B ≤ w.heap.size) (h1 : G.p.length ≤ 1048576) (h2 : G.r.length ≤ 1048576) (h3 : ∀ j, j < G.r.length → (G.r.getD j []).length ≤ 1048576) :
    Calls Try.prog 57 #[v] w fun e w' => RetG w e w' (fvG G) (genG (nmF G) G) := by
  obtain ⟨Ap, cp, At, ct, rfl, hp, hr, hcp, hct⟩ := h.ex
  obtain ⟨W1, hW1⟩ : ∃ W1, W1 = (w.alloc (.cells #[.int .i64 G.t, .slice Ap G.p.length cp, .slice At G.r.length ct] 68)).alloc (.cells #[.int .i64 0, .slice none 0 0, .slice none 0 0] 68) := ⟨_, rfl⟩
  have hbx : GbAt W1 w.heap.size G.t Ap G.p.length cp At G.r.length ct := by rw [hW1]; exact (GbAt.blk (T := 68) (by repeat (first | (refine al_at ?_ ?_ <;> first | rfl | (simp only [al_size] <;> omega)) | apply al_old))).ext (Ext.alloc (Ext.refl _) _)
  have hx1 : Ext w W1 := by rw [hW1]; exact (by repeat (first | assumption | exact Ext.refl _ | apply Ext.drewN | apply Ext.drew | apply Ext.alloc | (refine Ext.trans ?_ (by assumption)) | (refine Ext.set ?_ (by dsimp only; omega) _)))
  have hz1 : W1.heap[w.heap.size + 1]? = some (.cells #[.int .i64 0, .slice none 0 0, .slice none 0 0] 68 (0, 0)) := by rw [hW1]; exact al_at (al_size _ _).symm rfl
  have hs1 : W1.heap.size = w.heap.size + 1 + 1 := by rw [hW1, al_size, al_size]
  have HIS := Lib.hid (c_impl_ValidGather (h.below (hx1.mono hB)) (Nat.le_trans hB hx1.size) h1 h2 h3)
  obtain ⟨p0, p1, p2, _⟩ := id hbx
  cases hV : fvG G
  case false =>
    rw [hV] at HIS
    go_enter Try.func57, Try.ntmps57
    go_wp2_with (fail)
    rw [← hW1]
    clear hW1
    go_wp2_with (first | (go_at_call 96; refine Calls.mono HIS.out ?_; rintro e w1 ⟨rfl, hxv⟩; have hbv := hbx.ext hxv; obtain ⟨p0, p1, p2, _⟩ := id hbv; have hzv := hxv.blk hz1; obtain ⟨c0, c1, c2, x0, x1, x2⟩ := three_c hzv))
    (try simp only [Exit.inBlock, Exit.then])
    refine bodyPost_ret (results_cell2 rfl _ _ (w.heap.size + 1) 68 #[.int .i64 0, .slice none 0 0, .slice none 0 0] (0, 0) _ rfl (by repeat (first | exact hzv | exact blk_set1 (blk_set1 (blk_set1 hzv 0 _) 1 _) 2 _)) Try.underlying68 rfl (by kernel_rfl)) rfl ?_
    exact retG_no rfl (by repeat (first | assumption | exact Ext.refl _ | apply Ext.drewN | apply Ext.drew | apply Ext.alloc | (refine Ext.trans ?_ (by assumption)) | (refine Ext.set ?_ (by dsimp only; omega) _)))
  rw [hV] at HIS
  have hVG := fvG_of hV
  have hpl := hp.len
  have hrl := hr.len
  have hn1 := hVG.n1
  have hmn := hVG.m
  have hrw : ∀ j, j < G.r.length → 1 ≤ (G.r.getD j []).length ∧ (G.r.getD j []).length ≤ 64 := fun j hj => by
    have h4 := hVG.row j hj
    have h5 := hVG.t1
    have h6 := hVG.t2
    omega
  obtain ⟨tk, htk⟩ : ∃ tk : Nat, G.t = (tk : Int) := ⟨G.t.toNat, by have h5 := hVG.t1; omega⟩
  have htk2 : G.t.toNat = tk := by omega
  have htr : ∀ j, j < G.r.length → (G.r.getD j []).length = tk := fun j hj => by have h4 := hVG.row j hj; omega
  have htk3 : tk < 16777216 := by have h6 := hVG.t2; omega
  have hfp : ∀ j, j < G.p.length → ffin .f32 (G.p.getD j none) = true := fun j hj => allL_at hj hVG.fin
  have HCO := Lib.hid (fun (W : World) (hW : Ext W1 W) => c_copyGather (w := W) (cp := cp) (ct := ct) (hp.below ((hx1.trans hW).mono hB)) (hr.below ((hx1.trans hW).mono hB)) (Nat.le_trans hB (hx1.trans hW).size) h1 h2 h3 (by omega) (by omega) (fun j hj => (hrw j hj).1))
  obtain ⟨m, hm⟩ : ∃ m, G.p.length = m := ⟨_, rfl⟩
  rw [hmn, hm] at hrw htr
  rw [hm] at hn1 hp hbx h1 hcp hfp p1 HIS HCO
  rw [hmn, hm] at hr hbx h2 hct p2 HIS HCO
  have hRL : G.r.length = m := hmn.trans hm
  have HRW := Lib.hid hrw
  have HTR := Lib.hid htr
  have HPL := Lib.hid hm
  have HRL := Lib.hid hRL
  have HP := Lib.hid hp
  have HBX1 := Lib.hid hbx
  have HFP := Lib.hid hfp
  have HTK := Lib.hid htk
  have HTK2 := Lib.hid htk2
  have hn2 : m ≤ 16 := by rw [← hm]; exact hVG.n2
  rw [hm, hRL] at hW1
  rw [hm, hRL]
  obtain ⟨mu, hmu⟩ : ∃ mu, mu = nmF G := ⟨_, rfl⟩
  rw [← hmu]
  have HMU := Lib.hid hmu
  clear hVG hmn hpl hrl hrw hp hr h3 h hm hRL hfp hmu htr htk htk2
  go_enter Try.func57, Try.ntmps57
  go_wp2_with (fail)
  rw [← hW1]
  clear hW1
  go_wp2_with (first | (go_at_call 96; refine Calls.mono HIS.out ?_; rintro e w1 ⟨rfl, hxv⟩; have hbv := hbx.ext hxv; obtain ⟨p0, p1, p2, _⟩ := id hbv; have hzv := hxv.blk hz1; obtain ⟨c0, c1, c2, x0, x1, x2⟩ := three_c hzv) | (go_at_call 97; refine Calls.mono (HCO.out _ (by repeat (first | assumption | exact Ext.refl _ | apply Ext.drewN | apply Ext.drew | apply Ext.alloc | (refine Ext.trans ?_ (by assumption)) | (refine Ext.set ?_ (by dsimp only; omega) _)))) ?_; rintro e w2 ⟨x, rfl, ho, hx2⟩; obtain ⟨Ap2, cp2, At2, ct2, gp, g, f, hv, hop⟩ := ho.inP; rw [HPL.out, HRL.out] at hv hop; subst hv; have hx12 : Ext W1 w2 := (by repeat (first | assumption | exact Ext.refl _ | apply Ext.drewN | apply Ext.drew | apply Ext.alloc | (refine Ext.trans ?_ (by assumption)) | (refine Ext.set ?_ (by dsimp only; omega) _))); have hb2 := HBX1.out.ext hx12; obtain ⟨b0, b1', b2', _⟩ := id hb2))
  have hx02 : Ext w w2 := hx1.trans hx12
  have hzb := hx12.blk hz1
  have hz2 := hx12.size
  have hz3 := hx2.size
  (try simp only [size_drewN] at hz3 hop)
  have hz4 := hxv.size
  have hgb := hop.g_in.resolve_left (by omega)
  obtain ⟨off, _, _, hAt2, _⟩ := hop.row (i := 0) hn1
  subst hAt2
  have HOP := Lib.hid (hop.more (lo' := w.heap.size + 1 + 1) (by omega) (Nat.le_refl _))
  have HZB := Lib.hid hzb
  clear hop hzb ho b0 b1' b2' p0 p1 p2
  go_loopw [18] (fun y wr => ∃ k : Nat, k ≤ m ∧ y = .int .i64 k ∧ wr.heap[w2.heap.size]? = some (.cells #[.int .i64 G.t, .slice Ap2 m cp2, .slice (some ⟨g, off, none⟩) m ct2] 68 (0, 0)) ∧ wr.heap[w.heap.size + 1]? = some (.cells #[.int .i64 0, .slice none 0 0, .slice none 0 0] 68 (0, 0)) ∧ OwP wr (w.heap.size + 1 + 1) w2.heap.size Ap2 m cp2 (some ⟨g, off, none⟩) m ct2 gp g f G.p (gstS mu G k 0) ∧ Ext W1 wr) (fun y _ => m - (intOf y).toNat)
  case atStart => exact ⟨0, Nat.zero_le _, rfl, (by first | exact heap_alloc_new w2 _ | exact blk_set1 (blk_set1 (blk_set1 (heap_alloc_new w2 _) 0 _) 1 _) 2 _), (by repeat (first | exact HZB.out | apply al_old | (refine set_other ?_ (by dsimp only; omega)))), by rw [gst_start]; exact HOP.out.ext (Nat.le_refl _) (by repeat (first | assumption | exact Ext.refl _ | apply Ext.drewN | apply Ext.drew | apply Ext.alloc | (refine Ext.trans ?_ (by assumption)) | (refine Ext.set ?_ (by dsimp only; omega) _))), (by repeat (first | assumption | exact Ext.refl _ | apply Ext.drewN | apply Ext.drew | apply Ext.alloc | (refine Ext.trans ?_ (by assumption)) | (refine Ext.set ?_ (by dsimp only; omega) _)))⟩
  case round =>
    obtain ⟨k, hk, rfl, hbX, hzX, hop, hx⟩ := hrel
    have HBX := Lib.hid hbX
    have HZX := Lib.hid hzX
    have HOQ := Lib.hid hop
    have hs2 := blk_lt hbX
    have hx0r : Ext w wr := hx1.trans hx
    by_cases hlt : k < m
    · have hlt' : (k : Int) < (m : Int) := by omega
      have hRl : k < G.r.length := by rw [HRL.out]; exact hlt
      obtain ⟨g1, g2⟩ := HRW.out k hlt
      have hLk := HTR.out k hlt
      have hrowk : ∀ t, ((gstS mu G k t).getD k []).length = tk := fun t => by rw [gstS_row hRl, hLk]
      rw [hLk] at g1 g2
      have HROW := Lib.hid hrowk
      have HLK := Lib.hid hLk
      have hfi := hop.f_in k hlt
      have htkI : (1 : Int) ≤ (tk : Int) := by omega
      obtain ⟨R, hR⟩ : ∃ R, G.r.getD k [] = R := ⟨_, rfl⟩
      have HR := Lib.hid hR
      obtain ⟨M, hM⟩ : ∃ M, most R tk = M := ⟨_, rfl⟩
      have HM := Lib.hid hM
      have HF : Hid (∀ t, mu k t = if fabove M = true then fop .quo .f32 (R.getD t none) M else R.getD t none) := Lib.hid (fun t => by rw [HMU.out]; unfold nmF; rw [hLk, hR, hM])
      have hread : ∀ t, t < tk → ((gstS mu G k t).getD k []).getD t none = R.getD t none := fun t ht => by rw [gst_cur hRl (by rw [hLk]; exact ht), hR]
      have hread0 : ∀ t, t < tk → ((gstS mu G k 0).getD k []).getD t none = R.getD t none := fun t ht => by rw [gst_zero hRl (by rw [hLk]; exact ht), hR]
      have HREAD := Lib.hid hread
      have HREAD0 := Lib.hid hread0
      obtain ⟨off8, A4, c4, o4, q4, hA8, z1, hA4, _, _, _, _⟩ := hop.num (i := k) (k := 0) hlt (by rw [hrowk]; omega)
      obtain rfl : off = off8 := by simpa using hA8
      rw [hrowk] at z1
      have hfg : f k ≠ g := by obtain ⟨_, _, _, _, _, _, _, _, hfg⟩ := hop.row hlt; exact hfg
      obtain ⟨d0, d1, d2, y0, y1, y2⟩ := three_c hbX
      subst hA4
      have HZ1 := Lib.hid z1
      clear hbX hzX hop hrowk hLk hread hread0 hM hR
      have hrd : RdF wr (f k + 1) (some ⟨f k, o4, none⟩) tk R := by
        obtain ⟨off9, A9, c9, hA9, y9, _, hrowL, _, _⟩ := HOQ.out.row hlt
        obtain rfl : off = off9 := by simpa using hA9
        rw [HROW.out, gst_row0 hRl, HR.out] at hrowL
        rw [HROW.out] at y9
        have hz9 := y9.symm.trans z1
        obtain ⟨hz8, _⟩ : A9 = some ⟨f k, o4, none⟩ ∧ c9 = c4 := by simpa using hz9
        rw [hz8] at hrowL
        exact hrowL.rd
      have HRD := Lib.hid hrd
      obtain ⟨he1, he2, he3⟩ := norm_same (L := R) (n := tk) (tlen_yes (by omega) (by omega)) (fun t ht => by obtain ⟨_, _, b9, _, _, _, h9⟩ := hrd.cell ht; exact ⟨b9, h9⟩)
      rw [HM.out] at he1 he2
      have HE1 := Lib.hid he1
      have HE2 := Lib.hid he2
      have HE3 := Lib.hid he3
      clear he1 he2 he3 hrd
      cases hA : fabove M
      case false =>
        have hsame : gstS mu G k 0 = gstS mu G (k + 1) 0 := gst_same (fun t _ => by rw [HF.out, hA, if_neg (by decide), HR.out])
        have HNX : Hid (OwP wr (w.heap.size + 1 + 1) w2.heap.size Ap2 m cp2 (some ⟨g, off, none⟩) m ct2 gp g f G.p (gstS mu G (k + 1) 0)) := Lib.hid (by rw [← hsame]; exact HOQ.out)
        clear hsame
        go_wp2_with (first | (go_at_call 98; refine Calls.mono (c_greatestSize HRD.out (by omega) (tlen_yes (by omega) (by omega))) ?_; rintro e w8 ⟨r8, rfl, hr8, n8, rfl⟩) | (go_at_call 99; refine Calls.mono (c_isPositive hr8) ?_; rw [HE1.out, hA]; rintro e w9 ⟨rfl, n9, rfl⟩))
        exact ⟨⟨k + 1, by omega, by go_num, (by repeat (first | exact HBX.out | (refine set_other ?_ (by dsimp only; omega)))), (by repeat (first | exact HZX.out | (refine set_other ?_ (by dsimp only; omega)))), HNX.out.ext (Nat.le_of_lt hs2) (by repeat (first | assumption | exact Ext.refl _ | apply Ext.drewN | apply Ext.drew | apply Ext.alloc | (refine Ext.trans ?_ (by assumption)) | (refine Ext.set ?_ (by dsimp only; omega) _))), (by repeat (first | assumption | exact Ext.refl _ | apply Ext.drewN | apply Ext.drew | apply Ext.alloc | (refine Ext.trans ?_ (by assumption)) | (refine Ext.set ?_ (by dsimp only; omega) _)))⟩, by simp [intOf]; omega⟩
      case true =>
        go_wp2_with (first | (go_at_call 98; refine Calls.mono (c_greatestSize HRD.out (by omega) (tlen_yes (by omega) (by omega))) ?_; rintro e w8 ⟨r8, rfl, hr8, n8, rfl⟩) | (go_at_call 99; refine Calls.mono (c_isPositive hr8) ?_; rw [HE1.out, hA]; rintro e w9 ⟨rfl, n9, rfl⟩))
        have hr8' := hr8
        rw [HE2.out hA] at hr8'
        have HR8 := Lib.hid hr8'
        clear hr8'
        go_loopw [29] (fun z wq => ∃ t : Nat, t ≤ tk ∧ z = .int .i64 t ∧ wq.heap[w2.heap.size]? = some (.cells #[.int .i64 G.t, .slice Ap2 m cp2, .slice (some ⟨g, off, none⟩) m ct2] 68 (0, 0)) ∧ wq.heap[w.heap.size + 1]? = some (.cells #[.int .i64 0, .slice none 0 0, .slice none 0 0] 68 (0, 0)) ∧ wq.cell? ⟨g, off + k, none⟩ = some (.slice (some ⟨f k, o4, none⟩) tk c4) ∧ OwP wq (w.heap.size + 1 + 1) w2.heap.size Ap2 m cp2 (some ⟨g, off, none⟩) m ct2 gp g f G.p (gstS mu G k t) ∧ Ext W1 wq) (fun z _ => tk - (intOf z).toNat)
        case atStart => exact ⟨0, Nat.zero_le _, rfl, (by repeat (first | exact HBX.out | (refine set_other ?_ (by dsimp only; omega)))), (by repeat (first | exact HZX.out | (refine set_other ?_ (by dsimp only; omega)))), HZ1.out, HOQ.out.ext (Nat.le_of_lt hs2) (by repeat (first | assumption | exact Ext.refl _ | apply Ext.drewN | apply Ext.drew | apply Ext.alloc | (refine Ext.trans ?_ (by assumption)) | (refine Ext.set ?_ (by dsimp only; omega) _))), (by repeat (first | assumption | exact Ext.refl _ | apply Ext.drewN | apply Ext.drew | apply Ext.alloc | (refine Ext.trans ?_ (by assumption)) | (refine Ext.set ?_ (by dsimp only; omega) _)))⟩
        case round =>
          obtain ⟨t, htL, rfl, hbX, hzX, hz1, hop, hxq⟩ := hrel
          have HBQ := Lib.hid hbX
          have HZQ := Lib.hid hzX
          have HOT := Lib.hid hop
          have HZ1Q := Lib.hid hz1
          have hs3 := blk_lt hbX
          obtain ⟨d0, d1, d2, y0, y1, y2⟩ := three_c hbX
          by_cases htl : t < tk
          · have htl' : (t : Int) < (tk : Int) := by omega
            obtain ⟨off8, A8, c8, o8, q8, hA8, z1', hA8', z3, z4, z5, z6⟩ := hop.num (i := k) (k := t) hlt (by rw [HROW.out]; exact htl)
            obtain rfl : off = off8 := by simpa using hA8
            rw [HROW.out] at z1'
            rw [HREAD.out t htl] at z4
            subst hA8'
            have hz9 := z1'.symm.trans hz1
            obtain ⟨hz8, hz7⟩ : o8 = o4 ∧ c8 = c4 := by simpa using hz9
            subst hz8 hz7
            have HPUT := Lib.hid z6
            clear z6
            have HDV : Hid (mu k t = fop .quo .f32 (R.getD t none) M) := Lib.hid (by rw [HF.out, if_pos hA])
            have HPT := Lib.hid (gst_put (F := mu) (G := G) (i := k) hRl (k := t) (by rw [HLK.out]; exact htl))
            clear hbX hzX hop
            go_wp2_with (apply upon_fop rfl; (exact z4); (exact HR8.out); intro r5 n5 hr5; rw [← HDV.out] at hr5)
            exact ⟨⟨t + 1, by omega, by go_num, (by repeat (first | exact HBQ.out | (refine set_other ?_ (by dsimp only; omega)))), (by repeat (first | exact HZQ.out | (refine set_other ?_ (by dsimp only; omega)))), (World.cell?_of_block (Below.heap_setCell _ _ _ g (by dsimp only; omega))).trans HZ1Q.out, (by rw [← HPT.out]; exact (HPUT.out r5 _ hr5).same (fun g _ _ => rfl)), (by repeat (first | assumption | exact Ext.refl _ | apply Ext.drewN | apply Ext.drew | apply Ext.alloc | (refine Ext.trans ?_ (by assumption)) | (refine Ext.set ?_ (by dsimp only; omega) _)))⟩, by simp [intOf]; omega⟩
          · obtain rfl : tk = t := by omega
            have hn9 : gstS mu G k tk = gstS mu G (k + 1) 0 := gst_next HLK.out.symm
            have HNX : Hid (OwP wr (w.heap.size + 1 + 1) w2.heap.size Ap2 m cp2 (some ⟨g, off, none⟩) m ct2 gp g f G.p (gstS mu G (k + 1) 0)) := Lib.hid (by rw [← hn9]; exact hop)
            clear hbX hzX hop hn9
            go_wp2_with (fail)
            exact ⟨⟨k + 1, by omega, by go_num, (by repeat (first | exact HBQ.out | (refine set_other ?_ (by dsimp only; omega)))), (by repeat (first | exact HZQ.out | (refine set_other ?_ (by dsimp only; omega)))), HNX.out.ext (Nat.le_of_lt hs3) (by repeat (first | assumption | exact Ext.refl _ | apply Ext.drewN | apply Ext.drew | apply Ext.alloc | (refine Ext.trans ?_ (by assumption)) | (refine Ext.set ?_ (by dsimp only; omega) _))), (by repeat (first | assumption | exact Ext.refl _ | apply Ext.drewN | apply Ext.drew | apply Ext.alloc | (refine Ext.trans ?_ (by assumption)) | (refine Ext.set ?_ (by dsimp only; omega) _)))⟩, by simp [intOf]; omega⟩
    · obtain rfl : k = m := by omega
      have p1r := (HBX1.out.ext hx).p1
      obtain ⟨d0, d1, d2, y0, y1, y2⟩ := three_c hbX
      obtain ⟨c0', c1', c2', x0', x1', x2'⟩ := three_c hzX
      have hG : OwG wr (w.heap.size + 1 + 1) w2.heap.size (.agg #[.int .i64 G.t, .slice Ap2 k cp2, .slice (some ⟨g, off, none⟩) k ct2]) (genG mu G) := by
        have h1 := hop.toG (t := G.t)
        unfold genG
        rw [HRL.out]
        exact h1
      have HG := Lib.hid hG
      have hmt : (genG mu G).p.length = k ∧ (genG mu G).r.length = k := ⟨HPL.out, gstS_len.trans HRL.out⟩
      have HBZ := Lib.hid (fun u0 u1 u2 => blk_set1 (blk_set1 (blk_set1 hzX 0 u0) 1 u1) 2 u2)
      clear hG hbX hzX hop
      go_wp2_with (fail)
      (try simp only [Exit.inBlock, Exit.then])
      refine bodyPost_ret (results_cell2 rfl _ _ (w.heap.size + 1) 68 #[.int .i64 G.t, .slice Ap2 k cp2, .slice (some ⟨g, off, none⟩) k ct2] (0, 0) _ rfl (HBZ.out _ _ _) Try.underlying68 rfl (by kernel_rfl)) rfl ?_
      exact ⟨_, rfl, by
        refine OwG.more (lo := w.heap.size + 1 + 1) (hi := w2.heap.size) ?_ (by omega) (by simp; omega)
        repeat (first | exact HG.out | (refine OwG.setOther ?_ (by left; dsimp only; omega) _)), (by repeat (first | assumption | exact Ext.refl _ | apply Ext.drewN | apply Ext.drew | apply Ext.alloc | (refine Ext.trans ?_ (by assumption)) | (refine Ext.set ?_ (by dsimp only; omega) _)))⟩
end Go.Proofs.Ytkbkjkjjoogieaa
