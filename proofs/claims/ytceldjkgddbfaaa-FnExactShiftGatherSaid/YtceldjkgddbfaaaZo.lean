/- Contract: gathers of shifted traces, the reference. Condition: the gather and the list are read. -/
import Derived.Test.YtceldjkgddbfaaaZi
import Derived.Test.YtceldjkgddbfaaaTd
import Derived.Deep.QuietTactic
import Derived.BigQuiet
namespace Go.Proofs.Ytceldjkgddbfaaa
open Go.RowKit Ieee

/-- The slice of address A and length n holds the ints X. -/
def RdI (w : World) (B : Nat) (A : Option Addr) (n : Nat) (X : List Int) : Prop :=
  X.length = n ∧ ∀ k, k < n → ∃ b off, A = some ⟨b, off, none⟩ ∧ b < B ∧ w.cell? ⟨b, off + k, none⟩ = some (.int .i64 (X.getD k 0))
theorem RdI.below {w w' : World} {B n : Nat} {A : Option Addr} {X : List Int} (h : RdI w B A n X) (hw : Below B w w') : RdI w' B A n X :=
  ⟨h.1, fun k hk => by
    obtain ⟨b, off, hA, hb, hc⟩ := h.2 k hk
    exact ⟨b, off, hA, hb, (hw.cell (p := ⟨b, off + k, none⟩) hb).trans hc⟩⟩
/-- A trace of a gather, of which the numbers of the traces before i, and the first k of the trace i, have become those of F. -/
def gst (F : Nat → Nat → Option Nat) (G : Gat) (i k j : Nat) : List (Option Nat) := lst (fun t => if decide (j < i) || (decide (j = i) && decide (t < k)) then F j t else (G.r.getD j []).getD t none) (G.r.getD j []).length
def gstS (F : Nat → Nat → Option Nat) (G : Gat) (i k : Nat) : List (List (Option Nat)) := lstS (gst F G i k) G.r.length
def genG (F : Nat → Nat → Option Nat) (G : Gat) : Gat := ⟨G.t, G.p, gstS F G G.r.length 0⟩
section
variable {F : Nat → Nat → Option Nat} {G : Gat} {i k : Nat}
theorem gst_len (j : Nat) : (gst F G i k j).length = (G.r.getD j []).length := lst_len _ _
theorem gstS_len : (gstS F G i k).length = G.r.length := lstS_len _ _
theorem gstS_at {j : Nat} (hj : j < G.r.length) : (gstS F G i k).getD j [] = gst F G i k j := lstS_at hj
theorem gstS_row {j : Nat} (hj : j < G.r.length) : ((gstS F G i k).getD j []).length = (G.r.getD j []).length := by rw [gstS_at hj, gst_len]
theorem gst_at {j t : Nat} (ht : t < (G.r.getD j []).length) : (gst F G i k j).getD t none = if decide (j < i) || (decide (j = i) && decide (t < k)) then F j t else (G.r.getD j []).getD t none := lst_at ht
theorem gst_start : gstS F G 0 0 = G.r := by
  refine ext_getD (d := []) gstS_len fun j hj => ?_
  rw [gstS_len] at hj
  rw [gstS_at hj]
  refine ext_getD (d := none) (gst_len _) fun t ht => ?_
  rw [gst_len] at ht
  rw [gst_at ht, if_neg (by simp)]
theorem gst_next (hk : k = (G.r.getD i []).length) : gstS F G i k = gstS F G (i + 1) 0 := by
  refine ext_getD (d := []) (by rw [gstS_len, gstS_len]) fun j hj => ?_
  rw [gstS_len] at hj
  rw [gstS_at hj, gstS_at hj]
  refine ext_getD (d := none) (by rw [gst_len, gst_len]) fun t ht => ?_
  rw [gst_len] at ht
  rw [gst_at ht, gst_at ht]
  refine congrArg (fun b : Bool => if b then F j t else (G.r.getD j []).getD t none) ?_
  rw [Bool.eq_iff_iff]
  simp only [Bool.or_eq_true, Bool.and_eq_true, decide_eq_true_eq]
  by_cases hji : j = i
  · subst hji; omega
  · omega
theorem gst_put (hi : i < G.r.length) (hk : k < (G.r.getD i []).length) : (gstS F G i k).set i (((gstS F G i k).getD i []).set k (F i k)) = gstS F G i (k + 1) := by
  refine ext_getD (d := []) (by rw [List.length_set, gstS_len, gstS_len]) fun j hj => ?_
  rw [List.length_set, gstS_len] at hj
  by_cases hji : j = i
  · subst hji
    rw [getD_set_at (by rw [gstS_len]; exact hj), gstS_at hj, gstS_at hj]
    refine ext_getD (d := none) (by rw [List.length_set, gst_len, gst_len]) fun t ht => ?_
    rw [List.length_set, gst_len] at ht
    by_cases htk : t = k
    · subst htk
      rw [getD_set_at (by rw [gst_len]; exact ht), gst_at ht, if_pos (by simp)]
    · rw [getD_set_no htk, gst_at ht, gst_at ht]
      refine congrArg (fun b : Bool => if b then F j t else (G.r.getD j []).getD t none) ?_
      rw [Bool.eq_iff_iff]
      simp only [Bool.or_eq_true, Bool.and_eq_true, decide_eq_true_eq, true_and]
      omega
  · rw [getD_set_no hji, gstS_at hj, gstS_at hj]
    refine ext_getD (d := none) (by rw [gst_len, gst_len]) fun t ht => ?_
    rw [gst_len] at ht
    rw [gst_at ht, gst_at ht]
    refine congrArg (fun b : Bool => if b then F j t else (G.r.getD j []).getD t none) ?_
    rw [Bool.eq_iff_iff]
    simp only [Bool.or_eq_true, Bool.and_eq_true, decide_eq_true_eq]
    omega
theorem gsz_gen : gsz (genG F G) = gsz G := by
  unfold gsz genG
  dsimp only
  rw [gstS_len, tot_lens (gstS F G G.r.length 0) G.r gstS_len (fun j hj => by rw [gstS_len] at hj; exact gstS_row hj)]
end
def inR (x : Int) : Bool := inB x (-64) 64
def allR (X : List Int) : Bool := X.all inR
def okSh (G : Gat) (n : Nat) (X : List Int) : Bool := fvG G && (decide (n = G.r.length) && allR X)
def shF (G : Gat) (X : List Int) (j t : Nat) : Option Nat := fshift (G.r.getD j []) (-(X.getD j 0)) t
theorem allR_no {X : List Int} {k : Nat} (h : k < X.length) (hf : inR (X.getD k 0) = false) : allR X = false := by
  rw [Bool.eq_false_iff]
  intro ha
  unfold allR at ha
  rw [List.all_eq_true] at ha
  have := ha (X.getD k 0) (by simp [List.getD, h])
  rw [hf] at this; cases this
theorem allR_yes {X : List Int} (h : ∀ k, k < X.length → inR (X.getD k 0) = true) : allR X = true := by
  unfold allR
  rw [List.all_eq_true]
  intro x hx
  obtain ⟨j, hj, rfl⟩ := List.getElem_of_mem hx
  have := h j hj
  simpa [List.getD, hj] using this
set_option linter.unusedSimpArgs false in
set_option maxRecDepth 20000 in
set_option maxHeartbeats 40000000 in
theorem c_spec_ShiftGather {w : World} {B : Nat} {v : Value} {G : Gat} (h : RdG w B v G) (hB : B ≤ w.heap.size) (h1 : G.p.length ≤ 1048576) (h2 : G.r.length ≤ 1048576) (h3 : ∀ j, j < G.r.length → (G.r.getD j []).length ≤ 1048576) {B' n c : Nat} {A' : Option Addr} {X : List Int} (h' : RdI w B' A' n X) (hB' : B' ≤ w.heap.size) (hn : n ≤ 1048576) :
    Calls Try.prog 37 #[v, .slice A' n c] w fun e w' => RetG w e w' (okSh G n X) (genG (shF G X) G) := by
  unfold okSh
  obtain ⟨Ap, cp, At, ct, rfl, hp, hr, hcp, hct⟩ := h.ex
  obtain ⟨W1, hW1⟩ : ∃ W1, W1 = (w.alloc (.cells #[.int .i64 G.t, .slice Ap G.p.length cp, .slice At G.r.length ct] 25)).alloc (.cells #[.int .i64 0, .slice none 0 0, .slice none 0 0] 25) := ⟨_, rfl⟩
  have hbx : GbAt W1 w.heap.size G.t Ap G.p.length cp At G.r.length ct := by rw [hW1]; exact (GbAt.blk (T := 25) (by repeat (first | (refine al_at ?_ ?_ <;> first | rfl | (simp only [al_size] <;> omega)) | apply al_old))).ext (Ext.alloc (Ext.refl _) _)
  have hx1 : Ext w W1 := by rw [hW1]; exact (by repeat (first | assumption | exact Ext.refl _ | apply Ext.drewN | apply Ext.drew | apply Ext.alloc | (refine Ext.trans ?_ (by assumption)) | (refine Ext.set ?_ (by dsimp only; omega) _)))
  have hz1 : W1.heap[w.heap.size + 1]? = some (.cells #[.int .i64 0, .slice none 0 0, .slice none 0 0] 25 (0, 0)) := by rw [hW1]; exact al_at (al_size _ _).symm rfl
  have hs1 : W1.heap.size = w.heap.size + 1 + 1 := by rw [hW1, al_size, al_size]
  have HIS := Lib.hid (c_l04Is hbx (hp.below (hx1.mono hB)) (hr.below (hx1.mono hB)) h1 h2 h3)
  cases hV : fvG G
  · rw [hV] at HIS
    go_enter Try.func37, Try.ntmps37
    go_wp2_with (fail)
    rw [← hW1]
    obtain ⟨c0, c1, c2, x0, x1, x2⟩ := three_c hz1
    clear hW1
    go_wp2_with ((go_at_call 63; refine Calls.mono HIS.out ?_; rintro e w1 ⟨rfl, n1, rfl⟩))
    (try simp only [Exit.inBlock, Exit.then])
    refine bodyPost_ret (results_cell2 rfl _ _ (w.heap.size + 1) 25 #[.int .i64 0, .slice none 0 0, .slice none 0 0] (0, 0) _ rfl (by repeat (first | exact hz1 | exact blk_set1 (blk_set1 (blk_set1 hz1 0 _) 1 _) 2 _)) Try.underlying25 rfl (by kernel_rfl)) rfl ?_
    exact retG_no rfl (by repeat (first | assumption | exact Ext.refl _ | apply Ext.drewN | apply Ext.drew | apply Ext.alloc | (refine Ext.trans ?_ (by assumption)) | (refine Ext.set ?_ (by dsimp only; omega) _)))
  rw [hV] at HIS
  have hVG := fvG_of hV
  rw [Bool.true_and]
  by_cases hnm : n = G.r.length
  case neg =>
    have i3 : ((n : Int) != (G.r.length : Int)) = true := by rw [bne_iff_ne]; omega
    rw [decide_eq_false hnm, Bool.false_and]
    clear hnm
    go_enter Try.func37, Try.ntmps37
    go_wp2_with (fail)
    rw [← hW1]
    obtain ⟨c0, c1, c2, x0, x1, x2⟩ := three_c hz1
    obtain ⟨p0, p1, p2, _⟩ := id hbx
    clear hW1
    go_wp2_with ((go_at_call 63; refine Calls.mono HIS.out ?_; rintro e w1 ⟨rfl, n1, rfl⟩))
    (try simp only [Exit.inBlock, Exit.then])
    refine bodyPost_ret (results_cell2 rfl _ _ (w.heap.size + 1) 25 #[.int .i64 0, .slice none 0 0, .slice none 0 0] (0, 0) _ rfl (by repeat (first | exact hz1 | exact blk_set1 (blk_set1 (blk_set1 hz1 0 _) 1 _) 2 _)) Try.underlying25 rfl (by kernel_rfl)) rfl ?_
    exact retG_no rfl (by repeat (first | assumption | exact Ext.refl _ | apply Ext.drewN | apply Ext.drew | apply Ext.alloc | (refine Ext.trans ?_ (by assumption)) | (refine Ext.set ?_ (by dsimp only; omega) _)))
  rw [decide_eq_true hnm, Bool.true_and]
  have hpl := hp.len
  have hrl := hr.len
  have hn1 := hVG.n1
  have hmn := hVG.m
  have hrw : ∀ j, j < G.r.length → 1 ≤ (G.r.getD j []).length ∧ (G.r.getD j []).length ≤ 64 := fun j hj => by
    have h4 := hVG.row j hj
    have h5 := hVG.t1
    have h6 := hVG.t2
    omega
  have hrt : ∀ j, j < G.r.length → ((G.r.getD j []).length : Int) = G.t := hVG.row
  have hgt1 := hVG.t1
  have hgt2 := hVG.t2
  have HCO := Lib.hid (fun (W : World) (hW : Ext W1 W) => c_l04Own (w := W) (hbx.ext hW) (hp.below ((hx1.trans hW).mono hB)) (hr.below ((hx1.trans hW).mono hB)) (Nat.le_trans hB (hx1.trans hW).size) h1 h2 h3 (by omega) (by omega) (fun j hj => (hrw j hj).1))
  obtain ⟨m, hm⟩ : ∃ m, G.p.length = m := ⟨_, rfl⟩
  rw [hmn, hm] at hrw hrt
  rw [hm] at hn1 hp hbx h1 hcp
  rw [hmn, hm] at hr hbx h2 hct
  have hRL : G.r.length = m := hmn.trans hm
  have HRW := Lib.hid hrw
  have HPL := Lib.hid hm
  have HRL := Lib.hid hRL
  have HP := Lib.hid hp
  have HBX1 := Lib.hid hbx
  have HRT := Lib.hid hrt
  have HR := Lib.hid hr
  have hmn3 : m = n := by omega
  have hn2 : m ≤ 16 := by rw [← hm]; exact hVG.n2
  rw [hm, hRL] at hW1
  rw [hm, hRL]
  obtain ⟨mu, hmu⟩ : ∃ mu, mu = shF G X := ⟨_, rfl⟩
  rw [← hmu]
  have HMU := Lib.hid hmu
  clear hVG hmn hpl hrl hrw hp hr h3 h hm hRL hmu hrt hnm
  subst hmn3
  have i4 : ((m : Int) != (m : Int)) = false := by simp
  have HXL := Lib.hid h'.1
  have HI := Lib.hid h'
  go_enter Try.func37, Try.ntmps37
  go_wp2_with (fail)
  rw [← hW1]
  clear hW1
  obtain ⟨p0, p1, p2, _⟩ := id hbx
  go_wp2_with (first | (go_at_call 63; refine Calls.mono HIS.out ?_; rintro e w1 ⟨rfl, n1, rfl⟩) | (go_at_call 66; refine Calls.mono (HCO.out _ (by repeat (first | assumption | exact Ext.refl _ | apply Ext.drewN | apply Ext.drew | apply Ext.alloc | (refine Ext.trans ?_ (by assumption)) | (refine Ext.set ?_ (by dsimp only; omega) _)))) ?_; rintro e w2 ⟨x, rfl, ho, hx2⟩; obtain ⟨Ap2, cp2, At2, ct2, gp, g, f, hv, hop⟩ := ho.inP; rw [HPL.out, HRL.out] at hv hop; subst hv; have hx12 : Ext W1 w2 := (by repeat (first | assumption | exact Ext.refl _ | apply Ext.drewN | apply Ext.drew | apply Ext.alloc | (refine Ext.trans ?_ (by assumption)) | (refine Ext.set ?_ (by dsimp only; omega) _))); have hb2 := HBX1.out.ext hx12; obtain ⟨b0, b1', b2', _⟩ := id hb2))
  have hx02 : Ext w w2 := hx1.trans hx12
  have hzb := hx12.blk hz1
  have hz2 := hx12.size
  have hz3 := hx2.size
  simp only [size_drewN] at hz3 hop
  have hgb := hop.g_in.resolve_left (by omega)
  obtain ⟨off, _, _, hAt2, _⟩ := hop.row (i := 0) hn1
  subst hAt2
  have HOP := Lib.hid (hop.more (lo' := w.heap.size + 1 + 1) (by omega) (Nat.le_refl _))
  have HZB := Lib.hid hzb
  clear hop hzb ho b0 b1' b2' p0 p1 p2
  go_loopw [7] (fun y wr => ∃ k : Nat, k ≤ m ∧ y = .int .i64 k ∧ wr.heap[w2.heap.size]? = some (.cells #[.int .i64 G.t, .slice Ap2 m cp2, .slice (some ⟨g, off, none⟩) m ct2] 25 (0, 0)) ∧ wr.heap[w.heap.size + 1]? = some (.cells #[.int .i64 0, .slice none 0 0, .slice none 0 0] 25 (0, 0)) ∧ OwP wr (w.heap.size + 1 + 1) w2.heap.size Ap2 m cp2 (some ⟨g, off, none⟩) m ct2 gp g f G.p (gstS mu G k 0) ∧ (∀ j, j < k → inR (X.getD j 0) = true) ∧ Ext W1 wr) (fun y _ => m - (intOf y).toNat)
  case atStart => exact ⟨0, Nat.zero_le _, rfl, (by first | exact heap_alloc_new w2 _ | exact blk_set1 (blk_set1 (blk_set1 (heap_alloc_new w2 _) 0 _) 1 _) 2 _), (by repeat (first | exact HZB.out | apply al_old | (refine set_other ?_ (by dsimp only; omega)))), by rw [gst_start]; exact HOP.out.ext (Nat.le_refl _) (by repeat (first | assumption | exact Ext.refl _ | apply Ext.drewN | apply Ext.drew | apply Ext.alloc | (refine Ext.trans ?_ (by assumption)) | (refine Ext.set ?_ (by dsimp only; omega) _))), fun j hj => absurd hj (Nat.not_lt_zero _), (by repeat (first | assumption | exact Ext.refl _ | apply Ext.drewN | apply Ext.drew | apply Ext.alloc | (refine Ext.trans ?_ (by assumption)) | (refine Ext.set ?_ (by dsimp only; omega) _)))⟩
  case round =>
    obtain ⟨k, hk, rfl, hbX, hzX, hop, hko, hx⟩ := hrel
    have HKO := Lib.hid hko
    have HBX := Lib.hid hbX
    have HZX := Lib.hid hzX
    have HOQ := Lib.hid hop
    have hs2 := blk_lt hbX
    have hx0r : Ext w wr := hx1.trans hx
    by_cases hlt : k < m
    · have hlt' : (k : Int) < (m : Int) := by omega
      have hRl : k < G.r.length := by rw [HRL.out]; exact hlt
      obtain ⟨b3, o3, rfl, hb3, hc3w⟩ := (HI.out.below (hx1.mono hB')).2 k hlt
      have hb3w : b3 < W1.heap.size := Nat.lt_of_lt_of_le hb3 (Nat.le_trans hB' hx1.size)
      obtain ⟨sx, hsx⟩ : ∃ sx, X.getD k 0 = sx := ⟨_, rfl⟩
      rw [hsx] at hc3w
      have HSX := Lib.hid hsx
      have hc3 := (hx.cell (p := ⟨b3, o3 + k, none⟩) hb3w).trans hc3w
      obtain ⟨b1, o1, A1, c1r, rfl, hb1, hc1w, hrd1, hlc1⟩ := (HR.out.below (hx1.mono hB)).cell hlt
      have hb1w : b1 < W1.heap.size := Nat.lt_of_lt_of_le hb1 (Nat.le_trans hB hx1.size)
      obtain ⟨g1, g2⟩ := HRW.out k hlt
      obtain ⟨Lk, hLk⟩ : ∃ x, (G.r.getD k []).length = x := ⟨_, rfl⟩
      have hrowk : ∀ t, ((gstS mu G k t).getD k []).length = Lk := fun t => by rw [gstS_row hRl, hLk]
      rw [hLk] at g1 g2
      have HROW := Lib.hid hrowk
      have HLK := Lib.hid hLk
      have hLkI : (1 : Int) ≤ (Lk : Int) := by omega
      have hfi := hop.f_in k hlt
      have hbr := HBX1.out.ext hx
      have p1r := hbr.p1
      have hlkt := HRT.out k hlt
      rw [hLk] at hlkt hc1w hrd1 hlc1
      obtain ⟨d0, d1, d2, y0, y1, y2⟩ := three_c hbX
      have HLT := Lib.hid hlkt
      have HRD1 := Lib.hid hrd1
      clear hop hrowk hLk hbr hsx hlkt hrd1 hko
      cases hR : inR sx
      · have HNO := Lib.hid (allR_no (X := X) (k := k) (by rw [HXL.out]; exact hlt) (by rw [HSX.out]; exact hR))
        unfold inR at hR
        obtain ⟨c0', c1', c2', x0', x1', x2'⟩ := three_c hzX
        clear hbX hzX
        go_wp2_with (go_at_call 82; refine Calls.mono (c_l00In _ _ _ _) ?_; rw [hR]; rintro e w7 ⟨rfl, rfl⟩)
        (try simp only [Exit.inBlock, Exit.then])
        refine bodyPost_ret (results_cell2 rfl _ _ (w.heap.size + 1) 25 #[.int .i64 0, .slice none 0 0, .slice none 0 0] (0, 0) _ rfl (by repeat (first | exact HZX.out | exact blk_set1 (blk_set1 (blk_set1 HZX.out 0 _) 1 _) 2 _)) Try.underlying25 rfl (by kernel_rfl)) rfl ?_
        exact retG_no HNO.out (by repeat (first | assumption | exact Ext.refl _ | apply Ext.drewN | apply Ext.drew | apply Ext.alloc | (refine Ext.trans ?_ (by assumption)) | (refine Ext.set ?_ (by dsimp only; omega) _)))
      have HRS := Lib.hid hR
      unfold inR at hR
      obtain ⟨hs1', hs2'⟩ := inB_of hR
      obtain ⟨off8, A4, c4, hA4, z1, _⟩ := HOQ.out.row hlt
      obtain rfl : off = off8 := by simpa using hA4
      rw [HROW.out] at z1
      clear hbX hzX
      go_wp2_with (go_at_call 82; refine Calls.mono (c_l00In _ _ _ _) ?_; rw [hR]; rintro e w7 ⟨rfl, rfl⟩)
      go_loopw [8] (fun z wq => ∃ t : Nat, 0 ≤ t ∧ t ≤ Lk ∧ z = .int .i64 t ∧ wq.heap[w2.heap.size]? = some (.cells #[.int .i64 G.t, .slice Ap2 m cp2, .slice (some ⟨g, off, none⟩) m ct2] 25 (0, 0)) ∧ wq.heap[w.heap.size + 1]? = some (.cells #[.int .i64 0, .slice none 0 0, .slice none 0 0] 25 (0, 0)) ∧ OwP wq (w.heap.size + 1 + 1) w2.heap.size Ap2 m cp2 (some ⟨g, off, none⟩) m ct2 gp g f G.p (gstS mu G k t) ∧ Ext W1 wq) (fun z _ => Lk - (intOf z).toNat)
      case atStart => exact ⟨0, Nat.le_refl _, Nat.zero_le _, rfl, (by repeat (first | exact HBX.out | (refine set_other ?_ (by dsimp only; omega)))), (by repeat (first | exact HZX.out | (refine set_other ?_ (by dsimp only; omega)))), HOQ.out, (by repeat (first | assumption | exact Ext.refl _ | apply Ext.drewN | apply Ext.drew | apply Ext.alloc | (refine Ext.trans ?_ (by assumption)) | (refine Ext.set ?_ (by dsimp only; omega) _)))⟩
      case round =>
        obtain ⟨t, ht1, htL, rfl, hbX, hzX, hop, hxq⟩ := hrel
        have HBQ := Lib.hid hbX
        have HZQ := Lib.hid hzX
        have HOT := Lib.hid hop
        have hs3 := blk_lt hbX
        have p0q := (HBX1.out.ext hxq).p0
        have p2q := (HBX1.out.ext hxq).p2
        have hltq := HLT.out
        have hc1q := (hxq.cell (p := ⟨b1, o1 + k, none⟩) hb1w).trans hc1w
        have hc3q := (hxq.cell (p := ⟨b3, o3 + k, none⟩) hb3w).trans hc3w
        obtain ⟨d0, d1, d2, y0, y1, y2⟩ := three_c hbX
        by_cases htl : t < Lk
        · have htl' : (t : Int) < (Lk : Int) := by omega
          obtain ⟨off8, A4, c4, o4, q4, hA8, z1, rfl, z3, z4, z5, z6⟩ := hop.num (i := k) (k := t) hlt (by rw [HROW.out]; exact htl)
          obtain rfl : off = off8 := by simpa using hA8
          rw [HROW.out] at z1
          have htG : (t : Int) < G.t := by omega
          obtain ⟨D, hD⟩ : ∃ D : Int, (t : Int) + sx = D := ⟨_, rfl⟩
          obtain ⟨tm, htm⟩ : ∃ tm : Int, G.t - 1 = tm := ⟨_, rfl⟩
          have hwD : IntKind.i64.wrap D = D := IntWalk.i64_in _ (by omega)
          have hwtm : IntKind.i64.wrap tm = tm := IntWalk.i64_in _ (by omega)
          have hmuv : mu k t = fshift (G.r.getD k []) (-sx) t := by rw [HMU.out]; unfold shF; rw [HSX.out]
          have cI : ∀ W, Calls Try.prog 82 #[.int .i64 D, .int .i64 0, .int .i64 tm] W fun e w' => e = .returned (.bool (inB D 0 tm)) ∧ w' = W := fun W => Calls.mono (c_l00In D 0 tm W) (fun e w' hh => ⟨hh.1, hh.2.symm⟩)
          cases hI2 : inB D 0 tm
          · rw [hI2] at cI
            have HFV : Hid (mu k t = fz) := Lib.hid (by rw [hmuv]; unfold fshift; rw [if_neg (by rw [HLK.out]; rcases inB_not hI2 with hh | hh <;> omega)])
            have HPUT := Lib.hid (z6 0 fz fl_fz)
            clear hbX hzX hop z4 z6 hltq hmuv
            go_wp2_with (fail)
            go_quiet (first | (go_at_call 82; exact Calls.quiet_of_same (cI _)))
            go_wp2_with (fail)
            exact ⟨⟨t + 1, by omega, by omega, by go_num, (by repeat (first | exact HBQ.out | (refine set_other ?_ (by dsimp only; omega)))), (by repeat (first | exact HZQ.out | (refine set_other ?_ (by dsimp only; omega)))), (by have h9 := HPUT.out; rw [← HFV.out, gst_put hRl (by rw [HLK.out]; exact htl)] at h9; first | exact h9 | exact h9.ext (Nat.le_of_lt (by simp; omega)) (Ext.drewN (Ext.refl _) _)), (by repeat (first | assumption | exact Ext.refl _ | apply Ext.drewN | apply Ext.drew | apply Ext.alloc | (refine Ext.trans ?_ (by assumption)) | (refine Ext.set ?_ (by dsimp only; omega) _)))⟩, by simp [intOf]; omega⟩
          · rw [hI2] at cI
            obtain ⟨q1, q2⟩ := inB_of hI2
            obtain ⟨d, rfl⟩ : ∃ d : Nat, D = (d : Int) := ⟨D.toNat, by omega⟩
            have hdl : d < Lk := by omega
            have hdl' : (d : Int) < (Lk : Int) := by omega
            obtain ⟨b5, o5, t5, rfl, hb5, hc5, ht5⟩ := (HRD1.out.below (w' := wr) (Below.mono hxq (Nat.le_trans hB hx1.size))).cell hdl
            have HFV : Hid (mu k t = (G.r.getD k []).getD d none) := Lib.hid (by rw [hmuv]; unfold fshift; rw [if_pos (by rw [HLK.out]; omega), show (t : Int) - -sx = (d : Int) by omega, Int.toNat_natCast])
            have HPUT := Lib.hid (z6 t5 _ ht5)
            clear hbX hzX hop z4 z6 hltq hmuv q1 q2
            go_wp2_with (fail)
            go_quiet (first | (go_at_call 82; exact Calls.quiet_of_same (cI _)))
            go_wp2_with (fail)
            go_quiet (fail)
            go_wp2_with (fail)
            exact ⟨⟨t + 1, by omega, by omega, by go_num, (by repeat (first | exact HBQ.out | (refine set_other ?_ (by dsimp only; omega)))), (by repeat (first | exact HZQ.out | (refine set_other ?_ (by dsimp only; omega)))), (by have h9 := HPUT.out; rw [← HFV.out, gst_put hRl (by rw [HLK.out]; exact htl)] at h9; first | exact h9 | exact h9.ext (Nat.le_of_lt (by simp; omega)) (Ext.drewN (Ext.refl _) _)), (by repeat (first | assumption | exact Ext.refl _ | apply Ext.drewN | apply Ext.drew | apply Ext.alloc | (refine Ext.trans ?_ (by assumption)) | (refine Ext.set ?_ (by dsimp only; omega) _)))⟩, by simp [intOf]; omega⟩
        · obtain rfl : t = Lk := by omega
          have hn9 : gstS mu G k t = gstS mu G (k + 1) 0 := gst_next HLK.out.symm
          have HNX : Hid (OwP wr (w.heap.size + 1 + 1) w2.heap.size Ap2 m cp2 (some ⟨g, off, none⟩) m ct2 gp g f G.p (gstS mu G (k + 1) 0)) := Lib.hid (by rw [← hn9]; exact hop)
          obtain ⟨off8, A4, c4, hA4, z1, _⟩ := hop.row hlt
          obtain rfl : off = off8 := by simpa using hA4
          rw [HROW.out] at z1
          have htG : ¬ ((t : Int) < G.t) := by omega
          clear hbX hzX hop hn9 hltq
          go_wp2_with (fail)
          exact ⟨⟨k + 1, by omega, by go_num, HBQ.out, HZQ.out, HNX.out, fun j hj => by rcases Nat.lt_or_ge j k with h9 | h9; exact HKO.out j h9; (obtain rfl : j = k := by omega); rw [HSX.out]; exact HRS.out, hxq⟩, by simp [intOf]; omega⟩
    · obtain rfl : k = m := by omega
      have p1r := (HBX1.out.ext hx).p1
      obtain ⟨d0, d1, d2, y0, y1, y2⟩ := three_c hbX
      obtain ⟨c0', c1', c2', x0', x1', x2'⟩ := three_c hzX
      have hG : OwG wr (w.heap.size + 1 + 1) w2.heap.size (.agg #[.int .i64 G.t, .slice Ap2 k cp2, .slice (some ⟨g, off, none⟩) k ct2]) (genG mu G) := by
        have h1 := hop.toG (t := G.t)
        unfold genG
        rw [HRL.out]
        exact h1
      have HALL := Lib.hid (allR_yes (X := X) (by rw [HXL.out]; exact hko))
      have HG := Lib.hid hG
      have hmt : (genG mu G).p.length = k ∧ (genG mu G).r.length = k := ⟨HPL.out, gstS_len.trans HRL.out⟩
      have HBZ := Lib.hid (fun u0 u1 u2 => blk_set1 (blk_set1 (blk_set1 hzX 0 u0) 1 u1) 2 u2)
      clear hG hbX hzX hop hko
      go_wp2_with (fail)
      (try simp only [Exit.inBlock, Exit.then])
      refine bodyPost_ret (results_cell2 rfl _ _ (w.heap.size + 1) 25 #[.int .i64 G.t, .slice Ap2 k cp2, .slice (some ⟨g, off, none⟩) k ct2] (0, 0) _ rfl (HBZ.out _ _ _) Try.underlying25 rfl (by kernel_rfl)) rfl ?_
      show RetG _ _ _ (allR X) (genG mu G)
      rw [HALL.out]
      exact ⟨_, rfl, by
        refine OwG.more (lo := w.heap.size + 1 + 1) (hi := w2.heap.size) ?_ (by omega) (by simp; omega)
        repeat (first | exact HG.out | (refine OwG.setOther ?_ (by left; dsimp only; omega) _)), (by repeat (first | assumption | exact Ext.refl _ | apply Ext.drewN | apply Ext.drew | apply Ext.alloc | (refine Ext.trans ?_ (by assumption)) | (refine Ext.set ?_ (by dsimp only; omega) _)))⟩
end Go.Proofs.Ytceldjkgddbfaaa
