/- Contracts: all that comes back, on both sides. Condition: the list is read. -/
import Derived.Test.YthgmkipifolbfabUy
import Derived.Deep.RegionHeld
import Derived.Maps.AppendAt
namespace Go.Proofs.Ythgmkipifolbfab
open Go.RowKit Ieee

theorem owns_made {w : World} {base g : Nat} {e : TypeId} (hg : g = w.heap.size) (hb : base ≤ w.heap.size) : (w.alloc (.cells #[] e)).ownsRow base e 1 (.slice (some ⟨g, 0, none⟩) 0 0) 0 [] := by
  subst hg; exact World.ownsRow_made _ _ 0 hb (Nat.zero_le _) rfl
theorem Kb.drew2 {lo hi : Nat} {a b : World} (h : Kb lo hi a b) : Kb lo hi a b.drew := ⟨⟨h.below.os, h.below.tape, h.below.output, h.below.size, h.below.block⟩, h.above⟩
theorem grown_at {W W' : World} {row : Option Nat} {k : Nat} {o : Obj} (hg : W.grownBy W' row) (h : W.heap[k]? = some o) (hne : some k ≠ row) : W'.heap[k]? = some o := (hg.block k (blk_lt h) hne).trans h
theorem owns_kb {W W' : World} {base lo hi n : Nat} {v : Value} {e : TypeId} {xs : List Value} (h : W.ownsRow base e 1 v n xs) (hk : Kb lo hi W W') (hb : ∀ b, v.ownBlock = some b → b < lo ∨ hi ≤ b) : W'.ownsRow base e 1 v n xs := by
  refine ⟨h.1, ?_⟩
  rcases h.2 with hn | ⟨g, cap, cur, hv, hbg, hg, hrest⟩
  · exact .inl hn
  · refine .inr ⟨g, cap, cur, hv, hbg, ?_, hrest⟩
    rcases hb g (by rw [hv]; rfl) with h1 | h1
    · exact (hk.below.block g h1).trans hg
    · exact (hk.above g h1 (blk_lt hg)).trans hg
theorem own_lt {W : World} {base n : Nat} {v : Value} {e : TypeId} {xs : List Value} (h : W.ownsRow base e 1 v n xs) {b : Nat} (hb : v.ownBlock = some b) : b < W.heap.size := (h.lt b hb).2
theorem kb_cell {lo hi : Nat} {W W' : World} (h : Kb lo hi W W') {g k : Nat} {u : Value} (hg : g < lo) (hc : W.cell? ⟨g, k, none⟩ = some u) : W'.cell? ⟨g, k, none⟩ = some u := (h.below.cell hg).trans hc

set_option maxRecDepth 20000 in
set_option maxHeartbeats 4000000 in
theorem c_spec_EchoesOf {w : World} {B n c : Nat} {A : Option Addr} {L : List (Option Nat)} (h : RdF w B A n L) (hB : B ≤ w.heap.size) (hn : n ≤ 1048576) {p : Nat} {P : Option Nat} (fp : Fl .f32 p P) {i : Int} (_hi0 : -9223372036854775808 ≤ i) (_hi1 : i ≤ 9223372036854775807) :
    Calls Try.prog 27 #[.slice A n c, .float .f32 p, .int .i64 i] w fun e w' => RetL w e w' (fare L && (fsurf P && inB i 1 128)) (lst (fecho L P (n + 1)) i.toNat) := by
  cases hV : fare L
  · go_enter Try.func27, Try.ntmps27
    go_wp2_with (go_at_call 49; refine Calls.mono (c_l03Are (h.below (Below.mono (w := w) (by repeat (first | assumption | exact Ext.refl _ | apply Ext.drewN | apply Ext.drew | apply Ext.alloc | (refine Ext.trans ?_ (by assumption)) | (refine Ext.set ?_ (by dsimp only; omega) _))) hB)) hn) ?_; rw [hV]; rintro e w1 ⟨rfl, rfl⟩)
    go_ret2
    exact retL_no rfl (by repeat (first | assumption | exact Ext.refl _ | apply Ext.drewN | apply Ext.drew | apply Ext.alloc | (refine Ext.trans ?_ (by assumption)) | (refine Ext.set ?_ (by dsimp only; omega) _)))
  rw [Bool.true_and]
  cases hW : fsurf P
  · go_enter Try.func27, Try.ntmps27
    go_wp2_with (first | (go_at_call 49; refine Calls.mono (c_l03Are (h.below (Below.mono (w := w) (by repeat (first | assumption | exact Ext.refl _ | apply Ext.drewN | apply Ext.drew | apply Ext.alloc | (refine Ext.trans ?_ (by assumption)) | (refine Ext.set ?_ (by dsimp only; omega) _))) hB)) hn) ?_; rw [hV]; rintro e w1 ⟨rfl, rfl⟩) | (go_at_call 56; refine Calls.mono (c_l03Surface fp) ?_; rw [hW]; rintro e w1 ⟨rfl, rfl⟩))
    go_ret2
    exact retL_no rfl (by repeat (first | assumption | exact Ext.refl _ | apply Ext.drewN | apply Ext.drew | apply Ext.alloc | (refine Ext.trans ?_ (by assumption)) | (refine Ext.set ?_ (by dsimp only; omega) _)))
  rw [Bool.true_and]
  cases hX : inB i 1 128
  · go_enter Try.func27, Try.ntmps27
    go_wp2_with (first | (go_at_call 49; refine Calls.mono (c_l03Are (h.below (Below.mono (w := w) (by repeat (first | assumption | exact Ext.refl _ | apply Ext.drewN | apply Ext.drew | apply Ext.alloc | (refine Ext.trans ?_ (by assumption)) | (refine Ext.set ?_ (by dsimp only; omega) _))) hB)) hn) ?_; rw [hV]; rintro e w1 ⟨rfl, rfl⟩) | (go_at_call 56; refine Calls.mono (c_l03Surface fp) ?_; rw [hW]; rintro e w1 ⟨rfl, rfl⟩) | (go_at_call 54; refine Calls.mono (c_l00In _ _ _ _) ?_; rw [hX]; rintro e w1 ⟨rfl, rfl⟩))
    go_ret2
    exact retL_no rfl (by repeat (first | assumption | exact Ext.refl _ | apply Ext.drewN | apply Ext.drew | apply Ext.alloc | (refine Ext.trans ?_ (by assumption)) | (refine Ext.set ?_ (by dsimp only; omega) _)))
  obtain ⟨g1, g2⟩ := inB_of hX
  obtain ⟨M, rfl⟩ : ∃ M : Nat, i = (M : Int) := ⟨i.toNat, by omega⟩
  rw [Int.toNat_natCast]
  have hn24 : 1 ≤ n ∧ n ≤ 24 := by
    have := hV; unfold fare at this; rw [Bool.and_eq_true] at this
    have := elen_of this.2
    have := h.len; omega
  obtain ⟨N, hN⟩ : ∃ N, N = n + 1 := ⟨_, rfl⟩
  rw [← hN]
  have hNi : (n : Int) + 1 = (N : Int) := by omega
  have hwN : IntKind.i64.wrap (N : Int) = (N : Int) := IntWalk.i64_in _ (by omega)
  have hN0 : 0 < N := by omega
  have hN2 : N ≤ 25 := by omega
  have hN0' : (0 : Int) < (N : Int) := by omega
  have HN := Lib.hid hN
  clear hN
  have hmkN := fun W => run_make_row' (P := Try.prog) 22 29 (.float .f32 0) 4 Try.underlying22 info_f32 rfl .i64 .i64 N (by omega) (by omega) W
  have hl := Lib.hid h.len
  obtain ⟨i0, hi, hz0, hz1, hz2⟩ := info_parts info_f32
  obtain ⟨v0, e0, z0⟩ := own_cell (w := (w.alloc (.cells (madeCells #[.float .f32 0] N) 29)).alloc (.cells (madeCells #[.float .f32 0] N) 29)) (g := w.heap.size) (al_old (heap_alloc_new w _)) (size_madeCells _ _) hN0
  go_enter Try.func27, Try.ntmps27
  go_wp2_with (first | (go_at_call 49; refine Calls.mono (c_l03Are (h.below (Below.mono (w := w) (by repeat (first | assumption | exact Ext.refl _ | apply Ext.drewN | apply Ext.drew | apply Ext.alloc | (refine Ext.trans ?_ (by assumption)) | (refine Ext.set ?_ (by dsimp only; omega) _))) hB)) hn) ?_; rw [hV]; rintro e w1 ⟨rfl, rfl⟩) | (go_at_call 56; refine Calls.mono (c_l03Surface fp) ?_; rw [hW]; rintro e w1 ⟨rfl, rfl⟩) | (go_at_call 54; refine Calls.mono (c_l00In _ _ _ _) ?_; rw [hX]; rintro e w1 ⟨rfl, rfl⟩))
  go_loopw [9, 10, 11, 12] (fun d u v y wr => ∃ (t g1 g2 : Nat) (c1 c2 : Array Value) (xs : List Value), t ≤ 2 * M ∧ y = .int .i64 t ∧ d = .slice (some ⟨g1, 0, none⟩) N N ∧ u = .slice (some ⟨g2, 0, none⟩) N N ∧ wr.heap[g1]? = some (.cells c1 29 (0, 0)) ∧ wr.heap[g2]? = some (.cells c2 29 (0, 0)) ∧ c1.size = N ∧ c2.size = N ∧ RowF c1 N (wv L P N t).1 ∧ RowF c2 N (wv L P N t).2 ∧ wr.ownsRow w.heap.size 29 1 v (t / 2) xs ∧ (∀ b, v.ownBlock = some b → b ≠ g1 ∧ b ≠ g2) ∧ (∀ j, j < t / 2 → ∃ r, xs[j]? = some (.float .f32 r) ∧ Fl .f32 r (fecho L P N j)) ∧ Ext w wr) (fun _ _ _ y _ => 2 * M - (intOf y).toNat)
  case atStart =>
    exact ⟨0, w.heap.size, w.heap.size + 1, _, _, [], Nat.zero_le _, rfl, rfl, rfl, by exact al_old (w := (w.alloc _).alloc _) (al_old (w := w.alloc _) (heap_alloc_new w _)), by exact al_old (w := (w.alloc _).alloc _) (al_at (w := w.alloc _) (al_size w _).symm rfl), by rw [Array.size_setIfInBounds]; exact size_madeCells _ _, size_madeCells _ _, (RowF.made (F := fun _ => fz) (fun _ _ => rfl)).set (size_madeCells _ _) (show Fl .f32 1065353216 fu from fl_fu) (fun j _ hj => by show fz = if j = 0 then fu else fz; rw [if_neg hj]), RowF.made (fun _ _ => rfl), by exact owns_made (w := (w.alloc _).alloc _) (by simp) (Ext.alloc (Ext.alloc (Ext.refl w) _) _).size, by intro b hb; simp [Value.ownBlock] at hb; omega, fun j hj => absurd hj (Nat.not_lt_zero _), (by repeat (first | assumption | exact Ext.refl _ | apply Ext.drewN | apply Ext.drew | apply Ext.alloc | (refine Ext.trans ?_ (by assumption)) | (refine Ext.set ?_ (by dsimp only; omega) _)))⟩
  case round =>
    clear e0 z0
    obtain ⟨t, g1, g2, c1, c2, xs, ht, rfl, rfl, rfl, hh1, hh2, hs1, hs2, hr1, hr2, hown, hob, hxs, hx⟩ := hrel
    obtain ⟨W0, hW0⟩ : ∃ W0 : World, W0 = wr := ⟨wr, rfl⟩
    subst hW0
    have HR1 := Lib.hid hr1
    have HR2 := Lib.hid hr2
    have HX := Lib.hid hxs
    have HOB := Lib.hid hob
    clear hr1 hr2 hxs hob
    by_cases hlt : t < 2 * M
    · have hlt' : (t : Int) < 2 * (M : Int) := by omega
      have hg1 := blk_lt hh1
      have hg2 := blk_lt hh2
      have hBr : B ≤ W0.heap.size := by have := hx.size; omega
      rcases Nat.mod_two_eq_zero_or_one t with hpar | hpar
      · have hrem : (t : Int).tmod 2 = 0 := by rw [Int.tmod_eq_emod_of_nonneg (by omega)]; omega
        have htp := Lib.hid (show (t + 1) / 2 = t / 2 by omega)
        clear hpar
        have HOWN := Lib.hid hown
        have HH1 := Lib.hid hh1
        have HH2 := Lib.hid hh2
        clear hown hh1 hh2
        go_wp2_with (fail)
        obtain ⟨W, hWE⟩ : ∃ W, W = (W0.alloc (.cells (madeCells #[.float .f32 0] N) 29)).alloc (.cells (madeCells #[.float .f32 0] N) 29) := ⟨_, rfl⟩
        have hwd : W.heap[W0.heap.size]? = some (.cells (madeCells #[.float .f32 0] N) 29) := by rw [hWE]; exact al_old (w := W0.alloc _) (heap_alloc_new W0 _)
        have hwu : W.heap[W0.heap.size + 1]? = some (.cells (madeCells #[.float .f32 0] N) 29) := by rw [hWE]; exact al_at (w := W0.alloc _) (al_size W0 _).symm rfl
        have hw1 : W.heap[g1]? = some (.cells c1 29 (0, 0)) := by rw [hWE]; exact al_old (w := W0.alloc _) (al_old HH1.out)
        have hw2 : W.heap[g2]? = some (.cells c2 29 (0, 0)) := by rw [hWE]; exact al_old (w := W0.alloc _) (al_old HH2.out)
        have hWx : Ext w W := by rw [hWE]; exact Ext.alloc (Ext.alloc hx _) _
        have hWo := World.ownsRow.alloc (w := W0.alloc (.cells (madeCells #[.float .f32 0] N) 29)) (World.ownsRow.alloc (w := W0) HOWN.out (.cells (madeCells #[.float .f32 0] N) 29)) (.cells (madeCells #[.float .f32 0] N) 29)
        rw [← hWE] at hWo
        have hWb1 := fun b hb => own_lt (b := b) HOWN.out hb
        have hWb := fun b hb => Or.inl (b := W0.heap.size + 2 ≤ b) (hWb1 b hb)
        clear hWb1
        go_loopw [63] (fun z wq => ∃ (k : Nat) (cd cu : Array Value), k ≤ n ∧ z = .int .i64 k ∧ wq.heap[W0.heap.size]? = some (.cells cd 29 (0, 0)) ∧ wq.heap[W0.heap.size + 1]? = some (.cells cu 29 (0, 0)) ∧ cd.size = N ∧ cu.size = N ∧ RowF cd N (stDk L (lst (wv L P N t).1 N) (lst (wv L P N t).2 N) k) ∧ RowF cu N (fsetK (stU L (lst (wv L P N t).1 N) (lst (wv L P N t).2 N)) k) ∧ Kb W0.heap.size (W0.heap.size + 2) W wq) (fun z _ => n - (intOf z).toNat)
        case atStart => exact ⟨0, _, _, Nat.zero_le _, rfl, by rw [← hWE]; exact hwd, by rw [← hWE]; exact hwu, size_madeCells _ _, size_madeCells _ _, RowF.made (fun j _ => stDk_zero L _ _ j), RowF.made (fun j _ => fsetK_zero _ j), by rw [hWE]; exact Kb.refl _ _ _⟩
        case round =>
          clear hwd hwu
          obtain ⟨k, cd, cu, hk, rfl, hgd, hgu, hsd, hsu, hrd, hru, hkb⟩ := hrel
          have HRD := Lib.hid hrd
          have HRU := Lib.hid hru
          have HGD := Lib.hid hgd
          have HGU := Lib.hid hgu
          have HSD := Lib.hid hsd
          have HSU := Lib.hid hsu
          clear hrd hru hgd hgu hsd hsu
          by_cases hlt : k < n
          · have hlt' : (k : Int) < (n : Int) := by omega
            have hltN : (k : Int) < (N : Int) := by omega
            obtain ⟨m, hm⟩ : ∃ m, m = k + 1 := ⟨_, rfl⟩
            have hmk2 : (k : Int) + 1 = (m : Int) := by omega
            have hwr : IntKind.i64.wrap (m : Int) = (m : Int) := IntWalk.i64_in _ (by omega)
            have hmN : (m : Int) < (N : Int) := by omega
            obtain ⟨b1, o1, t1, rfl, hb1, hc1, ht1⟩ := (h.below (hWx.mono hB)).cell hlt
            obtain ⟨t2, hc2, _, ht2⟩ := RowF.cell HR1.out hw1 (show k < N by omega)
            obtain ⟨t3, hc3, _, ht3⟩ := RowF.cell HR2.out hw2 (show m < N by omega)
            have hb1g : b1 < W0.heap.size := by have := hx.size; omega
            obtain ⟨u0, e0, z0⟩ := own_cell HGU.out HSU.out (show k < N by omega)
            have hT := stU_at (D := (lst (wv L P N t).1 N)) (U := (lst (wv L P N t).2 N)) hl.out hlt
            rw [lst_at (show k < N by omega), ← hm, lst_at (show m < N by omega)] at hT
            have hT3 := stDk_at L (lst (wv L P N t).1 N) (lst (wv L P N t).2 N) k
            rw [lst_at (show k < N by omega), ← hm, lst_at (show m < N by omega)] at hT3
            have HT := Lib.hid hT
            have HT3 := Lib.hid hT3
            have HM := Lib.hid hm
            clear hT hT3 hm
            obtain ⟨Ra, Na, qa, fa⟩ := fop_any (P := Try.prog) (op := .add) rfl 29
            have FA := Lib.hid fa
            clear fa
            obtain ⟨Rs, Ns, qs, fs⟩ := fop_any (P := Try.prog) (op := .sub) rfl 29
            have FS := Lib.hid fs
            clear fs
            obtain ⟨Rm, Nm, qm, fm⟩ := fop_any (P := Try.prog) (op := .mul) rfl 29
            have FM := Lib.hid fm
            clear fm
            go_wp2_with (fail)
            go_cut [15] from 66 to 89 (fun sx wx => sx = .int .i64 k ∧ ∃ cu', wx.heap[W0.heap.size + 1]? = some (.cells cu' 29 (0, 0)) ∧ wx.heap[W0.heap.size]? = some (.cells cd 29 (0, 0)) ∧ cu'.size = N ∧ RowF cu' N (fsetK (stU L (lst (wv L P N t).1 N) (lst (wv L P N t).2 N)) (k + 1)) ∧ Kb W0.heap.size (W0.heap.size + 2) W wx)
            case first =>
              go_region_held (fun V => V.cell? ⟨b1, o1 + k, none⟩ = some (.float .f32 t1) ∧ V.cell? ⟨g1, k, none⟩ = some (.float .f32 t2) ∧ V.cell? ⟨g2, m, none⟩ = some (.float .f32 t3)) (exact ⟨((Kb.below (lo := W0.heap.size) (hi := W0.heap.size + 2) (w := W) (by repeat (first | assumption | apply Kb.drewN | apply Kb.drew2 | (refine Kb.set ?_ (by dsimp only; omega) (by dsimp only; omega) _)))).cell hb1g).trans hc1, kb_cell (lo := W0.heap.size) (hi := W0.heap.size + 2) (W := W) (by repeat (first | assumption | apply Kb.drewN | apply Kb.drew2 | (refine Kb.set ?_ (by dsimp only; omega) (by dsimp only; omega) _))) hg1 hc2, kb_cell (lo := W0.heap.size) (hi := W0.heap.size + 2) (W := W) (by repeat (first | assumption | apply Kb.drewN | apply Kb.drew2 | (refine Kb.set ?_ (by dsimp only; omega) (by dsimp only; omega) _))) hg2 hc3⟩) (fail)
              all_goals
                go_wp2_with (fail)
                go_meet
                refine ⟨rfl, _, blk_set1 HGU.out k _, set_other HGD.out (by dsimp only; omega), by rw [Array.size_setIfInBounds]; exact HSU.out, HRU.out.set HSU.out (by rw [fsetK_at, HT.out]; exact FA.out _ _ _ _ _ (FM.out _ _ _ _ _ ht1 ht2) (FM.out _ _ _ _ _ (FS.out _ _ _ _ _ fl_fu ht1) ht3)) (fun j _ hj => fsetK_other _ hj), (by repeat (first | assumption | apply Kb.drewN | apply Kb.drew2 | (refine Kb.set ?_ (by dsimp only; omega) (by dsimp only; omega) _)))⟩
            case rest =>
              obtain ⟨rfl, cu', hgu2, hgd2, hsu2, hru2, hkb2⟩ := hcut
              clear e0 z0 hkb
              have HGD2 := Lib.hid hgd2
              have HGU2 := Lib.hid hgu2
              have HSU2 := Lib.hid hsu2
              have HRU2 := Lib.hid hru2
              clear hgd2 hgu2 hsu2 hru2
              obtain ⟨v0, e0, z0⟩ := own_cell HGD2.out HSD.out (show m < N by omega)
              go_wp2_with (fail)
              go_region_held (fun V => V.cell? ⟨b1, o1 + k, none⟩ = some (.float .f32 t1) ∧ V.cell? ⟨g1, k, none⟩ = some (.float .f32 t2) ∧ V.cell? ⟨g2, m, none⟩ = some (.float .f32 t3)) (exact ⟨((Kb.below (lo := W0.heap.size) (hi := W0.heap.size + 2) (w := W) (by repeat (first | assumption | apply Kb.drewN | apply Kb.drew2 | (refine Kb.set ?_ (by dsimp only; omega) (by dsimp only; omega) _)))).cell hb1g).trans hc1, kb_cell (lo := W0.heap.size) (hi := W0.heap.size + 2) (W := W) (by repeat (first | assumption | apply Kb.drewN | apply Kb.drew2 | (refine Kb.set ?_ (by dsimp only; omega) (by dsimp only; omega) _))) hg1 hc2, kb_cell (lo := W0.heap.size) (hi := W0.heap.size + 2) (W := W) (by repeat (first | assumption | apply Kb.drewN | apply Kb.drew2 | (refine Kb.set ?_ (by dsimp only; omega) (by dsimp only; omega) _))) hg2 hc3⟩) (fail)
              all_goals
                go_wp2_with (fail)
                refine ⟨⟨k + 1, _, cu', by omega, by go_num, blk_set1 HGD2.out m _, set_other HGU2.out (by dsimp only; omega), by rw [Array.size_setIfInBounds]; exact HSD.out, HSU2.out, HRD.out.set HSD.out (by rw [← HM.out, HT3.out]; exact FS.out _ _ _ _ _ (FM.out _ _ _ _ _ (FA.out _ _ _ _ _ fl_fu ht1) ht2) (FM.out _ _ _ _ _ ht1 ht3)) (fun j _ hj => stDk_other (by rw [← HM.out]; exact hj)), HRU2.out, (by repeat (first | assumption | apply Kb.drewN | apply Kb.drew2 | (refine Kb.set ?_ (by dsimp only; omega) (by dsimp only; omega) _)))⟩, by simp [intOf]; omega⟩
          · obtain rfl : k = n := by omega
            obtain ⟨t3, hc3, _, ht3⟩ := RowF.cell HR2.out hw2 hN0
            have hc3' := kb_cell hkb hg2 hc3
            obtain ⟨v0, e0, z0⟩ := own_cell HGD.out HSD.out hN0
            go_wp2_with (refine upon_fop (op := .mul) rfl fp ht3 ?_; intro r7 n7 hr7)
            have hr1 : RowF (cd.setIfInBounds 0 (.float .f32 (Op.negFloat .f32 r7))) N (wv L P N (t + 1)).1 := HRD.out.set HSD.out (by show Fl .f32 _ (fag P ((lst (wv L P N t).2 N).getD 0 none)); rw [lst_at hN0]; exact fneg32_fl hr7) (fun j hj h0 => stDk_end h0 (by have := HN.out; omega))
            have hr2 : RowF cu N (wv L P N (t + 1)).2 := HRU.out.keep (fun j hj => stU_end hl.out (by have := HN.out; omega))
            have hxx : Ext w wr := Kb.ext hkb hWx (hx.size)
            have hsz0 := hx.size
            refine ⟨⟨t + 1, W0.heap.size, W0.heap.size + 1, _, cu, xs, by omega, by go_num, rfl, rfl, by exact blk_set1 HGD.out 0 _, by exact set_other HGU.out (by dsimp only; omega), by rw [Array.size_setIfInBounds]; exact HSD.out, HSU.out, hr1, hr2, ?_, ?_, by rw [htp.out]; exact HX.out, (by repeat (first | assumption | exact Ext.refl _ | apply Ext.drewN | apply Ext.drew | apply Ext.alloc | (refine Ext.trans ?_ (by assumption)) | (refine Ext.set ?_ (by dsimp only; omega) _)))⟩, by simp [intOf]; omega⟩
            · rw [htp.out]; exact owns_kb (W := W) hWo (by repeat (first | assumption | apply Kb.drewN | apply Kb.drew2 | (refine Kb.set ?_ (by dsimp only; omega) (by dsimp only; omega) _))) hWb
            · intro b hb; rcases hWb b hb with h1 | h1 <;> omega
      · have hrem : (t : Int).tmod 2 = 1 := by rw [Int.tmod_eq_emod_of_nonneg (by omega)]; omega
        have htp := Lib.hid (show (t + 1) / 2 = t / 2 + 1 by omega)
        have hfe : fecho L P N (t / 2) = (wv L P N t).2 0 := by unfold fecho; rw [show 2 * (t / 2) + 1 = t by omega]
        have HFE := Lib.hid hfe
        clear hpar hfe
        obtain ⟨t4, hc4, _, ht4⟩ := RowF.cell HR2.out hh2 hN0
        rw [← HFE.out] at ht4
        have hc4' : ((W0.alloc (.cells (madeCells #[.float .f32 0] N) 29)).alloc (.cells (madeCells #[.float .f32 0] N) 29)).cell? ⟨g2, 0, none⟩ = some (.float .f32 t4) := ((Ext.alloc (Ext.alloc (Ext.refl W0) _) _).cell hg2).trans hc4
        have hown1 := World.ownsRow.alloc (w := W0.alloc (.cells (madeCells #[.float .f32 0] N) 29)) (World.ownsRow.alloc (w := W0) hown (.cells (madeCells #[.float .f32 0] N) 29)) (.cells (madeCells #[.float .f32 0] N) 29)
        have hl1 : xs.length = t / 2 := by have := hown.1; omega
        have hwd0 := al_old (w := (W0.alloc (.cells (madeCells #[.float .f32 0] N) 29)).alloc (.cells (madeCells #[.float .f32 0] N) 29)) (o := .cells #[.float .f32 t4] 29) (al_old (w := W0.alloc (.cells (madeCells #[.float .f32 0] N) 29)) (o := (.cells (madeCells #[.float .f32 0] N) 29)) (heap_alloc_new W0 (.cells (madeCells #[.float .f32 0] N) 29)))
        have hwu0 := al_old (w := (W0.alloc (.cells (madeCells #[.float .f32 0] N) 29)).alloc (.cells (madeCells #[.float .f32 0] N) 29)) (o := .cells #[.float .f32 t4] 29) (al_at (w := W0.alloc (.cells (madeCells #[.float .f32 0] N) 29)) (o := (.cells (madeCells #[.float .f32 0] N) 29)) (al_size W0 _).symm rfl)
        have hw10 := al_old (w := (W0.alloc (.cells (madeCells #[.float .f32 0] N) 29)).alloc (.cells (madeCells #[.float .f32 0] N) 29)) (o := .cells #[.float .f32 t4] 29) (al_old (w := W0.alloc (.cells (madeCells #[.float .f32 0] N) 29)) (o := (.cells (madeCells #[.float .f32 0] N) 29)) (al_old (o := (.cells (madeCells #[.float .f32 0] N) 29)) hh1))
        have hw20 := al_old (w := (W0.alloc (.cells (madeCells #[.float .f32 0] N) 29)).alloc (.cells (madeCells #[.float .f32 0] N) 29)) (o := .cells #[.float .f32 t4] 29) (al_old (w := W0.alloc (.cells (madeCells #[.float .f32 0] N) 29)) (o := (.cells (madeCells #[.float .f32 0] N) 29)) (al_old (o := (.cells (madeCells #[.float .f32 0] N) 29)) hh2))
        have hob1 := fun b hb => own_lt (W := W0) (b := b) hown hb
        have hsw : ((W0.alloc (.cells (madeCells #[.float .f32 0] N) 29)).alloc (.cells (madeCells #[.float .f32 0] N) 29)).heap.size = W0.heap.size + 1 + 1 := by simp
        have hnew := one_new (w := (W0.alloc (.cells (madeCells #[.float .f32 0] N) 29)).alloc (.cells (madeCells #[.float .f32 0] N) 29)) (r := t4)
        rw [hsw] at hnew
        have HOWN := Lib.hid hown
        have HOWN1 := Lib.hid hown1
        have HWD := Lib.hid hwd0
        have HWU := Lib.hid hwu0
        have HW1 := Lib.hid hw10
        have HW2 := Lib.hid hw20
        have HOB1 := Lib.hid hob1
        have HNEW := Lib.hid hnew
        clear hown hown1 hh1 hh2 hwd0 hwu0 hw10 hw20 hob1 hnew hsw
        go_wp2_with (at_builtin; refine wpList_append_own_at _ rfl _ _ 22 rfl w.heap.size 29 i0 (.float .f32 0) 1 4 Try.underlying22 hi hz0 hz1 hz2 rfl (by decide) _ _ _ rfl (World.ownsRow.alloc (w := (W0.alloc (.cells (madeCells #[.float .f32 0] N) 29)).alloc (.cells (madeCells #[.float .f32 0] N) 29)) HOWN1.out _) ⟨W0.heap.size + 1 + 1, 0, none⟩ 1 1 [.float .f32 t4] rfl rfl ?_ ?_ ?_ ?_ ?_ ?_)
        all_goals first
          | exact HNEW.out
          | (intro u hu; simp at hu; subst hu; rfl)
          | (unfold maxLen; omega)
          | omega
          | (have := hx.size; simp; omega)
          | (intro v' w4 hown' hgrow _ hat
             have hx4 : Ext w w4 := grown_ext (Ext.alloc (Ext.alloc (Ext.alloc hx _) _) _) (World.ownsRow.alloc (w := (W0.alloc (.cells (madeCells #[.float .f32 0] N) 29)).alloc (.cells (madeCells #[.float .f32 0] N) 29)) HOWN1.out _) hgrow
             have HXX := Lib.hid (row_step hl1 HX.out ht4)
             obtain ⟨W, hWE⟩ : ∃ W, W = w4 := ⟨_, rfl⟩
             have hwd : W.heap[W0.heap.size]? = some (.cells (madeCells #[.float .f32 0] N) 29) := by rw [hWE]; exact grown_at hgrow HWD.out (fun e => by have := HOB1.out _ e.symm; omega)
             have hwu : W.heap[W0.heap.size + 1]? = some (.cells (madeCells #[.float .f32 0] N) 29) := by rw [hWE]; exact grown_at hgrow HWU.out (fun e => by have := HOB1.out _ e.symm; omega)
             have hw1 : W.heap[g1]? = some (.cells c1 29 (0, 0)) := by rw [hWE]; exact grown_at hgrow HW1.out (fun e => (HOB.out _ e.symm).1 rfl)
             have hw2 : W.heap[g2]? = some (.cells c2 29 (0, 0)) := by rw [hWE]; exact grown_at hgrow HW2.out (fun e => (HOB.out _ e.symm).2 rfl)
             have hWx : Ext w W := by rw [hWE]; exact hx4
             have hWo : W.ownsRow w.heap.size 29 1 v' (t / 2 + 1) (xs ++ [.float .f32 t4]) := by rw [hWE]; exact hown'
             have hWb : ∀ b, v'.ownBlock = some b → b < W0.heap.size ∨ W0.heap.size + 2 ≤ b := by
               intro b hb
               rcases hat with h1 | h1
               · rw [h1] at hb; exact Or.inl (HOB1.out _ hb)
               · rw [h1] at hb; have := Option.some.inj hb; (try simp at this); omega
             clear hown' hgrow hat hx4
             go_wp2_with (fail)
             go_loopw [63] (fun z wq => ∃ (k : Nat) (cd cu : Array Value), k ≤ n ∧ z = .int .i64 k ∧ wq.heap[W0.heap.size]? = some (.cells cd 29 (0, 0)) ∧ wq.heap[W0.heap.size + 1]? = some (.cells cu 29 (0, 0)) ∧ cd.size = N ∧ cu.size = N ∧ RowF cd N (stDk L (lst (wv L P N t).1 N) (lst (wv L P N t).2 N) k) ∧ RowF cu N (fsetK (stU L (lst (wv L P N t).1 N) (lst (wv L P N t).2 N)) k) ∧ Kb W0.heap.size (W0.heap.size + 2) W wq) (fun z _ => n - (intOf z).toNat)
             case atStart => exact ⟨0, _, _, Nat.zero_le _, rfl, by rw [← hWE]; exact hwd, by rw [← hWE]; exact hwu, size_madeCells _ _, size_madeCells _ _, RowF.made (fun j _ => stDk_zero L _ _ j), RowF.made (fun j _ => fsetK_zero _ j), by rw [hWE]; exact Kb.refl _ _ _⟩
             case round =>
               clear hwd hwu
               obtain ⟨k, cd, cu, hk, rfl, hgd, hgu, hsd, hsu, hrd, hru, hkb⟩ := hrel
               have HRD := Lib.hid hrd
               have HRU := Lib.hid hru
               have HGD := Lib.hid hgd
               have HGU := Lib.hid hgu
               have HSD := Lib.hid hsd
               have HSU := Lib.hid hsu
               clear hrd hru hgd hgu hsd hsu
               by_cases hlt : k < n
               · have hlt' : (k : Int) < (n : Int) := by omega
                 have hltN : (k : Int) < (N : Int) := by omega
                 obtain ⟨m, hm⟩ : ∃ m, m = k + 1 := ⟨_, rfl⟩
                 have hmk2 : (k : Int) + 1 = (m : Int) := by omega
                 have hwr : IntKind.i64.wrap (m : Int) = (m : Int) := IntWalk.i64_in _ (by omega)
                 have hmN : (m : Int) < (N : Int) := by omega
                 obtain ⟨b1, o1, t1, rfl, hb1, hc1, ht1⟩ := (h.below (hWx.mono hB)).cell hlt
                 obtain ⟨t2, hc2, _, ht2⟩ := RowF.cell HR1.out hw1 (show k < N by omega)
                 obtain ⟨t3, hc3, _, ht3⟩ := RowF.cell HR2.out hw2 (show m < N by omega)
                 have hb1g : b1 < W0.heap.size := by have := hx.size; omega
                 obtain ⟨u0, e0, z0⟩ := own_cell HGU.out HSU.out (show k < N by omega)
                 have hT := stU_at (D := (lst (wv L P N t).1 N)) (U := (lst (wv L P N t).2 N)) hl.out hlt
                 rw [lst_at (show k < N by omega), ← hm, lst_at (show m < N by omega)] at hT
                 have hT3 := stDk_at L (lst (wv L P N t).1 N) (lst (wv L P N t).2 N) k
                 rw [lst_at (show k < N by omega), ← hm, lst_at (show m < N by omega)] at hT3
                 have HT := Lib.hid hT
                 have HT3 := Lib.hid hT3
                 have HM := Lib.hid hm
                 clear hT hT3 hm
                 obtain ⟨Ra, Na, qa, fa⟩ := fop_any (P := Try.prog) (op := .add) rfl 29
                 have FA := Lib.hid fa
                 clear fa
                 obtain ⟨Rs, Ns, qs, fs⟩ := fop_any (P := Try.prog) (op := .sub) rfl 29
                 have FS := Lib.hid fs
                 clear fs
                 obtain ⟨Rm, Nm, qm, fm⟩ := fop_any (P := Try.prog) (op := .mul) rfl 29
                 have FM := Lib.hid fm
                 clear fm
                 go_wp2_with (fail)
                 go_cut [15] from 66 to 89 (fun sx wx => sx = .int .i64 k ∧ ∃ cu', wx.heap[W0.heap.size + 1]? = some (.cells cu' 29 (0, 0)) ∧ wx.heap[W0.heap.size]? = some (.cells cd 29 (0, 0)) ∧ cu'.size = N ∧ RowF cu' N (fsetK (stU L (lst (wv L P N t).1 N) (lst (wv L P N t).2 N)) (k + 1)) ∧ Kb W0.heap.size (W0.heap.size + 2) W wx)
                 case first =>
                   go_region_held (fun V => V.cell? ⟨b1, o1 + k, none⟩ = some (.float .f32 t1) ∧ V.cell? ⟨g1, k, none⟩ = some (.float .f32 t2) ∧ V.cell? ⟨g2, m, none⟩ = some (.float .f32 t3)) (exact ⟨((Kb.below (lo := W0.heap.size) (hi := W0.heap.size + 2) (w := W) (by repeat (first | assumption | apply Kb.drewN | apply Kb.drew2 | (refine Kb.set ?_ (by dsimp only; omega) (by dsimp only; omega) _)))).cell hb1g).trans hc1, kb_cell (lo := W0.heap.size) (hi := W0.heap.size + 2) (W := W) (by repeat (first | assumption | apply Kb.drewN | apply Kb.drew2 | (refine Kb.set ?_ (by dsimp only; omega) (by dsimp only; omega) _))) hg1 hc2, kb_cell (lo := W0.heap.size) (hi := W0.heap.size + 2) (W := W) (by repeat (first | assumption | apply Kb.drewN | apply Kb.drew2 | (refine Kb.set ?_ (by dsimp only; omega) (by dsimp only; omega) _))) hg2 hc3⟩) (fail)
                   all_goals
                     go_wp2_with (fail)
                     go_meet
                     refine ⟨rfl, _, blk_set1 HGU.out k _, set_other HGD.out (by dsimp only; omega), by rw [Array.size_setIfInBounds]; exact HSU.out, HRU.out.set HSU.out (by rw [fsetK_at, HT.out]; exact FA.out _ _ _ _ _ (FM.out _ _ _ _ _ ht1 ht2) (FM.out _ _ _ _ _ (FS.out _ _ _ _ _ fl_fu ht1) ht3)) (fun j _ hj => fsetK_other _ hj), (by repeat (first | assumption | apply Kb.drewN | apply Kb.drew2 | (refine Kb.set ?_ (by dsimp only; omega) (by dsimp only; omega) _)))⟩
                 case rest =>
                   obtain ⟨rfl, cu', hgu2, hgd2, hsu2, hru2, hkb2⟩ := hcut
                   clear e0 z0 hkb
                   have HGD2 := Lib.hid hgd2
                   have HGU2 := Lib.hid hgu2
                   have HSU2 := Lib.hid hsu2
                   have HRU2 := Lib.hid hru2
                   clear hgd2 hgu2 hsu2 hru2
                   obtain ⟨v0, e0, z0⟩ := own_cell HGD2.out HSD.out (show m < N by omega)
                   go_wp2_with (fail)
                   go_region_held (fun V => V.cell? ⟨b1, o1 + k, none⟩ = some (.float .f32 t1) ∧ V.cell? ⟨g1, k, none⟩ = some (.float .f32 t2) ∧ V.cell? ⟨g2, m, none⟩ = some (.float .f32 t3)) (exact ⟨((Kb.below (lo := W0.heap.size) (hi := W0.heap.size + 2) (w := W) (by repeat (first | assumption | apply Kb.drewN | apply Kb.drew2 | (refine Kb.set ?_ (by dsimp only; omega) (by dsimp only; omega) _)))).cell hb1g).trans hc1, kb_cell (lo := W0.heap.size) (hi := W0.heap.size + 2) (W := W) (by repeat (first | assumption | apply Kb.drewN | apply Kb.drew2 | (refine Kb.set ?_ (by dsimp only; omega) (by dsimp only; omega) _))) hg1 hc2, kb_cell (lo := W0.heap.size) (hi := W0.heap.size + 2) (W := W) (by repeat (first | assumption | apply Kb.drewN | apply Kb.drew2 | (refine Kb.set ?_ (by dsimp only; omega) (by dsimp only; omega) _))) hg2 hc3⟩) (fail)
                   all_goals
                     go_wp2_with (fail)
                     refine ⟨⟨k + 1, _, cu', by omega, by go_num, blk_set1 HGD2.out m _, set_other HGU2.out (by dsimp only; omega), by rw [Array.size_setIfInBounds]; exact HSD.out, HSU2.out, HRD.out.set HSD.out (by rw [← HM.out, HT3.out]; exact FS.out _ _ _ _ _ (FM.out _ _ _ _ _ (FA.out _ _ _ _ _ fl_fu ht1) ht2) (FM.out _ _ _ _ _ ht1 ht3)) (fun j _ hj => stDk_other (by rw [← HM.out]; exact hj)), HRU2.out, (by repeat (first | assumption | apply Kb.drewN | apply Kb.drew2 | (refine Kb.set ?_ (by dsimp only; omega) (by dsimp only; omega) _)))⟩, by simp [intOf]; omega⟩
               · obtain rfl : k = n := by omega
                 obtain ⟨t3, hc3, _, ht3⟩ := RowF.cell HR2.out hw2 hN0
                 have hc3' := kb_cell hkb hg2 hc3
                 obtain ⟨v0, e0, z0⟩ := own_cell HGD.out HSD.out hN0
                 go_wp2_with (refine upon_fop (op := .mul) rfl fp ht3 ?_; intro r7 n7 hr7)
                 have hr1 : RowF (cd.setIfInBounds 0 (.float .f32 (Op.negFloat .f32 r7))) N (wv L P N (t + 1)).1 := HRD.out.set HSD.out (by show Fl .f32 _ (fag P ((lst (wv L P N t).2 N).getD 0 none)); rw [lst_at hN0]; exact fneg32_fl hr7) (fun j hj h0 => stDk_end h0 (by have := HN.out; omega))
                 have hr2 : RowF cu N (wv L P N (t + 1)).2 := HRU.out.keep (fun j hj => stU_end hl.out (by have := HN.out; omega))
                 have hxx : Ext w wr := Kb.ext hkb hWx (hx.size)
                 have hsz0 := hx.size
                 refine ⟨⟨t + 1, W0.heap.size, W0.heap.size + 1, _, cu, xs ++ [.float .f32 t4], by omega, by go_num, rfl, rfl, by exact blk_set1 HGD.out 0 _, by exact set_other HGU.out (by dsimp only; omega), by rw [Array.size_setIfInBounds]; exact HSD.out, HSU.out, hr1, hr2, ?_, ?_, by rw [htp.out]; exact HXX.out, (by repeat (first | assumption | exact Ext.refl _ | apply Ext.drewN | apply Ext.drew | apply Ext.alloc | (refine Ext.trans ?_ (by assumption)) | (refine Ext.set ?_ (by dsimp only; omega) _)))⟩, by simp [intOf]; omega⟩
                 · rw [htp.out]; exact owns_kb (W := W) hWo (by repeat (first | assumption | apply Kb.drewN | apply Kb.drew2 | (refine Kb.set ?_ (by dsimp only; omega) (by dsimp only; omega) _))) hWb
                 · intro b hb; rcases hWb b hb with h1 | h1 <;> omega)
    · have hnlt : ¬ ((t : Int) < 2 * (M : Int)) := by omega
      have e2 : t / 2 = M := by omega
      have HX' := HX.out
      rw [e2] at hown HX'
      have ho4 : OwF W0 w.heap.size _ M (fecho L P N) := ⟨xs, hown, HX'⟩
      obtain ⟨A4, c4, rfl, ho5⟩ := ho4.owl
      go_wp2_with (fail)
      go_ret2
      exact ⟨_, _, _, rfl, ho5, hx⟩
end Go.Proofs.Ythgmkipifolbfab
