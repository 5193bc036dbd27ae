/- Contracts: gathers of zeros, on both sides. Condition: the list is read. -/
import Derived.Test.YtceldjkgddbfaaaZe
namespace Go.Proofs.Ytceldjkgddbfaaa
open Go.RowKit Ieee

/-- A gather of zeros. -/
def flatG (i : Int) (L : List (Option Nat)) : Gat := ⟨i, L, lstS (fun _ => lst (fun _ => fz) i.toNat) L.length⟩
def okFl (i : Int) (n : Nat) (L : List (Option Nat)) : Bool := inB i 1 64 && (plen n && allL (ffin .f32) L)
set_option linter.unusedSimpArgs false in
set_option maxRecDepth 20000 in
set_option maxHeartbeats 8000000 in
theorem c_spec_FlatGather {w : World} {B n c : Nat} {A : Option Addr} {L : List (Option Nat)} (h : RdF w B A n L) (hB : B ≤ w.heap.size) (hn : n ≤ 1048576) {i : Int} (hi0 : -9223372036854775808 ≤ i) (hj0 : i ≤ 9223372036854775807) :
    Calls Try.prog 15 #[.int .i64 i, .slice A n c] w fun e w' => RetG w e w' (okFl i n L) (flatG i L) := by
  unfold okFl
  obtain ⟨W1, hW1⟩ : ∃ W1, W1 = w.alloc (.cells #[.int .i64 0, .slice none 0 0, .slice none 0 0] 25) := ⟨_, rfl⟩
  have hx1 : Ext w W1 := by rw [hW1]; exact (by repeat (first | assumption | exact Ext.refl _ | apply Ext.drewN | apply Ext.drew | apply Ext.alloc | (refine Ext.trans ?_ (by assumption)) | (refine Ext.set ?_ (by dsimp only; omega) _)))
  have hz1 : W1.heap[w.heap.size]? = some (.cells #[.int .i64 0, .slice none 0 0, .slice none 0 0] 25 (0, 0)) := by rw [hW1]; exact heap_alloc_new w _
  have HS1 : Hid (W1.heap.size = w.heap.size + 1) := Lib.hid (by rw [hW1]; exact al_size _ _)
  have HPL0 := Lib.hid (c_l04Places (c := c) (h.below (hx1.mono hB)) hn)
  cases hI : inB i 1 64
  · go_enter Try.func15, Try.ntmps15
    go_wp2_with (fail)
    rw [← hW1]
    obtain ⟨c0, c1, c2, x0, x1, x2⟩ := three_c hz1
    clear hW1
    go_wp2_with ((go_at_call 52; refine Calls.mono (c_l04Ticks _ _) ?_; rw [hI]; rintro e w1 ⟨rfl, rfl⟩))
    (try simp only [Exit.inBlock, Exit.then])
    refine bodyPost_ret (results_cell2 rfl _ _ w.heap.size 25 #[.int .i64 0, .slice none 0 0, .slice none 0 0] (0, 0) _ rfl (by repeat (first | exact hz1 | exact blk_set1 (blk_set1 (blk_set1 hz1 0 _) 1 _) 2 _)) Try.underlying25 rfl (by kernel_rfl)) rfl ?_
    exact retG_no rfl (by repeat (first | assumption | exact Ext.refl _ | apply Ext.drewN | apply Ext.drew | apply Ext.alloc | (refine Ext.trans ?_ (by assumption)) | (refine Ext.set ?_ (by dsimp only; omega) _)))
  rw [Bool.true_and]
  cases hL : (plen n && allL (ffin .f32) L)
  · go_enter Try.func15, Try.ntmps15
    go_wp2_with (fail)
    rw [← hW1]
    obtain ⟨c0, c1, c2, x0, x1, x2⟩ := three_c hz1
    clear hW1
    go_wp2_with (first | (go_at_call 52; refine Calls.mono (c_l04Ticks _ _) ?_; rw [hI]; rintro e w1 ⟨rfl, rfl⟩) | (go_at_call 53; refine Calls.mono (HPL0.out) ?_; rw [hL]; rintro e w1 ⟨rfl, n2, rfl⟩))
    (try simp only [Exit.inBlock, Exit.then])
    refine bodyPost_ret (results_cell2 rfl _ _ w.heap.size 25 #[.int .i64 0, .slice none 0 0, .slice none 0 0] (0, 0) _ rfl (by repeat (first | exact hz1 | exact blk_set1 (blk_set1 (blk_set1 hz1 0 _) 1 _) 2 _)) Try.underlying25 rfl (by kernel_rfl)) rfl ?_
    exact retG_no rfl (by repeat (first | assumption | exact Ext.refl _ | apply Ext.drewN | apply Ext.drew | apply Ext.alloc | (refine Ext.trans ?_ (by assumption)) | (refine Ext.set ?_ (by dsimp only; omega) _)))
  have hpn := plen_of (by rw [Bool.and_eq_true] at hL; exact hL.1)
  obtain ⟨hn1, hn2⟩ := hpn
  obtain ⟨i0, hi, hz0, hz10, hz20⟩ := info_parts info_f32
  obtain ⟨i1, hi1, hz11, hz12, hz13⟩ := info_parts info_f32s
  obtain ⟨p1, p2⟩ := inB_of hI
  obtain ⟨T, rfl⟩ : ∃ T : Nat, i = (T : Int) := ⟨i.toNat, by omega⟩
  have hT1 : 1 ≤ T := by omega
  have hT2 : T ≤ 64 := by omega
  have hmk := fun W => run_make_row' (P := Try.prog) 22 35 (.float .f32 0) 4 Try.underlying22 info_f32 rfl .i64 .i64 T (by omega) (by omega) W
  obtain ⟨G, hG⟩ : ∃ G, G = flatG (T : Int) L := ⟨_, rfl⟩
  rw [← hG]
  have HGt : Hid (G.t = (T : Int)) := Lib.hid (by rw [hG]; rfl)
  have HGp : Hid (G.p = L) := Lib.hid (by rw [hG]; rfl)
  have hlen := h.len
  have HPL : Hid (G.p.length = n) := Lib.hid (by rw [hG]; exact hlen)
  have HRL : Hid (G.r.length = n) := Lib.hid (by rw [hG]; exact (lstS_len _ _).trans hlen)
  have HROW : Hid (∀ j, j < n → G.r.getD j [] = lst (fun _ => fz) T) := Lib.hid (fun j hj => by rw [hG]; show (lstS _ _).getD j [] = _; rw [lstS_at (by omega)]; rfl)
  have HLK : Hid (∀ j, j < n → (G.r.getD j []).length = T) := Lib.hid (fun j hj => by rw [HROW.out j hj]; exact lst_len _ _)
  clear hG p1 p2 hi0 hj0
  obtain ⟨ba, oa, rfl, hba, rs, hrl, hrs⟩ := h.words hn1
  have HR := Lib.hid hrs
  clear hrs
  go_enter Try.func15, Try.ntmps15
  go_wp2_with (fail)
  rw [← hW1]
  clear hW1
  go_wp2_with (first | (go_at_call 52; refine Calls.mono (c_l04Ticks _ _) ?_; rw [hI]; rintro e w1 ⟨rfl, rfl⟩) | (go_at_call 53; refine Calls.mono (HPL0.out) ?_; rw [hL]; rintro e w1 ⟨rfl, n2, rfl⟩) | (at_builtin; refine wpList_append_own _ rfl _ _ 22 rfl W1.heap.size 35 i0 (.float .f32 0) 1 4 Try.underlying22 hi hz0 hz10 hz20 rfl (by decide) _ _ _ rfl (World.ownsRow_made (w := W1.drewN n2) _ 0 (Nat.le_refl _) (Nat.zero_le _) rfl) ⟨ba, oa, none⟩ n c (fvals rs) rfl (by simp [fvals, hrl]) ?_ ?_ ?_ ?_ ?_ ?_))
  all_goals first
    | (intro j u hj
       have hjn : j < n := by
         rcases Nat.lt_or_ge j n with h1 | h1
         · exact h1
         · rw [List.getElem?_eq_none (by simp [fvals, hrl]; omega)] at hj; cases hj
       rw [fvals_at (by omega)] at hj
       cases hj
       have hc := (HR.out j hjn).1
       have e0 : (⟨ba, oa, none⟩ : Addr).add j = ⟨ba, oa + j, none⟩ := by simp [Addr.add]
       rw [e0]
       exact ((Ext.alloc (Ext.drewN hx1 n2) _).cell (by show ba < _; omega)).trans hc)
    | (intro u hu; simp only [fvals, List.mem_map] at hu; obtain ⟨r, _, rfl⟩ := hu; rfl)
    | (unfold maxLen; omega)
    | omega
    | (simp; done)
    | skip
  intro v' w4 hown' hgrow _
  have hx4 : Ext W1 w4 := grown_ext (Ext.alloc (Ext.drewN (Ext.refl W1) n2) _) (World.ownsRow_made (w := W1.drewN n2) _ 0 (Nat.le_refl _) (Nat.zero_le _) rfl) hgrow
  obtain ⟨_, hd⟩ := hown'
  rcases hd with ⟨hv, h0⟩ | ⟨gp, capp, csp, rfl, hgp, hgpb, hnp, _, hsp, htk⟩
  · omega
  have hrp : RowF csp n (fun j => L.getD j none) := fun j hj => by
    have e1 : csp[j]? = (csp.toList.take (n * 1))[j]? := by rw [List.getElem?_take_of_lt (by omega)]; simp
    exact ⟨rs.getD j 0, by rw [e1, htk, fvals_at (by omega)], (HR.out j hj).2⟩
  have HRP := Lib.hid hrp
  have hx04 : Ext w w4 := hx1.trans hx4
  have hz4 := hx4.blk hz1
  have hgp4 := blk_lt hgpb
  have hcsp : n ≤ csp.size := by omega
  have HS := HS1.out
  have hs4 := hx4.size
  have hgp1 : w.heap.size + 1 ≤ gp := by have := hgp; omega
  have hs41 : w.heap.size + 1 ≤ w4.heap.size := by omega
  have hgpo : gp ≠ w4.heap.size + 1 := by omega
  have HGB := Lib.hid hgpb
  have HZ4 := Lib.hid hz4
  have HSS := Lib.hid HS
  clear htk hgpb hrp hz4 hgrow HS hs4 hgp
  go_wp2_with (fail)
  go_loopw [7] (fun y wr => ∃ (k : Nat) (sv : Value) (f : Nat → Nat), k ≤ n ∧ y = .int .i64 (k : Int) ∧ wr.heap[w4.heap.size + 1]? = some (.cells #[.int .i64 (T : Int), .slice (some ⟨gp, 0, none⟩) n capp, sv] 25 (0, 0)) ∧ wr.heap[gp]? = some (.cells csp 35 (0, 0)) ∧ wr.heap[w.heap.size]? = some (.cells #[.int .i64 0, .slice none 0 0, .slice none 0 0] 25 (0, 0)) ∧ ((k = 0 ∧ sv = .slice none 0 0) ∨ ∃ gs cap cs, sv = .slice (some ⟨gs, 0, none⟩) k cap ∧ wr.heap[gs]? = some (.cells cs 22 (0, 0)) ∧ k ≤ cap ∧ cap ≤ maxLen ∧ cs.size = cap ∧ RowsIn wr (w4.heap.size + 1 + 1) gs f cs 0 k G.r ∧ w.heap.size + 1 ≤ gs) ∧ w4.heap.size + 1 + 1 ≤ wr.heap.size ∧ Ext w wr) (fun y _ => n - (intOf y).toNat)
  case atStart => exact ⟨0, _, id, Nat.zero_le _, rfl, (by first | exact al_at (al_size _ _).symm rfl | exact blk_set1 (blk_set1 (blk_set1 (al_at (al_size _ _).symm rfl) 0 _) 1 _) 2 _), (by repeat (first | exact HGB.out | apply al_old | (refine set_other ?_ (by dsimp only; omega)))), (by repeat (first | exact HZ4.out | apply al_old | (refine set_other ?_ (by dsimp only; omega)))), .inr ⟨w4.heap.size, 0, #[], rfl, (by repeat (first | exact heap_alloc_new w4 _ | apply al_old | (refine set_other ?_ (by dsimp only; omega)))), Nat.le_refl _, Nat.zero_le _, rfl, RowsIn.zero _ _ _ _ _ _ _, by omega⟩, (by first | (simp; done) | (simp; omega)), (by repeat (first | assumption | exact Ext.refl _ | apply Ext.drewN | apply Ext.drew | apply Ext.alloc | (refine Ext.trans ?_ (by assumption)) | (refine Ext.set ?_ (by dsimp only; omega) _)))⟩
  case round =>
    obtain ⟨k, sv, f, hk, rfl, hgoX, hgpX, hzbX, hsp, hsz2, hx⟩ := hrel
    have HGO := Lib.hid hgoX
    have HGP := Lib.hid hgpX
    have HZB := Lib.hid hzbX
    have hgol := blk_lt hgoX
    by_cases hlt : k < n
    · have hlt' : (k : Int) < (n : Int) := by omega
      obtain ⟨gs, cs, cap, hOW, hcz, hkc, hrows, hg1, hg2, hg3, hgl, hob⟩ : ∃ (gs : Nat) (cs : Array Value) (cap : Nat), (∀ w3, Ext wr w3 → w3.ownsRow (w.heap.size + 1) 22 1 sv k (cs.toList.take k)) ∧ cs.size = cap ∧ k ≤ cap ∧ RowsIn wr (w4.heap.size + 1 + 1) gs f cs 0 k G.r ∧ w4.heap.size + 1 ≠ gs ∧ gp ≠ gs ∧ w.heap.size ≠ gs ∧ gs < wr.heap.size ∧ (sv.ownBlock = some gs ∨ sv.ownBlock = none) := by
        rcases hsp with ⟨rfl, rfl⟩ | ⟨gs, cap, cs, rfl, q1, q2, q3, q4, q5, q6⟩
        · exact ⟨ba, #[], 0, fun w3 _ => ⟨by simp, .inl ⟨rfl, rfl⟩⟩, rfl, Nat.le_refl _, RowsIn.zero _ _ _ _ _ _ _, by omega, by omega, by omega, by omega, .inr rfl⟩
        · exact ⟨gs, cs, cap, fun w3 hx3 => ⟨by simp; omega, .inr ⟨gs, cap, cs, rfl, q6, hx3.blk q1, q2, q3, by omega, by rw [Nat.mul_one]⟩⟩, q4, q2, q5, typ_ne hgoX q1 (by decide), typ_ne hgpX q1 (by decide), by omega, blk_lt q1, .inl rfl⟩
      have HRO := Lib.hid hrows
      have HCZ := Lib.hid hcz
      have HOW := Lib.hid hOW
      have HOB := Lib.hid hob
      have hlk := HLK.out k hlt
      have hrk := HROW.out k hlt
      have HLKk := Lib.hid hlk
      have HRK := Lib.hid hrk
      clear hgoX hgpX hzbX hsp hrows hcz hOW hob hlk hrk
      go_wp2_with (fail)
      refine wp_region_any (by kernel_rfl) ?_
      refine wpAny_mo_go (md := .any) (R := Ext) (w := wr) [(0, 29), (1, 30), (2, 31), (3, 32), (4, 33)] [5, 6, 7] (tl := [_, _, _]) (S := ?S1_) (by kernel_rfl) (by rfl) (by rfl) Ext.refl ext_tr (ext_drew1 _) ?hS1_ ?go1_
      case hS1_ => intro vs; simp only [putAll, Act.put, List.setIfInBounds_toArray, List.set_cons_zero, List.set_cons_succ]; rfl
      case go1_ =>
      refine mo_fix _ (by rfl) (by rfl) (by intro vs w1 hx_ hd; have q0 := (three_c (hx_.blk HGO.out)).2.2.1; go_simp; first | done | rfl) ?_
      refine mo_fix _ (by rfl) (by rfl) (by intro vs w1 hx_ hd; have q0 := (three_c (hx_.blk HGO.out)).2.2.1; have e0 := hd 0 (by kernel_rfl); simp (decide := true) only [factAt, if_true, if_false] at e0; simp only [e0]; go_simp; first | done | rfl) ?_
      refine mo_fix _ (by rfl) (by rfl) (by intro vs w1 hx_ hd; have q0 := (three_c (hx_.blk HGO.out)).2.2.1; go_simp; first | done | rfl) ?_
      refine mo_make (fun a => .slice (some a) T T) (.cells (madeCells #[.float .f32 0] T) 35) (by rfl) (by rfl) (by intro vs w1 hx_ hd; have q0 := (three_c (hx_.blk HGO.out)).2.2.1; have e2 := hd 2 (by kernel_rfl); simp (decide := true) only [factAt, if_true, if_false] at e2; simp only [e2]; go_simp; first | done | rfl) ?_
      refine mo_make_of (fun a => .slice (some a) 1 1) (fun us => .cells #[us 3] 22) (by rfl) (by rfl) (by intro us vs w1 hu hx_ hd; have q0 := (three_c (hx_.blk HGO.out)).2.2.1; have e3 := hd 3 (by kernel_rfl); simp (decide := true) only [factAt, if_true, if_false] at e3; rw [hu 3 (by kernel_rfl)]; obtain ⟨g3, e3, _⟩ := e3; rw [e3]; go_simp; first | done | rfl) ?_
      refine mo_end ?_
      intro vs w3 hx3 hd
      have e1 := hd 1 (by kernel_rfl)
      have e3 := hd 3 (by kernel_rfl)
      obtain ⟨us, hu, e4⟩ := seen_got (hd 4 (by kernel_rfl))
      simp (decide := true) only [factAt, if_true, if_false] at e1 e3 e4
      rw [hu 3 (by kernel_rfl)] at e4
      obtain ⟨gr, e3, hgr, hhr⟩ := e3
      obtain ⟨g37, e4, hg37, hh37⟩ := e4
      rw [e3] at hh37
      dsimp only at e4
      have hgr2 := blk_lt hhr
      have hor : OwL w3 gr (gr + 1) (some ⟨gr, 0, none⟩) T (lst (fun _ => fz) T) := (own_lst hhr (size_madeCells _ _) (fun j hj => ⟨0, made_get _ _ _ hj, fl_fz⟩)).at0
      have hgrs : gr ≠ gs := by omega
      have hc37 : w3.cell? ⟨g37, 0, none⟩ = some (.slice (some ⟨gr, 0, none⟩) T T) := by rw [cell_of_row w3 g37 _ _ _ (0, 0) hh37]; rfl
      have hn37 : ∀ j u, [Value.slice (some ⟨gr, 0, none⟩) T T][j]? = some u → w3.cell? ((⟨g37, 0, none⟩ : Addr).add j) = some u := by
        intro j u hj
        match j, hj with
        | 0, hj =>
          simp only [List.getElem?_cons_zero, Option.some.injEq] at hj
          subst hj
          simpa [Addr.add] using hc37
      have HOWN := Lib.hid (HOW.out w3 hx3)
      have HR3 := Lib.hid (HRO.out.ext hx3)
      have HGO3 := Lib.hid (hx3.blk HGO.out)
      have HGP3 := Lib.hid (hx3.blk HGP.out)
      have HZB3 := Lib.hid (hx3.blk HZB.out)
      have HOR := Lib.hid hor
      have HN37 := Lib.hid hn37
      generalize vs 1 = v1 at e1 ⊢
      generalize vs 4 = v4' at e4 ⊢
      subst e1 e4
      clear hd hu hor hhr hh37 hc37 hn37 e3
      refine wpList_append_own_at _ rfl _ _ 23 rfl (w.heap.size + 1) 22 i1 (.slice none 0 0) 1 24 Try.underlying23 hi1 hz11 hz12 hz13 rfl (by decide) _ k (cs.toList.take k) rfl HOWN.out ⟨g37, 0, none⟩ 1 1 [.slice (some ⟨gr, 0, none⟩) T T] rfl rfl HN37.out ?_ ?_ ?_ ?_ ?_
      all_goals first
        | (intro u hu; simp only [List.mem_singleton] at hu; subst hu; rfl)
        | (unfold maxLen; omega)
        | omega
        | (have := hx.size; have := hx3.size; omega)
        | skip
      intro v5 w5 hown5 hgrow5 _ hblk5
      have hx5 : Ext w w5 := Below.grown (hx.trans hx3) hgrow5 (hx.trans hx3).size (fun j hj => Nat.le_trans (by omega) (HOWN.out.lt j hj).1)
      have hgrow5 : w3.grownBy w5 v1.ownBlock := hgrow5
      have hblk5 : v5.ownBlock = v1.ownBlock ∨ v5.ownBlock = some w3.heap.size := hblk5
      have hgrow6 : w3.grownBy w5 (some gs) := by
        rcases HOB.out with e | e
        · rw [e] at hgrow5; exact hgrow5
        · rw [e] at hgrow5; exact ⟨hgrow5.os, hgrow5.tape, hgrow5.output, hgrow5.size, fun b hb _ => hgrow5.block b hb (by simp)⟩
      have hblk6 : v5.ownBlock = some gs ∨ v5.ownBlock = some w3.heap.size := by
        rcases hblk5 with e | e
        · rcases HOB.out with e2 | e2
          · exact .inl (e.trans e2)
          · rcases hown5.2 with ⟨_, h0⟩ | ⟨g9, _, _, h9, _⟩
            · omega
            · rw [e2, h9] at e; cases e
        · exact .inr e
      have hkeep : ∀ a o, w3.heap[a]? = some o → a ≠ gs → w5.heap[a]? = some o := fun a o h hne => (hgrow6.block a (blk_lt h) (fun e => hne (Option.some.inj e))).trans h
      obtain ⟨g', cap', cs', rfl, hb0, hgb, hn', hm', hsz', hrows'⟩ := HR3.out.grow (v := v5) (A' := some ⟨gr, 0, none⟩) (c' := T) (b := gr) hkc HCZ.out (by rw [HLKk.out]; exact hown5) hgrow6 hblk6 (by rw [HLKk.out, HRK.out]; exact HOR.out) (by rw [HLKk.out]; exact Nat.le_refl _) hgrs (by omega) hgr2 (fun j hj => by
        obtain ⟨_, _, _, _, _, _, _, h6⟩ := HRO.out.at_ j hj
        omega)
      have hgo4 := hkeep _ _ HGO3.out hg1
      have hgo' : g' ≠ w4.heap.size + 1 := fun e => (typ_ne hgb hgo4 (by decide)) e
      obtain ⟨d0, d1, d2, y0, y1, y2⟩ := three_c hgo4
      have HR4 := Lib.hid hrows'
      have HG4 := Lib.hid hgb
      have HGO4 := Lib.hid hgo4
      have hs4 : w4.heap.size + 1 + 1 ≤ w5.heap.size := Nat.le_trans hsz2 (Nat.le_trans hx3.size hgrow6.size)
      have HGP4 := Lib.hid (hkeep _ _ HGP3.out hg2)
      have HZB4 := Lib.hid (hkeep _ _ HZB3.out hg3)
      clear hrows' hgb hgo4 hkeep hown5 hblk5 hblk6 hgrow5 hgrow6
      go_wp2_with (fail)
      exact ⟨⟨k + 1, _, _, by omega, by go_num, blk_set1 HGO4.out 2 _, set_other HGP4.out hgpo, set_other HZB4.out (by dsimp only; omega), .inr ⟨g', cap', cs', rfl, set_other HG4.out hgo', hn', hm', hsz', ⟨fun j hj => by
        obtain ⟨A2, c2, q1, q2, q3, q4, q5, q6⟩ := HR4.out.at_ j hj
        exact ⟨A2, c2, q1, q2.same (fun b' h7 h8 => Below.heap_setCell w5 _ _ _ (by dsimp only; omega)), q3, q4, q5, by simpa using q6⟩, HR4.out.inj⟩, hb0⟩, by simpa using hs4, Ext.set hx5 (by dsimp only; omega) _⟩, by simp [intOf]; omega⟩
    · obtain rfl : k = n := by omega
      rcases hsp with ⟨h0, _⟩ | ⟨gs, cap, cs, rfl, hgsX, hkc, hcm, hcz, hrows, hgs1⟩
      · omega
      obtain ⟨d0, d1, d2, y0, y1, y2⟩ := three_c hgoX
      obtain ⟨c0', c1', c2', x0, x1, x2⟩ := three_c hzbX
      have hgps : gs ≠ gp := typ_ne hgsX hgpX (by decide)
      have hG : OwG wr (w.heap.size + 1) wr.heap.size (.agg #[.int .i64 (T : Int), .slice (some ⟨gp, 0, none⟩) k capp, .slice (some ⟨gs, 0, none⟩) k cap]) G := by
        have e1 := HPL.out
        have e2 := HRL.out
        have e3 := HGp.out
        have ho := (rowF_lst' HRP.out hgpX hcsp).at0
        rw [lst_self (by rw [← e3]; exact e1)] at ho
        exact ⟨_, _, _, _, gp, gs, f, by rw [e1, e2, HGt.out], by rw [e1, e3]; exact ho, by rw [e2]; exact hrows.own e2 hgsX (by omega), by rw [e1]; exact hnp, by rw [e2]; exact hkc, .inr ⟨hgp1, blk_lt hgpX⟩, .inr ⟨hgs1, blk_lt hgsX, hgps⟩, fun j hj => by
          rw [e2] at hj
          obtain ⟨_, _, _, _, _, _, h5, h6⟩ := hrows.at_ j hj
          exact ⟨by omega, h6, by omega⟩⟩
      have HG := Lib.hid hG
      have HBZ := Lib.hid (fun u0 u1 u2 => blk_set1 (blk_set1 (blk_set1 hzbX 0 u0) 1 u1) 2 u2)
      clear hG hrows hgsX hgpX hgoX
      go_wp2_with (fail)
      (try simp only [Exit.inBlock, Exit.then])
      refine bodyPost_ret (results_cell2 rfl _ _ w.heap.size 25 #[.int .i64 (T : Int), .slice (some ⟨gp, 0, none⟩) k capp, .slice (some ⟨gs, 0, none⟩) k cap] (0, 0) _ rfl (HBZ.out _ _ _) Try.underlying25 rfl (by kernel_rfl)) rfl ?_
      exact ⟨_, rfl, by
        refine OwG.more (lo := w.heap.size + 1) (hi := wr.heap.size) ?_ (by omega) (by simp)
        repeat (first | exact HG.out | (refine OwG.setOther ?_ (by left; dsimp only; omega) _)), (by repeat (first | assumption | exact Ext.refl _ | apply Ext.drewN | apply Ext.drew | apply Ext.alloc | (refine Ext.trans ?_ (by assumption)) | (refine Ext.set ?_ (by dsimp only; omega) _)))⟩
set_option linter.unusedSimpArgs false in
set_option maxRecDepth 20000 in
set_option maxHeartbeats 8000000 in
theorem c_impl_FlatGather {w : World} {B n c : Nat} {A : Option Addr} {L : List (Option Nat)} (h : RdF w B A n L) (hB : B ≤ w.heap.size) (hn : n ≤ 1048576) {i : Int} (hi0 : -9223372036854775808 ≤ i) (hj0 : i ≤ 9223372036854775807) :
    Calls Try.prog 17 #[.int .i64 i, .slice A n c] w fun e w' => RetG w e w' (okFl i n L) (flatG i L) := by
  unfold okFl
  obtain ⟨W1, hW1⟩ : ∃ W1, W1 = w.alloc (.cells #[.int .i64 0, .slice none 0 0, .slice none 0 0] 25) := ⟨_, rfl⟩
  have hx1 : Ext w W1 := by rw [hW1]; exact (by repeat (first | assumption | exact Ext.refl _ | apply Ext.drewN | apply Ext.drew | apply Ext.alloc | (refine Ext.trans ?_ (by assumption)) | (refine Ext.set ?_ (by dsimp only; omega) _)))
  have hz1 : W1.heap[w.heap.size]? = some (.cells #[.int .i64 0, .slice none 0 0, .slice none 0 0] 25 (0, 0)) := by rw [hW1]; exact heap_alloc_new w _
  have HS1 : Hid (W1.heap.size = w.heap.size + 1) := Lib.hid (by rw [hW1]; exact al_size _ _)
  cases hI : inB i 1 64
  · go_enter Try.func17, Try.ntmps17
    go_wp2_with (fail)
    rw [← hW1]
    obtain ⟨c0, c1, c2, x0, x1, x2⟩ := three_c hz1
    clear hW1
    go_wp2_with ((go_at_call 54; refine Calls.mono (c_isTicks _ _) ?_; rw [hI]; rintro e w1 ⟨rfl, rfl⟩))
    (try simp only [Exit.inBlock, Exit.then])
    refine bodyPost_ret (results_cell2 rfl _ _ w.heap.size 25 #[.int .i64 0, .slice none 0 0, .slice none 0 0] (0, 0) _ rfl (by repeat (first | exact hz1 | exact blk_set1 (blk_set1 (blk_set1 hz1 0 _) 1 _) 2 _)) Try.underlying25 rfl (by kernel_rfl)) rfl ?_
    exact retG_no rfl (by repeat (first | assumption | exact Ext.refl _ | apply Ext.drewN | apply Ext.drew | apply Ext.alloc | (refine Ext.trans ?_ (by assumption)) | (refine Ext.set ?_ (by dsimp only; omega) _)))
  rw [Bool.true_and]
  cases hP : plen n
  · go_enter Try.func17, Try.ntmps17
    go_wp2_with (fail)
    rw [← hW1]
    obtain ⟨c0, c1, c2, x0, x1, x2⟩ := three_c hz1
    clear hW1
    go_wp2_with (first | (go_at_call 54; refine Calls.mono (c_isTicks _ _) ?_; rw [hI]; rintro e w1 ⟨rfl, rfl⟩) | (go_at_call 55; refine Calls.mono (c_isPlaces _ _) ?_; rw [hP]; rintro e w1 ⟨rfl, rfl⟩))
    (try simp only [Exit.inBlock, Exit.then])
    refine bodyPost_ret (results_cell2 rfl _ _ w.heap.size 25 #[.int .i64 0, .slice none 0 0, .slice none 0 0] (0, 0) _ rfl (by repeat (first | exact hz1 | exact blk_set1 (blk_set1 (blk_set1 hz1 0 _) 1 _) 2 _)) Try.underlying25 rfl (by kernel_rfl)) rfl ?_
    exact retG_no rfl (by repeat (first | assumption | exact Ext.refl _ | apply Ext.drewN | apply Ext.drew | apply Ext.alloc | (refine Ext.trans ?_ (by assumption)) | (refine Ext.set ?_ (by dsimp only; omega) _)))
  rw [Bool.true_and]
  obtain ⟨hn1, hn2⟩ := plen_of hP
  have HCL := Lib.hid (c_cloneG (w := W1) (c := c) (h.below (hx1.mono hB)) (Nat.le_trans hB hx1.size) hn hn1)
  obtain ⟨i0, hi, hz0, hz10, hz20⟩ := info_parts info_f32
  obtain ⟨i1, hi1, hz11, hz12, hz13⟩ := info_parts info_f32s
  obtain ⟨p1, p2⟩ := inB_of hI
  obtain ⟨T, rfl⟩ : ∃ T : Nat, i = (T : Int) := ⟨i.toNat, by omega⟩
  have hT1 : 1 ≤ T := by omega
  have hT2 : T ≤ 64 := by omega
  have hmk := fun W => run_make_row' (P := Try.prog) 22 35 (.float .f32 0) 4 Try.underlying22 info_f32 rfl .i64 .i64 T (by omega) (by omega) W
  obtain ⟨G, hG⟩ : ∃ G, G = flatG (T : Int) L := ⟨_, rfl⟩
  rw [← hG]
  have HGt : Hid (G.t = (T : Int)) := Lib.hid (by rw [hG]; rfl)
  have HGp : Hid (G.p = L) := Lib.hid (by rw [hG]; rfl)
  have hlen := h.len
  have HPL : Hid (G.p.length = n) := Lib.hid (by rw [hG]; exact hlen)
  have HRL : Hid (G.r.length = n) := Lib.hid (by rw [hG]; exact (lstS_len _ _).trans hlen)
  have HROW : Hid (∀ j, j < n → G.r.getD j [] = lst (fun _ => fz) T) := Lib.hid (fun j hj => by rw [hG]; show (lstS _ _).getD j [] = _; rw [lstS_at (by omega)]; rfl)
  have HLK : Hid (∀ j, j < n → (G.r.getD j []).length = T) := Lib.hid (fun j hj => by rw [HROW.out j hj]; exact lst_len _ _)
  clear hG p1 p2 hi0 hj0
  have HFV : Hid (fvG G = allL (ffin .f32) L) := Lib.hid (by
    have e1 : rowsOk G.t G.r = true := by
      unfold rowsOk
      rw [List.all_eq_true]
      intro l hl
      obtain ⟨j, hj, rfl⟩ := List.getElem_of_mem hl
      have e2 : G.r[j] = G.r.getD j [] := by simp [List.getD, hj]
      rw [e2]
      exact rowOk_yes (by rw [HLK.out j (by rw [← HRL.out]; exact hj), HGt.out])
    cases hf : allL (ffin .f32) L
    · exact fvG_p (by rw [HGp.out]; exact hf)
    · exact fvG_yes (by rw [HGt.out]; exact hI) (by rw [HPL.out]; exact hP) (by rw [HGp.out]; exact hf) (same2_yes (by rw [HRL.out, HPL.out])) e1)
  obtain ⟨ba, oa, _, rfl, hba, _, _⟩ := h.cell hn1
  go_enter Try.func17, Try.ntmps17
  go_wp2_with (fail)
  rw [← hW1]
  clear hW1
  go_wp2_with (first | (go_at_call 54; refine Calls.mono (c_isTicks _ _) ?_; rw [hI]; rintro e w1 ⟨rfl, rfl⟩) | (go_at_call 55; refine Calls.mono (c_isPlaces _ _) ?_; rw [hP]; rintro e w1 ⟨rfl, rfl⟩) | (go_at_call 56; refine Calls.mono (HCL.out) ?_; rintro e w4 ⟨gp, csp, capp, rfl, hgp, hnp, hgpb, hcsp, hrp, hx4⟩))
  have HRP := Lib.hid hrp
  have hx04 : Ext w w4 := hx1.trans hx4
  have hz4 := hx4.blk hz1
  have hgp4 := blk_lt hgpb
  have HS := HS1.out
  have hs4 := hx4.size
  have hgp1 : w.heap.size + 1 ≤ gp := by have := hgp; omega
  have hs41 : w.heap.size + 1 ≤ w4.heap.size := by omega
  have hgpo : gp ≠ w4.heap.size := by omega
  have HGB := Lib.hid hgpb
  have HZ4 := Lib.hid hz4
  clear hgpb hrp hz4 HS hs4 hgp
  go_loopw [23] (fun y wr => ∃ (k : Nat) (sv : Value) (f : Nat → Nat), k ≤ n ∧ y = .int .i64 (k : Int) ∧ wr.heap[w4.heap.size]? = some (.cells #[.int .i64 (T : Int), .slice (some ⟨gp, 0, none⟩) n capp, sv] 25 (0, 0)) ∧ wr.heap[gp]? = some (.cells csp 35 (0, 0)) ∧ wr.heap[w.heap.size]? = some (.cells #[.int .i64 0, .slice none 0 0, .slice none 0 0] 25 (0, 0)) ∧ ((k = 0 ∧ sv = .slice none 0 0) ∨ ∃ gs cap cs, sv = .slice (some ⟨gs, 0, none⟩) k cap ∧ wr.heap[gs]? = some (.cells cs 22 (0, 0)) ∧ k ≤ cap ∧ cap ≤ maxLen ∧ cs.size = cap ∧ RowsIn wr (w4.heap.size + 1) gs f cs 0 k G.r ∧ w.heap.size + 1 ≤ gs) ∧ w4.heap.size + 1 ≤ wr.heap.size ∧ Ext w wr) (fun y _ => n - (intOf y).toNat)
  case atStart => exact ⟨0, _, id, Nat.zero_le _, rfl, (by first | exact heap_alloc_new w4 _ | exact blk_set1 (blk_set1 (blk_set1 (heap_alloc_new w4 _) 0 _) 1 _) 2 _), (by repeat (first | exact HGB.out | apply al_old | (refine set_other ?_ (by dsimp only; omega)))), (by repeat (first | exact HZ4.out | apply al_old | (refine set_other ?_ (by dsimp only; omega)))), .inl ⟨rfl, rfl⟩, (by first | (simp; done) | (simp; omega)), (by repeat (first | assumption | exact Ext.refl _ | apply Ext.drewN | apply Ext.drew | apply Ext.alloc | (refine Ext.trans ?_ (by assumption)) | (refine Ext.set ?_ (by dsimp only; omega) _)))⟩
  case round =>
    obtain ⟨k, sv, f, hk, rfl, hgoX, hgpX, hzbX, hsp, hsz2, hx⟩ := hrel
    have HGO := Lib.hid hgoX
    have HGP := Lib.hid hgpX
    have HZB := Lib.hid hzbX
    have hgol := blk_lt hgoX
    by_cases hlt : k < n
    · have hlt' : (k : Int) < (n : Int) := by omega
      obtain ⟨gs, cs, cap, hOW, hcz, hkc, hrows, hg1, hg2, hg3, hgl, hob⟩ : ∃ (gs : Nat) (cs : Array Value) (cap : Nat), (∀ w3, Ext wr w3 → w3.ownsRow (w.heap.size + 1) 22 1 sv k (cs.toList.take k)) ∧ cs.size = cap ∧ k ≤ cap ∧ RowsIn wr (w4.heap.size + 1) gs f cs 0 k G.r ∧ w4.heap.size ≠ gs ∧ gp ≠ gs ∧ w.heap.size ≠ gs ∧ gs < wr.heap.size ∧ (sv.ownBlock = some gs ∨ sv.ownBlock = none) := by
        rcases hsp with ⟨rfl, rfl⟩ | ⟨gs, cap, cs, rfl, q1, q2, q3, q4, q5, q6⟩
        · exact ⟨ba, #[], 0, fun w3 _ => ⟨by simp, .inl ⟨rfl, rfl⟩⟩, rfl, Nat.le_refl _, RowsIn.zero _ _ _ _ _ _ _, by omega, by omega, by omega, by omega, .inr rfl⟩
        · exact ⟨gs, cs, cap, fun w3 hx3 => ⟨by simp; omega, .inr ⟨gs, cap, cs, rfl, q6, hx3.blk q1, q2, q3, by omega, by rw [Nat.mul_one]⟩⟩, q4, q2, q5, typ_ne hgoX q1 (by decide), typ_ne hgpX q1 (by decide), by omega, blk_lt q1, .inl rfl⟩
      have HRO := Lib.hid hrows
      have HCZ := Lib.hid hcz
      have HOW := Lib.hid hOW
      have HOB := Lib.hid hob
      have hlk := HLK.out k hlt
      have hrk := HROW.out k hlt
      have HLKk := Lib.hid hlk
      have HRK := Lib.hid hrk
      clear hgoX hgpX hzbX hsp hrows hcz hOW hob hlk hrk
      go_wp2_with (fail)
      refine wp_region_any (by kernel_rfl) ?_
      refine wpAny_mo_go (md := .any) (R := Ext) (w := wr) [(0, 25), (1, 26), (2, 27), (3, 28), (4, 29)] [5, 6, 7] (tl := [_, _, _]) (S := ?S2_) (by kernel_rfl) (by rfl) (by rfl) Ext.refl ext_tr (ext_drew1 _) ?hS2_ ?go2_
      case hS2_ => intro vs; simp only [putAll, Act.put, List.setIfInBounds_toArray, List.set_cons_zero, List.set_cons_succ]; rfl
      case go2_ =>
      refine mo_fix _ (by rfl) (by rfl) (by intro vs w1 hx_ hd; have q0 := (three_c (hx_.blk HGO.out)).2.2.1; go_simp; first | done | rfl) ?_
      refine mo_fix _ (by rfl) (by rfl) (by intro vs w1 hx_ hd; have q0 := (three_c (hx_.blk HGO.out)).2.2.1; have e0 := hd 0 (by kernel_rfl); simp (decide := true) only [factAt, if_true, if_false] at e0; simp only [e0]; go_simp; first | done | rfl) ?_
      refine mo_fix _ (by rfl) (by rfl) (by intro vs w1 hx_ hd; have q0 := (three_c (hx_.blk HGO.out)).2.2.1; go_simp; first | done | rfl) ?_
      refine mo_make (fun a => .slice (some a) T T) (.cells (madeCells #[.float .f32 0] T) 35) (by rfl) (by rfl) (by intro vs w1 hx_ hd; have q0 := (three_c (hx_.blk HGO.out)).2.2.1; have e2 := hd 2 (by kernel_rfl); simp (decide := true) only [factAt, if_true, if_false] at e2; simp only [e2]; go_simp; first | done | rfl) ?_
      refine mo_make_of (fun a => .slice (some a) 1 1) (fun us => .cells #[us 3] 22) (by rfl) (by rfl) (by intro us vs w1 hu hx_ hd; have q0 := (three_c (hx_.blk HGO.out)).2.2.1; have e3 := hd 3 (by kernel_rfl); simp (decide := true) only [factAt, if_true, if_false] at e3; rw [hu 3 (by kernel_rfl)]; obtain ⟨g3, e3, _⟩ := e3; rw [e3]; go_simp; first | done | rfl) ?_
      refine mo_end ?_
      intro vs w3 hx3 hd
      have e1 := hd 1 (by kernel_rfl)
      have e3 := hd 3 (by kernel_rfl)
      obtain ⟨us, hu, e4⟩ := seen_got (hd 4 (by kernel_rfl))
      simp (decide := true) only [factAt, if_true, if_false] at e1 e3 e4
      rw [hu 3 (by kernel_rfl)] at e4
      obtain ⟨gr, e3, hgr, hhr⟩ := e3
      obtain ⟨g37, e4, hg37, hh37⟩ := e4
      rw [e3] at hh37
      dsimp only at e4
      have hgr2 := blk_lt hhr
      have hor : OwL w3 gr (gr + 1) (some ⟨gr, 0, none⟩) T (lst (fun _ => fz) T) := (own_lst hhr (size_madeCells _ _) (fun j hj => ⟨0, made_get _ _ _ hj, fl_fz⟩)).at0
      have hgrs : gr ≠ gs := by omega
      have hc37 : w3.cell? ⟨g37, 0, none⟩ = some (.slice (some ⟨gr, 0, none⟩) T T) := by rw [cell_of_row w3 g37 _ _ _ (0, 0) hh37]; rfl
      have hn37 : ∀ j u, [Value.slice (some ⟨gr, 0, none⟩) T T][j]? = some u → w3.cell? ((⟨g37, 0, none⟩ : Addr).add j) = some u := by
        intro j u hj
        match j, hj with
        | 0, hj =>
          simp only [List.getElem?_cons_zero, Option.some.injEq] at hj
          subst hj
          simpa [Addr.add] using hc37
      have HOWN := Lib.hid (HOW.out w3 hx3)
      have HR3 := Lib.hid (HRO.out.ext hx3)
      have HGO3 := Lib.hid (hx3.blk HGO.out)
      have HGP3 := Lib.hid (hx3.blk HGP.out)
      have HZB3 := Lib.hid (hx3.blk HZB.out)
      have HOR := Lib.hid hor
      have HN37 := Lib.hid hn37
      generalize vs 1 = v1 at e1 ⊢
      generalize vs 4 = v4' at e4 ⊢
      subst e1 e4
      clear hd hu hor hhr hh37 hc37 hn37 e3
      refine wpList_append_own_at _ rfl _ _ 23 rfl (w.heap.size + 1) 22 i1 (.slice none 0 0) 1 24 Try.underlying23 hi1 hz11 hz12 hz13 rfl (by decide) _ k (cs.toList.take k) rfl HOWN.out ⟨g37, 0, none⟩ 1 1 [.slice (some ⟨gr, 0, none⟩) T T] rfl rfl HN37.out ?_ ?_ ?_ ?_ ?_
      all_goals first
        | (intro u hu; simp only [List.mem_singleton] at hu; subst hu; rfl)
        | (unfold maxLen; omega)
        | omega
        | (have := hx.size; have := hx3.size; omega)
        | skip
      intro v5 w5 hown5 hgrow5 _ hblk5
      have hx5 : Ext w w5 := Below.grown (hx.trans hx3) hgrow5 (hx.trans hx3).size (fun j hj => Nat.le_trans (by omega) (HOWN.out.lt j hj).1)
      have hgrow5 : w3.grownBy w5 v1.ownBlock := hgrow5
      have hblk5 : v5.ownBlock = v1.ownBlock ∨ v5.ownBlock = some w3.heap.size := hblk5
      have hgrow6 : w3.grownBy w5 (some gs) := by
        rcases HOB.out with e | e
        · rw [e] at hgrow5; exact hgrow5
        · rw [e] at hgrow5; exact ⟨hgrow5.os, hgrow5.tape, hgrow5.output, hgrow5.size, fun b hb _ => hgrow5.block b hb (by simp)⟩
      have hblk6 : v5.ownBlock = some gs ∨ v5.ownBlock = some w3.heap.size := by
        rcases hblk5 with e | e
        · rcases HOB.out with e2 | e2
          · exact .inl (e.trans e2)
          · rcases hown5.2 with ⟨_, h0⟩ | ⟨g9, _, _, h9, _⟩
            · omega
            · rw [e2, h9] at e; cases e
        · exact .inr e
      have hkeep : ∀ a o, w3.heap[a]? = some o → a ≠ gs → w5.heap[a]? = some o := fun a o h hne => (hgrow6.block a (blk_lt h) (fun e => hne (Option.some.inj e))).trans h
      obtain ⟨g', cap', cs', rfl, hb0, hgb, hn', hm', hsz', hrows'⟩ := HR3.out.grow (v := v5) (A' := some ⟨gr, 0, none⟩) (c' := T) (b := gr) hkc HCZ.out (by rw [HLKk.out]; exact hown5) hgrow6 hblk6 (by rw [HLKk.out, HRK.out]; exact HOR.out) (by rw [HLKk.out]; exact Nat.le_refl _) hgrs (by omega) hgr2 (fun j hj => by
        obtain ⟨_, _, _, _, _, _, _, h6⟩ := HRO.out.at_ j hj
        omega)
      have hgo4 := hkeep _ _ HGO3.out hg1
      have hgo' : g' ≠ w4.heap.size := fun e => (typ_ne hgb hgo4 (by decide)) e
      obtain ⟨d0, d1, d2, y0, y1, y2⟩ := three_c hgo4
      have HR4 := Lib.hid hrows'
      have HG4 := Lib.hid hgb
      have HGO4 := Lib.hid hgo4
      have hs4 : w4.heap.size + 1 ≤ w5.heap.size := Nat.le_trans hsz2 (Nat.le_trans hx3.size hgrow6.size)
      have HGP4 := Lib.hid (hkeep _ _ HGP3.out hg2)
      have HZB4 := Lib.hid (hkeep _ _ HZB3.out hg3)
      clear hrows' hgb hgo4 hkeep hown5 hblk5 hblk6 hgrow5 hgrow6
      go_wp2_with (fail)
      exact ⟨⟨k + 1, _, _, by omega, by go_num, blk_set1 HGO4.out 2 _, set_other HGP4.out hgpo, set_other HZB4.out (by dsimp only; omega), .inr ⟨g', cap', cs', rfl, set_other HG4.out hgo', hn', hm', hsz', ⟨fun j hj => by
        obtain ⟨A2, c2, q1, q2, q3, q4, q5, q6⟩ := HR4.out.at_ j hj
        exact ⟨A2, c2, q1, q2.same (fun b' h7 h8 => Below.heap_setCell w5 _ _ _ (by dsimp only; omega)), q3, q4, q5, by simpa using q6⟩, HR4.out.inj⟩, hb0⟩, by simpa using hs4, Ext.set hx5 (by dsimp only; omega) _⟩, by simp [intOf]; omega⟩
    · obtain rfl : k = n := by omega
      rcases hsp with ⟨h0, _⟩ | ⟨gs, cap, cs, rfl, hgsX, hkc, hcm, hcz, hrows, hgs1⟩
      · omega
      obtain ⟨d0, d1, d2, y0, y1, y2⟩ := three_c hgoX
      obtain ⟨c0', c1', c2', x0, x1, x2⟩ := three_c hzbX
      have hgps : gs ≠ gp := typ_ne hgsX hgpX (by decide)
      have hG : OwG wr (w.heap.size + 1) wr.heap.size (.agg #[.int .i64 (T : Int), .slice (some ⟨gp, 0, none⟩) k capp, .slice (some ⟨gs, 0, none⟩) k cap]) G := by
        have e1 := HPL.out
        have e2 := HRL.out
        have e3 := HGp.out
        have ho := (rowF_lst' HRP.out hgpX hcsp).at0
        rw [lst_self (by rw [← e3]; exact e1)] at ho
        exact ⟨_, _, _, _, gp, gs, f, by rw [e1, e2, HGt.out], by rw [e1, e3]; exact ho, by rw [e2]; exact hrows.own e2 hgsX (by omega), by rw [e1]; exact hnp, by rw [e2]; exact hkc, .inr ⟨hgp1, blk_lt hgpX⟩, .inr ⟨hgs1, blk_lt hgsX, hgps⟩, fun j hj => by
          rw [e2] at hj
          obtain ⟨_, _, _, _, _, _, h5, h6⟩ := hrows.at_ j hj
          exact ⟨by omega, h6, by omega⟩⟩
      have HG := Lib.hid hG
      have HBZ := Lib.hid (fun u0 u1 u2 => blk_set1 (blk_set1 (blk_set1 hzbX 0 u0) 1 u1) 2 u2)
      clear hG hrows hgsX hgpX hgoX
      have HVA := Lib.hid (c_impl_ValidGather (w := wr) HG.out.rd (Nat.le_refl _) (by rw [HPL.out]; omega) (by rw [HRL.out]; omega) (fun j hj => by rw [HRL.out] at hj; rw [HLK.out j hj]; omega))
      cases hf : allL (ffin .f32) L
      · have HVB := HVA.out
        rw [HFV.out, hf] at HVB
        have HVC := Lib.hid HVB
        clear HVB
        go_wp2_with (go_at_call 57; refine Calls.mono HVC.out ?_; rintro e w6 ⟨rfl, hx6⟩; have hz6 := hx6.blk HZB.out; obtain ⟨r0, r1, r2, s0, s1, s2⟩ := three_c hz6)
        (try simp only [Exit.inBlock, Exit.then])
        refine bodyPost_ret (results_cell2 rfl _ _ w.heap.size 25 #[.int .i64 0, .slice none 0 0, .slice none 0 0] (0, 0) _ rfl (by repeat (first | exact hz6 | exact blk_set1 (blk_set1 (blk_set1 hz6 0 _) 1 _) 2 _)) Try.underlying25 rfl (by kernel_rfl)) rfl ?_
        exact retG_no hf (by repeat (first | assumption | exact Ext.refl _ | apply Ext.drewN | apply Ext.drew | apply Ext.alloc | (refine Ext.trans ?_ (by assumption)) | (refine Ext.set ?_ (by dsimp only; omega) _)))
      · have HVB := HVA.out
        rw [HFV.out, hf] at HVB
        have HVC := Lib.hid HVB
        clear HVB
        go_wp2_with (go_at_call 57; refine Calls.mono HVC.out ?_; rintro e w6 ⟨rfl, hx6⟩; have hz6 := hx6.blk HZB.out; obtain ⟨r0, r1, r2, s0, s1, s2⟩ := three_c hz6; obtain ⟨u0, u1, u2, _, _, _⟩ := three_c (hx6.blk HGO.out))
        (try simp only [Exit.inBlock, Exit.then])
        have HB6 := Lib.hid (fun u0 u1 u2 => blk_set1 (blk_set1 (blk_set1 hz6 0 u0) 1 u1) 2 u2)
        have HG6 := Lib.hid (HG.out.ext (Nat.le_refl _) hx6)
        have hsz6 := hx6.size
        refine bodyPost_ret (results_cell2 rfl _ _ w.heap.size 25 #[.int .i64 (T : Int), .slice (some ⟨gp, 0, none⟩) k capp, .slice (some ⟨gs, 0, none⟩) k cap] (0, 0) _ rfl (HB6.out _ _ _) Try.underlying25 rfl (by kernel_rfl)) rfl ?_
        show RetG _ _ _ (allL (ffin .f32) L) G
        rw [hf]
        exact ⟨_, rfl, by
          refine OwG.more (lo := w.heap.size + 1) (hi := wr.heap.size) ?_ (by omega) (by simp; omega)
          repeat (first | exact HG6.out | (refine OwG.setOther ?_ (by left; dsimp only; omega) _)), (by repeat (first | assumption | exact Ext.refl _ | apply Ext.drewN | apply Ext.drew | apply Ext.alloc | (refine Ext.trans ?_ (by assumption)) | (refine Ext.set ?_ (by dsimp only; omega) _)))⟩
end Go.Proofs.Ytceldjkgddbfaaa
