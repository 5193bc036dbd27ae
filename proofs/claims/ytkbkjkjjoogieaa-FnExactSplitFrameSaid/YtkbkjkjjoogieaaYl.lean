/- Contracts: lists cloned, gathers copied by the program. Condition: the gather is read, and none of its lists is empty. -/
import Derived.Test.YtkbkjkjjoogieaaYd
import Derived.Test.YtkbkjkjjoogieaaTf
import Derived.Lib.SliceRun
namespace Go.Proofs.Ytkbkjkjjoogieaa
open Go.RowKit Ieee

theorem lst_self {L : List (Option Nat)} {n : Nat} (h : L.length = n) : lst (fun j => L.getD j none) n = L := by
  subst h
  apply List.ext_getElem?
  intro j
  unfold lst
  by_cases hj : j < L.length
  · simp [hj, List.getD]
  · simp [hj]
theorem OwL.at0 {w : World} {g hi n : Nat} {L : List (Option Nat)} (h : OwL w g hi (some ⟨g, 0, none⟩) n L) : OwL w g (g + 1) (some ⟨g, 0, none⟩) n L := by
  refine ⟨h.len, ?_⟩
  rcases h.at_ with h0 | ⟨b, off, cs, hA, h1, h2, hrest⟩
  · exact .inl h0
  · have : g = b := by simp only [Option.some.injEq, Addr.mk.injEq] at hA; exact hA.1
    exact .inr ⟨b, off, cs, hA, h1, by omega, hrest⟩
set_option maxRecDepth 20000 in
set_option maxHeartbeats 4000000 in
theorem c_cloneG {w : World} {B n c : Nat} {A : Option Addr} {L : List (Option Nat)} (h : RdF w B A n L) (hB : B ≤ w.heap.size) (hn : n ≤ 1048576) (hpos : 0 < n) :
    Calls Try.prog 81 #[.slice A n c] w fun e w' => ∃ g cs c', e = .returned (.slice (some ⟨g, 0, none⟩) n c') ∧ w.heap.size ≤ g ∧ n ≤ c' ∧ w'.heap[g]? = some (.cells cs 79 (0, 0)) ∧ n ≤ cs.size ∧ RowF cs n (fun j => L.getD j none) ∧ Ext w w' := by
  obtain ⟨i0, hi, hz0, hz1, hz2⟩ := info_parts info_f32
  obtain ⟨b, off, rfl, hb, rs, hrl, hrs⟩ := h.words hpos
  have HR := Lib.hid hrs
  clear hrs
  have hnil := fun W : World => Go.Lib.run_eql_slice_nil (P := Try.prog) W 22 79 (some ⟨b, off, none⟩) n c 0 0 Try.underlying22
  go_enter Try.func81, Try.ntmps81
  go_wp2_with (at_builtin; refine wpList_append_own _ rfl _ _ 22 rfl w.heap.size 79 i0 (.float .f32 0) 1 4 Try.underlying22 hi hz0 hz1 hz2 rfl (by decide) _ _ _ rfl (World.ownsRow_made _ _ 0 (Nat.le_refl _) (Nat.zero_le _) rfl) ⟨b, off, none⟩ n c (fvals rs) rfl (by simp [fvals, hrl]) ?_ ?_ ?_ ?_ ?_ ?_)
  all_goals first
    | (intro j u hj
       have hjn : j < n := by
         rcases Nat.lt_or_ge j n with h1 | h1
         · exact h1
         · rw [List.getElem?_eq_none (by simp [fvals, hrl]; omega)] at hj; cases hj
       rw [fvals_at (by omega)] at hj
       cases hj
       have hc := (HR.out j hjn).1
       have e0 : (⟨b, off, none⟩ : Addr).add j = ⟨b, off + j, none⟩ := by simp [Addr.add]
       rw [e0]
       exact ((Ext.alloc (Ext.refl w) _).cell (by show b < _; omega)).trans hc)
    | (intro u hu; simp only [fvals, List.mem_map] at hu; obtain ⟨r, _, rfl⟩ := hu; rfl)
    | (unfold maxLen; omega)
    | omega
    | (simp; done)
    | (intro v' w4 hown' hgrow _
       have hx' : Ext w w4 := grown_ext (Ext.alloc (Ext.refl w) _) (World.ownsRow_made _ _ 0 (Nat.le_refl _) (Nat.zero_le _) rfl) hgrow
       obtain ⟨hlen, hd⟩ := hown'
       rcases hd with ⟨hv, h0⟩ | ⟨g, cap, cur, rfl, hbg, hg, hnc, _, hcs, htk⟩
       · omega
       have HG := Lib.hid hg
       have HT := Lib.hid htk
       have HC := Lib.hid hcs
       clear hg htk hcs hlen hgrow
       go_wp2_with (fail)
       go_ret
       refine ⟨g, cur, cap, by first | rfl | simp, hbg, hnc, HG.out, by have := HC.out; omega, fun j hj => ?_, hx'⟩
       have e1 : cur[j]? = (cur.toList.take (n * 1))[j]? := by rw [List.getElem?_take_of_lt (by omega)]; simp
       refine ⟨rs.getD j 0, ?_, (HR.out j hj).2⟩
       rw [e1, HT.out, fvals_at (by omega)])
set_option maxRecDepth 20000 in
set_option maxHeartbeats 4000000 in
theorem c_cloneS {w : World} {B n c : Nat} {A : Option Addr} {R : List (List (Option Nat))} (h : RdS w B A n R) (hB : B ≤ w.heap.size) (hn : n ≤ 1048576) (hpos : 0 < n) :
    Calls Try.prog 126 #[.slice A n c] w fun e w' => ∃ g cs c', e = .returned (.slice (some ⟨g, 0, none⟩) n c') ∧ w.heap.size ≤ g ∧ n ≤ c' ∧ w'.heap[g]? = some (.cells cs 22 (0, 0)) ∧ n ≤ cs.size ∧ (∀ j, j < n → ∃ A' d, cs[j]? = some (.slice A' (R.getD j []).length d) ∧ RdF w B A' (R.getD j []).length (R.getD j []) ∧ (R.getD j []).length ≤ d) ∧ Ext w w' := by
  obtain ⟨i0, hi, hz0, hz1, hz2⟩ := info_parts info_f32s
  obtain ⟨b, off, hA, hb, hj0⟩ := h.at_ 0 hpos
  subst hA
  obtain ⟨q, hq⟩ := Go.Deep.choose_lt (p := fun j (x : Option Addr × Nat) => w.cell? ⟨b, off + j, none⟩ = some (.slice x.1 (R.getD j []).length x.2) ∧ RdF w B x.1 (R.getD j []).length (R.getD j []) ∧ (R.getD j []).length ≤ x.2) (fun j hj => by
    obtain ⟨A', d, h1, h2, h3⟩ := hj0 j hj
    exact ⟨(A', d), h1, h2, h3⟩)
  have HR := Lib.hid hq
  obtain ⟨news, hnews⟩ : ∃ news : List Value, news = (List.range n).map fun j => .slice (q j).1 (R.getD j []).length (q j).2 := ⟨_, rfl⟩
  have hnl : news.length = n := by rw [hnews]; simp
  have hnat : ∀ j, j < n → news[j]? = some (.slice (q j).1 (R.getD j []).length (q j).2) := fun j hj => by rw [hnews]; simp [hj]
  have HNA := Lib.hid hnat
  have hnone : ∀ u ∈ news, u.oneCell' = true := by
    intro u hu; rw [hnews] at hu; simp only [List.mem_map] at hu; obtain ⟨_, _, rfl⟩ := hu; rfl
  have HNO := Lib.hid hnone
  clear hq hj0 hnews hnat hnone
  have hnil := fun W : World => Go.Lib.run_eql_slice_nil (P := Try.prog) W 64 22 (some ⟨b, off, none⟩) n c 0 0 Try.underlying64
  go_enter Try.func126, Try.ntmps126
  go_wp2_with (at_builtin; refine wpList_append_own _ rfl _ _ 64 rfl w.heap.size 22 i0 (.slice none 0 0) 1 24 Try.underlying64 hi hz0 hz1 hz2 rfl (by decide) _ _ _ rfl (World.ownsRow_made _ _ 0 (Nat.le_refl _) (Nat.zero_le _) rfl) ⟨b, off, none⟩ n c news rfl (by rw [hnl, Nat.mul_one]) ?_ ?_ ?_ ?_ ?_ ?_)
  all_goals first
    | (intro j u hu
       have hjn : j < n := by
         rcases Nat.lt_or_ge j n with h1 | h1
         · exact h1
         · rw [List.getElem?_eq_none (by omega)] at hu; cases hu
       rw [HNA.out j hjn] at hu
       cases hu
       have hc := (HR.out j hjn).1
       have e0 : (⟨b, off, none⟩ : Addr).add j = ⟨b, off + j, none⟩ := by simp [Addr.add]
       rw [e0]
       exact ((Ext.alloc (Ext.refl w) _).cell (by show b < _; omega)).trans hc)
    | exact HNO.out
    | (unfold maxLen; omega)
    | omega
    | (simp; done)
    | (intro v' w4 hown' hgrow _
       have hx' : Ext w w4 := grown_ext (Ext.alloc (Ext.refl w) _) (World.ownsRow_made _ _ 0 (Nat.le_refl _) (Nat.zero_le _) rfl) hgrow
       obtain ⟨hlen, hd⟩ := hown'
       rcases hd with ⟨hv, h0⟩ | ⟨g, cap, cur, rfl, hbg, hg, hnc, _, hcs, htk⟩
       · omega
       have HG := Lib.hid hg
       have HT := Lib.hid htk
       have HC := Lib.hid hcs
       clear hg htk hcs hlen hgrow
       go_wp2_with (fail)
       go_ret
       refine ⟨g, cur, cap, by first | rfl | simp, hbg, by omega, HG.out, by have := HC.out; omega, fun j hj => ?_, hx'⟩
       have e1 : cur[j]? = (cur.toList.take (n * 1))[j]? := by rw [List.getElem?_take_of_lt (by omega)]; simp
       refine ⟨(q j).1, (q j).2, ?_, (HR.out j hj).2⟩
       rw [e1, HT.out]
       exact HNA.out j hj)

set_option linter.unusedSimpArgs false in
set_option maxRecDepth 20000 in
set_option maxHeartbeats 20000000 in
theorem c_copyGather {w : World} {B n m cp ct : Nat} {Ap At : Option Addr} {G : Gat} (hp0 : RdF w B Ap n G.p) (hr0 : RdS w B At m G.r) (hB : B ≤ w.heap.size) (h1 : n ≤ 1048576) (h2 : m ≤ 1048576) (h3 : ∀ j, j < m → (G.r.getD j []).length ≤ 1048576) (hn : 0 < n) (hm : 0 < m) (hrow : ∀ j, j < m → 0 < (G.r.getD j []).length) :
    Calls Try.prog 97 #[.agg #[.int .i64 G.t, .slice Ap n cp, .slice At m ct]] w fun e w' => ∃ v, e = .returned v ∧ OwG w' w.heap.size w'.heap.size v G ∧ Ext w w' := by
  have cP := fun (W : World) (hx : Ext w W) => c_cloneG (w := W) (c := cp) (hp0.below (hx.mono hB)) (Nat.le_trans hB hx.size) h1 hn
  have cS : ∀ W, Ext w W → Calls Try.prog 126 #[.slice At m ct] W fun e w' => ∃ g cs c', e = .returned (.slice (some ⟨g, 0, none⟩) m c') ∧ W.heap.size ≤ g ∧ m ≤ c' ∧ w'.heap[g]? = some (.cells cs 22 (0, 0)) ∧ m ≤ cs.size ∧ (∀ j, j < m → ∃ A' d, cs[j]? = some (.slice A' (G.r.getD j []).length d) ∧ RdF w B A' (G.r.getD j []).length (G.r.getD j []) ∧ (G.r.getD j []).length ≤ d) ∧ Ext W w' :=
    fun W hx => Calls.mono (c_cloneS (w := W) (c := ct) (hr0.below (hx.mono hB)) (Nat.le_trans hB hx.size) h2 hm) (fun e w' ⟨g, cs, c', q1, q2, q3, q4, q5, q6, q7⟩ => ⟨g, cs, c', q1, q2, q3, q4, q5, fun j hj => by
      obtain ⟨A', d, r1, r2, r3⟩ := q6 j hj
      exact ⟨A', d, r1, r2.keep (fun p hp => (hx.cell (Nat.lt_of_lt_of_le hp hB)).symm), r3⟩, q7⟩)
  have CP := Lib.hid cP
  have CS := Lib.hid cS
  have HPL := Lib.hid hp0.len
  have HRL := Lib.hid hr0.len
  have H3 := Lib.hid h3
  have HROW := Lib.hid hrow
  clear cP cS hp0 hr0 h3 hrow
  go_enter Try.func97, Try.ntmps97
  go_wp2_with (fail)
  go_region_with (first | (go_at_call 81; refine Calls.mono (CP.out _ (by repeat (first | assumption | exact Ext.refl _ | apply Ext.drewN | apply Ext.drew | apply Ext.alloc | (refine Ext.trans ?_ (by assumption)) | (refine Ext.set ?_ (by dsimp only; omega) _)))) ?_; rintro e wa ⟨ga, csa, ca, rfl, hga, hca, hha, hsa, hra, hxa⟩; have hBXa := hxa.blk (g := w.heap.size) (o := .cells #[.int .i64 G.t, .slice Ap n cp, .slice At m ct] 68 (0, 0)) (by first | exact hBXa | exact hBXb | (repeat (first | (refine al_at ?_ ?_ <;> first | rfl | (simp only [al_size] <;> omega)) | apply al_old))); have hZXa := hxa.blk (g := w.heap.size + 1) (o := .cells #[.int .i64 0, .slice none 0 0, .slice none 0 0] 68 (0, 0)) (by first | exact hZXa | exact hZXb | (repeat (first | (refine al_at ?_ ?_ <;> first | rfl | (simp only [al_size] <;> omega)) | apply al_old))); obtain ⟨e0, e1, e2, z0, z1, z2⟩ := three_c hBXa; obtain ⟨c0, c1, c2, x0, x1, x2⟩ := three_c hZXa) | (go_at_call 126; refine Calls.mono (CS.out _ (by repeat (first | assumption | exact Ext.refl _ | apply Ext.drewN | apply Ext.drew | apply Ext.alloc | (refine Ext.trans ?_ (by assumption)) | (refine Ext.set ?_ (by dsimp only; omega) _)))) ?_; rintro e wb ⟨gb, csb, cb, rfl, hgb, hcb, hhb, hsb, hrb, hxb⟩; have hBXb := hxb.blk (g := w.heap.size) (o := .cells #[.int .i64 G.t, .slice Ap n cp, .slice At m ct] 68 (0, 0)) (by first | exact hBXa | exact hBXb | (repeat (first | (refine al_at ?_ ?_ <;> first | rfl | (simp only [al_size] <;> omega)) | apply al_old))); have hZXb := hxb.blk (g := w.heap.size + 1) (o := .cells #[.int .i64 0, .slice none 0 0, .slice none 0 0] 68 (0, 0)) (by first | exact hZXa | exact hZXb | (repeat (first | (refine al_at ?_ ?_ <;> first | rfl | (simp only [al_size] <;> omega)) | apply al_old))); obtain ⟨e0, e1, e2, z0, z1, z2⟩ := three_c hBXb; obtain ⟨c0, c1, c2, x0, x1, x2⟩ := three_c hZXb))
  all_goals
    have s1 := hxa.size
    have s2 := hxb.size
    have s3 := blk_lt hha
    have s4 := blk_lt hhb
    simp only [al_size, size_drew, size_drewN] at hga hgb s1 s2 s3 s4
    have hne : ga ≠ gb := by omega
    have hga2 : w.heap.size + 2 ≤ ga := by omega
    have hgb2 : w.heap.size + 2 ≤ gb := by omega
    clear s1 s2 s3 s4 hga hgb
    go_wp2_with (fail)
    go_loopw [16] (fun y wr => ∃ (k : Nat) (cs : Array Value) (f : Nat → Nat), k ≤ m ∧ y = .int .i64 k ∧ wr.heap[w.heap.size]? = some (.cells #[.int .i64 G.t, .slice (some ⟨ga, 0, none⟩) n ca, .slice (some ⟨gb, 0, none⟩) m cb] 68 (0, 0)) ∧ wr.heap[w.heap.size + 1]? = some (.cells #[.int .i64 0, .slice none 0 0, .slice none 0 0] 68 (0, 0)) ∧ wr.heap[ga]? = some (.cells csa 79 (0, 0)) ∧ wr.heap[gb]? = some (.cells cs 22 (0, 0)) ∧ m ≤ cs.size ∧ RowsIn wr (w.heap.size + 2) gb f cs 0 k G.r ∧ (∀ j, j < k → f j ≠ ga) ∧ (∀ j, k ≤ j → j < m → ∃ A' d, cs[j]? = some (.slice A' (G.r.getD j []).length d) ∧ RdF w B A' (G.r.getD j []).length (G.r.getD j []) ∧ (G.r.getD j []).length ≤ d) ∧ Ext w wr) (fun y _ => m - (intOf y).toNat)
    case atStart => exact ⟨0, csb, id, Nat.zero_le _, rfl, by first | exact blk_set1 (blk_set1 hBXb 1 _) 2 _ | exact blk_set1 (blk_set1 hBXa 1 _) 2 _, by first | exact set_other (set_other hZXb (by dsimp only; omega)) (by dsimp only; omega) | exact set_other (set_other hZXa (by dsimp only; omega)) (by dsimp only; omega), by first | exact set_other (set_other (Ext.blk hxb hha) (by dsimp only; omega)) (by dsimp only; omega) | exact set_other (set_other hha (by dsimp only; omega)) (by dsimp only; omega), by first | exact set_other (set_other hhb (by dsimp only; omega)) (by dsimp only; omega) | exact set_other (set_other (Ext.blk hxa hhb) (by dsimp only; omega)) (by dsimp only; omega), hsb, RowsIn.zero _ _ _ _ _ _ _, fun j hj => absurd hj (Nat.not_lt_zero _), fun j _ hj => hrb j hj, (by repeat (first | assumption | exact Ext.refl _ | apply Ext.drewN | apply Ext.drew | apply Ext.alloc | (refine Ext.trans ?_ (by assumption)) | (refine Ext.set ?_ (by dsimp only; omega) _)))⟩
    case round =>
      obtain ⟨k, cs, f, hk, rfl, hbx, hzx, hgA, hgB, hsz, hrows, hfa, hrest, hx⟩ := hrel
      have HBX := Lib.hid hbx
      have HZX := Lib.hid hzx
      have HGA := Lib.hid hgA
      have HGB := Lib.hid hgB
      have HSZ := Lib.hid hsz
      have HRO := Lib.hid hrows
      have HFA := Lib.hid hfa
      have HRE := Lib.hid hrest
      obtain ⟨p0, p1, p2, _⟩ := GbAt.blk hbx
      by_cases hlt : k < m
      · have hlt' : (k : Int) < (m : Int) := by omega
        obtain ⟨A', d, hck, hrk, hld⟩ := hrest k (Nat.le_refl _) hlt
        have hcell : wr.cell? ⟨gb, k, none⟩ = some (.slice A' (G.r.getD k []).length d) := by rw [cell_of_row wr gb _ cs _ (0, 0) hgB]; exact hck
        have hlk := H3.out k hlt
        have hlp := HROW.out k hlt
        obtain ⟨Lk, hLk⟩ : ∃ x, (G.r.getD k []).length = x := ⟨_, rfl⟩
        rw [hLk] at hcell hrk hld hlk hlp
        have HLK := Lib.hid hLk
        have cR := fun (W : World) (hW : Ext wr W) => c_cloneG (w := W) (c := d) (hrk.below ((hx.trans hW).mono hB)) (Nat.le_trans hB (hx.trans hW).size) hlk hlp
        have CR := Lib.hid cR
        clear hbx hzx hgA hgB hsz hrows hfa hrest cR hck hrk hLk
        go_wp2_with (fail)
        go_region_with (first | (go_at_call 81; refine Calls.mono (CR.out _ (by repeat (first | assumption | exact Ext.refl _ | apply Ext.drewN | apply Ext.drew | apply Ext.alloc | (refine Ext.trans ?_ (by assumption)) | (refine Ext.set ?_ (by dsimp only; omega) _)))) ?_; rintro e wc ⟨gr, csr, cr, rfl, hgr, hcr, hhr, hsr, hrr, hxc⟩; obtain ⟨p3, p4, p5, _⟩ := GbAt.blk (Ext.blk hxc HBX.out); obtain ⟨y0, y1, y2⟩ := own_cell (n := cs.size) (k := k) (Ext.blk hxc HGB.out) rfl (by have := HSZ.out; omega)))
        all_goals
          have hxc' : Ext wr wc := (by repeat (first | assumption | exact Ext.refl _ | apply Ext.drewN | apply Ext.drew | apply Ext.alloc | (refine Ext.trans ?_ (by assumption)) | (refine Ext.set ?_ (by dsimp only; omega) _)))
          have hgs := blk_lt HGA.out
          have hgr' : wr.heap.size ≤ gr := by (try simp only [size_drew, size_drewN] at hgr); omega
          have hrows2 : RowsIn (wc.setCell ⟨gb, k, none⟩ (.slice (some ⟨gr, 0, none⟩) Lk cr)) (w.heap.size + 2) gb (fun j => if j < k then f j else gr) (cs.setIfInBounds k (.slice (some ⟨gr, 0, none⟩) Lk cr)) 0 (k + 1) G.r := by
            have ho := (rowF_lst' hrr hhr hsr).at0
            rw [lst_self HLK.out] at ho
            have hp := (HRO.out.ext hxc').push (b := gr) (A' := some ⟨gr, 0, none⟩) (c' := cr) (by have := HSZ.out; omega) (by rw [HLK.out]; exact ho) (by rw [HLK.out]; exact hcr) (by have := blk_lt HGB.out; omega) (by have := hx.size; have := blk_lt HGB.out; omega) (blk_lt hhr) (fun j hj => by
              obtain ⟨_, _, _, _, _, _, _, h6⟩ := HRO.out.at_ j hj
              omega)
            rw [HLK.out, Nat.zero_add] at hp
            exact hp.set _ _
          have HR2 := Lib.hid hrows2
          clear hrows2
          go_wp2_with (fail)
          exact ⟨⟨k + 1, _, _, by omega, by go_num, set_other (Ext.blk hxc HBX.out) (by dsimp only; omega), set_other (Ext.blk hxc HZX.out) (by dsimp only; omega), set_other (Ext.blk hxc HGA.out) (by dsimp only; exact hne), blk_set1 (Ext.blk hxc HGB.out) k _, by rw [Array.size_setIfInBounds]; exact HSZ.out, HR2.out, fun j hj => by
            by_cases hjk : j < k
            · simp only [hjk, if_true]; exact HFA.out j hjk
            · simp only [hjk, if_false]; omega, fun j hj hjm => by
            rw [Array.getElem?_setIfInBounds, if_neg (by omega)]
            exact HRE.out j (by omega) hjm, Ext.set (hx.trans hxc') (by dsimp only; omega) _⟩, by simp [intOf]; omega⟩
      · obtain rfl : k = m := by omega
        obtain ⟨c0, c1, c2, x0, x1, x2⟩ := three_c hzx
        have hG : OwG wr (w.heap.size + 2) wr.heap.size (.agg #[.int .i64 G.t, .slice (some ⟨ga, 0, none⟩) n ca, .slice (some ⟨gb, 0, none⟩) k cb]) G := by
          have e1 := HPL.out
          have e2 := HRL.out
          have ho := (rowF_lst' hra hgA hsa).at0
          rw [lst_self e1] at ho
          exact ⟨_, _, _, _, ga, gb, f, by rw [e1, e2], by rw [e1]; exact ho, by rw [e2]; exact hrows.own e2 hgB (by omega), by rw [e1]; exact hca, by rw [e2]; exact hcb, .inr ⟨hga2, blk_lt hgA⟩, .inr ⟨hgb2, blk_lt hgB, Ne.symm hne⟩, fun j hj => by
            rw [e2] at hj
            obtain ⟨_, _, _, _, _, _, h5, h6⟩ := hrows.at_ j hj
            exact ⟨h5, h6, hfa j hj⟩⟩
        have HG := Lib.hid hG
        clear hG hrows hfa hrest hgA hgB hsz
        go_wp2_with (fail)
        exact bodyPost_ret (v := .agg #[.int .i64 G.t, .slice (some ⟨ga, 0, none⟩) n ca, .slice (some ⟨gb, 0, none⟩) k cb]) (by simp [results, Try.results97, go_sem, c0, c1, c2, x0, x1, x2, p0, p1, p2]) rfl
          ⟨_, rfl, by
            refine OwG.more (lo := w.heap.size + 2) (hi := wr.heap.size) ?_ (by omega) (by simp)
            repeat (first | exact HG.out | (refine OwG.setOther ?_ (by left; dsimp only; omega) _)), (by repeat (first | assumption | exact Ext.refl _ | apply Ext.drewN | apply Ext.drew | apply Ext.alloc | (refine Ext.trans ?_ (by assumption)) | (refine Ext.set ?_ (by dsimp only; omega) _)))⟩
end Go.Proofs.Ytkbkjkjjoogieaa
