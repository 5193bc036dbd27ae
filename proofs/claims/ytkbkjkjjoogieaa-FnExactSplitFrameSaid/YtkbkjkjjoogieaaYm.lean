/- Contract: the reference copies a gather. Condition: the gather is read, and none of its lists is empty. -/
import Derived.Test.YtkbkjkjjoogieaaYl
import Derived.Test.YtkbkjkjjoogieaaMo2
import Derived.Maps.AppendAt
namespace Go.Proofs.Ytkbkjkjjoogieaa
open Go.RowKit Ieee

theorem typ_ne {w : World} {a b : Nat} {x y : Array Value} {T U : TypeId} (h : w.heap[a]? = some (.cells x T (0, 0))) (h' : w.heap[b]? = some (.cells y U (0, 0))) (hT : T ≠ U) : a ≠ b := fun e => by
  subst e
  rw [h] at h'
  exact hT (Obj.cells.inj (Option.some.inj h')).2.1
/-- Rows stay where only the spine's block turns. -/
theorem RowsIn.other {w w' : World} {base g g' : Nat} {f : Nat → Nat} {cs cs' : Array Value} {k : Nat} {R : List (List (Option Nat))} (h : RowsIn w base g f cs 0 k R) (hg : w.grownBy w' (some g)) (hcs : ∀ j, j < k → cs'[j]? = cs[j]?) (hg' : g' = g ∨ w.heap.size ≤ g') : RowsIn w' base g' f cs' 0 k R :=
  ⟨fun j hj => by
    obtain ⟨A', c', h1, h2, h3, h4, h5, h6⟩ := h.at_ j hj
    refine ⟨A', c', by rw [Nat.zero_add] at h1 ⊢; rw [hcs j hj]; exact h1, h2.same (fun b h7 h8 => by
      have e : b = f j := by omega
      rw [e]; exact hg.block _ h6 (fun e2 => h4 (Option.some.inj e2))), h3, ?_, h5, Nat.lt_of_lt_of_le h6 hg.size⟩
    rcases hg' with rfl | h7
    · exact h4
    · omega, h.inj⟩
theorem take_get {l : List Value} {cs : Array Value} {k n : Nat} {x : List Value} (h : cs.toList.take n = l.take k ++ x) (hk : k ≤ l.length) (hn : k ≤ n) : ∀ j, j < k → cs[j]? = l[j]? := by
  intro j hj
  have h1 : cs[j]? = (cs.toList.take n)[j]? := by rw [List.getElem?_take_of_lt (by omega)]; simp
  rw [h1, h, List.getElem?_append_left (by simp; omega), List.getElem?_take_of_lt hj]
theorem take_get_end {l : List Value} {cs : Array Value} {k : Nat} {v : Value} (h : cs.toList.take (k + 1) = l.take k ++ [v]) (hk : k ≤ l.length) : cs[k]? = some v := by
  have h1 : cs[k]? = (cs.toList.take (k + 1))[k]? := by rw [List.getElem?_take_of_lt (by omega)]; simp
  rw [h1, h, List.getElem?_append_right (by rw [List.length_take]; omega)]
  simp [Nat.min_eq_left hk]
/-- One slice more at a spine that grows. -/
theorem RowsIn.grow {w w' : World} {base base0 g k cap b : Nat} {f : Nat → Nat} {cs : Array Value} {R : List (List (Option Nat))} {v : Value} {A' : Option Addr} {c' : Nat} (h : RowsIn w base g f cs 0 k R) (hk : k ≤ cap) (hcs : cs.size = cap)
    (hown : w'.ownsRow base0 22 1 v (k + 1) (cs.toList.take k ++ [.slice A' (R.getD k []).length c'])) (hg : w.grownBy w' (some g)) (hblk : v.ownBlock = some g ∨ v.ownBlock = some w.heap.size)
    (ho : OwL w b (b + 1) A' (R.getD k []).length (R.getD k [])) (hc : (R.getD k []).length ≤ c') (hb : b ≠ g) (hbb : base ≤ b) (hbs : b < w.heap.size) (hn : ∀ j, j < k → f j ≠ b) :
    ∃ g' cap' cs', v = .slice (some ⟨g', 0, none⟩) (k + 1) cap' ∧ base0 ≤ g' ∧ w'.heap[g']? = some (.cells cs' 22 (0, 0)) ∧ k + 1 ≤ cap' ∧ cap' ≤ maxLen ∧ cs'.size = cap' ∧ RowsIn w' base g' (fun j => if j < k then f j else b) cs' 0 (k + 1) R := by
  obtain ⟨hl, hd⟩ := hown
  rcases hd with ⟨_, h0⟩ | ⟨g', cap', cs', rfl, hb0, hgb, hn', hm', hsz, htk⟩
  · omega
  have hg' : g' = g ∨ w.heap.size ≤ g' := by
    rcases hblk with e | e
    · exact .inl (Option.some.inj e)
    · have := Option.some.inj e; dsimp only at this; exact .inr (by omega)
  rw [Nat.mul_one] at hsz htk
  have hle : k ≤ cs.toList.length := by simp; omega
  have hR := h.other (cs' := cs') hg (fun j hj => by rw [take_get htk hle (by omega) j hj]; simp) hg'
  refine ⟨g', cap', cs', rfl, hb0, hgb, hn', hm', hsz, fun j hj => ?_, fun i j hi hj => ?_⟩
  · by_cases hjk : j < k
    · simp only [hjk, if_true]
      exact hR.at_ j hjk
    · obtain rfl : j = k := by omega
      simp only [Nat.lt_irrefl, if_false]
      refine ⟨A', c', by rw [Nat.zero_add]; exact take_get_end htk hle, ho.same (fun x h7 h8 => by
        have e : x = b := by omega
        rw [e]; exact hg.block _ hbs (fun e2 => hb (Option.some.inj e2))), hc, ?_, hbb, Nat.lt_of_lt_of_le hbs hg.size⟩
      rcases hg' with rfl | h7
      · exact hb
      · omega
  · by_cases hjk : j < k
    · have hik : i < k := by omega
      simp only [hjk, hik, if_true]
      exact h.inj i j hi hjk
    · obtain rfl : j = k := by omega
      simp only [hi, Nat.lt_irrefl, if_true, if_false]
      exact hn i hi
theorem RowOf.owl {w0 w : World} {n : Nat} {rs : List Nat} {v : Value} {L : List (Option Nat)} (h : RowOf w0 79 n (fvals rs) v w) (hl : rs.length = n) (hL : L.length = n) (hr : ∀ j, j < n → Fl .f32 (rs.getD j 0) (L.getD j none)) :
    ∃ g cap cs, v = .slice (some ⟨g, 0, none⟩) n cap ∧ w0.heap.size ≤ g ∧ g < w.heap.size ∧ n ≤ cap ∧ w.heap[g]? = some (.cells cs 79 (0, 0)) ∧ n ≤ cs.size ∧ RowF cs n (fun j => L.getD j none) ∧ OwL w g (g + 1) (some ⟨g, 0, none⟩) n L := by
  obtain ⟨g, cap, cur, hv, hg, hb, hn, hm, hs, htk⟩ := h
  have hrow : RowF cur n (fun j => L.getD j none) := fun j hj => by
    have e1 : cur[j]? = (cur.toList.take n)[j]? := by rw [List.getElem?_take_of_lt hj]; simp
    exact ⟨rs.getD j 0, by rw [e1, htk, fvals_at (by omega)], hr j hj⟩
  exact ⟨g, cap, cur, hv, hg, blk_lt hb, hn, hb, by omega, hrow, hL, .inr ⟨g, 0, cur, rfl, Nat.le_refl _, Nat.lt_succ_self _, hb, by omega, fun j hj => by
    obtain ⟨r, h1, h2⟩ := hrow j hj
    exact ⟨r, by rw [Nat.zero_add]; exact h1, h2⟩⟩⟩
set_option linter.unusedSimpArgs false in
set_option maxRecDepth 20000 in
set_option maxHeartbeats 2000000 in
theorem c_l04Own {w : World} {B b n m cp ct : Nat} {Ap At : Option Addr} {G : Gat} (hb : GbAt w b G.t Ap n cp At m ct) (hp0 : RdF w B Ap n G.p) (hr0 : RdS w B At m G.r) (hB : B ≤ w.heap.size) (h1 : n ≤ 1048576) (h2 : m ≤ 1048576) (h3 : ∀ j, j < m → (G.r.getD j []).length ≤ 1048576) (hn : 0 < n) (hm : 0 < m) (hrow : ∀ j, j < m → 0 < (G.r.getD j []).length) :
    Calls Try.prog 92 #[.pointer (some ⟨b, 0, none⟩)] w fun e w' => ∃ v, e = .returned v ∧ OwG w' w.heap.size w'.heap.size v G ∧ Ext w w' := by
  obtain ⟨i0, hi, hz0, hz1, hz2⟩ := info_parts info_f32
  obtain ⟨i1, hi1, hz10, hz11, hz12⟩ := info_parts info_f32s
  obtain ⟨ba, oa, rfl, hba, rs, hrl, hrs⟩ := hp0.words hn
  have HR := Lib.hid hrs
  have hnew : ∀ W : World, Ext w W → ∀ j u, (fvals rs)[j]? = some u → W.cell? ((⟨ba, oa, none⟩ : Addr).add j) = some u := by
    intro W hW j u hj
    have hjn : j < n := by
      rcases Nat.lt_or_ge j n with h1 | h1
      · exact h1
      · rw [List.getElem?_eq_none (by simp [fvals, hrl]; omega)] at hj; cases hj
    rw [fvals_at (by omega)] at hj
    cases hj
    have hc := (HR.out j hjn).1
    have e0 : (⟨ba, oa, none⟩ : Addr).add j = ⟨ba, oa + j, none⟩ := by simp [Addr.add]
    rw [e0]
    exact (hW.cell (by show ba < _; omega)).trans hc
  have HNEW := Lib.hid hnew
  have p0 := hb.p0
  have p1 := hb.p1
  have p2 := hb.p2
  have hbl := hb.lt
  have HB := Lib.hid hb
  have HPL := Lib.hid hp0.len
  have HRL := Lib.hid hr0.len
  have HRD := Lib.hid hr0
  have H3 := Lib.hid h3
  have HROW := Lib.hid hrow
  clear hrs hnew hb hp0 hr0 h3 hrow
  go_enter Try.func92, Try.ntmps92
  go_wp2_with (fail)
  obtain ⟨W1, hW1⟩ : ∃ W1, W1 = w.alloc (.cells #[.int .i64 0, .slice none 0 0, .slice none 0 0] 68) := ⟨_, rfl⟩
  have hx1 : Ext w W1 := by rw [hW1]; exact (by repeat (first | assumption | exact Ext.refl _ | apply Ext.drewN | apply Ext.drew | apply Ext.alloc | (refine Ext.trans ?_ (by assumption)) | (refine Ext.set ?_ (by dsimp only; omega) _)))
  have hz1' : W1.heap[w.heap.size]? = some (.cells #[.int .i64 0, .slice none 0 0, .slice none 0 0] 68 (0, 0)) := by rw [hW1]; exact heap_alloc_new w _
  have hs1 : W1.heap.size = w.heap.size + 1 := by rw [hW1]; exact al_size _ _
  rw [← hW1]
  clear hW1
  refine wp_region_any (by kernel_rfl) ?_
  refine wpAny_mo_go (md := .any) (R := Ext) (w := W1) [(0, 5), (1, 6), (2, 7), (3, 8), (4, 9), (5, 10), (6, 11), (7, 12), (8, 13), (9, 14), (10, 15), (11, 16), (12, 3)] [13] (tl := [_]) (S := ?S1_) (by kernel_rfl) (by rfl) (by rfl) Ext.refl ext_tr (ext_drew1 _) ?hS1_ ?go1_
  case hS1_ => intro vs; simp only [putAll, Act.put, List.setIfInBounds_toArray, List.set_cons_zero, List.set_cons_succ]; rfl
  case go1_ =>
  refine mo_fix _ (by rfl) (by rfl) (by intro vs w1 hx_ hd; have q0 := ((hx1.trans hx_).cell hbl).trans p0; have q1 := ((hx1.trans hx_).cell hbl).trans p1; go_simp; first | done | rfl) ?_
  refine mo_fix _ (by rfl) (by rfl) (by intro vs w1 hx_ hd; have q0 := ((hx1.trans hx_).cell hbl).trans p0; have q1 := ((hx1.trans hx_).cell hbl).trans p1; have e0 := hd 0 (by kernel_rfl); simp (decide := true) only [factAt, if_true, if_false] at e0; simp only [e0]; go_simp; first | done | rfl) ?_
  refine mo_fix _ (by rfl) (by rfl) (by intro vs w1 hx_ hd; have q0 := ((hx1.trans hx_).cell hbl).trans p0; have q1 := ((hx1.trans hx_).cell hbl).trans p1; have e1 := hd 1 (by kernel_rfl); simp (decide := true) only [factAt, if_true, if_false] at e1; simp only [e1]; go_simp; first | done | rfl) ?_
  refine mo_fix _ (by rfl) (by rfl) (by intro vs w1 hx_ hd; have q0 := ((hx1.trans hx_).cell hbl).trans p0; have q1 := ((hx1.trans hx_).cell hbl).trans p1; have e2 := hd 2 (by kernel_rfl); simp (decide := true) only [factAt, if_true, if_false] at e2; simp only [e2]; go_simp; first | done | rfl) ?_
  refine mo_make (fun a => .slice (some a) 0 0) (.cells #[] 79) (by rfl) (by rfl) (by intro vs w1 hx_ hd; have q0 := ((hx1.trans hx_).cell hbl).trans p0; have q1 := ((hx1.trans hx_).cell hbl).trans p1; go_simp; first | done | rfl) ?_
  refine mo_fix _ (by rfl) (by rfl) (by intro vs w1 hx_ hd; have q0 := ((hx1.trans hx_).cell hbl).trans p0; have q1 := ((hx1.trans hx_).cell hbl).trans p1; go_simp; first | done | rfl) ?_
  refine mo_fix _ (by rfl) (by rfl) (by intro vs w1 hx_ hd; have q0 := ((hx1.trans hx_).cell hbl).trans p0; have q1 := ((hx1.trans hx_).cell hbl).trans p1; have e5 := hd 5 (by kernel_rfl); simp (decide := true) only [factAt, if_true, if_false] at e5; simp only [e5]; go_simp; first | done | rfl) ?_
  refine mo_fix _ (by rfl) (by rfl) (by intro vs w1 hx_ hd; have q0 := ((hx1.trans hx_).cell hbl).trans p0; have q1 := ((hx1.trans hx_).cell hbl).trans p1; have e6 := hd 6 (by kernel_rfl); simp (decide := true) only [factAt, if_true, if_false] at e6; simp only [e6]; go_simp; first | done | rfl) ?_
  refine mo_fix _ (by rfl) (by rfl) (by intro vs w1 hx_ hd; have q0 := ((hx1.trans hx_).cell hbl).trans p0; have q1 := ((hx1.trans hx_).cell hbl).trans p1; have e7 := hd 7 (by kernel_rfl); simp (decide := true) only [factAt, if_true, if_false] at e7; simp only [e7]; go_simp; first | done | rfl) ?_
  refine mo_append 79 (fvals rs) (.tmp 9) (.tmp 13) 22 (by rfl) (by rfl) (by rfl) i0 (.float .f32 0) 4 Try.underlying22 hi hz0 hz1 hz2 rfl n hn (by simp [fvals, hrl]) (by unfold maxLen; omega) (by omega) (by intro vs w1 hx_ hd; have e4 := hd 4 (by kernel_rfl); have e8 := hd 8 (by kernel_rfl); simp (decide := true) only [factAt, if_true, if_false] at e4 e8; obtain ⟨g4, e4, _⟩ := e4; exact ⟨g4, ⟨ba, oa, none⟩, cp, e4, e8, HNEW.out _ (hx1.trans hx_)⟩) ?_
  refine mo_make (fun a => .slice (some a) 0 0) (.cells #[] 22) (by rfl) (by rfl) (by intro vs w1 hx_ hd; have q0 := ((hx1.trans hx_).cell hbl).trans p0; have q1 := ((hx1.trans hx_).cell hbl).trans p1; go_simp; first | done | rfl) ?_
  refine mo_of (fun us => .agg #[us 3, us 9, us 10]) (by rfl) (by rfl) (by intro us vs w1 hu hx_ hd; have q0 := ((hx1.trans hx_).cell hbl).trans p0; have q1 := ((hx1.trans hx_).cell hbl).trans p1; have e3 := hd 3 (by kernel_rfl); have e9 := hd 9 (by kernel_rfl); have e10 := hd 10 (by kernel_rfl); simp (decide := true) only [factAt, if_true, if_false] at e3 e9 e10; rw [hu 3 (by kernel_rfl)]; rw [hu 9 (by kernel_rfl)]; rw [hu 10 (by kernel_rfl)]; obtain ⟨g9, c9, cs9, e9, _⟩ := e9; obtain ⟨g10, e10, _⟩ := e10; rw [e3, e9, e10]; go_simp; first | done | rfl) ?_
  refine mo_make (fun a => .pointer (some a)) (.cells #[.int .i64 0, .slice none 0 0, .slice none 0 0] 68) (by rfl) (by rfl) (by intro vs w1 hx_ hd; have q0 := ((hx1.trans hx_).cell hbl).trans p0; have q1 := ((hx1.trans hx_).cell hbl).trans p1; go_simp; first | done | rfl) ?_
  refine mo_end ?_
  intro vs w2 hx2 hd
  have e3 := hd 3 (by kernel_rfl)
  have e9 := hd 9 (by kernel_rfl)
  have e10 := hd 10 (by kernel_rfl)
  obtain ⟨us, hu, e11⟩ := seen_got (hd 11 (by kernel_rfl))
  have e12 := hd 12 (by kernel_rfl)
  simp (decide := true) only [factAt, if_true, if_false] at e3 e9 e10 e11 e12
  rw [hu 3 (by kernel_rfl), hu 9 (by kernel_rfl), hu 10 (by kernel_rfl)] at e11
  obtain ⟨gp, capp, csp, e9, hgp, hgp2, hnp, hhp, hsp, hrp, hop⟩ := e9.owl hrl HPL.out (fun j hj => (HR.out j hj).2)
  obtain ⟨g15, e10, hg15, hh15⟩ := e10
  obtain ⟨go, e12, hgo, hho⟩ := e12
  rw [e3, e9, e10] at e11
  generalize vs 11 = v11 at e11 ⊢
  generalize vs 12 = v12 at e12 ⊢
  subst e11 e12
  obtain ⟨c0, c1, c2, z0, z1, z2⟩ := three_c hho
  have hx02 : Ext w w2 := hx1.trans hx2
  have hzb := hx2.blk hz1'
  have hgo2 := blk_lt hho
  have hg152 := blk_lt hh15
  have hgpo : gp ≠ go := typ_ne hhp hho (by decide)
  have hg15o : g15 ≠ go := typ_ne hh15 hho (by decide)
  rw [hs1] at hgp hg15 hgo
  clear hd hu e3 e9 e10
  go_wp2_with (fail)
  go_loopw [4] (fun y wr => ∃ (k gs cap : Nat) (cs : Array Value) (f : Nat → Nat), k ≤ m ∧ y = .int .i64 k ∧ wr.heap[go]? = some (.cells #[.int .i64 G.t, .slice (some ⟨gp, 0, none⟩) n capp, .slice (some ⟨gs, 0, none⟩) k cap] 68 (0, 0)) ∧ wr.heap[gp]? = some (.cells csp 79 (0, 0)) ∧ wr.heap[w.heap.size]? = some (.cells #[.int .i64 0, .slice none 0 0, .slice none 0 0] 68 (0, 0)) ∧ wr.heap[gs]? = some (.cells cs 22 (0, 0)) ∧ k ≤ cap ∧ cap ≤ maxLen ∧ cs.size = cap ∧ RowsIn wr w2.heap.size gs f cs 0 k G.r ∧ w.heap.size + 1 ≤ gs ∧ w2.heap.size ≤ wr.heap.size ∧ Ext w wr) (fun y _ => m - (intOf y).toNat)
  case atStart => exact ⟨0, g15, 0, #[], id, Nat.zero_le _, rfl, blk_set1 (blk_set1 (blk_set1 hho 0 _) 1 _) 2 _, set_other (set_other (set_other hhp hgpo) hgpo) hgpo, set_other (set_other (set_other hzb (by dsimp only; omega)) (by dsimp only; omega)) (by dsimp only; omega), set_other (set_other (set_other hh15 hg15o) hg15o) hg15o, Nat.le_refl _, Nat.zero_le _, rfl, RowsIn.zero _ _ _ _ _ _ _, hg15, (by simp), (by repeat (first | assumption | exact Ext.refl _ | apply Ext.drewN | apply Ext.drew | apply Ext.alloc | (refine Ext.trans ?_ (by assumption)) | (refine Ext.set ?_ (by dsimp only; omega) _)))⟩
  case round =>
    obtain ⟨k, gs, cap, cs, f, hk, rfl, hgoX, hgpX, hzbX, hgsX, hkc, hcm, hcz, hrows, hgs1, hsz2, hx⟩ := hrel
    have HGO := Lib.hid hgoX
    have HGP := Lib.hid hgpX
    have HZB := Lib.hid hzbX
    have HGS := Lib.hid hgsX
    have HRO := Lib.hid hrows
    have HCZ := Lib.hid hcz
    by_cases hlt : k < m
    · have hlt' : (k : Int) < (m : Int) := by omega
      obtain ⟨b1, o1, A', c', rfl, hb1, hc1, hrd, hlc⟩ := (HRD.out.below (hx.mono hB)).cell hlt
      have hlk := H3.out k hlt
      have hlp := HROW.out k hlt
      obtain ⟨Lk, hLk⟩ : ∃ x, (G.r.getD k []).length = x := ⟨_, rfl⟩
      rw [hLk] at hc1 hrd hlc hlk hlp
      have HLK := Lib.hid hLk
      obtain ⟨b2, o2, rfl, hb2, ts, htl, hts⟩ := hrd.words hlp
      have HT := Lib.hid hts
      have hnewT : ∀ W : World, Ext wr W → ∀ j u, (fvals ts)[j]? = some u → W.cell? ((⟨b2, o2, none⟩ : Addr).add j) = some u := by
        intro W hW j u hj
        have hjn : j < Lk := by
          rcases Nat.lt_or_ge j Lk with h1 | h1
          · exact h1
          · rw [List.getElem?_eq_none (by simp [fvals, htl]; omega)] at hj; cases hj
        rw [fvals_at (by omega)] at hj
        cases hj
        have hc := (HT.out j hjn).1
        have e0 : (⟨b2, o2, none⟩ : Addr).add j = ⟨b2, o2 + j, none⟩ := by simp [Addr.add]
        rw [e0]
        exact (hW.cell (by show b2 < _; have := hx.size; omega)).trans hc
      have HNT := Lib.hid hnewT
      have hblr : b < wr.heap.size := Nat.lt_of_lt_of_le hbl hx.size
      have hb1r : b1 < wr.heap.size := by have := hx.size; omega
      have p2r : wr.cell? ⟨b, 2, none⟩ = some (.slice (some ⟨b1, o1, none⟩) m ct) := (hx.cell hbl).trans p2
      clear hgoX hgpX hzbX hgsX hrows hcz hts hnewT hLk hrd
      go_wp2_with (fail)
      refine wp_region_any (by kernel_rfl) ?_
      refine wpAny_mo_go (md := .any) (R := Ext) (w := wr) [(0, 26), (1, 27), (2, 28), (3, 29), (4, 30), (5, 31), (6, 32), (7, 33), (8, 34), (9, 35), (10, 36), (11, 37)] [12, 13, 14] (tl := [_, _, _]) (S := ?S2_) (by kernel_rfl) (by rfl) (by rfl) Ext.refl ext_tr (ext_drew1 _) ?hS2_ ?go2_
      case hS2_ => intro vs; simp only [putAll, Act.put, List.setIfInBounds_toArray, List.set_cons_zero, List.set_cons_succ]; rfl
      case go2_ =>
      refine mo_fix _ (by rfl) (by rfl) (by intro vs w1 hx_ hd; have q0 := (three_c (hx_.blk HGO.out)).2.2.1; have q1 := (hx_.cell (p := ⟨b, 2, none⟩) hblr).trans p2r; have q2 := (hx_.cell (p := ⟨b1, o1 + k, none⟩) hb1r).trans hc1; go_simp; first | done | rfl) ?_
      refine mo_fix _ (by rfl) (by rfl) (by intro vs w1 hx_ hd; have q0 := (three_c (hx_.blk HGO.out)).2.2.1; have q1 := (hx_.cell (p := ⟨b, 2, none⟩) hblr).trans p2r; have q2 := (hx_.cell (p := ⟨b1, o1 + k, none⟩) hb1r).trans hc1; have e0 := hd 0 (by kernel_rfl); simp (decide := true) only [factAt, if_true, if_false] at e0; simp only [e0]; go_simp; first | done | rfl) ?_
      refine mo_make (fun a => .slice (some a) 0 0) (.cells #[] 79) (by rfl) (by rfl) (by intro vs w1 hx_ hd; have q0 := (three_c (hx_.blk HGO.out)).2.2.1; have q1 := (hx_.cell (p := ⟨b, 2, none⟩) hblr).trans p2r; have q2 := (hx_.cell (p := ⟨b1, o1 + k, none⟩) hb1r).trans hc1; go_simp; first | done | rfl) ?_
      refine mo_fix _ (by rfl) (by rfl) (by intro vs w1 hx_ hd; have q0 := (three_c (hx_.blk HGO.out)).2.2.1; have q1 := (hx_.cell (p := ⟨b, 2, none⟩) hblr).trans p2r; have q2 := (hx_.cell (p := ⟨b1, o1 + k, none⟩) hb1r).trans hc1; go_simp; first | done | rfl) ?_
      refine mo_fix _ (by rfl) (by rfl) (by intro vs w1 hx_ hd; have q0 := (three_c (hx_.blk HGO.out)).2.2.1; have q1 := (hx_.cell (p := ⟨b, 2, none⟩) hblr).trans p2r; have q2 := (hx_.cell (p := ⟨b1, o1 + k, none⟩) hb1r).trans hc1; have e3 := hd 3 (by kernel_rfl); simp (decide := true) only [factAt, if_true, if_false] at e3; simp only [e3]; go_simp; first | done | rfl) ?_
      refine mo_fix _ (by rfl) (by rfl) (by intro vs w1 hx_ hd; have q0 := (three_c (hx_.blk HGO.out)).2.2.1; have q1 := (hx_.cell (p := ⟨b, 2, none⟩) hblr).trans p2r; have q2 := (hx_.cell (p := ⟨b1, o1 + k, none⟩) hb1r).trans hc1; have e4 := hd 4 (by kernel_rfl); simp (decide := true) only [factAt, if_true, if_false] at e4; simp only [e4]; go_simp; first | done | rfl) ?_
      refine mo_fix _ (by rfl) (by rfl) (by intro vs w1 hx_ hd; have q0 := (three_c (hx_.blk HGO.out)).2.2.1; have q1 := (hx_.cell (p := ⟨b, 2, none⟩) hblr).trans p2r; have q2 := (hx_.cell (p := ⟨b1, o1 + k, none⟩) hb1r).trans hc1; have e5 := hd 5 (by kernel_rfl); simp (decide := true) only [factAt, if_true, if_false] at e5; simp only [e5]; go_simp; first | done | rfl) ?_
      refine mo_fix _ (by rfl) (by rfl) (by intro vs w1 hx_ hd; have q0 := (three_c (hx_.blk HGO.out)).2.2.1; have q1 := (hx_.cell (p := ⟨b, 2, none⟩) hblr).trans p2r; have q2 := (hx_.cell (p := ⟨b1, o1 + k, none⟩) hb1r).trans hc1; go_simp; first | done | rfl) ?_
      refine mo_fix _ (by rfl) (by rfl) (by intro vs w1 hx_ hd; have q0 := (three_c (hx_.blk HGO.out)).2.2.1; have q1 := (hx_.cell (p := ⟨b, 2, none⟩) hblr).trans p2r; have q2 := (hx_.cell (p := ⟨b1, o1 + k, none⟩) hb1r).trans hc1; have e6 := hd 6 (by kernel_rfl); have e7 := hd 7 (by kernel_rfl); simp (decide := true) only [factAt, if_true, if_false] at e6 e7; simp only [e6, e7]; go_simp; first | done | rfl) ?_
      refine mo_fix _ (by rfl) (by rfl) (by intro vs w1 hx_ hd; have q0 := (three_c (hx_.blk HGO.out)).2.2.1; have q1 := (hx_.cell (p := ⟨b, 2, none⟩) hblr).trans p2r; have q2 := (hx_.cell (p := ⟨b1, o1 + k, none⟩) hb1r).trans hc1; have e8 := hd 8 (by kernel_rfl); simp (decide := true) only [factAt, if_true, if_false] at e8; simp only [e8]; go_simp; first | done | rfl) ?_
      refine mo_append 79 (fvals ts) (.tmp 28) (.tmp 35) 22 (by rfl) (by rfl) (by rfl) i0 (.float .f32 0) 4 Try.underlying22 hi hz0 hz1 hz2 rfl Lk hlp (by simp [fvals, htl]) (by unfold maxLen; omega) (by omega) (by intro vs w1 hx_ hd; have e2 := hd 2 (by kernel_rfl); have e9 := hd 9 (by kernel_rfl); simp (decide := true) only [factAt, if_true, if_false] at e2 e9; obtain ⟨g4, e2, _⟩ := e2; exact ⟨g4, ⟨b2, o2, none⟩, c', e2, e9, HNT.out _ hx_⟩) ?_
      refine mo_make_of (fun a => .slice (some a) 1 1) (fun us => .cells #[us 10] 22) (by rfl) (by rfl) (by intro us vs w1 hu hx_ hd; have q0 := (three_c (hx_.blk HGO.out)).2.2.1; have q1 := (hx_.cell (p := ⟨b, 2, none⟩) hblr).trans p2r; have q2 := (hx_.cell (p := ⟨b1, o1 + k, none⟩) hb1r).trans hc1; have e10 := hd 10 (by kernel_rfl); simp (decide := true) only [factAt, if_true, if_false] at e10; rw [hu 10 (by kernel_rfl)]; obtain ⟨g9, c9, cs9, e10, _⟩ := e10; rw [e10]; go_simp; first | done | rfl) ?_
      refine mo_end ?_
      intro vs w3 hx3 hd
      have e1 := hd 1 (by kernel_rfl)
      have e10 := hd 10 (by kernel_rfl)
      obtain ⟨us, hu, e11⟩ := seen_got (hd 11 (by kernel_rfl))
      simp (decide := true) only [factAt, if_true, if_false] at e1 e10 e11
      rw [hu 10 (by kernel_rfl)] at e11
      obtain ⟨gr, cr, csr, e10, hgr, hgr2, hcr, hhr, hsr, hrr, hor⟩ := e10.owl (L := G.r.getD k []) htl HLK.out (fun j hj => (HT.out j hj).2)
      obtain ⟨g37, e11, hg37, hh37⟩ := e11
      rw [e10] at hh37
      dsimp only at e11
      have hgs3 := hx3.blk HGS.out
      have hgo3 := hx3.blk HGO.out
      have hgrs : gr ≠ gs := typ_ne hhr hgs3 (by decide)
      have hgos : go ≠ gs := typ_ne hgo3 hgs3 (by decide)
      have hgps : gp ≠ gs := typ_ne (hx3.blk HGP.out) hgs3 (by decide)
      have hzbs : w.heap.size ≠ gs := by omega
      have hc37 : w3.cell? ⟨g37, 0, none⟩ = some (.slice (some ⟨gr, 0, none⟩) Lk cr) := by rw [cell_of_row w3 g37 _ _ _ (0, 0) hh37]; rfl
      have hn37 : ∀ j u, [Value.slice (some ⟨gr, 0, none⟩) Lk cr][j]? = some u → w3.cell? ((⟨g37, 0, none⟩ : Addr).add j) = some u := by
        intro j u hj
        match j, hj with
        | 0, hj =>
          simp only [List.getElem?_cons_zero, Option.some.injEq] at hj
          subst hj
          simpa [Addr.add] using hc37
      have hown3 : w3.ownsRow (w.heap.size + 1) 22 1 (.slice (some ⟨gs, 0, none⟩) k cap) k (cs.toList.take k) := by
        have e := HCZ.out
        exact ⟨by simp; omega, .inr ⟨gs, cap, cs, rfl, hgs1, hgs3, hkc, hcm, by omega, by rw [Nat.mul_one]⟩⟩
      have HOWN := Lib.hid hown3
      have HR3 := Lib.hid (HRO.out.ext hx3)
      have HGS3 := Lib.hid hgs3
      have HGO3 := Lib.hid hgo3
      have HGP3 := Lib.hid (hx3.blk HGP.out)
      have HZB3 := Lib.hid (hx3.blk HZB.out)
      have HOR := Lib.hid hor
      have HN37 := Lib.hid hn37
      generalize vs 1 = v1 at e1 ⊢
      generalize vs 11 = v11 at e11 ⊢
      subst e1 e11
      clear hd hu hgs3 hgo3 hown3 hor hhr hrr hh37 hc37 hn37
      refine wpList_append_own_at _ rfl _ _ 64 rfl (w.heap.size + 1) 22 i1 (.slice none 0 0) 1 24 Try.underlying64 hi1 hz10 hz11 hz12 rfl (by decide) _ k (cs.toList.take k) rfl HOWN.out ⟨g37, 0, none⟩ 1 1 [.slice (some ⟨gr, 0, none⟩) Lk cr] rfl rfl HN37.out ?_ ?_ ?_ ?_ ?_
      all_goals first
        | (intro u hu; simp only [List.mem_singleton] at hu; subst hu; rfl)
        | (unfold maxLen; omega)
        | omega
        | (have := hx.size; have := hx3.size; omega)
        | skip
      intro v4 w4 hown4 hgrow4 _ hblk4
      have hkeep : ∀ a o, w3.heap[a]? = some o → a ≠ gs → w4.heap[a]? = some o := fun a o h hne => (hgrow4.block a (blk_lt h) (fun e => hne (Option.some.inj e))).trans h
      have hx4 : Ext w w4 := Below.grown (hx.trans hx3) hgrow4 (hx.trans hx3).size (fun j hj => Nat.le_trans (by omega) (HOWN.out.lt j hj).1)
      obtain ⟨g', cap', cs', rfl, hb0, hgb, hn', hm', hsz', hrows'⟩ := HR3.out.grow (v := v4) (A' := some ⟨gr, 0, none⟩) (c' := cr) (b := gr) hkc HCZ.out (by rw [HLK.out]; exact hown4) hgrow4 hblk4 (by rw [HLK.out]; exact HOR.out) (by rw [HLK.out]; exact hcr) hgrs (by omega) hgr2 (fun j hj => by
        obtain ⟨_, _, _, _, _, _, _, h6⟩ := HRO.out.at_ j hj
        omega)
      have hgo4 := hkeep _ _ HGO3.out hgos
      have hgo' : g' ≠ go := fun e => (typ_ne hgb hgo4 (by decide)) e
      obtain ⟨d0, d1, d2, y0, y1, y2⟩ := three_c hgo4
      have HR4 := Lib.hid hrows'
      have HG4 := Lib.hid hgb
      have HGO4 := Lib.hid hgo4
      have hs4 : w2.heap.size ≤ w4.heap.size := Nat.le_trans hsz2 (Nat.le_trans hx3.size hgrow4.size)
      have HGP4 := Lib.hid (hkeep _ _ HGP3.out hgps)
      have HZB4 := Lib.hid (hkeep _ _ HZB3.out hzbs)
      clear hrows' hgb hgo4 hkeep hown4 hblk4 hgrow4
      go_wp2_with (fail)
      exact ⟨⟨k + 1, g', cap', cs', _, by omega, by go_num, blk_set1 HGO4.out 2 _, set_other HGP4.out hgpo, set_other HZB4.out (by dsimp only; omega), set_other HG4.out hgo', hn', hm', hsz', ⟨fun j hj => by
        obtain ⟨A2, c2, q1, q2, q3, q4, q5, q6⟩ := HR4.out.at_ j hj
        exact ⟨A2, c2, q1, q2.same (fun b' h7 h8 => Below.heap_setCell w4 _ _ _ (by dsimp only; omega)), q3, q4, q5, by simpa using q6⟩, HR4.out.inj⟩, hb0, by simpa using hs4, Ext.set hx4 (by dsimp only; omega) _⟩, by simp [intOf]; omega⟩
    · obtain rfl : k = m := by omega
      have p2r : wr.cell? ⟨b, 2, none⟩ = some (.slice At k ct) := (hx.cell hbl).trans p2
      obtain ⟨d0, d1, d2, y0, y1, y2⟩ := three_c hgoX
      obtain ⟨c0', c1', c2', x0, x1, x2⟩ := three_c hzbX
      have hgps : gs ≠ gp := typ_ne hgsX hgpX (by decide)
      have hG : OwG wr (w.heap.size + 1) wr.heap.size (.agg #[.int .i64 G.t, .slice (some ⟨gp, 0, none⟩) n capp, .slice (some ⟨gs, 0, none⟩) k cap]) G := by
        have e1 := HPL.out
        have e2 := HRL.out
        have ho := (rowF_lst' hrp hgpX hsp).at0
        rw [lst_self e1] at ho
        exact ⟨_, _, _, _, gp, gs, f, by rw [e1, e2], by rw [e1]; exact ho, by rw [e2]; exact hrows.own e2 hgsX (by omega), by rw [e1]; exact hnp, by rw [e2]; exact hkc, .inr ⟨hgp, blk_lt hgpX⟩, .inr ⟨hgs1, blk_lt hgsX, hgps⟩, fun j hj => by
          rw [e2] at hj
          obtain ⟨_, _, _, _, _, _, h5, h6⟩ := hrows.at_ j hj
          exact ⟨by have := hx02.size; omega, h6, by omega⟩⟩
      have HG := Lib.hid hG
      have hbz := fun u0 u1 u2 => blk_set1 (blk_set1 (blk_set1 hzbX 0 u0) 1 u1) 2 u2
      have HBZ := Lib.hid hbz
      clear hG hrows hgsX hgpX hgoX hzbX hbz
      go_wp2_with (fail)
      (try simp only [Exit.inBlock, Exit.then])
      refine bodyPost_ret (results_cell_row rfl _ _ w.heap.size 68 #[.int .i64 G.t, .slice (some ⟨gp, 0, none⟩) n capp, .slice (some ⟨gs, 0, none⟩) k cap] (0, 0) _ rfl (HBZ.out _ _ _) Try.underlying68 rfl (by kernel_rfl)) rfl ?_
      exact ⟨_, rfl, by
        refine OwG.more (lo := w.heap.size + 1) (hi := wr.heap.size) ?_ (by omega) (by simp)
        repeat (first | exact HG.out | (refine OwG.setOther ?_ (by left; dsimp only; omega) _)), (by repeat (first | assumption | exact Ext.refl _ | apply Ext.drewN | apply Ext.drew | apply Ext.alloc | (refine Ext.trans ?_ (by assumption)) | (refine Ext.set ?_ (by dsimp only; omega) _)))⟩
end Go.Proofs.Ytkbkjkjjoogieaa
