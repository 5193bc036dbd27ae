/- Rows of one's own beside others: filters that grow and are stored into. Condition: the lists are read. -/
import Derived.Test.YtceldjkgddbfaabSb
namespace Go.Proofs.Ytceldjkgddbfaab
open Go.RowKit Ieee

theorem results_tmp4 {fn : Func} {t u v y : Tmp} (h : fn.results = #[.tmp t, .tmp u, .tmp v, .tmp y]) (tmps : Array Value) (P : Program) (w : World) :
    (results fn tmps).run P w = .ok (.tuple #[tmps.getD t undef, tmps.getD u undef, tmps.getD v undef, tmps.getD y undef]) w := by
  simp [results, h]

/-- The row of block g has n numbers, which are F's, and room for cap. -/
structure FAt (w : World) (base g n cap : Nat) (F : Nat → Option Nat) : Prop where
  row : ∃ cs : Array Value, w.heap[g]? = some (.cells cs 28 (0, 0)) ∧ cs.size = cap ∧ RowF cs n F
  lo : base ≤ g
  n_le : n ≤ cap
  cap_le : cap ≤ maxLen
theorem FAt.lt {w : World} {base g n cap : Nat} {F : Nat → Option Nat} (h : FAt w base g n cap F) : g < w.heap.size := by
  obtain ⟨cs, hg, _⟩ := h.row
  exact blk_lt hg
theorem FAt.own {w : World} {base g n cap : Nat} {F : Nat → Option Nat} (h : FAt w base g n cap F) :
    ∃ xs, w.ownsRow base 28 1 (.slice (some ⟨g, 0, none⟩) n cap) n xs ∧ ∀ j, j < n → ∃ r, xs[j]? = some (.float .f32 r) ∧ Fl .f32 r (F j) := by
  obtain ⟨⟨cs, hg, hs, hr⟩, hlo, hn, hc⟩ := h
  refine ⟨cs.toList.take (n * 1), ⟨by simp; omega, .inr ⟨g, cap, cs, rfl, hlo, hg, hn, hc, by omega, rfl⟩⟩, fun j hj => ?_⟩
  obtain ⟨r, h1, h2⟩ := hr j hj
  exact ⟨r, by rw [List.getElem?_take_of_lt (by omega)]; simpa using h1, h2⟩
theorem own_fat {w : World} {base n : Nat} {v : Value} {xs : List Value} {F : Nat → Option Nat} (h : w.ownsRow base 28 1 v n xs) (hpos : 0 < n) (hx : ∀ j, j < n → ∃ r, xs[j]? = some (.float .f32 r) ∧ Fl .f32 r (F j)) :
    ∃ g cap, v = .slice (some ⟨g, 0, none⟩) n cap ∧ FAt w base g n cap F := by
  obtain ⟨hl, hd⟩ := h
  rcases hd with ⟨_, h0⟩ | ⟨g, cap, cur, hv, hb, hg, hnc, hcm, hcs, htk⟩
  · omega
  · refine ⟨g, cap, hv, ⟨cur, hg, by omega, fun j hj => ?_⟩, hb, hnc, hcm⟩
    obtain ⟨r, h1, h2⟩ := hx j hj
    refine ⟨r, ?_, h2⟩
    rw [← htk, List.getElem?_take_of_lt (by omega)] at h1
    simpa using h1
theorem FAt.owl {w : World} {base g n cap : Nat} {F : Nat → Option Nat} (h : FAt w base g n cap F) : OwL w base w.heap.size (some ⟨g, 0, none⟩) n (lst F n) := by
  obtain ⟨cs, hg, hs, hr⟩ := h.row
  exact (rowF_lst' hr hg (by have := h.n_le; omega)).more h.lo (Nat.le_refl _)
theorem FAt.ext {w w' : World} {base g n cap : Nat} {F : Nat → Option Nat} (h : FAt w base g n cap F) (hx : Ext w w') : FAt w' base g n cap F := by
  obtain ⟨⟨cs, hg, hs, hr⟩, hlo, hn, hc⟩ := h
  exact ⟨⟨cs, hx.blk hg, hs, hr⟩, hlo, hn, hc⟩
theorem FAt.grown {w w' : World} {base g n cap : Nat} {F : Nat → Option Nat} {row : Option Nat} (h : FAt w base g n cap F) (hg : w.grownBy w' row) (hne : row ≠ some g) : FAt w' base g n cap F := by
  have hlt := h.lt
  obtain ⟨⟨cs, hb, hs, hr⟩, hlo, hn, hc⟩ := h
  exact ⟨⟨cs, (hg.block g hlt (fun e => hne e.symm)).trans hb, hs, hr⟩, hlo, hn, hc⟩
theorem FAt.keep {w : World} {base g n cap : Nat} {F G : Nat → Option Nat} (h : FAt w base g n cap F) (hFG : ∀ j, j < n → F j = G j) : FAt w base g n cap G := by
  obtain ⟨⟨cs, hb, hs, hr⟩, hlo, hn, hc⟩ := h
  exact ⟨⟨cs, hb, hs, hr.keep hFG⟩, hlo, hn, hc⟩
theorem own_grown {w w' : World} {base n : Nat} {v : Value} {xs : List Value} {row : Option Nat} (h : w.ownsRow base 28 1 v n xs) (hg : w.grownBy w' row) (hne : ∀ g, v.ownBlock = some g → row ≠ some g) : w'.ownsRow base 28 1 v n xs := by
  refine ⟨h.1, ?_⟩
  rcases h.2 with hn | ⟨g, cap, cur, hv, hb, hgb, hr⟩
  · exact .inl hn
  · refine .inr ⟨g, cap, cur, hv, hb, ?_, hr⟩
    subst hv
    exact (hg.block g (blk_lt hgb) (fun e => hne g rfl e.symm)).trans hgb
theorem OwL.kb {w w' : World} {lo hi n g : Nat} {A : Option Addr} {L : List (Option Nat)} (h : OwL w lo hi A n L) (hk : Kb g (g + 1) w w') (hne : ∀ a, A = some a → a.block ≠ g) : OwL w' lo hi A n L := by
  refine ⟨h.len, ?_⟩
  rcases h.at_ with h0 | ⟨g', off, cs', hA, h1, h2, hb, hrest⟩
  · exact .inl h0
  · refine .inr ⟨g', off, cs', hA, h1, h2, ?_, hrest⟩
    have hn := hne _ hA
    rcases Nat.lt_or_ge g' g with h3 | h3
    · rw [hk.below.block g' h3]; exact hb
    · rw [hk.above g' (by show g + 1 ≤ g'; have : g' ≠ g := hn; omega) (blk_lt hb)]; exact hb
end Go.Proofs.Ytceldjkgddbfaab
