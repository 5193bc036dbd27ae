/- Gathers of a call's own in their parts: a trace that is another one, a number that is another one. No condition. -/
import Derived.Test.YtkbkjkjjoogieaaYm
namespace Go.Proofs.Ytkbkjkjjoogieaa
open Go.RowKit Ieee

theorem getD_set_at {α : Type} {L : List α} {i : Nat} {x d : α} (h : i < L.length) : (L.set i x).getD i d = x := by simp [List.getD, h]
theorem getD_set_no {α : Type} {L : List α} {i j : Nat} {x d : α} (h : j ≠ i) : (L.set i x).getD j d = L.getD j d := by simp [List.getD, Ne.symm h]
theorem OwL.setOther {w : World} {g n : Nat} {A : Option Addr} {L : List (Option Nat)} (h : OwL w g (g + 1) A n L) {p : Addr} (hp : n = 0 ∨ g ≠ p.block) (u : Value) : OwL (w.setCell p u) g (g + 1) A n L := by
  rcases hp with h0 | hp
  · exact ⟨h.len, .inl h0⟩
  · exact h.same (fun k h1 h2 => Below.heap_setCell w p u k (by omega))
structure OwP (w : World) (lo hi : Nat) (Ap : Option Addr) (n cp : Nat) (At : Option Addr) (m ct gp g : Nat) (f : Nat → Nat) (p : List (Option Nat)) (R : List (List (Option Nat))) : Prop where
  pl : OwL w gp (gp + 1) Ap n p
  sp : OwS w g f At m R
  cp_le : n ≤ cp
  ct_le : m ≤ ct
  gp_in : n = 0 ∨ (lo ≤ gp ∧ gp < hi)
  g_in : m = 0 ∨ (lo ≤ g ∧ g < hi ∧ g ≠ gp)
  f_in : ∀ j, j < m → lo ≤ f j ∧ f j < hi ∧ f j ≠ gp
theorem OwG.inP {w : World} {lo hi : Nat} {v : Value} {G : Gat} (h : OwG w lo hi v G) : ∃ Ap cp At ct gp g f, v = .agg #[.int .i64 G.t, .slice Ap G.p.length cp, .slice At G.r.length ct] ∧ OwP w lo hi Ap G.p.length cp At G.r.length ct gp g f G.p G.r := by
  obtain ⟨Ap, cp, At, ct, gp, g, f, h1, h2, h3, h4, h5, h6, h7, h8⟩ := h.ex
  exact ⟨Ap, cp, At, ct, gp, g, f, h1, h2, h3, h4, h5, h6, h7, h8⟩
section
variable {w w' : World} {lo hi : Nat} {Ap At : Option Addr} {n cp m ct gp g : Nat} {f : Nat → Nat} {p : List (Option Nat)} {R : List (List (Option Nat))}
theorem OwP.toG {t : Int} (h : OwP w lo hi Ap n cp At m ct gp g f p R) : OwG w lo hi (.agg #[.int .i64 t, .slice Ap n cp, .slice At m ct]) ⟨t, p, R⟩ := by
  obtain rfl := h.pl.len
  obtain rfl := h.sp.len
  exact ⟨Ap, cp, At, ct, gp, g, f, rfl, h.pl, h.sp, h.cp_le, h.ct_le, h.gp_in, h.g_in, h.f_in⟩
theorem OwP.same (h : OwP w lo hi Ap n cp At m ct gp g f p R) (hs : Same lo hi w w') : OwP w' lo hi Ap n cp At m ct gp g f p R := by
  refine ⟨?_, h.sp.same ?_ (fun j hj => hs _ (h.f_in j hj).1 (h.f_in j hj).2.1), h.cp_le, h.ct_le, h.gp_in, h.g_in, h.f_in⟩
  · rcases h.gp_in with h0 | ⟨h6, h6'⟩
    · exact ⟨h.pl.len, .inl h0⟩
    · exact h.pl.same (fun k h9 h10 => hs k (by omega) (by omega))
  · rcases h.g_in with h0 | h0
    · exact .inl h0
    · exact .inr (hs g h0.1 h0.2.1)
theorem OwP.ext (h : OwP w lo hi Ap n cp At m ct gp g f p R) (hh : hi ≤ w.heap.size) (hx : Ext w w') : OwP w' lo hi Ap n cp At m ct gp g f p R := h.same (hx.same hh)
theorem OwP.more {lo' hi' : Nat} (h : OwP w lo hi Ap n cp At m ct gp g f p R) (h1 : lo' ≤ lo) (h2 : hi ≤ hi') : OwP w lo' hi' Ap n cp At m ct gp g f p R :=
  ⟨h.pl, h.sp, h.cp_le, h.ct_le, by rcases h.gp_in with h0 | h0; exact .inl h0; exact .inr ⟨by omega, by omega⟩, by rcases h.g_in with h0 | ⟨h3, h4, h5⟩; exact .inl h0; exact .inr ⟨by omega, by omega, h5⟩, fun j hj => by obtain ⟨h3, h4, h5⟩ := h.f_in j hj; exact ⟨by omega, by omega, h5⟩⟩
/-- The slice of a trace. -/
theorem OwP.row (h : OwP w lo hi Ap n cp At m ct gp g f p R) {i : Nat} (hi' : i < m) : ∃ off A' c', At = some ⟨g, off, none⟩ ∧ w.cell? ⟨g, off + i, none⟩ = some (.slice A' (R.getD i []).length c') ∧ w.frozen? ⟨g, off + i, none⟩ = false ∧ OwL w (f i) (f i + 1) A' (R.getD i []).length (R.getD i []) ∧ (R.getD i []).length ≤ c' ∧ f i ≠ g := by
  rcases h.sp.spine with h0 | ⟨off, cs, t, hA, hg, hs, hc⟩
  · omega
  · obtain ⟨A', c', h1, h2, h3, h4⟩ := hc i hi'
    exact ⟨off, A', c', hA, by rw [cell_of_row w g _ cs _ (0, 0) hg]; exact h1, by simp [World.frozen?, hg], h2, h3, h4⟩
/-- A trace becomes another one. -/
theorem OwP.put (h : OwP w lo hi Ap n cp At m ct gp g f p R) (hx : Ext w w') (hhi : hi ≤ w.heap.size) {i b : Nat} (hi' : i < m) {A' : Option Addr} {c' : Nat} {row : List (Option Nat)} (hrow : OwL w' b (b + 1) A' row.length row) (hc' : row.length ≤ c') (hb : hi ≤ b) (hb2 : b < w'.heap.size) (hlo : lo ≤ hi) (hn0 : 0 < n) :
    ∃ off u, At = some ⟨g, off, none⟩ ∧ w'.cell? ⟨g, off + i, none⟩ = some u ∧ w'.frozen? ⟨g, off + i, none⟩ = false ∧ OwP (w'.setCell ⟨g, off + i, none⟩ (.slice A' row.length c')) lo w'.heap.size Ap n cp At m ct gp g (fun j => if j = i then b else f j) p (R.set i row) := by
  have hgi := h.g_in.resolve_left (by omega)
  have hlen := h.sp.len
  have hxs := hx.size
  rcases h.sp.spine with h0 | ⟨off, cs, t, hA, hg, hs, hc⟩
  · omega
  have hg' := hx.blk hg
  obtain ⟨A0, c0, q1, _⟩ := hc i hi'
  refine ⟨off, .slice A0 (R.getD i []).length c0, hA, by rw [cell_of_row w' g _ cs _ (0, 0) hg']; exact q1, by simp [World.frozen?, hg'], ?_, ?_, h.cp_le, h.ct_le, ?_, ?_, ?_⟩
  · rcases h.gp_in with h0 | h0
    · exact ⟨h.pl.len, .inl h0⟩
    · exact ((h.pl.same (fun k h1 h2 => hx.block k (by omega)))).setOther (.inr (fun e => hgi.2.2 e.symm)) _
  · refine ⟨by rw [List.length_set]; exact hlen, .inr ⟨off, cs.setIfInBounds (off + i) (.slice A' row.length c'), t, hA, blk_set1 hg' _ _, by rw [Array.size_setIfInBounds]; exact hs, fun j hj => ?_⟩, fun j k hjk hk => ?_⟩
    · by_cases hji : j = i
      · subst hji
        simp only [if_true]
        rw [getD_set_at (by omega)]
        exact ⟨A', c', by simp [show off + j < cs.size by omega], hrow.setOther (.inr (by dsimp only; omega)) _, hc', by omega⟩
      · simp only [hji, if_false]
        rw [getD_set_no hji]
        obtain ⟨A2, c2, r1, r2, r3, r4⟩ := hc j hj
        have hfj := h.f_in j hj
        exact ⟨A2, c2, by rw [Array.getElem?_setIfInBounds, if_neg (by omega)]; exact r1, (r2.same (fun k h1 h2 => hx.block k (by omega))).setOther (.inr r4) _, r3, r4⟩
    · have hfj := h.f_in j (by omega)
      have hfk := h.f_in k hk
      by_cases hji : j = i
      · by_cases hki : k = i
        · omega
        · simp only [hji, hki, if_true, if_false]; omega
      · by_cases hki : k = i
        · simp only [hji, hki, if_true, if_false]; omega
        · simp only [hji, hki, if_false]; exact h.sp.inj j k hjk hk
  · rcases h.gp_in with h0 | h0
    · exact .inl h0
    · exact .inr ⟨h0.1, by omega⟩
  · exact .inr ⟨hgi.1, by omega, hgi.2.2⟩
  · intro j hj
    obtain ⟨r1, r2, r3⟩ := h.f_in j hj
    by_cases hji : j = i
    · simp only [hji, if_true]
      refine ⟨by omega, hb2, ?_⟩
      rcases h.gp_in with h0 | h0
      · intro e
        omega
      · omega
    · simp only [hji, if_false]; exact ⟨r1, by omega, r3⟩
/-- A number of a trace becomes another one. -/
theorem OwP.num (h : OwP w lo hi Ap n cp At m ct gp g f p R) {i k : Nat} (hi' : i < m) (hk : k < (R.getD i []).length) :
    ∃ off A' c' o q, At = some ⟨g, off, none⟩ ∧ w.cell? ⟨g, off + i, none⟩ = some (.slice A' (R.getD i []).length c') ∧ A' = some ⟨f i, o, none⟩ ∧ w.cell? ⟨f i, o + k, none⟩ = some (.float .f32 q) ∧ Fl .f32 q ((R.getD i []).getD k none) ∧ w.frozen? ⟨f i, o + k, none⟩ = false ∧
      ∀ r X, Fl .f32 r X → OwP (w.setCell ⟨f i, o + k, none⟩ (.float .f32 r)) lo hi Ap n cp At m ct gp g f p (R.set i ((R.getD i []).set k X)) := by
  have hgi := h.g_in.resolve_left (by omega)
  have hlen := h.sp.len
  have hfi := h.f_in i hi'
  rcases h.sp.spine with h0 | ⟨off, cs, t, hA, hg, hs, hc⟩
  · omega
  obtain ⟨A', c', h1, h2, h3, h4⟩ := hc i hi'
  rcases h2.at_ with h0 | ⟨b, o, ds, hA', hb1, hb2, hbg, hbs, hbc⟩
  · omega
  obtain rfl : b = f i := by omega
  obtain ⟨q, hq1, hq2⟩ := hbc k hk
  refine ⟨off, A', c', o, q, hA, by rw [cell_of_row w g _ cs _ (0, 0) hg]; exact h1, hA', by rw [cell_of_row w (f i) _ ds _ (0, 0) hbg]; exact hq1, hq2, by simp [World.frozen?, hbg], fun r X hr => ⟨?_, ?_, h.cp_le, h.ct_le, h.gp_in, h.g_in, h.f_in⟩⟩
  · exact h.pl.setOther (.inr (fun e => hfi.2.2 e.symm)) _
  · refine ⟨by rw [List.length_set]; exact hlen, .inr ⟨off, cs, t, hA, set_other hg (Ne.symm h4), hs, fun j hj => ?_⟩, h.sp.inj⟩
    by_cases hji : j = i
    · subst hji
      rw [getD_set_at (by omega), List.length_set]
      refine ⟨A', c', h1, ⟨by rw [List.length_set], .inr ⟨f j, o, ds.setIfInBounds (o + k) (.float .f32 r), hA', Nat.le_refl _, Nat.lt_succ_self _, blk_set1 hbg _ _, by rw [Array.size_setIfInBounds]; exact hbs, fun l hl => ?_⟩⟩, h3, h4⟩
      by_cases hlk : l = k
      · subst hlk
        exact ⟨r, by simp [show o + l < ds.size by omega], by rw [getD_set_at hl]; exact hr⟩
      · obtain ⟨r', e1, e2⟩ := hbc l hl
        exact ⟨r', by rw [Array.getElem?_setIfInBounds, if_neg (by omega)]; exact e1, by rw [getD_set_no hlk]; exact e2⟩
    · rw [getD_set_no hji]
      obtain ⟨A2, c2, r1, r2, r3, r4⟩ := hc j hj
      have hne : f j ≠ f i := by
        rcases Nat.lt_or_ge j i with h5 | h5
        · exact h.sp.inj j i h5 hi'
        · exact fun e => h.sp.inj i j (by omega) hj e.symm
      exact ⟨A2, c2, r1, r2.setOther (.inr hne) _, r3, r4⟩
end
/-- Lists of a list, one for each index. -/
def lstS (F : Nat → List (Option Nat)) (n : Nat) : List (List (Option Nat)) := (List.range n).map F
theorem lstS_len (F : Nat → List (Option Nat)) (n : Nat) : (lstS F n).length = n := by simp [lstS]
theorem lstS_at {F : Nat → List (Option Nat)} {n j : Nat} (h : j < n) : (lstS F n).getD j [] = F j := by simp [lstS, List.getD, h]
theorem lstS_all {F : Nat → List (Option Nat)} {n : Nat} {R : List (List (Option Nat))} (hl : R.length = n) (h : ∀ j, j < n → R.getD j [] = F j) : R = lstS F n := by
  apply List.ext_getElem
  · rw [hl, lstS_len]
  · intro i h1 h2
    have h3 := h i (by omega)
    have h4 := lstS_at (F := F) (n := n) (j := i) (by omega)
    rw [List.getD_eq_getElem?_getD, List.getElem?_eq_getElem h1] at h3
    rw [List.getD_eq_getElem?_getD, List.getElem?_eq_getElem h2] at h4
    simp only [Option.getD_some] at h3 h4
    rw [h3, h4]
end Go.Proofs.Ytkbkjkjjoogieaa
