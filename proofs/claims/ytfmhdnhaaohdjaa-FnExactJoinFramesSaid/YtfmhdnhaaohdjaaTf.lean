/- Contract: a list is cloned. Condition: the list is read, and not empty. -/
import Derived.Test.YtfmhdnhaaohdjaaTn
namespace Go.Proofs.Ytfmhdnhaaohdjaa
open Go.RowKit Ieee

theorem RowF.set' {cs : Array Value} {n t r : Nat} {F G : Nat → Option Nat} (h : RowF cs n F) (hs : n ≤ cs.size) (hr : Fl .f32 r (G t)) (hFG : ∀ j, j < n → j ≠ t → F j = G j) : RowF (cs.setIfInBounds t (.float .f32 r)) n G := by
  intro j hj
  by_cases h1 : j = t
  · subst h1
    exact ⟨r, by rw [Array.getElem?_setIfInBounds, if_pos rfl, if_pos (by omega)], hr⟩
  · obtain ⟨q, e1, e2⟩ := h j hj
    exact ⟨q, by rw [Array.getElem?_setIfInBounds, if_neg (fun e => h1 e.symm)]; exact e1, by rw [← hFG j hj h1]; exact e2⟩
theorem rev_step {cs : Array Value} {n k m r1 r2 : Nat} {F : Nat → Option Nat} (h : RowF cs n (frevK F n k)) (hs : n ≤ cs.size) (hn : n = m + k + 1) (hr1 : Fl .f32 r1 (F k)) (hr2 : Fl .f32 r2 (F m)) :
    RowF ((cs.setIfInBounds k (.float .f32 r2)).setIfInBounds m (.float .f32 r1)) n (frevK F n (k + 1)) := by
  have h1 : RowF (cs.setIfInBounds k (.float .f32 r2)) n (fun j => if j = k then F m else frevK F n k j) :=
    h.set' hs (by show Fl .f32 r2 (if k = k then F m else _); rw [if_pos rfl]; exact hr2) (fun j _ hj => by show _ = if j = k then _ else _; rw [if_neg hj])
  refine h1.set' (by rw [Array.size_setIfInBounds]; exact hs) (by rw [frevK_high hn]; exact hr1) (fun j _ hj => ?_)
  show (if j = k then F m else frevK F n k j) = frevK F n (k + 1) j
  by_cases hk : j = k
  · subst hk; rw [if_pos rfl, frevK_low, show n - 1 - j = m by omega]
  · rw [if_neg hk]; exact frevK_other hn hk hj
theorem rev_step' {cs : Array Value} {n k m r1 r2 : Nat} {F : Nat → Option Nat} (h : RowF cs n (frevK F n k)) (hs : n ≤ cs.size) (hn : n = m + k + 1) (hkm : k ≠ m) (hr1 : Fl .f32 r1 (F k)) (hr2 : Fl .f32 r2 (F m)) :
    RowF ((cs.setIfInBounds m (.float .f32 r1)).setIfInBounds k (.float .f32 r2)) n (frevK F n (k + 1)) := by
  rw [Array.setIfInBounds_comm _ _ (by omega)]
  exact rev_step h hs hn hr1 hr2
theorem Kb.drew {lo hi : Nat} {a b : World} (h : Kb lo hi a b) : Kb lo hi a b.drew := ⟨⟨h.below.os, h.below.tape, h.below.output, h.below.size, h.below.block⟩, h.above⟩
/-- A row of the call's own, whole, with spare room, as a list. -/
theorem rowF_lst' {w : World} {g n : Nat} {cs : Array Value} {F : Nat → Option Nat} (h : RowF cs n F) (hg : w.heap[g]? = some (.cells cs 83 (0, 0))) (hs : n ≤ cs.size) : OwL w g w.heap.size (some ⟨g, 0, none⟩) n (lst F n) :=
  ⟨lst_len _ _, .inr ⟨g, 0, cs, rfl, Nat.le_refl _, blk_lt hg, hg, by omega, fun j hj => by
    obtain ⟨r, h1, h2⟩ := h j hj
    exact ⟨r, by rw [Nat.zero_add]; exact h1, by rw [lst_at hj]; exact h2⟩⟩⟩

set_option maxRecDepth 20000 in
set_option maxHeartbeats 4000000 in
theorem c_cloneF {w : World} {B n c : Nat} {A : Option Addr} {L : List (Option Nat)} (h : RdF w B A n L) (hB : B ≤ w.heap.size) (hn : n ≤ 1048576) (hpos : 0 < n) :
    Calls Try.prog 71 #[.slice A n c] w fun e w' => ∃ g cs c', e = .returned (.slice (some ⟨g, 0, none⟩) n c') ∧ w.heap.size ≤ g ∧ w'.heap[g]? = some (.cells cs 83 (0, 0)) ∧ n ≤ cs.size ∧ RowF cs n (fun j => L.getD j none) ∧ Ext w w' := by
  obtain ⟨i0, hi, hz0, hz1, hz2⟩ := info_parts info_f32
  obtain ⟨b, off, rfl, hb, rs, hrl, hrs⟩ := h.words hpos
  have HR := Lib.hid hrs
  clear hrs
  have hnil := fun W : World => Go.Lib.run_eql_slice_nil (P := Try.prog) W 22 83 (some ⟨b, off, none⟩) n c 0 0 Try.underlying22
  go_enter Try.func71, Try.ntmps71
  go_wp2_with (at_builtin; refine wpList_append_own _ rfl _ _ 22 rfl w.heap.size 83 i0 (.float .f32 0) 1 4 Try.underlying22 hi hz0 hz1 hz2 rfl (by decide) _ _ _ rfl (World.ownsRow_made _ _ 0 (Nat.le_refl _) (Nat.zero_le _) rfl) ⟨b, off, none⟩ n c (fvals rs) rfl (by simp [fvals, hrl]) ?_ ?_ ?_ ?_ ?_ ?_)
  all_goals first
    | (intro j u hj
       have hjn : j < n := by
         rcases Nat.lt_or_ge j n with h1 | h1
         · exact h1
         · rw [List.getElem?_eq_none (by simp [fvals, hrl]; omega)] at hj; cases hj
       rw [fvals_at (by omega)] at hj
       cases hj
       have hc := (HR.out j hjn).1
       have e0 : (⟨b, off, none⟩ : Addr).add j = ⟨b, off + j, none⟩ := by simp [Addr.add]
       rw [e0]
       exact ((Ext.alloc (Ext.refl w) _).cell (by show b < _; omega)).trans hc)
    | (intro u hu; simp only [fvals, List.mem_map] at hu; obtain ⟨r, _, rfl⟩ := hu; rfl)
    | (unfold maxLen; omega)
    | omega
    | (simp; done)
    | (intro v' w4 hown' hgrow _
       have hx' : Ext w w4 := grown_ext (Ext.alloc (Ext.refl w) _) (World.ownsRow_made _ _ 0 (Nat.le_refl _) (Nat.zero_le _) rfl) hgrow
       obtain ⟨hlen, hd⟩ := hown'
       rcases hd with ⟨hv, h0⟩ | ⟨g, cap, cur, rfl, hbg, hg, hnc, _, hcs, htk⟩
       · omega
       have HG := Lib.hid hg
       have HT := Lib.hid htk
       have HC := Lib.hid hcs
       clear hg htk hcs hlen hgrow
       go_wp2_with (fail)
       go_ret
       refine ⟨g, cur, cap, by first | rfl | simp, hbg, HG.out, by have := HC.out; omega, fun j hj => ?_, hx'⟩
       have e1 : cur[j]? = (cur.toList.take (n * 1))[j]? := by rw [List.getElem?_take_of_lt (by omega)]; simp
       refine ⟨rs.getD j 0, ?_, (HR.out j hj).2⟩
       rw [e1, HT.out, fvals_at (by omega)])
end Go.Proofs.Ytfmhdnhaaohdjaa
