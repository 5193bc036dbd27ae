/- Contracts: lists cloned, gathers copied by the program. Condition: the gather is read, and none of its lists is empty. -/
import Derived.Test.YtfmhdnhaaohdjaaYd
import Derived.Test.YtfmhdnhaaohdjaaTf
import Derived.Lib.SliceRun
namespace Go.Proofs.Ytfmhdnhaaohdjaa
open Go.RowKit Ieee

theorem lst_self {L : List (Option Nat)} {n : Nat} (h : L.length = n) : lst (fun j => L.getD j none) n = L := by
  subst h
  apply List.ext_getElem?
  intro j
  unfold lst
  by_cases hj : j < L.length
  · simp [hj, List.getD]
  · simp [hj]
theorem OwL.at0 {w : World} {g hi n : Nat} {L : List (Option Nat)} (h : OwL w g hi (some ⟨g, 0, none⟩) n L) : OwL w g (g + 1) (some ⟨g, 0, none⟩) n L := by
  refine ⟨h.len, ?_⟩
  rcases h.at_ with h0 | ⟨b, off, cs, hA, h1, h2, hrest⟩
  · exact .inl h0
  · have : g = b := by simp only [Option.some.injEq, Addr.mk.injEq] at hA; exact hA.1
    exact .inr ⟨b, off, cs, hA, h1, by omega, hrest⟩
set_option maxRecDepth 20000 in
set_option maxHeartbeats 4000000 in
theorem c_cloneG {w : World} {B n c : Nat} {A : Option Addr} {L : List (Option Nat)} (h : RdF w B A n L) (hB : B ≤ w.heap.size) (hn : n ≤ 1048576) (hpos : 0 < n) :
    Calls Try.prog 71 #[.slice A n c] w fun e w' => ∃ g cs c', e = .returned (.slice (some ⟨g, 0, none⟩) n c') ∧ w.heap.size ≤ g ∧ n ≤ c' ∧ w'.heap[g]? = some (.cells cs 83 (0, 0)) ∧ n ≤ cs.size ∧ RowF cs n (fun j => L.getD j none) ∧ Ext w w' := by
  obtain ⟨i0, hi, hz0, hz1, hz2⟩ := info_parts info_f32
  obtain ⟨b, off, rfl, hb, rs, hrl, hrs⟩ := h.words hpos
  have HR := Lib.hid hrs
  clear hrs
  have hnil := fun W : World => Go.Lib.run_eql_slice_nil (P := Try.prog) W 22 83 (some ⟨b, off, none⟩) n c 0 0 Try.underlying22
  go_enter Try.func71, Try.ntmps71
  go_wp2_with (at_builtin; refine wpList_append_own _ rfl _ _ 22 rfl w.heap.size 83 i0 (.float .f32 0) 1 4 Try.underlying22 hi hz0 hz1 hz2 rfl (by decide) _ _ _ rfl (World.ownsRow_made _ _ 0 (Nat.le_refl _) (Nat.zero_le _) rfl) ⟨b, off, none⟩ n c (fvals rs) rfl (by simp [fvals, hrl]) ?_ ?_ ?_ ?_ ?_ ?_)
  all_goals first
    | (intro j u hj
       have hjn : j < n := by
         rcases Nat.lt_or_ge j n with h1 | h1
         · exact h1
         · rw [List.getElem?_eq_none (by simp [fvals, hrl]; omega)] at hj; cases hj
       rw [fvals_at (by omega)] at hj
       cases hj
       have hc := (HR.out j hjn).1
       have e0 : (⟨b, off, none⟩ : Addr).add j = ⟨b, off + j, none⟩ := by simp [Addr.add]
       rw [e0]
       exact ((Ext.alloc (Ext.refl w) _).cell (by show b < _; omega)).trans hc)
    | (intro u hu; simp only [fvals, List.mem_map] at hu; obtain ⟨r, _, rfl⟩ := hu; rfl)
    | (unfold maxLen; omega)
    | omega
    | (simp; done)
    | (intro v' w4 hown' hgrow _
       have hx' : Ext w w4 := grown_ext (Ext.alloc (Ext.refl w) _) (World.ownsRow_made _ _ 0 (Nat.le_refl _) (Nat.zero_le _) rfl) hgrow
       obtain ⟨hlen, hd⟩ := hown'
       rcases hd with ⟨hv, h0⟩ | ⟨g, cap, cur, rfl, hbg, hg, hnc, _, hcs, htk⟩
       · omega
       have HG := Lib.hid hg
       have HT := Lib.hid htk
       have HC := Lib.hid hcs
       clear hg htk hcs hlen hgrow
       go_wp2_with (fail)
       go_ret
       refine ⟨g, cur, cap, by first | rfl | simp, hbg, hnc, HG.out, by have := HC.out; omega, fun j hj => ?_, hx'⟩
       have e1 : cur[j]? = (cur.toList.take (n * 1))[j]? := by rw [List.getElem?_take_of_lt (by omega)]; simp
       refine ⟨rs.getD j 0, ?_, (HR.out j hj).2⟩
       rw [e1, HT.out, fvals_at (by omega)])

end Go.Proofs.Ytfmhdnhaaohdjaa
