/- Contracts: clones, lists behind which +0 stands, lists plus others the other way round. Condition: the lists are read. -/
import Derived.Test.YtcjddnkebdjhoaaFc
import Derived.Test.YtcjddnkebdjhoaaLo4
namespace Go.Proofs.Ytcjddnkebdjhoaa
open Go.RowKit Ieee

/-- What a list becomes with a number times another list the other way round. -/
def fplus (L : List (Option Nat)) (B : Option Nat) (M : List (Option Nat)) (i : Nat) : Option Nat := fop .add .f32 (L.getD i none) (fop .mul .f32 B (M.getD (L.length - 1 - i) none))
theorem fplus_next {c : Nat} {P : List (Option Nat)} {C : Option Nat} (hC : Fl .f32 c C) (i : Nat) : fplus (P ++ [fz]) (fneg32 C) (P ++ [fz]) i = fnextN P C i := by
  unfold fplus fnextN
  rw [add_opp hC, List.length_append]
  rfl
theorem OwF.keep {w : World} {base n : Nat} {v : Value} {F G : Nat → Option Nat} (h : OwF w base v n F) (hFG : ∀ j, j < n → F j = G j) : OwF w base v n G := by
  obtain ⟨xs, ho, hx⟩ := h.own
  exact ⟨xs, ho, fun j hj => by obtain ⟨r, h1, h2⟩ := hx j hj; exact ⟨r, h1, by rw [← hFG j hj]; exact h2⟩⟩
theorem app_zero_at {L : List (Option Nat)} {j : Nat} (h : j < L.length) : (L ++ [fz]).getD j none = L.getD j none := by
  simp [List.getD, List.getElem?_append_left h]
theorem app_zero_end {L : List (Option Nat)} {n : Nat} (h : L.length = n) : (L ++ [fz]).getD n none = fz := by
  subst h; simp [List.getD]
/-- A list of which the first numbers are new. -/
def pmx (F : Nat → Option Nat) (L : List (Option Nat)) (k j : Nat) : Option Nat := if j < k then F j else L.getD j none
theorem pmx_at {F : Nat → Option Nat} {L : List (Option Nat)} {k : Nat} : pmx F L k k = L.getD k none := by unfold pmx; rw [if_neg (by omega)]
theorem pmx_new {F : Nat → Option Nat} {L : List (Option Nat)} {k : Nat} : pmx F L (k + 1) k = F k := by unfold pmx; rw [if_pos (by omega)]
theorem pmx_other {F : Nat → Option Nat} {L : List (Option Nat)} {k j : Nat} (h : j ≠ k) : pmx F L k j = pmx F L (k + 1) j := by
  unfold pmx
  by_cases h1 : j < k
  · rw [if_pos h1, if_pos (by omega)]
  · rw [if_neg h1, if_neg (by omega)]
theorem pmx_all {F : Nat → Option Nat} {L : List (Option Nat)} {n j : Nat} (h : j < n) : pmx F L n j = F j := by unfold pmx; rw [if_pos h]
set_option maxRecDepth 20000 in
set_option maxHeartbeats 4000000 in
theorem c_cloneO {w : World} {B n c : Nat} {A : Option Addr} {L : List (Option Nat)} (h : RdF w B A n L) (hB : B ≤ w.heap.size) (hn : n ≤ 1048576) (hpos : 0 < n) :
    Calls Try.prog 41 #[.slice A n c] w fun e w' => ∃ v, e = .returned v ∧ OwF w' w.heap.size v n (fun j => L.getD j none) ∧ Ext w w' := by
  obtain ⟨i0, hi, hz0, hz1, hz2⟩ := info_parts info_f32
  obtain ⟨b, off, rfl, hb, rs, hrl, hrs⟩ := h.words hpos
  have HR := Lib.hid hrs
  clear hrs
  have hnil := fun W : World => Go.Lib.run_eql_slice_nil (P := Try.prog) W 22 29 (some ⟨b, off, none⟩) n c 0 0 Try.underlying22
  go_enter Try.func41, Try.ntmps41
  go_wp2_with (at_builtin; refine wpList_append_own _ rfl _ _ 22 rfl w.heap.size 29 i0 (.float .f32 0) 1 4 Try.underlying22 hi hz0 hz1 hz2 rfl (by decide) _ _ _ rfl (World.ownsRow_made _ _ 0 (Nat.le_refl _) (Nat.zero_le _) rfl) ⟨b, off, none⟩ n c (fvals rs) rfl (by simp [fvals, hrl]) ?_ ?_ ?_ ?_ ?_ ?_)
  all_goals first
    | (intro j u hj
       have hjn : j < n := by
         rcases Nat.lt_or_ge j n with h1 | h1
         · exact h1
         · rw [List.getElem?_eq_none (by simp [fvals, hrl]; omega)] at hj; cases hj
       rw [fvals_at (by omega)] at hj
       cases hj
       have hc := (HR.out j hjn).1
       have e0 : (⟨b, off, none⟩ : Addr).add j = ⟨b, off + j, none⟩ := by simp [Addr.add]
       rw [e0]
       exact ((Ext.alloc (Ext.refl w) _).cell (by show b < _; omega)).trans hc)
    | (intro u hu; simp only [fvals, List.mem_map] at hu; obtain ⟨r, _, rfl⟩ := hu; rfl)
    | (unfold maxLen; omega)
    | omega
    | (simp; done)
    | (intro v' w4 hown' hgrow _
       have hx' : Ext w w4 := grown_ext (Ext.alloc (Ext.refl w) _) (World.ownsRow_made _ _ 0 (Nat.le_refl _) (Nat.zero_le _) rfl) hgrow
       have HO : Hid (w4.ownsRow w.heap.size 29 1 v' n (fvals rs)) := Lib.hid (by simpa using hown')
       clear hown' hgrow
       obtain ⟨g, cap, rfl⟩ : ∃ g cap, v' = .slice (some ⟨g, 0, none⟩) n cap := by
         rcases HO.out.2 with ⟨hv, h0⟩ | ⟨g, cap, cur, hv, _⟩
         · omega
         · exact ⟨g, cap, hv⟩
       go_wp2_with (fail)
       go_ret
       first | exact ⟨_, rfl, ⟨fvals rs, HO.out, fun j hj => ⟨rs.getD j 0, fvals_at (by omega), (HR.out j hj).2⟩⟩, hx'⟩ | exact ⟨⟨fvals rs, HO.out, fun j hj => ⟨rs.getD j 0, fvals_at (by omega), (HR.out j hj).2⟩⟩, hx'⟩)
end Go.Proofs.Ytcjddnkebdjhoaa
