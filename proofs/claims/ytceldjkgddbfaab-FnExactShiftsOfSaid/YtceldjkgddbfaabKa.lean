/- Contracts: clones, lists behind which +0 stands, lists plus others the other way round. Condition: the lists are read. -/
import Derived.Test.YtceldjkgddbfaabFc
import Derived.Test.YtceldjkgddbfaabLo4
namespace Go.Proofs.Ytceldjkgddbfaab
open Go.RowKit Ieee

/-- What a list becomes with a number times another list the other way round. -/
def fplus (L : List (Option Nat)) (B : Option Nat) (M : List (Option Nat)) (i : Nat) : Option Nat := fop .add .f32 (L.getD i none) (fop .mul .f32 B (M.getD (L.length - 1 - i) none))
theorem fplus_next {c : Nat} {P : List (Option Nat)} {C : Option Nat} (hC : Fl .f32 c C) (i : Nat) : fplus (P ++ [fz]) (fneg32 C) (P ++ [fz]) i = fnextN P C i := by
  unfold fplus fnextN
  rw [add_opp hC, List.length_append]
  rfl
theorem OwF.keep {w : World} {base n : Nat} {v : Value} {F G : Nat → Option Nat} (h : OwF w base v n F) (hFG : ∀ j, j < n → F j = G j) : OwF w base v n G := by
  obtain ⟨xs, ho, hx⟩ := h.own
  exact ⟨xs, ho, fun j hj => by obtain ⟨r, h1, h2⟩ := hx j hj; exact ⟨r, h1, by rw [← hFG j hj]; exact h2⟩⟩
theorem app_zero_at {L : List (Option Nat)} {j : Nat} (h : j < L.length) : (L ++ [fz]).getD j none = L.getD j none := by
  simp [List.getD, List.getElem?_append_left h]
theorem app_zero_end {L : List (Option Nat)} {n : Nat} (h : L.length = n) : (L ++ [fz]).getD n none = fz := by
  subst h; simp [List.getD]
/-- A list of which the first numbers are new. -/
def pmx (F : Nat → Option Nat) (L : List (Option Nat)) (k j : Nat) : Option Nat := if j < k then F j else L.getD j none
theorem pmx_at {F : Nat → Option Nat} {L : List (Option Nat)} {k : Nat} : pmx F L k k = L.getD k none := by unfold pmx; rw [if_neg (by omega)]
theorem pmx_new {F : Nat → Option Nat} {L : List (Option Nat)} {k : Nat} : pmx F L (k + 1) k = F k := by unfold pmx; rw [if_pos (by omega)]
theorem pmx_other {F : Nat → Option Nat} {L : List (Option Nat)} {k j : Nat} (h : j ≠ k) : pmx F L k j = pmx F L (k + 1) j := by
  unfold pmx
  by_cases h1 : j < k
  · rw [if_pos h1, if_pos (by omega)]
  · rw [if_neg h1, if_neg (by omega)]
theorem pmx_all {F : Nat → Option Nat} {L : List (Option Nat)} {n j : Nat} (h : j < n) : pmx F L n j = F j := by unfold pmx; rw [if_pos h]
set_option maxRecDepth 20000 in
set_option maxHeartbeats 4000000 in
theorem c_cloneO {w : World} {B n c : Nat} {A : Option Addr} {L : List (Option Nat)} (h : RdF w B A n L) (hB : B ≤ w.heap.size) (hn : n ≤ 1048576) (hpos : 0 < n) :
    Calls Try.prog 106 #[.slice A n c] w fun e w' => ∃ v, e = .returned v ∧ OwF w' w.heap.size v n (fun j => L.getD j none) ∧ Ext w w' := by
  obtain ⟨i0, hi, hz0, hz1, hz2⟩ := info_parts info_f32
  obtain ⟨b, off, rfl, hb, rs, hrl, hrs⟩ := h.words hpos
  have HR := Lib.hid hrs
  clear hrs
  have hnil := fun W : World => Go.Lib.run_eql_slice_nil (P := Try.prog) W 22 28 (some ⟨b, off, none⟩) n c 0 0 Try.underlying22
  go_enter Try.func106, Try.ntmps106
  go_wp2_with (at_builtin; refine wpList_append_own _ rfl _ _ 22 rfl w.heap.size 28 i0 (.float .f32 0) 1 4 Try.underlying22 hi hz0 hz1 hz2 rfl (by decide) _ _ _ rfl (World.ownsRow_made _ _ 0 (Nat.le_refl _) (Nat.zero_le _) rfl) ⟨b, off, none⟩ n c (fvals rs) rfl (by simp [fvals, hrl]) ?_ ?_ ?_ ?_ ?_ ?_)
  all_goals first
    | (intro j u hj
       have hjn : j < n := by
         rcases Nat.lt_or_ge j n with h1 | h1
         · exact h1
         · rw [List.getElem?_eq_none (by simp [fvals, hrl]; omega)] at hj; cases hj
       rw [fvals_at (by omega)] at hj
       cases hj
       have hc := (HR.out j hjn).1
       have e0 : (⟨b, off, none⟩ : Addr).add j = ⟨b, off + j, none⟩ := by simp [Addr.add]
       rw [e0]
       exact ((Ext.alloc (Ext.refl w) _).cell (by show b < _; omega)).trans hc)
    | (intro u hu; simp only [fvals, List.mem_map] at hu; obtain ⟨r, _, rfl⟩ := hu; rfl)
    | (unfold maxLen; omega)
    | omega
    | (simp; done)
    | (intro v' w4 hown' hgrow _
       have hx' : Ext w w4 := grown_ext (Ext.alloc (Ext.refl w) _) (World.ownsRow_made _ _ 0 (Nat.le_refl _) (Nat.zero_le _) rfl) hgrow
       have HO : Hid (w4.ownsRow w.heap.size 28 1 v' n (fvals rs)) := Lib.hid (by simpa using hown')
       clear hown' hgrow
       obtain ⟨g, cap, rfl⟩ : ∃ g cap, v' = .slice (some ⟨g, 0, none⟩) n cap := by
         rcases HO.out.2 with ⟨hv, h0⟩ | ⟨g, cap, cur, hv, _⟩
         · omega
         · exact ⟨g, cap, hv⟩
       go_wp2_with (fail)
       go_ret
       first | exact ⟨_, rfl, ⟨fvals rs, HO.out, fun j hj => ⟨rs.getD j 0, fvals_at (by omega), (HR.out j hj).2⟩⟩, hx'⟩ | exact ⟨⟨fvals rs, HO.out, fun j hj => ⟨rs.getD j 0, fvals_at (by omega), (HR.out j hj).2⟩⟩, hx'⟩)
set_option maxRecDepth 20000 in
set_option maxHeartbeats 4000000 in
theorem c_withZero {w : World} {B n c : Nat} {A : Option Addr} {L : List (Option Nat)} (h : RdF w B A n L) (hB : B ≤ w.heap.size) (hn : n ≤ 1048576) (hpos : 0 < n) :
    Calls Try.prog 60 #[.slice A n c] w fun e w' => ∃ v, e = .returned v ∧ OwF w' w.heap.size v (n + 1) (fun j => (L ++ [fz]).getD j none) ∧ Ext w w' := by
  obtain ⟨i0, hi, hz0, hz1, hz2⟩ := info_parts info_f32
  have hl := Lib.hid h.len
  have hcl := c_cloneO (w := w) (c := c) h hB hn hpos
  have HCL := Lib.hid hcl
  clear hcl
  go_enter Try.func60, Try.ntmps60
  go_wp2_with (first | (go_at_call 106; refine Calls.mono HCL.out ?_; rintro e wr ⟨v, rfl, ho, hx⟩; obtain ⟨xs, hown, hxs⟩ := ho.own; have HX : Hid (∀ j, j < n → ∃ r, xs[j]? = some (.float .f32 r) ∧ Fl .f32 r ((fun j => (L ++ [fz]).getD j none) j)) := Lib.hid (fun j hj => by obtain ⟨r, h1, h2⟩ := hxs j hj; exact ⟨r, h1, by show Fl .f32 r ((L ++ [fz]).getD j none); rw [app_zero_at (by rw [hl.out]; exact hj)]; exact h2⟩); clear hxs ho) | (at_builtin; refine wpList_append_own _ rfl _ _ 22 rfl w.heap.size 28 i0 (.float .f32 0) 1 4 Try.underlying22 hi hz0 hz1 hz2 rfl (by decide) _ _ _ rfl (World.ownsRow.alloc (w := wr) hown _) ⟨wr.heap.size, 0, none⟩ 1 1 [.float .f32 0] rfl rfl ?_ ?_ ?_ ?_ ?_ ?_))
  all_goals first
    | exact one_new (w := wr)
    | (intro j0 u hj0; have h0 := one_new (w := wr) j0 u hj0; have e0 : (⟨(wr).heap.size, 0, none⟩ : Addr).add j0 = ⟨wr.heap.size, j0, none⟩ := (by rw [show (wr).heap.size = wr.heap.size from rfl]; simp [Addr.add]; first | done | (intros; omega)); rw [e0] at h0; exact h0)
    | rfl
    | (intro u hu; simp at hu; subst hu; rfl)
    | (unfold maxLen; omega)
    | omega
    | (have := hx.size; simp; omega)
    | (intro v' w4 hown' hgrow _
       have hl' : xs.length = n := by have := hown.1; omega
       have hx' : Ext w w4 := grown_ext (Ext.alloc hx _) (World.ownsRow.alloc (w := wr) hown _) hgrow
       have HXX := Lib.hid (row_step hl' HX.out (r := 0) (by show Fl .f32 0 ((L ++ [fz]).getD n none); rw [app_zero_end hl.out]; exact fl_fz))
       clear hown hgrow hx
       go_wp2_with (fail)
       go_ret
       first | exact ⟨_, rfl, ⟨_, hown', HXX.out⟩, hx'⟩ | exact ⟨⟨_, hown', HXX.out⟩, hx'⟩)
set_option maxRecDepth 20000 in
set_option maxHeartbeats 4000000 in
theorem c_plusMirrored {w : World} {B n c : Nat} {A : Option Addr} {L : List (Option Nat)} (h : RdF w B A n L) (hB : B ≤ w.heap.size) (hn : n ≤ 1048576) (hpos : 0 < n) {B' c' : Nat} {A' : Option Addr} {M : List (Option Nat)} (h' : RdF w B' A' n M) (hB' : B' ≤ w.heap.size) {p : Nat} {P : Option Nat} (fp : Fl .f32 p P) :
    Calls Try.prog 59 #[.slice A n c, .float .f32 p, .slice A' n c'] w fun e w' => ∃ A2 c2, e = .returned (.slice A2 n c2) ∧ OwL w' w.heap.size w'.heap.size A2 n (lst (fplus L P M) n) ∧ Ext w w' := by
  have hl := Lib.hid h.len
  have hw0 : IntKind.i64.wrap ((n : Int) - 1) = (n : Int) - 1 := IntWalk.i64_in _ (by omega)
  go_enter Try.func59, Try.ntmps59
  go_wp2_with (go_at_call 106; refine Calls.mono (c_cloneF h hB hn hpos) ?_; rintro e w4 ⟨g, cur, cap, rfl, hbg, hg, hcs, hrow, hx'⟩)
  have HG0 := Lib.hid hg
  have HC0 := Lib.hid hcs
  have HR0 : Hid (RowF cur n (pmx (fplus L P M) L 0)) := Lib.hid (hrow.keep fun j _ => by unfold pmx; rw [if_neg (by omega)])
  clear hg hcs hrow
  go_loopw [17] (fun y wr => ∃ (k : Nat) (cs : Array Value), k ≤ n ∧ y = .int .i64 k ∧ wr.heap[g]? = some (.cells cs 28 (0, 0)) ∧ n ≤ cs.size ∧ RowF cs n (pmx (fplus L P M) L k) ∧ Ext w wr) (fun y _ => n - (intOf y).toNat)
  case atStart => exact ⟨0, cur, Nat.zero_le _, rfl, HG0.out, HC0.out, HR0.out, hx'⟩
  case round =>
    obtain ⟨k, cs, hk, rfl, hg, hs, hrow, hx⟩ := hrel
    have HX := Lib.hid hrow
    have HG := Lib.hid hg
    have HS := Lib.hid hs
    clear hrow hg hs HG0 HC0 HR0
    by_cases hlt : k < n
    · obtain ⟨u0, e0, z0, f0⟩ := HX.out.cell HG.out hlt
      rw [pmx_at] at f0
      obtain ⟨m, hm⟩ : ∃ m, n = m + k + 1 := ⟨n - 1 - k, by omega⟩
      have hmi : (n : Int) - 1 - (k : Int) = (m : Int) := by omega
      have hwm : IntKind.i64.wrap (m : Int) = (m : Int) := IntWalk.i64_in _ (by omega)
      obtain ⟨b2, o2, t2, rfl, hb2, hc2, ht2⟩ := (h'.below (hx.mono hB')).cell (show m < n by omega)
      have hT : fplus L P M k = fop .add .f32 (L.getD k none) (fop .mul .f32 P (M.getD m none)) := by unfold fplus; rw [hl.out, show n - 1 - k = m by omega]
      have HT := Lib.hid hT
      have hmn : (m : Int) < (n : Int) := by omega
      have hlt' : (k : Int) < (n : Int) := by omega
      clear hT hm
      go_wp2_with (fail)
      refine wp_region_loose 14 (by kernel_rfl) (by kernel_rfl) ?_
      simp only [List.take_succ_cons, List.take_zero, List.drop_succ_cons, List.drop_zero]
      refine la_start ?_
      refine la_fix _ (by rfl) (by intros; go_simp; rfl) ?_
      try simp only [Act.put, List.setIfInBounds_toArray, List.set_cons_zero, List.set_cons_succ]
      refine la_fix _ (by rfl) (by intros; go_simp; rfl) ?_
      try simp only [Act.put, List.setIfInBounds_toArray, List.set_cons_zero, List.set_cons_succ]
      refine la_fix _ (by rfl) (by intros; go_simp; rfl) ?_
      try simp only [Act.put, List.setIfInBounds_toArray, List.set_cons_zero, List.set_cons_succ]
      refine la_fix _ (by rfl) (by intros; go_simp; rfl) ?_
      try simp only [Act.put, List.setIfInBounds_toArray, List.set_cons_zero, List.set_cons_succ]
      refine la_fix _ (by rfl) (by intros; go_simp; rfl) ?_
      try simp only [Act.put, List.setIfInBounds_toArray, List.set_cons_zero, List.set_cons_succ]
      refine la_fix _ (by rfl) (by intros; go_simp; rfl) ?_
      try simp only [Act.put, List.setIfInBounds_toArray, List.set_cons_zero, List.set_cons_succ]
      refine la_fix _ (by rfl) (by intros; go_simp; rfl) ?_
      try simp only [Act.put, List.setIfInBounds_toArray, List.set_cons_zero, List.set_cons_succ]
      refine la_fix _ (by rfl) (by intros; go_simp; rfl) ?_
      try simp only [Act.put, List.setIfInBounds_toArray, List.set_cons_zero, List.set_cons_succ]
      refine la_fix _ (by rfl) (by intros; go_simp; rfl) ?_
      try simp only [Act.put, List.setIfInBounds_toArray, List.set_cons_zero, List.set_cons_succ]
      refine la_fix _ (by rfl) (by intros; go_simp; rfl) ?_
      try simp only [Act.put, List.setIfInBounds_toArray, List.set_cons_zero, List.set_cons_succ]
      refine la_fix _ (by rfl) (by intros; go_simp; rfl) ?_
      try simp only [Act.put, List.setIfInBounds_toArray, List.set_cons_zero, List.set_cons_succ]
      refine la_callF (k := .f32) (by rfl) (by intros; refine ⟨_, fun q => (by go_simp; first | rfl | exact ⟨rfl, rfl⟩), fun q => ?_⟩; exact c_mulNumbers fp ht2 _) ?_
      try simp only [Act.put, List.setIfInBounds_toArray, List.set_cons_zero, List.set_cons_succ]
      refine la_fop (op := .add) (by rfl) (by rfl) (by intros; refine ⟨_, _, ?_, ?_, fun q => (by go_simp; rfl)⟩ <;> (first | assumption | exact fl_fu | exact fl_fz)) ?_
      try simp only [Act.put, List.setIfInBounds_toArray, List.set_cons_zero, List.set_cons_succ]
      refine la_fix _ (by rfl) (by intros; go_simp; rfl) ?_
      try simp only [Act.put, List.setIfInBounds_toArray, List.set_cons_zero, List.set_cons_succ]
      refine la_end ?_
      intro r5 hr5 r6 hr6 q
      rw [← HT.out] at hr6
      go_wp2_with (fail)
      exact ⟨⟨k + 1, _, by omega, by go_num, blk_set1 (w := World.drewN wr q) HG.out k (.float .f32 r6), by rw [Array.size_setIfInBounds]; exact HS.out, HX.out.set' HS.out (by rw [pmx_new]; exact hr6) (fun j _ hj => pmx_other hj), Ext.set (by repeat (first | assumption | exact Ext.refl _ | apply Ext.drewN | apply Ext.drew | apply Ext.alloc | (refine Ext.trans ?_ (by assumption)) | (refine Ext.set ?_ (by dsimp only; omega) _))) hbg _⟩, by simp [intOf]; omega⟩
    · obtain rfl : k = n := by omega
      go_wp2_with (fail)
      go_ret
      first | exact ⟨_, _, rfl, (rowF_lst' (HX.out.keep fun j hj => pmx_all hj) HG.out HS.out).more hbg (Nat.le_refl _), hx⟩ | exact ⟨_, ⟨_, rfl⟩, (rowF_lst' (HX.out.keep fun j hj => pmx_all hj) HG.out HS.out).more hbg (Nat.le_refl _), hx⟩
end Go.Proofs.Ytceldjkgddbfaab
