/- Contracts: autos with white noise, on both sides. Condition: the list is read. -/
import Derived.Test.YtceldjkgddbfaabFb
import Derived.Test.YtceldjkgddbfaabTf
import Derived.Test.YtceldjkgddbfaabFc
namespace Go.Proofs.Ytceldjkgddbfaab
open Go.RowKit Ieee

theorem fwhite_other {L : List (Option Nat)} {P : Option Nat} {j : Nat} (h : j ≠ 0) : L.getD j none = fwhite L P j := by unfold fwhite; rw [if_neg h]
set_option maxRecDepth 20000 in
set_option maxHeartbeats 4000000 in
theorem c_l05White {w : World} {B n c : Nat} {A : Option Addr} {L : List (Option Nat)} (h : RdF w B A n L) (hB : B ≤ w.heap.size) (hn : n ≤ 1048576) (hpos : 0 < n) {p : Nat} {P : Option Nat} (fp : Fl .f32 p P) :
    Calls Try.prog 109 #[.slice A n c, .float .f32 p] w fun e w' => ∃ g c', e = .returned (.slice (some ⟨g, 0, none⟩) n c') ∧ OwL w' w.heap.size w'.heap.size (some ⟨g, 0, none⟩) n (lst (fwhite L P) n) ∧ Ext w w' := by
  obtain ⟨i0, hi, hz0, hz1, hz2⟩ := info_parts info_f32
  obtain ⟨b, off, rfl, hb, rs, hrl, hrs⟩ := h.words hpos
  have HR := Lib.hid hrs
  clear hrs
  have hposI : (0 : Int) < (n : Int) := by omega
  go_enter Try.func109, Try.ntmps109
  go_wp2_with (first | (at_builtin; refine wpList_append_own _ rfl _ _ 22 rfl w.heap.size 28 i0 (.float .f32 0) 1 4 Try.underlying22 hi hz0 hz1 hz2 rfl (by decide) _ _ _ rfl (World.ownsRow_made _ _ 0 (Nat.le_refl _) (Nat.zero_le _) rfl) ⟨b, off, none⟩ n c (fvals rs) rfl (by simp [fvals, hrl]) ?_ ?_ ?_ ?_ ?_ ?_))
  all_goals first
    | (intro j u hj
       have hjn : j < n := by
         rcases Nat.lt_or_ge j n with h1 | h1
         · exact h1
         · rw [List.getElem?_eq_none (by simp [fvals, hrl]; omega)] at hj; cases hj
       rw [fvals_at (by omega)] at hj
       cases hj
       have hc := (HR.out j hjn).1
       have e0 : (⟨b, off, none⟩ : Addr).add j = ⟨b, off + j, none⟩ := by simp [Addr.add]
       rw [e0]
       exact ((Ext.alloc (Ext.refl w) _).cell (by show b < _; omega)).trans hc)
    | (intro u hu; simp only [fvals, List.mem_map] at hu; obtain ⟨r, _, rfl⟩ := hu; rfl)
    | (unfold maxLen; omega)
    | omega
    | (simp; done)
    | (intro v' w4 hown' hgrow _
       have hx' : Ext w w4 := grown_ext (Ext.alloc (Ext.refl w) _) (World.ownsRow_made _ _ 0 (Nat.le_refl _) (Nat.zero_le _) rfl) hgrow
       obtain ⟨hlen, hd⟩ := hown'
       rcases hd with ⟨hv, h0⟩ | ⟨g, cap, cur, rfl, hbg, hg, hnc, _, hcs, htk⟩
       · omega
       have HG := Lib.hid hg
       have HT := Lib.hid htk
       have HC : Hid (n ≤ cur.size) := Lib.hid (by omega)
       have HROW : Hid (RowF cur n (fun j => L.getD j none)) := Lib.hid (by
         intro j hj
         have e1 : cur[j]? = (cur.toList.take (n * 1))[j]? := by rw [List.getElem?_take_of_lt (by omega)]; simp
         refine ⟨rs.getD j 0, ?_, (HR.out j hj).2⟩
         rw [e1, HT.out, fvals_at (by omega)])
       clear hg htk hcs hlen hgrow
       obtain ⟨q0, e0, z0, _⟩ := HROW.out.cell HG.out hpos
       obtain ⟨b1, o1, t1, hA1, hb1, hc1, ht1⟩ := (h.below (hx'.mono hB)).cell hpos
       obtain ⟨rfl, rfl⟩ : b = b1 ∧ off = o1 := by simpa using hA1
       have hc2 : w4.cell? ⟨b, off, none⟩ = some (.float .f32 t1) := by simpa using hc1
       go_wp2_with (first | (apply upon_fop rfl; (exact fl_fu); (exact fp); intro r5 n5 hr5) | (apply upon_fop rfl; (exact ht1); (exact hr5); intro r6 n6 hr6))
       go_ret
       have hb2 := blk_set1 (w := World.drewN w4 (n5 + n6)) HG.out 0 (.float .f32 r6)
       have hr2 := HROW.out.set' (G := fwhite L P) HC.out hr6 (fun j _ hj => fwhite_other hj)
       exact ⟨g, ⟨cap, rfl⟩, (rowF_lst' hr2 hb2 (by rw [Array.size_setIfInBounds]; exact HC.out)).more hbg (Nat.le_refl _), Ext.set (by repeat (first | assumption | exact Ext.refl _ | apply Ext.drewN | apply Ext.drew | apply Ext.alloc | (refine Ext.trans ?_ (by assumption)) | (refine Ext.set ?_ (by dsimp only; omega) _))) hbg _⟩)
def okWh (n : Nat) (P : Option Nat) : Bool := elen n && fway P
set_option maxRecDepth 20000 in
set_option maxHeartbeats 4000000 in
theorem c_impl_WhiteAuto {w : World} {B n c : Nat} {A : Option Addr} {L : List (Option Nat)} (h : RdF w B A n L) (hB : B ≤ w.heap.size) (hn : n ≤ 1048576) {p : Nat} {P : Option Nat} (fp : Fl .f32 p P) :
    Calls Try.prog 110 #[.slice A n c, .float .f32 p] w fun e w' => RetL w e w' (okWh n P) (lst (fwhite L P) n) := by
  unfold okWh
  have he := elen_int n
  have HE := Lib.hid he
  clear he
  cases hV : elen n
  · go_enter Try.func110, Try.ntmps110
    go_wp2_with (go_at_call 53; refine Calls.mono (c_isFilterLength _ _) ?_; rw [HE.out, hV]; rintro e w1 ⟨rfl, rfl⟩)
    go_ret2
    exact retL_no rfl (by repeat (first | assumption | exact Ext.refl _ | apply Ext.drewN | apply Ext.drew | apply Ext.alloc | (refine Ext.trans ?_ (by assumption)) | (refine Ext.set ?_ (by dsimp only; omega) _)))
  rw [Bool.true_and]
  have hpos : 0 < n := (elen_of hV).1
  cases hW : fway P
  · go_enter Try.func110, Try.ntmps110
    go_wp2_with (first | (go_at_call 53; refine Calls.mono (c_isFilterLength _ _) ?_; rw [HE.out, hV]; rintro e w1 ⟨rfl, rfl⟩) | (go_at_call 130; refine Calls.mono (c_isDistance fp _) ?_; rw [hW]; rintro e w1 ⟨rfl, n1, rfl⟩))
    go_ret2
    exact retL_no rfl (by repeat (first | assumption | exact Ext.refl _ | apply Ext.drewN | apply Ext.drew | apply Ext.alloc | (refine Ext.trans ?_ (by assumption)) | (refine Ext.set ?_ (by dsimp only; omega) _)))
  have hposI : (0 : Int) < (n : Int) := by omega
  obtain ⟨b, off, rfl, hb, rs, hrl, hrs⟩ := h.words hpos
  clear hrs
  go_enter Try.func110, Try.ntmps110
  go_wp2_with (first | (go_at_call 53; refine Calls.mono (c_isFilterLength _ _) ?_; rw [HE.out, hV]; rintro e w1 ⟨rfl, rfl⟩) | (go_at_call 130; refine Calls.mono (c_isDistance fp _) ?_; rw [hW]; rintro e w1 ⟨rfl, n1, rfl⟩) | (go_at_call 106; refine Calls.mono (c_cloneF (h.drewN _) hB hn hpos) ?_; rintro e w4 ⟨g, cur, cap, rfl, hbg, hg, hcs, hrow, hx'⟩; obtain ⟨q0, e0, z0, _⟩ := hrow.cell hg hpos; obtain ⟨b1, o1, t1, hA1, hb1, hc1, ht1⟩ := ((h.drewN _).below (hx'.mono hB)).cell hpos; obtain ⟨rfl, rfl⟩ : b = b1 ∧ off = o1 := (by simpa using hA1); have hc2 : w4.cell? ⟨b, off, none⟩ = some (.float .f32 t1) := (by simpa using hc1); have HG := Lib.hid hg; have HROW := Lib.hid hrow; clear hg hrow) | (apply upon_fop rfl; (exact fl_fu); (exact fp); intro r5 n5 hr5) | (go_at_call 58; refine Calls.mono (c_mulNumbers ht1 hr5 _) ?_; rintro e w6 ⟨r6, rfl, hr6, n6, rfl⟩))
  go_ret2
  have hb2 := blk_set1 (w := World.drewN w4 (n5 + n6)) HG.out 0 (.float .f32 r6)
  have hr2 := HROW.out.set' (G := fwhite L P) hcs hr6 (fun j _ hj => fwhite_other hj)
  exact ⟨_, _, _, rfl, (rowF_lst' hr2 hb2 (by rw [Array.size_setIfInBounds]; exact hcs)).more hbg (Nat.le_refl _), Ext.set (by repeat (first | assumption | exact Ext.refl _ | apply Ext.drewN | apply Ext.drew | apply Ext.alloc | (refine Ext.trans ?_ (by assumption)) | (refine Ext.set ?_ (by dsimp only; omega) _))) hbg _⟩

end Go.Proofs.Ytceldjkgddbfaab
