/- Contracts: filters behind a step with a reflection, filters of reflections, on both sides. Condition: the lists are read. -/
import Derived.Test.YtceldjkgddbfaabKa
namespace Go.Proofs.Ytceldjkgddbfaab
open Go.RowKit Ieee

theorem fnext_lst {c n : Nat} {L : List (Option Nat)} {P : Option Nat} (hl : L.length = n) (hC : Fl .f32 c P) : lst (fplus (L ++ [fz]) (fneg32 P) (L ++ [fz])) (n + 1) = fnext L P := by
  unfold fnext
  rw [hl, show fplus (L ++ [fz]) (fneg32 P) (L ++ [fz]) = fnextN L P from funext fun i => fplus_next hC i]
theorem app_zero_len {L : List (Option Nat)} {n : Nat} (h : L.length = n) : (L ++ [fz]).length = n + 1 := by rw [List.length_append, h]; rfl
set_option maxRecDepth 20000 in
set_option maxHeartbeats 4000000 in
theorem c_reflectFilter {w : World} {B n c : Nat} {A : Option Addr} {L : List (Option Nat)} (h : RdF w B A n L) (hB : B ≤ w.heap.size) (hn : n + 1 ≤ 1048576) (hpos : 0 < n) {p : Nat} {P : Option Nat} (fp : Fl .f32 p P) :
    Calls Try.prog 105 #[.slice A n c, .float .f32 p] w fun e w' => ∃ A2 c2, e = .returned (.slice A2 (n + 1) c2) ∧ OwL w' w.heap.size w'.heap.size A2 (n + 1) (fnext L P) ∧ Ext w w' := by
  have hl := Lib.hid h.len
  have hz := c_withZero (w := w) (c := c) h hB (by omega) hpos
  have HZ := Lib.hid hz
  have hF := fnext_lst hl.out fp
  have HF := Lib.hid hF
  have hN := fneg32_fl fp
  clear hz hF
  go_enter Try.func105, Try.ntmps105
  go_wp2_with (go_at_call 60; refine Calls.mono HZ.out ?_; rintro e w2 ⟨v, rfl, ho, hx2⟩; obtain ⟨A2, c2, rfl, ho2⟩ := ho.owl)
  rw [lst_self (app_zero_len hl.out)] at ho2
  have hpm := c_plusMirrored (w := w2) (c := c2) (c' := c2) ho2.rd (Nat.le_refl _) hn (Nat.succ_pos _) ho2.rd (Nat.le_refl _) hN
  rw [HF.out] at hpm
  have HPM := Lib.hid hpm
  clear hpm ho ho2
  go_wp2_with (go_at_call 59; refine Calls.mono HPM.out ?_; rintro e w3 ⟨A3, c3, rfl, ho3, hx3⟩)
  go_ret
  first | exact ⟨_, _, rfl, ho3.more hx2.size (Nat.le_refl _), hx2.trans hx3⟩ | exact ⟨_, ⟨_, rfl⟩, ho3.more hx2.size (Nat.le_refl _), hx2.trans hx3⟩
set_option maxRecDepth 20000 in
set_option maxHeartbeats 8000000 in
theorem c_l05Next {w : World} {B n c : Nat} {A : Option Addr} {L : List (Option Nat)} (h : RdF w B A n L) (hB : B ≤ w.heap.size) (hn : n + 1 ≤ 1048576) (hpos : 0 < n) {p : Nat} {P : Option Nat} (fp : Fl .f32 p P) :
    Calls Try.prog 104 #[.slice A n c, .float .f32 p] w fun e w' => ∃ A2 c2, e = .returned (.slice A2 (n + 1) c2) ∧ OwL w' w.heap.size w'.heap.size A2 (n + 1) (fnext L P) ∧ Ext w w' := by
  obtain ⟨i0, hi, hz0, hz1, hz2⟩ := info_parts info_f32
  obtain ⟨b, off, rfl, hb, rs, hrl, hrs⟩ := h.words hpos
  have hl := Lib.hid h.len
  have HR := Lib.hid hrs
  clear hrs
  obtain ⟨M, hM⟩ : ∃ M, L ++ [fz] = M := ⟨_, rfl⟩
  obtain ⟨m, hm⟩ : ∃ m, n + 1 = m := ⟨_, rfl⟩
  have hT0 : ∀ i, fnextN L P i = fop .sub .f32 (M.getD i none) (fop .mul .f32 P (M.getD (n - i) none)) := fun i => by unfold fnextN; rw [hM, hl.out]
  have HT0 := Lib.hid hT0
  have hFN : fnext L P = lst (fnextN L P) m := by unfold fnext; rw [hl.out, hm]
  rw [hFN, hm]
  have HM := Lib.hid hm
  have HMM := Lib.hid hM
  clear hT0 hFN hM hm
  go_enter Try.func104, Try.ntmps104
  go_wp2_with (at_builtin; refine wpList_append_own _ rfl _ _ 22 rfl w.heap.size 28 i0 (.float .f32 0) 1 4 Try.underlying22 hi hz0 hz1 hz2 rfl (by decide) _ _ _ rfl (World.ownsRow_made _ _ 0 (Nat.le_refl _) (Nat.zero_le _) rfl) ⟨b, off, none⟩ n c (fvals rs) rfl (by simp [fvals, hrl]) ?_ ?_ ?_ ?_ ?_ ?_)
  all_goals first
    | (intro j u hj
       have hjn : j < n := by
         rcases Nat.lt_or_ge j n with h1 | h1
         · exact h1
         · rw [List.getElem?_eq_none (by simp [fvals, hrl]; omega)] at hj; cases hj
       rw [fvals_at (by omega)] at hj
       cases hj
       have hc := (HR.out j hjn).1
       have e0 : (⟨b, off, none⟩ : Addr).add j = ⟨b, off + j, none⟩ := by simp [Addr.add]
       rw [e0]
       exact ((Ext.alloc (Ext.refl w) _).cell (by show b < _; omega)).trans hc)
    | (intro u hu; simp only [fvals, List.mem_map] at hu; obtain ⟨r, _, rfl⟩ := hu; rfl)
    | (unfold maxLen; omega)
    | omega
    | (simp; done)
    | skip
  intro v1 wr hown' hgrow _
  have hx : Ext w wr := grown_ext (Ext.alloc (Ext.refl w) _) (World.ownsRow_made _ _ 0 (Nat.le_refl _) (Nat.zero_le _) rfl) hgrow
  have hown : wr.ownsRow w.heap.size 28 1 v1 n (fvals rs) := by simpa using hown'
  clear hown' hgrow
  obtain ⟨xs, hxs⟩ : ∃ xs, xs = fvals rs := ⟨_, rfl⟩
  have HX : Hid (∀ j, j < n → ∃ r, xs[j]? = some (.float .f32 r) ∧ Fl .f32 r ((fun j => (L ++ [fz]).getD j none) j)) := Lib.hid (fun j hj => ⟨rs.getD j 0, by rw [hxs]; exact fvals_at (by omega), by show Fl .f32 _ ((L ++ [fz]).getD j none); rw [app_zero_at (by rw [hl.out]; exact hj)]; exact (HR.out j hj).2⟩)
  rw [← hxs] at hown
  clear hxs
  go_wp2_with (at_builtin; refine wpList_append_own _ rfl _ _ 22 rfl w.heap.size 28 i0 (.float .f32 0) 1 4 Try.underlying22 hi hz0 hz1 hz2 rfl (by decide) _ _ _ rfl (World.ownsRow.alloc (w := wr) hown _) ⟨wr.heap.size, 0, none⟩ 1 1 [.float .f32 0] rfl rfl ?_ ?_ ?_ ?_ ?_ ?_)
  all_goals first
    | exact one_new (w := wr)
    | (intro j0 u hj0; have h0 := one_new (w := wr) j0 u hj0; have e0 : (⟨(wr).heap.size, 0, none⟩ : Addr).add j0 = ⟨wr.heap.size, j0, none⟩ := (by rw [show (wr).heap.size = wr.heap.size from rfl]; simp [Addr.add]; first | done | (intros; omega)); rw [e0] at h0; exact h0)
    | rfl
    | (intro u hu; simp at hu; subst hu; rfl)
    | (unfold maxLen; omega)
    | omega
    | (have := hx.size; simp; omega)
    | (intro v' w4 hown' hgrow _
       have hl' : xs.length = n := by have := hown.1; omega
       have hx' : Ext w w4 := grown_ext (Ext.alloc hx _) (World.ownsRow.alloc (w := wr) hown _) hgrow
       have HXX := Lib.hid (row_step hl' HX.out (r := 0) (by show Fl .f32 0 ((L ++ [fz]).getD n none); rw [app_zero_end hl.out]; exact fl_fz))
       clear hown hgrow hx
       have ho3 : OwF w4 w.heap.size v' (n + 1) (fun j => (L ++ [fz]).getD j none) := ⟨_, hown', HXX.out⟩
       obtain ⟨A2, c2, rfl, ho2⟩ := ho3.owl
       rw [lst_self (app_zero_len hl.out)] at ho2
       have HRD := Lib.hid ho2.rd
       clear hown' ho3 ho2 HXX
       have hRD2 := HRD.out
       rw [HMM.out, HM.out] at hRD2
       rw [HM.out]
       have HRD := Lib.hid hRD2
       clear hRD2
       have hm := HM.out
       have hmn : (m : Int) - 1 = (n : Int) := by omega
       have hmI : (n : Int) + 1 = (m : Int) := by omega
       have hwn : IntKind.i64.wrap (n : Int) = (n : Int) := IntWalk.i64_in _ (by omega)
       clear hm
       go_wp2_with (fail)
       obtain ⟨wu, rfl⟩ : ∃ wu, wu = w4 := ⟨w4, rfl⟩
       go_loopw [6, 19] (fun v y wi => ∃ (k : Nat) (xs : List Value), k ≤ m ∧ y = .int .i64 k ∧ wi.ownsRow wu.heap.size 28 1 v k xs ∧ (∀ j, j < k → ∃ r, xs[j]? = some (.float .f32 r) ∧ Fl .f32 r ((fnextN L P) j)) ∧ Ext wu wi) (fun _ y _ => m - (intOf y).toNat)
       case atStart => exact ⟨0, [], Nat.zero_le _, rfl, World.ownsRow_made _ _ 0 (Nat.le_refl _) (Nat.zero_le _) rfl, fun j hj => absurd hj (Nat.not_lt_zero _), (by repeat (first | assumption | exact Ext.refl _ | apply Ext.drewN | apply Ext.drew | apply Ext.alloc | (refine Ext.trans ?_ (by assumption)) | (refine Ext.set ?_ (by dsimp only; omega) _)))⟩
       case round =>
         obtain ⟨k, xs, hk, rfl, hown, hxs, hx⟩ := hrel
         have HX : Hid (∀ j, j < k → ∃ r, xs[j]? = some (.float .f32 r) ∧ Fl .f32 r (fnextN L P j)) := Lib.hid hxs
         clear hxs
         have hO3 := HRD.out.below hx
         by_cases hlt : k < m
         · have hlt' : (k : Int) < (m : Int) := by omega
           obtain ⟨b1, o1, t1, rfl, hb1, hc1, ht1⟩ := hO3.cell hlt
           obtain ⟨d, hd⟩ : ∃ d : Nat, (n : Int) - (k : Int) = (d : Int) := ⟨n - k, by have := HM.out; omega⟩
           have hdm : d < m := by have := HM.out; omega
           obtain ⟨b2, o2, t2, hA2, hb2, hc2, ht2⟩ := hO3.cell hdm
           simp only [Option.some.injEq, Addr.mk.injEq, and_true] at hA2
           obtain ⟨rfl, rfl⟩ := hA2
           have hwd : IntKind.i64.wrap (d : Int) = (d : Int) := IntWalk.i64_in _ (by omega)
           have hdI : (d : Int) < (m : Int) := by omega
           have hT : fnextN L P k = fop .sub .f32 (M.getD k none) (fop .mul .f32 P (M.getD d none)) := by rw [HT0.out, show n - k = d by omega]
           have HT := Lib.hid hT
           clear hT
           go_wp2_with (fail)
           refine wp_region_loose1 (v := ?v0_2) 13 (by kernel_rfl) (by kernel_rfl) (fun _ _ _ h => h) (Or.inl ⟨by rfl, ?hy0_2⟩) ?rest0_2
           case hy0_2 => intro w; go_simp; first | done | with_reducible rfl
           try simp only [Act.put, List.setIfInBounds_toArray, List.set_cons_zero, List.set_cons_succ]
           simp only [List.take_succ_cons, List.take_zero, List.drop_succ_cons, List.drop_zero]
           refine la_start ?_
           refine la_fix _ (by rfl) (by intros; go_simp; rfl) ?_
           try simp only [Act.put, List.setIfInBounds_toArray, List.set_cons_zero, List.set_cons_succ]
           refine la_fix _ (by rfl) (by intros; go_simp; rfl) ?_
           try simp only [Act.put, List.setIfInBounds_toArray, List.set_cons_zero, List.set_cons_succ]
           refine la_fix _ (by rfl) (by intros; go_simp; rfl) ?_
           try simp only [Act.put, List.setIfInBounds_toArray, List.set_cons_zero, List.set_cons_succ]
           refine la_fix _ (by rfl) (by intros; go_simp; rfl) ?_
           try simp only [Act.put, List.setIfInBounds_toArray, List.set_cons_zero, List.set_cons_succ]
           refine la_fix _ (by rfl) (by intros; go_simp; rfl) ?_
           try simp only [Act.put, List.setIfInBounds_toArray, List.set_cons_zero, List.set_cons_succ]
           refine la_fix _ (by rfl) (by intros; go_simp; rfl) ?_
           try simp only [Act.put, List.setIfInBounds_toArray, List.set_cons_zero, List.set_cons_succ]
           refine la_fix _ (by rfl) (by intros; go_simp; rfl) ?_
           try simp only [Act.put, List.setIfInBounds_toArray, List.set_cons_zero, List.set_cons_succ]
           refine la_fix _ (by rfl) (by intros; go_simp; rfl) ?_
           try simp only [Act.put, List.setIfInBounds_toArray, List.set_cons_zero, List.set_cons_succ]
           refine la_fix _ (by rfl) (by intros; go_simp; rfl) ?_
           try simp only [Act.put, List.setIfInBounds_toArray, List.set_cons_zero, List.set_cons_succ]
           refine la_fix _ (by rfl) (by intros; go_simp; rfl) ?_
           try simp only [Act.put, List.setIfInBounds_toArray, List.set_cons_zero, List.set_cons_succ]
           refine la_fix _ (by rfl) (by intros; go_simp; rfl) ?_
           try simp only [Act.put, List.setIfInBounds_toArray, List.set_cons_zero, List.set_cons_succ]
           refine la_fop (op := .mul) (by rfl) (by rfl) (by intros; refine ⟨_, _, ?_, ?_, fun q => (by go_simp; rfl)⟩ <;> (first | assumption | exact fl_fu | exact fl_fz)) ?_
           try simp only [Act.put, List.setIfInBounds_toArray, List.set_cons_zero, List.set_cons_succ]
           refine la_fop (op := .sub) (by rfl) (by rfl) (by intros; refine ⟨_, _, ?_, ?_, fun q => (by go_simp; rfl)⟩ <;> (first | assumption | exact fl_fu | exact fl_fz)) ?_
           try simp only [Act.put, List.setIfInBounds_toArray, List.set_cons_zero, List.set_cons_succ]
           refine la_end ?_
           intro r4 hr4 r5 hr5 q
           rw [← HT.out] at hr5
           go_wp2_with (at_builtin; refine wpList_append_own _ rfl _ _ 22 rfl wu.heap.size 28 i0 (.float .f32 0) 1 4 Try.underlying22 hi hz0 hz1 hz2 rfl (by decide) _ _ _ rfl (World.ownsRow.alloc (w := wr.drewN q) hown _) ⟨wr.heap.size, 0, none⟩ 1 1 [.float .f32 r5] rfl rfl ?_ ?_ ?_ ?_ ?_ ?_)
           all_goals first
             | exact one_new (w := wr.drewN q)
             | (intro j0 u hj0; have h0 := one_new (w := wr.drewN q) j0 u hj0; have e0 : (⟨(wr.drewN q).heap.size, 0, none⟩ : Addr).add j0 = ⟨wr.heap.size, j0, none⟩ := (by rw [show (wr.drewN q).heap.size = wr.heap.size from rfl]; simp [Addr.add]; first | done | (intros; omega)); rw [e0] at h0; exact h0)
             | rfl
             | (intro u hu; simp at hu; subst hu; rfl)
             | (unfold maxLen; omega)
             | omega
             | (have := hx.size; have := hx'.size; simp; omega)
             | (intro v' w4 hown' hgrow _
                have hl' : xs.length = k := by have := hown.1; omega
                have hx'2 : Ext wu w4 := grown_ext (Ext.alloc (Ext.drewN  hx _) _) (World.ownsRow.alloc (w := wr.drewN q) hown _) hgrow
                have HXX := Lib.hid (row_step hl' HX.out hr5)
                clear hown hgrow hx
                go_wp2_with (fail)
                exact ⟨⟨k + 1, _, by omega, by go_num, hown', HXX.out, hx'2⟩, by simp [intOf]; omega⟩)
         · obtain rfl : k = m := by omega
           have ho4 : OwF wr wu.heap.size _ k (fnextN L P) := ⟨xs, hown, HX.out⟩
           obtain ⟨A4, c4, rfl, ho5⟩ := ho4.owl
           go_wp2_with (fail)
           go_ret
           first | exact ⟨_, _, rfl, ho5.more hx'.size (Nat.le_refl _), hx'.trans hx⟩ | exact ⟨_, ⟨_, rfl⟩, ho5.more hx'.size (Nat.le_refl _), hx'.trans hx⟩)
def fofrN (K : List (Option Nat)) : Nat → List (Option Nat)
  | 0 => [fu]
  | k + 1 => fnext (fofrN K k) (K.getD k none)
theorem fofrN_len (K : List (Option Nat)) : ∀ k, (fofrN K k).length = k + 1
  | 0 => rfl
  | k + 1 => by rw [fofrN]; unfold fnext; rw [lst_len, fofrN_len K k]
def lt24 (n : Nat) : Bool := decide (n < 24)
theorem lt24_yes {n : Nat} (h : n < 24) : lt24 n = true := decide_eq_true h
theorem lt24_no {n : Nat} (h : ¬ n < 24) : lt24 n = false := decide_eq_false h
theorem own_one_l {w : World} {r : Nat} {X : Option Nat} (h : Fl .f32 r X) : OwL (w.alloc (.cells #[.float .f32 r] 28)) w.heap.size (w.alloc (.cells #[.float .f32 r] 28)).heap.size (some ⟨w.heap.size, 0, none⟩) 1 [X] :=
  ⟨rfl, .inr ⟨w.heap.size, 0, #[.float .f32 r], rfl, Nat.le_refl _, by simp, heap_alloc_new w _, Nat.le_refl _, fun j hj => ⟨r, by (obtain rfl : j = 0 := by omega); rfl, by (obtain rfl : j = 0 := by omega); exact h⟩⟩⟩

end Go.Proofs.Ytceldjkgddbfaab
