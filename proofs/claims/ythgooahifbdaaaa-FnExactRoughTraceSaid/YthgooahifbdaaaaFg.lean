/- Contracts: smoother and rougher traces, and without a frequency, on both sides. Condition: the list is read. -/
import Derived.Test.YthgooahifbdaaaaFf
import Derived.Test.YthgooahifbdaaaaTb
namespace Go.Proofs.Ythgooahifbdaaaa
open Go.RowKit Ieee

set_option maxRecDepth 20000 in
set_option maxHeartbeats 8000000 in
theorem c_l05Smooth {w : World} {B n c : Nat} {A : Option Addr} {L : List (Option Nat)} (h : RdF w B A n L) (hB : B ≤ w.heap.size) (hn : n ≤ 1048576) (hpos : 0 < n) {R : Nat} (hR : R ≤ 16) :
    Calls Try.prog 66 #[.slice A n c, .int .i64 (R : Int)] w fun e w' => ∃ v, e = .returned v ∧ (∃ A2 c2, v = .slice A2 n c2 ∧ OwL w' w.heap.size w'.heap.size A2 n (smR L R)) ∧ Ext w w' := by
  obtain ⟨i0, hi, hz0, hz1, hz2⟩ := info_parts info_f32
  obtain ⟨b, off, rfl, hb, rs, hrl, hrs⟩ := h.words hpos
  have HR := Lib.hid hrs
  have hl := Lib.hid h.len
  clear hrs
  go_enter Try.func66, Try.ntmps66
  go_wp2_with (first | (at_builtin; refine wpList_append_own _ rfl _ _ 22 rfl w.heap.size 28 i0 (.float .f32 0) 1 4 Try.underlying22 hi hz0 hz1 hz2 rfl (by decide) _ _ _ rfl (World.ownsRow_made _ _ 0 (Nat.le_refl _) (Nat.zero_le _) rfl) ⟨b, off, none⟩ n c (fvals rs) rfl (by simp [fvals, hrl]) ?_ ?_ ?_ ?_ ?_ ?_))
  all_goals first
    | (intro j u hj
       have hjn : j < n := by
         rcases Nat.lt_or_ge j n with h1 | h1
         · exact h1
         · rw [List.getElem?_eq_none (by simp [fvals, hrl]; omega)] at hj; cases hj
       rw [fvals_at (by omega)] at hj
       cases hj
       have hc := (HR.out j hjn).1
       have e0 : (⟨b, off, none⟩ : Addr).add j = ⟨b, off + j, none⟩ := by simp [Addr.add]
       rw [e0]
       exact ((Ext.alloc (Ext.refl w) _).cell (by show b < _; omega)).trans hc)
    | (intro u hu; simp only [fvals, List.mem_map] at hu; obtain ⟨r, _, rfl⟩ := hu; rfl)
    | (unfold maxLen; omega)
    | omega
    | (simp; done)
    | (intro v' w4 hown' hgrow _
       have hx' : Ext w w4 := grown_ext (Ext.alloc (Ext.refl w) _) (World.ownsRow_made _ _ 0 (Nat.le_refl _) (Nat.zero_le _) rfl) hgrow
       obtain ⟨hlen, hd⟩ := hown'
       rcases hd with ⟨hv, h0⟩ | ⟨g, cap, cur, rfl, hbg, hg, hnc, _, hcs, htk⟩
       · omega
       have HG := Lib.hid hg
       have HT := Lib.hid htk
       have HC : Hid (n ≤ cur.size) := Lib.hid (by omega)
       have HROW : Hid (RowF cur n (fun j => L.getD j none)) := Lib.hid (by
         intro j hj
         have e1 : cur[j]? = (cur.toList.take (n * 1))[j]? := by rw [List.getElem?_take_of_lt (by omega)]; simp
         refine ⟨rs.getD j 0, ?_, (HR.out j hj).2⟩
         rw [e1, HT.out, fvals_at (by omega)])
       clear hg htk hcs hlen hgrow
       go_wp2_with (fail)
       go_loopw [1, 5] (fun y v wo => ∃ (r : Nat) (A2 : Option Addr) (c2 : Nat), r ≤ R ∧ y = .int .i64 ((R : Int) - r) ∧ v = .slice A2 n c2 ∧ OwL wo w.heap.size wo.heap.size A2 n (smR L r) ∧ Ext w wo) (fun y _ _ => (intOf y).toNat)
       case atStart => exact ⟨0, _, _, Nat.zero_le _, by first | rfl | (congr 1; omega) | simp, rfl, by (have := (rowF_lst' HROW.out HG.out HC.out).more hbg (Nat.le_refl _)); rw [lst_self hl.out] at this; exact this, hx'⟩
       case round =>
         obtain ⟨r, A2, c2, hr, rfl, rfl, hO, hxo⟩ := hrel
         obtain ⟨wu, rfl⟩ : ∃ wu, wu = wr := ⟨wr, rfl⟩
         obtain ⟨y, hy⟩ : ∃ y : Int, y = (R : Int) - r := ⟨_, rfl⟩
         rw [← hy]
         have HY := Lib.hid hy
         clear hy
         have hLr : (smR L r).length = n := by rw [smR_len]; exact hl.out
         obtain ⟨M, hM⟩ : ∃ M, smR L r = M := ⟨_, rfl⟩
         rw [hM] at hO hLr
         have hS : smR L (r + 1) = lst (fsm M) n := by rw [← hM, ← hl.out]; rfl
         have HS := Lib.hid hS
         have HM := Lib.hid hM
         have HLR := Lib.hid hLr
         clear hS hM hLr HG HT HC HROW
         by_cases hlt : 0 < y
         · have hO2 := hO.rd
           clear hO
           have hwy : IntKind.i64.wrap (y - 1) = y - 1 := IntWalk.i64_in _ (by have := HY.out; omega)
           go_wp2_with (fail)
           go_loopw [6, 18] (fun v z wi => ∃ (k : Nat) (xs : List Value), k ≤ n ∧ z = .int .i64 k ∧ wi.ownsRow wu.heap.size 28 1 v k xs ∧ (∀ j, j < k → ∃ r, xs[j]? = some (.float .f32 r) ∧ Fl .f32 r ((fsm M) j)) ∧ Ext wu wi) (fun _ z _ => n - (intOf z).toNat)
           case atStart => exact ⟨0, [], Nat.zero_le _, rfl, World.ownsRow_made _ _ 0 (Nat.le_refl _) (Nat.zero_le _) rfl, fun j hj => absurd hj (Nat.not_lt_zero _), (by repeat (first | assumption | exact Ext.refl _ | apply Ext.drewN | apply Ext.drew | apply Ext.alloc | (refine Ext.trans ?_ (by assumption)) | (refine Ext.set ?_ (by dsimp only; omega) _)))⟩
           case round =>
             obtain ⟨k, xs, hk, rfl, hown, hxs, hx⟩ := hrel
             have HX : Hid (∀ j, j < k → ∃ r, xs[j]? = some (.float .f32 r) ∧ Fl .f32 r (fsm M j)) := Lib.hid hxs
             clear hxs
             have hO3 := hO2.below hx
             by_cases hltk : k < n
             · have hlt' : (k : Int) < (n : Int) := by omega
               obtain ⟨b1, o1, t1, rfl, hb1, hc1, ht1⟩ := hO3.cell hltk
               have hw1 : IntKind.i64.wrap ((k : Int) - 1) = (k : Int) - 1 := IntWalk.i64_in _ (by omega)
               have hw2 : IntKind.i64.wrap ((k : Int) + 1) = (k : Int) + 1 := IntWalk.i64_in _ (by omega)
               have fq := fl_fq4
               have HT : Hid (fsm M k = fop .mul .f32 fq4 (fop .add .f32 (fop .add .f32 (fop .add .f32 (fatI M ((k : Int) - 1)) (M.getD k none)) (M.getD k none)) (fatI M ((k : Int) + 1)))) := Lib.hid rfl
               go_wp2_with (fail)
               refine wp_region_loose1 (v := ?v0_8) 20 (by kernel_rfl) (by kernel_rfl) (fun _ _ _ h => h) (Or.inl ⟨by rfl, ?hy0_8⟩) ?rest0_8
               case hy0_8 => intro w; go_simp; first | done | with_reducible rfl
               try simp only [Act.put, List.setIfInBounds_toArray, List.set_cons_zero, List.set_cons_succ]
               simp only [List.take_succ_cons, List.take_zero, List.drop_succ_cons, List.drop_zero]
               refine la_start ?_
               refine la_fix _ (by rfl) (by intros; go_simp; rfl) ?_
               try simp only [Act.put, List.setIfInBounds_toArray, List.set_cons_zero, List.set_cons_succ]
               refine la_fix _ (by rfl) (by intros; go_simp; rfl) ?_
               try simp only [Act.put, List.setIfInBounds_toArray, List.set_cons_zero, List.set_cons_succ]
               refine la_fix _ (by rfl) (by intros; go_simp; rfl) ?_
               try simp only [Act.put, List.setIfInBounds_toArray, List.set_cons_zero, List.set_cons_succ]
               refine la_callF (k := .f32) (by rfl) (by intros; refine ⟨_, fun q => (by go_simp; first | rfl | exact ⟨rfl, rfl⟩), fun q => ?_⟩; exact c_l05At (hO3.drewN _)) ?_
               try simp only [Act.put, List.setIfInBounds_toArray, List.set_cons_zero, List.set_cons_succ]
               refine la_fix _ (by rfl) (by intros; go_simp; rfl) ?_
               try simp only [Act.put, List.setIfInBounds_toArray, List.set_cons_zero, List.set_cons_succ]
               refine la_fix _ (by rfl) (by intros; go_simp; rfl) ?_
               try simp only [Act.put, List.setIfInBounds_toArray, List.set_cons_zero, List.set_cons_succ]
               refine la_fix _ (by rfl) (by intros; go_simp; rfl) ?_
               try simp only [Act.put, List.setIfInBounds_toArray, List.set_cons_zero, List.set_cons_succ]
               refine la_fix _ (by rfl) (by intros; go_simp; rfl) ?_
               try simp only [Act.put, List.setIfInBounds_toArray, List.set_cons_zero, List.set_cons_succ]
               refine la_fop (op := .add) (by rfl) (by rfl) (by intros; refine ⟨_, _, ?_, ?_, fun q => (by go_simp; rfl)⟩ <;> (first | assumption | exact fl_fu | exact fl_fz)) ?_
               try simp only [Act.put, List.setIfInBounds_toArray, List.set_cons_zero, List.set_cons_succ]
               refine la_fix _ (by rfl) (by intros; go_simp; rfl) ?_
               try simp only [Act.put, List.setIfInBounds_toArray, List.set_cons_zero, List.set_cons_succ]
               refine la_fix _ (by rfl) (by intros; go_simp; rfl) ?_
               try simp only [Act.put, List.setIfInBounds_toArray, List.set_cons_zero, List.set_cons_succ]
               refine la_fix _ (by rfl) (by intros; go_simp; rfl) ?_
               try simp only [Act.put, List.setIfInBounds_toArray, List.set_cons_zero, List.set_cons_succ]
               refine la_fix _ (by rfl) (by intros; go_simp; rfl) ?_
               try simp only [Act.put, List.setIfInBounds_toArray, List.set_cons_zero, List.set_cons_succ]
               refine la_fop (op := .add) (by rfl) (by rfl) (by intros; refine ⟨_, _, ?_, ?_, fun q => (by go_simp; rfl)⟩ <;> (first | assumption | exact fl_fu | exact fl_fz)) ?_
               try simp only [Act.put, List.setIfInBounds_toArray, List.set_cons_zero, List.set_cons_succ]
               refine la_fix _ (by rfl) (by intros; go_simp; rfl) ?_
               try simp only [Act.put, List.setIfInBounds_toArray, List.set_cons_zero, List.set_cons_succ]
               refine la_fix _ (by rfl) (by intros; go_simp; rfl) ?_
               try simp only [Act.put, List.setIfInBounds_toArray, List.set_cons_zero, List.set_cons_succ]
               refine la_fix _ (by rfl) (by intros; go_simp; rfl) ?_
               try simp only [Act.put, List.setIfInBounds_toArray, List.set_cons_zero, List.set_cons_succ]
               refine la_callF (k := .f32) (by rfl) (by intros; refine ⟨_, fun q => (by go_simp; first | rfl | exact ⟨rfl, rfl⟩), fun q => ?_⟩; exact c_l05At (hO3.drewN _)) ?_
               try simp only [Act.put, List.setIfInBounds_toArray, List.set_cons_zero, List.set_cons_succ]
               refine la_fop (op := .add) (by rfl) (by rfl) (by intros; refine ⟨_, _, ?_, ?_, fun q => (by go_simp; rfl)⟩ <;> (first | assumption | exact fl_fu | exact fl_fz)) ?_
               try simp only [Act.put, List.setIfInBounds_toArray, List.set_cons_zero, List.set_cons_succ]
               refine la_fop (op := .mul) (by rfl) (by rfl) (by intros; refine ⟨_, _, ?_, ?_, fun q => (by go_simp; rfl)⟩ <;> (first | assumption | exact fl_fu | exact fl_fz)) ?_
               try simp only [Act.put, List.setIfInBounds_toArray, List.set_cons_zero, List.set_cons_succ]
               refine la_end ?_
               intro r1 hr1 r2 hr2 r3 hr3 r4 hr4 r5 hr5 r6 hr6 q
               rw [← HT.out] at hr6
               go_wp2_with (at_builtin; refine wpList_append_own _ rfl _ _ 22 rfl wu.heap.size 28 i0 (.float .f32 0) 1 4 Try.underlying22 hi hz0 hz1 hz2 rfl (by decide) _ _ _ rfl (World.ownsRow.alloc (w := wr.drewN q) hown _) ⟨wr.heap.size, 0, none⟩ 1 1 [.float .f32 r6] rfl rfl ?_ ?_ ?_ ?_ ?_ ?_)
               all_goals first
                 | exact one_new (w := wr.drewN q)
                 | (intro j0 u hj0; have h0 := one_new (w := wr.drewN q) j0 u hj0; have e0 : (⟨(wr.drewN q).heap.size, 0, none⟩ : Addr).add j0 = ⟨wr.heap.size, j0, none⟩ := (by rw [show (wr.drewN q).heap.size = wr.heap.size from rfl]; simp [Addr.add]; first | done | (intros; omega)); rw [e0] at h0; exact h0)
                 | rfl
                 | (intro u hu; simp at hu; subst hu; rfl)
                 | (unfold maxLen; omega)
                 | omega
                 | (have := hx.size; simp; omega)
                 | (intro v' w4 hown' hgrow _
                    have hl' : xs.length = k := by have := hown.1; omega
                    have hx' : Ext wu w4 := grown_ext (Ext.alloc (Ext.drewN hx _) _) (World.ownsRow.alloc (w := wr.drewN q) hown _) hgrow
                    have HXX := Lib.hid (row_step hl' HX.out hr6)
                    clear hown hgrow hx
                    go_wp2_with (fail)
                    exact ⟨⟨k + 1, _, by omega, by go_num, hown', HXX.out, hx'⟩, by simp [intOf]; omega⟩)
             · obtain rfl : k = n := by omega
               have ho4 : OwF wr wu.heap.size _ k (fsm M) := ⟨xs, hown, HX.out⟩
               obtain ⟨A4, c4, rfl, ho5⟩ := ho4.owl
               rw [← HS.out] at ho5
               go_wp2_with (fail)
               exact ⟨⟨r + 1, A4, c4, by have := HY.out; omega, by have := HY.out; congr 1; omega, rfl, ho5.more hxo.size (Nat.le_refl _), hxo.trans hx⟩, by simp [intOf]; omega⟩
         · have hrR : r = R := by have := HY.out; omega
           rw [← HM.out, hrR] at hO
           go_wp2_with (fail)
           go_ret
           first | exact ⟨_, rfl, ⟨A2, c2, rfl, hO⟩, hxo⟩ | exact ⟨_, rfl, ⟨A2, ⟨c2, rfl⟩, hO⟩, hxo⟩ | exact ⟨⟨A2, c2, rfl, hO⟩, hxo⟩ | exact ⟨A2, c2, rfl, hO, hxo⟩ | exact ⟨A2, ⟨c2, rfl⟩, hO, hxo⟩ | exact ⟨⟨A2, ⟨c2, rfl⟩, hO⟩, hxo⟩)
def inR (i : Int) : Bool := inB i 0 16
def okSm (n : Nat) (i : Int) : Bool := tlen n && inB i 0 16
set_option maxRecDepth 20000 in
set_option maxHeartbeats 4000000 in
theorem c_impl_SmoothTrace {w : World} {B n c : Nat} {A : Option Addr} {L : List (Option Nat)} (h : RdF w B A n L) (hB : B ≤ w.heap.size) (hn : n ≤ 1048576) {i : Int} (_hi : -9223372036854775808 ≤ i) (_hj : i ≤ 9223372036854775807) :
    Calls Try.prog 67 #[.slice A n c, .int .i64 i] w fun e w' => RetL w e w' (okSm n i) (smR L i.toNat) := by
  unfold okSm
  cases hV : tlen n
  · go_enter Try.func67, Try.ntmps67
    go_wp2_with (go_at_call 61; refine Calls.mono (c_IsTrace _ _ _ _) ?_; rw [hV]; rintro e w1 ⟨rfl, rfl⟩)
    go_ret2
    exact retL_no rfl (by repeat (first | assumption | exact Ext.refl _ | apply Ext.drewN | apply Ext.drew | apply Ext.alloc | (refine Ext.trans ?_ (by assumption)) | (refine Ext.set ?_ (by dsimp only; omega) _)))
  rw [Bool.true_and]
  have hpos : 0 < n := (tlen_of hV).1
  cases hW : inB i 0 16
  · have hi01 := inB_not hW
    rcases hi01 with hi0 | hi1
    · go_enter Try.func67, Try.ntmps67
      go_wp2_with (go_at_call 61; refine Calls.mono (c_IsTrace _ _ _ _) ?_; rw [hV]; rintro e w1 ⟨rfl, rfl⟩)
      go_ret2
      exact retL_no rfl (by repeat (first | assumption | exact Ext.refl _ | apply Ext.drewN | apply Ext.drew | apply Ext.alloc | (refine Ext.trans ?_ (by assumption)) | (refine Ext.set ?_ (by dsimp only; omega) _)))
    · have hi2 : ¬ i < 0 := by omega
      go_enter Try.func67, Try.ntmps67
      go_wp2_with (go_at_call 61; refine Calls.mono (c_IsTrace _ _ _ _) ?_; rw [hV]; rintro e w1 ⟨rfl, rfl⟩)
      go_ret2
      exact retL_no rfl (by repeat (first | assumption | exact Ext.refl _ | apply Ext.drewN | apply Ext.drew | apply Ext.alloc | (refine Ext.trans ?_ (by assumption)) | (refine Ext.set ?_ (by dsimp only; omega) _)))
  obtain ⟨i1, i2⟩ := inB_of hW
  obtain ⟨R, rfl⟩ : ∃ R : Nat, i = (R : Int) := ⟨i.toNat, by omega⟩
  rw [Int.toNat_natCast]
  have hR : R ≤ 16 := by omega
  have hR' : ¬ (16 : Int) < (R : Int) := by omega
  have hR2 : ¬ (R : Int) < 0 := by omega
  have hl := Lib.hid h.len
  clear hW i1 i2
  go_enter Try.func67, Try.ntmps67
  go_wp2_with (first | (go_at_call 61; refine Calls.mono (c_IsTrace _ _ _ _) ?_; rw [hV]; rintro e w1 ⟨rfl, rfl⟩) | (go_at_call 110; refine Calls.mono (c_cloneF h hB hn hpos) ?_; rintro e w4 ⟨g, cur, cap, rfl, hbg, hg, hcs, hrow, hx'⟩))
  have HO0 : Hid (OwL w4 w.heap.size w4.heap.size (some ⟨g, 0, none⟩) n L) := Lib.hid (by have := (rowF_lst' hrow hg hcs).more hbg (Nat.le_refl _); rw [lst_self hl.out] at this; exact this)
  clear hg hrow hcs
  go_loopw [6, 21] (fun v y wo => ∃ (r : Nat) (A2 : Option Addr) (c2 : Nat), r ≤ R ∧ y = .int .i64 (r : Int) ∧ v = .slice A2 n c2 ∧ OwL wo w.heap.size wo.heap.size A2 n (smR L r) ∧ Ext w wo) (fun _ y _ => R - (intOf y).toNat)
  case atStart => exact ⟨0, _, _, Nat.zero_le _, rfl, rfl, HO0.out, hx'⟩
  case round =>
    obtain ⟨r, A2, c2, hr, rfl, rfl, hO, hxo⟩ := hrel
    by_cases hlt : r < R
    · have hlt' : (r : Int) < (R : Int) := by omega
      have hS : smR L (r + 1) = lst (fsm (smR L r)) n := by rw [← hl.out]; rfl
      have HS := Lib.hid hS
      have HV := Lib.hid hV
      have CS := Lib.hid (c_shape_smooth (c := c2) hO.rd (Nat.le_refl _) hn)
      clear hS hV
      go_wp2_with (go_at_call 111; refine Calls.mono CS.out ?_; rw [HV.out]; rintro e w2 ⟨A3, n3, c3, rfl, ho, hx2⟩)
      have hn3 : n3 = n := by have := ho.len; simp only [outL, if_true, lst_len] at this; omega
      subst hn3
      exact ⟨⟨r + 1, A3, c3, by omega, by go_num, rfl, by rw [HS.out]; exact ho.more hxo.size (Nat.le_refl _), hxo.trans hx2⟩, by simp [intOf]; omega⟩
    · obtain rfl : r = R := by omega
      go_wp2_with (fail)
      go_ret2
      exact ⟨_, _, _, rfl, hO, hxo⟩
theorem okSm_of {n : Nat} {i : Int} (h : okSm n i = true) : tlen n = true := by unfold okSm at h; rw [Bool.and_eq_true] at h; exact h.1

set_option maxRecDepth 20000 in
set_option maxHeartbeats 2000000 in
theorem c_spec_RoughTrace {w : World} {B n c : Nat} {A : Option Addr} {L : List (Option Nat)} (h : RdF w B A n L) (hB : B ≤ w.heap.size) (hn : n ≤ 1048576) {i : Int} (_hi : -9223372036854775808 ≤ i) (_hj : i ≤ 9223372036854775807) :
    Calls Try.prog 28 #[.slice A n c, .int .i64 i] w fun e w' => RetL w e w' (okSm n i) (lst (fsub2 L (smR L i.toNat)) n) := by
  unfold okSm
  cases hV : tlen n
  · go_enter Try.func28, Try.ntmps28
    go_wp2_with (go_at_call 59; refine Calls.mono (c_l03Is _ _ _ _) ?_; rw [hV]; rintro e w1 ⟨rfl, rfl⟩)
    go_ret2
    exact retL_no rfl (by repeat (first | assumption | exact Ext.refl _ | apply Ext.drewN | apply Ext.drew | apply Ext.alloc | (refine Ext.trans ?_ (by assumption)) | (refine Ext.set ?_ (by dsimp only; omega) _)))
  rw [Bool.true_and]
  have hpos : 0 < n := (tlen_of hV).1
  cases hW : inB i 0 16
  · go_enter Try.func28, Try.ntmps28
    go_wp2_with (first | (go_at_call 59; refine Calls.mono (c_l03Is _ _ _ _) ?_; rw [hV]; rintro e w1 ⟨rfl, rfl⟩) | (go_at_call 65; refine Calls.mono (c_l00In _ _ _ _) ?_; rw [hW]; rintro e w1 ⟨rfl, rfl⟩))
    go_ret2
    exact retL_no rfl (by repeat (first | assumption | exact Ext.refl _ | apply Ext.drewN | apply Ext.drew | apply Ext.alloc | (refine Ext.trans ?_ (by assumption)) | (refine Ext.set ?_ (by dsimp only; omega) _)))
  obtain ⟨i1, i2⟩ := inB_of hW
  obtain ⟨R, rfl⟩ : ∃ R : Nat, i = (R : Int) := ⟨i.toNat, by omega⟩
  rw [Int.toNat_natCast]
  have hR : R ≤ 16 := by omega
  go_enter Try.func28, Try.ntmps28
  go_wp2_with (first | (go_at_call 59; refine Calls.mono (c_l03Is _ _ _ _) ?_; rw [hV]; rintro e w1 ⟨rfl, rfl⟩) | (go_at_call 65; refine Calls.mono (c_l00In _ _ _ _) ?_; rw [hW]; rintro e w1 ⟨rfl, rfl⟩) | (go_at_call 66; refine Calls.mono (c_l05Smooth h hB hn hpos hR) ?_; rintro e w2 ⟨v, rfl, ⟨A2, c2, rfl, ho⟩, hx2⟩) | (go_at_call 57; refine Calls.mono (c_l03Less (h.below (hx2.mono hB)) (Nat.le_trans hB hx2.size) hn ho.rd (Nat.le_refl _)) ?_; rintro e w3 ⟨v, rfl, ho3, hx3⟩; obtain ⟨A3, c3, rfl, ho4⟩ := ho3.owl))
  go_ret2
  exact ⟨_, _, _, rfl, ho4.more hx2.size (Nat.le_refl _), hx2.trans hx3⟩
set_option maxRecDepth 20000 in
set_option maxHeartbeats 4000000 in
theorem c_impl_RoughTrace {w : World} {B n c : Nat} {A : Option Addr} {L : List (Option Nat)} (h : RdF w B A n L) (hB : B ≤ w.heap.size) (hn : n ≤ 1048576) {i : Int} (hi : -9223372036854775808 ≤ i) (hj : i ≤ 9223372036854775807) :
    Calls Try.prog 29 #[.slice A n c, .int .i64 i] w fun e w' => RetL w e w' (okSm n i) (lst (fsub2 L (smR L i.toNat)) n) := by
  cases hV : okSm n i
  · go_enter Try.func29, Try.ntmps29
    go_wp2_with (go_at_call 67; refine Calls.mono (c_impl_SmoothTrace h hB hn hi hj) ?_; rw [hV]; rintro e w2 ⟨A2, n2, c2, rfl, ho, hx2⟩)
    go_ret2
    exact retL_no rfl hx2
  have h2 : (tlen n && same2 n n) = true := by rw [okSm_of hV, same2_yes rfl]; rfl
  go_enter Try.func29, Try.ntmps29
  go_wp2_with (first | (go_at_call 67; refine Calls.mono (c_impl_SmoothTrace h hB hn hi hj) ?_; rw [hV]; rintro e w2 ⟨A2, n2, c2, rfl, ho, hx2⟩; have hn2 : n2 = n := (by have := ho.len; have h4 := h.len; simp only [outL, if_true, smR_len] at this; omega); subst hn2) | (go_at_call 22; refine Calls.mono (c_impl_LessTraces (h.below (hx2.mono hB)) (Nat.le_trans hB hx2.size) hn ho.rd (Nat.le_refl _) hn) ?_; rw [h2]; rintro e w3 ⟨A3, n3, c3, rfl, ho3, hx3⟩))
  go_ret2
  exact ⟨_, _, _, rfl, ho3.more hx2.size (Nat.le_refl _), hx2.trans hx3⟩
theorem both_RoughTrace {n0 : Nat} {L0 : List (Option Nat)} (_hl0 : L0.length = n0) (hn0 : n0 ≤ 1048576) {i1 : Int} (hi1 : -9223372036854775808 ≤ i1) (hj1 : i1 ≤ 9223372036854775807) :
    ∃ ok Q q, q ≤ 1048576 ∧ (∀ W : World, ∀ (B0 : Nat) (A0 : Option Addr) (c0 : Nat), RdF W B0 A0 n0 L0 → B0 ≤ W.heap.size → Calls Try.prog 28 #[.slice A0 n0 c0, .int .i64 i1] W fun e w' => RetQ W e w' ok q Q) ∧
      (∀ W : World, ∀ (B0 : Nat) (A0 : Option Addr) (c0 : Nat), RdF W B0 A0 n0 L0 → B0 ≤ W.heap.size → Calls Try.prog 29 #[.slice A0 n0 c0, .int .i64 i1] W fun e w' => RetQ W e w' ok q Q) :=
  ⟨okSm n0 i1, outL (okSm n0 i1) (lst (fsub2 L0 (smR L0 i1.toNat)) n0), (outL (okSm n0 i1) (lst (fsub2 L0 (smR L0 i1.toNat)) n0)).length, Nat.le_trans (outL_len _ _) (by rw [lst_len]; omega),
    fun W _ _ _ h0 hB0 => Calls.mono (c_spec_RoughTrace (w := W) h0 hB0 hn0 hi1 hj1) (fun _ _ hr => hr.q), fun W _ _ _ h0 hB0 => Calls.mono (c_impl_RoughTrace (w := W) h0 hB0 hn0 hi1 hj1) (fun _ _ hr => hr.q)⟩

end Go.Proofs.Ythgooahifbdaaaa
