/- Contracts: the strongest cell of a section, on both sides. Condition: the section is read. -/
import Derived.Test.YtmhfnchpkeeckaaXf
import Derived.Test.YtmhfnchpkeeckaaPw
namespace Go.Proofs.Ytmhfnchpkeeckaa
open Go.RowKit Go.ChangeShapes Go.WideShapes Go.Deep Ieee
set_option linter.unusedVariables false
set_option linter.unusedSimpArgs false
attribute [local irreducible] wpQuiet

theorem results_tmp4 {fn : Func} {t u v x : Tmp} (h : fn.results = #[.tmp t, .tmp u, .tmp v, .tmp x]) (tmps : Array Value) (P : Program) (w : World) :
    (results fn tmps).run P w = .ok (.tuple #[tmps.getD t undef, tmps.getD u undef, tmps.getD v undef, tmps.getD x undef]) w := by
  simp [results, h]
/-- Two ints, a float and success come back. -/
def RetC4 (w : World) (e : Ending) (w' : World) (ok : Bool) (i k : Int) (X : Option Nat) : Prop := ∃ r, e = .returned (.tuple #[.int .i64 i, .int .i64 k, .float .f32 r, .bool ok]) ∧ Fl .f32 r X ∧ Ext w w'
def okC (S : Sct) : Bool := fvT S && (pk S.v S.v.length).isSome
def cxC (S : Sct) : Int := if okC S then (((atP S.v S.v.length) % S.x.toNat : Nat) : Int) else 0
def czC (S : Sct) : Int := if okC S then (((atP S.v S.v.length) / S.x.toNat : Nat) : Int) else 0
def cvC (S : Sct) : Option Nat := if okC S then S.v.getD (atP S.v S.v.length) none else fz
set_option maxRecDepth 20000 in
set_option maxHeartbeats 4000000 in
theorem c_impl_StrongCell {w : World} {B : Nat} {u : Value} {S : Sct} (h : RdT w B u S) (hB : B ≤ w.heap.size) (za : S.v.length ≤ 1048576) (hok : S.Ok) :
    Calls Try.prog 44 #[u] w fun e w' => RetC4 w e w' (okC S) (cxC S) (czC S) (cvC S) := by
  have HV0 := Lib.hid (fun (W : World) (hx : Ext w W) => c_impl_ValidSection (w := W) (h.below (hx.mono hB)) (Nat.le_trans hB hx.size) za)
  obtain ⟨A, c, rfl, hp, hcA⟩ := h.ex
  clear h
  obtain ⟨x, z, L⟩ := S
  unfold cxC czC cvC okC
  dsimp only at hp za HV0 ⊢
  obtain ⟨W1, hW1⟩ : ∃ W1, W1 = w.alloc (.cells #[.int .i64 x, .int .i64 z, .slice A L.length c] 27) := ⟨_, rfl⟩
  have hx1 : Ext w W1 := by rw [hW1]; exact (by repeat (first | assumption | exact Ext.refl _ | apply Ext.drewN | apply Ext.drew | apply Ext.alloc | (refine Ext.trans ?_ (by assumption)) | (refine Ext.set ?_ (by dsimp only; omega) _)))
  have HBX : Hid (SbAt W1 w.heap.size x z A L.length c) := Lib.hid (by rw [hW1]; exact SbAt.blk (T := 27) (by repeat (first | (refine al_at ?_ ?_ <;> first | rfl | (simp only [al_size] <;> omega)) | apply al_old)))
  have HPK := Lib.hid (fun W (hW : Ext w W) => c_peakOf (w := W) (c := c) (hp.below (hW.mono hB)) za)
  have HP := Lib.hid hp
  clear hp
  cases hpk : pk L L.length with
  | none =>
    have HA : Hid (atP L L.length = 0) := Lib.hid (by unfold atP; rw [hpk])
    have HPN := Lib.hid hpk
    clear hpk
    simp only [Option.isSome_none, Bool.and_false, if_false]
    go_enter Try.func44, Try.ntmps44
    go_wp2_with (fail)
    rw [← hW1]
    clear hW1
    obtain ⟨p0, p1, p2, _⟩ := HBX.out
    go_wp2_with (go_at_call 81; refine Calls.mono (HPK.out _ (by repeat (first | assumption | exact Ext.refl _ | apply Ext.drewN | apply Ext.drew | apply Ext.alloc | (refine Ext.trans ?_ (by assumption)) | (refine Ext.set ?_ (by dsimp only; omega) _)))) ?_; rw [HPN.out, HA.out]; rintro e w1 ⟨rfl, m1, rfl⟩)
    (try simp only [Exit.inBlock, Exit.then])
    refine bodyPost_ret (results_tmp4 rfl _ _ _) rfl ?_
    exact ⟨0, rfl, fl_fz, (by repeat (first | assumption | exact Ext.refl _ | apply Ext.drewN | apply Ext.drew | apply Ext.alloc | (refine Ext.trans ?_ (by assumption)) | (refine Ext.set ?_ (by dsimp only; omega) _)))⟩
  | some j =>
    obtain ⟨hjk, hSj⟩ := pk_lt hpk
    have ha : atP L L.length = j := by unfold atP; rw [hpk]
    have HA := Lib.hid ha
    have HPN := Lib.hid hpk
    rw [ha]
    clear hpk ha
    simp only [Option.isSome_some, Bool.and_true]
    cases hV : fvT ⟨x, z, L⟩
    · have HV := Lib.hid hV
      go_enter Try.func44, Try.ntmps44
      go_wp2_with (fail)
      rw [← hW1]
      clear hW1
      obtain ⟨p0, p1, p2, _⟩ := HBX.out
      go_wp2_with (first | (go_at_call 81; refine Calls.mono (HPK.out _ (by repeat (first | assumption | exact Ext.refl _ | apply Ext.drewN | apply Ext.drew | apply Ext.alloc | (refine Ext.trans ?_ (by assumption)) | (refine Ext.set ?_ (by dsimp only; omega) _)))) ?_; rw [HPN.out, HA.out]; rintro e w1 ⟨rfl, m1, rfl⟩) | (go_at_call 18; refine Calls.mono (HV0.out _ (by repeat (first | assumption | exact Ext.refl _ | apply Ext.drewN | apply Ext.drew | apply Ext.alloc | (refine Ext.trans ?_ (by assumption)) | (refine Ext.set ?_ (by dsimp only; omega) _)))) ?_; rw [HV.out]; rintro e w2 ⟨rfl, hx2⟩))
      (try simp only [Exit.inBlock, Exit.then])
      refine bodyPost_ret (results_tmp4 rfl _ _ _) rfl ?_
      exact ⟨0, rfl, fl_fz, (by repeat (first | assumption | exact Ext.refl _ | apply Ext.drewN | apply Ext.drew | apply Ext.alloc | (refine Ext.trans ?_ (by assumption)) | (refine Ext.set ?_ (by dsimp only; omega) _)))⟩
    · have HV := Lib.hid hV
      obtain ⟨a, b, rfl, rfl, e4, e5, e6, e7, e8, e9, e10, e11⟩ := fvT_nat hV
      rw [Int.toNat_natCast]
      obtain ⟨b1, o1, t1, rfl, hb1, hc1, ht1⟩ := HP.out.cell hjk
      have hjn : (j : Int) < (L.length : Int) := by omega
      have ha0 : (a : Int) ≠ 0 := by omega
      rw [if_pos rfl, if_pos rfl, if_pos rfl]
      obtain ⟨Y, hY⟩ : ∃ Y, L.getD j none = Y := ⟨_, rfl⟩
      rw [hY] at ht1 ⊢
      have hle : j / a ≤ j := Nat.div_le_self _ _
      have hq1 : (j : Int) / (a : Int) = ((j / a : Nat) : Int) := by simp
      have hq2 : (j : Int) % (a : Int) = ((j % a : Nat) : Int) := by simp
      obtain ⟨q, hq⟩ : ∃ q, j / a = q := ⟨_, rfl⟩
      obtain ⟨r, hr⟩ : ∃ r, j % a = r := ⟨_, rfl⟩
      rw [hq] at hq1 hle ⊢
      rw [hr] at hq2 ⊢
      have hwq := IntWalk.wrap64_in (q : Int) (by omega)
      clear hq hr hle hY
      clear hV e8 e11
      go_enter Try.func44, Try.ntmps44
      go_wp2_with (fail)
      rw [← hW1]
      clear hW1
      obtain ⟨p0, p1, p2, _⟩ := HBX.out
      go_wp2_with (first | (go_at_call 81; refine Calls.mono (HPK.out _ (by repeat (first | assumption | exact Ext.refl _ | apply Ext.drewN | apply Ext.drew | apply Ext.alloc | (refine Ext.trans ?_ (by assumption)) | (refine Ext.set ?_ (by dsimp only; omega) _)))) ?_; rw [HPN.out, HA.out]; rintro e w1 ⟨rfl, m1, rfl⟩) | (go_at_call 18; refine Calls.mono (HV0.out _ (by repeat (first | assumption | exact Ext.refl _ | apply Ext.drewN | apply Ext.drew | apply Ext.alloc | (refine Ext.trans ?_ (by assumption)) | (refine Ext.set ?_ (by dsimp only; omega) _)))) ?_; rw [HV.out]; rintro e w2 ⟨rfl, hx2⟩; have hx3 : Ext w w2 := Ext.trans (by repeat (first | assumption | exact Ext.refl _ | apply Ext.drewN | apply Ext.drew | apply Ext.alloc | (refine Ext.trans ?_ (by assumption)) | (refine Ext.set ?_ (by dsimp only; omega) _))) hx2; have hc2 := (hx3.cell (p := ⟨b1, o1 + j, none⟩) (by show b1 < _; omega)).trans hc1; obtain ⟨p0, p1, p2, _⟩ := HBX.out.ext (w' := w2) (Ext.trans (by repeat (first | assumption | exact Ext.refl _ | apply Ext.drewN | apply Ext.drew | apply Ext.alloc | (refine Ext.trans ?_ (by assumption)) | (refine Ext.set ?_ (by dsimp only; omega) _))) hx2)))
      go_quiet (fail)
      go_wp2_with (fail)
      (try simp only [Exit.inBlock, Exit.then])
      refine bodyPost_ret (results_tmp4 rfl _ _ _) rfl ?_
      refine ⟨t1, ?_, ht1, (by repeat (first | assumption | exact Ext.refl _ | apply Ext.drewN | apply Ext.drew | apply Ext.alloc | (refine Ext.trans ?_ (by assumption)) | (refine Ext.set ?_ (by dsimp only; omega) _)))⟩
      rw [hwq, ← hq2]
      rfl
set_option maxRecDepth 20000 in
set_option maxHeartbeats 8000000 in
theorem c_spec_StrongCell {w : World} {B : Nat} {u : Value} {S : Sct} (h : RdT w B u S) (hB : B ≤ w.heap.size) (za : S.v.length ≤ 1048576) (hok : S.Ok) :
    Calls Try.prog 43 #[u] w fun e w' => RetC4 w e w' (okC S) (cxC S) (czC S) (cvC S) := by
  obtain ⟨A, c, rfl, hp, hcA⟩ := h.ex
  clear h
  obtain ⟨x, z, L⟩ := S
  dsimp only at hp za
  obtain ⟨W1, hW1⟩ : ∃ W1, W1 = w.alloc (.cells #[.int .i64 x, .int .i64 z, .slice A L.length c] 27) := ⟨_, rfl⟩
  have hx1 : Ext w W1 := by rw [hW1]; exact (by repeat (first | assumption | exact Ext.refl _ | apply Ext.drewN | apply Ext.drew | apply Ext.alloc | (refine Ext.trans ?_ (by assumption)) | (refine Ext.set ?_ (by dsimp only; omega) _)))
  have HBX : Hid (SbAt W1 w.heap.size x z A L.length c) := Lib.hid (by rw [hW1]; exact SbAt.blk (T := 27) (by repeat (first | (refine al_at ?_ ?_ <;> first | rfl | (simp only [al_size] <;> omega)) | apply al_old)))
  have HP := Lib.hid hp
  clear hp
  cases hV : fvT ⟨x, z, L⟩
  · have hO : okC ⟨x, z, L⟩ = false := by unfold okC; rw [hV]; rfl
    unfold cxC czC cvC
    rw [hO, if_neg (by decide), if_neg (by decide), if_neg (by decide)]
    go_enter Try.func43, Try.ntmps43
    go_wp2_with (fail)
    rw [← hW1]
    clear hW1
    go_wp2_with (go_at_call 46; refine Calls.mono (c_l06Is (S := ⟨_, _, L⟩) HBX.out rfl za) ?_; rw [hV]; rintro e w1 ⟨rfl, n1, rfl⟩)
    (try simp only [Exit.inBlock, Exit.then])
    refine bodyPost_ret (results_tmp4 rfl _ _ _) rfl ?_
    exact ⟨0, rfl, fl_fz, (by repeat (first | assumption | exact Ext.refl _ | apply Ext.drewN | apply Ext.drew | apply Ext.alloc | (refine Ext.trans ?_ (by assumption)) | (refine Ext.set ?_ (by dsimp only; omega) _)))⟩
  have HV := Lib.hid hV
  obtain ⟨a, b, rfl, rfl, e4, e5, e6, e7, e8, e9, e10, e11⟩ := fvT_nat hV
  have hwr := IntWalk.i64_in (L.length : Int) (by omega)
  have ha0 : (a : Int) ≠ 0 := by omega
  clear hV e8
  go_enter Try.func43, Try.ntmps43
  go_wp2_with (fail)
  rw [← hW1]
  clear hW1
  go_wp2_with (go_at_call 46; refine Calls.mono (c_l06Is (S := ⟨_, _, L⟩) HBX.out rfl za) ?_; rw [HV.out]; rintro e w1 ⟨rfl, n1, rfl⟩)
  go_loopw [6, 7] (fun bst y wr => ∃ (k : Nat), k ≤ L.length ∧ y = .int .i64 k ∧ bst = .int .i64 (pkB L k) ∧ Dr W1 wr) (fun _ y _ => L.length - (intOf y).toNat)
  case atStart => exact ⟨0, Nat.zero_le _, rfl, rfl, n1, rfl⟩
  case round =>
    obtain ⟨k, hk, rfl, rfl, hd⟩ := hrel
    have h := (HP.out.below (hx1.mono hB)).dr hd
    obtain ⟨p0, p1, p2, _⟩ := HBX.out.ext hd.below
    by_cases hlt : k < L.length
    · have hlt' : (k : Int) < (L.length : Int) := by omega
      cases hS : (L.getD k none).isSome
      · have HPK := Lib.hid (pk_nan hS)
        obtain ⟨b1, o1, t1, rfl, hb1, hc1, ht1⟩ := h.cell hlt
        have hs := (eq_self ht1).trans hS
        generalize hz : pkB L k = z
        have HZ := Lib.hid hz
        clear hz
        go_wp2_with (fail)
        go_quiet (fail)
        all_goals
          go_wp2_with (fail)
          exact ⟨⟨k + 1, by omega, by go_num, by rw [← HZ.out]; unfold pkB; rw [HPK.out], hd.more _⟩, by simp [intOf]; omega⟩
      · cases hp : pk L k with
        | none =>
          have HPK := Lib.hid (pkB_some (pk_first hS hp))
          obtain ⟨b1, o1, t1, rfl, hb1, hc1, ht1⟩ := h.cell hlt
          have hs := (eq_self ht1).trans hS
          rw [pkB_none hp]
          go_wp2_with (fail)
          go_quiet (fail)
          all_goals
            go_wp2_with (fail)
            exact ⟨⟨k + 1, by omega, by go_num, by rw [HPK.out], hd.more _⟩, by simp [intOf]; omega⟩
        | some j =>
          obtain ⟨hjk, hSj⟩ := pk_lt hp
          obtain ⟨b', off, rfl, hb, rs, hrl, hrs⟩ := h.words (by omega)
          obtain ⟨hc1, ht1⟩ := hrs k hlt
          obtain ⟨hc0, ht0⟩ := hrs j (by omega)
          clear hrs
          generalize rs.getD k 0 = t1 at ht1 hc1
          generalize rs.getD j 0 = t0 at ht0 hc0
          have hs := (eq_self ht1).trans hS
          have hgt := ((szw_fl ht1).ogt (szw_fl ht0)).trans (fstr_eq ht1 (some_ne hS) ht0 (some_ne hSj)).symm
          have hjn : (j : Int) < (L.length : Int) := by omega
          have hj0 : decide ((j : Int) < 0) = false := decide_eq_false (by omega)
          rw [pkB_some hp]
          cases hF : fstr (L.getD k none) (L.getD j none)
          · have HPK := Lib.hid (pkB_some (pk_less hS hp hF))
            have hgf := hgt.trans hF
            clear hgt h ht1 ht0 hp
            go_wp2_with (fail)
            go_quiet (first | (go_at_call 80; refine Calls.quiet_of_same (c_l04SizeX _ _)))
            all_goals
              go_wp2_with (fail)
              exact ⟨⟨k + 1, by omega, by go_num, by rw [HPK.out], hd.more _⟩, by simp [intOf]; omega⟩
          · have HPK := Lib.hid (pkB_some (pk_more hS hp hF))
            have hgf := hgt.trans hF
            clear hgt h ht1 ht0 hp
            go_wp2_with (fail)
            go_quiet (first | (go_at_call 80; refine Calls.quiet_of_same (c_l04SizeX _ _)))
            all_goals
              go_wp2_with (fail)
              exact ⟨⟨k + 1, by omega, by go_num, by rw [HPK.out], hd.more _⟩, by simp [intOf]; omega⟩
    · obtain rfl : k = L.length := by omega
      have hxe : Ext w wr := hx1.trans hd.below
      cases hpk : pk L L.length with
      | none =>
        have hb1 := pkB_none hpk
        rw [hb1]
        have hO : okC ⟨(a : Int), (b : Int), L⟩ = false := by unfold okC; dsimp only; rw [hpk]; simp
        have HO := Lib.hid hO
        clear hpk hb1 hO
        go_wp2_with (fail)
        (try simp only [Exit.inBlock, Exit.then])
        refine bodyPost_ret (results_tmp4 rfl _ _ _) rfl ?_
        unfold cxC czC cvC
        rw [HO.out, if_neg (by decide), if_neg (by decide), if_neg (by decide)]
        exact ⟨0, rfl, fl_fz, hxe⟩
      | some j =>
        obtain ⟨hjk, hSj⟩ := pk_lt hpk
        have hatj : atP L L.length = j := by unfold atP; rw [hpk]
        rw [pkB_some hpk]
        have HO : Hid (okC ⟨(a : Int), (b : Int), L⟩ = true) := Lib.hid (by unfold okC; dsimp only; rw [HV.out, hpk]; rfl)
        have HAT := Lib.hid hatj
        obtain ⟨b1, o1, t1, rfl, hb1, hc1, ht1⟩ := h.cell hjk
        have hjn : (j : Int) < (L.length : Int) := by omega
        have hj0 : decide ((j : Int) < 0) = false := decide_eq_false (by omega)
        have HT1 := Lib.hid ht1
        have hle : j / a ≤ j := Nat.div_le_self _ _
        have hq1 : (j : Int) / (a : Int) = ((j / a : Nat) : Int) := by simp
        have hq2 : (j : Int) % (a : Int) = ((j % a : Nat) : Int) := by simp
        obtain ⟨q, hq⟩ : ∃ q, j / a = q := ⟨_, rfl⟩
        obtain ⟨r, hr⟩ : ∃ r, j % a = r := ⟨_, rfl⟩
        have HQ := Lib.hid hq
        have HR := Lib.hid hr
        rw [hq] at hq1 hle
        rw [hr] at hq2
        have hwq := IntWalk.wrap64_in (q : Int) (by omega)
        clear hq hr hle hpk hatj hSj ht1
        go_wp2_with (fail)
        go_quiet (fail)
        go_wp2_with (fail)
        (try simp only [Exit.inBlock, Exit.then])
        refine bodyPost_ret (results_tmp4 rfl _ _ _) rfl ?_
        unfold cxC czC cvC
        rw [HO.out, if_pos rfl, if_pos rfl, if_pos rfl]
        dsimp only
        rw [HAT.out, Int.toNat_natCast, HQ.out, HR.out]
        refine ⟨t1, ?_, HT1.out, (by repeat (first | assumption | exact Ext.refl _ | apply Ext.drewN | apply Ext.drew | apply Ext.alloc | (refine Ext.trans ?_ (by assumption)) | (refine Ext.set ?_ (by dsimp only; omega) _)))⟩
        rw [hwq, ← hq2]
        rfl
theorem both_StrongCell {S0 : Sct} (za0 : S0.v.length ≤ 1048576) (hok0 : S0.Ok) :
    ∃ ok ia ib X, (∀ W : World, ∀ (B0 : Nat) (v0 : Value), RdT W B0 v0 S0 → B0 ≤ W.heap.size → Calls Try.prog 43 #[v0] W fun e w' => RetC4 W e w' ok ia ib X) ∧
      (∀ W : World, ∀ (B0 : Nat) (v0 : Value), RdT W B0 v0 S0 → B0 ≤ W.heap.size → Calls Try.prog 44 #[v0] W fun e w' => RetC4 W e w' ok ia ib X) :=
  ⟨okC S0, cxC S0, czC S0, cvC S0, fun _ _ _ h0 hB0 => c_spec_StrongCell h0 hB0 za0 hok0, fun _ _ _ h0 hB0 => c_impl_StrongCell h0 hB0 za0 hok0⟩
end Go.Proofs.Ytmhfnchpkeeckaa
