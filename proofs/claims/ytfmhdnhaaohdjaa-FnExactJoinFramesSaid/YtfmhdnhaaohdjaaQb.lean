/- Contracts: numbers as frames have, valid frames, on both sides. Condition: the frame is read. -/
import Derived.Test.YtfmhdnhaaohdjaaQa
import Derived.Test.YtfmhdnhaaohdjaaXa
namespace Go.Proofs.Ytfmhdnhaaohdjaa
open Go.RowKit Go.ChangeShapes Go.WideShapes Go.Deep Ieee
set_option linter.unusedVariables false
set_option linter.unusedSimpArgs false
attribute [local irreducible] wpQuiet

/-- A trace as frames have. -/
def fgoodF (L : List (Option Nat)) : Bool := tlen L.length && allL fkept L
/-- A frame is valid. -/
def fvF (S : Sct) : Bool := inB S.x 0 200 && (inB S.z 0 100000 && fgoodF S.v)
set_option maxRecDepth 20000 in
set_option maxHeartbeats 4000000 in
theorem c_areKept {w : World} {B n c : Nat} {A : Option Addr} {L : List (Option Nat)} (h : RdF w B A n L) (hn : n ≤ 1048576) :
    Calls Try.prog 89 #[.slice A n c] w fun e w' => e = .returned (.bool (allL fkept L)) ∧ Dr w w' := by
  have hl := Lib.hid h.len
  go_enter Try.func89, Try.ntmps89
  go_wp2_with (fail)
  go_loopw [7] (fun i wr => ∃ k : Nat, k ≤ n ∧ i = .int .i64 k ∧ allL fkept (L.take k) = true ∧ Dr w wr) (fun i _ => n - (intOf i).toNat)
  case atStart => exact ⟨0, Nat.zero_le _, rfl, rfl, 0, rfl⟩
  case round =>
    obtain ⟨k, hk, rfl, ha, m, rfl⟩ := hrel
    have HA := Lib.hid ha
    clear ha
    by_cases hlt : k < n
    · have hlt' : (k : Int) < (n : Int) := by omega
      obtain ⟨b1, o1, t1, rfl, hb1, hc1, ht1⟩ := h.cell hlt
      have e2 := fkept_two ht1
      have h1 := fl_m99.olt ht1
      have h2 := ht1.olt fl_k99
      cases hA : flt32 m99 (L.getD k none)
      · rw [hA] at h1
        have hF : fkept (L.getD k none) = false := by rw [e2, hA]; rfl
        have hend := Lib.hid (allL_no (L := L) (k := k) (by have := hl.out; omega) hF).symm
        clear e2 h2 hA hF
        go_wp2_with (fail)
        go_ret
        exact ⟨retb hend.out, _, rfl⟩
      · rw [hA] at h1
        cases hB : flt32 (L.getD k none) k99
        · rw [hB] at h2
          have hF : fkept (L.getD k none) = false := by rw [e2, hA, hB]; rfl
          have hend := Lib.hid (allL_no (L := L) (k := k) (by have := hl.out; omega) hF).symm
          clear e2 hA hB hF
          go_wp2_with (fail)
          go_ret
          exact ⟨retb hend.out, _, rfl⟩
        · rw [hB] at h2
          have hF : fkept (L.getD k none) = true := by rw [e2, hA, hB]; rfl
          have hst := Lib.hid (allL_step (L := L) (k := k) (by have := hl.out; omega) HA.out hF)
          clear e2 hA hB hF
          go_wp2_with (fail)
          exact ⟨⟨k + 1, by omega, by go_num, hst.out, _, rfl⟩, by simp [intOf]; omega⟩
    · obtain rfl : k = n := by omega
      have hend := Lib.hid (allL_end hl.out HA.out).symm
      go_wp2_with (fail)
      go_ret
      exact ⟨retb hend.out, _, rfl⟩
set_option maxRecDepth 20000 in
set_option maxHeartbeats 4000000 in
theorem c_isKeptTrace {w : World} {B n c : Nat} {A : Option Addr} {L : List (Option Nat)} (h : RdF w B A n L) (hn : n ≤ 1048576) :
    Calls Try.prog 66 #[.slice A n c] w fun e w' => e = .returned (.bool (fgoodF L)) ∧ Dr w w' := by
  have cT := fun (W : World) => c_IsTrace n c A W
  have cK := c_areKept (c := c) h hn
  have hl := h.len
  unfold fgoodF
  rw [hl]
  clear hl
  cases hT : tlen n
  · rw [hT] at cT
    rw [Bool.false_and]
    clear cK hT
    go_enter Try.func66, Try.ntmps66
    go_wp2_with (go_at_call 88; refine Calls.mono (cT _) ?_; rintro e w1 ⟨rfl, rfl⟩)
    go_ret
    exact ⟨rfl, 0, rfl⟩
  · rw [hT] at cT
    rw [Bool.true_and]
    cases hK : allL fkept L
    all_goals
      rw [hK] at cK
      clear hT hK
      go_enter Try.func66, Try.ntmps66
      go_wp2_with (first | (go_at_call 88; refine Calls.mono (cT _) ?_; rintro e w1 ⟨rfl, rfl⟩) | (go_at_call 89; refine Calls.mono cK ?_; rintro e w2 ⟨rfl, n2, rfl⟩))
      go_ret
      exact ⟨rfl, _, rfl⟩
set_option maxRecDepth 20000 in
set_option maxHeartbeats 4000000 in
theorem c_l07Is {w : World} {B b o n c : Nat} {A : Option Addr} {S : Sct} (p0 : w.cell? ⟨b, o, none⟩ = some (.int .i64 S.x)) (p1 : w.cell? ⟨b, o + 1, none⟩ = some (.int .i64 S.z)) (p2 : w.cell? ⟨b, o + 2, none⟩ = some (.slice A n c)) (h : RdF w B A n S.v) (hn : n ≤ 1048576) :
    Calls Try.prog 62 #[.pointer (some ⟨b, o, none⟩)] w fun e w' => e = .returned (.bool (fvF S)) ∧ Dr w w' := by
  have hl := Lib.hid h.len
  go_enter Try.func62, Try.ntmps62
  go_wp2_with (fail)
  go_loopw [9] (fun i wr => ∃ k : Nat, k ≤ n ∧ i = .int .i64 k ∧ allL fkept (S.v.take k) = true ∧ Dr w wr) (fun i _ => n - (intOf i).toNat)
  case atStart => exact ⟨0, Nat.zero_le _, rfl, rfl, 0, rfl⟩
  case round =>
    obtain ⟨k, hk, rfl, ha, m, rfl⟩ := hrel
    have HA := Lib.hid ha
    clear ha
    by_cases hlt : k < n
    · have hlt' : (k : Int) < (n : Int) := by omega
      obtain ⟨b1, o1, t1, rfl, hb1, hc1, ht1⟩ := h.cell hlt
      cases hF : fkept (S.v.getD k none)
      · have hend := Lib.hid (show false = fvF S by unfold fvF fgoodF; rw [allL_no (L := S.v) (k := k) (by have := hl.out; omega) hF]; simp)
        go_wp2_with (go_at_call 86; refine Calls.mono (c_l07Number ht1 _) ?_; rw [hF]; rintro e w' ⟨rfl, rfl⟩)
        go_ret
        exact ⟨retb hend.out, _, rfl⟩
      · have hst := Lib.hid (allL_step (L := S.v) (k := k) (by have := hl.out; omega) HA.out hF)
        go_wp2_with (go_at_call 86; refine Calls.mono (c_l07Number ht1 _) ?_; rw [hF]; rintro e w' ⟨rfl, rfl⟩)
        exact ⟨⟨k + 1, by omega, by go_num, hst.out, _, rfl⟩, by simp [intOf]; omega⟩
    · obtain rfl : k = n := by omega
      have hend := Lib.hid (show fvF S = (tlen k && (inB S.x 0 200 && inB S.z 0 100000)) by
        unfold fvF fgoodF; rw [allL_end hl.out HA.out, hl.out]; cases tlen k <;> cases inB S.x 0 200 <;> cases inB S.z 0 100000 <;> rfl)
      have cT := fun (W : World) => c_l03Is k c A W
      have cX := fun (W : World) => c_l00In S.x 0 200 W
      have cZ := fun (W : World) => c_l00In S.z 0 100000 W
      clear HA h
      cases hT : tlen k
      · rw [hT] at cT hend
        clear hT cX cZ
        go_wp2_with (first | (go_at_call 87; refine Calls.mono (cT _) ?_; rintro e w1 ⟨rfl, rfl⟩))
        go_ret
        exact ⟨retb hend.out.symm, _, rfl⟩
      cases hX : inB S.x 0 200
      · rw [hT] at cT hend
        rw [hX] at cX hend
        clear hT hX cZ
        go_wp2_with (first | (go_at_call 87; refine Calls.mono (cT _) ?_; rintro e w1 ⟨rfl, rfl⟩) | (go_at_call_of 70 S.x; refine Calls.mono (cX _) ?_; rintro e w1 ⟨rfl, rfl⟩))
        go_ret
        exact ⟨retb hend.out.symm, _, rfl⟩
      cases hZ : inB S.z 0 100000
      all_goals
        rw [hT] at cT hend
        rw [hX] at cX hend
        rw [hZ] at cZ hend
        clear hT hX hZ
        go_wp2_with (first | (go_at_call 87; refine Calls.mono (cT _) ?_; rintro e w1 ⟨rfl, rfl⟩) | (go_at_call_of 70 S.x; refine Calls.mono (cX _) ?_; rintro e w1 ⟨rfl, rfl⟩) | (go_at_call_of 70 S.z; refine Calls.mono (cZ _) ?_; rintro e w1 ⟨rfl, rfl⟩))
        go_ret
        exact ⟨retb hend.out.symm, _, rfl⟩
set_option maxRecDepth 20000 in
set_option maxHeartbeats 4000000 in
theorem c_spec_ValidFrame {w : World} {B : Nat} {u : Value} {S : Sct} (h : RdT w B u S) (hB : B ≤ w.heap.size) (h1 : S.v.length ≤ 1048576) :
    Calls Try.prog 16 #[u] w fun e w' => e = .returned (.bool (fvF S)) ∧ Ext w w' := by
  obtain ⟨A, c, rfl, hp, _⟩ := h.ex
  have hbox : SbAt (w.alloc (.cells #[.int .i64 S.x, .int .i64 S.z, .slice A S.v.length c] 27)) w.heap.size S.x S.z A S.v.length c := SbAt.blk (T := 27) (by repeat (first | (refine al_at ?_ ?_ <;> first | rfl | (simp only [al_size] <;> omega)) | apply al_old))
  have hp1 := hp.below (Below.mono (show Ext w (w.alloc (.cells #[.int .i64 S.x, .int .i64 S.z, .slice A S.v.length c] 27)) from (by repeat (first | assumption | exact Ext.refl _ | apply Ext.drewN | apply Ext.drew | apply Ext.alloc | (refine Ext.trans ?_ (by assumption)) | (refine Ext.set ?_ (by dsimp only; omega) _)))) hB)
  go_enter Try.func16, Try.ntmps16
  go_wp2_with (go_at_call 62; refine Calls.mono (c_l07Is hbox.p0 hbox.p1 hbox.p2 hp1 h1) ?_; rintro e w1 ⟨rfl, n1, rfl⟩)
  go_ret
  exact ⟨rfl, (by repeat (first | assumption | exact Ext.refl _ | apply Ext.drewN | apply Ext.drew | apply Ext.alloc | (refine Ext.trans ?_ (by assumption)) | (refine Ext.set ?_ (by dsimp only; omega) _)))⟩
set_option maxRecDepth 20000 in
set_option maxHeartbeats 400000 in
theorem c_isStation (z : Int) (w : World) : Calls Try.prog 64 #[.int .i64 z] w fun e w' => e = .returned (.bool (inB z 0 200)) ∧ w' = w := by
  by_cases h2 : 0 ≤ z
  · by_cases h3 : z ≤ 200
    · rw [inB_yes h2 h3]
      go_enter Try.func64, Try.ntmps64
      go_wp2_with (fail)
      go_ret
      exact ⟨rfl, rfl⟩
    · rw [inB_hi (by omega)]
      go_enter Try.func64, Try.ntmps64
      go_wp2_with (fail)
      go_ret
      exact ⟨rfl, rfl⟩
  · rw [inB_lo (by omega)]
    go_enter Try.func64, Try.ntmps64
    go_wp2_with (fail)
    go_ret
    exact ⟨rfl, rfl⟩
set_option maxRecDepth 20000 in
set_option maxHeartbeats 4000000 in
theorem c_impl_ValidFrame {w : World} {B : Nat} {u : Value} {S : Sct} (h : RdT w B u S) (hB : B ≤ w.heap.size) (h1 : S.v.length ≤ 1048576) :
    Calls Try.prog 18 #[u] w fun e w' => e = .returned (.bool (fvF S)) ∧ Ext w w' := by
  obtain ⟨A, c, rfl, hp, _⟩ := h.ex
  have hx1 : Ext w (w.alloc (.cells #[.int .i64 S.x, .int .i64 S.z, .slice A S.v.length c] 27)) := (by repeat (first | assumption | exact Ext.refl _ | apply Ext.drewN | apply Ext.drew | apply Ext.alloc | (refine Ext.trans ?_ (by assumption)) | (refine Ext.set ?_ (by dsimp only; omega) _)))
  have hbox : SbAt (w.alloc (.cells #[.int .i64 S.x, .int .i64 S.z, .slice A S.v.length c] 27)) w.heap.size S.x S.z A S.v.length c := SbAt.blk (T := 27) (by repeat (first | (refine al_at ?_ ?_ <;> first | rfl | (simp only [al_size] <;> omega)) | apply al_old))
  have cK := c_isKeptTrace (c := c) (hp.below (hx1.mono hB)) h1
  have cT := fun (W : World) => c_isStation S.x W
  have cS := fun (W : World) => c_isStart S.z W
  obtain ⟨p0, p1, p2, _⟩ := hbox
  generalize S.v.length = n at *
  unfold fvF
  cases hX : inB S.x 0 200
  · rw [hX] at cT
    rw [Bool.false_and]
    clear cK cS hX
    go_enter Try.func18, Try.ntmps18
    go_wp2_with (go_at_call 64; refine Calls.mono (cT _) ?_; rintro e w1 ⟨rfl, rfl⟩)
    go_ret
    exact ⟨rfl, hx1⟩
  rw [hX] at cT
  rw [Bool.true_and]
  clear hX
  cases hZ : inB S.z 0 100000
  · rw [hZ] at cS
    rw [Bool.false_and]
    clear hZ cK
    go_enter Try.func18, Try.ntmps18
    go_wp2_with (first | (go_at_call 64; refine Calls.mono (cT _) ?_; rintro e w1 ⟨rfl, rfl⟩) | (go_at_call 65; refine Calls.mono (cS _) ?_; rintro e w1 ⟨rfl, rfl⟩))
    go_ret
    exact ⟨rfl, hx1⟩
  rw [hZ] at cS
  rw [Bool.true_and]
  go_enter Try.func18, Try.ntmps18
  go_wp2_with (first | (go_at_call 64; refine Calls.mono (cT _) ?_; rintro e w1 ⟨rfl, rfl⟩) | (go_at_call 65; refine Calls.mono (cS _) ?_; rintro e w1 ⟨rfl, rfl⟩) | (go_at_call 66; refine Calls.mono cK ?_; rintro e w1 ⟨rfl, n1, rfl⟩))
  go_ret
  exact ⟨rfl, (by repeat (first | assumption | exact Ext.refl _ | apply Ext.drewN | apply Ext.drew | apply Ext.alloc | (refine Ext.trans ?_ (by assumption)) | (refine Ext.set ?_ (by dsimp only; omega) _)))⟩
theorem both_ValidFrame {S0 : Sct} (za0 : S0.v.length ≤ 1048576) (_hok0 : S0.Ok) :
    ∃ X, (∀ W : World, ∀ (B0 : Nat) (v0 : Value), RdT W B0 v0 S0 → B0 ≤ W.heap.size → Calls Try.prog 16 #[v0] W fun e w' => e = .returned (.bool X) ∧ Ext W w') ∧
      (∀ W : World, ∀ (B0 : Nat) (v0 : Value), RdT W B0 v0 S0 → B0 ≤ W.heap.size → Calls Try.prog 18 #[v0] W fun e w' => e = .returned (.bool X) ∧ Ext W w') :=
  ⟨fvF S0, fun _ _ _ h0 hB0 => c_spec_ValidFrame h0 hB0 za0, fun _ _ _ h0 hB0 => c_impl_ValidFrame h0 hB0 za0⟩
end Go.Proofs.Ytfmhdnhaaohdjaa
