/- Contracts: the best speed, on both sides. Condition: the gather is read. -/
import Derived.Test.YtceldjkgddbfaaaZg
import Derived.Test.YtceldjkgddbfaaaYz
import Derived.Deep.QuietTactic
import Derived.BigQuiet
namespace Go.Proofs.Ytceldjkgddbfaaa
open Go.RowKit Ieee

def bsO (ok : Bool) (q : Nat) (Q : List (Option Nat)) : Bool := ok && fhas (fun j => Q.getD j none) q
def bsI (ok : Bool) (q : Nat) (Q : List (Option Nat)) : Int := if bsO ok q Q then (fbest (fun j => Q.getD j none) q : Int) else 0
def bsX (ok : Bool) (q : Nat) (Q : List (Option Nat)) : Option Nat := if bsO ok q Q then Q.getD (fbest (fun j => Q.getD j none) q) none else fz
/-- A place, a number and their success are returned. -/
def RetB (w : World) (e : Ending) (w' : World) (ok : Bool) (q : Nat) (Q : List (Option Nat)) : Prop :=
  ∃ x, e = .returned (.tuple #[.int .i64 (bsI ok q Q), .float .f32 x, .bool (bsO ok q Q)]) ∧ Fl .f32 x (bsX ok q Q) ∧ Ext w w'
theorem retB_no {w w' : World} {ok : Bool} {q : Nat} {Q : List (Option Nat)} (h : bsO ok q Q = false) (hx : Ext w w') : RetB w (.returned (.tuple #[.int .i64 0, .float .f32 0, .bool false])) w' ok q Q :=
  ⟨0, by unfold bsI; rw [h]; rfl, by unfold bsX; rw [h]; exact fl_fz, hx⟩
theorem retB_yes {w w' : World} {ok : Bool} {q x : Nat} {Q : List (Option Nat)} (h : bsO ok q Q = true) (hr : Fl .f32 x (Q.getD (fbest (fun j => Q.getD j none) q) none)) (hx : Ext w w') : RetB w (.returned (.tuple #[.int .i64 (fbest (fun j => Q.getD j none) q : Nat), .float .f32 x, .bool true])) w' ok q Q :=
  ⟨x, by unfold bsI; rw [h]; rfl, by unfold bsX; rw [h]; exact hr, hx⟩
set_option maxRecDepth 20000 in
set_option maxHeartbeats 8000000 in
theorem c_impl_BestSpeed {w : World} {B : Nat} {v : Value} {G : Gat} (h : RdG w B v G) {n c q : Nat} {A : Option Addr} {i r : Int} {ok : Bool} {Q : List (Option Nat)} (hq : q ≤ 1048576) (HSC : ∀ W, Ext w W → Calls Try.prog 43 #[v, .slice A n c, .int .i64 i, .int .i64 r] W fun e w' => RetQ W e w' ok q Q) :
    Calls Try.prog 46 #[v, .slice A n c, .int .i64 i, .int .i64 r] w fun e w' => RetB w e w' ok q Q := by
  obtain ⟨Ap, cp, At, ct, rfl, _, _, _, _⟩ := h.ex
  obtain ⟨W1, hW1⟩ : ∃ W1, W1 = w.alloc (.cells #[.int .i64 G.t, .slice Ap G.p.length cp, .slice At G.r.length ct] 25) := ⟨_, rfl⟩
  have hbx : GbAt W1 w.heap.size G.t Ap G.p.length cp At G.r.length ct := by rw [hW1]; exact GbAt.blk (T := 25) (by repeat (first | (refine al_at ?_ ?_ <;> first | rfl | (simp only [al_size] <;> omega)) | apply al_old))
  have hx1 : Ext w W1 := by rw [hW1]; exact (by repeat (first | assumption | exact Ext.refl _ | apply Ext.drewN | apply Ext.drew | apply Ext.alloc | (refine Ext.trans ?_ (by assumption)) | (refine Ext.set ?_ (by dsimp only; omega) _)))
  obtain ⟨p0, p1, p2, _⟩ := id hbx
  have HS := Lib.hid HSC
  clear HSC h
  cases ok
  · have hf : Hid (bsO false q Q = false) := Lib.hid rfl
    go_enter Try.func46, Try.ntmps46
    go_wp2_with (fail)
    rw [← hW1]
    clear hW1
    go_wp2_with (go_at_call 43; refine Calls.mono (HS.out _ (by repeat (first | assumption | exact Ext.refl _ | apply Ext.drewN | apply Ext.drew | apply Ext.alloc | (refine Ext.trans ?_ (by assumption)) | (refine Ext.set ?_ (by dsimp only; omega) _)))) ?_; rintro e w2 ⟨A2, c2, rfl, ho, hx2⟩)
    go_ret3
    exact retB_no hf.out (hx1.trans hx2)
  cases hO : fhas (fun j => Q.getD j none) q
  · have hf : Hid (bsO true q Q = false) := Lib.hid (by unfold bsO; rw [hO]; rfl)
    go_enter Try.func46, Try.ntmps46
    go_wp2_with (fail)
    rw [← hW1]
    clear hW1
    go_wp2_with (first | (go_at_call 43; refine Calls.mono (HS.out _ (by repeat (first | assumption | exact Ext.refl _ | apply Ext.drewN | apply Ext.drew | apply Ext.alloc | (refine Ext.trans ?_ (by assumption)) | (refine Ext.set ?_ (by dsimp only; omega) _)))) ?_; rintro e w2 ⟨A2, c2, rfl, ho, hx2⟩) | (go_at_call 89; refine Calls.mono (c_greatestOf ho.rd hq) ?_; rw [hO]; rintro e w3 ⟨rfl, n3, rfl⟩))
    go_ret3
    exact retB_no hf.out (Ext.drewN (hx1.trans hx2) n3)
  · have hf : Hid (bsO true q Q = true) := Lib.hid (by unfold bsO; rw [hO]; rfl)
    have hq0 : 0 < q := by
      rcases Nat.eq_zero_or_pos q with h0 | h0
      · subst h0; cases hO
      · exact h0
    have hlt := fbest_lt (fun j => Q.getD j none) q hq0
    obtain ⟨e, he⟩ : ∃ e, fbest (fun j => Q.getD j none) q = e := ⟨_, rfl⟩
    have HE := Lib.hid he
    rw [he] at hlt
    have hlt' : (e : Int) < (q : Int) := by omega
    have HH := Lib.hid hO
    clear hO he
    go_enter Try.func46, Try.ntmps46
    go_wp2_with (fail)
    rw [← hW1]
    clear hW1
    go_wp2_with (first | (go_at_call 43; refine Calls.mono (HS.out _ (by repeat (first | assumption | exact Ext.refl _ | apply Ext.drewN | apply Ext.drew | apply Ext.alloc | (refine Ext.trans ?_ (by assumption)) | (refine Ext.set ?_ (by dsimp only; omega) _)))) ?_; rintro e w2 ⟨A2, c2, rfl, ho, hx2⟩; obtain ⟨b5, o5, t5, rfl, hb5, hc5, ht5⟩ := ho.rd.cell hlt) | (go_at_call 89; refine Calls.mono (c_greatestOf ho.rd hq) ?_; rw [HH.out, HE.out]; rintro e w3 ⟨rfl, n3, rfl⟩))
    go_quiet (fail)
    go_wp2_with (fail)
    go_ret3
    have hres := retB_yes (w := w) (ok := true) (x := t5) hf.out (by rw [HE.out]; exact ht5) (hx1.trans hx2)
    rw [HE.out] at hres
    obtain ⟨x9, q1, q2, q3⟩ := hres
    exact ⟨x9, q1, q2, (by repeat (first | assumption | exact Ext.refl _ | apply Ext.drewN | apply Ext.drew | apply Ext.alloc | (refine Ext.trans ?_ (by assumption)) | (refine Ext.set ?_ (by dsimp only; omega) _)))⟩
set_option linter.unusedSimpArgs false in
set_option maxRecDepth 20000 in
set_option maxHeartbeats 8000000 in
theorem c_spec_BestSpeed {w : World} {B : Nat} {v : Value} {G : Gat} (h : RdG w B v G) {n c q : Nat} {A : Option Addr} {i r : Int} {ok : Bool} {Q : List (Option Nat)} (hq : q ≤ 1048576) (HSC : ∀ W, Ext w W → Calls Try.prog 42 #[v, .slice A n c, .int .i64 i, .int .i64 r] W fun e w' => RetQ W e w' ok q Q) :
    Calls Try.prog 45 #[v, .slice A n c, .int .i64 i, .int .i64 r] w fun e w' => RetB w e w' ok q Q := by
  obtain ⟨Ap, cp, At, ct, rfl, _, _, _, _⟩ := h.ex
  obtain ⟨W1, hW1⟩ : ∃ W1, W1 = w.alloc (.cells #[.int .i64 G.t, .slice Ap G.p.length cp, .slice At G.r.length ct] 25) := ⟨_, rfl⟩
  have hbx : GbAt W1 w.heap.size G.t Ap G.p.length cp At G.r.length ct := by rw [hW1]; exact GbAt.blk (T := 25) (by repeat (first | (refine al_at ?_ ?_ <;> first | rfl | (simp only [al_size] <;> omega)) | apply al_old))
  have hx1 : Ext w W1 := by rw [hW1]; exact (by repeat (first | assumption | exact Ext.refl _ | apply Ext.drewN | apply Ext.drew | apply Ext.alloc | (refine Ext.trans ?_ (by assumption)) | (refine Ext.set ?_ (by dsimp only; omega) _)))
  obtain ⟨p0, p1, p2, _⟩ := id hbx
  have HS := Lib.hid HSC
  clear HSC h
  cases ok
  · have hf : Hid (bsO false q Q = false) := Lib.hid rfl
    go_enter Try.func45, Try.ntmps45
    go_wp2_with (fail)
    rw [← hW1]
    clear hW1
    go_wp2_with (go_at_call 42; refine Calls.mono (HS.out _ (by repeat (first | assumption | exact Ext.refl _ | apply Ext.drewN | apply Ext.drew | apply Ext.alloc | (refine Ext.trans ?_ (by assumption)) | (refine Ext.set ?_ (by dsimp only; omega) _)))) ?_; rintro e w2 ⟨A2, c2, rfl, ho, hx2⟩)
    go_ret3
    exact retB_no hf.out (hx1.trans hx2)
  obtain ⟨F, hF⟩ : ∃ F : Nat → Option Nat, F = fun j => Q.getD j none := ⟨_, rfl⟩
  have HF := Lib.hid hF
  have hFa : ∀ j, Q.getD j none = F j := fun j => by rw [hF]
  have HFA := Lib.hid hFa
  clear hF hFa
  go_enter Try.func45, Try.ntmps45
  go_wp2_with (fail)
  rw [← hW1]
  clear hW1
  go_wp2_with (go_at_call 42; refine Calls.mono (HS.out _ (by repeat (first | assumption | exact Ext.refl _ | apply Ext.drewN | apply Ext.drew | apply Ext.alloc | (refine Ext.trans ?_ (by assumption)) | (refine Ext.set ?_ (by dsimp only; omega) _)))) ?_; rintro e w2 ⟨A2, c2, rfl, ho, hx2⟩)
  have hx02 : Ext w w2 := hx1.trans hx2
  go_loopw [13, 14, 15] (fun bv mv y wr => ∃ (k q2 m : Nat) (bi : Int), k ≤ q ∧ y = .int .i64 (k : Int) ∧ bv = .int .i64 bi ∧ mv = .float .f32 q2 ∧ ((fhas F k = false ∧ bi = -1) ∨ (fhas F k = true ∧ bi = (fbest F k : Int) ∧ Fl .f32 q2 (F (fbest F k)))) ∧ wr = w2.drewN m) (fun _ _ y _ => q - (intOf y).toNat)
  case atStart => exact ⟨0, 0, 0, -1, Nat.zero_le _, rfl, rfl, rfl, .inl ⟨rfl, rfl⟩, rfl⟩
  case round =>
    obtain ⟨k, q2, m, bi, hkq, rfl, rfl, rfl, hst, rfl⟩ := hrel
    have HST := Lib.hid hst
    by_cases hlt : k < q
    · have hlt' : (k : Int) < (q : Int) := by omega
      obtain ⟨b5, o5, t5, rfl, hb5, hc5, ht5⟩ := ho.rd.cell hlt
      rw [HFA.out] at ht5
      have hself := order_self_ne .f32 t5
      rw [ht5.eq] at hself
      cases hX : (F k).isSome
      · have hXn : F k = none := by cases hF : F k with
          | none => rfl
          | some x => rw [hF] at hX; cases hX
        rw [hXn] at hself
        have hs2 : (FloatKind.f32.format.order t5 t5 == some .eq) = false := by
          have hself2 : (!(FloatKind.f32.format.order t5 t5 == some .eq)) = true := hself
          simpa using hself2
        obtain ⟨e1, e2⟩ := fbest_skip hXn
        have E1 := Lib.hid e1
        have E2 := Lib.hid e2
        clear hself e1 e2 hXn hX hst
        go_wp2_with (fail)
        go_quiet (fail)
        go_wp2_with (fail)
        exact ⟨⟨k + 1, q2, _, bi, by omega, by go_num, rfl, rfl, by rw [E1.out, E2.out]; exact HST.out, by first | rfl | (simp only [World.drewN_drewN])⟩, by simp [intOf]; omega⟩
      · have hs2 : (FloatKind.f32.format.order t5 t5 == some .eq) = true := by
          cases hF : F k with
          | none => rw [hF] at hX; cases hX
          | some x =>
            rw [hF] at hself
            have hself2 : (!(FloatKind.f32.format.order t5 t5 == some .eq)) = false := hself
            simpa using hself2
        rcases hst with ⟨hH, rfl⟩ | ⟨hH, rfl, hq2⟩
        · obtain ⟨e1, e2⟩ := fbest_first hH hX
          have E1 := Lib.hid e1
          have E2 := Lib.hid e2
          clear hself e1 e2 hX hH
          go_wp2_with (fail)
          go_quiet (fail)
          go_wp2_with (fail)
          exact ⟨⟨k + 1, t5, _, (k : Int), by omega, by go_num, rfl, rfl, .inr ⟨E2.out, by rw [E1.out], by rw [E1.out]; exact ht5⟩, by first | rfl | (simp only [World.drewN_drewN])⟩, by simp [intOf]; omega⟩
        · obtain ⟨e, he⟩ : ∃ e, fbest F k = e := ⟨_, rfl⟩
          have HE := Lib.hid he
          have hogt := ht5.ogt hq2
          have hge : ¬ ((e : Int) < 0) := by omega
          rw [he] at hogt
          cases hg : fgt32 (F k) (F e)
          · obtain ⟨e1, e2⟩ := fbest_less hH (by rw [he]; exact hg)
            rw [hg] at hogt
            have E1 := Lib.hid e1
            have E2 := Lib.hid e2
            have HQ2 := Lib.hid hq2
            clear hself e1 e2 hX hH hg hq2
            rw [he]
            clear he
            go_wp2_with (fail)
            go_quiet (fail)
            go_wp2_with (fail)
            exact ⟨⟨k + 1, q2, _, (e : Int), by omega, by go_num, rfl, rfl, .inr ⟨E2.out, by rw [E1.out, HE.out], by rw [E1.out]; exact HQ2.out⟩, by first | rfl | (simp only [World.drewN_drewN])⟩, by simp [intOf]; omega⟩
          · obtain ⟨e1, e2⟩ := fbest_more hH hX (by rw [he]; exact hg)
            rw [hg] at hogt
            have E1 := Lib.hid e1
            have E2 := Lib.hid e2
            clear hself e1 e2 hX hH hg hq2
            rw [he]
            clear he
            go_wp2_with (fail)
            go_quiet (fail)
            go_wp2_with (fail)
            exact ⟨⟨k + 1, t5, _, (k : Int), by omega, by go_num, rfl, rfl, .inr ⟨E2.out, by rw [E1.out], by rw [E1.out]; exact ht5⟩, by first | rfl | (simp only [World.drewN_drewN])⟩, by simp [intOf]; omega⟩
    · obtain rfl : k = q := by omega
      rcases hst with ⟨hH, rfl⟩ | ⟨hH, rfl, hq2⟩
      · have hf : Hid (bsO true k Q = false) := Lib.hid (by unfold bsO; rw [← HF.out, hH, Bool.and_false])
        clear hH
        go_wp2_with (fail)
        go_ret3
        exact retB_no hf.out (Ext.drewN hx02 m)
      · have hf : Hid (bsO true k Q = true) := Lib.hid (by unfold bsO; rw [← HF.out, hH]; rfl)
        have hge : ¬ ((fbest F k : Int) < 0) := by omega
        have HQ2 := Lib.hid hq2
        clear hH hq2
        go_wp2_with (fail)
        go_ret3
        have hres := retB_yes (w := w) (w' := w2.drewN m) (ok := true) (x := q2) hf.out (by rw [← HF.out, HFA.out]; exact HQ2.out) (Ext.drewN hx02 m)
        rw [← HF.out] at hres
        exact hres
theorem both_BestSpeed {G0 : Gat} (hs0 : gsz G0 ≤ 1048576) {n1 : Nat} {L1 : List (Option Nat)} (_hl1 : L1.length = n1) (hn1 : n1 ≤ 1048576) {i2 : Int} (_hi2 : -9223372036854775808 ≤ i2) (_hj2 : i2 ≤ 9223372036854775807) {i3 : Int} (_hi3 : -9223372036854775808 ≤ i3) (_hj3 : i3 ≤ 9223372036854775807) :
    ∃ ok iz X, (∀ (W : World) (B0 : Nat) (v0 : Value), RdG W B0 v0 G0 → B0 ≤ W.heap.size → ∀ (B1 : Nat) (A1 : Option Addr) (c1 : Nat), RdF W B1 A1 n1 L1 → B1 ≤ W.heap.size → Calls Try.prog 45 #[v0, .slice A1 n1 c1, .int .i64 i2, .int .i64 i3] W fun e w' => ∃ x, e = .returned (.tuple #[.int .i64 iz, .float .f32 x, .bool ok]) ∧ Fl .f32 x X ∧ Ext W w') ∧
      (∀ (W : World) (B0 : Nat) (v0 : Value), RdG W B0 v0 G0 → B0 ≤ W.heap.size → ∀ (B1 : Nat) (A1 : Option Addr) (c1 : Nat), RdF W B1 A1 n1 L1 → B1 ≤ W.heap.size → Calls Try.prog 46 #[v0, .slice A1 n1 c1, .int .i64 i2, .int .i64 i3] W fun e w' => ∃ x, e = .returned (.tuple #[.int .i64 iz, .float .f32 x, .bool ok]) ∧ Fl .f32 x X ∧ Ext W w') := by
  obtain ⟨ok, Q, q, hq, hS, hI⟩ := both_ScanSpeeds hs0 _hl1 hn1 _hi2 _hj2 _hi3 _hj3
  exact ⟨bsO ok q Q, bsI ok q Q, bsX ok q Q,
    fun W B0 v0 h hB B1 A1 c1 h' hB' => c_spec_BestSpeed (w := W) h hq (fun W2 hW => hS W2 B0 v0 (h.below (hW.mono hB)) (Nat.le_trans hB hW.size) B1 A1 c1 (h'.below (hW.mono hB')) (Nat.le_trans hB' hW.size)),
    fun W B0 v0 h hB B1 A1 c1 h' hB' => c_impl_BestSpeed (w := W) h hq (fun W2 hW => hI W2 B0 v0 (h.below (hW.mono hB)) (Nat.le_trans hB hW.size) B1 A1 c1 (h'.below (hW.mono hB')) (Nat.le_trans hB' hW.size))⟩
end Go.Proofs.Ytceldjkgddbfaaa
