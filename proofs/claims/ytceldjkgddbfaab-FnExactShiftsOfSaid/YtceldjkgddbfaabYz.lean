/- Contract: the greatest number of a list, the program. Condition: the list is read. -/
import Derived.Test.YtceldjkgddbfaabTx
import Derived.Test.YtceldjkgddbfaabTz
import Derived.WalkMore
import Derived.Deep.LoopGhost
namespace Go.Proofs.Ytceldjkgddbfaab
open Go.RowKit Ieee

theorem datum_total {d e : Datum} (h : d.isNaN = false) (h' : e.isNaN = false) : d.order e ≠ none := by
  cases d <;> cases e <;> simp_all [Datum.order, Datum.isNaN]
theorem order_total {r q : Nat} {X Y : Option Nat} (h : Fl .f32 r X) (h' : Fl .f32 q Y) (hx : X.isSome = true) (hy : Y.isSome = true) : FloatKind.f32.format.order r q ≠ none := by
  have e1 := h.eq
  have e2 := h'.eq
  refine datum_total ?_ ?_
  · cases hn : (FloatKind.f32.format.read r).isNaN
    · rfl
    · rw [← e1] at hx
      unfold fl FloatKind.decode at hx
      rw [if_pos hn] at hx; cases hx
  · cases hn : (FloatKind.f32.format.read q).isNaN
    · rfl
    · rw [← e2] at hy
      unfold fl FloatKind.decode at hy
      rw [if_pos hn] at hy; cases hy
/-- The index of the greatest of the first k, the first one of several; 0 where there is none. -/
def fbest (F : Nat → Option Nat) : Nat → Nat
  | 0 => 0
  | k + 1 => if fgt32 (F k) (F (fbest F k)) || ((F k).isSome && (F (fbest F k)).isNone) then k else fbest F k
def fhas (F : Nat → Option Nat) (k : Nat) : Bool := decide (0 < k) && (F (fbest F k)).isSome
theorem fbest_lt (F : Nat → Option Nat) (k : Nat) (h : 0 < k) : fbest F k < k := by
  induction k with
  | zero => omega
  | succ k ih =>
    unfold fbest
    split
    · omega
    · rcases Nat.eq_zero_or_pos k with h0 | h0
      · subst h0; exact Nat.lt_succ_self 0
      · have := ih h0; omega
theorem fgt_none {Y : Option Nat} : fgt32 none Y = false := rfl
theorem fbest_skip {F : Nat → Option Nat} {k : Nat} (h : F k = none) : fbest F (k + 1) = fbest F k ∧ fhas F (k + 1) = fhas F k := by
  have e : fbest F (k + 1) = fbest F k := by
    show (if _ then _ else _) = _
    rw [h, fgt_none]; rfl
  refine ⟨e, ?_⟩
  unfold fhas
  rw [e]
  rcases Nat.eq_zero_or_pos k with h0 | h0
  · subst h0; rw [show fbest F 0 = 0 from rfl, h]; rfl
  · rw [decide_eq_true (by omega : 0 < k + 1), decide_eq_true h0]
theorem fbest_less {F : Nat → Option Nat} {k : Nat} (h : fhas F k = true) (hg : fgt32 (F k) (F (fbest F k)) = false) : fbest F (k + 1) = fbest F k ∧ fhas F (k + 1) = true := by
  have hs : (F (fbest F k)).isSome = true := by unfold fhas at h; rw [Bool.and_eq_true] at h; exact h.2
  have e : fbest F (k + 1) = fbest F k := by
    show (if _ then _ else _) = _
    rw [hg, show (F (fbest F k)).isNone = false by rw [← Option.not_isSome, hs]; rfl, Bool.and_false]; rfl
  refine ⟨e, ?_⟩
  unfold fhas
  rw [e, hs, decide_eq_true (by omega : 0 < k + 1)]; rfl
theorem fbest_more {F : Nat → Option Nat} {k : Nat} (_h : fhas F k = true) (hx : (F k).isSome = true) (hg : fgt32 (F k) (F (fbest F k)) = true) : fbest F (k + 1) = k ∧ fhas F (k + 1) = true := by
  have e : fbest F (k + 1) = k := by
    show (if _ then _ else _) = _
    rw [hg]; rfl
  refine ⟨e, ?_⟩
  unfold fhas
  rw [e, hx, decide_eq_true (by omega : 0 < k + 1)]; rfl
theorem fbest_first {F : Nat → Option Nat} {k : Nat} (h : fhas F k = false) (hx : (F k).isSome = true) : fbest F (k + 1) = k ∧ fhas F (k + 1) = true := by
  have e : fbest F (k + 1) = k := by
    rcases Nat.eq_zero_or_pos k with h0 | h0
    · subst h0
      show (if _ then _ else _) = _
      split <;> rfl
    · unfold fhas at h
      rw [decide_eq_true h0, Bool.true_and] at h
      show (if _ then _ else _) = _
      rw [hx, show (F (fbest F k)).isNone = true by rw [← Option.not_isSome, h]; rfl, Bool.and_self, Bool.or_true]; rfl
  refine ⟨e, ?_⟩
  unfold fhas
  rw [e, hx, decide_eq_true (by omega : 0 < k + 1)]; rfl
set_option maxRecDepth 20000 in
set_option maxHeartbeats 8000000 in
theorem c_greatestOf {w : World} {B n c : Nat} {A : Option Addr} {L : List (Option Nat)} (h : RdF w B A n L) (hn : n ≤ 1048576) :
    Calls Try.prog 75 #[.slice A n c] w fun e w' => e = .returned (.tuple #[.int .i64 (fbest (fun j => L.getD j none) n : Nat), .bool (fhas (fun j => L.getD j none) n)]) ∧ Dr w w' := by
  obtain ⟨F, hF⟩ : ∃ F : Nat → Option Nat, F = fun j => L.getD j none := ⟨_, rfl⟩
  rw [← hF]
  have hFa : ∀ j, L.getD j none = F j := fun j => by rw [hF]
  have HFA := Lib.hid hFa
  clear hF hFa
  go_enter Try.func75, Try.ntmps75
  go_wp2_with (fail)
  go_step3
  go_wp2_with (fail)
  go_step3
  go_wp2_with (fail)
  go_loopg [4, 5, 10] n (fun s a0 fd i wr => ∃ k : Nat, k + s = n ∧ i = .int .i64 k ∧ a0 = .int .i64 (fbest F k : Nat) ∧ fd = .bool (fhas F k) ∧ Dr w wr)
  case atStart => exact ⟨0, by omega, rfl, rfl, rfl, 0, rfl⟩
  case round =>
    obtain ⟨k, hks, rfl, rfl, rfl, m, rfl⟩ := hrel
    cases gk with
    | zero =>
      obtain rfl : k = n := by omega
      go_wp2_with (fail)
      (try rw [Exit.noGoto_ret])
      go_ret2
      exact ⟨rfl, m, rfl⟩
    | succ s =>
      have hlt : k < n := by omega
      have hlt' : (k : Int) < (n : Int) := by omega
      obtain ⟨b, off, q, rfl, hb, hc, hq⟩ := h.cell hlt
      rw [HFA.out] at hq
      have hself := order_self_ne .f32 q
      rw [hq.eq] at hself
      cases hX : (F k).isSome
      · have hXn : F k = none := by cases hF : F k with
          | none => rfl
          | some x => rw [hF] at hX; cases hX
        rw [hXn] at hself
        have hs2 : (FloatKind.f32.format.order q q != some .eq) = true := hself
        obtain ⟨e1, e2⟩ := fbest_skip hXn
        have E1 := Lib.hid e1
        have E2 := Lib.hid e2
        clear hself e1 e2 hXn hX hq
        go_wp2_with (fail)
        go_roundg s
        case measure => omega
        case rel => exact ⟨k + 1, by omega, by go_num, by rw [E1.out], by rw [E2.out], _, rfl⟩
      · have hs2 : (FloatKind.f32.format.order q q != some .eq) = false := by
          rw [hself]; cases hF : F k with
          | none => rw [hF] at hX; cases hX
          | some x => rfl
        cases hH : fhas F k
        · obtain ⟨e1, e2⟩ := fbest_first hH hX
          have E1 := Lib.hid e1
          have E2 := Lib.hid e2
          clear hself e1 e2 hX hH hq
          go_wp2_with (fail)
          go_roundg s
          case measure => omega
          case rel => exact ⟨k + 1, by omega, by go_num, by rw [E1.out], by rw [E2.out], _, rfl⟩
        · have hk0 : 0 < k := by
            rcases Nat.eq_zero_or_pos k with h0 | h0
            · subst h0; cases hH
            · exact h0
          have hbl := fbest_lt F k hk0
          obtain ⟨e, he⟩ : ∃ e, fbest F k = e := ⟨_, rfl⟩
          have hen : e < n := by omega
          have hen' : (e : Int) < (n : Int) := by omega
          obtain ⟨b2, off2, q2, hA2, hb2, hc2, hq2⟩ := h.cell hen
          simp only [Option.some.injEq, Addr.mk.injEq, and_true] at hA2
          obtain ⟨rfl, rfl⟩ := hA2
          rw [HFA.out] at hq2
          have hY : (F e).isSome = true := by unfold fhas at hH; rw [Bool.and_eq_true, he] at hH; exact hH.2
          have htot := order_total hq hq2 hX hY
          have hogt := hq.ogt hq2
          cases hg : fgt32 (F k) (F e)
          · obtain ⟨e1, e2⟩ := fbest_less hH (by rw [he]; exact hg)
            rw [he] at e1
            rw [hg] at hogt
            have hle : (FloatKind.f32.format.order q q2 == some .lt || FloatKind.f32.format.order q q2 == some .eq) = true := by
              cases ho : FloatKind.f32.format.order q q2 with
              | none => exact absurd ho htot
              | some o => cases o with
                | lt => rfl
                | eq => rfl
                | gt => rw [ho] at hogt; cases hogt
            have E1 := Lib.hid e1
            have E2 := Lib.hid e2
            clear hself e1 e2 hX hH hq hY htot hogt hg
            rw [he]
            clear he hbl
            go_wp2_with (fail)
            go_roundg s
            case measure => omega
            case rel => exact ⟨k + 1, by omega, by go_num, by rw [E1.out], by rw [E2.out], _, rfl⟩
          · obtain ⟨e1, e2⟩ := fbest_more hH hX (by rw [he]; exact hg)
            rw [hg] at hogt
            have hle : (FloatKind.f32.format.order q q2 == some .lt || FloatKind.f32.format.order q q2 == some .eq) = false := by
              cases ho : FloatKind.f32.format.order q q2 with
              | none => exact absurd ho htot
              | some o => cases o with
                | lt => rw [ho] at hogt; cases hogt
                | eq => rw [ho] at hogt; cases hogt
                | gt => rfl
            have E1 := Lib.hid e1
            have E2 := Lib.hid e2
            clear hself e1 e2 hX hH hq hY htot hogt hg
            rw [he]
            clear he hbl
            go_wp2_with (fail)
            go_roundg s
            case measure => omega
            case rel => exact ⟨k + 1, by omega, by go_num, by rw [E1.out], by rw [E2.out], _, rfl⟩
end Go.Proofs.Ytceldjkgddbfaab
