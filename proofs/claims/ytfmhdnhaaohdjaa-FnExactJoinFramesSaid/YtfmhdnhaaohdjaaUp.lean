/- Contracts: the greatest number of a trace, on both sides. Condition: the list is read. -/
import Derived.Test.YtfmhdnhaaohdjaaUa
import Derived.Test.YtfmhdnhaaohdjaaTn
import Derived.Test.YtfmhdnhaaohdjaaPk
import Derived.Deep.QuietTactic
import Derived.BigQuiet
namespace Go.Proofs.Ytfmhdnhaaohdjaa
open Go.RowKit Ieee

theorem RdF.dr {w w' : World} {B n : Nat} {A : Option Addr} {L : List (Option Nat)} (h : RdF w B A n L) (hd : Dr w w') : RdF w' B A n L := by
  obtain ⟨m, rfl⟩ := hd; exact ⟨h.len, fun k hk => h.at_ k hk⟩
theorem Dr.more {a b : World} (h : Dr a b) (n : Nat) : Dr a (b.drewN n) := by
  obtain ⟨m, rfl⟩ := h; exact ⟨m + n, World.drewN_drewN _ _ _⟩
theorem dr2 (w : World) (a b : Nat) : Dr w ((w.drewN a).drewN b) := ⟨a + b, by simp [World.drewN, Nat.add_assoc]⟩
@[go_sem] theorem run_neg32 {P : Program} (w : World) (k : FloatKind) (b : Nat) : (Op.unary .neg (.float k b)).run P w = .ok (.float k (Op.negFloat k b)) w := rfl
/-- An absolute value's word. -/
def szw (b : Nat) : Nat := if (FloatKind.f32.format.order b 0 == some .lt) = true then Op.negFloat .f32 b else b
theorem szw_yes {b : Nat} (h : (FloatKind.f32.format.order b 0 == some .lt) = true) : szw b = Op.negFloat .f32 b := by unfold szw; rw [if_pos h]
theorem szw_no {b : Nat} (h : (FloatKind.f32.format.order b 0 == some .lt) = false) : szw b = b := by unfold szw; rw [if_neg (by rw [h]; decide)]
theorem szw_fl {b : Nat} {X : Option Nat} (h : Fl .f32 b X) : Fl .f32 (szw b) (fsz X) := by
  have e : (FloatKind.f32.format.order b 0 == some .lt) = flt32 X fz := h.olt fl_fz
  cases hc : flt32 X fz
  · rw [szw_no (e.trans hc)]; unfold fsz; rw [if_neg (by rw [hc]; decide)]; exact h
  · rw [szw_yes (e.trans hc)]; unfold fsz; rw [if_pos hc]; exact fneg32_fl h
def fstr (X Y : Option Nat) : Bool := ford .f64 (fabs64 X) (fabs64 Y) == some .gt
/-- Which of the first numbers is the greatest. -/
def pk (L : List (Option Nat)) : Nat → Option Nat
  | 0 => none
  | k + 1 => if (L.getD k none).isSome = true then (match pk L k with | none => some k | some j => if fstr (L.getD k none) (L.getD j none) = true then some k else some j) else pk L k
theorem pk_nan {L : List (Option Nat)} {k : Nat} (h : (L.getD k none).isSome = false) : pk L (k + 1) = pk L k := by rw [pk, if_neg (by rw [h]; decide)]
theorem pk_first {L : List (Option Nat)} {k : Nat} (h : (L.getD k none).isSome = true) (hp : pk L k = none) : pk L (k + 1) = some k := by rw [pk, if_pos h, hp]
theorem pk_more {L : List (Option Nat)} {k j : Nat} (h : (L.getD k none).isSome = true) (hp : pk L k = some j) (hs : fstr (L.getD k none) (L.getD j none) = true) : pk L (k + 1) = some k := by
  rw [pk, if_pos h, hp]; simp only [if_pos hs]
theorem pk_less {L : List (Option Nat)} {k j : Nat} (h : (L.getD k none).isSome = true) (hp : pk L k = some j) (hs : fstr (L.getD k none) (L.getD j none) = false) : pk L (k + 1) = some j := by
  rw [pk, if_pos h, hp]; simp only [hs]; rfl
theorem pk_lt {L : List (Option Nat)} {j : Nat} : ∀ {k : Nat}, pk L k = some j → j < k ∧ (L.getD j none).isSome = true
  | 0, h => by cases h
  | k + 1, h => by
    cases hs : (L.getD k none).isSome
    · rw [pk_nan hs] at h; have := pk_lt h; exact ⟨by omega, this.2⟩
    · cases hp : pk L k with
      | none => rw [pk_first hs hp] at h; cases h; exact ⟨by omega, hs⟩
      | some i =>
        cases hf : fstr (L.getD k none) (L.getD i none)
        · rw [pk_less hs hp hf] at h; cases h; have := pk_lt hp; exact ⟨by omega, this.2⟩
        · rw [pk_more hs hp hf] at h; cases h; exact ⟨by omega, hs⟩
theorem some_ne {X : Option Nat} (h : X.isSome = true) : X ≠ none := by rintro rfl; cases h
theorem eq_self {b : Nat} {X : Option Nat} (h : Fl .f32 b X) : (FloatKind.f32.format.order b b == some .eq) = X.isSome := by rw [order_self, h.eq]
def pkB (L : List (Option Nat)) (k : Nat) : Int := match pk L k with | none => -1 | some j => (j : Int)
theorem pkB_none {L : List (Option Nat)} {k : Nat} (h : pk L k = none) : pkB L k = -1 := by unfold pkB; rw [h]
theorem pkB_some {L : List (Option Nat)} {k j : Nat} (h : pk L k = some j) : pkB L k = (j : Int) := by unfold pkB; rw [h]

set_option maxRecDepth 20000 in
set_option maxHeartbeats 400000 in
theorem c_l03Size (p : Nat) (w : World) : Calls Try.prog 96 #[.float .f32 p] w fun e w' => e = .returned (.float .f32 (szw p)) ∧ w' = w := by
  cases ho : (FloatKind.f32.format.order p 0 == some .lt)
  · have e := szw_no ho
    go_enter Try.func96, Try.ntmps96
    go_wp2
    go_ret
    exact ⟨by rw [e]; rfl, rfl⟩
  · have e := szw_yes ho
    go_enter Try.func96, Try.ntmps96
    go_wp2
    go_ret
    exact ⟨by rw [e]; rfl, rfl⟩


/-- An index, a number and a success that are returned. -/
def RetP (w : World) (e : Ending) (w' : World) (ok : Bool) (z : Int) (X : Option Nat) : Prop := ∃ q, e = .returned (.tuple #[.int .i64 z, .float .f32 q, .bool ok]) ∧ Fl .f32 q X ∧ ∃ m, w' = w.drewN m
def okP (L : List (Option Nat)) (n : Nat) : Bool := tlen n && (pk L n).isSome
def atP (L : List (Option Nat)) (n : Nat) : Nat := match pk L n with | none => 0 | some j => j
def zP (L : List (Option Nat)) (n : Nat) : Int := if okP L n = true then (atP L n : Int) else 0
def xP (L : List (Option Nat)) (n : Nat) : Option Nat := if okP L n = true then L.getD (atP L n) none else fz
theorem retP_no {w : World} {L : List (Option Nat)} {n m : Nat} (h : okP L n = false) : RetP w (.returned (.tuple #[.int .i64 0, .float .f32 0, .bool false])) (w.drewN m) (okP L n) (zP L n) (xP L n) := by
  unfold zP xP; rw [h, if_neg (by decide), if_neg (by decide)]; exact ⟨0, rfl, fl_fz, m, rfl⟩
theorem retP_yes {w w' : World} {L : List (Option Nat)} {n j q : Nat} (hd : Dr w w') (hV : tlen n = true) (h : pk L n = some j) (hq : Fl .f32 q (L.getD j none)) : RetP w (.returned (.tuple #[.int .i64 (j : Int), .float .f32 q, .bool true])) w' (okP L n) (zP L n) (xP L n) := by
  have e : okP L n = true := by unfold okP; rw [hV, h]; rfl
  unfold zP xP atP; rw [e, if_pos rfl, if_pos rfl, h]; exact ⟨q, rfl, hq, hd⟩
theorem okP_a {L : List (Option Nat)} {n : Nat} (h : tlen n = false) : okP L n = false := by unfold okP; rw [h]; rfl
theorem okP_b {L : List (Option Nat)} {n : Nat} (h : pk L n = none) : okP L n = false := by unfold okP; rw [h]; simp


/-- Where the program is in its search. -/
def PkSt (L : List (Option Nat)) (k : Nat) (i p f : Value) : Prop :=
  (pk L k = none ∧ i = .int .i64 0 ∧ p = .float .f32 0 ∧ f = .bool false) ∨ (∃ j q : Nat, pk L k = some j ∧ i = .int .i64 (j : Int) ∧ p = .float .f32 q ∧ f = .bool true ∧ Fl .f32 q (L.getD j none))


end Go.Proofs.Ytfmhdnhaaohdjaa
