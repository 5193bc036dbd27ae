/- Both sides of a spectrum at one frequency, in the form that the law wants. Condition: the list is read. -/
import Derived.Test.YthgmkipifolbfacSp
namespace Go.Proofs.Ythgmkipifolbfac
open Go.RowKit Ieee

theorem fop_ex {op : BinOp} {k : FloatKind} {x y : Nat} {X Y : Option Nat} (hx : Fl k x X) (hy : Fl k y Y) : ∃ r, Fl k r (fop op k X Y) := by
  rw [← hx.eq, ← hy.eq, fop_fl]
  cases h : floatBits op k x y with
  | none => exact ⟨nanWord k 0, (nanWord_nan k 0).1, (nanWord_nan k 0).2⟩
  | some r =>
    refine ⟨r, floatBits_fl h, ?_⟩
    unfold floatBits at h
    split at h
    · exact k.format.add_lt h
    · exact k.format.sub_lt h
    · exact k.format.mul_lt h
    · exact k.format.div_lt h
    · cases h
theorem wide_ex {x : Nat} {X : Option Nat} (hx : Fl .f32 x X) : ∃ r, Fl .f64 r (fconv .f32 .f64 X) := by
  cases X with
  | none => exact ⟨nanWord .f64 0, (nanWord_nan .f64 0).1, (nanWord_nan .f64 0).2⟩
  | some b =>
    obtain ⟨rfl, hn⟩ := fl_some hx.eq
    refine ⟨FloatKind.f64.encode (FloatKind.f32.decode b), ?_, FloatKind.f64.format.write_lt _⟩
    exact encode_fl hn
theorem back_ex {p : Nat} {T : Option Nat} (fp : Fl .f32 p T) (k : Nat) : ∃ R I, PhCase (fback T k) R I := by
  obtain ⟨a, ha⟩ := wide_ex fp
  obtain ⟨b, hb⟩ := fop_ex (op := .mul) (fl_int64 (k : Int)) ha
  exact ph_case (fneg_fl hb)
theorem back_all {p : Nat} {T : Option Nat} (fp : Fl .f32 p T) : ∃ R I : Nat → Option Nat, ∀ k, PhCase (fback T k) (R k) (I k) := by
  have h : ∀ k : Nat, ∃ q : Option Nat × Option Nat, PhCase (fback T k) q.1 q.2 := fun k => by
    obtain ⟨R, I, h⟩ := back_ex fp k
    exact ⟨(R, I), h⟩
  exact ⟨fun k => (h k).choose.1, fun k => (h k).choose.2, fun k => (h k).choose_spec⟩

theorem both_SpectrumAt {n0 : Nat} {L0 : List (Option Nat)} (_hl0 : L0.length = n0) (hn0 : n0 ≤ 1048576) {p1 : Nat} {P1 : Option Nat} (fp1 : Fl .f32 p1 P1) :
    ∃ ok X Y, (∀ W : World, ∀ (B0 : Nat) (A0 : Option Addr) (c0 : Nat), RdF W B0 A0 n0 L0 → B0 ≤ W.heap.size → Calls Try.prog 18 #[.slice A0 n0 c0, .float .f32 p1] W fun e w' => RetC W e w' ok X Y) ∧
      (∀ W : World, ∀ (B0 : Nat) (A0 : Option Addr) (c0 : Nat), RdF W B0 A0 n0 L0 → B0 ≤ W.heap.size → Calls Try.prog 20 #[.slice A0 n0 c0, .float .f32 p1] W fun e w' => RetC W e w' ok X Y) := by
  obtain ⟨R, I, hcs⟩ := back_all fp1
  exact ⟨_, _, _, fun W _ _ _ h0 _ => c_spec_SpectrumAt (w := W) h0 hn0 fp1 hcs, fun W _ _ _ h0 _ => c_impl_SpectrumAt (w := W) h0 hn0 fp1 hcs⟩
end Go.Proofs.Ythgmkipifolbfac
