/- Contracts: shapes of traces, the reference. Condition: the list is read. -/
import Derived.Test.YthgooahifbdaaaaFe
import Derived.Test.YthgooahifbdaaaaLo3
namespace Go.Proofs.Ythgooahifbdaaaa
open Go.RowKit Ieee

theorem own_one {w : World} {base r : Nat} (hb : base ≤ w.heap.size) : (w.alloc (.cells #[.float .f32 r] 28)).ownsRow base 28 1 (.slice (some ⟨w.heap.size, 0, none⟩) 1 1) 1 [.float .f32 r] :=
  ⟨rfl, .inr ⟨w.heap.size, 1, #[.float .f32 r], rfl, hb, heap_alloc_new w _, Nat.le_refl _, by unfold maxLen; omega, rfl, rfl⟩⟩
theorem fdiff_0 {L : List (Option Nat)} {r : Nat} (h : Fl .f32 r (L.getD 0 none)) : fdiff L 0 = L.getD 0 none := by
  unfold fdiff; rw [fatI_out (.inl (by omega))]; exact sub_fz h
theorem fdiff_s {L : List (Option Nat)} {m : Nat} (h : m < L.length) : fdiff L (m + 1) = fop .sub .f32 (L.getD (m + 1) none) (L.getD m none) := by
  unfold fdiff; rw [fatI_in (d := m) (by omega) h]

theorem fintg_s {L : List (Option Nat)} {k : Nat} (h : k < L.length) : fintg L k = fop .add .f32 (fsum .f32 (L.take k)) (L.getD k none) := by unfold fintg; exact fsum_succ .f32 L k h

end Go.Proofs.Ythgooahifbdaaaa
