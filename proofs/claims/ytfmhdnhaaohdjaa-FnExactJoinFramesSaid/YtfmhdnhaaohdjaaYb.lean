/- What the laws do with gathers: copied, measured, compared. Condition: the gather is read. -/
import Derived.Test.YtfmhdnhaaohdjaaYo
namespace Go.Proofs.Ytfmhdnhaaohdjaa
open Go.RowKit Ieee

/-- The first k slices of a row are lists of a call's own, each in a block of its own. -/
structure RowsIn (w : World) (base g : Nat) (f : Nat → Nat) (cs : Array Value) (off k : Nat) (R : List (List (Option Nat))) : Prop where
  at_ : ∀ j, j < k → ∃ A' c', cs[off + j]? = some (.slice A' (R.getD j []).length c') ∧ OwL w (f j) (f j + 1) A' (R.getD j []).length (R.getD j []) ∧ (R.getD j []).length ≤ c' ∧ f j ≠ g ∧ base ≤ f j ∧ f j < w.heap.size
  inj : ∀ i j, i < j → j < k → f i ≠ f j
theorem RowsIn.zero (w : World) (base g : Nat) (f : Nat → Nat) (cs : Array Value) (off : Nat) (R : List (List (Option Nat))) : RowsIn w base g f cs off 0 R :=
  ⟨fun _ h => absurd h (Nat.not_lt_zero _), fun _ _ _ h => absurd h (Nat.not_lt_zero _)⟩
theorem RowsIn.ext {w w' : World} {base g : Nat} {f : Nat → Nat} {cs : Array Value} {off k : Nat} {R : List (List (Option Nat))} (h : RowsIn w base g f cs off k R) (hx : Ext w w') : RowsIn w' base g f cs off k R :=
  ⟨fun j hj => by
    obtain ⟨A', c', h1, h2, h3, h4, h5, h6⟩ := h.at_ j hj
    exact ⟨A', c', h1, h2.ext h6 hx, h3, h4, h5, Nat.lt_of_lt_of_le h6 hx.size⟩, h.inj⟩
/-- The row's own block turns. -/
theorem RowsIn.set {w : World} {base g : Nat} {f : Nat → Nat} {cs : Array Value} {off k : Nat} {R : List (List (Option Nat))} (h : RowsIn w base g f cs off k R) (i : Nat) (v : Value) : RowsIn (w.setCell ⟨g, i, none⟩ v) base g f cs off k R :=
  ⟨fun j hj => by
    obtain ⟨A', c', h1, h2, h3, h4, h5, h6⟩ := h.at_ j hj
    exact ⟨A', c', h1, h2.same (fun b h7 h8 => by
      have : b = f j := by omega
      rw [this]; exact Below.heap_setCell w _ v _ h4), h3, h4, h5, by simpa using h6⟩, h.inj⟩
/-- One slice more. -/
theorem RowsIn.push {w : World} {base g b : Nat} {f : Nat → Nat} {cs : Array Value} {off k : Nat} {R : List (List (Option Nat))} (h : RowsIn w base g f cs off k R) (hs : off + k < cs.size) {A' : Option Addr} {c' : Nat}
    (ho : OwL w b (b + 1) A' (R.getD k []).length (R.getD k [])) (hc : (R.getD k []).length ≤ c') (hb : b ≠ g) (hbb : base ≤ b) (hbs : b < w.heap.size) (hn : ∀ j, j < k → f j ≠ b) :
    RowsIn w base g (fun j => if j < k then f j else b) (cs.setIfInBounds (off + k) (.slice A' (R.getD k []).length c')) off (k + 1) R := by
  refine ⟨fun j hj => ?_, fun i j hi hj => ?_⟩
  · by_cases hjk : j = k
    · subst hjk
      simp only [Nat.lt_irrefl, if_false]
      exact ⟨A', c', by simp [hs], ho, hc, hb, hbb, hbs⟩
    · have hlt : j < k := by omega
      simp only [hlt, if_true]
      obtain ⟨A2, c2, h1, h2⟩ := h.at_ j hlt
      exact ⟨A2, c2, by rw [Array.getElem?_setIfInBounds, if_neg (by omega)]; exact h1, h2⟩
  · by_cases hjk : j = k
    · subst hjk
      simp only [hi, if_true, Nat.lt_irrefl, if_false]
      exact hn i hi
    · have hlt : j < k := by omega
      have hlt' : i < k := by omega
      simp only [hlt, hlt', if_true]
      exact h.inj i j hi hlt
theorem RowsIn.own {w : World} {base g n : Nat} {f : Nat → Nat} {cs : Array Value} {off : Nat} {R : List (List (Option Nat))} {t : TypeId} (h : RowsIn w base g f cs off n R) (hl : R.length = n) (hg : w.heap[g]? = some (.cells cs t (0, 0))) (hs : off + n ≤ cs.size) :
    OwS w g f (some ⟨g, off, none⟩) n R :=
  ⟨hl, .inr ⟨off, cs, t, rfl, hg, hs, fun j hj => by
    obtain ⟨A', c', h1, h2, h3, h4, _⟩ := h.at_ j hj
    exact ⟨A', c', h1, h2, h3, h4⟩⟩, h.inj⟩
theorem info_f32s : (Try.prog.info? 22).map (fun i => (i.zero, i.size, i.bytes)) = some (some (.slice none 0 0), 1, 24) := by kernel_rfl

set_option maxRecDepth 20000 in
set_option maxHeartbeats 400000 in
theorem c_szFloat32S {w : World} {n c : Nat} {A : Option Addr} {left : Int} (h0 : 0 ≤ left) (h1 : left ≤ 1048576) (hn : n ≤ 9223372036854775807) :
    Calls Try.prog 61 #[.slice A n c, .int .i64 left] w fun e w' => e = .returned (.int .i64 (if (n : Int) ≤ left then left - n else -1)) ∧ w = w' := by
  by_cases hl : (n : Int) ≤ left
  all_goals
    simp only [hl, if_true, if_false]
    go_enter Try.func61, Try.ntmps61
    go_wp2_with (fail)
    go_ret
    exact ⟨rfl, rfl⟩
def szOf (l t : Nat) : Int := if t ≤ l then ((l - t : Nat) : Int) else -1
theorem szOf_yes {l t : Nat} (h : t ≤ l) : szOf l t = ((l - t : Nat) : Int) := if_pos h
theorem szOf_no {l t : Nat} (h : ¬ t ≤ l) : szOf l t = -1 := if_neg h
theorem szOf_int {n T : Nat} {left : Int} {l2 : Nat} (h : left - (n : Int) = (l2 : Int)) : (if ((n + T : Nat) : Int) ≤ left then left - ((n + T : Nat) : Int) else -1) = szOf l2 T := by
  unfold szOf; split <;> split <;> omega
end Go.Proofs.Ytfmhdnhaaohdjaa
