/- Sections that are read and sections of a call's own: two numbers and a list. No condition. -/
import Derived.Test.YtfmhdnhaaohdjaaYa
namespace Go.Proofs.Ytfmhdnhaaohdjaa
open Go.RowKit Go.ChangeShapes Go.WideShapes Go.Deep Ieee
set_option linter.unusedVariables false
set_option linter.unusedSimpArgs false

/-- A section's numbers: wide, deep, values. -/
structure Sct where
  x : Int
  z : Int
  v : List (Option Nat)
/-- Its sizes are 64-bit numbers. -/
structure Sct.Ok (S : Sct) : Prop where
  x0 : -9223372036854775808 ≤ S.x
  x1 : S.x ≤ 9223372036854775807
  z0 : -9223372036854775808 ≤ S.z
  z1 : S.z ≤ 9223372036854775807
/-- A section that is read. -/
structure RdT (w : World) (B : Nat) (u : Value) (S : Sct) : Prop where
  ex : ∃ A c, u = .agg #[.int .i64 S.x, .int .i64 S.z, .slice A S.v.length c] ∧ RdF w B A S.v.length S.v ∧ S.v.length ≤ c
theorem RdT.below {w w' : World} {B : Nat} {u : Value} {S : Sct} (h : RdT w B u S) (hb : Below B w w') : RdT w' B u S := by
  obtain ⟨A, c, h1, h2, h3⟩ := h.ex
  exact ⟨A, c, h1, h2.below hb, h3⟩
theorem RdT.more {w : World} {B B' : Nat} {u : Value} {S : Sct} (h : RdT w B u S) (hB : B ≤ B') : RdT w B' u S := by
  obtain ⟨A, c, h1, h2, h3⟩ := h.ex
  exact ⟨A, c, h1, h2.more hB, h3⟩
/-- A section in a box of its own. -/
structure SbAt (w : World) (b : Nat) (x z : Int) (A : Option Addr) (n c : Nat) : Prop where
  p0 : w.cell? ⟨b, 0, none⟩ = some (.int .i64 x)
  p1 : w.cell? ⟨b, 1, none⟩ = some (.int .i64 z)
  p2 : w.cell? ⟨b, 2, none⟩ = some (.slice A n c)
  lt : b < w.heap.size
theorem SbAt.blk {w : World} {b : Nat} {T : TypeId} {x z : Int} {A : Option Addr} {n c : Nat} (hg : w.heap[b]? = some (.cells #[.int .i64 x, .int .i64 z, .slice A n c] T (0, 0))) : SbAt w b x z A n c :=
  ⟨by rw [cell_of_row w b _ _ _ (0, 0) hg]; rfl, by rw [cell_of_row w b _ _ _ (0, 0) hg]; rfl, by rw [cell_of_row w b _ _ _ (0, 0) hg]; rfl, blk_lt hg⟩
theorem SbAt.ext {w w' : World} {b : Nat} {x z : Int} {A : Option Addr} {n c : Nat} (h : SbAt w b x z A n c) (hx : Ext w w') : SbAt w' b x z A n c :=
  ⟨(hx.cell h.lt).trans h.p0, (hx.cell h.lt).trans h.p1, (hx.cell h.lt).trans h.p2, Nat.lt_of_lt_of_le h.lt hx.size⟩
theorem SbAt.kb {w w' : World} {lo hi b : Nat} {x z : Int} {A : Option Addr} {n c : Nat} (h : SbAt w b x z A n c) (hk : Kb lo hi w w') (hb : b < lo ∨ hi ≤ b) : SbAt w' b x z A n c := by
  have hblk : w'.heap[b]? = w.heap[b]? := by
    rcases hb with h1 | h1
    · exact hk.below.block b h1
    · exact hk.above b h1 h.lt
  have hc : ∀ i, w'.cell? ⟨b, i, none⟩ = w.cell? ⟨b, i, none⟩ := fun i => World.cell?_of_block hblk
  exact ⟨(hc 0).trans h.p0, (hc 1).trans h.p1, (hc 2).trans h.p2, Nat.lt_of_lt_of_le h.lt hk.below.size⟩
/-- A section of a call's own, in blocks from lo to hi. -/
structure OwT (w : World) (lo hi : Nat) (u : Value) (S : Sct) : Prop where
  ex : ∃ A c, u = .agg #[.int .i64 S.x, .int .i64 S.z, .slice A S.v.length c] ∧ OwL w lo hi A S.v.length S.v ∧ S.v.length ≤ c
theorem OwT.rd {w : World} {lo hi : Nat} {u : Value} {S : Sct} (h : OwT w lo hi u S) : RdT w hi u S := by
  obtain ⟨A, c, h1, h2, h3⟩ := h.ex
  exact ⟨A, c, h1, h2.rd, h3⟩
theorem OwT.same {w w' : World} {lo hi : Nat} {u : Value} {S : Sct} (h : OwT w lo hi u S) (hs : Same lo hi w w') : OwT w' lo hi u S := by
  obtain ⟨A, c, h1, h2, h3⟩ := h.ex
  exact ⟨A, c, h1, h2.same hs, h3⟩
theorem OwT.ext {w w' : World} {lo hi : Nat} {u : Value} {S : Sct} (h : OwT w lo hi u S) (hh : hi ≤ w.heap.size) (hx : Ext w w') : OwT w' lo hi u S := h.same (hx.same hh)
theorem OwT.more {w : World} {lo hi lo' hi' : Nat} {u : Value} {S : Sct} (h : OwT w lo hi u S) (h1 : lo' ≤ lo) (h2 : hi ≤ hi') : OwT w lo' hi' u S := by
  obtain ⟨A, c, e1, e2, e3⟩ := h.ex
  exact ⟨A, c, e1, e2.more h1 h2, e3⟩
theorem OwT.setOther {w : World} {lo hi : Nat} {u : Value} {S : Sct} (h : OwT w lo hi u S) {p : Addr} (hp : p.block < lo ∨ hi ≤ p.block) (v : Value) : OwT (w.setCell p v) lo hi u S :=
  h.same (fun k h1 h2 => Below.heap_setCell w p v k (by omega))
theorem OwT.keepF {w w' : World} {lo hi : Nat} {u : Value} {S : Sct} (h : OwT w lo hi u S) (hk : ∀ (g : Nat) (cs : Array Value), w.heap[g]? = some (Obj.cells cs 83 (0, 0)) → w'.heap[g]? = w.heap[g]?) : OwT w' lo hi u S := by
  obtain ⟨A, c, h1, h2, h3⟩ := h.ex
  refine ⟨A, c, h1, ⟨h2.len, ?_⟩, h3⟩
  rcases h2.at_ with h0 | ⟨g, off, cs, hA, h4, h5, hg, hr⟩
  · exact .inl h0
  · exact .inr ⟨g, off, cs, hA, h4, h5, (hk g cs hg).trans hg, hr⟩
theorem OwT.val {w : World} {lo hi : Nat} {u : Value} {S : Sct} (h : OwT w lo hi u S) : ∃ A c, u = .agg #[.int .i64 S.x, .int .i64 S.z, .slice A S.v.length c] := by
  obtain ⟨A, c, h1, _⟩ := h.ex
  exact ⟨A, c, h1⟩
theorem OwT.of {w : World} {lo hi n c : Nat} {A : Option Addr} {L : List (Option Nat)} {x z : Int} (h : OwL w lo hi A n L) (hc : n ≤ c) : OwT w lo hi (.agg #[.int .i64 x, .int .i64 z, .slice A n c]) ⟨x, z, L⟩ := by
  obtain rfl := h.len
  exact ⟨A, c, rfl, h, hc⟩
/-- The section that is returned where none is. -/
def noT : Sct := ⟨0, 0, []⟩
def outT (ok : Bool) (S : Sct) : Sct := if ok then S else noT
theorem OwT.no (w : World) (lo hi : Nat) (A : Option Addr) (c : Nat) : OwT w lo hi (.agg #[.int .i64 0, .int .i64 0, .slice A 0 c]) noT :=
  ⟨A, c, rfl, OwL.nil _ _ _ _, Nat.zero_le _⟩
theorem outT_len {ok : Bool} {S : Sct} (h : S.v.length ≤ 1048576) : (outT ok S).v.length ≤ 1048576 := by
  cases ok
  · exact Nat.zero_le _
  · exact h
/-- A section of a call's own is returned, with its success. -/
def RetT (w : World) (e : Ending) (w' : World) (ok : Bool) (S : Sct) : Prop :=
  ∃ u, e = .returned (.tuple #[u, .bool ok]) ∧ OwT w' w.heap.size w'.heap.size u S ∧ Ext w w'
theorem retT_no {w w' : World} {S : Sct} {f : Bool} (hf : f = false) (hx : Ext w w') : RetT w (.returned (.tuple #[.agg #[.int .i64 0, .int .i64 0, .slice none 0 0], .bool false])) w' f (outT f S) := by
  subst hf; exact ⟨_, rfl, OwT.no _ _ _ _ _, hx⟩
/-- Marks. -/
def markT (k : Nat) (S : Sct) : Sct := ⟨S.x, S.z, marks k S.v.length⟩
theorem RdF.of_n {w : World} {B n : Nat} {A : Option Addr} {L : List (Option Nat)} (h : RdF w B A n L) : RdF w B A L.length L := by rw [h.len]; exact h
end Go.Proofs.Ytfmhdnhaaohdjaa
