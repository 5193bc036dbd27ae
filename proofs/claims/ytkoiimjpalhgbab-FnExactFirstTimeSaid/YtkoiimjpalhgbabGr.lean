/- Grounds that are read: layers of four floats, up to which NaN, by index; a law's argument that is a ground, opened. No condition. -/
import Derived.Test.YtkoiimjpalhgbabOpen
import Derived.Lib.SmallJoins
namespace Go.Proofs.Ytkoiimjpalhgbab
open Go.RowKit Go.ChangeShapes Go.WideShapes Go.Deep Ieee

/-- Nothing of the old memory has turned. -/
abbrev Ext (w w' : World) : Prop := Below w.heap.size w w'
theorem Ext.refl (w : World) : Ext w w := Below.refl _ _
theorem Ext.trans {a b c : World} (h : Ext a b) (k : Ext b c) : Ext a c := Below.trans h (Below.mono k h.size)
theorem Ext.drewN {a b : World} (h : Ext a b) (n : Nat) : Ext a (b.drewN n) := h.trans (Dr.below ⟨n, rfl⟩)
theorem Ext.drew {a b : World} (h : Ext a b) : Ext a b.drew := Below.drew h
theorem Ext.alloc {a b : World} (h : Ext a b) (o : Obj) : Ext a (b.alloc o) := Below.alloc h h.size o
theorem Ext.set {a b : World} (h : Ext a b) {p : Addr} (hp : a.heap.size ≤ p.block) (u : Value) : Ext a (b.setCell p u) := Below.setCell h hp u
theorem Ext.dr {a b c : World} (h : Ext a b) (k : Dr b c) : Ext a c := h.trans k.below

/-- A layer's numbers. -/
structure Ly where
  t : Option Nat
  s : Option Nat
  d : Option Nat
  l : Option Nat
instance : Inhabited Ly := ⟨⟨none, none, none, none⟩⟩

/-- The four cells of a layer at block b, place o. -/
structure LyAt (w : World) (b o : Nat) (r0 r1 r2 r3 : Nat) (y : Ly) : Prop where
  c0 : w.cell? ⟨b, o, none⟩ = some (.float .f32 r0)
  c1 : w.cell? ⟨b, o + 1, none⟩ = some (.float .f32 r1)
  c2 : w.cell? ⟨b, o + 2, none⟩ = some (.float .f32 r2)
  c3 : w.cell? ⟨b, o + 3, none⟩ = some (.float .f32 r3)
  f0 : Fl .f32 r0 y.t
  f1 : Fl .f32 r1 y.s
  f2 : Fl .f32 r2 y.d
  f3 : Fl .f32 r3 y.l

/-- The slice of address A and length n holds the layers L. -/
structure RdL (w : World) (A : Option Addr) (n : Nat) (L : List Ly) : Prop where
  len : L.length = n
  at_ : ∀ k, k < n → ∃ b off, A = some ⟨b, off, none⟩ ∧ b < w.heap.size ∧ ∀ j, j < n → ∃ r0 r1 r2 r3, LyAt w b (off + j * 4) r0 r1 r2 r3 (L.getD j default)

theorem RdL.cell {w : World} {n k : Nat} {A : Option Addr} {L : List Ly} (h : RdL w A n L) (hk : k < n) :
    ∃ b off r0 r1 r2 r3, A = some ⟨b, off, none⟩ ∧ b < w.heap.size ∧ LyAt w b (off + k * 4) r0 r1 r2 r3 (L.getD k default) := by
  obtain ⟨b, off, hA, hb, hj⟩ := h.at_ k hk
  obtain ⟨r0, r1, r2, r3, h1⟩ := hj k hk
  exact ⟨b, off, r0, r1, r2, r3, hA, hb, h1⟩

theorem LyAt.keep {w w' : World} {b o r0 r1 r2 r3 : Nat} {y : Ly} (h : LyAt w b o r0 r1 r2 r3 y) (hk : ∀ p : Addr, p.block = b → w'.cell? p = w.cell? p) : LyAt w' b o r0 r1 r2 r3 y :=
  ⟨(hk _ rfl).trans h.c0, (hk _ rfl).trans h.c1, (hk _ rfl).trans h.c2, (hk _ rfl).trans h.c3, h.f0, h.f1, h.f2, h.f3⟩

theorem RdL.ext {w w' : World} {n : Nat} {A : Option Addr} {L : List Ly} (h : RdL w A n L) (hb : Ext w w') : RdL w' A n L :=
  ⟨h.len, fun k hkn => by
    obtain ⟨b, off, hA, hlt, hj⟩ := h.at_ k hkn
    refine ⟨b, off, hA, Nat.lt_of_lt_of_le hlt hb.size, fun j hjn => ?_⟩
    obtain ⟨r0, r1, r2, r3, h1⟩ := hj j hjn
    exact ⟨r0, r1, r2, r3, h1.keep fun p hp => hb.cell (by rw [hp]; exact hlt)⟩⟩

section
variable {H : Type} {enc : TypeId × Value → H} {P : Program} {w : World}

theorem open_layers {fuel : Nat} {t e : TypeId} {v : Value} {x : DataW H × List MemPlace} {f0 f1 f2 f3 : Field} (ht : P.underlying t = some (.slice e)) (he : P.underlying e = some (.struct #[f0, f1, f2, f3])) (ce : P.cellsOf e = 4)
    (ho : f0.offset = 0 ∧ f1.offset = 1 ∧ f2.offset = 2 ∧ f3.offset = 3) (hc : P.cellsOf f0.type = 1 ∧ P.cellsOf f1.type = 1 ∧ P.cellsOf f2.type = 1 ∧ P.cellsOf f3.type = 1)
    (hu : P.underlying f0.type = some (.float .f32) ∧ P.underlying f1.type = some (.float .f32) ∧ P.underlying f2.type = some (.float .f32) ∧ P.underlying f3.type = some (.float .f32))
    (h : DataW.trod enc P w 0 (fun _ => true) true fuel t [v] = some x) (hlt : ∀ q ∈ x.2, q.block < w.heap.size) :
    ∃ A n c L, v = .slice A n c ∧ n ≤ maxLen ∧ RdL w A n L := by
  obtain ⟨o0, o1, o2, o3⟩ := ho
  obtain ⟨k0, k1, k2, k3⟩ := hc
  obtain ⟨u0, u1, u2, u3⟩ := hu
  rcases Go.Deep.open_slice ht h with ⟨hv, _⟩ | ⟨a, len, cap, m, n, D, Pl, hv, _, hl, hm, hmm, hx, hi⟩
  · simp only [List.cons.injEq, and_true] at hv
    subst hv
    exact ⟨none, 0, 0, [], rfl, Nat.zero_le _, rfl, fun k hk => absurd hk (Nat.not_lt_zero _)⟩
  · simp only [List.cons.injEq, and_true] at hv
    subst hv
    simp only [if_true] at hmm
    have each : ∀ i, i < len → ∃ q : Nat × Nat × Nat × Nat, (w.cell? ((a.add (i * 4)).add 0) = some (.float .f32 q.1) ∧ w.cell? ((a.add (i * 4)).add 1) = some (.float .f32 q.2.1) ∧ w.cell? ((a.add (i * 4)).add 2) = some (.float .f32 q.2.2.1) ∧
        w.cell? ((a.add (i * 4)).add 3) = some (.float .f32 q.2.2.2)) ∧ q.1 < 4294967296 ∧ q.2.1 < 4294967296 ∧ q.2.2.1 < 4294967296 ∧ q.2.2.2 < 4294967296 := by
      intro i hil
      obtain ⟨cs', h1, h2⟩ := hi i (by omega)
      rw [ce] at h1
      obtain ⟨_, hlen, hcell⟩ := World.cells?_some h1
      obtain ⟨xs, n', _, _, _, hxl, hf⟩ := DataW.trod_struct he h2
      match cs', hlen, xs, hxl with
      | [v0, v1, v2, v3], _, [y0, y1, y2, y3], _ =>
        have g0 := hf 0 f0 rfl
        have g1 := hf 1 f1 rfl
        have g2 := hf 2 f2 rfl
        have g3 := hf 3 f3 rfl
        simp [o0, o1, o2, o3, k0, k1, k2, k3] at g0 g1 g2 g3
        obtain ⟨b0, rfl, w0⟩ := trod_float_cell u0 g0
        obtain ⟨b1, rfl, w1⟩ := trod_float_cell u1 g1
        obtain ⟨b2, rfl, w2⟩ := trod_float_cell u2 g2
        obtain ⟨b3, rfl, w3⟩ := trod_float_cell u3 g3
        exact ⟨(b0, b1, b2, b3), ⟨hcell 0 (by omega), hcell 1 (by omega), hcell 2 (by omega), hcell 3 (by omega)⟩, wf32 w0, wf32 w1, wf32 w2, wf32 w3⟩
    obtain ⟨q, hq⟩ := Go.Deep.choose_lt each
    refine ⟨some a, len, cap, (List.range len).map fun i => ⟨fl .f32 (q i).1, fl .f32 (q i).2.1, fl .f32 (q i).2.2.1, fl .f32 (q i).2.2.2⟩, rfl, Nat.le_trans hl hm, by simp, fun k hk => ?_⟩
    obtain ⟨b, off, spot⟩ := a
    have hspot : spot = none := by simpa [Addr.add] using World.cell?_spot (hq 0 (by omega)).1.1
    subst hspot
    have hblk : b < w.heap.size := by
      have : MemPlace.cell b (off + 0) ∈ x.2 := by
        rw [hx]
        exact List.mem_append_left _ (MemPlace.mem_row.2 ⟨0, by rw [ce]; omega, rfl⟩)
      exact hlt _ this
    refine ⟨b, off, rfl, hblk, fun j hj => ?_⟩
    obtain ⟨⟨c0, c1, c2, c3⟩, w0, w1, w2, w3⟩ := hq j hj
    rw [add_plain, add_plain] at c0 c1 c2 c3
    refine ⟨_, _, _, _, c0, c1, c2, c3, ?_, ?_, ?_, ?_⟩ <;> simp only [List.getD, List.getElem?_map, List.getElem?_range hj, Option.map_some, Option.getD_some]
    · exact Fl.of32 w0
    · exact Fl.of32 w1
    · exact Fl.of32 w2
    · exact Fl.of32 w3

/-- A GROUND AMONG THE ARGUMENTS. -/
theorem open_ground {b0 : Nat} {r : Reach} {T e : TypeId} {v : Value} {d : DataW H} {ps : List MemPlace} {F0 F1 F2 f0 f1 f2 f3 : Field} (hT : P.underlying T = some (.struct #[F0, F1, F2])) (hone : oneCellFields P #[F0, F1, F2] = true) (hC : P.cellsOf T = 3)
    (ht : P.underlying F0.type = some (.slice e)) (hU : P.underlying F1.type = some (.float .f32) ∧ P.underlying F2.type = some (.float .f32)) (he : P.underlying e = some (.struct #[f0, f1, f2, f3])) (ce : P.cellsOf e = 4)
    (ho : f0.offset = 0 ∧ f1.offset = 1 ∧ f2.offset = 2 ∧ f3.offset = 3) (hc : P.cellsOf f0.type = 1 ∧ P.cellsOf f1.type = 1 ∧ P.cellsOf f2.type = 1 ∧ P.cellsOf f3.type = 1)
    (hu : P.underlying f0.type = some (.float .f32) ∧ P.underlying f1.type = some (.float .f32) ∧ P.underlying f2.type = some (.float .f32) ∧ P.underlying f3.type = some (.float .f32))
    (hval : Value.okWide P w r b0 T v) (hd : DataW.Trod enc P w 0 (fun _ => true) true T v d ps) (hlt : ∀ x ∈ ps, x.block < w.heap.size) :
    ∃ A n c L s d, v = .agg #[.slice A n c, .float .f32 s, .float .f32 d] ∧ n ≤ maxLen ∧ RdL w A n L ∧ s < 4294967296 ∧ d < 4294967296 := by
  obtain ⟨v0, v1, v2, y0, y1, y2, n, rfl, _, rfl, g0, g1, g2⟩ := Go.Joins.open_agg3 hT hone hC hval hd
  obtain ⟨A, m, c, L, rfl, hm, hL⟩ := open_layers ht he ce ho hc hu g0 (fun q hq => hlt q (by simp [hq]))
  obtain ⟨b1, rfl, w1⟩ := trod_float_cell hU.1 g1
  obtain ⟨b2, rfl, w2⟩ := trod_float_cell hU.2 g2
  exact ⟨A, m, c, L, b1, b2, rfl, hm, hL, wf32 w1, wf32 w2⟩
end
end Go.Proofs.Ytkoiimjpalhgbab
