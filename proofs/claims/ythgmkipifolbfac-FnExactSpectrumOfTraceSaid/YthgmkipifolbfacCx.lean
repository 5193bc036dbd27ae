/- Complex numbers: sums, products and conversions, each part up to which NaN. No condition but that what is made narrow is not too great. -/
import Derived.Test.YthgmkipifolbfacConv
import Derived.Laws.ComplexArith
namespace Go.Proofs.Ythgmkipifolbfac
open Go.RowKit Ieee

theorem drewN_drewN (w : World) (a b : Nat) : (w.drewN a).drewN b = w.drewN (a + b) := by simp [World.drewN, Nat.add_assoc]

section
variable {P : Program} (w : World)
theorem run_farith (op : BinOp) (hop : isArith op = true) (k : FloatKind) (x y : Nat) :
    ∃ r n, (Op.floatArith op k x y).run P w = .ok (.float k r) (w.drewN n) ∧ fl k r = fop op k (fl k x) (fl k y) ∧ r < 2 ^ k.format.width := by
  rw [fop_fl]
  cases h : floatBits op k x y with
  | some r =>
    refine ⟨r, 0, run_floatArith w h, floatBits_fl h, ?_⟩
    unfold floatBits at h
    split at h
    · exact k.format.add_lt h
    · exact k.format.sub_lt h
    · exact k.format.mul_lt h
    · exact k.format.div_lt h
    · cases h
  | none =>
    refine ⟨nanWord k (w.tape w.drawn (.nanBits k x y)), 1, ?_, (nanWord_nan k _).1, (nanWord_nan k _).2⟩
    rw [← cut_nanBits k x y]
    unfold floatBits at h
    cases op <;> simp [isArith] at hop <;> simp only at h <;> simp [Op.floatArith, h] <;> rfl
theorem run_carith_any (op : BinOp) (hop : isArith op = true) (k : FloatKind) (x y : Nat) :
    ∃ r n, (Op.Complex.arith op k x y).run P w = .ok r (w.drewN n) ∧ fl k r = fop op k (fl k x) (fl k y) ∧ r < 2 ^ k.format.width := by
  obtain ⟨r, n, h1, h2, h3⟩ := run_farith (P := P) w op hop k x y
  exact ⟨r, n, by simp [Op.Complex.arith, h1], h2, h3⟩
theorem run_csum (op : BinOp) (hop : op = .add ∨ op = .sub) (t : TypeId) (k : FloatKind) {a b c d : Nat} {X Y Z W : Option Nat} (ha : Fl k a X) (hb : Fl k b Y) (hc : Fl k c Z) (hd : Fl k d W) :
    ∃ re im n, (binOp op t (.complex k a b) (.complex k c d)).run P w = .ok (.complex k re im) (w.drewN n) ∧ Fl k re (fop op k X Z) ∧ Fl k im (fop op k Y W) := by
  have hop' : isArith op = true := by rcases hop with rfl | rfl <;> rfl
  obtain ⟨x, n, h1, h2, h3⟩ := run_carith_any (P := P) w op hop' k a c
  obtain ⟨y, m, k1, k2, k3⟩ := run_carith_any (P := P) (w.drewN n) op hop' k b d
  refine ⟨x, y, n + m, ?_, ⟨by rw [h2, ha.eq, hc.eq], h3⟩, ⟨by rw [k2, hb.eq, hd.eq], k3⟩⟩
  rw [drewN_drewN] at k1
  rcases hop with rfl | rfl <;> simp [binOp, Op.complexOp, h1, k1]
/-- The parts of a product in 64 bits. -/
def fcre (X Y Z W : Option Nat) : Option Nat := fop .sub .f64 (fop .mul .f64 X Z) (fop .mul .f64 Y W)
def fcim (X Y Z W : Option Nat) : Option Nat := fop .add .f64 (fop .mul .f64 X W) (fop .mul .f64 Y Z)
theorem run_cmul (t : TypeId) {a b c d : Nat} {X Y Z W : Option Nat} (ha : Fl .f64 a X) (hb : Fl .f64 b Y) (hc : Fl .f64 c Z) (hd : Fl .f64 d W) :
    ∃ re im n, (binOp .mul t (.complex .f64 a b) (.complex .f64 c d)).run P w = .ok (.complex .f64 re im) (w.drewN n) ∧ Fl .f64 re (fcre X Y Z W) ∧ Fl .f64 im (fcim X Y Z W) := by
  obtain ⟨r1, n1, h1, e1, l1⟩ := run_carith_any (P := P) w .mul rfl .f64 a c
  obtain ⟨r2, n2, h2, e2, l2⟩ := run_carith_any (P := P) (w.drewN n1) .mul rfl .f64 b d
  obtain ⟨r3, n3, h3, e3, l3⟩ := run_carith_any (P := P) ((w.drewN n1).drewN n2) .sub rfl .f64 r1 r2
  obtain ⟨r4, n4, h4, e4, l4⟩ := run_carith_any (P := P) (((w.drewN n1).drewN n2).drewN n3) .mul rfl .f64 a d
  obtain ⟨r5, n5, h5, e5, l5⟩ := run_carith_any (P := P) ((((w.drewN n1).drewN n2).drewN n3).drewN n4) .mul rfl .f64 b c
  obtain ⟨r6, n6, h6, e6, l6⟩ := run_carith_any (P := P) (((((w.drewN n1).drewN n2).drewN n3).drewN n4).drewN n5) .add rfl .f64 r4 r5
  refine ⟨r3, r6, n1 + n2 + n3 + n4 + n5 + n6, ?_, ⟨by rw [e3, e1, e2, ha.eq, hb.eq, hc.eq, hd.eq]; rfl, l3⟩, ⟨by rw [e6, e4, e5, ha.eq, hb.eq, hc.eq, hd.eq]; rfl, l6⟩⟩
  simp only [drewN_drewN] at h2 h3 h4 h5 h6
  simp [binOp, Op.complexOp, Op.Complex.conv, Op.Complex.product, Op.Complex.mul, Op.Complex.sub, Op.Complex.add, h1, h2, h3, h4, h5, h6]
theorem run_ftf (s k : FloatKind) (b : Nat) (hb : b < 2 ^ s.format.width) (hf : Fits s k (fl s b)) :
    ∃ r n, (Conv.floatToFloat s b k).run P w = .ok (.float k r) (w.drewN n) ∧ fl k r = fconv s k (fl s b) ∧ r < 2 ^ k.format.width := by
  by_cases hk : s = k
  · subst hk
    refine ⟨b, 0, by simp [Conv.floatToFloat]; rfl, by simp [fconv], hb⟩
  · unfold fconv; rw [if_neg hk]
    cases hd' : s.decode b with
    | nan sg t =>
      have hn : fl s b = none := by unfold fl; rw [hd']; rfl
      rw [hn]
      refine ⟨nanWord k (w.tape w.drawn (.nanConv k b)), 1, ?_, (nanWord_nan k _).1, (nanWord_nan k _).2⟩
      rw [← cut_nanConv k b]
      simp [Conv.floatToFloat, hk, hd'] <;> rfl
    | infinity sg =>
      have hn : fl s b = some b := by unfold fl; rw [hd']; rfl
      rw [hn]
      refine ⟨k.encode (.infinity sg), 0, by simp [Conv.floatToFloat, hk, hd']; rfl, ?_, k.format.write_lt _⟩
      simp only [Option.map_some, hd']
      exact encode_fl rfl
    | number sg m e =>
      have hn : fl s b = some b := by unfold fl; rw [hd']; rfl
      rw [hn] at hf ⊢
      have hni : (k.decode (k.encode (.number sg m e))).isInfinity = false := by
        rcases hf with hf | hf
        · exact absurd hf hk
        · rcases hf b rfl with h | h
          · rw [hd'] at h; cases h
          · rw [hd'] at h; exact h
      refine ⟨k.encode (.number sg m e), 0, by simp [Conv.floatToFloat, hk, hd', hni]; rfl, ?_, k.format.write_lt _⟩
      simp only [Option.map_some, hd']
      exact encode_fl rfl
theorem run_cconv (src dst : TypeId) (s k : FloatKind) {a b : Nat} {X Y : Option Nat} (ha : Fl s a X) (hb : Fl s b Y) (hs : (P.underlying src).isSome = true) (hd : P.underlying dst = some (.complex k)) (hX : Fits s k X) (hY : Fits s k Y) :
    ∃ re im n, (convert src dst (.complex s a b)).run P w = .ok (.complex k re im) (w.drewN n) ∧ Fl k re (fconv s k X) ∧ Fl k im (fconv s k Y) := by
  obtain ⟨r1, n1, h1, e1, l1⟩ := run_ftf (P := P) w s k a ha.lt (by rw [ha.eq]; exact hX)
  obtain ⟨r2, n2, h2, e2, l2⟩ := run_ftf (P := P) (w.drewN n1) s k b hb.lt (by rw [hb.eq]; exact hY)
  refine ⟨r1, r2, n1 + n2, ?_, ⟨by rw [e1, ha.eq], l1⟩, ⟨by rw [e2, hb.eq], l2⟩⟩
  obtain ⟨u, hs'⟩ := Option.isSome_iff_exists.1 hs
  rw [drewN_drewN] at h2
  cases u <;> simp [convert, run_underlying hs', run_underlying hd, Conv.complexToComplex, h1, h2]
end

section
variable {P : Program} {o : Oper} {a : Act} {K : Act → World → Prop} {Q : Exit → Act → World → Prop} {w : World} {f : Value → World → Result Next}
theorem upon_csum {op : BinOp} (hop : op = .add ∨ op = .sub) {t : TypeId} {k : FloatKind} {x y z v : Nat} {X Y Z V : Option Nat} (hx : Fl k x X) (hy : Fl k y Y) (hz : Fl k z Z) (hv : Fl k v V)
    (h : ∀ r i n, Fl k r (fop op k X Z) → Fl k i (fop op k Y V) → o.upon P a K Q ((Result.ok (Value.complex k r i) (w.drewN n)).andThen f)) :
    o.upon P a K Q ((Sem.run P (binOp op t (.complex k x y) (.complex k z v)) w).andThen f) := by
  obtain ⟨r, i, n, hr, h1, h2⟩ := run_csum (P := P) w op hop t k hx hy hz hv
  rw [hr]
  exact h r i n h1 h2
theorem upon_cmul {t : TypeId} {x y z v : Nat} {X Y Z V : Option Nat} (hx : Fl .f64 x X) (hy : Fl .f64 y Y) (hz : Fl .f64 z Z) (hv : Fl .f64 v V)
    (h : ∀ r i n, Fl .f64 r (fcre X Y Z V) → Fl .f64 i (fcim X Y Z V) → o.upon P a K Q ((Result.ok (Value.complex .f64 r i) (w.drewN n)).andThen f)) :
    o.upon P a K Q ((Sem.run P (binOp .mul t (.complex .f64 x y) (.complex .f64 z v)) w).andThen f) := by
  obtain ⟨r, i, n, hr, h1, h2⟩ := run_cmul (P := P) w t hx hy hz hv
  rw [hr]
  exact h r i n h1 h2
theorem upon_cconv {src dst : TypeId} {s k : FloatKind} {x y : Nat} {X Y : Option Nat} (hx : Fl s x X) (hy : Fl s y Y) (hs : (P.underlying src).isSome = true) (hd : P.underlying dst = some (.complex k)) (hX : Fits s k X) (hY : Fits s k Y)
    (h : ∀ r i n, Fl k r (fconv s k X) → Fl k i (fconv s k Y) → o.upon P a K Q ((Result.ok (Value.complex k r i) (w.drewN n)).andThen f)) :
    o.upon P a K Q ((Sem.run P (convert src dst (.complex s x y)) w).andThen f) := by
  obtain ⟨r, i, n, hr, h1, h2⟩ := run_cconv (P := P) w src dst s k hx hy hs hd hX hY
  rw [hr]
  exact h r i n h1 h2
/-- From complex64 to complex128. -/
theorem upon_cwide {src dst : TypeId} {x y : Nat} {X Y : Option Nat} (hs : (P.underlying src).isSome = true) (hd : P.underlying dst = some (.complex .f64)) (hx : Fl .f32 x X) (hy : Fl .f32 y Y)
    (h : ∀ r i n, Fl .f64 r (fconv .f32 .f64 X) → Fl .f64 i (fconv .f32 .f64 Y) → o.upon P a K Q ((Result.ok (Value.complex .f64 r i) (w.drewN n)).andThen f)) :
    o.upon P a K Q ((Sem.run P (convert src dst (.complex .f32 x y)) w).andThen f) :=
  upon_cconv hx hy hs hd (by rw [← hx.eq]; exact fits_wide x) (by rw [← hy.eq]; exact fits_wide y) h
end
end Go.Proofs.Ythgmkipifolbfac
