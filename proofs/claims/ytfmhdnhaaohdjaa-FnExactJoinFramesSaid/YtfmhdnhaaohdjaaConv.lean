/- Floats made wide and narrow, and the walk's law for a conversion between float kinds. Condition of the law: the number is not too great for the other kind ('Fits'). -/
import Derived.Test.YtfmhdnhaaohdjaaOrd
namespace Go.Proofs.Ytfmhdnhaaohdjaa
open Ieee
theorem Fin_.of_word (k : FloatKind) (s : Bool) (m e : Nat) (h : m < 2 * k.format.binade) (h2 : e = 0 ∨ k.format.binade ≤ m) (h3 : e * k.format.binade + m < k.format.infRung) :
    Fin_ k (k.format.word s (e * k.format.binade + m)) s m e := by
  have hi := k.format.infRung_lt
  refine ⟨read_rung k.format s e m h h2 h3, h, h2, h3, ?_, ?_⟩
  · generalize e * k.format.binade + m = rung at *
    unfold Format.word; split
    · rw [Nat.add_mod_left]; exact Nat.mod_eq_of_lt (by omega)
    · exact Nat.mod_eq_of_lt (by omega)
  · generalize e * k.format.binade + m = rung at *
    unfold Format.word
    cases s
    · simp only [Bool.false_eq_true, if_false]
      rw [Nat.div_eq_of_lt (by omega)]; rfl
    · simp only [if_true]
      rw [Nat.add_div_left _ (by omega), Nat.div_eq_of_lt (by omega)]; rfl

/-- A finite word is made of its sign and its rung. -/
theorem Fin_.word {k : FloatKind} {b : Nat} {s : Bool} {m e : Nat} (h : Fin_ k b s m e) (hb : b < 2 ^ k.format.width) : b = k.format.word s (e * k.format.binade + m) := by
  have hw : 2 ^ k.format.width = 2 * k.format.signWeight := by
    unfold Format.width Format.signWeight
    rw [Nat.add_assoc, Nat.add_comm 1, Nat.pow_succ, Nat.mul_comm]
  have hs : 0 < k.format.signWeight := Nat.two_pow_pos _
  have hq : b / k.format.signWeight < 2 := Nat.div_lt_of_lt_mul (by omega)
  have hd := Nat.div_add_mod b k.format.signWeight
  have hsg := h.sign
  unfold Format.word
  rw [← h.rung]
  have hcase : b / k.format.signWeight = 0 ∨ b / k.format.signWeight = 1 := by
    generalize b / k.format.signWeight = q at hq
    omega
  rcases hcase with h0 | h0
  · rw [h0] at hsg hd; simp at hsg; subst hsg; simp; omega
  · rw [h0] at hsg hd; simp at hsg; subst hsg; simp; omega

def wide (b : Nat) : Nat := FloatKind.f64.encode (FloatKind.f32.decode b)
def narrow (b : Nat) : Nat := FloatKind.f32.encode (FloatKind.f64.decode b)

theorem Fin_.e32 {b : Nat} {s : Bool} {m e : Nat} (h : Fin_ .f32 b s m e) : m < 2 ^ 24 ∧ e ≤ 253 ∧ (e = 0 ∨ 2 ^ 23 ≤ m) ∧ e * 8388608 + m < 255 * 8388608 := by
  have h1 := h.lt; have h2 := h.low; have h3 := h.top
  have eb : FloatKind.f32.format.binade = 8388608 := single_binade
  have ei : FloatKind.f32.format.infRung = 255 * 8388608 := single_inf
  rw [eb] at h1 h2 h3; rw [ei] at h3
  refine ⟨by omega, by omega, by omega, h3⟩

theorem Fin_.wide {b : Nat} {s : Bool} {m e : Nat} (h : Fin_ .f32 b s m e) : ∃ m' e', Fin_ .f64 (wide b) s m' e' ∧ m' * 2 ^ e' = m * 2 ^ (e + 925) := by
  obtain ⟨h1, h2, h3, h4⟩ := h.e32
  obtain ⟨m', e', hw, k1, k2, k3, k4⟩ := widen_word s m e h1 h2
  refine ⟨m', e', ?_, k4⟩
  have : Ytfmhdnhaaohdjaa.wide b = double.word s (e' * double.binade + m') := by
    unfold Ytfmhdnhaaohdjaa.wide FloatKind.encode FloatKind.decode
    rw [h.read]
    show double.nearest s m (single.leastPlace + (e : Int)) = _
    rw [single_least, hw]
  rw [this]
  exact Fin_.of_word .f64 s m' e' k1 k2 k3

theorem wide_inf {b : Nat} {s : Bool} (h : FloatKind.f32.format.read b = .infinity s) : FloatKind.f64.format.read (wide b) = .infinity s := by
  unfold wide FloatKind.encode FloatKind.decode
  rw [h]
  cases s <;> decide +kernel

theorem narrow_inf {b : Nat} {s : Bool} (h : FloatKind.f64.format.read b = .infinity s) : FloatKind.f32.format.read (narrow b) = .infinity s := by
  unfold narrow FloatKind.encode FloatKind.decode
  rw [h]
  cases s <;> decide +kernel

/-- A 32-bit number made wide and narrow again is itself. -/
theorem narrow_wide {b : Nat} (hb : b < 2 ^ 32) (hn : fl .f32 b ≠ none) : narrow (wide b) = b := by
  rcases shape .f32 b with ⟨s, m, e, h⟩ | ⟨s, hr, hg, hs⟩ | h
  · obtain ⟨m', e', hw, hv⟩ := h.wide
    obtain ⟨h1, h2, h3, h4⟩ := h.e32
    unfold narrow FloatKind.encode FloatKind.decode
    rw [hw.read]
    show single.nearest s m' (double.leastPlace + (e' : Int)) = b
    rw [double_least, narrow_word s m e m' e' h1 h3 h4 hv]
    exact (h.word hb).symm
  · have hw := wide_inf hr
    unfold narrow FloatKind.encode FloatKind.decode
    rw [hw]
    have hsw : FloatKind.f32.format.signWeight = 2147483648 := by decide
    have hi : FloatKind.f32.format.infRung = 2139095040 := by decide
    rw [hsw] at hg hs; rw [hi] at hg
    have hq : b / 2147483648 = 0 ∨ b / 2147483648 = 1 := by omega
    show FloatKind.f32.format.word s FloatKind.f32.format.infRung = b
    unfold Format.word
    rw [hsw, hi]
    rcases hq with h0 | h0
    · rw [h0] at hs; simp at hs; subst hs; simp; omega
    · rw [h0] at hs; simp at hs; subst hs; simp; omega
  · exact absurd h hn

/-- A float made one of another kind. -/
def fconv (s k : FloatKind) (x : Option Nat) : Option Nat := if s = k then x else x.map fun a => k.encode (s.decode a)
/-- It is not too great for the other kind. -/
def Fits (s k : FloatKind) (x : Option Nat) : Prop := s = k ∨ ∀ a, x = some a → (s.decode a).isInfinity = true ∨ (k.decode (k.encode (s.decode a))).isInfinity = false

theorem fits_wide (b : Nat) : Fits .f32 .f64 (fl .f32 b) := by
  right
  intro a ha
  rcases shape .f32 b with ⟨s, m, e, h⟩ | ⟨s, hr, _, _⟩ | h
  · rw [h.fl] at ha; cases ha
    right
    obtain ⟨m', e', hw, _⟩ := h.wide
    have := hw.read
    unfold Ytfmhdnhaaohdjaa.wide at this
    unfold FloatKind.decode at this ⊢
    rw [this]; rfl
  · rw [fl_inf hr] at ha; cases ha
    left; unfold FloatKind.decode; rw [hr]; rfl
  · rw [h] at ha; cases ha

theorem encode_fl {k : FloatKind} {d : Datum} (h : d.isNaN = false) : fl k (k.encode d) = some (k.encode d) := by
  unfold fl FloatKind.decode FloatKind.encode; rw [write_num _ _ h]; rfl

section
variable {P : Program} (w : World)
theorem run_fconv (src dst : TypeId) (s k : FloatKind) (b : Nat) (hb : b < 2 ^ s.format.width) (hs : (P.underlying src).isSome = true) (hd : P.underlying dst = some (.float k)) (hf : Fits s k (fl s b)) :
    ∃ r n, (convert src dst (.float s b)).run P w = .ok (.float k r) (w.drewN n) ∧ fl k r = fconv s k (fl s b) ∧ r < 2 ^ k.format.width := by
  by_cases hk : s = k
  · subst hk
    refine ⟨b, 0, run_convert_float_float w src dst s s b b hs hd (by simp [floatToFloatBits]), by simp [fconv], hb⟩
  · unfold fconv; rw [if_neg hk]
    cases hd' : s.decode b with
    | nan sg t =>
      have hn : fl s b = none := by unfold fl; rw [hd']; rfl
      rw [hn]
      refine ⟨nanWord k (w.tape w.drawn (.nanConv k b)), 1, ?_, (nanWord_nan k _).1, (nanWord_nan k _).2⟩
      rw [← cut_nanConv k b]
      obtain ⟨u, hs'⟩ := Option.isSome_iff_exists.1 hs
      cases u <;> simp [convert, run_underlying hs', run_underlying hd, Conv.floatToFloat, hk, hd'] <;> rfl
    | infinity sg =>
      have hn : fl s b = some b := by unfold fl; rw [hd']; rfl
      rw [hn]
      refine ⟨k.encode (.infinity sg), 0, run_convert_float_float w src dst s k b _ hs hd (by simp [floatToFloatBits, hk, hd']), ?_, k.format.write_lt _⟩
      simp only [Option.map_some, hd']
      exact encode_fl rfl
    | number sg m e =>
      have hn : fl s b = some b := by unfold fl; rw [hd']; rfl
      rw [hn] at hf ⊢
      have hni : (k.decode (k.encode (.number sg m e))).isInfinity = false := by
        rcases hf with hf | hf
        · exact absurd hf hk
        · rcases hf b rfl with h | h
          · rw [hd'] at h; cases h
          · rw [hd'] at h; exact h
      refine ⟨k.encode (.number sg m e), 0, run_convert_float_float w src dst s k b _ hs hd (by simp [floatToFloatBits, hk, hd', hni]), ?_, k.format.write_lt _⟩
      simp only [Option.map_some, hd']
      exact encode_fl rfl
end

/-- The bits of a float that stands for X, up to which NaN. -/
structure Fl (k : FloatKind) (r : Nat) (X : Option Nat) : Prop where
  eq : fl k r = X
  lt : r < 2 ^ k.format.width
theorem Fl.const {k : FloatKind} {r : Nat} (h : r < 2 ^ k.format.width) : Fl k r (fl k r) := ⟨rfl, h⟩
theorem Fl.of32 {r : Nat} (h : r < 4294967296) : Fl .f32 r (fl .f32 r) := ⟨rfl, h⟩
theorem Fl.of64 {r : Nat} (h : r < 18446744073709551616) : Fl .f64 r (fl .f64 r) := ⟨rfl, h⟩
theorem Fl.order {k : FloatKind} {a b : Nat} {X Y : Option Nat} (ha : Fl k a X) (hb : Fl k b Y) : k.format.order a b = ford k X Y := by rw [order_fl, ha.eq, hb.eq]

/-- Some draws, and nothing else. -/
def Dr (w w' : World) : Prop := ∃ n, w' = w.drewN n
theorem Dr.below {w w' : World} (h : Dr w w') : Go.RowKit.Below w.heap.size w w' := by
  obtain ⟨n, rfl⟩ := h
  exact ⟨rfl, rfl, rfl, Nat.le_refl _, fun _ _ => rfl⟩

section
variable {P : Program} {o : Oper} {a : Act} {K : Act → World → Prop} {Q : Exit → Act → World → Prop} {w : World} {f : Value → World → Result Next}
theorem upon_fop {op : BinOp} (hop : isArith op = true) {t : TypeId} {k : FloatKind} {x y : Nat} {X Y : Option Nat} (hx : Fl k x X) (hy : Fl k y Y)
    (h : ∀ r n, Fl k r (fop op k X Y) → o.upon P a K Q ((Result.ok (Value.float k r) (w.drewN n)).andThen f)) :
    o.upon P a K Q ((Sem.run P (binOp op t (.float k x) (.float k y)) w).andThen f) := by
  obtain ⟨r, n, hr, hf, hl⟩ := run_fop (P := P) w op hop t k x y
  rw [hr]
  rw [hx.eq, hy.eq] at hf
  exact h r n ⟨hf, hl⟩

theorem upon_fconv {src dst : TypeId} {s k : FloatKind} {b : Nat} {X : Option Nat} (hb : Fl s b X) (hs : (P.underlying src).isSome = true) (hd : P.underlying dst = some (.float k)) (hf : Fits s k X)
    (h : ∀ r n, Fl k r (fconv s k X) → o.upon P a K Q ((Result.ok (Value.float k r) (w.drewN n)).andThen f)) :
    o.upon P a K Q ((Sem.run P (convert src dst (.float s b)) w).andThen f) := by
  have hf' : Fits s k (fl s b) := by rw [hb.eq]; exact hf
  obtain ⟨r, n, hr, hf, hl⟩ := run_fconv (P := P) w src dst s k b hb.lt hs hd hf'
  rw [hr]
  rw [hb.eq] at hf
  exact h r n ⟨hf, hl⟩

theorem upon_narrow {src dst : TypeId} {b : Nat} {X : Option Nat} (hs : (P.underlying src).isSome = true) (hd : P.underlying dst = some (.float .f32)) (hb : Fl .f64 b X) (hf : Fits .f64 .f32 X)
    (h : ∀ r n, Fl .f32 r (fconv .f64 .f32 X) → o.upon P a K Q ((Result.ok (Value.float .f32 r) (w.drewN n)).andThen f)) :
    o.upon P a K Q ((Sem.run P (convert src dst (.float .f64 b)) w).andThen f) :=
  upon_fconv hb hs hd hf h

theorem upon_wide {src dst : TypeId} {b : Nat} {X : Option Nat} (hs : (P.underlying src).isSome = true) (hd : P.underlying dst = some (.float .f64)) (hb : Fl .f32 b X)
    (h : ∀ r n, Fl .f64 r (fconv .f32 .f64 X) → o.upon P a K Q ((Result.ok (Value.float .f64 r) (w.drewN n)).andThen f)) :
    o.upon P a K Q ((Sem.run P (convert src dst (.float .f32 b)) w).andThen f) :=
  upon_fconv hb hs hd (by rw [← hb.eq]; exact fits_wide b) h
end
end Go.Proofs.Ytfmhdnhaaohdjaa
