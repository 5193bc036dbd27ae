/- Lists of complex numbers: read, owned, compared, marked and held, as the laws do it. Condition: the list is read, or owned. -/
import Derived.Test.YthgmkipifolbfacCy
import Derived.Test.YthgmkipifolbfacTl
import Derived.Test.YthgmkipifolbfacTurn
namespace Go.Proofs.Ythgmkipifolbfac
open Go.RowKit Ieee

abbrev Cn := Option Nat × Option Nat
def cnone : Cn := (none, none)
structure RdX (w : World) (B : Nat) (A : Option Addr) (n : Nat) (L : List Cn) : Prop where
  len : L.length = n
  at_ : ∀ k, k < n → ∃ b off, A = some ⟨b, off, none⟩ ∧ b < B ∧ ∀ j, j < n → ∃ r i, w.cell? ⟨b, off + j, none⟩ = some (.complex .f32 r i) ∧ Fl .f32 r (L.getD j cnone).1 ∧ Fl .f32 i (L.getD j cnone).2
theorem RdX.cell {w : World} {B n k : Nat} {A : Option Addr} {L : List Cn} (h : RdX w B A n L) (hk : k < n) :
    ∃ b off r i, A = some ⟨b, off, none⟩ ∧ b < B ∧ w.cell? ⟨b, off + k, none⟩ = some (.complex .f32 r i) ∧ Fl .f32 r (L.getD k cnone).1 ∧ Fl .f32 i (L.getD k cnone).2 := by
  obtain ⟨b, off, hA, hb, hj⟩ := h.at_ k hk
  obtain ⟨r, i, h1, h2, h3⟩ := hj k hk
  exact ⟨b, off, r, i, hA, hb, h1, h2, h3⟩
structure OwX (w : World) (lo hi : Nat) (A : Option Addr) (n : Nat) (L : List Cn) : Prop where
  len : L.length = n
  at_ : n = 0 ∨ ∃ g off cs, A = some ⟨g, off, none⟩ ∧ lo ≤ g ∧ g < hi ∧ w.heap[g]? = some (.cells cs 23 (0, 0)) ∧ off + n ≤ cs.size ∧ ∀ j, j < n → ∃ r i, cs[off + j]? = some (.complex .f32 r i) ∧ Fl .f32 r (L.getD j cnone).1 ∧ Fl .f32 i (L.getD j cnone).2
theorem OwX.rd {w : World} {lo hi n : Nat} {A : Option Addr} {L : List Cn} (h : OwX w lo hi A n L) : RdX w hi A n L := by
  refine ⟨h.len, fun k hk => ?_⟩
  rcases h.at_ with h0 | ⟨g, off, cs, rfl, h1, h2, hg, hs, hc⟩
  · omega
  · refine ⟨g, off, rfl, h2, fun j hj => ?_⟩
    obtain ⟨r, i, e1, e2, e3⟩ := hc j hj
    exact ⟨r, i, by rw [cell_of_row w g _ cs _ (0, 0) hg]; exact e1, e2, e3⟩
theorem OwX.same {w w' : World} {lo hi n : Nat} {A : Option Addr} {L : List Cn} (h : OwX w lo hi A n L) (hs : Same lo hi w w') : OwX w' lo hi A n L := by
  refine ⟨h.len, ?_⟩
  rcases h.at_ with h0 | ⟨g, off, cs, hA, h1, h2, hg, hrest⟩
  · exact .inl h0
  · exact .inr ⟨g, off, cs, hA, h1, h2, (hs g h1 h2).trans hg, hrest⟩
theorem OwX.nil (w : World) (lo hi : Nat) (A : Option Addr) : OwX w lo hi A 0 [] := ⟨rfl, .inl rfl⟩
theorem OwX.more {w : World} {lo hi lo' hi' n : Nat} {A : Option Addr} {L : List Cn} (h : OwX w lo hi A n L) (h1 : lo' ≤ lo) (h2 : hi ≤ hi') : OwX w lo' hi' A n L := by
  refine ⟨h.len, ?_⟩
  rcases h.at_ with h0 | ⟨g, off, cs, hA, k1, k2, hrest⟩
  · exact .inl h0
  · exact .inr ⟨g, off, cs, hA, by omega, by omega, hrest⟩
theorem OwX.ext {w w' : World} {lo hi n : Nat} {A : Option Addr} {L : List Cn} (h : OwX w lo hi A n L) (hh : hi ≤ w.heap.size) (hx : Ext w w') : OwX w' lo hi A n L :=
  h.same (hx.same hh)

/-- The mark of a number, as a complex one. -/
def cm (k : Nat) : Nat := FloatKind.f32.encode (FloatKind.f64.decode (floatOfInt .f64 (k : Int)))
theorem ftf_num {b : Nat} {s : Bool} {m e E : Nat} (h : Fin_ .f64 b s m e) (hm : m * 2 ^ e ≤ 2 ^ E) (hE : E ≤ 1201) : floatToFloatBits .f64 b .f32 = some (FloatKind.f32.encode (FloatKind.f64.decode b)) := by
  have hfit : Fits .f64 .f32 (some b) := fits_bd (E := E) (fun c hc => by rw [← Option.some.inj hc]; exact ⟨s, m, e, h, hm⟩) hE
  have hr : FloatKind.f64.decode b = .number s m (FloatKind.f64.format.leastPlace + (e : Int)) := h.read
  have hni : (FloatKind.f32.decode (FloatKind.f32.encode (FloatKind.f64.decode b))).isInfinity = false := by
    rcases hfit with hf | hf
    · cases hf
    · rcases hf b rfl with h1 | h1
      · rw [hr] at h1; cases h1
      · exact h1
  rw [hr] at hni ⊢
  unfold floatToFloatBits
  rw [if_neg (by decide), hr]
  simp only [hni]
  rfl
theorem ftf_int (k : Nat) (hk : k < 2 ^ 53) : floatToFloatBits .f64 (floatOfInt .f64 (k : Int)) .f32 = some (cm k) ∧ fl .f32 (cm k) = some (cm k) := by
  obtain ⟨T, hT⟩ : ∃ T, T = 1074 := ⟨_, rfl⟩
  obtain ⟨n, j, hw, hv⟩ := int_fin hT k false hk
  have e1 : floatOfInt .f64 ((k : Nat) : Int) = FloatKind.f64.format.nearest false k 0 := by
    unfold floatOfInt FloatKind.nearest FloatKind.encode
    show FloatKind.f64.format.nearest (decide ((k : Int) < 0)) (k : Int).natAbs 0 = _
    have : decide ((k : Int) < 0) = false := by simp
    rw [this]; rfl
  have hle : n * 2 ^ j ≤ 2 ^ (53 + T) := by
    rw [hv, Nat.pow_add]
    exact Nat.mul_le_mul_right _ (Nat.le_of_lt hk)
  have h1 := ftf_num hw hle (by omega)
  rw [← e1] at h1 hw
  refine ⟨h1, encode_fl (k := .f32) ?_⟩
  have hr : FloatKind.f64.decode (floatOfInt .f64 (k : Int)) = .number false n (FloatKind.f64.format.leastPlace + (j : Int)) := hw.read
  rw [hr]; rfl
theorem cm_fl (k : Nat) (hk : k < 2 ^ 53) : Fl .f32 (cm k) (some (cm k)) := ⟨(ftf_int k hk).2, FloatKind.f32.format.write_lt _⟩
theorem cone_fl : Fl .f32 1065353216 (some 1065353216) := ⟨by decide +kernel, by decide⟩
theorem conv_cm (W : World) (k : Nat) (hk : k < 2 ^ 53) : (convert 26 23 (.complex .f64 (floatOfInt .f64 (k : Int)) 4607182418800017408)).run Try.prog W = .ok (.complex .f32 (cm k) 1065353216) W := by
  refine run_convert_complex W _ _ .f64 .f32 _ _ _ _ (by rw [Try.underlying26]; rfl) Try.underlying23 ?_
  unfold cConvBits
  rw [(ftf_int k hk).1]
  have h1 : floatToFloatBits .f64 4607182418800017408 .f32 = some 1065353216 := by decide +kernel
  rw [h1]; rfl
theorem run_cneq {P : Program} (t : TypeId) (a b : Nat) (h1 : (FloatKind.f32.format.order a a == some .eq) = true) (h2 : (FloatKind.f32.format.order b b == some .eq) = true) (w : World) : (binOp .neq t (.complex .f32 a b) (.complex .f32 a b)).run P w = .ok (.bool false) w := by
  simp [binOp, Op.complexOp, Op.Complex.cmp, Op.floatCmp, asBool, h1, h2]
def cmarks (k n : Nat) : List Cn := (List.range n).map fun j => (some (cm (k + j)), some 1065353216)
theorem cmarks_len (k n : Nat) : (cmarks k n).length = n := by simp [cmarks]
theorem cmarks_at {k n j : Nat} (h : j < n) : (cmarks k n).getD j cnone = (some (cm (k + j)), some 1065353216) := by simp [cmarks, List.getD, h]
theorem cmark_step {cs : Array Value} {off k k0 : Nat} (hk : off + k < cs.size) (h : ∀ j, j < k → cs[off + j]? = some (.complex .f32 (cm (k0 + j)) 1065353216)) :
    ∀ j, j < k + 1 → (cs.setIfInBounds (off + k) (.complex .f32 (cm (k0 + k)) 1065353216))[off + j]? = some (.complex .f32 (cm (k0 + j)) 1065353216) := by
  intro j hj
  by_cases hjk : j = k
  · subst hjk; simp [hk]
  · rw [Array.getElem?_setIfInBounds, if_neg (by omega)]; exact h j (by omega)
theorem cblk_set1 {w : World} {g : Nat} {cs : Array Value} {t : TypeId} (hg : w.heap[g]? = some (.cells cs t (0, 0))) (k : Nat) (v : Value) :
    (w.setCell ⟨g, k, none⟩ v).heap[g]? = some (.cells (cs.setIfInBounds k v) t (0, 0)) := by
  simp [World.setCell, Array.getElem?_modify, hg]
@[go_sem] theorem run_store_cpx (P : Program) (w : World) (a : Addr) (m : Mode) (k : FloatKind) (b c : Nat) : (store a (.complex k b c) m).run P w = stored P w a (.complex k b c) m := run_store P w a _ m rfl

set_option maxRecDepth 20000 in
set_option maxHeartbeats 2000000 in
theorem c_eqComplex64S {w : World} {B B' n c c' : Nat} {A A' : Option Addr} {L : List Cn} (h : RdX w B A n L) (h' : RdX w B' A' n L) (hn : n ≤ 1048576) :
    Calls Try.prog 24 #[.slice A n c, .slice A' n c'] w fun e w' => e = .returned (.bool true) ∧ Dr w w' := by
  go_enter Try.func24, Try.ntmps24
  go_wp2
  go_loopw [5] (fun i wr => ∃ k : Nat, k ≤ n ∧ i = .int .i64 k ∧ Dr w wr) (fun i _ => n - (intOf i).toNat)
  case atStart => exact ⟨0, Nat.zero_le _, rfl, 0, rfl⟩
  case round =>
    obtain ⟨k, hk, rfl, m, rfl⟩ := hrel
    by_cases hlt : k < n
    · obtain ⟨b, off, q, r, rfl, hb, hc, hq, hr⟩ := h.cell hlt
      obtain ⟨b', off', q', r', rfl, hb', hc', hq', hr'⟩ := h'.cell hlt
      have hlt' : (k : Int) < (n : Int) := by omega
      go_wp2
      go_region_with (first | (apply upon_cwide s_c64 Try.underlying26; assumption; assumption; intro rc ic nc hrc hic) | (go_at_call 17; refine Calls.mono (c_sameComplex (by assumption) (by assumption) (by assumption) (by assumption) _) ?_; rintro e w' ⟨rfl, n3, rfl⟩))
      all_goals
        go_wp2
        exact ⟨⟨k + 1, by omega, by go_num, _, rfl⟩, by simp [intOf]; omega⟩
    · have hkn : k = n := by omega
      go_wp2
      go_ret
      exact ⟨rfl, m, rfl⟩
set_option maxRecDepth 20000 in
set_option maxHeartbeats 1000000 in
theorem c_markComplex64S {w : World} {lo hi n c k0 : Nat} {A : Option Addr} {L : List Cn} (h : OwX w lo hi A n L) (hn : n ≤ 1048576) (hk0 : k0 ≤ 1000000000) :
    Calls Try.prog 26 #[.slice A n c, .int .i64 (k0 : Int)] w fun e w' => e = .returned (.int .i64 ((k0 + n : Nat) : Int)) ∧ OwX w' lo hi A n (cmarks k0 n) ∧ Kb lo hi w w' := by
  rcases Nat.eq_zero_or_pos n with rfl | hpos
  · go_enter Try.func26, Try.ntmps26
    go_wp2_with (fail)
    go_loopw [1, 5] (fun k i wr => k = .int .i64 (k0 : Int) ∧ i = .int .i64 0 ∧ wr = w) (fun _ _ _ => 0)
    case atStart => exact ⟨rfl, rfl, rfl⟩
    case round =>
      obtain ⟨rfl, rfl, rfl⟩ := hrel
      go_wp2_with (fail)
      go_ret
      exact ⟨rfl, OwX.nil _ _ _ _, Kb.refl _ _ _⟩
  obtain ⟨g, off, cs0, rfl, hlo, hhi, hg0, hsz0, _⟩ := h.at_.resolve_left (by omega)
  go_enter Try.func26, Try.ntmps26
  go_wp2_with (fail)
  go_loopw [1, 5] (fun q i wr => ∃ (k : Nat) (cs : Array Value), k ≤ n ∧ i = .int .i64 k ∧ q = .int .i64 ((k0 + k : Nat) : Int) ∧ wr.heap[g]? = some (.cells cs 23 (0, 0)) ∧ off + n ≤ cs.size ∧ (∀ j, j < k → cs[off + j]? = some (.complex .f32 (cm (k0 + j)) 1065353216)) ∧ Kb lo hi w wr) (fun _ i _ => n - (intOf i).toNat)
  case atStart => exact ⟨0, cs0, Nat.zero_le _, rfl, rfl, hg0, hsz0, fun j hj => absurd hj (Nat.not_lt_zero _), Kb.refl _ _ _⟩
  case round =>
    obtain ⟨k, cs, hk, rfl, rfl, hg, hsz, hp, hkb⟩ := hrel
    by_cases hlt : k < n
    · obtain ⟨u, hu⟩ : ∃ u, cs[off + k]? = some u := ⟨cs[off + k]'(by omega), Array.getElem?_eq_getElem (by omega)⟩
      have hold : wr.cell? ⟨g, off + k, none⟩ = some u := by rw [cell_of_row wr g _ cs _ (0, 0) hg]; exact hu
      have hfz : wr.frozen? ⟨g, off + k, none⟩ = false := by simp [World.frozen?, hg]
      have HG := Lib.hid hg
      have HP := Lib.hid hp
      have HS := Lib.hid hsz
      have hi' : (k : Int) < (n : Int) := by omega
      clear hg hp hsz hu
      have hmi := fun W => conv_cm W (k0 + k) (by have : (2 : Nat) ^ 53 = 9007199254740992 := by decide
                                                  omega)
      rw [Int.natCast_add] at hmi
      go_wp2_with (fail)
      exact ⟨⟨k + 1, cs.setIfInBounds (off + k) (.complex .f32 (cm (k0 + k)) 1065353216), by omega, by go_num, by go_num, cblk_set1 HG.out _ _, by rw [Array.size_setIfInBounds]; exact HS.out, cmark_step (by have := HS.out; omega) HP.out, hkb.set hlo hhi _⟩, by simp [intOf]; omega⟩
    · have hkn : k = n := by omega
      subst hkn
      go_wp2_with (fail)
      go_ret
      refine ⟨rfl, ⟨cmarks_len _ _, .inr ⟨g, off, cs, rfl, hlo, hhi, hg, hsz, fun j hj => ⟨_, _, hp j hj, ?_, ?_⟩⟩⟩, hkb⟩
      · rw [cmarks_at hj]
        exact cm_fl _ (by have : (2 : Nat) ^ 53 = 9007199254740992 := by decide
                          omega)
      · rw [cmarks_at hj]; exact cone_fl
set_option maxRecDepth 20000 in
set_option maxHeartbeats 1000000 in
theorem c_heldComplex64S {w : World} {B n c k0 : Nat} {A : Option Addr} (h : RdX w B A n (cmarks k0 n)) (hn : n ≤ 1048576) (hk0 : k0 ≤ 1000000000) :
    Calls Try.prog 27 #[.slice A n c, .int .i64 (k0 : Int)] w fun e w' => e = .returned (.int .i64 ((k0 + n : Nat) : Int)) ∧ w' = w := by
  go_enter Try.func27, Try.ntmps27
  go_wp2_with (fail)
  go_loopw [1, 5] (fun q i wr => ∃ k : Nat, k ≤ n ∧ i = .int .i64 k ∧ q = .int .i64 ((k0 + k : Nat) : Int) ∧ wr = w) (fun _ i _ => n - (intOf i).toNat)
  case atStart => exact ⟨0, Nat.zero_le _, rfl, rfl, rfl⟩
  case round =>
    obtain ⟨k, hk, rfl, rfl, rfl⟩ := hrel
    by_cases hlt : k < n
    · obtain ⟨b, off, r, i, rfl, hb, hc, hr, hi⟩ := h.cell hlt
      rw [cmarks_at hlt] at hr hi
      obtain rfl := (fl_some hr.eq).1
      obtain rfl := (fl_some hi.eq).1
      have hi' : (k : Int) < (n : Int) := by omega
      have hbig : k0 + k < 2 ^ 53 := by have : (2 : Nat) ^ 53 = 9007199254740992 := by decide
                                        omega
      have hmi := fun W => conv_cm W (k0 + k) hbig
      rw [Int.natCast_add] at hmi
      have hms := fun W => run_cneq (P := Try.prog) 23 (cm (k0 + k)) 1065353216 (by rw [order_self, (cm_fl _ hbig).eq]; rfl) (by rw [order_self, cone_fl.eq]; rfl) W
      clear hr hi hbig
      go_wp2_with (fail)
      exact ⟨⟨k + 1, by omega, by go_num, by go_num, trivial⟩, by simp [intOf]; omega⟩
    · have hkn : k = n := by omega
      subst hkn
      go_wp2_with (fail)
      go_ret
      exact ⟨rfl, rfl⟩
end Go.Proofs.Ythgmkipifolbfac
