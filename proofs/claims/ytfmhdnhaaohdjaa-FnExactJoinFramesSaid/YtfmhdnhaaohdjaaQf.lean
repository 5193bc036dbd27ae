/- Lists of frames that are read, and such lists of a call's own. No condition. -/
import Derived.Test.YtfmhdnhaaohdjaaXa
import Derived.Test.YtfmhdnhaaohdjaaYo
import Derived.Test.YtfmhdnhaaohdjaaYb
namespace Go.Proofs.Ytfmhdnhaaohdjaa
open Go.RowKit Go.ChangeShapes Go.WideShapes Go.Deep Ieee
set_option linter.unusedVariables false

instance : Inhabited Sct := ⟨noT⟩
/-- The three cells of a frame at block b, place o. -/
structure FAt (w : World) (b o : Nat) (x z : Int) (A : Option Addr) (n c : Nat) : Prop where
  p0 : w.cell? ⟨b, o, none⟩ = some (.int .i64 x)
  p1 : w.cell? ⟨b, o + 1, none⟩ = some (.int .i64 z)
  p2 : w.cell? ⟨b, o + 2, none⟩ = some (.slice A n c)
theorem FAt.keep {w w' : World} {b o n c : Nat} {x z : Int} {A : Option Addr} (h : FAt w b o x z A n c) (hk : ∀ p : Addr, p.block = b → w'.cell? p = w.cell? p) : FAt w' b o x z A n c :=
  ⟨(hk _ rfl).trans h.p0, (hk _ rfl).trans h.p1, (hk _ rfl).trans h.p2⟩
/-- The slice of address A and length n holds the frames R, which are read, below block B. -/
structure RdM (w : World) (B : Nat) (A : Option Addr) (n : Nat) (R : List Sct) : Prop where
  len : R.length = n
  at_ : ∀ k, k < n → ∃ b off, A = some ⟨b, off, none⟩ ∧ b < B ∧ ∀ j, j < n → ∃ A' c', FAt w b (off + j * 3) (R.getD j noT).x (R.getD j noT).z A' (R.getD j noT).v.length c' ∧ RdF w B A' (R.getD j noT).v.length (R.getD j noT).v ∧ (R.getD j noT).v.length ≤ c'
theorem RdM.cell {w : World} {B n k : Nat} {A : Option Addr} {R : List Sct} (h : RdM w B A n R) (hk : k < n) :
    ∃ b off A' c', A = some ⟨b, off, none⟩ ∧ b < B ∧ FAt w b (off + k * 3) (R.getD k noT).x (R.getD k noT).z A' (R.getD k noT).v.length c' ∧ RdF w B A' (R.getD k noT).v.length (R.getD k noT).v ∧ (R.getD k noT).v.length ≤ c' := by
  obtain ⟨b, off, hA, hb, hj⟩ := h.at_ k hk
  obtain ⟨A', c', h1, h2, h3⟩ := hj k hk
  exact ⟨b, off, A', c', hA, hb, h1, h2, h3⟩
theorem RdM.keep {w w' : World} {B n : Nat} {A : Option Addr} {R : List Sct} (h : RdM w B A n R) (hk : ∀ p : Addr, p.block < B → w'.cell? p = w.cell? p) : RdM w' B A n R :=
  ⟨h.len, fun k hkn => by
    obtain ⟨b, off, hA, hb, hj⟩ := h.at_ k hkn
    refine ⟨b, off, hA, hb, fun j hjn => ?_⟩
    obtain ⟨A', c', h1, h2, h3⟩ := hj j hjn
    exact ⟨A', c', h1.keep (fun p hp => hk p (by rw [hp]; exact hb)), h2.keep hk, h3⟩⟩
theorem RdM.below {w w' : World} {B n : Nat} {A : Option Addr} {R : List Sct} (h : RdM w B A n R) (hb : Below B w w') : RdM w' B A n R := h.keep fun _ hp => hb.cell hp
theorem RdM.drewN {w : World} {B n : Nat} {A : Option Addr} {R : List Sct} (h : RdM w B A n R) (m : Nat) : RdM (w.drewN m) B A n R := h.keep fun _ _ => rfl
theorem RdM.more {w : World} {B B' n : Nat} {A : Option Addr} {R : List Sct} (h : RdM w B A n R) (hB : B ≤ B') : RdM w B' A n R :=
  ⟨h.len, fun k hkn => by
    obtain ⟨b, off, hA, hb, hj⟩ := h.at_ k hkn
    refine ⟨b, off, hA, by omega, fun j hjn => ?_⟩
    obtain ⟨A', c', h1, h2, h3⟩ := hj j hjn
    exact ⟨A', c', h1, h2.more hB, h3⟩⟩
/-- How many numbers frames have together, and marks. -/
def totM : List Sct → Nat
  | [] => 0
  | a :: r => a.v.length + totM r
theorem totM_take_succ (R : List Sct) : ∀ (k : Nat), k < R.length → totM (R.take (k + 1)) = totM (R.take k) + (R.getD k noT).v.length := by
  induction R with
  | nil => intro k h; simp at h
  | cons a r ih =>
    intro k h
    cases k with
    | zero => simp [totM]
    | succ k =>
      have := ih k (by simp at h; omega)
      simp only [List.take_succ_cons, totM, List.getD_cons_succ]
      omega
theorem totM_take_le (R : List Sct) (k : Nat) : totM (R.take k) ≤ totM R := by
  induction R generalizing k with
  | nil => simp [totM]
  | cons a r ih =>
    cases k with
    | zero => simp [totM]
    | succ k => have := ih k; simp only [List.take_succ_cons, totM]; omega
theorem totM_at {R : List Sct} {k : Nat} (h : k < R.length) : (R.getD k noT).v.length ≤ totM R := by
  have h1 := totM_take_succ R k h
  have h2 := totM_take_le R (k + 1)
  omega
theorem totM_all {R : List Sct} {n : Nat} (h : R.length = n) : totM (R.take n) = totM R := by rw [List.take_of_length_le (by omega)]
/-- The three values of a frame in a row. -/
def F3 (cs : Array Value) (o : Nat) (x z : Int) (A : Option Addr) (n c : Nat) : Prop := cs[o]? = some (.int .i64 x) ∧ cs[o + 1]? = some (.int .i64 z) ∧ cs[o + 2]? = some (.slice A n c)
def put3 (cs : Array Value) (k : Nat) (v0 v1 v2 : Value) : Array Value := ((cs.setIfInBounds (k * 3) v0).setIfInBounds (k * 3 + 1) v1).setIfInBounds (k * 3 + 2) v2
theorem put3_size (cs : Array Value) (k : Nat) (v0 v1 v2 : Value) : (put3 cs k v0 v1 v2).size = cs.size := by simp [put3]
theorem put3_other (cs : Array Value) (k i : Nat) (v0 v1 v2 : Value) (h : i < k * 3 ∨ k * 3 + 3 ≤ i) : (put3 cs k v0 v1 v2)[i]? = cs[i]? := by
  unfold put3
  simp only [Array.getElem?_setIfInBounds]
  rw [if_neg (by omega), if_neg (by omega), if_neg (by omega)]
theorem put3_at (cs : Array Value) (k : Nat) {x z : Int} {A : Option Addr} {n c : Nat} (h : k * 3 + 3 ≤ cs.size) :
    F3 (put3 cs k (.int .i64 x) (.int .i64 z) (.slice A n c)) (k * 3) x z A n c := by
  unfold put3
  refine ⟨?_, ?_, ?_⟩ <;> simp [Array.getElem?_setIfInBounds] <;> omega
theorem F3.other {cs : Array Value} {k j : Nat} {x z : Int} {A : Option Addr} {n c : Nat} (h : F3 cs (j * 3) x z A n c) (hj : j ≠ k) (v0 v1 v2 : Value) : F3 (put3 cs k v0 v1 v2) (j * 3) x z A n c :=
  ⟨by rw [put3_other _ _ _ _ _ _ (by omega)]; exact h.1, by rw [put3_other _ _ _ _ _ _ (by omega)]; exact h.2.1, by rw [put3_other _ _ _ _ _ _ (by omega)]; exact h.2.2⟩
theorem F3.cells {w : World} {g o : Nat} {cs : Array Value} {t : TypeId} {x z : Int} {A : Option Addr} {n c : Nat} (h : F3 cs o x z A n c) (hg : w.heap[g]? = some (.cells cs t (0, 0))) : FAt w g o x z A n c :=
  ⟨by rw [cell_of_row w g _ cs _ (0, 0) hg]; exact h.1, by rw [cell_of_row w g _ cs _ (0, 0) hg]; exact h.2.1, by rw [cell_of_row w g _ cs _ (0, 0) hg]; exact h.2.2⟩
theorem three_of_row {w : World} {g n k : Nat} {cs : Array Value} {t : TypeId} (hg : w.heap[g]? = some (.cells cs t (0, 0))) (hsz : n * 3 ≤ cs.size) (hk : k < n) :
    ∃ u0 u1 u2, w.cell? ⟨g, k * 3, none⟩ = some u0 ∧ w.cell? ⟨g, k * 3 + 1, none⟩ = some u1 ∧ w.cell? ⟨g, k * 3 + 2, none⟩ = some u2 ∧
      w.frozen? ⟨g, k * 3, none⟩ = false ∧ w.frozen? ⟨g, k * 3 + 1, none⟩ = false ∧ w.frozen? ⟨g, k * 3 + 2, none⟩ = false := by
  refine ⟨cs[k * 3]'(by omega), cs[k * 3 + 1]'(by omega), cs[k * 3 + 2]'(by omega), ?_, ?_, ?_, ?_, ?_, ?_⟩
  all_goals first | (rw [cell_of_row w g _ cs _ (0, 0) hg]; exact Array.getElem?_eq_getElem (by omega)) | simp [World.frozen?, hg]
/-- The first k frames of a row of a call's own: each list in a block of its own. -/
structure RowsM (w : World) (base g : Nat) (f : Nat → Nat) (cs : Array Value) (k : Nat) (R : List Sct) : Prop where
  at_ : ∀ j, j < k → ∃ A' c', F3 cs (j * 3) (R.getD j noT).x (R.getD j noT).z A' (R.getD j noT).v.length c' ∧ OwL w (f j) (f j + 1) A' (R.getD j noT).v.length (R.getD j noT).v ∧ (R.getD j noT).v.length ≤ c' ∧ f j ≠ g ∧ base ≤ f j ∧ f j < w.heap.size
  inj : ∀ i j, i < j → j < k → f i ≠ f j
theorem RowsM.zero (w : World) (base g : Nat) (f : Nat → Nat) (cs : Array Value) (R : List Sct) : RowsM w base g f cs 0 R :=
  ⟨fun _ h => absurd h (Nat.not_lt_zero _), fun _ _ _ h => absurd h (Nat.not_lt_zero _)⟩
theorem RowsM.ext {w w' : World} {base g : Nat} {f : Nat → Nat} {cs : Array Value} {k : Nat} {R : List Sct} (h : RowsM w base g f cs k R) (hx : Ext w w') : RowsM w' base g f cs k R :=
  ⟨fun j hj => by
    obtain ⟨A', c', h1, h2, h3, h4, h5, h6⟩ := h.at_ j hj
    exact ⟨A', c', h1, h2.ext h6 hx, h3, h4, h5, Nat.lt_of_lt_of_le h6 hx.size⟩, h.inj⟩
/-- The row's own block turns. -/
theorem RowsM.set {w : World} {base g : Nat} {f : Nat → Nat} {cs : Array Value} {k : Nat} {R : List Sct} (h : RowsM w base g f cs k R) (i : Nat) (v : Value) : RowsM (w.setCell ⟨g, i, none⟩ v) base g f cs k R :=
  ⟨fun j hj => by
    obtain ⟨A', c', h1, h2, h3, h4, h5, h6⟩ := h.at_ j hj
    exact ⟨A', c', h1, h2.same (fun b h7 h8 => by
      have : b = f j := by omega
      rw [this]; exact Below.heap_setCell w _ v _ h4), h3, h4, h5, by simpa using h6⟩, h.inj⟩
/-- One frame more. -/
theorem RowsM.push {w : World} {base g b : Nat} {f : Nat → Nat} {cs : Array Value} {k n : Nat} {R : List Sct} (h : RowsM w base g f cs k R) (hs : cs.size = n * 3) (hk : k < n) {A' : Option Addr} {c' : Nat}
    (ho : OwL w b (b + 1) A' (R.getD k noT).v.length (R.getD k noT).v) (hc : (R.getD k noT).v.length ≤ c') (hb : b ≠ g) (hbb : base ≤ b) (hbs : b < w.heap.size) (hn : ∀ j, j < k → f j ≠ b) :
    RowsM w base g (fun j => if j < k then f j else b) (put3 cs k (.int .i64 (R.getD k noT).x) (.int .i64 (R.getD k noT).z) (.slice A' (R.getD k noT).v.length c')) (k + 1) R := by
  refine ⟨fun j hj => ?_, fun i j hi hj => ?_⟩
  · by_cases hjk : j = k
    · subst hjk
      simp only [Nat.lt_irrefl, if_false]
      exact ⟨A', c', put3_at cs j (by omega), ho, hc, hb, hbb, hbs⟩
    · have hlt : j < k := by omega
      simp only [hlt, if_true]
      obtain ⟨A2, c2, h1, h2⟩ := h.at_ j hlt
      exact ⟨A2, c2, h1.other hjk _ _ _, h2⟩
  · by_cases hjk : j = k
    · subst hjk
      simp only [hi, if_true, Nat.lt_irrefl, if_false]
      exact hn i hi
    · have hlt : j < k := by omega
      have hlt' : i < k := by omega
      simp only [hlt, hlt', if_true]
      exact h.inj i j hi hlt
/-- Frames of a call's own: the block g holds them, each list has a block of its own, all from lo to hi. -/
structure OwM (w : World) (lo hi : Nat) (A : Option Addr) (n : Nat) (R : List Sct) : Prop where
  len : R.length = n
  ex : n = 0 ∨ ∃ (g : Nat) (f : Nat → Nat) (cs : Array Value) (t : TypeId), A = some ⟨g, 0, none⟩ ∧ w.heap[g]? = some (.cells cs t (0, 0)) ∧ n * 3 ≤ cs.size ∧ lo ≤ g ∧ g < hi ∧
    (∀ j, j < n → ∃ A' c', F3 cs (j * 3) (R.getD j noT).x (R.getD j noT).z A' (R.getD j noT).v.length c' ∧ OwL w (f j) (f j + 1) A' (R.getD j noT).v.length (R.getD j noT).v ∧ (R.getD j noT).v.length ≤ c' ∧ f j ≠ g ∧ lo ≤ f j ∧ f j < hi) ∧
    ∀ i j, i < j → j < n → f i ≠ f j
theorem OwM.nil (w : World) (lo hi : Nat) (A : Option Addr) : OwM w lo hi A 0 [] := ⟨rfl, .inl rfl⟩
theorem RowsM.own {w : World} {lo base g n : Nat} {f : Nat → Nat} {cs : Array Value} {R : List Sct} {t : TypeId} (h : RowsM w base g f cs n R) (hl : R.length = n) (hg : w.heap[g]? = some (.cells cs t (0, 0))) (hs : n * 3 ≤ cs.size) (h1 : lo ≤ base) (h2 : lo ≤ g) :
    OwM w lo w.heap.size (some ⟨g, 0, none⟩) n R :=
  ⟨hl, .inr ⟨g, f, cs, t, rfl, hg, hs, h2, blk_lt hg, fun j hj => by
    obtain ⟨A', c', e1, e2, e3, e4, e5, e6⟩ := h.at_ j hj
    exact ⟨A', c', e1, e2, e3, e4, by omega, e6⟩, h.inj⟩⟩
theorem OwM.same {w w' : World} {lo hi n : Nat} {A : Option Addr} {R : List Sct} (h : OwM w lo hi A n R) (hs : Same lo hi w w') : OwM w' lo hi A n R := by
  refine ⟨h.len, ?_⟩
  rcases h.ex with h0 | ⟨g, f, cs, t, hA, hg, hz, h1, h2, h3, h4⟩
  · exact .inl h0
  · refine .inr ⟨g, f, cs, t, hA, (hs g h1 h2).trans hg, hz, h1, h2, fun j hj => ?_, h4⟩
    obtain ⟨A', c', e1, e2, e3, e4, e5, e6⟩ := h3 j hj
    exact ⟨A', c', e1, e2.same (fun k h7 h8 => by have : k = f j := by omega
                                                  rw [this]; exact hs _ e5 e6), e3, e4, e5, e6⟩
theorem OwM.ext {w w' : World} {lo hi n : Nat} {A : Option Addr} {R : List Sct} (h : OwM w lo hi A n R) (hh : hi ≤ w.heap.size) (hx : Ext w w') : OwM w' lo hi A n R := h.same (hx.same hh)
theorem OwM.more {w : World} {lo hi lo' hi' n : Nat} {A : Option Addr} {R : List Sct} (h : OwM w lo hi A n R) (h1 : lo' ≤ lo) (h2 : hi ≤ hi') : OwM w lo' hi' A n R := by
  refine ⟨h.len, ?_⟩
  rcases h.ex with h0 | ⟨g, f, cs, t, hA, hg, hz, h3, h4, h5, h6⟩
  · exact .inl h0
  · refine .inr ⟨g, f, cs, t, hA, hg, hz, by omega, by omega, fun j hj => ?_, h6⟩
    obtain ⟨A', c', e1, e2, e3, e4, e5, e6⟩ := h5 j hj
    exact ⟨A', c', e1, e2, e3, e4, by omega, by omega⟩
theorem OwM.rd {w : World} {lo hi n : Nat} {A : Option Addr} {R : List Sct} (h : OwM w lo hi A n R) : RdM w hi A n R := by
  refine ⟨h.len, fun k hk => ?_⟩
  rcases h.ex with h0 | ⟨g, f, cs, t, hA, hg, hz, h3, h4, h5, h6⟩
  · omega
  · refine ⟨g, 0, hA, h4, fun j hj => ?_⟩
    obtain ⟨A', c', e1, e2, e3, e4, e5, e6⟩ := h5 j hj
    rw [Nat.zero_add]
    exact ⟨A', c', e1.cells hg, e2.rd.more (by omega), e3⟩
/-- A list in some blocks lies in one of them. -/
theorem OwL.one {w : World} {lo hi n : Nat} {A : Option Addr} {L : List (Option Nat)} (h : OwL w lo hi A n L) (hl : lo < hi) : ∃ b, lo ≤ b ∧ b < hi ∧ OwL w b (b + 1) A n L := by
  rcases h.at_ with h0 | ⟨g, off, cs, hA, h1, h2, h3, h4, h5⟩
  · exact ⟨lo, Nat.le_refl _, hl, h.len, .inl h0⟩
  · exact ⟨g, h1, h2, h.len, .inr ⟨g, off, cs, hA, Nat.le_refl _, Nat.lt_succ_self _, h3, h4, h5⟩⟩

section
variable {H : Type} {enc : TypeId × Value → H} {P : Program} {w : World}
theorem open_frames {fuel : Nat} {t e u : TypeId} {v : Value} {x : DataW H × List MemPlace} {f0 f1 f2 : Field} (ht : P.underlying t = some (.slice e)) (he : P.underlying e = some (.struct #[f0, f1, f2])) (ce : P.cellsOf e = 3)
    (ho : f0.offset = 0 ∧ f1.offset = 1 ∧ f2.offset = 2) (hc : P.cellsOf f0.type = 1 ∧ P.cellsOf f1.type = 1 ∧ P.cellsOf f2.type = 1)
    (hu : P.underlying f0.type = some (.int .i64) ∧ P.underlying f1.type = some (.int .i64) ∧ P.underlying f2.type = some (.slice u)) (hfu : P.underlying u = some (.float .f32)) (hcu : P.cellsOf u = 1)
    (h : DataW.trod enc P w 0 (fun _ => true) true fuel t [v] = some x) (hlt : ∀ q ∈ x.2, q.block < w.heap.size) :
    ∃ A n c R, v = .slice A n c ∧ n ≤ maxLen ∧ RdM w w.heap.size A n R ∧ (∀ j, j < n → (R.getD j noT).v.length ≤ maxLen) ∧ ∀ j, j < n → (R.getD j noT).Ok := by
  obtain ⟨o0, o1, o2⟩ := ho
  obtain ⟨k0, k1, k2⟩ := hc
  obtain ⟨u0, u1, u2⟩ := hu
  rcases Go.Deep.open_slice ht h with ⟨hv, _⟩ | ⟨a, len, cap, m, n, D, Pl, hv, _, hl, hm, hmm, hx, hi⟩
  · simp only [List.cons.injEq, and_true] at hv
    subst hv
    exact ⟨none, 0, 0, [], rfl, Nat.zero_le _, ⟨rfl, fun k hk => absurd hk (Nat.not_lt_zero _)⟩, fun k hk => absurd hk (Nat.not_lt_zero _), fun k hk => absurd hk (Nat.not_lt_zero _)⟩
  · simp only [List.cons.injEq, and_true] at hv
    subst hv
    simp only [if_true] at hmm
    have each : ∀ i, i < len → ∃ q : Sct × Option Addr × Nat, (w.cell? ((a.add (i * 3)).add 0) = some (.int .i64 q.1.x) ∧ w.cell? ((a.add (i * 3)).add 1) = some (.int .i64 q.1.z) ∧ w.cell? ((a.add (i * 3)).add 2) = some (.slice q.2.1 q.1.v.length q.2.2)) ∧
        RdF w w.heap.size q.2.1 q.1.v.length q.1.v ∧ q.1.v.length ≤ q.2.2 ∧ q.1.v.length ≤ maxLen ∧ q.1.Ok := by
      intro i hil
      obtain ⟨cs', h1, h2⟩ := hi i (by omega)
      rw [ce] at h1
      obtain ⟨_, hlen, hcell⟩ := World.cells?_some h1
      obtain ⟨xs, n', hxs, hpp, _, hxl, hf⟩ := DataW.trod_struct he h2
      match cs', hlen, xs, hxl with
      | [v0, v1, v2], _, [y0, y1, y2], _ =>
        have g0 := hf 0 f0 rfl
        have g1 := hf 1 f1 rfl
        have g2 := hf 2 f2 rfl
        simp [o0, o1, o2, k0, k1, k2] at g0 g1 g2
        obtain ⟨b0, rfl, w0⟩ := trod_int_cell u0 g0
        obtain ⟨b1, rfl, w1⟩ := trod_int_cell u1 g1
        obtain ⟨A1, n1, c1, L, rfl, m1, l1, r1⟩ := open_list u2 hfu hcu g2 (fun q hq => hlt q (by
          rw [hx]
          refine List.mem_append_right _ (List.mem_flatMap.2 ⟨i, List.mem_range.2 (by omega), ?_⟩)
          first | (rw [hpp]; simp [hq]) | simp_all))
        obtain rfl := r1.len
        exact ⟨(⟨b0, b1, L⟩, A1, c1), ⟨hcell 0 (by omega), hcell 1 (by omega), hcell 2 (by omega)⟩, r1, l1, m1, ⟨(wfi64 w0).1, (wfi64 w0).2, (wfi64 w1).1, (wfi64 w1).2⟩⟩
    obtain ⟨q, hq⟩ := Go.Deep.choose_lt each
    have hat : ∀ j, j < len → ((List.range len).map fun i => (q i).1).getD j noT = (q j).1 := fun j hj => by simp [List.getD, hj]
    refine ⟨some a, len, cap, (List.range len).map fun i => (q i).1, rfl, Nat.le_trans hl hm, ⟨by simp, fun k hk => ?_⟩, fun j hj => by rw [hat j hj]; exact (hq j hj).2.2.2.1, fun j hj => by rw [hat j hj]; exact (hq j hj).2.2.2.2⟩
    obtain ⟨b, off, spot⟩ := a
    have hspot : spot = none := by simpa [Addr.add] using World.cell?_spot (hq 0 (by omega)).1.1
    subst hspot
    have hblk : b < w.heap.size := by
      have : MemPlace.cell b (off + 0) ∈ x.2 := by
        rw [hx]
        exact List.mem_append_left _ (MemPlace.mem_row.2 ⟨0, by rw [ce]; omega, rfl⟩)
      exact hlt _ this
    refine ⟨b, off, rfl, hblk, fun j hj => ?_⟩
    obtain ⟨⟨c0, c1, c2⟩, r1, l1, m1, ok1⟩ := hq j hj
    rw [add_plain, add_plain] at c0 c1 c2
    rw [hat j hj]
    exact ⟨_, _, ⟨c0, c1, c2⟩, r1, l1⟩
theorem open_frs {b0 : Nat} {r : Reach} {t e u : TypeId} {v : Value} {d : DataW H} {ps : List MemPlace} {f0 f1 f2 : Field} (ht : P.underlying t = some (.slice e)) (he : P.underlying e = some (.struct #[f0, f1, f2])) (ce : P.cellsOf e = 3)
    (ho : f0.offset = 0 ∧ f1.offset = 1 ∧ f2.offset = 2) (hc : P.cellsOf f0.type = 1 ∧ P.cellsOf f1.type = 1 ∧ P.cellsOf f2.type = 1)
    (hu : P.underlying f0.type = some (.int .i64) ∧ P.underlying f1.type = some (.int .i64) ∧ P.underlying f2.type = some (.slice u)) (hfu : P.underlying u = some (.float .f32)) (hcu : P.cellsOf u = 1)
    (hval : Value.okWide P w r b0 t v) (hd : DataW.Trod enc P w 0 (fun _ => true) true t v d ps) (hlt : ∀ x ∈ ps, x.block < w.heap.size) :
    ∃ A n c R, v = .slice A n c ∧ n ≤ maxLen ∧ RdM w w.heap.size A n R ∧ (∀ j, j < n → (R.getD j noT).v.length ≤ maxLen) ∧ ∀ j, j < n → (R.getD j noT).Ok := by
  obtain ⟨a0, len0, cap0, rfl⟩ := okWide_slice ht hval
  obtain ⟨fuel, hf⟩ := hd
  have hcs : (Value.cells (Value.slice a0 len0 cap0)).toList = [Value.slice a0 len0 cap0] := by simp [Value.cells]
  rw [hcs] at hf
  exact open_frames ht he ce ho hc hu hfu hcu hf hlt
end
theorem info_frame : (Try.prog.info? 27).map (fun i => (i.zero, i.size, i.bytes)) = some (some (.agg #[.int .i64 0, .int .i64 0, .slice none 0 0]), 3, 40) := by kernel_rfl
theorem run_make_frm (P : Program) (t e : TypeId) (ht : P.underlying t = some (.slice e)) (hinfo : (P.info? e).map (fun i => (i.zero, i.size, i.bytes)) = some (some (.agg #[.int .i64 0, .int .i64 0, .slice none 0 0]), 3, 40))
    (n : Nat) (hn : n ≤ 1048576) (w : World) :
    (Instr.makeSlice t (.int .i64 (n : Int)) (.int .i64 (n : Int))).run P w = .ok (.slice (some ⟨w.heap.size, 0, none⟩) n n) (w.alloc (.cells (madeCells #[.int .i64 0, .int .i64 0, .slice none 0 0] (n * 3)) e)) := by
  obtain ⟨i, hi, hzz⟩ := Option.map_eq_some_iff.1 hinfo
  simp only [Prod.mk.injEq] at hzz
  obtain ⟨hz, hs, hb⟩ := hzz
  have hr := run_make (P := P) w t e i _ ht hi hz .i64 .i64 n n (by omega) (Int.le_refl _) (by rw [hb]; omega) (by omega)
  simp only [Int.toNat_natCast, hs] at hr
  exact hr
end Go.Proofs.Ytfmhdnhaaohdjaa
