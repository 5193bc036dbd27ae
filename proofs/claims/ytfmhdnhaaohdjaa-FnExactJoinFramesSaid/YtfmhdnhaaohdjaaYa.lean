/- Gathers that are read and gathers of a call's own: a number, a list, and lists of a list. No condition. -/
import Derived.Test.YtfmhdnhaaohdjaaTl
namespace Go.Proofs.Ytfmhdnhaaohdjaa
open Go.RowKit Go.ChangeShapes Go.WideShapes Go.Deep Ieee

theorem size_drew (w : World) : w.drew.heap.size = w.heap.size := rfl
theorem three_c {w : World} {g : Nat} {v0 v1 v2 : Value} {t : TypeId} (hg : w.heap[g]? = some (.cells #[v0, v1, v2] t (0, 0))) :
    w.cell? ⟨g, 0, none⟩ = some v0 ∧ w.cell? ⟨g, 1, none⟩ = some v1 ∧ w.cell? ⟨g, 2, none⟩ = some v2 ∧ w.frozen? ⟨g, 0, none⟩ = false ∧ w.frozen? ⟨g, 1, none⟩ = false ∧ w.frozen? ⟨g, 2, none⟩ = false := by
  refine ⟨?_, ?_, ?_, ?_, ?_, ?_⟩
  all_goals first | (rw [cell_of_row w g _ _ _ (0, 0) hg]; rfl) | simp [World.frozen?, hg]
/-- A gather's numbers: ticks, places, traces. -/
structure Gat where
  t : Int
  p : List (Option Nat)
  r : List (List (Option Nat))
/-- How many numbers lists have together. -/
def tot : List (List (Option Nat)) → Nat
  | [] => 0
  | a :: r => a.length + tot r
theorem tot_take_succ (R : List (List (Option Nat))) : ∀ (k : Nat), k < R.length → tot (R.take (k + 1)) = tot (R.take k) + (R.getD k []).length := by
  induction R with
  | nil => intro k h; simp at h
  | cons a r ih =>
    intro k h
    cases k with
    | zero => simp [tot]
    | succ k =>
      have := ih k (by simp at h; omega)
      simp only [List.take_succ_cons, tot, List.getD_cons_succ]
      omega
theorem tot_take_le (R : List (List (Option Nat))) (k : Nat) : tot (R.take k) ≤ tot R := by
  induction R generalizing k with
  | nil => simp [tot]
  | cons a r ih =>
    cases k with
    | zero => simp [tot]
    | succ k => have := ih k; simp only [List.take_succ_cons, tot]; omega
theorem tot_at {R : List (List (Option Nat))} {k : Nat} (h : k < R.length) : (R.getD k []).length ≤ tot R := by
  have h1 := tot_take_succ R k h
  have h2 := tot_take_le R (k + 1)
  omega
theorem tot_all {R : List (List (Option Nat))} {n : Nat} (h : R.length = n) : tot (R.take n) = tot R := by rw [List.take_of_length_le (by omega)]

/-- The slice of address A and length n holds the lists R, which are read, below block B. -/
structure RdS (w : World) (B : Nat) (A : Option Addr) (n : Nat) (R : List (List (Option Nat))) : Prop where
  len : R.length = n
  at_ : ∀ k, k < n → ∃ b off, A = some ⟨b, off, none⟩ ∧ b < B ∧ ∀ j, j < n → ∃ A' c', w.cell? ⟨b, off + j, none⟩ = some (.slice A' (R.getD j []).length c') ∧ RdF w B A' (R.getD j []).length (R.getD j []) ∧ (R.getD j []).length ≤ c'
theorem RdS.cell {w : World} {B n k : Nat} {A : Option Addr} {R : List (List (Option Nat))} (h : RdS w B A n R) (hk : k < n) :
    ∃ b off A' c', A = some ⟨b, off, none⟩ ∧ b < B ∧ w.cell? ⟨b, off + k, none⟩ = some (.slice A' (R.getD k []).length c') ∧ RdF w B A' (R.getD k []).length (R.getD k []) ∧ (R.getD k []).length ≤ c' := by
  obtain ⟨b, off, hA, hb, hj⟩ := h.at_ k hk
  obtain ⟨A', c', h1, h2, h3⟩ := hj k hk
  exact ⟨b, off, A', c', hA, hb, h1, h2, h3⟩
theorem RdS.keep {w w' : World} {B n : Nat} {A : Option Addr} {R : List (List (Option Nat))} (h : RdS w B A n R) (hk : ∀ p : Addr, p.block < B → w'.cell? p = w.cell? p) : RdS w' B A n R :=
  ⟨h.len, fun k hkn => by
    obtain ⟨b, off, hA, hb, hj⟩ := h.at_ k hkn
    refine ⟨b, off, hA, hb, fun j hjn => ?_⟩
    obtain ⟨A', c', h1, h2, h3⟩ := hj j hjn
    exact ⟨A', c', (hk _ hb).trans h1, h2.keep hk, h3⟩⟩
theorem RdS.below {w w' : World} {B n : Nat} {A : Option Addr} {R : List (List (Option Nat))} (h : RdS w B A n R) (hb : Below B w w') : RdS w' B A n R := h.keep fun _ hp => hb.cell hp
theorem RdS.more {w : World} {B B' n : Nat} {A : Option Addr} {R : List (List (Option Nat))} (h : RdS w B A n R) (hB : B ≤ B') : RdS w B' A n R :=
  ⟨h.len, fun k hkn => by
    obtain ⟨b, off, hA, hb, hj⟩ := h.at_ k hkn
    refine ⟨b, off, hA, by omega, fun j hjn => ?_⟩
    obtain ⟨A', c', h1, h2, h3⟩ := hj j hjn
    exact ⟨A', c', h1, h2.more hB, h3⟩⟩
/-- A gather that is read. -/
structure RdG (w : World) (B : Nat) (v : Value) (G : Gat) : Prop where
  ex : ∃ Ap cp At ct, v = .agg #[.int .i64 G.t, .slice Ap G.p.length cp, .slice At G.r.length ct] ∧ RdF w B Ap G.p.length G.p ∧ RdS w B At G.r.length G.r ∧ G.p.length ≤ cp ∧ G.r.length ≤ ct
theorem RdG.below {w w' : World} {B : Nat} {v : Value} {G : Gat} (h : RdG w B v G) (hb : Below B w w') : RdG w' B v G := by
  obtain ⟨Ap, cp, At, ct, h1, h2, h3, h4, h5⟩ := h.ex
  exact ⟨Ap, cp, At, ct, h1, h2.below hb, h3.below hb, h4, h5⟩
theorem RdG.more {w : World} {B B' : Nat} {v : Value} {G : Gat} (h : RdG w B v G) (hB : B ≤ B') : RdG w B' v G := by
  obtain ⟨Ap, cp, At, ct, h1, h2, h3, h4, h5⟩ := h.ex
  exact ⟨Ap, cp, At, ct, h1, h2.more hB, h3.more hB, h4, h5⟩
/-- A gather in a box of its own. -/
structure GbAt (w : World) (b : Nat) (t : Int) (Ap : Option Addr) (np cp : Nat) (At : Option Addr) (nt ct : Nat) : Prop where
  p0 : w.cell? ⟨b, 0, none⟩ = some (.int .i64 t)
  p1 : w.cell? ⟨b, 1, none⟩ = some (.slice Ap np cp)
  p2 : w.cell? ⟨b, 2, none⟩ = some (.slice At nt ct)
  lt : b < w.heap.size
theorem GbAt.blk {w : World} {b : Nat} {T : TypeId} {t : Int} {Ap At : Option Addr} {np cp nt ct : Nat} (hg : w.heap[b]? = some (.cells #[.int .i64 t, .slice Ap np cp, .slice At nt ct] T (0, 0))) : GbAt w b t Ap np cp At nt ct :=
  ⟨by rw [cell_of_row w b _ _ _ (0, 0) hg]; rfl, by rw [cell_of_row w b _ _ _ (0, 0) hg]; rfl, by rw [cell_of_row w b _ _ _ (0, 0) hg]; rfl, blk_lt hg⟩
theorem GbAt.ext {w w' : World} {b : Nat} {t : Int} {Ap At : Option Addr} {np cp nt ct : Nat} (h : GbAt w b t Ap np cp At nt ct) (hx : Ext w w') : GbAt w' b t Ap np cp At nt ct :=
  ⟨(hx.cell h.lt).trans h.p0, (hx.cell h.lt).trans h.p1, (hx.cell h.lt).trans h.p2, Nat.lt_of_lt_of_le h.lt hx.size⟩

/-- Lists of a call's own: the block g holds the slices, each list has a block of its own. -/
structure OwS (w : World) (g : Nat) (f : Nat → Nat) (A : Option Addr) (n : Nat) (R : List (List (Option Nat))) : Prop where
  len : R.length = n
  spine : n = 0 ∨ ∃ off cs t, A = some ⟨g, off, none⟩ ∧ w.heap[g]? = some (.cells cs t (0, 0)) ∧ off + n ≤ cs.size ∧ ∀ j, j < n → ∃ A' c', cs[off + j]? = some (.slice A' (R.getD j []).length c') ∧ OwL w (f j) (f j + 1) A' (R.getD j []).length (R.getD j []) ∧ (R.getD j []).length ≤ c' ∧ f j ≠ g
  inj : ∀ i j, i < j → j < n → f i ≠ f j
theorem OwS.nil (w : World) (g : Nat) (f : Nat → Nat) (A : Option Addr) : OwS w g f A 0 [] := ⟨rfl, .inl rfl, fun _ _ _ h => absurd h (Nat.not_lt_zero _)⟩
/-- It stays where none of its blocks turns. -/
theorem OwS.same {w w' : World} {g n : Nat} {f : Nat → Nat} {A : Option Addr} {R : List (List (Option Nat))} (h : OwS w g f A n R) (hg : n = 0 ∨ w'.heap[g]? = w.heap[g]?) (hf : ∀ j, j < n → w'.heap[f j]? = w.heap[f j]?) : OwS w' g f A n R := by
  refine ⟨h.len, ?_, h.inj⟩
  rcases h.spine with h0 | ⟨off, cs, t, hA, hb, hs, hc⟩
  · exact .inl h0
  · rcases hg with h0 | hg
    · exact .inl h0
    refine .inr ⟨off, cs, t, hA, hg.trans hb, hs, fun j hj => ?_⟩
    obtain ⟨A', c', h1, h2, h3, h4⟩ := hc j hj
    exact ⟨A', c', h1, h2.same (fun k h5 h6 => by have : k = f j := by omega
                                                  rw [this]; exact hf j hj), h3, h4⟩
theorem OwS.rd {w : World} {g n hi : Nat} {f : Nat → Nat} {A : Option Addr} {R : List (List (Option Nat))} (h : OwS w g f A n R) (hg : n = 0 ∨ g < hi) (hf : ∀ j, j < n → f j < hi) : RdS w hi A n R := by
  refine ⟨h.len, fun k hk => ?_⟩
  rcases h.spine with h0 | ⟨off, cs, t, hA, hb, hs, hc⟩
  · omega
  · refine ⟨g, off, hA, by omega, fun j hj => ?_⟩
    obtain ⟨A', c', h1, h2, h3, _⟩ := hc j hj
    exact ⟨A', c', by rw [cell_of_row w g _ cs _ (0, 0) hb]; exact h1, h2.rd.more (by have := hf j hj; omega), h3⟩
/-- A gather of a call's own, in blocks from lo to hi. -/
structure OwG (w : World) (lo hi : Nat) (v : Value) (G : Gat) : Prop where
  ex : ∃ Ap cp At ct gp g f, v = .agg #[.int .i64 G.t, .slice Ap G.p.length cp, .slice At G.r.length ct] ∧ OwL w gp (gp + 1) Ap G.p.length G.p ∧ OwS w g f At G.r.length G.r ∧ G.p.length ≤ cp ∧ G.r.length ≤ ct ∧
    (G.p.length = 0 ∨ (lo ≤ gp ∧ gp < hi)) ∧ (G.r.length = 0 ∨ (lo ≤ g ∧ g < hi ∧ g ≠ gp)) ∧ ∀ j, j < G.r.length → lo ≤ f j ∧ f j < hi ∧ f j ≠ gp
theorem OwG.rd {w : World} {lo hi : Nat} {v : Value} {G : Gat} (h : OwG w lo hi v G) : RdG w hi v G := by
  obtain ⟨Ap, cp, At, ct, gp, g, f, h1, h2, h3, h4, h5, h6, h7, h8⟩ := h.ex
  refine ⟨Ap, cp, At, ct, h1, ?_, h3.rd (by rcases h7 with h | h; exact .inl h; exact .inr h.2.1) (fun j hj => (h8 j hj).2.1), h4, h5⟩
  rcases h6 with h0 | ⟨_, h6⟩
  · have := h2.rd
    exact ⟨this.len, fun k hk => by omega⟩
  · exact h2.rd.more (by omega)
theorem OwG.same {w w' : World} {lo hi : Nat} {v : Value} {G : Gat} (h : OwG w lo hi v G) (hs : Same lo hi w w') : OwG w' lo hi v G := by
  obtain ⟨Ap, cp, At, ct, gp, g, f, h1, h2, h3, h4, h5, h6, h7, h8⟩ := h.ex
  refine ⟨Ap, cp, At, ct, gp, g, f, h1, ?_, h3.same ?_ (fun j hj => hs _ (h8 j hj).1 (h8 j hj).2.1), h4, h5, h6, h7, h8⟩
  · rcases h6 with h0 | ⟨h6, h6'⟩
    · exact ⟨h2.len, .inl h0⟩
    · exact h2.same (fun k h9 h10 => hs k (by omega) (by omega))
  · rcases h7 with h | h
    · exact .inl h
    · exact .inr (hs g h.1 h.2.1)
theorem OwG.ext {w w' : World} {lo hi : Nat} {v : Value} {G : Gat} (h : OwG w lo hi v G) (hh : hi ≤ w.heap.size) (hx : Ext w w') : OwG w' lo hi v G := h.same (hx.same hh)
theorem OwG.more {w : World} {lo hi lo' hi' : Nat} {v : Value} {G : Gat} (h : OwG w lo hi v G) (h1 : lo' ≤ lo) (h2 : hi ≤ hi') : OwG w lo' hi' v G := by
  obtain ⟨Ap, cp, At, ct, gp, g, f, e1, e2, e3, e4, e5, e6, e7, e8⟩ := h.ex
  refine ⟨Ap, cp, At, ct, gp, g, f, e1, e2, e3, e4, e5, ?_, ?_, fun j hj => ?_⟩
  · rcases e6 with h | h
    · exact .inl h
    · exact .inr ⟨by omega, by omega⟩
  · rcases e7 with h | ⟨h3, h4, h5⟩
    · exact .inl h
    · exact .inr ⟨by omega, by omega, h5⟩
  · obtain ⟨h3, h4, h5⟩ := e8 j hj
    exact ⟨by omega, by omega, h5⟩
theorem OwG.setOther {w : World} {lo hi : Nat} {v : Value} {G : Gat} (h : OwG w lo hi v G) {p : Addr} (hp : p.block < lo ∨ hi ≤ p.block) (u : Value) : OwG (w.setCell p u) lo hi v G :=
  h.same (fun k h1 h2 => Below.heap_setCell w p u k (by omega))
theorem OwG.val {w : World} {lo hi : Nat} {v : Value} {G : Gat} (h : OwG w lo hi v G) : ∃ Ap cp At ct, v = .agg #[.int .i64 G.t, .slice Ap G.p.length cp, .slice At G.r.length ct] := by
  obtain ⟨Ap, cp, At, ct, gp, g, f, h1, _⟩ := h.ex
  exact ⟨Ap, cp, At, ct, h1⟩
/-- The gather that is returned where none is. -/
def noG : Gat := ⟨0, [], []⟩
def outG (ok : Bool) (G : Gat) : Gat := if ok then G else noG
theorem OwG.no (w : World) (lo hi : Nat) (A A' : Option Addr) (c c' : Nat) : OwG w lo hi (.agg #[.int .i64 0, .slice A 0 c, .slice A' 0 c']) noG :=
  ⟨A, c, A', c', 0, 0, id, rfl, OwL.nil _ _ _ _, OwS.nil _ _ _ _, Nat.zero_le _, Nat.zero_le _, .inl rfl, .inl rfl, fun _ h => absurd h (Nat.not_lt_zero _)⟩
/-- A gather of a call's own is returned, with its success. -/
def RetG (w : World) (e : Ending) (w' : World) (ok : Bool) (G : Gat) : Prop :=
  ∃ v, e = .returned (.tuple #[v, .bool ok]) ∧ OwG w' w.heap.size w'.heap.size v (outG ok G) ∧ Ext w w'
theorem retG_no {w w' : World} {G : Gat} {f : Bool} (hf : f = false) (hx : Ext w w') : RetG w (.returned (.tuple #[.agg #[.int .i64 0, .slice none 0 0, .slice none 0 0], .bool false])) w' f G := by
  subst hf; exact ⟨_, rfl, OwG.no _ _ _ _ _ _ _, hx⟩
/-- All that a gather has. -/
def gsz (G : Gat) : Nat := G.p.length + (G.r.length + tot G.r)
/-- Marks. -/
def marksS (k : Nat) (R : List (List (Option Nat))) : List (List (Option Nat)) := (List.range R.length).map fun j => marks (k + tot (R.take j)) (R.getD j []).length
theorem marksS_len (k : Nat) (R : List (List (Option Nat))) : (marksS k R).length = R.length := by simp [marksS]
theorem marksS_at {k j : Nat} {R : List (List (Option Nat))} (h : j < R.length) : (marksS k R).getD j [] = marks (k + tot (R.take j)) (R.getD j []).length := by simp [marksS, List.getD, h]
theorem marksS_row {k j : Nat} {R : List (List (Option Nat))} (h : j < R.length) : ((marksS k R).getD j []).length = (R.getD j []).length := by rw [marksS_at h, marks_len]
def markG (k : Nat) (G : Gat) : Gat := ⟨G.t, marks k G.p.length, marksS (k + G.p.length) G.r⟩
end Go.Proofs.Ytfmhdnhaaohdjaa
