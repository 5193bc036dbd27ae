/- Equations of Toeplitz form: the recursion's numbers; rows of one's own beside others; the program's steps. Condition: the lists are read. -/
import Derived.Test.YtceldjkgddbfaabKd
import Derived.Maps.AppendAt
namespace Go.Proofs.Ytceldjkgddbfaab
open Go.RowKit Ieee

/-- The list p and what is left, behind n steps. -/
def tst (A : List (Option Nat)) : Nat → List (Option Nat) × Option Nat
  | 0 => ([fu], A.getD 0 none)
  | n + 1 => (fnext (tst A n).1 (fop .quo .f32 (ffs (tst A n).1 A ((n + 1 : Nat) : Int) (n + 1)) (tst A n).2),
      fop .sub .f32 (tst A n).2 (fop .mul .f32 (fop .quo .f32 (ffs (tst A n).1 A ((n + 1 : Nat) : Int) (n + 1)) (tst A n).2) (ffs (tst A n).1 A ((n + 1 : Nat) : Int) (n + 1))))
def tS (A : List (Option Nat)) (n : Nat) : Option Nat := ffs (tst A n).1 A ((n + 1 : Nat) : Int) (n + 1)
def tC (A : List (Option Nat)) (n : Nat) : Option Nat := fop .quo .f32 (tS A n) (tst A n).2
theorem tst_p (A : List (Option Nat)) (n : Nat) : (tst A (n + 1)).1 = fnext (tst A n).1 (tC A n) := rfl
theorem tst_e (A : List (Option Nat)) (n : Nat) : (tst A (n + 1)).2 = fop .sub .f32 (tst A n).2 (fop .mul .f32 (tC A n) (tS A n)) := rfl
theorem fnext_len (p : List (Option Nat)) (C : Option Nat) : (fnext p C).length = p.length + 1 := by unfold fnext; exact lst_len _ _
theorem tst_len (A : List (Option Nat)) : ∀ n, (tst A n).1.length = n + 1
  | 0 => rfl
  | n + 1 => by rw [tst_p, fnext_len, tst_len A n]
def tok (A : List (Option Nat)) : Nat → Bool
  | 0 => gt0 (tst A 0).2
  | n + 1 => tok A n && gt0 (tst A (n + 1)).2
theorem tok_at {A : List (Option Nat)} : ∀ {n j : Nat}, tok A n = true → j ≤ n → gt0 (tst A j).2 = true
  | 0, j, h, hj => by
    obtain rfl : j = 0 := by omega
    exact h
  | n + 1, j, h, hj => by
    rw [tok, Bool.and_eq_true] at h
    rcases Nat.lt_or_ge n j with h1 | h1
    · obtain rfl : j = n + 1 := by omega
      exact h.2
    · exact tok_at h.1 h1
theorem tok_no {A : List (Option Nat)} {n j : Nat} (h : gt0 (tst A j).2 = false) (hj : j ≤ n) : tok A n = false := by
  cases ht : tok A n
  · rfl
  · rw [tok_at ht hj] at h; cases h
theorem tok_s {A : List (Option Nat)} {n : Nat} (h : tok A n = true) (h1 : gt0 (tst A (n + 1)).2 = true) : tok A (n + 1) = true := by rw [tok, h, h1]; rfl
def tG (A : List (Option Nat)) (F : List (Option Nat)) (n : Nat) : Option Nat := ffs F A ((n + 1 : Nat) : Int) (n + 1)
def tT (A R F : List (Option Nat)) (n : Nat) : Option Nat := fop .quo .f32 (fop .sub .f32 (R.getD (n + 1) none) (tG A F n)) (tst A (n + 1)).2
def tF (A R : List (Option Nat)) : Nat → List (Option Nat)
  | 0 => [fop .quo .f32 (R.getD 0 none) (A.getD 0 none)]
  | n + 1 => lst (fplus (tF A R n ++ [fz]) (tT A R (tF A R n) n) (tst A (n + 1)).1) (n + 2)
theorem tF_len (A R : List (Option Nat)) : ∀ n, (tF A R n).length = n + 1
  | 0 => rfl
  | n + 1 => by rw [tF, lst_len]
/-- The product's last step: all numbers of the first list meet. -/
theorem ffs_next {P A : List (Option Nat)} {k i d : Nat} (hk : k < A.length) (hi : i + d = k) : ffs P A ((k : Nat) : Int) (i + 1) = fop .add .f32 (ffs P A ((k : Nat) : Int) i) (fop .mul .f32 (P.getD i none) (A.getD d none)) := by
  rw [ffs_yes (meet_yes (by omega) (by omega)), show ((k : Int) - (i : Int)).toNat = d by omega]
def okSv (n m : Nat) (A : List (Option Nat)) : Bool := elen n && (same2 n m && tok A (n - 1))

theorem own_ext {w w' : World} {base n : Nat} {v : Value} {xs : List Value} (h : w.ownsRow base 28 1 v n xs) (hx : Ext w w') : w'.ownsRow base 28 1 v n xs := by
  refine ⟨h.1, ?_⟩
  rcases h.2 with hn | ⟨g, cap, cur, hv, hb, hg, hr⟩
  · exact .inl hn
  · exact .inr ⟨g, cap, cur, hv, hb, hx.blk hg, hr⟩
theorem own_drew {w : World} {base n : Nat} {v : Value} {xs : List Value} (h : w.ownsRow base 28 1 v n xs) (q : Nat) : (w.drewN q).ownsRow base 28 1 v n xs := h
/-- A row keeps its block while another one turns. -/
theorem own_kb {w w' : World} {base n gf : Nat} {v : Value} {xs : List Value} (h : w.ownsRow base 28 1 v n xs) (hk : Kb gf (gf + 1) w w') (hne : v.ownBlock ≠ some gf) : w'.ownsRow base 28 1 v n xs := by
  refine ⟨h.1, ?_⟩
  rcases h.2 with hn | ⟨g, cap, cur, hv, hb, hg, hr⟩
  · exact .inl hn
  · refine .inr ⟨g, cap, cur, hv, hb, ?_, hr⟩
    subst hv
    have hgf : g ≠ gf := fun e => hne (by rw [e]; rfl)
    rcases Nat.lt_or_ge g gf with h1 | h1
    · rw [hk.below.block g h1]; exact hg
    · rw [hk.above g (by omega) (blk_lt hg)]; exact hg
/-- A list is read on where another row grows. -/
theorem OwL.grown {w w' : World} {lo hi n : Nat} {A : Option Addr} {L : List (Option Nat)} {row : Option Nat} (h : OwL w lo hi A n L) (hg : w.grownBy w' row) (hne : ∀ a, A = some a → row ≠ some a.block) : OwL w' lo hi A n L := by
  refine ⟨h.len, ?_⟩
  rcases h.at_ with h0 | ⟨g, off, cs, hA, h1, h2, hb, hrest⟩
  · exact .inl h0
  · exact .inr ⟨g, off, cs, hA, h1, h2, (hg.block g (blk_lt hb) (fun e => hne _ hA e.symm)).trans hb, hrest⟩
theorem OwL.block {w : World} {lo hi n : Nat} {A : Option Addr} {L : List (Option Nat)} (h : OwL w lo hi A n L) (hn : 0 < n) : ∃ g off, A = some ⟨g, off, none⟩ ∧ lo ≤ g ∧ g < hi := by
  rcases h.at_ with h0 | ⟨g, off, cs, hA, h1, h2, _⟩
  · omega
  · exact ⟨g, off, hA, h1, h2⟩

theorem OwL.off {w w' : World} {lo hi n g : Nat} {A : Option Addr} {L : List (Option Nat)} {cs : Array Value} {T : TypeId} (h : OwL w lo hi A n L) (hg : w.heap[g]? = some (.cells cs T (0, 0))) (hT : T ≠ 28) (hk : Kb g (g + 1) w w') : OwL w' lo hi A n L := by
  refine ⟨h.len, ?_⟩
  rcases h.at_ with h0 | ⟨g', off, cs', hA, h1, h2, hb, hrest⟩
  · exact .inl h0
  · refine .inr ⟨g', off, cs', hA, h1, h2, ?_, hrest⟩
    have hne : g' ≠ g := fun e => by
      subst e
      rw [hg] at hb
      exact hT (Obj.cells.inj (Option.some.inj hb)).2.1
    rcases Nat.lt_or_ge g' g with h3 | h3
    · rw [hk.below.block g' h3]; exact hb
    · rw [hk.above g' (by omega) (blk_lt hb)]; exact hb
set_option maxRecDepth 20000 in
set_option maxHeartbeats 1000000 in
theorem c_share {w : World} {a p : Value} {e x : Nat} {E X : Option Nat} (fe : Fl .f32 e E) (fx : Fl .f32 x X) :
    Calls Try.prog 55 #[.agg #[a, p, .float .f32 e], .float .f32 x] w fun z w' => ∃ r, z = .returned (.tuple #[.float .f32 r, .bool (gt0 E)]) ∧ Fl .f32 r (if gt0 E then fop .quo .f32 X E else fz) ∧ Ext w w' := by
  have hg := fe.ogt0
  have hc : (w.alloc (.cells #[a, p, .float .f32 e] 76)).cell? ⟨w.heap.size, 2, none⟩ = some (.float .f32 e) := by
    rw [cell_of_row _ _ _ _ _ (0, 0) (heap_alloc_new w _)]; rfl
  cases hE : gt0 E
  · rw [hE] at hg
    go_enter Try.func55, Try.ntmps55
    go_wp2_with (fail)
    go_ret2
    exact ⟨_, rfl, fl_fz, (by repeat (first | assumption | exact Ext.refl _ | apply Ext.drewN | apply Ext.drew | apply Ext.alloc | (refine Ext.trans ?_ (by assumption)) | (refine Ext.set ?_ (by dsimp only; omega) _)))⟩
  · rw [hE] at hg
    go_enter Try.func55, Try.ntmps55
    go_wp2_with (apply upon_fop rfl; (exact fx); (exact fe); intro r5 n5 hr5)
    go_ret2
    exact ⟨_, rfl, hr5, (by repeat (first | assumption | exact Ext.refl _ | apply Ext.drewN | apply Ext.drew | apply Ext.alloc | (refine Ext.trans ?_ (by assumption)) | (refine Ext.set ?_ (by dsimp only; omega) _)))⟩
/-- The recursion's box. -/
def RcAt (w : World) (g : Nat) (a p : Value) (e : Nat) : Prop := w.heap[g]? = some (.cells #[a, p, .float .f32 e] 76 (0, 0))
theorem RcAt.c {w : World} {g e : Nat} {a p : Value} (h : RcAt w g a p e) : w.cell? ⟨g, 0, none⟩ = some a ∧ w.cell? ⟨g, 1, none⟩ = some p ∧ w.cell? ⟨g, 2, none⟩ = some (.float .f32 e) := by
  refine ⟨?_, ?_, ?_⟩ <;> (rw [cell_of_row w g _ _ _ (0, 0) h]; rfl)
theorem RcAt.f {w : World} {g e : Nat} {a p : Value} (h : RcAt w g a p e) (j : Nat) : w.frozen? ⟨g, j, none⟩ = false := by unfold RcAt at h; simp [World.frozen?, h]
theorem RcAt.ext {w w' : World} {g e : Nat} {a p : Value} (h : RcAt w g a p e) (hx : Ext w w') : RcAt w' g a p e := hx.blk h
theorem RcAt.p {w : World} {g e : Nat} {a p : Value} (h : RcAt w g a p e) (u : Value) : RcAt (w.setCell ⟨g, 1, none⟩ u) g a u e := blk_set1 h 1 u
theorem RcAt.e {w : World} {g e : Nat} {a p : Value} (h : RcAt w g a p e) (u : Nat) : RcAt (w.setCell ⟨g, 2, none⟩ (.float .f32 u)) g a p u := blk_set1 h 2 _
end Go.Proofs.Ytceldjkgddbfaab
