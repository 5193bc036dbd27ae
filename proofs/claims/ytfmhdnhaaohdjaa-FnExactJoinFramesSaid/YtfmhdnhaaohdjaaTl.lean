/- Lists of floats that a call owns, without grounds: read, marked, found so; made, built, returned. No condition but sizes. -/
import Derived.Test.YtfmhdnhaaohdjaaC2
import Derived.Test.YtfmhdnhaaohdjaaOpen
import Derived.OwnWalk
import Derived.Lib.SmallJoins
import Derived.Deep.OwnRows
import Derived.Deep.RegionWith
import Derived.Deep.RegionLaw
import Derived.Deep.Cut
import Derived.Deep.CutRange
namespace Go.Proofs.Ytfmhdnhaaohdjaa
open Go.RowKit Go.ChangeShapes Go.WideShapes Go.Deep Ieee
/-- Nothing of the old memory has turned. -/
abbrev Ext (w w' : World) : Prop := Below w.heap.size w w'
theorem Ext.refl (w : World) : Ext w w := Below.refl _ _
theorem Ext.trans {a b c : World} (h : Ext a b) (k : Ext b c) : Ext a c := Below.trans h (Below.mono k h.size)
theorem Ext.drewN {a b : World} (h : Ext a b) (n : Nat) : Ext a (b.drewN n) := h.trans (Dr.below ⟨n, rfl⟩)
theorem Ext.drew {a b : World} (h : Ext a b) : Ext a b.drew := Below.drew h
theorem Ext.alloc {a b : World} (h : Ext a b) (o : Obj) : Ext a (b.alloc o) := Below.alloc h h.size o
theorem Ext.set {a b : World} (h : Ext a b) {p : Addr} (hp : a.heap.size ≤ p.block) (u : Value) : Ext a (b.setCell p u) := Below.setCell h hp u
theorem Ext.dr {a b c : World} (h : Ext a b) (k : Dr b c) : Ext a c := h.trans k.below
def fz : Option Nat := fl .f32 0
def fu : Option Nat := fl .f32 1065353216
def gt0 (x : Option Nat) : Bool := ford .f32 x fz == some .gt
def ge0 (x : Option Nat) : Bool := ford .f32 x fz == some .gt || ford .f32 x fz == some .eq
def lt0 (x : Option Nat) : Bool := ford .f32 x fz == some .lt
def lt1 (x : Option Nat) : Bool := ford .f32 x fu == some .lt
def flt32 (x y : Option Nat) : Bool := ford .f32 x y == some .lt
def fgt32 (x y : Option Nat) : Bool := ford .f32 x y == some .gt
def fabove (x : Option Nat) : Bool := ffin .f32 x && gt0 x
def fway (x : Option Nat) : Bool := ffin .f32 x && ge0 x
theorem Fl.ogt0 {r : Nat} {X : Option Nat} (h : Fl .f32 r X) : (FloatKind.f32.format.order r 0 == some .gt) = Ytfmhdnhaaohdjaa.gt0 X := by
  unfold Ytfmhdnhaaohdjaa.gt0 fz; rw [order_fl, h.eq]
theorem Fl.oge0 {r : Nat} {X : Option Nat} (h : Fl .f32 r X) : (FloatKind.f32.format.order r 0 == some .gt || FloatKind.f32.format.order r 0 == some .eq) = Ytfmhdnhaaohdjaa.ge0 X := by
  unfold Ytfmhdnhaaohdjaa.ge0 fz; rw [order_fl, h.eq]
theorem Fl.olt0 {r : Nat} {X : Option Nat} (h : Fl .f32 r X) : (FloatKind.f32.format.order r 0 == some .lt) = Ytfmhdnhaaohdjaa.lt0 X := by
  unfold Ytfmhdnhaaohdjaa.lt0 fz; rw [order_fl, h.eq]
theorem Fl.olt1 {r : Nat} {X : Option Nat} (h : Fl .f32 r X) : (FloatKind.f32.format.order r 1065353216 == some .lt) = Ytfmhdnhaaohdjaa.lt1 X := by
  unfold Ytfmhdnhaaohdjaa.lt1 fu; rw [order_fl, h.eq]
theorem Fl.olt {r q : Nat} {X Y : Option Nat} (h : Fl .f32 r X) (h' : Fl .f32 q Y) : (FloatKind.f32.format.order r q == some .lt) = flt32 X Y := by
  unfold flt32; rw [order_fl, h.eq, h'.eq]
theorem Fl.ogt {r q : Nat} {X Y : Option Nat} (h : Fl .f32 r X) (h' : Fl .f32 q Y) : (FloatKind.f32.format.order r q == some .gt) = fgt32 X Y := by
  unfold fgt32; rw [order_fl, h.eq, h'.eq]
theorem fl_fz : Fl .f32 0 fz := Fl.of32 (by decide)
theorem fl_fu : Fl .f32 1065353216 fu := Fl.of32 (by decide)
@[go_sem] theorem run_store_flt (P : Program) (w : World) (a : Addr) (m : Mode) (k : FloatKind) (b : Nat) : (store a (.float k b) m).run P w = stored P w a (.float k b) m := run_store P w a _ m rfl
theorem Ext.blk {w w' : World} (h : Ext w w') {g : Nat} {o : Obj} (hg : w.heap[g]? = some o) : w'.heap[g]? = some o := by
  have hlt : g < w.heap.size := by
    rcases Nat.lt_or_ge g w.heap.size with h1 | h1
    · exact h1
    · rw [Array.getElem?_eq_none h1] at hg; cases hg
  rw [h.block g hlt]; exact hg
theorem blk_lt {w : World} {g : Nat} {o : Obj} (hg : w.heap[g]? = some o) : g < w.heap.size := by
  rcases Nat.lt_or_ge g w.heap.size with h1 | h1
  · exact h1
  · rw [Array.getElem?_eq_none h1] at hg; cases hg
theorem al_size (w : World) (o : Obj) : (w.alloc o).heap.size = w.heap.size + 1 := by simp
theorem al_at {w : World} {o x : Obj} {k : Nat} (hk : k = w.heap.size) (hx : o = x) : (w.alloc o).heap[k]? = some x := by
  subst hk; subst hx; exact heap_alloc_new w o
theorem al_old {w : World} {o x : Obj} {k : Nat} (h : w.heap[k]? = some x) : (w.alloc o).heap[k]? = some x := by
  rw [Below.heap_alloc w o k (blk_lt h)]; exact h
theorem set_other {w : World} {p : Addr} {v : Value} {k : Nat} {x : Obj} (h : w.heap[k]? = some x) (hk : k ≠ p.block) : (w.setCell p v).heap[k]? = some x := by
  rw [Below.heap_setCell w p v k hk]; exact h
theorem blk_set1 {w : World} {g : Nat} {cs : Array Value} {t : TypeId} (hg : w.heap[g]? = some (.cells cs t (0, 0))) (k : Nat) (v : Value) :
    (w.setCell ⟨g, k, none⟩ v).heap[g]? = some (.cells (cs.setIfInBounds k v) t (0, 0)) := by
  simp [World.setCell, Array.getElem?_modify, hg]
/-- The mark of a number. -/
def mk (k : Nat) : Nat := floatOfInt .f32 (k : Int)
theorem mk_lt (k : Nat) : mk k < 2 ^ FloatKind.f32.format.width := FloatKind.f32.format.write_lt (.number (((k : Int)) < 0) (k : Int).natAbs 0)
theorem mk_fl (k : Nat) : fl .f32 (mk k) = some (mk k) := encode_fl (k := .f32) (d := .number (((k : Int)) < 0) (k : Int).natAbs 0) rfl
theorem mk_same (k : Nat) : (FloatKind.f32.format.order (mk k) (mk k) != some .eq) = false := by rw [order_self_ne, mk_fl]; rfl
theorem fl_mk (k : Nat) : Fl .f32 (mk k) (some (mk k)) := ⟨mk_fl k, mk_lt k⟩
theorem mk_int (k : Nat) : floatOfInt .f32 (k : Int) = mk k := rfl
def marks (k n : Nat) : List (Option Nat) := (List.range n).map fun j => some (mk (k + j))
theorem marks_len (k n : Nat) : (marks k n).length = n := by simp [marks]
theorem marks_at {k n j : Nat} (h : j < n) : (marks k n).getD j none = some (mk (k + j)) := by simp [marks, List.getD, h]
/-- Blocks from lo to hi are the same. -/
def Same (lo hi : Nat) (w w' : World) : Prop := ∀ k, lo ≤ k → k < hi → w'.heap[k]? = w.heap[k]?
theorem Same.refl (lo hi : Nat) (w : World) : Same lo hi w w := fun _ _ _ => rfl
theorem Same.trans {lo hi : Nat} {a b c : World} (h : Same lo hi a b) (h' : Same lo hi b c) : Same lo hi a c := fun k h1 h2 => (h' k h1 h2).trans (h k h1 h2)
theorem Ext.same {lo hi : Nat} {a b : World} (h : Ext a b) (hh : hi ≤ a.heap.size) : Same lo hi a b := fun k _ h2 => h.block k (by omega)
/-- Only blocks from lo to hi may have turned. -/
structure Kb (lo hi : Nat) (w w' : World) : Prop where
  below : Below lo w w'
  above : ∀ k, hi ≤ k → k < w.heap.size → w'.heap[k]? = w.heap[k]?
theorem Kb.refl (lo hi : Nat) (w : World) : Kb lo hi w w := ⟨Below.refl _ _, fun _ _ _ => rfl⟩
theorem Kb.set {lo hi : Nat} {a b : World} (h : Kb lo hi a b) {p : Addr} (h1 : lo ≤ p.block) (h2 : p.block < hi) (v : Value) : Kb lo hi a (b.setCell p v) :=
  ⟨h.below.setCell h1 v, fun k hk hs => (Below.heap_setCell b p v k (by omega)).trans (h.above k hk hs)⟩
theorem Kb.drewN {lo hi : Nat} {a b : World} (h : Kb lo hi a b) (n : Nat) : Kb lo hi a (b.drewN n) := ⟨⟨h.below.os, h.below.tape, h.below.output, h.below.size, h.below.block⟩, h.above⟩
theorem Kb.sameL {lo hi l r : Nat} {a b : World} (h : Kb lo hi a b) (hh : r ≤ lo) : Same l r a b := fun k _ h2 => h.below.block k (by omega)
theorem Kb.sameR {lo hi l r : Nat} {a b : World} (h : Kb lo hi a b) (hh : hi ≤ l) (hr : r ≤ a.heap.size) : Same l r a b := fun k h1 h2 => h.above k (by omega) (by omega)
theorem Kb.ext {lo hi : Nat} {a b c : World} (h : Kb lo hi b c) (hx : Ext a b) (hl : a.heap.size ≤ lo) : Ext a c := Below.trans hx (h.below.mono hl)
/-- The slice of address A and length n holds L, in a block from lo to hi that begins there. -/
structure OwL (w : World) (lo hi : Nat) (A : Option Addr) (n : Nat) (L : List (Option Nat)) : Prop where
  len : L.length = n
  at_ : n = 0 ∨ ∃ g off cs, A = some ⟨g, off, none⟩ ∧ lo ≤ g ∧ g < hi ∧ w.heap[g]? = some (.cells cs 83 (0, 0)) ∧ off + n ≤ cs.size ∧ ∀ j, j < n → ∃ r, cs[off + j]? = some (.float .f32 r) ∧ Fl .f32 r (L.getD j none)
theorem OwL.rd {w : World} {lo hi n : Nat} {A : Option Addr} {L : List (Option Nat)} (h : OwL w lo hi A n L) : RdF w hi A n L := by
  refine ⟨h.len, fun k hk => ?_⟩
  rcases h.at_ with h0 | ⟨g, off, cs, rfl, h1, h2, hg, hs, hc⟩
  · omega
  · refine ⟨g, off, rfl, h2, fun j hj => ?_⟩
    obtain ⟨r, e1, e2⟩ := hc j hj
    exact ⟨r, by rw [cell_of_row w g _ cs _ (0, 0) hg]; exact e1, e2⟩
theorem OwL.same {w w' : World} {lo hi n : Nat} {A : Option Addr} {L : List (Option Nat)} (h : OwL w lo hi A n L) (hs : Same lo hi w w') : OwL w' lo hi A n L := by
  refine ⟨h.len, ?_⟩
  rcases h.at_ with h0 | ⟨g, off, cs, hA, h1, h2, hg, hrest⟩
  · exact .inl h0
  · exact .inr ⟨g, off, cs, hA, h1, h2, (hs g h1 h2).trans hg, hrest⟩
theorem OwL.nil (w : World) (lo hi : Nat) (A : Option Addr) : OwL w lo hi A 0 [] := ⟨rfl, .inl rfl⟩
theorem mark_step {cs : Array Value} {off k k0 : Nat} (hk : off + k < cs.size) (h : ∀ j, j < k → cs[off + j]? = some (.float .f32 (mk (k0 + j)))) :
    ∀ j, j < k + 1 → (cs.setIfInBounds (off + k) (.float .f32 (mk (k0 + k))))[off + j]? = some (.float .f32 (mk (k0 + j))) := by
  intro j hj
  by_cases hjk : j = k
  · subst hjk; simp [hk]
  · rw [Array.getElem?_setIfInBounds, if_neg (by omega)]; exact h j (by omega)
set_option maxRecDepth 20000 in
set_option maxHeartbeats 1000000 in
theorem c_markFloat32S {w : World} {lo hi n c k0 : Nat} {A : Option Addr} {L : List (Option Nat)} (h : OwL w lo hi A n L) (hn : n ≤ 1048576) (hk0 : k0 ≤ 1000000000) :
    Calls Try.prog 51 #[.slice A n c, .int .i64 (k0 : Int)] w fun e w' => e = .returned (.int .i64 ((k0 + n : Nat) : Int)) ∧ OwL w' lo hi A n (marks k0 n) ∧ Kb lo hi w w' := by
  rcases Nat.eq_zero_or_pos n with rfl | hpos
  · go_enter Try.func51, Try.ntmps51
    go_wp2_with (fail)
    go_loopw [1, 5] (fun k i wr => k = .int .i64 (k0 : Int) ∧ i = .int .i64 0 ∧ wr = w) (fun _ _ _ => 0)
    case atStart => exact ⟨rfl, rfl, rfl⟩
    case round =>
      obtain ⟨rfl, rfl, rfl⟩ := hrel
      go_wp2_with (fail)
      go_ret
      exact ⟨rfl, OwL.nil _ _ _ _, Kb.refl _ _ _⟩
  obtain ⟨g, off, cs0, rfl, hlo, hhi, hg0, hsz0, _⟩ := h.at_.resolve_left (by omega)
  go_enter Try.func51, Try.ntmps51
  go_wp2_with (fail)
  go_loopw [1, 5] (fun q i wr => ∃ (k : Nat) (cs : Array Value), k ≤ n ∧ i = .int .i64 k ∧ q = .int .i64 ((k0 + k : Nat) : Int) ∧ wr.heap[g]? = some (.cells cs 83 (0, 0)) ∧ off + n ≤ cs.size ∧ (∀ j, j < k → cs[off + j]? = some (.float .f32 (mk (k0 + j)))) ∧ Kb lo hi w wr) (fun _ i _ => n - (intOf i).toNat)
  case atStart => exact ⟨0, cs0, Nat.zero_le _, rfl, rfl, hg0, hsz0, fun j hj => absurd hj (Nat.not_lt_zero _), Kb.refl _ _ _⟩
  case round =>
    obtain ⟨k, cs, hk, rfl, rfl, hg, hsz, hp, hkb⟩ := hrel
    by_cases hlt : k < n
    · obtain ⟨u, hu⟩ : ∃ u, cs[off + k]? = some u := ⟨cs[off + k]'(by omega), Array.getElem?_eq_getElem (by omega)⟩
      have hold : wr.cell? ⟨g, off + k, none⟩ = some u := by rw [cell_of_row wr g _ cs _ (0, 0) hg]; exact hu
      have hfz : wr.frozen? ⟨g, off + k, none⟩ = false := by simp [World.frozen?, hg]
      have HG := Lib.hid hg
      have HP := Lib.hid hp
      have HS := Lib.hid hsz
      have hi' : (k : Int) < (n : Int) := by omega
      clear hg hp hsz hu
      have hmi := mk_int (k0 + k)
      go_wp2_with (fail)
      exact ⟨⟨k + 1, cs.setIfInBounds (off + k) (.float .f32 (mk (k0 + k))), by omega, by go_num, by go_num, blk_set1 HG.out _ _, by rw [Array.size_setIfInBounds]; exact HS.out, mark_step (by have := HS.out; omega) HP.out, hkb.set hlo hhi _⟩, by simp [intOf]; omega⟩
    · have hkn : k = n := by omega
      subst hkn
      go_wp2_with (fail)
      go_ret
      refine ⟨rfl, ⟨marks_len _ _, .inr ⟨g, off, cs, rfl, hlo, hhi, hg, hsz, fun j hj => ⟨_, hp j hj, ?_⟩⟩⟩, hkb⟩
      rw [marks_at hj]
      exact fl_mk _
set_option maxRecDepth 20000 in
set_option maxHeartbeats 1000000 in
theorem c_heldFloat32S {w : World} {B n c k0 : Nat} {A : Option Addr} (h : RdF w B A n (marks k0 n)) (hn : n ≤ 1048576) (hk0 : k0 ≤ 1000000000) :
    Calls Try.prog 53 #[.slice A n c, .int .i64 (k0 : Int)] w fun e w' => e = .returned (.int .i64 ((k0 + n : Nat) : Int)) ∧ w' = w := by
  go_enter Try.func53, Try.ntmps53
  go_wp2_with (fail)
  go_loopw [1, 5] (fun q i wr => ∃ k : Nat, k ≤ n ∧ i = .int .i64 k ∧ q = .int .i64 ((k0 + k : Nat) : Int) ∧ wr = w) (fun _ i _ => n - (intOf i).toNat)
  case atStart => exact ⟨0, Nat.zero_le _, rfl, rfl, rfl⟩
  case round =>
    obtain ⟨k, hk, rfl, rfl, rfl⟩ := hrel
    by_cases hlt : k < n
    · obtain ⟨b, off, r, rfl, hb, hc, hr⟩ := h.cell hlt
      rw [marks_at hlt] at hr
      obtain rfl := (fl_some hr.eq).1
      have hi' : (k : Int) < (n : Int) := by omega
      have hmi : floatOfInt .f32 ((k0 : Int) + (k : Int)) = mk (k0 + k) := by rw [← Int.natCast_add]; rfl
      have hms := mk_same (k0 + k)
      clear hr
      go_wp2_with (fail)
      exact ⟨⟨k + 1, by omega, by go_num, by go_num, trivial⟩, by simp [intOf]; omega⟩
    · have hkn : k = n := by omega
      subst hkn
      go_wp2_with (fail)
      go_ret
      exact ⟨rfl, rfl⟩
theorem Kb.trans {lo hi : Nat} {a b c : World} (h : Kb lo hi a b) (h' : Kb lo hi b c) : Kb lo hi a c :=
  ⟨h.below.trans h'.below, fun k hk hs => (h'.above k hk (Nat.lt_of_lt_of_le hs h.below.size)).trans (h.above k hk hs)⟩
theorem Ext.kb {lo hi : Nat} {a b : World} (h : Ext a b) (hl : lo ≤ a.heap.size) : Kb lo hi a b := ⟨h.mono hl, fun k _ hs => h.block k hs⟩
/-- A list of floats of the call's own, from block base on. -/
structure OwF (w : World) (base : Nat) (v : Value) (n : Nat) (F : Nat → Option Nat) : Prop where
  own : ∃ xs, w.ownsRow base 83 1 v n xs ∧ ∀ j, j < n → ∃ r, xs[j]? = some (.float .f32 r) ∧ Fl .f32 r (F j)
theorem OwF.rd {w : World} {base n : Nat} {v : Value} {F : Nat → Option Nat} (h : OwF w base v n F) :
    ∃ A c, v = .slice A n c ∧ ∀ j, j < n → ∃ g r, A = some ⟨g, 0, none⟩ ∧ base ≤ g ∧ g < w.heap.size ∧ w.cell? ⟨g, j, none⟩ = some (.float .f32 r) ∧ Fl .f32 r (F j) := by
  obtain ⟨xs, ho, hx⟩ := h.own
  have ho' := ho
  obtain ⟨_, hd⟩ := ho
  rcases hd with ⟨hv, hn⟩ | ⟨g, cap, cur, hv, hb, hg, _, _, _, _⟩
  · exact ⟨none, 0, by rw [hv, hn], fun j hj => by omega⟩
  · refine ⟨some ⟨g, 0, none⟩, cap, hv, fun j hj => ?_⟩
    obtain ⟨r, h1, h2⟩ := hx j hj
    rw [hv] at ho'
    exact ⟨g, r, rfl, hb, blk_lt hg, by rw [ho'.cellAt j (by omega)]; exact h1, h2⟩
theorem OwF.ext {w w' : World} {base n : Nat} {v : Value} {F : Nat → Option Nat} (h : OwF w base v n F) (hx : Ext w w') : OwF w' base v n F := by
  obtain ⟨xs, ho, hr⟩ := h.own
  refine ⟨xs, ⟨ho.1, ?_⟩, hr⟩
  rcases ho.2 with hn | ⟨g, cap, cur, hv, hb, hg, hrest⟩
  · exact .inl hn
  · exact .inr ⟨g, cap, cur, hv, hb, hx.blk hg, hrest⟩
theorem cell1' {w : World} {g : Nat} {v0 : Value} {t : TypeId} (hg : w.heap[g]? = some (.cells #[v0] t (0, 0))) : w.cell? ⟨g, 0, none⟩ = some v0 := by
  rw [cell_of_row w g _ _ _ (0, 0) hg]; rfl
theorem one_new {w : World} {r : Nat} : ∀ j u, [Value.float .f32 r][j]? = some u → (w.alloc (.cells #[.float .f32 r] 83)).cell? ((⟨w.heap.size, 0, none⟩ : Addr).add j) = some u := by
  intro j u hj
  match j, hj with
  | 0, hj =>
    simp at hj
    subst hj
    simp [Addr.add]
theorem grown_ext {w w1 w' : World} {v : Value} {n : Nat} {e : TypeId} {xs : List Value} (hx : Ext w w1) (hown : w1.ownsRow w.heap.size e 1 v n xs) (hg : w1.grownBy w' v.ownBlock) : Ext w w' :=
  Below.grown hx hg hx.size (fun k hk => (hown.lt k hk).1)
theorem info_f32 : (Try.prog.info? 83).map (fun i => (i.zero, i.size, i.bytes)) = some (some (.float .f32 0), 1, 4) := by kernel_rfl
theorem pre_setF {cs : Array Value} {k q : Nat} {F : Nat → Option Nat} (hk : k < cs.size) (hp : ∀ j, j < k → ∃ r, cs[j]? = some (.float .f32 r) ∧ Fl .f32 r (F j)) (hq : Fl .f32 q (F k)) :
    ∀ j, j < k + 1 → ∃ r, (cs.setIfInBounds k (.float .f32 q))[j]? = some (.float .f32 r) ∧ Fl .f32 r (F j) := by
  intro j hj
  by_cases h : j = k
  · subst h
    exact ⟨q, by simp [hk], hq⟩
  · obtain ⟨r, h1, h2⟩ := hp j (by omega)
    exact ⟨r, by rw [Array.getElem?_setIfInBounds, if_neg (fun e => h e.symm)]; exact h1, h2⟩
theorem own_cell {w : World} {g n k : Nat} {cs : Array Value} {t : TypeId} (hg : w.heap[g]? = some (.cells cs t (0, 0))) (hsz : cs.size = n) (hk : k < n) :
    ∃ u, w.cell? ⟨g, k, none⟩ = some u ∧ w.frozen? ⟨g, k, none⟩ = false :=
  ⟨cs[k]'(by omega), by rw [cell_of_row w g _ cs _ (0, 0) hg]; exact Array.getElem?_eq_getElem (by omega), by simp [World.frozen?, hg]⟩
/-- What is returned of a list, if it is one. -/
def slc (ok : Bool) (A : Option Addr) (n c : Nat) : Value := if ok then .slice A n c else .slice none 0 0
def outL (ok : Bool) (M : List (Option Nat)) : List (Option Nat) := if ok then M else []
theorem outL_len (ok : Bool) (M : List (Option Nat)) : (outL ok M).length ≤ M.length := by cases ok <;> simp [outL]
/-- A list of a call's own is returned, with its success. -/
def RetL (w : World) (e : Ending) (w' : World) (ok : Bool) (M : List (Option Nat)) : Prop :=
  ∃ A n c, e = .returned (.tuple #[.slice A n c, .bool ok]) ∧ OwL w' w.heap.size w'.heap.size A n (outL ok M) ∧ Ext w w'
def lst (F : Nat → Option Nat) (n : Nat) : List (Option Nat) := (List.range n).map F
theorem lst_len (F : Nat → Option Nat) (n : Nat) : (lst F n).length = n := by simp [lst]
theorem lst_at {F : Nat → Option Nat} {n j : Nat} (h : j < n) : (lst F n).getD j none = F j := by simp [lst, List.getD, h]
theorem OwF.owl {w : World} {base n : Nat} {v : Value} {F : Nat → Option Nat} (h : OwF w base v n F) : ∃ A c, v = .slice A n c ∧ OwL w base w.heap.size A n (lst F n) := by
  obtain ⟨xs, ho, hx⟩ := h.own
  obtain ⟨hlen, hd⟩ := ho
  rcases hd with ⟨hv, rfl⟩ | ⟨g, cap, cur, hv, hb, hg, hnc, _, hcs, htk⟩
  · exact ⟨none, 0, hv, OwL.nil _ _ _ _⟩
  · refine ⟨some ⟨g, 0, none⟩, cap, hv, lst_len _ _, .inr ⟨g, 0, cur, rfl, hb, blk_lt hg, hg, by omega, fun j hj => ?_⟩⟩
    obtain ⟨r, h1, h2⟩ := hx j hj
    refine ⟨r, ?_, by rw [lst_at hj]; exact h2⟩
    rw [← htk, List.getElem?_take_of_lt (by omega)] at h1
    rw [Nat.zero_add]
    simpa using h1
theorem OwL.more {w : World} {lo hi lo' hi' n : Nat} {A : Option Addr} {L : List (Option Nat)} (h : OwL w lo hi A n L) (h1 : lo' ≤ lo) (h2 : hi ≤ hi') : OwL w lo' hi' A n L := by
  refine ⟨h.len, ?_⟩
  rcases h.at_ with h0 | ⟨g, off, cs, hA, h3, h4, hrest⟩
  · exact .inl h0
  · exact .inr ⟨g, off, cs, hA, by omega, by omega, hrest⟩
theorem OwL.ext {w w' : World} {lo hi n : Nat} {A : Option Addr} {L : List (Option Nat)} (h : OwL w lo hi A n L) (hh : hi ≤ w.heap.size) (hx : Ext w w') : OwL w' lo hi A n L :=
  h.same (hx.same hh)
/-- What is returned of an owned list. -/
theorem retL_of {w w1 w' : World} {A : Option Addr} {n c : Nat} {M : List (Option Nat)} {f : Bool} (hx : Ext w w1) (ho : OwL w1 w.heap.size w1.heap.size A n M) (hd : Ext w1 w') :
    RetL w (.returned (.tuple #[slc f A n c, .bool f])) w' f M := by
  cases f
  · exact ⟨none, 0, 0, rfl, OwL.nil _ _ _ _, hx.trans hd⟩
  · exact ⟨A, n, c, rfl, (ho.ext (Nat.le_refl _) hd).more (Nat.le_refl _) hd.size, hx.trans hd⟩
theorem retL_no {w w' : World} {M : List (Option Nat)} {f : Bool} (hf : f = false) (hx : Ext w w') : RetL w (.returned (.tuple #[.slice none 0 0, .bool false])) w' f M := by
  subst hf; exact ⟨none, 0, 0, rfl, OwL.nil _ _ _ _, hx⟩
/-- A list of a call's own is returned, with its success, to the letter. -/
def RetQ (w : World) (e : Ending) (w' : World) (ok : Bool) (q : Nat) (Q : List (Option Nat)) : Prop :=
  ∃ A c, e = .returned (.tuple #[.slice A q c, .bool ok]) ∧ OwL w' w.heap.size w'.heap.size A q Q ∧ Ext w w'
theorem RetL.q {w w' : World} {e : Ending} {ok : Bool} {M : List (Option Nat)} (h : RetL w e w' ok M) : RetQ w e w' ok (outL ok M).length (outL ok M) := by
  obtain ⟨A, n, c, rfl, ho, hx⟩ := h
  obtain rfl := ho.len
  exact ⟨A, c, rfl, ho, hx⟩
theorem size_drewN (w : World) (m : Nat) : (w.drewN m).heap.size = w.heap.size := rfl
/-- append to a list of the call's own, as a step of a region that draws its order. -/
theorem step_append_own {P : Program} {ops : Array Oper} {o : Oper} {a : Act} {w : World} {K : Act → World → Prop} {Q : Exit → Act → World → Prop} {E : Prop}
    (hg : o.guard = none) (s x : Operand) (t : TypeId) (hop : o.op = Op.call { callee := Callee.builtin Builtin.append, args := #[s, x], argTypes := #[t, t] })
    (e : TypeId) (i : TypeInfo) (z : Value) (size bytes : Nat) (h1 : P.underlying t = some (.slice e)) (h2 : P.info? e = some i) (h3 : i.zero = some z) (h4 : i.size = size) (h5 : i.bytes = bytes) (h6 : z.cells.size = size) (h7 : 0 < size)
    (base : Nat) (v : Value) (n : Nat) (olds : List Value) (hs : a.eval s = v) (hown : w.ownsRow base e size v n olds)
    (ad : Addr) (m c : Nat) (news : List Value) (hx : a.eval x = .slice (some ad) m c) (hn : news.length = m * size) (hc : ∀ j u, news[j]? = some u → w.cell? (ad.add j) = some u) (h1c : ∀ u ∈ news, u.oneCell' = true)
    (b1 : n + m ≤ maxLen) (b2 : (n + m) * bytes ≤ 140737488355328) (hb : base ≤ w.heap.size)
    (hK : ∀ v' w', w'.ownsRow base e size v' (n + m) (olds ++ news) → w.grownBy w' v.ownBlock → K (a.put o.dst v') w') :
    if Region.wanted o (yielded ops a.tmps) = true then Oper.wp P o a w K Q else E := by
  have hw : Region.wanted o (yielded ops a.tmps) = true := by simp [Region.wanted, hg]
  rw [if_pos hw]
  obtain ⟨v', w', hrun, r1, r2, _⟩ := run_append_own (P := P) w base t o.type e i z size bytes h1 h2 h3 h4 h5 h6 h7 v n olds hown ad m c news hn hc h1c b1 b2 hb
  unfold Oper.wp
  simp [execOp, hop, resolve, invoke, builtin, hs, hx, hrun, Result.andThen]
  exact hK v' w' r1 r2
/-- The same for one float in a row that was built for it. -/
theorem step_append_float {P : Program} {ops : Array Oper} {o : Oper} {a : Act} {w : World} {K : Act → World → Prop} {Q : Exit → Act → World → Prop} {E : Prop}
    (hg : o.guard = none) (s x : Operand) (t : TypeId) (hop : o.op = Op.call { callee := Callee.builtin Builtin.append, args := #[s, x], argTypes := #[t, t] })
    (e : TypeId) (i : TypeInfo) (z : Value) (bytes : Nat) (h1 : P.underlying t = some (.slice e)) (h2 : P.info? e = some i) (h3 : i.zero = some z) (h4 : i.size = 1) (h5 : i.bytes = bytes) (h6 : z.cells.size = 1)
    (base : Nat) (v : Value) (n : Nat) (olds : List Value) (hs : a.eval s = v) (W0 : World) (r : Nat) (hw : w = W0.alloc (.cells #[.float .f32 r] e)) (hx : a.eval x = .slice (some ⟨W0.heap.size, 0, none⟩) 1 1)
    (hown : W0.ownsRow base e 1 v n olds) (b1 : n + 1 ≤ maxLen) (b2 : (n + 1) * bytes ≤ 140737488355328) (hb : base ≤ W0.heap.size)
    (hK : ∀ v' w', w'.ownsRow base e 1 v' (n + 1) (olds ++ [.float .f32 r]) → w.grownBy w' v.ownBlock → K (a.put o.dst v') w') :
    if Region.wanted o (yielded ops a.tmps) = true then Oper.wp P o a w K Q else E := by
  subst hw
  refine step_append_own hg s x t hop e i z 1 bytes h1 h2 h3 h4 h5 h6 (by decide) base v n olds hs (hown.alloc _) ⟨W0.heap.size, 0, none⟩ 1 1 [.float .f32 r] hx rfl ?_ (by intro u hu; simp at hu; subst hu; rfl) b1 b2 (by simp; omega) hK
  intro j u hj
  match j, hj with
  | 0, hj =>
    simp at hj
    subst hj
    simp [Addr.add]
/-- A float operation as a rule of the walk: its result and its draws by the world. -/
theorem fop_rule {P : Program} {op : BinOp} (hop : isArith op = true) {x y : Nat} {X Y : Option Nat} (hx : Fl .f32 x X) (hy : Fl .f32 y Y) (t : TypeId) :
    ∃ (R : World → Nat) (N : World → Nat), (∀ w, (binOp op t (.float .f32 x) (.float .f32 y)).run P w = .ok (.float .f32 (R w)) (w.drewN (N w))) ∧ ∀ w, Fl .f32 (R w) (fop op .f32 X Y) := by
  have h := fun w : World => run_fop (P := P) w op hop t .f32 x y
  refine ⟨fun w => (h w).choose, fun w => (h w).choose_spec.choose, fun w => (h w).choose_spec.choose_spec.1, fun w => ?_⟩
  obtain ⟨_, h2, h3⟩ := (h w).choose_spec.choose_spec
  exact ⟨h2.trans (by rw [hx.eq, hy.eq]), h3⟩
theorem row_step {F : Nat → Option Nat} {k r : Nat} {xs : List Value} (hl : xs.length = k) (h : ∀ j, j < k → ∃ r, xs[j]? = some (.float .f32 r) ∧ Fl .f32 r (F j)) (hr : Fl .f32 r (F k)) :
    ∀ j, j < k + 1 → ∃ r', (xs ++ [Value.float .f32 r])[j]? = some (.float .f32 r') ∧ Fl .f32 r' (F j) := by
  intro j hj
  by_cases hjk : j = k
  · subst hjk
    exact ⟨r, by rw [List.getElem?_append_right (by omega), hl]; simp, hr⟩
  · obtain ⟨r', h1, h2⟩ := h j (by omega)
    exact ⟨r', by rw [List.getElem?_append_left (by omega)]; exact h1, h2⟩
theorem OwF.more {w : World} {base base' n : Nat} {v : Value} {F : Nat → Option Nat} (h : OwF w base v n F) (hb : base' ≤ base) : OwF w base' v n F := by
  obtain ⟨xs, ho, hr⟩ := h.own
  refine ⟨xs, ⟨ho.1, ?_⟩, hr⟩
  rcases ho.2 with hn | ⟨g, cap, cur, hv, hb', hg, hrest⟩
  · exact .inl hn
  · exact .inr ⟨g, cap, cur, hv, by omega, hg, hrest⟩
/-- A row of the call's own, as a list. -/
theorem own_lst {w : World} {g n : Nat} {cs : Array Value} {F : Nat → Option Nat} (hg : w.heap[g]? = some (.cells cs 83 (0, 0))) (hs : cs.size = n) (h : ∀ j, j < n → ∃ r, cs[j]? = some (.float .f32 r) ∧ Fl .f32 r (F j)) :
    OwL w g w.heap.size (some ⟨g, 0, none⟩) n (lst F n) :=
  ⟨lst_len _ _, .inr ⟨g, 0, cs, rfl, Nat.le_refl _, blk_lt hg, hg, by omega, fun j hj => by
    obtain ⟨r, h1, h2⟩ := h j hj
    exact ⟨r, by rw [Nat.zero_add]; exact h1, by rw [lst_at hj]; exact h2⟩⟩⟩
/-- A row of which the first numbers are set, the others not yet. -/
theorem two_set {cs : Array Value} {off k n q : Nat} {F G : Nat → Option Nat} (hs : off + k < cs.size) (hF : ∀ j, j < k → ∃ r, cs[off + j]? = some (.float .f32 r) ∧ Fl .f32 r (F j))
    (hG : ∀ j, k ≤ j → j < n → ∃ r, cs[off + j]? = some (.float .f32 r) ∧ Fl .f32 r (G j)) (hq : Fl .f32 q (F k)) :
    (∀ j, j < k + 1 → ∃ r, (cs.setIfInBounds (off + k) (.float .f32 q))[off + j]? = some (.float .f32 r) ∧ Fl .f32 r (F j)) ∧
      (∀ j, k + 1 ≤ j → j < n → ∃ r, (cs.setIfInBounds (off + k) (.float .f32 q))[off + j]? = some (.float .f32 r) ∧ Fl .f32 r (G j)) := by
  constructor
  · intro j hj
    by_cases h : j = k
    · subst h
      exact ⟨q, by simp [hs], hq⟩
    · obtain ⟨r, h1, h2⟩ := hF j (by omega)
      exact ⟨r, by rw [Array.getElem?_setIfInBounds, if_neg (by omega)]; exact h1, h2⟩
  · intro j hj hjn
    obtain ⟨r, h1, h2⟩ := hG j (by omega) hjn
    exact ⟨r, by rw [Array.getElem?_setIfInBounds, if_neg (by omega)]; exact h1, h2⟩
theorem sr_step {f : Nat → Bool} {k : Nat} (h : ∀ j, j < k → f j = true) (h1 : f k = true) : ∀ j, j < k + 1 → f j = true := by
  intro j hj
  by_cases hjk : j = k
  · subst hjk; exact h1
  · exact h j (by omega)
set_option maxRecDepth 20000 in
set_option maxHeartbeats 1000000 in
theorem c_toFl {w : World} {B n c : Nat} {A : Option Addr} {L : List (Option Nat)} (h : RdF w B A n L) (hB : B ≤ w.heap.size) (hn : n ≤ 1048576) :
    Calls Try.prog 63 #[.slice A n c] w fun e w' => e = .returned (.slice (some ⟨w.heap.size, 0, none⟩) n n) ∧ OwL w' w.heap.size (w.heap.size + 1) (some ⟨w.heap.size, 0, none⟩) n L ∧ Ext w w' ∧ w.heap.size < w'.heap.size := by
  have hmk := fun W => run_make_row' (P := Try.prog) 22 83 (.float .f32 0) 4 Try.underlying22 (by kernel_rfl) rfl .i64 .i64 n (by omega) (by omega) W
  go_enter Try.func63, Try.ntmps63
  go_wp2
  go_loopw [4] (fun i wr => ∃ (k : Nat) (cs : Array Value), k ≤ n ∧ i = .int .i64 k ∧ wr.heap[w.heap.size]? = some (.cells cs 83 (0, 0)) ∧ cs.size = n ∧ (∀ j, j < k → ∃ r, cs[j]? = some (.float .f32 r) ∧ Fl .f32 r (L.getD j none)) ∧ Below w.heap.size w wr) (fun i _ => n - (intOf i).toNat)
  case atStart => exact ⟨0, _, Nat.zero_le _, rfl, heap_alloc_new w _, size_madeCells _ _, fun j hj => absurd hj (Nat.not_lt_zero _), (Below.refl _ _).alloc (Nat.le_refl _) _⟩
  case round =>
    obtain ⟨k, cs, hk, rfl, hg, hsz, hp, hbel⟩ := hrel
    by_cases hlt : k < n
    · obtain ⟨b, off, q, rfl, hb, hc, hq⟩ := (h.below (hbel.mono hB)).cell hlt
      have hold : wr.cell? ⟨w.heap.size, k, none⟩ = cs[k]? := cell_of_row wr w.heap.size k cs _ (0, 0) hg
      obtain ⟨u, hu⟩ : ∃ u, cs[k]? = some u := ⟨cs[k]'(by omega), Array.getElem?_eq_getElem (by omega)⟩
      rw [hu] at hold
      have hfz : wr.frozen? ⟨w.heap.size, k, none⟩ = false := by simp [World.frozen?, hg]
      have HG := Lib.hid hg
      have HP := Lib.hid hp
      have HS := Lib.hid hsz
      have HU := Lib.hid hu
      clear hg hp hsz hu
      go_wp2
      exact ⟨⟨k + 1, cs.setIfInBounds k (.float .f32 q), by omega, by go_num, blk_set HG.out k _, by simpa using HS.out, pre_set (by have := HS.out; omega) HP.out hq, hbel.setCell (Nat.le_refl _) _⟩, by simp [intOf]; omega⟩
    · have hkn : k = n := by omega
      go_wp2
      go_ret
      refine ⟨rfl, ⟨h.len, .inr ⟨w.heap.size, 0, cs, rfl, Nat.le_refl _, Nat.lt_succ_self _, hg, by omega, fun j hj => ?_⟩⟩, hbel, ?_⟩
      · obtain ⟨r, h1, h2⟩ := hp j (by omega)
        exact ⟨r, by rw [Nat.zero_add]; exact h1, h2⟩
      · rcases Nat.lt_or_ge w.heap.size wr.heap.size with h1 | h1
        · exact h1
        · rw [Array.getElem?_eq_none h1] at hg; cases hg
end Go.Proofs.Ytfmhdnhaaohdjaa
