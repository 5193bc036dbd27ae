/- What the laws do with gathers: copied, measured, compared. Condition: the gather is read. -/
import Derived.Test.YtkbkjkjjoogieaaYo
namespace Go.Proofs.Ytkbkjkjjoogieaa
open Go.RowKit Ieee

/-- The first k slices of a row are lists of a call's own, each in a block of its own. -/
structure RowsIn (w : World) (base g : Nat) (f : Nat → Nat) (cs : Array Value) (off k : Nat) (R : List (List (Option Nat))) : Prop where
  at_ : ∀ j, j < k → ∃ A' c', cs[off + j]? = some (.slice A' (R.getD j []).length c') ∧ OwL w (f j) (f j + 1) A' (R.getD j []).length (R.getD j []) ∧ (R.getD j []).length ≤ c' ∧ f j ≠ g ∧ base ≤ f j ∧ f j < w.heap.size
  inj : ∀ i j, i < j → j < k → f i ≠ f j
theorem RowsIn.zero (w : World) (base g : Nat) (f : Nat → Nat) (cs : Array Value) (off : Nat) (R : List (List (Option Nat))) : RowsIn w base g f cs off 0 R :=
  ⟨fun _ h => absurd h (Nat.not_lt_zero _), fun _ _ _ h => absurd h (Nat.not_lt_zero _)⟩
theorem RowsIn.ext {w w' : World} {base g : Nat} {f : Nat → Nat} {cs : Array Value} {off k : Nat} {R : List (List (Option Nat))} (h : RowsIn w base g f cs off k R) (hx : Ext w w') : RowsIn w' base g f cs off k R :=
  ⟨fun j hj => by
    obtain ⟨A', c', h1, h2, h3, h4, h5, h6⟩ := h.at_ j hj
    exact ⟨A', c', h1, h2.ext h6 hx, h3, h4, h5, Nat.lt_of_lt_of_le h6 hx.size⟩, h.inj⟩
/-- The row's own block turns. -/
theorem RowsIn.set {w : World} {base g : Nat} {f : Nat → Nat} {cs : Array Value} {off k : Nat} {R : List (List (Option Nat))} (h : RowsIn w base g f cs off k R) (i : Nat) (v : Value) : RowsIn (w.setCell ⟨g, i, none⟩ v) base g f cs off k R :=
  ⟨fun j hj => by
    obtain ⟨A', c', h1, h2, h3, h4, h5, h6⟩ := h.at_ j hj
    exact ⟨A', c', h1, h2.same (fun b h7 h8 => by
      have : b = f j := by omega
      rw [this]; exact Below.heap_setCell w _ v _ h4), h3, h4, h5, by simpa using h6⟩, h.inj⟩
/-- One slice more. -/
theorem RowsIn.push {w : World} {base g b : Nat} {f : Nat → Nat} {cs : Array Value} {off k : Nat} {R : List (List (Option Nat))} (h : RowsIn w base g f cs off k R) (hs : off + k < cs.size) {A' : Option Addr} {c' : Nat}
    (ho : OwL w b (b + 1) A' (R.getD k []).length (R.getD k [])) (hc : (R.getD k []).length ≤ c') (hb : b ≠ g) (hbb : base ≤ b) (hbs : b < w.heap.size) (hn : ∀ j, j < k → f j ≠ b) :
    RowsIn w base g (fun j => if j < k then f j else b) (cs.setIfInBounds (off + k) (.slice A' (R.getD k []).length c')) off (k + 1) R := by
  refine ⟨fun j hj => ?_, fun i j hi hj => ?_⟩
  · by_cases hjk : j = k
    · subst hjk
      simp only [Nat.lt_irrefl, if_false]
      exact ⟨A', c', by simp [hs], ho, hc, hb, hbb, hbs⟩
    · have hlt : j < k := by omega
      simp only [hlt, if_true]
      obtain ⟨A2, c2, h1, h2⟩ := h.at_ j hlt
      exact ⟨A2, c2, by rw [Array.getElem?_setIfInBounds, if_neg (by omega)]; exact h1, h2⟩
  · by_cases hjk : j = k
    · subst hjk
      simp only [hi, if_true, Nat.lt_irrefl, if_false]
      exact hn i hi
    · have hlt : j < k := by omega
      have hlt' : i < k := by omega
      simp only [hlt, hlt', if_true]
      exact h.inj i j hi hlt
theorem RowsIn.own {w : World} {base g n : Nat} {f : Nat → Nat} {cs : Array Value} {off : Nat} {R : List (List (Option Nat))} {t : TypeId} (h : RowsIn w base g f cs off n R) (hl : R.length = n) (hg : w.heap[g]? = some (.cells cs t (0, 0))) (hs : off + n ≤ cs.size) :
    OwS w g f (some ⟨g, off, none⟩) n R :=
  ⟨hl, .inr ⟨off, cs, t, rfl, hg, hs, fun j hj => by
    obtain ⟨A', c', h1, h2, h3, h4, _⟩ := h.at_ j hj
    exact ⟨A', c', h1, h2, h3, h4⟩⟩, h.inj⟩
theorem info_f32s : (Try.prog.info? 22).map (fun i => (i.zero, i.size, i.bytes)) = some (some (.slice none 0 0), 1, 24) := by kernel_rfl

set_option maxRecDepth 20000 in
set_option maxHeartbeats 4000000 in
theorem c_toFloat32SS {w : World} {B n c : Nat} {A : Option Addr} {R : List (List (Option Nat))} (h : RdS w B A n R) (hB : B ≤ w.heap.size) (hn : n ≤ 1048576) (hr : ∀ j, j < n → (R.getD j []).length ≤ 1048576) :
    Calls Try.prog 95 #[.slice A n c] w fun e w' => e = .returned (.slice (some ⟨w.heap.size, 0, none⟩) n n) ∧ (∃ f, OwS w' w.heap.size f (some ⟨w.heap.size, 0, none⟩) n R ∧ ∀ j, j < n → w.heap.size < f j ∧ f j < w'.heap.size) ∧ Ext w w' ∧ w.heap.size < w'.heap.size := by
  have hmk := fun W => run_make_row' (P := Try.prog) 64 22 (.slice none 0 0) 24 Try.underlying64 info_f32s rfl .i64 .i64 n (by omega) (by omega) W
  go_enter Try.func95, Try.ntmps95
  go_wp2_with (fail)
  go_loopw [4] (fun i wr => ∃ (k : Nat) (cs : Array Value) (f : Nat → Nat), k ≤ n ∧ i = .int .i64 k ∧ wr.heap[w.heap.size]? = some (.cells cs 22 (0, 0)) ∧ cs.size = n ∧ RowsIn wr (w.heap.size + 1) w.heap.size f cs 0 k R ∧ Ext w wr) (fun i _ => n - (intOf i).toNat)
  case atStart => exact ⟨0, _, id, Nat.zero_le _, rfl, heap_alloc_new w _, size_madeCells _ _, RowsIn.zero _ _ _ _ _ _ _, (by repeat (first | assumption | exact Ext.refl _ | apply Ext.drewN | apply Ext.drew | apply Ext.alloc | (refine Ext.trans ?_ (by assumption)) | (refine Ext.set ?_ (by dsimp only; omega) _)))⟩
  case round =>
    obtain ⟨k, cs, f, hk, rfl, hg, hsz, hp, hx⟩ := hrel
    by_cases hlt : k < n
    · obtain ⟨b, off, A', c', rfl, hb, hc, hrd, hlc⟩ := (h.below (hx.mono hB)).cell hlt
      have hlt' : (k : Int) < (n : Int) := by omega
      have HG := Lib.hid hg
      have HP := Lib.hid hp
      have HS := Lib.hid hsz
      clear hg hp hsz
      go_wp2_with (go_at_call 28; refine Calls.mono (c_toFl hrd (Nat.le_trans hB hx.size) (hr k hlt)) ?_; rintro e w2 ⟨rfl, ho2, hx2, hs2⟩; have g2 := Lib.hid (hx2.blk HG.out); obtain ⟨u0, e0, z0⟩ := own_cell g2.out HS.out hlt)
      have hp2 := (HP.out.ext hx2).push (A' := some ⟨wr.heap.size, 0, none⟩) (c' := (R.getD k []).length) (by have := HS.out; omega) ho2 (Nat.le_refl _) (by have := blk_lt HG.out; omega) (by have := blk_lt HG.out; omega) hs2 (fun j hj => by
        obtain ⟨_, _, _, _, _, _, _, h6⟩ := HP.out.at_ j hj
        omega)
      rw [Nat.zero_add] at hp2
      exact ⟨⟨k + 1, _, _, by omega, by go_num, blk_set1 g2.out k _, by rw [Array.size_setIfInBounds]; exact HS.out, hp2.set _ _, Ext.set (hx.trans hx2) (Nat.le_refl _) _⟩, by simp [intOf]; omega⟩
    · obtain rfl : k = n := by omega
      go_wp2_with (fail)
      go_ret
      exact ⟨rfl, ⟨f, hp.own h.len hg (by omega), fun j hj => by
        obtain ⟨_, _, _, _, _, _, h5, h6⟩ := hp.at_ j hj
        omega⟩, hx, blk_lt hg⟩
set_option maxRecDepth 20000 in
set_option maxHeartbeats 400000 in
theorem c_szFloat32S {w : World} {n c : Nat} {A : Option Addr} {left : Int} (h0 : 0 ≤ left) (h1 : left ≤ 1048576) (hn : n ≤ 9223372036854775807) :
    Calls Try.prog 61 #[.slice A n c, .int .i64 left] w fun e w' => e = .returned (.int .i64 (if (n : Int) ≤ left then left - n else -1)) ∧ w = w' := by
  by_cases hl : (n : Int) ≤ left
  all_goals
    simp only [hl, if_true, if_false]
    go_enter Try.func61, Try.ntmps61
    go_wp2_with (fail)
    go_ret
    exact ⟨rfl, rfl⟩
def szOf (l t : Nat) : Int := if t ≤ l then ((l - t : Nat) : Int) else -1
theorem szOf_yes {l t : Nat} (h : t ≤ l) : szOf l t = ((l - t : Nat) : Int) := if_pos h
theorem szOf_no {l t : Nat} (h : ¬ t ≤ l) : szOf l t = -1 := if_neg h
theorem szOf_int {n T : Nat} {left : Int} {l2 : Nat} (h : left - (n : Int) = (l2 : Int)) : (if ((n + T : Nat) : Int) ≤ left then left - ((n + T : Nat) : Int) else -1) = szOf l2 T := by
  unfold szOf; split <;> split <;> omega
set_option maxRecDepth 20000 in
set_option maxHeartbeats 4000000 in
theorem c_szFloat32SS {w : World} {B n c : Nat} {A : Option Addr} {R : List (List (Option Nat))} (h : RdS w B A n R) (hn : n ≤ 9223372036854775807) (hr : ∀ j, j < n → (R.getD j []).length ≤ 9223372036854775807) {left : Int} (h0 : 0 ≤ left) (h1 : left ≤ 1048576) :
    Calls Try.prog 90 #[.slice A n c, .int .i64 left] w fun e w' => e = .returned (.int .i64 (if ((n + tot R : Nat) : Int) ≤ left then left - ((n + tot R : Nat) : Int) else -1)) ∧ w = w' := by
  by_cases hl : (n : Int) ≤ left
  case neg =>
    rw [if_neg (by omega)]
    go_enter Try.func90, Try.ntmps90
    go_wp2_with (fail)
    go_ret
    exact ⟨rfl, rfl⟩
  obtain ⟨l2, hl2⟩ : ∃ l2 : Nat, left - (n : Int) = (l2 : Int) := ⟨(left - n).toNat, by omega⟩
  have hl3 : l2 ≤ 1048576 := by omega
  have hnl : ¬ ((l2 : Int) < 0) := by omega
  have hwl : IntKind.i64.wrap (l2 : Int) = (l2 : Int) := IntWalk.i64_in _ (by omega)
  rw [szOf_int hl2]
  clear h0 h1 hl
  go_enter Try.func90, Try.ntmps90
  go_wp2_with (fail)
  go_loopw [1, 5] (fun l i wr => ∃ k : Nat, k ≤ n ∧ i = .int .i64 k ∧ tot (R.take k) ≤ l2 ∧ l = .int .i64 ((l2 - tot (R.take k) : Nat) : Int) ∧ wr = w) (fun _ i _ => n - (intOf i).toNat)
  case atStart => exact ⟨0, Nat.zero_le _, rfl, by simp [tot], by simp [tot], rfl⟩
  case round =>
    obtain ⟨k, hk, rfl, ht, rfl, rfl⟩ := hrel
    by_cases hlt : k < n
    · have hlt' : (k : Int) < (n : Int) := by omega
      obtain ⟨b, off, A', c', rfl, hb, hc, hrd, hlc⟩ := h.cell hlt
      have hts := tot_take_succ R k (by rw [h.len]; exact hlt)
      have htl := tot_take_le R (k + 1)
      have hrk := hr k hlt
      generalize hL : (R.getD k []).length = Lk at hts hc hrk hlc
      have hc' := hc
      by_cases hq : Lk ≤ l2 - tot (R.take k)
      · have hq1 : (Lk : Int) ≤ ((l2 - tot (R.take k) : Nat) : Int) := by omega
        have hq2 : ((l2 - tot (R.take k) : Nat) : Int) - (Lk : Int) = ((l2 - tot (R.take (k + 1)) : Nat) : Int) := by omega
        have hq3 : ¬ (((l2 - tot (R.take (k + 1)) : Nat) : Int) < 0) := by omega
        have ht2 : tot (R.take (k + 1)) ≤ l2 := by omega
        have hsz := fun W c (A : Option Addr) => c_szFloat32S (w := W) (n := Lk) (c := c) (A := A) (left := ((l2 - tot (R.take k) : Nat) : Int)) (by omega) (by omega) hrk
        rw [if_pos hq1, hq2] at hsz
        have HSZ := Lib.hid hsz
        have HT := Lib.hid ht2
        clear hsz hq1 hq2 hts htl ht ht2 hL
        generalize l2 - tot (R.take k) = m0 at *
        generalize hm1 : l2 - tot (R.take (k + 1)) = m1 at *
        have HM := Lib.hid hm1
        clear hm1
        go_wp2_with (go_at_call 61; refine Calls.mono (HSZ.out _ _ _) ?_; rintro e w2 ⟨rfl, rfl⟩)
        exact ⟨⟨k + 1, by omega, by go_num, HT.out, by rw [HM.out], trivial⟩, by simp [intOf]; omega⟩
      · have hq1 : ¬ (Lk : Int) ≤ ((l2 - tot (R.take k) : Nat) : Int) := by omega
        have hsz := fun W c (A : Option Addr) => c_szFloat32S (w := W) (n := Lk) (c := c) (A := A) (left := ((l2 - tot (R.take k) : Nat) : Int)) (by omega) (by omega) hrk
        rw [if_neg hq1] at hsz
        have HSZ := Lib.hid hsz
        have hfin : ¬ tot R ≤ l2 := by omega
        have HFIN := Lib.hid hfin
        clear hsz hq1 hts htl ht hL hfin
        generalize l2 - tot (R.take k) = m0 at *
        go_wp2_with (go_at_call 61; refine Calls.mono (HSZ.out _ _ _) ?_; rintro e w2 ⟨rfl, rfl⟩)
        go_ret
        exact ⟨by rw [szOf_no HFIN.out]; rfl, rfl⟩
    · obtain rfl : k = n := by omega
      rw [tot_all h.len] at ht ⊢
      have HT := Lib.hid ht
      clear ht
      go_wp2_with (fail)
      go_ret
      exact ⟨by rw [szOf_yes HT.out]; rfl, rfl⟩
set_option maxRecDepth 20000 in
set_option maxHeartbeats 1000000 in
theorem c_szGather {w : World} {B : Nat} {v : Value} {G : Gat} (h : RdG w B v G) (hB : B ≤ w.heap.size) (h1 : G.p.length ≤ maxLen) (h2 : G.r.length ≤ maxLen) (h3 : ∀ j, j < G.r.length → (G.r.getD j []).length ≤ maxLen) {l : Nat} (hl : l ≤ 1048576) :
    Calls Try.prog 54 #[v, .int .i64 (l : Int)] w fun e w' => e = .returned (.int .i64 (if gsz G ≤ l then ((l - gsz G : Nat) : Int) else -1)) ∧ Ext w w' := by
  obtain ⟨Ap, cp, At, ct, rfl, hp, hr, _, _⟩ := h.ex
  unfold maxLen at h1 h2 h3
  have hbox : GbAt (w.alloc (.cells #[.int .i64 G.t, .slice Ap G.p.length cp, .slice At G.r.length ct] 66)) w.heap.size G.t Ap G.p.length cp At G.r.length ct := GbAt.blk (T := 66) (by repeat (first | (refine al_at ?_ ?_ <;> first | rfl | (simp only [al_size] <;> omega)) | apply al_old))
  obtain ⟨p0, p1, p2, _⟩ := hbox
  have hs1 := fun W => c_szFloat32S (w := W) (n := G.p.length) (c := cp) (A := Ap) (left := (l : Int)) (by omega) (by omega) (by omega)
  unfold gsz
  by_cases q1 : G.p.length ≤ l
  case neg =>
    rw [if_neg (by omega)] at hs1 ⊢
    have HS1 := Lib.hid hs1
    clear hs1
    go_enter Try.func54, Try.ntmps54
    go_wp2_with (go_at_call 61; refine Calls.mono (HS1.out _) ?_; rintro e w2 ⟨rfl, rfl⟩)
    go_ret
    exact ⟨rfl, (by repeat (first | assumption | exact Ext.refl _ | apply Ext.drewN | apply Ext.drew | apply Ext.alloc | (refine Ext.trans ?_ (by assumption)) | (refine Ext.set ?_ (by dsimp only; omega) _)))⟩
  rw [if_pos (by omega)] at hs1
  rw [show (l : Int) - (G.p.length : Int) = ((l - G.p.length : Nat) : Int) by omega] at hs1
  have hs2 := fun (W : World) (hx : Ext w W) => c_szFloat32SS (w := W) (c := ct) (hr.below (hx.mono hB)) (by omega) (fun j hj => by have := h3 j hj; omega) (left := ((l - G.p.length : Nat) : Int)) (by omega) (by omega)
  have HS1 := Lib.hid hs1
  clear hs1
  by_cases q2 : G.p.length + (G.r.length + tot G.r) ≤ l
  · rw [if_pos q2]
    rw [if_pos (by omega)] at hs2
    rw [show ((l - G.p.length : Nat) : Int) - ((G.r.length + tot G.r : Nat) : Int) = ((l - (G.p.length + (G.r.length + tot G.r)) : Nat) : Int) by omega] at hs2
    have HS2 := Lib.hid hs2
    clear hs2
    generalize l - (G.p.length + (G.r.length + tot G.r)) = m2 at *
    generalize l - G.p.length = m1 at *
    go_enter Try.func54, Try.ntmps54
    go_wp2_with (first | (go_at_call 61; refine Calls.mono (HS1.out _) ?_; rintro e w2 ⟨rfl, rfl⟩) | (go_at_call 90; refine Calls.mono (HS2.out _ (by repeat (first | assumption | exact Ext.refl _ | apply Ext.drewN | apply Ext.drew | apply Ext.alloc | (refine Ext.trans ?_ (by assumption)) | (refine Ext.set ?_ (by dsimp only; omega) _)))) ?_; rintro e w2 ⟨rfl, rfl⟩))
    go_ret
    exact ⟨rfl, (by repeat (first | assumption | exact Ext.refl _ | apply Ext.drewN | apply Ext.drew | apply Ext.alloc | (refine Ext.trans ?_ (by assumption)) | (refine Ext.set ?_ (by dsimp only; omega) _)))⟩
  · rw [if_neg q2]
    rw [if_neg (by omega)] at hs2
    have HS2 := Lib.hid hs2
    clear hs2
    generalize l - G.p.length = m1 at *
    go_enter Try.func54, Try.ntmps54
    go_wp2_with (first | (go_at_call 61; refine Calls.mono (HS1.out _) ?_; rintro e w2 ⟨rfl, rfl⟩) | (go_at_call 90; refine Calls.mono (HS2.out _ (by repeat (first | assumption | exact Ext.refl _ | apply Ext.drewN | apply Ext.drew | apply Ext.alloc | (refine Ext.trans ?_ (by assumption)) | (refine Ext.set ?_ (by dsimp only; omega) _)))) ?_; rintro e w2 ⟨rfl, rfl⟩))
    go_ret
    exact ⟨rfl, (by repeat (first | assumption | exact Ext.refl _ | apply Ext.drewN | apply Ext.drew | apply Ext.alloc | (refine Ext.trans ?_ (by assumption)) | (refine Ext.set ?_ (by dsimp only; omega) _)))⟩
set_option maxRecDepth 20000 in
set_option maxHeartbeats 4000000 in
theorem c_eqFloat32SS {w : World} {B B' n c c' : Nat} {A A' : Option Addr} {R : List (List (Option Nat))} (h : RdS w B A n R) (h' : RdS w B' A' n R) (hn : n ≤ 1048576) (hr : ∀ j, j < n → (R.getD j []).length ≤ 1048576) :
    Calls Try.prog 100 #[.slice A n c, .slice A' n c'] w fun e w' => e = .returned (.bool true) ∧ Dr w w' := by
  go_enter Try.func100, Try.ntmps100
  go_wp2_with (fail)
  go_loopw [5] (fun i wr => ∃ k : Nat, k ≤ n ∧ i = .int .i64 k ∧ Dr w wr) (fun i _ => n - (intOf i).toNat)
  case atStart => exact ⟨0, Nat.zero_le _, rfl, 0, rfl⟩
  case round =>
    obtain ⟨k, hk, rfl, m, rfl⟩ := hrel
    by_cases hlt : k < n
    · obtain ⟨b, off, A1, c1, rfl, hb, hc, hrd, _⟩ := h.cell hlt
      obtain ⟨b', off', A2, c2, rfl, hb', hc', hrd', _⟩ := h'.cell hlt
      have hlt' : (k : Int) < (n : Int) := by omega
      go_wp2_with (fail)
      go_region_with (first | (go_at_call 30; refine Calls.mono (c_eqFloat32S (hrd.drewN _) (hrd'.drewN _) (hr k hlt)) ?_; rintro e w1 ⟨rfl, m1, rfl⟩))
      all_goals
        go_wp2_with (fail)
        exact ⟨⟨k + 1, by omega, by go_num, _, rfl⟩, by simp [intOf]; omega⟩
    · have hkn : k = n := by omega
      go_wp2_with (fail)
      go_ret
      exact ⟨rfl, m, rfl⟩
set_option maxRecDepth 20000 in
set_option maxHeartbeats 1000000 in
theorem c_eqGather {w : World} {B B' : Nat} {v v' : Value} {G : Gat} (h : RdG w B v G) (h' : RdG w B' v' G) (hB : B ≤ w.heap.size) (hB' : B' ≤ w.heap.size) (h1 : G.p.length ≤ 1048576) (h2 : G.r.length ≤ 1048576) (h3 : ∀ j, j < G.r.length → (G.r.getD j []).length ≤ 1048576) :
    Calls Try.prog 58 #[v, v'] w fun e w' => e = .returned (.bool true) ∧ Ext w w' := by
  obtain ⟨Ap, cp, At, ct, rfl, hp, hr, _, _⟩ := h.ex
  obtain ⟨Ap', cp', At', ct', rfl, hp', hr', _, _⟩ := h'.ex
  have e1 := fun (W : World) (hx : Ext w W) => c_eqFloat32S (w := W) (c := cp) (c' := cp') (hp.below (hx.mono hB)) (hp'.below (hx.mono hB')) h1
  have e2 := fun (W : World) (hx : Ext w W) => c_eqFloat32SS (w := W) (c := ct) (c' := ct') (hr.below (hx.mono hB)) (hr'.below (hx.mono hB')) h2 h3
  have E1 := Lib.hid e1
  have E2 := Lib.hid e2
  clear e1 e2
  go_enter Try.func58, Try.ntmps58
  go_wp2_with (first | (go_at_call 30; refine Calls.mono (E1.out _ (by repeat (first | assumption | exact Ext.refl _ | apply Ext.drewN | apply Ext.drew | apply Ext.alloc | (refine Ext.trans ?_ (by assumption)) | (refine Ext.set ?_ (by dsimp only; omega) _)))) ?_; rintro e w2 ⟨rfl, n2, rfl⟩) | (go_at_call 100; refine Calls.mono (E2.out _ (by repeat (first | assumption | exact Ext.refl _ | apply Ext.drewN | apply Ext.drew | apply Ext.alloc | (refine Ext.trans ?_ (by assumption)) | (refine Ext.set ?_ (by dsimp only; omega) _)))) ?_; rintro e w3 ⟨rfl, n3, rfl⟩))
  go_ret
  exact ⟨rfl, (by repeat (first | assumption | exact Ext.refl _ | apply Ext.drewN | apply Ext.drew | apply Ext.alloc | (refine Ext.trans ?_ (by assumption)) | (refine Ext.set ?_ (by dsimp only; omega) _)))⟩
set_option linter.unusedSimpArgs false in
set_option maxRecDepth 20000 in
set_option maxHeartbeats 4000000 in
theorem c_toGather {w : World} {B : Nat} {v : Value} {G : Gat} (h : RdG w B v G) (hB : B ≤ w.heap.size) (h1 : G.p.length ≤ 1048576) (h2 : G.r.length ≤ 1048576) (h3 : ∀ j, j < G.r.length → (G.r.getD j []).length ≤ 1048576) :
    Calls Try.prog 56 #[v] w fun e w' => ∃ v', e = .returned v' ∧ OwG w' w.heap.size w'.heap.size v' G ∧ Ext w w' := by
  obtain ⟨Ap, cp, At, ct, rfl, hp, hr, _, _⟩ := h.ex
  have e1 := fun (W : World) (hx : Ext w W) => c_toFl (w := W) (c := cp) (hp.below (hx.mono hB)) (Nat.le_trans hB hx.size) h1
  have e2 := fun (W : World) (hx : Ext w W) => c_toFloat32SS (w := W) (c := ct) (hr.below (hx.mono hB)) (Nat.le_trans hB hx.size) h2 h3
  have E1 := Lib.hid e1
  have E2 := Lib.hid e2
  clear e1 e2
  go_enter Try.func56, Try.ntmps56
  go_wp2_with (first | (go_at_call 28; refine Calls.mono (E1.out _ (by repeat (first | assumption | exact Ext.refl _ | apply Ext.drewN | apply Ext.drew | apply Ext.alloc | (refine Ext.trans ?_ (by assumption)) | (refine Ext.set ?_ (by dsimp only; omega) _)))) ?_; rintro e w2 ⟨rfl, ho2, hx2, hs2⟩; have bA := hx2.blk (g := w.heap.size) (o := .cells #[.int .i64 G.t, .slice Ap G.p.length cp, .slice At G.r.length ct] 66 (0, 0)) (by repeat (first | (refine al_at ?_ ?_ <;> first | rfl | (simp only [al_size] <;> omega)) | apply al_old)); have bB := hx2.blk (g := w.heap.size + 1) (o := .cells #[.int .i64 0, .slice none 0 0, .slice none 0 0] 68 (0, 0)) (by repeat (first | (refine al_at ?_ ?_ <;> first | rfl | (simp only [al_size] <;> omega)) | apply al_old)); have bC := hx2.blk (g := w.heap.size + 1 + 1) (o := .cells #[.int .i64 G.t, .slice none 0 0, .slice none 0 0] 68 (0, 0)) (by repeat (first | (refine al_at ?_ ?_ <;> first | rfl | (simp only [al_size] <;> omega)) | apply al_old)); have BA := Lib.hid bA; have BB := Lib.hid bB; have BC := Lib.hid bC; clear bA bB bC; obtain ⟨e0, e1, e2, z0, z1, z2⟩ := three_c BA.out; obtain ⟨c0, c1, c2, x0, x1, x2⟩ := three_c BB.out; obtain ⟨d0, d1, d2, y0, y1, y2⟩ := three_c BC.out) | (go_at_call 95; refine Calls.mono (E2.out _ (by repeat (first | assumption | exact Ext.refl _ | apply Ext.drewN | apply Ext.drew | apply Ext.alloc | (refine Ext.trans ?_ (by assumption)) | (refine Ext.set ?_ (by dsimp only; omega) _)))) ?_; rintro e w3 ⟨rfl, ⟨f3, ho3, hf3⟩, hx3, hs3⟩; clear e0 e1 e2 z0 z1 z2 c0 c1 c2 x0 x1 x2 d0 d1 d2 y0 y1 y2; have bB := hx3.blk (g := w.heap.size + 1) (set_other BB.out (by dsimp only; omega)); have bC := hx3.blk (g := w.heap.size + 1 + 1) (blk_set1 BC.out 1 _); have BB3 := Lib.hid bB; have BC3 := Lib.hid bC; clear bB bC; obtain ⟨c0, c1, c2, x0, x1, x2⟩ := three_c BB3.out; obtain ⟨d0, d1, d2, y0, y1, y2⟩ := three_c BC3.out))
  have hx2' : Ext w w2 := Ext.trans (by repeat (first | assumption | exact Ext.refl _ | apply Ext.drewN | apply Ext.drew | apply Ext.alloc | (refine Ext.trans ?_ (by assumption)) | (refine Ext.set ?_ (by dsimp only; omega) _))) hx2
  have hx3' : Ext w w3 := Ext.trans (Ext.set hx2' (by dsimp only; omega) _) hx3
  have ho2' : OwL w2 (w.heap.size + 1 + 1 + 1) (w.heap.size + 1 + 1 + 1 + 1) (some ⟨w.heap.size + 1 + 1 + 1, 0, none⟩) G.p.length G.p := by simpa using ho2
  have hs2' : w.heap.size + 1 + 1 + 1 < w2.heap.size := by simpa using hs2
  have hs3' : w2.heap.size < w3.heap.size := by simpa using hs3
  have hsz : (w2.setCell ⟨w.heap.size + 1 + 1, 1, none⟩ (.slice (some ⟨w.heap.size + 1 + 1 + 1, 0, none⟩) G.p.length G.p.length)).heap.size = w2.heap.size := by simp
  rw [hsz] at ho3 hf3
  have hG3 : OwG w3 (w.heap.size + 1 + 1 + 1) w3.heap.size (.agg #[.int .i64 G.t, .slice (some ⟨w.heap.size + 1 + 1 + 1, 0, none⟩) G.p.length G.p.length, .slice (some ⟨w2.heap.size, 0, none⟩) G.r.length G.r.length]) G :=
    ⟨_, _, _, _, w.heap.size + 1 + 1 + 1, w2.heap.size, f3, rfl, (ho2'.same (fun b _ _ => Below.heap_setCell w2 _ _ b (by dsimp only; omega))).ext (by rw [hsz]; omega) hx3, ho3, Nat.le_refl _, Nat.le_refl _, .inr ⟨Nat.le_refl _, by omega⟩, .inr ⟨by omega, hs3', by omega⟩, fun j hj => by
      have := hf3 j hj; omega⟩
  exact bodyPost_ret (v := .agg #[.int .i64 G.t, .slice (some ⟨w.heap.size + 1 + 1 + 1, 0, none⟩) G.p.length G.p.length, .slice (some ⟨w2.heap.size, 0, none⟩) G.r.length G.r.length]) (by simp [results, Try.results56, go_sem, c0, c1, c2, x0, x1, x2, d0, d1, d2, y0, y1, y2]) rfl
    ⟨_, rfl, by
      refine OwG.more (lo := w.heap.size + 1 + 1 + 1) (hi := w3.heap.size) ?_ (by omega) (by simp)
      repeat (first | exact hG3 | (refine OwG.setOther ?_ (by left; dsimp only; omega) _)), (by repeat (first | assumption | exact Ext.refl _ | apply Ext.drewN | apply Ext.drew | apply Ext.alloc | (refine Ext.trans ?_ (by assumption)) | (refine Ext.set ?_ (by dsimp only; omega) _)))⟩
end Go.Proofs.Ytkbkjkjjoogieaa
