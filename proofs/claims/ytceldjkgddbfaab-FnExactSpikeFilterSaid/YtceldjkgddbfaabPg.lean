/- Contracts: shaping filters, on both sides. Condition: the lists are read. -/
import Derived.Test.YtceldjkgddbfaabPe
namespace Go.Proofs.Ytceldjkgddbfaab
open Go.RowKit Ieee

def okSh (n m : Nat) (i : Int) (P : Option Nat) (L : List (Option Nat)) : Bool := tlen n && (tlen m && (inB i 1 24 && okSw i.toNat i.toNat P (prX L n i.toNat)))
def shF (n : Nat) (i : Int) (P : Option Nat) (L M : List (Option Nat)) : List (Option Nat) := swF i.toNat P (prX L n i.toNat) (lst (fun k => fcr L M (k : Int) n) i.toNat)
theorem shF_len (n : Nat) (i : Int) (P : Option Nat) (L M : List (Option Nat)) : (shF n i P L M).length = i.toNat - 1 + 1 := by unfold shF swF; rw [tF_len]
set_option maxRecDepth 20000 in
set_option maxHeartbeats 8000000 in
theorem c_l05Shape {w : World} {B n c : Nat} {A : Option Addr} {L : List (Option Nat)} (h : RdF w B A n L) (hB : B ≤ w.heap.size) (hn : n ≤ 1048576) {B' m c' : Nat} {A' : Option Addr} {M : List (Option Nat)} (h' : RdF w B' A' m M) (hB' : B' ≤ w.heap.size) (hm : m ≤ 1048576) {i : Int} {p : Nat} {P : Option Nat} (fp : Fl .f32 p P) :
    Calls Try.prog 68 #[.slice A n c, .slice A' m c', .int .i64 i, .float .f32 p] w fun e w' => RetL w e w' (okSh n m i P L) (shF n i P L M) := by
  unfold okSh
  cases hV : tlen n
  · go_enter Try.func68, Try.ntmps68
    go_wp2_with (go_at_call 70; refine Calls.mono (c_l03Is _ _ _ _) ?_; rw [hV]; rintro e w1 ⟨rfl, rfl⟩)
    go_ret2
    exact retL_no rfl (by repeat (first | assumption | exact Ext.refl _ | apply Ext.drewN | apply Ext.drew | apply Ext.alloc | (refine Ext.trans ?_ (by assumption)) | (refine Ext.set ?_ (by dsimp only; omega) _)))
  cases hU : tlen m
  · go_enter Try.func68, Try.ntmps68
    go_wp2_with (first | (go_at_call 70; refine Calls.mono (c_l03Is _ _ _ _) ?_; rw [hV]; rintro e w1 ⟨rfl, rfl⟩) | (go_at_call 70; refine Calls.mono (c_l03Is _ _ _ _) ?_; rw [hU]; rintro e w1 ⟨rfl, rfl⟩))
    go_ret2
    exact retL_no rfl (by repeat (first | assumption | exact Ext.refl _ | apply Ext.drewN | apply Ext.drew | apply Ext.alloc | (refine Ext.trans ?_ (by assumption)) | (refine Ext.set ?_ (by dsimp only; omega) _)))
  cases hI : inB i 1 24
  · go_enter Try.func68, Try.ntmps68
    go_wp2_with (first | (go_at_call 70; refine Calls.mono (c_l03Is _ _ _ _) ?_; rw [hV]; rintro e w1 ⟨rfl, rfl⟩) | (go_at_call 70; refine Calls.mono (c_l03Is _ _ _ _) ?_; rw [hU]; rintro e w1 ⟨rfl, rfl⟩) | (go_at_call 71; refine Calls.mono (c_l00In _ _ _ _) ?_; rw [hI]; rintro e w1 ⟨rfl, rfl⟩))
    go_ret2
    exact retL_no rfl (by repeat (first | assumption | exact Ext.refl _ | apply Ext.drewN | apply Ext.drew | apply Ext.alloc | (refine Ext.trans ?_ (by assumption)) | (refine Ext.set ?_ (by dsimp only; omega) _)))
  obtain ⟨p1, p2⟩ := inB_of hI
  obtain ⟨ct, rfl⟩ : ∃ N : Nat, i = (N : Int) := ⟨i.toNat, by omega⟩
  have hct1 : 1 ≤ ct := by omega
  have hct2 : ct ≤ 24 := by omega
  simp only [Int.toNat_natCast, Bool.true_and]
  rw [okSw_at hct1 hct2]
  clear p1 p2
  cases hW : fway P
  · go_enter Try.func68, Try.ntmps68
    go_wp2_with (first | (go_at_call 70; refine Calls.mono (c_l03Is _ _ _ _) ?_; rw [hV]; rintro e w1 ⟨rfl, rfl⟩) | (go_at_call 70; refine Calls.mono (c_l03Is _ _ _ _) ?_; rw [hU]; rintro e w1 ⟨rfl, rfl⟩) | (go_at_call 71; refine Calls.mono (c_l00In _ _ _ _) ?_; rw [hI]; rintro e w1 ⟨rfl, rfl⟩) | (go_at_call 107; refine Calls.mono (c_l05Near fp _) ?_; rw [hW]; rintro e w1 ⟨rfl, n1, rfl⟩))
    go_ret2
    exact retL_no rfl (by repeat (first | assumption | exact Ext.refl _ | apply Ext.drewN | apply Ext.drew | apply Ext.alloc | (refine Ext.trans ?_ (by assumption)) | (refine Ext.set ?_ (by dsimp only; omega) _)))
  rw [Bool.true_and]
  go_enter Try.func68, Try.ntmps68
  go_wp2_with (first | (go_at_call 70; refine Calls.mono (c_l03Is _ _ _ _) ?_; rw [hV]; rintro e w1 ⟨rfl, rfl⟩) | (go_at_call 70; refine Calls.mono (c_l03Is _ _ _ _) ?_; rw [hU]; rintro e w1 ⟨rfl, rfl⟩) | (go_at_call 71; refine Calls.mono (c_l00In _ _ _ _) ?_; rw [hI]; rintro e w1 ⟨rfl, rfl⟩) | (go_at_call 107; refine Calls.mono (c_l05Near fp _) ?_; rw [hW]; rintro e w1 ⟨rfl, n1, rfl⟩) | (go_at_call 108; refine Calls.mono (c_l05Auto (h.drewN _) hB hn hct2) ?_; rintro e w2 ⟨v, rfl, ho, hx2⟩; obtain ⟨A2, c2, rfl, ho2⟩ := ho.owl) | (go_at_call 109; refine Calls.mono (c_l05White ho2.rd (Nat.le_refl _) (by omega) hct1 fp) ?_; rintro e w4 ⟨g4, c4, rfl, ho4, hx4⟩; have hxw4 : Ext w w4 := (by repeat (first | assumption | exact Ext.refl _ | apply Ext.drewN | apply Ext.drew | apply Ext.alloc | (refine Ext.trans ?_ (by assumption)) | (refine Ext.set ?_ (by dsimp only; omega) _)))) | (go_at_call 111; refine Calls.mono (c_l05Cross (h'.below (hxw4.mono hB')) (Nat.le_trans hB' hxw4.size) hm (h.below (hxw4.mono hB)) (Nat.le_trans hB hxw4.size) hn hct2) ?_; rintro e w5 ⟨v5, rfl, ho5, hx5⟩; obtain ⟨A5, c5, rfl, ho6⟩ := ho5.owl; have ho7 := ho4.ext (Nat.le_refl _) hx5) | (go_at_call 52; refine Calls.mono (c_l05Solve ho7.rd hx5.size hct2 hct1 ho6.rd (Nat.le_refl _)) ?_; rintro e w6 ⟨fv, lv, r, rfl, hyes, hno, hx6⟩))
  go_ret2
  have z1 := hxw4.size
  have z2 := hx5.size
  unfold prX
  cases hT : tok (lst (fwhite (lst (fun k : Nat => fcr L L (k : Int) n) ct) P) ct) (ct - 1)
  · rw [hno hT]; exact retL_no rfl (by repeat (first | assumption | exact Ext.refl _ | apply Ext.drewN | apply Ext.drew | apply Ext.alloc | (refine Ext.trans ?_ (by assumption)) | (refine Ext.set ?_ (by dsimp only; omega) _)))
  · obtain ⟨A3, c3, rfl, ho8⟩ := hyes hT
    exact ⟨_, _, _, rfl, ho8.more (by omega) (Nat.le_refl _), (by repeat (first | assumption | exact Ext.refl _ | apply Ext.drewN | apply Ext.drew | apply Ext.alloc | (refine Ext.trans ?_ (by assumption)) | (refine Ext.set ?_ (by dsimp only; omega) _)))⟩
set_option maxRecDepth 20000 in
set_option maxHeartbeats 8000000 in
theorem c_impl_ShapeFilter {w : World} {B n c : Nat} {A : Option Addr} {L : List (Option Nat)} (h : RdF w B A n L) (hB : B ≤ w.heap.size) (hn : n ≤ 1048576) (hcap : n ≤ c) {B' m c' : Nat} {A' : Option Addr} {M : List (Option Nat)} (h' : RdF w B' A' m M) (hB' : B' ≤ w.heap.size) (hm : m ≤ 1048576) (hcap' : m ≤ c') {i : Int} (hi : -9223372036854775808 ≤ i) (hj : i ≤ 9223372036854775807) {p : Nat} {P : Option Nat} (fp : Fl .f32 p P) :
    Calls Try.prog 24 #[.slice A n c, .slice A' m c', .int .i64 i, .float .f32 p] w fun e w' => RetL w e w' (okSh n m i P L) (shF n i P L M) := by
  have HAU := Lib.hid (c_impl_AutoOf h hB hn hcap hi hj)
  have HCR := Lib.hid (fun (W : World) (hW : Ext w W) => c_impl_CrossOf (w := W) (h'.below (hW.mono hB')) (Nat.le_trans hB' hW.size) hm hcap' (h.below (hW.mono hB)) (Nat.le_trans hB hW.size) hn hcap hi hj)
  clear hi hj
  cases hA : okAu n i
  · have hf : okSh n m i P L = false := by
      unfold okAu at hA; unfold okSh
      rw [Bool.and_eq_false_iff] at hA
      rcases hA with h9 | h9
      · rw [h9]; rfl
      · rw [h9]; simp
    have HF := Lib.hid hf
    clear hf
    rw [hA] at HAU
    go_enter Try.func24, Try.ntmps24
    go_wp2_with (first | (go_at_call 62; refine Calls.mono HAU.out ?_; rintro e w2 ⟨A2, n2, c2, rfl, ho, hx2⟩) | (go_at_call 69; refine Calls.mono (HCR.out _ hx2) ?_; rintro e w3 ⟨A3, n3, c3, rfl, ho3, hx3⟩))
    go_ret2
    exact retL_no HF.out (by repeat (first | assumption | exact Ext.refl _ | apply Ext.drewN | apply Ext.drew | apply Ext.alloc | (refine Ext.trans ?_ (by assumption)) | (refine Ext.set ?_ (by dsimp only; omega) _)))
  cases hC : okCr m n i
  · have hf : okSh n m i P L = false := by
      unfold okAu at hA; unfold okCr at hC; unfold okSh
      rw [Bool.and_eq_true] at hA
      rw [hA.1, hA.2] at hC ⊢
      simp only [Bool.and_true, Bool.true_and] at hC ⊢
      rw [hC]; rfl
    have HF := Lib.hid hf
    clear hf
    rw [hA] at HAU
    rw [hC] at HCR
    go_enter Try.func24, Try.ntmps24
    go_wp2_with (first | (go_at_call 62; refine Calls.mono HAU.out ?_; rintro e w2 ⟨A2, n2, c2, rfl, ho, hx2⟩) | (go_at_call 69; refine Calls.mono (HCR.out _ hx2) ?_; rintro e w3 ⟨A3, n3, c3, rfl, ho3, hx3⟩))
    go_ret2
    exact retL_no HF.out (by repeat (first | assumption | exact Ext.refl _ | apply Ext.drewN | apply Ext.drew | apply Ext.alloc | (refine Ext.trans ?_ (by assumption)) | (refine Ext.set ?_ (by dsimp only; omega) _)))
  have hok : okSh n m i P L = okSw i.toNat i.toNat P (prX L n i.toNat) := by
    unfold okAu at hA; unfold okCr at hC; unfold okSh
    rw [Bool.and_eq_true] at hA
    rw [hA.1, hA.2] at hC ⊢
    simp only [Bool.and_true, Bool.true_and] at hC ⊢
    rw [hC]; rfl
  have hct2 : i.toNat ≤ 24 := by unfold okAu at hA; rw [Bool.and_eq_true] at hA; have := inB_of hA.2; omega
  rw [hok]
  rw [hA] at HAU
  rw [hC] at HCR
  have HX : Hid (lst (fun k : Nat => fcr L L (k : Int) n) i.toNat = prX L n i.toNat) := Lib.hid rfl
  clear hok
  go_enter Try.func24, Try.ntmps24
  go_wp2_with (first | (go_at_call 62; refine Calls.mono HAU.out ?_; rintro e w2 ⟨A2, n2, c2, rfl, ho, hx2⟩; simp only [outL, if_true] at ho; obtain rfl : i.toNat = n2 := (by have h9 := ho.len; rw [lst_len] at h9; exact h9)) | (go_at_call 69; refine Calls.mono (HCR.out _ hx2) ?_; rintro e w3 ⟨A3, n3, c3, rfl, ho3, hx3⟩; simp only [outL, if_true] at ho3; obtain rfl : i.toNat = n3 := (by have h9 := ho3.len; rw [lst_len] at h9; exact h9); have ho4 := ho.ext (Nat.le_refl _) hx3; rw [HX.out] at ho4) | (go_at_call 63; refine Calls.mono (c_solveWhite ho4.rd hx3.size (by omega) fp ho3.rd (Nat.le_refl _) (by omega)) ?_; rintro e w5 ⟨A5, n5, c5, rfl, ho5, hx5⟩))
  go_ret2
  have z1 := hx2.size
  have z2 := hx3.size
  exact ⟨_, _, _, rfl, ho5.more (by omega) (Nat.le_refl _), (by repeat (first | assumption | exact Ext.refl _ | apply Ext.drewN | apply Ext.drew | apply Ext.alloc | (refine Ext.trans ?_ (by assumption)) | (refine Ext.set ?_ (by dsimp only; omega) _)))⟩
set_option maxRecDepth 20000 in
set_option maxHeartbeats 2000000 in
theorem c_spec_ShapeFilter {w : World} {B n c : Nat} {A : Option Addr} {L : List (Option Nat)} (h : RdF w B A n L) (hB : B ≤ w.heap.size) (hn : n ≤ 1048576) (_hcap : n ≤ c) {B' m c' : Nat} {A' : Option Addr} {M : List (Option Nat)} (h' : RdF w B' A' m M) (hB' : B' ≤ w.heap.size) (hm : m ≤ 1048576) (_hcap' : m ≤ c') {i : Int} (_hi : -9223372036854775808 ≤ i) (_hj : i ≤ 9223372036854775807) {p : Nat} {P : Option Nat} (fp : Fl .f32 p P) :
    Calls Try.prog 23 #[.slice A n c, .slice A' m c', .int .i64 i, .float .f32 p] w fun e w' => RetL w e w' (okSh n m i P L) (shF n i P L M) := by
  go_enter Try.func23, Try.ntmps23
  go_wp2_with (go_at_call 68; refine Calls.mono (c_l05Shape h hB hn h' hB' hm fp) ?_; rintro e w2 ⟨A2, n2, c2, rfl, ho, hx2⟩)
  go_ret2
  exact ⟨_, _, _, rfl, ho, hx2⟩
theorem both_ShapeFilter {n0 : Nat} {L0 : List (Option Nat)} (_hl0 : L0.length = n0) (hn0 : n0 ≤ 1048576) {n1 : Nat} {L1 : List (Option Nat)} (_hl1 : L1.length = n1) (hn1 : n1 ≤ 1048576) {i2 : Int} (hi2 : -9223372036854775808 ≤ i2) (hj2 : i2 ≤ 9223372036854775807) {p3 : Nat} {P3 : Option Nat} (fp3 : Fl .f32 p3 P3) :
    ∃ ok Q q, q ≤ 1048576 ∧ (∀ W : World, ∀ (B0 : Nat) (A0 : Option Addr) (c0 : Nat), RdF W B0 A0 n0 L0 → B0 ≤ W.heap.size → n0 ≤ c0 → ∀ (B1 : Nat) (A1 : Option Addr) (c1 : Nat), RdF W B1 A1 n1 L1 → B1 ≤ W.heap.size → n1 ≤ c1 → Calls Try.prog 23 #[.slice A0 n0 c0, .slice A1 n1 c1, .int .i64 i2, .float .f32 p3] W fun e w' => RetQ W e w' ok q Q) ∧
      (∀ W : World, ∀ (B0 : Nat) (A0 : Option Addr) (c0 : Nat), RdF W B0 A0 n0 L0 → B0 ≤ W.heap.size → n0 ≤ c0 → ∀ (B1 : Nat) (A1 : Option Addr) (c1 : Nat), RdF W B1 A1 n1 L1 → B1 ≤ W.heap.size → n1 ≤ c1 → Calls Try.prog 24 #[.slice A0 n0 c0, .slice A1 n1 c1, .int .i64 i2, .float .f32 p3] W fun e w' => RetQ W e w' ok q Q) :=
  ⟨okSh n0 n1 i2 P3 L0, outL (okSh n0 n1 i2 P3 L0) (shF n0 i2 P3 L0 L1), (outL (okSh n0 n1 i2 P3 L0) (shF n0 i2 P3 L0 L1)).length, (by (cases hq : okSh n0 n1 i2 P3 L0; exact Nat.zero_le _; (show (shF _ _ _ _ _).length ≤ _; rw [shF_len]; unfold okSh at hq; simp only [Bool.and_eq_true] at hq; have := inB_of hq.2.2.1; omega))),
    fun W _ _ _ h0 hB0 hc0 _ _ _ h1 hB1 hc1 => Calls.mono (c_spec_ShapeFilter (w := W) h0 hB0 hn0 hc0 h1 hB1 hn1 hc1 hi2 hj2 fp3) (fun _ _ hr => hr.q), fun W _ _ _ h0 hB0 hc0 _ _ _ h1 hB1 hc1 => Calls.mono (c_impl_ShapeFilter (w := W) h0 hB0 hn0 hc0 h1 hB1 hn1 hc1 hi2 hj2 fp3) (fun _ _ hr => hr.q)⟩

set_option maxRecDepth 20000 in
set_option maxHeartbeats 2000000 in
theorem c_spec_SpikeFilter {w : World} {B n c : Nat} {A : Option Addr} {L : List (Option Nat)} (h : RdF w B A n L) (hB : B ≤ w.heap.size) (hn : n ≤ 1048576) (_hcap : n ≤ c) {i : Int} (_hi : -9223372036854775808 ≤ i) (_hj : i ≤ 9223372036854775807) {p : Nat} {P : Option Nat} (fp : Fl .f32 p P) :
    Calls Try.prog 25 #[.slice A n c, .int .i64 i, .float .f32 p] w fun e w' => RetL w e w' (okSh n 1 i P L) (shF n i P L [fu]) := by
  have hx1 : Ext w (w.alloc (.cells #[.float .f32 1065353216] 28)) := (by repeat (first | assumption | exact Ext.refl _ | apply Ext.drewN | apply Ext.drew | apply Ext.alloc | (refine Ext.trans ?_ (by assumption)) | (refine Ext.set ?_ (by dsimp only; omega) _)))
  have ho1 := own_one_l (w := w) fl_fu
  go_enter Try.func25, Try.ntmps25
  go_wp2_with (go_at_call 68; refine Calls.mono (c_l05Shape (h.below (hx1.mono hB)) (Nat.le_trans hB hx1.size) hn ho1.rd (Nat.le_refl _) (by decide) fp) ?_; rintro e w2 ⟨A2, n2, c2, rfl, ho, hx2⟩)
  go_ret2
  exact ⟨_, _, _, rfl, ho.more hx1.size (Nat.le_refl _), hx1.trans hx2⟩
set_option maxRecDepth 20000 in
set_option maxHeartbeats 2000000 in
theorem c_impl_SpikeFilter {w : World} {B n c : Nat} {A : Option Addr} {L : List (Option Nat)} (h : RdF w B A n L) (hB : B ≤ w.heap.size) (hn : n ≤ 1048576) (hcap : n ≤ c) {i : Int} (hi : -9223372036854775808 ≤ i) (hj : i ≤ 9223372036854775807) {p : Nat} {P : Option Nat} (fp : Fl .f32 p P) :
    Calls Try.prog 26 #[.slice A n c, .int .i64 i, .float .f32 p] w fun e w' => RetL w e w' (okSh n 1 i P L) (shF n i P L [fu]) := by
  have hx1 : Ext w (w.alloc (.cells #[.float .f32 1065353216] 28)) := (by repeat (first | assumption | exact Ext.refl _ | apply Ext.drewN | apply Ext.drew | apply Ext.alloc | (refine Ext.trans ?_ (by assumption)) | (refine Ext.set ?_ (by dsimp only; omega) _)))
  have ho1 := own_one_l (w := w) fl_fu
  have HC := Lib.hid (c_impl_ShapeFilter (c' := 1) (h.below (hx1.mono hB)) (Nat.le_trans hB hx1.size) hn hcap ho1.rd (Nat.le_refl _) (by decide) (Nat.le_refl _) hi hj fp)
  clear hi hj
  go_enter Try.func26, Try.ntmps26
  go_wp2_with (go_at_call 24; refine Calls.mono HC.out ?_; rintro e w2 ⟨A2, n2, c2, rfl, ho, hx2⟩)
  go_ret2
  exact ⟨_, _, _, rfl, ho.more hx1.size (Nat.le_refl _), hx1.trans hx2⟩
theorem both_SpikeFilter {n0 : Nat} {L0 : List (Option Nat)} (_hl0 : L0.length = n0) (hn0 : n0 ≤ 1048576) {i1 : Int} (hi1 : -9223372036854775808 ≤ i1) (hj1 : i1 ≤ 9223372036854775807) {p2 : Nat} {P2 : Option Nat} (fp2 : Fl .f32 p2 P2) :
    ∃ ok Q q, q ≤ 1048576 ∧ (∀ W : World, ∀ (B0 : Nat) (A0 : Option Addr) (c0 : Nat), RdF W B0 A0 n0 L0 → B0 ≤ W.heap.size → n0 ≤ c0 → Calls Try.prog 25 #[.slice A0 n0 c0, .int .i64 i1, .float .f32 p2] W fun e w' => RetQ W e w' ok q Q) ∧
      (∀ W : World, ∀ (B0 : Nat) (A0 : Option Addr) (c0 : Nat), RdF W B0 A0 n0 L0 → B0 ≤ W.heap.size → n0 ≤ c0 → Calls Try.prog 26 #[.slice A0 n0 c0, .int .i64 i1, .float .f32 p2] W fun e w' => RetQ W e w' ok q Q) :=
  ⟨okSh n0 1 i1 P2 L0, outL (okSh n0 1 i1 P2 L0) (shF n0 i1 P2 L0 [fu]), (outL (okSh n0 1 i1 P2 L0) (shF n0 i1 P2 L0 [fu])).length, (by (cases hq : okSh n0 1 i1 P2 L0; exact Nat.zero_le _; (show (shF _ _ _ _ _).length ≤ _; rw [shF_len]; unfold okSh at hq; simp only [Bool.and_eq_true] at hq; have := inB_of hq.2.2.1; omega))),
    fun W _ _ _ h0 hB0 hc0 => Calls.mono (c_spec_SpikeFilter (w := W) h0 hB0 hn0 hc0 hi1 hj1 fp2) (fun _ _ hr => hr.q), fun W _ _ _ h0 hB0 hc0 => Calls.mono (c_impl_SpikeFilter (w := W) h0 hB0 hn0 hc0 hi1 hj1 fp2) (fun _ _ hr => hr.q)⟩

end Go.Proofs.Ytceldjkgddbfaab
