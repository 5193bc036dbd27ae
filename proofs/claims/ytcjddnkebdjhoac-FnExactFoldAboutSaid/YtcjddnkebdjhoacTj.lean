/- Contracts: a wavelet about each number of a trace, on both sides. Condition: the lists are read. -/
import Derived.Test.YtcjddnkebdjhoacTi
namespace Go.Proofs.Ytcjddnkebdjhoac
open Go.RowKit Ieee

def oddB (m : Nat) : Bool := decide (m % 2 = 1)
theorem odd_no {m : Nat} (h : oddB m = false) : (m : Int).tmod 2 = 0 := by
  have := of_decide_eq_false h
  rw [Int.tmod_eq_emod_of_nonneg (by omega)]; omega
theorem odd_yes {m : Nat} (h : oddB m = true) : (m : Int).tmod 2 = 1 := by
  have := of_decide_eq_true h
  rw [Int.tmod_eq_emod_of_nonneg (by omega)]; omega
theorem half_of (m : Nat) : (m : Int).tdiv 2 = ((m / 2 : Nat) : Int) := by
  rw [Int.tdiv_eq_ediv_of_nonneg (by omega)]; omega
theorem owns_ext {w w' : World} {base n : Nat} {v : Value} {e : TypeId} {xs : List Value} (h : w.ownsRow base e 1 v n xs) (hx : Ext w w') : w'.ownsRow base e 1 v n xs := by
  refine ⟨h.1, ?_⟩
  rcases h.2 with hn | ⟨g, cap, cur, hv, hb, hg, hrest⟩
  · exact .inl hn
  · exact .inr ⟨g, cap, cur, hv, hb, hx.blk hg, hrest⟩
theorem row_sub {w : World} {g N n d : Nat} {cs : Array Value} {F : Nat → Option Nat} (hg : w.heap[g]? = some (.cells cs 31 (0, 0))) (h : ∀ j, j < N → ∃ r, cs[j]? = some (.float .f32 r) ∧ Fl .f32 r (F j)) (hd : d + n ≤ N) :
    RdF w w.heap.size (some ⟨g, d, none⟩) n (lst (fun j => F (d + j)) n) := by
  refine ⟨lst_len _ _, fun k hk => ⟨g, d, rfl, blk_lt hg, fun j hj => ?_⟩⟩
  obtain ⟨r, e1, e2⟩ := h (d + j) (by omega)
  exact ⟨r, by rw [cell_of_row w g _ cs _ (0, 0) hg]; exact e1, by rw [lst_at hj]; exact e2⟩
theorem OwF.sub {w : World} {base N n d : Nat} {v : Value} {F : Nat → Option Nat} (h : OwF w base v N F) (hd : d + n ≤ N) (hpos : 0 < n) :
    ∃ g cap, v = .slice (some ⟨g, 0, none⟩) N cap ∧ N ≤ cap ∧ base ≤ g ∧ g < w.heap.size ∧ RdF w w.heap.size (some ⟨g, d, none⟩) n (lst (fun j => F (d + j)) n) := by
  obtain ⟨xs, ho, hx⟩ := h.own
  obtain ⟨hlen, hdj⟩ := ho
  rcases hdj with ⟨hv, h0⟩ | ⟨g, cap, cur, hv, hb, hg, hnc, _, hcs, htk⟩
  · omega
  · refine ⟨g, cap, hv, hnc, hb, blk_lt hg, row_sub hg (N := N) (fun j hj => ?_) hd⟩
    obtain ⟨r, h1, h2⟩ := hx j hj
    refine ⟨r, ?_, h2⟩
    rw [← htk, List.getElem?_take_of_lt (by omega)] at h1
    simpa using h1

set_option maxRecDepth 20000 in
set_option maxHeartbeats 4000000 in
theorem c_spec_FoldAbout {w : World} {B n c : Nat} {A : Option Addr} {L : List (Option Nat)} (h : RdF w B A n L) (hB : B ≤ w.heap.size) (hn : n ≤ 1048576) {B' m c' : Nat} {A' : Option Addr} {M : List (Option Nat)} (h' : RdF w B' A' m M) (hB' : B' ≤ w.heap.size) (hm : m ≤ 1048576) :
    Calls Try.prog 62 #[.slice A n c, .slice A' m c'] w fun e w' => RetL w e w' (okFold n m && oddB m) (lst (fabout L M) n) := by
  cases hV : tlen n
  · rw [okFold_a hV]
    go_enter Try.func62, Try.ntmps62
    go_wp2_with (go_at_call 119; refine Calls.mono (c_l03Is _ _ _ _) ?_; rw [hV]; rintro e w1 ⟨rfl, rfl⟩)
    go_ret2
    exact retL_no rfl (by repeat (first | assumption | exact Ext.refl _ | apply Ext.drewN | apply Ext.drew | apply Ext.alloc | (refine Ext.trans ?_ (by assumption)) | (refine Ext.set ?_ (by dsimp only; omega) _)))
  cases hW : tlen m
  · rw [okFold_b hW]
    go_enter Try.func62, Try.ntmps62
    go_wp2_with (first | (go_at_call 119; refine Calls.mono (c_l03Is _ _ _ _) ?_; rw [hV]; rintro e w1 ⟨rfl, rfl⟩) | (go_at_call 119; refine Calls.mono (c_l03Is _ _ _ _) ?_; rw [hW]; rintro e w1 ⟨rfl, rfl⟩))
    go_ret2
    exact retL_no rfl (by repeat (first | assumption | exact Ext.refl _ | apply Ext.drewN | apply Ext.drew | apply Ext.alloc | (refine Ext.trans ?_ (by assumption)) | (refine Ext.set ?_ (by dsimp only; omega) _)))
  have b1 := tlen_of hV
  have b2 := tlen_of hW
  cases hO : oddB m
  · rw [Bool.and_false]
    have hrem := odd_no hO
    go_enter Try.func62, Try.ntmps62
    go_wp2_with (first | (go_at_call 119; refine Calls.mono (c_l03Is _ _ _ _) ?_; rw [hV]; rintro e w1 ⟨rfl, rfl⟩) | (go_at_call 119; refine Calls.mono (c_l03Is _ _ _ _) ?_; rw [hW]; rintro e w1 ⟨rfl, rfl⟩))
    go_ret2
    exact retL_no rfl (by repeat (first | assumption | exact Ext.refl _ | apply Ext.drewN | apply Ext.drew | apply Ext.alloc | (refine Ext.trans ?_ (by assumption)) | (refine Ext.set ?_ (by dsimp only; omega) _)))
  have hrem := odd_yes hO
  cases hX : le2 (n + m) 129
  · rw [okFold_c hX]
    have hgt : (128 : Int) < (n : Int) + (m : Int) - 1 := by have := le2_not hX; omega
    go_enter Try.func62, Try.ntmps62
    go_wp2_with (first | (go_at_call 119; refine Calls.mono (c_l03Is _ _ _ _) ?_; rw [hV]; rintro e w1 ⟨rfl, rfl⟩) | (go_at_call 119; refine Calls.mono (c_l03Is _ _ _ _) ?_; rw [hW]; rintro e w1 ⟨rfl, rfl⟩))
    go_ret2
    exact retL_no rfl (by repeat (first | assumption | exact Ext.refl _ | apply Ext.drewN | apply Ext.drew | apply Ext.alloc | (refine Ext.trans ?_ (by assumption)) | (refine Ext.set ?_ (by dsimp only; omega) _)))
  rw [okFold_yes hV hW hX]
  have hle : ¬ (128 : Int) < (n : Int) + (m : Int) - 1 := by have := le2_of hX; omega
  have hl' := Lib.hid h'.len
  obtain ⟨d, hd⟩ : ∃ d, m / 2 = d := ⟨_, rfl⟩
  have hquo := half_of m
  rw [hd] at hquo
  obtain ⟨N, hN⟩ := fold_N b1.1 b2.1
  have hmid : d + n ≤ N := by have := of_decide_eq_true hO; omega
  have hN1 : N ≤ 128 := by have := le2_of hX; omega
  have ed : d + n - d = n := Nat.add_sub_cancel_left ..
  have hpos : 0 < n := b1.1
  have hNN := Lib.hid hN
  have HD := Lib.hid hd
  clear hN hd
  obtain ⟨i0, hi, hz0, hz1, hz2⟩ := info_parts info_f32
  go_enter Try.func62, Try.ntmps62
  go_wp2_with (first | (go_at_call 119; refine Calls.mono (c_l03Is _ _ _ _) ?_; rw [hV]; rintro e w1 ⟨rfl, rfl⟩) | (go_at_call 119; refine Calls.mono (c_l03Is _ _ _ _) ?_; rw [hW]; rintro e w1 ⟨rfl, rfl⟩) | (go_at_call 120; refine Calls.mono (c_l03Fold (h.below (Below.mono (w := w) (by repeat (first | assumption | exact Ext.refl _ | apply Ext.drewN | apply Ext.drew | apply Ext.alloc | (refine Ext.trans ?_ (by assumption)) | (refine Ext.set ?_ (by dsimp only; omega) _))) hB)) hn (h'.below (Below.mono (w := w) (by repeat (first | assumption | exact Ext.refl _ | apply Ext.drewN | apply Ext.drew | apply Ext.alloc | (refine Ext.trans ?_ (by assumption)) | (refine Ext.set ?_ (by dsimp only; omega) _))) hB')) hm (by simp; omega) (by simp; omega) hNN.out) ?_; rintro e w2 ⟨v, rfl, ho, hx2⟩; obtain ⟨g, cap, rfl, hcap, hg1, hg2, hrd⟩ := ho.sub hmid hpos; obtain ⟨b, off, hA, hb, rs, hrl, hrs⟩ := hrd.words hpos; cases hA; have HR := Lib.hid hrs; clear hrs hrd ho; have hc1 : (d : Int) + (n : Int) ≤ (cap : Int) := (by omega); have hc2 : (d : Int) ≤ (d : Int) + (n : Int) := (by omega)) | (at_builtin; refine wpList_append_own _ rfl _ _ 25 rfl w.heap.size 31 i0 (.float .f32 0) 1 4 Try.underlying25 hi hz0 hz1 hz2 rfl (by decide) _ _ _ rfl (owns_ext (World.ownsRow_made _ _ 0 (Nat.le_refl _) (Nat.zero_le _) rfl) hx2) ⟨g, d, none⟩ (d + n - d) (cap - d) (fvals rs) rfl (by rw [ed]; simp [fvals, hrl]) ?_ ?_ ?_ ?_ ?_ ?_))
  all_goals first
    | (intro j u hj
       have hjn : j < n := by
         rcases Nat.lt_or_ge j n with h1 | h1
         · exact h1
         · rw [List.getElem?_eq_none (by simp [fvals, hrl]; omega)] at hj; cases hj
       rw [fvals_at (by omega)] at hj
       cases hj
       have hc := (HR.out j hjn).1
       have e0 : (⟨g, d, none⟩ : Addr).add j = ⟨g, d + j, none⟩ := by simp [Addr.add]
       rw [e0]
       exact hc)
    | (intro u hu; simp only [fvals, List.mem_map] at hu; obtain ⟨r, _, rfl⟩ := hu; rfl)
    | (unfold maxLen; omega)
    | omega
    | (have := hx2.size; simp at this; omega)
    | (intro v' w4 hown' hgrow _
       (try rw [ed] at hown'); (try rw [Nat.zero_add] at hown')
       have hx' : Ext w w4 := grown_ext (Ext.trans (by repeat (first | assumption | exact Ext.refl _ | apply Ext.drewN | apply Ext.drew | apply Ext.alloc | (refine Ext.trans ?_ (by assumption)) | (refine Ext.set ?_ (by dsimp only; omega) _))) hx2) (owns_ext (World.ownsRow_made _ _ 0 (Nat.le_refl _) (Nat.zero_le _) rfl) hx2) hgrow
       have ho : OwF w4 w.heap.size v' n (fabout L M) := ⟨_, by simpa using hown', fun j hj => ⟨rs.getD j 0, by first | exact fvals_at (by omega) | (rw [List.nil_append]; exact fvals_at (by omega)), by have e2 := (HR.out j hj).2; rw [lst_at hj] at e2; unfold fabout; rw [hl'.out, HD.out]; exact e2⟩⟩
       obtain ⟨A2, c2, rfl, ho2⟩ := ho.owl
       clear hown' hgrow hx2
       go_wp2_with (fail)
       go_ret2
       exact ⟨_, _, _, rfl, ho2, hx'⟩)

set_option maxRecDepth 20000 in
set_option maxHeartbeats 4000000 in
theorem c_impl_FoldAbout {w : World} {B n c : Nat} {A : Option Addr} {L : List (Option Nat)} (h : RdF w B A n L) (hB : B ≤ w.heap.size) (hn : n ≤ 1048576) {B' m c' : Nat} {A' : Option Addr} {M : List (Option Nat)} (h' : RdF w B' A' m M) (hB' : B' ≤ w.heap.size) (hm : m ≤ 1048576) :
    Calls Try.prog 29 #[.slice A n c, .slice A' m c'] w fun e w' => RetL w e w' (okFold n m && oddB m) (lst (fabout L M) n) := by
  cases hK : okFold n m
  · go_enter Try.func29, Try.ntmps29
    go_wp2_with (go_at_call 21; refine Calls.mono (c_impl_FoldTraces_no (w := w) hn hm hK) ?_; rintro e w1 ⟨rfl, rfl⟩)
    go_ret2
    exact retL_no rfl (by repeat (first | assumption | exact Ext.refl _ | apply Ext.drewN | apply Ext.drew | apply Ext.alloc | (refine Ext.trans ?_ (by assumption)) | (refine Ext.set ?_ (by dsimp only; omega) _)))
  have hk := hK
  unfold okFold at hk
  rw [Bool.and_eq_true, Bool.and_eq_true] at hk
  obtain ⟨hV, hW, hX⟩ := hk
  have b1 := tlen_of hV
  have b2 := tlen_of hW
  obtain ⟨N, hN⟩ := fold_N b1.1 b2.1
  cases hO : oddB m
  · have hrem := odd_no hO
    have hNN := Lib.hid hN
    clear hN
    go_enter Try.func29, Try.ntmps29
    go_wp2_with (go_at_call 21; refine Calls.mono (c_impl_FoldTraces_yes (w := w) h hB hn h' hB' hm hK hNN.out) ?_; rintro e w1 ⟨cs, rfl, hg, hs, hcx, hx1⟩)
    go_ret2
    exact retL_no rfl (by repeat (first | assumption | exact Ext.refl _ | apply Ext.drewN | apply Ext.drew | apply Ext.alloc | (refine Ext.trans ?_ (by assumption)) | (refine Ext.set ?_ (by dsimp only; omega) _)))
  have hrem := odd_yes hO
  have hl' := Lib.hid h'.len
  obtain ⟨d, hd⟩ : ∃ d, m / 2 = d := ⟨_, rfl⟩
  have hquo := half_of m
  rw [hd] at hquo
  have hmid : d + n ≤ N := by have := of_decide_eq_true hO; omega
  have hN1 : N ≤ 128 := by have := le2_of hX; omega
  have ed : d + n - d = n := Nat.add_sub_cancel_left ..
  have hpos : 0 < n := b1.1
  have hc1 : (d : Int) + (n : Int) ≤ (N : Int) := by omega
  have hc2 : (d : Int) ≤ (d : Int) + (n : Int) := by omega
  have hNN := Lib.hid hN
  have HD := Lib.hid hd
  clear hN hd
  go_enter Try.func29, Try.ntmps29
  go_wp2_with (first | (go_at_call 21; refine Calls.mono (c_impl_FoldTraces_yes (w := w) h hB hn h' hB' hm hK hNN.out) ?_; rintro e w1 ⟨cs, rfl, hg, hs, hcx, hx1⟩; have hrd := row_sub hg hcx hmid; clear hcx) | (go_at_call 84; refine Calls.mono (c_cloneF hrd (Nat.le_refl _) hn hpos) ?_; rintro e w2 ⟨g3, cs3, c3, rfl, hg31, hg32, hg33, hg34, hx2⟩))
  go_ret2
  have hxx := hx1.trans hx2
  refine ⟨_, _, _, rfl, (rowF_lst' (hg34.keep (G := fabout L M) (fun j hj => ?_)) hg32 hg33).more (Nat.le_trans hx1.size hg31) (Nat.le_refl _), hxx⟩
  rw [lst_at hj]
  unfold fabout; rw [hl'.out, HD.out]

theorem both_FoldAbout {n0 : Nat} {L0 : List (Option Nat)} (_hl0 : L0.length = n0) (hn0 : n0 ≤ 1048576) {n1 : Nat} {L1 : List (Option Nat)} (_hl1 : L1.length = n1) (hn1 : n1 ≤ 1048576) :
    ∃ ok Q q, q ≤ 1048576 ∧ (∀ W : World, ∀ (B0 : Nat) (A0 : Option Addr) (c0 : Nat), RdF W B0 A0 n0 L0 → B0 ≤ W.heap.size → ∀ (B1 : Nat) (A1 : Option Addr) (c1 : Nat), RdF W B1 A1 n1 L1 → B1 ≤ W.heap.size → Calls Try.prog 62 #[.slice A0 n0 c0, .slice A1 n1 c1] W fun e w' => RetQ W e w' ok q Q) ∧
      (∀ W : World, ∀ (B0 : Nat) (A0 : Option Addr) (c0 : Nat), RdF W B0 A0 n0 L0 → B0 ≤ W.heap.size → ∀ (B1 : Nat) (A1 : Option Addr) (c1 : Nat), RdF W B1 A1 n1 L1 → B1 ≤ W.heap.size → Calls Try.prog 29 #[.slice A0 n0 c0, .slice A1 n1 c1] W fun e w' => RetQ W e w' ok q Q) :=
  ⟨okFold n0 n1 && oddB n1, outL (okFold n0 n1 && oddB n1) (lst (fabout L0 L1) n0), (outL (okFold n0 n1 && oddB n1) (lst (fabout L0 L1) n0)).length, Nat.le_trans (outL_len _ _) (by rw [lst_len]; omega),
    fun W _ _ _ h0 hB0 _ _ _ h1 hB1 => Calls.mono (c_spec_FoldAbout (w := W) h0 hB0 hn0 h1 hB1 hn1) (fun _ _ hr => hr.q), fun W _ _ _ h0 hB0 _ _ _ h1 hB1 => Calls.mono (c_impl_FoldAbout (w := W) h0 hB0 hn0 h1 hB1 hn1) (fun _ _ hr => hr.q)⟩

end Go.Proofs.Ytcjddnkebdjhoac
