/- Contracts: equations on both sides; autos and crosses with room for themselves. Condition: the lists are read. -/
import Derived.Test.YtceldjkgddbfaabRf
import Derived.Test.YtceldjkgddbfaabEq
import Derived.Test.YtceldjkgddbfaabSg
namespace Go.Proofs.Ytceldjkgddbfaab
open Go.RowKit Go.Shelf Ieee

theorem OwF.owlc {w : World} {base n : Nat} {v : Value} {F : Nat → Option Nat} (h : OwF w base v n F) : ∃ A c, v = .slice A n c ∧ n ≤ c ∧ OwL w base w.heap.size A n (lst F n) := by
  obtain ⟨A, c, hv, ho⟩ := h.owl
  obtain ⟨xs, ho2, hx⟩ := h.own
  rcases ho2.2 with ⟨hv2, rfl⟩ | ⟨g, cap, cur, hv2, _, _, hnc, _⟩
  · exact ⟨A, c, hv, Nat.zero_le _, ho⟩
  · rw [hv] at hv2
    simp only [Value.slice.injEq] at hv2
    exact ⟨A, c, hv, by omega, ho⟩
/-- A list of a call's own is returned, with its success, and room for itself. -/
def RetC (w : World) (e : Ending) (w' : World) (ok : Bool) (M : List (Option Nat)) : Prop :=
  ∃ A n c, e = .returned (.tuple #[.slice A n c, .bool ok]) ∧ OwL w' w.heap.size w'.heap.size A n (outL ok M) ∧ n ≤ c ∧ Ext w w'
theorem retC_no {w w' : World} {M : List (Option Nat)} {f : Bool} (hf : f = false) (hx : Ext w w') : RetC w (.returned (.tuple #[.slice none 0 0, .bool false])) w' f M := by
  subst hf; exact ⟨none, 0, 0, rfl, OwL.nil _ _ _ _, Nat.le_refl _, hx⟩
set_option maxRecDepth 20000 in
set_option maxHeartbeats 4000000 in
theorem c_crossC {w : World} {B n c : Nat} {A : Option Addr} {L : List (Option Nat)} (h : RdF w B A n L) (hB : B ≤ w.heap.size) (hn : n ≤ 1048576) (hcap : n ≤ c) {B' m c' : Nat} {A' : Option Addr} {M : List (Option Nat)} (h' : RdF w B' A' m M) (hB' : B' ≤ w.heap.size) (_hm : m ≤ 1048576) (hcap' : m ≤ c') {i : Int} (_hi : -9223372036854775808 ≤ i) (_hj : i ≤ 9223372036854775807) :
    Calls Try.prog 69 #[.slice A n c, .slice A' m c', .int .i64 i] w fun e w' => RetC w e w' (okCr n m i) (lst (fun k => fcr M L (k : Int) m) i.toNat) := by
  unfold okCr
  cases hV : tlen n
  · go_enter Try.func69, Try.ntmps69
    go_wp2_with (go_at_call 72; refine Calls.mono (c_IsTrace _ _ _ _) ?_; rw [hV]; rintro e w1 ⟨rfl, rfl⟩)
    go_ret2
    exact retC_no rfl (by repeat (first | assumption | exact Ext.refl _ | apply Ext.drewN | apply Ext.drew | apply Ext.alloc | (refine Ext.trans ?_ (by assumption)) | (refine Ext.set ?_ (by dsimp only; omega) _)))
  cases hW : tlen m
  · go_enter Try.func69, Try.ntmps69
    go_wp2_with (first | (go_at_call 72; refine Calls.mono (c_IsTrace _ _ _ _) ?_; rw [hV]; rintro e w1 ⟨rfl, rfl⟩) | (go_at_call 72; refine Calls.mono (c_IsTrace _ _ _ _) ?_; rw [hW]; rintro e w1 ⟨rfl, rfl⟩))
    go_ret2
    exact retC_no rfl (by repeat (first | assumption | exact Ext.refl _ | apply Ext.drewN | apply Ext.drew | apply Ext.alloc | (refine Ext.trans ?_ (by assumption)) | (refine Ext.set ?_ (by dsimp only; omega) _)))
  cases hI : inB i 1 24
  · go_enter Try.func69, Try.ntmps69
    go_wp2_with (first | (go_at_call 72; refine Calls.mono (c_IsTrace _ _ _ _) ?_; rw [hV]; rintro e w1 ⟨rfl, rfl⟩) | (go_at_call 72; refine Calls.mono (c_IsTrace _ _ _ _) ?_; rw [hW]; rintro e w1 ⟨rfl, rfl⟩) | (go_at_call 53; refine Calls.mono (c_isFilterLength _ _) ?_; rw [hI]; rintro e w1 ⟨rfl, rfl⟩))
    go_ret2
    exact retC_no rfl (by repeat (first | assumption | exact Ext.refl _ | apply Ext.drewN | apply Ext.drew | apply Ext.alloc | (refine Ext.trans ?_ (by assumption)) | (refine Ext.set ?_ (by dsimp only; omega) _)))
  obtain ⟨p1, p2⟩ := inB_of hI
  obtain ⟨N, rfl⟩ : ∃ N : Nat, i = (N : Int) := ⟨i.toNat, by omega⟩
  rw [Int.toNat_natCast]
  have n1 := tlen_of hV
  have m1 := tlen_of hW
  obtain ⟨b1, o1, t1, rfl, _, _, _⟩ := h.cell (show 0 < n by omega)
  obtain ⟨b2, o2, t2, rfl, _, _, _⟩ := h'.cell (show 0 < m by omega)
  obtain ⟨hq, hhq⟩ : ∃ hq : Int, hq = (N : Int) - 1 := ⟨_, rfl⟩
  have hwq : IntKind.i64.wrap hq = hq := IntWalk.i64_in _ (by omega)
  have hq2 : (N : Int) - 1 = hq := hhq.symm
  have cC := fun (W : World) (hW : Ext w W) (g1 g2 g3 g4 : Nat) => c_collectLags (w := W) (c := c') (c' := c) (lo := 0) (hq := hq) (N := N) (h'.below (hW.mono hB')) (h.below (hW.mono hB)) (Nat.le_trans hB' hW.size) (Nat.le_trans hB hW.size) (by omega) (by omega) m1.2 n1.2 hcap' hcap g1 g2 g3 g4 (by omega) (by omega) (by omega)
  have CC := Lib.hid cC
  clear cC hhq p1 p2
  go_enter Try.func69, Try.ntmps69
  go_wp2_with (first | (go_at_call 72; refine Calls.mono (c_IsTrace _ _ _ _) ?_; rw [hV]; rintro e w1 ⟨rfl, rfl⟩) | (go_at_call 72; refine Calls.mono (c_IsTrace _ _ _ _) ?_; rw [hW]; rintro e w1 ⟨rfl, rfl⟩) | (go_at_call 53; refine Calls.mono (c_isFilterLength _ _) ?_; rw [hI]; rintro e w1 ⟨rfl, rfl⟩) | (go_at_call 74; refine Calls.mono c_lags ?_; rintro e w2 ⟨g1, g2, g3, g4, rfl, ⟨q1, q2, q3, q4⟩, ⟨r1, r2, r3, r4⟩, hx2⟩; have C2 := Lib.hid (CC.out _ hx2 g1 g2 g3 g4 q1 q2 q3 q4 r1 r2 r3 r4); clear r1 r2 r3 r4) | (go_at_call 73; refine Calls.mono C2.out ?_; rintro e w3 ⟨v, rfl, ho, hx3⟩; obtain ⟨A2, c2, rfl, hcc, ho2⟩ := ho.owlc))
  go_ret2
  refine ⟨_, _, _, rfl, ?_, hcc, hx2.trans hx3⟩
  have := ho2.more hx2.size (Nat.le_refl _)
  rw [show (fun k : Nat => fcr M L (0 + (k : Int)) m) = fun k : Nat => fcr M L (k : Int) m from funext fun k => by rw [Int.zero_add]] at this
  exact this
set_option maxRecDepth 20000 in
set_option maxHeartbeats 2000000 in
theorem c_autoC {w : World} {B n c : Nat} {A : Option Addr} {L : List (Option Nat)} (h : RdF w B A n L) (hB : B ≤ w.heap.size) (hn : n ≤ 1048576) (hcap : n ≤ c) {i : Int} (hi : -9223372036854775808 ≤ i) (hj : i ≤ 9223372036854775807) :
    Calls Try.prog 62 #[.slice A n c, .int .i64 i] w fun e w' => RetC w e w' (okAu n i) (lst (fun k => fcr L L (k : Int) n) i.toNat) := by
  have hok : okCr n n i = okAu n i := by unfold okCr okAu; cases tlen n <;> rfl
  rw [← hok]
  clear hok
  go_enter Try.func62, Try.ntmps62
  go_wp2_with (go_at_call 69; refine Calls.mono (c_crossC h hB hn hcap h hB hn hcap hi hj) ?_; rintro e w2 ⟨A2, n2, c2, rfl, ho, hcc, hx2⟩)
  go_ret2
  exact ⟨_, _, _, rfl, ho, hcc, hx2⟩

set_option maxRecDepth 20000 in
set_option maxHeartbeats 4000000 in
theorem c_spec_SolveToeplitz {w : World} {B n c : Nat} {A : Option Addr} {L : List (Option Nat)} (h : RdF w B A n L) (hB : B ≤ w.heap.size) (_hn : n ≤ 1048576) {B' m c' : Nat} {A' : Option Addr} {M : List (Option Nat)} (h' : RdF w B' A' m M) (hB' : B' ≤ w.heap.size) (_hm : m ≤ 1048576) :
    Calls Try.prog 13 #[.slice A n c, .slice A' m c'] w fun e w' => RetL w e w' (okSv n m L) (tF L M (n - 1)) := by
  unfold okSv
  cases hV : elen n
  · go_enter Try.func13, Try.ntmps13
    go_wp2_with (go_at_call 51; refine Calls.mono (c_l05Filter _ _ _ _) ?_; rw [hV]; rintro e w1 ⟨rfl, rfl⟩)
    go_ret2
    exact retL_no rfl (by repeat (first | assumption | exact Ext.refl _ | apply Ext.drewN | apply Ext.drew | apply Ext.alloc | (refine Ext.trans ?_ (by assumption)) | (refine Ext.set ?_ (by dsimp only; omega) _)))
  rw [Bool.true_and]
  by_cases hnm : n = m
  case neg =>
    rw [same2_no hnm]
    have i3 : ((m : Int) != (n : Int)) = true := by rw [bne_iff_ne]; omega
    clear hnm
    go_enter Try.func13, Try.ntmps13
    go_wp2_with (go_at_call 51; refine Calls.mono (c_l05Filter _ _ _ _) ?_; rw [hV]; rintro e w1 ⟨rfl, rfl⟩)
    go_ret2
    exact retL_no rfl (by repeat (first | assumption | exact Ext.refl _ | apply Ext.drewN | apply Ext.drew | apply Ext.alloc | (refine Ext.trans ?_ (by assumption)) | (refine Ext.set ?_ (by dsimp only; omega) _)))
  subst hnm
  rw [same2_yes rfl, Bool.true_and]
  have i3 : ((n : Int) != (n : Int)) = false := by simp
  have hn24 := elen_of hV
  go_enter Try.func13, Try.ntmps13
  go_wp2_with (first | (go_at_call 51; refine Calls.mono (c_l05Filter _ _ _ _) ?_; rw [hV]; rintro e w1 ⟨rfl, rfl⟩) | (go_at_call 52; refine Calls.mono (c_l05Solve h hB hn24.2 hn24.1 h' hB') ?_; rintro e w2 ⟨fv, lv, r, rfl, hyes, hno, hx2⟩))
  go_ret2
  cases hT : tok L (n - 1)
  · rw [hno hT]; exact retL_no rfl hx2
  · obtain ⟨A3, c3, rfl, ho⟩ := hyes hT
    exact ⟨_, _, _, rfl, ho, hx2⟩
theorem both_SolveToeplitz {n0 : Nat} {L0 : List (Option Nat)} (_hl0 : L0.length = n0) (hn0 : n0 ≤ 1048576) {n1 : Nat} {L1 : List (Option Nat)} (_hl1 : L1.length = n1) (hn1 : n1 ≤ 1048576) :
    ∃ ok Q q, q ≤ 1048576 ∧ (∀ W : World, ∀ (B0 : Nat) (A0 : Option Addr) (c0 : Nat), RdF W B0 A0 n0 L0 → B0 ≤ W.heap.size → ∀ (B1 : Nat) (A1 : Option Addr) (c1 : Nat), RdF W B1 A1 n1 L1 → B1 ≤ W.heap.size → Calls Try.prog 13 #[.slice A0 n0 c0, .slice A1 n1 c1] W fun e w' => RetQ W e w' ok q Q) ∧
      (∀ W : World, ∀ (B0 : Nat) (A0 : Option Addr) (c0 : Nat), RdF W B0 A0 n0 L0 → B0 ≤ W.heap.size → ∀ (B1 : Nat) (A1 : Option Addr) (c1 : Nat), RdF W B1 A1 n1 L1 → B1 ≤ W.heap.size → Calls Try.prog 15 #[.slice A0 n0 c0, .slice A1 n1 c1] W fun e w' => RetQ W e w' ok q Q) :=
  ⟨okSv n0 n1 L0, outL (okSv n0 n1 L0) (tF L0 L1 (n0 - 1)), (outL (okSv n0 n1 L0) (tF L0 L1 (n0 - 1))).length, Nat.le_trans (outL_len _ _) (by rw [tF_len]; omega),
    fun W _ _ _ h0 hB0 _ _ _ h1 hB1 => Calls.mono (c_spec_SolveToeplitz (w := W) h0 hB0 hn0 h1 hB1 hn1) (fun _ _ hr => hr.q), fun W _ _ _ h0 hB0 _ _ _ h1 hB1 => Calls.mono (c_impl_SolveToeplitz (w := W) h0 hB0 hn0 h1 hB1 hn1) (fun _ _ hr => hr.q)⟩

end Go.Proofs.Ytceldjkgddbfaab
