/- Contracts: autos and crosses, on both sides. Condition: the lists are read. -/
import Derived.Test.YtceldjkgddbfaabRc
namespace Go.Proofs.Ytceldjkgddbfaab
open Go.RowKit Go.Shelf Ieee

attribute [local go_sem] Oper.semAt_some
theorem lag_stops {w : World} {B n c B' n' c' b b' off off' : Nat} {P T : List (Option Nat)} (h : RdF w B (some ⟨b, off, none⟩) n P) (h' : RdF w B' (some ⟨b', off', none⟩) n' T) (hB : B ≤ w.heap.size) (hB' : B' ≤ w.heap.size) (hn0 : 0 < n) (hm0 : 0 < n') (hn : n ≤ 128) (hn' : n' ≤ 128) (hc : n ≤ c) (hc' : n' ≤ c') (m : Nat) (hm : 1 ≤ m) (g1 g2 g3 g4 : Nat) {lo hq : Int} {N : Nat} (hhq : hq = lo + N - 1) (hlo : -128 ≤ lo) (hhi : lo + N ≤ 129)
    (hg1 : g1 < w.heap.size) (hg2 : g2 < w.heap.size) (hg3 : g3 < w.heap.size) (hg4 : g4 < w.heap.size)
    (k1 : w.cell? ⟨g1, 0, none⟩ = some (.int .i64 lo)) (k2 : w.cell? ⟨g2, 0, none⟩ = some (.int .i64 hq)) (k3 : w.cell? ⟨g3, 0, none⟩ = some (.slice (some ⟨b, off, none⟩) n c)) (k4 : w.cell? ⟨g4, 0, none⟩ = some (.slice (some ⟨b', off', none⟩) n' c')) :
    SeqStopsK Fence.wide m Try.prog 114 #[.pointer (some ⟨g1, 0, none⟩), .pointer (some ⟨g2, 0, none⟩), .pointer (some ⟨g3, 0, none⟩), .pointer (some ⟨g4, 0, none⟩)] (fun x : Nat => #[Value.float .f32 x]) (Below w.heap.size) (LagS (fun k => fcr P T (lo + k) n) N) (fun _ => True) N w :=
  fun l J Jx W hW hJ _ hY h0 => lags1_in m hm l w.heap.size g1 g2 g3 g4 hhq hn0 hm0 hn hn' hc hc' hlo hhi hg1 hg2 hg3 hg4 hB hB' J Jx hY W hW.size hJ (h.below (hW.mono hB)) (h'.below (hW.mono hB'))
    ((hW.cell (p := ⟨g1, 0, none⟩) hg1).trans k1) ((hW.cell (p := ⟨g2, 0, none⟩) hg2).trans k2) ((hW.cell (p := ⟨g3, 0, none⟩) hg3).trans k3) ((hW.cell (p := ⟨g4, 0, none⟩) hg4).trans k4) h0
theorem lag_own {w : World} {base N : Nat} {v : Value} {ys : List Nat} {F : Nat → Option Nat} (hS : LagS F N ys) (hrow : w.ownsRow base 28 1 v ys.length (ys.map (Value.float .f32))) : OwF w base v N F := by
  rw [hS.1] at hrow
  refine ⟨_, hrow, fun j hj => ⟨ys.getD j 0, ?_, hS.2 j hj⟩⟩
  have hlt : j < ys.length := by rw [hS.1]; exact hj
  simp [List.getD, hlt]
set_option maxRecDepth 100000 in
set_option maxRecDepth 20000 in
set_option maxHeartbeats 4000000 in
theorem c_collectLags {w : World} {B n c B' n' c' b b' off off' : Nat} {P T : List (Option Nat)} (h : RdF w B (some ⟨b, off, none⟩) n P) (h' : RdF w B' (some ⟨b', off', none⟩) n' T) (hB : B ≤ w.heap.size) (hB' : B' ≤ w.heap.size) (hn0 : 0 < n) (hm0 : 0 < n') (hn : n ≤ 128) (hn' : n' ≤ 128) (hc : n ≤ c) (hc' : n' ≤ c') (g1 g2 g3 g4 : Nat) {lo hq : Int} {N : Nat} (hhq : hq = lo + N - 1) (hlo : -128 ≤ lo) (hhi : lo + N ≤ 129)
    (hg1 : g1 < w.heap.size) (hg2 : g2 < w.heap.size) (hg3 : g3 < w.heap.size) (hg4 : g4 < w.heap.size)
    (k1 : w.cell? ⟨g1, 0, none⟩ = some (.int .i64 lo)) (k2 : w.cell? ⟨g2, 0, none⟩ = some (.int .i64 hq)) (k3 : w.cell? ⟨g3, 0, none⟩ = some (.slice (some ⟨b, off, none⟩) n c)) (k4 : w.cell? ⟨g4, 0, none⟩ = some (.slice (some ⟨b', off', none⟩) n' c')) :
    Calls Try.prog 73 #[.func (.func 114) #[] #[.pointer (some ⟨g1, 0, none⟩), .pointer (some ⟨g2, 0, none⟩), .pointer (some ⟨g3, 0, none⟩), .pointer (some ⟨g4, 0, none⟩)]] w fun e w' => ∃ v, e = .returned v ∧ OwF w' w.heap.size v N (fun k => fcr P T (lo + k) n) ∧ Ext w w' := by
  have hst := lag_stops h h' hB hB' hn0 hm0 hn hn' hc hc' 7 (by omega) g1 g2 g3 g4 hhq hlo hhi hg1 hg2 hg3 hg4 k1 k2 k3 k4
  have hap := appendSeq_in 8 (by omega) w.heap.size 114 _ (enters_of Try.func114 (by kernel_rfl) rfl) _ _ N (by omega) w (Nat.le_refl _) hst (fun ys hS => hS.1)
  have HAP := Lib.hid hap
  clear hst hap k1 k2 k3 k4
  refine (callsIn_wide (n := 9)).1 ?_
  refine callsIn_of_wp Try.func73 rfl trivial ?_ rfl
  simp only [Try.ntmps73, List.size_toArray, List.length_cons, List.length_nil, Nat.reduceAdd, Nat.reduceSub, Array.replicate_succ, Array.replicate_zero, List.push_toArray, List.append_toArray, List.nil_append, List.cons_append]
  gi_wp2_with (refine ⟨trivial, ?_⟩; gi_at_call 113; refine HAP.out.mono ?_; rintro e w' ⟨v, ys, rfl, hS, hrow, hb⟩)
  go_ret
  exact ⟨v, rfl, lag_own hS hrow, hb⟩
set_option maxRecDepth 20000 in
set_option maxHeartbeats 2000000 in
theorem c_lags {w : World} {A A' : Option Addr} {n c n' c' : Nat} {lo hq : Int} :
    Calls Try.prog 74 #[.slice A n c, .slice A' n' c', .int .i64 lo, .int .i64 hq] w fun e w' => ∃ g1 g2 g3 g4, e = .returned (.func (.func 114) #[] #[.pointer (some ⟨g1, 0, none⟩), .pointer (some ⟨g2, 0, none⟩), .pointer (some ⟨g3, 0, none⟩), .pointer (some ⟨g4, 0, none⟩)]) ∧ (g1 < w'.heap.size ∧ g2 < w'.heap.size ∧ g3 < w'.heap.size ∧ g4 < w'.heap.size) ∧
      (w'.cell? ⟨g1, 0, none⟩ = some (.int .i64 lo) ∧ w'.cell? ⟨g2, 0, none⟩ = some (.int .i64 hq) ∧ w'.cell? ⟨g3, 0, none⟩ = some (.slice A n c) ∧ w'.cell? ⟨g4, 0, none⟩ = some (.slice A' n' c')) ∧ Ext w w' := by
  obtain ⟨W, hW⟩ : ∃ W, W = (((w.alloc (.cells #[.slice A n c] 22)).alloc (.cells #[.slice A' n' c'] 22)).alloc (.cells #[.int .i64 lo] 2)).alloc (.cells #[.int .i64 hq] 2) := ⟨_, rfl⟩
  have f3 : W.heap[w.heap.size]? = some (.cells #[.slice A n c] 22 (0, 0)) := by rw [hW]; exact (by repeat (first | (refine al_at ?_ ?_ <;> first | rfl | (simp only [al_size] <;> omega)) | apply al_old))
  have f4 : W.heap[w.heap.size + 1]? = some (.cells #[.slice A' n' c'] 22 (0, 0)) := by rw [hW]; exact (by repeat (first | (refine al_at ?_ ?_ <;> first | rfl | (simp only [al_size] <;> omega)) | apply al_old))
  have f1 : W.heap[w.heap.size + 1 + 1]? = some (.cells #[.int .i64 lo] 2 (0, 0)) := by rw [hW]; exact (by repeat (first | (refine al_at ?_ ?_ <;> first | rfl | (simp only [al_size] <;> omega)) | apply al_old))
  have f2 : W.heap[w.heap.size + 1 + 1 + 1]? = some (.cells #[.int .i64 hq] 2 (0, 0)) := by rw [hW]; exact (by repeat (first | (refine al_at ?_ ?_ <;> first | rfl | (simp only [al_size] <;> omega)) | apply al_old))
  have hx : Ext w W := by rw [hW]; exact (by repeat (first | assumption | exact Ext.refl _ | apply Ext.drewN | apply Ext.drew | apply Ext.alloc | (refine Ext.trans ?_ (by assumption)) | (refine Ext.set ?_ (by dsimp only; omega) _)))
  have HF : Hid (W.cell? ⟨w.heap.size + 1 + 1, 0, none⟩ = some (.int .i64 lo) ∧ W.cell? ⟨w.heap.size + 1 + 1 + 1, 0, none⟩ = some (.int .i64 hq) ∧ W.cell? ⟨w.heap.size, 0, none⟩ = some (.slice A n c) ∧ W.cell? ⟨w.heap.size + 1, 0, none⟩ = some (.slice A' n' c')) := Lib.hid ⟨cell1' f1, cell1' f2, cell1' f3, cell1' f4⟩
  have HS := Lib.hid (And.intro (blk_lt f1) (And.intro (blk_lt f2) (And.intro (blk_lt f3) (blk_lt f4))))
  have HW := Lib.hid hW
  clear hW f1 f2 f3 f4
  go_enter Try.func74, Try.ntmps74
  go_wp2_with (fail)
  rw [← HW.out]
  go_ret
  exact ⟨_, _, _, _, rfl, HS.out, HF.out, hx⟩
def okCr (n m : Nat) (i : Int) : Bool := tlen n && (tlen m && inB i 1 24)
def okAu (n : Nat) (i : Int) : Bool := tlen n && inB i 1 24
set_option maxRecDepth 20000 in
set_option maxHeartbeats 4000000 in
theorem c_impl_CrossOf {w : World} {B n c : Nat} {A : Option Addr} {L : List (Option Nat)} (h : RdF w B A n L) (hB : B ≤ w.heap.size) (hn : n ≤ 1048576) (hcap : n ≤ c) {B' m c' : Nat} {A' : Option Addr} {M : List (Option Nat)} (h' : RdF w B' A' m M) (hB' : B' ≤ w.heap.size) (_hm : m ≤ 1048576) (hcap' : m ≤ c') {i : Int} (_hi : -9223372036854775808 ≤ i) (_hj : i ≤ 9223372036854775807) :
    Calls Try.prog 69 #[.slice A n c, .slice A' m c', .int .i64 i] w fun e w' => RetL w e w' (okCr n m i) (lst (fun k => fcr M L (k : Int) m) i.toNat) := by
  unfold okCr
  cases hV : tlen n
  · go_enter Try.func69, Try.ntmps69
    go_wp2_with (go_at_call 72; refine Calls.mono (c_IsTrace _ _ _ _) ?_; rw [hV]; rintro e w1 ⟨rfl, rfl⟩)
    go_ret2
    exact retL_no rfl (by repeat (first | assumption | exact Ext.refl _ | apply Ext.drewN | apply Ext.drew | apply Ext.alloc | (refine Ext.trans ?_ (by assumption)) | (refine Ext.set ?_ (by dsimp only; omega) _)))
  cases hW : tlen m
  · go_enter Try.func69, Try.ntmps69
    go_wp2_with (first | (go_at_call 72; refine Calls.mono (c_IsTrace _ _ _ _) ?_; rw [hV]; rintro e w1 ⟨rfl, rfl⟩) | (go_at_call 72; refine Calls.mono (c_IsTrace _ _ _ _) ?_; rw [hW]; rintro e w1 ⟨rfl, rfl⟩))
    go_ret2
    exact retL_no rfl (by repeat (first | assumption | exact Ext.refl _ | apply Ext.drewN | apply Ext.drew | apply Ext.alloc | (refine Ext.trans ?_ (by assumption)) | (refine Ext.set ?_ (by dsimp only; omega) _)))
  cases hI : inB i 1 24
  · go_enter Try.func69, Try.ntmps69
    go_wp2_with (first | (go_at_call 72; refine Calls.mono (c_IsTrace _ _ _ _) ?_; rw [hV]; rintro e w1 ⟨rfl, rfl⟩) | (go_at_call 72; refine Calls.mono (c_IsTrace _ _ _ _) ?_; rw [hW]; rintro e w1 ⟨rfl, rfl⟩) | (go_at_call 53; refine Calls.mono (c_isFilterLength _ _) ?_; rw [hI]; rintro e w1 ⟨rfl, rfl⟩))
    go_ret2
    exact retL_no rfl (by repeat (first | assumption | exact Ext.refl _ | apply Ext.drewN | apply Ext.drew | apply Ext.alloc | (refine Ext.trans ?_ (by assumption)) | (refine Ext.set ?_ (by dsimp only; omega) _)))
  obtain ⟨p1, p2⟩ := inB_of hI
  obtain ⟨N, rfl⟩ : ∃ N : Nat, i = (N : Int) := ⟨i.toNat, by omega⟩
  rw [Int.toNat_natCast]
  have n1 := tlen_of hV
  have m1 := tlen_of hW
  obtain ⟨b1, o1, t1, rfl, _, _, _⟩ := h.cell (show 0 < n by omega)
  obtain ⟨b2, o2, t2, rfl, _, _, _⟩ := h'.cell (show 0 < m by omega)
  obtain ⟨hq, hhq⟩ : ∃ hq : Int, hq = (N : Int) - 1 := ⟨_, rfl⟩
  have hwq : IntKind.i64.wrap hq = hq := IntWalk.i64_in _ (by omega)
  have hq2 : (N : Int) - 1 = hq := hhq.symm
  have cC := fun (W : World) (hW : Ext w W) (g1 g2 g3 g4 : Nat) => c_collectLags (w := W) (c := c') (c' := c) (lo := 0) (hq := hq) (N := N) (h'.below (hW.mono hB')) (h.below (hW.mono hB)) (Nat.le_trans hB' hW.size) (Nat.le_trans hB hW.size) (by omega) (by omega) m1.2 n1.2 hcap' hcap g1 g2 g3 g4 (by omega) (by omega) (by omega)
  have CC := Lib.hid cC
  clear cC hhq p1 p2
  go_enter Try.func69, Try.ntmps69
  go_wp2_with (first | (go_at_call 72; refine Calls.mono (c_IsTrace _ _ _ _) ?_; rw [hV]; rintro e w1 ⟨rfl, rfl⟩) | (go_at_call 72; refine Calls.mono (c_IsTrace _ _ _ _) ?_; rw [hW]; rintro e w1 ⟨rfl, rfl⟩) | (go_at_call 53; refine Calls.mono (c_isFilterLength _ _) ?_; rw [hI]; rintro e w1 ⟨rfl, rfl⟩) | (go_at_call 74; refine Calls.mono c_lags ?_; rintro e w2 ⟨g1, g2, g3, g4, rfl, ⟨q1, q2, q3, q4⟩, ⟨r1, r2, r3, r4⟩, hx2⟩; have C2 := Lib.hid (CC.out _ hx2 g1 g2 g3 g4 q1 q2 q3 q4 r1 r2 r3 r4); clear r1 r2 r3 r4) | (go_at_call 73; refine Calls.mono C2.out ?_; rintro e w3 ⟨v, rfl, ho, hx3⟩; obtain ⟨A2, c2, rfl, ho2⟩ := ho.owl))
  go_ret2
  refine ⟨_, _, _, rfl, ?_, hx2.trans hx3⟩
  have := ho2.more hx2.size (Nat.le_refl _)
  rw [show (fun k : Nat => fcr M L (0 + (k : Int)) m) = fun k : Nat => fcr M L (k : Int) m from funext fun k => by rw [Int.zero_add]] at this
  exact this
set_option maxRecDepth 20000 in
set_option maxHeartbeats 2000000 in
theorem c_impl_AutoOf {w : World} {B n c : Nat} {A : Option Addr} {L : List (Option Nat)} (h : RdF w B A n L) (hB : B ≤ w.heap.size) (hn : n ≤ 1048576) (hcap : n ≤ c) {i : Int} (hi : -9223372036854775808 ≤ i) (hj : i ≤ 9223372036854775807) :
    Calls Try.prog 62 #[.slice A n c, .int .i64 i] w fun e w' => RetL w e w' (okAu n i) (lst (fun k => fcr L L (k : Int) n) i.toNat) := by
  have hok : okCr n n i = okAu n i := by unfold okCr okAu; cases tlen n <;> rfl
  rw [← hok]
  clear hok
  go_enter Try.func62, Try.ntmps62
  go_wp2_with (go_at_call 69; refine Calls.mono (c_impl_CrossOf h hB hn hcap h hB hn hcap hi hj) ?_; rintro e w2 ⟨A2, n2, c2, rfl, ho, hx2⟩)
  go_ret2
  exact ⟨_, _, _, rfl, ho, hx2⟩


end Go.Proofs.Ytceldjkgddbfaab
