/- Contracts: a section with another value, a section of one value, on both sides. Condition: the section is read. -/
import Derived.Test.YtmhfnchpkeeckaaXf
import Derived.Test.YtmhfnchpkeeckaaTf
namespace Go.Proofs.Ytmhfnchpkeeckaa
open Go.RowKit Go.ChangeShapes Go.WideShapes Go.Deep Ieee
set_option linter.unusedVariables false
set_option linter.unusedSimpArgs false

/-- Another number at one place. -/
def fput (L : List (Option Nat)) (m : Nat) (P : Option Nat) (j : Nat) : Option Nat := if j = m then P else L.getD j none
def okP (S : Sct) (i k : Int) : Bool := fvT S && (inB i 0 (S.x - 1) && inB k 0 (S.z - 1))
theorem cell_nat {a b n : Nat} {i k : Int} (hab : a * b = n) (hi : inB i 0 ((a : Int) - 1) = true) (hk : inB k 0 ((b : Int) - 1) = true) :
    ∃ p q r : Nat, i = (p : Int) ∧ k = (q : Int) ∧ a * q = r ∧ (a : Int) * (q : Int) = (r : Int) ∧ p + r < n := by
  obtain ⟨h1, h2⟩ := inB_of hi
  obtain ⟨h3, h4⟩ := inB_of hk
  have e1 : i = ((i.toNat : Nat) : Int) := by omega
  have e2 : k = ((k.toNat : Nat) : Int) := by omega
  refine ⟨i.toNat, k.toNat, a * k.toNat, e1, e2, rfl, by simp, ?_⟩
  have h5 : a * (k.toNat + 1) ≤ a * b := Nat.mul_le_mul_left a (by omega)
  rw [Nat.mul_add, Nat.mul_one, hab] at h5
  omega
set_option maxRecDepth 20000 in
set_option maxHeartbeats 1000000 in
theorem c_isCell (x z i k : Int) (w : World) : Calls Try.prog 59 #[.int .i64 x, .int .i64 z, .int .i64 i, .int .i64 k] w fun e w' => e = .returned (.bool (inB i 0 (x - 1) && inB k 0 (z - 1))) ∧ w' = w := by
  by_cases h1 : 0 ≤ i
  · by_cases h2 : i < x
    · rw [inB_yes h1 (by omega), Bool.true_and]
      by_cases h3 : 0 ≤ k
      · by_cases h4 : k < z
        · rw [inB_yes h3 (by omega)]
          go_enter Try.func59, Try.ntmps59
          go_wp2_with (fail)
          go_ret
          exact ⟨rfl, rfl⟩
        · rw [inB_hi (by omega)]
          go_enter Try.func59, Try.ntmps59
          go_wp2_with (fail)
          go_ret
          exact ⟨rfl, rfl⟩
      · rw [inB_lo (by omega)]
        go_enter Try.func59, Try.ntmps59
        go_wp2_with (fail)
        go_ret
        exact ⟨rfl, rfl⟩
    · rw [inB_hi (by omega), Bool.false_and]
      go_enter Try.func59, Try.ntmps59
      go_wp2_with (fail)
      go_ret
      exact ⟨rfl, rfl⟩
  · rw [inB_lo (by omega), Bool.false_and]
    go_enter Try.func59, Try.ntmps59
    go_wp2_with (fail)
    go_ret
    exact ⟨rfl, rfl⟩
set_option maxRecDepth 20000 in
set_option maxHeartbeats 4000000 in
theorem c_cloneC {w : World} {B n c : Nat} {A : Option Addr} {L : List (Option Nat)} (h : RdF w B A n L) (hB : B ≤ w.heap.size) (hn : n ≤ 1048576) (hpos : 0 < n) :
    Calls Try.prog 60 #[.slice A n c] w fun e w' => ∃ g cs c', e = .returned (.slice (some ⟨g, 0, none⟩) n c') ∧ w.heap.size ≤ g ∧ w'.heap[g]? = some (.cells cs 32 (0, 0)) ∧ n ≤ cs.size ∧ RowF cs n (fun j => L.getD j none) ∧ Ext w w' ∧ n ≤ c' := by
  obtain ⟨i0, hi, hz0, hz1, hz2⟩ := info_parts info_f32
  obtain ⟨b, off, rfl, hb, rs, hrl, hrs⟩ := h.words hpos
  have HR := Lib.hid hrs
  clear hrs
  have hnil := fun W : World => Go.Lib.run_eql_slice_nil (P := Try.prog) W 22 32 (some ⟨b, off, none⟩) n c 0 0 Try.underlying22
  go_enter Try.func60, Try.ntmps60
  go_wp2_with (at_builtin; refine wpList_append_own _ rfl _ _ 22 rfl w.heap.size 32 i0 (.float .f32 0) 1 4 Try.underlying22 hi hz0 hz1 hz2 rfl (by decide) _ _ _ rfl (World.ownsRow_made _ _ 0 (Nat.le_refl _) (Nat.zero_le _) rfl) ⟨b, off, none⟩ n c (fvals rs) rfl (by simp [fvals, hrl]) ?_ ?_ ?_ ?_ ?_ ?_)
  all_goals first
    | (intro j u hj
       have hjn : j < n := by
         rcases Nat.lt_or_ge j n with h1 | h1
         · exact h1
         · rw [List.getElem?_eq_none (by simp [fvals, hrl]; omega)] at hj; cases hj
       rw [fvals_at (by omega)] at hj
       cases hj
       have hc := (HR.out j hjn).1
       have e0 : (⟨b, off, none⟩ : Addr).add j = ⟨b, off + j, none⟩ := by simp [Addr.add]
       rw [e0]
       exact ((Ext.alloc (Ext.refl w) _).cell (by show b < _; omega)).trans hc)
    | (intro u hu; simp only [fvals, List.mem_map] at hu; obtain ⟨r, _, rfl⟩ := hu; rfl)
    | (unfold maxLen; omega)
    | omega
    | (simp; done)
    | (intro v' w4 hown' hgrow _
       have hx' : Ext w w4 := grown_ext (Ext.alloc (Ext.refl w) _) (World.ownsRow_made _ _ 0 (Nat.le_refl _) (Nat.zero_le _) rfl) hgrow
       obtain ⟨hlen, hd⟩ := hown'
       rcases hd with ⟨hv, h0⟩ | ⟨g, cap, cur, rfl, hbg, hg, hnc, _, hcs, htk⟩
       · omega
       have HG := Lib.hid hg
       have HT := Lib.hid htk
       have HC := Lib.hid hcs
       have HN := Lib.hid hnc
       clear hg htk hcs hlen hgrow
       go_wp2_with (fail)
       go_ret
       refine ⟨g, cur, cap, by first | rfl | simp, hbg, HG.out, by have := HC.out; omega, fun j hj => ?_, hx', HN.out⟩
       have e1 : cur[j]? = (cur.toList.take (n * 1))[j]? := by rw [List.getElem?_take_of_lt (by omega)]; simp
       refine ⟨rs.getD j 0, ?_, (HR.out j hj).2⟩
       rw [e1, HT.out, fvals_at (by omega)])
set_option maxRecDepth 20000 in
set_option maxHeartbeats 8000000 in
theorem c_spec_PutValue {w : World} {B : Nat} {u : Value} {S : Sct} (h : RdT w B u S) (hB : B ≤ w.heap.size) (za : S.v.length ≤ 1048576) (hok : S.Ok) {i1 : Int} (hi1 : -9223372036854775808 ≤ i1) (hj1 : i1 ≤ 9223372036854775807) {i2 : Int} (hi2 : -9223372036854775808 ≤ i2) (hj2 : i2 ≤ 9223372036854775807) {p : Nat} {P : Option Nat} (fp : Fl .f32 p P) :
    Calls Try.prog 26 #[u, .int .i64 i1, .int .i64 i2, .float .f32 p] w fun e w' => RetT w e w' (okP S i1 i2) (outT (okP S i1 i2) ⟨S.x, S.z, lst (fput S.v (i1 + S.x * i2).toNat P) S.v.length⟩) := by
  obtain ⟨A, c, rfl, hp, hcA⟩ := h.ex
  clear h
  obtain ⟨x, z, L⟩ := S
  dsimp only at hp za ⊢
  obtain ⟨W1, hW1⟩ : ∃ W1, W1 = (w.alloc (.cells #[.int .i64 x, .int .i64 z, .slice A L.length c] 27)).alloc (.cells #[.int .i64 0, .int .i64 0, .slice none 0 0] 27) := ⟨_, rfl⟩
  have hx1 : Ext w W1 := by rw [hW1]; exact (by repeat (first | assumption | exact Ext.refl _ | apply Ext.drewN | apply Ext.drew | apply Ext.alloc | (refine Ext.trans ?_ (by assumption)) | (refine Ext.set ?_ (by dsimp only; omega) _)))
  have hbox : SbAt W1 w.heap.size x z A L.length c := by rw [hW1]; exact SbAt.blk (T := 27) (by repeat (first | (refine al_at ?_ ?_ <;> first | rfl | (simp only [al_size] <;> omega)) | apply al_old))
  have hz1 : W1.heap[w.heap.size + 1]? = some (.cells #[.int .i64 0, .int .i64 0, .slice none 0 0] 27 (0, 0)) := by rw [hW1]; exact al_at (by simp only [al_size]) rfl
  have hs1 : W1.heap.size = w.heap.size + 1 + 1 := by rw [hW1]; simp only [al_size]
  have HZ1 := Lib.hid hz1
  have HP := Lib.hid hp
  have HBX := Lib.hid hbox
  clear hz1 hp hbox
  unfold okP
  cases hV : fvT ⟨x, z, L⟩
  case false =>
    rw [Bool.false_and]
    go_enter Try.func26, Try.ntmps26
    go_wp2_with (fail)
    rw [← hW1]
    clear hW1
    obtain ⟨p0, p1, p2, _⟩ := HBX.out
    obtain ⟨c0, c1, c2, x0, x1, x2⟩ := three_c HZ1.out
    go_wp2_with ((go_at_call 46; refine Calls.mono (c_l06Is (S := ⟨_, _, L⟩) HBX.out rfl za) ?_; rw [hV]; rintro e w1 ⟨rfl, n1, rfl⟩))
    (try simp only [Exit.inBlock, Exit.then])
    refine bodyPost_ret (results_cellT rfl _ _ (w.heap.size + 1) 27 #[.int .i64 0, .int .i64 0, .slice none 0 0] (0, 0) _ rfl (by repeat (first | exact HZ1.out | exact blk_set1 (blk_set1 (blk_set1 HZ1.out 0 _) 1 _) 2 _)) Try.underlying27 rfl (by kernel_rfl)) rfl ?_
    exact retT_no rfl (by repeat (first | assumption | exact Ext.refl _ | apply Ext.drewN | apply Ext.drew | apply Ext.alloc | (refine Ext.trans ?_ (by assumption)) | (refine Ext.set ?_ (by dsimp only; omega) _)))
  rw [Bool.true_and]
  have HV := Lib.hid hV
  obtain ⟨a, b, rfl, rfl, e4, e5, e6, e7, e8, e9, e10, e11⟩ := fvT_nat hV
  dsimp only at *
  clear hV e11
  cases hI : inB i1 0 ((a : Int) - 1)
  case false =>
    rw [Bool.false_and]
    clear e8
    go_enter Try.func26, Try.ntmps26
    go_wp2_with (fail)
    rw [← hW1]
    clear hW1
    obtain ⟨p0, p1, p2, _⟩ := HBX.out
    obtain ⟨c0, c1, c2, x0, x1, x2⟩ := three_c HZ1.out
    go_wp2_with (first | (go_at_call 46; refine Calls.mono (c_l06Is (S := ⟨_, _, L⟩) HBX.out rfl za) ?_; rw [HV.out]; rintro e w1 ⟨rfl, n1, rfl⟩) | (go_at_call_of 57 i1; refine Calls.mono (c_l00In i1 0 ((a : Int) - 1) _) ?_; rw [hI]; rintro e w4 ⟨rfl, rfl⟩))
    (try simp only [Exit.inBlock, Exit.then])
    refine bodyPost_ret (results_cellT rfl _ _ (w.heap.size + 1) 27 #[.int .i64 0, .int .i64 0, .slice none 0 0] (0, 0) _ rfl (by repeat (first | exact HZ1.out | exact blk_set1 (blk_set1 (blk_set1 HZ1.out 0 _) 1 _) 2 _)) Try.underlying27 rfl (by kernel_rfl)) rfl ?_
    exact retT_no rfl (by repeat (first | assumption | exact Ext.refl _ | apply Ext.drewN | apply Ext.drew | apply Ext.alloc | (refine Ext.trans ?_ (by assumption)) | (refine Ext.set ?_ (by dsimp only; omega) _)))
  rw [Bool.true_and]
  cases hK : inB i2 0 ((b : Int) - 1)
  case false =>
    clear e8
    go_enter Try.func26, Try.ntmps26
    go_wp2_with (fail)
    rw [← hW1]
    clear hW1
    obtain ⟨p0, p1, p2, _⟩ := HBX.out
    obtain ⟨c0, c1, c2, x0, x1, x2⟩ := three_c HZ1.out
    go_wp2_with (first | (go_at_call 46; refine Calls.mono (c_l06Is (S := ⟨_, _, L⟩) HBX.out rfl za) ?_; rw [HV.out]; rintro e w1 ⟨rfl, n1, rfl⟩) | (go_at_call_of 57 i1; refine Calls.mono (c_l00In i1 0 ((a : Int) - 1) _) ?_; rw [hI]; rintro e w4 ⟨rfl, rfl⟩) | (go_at_call_of 57 i2; refine Calls.mono (c_l00In i2 0 ((b : Int) - 1) _) ?_; rw [hK]; rintro e w5 ⟨rfl, rfl⟩))
    (try simp only [Exit.inBlock, Exit.then])
    refine bodyPost_ret (results_cellT rfl _ _ (w.heap.size + 1) 27 #[.int .i64 0, .int .i64 0, .slice none 0 0] (0, 0) _ rfl (by repeat (first | exact HZ1.out | exact blk_set1 (blk_set1 (blk_set1 HZ1.out 0 _) 1 _) 2 _)) Try.underlying27 rfl (by kernel_rfl)) rfl ?_
    exact retT_no rfl (by repeat (first | assumption | exact Ext.refl _ | apply Ext.drewN | apply Ext.drew | apply Ext.alloc | (refine Ext.trans ?_ (by assumption)) | (refine Ext.set ?_ (by dsimp only; omega) _)))
  obtain ⟨p1', q1', r, rfl, rfl, g1, g2, g3⟩ := cell_nat e8 hI hK
  have HI := Lib.hid hI
  have HK := Lib.hid hK
  have hm : (((p1' : Int) + (a : Int) * (q1' : Int)).toNat) = p1' + r := by rw [g2]; omega
  rw [hm]
  obtain ⟨m, hmm⟩ : ∃ m, p1' + r = m := ⟨_, rfl⟩
  have hwr := IntWalk.i64_in (r : Int) (by omega)
  have hwm : IntKind.i64.wrap ((p1' : Int) + (r : Int)) = (m : Int) := by rw [IntWalk.i64_in _ (by omega)]; omega
  have hm0 : (0 : Int) ≤ (m : Int) := by omega
  have hmL : (m : Int) < (L.length : Int) := by omega
  have hmn : m < L.length := by omega
  rw [hmm]
  have hwa := IntWalk.i64_in ((a : Int) - 1) (by omega)
  have hwb := IntWalk.i64_in ((b : Int) - 1) (by omega)
  clear hm hmm g1 g3 e8 hI hK
  go_enter Try.func26, Try.ntmps26
  go_wp2_with (fail)
  rw [← hW1]
  clear hW1
  obtain ⟨p0, p1, p2, _⟩ := HBX.out
  obtain ⟨c0, c1, c2, x0, x1, x2⟩ := three_c HZ1.out
  go_wp2_with (first | (go_at_call 46; refine Calls.mono (c_l06Is (S := ⟨_, _, L⟩) HBX.out rfl za) ?_; rw [HV.out]; rintro e w1 ⟨rfl, n1, rfl⟩) | (go_at_call_of 57 (p1' : Int); refine Calls.mono (c_l00In (p1' : Int) 0 ((a : Int) - 1) _) ?_; rw [HI.out]; rintro e w4 ⟨rfl, rfl⟩) | (go_at_call_of 57 (q1' : Int); refine Calls.mono (c_l00In (q1' : Int) 0 ((b : Int) - 1) _) ?_; rw [HK.out]; rintro e w5 ⟨rfl, rfl⟩) | (go_at_call 58; refine Calls.mono (c_l06Own (B := B) (HBX.out.ext (by repeat (first | assumption | exact Ext.refl _ | apply Ext.drewN | apply Ext.drew | apply Ext.alloc | (refine Ext.trans ?_ (by assumption)) | (refine Ext.set ?_ (by dsimp only; omega) _)))) (HP.out.below (Below.mono (by repeat (first | assumption | exact Ext.refl _ | apply Ext.drewN | apply Ext.drew | apply Ext.alloc | (refine Ext.trans ?_ (by assumption)) | (refine Ext.set ?_ (by dsimp only; omega) _))) hB)) (Nat.le_trans hB hx1.size) (by omega) (by omega)) ?_; rintro e w2 ⟨v, rfl, g, cap, cs0, rfl, hg0, hcg, hcap, hcs0, hrow, hx2⟩; have hx3 : Ext W1 (w2.alloc (.cells #[.int .i64 (a : Int), .int .i64 (b : Int), .slice (some ⟨g, 0, none⟩) L.length cap] 27)) := Ext.alloc (Ext.trans (by repeat (first | assumption | exact Ext.refl _ | apply Ext.drewN | apply Ext.drew | apply Ext.alloc | (refine Ext.trans ?_ (by assumption)) | (refine Ext.set ?_ (by dsimp only; omega) _))) hx2) _; obtain ⟨p0, p1, p2, _⟩ := HBX.out.ext hx3; obtain ⟨u0, f0, f1, f2⟩ := hrow.cell (w := (w2.alloc (.cells #[.int .i64 (a : Int), .int .i64 (b : Int), .slice (some ⟨g, 0, none⟩) L.length cap] 27))) (al_old hcg) hmn; have hg0' : w.heap.size + 1 + 1 ≤ g := (by rw [← hs1]; exact hg0); have hgz : g ≠ w.heap.size + 1 := (by omega); have hs2 : W1.heap.size ≤ w2.heap.size := hx2.size; have hg2 := blk_lt hcg; have hgo : g ≠ w2.heap.size := (by omega); have hgo' : w2.heap.size ≠ g := (by omega); have hgz' : w.heap.size + 1 ≠ g := (by omega); obtain ⟨d0, d1, d2, y0, y1, y2⟩ := three_c (w := (w2.alloc (.cells #[.int .i64 (a : Int), .int .i64 (b : Int), .slice (some ⟨g, 0, none⟩) L.length cap] 27))) (heap_alloc_new w2 _); obtain ⟨c0, c1, c2, x0, x1, x2⟩ := three_c (w := ((w2.setCell ⟨g, m, none⟩ (.float .f32 p)).alloc (.cells #[.int .i64 (a : Int), .int .i64 (b : Int), .slice (some ⟨g, 0, none⟩) L.length cap] 27))) (al_old (set_other (hx2.blk HZ1.out) (by dsimp only; omega))); obtain ⟨d3, d4, d5, y3, y4, y5⟩ := three_c (w := ((w2.setCell ⟨g, m, none⟩ (.float .f32 p)).alloc (.cells #[.int .i64 (a : Int), .int .i64 (b : Int), .slice (some ⟨g, 0, none⟩) L.length cap] 27))) (g := w2.heap.size) (al_at (by simp) rfl)))
  have HZ3 : Hid (((w2.setCell ⟨g, m, none⟩ (.float .f32 p)).alloc (.cells #[.int .i64 (a : Int), .int .i64 (b : Int), .slice (some ⟨g, 0, none⟩) L.length cap] 27)).heap[w.heap.size + 1]? = some (.cells #[.int .i64 0, .int .i64 0, .slice none 0 0] 27 (0, 0))) := Lib.hid (al_old (set_other (hx2.blk (g := w.heap.size + 1) HZ1.out) (by dsimp only; omega)))
  have HBZ := Lib.hid (fun u0 u1 u2 => blk_set1 (blk_set1 (blk_set1 HZ3.out 0 u0) 1 u1) 2 u2)
  have hx4 : Ext w ((w2.setCell ⟨g, m, none⟩ (.float .f32 p)).alloc (.cells #[.int .i64 (a : Int), .int .i64 (b : Int), .slice (some ⟨g, 0, none⟩) L.length cap] 27)) := Ext.alloc (Ext.set (Ext.trans (by repeat (first | assumption | exact Ext.refl _ | apply Ext.drewN | apply Ext.drew | apply Ext.alloc | (refine Ext.trans ?_ (by assumption)) | (refine Ext.set ?_ (by dsimp only; omega) _))) hx2) (by dsimp only; omega) _) _
  have hrow' : RowF (cs0.setIfInBounds m (.float .f32 p)) L.length (fput L m P) := hrow.setX hcs0 hmn (by unfold fput; rw [if_pos rfl]; exact fp) (fun j _ hj => by unfold fput; rw [if_neg hj])
  have hcg' : ((w2.setCell ⟨g, m, none⟩ (.float .f32 p)).alloc (.cells #[.int .i64 (a : Int), .int .i64 (b : Int), .slice (some ⟨g, 0, none⟩) L.length cap] 27)).heap[g]? = some (.cells (cs0.setIfInBounds m (.float .f32 p)) 32 (0, 0)) := al_old (blk_set1 hcg m (.float .f32 p))
  (try simp only [Exit.inBlock, Exit.then])
  refine bodyPost_ret (results_cellT rfl _ _ (w.heap.size + 1) 27 #[.int .i64 (a : Int), .int .i64 (b : Int), .slice (some ⟨g, 0, none⟩) L.length cap] (0, 0) _ rfl (HBZ.out _ _ _) Try.underlying27 rfl (by kernel_rfl)) rfl ?_
  exact ⟨_, rfl, by
    show OwT _ _ _ _ ⟨(a : Int), (b : Int), lst (fput L m P) L.length⟩
    have h0 : OwT ((w2.setCell ⟨g, m, none⟩ (.float .f32 p)).alloc (.cells #[.int .i64 (a : Int), .int .i64 (b : Int), .slice (some ⟨g, 0, none⟩) L.length cap] 27)) (w.heap.size + 1 + 1) ((w2.setCell ⟨g, m, none⟩ (.float .f32 p)).alloc (.cells #[.int .i64 (a : Int), .int .i64 (b : Int), .slice (some ⟨g, 0, none⟩) L.length cap] 27)).heap.size (.agg #[.int .i64 (a : Int), .int .i64 (b : Int), .slice (some ⟨g, 0, none⟩) L.length cap]) ⟨(a : Int), (b : Int), lst (fput L m P) L.length⟩ := OwT.of ((rowF_lst' hrow' hcg' (by rw [Array.size_setIfInBounds]; exact hcs0)).more (by omega) (Nat.le_refl _)) hcap
    refine OwT.more (lo := w.heap.size + 1 + 1) (hi := ((w2.setCell ⟨g, m, none⟩ (.float .f32 p)).alloc (.cells #[.int .i64 (a : Int), .int .i64 (b : Int), .slice (some ⟨g, 0, none⟩) L.length cap] 27)).heap.size) ?_ (by omega) (by simp)
    repeat (first | exact h0 | (refine OwT.setOther ?_ (by left; dsimp only; omega) _)), (by repeat (first | assumption | exact Ext.refl _ | apply Ext.drewN | apply Ext.drew | apply Ext.alloc | (refine Ext.trans ?_ (by assumption)) | (refine Ext.set ?_ (by dsimp only; omega) _)))⟩
set_option maxRecDepth 20000 in
set_option maxHeartbeats 8000000 in
theorem c_impl_PutValue {w : World} {B : Nat} {u : Value} {S : Sct} (h : RdT w B u S) (hB : B ≤ w.heap.size) (za : S.v.length ≤ 1048576) (hok : S.Ok) {i1 : Int} (hi1 : -9223372036854775808 ≤ i1) (hj1 : i1 ≤ 9223372036854775807) {i2 : Int} (hi2 : -9223372036854775808 ≤ i2) (hj2 : i2 ≤ 9223372036854775807) {p : Nat} {P : Option Nat} (fp : Fl .f32 p P) :
    Calls Try.prog 27 #[u, .int .i64 i1, .int .i64 i2, .float .f32 p] w fun e w' => RetT w e w' (okP S i1 i2) (outT (okP S i1 i2) ⟨S.x, S.z, lst (fput S.v (i1 + S.x * i2).toNat P) S.v.length⟩) := by
  obtain ⟨A, c, rfl, hp, hcA⟩ := h.ex
  clear h
  obtain ⟨x, z, L⟩ := S
  dsimp only at hp za ⊢
  obtain ⟨W1, hW1⟩ : ∃ W1, W1 = (w.alloc (.cells #[.int .i64 x, .int .i64 z, .slice A L.length c] 27)).alloc (.cells #[.int .i64 0, .int .i64 0, .slice none 0 0] 27) := ⟨_, rfl⟩
  have hx1 : Ext w W1 := by rw [hW1]; exact (by repeat (first | assumption | exact Ext.refl _ | apply Ext.drewN | apply Ext.drew | apply Ext.alloc | (refine Ext.trans ?_ (by assumption)) | (refine Ext.set ?_ (by dsimp only; omega) _)))
  have hbox : SbAt W1 w.heap.size x z A L.length c := by rw [hW1]; exact SbAt.blk (T := 27) (by repeat (first | (refine al_at ?_ ?_ <;> first | rfl | (simp only [al_size] <;> omega)) | apply al_old))
  have hz1 : W1.heap[w.heap.size + 1]? = some (.cells #[.int .i64 0, .int .i64 0, .slice none 0 0] 27 (0, 0)) := by rw [hW1]; exact al_at (by simp only [al_size]) rfl
  have hs1 : W1.heap.size = w.heap.size + 1 + 1 := by rw [hW1]; simp only [al_size]
  have HZ1 := Lib.hid hz1
  have HP := Lib.hid hp
  have HBX := Lib.hid hbox
  clear hz1 hp hbox
  unfold okP
  cases hV : fvT ⟨x, z, L⟩
  case false =>
    rw [Bool.false_and]
    go_enter Try.func27, Try.ntmps27
    go_wp2_with (fail)
    rw [← hW1]
    clear hW1
    obtain ⟨p0, p1, p2, _⟩ := HBX.out
    obtain ⟨c0, c1, c2, x0, x1, x2⟩ := three_c HZ1.out
    go_wp2_with ((go_at_call 18; refine Calls.mono (c_impl_ValidSection (B := B) (S := ⟨_, _, L⟩) ⟨A, c, rfl, HP.out.below (hx1.mono hB), hcA⟩ (Nat.le_trans hB hx1.size) za) ?_; rw [hV]; rintro e w1 ⟨rfl, hxa⟩; obtain ⟨p0, p1, p2, _⟩ := HBX.out.ext hxa; obtain ⟨c0, c1, c2, x0, x1, x2⟩ := three_c (hxa.blk HZ1.out)))
    (try simp only [Exit.inBlock, Exit.then])
    refine bodyPost_ret (results_cellT rfl _ _ (w.heap.size + 1) 27 #[.int .i64 0, .int .i64 0, .slice none 0 0] (0, 0) _ rfl (by repeat (first | exact (hxa.blk HZ1.out) | exact blk_set1 (blk_set1 (blk_set1 (hxa.blk HZ1.out) 0 _) 1 _) 2 _)) Try.underlying27 rfl (by kernel_rfl)) rfl ?_
    exact retT_no rfl (by repeat (first | assumption | exact Ext.refl _ | apply Ext.drewN | apply Ext.drew | apply Ext.alloc | (refine Ext.trans ?_ (by assumption)) | (refine Ext.set ?_ (by dsimp only; omega) _)))
  rw [Bool.true_and]
  have HV := Lib.hid hV
  obtain ⟨a, b, rfl, rfl, e4, e5, e6, e7, e8, e9, e10, e11⟩ := fvT_nat hV
  dsimp only at *
  clear hV e11
  cases hC : (inB i1 0 ((a : Int) - 1) && inB i2 0 ((b : Int) - 1))
  case false =>
    clear e8
    go_enter Try.func27, Try.ntmps27
    go_wp2_with (fail)
    rw [← hW1]
    clear hW1
    obtain ⟨p0, p1, p2, _⟩ := HBX.out
    obtain ⟨c0, c1, c2, x0, x1, x2⟩ := three_c HZ1.out
    go_wp2_with (first | (go_at_call 18; refine Calls.mono (c_impl_ValidSection (B := B) (S := ⟨_, _, L⟩) ⟨A, c, rfl, HP.out.below (hx1.mono hB), hcA⟩ (Nat.le_trans hB hx1.size) za) ?_; rw [HV.out]; rintro e w1 ⟨rfl, hxa⟩; obtain ⟨p0, p1, p2, _⟩ := HBX.out.ext hxa; obtain ⟨c0, c1, c2, x0, x1, x2⟩ := three_c (hxa.blk HZ1.out)) | (go_at_call 59; refine Calls.mono (c_isCell _ _ _ _ _) ?_; rw [hC]; rintro e w4 ⟨rfl, rfl⟩))
    (try simp only [Exit.inBlock, Exit.then])
    refine bodyPost_ret (results_cellT rfl _ _ (w.heap.size + 1) 27 #[.int .i64 0, .int .i64 0, .slice none 0 0] (0, 0) _ rfl (by repeat (first | exact (hxa.blk HZ1.out) | exact blk_set1 (blk_set1 (blk_set1 (hxa.blk HZ1.out) 0 _) 1 _) 2 _)) Try.underlying27 rfl (by kernel_rfl)) rfl ?_
    exact retT_no rfl (by repeat (first | assumption | exact Ext.refl _ | apply Ext.drewN | apply Ext.drew | apply Ext.alloc | (refine Ext.trans ?_ (by assumption)) | (refine Ext.set ?_ (by dsimp only; omega) _)))
  obtain ⟨hI, hK⟩ := (Bool.and_eq_true _ _).mp hC
  obtain ⟨p1', q1', r, rfl, rfl, g1, g2, g3⟩ := cell_nat e8 hI hK
  have HC := Lib.hid hC
  have hm : (((p1' : Int) + (a : Int) * (q1' : Int)).toNat) = p1' + r := by rw [g2]; omega
  rw [hm]
  obtain ⟨m, hmm⟩ : ∃ m, p1' + r = m := ⟨_, rfl⟩
  have hwr := IntWalk.i64_in (r : Int) (by omega)
  have hwm : IntKind.i64.wrap ((p1' : Int) + (r : Int)) = (m : Int) := by rw [IntWalk.i64_in _ (by omega)]; omega
  have hm0 : (0 : Int) ≤ (m : Int) := by omega
  have hmL : (m : Int) < (L.length : Int) := by omega
  have hmn : m < L.length := by omega
  rw [hmm]
  have hwa := IntWalk.i64_in ((a : Int) - 1) (by omega)
  have hwb := IntWalk.i64_in ((b : Int) - 1) (by omega)
  clear hm hmm g1 g3 e8 hI hK hC
  go_enter Try.func27, Try.ntmps27
  go_wp2_with (fail)
  rw [← hW1]
  clear hW1
  obtain ⟨p0, p1, p2, _⟩ := HBX.out
  obtain ⟨c0, c1, c2, x0, x1, x2⟩ := three_c HZ1.out
  go_wp2_with (first | (go_at_call 18; refine Calls.mono (c_impl_ValidSection (B := B) (S := ⟨_, _, L⟩) ⟨A, c, rfl, HP.out.below (hx1.mono hB), hcA⟩ (Nat.le_trans hB hx1.size) za) ?_; rw [HV.out]; rintro e w1 ⟨rfl, hxa⟩; obtain ⟨p0, p1, p2, _⟩ := HBX.out.ext hxa; obtain ⟨c0, c1, c2, x0, x1, x2⟩ := three_c (hxa.blk HZ1.out)) | (go_at_call 59; refine Calls.mono (c_isCell _ _ _ _ _) ?_; rw [HC.out]; rintro e w4 ⟨rfl, rfl⟩) | (go_at_call 60; refine Calls.mono (c_cloneC (HP.out.below ((hx1.trans hxa).mono hB)) (Nat.le_trans hB (hx1.trans hxa).size) (by omega) (by omega)) ?_; rintro e w2 ⟨g, cs0, cap, rfl, hg0, hcg, hcs0, hrow, hx2, hcapc⟩; obtain ⟨p0, p1, p2, _⟩ := HBX.out.ext (hxa.trans hx2); obtain ⟨u0, f0, f1, f2⟩ := hrow.cell hcg hmn; have hsa := hxa.size; have hgz : g ≠ w.heap.size + 1 := (by omega); have hgb : g ≠ w.heap.size := (by omega); have hgz' : w.heap.size + 1 ≠ g := (by omega); have hgb' : w.heap.size ≠ g := (by omega); obtain ⟨c0, c1, c2, x0, x1, x2⟩ := three_c ((hxa.trans hx2).blk HZ1.out)))
  have hs2 := hx2.size
  have hg2 := blk_lt hcg
  have HZ3 : Hid ((w2.setCell ⟨g, m, none⟩ (.float .f32 p)).heap[w.heap.size + 1]? = some (.cells #[.int .i64 0, .int .i64 0, .slice none 0 0] 27 (0, 0))) := Lib.hid (set_other ((hxa.trans hx2).blk HZ1.out) (by dsimp only; omega))
  have HBZ := Lib.hid (fun u0 u1 u2 => blk_set1 (blk_set1 (blk_set1 HZ3.out 0 u0) 1 u1) 2 u2)
  have hx4 : Ext w w2 := hx1.trans (hxa.trans hx2)
  have hrow' : RowF (cs0.setIfInBounds m (.float .f32 p)) L.length (fput L m P) := hrow.setX hcs0 hmn (by unfold fput; rw [if_pos rfl]; exact fp) (fun j _ hj => by unfold fput; rw [if_neg hj])
  have hcg' := blk_set1 hcg m (.float .f32 p)
  (try simp only [Exit.inBlock, Exit.then])
  refine bodyPost_ret (results_cellT rfl _ _ (w.heap.size + 1) 27 #[.int .i64 (a : Int), .int .i64 (b : Int), .slice (some ⟨g, 0, none⟩) L.length cap] (0, 0) _ rfl (HBZ.out _ _ _) Try.underlying27 rfl (by kernel_rfl)) rfl ?_
  exact ⟨_, rfl, by
    show OwT _ _ _ _ ⟨(a : Int), (b : Int), lst (fput L m P) L.length⟩
    have h0 : OwT (w2.setCell ⟨g, m, none⟩ (.float .f32 p)) (w.heap.size + 1 + 1) (w2.setCell ⟨g, m, none⟩ (.float .f32 p)).heap.size (.agg #[.int .i64 (a : Int), .int .i64 (b : Int), .slice (some ⟨g, 0, none⟩) L.length cap]) ⟨(a : Int), (b : Int), lst (fput L m P) L.length⟩ := OwT.of ((rowF_lst' hrow' hcg' (by rw [Array.size_setIfInBounds]; exact hcs0)).more (by omega) (Nat.le_refl _)) hcapc
    refine OwT.more (lo := w.heap.size + 1 + 1) (hi := (w2.setCell ⟨g, m, none⟩ (.float .f32 p)).heap.size) ?_ (by omega) (by simp)
    repeat (first | exact h0 | (refine OwT.setOther ?_ (by left; dsimp only; omega) _)), (by repeat (first | assumption | exact Ext.refl _ | apply Ext.drewN | apply Ext.drew | apply Ext.alloc | (refine Ext.trans ?_ (by assumption)) | (refine Ext.set ?_ (by dsimp only; omega) _)))⟩
theorem both_PutValue {S0 : Sct} (za0 : S0.v.length ≤ 1048576) (hok0 : S0.Ok) {i1 : Int} (hi1 : -9223372036854775808 ≤ i1) (hj1 : i1 ≤ 9223372036854775807) {i2 : Int} (hi2 : -9223372036854775808 ≤ i2) (hj2 : i2 ≤ 9223372036854775807) {p3 : Nat} {P3 : Option Nat} (fp3 : Fl .f32 p3 P3) :
    ∃ ok Q, Q.v.length ≤ 1048576 ∧ (∀ W : World, ∀ (B0 : Nat) (v0 : Value), RdT W B0 v0 S0 → B0 ≤ W.heap.size → Calls Try.prog 26 #[v0, .int .i64 i1, .int .i64 i2, .float .f32 p3] W fun e w' => RetT W e w' ok Q) ∧
      (∀ W : World, ∀ (B0 : Nat) (v0 : Value), RdT W B0 v0 S0 → B0 ≤ W.heap.size → Calls Try.prog 27 #[v0, .int .i64 i1, .int .i64 i2, .float .f32 p3] W fun e w' => RetT W e w' ok Q) :=
  ⟨okP S0 i1 i2, outT (okP S0 i1 i2) (⟨S0.x, S0.z, lst (fput S0.v (i1 + S0.x * i2).toNat P3) S0.v.length⟩), outT_len (by rw [lst_len]; exact za0),
    fun W _ _ h0 hB0 => c_spec_PutValue (w := W) h0 hB0 za0 hok0 hi1 hj1 hi2 hj2 fp3, fun W _ _ h0 hB0 => c_impl_PutValue (w := W) h0 hB0 za0 hok0 hi1 hj1 hi2 hj2 fp3⟩

end Go.Proofs.Ytmhfnchpkeeckaa
