/- Contract: all frames but those of a station are deleted from a row, the program. Condition: the row is a call's own, of at most 12 frames. -/
import Derived.Test.YtfmhdnhaaohdjaaJg
namespace Go.Proofs.Ytfmhdnhaaohdjaa
open Go.RowKit Go.ChangeShapes Go.WideShapes Go.Deep Ieee
set_option linter.unusedVariables false
set_option linter.unusedSimpArgs false

theorem bne_dec (x s : Int) : (x != s) = decide (¬ x = s) := by by_cases h : x = s <;> simp [h]
set_option maxRecDepth 20000 in
set_option maxHeartbeats 1000000 in
theorem c_other {w : World} {x z s : Int} {A : Option Addr} {n c gb : Nat} (hb : w.cell? ⟨gb, 0, none⟩ = some (.int .i64 s)) (hs : gb < w.heap.size) :
    Calls Try.prog 79 #[.agg #[.int .i64 x, .int .i64 z, .slice A n c], .pointer (some ⟨gb, 0, none⟩)] w fun e w' => e = .returned (.bool (decide (¬ x = s))) ∧ Ext w w' := by
  obtain ⟨q0, q1, q2⟩ : SbAt (w.alloc (.cells #[.int .i64 x, .int .i64 z, .slice A n c] 27)) w.heap.size x z A n c := SbAt.blk (T := 27) (by repeat (first | (refine al_at ?_ ?_ <;> first | rfl | (simp only [al_size] <;> omega)) | apply al_old))
  have hb2 := ((show Ext w (w.alloc (.cells #[.int .i64 x, .int .i64 z, .slice A n c] 27)) from (by repeat (first | assumption | exact Ext.refl _ | apply Ext.drewN | apply Ext.drew | apply Ext.alloc | (refine Ext.trans ?_ (by assumption)) | (refine Ext.set ?_ (by dsimp only; omega) _)))).cell (show gb < w.heap.size from hs)).trans hb
  go_enter Try.func79, Try.ntmps79
  go_wp2_with (fail)
  go_ret
  exact ⟨by rw [← bne_dec]; rfl, (by repeat (first | assumption | exact Ext.refl _ | apply Ext.drewN | apply Ext.drew | apply Ext.alloc | (refine Ext.trans ?_ (by assumption)) | (refine Ext.set ?_ (by dsimp only; omega) _)))⟩
set_option maxRecDepth 20000 in
set_option maxHeartbeats 4000000 in
theorem c_indexFunc {w : World} {g n c gb : Nat} {V : List Ent} {s : Int} (hVl : V.length = n) (hgs : g < w.heap.size) (hr : ∀ j u, (entsV V)[j]? = some u → w.cell? ⟨g, j, none⟩ = some u) (hb : w.cell? ⟨gb, 0, none⟩ = some (.int .i64 s)) (hs : gb < w.heap.size) (hn : n ≤ 12) :
    Calls Try.prog 93 #[.slice (some ⟨g, 0, none⟩) n c, .func (.func 79) #[] #[.pointer (some ⟨gb, 0, none⟩)]] w fun e w' =>
      ((∃ k : Nat, k < n ∧ e = .returned (.int .i64 k) ∧ (∀ j, j < k → (V.getD j noE).s.x = s) ∧ ¬ (V.getD k noE).s.x = s) ∨ (e = .returned (.int .i64 (-1)) ∧ ∀ j, j < n → (V.getD j noE).s.x = s)) ∧ Ext w w' := by
  go_enter Try.func93, Try.ntmps93
  go_wp2_with (fail)
  go_loopw [8] (fun i wr => ∃ k : Nat, k ≤ n ∧ i = .int .i64 k ∧ (∀ j, j < k → (V.getD j noE).s.x = s) ∧ Ext w wr) (fun i _ => n - (intOf i).toNat)
  case atStart => exact ⟨0, Nat.zero_le _, rfl, fun j hj => absurd hj (Nat.not_lt_zero _), Ext.refl _⟩
  case round =>
    obtain ⟨k, hk, rfl, hall, hx⟩ := hrel
    by_cases hlt : k < n
    · have hlt' : (k : Int) < (n : Int) := by omega
      obtain ⟨e0, e1, e2⟩ := entsV_three V k (by omega)
      have d0 := (hx.cell hgs).trans (hr _ _ e0)
      have d1 := (hx.cell hgs).trans (hr _ _ e1)
      have d2 := (hx.cell hgs).trans (hr _ _ e2)
      have cO := c_other (x := (V.getD k noE).s.x) (z := (V.getD k noE).s.z) (A := (V.getD k noE).A) (n := (V.getD k noE).s.v.length) (c := (V.getD k noE).c) ((hx.cell hs).trans hb) (Nat.lt_of_lt_of_le hs hx.size)
      obtain ⟨E, hE⟩ : ∃ E, V.getD k noE = E := ⟨_, rfl⟩
      have HE := Lib.hid hE
      rw [hE] at d0 d1 d2 cO
      have CO := Lib.hid cO
      have HALL := Lib.hid hall
      clear e0 e1 e2 hE cO hall
      by_cases he : E.s.x = s
      · have hd : decide (¬ E.s.x = s) = false := decide_eq_false (fun h => h he)
        have HEQ := Lib.hid he
        rw [hd] at CO
        clear hd he
        go_wp2_with (go_at_call 79; refine Calls.mono CO.out ?_; rintro e w3 ⟨rfl, hx3⟩)
        exact ⟨⟨k + 1, by omega, by go_num, fun j hj => (by
          rcases Nat.lt_or_ge j k with h1 | h1
          · exact HALL.out j h1
          · obtain rfl : j = k := by omega
            rw [HE.out]; exact HEQ.out), hx.trans hx3⟩, by simp [intOf]; omega⟩
      · have hd : decide (¬ E.s.x = s) = true := decide_eq_true he
        have HEQ := Lib.hid he
        rw [hd] at CO
        clear hd he
        go_wp2_with (go_at_call 79; refine Calls.mono CO.out ?_; rintro e w3 ⟨rfl, hx3⟩)
        go_ret
        exact ⟨.inl ⟨k, hlt, rfl, HALL.out, by rw [HE.out]; exact HEQ.out⟩, hx.trans hx3⟩
    · obtain rfl : k = n := by omega
      go_wp2_with (fail)
      go_ret
      exact ⟨.inr ⟨rfl, hall⟩, hx⟩
set_option maxRecDepth 20000 in
set_option maxHeartbeats 1000000 in
theorem c_indexFunc0 {w : World} {c : Nat} {A : Option Addr} {f : Value} :
    Calls Try.prog 93 #[.slice A 0 c, f] w fun e w' => e = .returned (.int .i64 (-1)) ∧ w' = w := by
  go_enter Try.func93, Try.ntmps93
  go_wp2_with (fail)
  go_loopw [8] (fun i wr => i = .int .i64 0 ∧ wr = w) (fun i _ => 0)
  case atStart => exact ⟨rfl, rfl⟩
  case round =>
    obtain ⟨rfl, rfl⟩ := hrel
    go_wp2_with (fail)
    go_ret
    exact ⟨rfl, rfl⟩
set_option maxRecDepth 20000 in
set_option maxHeartbeats 1000000 in
theorem c_deleteFunc0 {w : World} {c : Nat} {A : Option Addr} {f : Value} :
    Calls Try.prog 78 #[.slice A 0 c, f] w fun e w' => e = .returned (.slice A 0 c) ∧ w' = w := by
  go_enter Try.func78, Try.ntmps78
  go_wp2_with (go_at_call 93; refine Calls.mono c_indexFunc0 ?_; rintro e w2 ⟨rfl, rfl⟩)
  go_ret
  exact ⟨rfl, rfl⟩
set_option maxRecDepth 20000 in
set_option maxHeartbeats 4000000 in
theorem c_deleteFunc {w : World} {g n c gb : Nat} {cs : Array Value} {t tb : TypeId} {V : List Ent} {s : Int} (hg : w.heap[g]? = some (.cells cs t (0, 0))) (hsz : n * 3 ≤ cs.size) (hVl : V.length = n) (ht : cs.toList.take (n * 3) = entsV V) (hc : n ≤ c) (hn : n ≤ 12) (hbx : w.heap[gb]? = some (.cells #[.int .i64 s] tb (0, 0))) (hne : gb ≠ g) :
    Calls Try.prog 78 #[.slice (some ⟨g, 0, none⟩) n c, .func (.func 79) #[] #[.pointer (some ⟨gb, 0, none⟩)]] w fun e w' =>
      ∃ cs', e = .returned (.slice (some ⟨g, 0, none⟩) (keepE V s).length c) ∧ w'.heap[g]? = some (.cells cs' t (0, 0)) ∧ cs'.toList.take ((keepE V s).length * 3) = entsV (keepE V s) ∧ w.grownBy w' (some g) := by
  have hrow : ∀ j u, (entsV V)[j]? = some u → cs[j]? = some u := fun j u hu => by
    rw [← ht, List.getElem?_take] at hu
    split at hu
    · rw [Array.getElem?_toList] at hu; exact hu
    · cases hu
  have cI := c_indexFunc (c := c) hVl (blk_lt hg) (fun j u hu => (cell_of_row w g j cs t (0, 0) hg).trans (hrow j u hu)) (show w.cell? ⟨gb, 0, none⟩ = some (.int .i64 s) from (cell_of_row w gb 0 _ tb (0, 0) hbx).trans rfl) (blk_lt hbx) hn
  have CI := Lib.hid cI
  have HG := Lib.hid hg
  have HBX := Lib.hid hbx
  have HROW := Lib.hid hrow
  have HT := Lib.hid ht
  clear cI hg hbx hrow ht
  go_enter Try.func78, Try.ntmps78
  go_wp2_with (go_at_call 93; refine Calls.mono CI.out ?_; rintro e w2 ⟨⟨k0, hk0, rfl, hall, hno⟩ | ⟨rfl, hall⟩, hx2⟩)
  · have hk0' : ¬ ((k0 : Int) = -1) := by omega
    go_wp2_with (fail)
    obtain ⟨wa, hwa⟩ : ∃ x, x = w2 := ⟨_, rfl⟩
    subst hwa
    rw [show ((k0 : Int) == -1) = false from beq_false_of_ne (fun h => hk0' h)]
    have hgw := blk_lt HG.out
    have hgbw := blk_lt HBX.out
    have hkeep0 : keepE (V.take (k0 + 1)) s = V.take k0 := by
      rw [keepE_no (by omega) hno, keepE_all (by omega) hall]
    have hat : ∃ (k : Nat) (cs' : Array Value), k ≤ n ∧ (.int .i64 ((k0 : Int) + 1) : Value) = .int .i64 k ∧ (.int .i64 (k0 : Int) : Value) = .int .i64 ((keepE (V.take k) s).length : Nat) ∧ (keepE (V.take k) s).length < k ∧ wa.heap[g]? = some (.cells cs' t (0, 0)) ∧ n * 3 ≤ cs'.size ∧ cs'.toList.take ((keepE (V.take k) s).length * 3) = entsV (keepE (V.take k) s) ∧ (∀ p u, k * 3 ≤ p → (entsV V)[p]? = some u → cs'[p]? = some u) ∧ w.grownBy wa (some g) := by
      refine ⟨k0 + 1, cs, by omega, by go_num, ?_, ?_, hx2.blk HG.out, hsz, ?_, fun p u _ hu => HROW.out p u hu, grow_ext hx2⟩
      · rw [hkeep0, List.length_take, show min k0 V.length = k0 by omega]
      · rw [hkeep0, List.length_take]; omega
      · rw [hkeep0, List.length_take, show min k0 V.length = k0 by omega, ← entsV_take V k0 (by omega), ← HT.out, List.take_take]
        congr 1
        omega
    clear hkeep0 hno hall hx2 hk0'
    go_loopw [5, 6] (fun i j wr => ∃ (k : Nat) (cs' : Array Value), k ≤ n ∧ j = .int .i64 k ∧ i = .int .i64 ((keepE (V.take k) s).length : Nat) ∧ (keepE (V.take k) s).length < k ∧ wr.heap[g]? = some (.cells cs' t (0, 0)) ∧ n * 3 ≤ cs'.size ∧ cs'.toList.take ((keepE (V.take k) s).length * 3) = entsV (keepE (V.take k) s) ∧ (∀ p u, k * 3 ≤ p → (entsV V)[p]? = some u → cs'[p]? = some u) ∧ w.grownBy wr (some g)) (fun _ j _ => n - (intOf j).toNat)
    case atStart => exact hat
    case round =>
      clear hat
      obtain ⟨k, cs', hk, rfl, rfl, hlk, hG, hs', htk, hre, hgr⟩ := hrel
      have hbx := (hgr.block gb hgbw (fun h => hne (Option.some.inj h))).trans HBX.out
      obtain ⟨U, hU⟩ : ∃ U, keepE (V.take k) s = U := ⟨_, rfl⟩
      rw [hU] at hlk htk
      rw [hU]
      obtain ⟨m, hm⟩ : ∃ m, U.length = m := ⟨_, rfl⟩
      rw [hm] at hlk htk
      rw [hm]
      by_cases hlt : k < n
      · have hlt' : (k : Int) < (n : Int) := by omega
        have hmn : m < n := by omega
        have hmn' : (m : Int) < (n : Int) := by omega
        obtain ⟨e0, e1, e2⟩ := entsV_three V k (by omega)
        have d0 := (cell_of_row wr g (k * 3) cs' t (0, 0) hG).trans (hre _ _ (Nat.le_refl _) e0)
        have d1 := (cell_of_row wr g (k * 3 + 1) cs' t (0, 0) hG).trans (hre _ _ (by omega) e1)
        have d2 := (cell_of_row wr g (k * 3 + 2) cs' t (0, 0) hG).trans (hre _ _ (by omega) e2)
        have hyes := @keepE_yes V s k (by omega)
        have hno := @keepE_no V s k (by omega)
        have hentk : entsV [V.getD k noE] = entV (V.getD k noE) := entsV_one _
        obtain ⟨E, hE⟩ : ∃ E, V.getD k noE = E := ⟨_, rfl⟩
        rw [hE] at d0 d1 d2 hyes hno hentk
        rw [hU] at hyes hno
        have cO := fun (W : World) (hW : Ext wr W) => c_other (w := W) (x := E.s.x) (z := E.s.z) (A := E.A) (n := E.s.v.length) (c := E.c) (gb := gb) (s := s) ((hW.cell (blk_lt hbx)).trans ((cell_of_row wr gb 0 _ tb (0, 0) hbx).trans rfl)) (Nat.lt_of_lt_of_le (blk_lt hbx) hW.size)
        obtain ⟨q0, q1, q2⟩ : SbAt (wr.alloc (.cells #[.int .i64 E.s.x, .int .i64 E.s.z, .slice E.A E.s.v.length E.c] 27)) wr.heap.size E.s.x E.s.z E.A E.s.v.length E.c := SbAt.blk (T := 27) (by repeat (first | (refine al_at ?_ ?_ <;> first | rfl | (simp only [al_size] <;> omega)) | apply al_old))
        have CO := Lib.hid cO
        have HGR := Lib.hid hgr
        have HRE := Lib.hid hre
        have HG2 := Lib.hid hG
        have HTK := Lib.hid htk
        have HM := Lib.hid hm
        have HK := Lib.hid hentk
        have hs3 := hs'
        clear e0 e1 e2 hE cO hU hgr hre hG htk hbx hm hentk
        by_cases he : E.s.x = s
        · have hd : decide (¬ E.s.x = s) = false := decide_eq_false (fun h => h he)
          have HY := Lib.hid (hyes he)
          rw [hd] at CO
          clear hd he hyes hno
          go_wp2_with (go_at_call 79; refine Calls.mono (CO.out _ (by repeat (first | assumption | exact Ext.refl _ | apply Ext.drewN | apply Ext.drew | apply Ext.alloc | (refine Ext.trans ?_ (by assumption)) | (refine Ext.set ?_ (by dsimp only; omega) _)))) ?_; rintro e w3 ⟨rfl, hx3⟩; have hxr : Ext wr w3 := (show Ext wr (wr.alloc _) from (by repeat (first | assumption | exact Ext.refl _ | apply Ext.drewN | apply Ext.drew | apply Ext.alloc | (refine Ext.trans ?_ (by assumption)) | (refine Ext.set ?_ (by dsimp only; omega) _)))).trans hx3; have hG3 := hxr.blk HG2.out; obtain ⟨u0, u1, u2, y0, y1, y2, z0, z1, z2⟩ := three_of_row hG3 hs3 hmn; have p0 := (hx3.cell (by rw [al_size]; exact Nat.lt_succ_self _)).trans q0; have p1 := (hx3.cell (by rw [al_size]; exact Nat.lt_succ_self _)).trans q1; have p2 := (hx3.cell (by rw [al_size]; exact Nat.lt_succ_self _)).trans q2)
          refine ⟨⟨k + 1, put3 cs' m (.int .i64 E.s.x) (.int .i64 E.s.z) (.slice E.A E.s.v.length E.c), by omega, by go_num, ?_, ?_, blk_set1 (blk_set1 (blk_set1 hG3 _ _) _ _) _ _, by rw [put3_size]; exact hs3, ?_, fun p u hp hu => ?_, grow_set (grow_set (grow_set (HGR.out.trans (grow_ext hxr))))⟩, by simp [intOf]; omega⟩
          · rw [HY.out, List.length_append, HM.out]
            show _ = Value.int .i64 ((m + 1 : Nat) : Int)
            go_num
          · rw [HY.out, List.length_append, HM.out]
            show m + 1 < k + 1
            omega
          · rw [HY.out, List.length_append, HM.out]
            show List.take ((m + 1) * 3) _ = _
            rw [put3_take _ _ _ _ _ (by omega), HTK.out, entsV_append, HK.out]; rfl
          · rw [put3_other _ _ _ _ _ _ (by omega)]
            exact HRE.out p u (by omega) hu
        · have hd : decide (¬ E.s.x = s) = true := decide_eq_true he
          have HN := Lib.hid (hno he)
          rw [hd] at CO
          clear hd he hyes hno
          go_wp2_with (go_at_call 79; refine Calls.mono (CO.out _ (by repeat (first | assumption | exact Ext.refl _ | apply Ext.drewN | apply Ext.drew | apply Ext.alloc | (refine Ext.trans ?_ (by assumption)) | (refine Ext.set ?_ (by dsimp only; omega) _)))) ?_; rintro e w3 ⟨rfl, hx3⟩; have hxr : Ext wr w3 := (show Ext wr (wr.alloc _) from (by repeat (first | assumption | exact Ext.refl _ | apply Ext.drewN | apply Ext.drew | apply Ext.alloc | (refine Ext.trans ?_ (by assumption)) | (refine Ext.set ?_ (by dsimp only; omega) _)))).trans hx3)
          refine ⟨⟨k + 1, cs', by omega, by go_num, by rw [HN.out, HM.out], by rw [HN.out, HM.out]; omega, hxr.blk HG2.out, hs3, by rw [HN.out, HM.out]; exact HTK.out, fun p u hp hu => HRE.out p u (by omega) hu, HGR.out.trans (grow_ext hxr)⟩, by simp [intOf]; omega⟩
      · obtain rfl : k = n := by omega
        rw [keepE_whole hVl] at hU
        obtain ⟨cs2, hclr, hc1, hc2⟩ := run_clear_frm (g := g) (o := m * 3) (m := k - m) (c := c - m) wr hG (by omega) (by omega)
        have hfin := hclr 0
        have i1 : (0 : Int) ≤ (m : Int) := by omega
        have i2 : (m : Int) ≤ (k : Int) := by omega
        have i3 : (m : Int) ≤ (c : Int) := by omega
        have i4 : (k : Int) ≤ (c : Int) := by omega
        have hcm : ¬ c = m := by omega
        have HGR := Lib.hid hgr
        have HG2 := Lib.hid hG
        have HTK := Lib.hid htk
        have HM := Lib.hid hm
        have HU := Lib.hid hU
        have HC1 := Lib.hid hc1
        clear hre hG htk hgr hbx hU hm hc1 hc2 hfin
        go_wp2_with (fail)
        go_ret
        rw [HU.out, HM.out]
        exact ⟨cs2, rfl, setRow_heap wr g _ cs2 t (0, 0) HG2.out, by rw [HC1.out]; exact HTK.out, grow_row HGR.out⟩
  · go_wp2_with (fail)
    go_ret
    have hk := keepE_all (V := V) (s := s) (k := n) (by omega) hall
    rw [keepE_whole hVl, List.take_of_length_le (by omega)] at hk
    rw [hk, hVl]
    exact ⟨cs, rfl, hx2.blk HG.out, HT.out, grow_ext hx2⟩
end Go.Proofs.Ytfmhdnhaaohdjaa
