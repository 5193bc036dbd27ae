/- Contracts: OfStation, the program and the reference. Condition: the list is read. -/
import Derived.Test.YtfmhdnhaaohdjaaJh
namespace Go.Proofs.Ytfmhdnhaaohdjaa
open Go.RowKit Go.ChangeShapes Go.WideShapes Go.Deep Ieee
set_option linter.unusedVariables false
set_option linter.unusedSimpArgs false

def okOf (R : List Sct) (s : Int) : Bool := areM R && inB s 0 200
def ofM (R : List Sct) (s : Int) : List Sct := keepM (sortM R R.length) s
theorem ofM_len (R : List Sct) (s : Int) : (ofM R s).length ≤ R.length := by
  have := keepM_len (sortM R R.length) s
  rw [sortM_len] at this
  exact this
theorem ofM_tot (R : List Sct) (s : Int) : totM (ofM R s) ≤ totM R := by
  have := keepM_tot (sortM R R.length) s
  rw [sortM_tot R _ (Nat.le_refl _), List.take_length] at this
  exact this
theorem keepM_nil (s : Int) : keepM [] s = [] := rfl
set_option maxRecDepth 20000 in
set_option maxHeartbeats 4000000 in
theorem c_impl_OfStation {w : World} {B n c : Nat} {A : Option Addr} {R : List Sct} {s : Int} (h : RdM w B A n R) (hB : B ≤ w.heap.size) (hn : n ≤ 1048576) (hr : ∀ j, j < n → (R.getD j noT).v.length ≤ 1048576) :
    Calls Try.prog 41 #[.slice A n c, .int .i64 s] w fun e w' => RetMQ w e w' (okOf R s) (outM (okOf R s) (ofM R s)).length (outM (okOf R s) (ofM R s)) := by
  have hlen := h.len
  obtain ⟨W1, hW1⟩ : ∃ x, x = w.alloc (.cells #[.int .i64 s] 2) := ⟨_, rfl⟩
  have hx0 : Ext w W1 := by rw [hW1]; exact (by repeat (first | assumption | exact Ext.refl _ | apply Ext.drewN | apply Ext.drew | apply Ext.alloc | (refine Ext.trans ?_ (by assumption)) | (refine Ext.set ?_ (by dsimp only; omega) _)))
  have hbx : W1.heap[w.heap.size]? = some (.cells #[.int .i64 s] 2 (0, 0)) := by rw [hW1]; exact heap_alloc_new w _
  have hsz1 : w.heap.size < W1.heap.size := by rw [hW1, al_size]; omega
  have cS := c_impl_SortFramesC (c := c) (h.below (hx0.mono hB)) (Nat.le_trans hB hx0.size) hn hr
  have CS := Lib.hid cS
  have CT := Lib.hid (fun W => c_isStation s W)
  clear cS
  unfold okOf
  cases hok : areM R
  · rw [hok] at CS
    go_enter Try.func41, Try.ntmps41
    go_wp2_with ((go_at_call 38; (try rw [← hW1]); refine Calls.mono CS.out ?_; rintro e w2 ⟨A2, c2, rfl, ho2, hx2, hc2⟩))
    go_ret2
    exact retMQ_no rfl (hx0.trans hx2)
  have hout : outM true (sortM R R.length) = sortM R n := by rw [hlen]; rfl
  rw [hok, hout, sortM_len] at CS
  clear hout
  cases hst : inB s 0 200
  · rw [hst] at CT
    go_enter Try.func41, Try.ntmps41
    go_wp2_with (first | (go_at_call 38; (try rw [← hW1]); refine Calls.mono CS.out ?_; rintro e w2 ⟨A2, c2, rfl, ho2, hx2, hc2⟩; have hbx2 := (hx2.cell hsz1).trans ((cell_of_row W1 w.heap.size 0 _ _ (0, 0) hbx).trans rfl)) | (go_at_call 64; refine Calls.mono (CT.out _) ?_; rintro e w3 ⟨rfl, rfl⟩))
    go_ret2
    exact retMQ_no rfl (hx0.trans hx2)
  rw [hst] at CT
  obtain ⟨hn12, _⟩ := areM_of hok
  rw [hlen] at hn12
  have hout : outM (true && true) (ofM R s) = keepM (sortM R n) s := by unfold ofM; rw [hlen]; rfl
  rw [hout]
  clear hout
  rcases Nat.eq_zero_or_pos n with rfl | hpos
  · go_enter Try.func41, Try.ntmps41
    go_wp2_with (first | (go_at_call 38; (try rw [← hW1]); refine Calls.mono CS.out ?_; rintro e w2 ⟨A2, c2, rfl, ho2, hx2, hc2⟩; have hbx2 := (hx2.cell hsz1).trans ((cell_of_row W1 w.heap.size 0 _ _ (0, 0) hbx).trans rfl)) | (go_at_call 64; refine Calls.mono (CT.out _) ?_; rintro e w3 ⟨rfl, rfl⟩) | (go_at_call 78; refine Calls.mono c_deleteFunc0 ?_; rintro e w4 ⟨rfl, rfl⟩))
    go_ret2
    exact ⟨A2, c2, rfl, OwM.nil _ _ _ _, hx0.trans hx2⟩
  · have hfin : ∀ (W2 : World) (A2 : Option Addr) (c2 : Nat), OwM W2 W1.heap.size W2.heap.size A2 n (sortM R n) → Ext W1 W2 → n ≤ c2 → Calls Try.prog 78 #[.slice A2 n c2, .func (.func 79) #[] #[.pointer (some ⟨w.heap.size, 0, none⟩)]] W2 fun e w' =>
        ∃ A', e = .returned (.slice A' (keepM (sortM R n) s).length c2) ∧ OwM w' w.heap.size w'.heap.size A' (keepM (sortM R n) s).length (keepM (sortM R n) s) ∧ Ext w w' := fun W2 A2 c2 ho2 hx2 hc2 => by
      obtain ⟨g, cs, t, V, rfl, hg, hz, hlo, hhi, hVl, hVs, ht, hent, hne⟩ := ho2.entsO hpos
      refine Calls.mono (c_deleteFunc hg hz hVl ht hc2 hn12 (hx2.blk hbx) (by omega)) ?_
      rintro e w' ⟨cs', rfl, hg', ht', hgr⟩
      have hs := keepE_S V s
      rw [hVs] at hs
      have hl : (keepE V s).length = (keepM (sortM R n) s).length := by rw [← hs]; simp [entS]
      have ho := (((hent.grown (Nat.le_refl _) hgr hne).sub (keepE_sub V s)).own2 hg' ht' hlo hhi (fun e he => hne e ((keepE_sub V s).subset he))).more (show w.heap.size ≤ W1.heap.size from hx0.size) hgr.size
      rw [hs, hl] at ho
      rw [hl]
      refine ⟨_, rfl, ho, ⟨hgr.os.trans (hx0.trans hx2).os, hgr.tape.trans (hx0.trans hx2).tape, hgr.output.trans (hx0.trans hx2).output, Nat.le_trans (hx0.trans hx2).size hgr.size, fun k hk => ?_⟩⟩
      exact (hgr.block k (Nat.lt_of_lt_of_le hk (hx0.trans hx2).size) (fun he => by have := Option.some.inj he; omega)).trans ((hx0.trans hx2).block k hk)
    have HFIN := Lib.hid hfin
    clear hfin
    go_enter Try.func41, Try.ntmps41
    go_wp2_with (first | (go_at_call 38; (try rw [← hW1]); refine Calls.mono CS.out ?_; rintro e w2 ⟨A2, c2, rfl, ho2, hx2, hc2⟩; have hbx2 := (hx2.cell hsz1).trans ((cell_of_row W1 w.heap.size 0 _ _ (0, 0) hbx).trans rfl)) | (go_at_call 64; refine Calls.mono (CT.out _) ?_; rintro e w3 ⟨rfl, rfl⟩) | (go_at_call 78; refine Calls.mono (HFIN.out _ _ _ ho2 hx2 hc2) ?_; rintro e w4 ⟨A4, rfl, ho4, hx4⟩))
    go_ret2
    exact ⟨A4, c2, rfl, ho4, hx4⟩
section
variable {ops : Array Oper} {rest : List Oper} {o : Oper} {a : Act} {Q : Exit → Act → World → Prop}
/-- Entries are appended to a row that was made empty. -/
theorem app_ent0 (hgd : o.guard = none) (s x : Operand) (ho : o.op = .call { callee := .builtin .append, args := #[s, x], argTypes := #[34, 34] }) {w : World} {U : List Ent} {m c g0 : Nat} {ad : Addr} (hU : U.length = m) (hs : a.eval s = .slice (some ⟨g0, 0, none⟩) 0 0) (hx : a.eval x = .slice (some ad) m c)
    (hr : ∀ j u, (entsV U)[j]? = some u → w.cell? (ad.add j) = some u) (hm : 0 < m) (hm2 : m ≤ 100000)
    (h : ∀ v' w', w'.ownsRow w.heap.size 27 3 v' m (entsV U) → Ext w w' → wpList Try.prog ops Q rest (a.put o.dst v') w') : wpList Try.prog ops Q (o :: rest) a w := by
  obtain ⟨i0, hi, hz0, hz1, hz2⟩ := info_parts info_frame
  have hlen := entsV_len U
  rw [hU] at hlen
  refine wpList_append_grows w hgd s x 34 ho 27 i0 (.agg #[.int .i64 0, .int .i64 0, .slice none 0 0]) 3 40 Try.underlying34 hi hz0 hz1 hz2 rfl (by decide) (some ⟨g0, 0, none⟩) 0 0 [] hs (fun he => by cases he) rfl (fun b _ j u hj => by simp at hj) ad m c (entsV U) hx hlen hr (entsV_one' U) (by omega) (by unfold maxLen; omega) (by omega) (fun v' w' hown hgr => ?_)
  rw [Nat.zero_add, List.nil_append] at hown
  exact h v' w' hown (ext_grown hgr)
end
/-- A row of entries that grows, behind w2. -/
def StO (w2 : World) (g0 : Nat) (o : Value) (U : List Ent) (wr : World) : Prop :=
  (U = [] ∧ o = .slice (some ⟨g0, 0, none⟩) 0 0) ∨ (U ≠ [] ∧ wr.ownsRow w2.heap.size 27 3 o U.length (entsV U))
theorem StO.ext {w2 w w' : World} {g0 : Nat} {o : Value} {U : List Ent} (h : StO w2 g0 o U w) (hx : Ext w w') : StO w2 g0 o U w' := by
  rcases h with h | ⟨h1, h2, h3⟩
  · exact .inl h
  · refine .inr ⟨h1, h2, ?_⟩
    rcases h3 with h4 | ⟨g, cap, cur, h4, h5, h6, h7⟩
    · exact .inl h4
    · exact .inr ⟨g, cap, cur, h4, h5, hx.blk h6, h7⟩
set_option maxRecDepth 20000 in
set_option maxHeartbeats 4000000 in
theorem c_l07Of {w : World} {B n c : Nat} {A : Option Addr} {R : List Sct} {s : Int} (h : RdM w B A n R) (hB : B ≤ w.heap.size) (hn : n ≤ 12) (hval : ∀ j, j < n → 1 ≤ (R.getD j noT).v.length ∧ (R.getD j noT).v.length ≤ 128) :
    Calls Try.prog 77 #[.slice A n c, .int .i64 s] w fun e w' => ∃ A' c', e = .returned (.slice A' (keepM (sortM R n) s).length c') ∧ OwM w' w.heap.size w'.heap.size A' (keepM (sortM R n) s).length (keepM (sortM R n) s) ∧ Ext w w' := by
  have cS := fun (W : World) (hW : Ext w W) => c_l07Sorted (w := W) (c := c) (h.below (hW.mono hB)) (Nat.le_trans hB hW.size) hn hval
  have CS := Lib.hid cS
  clear cS hval
  go_enter Try.func77, Try.ntmps77
  go_wp2_with (go_at_call 72; refine Calls.mono (CS.out _ (by repeat (first | assumption | exact Ext.refl _ | apply Ext.drewN | apply Ext.drew | apply Ext.alloc | (refine Ext.trans ?_ (by assumption)) | (refine Ext.set ?_ (by dsimp only; omega) _)))) ?_; rintro e w2 ⟨g, c2, rfl, ho, hx2⟩)
  have hx1 : Ext w (w.alloc (.cells #[] 27)) := (by repeat (first | assumption | exact Ext.refl _ | apply Ext.drewN | apply Ext.drew | apply Ext.alloc | (refine Ext.trans ?_ (by assumption)) | (refine Ext.set ?_ (by dsimp only; omega) _)))
  have hxx := hx1.trans hx2
  rcases Nat.eq_zero_or_pos n with rfl | hpos
  · obtain ⟨wa, hwa⟩ : ∃ x, x = w2 := ⟨_, rfl⟩
    subst hwa
    go_loopw [5, 13] (fun o i wr => o = .slice (some ⟨w.heap.size, 0, none⟩) 0 0 ∧ i = .int .i64 0 ∧ wr = wa) (fun _ _ _ => 0)
    case atStart => exact ⟨rfl, rfl, rfl⟩
    case round =>
      obtain ⟨rfl, rfl, rfl⟩ := hrel
      go_wp2_with (fail)
      go_ret
      exact ⟨_, _, rfl, OwM.nil _ _ _ _, hxx⟩
  · obtain ⟨g', cs, t, V, hg', hg, hz, hlo, hhi, hVl, hVs, ht, hent, hne⟩ := ho.entsO hpos
    simp only [Option.some.injEq, Addr.mk.injEq, and_true] at hg'
    subst hg'
    have hrow : ∀ j u, (entsV V)[j]? = some u → w2.cell? ⟨g, j, none⟩ = some u := fun j u hu => by
      rw [cell_of_row w2 g j cs t (0, 0) hg]
      rw [← ht, List.getElem?_take] at hu
      split at hu
      · rw [Array.getElem?_toList] at hu; exact hu
      · cases hu
    obtain ⟨wa, hwa⟩ : ∃ x, x = w2 := ⟨_, rfl⟩
    subst hwa
    clear ht hz hg ho
    have hs1 := hx1.size
    go_loopw [5, 13] (fun o i wr => ∃ k : Nat, k ≤ n ∧ i = .int .i64 k ∧ StO wa w.heap.size o (keepE (V.take k) s) wr ∧ Ext wa wr) (fun _ i _ => n - (intOf i).toNat)
    case atStart => exact ⟨0, Nat.zero_le _, rfl, .inl ⟨rfl, rfl⟩, Ext.refl _⟩
    case round =>
      obtain ⟨k, hk, rfl, hst, hx⟩ := hrel
      by_cases hlt : k < n
      · have hlt' : (k : Int) < (n : Int) := by omega
        obtain ⟨e0, e1, e2⟩ := entsV_three V k (by omega)
        have d0 := (hx.cell hhi).trans (hrow _ _ e0)
        have d1 := (hx.cell hhi).trans (hrow _ _ e1)
        have d2 := (hx.cell hhi).trans (hrow _ _ e2)
        have hyes := @keepE_yes V s k (by omega)
        have hno := @keepE_no V s k (by omega)
        have hentk : entsV [V.getD k noE] = entV (V.getD k noE) := entsV_one _
        obtain ⟨E, hE⟩ : ∃ E, V.getD k noE = E := ⟨_, rfl⟩
        rw [hE] at d0 d1 d2 hyes hno hentk
        obtain ⟨U, hU⟩ : ∃ U, keepE (V.take k) s = U := ⟨_, rfl⟩
        have hUl : U.length ≤ k := by
          rw [← hU]; have := keepE_len (V.take k) s; rw [List.length_take] at this; omega
        rw [hU] at hyes hno hst
        clear e0 e1 e2 hE hU
        by_cases he : E.s.x = s
        · have HY := Lib.hid (hyes he)
          have hcell : ∀ j u, (entsV [E])[j]? = some u → (wr.alloc (.cells #[.int .i64 E.s.x, .int .i64 E.s.z, .slice E.A E.s.v.length E.c] 27)).cell? ((⟨wr.heap.size, 0, none⟩ : Addr).add j) = some u := fun j u hu => by
            rw [Addr.add_lit, Nat.zero_add, cell_of_row _ wr.heap.size j _ _ (0, 0) (heap_alloc_new wr _)]
            rw [hentk] at hu
            simpa [entV] using hu
          have hal : Ext wr (wr.alloc (.cells #[.int .i64 E.s.x, .int .i64 E.s.z, .slice E.A E.s.v.length E.c] 27)) := (by repeat (first | assumption | exact Ext.refl _ | apply Ext.drewN | apply Ext.drew | apply Ext.alloc | (refine Ext.trans ?_ (by assumption)) | (refine Ext.set ?_ (by dsimp only; omega) _)))
          have HC := Lib.hid hcell
          have HAL := Lib.hid hal
          have hsa := (hx.trans hal).size
          clear hyes hno hentk hcell hal
          subst he
          rcases hst with ⟨rfl, rfl⟩ | ⟨hU0, hown⟩
          · go_wp2_with (at_builtin; refine app_ent0 (U := [E]) (m := 1) rfl _ _ rfl rfl rfl rfl HC.out (by omega) (by omega) ?_; intro v' w4 hown4 hx4)
            refine ⟨⟨k + 1, by omega, by go_num, ?_, (hx.trans HAL.out).trans hx4⟩, by simp [intOf]; omega⟩
            rw [HY.out]
            refine .inr ⟨by simp, hown4.1, ?_⟩
            rcases hown4.2 with ⟨_, h0⟩ | ⟨g5, cap, cur, r1, r2, r3⟩
            · omega
            · exact .inr ⟨g5, cap, cur, r1, Nat.le_trans hsa r2, r3⟩
          · have hown2 := hown.alloc (.cells #[.int .i64 E.s.x, .int .i64 E.s.z, .slice E.A E.s.v.length E.c] 27)
            have HOWN := Lib.hid hown2
            clear hown hown2
            go_wp2_with (at_builtin; refine app_ent (U := [E]) (m := 1) rfl _ _ rfl wa.heap.size rfl rfl (by rfl) (by rfl) HOWN.out HC.out (by omega) (by omega) hsa ?_; intro v' w4 hown4 hb4 _)
            refine ⟨⟨k + 1, by omega, by go_num, ?_, Ext.belowJ (hx.trans HAL.out) (Nat.le_refl _) hb4⟩, by simp [intOf]; omega⟩
            rw [HY.out]
            exact .inr ⟨by simp, by rw [List.length_append]; exact hown4⟩
        · have HN := Lib.hid (hno he)
          clear hyes hno hentk
          go_wp2_with (fail)
          exact ⟨⟨k + 1, by omega, by go_num, by rw [HN.out]; exact hst, hx⟩, by simp [intOf]; omega⟩
      · obtain rfl : k = n := by omega
        rw [keepE_whole hVl] at hst
        have hs := keepE_S V s
        rw [hVs] at hs
        have hl : (keepE V s).length = (keepM (sortM R k) s).length := by rw [← hs]; simp [entS]
        rcases hst with ⟨h0, rfl⟩ | ⟨hU0, hown⟩
        · rw [h0] at hl
          have hq : keepM (sortM R k) s = [] := List.eq_nil_of_length_eq_zero hl.symm
          have HQ := Lib.hid hq
          clear hq
          go_wp2_with (fail)
          go_ret
          rw [HQ.out]
          exact ⟨_, _, rfl, OwM.nil _ _ _ _, hxx.trans hx⟩
        · rcases hown.2 with ⟨_, h0⟩ | ⟨g5, cap, cur, rfl, r2, r3, r4, r5, r6, r7⟩
          · exact absurd (List.eq_nil_of_length_eq_zero h0) hU0
          · have hfin := ((((hent.ext (Nat.le_refl _) hx).sub (keepE_sub V s)).more hs1 (Nat.le_refl _)).own r3 r7 (Nat.le_trans hxx.size r2) r2 (blk_lt r3))
            rw [hs] at hfin
            have HF := Lib.hid hfin
            have HL := Lib.hid hl
            clear hfin hown r3 r7 hl
            go_wp2_with (fail)
            go_ret
            rw [← HL.out]
            exact ⟨_, _, rfl, HF.out, hxx.trans hx⟩
set_option maxRecDepth 20000 in
set_option maxHeartbeats 4000000 in
theorem c_l07Station {w : World} {B n c : Nat} {A : Option Addr} {R : List Sct} {s : Int} (h : RdM w B A n R) (hn : n ≤ 1048576) (hr : ∀ j, j < n → (R.getD j noT).v.length ≤ 1048576) :
    Calls Try.prog 76 #[.slice A n c, .int .i64 s] w fun e w' => e = .returned (.bool (okOf R s)) ∧ Dr w w' := by
  have CA := Lib.hid (c_l07Are (c := c) h hn hr)
  unfold okOf
  cases hok : areM R
  · rw [hok] at CA
    rw [Bool.false_and]
    go_enter Try.func76, Try.ntmps76
    go_wp2_with (go_at_call 67; refine Calls.mono CA.out ?_; rintro e w1 ⟨rfl, n1, rfl⟩)
    go_ret
    exact ⟨rfl, _, rfl⟩
  · rw [hok] at CA
    rw [Bool.true_and]
    have CI := Lib.hid (fun W => c_l00In s 0 200 W)
    go_enter Try.func76, Try.ntmps76
    go_wp2_with (first | (go_at_call 67; refine Calls.mono CA.out ?_; rintro e w1 ⟨rfl, n1, rfl⟩) | (go_at_call 70; refine Calls.mono (CI.out _) ?_; rintro e w2 ⟨rfl, rfl⟩))
    go_ret
    exact ⟨rfl, _, rfl⟩
set_option maxRecDepth 20000 in
set_option maxHeartbeats 4000000 in
theorem c_spec_OfStation {w : World} {B n c : Nat} {A : Option Addr} {R : List Sct} {s : Int} (h : RdM w B A n R) (hB : B ≤ w.heap.size) (hn : n ≤ 1048576) (hr : ∀ j, j < n → (R.getD j noT).v.length ≤ 1048576) :
    Calls Try.prog 40 #[.slice A n c, .int .i64 s] w fun e w' => RetMQ w e w' (okOf R s) (outM (okOf R s) (ofM R s)).length (outM (okOf R s) (ofM R s)) := by
  have hlen := h.len
  have CA := Lib.hid (c_l07Station (c := c) (s := s) h hn hr)
  cases hok : okOf R s
  · rw [hok] at CA
    go_enter Try.func40, Try.ntmps40
    go_wp2_with (go_at_call 76; refine Calls.mono CA.out ?_; rintro e w1 ⟨rfl, n1, rfl⟩)
    go_ret2
    exact retMQ_no rfl (by repeat (first | assumption | exact Ext.refl _ | apply Ext.drewN | apply Ext.drew | apply Ext.alloc | (refine Ext.trans ?_ (by assumption)) | (refine Ext.set ?_ (by dsimp only; omega) _)))
  · have hok2 := hok
    unfold okOf at hok2
    rw [Bool.and_eq_true] at hok2
    obtain ⟨hn12, hval⟩ := areM_of hok2.1
    rw [hlen] at hn12 hval
    have hv2 : ∀ j, j < n → 1 ≤ (R.getD j noT).v.length ∧ (R.getD j noT).v.length ≤ 128 := fun j hj => by
      obtain ⟨_, _, _, _, h1, h2, _⟩ := fvF_of (hval j hj)
      exact ⟨h1, h2⟩
    have hout : outM true (ofM R s) = keepM (sortM R n) s := by unfold ofM; rw [hlen]; rfl
    rw [hout]
    have CS := Lib.hid (fun (m : Nat) => c_l07Of (c := c) (s := s) (h.drewN m) hB hn12 hv2)
    rw [hok] at CA
    clear hok hok2 hout hval hv2
    go_enter Try.func40, Try.ntmps40
    go_wp2_with (first | (go_at_call 76; refine Calls.mono CA.out ?_; rintro e w1 ⟨rfl, n1, rfl⟩) | (go_at_call 77; refine Calls.mono (CS.out _) ?_; rintro e w2 ⟨A2, c2, rfl, ho, hx⟩))
    go_ret2
    exact ⟨A2, c2, rfl, ho, (by repeat (first | assumption | exact Ext.refl _ | apply Ext.drewN | apply Ext.drew | apply Ext.alloc | (refine Ext.trans ?_ (by assumption)) | (refine Ext.set ?_ (by dsimp only; omega) _)))⟩
theorem outOf_tot {R : List Sct} {s : Int} {ok : Bool} (ht : totM R ≤ 1048576) : totM (outM ok (ofM R s)) ≤ 1048576 := by
  unfold outM
  split
  · exact Nat.le_trans (ofM_tot R s) ht
  · simp [totM]
theorem outOf_len {R : List Sct} {s : Int} {ok : Bool} (ht : R.length ≤ 1048576) : (outM ok (ofM R s)).length ≤ 1048576 := by
  unfold outM
  split
  · exact Nat.le_trans (ofM_len R s) ht
  · simp
theorem both_OfStation {n0 : Nat} {R0 : List Sct} (hl0 : R0.length = n0) (hn0 : n0 ≤ 1048576) (hr0 : ∀ j, j < n0 → (R0.getD j noT).v.length ≤ 1048576) (ht0 : totM R0 ≤ 1048576) (_hok0 : ∀ j, j < n0 → (R0.getD j noT).Ok) {i1 : Int} (_h1 : -9223372036854775808 ≤ i1) (_k1 : i1 ≤ 9223372036854775807) :
    ∃ (ok : Bool) (Q : List Sct) (q : Nat), q ≤ 1048576 ∧ Q.length = q ∧ totM Q ≤ 1048576 ∧ (∀ W : World, ∀ (B0 : Nat) (A0 : Option Addr) (c0 : Nat), RdM W B0 A0 n0 R0 → B0 ≤ W.heap.size → Calls Try.prog 40 #[.slice A0 n0 c0, .int .i64 i1] W fun e w' => RetMQ W e w' ok q Q) ∧
      (∀ W : World, ∀ (B0 : Nat) (A0 : Option Addr) (c0 : Nat), RdM W B0 A0 n0 R0 → B0 ≤ W.heap.size → Calls Try.prog 41 #[.slice A0 n0 c0, .int .i64 i1] W fun e w' => RetMQ W e w' ok q Q) :=
  ⟨okOf R0 i1, outM (okOf R0 i1) (ofM R0 i1), _, outOf_len (by omega), rfl, outOf_tot ht0, fun _ _ _ _ h0 hB0 => c_spec_OfStation h0 hB0 hn0 hr0, fun _ _ _ _ h0 hB0 => c_impl_OfStation h0 hB0 hn0 hr0⟩
end Go.Proofs.Ytfmhdnhaaohdjaa
