/- A region that draws its order, whose head makes memory, and one operation of which may stand behind the first one of its end. No condition. -/
import Derived.Test.YtfmhdnhaaohdjaaMo2
namespace Go.Proofs.Ytfmhdnhaaohdjaa
open Go.RowKit Ieee
set_option linter.unusedVariables false
section
variable {P : Program} {ops : Array Oper} {md : Region.Mode} {R : World → World → Prop}
def moBL (md : Region.Mode) (ops : Array Oper) (l0 : Array Bool) (H H2 : List (Nat × Tmp)) (j : Nat) (t0 : Nat) (T2 : List Nat) : Bool :=
  decide (l0.size = ops.size) && H.all (fun q => decide (q.1 < ops.size) && !l0.getD q.1 true) && (t0 :: T2).all (fun t => decide (t < ops.size) && !l0.getD t true && H.all fun q => decide (q.1 ≠ t)) &&
  ((List.range ops.size).all fun i => l0.getD i true || (H.any fun q => q.1 == i) || (t0 :: T2).contains i) && ordH md ops l0 [] H && ((List.range ops.size).all fun k => !l0.getD k false || (match ops[k]? with | some o => o.after.all (fun e => !Region.binds md e || l0.getD e.on false) | none => true)) && sinkH md ops t0 H2 && chainT md ops (t0 :: T2) && apartD H && seqT md ops (t0 :: T2) (headArr l0 H) && (seqT md ops (j :: T2) ((headArr l0 H2).setIfInBounds t0 true) && (H2.all (fun q => decide (q.1 ≠ j) && !Region.waitsFor md ops q.1 j) && !Region.waitsFor md ops j j))
theorem left_late {listed : Array Bool} {x : Nat × Tmp} : ∀ {l : List (Nat × Tmp)}, (∀ q ∈ l, listed.getD q.1 true = true) → left listed (l ++ [x]) = left listed [x]
  | [], _ => rfl
  | (k, o) :: l, h => by
    rw [List.cons_append, left, left_late (l := l) (fun q hq => h q (List.mem_cons_of_mem _ hq)), h (k, o) (List.mem_cons_self ..)]
    simp
theorem waits_tail2 {l0 : Array Bool} {H : List (Nat × Tmp)} {listed : Array Bool} {t0 : Nat} (inv : MoInv md ops l0 H listed) (hsz : ∀ q ∈ H, q.1 < ops.size) : ∀ (l : List (Nat × Tmp)), (∀ q ∈ l, q ∈ H) → sinkH md ops t0 l = true → ∀ q ∈ l, listed.getD q.1 true = false → t0 ∉ Region.ready md ops listed
  | [], _, _, q, hq, _ => by cases hq
  | (i, o) :: l, hH, hs, q, hq, hun => by
    rw [sinkH, Bool.and_eq_true] at hs
    have htail := waits_tail2 inv hsz l (fun q hq => hH q (List.mem_cons_of_mem _ hq)) hs.2
    rcases List.mem_cons.1 hq with rfl | hm
    · intro hr
      obtain ⟨_, ot, hot, hall⟩ := mem_ready.1 hr
      rw [Bool.or_eq_true] at hs
      rcases hs.1 with h1 | h1
      · obtain ⟨o2, ho2, e, he, hb, hon⟩ := Region.waitsFor_spec h1
        obtain rfl : o2 = ot := Option.some.inj (ho2.symm.trans hot)
        have := hall e he hb
        rw [hon, getD_both hun] at this
        cases this
      · obtain ⟨q', hq', h2⟩ := List.any_eq_true.1 h1
        have hqH : q' ∈ H := hH q' (List.mem_cons_of_mem _ hq')
        cases hl : listed.getD q'.1 true with
        | false => exact htail q' hq' hl hr
        | true =>
          obtain ⟨o2, ho2, e, he, hb, hon⟩ := Region.waitsFor_spec h2
          have hlt : q'.1 < listed.size := by rw [inv.size]; exact hsz q' hqH
          have := inv.closed q' hqH (by simpa [hlt] using hl) o2 ho2 e he hb
          rw [hon, getD_both hun] at this
          cases this
    · exact htail q hm hun

theorem wpAny_mo_late {l0 : Array Bool} {H H2 : List (Nat × Tmp)} {jl t0 : Nat} {dl : Tmp} {T2 : List Nat} {tl : List Oper} {ot0 oj : Oper} {tl2 : List Oper} {w0 : World} {a0 : Act} {Q' : Exit → Act → World → Prop} {F : Nat → (Nat → Value) → Value → World → Prop}
    (hHe : H = H2 ++ [(jl, dl)]) (hB : moBL md ops l0 H H2 jl t0 T2 = true) (htl : (t0 :: T2).map (fun t => ops[t]?) = tl.map some) (ht0 : ops[t0]? = some ot0) (htl2 : (jl :: T2).map (fun t => ops[t]?) = (oj :: tl2).map some)
    (hRr : ∀ a, R a a) (hR : ∀ a b c, R a b → R b c → R a c) (hF : ∀ q ∈ H, ∀ us v w w', F q.1 us v w → R w w' → F q.1 us v w')
    (hstep : ∀ q ∈ H, ∀ o, ops[q.1]? = some o → ∀ vs w', R w0 w' → (∀ i, l0.getD i false = false → anc md ops 3 q.1 i = true → F i (seen md ops i vs) (vs i) w') → YieldsM P ops R o (F q.1 (seen md ops q.1 vs)) (putAll vs H a0) w')
    (hend : ∀ vs w', R w0 w' → (∀ q ∈ H, F q.1 (seen md ops q.1 vs) (vs q.1) w') → wpList P ops Q' tl (putAll vs H a0) w')
    (hlate : ∀ vs w', R w0 w' → (∀ q ∈ H2, F q.1 (seen md ops q.1 vs) (vs q.1) w') → wpList P ops Q' (ot0 :: oj :: tl2) (putAll vs H a0) w') :
    ∀ (f : Nat) (listed : Array Bool) (vs : Nat → Value) (w : World), left listed H = f → MoInv md ops l0 H listed → R w0 w → (∀ q ∈ H, listed.getD q.1 false = true → F q.1 (seen md ops q.1 vs) (vs q.1) w) →
      wpAny P md ops Q' (f + (t0 :: T2).length) listed (putAll vs H a0) w := by
  unfold moBL at hB
  simp only [Bool.and_eq_true, decide_eq_true_eq] at hB
  obtain ⟨⟨⟨⟨⟨⟨⟨⟨⟨⟨h0s, hHs⟩, hTs⟩, hcov⟩, hord⟩, h0c⟩, hs⟩, hc⟩, hD⟩, hseq⟩, hseq2, hapart⟩ := hB
  have hsz : ∀ q ∈ H, q.1 < ops.size := fun q hq => by
    have := List.all_eq_true.1 hHs q hq
    rw [Bool.and_eq_true] at this
    exact of_decide_eq_true this.1
  have hun0 : ∀ q ∈ H, l0.getD q.1 true = false := fun q hq => by
    have := List.all_eq_true.1 hHs q hq
    rw [Bool.and_eq_true] at this
    simpa using this.2
  have hTn : ∀ t ∈ t0 :: T2, t < ops.size ∧ l0.getD t true = false ∧ ∀ q ∈ H, q.1 ≠ t := fun t ht => by
    have := List.all_eq_true.1 hTs t ht
    rw [Bool.and_eq_true, Bool.and_eq_true] at this
    exact ⟨of_decide_eq_true this.1.1, by simpa using this.1.2, fun q hq => of_decide_eq_true (List.all_eq_true.1 this.2 q hq)⟩
  intro f
  induction f with
  | zero =>
    intro listed vs w h0 inv hw hf
    have hall := left_zero h0
    have hl : listed = headArr l0 H := by
      apply Array.ext
      · rw [inv.size, headArr]; simp [h0s]
      · intro i h1 h2
        have hi : i < ops.size := by rw [← inv.size]; exact h1
        simp only [headArr, List.getElem_toArray, List.getElem_map, List.getElem_range]
        by_cases hm : ∃ q ∈ H, q.1 = i
        · obtain ⟨q, hq, rfl⟩ := hm
          have h3 := hall q hq
          simp [h1] at h3
          rw [h3, show (H.any fun q' => q'.1 == q.1) = true from List.any_eq_true.2 ⟨q, hq, by simp⟩, Bool.or_true]
        · have h3 := inv.old i (fun q hq e => hm ⟨q, hq, e⟩)
          have h4 : (H.any fun q => q.1 == i) = false := by
            rw [List.any_eq_false]
            intro q hq
            simp only [beq_iff_eq]
            exact fun e => hm ⟨q, hq, e⟩
          rw [h4, Bool.or_false]
          have h5 : i < l0.size := by omega
          simp [h1, h5] at h3 ⊢
          exact h3
    rw [Nat.zero_add]
    refine wpAny_of_seqT (t0 :: T2) tl listed _ w htl (by rw [hl]; exact hseq) (hend vs w hw (fun q hq => hf q hq (by
      have h1 : q.1 < listed.size := by rw [inv.size]; exact hsz q hq
      have := hall q hq
      simpa [h1] using this)))
  | succ f ih =>
    intro listed vs w h0 inv hw hf
    obtain ⟨l1, q0, l2, hH, hun, hless⟩ := left_least (listed := listed) (l := H) (by omega)
    have hq0 : q0 ∈ H := by rw [hH]; simp
    have hr0 : q0.1 ∈ Region.ready md ops listed := by
      rw [hH] at hord
      obtain ⟨o0, ho0, _, hall0⟩ := ordH_at (i := q0.1) (d := q0.2) hord
      refine mem_ready.2 ⟨hun, o0, ho0, fun e he hb => ?_⟩
      rcases hall0 e he hb with h1 | h1 | ⟨q, h1, h2⟩
      · exact inv.keep _ h1
      · cases h1
      · have h3 := hless q h1
        have hq : q ∈ H := by rw [hH]; simp [h1]
        have h4 : q.1 < listed.size := by rw [inv.size]; exact hsz q hq
        rw [← h2]
        simpa [h4] using h3
    have hTun : ∀ t ∈ t0 :: T2, listed.getD t true = false := fun t ht => by
      obtain ⟨_, h2, h3⟩ := hTn t ht
      rw [inv.old t h3]; exact h2
    have hnoT : ∀ t ∈ T2, t ∉ Region.ready md ops listed := by
      have hrest : ∀ (T' : List Nat) (t0 : Nat), (∀ t ∈ t0 :: T', listed.getD t true = false) → chainT md ops (t0 :: T') = true → ∀ t ∈ T', t ∉ Region.ready md ops listed := by
        intro T'
        induction T' with
        | nil => intro t0 _ _ t ht; cases ht
        | cons u T' ih2 =>
          intro t0 hun2 hch t ht
          rw [chainT, Bool.and_eq_true] at hch
          rcases List.mem_cons.1 ht with rfl | hm
          · intro hr
            obtain ⟨_, ot, hot, hall⟩ := mem_ready.1 hr
            obtain ⟨o2, ho2, e, he, hb, hon⟩ := Region.waitsFor_spec hch.1
            obtain rfl : o2 = ot := Option.some.inj (ho2.symm.trans hot)
            have := hall e he hb
            rw [hon, getD_both (hun2 t0 (List.mem_cons_self ..))] at this
            cases this
          · exact ih2 u (fun t ht => hun2 t (List.mem_cons_of_mem _ ht)) hch.2 t hm
      exact hrest T2 t0 hTun hc
    rw [show f + 1 + (t0 :: T2).length = (f + (t0 :: T2).length) + 1 by omega]
    refine ⟨fun h => (by rw [h] at hr0; cases hr0), fun j hj => ?_⟩
    obtain ⟨hjun, o, hoj, hall⟩ := mem_ready.1 hj
    have hjs : j < ops.size := (Array.getElem?_eq_some_iff.1 hoj).1
    by_cases hjt : j = t0
    · subst hjt
      have hall2 : ∀ q ∈ H2, listed.getD q.1 true = true := fun q hq => by
        cases hq2 : listed.getD q.1 true with
        | true => rfl
        | false => exact absurd hj (waits_tail2 inv hsz H2 (fun q hq => by rw [hHe]; simp [hq]) hs q hq hq2)
      have hjl : listed.getD jl true = false ∧ f = 0 := by
        have h1 : left listed H = left listed [(jl, dl)] := by rw [hHe]; exact left_late hall2
        rw [h0, left, left] at h1
        cases hq2 : listed.getD jl true with
        | true => rw [hq2] at h1; simp at h1
        | false => rw [hq2] at h1; simp at h1; exact ⟨rfl, h1⟩
      obtain ⟨hjl, rfl⟩ := hjl
      have hjlH : (jl, dl) ∈ H := by rw [hHe]; simp
      have hl : listed = headArr l0 H2 := by
        apply Array.ext
        · rw [inv.size, headArr]; simp [h0s]
        · intro i h1 h2
          have hi : i < ops.size := by rw [← inv.size]; exact h1
          simp only [headArr, List.getElem_toArray, List.getElem_map, List.getElem_range]
          by_cases hm : ∃ q ∈ H2, q.1 = i
          · obtain ⟨q, hq, rfl⟩ := hm
            have h3 := hall2 q hq
            simp [h1] at h3
            rw [h3, show (H2.any fun q' => q'.1 == q.1) = true from List.any_eq_true.2 ⟨q, hq, by simp⟩, Bool.or_true]
          · have h4 : (H2.any fun q => q.1 == i) = false := by
              rw [List.any_eq_false]
              intro q hq
              simp only [beq_iff_eq]
              exact fun e => hm ⟨q, hq, e⟩
            rw [h4, Bool.or_false]
            have h5 : i < l0.size := by omega
            by_cases hij : i = jl
            · subst hij
              have h6 := hun0 (i, dl) hjlH
              simp [h1, h5] at hjl h6 ⊢
              rw [hjl, h6]
            · have h3 := inv.old i (fun q hq e => by
                rw [hHe, List.mem_append] at hq
                rcases hq with hq | hq
                · exact hm ⟨q, hq, e⟩
                · rw [List.mem_singleton.1 hq] at e; exact hij e.symm)
              simp [h1, h5] at h3 ⊢
              exact h3
      have hlw := hlate vs w hw (fun q hq => hf q (by rw [hHe]; simp [hq]) (by
        have h1 : q.1 < listed.size := by rw [inv.size]; exact hsz q (by rw [hHe]; simp [hq])
        have := hall2 q hq
        simpa [h1] using this))
      have hww : wpOp P ops Q' j (wpList P ops Q' (oj :: tl2)) (putAll vs H a0) w := by unfold wpOp; simp only [ht0]; exact hlw
      rw [Nat.zero_add]
      exact wpOp_mono (fun a' w' h' => wpAny_of_seqT (jl :: T2) (oj :: tl2) _ a' w' htl2 (by rw [hl]; exact hseq2) h') hww
    obtain ⟨d, hjH, hod⟩ : ∃ d, (j, d) ∈ H ∧ o.dst = some d := by
      have h1 := List.all_eq_true.1 hcov j (List.mem_range.2 hjs)
      rw [Bool.or_eq_true, Bool.or_eq_true] at h1
      rcases h1 with (h1 | h1) | h1
      · exfalso
        have h2 : j < l0.size := by omega
        have := inv.keep j (by simpa [h2] using h1)
        rw [getD_both hjun] at this
        cases this
      · obtain ⟨q, hq, h2⟩ := List.any_eq_true.1 h1
        have h3 : q.1 = j := by simpa using h2
        obtain ⟨m1, m2, hm⟩ := List.append_of_mem hq
        have hord2 := hord
        rw [hm] at hord2
        obtain ⟨o0, ho0, hd0, _⟩ := ordH_at (i := q.1) (d := q.2) hord2
        rw [h3, hoj] at ho0
        obtain rfl : o = o0 := Option.some.inj ho0
        exact ⟨q.2, by rw [← h3]; exact hq, hd0⟩
      · exact absurd hj (hnoT j (by rcases (by simpa using h1 : j = t0 ∨ j ∈ T2) with h2 | h2; exact absurd h2 hjt; exact h2))
    have hlisted : ∀ (f j' i : Nat), (∀ i', Region.waitsFor md ops j' i' = true → listed.getD i' false = true) → anc md ops f j' i = true → listed.getD i false = true := by
      intro f
      induction f with
      | zero => intro j' i h1 h2; exact h1 i h2
      | succ f ihf =>
        intro j' i h1 h2
        rw [anc, Bool.or_eq_true] at h2
        rcases h2 with h2 | h2
        · exact h1 i h2
        · obtain ⟨k, _, h3⟩ := List.any_eq_true.1 h2
          rw [Bool.and_eq_true] at h3
          have hk := h1 k h3.1
          refine ihf k i (fun i' hi' => ?_) h3.2
          obtain ⟨ok, hok, e, he, hb, hon⟩ := Region.waitsFor_spec hi'
          rw [← hon]
          by_cases hkH : ∃ q ∈ H, q.1 = k
          · obtain ⟨q, hq, rfl⟩ := hkH
            exact inv.closed q hq hk ok hok e he hb
          · exact inv.closed0 k (fun q hq e => hkH ⟨q, hq, e⟩) hk ok hok e he hb
    have hfj : ∀ i, l0.getD i false = false → anc md ops 3 j i = true → F i (seen md ops i vs) (vs i) w := fun i hi0 hi => by
      have hli := hlisted 3 j i (fun i' hi' => by
        obtain ⟨o2, ho2, e, he, hb, hon⟩ := Region.waitsFor_spec hi'
        obtain rfl : o2 = o := Option.some.inj (ho2.symm.trans hoj)
        rw [← hon]; exact hall e he hb) hi
      have hiH : ∃ q ∈ H, q.1 = i := by
        apply Classical.byContradiction
        intro hno
        have h1 := inv.old i (fun q hq e => hno ⟨q, hq, e⟩)
        have his : i < listed.size := by
          rcases Nat.lt_or_ge i listed.size with h | h
          · exact h
          · simp [show ¬ i < listed.size by omega] at hli
        have his2 : i < l0.size := by rw [h0s, ← inv.size]; exact his
        simp [his, his2] at h1 hli hi0
        rw [hli, hi0] at h1
        cases h1
      obtain ⟨q, hq, rfl⟩ := hiH
      exact hf q hq hli
    have hy := hstep (j, d) hjH o hoj vs w hw hfj
    have hself : Region.waitsFor md ops j j = false := by
      cases hc2 : Region.waitsFor md ops j j with
      | false => rfl
      | true =>
        obtain ⟨o2, ho2, e, he, hb, hon⟩ := Region.waitsFor_spec hc2
        obtain rfl : o2 = o := Option.some.inj (ho2.symm.trans hoj)
        have := hall e he hb
        rw [hon, getD_both hjun] at this
        cases this
    have hnext : ∀ v w', R w w' → F j (seen md ops j vs) v w' → wpAny P md ops Q' (f + (t0 :: T2).length) (listed.setIfInBounds j true) ((putAll vs H a0).put o.dst v) w' := by
      intro v w' hw' hv
      rw [hod, putAll_at H _ hD hjH]
      refine ih _ _ w' (by have := left_set hjun hD hjH; omega) ?_ (hR _ _ _ hw hw') (fun q hq hli => ?_)
      · refine ⟨by simp [inv.size], fun k hk => ?_, fun k hk => getD_set_true (inv.keep k hk), fun q hq hl o3 ho3 e he hb => ?_, fun k hk hl o3 ho3 e he hb => ?_⟩
        · rw [getD_set_ne true (fun e => hk (j, d) hjH e)]; exact inv.old k hk
        · by_cases hqj : j = q.1
          · subst hqj
            obtain rfl : o3 = o := Option.some.inj (ho3.symm.trans hoj)
            exact getD_set_true (hall e he hb)
          · rw [getD_set_ne false hqj] at hl
            exact getD_set_true (inv.closed q hq hl o3 ho3 e he hb)
        · rw [getD_set_ne false (fun e => hk (j, d) hjH e)] at hl
          exact getD_set_true (inv.closed0 k hk hl o3 ho3 e he hb)
      · by_cases hij : q.1 = j
        · have h5 : seen md ops q.1 (upd vs j v) = seen md ops q.1 vs := seen_upd (by rw [hij]; exact hself)
          rw [h5, hij, upd_at]
          exact hv
        · rw [getD_set_ne false (Ne.symm hij)] at hli
          have h1 : Region.waitsFor md ops q.1 j = false := by
            cases hc2 : Region.waitsFor md ops q.1 j with
            | false => rfl
            | true =>
              exfalso
              obtain ⟨oi, hoi, e, he, hb, hon⟩ := Region.waitsFor_spec hc2
              have := inv.closed q hq hli oi hoi e he hb
              rw [hon, getD_both hjun] at this
              cases this
          rw [upd_ne _ _ hij, seen_upd h1]
          exact hF q hq _ _ _ _ (hf q hq hli) hw'
    unfold wpOp
    rw [hoj]
    dsimp only
    rcases hy with ⟨hwa, hv⟩ | ⟨hwa, hv⟩
    · rw [if_pos hwa]
      exact .inl (wp_of_mo hv hnext)
    · rw [if_neg (by rw [hwa]; simp)]
      exact hnext undef w (hRr w) hv


theorem late_swap {ot0 oj : Oper} {tl2 : List Oper} {Q : Exit → Act → World → Prop} {a : Act} {d : Tmp} {v : Value} {w w2 : World} (hg : ot0.guard = none) (hd : ot0.dst = none) (hgj : oj.guard = none) (hdj : oj.dst = some d)
    (he : execOp (a.put (some d) v).eval ot0 = execOp a.eval ot0) (hv : ∀ w', (execOp a.eval oj).run P w' = .ok (.value v) w') (hr : (execOp a.eval ot0).run P w = .ok .skip w2)
    (h : wpList P ops Q (ot0 :: tl2) (a.put (some d) v) w) : wpList P ops Q (ot0 :: oj :: tl2) a w := by
  have hp : ∀ (a : Act) (u : Value), a.put none u = a := fun _ _ => rfl
  unfold wpList at h ⊢
  rw [if_pos (by simp [Region.wanted, hg])] at h ⊢
  rcases h with h | h
  · refine Or.inl ?_
    unfold Oper.wp at h ⊢
    rw [he, hr, Oper.upon_skip, hd, hp] at h
    rw [hr, Oper.upon_skip, hd, hp]
    unfold wpList
    rw [if_pos (by simp [Region.wanted, hgj])]
    refine Or.inl ?_
    unfold Oper.wp
    rw [hv, Oper.upon_value, hdj]
    exact h
  · refine Or.inr ⟨?_, h.2⟩
    have h1 := h.1
    unfold Oper.asks at h1 ⊢
    rw [he] at h1
    exact h1
theorem late_end {H H2 : List (Nat × Tmp)} {jl : Nat} {dl : Tmp} {ot0 oj : Oper} {tl2 : List Oper} {w0 : World} {a0 : Act} {Q' : Exit → Act → World → Prop} {F : Nat → (Nat → Value) → Value → World → Prop}
    (hHe : H = H2 ++ [(jl, dl)]) (hD : apartD H = true) (hne : ∀ q ∈ H2, q.1 ≠ jl) (hnw : ∀ q ∈ H2, Region.waitsFor md ops q.1 jl = false) (hself : Region.waitsFor md ops jl jl = false)
    (hg : ot0.guard = none) (hd : ot0.dst = none) (hgj : oj.guard = none) (hdj : oj.dst = some dl)
    (hend : ∀ vs w', R w0 w' → (∀ q ∈ H, F q.1 (seen md ops q.1 vs) (vs q.1) w') → wpList P ops Q' (ot0 :: tl2) (putAll vs H a0) w')
    (hside : ∀ vs w', R w0 w' → (∀ q ∈ H2, F q.1 (seen md ops q.1 vs) (vs q.1) w') → ∃ v w'', F jl (seen md ops jl vs) v w' ∧ execOp ((putAll vs H a0).put (some dl) v).eval ot0 = execOp (putAll vs H a0).eval ot0 ∧
      (∀ w1, (execOp (putAll vs H a0).eval oj).run P w1 = .ok (.value v) w1) ∧ (execOp (putAll vs H a0).eval ot0).run P w' = .ok .skip w'') :
    ∀ vs w', R w0 w' → (∀ q ∈ H2, F q.1 (seen md ops q.1 vs) (vs q.1) w') → wpList P ops Q' (ot0 :: oj :: tl2) (putAll vs H a0) w' := by
  intro vs w' hw hf
  obtain ⟨v, w'', hF, he, hv, hr⟩ := hside vs w' hw hf
  have h1 := hend (upd vs jl v) w' hw (fun q hq => by
    rw [hHe, List.mem_append] at hq
    rcases hq with hq | hq
    · rw [seen_upd (hnw q hq), upd_ne _ _ (hne q hq)]
      exact hf q hq
    · rw [List.mem_singleton.1 hq]
      dsimp only
      rw [seen_upd hself, upd_at]
      exact hF)
  rw [← putAll_at (d := dl) H a0 hD (by rw [hHe]; simp)] at h1
  exact late_swap hg hd hgj hdj he hv hr h1
/-- A HEAD THAT MAKES MEMORY IS WALKED ONCE: each of its operations leaves what its fact tells; the last operations come in a forced order. -/
theorem wpAny_mo_late_go {Q : Exit → Act → World → Prop} {a : Act} {w w1 : World} {l0 : Array Bool} (H H2 : List (Nat × Tmp)) (jl : Nat) (dl : Tmp) (t0 : Nat) (T2 : List Nat) {ot0 oj : Oper} {tl2 : List Oper} {f : Nat} {S : (Nat → Value) → Act} (hHe : H = H2 ++ [(jl, dl)]) (hB : moBL md ops l0 H H2 jl t0 T2 = true) (htl2 : T2.map (fun t => ops[t]?) = tl2.map some) (ht0 : ops[t0]? = some ot0) (hoj : ops[jl]? = some oj) (hg : ot0.guard = none) (hdn : ot0.dst = none) (hgj : oj.guard = none) (hdj : oj.dst = some dl) (hf : f = H.length + (t0 :: T2).length)
    (hRr : ∀ a, R a a) (hR : ∀ a b c, R a b → R b c → R a c) (hd : R w w1) (hS : ∀ vs, putAll vs H a = S vs)
    (h : MoGo P md ops R w S (fun Fs => (∀ vs w', R w w' → (∀ i, (H.any fun q => q.1 == i) = true → factAt Fs i (seen md ops i vs) (vs i) w') → wpList P ops Q (ot0 :: tl2) (S vs) w') ∧ (∀ vs w', R w w' → (∀ i, (H2.any fun q => q.1 == i) = true → factAt Fs i (seen md ops i vs) (vs i) w') → ∃ v w'', factAt Fs jl (seen md ops jl vs) v w' ∧ execOp ((S vs).put (some dl) v).eval ot0 = execOp (S vs).eval ot0 ∧ (∀ w1, (execOp (S vs).eval oj).run P w1 = .ok (.value v) w1) ∧ (execOp (S vs).eval ot0).run P w' = .ok .skip w'')) H []) : wpAny P md ops Q f l0 a w1 := by
  have hB0 := hB
  unfold moBL at hB0
  simp only [Bool.and_eq_true, decide_eq_true_eq] at hB0
  obtain ⟨⟨⟨⟨⟨⟨⟨⟨⟨⟨h0s, hHs⟩, hTs⟩, hcov⟩, hord⟩, h0c⟩, hs⟩, hc⟩, hD⟩, hseq⟩, hseq2, hapart⟩ := hB0
  have hun0 : ∀ q ∈ H, l0.getD q.1 true = false := fun q hq => by
    have := List.all_eq_true.1 hHs q hq
    rw [Bool.and_eq_true] at this
    simpa using this.2
  obtain rfl : S = fun vs => putAll vs H a := funext fun vs => (hS vs).symm
  obtain ⟨G, hG, _, _, hGs⟩ := mo_collect hD (fun q hq => getD_both (hun0 q hq)) H [] [] rfl (fun i _ => rfl) h
  obtain ⟨vs0, hvs0⟩ := putAll_start a H hD
  have hend0 : ∀ vs w', R w w' → (∀ q ∈ H, factAt G q.1 (seen md ops q.1 vs) (vs q.1) w') → wpList P ops Q (ot0 :: tl2) (putAll vs H a) w' := fun vs w' hw hf => hG.1 vs w' hw (fun i hi => by
    obtain ⟨q, hq, he⟩ := List.any_eq_true.1 hi
    have he2 : q.1 = i := by simpa using he
    rw [← he2]; exact hf q hq)
  have key := wpAny_mo_late (P := P) (md := md) (ops := ops) (R := R) (w0 := w) (a0 := a) (Q' := Q) (F := factAt G) hHe hB (tl := ot0 :: tl2) (by rw [List.map_cons, List.map_cons, ht0, htl2]) ht0 (by rw [List.map_cons, List.map_cons, hoj, htl2]) hRr hR
    (fun q hq us v w w' => (hGs q hq).1 us v w w') (fun q hq o ho vs w' hw hd => (hGs q hq).2 o ho vs w' hw hd) hend0
    (late_end hHe hD (fun q hq => of_decide_eq_true (by have := List.all_eq_true.1 hapart.1 q hq; rw [Bool.and_eq_true] at this; exact this.1)) (fun q hq => by have := List.all_eq_true.1 hapart.1 q hq; rw [Bool.and_eq_true] at this; simpa using this.2) (by simpa using hapart.2) hg hdn hgj hdj hend0
      (fun vs w' hw hf => hG.2 vs w' hw (fun i hi => by
        obtain ⟨q, hq, he⟩ := List.any_eq_true.1 hi
        have he2 : q.1 = i := by simpa using he
        rw [← he2]; exact hf q hq)))
    H.length l0 vs0 w1 (left_all hun0) ⟨h0s, fun _ _ => rfl, fun _ h => h, (fun q hq hl => by rw [getD_both (hun0 q hq)] at hl; cases hl), (fun k _ hl o ho e he hb => by
      have hks : k < ops.size := (Array.getElem?_eq_some_iff.1 ho).1
      have h1 := List.all_eq_true.1 h0c k (List.mem_range.2 hks)
      rw [hl, ho] at h1
      simp only [Bool.not_true, Bool.false_or] at h1
      have h2 := Array.all_eq_true'.1 h1 e he
      simpa [hb] using h2)⟩ hd (fun q hq hl => by rw [getD_both (hun0 q hq)] at hl; cases hl)
  rw [hvs0] at key
  rw [hf]; exact key
end
end Go.Proofs.Ytfmhdnhaaohdjaa
