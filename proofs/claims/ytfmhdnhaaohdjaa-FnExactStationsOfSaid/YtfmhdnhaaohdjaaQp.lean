/- The set of stations, the program, and the law's two sides. Condition: the list is read. -/
import Derived.Test.YtfmhdnhaaohdjaaQo
import Derived.Test.YtfmhdnhaaohdjaaQn
import Derived.Maps.Ext
namespace Go.Proofs.Ytfmhdnhaaohdjaa
open Go.RowKit Go.ChangeShapes Go.WideShapes Go.Deep Go.Maps Ieee
set_option linter.unusedVariables false
set_option linter.unusedSimpArgs false

theorem zero_bool (w : World) : (zeroValue 4).run Try.prog w = .ok (.bool false) w := by kernel_rfl
/-- What a map of bools tells: p from lo on. -/
structure TellB (D : DataW Unit) (p : Int → Bool) (lo : Int) : Prop where
  at_ : ∀ s : Int, -9223372036854775808 ≤ s → s ≤ 9223372036854775807 → D.atKey (.int .i64 s) (.lit (.bool false)) = .lit (.bool (p s))
  key : ∀ k, Maps.has D k = true → ∃ s, k = .int .i64 s ∧ lo ≤ s ∧ s ≤ 200 ∧ p s = true
theorem TellB.nil : TellB (.map []) (fun _ => false) 0 := ⟨fun s _ _ => rfl, fun k h => by cases h⟩
theorem ne_key {t s : Int} (h : t ≠ s) : (Lit.int .i64 t) ≠ .int .i64 s := by intro he; injection he with _ he; exact h he
theorem TellB.put {D : DataW Unit} {p : Int → Bool} {s : Int} (h : TellB D p 0) (hm : IsMap D) (h1 : 0 ≤ s) (h2 : s ≤ 200) : TellB (D.put (.int .i64 s) (.lit (.bool true))) (fun t => p t || decide (s = t)) 0 := by
  refine ⟨fun t ht1 ht2 => ?_, fun k hk => ?_⟩
  · by_cases hts : t = s
    · subst hts
      rw [atKey_put_same hm (by trivial), decide_eq_true rfl, Bool.or_true]
    · rw [atKey_put_other (ne_key hts), h.at_ t ht1 ht2, decide_eq_false (fun he => hts he.symm), Bool.or_false]
  · by_cases hks : k = .int .i64 s
    · exact ⟨s, hks, h1, h2, by simp⟩
    · rw [has_put_other hks] at hk
      obtain ⟨s', e, g1, g2, g3⟩ := h.key k hk
      exact ⟨s', e, g1, g2, by rw [g3]; rfl⟩
theorem TellB.del {D : DataW Unit} {p : Int → Bool} {s : Int} (h : TellB D p s) : TellB (D.del (.int .i64 s)) (fun t => p t && decide (s < t)) (s + 1) := by
  have hlow : ∀ t, -9223372036854775808 ≤ t → t ≤ 9223372036854775807 → t < s → p t = false := fun t ht1 ht2 hts => by
    cases hp : p t
    · rfl
    · exfalso
      have h5 := h.at_ t ht1 ht2
      rw [hp] at h5
      cases hh : Maps.has D (.int .i64 t)
      · rw [atKey_of_not_has hh] at h5; cases h5
      · obtain ⟨s', e, g1, _⟩ := h.key _ hh
        injection e with _ e
        omega
  refine ⟨fun t ht1 ht2 => ?_, fun k hk => ?_⟩
  · by_cases hts : t = s
    · subst hts
      rw [atKey_del_same, decide_eq_false (by omega), Bool.and_false]
    · rw [atKey_del_other (ne_key hts), h.at_ t ht1 ht2]
      by_cases hlt : s < t
      · rw [decide_eq_true hlt, Bool.and_true]
      · rw [decide_eq_false hlt, Bool.and_false, hlow t ht1 ht2 (by omega)]
  · by_cases hks : k = .int .i64 s
    · subst hks; rw [has_del_same] at hk; cases hk
    · rw [has_del_other hks] at hk
      obtain ⟨s', e, g1, g2, g3⟩ := h.key k hk
      have hne : s' ≠ s := fun he => hks (by rw [e, he])
      exact ⟨s', e, by omega, g2, by rw [g3, decide_eq_true (by omega)]; rfl⟩
theorem TellB.skip {D : DataW Unit} {p : Int → Bool} {s : Int} (h : TellB D p s) (hp : p s = false) : TellB D p (s + 1) := by
  refine ⟨h.at_, fun k hk => ?_⟩
  obtain ⟨s', e, g1, g2, g3⟩ := h.key k hk
  have hne : s' ≠ s := fun he => by rw [he, hp] at g3; cases g3
  exact ⟨s', e, by omega, g2, g3⟩
theorem TellB.congr {D : DataW Unit} {p q : Int → Bool} {s : Int} (h : TellB D p s) (hpq : ∀ t, p t = q t) : TellB D q s := by
  obtain rfl : p = q := funext hpq
  exact h
/-- An empty map tells nothing; another one tells something. -/
theorem TellB.none {D : DataW Unit} {p : Int → Bool} {s : Int} (h : TellB D p s) (hz : Maps.size D = 0) (hm : IsMap D) : ∀ t, -9223372036854775808 ≤ t → t ≤ 9223372036854775807 → p t = false := by
  intro t ht1 ht2
  obtain ⟨es, rfl⟩ := hm
  rw [size_eq] at hz
  have : es = [] := List.eq_nil_of_length_eq_zero hz
  subst this
  have h5 := h.at_ t ht1 ht2
  rw [atKey_of_not_has rfl] at h5
  simp only [DataW.lit.injEq, Lit.bool.injEq] at h5
  exact h5.symm
theorem TellB.some {D : DataW Unit} {p : Int → Bool} {s : Int} (h : TellB D p s) (hz : 0 < Maps.size D) (hc : Maps.Canon D) : s ≤ 200 := by
  obtain ⟨es, rfl, _, hk⟩ := hc
  rw [size_eq] at hz
  cases es with
  | nil => simp at hz
  | cons e r =>
    have hh : Maps.has (.map (e :: r)) e.1 = true := by
      rw [has_eq, List.any_cons, WideAt.sameKey_self (hk e (by simp))]; rfl
    obtain ⟨s', _, g1, g2, _⟩ := h.key _ hh
    omega
section
variable {ops : Array Oper} {rest : List Oper} {o : Oper} {a : Act} {Q : Exit → Act → World → Prop} {w : World}
theorem plain_bool {P : Program} {e : TypeId} (he : P.underlying e = some .bool) {v : Value} {z : DataW Unit × List MemPlace} (h : plainElem P e v = some z) : ∃ x, v = .bool x ∧ z = (.lit (.bool x), []) := by
  unfold plainElem at h
  rw [he] at h
  cases v <;> simp at h
  exact ⟨_, rfl, h.symm⟩
theorem look_bool (hg : o.guard = none) (m x : Operand) (hop : o.op = Op.lookup 81 m x false) (b n : Nat) (D : DataW Unit) (p : Int → Bool) (lo s : Int)
    (hown : w.ownsMap Try.prog 2 (plainElem Try.prog 4) b n D) (ht : TellB D p lo) (h1 : -9223372036854775808 ≤ s) (h2 : s ≤ 9223372036854775807) (hm : a.eval m = .map (some b)) (hx : a.eval x = .int .i64 s) (v : Bool) (hv : p s = v)
    (hK : wpList Try.prog ops Q rest (a.put o.dst (.bool v)) w) : wpList Try.prog ops Q (o :: rest) a w := by
  subst hv
  refine wpList_plain hg fun K' hK' => ?_
  obtain ⟨v, ps, hrun, hv⟩ := hown.lookup law_i64 Try.underlying81 (zero_bool w) (plainElem_bool Try.underlying4 false) (key_i64 h1 h2)
  obtain ⟨y, rfl, hy⟩ := plain_bool Try.underlying4 hv
  have h5 := congrArg Prod.fst hy
  dsimp only at h5
  rw [ht.at_ s h1 h2] at h5
  simp only [DataW.lit.injEq, Lit.bool.injEq] at h5
  subst h5
  unfold Oper.wp
  simp [execOp, hop, hm, hx, hrun, Result.andThen]
  exact hK' _ _ hK
theorem upd_bool (hg : o.guard = none) (m x v : Operand) (hop : o.op = Op.mapUpdate 81 m x v) (b n : Nat) (D : DataW Unit) (s : Int) (u : Bool)
    (hown : w.ownsMap Try.prog 2 (plainElem Try.prog 4) b n D) (hn : n < 1000000000) (h1 : -9223372036854775808 ≤ s) (h2 : s ≤ 9223372036854775807) (hm : a.eval m = .map (some b)) (hx : a.eval x = .int .i64 s) (hv : a.eval v = .bool u)
    (hK : ∀ w', w'.ownsMap Try.prog 2 (plainElem Try.prog 4) b (n + 1) (D.put (.int .i64 s) (.lit (.bool u))) → w.grownBy w' (some b) → wpList Try.prog ops Q rest (a.put o.dst undef) w') : wpList Try.prog ops Q (o :: rest) a w :=
  wpList_mapUpdate_own w hg m x v 81 hop 2 4 law_i64 Try.underlying81 _ b n D hm hown (by unfold maxLen; omega) _ _ _ hx hv (key_i64 h1 h2) _ [] (plainElem_bool Try.underlying4 u) hK
theorem del_bool (hg : o.guard = none) (m x : Operand) (hop : o.op = Op.call { callee := Callee.builtin Builtin.delete, args := #[m, x], argTypes := #[81, 2] }) (b n : Nat) (D : DataW Unit) (s : Int)
    (hown : w.ownsMap Try.prog 2 (plainElem Try.prog 4) b n D) (h1 : -9223372036854775808 ≤ s) (h2 : s ≤ 9223372036854775807) (hm : a.eval m = .map (some b)) (hx : a.eval x = .int .i64 s)
    (hK : ∀ w', w'.ownsMap Try.prog 2 (plainElem Try.prog 4) b n (D.del (.int .i64 s)) → w.grownBy w' (some b) → wpList Try.prog ops Q rest (a.put o.dst (.tuple #[])) w') : wpList Try.prog ops Q (o :: rest) a w :=
  wpList_delete_own w hg m x 81 2 hop 4 law_i64 Try.underlying81 _ b n D hm hown _ _ hx (key_i64 h1 h2) (fun w' h h' => hK w' h h'.grown)
theorem len_bool (hg : o.guard = none) (m : Operand) (hop : o.op = Op.call { callee := Callee.builtin Builtin.len, args := #[m], argTypes := #[81] }) (b n : Nat) (D : DataW Unit)
    (hown : w.ownsMap Try.prog 2 (plainElem Try.prog 4) b n D) (z : Int) (hz : ((Maps.size D : Nat) : Int) = z) (hm : a.eval m = .map (some b))
    (hK : wpList Try.prog ops Q rest (a.put o.dst (.int .i64 z)) w) : wpList Try.prog ops Q (o :: rest) a w :=
  wpList_len_own w hg m 81 hop 2 4 Try.underlying81 _ b n D hm hown (by rw [hz]; exact hK)
end
/-- Those below k of which p holds. -/
def stP (p : Int → Bool) : Nat → List Int
  | 0 => []
  | k + 1 => if p (k : Int) = true then stP p k ++ [(k : Int)] else stP p k
theorem stP_inc (p : Int → Bool) : ∀ k, Inc (stP p k) ∧ ∀ z, z ∈ stP p k ↔ 0 ≤ z ∧ z < (k : Int) ∧ p z = true
  | 0 => ⟨List.Pairwise.nil, fun z => by simp [stP]; omega⟩
  | k + 1 => by
    obtain ⟨h1, h2⟩ := stP_inc p k
    rw [stP]
    cases hp : p (k : Int)
    · rw [if_neg (by decide)]
      refine ⟨h1, fun z => ?_⟩
      rw [h2]
      constructor
      · rintro ⟨a, b, c⟩; exact ⟨a, by omega, c⟩
      · rintro ⟨a, b, c⟩
        refine ⟨a, ?_, c⟩
        have : z ≠ (k : Int) := fun he => by rw [he, hp] at c; cases c
        omega
    · rw [if_pos rfl]
      refine ⟨h1.snoc (fun z hz => ((h2 z).1 hz).2.1), fun z => ?_⟩
      rw [List.mem_append, h2, List.mem_singleton]
      constructor
      · rintro (⟨a, b, c⟩ | rfl)
        · exact ⟨a, by omega, c⟩
        · exact ⟨by omega, by omega, hp⟩
      · rintro ⟨a, b, c⟩
        by_cases he : z = (k : Int)
        · exact .inr he
        · exact .inl ⟨a, by omega, c⟩
theorem stP_len (p : Int → Bool) : ∀ k, (stP p k).length ≤ k
  | 0 => by simp [stP]
  | k + 1 => by
    have := stP_len p k
    rw [stP]; split
    · simp; omega
    · omega
set_option maxRecDepth 20000 in
set_option maxHeartbeats 4000000 in
theorem c_impl_StationsOf {w : World} {B n c : Nat} {A : Option Addr} {R : List Sct} (h : RdM w B A n R) (hB : B ≤ w.heap.size) (hn : n ≤ 1048576) (hr : ∀ j, j < n → (R.getD j noT).v.length ≤ 1048576) :
    Calls Try.prog 32 #[.slice A n c] w fun e w' => RetI w e w' (areM R) (stM R n) := by
  have cV := c_impl_AreFrames (c := c) h hB hn hr
  cases hV : areM R
  · rw [hV] at cV
    go_enter Try.func32, Try.ntmps32
    go_wp2_with (go_at_call 23; refine Calls.mono cV ?_; rintro e w1 ⟨rfl, hx1⟩)
    go_ret2
    exact retI_no rfl hx1
  rw [hV] at cV
  have hl := h.len
  obtain ⟨hn12, hall⟩ := areM_of hV
  have hall2 : ∀ j, j < n → 0 ≤ (R.getD j noT).x ∧ (R.getD j noT).x ≤ 200 := fun j hj => by
    obtain ⟨h1, h2, h3, h4, _⟩ := fvF_of (hall j (by omega))
    exact ⟨h1, h2⟩
  have HALL := Lib.hid hall2
  have hmm := @run_makeMap Try.prog
  clear hall hall2 hV
  go_enter Try.func32, Try.ntmps32
  go_wp2_with (go_at_call 23; refine Calls.mono cV ?_; rintro e w1 ⟨rfl, hx1⟩)
  go_loopw [15] (fun y wr => ∃ (k : Nat) (D : DataW Unit), k ≤ n ∧ y = .int .i64 k ∧ wr.ownsMap Try.prog 2 (plainElem Try.prog 4) w1.heap.size k D ∧ TellB D (inM R k) 0 ∧ Ext w wr) (fun y _ => n - (intOf y).toNat)
  case atStart => exact ⟨0, .map [], Nat.zero_le _, rfl, World.ownsMap_made _ _ _ _, TellB.nil, (by repeat (first | assumption | exact Ext.refl _ | apply Ext.drewN | apply Ext.drew | apply Ext.alloc | (refine Ext.trans ?_ (by assumption)) | (refine Ext.set ?_ (by dsimp only; omega) _)))⟩
  case round =>
    obtain ⟨k, D, hk, rfl, hmap, htell, hx⟩ := hrel
    have hml := hmap.lt
    by_cases hlt : k < n
    · have hlt' : (k : Int) < (n : Int) := by omega
      obtain ⟨b1, o1, A1, c1, rfl, hb1, ⟨d0, d1, d2⟩, hrd, _⟩ := (h.below (hx.mono hB)).cell hlt
      obtain ⟨i1, i2⟩ := HALL.out k hlt
      have hnx := inM_succ R k
      obtain ⟨X, hXe⟩ : ∃ x, (R.getD k noT).x = x := ⟨_, rfl⟩
      obtain ⟨Z, hZe⟩ : ∃ x, (R.getD k noT).z = x := ⟨_, rfl⟩
      obtain ⟨Lk, hLe⟩ : ∃ x, (R.getD k noT).v.length = x := ⟨_, rfl⟩
      rw [hXe] at d0 i1 i2
      rw [hZe] at d1
      rw [hLe] at d2
      simp only [hXe] at hnx
      obtain ⟨q0, q1, q2⟩ : SbAt (wr.alloc (.cells #[.int .i64 X, .int .i64 Z, .slice A1 Lk c1] 27)) wr.heap.size X Z A1 Lk c1 := SbAt.blk (T := 27) (by repeat (first | (refine al_at ?_ ?_ <;> first | rfl | (simp only [al_size] <;> omega)) | apply al_old))
      have HTE := Lib.hid ((htell.put hmap.isMap i1 i2).congr (fun t => (hnx t).symm))
      have hmap1 := hmap.alloc (.cells #[.int .i64 X, .int .i64 Z, .slice A1 Lk c1] 27)
      clear hrd hXe hZe hLe hnx htell
      go_wp2_with (at_mapUpdate; refine upd_bool rfl _ _ _ rfl w1.heap.size k D X true hmap1 (by omega) (by omega) (by omega) rfl rfl rfl ?_; intro w5 hmap5 hgr5)
      have hx5 : Ext w w5 := Below.grown (Ext.alloc hx _) hgr5 (by have := hx.size; simp; omega) (fun g' hg' => by cases hg'; exact hx1.size)
      exact ⟨⟨k + 1, _, by omega, by go_num, hmap5, HTE.out, hx5⟩, by simp [intOf]; omega⟩
    · obtain rfl : k = n := by omega
      obtain ⟨p, hp⟩ : ∃ p, inM R k = p := ⟨_, rfl⟩
      rw [hp] at htell
      have hrest := (stM_inc R k).2
      rw [hp] at hrest
      have hp0 : ∀ t, p t = true → 0 ≤ t ∧ t ≤ 200 := fun t ht => by
        have h5 := htell.at_ t
        rw [← hp] at ht
        unfold inM at ht
        rw [List.any_eq_true] at ht
        obtain ⟨j, hj, he⟩ := ht
        have := HALL.out j (List.mem_range.1 hj)
        have := of_decide_eq_true he
        omega
      have HP0 := Lib.hid hp0
      have HREST := Lib.hid hrest
      have HINC := Lib.hid (stM_inc R k).1
      clear hrest hp0 hp
      go_wp2_with (fail)
      go_loopw [7, 8] (fun v y wr => ∃ (s : Nat) (D : DataW Unit), s ≤ 201 ∧ y = .int .i64 s ∧ OwA wr (w1.heap.size + 1) v (stP p s) ∧ wr.ownsMap Try.prog 2 (plainElem Try.prog 4) w1.heap.size k D ∧ TellB D (fun t => p t && decide ((s : Int) ≤ t)) (s : Int) ∧ Ext w wr) (fun _ y _ => 201 - (intOf y).toNat)
      case atStart => exact ⟨0, D, by omega, rfl, OwA.nil _ _, hmap, htell.congr (fun t => by
        cases hpt : p t
        · rfl
        · rw [decide_eq_true (by have := HP0.out t hpt; omega)]; rfl), hx⟩
      case round =>
        obtain ⟨s, D, hs, rfl, hown, hmap, htell, hx⟩ := hrel
        have hml := hmap.lt
        have hw1 := hx1.size
        have hsl := stP_len p s
        obtain ⟨q, hq⟩ : ∃ q, (fun t => p t && decide ((s : Int) ≤ t)) = q := ⟨_, rfl⟩
        have hqt : ∀ t, q t = (p t && decide ((s : Int) ≤ t)) := fun t => by rw [← hq]
        rw [hq] at htell
        have hqs : q (s : Int) = p (s : Int) := by rw [hqt, decide_eq_true (by omega), Bool.and_true]
        obtain ⟨z, hze⟩ : ∃ z : Int, ((Maps.size D : Nat) : Int) = z := ⟨_, rfl⟩
        have HQT := Lib.hid hqt
        clear hq hqt
        by_cases hz : 0 < Maps.size D
        · have hs200 := htell.some hz (hmap.canon law_i64)
          have hzp : (0 : Int) < z := by omega
          have hstp : stP p (s + 1) = if p (s : Int) = true then stP p s ++ [(s : Int)] else stP p s := rfl
          cases hps : p (s : Int)
          · rw [hps] at hqs hstp
            rw [if_neg (by decide)] at hstp
            have HST := Lib.hid hstp
            have HTE := Lib.hid ((htell.skip hqs).congr (q := fun t => p t && decide (((s + 1 : Nat) : Int) ≤ t)) (fun t => by
              rw [HQT.out]
              by_cases hts : t = (s : Int)
              · rw [hts, hps]; rfl
              · by_cases h7 : (s : Int) ≤ t
                · rw [decide_eq_true h7, decide_eq_true (by omega)]
                · rw [decide_eq_false h7, decide_eq_false (by omega)]))
            have HT := Lib.hid htell
            have HZ := Lib.hid hze
            clear hstp htell hps hz hze
            go_wp2_with (first | (at_len; refine len_bool rfl _ rfl w1.heap.size k D hmap z HZ.out rfl ?_) | (at_lookup; refine look_bool rfl _ _ rfl w1.heap.size k D q (s : Int) (s : Int) hmap HT.out (by omega) (by omega) rfl rfl false hqs ?_))
            exact ⟨⟨s + 1, D, by omega, by go_num, by rw [HST.out]; exact hown, hmap, HTE.out, hx⟩, by simp [intOf]; omega⟩
          · rw [hps] at hqs hstp
            rw [if_pos rfl] at hstp
            have HST := Lib.hid hstp
            have HTE := Lib.hid (htell.del.congr (q := fun t => p t && decide (((s + 1 : Nat) : Int) ≤ t)) (fun t => by
              rw [HQT.out]
              by_cases h7 : (s : Int) < t
              · rw [decide_eq_true h7, decide_eq_true (by omega), decide_eq_true (by omega)]; simp
              · rw [decide_eq_false h7, decide_eq_false (by omega : ¬ ((s + 1 : Nat) : Int) ≤ t)]; simp))
            have HT := Lib.hid htell
            have HZ := Lib.hid hze
            clear hstp htell hps hz hze
            go_wp2_with (first | (at_len; refine len_bool rfl _ rfl w1.heap.size k D hmap z HZ.out rfl ?_) | (at_lookup; refine look_bool rfl _ _ rfl w1.heap.size k D q (s : Int) (s : Int) hmap HT.out (by omega) (by omega) rfl rfl true hqs ?_) | (at_builtin; refine app_int rfl _ _ rfl (w1.heap.size + 1) _ _ (s : Int) wr rfl hown rfl rfl (by omega) (by omega) ?_; intro v' w4 ho4 hb4 hs4; have hmap4 := ownsMap_below hmap hb4 (by omega)) | (at_delete; refine del_bool rfl _ _ rfl w1.heap.size k D (s : Int) hmap4 (by omega) (by omega) rfl rfl ?_; intro w5 hmap5 hgr5))
            have hx4 : Ext w w4 := Ext.below hx (by omega) hb4
            have hx5 : Ext w w5 := Below.grown hx4 hgr5 hx4.size (fun g' hg' => by cases hg'; exact hw1)
            exact ⟨⟨s + 1, _, by omega, by go_num, by rw [HST.out]; exact ho4.kept hgr5 (by omega), hmap5, HTE.out, hx5⟩, by simp [intOf]; omega⟩
        · have hz0 : Maps.size D = 0 := by omega
          have hnone := htell.none hz0 hmap.isMap
          have hzp : z = 0 := by omega
          have hsame : stP p s = stM R k := inc_ext (stP_inc p s).1 HINC.out (fun t => by
            rw [(stP_inc p s).2, HREST.out]
            constructor
            · exact fun h => h.2.2
            · intro hpt
              have h8 := HP0.out t hpt
              refine ⟨h8.1, ?_, hpt⟩
              have h9 := hnone t (by omega) (by omega)
              rw [HQT.out, hpt, Bool.true_and] at h9
              have := of_decide_eq_false h9
              omega)
          have HS := Lib.hid hsame
          have HZ := Lib.hid hze
          subst hzp
          obtain ⟨A5, c5, rfl, ho5⟩ := hown.owi
          clear hz hz0 hnone hsame htell hze
          go_wp2_with (first | (at_len; refine len_bool rfl _ rfl w1.heap.size k D hmap 0 HZ.out rfl ?_))
          go_ret2
          exact ⟨_, _, _, rfl, by rw [← HS.out]; exact ho5.more (by omega) (Nat.le_refl _), hx⟩
theorem both_StationsOf {n0 : Nat} {R0 : List Sct} (hl0 : R0.length = n0) (hn0 : n0 ≤ 1048576) (hr0 : ∀ j, j < n0 → (R0.getD j noT).v.length ≤ 1048576) (_ht0 : totM R0 ≤ 1048576) (_hok0 : ∀ j, j < n0 → (R0.getD j noT).Ok) :
    ∃ ok Q q, q ≤ 1048576 ∧ (∀ W : World, ∀ (B0 : Nat) (A0 : Option Addr) (c0 : Nat), RdM W B0 A0 n0 R0 → B0 ≤ W.heap.size → Calls Try.prog 31 #[.slice A0 n0 c0] W fun e w' => RetIQ W e w' ok q Q) ∧
      (∀ W : World, ∀ (B0 : Nat) (A0 : Option Addr) (c0 : Nat), RdM W B0 A0 n0 R0 → B0 ≤ W.heap.size → Calls Try.prog 32 #[.slice A0 n0 c0] W fun e w' => RetIQ W e w' ok q Q) := by
  refine ⟨areM R0, outI (areM R0) (stM R0 n0), (outI (areM R0) (stM R0 n0)).length, ?_,
    fun _ _ _ _ h0 hB0 => Calls.mono (c_spec_StationsOf h0 hB0 hn0 hr0) (fun _ _ h => h.q), fun _ _ _ _ h0 hB0 => Calls.mono (c_impl_StationsOf h0 hB0 hn0 hr0) (fun _ _ h => h.q)⟩
  cases hV : areM R0
  · exact Nat.zero_le _
  · have h1 := (areM_of hV).1
    have h2 := stM_len R0 n0
    have h3 : 2 ^ n0 ≤ 4096 := Nat.pow_le_pow_right (n := 2) (by omega) (show n0 ≤ 12 by omega)
    show (stM R0 n0).length ≤ _
    omega
end Go.Proofs.Ytfmhdnhaaohdjaa
