/- Contract: shifts that fit a pilot best, the reference. Condition: the gather and the pilot are read. -/
import Derived.Test.YtceldjkgddbfaabYr
import Derived.Test.YtceldjkgddbfaabYf
namespace Go.Proofs.Ytceldjkgddbfaab
open Go.RowKit Ieee

theorem info_i64 : (Try.prog.info? 2).map (fun i => (i.zero, i.size, i.bytes)) = some (some (.int .i64 0), 1, 8) := by kernel_rfl
theorem one_newI {w : World} {r : Int} : ∀ j u, [Value.int .i64 r][j]? = some u → (w.alloc (.cells #[.int .i64 r] 2)).cell? ((⟨w.heap.size, 0, none⟩ : Addr).add j) = some u := by
  intro j u hj
  match j, hj with
  | 0, hj =>
    simp at hj
    subst hj
    simp [Addr.add]
theorem row_stepI {xs : List Value} {k : Nat} {X : Nat → Int} {x : Int} (hl : xs.length = k) (hx : ∀ j, j < k → xs[j]? = some (.int .i64 (X j))) (h : x = X k) : ∀ j, j < k + 1 → (xs ++ [Value.int .i64 x])[j]? = some (.int .i64 (X j)) := by
  intro j hj
  by_cases hjk : j < k
  · rw [List.getElem?_append_left (by omega)]; exact hx j hjk
  · obtain rfl : j = k := by omega
    rw [List.getElem?_append_right (by omega), hl, Nat.sub_self, h]; rfl
theorem own_owi {w : World} {base n : Nat} {v : Value} {X : Nat → Int} {xs : List Value} (ho : w.ownsRow base 2 1 v n xs) (hx : ∀ j, j < n → xs[j]? = some (.int .i64 (X j))) : ∃ A c, v = .slice A n c ∧ OwI w base w.heap.size A n (lstI X n) := by
  obtain ⟨hlen, hd⟩ := ho
  rcases hd with ⟨hv, rfl⟩ | ⟨g, cap, cur, hv, hb, hg, hnc, _, hcs, htk⟩
  · exact ⟨none, 0, hv, OwI.nil _ _ _ _⟩
  · refine ⟨some ⟨g, 0, none⟩, cap, hv, lstI_len _ _, .inr ⟨g, cur, rfl, hb, blk_lt hg, hg, by omega, fun j hj => ?_⟩⟩
    have h1 := hx j hj
    rw [lstI_at hj]
    rw [← htk, List.getElem?_take_of_lt (by omega)] at h1
    simpa using h1
/-- The products of a pilot and a trace, from the least shift on; the best shift of a trace. -/
def fpro (P L : List (Option Nat)) (T : Nat) (mo : Int) (j : Nat) : Option Nat := fmt P L T ((j : Int) - mo) T
def bsh (P : List (Option Nat)) (R : List (List (Option Nat))) (T : Nat) (mo : Int) (K i : Nat) : Int := (fbest (fpro P (R.getD i []) T mo) K : Int) - mo
theorem fbest_take {F : Nat → Option Nat} {k e : Nat} (he : fbest F k = e) (h : fgt32 (F k) (F e) = true ∨ ((F k).isSome = true ∧ (F e).isNone = true)) : fbest F (k + 1) = k := by
  show (if _ then _ else _) = _
  rw [he]
  rcases h with h | ⟨h, h'⟩
  · rw [h]; rfl
  · rw [h, h', Bool.and_self, Bool.or_true]; rfl
theorem fbest_keep {F : Nat → Option Nat} {k e : Nat} (he : fbest F k = e) (h : fgt32 (F k) (F e) = false) (h' : (F k).isSome = false ∨ (F e).isNone = false) : fbest F (k + 1) = e := by
  show (if _ then _ else _) = _
  rw [he, h]
  rcases h' with h' | h'
  · rw [h']; rfl
  · rw [h', Bool.and_false]; rfl
theorem fbest_one (F : Nat → Option Nat) : fbest F 1 = 0 := by
  show (if _ then _ else _) = _
  split <;> rfl
theorem order_self_eq (b : Nat) : (FloatKind.f32.format.order b b == some .eq) = (fl .f32 b).isSome := order_self .f32 b
def okS (G : Gat) (n : Nat) (mo : Int) : Bool := fvG G && (decide ((n : Int) = G.t) && inB mo 0 64)
set_option maxRecDepth 20000 in
set_option maxHeartbeats 40000000 in
theorem c_sp_ShiftsOf {w : World} {B n m q cp ct cq : Nat} {mo : Int} {Ap At Aq : Option Addr} {P : List (Option Nat)} {G : Gat} (hp0 : RdF w B Ap n G.p) (hr0 : RdS w B At m G.r) (hq0 : RdF w B Aq q P) (hB : B ≤ w.heap.size) (h1 : n ≤ 1048576) (h2 : m ≤ 1048576) (h3 : ∀ j, j < m → (G.r.getD j []).length ≤ 1048576) (hqn : q ≤ 1048576) (hmo0 : -9223372036854775808 ≤ mo) (hmo1 : mo ≤ 9223372036854775807) {T K : Nat} (hT : fvG G = true → G.t = (T : Int)) (hK : inB mo 0 64 = true → (K : Int) = 2 * mo + 1) :
    Calls Try.prog 31 #[.agg #[.int .i64 G.t, .slice Ap n cp, .slice At m ct], .slice Aq q cq, .int .i64 mo] w fun e w' => RetI w e w' (okS G q mo) (lstI (bsh P G.r T mo K) m) := by
  obtain ⟨i0, hi, hz0, hz1, hz2⟩ := info_parts info_i64
  have hbox : GbAt (w.alloc (.cells #[.int .i64 G.t, .slice Ap n cp, .slice At m ct] 47)) w.heap.size G.t Ap n cp At m ct := GbAt.blk (T := 47) (by repeat (first | (refine al_at ?_ ?_ <;> first | rfl | (simp only [al_size] <;> omega)) | apply al_old))
  have hp := hp0.below (Below.mono (w := w) (w' := w.alloc (.cells #[.int .i64 G.t, .slice Ap n cp, .slice At m ct] 47)) (by repeat (first | assumption | exact Ext.refl _ | apply Ext.drewN | apply Ext.drew | apply Ext.alloc | (refine Ext.trans ?_ (by assumption)) | (refine Ext.set ?_ (by dsimp only; omega) _))) hB)
  have hr := hr0.below (Below.mono (w := w) (w' := w.alloc (.cells #[.int .i64 G.t, .slice Ap n cp, .slice At m ct] 47)) (by repeat (first | assumption | exact Ext.refl _ | apply Ext.drewN | apply Ext.drew | apply Ext.alloc | (refine Ext.trans ?_ (by assumption)) | (refine Ext.set ?_ (by dsimp only; omega) _))) hB)
  have hq := hq0.below (Below.mono (w := w) (w' := w.alloc (.cells #[.int .i64 G.t, .slice Ap n cp, .slice At m ct] 47)) (by repeat (first | assumption | exact Ext.refl _ | apply Ext.drewN | apply Ext.drew | apply Ext.alloc | (refine Ext.trans ?_ (by assumption)) | (refine Ext.set ?_ (by dsimp only; omega) _))) hB)
  have cV := c_l04Is hbox hp hr h1 h2 h3
  have hm := hr0.len
  cases hV : fvG G
  · rw [hV] at cV
    go_enter Try.func31, Try.ntmps31
    go_wp2_with (go_at_call 78; refine Calls.mono cV ?_; rintro e w1 ⟨rfl, n1, rfl⟩)
    go_ret2
    exact retI_no (by unfold okS; rw [hV]; rfl) (by repeat (first | assumption | exact Ext.refl _ | apply Ext.drewN | apply Ext.drew | apply Ext.alloc | (refine Ext.trans ?_ (by assumption)) | (refine Ext.set ?_ (by dsimp only; omega) _)))
  rw [hV] at cV
  have hvg := fvG_of hV
  have hTt := hT hV
  have hok : okS G q mo = (decide ((q : Int) = (T : Int)) && inB mo 0 64) := by unfold okS; rw [hV, hTt]; rfl
  rw [hok]
  clear hok
  rw [hTt] at hbox hp hr hq cV ⊢
  by_cases hqT : (q : Int) = (T : Int)
  case neg =>
    have hne : ((q : Int) != (T : Int)) = true := by simp only [bne_iff_ne]; exact hqT
    obtain ⟨p0, p1, p2, _⟩ := hbox
    rw [decide_eq_false hqT, Bool.false_and]
    clear hqT hT hK hTt hvg h3
    go_enter Try.func31, Try.ntmps31
    go_wp2_with (go_at_call 78; refine Calls.mono cV ?_; rintro e w1 ⟨rfl, n1, rfl⟩)
    go_ret2
    exact retI_no rfl (by repeat (first | assumption | exact Ext.refl _ | apply Ext.drewN | apply Ext.drew | apply Ext.alloc | (refine Ext.trans ?_ (by assumption)) | (refine Ext.set ?_ (by dsimp only; omega) _)))
  obtain rfl : q = T := by omega
  rw [decide_eq_true hqT, Bool.true_and]
  have cI := fun W : World => c_l00In mo 0 64 W
  cases hM : inB mo 0 64
  · rw [hM] at cI
    have CI := Lib.hid cI
    obtain ⟨p0, p1, p2, _⟩ := hbox
    clear hqT hT hK hTt hvg h3 cI hM
    go_enter Try.func31, Try.ntmps31
    go_wp2_with (first | (go_at_call 78; refine Calls.mono cV ?_; rintro e w1 ⟨rfl, n1, rfl⟩) | (go_at_call 71; refine Calls.mono (CI.out _) ?_; rintro e w2 ⟨rfl, rfl⟩))
    go_ret2
    exact retI_no rfl (by repeat (first | assumption | exact Ext.refl _ | apply Ext.drewN | apply Ext.drew | apply Ext.alloc | (refine Ext.trans ?_ (by assumption)) | (refine Ext.set ?_ (by dsimp only; omega) _)))
  rw [hM] at cI
  have hKK := hK hM
  obtain ⟨g1, g2⟩ := inB_of hM
  have hTb : q ≤ 64 := by have := hvg.t2; rw [hTt] at this; omega
  have hrow : ∀ j, j < m → (G.r.getD j []).length = q := fun j hj => by have := hvg.row j (by omega); rw [hTt] at this; omega
  have hwn : IntKind.i64.wrap (-mo) = -mo := IntWalk.i64_in _ (by omega)
  have hwn1 : IntKind.i64.wrap (-mo + 1) = -mo + 1 := IntWalk.i64_in _ (by omega)
  have CI := Lib.hid cI
  have HROW := Lib.hid hrow
  have HKK := Lib.hid hKK
  obtain ⟨p0, p1, p2, _⟩ := id hbox
  clear hqT hT hK hTt hvg h3 cI hM hrow hp hp0 hKK hmo0 hmo1
  go_enter Try.func31, Try.ntmps31
  go_wp2_with (first | (go_at_call 78; refine Calls.mono cV ?_; rintro e w1 ⟨rfl, n1, rfl⟩) | (go_at_call 71; refine Calls.mono (CI.out _) ?_; rintro e w2 ⟨rfl, rfl⟩))
  clear p0 p1 p2
  go_loopw [8, 9] (fun v i wr => ∃ (k : Nat) (xs : List Value), k ≤ m ∧ i = .int .i64 k ∧ wr.ownsRow (w.heap.size + 1) 2 1 v k xs ∧ (∀ j, j < k → xs[j]? = some (.int .i64 (bsh P G.r q mo K j))) ∧ Ext (w.alloc (.cells #[.int .i64 (q : Int), .slice Ap n cp, .slice At m ct] 47)) wr) (fun _ i _ => m - (intOf i).toNat)
  case atStart => exact ⟨0, [], Nat.zero_le _, rfl, by have h0 := World.ownsRow_made (base := w.heap.size + 1) (size := 1) (e := 2) ((w.alloc (.cells #[.int .i64 (q : Int), .slice Ap n cp, .slice At m ct] 47)).drewN n1) #[] 0 (by simp) (Nat.zero_le _) rfl; simpa using h0, fun j hj => absurd hj (Nat.not_lt_zero _), (by repeat (first | assumption | exact Ext.refl _ | apply Ext.drewN | apply Ext.drew | apply Ext.alloc | (refine Ext.trans ?_ (by assumption)) | (refine Ext.set ?_ (by dsimp only; omega) _)))⟩
  case round =>
    obtain ⟨k, xs, hk, rfl, hown, hxs, hxx⟩ := hrel
    have hx : Ext w wr := Ext.trans (by repeat (first | assumption | exact Ext.refl _ | apply Ext.drewN | apply Ext.drew | apply Ext.alloc | (refine Ext.trans ?_ (by assumption)) | (refine Ext.set ?_ (by dsimp only; omega) _))) hxx
    obtain ⟨p0, p1, p2, _⟩ := hbox.ext hxx
    have HX := Lib.hid hxs
    clear hxs
    by_cases hlt : k < m
    · have hlt' : (k : Int) < (m : Int) := by omega
      have hrr := hr.below (hxx.mono (Nat.le_trans hB (by simp)))
      have hqq := hq.below (hxx.mono (Nat.le_trans hB (by simp)))
      obtain ⟨b1, o1, A1, c1, rfl, hb1, hc1, hr1, hl1⟩ := hrr.cell hlt
      rw [HROW.out k hlt] at hc1 hr1 hl1
      have cM := fun (z : Nat) (v : Int) (hv0 : -64 ≤ v) (hv1 : v ≤ 64) => c_l04Match (w := wr.drewN z) (c := cq) (c' := c1) (hqq.drewN z) (hr1.drewN z) hTb hv0 hv1
      have cM0 := c_l04Match (w := wr) (c := cq) (c' := c1) hqq hr1 hTb (v := -mo) (by omega) (by omega)
      have hF0 : fmt P (G.r.getD k []) q (-mo) q = fpro P (G.r.getD k []) q mo 0 := by unfold fpro; congr 1; omega
      rw [hF0] at cM0
      obtain ⟨F, hF⟩ : ∃ F, fpro P (G.r.getD k []) q mo = F := ⟨_, rfl⟩
      have hFv : ∀ j : Nat, fmt P (G.r.getD k []) q ((j : Int) - mo) q = F j := fun j => by rw [← hF]; rfl
      rw [hF] at cM0
      have hbs : bsh P G.r q mo K k = (fbest F K : Int) - mo := by unfold bsh; rw [hF]
      have CM := Lib.hid cM
      have CM0 := Lib.hid cM0
      have HF := Lib.hid hFv
      have HBS := Lib.hid hbs
      clear cM cM0 hF hFv hbs hF0 hrr hqq hr1
      go_wp2_with (go_at_call 79; refine Calls.mono CM0.out ?_; rintro e w5 ⟨r5, rfl, hr5, n5, rfl⟩)
      go_loopw [10, 11, 12] (fun b u y wi => ∃ (j e r z : Nat) (yy bb : Int), 1 ≤ j ∧ j ≤ K ∧ yy = (j : Int) - mo ∧ y = .int .i64 yy ∧ fbest F j = e ∧ bb = (e : Int) - mo ∧ b = .int .i64 bb ∧ u = .float .f32 r ∧ Fl .f32 r (F e) ∧ wi = wr.drewN z) (fun _ _ y _ => (mo + 1 - intOf y).toNat)
      case atStart => exact ⟨1, 0, r5, _, -mo + 1, -mo, Nat.le_refl _, by have := HKK.out; omega, by omega, rfl, fbest_one F, by omega, rfl, rfl, hr5, rfl⟩
      case round =>
        obtain ⟨j, e, r, z, yy, bb, hj1, hjK, hyy, rfl, he, hbb, rfl, rfl, hre, rfl⟩ := hrel
        have hKK2 := HKK.out
        by_cases hlj : j < K
        · have hle : yy ≤ mo := by omega
          have hwy : IntKind.i64.wrap (yy + 1) = yy + 1 := IntWalk.i64_in _ (by omega)
          have cMj := CM.out z yy (by omega) (by omega)
          rw [hyy, HF.out j, ← hyy] at cMj
          have CMj := Lib.hid cMj
          have hyn : yy + 1 = ((j + 1 : Nat) : Int) - mo := by omega
          have HYN := Lib.hid hyn
          have HYY := Lib.hid hyy
          have HBB := Lib.hid hbb
          have HE := Lib.hid he
          have hdec : (mo + 1 - (yy + 1)).toNat < (mo + 1 - yy).toNat := by omega
          clear cMj hyy hbb he hyn hKK2 hj1
          cases hS : (F j).isSome
          · have hg : fgt32 (F j) (F e) = false := by
              cases hFj : F j with
              | none => rfl
              | some x => rw [hFj] at hS; cases hS
            have HK1 := Lib.hid (fbest_keep HE.out hg (.inl hS))
            go_wp2_with (go_at_call 79; refine Calls.mono CMj.out ?_; rintro e2 w6 ⟨r6, rfl, hr6, n6, rfl⟩; have o1 := hr6.ogt hre; rw [hg] at o1; have o2 := order_self_eq r6; rw [hr6.eq, hS] at o2)
            exact ⟨⟨j + 1, e, r, _, yy + 1, bb, by omega, by omega, HYN.out, rfl, HK1.out, HBB.out, rfl, rfl, hre, rfl⟩, by simp only [intOf]; exact hdec⟩
          · cases hg : fgt32 (F j) (F e)
            · cases hN : (F e).isNone
              · have HK1 := Lib.hid (fbest_keep HE.out hg (.inr hN))
                have o3 := order_self_ne .f32 r
                rw [hre.eq, hN] at o3
                go_wp2_with (go_at_call 79; refine Calls.mono CMj.out ?_; rintro e2 w6 ⟨r6, rfl, hr6, n6, rfl⟩; have o1 := hr6.ogt hre; rw [hg] at o1; have o2 := order_self_eq r6; rw [hr6.eq, hS] at o2)
                exact ⟨⟨j + 1, e, r, _, yy + 1, bb, by omega, by omega, HYN.out, rfl, HK1.out, HBB.out, rfl, rfl, hre, rfl⟩, by simp only [intOf]; exact hdec⟩
              · have HK1 := Lib.hid (fbest_take HE.out (.inr ⟨hS, hN⟩))
                have o3 := order_self_ne .f32 r
                rw [hre.eq, hN] at o3
                go_wp2_with (go_at_call 79; refine Calls.mono CMj.out ?_; rintro e2 w6 ⟨r6, rfl, hr6, n6, rfl⟩; have o1 := hr6.ogt hre; rw [hg] at o1; have o2 := order_self_eq r6; rw [hr6.eq, hS] at o2)
                exact ⟨⟨j + 1, j, r6, _, yy + 1, yy, by omega, by omega, HYN.out, rfl, HK1.out, HYY.out, rfl, rfl, hr6, rfl⟩, by simp only [intOf]; exact hdec⟩
            · have HK1 := Lib.hid (fbest_take HE.out (.inl hg))
              go_wp2_with (go_at_call 79; refine Calls.mono CMj.out ?_; rintro e2 w6 ⟨r6, rfl, hr6, n6, rfl⟩; have o1 := hr6.ogt hre; rw [hg] at o1)
              exact ⟨⟨j + 1, j, r6, _, yy + 1, yy, by omega, by omega, HYN.out, rfl, HK1.out, HYY.out, rfl, rfl, hr6, rfl⟩, by simp only [intOf]; exact hdec⟩
        · obtain rfl : j = K := by omega
          have hle : ¬ yy ≤ mo := by omega
          have hbx : bb = bsh P G.r q mo j k := by rw [HBS.out, he]; exact hbb
          have HBX := Lib.hid hbx
          clear hbx hbb hyy hKK2 hjK
          go_wp2_with (first | (at_builtin; refine wpList_append_own _ rfl _ _ 44 rfl (w.heap.size + 1) 2 i0 (.int .i64 0) 1 8 Try.underlying44 hi hz0 hz1 hz2 rfl (by decide) _ _ _ rfl (World.ownsRow.alloc (w := wr.drewN _) hown _) ⟨wr.heap.size, 0, none⟩ 1 1 [.int .i64 bb] rfl rfl ?_ ?_ ?_ ?_ ?_ ?_))
          all_goals first
            | exact one_newI (w := wr.drewN _)
            | rfl
            | (intro u hu; simp at hu; subst hu; rfl)
            | (unfold maxLen; omega)
            | omega
            | (have := hxx.size; simp at this ⊢; omega)
            | (intro v' w4 hown' hgrow _
               have hl' : xs.length = k := by have := hown.1; omega
               have hx' := grown_extB rfl (Ext.alloc (Ext.drewN hxx _) _) (World.ownsRow.alloc (w := wr.drewN _) hown _) hgrow
               have HXX := Lib.hid (row_stepI hl' HX.out HBX.out)
               clear hown hgrow hx hxx
               go_wp2_with (fail)
               exact ⟨⟨k + 1, _, by omega, by go_num, hown', HXX.out, hx'⟩, by simp [intOf]; omega⟩)
            | (intro j0 u hj0; have h0 := one_newI (w := wr.drewN z) j0 u hj0; have e0 : (⟨(wr.drewN z).heap.size, 0, none⟩ : Addr).add j0 = ⟨wr.heap.size, j0, none⟩ := (by rw [show (wr.drewN z).heap.size = wr.heap.size from rfl]; simp [Addr.add]; intros; omega); rw [e0] at h0; exact h0)
    · obtain rfl : k = m := by omega
      obtain ⟨A2, c2, rfl, ho2⟩ := own_owi hown HX.out
      go_wp2_with (fail)
      go_ret2
      exact ⟨_, _, _, rfl, ho2.more (Nat.le_succ _) (Nat.le_refl _), hx⟩
end Go.Proofs.Ytceldjkgddbfaab
