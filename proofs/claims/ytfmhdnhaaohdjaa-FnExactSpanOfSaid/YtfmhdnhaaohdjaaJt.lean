/- Contracts: SpanOf of both sides. Condition: the list is read. -/
import Derived.Test.YtfmhdnhaaohdjaaJi
namespace Go.Proofs.Ytfmhdnhaaohdjaa
open Go.RowKit Go.ChangeShapes Go.WideShapes Go.Deep Ieee
set_option linter.unusedVariables false
set_option linter.unusedSimpArgs false

/-- The time behind the last one of the first k frames. -/
def mxM (Q : List Sct) : Nat → Int
  | 0 => 0
  | k + 1 => max (mxM Q k) ((Q.getD k noT).z + (Q.getD k noT).v.length)
theorem ofM_val {R : List Sct} {s : Int} (h : areM R = true) : ∀ j, j < (ofM R s).length → fvF ((ofM R s).getD j noT) = true := by
  intro j hj
  have hm : (ofM R s).getD j noT ∈ ofM R s := by
    rw [List.getD_eq_getElem?_getD, List.getElem?_eq_getElem hj]
    exact List.getElem_mem hj
  have hm2 := (List.mem_filter.1 (show _ ∈ List.filter _ _ from hm)).1
  rw [sortM_mem R _ _ (Nat.le_refl _), List.take_length] at hm2
  unfold areM allM at h
  rw [Bool.and_eq_true, List.all_eq_true] at h
  exact h.1 _ hm2
theorem mxM_rng {Q : List Sct} (hv : ∀ j, j < Q.length → fvF (Q.getD j noT) = true) : ∀ k, k ≤ Q.length → 0 ≤ mxM Q k ∧ mxM Q k ≤ 200000
  | 0, _ => by simp [mxM]
  | k + 1, h => by
    have h1 := mxM_rng hv k (by omega)
    obtain ⟨_, _, h2, h3, h4, h5, _⟩ := fvF_of (hv k (by omega))
    rw [mxM]
    omega
def okSpan (R : List Sct) (s : Int) : Bool := okOf R s && decide (0 < (ofM R s).length)
def spanA (R : List Sct) (s : Int) : Int := if okSpan R s = true then ((ofM R s).getD 0 noT).z else 0
def spanB (R : List Sct) (s : Int) : Int := if okSpan R s = true then mxM (ofM R s) (ofM R s).length else 0
def RetII (w : World) (e : Ending) (w' : World) (R : List Sct) (s : Int) : Prop := e = .returned (.tuple #[.int .i64 (spanA R s), .int .i64 (spanB R s), .bool (okSpan R s)]) ∧ Ext w w'
theorem retII_no {w w' : World} {R : List Sct} {s : Int} (h : okSpan R s = false) (hx : Ext w w') : RetII w (.returned (.tuple #[.int .i64 0, .int .i64 0, .bool false])) w' R s := by
  unfold RetII spanA spanB
  rw [h]; exact ⟨rfl, hx⟩
theorem retII_yes {w w' : World} {R : List Sct} {s a b : Int} (h : okSpan R s = true) (ha : ((ofM R s).getD 0 noT).z = a) (hb : mxM (ofM R s) (ofM R s).length = b) (hx : Ext w w') : RetII w (.returned (.tuple #[.int .i64 a, .int .i64 b, .bool true])) w' R s := by
  unfold RetII spanA spanB
  rw [h, if_pos rfl, if_pos rfl, ha, hb]; exact ⟨rfl, hx⟩
set_option maxRecDepth 20000 in
set_option maxHeartbeats 400000 in
theorem c_l00MaxJ (a b : Int) (w : World) : Calls Try.prog 80 #[.int .i64 a, .int .i64 b] w fun e w' => e = .returned (.int .i64 (max a b)) ∧ w' = w := by
  by_cases h : b < a
  · have h2 : a > b := h
    rw [show max a b = a by omega]
    go_enter Try.func80, Try.ntmps80
    go_wp2_with (fail)
    go_ret
    exact ⟨rfl, rfl⟩
  · have h2 : ¬ a > b := h
    rw [show max a b = b by omega]
    go_enter Try.func80, Try.ntmps80
    go_wp2_with (fail)
    go_ret
    exact ⟨rfl, rfl⟩
set_option maxRecDepth 20000 in
set_option maxHeartbeats 400000 in
theorem c_endOf {w : World} {x z T : Int} {A : Option Addr} {n c : Nat} (hT : z + (n : Int) = T) (h1 : -9223372036854775808 ≤ T) (h2 : T ≤ 9223372036854775807) :
    Calls Try.prog 81 #[.agg #[.int .i64 x, .int .i64 z, .slice A n c]] w fun e w' => e = .returned (.int .i64 T) ∧ Ext w w' := by
  obtain ⟨q0, q1, q2⟩ : SbAt (w.alloc (.cells #[.int .i64 x, .int .i64 z, .slice A n c] 27)) w.heap.size x z A n c := SbAt.blk (T := 27) (by repeat (first | (refine al_at ?_ ?_ <;> first | rfl | (simp only [al_size] <;> omega)) | apply al_old))
  have hw : IntKind.i64.wrap (z + (n : Int)) = T := by rw [hT]; exact IntWalk.i64_in _ (by omega)
  clear hT
  go_enter Try.func81, Try.ntmps81
  go_wp2_with (fail)
  go_ret
  exact ⟨by first | rfl | rw [hw], (by repeat (first | assumption | exact Ext.refl _ | apply Ext.drewN | apply Ext.drew | apply Ext.alloc | (refine Ext.trans ?_ (by assumption)) | (refine Ext.set ?_ (by dsimp only; omega) _)))⟩
set_option maxRecDepth 20000 in
set_option maxHeartbeats 4000000 in
theorem c_impl_SpanOf {w : World} {B n c : Nat} {A : Option Addr} {R : List Sct} {s : Int} (h : RdM w B A n R) (hB : B ≤ w.heap.size) (hn : n ≤ 1048576) (hr : ∀ j, j < n → (R.getD j noT).v.length ≤ 1048576) :
    Calls Try.prog 56 #[.slice A n c, .int .i64 s] w fun e w' => RetII w e w' R s := by
  have cO := c_impl_OfStation (c := c) (s := s) h hB hn hr
  have CO := Lib.hid cO
  clear cO
  cases hok : okOf R s
  · rw [hok] at CO
    have hno : okSpan R s = false := by unfold okSpan; rw [hok]; rfl
    have HNO := Lib.hid hno
    clear hno hok
    go_enter Try.func56, Try.ntmps56
    go_wp2_with (go_at_call 41; refine Calls.mono CO.out ?_; rintro e w2 ⟨A2, c2, rfl, ho2, hx2⟩)
    go_ret3
    exact retII_no HNO.out hx2
  · rw [hok] at CO
    obtain ⟨Q, hQ⟩ : ∃ Q, ofM R s = Q := ⟨_, rfl⟩
    have hval := ofM_val (s := s) (show areM R = true by unfold okOf at hok; rw [Bool.and_eq_true] at hok; exact hok.1)
    rw [hQ] at hval
    rw [show outM true (ofM R s) = Q from hQ] at CO
    obtain ⟨q, hq⟩ : ∃ q, Q.length = q := ⟨_, rfl⟩
    have hrng := mxM_rng hval
    have hqn : q ≤ 1048576 := by
      have := ofM_len R s
      rw [hQ, hq, h.len] at this
      omega
    rw [hq] at CO hval hrng
    rcases Nat.eq_zero_or_pos q with rfl | hpos
    · have hno : okSpan R s = false := by unfold okSpan; rw [hok, hQ, hq]; rfl
      have HNO := Lib.hid hno
      clear hno hok
      go_enter Try.func56, Try.ntmps56
      go_wp2_with (go_at_call 41; refine Calls.mono CO.out ?_; rintro e w2 ⟨A2, c2, rfl, ho2, hx2⟩)
      go_ret3
      exact retII_no HNO.out hx2
    · have hyes : okSpan R s = true := by unfold okSpan; rw [hok, hQ, hq, decide_eq_true hpos]; rfl
      have HYES := Lib.hid hyes
      have HQ := Lib.hid hQ
      have HQL := Lib.hid hq
      have hq0 : ¬ ((q : Int) = 0) := by omega
      have hq1 : ¬ (q = 0) := by omega
      clear hyes hok hQ hq
      go_enter Try.func56, Try.ntmps56
      go_wp2_with (go_at_call 41; refine Calls.mono CO.out ?_; rintro e w2 ⟨A2, c2, rfl, ho2, hx2⟩)
      have hrd := ho2.rd
      obtain ⟨wa, hwa⟩ : ∃ x, x = w2 := ⟨_, rfl⟩
      subst hwa
      clear ho2
      obtain ⟨b0, o0, A0, c0, rfl, hb0, ⟨g0, g1, g2⟩, _, _⟩ := hrd.cell hpos
      try rw [show ((q : Int) == 0) = false from beq_false_of_ne (fun h => hq0 h)]
      go_loopw [9, 27] (fun y i wr => ∃ (k : Nat) (E : Int), k ≤ q ∧ i = .int .i64 k ∧ y = .int .i64 E ∧ mxM Q k = E ∧ Ext wa wr) (fun _ i _ => q - (intOf i).toNat)
      case atStart => exact ⟨0, 0, Nat.zero_le _, rfl, rfl, rfl, Ext.refl _⟩
      case round =>
        obtain ⟨k, E, hk, rfl, rfl, hE, hx⟩ := hrel
        by_cases hlt : k < q
        · have hlt' : (k : Int) < (q : Int) := by omega
          obtain ⟨b1, o1, A1, c1, hA1, hb1, ⟨d0, d1, d2⟩, _, _⟩ := (hrd.below hx).cell hlt
          simp only [Option.some.injEq, Addr.mk.injEq, and_true] at hA1
          obtain ⟨rfl, rfl⟩ := hA1
          have hstep : mxM Q (k + 1) = max E ((Q.getD k noT).z + (Q.getD k noT).v.length) := by rw [mxM, hE]
          obtain ⟨_, _, v1, v2, v3, v4, _⟩ := fvF_of (hval k hlt)
          obtain ⟨S, hS⟩ : ∃ S, Q.getD k noT = S := ⟨_, rfl⟩
          rw [hS] at d0 d1 d2 hstep v1 v2 v3 v4
          obtain ⟨T, hT⟩ : ∃ T, S.z + (S.v.length : Int) = T := ⟨_, rfl⟩
          rw [hT] at hstep
          have cE := fun (W : World) => c_endOf (w := W) (x := S.x) (z := S.z) (A := A1) (n := S.v.length) (c := c1) hT (by omega) (by omega)
          obtain ⟨q0, q1, q2⟩ : SbAt (wr.alloc (.cells #[.int .i64 S.x, .int .i64 S.z, .slice A1 S.v.length c1] 27)) wr.heap.size S.x S.z A1 S.v.length c1 := SbAt.blk (T := 27) (by repeat (first | (refine al_at ?_ ?_ <;> first | rfl | (simp only [al_size] <;> omega)) | apply al_old))
          have CE := Lib.hid cE
          have HS := Lib.hid hS
          clear cE hT hE hS v1 v2 v3 v4
          rcases Int.lt_trichotomy E T with hl | hl | hl
          · rw [show max E T = T by omega] at hstep
            have hl2 : E ≤ T := by omega
            have HST := Lib.hid hstep
            clear hstep
            go_wp2_with (go_at_call 81; refine Calls.mono (CE.out _) ?_; rintro e w3 ⟨rfl, hx3⟩)
            exact ⟨⟨k + 1, _, by omega, by go_num, rfl, HST.out, (by repeat (first | assumption | exact Ext.refl _ | apply Ext.drewN | apply Ext.drew | apply Ext.alloc | (refine Ext.trans ?_ (by assumption)) | (refine Ext.set ?_ (by dsimp only; omega) _)))⟩, by simp [intOf]; omega⟩
          · subst hl
            rw [show max E E = E by omega] at hstep
            have HST := Lib.hid hstep
            clear hstep
            go_wp2_with (go_at_call 81; refine Calls.mono (CE.out _) ?_; rintro e w3 ⟨rfl, hx3⟩)
            exact ⟨⟨k + 1, _, by omega, by go_num, rfl, HST.out, (by repeat (first | assumption | exact Ext.refl _ | apply Ext.drewN | apply Ext.drew | apply Ext.alloc | (refine Ext.trans ?_ (by assumption)) | (refine Ext.set ?_ (by dsimp only; omega) _)))⟩, by simp [intOf]; omega⟩
          · rw [show max E T = E by omega] at hstep
            have hl2 : ¬ E < T := by omega
            have hl3 : ¬ E ≤ T := by omega
            have HST := Lib.hid hstep
            clear hstep
            go_wp2_with (go_at_call 81; refine Calls.mono (CE.out _) ?_; rintro e w3 ⟨rfl, hx3⟩)
            exact ⟨⟨k + 1, _, by omega, by go_num, rfl, HST.out, (by repeat (first | assumption | exact Ext.refl _ | apply Ext.drewN | apply Ext.drew | apply Ext.alloc | (refine Ext.trans ?_ (by assumption)) | (refine Ext.set ?_ (by dsimp only; omega) _)))⟩, by simp [intOf]; omega⟩
        · obtain rfl : k = q := by omega
          have g1' := (hx.cell hb0).trans g1
          rw [Nat.zero_mul] at g1'
          have HE := Lib.hid hE
          clear hE
          have hk0 : (0 : Int) < (k : Int) := by omega
          go_wp2_with (fail)
          go_ret3
          refine retII_yes HYES.out ?_ ?_ (hx2.trans hx)
          · rw [HQ.out]; first | rfl | simp
          · rw [HQ.out, HQL.out]; exact HE.out
set_option maxRecDepth 20000 in
set_option maxHeartbeats 4000000 in
theorem c_spec_SpanOf {w : World} {B n c : Nat} {A : Option Addr} {R : List Sct} {s : Int} (h : RdM w B A n R) (hB : B ≤ w.heap.size) (hn : n ≤ 1048576) (hr : ∀ j, j < n → (R.getD j noT).v.length ≤ 1048576) :
    Calls Try.prog 55 #[.slice A n c, .int .i64 s] w fun e w' => RetII w e w' R s := by
  have hlen := h.len
  have CA := Lib.hid (c_l07Station (c := c) (s := s) h hn hr)
  cases hok : okOf R s
  · rw [hok] at CA
    have hno : okSpan R s = false := by unfold okSpan; rw [hok]; rfl
    have HNO := Lib.hid hno
    clear hno hok
    go_enter Try.func55, Try.ntmps55
    go_wp2_with (go_at_call 76; refine Calls.mono CA.out ?_; rintro e w1 ⟨rfl, n1, rfl⟩)
    go_ret3
    exact retII_no HNO.out (by repeat (first | assumption | exact Ext.refl _ | apply Ext.drewN | apply Ext.drew | apply Ext.alloc | (refine Ext.trans ?_ (by assumption)) | (refine Ext.set ?_ (by dsimp only; omega) _)))
  · have hok2 := hok
    unfold okOf at hok2
    rw [Bool.and_eq_true] at hok2
    obtain ⟨hn12, hval0⟩ := areM_of hok2.1
    rw [hlen] at hn12 hval0
    have hv2 : ∀ j, j < n → 1 ≤ (R.getD j noT).v.length ∧ (R.getD j noT).v.length ≤ 128 := fun j hj => by
      obtain ⟨_, _, _, _, h1, h2, _⟩ := fvF_of (hval0 j hj)
      exact ⟨h1, h2⟩
    have cO := fun (m : Nat) => c_l07Of (c := c) (s := s) (h.drewN m) hB hn12 hv2
    obtain ⟨Q, hQ⟩ : ∃ Q, ofM R s = Q := ⟨_, rfl⟩
    have hval := ofM_val (s := s) hok2.1
    rw [hQ] at hval
    rw [show keepM (sortM R n) s = Q by rw [← hlen]; exact hQ] at cO
    obtain ⟨q, hq⟩ : ∃ q, Q.length = q := ⟨_, rfl⟩
    have hrng := mxM_rng hval
    have hqn : q ≤ 1048576 := by
      have := ofM_len R s
      rw [hQ, hq, h.len] at this
      omega
    rw [hq] at cO hval hrng
    have CO := Lib.hid cO
    rw [hok] at CA
    clear cO hok2 hv2 hval0
    rcases Nat.eq_zero_or_pos q with rfl | hpos
    · have hno : okSpan R s = false := by unfold okSpan; rw [hok, hQ, hq]; rfl
      have HNO := Lib.hid hno
      clear hno hok
      go_enter Try.func55, Try.ntmps55
      go_wp2_with (first | (go_at_call 76; refine Calls.mono CA.out ?_; rintro e w1 ⟨rfl, n1, rfl⟩) | (go_at_call 77; refine Calls.mono (CO.out _) ?_; rintro e w2 ⟨A2, c2, rfl, ho2, hx2⟩))
      go_ret3
      exact retII_no HNO.out (by repeat (first | assumption | exact Ext.refl _ | apply Ext.drewN | apply Ext.drew | apply Ext.alloc | (refine Ext.trans ?_ (by assumption)) | (refine Ext.set ?_ (by dsimp only; omega) _)))
    · have hyes : okSpan R s = true := by unfold okSpan; rw [hok, hQ, hq, decide_eq_true hpos]; rfl
      have HYES := Lib.hid hyes
      have HQ := Lib.hid hQ
      have HQL := Lib.hid hq
      have hq0 : ¬ ((q : Int) = 0) := by omega
      have hq1 : ¬ (q = 0) := by omega
      clear hyes hok hQ hq
      go_enter Try.func55, Try.ntmps55
      go_wp2_with (first | (go_at_call 76; refine Calls.mono CA.out ?_; rintro e w1 ⟨rfl, n1, rfl⟩) | (go_at_call 77; refine Calls.mono (CO.out _) ?_; rintro e w2 ⟨A2, c2, rfl, ho2, hx2⟩))
      have hxx : Ext w w2 := (by repeat (first | assumption | exact Ext.refl _ | apply Ext.drewN | apply Ext.drew | apply Ext.alloc | (refine Ext.trans ?_ (by assumption)) | (refine Ext.set ?_ (by dsimp only; omega) _)))
      have hrd := ho2.rd
      obtain ⟨wa, hwa⟩ : ∃ x, x = w2 := ⟨_, rfl⟩
      subst hwa
      clear ho2
      obtain ⟨b0, o0, A0, c0, rfl, hb0, ⟨g0, g1, g2⟩, _, _⟩ := hrd.cell hpos
      try rw [show ((q : Int) == 0) = false from beq_false_of_ne (fun h => hq0 h)]
      go_loopw [8, 22] (fun y i wr => ∃ (k : Nat) (E : Int), k ≤ q ∧ i = .int .i64 k ∧ y = .int .i64 E ∧ mxM Q k = E ∧ Ext wa wr) (fun _ i _ => q - (intOf i).toNat)
      case atStart => exact ⟨0, 0, Nat.zero_le _, rfl, rfl, rfl, Ext.refl _⟩
      case round =>
        obtain ⟨k, E, hk, rfl, rfl, hE, hx⟩ := hrel
        by_cases hlt : k < q
        · have hlt' : (k : Int) < (q : Int) := by omega
          obtain ⟨b1, o1, A1, c1, hA1, hb1, ⟨d0, d1, d2⟩, _, _⟩ := (hrd.below hx).cell hlt
          simp only [Option.some.injEq, Addr.mk.injEq, and_true] at hA1
          obtain ⟨rfl, rfl⟩ := hA1
          have hstep : mxM Q (k + 1) = max E ((Q.getD k noT).z + (Q.getD k noT).v.length) := by rw [mxM, hE]
          obtain ⟨_, _, v1, v2, v3, v4, _⟩ := fvF_of (hval k hlt)
          obtain ⟨S, hS⟩ : ∃ S, Q.getD k noT = S := ⟨_, rfl⟩
          rw [hS] at d0 d1 d2 hstep v1 v2 v3 v4
          obtain ⟨T, hT⟩ : ∃ T, S.z + (S.v.length : Int) = T := ⟨_, rfl⟩
          rw [hT] at hstep
          have hwz : IntKind.i64.wrap (S.z + (S.v.length : Int)) = T := by rw [hT]; exact IntWalk.i64_in _ (by omega)
          have hbw : b0 < wr.heap.size := Nat.lt_of_lt_of_le hb0 hx.size
          have HST := Lib.hid hstep
          have HX := Lib.hid hx
          clear hT hE hS v1 v2 v3 v4 hstep
          go_wp2_with (fail)
          refine wp_region_any (by kernel_rfl) ?_
          refine wpAny_mo_go (md := .any) (R := Ext) (w := wr) [(0, 25), (1, 26), (2, 27), (3, 28), (4, 29), (5, 30), (6, 31), (7, 32), (8, 33), (9, 34), (10, 35), (11, 36), (12, 37), (13, 38)] [14] (tl := [_]) (S := ?S1_) (by kernel_rfl) (by rfl) (by rfl) Ext.refl ext_tr (ext_drew1 _) ?hS1_ ?go1_
          case hS1_ => intro vs; simp only [putAll, Act.put, List.setIfInBounds_toArray, List.set_cons_zero, List.set_cons_succ]; rfl
          case go1_ =>
          refine mo_fix _ (by rfl) (by rfl) (by intro vs w1 hx_ hd; have r0 := (hx_.cell hbw).trans d0; have r1 := (hx_.cell hbw).trans d1; have r2 := (hx_.cell hbw).trans d2; go_simp; first | done | rfl) ?_
          refine mo_fix _ (by rfl) (by rfl) (by intro vs w1 hx_ hd; have r0 := (hx_.cell hbw).trans d0; have r1 := (hx_.cell hbw).trans d1; have r2 := (hx_.cell hbw).trans d2; go_simp; first | done | rfl) ?_
          refine mo_fix _ (by rfl) (by rfl) (by intro vs w1 hx_ hd; have r0 := (hx_.cell hbw).trans d0; have r1 := (hx_.cell hbw).trans d1; have r2 := (hx_.cell hbw).trans d2; go_simp; first | done | rfl) ?_
          refine mo_fix _ (by rfl) (by rfl) (by intro vs w1 hx_ hd; have r0 := (hx_.cell hbw).trans d0; have r1 := (hx_.cell hbw).trans d1; have r2 := (hx_.cell hbw).trans d2; have e1 := hd 1 (by kernel_rfl); have e2 := hd 2 (by kernel_rfl); simp (decide := true) only [factAt, if_true, if_false] at e1 e2; simp only [e1, e2]; go_simp; first | done | rfl) ?_
          refine mo_fix _ (by rfl) (by rfl) (by intro vs w1 hx_ hd; have r0 := (hx_.cell hbw).trans d0; have r1 := (hx_.cell hbw).trans d1; have r2 := (hx_.cell hbw).trans d2; have e3 := hd 3 (by kernel_rfl); simp (decide := true) only [factAt, if_true, if_false] at e3; simp only [e3]; go_simp; first | done | rfl) ?_
          refine mo_fix _ (by rfl) (by rfl) (by intro vs w1 hx_ hd; have r0 := (hx_.cell hbw).trans d0; have r1 := (hx_.cell hbw).trans d1; have r2 := (hx_.cell hbw).trans d2; have e4 := hd 4 (by kernel_rfl); simp (decide := true) only [factAt, if_true, if_false] at e4; simp only [e4]; go_simp; first | done | rfl) ?_
          refine mo_fix _ (by rfl) (by rfl) (by intro vs w1 hx_ hd; have r0 := (hx_.cell hbw).trans d0; have r1 := (hx_.cell hbw).trans d1; have r2 := (hx_.cell hbw).trans d2; go_simp; first | done | rfl) ?_
          refine mo_fix _ (by rfl) (by rfl) (by intro vs w1 hx_ hd; have r0 := (hx_.cell hbw).trans d0; have r1 := (hx_.cell hbw).trans d1; have r2 := (hx_.cell hbw).trans d2; go_simp; first | done | rfl) ?_
          refine mo_fix _ (by rfl) (by rfl) (by intro vs w1 hx_ hd; have r0 := (hx_.cell hbw).trans d0; have r1 := (hx_.cell hbw).trans d1; have r2 := (hx_.cell hbw).trans d2; have e6 := hd 6 (by kernel_rfl); have e7 := hd 7 (by kernel_rfl); simp (decide := true) only [factAt, if_true, if_false] at e6 e7; simp only [e6, e7]; go_simp; first | done | rfl) ?_
          refine mo_fix _ (by rfl) (by rfl) (by intro vs w1 hx_ hd; have r0 := (hx_.cell hbw).trans d0; have r1 := (hx_.cell hbw).trans d1; have r2 := (hx_.cell hbw).trans d2; have e8 := hd 8 (by kernel_rfl); simp (decide := true) only [factAt, if_true, if_false] at e8; simp only [e8]; go_simp; first | done | rfl) ?_
          refine mo_fix _ (by rfl) (by rfl) (by intro vs w1 hx_ hd; have r0 := (hx_.cell hbw).trans d0; have r1 := (hx_.cell hbw).trans d1; have r2 := (hx_.cell hbw).trans d2; have e9 := hd 9 (by kernel_rfl); simp (decide := true) only [factAt, if_true, if_false] at e9; simp only [e9]; go_simp; first | done | rfl) ?_
          refine mo_fix _ (by rfl) (by rfl) (by intro vs w1 hx_ hd; have r0 := (hx_.cell hbw).trans d0; have r1 := (hx_.cell hbw).trans d1; have r2 := (hx_.cell hbw).trans d2; have e10 := hd 10 (by kernel_rfl); simp (decide := true) only [factAt, if_true, if_false] at e10; simp only [e10]; go_simp; first | done | rfl) ?_
          refine mo_fix _ (by rfl) (by rfl) (by intro vs w1 hx_ hd; have r0 := (hx_.cell hbw).trans d0; have r1 := (hx_.cell hbw).trans d1; have r2 := (hx_.cell hbw).trans d2; have e5 := hd 5 (by kernel_rfl); have e11 := hd 11 (by kernel_rfl); simp (decide := true) only [factAt, if_true, if_false] at e5 e11; simp only [e5, e11]; go_simp; first | done | rfl) ?_
          refine mo_call (fun v w => v = .int .i64 (max E T)) (by rfl) (by rfl) (by intro v wa wb h1 h2; exact h1) (by intro vs w9 hx_ hd; have e0 := hd 0 (by kernel_rfl); have e12 := hd 12 (by kernel_rfl); simp (decide := true) only [factAt, if_true, if_false] at e0 e12; simp only [e0, e12]; refine ⟨_, _, by go_simp; first | done | rfl | exact ⟨rfl, rfl⟩, ?_⟩; refine Calls.mono (c_l00MaxJ E T w9) ?_; rintro e w4 ⟨rfl, rfl⟩; exact ⟨_, rfl, rfl, Ext.refl _⟩) ?_
          refine mo_end ?_
          intro vs w3 hx3 hd
          have e13 := hd 13 (by kernel_rfl)
          simp (decide := true) only [factAt, if_true, if_false] at e13
          generalize vs 13 = v13 at e13 ⊢
          subst e13
          clear hd
          go_wp2_with (fail)
          exact ⟨⟨k + 1, _, by omega, by go_num, rfl, HST.out, HX.out.trans hx3⟩, by simp [intOf]; omega⟩
        · obtain rfl : k = q := by omega
          have g1' := (hx.cell hb0).trans g1
          rw [Nat.zero_mul] at g1'
          have HE := Lib.hid hE
          clear hE
          have hk0 : (0 : Int) < (k : Int) := by omega
          go_wp2_with (fail)
          go_ret3
          refine retII_yes HYES.out ?_ ?_ (hxx.trans hx)
          · rw [HQ.out]; first | rfl | simp
          · rw [HQ.out, HQL.out]; exact HE.out
theorem both_SpanOf {n0 : Nat} {R0 : List Sct} (hl0 : R0.length = n0) (hn0 : n0 ≤ 1048576) (hr0 : ∀ j, j < n0 → (R0.getD j noT).v.length ≤ 1048576) (ht0 : totM R0 ≤ 1048576) (_hok0 : ∀ j, j < n0 → (R0.getD j noT).Ok) {i1 : Int} (_h1 : -9223372036854775808 ≤ i1) (_k1 : i1 ≤ 9223372036854775807) :
    ∃ (ok : Bool) (ia ib : Int), (∀ W : World, ∀ (B0 : Nat) (A0 : Option Addr) (c0 : Nat), RdM W B0 A0 n0 R0 → B0 ≤ W.heap.size → Calls Try.prog 55 #[.slice A0 n0 c0, .int .i64 i1] W fun e w' => e = .returned (.tuple #[.int .i64 ia, .int .i64 ib, .bool ok]) ∧ Ext W w') ∧
      (∀ W : World, ∀ (B0 : Nat) (A0 : Option Addr) (c0 : Nat), RdM W B0 A0 n0 R0 → B0 ≤ W.heap.size → Calls Try.prog 56 #[.slice A0 n0 c0, .int .i64 i1] W fun e w' => e = .returned (.tuple #[.int .i64 ia, .int .i64 ib, .bool ok]) ∧ Ext W w') :=
  ⟨okSpan R0 i1, spanA R0 i1, spanB R0 i1, fun _ _ _ _ h0 hB0 => c_spec_SpanOf h0 hB0 hn0 hr0, fun _ _ _ _ h0 hB0 => c_impl_SpanOf h0 hB0 hn0 hr0⟩
end Go.Proofs.Ytfmhdnhaaohdjaa
