/- Contracts: mean speeds of a ground, on both sides. Condition: the ground is read. -/
import Derived.Test.YtkoiimjpalhgbaaDl
import Derived.Deep.RegionLaw
namespace Go.Proofs.Ytkoiimjpalhgbaa
open Go.RowKit Ieee

/-- append to a list of the call's own, as a step of a region that draws its order. -/
theorem step_append_own {P : Program} {ops : Array Oper} {o : Oper} {a : Act} {w : World} {K : Act → World → Prop} {Q : Exit → Act → World → Prop} {E : Prop}
    (hg : o.guard = none) (s x : Operand) (t : TypeId) (hop : o.op = Op.call { callee := Callee.builtin Builtin.append, args := #[s, x], argTypes := #[t, t] })
    (e : TypeId) (i : TypeInfo) (z : Value) (size bytes : Nat) (h1 : P.underlying t = some (.slice e)) (h2 : P.info? e = some i) (h3 : i.zero = some z) (h4 : i.size = size) (h5 : i.bytes = bytes) (h6 : z.cells.size = size) (h7 : 0 < size)
    (base : Nat) (v : Value) (n : Nat) (olds : List Value) (hs : a.eval s = v) (hown : w.ownsRow base e size v n olds)
    (ad : Addr) (m c : Nat) (news : List Value) (hx : a.eval x = .slice (some ad) m c) (hn : news.length = m * size) (hc : ∀ j u, news[j]? = some u → w.cell? (ad.add j) = some u) (h1c : ∀ u ∈ news, u.oneCell' = true)
    (b1 : n + m ≤ maxLen) (b2 : (n + m) * bytes ≤ 140737488355328) (hb : base ≤ w.heap.size)
    (hK : ∀ v' w', w'.ownsRow base e size v' (n + m) (olds ++ news) → w.grownBy w' v.ownBlock → K (a.put o.dst v') w') :
    if Region.wanted o (yielded ops a.tmps) = true then Oper.wp P o a w K Q else E := by
  have hw : Region.wanted o (yielded ops a.tmps) = true := by simp [Region.wanted, hg]
  rw [if_pos hw]
  obtain ⟨v', w', hrun, r1, r2, _⟩ := run_append_own (P := P) w base t o.type e i z size bytes h1 h2 h3 h4 h5 h6 h7 v n olds hown ad m c news hn hc h1c b1 b2 hb
  unfold Oper.wp
  simp [execOp, hop, resolve, invoke, builtin, hs, hx, hrun, Result.andThen]
  exact hK v' w' r1 r2
/-- The same for one float in a row that was built for it. -/
theorem step_append_float {P : Program} {ops : Array Oper} {o : Oper} {a : Act} {w : World} {K : Act → World → Prop} {Q : Exit → Act → World → Prop} {E : Prop}
    (hg : o.guard = none) (s x : Operand) (t : TypeId) (hop : o.op = Op.call { callee := Callee.builtin Builtin.append, args := #[s, x], argTypes := #[t, t] })
    (e : TypeId) (i : TypeInfo) (z : Value) (bytes : Nat) (h1 : P.underlying t = some (.slice e)) (h2 : P.info? e = some i) (h3 : i.zero = some z) (h4 : i.size = 1) (h5 : i.bytes = bytes) (h6 : z.cells.size = 1)
    (base : Nat) (v : Value) (n : Nat) (olds : List Value) (hs : a.eval s = v) (W0 : World) (r : Nat) (hw : w = W0.alloc (.cells #[.float .f32 r] e)) (hx : a.eval x = .slice (some ⟨W0.heap.size, 0, none⟩) 1 1)
    (hown : W0.ownsRow base e 1 v n olds) (b1 : n + 1 ≤ maxLen) (b2 : (n + 1) * bytes ≤ 140737488355328) (hb : base ≤ W0.heap.size)
    (hK : ∀ v' w', w'.ownsRow base e 1 v' (n + 1) (olds ++ [.float .f32 r]) → w.grownBy w' v.ownBlock → K (a.put o.dst v') w') :
    if Region.wanted o (yielded ops a.tmps) = true then Oper.wp P o a w K Q else E := by
  subst hw
  refine step_append_own hg s x t hop e i z 1 bytes h1 h2 h3 h4 h5 h6 (by decide) base v n olds hs (hown.alloc _) ⟨W0.heap.size, 0, none⟩ 1 1 [.float .f32 r] hx rfl ?_ (by intro u hu; simp at hu; subst hu; rfl) b1 b2 (by simp; omega) hK
  intro j u hj
  match j, hj with
  | 0, hj =>
    simp at hj
    subst hj
    simp [Addr.add]
/-- A float operation as a rule of the walk: its result and its draws by the world. -/
theorem fop_rule {P : Program} {op : BinOp} (hop : isArith op = true) {x y : Nat} {X Y : Option Nat} (hx : Fl .f32 x X) (hy : Fl .f32 y Y) (t : TypeId) :
    ∃ (R : World → Nat) (N : World → Nat), (∀ w, (binOp op t (.float .f32 x) (.float .f32 y)).run P w = .ok (.float .f32 (R w)) (w.drewN (N w))) ∧ ∀ w, Fl .f32 (R w) (fop op .f32 X Y) := by
  have h := fun w : World => run_fop (P := P) w op hop t .f32 x y
  refine ⟨fun w => (h w).choose, fun w => (h w).choose_spec.choose, fun w => (h w).choose_spec.choose_spec.1, fun w => ?_⟩
  obtain ⟨_, h2, h3⟩ := (h w).choose_spec.choose_spec
  exact ⟨h2.trans (by rw [hx.eq, hy.eq]), h3⟩
def fmean (L : List Ly) (j : Nat) : Option Nat := fop .quo .f32 (fdep L j) (ftim L j)
def okM (L : List Ly) (S D : Option Nat) : Bool := fvalid L S D && ((finL (lst (fdep L) L.length) && finL (lst (ftim L) L.length)) && finL (lst (fmean L) L.length))
theorem row_step {F : Nat → Option Nat} {k r : Nat} {xs : List Value} (hl : xs.length = k) (h : ∀ j, j < k → ∃ r, xs[j]? = some (.float .f32 r) ∧ Fl .f32 r (F j)) (hr : Fl .f32 r (F k)) :
    ∀ j, j < k + 1 → ∃ r', (xs ++ [Value.float .f32 r])[j]? = some (.float .f32 r') ∧ Fl .f32 r' (F j) := by
  intro j hj
  by_cases hjk : j = k
  · subst hjk
    exact ⟨r, by rw [List.getElem?_append_right (by omega), hl]; simp, hr⟩
  · obtain ⟨r', h1, h2⟩ := h j (by omega)
    exact ⟨r', by rw [List.getElem?_append_left (by omega)]; exact h1, h2⟩
theorem fin_step {F : Nat → Option Nat} {k : Nat} (h : ∀ j, j < k → ffin .f32 (F j) = true) (h1 : ffin .f32 (F k) = true) : ∀ j, j < k + 1 → ffin .f32 (F j) = true := by
  intro j hj
  by_cases hjk : j = k
  · subst hjk; exact h1
  · exact h j (by omega)
theorem OwF.more {w : World} {base base' n : Nat} {v : Value} {F : Nat → Option Nat} (h : OwF w base v n F) (hb : base' ≤ base) : OwF w base' v n F := by
  obtain ⟨xs, ho, hr⟩ := h.own
  refine ⟨xs, ⟨ho.1, ?_⟩, hr⟩
  rcases ho.2 with hn | ⟨g, cap, cur, hv, hb', hg, hrest⟩
  · exact .inl hn
  · exact .inr ⟨g, cap, cur, hv, by omega, hg, hrest⟩
theorem okM_no {L : List Ly} {S D : Option Nat} {n k : Nat} (hl : L.length = n) (hk : k < n) (h : ffin .f32 (fdep L k) = false ∨ ffin .f32 (ftim L k) = false) : okM L S D = false := by
  unfold okM
  rw [hl]
  rcases h with h | h
  · rw [finL_not hk h]; simp
  · rw [finL_not hk h]; simp
theorem okM_yes {L : List Ly} {S D : Option Nat} {n : Nat} (hl : L.length = n) (hV : fvalid L S D = true) (h1 : ∀ j, j < n → ffin .f32 (fdep L j) = true) (h2 : ∀ j, j < n → ffin .f32 (ftim L j) = true) : okM L S D = finL (lst (fmean L) n) := by
  unfold okM
  rw [hl, hV, finL_all h1, finL_all h2]; rfl

/-- A row of the call's own, as a list. -/
theorem own_lst {w : World} {g n : Nat} {cs : Array Value} {F : Nat → Option Nat} (hg : w.heap[g]? = some (.cells cs 23 (0, 0))) (hs : cs.size = n) (h : ∀ j, j < n → ∃ r, cs[j]? = some (.float .f32 r) ∧ Fl .f32 r (F j)) :
    OwL w g w.heap.size (some ⟨g, 0, none⟩) n (lst F n) :=
  ⟨lst_len _ _, .inr ⟨g, 0, cs, rfl, Nat.le_refl _, blk_lt hg, hg, by omega, fun j hj => by
    obtain ⟨r, h1, h2⟩ := h j hj
    exact ⟨r, by rw [Nat.zero_add]; exact h1, by rw [lst_at hj]; exact h2⟩⟩⟩
set_option maxRecDepth 20000 in
set_option maxHeartbeats 4000000 in
theorem c_spec_MeanSpeeds {w : World} {n c s d : Nat} {A : Option Addr} {L : List Ly} {S D : Option Nat} (h : RdL w A n L) (hn : n ≤ 1048576) (fs : Fl .f32 s S) (fd : Fl .f32 d D) :
    Calls Try.prog 37 #[.agg #[.slice A n c, .float .f32 s, .float .f32 d]] w fun e w' => RetL w e w' (okM L S D) (lst (fmean L) L.length) := by
  have hbox : GpAt (w.alloc (.cells #[.slice A n c, .float .f32 s, .float .f32 d] 30)) w.heap.size A n c s d := GpAt.blk (t := 30) (by repeat (first | (refine al_at ?_ ?_ <;> first | rfl | (simp only [al_size] <;> omega)) | apply al_old))
  have hl := h.len
  obtain ⟨i0, hi, hz0, hz1, hz2⟩ := info_parts info_f32
  cases hV : fvalid L S D
  · have hend : okM L S D = false := by unfold okM; rw [hV]; rfl
    rw [hend]
    clear hend
    go_enter Try.func37, Try.ntmps37
    go_wp2_with (go_at_call 48; refine Calls.mono (c_l02Is hbox (h.ext (by repeat (first | assumption | exact Ext.refl _ | apply Ext.drewN | apply Ext.drew | apply Ext.alloc | (refine Ext.trans ?_ (by assumption)) | (refine Ext.set ?_ (by dsimp only; omega) _)))) fs fd) ?_; rw [hV]; rintro e w1 ⟨rfl, n1, rfl⟩)
    go_ret2
    exact retL_no rfl (by repeat (first | assumption | exact Ext.refl _ | apply Ext.drewN | apply Ext.drew | apply Ext.alloc | (refine Ext.trans ?_ (by assumption)) | (refine Ext.set ?_ (by dsimp only; omega) _)))
  have HL := Lib.hid hl
  have HNO : ∀ k, k < n → (ffin .f32 (fdep L k) = false ∨ ffin .f32 (ftim L k) = false) → okM L S D = false := fun k hk hh => okM_no hl hk hh
  have HYES := okM_yes hl hV
  rw [hl]
  have HN := Lib.hid HNO
  have HY := Lib.hid HYES
  clear HNO HYES hl
  go_enter Try.func37, Try.ntmps37
  go_wp2_with (first | (go_at_call 48; refine Calls.mono (c_l02Is hbox (h.ext (by repeat (first | assumption | exact Ext.refl _ | apply Ext.drewN | apply Ext.drew | apply Ext.alloc | (refine Ext.trans ?_ (by assumption)) | (refine Ext.set ?_ (by dsimp only; omega) _)))) fs fd) ?_; rw [hV]; rintro e w1 ⟨rfl, n1, rfl⟩) | (go_at_call 57; refine Calls.mono (c_l02Depths (hbox.ext (by repeat (first | assumption | exact Ext.refl _ | apply Ext.drewN | apply Ext.drew | apply Ext.alloc | (refine Ext.trans ?_ (by assumption)) | (refine Ext.set ?_ (by dsimp only; omega) _)))) (h.ext (by repeat (first | assumption | exact Ext.refl _ | apply Ext.drewN | apply Ext.drew | apply Ext.alloc | (refine Ext.trans ?_ (by assumption)) | (refine Ext.set ?_ (by dsimp only; omega) _)))) hn) ?_; rintro e w2 ⟨v, rfl, ho, hx2⟩; obtain ⟨A2, c2, rfl, ho2⟩ := ho.owl) | (go_at_call 70; refine Calls.mono (c_l02Times (hbox.ext (by repeat (first | assumption | exact Ext.refl _ | apply Ext.drewN | apply Ext.drew | apply Ext.alloc | (refine Ext.trans ?_ (by assumption)) | (refine Ext.set ?_ (by dsimp only; omega) _)))) (h.ext (by repeat (first | assumption | exact Ext.refl _ | apply Ext.drewN | apply Ext.drew | apply Ext.alloc | (refine Ext.trans ?_ (by assumption)) | (refine Ext.set ?_ (by dsimp only; omega) _)))) hn) ?_; rintro e w3 ⟨v, rfl, ho, hx3⟩; obtain ⟨A3, c3, rfl, ho3⟩ := ho.owl))
  have hX : Ext w w3 := (by repeat (first | assumption | exact Ext.refl _ | apply Ext.drewN | apply Ext.drew | apply Ext.alloc | (refine Ext.trans ?_ (by assumption)) | (refine Ext.set ?_ (by dsimp only; omega) _)))
  have g2 := ho2.ext (Nat.le_refl _) hx3
  have z3 := hX.size
  go_loopw [6, 7] (fun v i wr => ∃ (k : Nat) (xs : List Value), k ≤ n ∧ i = .int .i64 k ∧ wr.ownsRow w3.heap.size 23 1 v k xs ∧ (∀ j, j < k → ∃ r, xs[j]? = some (.float .f32 r) ∧ Fl .f32 r (fmean L j)) ∧ (∀ j, j < k → ffin .f32 (fdep L j) = true) ∧ (∀ j, j < k → ffin .f32 (ftim L j) = true) ∧ Ext w3 wr) (fun _ i _ => n - (intOf i).toNat)
  case atStart => exact ⟨0, [], Nat.zero_le _, rfl, World.ownsRow_made w3 _ 0 (Nat.le_refl _) (Nat.zero_le _) rfl, fun j hj => absurd hj (Nat.not_lt_zero _), fun j hj => absurd hj (Nat.not_lt_zero _), fun j hj => absurd hj (Nat.not_lt_zero _), (by repeat (first | assumption | exact Ext.refl _ | apply Ext.drewN | apply Ext.drew | apply Ext.alloc | (refine Ext.trans ?_ (by assumption)) | (refine Ext.set ?_ (by dsimp only; omega) _)))⟩
  case round =>
    obtain ⟨k, xs, hk, rfl, hown, hxs, ha, hb, hx⟩ := hrel
    have HX := Lib.hid hxs
    have HA := Lib.hid ha
    have HB := Lib.hid hb
    clear hxs ha hb
    by_cases hlt : k < n
    · obtain ⟨b2, o2, r2, rfl, hb2, hc2, hr2⟩ := (g2.ext (by have := hx3.size; omega) hx).rd.cell hlt
      obtain ⟨b3, o3, r3, rfl, hb3, hc3, hr3⟩ := (ho3.ext (Nat.le_refl _) hx).rd.cell hlt
      rw [lst_at hlt] at hr2 hr3
      have hr2 : Fl .f32 r2 (fdep L k) := hr2
      have hr3 : Fl .f32 r3 (ftim L k) := hr3
      have hT : fmean L k = fop .quo .f32 (fdep L k) (ftim L k) := rfl
      have HT := Lib.hid hT
      clear hT
      have hlt' : (k : Int) < (n : Int) := by omega
      cases hF : ffin .f32 (fdep L k)
      · have hend := Lib.hid (HN.out k hlt (.inl hF))
        go_wp2_with (go_at_call 72; refine Calls.mono (c_l01Finite hr2 _) ?_; rw [hF]; rintro e w' ⟨rfl, n1, rfl⟩)
        go_ret2
        exact retL_no hend.out (by repeat (first | assumption | exact Ext.refl _ | apply Ext.drewN | apply Ext.drew | apply Ext.alloc | (refine Ext.trans ?_ (by assumption)) | (refine Ext.set ?_ (by dsimp only; omega) _)))
      cases hG : ffin .f32 (ftim L k)
      · have hend := Lib.hid (HN.out k hlt (.inr hG))
        go_wp2_with (first | (go_at_call 72; refine Calls.mono (c_l01Finite hr2 _) ?_; rw [hF]; rintro e w' ⟨rfl, n1, rfl⟩) | (go_at_call 72; refine Calls.mono (c_l01Finite hr3 _) ?_; rw [hG]; rintro e w' ⟨rfl, n1, rfl⟩))
        go_ret2
        exact retL_no hend.out (by repeat (first | assumption | exact Ext.refl _ | apply Ext.drewN | apply Ext.drew | apply Ext.alloc | (refine Ext.trans ?_ (by assumption)) | (refine Ext.set ?_ (by dsimp only; omega) _)))
      go_wp2_with (first | (go_at_call 72; refine Calls.mono (c_l01Finite hr2 _) ?_; rw [hF]; rintro e w' ⟨rfl, n1, rfl⟩) | (go_at_call 72; refine Calls.mono (c_l01Finite hr3 _) ?_; rw [hG]; rintro e w' ⟨rfl, n1, rfl⟩))
      obtain ⟨R, N, hq, hR⟩ := fop_rule (P := Try.prog) (op := .quo) rfl hr2 hr3 23
      rw [← HT.out] at hR
      have HR := Lib.hid hR
      clear hR
      go_region_law (refine step_append_float (by rfl) (.tmp 33) (.tmp 43) 35 (by rfl) 23 i0 (.float .f32 0) 4 Try.underlying35 hi hz0 hz1 hz2 (by rfl) w3.heap.size _ k xs (by rfl) _ _ (by rfl) (by rfl) (by exact hown) (by unfold maxLen; omega) (by omega) (by have := hx.size; simp; omega) ?_; intro v' w4 hown' hgrow; have hl' : xs.length = k := (by have := hown.1; omega); have hx' : Ext w3 w4 := (by refine grown_ext (xs := xs) (n := k) (e := 23) ?_ ?_ hgrow; exact Ext.alloc (Ext.drewN hx _) _; exact World.ownsRow.alloc (w := wr.drewN _) hown _); clear hown hgrow hx)
      all_goals
        go_wp2_with (fail)
        exact ⟨⟨k + 1, _, by omega, by go_num, hown', row_step hl' HX.out (HR.out _), fin_step HA.out hF, fin_step HB.out hG, hx'⟩, by simp [intOf]; omega⟩
    · have hkn : k = n := by omega
      subst hkn
      have ho4 : OwF wr w3.heap.size _ k (fmean L) := ⟨xs, hown, HX.out⟩
      obtain ⟨A4, c4, rfl, ho5⟩ := ho4.owl
      have hend := Lib.hid (HY.out HA.out HB.out)
      go_wp2_with (go_at_call 56; refine Calls.mono (c_l02List ho5.rd hn) ?_; rintro e w5 ⟨rfl, n3, rfl⟩)
      go_ret2
      rw [hend.out]
      exact retL_of (w1 := wr) (hX.trans hx) (ho5.more z3 (Nat.le_refl _)) (by repeat (first | assumption | exact Ext.refl _ | apply Ext.drewN | apply Ext.drew | apply Ext.alloc | (refine Ext.trans ?_ (by assumption)) | (refine Ext.set ?_ (by dsimp only; omega) _)))
set_option maxRecDepth 20000 in
set_option maxHeartbeats 4000000 in
theorem c_impl_MeanSpeeds {w : World} {n c s d : Nat} {A : Option Addr} {L : List Ly} {S D : Option Nat} (h : RdL w A n L) (hn : n ≤ 1048576) (fs : Fl .f32 s S) (fd : Fl .f32 d D) :
    Calls Try.prog 38 #[.agg #[.slice A n c, .float .f32 s, .float .f32 d]] w fun e w' => RetL w e w' (okM L S D) (lst (fmean L) L.length) := by
  have hbox : GpAt (w.alloc (.cells #[.slice A n c, .float .f32 s, .float .f32 d] 30)) w.heap.size A n c s d := GpAt.blk (t := 30) (by repeat (first | (refine al_at ?_ ?_ <;> first | rfl | (simp only [al_size] <;> omega)) | apply al_old))
  have hl := h.len
  have key1 := fun W hx => c_impl_DepthsOf (w := W) (c := c) (h.ext hx) hn fs fd
  have key2 := fun W hx => c_impl_TimesDown (w := W) (c := c) (h.ext hx) hn fs fd
  have hokM : okM L S D = ((okL fdep L S D && okL ftim L S D) && finL (lst (fmean L) L.length)) := by
    unfold okM okL
    cases fvalid L S D <;> simp
  have H1 : okL fdep L S D = true → outL (okL fdep L S D) (lst (fdep L) L.length) = lst (fdep L) L.length := fun hh => by rw [hh]; rfl
  have H2 : okL ftim L S D = true → outL (okL ftim L S D) (lst (ftim L) L.length) = lst (ftim L) L.length := fun hh => by rw [hh]; rfl
  cases hA : okL fdep L S D
  · rw [hA] at key1 hokM
    rw [hokM]
    simp only [Bool.false_and]
    go_enter Try.func38, Try.ntmps38
    go_wp2_with (first | (go_at_call 23; refine Calls.mono (key1 _ (by repeat (first | assumption | exact Ext.refl _ | apply Ext.drewN | apply Ext.drew | apply Ext.alloc | (refine Ext.trans ?_ (by assumption)) | (refine Ext.set ?_ (by dsimp only; omega) _)))) ?_; rintro e w2 ⟨A2, n2, c2, rfl, ho2, hx2⟩; obtain ⟨p0, p1, p2, _⟩ := hbox.ext (w' := w2) (by repeat (first | assumption | exact Ext.refl _ | apply Ext.drewN | apply Ext.drew | apply Ext.alloc | (refine Ext.trans ?_ (by assumption)) | (refine Ext.set ?_ (by dsimp only; omega) _)))) | (go_at_call 36; refine Calls.mono (key2 _ (by repeat (first | assumption | exact Ext.refl _ | apply Ext.drewN | apply Ext.drew | apply Ext.alloc | (refine Ext.trans ?_ (by assumption)) | (refine Ext.set ?_ (by dsimp only; omega) _)))) ?_; rintro e w3 ⟨A3, n3, c3, rfl, ho3, hx3⟩; obtain ⟨p0, p1, p2, _⟩ := hbox.ext (w' := w3) (by repeat (first | assumption | exact Ext.refl _ | apply Ext.drewN | apply Ext.drew | apply Ext.alloc | (refine Ext.trans ?_ (by assumption)) | (refine Ext.set ?_ (by dsimp only; omega) _)))))
    go_ret2
    exact retL_no rfl (by repeat (first | assumption | exact Ext.refl _ | apply Ext.drewN | apply Ext.drew | apply Ext.alloc | (refine Ext.trans ?_ (by assumption)) | (refine Ext.set ?_ (by dsimp only; omega) _)))
  cases hB : okL ftim L S D
  · rw [hA] at key1
    rw [hB] at key2
    rw [hA, hB] at hokM
    rw [hokM]
    simp only [Bool.and_false, Bool.false_and]
    go_enter Try.func38, Try.ntmps38
    go_wp2_with (first | (go_at_call 23; refine Calls.mono (key1 _ (by repeat (first | assumption | exact Ext.refl _ | apply Ext.drewN | apply Ext.drew | apply Ext.alloc | (refine Ext.trans ?_ (by assumption)) | (refine Ext.set ?_ (by dsimp only; omega) _)))) ?_; rintro e w2 ⟨A2, n2, c2, rfl, ho2, hx2⟩; obtain ⟨p0, p1, p2, _⟩ := hbox.ext (w' := w2) (by repeat (first | assumption | exact Ext.refl _ | apply Ext.drewN | apply Ext.drew | apply Ext.alloc | (refine Ext.trans ?_ (by assumption)) | (refine Ext.set ?_ (by dsimp only; omega) _)))) | (go_at_call 36; refine Calls.mono (key2 _ (by repeat (first | assumption | exact Ext.refl _ | apply Ext.drewN | apply Ext.drew | apply Ext.alloc | (refine Ext.trans ?_ (by assumption)) | (refine Ext.set ?_ (by dsimp only; omega) _)))) ?_; rintro e w3 ⟨A3, n3, c3, rfl, ho3, hx3⟩; obtain ⟨p0, p1, p2, _⟩ := hbox.ext (w' := w3) (by repeat (first | assumption | exact Ext.refl _ | apply Ext.drewN | apply Ext.drew | apply Ext.alloc | (refine Ext.trans ?_ (by assumption)) | (refine Ext.set ?_ (by dsimp only; omega) _)))))
    go_ret2
    exact retL_no rfl (by repeat (first | assumption | exact Ext.refl _ | apply Ext.drewN | apply Ext.drew | apply Ext.alloc | (refine Ext.trans ?_ (by assumption)) | (refine Ext.set ?_ (by dsimp only; omega) _)))
  have E1 := H1 hA
  have E2 := H2 hB
  rw [hA] at key1 E1
  rw [hB] at key2 E2
  rw [hA, hB] at hokM
  rw [hokM, hl]
  simp only [Bool.true_and]
  rw [hl] at key1 key2 E1 E2
  have hmk := fun W => run_make_row' (P := Try.prog) 35 23 (.float .f32 0) 4 Try.underlying35 info_f32 rfl .i64 .i64 n (by omega) (by omega) W
  have HE1 := Lib.hid E1
  have HE2 := Lib.hid E2
  clear E1 E2 hokM H1 H2 hl
  go_enter Try.func38, Try.ntmps38
  go_wp2_with (first | (go_at_call 23; refine Calls.mono (key1 _ (by repeat (first | assumption | exact Ext.refl _ | apply Ext.drewN | apply Ext.drew | apply Ext.alloc | (refine Ext.trans ?_ (by assumption)) | (refine Ext.set ?_ (by dsimp only; omega) _)))) ?_; rintro e w2 ⟨A2, n2, c2, rfl, ho2, hx2⟩; obtain ⟨p0, p1, p2, _⟩ := hbox.ext (w' := w2) (by repeat (first | assumption | exact Ext.refl _ | apply Ext.drewN | apply Ext.drew | apply Ext.alloc | (refine Ext.trans ?_ (by assumption)) | (refine Ext.set ?_ (by dsimp only; omega) _))); rw [HE1.out] at ho2; (have e2 := ho2.len); rw [lst_len] at e2; subst e2) | (go_at_call 36; refine Calls.mono (key2 _ (by repeat (first | assumption | exact Ext.refl _ | apply Ext.drewN | apply Ext.drew | apply Ext.alloc | (refine Ext.trans ?_ (by assumption)) | (refine Ext.set ?_ (by dsimp only; omega) _)))) ?_; rintro e w3 ⟨A3, n3, c3, rfl, ho3, hx3⟩; obtain ⟨p0, p1, p2, _⟩ := hbox.ext (w' := w3) (by repeat (first | assumption | exact Ext.refl _ | apply Ext.drewN | apply Ext.drew | apply Ext.alloc | (refine Ext.trans ?_ (by assumption)) | (refine Ext.set ?_ (by dsimp only; omega) _))); rw [HE2.out] at ho3; (have e3 := ho3.len); rw [lst_len] at e3; subst e3))
  have hX : Ext w w3 := (by repeat (first | assumption | exact Ext.refl _ | apply Ext.drewN | apply Ext.drew | apply Ext.alloc | (refine Ext.trans ?_ (by assumption)) | (refine Ext.set ?_ (by dsimp only; omega) _)))
  have z3 := hX.size
  have g2 := ho2.ext (Nat.le_refl _) hx3
  go_loopw [32] (fun i wr => ∃ (k : Nat) (cs : Array Value), k ≤ n ∧ i = .int .i64 k ∧ wr.heap[w3.heap.size]? = some (.cells cs 23 (0, 0)) ∧ cs.size = n ∧ (∀ j, j < k → ∃ r, cs[j]? = some (.float .f32 r) ∧ Fl .f32 r (fmean L j)) ∧ Ext w3 wr) (fun i _ => n - (intOf i).toNat)
  case atStart => exact ⟨0, _, Nat.zero_le _, rfl, heap_alloc_new w3 _, size_madeCells _ _, fun j hj => absurd hj (Nat.not_lt_zero _), (by repeat (first | assumption | exact Ext.refl _ | apply Ext.drewN | apply Ext.drew | apply Ext.alloc | (refine Ext.trans ?_ (by assumption)) | (refine Ext.set ?_ (by dsimp only; omega) _)))⟩
  case round =>
    obtain ⟨k, cs, hk, rfl, hg, hsz, hxs, hx⟩ := hrel
    have HX := Lib.hid hxs
    have HG := Lib.hid hg
    have HS := Lib.hid hsz
    clear hxs hg hsz
    by_cases hlt : k < n
    · obtain ⟨b2, o2, r2, rfl, hb2, hc2, hr2⟩ := (g2.ext (by have := hx3.size; omega) hx).rd.cell hlt
      obtain ⟨b3, o3, r3, rfl, hb3, hc3, hr3⟩ := (ho3.ext (Nat.le_refl _) hx).rd.cell hlt
      rw [lst_at hlt] at hr2 hr3
      obtain ⟨u0, e0, z0⟩ := own_cell HG.out HS.out hlt
      have hT : fmean L k = fop .quo .f32 (fdep L k) (ftim L k) := rfl
      have HT := Lib.hid hT
      clear hT
      have hlt' : (k : Int) < (n : Int) := by omega
      go_wp2_with (apply upon_fop rfl; (exact hr2); (exact hr3); intro r5 n5 hr5; rw [← HT.out] at hr5)
      exact ⟨⟨k + 1, cs.setIfInBounds k (.float .f32 r5), by omega, by go_num, blk_set1 (w := World.drewN wr _) HG.out k _, by rw [Array.size_setIfInBounds]; exact HS.out, pre_setF (F := fmean L) (by have := HS.out; omega) HX.out hr5, Ext.set (by repeat (first | assumption | exact Ext.refl _ | apply Ext.drewN | apply Ext.drew | apply Ext.alloc | (refine Ext.trans ?_ (by assumption)) | (refine Ext.set ?_ (by dsimp only; omega) _))) (Nat.le_refl _) _⟩, by simp [intOf]; omega⟩
    · have hkn : k = n := by omega
      subst hkn
      have ho5 := own_lst HG.out HS.out HX.out
      go_wp2_with (go_at_call 58; refine Calls.mono (c_finiteList ho5.rd hn) ?_; rintro e w5 ⟨rfl, n3, rfl⟩)
      go_ret2
      exact retL_of (w1 := wr) (hX.trans hx) (ho5.more z3 (Nat.le_refl _)) (by repeat (first | assumption | exact Ext.refl _ | apply Ext.drewN | apply Ext.drew | apply Ext.alloc | (refine Ext.trans ?_ (by assumption)) | (refine Ext.set ?_ (by dsimp only; omega) _)))
theorem both_MeanSpeeds {n s d : Nat} {L : List Ly} {S D : Option Nat} (hl : L.length = n) (hn : n ≤ 1048576) (fs : Fl .f32 s S) (fd : Fl .f32 d D) :
    ∃ ok Q q, q ≤ 1048576 ∧ (∀ (W : World) (A : Option Addr) (c : Nat), RdL W A n L → Calls Try.prog 37 #[.agg #[.slice A n c, .float .f32 s, .float .f32 d]] W fun e w' => RetQ W e w' ok q Q) ∧
      (∀ (W : World) (A : Option Addr), RdL W A n L → Calls Try.prog 38 #[.agg #[.slice A n n, .float .f32 s, .float .f32 d]] W fun e w' => RetQ W e w' ok q Q) :=
  ⟨okM L S D, outL (okM L S D) (lst (fmean L) L.length), (outL (okM L S D) (lst (fmean L) L.length)).length, Nat.le_trans (outL_len _ _) (by rw [lst_len]; omega),
    fun _ _ _ h => Calls.mono (c_spec_MeanSpeeds h hn fs fd) (fun _ _ hr => hr.q), fun _ _ h => Calls.mono (c_impl_MeanSpeeds h hn fs fd) (fun _ _ hr => hr.q)⟩

end Go.Proofs.Ytkoiimjpalhgbaa
