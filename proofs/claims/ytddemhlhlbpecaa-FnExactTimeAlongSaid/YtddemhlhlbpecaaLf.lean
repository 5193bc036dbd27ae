/- Lengths of a path in cells, the program, and both. Condition: none for both; within, the path is one and the parts are few. -/
import Derived.Test.YtddemhlhlbpecaaLe
namespace Go.Proofs.Ytddemhlhlbpecaa
open Go.RowKit Ieee
set_option linter.unusedVariables false
set_option linter.unusedSimpArgs false

/-- A cell of a row of ints is read. -/
theorem ivals_at {w : World} {g m : Nat} {cur : Array Value} {C : List Nat} (hg : w.heap[g]? = some (.cells cur 2 (0, 0))) (ht : cur.toList.take m = ivals C) {k : Nat} (hk : k < C.length) :
    w.cell? ⟨g, k, none⟩ = some (.int .i64 ((C.getD k 0 : Nat) : Int)) := by
  rw [cell_of_row w g k cur _ (0, 0) hg]
  have hl := congrArg List.length ht
  rw [ivals_len, List.length_take] at hl
  have h1 : cur[k]? = cur.toList[k]? := by simp
  rw [h1]
  have h2 : (cur.toList.take m)[k]? = cur.toList[k]? := List.getElem?_take_of_lt (by omega)
  rw [← h2, ht]
  simp [ivals, List.getD, hk]
theorem pcs_lt {pc : Nat → Int} {n : Nat} (hpc : ∀ i, pc i = -1 ∨ ∃ t : Nat, pc i = (t : Int) ∧ t < n) (k : Nat) : ∀ c ∈ pcs pc k, c < n := by
  induction k with
  | zero => intro c hc; cases hc
  | succ k ih =>
    intro c hc
    rcases hpc k with h | ⟨t, h, ht⟩
    · rw [pcs_off h] at hc; exact ih c hc
    · rw [pcs_on h, List.mem_append] at hc
      rcases hc with hc | hc
      · exact ih c hc
      · simp at hc; omega
theorem getD_mem {C : List Nat} {k : Nat} (hk : k < C.length) : C.getD k 0 ∈ C := by
  simp [List.getD, hk]
theorem take_snoc {C : List Nat} {k : Nat} (hk : k < C.length) : C.take (k + 1) = C.take k ++ [C.getD k 0] := by
  rw [List.take_add_one]
  simp [List.getD, hk]
theorem own_ints {w : World} {lo : Nat} {C : List Nat} {v : Value} (h : w.ownsRow lo 2 1 v C.length (ivals C)) :
    ∃ A cap, v = .slice A C.length cap ∧ (∀ k, k < C.length → ∃ g cur, A = some ⟨g, 0, none⟩ ∧ lo ≤ g ∧ w.heap[g]? = some (.cells cur 2 (0, 0)) ∧ cur.toList.take C.length = ivals C) := by
  rcases h.2 with ⟨h1, h2⟩ | ⟨g, cap, cur, hv, hb, hg, h3, h4, h5, h6⟩
  · exact ⟨none, 0, by rw [h1, h2], fun k hk => by omega⟩
  · exact ⟨some ⟨g, 0, none⟩, cap, hv, fun k hk => ⟨g, cur, rfl, hb, hg, by rw [Nat.mul_one] at h6; exact h6⟩⟩
theorem kind_ne {w : World} {a b : Nat} {x y : Array Value} {T U : TypeId} (h : w.heap[a]? = some (.cells x T (0, 0))) (h' : w.heap[b]? = some (.cells y U (0, 0))) (hT : T ≠ U) : a ≠ b := fun e => by
  subst e
  rw [h] at h'
  exact hT (Obj.cells.inj (Option.some.inj h')).2.1
set_option maxRecDepth 20000 in
set_option maxHeartbeats 8000000 in
theorem c_lengthsIn {w : World} {p1 p2 p3 p4 : Nat} (hg : Pth.Ok ⟨p1, p2, p3, p4⟩) (hp : fpath ⟨p1, p2, p3, p4⟩ = true) {a b n : Nat} (ha : 1 ≤ a) (ha2 : a ≤ 16) (hb1 : 1 ≤ b) (hb2 : b ≤ 16) (hab : (a : Int) * (b : Int) = (n : Int)) (hn1 : 1 ≤ n) (hn : n ≤ 256) {parts : Nat} (hpq : 1 ≤ parts) (hpt : parts ≤ 256) :
    Calls Try.prog 66 #[.int .i64 (a : Int), .int .i64 (b : Int), .agg #[.float .f32 p1, .float .f32 p2, .float .f32 p3, .float .f32 p4], .int .i64 (parts : Int)] w fun e w' => ∃ A2, e = .returned (.slice A2 n n) ∧ OwL w' w.heap.size w'.heap.size A2 n (lst (flens (fun i => pcellOf ⟨p1, p2, p3, p4⟩ a b i parts) (flong ⟨p1, p2, p3, p4⟩ parts) parts) n) ∧ Ext w w' := by
  have hmk := fun W => run_make_row' (P := Try.prog) 25 22 (.float .f32 0) 4 Try.underlying25 info_f32 rfl .i64 .i64 n (by omega) (by omega) W
  have fa : Fl .f32 p1 (fl .f32 p1) := Fl.of32 hg.a
  have fb : Fl .f32 p2 (fl .f32 p2) := Fl.of32 hg.b
  have fc : Fl .f32 p3 (fl .f32 p3) := Fl.of32 hg.c
  have fd : Fl .f32 p4 (fl .f32 p4) := Fl.of32 hg.d
  have hpcA : ∀ i, pcellOf ⟨p1, p2, p3, p4⟩ a b i parts = -1 ∨ ∃ t : Nat, pcellOf ⟨p1, p2, p3, p4⟩ a b i parts = (t : Int) ∧ t < n := fun i => pcell_cases hab ha _ _
  have HE := Lib.hid (fun j => alens_flens (pc := fun i => pcellOf ⟨p1, p2, p3, p4⟩ a b i parts) (flong ⟨p1, p2, p3, p4⟩ parts) (fun i => (hpcA i).imp id (fun ⟨t, h, _⟩ => ⟨t, h⟩)) parts j)
  have HLT := Lib.hid (pcs_lt hpcA parts)
  have HCC := Lib.hid (fun W => c_cellsOn (w := W) hg hp ha ha2 hb1 hb2 hab hn1 hn hpq hpt)
  have hle := pcs_len (fun i => pcellOf ⟨p1, p2, p3, p4⟩ a b i parts) parts
  clear hpcA
  generalize pcs (fun i => pcellOf ⟨p1, p2, p3, p4⟩ a b i parts) parts = C at HE HLT HCC hle
  have HQ := Lib.hid (show fop .quo .f32 (fsq2 (fop .sub .f32 (fl .f32 p3) (fl .f32 p1)) (fop .sub .f32 (fl .f32 p4) (fl .f32 p2))) (some (mk parts)) = flong ⟨p1, p2, p3, p4⟩ parts from rfl)
  go_enter Try.func66, Try.ntmps66
  go_wp2_with (first | (apply upon_fop rfl; (exact fc); (exact fa); intro r1 n1 hr1) | (apply upon_fop rfl; (exact fd); (exact fb); intro r2 n2 hr2) | (go_at_call 125; refine Calls.mono (c_rootOfSquares hr1 hr2 _) ?_; rintro e w' ⟨r4, rfl, hr4, n4, rfl⟩) | (apply upon_fop rfl; (exact hr4); (exact fl_mk parts); intro r5 n5 hr5; rw [HQ.out] at hr5) | (go_at_call 126; refine Calls.mono (HCC.out _) ?_; rintro e w5 ⟨v, rfl, hown, hx5⟩; obtain ⟨Ac, cap, rfl, HA⟩ := own_ints hown; have hrow5 : w5.heap[w.heap.size + 1]? = some (.cells (madeCells #[.float .f32 0] n) 22 (0, 0)) := hx5.blk (by repeat (first | (refine al_at ?_ ?_ <;> first | rfl | (simp only [al_size] <;> omega)) | apply al_old)); have hx05 : Ext w w5 := Ext.trans (by repeat (first | assumption | exact Ext.refl _ | apply Ext.drewN | apply Ext.drew | apply Ext.alloc | (refine Ext.trans ?_ (by assumption)) | (refine Ext.set ?_ (by dsimp only; omega) _))) hx5; clear hown hx5))
  have hcl : (C.length : Int) ≤ 256 := by omega
  go_loopw [37] (fun y wr => ∃ (k : Nat) (cs : Array Value), k ≤ C.length ∧ y = .int .i64 k ∧ wr.heap[w.heap.size + 1]? = some (.cells cs 22 (0, 0)) ∧ cs.size = n ∧ RowF cs n (alens (flong ⟨p1, p2, p3, p4⟩ parts) (C.take k)) ∧ (∀ (g : Nat) (cur : Array Value), w5.heap[g]? = some (Obj.cells cur 2 (0, 0)) → wr.heap[g]? = some (Obj.cells cur 2 (0, 0))) ∧ Ext w wr) (fun y _ => C.length - (intOf y).toNat)
  case atStart => exact ⟨0, _, Nat.zero_le _, rfl, hrow5, size_madeCells _ _, RowF.made (fun _ _ => rfl), fun _ _ h => h, hx05⟩
  case round =>
    obtain ⟨k, cs, hk, rfl, hgg, hsz, hrow, hints, hx⟩ := hrel
    by_cases hlt : k < C.length
    · have hlt' : (k : Int) < (C.length : Int) := by omega
      obtain ⟨gc, cur, rfl, hlo, hcur, htk⟩ := HA k hlt
      have hcw := hints gc cur hcur
      have hrd := ivals_at hcw htk hlt
      have htn := HLT.out _ (getD_mem hlt)
      have HT := Lib.hid (fun j => alens_snoc (flong ⟨p1, p2, p3, p4⟩ parts) (C.take k) (C.getD k 0) j)
      have HTK := Lib.hid (take_snoc hlt)
      generalize C.getD k 0 = t at hrd htn HT HTK
      have htn' : (t : Int) < (n : Int) := by omega
      obtain ⟨u0, f0, f1, f2⟩ := hrow.cell hgg htn
      have HG := Lib.hid hgg
      have HS := Lib.hid hsz
      have HX := Lib.hid hrow
      have HI := Lib.hid hints
      clear hgg hsz hrow hints
      go_wp2_with (apply upon_fop rfl; (exact f2); (exact hr5); intro r6 n6 hr6)
      refine ⟨⟨k + 1, cs.setIfInBounds t (.float .f32 r6), by omega, by go_num, by exact blk_set1 (w := World.drewN wr _) HG.out t _, by rw [Array.size_setIfInBounds]; exact HS.out, ?_, ?_, ?_⟩, by simp [intOf]; omega⟩
      · rw [HTK.out]
        refine HX.out.set HS.out (by rw [HT.out, if_pos rfl]; exact hr6) (fun j _ hj => by rw [HT.out, if_neg (fun e => hj e.symm)])
      · intro g cur' hg'
        have h1 := HI.out g cur' hg'
        have hne := kind_ne h1 HG.out (by decide)
        exact (set_other (w := World.drewN wr _) h1 hne).trans rfl
      · exact (by repeat (first | assumption | exact Ext.refl _ | apply Ext.drewN | apply Ext.drew | apply Ext.alloc | (refine Ext.trans ?_ (by assumption)) | (refine Ext.set ?_ (by dsimp only; omega) _)))
    · obtain rfl : k = C.length := by omega
      have ho5 := hrow.lst hgg hsz
      have hEE : alens (flong ⟨p1, p2, p3, p4⟩ parts) (C.take C.length) = flens (fun i => pcellOf ⟨p1, p2, p3, p4⟩ a b i parts) (flong ⟨p1, p2, p3, p4⟩ parts) parts := by
        rw [List.take_length]; funext j; exact HE.out j
      rw [hEE] at ho5
      go_wp2_with (fail)
      go_ret
      exact ⟨_, rfl, ho5.more (by omega) (Nat.le_refl _), hx⟩
set_option maxRecDepth 20000 in
set_option maxHeartbeats 400000 in
theorem c_isParts (i : Int) (w : World) : Calls Try.prog 65 #[.int .i64 i] w fun e w' => e = .returned (.bool (inB i 1 256)) ∧ w' = w := by
  unfold inB
  by_cases h1 : 1 ≤ i
  · by_cases h2 : i ≤ 256
    all_goals
      simp only [h1, h2, decide_true, decide_false, Bool.and_true, Bool.and_false]
      go_enter Try.func65, Try.ntmps65
      go_wp2_with (fail)
      go_ret
      exact ⟨rfl, rfl⟩
  · simp only [h1, decide_false, Bool.false_and]
    go_enter Try.func65, Try.ntmps65
    go_wp2_with (fail)
    go_ret
    exact ⟨rfl, rfl⟩
set_option maxRecDepth 20000 in
set_option maxHeartbeats 400000 in
theorem c_l06Parts (i : Int) (w : World) : Calls Try.prog 61 #[.int .i64 i] w fun e w' => e = .returned (.bool (inB i 1 256)) ∧ w' = w := by
  go_enter Try.func61, Try.ntmps61
  go_wp2_with (go_at_call 120; refine Calls.mono (c_l00In _ _ _ _) ?_; rintro e w1 ⟨rfl, rfl⟩)
  go_ret
  exact ⟨rfl, rfl⟩
/-- The lengths of a path are told. -/
def okLen (x z : Int) (g : Pth) (p : Int) : Bool := sizeT x z && (fpath g && inB p 1 256)
def lensL (x z : Int) (g : Pth) (p : Int) : List (Option Nat) := lst (flens (fun i => pcellOf g x z i p.toNat) (flong g p.toNat) p.toNat) (x * z).toNat
theorem lensL_eq {a b n parts : Nat} (hab : (a : Int) * (b : Int) = (n : Int)) (g : Pth) : lensL a b g parts = lst (flens (fun i => pcellOf g a b i parts) (flong g parts) parts) n := by
  unfold lensL; rw [hab, Int.toNat_natCast, Int.toNat_natCast]
theorem parts_of {i : Int} (h : inB i 1 256 = true) : ∃ p : Nat, i = (p : Int) ∧ 1 ≤ p ∧ p ≤ 256 := by
  obtain ⟨h1, h2⟩ := inB_of h
  exact ⟨i.toNat, by omega, by omega, by omega⟩
set_option maxRecDepth 20000 in
set_option maxHeartbeats 4000000 in
theorem c_impl_LengthsOf {w : World} {i0 i1 : Int} {g2 : Pth} (hg2 : g2.Ok) {i3 : Int} :
    Calls Try.prog 17 #[.int .i64 i0, .int .i64 i1, g2.val, .int .i64 i3] w fun e w' => RetL w e w' (okLen i0 i1 g2 i3) (lensL i0 i1 g2 i3) := by
  have hbox : PbAt (w.alloc (.cells #[.float .f32 g2.a, .float .f32 g2.b, .float .f32 g2.c, .float .f32 g2.d] 28)) w.heap.size g2 := PbAt.blk (T := 28) (by repeat (first | (refine al_at ?_ ?_ <;> first | rfl | (simp only [al_size] <;> omega)) | apply al_old))
  obtain ⟨p0, p1, p2, p3, _⟩ := hbox
  have cT := fun W => c_isSize i0 i1 W
  have cP := fun W => c_impl_IsPath (w := W) hg2
  have cQ := fun W => c_isParts i3 W
  unfold Pth.val at cP ⊢
  cases hT : sizeT i0 i1
  case false =>
    rw [hT] at cT
    have hk : okLen i0 i1 g2 i3 = false := by unfold okLen; rw [hT]; rfl
    go_enter Try.func17, Try.ntmps17
    go_wp2_with (go_at_call 63; refine Calls.mono (cT _) ?_; rintro e wa ⟨rfl, rfl⟩)
    go_ret2
    rw [hk]
    exact retL_no rfl (by repeat (first | assumption | exact Ext.refl _ | apply Ext.drewN | apply Ext.drew | apply Ext.alloc | (refine Ext.trans ?_ (by assumption)) | (refine Ext.set ?_ (by dsimp only; omega) _)))
  rw [hT] at cT
  cases hP : fpath g2
  case false =>
    rw [hP] at cP
    have hk : okLen i0 i1 g2 i3 = false := by unfold okLen; rw [hT, hP]; rfl
    go_enter Try.func17, Try.ntmps17
    go_wp2_with (first | (go_at_call 63; refine Calls.mono (cT _) ?_; rintro e wa ⟨rfl, rfl⟩) | (go_at_call 64; refine Calls.mono (cP _) ?_; rintro e wb ⟨rfl, hxb⟩))
    go_ret2
    rw [hk]
    exact retL_no rfl (Ext.trans (by repeat (first | assumption | exact Ext.refl _ | apply Ext.drewN | apply Ext.drew | apply Ext.alloc | (refine Ext.trans ?_ (by assumption)) | (refine Ext.set ?_ (by dsimp only; omega) _))) hxb)
  rw [hP] at cP
  cases hQ : inB i3 1 256
  case false =>
    rw [hQ] at cQ
    have hk : okLen i0 i1 g2 i3 = false := by unfold okLen; rw [hT, hP, hQ]; rfl
    go_enter Try.func17, Try.ntmps17
    go_wp2_with (first | (go_at_call 63; refine Calls.mono (cT _) ?_; rintro e wa ⟨rfl, rfl⟩) | (go_at_call 64; refine Calls.mono (cP _) ?_; rintro e wb ⟨rfl, hxb⟩) | (go_at_call 65; refine Calls.mono (cQ _) ?_; rintro e wc ⟨rfl, rfl⟩))
    go_ret2
    rw [hk]
    exact retL_no rfl (Ext.trans (by repeat (first | assumption | exact Ext.refl _ | apply Ext.drewN | apply Ext.drew | apply Ext.alloc | (refine Ext.trans ?_ (by assumption)) | (refine Ext.set ?_ (by dsimp only; omega) _))) hxb)
  rw [hQ] at cQ
  have hk : okLen i0 i1 g2 i3 = true := by unfold okLen; rw [hT, hP, hQ]; rfl
  rw [hk]
  obtain ⟨a, b, n, rfl, rfl, h1, h2, h3, h4, h5, h6, h7, h8⟩ := sizeT_of hT
  obtain ⟨parts, rfl, h9, h10⟩ := parts_of hQ
  rw [lensL_eq h8]
  obtain ⟨ga, gb, gc, gd⟩ := g2
  dsimp only at p0 p1 p2 p3 cP ⊢
  have HL := Lib.hid (fun W => c_lengthsIn (w := W) hg2 hP h1 h2 h3 h4 h8 h6 h7 h9 h10)
  clear hT hQ hk
  have HB := Lib.hid (PbAt.blk (w := w.alloc (.cells #[.float .f32 ga, .float .f32 gb, .float .f32 gc, .float .f32 gd] 28)) (bx := w.heap.size) (T := 28) (g := ⟨ga, gb, gc, gd⟩) (heap_alloc_new w _))
  go_enter Try.func17, Try.ntmps17
  go_wp2_with (first | (go_at_call 63; refine Calls.mono (cT _) ?_; rintro e wa ⟨rfl, rfl⟩) | (go_at_call 64; refine Calls.mono (cP _) ?_; rintro e wb ⟨rfl, hxb⟩; obtain ⟨q0, q1, q2, q3, _⟩ := HB.out.ext hxb) | (go_at_call 65; refine Calls.mono (cQ _) ?_; rintro e wc ⟨rfl, rfl⟩) | (go_at_call 66; refine Calls.mono (HL.out _) ?_; rintro e wd ⟨A2, rfl, ho, hxd⟩))
  go_ret2
  have hx1 : Ext w wc := Ext.trans (by repeat (first | assumption | exact Ext.refl _ | apply Ext.drewN | apply Ext.drew | apply Ext.alloc | (refine Ext.trans ?_ (by assumption)) | (refine Ext.set ?_ (by dsimp only; omega) _))) hxb
  exact ⟨A2, n, n, rfl, ho.more hx1.size (Nat.le_refl _), hx1.trans hxd⟩
set_option maxRecDepth 20000 in
set_option maxHeartbeats 4000000 in
theorem c_spec_LengthsOf {w : World} {i0 i1 : Int} {g2 : Pth} (hg2 : g2.Ok) {i3 : Int} :
    Calls Try.prog 15 #[.int .i64 i0, .int .i64 i1, g2.val, .int .i64 i3] w fun e w' => RetL w e w' (okLen i0 i1 g2 i3) (lensL i0 i1 g2 i3) := by
  have HB := Lib.hid (PbAt.blk (w := w.alloc (.cells #[.float .f32 g2.a, .float .f32 g2.b, .float .f32 g2.c, .float .f32 g2.d] 28)) (bx := w.heap.size) (T := 28) (g := g2) (heap_alloc_new w _))
  have cT := fun W => c_l06Size i0 i1 W
  have cP := Lib.hid (c_l06Path HB.out hg2)
  have cQ := fun W => c_l06Parts i3 W
  unfold Pth.val
  cases hT : sizeT i0 i1
  case false =>
    rw [hT] at cT
    have hk : okLen i0 i1 g2 i3 = false := by unfold okLen; rw [hT]; rfl
    go_enter Try.func15, Try.ntmps15
    go_wp2_with (go_at_call 59; refine Calls.mono (cT _) ?_; rintro e wa ⟨rfl, rfl⟩)
    go_ret2
    rw [hk]
    exact retL_no rfl (by repeat (first | assumption | exact Ext.refl _ | apply Ext.drewN | apply Ext.drew | apply Ext.alloc | (refine Ext.trans ?_ (by assumption)) | (refine Ext.set ?_ (by dsimp only; omega) _)))
  rw [hT] at cT
  cases hP : fpath g2
  case false =>
    rw [hP] at cP
    have hk : okLen i0 i1 g2 i3 = false := by unfold okLen; rw [hT, hP]; rfl
    go_enter Try.func15, Try.ntmps15
    go_wp2_with (first | (go_at_call 59; refine Calls.mono (cT _) ?_; rintro e wa ⟨rfl, rfl⟩) | (go_at_call 60; refine Calls.mono cP.out ?_; rintro e wb ⟨rfl, nb, rfl⟩))
    go_ret2
    rw [hk]
    exact retL_no rfl (by repeat (first | assumption | exact Ext.refl _ | apply Ext.drewN | apply Ext.drew | apply Ext.alloc | (refine Ext.trans ?_ (by assumption)) | (refine Ext.set ?_ (by dsimp only; omega) _)))
  rw [hP] at cP
  cases hQ : inB i3 1 256
  case false =>
    rw [hQ] at cQ
    have hk : okLen i0 i1 g2 i3 = false := by unfold okLen; rw [hT, hP, hQ]; rfl
    go_enter Try.func15, Try.ntmps15
    go_wp2_with (first | (go_at_call 59; refine Calls.mono (cT _) ?_; rintro e wa ⟨rfl, rfl⟩) | (go_at_call 60; refine Calls.mono cP.out ?_; rintro e wb ⟨rfl, nb, rfl⟩) | (go_at_call 61; refine Calls.mono (cQ _) ?_; rintro e wc ⟨rfl, rfl⟩))
    go_ret2
    rw [hk]
    exact retL_no rfl (by repeat (first | assumption | exact Ext.refl _ | apply Ext.drewN | apply Ext.drew | apply Ext.alloc | (refine Ext.trans ?_ (by assumption)) | (refine Ext.set ?_ (by dsimp only; omega) _)))
  rw [hQ] at cQ
  have hk : okLen i0 i1 g2 i3 = true := by unfold okLen; rw [hT, hP, hQ]; rfl
  rw [hk]
  obtain ⟨a, b, n, rfl, rfl, h1, h2, h3, h4, h5, h6, h7, h8⟩ := sizeT_of hT
  obtain ⟨parts, rfl, h9, h10⟩ := parts_of hQ
  rw [lensL_eq h8]
  clear hT hQ hk
  go_enter Try.func15, Try.ntmps15
  go_wp2_with (first | (go_at_call 59; refine Calls.mono (cT _) ?_; rintro e wa ⟨rfl, rfl⟩) | (go_at_call 60; refine Calls.mono cP.out ?_; rintro e wb ⟨rfl, nb, rfl⟩) | (go_at_call 61; refine Calls.mono (cQ _) ?_; rintro e wc ⟨rfl, rfl⟩) | (go_at_call 62; refine Calls.mono (c_l06Lengths (HB.out.drewN _) hg2 hP h1 h2 h3 h4 h8 h6 h7 h9 h10) ?_; rintro e wd ⟨A2, rfl, ho, hxd⟩))
  go_ret2
  have hx1 : Ext w ((w.alloc (.cells #[.float .f32 g2.a, .float .f32 g2.b, .float .f32 g2.c, .float .f32 g2.d] 28)).drewN nb) := (by repeat (first | assumption | exact Ext.refl _ | apply Ext.drewN | apply Ext.drew | apply Ext.alloc | (refine Ext.trans ?_ (by assumption)) | (refine Ext.set ?_ (by dsimp only; omega) _)))
  exact ⟨A2, n, n, rfl, ho.more hx1.size (Nat.le_refl _), hx1.trans hxd⟩
theorem both_LengthsOf {g2 : Pth} (hg2 : g2.Ok) {i0 : Int} (_hi0 : -9223372036854775808 ≤ i0) (_hj0 : i0 ≤ 9223372036854775807) {i1 : Int} (_hi1 : -9223372036854775808 ≤ i1) (_hj1 : i1 ≤ 9223372036854775807) {i3 : Int} (_hi3 : -9223372036854775808 ≤ i3) (_hj3 : i3 ≤ 9223372036854775807) :
    ∃ ok Q q, q ≤ 1048576 ∧ (∀ W : World, Calls Try.prog 15 #[.int .i64 i0, .int .i64 i1, g2.val, .int .i64 i3] W fun e w' => RetQ W e w' ok q Q) ∧
      (∀ W : World, Calls Try.prog 17 #[.int .i64 i0, .int .i64 i1, g2.val, .int .i64 i3] W fun e w' => RetQ W e w' ok q Q) :=
  ⟨_, _, _, by
    cases hk : okLen i0 i1 g2 i3
    · exact Nat.zero_le _
    · unfold okLen at hk
      rw [Bool.and_eq_true] at hk
      obtain ⟨a, b, n, rfl, rfl, h1, h2, h3, h4, h5, h6, h7, h8⟩ := sizeT_of hk.1
      show (lensL _ _ _ _).length ≤ _
      unfold lensL
      rw [lst_len, h8]; omega, fun W => Calls.mono (c_spec_LengthsOf (w := W) hg2) (fun _ _ hr => hr.q), fun W => Calls.mono (c_impl_LengthsOf (w := W) hg2) (fun _ _ hr => hr.q)⟩
end Go.Proofs.Ytddemhlhlbpecaa
