/- Contracts: two frames that are joined, the program. Condition: the frames are read. -/
import Derived.Test.YtfmhdnhaaohdjaaJu
import Derived.Test.YtfmhdnhaaohdjaaJm
namespace Go.Proofs.Ytfmhdnhaaohdjaa
open Go.RowKit Go.ChangeShapes Go.WideShapes Go.Deep Ieee
set_option linter.unusedVariables false
set_option linter.unusedSimpArgs false

theorem results_cellJ {P : Program} {fn : Func} {p u : Tmp} {ty : TypeId} (h : fn.results = #[.cell p ty, .tmp u]) (tmps : Array Value) (w : World) (g : Nat) (t : TypeId) (cs : Array Value) (fr : Nat × Nat) (d : TypeDesc)
    (hp : tmps.getD p undef = .pointer (some ⟨g, 0, none⟩)) (hg : w.heap[g]? = some (.cells cs t fr))
    (hu : P.underlying ty = some d) (hd : (match d with | .struct _ | .array _ _ => true | _ => false) = true) (hi : (P.info? ty).map (·.size) = some cs.size) :
    (results fn tmps).run P w = .ok (.tuple #[.agg cs, tmps.getD u undef]) w := by
  rw [results_cell_tmp h, hp]
  simp [asAddr, run_loadVar_row w g t ty cs fr d hg hu hd hi]
section
variable {P : Program} {ops : Array Oper} {w0 : World} {S : (Nat → Value) → Act} {fin : List (Nat × Fact) → Prop} {j : Nat} {d : Tmp} {rest : List (Nat × Tmp)} {Fs : List (Nat × Fact)}
/-- An operation that is not wanted. -/
theorem mo_skipK {o : Oper} (k : Nat) (b : Bool) (ho : ops[j]? = some o) (hg : o.guard = some (k, b)) (ha : anc .any ops 3 j k = true) (hk : ∀ us v w, factAt Fs k us v w → v = .bool (!b)) (hy : ∀ vs, ((ops[k]?).bind (·.dst)).bind ((S vs).tmps[·]?) = some (vs k))
    (hrest : MoGo P .any ops Ext w0 S fin rest ((j, fun _ u _ => u = undef) :: Fs)) : MoGo P .any ops Ext w0 S fin ((j, d) :: rest) Fs :=
  ⟨_, fun _ _ _ _ h _ => h, fun o2 ho2 vs w' hw hd => by
    obtain rfl : o = o2 := Option.some.inj (ho.symm.trans ho2)
    have e1 := hk _ _ _ (hd k ha)
    have e2 : yielded ops (S vs).tmps k = some (!b) := by unfold yielded; rw [hy vs, e1]
    exact .inr ⟨by cases b <;> simp [Region.wanted, hg, e2], rfl⟩, hrest⟩
end
def joinT (S U : Sct) : Sct := ⟨S.x, S.z, S.v ++ U.v⟩
def okJ (S U : Sct) : Bool := fvF S && (fvF U && (decide (S.x = U.x) && (decide (U.z = S.z + (S.v.length : Int)) && fvF (joinT S U))))
theorem ext3 {w W : World} {g : Nat} (hx : Ext w W) (h : w.heap.size ≤ g) (u0 u1 u2 : Value) : Ext w (((W.setCell ⟨g, 0, none⟩ u0).setCell ⟨g, 1, none⟩ u1).setCell ⟨g, 2, none⟩ u2) :=
  Ext.set (Ext.set (Ext.set hx h _) h _) h _
theorem own3 {W : World} {gA g m : Nat} {L : List (Option Nat)} (h : OwL W gA (gA + 1) (some ⟨gA, 0, none⟩) m L) (h1 : gA ≠ g) (u0 u1 u2 : Value) :
    OwL (((W.setCell ⟨g, 0, none⟩ u0).setCell ⟨g, 1, none⟩ u1).setCell ⟨g, 2, none⟩ u2) gA (gA + 1) (some ⟨gA, 0, none⟩) m L :=
  h.same (fun k h3 h4 => by
    have hk1 : k ≠ g := by omega
    rw [Below.heap_setCell _ _ _ _ hk1, Below.heap_setCell _ _ _ _ hk1, Below.heap_setCell _ _ _ _ hk1])
theorem joinT_len (S U : Sct) : (joinT S U).v.length = S.v.length + U.v.length := by simp [joinT]
set_option maxRecDepth 20000 in
set_option maxHeartbeats 400000 in
theorem c_endOfJ {w : World} {x z T : Int} {A : Option Addr} {n c : Nat} (hT : z + (n : Int) = T) (h1 : -9223372036854775808 ≤ T) (h2 : T ≤ 9223372036854775807) :
    Calls Try.prog 81 #[.agg #[.int .i64 x, .int .i64 z, .slice A n c]] w fun e w' => e = .returned (.int .i64 T) ∧ Ext w w' := by
  obtain ⟨q0, q1, q2⟩ : SbAt (w.alloc (.cells #[.int .i64 x, .int .i64 z, .slice A n c] 27)) w.heap.size x z A n c := SbAt.blk (T := 27) (by repeat (first | (refine al_at ?_ ?_ <;> first | rfl | (simp only [al_size] <;> omega)) | apply al_old))
  have hw : IntKind.i64.wrap (z + (n : Int)) = T := by rw [hT]; exact IntWalk.i64_in _ (by omega)
  clear hT
  go_enter Try.func81, Try.ntmps81
  go_wp2_with (fail)
  go_ret
  exact ⟨by first | rfl | rw [hw], (by repeat (first | assumption | exact Ext.refl _ | apply Ext.drewN | apply Ext.drew | apply Ext.alloc | (refine Ext.trans ?_ (by assumption)) | (refine Ext.set ?_ (by dsimp only; omega) _)))⟩
set_option maxRecDepth 20000 in
set_option maxHeartbeats 4000000 in
theorem c_impl_JoinFrames {w : World} {B0 B1 : Nat} {u v : Value} {S U : Sct} (h : RdT w B0 u S) (hB0 : B0 ≤ w.heap.size) (za0 : S.v.length ≤ 1048576) (hok0 : S.Ok) (k : RdT w B1 v U) (hB1 : B1 ≤ w.heap.size) (za1 : U.v.length ≤ 1048576) (hok1 : U.Ok) :
    Calls Try.prog 60 #[u, v] w fun e w' => RetT w e w' (okJ S U) (outT (okJ S U) (joinT S U)) := by
  obtain ⟨A, c, rfl, hp, hcA⟩ := h.ex
  obtain ⟨A', c', rfl, hp', hcA'⟩ := k.ex
  obtain ⟨W1, hW1⟩ : ∃ W1, W1 = (((w.alloc (.cells #[.int .i64 S.x, .int .i64 S.z, .slice A S.v.length c] 27)).alloc (.cells #[.int .i64 U.x, .int .i64 U.z, .slice A' U.v.length c'] 27)).alloc (.cells #[.int .i64 0, .int .i64 0, .slice none 0 0] 27)) := ⟨_, rfl⟩
  have hx1 : Ext w W1 := by rw [hW1]; exact (by repeat (first | assumption | exact Ext.refl _ | apply Ext.drewN | apply Ext.drew | apply Ext.alloc | (refine Ext.trans ?_ (by assumption)) | (refine Ext.set ?_ (by dsimp only; omega) _)))
  have hb1 : W1.heap[w.heap.size]? = some (.cells #[.int .i64 S.x, .int .i64 S.z, .slice A S.v.length c] 27 (0, 0)) := by rw [hW1]; exact al_old (al_old (heap_alloc_new w _))
  have hb2 : W1.heap[w.heap.size + 1]? = some (.cells #[.int .i64 U.x, .int .i64 U.z, .slice A' U.v.length c'] 27 (0, 0)) := by rw [hW1]; exact al_old (al_at (al_size _ _).symm rfl)
  have hz1 : W1.heap[w.heap.size + 1 + 1]? = some (.cells #[.int .i64 0, .int .i64 0, .slice none 0 0] 27 (0, 0)) := by rw [hW1]; exact al_at (by rw [al_size, al_size]) rfl
  have hs1 : W1.heap.size = w.heap.size + 1 + 1 + 1 := by rw [hW1, al_size, al_size, al_size]
  have hq1 := h.below (hx1.mono hB0)
  have hq2 := k.below (hx1.mono hB1)
  have cV1 := fun (W : World) (hW : Ext W1 W) => c_impl_ValidFrame (w := W) (hq1.below (hW.mono (by omega : B0 ≤ W1.heap.size))) (Nat.le_trans (by omega : B0 ≤ W1.heap.size) hW.size) za0
  have cV2 := fun (W : World) (hW : Ext W1 W) => c_impl_ValidFrame (w := W) (hq2.below (hW.mono (by omega : B1 ≤ W1.heap.size))) (Nat.le_trans (by omega : B1 ≤ W1.heap.size) hW.size) za1
  have HZ := Lib.hid (fun (W : World) (hW : Ext W1 W) => three_c (hW.blk hz1))
  have HS := Lib.hid (fun (W : World) (hW : Ext W1 W) => three_c (hW.blk hb1))
  have HU := Lib.hid (fun (W : World) (hW : Ext W1 W) => three_c (hW.blk hb2))
  obtain ⟨p0, p1, p2, _, _, _⟩ := three_c hb1
  obtain ⟨q0, q1, q2, _, _, _⟩ := three_c hb2
  obtain ⟨c0, c1, c2, x0, x1, x2⟩ := three_c hz1
  have HZB := Lib.hid hz1
  have HB1 := Lib.hid hb1
  have HB2 := Lib.hid hb2
  have hbl1 := blk_lt hb1
  have hbl2 := blk_lt hb2
  clear c0 c1 c2 x0 x1 x2 hz1 hb1 hb2
  have C1 := Lib.hid cV1
  have C2 := Lib.hid cV2
  clear cV1 cV2 hq1 hq2
  cases hV : fvF S
  · have hno : okJ S U = false := by unfold okJ; rw [hV]; rfl
    rw [hno]
    rw [hV] at C1
    clear h k hp hp' C2
    go_enter Try.func60, Try.ntmps60
    go_wp2_with (fail)
    rw [← hW1]
    clear hW1
    refine wp_region_any (by kernel_rfl) ?_
    refine wpAny_mo_go (md := .any) (R := Ext) (w := W1) [(0, 7), (1, 8), (2, 9), (3, 10), (4, 11), (5, 12), (6, 13), (7, 14), (8, 15), (9, 16), (10, 17), (11, 18), (12, 19), (13, 20), (14, 21), (15, 22), (16, 23), (17, 24), (18, 25), (19, 26), (20, 27)] [21] (tl := [_]) (S := ?S1_) (by kernel_rfl) (by rfl) (by rfl) Ext.refl ext_tr (ext_drew1 _) ?hS1_ ?go1_
    case hS1_ => intro vs; simp only [putAll, Act.put, List.setIfInBounds_toArray, List.set_cons_zero, List.set_cons_succ]; rfl
    case go1_ =>
    refine mo_fix _ (by rfl) (by rfl) (by intro vs w1 hx_ hd; have r0 := (hx_.cell hbl1).trans p0; have r1 := (hx_.cell hbl1).trans p1; have r2 := (hx_.cell hbl1).trans p2; have s0 := (hx_.cell hbl2).trans q0; have s1 := (hx_.cell hbl2).trans q1; have s2 := (hx_.cell hbl2).trans q2; go_simp; first | done | rfl) ?_
    refine mo_call (fun v w => v = .bool false) (by rfl) (by rfl) (by intro v wa wb h1 h2; exact h1) (by intro vs w9 hx_ hd; have e0 := hd 0 (by kernel_rfl); simp (decide := true) only [factAt, if_true, if_false] at e0; simp only [e0]; refine ⟨_, _, by go_simp; first | done | rfl | exact ⟨rfl, rfl⟩, ?_⟩; refine Calls.mono (C1.out _ hx_) ?_; rintro e w4 ⟨rfl, hx4⟩; exact ⟨_, rfl, rfl, hx4⟩) ?_
    refine mo_fix _ (by rfl) (by rfl) (by intro vs w1 hx_ hd; have r0 := (hx_.cell hbl1).trans p0; have r1 := (hx_.cell hbl1).trans p1; have r2 := (hx_.cell hbl1).trans p2; have s0 := (hx_.cell hbl2).trans q0; have s1 := (hx_.cell hbl2).trans q1; have s2 := (hx_.cell hbl2).trans q2; have e1 := hd 1 (by kernel_rfl); simp (decide := true) only [factAt, if_true, if_false] at e1; simp only [e1]; go_simp; first | done | rfl) ?_
    refine mo_fix _ (by rfl) (by rfl) (by intro vs w1 hx_ hd; have r0 := (hx_.cell hbl1).trans p0; have r1 := (hx_.cell hbl1).trans p1; have r2 := (hx_.cell hbl1).trans p2; have s0 := (hx_.cell hbl2).trans q0; have s1 := (hx_.cell hbl2).trans q1; have s2 := (hx_.cell hbl2).trans q2; have e2 := hd 2 (by kernel_rfl); simp (decide := true) only [factAt, if_true, if_false] at e2; simp only [e2]; go_simp; first | done | rfl) ?_
    refine mo_skipK 3 false (by rfl) (by rfl) (by kernel_rfl) (fun _ _ _ h => h) (fun _ => rfl) ?_
    refine mo_skipK 3 false (by rfl) (by rfl) (by kernel_rfl) (fun _ _ _ h => h) (fun _ => rfl) ?_
    refine mo_skipK 3 false (by rfl) (by rfl) (by kernel_rfl) (fun _ _ _ h => h) (fun _ => rfl) ?_
    refine mo_fix _ (by rfl) (by rfl) (by intro vs w1 hx_ hd; have r0 := (hx_.cell hbl1).trans p0; have r1 := (hx_.cell hbl1).trans p1; have r2 := (hx_.cell hbl1).trans p2; have s0 := (hx_.cell hbl2).trans q0; have s1 := (hx_.cell hbl2).trans q1; have s2 := (hx_.cell hbl2).trans q2; have e3 := hd 3 (by kernel_rfl); simp (decide := true) only [factAt, if_true, if_false] at e3; simp only [e3]; go_simp; first | done | rfl) ?_
    refine mo_fix _ (by rfl) (by rfl) (by intro vs w1 hx_ hd; have r0 := (hx_.cell hbl1).trans p0; have r1 := (hx_.cell hbl1).trans p1; have r2 := (hx_.cell hbl1).trans p2; have s0 := (hx_.cell hbl2).trans q0; have s1 := (hx_.cell hbl2).trans q1; have s2 := (hx_.cell hbl2).trans q2; have e7 := hd 7 (by kernel_rfl); simp (decide := true) only [factAt, if_true, if_false] at e7; simp only [e7]; go_simp; first | done | rfl) ?_
    refine mo_skipK 8 false (by rfl) (by rfl) (by kernel_rfl) (fun _ _ _ h => h) (fun _ => rfl) ?_
    refine mo_skipK 8 false (by rfl) (by rfl) (by kernel_rfl) (fun _ _ _ h => h) (fun _ => rfl) ?_
    refine mo_skipK 8 false (by rfl) (by rfl) (by kernel_rfl) (fun _ _ _ h => h) (fun _ => rfl) ?_
    refine mo_skipK 8 false (by rfl) (by rfl) (by kernel_rfl) (fun _ _ _ h => h) (fun _ => rfl) ?_
    refine mo_skipK 8 false (by rfl) (by rfl) (by kernel_rfl) (fun _ _ _ h => h) (fun _ => rfl) ?_
    refine mo_fix _ (by rfl) (by rfl) (by intro vs w1 hx_ hd; have r0 := (hx_.cell hbl1).trans p0; have r1 := (hx_.cell hbl1).trans p1; have r2 := (hx_.cell hbl1).trans p2; have s0 := (hx_.cell hbl2).trans q0; have s1 := (hx_.cell hbl2).trans q1; have s2 := (hx_.cell hbl2).trans q2; have e8 := hd 8 (by kernel_rfl); simp (decide := true) only [factAt, if_true, if_false] at e8; simp only [e8]; go_simp; first | done | rfl) ?_
    refine mo_fix _ (by rfl) (by rfl) (by intro vs w1 hx_ hd; have r0 := (hx_.cell hbl1).trans p0; have r1 := (hx_.cell hbl1).trans p1; have r2 := (hx_.cell hbl1).trans p2; have s0 := (hx_.cell hbl2).trans q0; have s1 := (hx_.cell hbl2).trans q1; have s2 := (hx_.cell hbl2).trans q2; have e14 := hd 14 (by kernel_rfl); simp (decide := true) only [factAt, if_true, if_false] at e14; simp only [e14]; go_simp; first | done | rfl) ?_
    refine mo_skipK 15 false (by rfl) (by rfl) (by kernel_rfl) (fun _ _ _ h => h) (fun _ => rfl) ?_
    refine mo_skipK 15 false (by rfl) (by rfl) (by kernel_rfl) (fun _ _ _ h => h) (fun _ => rfl) ?_
    refine mo_skipK 15 false (by rfl) (by rfl) (by kernel_rfl) (fun _ _ _ h => h) (fun _ => rfl) ?_
    refine mo_skipK 15 false (by rfl) (by rfl) (by kernel_rfl) (fun _ _ _ h => h) (fun _ => rfl) ?_
    refine mo_skipK 15 false (by rfl) (by rfl) (by kernel_rfl) (fun _ _ _ h => h) (fun _ => rfl) ?_
    refine mo_end ?_
    intro vs w2 hx2 hd
    have e15 := hd 15 (by kernel_rfl)
    have e20 := hd 20 (by kernel_rfl)
    simp (decide := true) only [factAt, if_true, if_false] at e15 e20
    generalize vs 15 = v15 at e15 ⊢
    subst e15
    generalize vs 20 = v20 at e20 ⊢
    subst e20
    clear hd
    obtain ⟨c0, c1, c2, x0, x1, x2⟩ := HZ.out _ hx2
    go_wp2_with (fail)
    (try simp only [Exit.inBlock, Exit.then])
    refine bodyPost_ret (results_cellJ rfl _ _ (w.heap.size + 1 + 1) 27 #[.int .i64 0, .int .i64 0, .slice none 0 0] (0, 0) _ rfl (by exact blk_set1 (blk_set1 (blk_set1 (hx2.blk HZB.out) 0 _) 1 _) 2 _) Try.underlying27 rfl (by kernel_rfl)) rfl ?_
    exact retT_no rfl (ext3 (hx1.trans hx2) (by omega) _ _ _)
  rw [hV] at C1
  cases hV2 : fvF U
  · have hno : okJ S U = false := by unfold okJ; rw [hV, hV2]; rfl
    rw [hno]
    rw [hV2] at C2
    clear h k hp hp'
    go_enter Try.func60, Try.ntmps60
    go_wp2_with (fail)
    rw [← hW1]
    clear hW1
    refine wp_region_any (by kernel_rfl) ?_
    refine wpAny_mo_go (md := .any) (R := Ext) (w := W1) [(0, 7), (1, 8), (2, 9), (3, 10), (4, 11), (5, 12), (6, 13), (7, 14), (8, 15), (9, 16), (10, 17), (11, 18), (12, 19), (13, 20), (14, 21), (15, 22), (16, 23), (17, 24), (18, 25), (19, 26), (20, 27)] [21] (tl := [_]) (S := ?S2_) (by kernel_rfl) (by rfl) (by rfl) Ext.refl ext_tr (ext_drew1 _) ?hS2_ ?go2_
    case hS2_ => intro vs; simp only [putAll, Act.put, List.setIfInBounds_toArray, List.set_cons_zero, List.set_cons_succ]; rfl
    case go2_ =>
    refine mo_fix _ (by rfl) (by rfl) (by intro vs w1 hx_ hd; have r0 := (hx_.cell hbl1).trans p0; have r1 := (hx_.cell hbl1).trans p1; have r2 := (hx_.cell hbl1).trans p2; have s0 := (hx_.cell hbl2).trans q0; have s1 := (hx_.cell hbl2).trans q1; have s2 := (hx_.cell hbl2).trans q2; go_simp; first | done | rfl) ?_
    refine mo_call (fun v w => v = .bool true) (by rfl) (by rfl) (by intro v wa wb h1 h2; exact h1) (by intro vs w9 hx_ hd; have e0 := hd 0 (by kernel_rfl); simp (decide := true) only [factAt, if_true, if_false] at e0; simp only [e0]; refine ⟨_, _, by go_simp; first | done | rfl | exact ⟨rfl, rfl⟩, ?_⟩; refine Calls.mono (C1.out _ hx_) ?_; rintro e w4 ⟨rfl, hx4⟩; exact ⟨_, rfl, rfl, hx4⟩) ?_
    refine mo_fix _ (by rfl) (by rfl) (by intro vs w1 hx_ hd; have r0 := (hx_.cell hbl1).trans p0; have r1 := (hx_.cell hbl1).trans p1; have r2 := (hx_.cell hbl1).trans p2; have s0 := (hx_.cell hbl2).trans q0; have s1 := (hx_.cell hbl2).trans q1; have s2 := (hx_.cell hbl2).trans q2; have e1 := hd 1 (by kernel_rfl); simp (decide := true) only [factAt, if_true, if_false] at e1; simp only [e1]; go_simp; first | done | rfl) ?_
    refine mo_fix _ (by rfl) (by rfl) (by intro vs w1 hx_ hd; have r0 := (hx_.cell hbl1).trans p0; have r1 := (hx_.cell hbl1).trans p1; have r2 := (hx_.cell hbl1).trans p2; have s0 := (hx_.cell hbl2).trans q0; have s1 := (hx_.cell hbl2).trans q1; have s2 := (hx_.cell hbl2).trans q2; have e2 := hd 2 (by kernel_rfl); simp (decide := true) only [factAt, if_true, if_false] at e2; simp only [e2]; go_simp; first | done | rfl) ?_
    refine mo_fixK _ 3 false (by rfl) (by rfl) (by kernel_rfl) (fun _ _ _ h => h) (fun _ => rfl) (by intro vs w1 hx_ hd; have r0 := (hx_.cell hbl1).trans p0; have r1 := (hx_.cell hbl1).trans p1; have r2 := (hx_.cell hbl1).trans p2; have s0 := (hx_.cell hbl2).trans q0; have s1 := (hx_.cell hbl2).trans q1; have s2 := (hx_.cell hbl2).trans q2; go_simp; first | done | rfl) ?_
    refine mo_callK (fun v w => v = .bool false) 3 false (by rfl) (by rfl) (by kernel_rfl) (fun _ _ _ h => h) (fun _ => rfl) (by intro v wa wb h1 h2; exact h1) (by intro vs w9 hx_ hd; have e4 := hd 4 (by kernel_rfl); simp (decide := true) only [factAt, if_true, if_false] at e4; simp only [e4]; refine ⟨_, _, by go_simp; first | done | rfl | exact ⟨rfl, rfl⟩, ?_⟩; refine Calls.mono (C2.out _ hx_) ?_; rintro e w4 ⟨rfl, hx4⟩; exact ⟨_, rfl, rfl, hx4⟩) ?_
    refine mo_fixK _ 3 false (by rfl) (by rfl) (by kernel_rfl) (fun _ _ _ h => h) (fun _ => rfl) (by intro vs w1 hx_ hd; have r0 := (hx_.cell hbl1).trans p0; have r1 := (hx_.cell hbl1).trans p1; have r2 := (hx_.cell hbl1).trans p2; have s0 := (hx_.cell hbl2).trans q0; have s1 := (hx_.cell hbl2).trans q1; have s2 := (hx_.cell hbl2).trans q2; have e5 := hd 5 (by kernel_rfl); simp (decide := true) only [factAt, if_true, if_false] at e5; simp only [e5]; go_simp; first | done | rfl) ?_
    refine mo_fix _ (by rfl) (by rfl) (by intro vs w1 hx_ hd; have r0 := (hx_.cell hbl1).trans p0; have r1 := (hx_.cell hbl1).trans p1; have r2 := (hx_.cell hbl1).trans p2; have s0 := (hx_.cell hbl2).trans q0; have s1 := (hx_.cell hbl2).trans q1; have s2 := (hx_.cell hbl2).trans q2; have e3 := hd 3 (by kernel_rfl); have e6 := hd 6 (by kernel_rfl); simp (decide := true) only [factAt, if_true, if_false] at e3 e6; simp only [e3, e6]; go_simp; first | done | rfl) ?_
    refine mo_fix _ (by rfl) (by rfl) (by intro vs w1 hx_ hd; have r0 := (hx_.cell hbl1).trans p0; have r1 := (hx_.cell hbl1).trans p1; have r2 := (hx_.cell hbl1).trans p2; have s0 := (hx_.cell hbl2).trans q0; have s1 := (hx_.cell hbl2).trans q1; have s2 := (hx_.cell hbl2).trans q2; have e7 := hd 7 (by kernel_rfl); simp (decide := true) only [factAt, if_true, if_false] at e7; simp only [e7]; go_simp; first | done | rfl) ?_
    refine mo_skipK 8 false (by rfl) (by rfl) (by kernel_rfl) (fun _ _ _ h => h) (fun _ => rfl) ?_
    refine mo_skipK 8 false (by rfl) (by rfl) (by kernel_rfl) (fun _ _ _ h => h) (fun _ => rfl) ?_
    refine mo_skipK 8 false (by rfl) (by rfl) (by kernel_rfl) (fun _ _ _ h => h) (fun _ => rfl) ?_
    refine mo_skipK 8 false (by rfl) (by rfl) (by kernel_rfl) (fun _ _ _ h => h) (fun _ => rfl) ?_
    refine mo_skipK 8 false (by rfl) (by rfl) (by kernel_rfl) (fun _ _ _ h => h) (fun _ => rfl) ?_
    refine mo_fix _ (by rfl) (by rfl) (by intro vs w1 hx_ hd; have r0 := (hx_.cell hbl1).trans p0; have r1 := (hx_.cell hbl1).trans p1; have r2 := (hx_.cell hbl1).trans p2; have s0 := (hx_.cell hbl2).trans q0; have s1 := (hx_.cell hbl2).trans q1; have s2 := (hx_.cell hbl2).trans q2; have e8 := hd 8 (by kernel_rfl); simp (decide := true) only [factAt, if_true, if_false] at e8; simp only [e8]; go_simp; first | done | rfl) ?_
    refine mo_fix _ (by rfl) (by rfl) (by intro vs w1 hx_ hd; have r0 := (hx_.cell hbl1).trans p0; have r1 := (hx_.cell hbl1).trans p1; have r2 := (hx_.cell hbl1).trans p2; have s0 := (hx_.cell hbl2).trans q0; have s1 := (hx_.cell hbl2).trans q1; have s2 := (hx_.cell hbl2).trans q2; have e14 := hd 14 (by kernel_rfl); simp (decide := true) only [factAt, if_true, if_false] at e14; simp only [e14]; go_simp; first | done | rfl) ?_
    refine mo_skipK 15 false (by rfl) (by rfl) (by kernel_rfl) (fun _ _ _ h => h) (fun _ => rfl) ?_
    refine mo_skipK 15 false (by rfl) (by rfl) (by kernel_rfl) (fun _ _ _ h => h) (fun _ => rfl) ?_
    refine mo_skipK 15 false (by rfl) (by rfl) (by kernel_rfl) (fun _ _ _ h => h) (fun _ => rfl) ?_
    refine mo_skipK 15 false (by rfl) (by rfl) (by kernel_rfl) (fun _ _ _ h => h) (fun _ => rfl) ?_
    refine mo_skipK 15 false (by rfl) (by rfl) (by kernel_rfl) (fun _ _ _ h => h) (fun _ => rfl) ?_
    refine mo_end ?_
    intro vs w2 hx2 hd
    have e15 := hd 15 (by kernel_rfl)
    have e20 := hd 20 (by kernel_rfl)
    simp (decide := true) only [factAt, if_true, if_false] at e15 e20
    generalize vs 15 = v15 at e15 ⊢
    subst e15
    generalize vs 20 = v20 at e20 ⊢
    subst e20
    clear hd
    obtain ⟨c0, c1, c2, x0, x1, x2⟩ := HZ.out _ hx2
    go_wp2_with (fail)
    (try simp only [Exit.inBlock, Exit.then])
    refine bodyPost_ret (results_cellJ rfl _ _ (w.heap.size + 1 + 1) 27 #[.int .i64 0, .int .i64 0, .slice none 0 0] (0, 0) _ rfl (by exact blk_set1 (blk_set1 (blk_set1 (hx2.blk HZB.out) 0 _) 1 _) 2 _) Try.underlying27 rfl (by kernel_rfl)) rfl ?_
    exact retT_no rfl (ext3 (hx1.trans hx2) (by omega) _ _ _)
  rw [hV2] at C2
  by_cases hX : S.x = U.x
  case neg =>
    have hno : okJ S U = false := by unfold okJ; rw [decide_eq_false hX]; simp
    rw [hno]
    have hxx : (S.x != U.x) = true := by simpa using hX
    clear h k hp hp' hX
    go_enter Try.func60, Try.ntmps60
    go_wp2_with (fail)
    rw [← hW1]
    clear hW1
    refine wp_region_any (by kernel_rfl) ?_
    refine wpAny_mo_go (md := .any) (R := Ext) (w := W1) [(0, 7), (1, 8), (2, 9), (3, 10), (4, 11), (5, 12), (6, 13), (7, 14), (8, 15), (9, 16), (10, 17), (11, 18), (12, 19), (13, 20), (14, 21), (15, 22), (16, 23), (17, 24), (18, 25), (19, 26), (20, 27)] [21] (tl := [_]) (S := ?S3_) (by kernel_rfl) (by rfl) (by rfl) Ext.refl ext_tr (ext_drew1 _) ?hS3_ ?go3_
    case hS3_ => intro vs; simp only [putAll, Act.put, List.setIfInBounds_toArray, List.set_cons_zero, List.set_cons_succ]; rfl
    case go3_ =>
    refine mo_fix _ (by rfl) (by rfl) (by intro vs w1 hx_ hd; have r0 := (hx_.cell hbl1).trans p0; have r1 := (hx_.cell hbl1).trans p1; have r2 := (hx_.cell hbl1).trans p2; have s0 := (hx_.cell hbl2).trans q0; have s1 := (hx_.cell hbl2).trans q1; have s2 := (hx_.cell hbl2).trans q2; go_simp; first | done | rfl) ?_
    refine mo_call (fun v w => v = .bool true) (by rfl) (by rfl) (by intro v wa wb h1 h2; exact h1) (by intro vs w9 hx_ hd; have e0 := hd 0 (by kernel_rfl); simp (decide := true) only [factAt, if_true, if_false] at e0; simp only [e0]; refine ⟨_, _, by go_simp; first | done | rfl | exact ⟨rfl, rfl⟩, ?_⟩; refine Calls.mono (C1.out _ hx_) ?_; rintro e w4 ⟨rfl, hx4⟩; exact ⟨_, rfl, rfl, hx4⟩) ?_
    refine mo_fix _ (by rfl) (by rfl) (by intro vs w1 hx_ hd; have r0 := (hx_.cell hbl1).trans p0; have r1 := (hx_.cell hbl1).trans p1; have r2 := (hx_.cell hbl1).trans p2; have s0 := (hx_.cell hbl2).trans q0; have s1 := (hx_.cell hbl2).trans q1; have s2 := (hx_.cell hbl2).trans q2; have e1 := hd 1 (by kernel_rfl); simp (decide := true) only [factAt, if_true, if_false] at e1; simp only [e1]; go_simp; first | done | rfl) ?_
    refine mo_fix _ (by rfl) (by rfl) (by intro vs w1 hx_ hd; have r0 := (hx_.cell hbl1).trans p0; have r1 := (hx_.cell hbl1).trans p1; have r2 := (hx_.cell hbl1).trans p2; have s0 := (hx_.cell hbl2).trans q0; have s1 := (hx_.cell hbl2).trans q1; have s2 := (hx_.cell hbl2).trans q2; have e2 := hd 2 (by kernel_rfl); simp (decide := true) only [factAt, if_true, if_false] at e2; simp only [e2]; go_simp; first | done | rfl) ?_
    refine mo_fixK _ 3 false (by rfl) (by rfl) (by kernel_rfl) (fun _ _ _ h => h) (fun _ => rfl) (by intro vs w1 hx_ hd; have r0 := (hx_.cell hbl1).trans p0; have r1 := (hx_.cell hbl1).trans p1; have r2 := (hx_.cell hbl1).trans p2; have s0 := (hx_.cell hbl2).trans q0; have s1 := (hx_.cell hbl2).trans q1; have s2 := (hx_.cell hbl2).trans q2; go_simp; first | done | rfl) ?_
    refine mo_callK (fun v w => v = .bool true) 3 false (by rfl) (by rfl) (by kernel_rfl) (fun _ _ _ h => h) (fun _ => rfl) (by intro v wa wb h1 h2; exact h1) (by intro vs w9 hx_ hd; have e4 := hd 4 (by kernel_rfl); simp (decide := true) only [factAt, if_true, if_false] at e4; simp only [e4]; refine ⟨_, _, by go_simp; first | done | rfl | exact ⟨rfl, rfl⟩, ?_⟩; refine Calls.mono (C2.out _ hx_) ?_; rintro e w4 ⟨rfl, hx4⟩; exact ⟨_, rfl, rfl, hx4⟩) ?_
    refine mo_fixK _ 3 false (by rfl) (by rfl) (by kernel_rfl) (fun _ _ _ h => h) (fun _ => rfl) (by intro vs w1 hx_ hd; have r0 := (hx_.cell hbl1).trans p0; have r1 := (hx_.cell hbl1).trans p1; have r2 := (hx_.cell hbl1).trans p2; have s0 := (hx_.cell hbl2).trans q0; have s1 := (hx_.cell hbl2).trans q1; have s2 := (hx_.cell hbl2).trans q2; have e5 := hd 5 (by kernel_rfl); simp (decide := true) only [factAt, if_true, if_false] at e5; simp only [e5]; go_simp; first | done | rfl) ?_
    refine mo_fix _ (by rfl) (by rfl) (by intro vs w1 hx_ hd; have r0 := (hx_.cell hbl1).trans p0; have r1 := (hx_.cell hbl1).trans p1; have r2 := (hx_.cell hbl1).trans p2; have s0 := (hx_.cell hbl2).trans q0; have s1 := (hx_.cell hbl2).trans q1; have s2 := (hx_.cell hbl2).trans q2; have e3 := hd 3 (by kernel_rfl); have e6 := hd 6 (by kernel_rfl); simp (decide := true) only [factAt, if_true, if_false] at e3 e6; simp only [e3, e6]; go_simp; first | done | rfl) ?_
    refine mo_fix _ (by rfl) (by rfl) (by intro vs w1 hx_ hd; have r0 := (hx_.cell hbl1).trans p0; have r1 := (hx_.cell hbl1).trans p1; have r2 := (hx_.cell hbl1).trans p2; have s0 := (hx_.cell hbl2).trans q0; have s1 := (hx_.cell hbl2).trans q1; have s2 := (hx_.cell hbl2).trans q2; have e7 := hd 7 (by kernel_rfl); simp (decide := true) only [factAt, if_true, if_false] at e7; simp only [e7]; go_simp; first | done | rfl) ?_
    refine mo_fixK _ 8 false (by rfl) (by rfl) (by kernel_rfl) (fun _ _ _ h => h) (fun _ => rfl) (by intro vs w1 hx_ hd; have r0 := (hx_.cell hbl1).trans p0; have r1 := (hx_.cell hbl1).trans p1; have r2 := (hx_.cell hbl1).trans p2; have s0 := (hx_.cell hbl2).trans q0; have s1 := (hx_.cell hbl2).trans q1; have s2 := (hx_.cell hbl2).trans q2; go_simp; first | done | rfl) ?_
    refine mo_fixK _ 8 false (by rfl) (by rfl) (by kernel_rfl) (fun _ _ _ h => h) (fun _ => rfl) (by intro vs w1 hx_ hd; have r0 := (hx_.cell hbl1).trans p0; have r1 := (hx_.cell hbl1).trans p1; have r2 := (hx_.cell hbl1).trans p2; have s0 := (hx_.cell hbl2).trans q0; have s1 := (hx_.cell hbl2).trans q1; have s2 := (hx_.cell hbl2).trans q2; have e9 := hd 9 (by kernel_rfl); simp (decide := true) only [factAt, if_true, if_false] at e9; simp only [e9]; go_simp; first | done | rfl) ?_
    refine mo_fixK _ 8 false (by rfl) (by rfl) (by kernel_rfl) (fun _ _ _ h => h) (fun _ => rfl) (by intro vs w1 hx_ hd; have r0 := (hx_.cell hbl1).trans p0; have r1 := (hx_.cell hbl1).trans p1; have r2 := (hx_.cell hbl1).trans p2; have s0 := (hx_.cell hbl2).trans q0; have s1 := (hx_.cell hbl2).trans q1; have s2 := (hx_.cell hbl2).trans q2; go_simp; first | done | rfl) ?_
    refine mo_fixK _ 8 false (by rfl) (by rfl) (by kernel_rfl) (fun _ _ _ h => h) (fun _ => rfl) (by intro vs w1 hx_ hd; have r0 := (hx_.cell hbl1).trans p0; have r1 := (hx_.cell hbl1).trans p1; have r2 := (hx_.cell hbl1).trans p2; have s0 := (hx_.cell hbl2).trans q0; have s1 := (hx_.cell hbl2).trans q1; have s2 := (hx_.cell hbl2).trans q2; have e11 := hd 11 (by kernel_rfl); simp (decide := true) only [factAt, if_true, if_false] at e11; simp only [e11]; go_simp; first | done | rfl) ?_
    refine mo_fixK _ 8 false (by rfl) (by rfl) (by kernel_rfl) (fun _ _ _ h => h) (fun _ => rfl) (by intro vs w1 hx_ hd; have r0 := (hx_.cell hbl1).trans p0; have r1 := (hx_.cell hbl1).trans p1; have r2 := (hx_.cell hbl1).trans p2; have s0 := (hx_.cell hbl2).trans q0; have s1 := (hx_.cell hbl2).trans q1; have s2 := (hx_.cell hbl2).trans q2; have e10 := hd 10 (by kernel_rfl); have e12 := hd 12 (by kernel_rfl); simp (decide := true) only [factAt, if_true, if_false] at e10 e12; simp only [e10, e12]; go_simp; first | done | rfl) ?_
    refine mo_fix _ (by rfl) (by rfl) (by intro vs w1 hx_ hd; have r0 := (hx_.cell hbl1).trans p0; have r1 := (hx_.cell hbl1).trans p1; have r2 := (hx_.cell hbl1).trans p2; have s0 := (hx_.cell hbl2).trans q0; have s1 := (hx_.cell hbl2).trans q1; have s2 := (hx_.cell hbl2).trans q2; have e8 := hd 8 (by kernel_rfl); have e13 := hd 13 (by kernel_rfl); simp (decide := true) only [factAt, if_true, if_false] at e8 e13; simp only [e8, e13]; go_simp; first | done | rfl) ?_
    refine mo_fix _ (by rfl) (by rfl) (by intro vs w1 hx_ hd; have r0 := (hx_.cell hbl1).trans p0; have r1 := (hx_.cell hbl1).trans p1; have r2 := (hx_.cell hbl1).trans p2; have s0 := (hx_.cell hbl2).trans q0; have s1 := (hx_.cell hbl2).trans q1; have s2 := (hx_.cell hbl2).trans q2; have e14 := hd 14 (by kernel_rfl); simp (decide := true) only [factAt, if_true, if_false] at e14; simp only [e14]; go_simp; first | done | rfl) ?_
    refine mo_skipK 15 false (by rfl) (by rfl) (by kernel_rfl) (fun _ _ _ h => h) (fun _ => rfl) ?_
    refine mo_skipK 15 false (by rfl) (by rfl) (by kernel_rfl) (fun _ _ _ h => h) (fun _ => rfl) ?_
    refine mo_skipK 15 false (by rfl) (by rfl) (by kernel_rfl) (fun _ _ _ h => h) (fun _ => rfl) ?_
    refine mo_skipK 15 false (by rfl) (by rfl) (by kernel_rfl) (fun _ _ _ h => h) (fun _ => rfl) ?_
    refine mo_skipK 15 false (by rfl) (by rfl) (by kernel_rfl) (fun _ _ _ h => h) (fun _ => rfl) ?_
    refine mo_end ?_
    intro vs w2 hx2 hd
    have e15 := hd 15 (by kernel_rfl)
    have e20 := hd 20 (by kernel_rfl)
    simp (decide := true) only [factAt, if_true, if_false] at e15 e20
    generalize vs 15 = v15 at e15 ⊢
    subst e15
    generalize vs 20 = v20 at e20 ⊢
    subst e20
    clear hd
    obtain ⟨c0, c1, c2, x0, x1, x2⟩ := HZ.out _ hx2
    go_wp2_with (fail)
    (try simp only [Exit.inBlock, Exit.then])
    refine bodyPost_ret (results_cellJ rfl _ _ (w.heap.size + 1 + 1) 27 #[.int .i64 0, .int .i64 0, .slice none 0 0] (0, 0) _ rfl (by exact blk_set1 (blk_set1 (blk_set1 (hx2.blk HZB.out) 0 _) 1 _) 2 _) Try.underlying27 rfl (by kernel_rfl)) rfl ?_
    exact retT_no rfl (ext3 (hx1.trans hx2) (by omega) _ _ _)
  have hxx : (S.x != U.x) = false := by simp [hX]
  obtain ⟨_, _, v1, v2, v3, v4, _⟩ := fvF_of hV
  obtain ⟨_, _, _, _, v5, v6, _⟩ := fvF_of hV2
  obtain ⟨T, hT⟩ : ∃ T, S.z + (S.v.length : Int) = T := ⟨_, rfl⟩
  have CE := Lib.hid (fun (W : World) => c_endOfJ (w := W) (x := S.x) (z := S.z) (A := A) (n := S.v.length) (c := c) hT (by omega) (by omega))
  by_cases hZ : U.z = T
  case neg =>
    have hno : okJ S U = false := by unfold okJ; rw [hT, decide_eq_false hZ]; simp
    rw [hno]
    have hzz : (U.z != T) = true := by simpa using hZ
    clear h k hp hp' hX hZ hT
    go_enter Try.func60, Try.ntmps60
    go_wp2_with (fail)
    rw [← hW1]
    clear hW1
    refine wp_region_any (by kernel_rfl) ?_
    refine wpAny_mo_go (md := .any) (R := Ext) (w := W1) [(0, 7), (1, 8), (2, 9), (3, 10), (4, 11), (5, 12), (6, 13), (7, 14), (8, 15), (9, 16), (10, 17), (11, 18), (12, 19), (13, 20), (14, 21), (15, 22), (16, 23), (17, 24), (18, 25), (19, 26), (20, 27)] [21] (tl := [_]) (S := ?S4_) (by kernel_rfl) (by rfl) (by rfl) Ext.refl ext_tr (ext_drew1 _) ?hS4_ ?go4_
    case hS4_ => intro vs; simp only [putAll, Act.put, List.setIfInBounds_toArray, List.set_cons_zero, List.set_cons_succ]; rfl
    case go4_ =>
    refine mo_fix _ (by rfl) (by rfl) (by intro vs w1 hx_ hd; have r0 := (hx_.cell hbl1).trans p0; have r1 := (hx_.cell hbl1).trans p1; have r2 := (hx_.cell hbl1).trans p2; have s0 := (hx_.cell hbl2).trans q0; have s1 := (hx_.cell hbl2).trans q1; have s2 := (hx_.cell hbl2).trans q2; go_simp; first | done | rfl) ?_
    refine mo_call (fun v w => v = .bool true) (by rfl) (by rfl) (by intro v wa wb h1 h2; exact h1) (by intro vs w9 hx_ hd; have e0 := hd 0 (by kernel_rfl); simp (decide := true) only [factAt, if_true, if_false] at e0; simp only [e0]; refine ⟨_, _, by go_simp; first | done | rfl | exact ⟨rfl, rfl⟩, ?_⟩; refine Calls.mono (C1.out _ hx_) ?_; rintro e w4 ⟨rfl, hx4⟩; exact ⟨_, rfl, rfl, hx4⟩) ?_
    refine mo_fix _ (by rfl) (by rfl) (by intro vs w1 hx_ hd; have r0 := (hx_.cell hbl1).trans p0; have r1 := (hx_.cell hbl1).trans p1; have r2 := (hx_.cell hbl1).trans p2; have s0 := (hx_.cell hbl2).trans q0; have s1 := (hx_.cell hbl2).trans q1; have s2 := (hx_.cell hbl2).trans q2; have e1 := hd 1 (by kernel_rfl); simp (decide := true) only [factAt, if_true, if_false] at e1; simp only [e1]; go_simp; first | done | rfl) ?_
    refine mo_fix _ (by rfl) (by rfl) (by intro vs w1 hx_ hd; have r0 := (hx_.cell hbl1).trans p0; have r1 := (hx_.cell hbl1).trans p1; have r2 := (hx_.cell hbl1).trans p2; have s0 := (hx_.cell hbl2).trans q0; have s1 := (hx_.cell hbl2).trans q1; have s2 := (hx_.cell hbl2).trans q2; have e2 := hd 2 (by kernel_rfl); simp (decide := true) only [factAt, if_true, if_false] at e2; simp only [e2]; go_simp; first | done | rfl) ?_
    refine mo_fixK _ 3 false (by rfl) (by rfl) (by kernel_rfl) (fun _ _ _ h => h) (fun _ => rfl) (by intro vs w1 hx_ hd; have r0 := (hx_.cell hbl1).trans p0; have r1 := (hx_.cell hbl1).trans p1; have r2 := (hx_.cell hbl1).trans p2; have s0 := (hx_.cell hbl2).trans q0; have s1 := (hx_.cell hbl2).trans q1; have s2 := (hx_.cell hbl2).trans q2; go_simp; first | done | rfl) ?_
    refine mo_callK (fun v w => v = .bool true) 3 false (by rfl) (by rfl) (by kernel_rfl) (fun _ _ _ h => h) (fun _ => rfl) (by intro v wa wb h1 h2; exact h1) (by intro vs w9 hx_ hd; have e4 := hd 4 (by kernel_rfl); simp (decide := true) only [factAt, if_true, if_false] at e4; simp only [e4]; refine ⟨_, _, by go_simp; first | done | rfl | exact ⟨rfl, rfl⟩, ?_⟩; refine Calls.mono (C2.out _ hx_) ?_; rintro e w4 ⟨rfl, hx4⟩; exact ⟨_, rfl, rfl, hx4⟩) ?_
    refine mo_fixK _ 3 false (by rfl) (by rfl) (by kernel_rfl) (fun _ _ _ h => h) (fun _ => rfl) (by intro vs w1 hx_ hd; have r0 := (hx_.cell hbl1).trans p0; have r1 := (hx_.cell hbl1).trans p1; have r2 := (hx_.cell hbl1).trans p2; have s0 := (hx_.cell hbl2).trans q0; have s1 := (hx_.cell hbl2).trans q1; have s2 := (hx_.cell hbl2).trans q2; have e5 := hd 5 (by kernel_rfl); simp (decide := true) only [factAt, if_true, if_false] at e5; simp only [e5]; go_simp; first | done | rfl) ?_
    refine mo_fix _ (by rfl) (by rfl) (by intro vs w1 hx_ hd; have r0 := (hx_.cell hbl1).trans p0; have r1 := (hx_.cell hbl1).trans p1; have r2 := (hx_.cell hbl1).trans p2; have s0 := (hx_.cell hbl2).trans q0; have s1 := (hx_.cell hbl2).trans q1; have s2 := (hx_.cell hbl2).trans q2; have e3 := hd 3 (by kernel_rfl); have e6 := hd 6 (by kernel_rfl); simp (decide := true) only [factAt, if_true, if_false] at e3 e6; simp only [e3, e6]; go_simp; first | done | rfl) ?_
    refine mo_fix _ (by rfl) (by rfl) (by intro vs w1 hx_ hd; have r0 := (hx_.cell hbl1).trans p0; have r1 := (hx_.cell hbl1).trans p1; have r2 := (hx_.cell hbl1).trans p2; have s0 := (hx_.cell hbl2).trans q0; have s1 := (hx_.cell hbl2).trans q1; have s2 := (hx_.cell hbl2).trans q2; have e7 := hd 7 (by kernel_rfl); simp (decide := true) only [factAt, if_true, if_false] at e7; simp only [e7]; go_simp; first | done | rfl) ?_
    refine mo_fixK _ 8 false (by rfl) (by rfl) (by kernel_rfl) (fun _ _ _ h => h) (fun _ => rfl) (by intro vs w1 hx_ hd; have r0 := (hx_.cell hbl1).trans p0; have r1 := (hx_.cell hbl1).trans p1; have r2 := (hx_.cell hbl1).trans p2; have s0 := (hx_.cell hbl2).trans q0; have s1 := (hx_.cell hbl2).trans q1; have s2 := (hx_.cell hbl2).trans q2; go_simp; first | done | rfl) ?_
    refine mo_fixK _ 8 false (by rfl) (by rfl) (by kernel_rfl) (fun _ _ _ h => h) (fun _ => rfl) (by intro vs w1 hx_ hd; have r0 := (hx_.cell hbl1).trans p0; have r1 := (hx_.cell hbl1).trans p1; have r2 := (hx_.cell hbl1).trans p2; have s0 := (hx_.cell hbl2).trans q0; have s1 := (hx_.cell hbl2).trans q1; have s2 := (hx_.cell hbl2).trans q2; have e9 := hd 9 (by kernel_rfl); simp (decide := true) only [factAt, if_true, if_false] at e9; simp only [e9]; go_simp; first | done | rfl) ?_
    refine mo_fixK _ 8 false (by rfl) (by rfl) (by kernel_rfl) (fun _ _ _ h => h) (fun _ => rfl) (by intro vs w1 hx_ hd; have r0 := (hx_.cell hbl1).trans p0; have r1 := (hx_.cell hbl1).trans p1; have r2 := (hx_.cell hbl1).trans p2; have s0 := (hx_.cell hbl2).trans q0; have s1 := (hx_.cell hbl2).trans q1; have s2 := (hx_.cell hbl2).trans q2; go_simp; first | done | rfl) ?_
    refine mo_fixK _ 8 false (by rfl) (by rfl) (by kernel_rfl) (fun _ _ _ h => h) (fun _ => rfl) (by intro vs w1 hx_ hd; have r0 := (hx_.cell hbl1).trans p0; have r1 := (hx_.cell hbl1).trans p1; have r2 := (hx_.cell hbl1).trans p2; have s0 := (hx_.cell hbl2).trans q0; have s1 := (hx_.cell hbl2).trans q1; have s2 := (hx_.cell hbl2).trans q2; have e11 := hd 11 (by kernel_rfl); simp (decide := true) only [factAt, if_true, if_false] at e11; simp only [e11]; go_simp; first | done | rfl) ?_
    refine mo_fixK _ 8 false (by rfl) (by rfl) (by kernel_rfl) (fun _ _ _ h => h) (fun _ => rfl) (by intro vs w1 hx_ hd; have r0 := (hx_.cell hbl1).trans p0; have r1 := (hx_.cell hbl1).trans p1; have r2 := (hx_.cell hbl1).trans p2; have s0 := (hx_.cell hbl2).trans q0; have s1 := (hx_.cell hbl2).trans q1; have s2 := (hx_.cell hbl2).trans q2; have e10 := hd 10 (by kernel_rfl); have e12 := hd 12 (by kernel_rfl); simp (decide := true) only [factAt, if_true, if_false] at e10 e12; simp only [e10, e12]; go_simp; first | done | rfl) ?_
    refine mo_fix _ (by rfl) (by rfl) (by intro vs w1 hx_ hd; have r0 := (hx_.cell hbl1).trans p0; have r1 := (hx_.cell hbl1).trans p1; have r2 := (hx_.cell hbl1).trans p2; have s0 := (hx_.cell hbl2).trans q0; have s1 := (hx_.cell hbl2).trans q1; have s2 := (hx_.cell hbl2).trans q2; have e8 := hd 8 (by kernel_rfl); have e13 := hd 13 (by kernel_rfl); simp (decide := true) only [factAt, if_true, if_false] at e8 e13; simp only [e8, e13]; go_simp; first | done | rfl) ?_
    refine mo_fix _ (by rfl) (by rfl) (by intro vs w1 hx_ hd; have r0 := (hx_.cell hbl1).trans p0; have r1 := (hx_.cell hbl1).trans p1; have r2 := (hx_.cell hbl1).trans p2; have s0 := (hx_.cell hbl2).trans q0; have s1 := (hx_.cell hbl2).trans q1; have s2 := (hx_.cell hbl2).trans q2; have e14 := hd 14 (by kernel_rfl); simp (decide := true) only [factAt, if_true, if_false] at e14; simp only [e14]; go_simp; first | done | rfl) ?_
    refine mo_fixK _ 15 false (by rfl) (by rfl) (by kernel_rfl) (fun _ _ _ h => h) (fun _ => rfl) (by intro vs w1 hx_ hd; have r0 := (hx_.cell hbl1).trans p0; have r1 := (hx_.cell hbl1).trans p1; have r2 := (hx_.cell hbl1).trans p2; have s0 := (hx_.cell hbl2).trans q0; have s1 := (hx_.cell hbl2).trans q1; have s2 := (hx_.cell hbl2).trans q2; go_simp; first | done | rfl) ?_
    refine mo_fixK _ 15 false (by rfl) (by rfl) (by kernel_rfl) (fun _ _ _ h => h) (fun _ => rfl) (by intro vs w1 hx_ hd; have r0 := (hx_.cell hbl1).trans p0; have r1 := (hx_.cell hbl1).trans p1; have r2 := (hx_.cell hbl1).trans p2; have s0 := (hx_.cell hbl2).trans q0; have s1 := (hx_.cell hbl2).trans q1; have s2 := (hx_.cell hbl2).trans q2; have e16 := hd 16 (by kernel_rfl); simp (decide := true) only [factAt, if_true, if_false] at e16; simp only [e16]; go_simp; first | done | rfl) ?_
    refine mo_fixK _ 15 false (by rfl) (by rfl) (by kernel_rfl) (fun _ _ _ h => h) (fun _ => rfl) (by intro vs w1 hx_ hd; have r0 := (hx_.cell hbl1).trans p0; have r1 := (hx_.cell hbl1).trans p1; have r2 := (hx_.cell hbl1).trans p2; have s0 := (hx_.cell hbl2).trans q0; have s1 := (hx_.cell hbl2).trans q1; have s2 := (hx_.cell hbl2).trans q2; go_simp; first | done | rfl) ?_
    refine mo_callK (fun v w => v = .int .i64 T) 15 false (by rfl) (by rfl) (by kernel_rfl) (fun _ _ _ h => h) (fun _ => rfl) (by intro v wa wb h1 h2; exact h1) (by intro vs w9 hx_ hd; have e18 := hd 18 (by kernel_rfl); simp (decide := true) only [factAt, if_true, if_false] at e18; simp only [e18]; refine ⟨_, _, by go_simp; first | done | rfl | exact ⟨rfl, rfl⟩, ?_⟩; refine Calls.mono (CE.out _) ?_; rintro e w4 ⟨rfl, hx4⟩; exact ⟨_, rfl, rfl, hx4⟩) ?_
    refine mo_fixK _ 15 false (by rfl) (by rfl) (by kernel_rfl) (fun _ _ _ h => h) (fun _ => rfl) (by intro vs w1 hx_ hd; have r0 := (hx_.cell hbl1).trans p0; have r1 := (hx_.cell hbl1).trans p1; have r2 := (hx_.cell hbl1).trans p2; have s0 := (hx_.cell hbl2).trans q0; have s1 := (hx_.cell hbl2).trans q1; have s2 := (hx_.cell hbl2).trans q2; have e17 := hd 17 (by kernel_rfl); have e19 := hd 19 (by kernel_rfl); simp (decide := true) only [factAt, if_true, if_false] at e17 e19; simp only [e17, e19]; go_simp; first | done | rfl) ?_
    refine mo_end ?_
    intro vs w2 hx2 hd
    have e15 := hd 15 (by kernel_rfl)
    have e20 := hd 20 (by kernel_rfl)
    simp (decide := true) only [factAt, if_true, if_false] at e15 e20
    generalize vs 15 = v15 at e15 ⊢
    subst e15
    generalize vs 20 = v20 at e20 ⊢
    subst e20
    clear hd
    obtain ⟨c0, c1, c2, x0, x1, x2⟩ := HZ.out _ hx2
    go_wp2_with (fail)
    (try simp only [Exit.inBlock, Exit.then])
    refine bodyPost_ret (results_cellJ rfl _ _ (w.heap.size + 1 + 1) 27 #[.int .i64 0, .int .i64 0, .slice none 0 0] (0, 0) _ rfl (by exact blk_set1 (blk_set1 (blk_set1 (hx2.blk HZB.out) 0 _) 1 _) 2 _) Try.underlying27 rfl (by kernel_rfl)) rfl ?_
    exact retT_no rfl (ext3 (hx1.trans hx2) (by omega) _ _ _)
  have hzz : (U.z != T) = false := by simp [hZ]
  have hok : okJ S U = fvF (joinT S U) := by unfold okJ; rw [hV, hV2, decide_eq_true hX, hT, decide_eq_true hZ]; rfl
  have R1 := Lib.hid (fun (W : World) (hW : Ext w W) => (hp.more hB0).below hW)
  have R2 := Lib.hid (fun (W : World) (hW : Ext w W) => (hp'.more hB1).below hW)
  obtain ⟨N, hN⟩ : ∃ N, S.v.length + U.v.length = N := ⟨_, rfl⟩
  have HN := Lib.hid hN
  have HOK := Lib.hid hok
  have hjl := joinT_len S U
  rw [hN] at hjl
  have HJL := Lib.hid hjl
  clear h k hp hp' hX hZ hT hN hok hjl
  go_enter Try.func60, Try.ntmps60
  go_wp2_with (fail)
  rw [← hW1]
  clear hW1
  refine wp_region_any (by kernel_rfl) ?_
  refine wpAny_mo_go (md := .any) (R := Ext) (w := W1) [(0, 7), (1, 8), (2, 9), (3, 10), (4, 11), (5, 12), (6, 13), (7, 14), (8, 15), (9, 16), (10, 17), (11, 18), (12, 19), (13, 20), (14, 21), (15, 22), (16, 23), (17, 24), (18, 25), (19, 26), (20, 27)] [21] (tl := [_]) (S := ?S5_) (by kernel_rfl) (by rfl) (by rfl) Ext.refl ext_tr (ext_drew1 _) ?hS5_ ?go5_
  case hS5_ => intro vs; simp only [putAll, Act.put, List.setIfInBounds_toArray, List.set_cons_zero, List.set_cons_succ]; rfl
  case go5_ =>
  refine mo_fix _ (by rfl) (by rfl) (by intro vs w1 hx_ hd; have r0 := (hx_.cell hbl1).trans p0; have r1 := (hx_.cell hbl1).trans p1; have r2 := (hx_.cell hbl1).trans p2; have s0 := (hx_.cell hbl2).trans q0; have s1 := (hx_.cell hbl2).trans q1; have s2 := (hx_.cell hbl2).trans q2; go_simp; first | done | rfl) ?_
  refine mo_call (fun v w => v = .bool true) (by rfl) (by rfl) (by intro v wa wb h1 h2; exact h1) (by intro vs w9 hx_ hd; have e0 := hd 0 (by kernel_rfl); simp (decide := true) only [factAt, if_true, if_false] at e0; simp only [e0]; refine ⟨_, _, by go_simp; first | done | rfl | exact ⟨rfl, rfl⟩, ?_⟩; refine Calls.mono (C1.out _ hx_) ?_; rintro e w4 ⟨rfl, hx4⟩; exact ⟨_, rfl, rfl, hx4⟩) ?_
  refine mo_fix _ (by rfl) (by rfl) (by intro vs w1 hx_ hd; have r0 := (hx_.cell hbl1).trans p0; have r1 := (hx_.cell hbl1).trans p1; have r2 := (hx_.cell hbl1).trans p2; have s0 := (hx_.cell hbl2).trans q0; have s1 := (hx_.cell hbl2).trans q1; have s2 := (hx_.cell hbl2).trans q2; have e1 := hd 1 (by kernel_rfl); simp (decide := true) only [factAt, if_true, if_false] at e1; simp only [e1]; go_simp; first | done | rfl) ?_
  refine mo_fix _ (by rfl) (by rfl) (by intro vs w1 hx_ hd; have r0 := (hx_.cell hbl1).trans p0; have r1 := (hx_.cell hbl1).trans p1; have r2 := (hx_.cell hbl1).trans p2; have s0 := (hx_.cell hbl2).trans q0; have s1 := (hx_.cell hbl2).trans q1; have s2 := (hx_.cell hbl2).trans q2; have e2 := hd 2 (by kernel_rfl); simp (decide := true) only [factAt, if_true, if_false] at e2; simp only [e2]; go_simp; first | done | rfl) ?_
  refine mo_fixK _ 3 false (by rfl) (by rfl) (by kernel_rfl) (fun _ _ _ h => h) (fun _ => rfl) (by intro vs w1 hx_ hd; have r0 := (hx_.cell hbl1).trans p0; have r1 := (hx_.cell hbl1).trans p1; have r2 := (hx_.cell hbl1).trans p2; have s0 := (hx_.cell hbl2).trans q0; have s1 := (hx_.cell hbl2).trans q1; have s2 := (hx_.cell hbl2).trans q2; go_simp; first | done | rfl) ?_
  refine mo_callK (fun v w => v = .bool true) 3 false (by rfl) (by rfl) (by kernel_rfl) (fun _ _ _ h => h) (fun _ => rfl) (by intro v wa wb h1 h2; exact h1) (by intro vs w9 hx_ hd; have e4 := hd 4 (by kernel_rfl); simp (decide := true) only [factAt, if_true, if_false] at e4; simp only [e4]; refine ⟨_, _, by go_simp; first | done | rfl | exact ⟨rfl, rfl⟩, ?_⟩; refine Calls.mono (C2.out _ hx_) ?_; rintro e w4 ⟨rfl, hx4⟩; exact ⟨_, rfl, rfl, hx4⟩) ?_
  refine mo_fixK _ 3 false (by rfl) (by rfl) (by kernel_rfl) (fun _ _ _ h => h) (fun _ => rfl) (by intro vs w1 hx_ hd; have r0 := (hx_.cell hbl1).trans p0; have r1 := (hx_.cell hbl1).trans p1; have r2 := (hx_.cell hbl1).trans p2; have s0 := (hx_.cell hbl2).trans q0; have s1 := (hx_.cell hbl2).trans q1; have s2 := (hx_.cell hbl2).trans q2; have e5 := hd 5 (by kernel_rfl); simp (decide := true) only [factAt, if_true, if_false] at e5; simp only [e5]; go_simp; first | done | rfl) ?_
  refine mo_fix _ (by rfl) (by rfl) (by intro vs w1 hx_ hd; have r0 := (hx_.cell hbl1).trans p0; have r1 := (hx_.cell hbl1).trans p1; have r2 := (hx_.cell hbl1).trans p2; have s0 := (hx_.cell hbl2).trans q0; have s1 := (hx_.cell hbl2).trans q1; have s2 := (hx_.cell hbl2).trans q2; have e3 := hd 3 (by kernel_rfl); have e6 := hd 6 (by kernel_rfl); simp (decide := true) only [factAt, if_true, if_false] at e3 e6; simp only [e3, e6]; go_simp; first | done | rfl) ?_
  refine mo_fix _ (by rfl) (by rfl) (by intro vs w1 hx_ hd; have r0 := (hx_.cell hbl1).trans p0; have r1 := (hx_.cell hbl1).trans p1; have r2 := (hx_.cell hbl1).trans p2; have s0 := (hx_.cell hbl2).trans q0; have s1 := (hx_.cell hbl2).trans q1; have s2 := (hx_.cell hbl2).trans q2; have e7 := hd 7 (by kernel_rfl); simp (decide := true) only [factAt, if_true, if_false] at e7; simp only [e7]; go_simp; first | done | rfl) ?_
  refine mo_fixK _ 8 false (by rfl) (by rfl) (by kernel_rfl) (fun _ _ _ h => h) (fun _ => rfl) (by intro vs w1 hx_ hd; have r0 := (hx_.cell hbl1).trans p0; have r1 := (hx_.cell hbl1).trans p1; have r2 := (hx_.cell hbl1).trans p2; have s0 := (hx_.cell hbl2).trans q0; have s1 := (hx_.cell hbl2).trans q1; have s2 := (hx_.cell hbl2).trans q2; go_simp; first | done | rfl) ?_
  refine mo_fixK _ 8 false (by rfl) (by rfl) (by kernel_rfl) (fun _ _ _ h => h) (fun _ => rfl) (by intro vs w1 hx_ hd; have r0 := (hx_.cell hbl1).trans p0; have r1 := (hx_.cell hbl1).trans p1; have r2 := (hx_.cell hbl1).trans p2; have s0 := (hx_.cell hbl2).trans q0; have s1 := (hx_.cell hbl2).trans q1; have s2 := (hx_.cell hbl2).trans q2; have e9 := hd 9 (by kernel_rfl); simp (decide := true) only [factAt, if_true, if_false] at e9; simp only [e9]; go_simp; first | done | rfl) ?_
  refine mo_fixK _ 8 false (by rfl) (by rfl) (by kernel_rfl) (fun _ _ _ h => h) (fun _ => rfl) (by intro vs w1 hx_ hd; have r0 := (hx_.cell hbl1).trans p0; have r1 := (hx_.cell hbl1).trans p1; have r2 := (hx_.cell hbl1).trans p2; have s0 := (hx_.cell hbl2).trans q0; have s1 := (hx_.cell hbl2).trans q1; have s2 := (hx_.cell hbl2).trans q2; go_simp; first | done | rfl) ?_
  refine mo_fixK _ 8 false (by rfl) (by rfl) (by kernel_rfl) (fun _ _ _ h => h) (fun _ => rfl) (by intro vs w1 hx_ hd; have r0 := (hx_.cell hbl1).trans p0; have r1 := (hx_.cell hbl1).trans p1; have r2 := (hx_.cell hbl1).trans p2; have s0 := (hx_.cell hbl2).trans q0; have s1 := (hx_.cell hbl2).trans q1; have s2 := (hx_.cell hbl2).trans q2; have e11 := hd 11 (by kernel_rfl); simp (decide := true) only [factAt, if_true, if_false] at e11; simp only [e11]; go_simp; first | done | rfl) ?_
  refine mo_fixK _ 8 false (by rfl) (by rfl) (by kernel_rfl) (fun _ _ _ h => h) (fun _ => rfl) (by intro vs w1 hx_ hd; have r0 := (hx_.cell hbl1).trans p0; have r1 := (hx_.cell hbl1).trans p1; have r2 := (hx_.cell hbl1).trans p2; have s0 := (hx_.cell hbl2).trans q0; have s1 := (hx_.cell hbl2).trans q1; have s2 := (hx_.cell hbl2).trans q2; have e10 := hd 10 (by kernel_rfl); have e12 := hd 12 (by kernel_rfl); simp (decide := true) only [factAt, if_true, if_false] at e10 e12; simp only [e10, e12]; go_simp; first | done | rfl) ?_
  refine mo_fix _ (by rfl) (by rfl) (by intro vs w1 hx_ hd; have r0 := (hx_.cell hbl1).trans p0; have r1 := (hx_.cell hbl1).trans p1; have r2 := (hx_.cell hbl1).trans p2; have s0 := (hx_.cell hbl2).trans q0; have s1 := (hx_.cell hbl2).trans q1; have s2 := (hx_.cell hbl2).trans q2; have e8 := hd 8 (by kernel_rfl); have e13 := hd 13 (by kernel_rfl); simp (decide := true) only [factAt, if_true, if_false] at e8 e13; simp only [e8, e13]; go_simp; first | done | rfl) ?_
  refine mo_fix _ (by rfl) (by rfl) (by intro vs w1 hx_ hd; have r0 := (hx_.cell hbl1).trans p0; have r1 := (hx_.cell hbl1).trans p1; have r2 := (hx_.cell hbl1).trans p2; have s0 := (hx_.cell hbl2).trans q0; have s1 := (hx_.cell hbl2).trans q1; have s2 := (hx_.cell hbl2).trans q2; have e14 := hd 14 (by kernel_rfl); simp (decide := true) only [factAt, if_true, if_false] at e14; simp only [e14]; go_simp; first | done | rfl) ?_
  refine mo_fixK _ 15 false (by rfl) (by rfl) (by kernel_rfl) (fun _ _ _ h => h) (fun _ => rfl) (by intro vs w1 hx_ hd; have r0 := (hx_.cell hbl1).trans p0; have r1 := (hx_.cell hbl1).trans p1; have r2 := (hx_.cell hbl1).trans p2; have s0 := (hx_.cell hbl2).trans q0; have s1 := (hx_.cell hbl2).trans q1; have s2 := (hx_.cell hbl2).trans q2; go_simp; first | done | rfl) ?_
  refine mo_fixK _ 15 false (by rfl) (by rfl) (by kernel_rfl) (fun _ _ _ h => h) (fun _ => rfl) (by intro vs w1 hx_ hd; have r0 := (hx_.cell hbl1).trans p0; have r1 := (hx_.cell hbl1).trans p1; have r2 := (hx_.cell hbl1).trans p2; have s0 := (hx_.cell hbl2).trans q0; have s1 := (hx_.cell hbl2).trans q1; have s2 := (hx_.cell hbl2).trans q2; have e16 := hd 16 (by kernel_rfl); simp (decide := true) only [factAt, if_true, if_false] at e16; simp only [e16]; go_simp; first | done | rfl) ?_
  refine mo_fixK _ 15 false (by rfl) (by rfl) (by kernel_rfl) (fun _ _ _ h => h) (fun _ => rfl) (by intro vs w1 hx_ hd; have r0 := (hx_.cell hbl1).trans p0; have r1 := (hx_.cell hbl1).trans p1; have r2 := (hx_.cell hbl1).trans p2; have s0 := (hx_.cell hbl2).trans q0; have s1 := (hx_.cell hbl2).trans q1; have s2 := (hx_.cell hbl2).trans q2; go_simp; first | done | rfl) ?_
  refine mo_callK (fun v w => v = .int .i64 T) 15 false (by rfl) (by rfl) (by kernel_rfl) (fun _ _ _ h => h) (fun _ => rfl) (by intro v wa wb h1 h2; exact h1) (by intro vs w9 hx_ hd; have e18 := hd 18 (by kernel_rfl); simp (decide := true) only [factAt, if_true, if_false] at e18; simp only [e18]; refine ⟨_, _, by go_simp; first | done | rfl | exact ⟨rfl, rfl⟩, ?_⟩; refine Calls.mono (CE.out _) ?_; rintro e w4 ⟨rfl, hx4⟩; exact ⟨_, rfl, rfl, hx4⟩) ?_
  refine mo_fixK _ 15 false (by rfl) (by rfl) (by kernel_rfl) (fun _ _ _ h => h) (fun _ => rfl) (by intro vs w1 hx_ hd; have r0 := (hx_.cell hbl1).trans p0; have r1 := (hx_.cell hbl1).trans p1; have r2 := (hx_.cell hbl1).trans p2; have s0 := (hx_.cell hbl2).trans q0; have s1 := (hx_.cell hbl2).trans q1; have s2 := (hx_.cell hbl2).trans q2; have e17 := hd 17 (by kernel_rfl); have e19 := hd 19 (by kernel_rfl); simp (decide := true) only [factAt, if_true, if_false] at e17 e19; simp only [e17, e19]; go_simp; first | done | rfl) ?_
  refine mo_end ?_
  intro vs w2 hx2 hd
  have e15 := hd 15 (by kernel_rfl)
  have e20 := hd 20 (by kernel_rfl)
  simp (decide := true) only [factAt, if_true, if_false] at e15 e20
  generalize vs 15 = v15 at e15 ⊢
  subst e15
  generalize vs 20 = v20 at e20 ⊢
  subst e20
  clear hd
  go_wp2_with (fail)
  obtain ⟨p0, p1, p2, _, _, _⟩ := HS.out _ hx2
  obtain ⟨q0, q1, q2, _, _, _⟩ := HU.out _ hx2
  have hbl1 : w.heap.size < w2.heap.size := Nat.lt_of_lt_of_le (by omega) hx2.size
  have hbl2 : w.heap.size + 1 < w2.heap.size := Nat.lt_of_lt_of_le (by omega) hx2.size
  have hw2 : w.heap.size + 1 + 1 < w2.heap.size := Nat.lt_of_lt_of_le (by omega) hx2.size
  have hxw := hx1.trans hx2
  refine wp_region_any (by kernel_rfl) ?_
  refine wpAny_mo_go (md := .any) (R := Ext) (w := w2) [(0, 30), (1, 31), (2, 32), (3, 33), (4, 34), (5, 35), (6, 36), (7, 37), (8, 38), (9, 39), (10, 40), (11, 6)] [12] (tl := [_]) (S := ?S6_) (by kernel_rfl) (by rfl) (by rfl) Ext.refl ext_tr (ext_drew1 _) ?hS6_ ?go6_
  case hS6_ => intro vs; simp only [putAll, Act.put, List.setIfInBounds_toArray, List.set_cons_zero, List.set_cons_succ]; rfl
  case go6_ =>
  refine mo_fix _ (by rfl) (by rfl) (by intro vs w1 hx_ hd; have r0 := (hx_.cell hbl1).trans p0; have r1 := (hx_.cell hbl1).trans p1; have r2 := (hx_.cell hbl1).trans p2; have s0 := (hx_.cell hbl2).trans q0; have s1 := (hx_.cell hbl2).trans q1; have s2 := (hx_.cell hbl2).trans q2; go_simp; first | done | rfl) ?_
  refine mo_fix _ (by rfl) (by rfl) (by intro vs w1 hx_ hd; have r0 := (hx_.cell hbl1).trans p0; have r1 := (hx_.cell hbl1).trans p1; have r2 := (hx_.cell hbl1).trans p2; have s0 := (hx_.cell hbl2).trans q0; have s1 := (hx_.cell hbl2).trans q1; have s2 := (hx_.cell hbl2).trans q2; have e0 := hd 0 (by kernel_rfl); simp (decide := true) only [factAt, if_true, if_false] at e0; simp only [e0]; go_simp; first | done | rfl) ?_
  refine mo_fix _ (by rfl) (by rfl) (by intro vs w1 hx_ hd; have r0 := (hx_.cell hbl1).trans p0; have r1 := (hx_.cell hbl1).trans p1; have r2 := (hx_.cell hbl1).trans p2; have s0 := (hx_.cell hbl2).trans q0; have s1 := (hx_.cell hbl2).trans q1; have s2 := (hx_.cell hbl2).trans q2; go_simp; first | done | rfl) ?_
  refine mo_fix _ (by rfl) (by rfl) (by intro vs w1 hx_ hd; have r0 := (hx_.cell hbl1).trans p0; have r1 := (hx_.cell hbl1).trans p1; have r2 := (hx_.cell hbl1).trans p2; have s0 := (hx_.cell hbl2).trans q0; have s1 := (hx_.cell hbl2).trans q1; have s2 := (hx_.cell hbl2).trans q2; have e2 := hd 2 (by kernel_rfl); simp (decide := true) only [factAt, if_true, if_false] at e2; simp only [e2]; go_simp; first | done | rfl) ?_
  refine mo_fix _ (by rfl) (by rfl) (by intro vs w1 hx_ hd; have r0 := (hx_.cell hbl1).trans p0; have r1 := (hx_.cell hbl1).trans p1; have r2 := (hx_.cell hbl1).trans p2; have s0 := (hx_.cell hbl2).trans q0; have s1 := (hx_.cell hbl2).trans q1; have s2 := (hx_.cell hbl2).trans q2; go_simp; first | done | rfl) ?_
  refine mo_fix _ (by rfl) (by rfl) (by intro vs w1 hx_ hd; have r0 := (hx_.cell hbl1).trans p0; have r1 := (hx_.cell hbl1).trans p1; have r2 := (hx_.cell hbl1).trans p2; have s0 := (hx_.cell hbl2).trans q0; have s1 := (hx_.cell hbl2).trans q1; have s2 := (hx_.cell hbl2).trans q2; have e4 := hd 4 (by kernel_rfl); simp (decide := true) only [factAt, if_true, if_false] at e4; simp only [e4]; go_simp; first | done | rfl) ?_
  refine mo_fix _ (by rfl) (by rfl) (by intro vs w1 hx_ hd; have r0 := (hx_.cell hbl1).trans p0; have r1 := (hx_.cell hbl1).trans p1; have r2 := (hx_.cell hbl1).trans p2; have s0 := (hx_.cell hbl2).trans q0; have s1 := (hx_.cell hbl2).trans q1; have s2 := (hx_.cell hbl2).trans q2; go_simp; first | done | rfl) ?_
  refine mo_fix _ (by rfl) (by rfl) (by intro vs w1 hx_ hd; have r0 := (hx_.cell hbl1).trans p0; have r1 := (hx_.cell hbl1).trans p1; have r2 := (hx_.cell hbl1).trans p2; have s0 := (hx_.cell hbl2).trans q0; have s1 := (hx_.cell hbl2).trans q1; have s2 := (hx_.cell hbl2).trans q2; have e6 := hd 6 (by kernel_rfl); simp (decide := true) only [factAt, if_true, if_false] at e6; simp only [e6]; go_simp; first | done | rfl) ?_
  refine mo_make (fun a => .slice (some a) 2 2) (.cells #[.slice A S.v.length c, .slice A' U.v.length c'] 22) (by rfl) (by rfl) (by intro vs w1 hx_ hd; have r0 := (hx_.cell hbl1).trans p0; have r1 := (hx_.cell hbl1).trans p1; have r2 := (hx_.cell hbl1).trans p2; have s0 := (hx_.cell hbl2).trans q0; have s1 := (hx_.cell hbl2).trans q1; have s2 := (hx_.cell hbl2).trans q2; have e5 := hd 5 (by kernel_rfl); have e7 := hd 7 (by kernel_rfl); simp (decide := true) only [factAt, if_true, if_false] at e5 e7; simp only [e5, e7]; go_simp; first | done | rfl) ?_
  refine mo_call (fun v w => NewL w2 N (S.v ++ U.v) v w) (by rfl) (by rfl) (by intro v wa wb h1 h2; exact h1.ext h2) (by intro vs w9 hx_ hd; have e8 := hd 8 (by kernel_rfl); simp (decide := true) only [factAt, if_true, if_false] at e8; obtain ⟨g8, e8, hg8, hb8⟩ := e8; simp only [e8]; refine ⟨_, _, by go_simp; first | done | rfl | exact ⟨rfl, rfl⟩, ?_⟩; refine Calls.mono (c_concat hb8 (R1.out _ (hxw.trans hx_)) (R2.out _ (hxw.trans hx_)) (hxw.trans hx_).size v3 v5 v4 v6) ?_; rintro e w4 ⟨v, rfl, hnew, hx4⟩; rw [HN.out] at hnew; exact ⟨v, rfl, hnew.later hx_.size, hx4⟩) ?_
  refine mo_of (fun us => .agg #[us 1, us 3, us 9]) (by rfl) (by rfl) (by intro us vs w1 hu hx_ hd; have r0 := (hx_.cell hbl1).trans p0; have r1 := (hx_.cell hbl1).trans p1; have r2 := (hx_.cell hbl1).trans p2; have s0 := (hx_.cell hbl2).trans q0; have s1 := (hx_.cell hbl2).trans q1; have s2 := (hx_.cell hbl2).trans q2; have e1 := hd 1 (by kernel_rfl); have e3 := hd 3 (by kernel_rfl); have e9 := hd 9 (by kernel_rfl); simp (decide := true) only [factAt, if_true, if_false] at e1 e3 e9; rw [hu 1 (by kernel_rfl)]; rw [hu 3 (by kernel_rfl)]; rw [hu 9 (by kernel_rfl)]; obtain ⟨g9, c9, e9, _⟩ := e9; rw [e1, e3, e9]; go_simp; first | done | rfl) ?_
  refine mo_make (fun a => .pointer (some a)) (.cells #[.int .i64 0, .int .i64 0, .slice none 0 0] 27) (by rfl) (by rfl) (by intro vs w1 hx_ hd; have r0 := (hx_.cell hbl1).trans p0; have r1 := (hx_.cell hbl1).trans p1; have r2 := (hx_.cell hbl1).trans p2; have s0 := (hx_.cell hbl2).trans q0; have s1 := (hx_.cell hbl2).trans q1; have s2 := (hx_.cell hbl2).trans q2; go_simp; first | done | rfl) ?_
  refine mo_end ?_
  intro vs w3 hx3 hd
  have e1 := hd 1 (by kernel_rfl)
  have e3 := hd 3 (by kernel_rfl)
  have e9 := hd 9 (by kernel_rfl)
  have e11 := hd 11 (by kernel_rfl)
  obtain ⟨us, hu, e10⟩ := seen_got (hd 10 (by kernel_rfl))
  simp (decide := true) only [factAt, if_true, if_false] at e1 e3 e9 e10 e11
  rw [hu 1 (by kernel_rfl), hu 3 (by kernel_rfl), hu 9 (by kernel_rfl)] at e10
  obtain ⟨gA, capA, e9, hgA, hnA, hgA2, hoA⟩ := e9
  rw [e1, e3, e9] at e10
  obtain ⟨gP, e11, hgP, hbP⟩ := e11
  generalize vs 10 = v10 at e10 ⊢
  generalize vs 11 = v11 at e11 ⊢
  subst e10
  subst e11
  clear hd hu e1 e3 e9
  have hneP := own_ne hoA (by have := HN.out; omega) hbP
  obtain ⟨Wb, hWb, hxb, hbPb, hoAb, hsb⟩ := fill_box hx3 hgP hbP hoA hneP (.int .i64 S.x) (.int .i64 S.z) (.slice (some ⟨gA, 0, none⟩) N capA)
  obtain ⟨c0, c1, c2, x0, x1, x2⟩ := three_c hbP
  obtain ⟨g0, g1, g2, _, _, _⟩ := three_c hbPb
  have k0 : World.cell? (((w3.setCell ⟨gP, 0, none⟩ (.int .i64 S.x)).setCell ⟨gP, 1, none⟩ (.int .i64 S.z)).setCell ⟨gP, 2, none⟩ (.slice (some ⟨gA, 0, none⟩) N capA)) ⟨gP, 0, none⟩ = some (.int .i64 S.x) := by rw [hWb]; exact g0
  have k1 : World.cell? (((w3.setCell ⟨gP, 0, none⟩ (.int .i64 S.x)).setCell ⟨gP, 1, none⟩ (.int .i64 S.z)).setCell ⟨gP, 2, none⟩ (.slice (some ⟨gA, 0, none⟩) N capA)) ⟨gP, 1, none⟩ = some (.int .i64 S.z) := by rw [hWb]; exact g1
  have k2 : World.cell? (((w3.setCell ⟨gP, 0, none⟩ (.int .i64 S.x)).setCell ⟨gP, 1, none⟩ (.int .i64 S.z)).setCell ⟨gP, 2, none⟩ (.slice (some ⟨gA, 0, none⟩) N capA)) ⟨gP, 2, none⟩ = some (.slice (some ⟨gA, 0, none⟩) N capA) := by rw [hWb]; exact g2
  have HWB := Lib.hid hWb
  have hgAb : gA < Wb.heap.size := by rw [hsb]; exact hgA2
  have hxwb : Ext w Wb := hxw.trans hxb
  have hrd : RdT Wb (gA + 1) (.agg #[.int .i64 S.x, .int .i64 S.z, .slice (some ⟨gA, 0, none⟩) N capA]) (joinT S U) := (OwT.of (lo := gA) (hi := gA + 1) hoAb hnA).rd
  have C3 := Lib.hid (c_impl_ValidFrame hrd (by omega) (by rw [HJL.out]; have := HN.out; omega))
  have hzb := hxb.blk (hx2.blk HZB.out)
  clear p0 p1 p2 q0 q1 q2 hrd hbP hoA hWb g0 g1 g2
  cases hF : fvF (joinT S U)
  · have hfin : okJ S U = false := HOK.out.trans hF
    rw [hF] at C3
    have HFIN := Lib.hid hfin
    clear hfin hF
    go_wp2_with (go_at_call 18; (try rw [HWB.out]); refine Calls.mono C3.out ?_; rintro e wd ⟨rfl, hxd⟩; have hzd := hxd.blk hzb; obtain ⟨c0, c1, c2, x0, x1, x2⟩ := three_c hzd)
    (try simp only [Exit.inBlock, Exit.then])
    refine bodyPost_ret (results_cellJ rfl _ _ (w.heap.size + 1 + 1) 27 #[.int .i64 0, .int .i64 0, .slice none 0 0] (0, 0) _ rfl (by exact blk_set1 (blk_set1 (blk_set1 hzd 0 _) 1 _) 2 _) Try.underlying27 rfl (by kernel_rfl)) rfl ?_
    rw [HFIN.out]
    exact retT_no rfl (ext3 (hxwb.trans hxd) (by omega) _ _ _)
  · have hfin : okJ S U = true := HOK.out.trans hF
    rw [hF] at C3
    have HFIN := Lib.hid hfin
    clear hfin hF
    go_wp2_with (go_at_call 18; (try rw [HWB.out]); refine Calls.mono C3.out ?_; rintro e wd ⟨rfl, hxd⟩; have hzd := hxd.blk hzb; obtain ⟨c0, c1, c2, x0, x1, x2⟩ := three_c hzd; obtain ⟨f0, f1, f2, _, _, _⟩ := three_c (hxd.blk hbPb))
    (try simp only [Exit.inBlock, Exit.then])
    refine bodyPost_ret (results_cellJ rfl _ _ (w.heap.size + 1 + 1) 27 #[.int .i64 S.x, .int .i64 S.z, .slice (some ⟨gA, 0, none⟩) N capA] (0, 0) _ rfl (by exact blk_set1 (blk_set1 (blk_set1 hzd 0 _) 1 _) 2 _) Try.underlying27 rfl (by kernel_rfl)) rfl ?_
    have ho := own3 (g := w.heap.size + 1 + 1) (hoAb.ext (by omega) hxd) (by omega) (.int .i64 S.x) (.int .i64 S.z) (.slice (some ⟨gA, 0, none⟩) N capA)
    rw [HFIN.out]
    refine ⟨_, rfl, ?_, ext3 (hxwb.trans hxd) (by omega) _ _ _⟩
    exact OwT.of (ho.more (by omega) (by have := hxd.size; simp; omega)) hnA
end Go.Proofs.Ytfmhdnhaaohdjaa
