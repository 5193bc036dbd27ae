/- Contracts: sums of sections, products of sections and numbers, the program. Condition: the sections are read. -/
import Derived.Test.YtddemhlhlbpecaaXf
import Derived.Test.YtddemhlhlbpecaaJn
namespace Go.Proofs.Ytddemhlhlbpecaa
open Go.RowKit Go.ChangeShapes Go.WideShapes Go.Deep Ieee
set_option linter.unusedVariables false
set_option linter.unusedSimpArgs false

set_option maxRecDepth 20000 in
set_option maxHeartbeats 8000000 in
theorem c_impl_AddSections {w : World} {B : Nat} {u : Value} {S : Sct} (h : RdT w B u S) (hB : B ≤ w.heap.size) (za : S.v.length ≤ 1048576) (hok : S.Ok) {B' : Nat} {u' : Value} {U : Sct} (h' : RdT w B' u' U) (hB' : B' ≤ w.heap.size) (za' : U.v.length ≤ 1048576) (hok' : U.Ok) :
    Calls Try.prog 28 #[u, u'] w fun e w' => RetT w e w' (twoT S U) (outT (twoT S U) ⟨S.x, S.z, lst (fadd2 S.v U.v) S.v.length⟩) := by
  obtain ⟨A, c, rfl, hp, hcA⟩ := h.ex
  obtain ⟨A', c', rfl, hp', hcA'⟩ := h'.ex
  clear h'
  clear h
  obtain ⟨x, z, L⟩ := S
  obtain ⟨x', z', L'⟩ := U
  dsimp only at hp' za'
  dsimp only at hp za ⊢
  obtain ⟨W1, hW1⟩ : ∃ W1, W1 = ((w.alloc (.cells #[.int .i64 x, .int .i64 z, .slice A L.length c] 38)).alloc (.cells #[.int .i64 x', .int .i64 z', .slice A' L'.length c'] 38)).alloc (.cells #[.int .i64 0, .int .i64 0, .slice none 0 0] 38) := ⟨_, rfl⟩
  have hx1 : Ext w W1 := by rw [hW1]; exact (by repeat (first | assumption | exact Ext.refl _ | apply Ext.drewN | apply Ext.drew | apply Ext.alloc | (refine Ext.trans ?_ (by assumption)) | (refine Ext.set ?_ (by dsimp only; omega) _)))
  have hbox : SbAt W1 w.heap.size x z A L.length c := by rw [hW1]; exact SbAt.blk (T := 38) (by repeat (first | (refine al_at ?_ ?_ <;> first | rfl | (simp only [al_size] <;> omega)) | apply al_old))
  have hz1 : W1.heap[w.heap.size + 1 + 1]? = some (.cells #[.int .i64 0, .int .i64 0, .slice none 0 0] 38 (0, 0)) := by rw [hW1]; exact al_at (by simp only [al_size]) rfl
  have hs1 : W1.heap.size = w.heap.size + 1 + 1 + 1 := by rw [hW1]; simp only [al_size]
  have HZ1 := Lib.hid hz1
  have HP := Lib.hid hp
  have HBX := Lib.hid hbox
  clear hz1 hp hbox
  have hbox' : SbAt W1 (w.heap.size + 1) x' z' A' L'.length c' := by rw [hW1]; exact SbAt.blk (T := 38) (al_old (al_at (al_size _ _).symm rfl))
  have HP' := Lib.hid hp'
  have HBX' := Lib.hid hbox'
  clear hp' hbox'
  cases hV : twoT ⟨x, z, L⟩ ⟨x', z', L'⟩
  · go_enter Try.func28, Try.ntmps28
    go_wp2_with (fail)
    rw [← hW1]
    clear hW1
    obtain ⟨⟨p0, p1, p2, _⟩, q0, q1, q2, _⟩ := And.intro HBX.out HBX'.out
    obtain ⟨c0, c1, c2, x0, x1, x2⟩ := three_c HZ1.out
    go_wp2_with ((go_at_call 75; refine Calls.mono (c_areAlike (B := B) (S := ⟨_, _, L⟩) ⟨A, c, rfl, HP.out.below (hx1.mono hB), hcA⟩ (Nat.le_trans hB hx1.size) za (B' := B') (U := ⟨_, _, L'⟩) ⟨A', c', rfl, HP'.out.below (hx1.mono hB'), hcA'⟩ (Nat.le_trans hB' hx1.size) za') ?_; rw [hV]; rintro e w1 ⟨rfl, hxa⟩); obtain ⟨c0, c1, c2, x0, x1, x2⟩ := three_c (hxa.blk HZ1.out))
    (try simp only [Exit.inBlock, Exit.then])
    refine bodyPost_ret (results_cellT rfl _ _ (w.heap.size + 1 + 1) 38 #[.int .i64 0, .int .i64 0, .slice none 0 0] (0, 0) _ rfl (by repeat (first | exact hxa.blk HZ1.out | exact blk_set1 (blk_set1 (blk_set1 (hxa.blk HZ1.out) 0 _) 1 _) 2 _)) Try.underlying38 rfl (by kernel_rfl)) rfl ?_
    exact retT_no rfl (by repeat (first | assumption | exact Ext.refl _ | apply Ext.drewN | apply Ext.drew | apply Ext.alloc | (refine Ext.trans ?_ (by assumption)) | (refine Ext.set ?_ (by dsimp only; omega) _)))
  have HV := Lib.hid hV
  obtain ⟨a, b, rfl, rfl, e4, e5, e6, e7, e8, e9, e10, e11⟩ := fvT_nat ((twoT_of hV).1)
  have hnn : L'.length = L.length := by
    obtain ⟨q1, q2, q3, q4⟩ := twoT_of hV
    obtain ⟨a', b', rfl, rfl, _, _, _, _, _, _, _, i11⟩ := fvT_nat q2
    dsimp only at q3 q4
    rw [← q3, ← q4] at i11
    omega
  have HNN := Lib.hid hnn
  clear hnn
  have E8 := Lib.hid e8
  clear hV e8 e11
  go_enter Try.func28, Try.ntmps28
  go_wp2_with (fail)
  rw [← hW1]
  clear hW1
  obtain ⟨⟨p0, p1, p2, _⟩, q0, q1, q2, _⟩ := And.intro HBX.out HBX'.out
  go_wp2_with ((go_at_call 75; refine Calls.mono (c_areAlike (B := B) (S := ⟨_, _, L⟩) ⟨A, c, rfl, HP.out.below (hx1.mono hB), hcA⟩ (Nat.le_trans hB hx1.size) za (B' := B') (U := ⟨_, _, L'⟩) ⟨A', c', rfl, HP'.out.below (hx1.mono hB'), hcA'⟩ (Nat.le_trans hB' hx1.size) za') ?_; rw [HV.out]; rintro e w1 ⟨rfl, hxa⟩))
  have hxaW : Ext w w1 := hx1.trans hxa
  have HBXa := Lib.hid (HBX.out.ext hxa)
  have HBXa' := Lib.hid (HBX'.out.ext hxa)
  have HZa := Lib.hid (hxa.blk HZ1.out)
  have hsa := hxa.size
  have hbl := HBXa.out.lt
  have hbl' := HBXa'.out.lt
  clear p0 p1 p2 q0 q1 q2
  refine wp_region_any (by kernel_rfl) ?_
  refine wpAny_mo_go (md := .any) (R := Ext) (w := w1) [(0, 11), (1, 12), (2, 13), (3, 14), (4, 15), (5, 16), (6, 17), (7, 18), (8, 19), (9, 20)] [10, 11] (tl := [_, _]) (S := ?S16_) (by kernel_rfl) (by rfl) (by rfl) Ext.refl ext_tr (ext_drew1 _) ?hS16_ ?go16_
  case hS16_ => intro vs; simp only [putAll, Act.put, List.setIfInBounds_toArray, List.set_cons_zero, List.set_cons_succ]; rfl
  case go16_ =>
  refine mo_fix _ (by rfl) (by rfl) (by intro vs w1 hx_ hd; have q0 := (hx_.cell (p := ⟨w.heap.size, 0, none⟩) hbl).trans HBXa.out.p0; have q1 := (hx_.cell (p := ⟨w.heap.size, 1, none⟩) hbl).trans HBXa.out.p1; have q2 := (hx_.cell (p := ⟨w.heap.size, 2, none⟩) hbl).trans HBXa.out.p2; have q3 := (hx_.cell (p := ⟨w.heap.size + 1, 2, none⟩) hbl').trans HBXa'.out.p2; go_simp; first | done | rfl) ?_
  refine mo_fix _ (by rfl) (by rfl) (by intro vs w1 hx_ hd; have q0 := (hx_.cell (p := ⟨w.heap.size, 0, none⟩) hbl).trans HBXa.out.p0; have q1 := (hx_.cell (p := ⟨w.heap.size, 1, none⟩) hbl).trans HBXa.out.p1; have q2 := (hx_.cell (p := ⟨w.heap.size, 2, none⟩) hbl).trans HBXa.out.p2; have q3 := (hx_.cell (p := ⟨w.heap.size + 1, 2, none⟩) hbl').trans HBXa'.out.p2; have e0 := hd 0 (by kernel_rfl); simp (decide := true) only [factAt, if_true, if_false] at e0; simp only [e0]; go_simp; first | done | rfl) ?_
  refine mo_fix _ (by rfl) (by rfl) (by intro vs w1 hx_ hd; have q0 := (hx_.cell (p := ⟨w.heap.size, 0, none⟩) hbl).trans HBXa.out.p0; have q1 := (hx_.cell (p := ⟨w.heap.size, 1, none⟩) hbl).trans HBXa.out.p1; have q2 := (hx_.cell (p := ⟨w.heap.size, 2, none⟩) hbl).trans HBXa.out.p2; have q3 := (hx_.cell (p := ⟨w.heap.size + 1, 2, none⟩) hbl').trans HBXa'.out.p2; go_simp; first | done | rfl) ?_
  refine mo_fix _ (by rfl) (by rfl) (by intro vs w1 hx_ hd; have q0 := (hx_.cell (p := ⟨w.heap.size, 0, none⟩) hbl).trans HBXa.out.p0; have q1 := (hx_.cell (p := ⟨w.heap.size, 1, none⟩) hbl).trans HBXa.out.p1; have q2 := (hx_.cell (p := ⟨w.heap.size, 2, none⟩) hbl).trans HBXa.out.p2; have q3 := (hx_.cell (p := ⟨w.heap.size + 1, 2, none⟩) hbl').trans HBXa'.out.p2; have e2 := hd 2 (by kernel_rfl); simp (decide := true) only [factAt, if_true, if_false] at e2; simp only [e2]; go_simp; first | done | rfl) ?_
  refine mo_fix _ (by rfl) (by rfl) (by intro vs w1 hx_ hd; have q0 := (hx_.cell (p := ⟨w.heap.size, 0, none⟩) hbl).trans HBXa.out.p0; have q1 := (hx_.cell (p := ⟨w.heap.size, 1, none⟩) hbl).trans HBXa.out.p1; have q2 := (hx_.cell (p := ⟨w.heap.size, 2, none⟩) hbl).trans HBXa.out.p2; have q3 := (hx_.cell (p := ⟨w.heap.size + 1, 2, none⟩) hbl').trans HBXa'.out.p2; go_simp; first | done | rfl) ?_
  refine mo_fix _ (by rfl) (by rfl) (by intro vs w1 hx_ hd; have q0 := (hx_.cell (p := ⟨w.heap.size, 0, none⟩) hbl).trans HBXa.out.p0; have q1 := (hx_.cell (p := ⟨w.heap.size, 1, none⟩) hbl).trans HBXa.out.p1; have q2 := (hx_.cell (p := ⟨w.heap.size, 2, none⟩) hbl).trans HBXa.out.p2; have q3 := (hx_.cell (p := ⟨w.heap.size + 1, 2, none⟩) hbl').trans HBXa'.out.p2; have e4 := hd 4 (by kernel_rfl); simp (decide := true) only [factAt, if_true, if_false] at e4; simp only [e4]; go_simp; first | done | rfl) ?_
  refine mo_fix _ (by rfl) (by rfl) (by intro vs w1 hx_ hd; have q0 := (hx_.cell (p := ⟨w.heap.size, 0, none⟩) hbl).trans HBXa.out.p0; have q1 := (hx_.cell (p := ⟨w.heap.size, 1, none⟩) hbl).trans HBXa.out.p1; have q2 := (hx_.cell (p := ⟨w.heap.size, 2, none⟩) hbl).trans HBXa.out.p2; have q3 := (hx_.cell (p := ⟨w.heap.size + 1, 2, none⟩) hbl').trans HBXa'.out.p2; go_simp; first | done | rfl) ?_
  refine mo_fix _ (by rfl) (by rfl) (by intro vs w1 hx_ hd; have q0 := (hx_.cell (p := ⟨w.heap.size, 0, none⟩) hbl).trans HBXa.out.p0; have q1 := (hx_.cell (p := ⟨w.heap.size, 1, none⟩) hbl).trans HBXa.out.p1; have q2 := (hx_.cell (p := ⟨w.heap.size, 2, none⟩) hbl).trans HBXa.out.p2; have q3 := (hx_.cell (p := ⟨w.heap.size + 1, 2, none⟩) hbl').trans HBXa'.out.p2; have e6 := hd 6 (by kernel_rfl); simp (decide := true) only [factAt, if_true, if_false] at e6; simp only [e6]; go_simp; first | done | rfl) ?_
  refine mo_call (fun v w => ∃ A2 hi, v = .slice A2 L.length L.length ∧ hi ≤ w.heap.size ∧ OwL w w1.heap.size hi A2 L.length (lst (fadd2 L L') L.length)) (by rfl) (by rfl) (by rintro v wa wb ⟨A2, hi, h1, h2, h3⟩ hxab; exact ⟨A2, hi, h1, Nat.le_trans h2 hxab.size, h3.ext h2 hxab⟩) (by intro vs w9 hx_ hd; have e5 := hd 5 (by kernel_rfl); have e7 := hd 7 (by kernel_rfl); simp (decide := true) only [factAt, if_true, if_false] at e5 e7; simp only [e5, e7]; refine ⟨_, _, by go_simp; first | done | rfl | exact ⟨rfl, rfl⟩, ?_⟩; refine Calls.mono (c_join_addNumbers (HP.out.below ((hxaW.trans hx_).mono hB)) (Nat.le_trans hB (hxaW.trans hx_).size) (by omega) (HP'.out.below ((hxaW.trans hx_).mono hB')) (Nat.le_trans hB' (hxaW.trans hx_).size) (Nat.le_of_eq HNN.out.symm) za') ?_; rintro e w4 ⟨A4, rfl, ho4, hx4⟩; exact ⟨_, rfl, ⟨A4, w4.heap.size, rfl, Nat.le_refl _, ho4.more hx_.size (Nat.le_refl _)⟩, hx4⟩) ?_
  refine mo_of (fun us => .agg #[us 1, us 3, us 8]) (by rfl) (by rfl) (by intro us vs w1 hu hx_ hd; have q0 := (hx_.cell (p := ⟨w.heap.size, 0, none⟩) hbl).trans HBXa.out.p0; have q1 := (hx_.cell (p := ⟨w.heap.size, 1, none⟩) hbl).trans HBXa.out.p1; have q2 := (hx_.cell (p := ⟨w.heap.size, 2, none⟩) hbl).trans HBXa.out.p2; have q3 := (hx_.cell (p := ⟨w.heap.size + 1, 2, none⟩) hbl').trans HBXa'.out.p2; have e1 := hd 1 (by kernel_rfl); have e3 := hd 3 (by kernel_rfl); have e8 := hd 8 (by kernel_rfl); simp (decide := true) only [factAt, if_true, if_false] at e1 e3 e8; rw [hu 1 (by kernel_rfl)]; rw [hu 3 (by kernel_rfl)]; rw [hu 8 (by kernel_rfl)]; obtain ⟨g9, h9, e8, _⟩ := e8; rw [e1, e3, e8]; go_simp; first | done | rfl) ?_
  refine mo_end ?_
  intro vs w2 hx2 hd
  have e1 := hd 1 (by kernel_rfl)
  have e3 := hd 3 (by kernel_rfl)
  have e8 := hd 8 (by kernel_rfl)
  obtain ⟨us, hu, e9⟩ := seen_got (hd 9 (by kernel_rfl))
  simp (decide := true) only [factAt, if_true, if_false] at e1 e3 e8 e9
  rw [hu 1 (by kernel_rfl), hu 3 (by kernel_rfl), hu 8 (by kernel_rfl)] at e9
  obtain ⟨A2, hi9, e8, hhi, ho2⟩ := e8
  rw [e1, e3, e8] at e9
  generalize vs 9 = v9 at e9 ⊢
  subst e9
  have HO2 := Lib.hid ho2
  have hzz := hx2.blk HZa.out
  obtain ⟨c0, c1, c2, x0, x1, x2⟩ := three_c hzz
  have HBZ := Lib.hid (fun u0 u1 u2 => blk_set1 (blk_set1 (blk_set1 hzz 0 u0) 1 u1) 2 u2)
  have hx22 : Ext w w2 := hxaW.trans hx2
  have hs2 := hx2.size
  clear hd hu e1 e3 e8 hzz ho2
  go_wp2_with (fail)
  (try simp only [Exit.inBlock, Exit.then])
  refine bodyPost_ret (results_cellT rfl _ _ (w.heap.size + 1 + 1) 38 #[.int .i64 (a : Int), .int .i64 (b : Int), .slice A2 L.length L.length] (0, 0) _ rfl (HBZ.out _ _ _) Try.underlying38 rfl (by kernel_rfl)) rfl ?_
  exact ⟨_, rfl, by
    show OwT _ _ _ _ ⟨(a : Int), (b : Int), lst (fadd2 L L') L.length⟩
    refine OwT.more (lo := w1.heap.size) (hi := hi9) ?_ (by omega) (by simp; omega)
    have h0 : OwT w2 w1.heap.size hi9 (.agg #[.int .i64 (a : Int), .int .i64 (b : Int), .slice A2 L.length L.length]) ⟨(a : Int), (b : Int), lst (fadd2 L L') L.length⟩ := OwT.of HO2.out (Nat.le_refl _)
    repeat (first | exact h0 | (refine OwT.setOther ?_ (by left; dsimp only; omega) _)), (by repeat (first | assumption | exact Ext.refl _ | apply Ext.drewN | apply Ext.drew | apply Ext.alloc | (refine Ext.trans ?_ (by assumption)) | (refine Ext.set ?_ (by dsimp only; omega) _)))⟩

theorem both_AddSections {S0 : Sct} (za0 : S0.v.length ≤ 1048576) (hok0 : S0.Ok) {S1 : Sct} (za1 : S1.v.length ≤ 1048576) (hok1 : S1.Ok) :
    ∃ ok Q, Q.v.length ≤ 1048576 ∧ (∀ W : World, ∀ (B0 : Nat) (v0 : Value), RdT W B0 v0 S0 → B0 ≤ W.heap.size → ∀ (B1 : Nat) (v1 : Value), RdT W B1 v1 S1 → B1 ≤ W.heap.size → Calls Try.prog 27 #[v0, v1] W fun e w' => RetT W e w' ok Q) ∧
      (∀ W : World, ∀ (B0 : Nat) (v0 : Value), RdT W B0 v0 S0 → B0 ≤ W.heap.size → ∀ (B1 : Nat) (v1 : Value), RdT W B1 v1 S1 → B1 ≤ W.heap.size → Calls Try.prog 28 #[v0, v1] W fun e w' => RetT W e w' ok Q) :=
  ⟨twoT S0 S1, outT (twoT S0 S1) (⟨S0.x, S0.z, lst (fadd2 S0.v S1.v) S0.v.length⟩), outT_len (by rw [lst_len]; exact za0),
    fun W _ _ h0 hB0 _ _ h1 hB1 => c_spec_AddSections (w := W) h0 hB0 za0 hok0 h1 hB1 za1 hok1, fun W _ _ h0 hB0 _ _ h1 hB1 => c_impl_AddSections (w := W) h0 hB0 za0 hok0 h1 hB1 za1 hok1⟩

end Go.Proofs.Ytddemhlhlbpecaa
