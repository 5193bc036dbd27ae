/- Contract: frames in order, the reference. Condition: the list is read, and has at most 12 frames that are valid.
In this text: Contract: frames in order, the reference. Condition: the list is read, and has at most 12 frames that are valid. Contract: SortFrames, the reference, and both sides of the law. Condition: the list is read. -/
import Derived.Test.YtfmhdnhaaohdjaaJp
namespace Go.Proofs.Ytfmhdnhaaohdjaa
open Go.RowKit Go.ChangeShapes Go.WideShapes Go.Deep Ieee
set_option linter.unusedVariables false
set_option linter.unusedSimpArgs false
attribute [local irreducible] wpQuiet

theorem Ext.belowJ {w W0 w' : World} {base : Nat} (hx : Ext w W0) (hb : w.heap.size ≤ base) (h : Below base W0 w') : Ext w w' := Below.trans hx (Below.mono h hb)
section
variable {ops : Array Oper} {rest : List Oper} {o : Oper} {a : Act} {Q : Exit → Act → World → Prop}
/-- A list that is read is appended to one that was made empty. -/
theorem app_fl (hgd : o.guard = none) (s x : Operand) (ho : o.op = .call { callee := .builtin .append, args := #[s, x], argTypes := #[22, 22] }) {w W0 : World} {B m c : Nat} {A : Option Addr} {L : List (Option Nat)} (hW : w = W0.alloc (.cells #[] 83)) {g0 : Nat} (hs : a.eval s = .slice (some ⟨g0, 0, none⟩) 0 0) (hg0 : g0 = W0.heap.size) (hx : a.eval x = .slice A m c)
    (hr : RdF W0 B A m L) (hB : B ≤ W0.heap.size) (hm : m ≤ 1048576) (hpos : 0 < m) (h : ∀ v' w', NewL W0 m L v' w' → Ext W0 w' → wpList Try.prog ops Q rest (a.put o.dst v') w') : wpList Try.prog ops Q (o :: rest) a w := by
  subst hW
  subst hg0
  obtain ⟨i0, hi, hz0, hz1, hz2⟩ := info_parts info_f32
  obtain ⟨b, off, rfl, hb, rs, hrl, hrs⟩ := hr.words hpos
  refine wpList_append_own _ hgd s x 22 ho W0.heap.size 83 i0 (.float .f32 0) 1 4 Try.underlying22 hi hz0 hz1 hz2 rfl (by decide) _ _ _ hs (World.ownsRow_made _ _ 0 (Nat.le_refl _) (Nat.zero_le _) rfl) ⟨b, off, none⟩ m c (fvals rs) hx (by simp [fvals, hrl]) (fun j u hj => ?_) (fun u hu => by simp only [fvals, List.mem_map] at hu; obtain ⟨r, _, rfl⟩ := hu; rfl) (by unfold maxLen; omega) (by omega) (by simp) (fun v' w4 hown' hgrow _ => ?_)
  · have hjn : j < m := by
      rcases Nat.lt_or_ge j m with h1 | h1
      · exact h1
      · rw [List.getElem?_eq_none (by simp [fvals, hrl]; omega)] at hj; cases hj
    rw [fvals_at (by omega)] at hj
    cases hj
    have hc := (hrs j hjn).1
    have e0 : (⟨b, off, none⟩ : Addr).add j = ⟨b, off + j, none⟩ := by simp [Addr.add]
    rw [e0]
    exact ((Ext.alloc (Ext.refl W0) _).cell (by show b < _; omega)).trans hc
  · have hx' : Ext W0 w4 := grown_ext (Ext.alloc (Ext.refl W0) _) (World.ownsRow_made _ _ 0 (Nat.le_refl _) (Nat.zero_le _) rfl) hgrow
    obtain ⟨hlen, hd⟩ := hown'
    rcases hd with ⟨hv, h0⟩ | ⟨g, cap, cur, rfl, hbg, hg, hnc, _, hcs, htk⟩
    · omega
    · rw [Nat.zero_add] at hnc htk
      have hrow : RowF cur m (fun j => L.getD j none) := fun j hj => by
        have e1 : cur[j]? = (cur.toList.take (m * 1))[j]? := by rw [List.getElem?_take_of_lt (by omega)]; simp
        refine ⟨rs.getD j 0, ?_, (hrs j hj).2⟩
        rw [e1, htk, List.nil_append, fvals_at (by omega)]
      have h7 := rowF_lst' hrow hg (by omega)
      rw [lst_self hr.len] at h7
      refine h _ _ ⟨g, cap, by rw [Nat.zero_add], hbg, hnc, blk_lt hg, h7.at0⟩ hx'
/-- Entries are appended to those of a row of its own. -/
theorem app_ent (hgd : o.guard = none) (s x : Operand) (ho : o.op = .call { callee := .builtin .append, args := #[s, x], argTypes := #[34, 34] }) (base : Nat) {w : World} {v : Value} {V U : List Ent} {n m c : Nat} {ad : Addr} (hV : V.length = n) (hU : U.length = m) (hs : a.eval s = v) (hx : a.eval x = .slice (some ad) m c)
    (hown : w.ownsRow base 27 3 v n (entsV V)) (hr : ∀ j u, (entsV U)[j]? = some u → w.cell? (ad.add j) = some u) (hn : n ≤ 100000) (hm : m ≤ 100000) (hb : base ≤ w.heap.size)
    (h : ∀ v' w', w'.ownsRow base 27 3 v' (n + m) (entsV (V ++ U)) → Below base w w' → (v' = .slice none 0 0 → v = .slice none 0 0) → wpList Try.prog ops Q rest (a.put o.dst v') w') : wpList Try.prog ops Q (o :: rest) a w := by
  obtain ⟨i0, hi, hz0, hz1, hz2⟩ := info_parts info_frame
  have hlen := entsV_len U
  rw [hU] at hlen
  refine wpList_append_own _ hgd s x 34 ho base 27 i0 (.agg #[.int .i64 0, .int .i64 0, .slice none 0 0]) 3 40 Try.underlying34 hi hz0 hz1 hz2 rfl (by decide) v n (entsV V) hs hown ad m c (entsV U) hx hlen hr (entsV_one' U) (by unfold maxLen; omega) (by omega) hb (fun v' w4 hown' hgrow hnil => ?_)
  rw [← entsV_append] at hown'
  exact h v' w4 hown' (Below.grown (Below.refl _ _) hgrow hb (fun k hk => (World.ownsRow.lt hown k hk).1)) (fun he => (hnil.1 he).1)
end
/-- Entries are appended to a row that was made empty, in a head that draws its order. -/
theorem mo_appE {ops : Array Oper} {w0 : World} {S : (Nat → Value) → Act} {fin : List (Nat × Fact) → Prop} {j : Nat} {d : Tmp} {rest : List (Nat × Tmp)} {Fs : List (Nat × Fact)} {o : Oper} (s x : Operand) (ho : ops[j]? = some o) (hg : o.guard = none) (hop : o.op = Op.call { callee := Callee.builtin Builtin.append, args := #[s, x], argTypes := #[34, 34] }) (U : List Ent) (m : Nat) (hm : m ≤ 100000) (hU : U.length = m)
    (h : ∀ vs w', Ext w0 w' → Deps ops Fs j vs w' → ∃ g ad c, (S vs).eval s = .slice (some ⟨g, 0, none⟩) 0 0 ∧ w0.heap.size ≤ g ∧ w'.heap[g]? = some (.cells #[] 27 (0, 0)) ∧ (S vs).eval x = .slice (some ad) m c ∧ ∀ j u, (entsV U)[j]? = some u → w'.cell? (ad.add j) = some u)
    (hrest : MoGo Try.prog .any ops Ext w0 S fin rest ((j, fun _ u w => (∃ g c, u = .slice (some ⟨g, 0, none⟩) m c) ∧ w.ownsRow w0.heap.size 27 3 u m (entsV U)) :: Fs)) : MoGo Try.prog .any ops Ext w0 S fin ((j, d) :: rest) Fs :=
  mo_any _ ho hg (fun _ v w w' h hx => by
      refine ⟨h.1, h.2.1, ?_⟩
      rcases h.2.2 with h1 | ⟨g, cap, cur, h1, h2, h3, h4⟩
      · exact .inl h1
      · exact .inr ⟨g, cap, cur, h1, h2, hx.blk h3, h4⟩) (fun vs w' hw hd => by
    obtain ⟨g, ad, c, hs, hgb, hgh, hx, hc⟩ := h vs w' hw hd
    obtain ⟨i0, hi, hz0, hz1, hz2⟩ := info_parts info_frame
    have hlen := entsV_len U
    rw [hU] at hlen
    rcases Nat.eq_zero_or_pos m with rfl | hpos
    · obtain rfl : U = [] := List.eq_nil_of_length_eq_zero hU
      have hr := run_append_room (P := Try.prog) w' 34 o.type 27 i0 Try.underlying34 hi g 0 0 #[] hgh ad 0 c [] (by simp) (fun j u hj => by simp at hj) (fun u hu => by cases hu) (Nat.le_refl _) (by simp)
      unfold moAt
      simp [execOp, hop, resolve, invoke, builtin, hs, hx, hr, Result.andThen, moUpon]
      have hset := setRow_heap w' g #[] #[] 27 (0, 0) hgh
      refine ⟨⟨by simp [entsV], .inr ⟨g, 0, #[], rfl, hgb, hset, Nat.le_refl _, Nat.zero_le _, rfl, by simp [entsV]⟩⟩, ⟨rfl, rfl, rfl, by simp [World.setRow], fun k hk => ?_⟩⟩
      by_cases hkg : k = g
      · subst hkg; rw [hset, hgh]
      · exact setRow_other w' g k _ hkg
    · obtain ⟨v', w'', hrun, r1, r2⟩ := run_append_arg_grows (P := Try.prog) w' 34 o.type 27 i0 _ 3 40 Try.underlying34 hi hz0 hz1 hz2 rfl (by decide) ⟨g, 0, none⟩ 0 0 [] rfl (fun j u hj => by simp at hj) ad m c (entsV U) hlen hc (by omega) (by unfold maxLen; omega) (by omega)
      unfold moAt
      simp [execOp, hop, resolve, invoke, builtin, hs, hx, hrun, Result.andThen, moUpon]
      refine ⟨?_, ext_grown r2⟩
      rw [Nat.zero_add, List.nil_append] at r1
      obtain ⟨hl, hown⟩ := r1
      rcases hown with ⟨_, h0⟩ | ⟨g', cap, cur, hv, hb, hrest'⟩
      · omega
      · exact ⟨⟨g', cap, hv⟩, hl, .inr ⟨g', cap, cur, hv, Nat.le_trans hw.size hb, hrest'⟩⟩) hrest
end Go.Proofs.Ytfmhdnhaaohdjaa
namespace Go.Proofs.Ytfmhdnhaaohdjaa
open Go.RowKit Go.ChangeShapes Go.WideShapes Go.Deep Ieee
set_option linter.unusedVariables false
set_option linter.unusedSimpArgs false
attribute [local irreducible] wpQuiet

theorem gtF_lt {a b : Sct} (h : b.x < a.x) : gtF a b = true := by unfold gtF; rw [decide_eq_true h]; rfl
theorem gtF_eq {a b : Sct} (h : a.x = b.x) (h2 : b.z < a.z) : gtF a b = true := by unfold gtF; rw [decide_eq_true h, decide_eq_true h2]; simp
theorem gtF_no {a b : Sct} (h : a.x < b.x) : gtF a b = false := by unfold gtF; rw [decide_eq_false (by omega), decide_eq_false (by omega)]; rfl
theorem gtF_no2 {a b : Sct} (h : a.x = b.x) (h2 : ¬ b.z < a.z) : gtF a b = false := by unfold gtF; rw [decide_eq_false (by omega), decide_eq_false h2]; simp
/-- A frame put among those of the entries, at place p. -/
theorem entS_ins (V : List Ent) (p : Nat) (e : Ent) : entS (V.take p ++ e :: V.drop p) = (entS V).take p ++ e.s :: (entS V).drop p := by
  unfold entS
  rw [List.map_append, List.map_cons, List.map_take, List.map_drop]
theorem sorted_step {w wo wz w7 w8 : World} {k a g gt ct n : Nat} {V : List Ent} {S : Sct} {R : List Sct} {v8 : Value} (hx : Ext w wo) (hxz : Ext wo wz) (hx7 : Ext wz w7) (hb8 : Below wz.heap.size w7 w8) (hk : k < n) (ha : a ≤ k) (hVl : V.length = k) (hVs : entS V = sortM R k) (hS : R.getD k noT = S) (hpa : posM (sortM R k) S k = a) (hent : EntsOk wo w.heap.size g V) (hgs : g < wo.heap.size) (hgt1 : wo.heap.size < gt) (hgt2 : gt < wz.heap.size) (hot : OwL wz gt (gt + 1) (some ⟨gt, 0, none⟩) S.v.length S.v) (hct : S.v.length ≤ ct) (hn8 : v8 ≠ .slice none 0 0)
    (hown : w8.ownsRow wz.heap.size 27 3 v8 (a + 1 + (k - a)) (entsV (V.take a ++ [(⟨S, gt, some ⟨gt, 0, none⟩, ct⟩ : Ent)] ++ V.drop a))) :
    ∃ (V' : List Ent) (g' c' : Nat), v8 = .slice (some ⟨g', 0, none⟩) (k + 1) c' ∧ V'.length = k + 1 ∧ entS V' = sortM R (k + 1) ∧ w8.ownsRow w.heap.size 27 3 v8 (k + 1) (entsV V') ∧ EntsOk w8 w.heap.size g' V' ∧ Ext w w8 := by
  have hx8 : Ext wz w8 := Ext.belowJ hx7 (Nat.le_refl _) hb8
  have hz := hxz.size
  have hw := hx.size
  rw [show a + 1 + (k - a) = k + 1 by omega, show V.take a ++ [(⟨S, gt, some ⟨gt, 0, none⟩, ct⟩ : Ent)] ++ V.drop a = V.take a ++ (⟨S, gt, some ⟨gt, 0, none⟩, ct⟩ : Ent) :: V.drop a by simp] at hown
  obtain ⟨hl, hd⟩ := hown
  rcases hd with ⟨h0, _⟩ | ⟨g', cap, cur, hv, hg, hrest⟩
  · exact absurd h0 hn8
  have hE : EntsOk wo w.heap.size wo.heap.size V := hent.more (Nat.le_refl _) (by omega)
  have hE2 : EntsOk wz w.heap.size wz.heap.size (V.take a ++ (⟨S, gt, some ⟨gt, 0, none⟩, ct⟩ : Ent) :: V.drop a) :=
    (hE.ext (Nat.le_refl _) hxz).ins a hot hct (by show w.heap.size ≤ gt; omega) (by show wo.heap.size ≤ gt; omega) hgt2
  refine ⟨V.take a ++ (⟨S, gt, some ⟨gt, 0, none⟩, ct⟩ : Ent) :: V.drop a, g', cap, hv, by simp; omega, ?_, ⟨hl, .inr ⟨g', cap, cur, hv, by omega, hrest⟩⟩, (hE2.ext (Nat.le_refl _) hx8).more (Nat.le_refl _) hg, (hx.trans hxz).trans hx8⟩
  rw [entS_ins, hVs, sortM, hS]
  unfold insM
  rw [sortM_len, hpa]
set_option maxRecDepth 20000 in
set_option maxHeartbeats 4000000 in
theorem c_l07Sorted {w : World} {B n c : Nat} {A : Option Addr} {R : List Sct} (h : RdM w B A n R) (hB : B ≤ w.heap.size) (hn : n ≤ 12) (hval : ∀ j, j < n → 1 ≤ (R.getD j noT).v.length ∧ (R.getD j noT).v.length ≤ 128) :
    Calls Try.prog 72 #[.slice A n c] w fun e w' => ∃ g c', e = .returned (.slice (some ⟨g, 0, none⟩) n c') ∧ OwM w' w.heap.size w'.heap.size (some ⟨g, 0, none⟩) n (sortM R n) ∧ Ext w w' := by
  have hlen := h.len
  go_enter Try.func72, Try.ntmps72
  go_wp2_with (fail)
  go_loopw [3, 11] (fun o i wr => ∃ (k : Nat) (V : List Ent) (g c' : Nat), k ≤ n ∧ i = .int .i64 k ∧ o = .slice (some ⟨g, 0, none⟩) k c' ∧ V.length = k ∧ entS V = sortM R k ∧ wr.ownsRow w.heap.size 27 3 o k (entsV V) ∧ EntsOk wr w.heap.size g V ∧ Ext w wr) (fun _ i _ => n - (intOf i).toNat)
  case atStart => exact ⟨0, [], w.heap.size, 0, Nat.zero_le _, rfl, rfl, rfl, rfl, World.ownsRow_made _ _ 0 (Nat.le_refl _) (Nat.zero_le _) rfl, EntsOk.nil _ _ _, (by repeat (first | assumption | exact Ext.refl _ | apply Ext.drewN | apply Ext.drew | apply Ext.alloc | (refine Ext.trans ?_ (by assumption)) | (refine Ext.set ?_ (by dsimp only; omega) _)))⟩
  case round =>
    obtain ⟨k, V, g, c', hk, rfl, rfl, hVl, hVs, hown, hents, hx⟩ := hrel
    obtain ⟨wo, hwo⟩ : ∃ x, x = wr := ⟨_, rfl⟩
    subst hwo
    by_cases hlt : k < n
    · have hlt' : (k : Int) < (n : Int) := by omega
      obtain ⟨b1, o1, A1, c1, rfl, hb1, ⟨d0, d1, d2⟩, hrd, hlc⟩ := (h.below (hx.mono hB)).cell hlt
      obtain ⟨hl1, hl2⟩ := hval k hlt
      have hbw := Nat.le_trans hB hx.size
      have hkR : k < R.length := by omega
      obtain ⟨S, hS⟩ : ∃ S, R.getD k noT = S := ⟨_, rfl⟩
      have HSK := Lib.hid hS
      rw [hS] at d0 d1 d2 hrd hlc hl1 hl2
      have cR := fun (W : World) (hX : Ext wo W) => hrd.below (hX.mono hbw)
      have cB := fun (W : World) (hX : Ext wo W) => Nat.le_trans hbw hX.size
      have hsV : ∀ p, p < k → (sortM R k).getD p noT = (V.getD p noE).s := fun p hp => by rw [← hVs, entS_at]
      have hrow : ∀ W, Ext wo W → ∀ j u, (entsV V)[j]? = some u → W.cell? ⟨g, j, none⟩ = some u := fun W hW j u hu => by
        have h1 := hown.cells (g := g) rfl j u hu
        rw [Addr.add_lit, Nat.zero_add] at h1
        have h2 := hown.lt g rfl
        exact (hW.cell (by show g < _; omega)).trans h1
      obtain ⟨hkc, hcm, hgs, hgb⟩ : k ≤ c' ∧ c' ≤ maxLen ∧ g < wo.heap.size ∧ w.heap.size ≤ g := by
        have h2 := hown.lt g rfl
        rcases hown.2 with ⟨h0, _⟩ | ⟨g', cap, cur, h0, _, _, h3, h4, _⟩
        · cases h0
        · simp only [Value.slice.injEq] at h0
          obtain ⟨_, _, rfl⟩ := h0
          exact ⟨h3, h4, h2.2, h2.1⟩
      obtain ⟨q0, q1, q2⟩ : SbAt (wo.alloc (.cells #[.int .i64 S.x, .int .i64 S.z, .slice A1 S.v.length c1] 27)) wo.heap.size S.x S.z A1 S.v.length c1 := SbAt.blk (T := 27) (by repeat (first | (refine al_at ?_ ?_ <;> first | rfl | (simp only [al_size] <;> omega)) | apply al_old))
      have CR := Lib.hid cR
      have CB := Lib.hid cB
      have HSV := Lib.hid hsV
      have HROW := Lib.hid hrow
      have HVS := Lib.hid hVs
      have HENT := Lib.hid hents
      have HL1 := Lib.hid hl1
      have HL2 := Lib.hid hl2
      have HKR := Lib.hid hkR
      clear cR cB hsV hrow hVs hents hrd hlc hS hown hl1 hl2 hval hlen hkR
      go_wp2_with (at_builtin; refine app_fl (B := B) (A := A1) (m := S.v.length) (c := c1) (L := S.v) rfl _ _ rfl rfl rfl (by simp only [al_size]) rfl (CR.out _ (by repeat (first | assumption | exact Ext.refl _ | apply Ext.drewN | apply Ext.drew | apply Ext.alloc | (refine Ext.trans ?_ (by assumption)) | (refine Ext.set ?_ (by dsimp only; omega) _)))) (CB.out _ (by repeat (first | assumption | exact Ext.refl _ | apply Ext.drewN | apply Ext.drew | apply Ext.alloc | (refine Ext.trans ?_ (by assumption)) | (refine Ext.set ?_ (by dsimp only; omega) _)))) (by have := HL2.out; omega) HL1.out ?_; intro v' w4 hnew hx4; obtain ⟨gt, ct, rfl, hgt, hct, hgt2, hot⟩ := hnew; have hBX := hx4.blk (g := wo.heap.size) (o := .cells #[.int .i64 S.x, .int .i64 S.z, .slice A1 S.v.length c1] 27 (0, 0)) (by repeat (first | (refine al_at ?_ ?_ <;> first | rfl | (simp only [al_size] <;> omega)) | apply al_old)); obtain ⟨e0, e1, e2, z0, z1, z2⟩ := three_c hBX)
      obtain ⟨w5, hw5⟩ : ∃ x, x = w4.setCell ⟨wo.heap.size, 2, none⟩ (.slice (some ⟨gt, 0, none⟩) S.v.length ct) := ⟨_, rfl⟩
      rw [← hw5]
      have hxr4 : Ext wo w4 := (show Ext wo (wo.alloc (.cells #[.int .i64 S.x, .int .i64 S.z, .slice A1 S.v.length c1] 27)) from (by repeat (first | assumption | exact Ext.refl _ | apply Ext.drewN | apply Ext.drew | apply Ext.alloc | (refine Ext.trans ?_ (by assumption)) | (refine Ext.set ?_ (by dsimp only; omega) _)))).trans hx4
      have hx5 : Ext wo w5 := by rw [hw5]; exact Ext.set hxr4 (Nat.le_refl _) _
      have hbx : w5.heap[wo.heap.size]? = some (.cells #[.int .i64 S.x, .int .i64 S.z, .slice (some ⟨gt, 0, none⟩) S.v.length ct] 27 (0, 0)) := by rw [hw5]; exact blk_set1 hBX 2 _
      have hgt3 : wo.heap.size < gt := by rw [al_size] at hgt; omega
      have hot5 : OwL w5 gt (gt + 1) (some ⟨gt, 0, none⟩) S.v.length S.v := by
        rw [hw5]
        exact hot.same (fun b h7 h8 => Below.heap_setCell w4 _ _ _ (by show b ≠ wo.heap.size; omega))
      have hgt5 : gt < w5.heap.size := by rw [hw5]; simpa using hgt2
      have hbs := blk_lt hbx
      have HOT := Lib.hid hot5
      have HX5 := Lib.hid hx5
      clear hw5 hxr4 hot hot5 hgt2 hgt hBX e0 e1 e2 z0 z1 z2 hx4 q0 q1 q2
      go_loopw [6] (fun y wq => ∃ a : Nat, a ≤ k ∧ y = .int .i64 a ∧ posM (sortM R k) S k = posM (sortM R k) S a ∧ Ext w5 wq) (fun y _ => (intOf y).toNat)
      case atStart => exact ⟨k, Nat.le_refl _, rfl, rfl, Ext.refl _⟩
      case round =>
        obtain ⟨a, ha, rfl, hps, hxq⟩ := hrel
        have hx9 := HX5.out.trans hxq
        have hbq := hxq.blk hbx
        obtain ⟨p0, p1, p2, y0, y1, y2⟩ := three_c hbq
        have HPS := Lib.hid hps
        have HBX := Lib.hid hbx
        have HBQ := Lib.hid hbq
        clear hps hbq hbx
        by_cases hgo : 0 < a ∧ gtF ((sortM R k).getD (a - 1) noT) S = true
        · obtain ⟨hpos, hgt⟩ := hgo
          obtain ⟨j, rfl⟩ : ∃ j, a = j + 1 := ⟨a - 1, by omega⟩
          rw [Nat.add_sub_cancel] at hgt
          have hnext := posM_go hgt
          have hjk : j < V.length := by omega
          obtain ⟨r0, r1, _⟩ := entsV_three V j hjk
          have s0 := HROW.out _ hx9 _ _ r0
          have s1 := HROW.out _ hx9 _ _ r1
          rw [HSV.out j (by omega)] at hgt
          generalize (V.getD j noE).s = U at s0 s1 hgt
          clear r0 r1
          have i0 : (0 : Int) < ((j + 1 : Nat) : Int) := by omega
          have i0' : (0 : Int) < (j : Int) + 1 := by omega
          have hw1 : IntKind.i64.wrap (j : Int) = (j : Int) := IntWalk.i64_in _ (by omega)
          have hw2 : IntKind.i64.wrap ((j : Int) + 1) = (j : Int) + 1 := IntWalk.i64_in _ (by omega)
          have i3 : (0 : Int) ≤ (j : Int) := by omega
          have i4 : (j : Int) < (k : Int) := by omega
          unfold gtF at hgt
          rw [Bool.or_eq_true, Bool.and_eq_true] at hgt
          rcases hgt with hgt | ⟨hge, hgt⟩
          · have t1 : S.x < U.x := of_decide_eq_true hgt
            clear hgt
            go_wp2_with (fail)
            go_quiet (fail)
            all_goals
              go_wp2_with (fail)
              exact ⟨⟨j, by omega, by go_num, HPS.out.trans hnext, (by repeat (first | assumption | exact Ext.refl _ | apply Ext.drewN | apply Ext.drew | apply Ext.alloc | (refine Ext.trans ?_ (by assumption)) | (refine Ext.set ?_ (by dsimp only; omega) _)))⟩, by simp [intOf]⟩
          · have t1 : S.z < U.z := of_decide_eq_true hgt
            have t2 : U.x = S.x := of_decide_eq_true hge
            have t3 : ¬ S.x < U.x := by omega
            clear hgt hge
            go_wp2_with (fail)
            go_quiet (fail)
            all_goals
              go_wp2_with (fail)
              exact ⟨⟨j, by omega, by go_num, HPS.out.trans hnext, (by repeat (first | assumption | exact Ext.refl _ | apply Ext.drewN | apply Ext.drew | apply Ext.alloc | (refine Ext.trans ?_ (by assumption)) | (refine Ext.set ?_ (by dsimp only; omega) _)))⟩, by simp [intOf]⟩
        · have hpa : posM (sortM R k) S k = a := by
            rw [HPS.out]
            cases a with
            | zero => rfl
            | succ j =>
              refine posM_stay ?_
              rw [Bool.eq_false_iff]
              exact fun he => hgo ⟨Nat.succ_pos j, by simpa using he⟩
          rcases Nat.eq_zero_or_pos a with ha0 | ha0
          · have i0 : ¬ ((0 : Int) < (a : Int)) := by omega
            have i0n : ¬ (0 < a) := by omega
            clear ha0
            go_wp2_with (fail)
            go_quiet (fail)
            go_wp2_with (fail)
            have hxz : Ext wo (wr.drewN nq) := (by repeat (first | assumption | exact Ext.refl _ | apply Ext.drewN | apply Ext.drew | apply Ext.alloc | (refine Ext.trans ?_ (by assumption)) | (refine Ext.set ?_ (by dsimp only; omega) _)))
            have hb9 : (wr.drewN nq).heap[wo.heap.size]? = some (.cells #[.int .i64 S.x, .int .i64 S.z, .slice (some ⟨gt, 0, none⟩) S.v.length ct] 27 (0, 0)) := HBQ.out
            have hot9 := HOT.out.ext (by omega) (show Ext w5 (wr.drewN nq) from (by repeat (first | assumption | exact Ext.refl _ | apply Ext.drewN | apply Ext.drew | apply Ext.alloc | (refine Ext.trans ?_ (by assumption)) | (refine Ext.set ?_ (by dsimp only; omega) _))))
            have hgt9 : gt < (wr.drewN nq).heap.size := Nat.lt_of_lt_of_le hgt5 (show Ext w5 (wr.drewN nq) from (by repeat (first | assumption | exact Ext.refl _ | apply Ext.drewN | apply Ext.drew | apply Ext.alloc | (refine Ext.trans ?_ (by assumption)) | (refine Ext.set ?_ (by dsimp only; omega) _)))).size
            clear p0 p1 p2 y0 y1 y2
            obtain ⟨wz, hwz⟩ : ∃ x, x = wr.drewN nq := ⟨_, rfl⟩
            rw [← hwz] at hxz hb9 hot9 hgt9 ⊢
            clear hwz
            obtain ⟨p0, p1, p2, _, _, _⟩ := three_c hb9
            have hbz := blk_lt hb9
            have hrz : ∀ W, Ext wz W → ∀ j u, (entsV V)[j]? = some u → W.cell? ⟨g, j, none⟩ = some u := fun W hW => HROW.out _ (hxz.trans hW)
            have hVa : (V.take a).length = a := by simp; omega
            have hVd : (V.drop a).length = k - a := by simp; omega
            have htk : ∀ W, Ext wz W → ∀ j u, (entsV (V.take a))[j]? = some u → W.cell? ((⟨g, 0, none⟩ : Addr).add j) = some u := fun W hW j u hu => by
              rw [Addr.add_lit, Nat.zero_add]
              refine hrz W hW j u ?_
              rw [← entsV_take V a (by omega)] at hu
              rw [List.getElem?_take] at hu
              split at hu
              · exact hu
              · cases hu
            have htd : ∀ W, Ext wz W → ∀ j u, (entsV (V.drop a))[j]? = some u → W.cell? ((⟨g, a * 3, none⟩ : Addr).add j) = some u := fun W hW j u hu => by
              rw [Addr.add_lit]
              refine hrz W hW _ u ?_
              rw [← entsV_drop V a (by omega), List.getElem?_drop] at hu
              exact hu
            have HTK := Lib.hid htk
            have HTD := Lib.hid htd
            have HRZ := Lib.hid hrz
            have HB9 := Lib.hid hb9
            have HVA := Lib.hid hVa
            have HVD := Lib.hid hVd
            have HPA := Lib.hid hpa
            have HXZ := Lib.hid hxz
            have HVL := Lib.hid hVl
            have i1 : (0 : Int) ≤ (a : Int) := by omega
            have i2 : (a : Int) ≤ (c' : Int) := by omega
            have i3 : (a : Int) ≤ (k : Int) := by omega
            have hz1 : wo.heap.size ≤ wz.heap.size := hxz.size
            clear htk htd hrz hb9 hVa hVd hpa hxz hVl HBX HBQ hgo HPS hxq hx9
            refine wp_region_any (by kernel_rfl) ?_
            refine wpAny_mo_go (md := .any) (R := Ext) (w := wz) [(0, 62), (1, 63), (2, 64), (3, 65), (4, 66), (5, 67), (6, 68)] [7, 8] (tl := [_, _]) (S := ?S1_) (by kernel_rfl) (by rfl) (by rfl) Ext.refl ext_tr (ext_drew1 _) ?hS1_ ?go1_
            case hS1_ => intro vs; simp only [putAll, Act.put, List.setIfInBounds_toArray, List.set_cons_zero, List.set_cons_succ]; rfl
            case go1_ =>
            refine mo_make (fun a => .slice (some a) 0 0) (.cells #[] 27) (by rfl) (by rfl) (by intro vs w1 hx_ hd; have q0 := (hx_.cell hbz).trans p0; have q1 := (hx_.cell hbz).trans p1; have q2 := (hx_.cell hbz).trans p2; go_simp; first | done | rfl) ?_
            refine mo_fix _ (by rfl) (by rfl) (by intro vs w1 hx_ hd; have q0 := (hx_.cell hbz).trans p0; have q1 := (hx_.cell hbz).trans p1; have q2 := (hx_.cell hbz).trans p2; go_simp; first | done | rfl) ?_
            refine mo_fix _ (by rfl) (by rfl) (by intro vs w1 hx_ hd; have q0 := (hx_.cell hbz).trans p0; have q1 := (hx_.cell hbz).trans p1; have q2 := (hx_.cell hbz).trans p2; go_simp; first | done | rfl) ?_
            refine mo_fix _ (by rfl) (by rfl) (by intro vs w1 hx_ hd; have q0 := (hx_.cell hbz).trans p0; have q1 := (hx_.cell hbz).trans p1; have q2 := (hx_.cell hbz).trans p2; have e1 := hd 1 (by kernel_rfl); have e2 := hd 2 (by kernel_rfl); simp (decide := true) only [factAt, if_true, if_false] at e1 e2; simp only [e1, e2]; go_simp; first | done | rfl) ?_
            refine mo_appE (.tmp 62) (.tmp 65) (by rfl) (by rfl) (by rfl) (V.take a) a (by omega) HVA.out (by intro vs w9 hx_ hd; have e0 := hd 0 (by kernel_rfl); have e3 := hd 3 (by kernel_rfl); simp (decide := true) only [factAt, if_true, if_false] at e0 e3; obtain ⟨ga, e0, hga, hgb⟩ := e0; exact ⟨ga, ⟨g, 0, none⟩, c', e0, hga, hgb, e3, HTK.out _ hx_⟩) ?_
            refine mo_fix _ (by rfl) (by rfl) (by intro vs w1 hx_ hd; have q0 := (hx_.cell hbz).trans p0; have q1 := (hx_.cell hbz).trans p1; have q2 := (hx_.cell hbz).trans p2; go_simp; first | done | rfl) ?_
            refine mo_make (fun a => .slice (some a) 1 1) (.cells #[.int .i64 S.x, .int .i64 S.z, .slice (some ⟨gt, 0, none⟩) S.v.length ct] 27) (by rfl) (by rfl) (by intro vs w1 hx_ hd; have q0 := (hx_.cell hbz).trans p0; have q1 := (hx_.cell hbz).trans p1; have q2 := (hx_.cell hbz).trans p2; have e5 := hd 5 (by kernel_rfl); simp (decide := true) only [factAt, if_true, if_false] at e5; simp only [e5]; go_simp; first | done | rfl) ?_
            refine mo_end ?_
            intro vs w2 hx2 hd
            have e4 := hd 4 (by kernel_rfl)
            have e6 := hd 6 (by kernel_rfl)
            simp (decide := true) only [factAt, if_true, if_false] at e4 e6
            obtain ⟨⟨g4, c4, e4⟩, hown4⟩ := e4
            obtain ⟨g6, e6, hg6, hb6⟩ := e6
            generalize vs 4 = v4 at e4 hown4 ⊢
            subst e4
            generalize vs 6 = v6 at e6 ⊢
            subst e6
            clear hd
            have hu6 : ∀ j u, (entsV [(⟨S, gt, some ⟨gt, 0, none⟩, ct⟩ : Ent)])[j]? = some u → w2.cell? ((⟨g6, 0, none⟩ : Addr).add j) = some u := fun j u hu => by
              rw [Addr.add_lit, Nat.zero_add, cell_of_row w2 g6 j _ _ (0, 0) hb6]
              rw [entsV_one] at hu
              simpa [entV] using hu
            refine app_ent rfl _ _ rfl wz.heap.size (v := .slice (some ⟨g4, 0, none⟩) a c4) (U := [(⟨S, gt, some ⟨gt, 0, none⟩, ct⟩ : Ent)]) (m := 1) HVA.out rfl rfl rfl hown4 hu6 (by omega) (by omega) hx2.size ?_
            intro v7 w7 hown7 hb7 hnn7
            have hx7 : Ext wz w7 := Ext.belowJ hx2 (Nat.le_refl _) hb7
            have hsz7 := hx7.size
            have hn7 : v7 ≠ .slice none 0 0 := fun he => by have := hnn7 he; cases this
            have ht0 : c' = a → ∀ j u, (entsV (V.drop a))[j]? = some u → w7.cell? ((⟨g, 0, none⟩ : Addr).add j) = some u := fun hc j u hu => by
              rw [List.eq_nil_of_length_eq_zero (l := V.drop a) (by rw [HVD.out]; omega)] at hu
              simp [entsV] at hu
            have HT0 := Lib.hid ht0
            have HN7 := Lib.hid hn7
            have HOWN7 := Lib.hid hown7
            have HX7 := Lib.hid hx7
            clear hn7 ht0 hown7 hnn7 hown4 hb6 hb7 hu6 hx7
            by_cases hcc : c' = a
            all_goals
              go_wp2_with (at_builtin; (first | refine app_ent (ad := ⟨g, a * 3, none⟩) rfl _ _ rfl wz.heap.size (v := v7) (V := V.take a ++ [(⟨S, gt, some ⟨gt, 0, none⟩, ct⟩ : Ent)]) (n := a + 1) (m := k - a) (by rw [List.length_append, HVA.out]; rfl) HVD.out rfl rfl HOWN7.out (HTD.out _ HX7.out) (by omega) (by omega) hsz7 ?_ | refine app_ent (ad := ⟨g, 0, none⟩) rfl _ _ rfl wz.heap.size (v := v7) (V := V.take a ++ [(⟨S, gt, some ⟨gt, 0, none⟩, ct⟩ : Ent)]) (n := a + 1) (m := k - a) (by rw [List.length_append, HVA.out]; rfl) HVD.out rfl rfl HOWN7.out (HT0.out hcc) (by omega) (by omega) hsz7 ?_); intro v8 w8 hown8 hb8 hnn8)
            all_goals
              obtain ⟨V', g', c2, rfl, r1, r2, r3, r4, r5⟩ := sorted_step (n := n) hx HXZ.out HX7.out hb8 hlt ha HVL.out HVS.out HSK.out HPA.out HENT.out hgs hgt3 hgt9 hot9 hct (fun he => HN7.out (hnn8 he)) hown8
              exact ⟨⟨k + 1, V', g', c2, by omega, by go_num, rfl, r1, r2, r3, r4, r5⟩, by simp [intOf]; omega⟩
          · obtain ⟨j, hj⟩ : ∃ j, a = j + 1 := ⟨a - 1, by omega⟩
            have hgt : gtF ((sortM R k).getD j noT) S = false := by
              rw [Bool.eq_false_iff]
              exact fun he => hgo ⟨ha0, by rw [hj]; simpa using he⟩
            have hjk : j < V.length := by omega
            obtain ⟨r0, r1, _⟩ := entsV_three V j hjk
            have s0 := HROW.out _ hx9 _ _ r0
            have s1 := HROW.out _ hx9 _ _ r1
            rw [HSV.out j (by omega)] at hgt
            generalize (V.getD j noE).s = U at s0 s1 hgt
            clear r0 r1
            have i0' : (0 : Int) < (a : Int) := by omega
            have hw1 : IntKind.i64.wrap (j : Int) = (j : Int) := IntWalk.i64_in _ (by omega)
            have hw2 : (a : Int) - 1 = (j : Int) := by omega
            have i3' : (0 : Int) ≤ (j : Int) := by omega
            have i4 : (j : Int) < (k : Int) := by omega
            clear hj hjk
            rcases Int.lt_trichotomy U.x S.x with hl | hl | hl
            · have t1 : ¬ S.x < U.x := by omega
              have t2 : ¬ U.x = S.x := by omega
              clear hgt hl
              go_wp2_with (fail)
              go_quiet (fail)
              go_wp2_with (fail)
              clear s0 s1 i0' hw1 hw2 i3' i4 t1 t2 ha0
              have hxz : Ext wo (wr.drewN nq) := (by repeat (first | assumption | exact Ext.refl _ | apply Ext.drewN | apply Ext.drew | apply Ext.alloc | (refine Ext.trans ?_ (by assumption)) | (refine Ext.set ?_ (by dsimp only; omega) _)))
              have hb9 : (wr.drewN nq).heap[wo.heap.size]? = some (.cells #[.int .i64 S.x, .int .i64 S.z, .slice (some ⟨gt, 0, none⟩) S.v.length ct] 27 (0, 0)) := HBQ.out
              have hot9 := HOT.out.ext (by omega) (show Ext w5 (wr.drewN nq) from (by repeat (first | assumption | exact Ext.refl _ | apply Ext.drewN | apply Ext.drew | apply Ext.alloc | (refine Ext.trans ?_ (by assumption)) | (refine Ext.set ?_ (by dsimp only; omega) _))))
              have hgt9 : gt < (wr.drewN nq).heap.size := Nat.lt_of_lt_of_le hgt5 (show Ext w5 (wr.drewN nq) from (by repeat (first | assumption | exact Ext.refl _ | apply Ext.drewN | apply Ext.drew | apply Ext.alloc | (refine Ext.trans ?_ (by assumption)) | (refine Ext.set ?_ (by dsimp only; omega) _)))).size
              clear p0 p1 p2 y0 y1 y2
              obtain ⟨wz, hwz⟩ : ∃ x, x = wr.drewN nq := ⟨_, rfl⟩
              rw [← hwz] at hxz hb9 hot9 hgt9 ⊢
              clear hwz
              obtain ⟨p0, p1, p2, _, _, _⟩ := three_c hb9
              have hbz := blk_lt hb9
              have hrz : ∀ W, Ext wz W → ∀ j u, (entsV V)[j]? = some u → W.cell? ⟨g, j, none⟩ = some u := fun W hW => HROW.out _ (hxz.trans hW)
              have hVa : (V.take a).length = a := by simp; omega
              have hVd : (V.drop a).length = k - a := by simp; omega
              have htk : ∀ W, Ext wz W → ∀ j u, (entsV (V.take a))[j]? = some u → W.cell? ((⟨g, 0, none⟩ : Addr).add j) = some u := fun W hW j u hu => by
                rw [Addr.add_lit, Nat.zero_add]
                refine hrz W hW j u ?_
                rw [← entsV_take V a (by omega)] at hu
                rw [List.getElem?_take] at hu
                split at hu
                · exact hu
                · cases hu
              have htd : ∀ W, Ext wz W → ∀ j u, (entsV (V.drop a))[j]? = some u → W.cell? ((⟨g, a * 3, none⟩ : Addr).add j) = some u := fun W hW j u hu => by
                rw [Addr.add_lit]
                refine hrz W hW _ u ?_
                rw [← entsV_drop V a (by omega), List.getElem?_drop] at hu
                exact hu
              have HTK := Lib.hid htk
              have HTD := Lib.hid htd
              have HRZ := Lib.hid hrz
              have HB9 := Lib.hid hb9
              have HVA := Lib.hid hVa
              have HVD := Lib.hid hVd
              have HPA := Lib.hid hpa
              have HXZ := Lib.hid hxz
              have HVL := Lib.hid hVl
              have i1 : (0 : Int) ≤ (a : Int) := by omega
              have i2 : (a : Int) ≤ (c' : Int) := by omega
              have i3 : (a : Int) ≤ (k : Int) := by omega
              have hz1 : wo.heap.size ≤ wz.heap.size := hxz.size
              clear htk htd hrz hb9 hVa hVd hpa hxz hVl HBX HBQ hgo HPS hxq hx9
              refine wp_region_any (by kernel_rfl) ?_
              refine wpAny_mo_go (md := .any) (R := Ext) (w := wz) [(0, 62), (1, 63), (2, 64), (3, 65), (4, 66), (5, 67), (6, 68)] [7, 8] (tl := [_, _]) (S := ?S2_) (by kernel_rfl) (by rfl) (by rfl) Ext.refl ext_tr (ext_drew1 _) ?hS2_ ?go2_
              case hS2_ => intro vs; simp only [putAll, Act.put, List.setIfInBounds_toArray, List.set_cons_zero, List.set_cons_succ]; rfl
              case go2_ =>
              refine mo_make (fun a => .slice (some a) 0 0) (.cells #[] 27) (by rfl) (by rfl) (by intro vs w1 hx_ hd; have q0 := (hx_.cell hbz).trans p0; have q1 := (hx_.cell hbz).trans p1; have q2 := (hx_.cell hbz).trans p2; go_simp; first | done | rfl) ?_
              refine mo_fix _ (by rfl) (by rfl) (by intro vs w1 hx_ hd; have q0 := (hx_.cell hbz).trans p0; have q1 := (hx_.cell hbz).trans p1; have q2 := (hx_.cell hbz).trans p2; go_simp; first | done | rfl) ?_
              refine mo_fix _ (by rfl) (by rfl) (by intro vs w1 hx_ hd; have q0 := (hx_.cell hbz).trans p0; have q1 := (hx_.cell hbz).trans p1; have q2 := (hx_.cell hbz).trans p2; go_simp; first | done | rfl) ?_
              refine mo_fix _ (by rfl) (by rfl) (by intro vs w1 hx_ hd; have q0 := (hx_.cell hbz).trans p0; have q1 := (hx_.cell hbz).trans p1; have q2 := (hx_.cell hbz).trans p2; have e1 := hd 1 (by kernel_rfl); have e2 := hd 2 (by kernel_rfl); simp (decide := true) only [factAt, if_true, if_false] at e1 e2; simp only [e1, e2]; go_simp; first | done | rfl) ?_
              refine mo_appE (.tmp 62) (.tmp 65) (by rfl) (by rfl) (by rfl) (V.take a) a (by omega) HVA.out (by intro vs w9 hx_ hd; have e0 := hd 0 (by kernel_rfl); have e3 := hd 3 (by kernel_rfl); simp (decide := true) only [factAt, if_true, if_false] at e0 e3; obtain ⟨ga, e0, hga, hgb⟩ := e0; exact ⟨ga, ⟨g, 0, none⟩, c', e0, hga, hgb, e3, HTK.out _ hx_⟩) ?_
              refine mo_fix _ (by rfl) (by rfl) (by intro vs w1 hx_ hd; have q0 := (hx_.cell hbz).trans p0; have q1 := (hx_.cell hbz).trans p1; have q2 := (hx_.cell hbz).trans p2; go_simp; first | done | rfl) ?_
              refine mo_make (fun a => .slice (some a) 1 1) (.cells #[.int .i64 S.x, .int .i64 S.z, .slice (some ⟨gt, 0, none⟩) S.v.length ct] 27) (by rfl) (by rfl) (by intro vs w1 hx_ hd; have q0 := (hx_.cell hbz).trans p0; have q1 := (hx_.cell hbz).trans p1; have q2 := (hx_.cell hbz).trans p2; have e5 := hd 5 (by kernel_rfl); simp (decide := true) only [factAt, if_true, if_false] at e5; simp only [e5]; go_simp; first | done | rfl) ?_
              refine mo_end ?_
              intro vs w2 hx2 hd
              have e4 := hd 4 (by kernel_rfl)
              have e6 := hd 6 (by kernel_rfl)
              simp (decide := true) only [factAt, if_true, if_false] at e4 e6
              obtain ⟨⟨g4, c4, e4⟩, hown4⟩ := e4
              obtain ⟨g6, e6, hg6, hb6⟩ := e6
              generalize vs 4 = v4 at e4 hown4 ⊢
              subst e4
              generalize vs 6 = v6 at e6 ⊢
              subst e6
              clear hd
              have hu6 : ∀ j u, (entsV [(⟨S, gt, some ⟨gt, 0, none⟩, ct⟩ : Ent)])[j]? = some u → w2.cell? ((⟨g6, 0, none⟩ : Addr).add j) = some u := fun j u hu => by
                rw [Addr.add_lit, Nat.zero_add, cell_of_row w2 g6 j _ _ (0, 0) hb6]
                rw [entsV_one] at hu
                simpa [entV] using hu
              refine app_ent rfl _ _ rfl wz.heap.size (v := .slice (some ⟨g4, 0, none⟩) a c4) (U := [(⟨S, gt, some ⟨gt, 0, none⟩, ct⟩ : Ent)]) (m := 1) HVA.out rfl rfl rfl hown4 hu6 (by omega) (by omega) hx2.size ?_
              intro v7 w7 hown7 hb7 hnn7
              have hx7 : Ext wz w7 := Ext.belowJ hx2 (Nat.le_refl _) hb7
              have hsz7 := hx7.size
              have hn7 : v7 ≠ .slice none 0 0 := fun he => by have := hnn7 he; cases this
              have ht0 : c' = a → ∀ j u, (entsV (V.drop a))[j]? = some u → w7.cell? ((⟨g, 0, none⟩ : Addr).add j) = some u := fun hc j u hu => by
                rw [List.eq_nil_of_length_eq_zero (l := V.drop a) (by rw [HVD.out]; omega)] at hu
                simp [entsV] at hu
              have HT0 := Lib.hid ht0
              have HN7 := Lib.hid hn7
              have HOWN7 := Lib.hid hown7
              have HX7 := Lib.hid hx7
              clear hn7 ht0 hown7 hnn7 hown4 hb6 hb7 hu6 hx7
              by_cases hcc : c' = a
              all_goals
                go_wp2_with (at_builtin; (first | refine app_ent (ad := ⟨g, a * 3, none⟩) rfl _ _ rfl wz.heap.size (v := v7) (V := V.take a ++ [(⟨S, gt, some ⟨gt, 0, none⟩, ct⟩ : Ent)]) (n := a + 1) (m := k - a) (by rw [List.length_append, HVA.out]; rfl) HVD.out rfl rfl HOWN7.out (HTD.out _ HX7.out) (by omega) (by omega) hsz7 ?_ | refine app_ent (ad := ⟨g, 0, none⟩) rfl _ _ rfl wz.heap.size (v := v7) (V := V.take a ++ [(⟨S, gt, some ⟨gt, 0, none⟩, ct⟩ : Ent)]) (n := a + 1) (m := k - a) (by rw [List.length_append, HVA.out]; rfl) HVD.out rfl rfl HOWN7.out (HT0.out hcc) (by omega) (by omega) hsz7 ?_); intro v8 w8 hown8 hb8 hnn8)
              all_goals
                obtain ⟨V', g', c2, rfl, r1, r2, r3, r4, r5⟩ := sorted_step (n := n) hx HXZ.out HX7.out hb8 hlt ha HVL.out HVS.out HSK.out HPA.out HENT.out hgs hgt3 hgt9 hot9 hct (fun he => HN7.out (hnn8 he)) hown8
                exact ⟨⟨k + 1, V', g', c2, by omega, by go_num, rfl, r1, r2, r3, r4, r5⟩, by simp [intOf]; omega⟩
            · have t1 : ¬ S.x < U.x := by omega
              have t2 : U.x = S.x := hl
              have t3 : ¬ S.z < U.z := fun he => by rw [gtF_eq hl he] at hgt; cases hgt
              clear hgt hl
              go_wp2_with (fail)
              go_quiet (fail)
              go_wp2_with (fail)
              clear s0 s1 i0' hw1 hw2 i3' i4 t1 t2 t3 ha0
              have hxz : Ext wo (wr.drewN nq) := (by repeat (first | assumption | exact Ext.refl _ | apply Ext.drewN | apply Ext.drew | apply Ext.alloc | (refine Ext.trans ?_ (by assumption)) | (refine Ext.set ?_ (by dsimp only; omega) _)))
              have hb9 : (wr.drewN nq).heap[wo.heap.size]? = some (.cells #[.int .i64 S.x, .int .i64 S.z, .slice (some ⟨gt, 0, none⟩) S.v.length ct] 27 (0, 0)) := HBQ.out
              have hot9 := HOT.out.ext (by omega) (show Ext w5 (wr.drewN nq) from (by repeat (first | assumption | exact Ext.refl _ | apply Ext.drewN | apply Ext.drew | apply Ext.alloc | (refine Ext.trans ?_ (by assumption)) | (refine Ext.set ?_ (by dsimp only; omega) _))))
              have hgt9 : gt < (wr.drewN nq).heap.size := Nat.lt_of_lt_of_le hgt5 (show Ext w5 (wr.drewN nq) from (by repeat (first | assumption | exact Ext.refl _ | apply Ext.drewN | apply Ext.drew | apply Ext.alloc | (refine Ext.trans ?_ (by assumption)) | (refine Ext.set ?_ (by dsimp only; omega) _)))).size
              clear p0 p1 p2 y0 y1 y2
              obtain ⟨wz, hwz⟩ : ∃ x, x = wr.drewN nq := ⟨_, rfl⟩
              rw [← hwz] at hxz hb9 hot9 hgt9 ⊢
              clear hwz
              obtain ⟨p0, p1, p2, _, _, _⟩ := three_c hb9
              have hbz := blk_lt hb9
              have hrz : ∀ W, Ext wz W → ∀ j u, (entsV V)[j]? = some u → W.cell? ⟨g, j, none⟩ = some u := fun W hW => HROW.out _ (hxz.trans hW)
              have hVa : (V.take a).length = a := by simp; omega
              have hVd : (V.drop a).length = k - a := by simp; omega
              have htk : ∀ W, Ext wz W → ∀ j u, (entsV (V.take a))[j]? = some u → W.cell? ((⟨g, 0, none⟩ : Addr).add j) = some u := fun W hW j u hu => by
                rw [Addr.add_lit, Nat.zero_add]
                refine hrz W hW j u ?_
                rw [← entsV_take V a (by omega)] at hu
                rw [List.getElem?_take] at hu
                split at hu
                · exact hu
                · cases hu
              have htd : ∀ W, Ext wz W → ∀ j u, (entsV (V.drop a))[j]? = some u → W.cell? ((⟨g, a * 3, none⟩ : Addr).add j) = some u := fun W hW j u hu => by
                rw [Addr.add_lit]
                refine hrz W hW _ u ?_
                rw [← entsV_drop V a (by omega), List.getElem?_drop] at hu
                exact hu
              have HTK := Lib.hid htk
              have HTD := Lib.hid htd
              have HRZ := Lib.hid hrz
              have HB9 := Lib.hid hb9
              have HVA := Lib.hid hVa
              have HVD := Lib.hid hVd
              have HPA := Lib.hid hpa
              have HXZ := Lib.hid hxz
              have HVL := Lib.hid hVl
              have i1 : (0 : Int) ≤ (a : Int) := by omega
              have i2 : (a : Int) ≤ (c' : Int) := by omega
              have i3 : (a : Int) ≤ (k : Int) := by omega
              have hz1 : wo.heap.size ≤ wz.heap.size := hxz.size
              clear htk htd hrz hb9 hVa hVd hpa hxz hVl HBX HBQ hgo HPS hxq hx9
              refine wp_region_any (by kernel_rfl) ?_
              refine wpAny_mo_go (md := .any) (R := Ext) (w := wz) [(0, 62), (1, 63), (2, 64), (3, 65), (4, 66), (5, 67), (6, 68)] [7, 8] (tl := [_, _]) (S := ?S3_) (by kernel_rfl) (by rfl) (by rfl) Ext.refl ext_tr (ext_drew1 _) ?hS3_ ?go3_
              case hS3_ => intro vs; simp only [putAll, Act.put, List.setIfInBounds_toArray, List.set_cons_zero, List.set_cons_succ]; rfl
              case go3_ =>
              refine mo_make (fun a => .slice (some a) 0 0) (.cells #[] 27) (by rfl) (by rfl) (by intro vs w1 hx_ hd; have q0 := (hx_.cell hbz).trans p0; have q1 := (hx_.cell hbz).trans p1; have q2 := (hx_.cell hbz).trans p2; go_simp; first | done | rfl) ?_
              refine mo_fix _ (by rfl) (by rfl) (by intro vs w1 hx_ hd; have q0 := (hx_.cell hbz).trans p0; have q1 := (hx_.cell hbz).trans p1; have q2 := (hx_.cell hbz).trans p2; go_simp; first | done | rfl) ?_
              refine mo_fix _ (by rfl) (by rfl) (by intro vs w1 hx_ hd; have q0 := (hx_.cell hbz).trans p0; have q1 := (hx_.cell hbz).trans p1; have q2 := (hx_.cell hbz).trans p2; go_simp; first | done | rfl) ?_
              refine mo_fix _ (by rfl) (by rfl) (by intro vs w1 hx_ hd; have q0 := (hx_.cell hbz).trans p0; have q1 := (hx_.cell hbz).trans p1; have q2 := (hx_.cell hbz).trans p2; have e1 := hd 1 (by kernel_rfl); have e2 := hd 2 (by kernel_rfl); simp (decide := true) only [factAt, if_true, if_false] at e1 e2; simp only [e1, e2]; go_simp; first | done | rfl) ?_
              refine mo_appE (.tmp 62) (.tmp 65) (by rfl) (by rfl) (by rfl) (V.take a) a (by omega) HVA.out (by intro vs w9 hx_ hd; have e0 := hd 0 (by kernel_rfl); have e3 := hd 3 (by kernel_rfl); simp (decide := true) only [factAt, if_true, if_false] at e0 e3; obtain ⟨ga, e0, hga, hgb⟩ := e0; exact ⟨ga, ⟨g, 0, none⟩, c', e0, hga, hgb, e3, HTK.out _ hx_⟩) ?_
              refine mo_fix _ (by rfl) (by rfl) (by intro vs w1 hx_ hd; have q0 := (hx_.cell hbz).trans p0; have q1 := (hx_.cell hbz).trans p1; have q2 := (hx_.cell hbz).trans p2; go_simp; first | done | rfl) ?_
              refine mo_make (fun a => .slice (some a) 1 1) (.cells #[.int .i64 S.x, .int .i64 S.z, .slice (some ⟨gt, 0, none⟩) S.v.length ct] 27) (by rfl) (by rfl) (by intro vs w1 hx_ hd; have q0 := (hx_.cell hbz).trans p0; have q1 := (hx_.cell hbz).trans p1; have q2 := (hx_.cell hbz).trans p2; have e5 := hd 5 (by kernel_rfl); simp (decide := true) only [factAt, if_true, if_false] at e5; simp only [e5]; go_simp; first | done | rfl) ?_
              refine mo_end ?_
              intro vs w2 hx2 hd
              have e4 := hd 4 (by kernel_rfl)
              have e6 := hd 6 (by kernel_rfl)
              simp (decide := true) only [factAt, if_true, if_false] at e4 e6
              obtain ⟨⟨g4, c4, e4⟩, hown4⟩ := e4
              obtain ⟨g6, e6, hg6, hb6⟩ := e6
              generalize vs 4 = v4 at e4 hown4 ⊢
              subst e4
              generalize vs 6 = v6 at e6 ⊢
              subst e6
              clear hd
              have hu6 : ∀ j u, (entsV [(⟨S, gt, some ⟨gt, 0, none⟩, ct⟩ : Ent)])[j]? = some u → w2.cell? ((⟨g6, 0, none⟩ : Addr).add j) = some u := fun j u hu => by
                rw [Addr.add_lit, Nat.zero_add, cell_of_row w2 g6 j _ _ (0, 0) hb6]
                rw [entsV_one] at hu
                simpa [entV] using hu
              refine app_ent rfl _ _ rfl wz.heap.size (v := .slice (some ⟨g4, 0, none⟩) a c4) (U := [(⟨S, gt, some ⟨gt, 0, none⟩, ct⟩ : Ent)]) (m := 1) HVA.out rfl rfl rfl hown4 hu6 (by omega) (by omega) hx2.size ?_
              intro v7 w7 hown7 hb7 hnn7
              have hx7 : Ext wz w7 := Ext.belowJ hx2 (Nat.le_refl _) hb7
              have hsz7 := hx7.size
              have hn7 : v7 ≠ .slice none 0 0 := fun he => by have := hnn7 he; cases this
              have ht0 : c' = a → ∀ j u, (entsV (V.drop a))[j]? = some u → w7.cell? ((⟨g, 0, none⟩ : Addr).add j) = some u := fun hc j u hu => by
                rw [List.eq_nil_of_length_eq_zero (l := V.drop a) (by rw [HVD.out]; omega)] at hu
                simp [entsV] at hu
              have HT0 := Lib.hid ht0
              have HN7 := Lib.hid hn7
              have HOWN7 := Lib.hid hown7
              have HX7 := Lib.hid hx7
              clear hn7 ht0 hown7 hnn7 hown4 hb6 hb7 hu6 hx7
              by_cases hcc : c' = a
              all_goals
                go_wp2_with (at_builtin; (first | refine app_ent (ad := ⟨g, a * 3, none⟩) rfl _ _ rfl wz.heap.size (v := v7) (V := V.take a ++ [(⟨S, gt, some ⟨gt, 0, none⟩, ct⟩ : Ent)]) (n := a + 1) (m := k - a) (by rw [List.length_append, HVA.out]; rfl) HVD.out rfl rfl HOWN7.out (HTD.out _ HX7.out) (by omega) (by omega) hsz7 ?_ | refine app_ent (ad := ⟨g, 0, none⟩) rfl _ _ rfl wz.heap.size (v := v7) (V := V.take a ++ [(⟨S, gt, some ⟨gt, 0, none⟩, ct⟩ : Ent)]) (n := a + 1) (m := k - a) (by rw [List.length_append, HVA.out]; rfl) HVD.out rfl rfl HOWN7.out (HT0.out hcc) (by omega) (by omega) hsz7 ?_); intro v8 w8 hown8 hb8 hnn8)
              all_goals
                obtain ⟨V', g', c2, rfl, r1, r2, r3, r4, r5⟩ := sorted_step (n := n) hx HXZ.out HX7.out hb8 hlt ha HVL.out HVS.out HSK.out HPA.out HENT.out hgs hgt3 hgt9 hot9 hct (fun he => HN7.out (hnn8 he)) hown8
                exact ⟨⟨k + 1, V', g', c2, by omega, by go_num, rfl, r1, r2, r3, r4, r5⟩, by simp [intOf]; omega⟩
            · rw [gtF_lt hl] at hgt; cases hgt
    · obtain rfl : k = n := by omega
      have hk2 := hown.2
      rcases hk2 with ⟨h0, _⟩ | ⟨g', cap, cur, h0, h1, h2, h3, h4, h5, h6⟩
      · cases h0
      · simp only [Value.slice.injEq, Option.some.injEq, Addr.mk.injEq, and_true, true_and] at h0
        obtain ⟨rfl, rfl⟩ := h0
        rw [← hVl] at h6
        have hfin := (hents.more (Nat.le_refl _) (Nat.le_refl _)).own h2 h6 h1 (Nat.le_refl _) (blk_lt h2)
        rw [hVs, hVl] at hfin
        clear h2 h6 hown hents
        go_wp2_with (fail)
        go_ret
        exact ⟨_, _, rfl, hfin, hx⟩
end Go.Proofs.Ytfmhdnhaaohdjaa
namespace Go.Proofs.Ytfmhdnhaaohdjaa
open Go.RowKit Go.ChangeShapes Go.WideShapes Go.Deep Ieee
set_option linter.unusedVariables false
set_option linter.unusedSimpArgs false

set_option maxRecDepth 20000 in
set_option maxHeartbeats 4000000 in
theorem c_spec_SortFrames {w : World} {B n c : Nat} {A : Option Addr} {R : List Sct} (h : RdM w B A n R) (hB : B ≤ w.heap.size) (hn : n ≤ 1048576) (hr : ∀ j, j < n → (R.getD j noT).v.length ≤ 1048576) :
    Calls Try.prog 37 #[.slice A n c] w fun e w' => RetMQ w e w' (areM R) (outM (areM R) (sortM R R.length)).length (outM (areM R) (sortM R R.length)) := by
  have hlen := h.len
  have CA := Lib.hid (c_l07Are (c := c) h hn hr)
  cases hok : areM R
  · have HO := Lib.hid hok
    go_enter Try.func37, Try.ntmps37
    go_wp2_with (go_at_call 67; refine Calls.mono CA.out ?_; rw [hok]; rintro e w1 ⟨rfl, n1, rfl⟩)
    go_ret2
    exact retMQ_no rfl (by repeat (first | assumption | exact Ext.refl _ | apply Ext.drewN | apply Ext.drew | apply Ext.alloc | (refine Ext.trans ?_ (by assumption)) | (refine Ext.set ?_ (by dsimp only; omega) _)))
  obtain ⟨hn12, hval⟩ := areM_of hok
  rw [hlen] at hn12 hval
  have hout : outM true (sortM R R.length) = sortM R n := by rw [hlen]; rfl
  rw [hout, sortM_len]
  have HOK := Lib.hid hok
  have hv2 : ∀ j, j < n → 1 ≤ (R.getD j noT).v.length ∧ (R.getD j noT).v.length ≤ 128 := fun j hj => by
    obtain ⟨_, _, _, _, h1, h2, _⟩ := fvF_of (hval j hj)
    exact ⟨h1, h2⟩
  clear hok hout
  have cS := fun (m : Nat) => c_l07Sorted (c := c) (h.drewN m) hB hn12 hv2
  have CS := Lib.hid cS
  clear cS hv2 hval
  go_enter Try.func37, Try.ntmps37
  go_wp2_with (first | (go_at_call 67; refine Calls.mono CA.out ?_; rw [HOK.out]; rintro e w1 ⟨rfl, n1, rfl⟩) | (go_at_call 72; refine Calls.mono (CS.out _) ?_; rintro e w2 ⟨g, c2, rfl, ho, hx⟩))
  go_ret2
  exact ⟨_, _, rfl, ho, (by repeat (first | assumption | exact Ext.refl _ | apply Ext.drewN | apply Ext.drew | apply Ext.alloc | (refine Ext.trans ?_ (by assumption)) | (refine Ext.set ?_ (by dsimp only; omega) _)))⟩
theorem outM_tot {R : List Sct} {ok : Bool} (ht : totM R ≤ 1048576) : totM (outM ok (sortM R R.length)) ≤ 1048576 := by
  unfold outM
  split
  · rw [sortM_tot R _ (Nat.le_refl _), List.take_length]; exact ht
  · simp [totM]
theorem outM_len {R : List Sct} {ok : Bool} (ht : R.length ≤ 1048576) : (outM ok (sortM R R.length)).length ≤ 1048576 := by
  unfold outM
  split
  · rw [sortM_len]; exact ht
  · simp
theorem both_SortFrames {n0 : Nat} {R0 : List Sct} (hl0 : R0.length = n0) (hn0 : n0 ≤ 1048576) (hr0 : ∀ j, j < n0 → (R0.getD j noT).v.length ≤ 1048576) (ht0 : totM R0 ≤ 1048576) (_hok0 : ∀ j, j < n0 → (R0.getD j noT).Ok) :
    ∃ (ok : Bool) (Q : List Sct) (q : Nat), q ≤ 1048576 ∧ Q.length = q ∧ totM Q ≤ 1048576 ∧ (∀ W : World, ∀ (B0 : Nat) (A0 : Option Addr) (c0 : Nat), RdM W B0 A0 n0 R0 → B0 ≤ W.heap.size → Calls Try.prog 37 #[.slice A0 n0 c0] W fun e w' => RetMQ W e w' ok q Q) ∧
      (∀ W : World, ∀ (B0 : Nat) (A0 : Option Addr) (c0 : Nat), RdM W B0 A0 n0 R0 → B0 ≤ W.heap.size → Calls Try.prog 38 #[.slice A0 n0 c0] W fun e w' => RetMQ W e w' ok q Q) :=
  ⟨areM R0, outM (areM R0) (sortM R0 R0.length), _, outM_len (by omega), rfl, outM_tot ht0, fun _ _ _ _ h0 hB0 => c_spec_SortFrames h0 hB0 hn0 hr0, fun _ _ _ _ h0 hB0 => c_impl_SortFrames h0 hB0 hn0 hr0⟩
end Go.Proofs.Ytfmhdnhaaohdjaa
