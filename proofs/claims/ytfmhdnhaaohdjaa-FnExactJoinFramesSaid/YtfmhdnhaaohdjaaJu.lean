/- Contracts: a slice that grows from nothing, and two lists one behind the other, the program. Condition: the lists are read, and neither is empty. -/
import Derived.Test.YtfmhdnhaaohdjaaQt
namespace Go.Proofs.Ytfmhdnhaaohdjaa
open Go.RowKit Go.ChangeShapes Go.WideShapes Go.Deep Ieee
set_option linter.unusedVariables false
set_option linter.unusedSimpArgs false

theorem run_append_make_nil {P : Program} (w : World) (t u ty e : TypeId) (i : TypeInfo) (z : Value) (ht : P.underlying t = some (.slice e)) (hu : P.underlying u = some (.int .i64)) (hi : P.info? e = some i) (hz : i.zero = some z) (hs : i.size = 1)
    (n : Nat) (h0 : 0 < n) (h63 : n ≤ 1000000) (h48 : i.bytes ≤ 1000000) :
    (Builtin.append_ #[t, u] ty #[.slice none 0 0, .int .i64 (n : Int)]).run P w =
      .ok (.slice (some ⟨w.heap.size, 0, none⟩) n (grownCap w n 0 e)) (w.drew.alloc (.cells (Builtin.zeroCells z.cells n ++ Builtin.zeroCells z.cells (grownCap w n 0 e - n)) e)) := by
  have hn : n ≠ 0 := by omega
  have h63' : ¬ (9223372036854775807 < (n : Int)) := by omega
  have hle : n * i.bytes ≤ 1000000 * 1000000 := Nat.mul_le_mul h63 h48
  have h48' : ¬ (281474976710656 < Builtin.nextslicecap n 0 * i.bytes) := by rw [nextslicecap_zero h0]; omega
  have hw : IntKind.i64.wrap (n : Int) = (n : Int) := IntWalk.i64_in _ (by omega)
  have hb : ¬ ((n : Int) * (i.bytes : Int) > 281474976710656) := by
    have : ((n * i.bytes : Nat) : Int) = (n : Int) * (i.bytes : Int) := Int.natCast_mul _ _
    omega
  have hb' : ¬ (281474976710656 < (n : Int) * (i.bytes : Int)) := hb
  have hneg : ¬ ((n : Int) < 0) := by omega
  have hle0 : ¬ ((n : Int) ≤ 0) := by omega
  have hmax : max (n : Int) 0 = (n : Int) := by omega
  simp [Builtin.append_, run_underlying ht, run_underlying hu, sizeOf, typeInfo, zeroValue, hi, hz, asInt, asIntOf, hw, hneg, hle0, hmax, hb, hb', Builtin.lenOf, hn, hs, h63', h48', Question.forced, run_firstCells_none, newRow, grownCap]
theorem app_mk {ops : Array Oper} {rest : List Oper} {o : Oper} {a : Act} {Q : Exit → Act → World → Prop} (hgd : o.guard = none) (s x : Operand) (ho : o.op = .call { callee := .builtin .append, args := #[s, x], argTypes := #[22, 3] }) {w : World} {n : Nat} (hs : a.eval s = .slice none 0 0) (hx : a.eval x = .int .i64 (n : Int)) (hpos : 0 < n) (hn : n ≤ 1000000)
    (h : ∀ g G w', (w'.ownsRow w.heap.size 83 1 (.slice (some ⟨g, 0, none⟩) 0 G) 0 []) → n ≤ G → Ext w w' → wpList Try.prog ops Q rest (a.put o.dst (.slice (some ⟨g, 0, none⟩) n G)) w') : wpList Try.prog ops Q (o :: rest) a w := by
  obtain ⟨i0, hi, hz0, hz1, hz2⟩ := info_parts info_f32
  have hr := run_append_make_nil (P := Try.prog) w 22 3 o.type 83 i0 (.float .f32 0) Try.underlying22 Try.underlying3 hi hz0 hz1 n hpos hn (by rw [hz2]; omega)
  have hge := grownCap_ge w n 0 83
  have hle := grownCap_le_maxLen w n 0 83 (by unfold maxLen; omega)
  refine wpList_plain hgd fun K hK => ?_
  unfold Oper.wp execOp
  simp only [ho, resolve, invoke, builtin, Sem.run_bind, Sem.run_pure, Result.andThen_ok, List.map_toArray, List.map_cons, List.map_nil, hs, hx, hr]
  refine hK _ _ (h _ _ _ ⟨rfl, .inr ⟨w.heap.size, _, _, rfl, Nat.le_refl _, heap_alloc_new w.drew _, Nat.zero_le _, hle, ?_, by simp⟩⟩ hge (Ext.alloc (Ext.drew (Ext.refl w)) _))
  rw [Array.size_append, size_zeroCells, size_zeroCells]
  show n * 1 + (grownCap w n 0 83 - n) * 1 = grownCap w n 0 83 * 1
  omega
set_option maxRecDepth 20000 in
set_option maxHeartbeats 1000000 in
theorem c_grow {w : World} {n : Nat} (hpos : 0 < n) (hn : n ≤ 1000000) :
    Calls Try.prog 95 #[.slice none 0 0, .int .i64 (n : Int)] w fun e w' => ∃ g G, e = .returned (.slice (some ⟨g, 0, none⟩) 0 G) ∧ w'.ownsRow w.heap.size 83 1 (.slice (some ⟨g, 0, none⟩) 0 G) 0 [] ∧ Ext w w' := by
  have hp1 : (0 : Int) < (n : Int) := by omega
  have hneg : ¬ ((n : Int) < 0) := by omega
  have hw : IntKind.i64.wrap (n : Int) = (n : Int) := IntWalk.i64_in _ (by omega)
  go_enter Try.func95, Try.ntmps95
  go_wp2_with (at_builtin; refine app_mk (n := n) rfl _ _ rfl rfl rfl hpos hn ?_; intro g G w4 hown hG hx4; have hG0 : (0 : Int) ≤ (G : Int) := by omega)
  go_ret
  exact ⟨g, G, rfl, hown, hx4⟩
/-- A list that is read is appended to a row of floats of its own. -/
theorem app_ofl {ops : Array Oper} {rest : List Oper} {o : Oper} {a : Act} {Q : Exit → Act → World → Prop} (hgd : o.guard = none) (s x : Operand) (ho : o.op = .call { callee := .builtin .append, args := #[s, x], argTypes := #[22, 22] }) (base : Nat) {w : World} {v : Value} {n m c : Nat} {xs : List Value} {rs : List Nat} {ad : Addr} (hrs : rs.length = m) (hs : a.eval s = v) (hx : a.eval x = .slice (some ad) m c)
    (hown : w.ownsRow base 83 1 v n xs) (hr : ∀ j u, (fvals rs)[j]? = some u → w.cell? (ad.add j) = some u) (hn : n ≤ 1000000) (hm : m ≤ 1000000) (hb : base ≤ w.heap.size)
    (h : ∀ v' w', w'.ownsRow base 83 1 v' (n + m) (xs ++ fvals rs) → Below base w w' → wpList Try.prog ops Q rest (a.put o.dst v') w') : wpList Try.prog ops Q (o :: rest) a w := by
  obtain ⟨i0, hi, hz0, hz1, hz2⟩ := info_parts info_f32
  refine wpList_append_own _ hgd s x 22 ho base 83 i0 (.float .f32 0) 1 4 Try.underlying22 hi hz0 hz1 hz2 rfl (by decide) v n xs hs hown ad m c (fvals rs) hx (by simp [fvals, hrs]) hr (fun u hu => by simp only [fvals, List.mem_map] at hu; obtain ⟨r, _, rfl⟩ := hu; rfl) (by unfold maxLen; omega) (by omega) hb (fun v' w4 hown' hgrow _ => ?_)
  exact h v' w4 hown' (Below.grown (Below.refl _ _) hgrow hb (fun k hk => (World.ownsRow.lt hown k hk).1))
theorem ownsRow_new {w0 w' : World} {v : Value} {n : Nat} {rs : List Nat} {L : List (Option Nat)} (h : w'.ownsRow w0.heap.size 83 1 v n (fvals rs)) (hpos : 0 < n) (hrl : rs.length = n) (hL : L.length = n) (hF : ∀ j, j < n → Fl .f32 (rs.getD j 0) (L.getD j none)) : NewL w0 n L v w' := by
  rcases h.2 with ⟨_, h0⟩ | ⟨g, cap, cur, rfl, hbg, hg, hnc, _, hcs, htk⟩
  · omega
  · have hrow : RowF cur n (fun j => L.getD j none) := fun j hj => by
      have e1 : cur[j]? = (cur.toList.take (n * 1))[j]? := by rw [List.getElem?_take_of_lt (by omega)]; simp
      refine ⟨rs.getD j 0, ?_, hF j hj⟩
      rw [e1, htk, fvals_at (by omega)]
    have h7 := rowF_lst' hrow hg (by omega)
    rw [lst_self hL] at h7
    exact ⟨g, cap, rfl, hbg, hnc, blk_lt hg, h7.at0⟩
theorem getD_two {rs1 rs2 : List Nat} {L1 L2 : List (Option Nat)} {n1 n2 : Nat} (h1 : rs1.length = n1) (h2 : L1.length = n1) (f1 : ∀ j, j < n1 → Fl .f32 (rs1.getD j 0) (L1.getD j none)) (f2 : ∀ j, j < n2 → Fl .f32 (rs2.getD j 0) (L2.getD j none)) : ∀ j, j < n1 + n2 → Fl .f32 ((rs1 ++ rs2).getD j 0) ((L1 ++ L2).getD j none) := by
  intro j hj
  by_cases hj1 : j < n1
  · rw [List.getD_eq_getElem?_getD, List.getD_eq_getElem?_getD, List.getElem?_append_left (by omega), List.getElem?_append_left (by omega), ← List.getD_eq_getElem?_getD, ← List.getD_eq_getElem?_getD]
    exact f1 j hj1
  · rw [List.getD_eq_getElem?_getD, List.getD_eq_getElem?_getD, List.getElem?_append_right (by omega), List.getElem?_append_right (by omega), ← List.getD_eq_getElem?_getD, ← List.getD_eq_getElem?_getD, h1, h2]
    exact f2 (j - n1) (by omega)
def szc (n1 n2 k : Nat) : Nat := if k = 0 then 0 else if k = 1 then n1 else n1 + n2
def xsc (r1 r2 : List Nat) (k : Nat) : List Value := if k = 0 then [] else if k = 1 then fvals r1 else fvals r1 ++ fvals r2
set_option maxRecDepth 20000 in
set_option maxHeartbeats 4000000 in
theorem c_concat {w : World} {B gs n1 n2 c1 c2 : Nat} {A1 A2 : Option Addr} {L1 L2 : List (Option Nat)} {t : TypeId} (hgs : w.heap[gs]? = some (.cells #[.slice A1 n1 c1, .slice A2 n2 c2] t (0, 0))) (r1 : RdF w B A1 n1 L1) (r2 : RdF w B A2 n2 L2) (hB : B ≤ w.heap.size) (hp1 : 1 ≤ n1) (hp2 : 1 ≤ n2) (h1 : n1 ≤ 128) (h2 : n2 ≤ 128) :
    Calls Try.prog 85 #[.slice (some ⟨gs, 0, none⟩) 2 2] w fun e w' => ∃ v, e = .returned v ∧ NewL w (n1 + n2) (L1 ++ L2) v w' ∧ Ext w w' := by
  have hl1 := r1.len
  have hl2 := r2.len
  obtain ⟨b1, o1, rfl, hb1, rs1, hrl1, hrs1⟩ := r1.words (by omega)
  obtain ⟨b2, o2, rfl, hb2, rs2, hrl2, hrs2⟩ := r2.words (by omega)
  have hnew1 := words_new hb1 hB hrl1 (fun j hj => (hrs1 j hj).1)
  have hnew2 := words_new hb2 hB hrl2 (fun j hj => (hrs2 j hj).1)
  have hF := getD_two hrl1 hl1 (fun j hj => (hrs1 j hj).2) (fun j hj => (hrs2 j hj).2)
  have s0 : w.cell? ⟨gs, 0, none⟩ = some (.slice (some ⟨b1, o1, none⟩) n1 c1) := (cell_of_row w gs 0 _ t (0, 0) hgs).trans rfl
  have s1 : w.cell? ⟨gs, 1, none⟩ = some (.slice (some ⟨b2, o2, none⟩) n2 c2) := (cell_of_row w gs 1 _ t (0, 0) hgs).trans rfl
  have hgw := blk_lt hgs
  have HN1 := Lib.hid hnew1
  have HN2 := Lib.hid hnew2
  have HF := Lib.hid hF
  have HR1 := Lib.hid hrl1
  have HR2 := Lib.hid hrl2
  have HL1 := Lib.hid hl1
  have HL2 := Lib.hid hl2
  clear hnew1 hnew2 hF hrs1 hrs2 r1 r2 hgs hrl1 hrl2 hl1 hl2
  go_enter Try.func85, Try.ntmps85
  go_wp2_with (fail)
  go_loopw [3, 11] (fun s i wr => ∃ k : Nat, k ≤ 2 ∧ i = .int .i64 k ∧ s = .int .i64 ((szc n1 n2 k : Nat) : Int) ∧ wr = w) (fun _ i _ => 2 - (intOf i).toNat)
  case atStart => exact ⟨0, by omega, rfl, rfl, rfl⟩
  case round =>
    obtain ⟨k, hk, rfl, rfl, rfl⟩ := hrel
    rcases (by omega : k = 0 ∨ k = 1 ∨ k = 2) with rfl | rfl | rfl
    · have i1 : ¬ ((n1 : Int) < 0) := by omega
      have hw1 : IntKind.i64.wrap (n1 : Int) = (n1 : Int) := IntWalk.i64_in _ (by omega)
      rw [show szc n1 n2 0 = 0 from rfl]
      go_wp2_with (fail)
      exact ⟨⟨1, by omega, rfl, rfl, trivial⟩, by simp [intOf]⟩
    · have i1 : ¬ ((n1 : Int) + (n2 : Int) < 0) := by omega
      have hw1 : IntKind.i64.wrap ((n1 : Int) + (n2 : Int)) = (n1 : Int) + (n2 : Int) := IntWalk.i64_in _ (by omega)
      rw [show szc n1 n2 1 = n1 from rfl]
      go_wp2_with (fail)
      exact ⟨⟨2, by omega, rfl, by show _ = Value.int .i64 ((n1 + n2 : Nat) : Int); go_num, trivial⟩, by simp [intOf]⟩
    · rw [show szc n1 n2 2 = n1 + n2 from rfl]
      obtain ⟨N, hN⟩ : ∃ N, n1 + n2 = N := ⟨_, rfl⟩
      rw [hN]
      have hNp : 0 < N := by omega
      have hNl : N ≤ 1000000 := by omega
      have HN := Lib.hid hN
      clear hN
      go_wp2_with (go_at_call 95; refine Calls.mono (c_grow hNp hNl) ?_; rintro e w4 ⟨g, G, rfl, hown, hx4⟩)
      obtain ⟨wo, hwo⟩ : ∃ x, x = wr := ⟨_, rfl⟩
      subst hwo
      obtain ⟨wa, hwa⟩ : ∃ x, x = w4 := ⟨_, rfl⟩
      subst hwa
      go_loopw [6, 27] (fun v i wr => ∃ k : Nat, k ≤ 2 ∧ i = .int .i64 k ∧ wr.ownsRow wo.heap.size 83 1 v (szc n1 n2 k) (xsc rs1 rs2 k) ∧ Ext wo wr) (fun _ i _ => 2 - (intOf i).toNat)
      case atStart => exact ⟨0, by omega, rfl, hown, hx4⟩
      case round =>
        obtain ⟨k, hk, rfl, hrow, hx⟩ := hrel
        have hsz := hx.size
        have t0 := (hx.cell hgw).trans s0
        have t1 := (hx.cell hgw).trans s1
        rcases (by omega : k = 0 ∨ k = 1 ∨ k = 2) with rfl | rfl | rfl
        · go_wp2_with (at_builtin; refine app_ofl (n := 0) (xs := []) rfl _ _ rfl wo.heap.size HR1.out (by rfl) (by rfl) hrow (HN1.out _ hx) (by omega) (by omega) hsz ?_; intro v5 w5 hown5 hb5)
          exact ⟨⟨1, by omega, rfl, by rw [Nat.zero_add] at hown5; exact hown5, Below.trans hx hb5⟩, by simp [intOf]⟩
        · go_wp2_with (at_builtin; refine app_ofl (n := n1) (xs := fvals rs1) rfl _ _ rfl wo.heap.size HR2.out (by rfl) (by rfl) hrow (HN2.out _ hx) (by omega) (by omega) hsz ?_; intro v5 w5 hown5 hb5)
          exact ⟨⟨2, by omega, rfl, hown5, Below.trans hx hb5⟩, by simp [intOf]⟩
        · go_wp2_with (fail)
          go_ret
          have e : xsc rs1 rs2 2 = fvals (rs1 ++ rs2) := by show fvals rs1 ++ fvals rs2 = _; simp [fvals]
          rw [show szc n1 n2 2 = n1 + n2 from rfl, e] at hrow
          exact ⟨_, rfl, ownsRow_new hrow (by omega) (by rw [List.length_append, HR1.out, HR2.out]) (by rw [List.length_append, HL1.out, HL2.out]) HF.out, hx⟩
end Go.Proofs.Ytfmhdnhaaohdjaa
