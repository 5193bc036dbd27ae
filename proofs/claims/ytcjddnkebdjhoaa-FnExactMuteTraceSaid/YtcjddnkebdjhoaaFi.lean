/- Contracts: traces without some numbers, on both sides. Condition: the list is read. -/
import Derived.Test.YtcjddnkebdjhoaaKa
import Derived.Test.YtcjddnkebdjhoaaFh
namespace Go.Proofs.Ytcjddnkebdjhoaa
open Go.RowKit Ieee

theorem setCells_row {g n : Nat} : ∀ (d o : Nat) (w : World) (cs : Array Value) (F : Nat → Option Nat), w.heap[g]? = some (.cells cs 29 (0, 0)) → n ≤ cs.size → RowF cs n F →
    ∃ cs', (w.setCells g o (List.replicate d (.float .f32 0))).heap[g]? = some (.cells cs' 29 (0, 0)) ∧ n ≤ cs'.size ∧ RowF cs' n (fun j => if o ≤ j ∧ j < o + d then fz else F j) ∧ Kb g (g + 1) w (w.setCells g o (List.replicate d (.float .f32 0)))
  | 0, o, w, cs, F, hg, hs, hr => ⟨cs, hg, hs, hr.keep fun j _ => by show _ = if _ then _ else _; rw [if_neg (by omega)], Kb.refl _ _ _⟩
  | d + 1, o, w, cs, F, hg, hs, hr => by
    have h1 := blk_set1 hg o (.float .f32 0)
    have h2 : RowF (cs.setIfInBounds o (.float .f32 0)) n (fun j => if j = o then fz else F j) := hr.set' hs (by show Fl .f32 0 (if o = o then fz else F o); rw [if_pos rfl]; exact fl_fz) (fun j _ hj => by show _ = if j = o then _ else _; rw [if_neg hj])
    obtain ⟨cs', a1, a2, a3, a4⟩ := setCells_row d (o + 1) (w.setCell ⟨g, o, none⟩ (.float .f32 0)) _ _ h1 (by rw [Array.size_setIfInBounds]; exact hs) h2
    refine ⟨cs', a1, a2, a3.keep fun j _ => ?_, ((Kb.refl g (g + 1) w).set (p := ⟨g, o, none⟩) (Nat.le_refl _) (Nat.lt_succ_self _) _).trans a4⟩
    show (if o + 1 ≤ j ∧ j < o + 1 + d then fz else if j = o then fz else F j) = if o ≤ j ∧ j < o + (d + 1) then fz else F j
    by_cases e1 : o + 1 ≤ j ∧ j < o + 1 + d
    · rw [if_pos e1, if_pos (by omega)]
    · rw [if_neg e1]
      by_cases e2 : j = o
      · rw [if_pos e2, if_pos (by omega)]
      · rw [if_neg e2, if_neg (by omega)]
theorem OwF.row {w : World} {base n : Nat} {v : Value} {F : Nat → Option Nat} (h : OwF w base v n F) (hpos : 0 < n) :
    ∃ g cap cur, v = .slice (some ⟨g, 0, none⟩) n cap ∧ base ≤ g ∧ w.heap[g]? = some (.cells cur 29 (0, 0)) ∧ n ≤ cap ∧ n ≤ cur.size ∧ RowF cur n F := by
  obtain ⟨xs, hown, hxs⟩ := h.own
  rcases hown.2 with ⟨hv, h0⟩ | ⟨g, cap, cur, hv, hbg, hg, hnc, hcm, hcs, htk⟩
  · omega
  · refine ⟨g, cap, cur, hv, hbg, hg, hnc, by omega, fun j hj => ?_⟩
    obtain ⟨r, h1, h2⟩ := hxs j hj
    refine ⟨r, ?_, h2⟩
    have e1 : cur[j]? = (cur.toList.take (n * 1))[j]? := by rw [List.getElem?_take_of_lt (by omega)]; simp
    rw [e1, htk]; exact h1
def okMu (n : Nat) (i j : Int) : Bool := tlen n && (inB j 0 (n : Int) && inB i 0 j)
def fmuK (L : List (Option Nat)) (a b k : Nat) : Option Nat := if a ≤ k ∧ k < b then fz else L.getD k none
theorem fmuK_0 {L : List (Option Nat)} {a : Nat} (k : Nat) : L.getD k none = fmuK L a a k := by unfold fmuK; rw [if_neg (by omega)]
theorem fmuK_at {L : List (Option Nat)} {a k : Nat} (h : a ≤ k) : fmuK L a (k + 1) k = fz := by unfold fmuK; rw [if_pos (by omega)]
theorem fmuK_other {L : List (Option Nat)} {a k j : Nat} (h : j ≠ k) : fmuK L a k j = fmuK L a (k + 1) j := by
  unfold fmuK
  by_cases h1 : a ≤ j ∧ j < k
  · rw [if_pos h1, if_pos (by omega)]
  · rw [if_neg h1, if_neg (by omega)]
set_option maxRecDepth 20000 in
set_option maxHeartbeats 4000000 in
theorem c_spec_MuteTrace {w : World} {B n c : Nat} {A : Option Addr} {L : List (Option Nat)} (h : RdF w B A n L) (hB : B ≤ w.heap.size) (hn : n ≤ 1048576) {i j : Int} (hi0 : -9223372036854775808 ≤ i) (hi1 : i ≤ 9223372036854775807) (hj0 : -9223372036854775808 ≤ j) (hj1 : j ≤ 9223372036854775807) :
    Calls Try.prog 27 #[.slice A n c, .int .i64 i, .int .i64 j] w fun e w' => RetL w e w' (okMu n i j) (lst (fmuK L i.toNat j.toNat) n) := by
  unfold okMu
  cases hV : tlen n
  · go_enter Try.func27, Try.ntmps27
    go_wp2_with (go_at_call 37; refine Calls.mono (c_l03Is _ _ _ _) ?_; rw [hV]; rintro e w1 ⟨rfl, rfl⟩)
    go_ret2
    exact retL_no rfl (by repeat (first | assumption | exact Ext.refl _ | apply Ext.drewN | apply Ext.drew | apply Ext.alloc | (refine Ext.trans ?_ (by assumption)) | (refine Ext.set ?_ (by dsimp only; omega) _)))
  cases hJ : inB j 0 (n : Int)
  · go_enter Try.func27, Try.ntmps27
    go_wp2_with (first | (go_at_call 37; refine Calls.mono (c_l03Is _ _ _ _) ?_; rw [hV]; rintro e w1 ⟨rfl, rfl⟩) | (go_at_call 38; refine Calls.mono (c_l00In _ _ _ _) ?_; first | (rw [hJ]; rintro e w1 ⟨rfl, rfl⟩)))
    go_ret2
    exact retL_no rfl (by repeat (first | assumption | exact Ext.refl _ | apply Ext.drewN | apply Ext.drew | apply Ext.alloc | (refine Ext.trans ?_ (by assumption)) | (refine Ext.set ?_ (by dsimp only; omega) _)))
  cases hI : inB i 0 j
  · go_enter Try.func27, Try.ntmps27
    go_wp2_with (first | (go_at_call 37; refine Calls.mono (c_l03Is _ _ _ _) ?_; rw [hV]; rintro e w1 ⟨rfl, rfl⟩) | (go_at_call 38; refine Calls.mono (c_l00In _ _ _ _) ?_; first | (rw [hJ]; rintro e w1 ⟨rfl, rfl⟩) | (rw [hI]; rintro e w1 ⟨rfl, rfl⟩)))
    go_ret2
    exact retL_no rfl (by repeat (first | assumption | exact Ext.refl _ | apply Ext.drewN | apply Ext.drew | apply Ext.alloc | (refine Ext.trans ?_ (by assumption)) | (refine Ext.set ?_ (by dsimp only; omega) _)))
  obtain ⟨j2, j3⟩ := inB_of hJ
  obtain ⟨i2, i3⟩ := inB_of hI
  obtain ⟨a, rfl⟩ : ∃ a : Nat, i = (a : Int) := ⟨i.toNat, by omega⟩
  obtain ⟨b2, rfl⟩ : ∃ b2 : Nat, j = (b2 : Int) := ⟨j.toNat, by omega⟩
  rw [Int.toNat_natCast, Int.toNat_natCast]
  have hpos : 0 < n := (tlen_of hV).1
  obtain ⟨i0, hi, hz0, hz1, hz2⟩ := info_parts info_f32
  obtain ⟨b, off, rfl, hb, rs, hrl, hrs⟩ := h.words hpos
  have HR := Lib.hid hrs
  have hab : a ≤ b2 := by omega
  have hbn : b2 ≤ n := by omega
  clear hrs hi0 hi1 hj0 hj1 j2 j3 i2 i3
  go_enter Try.func27, Try.ntmps27
  go_wp2_with (first | (go_at_call 37; refine Calls.mono (c_l03Is _ _ _ _) ?_; rw [hV]; rintro e w1 ⟨rfl, rfl⟩) | (go_at_call 38; refine Calls.mono (c_l00In _ _ _ _) ?_; first | (rw [hJ]; rintro e w1 ⟨rfl, rfl⟩) | (rw [hI]; rintro e w1 ⟨rfl, rfl⟩)) | (at_builtin; refine wpList_append_own _ rfl _ _ 22 rfl w.heap.size 29 i0 (.float .f32 0) 1 4 Try.underlying22 hi hz0 hz1 hz2 rfl (by decide) _ _ _ rfl (World.ownsRow_made _ _ 0 (Nat.le_refl _) (Nat.zero_le _) rfl) ⟨b, off, none⟩ n c (fvals rs) rfl (by simp [fvals, hrl]) ?_ ?_ ?_ ?_ ?_ ?_))
  all_goals first
    | (intro j u hj
       have hjn : j < n := by
         rcases Nat.lt_or_ge j n with h1 | h1
         · exact h1
         · rw [List.getElem?_eq_none (by simp [fvals, hrl]; omega)] at hj; cases hj
       rw [fvals_at (by omega)] at hj
       cases hj
       have hc := (HR.out j hjn).1
       have e0 : (⟨b, off, none⟩ : Addr).add j = ⟨b, off + j, none⟩ := by simp [Addr.add]
       rw [e0]
       exact ((Ext.alloc (Ext.refl w) _).cell (by show b < _; omega)).trans hc)
    | (intro u hu; simp only [fvals, List.mem_map] at hu; obtain ⟨r, _, rfl⟩ := hu; rfl)
    | (unfold maxLen; omega)
    | omega
    | (simp; done)
    | (intro v' w4 hown' hgrow _
       have hx' : Ext w w4 := grown_ext (Ext.alloc (Ext.refl w) _) (World.ownsRow_made _ _ 0 (Nat.le_refl _) (Nat.zero_le _) rfl) hgrow
       obtain ⟨hlen, hd⟩ := hown'
       rcases hd with ⟨hv, h0⟩ | ⟨g, cap, cur, rfl, hbg, hg, hnc, _, hcs, htk⟩
       · omega
       have HG := Lib.hid hg
       have HT := Lib.hid htk
       have HC : Hid (n ≤ cur.size) := Lib.hid (by omega)
       have HROW : Hid (RowF cur n (fun j => L.getD j none)) := Lib.hid (by
         intro j hj
         have e1 : cur[j]? = (cur.toList.take (n * 1))[j]? := by rw [List.getElem?_take_of_lt (by omega)]; simp
         refine ⟨rs.getD j 0, ?_, (HR.out j hj).2⟩
         rw [e1, HT.out, fvals_at (by omega)])
       clear hg htk hcs hlen hgrow
       have HR0 : Hid (RowF cur n (fmuK L a a)) := Lib.hid (HROW.out.keep fun k _ => fmuK_0 k)
       clear HROW HT
       go_wp2_with (fail)
       go_loopw [9] (fun y wr => ∃ (k : Nat) (cs : Array Value), a ≤ k ∧ k ≤ b2 ∧ y = .int .i64 k ∧ wr.heap[g]? = some (.cells cs 29 (0, 0)) ∧ n ≤ cs.size ∧ RowF cs n (fmuK L a k) ∧ Ext w wr) (fun y _ => b2 - (intOf y).toNat)
       case atStart => exact ⟨a, cur, Nat.le_refl _, hab, rfl, HG.out, HC.out, HR0.out, hx'⟩
       case round =>
         obtain ⟨k, cs, hk0, hk, rfl, hg, hs, hrow, hx⟩ := hrel
         have HX := Lib.hid hrow
         have HG2 := Lib.hid hg
         have HS := Lib.hid hs
         clear hrow hg hs HR0
         by_cases hlt : k < b2
         · obtain ⟨u0, e0, z0, f0⟩ := HX.out.cell HG2.out (show k < n by omega)
           have hlt' : (k : Int) < (b2 : Int) := by omega
           have hltn : (k : Int) < (n : Int) := by omega
           go_wp2_with (fail)
           exact ⟨⟨k + 1, _, by omega, by omega, by go_num, blk_set1 (w := wr) HG2.out k (.float .f32 0), by rw [Array.size_setIfInBounds]; exact HS.out, HX.out.set' HS.out (by rw [fmuK_at hk0]; exact fl_fz) (fun j _ hj => fmuK_other hj), Ext.set (by repeat (first | assumption | exact Ext.refl _ | apply Ext.drewN | apply Ext.drew | apply Ext.alloc | (refine Ext.trans ?_ (by assumption)) | (refine Ext.set ?_ (by dsimp only; omega) _))) hbg _⟩, by simp [intOf]; omega⟩
         · obtain rfl : k = b2 := by omega
           go_wp2_with (fail)
           go_ret2
           exact ⟨_, _, _, rfl, (rowF_lst' HX.out HG2.out HS.out).more hbg (Nat.le_refl _), hx⟩)
theorem zero_f32 (w : World) : (zeroValue 29).run Try.prog w = .ok (.float .f32 0) w := by kernel_rfl
set_option maxRecDepth 20000 in
set_option maxHeartbeats 4000000 in
theorem c_impl_MuteTrace {w : World} {B n c : Nat} {A : Option Addr} {L : List (Option Nat)} (h : RdF w B A n L) (hB : B ≤ w.heap.size) (hn : n ≤ 1048576) {i j : Int} (hi0 : -9223372036854775808 ≤ i) (hi1 : i ≤ 9223372036854775807) (hj0 : -9223372036854775808 ≤ j) (hj1 : j ≤ 9223372036854775807) :
    Calls Try.prog 28 #[.slice A n c, .int .i64 i, .int .i64 j] w fun e w' => RetL w e w' (okMu n i j) (lst (fmuK L i.toNat j.toNat) n) := by
  unfold okMu
  cases hV : tlen n
  · go_enter Try.func28, Try.ntmps28
    go_wp2_with (go_at_call 40; refine Calls.mono (c_IsTrace _ _ _ _) ?_; rw [hV]; rintro e w1 ⟨rfl, rfl⟩)
    go_ret2
    exact retL_no rfl (by repeat (first | assumption | exact Ext.refl _ | apply Ext.drewN | apply Ext.drew | apply Ext.alloc | (refine Ext.trans ?_ (by assumption)) | (refine Ext.set ?_ (by dsimp only; omega) _)))
  by_cases p1 : i < 0
  · rw [inB_lo p1, Bool.and_false, Bool.and_false]
    go_enter Try.func28, Try.ntmps28
    go_wp2_with (go_at_call 40; refine Calls.mono (c_IsTrace _ _ _ _) ?_; rw [hV]; rintro e w1 ⟨rfl, rfl⟩)
    go_ret2
    exact retL_no rfl (by repeat (first | assumption | exact Ext.refl _ | apply Ext.drewN | apply Ext.drew | apply Ext.alloc | (refine Ext.trans ?_ (by assumption)) | (refine Ext.set ?_ (by dsimp only; omega) _)))
  by_cases p2 : j < i
  · rw [inB_hi p2, Bool.and_false, Bool.and_false]
    go_enter Try.func28, Try.ntmps28
    go_wp2_with (go_at_call 40; refine Calls.mono (c_IsTrace _ _ _ _) ?_; rw [hV]; rintro e w1 ⟨rfl, rfl⟩)
    go_ret2
    exact retL_no rfl (by repeat (first | assumption | exact Ext.refl _ | apply Ext.drewN | apply Ext.drew | apply Ext.alloc | (refine Ext.trans ?_ (by assumption)) | (refine Ext.set ?_ (by dsimp only; omega) _)))
  by_cases p3 : (n : Int) < j
  · rw [inB_hi p3, Bool.false_and, Bool.and_false]
    go_enter Try.func28, Try.ntmps28
    go_wp2_with (go_at_call 40; refine Calls.mono (c_IsTrace _ _ _ _) ?_; rw [hV]; rintro e w1 ⟨rfl, rfl⟩)
    go_ret2
    exact retL_no rfl (by repeat (first | assumption | exact Ext.refl _ | apply Ext.drewN | apply Ext.drew | apply Ext.alloc | (refine Ext.trans ?_ (by assumption)) | (refine Ext.set ?_ (by dsimp only; omega) _)))
  rw [inB_yes (by omega) (by omega), inB_yes (by omega) (by omega), Bool.true_and, Bool.true_and]
  obtain ⟨a, rfl⟩ : ∃ a : Nat, i = (a : Int) := ⟨i.toNat, by omega⟩
  obtain ⟨b2, rfl⟩ : ∃ b2 : Nat, j = (b2 : Int) := ⟨j.toNat, by omega⟩
  rw [Int.toNat_natCast, Int.toNat_natCast]
  have hpos : 0 < n := (tlen_of hV).1
  have hbn : b2 ≤ n := by omega
  obtain ⟨d, hd⟩ : ∃ d, a + d = b2 := ⟨b2 - a, by omega⟩
  have hsub : b2 - a = d := by omega
  have l1 : (a : Int) ≤ (b2 : Int) := by omega
  have l7 : (b2 : Int) - (a : Int) = (d : Int) := by omega
  have l6 : (0 : Int) ≤ (a : Int) := by omega
  have l5 : a ≤ b2 := by omega
  have hFF : ∀ k, (if a ≤ k ∧ k < a + d then fz else L.getD k none) = fmuK L a b2 k := fun k => by unfold fmuK; rw [hd]
  have HFF := Lib.hid hFF
  clear hFF hi0 hi1 hj0 hj1
  rcases Nat.eq_zero_or_pos d with h0 | h0
  · subst h0
    have hcl : ∀ (ty : TypeId) (A' : Option Addr) (c' : Nat) (W : World), (Builtin.clear_ #[22] ty #[.slice A' 0 c']).run Try.prog W = .ok (.tuple #[]) W := fun ty A' c' W => by
      cases A' <;> simp [Builtin.clear_, run_underlying Try.underlying22]
    go_enter Try.func28, Try.ntmps28
    go_wp2_with (first | (go_at_call 40; refine Calls.mono (c_IsTrace _ _ _ _) ?_; rw [hV]; rintro e w1 ⟨rfl, rfl⟩) | (go_at_call 41; refine Calls.mono (c_cloneO h hB hn hpos) ?_; rintro e w4 ⟨v, rfl, ho, hx'⟩; obtain ⟨g, cap, cur, rfl, hbg, hg, hnc, hcs, hrow⟩ := ho.row hpos; have l3 : (b2 : Int) ≤ (cap : Int) := (by omega); have l4 : b2 ≤ cap := (by omega); have HG := Lib.hid hg; have HCS := Lib.hid hcs; have HROW := Lib.hid hrow; clear hg hcs hrow ho))
    all_goals
      go_ret2
      exact ⟨_, _, _, rfl, (rowF_lst' (HROW.out.keep fun k _ => by rw [← HFF.out k, if_neg (by omega)]) HG.out HCS.out).more hbg (Nat.le_refl _), hx'⟩
  · go_enter Try.func28, Try.ntmps28
    go_wp2_with (first | (go_at_call 40; refine Calls.mono (c_IsTrace _ _ _ _) ?_; rw [hV]; rintro e w1 ⟨rfl, rfl⟩) | (go_at_call 41; refine Calls.mono (c_cloneO h hB hn hpos) ?_; rintro e w4 ⟨v, rfl, ho, hx'⟩; obtain ⟨g, cap, cur, rfl, hbg, hg, hnc, hcs, hrow⟩ := ho.row hpos; have l3 : (b2 : Int) ≤ (cap : Int) := (by omega); have l4 : b2 ≤ cap := (by omega); have l8 : a < cap := (by omega); have l9 : ¬ a = cap := (by omega); have hcl : ∀ ty, (Builtin.clear_ #[22] ty #[.slice (some ⟨g, a, none⟩) d (cap - a)]).run Try.prog w4 = .ok (.tuple #[]) (w4.setCells g a (List.replicate d (.float .f32 0))) := (fun ty => Go.Lib.run_clear_slice w4 _ _ ty _ Try.underlying22 zero_f32 rfl rfl g a d (cap - a) h0 (fun j hj => by obtain ⟨r, q1, q2, q3⟩ := hrow.cell hg (show a + j < n by omega); rw [q1]; rfl) (fun j hj => by obtain ⟨r, q1, q2, q3⟩ := hrow.cell hg (show a + j < n by omega); exact q2)); have HG := Lib.hid hg; have HCS := Lib.hid hcs; have HROW := Lib.hid hrow; clear hg hcs hrow ho))
    go_ret2
    obtain ⟨cs2, s1, s2, s3, s4⟩ := setCells_row (n := n) d a w4 cur _ HG.out HCS.out HROW.out
    exact ⟨_, _, _, rfl, (rowF_lst' (s3.keep fun k _ => HFF.out k) s1 s2).more hbg (Nat.le_refl _), s4.ext hx' hbg⟩
theorem both_MuteTrace {n0 : Nat} {L0 : List (Option Nat)} (_hl0 : L0.length = n0) (hn0 : n0 ≤ 1048576) {i1 : Int} (hi1 : -9223372036854775808 ≤ i1) (hj1 : i1 ≤ 9223372036854775807) {i2 : Int} (hi2 : -9223372036854775808 ≤ i2) (hj2 : i2 ≤ 9223372036854775807) :
    ∃ ok Q q, q ≤ 1048576 ∧ (∀ W : World, ∀ (B0 : Nat) (A0 : Option Addr) (c0 : Nat), RdF W B0 A0 n0 L0 → B0 ≤ W.heap.size → Calls Try.prog 27 #[.slice A0 n0 c0, .int .i64 i1, .int .i64 i2] W fun e w' => RetQ W e w' ok q Q) ∧
      (∀ W : World, ∀ (B0 : Nat) (A0 : Option Addr) (c0 : Nat), RdF W B0 A0 n0 L0 → B0 ≤ W.heap.size → Calls Try.prog 28 #[.slice A0 n0 c0, .int .i64 i1, .int .i64 i2] W fun e w' => RetQ W e w' ok q Q) :=
  ⟨okMu n0 i1 i2, outL (okMu n0 i1 i2) (lst (fmuK L0 i1.toNat i2.toNat) n0), (outL (okMu n0 i1 i2) (lst (fmuK L0 i1.toNat i2.toNat) n0)).length, Nat.le_trans (outL_len _ _) (by rw [lst_len]; omega),
    fun W _ _ _ h0 hB0 => Calls.mono (c_spec_MuteTrace (w := W) h0 hB0 hn0 hi1 hj1 hi2 hj2) (fun _ _ hr => hr.q), fun W _ _ _ h0 hB0 => Calls.mono (c_impl_MuteTrace (w := W) h0 hB0 hn0 hi1 hj1 hi2 hj2) (fun _ _ hr => hr.q)⟩

end Go.Proofs.Ytcjddnkebdjhoaa
