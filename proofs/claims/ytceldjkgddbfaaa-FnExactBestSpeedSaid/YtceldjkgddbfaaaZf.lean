/- Contracts: speeds that are scanned, on both sides. Condition: the gather is read. -/
import Derived.Test.YtceldjkgddbfaaaZe
import Derived.Test.YtceldjkgddbfaaaYk
namespace Go.Proofs.Ytceldjkgddbfaaa
open Go.RowKit Ieee

/-- How much traces are alike for speeds. -/
def scF (G : Gat) (L : List (Option Nat)) (lo d : Nat) (j : Nat) : Option Nat := fsem (allG fcorr (L.getD j none) G).r G.r.length lo d
def okSc (G : Gat) (n : Nat) (L : List (Option Nat)) (i r : Int) : Bool := fvG G && ((plen n && allL fabove L) && okW G.t i r)
theorem own_ext {w w' : World} {base n : Nat} {v : Value} {xs : List Value} (h : w.ownsRow base 35 1 v n xs) (hx : Ext w w') : w'.ownsRow base 35 1 v n xs := by
  refine ⟨h.1, ?_⟩
  rcases h.2 with hn | ⟨g, cap, cur, hv, hb, hg, hr⟩
  · exact .inl hn
  · exact .inr ⟨g, cap, cur, hv, hb, hx.blk hg, hr⟩
set_option maxRecDepth 20000 in
set_option maxHeartbeats 4000000 in
theorem c_l04Speeds {w : World} {B n c : Nat} {A : Option Addr} {L : List (Option Nat)} (h : RdF w B A n L) (hn : n ≤ 1048576) :
    Calls Try.prog 85 #[.slice A n c] w fun e w' => e = .returned (.bool (plen n && allL fabove L)) ∧ Dr w w' := by
  have hl := Lib.hid h.len
  go_enter Try.func85, Try.ntmps85
  go_wp2_with (fail)
  go_loopw [3] (fun i wr => ∃ k : Nat, k ≤ n ∧ i = .int .i64 k ∧ allL fabove (L.take k) = true ∧ Dr w wr) (fun i _ => n - (intOf i).toNat)
  case atStart => exact ⟨0, Nat.zero_le _, rfl, rfl, 0, rfl⟩
  case round =>
    obtain ⟨k, hk, rfl, ha, m, rfl⟩ := hrel
    have HA := Lib.hid ha
    clear ha
    by_cases hlt : k < n
    · have hlt' : (k : Int) < (n : Int) := by omega
      obtain ⟨b1, o1, t1, rfl, hb1, hc1, ht1⟩ := h.cell hlt
      cases hF : fabove (L.getD k none)
      · have hend : Hid (false = (plen n && allL fabove L)) := Lib.hid (by rw [allL_no (L := L) (k := k) (by have := hl.out; omega) hF, Bool.and_false])
        go_wp2_with (go_at_call 65; refine Calls.mono (c_l02Above ht1 _) ?_; rw [hF]; rintro e w' ⟨rfl, n1, rfl⟩)
        go_ret
        exact ⟨retb hend.out, _, rfl⟩
      · have hst := Lib.hid (allL_step (L := L) (k := k) (by have := hl.out; omega) HA.out hF)
        go_wp2_with (go_at_call 65; refine Calls.mono (c_l02Above ht1 _) ?_; rw [hF]; rintro e w' ⟨rfl, n1, rfl⟩)
        exact ⟨⟨k + 1, by omega, by go_num, hst.out, _, rfl⟩, by simp [intOf]; omega⟩
    · obtain rfl : k = n := by omega
      have hall := allL_end hl.out HA.out
      rcases Nat.lt_or_ge k 1 with g1 | g1
      · have hend : Hid (false = (plen k && allL fabove L)) := Lib.hid (by rw [plen_lo g1]; rfl)
        obtain rfl : k = 0 := by omega
        clear hall
        go_wp2_with (fail)
        go_ret
        exact ⟨retb hend.out, _, rfl⟩
      rcases Nat.lt_or_ge 16 k with g2 | g2
      · have hend : Hid (false = (plen k && allL fabove L)) := Lib.hid (by rw [plen_hi g2]; rfl)
        have i1 : (1 : Int) ≤ k := by omega
        have i2 : ¬ (k : Int) ≤ 16 := by omega
        clear hall g1 g2
        go_wp2_with (fail)
        go_ret
        exact ⟨retb hend.out, _, rfl⟩
      · have hend : Hid (true = (plen k && allL fabove L)) := Lib.hid (by rw [plen_yes g1 g2, hall]; rfl)
        have i1 : (1 : Int) ≤ k := by omega
        have i2 : (k : Int) ≤ 16 := by omega
        clear hall g1 g2
        go_wp2_with (fail)
        go_ret
        exact ⟨retb hend.out, _, rfl⟩
set_option linter.unusedSimpArgs false in
set_option maxRecDepth 20000 in
set_option maxHeartbeats 20000000 in
theorem c_l04Scan {w : World} {B b np nt cp ct : Nat} {Ap At : Option Addr} {G : Gat} (hb : GbAt w b G.t Ap np cp At nt ct) (hp : RdF w B Ap np G.p) (hr : RdS w B At nt G.r) (hB : B ≤ w.heap.size) (hV : VG G) {B' n c : Nat} {A : Option Addr} {L : List (Option Nat)} (h : RdF w B' A n L) (hB' : B' ≤ w.heap.size) (hn : n ≤ 16) {T lo d : Nat} {i r : Int} (hTt : G.t = (T : Int)) (hw : Win T i r lo d) (hd : 0 < d) (hdT : lo + d ≤ T) :
    Calls Try.prog 87 #[.pointer (some ⟨b, 0, none⟩), .slice A n c, .int .i64 i, .int .i64 r] w fun e w' => ∃ v, e = .returned v ∧ OwF w' w.heap.size v n (scF G L lo d) ∧ Ext w w' := by
  obtain ⟨i0, hi, hz0, hz1, hz2⟩ := info_parts info_f32
  have hT64 : T ≤ 64 := by have := hV.t2; omega
  have hm := hV.m
  have hm2 := hV.n2
  have HALL := Lib.hid (fun (W : World) (hW : Ext w W) (s : Nat) (S : Option Nat) (fs : Fl .f32 s S) => c_l04All_corr (w := W) (hb.ext hW) (hp.below (hW.mono hB)) (hr.below (hW.mono hB)) (Nat.le_trans hB hW.size) hV fs)
  have HLN : Hid (∀ (V : Option Nat) (j : Nat), j < (allG fcorr V G).r.length → ((allG fcorr V G).r.getD j []).length = T) := Lib.hid (fun V j hj => by
    have h1 : (allG fcorr V G).r.length = G.r.length := lstS_len _ _
    have h2 : (allG fcorr V G).r.getD j [] = allF fcorr V G j := lstS_at (by omega)
    rw [h2]
    unfold allF
    rw [lst_len]
    have := hV.row j (by omega)
    omega)
  have HLR : Hid (∀ V, (allG fcorr V G).r.length = G.r.length) := Lib.hid (fun V => lstS_len _ _)
  have HTT := Lib.hid hTt
  have hm3 : G.r.length ≤ 16 := by omega
  clear hV hm hm2 hb hp hr hTt
  go_enter Try.func87, Try.ntmps87
  go_wp2_with (fail)
  go_loopw [9, 10] (fun v y wr => ∃ (k : Nat) (xs : List Value), k ≤ n ∧ y = .int .i64 (k : Int) ∧ wr.ownsRow w.heap.size 35 1 v k xs ∧ (∀ j, j < k → ∃ q, xs[j]? = some (.float .f32 q) ∧ Fl .f32 q (scF G L lo d j)) ∧ Ext w wr) (fun _ y _ => n - (intOf y).toNat)
  case atStart => exact ⟨0, [], Nat.zero_le _, rfl, World.ownsRow_made _ _ 0 (Nat.le_refl _) (Nat.zero_le _) rfl, fun j hj => absurd hj (Nat.not_lt_zero _), (by repeat (first | assumption | exact Ext.refl _ | apply Ext.drewN | apply Ext.drew | apply Ext.alloc | (refine Ext.trans ?_ (by assumption)) | (refine Ext.set ?_ (by dsimp only; omega) _)))⟩
  case round =>
    obtain ⟨k, xs, hk, rfl, hown, hxs, hx⟩ := hrel
    have HX : Hid (∀ j, j < k → ∃ q, xs[j]? = some (.float .f32 q) ∧ Fl .f32 q (scF G L lo d j)) := Lib.hid hxs
    have HO := Lib.hid hown
    clear hxs hown
    by_cases hlt : k < n
    · have hlt' : (k : Int) < (n : Int) := by omega
      obtain ⟨b1, o1, t1, rfl, hb1, hc1, ht1⟩ := (h.below (hx.mono hB')).cell hlt
      obtain ⟨V, hV⟩ : ∃ V, L.getD k none = V := ⟨_, rfl⟩
      rw [hV] at ht1
      have HV := Lib.hid hV
      clear hV
      go_wp2_with (first | (go_at_call 74; refine Calls.mono (HALL.out _ (by repeat (first | assumption | exact Ext.refl _ | apply Ext.drewN | apply Ext.drew | apply Ext.alloc | (refine Ext.trans ?_ (by assumption)) | (refine Ext.set ?_ (by dsimp only; omega) _))) _ _ ht1) ?_; rintro e w2 ⟨x, rfl, ho, hx2⟩; obtain ⟨Ap2, cp2, At2, ct2, hv, hrp, hrs, _, _⟩ := ho.rd.ex; rw [show (allG fcorr V G).t = (T : Int) from HTT.out] at hv; subst hv; have hx3 : Ext wr (w2.alloc (.cells #[.int .i64 (T : Int), .slice Ap2 (allG fcorr V G).p.length cp2, .slice At2 (allG fcorr V G).r.length ct2] 25)) := (hx2.trans (Ext.alloc (Ext.refl _) _)); have hgb : GbAt (w2.alloc (.cells #[.int .i64 (T : Int), .slice Ap2 (allG fcorr V G).p.length cp2, .slice At2 (allG fcorr V G).r.length ct2] 25)) w2.heap.size (T : Int) Ap2 (allG fcorr V G).p.length cp2 At2 (allG fcorr V G).r.length ct2 := GbAt.blk (T := 25) (heap_alloc_new w2 _); have HSE := Lib.hid (c_l04Semblance (i := i) (r := r) hgb (hrs.below (Ext.alloc (Ext.refl w2) _)) (by rw [HLR.out]; omega) (HLN.out V) hT64 hw hd hdT); have HO3 := Lib.hid (own_ext HO.out hx3); clear ho hrp hrs hgb) | (go_at_call 112; refine Calls.mono HSE.out ?_; rintro e w5 ⟨r5, rfl, hr5, n5, rfl⟩; rw [HLR.out V] at hr5; have e0 : ((w2.alloc (.cells #[.int .i64 (T : Int), .slice Ap2 (allG fcorr V G).p.length cp2, .slice At2 (allG fcorr V G).r.length ct2] 25)).drewN n5).heap.size = w2.heap.size + 1 := al_size _ _; have HN1 := Lib.hid (fun j0 u hj0 => one_new (w := (w2.alloc (.cells #[.int .i64 (T : Int), .slice Ap2 (allG fcorr V G).p.length cp2, .slice At2 (allG fcorr V G).r.length ct2] 25)).drewN n5) (r := r5) j0 u hj0); rw [e0] at HN1) | (at_builtin; refine wpList_append_own _ rfl _ _ 22 rfl w.heap.size 35 i0 (.float .f32 0) 1 4 Try.underlying22 hi hz0 hz1 hz2 rfl (by decide) _ _ _ rfl (World.ownsRow.alloc (w := (w2.alloc (.cells #[.int .i64 (T : Int), .slice Ap2 (allG fcorr V G).p.length cp2, .slice At2 (allG fcorr V G).r.length ct2] 25)).drewN n5) HO3.out _) ⟨w2.heap.size + 1, 0, none⟩ 1 1 [.float .f32 r5] rfl rfl HN1.out ?_ ?_ ?_ ?_ ?_))
      all_goals first
        | (intro u hu; simp at hu; subst hu; rfl)
        | (unfold maxLen; omega)
        | omega
        | (have h8 := hx.size; have h9 := hx3.size; simp at h9 ⊢; omega)
        | (intro v' w4 hown' hgrow _
           have hl' : xs.length = k := by have := HO3.out.1; omega
           have hx' := grown_ext (w := w) (Ext.alloc (Ext.drewN (hx.trans hx3) n5) _) (World.ownsRow.alloc (w := (w2.alloc (.cells #[.int .i64 (T : Int), .slice Ap2 (allG fcorr V G).p.length cp2, .slice At2 (allG fcorr V G).r.length ct2] 25)).drewN n5) HO3.out _) hgrow
           have HXX := Lib.hid (row_step (F := scF G L lo d) hl' HX.out (by unfold scF; rw [HV.out]; exact hr5))
           clear hgrow hx
           go_wp2_with (fail)
           exact ⟨⟨k + 1, _, by omega, by go_num, hown', HXX.out, hx'⟩, by simp [intOf]; omega⟩)
    · obtain rfl : k = n := by omega
      go_wp2_with (fail)
      go_ret
      exact ⟨_, rfl, ⟨xs, HO.out, HX.out⟩, hx⟩
end Go.Proofs.Ytceldjkgddbfaaa
