/- Gathers of a call's own, marked and held. Condition: the gather is a call's own. -/
import Derived.Test.YtkbkjkjjoogieaaYb
import Derived.Deep.RegionHeld3
namespace Go.Proofs.Ytkbkjkjjoogieaa
open Go.RowKit Go.Deep Ieee

theorem Kb.wide {lo hi lo' hi' : Nat} {w w' : World} (h : Kb lo hi w w') (h1 : lo' ≤ lo) (h2 : hi ≤ hi') : Kb lo' hi' w w' := ⟨h.below.mono h1, fun k hk hs => h.above k (by omega) hs⟩
def mixS (k0 : Nat) (R : List (List (Option Nat))) (k j : Nat) : List (Option Nat) := if j < k then marks (k0 + tot (R.take j)) (R.getD j []).length else R.getD j []
set_option maxRecDepth 20000 in
set_option maxHeartbeats 4000000 in
theorem c_markFloat32SS {w : World} {lo hi g n c k0 : Nat} {f : Nat → Nat} {A : Option Addr} {R : List (List (Option Nat))} (h : OwS w g f A n R) (hf : ∀ j, j < n → lo ≤ f j ∧ f j < hi) (hn : n ≤ 1048576) (ht : tot R ≤ 1048576) (hk0 : k0 ≤ 100000000) :
    Calls Try.prog 101 #[.slice A n c, .int .i64 (k0 : Int)] w fun e w' => e = .returned (.int .i64 ((k0 + tot R : Nat) : Int)) ∧ OwS w' g f A n (marksS k0 R) ∧ Kb lo hi w w' ∧ ∀ b, b < w.heap.size → (∀ j, j < n → b ≠ f j) → w'.heap[b]? = w.heap[b]? := by
  rcases Nat.eq_zero_or_pos n with rfl | hpos
  · obtain rfl : R = [] := List.eq_nil_of_length_eq_zero h.len
    go_enter Try.func101, Try.ntmps101
    go_wp2_with (fail)
    go_loopw [1, 5] (fun k i wr => k = .int .i64 (k0 : Int) ∧ i = .int .i64 0 ∧ wr = w) (fun _ _ _ => 0)
    case atStart => exact ⟨rfl, rfl, rfl⟩
    case round =>
      obtain ⟨rfl, rfl, rfl⟩ := hrel
      go_wp2_with (fail)
      go_ret
      exact ⟨rfl, OwS.nil _ _ _ _, Kb.refl _ _ _, fun _ _ _ => rfl⟩
  obtain ⟨off, cs, t, rfl, hg, hs, hc⟩ := h.spine.resolve_left (by omega)
  have hinj := h.inj
  have hlen := h.len
  obtain ⟨q, hq⟩ := Go.Deep.choose_lt (p := fun j (x : Option Addr × Nat) => cs[off + j]? = some (.slice x.1 (R.getD j []).length x.2) ∧ OwL w (f j) (f j + 1) x.1 (R.getD j []).length (R.getD j []) ∧ (R.getD j []).length ≤ x.2 ∧ f j ≠ g) (fun j hj => by
    obtain ⟨A', c', h1⟩ := hc j hj
    exact ⟨(A', c'), h1⟩)
  have HQ := Lib.hid hq
  have HG := Lib.hid hg
  clear h hc hq hg
  go_enter Try.func101, Try.ntmps101
  go_wp2_with (fail)
  go_loopw [1, 5] (fun k i wr => ∃ j M : Nat, j ≤ n ∧ M = k0 + tot (R.take j) ∧ i = .int .i64 j ∧ k = .int .i64 (M : Int) ∧ (∀ i, i < n → OwL wr (f i) (f i + 1) (q i).1 (R.getD i []).length (mixS k0 R j i)) ∧ Kb lo hi w wr ∧ ∀ b, b < w.heap.size → (∀ i, i < n → b ≠ f i) → wr.heap[b]? = w.heap[b]?) (fun _ i _ => n - (intOf i).toNat)
  case atStart => exact ⟨0, k0, Nat.zero_le _, by simp [tot], rfl, rfl, fun i hi => by unfold mixS; rw [if_neg (Nat.not_lt_zero _)]; exact (HQ.out i hi).2.1, Kb.refl _ _ _, fun _ _ _ => rfl⟩
  case round =>
    obtain ⟨k, M, hk, hM, rfl, rfl, hrows, hkb, hfr⟩ := hrel
    have HR := Lib.hid hrows
    have HF := Lib.hid hfr
    clear hrows hfr
    by_cases hlt : k < n
    · have hlt' : (k : Int) < (n : Int) := by omega
      have hgw : wr.heap[g]? = some (.cells cs t (0, 0)) := (HF.out g (blk_lt HG.out) (fun i hi => Ne.symm (HQ.out i hi).2.2.2)).trans HG.out
      have hcell : wr.cell? ⟨g, off + k, none⟩ = some (.slice (q k).1 (R.getD k []).length (q k).2) := by rw [cell_of_row wr g _ cs _ (0, 0) hgw]; exact (HQ.out k hlt).1
      have hrow := HR.out k hlt
      have hts := tot_take_succ R k (by rw [hlen]; exact hlt)
      have htl := tot_take_le R (k + 1)
      have hrow2 : OwL wr (f k) (f k + 1) (q k).1 (R.getD k []).length (R.getD k []) := by
        have := hrow; unfold mixS at this; rwa [if_neg (Nat.lt_irrefl _)] at this
      obtain ⟨Ak, hAk⟩ : ∃ x, (q k).1 = x := ⟨_, rfl⟩
      obtain ⟨ck, hck⟩ : ∃ x, (q k).2 = x := ⟨_, rfl⟩
      obtain ⟨Lk, hLk⟩ : ∃ x, (R.getD k []).length = x := ⟨_, rfl⟩
      rw [hAk, hck, hLk] at hcell
      rw [hAk, hLk] at hrow2
      rw [hLk] at hts
      have hmk := c_markFloat32S (c := ck) (k0 := M) hrow2 (by omega) (by omega)
      obtain ⟨M2, hM2⟩ : ∃ M2, M + Lk = M2 := ⟨_, rfl⟩
      rw [hM2] at hmk
      have HM := Lib.hid hmk
      have hMx : ∀ i, i < n → i ≠ k → mixS k0 R (k + 1) i = mixS k0 R k i := by
        intro i _ hik
        unfold mixS
        by_cases h1 : i < k
        · rw [if_pos h1, if_pos (by omega)]
        · rw [if_neg h1, if_neg (by omega)]
      have hMk : mixS k0 R (k + 1) k = marks M Lk := by unfold mixS; rw [if_pos (Nat.lt_succ_self _), hM, hLk]
      have hTT : M2 = k0 + tot (R.take (k + 1)) := by omega
      have HAK := Lib.hid hAk
      have HLK := Lib.hid hLk
      clear hrow hgw hts htl hrow2 hmk hM hM2 hAk hck hLk
      have HX := Lib.hid hMx
      have HK := Lib.hid hMk
      have HT := Lib.hid hTT
      clear hMx hMk hTT
      go_wp2_with (go_at_call 35; refine Calls.mono HM.out ?_; rintro e w2 ⟨rfl, ho2, hk2⟩)
      refine ⟨⟨k + 1, M2, by omega, HT.out, by go_num, rfl, fun i hi => ?_, ?_, fun b hb hbi => ?_⟩, by simp [intOf]; omega⟩
      · by_cases hik : i = k
        · subst hik; rw [HK.out, HAK.out, HLK.out]; exact ho2
        · rw [HX.out i hi hik]
          rcases (HR.out i hi).at_ with h5 | ⟨gb, ob, cb, hA, hl1, hl2, hgb, _⟩
          · exact ⟨(HR.out i hi).len, .inl h5⟩
          · refine (HR.out i hi).same (fun b h1 h2 => ?_)
            have hne : f i ≠ f k := by
              rcases Nat.lt_trichotomy i k with h3 | h3 | h3
              · exact hinj i k h3 hlt
              · exact absurd h3 hik
              · exact Ne.symm (hinj k i h3 hi)
            rcases Nat.lt_or_ge b (f k) with h4 | h4
            · exact hk2.below.block b h4
            · exact hk2.above b (by omega) (by have := blk_lt hgb; omega)
      · exact hkb.trans (Kb.wide hk2 (hf k hlt).1 (by have := (hf k hlt).2; omega))
      · have h7 : b ≠ f k := hbi k hlt
        have h8 : b < wr.heap.size := Nat.lt_of_lt_of_le hb hkb.below.size
        refine Eq.trans ?_ (HF.out b hb hbi)
        rcases Nat.lt_or_ge b (f k) with h4 | h4
        · exact hk2.below.block b h4
        · exact hk2.above b (by omega) h8
    · obtain rfl : k = n := by omega
      rw [tot_all hlen] at hM
      have HM := Lib.hid hM
      clear hM
      go_wp2_with (fail)
      go_ret
      refine ⟨by rw [← HM.out]; rfl, ⟨by rw [marksS_len, hlen], .inr ⟨off, cs, t, rfl, (HF.out g (blk_lt HG.out) (fun i hi => Ne.symm (HQ.out i hi).2.2.2)).trans HG.out, hs, fun j hj => ?_⟩, hinj⟩, hkb, HF.out⟩
      have hjl : j < R.length := by rw [hlen]; exact hj
      refine ⟨(q j).1, (q j).2, by rw [marksS_row hjl]; exact (HQ.out j hj).1, ?_, by rw [marksS_row hjl]; exact (HQ.out j hj).2.2.1, (HQ.out j hj).2.2.2⟩
      have := HR.out j hj
      unfold mixS at this
      rw [if_pos hj] at this
      rw [marksS_at hjl, marks_len]
      exact this
set_option maxRecDepth 20000 in
set_option maxHeartbeats 4000000 in
theorem c_heldFloat32SS {w : World} {B n c k0 : Nat} {A : Option Addr} {R : List (List (Option Nat))} (h : RdS w B A n (marksS k0 R)) (hl : R.length = n) (hn : n ≤ 1048576) (ht : tot R ≤ 1048576) (hk0 : k0 ≤ 100000000) :
    Calls Try.prog 102 #[.slice A n c, .int .i64 (k0 : Int)] w fun e w' => e = .returned (.int .i64 ((k0 + tot R : Nat) : Int)) ∧ w' = w := by
  go_enter Try.func102, Try.ntmps102
  go_wp2_with (fail)
  go_loopw [1, 5] (fun q i wr => ∃ k M : Nat, k ≤ n ∧ M = k0 + tot (R.take k) ∧ i = .int .i64 k ∧ q = .int .i64 (M : Int) ∧ wr = w) (fun _ i _ => n - (intOf i).toNat)
  case atStart => exact ⟨0, k0, Nat.zero_le _, by simp [tot], rfl, rfl, rfl⟩
  case round =>
    obtain ⟨k, M, hk, hM, rfl, rfl, rfl⟩ := hrel
    by_cases hlt : k < n
    · obtain ⟨b, off, A1, c1, rfl, hb, hc, hrd, hlc⟩ := h.cell hlt
      have hkl : k < R.length := by omega
      rw [marksS_row hkl] at hc hrd hlc
      rw [marksS_at hkl] at hrd
      have hts := tot_take_succ R k hkl
      have htl := tot_take_le R (k + 1)
      have hlt' : (k : Int) < (n : Int) := by omega
      rw [← hM] at hrd
      obtain ⟨Lk, hLk⟩ : ∃ x, (R.getD k []).length = x := ⟨_, rfl⟩
      rw [hLk] at hc hrd hlc hts
      have hhd := c_heldFloat32S (c := c1) hrd (by omega) (by omega)
      obtain ⟨M2, hM2⟩ : ∃ M2, M + Lk = M2 := ⟨_, rfl⟩
      rw [hM2] at hhd
      have HH := Lib.hid hhd
      have hTT : M2 = k0 + tot (R.take (k + 1)) := by omega
      have hneg : ¬ ((M2 : Int) < 0) := by omega
      have HT := Lib.hid hTT
      clear hhd hts htl hTT hrd hM hM2 hLk
      go_wp2_with (go_at_call 36; refine Calls.mono HH.out ?_; rintro e w2 ⟨rfl, rfl⟩)
      exact ⟨⟨k + 1, M2, by omega, HT.out, by go_num, rfl, trivial⟩, by simp [intOf]; omega⟩
    · have hkn : k = n := by omega
      subst hkn
      rw [tot_all hl] at hM
      have HM := Lib.hid hM
      clear hM
      go_wp2_with (fail)
      go_ret
      exact ⟨by rw [← HM.out]; rfl, rfl⟩
/-- The places of a gather, in blocks that its lists have not. -/
theorem OwG.parts {w : World} {lo hi : Nat} {v : Value} {G : Gat} (h : OwG w lo hi v G) (hlo : lo ≤ hi) :
    ∃ Ap cp At ct gp g f pl ph, v = .agg #[.int .i64 G.t, .slice Ap G.p.length cp, .slice At G.r.length ct] ∧ OwL w pl ph Ap G.p.length G.p ∧ OwS w g f At G.r.length G.r ∧ G.p.length ≤ cp ∧ G.r.length ≤ ct ∧ (lo ≤ pl ∧ ph ≤ hi ∧ (∀ b, b ≠ gp → b < pl ∨ ph ≤ b) ∧ (G.p.length = 0 ∨ (pl = gp ∧ ph = gp + 1))) ∧
    (G.p.length = 0 ∨ (lo ≤ gp ∧ gp < hi)) ∧ (G.r.length = 0 ∨ (lo ≤ g ∧ g < hi ∧ g ≠ gp)) ∧ ∀ j, j < G.r.length → lo ≤ f j ∧ f j < hi ∧ f j ≠ gp := by
  obtain ⟨Ap, cp, At, ct, gp, g, f, h1, hp, hr, l1, l2, b1, b2, b3⟩ := h.ex
  rcases b1 with h0 | h0
  · exact ⟨Ap, cp, At, ct, gp, g, f, lo, lo, h1, ⟨hp.len, .inl h0⟩, hr, l1, l2, ⟨Nat.le_refl _, hlo, fun b _ => by omega, .inl h0⟩, .inl h0, b2, b3⟩
  · exact ⟨Ap, cp, At, ct, gp, g, f, gp, gp + 1, h1, hp, hr, l1, l2, ⟨h0.1, by omega, fun b hb => by omega, .inr ⟨rfl, rfl⟩⟩, .inr h0, b2, b3⟩
set_option maxRecDepth 20000 in
set_option maxHeartbeats 4000000 in
theorem c_markGather {w : World} {lo hi k0 : Nat} {v : Value} {G : Gat} (h : OwG w lo hi v G) (hhi : hi ≤ w.heap.size) (hlo : lo ≤ hi) (hg : gsz G ≤ 1048576) (hk0 : k0 ≤ 10000000) :
    Calls Try.prog 59 #[v, .int .i64 (k0 : Int)] w fun e w' => e = .returned (.int .i64 ((k0 + G.p.length + tot G.r : Nat) : Int)) ∧ OwG w' lo hi v (markG k0 G) ∧ Kb lo hi w w' := by
  obtain ⟨Ap, cp, At, ct, gp, g, f, pl, ph, rfl, hp, hr, l1, l2, ⟨q1, q2, q3, q4⟩, b1, b2, b3⟩ := h.parts hlo
  have hgs : G.p.length ≤ 1048576 ∧ G.r.length ≤ 1048576 ∧ tot G.r ≤ 1048576 := by unfold gsz at hg; omega
  obtain ⟨s1, s2, s3⟩ := hgs
  have hbox : GbAt (w.alloc (.cells #[.int .i64 G.t, .slice Ap G.p.length cp, .slice At G.r.length ct] 68)) w.heap.size G.t Ap G.p.length cp At G.r.length ct := GbAt.blk (T := 68) (by repeat (first | (refine al_at ?_ ?_ <;> first | rfl | (simp only [al_size] <;> omega)) | apply al_old))
  obtain ⟨p0, p1, p2, _⟩ := hbox
  have m1 := fun (W : World) (hx : Ext w W) => c_markFloat32S (w := W) (c := cp) (k0 := k0) (hp.ext (Nat.le_trans q2 hhi) hx) s1 (by omega)
  have m2 := fun (W : World) (ho : OwS W g f At G.r.length G.r) => c_markFloat32SS (w := W) (c := ct) (lo := lo) (hi := hi) (k0 := k0 + G.p.length) ho (fun j hj => ⟨(b3 j hj).1, (b3 j hj).2.1⟩) s2 s3 (by omega)
  obtain ⟨K1, hK1⟩ : ∃ K1, k0 + G.p.length = K1 := ⟨_, rfl⟩
  obtain ⟨K2, hK2⟩ : ∃ K2, K1 + tot G.r = K2 := ⟨_, rfl⟩
  rw [hK1] at m1 m2
  rw [hK2] at m2
  have HK1 := Lib.hid hK1
  have HK2 := Lib.hid hK2
  clear hK1 hK2
  have M1 := Lib.hid m1
  have M2 := Lib.hid m2
  have hX1 : Ext w (w.alloc (.cells #[.int .i64 G.t, .slice Ap G.p.length cp, .slice At G.r.length ct] 68)) := (by repeat (first | assumption | exact Ext.refl _ | apply Ext.drewN | apply Ext.drew | apply Ext.alloc | (refine Ext.trans ?_ (by assumption)) | (refine Ext.set ?_ (by dsimp only; omega) _)))
  clear m1 m2
  go_enter Try.func59, Try.ntmps59
  go_wp2_with (first | (go_at_call 35; refine Calls.mono (M1.out _ (by repeat (first | assumption | exact Ext.refl _ | apply Ext.drewN | apply Ext.drew | apply Ext.alloc | (refine Ext.trans ?_ (by assumption)) | (refine Ext.set ?_ (by dsimp only; omega) _)))) ?_; rintro e w2 ⟨rfl, ho2, hk2⟩; have hfr : ∀ b, b < w.heap.size → b ≠ gp → w2.heap[b]? = w.heap[b]? := (fun b hb hn => Eq.trans (by rcases q3 b hn with h4 | h4; exact hk2.below.block b h4; exact hk2.above b h4 (by simp; omega)) (hX1.block b hb)); have hr2 : OwS w2 g f At G.r.length G.r := hr.same (b2.imp id (fun h => hfr g (by omega) h.2.2)) (fun j hj => hfr (f j) (by have := b3 j hj; omega) (b3 j hj).2.2); have hbx2 := GbAt.blk (w := w2) (b := w.heap.size) (T := 68) ((hk2.above w.heap.size (by omega) (by simp)).trans (by repeat (first | (refine al_at ?_ ?_ <;> first | rfl | (simp only [al_size] <;> omega)) | apply al_old))); obtain ⟨p3, p4, p5, _⟩ := hbx2; clear p0 p1 p2) | (go_at_call 101; refine Calls.mono (M2.out _ hr2) ?_; rintro e w3 ⟨rfl, ho3, hk3, hf3⟩))
  go_ret
  have hsz2 := hk2.below.size
  simp only [al_size] at hsz2
  have hkk : Kb lo hi w w3 := (Ext.kb hX1 (Nat.le_trans hlo hhi)).trans ((hk2.wide q1 q2).trans hk3)
  refine ⟨by rw [HK1.out, HK2.out]; rfl, ⟨Ap, cp, At, ct, gp, g, f, ?_, ?_, ?_, ?_, ?_, ?_, ?_, ?_⟩, hkk⟩
  · show _ = Value.agg #[.int .i64 G.t, .slice Ap (marks k0 G.p.length).length cp, .slice At (marksS (k0 + G.p.length) G.r).length ct]
    rw [marks_len, marksS_len]
  · show OwL w3 gp (gp + 1) Ap (marks k0 G.p.length).length (marks k0 G.p.length)
    rw [marks_len]
    rcases q4 with h0 | ⟨rfl, rfl⟩
    · exact ⟨marks_len _ _, .inl h0⟩
    · rcases b1 with h0 | h0
      · exact ⟨marks_len _ _, .inl h0⟩
      · exact ho2.same (fun b h1 h2 => hf3 b (by omega) (fun j hj hb => (b3 j hj).2.2 (by omega)))
  · show OwS w3 g f At (marksS (k0 + G.p.length) G.r).length (marksS (k0 + G.p.length) G.r)
    rw [marksS_len, HK1.out]; exact ho3
  · show (marks k0 G.p.length).length ≤ cp
    rw [marks_len]; exact l1
  · show (marksS (k0 + G.p.length) G.r).length ≤ ct
    rw [marksS_len]; exact l2
  · show (marks k0 G.p.length).length = 0 ∨ _
    rw [marks_len]; exact b1
  · show (marksS (k0 + G.p.length) G.r).length = 0 ∨ _
    rw [marksS_len]; exact b2
  · show ∀ j, j < (marksS (k0 + G.p.length) G.r).length → _
    rw [marksS_len]; exact b3
set_option maxRecDepth 20000 in
set_option maxHeartbeats 4000000 in
theorem c_heldGather {w : World} {B k0 : Nat} {v : Value} {G : Gat} (h : RdG w B v (markG k0 G)) (hB : B ≤ w.heap.size) (hg : gsz G ≤ 1048576) (hk0 : k0 ≤ 10000000) :
    Calls Try.prog 60 #[v, .int .i64 (k0 : Int)] w fun e w' => e = .returned (.int .i64 ((k0 + G.p.length + tot G.r : Nat) : Int)) ∧ Ext w w' := by
  obtain ⟨Ap, cp, At, ct, rfl, hp, hr, l1, l2⟩ := h.ex
  have hgs : G.p.length ≤ 1048576 ∧ G.r.length ≤ 1048576 ∧ tot G.r ≤ 1048576 := by unfold gsz at hg; omega
  obtain ⟨s1, s2, s3⟩ := hgs
  simp only [markG, marks_len, marksS_len] at hp hr l1 l2 ⊢
  have hbox : GbAt (w.alloc (.cells #[.int .i64 G.t, .slice Ap G.p.length cp, .slice At G.r.length ct] 68)) w.heap.size G.t Ap G.p.length cp At G.r.length ct := GbAt.blk (T := 68) (by repeat (first | (refine al_at ?_ ?_ <;> first | rfl | (simp only [al_size] <;> omega)) | apply al_old))
  obtain ⟨p0, p1, p2, _⟩ := hbox
  have m1 := fun (W : World) (hx : Ext w W) => c_heldFloat32S (w := W) (c := cp) (k0 := k0) (hp.below (hx.mono hB)) s1 (by omega)
  have m2 := fun (W : World) (hx : Ext w W) => c_heldFloat32SS (w := W) (c := ct) (k0 := k0 + G.p.length) (hr.below (hx.mono hB)) rfl s2 s3 (by omega)
  obtain ⟨K1, hK1⟩ : ∃ K1, k0 + G.p.length = K1 := ⟨_, rfl⟩
  obtain ⟨K2, hK2⟩ : ∃ K2, K1 + tot G.r = K2 := ⟨_, rfl⟩
  rw [hK1] at m1 m2
  rw [hK2] at m2
  have M1 := Lib.hid m1
  have M2 := Lib.hid m2
  have hn1 : ¬ ((K1 : Int) < 0) := by omega
  have hn2 : ¬ ((K2 : Int) < 0) := by omega
  have HK1 := Lib.hid hK1
  have HK2 := Lib.hid hK2
  clear m1 m2 hp hr hK1 hK2
  go_enter Try.func60, Try.ntmps60
  go_wp2_with (first | (go_at_call 36; refine Calls.mono (M1.out _ (by repeat (first | assumption | exact Ext.refl _ | apply Ext.drewN | apply Ext.drew | apply Ext.alloc | (refine Ext.trans ?_ (by assumption)) | (refine Ext.set ?_ (by dsimp only; omega) _)))) ?_; rintro e w2 ⟨rfl, rfl⟩) | (go_at_call 102; refine Calls.mono (M2.out _ (by repeat (first | assumption | exact Ext.refl _ | apply Ext.drewN | apply Ext.drew | apply Ext.alloc | (refine Ext.trans ?_ (by assumption)) | (refine Ext.set ?_ (by dsimp only; omega) _)))) ?_; rintro e w3 ⟨rfl, rfl⟩))
  go_ret
  exact ⟨by rw [HK1.out, HK2.out]; rfl, (by repeat (first | assumption | exact Ext.refl _ | apply Ext.drewN | apply Ext.drew | apply Ext.alloc | (refine Ext.trans ?_ (by assumption)) | (refine Ext.set ?_ (by dsimp only; omega) _)))⟩
end Go.Proofs.Ytkbkjkjjoogieaa
