/- Contracts: all traces of a gather become others, the reference. Condition: the gather is valid. -/
import Derived.Test.YtceldjkgddbfaaaZa
import Derived.Test.YtceldjkgddbfaaaWd
import Derived.Test.YtceldjkgddbfaaaYd
namespace Go.Proofs.Ytceldjkgddbfaaa
open Go.RowKit Ieee

theorem OwF.new {w : World} {base n : Nat} {v : Value} {F : Nat → Option Nat} (h : OwF w base v n F) (hn : 0 < n) : ∃ b c, v = .slice (some ⟨b, 0, none⟩) n c ∧ n ≤ c ∧ base ≤ b ∧ b < w.heap.size ∧ OwL w b (b + 1) (some ⟨b, 0, none⟩) n (lst F n) := by
  obtain ⟨xs, ho, hx⟩ := h.own
  obtain ⟨hlen, hd⟩ := ho
  rcases hd with ⟨hv, rfl⟩ | ⟨g, cap, cur, hv, hb, hg, hnc, _, hcs, htk⟩
  · omega
  · refine ⟨g, cap, hv, hnc, hb, blk_lt hg, lst_len _ _, .inr ⟨g, 0, cur, rfl, Nat.le_refl _, Nat.lt_succ_self _, hg, by omega, fun j hj => ?_⟩⟩
    obtain ⟨r, h1, h2⟩ := hx j hj
    refine ⟨r, ?_, by rw [lst_at hj]; exact h2⟩
    rw [← htk, List.getElem?_take_of_lt (by omega)] at h1
    rw [Nat.zero_add]
    simpa using h1
/-- All traces of a gather become others. -/
def allF (q : List (Option Nat) → Option Nat → Option Nat → Nat → Option Nat) (V : Option Nat) (G : Gat) (j : Nat) : List (Option Nat) := lst (q (G.r.getD j []) (G.p.getD j none) V) (G.r.getD j []).length
def allG (q : List (Option Nat) → Option Nat → Option Nat → Nat → Option Nat) (V : Option Nat) (G : Gat) : Gat := ⟨G.t, G.p, lstS (allF q V G) G.r.length⟩
set_option linter.unusedSimpArgs false in
set_option maxRecDepth 20000 in
set_option maxHeartbeats 40000000 in
theorem c_l04All_corr {w : World} {B b n m cp ct : Nat} {Ap At : Option Addr} {G : Gat} (hb : GbAt w b G.t Ap n cp At m ct) (hp0 : RdF w B Ap n G.p) (hr0 : RdS w B At m G.r) (hB : B ≤ w.heap.size) (hV : VG G) {s : Nat} {S : Option Nat} (fs : Fl .f32 s S) :
    Calls Try.prog 74 #[.pointer (some ⟨b, 0, none⟩), .float .f32 s, .bool false] w fun e w' => ∃ v, e = .returned v ∧ OwG w' w.heap.size w'.heap.size v (allG fcorr S G) ∧ Ext w w' := by
  have hpl := hp0.len
  have hrl := hr0.len
  have hn1 := hV.n1
  have hn2 := hV.n2
  have hmn := hV.m
  rw [hpl] at hn1 hn2 hmn
  rw [hrl] at hmn
  obtain rfl : m = n := hmn
  have hrw : ∀ j, j < m → 1 ≤ (G.r.getD j []).length ∧ (G.r.getD j []).length ≤ 64 := fun j hj => by
    have h1 := hV.row j (by omega)
    have h2 := hV.t1
    have h3 := hV.t2
    omega
  have hbl := hb.lt
  have HOWN := Lib.hid (fun (W : World) (hW : Ext w W) => c_l04Own (w := W) (hb.ext hW) (hp0.below (hW.mono hB)) (hr0.below (hW.mono hB)) (Nat.le_trans hB hW.size) (by omega) (by omega) (fun j hj => by have := hrw j hj; omega) hn1 hn1 (fun j hj => (hrw j hj).1))
  have HRW := Lib.hid hrw
  have HPL := Lib.hid hpl
  have HRL := Lib.hid hrl
  have HB := Lib.hid hb
  have HP := Lib.hid hp0
  have HR := Lib.hid hr0
  clear hV hpl hrl hrw hb hp0 hr0
  go_enter Try.func74, Try.ntmps74
  go_wp2_with (go_at_call 66; refine Calls.mono (HOWN.out _ (by repeat (first | assumption | exact Ext.refl _ | apply Ext.drewN | apply Ext.drew | apply Ext.alloc | (refine Ext.trans ?_ (by assumption)) | (refine Ext.set ?_ (by dsimp only; omega) _)))) ?_; rintro e w2 ⟨x, rfl, ho, hx2⟩; obtain ⟨Ap2, cp2, At2, ct2, gp, g, f, hv, hop⟩ := ho.inP; rw [HPL.out, HRL.out] at hv hop; subst hv)
  have hx02 : Ext w w2 := (Ext.alloc (Ext.refl w) _).trans hx2
  have hzb := hx2.blk (heap_alloc_new w (.cells #[.int .i64 0, .slice none 0 0, .slice none 0 0] 25))
  have hz2 := hx2.size
  rw [al_size] at hz2 hop
  have hgb := hop.g_in.resolve_left (by omega)
  have HOP := Lib.hid hop
  have HZB := Lib.hid hzb
  clear hop hzb ho
  go_loopw [8] (fun y wr => ∃ (k : Nat) (f' : Nat → Nat) (R' : List (List (Option Nat))), k ≤ m ∧ y = .int .i64 k ∧ wr.heap[w2.heap.size]? = some (.cells #[.int .i64 G.t, .slice Ap2 m cp2, .slice At2 m ct2] 25 (0, 0)) ∧ wr.heap[w.heap.size]? = some (.cells #[.int .i64 0, .slice none 0 0, .slice none 0 0] 25 (0, 0)) ∧ OwP wr (w.heap.size + 1) wr.heap.size Ap2 m cp2 At2 m ct2 gp g f' G.p R' ∧ (∀ j, j < k → R'.getD j [] = allF fcorr S G j) ∧ Ext w wr) (fun y _ => m - (intOf y).toNat)
  case atStart => exact ⟨0, f, G.r, Nat.zero_le _, rfl, (by first | exact heap_alloc_new w2 _ | exact blk_set1 (blk_set1 (blk_set1 (heap_alloc_new w2 _) 0 _) 1 _) 2 _), (by repeat (first | exact HZB.out | apply al_old | (refine set_other ?_ (by dsimp only; omega)))), ((HOP.out.ext (Nat.le_refl _) (by repeat (first | assumption | exact Ext.refl _ | apply Ext.drewN | apply Ext.drew | apply Ext.alloc | (refine Ext.trans ?_ (by assumption)) | (refine Ext.set ?_ (by dsimp only; omega) _)))).more (Nat.le_refl _) (by simp)), fun j hj => absurd hj (Nat.not_lt_zero _), (by repeat (first | assumption | exact Ext.refl _ | apply Ext.drewN | apply Ext.drew | apply Ext.alloc | (refine Ext.trans ?_ (by assumption)) | (refine Ext.set ?_ (by dsimp only; omega) _)))⟩
  case round =>
    obtain ⟨k, f', R', hk, rfl, hbX, hzX, hop, hpt, hx⟩ := hrel
    have HBX := Lib.hid hbX
    have HZX := Lib.hid hzX
    have HPT := Lib.hid hpt
    have HOQ := Lib.hid hop
    have hs2 := blk_lt hbX
    by_cases hlt : k < m
    · have hlt' : (k : Int) < (m : Int) := by omega
      obtain ⟨b1, o1, A', c', rfl, hb1, hc1, hrd, hlc⟩ := (HR.out.below (hx.mono hB)).cell hlt
      obtain ⟨b3, o3, t3, rfl, hb3, hc3, ht3⟩ := (HP.out.below (hx.mono hB)).cell hlt
      obtain ⟨off, A4, c4, rfl, hc4, hz4, _⟩ := hop.row hlt
      obtain ⟨g1, g2⟩ := HRW.out k hlt
      obtain ⟨Lk, hLk⟩ : ∃ x, (G.r.getD k []).length = x := ⟨_, rfl⟩
      rw [hLk] at hc1 hrd hlc g1 g2
      have HLK := Lib.hid hLk
      have hblr : b < wr.heap.size := Nat.lt_of_lt_of_le hbl hx.size
      have hb1r : b1 < wr.heap.size := by have := hx.size; omega
      have hb3r : b3 < wr.heap.size := by have := hx.size; omega
      have p1r : wr.cell? ⟨b, 1, none⟩ = some (.slice (some ⟨b3, o3, none⟩) m cp) := (hx.cell hbl).trans HB.out.p1
      have p2r : wr.cell? ⟨b, 2, none⟩ = some (.slice (some ⟨b1, o1, none⟩) m ct) := (hx.cell hbl).trans HB.out.p2
      have HRO := Lib.hid (fun (W : World) (hW : Ext wr W) => c_loop_l04Correct (w := W) (c := c') (hrd.below (hW.mono (Nat.le_trans hB hx.size))) (Nat.le_trans hB (hx.trans hW).size) g1 g2 ht3 fs)
      have hRl := hop.sp.len
      have HRLn := Lib.hid hRl
      obtain ⟨d0, d1, d2, y0, y1, y2⟩ := three_c hbX
      clear hbX hzX hpt hop hrd hLk hc4 hz4 hRl
      go_wp2_with (fail)
      refine wp_region_any (by kernel_rfl) ?_
      refine wpAny_mo_go (md := .any) (R := Ext) (w := wr) [(0, 39), (1, 40), (2, 41), (3, 42), (4, 43), (5, 44), (6, 45), (7, 46), (8, 47), (9, 48), (10, 49), (11, 50), (12, 51), (13, 52), (14, 53), (15, 54), (16, 55), (17, 56), (18, 57)] [19, 20] (tl := [_, _]) (S := ?S1_) (by kernel_rfl) (by rfl) (by rfl) Ext.refl ext_tr (ext_drew1 _) ?hS1_ ?go1_
      case hS1_ => intro vs; simp only [putAll, Act.put, List.setIfInBounds_toArray, List.set_cons_zero, List.set_cons_succ]; rfl
      case go1_ =>
      refine mo_fix _ (by rfl) (by rfl) (by intro vs w1 hx_ hd; have q0 := (three_c (hx_.blk HBX.out)).2.2.1; have q1 := (hx_.cell (p := ⟨b, 1, none⟩) hblr).trans p1r; have q2 := (hx_.cell (p := ⟨b, 2, none⟩) hblr).trans p2r; have q3 := (hx_.cell (p := ⟨b1, o1 + k, none⟩) hb1r).trans hc1; have q4 := (hx_.cell (p := ⟨b3, o3 + k, none⟩) hb3r).trans hc3; go_simp; first | done | rfl) ?_
      refine mo_fix _ (by rfl) (by rfl) (by intro vs w1 hx_ hd; have q0 := (three_c (hx_.blk HBX.out)).2.2.1; have q1 := (hx_.cell (p := ⟨b, 1, none⟩) hblr).trans p1r; have q2 := (hx_.cell (p := ⟨b, 2, none⟩) hblr).trans p2r; have q3 := (hx_.cell (p := ⟨b1, o1 + k, none⟩) hb1r).trans hc1; have q4 := (hx_.cell (p := ⟨b3, o3 + k, none⟩) hb3r).trans hc3; have e0 := hd 0 (by kernel_rfl); simp (decide := true) only [factAt, if_true, if_false] at e0; simp only [e0]; go_simp; first | done | rfl) ?_
      refine mo_fix _ (by rfl) (by rfl) (by intro vs w1 hx_ hd; have q0 := (three_c (hx_.blk HBX.out)).2.2.1; have q1 := (hx_.cell (p := ⟨b, 1, none⟩) hblr).trans p1r; have q2 := (hx_.cell (p := ⟨b, 2, none⟩) hblr).trans p2r; have q3 := (hx_.cell (p := ⟨b1, o1 + k, none⟩) hb1r).trans hc1; have q4 := (hx_.cell (p := ⟨b3, o3 + k, none⟩) hb3r).trans hc3; go_simp; first | done | rfl) ?_
      refine mo_fix _ (by rfl) (by rfl) (by intro vs w1 hx_ hd; have q0 := (three_c (hx_.blk HBX.out)).2.2.1; have q1 := (hx_.cell (p := ⟨b, 1, none⟩) hblr).trans p1r; have q2 := (hx_.cell (p := ⟨b, 2, none⟩) hblr).trans p2r; have q3 := (hx_.cell (p := ⟨b1, o1 + k, none⟩) hb1r).trans hc1; have q4 := (hx_.cell (p := ⟨b3, o3 + k, none⟩) hb3r).trans hc3; go_simp; first | done | rfl) ?_
      refine mo_fix _ (by rfl) (by rfl) (by intro vs w1 hx_ hd; have q0 := (three_c (hx_.blk HBX.out)).2.2.1; have q1 := (hx_.cell (p := ⟨b, 1, none⟩) hblr).trans p1r; have q2 := (hx_.cell (p := ⟨b, 2, none⟩) hblr).trans p2r; have q3 := (hx_.cell (p := ⟨b1, o1 + k, none⟩) hb1r).trans hc1; have q4 := (hx_.cell (p := ⟨b3, o3 + k, none⟩) hb3r).trans hc3; have e3 := hd 3 (by kernel_rfl); simp (decide := true) only [factAt, if_true, if_false] at e3; simp only [e3]; go_simp; first | done | rfl) ?_
      refine mo_fix _ (by rfl) (by rfl) (by intro vs w1 hx_ hd; have q0 := (three_c (hx_.blk HBX.out)).2.2.1; have q1 := (hx_.cell (p := ⟨b, 1, none⟩) hblr).trans p1r; have q2 := (hx_.cell (p := ⟨b, 2, none⟩) hblr).trans p2r; have q3 := (hx_.cell (p := ⟨b1, o1 + k, none⟩) hb1r).trans hc1; have q4 := (hx_.cell (p := ⟨b3, o3 + k, none⟩) hb3r).trans hc3; have e4 := hd 4 (by kernel_rfl); simp (decide := true) only [factAt, if_true, if_false] at e4; simp only [e4]; go_simp; first | done | rfl) ?_
      refine mo_fix _ (by rfl) (by rfl) (by intro vs w1 hx_ hd; have q0 := (three_c (hx_.blk HBX.out)).2.2.1; have q1 := (hx_.cell (p := ⟨b, 1, none⟩) hblr).trans p1r; have q2 := (hx_.cell (p := ⟨b, 2, none⟩) hblr).trans p2r; have q3 := (hx_.cell (p := ⟨b1, o1 + k, none⟩) hb1r).trans hc1; have q4 := (hx_.cell (p := ⟨b3, o3 + k, none⟩) hb3r).trans hc3; have e5 := hd 5 (by kernel_rfl); simp (decide := true) only [factAt, if_true, if_false] at e5; simp only [e5]; go_simp; first | done | rfl) ?_
      refine mo_fix _ (by rfl) (by rfl) (by intro vs w1 hx_ hd; have q0 := (three_c (hx_.blk HBX.out)).2.2.1; have q1 := (hx_.cell (p := ⟨b, 1, none⟩) hblr).trans p1r; have q2 := (hx_.cell (p := ⟨b, 2, none⟩) hblr).trans p2r; have q3 := (hx_.cell (p := ⟨b1, o1 + k, none⟩) hb1r).trans hc1; have q4 := (hx_.cell (p := ⟨b3, o3 + k, none⟩) hb3r).trans hc3; go_simp; first | done | rfl) ?_
      refine mo_fix _ (by rfl) (by rfl) (by intro vs w1 hx_ hd; have q0 := (three_c (hx_.blk HBX.out)).2.2.1; have q1 := (hx_.cell (p := ⟨b, 1, none⟩) hblr).trans p1r; have q2 := (hx_.cell (p := ⟨b, 2, none⟩) hblr).trans p2r; have q3 := (hx_.cell (p := ⟨b1, o1 + k, none⟩) hb1r).trans hc1; have q4 := (hx_.cell (p := ⟨b3, o3 + k, none⟩) hb3r).trans hc3; have e6 := hd 6 (by kernel_rfl); have e7 := hd 7 (by kernel_rfl); simp (decide := true) only [factAt, if_true, if_false] at e6 e7; simp only [e6, e7]; go_simp; first | done | rfl) ?_
      refine mo_fix _ (by rfl) (by rfl) (by intro vs w1 hx_ hd; have q0 := (three_c (hx_.blk HBX.out)).2.2.1; have q1 := (hx_.cell (p := ⟨b, 1, none⟩) hblr).trans p1r; have q2 := (hx_.cell (p := ⟨b, 2, none⟩) hblr).trans p2r; have q3 := (hx_.cell (p := ⟨b1, o1 + k, none⟩) hb1r).trans hc1; have q4 := (hx_.cell (p := ⟨b3, o3 + k, none⟩) hb3r).trans hc3; have e8 := hd 8 (by kernel_rfl); simp (decide := true) only [factAt, if_true, if_false] at e8; simp only [e8]; go_simp; first | done | rfl) ?_
      refine mo_fix _ (by rfl) (by rfl) (by intro vs w1 hx_ hd; have q0 := (three_c (hx_.blk HBX.out)).2.2.1; have q1 := (hx_.cell (p := ⟨b, 1, none⟩) hblr).trans p1r; have q2 := (hx_.cell (p := ⟨b, 2, none⟩) hblr).trans p2r; have q3 := (hx_.cell (p := ⟨b1, o1 + k, none⟩) hb1r).trans hc1; have q4 := (hx_.cell (p := ⟨b3, o3 + k, none⟩) hb3r).trans hc3; go_simp; first | done | rfl) ?_
      refine mo_fix _ (by rfl) (by rfl) (by intro vs w1 hx_ hd; have q0 := (three_c (hx_.blk HBX.out)).2.2.1; have q1 := (hx_.cell (p := ⟨b, 1, none⟩) hblr).trans p1r; have q2 := (hx_.cell (p := ⟨b, 2, none⟩) hblr).trans p2r; have q3 := (hx_.cell (p := ⟨b1, o1 + k, none⟩) hb1r).trans hc1; have q4 := (hx_.cell (p := ⟨b3, o3 + k, none⟩) hb3r).trans hc3; have e10 := hd 10 (by kernel_rfl); simp (decide := true) only [factAt, if_true, if_false] at e10; simp only [e10]; go_simp; first | done | rfl) ?_
      refine mo_fix _ (by rfl) (by rfl) (by intro vs w1 hx_ hd; have q0 := (three_c (hx_.blk HBX.out)).2.2.1; have q1 := (hx_.cell (p := ⟨b, 1, none⟩) hblr).trans p1r; have q2 := (hx_.cell (p := ⟨b, 2, none⟩) hblr).trans p2r; have q3 := (hx_.cell (p := ⟨b1, o1 + k, none⟩) hb1r).trans hc1; have q4 := (hx_.cell (p := ⟨b3, o3 + k, none⟩) hb3r).trans hc3; have e11 := hd 11 (by kernel_rfl); simp (decide := true) only [factAt, if_true, if_false] at e11; simp only [e11]; go_simp; first | done | rfl) ?_
      refine mo_fix _ (by rfl) (by rfl) (by intro vs w1 hx_ hd; have q0 := (three_c (hx_.blk HBX.out)).2.2.1; have q1 := (hx_.cell (p := ⟨b, 1, none⟩) hblr).trans p1r; have q2 := (hx_.cell (p := ⟨b, 2, none⟩) hblr).trans p2r; have q3 := (hx_.cell (p := ⟨b1, o1 + k, none⟩) hb1r).trans hc1; have q4 := (hx_.cell (p := ⟨b3, o3 + k, none⟩) hb3r).trans hc3; have e12 := hd 12 (by kernel_rfl); simp (decide := true) only [factAt, if_true, if_false] at e12; simp only [e12]; go_simp; first | done | rfl) ?_
      refine mo_fix _ (by rfl) (by rfl) (by intro vs w1 hx_ hd; have q0 := (three_c (hx_.blk HBX.out)).2.2.1; have q1 := (hx_.cell (p := ⟨b, 1, none⟩) hblr).trans p1r; have q2 := (hx_.cell (p := ⟨b, 2, none⟩) hblr).trans p2r; have q3 := (hx_.cell (p := ⟨b1, o1 + k, none⟩) hb1r).trans hc1; have q4 := (hx_.cell (p := ⟨b3, o3 + k, none⟩) hb3r).trans hc3; go_simp; first | done | rfl) ?_
      refine mo_fix _ (by rfl) (by rfl) (by intro vs w1 hx_ hd; have q0 := (three_c (hx_.blk HBX.out)).2.2.1; have q1 := (hx_.cell (p := ⟨b, 1, none⟩) hblr).trans p1r; have q2 := (hx_.cell (p := ⟨b, 2, none⟩) hblr).trans p2r; have q3 := (hx_.cell (p := ⟨b1, o1 + k, none⟩) hb1r).trans hc1; have q4 := (hx_.cell (p := ⟨b3, o3 + k, none⟩) hb3r).trans hc3; have e13 := hd 13 (by kernel_rfl); have e14 := hd 14 (by kernel_rfl); simp (decide := true) only [factAt, if_true, if_false] at e13 e14; simp only [e13, e14]; go_simp; first | done | rfl) ?_
      refine mo_fix _ (by rfl) (by rfl) (by intro vs w1 hx_ hd; have q0 := (three_c (hx_.blk HBX.out)).2.2.1; have q1 := (hx_.cell (p := ⟨b, 1, none⟩) hblr).trans p1r; have q2 := (hx_.cell (p := ⟨b, 2, none⟩) hblr).trans p2r; have q3 := (hx_.cell (p := ⟨b1, o1 + k, none⟩) hb1r).trans hc1; have q4 := (hx_.cell (p := ⟨b3, o3 + k, none⟩) hb3r).trans hc3; have e15 := hd 15 (by kernel_rfl); simp (decide := true) only [factAt, if_true, if_false] at e15; simp only [e15]; go_simp; first | done | rfl) ?_
      refine mo_fix _ (by rfl) (by rfl) (by intro vs w1 hx_ hd; have q0 := (three_c (hx_.blk HBX.out)).2.2.1; have q1 := (hx_.cell (p := ⟨b, 1, none⟩) hblr).trans p1r; have q2 := (hx_.cell (p := ⟨b, 2, none⟩) hblr).trans p2r; have q3 := (hx_.cell (p := ⟨b1, o1 + k, none⟩) hb1r).trans hc1; have q4 := (hx_.cell (p := ⟨b3, o3 + k, none⟩) hb3r).trans hc3; go_simp; first | done | rfl) ?_
      refine mo_call (fun v w => ∃ b9 c9, v = .slice (some ⟨b9, 0, none⟩) Lk c9 ∧ Lk ≤ c9 ∧ wr.heap.size ≤ b9 ∧ b9 < w.heap.size ∧ OwL w b9 (b9 + 1) (some ⟨b9, 0, none⟩) Lk (lst (fcorr (G.r.getD k []) (G.p.getD k none) S) Lk)) (by rfl) (by rfl) (by rintro v wa wb ⟨b9, c9, h1, h2, h3, h4, h5⟩ hxab; exact ⟨b9, c9, h1, h2, h3, Nat.lt_of_lt_of_le h4 hxab.size, h5.ext (by omega) hxab⟩) (by intro vs w1 hx_ hd; have e9 := hd 9 (by kernel_rfl); have e16 := hd 16 (by kernel_rfl); have e17 := hd 17 (by kernel_rfl); simp (decide := true) only [factAt, if_true, if_false] at e9 e16 e17; simp only [e9, e16, e17]; refine ⟨_, _, by go_simp; first | done | rfl | exact ⟨rfl, rfl⟩, ?_⟩; refine Calls.mono (HRO.out w1 hx_) ?_; rintro e w5 ⟨v, rfl, ho5, hx5⟩; obtain ⟨b9, c9, rfl, h2, h3, h4, h5⟩ := ho5.new g1; exact ⟨_, rfl, ⟨b9, c9, rfl, h2, Nat.le_trans hx_.size h3, h4, h5⟩, hx5⟩) ?_
      refine mo_end ?_
      intro vs w3 hx3 hd
      have e1 := hd 1 (by kernel_rfl)
      have e2 := hd 2 (by kernel_rfl)
      have e18 := hd 18 (by kernel_rfl)
      simp (decide := true) only [factAt, if_true, if_false] at e1 e2 e18
      obtain ⟨b9, c9, e18, h2, h3, h4, h5⟩ := e18
      have hll : (lst (fcorr (G.r.getD k []) (G.p.getD k none) S) Lk).length = Lk := lst_len _ _
      obtain ⟨off', u, hA4, hc4, hz4, hput⟩ := HOQ.out.put (A' := some ⟨b9, 0, none⟩) (c' := c9) (row := lst (fcorr (G.r.getD k []) (G.p.getD k none) S) Lk) hx3 (Nat.le_refl _) hlt (by rw [hll]; exact h5) (by rw [hll]; exact h2) h3 h4 (by have := hx.size; omega) hn1
      obtain rfl : off = off' := by simpa using hA4
      rw [hll] at hput
      have HPUT := Lib.hid hput
      have HBX3 := Lib.hid (hx3.blk HBX.out)
      have HZX3 := Lib.hid (hx3.blk HZX.out)
      simp only [e1, e2, e18]
      clear hd hput h5 hll e1 e2 e18
      go_wp2_with (fail)
      exact ⟨⟨k + 1, fun j => if j = k then b9 else f' j, R'.set k (lst (fcorr (G.r.getD k []) (G.p.getD k none) S) Lk), by omega, by go_num, set_other HBX3.out (by dsimp only; omega), set_other HZX3.out (by dsimp only; omega), HPUT.out.more (Nat.le_refl _) (by simp), fun j hj => by
        by_cases hjk : j = k
        · subst hjk
          rw [getD_set_at (by rw [HRLn.out]; exact hlt)]
          unfold allF
          rw [HLK.out]
        · rw [getD_set_no hjk]; exact HPT.out j (by omega), Ext.set (hx.trans hx3) (by dsimp only; omega) _⟩, by simp [intOf]; omega⟩
    · obtain rfl : k = m := by omega
      have p2r : wr.cell? ⟨b, 2, none⟩ = some (.slice At k ct) := (hx.cell hbl).trans HB.out.p2
      obtain ⟨d0, d1, d2, y0, y1, y2⟩ := three_c hbX
      obtain ⟨c0', c1', c2', x0, x1, x2⟩ := three_c hzX
      have hR : R' = lstS (allF fcorr S G) k := lstS_all hop.sp.len hpt
      have hG : OwG wr (w.heap.size + 1) wr.heap.size (.agg #[.int .i64 G.t, .slice Ap2 k cp2, .slice At2 k ct2]) (allG fcorr S G) := by
        have h1 := hop.toG (t := G.t)
        rw [hR] at h1
        unfold allG
        rw [HRL.out]
        exact h1
      have HG := Lib.hid hG
      have HBZ := Lib.hid (fun u0 u1 u2 => blk_set1 (blk_set1 (blk_set1 hzX 0 u0) 1 u1) 2 u2)
      clear hG hbX hzX hpt hop hR
      go_wp2_with (fail)
      (try simp only [Exit.inBlock, Exit.then])
      refine bodyPost_ret (results_cell_row rfl _ _ w.heap.size 25 #[.int .i64 G.t, .slice Ap2 k cp2, .slice At2 k ct2] (0, 0) _ rfl (HBZ.out _ _ _) Try.underlying25 rfl (by kernel_rfl)) rfl ?_
      exact ⟨_, rfl, by
        refine OwG.more (lo := w.heap.size + 1) (hi := wr.heap.size) ?_ (by omega) (by simp)
        repeat (first | exact HG.out | (refine OwG.setOther ?_ (by left; dsimp only; omega) _)), (by repeat (first | assumption | exact Ext.refl _ | apply Ext.drewN | apply Ext.drew | apply Ext.alloc | (refine Ext.trans ?_ (by assumption)) | (refine Ext.set ?_ (by dsimp only; omega) _)))⟩
set_option linter.unusedSimpArgs false in
set_option maxRecDepth 20000 in
set_option maxHeartbeats 40000000 in
theorem c_l04All_bend {w : World} {B b n m cp ct : Nat} {Ap At : Option Addr} {G : Gat} (hb : GbAt w b G.t Ap n cp At m ct) (hp0 : RdF w B Ap n G.p) (hr0 : RdS w B At m G.r) (hB : B ≤ w.heap.size) (hV : VG G) {s : Nat} {S : Option Nat} (fs : Fl .f32 s S) :
    Calls Try.prog 74 #[.pointer (some ⟨b, 0, none⟩), .float .f32 s, .bool true] w fun e w' => ∃ v, e = .returned v ∧ OwG w' w.heap.size w'.heap.size v (allG fbend S G) ∧ Ext w w' := by
  have hpl := hp0.len
  have hrl := hr0.len
  have hn1 := hV.n1
  have hn2 := hV.n2
  have hmn := hV.m
  rw [hpl] at hn1 hn2 hmn
  rw [hrl] at hmn
  obtain rfl : m = n := hmn
  have hrw : ∀ j, j < m → 1 ≤ (G.r.getD j []).length ∧ (G.r.getD j []).length ≤ 64 := fun j hj => by
    have h1 := hV.row j (by omega)
    have h2 := hV.t1
    have h3 := hV.t2
    omega
  have hbl := hb.lt
  have HOWN := Lib.hid (fun (W : World) (hW : Ext w W) => c_l04Own (w := W) (hb.ext hW) (hp0.below (hW.mono hB)) (hr0.below (hW.mono hB)) (Nat.le_trans hB hW.size) (by omega) (by omega) (fun j hj => by have := hrw j hj; omega) hn1 hn1 (fun j hj => (hrw j hj).1))
  have HRW := Lib.hid hrw
  have HPL := Lib.hid hpl
  have HRL := Lib.hid hrl
  have HB := Lib.hid hb
  have HP := Lib.hid hp0
  have HR := Lib.hid hr0
  clear hV hpl hrl hrw hb hp0 hr0
  go_enter Try.func74, Try.ntmps74
  go_wp2_with (go_at_call 66; refine Calls.mono (HOWN.out _ (by repeat (first | assumption | exact Ext.refl _ | apply Ext.drewN | apply Ext.drew | apply Ext.alloc | (refine Ext.trans ?_ (by assumption)) | (refine Ext.set ?_ (by dsimp only; omega) _)))) ?_; rintro e w2 ⟨x, rfl, ho, hx2⟩; obtain ⟨Ap2, cp2, At2, ct2, gp, g, f, hv, hop⟩ := ho.inP; rw [HPL.out, HRL.out] at hv hop; subst hv)
  have hx02 : Ext w w2 := (Ext.alloc (Ext.refl w) _).trans hx2
  have hzb := hx2.blk (heap_alloc_new w (.cells #[.int .i64 0, .slice none 0 0, .slice none 0 0] 25))
  have hz2 := hx2.size
  rw [al_size] at hz2 hop
  have hgb := hop.g_in.resolve_left (by omega)
  have HOP := Lib.hid hop
  have HZB := Lib.hid hzb
  clear hop hzb ho
  go_loopw [8] (fun y wr => ∃ (k : Nat) (f' : Nat → Nat) (R' : List (List (Option Nat))), k ≤ m ∧ y = .int .i64 k ∧ wr.heap[w2.heap.size]? = some (.cells #[.int .i64 G.t, .slice Ap2 m cp2, .slice At2 m ct2] 25 (0, 0)) ∧ wr.heap[w.heap.size]? = some (.cells #[.int .i64 0, .slice none 0 0, .slice none 0 0] 25 (0, 0)) ∧ OwP wr (w.heap.size + 1) wr.heap.size Ap2 m cp2 At2 m ct2 gp g f' G.p R' ∧ (∀ j, j < k → R'.getD j [] = allF fbend S G j) ∧ Ext w wr) (fun y _ => m - (intOf y).toNat)
  case atStart => exact ⟨0, f, G.r, Nat.zero_le _, rfl, (by first | exact heap_alloc_new w2 _ | exact blk_set1 (blk_set1 (blk_set1 (heap_alloc_new w2 _) 0 _) 1 _) 2 _), (by repeat (first | exact HZB.out | apply al_old | (refine set_other ?_ (by dsimp only; omega)))), ((HOP.out.ext (Nat.le_refl _) (by repeat (first | assumption | exact Ext.refl _ | apply Ext.drewN | apply Ext.drew | apply Ext.alloc | (refine Ext.trans ?_ (by assumption)) | (refine Ext.set ?_ (by dsimp only; omega) _)))).more (Nat.le_refl _) (by simp)), fun j hj => absurd hj (Nat.not_lt_zero _), (by repeat (first | assumption | exact Ext.refl _ | apply Ext.drewN | apply Ext.drew | apply Ext.alloc | (refine Ext.trans ?_ (by assumption)) | (refine Ext.set ?_ (by dsimp only; omega) _)))⟩
  case round =>
    obtain ⟨k, f', R', hk, rfl, hbX, hzX, hop, hpt, hx⟩ := hrel
    have HBX := Lib.hid hbX
    have HZX := Lib.hid hzX
    have HPT := Lib.hid hpt
    have HOQ := Lib.hid hop
    have hs2 := blk_lt hbX
    by_cases hlt : k < m
    · have hlt' : (k : Int) < (m : Int) := by omega
      obtain ⟨b1, o1, A', c', rfl, hb1, hc1, hrd, hlc⟩ := (HR.out.below (hx.mono hB)).cell hlt
      obtain ⟨b3, o3, t3, rfl, hb3, hc3, ht3⟩ := (HP.out.below (hx.mono hB)).cell hlt
      obtain ⟨off, A4, c4, rfl, hc4, hz4, _⟩ := hop.row hlt
      obtain ⟨g1, g2⟩ := HRW.out k hlt
      obtain ⟨Lk, hLk⟩ : ∃ x, (G.r.getD k []).length = x := ⟨_, rfl⟩
      rw [hLk] at hc1 hrd hlc g1 g2
      have HLK := Lib.hid hLk
      have hblr : b < wr.heap.size := Nat.lt_of_lt_of_le hbl hx.size
      have hb1r : b1 < wr.heap.size := by have := hx.size; omega
      have hb3r : b3 < wr.heap.size := by have := hx.size; omega
      have p1r : wr.cell? ⟨b, 1, none⟩ = some (.slice (some ⟨b3, o3, none⟩) m cp) := (hx.cell hbl).trans HB.out.p1
      have p2r : wr.cell? ⟨b, 2, none⟩ = some (.slice (some ⟨b1, o1, none⟩) m ct) := (hx.cell hbl).trans HB.out.p2
      have HRO := Lib.hid (fun (W : World) (hW : Ext wr W) => c_loop_l04Bend (w := W) (c := c') (hrd.below (hW.mono (Nat.le_trans hB hx.size))) (Nat.le_trans hB (hx.trans hW).size) g1 g2 ht3 fs)
      have hRl := hop.sp.len
      have HRLn := Lib.hid hRl
      obtain ⟨d0, d1, d2, y0, y1, y2⟩ := three_c hbX
      clear hbX hzX hpt hop hrd hLk hc4 hz4 hRl
      go_wp2_with (fail)
      refine wp_region_any (by kernel_rfl) ?_
      refine wpAny_mo_go (md := .any) (R := Ext) (w := wr) [(0, 19), (1, 20), (2, 21), (3, 22), (4, 23), (5, 24), (6, 25), (7, 26), (8, 27), (9, 28), (10, 29), (11, 30), (12, 31), (13, 32), (14, 33), (15, 34), (16, 35), (17, 36), (18, 37)] [19, 20] (tl := [_, _]) (S := ?S2_) (by kernel_rfl) (by rfl) (by rfl) Ext.refl ext_tr (ext_drew1 _) ?hS2_ ?go2_
      case hS2_ => intro vs; simp only [putAll, Act.put, List.setIfInBounds_toArray, List.set_cons_zero, List.set_cons_succ]; rfl
      case go2_ =>
      refine mo_fix _ (by rfl) (by rfl) (by intro vs w1 hx_ hd; have q0 := (three_c (hx_.blk HBX.out)).2.2.1; have q1 := (hx_.cell (p := ⟨b, 1, none⟩) hblr).trans p1r; have q2 := (hx_.cell (p := ⟨b, 2, none⟩) hblr).trans p2r; have q3 := (hx_.cell (p := ⟨b1, o1 + k, none⟩) hb1r).trans hc1; have q4 := (hx_.cell (p := ⟨b3, o3 + k, none⟩) hb3r).trans hc3; go_simp; first | done | rfl) ?_
      refine mo_fix _ (by rfl) (by rfl) (by intro vs w1 hx_ hd; have q0 := (three_c (hx_.blk HBX.out)).2.2.1; have q1 := (hx_.cell (p := ⟨b, 1, none⟩) hblr).trans p1r; have q2 := (hx_.cell (p := ⟨b, 2, none⟩) hblr).trans p2r; have q3 := (hx_.cell (p := ⟨b1, o1 + k, none⟩) hb1r).trans hc1; have q4 := (hx_.cell (p := ⟨b3, o3 + k, none⟩) hb3r).trans hc3; have e0 := hd 0 (by kernel_rfl); simp (decide := true) only [factAt, if_true, if_false] at e0; simp only [e0]; go_simp; first | done | rfl) ?_
      refine mo_fix _ (by rfl) (by rfl) (by intro vs w1 hx_ hd; have q0 := (three_c (hx_.blk HBX.out)).2.2.1; have q1 := (hx_.cell (p := ⟨b, 1, none⟩) hblr).trans p1r; have q2 := (hx_.cell (p := ⟨b, 2, none⟩) hblr).trans p2r; have q3 := (hx_.cell (p := ⟨b1, o1 + k, none⟩) hb1r).trans hc1; have q4 := (hx_.cell (p := ⟨b3, o3 + k, none⟩) hb3r).trans hc3; go_simp; first | done | rfl) ?_
      refine mo_fix _ (by rfl) (by rfl) (by intro vs w1 hx_ hd; have q0 := (three_c (hx_.blk HBX.out)).2.2.1; have q1 := (hx_.cell (p := ⟨b, 1, none⟩) hblr).trans p1r; have q2 := (hx_.cell (p := ⟨b, 2, none⟩) hblr).trans p2r; have q3 := (hx_.cell (p := ⟨b1, o1 + k, none⟩) hb1r).trans hc1; have q4 := (hx_.cell (p := ⟨b3, o3 + k, none⟩) hb3r).trans hc3; go_simp; first | done | rfl) ?_
      refine mo_fix _ (by rfl) (by rfl) (by intro vs w1 hx_ hd; have q0 := (three_c (hx_.blk HBX.out)).2.2.1; have q1 := (hx_.cell (p := ⟨b, 1, none⟩) hblr).trans p1r; have q2 := (hx_.cell (p := ⟨b, 2, none⟩) hblr).trans p2r; have q3 := (hx_.cell (p := ⟨b1, o1 + k, none⟩) hb1r).trans hc1; have q4 := (hx_.cell (p := ⟨b3, o3 + k, none⟩) hb3r).trans hc3; have e3 := hd 3 (by kernel_rfl); simp (decide := true) only [factAt, if_true, if_false] at e3; simp only [e3]; go_simp; first | done | rfl) ?_
      refine mo_fix _ (by rfl) (by rfl) (by intro vs w1 hx_ hd; have q0 := (three_c (hx_.blk HBX.out)).2.2.1; have q1 := (hx_.cell (p := ⟨b, 1, none⟩) hblr).trans p1r; have q2 := (hx_.cell (p := ⟨b, 2, none⟩) hblr).trans p2r; have q3 := (hx_.cell (p := ⟨b1, o1 + k, none⟩) hb1r).trans hc1; have q4 := (hx_.cell (p := ⟨b3, o3 + k, none⟩) hb3r).trans hc3; have e4 := hd 4 (by kernel_rfl); simp (decide := true) only [factAt, if_true, if_false] at e4; simp only [e4]; go_simp; first | done | rfl) ?_
      refine mo_fix _ (by rfl) (by rfl) (by intro vs w1 hx_ hd; have q0 := (three_c (hx_.blk HBX.out)).2.2.1; have q1 := (hx_.cell (p := ⟨b, 1, none⟩) hblr).trans p1r; have q2 := (hx_.cell (p := ⟨b, 2, none⟩) hblr).trans p2r; have q3 := (hx_.cell (p := ⟨b1, o1 + k, none⟩) hb1r).trans hc1; have q4 := (hx_.cell (p := ⟨b3, o3 + k, none⟩) hb3r).trans hc3; have e5 := hd 5 (by kernel_rfl); simp (decide := true) only [factAt, if_true, if_false] at e5; simp only [e5]; go_simp; first | done | rfl) ?_
      refine mo_fix _ (by rfl) (by rfl) (by intro vs w1 hx_ hd; have q0 := (three_c (hx_.blk HBX.out)).2.2.1; have q1 := (hx_.cell (p := ⟨b, 1, none⟩) hblr).trans p1r; have q2 := (hx_.cell (p := ⟨b, 2, none⟩) hblr).trans p2r; have q3 := (hx_.cell (p := ⟨b1, o1 + k, none⟩) hb1r).trans hc1; have q4 := (hx_.cell (p := ⟨b3, o3 + k, none⟩) hb3r).trans hc3; go_simp; first | done | rfl) ?_
      refine mo_fix _ (by rfl) (by rfl) (by intro vs w1 hx_ hd; have q0 := (three_c (hx_.blk HBX.out)).2.2.1; have q1 := (hx_.cell (p := ⟨b, 1, none⟩) hblr).trans p1r; have q2 := (hx_.cell (p := ⟨b, 2, none⟩) hblr).trans p2r; have q3 := (hx_.cell (p := ⟨b1, o1 + k, none⟩) hb1r).trans hc1; have q4 := (hx_.cell (p := ⟨b3, o3 + k, none⟩) hb3r).trans hc3; have e6 := hd 6 (by kernel_rfl); have e7 := hd 7 (by kernel_rfl); simp (decide := true) only [factAt, if_true, if_false] at e6 e7; simp only [e6, e7]; go_simp; first | done | rfl) ?_
      refine mo_fix _ (by rfl) (by rfl) (by intro vs w1 hx_ hd; have q0 := (three_c (hx_.blk HBX.out)).2.2.1; have q1 := (hx_.cell (p := ⟨b, 1, none⟩) hblr).trans p1r; have q2 := (hx_.cell (p := ⟨b, 2, none⟩) hblr).trans p2r; have q3 := (hx_.cell (p := ⟨b1, o1 + k, none⟩) hb1r).trans hc1; have q4 := (hx_.cell (p := ⟨b3, o3 + k, none⟩) hb3r).trans hc3; have e8 := hd 8 (by kernel_rfl); simp (decide := true) only [factAt, if_true, if_false] at e8; simp only [e8]; go_simp; first | done | rfl) ?_
      refine mo_fix _ (by rfl) (by rfl) (by intro vs w1 hx_ hd; have q0 := (three_c (hx_.blk HBX.out)).2.2.1; have q1 := (hx_.cell (p := ⟨b, 1, none⟩) hblr).trans p1r; have q2 := (hx_.cell (p := ⟨b, 2, none⟩) hblr).trans p2r; have q3 := (hx_.cell (p := ⟨b1, o1 + k, none⟩) hb1r).trans hc1; have q4 := (hx_.cell (p := ⟨b3, o3 + k, none⟩) hb3r).trans hc3; go_simp; first | done | rfl) ?_
      refine mo_fix _ (by rfl) (by rfl) (by intro vs w1 hx_ hd; have q0 := (three_c (hx_.blk HBX.out)).2.2.1; have q1 := (hx_.cell (p := ⟨b, 1, none⟩) hblr).trans p1r; have q2 := (hx_.cell (p := ⟨b, 2, none⟩) hblr).trans p2r; have q3 := (hx_.cell (p := ⟨b1, o1 + k, none⟩) hb1r).trans hc1; have q4 := (hx_.cell (p := ⟨b3, o3 + k, none⟩) hb3r).trans hc3; have e10 := hd 10 (by kernel_rfl); simp (decide := true) only [factAt, if_true, if_false] at e10; simp only [e10]; go_simp; first | done | rfl) ?_
      refine mo_fix _ (by rfl) (by rfl) (by intro vs w1 hx_ hd; have q0 := (three_c (hx_.blk HBX.out)).2.2.1; have q1 := (hx_.cell (p := ⟨b, 1, none⟩) hblr).trans p1r; have q2 := (hx_.cell (p := ⟨b, 2, none⟩) hblr).trans p2r; have q3 := (hx_.cell (p := ⟨b1, o1 + k, none⟩) hb1r).trans hc1; have q4 := (hx_.cell (p := ⟨b3, o3 + k, none⟩) hb3r).trans hc3; have e11 := hd 11 (by kernel_rfl); simp (decide := true) only [factAt, if_true, if_false] at e11; simp only [e11]; go_simp; first | done | rfl) ?_
      refine mo_fix _ (by rfl) (by rfl) (by intro vs w1 hx_ hd; have q0 := (three_c (hx_.blk HBX.out)).2.2.1; have q1 := (hx_.cell (p := ⟨b, 1, none⟩) hblr).trans p1r; have q2 := (hx_.cell (p := ⟨b, 2, none⟩) hblr).trans p2r; have q3 := (hx_.cell (p := ⟨b1, o1 + k, none⟩) hb1r).trans hc1; have q4 := (hx_.cell (p := ⟨b3, o3 + k, none⟩) hb3r).trans hc3; have e12 := hd 12 (by kernel_rfl); simp (decide := true) only [factAt, if_true, if_false] at e12; simp only [e12]; go_simp; first | done | rfl) ?_
      refine mo_fix _ (by rfl) (by rfl) (by intro vs w1 hx_ hd; have q0 := (three_c (hx_.blk HBX.out)).2.2.1; have q1 := (hx_.cell (p := ⟨b, 1, none⟩) hblr).trans p1r; have q2 := (hx_.cell (p := ⟨b, 2, none⟩) hblr).trans p2r; have q3 := (hx_.cell (p := ⟨b1, o1 + k, none⟩) hb1r).trans hc1; have q4 := (hx_.cell (p := ⟨b3, o3 + k, none⟩) hb3r).trans hc3; go_simp; first | done | rfl) ?_
      refine mo_fix _ (by rfl) (by rfl) (by intro vs w1 hx_ hd; have q0 := (three_c (hx_.blk HBX.out)).2.2.1; have q1 := (hx_.cell (p := ⟨b, 1, none⟩) hblr).trans p1r; have q2 := (hx_.cell (p := ⟨b, 2, none⟩) hblr).trans p2r; have q3 := (hx_.cell (p := ⟨b1, o1 + k, none⟩) hb1r).trans hc1; have q4 := (hx_.cell (p := ⟨b3, o3 + k, none⟩) hb3r).trans hc3; have e13 := hd 13 (by kernel_rfl); have e14 := hd 14 (by kernel_rfl); simp (decide := true) only [factAt, if_true, if_false] at e13 e14; simp only [e13, e14]; go_simp; first | done | rfl) ?_
      refine mo_fix _ (by rfl) (by rfl) (by intro vs w1 hx_ hd; have q0 := (three_c (hx_.blk HBX.out)).2.2.1; have q1 := (hx_.cell (p := ⟨b, 1, none⟩) hblr).trans p1r; have q2 := (hx_.cell (p := ⟨b, 2, none⟩) hblr).trans p2r; have q3 := (hx_.cell (p := ⟨b1, o1 + k, none⟩) hb1r).trans hc1; have q4 := (hx_.cell (p := ⟨b3, o3 + k, none⟩) hb3r).trans hc3; have e15 := hd 15 (by kernel_rfl); simp (decide := true) only [factAt, if_true, if_false] at e15; simp only [e15]; go_simp; first | done | rfl) ?_
      refine mo_fix _ (by rfl) (by rfl) (by intro vs w1 hx_ hd; have q0 := (three_c (hx_.blk HBX.out)).2.2.1; have q1 := (hx_.cell (p := ⟨b, 1, none⟩) hblr).trans p1r; have q2 := (hx_.cell (p := ⟨b, 2, none⟩) hblr).trans p2r; have q3 := (hx_.cell (p := ⟨b1, o1 + k, none⟩) hb1r).trans hc1; have q4 := (hx_.cell (p := ⟨b3, o3 + k, none⟩) hb3r).trans hc3; go_simp; first | done | rfl) ?_
      refine mo_call (fun v w => ∃ b9 c9, v = .slice (some ⟨b9, 0, none⟩) Lk c9 ∧ Lk ≤ c9 ∧ wr.heap.size ≤ b9 ∧ b9 < w.heap.size ∧ OwL w b9 (b9 + 1) (some ⟨b9, 0, none⟩) Lk (lst (fbend (G.r.getD k []) (G.p.getD k none) S) Lk)) (by rfl) (by rfl) (by rintro v wa wb ⟨b9, c9, h1, h2, h3, h4, h5⟩ hxab; exact ⟨b9, c9, h1, h2, h3, Nat.lt_of_lt_of_le h4 hxab.size, h5.ext (by omega) hxab⟩) (by intro vs w1 hx_ hd; have e9 := hd 9 (by kernel_rfl); have e16 := hd 16 (by kernel_rfl); have e17 := hd 17 (by kernel_rfl); simp (decide := true) only [factAt, if_true, if_false] at e9 e16 e17; simp only [e9, e16, e17]; refine ⟨_, _, by go_simp; first | done | rfl | exact ⟨rfl, rfl⟩, ?_⟩; refine Calls.mono (HRO.out w1 hx_) ?_; rintro e w5 ⟨v, rfl, ho5, hx5⟩; obtain ⟨b9, c9, rfl, h2, h3, h4, h5⟩ := ho5.new g1; exact ⟨_, rfl, ⟨b9, c9, rfl, h2, Nat.le_trans hx_.size h3, h4, h5⟩, hx5⟩) ?_
      refine mo_end ?_
      intro vs w3 hx3 hd
      have e1 := hd 1 (by kernel_rfl)
      have e2 := hd 2 (by kernel_rfl)
      have e18 := hd 18 (by kernel_rfl)
      simp (decide := true) only [factAt, if_true, if_false] at e1 e2 e18
      obtain ⟨b9, c9, e18, h2, h3, h4, h5⟩ := e18
      have hll : (lst (fbend (G.r.getD k []) (G.p.getD k none) S) Lk).length = Lk := lst_len _ _
      obtain ⟨off', u, hA4, hc4, hz4, hput⟩ := HOQ.out.put (A' := some ⟨b9, 0, none⟩) (c' := c9) (row := lst (fbend (G.r.getD k []) (G.p.getD k none) S) Lk) hx3 (Nat.le_refl _) hlt (by rw [hll]; exact h5) (by rw [hll]; exact h2) h3 h4 (by have := hx.size; omega) hn1
      obtain rfl : off = off' := by simpa using hA4
      rw [hll] at hput
      have HPUT := Lib.hid hput
      have HBX3 := Lib.hid (hx3.blk HBX.out)
      have HZX3 := Lib.hid (hx3.blk HZX.out)
      simp only [e1, e2, e18]
      clear hd hput h5 hll e1 e2 e18
      go_wp2_with (fail)
      exact ⟨⟨k + 1, fun j => if j = k then b9 else f' j, R'.set k (lst (fbend (G.r.getD k []) (G.p.getD k none) S) Lk), by omega, by go_num, set_other HBX3.out (by dsimp only; omega), set_other HZX3.out (by dsimp only; omega), HPUT.out.more (Nat.le_refl _) (by simp), fun j hj => by
        by_cases hjk : j = k
        · subst hjk
          rw [getD_set_at (by rw [HRLn.out]; exact hlt)]
          unfold allF
          rw [HLK.out]
        · rw [getD_set_no hjk]; exact HPT.out j (by omega), Ext.set (hx.trans hx3) (by dsimp only; omega) _⟩, by simp [intOf]; omega⟩
    · obtain rfl : k = m := by omega
      have p2r : wr.cell? ⟨b, 2, none⟩ = some (.slice At k ct) := (hx.cell hbl).trans HB.out.p2
      obtain ⟨d0, d1, d2, y0, y1, y2⟩ := three_c hbX
      obtain ⟨c0', c1', c2', x0, x1, x2⟩ := three_c hzX
      have hR : R' = lstS (allF fbend S G) k := lstS_all hop.sp.len hpt
      have hG : OwG wr (w.heap.size + 1) wr.heap.size (.agg #[.int .i64 G.t, .slice Ap2 k cp2, .slice At2 k ct2]) (allG fbend S G) := by
        have h1 := hop.toG (t := G.t)
        rw [hR] at h1
        unfold allG
        rw [HRL.out]
        exact h1
      have HG := Lib.hid hG
      have HBZ := Lib.hid (fun u0 u1 u2 => blk_set1 (blk_set1 (blk_set1 hzX 0 u0) 1 u1) 2 u2)
      clear hG hbX hzX hpt hop hR
      go_wp2_with (fail)
      (try simp only [Exit.inBlock, Exit.then])
      refine bodyPost_ret (results_cell_row rfl _ _ w.heap.size 25 #[.int .i64 G.t, .slice Ap2 k cp2, .slice At2 k ct2] (0, 0) _ rfl (HBZ.out _ _ _) Try.underlying25 rfl (by kernel_rfl)) rfl ?_
      exact ⟨_, rfl, by
        refine OwG.more (lo := w.heap.size + 1) (hi := wr.heap.size) ?_ (by omega) (by simp)
        repeat (first | exact HG.out | (refine OwG.setOther ?_ (by left; dsimp only; omega) _)), (by repeat (first | assumption | exact Ext.refl _ | apply Ext.drewN | apply Ext.drew | apply Ext.alloc | (refine Ext.trans ?_ (by assumption)) | (refine Ext.set ?_ (by dsimp only; omega) _)))⟩
end Go.Proofs.Ytceldjkgddbfaaa
