/- Contracts: whether a gather is valid, on both sides. Condition: the gather is read. -/
import Derived.Test.YtkbkjkjjoogieaaYb
import Derived.Test.YtkbkjkjjoogieaaWb
import Derived.Deep.QuietTactic
import Derived.BigQuiet
namespace Go.Proofs.Ytkbkjkjjoogieaa
open Go.RowKit Ieee

def plen (n : Nat) : Bool := decide (1 ≤ n) && decide (n ≤ 16)
theorem plen_lo {n : Nat} (h : n < 1) : plen n = false := by unfold plen; rw [decide_eq_false (by omega : ¬ 1 ≤ n)]; rfl
theorem plen_hi {n : Nat} (h : 16 < n) : plen n = false := by unfold plen; rw [decide_eq_false (by omega : ¬ n ≤ 16)]; simp
theorem plen_yes {n : Nat} (h1 : 1 ≤ n) (h2 : n ≤ 16) : plen n = true := by unfold plen; rw [decide_eq_true h1, decide_eq_true h2]; rfl
theorem plen_of {n : Nat} (h : plen n = true) : 1 ≤ n ∧ n ≤ 16 := by
  unfold plen at h; rw [Bool.and_eq_true] at h; exact ⟨of_decide_eq_true h.1, of_decide_eq_true h.2⟩
theorem plen_not {n : Nat} (h : plen n = false) : n < 1 ∨ 16 < n := by
  rcases Nat.lt_or_ge n 1 with h1 | h1
  · exact .inl h1
  · rcases Nat.lt_or_ge 16 n with h2 | h2
    · exact .inr h2
    · rw [plen_yes h1 h2] at h; cases h
def rowOk (t : Int) (l : List (Option Nat)) : Bool := decide ((l.length : Int) = t)
def rowsOk (t : Int) (R : List (List (Option Nat))) : Bool := R.all (rowOk t)
theorem rowsOk_no {t : Int} {R : List (List (Option Nat))} {k : Nat} (h : k < R.length) (hf : rowOk t (R.getD k []) = false) : rowsOk t R = false := by
  rw [Bool.eq_false_iff]
  intro ha
  unfold rowsOk at ha
  rw [List.all_eq_true] at ha
  have := ha (R.getD k []) (by simp [List.getD, h])
  rw [hf] at this; cases this
theorem rowsOk_step {t : Int} {R : List (List (Option Nat))} {k : Nat} (h : k < R.length) (ha : rowsOk t (R.take k) = true) (hf : rowOk t (R.getD k []) = true) : rowsOk t (R.take (k + 1)) = true := by
  unfold rowsOk at *
  rw [take_succ_getD R [] k h, List.all_append, ha]; simpa using hf
theorem rowsOk_end {t : Int} {R : List (List (Option Nat))} {n : Nat} (h : R.length = n) (ha : rowsOk t (R.take n) = true) : rowsOk t R = true := by
  rwa [List.take_of_length_le (by omega)] at ha
theorem rowsOk_at {t : Int} {R : List (List (Option Nat))} {k : Nat} (h : k < R.length) (ha : rowsOk t R = true) : ((R.getD k []).length : Int) = t := by
  unfold rowsOk at ha
  rw [List.all_eq_true] at ha
  exact of_decide_eq_true (ha (R.getD k []) (by simp [List.getD, h]))
theorem rowOk_yes {t : Int} {l : List (Option Nat)} (h : (l.length : Int) = t) : rowOk t l = true := decide_eq_true h
theorem rowOk_not {t : Int} {l : List (Option Nat)} (h : rowOk t l = false) : (l.length : Int) ≠ t := of_decide_eq_false h
theorem rowOk_of {t : Int} {l : List (Option Nat)} (h : rowOk t l = true) : (l.length : Int) = t := of_decide_eq_true h
/-- A gather is valid. -/
def fvG (G : Gat) : Bool := inB G.t 1 64 && (plen G.p.length && (allL (ffin .f32) G.p && (same2 G.r.length G.p.length && rowsOk G.t G.r)))
theorem fvG_t {G : Gat} (h : inB G.t 1 64 = false) : fvG G = false := by unfold fvG; rw [h]; rfl
theorem fvG_n {G : Gat} (h : plen G.p.length = false) : fvG G = false := by unfold fvG; rw [h]; simp
theorem fvG_p {G : Gat} (h : allL (ffin .f32) G.p = false) : fvG G = false := by unfold fvG; rw [h]; simp
theorem fvG_m {G : Gat} (h : same2 G.r.length G.p.length = false) : fvG G = false := by unfold fvG; rw [h]; simp
theorem fvG_r {G : Gat} (h : rowsOk G.t G.r = false) : fvG G = false := by unfold fvG; rw [h]; simp
theorem fvG_yes {G : Gat} (h1 : inB G.t 1 64 = true) (h2 : plen G.p.length = true) (h3 : allL (ffin .f32) G.p = true) (h4 : same2 G.r.length G.p.length = true) (h5 : rowsOk G.t G.r = true) : fvG G = true := by
  unfold fvG; rw [h1, h2, h3, h4, h5]; rfl
/-- What a valid gather has. -/
structure VG (G : Gat) : Prop where
  t1 : 1 ≤ G.t
  t2 : G.t ≤ 64
  n1 : 1 ≤ G.p.length
  n2 : G.p.length ≤ 16
  fin : allL (ffin .f32) G.p = true
  m : G.r.length = G.p.length
  row : ∀ k, k < G.r.length → ((G.r.getD k []).length : Int) = G.t
theorem fvG_of {G : Gat} (h : fvG G = true) : VG G := by
  unfold fvG at h
  simp only [Bool.and_eq_true] at h
  obtain ⟨h1, h2, h3, h4, h5⟩ := h
  exact ⟨(inB_of h1).1, (inB_of h1).2, (plen_of h2).1, (plen_of h2).2, h3, same2_of h4, fun k hk => rowsOk_at hk h5⟩

set_option maxRecDepth 20000 in
set_option maxHeartbeats 4000000 in
theorem c_l04Places {w : World} {B n c : Nat} {A : Option Addr} {L : List (Option Nat)} (h : RdF w B A n L) (hn : n ≤ 1048576) :
    Calls Try.prog 121 #[.slice A n c] w fun e w' => e = .returned (.bool (plen n && allL (ffin .f32) L)) ∧ Dr w w' := by
  rcases Nat.lt_or_ge n 1 with g1 | g1
  · rw [plen_lo g1]
    obtain rfl : n = 0 := by omega
    go_enter Try.func121, Try.ntmps121
    go_wp2_with (fail)
    go_ret
    exact ⟨rfl, 0, rfl⟩
  rcases Nat.lt_or_ge 16 n with g2 | g2
  · rw [plen_hi g2]
    have i1 : ¬ (n : Int) < 1 := by omega
    have i2 : (16 : Int) < n := by omega
    clear g1 g2
    go_enter Try.func121, Try.ntmps121
    go_wp2_with (fail)
    go_ret
    exact ⟨rfl, 0, rfl⟩
  rw [plen_yes g1 g2, Bool.true_and]
  have i1 : ¬ (n : Int) < 1 := by omega
  have i2 : ¬ (16 : Int) < n := by omega
  have hl := Lib.hid h.len
  clear g1 g2
  go_enter Try.func121, Try.ntmps121
  go_wp2_with (fail)
  go_loopw [3] (fun i wr => ∃ k : Nat, k ≤ n ∧ i = .int .i64 k ∧ allL (ffin .f32) (L.take k) = true ∧ Dr w wr) (fun i _ => n - (intOf i).toNat)
  case atStart => exact ⟨0, Nat.zero_le _, rfl, rfl, 0, rfl⟩
  case round =>
    obtain ⟨k, hk, rfl, ha, m, rfl⟩ := hrel
    have HA := Lib.hid ha
    clear ha
    by_cases hlt : k < n
    · have hlt' : (k : Int) < (n : Int) := by omega
      obtain ⟨b1, o1, t1, rfl, hb1, hc1, ht1⟩ := h.cell hlt
      cases hF : ffin .f32 (L.getD k none)
      · have hend := Lib.hid (allL_no (L := L) (k := k) (by have := hl.out; omega) hF).symm
        go_wp2_with (go_at_call 122; refine Calls.mono (c_l01Finite ht1 _) ?_; rw [hF]; rintro e w' ⟨rfl, n1, rfl⟩)
        go_ret
        exact ⟨retb hend.out, _, rfl⟩
      · have hst := Lib.hid (allL_step (L := L) (k := k) (by have := hl.out; omega) HA.out hF)
        go_wp2_with (go_at_call 122; refine Calls.mono (c_l01Finite ht1 _) ?_; rw [hF]; rintro e w' ⟨rfl, n1, rfl⟩)
        exact ⟨⟨k + 1, by omega, by go_num, hst.out, _, rfl⟩, by simp [intOf]; omega⟩
    · obtain rfl : k = n := by omega
      have hend := Lib.hid (allL_end hl.out HA.out).symm
      go_wp2_with (fail)
      go_ret
      exact ⟨retb hend.out, _, rfl⟩
set_option maxRecDepth 20000 in
set_option maxHeartbeats 8000000 in
theorem c_l04Is {w : World} {B b np cp nt ct : Nat} {G : Gat} {Ap At : Option Addr} (hb : GbAt w b G.t Ap np cp At nt ct) (hp : RdF w B Ap np G.p) (hr : RdS w B At nt G.r) (h1 : np ≤ 1048576) (h2 : nt ≤ 1048576) (h3 : ∀ j, j < nt → (G.r.getD j []).length ≤ 1048576) :
    Calls Try.prog 91 #[.pointer (some ⟨b, 0, none⟩)] w fun e w' => e = .returned (.bool (fvG G)) ∧ Dr w w' := by
  have p0 := hb.p0
  have p1 := hb.p1
  have p2 := hb.p2
  have ln := hp.len
  have lm := hr.len
  have cT : ∀ W, Calls Try.prog 120 #[.int .i64 G.t] W fun e w' => e = .returned (.bool (inB G.t 1 64)) ∧ w' = W := fun W => Calls.mono (c_l04Ticks _ W) (fun _ _ h => ⟨h.1, h.2.symm⟩)
  have cP : ∀ m, Calls Try.prog 121 #[.slice Ap np cp] (w.drewN m) fun e w' => e = .returned (.bool (plen np && allL (ffin .f32) G.p)) ∧ ∃ q, w' = (w.drewN m).drewN q := fun m => c_l04Places (hp.drewN m) h1
  cases hT : inB G.t 1 64
  · rw [fvG_t hT]
    rw [hT] at cT
    go_enter Try.func91, Try.ntmps91
    go_wp2_with (fail)
    go_quiet (first | (go_at_call 120; exact Calls.quiet_of_same (cT _)))
    go_wp2_with (fail)
    go_ret
    exact ⟨rfl, _, rfl⟩
  rw [hT] at cT
  cases hP : (plen np && allL (ffin .f32) G.p)
  · have hend : fvG G = false := by
      rw [Bool.and_eq_false_iff] at hP
      rcases hP with h | h
      · exact fvG_n (by rw [ln]; exact h)
      · exact fvG_p h
    rw [hend]
    clear hend
    rw [hP] at cP
    go_enter Try.func91, Try.ntmps91
    go_wp2_with (fail)
    go_quiet (first | (go_at_call 120; exact Calls.quiet_of_same (cT _)) | (go_at_call 121; exact Calls.quiet_of (cP _)))
    go_wp2_with (fail)
    go_ret
    exact ⟨rfl, _, rfl⟩
  rw [hP] at cP
  cases hM : same2 nt np
  · have hend : fvG G = false := fvG_m (by rw [lm, ln]; exact hM)
    rw [hend]
    have hne := same2_not hM
    have hne' : ¬ ((nt : Int) = (np : Int)) := by omega
    have hne2 : decide ((nt : Int) = (np : Int)) = false := decide_eq_false hne'
    have hne3 : decide (nt = np) = false := decide_eq_false hne
    clear hend hM
    go_enter Try.func91, Try.ntmps91
    go_wp2_with (fail)
    go_quiet (first | (go_at_call 120; exact Calls.quiet_of_same (cT _)) | (go_at_call 121; exact Calls.quiet_of (cP _)))
    go_wp2_with (fail)
    go_ret
    exact ⟨rfl, _, rfl⟩
  have hmm := same2_of hM
  subst hmm
  have LN := Lib.hid ln
  have LM := Lib.hid lm
  have hPP := hP
  rw [Bool.and_eq_true] at hPP
  have HP := Lib.hid hPP
  have H3 := Lib.hid h3
  clear ln lm hM hPP h3
  go_enter Try.func91, Try.ntmps91
  go_wp2_with (fail)
  go_quiet (first | (go_at_call 120; exact Calls.quiet_of_same (cT _)) | (go_at_call 121; exact Calls.quiet_of (cP _)))
  go_wp2_with (fail)
  go_loopw [3] (fun i wr => ∃ k : Nat, k ≤ nt ∧ i = .int .i64 k ∧ rowsOk G.t (G.r.take k) = true ∧ Dr w wr) (fun i _ => nt - (intOf i).toNat)
  case atStart => exact ⟨0, Nat.zero_le _, rfl, rfl, _, rfl⟩
  case round =>
    obtain ⟨k, hk, rfl, ha, m, rfl⟩ := hrel
    have HA := Lib.hid ha
    clear ha
    by_cases hlt : k < nt
    · have hlt' : (k : Int) < (nt : Int) := by omega
      obtain ⟨b1, o1, A1, c1, rfl, hb1, hc1, hr1, hl1⟩ := hr.cell hlt
      have hkl : k < G.r.length := by rw [LM.out]; exact hlt
      have hlk := H3.out k hlt
      cases hF : rowOk G.t (G.r.getD k [])
      · have hend := Lib.hid (fvG_r (rowsOk_no (R := G.r) (k := k) hkl hF)).symm
        have hne := rowOk_not hF
        obtain ⟨Lk, hLk⟩ : ∃ x, (G.r.getD k []).length = x := ⟨_, rfl⟩
        rw [hLk] at hc1 hne hlk
        have hne2 := decide_eq_false hne
        clear hF hr1 hl1 hLk
        go_wp2_with (fail)
        go_quiet (fail)
        go_wp2_with (fail)
        go_ret
        exact ⟨retb hend.out, _, World.drewN_drewN _ _ _⟩
      · have hst := Lib.hid (rowsOk_step (R := G.r) (k := k) hkl HA.out hF)
        have hne := rowOk_of hF
        obtain ⟨Lk, hLk⟩ : ∃ x, (G.r.getD k []).length = x := ⟨_, rfl⟩
        rw [hLk] at hc1 hne hlk
        clear hF hr1 hl1 hLk
        go_wp2_with (fail)
        go_quiet (fail)
        go_wp2_with (fail)
        any_goals exact ⟨⟨k + 1, by omega, by go_num, hst.out, _, rfl⟩, by simp [intOf]; omega⟩
    · obtain rfl : k = nt := by omega
      have hend := Lib.hid (fvG_yes hT (by rw [LN.out]; exact HP.out.1) HP.out.2 (by rw [LN.out, LM.out]; exact same2_yes rfl) (rowsOk_end LM.out HA.out)).symm
      go_wp2_with (fail)
      go_ret
      exact ⟨retb hend.out, _, rfl⟩
set_option maxRecDepth 20000 in
set_option maxHeartbeats 400000 in
theorem c_isPlaces (n : Nat) (w : World) : Calls Try.prog 124 #[.int .i64 (n : Int)] w fun e w' => e = .returned (.bool (plen n)) ∧ w = w' := by
  rcases Nat.lt_or_ge n 1 with g1 | g1
  · rw [plen_lo g1]
    have i1 : ¬ (1 : Int) ≤ (n : Int) := by omega
    clear g1
    go_enter Try.func124, Try.ntmps124
    go_wp2_with (fail)
    go_ret
    exact ⟨rfl, rfl⟩
  rcases Nat.lt_or_ge 16 n with g2 | g2
  · rw [plen_hi g2]
    have i1 : (1 : Int) ≤ (n : Int) := by omega
    have i2 : ¬ (n : Int) ≤ 16 := by omega
    clear g1 g2
    go_enter Try.func124, Try.ntmps124
    go_wp2_with (fail)
    go_ret
    exact ⟨rfl, rfl⟩
  rw [plen_yes g1 g2]
  have i1 : (1 : Int) ≤ (n : Int) := by omega
  have i2 : (n : Int) ≤ 16 := by omega
  clear g1 g2
  go_enter Try.func124, Try.ntmps124
  go_wp2_with (fail)
  go_ret
  exact ⟨rfl, rfl⟩
end Go.Proofs.Ytkbkjkjjoogieaa
