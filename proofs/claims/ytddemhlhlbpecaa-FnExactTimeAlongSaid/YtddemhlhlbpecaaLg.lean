/- The time of a path in a section, both sides. No condition for both. -/
import Derived.Test.YtddemhlhlbpecaaLf
import Derived.Test.YtddemhlhlbpecaaXb
namespace Go.Proofs.Ytddemhlhlbpecaa
open Go.RowKit Ieee
set_option linter.unusedVariables false
set_option linter.unusedSimpArgs false

/-- A sum of products, in order. -/
def tsum (L M : List (Option Nat)) : Nat → Option Nat
  | 0 => fz
  | k + 1 => fop .add .f32 (tsum L M k) (fop .mul .f32 (L.getD k none) (M.getD k none))
set_option maxRecDepth 20000 in
set_option maxHeartbeats 4000000 in
theorem c_sumProducts32 {w : World} {B n c : Nat} {A : Option Addr} {L : List (Option Nat)} (h : RdF w B A n L) (hn : n ≤ 1048576) {B' n' c' : Nat} {A' : Option Addr} {M : List (Option Nat)} (h' : RdF w B' A' n' M) (hn' : n ≤ n') (hm : n' ≤ 1048576) :
    Calls Try.prog 127 #[.slice A n c, .slice A' n' c'] w fun e w' => ∃ r, e = .returned (.float .f32 r) ∧ Fl .f32 r (tsum L M n) ∧ Dr w w' := by
  go_enter Try.func127, Try.ntmps127
  go_wp2_with (fail)
  go_loopw [5, 10] (fun s y wr => ∃ (k r q : Nat), k ≤ n ∧ y = .int .i64 k ∧ s = .float .f32 r ∧ Fl .f32 r (tsum L M k) ∧ wr = w.drewN q) (fun _ y _ => n - (intOf y).toNat)
  case atStart => exact ⟨0, 0, 0, Nat.zero_le _, rfl, rfl, fl_fz, rfl⟩
  case round =>
    obtain ⟨k, r, q, hk, rfl, rfl, hr, rfl⟩ := hrel
    by_cases hlt : k < n
    · obtain ⟨b1, o1, t1, rfl, hb1, hc1, ht1⟩ := (h.drewN q).cell hlt
      obtain ⟨b2, o2, t2, rfl, hb2, hc2, ht2⟩ := (h'.drewN q).cell (Nat.lt_of_lt_of_le hlt hn')
      have hlt' : (k : Int) < (n : Int) := by omega
      have hlt2 : (k : Int) < (n' : Int) := by omega
      have HT := Lib.hid (show tsum L M (k + 1) = fop .add .f32 (tsum L M k) (fop .mul .f32 (L.getD k none) (M.getD k none)) from rfl)
      go_wp2_with (first | (apply upon_fop rfl; (exact ht1); (exact ht2); intro r5 n5 hr5) | (apply upon_fop rfl; (exact hr); (exact hr5); intro r6 n6 hr6; rw [← HT.out] at hr6))
      exact ⟨⟨k + 1, r6, _, by omega, by go_num, rfl, hr6, rfl⟩, by simp [intOf]; omega⟩
    · obtain rfl : k = n := by omega
      go_wp2_with (fail)
      go_ret
      exact ⟨_, rfl, hr, _, rfl⟩
set_option maxRecDepth 20000 in
set_option maxHeartbeats 400000 in
theorem c_timeAlong {w : World} {B n c : Nat} {A : Option Addr} {L : List (Option Nat)} (h : RdF w B A n L) (hn : n ≤ 1048576) {B' c' : Nat} {A' : Option Addr} {M : List (Option Nat)} (h' : RdF w B' A' n M) :
    Calls Try.prog 72 #[.slice A' n c', .slice A n c] w fun e w' => ∃ r, e = .returned (.float .f32 r) ∧ Fl .f32 r (tsum L M n) ∧ Dr w w' := by
  go_enter Try.func72, Try.ntmps72
  go_wp2_with (go_at_call 127; refine Calls.mono (c_sumProducts32 h hn h' (Nat.le_refl _) hn) ?_; rintro e w1 ⟨r1, rfl, hr1, n1, rfl⟩)
  go_ret
  exact ⟨_, rfl, hr1, _, rfl⟩
set_option maxRecDepth 20000 in
set_option maxHeartbeats 4000000 in
theorem c_l06Time {w : World} {b n c : Nat} {A : Option Addr} {x z : Int} (hb : SbAt w b x z A n c) {B : Nat} {M : List (Option Nat)} (hp : RdF w B A n M) {B' c' : Nat} {A' : Option Addr} {L : List (Option Nat)} (h' : RdF w B' A' n L) (hn : n ≤ 1048576) :
    Calls Try.prog 69 #[.pointer (some ⟨b, 0, none⟩), .slice A' n c'] w fun e w' => ∃ r, e = .returned (.float .f32 r) ∧ Fl .f32 r (tsum L M n) ∧ Dr w w' := by
  obtain ⟨p0, p1, p2, hbl⟩ := hb
  go_enter Try.func69, Try.ntmps69
  go_wp2_with (fail)
  go_loopw [5, 6] (fun s y wr => ∃ (k r : Nat), k ≤ n ∧ y = .int .i64 k ∧ s = .float .f32 r ∧ Fl .f32 r (tsum L M k) ∧ Dr w wr) (fun _ y _ => n - (intOf y).toNat)
  case atStart => exact ⟨0, 0, Nat.zero_le _, rfl, rfl, fl_fz, 0, rfl⟩
  case round =>
    obtain ⟨k, r, hk, rfl, rfl, hr, hdr⟩ := hrel
    have hxr := Lib.hid hdr
    have hh := h'
    have hpp := hp
    have hbb : SbAt w b x z A n c := ⟨p0, p1, p2, hbl⟩
    obtain ⟨q, hq⟩ := hdr
    replace hh := hh.drewN q
    replace hpp := hpp.drewN q
    replace hbb := hbb.ext (w' := w.drewN q) (by repeat (first | assumption | exact Ext.refl _ | apply Ext.drewN | apply Ext.drew | apply Ext.alloc | (refine Ext.trans ?_ (by assumption)) | (refine Ext.set ?_ (by dsimp only; omega) _)))
    rw [← hq] at hh hpp hbb
    obtain ⟨d0, d1, d2, _⟩ := hbb
    clear hq
    by_cases hlt : k < n
    · obtain ⟨b1, o1, t1, hA1, hb1, hc1, ht1⟩ := hh.cell hlt
      obtain ⟨b2, o2, t2, hA2, hb2, hc2, ht2⟩ := hpp.cell hlt
      have hlt' : (k : Int) < (n : Int) := by omega
      subst hA1 hA2
      have HT := Lib.hid (show tsum L M (k + 1) = fop .add .f32 (tsum L M k) (fop .mul .f32 (L.getD k none) (M.getD k none)) from rfl)
      go_wp2_with (fail)
      refine wp_region_loose 14 (by kernel_rfl) (by kernel_rfl) ?_
      simp only [List.take_succ_cons, List.take_zero, List.drop_succ_cons, List.drop_zero]
      refine la_start ?_
      refine la_fix _ (by rfl) (by intros; go_simp; rfl) ?_
      try simp only [Act.put, List.setIfInBounds_toArray, List.set_cons_zero, List.set_cons_succ]
      refine la_fix _ (by rfl) (by intros; go_simp; rfl) ?_
      try simp only [Act.put, List.setIfInBounds_toArray, List.set_cons_zero, List.set_cons_succ]
      refine la_fix _ (by rfl) (by intros; go_simp; rfl) ?_
      try simp only [Act.put, List.setIfInBounds_toArray, List.set_cons_zero, List.set_cons_succ]
      refine la_fix _ (by rfl) (by intros; go_simp; rfl) ?_
      try simp only [Act.put, List.setIfInBounds_toArray, List.set_cons_zero, List.set_cons_succ]
      refine la_fix _ (by rfl) (by intros; go_simp; rfl) ?_
      try simp only [Act.put, List.setIfInBounds_toArray, List.set_cons_zero, List.set_cons_succ]
      refine la_fix _ (by rfl) (by intros; go_simp; rfl) ?_
      try simp only [Act.put, List.setIfInBounds_toArray, List.set_cons_zero, List.set_cons_succ]
      refine la_fix _ (by rfl) (by intros; go_simp; rfl) ?_
      try simp only [Act.put, List.setIfInBounds_toArray, List.set_cons_zero, List.set_cons_succ]
      refine la_fix _ (by rfl) (by intros; go_simp; rfl) ?_
      try simp only [Act.put, List.setIfInBounds_toArray, List.set_cons_zero, List.set_cons_succ]
      refine la_fix _ (by rfl) (by intros; go_simp; rfl) ?_
      try simp only [Act.put, List.setIfInBounds_toArray, List.set_cons_zero, List.set_cons_succ]
      refine la_fix _ (by rfl) (by intros; go_simp; rfl) ?_
      try simp only [Act.put, List.setIfInBounds_toArray, List.set_cons_zero, List.set_cons_succ]
      refine la_fix _ (by rfl) (by intros; go_simp; rfl) ?_
      try simp only [Act.put, List.setIfInBounds_toArray, List.set_cons_zero, List.set_cons_succ]
      refine la_fix _ (by rfl) (by intros; go_simp; rfl) ?_
      try simp only [Act.put, List.setIfInBounds_toArray, List.set_cons_zero, List.set_cons_succ]
      refine la_fop (op := .mul) (by rfl) (by rfl) (by intros; refine ⟨_, _, ?_, ?_, fun q => (by go_simp; rfl)⟩ <;> (first | assumption | exact fl_fu | exact fl_fz)) ?_
      try simp only [Act.put, List.setIfInBounds_toArray, List.set_cons_zero, List.set_cons_succ]
      refine la_fop (op := .add) (by rfl) (by rfl) (by intros; refine ⟨_, _, ?_, ?_, fun q => (by go_simp; rfl)⟩ <;> (first | assumption | exact fl_fu | exact fl_fz)) ?_
      try simp only [Act.put, List.setIfInBounds_toArray, List.set_cons_zero, List.set_cons_succ]
      refine la_end ?_
      intro r5 hr5 r6 hr6 q6
      rw [← HT.out] at hr6
      go_wp2_with (fail)
      exact ⟨⟨k + 1, r6, by omega, by go_num, rfl, hr6, (by obtain ⟨q9, e9⟩ := hxr.out; exact ⟨q9 + q6, by rw [e9, World.drewN_drewN]⟩)⟩, by simp [intOf]; omega⟩
    · obtain rfl : k = n := by omega
      go_wp2_with (fail)
      go_ret
      exact ⟨_, rfl, hr, hxr.out⟩
/-- The time of a path is told. -/
def okTA (S : Sct) (g : Pth) (p : Int) : Bool := fvT S && (fpath g && inB p 1 256)
def xTA (S : Sct) (g : Pth) (p : Int) : Option Nat := if okTA S g p = true then tsum (lensL S.x S.z g p) S.v S.v.length else fz
def RetX (w : World) (e : Ending) (w' : World) (ok : Bool) (X : Option Nat) : Prop := ∃ r, e = .returned (.tuple #[.float .f32 r, .bool ok]) ∧ Fl .f32 r X ∧ Ext w w'
theorem retX_no {w w' : World} {S : Sct} {g : Pth} {p : Int} (hf : okTA S g p = false) (hx : Ext w w') : RetX w (.returned (.tuple #[.float .f32 0, .bool false])) w' (okTA S g p) (xTA S g p) := by
  refine ⟨0, by rw [hf], ?_, hx⟩
  unfold xTA; rw [hf, if_neg (by decide)]; exact fl_fz
set_option maxRecDepth 20000 in
set_option maxHeartbeats 8000000 in
theorem c_spec_TimeAlong {w : World} {B : Nat} {u : Value} {S : Sct} (h : RdT w B u S) (hB : B ≤ w.heap.size) (za : S.v.length ≤ 1048576) {g : Pth} (hg : g.Ok) {i : Int} :
    Calls Try.prog 22 #[u, g.val, .int .i64 i] w fun e w' => RetX w e w' (okTA S g i) (xTA S g i) := by
  have hsec := h
  obtain ⟨A, c, rfl, hp, hcap⟩ := h.ex
  have HBX : Hid (SbAt ((w.alloc (.cells #[.int .i64 S.x, .int .i64 S.z, .slice A S.v.length c] 38)).alloc (.cells #[.float .f32 g.a, .float .f32 g.b, .float .f32 g.c, .float .f32 g.d] 28)) w.heap.size S.x S.z A S.v.length c) := Lib.hid (SbAt.blk (T := 38) (by repeat (first | (refine al_at ?_ ?_ <;> first | rfl | (simp only [al_size] <;> omega)) | apply al_old)))
  have HBP : Hid (PbAt ((w.alloc (.cells #[.int .i64 S.x, .int .i64 S.z, .slice A S.v.length c] 38)).alloc (.cells #[.float .f32 g.a, .float .f32 g.b, .float .f32 g.c, .float .f32 g.d] 28)) (w.heap.size + 1) g) := Lib.hid (PbAt.blk (T := 28) (by repeat (first | (refine al_at ?_ ?_ <;> first | rfl | (simp only [al_size] <;> omega)) | apply al_old)))
  have hx0 : Ext w ((w.alloc (.cells #[.int .i64 S.x, .int .i64 S.z, .slice A S.v.length c] 38)).alloc (.cells #[.float .f32 g.a, .float .f32 g.b, .float .f32 g.c, .float .f32 g.d] 28)) := (by repeat (first | assumption | exact Ext.refl _ | apply Ext.drewN | apply Ext.drew | apply Ext.alloc | (refine Ext.trans ?_ (by assumption)) | (refine Ext.set ?_ (by dsimp only; omega) _)))
  have HRD : Hid (RdF w B A S.v.length S.v) := Lib.hid hp
  have cT := Lib.hid (c_l06Is (S := S) HBX.out rfl za)
  have cP := Lib.hid (fun n => c_l06Path (HBP.out.drewN n) hg)
  have cQ := fun W => c_l06Parts i W
  cases hT : fvT S
  case false =>
    rw [hT] at cT
    have hk : okTA S g i = false := by unfold okTA; rw [hT]; rfl
    unfold Pth.val
    go_enter Try.func22, Try.ntmps22
    go_wp2_with (first | (go_at_call 68; refine Calls.mono cT.out ?_; rintro e wa ⟨rfl, na, rfl⟩))
    go_ret2
    exact retX_no hk (by repeat (first | assumption | exact Ext.refl _ | apply Ext.drewN | apply Ext.drew | apply Ext.alloc | (refine Ext.trans ?_ (by assumption)) | (refine Ext.set ?_ (by dsimp only; omega) _)))
  rw [hT] at cT
  cases hP : fpath g
  case false =>
    rw [hP] at cP
    have hk : okTA S g i = false := by unfold okTA; rw [hT, hP]; rfl
    unfold Pth.val
    go_enter Try.func22, Try.ntmps22
    go_wp2_with (first | (go_at_call 68; refine Calls.mono cT.out ?_; rintro e wa ⟨rfl, na, rfl⟩) | (go_at_call 60; refine Calls.mono (cP.out _) ?_; rintro e wb ⟨rfl, nb, rfl⟩))
    go_ret2
    exact retX_no hk (by repeat (first | assumption | exact Ext.refl _ | apply Ext.drewN | apply Ext.drew | apply Ext.alloc | (refine Ext.trans ?_ (by assumption)) | (refine Ext.set ?_ (by dsimp only; omega) _)))
  rw [hP] at cP
  cases hQ : inB i 1 256
  case false =>
    rw [hQ] at cQ
    have hk : okTA S g i = false := by unfold okTA; rw [hT, hP, hQ]; rfl
    unfold Pth.val
    go_enter Try.func22, Try.ntmps22
    go_wp2_with (first | (go_at_call 68; refine Calls.mono cT.out ?_; rintro e wa ⟨rfl, na, rfl⟩) | (go_at_call 60; refine Calls.mono (cP.out _) ?_; rintro e wb ⟨rfl, nb, rfl⟩) | (go_at_call 61; refine Calls.mono (cQ _) ?_; rintro e wc ⟨rfl, rfl⟩))
    go_ret2
    exact retX_no hk (by repeat (first | assumption | exact Ext.refl _ | apply Ext.drewN | apply Ext.drew | apply Ext.alloc | (refine Ext.trans ?_ (by assumption)) | (refine Ext.set ?_ (by dsimp only; omega) _)))
  rw [hQ] at cQ
  have hk : okTA S g i = true := by unfold okTA; rw [hT, hP, hQ]; rfl
  obtain ⟨a, b, n, e1, e2, e3, h1, h2, h3, h4, h5, h6, h7, h8⟩ := fvT_of hT
  obtain ⟨parts, rfl, h9, h10⟩ := parts_of hQ
  have HK : Hid (xTA S g parts = tsum (lst (flens (fun j => pcellOf g a b j parts) (flong g parts) parts) n) S.v n) := Lib.hid (by unfold xTA; rw [if_pos hk, e1, e2, e3, lensL_eq h8])
  have HO := Lib.hid hk
  clear hk hT hQ
  rw [e3] at HRD
  have hn : n ≤ 1048576 := by omega
  unfold Pth.val
  simp only [e3, e1, e2] at hx0 HBP HBX cP cT ⊢
  obtain ⟨p0, p1, p2, _⟩ := id HBX.out
  go_enter Try.func22, Try.ntmps22
  go_wp2_with (first | (go_at_call 68; refine Calls.mono cT.out ?_; rintro e wa ⟨rfl, na, rfl⟩) | (go_at_call 60; refine Calls.mono (cP.out _) ?_; rintro e wb ⟨rfl, nb, rfl⟩) | (go_at_call 61; refine Calls.mono (cQ _) ?_; rintro e wc ⟨rfl, rfl⟩) | (go_at_call 62; refine Calls.mono (c_l06Lengths (HBP.out.ext (by repeat (first | assumption | exact Ext.refl _ | apply Ext.drewN | apply Ext.drew | apply Ext.alloc | (refine Ext.trans ?_ (by assumption)) | (refine Ext.set ?_ (by dsimp only; omega) _)))) hg hP h1 h2 h3 h4 h8 h6 h7 h9 h10) ?_; rintro e wd ⟨A2, rfl, ho, hxd⟩; have hx1 : Ext w wd := hx0.trans (Ext.trans (by repeat (first | assumption | exact Ext.refl _ | apply Ext.drewN | apply Ext.drew | apply Ext.alloc | (refine Ext.trans ?_ (by assumption)) | (refine Ext.set ?_ (by dsimp only; omega) _))) hxd)) | (go_at_call 69; refine Calls.mono (c_l06Time (HBX.out.ext (Ext.trans (by repeat (first | assumption | exact Ext.refl _ | apply Ext.drewN | apply Ext.drew | apply Ext.alloc | (refine Ext.trans ?_ (by assumption)) | (refine Ext.set ?_ (by dsimp only; omega) _))) hxd)) (HRD.out.below (hx1.mono hB)) ho.rd hn) ?_; rintro e we ⟨r5, rfl, hr5, n5, rfl⟩))
  go_ret2
  rw [HO.out]
  exact ⟨r5, rfl, by rw [HK.out]; exact hr5, (by repeat (first | assumption | exact Ext.refl _ | apply Ext.drewN | apply Ext.drew | apply Ext.alloc | (refine Ext.trans ?_ (by assumption)) | (refine Ext.set ?_ (by dsimp only; omega) _)))⟩
set_option maxRecDepth 20000 in
set_option maxHeartbeats 8000000 in
theorem c_impl_TimeAlong {w : World} {B : Nat} {u : Value} {S : Sct} (h : RdT w B u S) (hB : B ≤ w.heap.size) (za : S.v.length ≤ 1048576) {g : Pth} (hg : g.Ok) {i : Int} :
    Calls Try.prog 24 #[u, g.val, .int .i64 i] w fun e w' => RetX w e w' (okTA S g i) (xTA S g i) := by
  have hsec := h
  obtain ⟨A, c, rfl, hp, hcap⟩ := h.ex
  have HBX : Hid (SbAt ((w.alloc (.cells #[.int .i64 S.x, .int .i64 S.z, .slice A S.v.length c] 38)).alloc (.cells #[.float .f32 g.a, .float .f32 g.b, .float .f32 g.c, .float .f32 g.d] 28)) w.heap.size S.x S.z A S.v.length c) := Lib.hid (SbAt.blk (T := 38) (by repeat (first | (refine al_at ?_ ?_ <;> first | rfl | (simp only [al_size] <;> omega)) | apply al_old)))
  have HBP : Hid (PbAt ((w.alloc (.cells #[.int .i64 S.x, .int .i64 S.z, .slice A S.v.length c] 38)).alloc (.cells #[.float .f32 g.a, .float .f32 g.b, .float .f32 g.c, .float .f32 g.d] 28)) (w.heap.size + 1) g) := Lib.hid (PbAt.blk (T := 28) (by repeat (first | (refine al_at ?_ ?_ <;> first | rfl | (simp only [al_size] <;> omega)) | apply al_old)))
  have hx0 : Ext w ((w.alloc (.cells #[.int .i64 S.x, .int .i64 S.z, .slice A S.v.length c] 38)).alloc (.cells #[.float .f32 g.a, .float .f32 g.b, .float .f32 g.c, .float .f32 g.d] 28)) := (by repeat (first | assumption | exact Ext.refl _ | apply Ext.drewN | apply Ext.drew | apply Ext.alloc | (refine Ext.trans ?_ (by assumption)) | (refine Ext.set ?_ (by dsimp only; omega) _)))
  have HRD : Hid (RdF w B A S.v.length S.v) := Lib.hid hp
  have cT : ∀ W, Ext w W → Calls Try.prog 71 #[.agg #[.int .i64 S.x, .int .i64 S.z, .slice A S.v.length c]] W fun e w' => e = .returned (.bool (fvT S)) ∧ Ext W w' := fun W hW => c_impl_ValidSection (hsec.below (hW.mono hB)) (Nat.le_trans hB hW.size) za
  have cP := fun W => c_impl_IsPath (w := W) hg
  have cQ := fun W => c_isParts i W
  unfold Pth.val at cP
  cases hT : fvT S
  case false =>
    rw [hT] at cT
    have hk : okTA S g i = false := by unfold okTA; rw [hT]; rfl
    unfold Pth.val
    obtain ⟨p0, p1, p2, _⟩ := id HBX.out
    obtain ⟨q0, q1, q2, q3, _⟩ := id HBP.out
    go_enter Try.func24, Try.ntmps24
    go_wp2_with (first | (go_at_call 71; refine Calls.mono (cT _ (by repeat (first | assumption | exact Ext.refl _ | apply Ext.drewN | apply Ext.drew | apply Ext.alloc | (refine Ext.trans ?_ (by assumption)) | (refine Ext.set ?_ (by dsimp only; omega) _)))) ?_; rintro e wa ⟨rfl, hxa⟩; obtain ⟨y0, y1, y2, y3, _⟩ := HBP.out.ext hxa; obtain ⟨z0, z1, z2, _⟩ := HBX.out.ext hxa; have hxq := hxa; have hxa := hx0.trans hxa))
    go_ret2
    exact retX_no hk hxa
  rw [hT] at cT
  cases hP : fpath g
  case false =>
    rw [hP] at cP
    have hk : okTA S g i = false := by unfold okTA; rw [hT, hP]; rfl
    unfold Pth.val
    obtain ⟨p0, p1, p2, _⟩ := id HBX.out
    obtain ⟨q0, q1, q2, q3, _⟩ := id HBP.out
    go_enter Try.func24, Try.ntmps24
    go_wp2_with (first | (go_at_call 71; refine Calls.mono (cT _ (by repeat (first | assumption | exact Ext.refl _ | apply Ext.drewN | apply Ext.drew | apply Ext.alloc | (refine Ext.trans ?_ (by assumption)) | (refine Ext.set ?_ (by dsimp only; omega) _)))) ?_; rintro e wa ⟨rfl, hxa⟩; obtain ⟨y0, y1, y2, y3, _⟩ := HBP.out.ext hxa; obtain ⟨z0, z1, z2, _⟩ := HBX.out.ext hxa; have hxq := hxa; have hxa := hx0.trans hxa) | (go_at_call 64; refine Calls.mono (cP _) ?_; rintro e wb ⟨rfl, hxb⟩; have hxb0 := hxb; have hxb := hxa.trans hxb))
    go_ret2
    exact retX_no hk hxb
  rw [hP] at cP
  cases hQ : inB i 1 256
  case false =>
    rw [hQ] at cQ
    have hk : okTA S g i = false := by unfold okTA; rw [hT, hP, hQ]; rfl
    unfold Pth.val
    obtain ⟨p0, p1, p2, _⟩ := id HBX.out
    obtain ⟨q0, q1, q2, q3, _⟩ := id HBP.out
    go_enter Try.func24, Try.ntmps24
    go_wp2_with (first | (go_at_call 71; refine Calls.mono (cT _ (by repeat (first | assumption | exact Ext.refl _ | apply Ext.drewN | apply Ext.drew | apply Ext.alloc | (refine Ext.trans ?_ (by assumption)) | (refine Ext.set ?_ (by dsimp only; omega) _)))) ?_; rintro e wa ⟨rfl, hxa⟩; obtain ⟨y0, y1, y2, y3, _⟩ := HBP.out.ext hxa; obtain ⟨z0, z1, z2, _⟩ := HBX.out.ext hxa; have hxq := hxa; have hxa := hx0.trans hxa) | (go_at_call 64; refine Calls.mono (cP _) ?_; rintro e wb ⟨rfl, hxb⟩; have hxb0 := hxb; have hxb := hxa.trans hxb) | (go_at_call 65; refine Calls.mono (cQ _) ?_; rintro e wc ⟨rfl, rfl⟩))
    go_ret2
    exact retX_no hk hxb
  rw [hQ] at cQ
  have hk : okTA S g i = true := by unfold okTA; rw [hT, hP, hQ]; rfl
  obtain ⟨a, b, n, e1, e2, e3, h1, h2, h3, h4, h5, h6, h7, h8⟩ := fvT_of hT
  obtain ⟨parts, rfl, h9, h10⟩ := parts_of hQ
  have HK : Hid (xTA S g parts = tsum (lst (flens (fun j => pcellOf g a b j parts) (flong g parts) parts) n) S.v n) := Lib.hid (by unfold xTA; rw [if_pos hk, e1, e2, e3, lensL_eq h8])
  have HO := Lib.hid hk
  clear hk hT hQ
  rw [e3] at HRD
  have hn : n ≤ 1048576 := by omega
  unfold Pth.val
  simp only [e3, e1, e2] at hx0 HBP HBX cP cT ⊢
  have HB1 := Lib.hid HBX.out
  obtain ⟨p0, p1, p2, _⟩ := id HBX.out
  obtain ⟨q0, q1, q2, q3, _⟩ := id HBP.out
  have HPK := Lib.hid hP
  go_enter Try.func24, Try.ntmps24
  go_wp2_with (first | (go_at_call 71; refine Calls.mono (cT _ (by repeat (first | assumption | exact Ext.refl _ | apply Ext.drewN | apply Ext.drew | apply Ext.alloc | (refine Ext.trans ?_ (by assumption)) | (refine Ext.set ?_ (by dsimp only; omega) _)))) ?_; rintro e wa ⟨rfl, hxa⟩; obtain ⟨y0, y1, y2, y3, _⟩ := HBP.out.ext hxa; obtain ⟨z0, z1, z2, _⟩ := HBX.out.ext hxa; have hxq := hxa; have hxa := hx0.trans hxa) | (go_at_call 64; refine Calls.mono (cP _) ?_; rintro e wb ⟨rfl, hxb⟩; have hxb0 := hxb; have hxb := hxa.trans hxb) | (go_at_call 65; refine Calls.mono (cQ _) ?_; rintro e wc ⟨rfl, rfl⟩))
  have HB2 := Lib.hid (HBX.out.ext (Ext.trans (Ext.trans (by repeat (first | assumption | exact Ext.refl _ | apply Ext.drewN | apply Ext.drew | apply Ext.alloc | (refine Ext.trans ?_ (by assumption)) | (refine Ext.set ?_ (by dsimp only; omega) _))) hxq) hxb0))
  have HB3 := Lib.hid (HBP.out.ext (Ext.trans (Ext.trans (by repeat (first | assumption | exact Ext.refl _ | apply Ext.drewN | apply Ext.drew | apply Ext.alloc | (refine Ext.trans ?_ (by assumption)) | (refine Ext.set ?_ (by dsimp only; omega) _))) hxq) hxb0))
  have HR2 := Lib.hid (HRD.out.below (hxb.mono hB))
  refine wp_region_any (by kernel_rfl) ?_
  refine wpAny_mo_go (md := .any) (R := Ext) (w := wc) [(0, 21), (1, 22), (2, 23), (3, 24), (4, 25), (5, 26), (6, 27), (7, 28), (8, 29), (9, 30)] [10, 11] (tl := [_, _]) (S := ?S2_) (by kernel_rfl) (by rfl) (by rfl) Ext.refl ext_tr (ext_drew1 _) ?hS2_ ?go2_
  case hS2_ => intro vs; simp only [putAll, Act.put, List.setIfInBounds_toArray, List.set_cons_zero, List.set_cons_succ]; rfl
  case go2_ =>
  refine mo_fix _ (by rfl) (by rfl) (by intro vs w1 hx_ hd; obtain ⟨l0, l1, l2, _⟩ := HB2.out.ext (w' := w1) hx_; obtain ⟨m0, m1, m2, m3, _⟩ := HB3.out.ext (w' := w1) hx_; go_simp; first | done | rfl) ?_
  refine mo_fix _ (by rfl) (by rfl) (by intro vs w1 hx_ hd; obtain ⟨l0, l1, l2, _⟩ := HB2.out.ext (w' := w1) hx_; obtain ⟨m0, m1, m2, m3, _⟩ := HB3.out.ext (w' := w1) hx_; have e0 := hd 0 (by kernel_rfl); simp (decide := true) only [factAt, if_true, if_false] at e0; simp only [e0]; go_simp; first | done | rfl) ?_
  refine mo_fix _ (by rfl) (by rfl) (by intro vs w1 hx_ hd; obtain ⟨l0, l1, l2, _⟩ := HB2.out.ext (w' := w1) hx_; obtain ⟨m0, m1, m2, m3, _⟩ := HB3.out.ext (w' := w1) hx_; go_simp; first | done | rfl) ?_
  refine mo_fix _ (by rfl) (by rfl) (by intro vs w1 hx_ hd; obtain ⟨l0, l1, l2, _⟩ := HB2.out.ext (w' := w1) hx_; obtain ⟨m0, m1, m2, m3, _⟩ := HB3.out.ext (w' := w1) hx_; have e2 := hd 2 (by kernel_rfl); simp (decide := true) only [factAt, if_true, if_false] at e2; simp only [e2]; go_simp; first | done | rfl) ?_
  refine mo_fix _ (by rfl) (by rfl) (by intro vs w1 hx_ hd; obtain ⟨l0, l1, l2, _⟩ := HB2.out.ext (w' := w1) hx_; obtain ⟨m0, m1, m2, m3, _⟩ := HB3.out.ext (w' := w1) hx_; go_simp; first | done | rfl) ?_
  refine mo_fix _ (by rfl) (by rfl) (by intro vs w1 hx_ hd; obtain ⟨l0, l1, l2, _⟩ := HB2.out.ext (w' := w1) hx_; obtain ⟨m0, m1, m2, m3, _⟩ := HB3.out.ext (w' := w1) hx_; have e4 := hd 4 (by kernel_rfl); simp (decide := true) only [factAt, if_true, if_false] at e4; simp only [e4]; go_simp; first | done | rfl) ?_
  refine mo_fix _ (by rfl) (by rfl) (by intro vs w1 hx_ hd; obtain ⟨l0, l1, l2, _⟩ := HB2.out.ext (w' := w1) hx_; obtain ⟨m0, m1, m2, m3, _⟩ := HB3.out.ext (w' := w1) hx_; go_simp; first | done | rfl) ?_
  refine mo_fix _ (by rfl) (by rfl) (by intro vs w1 hx_ hd; obtain ⟨l0, l1, l2, _⟩ := HB2.out.ext (w' := w1) hx_; obtain ⟨m0, m1, m2, m3, _⟩ := HB3.out.ext (w' := w1) hx_; go_simp; first | done | rfl) ?_
  refine mo_call (fun v w3 => ∃ A2 hi, v = .slice A2 n n ∧ hi ≤ w3.heap.size ∧ OwL w3 wc.heap.size hi A2 n (lst (flens (fun j => pcellOf g a b j parts) (flong g parts) parts) n)) (by rfl) (by rfl) (by rintro v wa wb ⟨A2, hi, h1, h2, h3⟩ hxab; exact ⟨A2, hi, h1, Nat.le_trans h2 hxab.size, h3.ext h2 hxab⟩) (by intro vs w9 hx_ hd; have e3' := hd 3 (by kernel_rfl); have e5' := hd 5 (by kernel_rfl); have e6' := hd 6 (by kernel_rfl); have e7' := hd 7 (by kernel_rfl); simp (decide := true) only [factAt, if_true, if_false] at e3' e5' e6' e7'; simp only [e3', e5', e6', e7']; refine ⟨_, _, by go_simp; first | done | rfl | exact ⟨rfl, rfl⟩, ?_⟩; refine Calls.mono (c_lengthsIn hg HPK.out h1 h2 h3 h4 h8 h6 h7 h9 h10) ?_; rintro e w4 ⟨A4, rfl, ho4, hx4⟩; exact ⟨_, rfl, ⟨A4, w4.heap.size, rfl, Nat.le_refl _, ho4.more hx_.size (Nat.le_refl _)⟩, hx4⟩) ?_
  refine mo_call (fun v _ => FlOf .f32 (tsum (lst (flens (fun j => pcellOf g a b j parts) (flong g parts) parts) n) S.v n) v) (by rfl) (by rfl) (fun _ _ _ h _ => h) (by intro vs w9 hx_ hd; have e1' := hd 1 (by kernel_rfl); have e8' := hd 8 (by kernel_rfl); simp (decide := true) only [factAt, if_true, if_false] at e1' e8'; obtain ⟨A8, hi8, e8', hh8, ho8⟩ := e8'; simp only [e1', e8']; refine ⟨_, _, by go_simp; first | done | rfl | exact ⟨rfl, rfl⟩, ?_⟩; refine Calls.mono (c_timeAlong ho8.rd hn (HR2.out.below (hx_.mono (Nat.le_trans hB hxb.size)))) ?_; rintro e w4 ⟨r4, rfl, hr4, n4, rfl⟩; exact ⟨_, rfl, ⟨r4, rfl, hr4⟩, Ext.drewN (Ext.refl _) n4⟩) ?_
  refine mo_end ?_
  intro vs w2 hx2 hd
  have e9 := hd 9 (by kernel_rfl)
  simp (decide := true) only [factAt, if_true, if_false] at e9
  obtain ⟨r9, e9, f9⟩ := e9
  generalize vs 9 = v9 at e9 ⊢
  subst e9
  clear hd
  go_wp2_with (fail)
  go_ret2
  rw [HO.out]
  exact ⟨r9, rfl, by rw [HK.out]; exact f9, hxb.trans hx2⟩
theorem both_TimeAlong {S0 : Sct} (za0 : S0.v.length ≤ 1048576) (_hok0 : S0.Ok) {g1 : Pth} (hg1 : g1.Ok) {i2 : Int} (_hi2 : -9223372036854775808 ≤ i2) (_hj2 : i2 ≤ 9223372036854775807) :
    ∃ ok X, (∀ W : World, ∀ (B0 : Nat) (v0 : Value), RdT W B0 v0 S0 → B0 ≤ W.heap.size → Calls Try.prog 22 #[v0, g1.val, .int .i64 i2] W fun e w' => ∃ r, e = .returned (.tuple #[.float .f32 r, .bool ok]) ∧ Fl .f32 r X ∧ Ext W w') ∧
      (∀ W : World, ∀ (B0 : Nat) (v0 : Value), RdT W B0 v0 S0 → B0 ≤ W.heap.size → Calls Try.prog 24 #[v0, g1.val, .int .i64 i2] W fun e w' => ∃ r, e = .returned (.tuple #[.float .f32 r, .bool ok]) ∧ Fl .f32 r X ∧ Ext W w') :=
  ⟨_, _, fun _ _ _ h0 hB0 => c_spec_TimeAlong h0 hB0 za0 hg1, fun _ _ _ h0 hB0 => c_impl_TimeAlong h0 hB0 za0 hg1⟩
end Go.Proofs.Ytddemhlhlbpecaa
