/- What cells gather and send, the reference. Condition: the section is valid, the speed is above zero. -/
import Derived.Test.YtddemhlhlbpecaaSx
import Derived.Test.YtddemhlhlbpecaaXf
namespace Go.Proofs.Ytddemhlhlbpecaa
open Go.RowKit Ieee
set_option linter.unusedVariables false
set_option linter.unusedSimpArgs false

def one32 : Option Nat := fl .f32 1065353216
theorem fl_one32 : Fl .f32 1065353216 one32 := Fl.of32 (by decide)
/-- When the curve of a cell comes, u along. -/
def cvX (a : Nat) (V : Option Nat) (i u : Nat) : Option Nat := cvT ((i / a : Nat) : Int) ((u : Int) - ((i % a : Nat) : Int)) V
/-- The second share there. -/
def shX (a : Nat) (V : Option Nat) (i u : Nat) : Option Nat := fop .sub .f32 (cvX a V i u) (some (mk (flo (cvX a V i u))))
/-- Where it comes. -/
def atX (a : Nat) (V : Option Nat) (i u : Nat) : Nat := u + a * flo (cvX a V i u)
def inX (a b : Nat) (V : Option Nat) (i u : Nat) : Bool := flt32 (cvX a V i u) (some (mk b))
/-- What a cell gathers, from the first places. -/
def gsum (a b : Nat) (V : Option Nat) (L : List (Option Nat)) (i : Nat) : Nat → Option Nat
  | 0 => fz
  | u + 1 =>
    if inX a b V i u = true then
      (if flo (cvX a V i u) + 1 < b then fop .add .f32 (fop .add .f32 (gsum a b V L i u) (fop .mul .f32 (fop .sub .f32 one32 (shX a V i u)) (L.getD (atX a V i u) none))) (fop .mul .f32 (shX a V i u) (L.getD (atX a V i u + a) none))
       else fop .add .f32 (gsum a b V L i u) (fop .mul .f32 (fop .sub .f32 one32 (shX a V i u)) (L.getD (atX a V i u) none)))
    else gsum a b V L i u
def gatF (a b : Nat) (V : Option Nat) (L : List (Option Nat)) (i : Nat) : Option Nat := gsum a b V L i a
theorem at_lt {a b n u K : Nat} (hab : a * b = n) (hu : u < a) (hK : K < b) : u + a * K < n := by
  have h1 : a * K + a ≤ a * b := by rw [← Nat.mul_succ]; exact Nat.mul_le_mul_left _ hK
  omega
theorem at_lt2 {a b n u K : Nat} (hab : a * b = n) (hu : u < a) (hK : K + 1 < b) : u + a * K + a < n := by
  have h1 := at_lt hab hu hK
  rw [Nat.mul_succ] at h1
  omega
theorem tmod_nat (i a : Nat) : Int.tmod (i : Int) (a : Int) = ((i % a : Nat) : Int) := rfl
theorem tdiv_nat (i a : Nat) : Int.tdiv (i : Int) (a : Int) = ((i / a : Nat) : Int) := rfl
set_option maxRecDepth 20000 in
set_option maxHeartbeats 8000000 in
theorem c_l06Gather {w : World} {bx c : Nat} {A : Option Addr} {a b n : Nat} (hb : SbAt w bx (a : Int) (b : Int) A n c) {B : Nat} {L : List (Option Nat)} (hp : RdF w B A n L) (hB : B ≤ w.heap.size) (ha : 1 ≤ a) (ha2 : a ≤ 16) (hb1 : 1 ≤ b) (hb2 : b ≤ 16) (hab : a * b = n) (hab' : (a : Int) * (b : Int) = (n : Int)) (hn1 : 1 ≤ n) (hn : n ≤ 256) {v : Nat} {V : Option Nat} (hv : Fl .f32 v V) (hV : fabove V = true) :
    Calls Try.prog 82 #[.pointer (some ⟨bx, 0, none⟩), .float .f32 v] w fun e w' => ∃ x, e = .returned x ∧ NewT w x w' a b n (gatF a b V L) := by
  have hbl := hb.lt
  have HB := Lib.hid hb
  have HP := Lib.hid hp
  obtain ⟨W1, hW1⟩ : ∃ W1, W1 = w.alloc (.cells #[.int .i64 0, .int .i64 0, .slice none 0 0] 38) := ⟨_, rfl⟩
  have hx1 : Ext w W1 := by rw [hW1]; exact (by repeat (first | assumption | exact Ext.refl _ | apply Ext.drewN | apply Ext.drew | apply Ext.alloc | (refine Ext.trans ?_ (by assumption)) | (refine Ext.set ?_ (by dsimp only; omega) _)))
  have hz1 : W1.heap[w.heap.size]? = some (.cells #[.int .i64 0, .int .i64 0, .slice none 0 0] 38 (0, 0)) := by rw [hW1]; exact heap_alloc_new w _
  have hs1 : W1.heap.size = w.heap.size + 1 := by rw [hW1]; exact al_size _ _
  have HZ1 := Lib.hid hz1
  clear hz1 hb hp
  go_enter Try.func82, Try.ntmps82
  go_wp2_with (fail)
  rw [← hW1]
  clear hW1
  refine wp_region_any (by kernel_rfl) ?_
  refine wpAny_mo_go (md := .any) (R := Ext) (w := W1) [(0, 13), (1, 14), (2, 15), (3, 16), (4, 17), (5, 18), (6, 19), (7, 20), (8, 21), (9, 5)] [10] (tl := [_]) (S := ?S4_) (by kernel_rfl) (by rfl) (by rfl) Ext.refl ext_tr (ext_drew1 _) ?hS4_ ?go4_
  case hS4_ => intro vs; simp only [putAll, Act.put, List.setIfInBounds_toArray, List.set_cons_zero, List.set_cons_succ]; rfl
  case go4_ =>
  refine mo_fix _ (by rfl) (by rfl) (by intro vs w1 hx_ hd; obtain ⟨l0, l1, l2, _⟩ := HB.out.ext (w' := w1) (hx1.trans hx_); go_simp; first | done | rfl) ?_
  refine mo_fix _ (by rfl) (by rfl) (by intro vs w1 hx_ hd; obtain ⟨l0, l1, l2, _⟩ := HB.out.ext (w' := w1) (hx1.trans hx_); have e0 := hd 0 (by kernel_rfl); simp (decide := true) only [factAt, if_true, if_false] at e0; simp only [e0]; go_simp; first | done | rfl) ?_
  refine mo_fix _ (by rfl) (by rfl) (by intro vs w1 hx_ hd; obtain ⟨l0, l1, l2, _⟩ := HB.out.ext (w' := w1) (hx1.trans hx_); have e1 := hd 1 (by kernel_rfl); simp (decide := true) only [factAt, if_true, if_false] at e1; simp only [e1]; go_simp; first | done | rfl) ?_
  refine mo_fix _ (by rfl) (by rfl) (by intro vs w1 hx_ hd; obtain ⟨l0, l1, l2, _⟩ := HB.out.ext (w' := w1) (hx1.trans hx_); have e2 := hd 2 (by kernel_rfl); simp (decide := true) only [factAt, if_true, if_false] at e2; simp only [e2]; go_simp; first | done | rfl) ?_
  refine mo_fix _ (by rfl) (by rfl) (by intro vs w1 hx_ hd; obtain ⟨l0, l1, l2, _⟩ := HB.out.ext (w' := w1) (hx1.trans hx_); go_simp; first | done | rfl) ?_
  refine mo_fix _ (by rfl) (by rfl) (by intro vs w1 hx_ hd; obtain ⟨l0, l1, l2, _⟩ := HB.out.ext (w' := w1) (hx1.trans hx_); have e4 := hd 4 (by kernel_rfl); simp (decide := true) only [factAt, if_true, if_false] at e4; simp only [e4]; go_simp; first | done | rfl) ?_
  refine mo_fix _ (by rfl) (by rfl) (by intro vs w1 hx_ hd; obtain ⟨l0, l1, l2, _⟩ := HB.out.ext (w' := w1) (hx1.trans hx_); have e5 := hd 5 (by kernel_rfl); simp (decide := true) only [factAt, if_true, if_false] at e5; simp only [e5]; go_simp; first | done | rfl) ?_
  refine mo_fix _ (by rfl) (by rfl) (by intro vs w1 hx_ hd; obtain ⟨l0, l1, l2, _⟩ := HB.out.ext (w' := w1) (hx1.trans hx_); have e6 := hd 6 (by kernel_rfl); simp (decide := true) only [factAt, if_true, if_false] at e6; simp only [e6]; go_simp; first | done | rfl) ?_
  refine mo_call (fun x w3 => ∃ g cap cs, x = .agg #[.int .i64 (a : Int), .int .i64 (b : Int), .slice (some ⟨g, 0, none⟩) n cap] ∧ W1.heap.size ≤ g ∧ w3.heap[g]? = some (.cells cs 22 (0, 0)) ∧ n ≤ cap ∧ n ≤ cs.size ∧ RowF cs n (fun _ => fz)) (by rfl) (by rfl) (by rintro x wa wb ⟨g, cap, cs, h1, h2, h3, h4⟩ hxab; exact ⟨g, cap, cs, h1, h2, hxab.blk h3, h4⟩) (by intro vs w9 hx_ hd; have e3 := hd 3 (by kernel_rfl); have e7 := hd 7 (by kernel_rfl); simp (decide := true) only [factAt, if_true, if_false] at e3 e7; simp only [e3, e7]; refine ⟨_, _, by go_simp; first | done | rfl | exact ⟨rfl, rfl⟩, ?_⟩; refine Calls.mono (c_l06Flat hab hab' hn) ?_; rintro e w4 ⟨x, rfl, g, cap, cs, h1, h2, h3, h4, h5, h6, h7⟩; exact ⟨_, rfl, ⟨g, cap, cs, h1, Nat.le_trans hx_.size h2, h3, h4, h5, h6⟩, h7⟩) ?_
  refine mo_make (fun a => .pointer (some a)) (.cells #[.int .i64 0, .int .i64 0, .slice none 0 0] 38) (by rfl) (by rfl) (by intro vs w1 hx_ hd; obtain ⟨l0, l1, l2, _⟩ := HB.out.ext (w' := w1) (hx1.trans hx_); go_simp; first | done | rfl) ?_
  refine mo_end ?_
  intro vs w2 hx2 hd
  have e8 := hd 8 (by kernel_rfl)
  have e9 := hd 9 (by kernel_rfl)
  simp (decide := true) only [factAt, if_true, if_false] at e8 e9
  obtain ⟨g, cap, cs0, e8, hg, hgb, hcap, hcs0, hrow⟩ := e8
  obtain ⟨go, e9, hgo, hgob⟩ := e9
  generalize vs 8 = v8 at e8 ⊢
  generalize vs 9 = v9 at e9 ⊢
  subst e8 e9
  clear hd
  obtain ⟨z0, z1, z2, z3, z4, z5⟩ := three_c hgob
  have hne : g ≠ go := fun e => by rw [e, hgob] at hgb; have := (Obj.cells.inj (Option.some.inj hgb)).2.1; revert this; decide
  have hgl := blk_lt hgb
  have hgol := blk_lt hgob
  have hs2 := hx2.size
  have HBX := Lib.hid (blk_set1 (blk_set1 (blk_set1 hgob 0 (.int .i64 (a : Int))) 1 (.int .i64 (b : Int))) 2 (.slice (some ⟨g, 0, none⟩) n cap))
  have HGB := Lib.hid (set_other (p := ⟨go, 2, none⟩) (v := .slice (some ⟨g, 0, none⟩) n cap) (set_other (p := ⟨go, 1, none⟩) (v := .int .i64 (b : Int)) (set_other (p := ⟨go, 0, none⟩) (v := .int .i64 (a : Int)) hgb hne) hne) hne)
  have HRW : Hid (RowF cs0 n (fsetK (gatF a b V L) 0)) := Lib.hid (hrow.keep (fun j _ => (fsetK_zero _ j).symm))
  have hx02 : Ext w w2 := hx1.trans hx2
  have HZ2 := Lib.hid (hx2.blk (g := w.heap.size) HZ1.out)
  go_wp2_with (fail)
  have hwm : IntKind.i64.wrap ((a : Int) * (b : Int)) = (n : Int) := by rw [hab']; exact IntWalk.i64_in _ (by omega)
  have hwn : IntKind.i64.wrap (n : Int) = (n : Int) := IntWalk.i64_in _ (by omega)
  have haz : ¬ ((a : Int) = 0) := by omega
  go_loopw [6] (fun y wr => ∃ (k : Nat) (cs : Array Value), k ≤ n ∧ y = .int .i64 k ∧ wr.heap[g]? = some (.cells cs 22 (0, 0)) ∧ n ≤ cs.size ∧ RowF cs n (fsetK (gatF a b V L) k) ∧ wr.heap[go]? = some (.cells #[.int .i64 (a : Int), .int .i64 (b : Int), .slice (some ⟨g, 0, none⟩) n cap] 38 (0, 0)) ∧ wr.heap[w.heap.size]? = some (.cells #[.int .i64 0, .int .i64 0, .slice none 0 0] 38 (0, 0)) ∧ Ext w wr) (fun y _ => n - (intOf y).toNat)
  case atStart => exact ⟨0, cs0, Nat.zero_le _, rfl, HGB.out, hcs0, HRW.out, HBX.out, (by repeat (first | exact HZ2.out | (refine set_other ?_ (by dsimp only; omega)))), (by repeat (first | assumption | exact Ext.refl _ | apply Ext.drewN | apply Ext.drew | apply Ext.alloc | (refine Ext.trans ?_ (by assumption)) | (refine Ext.set ?_ (by dsimp only; omega) _)))⟩
  case round =>
    obtain ⟨k, cs, hk, rfl, hgg, hsz, hrow, hbx, hzz, hx⟩ := hrel
    obtain ⟨wa, hwa⟩ : ∃ wa, wa = wr := ⟨_, rfl⟩
    subst hwa
    have HG := Lib.hid hgg
    have HS := Lib.hid hsz
    have HX := Lib.hid hrow
    have HBB := Lib.hid hbx
    have HZ := Lib.hid hzz
    have HSB := Lib.hid (HB.out.ext hx)
    have HPP := Lib.hid (HP.out.below (hx.mono hB))
    obtain ⟨l0, l1, l2, _⟩ := HSB.out
    by_cases hlt : k < n
    · have hlt' : (k : Int) < (n : Int) := by omega
      clear hgg hsz hrow hbx hzz
      have hkm : IntKind.i64.wrap ((k % a : Nat) : Int) = ((k % a : Nat) : Int) := IntWalk.i64_in _ (by have h9 : k % a < a := Nat.mod_lt _ (by omega); generalize k % a = d9 at h9; omega)
      have hkd : IntKind.i64.wrap ((k / a : Nat) : Int) = ((k / a : Nat) : Int) := IntWalk.i64_in _ (by have h9 : k / a ≤ k := Nat.div_le_self _ _; generalize k / a = d9 at h9; omega)
      go_wp2_with (fail)
      refine wp_region_loose 10 (by kernel_rfl) (by kernel_rfl) ?_
      simp only [List.take_succ_cons, List.take_zero, List.drop_succ_cons, List.drop_zero]
      refine la_start ?_
      refine la_fix _ (by rfl) (by intros; go_simp; rfl) ?_
      try simp only [Act.put, List.setIfInBounds_toArray, List.set_cons_zero, List.set_cons_succ]
      refine la_fix _ (by rfl) (by intros; go_simp; rfl) ?_
      try simp only [Act.put, List.setIfInBounds_toArray, List.set_cons_zero, List.set_cons_succ]
      refine la_fix _ (by rfl) (by intros; go_simp; rfl) ?_
      try simp only [Act.put, List.setIfInBounds_toArray, List.set_cons_zero, List.set_cons_succ]
      refine la_fix _ (by rfl) (by intros; go_simp; rfl) ?_
      try simp only [Act.put, List.setIfInBounds_toArray, List.set_cons_zero, List.set_cons_succ]
      refine la_fix _ (by rfl) (by intros; go_simp; rfl) ?_
      try simp only [Act.put, List.setIfInBounds_toArray, List.set_cons_zero, List.set_cons_succ]
      refine la_fix _ (by rfl) (by intros; go_simp; rfl) ?_
      try simp only [Act.put, List.setIfInBounds_toArray, List.set_cons_zero, List.set_cons_succ]
      refine la_fix _ (by rfl) (by intros; go_simp; rfl) ?_
      try simp only [Act.put, List.setIfInBounds_toArray, List.set_cons_zero, List.set_cons_succ]
      refine la_fix _ (by rfl) (by intros; go_simp; rfl) ?_
      try simp only [Act.put, List.setIfInBounds_toArray, List.set_cons_zero, List.set_cons_succ]
      refine la_fix _ (by rfl) (by intros; go_simp; rfl) ?_
      try simp only [Act.put, List.setIfInBounds_toArray, List.set_cons_zero, List.set_cons_succ]
      refine la_fix _ (by rfl) (by intros; go_simp; rfl) ?_
      try simp only [Act.put, List.setIfInBounds_toArray, List.set_cons_zero, List.set_cons_succ]
      refine la_end ?_
      intro q1
      go_wp2_with (fail)
      go_loopw [7, 8] (fun s y wr => ∃ (u r : Nat), u ≤ a ∧ y = .int .i64 u ∧ s = .float .f32 r ∧ Fl .f32 r (gsum a b V L k u) ∧ Ext wa wr) (fun _ y _ => a - (intOf y).toNat)
      case atStart => exact ⟨0, 0, Nat.zero_le _, rfl, rfl, fl_fz, (by repeat (first | assumption | exact Ext.refl _ | apply Ext.drewN | apply Ext.drew | apply Ext.alloc | (refine Ext.trans ?_ (by assumption)) | (refine Ext.set ?_ (by dsimp only; omega) _)))⟩
      case round =>
        obtain ⟨u, r, hu, rfl, rfl, hr, hxd⟩ := hrel
        have HSB2 := Lib.hid (HSB.out.ext hxd)
        have HPP2 := Lib.hid (HPP.out.below (hxd.mono (Nat.le_trans hB hx.size)))
        have HRR := Lib.hid hr
        obtain ⟨l0, l1, l2, _⟩ := HSB2.out
        by_cases hul : u < a
        · have hul' : (u : Int) < (a : Int) := by omega
          have hdw : IntKind.i64.wrap ((u : Int) - ((k % a : Nat) : Int)) = (u : Int) - ((k % a : Nat) : Int) := by
            have h9 : k % a < a := Nat.mod_lt _ (by omega)
            generalize k % a = d9 at h9
            exact IntWalk.i64_in _ (by omega)
          have HCU := Lib.hid (fun W => c_l06Curve (w := W) (x := ((k % a : Nat) : Int)) (z := ((k / a : Nat) : Int)) (u := (u : Int)) hv hV hdw)
          have HNK := Lib.hid (nk_cv ((k / a : Nat) : Int) ((u : Int) - ((k % a : Nat) : Int)) hv hV)
          go_wp2_with (fail)
          refine wp_region_any (by kernel_rfl) ?_
          refine wpAny_mo_go (md := .any) (R := Ext) (w := wr) [(0, 44), (1, 45), (2, 46), (3, 47), (4, 48), (5, 49), (6, 50), (7, 51), (8, 52), (9, 53), (10, 54), (11, 55), (12, 56), (13, 57), (14, 58), (15, 43), (16, 59), (17, 60), (18, 9), (19, 10)] [] (tl := []) (S := ?S5_) (by kernel_rfl) (by rfl) (by rfl) Ext.refl ext_tr (ext_drew1 _) ?hS5_ ?go5_
          case hS5_ => intro vs; simp only [putAll, Act.put, List.setIfInBounds_toArray, List.set_cons_zero, List.set_cons_succ]; rfl
          case go5_ =>
          refine mo_fix _ (by rfl) (by rfl) (by intro vs w1 hx_ hd; obtain ⟨l0, l1, l2, _⟩ := HSB2.out.ext (w' := w1) hx_; go_simp; first | done | rfl) ?_
          refine mo_fix _ (by rfl) (by rfl) (by intro vs w1 hx_ hd; obtain ⟨l0, l1, l2, _⟩ := HSB2.out.ext (w' := w1) hx_; go_simp; first | done | rfl) ?_
          refine mo_fix _ (by rfl) (by rfl) (by intro vs w1 hx_ hd; obtain ⟨l0, l1, l2, _⟩ := HSB2.out.ext (w' := w1) hx_; have e1 := hd 1 (by kernel_rfl); simp (decide := true) only [factAt, if_true, if_false] at e1; simp only [e1]; go_simp; first | done | rfl) ?_
          refine mo_fix _ (by rfl) (by rfl) (by intro vs w1 hx_ hd; obtain ⟨l0, l1, l2, _⟩ := HSB2.out.ext (w' := w1) hx_; have e2 := hd 2 (by kernel_rfl); simp (decide := true) only [factAt, if_true, if_false] at e2; simp only [e2]; go_simp; first | done | rfl) ?_
          refine mo_fix _ (by rfl) (by rfl) (by intro vs w1 hx_ hd; obtain ⟨l0, l1, l2, _⟩ := HSB2.out.ext (w' := w1) hx_; have e3 := hd 3 (by kernel_rfl); simp (decide := true) only [factAt, if_true, if_false] at e3; simp only [e3]; go_simp; first | done | rfl) ?_
          refine mo_fix (.int .i64 ((k % a : Nat) : Int)) (by rfl) (by rfl) (by intro vs w1 hx_ hd; have e0 := hd 0 (by kernel_rfl); have e4 := hd 4 (by kernel_rfl); simp (decide := true) only [factAt, if_true, if_false] at e0 e4; simp only [e0, e4]; go_simp; rw [if_neg (by omega)]; exact congrArg (fun z => Result.ok (Next.value (Value.int .i64 z)) w1) (tmod_nat k a)) ?_
          refine mo_fix _ (by rfl) (by rfl) (by intro vs w1 hx_ hd; obtain ⟨l0, l1, l2, _⟩ := HSB2.out.ext (w' := w1) hx_; go_simp; first | done | rfl) ?_
          refine mo_fix _ (by rfl) (by rfl) (by intro vs w1 hx_ hd; obtain ⟨l0, l1, l2, _⟩ := HSB2.out.ext (w' := w1) hx_; go_simp; first | done | rfl) ?_
          refine mo_fix _ (by rfl) (by rfl) (by intro vs w1 hx_ hd; obtain ⟨l0, l1, l2, _⟩ := HSB2.out.ext (w' := w1) hx_; have e7 := hd 7 (by kernel_rfl); simp (decide := true) only [factAt, if_true, if_false] at e7; simp only [e7]; go_simp; first | done | rfl) ?_
          refine mo_fix _ (by rfl) (by rfl) (by intro vs w1 hx_ hd; obtain ⟨l0, l1, l2, _⟩ := HSB2.out.ext (w' := w1) hx_; have e8 := hd 8 (by kernel_rfl); simp (decide := true) only [factAt, if_true, if_false] at e8; simp only [e8]; go_simp; first | done | rfl) ?_
          refine mo_fix _ (by rfl) (by rfl) (by intro vs w1 hx_ hd; obtain ⟨l0, l1, l2, _⟩ := HSB2.out.ext (w' := w1) hx_; have e9 := hd 9 (by kernel_rfl); simp (decide := true) only [factAt, if_true, if_false] at e9; simp only [e9]; go_simp; first | done | rfl) ?_
          refine mo_fix (.int .i64 ((k / a : Nat) : Int)) (by rfl) (by rfl) (by intro vs w1 hx_ hd; have e6 := hd 6 (by kernel_rfl); have e10 := hd 10 (by kernel_rfl); simp (decide := true) only [factAt, if_true, if_false] at e6 e10; simp only [e6, e10]; go_simp; rw [if_neg (by omega)]; exact congrArg (fun z => Result.ok (Next.value (Value.int .i64 z)) w1) hkd) ?_
          refine mo_fix _ (by rfl) (by rfl) (by intro vs w1 hx_ hd; obtain ⟨l0, l1, l2, _⟩ := HSB2.out.ext (w' := w1) hx_; go_simp; first | done | rfl) ?_
          refine mo_fix _ (by rfl) (by rfl) (by intro vs w1 hx_ hd; obtain ⟨l0, l1, l2, _⟩ := HSB2.out.ext (w' := w1) hx_; go_simp; first | done | rfl) ?_
          refine mo_call (fun x _ => ∃ y r t, x = .tuple #[.float .f64 (floorw y), .float .f32 r] ∧ Fl .f32 t (cvX a V k u) ∧ Fl .f64 y (fconv .f32 .f64 (cvX a V k u)) ∧ Fl .f32 r (fop .sub .f32 (cvX a V k u) (fconv .f64 .f32 (some (floorw y))))) (by rfl) (by rfl) (fun _ _ _ h _ => h) (by intro vs w9 hx_ hd; have e5 := hd 5 (by kernel_rfl); have e11 := hd 11 (by kernel_rfl); have e12 := hd 12 (by kernel_rfl); have e13 := hd 13 (by kernel_rfl); simp (decide := true) only [factAt, if_true, if_false] at e5 e11 e12 e13; simp only [e5, e11, e12, e13]; refine ⟨_, _, by go_simp; first | done | rfl | exact ⟨rfl, rfl⟩, ?_⟩; refine Calls.mono (HCU.out _) ?_; rintro e w4 ⟨y, r, t, rfl, h1, h2, h3, n4, rfl⟩; exact ⟨_, rfl, ⟨y, r, t, rfl, h1, h2, h3⟩, Ext.drewN (Ext.refl _) n4⟩) ?_
          refine mo_of (fun us => us 14) (by rfl) (by rfl) (by intro us vs w1 hu hx_ hd; obtain ⟨l0, l1, l2, _⟩ := HSB2.out.ext (w' := w1) hx_; have e14 := hd 14 (by kernel_rfl); simp (decide := true) only [factAt, if_true, if_false] at e14; rw [hu 14 (by kernel_rfl)]; go_simp; first | done | rfl) ?_
          refine mo_of (fun us => tupAt (us 15) 0) (by rfl) (by rfl) (by intro us vs w1 hu hx_ hd; obtain ⟨u9, h9, e9⟩ := seen_got (hd 15 (by kernel_rfl)); have e8 := hd 14 (by kernel_rfl); simp (decide := true) only [factAt, if_true, if_false] at e8 e9; rw [h9 14 (by kernel_rfl)] at e9; obtain ⟨y8, r8, t8, e8, _⟩ := e8; rw [hu 15 (by kernel_rfl), e9, e8]; go_simp; first | done | rfl) ?_
          refine mo_of (fun us => tupAt (us 15) 1) (by rfl) (by rfl) (by intro us vs w1 hu hx_ hd; obtain ⟨u9, h9, e9⟩ := seen_got (hd 15 (by kernel_rfl)); have e8 := hd 14 (by kernel_rfl); simp (decide := true) only [factAt, if_true, if_false] at e8 e9; rw [h9 14 (by kernel_rfl)] at e9; obtain ⟨y8, r8, t8, e8, _⟩ := e8; rw [hu 15 (by kernel_rfl), e9, e8]; go_simp; first | done | rfl) ?_
          refine mo_of (fun us => us 16) (by rfl) (by rfl) (by intro us vs w1 hu hx_ hd; obtain ⟨l0, l1, l2, _⟩ := HSB2.out.ext (w' := w1) hx_; have e16 := hd 16 (by kernel_rfl); simp (decide := true) only [factAt, if_true, if_false] at e16; rw [hu 16 (by kernel_rfl)]; go_simp; first | done | rfl) ?_
          refine mo_of (fun us => us 17) (by rfl) (by rfl) (by intro us vs w1 hu hx_ hd; obtain ⟨l0, l1, l2, _⟩ := HSB2.out.ext (w' := w1) hx_; have e17 := hd 17 (by kernel_rfl); simp (decide := true) only [factAt, if_true, if_false] at e17; rw [hu 17 (by kernel_rfl)]; go_simp; first | done | rfl) ?_
          refine mo_end ?_
          intro vs w3 hx3 hd
          obtain ⟨u5, h5, e15⟩ := seen_got (hd 15 (by kernel_rfl))
          obtain ⟨u6, h6, e16⟩ := seen_got (hd 16 (by kernel_rfl))
          obtain ⟨u7, h7, e17⟩ := seen_got (hd 17 (by kernel_rfl))
          have e14 := hd 14 (by kernel_rfl)
          simp (decide := true) only [factAt, if_true, if_false] at e14 e15 e16 e17
          rw [h5 14 (by kernel_rfl)] at e15
          rw [h6 15 (by kernel_rfl)] at e16
          rw [h7 15 (by kernel_rfl)] at e17
          obtain ⟨y, rf, t, e14, ht, hy, hrf⟩ := e14
          have e16 := e16.trans (show tupAt (vs 15) 0 = .float .f64 (floorw y) by rw [e15, e14]; rfl)
          have e17 := e17.trans (show tupAt (vs 15) 1 = .float .f32 rf by rw [e15, e14]; rfl)
          obtain ⟨u8, h8, e18⟩ := seen_got (hd 18 (by kernel_rfl))
          obtain ⟨u9, h9, e19⟩ := seen_got (hd 19 (by kernel_rfl))
          simp (decide := true) only [factAt, if_true, if_false] at e18 e19
          rw [h8 16 (by kernel_rfl), e16] at e18
          rw [h9 17 (by kernel_rfl), e17] at e19
          generalize vs 18 = v18 at e18 ⊢
          generalize vs 19 = v19 at e19 ⊢
          subst e18 e19
          clear hd e14 e15 e16 e17 h5 h6 h7 h8 h9
          have hnk : Nk .f32 (cvX a V k u) := HNK.out
          obtain ⟨_, f2, f3⟩ := floor_below ht hy hnk (n := b) (by omega)
          obtain ⟨_, _, f4⟩ := floor_narrow ht hy hnk
          have hxs3 : Ext wa w3 := hxd.trans hx3
          have HSB3 := Lib.hid (HSB.out.ext hxs3)
          have HPP3 := Lib.hid (HPP.out.below (hxs3.mono (Nat.le_trans hB hx.size)))
          obtain ⟨m0, m1, m2, _⟩ := HSB3.out
          cases hI : inX a b V k u
          · have f2' : (FloatKind.f64.format.order (floorw y) (floatOfInt .f64 (b : Int)) == some .lt) = false := by rw [f2]; exact hI
            have HGS := Lib.hid (show gsum a b V L k (u + 1) = gsum a b V L k u from if_neg (by rw [hI]; decide))
            clear f2 f3 f4
            go_wp2_with (fail)
            exact ⟨⟨u + 1, r, by omega, by go_num, rfl, by rw [HGS.out]; exact HRR.out, hxs3⟩, by simp [intOf]; omega⟩
          · have f2' : (FloatKind.f64.format.order (floorw y) (floatOfInt .f64 (b : Int)) == some .lt) = true := by rw [f2]; exact hI
            obtain ⟨k4, k5, _⟩ := f3 hI
            have hrf' := hrf
            rw [f4 b (by omega) hI] at hrf'
            have HRF : Hid (Fl .f32 rf (shX a V k u)) := Lib.hid hrf'
            obtain ⟨K, hK⟩ : ∃ K, K = flo (cvX a V k u) := ⟨_, rfl⟩
            rw [← hK] at k4 k5
            have hAT : atX a V k u = u + a * K := by unfold atX; rw [hK]
            have hcv := fun W => run_convert_float_int (P := Try.prog) W 41 2 .f64 .i64 (floorw y) K s_f64 Try.underlying2 k5
            have hb3 := at_lt hab hul k4
            obtain ⟨M, hM⟩ : ∃ M, M = a * K := ⟨_, rfl⟩
            have hm2 : M ≤ n := by omega
            have hw3 : IntKind.i64.wrap ((a : Int) * (K : Int)) = (M : Int) := by rw [show (a : Int) * (K : Int) = ((a * K : Nat) : Int) by simp, ← hM]; exact IntWalk.i64_in _ (by omega)
            rw [← hM] at hb3 hAT
            obtain ⟨P1, hP1⟩ : ∃ P1, P1 = u + M := ⟨_, rfl⟩
            have hw4 : IntKind.i64.wrap ((u : Int) + (M : Int)) = (P1 : Int) := by rw [hP1]; exact IntWalk.i64_in _ (by omega)
            rw [← hP1] at hb3 hAT
            have hb3' : (P1 : Int) < (n : Int) := by omega
            obtain ⟨b7, o7, t7, rfl, hb7, hc7, ht7⟩ := HPP3.out.cell hb3
            have hkw : IntKind.i64.wrap ((K : Int) + 1) = (K : Int) + 1 := IntWalk.i64_in _ (by omega)
            have hrf9 := HRF.out
            clear f2 f3 f4 k5 hrf hrf'
            by_cases hkb : K + 1 < b
            · have hkb' : (K : Int) + 1 < (b : Int) := by omega
              have hb4 := at_lt2 hab hul hkb
              rw [← hM, ← hP1] at hb4
              obtain ⟨P2, hP2⟩ : ∃ P2, P2 = P1 + a := ⟨_, rfl⟩
              have hw5 : IntKind.i64.wrap ((P1 : Int) + (a : Int)) = (P2 : Int) := by rw [hP2]; exact IntWalk.i64_in _ (by omega)
              have HGS : Hid (gsum a b V L k (u + 1) = fop .add .f32 (fop .add .f32 (gsum a b V L k u) (fop .mul .f32 (fop .sub .f32 one32 (shX a V k u)) (L.getD P1 none))) (fop .mul .f32 (shX a V k u) (L.getD P2 none))) := Lib.hid (by rw [gsum, hI, if_pos rfl, if_pos (by rw [← hK]; exact hkb), hAT, hP2])
              rw [← hP2] at hb4
              have hb4' : (P2 : Int) < (n : Int) := by omega
              obtain ⟨b8, o8, t8, hA8, hb8, hc8, ht8⟩ := HPP3.out.cell hb4
              obtain ⟨rfl, rfl⟩ : b7 = b8 ∧ o7 = o8 := by simpa using hA8
              clear hA8 hP1 hP2 hK hAT hM
              go_wp2_with (first | (apply upon_fop rfl; (exact fl_one32); (exact hrf9); intro r1 n1 hr1) | (apply upon_fop rfl; (exact hr1); (exact ht7); intro r2 n2 hr2) | (apply upon_fop rfl; (exact HRR.out); (exact hr2); intro r3 n3 hr3))
              refine wp_region_loose 16 (by kernel_rfl) (by kernel_rfl) ?_
              simp only [List.take_succ_cons, List.take_zero, List.drop_succ_cons, List.drop_zero]
              refine la_start ?_
              refine la_fix _ (by rfl) (by intros; go_simp; rfl) ?_
              try simp only [Act.put, List.setIfInBounds_toArray, List.set_cons_zero, List.set_cons_succ]
              refine la_fix _ (by rfl) (by intros; go_simp; rfl) ?_
              try simp only [Act.put, List.setIfInBounds_toArray, List.set_cons_zero, List.set_cons_succ]
              refine la_fix _ (by rfl) (by intros; go_simp; rfl) ?_
              try simp only [Act.put, List.setIfInBounds_toArray, List.set_cons_zero, List.set_cons_succ]
              refine la_fix _ (by rfl) (by intros; go_simp; rfl) ?_
              try simp only [Act.put, List.setIfInBounds_toArray, List.set_cons_zero, List.set_cons_succ]
              refine la_fix _ (by rfl) (by intros; go_simp; rfl) ?_
              try simp only [Act.put, List.setIfInBounds_toArray, List.set_cons_zero, List.set_cons_succ]
              refine la_fix _ (by rfl) (by intros; go_simp; rfl) ?_
              try simp only [Act.put, List.setIfInBounds_toArray, List.set_cons_zero, List.set_cons_succ]
              refine la_fix _ (by rfl) (by intros; go_simp; rfl) ?_
              try simp only [Act.put, List.setIfInBounds_toArray, List.set_cons_zero, List.set_cons_succ]
              refine la_fix _ (by rfl) (by intros; go_simp; rfl) ?_
              try simp only [Act.put, List.setIfInBounds_toArray, List.set_cons_zero, List.set_cons_succ]
              refine la_fix _ (by rfl) (by intros; go_simp; rfl) ?_
              try simp only [Act.put, List.setIfInBounds_toArray, List.set_cons_zero, List.set_cons_succ]
              refine la_fix _ (by rfl) (by intros; go_simp; rfl) ?_
              try simp only [Act.put, List.setIfInBounds_toArray, List.set_cons_zero, List.set_cons_succ]
              refine la_fix _ (by rfl) (by intros; go_simp; rfl) ?_
              try simp only [Act.put, List.setIfInBounds_toArray, List.set_cons_zero, List.set_cons_succ]
              refine la_fix _ (by rfl) (by intros; go_simp; rfl) ?_
              try simp only [Act.put, List.setIfInBounds_toArray, List.set_cons_zero, List.set_cons_succ]
              refine la_fix _ (by rfl) (by intros; go_simp; rfl) ?_
              try simp only [Act.put, List.setIfInBounds_toArray, List.set_cons_zero, List.set_cons_succ]
              refine la_fix _ (by rfl) (by intros; go_simp; rfl) ?_
              try simp only [Act.put, List.setIfInBounds_toArray, List.set_cons_zero, List.set_cons_succ]
              refine la_fop (op := .mul) (by rfl) (by rfl) (by intros; refine ⟨_, _, ?_, ?_, fun q => (by go_simp; rfl)⟩ <;> (first | assumption | exact fl_fu | exact fl_fz)) ?_
              try simp only [Act.put, List.setIfInBounds_toArray, List.set_cons_zero, List.set_cons_succ]
              refine la_fop (op := .add) (by rfl) (by rfl) (by intros; refine ⟨_, _, ?_, ?_, fun q => (by go_simp; rfl)⟩ <;> (first | assumption | exact fl_fu | exact fl_fz)) ?_
              try simp only [Act.put, List.setIfInBounds_toArray, List.set_cons_zero, List.set_cons_succ]
              refine la_end ?_
              intro r5 hr5 r6 hr6 q6
              rw [← HGS.out] at hr6
              go_wp2_with (fail)
              exact ⟨⟨u + 1, r6, by omega, by go_num, rfl, hr6, Ext.trans hxs3 (by repeat (first | assumption | exact Ext.refl _ | apply Ext.drewN | apply Ext.drew | apply Ext.alloc | (refine Ext.trans ?_ (by assumption)) | (refine Ext.set ?_ (by dsimp only; omega) _)))⟩, by simp [intOf]; omega⟩
            · have hkb' : ¬ ((K : Int) + 1 < (b : Int)) := by omega
              have HGS : Hid (gsum a b V L k (u + 1) = fop .add .f32 (gsum a b V L k u) (fop .mul .f32 (fop .sub .f32 one32 (shX a V k u)) (L.getD P1 none))) := Lib.hid (by rw [gsum, hI, if_pos rfl, if_neg (by rw [← hK]; exact hkb), hAT])
              clear hP1 hK hAT hM
              go_wp2_with (first | (apply upon_fop rfl; (exact fl_one32); (exact hrf9); intro r1 n1 hr1) | (apply upon_fop rfl; (exact hr1); (exact ht7); intro r2 n2 hr2) | (apply upon_fop rfl; (exact HRR.out); (exact hr2); intro r3 n3 hr3))
              exact ⟨⟨u + 1, r3, by omega, by go_num, rfl, by rw [HGS.out]; exact hr3, Ext.trans hxs3 (by repeat (first | assumption | exact Ext.refl _ | apply Ext.drewN | apply Ext.drew | apply Ext.alloc | (refine Ext.trans ?_ (by assumption)) | (refine Ext.set ?_ (by dsimp only; omega) _)))⟩, by simp [intOf]; omega⟩
        · obtain rfl : a = u := by omega
          have hgg := hxd.blk HG.out
          have hbx := hxd.blk HBB.out
          have hzz := hxd.blk HZ.out
          obtain ⟨d0, d1, d2, _, _, _⟩ := three_c hbx
          obtain ⟨r0, f0, f1, _⟩ := HX.out.cell hgg hlt
          have HGG := Lib.hid hgg
          have HBQ := Lib.hid hbx
          have HZQ := Lib.hid hzz
          clear hgg hbx hzz
          go_wp2_with (fail)
          exact ⟨⟨k + 1, cs.setIfInBounds k (.float .f32 r), by omega, by go_num, blk_set1 HGG.out k _, by rw [Array.size_setIfInBounds]; exact HS.out, HX.out.setX HS.out hlt (by rw [fsetK_at]; exact hr) (fun j _ hj => fsetK_other _ hj), set_other HBQ.out (by dsimp only; omega), set_other HZQ.out (by dsimp only; omega), (by repeat (first | assumption | exact Ext.refl _ | apply Ext.drewN | apply Ext.drew | apply Ext.alloc | (refine Ext.trans ?_ (by assumption)) | (refine Ext.set ?_ (by dsimp only; omega) _)))⟩, by simp [intOf]; omega⟩
    · obtain rfl : k = n := by omega
      have hnlt : ¬ ((k : Int) < (k : Int)) := by omega
      obtain ⟨d0, d1, d2, _, _, _⟩ := three_c hbx
      obtain ⟨c0, c1, c2, x0, x1, x2⟩ := three_c hzz
      have HBZ := Lib.hid (fun u0 u1 u2 => blk_set1 (blk_set1 (blk_set1 hzz 0 u0) 1 u1) 2 u2)
      clear hgg hsz hrow hbx hzz
      go_wp2_with (fail)
      refine wp_region_loose 10 (by kernel_rfl) (by kernel_rfl) ?_
      simp only [List.take_succ_cons, List.take_zero, List.drop_succ_cons, List.drop_zero]
      refine la_start ?_
      refine la_fix _ (by rfl) (by intros; go_simp; rfl) ?_
      try simp only [Act.put, List.setIfInBounds_toArray, List.set_cons_zero, List.set_cons_succ]
      refine la_fix _ (by rfl) (by intros; go_simp; rfl) ?_
      try simp only [Act.put, List.setIfInBounds_toArray, List.set_cons_zero, List.set_cons_succ]
      refine la_fix _ (by rfl) (by intros; go_simp; rfl) ?_
      try simp only [Act.put, List.setIfInBounds_toArray, List.set_cons_zero, List.set_cons_succ]
      refine la_fix _ (by rfl) (by intros; go_simp; rfl) ?_
      try simp only [Act.put, List.setIfInBounds_toArray, List.set_cons_zero, List.set_cons_succ]
      refine la_fix _ (by rfl) (by intros; go_simp; rfl) ?_
      try simp only [Act.put, List.setIfInBounds_toArray, List.set_cons_zero, List.set_cons_succ]
      refine la_fix _ (by rfl) (by intros; go_simp; rfl) ?_
      try simp only [Act.put, List.setIfInBounds_toArray, List.set_cons_zero, List.set_cons_succ]
      refine la_fix _ (by rfl) (by intros; go_simp; rfl) ?_
      try simp only [Act.put, List.setIfInBounds_toArray, List.set_cons_zero, List.set_cons_succ]
      refine la_fix _ (by rfl) (by intros; go_simp; rfl) ?_
      try simp only [Act.put, List.setIfInBounds_toArray, List.set_cons_zero, List.set_cons_succ]
      refine la_fix _ (by rfl) (by intros; go_simp; rfl) ?_
      try simp only [Act.put, List.setIfInBounds_toArray, List.set_cons_zero, List.set_cons_succ]
      refine la_fix _ (by rfl) (by intros; go_simp; rfl) ?_
      try simp only [Act.put, List.setIfInBounds_toArray, List.set_cons_zero, List.set_cons_succ]
      refine la_end ?_
      intro q1
      go_wp2_with (fail)
      (try simp only [Exit.inBlock, Exit.then])
      refine bodyPost_ret (results_cell_row rfl _ _ w.heap.size 38 #[.int .i64 (a : Int), .int .i64 (b : Int), .slice (some ⟨g, 0, none⟩) k cap] (0, 0) _ rfl (HBZ.out _ _ _) Try.underlying38 rfl (by kernel_rfl)) rfl ?_
      exact ⟨_, rfl, g, cap, cs, rfl, by omega, set_other (set_other (set_other HG.out (by dsimp only; omega)) (by dsimp only; omega)) (by dsimp only; omega), hcap, HS.out, HX.out.keep (fun j hj => fsetK_all _ hj), (by repeat (first | assumption | exact Ext.refl _ | apply Ext.drewN | apply Ext.drew | apply Ext.alloc | (refine Ext.trans ?_ (by assumption)) | (refine Ext.set ?_ (by dsimp only; omega) _)))⟩
end Go.Proofs.Ytddemhlhlbpecaa
