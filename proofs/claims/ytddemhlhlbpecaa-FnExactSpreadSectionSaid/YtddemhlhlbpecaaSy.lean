/- A share that is told: what it changes. Condition: the row and the values are read. -/
import Derived.Test.YtddemhlhlbpecaaSw
namespace Go.Proofs.Ytddemhlhlbpecaa
open Go.RowKit Ieee
set_option linter.unusedVariables false
set_option linter.unusedSimpArgs false

def upT (L : List (Option Nat)) (i : Nat) (F : Nat → Option Nat) (t : Nat) (Sh : Option Nat) : Nat → Option Nat := upd1 F t (fop .add .f32 (F t) (fop .mul .f32 (L.getD i none) Sh))
def upB (L : List (Option Nat)) (i : Nat) (F : Nat → Option Nat) (t : Nat) (Sh : Option Nat) : Nat → Option Nat := upd1 F i (fop .add .f32 (F i) (fop .mul .f32 Sh (L.getD t none)))
theorem rowF_upd {cs : Array Value} {n t r : Nat} {F : Nat → Option Nat} {X : Option Nat} (h : RowF cs n F) (hs : n ≤ cs.size) (ht : t < n) (hr : Fl .f32 r X) : RowF (cs.setIfInBounds t (.float .f32 r)) n (upd1 F t X) :=
  h.setX hs ht (by unfold upd1; rw [if_pos rfl]; exact hr) (fun j _ hj => by unfold upd1; rw [if_neg hj])
set_option maxRecDepth 20000 in
set_option maxHeartbeats 4000000 in
theorem c_carryThere {w : World} {g n cg : Nat} {cs : Array Value} {F : Nat → Option Nat} (hg : w.heap[g]? = some (.cells cs 22 (0, 0))) (hs : n ≤ cs.size) (hrow : RowF cs n F) {B c : Nat} {A : Option Addr} {L : List (Option Nat)} (hp : RdF w B A n L) {i t : Nat} (hi : i < n) (ht : t < n) {r : Nat} {Sh : Option Nat} (fr : Fl .f32 r Sh) :
    Calls Try.prog 81 #[.slice (some ⟨g, 0, none⟩) n cg, .slice A n c, .int .i64 (i : Int), .int .i64 (t : Int), .float .f32 r] w fun e w' => e = .returned (.tuple #[]) ∧ ∃ r9 q9, Fl .f32 r9 (fop .add .f32 (F t) (fop .mul .f32 (L.getD i none) Sh)) ∧ w' = (w.drewN q9).setCell ⟨g, t, none⟩ (.float .f32 r9) := by
  obtain ⟨r0, c7, z7, h7r⟩ := hrow.cell hg (show t < n by omega)
  obtain ⟨b7, o7, t7, rfl, hb7, hc7, ht7⟩ := hp.cell (show i < n by omega)
  have hiI : (i : Int) < (n : Int) := by omega
  have htI : (t : Int) < (n : Int) := by omega
  go_enter Try.func81, Try.ntmps81
  go_wp2_with (fail)
  refine wp_region_loose 12 (by kernel_rfl) (by kernel_rfl) ?_
  simp only [List.take_succ_cons, List.take_zero, List.drop_succ_cons, List.drop_zero]
  refine la_start ?_
  refine la_fix _ (by rfl) (by intros; go_simp; rfl) ?_
  try simp only [Act.put, List.setIfInBounds_toArray, List.set_cons_zero, List.set_cons_succ]
  refine la_fix _ (by rfl) (by intros; go_simp; rfl) ?_
  try simp only [Act.put, List.setIfInBounds_toArray, List.set_cons_zero, List.set_cons_succ]
  refine la_fix _ (by rfl) (by intros; go_simp; rfl) ?_
  try simp only [Act.put, List.setIfInBounds_toArray, List.set_cons_zero, List.set_cons_succ]
  refine la_fix _ (by rfl) (by intros; go_simp; rfl) ?_
  try simp only [Act.put, List.setIfInBounds_toArray, List.set_cons_zero, List.set_cons_succ]
  refine la_fix _ (by rfl) (by intros; go_simp; rfl) ?_
  try simp only [Act.put, List.setIfInBounds_toArray, List.set_cons_zero, List.set_cons_succ]
  refine la_fix _ (by rfl) (by intros; go_simp; rfl) ?_
  try simp only [Act.put, List.setIfInBounds_toArray, List.set_cons_zero, List.set_cons_succ]
  refine la_fix _ (by rfl) (by intros; go_simp; rfl) ?_
  try simp only [Act.put, List.setIfInBounds_toArray, List.set_cons_zero, List.set_cons_succ]
  refine la_fix _ (by rfl) (by intros; go_simp; rfl) ?_
  try simp only [Act.put, List.setIfInBounds_toArray, List.set_cons_zero, List.set_cons_succ]
  refine la_fix _ (by rfl) (by intros; go_simp; rfl) ?_
  try simp only [Act.put, List.setIfInBounds_toArray, List.set_cons_zero, List.set_cons_succ]
  refine la_callF (k := .f32) (by rfl) (by intros; refine ⟨_, fun q => (by go_simp; first | rfl | exact ⟨rfl, rfl⟩), fun q => ?_⟩; exact c_mulNumbers ht7 fr _) ?_
  try simp only [Act.put, List.setIfInBounds_toArray, List.set_cons_zero, List.set_cons_succ]
  refine la_fop (op := .add) (by rfl) (by rfl) (by intros; refine ⟨_, _, ?_, ?_, fun q => (by go_simp; rfl)⟩ <;> (first | assumption | exact fl_fu | exact fl_fz)) ?_
  try simp only [Act.put, List.setIfInBounds_toArray, List.set_cons_zero, List.set_cons_succ]
  refine la_fix _ (by rfl) (by intros; go_simp; rfl) ?_
  try simp only [Act.put, List.setIfInBounds_toArray, List.set_cons_zero, List.set_cons_succ]
  refine la_end ?_
  intro r5 hr5 r6 hr6 q6
  go_wp2_with (fail)
  go_end0
  exact ⟨rfl, r6, q6, hr6, rfl⟩
set_option maxRecDepth 20000 in
set_option maxHeartbeats 4000000 in
theorem c_carryBack {w : World} {g n cg : Nat} {cs : Array Value} {F : Nat → Option Nat} (hg : w.heap[g]? = some (.cells cs 22 (0, 0))) (hs : n ≤ cs.size) (hrow : RowF cs n F) {B c : Nat} {A : Option Addr} {L : List (Option Nat)} (hp : RdF w B A n L) {i t : Nat} (hi : i < n) (ht : t < n) {r : Nat} {Sh : Option Nat} (fr : Fl .f32 r Sh) :
    Calls Try.prog 83 #[.slice (some ⟨g, 0, none⟩) n cg, .slice A n c, .int .i64 (i : Int), .int .i64 (t : Int), .float .f32 r] w fun e w' => e = .returned (.tuple #[]) ∧ ∃ r9 q9, Fl .f32 r9 (fop .add .f32 (F i) (fop .mul .f32 Sh (L.getD t none))) ∧ w' = (w.drewN q9).setCell ⟨g, i, none⟩ (.float .f32 r9) := by
  obtain ⟨r0, c7, z7, h7r⟩ := hrow.cell hg (show i < n by omega)
  obtain ⟨b7, o7, t7, rfl, hb7, hc7, ht7⟩ := hp.cell (show t < n by omega)
  have hiI : (i : Int) < (n : Int) := by omega
  have htI : (t : Int) < (n : Int) := by omega
  go_enter Try.func83, Try.ntmps83
  go_wp2_with (fail)
  refine wp_region_loose 12 (by kernel_rfl) (by kernel_rfl) ?_
  simp only [List.take_succ_cons, List.take_zero, List.drop_succ_cons, List.drop_zero]
  refine la_start ?_
  refine la_fix _ (by rfl) (by intros; go_simp; rfl) ?_
  try simp only [Act.put, List.setIfInBounds_toArray, List.set_cons_zero, List.set_cons_succ]
  refine la_fix _ (by rfl) (by intros; go_simp; rfl) ?_
  try simp only [Act.put, List.setIfInBounds_toArray, List.set_cons_zero, List.set_cons_succ]
  refine la_fix _ (by rfl) (by intros; go_simp; rfl) ?_
  try simp only [Act.put, List.setIfInBounds_toArray, List.set_cons_zero, List.set_cons_succ]
  refine la_fix _ (by rfl) (by intros; go_simp; rfl) ?_
  try simp only [Act.put, List.setIfInBounds_toArray, List.set_cons_zero, List.set_cons_succ]
  refine la_fix _ (by rfl) (by intros; go_simp; rfl) ?_
  try simp only [Act.put, List.setIfInBounds_toArray, List.set_cons_zero, List.set_cons_succ]
  refine la_fix _ (by rfl) (by intros; go_simp; rfl) ?_
  try simp only [Act.put, List.setIfInBounds_toArray, List.set_cons_zero, List.set_cons_succ]
  refine la_fix _ (by rfl) (by intros; go_simp; rfl) ?_
  try simp only [Act.put, List.setIfInBounds_toArray, List.set_cons_zero, List.set_cons_succ]
  refine la_fix _ (by rfl) (by intros; go_simp; rfl) ?_
  try simp only [Act.put, List.setIfInBounds_toArray, List.set_cons_zero, List.set_cons_succ]
  refine la_fix _ (by rfl) (by intros; go_simp; rfl) ?_
  try simp only [Act.put, List.setIfInBounds_toArray, List.set_cons_zero, List.set_cons_succ]
  refine la_callF (k := .f32) (by rfl) (by intros; refine ⟨_, fun q => (by go_simp; first | rfl | exact ⟨rfl, rfl⟩), fun q => ?_⟩; exact c_mulNumbers fr ht7 _) ?_
  try simp only [Act.put, List.setIfInBounds_toArray, List.set_cons_zero, List.set_cons_succ]
  refine la_fop (op := .add) (by rfl) (by rfl) (by intros; refine ⟨_, _, ?_, ?_, fun q => (by go_simp; rfl)⟩ <;> (first | assumption | exact fl_fu | exact fl_fz)) ?_
  try simp only [Act.put, List.setIfInBounds_toArray, List.set_cons_zero, List.set_cons_succ]
  refine la_fix _ (by rfl) (by intros; go_simp; rfl) ?_
  try simp only [Act.put, List.setIfInBounds_toArray, List.set_cons_zero, List.set_cons_succ]
  refine la_end ?_
  intro r5 hr5 r6 hr6 q6
  go_wp2_with (fail)
  go_end0
  exact ⟨rfl, r6, q6, hr6, rfl⟩
end Go.Proofs.Ytddemhlhlbpecaa
