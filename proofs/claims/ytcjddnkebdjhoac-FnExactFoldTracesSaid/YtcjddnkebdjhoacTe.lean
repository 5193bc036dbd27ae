/- Contracts: traces the other way round, on both sides. Condition: the list is read. -/
import Derived.Test.YtcjddnkebdjhoacTg
namespace Go.Proofs.Ytcjddnkebdjhoac
open Go.RowKit Ieee


set_option maxRecDepth 20000 in
set_option maxHeartbeats 4000000 in
theorem c_impl_MirrorTrace {w : World} {B n c : Nat} {A : Option Addr} {L : List (Option Nat)} (h : RdF w B A n L) (hB : B ≤ w.heap.size) (hn : n ≤ 1048576) :
    Calls Try.prog 20 #[.slice A n c] w fun e w' => RetL w e w' (tlen n) (lst (fmirror L) n) := by
  cases hV : tlen n
  · go_enter Try.func20, Try.ntmps20
    go_wp2_with (go_at_call 26; refine Calls.mono (c_IsTrace _ _ _ _) ?_; rw [hV]; rintro e w1 ⟨rfl, rfl⟩)
    go_ret2
    exact retL_no rfl (by repeat (first | assumption | exact Ext.refl _ | apply Ext.drewN | apply Ext.drew | apply Ext.alloc | (refine Ext.trans ?_ (by assumption)) | (refine Ext.set ?_ (by dsimp only; omega) _)))
  have hl := Lib.hid h.len
  have hpos : 0 < n := (tlen_of hV).1
  go_enter Try.func20, Try.ntmps20
  go_wp2_with (first | (go_at_call 26; refine Calls.mono (c_IsTrace _ _ _ _) ?_; rw [hV]; rintro e w1 ⟨rfl, rfl⟩) | (go_at_call 84; refine Calls.mono (c_cloneF h hB hn hpos) ?_; rintro e w2 ⟨g, cs, c2, rfl, hg1, hg2, hg3, hg4, hx2⟩) | (go_at_call 85; refine Calls.mono (c_revF hg2 hg3 hg4 hn hpos) ?_; rintro e w3 ⟨rfl, cs3, hh2, hh3, hh4, hk3⟩))
  go_ret2
  have hx3 := hk3.ext hx2 hg1
  refine ⟨_, _, _, rfl, (rowF_lst' (hh4.keep (G := fmirror L) (fun j hj => ?_)) hh2 hh3).more hg1 (Nat.le_refl _), hx3⟩
  unfold fmirror; rw [hl.out]

end Go.Proofs.Ytcjddnkebdjhoac
