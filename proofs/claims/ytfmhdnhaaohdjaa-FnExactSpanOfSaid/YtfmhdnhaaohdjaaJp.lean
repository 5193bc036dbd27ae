/- Contract: frames in order, the program. Condition: the list is read.
In this text: Contract: SortFrames, the program. Condition: the list is read. -/
import Derived.Test.YtfmhdnhaaohdjaaJm
namespace Go.Proofs.Ytfmhdnhaaohdjaa
open Go.RowKit Go.ChangeShapes Go.WideShapes Go.Deep Ieee
set_option linter.unusedVariables false
set_option linter.unusedSimpArgs false

theorem RowsM.fill {w : World} {base g b : Nat} {f : Nat → Nat} {cs : Array Value} {k n : Nat} {R : List Sct} (h : RowsM w base g f cs k R) (hs : n * 3 ≤ cs.size) (hk : k < n) {A' : Option Addr} {c' : Nat}
    (h0 : cs[k * 3]? = some (.int .i64 (R.getD k noT).x)) (h1 : cs[k * 3 + 1]? = some (.int .i64 (R.getD k noT).z))
    (ho : OwL w b (b + 1) A' (R.getD k noT).v.length (R.getD k noT).v) (hc : (R.getD k noT).v.length ≤ c') (hb : b ≠ g) (hbb : base ≤ b) (hbs : b < w.heap.size) (hn : ∀ j, j < k → f j ≠ b) :
    RowsM w base g (fun j => if j < k then f j else b) (cs.setIfInBounds (k * 3 + 2) (.slice A' (R.getD k noT).v.length c')) (k + 1) R := by
  refine ⟨fun j hj => ?_, fun i j hi hj => ?_⟩
  · by_cases hjk : j = k
    · subst hjk
      simp only [Nat.lt_irrefl, if_false]
      refine ⟨A', c', ⟨?_, ?_, ?_⟩, ho, hc, hb, hbb, hbs⟩
      · rw [Array.getElem?_setIfInBounds_ne (by omega)]; exact h0
      · rw [Array.getElem?_setIfInBounds_ne (by omega)]; exact h1
      · rw [Array.getElem?_setIfInBounds_self_of_lt (by omega)]
    · have hlt : j < k := by omega
      simp only [hlt, if_true]
      obtain ⟨A2, c2, ⟨e0, e1, e2⟩, h2⟩ := h.at_ j hlt
      refine ⟨A2, c2, ⟨?_, ?_, ?_⟩, h2⟩
      · rw [Array.getElem?_setIfInBounds_ne (by omega)]; exact e0
      · rw [Array.getElem?_setIfInBounds_ne (by omega)]; exact e1
      · rw [Array.getElem?_setIfInBounds_ne (by omega)]; exact e2
  · by_cases hjk : j = k
    · subst hjk
      simp only [hi, if_true, Nat.lt_irrefl, if_false]
      exact hn i hi
    · have hlt : j < k := by omega
      have hlt' : i < k := by omega
      simp only [hlt, hlt', if_true]
      exact h.inj i j hi hlt
set_option maxRecDepth 20000 in
set_option maxHeartbeats 4000000 in
theorem c_cloneM {w : World} {B n c : Nat} {A : Option Addr} {R : List Sct} (h : RdM w B A n R) (hB : B ≤ w.heap.size) (hn : n ≤ 1048576) (hpos : 0 < n) :
    Calls Try.prog 73 #[.slice A n c] w fun e w' => ∃ g cs c', e = .returned (.slice (some ⟨g, 0, none⟩) n c') ∧ w.heap.size ≤ g ∧ n ≤ c' ∧ w'.heap[g]? = some (.cells cs 27 (0, 0)) ∧ n * 3 ≤ cs.size ∧
      (∀ j, j < n → cs[j * 3]? = some (.int .i64 (R.getD j noT).x) ∧ cs[j * 3 + 1]? = some (.int .i64 (R.getD j noT).z)) ∧ Ext w w' := by
  obtain ⟨i0, hi, hz0, hz1, hz2⟩ := info_parts info_frame
  obtain ⟨V, hVl, hVs, _, hVc⟩ := h.ents
  obtain ⟨b, off, _, _, hA, hb, _⟩ := h.cell hpos
  subst hA
  have hnl := entsV_len V
  rw [hVl] at hnl
  have HR := Lib.hid (hVc b off rfl)
  have HV := Lib.hid hVl
  have HS := Lib.hid hVs
  clear hVc hVl hVs
  have hnil := fun W : World => Go.Lib.run_eql_slice_nil (P := Try.prog) W 34 27 (some ⟨b, off, none⟩) n c 0 0 Try.underlying34
  go_enter Try.func73, Try.ntmps73
  go_wp2_with (at_builtin; refine wpList_append_own _ rfl _ _ 34 rfl w.heap.size 27 i0 (.agg #[.int .i64 0, .int .i64 0, .slice none 0 0]) 3 40 Try.underlying34 hi hz0 hz1 hz2 rfl (by decide) _ _ _ rfl (World.ownsRow_made _ _ 0 (Nat.le_refl _) (Nat.zero_le _) rfl) ⟨b, off, none⟩ n c (entsV V) rfl hnl ?_ ?_ ?_ ?_ ?_ ?_)
  all_goals first
    | (intro j u hj
       have e0 : (⟨b, off, none⟩ : Addr).add j = ⟨b, off + j, none⟩ := by simp [Addr.add]
       rw [e0]
       exact ((Ext.alloc (Ext.refl w) _).cell (by show b < _; omega)).trans (HR.out j u hj))
    | exact entsV_one' V
    | (unfold maxLen; omega)
    | omega
    | (simp; done)
    | (intro v' w4 hown' hgrow _
       have hx' : Ext w w4 := grown_ext (Ext.alloc (Ext.refl w) _) (World.ownsRow_made _ _ 0 (Nat.le_refl _) (Nat.zero_le _) rfl) hgrow
       obtain ⟨hlen, hd⟩ := hown'
       rcases hd with ⟨hv, h0⟩ | ⟨g, cap, cur, rfl, hbg, hg, hnc, _, hcs, htk⟩
       · omega
       have HG := Lib.hid hg
       have HT := Lib.hid htk
       have HC := Lib.hid hcs
       clear hg htk hcs hlen hgrow
       go_wp2_with (fail)
       go_ret
       refine ⟨g, cur, cap, by first | rfl | simp, hbg, hnc, HG.out, by have := HC.out; omega, fun j hj => ?_, hx'⟩
       have hc : ∀ i, i < n * 3 → cur[i]? = (entsV V)[i]? := fun i hi => by
         have ht := HT.out
         try simp only [Nat.zero_add, List.nil_append] at ht
         rw [← ht, List.getElem?_take_of_lt hi]; simp
       obtain ⟨c0, c1, _⟩ := entsV_three V j (by rw [HV.out]; exact hj)
       have es := entS_at V j
       rw [HS.out] at es
       rw [es]
       exact ⟨(hc _ (by omega)).trans c0, (hc _ (by omega)).trans c1⟩)
set_option maxRecDepth 20000 in
set_option maxHeartbeats 4000000 in
theorem c_cloneM0 {w : World} {c : Nat} {A : Option Addr} :
    Calls Try.prog 73 #[.slice A 0 c] w fun e w' => ∃ A' c', e = .returned (.slice A' 0 c') ∧ Ext w w' := by
  obtain ⟨i0, hi, hz0, hz1, hz2⟩ := info_parts info_frame
  have hnil := fun W : World => Go.Lib.run_eql_slice_nil (P := Try.prog) W 34 27 A 0 c 0 0 Try.underlying34
  cases A with
  | none =>
    go_enter Try.func73, Try.ntmps73
    go_wp2_with (fail)
    go_ret
    exact ⟨_, _, rfl, Ext.refl _⟩
  | some ad =>
    go_enter Try.func73, Try.ntmps73
    go_wp2_with (at_builtin; refine wpList_append_own _ rfl _ _ 34 rfl w.heap.size 27 i0 (.agg #[.int .i64 0, .int .i64 0, .slice none 0 0]) 3 40 Try.underlying34 hi hz0 hz1 hz2 rfl (by decide) _ _ _ rfl (World.ownsRow_made _ _ 0 (Nat.le_refl _) (Nat.zero_le _) rfl) ad 0 c [] rfl rfl ?_ ?_ ?_ ?_ ?_ ?_)
    all_goals first
      | (intro j u hj; simp at hj; done)
      | (intro u hu; cases hu; done)
      | (unfold maxLen; omega)
      | omega
      | (simp; done)
      | (intro v' w4 hown' hgrow _
         have hx' : Ext w w4 := grown_ext (Ext.alloc (Ext.refl w) _) (World.ownsRow_made _ _ 0 (Nat.le_refl _) (Nat.zero_le _) rfl) hgrow
         obtain ⟨hlen, hd⟩ := hown'
         rcases hd with ⟨rfl, h0⟩ | ⟨g, cap, cur, rfl, hbg, hg, hnc, _, hcs, htk⟩
         · clear hlen hgrow
           go_wp2_with (fail)
           go_ret
           first | exact ⟨_, _, rfl, hx'⟩ | exact ⟨⟨_, _, rfl⟩, hx'⟩
         · clear hg htk hcs hlen hgrow
           go_wp2_with (fail)
           go_ret
           first | exact ⟨_, _, rfl, hx'⟩ | exact ⟨⟨_, _, rfl⟩, hx'⟩)
set_option maxRecDepth 20000 in
set_option maxHeartbeats 1000000 in
theorem c_insSort0 {w : World} {c : Nat} {A : Option Addr} :
    Calls Try.prog 97 #[.slice A 0 c, .int .i64 0, .int .i64 0, .func (.func 75) #[] #[]] w fun e w' => e = .returned (.tuple #[]) ∧ w' = w := by
  go_enter Try.func97, Try.ntmps97
  go_wp2_with (fail)
  go_loopw [8] (fun y wr => y = .int .i64 1 ∧ wr = w) (fun y _ => 0)
  case atStart => exact ⟨rfl, rfl⟩
  case round =>
    obtain ⟨rfl, rfl⟩ := hrel
    go_wp2_with (fail)
    refine bodyPost_end (results_none rfl _ _ _) rfl ?_
    exact ⟨rfl, rfl⟩
set_option maxRecDepth 20000 in
set_option maxHeartbeats 4000000 in
theorem c_stable {w : World} {n c : Nat} {A : Option Addr} {K : World → Prop} (hn : n ≤ 12) (hK : Calls Try.prog 97 #[.slice A n c, .int .i64 0, .int .i64 (n : Int), .func (.func 75) #[] #[]] w fun e w' => e = .returned (.tuple #[]) ∧ K w') :
    Calls Try.prog 90 #[.slice A n c, .int .i64 (n : Int), .func (.func 75) #[] #[]] w fun e w' => e = .returned (.tuple #[]) ∧ K w' := by
  have h1 : ¬ ((20 : Int) ≤ (n : Int)) := by omega
  have h2 : ¬ ((20 : Int) < (n : Int)) := by omega
  have HK := Lib.hid hK
  clear hK
  go_enter Try.func90, Try.ntmps90
  go_wp2_with (fail)
  go_loopw [7, 8] (fun y z wr => y = .int .i64 0 ∧ z = .int .i64 20 ∧ wr = w) (fun _ _ _ => 0)
  case atStart => exact ⟨rfl, rfl, rfl⟩
  case round =>
    obtain ⟨rfl, rfl, rfl⟩ := hrel
    go_wp2_with (go_at_call 97; refine Calls.mono HK.out ?_; rintro e w2 ⟨rfl, hk2⟩)
    obtain ⟨wa, hwa⟩ : ∃ wa, wa = w2 := ⟨_, rfl⟩
    subst hwa
    go_loopw [6] (fun a wr => a = .int .i64 20 ∧ wr = wa) (fun _ _ => 0)
    case atStart => exact ⟨rfl, rfl⟩
    case round =>
      obtain ⟨rfl, rfl⟩ := hrel
      go_wp2_with (fail)
      refine bodyPost_end (results_none rfl _ _ _) rfl ?_
      exact ⟨rfl, hk2⟩
set_option maxRecDepth 20000 in
set_option maxHeartbeats 4000000 in
theorem c_sortStable {w : World} {n c : Nat} {A : Option Addr} {K : World → Prop} (hn : n ≤ 12) (hK : Calls Try.prog 97 #[.slice A n c, .int .i64 0, .int .i64 (n : Int), .func (.func 75) #[] #[]] w fun e w' => e = .returned (.tuple #[]) ∧ K w') :
    Calls Try.prog 74 #[.slice A n c, .func (.func 75) #[] #[]] w fun e w' => e = .returned (.tuple #[]) ∧ K w' := by
  have HS := Lib.hid (c_stable hn hK)
  clear hK
  go_enter Try.func74, Try.ntmps74
  go_wp2_with (go_at_call 90; refine Calls.mono HS.out ?_; rintro e w2 ⟨rfl, hk2⟩)
  refine bodyPost_end (results_none rfl _ _ _) rfl ?_
  exact ⟨rfl, hk2⟩
end Go.Proofs.Ytfmhdnhaaohdjaa
namespace Go.Proofs.Ytfmhdnhaaohdjaa
open Go.RowKit Go.ChangeShapes Go.WideShapes Go.Deep Ieee
set_option linter.unusedVariables false
set_option linter.unusedSimpArgs false

def outM (ok : Bool) (Q : List Sct) : List Sct := if ok = true then Q else []
/-- The same, and the list fits. -/
def RetMC (w : World) (e : Ending) (w' : World) (ok : Bool) (q : Nat) (Q : List Sct) : Prop :=
  ∃ A c, e = .returned (.tuple #[.slice A q c, .bool ok]) ∧ OwM w' w.heap.size w'.heap.size A q Q ∧ Ext w w' ∧ q ≤ c
theorem RetMC.q {w w' : World} {e : Ending} {ok : Bool} {q : Nat} {Q : List Sct} (h : RetMC w e w' ok q Q) : RetMQ w e w' ok q Q := by
  obtain ⟨A, c, h1, h2, h3, _⟩ := h
  exact ⟨A, c, h1, h2, h3⟩
theorem retMC_no {w w' : World} {ok : Bool} {Q : List Sct} (ho : ok = false) (hx : Ext w w') : RetMC w (.returned (.tuple #[.slice none 0 0, .bool false])) w' ok (outM ok Q).length (outM ok Q) := by
  subst ho; exact ⟨none, 0, rfl, OwM.nil _ _ _ _, hx, Nat.le_refl _⟩
theorem retMQ_no {w w' : World} {ok : Bool} {Q : List Sct} (ho : ok = false) (hx : Ext w w') : RetMQ w (.returned (.tuple #[.slice none 0 0, .bool false])) w' ok (outM ok Q).length (outM ok Q) := by
  subst ho; exact ⟨none, 0, rfl, OwM.nil _ _ _ _, hx⟩
set_option maxRecDepth 20000 in
set_option maxHeartbeats 4000000 in
theorem c_impl_SortFramesC {w : World} {B n c : Nat} {A : Option Addr} {R : List Sct} (h : RdM w B A n R) (hB : B ≤ w.heap.size) (hn : n ≤ 1048576) (hr : ∀ j, j < n → (R.getD j noT).v.length ≤ 1048576) :
    Calls Try.prog 38 #[.slice A n c] w fun e w' => RetMC w e w' (areM R) (outM (areM R) (sortM R R.length)).length (outM (areM R) (sortM R R.length)) := by
  have hlen := h.len
  have cA := c_impl_AreFrames (c := c) h hB hn hr
  have CA := Lib.hid cA
  clear cA
  cases hok : areM R
  · have HO := Lib.hid hok
    go_enter Try.func38, Try.ntmps38
    go_wp2_with (go_at_call 23; refine Calls.mono CA.out ?_; rw [hok]; rintro e w1 ⟨rfl, hx1⟩)
    go_ret2
    exact retMC_no rfl hx1
  obtain ⟨hn12, hval⟩ := areM_of hok
  rw [hlen] at hn12 hval
  have hout : outM true (sortM R R.length) = sortM R n := by rw [hlen]; rfl
  rw [hout, sortM_len]
  have HOK := Lib.hid hok
  clear hok hout
  rcases Nat.eq_zero_or_pos n with rfl | hpos
  · have cC := fun W => c_cloneM0 (w := W) (c := c) (A := A)
    go_enter Try.func38, Try.ntmps38
    go_wp2_with (first | (go_at_call 23; refine Calls.mono CA.out ?_; rw [HOK.out]; rintro e w1 ⟨rfl, hx1⟩) | (go_at_call 73; refine Calls.mono (cC _) ?_; rintro e w2 ⟨A2, c2, rfl, hx2⟩))
    obtain ⟨wa, hwa⟩ : ∃ wa, wa = w2 := ⟨_, rfl⟩
    subst hwa
    go_loopw [14] (fun i wr => i = .int .i64 0 ∧ wr = wa) (fun _ _ => 0)
    case atStart => exact ⟨rfl, rfl⟩
    case round =>
      obtain ⟨rfl, rfl⟩ := hrel
      go_wp2_with (go_at_call 74; refine Calls.mono (c_sortStable (K := fun w' => w' = wr) (by omega) c_insSort0) ?_; rintro e w3 ⟨rfl, rfl⟩)
      go_ret2
      exact ⟨A2, c2, rfl, by rw [show sortM R 0 = [] from rfl]; exact OwM.nil _ _ _ _, hx1.trans hx2, Nat.zero_le _⟩
  · have cC := fun (W : World) (hW : Ext w W) => c_cloneM (w := W) (c := c) (h.below (hW.mono hB)) (Nat.le_trans hB hW.size) hn hpos
    have CC := Lib.hid cC
    clear cC
    go_enter Try.func38, Try.ntmps38
    go_wp2_with (first | (go_at_call 23; refine Calls.mono CA.out ?_; rw [HOK.out]; rintro e w1 ⟨rfl, hx1⟩) | (go_at_call 73; refine Calls.mono (CC.out _ hx1) ?_; rintro e w2 ⟨g, cs, c2, rfl, hg, hc2, hG, hsz, hxz, hx2⟩))
    have hgw : w.heap.size ≤ g := Nat.le_trans hx1.size hg
    have hxx := hx1.trans hx2
    have hgs := blk_lt hG
    have hat : ∃ (f : Nat → Nat) (cs : Array Value), w2.heap[g]? = some (.cells cs 27 (0, 0)) ∧ n * 3 ≤ cs.size ∧ RowsM w2 w.heap.size g f cs 0 R ∧ (∀ j, 0 ≤ j → j < n → cs[j * 3]? = some (.int .i64 (R.getD j noT).x) ∧ cs[j * 3 + 1]? = some (.int .i64 (R.getD j noT).z)) ∧ Ext w w2 :=
      ⟨fun _ => 0, cs, hG, hsz, RowsM.zero _ _ _ _ _ _, fun j _ hj => hxz j hj, hxx⟩
    clear hG hsz hxz hx2 hg hxx
    go_loopw [14] (fun i wr => ∃ k : Nat, k ≤ n ∧ i = .int .i64 k ∧ ∃ (f : Nat → Nat) (cs : Array Value), wr.heap[g]? = some (.cells cs 27 (0, 0)) ∧ n * 3 ≤ cs.size ∧ RowsM wr w.heap.size g f cs k R ∧ (∀ j, k ≤ j → j < n → cs[j * 3]? = some (.int .i64 (R.getD j noT).x) ∧ cs[j * 3 + 1]? = some (.int .i64 (R.getD j noT).z)) ∧ Ext w wr) (fun i _ => n - (intOf i).toNat)
    case atStart => exact ⟨0, Nat.zero_le _, rfl, hat⟩
    case round =>
      clear hat
      obtain ⟨k, hk, rfl, f, cs, hG, hsz, hrows, hxz, hx⟩ := hrel
      by_cases hlt : k < n
      · have hlt' : (k : Int) < (n : Int) := by omega
        obtain ⟨b1, o1, A1, c1, rfl, hb1, ⟨d0, d1, d2⟩, hrd, hlc⟩ := (h.below (hx.mono hB)).cell hlt
        obtain ⟨_, _, _, _, hl1, hl2, _⟩ := fvF_of (hval k hlt)
        have hbw := Nat.le_trans hB hx.size
        obtain ⟨e0, e1⟩ := hxz k (Nat.le_refl _) hlt
        obtain ⟨S, hS⟩ : ∃ S, R.getD k noT = S := ⟨_, rfl⟩
        have HSK := Lib.hid hS
        rw [hS] at d0 d1 d2 hrd hlc e0 e1 hl1 hl2
        have cK := fun (W : World) (hX : Ext wr W) => c_cloneG (w := W) (c := c1) (hrd.below (hX.mono hbw)) (Nat.le_trans hbw hX.size) (by omega) (by omega)
        obtain ⟨q0, q1, q2⟩ : SbAt (wr.alloc (.cells #[.int .i64 S.x, .int .i64 S.z, .slice A1 S.v.length c1] 27)) wr.heap.size S.x S.z A1 S.v.length c1 := SbAt.blk (T := 27) (by repeat (first | (refine al_at ?_ ?_ <;> first | rfl | (simp only [al_size] <;> omega)) | apply al_old))
        have CK := Lib.hid cK
        have HXZ := Lib.hid hxz
        have HROW := Lib.hid hrows
        have HE0 := Lib.hid e0
        have HE1 := Lib.hid e1
        have HGR := Lib.hid hG
        have HLC := Lib.hid hl1
        have h3 := hsz
        clear cK hxz hrows e0 e1 hrd hlc hS hval
        go_wp2_with (go_at_call 71; refine Calls.mono (CK.out _ (by repeat (first | assumption | exact Ext.refl _ | apply Ext.drewN | apply Ext.drew | apply Ext.alloc | (refine Ext.trans ?_ (by assumption)) | (refine Ext.set ?_ (by dsimp only; omega) _)))) ?_; rintro e w3 ⟨g1, cs1, c3, rfl, hg1, hc3, hG1, hs1, hr1, hx3⟩; have hxr : Ext wr w3 := (show Ext wr (wr.alloc _) from (by repeat (first | assumption | exact Ext.refl _ | apply Ext.drewN | apply Ext.drew | apply Ext.alloc | (refine Ext.trans ?_ (by assumption)) | (refine Ext.set ?_ (by dsimp only; omega) _)))).trans hx3; have hG3 := hxr.blk HGR.out; obtain ⟨u0, u1, u2, y0, y1, y2, z0, z1, z2⟩ := three_of_row hG3 hsz hlt)
        have hgk : g1 ≠ g := by
          have := (show Ext wr (wr.alloc (.cells #[.int .i64 S.x, .int .i64 S.z, .slice A1 S.v.length c1] 27)) from (by repeat (first | assumption | exact Ext.refl _ | apply Ext.drewN | apply Ext.drew | apply Ext.alloc | (refine Ext.trans ?_ (by assumption)) | (refine Ext.set ?_ (by dsimp only; omega) _)))).size
          have := blk_lt HGR.out
          omega
        have hg1w : wr.heap.size ≤ g1 := Nat.le_trans (show Ext wr (wr.alloc (.cells #[.int .i64 S.x, .int .i64 S.z, .slice A1 S.v.length c1] 27)) from (by repeat (first | assumption | exact Ext.refl _ | apply Ext.drewN | apply Ext.drew | apply Ext.alloc | (refine Ext.trans ?_ (by assumption)) | (refine Ext.set ?_ (by dsimp only; omega) _)))).size hg1
        have hown : OwL w3 g1 (g1 + 1) (some ⟨g1, 0, none⟩) S.v.length S.v := by
          have h7 := rowF_lst' hr1 hG1 hs1
          rw [lst_self rfl] at h7
          exact h7.at0
        have hown2 : OwL (w3.setCell ⟨g, k * 3 + 2, none⟩ (.slice (some ⟨g1, 0, none⟩) S.v.length c3)) g1 (g1 + 1) (some ⟨g1, 0, none⟩) S.v.length S.v :=
          hown.same (fun b h7 h8 => by
            have : b = g1 := by omega
            rw [this]; exact Below.heap_setCell w3 _ _ _ hgk)
        have hst := (HROW.out.ext hxr).set (k * 3 + 2) (.slice (some ⟨g1, 0, none⟩) S.v.length c3)
        have hrs := fun (E0 : cs[k * 3]? = some (.int .i64 (R.getD k noT).x)) (E1 : cs[k * 3 + 1]? = some (.int .i64 (R.getD k noT).z)) (O : OwL (w3.setCell ⟨g, k * 3 + 2, none⟩ (.slice (some ⟨g1, 0, none⟩) S.v.length c3)) g1 (g1 + 1) (some ⟨g1, 0, none⟩) (R.getD k noT).v.length (R.getD k noT).v) (C : (R.getD k noT).v.length ≤ c3) =>
          hst.fill h3 hlt E0 E1 O C hgk (by have := hx.size; omega) (by simpa using blk_lt hG1) (fun j hj => by
            obtain ⟨_, _, _, _, _, _, _, h9⟩ := HROW.out.at_ j hj
            omega)
        rw [HSK.out] at hrs
        refine ⟨⟨k + 1, by omega, by go_num, _, _, blk_set1 hG3 _ _, by simpa using h3, hrs HE0.out HE1.out hown2 hc3, fun j hj hjn => ?_, Ext.set (hx.trans hxr) hgw _⟩, by simp [intOf]; omega⟩
        obtain ⟨f0, f1⟩ := HXZ.out j (by omega) hjn
        refine ⟨?_, ?_⟩
        · rw [Array.getElem?_setIfInBounds_ne (by omega)]; exact f0
        · rw [Array.getElem?_setIfInBounds_ne (by omega)]; exact f1
      · obtain rfl : k = n := by omega
        have hown := hrows.own (lo := w.heap.size) hlen hG hsz (Nat.le_refl _) hgw
        have hrow := hown.row hpos
        have cI := c_insSort (n := k) (c := c2) hrow hlen hgw (blk_lt hG) (Nat.le_refl _) hn12 hpos
        have CI := Lib.hid cI
        have hgr := blk_lt hG
        clear hrow hown hrows hxz hG hsz cI
        go_wp2_with (go_at_call 74; refine Calls.mono (c_sortStable (K := fun w' => RowS w' w.heap.size wr.heap.size g (sortM R k) ∧ Kb w.heap.size wr.heap.size wr w') hn12 (Calls.mono CI.out (by rintro e w' ⟨rfl, h1, h2⟩; exact ⟨rfl, h1, h2⟩))) ?_; rintro e w3 ⟨rfl, hrow, hkb⟩)
        have hfin := hrow.own hgw hgr
        rw [sortM_len] at hfin
        go_ret2
        exact ⟨_, _, rfl, hfin.more (Nat.le_refl _) hkb.below.size, hkb.ext hx (Nat.le_refl _), hc2⟩
theorem c_impl_SortFrames {w : World} {B n c : Nat} {A : Option Addr} {R : List Sct} (h : RdM w B A n R) (hB : B ≤ w.heap.size) (hn : n ≤ 1048576) (hr : ∀ j, j < n → (R.getD j noT).v.length ≤ 1048576) :
    Calls Try.prog 38 #[.slice A n c] w fun e w' => RetMQ w e w' (areM R) (outM (areM R) (sortM R R.length)).length (outM (areM R) (sortM R R.length)) :=
  Calls.mono (c_impl_SortFramesC h hB hn hr) (fun _ _ h => h.q)
end Go.Proofs.Ytfmhdnhaaohdjaa
