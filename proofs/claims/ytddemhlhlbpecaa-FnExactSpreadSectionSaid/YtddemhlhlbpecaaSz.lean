/- What all curves carry in a direction, the program. Condition: the section is read. -/
import Derived.Test.YtddemhlhlbpecaaSy
import Derived.Test.YtddemhlhlbpecaaXg
namespace Go.Proofs.Ytddemhlhlbpecaa
open Go.RowKit Ieee
set_option linter.unusedVariables false
set_option linter.unusedSimpArgs false

/-- The row that is made, and what its closure holds. -/
def StD (w0 : World) (bc bm bs g n cf a b c zr : Nat) (A : Option Addr) (w : World) (F : Nat → Option Nat) : Prop :=
  ∃ cs : Array Value, w.heap[g]? = some (.cells cs 22 (0, 0)) ∧ n ≤ cs.size ∧ RowF cs n F ∧ w.heap[bc]? = some (.cells #[.func (.func cf) #[] #[]] 147 (0, 0)) ∧ w.heap[bm]? = some (.cells #[.slice (some ⟨g, 0, none⟩) n n] 25 (0, 0)) ∧ w.heap[bs]? = some (.cells #[.int .i64 (a : Int), .int .i64 (b : Int), .slice A n c] 38 (0, 0)) ∧ w.heap[zr]? = some (.cells #[.int .i64 0, .int .i64 0, .slice none 0 0] 38 (0, 0)) ∧ Ext w0 w
def StI (w0 : World) (bc bm bs bi g n cf a b c zr i : Nat) (A : Option Addr) (w : World) (F : Nat → Option Nat) : Prop :=
  StD w0 bc bm bs g n cf a b c zr A w F ∧ w.heap[bi]? = some (.cells #[.int .i64 (i : Int)] 3 (0, 0))
theorem kind_neS {w : World} {a b : Nat} {x y : Array Value} {T U : TypeId} (h : w.heap[a]? = some (.cells x T (0, 0))) (h' : w.heap[b]? = some (.cells y U (0, 0))) (hT : T ≠ U) : a ≠ b := fun e => by
  subst e
  rw [h] at h'
  exact hT (Obj.cells.inj (Option.some.inj h')).2.1
theorem StD.ext {w0 w w' : World} {bc bm bs g n cf a b c zr : Nat} {A : Option Addr} {F : Nat → Option Nat} (h : StD w0 bc bm bs g n cf a b c zr A w F) (hx : Ext w w') : StD w0 bc bm bs g n cf a b c zr A w' F := by
  obtain ⟨cs, h1, h2, h3, h4, h5, h6, h7, h8⟩ := h
  exact ⟨cs, hx.blk h1, h2, h3, hx.blk h4, hx.blk h5, hx.blk h6, hx.blk h7, h8.trans hx⟩
set_option maxRecDepth 20000 in
set_option maxHeartbeats 4000000 in
theorem tellT {w0 : World} {bc bm bs bi g n a b c zr i : Nat} {A : Option Addr} {B : Nat} {L : List (Option Nat)} (hp : RdF w0 B A n L) (hB : B ≤ w0.heap.size) (hg0 : w0.heap.size ≤ g) (hi : i < n) :
    Tell Try.prog 132 (.pointer (some ⟨bc, 0, none⟩)) (.pointer (some ⟨bm, 0, none⟩)) (.pointer (some ⟨bs, 0, none⟩)) (.pointer (some ⟨bi, 0, none⟩)) n g (StI w0 bc bm bs bi g n 81 a b c zr i A) (upT L i) where
  ext := fun w w' F h hx => ⟨h.1.ext hx, hx.blk h.2⟩
  lt := fun w F h => by obtain ⟨⟨cs, h1, _⟩, _⟩ := h; exact blk_lt h1
  tell := by
    intro w F t r Sh hst ht hr
    obtain ⟨⟨cs, h1, h2, h3, h4, h5, h6, h7, h8⟩, h9⟩ := hst
    have hpw := hp.below (h8.mono hB)
    have f4 := cell1' h4
    have f5 := cell1' h5
    obtain ⟨f6, f7, f8, _, _, _⟩ := three_c h6
    have f9 := cell1' h9
    have g4 := kind_neS h1 h4 (by decide)
    have g5 := kind_neS h1 h5 (by decide)
    have g6 := kind_neS h1 h6 (by decide)
    have g7 := kind_neS h1 h7 (by decide)
    have g9 := kind_neS h1 h9 (by decide)
    have HC := Lib.hid (c_carryThere (cg := n) h1 h2 h3 (c := c) hpw hi ht hr)
    have H4 := Lib.hid h4
    have H5 := Lib.hid h5
    have H6 := Lib.hid h6
    have H7 := Lib.hid h7
    have H9 := Lib.hid h9
    have H1 := Lib.hid h1
    clear h1 h4 h5 h6 h7 h9
    go_enter Try.func132, Try.ntmps132
    go_wp2_with (go_at_call 81; refine Calls.mono HC.out ?_; rintro e w4 ⟨rfl, r9, q9, hr9, rfl⟩)
    go_end0
    have hS : ∀ k x, k ≠ g → w.heap[k]? = some x → ((w.drewN q9).setCell ⟨g, t, none⟩ (.float .f32 r9)).heap[k]? = some x := fun k x hk hx => set_other (w := w.drewN q9) hx hk
    exact ⟨rfl, ⟨⟨_, blk_set1 (w := w.drewN q9) H1.out t (.float .f32 r9), by rw [Array.size_setIfInBounds]; exact h2, rowF_upd h3 h2 (by omega) hr9, hS _ _ (Ne.symm g4) H4.out, hS _ _ (Ne.symm g5) H5.out, hS _ _ (Ne.symm g6) H6.out, hS _ _ (Ne.symm g7) H7.out, Ext.set (Ext.trans h8 (by repeat (first | assumption | exact Ext.refl _ | apply Ext.drewN | apply Ext.drew | apply Ext.alloc | (refine Ext.trans ?_ (by assumption)) | (refine Ext.set ?_ (by dsimp only; omega) _)))) hg0 _⟩, hS _ _ (Ne.symm g9) H9.out⟩, ⟨by simp, hS⟩⟩
set_option maxRecDepth 20000 in
set_option maxHeartbeats 4000000 in
theorem tellB {w0 : World} {bc bm bs bi g n a b c zr i : Nat} {A : Option Addr} {B : Nat} {L : List (Option Nat)} (hp : RdF w0 B A n L) (hB : B ≤ w0.heap.size) (hg0 : w0.heap.size ≤ g) (hi : i < n) :
    Tell Try.prog 132 (.pointer (some ⟨bc, 0, none⟩)) (.pointer (some ⟨bm, 0, none⟩)) (.pointer (some ⟨bs, 0, none⟩)) (.pointer (some ⟨bi, 0, none⟩)) n g (StI w0 bc bm bs bi g n 83 a b c zr i A) (upB L i) where
  ext := fun w w' F h hx => ⟨h.1.ext hx, hx.blk h.2⟩
  lt := fun w F h => by obtain ⟨⟨cs, h1, _⟩, _⟩ := h; exact blk_lt h1
  tell := by
    intro w F t r Sh hst ht hr
    obtain ⟨⟨cs, h1, h2, h3, h4, h5, h6, h7, h8⟩, h9⟩ := hst
    have hpw := hp.below (h8.mono hB)
    have f4 := cell1' h4
    have f5 := cell1' h5
    obtain ⟨f6, f7, f8, _, _, _⟩ := three_c h6
    have f9 := cell1' h9
    have g4 := kind_neS h1 h4 (by decide)
    have g5 := kind_neS h1 h5 (by decide)
    have g6 := kind_neS h1 h6 (by decide)
    have g7 := kind_neS h1 h7 (by decide)
    have g9 := kind_neS h1 h9 (by decide)
    have HC := Lib.hid (c_carryBack (cg := n) h1 h2 h3 (c := c) hpw hi ht hr)
    have H4 := Lib.hid h4
    have H5 := Lib.hid h5
    have H6 := Lib.hid h6
    have H7 := Lib.hid h7
    have H9 := Lib.hid h9
    have H1 := Lib.hid h1
    clear h1 h4 h5 h6 h7 h9
    go_enter Try.func132, Try.ntmps132
    go_wp2_with (go_at_call 83; refine Calls.mono HC.out ?_; rintro e w4 ⟨rfl, r9, q9, hr9, rfl⟩)
    go_end0
    have hS : ∀ k x, k ≠ g → w.heap[k]? = some x → ((w.drewN q9).setCell ⟨g, i, none⟩ (.float .f32 r9)).heap[k]? = some x := fun k x hk hx => set_other (w := w.drewN q9) hx hk
    exact ⟨rfl, ⟨⟨_, blk_set1 (w := w.drewN q9) H1.out i (.float .f32 r9), by rw [Array.size_setIfInBounds]; exact h2, rowF_upd h3 h2 (by omega) hr9, hS _ _ (Ne.symm g4) H4.out, hS _ _ (Ne.symm g5) H5.out, hS _ _ (Ne.symm g6) H6.out, hS _ _ (Ne.symm g7) H7.out, Ext.set (Ext.trans h8 (by repeat (first | assumption | exact Ext.refl _ | apply Ext.drewN | apply Ext.drew | apply Ext.alloc | (refine Ext.trans ?_ (by assumption)) | (refine Ext.set ?_ (by dsimp only; omega) _)))) hg0 _⟩, hS _ _ (Ne.symm g9) H9.out⟩, ⟨by simp, hS⟩⟩
theorem upB_start {F : Nat → Option Nat} {k : Nat} (j : Nat) : fsetK F k j = upd1 (fsetK F k) k fz j := by
  unfold upd1
  by_cases h : j = k
  · subst h
    rw [if_pos rfl]
    unfold fsetK
    rw [if_neg (by omega)]
  · rw [if_neg h]
theorem upB_fin {F : Nat → Option Nat} {k : Nat} (j : Nat) : upd1 (fsetK F k) k (F k) j = fsetK F (k + 1) j := by
  unfold upd1
  by_cases h : j = k
  · subst h
    rw [if_pos rfl, fsetK_at]
  · rw [if_neg h]
    exact fsetK_other _ h
theorem upB_acc {L : List (Option Nat)} {k t : Nat} {F : Nat → Option Nat} {X Sh : Option Nat} : upB L k (upd1 F k X) t Sh = upd1 F k (fop .add .f32 X (fop .mul .f32 Sh (L.getD t none))) := by
  funext j
  unfold upB upd1
  by_cases h : j = k
  · rw [if_pos h, if_pos h, if_pos rfl]
  · rw [if_neg h, if_neg h, if_neg h]
set_option maxRecDepth 20000 in
set_option maxHeartbeats 8000000 in
theorem c_alongT {w : World} {B : Nat} {u : Value} {S : Sct} (h : RdT w B u S) (hB : B ≤ w.heap.size) (za : S.v.length ≤ 1048576) {v : Nat} {V : Option Nat} (hv : Fl .f32 v V) :
    Calls Try.prog 80 #[u, .float .f32 v, .func (.func 81) #[] #[]] w fun e w' =>
      ((fvT S && fabove V) = false ∧ e = .returned (.tuple #[.agg #[.int .i64 0, .int .i64 0, .slice none 0 0], .bool false]) ∧ Ext w w') ∨
      (∃ a b n : Nat, (fvT S && fabove V) = true ∧ S.x = (a : Int) ∧ S.z = (b : Int) ∧ S.v.length = n ∧ ∃ g cap cs, e = .returned (.tuple #[.agg #[.int .i64 (a : Int), .int .i64 (b : Int), .slice (some ⟨g, 0, none⟩) n cap], .bool true]) ∧ w.heap.size ≤ g ∧ w'.heap[g]? = some (.cells cs 22 (0, 0)) ∧ n ≤ cap ∧ n ≤ cs.size ∧ RowF cs n (let L := S.v; (sprA a b V L n)) ∧ Ext w w') := by
  have hsec := h
  obtain ⟨A, c, rfl, hp, hcA⟩ := h.ex
  obtain ⟨W1, hW1⟩ : ∃ W1, W1 = (((w.alloc (.cells #[.int .i64 S.x, .int .i64 S.z, .slice A S.v.length c] 38)).alloc (.cells #[.func (.func 81) #[] #[]] 147)).alloc (.cells #[.int .i64 0, .int .i64 0, .slice none 0 0] 38)) := ⟨_, rfl⟩
  have hx1 : Ext w W1 := by rw [hW1]; exact (by repeat (first | assumption | exact Ext.refl _ | apply Ext.drewN | apply Ext.drew | apply Ext.alloc | (refine Ext.trans ?_ (by assumption)) | (refine Ext.set ?_ (by dsimp only; omega) _)))
  have hbs : W1.heap[w.heap.size]? = some (.cells #[.int .i64 S.x, .int .i64 S.z, .slice A S.v.length c] 38 (0, 0)) := by rw [hW1]; exact al_old (al_old (heap_alloc_new w _))
  have hbc : W1.heap[w.heap.size + 1]? = some (.cells #[.func (.func 81) #[] #[]] 147 (0, 0)) := by rw [hW1]; exact al_old (al_at (by simp only [al_size]) rfl)
  have hzr : W1.heap[w.heap.size + 1 + 1]? = some (.cells #[.int .i64 0, .int .i64 0, .slice none 0 0] 38 (0, 0)) := by rw [hW1]; exact al_at (by simp only [al_size]) rfl
  have hs1 : W1.heap.size = w.heap.size + 1 + 1 + 1 := by rw [hW1]; simp only [al_size]
  have HV1 : Hid (Calls Try.prog 71 #[.agg #[.int .i64 S.x, .int .i64 S.z, .slice A S.v.length c]] W1 fun e w' => e = .returned (.bool (fvT S)) ∧ Ext W1 w') := Lib.hid (c_impl_ValidSection (hsec.below (hx1.mono hB)) (Nat.le_trans hB hx1.size) za)
  have HBS := Lib.hid hbs
  have HBC := Lib.hid hbc
  have HZR := Lib.hid hzr
  have HP := Lib.hid hp
  obtain ⟨p0, p1, p2, _⟩ := three_c hbs
  clear hbs hbc hzr hp
  cases hV : fvT S
  · go_enter Try.func80, Try.ntmps80
    go_wp2_with (fail)
    rw [← hW1]
    clear hW1
    go_wp2_with (go_at_call 71; refine Calls.mono HV1.out ?_; rw [hV]; rintro e w1 ⟨rfl, hxa⟩; obtain ⟨c0, c1, c2, x0, x1, x2⟩ := three_c (hxa.blk HZR.out))
    (try simp only [Exit.inBlock, Exit.then])
    refine bodyPost_ret (results_cellT rfl _ _ (w.heap.size + 1 + 1) 38 #[.int .i64 0, .int .i64 0, .slice none 0 0] (0, 0) _ rfl (by repeat (first | exact hxa.blk HZR.out | exact blk_set1 (blk_set1 (blk_set1 (hxa.blk HZR.out) 0 _) 1 _) 2 _)) Try.underlying38 rfl (by kernel_rfl)) rfl ?_
    exact .inl ⟨by rw [Bool.false_and], rfl, (by repeat (first | assumption | exact Ext.refl _ | apply Ext.drewN | apply Ext.drew | apply Ext.alloc | (refine Ext.trans ?_ (by assumption)) | (refine Ext.set ?_ (by dsimp only; omega) _)))⟩
  cases hC : fabove V
  · go_enter Try.func80, Try.ntmps80
    go_wp2_with (fail)
    rw [← hW1]
    clear hW1
    go_wp2_with (first | (go_at_call 71; refine Calls.mono HV1.out ?_; rw [hV]; rintro e w1 ⟨rfl, hxa⟩; obtain ⟨c0, c1, c2, x0, x1, x2⟩ := three_c (hxa.blk HZR.out)) | (go_at_call 93; refine Calls.mono (c_isPositive hv) ?_; rw [hC]; rintro e w4 ⟨rfl, n3, rfl⟩))
    (try simp only [Exit.inBlock, Exit.then])
    refine bodyPost_ret (results_cellT rfl _ _ (w.heap.size + 1 + 1) 38 #[.int .i64 0, .int .i64 0, .slice none 0 0] (0, 0) _ rfl (by repeat (first | exact hxa.blk HZR.out | exact blk_set1 (blk_set1 (blk_set1 (hxa.blk HZR.out) 0 _) 1 _) 2 _)) Try.underlying38 rfl (by kernel_rfl)) rfl ?_
    exact .inl ⟨by rw [Bool.and_false], rfl, (by repeat (first | assumption | exact Ext.refl _ | apply Ext.drewN | apply Ext.drew | apply Ext.alloc | (refine Ext.trans ?_ (by assumption)) | (refine Ext.set ?_ (by dsimp only; omega) _)))⟩
  have HV := Lib.hid hV
  obtain ⟨a, b, n, e1, e2, e3, g1, g2, g3, g4, g5, g6, g7, g8⟩ := fvT_of hV
  obtain ⟨L, hL⟩ : ∃ L, L = S.v := ⟨_, rfl⟩
  rw [← hL] at HP e3 ⊢
  have HE1 := Lib.hid e1
  have HE2 := Lib.hid e2
  have HE3 := Lib.hid e3
  simp only [← hL, e3, e1, e2] at HBS HV1 p0 p1 p2 hW1 HP ⊢
  clear hV hL e1 e2 e3 hsec hcA za
  have hmk := fun W => run_make_row' (P := Try.prog) 25 22 (.float .f32 0) 4 Try.underlying25 info_f32 rfl .i64 .i64 n (by omega) (by omega) W
  go_enter Try.func80, Try.ntmps80
  go_wp2_with (fail)
  rw [← hW1]
  clear hW1
  go_wp2_with (first | (go_at_call 71; refine Calls.mono HV1.out ?_; rw [HV.out]; rintro e w1 ⟨rfl, hxa⟩; obtain ⟨p0, p1, p2, _⟩ := three_c (hxa.blk HBS.out)) | (go_at_call 93; refine Calls.mono (c_isPositive hv) ?_; rw [hC]; rintro e w4 ⟨rfl, n3, rfl⟩))
  have hgw : w.heap.size ≤ w1.heap.size := by have := hxa.size; omega
  have hab : a * b = n := g5
  go_loopw [25] (fun y wr => ∃ (k : Nat), k ≤ n ∧ y = .int .i64 k ∧ StD w (w.heap.size + 1) (w1.heap.size + 1) w.heap.size w1.heap.size n 81 a b c (w.heap.size + 1 + 1) A wr (sprA a b V L k)) (fun y _ => n - (intOf y).toNat)
  case atStart => exact ⟨0, Nat.zero_le _, rfl, _, al_old (heap_alloc_new (w1.drewN n3) _), Nat.le_of_eq (size_madeCells _ _).symm, RowF.made (fun j _ => rfl), al_old (al_old (hxa.blk HBC.out)), al_at (by simp only [al_size]; rfl) rfl, al_old (al_old (hxa.blk HBS.out)), al_old (al_old (hxa.blk HZR.out)), (by repeat (first | assumption | exact Ext.refl _ | apply Ext.drewN | apply Ext.drew | apply Ext.alloc | (refine Ext.trans ?_ (by assumption)) | (refine Ext.set ?_ (by dsimp only; omega) _)))⟩
  case round =>
    obtain ⟨k, hk, rfl, cs, h1, h2, h3, h4, h5, h6, h7, h8⟩ := hrel
    have HX := Lib.hid h3
    by_cases hlt : k < n
    · have hlt' : (k : Int) < (n : Int) := by omega
      have hxA : Ext wr (wr.alloc (.cells #[.int .i64 (k : Int)] 3)) := (by repeat (first | assumption | exact Ext.refl _ | apply Ext.drewN | apply Ext.drew | apply Ext.alloc | (refine Ext.trans ?_ (by assumption)) | (refine Ext.set ?_ (by dsimp only; omega) _)))
      have HST : Hid (StI w (w.heap.size + 1) (w1.heap.size + 1) w.heap.size wr.heap.size w1.heap.size n 81 a b c (w.heap.size + 1 + 1) k A (wr.alloc (.cells #[.int .i64 (k : Int)] 3)) ((fun u => sprU a b V L k (sprA a b V L k) u) 0)) := Lib.hid ⟨⟨cs, hxA.blk h1, h2, HX.out, hxA.blk h4, hxA.blk h5, hxA.blk h6, hxA.blk h7, h8.trans hxA⟩, heap_alloc_new wr _⟩
      obtain ⟨s0, s1, s2, _, _, _⟩ := three_c (hxA.blk h6)
      have f9 := cell1' (heap_alloc_new wr (.cells #[.int .i64 (k : Int)] 3))
      have HTL := Lib.hid (tellT (bc := w.heap.size + 1) (bm := w1.heap.size + 1) (bs := w.heap.size) (bi := wr.heap.size) (g := w1.heap.size) (a := a) (b := b) (c := c) (zr := w.heap.size + 1 + 1) HP.out hB hgw hlt)
      clear h1 h3 h4 h5 h6 h7
      go_wp2_with (go_at_call 131; refine Calls.mono (c_eachShare (Z := (fun u => sprU a b V L k (sprA a b V L k) u)) HTL.out g1 g2 g3 g4 hab g7 hv hC hlt (fun u h => by show sprU a b V L k _ (u + 1) = _; rw [sprU, h]; rfl) (fun u h h2 => by show sprU a b V L k _ (u + 1) = _; rw [sprU, h, if_pos rfl, if_neg h2]; rfl) (fun u h h2 => by show sprU a b V L k _ (u + 1) = _; rw [sprU, h, if_pos rfl, if_pos h2]; rfl) HST.out) ?_; rintro e w5 ⟨rfl, ⟨⟨cs5, h1, h2, h3, h4, h5, h6, h7, h8⟩, _⟩, hkp5⟩)
      exact ⟨⟨k + 1, by omega, by go_num, cs5, h1, h2, h3, h4, h5, h6, h7, h8⟩, by simp [intOf]; omega⟩
    · obtain rfl : k = n := by omega
      obtain ⟨s0, s1, s2, _, _, _⟩ := three_c h6
      have f5 := cell1' h5
      obtain ⟨c0, c1, c2, x0, x1, x2⟩ := three_c h7
      have HBZ := Lib.hid (fun u0 u1 u2 => blk_set1 (blk_set1 (blk_set1 h7 0 u0) 1 u1) 2 u2)
      have H1 := Lib.hid h1
      have hgz := kind_neS h1 h7 (by decide)
      clear h1 h3 h4 h5 h6 h7
      go_wp2_with (fail)
      (try simp only [Exit.inBlock, Exit.then])
      refine bodyPost_ret (results_cellT rfl _ _ (w.heap.size + 1 + 1) 38 #[.int .i64 (a : Int), .int .i64 (b : Int), .slice (some ⟨w1.heap.size, 0, none⟩) k k] (0, 0) _ rfl (HBZ.out _ _ _) Try.underlying38 rfl (by kernel_rfl)) rfl ?_
      exact .inr ⟨a, b, k, rfl, rfl, rfl, rfl, w1.heap.size, k, cs, rfl, hgw, set_other (set_other (set_other H1.out (by dsimp only; omega)) (by dsimp only; omega)) (by dsimp only; omega), Nat.le_refl _, h2, HX.out, (by repeat (first | assumption | exact Ext.refl _ | apply Ext.drewN | apply Ext.drew | apply Ext.alloc | (refine Ext.trans ?_ (by assumption)) | (refine Ext.set ?_ (by dsimp only; omega) _)))⟩
set_option maxRecDepth 20000 in
set_option maxHeartbeats 8000000 in
theorem c_alongB {w : World} {B : Nat} {u : Value} {S : Sct} (h : RdT w B u S) (hB : B ≤ w.heap.size) (za : S.v.length ≤ 1048576) {v : Nat} {V : Option Nat} (hv : Fl .f32 v V) :
    Calls Try.prog 80 #[u, .float .f32 v, .func (.func 83) #[] #[]] w fun e w' =>
      ((fvT S && fabove V) = false ∧ e = .returned (.tuple #[.agg #[.int .i64 0, .int .i64 0, .slice none 0 0], .bool false]) ∧ Ext w w') ∨
      (∃ a b n : Nat, (fvT S && fabove V) = true ∧ S.x = (a : Int) ∧ S.z = (b : Int) ∧ S.v.length = n ∧ ∃ g cap cs, e = .returned (.tuple #[.agg #[.int .i64 (a : Int), .int .i64 (b : Int), .slice (some ⟨g, 0, none⟩) n cap], .bool true]) ∧ w.heap.size ≤ g ∧ w'.heap[g]? = some (.cells cs 22 (0, 0)) ∧ n ≤ cap ∧ n ≤ cs.size ∧ RowF cs n (let L := S.v; (gatF a b V L)) ∧ Ext w w') := by
  have hsec := h
  obtain ⟨A, c, rfl, hp, hcA⟩ := h.ex
  obtain ⟨W1, hW1⟩ : ∃ W1, W1 = (((w.alloc (.cells #[.int .i64 S.x, .int .i64 S.z, .slice A S.v.length c] 38)).alloc (.cells #[.func (.func 83) #[] #[]] 147)).alloc (.cells #[.int .i64 0, .int .i64 0, .slice none 0 0] 38)) := ⟨_, rfl⟩
  have hx1 : Ext w W1 := by rw [hW1]; exact (by repeat (first | assumption | exact Ext.refl _ | apply Ext.drewN | apply Ext.drew | apply Ext.alloc | (refine Ext.trans ?_ (by assumption)) | (refine Ext.set ?_ (by dsimp only; omega) _)))
  have hbs : W1.heap[w.heap.size]? = some (.cells #[.int .i64 S.x, .int .i64 S.z, .slice A S.v.length c] 38 (0, 0)) := by rw [hW1]; exact al_old (al_old (heap_alloc_new w _))
  have hbc : W1.heap[w.heap.size + 1]? = some (.cells #[.func (.func 83) #[] #[]] 147 (0, 0)) := by rw [hW1]; exact al_old (al_at (by simp only [al_size]) rfl)
  have hzr : W1.heap[w.heap.size + 1 + 1]? = some (.cells #[.int .i64 0, .int .i64 0, .slice none 0 0] 38 (0, 0)) := by rw [hW1]; exact al_at (by simp only [al_size]) rfl
  have hs1 : W1.heap.size = w.heap.size + 1 + 1 + 1 := by rw [hW1]; simp only [al_size]
  have HV1 : Hid (Calls Try.prog 71 #[.agg #[.int .i64 S.x, .int .i64 S.z, .slice A S.v.length c]] W1 fun e w' => e = .returned (.bool (fvT S)) ∧ Ext W1 w') := Lib.hid (c_impl_ValidSection (hsec.below (hx1.mono hB)) (Nat.le_trans hB hx1.size) za)
  have HBS := Lib.hid hbs
  have HBC := Lib.hid hbc
  have HZR := Lib.hid hzr
  have HP := Lib.hid hp
  obtain ⟨p0, p1, p2, _⟩ := three_c hbs
  clear hbs hbc hzr hp
  cases hV : fvT S
  · go_enter Try.func80, Try.ntmps80
    go_wp2_with (fail)
    rw [← hW1]
    clear hW1
    go_wp2_with (go_at_call 71; refine Calls.mono HV1.out ?_; rw [hV]; rintro e w1 ⟨rfl, hxa⟩; obtain ⟨c0, c1, c2, x0, x1, x2⟩ := three_c (hxa.blk HZR.out))
    (try simp only [Exit.inBlock, Exit.then])
    refine bodyPost_ret (results_cellT rfl _ _ (w.heap.size + 1 + 1) 38 #[.int .i64 0, .int .i64 0, .slice none 0 0] (0, 0) _ rfl (by repeat (first | exact hxa.blk HZR.out | exact blk_set1 (blk_set1 (blk_set1 (hxa.blk HZR.out) 0 _) 1 _) 2 _)) Try.underlying38 rfl (by kernel_rfl)) rfl ?_
    exact .inl ⟨by rw [Bool.false_and], rfl, (by repeat (first | assumption | exact Ext.refl _ | apply Ext.drewN | apply Ext.drew | apply Ext.alloc | (refine Ext.trans ?_ (by assumption)) | (refine Ext.set ?_ (by dsimp only; omega) _)))⟩
  cases hC : fabove V
  · go_enter Try.func80, Try.ntmps80
    go_wp2_with (fail)
    rw [← hW1]
    clear hW1
    go_wp2_with (first | (go_at_call 71; refine Calls.mono HV1.out ?_; rw [hV]; rintro e w1 ⟨rfl, hxa⟩; obtain ⟨c0, c1, c2, x0, x1, x2⟩ := three_c (hxa.blk HZR.out)) | (go_at_call 93; refine Calls.mono (c_isPositive hv) ?_; rw [hC]; rintro e w4 ⟨rfl, n3, rfl⟩))
    (try simp only [Exit.inBlock, Exit.then])
    refine bodyPost_ret (results_cellT rfl _ _ (w.heap.size + 1 + 1) 38 #[.int .i64 0, .int .i64 0, .slice none 0 0] (0, 0) _ rfl (by repeat (first | exact hxa.blk HZR.out | exact blk_set1 (blk_set1 (blk_set1 (hxa.blk HZR.out) 0 _) 1 _) 2 _)) Try.underlying38 rfl (by kernel_rfl)) rfl ?_
    exact .inl ⟨by rw [Bool.and_false], rfl, (by repeat (first | assumption | exact Ext.refl _ | apply Ext.drewN | apply Ext.drew | apply Ext.alloc | (refine Ext.trans ?_ (by assumption)) | (refine Ext.set ?_ (by dsimp only; omega) _)))⟩
  have HV := Lib.hid hV
  obtain ⟨a, b, n, e1, e2, e3, g1, g2, g3, g4, g5, g6, g7, g8⟩ := fvT_of hV
  obtain ⟨L, hL⟩ : ∃ L, L = S.v := ⟨_, rfl⟩
  rw [← hL] at HP e3 ⊢
  have HE1 := Lib.hid e1
  have HE2 := Lib.hid e2
  have HE3 := Lib.hid e3
  simp only [← hL, e3, e1, e2] at HBS HV1 p0 p1 p2 hW1 HP ⊢
  clear hV hL e1 e2 e3 hsec hcA za
  have hmk := fun W => run_make_row' (P := Try.prog) 25 22 (.float .f32 0) 4 Try.underlying25 info_f32 rfl .i64 .i64 n (by omega) (by omega) W
  go_enter Try.func80, Try.ntmps80
  go_wp2_with (fail)
  rw [← hW1]
  clear hW1
  go_wp2_with (first | (go_at_call 71; refine Calls.mono HV1.out ?_; rw [HV.out]; rintro e w1 ⟨rfl, hxa⟩; obtain ⟨p0, p1, p2, _⟩ := three_c (hxa.blk HBS.out)) | (go_at_call 93; refine Calls.mono (c_isPositive hv) ?_; rw [hC]; rintro e w4 ⟨rfl, n3, rfl⟩))
  have hgw : w.heap.size ≤ w1.heap.size := by have := hxa.size; omega
  have hab : a * b = n := g5
  go_loopw [25] (fun y wr => ∃ (k : Nat), k ≤ n ∧ y = .int .i64 k ∧ StD w (w.heap.size + 1) (w1.heap.size + 1) w.heap.size w1.heap.size n 83 a b c (w.heap.size + 1 + 1) A wr (fsetK (gatF a b V L) k)) (fun y _ => n - (intOf y).toNat)
  case atStart => exact ⟨0, Nat.zero_le _, rfl, _, al_old (heap_alloc_new (w1.drewN n3) _), Nat.le_of_eq (size_madeCells _ _).symm, RowF.made (fun j _ => fsetK_zero _ j), al_old (al_old (hxa.blk HBC.out)), al_at (by simp only [al_size]; rfl) rfl, al_old (al_old (hxa.blk HBS.out)), al_old (al_old (hxa.blk HZR.out)), (by repeat (first | assumption | exact Ext.refl _ | apply Ext.drewN | apply Ext.drew | apply Ext.alloc | (refine Ext.trans ?_ (by assumption)) | (refine Ext.set ?_ (by dsimp only; omega) _)))⟩
  case round =>
    obtain ⟨k, hk, rfl, cs, h1, h2, h3, h4, h5, h6, h7, h8⟩ := hrel
    have HX := Lib.hid h3
    by_cases hlt : k < n
    · have hlt' : (k : Int) < (n : Int) := by omega
      have hxA : Ext wr (wr.alloc (.cells #[.int .i64 (k : Int)] 3)) := (by repeat (first | assumption | exact Ext.refl _ | apply Ext.drewN | apply Ext.drew | apply Ext.alloc | (refine Ext.trans ?_ (by assumption)) | (refine Ext.set ?_ (by dsimp only; omega) _)))
      have HST : Hid (StI w (w.heap.size + 1) (w1.heap.size + 1) w.heap.size wr.heap.size w1.heap.size n 83 a b c (w.heap.size + 1 + 1) k A (wr.alloc (.cells #[.int .i64 (k : Int)] 3)) ((fun u => upd1 (fsetK (gatF a b V L) k) k (gsum a b V L k u)) 0)) := Lib.hid ⟨⟨cs, hxA.blk h1, h2, (HX.out.keep (fun j _ => upB_start j)), hxA.blk h4, hxA.blk h5, hxA.blk h6, hxA.blk h7, h8.trans hxA⟩, heap_alloc_new wr _⟩
      obtain ⟨s0, s1, s2, _, _, _⟩ := three_c (hxA.blk h6)
      have f9 := cell1' (heap_alloc_new wr (.cells #[.int .i64 (k : Int)] 3))
      have HTL := Lib.hid (tellB (bc := w.heap.size + 1) (bm := w1.heap.size + 1) (bs := w.heap.size) (bi := wr.heap.size) (g := w1.heap.size) (a := a) (b := b) (c := c) (zr := w.heap.size + 1 + 1) HP.out hB hgw hlt)
      clear h1 h3 h4 h5 h6 h7
      go_wp2_with (go_at_call 131; refine Calls.mono (c_eachShare (Z := (fun u => upd1 (fsetK (gatF a b V L) k) k (gsum a b V L k u))) HTL.out g1 g2 g3 g4 hab g7 hv hC hlt (fun u h => by show upd1 _ k (gsum a b V L k (u + 1)) = _; rw [gsum, h]; rfl) (fun u h h2 => by show upd1 _ k (gsum a b V L k (u + 1)) = _; rw [gsum, h, if_pos rfl, if_neg h2, upB_acc]) (fun u h h2 => by show upd1 _ k (gsum a b V L k (u + 1)) = _; rw [gsum, h, if_pos rfl, if_pos h2, upB_acc, upB_acc]) HST.out) ?_; rintro e w5 ⟨rfl, ⟨⟨cs5, h1, h2, h3, h4, h5, h6, h7, h8⟩, _⟩, hkp5⟩)
      exact ⟨⟨k + 1, by omega, by go_num, cs5, h1, h2, (h3.keep (fun j _ => upB_fin j)), h4, h5, h6, h7, h8⟩, by simp [intOf]; omega⟩
    · obtain rfl : k = n := by omega
      obtain ⟨s0, s1, s2, _, _, _⟩ := three_c h6
      have f5 := cell1' h5
      obtain ⟨c0, c1, c2, x0, x1, x2⟩ := three_c h7
      have HBZ := Lib.hid (fun u0 u1 u2 => blk_set1 (blk_set1 (blk_set1 h7 0 u0) 1 u1) 2 u2)
      have H1 := Lib.hid h1
      have hgz := kind_neS h1 h7 (by decide)
      clear h1 h3 h4 h5 h6 h7
      go_wp2_with (fail)
      (try simp only [Exit.inBlock, Exit.then])
      refine bodyPost_ret (results_cellT rfl _ _ (w.heap.size + 1 + 1) 38 #[.int .i64 (a : Int), .int .i64 (b : Int), .slice (some ⟨w1.heap.size, 0, none⟩) k k] (0, 0) _ rfl (HBZ.out _ _ _) Try.underlying38 rfl (by kernel_rfl)) rfl ?_
      exact .inr ⟨a, b, k, rfl, rfl, rfl, rfl, w1.heap.size, k, cs, rfl, hgw, set_other (set_other (set_other H1.out (by dsimp only; omega)) (by dsimp only; omega)) (by dsimp only; omega), Nat.le_refl _, h2, (HX.out.keep (fun j hj => fsetK_all _ hj)), (by repeat (first | assumption | exact Ext.refl _ | apply Ext.drewN | apply Ext.drew | apply Ext.alloc | (refine Ext.trans ?_ (by assumption)) | (refine Ext.set ?_ (by dsimp only; omega) _)))⟩
end Go.Proofs.Ytddemhlhlbpecaa
