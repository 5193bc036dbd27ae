/- A region that draws its order: its operations, one after another, each with what its value may be, whatever the order; and the last ones, whose order is forced. No condition. -/
import Derived.StillTail
import Derived.Deep.Quiet
namespace Go.Proofs.Ytfmhdnhaaohdjaa
open Go

section
variable {P : Program} {ops : Array Oper} {md : Region.Mode} {C : World → Prop}

def looseUpon (P : Program) (C : World → Prop) (F : Value → Prop) : Result Next → Prop
  | .ok (.value u) w' => F u ∧ C w'
  | .ok .skip w' => F undef ∧ C w'
  | .ok (.enter f args) w' => Calls P f args w' (fun e w'' => ∃ u, e = .returned u ∧ F u ∧ C w'')
  | _ => False
def looseAt (P : Program) (o : Oper) (a : Act) (C : World → Prop) (F : Value → Prop) (w : World) : Prop := looseUpon P C F ((execOp a.eval o).run P w)
/-- In this state, in every world of the class, the operation leaves one of the values F, and a world of the class. -/
def YieldsL (P : Program) (ops : Array Oper) (C : World → Prop) (o : Oper) (F : Value → Prop) (a : Act) : Prop :=
  (Region.wanted o (yielded ops a.tmps) = true ∧ ∀ w, C w → looseAt P o a C F w) ∨ (Region.wanted o (yielded ops a.tmps) = false ∧ F undef)
theorem YieldsL.of_same {o : Oper} {F : Value → Prop} {a a' : Act} (hy : YieldsL P ops C o F a) (he : execOp a'.eval o = execOp a.eval o)
    (hw : Region.wanted o (yielded ops a'.tmps) = Region.wanted o (yielded ops a.tmps)) : YieldsL P ops C o F a' := by
  unfold YieldsL looseAt at *
  rw [he, hw]
  exact hy
def putS (A : Act → Prop) (d : Option Tmp) (F : Value → Prop) : Act → Prop := fun a' => ∃ a v, A a ∧ F v ∧ a' = a.put d v
def sOp (P : Program) (ops : Array Oper) (C : World → Prop) (i : Nat) (K : (Act → Prop) → Prop) (A : Act → Prop) : Prop :=
  match ops[i]? with
  | none => K A
  | some o => ∃ F : Value → Prop, (∃ v, F v) ∧ (∀ a, A a → YieldsL P ops C o F a) ∧ K (putS A o.dst F)

theorem wp_of_loose {o : Oper} {a : Act} {F : Value → Prop} {K' : Act → World → Prop} {Q' : Exit → Act → World → Prop} {w : World} (hh : looseAt P o a C F w) (h : ∀ v w', C w' → F v → K' (a.put o.dst v) w') : o.wp P a w K' Q' := by
  unfold looseAt at hh
  unfold Oper.wp
  generalize (execOp a.eval o).run P w = r at *
  cases r with
  | ok n w' =>
    cases n <;> simp only [looseUpon] at hh <;> simp only [Oper.upon]
    case value u => exact h _ _ hh.2 hh.1
    case skip => exact h _ _ hh.2 hh.1
    case enter f args => exact hh.mono fun e w'' ⟨u, he, hu, hw''⟩ => by subst he; exact h _ _ hw'' hu
  | halt x w' => simp only [looseUpon] at hh

theorem wpOp_of_sOp {i : Nat} {a : Act} {A : Act → Prop} {K : (Act → Prop) → Prop} {K' : Act → World → Prop} {Q' : Exit → Act → World → Prop} {w : World} (hC : C w) (ha : A a)
    (h : ∀ A' a' w', C w' → A' a' → K A' → K' a' w') (hh : sOp P ops C i K A) : wpOp P ops Q' i K' a w := by
  unfold sOp at hh
  unfold wpOp
  split
  · rename_i ho; simp only [ho] at hh; exact h _ _ _ hC ha hh
  · rename_i o ho
    simp only [ho] at hh
    obtain ⟨F, _, hy, hK⟩ := hh
    rcases hy a ha with ⟨hw, hv⟩ | ⟨hw, hv⟩
    · simp only [hw, if_true]
      exact .inl (wp_of_loose (hv w hC) fun v w' hw' hF => h _ _ _ hw' ⟨a, v, ha, hF, rfl⟩ hK)
    · simp only [hw]
      exact h _ _ _ hC ⟨a, undef, ha, hv, rfl⟩ hK

def wpAnyF (P : Program) (md : Region.Mode) (ops : Array Oper) (C : World → Prop) (n : Nat) (L : Array Bool → (Act → Prop) → Prop) : Nat → Array Bool → (Act → Prop) → Prop
  | 0, listed, A => L listed A
  | f + 1, listed, A =>
    Region.ready md ops listed ≠ [] ∧ ∀ i ∈ Region.ready md ops listed, i < n ∧ sOp P ops C i (wpAnyF P md ops C n L f (listed.setIfInBounds i true)) A

theorem wpAny_of_headF {n g : Nat} {L : Array Bool → (Act → Prop) → Prop} {Q' : Exit → Act → World → Prop} (hL : ∀ listed A a w, C w → A a → L listed A → wpAny P md ops Q' g listed a w) :
    ∀ (f : Nat) (listed : Array Bool) (A : Act → Prop) (a : Act) (w : World), C w → A a → wpAnyF P md ops C n L f listed A → wpAny P md ops Q' (f + g) listed a w
  | 0, listed, A, a, w, hC, ha, h => by rw [Nat.zero_add]; exact hL _ _ _ _ hC ha h
  | f + 1, listed, A, a, w, hC, ha, h => by
    rw [show f + 1 + g = (f + g) + 1 by omega]
    exact ⟨fun h0 => absurd h0 h.1, fun i hi => wpOp_of_sOp hC ha (fun A' a' w' hC' ha' h' => wpAny_of_headF hL f _ A' a' w' hC' ha' h') (h.2 i hi).2⟩

theorem sOp_of {i : Nat} {o : Oper} {F : Value → Prop} {A : Act → Prop} (hi : ops[i]? = some o) (hne : ∃ v, F v) (hy : ∀ a, A a → YieldsL P ops C o F a) {K : (Act → Prop) → Prop} (h : K (putS A o.dst F)) : sOp P ops C i K A := by
  unfold sOp
  simp only [hi]
  exact ⟨F, hne, hy, h⟩
theorem sOp_mono {i : Nat} {A : Act → Prop} {K K' : (Act → Prop) → Prop} (h : ∀ A, K A → K' A) (hh : sOp P ops C i K A) : sOp P ops C i K' A := by
  unfold sOp at *
  split
  · exact h _ (by simpa [*] using hh)
  · rename_i o ho
    simp only [ho] at hh
    obtain ⟨F, h1, h2, h3⟩ := hh
    exact ⟨F, h1, h2, h _ h3⟩
theorem putS_comm {A : Act → Prop} {d d' : Option Tmp} {F F' : Value → Prop} (hc : ∀ (a : Act) (v u : Value), (a.put d v).put d' u = (a.put d' u).put d v) : putS (putS A d F) d' F' = putS (putS A d' F') d F := by
  funext a'
  apply propext
  constructor
  · rintro ⟨_, u, ⟨a, v, ha, hv, rfl⟩, hu, rfl⟩
    exact ⟨_, v, ⟨a, u, ha, hu, rfl⟩, hv, hc a v u⟩
  · rintro ⟨_, v, ⟨a, u, ha, hu, rfl⟩, hv, rfl⟩
    exact ⟨_, u, ⟨a, v, ha, hv, rfl⟩, hu, (hc a v u).symm⟩

theorem sOp_put {j : Nat} {oi oj : Oper} {F : Value → Prop} (hj : ops[j]? = some oj) (hap : oi.apart ops oj = true)
    (hsi : ∀ cs b, oi.op ≠ .select cs b) (hsj : ∀ cs b, oj.op ≠ .select cs b) {K : (Act → Prop) → Prop} {A : Act → Prop}
    (hne : ∃ v, F v) (hy : ∀ a, A a → YieldsL P ops C oi F a) (h : sOp P ops C j K (putS A oi.dst F)) :
    sOp P ops C j (fun A' => (∀ a, A' a → YieldsL P ops C oi F a) ∧ K (putS A' oi.dst F)) A := by
  obtain ⟨h1, h2, h3⟩ := Oper.apart_spec hap
  unfold sOp at *
  simp only [hj] at *
  obtain ⟨F', hne', hyj, hK⟩ := h
  refine ⟨F', hne', fun a ha => ?_, ?_, ?_⟩
  · obtain ⟨v, hv⟩ := hne
    have := hyj (a.put oi.dst v) ⟨a, v, ha, hv, rfl⟩
    exact this.of_same (execOp_put oj hsj a oi.dst v h1).symm (wanted_put oj a oi.dst v h1).symm
  · rintro a' ⟨a, u, ha, hu, rfl⟩
    exact (hy a ha).of_same (execOp_put oi hsi a oj.dst u h3) (wanted_put oi a oj.dst u h3)
  · rw [putS_comm (d := oj.dst) (d' := oi.dst) fun a v u => (Act.put_comm a u v h2).symm]
    exact hK

theorem wpAnyF_first {n i : Nat} {oi : Oper} {F : Value → Prop} {L : Array Bool → (Act → Prop) → Prop} (hi : ops[i]? = some oi) (hsel : ∀ (j : Nat) (o : Oper) cs b, ops[j]? = some o → o.op ≠ .select cs b)
    (hs : Region.sinkB md ops n = true) (hc : Region.chainB md ops n = true) (hn : n < ops.size) (hin : i < n)
    (hdone : ∀ listed A, L listed A → ∀ j ∈ Region.ready md ops listed, n ≤ j) (hne : ∃ v, F v) :
    ∀ (f : Nat) (listed : Array Bool) (A : Act → Prop), HeadInv md ops n listed →
      (∀ j oj, ops[j]? = some oj → j ≠ i → listed.getD j true = false → (∀ e ∈ oj.after, Region.binds md e = true → e.on ≠ i) → oi.apart ops oj = true) →
      i ∈ Region.ready md ops listed → (∀ a, A a → YieldsL P ops C oi F a) →
      wpAnyF P md ops C n L f (listed.setIfInBounds i true) (putS A oi.dst F) → wpAnyF P md ops C n L (f + 1) listed A := by
  intro f
  induction f with
  | zero =>
    intro listed A inv _ hr hy H
    have hun := (mem_ready.1 hr).1
    refine ⟨fun h => (by rw [h] at hr; cases hr), fun j hj => ?_⟩
    have hjn : j < n := by
      rcases Nat.lt_or_ge j n with h | h
      · exact h
      · exact absurd hj (tail_waits hs hc hn inv _ i rfl hin hun j h)
    refine ⟨hjn, ?_⟩
    by_cases hji : j = i
    · subst hji; exact sOp_of hi hne hy H
    · have := hdone _ _ H j (ready_mono hj hji)
      omega
  | succ f ih =>
    intro listed A inv hfree hr hy H
    have hun := (mem_ready.1 hr).1
    refine ⟨fun h => (by rw [h] at hr; cases hr), fun j hj => ?_⟩
    have hjn : j < n := by
      rcases Nat.lt_or_ge j n with h | h
      · exact h
      · exact absurd hj (tail_waits hs hc hn inv _ i rfl hin hun j h)
    refine ⟨hjn, ?_⟩
    by_cases hji : j = i
    · subst hji; exact sOp_of hi hne hy H
    · have h1 := (H.2 j (ready_mono hj hji)).2
      obtain ⟨hjun, oj, hoj, hall⟩ := mem_ready.1 hj
      have hnot : ∀ e ∈ oj.after, Region.binds md e = true → e.on ≠ i := fun e he hb heq => by
        have h1 := hall e he hb
        rw [heq, getD_both hun] at h1
        cases h1
      have h2 := sOp_put hoj (hfree j oj hoj hji hjun hnot) (fun cs b => hsel i oi cs b hi) (fun cs b => hsel j oj cs b hoj) hne hy h1
      have hfree' : ∀ k ok, ops[k]? = some ok → k ≠ i → (listed.setIfInBounds j true).getD k true = false →
          (∀ e ∈ ok.after, Region.binds md e = true → e.on ≠ i) → oi.apart ops ok = true := fun k ok hk hki hun hno => by
        refine hfree k ok hk hki ?_ hno
        by_cases hjk : j = k
        · subst hjk; exact hjun
        · rw [getD_set_ne true hjk] at hun; exact hun
      refine sOp_mono (fun A' h3 => ih (listed.setIfInBounds j true) A' (inv.set hj hjn) hfree' (ready_mono hr (Ne.symm hji)) h3.1 ?_) h2
      rw [Array.setIfInBounds_comm _ _ hji]
      exact h3.2

/-- The walk: one operation after another, in the text's order. -/
def wpLo (P : Program) (ops : Array Oper) (C : World → Prop) (Q : (Act → Prop) → Prop) : List Oper → (Act → Prop) → Prop
  | [], A => Q A
  | o :: rest, A => ∃ F : Value → Prop, (∃ v, F v) ∧ (∀ a, A a → YieldsL P ops C o F a) ∧ wpLo P ops C Q rest (putS A o.dst F)

theorem wpAnyF_lex {n g : Nat} {Lq : (Act → Prop) → Prop} (hsel : Region.noSelect ops = true) (hs : Region.sinkB md ops n = true) (hc : Region.chainB md ops n = true) (hn : n < ops.size) :
    ∀ (l : List Oper) (k : Nat) (listed : Array Bool) (A : Act → Prop), (∀ j, j < l.length → l[j]? = ops[k + j]?) → k + l.length = n → HeadInv md ops n listed →
    Region.lexHead md ops g l.length k listed = true → wpLo P ops C Lq l A →
    wpAnyF P md ops C n (fun listed' A' => Region.seqB md ops g n listed' = true ∧ Lq A') l.length listed A
  | [], k, listed, A, _, hk, _, hB, h => by
    have : k = n := by simpa using hk
    subst this
    exact ⟨by simpa [Region.lexHead] using hB, h⟩
  | o :: l, k, listed, A, hl, hk, inv, hB, h => by
    have h0 : ops[k]? = some o := by simpa using (hl 0 (by simp)).symm
    simp only [List.length_cons, Region.lexHead, Bool.and_eq_true] at hB
    obtain ⟨⟨hr, hf⟩, hB'⟩ := hB
    have hkn : k < n := by simp only [List.length_cons] at hk; omega
    have hr' : k ∈ Region.ready md ops listed := by simpa using hr
    obtain ⟨F, hne, hy, hK⟩ := h
    exact wpAnyF_first h0 (Region.noSelect_spec hsel) hs hc hn hkn (fun listed' A' hL => seqB_ready hL.1) hne l.length listed A inv (Region.free_spec h0 hf) hr' hy
      (wpAnyF_lex hsel hs hc hn l (k + 1) _ _ (fun j hj => by have := hl (j + 1) (by simp; omega); simpa [Nat.add_assoc, Nat.add_comm 1 j] using this) (by simp only [List.length_cons] at hk; omega) (inv.set hr' hkn) hB' hK)

/-- ONE WALK OF THE TEXT's ORDER SERVES EVERY ORDER: the first n operations leave each what F tells; the others come one after another behind them. -/
theorem wp_region_loose {id : Nat} {Q : Exit → Act → World → Prop} {a : Act} {w : World} {l : List Oper} (n : Nat) (hm : P.follows .mixedOrders = true) (hB : Region.lexTailB .any l.toArray n = true)
    (h : wpLo P l.toArray (fun w' => ∃ q, w' = w.drewN q) (fun A => ∀ a' w', A a' → (∃ q, w' = w.drewN q) → wpList P l.toArray Q (l.drop n) a' w') (l.take n) (fun a' => a' = a)) : (Code.region id l.toArray true).wp P Q a w := by
  simp only [Region.lexTailB, Bool.and_eq_true, decide_eq_true_eq] at hB
  obtain ⟨⟨⟨⟨hsel, hn⟩, hs⟩, hc⟩, hlex⟩ := hB
  have hn' : n < l.length := by simpa using hn
  have htl : (l.take n).length = n := by simp; omega
  have hdl : (l.drop n).length = l.toArray.size - n := by simp
  have inv0 : HeadInv .any l.toArray n (Array.replicate l.toArray.size false) :=
    ⟨by simp, fun j oj _ hl => (by rw [getD_replicate_false] at hl; cases hl), fun t _ ht => getD_in (by simpa using ht) (getD_replicate_false _ _)⟩
  have H := wpAnyF_lex (md := .any) (g := l.toArray.size - n) hsel hs hc hn (l.take n) 0 _ (fun a' => a' = a) (fun j hj => by
    have hj' : j < n := by rw [htl] at hj; exact hj
    simp [hj']) (by simpa using htl) inv0 (by rw [htl]; exact hlex) h
  refine wp_region_any hm ?_
  have := wpAny_of_headF (P := P) (md := .any) (ops := l.toArray) (C := fun w' => ∃ q, w' = w.drewN q) (n := n) (L := fun listed' A' => Region.seqB .any l.toArray (l.toArray.size - n) n listed' = true ∧ ∀ a' w', A' a' → (∃ q, w' = w.drewN q) → wpList P l.toArray Q (l.drop n) a' w') (Q' := Q) (g := l.toArray.size - n) (fun listed A a' w' hC ha hL => by
    have := wpAny_of_seq (md := .any) (Q' := Q) (l.drop n) n listed a' w' (fun j => by simp [List.getElem?_drop]) (by rw [hdl]; exact hL.1) (hL.2 a' w' ha hC)
    rwa [hdl] at this) _ _ (fun a' => a' = a) a { w with drawn := w.drawn + 1 } ⟨1, rfl⟩ rfl H
  rw [htl, show n + (l.toArray.size - n) = l.toArray.size by omega] at this
  exact this
end
end Go.Proofs.Ytfmhdnhaaohdjaa
