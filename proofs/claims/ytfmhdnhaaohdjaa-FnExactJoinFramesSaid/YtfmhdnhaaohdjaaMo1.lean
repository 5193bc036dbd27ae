/- A region that draws its order, whose head makes memory: each operation of the head leaves what its fact tells, in any world that those before it lead to; the last ones come in a forced order. No condition. -/
import Derived.Test.YtfmhdnhaaohdjaaTl
import Derived.StillTail
import Derived.Deep.Quiet
namespace Go.Proofs.Ytfmhdnhaaohdjaa
open Go

section
variable {P : Program} {ops : Array Oper} {md : Region.Mode} {R : World → World → Prop}

def moUpon (P : Program) (R : World → World → Prop) (F : Value → World → Prop) (w0 : World) : Result Next → Prop
  | .ok (.value u) w' => F u w' ∧ R w0 w'
  | .ok .skip w' => F undef w' ∧ R w0 w'
  | .ok (.enter f args) w' => Calls P f args w' (fun e w'' => ∃ u, e = .returned u ∧ F u w'' ∧ R w0 w'')
  | _ => False
def moAt (P : Program) (R : World → World → Prop) (o : Oper) (a : Act) (F : Value → World → Prop) (w : World) : Prop := moUpon P R F w ((execOp a.eval o).run P w)
/-- In this state the operation leaves what F tells. -/
def YieldsM (P : Program) (ops : Array Oper) (R : World → World → Prop) (o : Oper) (F : Value → World → Prop) (a : Act) (w : World) : Prop :=
  (Region.wanted o (yielded ops a.tmps) = true ∧ moAt P R o a F w) ∨ (Region.wanted o (yielded ops a.tmps) = false ∧ F undef w)

theorem wp_of_mo {o : Oper} {a : Act} {F : Value → World → Prop} {K' : Act → World → Prop} {Q' : Exit → Act → World → Prop} {w : World} (hh : moAt P R o a F w) (h : ∀ v w', R w w' → F v w' → K' (a.put o.dst v) w') : o.wp P a w K' Q' := by
  unfold moAt at hh
  unfold Oper.wp
  generalize (execOp a.eval o).run P w = r at *
  cases r with
  | ok n w' =>
    cases n <;> simp only [moUpon] at hh <;> simp only [Oper.upon]
    case value u => exact h _ _ hh.2 hh.1
    case skip => exact h _ _ hh.2 hh.1
    case enter f args => exact hh.mono fun e w'' ⟨u, he, hu, hw''⟩ => by subst he; exact h _ _ hw'' hu
  | halt x w' => simp only [moUpon] at hh

/-- The state behind some operations, whatever they have left. -/
def putAll (vs : Nat → Value) : List (Nat × Tmp) → Act → Act
  | [], a => a
  | (k, d) :: l, a => putAll vs l (a.put (some d) (vs k))
def upd (vs : Nat → Value) (i : Nat) (v : Value) : Nat → Value := fun x => if x = i then v else vs x
theorem upd_at (vs : Nat → Value) (i : Nat) (v : Value) : upd vs i v i = v := by unfold upd; rw [if_pos rfl]
theorem upd_ne (vs : Nat → Value) {i j : Nat} (v : Value) (h : j ≠ i) : upd vs i v j = vs j := by unfold upd; rw [if_neg h]
def apartD : List (Nat × Tmp) → Bool
  | [] => true
  | (i, d) :: l => l.all (fun q => decide (q.1 ≠ i) && decide (q.2 ≠ d)) && apartD l
theorem putAll_upd {vs : Nat → Value} {i : Nat} {v : Value} : ∀ (l : List (Nat × Tmp)) (a : Act), (∀ q ∈ l, q.1 ≠ i) → putAll (upd vs i v) l a = putAll vs l a
  | [], _, _ => rfl
  | (k, d) :: l, a, h => by
    rw [putAll, putAll, upd_ne _ _ (h (k, d) (List.mem_cons_self ..)), putAll_upd l _ (fun q hq => h q (List.mem_cons_of_mem _ hq))]
theorem putAll_put {vs : Nat → Value} {d : Tmp} {v : Value} : ∀ (l : List (Nat × Tmp)) (a : Act), (∀ q ∈ l, q.2 ≠ d) → (putAll vs l a).put (some d) v = putAll vs l (a.put (some d) v)
  | [], _, _ => rfl
  | (k, d') :: l, a, h => by
    rw [putAll, putAll, putAll_put l _ (fun q hq => h q (List.mem_cons_of_mem _ hq))]
    congr 1
    exact (Act.put_comm a v (vs k) (fun t ht e => h (k, d') (List.mem_cons_self ..) (Option.some.inj (e.trans ht.symm)))).symm
theorem put_put (a : Act) (d : Option Tmp) (u v : Value) : (a.put d u).put d v = a.put d v := by
  cases d with
  | none => rfl
  | some t => simp [Act.put]
theorem apartD_at {i : Nat} {d : Tmp} {l : List (Nat × Tmp)} (h : apartD ((i, d) :: l) = true) : (∀ q ∈ l, q.1 ≠ i) ∧ (∀ q ∈ l, q.2 ≠ d) ∧ apartD l = true := by
  rw [apartD, Bool.and_eq_true] at h
  refine ⟨fun q hq => ?_, fun q hq => ?_, h.2⟩
  · have h1 := List.all_eq_true.1 h.1 q hq
    rw [Bool.and_eq_true] at h1
    exact of_decide_eq_true h1.1
  · have h1 := List.all_eq_true.1 h.1 q hq
    rw [Bool.and_eq_true] at h1
    exact of_decide_eq_true h1.2
theorem putAll_at {vs : Nat → Value} {v : Value} {j : Nat} {d : Tmp} : ∀ (l : List (Nat × Tmp)) (a : Act), apartD l = true → (j, d) ∈ l → (putAll vs l a).put (some d) v = putAll (upd vs j v) l a
  | [], _, _, h => by cases h
  | (k, d') :: l, a, hd, h => by
    obtain ⟨h1, h2, h3⟩ := apartD_at hd
    rcases List.mem_cons.1 h with he | hm
    · simp only [Prod.mk.injEq] at he
      obtain ⟨rfl, rfl⟩ := he
      rw [putAll, putAll, upd_at, putAll_upd _ _ h1, putAll_put _ _ h2, put_put]
    · rw [putAll, putAll, putAll_at l _ h3 hm, upd_ne _ _ (Ne.symm (h1 _ hm))]
theorem put_same (a : Act) (d : Option Tmp) : ∃ v, a.put d v = a := by
  cases d with
  | none => exact ⟨undef, rfl⟩
  | some t =>
    rcases Nat.lt_or_ge t a.tmps.size with h | h
    · exact ⟨a.tmps[t], by cases a; dsimp only at h; simp only [Act.put, Array.setIfInBounds, Act.mk.injEq, and_true]; rw [dif_pos h]; exact Array.set_getElem_self h⟩
    · exact ⟨undef, by cases a; dsimp only at h; simp only [Act.put, Array.setIfInBounds]; rw [dif_neg (Nat.not_lt.2 h)]⟩
theorem putAll_start (a : Act) : ∀ (l : List (Nat × Tmp)), apartD l = true → ∃ vs, putAll vs l a = a
  | [], _ => ⟨fun _ => undef, rfl⟩
  | (k, d) :: l, hd => by
    obtain ⟨h1, _, h3⟩ := apartD_at hd
    obtain ⟨vs, h⟩ := putAll_start a l h3
    obtain ⟨v, hv⟩ := put_same a (some d)
    exact ⟨upd vs k v, by rw [putAll, upd_at, hv, putAll_upd _ _ h1, h]⟩

theorem getD_set_true' {listed : Array Bool} {i : Nat} (_hu : listed.getD i true = false) : (listed.setIfInBounds i true).getD i true = true := by
  rcases Nat.lt_or_ge i listed.size with h | h
  · simp [h]
  · simp [show ¬ i < listed.size by omega]
def left (listed : Array Bool) : List (Nat × Tmp) → Nat
  | [] => 0
  | (i, _) :: l => left listed l + if listed.getD i true then 0 else 1
theorem left_set_ne {listed : Array Bool} {i : Nat} : ∀ {l : List (Nat × Tmp)}, (∀ q ∈ l, q.1 ≠ i) → left (listed.setIfInBounds i true) l = left listed l
  | [], _ => rfl
  | (k, o) :: l, h => by rw [left, left, left_set_ne (l := l) (fun q hq => h q (List.mem_cons_of_mem _ hq)), getD_set_ne true (Ne.symm (h (k, o) (List.mem_cons_self ..)))]
theorem left_set {listed : Array Bool} {i : Nat} {o : Tmp} (hu : listed.getD i true = false) : ∀ {l : List (Nat × Tmp)}, apartD l = true → (i, o) ∈ l → left (listed.setIfInBounds i true) l + 1 = left listed l
  | [], _, h => by cases h
  | (k, o') :: l, hd, h => by
    obtain ⟨h1, _, h3⟩ := apartD_at hd
    rw [left, left]
    rcases List.mem_cons.1 h with he | hm
    · simp only [Prod.mk.injEq] at he
      obtain ⟨rfl, _⟩ := he
      rw [left_set_ne h1, hu, getD_set_true' hu]; simp
    · have := left_set hu h3 hm
      have hik : i ≠ k := h1 (i, o) hm
      rw [getD_set_ne true hik]
      omega
theorem left_zero {listed : Array Bool} : ∀ {l : List (Nat × Tmp)}, left listed l = 0 → ∀ q ∈ l, listed.getD q.1 true = true
  | [], _, q, hq => by cases hq
  | (k, o) :: l, h, q, hq => by
    rw [left] at h
    rcases List.mem_cons.1 hq with rfl | hm
    · cases hc : listed.getD k true with
      | true => rfl
      | false => rw [hc] at h; simp at h
    · exact left_zero (l := l) (by omega) q hm
/-- The first one of a list that isn't listed: those before it are. -/
theorem left_least {listed : Array Bool} : ∀ {l : List (Nat × Tmp)}, left listed l ≠ 0 → ∃ l1 q l2, l = l1 ++ q :: l2 ∧ listed.getD q.1 true = false ∧ ∀ q' ∈ l1, listed.getD q'.1 true = true
  | [], h => absurd rfl h
  | (k, o) :: l, h => by
    cases hc : listed.getD k true with
    | false => exact ⟨[], (k, o), l, rfl, hc, fun q hq => by cases hq⟩
    | true =>
      rw [left, hc] at h
      obtain ⟨l1, q, l2, h1, h2, h3⟩ := left_least (l := l) (by simpa using h)
      refine ⟨(k, o) :: l1, q, l2, by rw [h1]; rfl, h2, fun q' hq' => ?_⟩
      rcases List.mem_cons.1 hq' with rfl | hm
      · exact hc
      · exact h3 q' hm
theorem left_all {listed : Array Bool} : ∀ {l : List (Nat × Tmp)}, (∀ q ∈ l, listed.getD q.1 true = false) → left listed l = l.length
  | [], _ => rfl
  | (k, o) :: l, h => by
    rw [left, left_all (l := l) (fun q hq => h q (List.mem_cons_of_mem _ hq)), h (k, o) (List.mem_cons_self ..)]
    rfl

/-- Each operation of the head waits for none but those before it, and for what is listed. -/
def ordH (md : Region.Mode) (ops : Array Oper) (l0 : Array Bool) : List Nat → List (Nat × Tmp) → Bool
  | _, [] => true
  | seen, (i, d) :: l => (match ops[i]? with | some o => decide (o.dst = some d) && o.after.all (fun e => !Region.binds md e || l0.getD e.on false || seen.contains e.on) | none => false) && ordH md ops l0 (i :: seen) l
theorem ordH_at {md : Region.Mode} {ops : Array Oper} {l0 : Array Bool} : ∀ {l1 : List (Nat × Tmp)} {seen : List Nat} {i : Nat} {d : Tmp} {l2 : List (Nat × Tmp)}, ordH md ops l0 seen (l1 ++ (i, d) :: l2) = true → ∃ o, ops[i]? = some o ∧ o.dst = some d ∧ ∀ e ∈ o.after, Region.binds md e = true → l0.getD e.on false = true ∨ e.on ∈ seen ∨ ∃ q ∈ l1, q.1 = e.on
  | [], seen, i, d, l2, h => by
    rw [List.nil_append, ordH, Bool.and_eq_true] at h
    obtain ⟨h, _⟩ := h
    split at h
    · rename_i o ho
      rw [Bool.and_eq_true] at h
      refine ⟨o, ho, of_decide_eq_true h.1, fun e he hb => ?_⟩
      have h1 := Array.all_eq_true'.1 h.2 e he
      simp only [hb, Bool.not_true, Bool.false_or, Bool.or_eq_true] at h1
      rcases h1 with h1 | h1
      · exact .inl h1
      · exact .inr (.inl (by simpa using h1))
    · cases h
  | (k, d') :: l1, seen, i, d, l2, h => by
    rw [List.cons_append, ordH, Bool.and_eq_true] at h
    obtain ⟨o, ho, hd, hall⟩ := ordH_at (l1 := l1) h.2
    refine ⟨o, ho, hd, fun e he hb => ?_⟩
    rcases hall e he hb with h1 | h1 | ⟨q, h1, h2⟩
    · exact .inl h1
    · rcases List.mem_cons.1 h1 with h2 | h2
      · exact .inr (.inr ⟨(k, d'), List.mem_cons_self .., h2.symm⟩)
      · exact .inr (.inl h2)
    · exact .inr (.inr ⟨q, List.mem_cons_of_mem _ h1, h2⟩)
/-- Each operation of the head has one behind it, or the tail's first one, that waits for it. -/
def sinkH (md : Region.Mode) (ops : Array Oper) (t0 : Nat) : List (Nat × Tmp) → Bool
  | [] => true
  | (i, _) :: l => (Region.waitsFor md ops t0 i || l.any fun q => Region.waitsFor md ops q.1 i) && sinkH md ops t0 l
def seqT (md : Region.Mode) (ops : Array Oper) : List Nat → Array Bool → Bool
  | [], listed => (Region.ready md ops listed).isEmpty
  | t :: T, listed => decide (Region.ready md ops listed = [t]) && seqT md ops T (listed.setIfInBounds t true)
def chainT (md : Region.Mode) (ops : Array Oper) : List Nat → Bool
  | t :: u :: T => Region.waitsFor md ops u t && chainT md ops (u :: T)
  | _ => true
def headArr (l0 : Array Bool) (H : List (Nat × Tmp)) : Array Bool := ((List.range l0.size).map fun i => l0.getD i false || H.any fun q => q.1 == i).toArray
def moB (md : Region.Mode) (ops : Array Oper) (l0 : Array Bool) (H : List (Nat × Tmp)) (T : List Nat) : Bool :=
  decide (l0.size = ops.size) && H.all (fun q => decide (q.1 < ops.size) && !l0.getD q.1 true) && T.all (fun t => decide (t < ops.size) && !l0.getD t true && H.all fun q => decide (q.1 ≠ t)) &&
  ((List.range ops.size).all fun i => l0.getD i true || (H.any fun q => q.1 == i) || T.contains i) && ordH md ops l0 [] H && ((List.range ops.size).all fun k => !l0.getD k false || (match ops[k]? with | some o => o.after.all (fun e => !Region.binds md e || l0.getD e.on false) | none => true)) && (match T with | [] => true | t :: _ => sinkH md ops t H) && chainT md ops T && apartD H && seqT md ops T (headArr l0 H)

theorem waits_of {j : Nat} {o : Oper} {e : Edge} (ho : ops[j]? = some o) (he : e ∈ o.after) (hb : Region.binds md e = true) : Region.waitsFor md ops j e.on = true := by
  unfold Region.waitsFor
  rw [ho]
  exact Array.any_eq_true'.2 ⟨e, he, by simp [hb]⟩
theorem wpAny_of_seqT {Q' : Exit → Act → World → Prop} : ∀ (T : List Nat) (tl : List Oper) (listed : Array Bool) (a : Act) (w : World), T.map (fun t => ops[t]?) = tl.map some →
    seqT md ops T listed = true → wpList P ops Q' tl a w → wpAny P md ops Q' T.length listed a w
  | [], tl, _, _, _, hl, hB, h => by
    have : tl = [] := by simpa using hl.symm
    subst this
    exact ⟨by simpa [seqT] using hB, h⟩
  | t :: T, [], _, _, _, hl, _, _ => by simp at hl
  | t :: T, o :: tl, listed, a, w, hl, hB, h => by
    simp only [List.map_cons, List.cons.injEq] at hl
    simp only [seqT, Bool.and_eq_true, decide_eq_true_eq] at hB
    refine ⟨fun h1 => (by rw [hB.1] at h1; cases h1), fun i hi => ?_⟩
    rw [hB.1] at hi
    have hik : i = t := by simpa using hi
    subst hik
    have hw : wpOp P ops Q' i (wpList P ops Q' tl) a w := by unfold wpOp; simp only [hl.1]; exact h
    exact wpOp_mono (fun a' w' h' => wpAny_of_seqT T tl _ a' w' hl.2 hB.2 h') hw

/-- It waits for it, or for one that waits for it, and so on. -/
def anc (md : Region.Mode) (ops : Array Oper) : Nat → Nat → Nat → Bool
  | 0, j, i => Region.waitsFor md ops j i
  | f + 1, j, i => Region.waitsFor md ops j i || (List.range ops.size).any fun k => Region.waitsFor md ops j k && anc md ops f k i
/-- What the facts of an operation may speak of: what those leave for which it waits. -/
def seen (md : Region.Mode) (ops : Array Oper) (i : Nat) (vs : Nat → Value) : Nat → Value := fun k => if Region.waitsFor md ops i k = true then vs k else undef
theorem seen_upd {i j : Nat} {vs : Nat → Value} {v : Value} (h : Region.waitsFor md ops i j = false) : seen md ops i (upd vs j v) = seen md ops i vs := by
  funext k
  unfold seen
  by_cases hk : Region.waitsFor md ops i k = true
  · rw [if_pos hk, if_pos hk]
    exact upd_ne _ _ (fun e => by rw [e, h] at hk; cases hk)
  · rw [if_neg hk, if_neg hk]

structure MoInv (md : Region.Mode) (ops : Array Oper) (l0 : Array Bool) (H : List (Nat × Tmp)) (listed : Array Bool) : Prop where
  size : listed.size = ops.size
  old : ∀ j, (∀ q ∈ H, q.1 ≠ j) → listed.getD j true = l0.getD j true
  keep : ∀ j, l0.getD j false = true → listed.getD j false = true
  closed : ∀ q ∈ H, listed.getD q.1 false = true → ∀ o, ops[q.1]? = some o → ∀ e ∈ o.after, Region.binds md e = true → listed.getD e.on false = true
  closed0 : ∀ j, (∀ q ∈ H, q.1 ≠ j) → listed.getD j false = true → ∀ o, ops[j]? = some o → ∀ e ∈ o.after, Region.binds md e = true → listed.getD e.on false = true

theorem waits_tail {l0 : Array Bool} {H : List (Nat × Tmp)} {listed : Array Bool} {t0 : Nat} (inv : MoInv md ops l0 H listed) (hsz : ∀ q ∈ H, q.1 < ops.size) : ∀ (l1 l : List (Nat × Tmp)), H = l1 ++ l → sinkH md ops t0 l = true → ∀ q ∈ l, listed.getD q.1 true = false → t0 ∉ Region.ready md ops listed
  | _, [], _, _, q, hq, _ => by cases hq
  | l1, (i, o) :: l, hH, hs, q, hq, hun => by
    rw [sinkH, Bool.and_eq_true] at hs
    have htail := waits_tail inv hsz (l1 ++ [(i, o)]) l (by rw [hH]; simp) hs.2
    rcases List.mem_cons.1 hq with rfl | hm
    · intro hr
      obtain ⟨_, ot, hot, hall⟩ := mem_ready.1 hr
      rw [Bool.or_eq_true] at hs
      rcases hs.1 with h1 | h1
      · obtain ⟨o2, ho2, e, he, hb, hon⟩ := Region.waitsFor_spec h1
        obtain rfl : o2 = ot := Option.some.inj (ho2.symm.trans hot)
        have := hall e he hb
        rw [hon, getD_both hun] at this
        cases this
      · obtain ⟨q', hq', h2⟩ := List.any_eq_true.1 h1
        have hqH : q' ∈ H := by rw [hH]; simp [hq']
        cases hl : listed.getD q'.1 true with
        | false => exact htail q' hq' hl hr
        | true =>
          obtain ⟨o2, ho2, e, he, hb, hon⟩ := Region.waitsFor_spec h2
          have hlt : q'.1 < listed.size := by rw [inv.size]; exact hsz q' hqH
          have := inv.closed q' hqH (by simpa [hlt] using hl) o2 ho2 e he hb
          rw [hon, getD_both hun] at this
          cases this
    · exact htail q hm hun

theorem wpAny_mo {l0 : Array Bool} {H : List (Nat × Tmp)} {T : List Nat} {tl : List Oper} {w0 : World} {a0 : Act} {Q' : Exit → Act → World → Prop} {F : Nat → (Nat → Value) → Value → World → Prop}
    (hB : moB md ops l0 H T = true) (htl : T.map (fun t => ops[t]?) = tl.map some)
    (hRr : ∀ a, R a a) (hR : ∀ a b c, R a b → R b c → R a c) (hF : ∀ q ∈ H, ∀ us v w w', F q.1 us v w → R w w' → F q.1 us v w')
    (hstep : ∀ q ∈ H, ∀ o, ops[q.1]? = some o → ∀ vs w', R w0 w' → (∀ i, l0.getD i false = false → anc md ops 3 q.1 i = true → F i (seen md ops i vs) (vs i) w') → YieldsM P ops R o (F q.1 (seen md ops q.1 vs)) (putAll vs H a0) w')
    (hend : ∀ vs w', R w0 w' → (∀ q ∈ H, F q.1 (seen md ops q.1 vs) (vs q.1) w') → wpList P ops Q' tl (putAll vs H a0) w') :
    ∀ (f : Nat) (listed : Array Bool) (vs : Nat → Value) (w : World), left listed H = f → MoInv md ops l0 H listed → R w0 w → (∀ q ∈ H, listed.getD q.1 false = true → F q.1 (seen md ops q.1 vs) (vs q.1) w) →
      wpAny P md ops Q' (f + T.length) listed (putAll vs H a0) w := by
  unfold moB at hB
  simp only [Bool.and_eq_true, decide_eq_true_eq] at hB
  obtain ⟨⟨⟨⟨⟨⟨⟨⟨⟨h0s, hHs⟩, hTs⟩, hcov⟩, hord⟩, h0c⟩, hs⟩, hc⟩, hD⟩, hseq⟩ := hB
  have hsz : ∀ q ∈ H, q.1 < ops.size := fun q hq => by
    have := List.all_eq_true.1 hHs q hq
    rw [Bool.and_eq_true] at this
    exact of_decide_eq_true this.1
  have hun0 : ∀ q ∈ H, l0.getD q.1 true = false := fun q hq => by
    have := List.all_eq_true.1 hHs q hq
    rw [Bool.and_eq_true] at this
    simpa using this.2
  have hTn : ∀ t ∈ T, t < ops.size ∧ l0.getD t true = false ∧ ∀ q ∈ H, q.1 ≠ t := fun t ht => by
    have := List.all_eq_true.1 hTs t ht
    rw [Bool.and_eq_true, Bool.and_eq_true] at this
    exact ⟨of_decide_eq_true this.1.1, by simpa using this.1.2, fun q hq => of_decide_eq_true (List.all_eq_true.1 this.2 q hq)⟩
  intro f
  induction f with
  | zero =>
    intro listed vs w h0 inv hw hf
    have hall := left_zero h0
    have hl : listed = headArr l0 H := by
      apply Array.ext
      · rw [inv.size, headArr]; simp [h0s]
      · intro i h1 h2
        have hi : i < ops.size := by rw [← inv.size]; exact h1
        simp only [headArr, List.getElem_toArray, List.getElem_map, List.getElem_range]
        by_cases hm : ∃ q ∈ H, q.1 = i
        · obtain ⟨q, hq, rfl⟩ := hm
          have h3 := hall q hq
          simp [h1] at h3
          rw [h3, show (H.any fun q' => q'.1 == q.1) = true from List.any_eq_true.2 ⟨q, hq, by simp⟩, Bool.or_true]
        · have h3 := inv.old i (fun q hq e => hm ⟨q, hq, e⟩)
          have h4 : (H.any fun q => q.1 == i) = false := by
            rw [List.any_eq_false]
            intro q hq
            simp only [beq_iff_eq]
            exact fun e => hm ⟨q, hq, e⟩
          rw [h4, Bool.or_false]
          have h5 : i < l0.size := by omega
          simp [h1, h5] at h3 ⊢
          exact h3
    rw [Nat.zero_add]
    refine wpAny_of_seqT T tl listed _ w htl (by rw [hl]; exact hseq) (hend vs w hw (fun q hq => hf q hq (by
      have h1 : q.1 < listed.size := by rw [inv.size]; exact hsz q hq
      have := hall q hq
      simpa [h1] using this)))
  | succ f ih =>
    intro listed vs w h0 inv hw hf
    obtain ⟨l1, q0, l2, hH, hun, hless⟩ := left_least (listed := listed) (l := H) (by omega)
    have hq0 : q0 ∈ H := by rw [hH]; simp
    have hr0 : q0.1 ∈ Region.ready md ops listed := by
      rw [hH] at hord
      obtain ⟨o0, ho0, _, hall0⟩ := ordH_at (i := q0.1) (d := q0.2) hord
      refine mem_ready.2 ⟨hun, o0, ho0, fun e he hb => ?_⟩
      rcases hall0 e he hb with h1 | h1 | ⟨q, h1, h2⟩
      · exact inv.keep _ h1
      · cases h1
      · have h3 := hless q h1
        have hq : q ∈ H := by rw [hH]; simp [h1]
        have h4 : q.1 < listed.size := by rw [inv.size]; exact hsz q hq
        rw [← h2]
        simpa [h4] using h3
    have hnoT : ∀ t ∈ T, t ∉ Region.ready md ops listed := by
      cases T with
      | nil => intro t ht; cases ht
      | cons t0 T' =>
        have hfirst := waits_tail (t0 := t0) inv hsz [] H rfl hs q0 hq0 hun
        have hrest : ∀ (T' : List Nat) (t0 : Nat), (∀ t ∈ t0 :: T', listed.getD t true = false) → chainT md ops (t0 :: T') = true → t0 ∉ Region.ready md ops listed → ∀ t ∈ t0 :: T', t ∉ Region.ready md ops listed := by
          intro T'
          induction T' with
          | nil => intro t0 _ _ h t ht; rw [List.mem_singleton.1 ht]; exact h
          | cons u T' ih2 =>
            intro t0 hun2 hch h t ht
            rw [chainT, Bool.and_eq_true] at hch
            rcases List.mem_cons.1 ht with rfl | hm
            · exact h
            · refine ih2 u (fun t ht => hun2 t (List.mem_cons_of_mem _ ht)) hch.2 (fun hr => ?_) t hm
              obtain ⟨_, ot, hot, hall⟩ := mem_ready.1 hr
              obtain ⟨o2, ho2, e, he, hb, hon⟩ := Region.waitsFor_spec hch.1
              obtain rfl : o2 = ot := Option.some.inj (ho2.symm.trans hot)
              have := hall e he hb
              rw [hon, getD_both (hun2 t0 (List.mem_cons_self ..))] at this
              cases this
        exact hrest T' t0 (fun t ht => by
          obtain ⟨_, h2, h3⟩ := hTn t ht
          rw [inv.old t h3]; exact h2) hc hfirst
    rw [show f + 1 + T.length = (f + T.length) + 1 by omega]
    refine ⟨fun h => (by rw [h] at hr0; cases hr0), fun j hj => ?_⟩
    obtain ⟨hjun, o, hoj, hall⟩ := mem_ready.1 hj
    have hjs : j < ops.size := (Array.getElem?_eq_some_iff.1 hoj).1
    obtain ⟨d, hjH, hod⟩ : ∃ d, (j, d) ∈ H ∧ o.dst = some d := by
      have h1 := List.all_eq_true.1 hcov j (List.mem_range.2 hjs)
      rw [Bool.or_eq_true, Bool.or_eq_true] at h1
      rcases h1 with (h1 | h1) | h1
      · exfalso
        have h2 : j < l0.size := by omega
        have := inv.keep j (by simpa [h2] using h1)
        rw [getD_both hjun] at this
        cases this
      · obtain ⟨q, hq, h2⟩ := List.any_eq_true.1 h1
        have h3 : q.1 = j := by simpa using h2
        obtain ⟨m1, m2, hm⟩ := List.append_of_mem hq
        have hord2 := hord
        rw [hm] at hord2
        obtain ⟨o0, ho0, hd0, _⟩ := ordH_at (i := q.1) (d := q.2) hord2
        rw [h3, hoj] at ho0
        obtain rfl : o = o0 := Option.some.inj ho0
        exact ⟨q.2, by rw [← h3]; exact hq, hd0⟩
      · exact absurd hj (hnoT j (by simpa using h1))
    have hlisted : ∀ (f j' i : Nat), (∀ i', Region.waitsFor md ops j' i' = true → listed.getD i' false = true) → anc md ops f j' i = true → listed.getD i false = true := by
      intro f
      induction f with
      | zero => intro j' i h1 h2; exact h1 i h2
      | succ f ihf =>
        intro j' i h1 h2
        rw [anc, Bool.or_eq_true] at h2
        rcases h2 with h2 | h2
        · exact h1 i h2
        · obtain ⟨k, _, h3⟩ := List.any_eq_true.1 h2
          rw [Bool.and_eq_true] at h3
          have hk := h1 k h3.1
          refine ihf k i (fun i' hi' => ?_) h3.2
          obtain ⟨ok, hok, e, he, hb, hon⟩ := Region.waitsFor_spec hi'
          rw [← hon]
          by_cases hkH : ∃ q ∈ H, q.1 = k
          · obtain ⟨q, hq, rfl⟩ := hkH
            exact inv.closed q hq hk ok hok e he hb
          · exact inv.closed0 k (fun q hq e => hkH ⟨q, hq, e⟩) hk ok hok e he hb
    have hfj : ∀ i, l0.getD i false = false → anc md ops 3 j i = true → F i (seen md ops i vs) (vs i) w := fun i hi0 hi => by
      have hli := hlisted 3 j i (fun i' hi' => by
        obtain ⟨o2, ho2, e, he, hb, hon⟩ := Region.waitsFor_spec hi'
        obtain rfl : o2 = o := Option.some.inj (ho2.symm.trans hoj)
        rw [← hon]; exact hall e he hb) hi
      have hiH : ∃ q ∈ H, q.1 = i := by
        apply Classical.byContradiction
        intro hno
        have h1 := inv.old i (fun q hq e => hno ⟨q, hq, e⟩)
        have his : i < listed.size := by
          rcases Nat.lt_or_ge i listed.size with h | h
          · exact h
          · simp [show ¬ i < listed.size by omega] at hli
        have his2 : i < l0.size := by rw [h0s, ← inv.size]; exact his
        simp [his, his2] at h1 hli hi0
        rw [hli, hi0] at h1
        cases h1
      obtain ⟨q, hq, rfl⟩ := hiH
      exact hf q hq hli
    have hy := hstep (j, d) hjH o hoj vs w hw hfj
    have hself : Region.waitsFor md ops j j = false := by
      cases hc2 : Region.waitsFor md ops j j with
      | false => rfl
      | true =>
        obtain ⟨o2, ho2, e, he, hb, hon⟩ := Region.waitsFor_spec hc2
        obtain rfl : o2 = o := Option.some.inj (ho2.symm.trans hoj)
        have := hall e he hb
        rw [hon, getD_both hjun] at this
        cases this
    have hnext : ∀ v w', R w w' → F j (seen md ops j vs) v w' → wpAny P md ops Q' (f + T.length) (listed.setIfInBounds j true) ((putAll vs H a0).put o.dst v) w' := by
      intro v w' hw' hv
      rw [hod, putAll_at H _ hD hjH]
      refine ih _ _ w' (by have := left_set hjun hD hjH; omega) ?_ (hR _ _ _ hw hw') (fun q hq hli => ?_)
      · refine ⟨by simp [inv.size], fun k hk => ?_, fun k hk => getD_set_true (inv.keep k hk), fun q hq hl o3 ho3 e he hb => ?_, fun k hk hl o3 ho3 e he hb => ?_⟩
        · rw [getD_set_ne true (fun e => hk (j, d) hjH e)]; exact inv.old k hk
        · by_cases hqj : j = q.1
          · subst hqj
            obtain rfl : o3 = o := Option.some.inj (ho3.symm.trans hoj)
            exact getD_set_true (hall e he hb)
          · rw [getD_set_ne false hqj] at hl
            exact getD_set_true (inv.closed q hq hl o3 ho3 e he hb)
        · rw [getD_set_ne false (fun e => hk (j, d) hjH e)] at hl
          exact getD_set_true (inv.closed0 k hk hl o3 ho3 e he hb)
      · by_cases hij : q.1 = j
        · have h5 : seen md ops q.1 (upd vs j v) = seen md ops q.1 vs := seen_upd (by rw [hij]; exact hself)
          rw [h5, hij, upd_at]
          exact hv
        · rw [getD_set_ne false (Ne.symm hij)] at hli
          have h1 : Region.waitsFor md ops q.1 j = false := by
            cases hc2 : Region.waitsFor md ops q.1 j with
            | false => rfl
            | true =>
              exfalso
              obtain ⟨oi, hoi, e, he, hb, hon⟩ := Region.waitsFor_spec hc2
              have := inv.closed q hq hli oi hoi e he hb
              rw [hon, getD_both hjun] at this
              cases this
          rw [upd_ne _ _ hij, seen_upd h1]
          exact hF q hq _ _ _ _ (hf q hq hli) hw'
    unfold wpOp
    rw [hoj]
    dsimp only
    rcases hy with ⟨hwa, hv⟩ | ⟨hwa, hv⟩
    · rw [if_pos hwa]
      exact .inl (wp_of_mo hv hnext)
    · rw [if_neg (by rw [hwa]; simp)]
      exact hnext undef w (hRr w) hv

abbrev Fact := (Nat → Value) → Value → World → Prop
def factAt : List (Nat × Fact) → Nat → Fact
  | [], _ => fun _ _ _ => True
  | (k, F) :: l, i => if k = i then F else factAt l i
/-- The head's walk: one operation after another, each with its fact. -/
def MoGo (P : Program) (md : Region.Mode) (ops : Array Oper) (R : World → World → Prop) (w0 : World) (S : (Nat → Value) → Act) (fin : List (Nat × Fact) → Prop) : List (Nat × Tmp) → List (Nat × Fact) → Prop
  | [], Fs => fin Fs
  | (j, _) :: rest, Fs => ∃ F : Fact, (∀ us v w w', F us v w → R w w' → F us v w') ∧
      (∀ o, ops[j]? = some o → ∀ vs w', R w0 w' → (∀ i, anc md ops 3 j i = true → factAt Fs i (seen md ops i vs) (vs i) w') → YieldsM P ops R o (F (seen md ops j vs)) (S vs) w') ∧
      MoGo P md ops R w0 S fin rest ((j, F) :: Fs)
theorem factAt_new {Fs : List (Nat × Fact)} {j i : Nat} {F : Fact} (h : i ≠ j) : factAt ((j, F) :: Fs) i = factAt Fs i := by rw [factAt, if_neg (Ne.symm h)]
theorem factAt_now {Fs : List (Nat × Fact)} {j : Nat} {F : Fact} : factAt ((j, F) :: Fs) j = F := by rw [factAt, if_pos rfl]
theorem mo_collect {l0 : Array Bool} {w0 : World} {S : (Nat → Value) → Act} {H : List (Nat × Tmp)} {fin : List (Nat × Fact) → Prop} (hD : apartD H = true) (hun : ∀ q ∈ H, l0.getD q.1 false = false) :
    ∀ (rest done : List (Nat × Tmp)) (Fs : List (Nat × Fact)), H = done ++ rest → (∀ i, (∀ q ∈ done, q.1 ≠ i) → factAt Fs i = fun _ _ _ => True) → MoGo P md ops R w0 S fin rest Fs →
    ∃ G : List (Nat × Fact), fin G ∧ (∀ q ∈ done, factAt G q.1 = factAt Fs q.1) ∧ (∀ i, (∀ q ∈ H, q.1 ≠ i) → factAt G i = fun _ _ _ => True) ∧ ∀ q ∈ rest, (∀ us v w w', factAt G q.1 us v w → R w w' → factAt G q.1 us v w') ∧
      ∀ o, ops[q.1]? = some o → ∀ vs w', R w0 w' → (∀ i, l0.getD i false = false → anc md ops 3 q.1 i = true → factAt G i (seen md ops i vs) (vs i) w') → YieldsM P ops R o (factAt G q.1 (seen md ops q.1 vs)) (S vs) w'
  | [], done, Fs, hH, hno, h => ⟨Fs, h, fun _ _ => rfl, fun i hi => hno i (fun q hq => hi q (by rw [hH]; simp [hq])), fun q hq => by cases hq⟩
  | (j, o) :: rest, done, Fs, hH, hno, h => by
    obtain ⟨F, h1, h2, h3⟩ := h
    have hjH : (j, o) ∈ H := by rw [hH]; simp
    have hnew : ∀ q ∈ done, q.1 ≠ j := by
      intro q hq he
      have : ∀ (l1 l2 : List (Nat × Tmp)), apartD (l1 ++ (j, o) :: l2) = true → ∀ q ∈ l1, q.1 ≠ j := by
        intro l1
        induction l1 with
        | nil => intro _ _ q hq; cases hq
        | cons x l1 ih =>
          intro l2 hd q hq
          obtain ⟨x1, x2⟩ := x
          obtain ⟨g1, _, g3⟩ := apartD_at hd
          rcases List.mem_cons.1 hq with rfl | hm
          · exact fun e => g1 (j, o) (by simp) e.symm
          · exact ih l2 g3 q hm
      exact this done rest (by rw [← hH]; exact hD) q hq he
    obtain ⟨G, hG, hold, hG0, hGs⟩ := mo_collect hD hun rest (done ++ [(j, o)]) ((j, F) :: Fs) (by rw [hH]; simp) (fun i hi => by
      rw [factAt_new (fun e => hi (j, o) (by simp) e.symm)]
      exact hno i (fun q hq => hi q (by simp [hq]))) h3
    have hat' : factAt G j = F := by rw [hold (j, o) (by simp), factAt_now]
    refine ⟨G, hG, fun q hq => ?_, hG0, fun q hq => ?_⟩
    · rw [hold q (by simp [hq]), factAt_new (hnew q hq)]
    · rcases List.mem_cons.1 hq with rfl | hm
      · dsimp only
        rw [hat']
        refine ⟨h1, fun o ho vs w' hw hd => h2 o ho vs w' hw (fun i hi => ?_)⟩
        by_cases hdone : ∃ q ∈ done, q.1 = i
        · obtain ⟨q, hq, rfl⟩ := hdone
          have hq2 : q ∈ H := by rw [hH]; simp [hq]
          have := hd q.1 (hun q hq2) hi
          rwa [hold q (by simp [hq]), factAt_new (hnew q hq)] at this
        · rw [hno i (fun q hq e => hdone ⟨q, hq, e⟩)]
          trivial
      · exact hGs q hm

/-- A HEAD THAT MAKES MEMORY IS WALKED ONCE: each of its operations leaves what its fact tells; the last operations come in a forced order. -/
theorem wpAny_mo_go {Q : Exit → Act → World → Prop} {a : Act} {w w1 : World} {l0 : Array Bool} (H : List (Nat × Tmp)) (T : List Nat) {tl : List Oper} {f : Nat} {S : (Nat → Value) → Act} (hB : moB md ops l0 H T = true) (htl : T.map (fun t => ops[t]?) = tl.map some) (hf : f = H.length + T.length)
    (hRr : ∀ a, R a a) (hR : ∀ a b c, R a b → R b c → R a c) (hd : R w w1) (hS : ∀ vs, putAll vs H a = S vs)
    (h : MoGo P md ops R w S (fun Fs => ∀ vs w', R w w' → (∀ i, (H.any fun q => q.1 == i) = true → factAt Fs i (seen md ops i vs) (vs i) w') → wpList P ops Q tl (S vs) w') H []) : wpAny P md ops Q f l0 a w1 := by
  have hB0 := hB
  unfold moB at hB0
  simp only [Bool.and_eq_true, decide_eq_true_eq] at hB0
  obtain ⟨⟨⟨⟨⟨⟨⟨⟨⟨h0s, hHs⟩, hTs⟩, hcov⟩, hord⟩, h0c⟩, hs⟩, hc⟩, hD⟩, hseq⟩ := hB0
  have hun0 : ∀ q ∈ H, l0.getD q.1 true = false := fun q hq => by
    have := List.all_eq_true.1 hHs q hq
    rw [Bool.and_eq_true] at this
    simpa using this.2
  obtain rfl : S = fun vs => putAll vs H a := funext fun vs => (hS vs).symm
  obtain ⟨G, hG, _, _, hGs⟩ := mo_collect hD (fun q hq => getD_both (hun0 q hq)) H [] [] rfl (fun i _ => rfl) h
  obtain ⟨vs0, hvs0⟩ := putAll_start a H hD
  have key := wpAny_mo (P := P) (md := md) (ops := ops) (R := R) (w0 := w) (a0 := a) (Q' := Q) (F := factAt G) hB htl hRr hR
    (fun q hq us v w w' => (hGs q hq).1 us v w w') (fun q hq o ho vs w' hw hd => (hGs q hq).2 o ho vs w' hw hd) (fun vs w' hw hf => hG vs w' hw (fun i hi => by
      obtain ⟨q, hq, he⟩ := List.any_eq_true.1 hi
      have he2 : q.1 = i := by simpa using he
      rw [← he2]; exact hf q hq))
    H.length l0 vs0 w1 (left_all hun0) ⟨h0s, fun _ _ => rfl, fun _ h => h, (fun q hq hl => by rw [getD_both (hun0 q hq)] at hl; cases hl), (fun k _ hl o ho e he hb => by
      have hks : k < ops.size := (Array.getElem?_eq_some_iff.1 ho).1
      have h1 := List.all_eq_true.1 h0c k (List.mem_range.2 hks)
      rw [hl, ho] at h1
      simp only [Bool.not_true, Bool.false_or] at h1
      have h2 := Array.all_eq_true'.1 h1 e he
      simpa [hb] using h2)⟩ hd (fun q hq hl => by rw [getD_both (hun0 q hq)] at hl; cases hl)
  rw [hvs0] at key
  rw [hf]; exact key
end
end Go.Proofs.Ytfmhdnhaaohdjaa
