/- Put together: Late, Slip, WideA, WideB, WideD, WideG, WideH, ExD, ExE, ExF. -/
import Derived.Test.YtnocdecimcpkfaaPut1
import Derived.Test.YtnocdecimcpkfaaRows
import Derived.Test.YtnocdecimcpkfaaPut0
import Derived.WalkKit
import Derived.WalkSpells
import Derived.WalkLawsBesides
import Derived.Laws.Externs
import Derived.Deep.QuietTactic
import Derived.BigQuiet
import Derived.Lib.Hide
import Derived.Handy
import Derived.Laws.MathBits
import Derived.Test.YtnocdecimcpkfaaPut2
import Derived.LoopTactic
namespace Go.Proofs.Ytnocdecimcpkfaa
open Go.RowKit Go.Sort

section
variable {P : Program} {ops : Array Oper} {md : Region.Mode} {C : World → Prop}

/-- Every edge of the head leads back. -/
def backB (md : Region.Mode) (ops : Array Oper) (n : Nat) : Bool :=
  (List.range n).all fun i => match ops[i]? with
    | some o => o.after.all fun e => !Region.binds md e || decide (e.on < i)
    | none => false
theorem backB_spec {n i : Nat} (h : backB md ops n = true) (hi : i < n) : ∃ o, ops[i]? = some o ∧ ∀ e ∈ o.after, Region.binds md e = true → e.on < i := by
  have h1 := List.all_eq_true.1 h i (List.mem_range.2 hi)
  cases ho : ops[i]? with
  | none => rw [ho] at h1; cases h1
  | some o =>
    rw [ho] at h1
    refine ⟨o, rfl, fun e he hb => ?_⟩
    have h2 := Array.all_eq_true_iff_forall_mem.1 h1 e he
    simpa [hb] using h2
/-- While an operation of the head is open, one is ready. -/
theorem some_ready {n : Nat} {listed : Array Bool} (h : backB md ops n = true) (hsz : listed.size = ops.size) (hn : n ≤ ops.size) :
    ∀ (i : Nat), i < n → listed.getD i true = false → ∃ k, k ≤ i ∧ k ∈ Region.ready md ops listed := by
  intro i
  induction i using Nat.strongRecOn with
  | _ i ih =>
    intro hi hun
    obtain ⟨o, ho, hall⟩ := backB_spec h hi
    by_cases hr : ∀ e ∈ o.after, Region.binds md e = true → listed.getD e.on false = true
    · exact ⟨i, Nat.le_refl _, mem_ready.2 ⟨hun, o, ho, hr⟩⟩
    · have : ∃ e ∈ o.after, Region.binds md e = true ∧ listed.getD e.on false = false := by
        apply Classical.byContradiction
        intro hno
        refine hr fun e he hb => ?_
        cases hv : listed.getD e.on false with
        | true => rfl
        | false => exact absurd ⟨e, he, hb, hv⟩ hno
      obtain ⟨e, he, hb, hv⟩ := this
      have hlt := hall e he hb
      obtain ⟨k, hk, hkr⟩ := ih e.on hlt (by omega) (getD_in (by omega) hv)
      exact ⟨k, by omega, hkr⟩

/-- A temporary that no open operation writes holds what it holds at the end. -/
theorem rAny_eval {n t : Nat} {u : Value} {L : Array Bool → Act → Prop} (hL : ∀ l a, L l a → a.eval (.tmp t) = u) :
    ∀ (f : Nat) (listed : Array Bool) (a : Act), (∀ i o, i < n → ops[i]? = some o → listed.getD i true = false → o.dst ≠ some t) → rAny P md ops C n L f listed a → a.eval (.tmp t) = u
  | 0, listed, a, _, h => hL _ _ h
  | f + 1, listed, a, hw, h => by
    obtain ⟨hne, hall⟩ := h
    obtain ⟨i, hi⟩ := List.exists_mem_of_ne_nil _ hne
    obtain ⟨hin, o, v, ho, _, hK⟩ := hall i hi
    have h1 := rAny_eval hL f _ _ (fun k ok hk hok hun => by
      by_cases hik : i = k
      · subst hik
        have : ok = o := Option.some.inj (hok.symm.trans ho)
        subst this
        exact hw i ok hin ho (mem_ready.1 hi).1
      · rw [getD_set_ne true hik] at hun; exact hw k ok hk hok hun) hK
    rw [Act.eval_put (fun d hd hx => by cases hx; exact hw i o hin ho (mem_ready.1 hi).1 hd)] at h1
    exact h1

/-- Who writes temporary t ahead of the store s is waited for by it. -/
def writersB (md : Region.Mode) (ops : Array Oper) (n s t : Nat) : Bool :=
  (List.range n).all fun i => match ops[i]? with
    | some o => o.dst != some t || Region.waitsFor md ops s i
    | none => true

structure Late (P : Program) (md : Region.Mode) (ops : Array Oper) (n j s : Nat) (d t : Tmp) (T : TypeId) (cs us : Array Value) (u : Value) (oj os : Oper) (eff : Nat → World → World) : Prop where
  hsel : Region.noSelect ops = true
  hn : n < ops.size
  hjn : j < n
  hsn : s < n
  hjs : j ≠ s
  hsink : Region.sinkB md ops n = true
  hchain : Region.chainB md ops n = true
  hback : backB md ops n = true
  hoj : ops[j]? = some oj
  hos : ops[s]? = some os
  hd : oj.dst = some d
  hafter : oj.after = #[]
  hguard : oj.guard = none
  hsd : os.dst = none
  hsg : os.guard = none
  hsj : Region.waitsFor md ops s j = true
  hdt : d ≠ t
  hwr : writersB md ops n s t = true
  hrun : ∀ (ρ : Operand → Value) (w : World), (execOp ρ oj).run P w = .ok (.value (.pointer (some ⟨w.heap.size, 0, none⟩))) (w.alloc (.cells cs T))
  hst : ∀ (ρ : Operand → Value) (w : World) (b : Nat), ρ (.tmp d) = .pointer (some ⟨b, 0, none⟩) → ρ (.tmp t) = u → w.heap[b]? = some (.cells cs T) → (execOp ρ os).run P w = .ok .skip (eff b w)
  heff : ∀ (w : World) (b : Nat), w.heap[b]? = some (.cells cs T) → (eff b w).heap[b]? = some (.cells us T) ∧ (∀ B, B ≤ b → Below B w (eff b w))

/-- The quiet operations of the head are apart from the block's temporary. -/
def quietApartB (ops : Array Oper) (n j s : Nat) (d : Tmp) : Bool :=
  (List.range n).all fun i => i == j || i == s || match ops[i]? with
    | some o => !(o.looksAt ops).contains d && o.dst != some d
    | none => true
theorem quietApartB_spec {n j s d : Nat} (h : quietApartB ops n j s d = true) : ∀ i o, i < n → ¬ (i = j ∨ i = s) → ops[i]? = some o → (∀ d', some d = some d' → d' ∉ o.looksAt ops) ∧ (∀ d', some d = some d' → o.dst ≠ some d') := by
  intro i o hi hj ho
  have h1 := List.all_eq_true.1 h i (List.mem_range.2 hi)
  have hj1 : i ≠ j := fun e => hj (.inl e)
  have hj2 : i ≠ s := fun e => hj (.inr e)
  simp only [ho, Bool.or_eq_true, beq_iff_eq, hj1, hj2, false_or, Bool.and_eq_true, Bool.not_eq_true', bne_iff_ne] at h1
  refine ⟨fun d' hd => ?_, fun d' hd => ?_⟩
  · cases hd; simpa using h1.1
  · cases hd; exact h1.2

variable {n j s g : Nat} {d t : Tmp} {T : TypeId} {cs us : Array Value} {u : Value} {oj os : Oper} {eff : Nat → World → World} {Q : Exit → Act → World → Prop} {Lq : Act → Prop} {l : List Oper} {w0 : World}

theorem late_tail (K : Late P md ops n j s d t T cs us u oj os eff) (hqa : quietApartB ops n j s d = true) (hg : l.length = g) (hl : ∀ k, l[k]? = ops[n + k]?) (hC : ∀ w', Below w0.heap.size w0 w' → C w')
    (hQ : ∀ a w b, Below w0.heap.size w0 w → w0.heap.size ≤ b → b < w.heap.size → w.heap[b]? = some (.cells us T) → Lq a → wpList P ops Q l (a.put (some d) (.pointer (some ⟨b, 0, none⟩))) w)
    (f : Nat) (listed : Array Bool) (a : Act) (w : World) (b : Nat) (hw : Below w0.heap.size w0 w) (hb : w0.heap.size ≤ b) (hbl : b < w.heap.size) (hbx : w.heap[b]? = some (.cells us T))
    (hlj : listed.getD j true = true) (hls : listed.getD s true = true)
    (h : rAny P md ops C n (fun listed' a' => Region.seqB md ops g n listed' = true ∧ Lq a') f listed a) : wpAny P md ops Q (f + g) listed (a.put (some d) (.pointer (some ⟨b, 0, none⟩))) w :=
  rAny_then_tail (md := md) (D := fun w' => Below w0.heap.size w0 w' ∧ b < w'.heap.size ∧ w'.heap[b]? = some (.cells us T)) K.hsel hg hl (fun w' h => hC w' h.1)
    (fun x y hx hy => ⟨Below.trans hx.1 (Below.mono hy hx.1.size), Nat.lt_of_lt_of_le hx.2.1 hy.size, (hy.block _ hx.2.1).trans hx.2.2⟩) (fun k => k = j ∨ k = s) (quietApartB_spec hqa)
    (fun a' w' hw' hl' => hQ a' w' b hw'.1 hb hw'.2.1 hw'.2.2 hl') f listed a w ⟨hw, hbl, hbx⟩ (fun k hk => by rcases hk with rfl | rfl; exact hlj; exact hls) h

theorem eval_put_same (a : Act) (d : Tmp) (v : Value) (h : d < a.tmps.size) : (a.put (some d) v).eval (.tmp d) = v := by
  simp [Act.eval, Act.put, h]
theorem put_size (a : Act) (x : Option Tmp) (v : Value) : (a.put x v).tmps.size = a.tmps.size := by cases x <;> simp [Act.put]
theorem wanted_none {o : Oper} (h : o.guard = none) (f : Nat → Option Bool) : Region.wanted o f = true := by simp [Region.wanted, h]

/-- Behind the block's laying, the store still open. -/
theorem late_one (K : Late P md ops n j s d t T cs us u oj os eff) (hqa : quietApartB ops n j s d = true) (hg : l.length = g) (hl : ∀ k, l[k]? = ops[n + k]?) (hC : ∀ w', Below w0.heap.size w0 w' → C w')
    (hLu : ∀ a, Lq a → a.eval (.tmp t) = u)
    (hQ : ∀ a w b, Below w0.heap.size w0 w → w0.heap.size ≤ b → b < w.heap.size → w.heap[b]? = some (.cells us T) → Lq a → wpList P ops Q l (a.put (some d) (.pointer (some ⟨b, 0, none⟩))) w) :
    ∀ (f : Nat) (listed : Array Bool) (a : Act) (w : World) (b : Nat), d < a.tmps.size → Below w0.heap.size w0 w → w0.heap.size ≤ b → b < w.heap.size → w.heap[b]? = some (.cells cs T) →
      listed.getD j true = true → listed.getD s true = false → HeadInv md ops n listed →
      rAny P md ops C n (fun listed' a' => Region.seqB md ops g n listed' = true ∧ Lq a') f (listed.setIfInBounds s true) a → wpAny P md ops Q (f + g + 1) listed (a.put (some d) (.pointer (some ⟨b, 0, none⟩))) w := by
  have hssz : s < ops.size := Nat.lt_trans K.hsn K.hn
  -- the store, whenever it comes
  have store : ∀ (f : Nat) (listed : Array Bool) (a : Act) (w : World) (b : Nat), d < a.tmps.size → Below w0.heap.size w0 w → w0.heap.size ≤ b → b < w.heap.size → w.heap[b]? = some (.cells cs T) →
      listed.getD j true = true → listed.getD s true = false → HeadInv md ops n listed → s ∈ Region.ready md ops listed →
      rAny P md ops C n (fun listed' a' => Region.seqB md ops g n listed' = true ∧ Lq a') f (listed.setIfInBounds s true) a →
      wpOp P ops Q s (wpAny P md ops Q (f + g) (listed.setIfInBounds s true)) (a.put (some d) (.pointer (some ⟨b, 0, none⟩))) w := by
    intro f listed a w b hd hw hb hbl hbx hlj hls inv hsr h
    have hev : a.eval (.tmp t) = u := by
      refine rAny_eval (fun l' a' hL => hLu a' hL.2) f _ a (fun i o hin ho hun hdst => ?_) h
      have h1 := List.all_eq_true.1 K.hwr i (List.mem_range.2 hin)
      simp only [ho, hdst, bne_self_eq_false, Bool.false_or] at h1
      obtain ⟨o', ho', e, he, hbi, hon⟩ := Region.waitsFor_spec h1
      obtain ⟨_, o'', ho'', hall⟩ := mem_ready.1 hsr
      have : o' = o'' := Option.some.inj (ho'.symm.trans ho'')
      subst this
      have h2 := hall e he hbi
      rw [hon] at h2
      by_cases his : s = i
      · subst his
        have : o = os := Option.some.inj (ho.symm.trans K.hos)
        subst this
        rw [K.hsd] at hdst; cases hdst
      · rw [getD_set_ne true his] at hun
        rw [getD_both hun] at h2; cases h2
    unfold wpOp
    simp only [K.hos]
    rw [if_pos (wanted_none K.hsg _)]
    refine .inl ?_
    unfold Oper.wp
    have e2 : (a.put (some d) (.pointer (some ⟨b, 0, none⟩))).eval (.tmp t) = u := by
      rw [Act.eval_put (fun d' hd' hx => by cases hd'; cases hx; exact K.hdt rfl)]; exact hev
    rw [K.hst _ w b (eval_put_same a d _ hd) e2 hbx, Oper.upon_skip, K.hsd]
    obtain ⟨hu1, hu2⟩ := K.heff w b hbx
    have hbe := hu2 w0.heap.size hb
    exact late_tail K hqa hg hl hC hQ f _ a _ b (hw.trans hbe) hb (Nat.lt_of_lt_of_le hbl hbe.size) hu1 (by
      by_cases hsj : s = j
      · exact absurd hsj.symm K.hjs
      · rw [getD_set_ne true hsj]; exact hlj) (by simp [inv.size, hssz]) h
  have head : ∀ (listed : Array Bool), HeadInv md ops n listed → listed.getD s true = false → ∀ i, i ∈ Region.ready md ops listed → i < n := fun listed inv hls i hi => by
    rcases Nat.lt_or_ge i n with h | h
    · exact h
    · exact absurd hi (tail_waits K.hsink K.hchain K.hn inv _ s rfl K.hsn hls i h)
  intro f
  induction f with
  | zero =>
    intro listed a w b hd hw hb hbl hbx hlj hls inv h
    obtain ⟨k, hk, hkr⟩ := some_ready K.hback inv.size (Nat.le_of_lt K.hn) s K.hsn hls
    refine ⟨fun h0 => (by rw [h0] at hkr; cases hkr), fun i hi => ?_⟩
    by_cases his : i = s
    · subst his; exact store 0 listed a w b hd hw hb hbl hbx hlj hls inv hi h
    · have h1 := seqB_ready h.1 i (ready_mono hi his)
      have := head listed inv hls i hi
      omega
  | succ f ih =>
    intro listed a w b hd hw hb hbl hbx hlj hls inv h
    obtain ⟨k, hk, hkr⟩ := some_ready K.hback inv.size (Nat.le_of_lt K.hn) s K.hsn hls
    refine ⟨fun h0 => (by rw [h0] at hkr; cases hkr), fun i hi => ?_⟩
    by_cases his : i = s
    · subst his; exact store (f + 1) listed a w b hd hw hb hbl hbx hlj hls inv hi h
    · obtain ⟨hin, o, v, ho, hy, hK⟩ := h.2 i (ready_mono hi his)
      have hij : i ≠ j := fun e => by subst e; rw [(mem_ready.1 hi).1] at hlj; cases hlj
      obtain ⟨p1, p2⟩ := quietApartB_spec hqa i o hin (by rintro (e | e); exact hij e; exact his e) ho
      have hy' : rYields P ops C o v (a.put (some d) (.pointer (some ⟨b, 0, none⟩))) := hy.same (execOp_put o (fun c x => Region.noSelect_spec K.hsel i o c x ho) a _ _ p1) (wanted_put o a _ _ p1)
      refine wpOp_of_yields ho (hC w hw) hy' fun w' hw' => ?_
      rw [Act.put_comm a _ v p2, show f + 1 + g = f + g + 1 by omega]
      refine ih _ _ w' b (by rw [put_size]; exact hd) (Ext.trans hw hw') hb (Nat.lt_of_lt_of_le hbl hw'.size) ((hw'.block _ hbl).trans hbx) (by rw [getD_set_ne true hij]; exact hlj) (by rw [getD_set_ne true his]; exact hls) (inv.set hi hin) ?_
      rw [Array.setIfInBounds_comm _ _ his]
      exact hK

theorem late_zero (K : Late P md ops n j s d t T cs us u oj os eff) (hqa : quietApartB ops n j s d = true) (hg : l.length = g) (hl : ∀ k, l[k]? = ops[n + k]?) (hC : ∀ w', Below w0.heap.size w0 w' → C w')
    (hLu : ∀ a, Lq a → a.eval (.tmp t) = u)
    (hQ : ∀ a w b, Below w0.heap.size w0 w → w0.heap.size ≤ b → b < w.heap.size → w.heap[b]? = some (.cells us T) → Lq a → wpList P ops Q l (a.put (some d) (.pointer (some ⟨b, 0, none⟩))) w) :
    ∀ (f : Nat) (listed : Array Bool) (a : Act) (w : World), d < a.tmps.size → Below w0.heap.size w0 w → listed.getD j true = false → listed.getD s true = false → HeadInv md ops n listed →
      rAny P md ops C n (fun listed' a' => Region.seqB md ops g n listed' = true ∧ Lq a') f ((listed.setIfInBounds j true).setIfInBounds s true) a → wpAny P md ops Q (f + g + 1 + 1) listed a w := by
  have hjsz : j < ops.size := Nat.lt_trans K.hjn K.hn
  have lay : ∀ (f : Nat) (listed : Array Bool) (a : Act) (w : World), d < a.tmps.size → Below w0.heap.size w0 w → listed.getD j true = false → listed.getD s true = false → HeadInv md ops n listed → j ∈ Region.ready md ops listed →
      rAny P md ops C n (fun listed' a' => Region.seqB md ops g n listed' = true ∧ Lq a') f ((listed.setIfInBounds j true).setIfInBounds s true) a →
      wpOp P ops Q j (wpAny P md ops Q (f + g + 1) (listed.setIfInBounds j true)) a w := by
    intro f listed a w hd hw hlj hls inv hjr h
    unfold wpOp
    simp only [K.hoj]
    rw [if_pos (wanted_none K.hguard _)]
    refine .inl ?_
    unfold Oper.wp
    rw [K.hrun, Oper.upon_value, K.hd]
    exact late_one K hqa hg hl hC hLu hQ f _ a _ w.heap.size hd (hw.alloc hw.size _) hw.size (by simp) (heap_new _ _) (by simp [inv.size, hjsz]) (by rw [getD_set_ne true K.hjs]; exact hls) (inv.set hjr K.hjn) h
  have notS : ∀ (listed : Array Bool), listed.getD j true = false → s ∉ Region.ready md ops listed := fun listed hlj hsr => by
    obtain ⟨o', ho', e, he, hbi, hon⟩ := Region.waitsFor_spec K.hsj
    obtain ⟨_, o'', ho'', hall⟩ := mem_ready.1 hsr
    have : o' = o'' := Option.some.inj (ho'.symm.trans ho'')
    subst this
    have h2 := hall e he hbi
    rw [hon, getD_both hlj] at h2; cases h2
  intro f
  induction f with
  | zero =>
    intro listed a w hd hw hlj hls inv h
    have hjr : j ∈ Region.ready md ops listed := mem_ready.2 ⟨hlj, oj, K.hoj, fun e he => (by rw [K.hafter] at he; simp at he)⟩
    refine ⟨fun h0 => (by rw [h0] at hjr; cases hjr), fun i hi => ?_⟩
    by_cases hij : i = j
    · subst hij; exact lay 0 listed a w hd hw hlj hls inv hi h
    · have his : i ≠ s := fun e => by subst e; exact notS listed hlj hi
      have h1 := seqB_ready h.1 i (ready_mono (ready_mono hi hij) his)
      exact absurd hi (tail_waits K.hsink K.hchain K.hn inv _ j rfl K.hjn hlj i h1)
  | succ f ih =>
    intro listed a w hd hw hlj hls inv h
    have hjr : j ∈ Region.ready md ops listed := mem_ready.2 ⟨hlj, oj, K.hoj, fun e he => (by rw [K.hafter] at he; simp at he)⟩
    refine ⟨fun h0 => (by rw [h0] at hjr; cases hjr), fun i hi => ?_⟩
    by_cases hij : i = j
    · subst hij; exact lay (f + 1) listed a w hd hw hlj hls inv hi h
    · have his : i ≠ s := fun e => by subst e; exact notS listed hlj hi
      obtain ⟨hin, o, v, ho, hy, hK⟩ := h.2 i (ready_mono (ready_mono hi hij) his)
      refine wpOp_of_yields ho (hC w hw) hy fun w' hw' => ?_
      rw [show f + 1 + g + 1 = f + g + 1 + 1 by omega]
      refine ih _ _ w' (by rw [put_size]; exact hd) (Ext.trans hw hw') (by rw [getD_set_ne true hij]; exact hlj) (by rw [getD_set_ne true his]; exact hls) (inv.set hi hin) ?_
      rw [Array.setIfInBounds_comm _ _ hij, Array.setIfInBounds_comm _ _ his]
      exact hK

/-- The tail's first operation waits for each of the head. -/
def phaseB (md : Region.Mode) (ops : Array Oper) (n : Nat) : Bool := (List.range n).all fun i => Region.waitsFor md ops n i
theorem phase_waits {listed : Array Bool} (hp : phaseB md ops n = true) (hc : Region.chainB md ops n = true) (ht : ∀ t, n ≤ t → t < ops.size → listed.getD t true = false) : TailWaits md ops n listed := by
  intro i hi hun t hnt hr
  obtain ⟨_, ot, hot, hall⟩ := mem_ready.1 hr
  have htlt : t < ops.size := (Array.getElem?_eq_some_iff.1 hot).1
  by_cases htn : t = n
  · subst htn
    obtain ⟨o', ho', e, he, hb, hon⟩ := Region.waitsFor_spec (List.all_eq_true.1 hp i (List.mem_range.2 hi))
    have : o' = ot := Option.some.inj (ho'.symm.trans hot)
    subst this
    have h2 := hall e he hb
    rw [hon, getD_both hun] at h2; cases h2
  · have h1 := List.all_eq_true.1 hc t (List.mem_range.2 htlt)
    simp only [Bool.or_eq_true, decide_eq_true_eq] at h1
    rcases h1 with h1 | h1
    · omega
    · obtain ⟨o', ho', e, he, hb, hon⟩ := Region.waitsFor_spec h1
      have : o' = ot := Option.some.inj (ho'.symm.trans hot)
      subst this
      have h2 := hall e he hb
      rw [hon, getD_both (ht (t - 1) (by omega) (by omega))] at h2; cases h2

/-- All the closed checks at once. -/
def lateB (md : Region.Mode) (ops : Array Oper) (n j s : Nat) (d t : Tmp) : Bool :=
  Region.noSelect ops && decide (n < ops.size) && decide (j < n) && decide (s < n) && decide (j ≠ s) && decide (d ≠ t) && Region.sinkB md ops n && Region.chainB md ops n && phaseB md ops n && backB md ops n && Region.waitsFor md ops s j && writersB md ops n s t && quietApartB ops n j s d &&
  orderB md ops n (ops.size - n) ((List.range n).filter fun i => i != j && i != s) (((Array.replicate ops.size false).setIfInBounds j true).setIfInBounds s true)
end

/-- Two cells stored, one behind the other. -/
def eff2 (c0 c1 : Value) (b : Nat) (w : World) : World := (w.setCell ⟨b, 0, none⟩ c0).setCell ⟨b, 1, none⟩ c1
theorem eff2_spec {c0 c1 z0 z1 : Value} {T : TypeId} (w : World) (b : Nat) (h : w.heap[b]? = some (.cells #[z0, z1] T)) : (eff2 c0 c1 b w).heap[b]? = some (.cells #[c0, c1] T) ∧ (∀ B, B ≤ b → Below B w (eff2 c0 c1 b w)) := by
  have B0 : Box w b [z0, z1] T := h
  exact ⟨(B0.set 0 c0).set 1 c1, fun B hB => ((Below.refl B w).setCell hB _).setCell hB _⟩

theorem count_two {n j s : Nat} (hj : j < n) (hs : s < n) (hjs : j ≠ s) : ((List.range n).filter fun i => i != j && i != s).length + 1 + 1 = n := by
  have h1 : ∀ (l : List Nat) (x : Nat), l.Nodup → x ∈ l → (l.filter fun i => i != x).length + 1 = l.length := by
    intro l
    induction l with
    | nil => intro x _ hx; cases hx
    | cons y l ih =>
      intro x hnd hx
      by_cases hxy : y = x
      · subst hxy
        have hno : y ∉ l := (List.nodup_cons.1 hnd).1
        have : l.filter (fun i => i != y) = l := List.filter_eq_self.2 fun z hz => by
          simp only [bne_iff_ne, ne_eq]; rintro rfl; exact hno hz
        simp [this]
      · have hx2 : x ∈ l := by
          rcases List.mem_cons.1 hx with h | h
          · exact absurd h.symm hxy
          · exact h
        have := ih x (List.nodup_cons.1 hnd).2 hx2
        rw [List.filter_cons_of_pos (by simpa using hxy)]
        simp only [List.length_cons]; omega
  have e : ((List.range n).filter fun i => i != j && i != s) = ((List.range n).filter fun i => i != j).filter fun i => i != s := by
    rw [List.filter_filter]
    congr 1; funext i; exact Bool.and_comm _ _
  rw [e]
  have a1 := h1 (List.range n) j List.nodup_range (List.mem_range.2 hj)
  have a2 := h1 ((List.range n).filter fun i => i != j) s (List.nodup_range.filter _) (List.mem_filter.2 ⟨List.mem_range.2 hs, by simpa using Ne.symm hjs⟩)
  rw [List.length_range] at a1
  omega

theorem wp_region_late {P : Program} {C : World → Prop} {id : Nat} {Q : Exit → Act → World → Prop} {a : Act} {w : World} {l hd : List Oper} (n j s : Nat) (d t : Tmp) {T : TypeId} {z0 z1 : Value} (c0 c1 u : Value) {oj os : Oper}
    (hoj : l.toArray[j]? = some oj) (hos : l.toArray[s]? = some os) (hjd : oj.dst = some d) (hafter : oj.after = #[]) (hguard : oj.guard = none) (hsd : os.dst = none) (hsg : os.guard = none)
    (hdsz : d < a.tmps.size)
    (hrun : ∀ (ρ : Operand → Value) (w : World), (execOp ρ oj).run P w = .ok (.value (.pointer (some ⟨w.heap.size, 0, none⟩))) (w.alloc (.cells #[z0, z1] T)))
    (hm : P.follows .mixedOrders = true) (hB : lateB .any l.toArray n j s d t = true)
    (hhd : ((List.range n).filter fun i => i != j && i != s).map (fun i => l.toArray[i]?) = hd.map some)
    (hC : ∀ w', Below w.heap.size w w' → C w')
    (h : rWalk P l.toArray C (fun a' => a'.eval (.tmp t) = u ∧ ∀ w' b, Below w.heap.size w w' → w.heap.size ≤ b → b < w'.heap.size → Box w' b [c0, c1] T → wpList P l.toArray Q (l.drop n) (a'.put (some d) (.pointer (some ⟨b, 0, none⟩))) w') hd a)
    (hst : ∀ (ρ : Operand → Value) (w : World) (b : Nat), ρ (.tmp d) = .pointer (some ⟨b, 0, none⟩) → ρ (.tmp t) = u → Box w b [z0, z1] T → (execOp ρ os).run P w = .ok .skip (eff2 c0 c1 b w)) :
    (Code.region id l.toArray true).wp P Q a w := by
  simp only [lateB, Bool.and_eq_true, decide_eq_true_eq] at hB
  obtain ⟨⟨⟨⟨⟨⟨⟨⟨⟨⟨⟨⟨⟨hsel, hn⟩, hjn⟩, hsn⟩, hjs⟩, hdt⟩, hs⟩, hc⟩, hph⟩, hbk⟩, hsj⟩, hwr⟩, hqa⟩, ho⟩ := hB
  have K : Late P .any l.toArray n j s d t T #[z0, z1] #[c0, c1] u oj os (eff2 c0 c1) :=
    ⟨hsel, hn, hjn, hsn, hjs, hs, hc, hbk, hoj, hos, hjd, hafter, hguard, hsd, hsg, hsj, hdt, hwr, hrun, hst, fun w b h => eff2_spec w b h⟩
  have hjz : (Array.replicate l.toArray.size false).getD j true = false := getD_in (by simp; simp at hn; omega) (getD_replicate_false _ _)
  have hsz : (Array.replicate l.toArray.size false).getD s true = false := getD_in (by simp; simp at hn; omega) (getD_replicate_false _ _)
  have tl : ∀ (m : Array Bool) (i : Nat), i < n → (m.size = l.toArray.size ∧ ∀ t', n ≤ t' → t' < l.toArray.size → m.getD t' true = false) → ((m.setIfInBounds i true).size = l.toArray.size ∧ ∀ t', n ≤ t' → t' < l.toArray.size → (m.setIfInBounds i true).getD t' true = false) :=
    fun m i hi ⟨h1, h2⟩ => ⟨by simpa using h1, fun t' ht ht' => by rw [getD_set_ne true (by omega)]; exact h2 t' ht ht'⟩
  have i0 : (Array.replicate l.toArray.size false).size = l.toArray.size ∧ ∀ t', n ≤ t' → t' < l.toArray.size → (Array.replicate l.toArray.size false).getD t' true = false :=
    ⟨by simp, fun t' _ ht' => getD_in (by simpa using ht') (getD_replicate_false _ _)⟩
  have H := rAny_order (md := .any) (g := l.toArray.size - n) hsel (fun m => m.size = l.toArray.size ∧ ∀ t', n ≤ t' → t' < l.toArray.size → m.getD t' true = false) (fun m i hi _ hin => tl m i hin hi) (fun m hm => phase_waits hph hc hm.2)
    ((List.range n).filter fun i => i != j && i != s) hd _ a hhd (tl _ s hsn (tl _ j hjn i0)) ho h
  refine wp_region_any hm ?_
  have R := late_zero (md := .any) (Q := Q) (l := l.drop n) (w0 := w) K hqa (g := l.toArray.size - n) (by simp) (fun j => by simp [List.getElem?_drop]) hC (fun a' hl => hl.1)
    (fun a' w' b h1 h2 h3 h4 hl => hl.2 w' b h1 h2 h3 h4) _ (Array.replicate l.toArray.size false) a { w with drawn := w.drawn + 1 } hdsz ⟨rfl, rfl, rfl, Nat.le_refl _, fun _ _ => rfl⟩ hjz hsz headInv0 H
  have hcount : ((List.range n).filter fun i => i != j && i != s).length + 1 + 1 = n := count_two hjn hsn hjs
  rw [show ((List.range n).filter fun i => i != j && i != s).length + (l.toArray.size - n) + 1 + 1 = l.toArray.size by omega] at R
  exact R
theorem range_two (m : Nat) : ((List.range (m + 2)).filter fun i => i != m && i != m + 1) = List.range m := by
  rw [List.range_succ, List.range_succ, List.filter_append, List.filter_append]
  have h1 : (List.range m).filter (fun i => i != m && i != m + 1) = List.range m := List.filter_eq_self.2 fun z hz => by
    have := List.mem_range.1 hz
    simp; omega
  rw [h1]
  simp
/-- The usual make: the block's laying and the store are the head's last two operations. -/
theorem wp_region_late2 {P : Program} {C : World → Prop} {id : Nat} {Q : Exit → Act → World → Prop} {a : Act} {w : World} {l : List Oper} (m : Nat) (d t : Tmp) {T : TypeId} {z0 z1 : Value} (c0 c1 : Value) {oj os : Oper}
    (hoj : l.toArray[m]? = some oj) (hos : l.toArray[m + 1]? = some os) (hjd : oj.dst = some d) (hafter : oj.after = #[]) (hguard : oj.guard = none) (hsd : os.dst = none) (hsg : os.guard = none)
    (hdsz : d < a.tmps.size)
    (hrun : ∀ (ρ : Operand → Value) (w : World), (execOp ρ oj).run P w = .ok (.value (.pointer (some ⟨w.heap.size, 0, none⟩))) (w.alloc (.cells #[z0, z1] T)))
    (hm : P.follows .mixedOrders = true) (hB : lateB .any l.toArray (m + 2) m (m + 1) d t = true)
    (hC : ∀ w', Below w.heap.size w w' → C w')
    (h : rWalk P l.toArray C (fun a' => a'.eval (.tmp t) = .agg #[c0, c1] ∧ ∀ w' b, Below w.heap.size w w' → w.heap.size ≤ b → b < w'.heap.size → Box w' b [c0, c1] T → wpList P l.toArray Q (l.drop (m + 2)) (a'.put (some d) (.pointer (some ⟨b, 0, none⟩))) w') (l.take m) a)
    (hst : ∀ (ρ : Operand → Value) (w : World) (b : Nat), ρ (.tmp d) = .pointer (some ⟨b, 0, none⟩) → ρ (.tmp t) = .agg #[c0, c1] → Box w b [z0, z1] T → (execOp ρ os).run P w = .ok .skip (eff2 c0 c1 b w)) :
    (Code.region id l.toArray true).wp P Q a w := by
  refine wp_region_late (hd := l.take m) (m + 2) m (m + 1) d t c0 c1 _ hoj hos hjd hafter hguard hsd hsg hdsz hrun hm hB ?_ hC h hst
  have hn : m + 2 < l.length := by
    simp only [lateB, Bool.and_eq_true, decide_eq_true_eq] at hB
    have := hB.1.1.1.1.1.1.1.1.1.1.1.1.2
    simpa using this
  rw [range_two]
  apply List.ext_getElem?
  intro j
  simp only [List.getElem?_map, List.getElem?_take]
  by_cases hj : j < m
  · simp [hj, show j < l.length by omega]
  · simp [hj]
end Go.Proofs.Ytnocdecimcpkfaa

namespace Go.Proofs.Ytnocdecimcpkfaa
open Go.RowKit Go.Sort

section
variable {P : Program} {ops : Array Oper} {md : Region.Mode} {C : World → Prop}

theorem rAny_then {n g : Nat} {Q : Exit → Act → World → Prop} {L : Array Bool → Act → Prop} {D : World → Prop} (hD : ∀ w, D w → C w) (hDe : ∀ w w', D w → Ext w w' → D w')
    (hL : ∀ listed a w, D w → L listed a → wpAny P md ops Q g listed a w) :
    ∀ (f : Nat) (listed : Array Bool) (a : Act) (w : World), D w → rAny P md ops C n L f listed a → wpAny P md ops Q (f + g) listed a w
  | 0, listed, a, w, hw, h => by rw [Nat.zero_add]; exact hL _ _ _ hw h
  | f + 1, listed, a, w, hw, h => by
    rw [show f + 1 + g = (f + g) + 1 by omega]
    refine ⟨fun h0 => absurd h0 h.1, fun i hi => ?_⟩
    obtain ⟨hin, o, v, ho, hy, hK⟩ := h.2 i hi
    refine wpOp_of_yields ho (hD w hw) hy fun w' hw' => ?_
    exact rAny_then hD hDe hL f _ _ w' (hDe _ _ hw hw') hK

/-- The slipping operations: each ready and free in its turn; then g operations in forced order. -/
def slipB (md : Region.Mode) (ops : Array Oper) (g : Nat) : Nat → Nat → Array Bool → Bool
  | 0, k, listed => Region.seqB md ops g k listed
  | s + 1, k, listed => (Region.ready md ops listed).contains k && Region.free md ops listed k && slipB md ops g s (k + 1) (listed.setIfInBounds k true)
/-- What the slipping operations yield, in whatever world. -/
def slipWalk (P : Program) (ops : Array Oper) (K : Act → Prop) : List Oper → Act → Prop
  | [], a => K a
  | o :: r, a => ∃ v, Yields P ops o v a ∧ slipWalk P ops K r (a.put o.dst v)
theorem slip_any {g : Nat} {Q : Exit → Act → World → Prop} {w : World} {l : List Oper} (hs : Region.noSelect ops = true) (hQ : ∀ d v c a w, Q (.panic c) (Act.put a d v) w → Q (.panic c) a w) (hg : l.length = g) :
    ∀ (r : List Oper) (k : Nat) (listed : Array Bool) (a : Act), (∀ j, (r ++ l)[j]? = ops[k + j]?) → slipB md ops g r.length k listed = true → slipWalk P ops (fun a => wpList P ops Q l a w) r a → wpAny P md ops Q (r.length + g) listed a w
  | [], k, listed, a, hl, hB, h => by
    subst hg
    rw [List.length_nil, Nat.zero_add]
    exact wpAny_of_seq l k listed a w (by simpa using hl) hB h
  | o :: r, k, listed, a, hl, hB, h => by
    have h0 : ops[k]? = some o := by simpa using (hl 0).symm
    simp only [List.length_cons, slipB, Bool.and_eq_true] at hB
    obtain ⟨⟨hr, hf⟩, hB'⟩ := hB
    obtain ⟨v, hy, hK⟩ := h
    rw [List.length_cons, show r.length + 1 + g = (r.length + g) + 1 by omega]
    exact wpAny_take h0 hs hf hr (fun c a w => hQ _ _ c a w) hy (slip_any hs hQ hg r (k + 1) _ _ (fun j => by have := hl (j + 1); simpa [Nat.add_assoc, Nat.add_comm 1 j] using this) hB' hK)

/-- Each operation behind number n waits for one from n on. -/
def chainsB (md : Region.Mode) (ops : Array Oper) (n : Nat) : Bool :=
  (List.range ops.size).all fun t => decide (t ≤ n) || (List.range t).any fun s => decide (n ≤ s) && Region.waitsFor md ops t s
theorem tail_waits' {m : Nat} {listed : Array Bool} (hs : Region.sinkB md ops m = true) (hc : chainsB md ops m = true) (inv : HeadInv md ops (m + 1) listed) (hm : m < ops.size) :
    ∀ (i : Nat), i < m + 1 → listed.getD i true = false → ∀ t, m + 1 ≤ t → t ∉ Region.ready md ops listed := by
  have low : ∀ (d i : Nat), m - i = d → i ≤ m → listed.getD i true = false → listed.getD m true = false := by
    intro d
    induction d using Nat.strongRecOn with
    | _ d ih =>
      intro i hd hi hun
      by_cases him : i = m
      · rw [← him]; exact hun
      · have h1 := List.all_eq_true.1 hs i (List.mem_range.2 (by omega))
        obtain ⟨j, hj, hj2⟩ := List.any_eq_true.1 h1
        simp only [Bool.and_eq_true, decide_eq_true_eq] at hj2
        obtain ⟨oj, hoj, e, he, hb, hon⟩ := Region.waitsFor_spec hj2.2
        have hjle : j ≤ m := by have := List.mem_range.1 hj; omega
        cases hl : listed.getD j false with
        | true =>
          have h2 := inv.closed j oj hoj hl e he hb
          rw [hon, getD_both hun] at h2
          cases h2
        | false => exact ih (m - j) (by omega) j rfl hjle (getD_in (by rw [inv.size]; omega) hl)
  intro i hi hun t ht hr
  have hmun := low (m - i) i rfl (by omega) hun
  obtain ⟨_, ot, hot, hall⟩ := mem_ready.1 hr
  have htlt : t < ops.size := (Array.getElem?_eq_some_iff.1 hot).1
  have h1 := List.all_eq_true.1 hc t (List.mem_range.2 htlt)
  simp only [Bool.or_eq_true, decide_eq_true_eq] at h1
  rcases h1 with h1 | h1
  · omega
  · obtain ⟨s, hs1, hs2⟩ := List.any_eq_true.1 h1
    simp only [Bool.and_eq_true, decide_eq_true_eq] at hs2
    obtain ⟨o', ho', e, he, hb, hon⟩ := Region.waitsFor_spec hs2.2
    have : o' = ot := Option.some.inj (ho'.symm.trans hot)
    subst this
    have h2 := hall e he hb
    have hst := List.mem_range.1 hs1
    by_cases hsm : s = m
    · subst hsm; rw [hon, getD_both hmun] at h2; cases h2
    · rw [hon, getD_both (inv.tail s (by omega) (by omega))] at h2
      cases h2

def orderG (md : Region.Mode) (ops : Array Oper) (n : Nat) (S : Array Bool → Bool) : List Nat → Array Bool → Bool
  | [], listed => S listed
  | k :: is, listed => decide (k < n) && (Region.ready md ops listed).contains k && Region.free md ops listed k && orderG md ops n S is (listed.setIfInBounds k true)
theorem rAny_orderG {n : Nat} {Lq : Act → Prop} {S : Array Bool → Bool} (hsel : Region.noSelect ops = true) (Inv : Array Bool → Prop)
    (hinv : ∀ listed j, Inv listed → j ∈ Region.ready md ops listed → j < n → Inv (listed.setIfInBounds j true)) (htail : ∀ listed, Inv listed → TailWaits md ops n listed)
    (hS : ∀ listed, S listed = true → ∀ j ∈ Region.ready md ops listed, n ≤ j) :
    ∀ (is : List Nat) (l : List Oper) (listed : Array Bool) (a : Act), is.map (fun i => ops[i]?) = l.map some → Inv listed → orderG md ops n S is listed = true → rWalk P ops C Lq l a →
      rAny P md ops C n (fun listed' a' => S listed' = true ∧ Lq a') is.length listed a
  | [], [], listed, a, _, _, hB, h => ⟨hB, h⟩
  | [], _ :: _, _, _, hl, _, _, _ => by cases hl
  | _ :: _, [], _, _, hl, _, _, _ => by cases hl
  | k :: is, o :: l, listed, a, hl, inv, hB, h => by
    simp only [List.map_cons, List.cons.injEq] at hl
    obtain ⟨h0, hl⟩ := hl
    simp only [orderG, Bool.and_eq_true, decide_eq_true_eq] at hB
    obtain ⟨⟨⟨hkn, hr⟩, hf⟩, hB'⟩ := hB
    have hr' : k ∈ Region.ready md ops listed := by simpa using hr
    obtain ⟨v, hy, hK⟩ := rYields.of_walk h
    exact rAny_first h0 (Region.noSelect_spec hsel) hkn Inv hinv htail (fun listed' a' hL => hS _ hL.1) is.length listed a inv (Region.free_spec h0 hf) hr' hy
      (rAny_orderG hsel Inv hinv htail hS is l _ _ hl (hinv _ _ inv hr' hkn) hB' hK)

theorem headDone_ready {n : Nat} {listed : Array Bool} (h : ((List.range n).all fun i => listed.getD i false) = true) : ∀ j ∈ Region.ready md ops listed, n ≤ j := by
  intro j hj
  rcases Nat.lt_or_ge j n with hl | hl
  · have h1 := List.all_eq_true.1 h j (List.mem_range.2 hl)
    have h2 := (mem_ready.1 hj).1
    rw [getD_both h2] at h1; cases h1
  · exact hl

theorem wp_region_slip {id : Nat} {Q : Exit → Act → World → Prop} {a : Act} {w : World} {l : List Oper} (n s : Nat) (hm : P.follows .mixedOrders = true)
    (hB : (Region.noSelect l.toArray && decide (n + 1 + s < l.toArray.size) && Region.sinkB .any l.toArray n && chainsB .any l.toArray n &&
      orderG .any l.toArray (n + 1) (fun listed => (List.range (n + 1)).all (fun i => listed.getD i false) && slipB .any l.toArray (l.toArray.size - (n + 1) - s) s (n + 1) listed) (List.range (n + 1)) (Array.replicate l.toArray.size false)) = true)
    (hQ : ∀ d v c a w, Q (.panic c) (Act.put a d v) w → Q (.panic c) a w)
    (hC : ∀ w', Below w.heap.size w w' → C w')
    (h : rWalk P l.toArray C (fun a' => ∀ w', Below w.heap.size w w' → slipWalk P l.toArray (fun a2 => wpList P l.toArray Q (l.drop (n + 1 + s)) a2 w') ((l.drop (n + 1)).take s) a') (l.take (n + 1)) a) : (Code.region id l.toArray true).wp P Q a w := by
  simp only [Bool.and_eq_true, decide_eq_true_eq] at hB
  obtain ⟨⟨⟨⟨hsel, hn⟩, hs⟩, hc⟩, ho⟩ := hB
  have hn' : n + 1 + s < l.length := by simpa using hn
  have hmap : (List.range (n + 1)).map (fun i => l.toArray[i]?) = (l.take (n + 1)).map some := by
    apply List.ext_getElem?
    intro j
    simp only [List.getElem?_map, List.getElem?_take]
    by_cases hj : j < n + 1
    · simp [hj, show j < l.length by omega]
    · simp [hj]
  have H := rAny_orderG (md := .any) (C := C) hsel (HeadInv .any l.toArray (n + 1)) (fun listed j inv hj hjn => inv.set hj hjn) (fun listed inv i hi hun => tail_waits' hs hc inv (by omega) i hi hun)
    (fun listed hS => headDone_ready (by simp only [Bool.and_eq_true] at hS; exact hS.1)) (List.range (n + 1)) (l.take (n + 1)) _ a hmap headInv0 ho h
  refine wp_region_any hm ?_
  have := rAny_then (md := .any) (Q := Q) (g := s + (l.toArray.size - (n + 1) - s)) (D := fun w' => Below w.heap.size w w') hC (fun a b ha hb => Ext.trans (a := w) ha hb)
    (fun listed a' w' hw' hL => by
      obtain ⟨h1, h2⟩ := hL
      simp only [Bool.and_eq_true] at h1
      have e : ((l.drop (n + 1)).take s).length = s := by simp; omega
      have := slip_any (md := .any) (Q := Q) (l := l.drop (n + 1 + s)) (g := l.toArray.size - (n + 1) - s) hsel hQ (by simp; omega) ((l.drop (n + 1)).take s) (n + 1) listed a' (fun j => by
        rw [show (l.drop (n + 1)).take s ++ l.drop (n + 1 + s) = l.drop (n + 1) by rw [show l.drop (n + 1 + s) = (l.drop (n + 1)).drop s by rw [List.drop_drop]]; exact List.take_append_drop s _]
        simp [List.getElem?_drop]) (by rw [e]; exact h1.2) (h2 w' hw')
      rw [e] at this; exact this) _ _ _ { w with drawn := w.drawn + 1 } ⟨rfl, rfl, rfl, Nat.le_refl _, fun _ _ => rfl⟩ H
  rw [List.length_range, show n + 1 + (s + (l.toArray.size - (n + 1) - s)) = l.toArray.size by omega] at this
  exact this
end
end Go.Proofs.Ytnocdecimcpkfaa

namespace Go.Proofs.Ytnocdecimcpkfaa
open Go.RowKit
attribute [local go_sem] rOper rAt rUpon cell_set

def sub64Entry : Array Value → Sem Value := fun args => do
  let (x, y, b) ← Extern.MathBitsCarry.three "Sub64" args
  pure (Extern.MathBitsCarry.pair ((x + Extern.MathBitsCarry.m64 - y - b) % Extern.MathBitsCarry.m64) (if x < y + b then 1 else 0))
theorem sub64_run {P : Program} (x y k : Nat) (hk : k = 0 ∨ k = 1) (w : World) :
    (sub64Entry #[.int .u64 x, .int .u64 y, .int .u64 k]).run P w = .ok (Extern.MathBitsCarry.pair ((x + Extern.MathBitsCarry.m64 - y - k) % Extern.MathBitsCarry.m64) (if x < y + k then 1 else 0)) w := by
  rcases hk with rfl | rfl <;> rfl
end Go.Proofs.Ytnocdecimcpkfaa

namespace Go.Proofs.Ytnocdecimcpkfaa
open Go.RowKit
attribute [local go_sem] rOper rAt rUpon cell_set sg_i64 sg_u64

end Go.Proofs.Ytnocdecimcpkfaa

namespace Go.Proofs.Ytnocdecimcpkfaa
open Go.RowKit
attribute [local go_sem] rOper rAt rUpon cell_set sg_i64 sg_u64 alloc_cell alloc_frozen

theorem sgn_mk {n m : Int} (h : m = -1 ∧ n < 0 ∨ m = 0 ∧ n = 0 ∨ m = 1 ∧ 0 < n) : m = sgn n := by
  unfold sgn; split
  · omega
  · split <;> omega
end Go.Proofs.Ytnocdecimcpkfaa

namespace Go.Proofs.Ytnocdecimcpkfaa
open Go.RowKit
attribute [local go_sem] rOper rAt rUpon cell_set sg_i64 sg_u64 alloc_cell alloc_frozen

theorem ret_two {k k' : IntKind} {a b c d : Int} (h : a = c) (h2 : b = d) : Ending.returned (.tuple #[.int k a, .int k' b]) = .returned (.tuple #[.int k c, .int k' d]) := by rw [h, h2]
end Go.Proofs.Ytnocdecimcpkfaa

namespace Go.Proofs.Ytnocdecimcpkfaa
open Go.RowKit
attribute [local go_sem] rOper rAt rUpon cell_set sg_i64 sg_u64 alloc_cell alloc_frozen

/-- Three sums, one behind the other. -/
theorem mm_two {a b c n : Int} (h : a + b + c = n) : mH (V (mH (a + b)) (mL (a + b)) + c) = mH n ∧ mL (V (mH (a + b)) (mL (a + b)) + c) = mL n := by
  obtain ⟨k, hk⟩ := V_m (a + b)
  exact m_cong k (by omega)
theorem mm_neg {a b c n : Int} (h : a + b + c = n) : mH (-V (mH (V (mH (a + b)) (mL (a + b)) + c)) (mL (V (mH (a + b)) (mL (a + b)) + c))) = mH (-n) ∧ mL (-V (mH (V (mH (a + b)) (mL (a + b)) + c)) (mL (V (mH (a + b)) (mL (a + b)) + c))) = mL (-n) := by
  obtain ⟨k, hk⟩ := V_m (a + b)
  obtain ⟨j, hj⟩ := V_m (V (mH (a + b)) (mL (a + b)) + c)
  exact m_cong (-j - k) (by omega)
end Go.Proofs.Ytnocdecimcpkfaa

namespace Go.Proofs.Ytnocdecimcpkfaa
open Go.RowKit Go.Sort
attribute [local go_sem] rOper rAt rUpon cell_set sg_i64 sg_u64 alloc_cell alloc_frozen
attribute [local go_sem 10000] pt_eql pt_neq
attribute [local irreducible] rWalk

/-- The determinant of three points with their heights, as seen from the fourth. -/
def lft (a b c d : Pt) : Int := ht (way d a) * cr (way d b) (way d c) + ht (way d b) * cr (way d c) (way d a) + ht (way d c) * cr (way d a) (way d b)
theorem big_mul {p q : Int} (hp : 0 ≤ p ∧ p ≤ 562949886312450) (hq : -562949886312450 ≤ q ∧ q ≤ 562949886312450) : -316912574500061154317695502500 ≤ p * q ∧ p * q ≤ 316912574500061154317695502500 := by
  have h1 : p.natAbs ≤ 562949886312450 := by omega
  have h2 : q.natAbs ≤ 562949886312450 := by omega
  have h3 := Nat.mul_le_mul h1 h2
  rw [← Int.natAbs_mul] at h3
  generalize p * q = r at *
  omega
end Go.Proofs.Ytnocdecimcpkfaa

namespace Go.Proofs.Ytnocdecimcpkfaa
open Go.RowKit Go.Sort
attribute [local go_sem] rOper rAt rUpon cell_set sg_i64 sg_u64 alloc_cell alloc_frozen
attribute [local go_sem 10000] pt_eql pt_neq
attribute [local irreducible] rWalk

/-- The lesser, the second one if they are equal. -/
def lsr (p m : Pt) : Pt := if cmpP p m < 0 then p else m
def min4 (a b c d : Pt) : Pt := lsr d (lsr c (lsr b a))
def minTo (a b c d : Pt) (k : Nat) : Pt := if k = 1 then a else if k = 2 then lsr b a else if k = 3 then lsr c (lsr b a) else min4 a b c d
end Go.Proofs.Ytnocdecimcpkfaa

namespace Go.Proofs.Ytnocdecimcpkfaa
open Go.RowKit Go.Sort
attribute [local go_sem] rOper rAt rUpon cell_set sg_i64 sg_u64 alloc_cell alloc_frozen
attribute [local go_sem 10000] pt_eql pt_neq
attribute [local irreducible] rWalk

/-- The tie: of four on one circle the least tells. -/
def tie (a b c d m : Pt) (o : Int) : Int := if peqI m.x m.y d.x d.y = true then o else if peqI m.x m.y a.x a.y = true then -ori d b c else if peqI m.x m.y b.x b.y = true then -ori a d c else -ori a b d
def circ (a b c d : Pt) : Int :=
  if ori a b c = 0 then 0 else if vld d = false then 0 else if peqI d.x d.y a.x a.y = true then 0 else if peqI d.x d.y b.x b.y = true then 0 else if peqI d.x d.y c.x c.y = true then 0
  else if ¬ sgn (lft a b c d) = 0 then sgn (lft a b c d) else tie a b c d (min4 a b c d) (ori a b c)
theorem sgn_bd (n : Int) : -1 ≤ sgn n ∧ sgn n ≤ 1 := by unfold sgn; split <;> (try split) <;> omega
theorem ori_bd (a b c : Pt) : -1 ≤ ori a b c ∧ ori a b c ≤ 1 := by unfold ori; split; exact sgn_bd _; omega
theorem ori_vld {a b c : Pt} (h : ¬ ori a b c = 0) : vld a = true ∧ vld b = true ∧ vld c = true := by
  unfold ori at h; split at h; assumption; exact absurd rfl h
end Go.Proofs.Ytnocdecimcpkfaa
