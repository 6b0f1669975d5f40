/- A region that draws its order, whose head lays a new block and stores a value into it while other operations may still be open (a call's second result taken out behind the store): one goal is left, with the block as it is behind the store. -/
import Derived.Test.YtijdbddjhnjcdaaRegion
namespace Go.Proofs.Ytijdbddjhnjcdaa
open Go.RowKit Go.Sort

section
variable {P : Program} {ops : Array Oper} {md : Region.Mode} {C : World → Prop}

/-- Every edge of the head leads back. -/
def backB (md : Region.Mode) (ops : Array Oper) (n : Nat) : Bool :=
  (List.range n).all fun i => match ops[i]? with
    | some o => o.after.all fun e => !Region.binds md e || decide (e.on < i)
    | none => false
theorem backB_spec {n i : Nat} (h : backB md ops n = true) (hi : i < n) : ∃ o, ops[i]? = some o ∧ ∀ e ∈ o.after, Region.binds md e = true → e.on < i := by
  have h1 := List.all_eq_true.1 h i (List.mem_range.2 hi)
  cases ho : ops[i]? with
  | none => rw [ho] at h1; cases h1
  | some o =>
    rw [ho] at h1
    refine ⟨o, rfl, fun e he hb => ?_⟩
    have h2 := Array.all_eq_true_iff_forall_mem.1 h1 e he
    simpa [hb] using h2
/-- While an operation of the head is open, one is ready. -/
theorem some_ready {n : Nat} {listed : Array Bool} (h : backB md ops n = true) (hsz : listed.size = ops.size) (hn : n ≤ ops.size) :
    ∀ (i : Nat), i < n → listed.getD i true = false → ∃ k, k ≤ i ∧ k ∈ Region.ready md ops listed := by
  intro i
  induction i using Nat.strongRecOn with
  | _ i ih =>
    intro hi hun
    obtain ⟨o, ho, hall⟩ := backB_spec h hi
    by_cases hr : ∀ e ∈ o.after, Region.binds md e = true → listed.getD e.on false = true
    · exact ⟨i, Nat.le_refl _, mem_ready.2 ⟨hun, o, ho, hr⟩⟩
    · have : ∃ e ∈ o.after, Region.binds md e = true ∧ listed.getD e.on false = false := by
        apply Classical.byContradiction
        intro hno
        refine hr fun e he hb => ?_
        cases hv : listed.getD e.on false with
        | true => rfl
        | false => exact absurd ⟨e, he, hb, hv⟩ hno
      obtain ⟨e, he, hb, hv⟩ := this
      have hlt := hall e he hb
      obtain ⟨k, hk, hkr⟩ := ih e.on hlt (by omega) (getD_in (by omega) hv)
      exact ⟨k, by omega, hkr⟩

/-- A temporary that no open operation writes holds what it holds at the end. -/
theorem rAny_eval {n t : Nat} {u : Value} {L : Array Bool → Act → Prop} (hL : ∀ l a, L l a → a.eval (.tmp t) = u) :
    ∀ (f : Nat) (listed : Array Bool) (a : Act), (∀ i o, i < n → ops[i]? = some o → listed.getD i true = false → o.dst ≠ some t) → rAny P md ops C n L f listed a → a.eval (.tmp t) = u
  | 0, listed, a, _, h => hL _ _ h
  | f + 1, listed, a, hw, h => by
    obtain ⟨hne, hall⟩ := h
    obtain ⟨i, hi⟩ := List.exists_mem_of_ne_nil _ hne
    obtain ⟨hin, o, v, ho, _, hK⟩ := hall i hi
    have h1 := rAny_eval hL f _ _ (fun k ok hk hok hun => by
      by_cases hik : i = k
      · subst hik
        have : ok = o := Option.some.inj (hok.symm.trans ho)
        subst this
        exact hw i ok hin ho (mem_ready.1 hi).1
      · rw [getD_set_ne true hik] at hun; exact hw k ok hk hok hun) hK
    rw [Act.eval_put (fun d hd hx => by cases hx; exact hw i o hin ho (mem_ready.1 hi).1 hd)] at h1
    exact h1

/-- Who writes temporary t ahead of the store s is waited for by it. -/
def writersB (md : Region.Mode) (ops : Array Oper) (n s t : Nat) : Bool :=
  (List.range n).all fun i => match ops[i]? with
    | some o => o.dst != some t || Region.waitsFor md ops s i
    | none => true

structure Late (P : Program) (md : Region.Mode) (ops : Array Oper) (n j s : Nat) (d t : Tmp) (T : TypeId) (cs us : Array Value) (u : Value) (oj os : Oper) (eff : Nat → World → World) : Prop where
  hsel : Region.noSelect ops = true
  hn : n < ops.size
  hjn : j < n
  hsn : s < n
  hjs : j ≠ s
  hsink : Region.sinkB md ops n = true
  hchain : Region.chainB md ops n = true
  hback : backB md ops n = true
  hoj : ops[j]? = some oj
  hos : ops[s]? = some os
  hd : oj.dst = some d
  hafter : oj.after = #[]
  hguard : oj.guard = none
  hsd : os.dst = none
  hsg : os.guard = none
  hsj : Region.waitsFor md ops s j = true
  hdt : d ≠ t
  hwr : writersB md ops n s t = true
  hrun : ∀ (ρ : Operand → Value) (w : World), (execOp ρ oj).run P w = .ok (.value (.pointer (some ⟨w.heap.size, 0, none⟩))) (w.alloc (.cells cs T))
  hst : ∀ (ρ : Operand → Value) (w : World) (b : Nat), ρ (.tmp d) = .pointer (some ⟨b, 0, none⟩) → ρ (.tmp t) = u → w.heap[b]? = some (.cells cs T) → (execOp ρ os).run P w = .ok .skip (eff b w)
  heff : ∀ (w : World) (b : Nat), w.heap[b]? = some (.cells cs T) → (eff b w).heap[b]? = some (.cells us T) ∧ (∀ B, B ≤ b → Below B w (eff b w))

/-- The quiet operations of the head are apart from the block's temporary. -/
def quietApartB (ops : Array Oper) (n j s : Nat) (d : Tmp) : Bool :=
  (List.range n).all fun i => i == j || i == s || match ops[i]? with
    | some o => !(o.looksAt ops).contains d && o.dst != some d
    | none => true
theorem quietApartB_spec {n j s d : Nat} (h : quietApartB ops n j s d = true) : ∀ i o, i < n → ¬ (i = j ∨ i = s) → ops[i]? = some o → (∀ d', some d = some d' → d' ∉ o.looksAt ops) ∧ (∀ d', some d = some d' → o.dst ≠ some d') := by
  intro i o hi hj ho
  have h1 := List.all_eq_true.1 h i (List.mem_range.2 hi)
  have hj1 : i ≠ j := fun e => hj (.inl e)
  have hj2 : i ≠ s := fun e => hj (.inr e)
  simp only [ho, Bool.or_eq_true, beq_iff_eq, hj1, hj2, false_or, Bool.and_eq_true, Bool.not_eq_true', bne_iff_ne] at h1
  refine ⟨fun d' hd => ?_, fun d' hd => ?_⟩
  · cases hd; simpa using h1.1
  · cases hd; exact h1.2

variable {n j s g : Nat} {d t : Tmp} {T : TypeId} {cs us : Array Value} {u : Value} {oj os : Oper} {eff : Nat → World → World} {Q : Exit → Act → World → Prop} {Lq : Act → Prop} {l : List Oper} {w0 : World}

theorem late_tail (K : Late P md ops n j s d t T cs us u oj os eff) (hqa : quietApartB ops n j s d = true) (hg : l.length = g) (hl : ∀ k, l[k]? = ops[n + k]?) (hC : ∀ w', Below w0.heap.size w0 w' → C w')
    (hQ : ∀ a w b, Below w0.heap.size w0 w → w0.heap.size ≤ b → b < w.heap.size → w.heap[b]? = some (.cells us T) → Lq a → wpList P ops Q l (a.put (some d) (.pointer (some ⟨b, 0, none⟩))) w)
    (f : Nat) (listed : Array Bool) (a : Act) (w : World) (b : Nat) (hw : Below w0.heap.size w0 w) (hb : w0.heap.size ≤ b) (hbl : b < w.heap.size) (hbx : w.heap[b]? = some (.cells us T))
    (hlj : listed.getD j true = true) (hls : listed.getD s true = true)
    (h : rAny P md ops C n (fun listed' a' => Region.seqB md ops g n listed' = true ∧ Lq a') f listed a) : wpAny P md ops Q (f + g) listed (a.put (some d) (.pointer (some ⟨b, 0, none⟩))) w :=
  rAny_then_tail (md := md) (D := fun w' => Below w0.heap.size w0 w' ∧ b < w'.heap.size ∧ w'.heap[b]? = some (.cells us T)) K.hsel hg hl (fun w' h => hC w' h.1)
    (fun x y hx hy => ⟨Below.trans hx.1 (Below.mono hy hx.1.size), Nat.lt_of_lt_of_le hx.2.1 hy.size, (hy.block _ hx.2.1).trans hx.2.2⟩) (fun k => k = j ∨ k = s) (quietApartB_spec hqa)
    (fun a' w' hw' hl' => hQ a' w' b hw'.1 hb hw'.2.1 hw'.2.2 hl') f listed a w ⟨hw, hbl, hbx⟩ (fun k hk => by rcases hk with rfl | rfl; exact hlj; exact hls) h

theorem eval_put_same (a : Act) (d : Tmp) (v : Value) (h : d < a.tmps.size) : (a.put (some d) v).eval (.tmp d) = v := by
  simp [Act.eval, Act.put, h]
theorem put_size (a : Act) (x : Option Tmp) (v : Value) : (a.put x v).tmps.size = a.tmps.size := by cases x <;> simp [Act.put]
theorem wanted_none {o : Oper} (h : o.guard = none) (f : Nat → Option Bool) : Region.wanted o f = true := by simp [Region.wanted, h]

/-- Behind the block's laying, the store still open. -/
theorem late_one (K : Late P md ops n j s d t T cs us u oj os eff) (hqa : quietApartB ops n j s d = true) (hg : l.length = g) (hl : ∀ k, l[k]? = ops[n + k]?) (hC : ∀ w', Below w0.heap.size w0 w' → C w')
    (hLu : ∀ a, Lq a → a.eval (.tmp t) = u)
    (hQ : ∀ a w b, Below w0.heap.size w0 w → w0.heap.size ≤ b → b < w.heap.size → w.heap[b]? = some (.cells us T) → Lq a → wpList P ops Q l (a.put (some d) (.pointer (some ⟨b, 0, none⟩))) w) :
    ∀ (f : Nat) (listed : Array Bool) (a : Act) (w : World) (b : Nat), d < a.tmps.size → Below w0.heap.size w0 w → w0.heap.size ≤ b → b < w.heap.size → w.heap[b]? = some (.cells cs T) →
      listed.getD j true = true → listed.getD s true = false → HeadInv md ops n listed →
      rAny P md ops C n (fun listed' a' => Region.seqB md ops g n listed' = true ∧ Lq a') f (listed.setIfInBounds s true) a → wpAny P md ops Q (f + g + 1) listed (a.put (some d) (.pointer (some ⟨b, 0, none⟩))) w := by
  have hssz : s < ops.size := Nat.lt_trans K.hsn K.hn
  -- the store, whenever it comes
  have store : ∀ (f : Nat) (listed : Array Bool) (a : Act) (w : World) (b : Nat), d < a.tmps.size → Below w0.heap.size w0 w → w0.heap.size ≤ b → b < w.heap.size → w.heap[b]? = some (.cells cs T) →
      listed.getD j true = true → listed.getD s true = false → HeadInv md ops n listed → s ∈ Region.ready md ops listed →
      rAny P md ops C n (fun listed' a' => Region.seqB md ops g n listed' = true ∧ Lq a') f (listed.setIfInBounds s true) a →
      wpOp P ops Q s (wpAny P md ops Q (f + g) (listed.setIfInBounds s true)) (a.put (some d) (.pointer (some ⟨b, 0, none⟩))) w := by
    intro f listed a w b hd hw hb hbl hbx hlj hls inv hsr h
    have hev : a.eval (.tmp t) = u := by
      refine rAny_eval (fun l' a' hL => hLu a' hL.2) f _ a (fun i o hin ho hun hdst => ?_) h
      have h1 := List.all_eq_true.1 K.hwr i (List.mem_range.2 hin)
      simp only [ho, hdst, bne_self_eq_false, Bool.false_or] at h1
      obtain ⟨o', ho', e, he, hbi, hon⟩ := Region.waitsFor_spec h1
      obtain ⟨_, o'', ho'', hall⟩ := mem_ready.1 hsr
      have : o' = o'' := Option.some.inj (ho'.symm.trans ho'')
      subst this
      have h2 := hall e he hbi
      rw [hon] at h2
      by_cases his : s = i
      · subst his
        have : o = os := Option.some.inj (ho.symm.trans K.hos)
        subst this
        rw [K.hsd] at hdst; cases hdst
      · rw [getD_set_ne true his] at hun
        rw [getD_both hun] at h2; cases h2
    unfold wpOp
    simp only [K.hos]
    rw [if_pos (wanted_none K.hsg _)]
    refine .inl ?_
    unfold Oper.wp
    have e2 : (a.put (some d) (.pointer (some ⟨b, 0, none⟩))).eval (.tmp t) = u := by
      rw [Act.eval_put (fun d' hd' hx => by cases hd'; cases hx; exact K.hdt rfl)]; exact hev
    rw [K.hst _ w b (eval_put_same a d _ hd) e2 hbx, Oper.upon_skip, K.hsd]
    obtain ⟨hu1, hu2⟩ := K.heff w b hbx
    have hbe := hu2 w0.heap.size hb
    exact late_tail K hqa hg hl hC hQ f _ a _ b (hw.trans hbe) hb (Nat.lt_of_lt_of_le hbl hbe.size) hu1 (by
      by_cases hsj : s = j
      · exact absurd hsj.symm K.hjs
      · rw [getD_set_ne true hsj]; exact hlj) (by simp [inv.size, hssz]) h
  have head : ∀ (listed : Array Bool), HeadInv md ops n listed → listed.getD s true = false → ∀ i, i ∈ Region.ready md ops listed → i < n := fun listed inv hls i hi => by
    rcases Nat.lt_or_ge i n with h | h
    · exact h
    · exact absurd hi (tail_waits K.hsink K.hchain K.hn inv _ s rfl K.hsn hls i h)
  intro f
  induction f with
  | zero =>
    intro listed a w b hd hw hb hbl hbx hlj hls inv h
    obtain ⟨k, hk, hkr⟩ := some_ready K.hback inv.size (Nat.le_of_lt K.hn) s K.hsn hls
    refine ⟨fun h0 => (by rw [h0] at hkr; cases hkr), fun i hi => ?_⟩
    by_cases his : i = s
    · subst his; exact store 0 listed a w b hd hw hb hbl hbx hlj hls inv hi h
    · have h1 := seqB_ready h.1 i (ready_mono hi his)
      have := head listed inv hls i hi
      omega
  | succ f ih =>
    intro listed a w b hd hw hb hbl hbx hlj hls inv h
    obtain ⟨k, hk, hkr⟩ := some_ready K.hback inv.size (Nat.le_of_lt K.hn) s K.hsn hls
    refine ⟨fun h0 => (by rw [h0] at hkr; cases hkr), fun i hi => ?_⟩
    by_cases his : i = s
    · subst his; exact store (f + 1) listed a w b hd hw hb hbl hbx hlj hls inv hi h
    · obtain ⟨hin, o, v, ho, hy, hK⟩ := h.2 i (ready_mono hi his)
      have hij : i ≠ j := fun e => by subst e; rw [(mem_ready.1 hi).1] at hlj; cases hlj
      obtain ⟨p1, p2⟩ := quietApartB_spec hqa i o hin (by rintro (e | e); exact hij e; exact his e) ho
      have hy' : rYields P ops C o v (a.put (some d) (.pointer (some ⟨b, 0, none⟩))) := hy.same (execOp_put o (fun c x => Region.noSelect_spec K.hsel i o c x ho) a _ _ p1) (wanted_put o a _ _ p1)
      refine wpOp_of_yields ho (hC w hw) hy' fun w' hw' => ?_
      rw [Act.put_comm a _ v p2, show f + 1 + g = f + g + 1 by omega]
      refine ih _ _ w' b (by rw [put_size]; exact hd) (Ext.trans hw hw') hb (Nat.lt_of_lt_of_le hbl hw'.size) ((hw'.block _ hbl).trans hbx) (by rw [getD_set_ne true hij]; exact hlj) (by rw [getD_set_ne true his]; exact hls) (inv.set hi hin) ?_
      rw [Array.setIfInBounds_comm _ _ his]
      exact hK

theorem late_zero (K : Late P md ops n j s d t T cs us u oj os eff) (hqa : quietApartB ops n j s d = true) (hg : l.length = g) (hl : ∀ k, l[k]? = ops[n + k]?) (hC : ∀ w', Below w0.heap.size w0 w' → C w')
    (hLu : ∀ a, Lq a → a.eval (.tmp t) = u)
    (hQ : ∀ a w b, Below w0.heap.size w0 w → w0.heap.size ≤ b → b < w.heap.size → w.heap[b]? = some (.cells us T) → Lq a → wpList P ops Q l (a.put (some d) (.pointer (some ⟨b, 0, none⟩))) w) :
    ∀ (f : Nat) (listed : Array Bool) (a : Act) (w : World), d < a.tmps.size → Below w0.heap.size w0 w → listed.getD j true = false → listed.getD s true = false → HeadInv md ops n listed →
      rAny P md ops C n (fun listed' a' => Region.seqB md ops g n listed' = true ∧ Lq a') f ((listed.setIfInBounds j true).setIfInBounds s true) a → wpAny P md ops Q (f + g + 1 + 1) listed a w := by
  have hjsz : j < ops.size := Nat.lt_trans K.hjn K.hn
  have lay : ∀ (f : Nat) (listed : Array Bool) (a : Act) (w : World), d < a.tmps.size → Below w0.heap.size w0 w → listed.getD j true = false → listed.getD s true = false → HeadInv md ops n listed → j ∈ Region.ready md ops listed →
      rAny P md ops C n (fun listed' a' => Region.seqB md ops g n listed' = true ∧ Lq a') f ((listed.setIfInBounds j true).setIfInBounds s true) a →
      wpOp P ops Q j (wpAny P md ops Q (f + g + 1) (listed.setIfInBounds j true)) a w := by
    intro f listed a w hd hw hlj hls inv hjr h
    unfold wpOp
    simp only [K.hoj]
    rw [if_pos (wanted_none K.hguard _)]
    refine .inl ?_
    unfold Oper.wp
    rw [K.hrun, Oper.upon_value, K.hd]
    exact late_one K hqa hg hl hC hLu hQ f _ a _ w.heap.size hd (hw.alloc hw.size _) hw.size (by simp) (heap_new _ _) (by simp [inv.size, hjsz]) (by rw [getD_set_ne true K.hjs]; exact hls) (inv.set hjr K.hjn) h
  have notS : ∀ (listed : Array Bool), listed.getD j true = false → s ∉ Region.ready md ops listed := fun listed hlj hsr => by
    obtain ⟨o', ho', e, he, hbi, hon⟩ := Region.waitsFor_spec K.hsj
    obtain ⟨_, o'', ho'', hall⟩ := mem_ready.1 hsr
    have : o' = o'' := Option.some.inj (ho'.symm.trans ho'')
    subst this
    have h2 := hall e he hbi
    rw [hon, getD_both hlj] at h2; cases h2
  intro f
  induction f with
  | zero =>
    intro listed a w hd hw hlj hls inv h
    have hjr : j ∈ Region.ready md ops listed := mem_ready.2 ⟨hlj, oj, K.hoj, fun e he => (by rw [K.hafter] at he; simp at he)⟩
    refine ⟨fun h0 => (by rw [h0] at hjr; cases hjr), fun i hi => ?_⟩
    by_cases hij : i = j
    · subst hij; exact lay 0 listed a w hd hw hlj hls inv hi h
    · have his : i ≠ s := fun e => by subst e; exact notS listed hlj hi
      have h1 := seqB_ready h.1 i (ready_mono (ready_mono hi hij) his)
      exact absurd hi (tail_waits K.hsink K.hchain K.hn inv _ j rfl K.hjn hlj i h1)
  | succ f ih =>
    intro listed a w hd hw hlj hls inv h
    have hjr : j ∈ Region.ready md ops listed := mem_ready.2 ⟨hlj, oj, K.hoj, fun e he => (by rw [K.hafter] at he; simp at he)⟩
    refine ⟨fun h0 => (by rw [h0] at hjr; cases hjr), fun i hi => ?_⟩
    by_cases hij : i = j
    · subst hij; exact lay (f + 1) listed a w hd hw hlj hls inv hi h
    · have his : i ≠ s := fun e => by subst e; exact notS listed hlj hi
      obtain ⟨hin, o, v, ho, hy, hK⟩ := h.2 i (ready_mono (ready_mono hi hij) his)
      refine wpOp_of_yields ho (hC w hw) hy fun w' hw' => ?_
      rw [show f + 1 + g + 1 = f + g + 1 + 1 by omega]
      refine ih _ _ w' (by rw [put_size]; exact hd) (Ext.trans hw hw') (by rw [getD_set_ne true hij]; exact hlj) (by rw [getD_set_ne true his]; exact hls) (inv.set hi hin) ?_
      rw [Array.setIfInBounds_comm _ _ hij, Array.setIfInBounds_comm _ _ his]
      exact hK

/-- The tail's first operation waits for each of the head. -/
def phaseB (md : Region.Mode) (ops : Array Oper) (n : Nat) : Bool := (List.range n).all fun i => Region.waitsFor md ops n i
theorem phase_waits {listed : Array Bool} (hp : phaseB md ops n = true) (hc : Region.chainB md ops n = true) (ht : ∀ t, n ≤ t → t < ops.size → listed.getD t true = false) : TailWaits md ops n listed := by
  intro i hi hun t hnt hr
  obtain ⟨_, ot, hot, hall⟩ := mem_ready.1 hr
  have htlt : t < ops.size := (Array.getElem?_eq_some_iff.1 hot).1
  by_cases htn : t = n
  · subst htn
    obtain ⟨o', ho', e, he, hb, hon⟩ := Region.waitsFor_spec (List.all_eq_true.1 hp i (List.mem_range.2 hi))
    have : o' = ot := Option.some.inj (ho'.symm.trans hot)
    subst this
    have h2 := hall e he hb
    rw [hon, getD_both hun] at h2; cases h2
  · have h1 := List.all_eq_true.1 hc t (List.mem_range.2 htlt)
    simp only [Bool.or_eq_true, decide_eq_true_eq] at h1
    rcases h1 with h1 | h1
    · omega
    · obtain ⟨o', ho', e, he, hb, hon⟩ := Region.waitsFor_spec h1
      have : o' = ot := Option.some.inj (ho'.symm.trans hot)
      subst this
      have h2 := hall e he hb
      rw [hon, getD_both (ht (t - 1) (by omega) (by omega))] at h2; cases h2

/-- All the closed checks at once. -/
def lateB (md : Region.Mode) (ops : Array Oper) (n j s : Nat) (d t : Tmp) : Bool :=
  Region.noSelect ops && decide (n < ops.size) && decide (j < n) && decide (s < n) && decide (j ≠ s) && decide (d ≠ t) && Region.sinkB md ops n && Region.chainB md ops n && phaseB md ops n && backB md ops n && Region.waitsFor md ops s j && writersB md ops n s t && quietApartB ops n j s d &&
  orderB md ops n (ops.size - n) ((List.range n).filter fun i => i != j && i != s) (((Array.replicate ops.size false).setIfInBounds j true).setIfInBounds s true)
end

/-- Two cells stored, one behind the other. -/
def eff2 (c0 c1 : Value) (b : Nat) (w : World) : World := (w.setCell ⟨b, 0, none⟩ c0).setCell ⟨b, 1, none⟩ c1
theorem eff2_spec {c0 c1 z0 z1 : Value} {T : TypeId} (w : World) (b : Nat) (h : w.heap[b]? = some (.cells #[z0, z1] T)) : (eff2 c0 c1 b w).heap[b]? = some (.cells #[c0, c1] T) ∧ (∀ B, B ≤ b → Below B w (eff2 c0 c1 b w)) := by
  have B0 : Box w b [z0, z1] T := h
  exact ⟨(B0.set 0 c0).set 1 c1, fun B hB => ((Below.refl B w).setCell hB _).setCell hB _⟩

theorem count_two {n j s : Nat} (hj : j < n) (hs : s < n) (hjs : j ≠ s) : ((List.range n).filter fun i => i != j && i != s).length + 1 + 1 = n := by
  have h1 : ∀ (l : List Nat) (x : Nat), l.Nodup → x ∈ l → (l.filter fun i => i != x).length + 1 = l.length := by
    intro l
    induction l with
    | nil => intro x _ hx; cases hx
    | cons y l ih =>
      intro x hnd hx
      by_cases hxy : y = x
      · subst hxy
        have hno : y ∉ l := (List.nodup_cons.1 hnd).1
        have : l.filter (fun i => i != y) = l := List.filter_eq_self.2 fun z hz => by
          simp only [bne_iff_ne, ne_eq]; rintro rfl; exact hno hz
        simp [this]
      · have hx2 : x ∈ l := by
          rcases List.mem_cons.1 hx with h | h
          · exact absurd h.symm hxy
          · exact h
        have := ih x (List.nodup_cons.1 hnd).2 hx2
        rw [List.filter_cons_of_pos (by simpa using hxy)]
        simp only [List.length_cons]; omega
  have e : ((List.range n).filter fun i => i != j && i != s) = ((List.range n).filter fun i => i != j).filter fun i => i != s := by
    rw [List.filter_filter]
    congr 1; funext i; exact Bool.and_comm _ _
  rw [e]
  have a1 := h1 (List.range n) j List.nodup_range (List.mem_range.2 hj)
  have a2 := h1 ((List.range n).filter fun i => i != j) s (List.nodup_range.filter _) (List.mem_filter.2 ⟨List.mem_range.2 hs, by simpa using Ne.symm hjs⟩)
  rw [List.length_range] at a1
  omega

theorem wp_region_late {P : Program} {C : World → Prop} {id : Nat} {Q : Exit → Act → World → Prop} {a : Act} {w : World} {l hd : List Oper} (n j s : Nat) (d t : Tmp) {T : TypeId} {z0 z1 : Value} (c0 c1 u : Value) {oj os : Oper}
    (hoj : l.toArray[j]? = some oj) (hos : l.toArray[s]? = some os) (hjd : oj.dst = some d) (hafter : oj.after = #[]) (hguard : oj.guard = none) (hsd : os.dst = none) (hsg : os.guard = none)
    (hdsz : d < a.tmps.size)
    (hrun : ∀ (ρ : Operand → Value) (w : World), (execOp ρ oj).run P w = .ok (.value (.pointer (some ⟨w.heap.size, 0, none⟩))) (w.alloc (.cells #[z0, z1] T)))
    (hm : P.follows .mixedOrders = true) (hB : lateB .any l.toArray n j s d t = true)
    (hhd : ((List.range n).filter fun i => i != j && i != s).map (fun i => l.toArray[i]?) = hd.map some)
    (hC : ∀ w', Below w.heap.size w w' → C w')
    (h : rWalk P l.toArray C (fun a' => a'.eval (.tmp t) = u ∧ ∀ w' b, Below w.heap.size w w' → w.heap.size ≤ b → b < w'.heap.size → Box w' b [c0, c1] T → wpList P l.toArray Q (l.drop n) (a'.put (some d) (.pointer (some ⟨b, 0, none⟩))) w') hd a)
    (hst : ∀ (ρ : Operand → Value) (w : World) (b : Nat), ρ (.tmp d) = .pointer (some ⟨b, 0, none⟩) → ρ (.tmp t) = u → Box w b [z0, z1] T → (execOp ρ os).run P w = .ok .skip (eff2 c0 c1 b w)) :
    (Code.region id l.toArray true).wp P Q a w := by
  simp only [lateB, Bool.and_eq_true, decide_eq_true_eq] at hB
  obtain ⟨⟨⟨⟨⟨⟨⟨⟨⟨⟨⟨⟨⟨hsel, hn⟩, hjn⟩, hsn⟩, hjs⟩, hdt⟩, hs⟩, hc⟩, hph⟩, hbk⟩, hsj⟩, hwr⟩, hqa⟩, ho⟩ := hB
  have K : Late P .any l.toArray n j s d t T #[z0, z1] #[c0, c1] u oj os (eff2 c0 c1) :=
    ⟨hsel, hn, hjn, hsn, hjs, hs, hc, hbk, hoj, hos, hjd, hafter, hguard, hsd, hsg, hsj, hdt, hwr, hrun, hst, fun w b h => eff2_spec w b h⟩
  have hjz : (Array.replicate l.toArray.size false).getD j true = false := getD_in (by simp; simp at hn; omega) (getD_replicate_false _ _)
  have hsz : (Array.replicate l.toArray.size false).getD s true = false := getD_in (by simp; simp at hn; omega) (getD_replicate_false _ _)
  have tl : ∀ (m : Array Bool) (i : Nat), i < n → (m.size = l.toArray.size ∧ ∀ t', n ≤ t' → t' < l.toArray.size → m.getD t' true = false) → ((m.setIfInBounds i true).size = l.toArray.size ∧ ∀ t', n ≤ t' → t' < l.toArray.size → (m.setIfInBounds i true).getD t' true = false) :=
    fun m i hi ⟨h1, h2⟩ => ⟨by simpa using h1, fun t' ht ht' => by rw [getD_set_ne true (by omega)]; exact h2 t' ht ht'⟩
  have i0 : (Array.replicate l.toArray.size false).size = l.toArray.size ∧ ∀ t', n ≤ t' → t' < l.toArray.size → (Array.replicate l.toArray.size false).getD t' true = false :=
    ⟨by simp, fun t' _ ht' => getD_in (by simpa using ht') (getD_replicate_false _ _)⟩
  have H := rAny_order (md := .any) (g := l.toArray.size - n) hsel (fun m => m.size = l.toArray.size ∧ ∀ t', n ≤ t' → t' < l.toArray.size → m.getD t' true = false) (fun m i hi _ hin => tl m i hin hi) (fun m hm => phase_waits hph hc hm.2)
    ((List.range n).filter fun i => i != j && i != s) hd _ a hhd (tl _ s hsn (tl _ j hjn i0)) ho h
  refine wp_region_any hm ?_
  have R := late_zero (md := .any) (Q := Q) (l := l.drop n) (w0 := w) K hqa (g := l.toArray.size - n) (by simp) (fun j => by simp [List.getElem?_drop]) hC (fun a' hl => hl.1)
    (fun a' w' b h1 h2 h3 h4 hl => hl.2 w' b h1 h2 h3 h4) _ (Array.replicate l.toArray.size false) a { w with drawn := w.drawn + 1 } hdsz ⟨rfl, rfl, rfl, Nat.le_refl _, fun _ _ => rfl⟩ hjz hsz headInv0 H
  have hcount : ((List.range n).filter fun i => i != j && i != s).length + 1 + 1 = n := count_two hjn hsn hjs
  rw [show ((List.range n).filter fun i => i != j && i != s).length + (l.toArray.size - n) + 1 + 1 = l.toArray.size by omega] at R
  exact R
theorem range_two (m : Nat) : ((List.range (m + 2)).filter fun i => i != m && i != m + 1) = List.range m := by
  rw [List.range_succ, List.range_succ, List.filter_append, List.filter_append]
  have h1 : (List.range m).filter (fun i => i != m && i != m + 1) = List.range m := List.filter_eq_self.2 fun z hz => by
    have := List.mem_range.1 hz
    simp; omega
  rw [h1]
  simp
/-- The usual make: the block's laying and the store are the head's last two operations. -/
theorem wp_region_late2 {P : Program} {C : World → Prop} {id : Nat} {Q : Exit → Act → World → Prop} {a : Act} {w : World} {l : List Oper} (m : Nat) (d t : Tmp) {T : TypeId} {z0 z1 : Value} (c0 c1 : Value) {oj os : Oper}
    (hoj : l.toArray[m]? = some oj) (hos : l.toArray[m + 1]? = some os) (hjd : oj.dst = some d) (hafter : oj.after = #[]) (hguard : oj.guard = none) (hsd : os.dst = none) (hsg : os.guard = none)
    (hdsz : d < a.tmps.size)
    (hrun : ∀ (ρ : Operand → Value) (w : World), (execOp ρ oj).run P w = .ok (.value (.pointer (some ⟨w.heap.size, 0, none⟩))) (w.alloc (.cells #[z0, z1] T)))
    (hm : P.follows .mixedOrders = true) (hB : lateB .any l.toArray (m + 2) m (m + 1) d t = true)
    (hC : ∀ w', Below w.heap.size w w' → C w')
    (h : rWalk P l.toArray C (fun a' => a'.eval (.tmp t) = .agg #[c0, c1] ∧ ∀ w' b, Below w.heap.size w w' → w.heap.size ≤ b → b < w'.heap.size → Box w' b [c0, c1] T → wpList P l.toArray Q (l.drop (m + 2)) (a'.put (some d) (.pointer (some ⟨b, 0, none⟩))) w') (l.take m) a)
    (hst : ∀ (ρ : Operand → Value) (w : World) (b : Nat), ρ (.tmp d) = .pointer (some ⟨b, 0, none⟩) → ρ (.tmp t) = .agg #[c0, c1] → Box w b [z0, z1] T → (execOp ρ os).run P w = .ok .skip (eff2 c0 c1 b w)) :
    (Code.region id l.toArray true).wp P Q a w := by
  refine wp_region_late (hd := l.take m) (m + 2) m (m + 1) d t c0 c1 _ hoj hos hjd hafter hguard hsd hsg hdsz hrun hm hB ?_ hC h hst
  have hn : m + 2 < l.length := by
    simp only [lateB, Bool.and_eq_true, decide_eq_true_eq] at hB
    have := hB.1.1.1.1.1.1.1.1.1.1.1.1.2
    simpa using this
  rw [range_two]
  apply List.ext_getElem?
  intro j
  simp only [List.getElem?_map, List.getElem?_take]
  by_cases hj : j < m
  · simp [hj, show j < l.length by omega]
  · simp [hj]
end Go.Proofs.Ytijdbddjhnjcdaa
