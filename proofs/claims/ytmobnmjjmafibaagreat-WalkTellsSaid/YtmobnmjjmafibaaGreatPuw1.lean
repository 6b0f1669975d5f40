/- Put together: Late, WideB, WideD, WideH, ExD, ExE, ExF, ExG, ExH. -/
import Derived.Test.YtmobnmjjmafibaaGreatPuw0
import Derived.Test.YtmobnmjjmafibaaGreatRows
import Derived.WalkKit
import Derived.WalkSpells
import Derived.WalkLawsBesides
import Derived.Laws.Externs
import Derived.Deep.QuietTactic
import Derived.BigQuiet
import Derived.Lib.Hide
import Derived.Handy
import Derived.Laws.MathBits
import Derived.LoopTactic
set_option maxRecDepth 100000
set_option maxHeartbeats 8000000
namespace Go.Proofs.YtmobnmjjmafibaaGreat
open Go.RowKit Go.Sort
section
variable {P : Program} {ops : Array Oper} {md : Region.Mode} {C : World → Prop}
def backB (md : Region.Mode) (ops : Array Oper) (n : Nat) : Bool :=
 (List.range n).all fun i => match ops[i]? with
  | some o => o.after.all fun e => !Region.binds md e || decide (e.on < i)
  | none => false
theorem backB_spec {n i : Nat} (h : backB md ops n = true) (hi : i < n) : ∃ o, ops[i]? = some o ∧ ∀ e ∈ o.after, Region.binds md e = true → e.on < i := by
 have h1 := List.all_eq_true.1 h i (List.mem_range.2 hi);cases ho : ops[i]? with
 | none => rw [ho] at h1; cases h1
 | some o =>
  rw [ho] at h1;refine ⟨o, rfl, fun e he hb => ?_⟩;have h2 := Array.all_eq_true_iff_forall_mem.1 h1 e he
  simpa [hb] using h2
theorem zGu {n : Nat} {listed : Array Bool} (h : backB md ops n = true) (hsz : listed.size = ops.size) (hn : n ≤ ops.size) :
    ∀ (i : Nat), i < n → listed.getD i true = false → ∃ k, k ≤ i ∧ k ∈ Region.ready md ops listed := by
 intro i;induction i using Nat.strongRecOn with
 | _ i ih =>
  intro hi hun;obtain ⟨o, ho, hall⟩ := backB_spec h hi;by_cases hr : ∀ e ∈ o.after, Region.binds md e = true → listed.getD e.on false = true
  ·exact ⟨i, Nat.le_refl _, mem_ready.2 ⟨hun, o, ho, hr⟩⟩
  ·have : ∃ e ∈ o.after, Region.binds md e = true ∧ listed.getD e.on false = false := by
     apply Classical.byContradiction;intro hno;refine hr fun e he hb => ?_;cases hv : listed.getD e.on false with
     | true => rfl
     | false => exact absurd ⟨e, he, hb, hv⟩ hno
   obtain ⟨e, he, hb, hv⟩ := this;have hlt := hall e he hb;obtain ⟨k, hk, hkr⟩ := ih e.on hlt (by omega) (getD_in (by omega) hv);exact ⟨k, by omega, hkr⟩
theorem zI7 {n t : Nat} {u : Value} {L : Array Bool → Act → Prop} (hL : ∀ l a, L l a → a.eval (.tmp t) = u) :
    ∀ (f : Nat) (listed : Array Bool) (a : Act), (∀ i o, i < n → ops[i]? = some o → listed.getD i true = false → o.dst ≠ some t) → rAny P md ops C n L f listed a → a.eval (.tmp t) = u
 | 0, listed, a, _, h => hL _ _ h
 | f + 1, listed, a, hw, h => by
  obtain ⟨hne, hall⟩ := h;obtain ⟨i, hi⟩ := List.exists_mem_of_ne_nil _ hne;obtain ⟨hin, o, v, ho, _, hK⟩ := hall i hi;have h1 := zI7 hL f _ _ (fun k ok hk hok hun => by
   by_cases hik : i = k
   ·subst hik;have : ok = o := Option.some.inj (hok.symm.trans ho);subst this;exact hw i ok hin ho (mem_ready.1 hi).1
   ·rw [getD_set_ne true hik] at hun; exact hw k ok hk hok hun) hK
  rw [Act.eval_put (fun d hd hx => by cases hx; exact hw i o hin ho (mem_ready.1 hi).1 hd)] at h1;exact h1
def writersB (md : Region.Mode) (ops : Array Oper) (n s t : Nat) : Bool :=
 (List.range n).all fun i => match ops[i]? with
  | some o => o.dst != some t || Region.waitsFor md ops s i
  | none => true
structure Late (P : Program) (md : Region.Mode) (ops : Array Oper) (n j s : Nat) (d t : Tmp) (T : TypeId) (cs us : Array Value) (u : Value) (oj os : Oper) (eff : Nat → World → World) : Prop where
 hsel : Region.noSelect ops = true
 hn : n < ops.size
 hjn : j < n
 hsn : s < n
 hjs : j ≠ s
 hsink : Region.sinkB md ops n = true
 hchain : Region.chainB md ops n = true
 hback : backB md ops n = true
 hoj : ops[j]? = some oj
 hos : ops[s]? = some os
 hd : oj.dst = some d
 hafter : oj.after = #[]
 hguard : oj.guard = none
 hsd : os.dst = none
 hsg : os.guard = none
 hsj : Region.waitsFor md ops s j = true
 hdt : d ≠ t
 hwr : writersB md ops n s t = true
 hrun : ∀ (ρ : Operand → Value) (w : World), (execOp ρ oj).run P w = .ok (.value (.pointer (some ⟨w.heap.size, 0, none⟩))) (w.alloc (.cells cs T))
 hst : ∀ (ρ : Operand → Value) (w : World) (b : Nat), ρ (.tmp d) = .pointer (some ⟨b, 0, none⟩) → ρ (.tmp t) = u → w.heap[b]? = some (.cells cs T) → (execOp ρ os).run P w = .ok .skip (eff b w)
 heff : ∀ (w : World) (b : Nat), w.heap[b]? = some (.cells cs T) → (eff b w).heap[b]? = some (.cells us T) ∧ (∀ B, B ≤ b → Below B w (eff b w))
def quietApartB (ops : Array Oper) (n j s : Nat) (d : Tmp) : Bool :=
 (List.range n).all fun i => i == j || i == s || match ops[i]? with
  | some o => !(o.looksAt ops).contains d && o.dst != some d
  | none => true
theorem zCv {n j s d : Nat} (h : quietApartB ops n j s d = true) : ∀ i o, i < n → ¬ (i = j ∨ i = s) → ops[i]? = some o → (∀ d', some d = some d' → d' ∉ o.looksAt ops) ∧ (∀ d', some d = some d' → o.dst ≠ some d') := by
 intro i o hi hj ho;have h1 := List.all_eq_true.1 h i (List.mem_range.2 hi);have hj1 : i ≠ j := fun e => hj (.inl e);have hj2 : i ≠ s := fun e => hj (.inr e);simp only [ho, Bool.or_eq_true, beq_iff_eq, hj1, hj2, false_or, Bool.and_eq_true, Bool.not_eq_true', bne_iff_ne] at h1;refine ⟨fun d' hd => ?_, fun d' hd => ?_⟩
 ·cases hd; simpa using h1.1
 ·cases hd; exact h1.2
variable {n j s g : Nat} {d t : Tmp} {T : TypeId} {cs us : Array Value} {u : Value} {oj os : Oper} {eff : Nat → World → World} {Q : Exit → Act → World → Prop} {Lq : Act → Prop} {l : List Oper} {w0 : World}
theorem late_tail (K : Late P md ops n j s d t T cs us u oj os eff) (hqa : quietApartB ops n j s d = true) (hg : l.length = g) (hl : ∀ k, l[k]? = ops[n + k]?) (hC : ∀ w', Below w0.heap.size w0 w' → C w')
    (hQ : ∀ a w b, Below w0.heap.size w0 w → w0.heap.size ≤ b → b < w.heap.size → w.heap[b]? = some (.cells us T) → Lq a → wpList P ops Q l (a.put (some d) (.pointer (some ⟨b, 0, none⟩))) w)
    (f : Nat) (listed : Array Bool) (a : Act) (w : World) (b : Nat) (hw : Below w0.heap.size w0 w) (hb : w0.heap.size ≤ b) (hbl : b < w.heap.size) (hbx : w.heap[b]? = some (.cells us T))
    (hlj : listed.getD j true = true) (hls : listed.getD s true = true)
    (h : rAny P md ops C n (fun listed' a' => Region.seqB md ops g n listed' = true ∧ Lq a') f listed a) : wpAny P md ops Q (f + g) listed (a.put (some d) (.pointer (some ⟨b, 0, none⟩))) w :=
 zB8 (md := md) (D := fun w' => Below w0.heap.size w0 w' ∧ b < w'.heap.size ∧ w'.heap[b]? = some (.cells us T)) K.hsel hg hl (fun w' h => hC w' h.1)
  (fun x y hx hy => ⟨Below.trans hx.1 (Below.mono hy hx.1.size), Nat.lt_of_lt_of_le hx.2.1 hy.size, (hy.block _ hx.2.1).trans hx.2.2⟩) (fun k => k = j ∨ k = s) (zCv hqa)
  (fun a' w' hw' hl' => hQ a' w' b hw'.1 hb hw'.2.1 hw'.2.2 hl') f listed a w ⟨hw, hbl, hbx⟩ (fun k hk => by rcases hk with rfl | rfl; exact hlj; exact hls) h
theorem eval_put_same (a : Act) (d : Tmp) (v : Value) (h : d < a.tmps.size) : (a.put (some d) v).eval (.tmp d) = v := by
 simp [Act.eval, Act.put, h]
theorem zJh (a : Act) (x : Option Tmp) (v : Value) : (a.put x v).tmps.size = a.tmps.size := by cases x <;> simp [Act.put]
theorem zF9 {o : Oper} (h : o.guard = none) (f : Nat → Option Bool) : Region.wanted o f = true := by simp [Region.wanted, h]
theorem late_one (K : Late P md ops n j s d t T cs us u oj os eff) (hqa : quietApartB ops n j s d = true) (hg : l.length = g) (hl : ∀ k, l[k]? = ops[n + k]?) (hC : ∀ w', Below w0.heap.size w0 w' → C w')
    (hLu : ∀ a, Lq a → a.eval (.tmp t) = u)
    (hQ : ∀ a w b, Below w0.heap.size w0 w → w0.heap.size ≤ b → b < w.heap.size → w.heap[b]? = some (.cells us T) → Lq a → wpList P ops Q l (a.put (some d) (.pointer (some ⟨b, 0, none⟩))) w) :
    ∀ (f : Nat) (listed : Array Bool) (a : Act) (w : World) (b : Nat), d < a.tmps.size → Below w0.heap.size w0 w → w0.heap.size ≤ b → b < w.heap.size → w.heap[b]? = some (.cells cs T) →
     listed.getD j true = true → listed.getD s true = false → HeadInv md ops n listed →
     rAny P md ops C n (fun listed' a' => Region.seqB md ops g n listed' = true ∧ Lq a') f (listed.setIfInBounds s true) a → wpAny P md ops Q (f + g + 1) listed (a.put (some d) (.pointer (some ⟨b, 0, none⟩))) w := by
 have hssz : s < ops.size := Nat.lt_trans K.hsn K.hn
 -- the store, whenever it comes
 have store : ∀ (f : Nat) (listed : Array Bool) (a : Act) (w : World) (b : Nat), d < a.tmps.size → Below w0.heap.size w0 w → w0.heap.size ≤ b → b < w.heap.size → w.heap[b]? = some (.cells cs T) →
     listed.getD j true = true → listed.getD s true = false → HeadInv md ops n listed → s ∈ Region.ready md ops listed →
     rAny P md ops C n (fun listed' a' => Region.seqB md ops g n listed' = true ∧ Lq a') f (listed.setIfInBounds s true) a →
     wpOp P ops Q s (wpAny P md ops Q (f + g) (listed.setIfInBounds s true)) (a.put (some d) (.pointer (some ⟨b, 0, none⟩))) w := by
  intro f listed a w b hd hw hb hbl hbx hlj hls inv hsr h;have hev : a.eval (.tmp t) = u := by
   refine zI7 (fun l' a' hL => hLu a' hL.2) f _ a (fun i o hin ho hun hdst => ?_) h;have h1 := List.all_eq_true.1 K.hwr i (List.mem_range.2 hin);simp only [ho, hdst, bne_self_eq_false, Bool.false_or] at h1;obtain ⟨o', ho', e, he, hbi, hon⟩ := Region.waitsFor_spec h1;obtain ⟨_, o'', ho'', hall⟩ := mem_ready.1 hsr;have : o' = o'' := Option.some.inj (ho'.symm.trans ho'');subst this;have h2 := hall e he hbi;rw [hon] at h2;by_cases his : s = i
   ·subst his;have : o = os := Option.some.inj (ho.symm.trans K.hos);subst this;rw [K.hsd] at hdst; cases hdst
   ·rw [getD_set_ne true his] at hun;rw [getD_both hun] at h2; cases h2
  unfold wpOp;simp only [K.hos];rw [if_pos (zF9 K.hsg _)];refine .inl ?_;unfold Oper.wp;have e2 : (a.put (some d) (.pointer (some ⟨b, 0, none⟩))).eval (.tmp t) = u := by
   rw [Act.eval_put (fun d' hd' hx => by cases hd'; cases hx; exact K.hdt rfl)]; exact hev
  rw [K.hst _ w b (eval_put_same a d _ hd) e2 hbx, Oper.upon_skip, K.hsd];obtain ⟨hu1, hu2⟩ := K.heff w b hbx;have hbe := hu2 w0.heap.size hb;exact late_tail K hqa hg hl hC hQ f _ a _ b (hw.trans hbe) hb (Nat.lt_of_lt_of_le hbl hbe.size) hu1 (by
   by_cases hsj : s = j
   ·exact absurd hsj.symm K.hjs
   ·rw [getD_set_ne true hsj]; exact hlj) (by simp [inv.size, hssz]) h
 have head : ∀ (listed : Array Bool), HeadInv md ops n listed → listed.getD s true = false → ∀ i, i ∈ Region.ready md ops listed → i < n := fun listed inv hls i hi => by
  rcases Nat.lt_or_ge i n with h | h
  ·exact h
  ·exact absurd hi (tail_waits K.hsink K.hchain K.hn inv _ s rfl K.hsn hls i h)
 intro f;induction f with
 | zero =>
  intro listed a w b hd hw hb hbl hbx hlj hls inv h;obtain ⟨k, hk, hkr⟩ := zGu K.hback inv.size (Nat.le_of_lt K.hn) s K.hsn hls;refine ⟨fun h0 => (by rw [h0] at hkr; cases hkr), fun i hi => ?_⟩;by_cases his : i = s
  ·subst his; exact store 0 listed a w b hd hw hb hbl hbx hlj hls inv hi h
  ·have h1 := seqB_ready h.1 i (ready_mono hi his);have := head listed inv hls i hi;omega
 | succ f ih =>
  intro listed a w b hd hw hb hbl hbx hlj hls inv h;obtain ⟨k, hk, hkr⟩ := zGu K.hback inv.size (Nat.le_of_lt K.hn) s K.hsn hls;refine ⟨fun h0 => (by rw [h0] at hkr; cases hkr), fun i hi => ?_⟩;by_cases his : i = s
  ·subst his; exact store (f + 1) listed a w b hd hw hb hbl hbx hlj hls inv hi h
  ·obtain ⟨hin, o, v, ho, hy, hK⟩ := h.2 i (ready_mono hi his);have hij : i ≠ j := fun e => by subst e; rw [(mem_ready.1 hi).1] at hlj; cases hlj
   obtain ⟨p1, p2⟩ := zCv hqa i o hin (by rintro (e | e); exact hij e; exact his e) ho;have hy' : rYields P ops C o v (a.put (some d) (.pointer (some ⟨b, 0, none⟩))) := hy.same (execOp_put o (fun c x => Region.noSelect_spec K.hsel i o c x ho) a _ _ p1) (wanted_put o a _ _ p1);refine zAy ho (hC w hw) hy' fun w' hw' => ?_;rw [Act.put_comm a _ v p2, show f + 1 + g = f + g + 1 by omega];refine ih _ _ w' b (by rw [zJh]; exact hd) (Ext.trans hw hw') hb (Nat.lt_of_lt_of_le hbl hw'.size) ((hw'.block _ hbl).trans hbx) (by rw [getD_set_ne true hij]; exact hlj) (by rw [getD_set_ne true his]; exact hls) (inv.set hi hin) ?_;rw [Array.setIfInBounds_comm _ _ his];exact hK
theorem late_zero (K : Late P md ops n j s d t T cs us u oj os eff) (hqa : quietApartB ops n j s d = true) (hg : l.length = g) (hl : ∀ k, l[k]? = ops[n + k]?) (hC : ∀ w', Below w0.heap.size w0 w' → C w')
    (hLu : ∀ a, Lq a → a.eval (.tmp t) = u)
    (hQ : ∀ a w b, Below w0.heap.size w0 w → w0.heap.size ≤ b → b < w.heap.size → w.heap[b]? = some (.cells us T) → Lq a → wpList P ops Q l (a.put (some d) (.pointer (some ⟨b, 0, none⟩))) w) :
    ∀ (f : Nat) (listed : Array Bool) (a : Act) (w : World), d < a.tmps.size → Below w0.heap.size w0 w → listed.getD j true = false → listed.getD s true = false → HeadInv md ops n listed →
     rAny P md ops C n (fun listed' a' => Region.seqB md ops g n listed' = true ∧ Lq a') f ((listed.setIfInBounds j true).setIfInBounds s true) a → wpAny P md ops Q (f + g + 1 + 1) listed a w := by
 have hjsz : j < ops.size := Nat.lt_trans K.hjn K.hn
 have lay : ∀ (f : Nat) (listed : Array Bool) (a : Act) (w : World), d < a.tmps.size → Below w0.heap.size w0 w → listed.getD j true = false → listed.getD s true = false → HeadInv md ops n listed → j ∈ Region.ready md ops listed →
     rAny P md ops C n (fun listed' a' => Region.seqB md ops g n listed' = true ∧ Lq a') f ((listed.setIfInBounds j true).setIfInBounds s true) a →
     wpOp P ops Q j (wpAny P md ops Q (f + g + 1) (listed.setIfInBounds j true)) a w := by
  intro f listed a w hd hw hlj hls inv hjr h;unfold wpOp;simp only [K.hoj];rw [if_pos (zF9 K.hguard _)];refine .inl ?_;unfold Oper.wp;rw [K.hrun, Oper.upon_value, K.hd];exact late_one K hqa hg hl hC hLu hQ f _ a _ w.heap.size hd (hw.alloc hw.size _) hw.size (by simp) (heap_new _ _) (by simp [inv.size, hjsz]) (by rw [getD_set_ne true K.hjs]; exact hls) (inv.set hjr K.hjn) h
 have notS : ∀ (listed : Array Bool), listed.getD j true = false → s ∉ Region.ready md ops listed := fun listed hlj hsr => by
  obtain ⟨o', ho', e, he, hbi, hon⟩ := Region.waitsFor_spec K.hsj;obtain ⟨_, o'', ho'', hall⟩ := mem_ready.1 hsr;have : o' = o'' := Option.some.inj (ho'.symm.trans ho'');subst this;have h2 := hall e he hbi;rw [hon, getD_both hlj] at h2; cases h2
 intro f;induction f with
 | zero =>
  intro listed a w hd hw hlj hls inv h;have hjr : j ∈ Region.ready md ops listed := mem_ready.2 ⟨hlj, oj, K.hoj, fun e he => (by rw [K.hafter] at he; simp at he)⟩;refine ⟨fun h0 => (by rw [h0] at hjr; cases hjr), fun i hi => ?_⟩;by_cases hij : i = j
  ·subst hij; exact lay 0 listed a w hd hw hlj hls inv hi h
  ·have his : i ≠ s := fun e => by subst e; exact notS listed hlj hi
   have h1 := seqB_ready h.1 i (ready_mono (ready_mono hi hij) his);exact absurd hi (tail_waits K.hsink K.hchain K.hn inv _ j rfl K.hjn hlj i h1)
 | succ f ih =>
  intro listed a w hd hw hlj hls inv h;have hjr : j ∈ Region.ready md ops listed := mem_ready.2 ⟨hlj, oj, K.hoj, fun e he => (by rw [K.hafter] at he; simp at he)⟩;refine ⟨fun h0 => (by rw [h0] at hjr; cases hjr), fun i hi => ?_⟩;by_cases hij : i = j
  ·subst hij; exact lay (f + 1) listed a w hd hw hlj hls inv hi h
  ·have his : i ≠ s := fun e => by subst e; exact notS listed hlj hi
   obtain ⟨hin, o, v, ho, hy, hK⟩ := h.2 i (ready_mono (ready_mono hi hij) his);refine zAy ho (hC w hw) hy fun w' hw' => ?_;rw [show f + 1 + g + 1 = f + g + 1 + 1 by omega];refine ih _ _ w' (by rw [zJh]; exact hd) (Ext.trans hw hw') (by rw [getD_set_ne true hij]; exact hlj) (by rw [getD_set_ne true his]; exact hls) (inv.set hi hin) ?_;rw [Array.setIfInBounds_comm _ _ hij, Array.setIfInBounds_comm _ _ his];exact hK
def phaseB (md : Region.Mode) (ops : Array Oper) (n : Nat) : Bool := (List.range n).all fun i => Region.waitsFor md ops n i
theorem phase_waits {listed : Array Bool} (hp : phaseB md ops n = true) (hc : Region.chainB md ops n = true) (ht : ∀ t, n ≤ t → t < ops.size → listed.getD t true = false) : TailWaits md ops n listed := by
 intro i hi hun t hnt hr;obtain ⟨_, ot, hot, hall⟩ := mem_ready.1 hr;have htlt : t < ops.size := (Array.getElem?_eq_some_iff.1 hot).1;by_cases htn : t = n
 ·subst htn;obtain ⟨o', ho', e, he, hb, hon⟩ := Region.waitsFor_spec (List.all_eq_true.1 hp i (List.mem_range.2 hi));have : o' = ot := Option.some.inj (ho'.symm.trans hot);subst this;have h2 := hall e he hb;rw [hon, getD_both hun] at h2; cases h2
 ·have h1 := List.all_eq_true.1 hc t (List.mem_range.2 htlt);simp only [Bool.or_eq_true, decide_eq_true_eq] at h1;rcases h1 with h1 | h1
  ·omega
  ·obtain ⟨o', ho', e, he, hb, hon⟩ := Region.waitsFor_spec h1;have : o' = ot := Option.some.inj (ho'.symm.trans hot);subst this;have h2 := hall e he hb;rw [hon, getD_both (ht (t - 1) (by omega) (by omega))] at h2; cases h2
def lateB (md : Region.Mode) (ops : Array Oper) (n j s : Nat) (d t : Tmp) : Bool :=
 Region.noSelect ops && decide (n < ops.size) && decide (j < n) && decide (s < n) && decide (j ≠ s) && decide (d ≠ t) && Region.sinkB md ops n && Region.chainB md ops n && phaseB md ops n && backB md ops n && Region.waitsFor md ops s j && writersB md ops n s t && quietApartB ops n j s d &&
 orderB md ops n (ops.size - n) ((List.range n).filter fun i => i != j && i != s) (((Array.replicate ops.size false).setIfInBounds j true).setIfInBounds s true)
end
theorem count_two {n j s : Nat} (hj : j < n) (hs : s < n) (hjs : j ≠ s) : ((List.range n).filter fun i => i != j && i != s).length + 1 + 1 = n := by
 have h1 : ∀ (l : List Nat) (x : Nat), l.Nodup → x ∈ l → (l.filter fun i => i != x).length + 1 = l.length := by
  intro l;induction l with
  | nil => intro x _ hx; cases hx
  | cons y l ih =>
   intro x hnd hx;by_cases hxy : y = x
   ·subst hxy;have hno : y ∉ l := (List.nodup_cons.1 hnd).1;have : l.filter (fun i => i != y) = l := List.filter_eq_self.2 fun z hz => by
     simp only [bne_iff_ne, ne_eq]; rintro rfl; exact hno hz
    simp [this]
   ·have hx2 : x ∈ l := by
      rcases List.mem_cons.1 hx with h | h
      ·exact absurd h.symm hxy
      ·exact h
    have := ih x (List.nodup_cons.1 hnd).2 hx2;rw [List.filter_cons_of_pos (by simpa using hxy)];simp only [List.length_cons]; omega
 have e : ((List.range n).filter fun i => i != j && i != s) = ((List.range n).filter fun i => i != j).filter fun i => i != s := by
  rw [List.filter_filter];congr 1; funext i; exact Bool.and_comm _ _
 rw [e];have a1 := h1 (List.range n) j List.nodup_range (List.mem_range.2 hj);have a2 := h1 ((List.range n).filter fun i => i != j) s (List.nodup_range.filter _) (List.mem_filter.2 ⟨List.mem_range.2 hs, by simpa using Ne.symm hjs⟩);rw [List.length_range] at a1;omega
theorem range_two (m : Nat) : ((List.range (m + 2)).filter fun i => i != m && i != m + 1) = List.range m := by
 rw [List.range_succ, List.range_succ, List.filter_append, List.filter_append];have h1 : (List.range m).filter (fun i => i != m && i != m + 1) = List.range m := List.filter_eq_self.2 fun z hz => by
  have := List.mem_range.1 hz;simp; omega
 rw [h1];simp
end Go.Proofs.YtmobnmjjmafibaaGreat
namespace Go.Proofs.YtmobnmjjmafibaaGreat
open Go.RowKit
attribute [local go_sem] rOper rAt rUpon cell_set sg_i64 sg_u64
theorem zDy (h1 l1 h2 l2 : Int) (k : Ok h1 l1) (q : Ok h2 l2) (w : World) :
    Calls Tryz.prog 138 #[.agg #[.int .i64 h1, .int .u64 l1], .agg #[.int .i64 h2, .int .u64 l2]] w fun e w' =>
     e = .returned (.agg #[.int .i64 (mH (V h1 l1 + V h2 l2)), .int .u64 (mL (V h1 l1 + V h2 l2))]) ∧ Below w.heap.size w w' := by
 obtain ⟨e1, e2⟩ := m_sum k q;obtain ⟨c1, c2⟩ := lo_lt k.l0 k.l1 q.l0 q.l1;have e3 : lo l1 l2 = IntKind.u64.wrap (l1 + l2) := by rw [IntKind.wrap_u64]; rfl
 rw [e1, e2, e3];rw [e3] at c1 c2;clear e1 e2 e3
 go_enter Tryz.func138, Tryz.ntmps138
 go_wp2;all_goals go_returns
 ·rename_i h
  exact ⟨by rw [c1 h], by go_grown⟩
 ·rename_i h
  exact ⟨by rw [c2 h, Int.add_zero], by go_grown⟩
theorem zKe (h l : Int) (k : Ok h l) (w : World) :
    Calls Tryz.prog 139 #[.agg #[.int .i64 h, .int .u64 l]] w fun e w' =>
     e = .returned (.agg #[.int .i64 (mH (-V h l)), .int .u64 (mL (-V h l))]) ∧ Below w.heap.size w w' := by
 have x1 := xor_i64 h k.h0 k.h1;have x2 := xor_u64 l k.l0 k.l1;have c := zDy (-1 - h) (18446744073709551615 - l) 0 1 ⟨by have := k.h0; have := k.h1; omega, by have := k.h0; have := k.h1; omega, by have := k.l0; have := k.l1; omega, by have := k.l0; have := k.l1; omega⟩ ⟨by omega, by omega, by omega, by omega⟩;rw [show V (-1 - h) (18446744073709551615 - l) + V 0 1 = -V h l by unfold V; omega] at c
 go_enter Tryz.func139, Tryz.ntmps139
 go_wp2_with fail;refine (c _).mono ?_;rintro e w1 ⟨rfl, hb⟩;simp only [World.size_alloc] at hb;obtain ⟨hc, hf, hz, hy, hv⟩ := bcell hb (by simp only [World.size_alloc]);go_wp2;refine bodyPost_ret (by simp [results, Tryz.results139, go_sem, hc]; try rfl) rfl ⟨rfl, ?_⟩;exact ((((Below.refl _ _).alloc (Nat.le_refl _) _).alloc (by simp) _).trans (hb.mono (by omega))).setCell (by simp) _ |>.setCell (by simp) _
end Go.Proofs.YtmobnmjjmafibaaGreat
namespace Go.Proofs.YtmobnmjjmafibaaGreat
open Go.RowKit
attribute [local go_sem] rOper rAt rUpon cell_set sg_i64 sg_u64 alloc_cell alloc_frozen
theorem sgn_mk {n m : Int} (h : m = -1 ∧ n < 0 ∨ m = 0 ∧ n = 0 ∨ m = 1 ∧ 0 < n) : m = sgn n := by
 unfold sgn; split
 ·omega
 ·split <;> omega
theorem r_sign (h l : Int) (k : Ok h l) (w : World) :
    Calls Tryz.prog 179 #[.agg #[.int .i64 h, .int .u64 l]] w fun e w' => e = .returned (.int .i64 (sgn (V h l))) ∧ Below w.heap.size w w' := by
 have K := Lib.hid k;clear k
 go_enter Tryz.func179, Tryz.ntmps179
 go_wp2;all_goals go_ret
 all_goals refine ⟨zAq (sgn_mk ?_), by go_grown⟩
 all_goals obtain ⟨a1, a2, a3, a4⟩ := K.out
 all_goals unfold V
 ·rename_i a; omega
 ·rename_i a b c; simp at c; omega
 ·rename_i a b c; simp at c; omega
 ·omega
theorem r_cmp (h1 l1 h2 l2 : Int) (k : Ok h1 l1) (q : Ok h2 l2) (w : World) :
    Calls Tryz.prog 106 #[.agg #[.int .i64 h1, .int .u64 l1], .agg #[.int .i64 h2, .int .u64 l2]] w fun e w' => e = .returned (.int .i64 (sgn (V h1 l1 - V h2 l2))) ∧ Below w.heap.size w w' := by
 have K := Lib.hid k;have Q := Lib.hid q;clear k q
 go_enter Tryz.func106, Tryz.ntmps106
 go_wp2;all_goals go_ret
 all_goals refine ⟨zAq (sgn_mk ?_), by go_grown⟩
 all_goals obtain ⟨a1, a2, a3, a4⟩ := K.out
 all_goals obtain ⟨b1, b2, b3, b4⟩ := Q.out
 all_goals unfold V
 all_goals omega
theorem mm_two {a b c n : Int} (h : a + b + c = n) : mH (V (mH (a + b)) (mL (a + b)) + c) = mH n ∧ mL (V (mH (a + b)) (mL (a + b)) + c) = mL n := by
 obtain ⟨k, hk⟩ := V_m (a + b);exact m_cong k (by omega)
theorem mm_neg {a b c n : Int} (h : a + b + c = n) : mH (-V (mH (V (mH (a + b)) (mL (a + b)) + c)) (mL (V (mH (a + b)) (mL (a + b)) + c))) = mH (-n) ∧ mL (-V (mH (V (mH (a + b)) (mL (a + b)) + c)) (mL (V (mH (a + b)) (mL (a + b)) + c))) = mL (-n) := by
 obtain ⟨k, hk⟩ := V_m (a + b);obtain ⟨j, hj⟩ := V_m (V (mH (a + b)) (mL (a + b)) + c);exact m_cong (-j - k) (by omega)
theorem r_mul (a b : Int) (a0 : -9223372036854775808 ≤ a) (a1 : a ≤ 9223372036854775807) (b0 : -9223372036854775808 ≤ b) (b1 : b ≤ 9223372036854775807) (w : World) :
    Calls Tryz.prog 107 #[.int .i64 a, .int .i64 b] w fun e w' =>
     e = .returned (.agg #[.int .i64 (cH (a * b)), .int .u64 (cL (a * b))]) ∧ Below w.heap.size w w' := by
 obtain ⟨m1, m2⟩ := m_c (zJz a b a0 a1 b0 b1);rcases Int.lt_or_le a 0 with ha | ha <;> rcases Int.lt_or_le b 0 with hb | hb
 ·rw [← m1, ← m2];obtain ⟨X, hX⟩ : ∃ X, IntKind.u64.wrap (-IntKind.u64.wrap a) = X := ⟨_, rfl⟩;have eX : X = -a := by rw [← hX, IntKind.wrap_u64, IntKind.wrap_u64]; omega
  obtain ⟨Y, hY⟩ : ∃ Y, IntKind.u64.wrap (-IntKind.u64.wrap b) = Y := ⟨_, rfl⟩;have eY : Y = -b := by rw [← hY, IntKind.wrap_u64, IntKind.wrap_u64]; omega
  have x0 : 0 ≤ X := by omega
  have x1 : X ≤ 9223372036854775808 := by omega
  have y0 : 0 ≤ Y := by omega
  have y1 : Y ≤ 9223372036854775808 := by omega
  have hx : bits .and .u64 X 4294967295 = X % 4294967296 := and_low32 X x0 (by omega);have hy : bits .and .u64 Y 4294967295 = Y % 4294967296 := and_low32 Y y0 (by omega);have HH := Lib.hid (halves X Y x0 x1 y0 y1);have HE : X * Y = a * b := by rw [eX, eY]; exact Int.neg_mul_neg a b
  have HE' := Lib.hid HE; clear HE;have EX := Lib.hid eX; have EY := Lib.hid eY; clear eX eY m1 m2
  go_enter Tryz.func107, Tryz.ntmps107
  go_wp2_with fail;refine zA1 fun W hW => ?_;have B0 : Box W w.heap.size [.int .i64 0, .int .u64 0] 132 := by rw [hW]; exact (Box.new rfl).old _
  obtain ⟨d0, d1, B1⟩ : ∃ d0 d1, Box W (w.heap.size + 1) [d0, d1] 132 := ⟨_, _, by rw [hW]; exact Box.new (by simp)⟩;have hw : Below w.heap.size w W := by rw [hW]; go_grown
  clear hW;refine (zDy _ _ _ _ (ok_w _ _) (ok_w _ _) _).mono ?_;rintro e w1 ⟨rfl, hb1⟩;replace B0 := B0.ee hb1;replace B1 := B1.ee hb1;replace hw := upB hw hb1;obtain ⟨x0', y0', z0', v0'⟩ := B0.f;obtain ⟨x1', y1', z1', v1'⟩ := B1.f;clear hb1;go_wp2_with fail;refine zA1 fun W2 hW => ?_;replace B0 : Box W2 w.heap.size [.int .i64 0, .int .u64 0] 132 := by rw [hW]; exact (B0.set_ne _ _ (by simp)).set_ne _ _ (by simp)
  obtain ⟨d2, d3, B1⟩ : ∃ d0 d1, Box W2 (w.heap.size + 1) [d0, d1] 132 := ⟨_, _, by rw [hW]; exact (B1.set 0 _).set 1 _⟩;replace hw : Below w.heap.size w W2 := by have hl := hw.size; rw [hW]; go_grown
  clear hW x0' y0' z0' v0' x1' y1' z1' v1';refine (zDy _ _ _ _ (ok_m _) (ok_w _ _) _).mono ?_;rintro e w2 ⟨rfl, hb1⟩;replace B0 := B0.ee hb1;replace B1 := B1.ee hb1;replace hw := upB hw hb1;obtain ⟨x0', y0', z0', v0'⟩ := B0.f;obtain ⟨x1', y1', z1', v1'⟩ := B1.f;clear hb1;go_wp2_with fail;have hl := hw.size;refine bodyPost_ret (by simp [results, Tryz.results107, go_sem, x0']; try rfl) rfl ⟨?_, by go_grown⟩;obtain ⟨q1, q2⟩ := mm_two HH.out;rw [q1, q2, HE'.out]
 ·rw [← m1, ← m2];obtain ⟨X, hX⟩ : ∃ X, IntKind.u64.wrap (-IntKind.u64.wrap a) = X := ⟨_, rfl⟩;have eX : X = -a := by rw [← hX, IntKind.wrap_u64, IntKind.wrap_u64]; omega
  obtain ⟨Y, eY⟩ : ∃ Y, Y = b := ⟨_, rfl⟩;rw [← eY];rw [← eY] at hb b0 b1;have db : decide (Y < 0) = false := decide_eq_false (by omega);have x0 : 0 ≤ X := by omega
  have x1 : X ≤ 9223372036854775808 := by omega
  have y0 : 0 ≤ Y := by omega
  have y1 : Y ≤ 9223372036854775808 := by omega
  have hx : bits .and .u64 X 4294967295 = X % 4294967296 := and_low32 X x0 (by omega);have hy : bits .and .u64 Y 4294967295 = Y % 4294967296 := and_low32 Y y0 (by omega);have HH := Lib.hid (halves X Y x0 x1 y0 y1);have HE : -(X * Y) = a * Y := by rw [eX, Int.neg_mul, Int.neg_neg]
  have HE' := Lib.hid HE; clear HE;have EX := Lib.hid eX; have EY := Lib.hid eY; clear eX eY m1 m2
  go_enter Tryz.func107, Tryz.ntmps107
  go_wp2_with fail;refine zA1 fun W hW => ?_;have B0 : Box W w.heap.size [.int .i64 0, .int .u64 0] 132 := by rw [hW]; exact (Box.new rfl).old _
  obtain ⟨d0, d1, B1⟩ : ∃ d0 d1, Box W (w.heap.size + 1) [d0, d1] 132 := ⟨_, _, by rw [hW]; exact Box.new (by simp)⟩;have hw : Below w.heap.size w W := by rw [hW]; go_grown
  clear hW;refine (zDy _ _ _ _ (ok_w _ _) (ok_w _ _) _).mono ?_;rintro e w1 ⟨rfl, hb1⟩;replace B0 := B0.ee hb1;replace B1 := B1.ee hb1;replace hw := upB hw hb1;obtain ⟨x0', y0', z0', v0'⟩ := B0.f;obtain ⟨x1', y1', z1', v1'⟩ := B1.f;clear hb1;go_wp2_with fail;refine zA1 fun W2 hW => ?_;replace B0 : Box W2 w.heap.size [.int .i64 0, .int .u64 0] 132 := by rw [hW]; exact (B0.set_ne _ _ (by simp)).set_ne _ _ (by simp)
  obtain ⟨d2, d3, B1⟩ : ∃ d0 d1, Box W2 (w.heap.size + 1) [d0, d1] 132 := ⟨_, _, by rw [hW]; exact (B1.set 0 _).set 1 _⟩;replace hw : Below w.heap.size w W2 := by have hl := hw.size; rw [hW]; go_grown
  clear hW x0' y0' z0' v0' x1' y1' z1' v1';refine (zDy _ _ _ _ (ok_m _) (ok_w _ _) _).mono ?_;rintro e w2 ⟨rfl, hb1⟩;replace B0 := B0.ee hb1;replace B1 := B1.ee hb1;replace hw := upB hw hb1;obtain ⟨x0', y0', z0', v0'⟩ := B0.f;obtain ⟨x1', y1', z1', v1'⟩ := B1.f;clear hb1;go_wp2_with fail;refine zA1 fun W3 hW => ?_;replace B0 : Box W3 w.heap.size [.int .i64 0, .int .u64 0] 132 := by rw [hW]; exact (B0.set_ne _ _ (by simp)).set_ne _ _ (by simp)
  replace hw : Below w.heap.size w W3 := by have hl := hw.size; rw [hW]; go_grown
  clear hW x0' y0' z0' v0' x1' y1' z1' v1';refine (zKe _ _ (ok_m _) _).mono ?_;rintro e w3 ⟨rfl, hb1⟩;replace B0 := B0.ee hb1;replace hw := upB hw hb1;obtain ⟨x0', y0', z0', v0'⟩ := B0.f;clear hb1;go_wp2;have hl := hw.size;refine bodyPost_ret (by simp [results, Tryz.results107, go_sem, x0']; try rfl) rfl ⟨?_, by go_grown⟩;obtain ⟨q1, q2⟩ := mm_neg HH.out;rw [q1, q2, HE'.out]
 ·rw [← m1, ← m2];obtain ⟨X, eX⟩ : ∃ X, X = a := ⟨_, rfl⟩;rw [← eX];rw [← eX] at ha a0 a1;have da : decide (X < 0) = false := decide_eq_false (by omega);obtain ⟨Y, hY⟩ : ∃ Y, IntKind.u64.wrap (-IntKind.u64.wrap b) = Y := ⟨_, rfl⟩;have eY : Y = -b := by rw [← hY, IntKind.wrap_u64, IntKind.wrap_u64]; omega
  have x0 : 0 ≤ X := by omega
  have x1 : X ≤ 9223372036854775808 := by omega
  have y0 : 0 ≤ Y := by omega
  have y1 : Y ≤ 9223372036854775808 := by omega
  have hx : bits .and .u64 X 4294967295 = X % 4294967296 := and_low32 X x0 (by omega);have hy : bits .and .u64 Y 4294967295 = Y % 4294967296 := and_low32 Y y0 (by omega);have HH := Lib.hid (halves X Y x0 x1 y0 y1);have HE : -(X * Y) = X * b := by rw [eY, Int.mul_neg, Int.neg_neg]
  have HE' := Lib.hid HE; clear HE;have EX := Lib.hid eX; have EY := Lib.hid eY; clear eX eY m1 m2
  go_enter Tryz.func107, Tryz.ntmps107
  go_wp2_with fail;refine zA1 fun W hW => ?_;have B0 : Box W w.heap.size [.int .i64 0, .int .u64 0] 132 := by rw [hW]; exact (Box.new rfl).old _
  obtain ⟨d0, d1, B1⟩ : ∃ d0 d1, Box W (w.heap.size + 1) [d0, d1] 132 := ⟨_, _, by rw [hW]; exact Box.new (by simp)⟩;have hw : Below w.heap.size w W := by rw [hW]; go_grown
  clear hW;refine (zDy _ _ _ _ (ok_w _ _) (ok_w _ _) _).mono ?_;rintro e w1 ⟨rfl, hb1⟩;replace B0 := B0.ee hb1;replace B1 := B1.ee hb1;replace hw := upB hw hb1;obtain ⟨x0', y0', z0', v0'⟩ := B0.f;obtain ⟨x1', y1', z1', v1'⟩ := B1.f;clear hb1;go_wp2_with fail;refine zA1 fun W2 hW => ?_;replace B0 : Box W2 w.heap.size [.int .i64 0, .int .u64 0] 132 := by rw [hW]; exact (B0.set_ne _ _ (by simp)).set_ne _ _ (by simp)
  obtain ⟨d2, d3, B1⟩ : ∃ d0 d1, Box W2 (w.heap.size + 1) [d0, d1] 132 := ⟨_, _, by rw [hW]; exact (B1.set 0 _).set 1 _⟩;replace hw : Below w.heap.size w W2 := by have hl := hw.size; rw [hW]; go_grown
  clear hW x0' y0' z0' v0' x1' y1' z1' v1';refine (zDy _ _ _ _ (ok_m _) (ok_w _ _) _).mono ?_;rintro e w2 ⟨rfl, hb1⟩;replace B0 := B0.ee hb1;replace B1 := B1.ee hb1;replace hw := upB hw hb1;obtain ⟨x0', y0', z0', v0'⟩ := B0.f;obtain ⟨x1', y1', z1', v1'⟩ := B1.f;clear hb1;go_wp2_with fail;refine zA1 fun W3 hW => ?_;replace B0 : Box W3 w.heap.size [.int .i64 0, .int .u64 0] 132 := by rw [hW]; exact (B0.set_ne _ _ (by simp)).set_ne _ _ (by simp)
  replace hw : Below w.heap.size w W3 := by have hl := hw.size; rw [hW]; go_grown
  clear hW x0' y0' z0' v0' x1' y1' z1' v1';refine (zKe _ _ (ok_m _) _).mono ?_;rintro e w3 ⟨rfl, hb1⟩;replace B0 := B0.ee hb1;replace hw := upB hw hb1;obtain ⟨x0', y0', z0', v0'⟩ := B0.f;clear hb1;go_wp2;have hl := hw.size;refine bodyPost_ret (by simp [results, Tryz.results107, go_sem, x0']; try rfl) rfl ⟨?_, by go_grown⟩;obtain ⟨q1, q2⟩ := mm_neg HH.out;rw [q1, q2, HE'.out]
 ·rw [← m1, ← m2];obtain ⟨X, eX⟩ : ∃ X, X = a := ⟨_, rfl⟩;rw [← eX];rw [← eX] at ha a0 a1;have da : decide (X < 0) = false := decide_eq_false (by omega);obtain ⟨Y, eY⟩ : ∃ Y, Y = b := ⟨_, rfl⟩;rw [← eY];rw [← eY] at hb b0 b1;have db : decide (Y < 0) = false := decide_eq_false (by omega);have x0 : 0 ≤ X := by omega
  have x1 : X ≤ 9223372036854775808 := by omega
  have y0 : 0 ≤ Y := by omega
  have y1 : Y ≤ 9223372036854775808 := by omega
  have hx : bits .and .u64 X 4294967295 = X % 4294967296 := and_low32 X x0 (by omega);have hy : bits .and .u64 Y 4294967295 = Y % 4294967296 := and_low32 Y y0 (by omega);have HH := Lib.hid (halves X Y x0 x1 y0 y1);have HE : X * Y = X * Y := rfl;have HE' := Lib.hid HE; clear HE;have EX := Lib.hid eX; have EY := Lib.hid eY; clear eX eY m1 m2
  go_enter Tryz.func107, Tryz.ntmps107
  go_wp2_with fail;refine zA1 fun W hW => ?_;have B0 : Box W w.heap.size [.int .i64 0, .int .u64 0] 132 := by rw [hW]; exact (Box.new rfl).old _
  obtain ⟨d0, d1, B1⟩ : ∃ d0 d1, Box W (w.heap.size + 1) [d0, d1] 132 := ⟨_, _, by rw [hW]; exact Box.new (by simp)⟩;have hw : Below w.heap.size w W := by rw [hW]; go_grown
  clear hW;refine (zDy _ _ _ _ (ok_w _ _) (ok_w _ _) _).mono ?_;rintro e w1 ⟨rfl, hb1⟩;replace B0 := B0.ee hb1;replace B1 := B1.ee hb1;replace hw := upB hw hb1;obtain ⟨x0', y0', z0', v0'⟩ := B0.f;obtain ⟨x1', y1', z1', v1'⟩ := B1.f;clear hb1;go_wp2_with fail;refine zA1 fun W2 hW => ?_;replace B0 : Box W2 w.heap.size [.int .i64 0, .int .u64 0] 132 := by rw [hW]; exact (B0.set_ne _ _ (by simp)).set_ne _ _ (by simp)
  obtain ⟨d2, d3, B1⟩ : ∃ d0 d1, Box W2 (w.heap.size + 1) [d0, d1] 132 := ⟨_, _, by rw [hW]; exact (B1.set 0 _).set 1 _⟩;replace hw : Below w.heap.size w W2 := by have hl := hw.size; rw [hW]; go_grown
  clear hW x0' y0' z0' v0' x1' y1' z1' v1';refine (zDy _ _ _ _ (ok_m _) (ok_w _ _) _).mono ?_;rintro e w2 ⟨rfl, hb1⟩;replace B0 := B0.ee hb1;replace B1 := B1.ee hb1;replace hw := upB hw hb1;obtain ⟨x0', y0', z0', v0'⟩ := B0.f;obtain ⟨x1', y1', z1', v1'⟩ := B1.f;clear hb1;go_wp2_with fail;have hl := hw.size;refine bodyPost_ret (by simp [results, Tryz.results107, go_sem, x0']; try rfl) rfl ⟨?_, by go_grown⟩;obtain ⟨q1, q2⟩ := mm_two HH.out;rw [q1, q2]
end Go.Proofs.YtmobnmjjmafibaaGreat
namespace Go.Proofs.YtmobnmjjmafibaaGreat
open Go.RowKit Go.Sort
attribute [local go_sem] rOper rAt rUpon cell_set sg_i64 sg_u64 alloc_cell alloc_frozen
attribute [local go_sem 10000] pt_eql pt_neq
attribute [local irreducible] rWalk
def lft (a b c d : Pt) : Int := ht (way d a) * cr (way d b) (way d c) + ht (way d b) * cr (way d c) (way d a) + ht (way d c) * cr (way d a) (way d b)
theorem zFt {p q : Int} (hp : 0 ≤ p ∧ p ≤ 562949886312450) (hq : -562949886312450 ≤ q ∧ q ≤ 562949886312450) : -316912574500061154317695502500 ≤ p * q ∧ p * q ≤ 316912574500061154317695502500 := by
 have h1 : p.natAbs ≤ 562949886312450 := by omega
 have h2 : q.natAbs ≤ 562949886312450 := by omega
 have h3 := Nat.mul_le_mul h1 h2;rw [← Int.natAbs_mul] at h3;generalize p * q = r at *
 omega
def lsr (p m : Pt) : Pt := if cmpP p m < 0 then p else m
def min4 (a b c d : Pt) : Pt := lsr d (lsr c (lsr b a))
def tie (a b c d m : Pt) (o : Int) : Int := if peqI m.x m.y d.x d.y = true then o else if peqI m.x m.y a.x a.y = true then -ori d b c else if peqI m.x m.y b.x b.y = true then -ori a d c else -ori a b d
def circ (a b c d : Pt) : Int :=
 if ori a b c = 0 then 0 else if vld d = false then 0 else if peqI d.x d.y a.x a.y = true then 0 else if peqI d.x d.y b.x b.y = true then 0 else if peqI d.x d.y c.x c.y = true then 0
 else if ¬ sgn (lft a b c d) = 0 then sgn (lft a b c d) else tie a b c d (min4 a b c d) (ori a b c)
theorem sgn_bd (n : Int) : -1 ≤ sgn n ∧ sgn n ≤ 1 := by unfold sgn; split <;> (try split) <;> omega
theorem zB4 (a b c : Pt) : -1 ≤ ori a b c ∧ ori a b c ≤ 1 := by unfold ori; split; exact sgn_bd _; omega
theorem zCq {a b c : Pt} (h : ¬ ori a b c = 0) : vld a = true ∧ vld b = true ∧ vld c = true := by
 unfold ori at h; split at h; assumption; exact absurd rfl h
theorem zEr {a b : Int} (ha : -1 ≤ a ∧ a ≤ 1) (hb : -1 ≤ b ∧ b ≤ 1) : -1 ≤ a * b ∧ a * b ≤ 1 := by
 have h1 : a = -1 ∨ a = 0 ∨ a = 1 := by omega
 rcases h1 with rfl | rfl | rfl <;> omega
def lo2 (p q : Pt) : Pt := if cmpP q p < 0 then q else p
def hi2 (p q : Pt) : Pt := if cmpP q p < 0 then p else q
def mil (a b c d : Pt) : Int := if cmpP (lo2 a b) (hi2 c d) < 0 then (if cmpP (lo2 c d) (hi2 a b) < 0 then 3 else 0) else 0
theorem mil_000 (a b c d : Pt) (g1 : decide (cmpP b a < 0) = false) (g2 : decide (cmpP d c < 0) = false) (g3 : decide (cmpP a d < 0) = false) (w : World) :
    Calls Tryz.prog 119 #[.agg #[.int .i64 a.x, .int .i64 a.y], .agg #[.int .i64 b.x, .int .i64 b.y], .agg #[.int .i64 c.x, .int .i64 c.y], .agg #[.int .i64 d.x, .int .i64 d.y]] w fun e w' => e = .returned (.int .i64 0) ∧ Below w.heap.size w w' := by
 have k1 := zAs b a;have k2 := zAs d c;have k3 := zAs a d;generalize cmpP b a = x0 at *
 generalize cmpP d c = x1 at *
 generalize cmpP a d = x2 at *
 go_enter Tryz.func119, Tryz.ntmps119
 go_wp2_with fail;refine zA1 fun W1 hW => ?_;obtain ⟨Ba, Bb, Bc, Bd, hw⟩ := N4 hW;clear hW;refine (k1 _).mono ?_;rintro e w2 ⟨rfl, hb⟩;obtain ⟨Ba, Bb, Bc, Bd, hw, F_abcd⟩ := X4 Ba Bb Bc Bd hw hb;clear hb;go_wp2_with fail;refine (k2 _).mono ?_;rintro e w3 ⟨rfl, hb⟩;clear F_abcd;obtain ⟨Ba, Bb, Bc, Bd, hw, F_abcd⟩ := X4 Ba Bb Bc Bd hw hb;clear hb;go_wp2_with fail;refine (k3 _).mono ?_;rintro e w4 ⟨rfl, hb⟩;clear F_abcd;obtain ⟨Ba, Bb, Bc, Bd, hw, -⟩ := X4 Ba Bb Bc Bd hw hb;clear hb;go_wp2
 go_ret
 exact ⟨rfl, hw⟩
theorem mil_001 (a b c d : Pt) (g1 : decide (cmpP b a < 0) = false) (g2 : decide (cmpP d c < 0) = false) (g3 : decide (cmpP a d < 0) = true) (g4 : decide (cmpP c b < 0) = false) (w : World) :
    Calls Tryz.prog 119 #[.agg #[.int .i64 a.x, .int .i64 a.y], .agg #[.int .i64 b.x, .int .i64 b.y], .agg #[.int .i64 c.x, .int .i64 c.y], .agg #[.int .i64 d.x, .int .i64 d.y]] w fun e w' => e = .returned (.int .i64 0) ∧ Below w.heap.size w w' := by
 have k1 := zAs b a;have k2 := zAs d c;have k3 := zAs a d;have k4 := zAs c b;generalize cmpP b a = x0 at *
 generalize cmpP d c = x1 at *
 generalize cmpP a d = x2 at *
 generalize cmpP c b = x3 at *
 go_enter Tryz.func119, Tryz.ntmps119
 go_wp2_with fail;refine zA1 fun W1 hW => ?_;obtain ⟨Ba, Bb, Bc, Bd, hw⟩ := N4 hW;clear hW;refine (k1 _).mono ?_;rintro e w2 ⟨rfl, hb⟩;obtain ⟨Ba, Bb, Bc, Bd, hw, F_abcd⟩ := X4 Ba Bb Bc Bd hw hb;clear hb;go_wp2_with fail;refine (k2 _).mono ?_;rintro e w3 ⟨rfl, hb⟩;clear F_abcd;obtain ⟨Ba, Bb, Bc, Bd, hw, F_abcd⟩ := X4 Ba Bb Bc Bd hw hb;clear hb;go_wp2_with fail;refine (k3 _).mono ?_;rintro e w4 ⟨rfl, hb⟩;clear F_abcd;obtain ⟨Ba, Bb, Bc, Bd, hw, F_abcd⟩ := X4 Ba Bb Bc Bd hw hb;clear hb;go_wp2_with fail;refine (k4 _).mono ?_;rintro e w5 ⟨rfl, hb⟩;clear F_abcd;obtain ⟨Ba, Bb, Bc, Bd, hw, -⟩ := X4 Ba Bb Bc Bd hw hb;clear hb;go_wp2
 go_ret
 exact ⟨rfl, hw⟩
theorem mil_002 (a b c d : Pt) (g1 : decide (cmpP b a < 0) = false) (g2 : decide (cmpP d c < 0) = false) (g3 : decide (cmpP a d < 0) = true) (g4 : decide (cmpP c b < 0) = true) (w : World) :
    Calls Tryz.prog 119 #[.agg #[.int .i64 a.x, .int .i64 a.y], .agg #[.int .i64 b.x, .int .i64 b.y], .agg #[.int .i64 c.x, .int .i64 c.y], .agg #[.int .i64 d.x, .int .i64 d.y]] w fun e w' => e = .returned (.int .i64 3) ∧ Below w.heap.size w w' := by
 have k1 := zAs b a;have k2 := zAs d c;have k3 := zAs a d;have k4 := zAs c b;generalize cmpP b a = x0 at *
 generalize cmpP d c = x1 at *
 generalize cmpP a d = x2 at *
 generalize cmpP c b = x3 at *
 go_enter Tryz.func119, Tryz.ntmps119
 go_wp2_with fail;refine zA1 fun W1 hW => ?_;obtain ⟨Ba, Bb, Bc, Bd, hw⟩ := N4 hW;clear hW;refine (k1 _).mono ?_;rintro e w2 ⟨rfl, hb⟩;obtain ⟨Ba, Bb, Bc, Bd, hw, F_abcd⟩ := X4 Ba Bb Bc Bd hw hb;clear hb;go_wp2_with fail;refine (k2 _).mono ?_;rintro e w3 ⟨rfl, hb⟩;clear F_abcd;obtain ⟨Ba, Bb, Bc, Bd, hw, F_abcd⟩ := X4 Ba Bb Bc Bd hw hb;clear hb;go_wp2_with fail;refine (k3 _).mono ?_;rintro e w4 ⟨rfl, hb⟩;clear F_abcd;obtain ⟨Ba, Bb, Bc, Bd, hw, F_abcd⟩ := X4 Ba Bb Bc Bd hw hb;clear hb;go_wp2_with fail;refine (k4 _).mono ?_;rintro e w5 ⟨rfl, hb⟩;clear F_abcd;obtain ⟨Ba, Bb, Bc, Bd, hw, -⟩ := X4 Ba Bb Bc Bd hw hb;clear hb;go_wp2
 go_ret
 exact ⟨rfl, hw⟩
theorem mil_010 (a b c d : Pt) (g1 : decide (cmpP b a < 0) = false) (g2 : decide (cmpP d c < 0) = true) (g3 : decide (cmpP a c < 0) = false) (w : World) :
    Calls Tryz.prog 119 #[.agg #[.int .i64 a.x, .int .i64 a.y], .agg #[.int .i64 b.x, .int .i64 b.y], .agg #[.int .i64 c.x, .int .i64 c.y], .agg #[.int .i64 d.x, .int .i64 d.y]] w fun e w' => e = .returned (.int .i64 0) ∧ Below w.heap.size w w' := by
 have k1 := zAs b a;have k2 := zAs d c;have k3 := zAs a c;generalize cmpP b a = x0 at *
 generalize cmpP d c = x1 at *
 generalize cmpP a c = x2 at *
 go_enter Tryz.func119, Tryz.ntmps119
 go_wp2_with fail;refine zA1 fun W1 hW => ?_;obtain ⟨Ba, Bb, Bc, Bd, hw⟩ := N4 hW;clear hW;refine (k1 _).mono ?_;rintro e w2 ⟨rfl, hb⟩;obtain ⟨Ba, Bb, Bc, Bd, hw, F_abcd⟩ := X4 Ba Bb Bc Bd hw hb;clear hb;go_wp2_with fail;refine (k2 _).mono ?_;rintro e w3 ⟨rfl, hb⟩;clear F_abcd;obtain ⟨Ba, Bb, Bc, Bd, hw, F_abcd⟩ := X4 Ba Bb Bc Bd hw hb;clear hb;go_wp2_with fail;refine zA1 fun W4 hW => ?_;have Ca : Box W4 (w.heap.size) [.int .i64 a.x, .int .i64 a.y] 30 := by rw [hW]; exact ((((Ba.set_ne ⟨w.heap.size + 1 + 1, 0, none⟩ (.int .i64 d.x) (by show (w.heap.size + 1 + 1 : Nat) ≠ _; omega)).set_ne ⟨w.heap.size + 1 + 1, 1, none⟩ (.int .i64 d.y) (by show (w.heap.size + 1 + 1 : Nat) ≠ _; omega)).set_ne ⟨w.heap.size + 1 + 1 + 1, 0, none⟩ (.int .i64 c.x) (by show (w.heap.size + 1 + 1 + 1 : Nat) ≠ _; omega)).set_ne ⟨w.heap.size + 1 + 1 + 1, 1, none⟩ (.int .i64 c.y) (by show (w.heap.size + 1 + 1 + 1 : Nat) ≠ _; omega))
 have Cb : Box W4 (w.heap.size + 1) [.int .i64 b.x, .int .i64 b.y] 30 := by rw [hW]; exact ((((Bb.set_ne ⟨w.heap.size + 1 + 1, 0, none⟩ (.int .i64 d.x) (by show (w.heap.size + 1 + 1 : Nat) ≠ _; omega)).set_ne ⟨w.heap.size + 1 + 1, 1, none⟩ (.int .i64 d.y) (by show (w.heap.size + 1 + 1 : Nat) ≠ _; omega)).set_ne ⟨w.heap.size + 1 + 1 + 1, 0, none⟩ (.int .i64 c.x) (by show (w.heap.size + 1 + 1 + 1 : Nat) ≠ _; omega)).set_ne ⟨w.heap.size + 1 + 1 + 1, 1, none⟩ (.int .i64 c.y) (by show (w.heap.size + 1 + 1 + 1 : Nat) ≠ _; omega))
 have Cc : Box W4 (w.heap.size + 1 + 1) [.int .i64 d.x, .int .i64 d.y] 30 := by rw [hW]; exact ((((Bc.set 0 (.int .i64 d.x)).set 1 (.int .i64 d.y)).set_ne ⟨w.heap.size + 1 + 1 + 1, 0, none⟩ (.int .i64 c.x) (by show (w.heap.size + 1 + 1 + 1 : Nat) ≠ _; omega)).set_ne ⟨w.heap.size + 1 + 1 + 1, 1, none⟩ (.int .i64 c.y) (by show (w.heap.size + 1 + 1 + 1 : Nat) ≠ _; omega))
 have Cd : Box W4 (w.heap.size + 1 + 1 + 1) [.int .i64 c.x, .int .i64 c.y] 30 := by rw [hW]; exact ((((Bd.set_ne ⟨w.heap.size + 1 + 1, 0, none⟩ (.int .i64 d.x) (by show (w.heap.size + 1 + 1 : Nat) ≠ _; omega)).set_ne ⟨w.heap.size + 1 + 1, 1, none⟩ (.int .i64 d.y) (by show (w.heap.size + 1 + 1 : Nat) ≠ _; omega)).set 0 (.int .i64 c.x)).set 1 (.int .i64 c.y))
 replace hw : Below w.heap.size w W4 := by have hl := hw.size; rw [hW]; go_grown
 clear F_abcd;clear hW Ba Bb Bc Bd;have Ba := Ca;have Bb := Cb;have Bc := Cc;have Bd := Cd;clear Ca Cb Cc Cd;refine (k3 _).mono ?_;rintro e w5 ⟨rfl, hb⟩;obtain ⟨Ba, Bb, Bc, Bd, hw, -⟩ := X4 Ba Bb Bc Bd hw hb;clear hb;go_wp2
 go_ret
 exact ⟨rfl, hw⟩
theorem mil_011 (a b c d : Pt) (g1 : decide (cmpP b a < 0) = false) (g2 : decide (cmpP d c < 0) = true) (g3 : decide (cmpP a c < 0) = true) (g4 : decide (cmpP d b < 0) = false) (w : World) :
    Calls Tryz.prog 119 #[.agg #[.int .i64 a.x, .int .i64 a.y], .agg #[.int .i64 b.x, .int .i64 b.y], .agg #[.int .i64 c.x, .int .i64 c.y], .agg #[.int .i64 d.x, .int .i64 d.y]] w fun e w' => e = .returned (.int .i64 0) ∧ Below w.heap.size w w' := by
 have k1 := zAs b a;have k2 := zAs d c;have k3 := zAs a c;have k4 := zAs d b;generalize cmpP b a = x0 at *
 generalize cmpP d c = x1 at *
 generalize cmpP a c = x2 at *
 generalize cmpP d b = x3 at *
 go_enter Tryz.func119, Tryz.ntmps119
 go_wp2_with fail;refine zA1 fun W1 hW => ?_;obtain ⟨Ba, Bb, Bc, Bd, hw⟩ := N4 hW;clear hW;refine (k1 _).mono ?_;rintro e w2 ⟨rfl, hb⟩;obtain ⟨Ba, Bb, Bc, Bd, hw, F_abcd⟩ := X4 Ba Bb Bc Bd hw hb;clear hb;go_wp2_with fail;refine (k2 _).mono ?_;rintro e w3 ⟨rfl, hb⟩;clear F_abcd;obtain ⟨Ba, Bb, Bc, Bd, hw, F_abcd⟩ := X4 Ba Bb Bc Bd hw hb;clear hb;go_wp2_with fail;refine zA1 fun W4 hW => ?_;have Ca : Box W4 (w.heap.size) [.int .i64 a.x, .int .i64 a.y] 30 := by rw [hW]; exact ((((Ba.set_ne ⟨w.heap.size + 1 + 1, 0, none⟩ (.int .i64 d.x) (by show (w.heap.size + 1 + 1 : Nat) ≠ _; omega)).set_ne ⟨w.heap.size + 1 + 1, 1, none⟩ (.int .i64 d.y) (by show (w.heap.size + 1 + 1 : Nat) ≠ _; omega)).set_ne ⟨w.heap.size + 1 + 1 + 1, 0, none⟩ (.int .i64 c.x) (by show (w.heap.size + 1 + 1 + 1 : Nat) ≠ _; omega)).set_ne ⟨w.heap.size + 1 + 1 + 1, 1, none⟩ (.int .i64 c.y) (by show (w.heap.size + 1 + 1 + 1 : Nat) ≠ _; omega))
 have Cb : Box W4 (w.heap.size + 1) [.int .i64 b.x, .int .i64 b.y] 30 := by rw [hW]; exact ((((Bb.set_ne ⟨w.heap.size + 1 + 1, 0, none⟩ (.int .i64 d.x) (by show (w.heap.size + 1 + 1 : Nat) ≠ _; omega)).set_ne ⟨w.heap.size + 1 + 1, 1, none⟩ (.int .i64 d.y) (by show (w.heap.size + 1 + 1 : Nat) ≠ _; omega)).set_ne ⟨w.heap.size + 1 + 1 + 1, 0, none⟩ (.int .i64 c.x) (by show (w.heap.size + 1 + 1 + 1 : Nat) ≠ _; omega)).set_ne ⟨w.heap.size + 1 + 1 + 1, 1, none⟩ (.int .i64 c.y) (by show (w.heap.size + 1 + 1 + 1 : Nat) ≠ _; omega))
 have Cc : Box W4 (w.heap.size + 1 + 1) [.int .i64 d.x, .int .i64 d.y] 30 := by rw [hW]; exact ((((Bc.set 0 (.int .i64 d.x)).set 1 (.int .i64 d.y)).set_ne ⟨w.heap.size + 1 + 1 + 1, 0, none⟩ (.int .i64 c.x) (by show (w.heap.size + 1 + 1 + 1 : Nat) ≠ _; omega)).set_ne ⟨w.heap.size + 1 + 1 + 1, 1, none⟩ (.int .i64 c.y) (by show (w.heap.size + 1 + 1 + 1 : Nat) ≠ _; omega))
 have Cd : Box W4 (w.heap.size + 1 + 1 + 1) [.int .i64 c.x, .int .i64 c.y] 30 := by rw [hW]; exact ((((Bd.set_ne ⟨w.heap.size + 1 + 1, 0, none⟩ (.int .i64 d.x) (by show (w.heap.size + 1 + 1 : Nat) ≠ _; omega)).set_ne ⟨w.heap.size + 1 + 1, 1, none⟩ (.int .i64 d.y) (by show (w.heap.size + 1 + 1 : Nat) ≠ _; omega)).set 0 (.int .i64 c.x)).set 1 (.int .i64 c.y))
 replace hw : Below w.heap.size w W4 := by have hl := hw.size; rw [hW]; go_grown
 clear F_abcd;clear hW Ba Bb Bc Bd;have Ba := Ca;have Bb := Cb;have Bc := Cc;have Bd := Cd;clear Ca Cb Cc Cd;refine (k3 _).mono ?_;rintro e w5 ⟨rfl, hb⟩;obtain ⟨Ba, Bb, Bc, Bd, hw, F_abcd⟩ := X4 Ba Bb Bc Bd hw hb;clear hb;go_wp2_with fail;refine (k4 _).mono ?_;rintro e w6 ⟨rfl, hb⟩;clear F_abcd;obtain ⟨Ba, Bb, Bc, Bd, hw, -⟩ := X4 Ba Bb Bc Bd hw hb;clear hb;go_wp2
 go_ret
 exact ⟨rfl, hw⟩
theorem mil_012 (a b c d : Pt) (g1 : decide (cmpP b a < 0) = false) (g2 : decide (cmpP d c < 0) = true) (g3 : decide (cmpP a c < 0) = true) (g4 : decide (cmpP d b < 0) = true) (w : World) :
    Calls Tryz.prog 119 #[.agg #[.int .i64 a.x, .int .i64 a.y], .agg #[.int .i64 b.x, .int .i64 b.y], .agg #[.int .i64 c.x, .int .i64 c.y], .agg #[.int .i64 d.x, .int .i64 d.y]] w fun e w' => e = .returned (.int .i64 3) ∧ Below w.heap.size w w' := by
 have k1 := zAs b a;have k2 := zAs d c;have k3 := zAs a c;have k4 := zAs d b;generalize cmpP b a = x0 at *
 generalize cmpP d c = x1 at *
 generalize cmpP a c = x2 at *
 generalize cmpP d b = x3 at *
 go_enter Tryz.func119, Tryz.ntmps119
 go_wp2_with fail;refine zA1 fun W1 hW => ?_;obtain ⟨Ba, Bb, Bc, Bd, hw⟩ := N4 hW;clear hW;refine (k1 _).mono ?_;rintro e w2 ⟨rfl, hb⟩;obtain ⟨Ba, Bb, Bc, Bd, hw, F_abcd⟩ := X4 Ba Bb Bc Bd hw hb;clear hb;go_wp2_with fail;refine (k2 _).mono ?_;rintro e w3 ⟨rfl, hb⟩;clear F_abcd;obtain ⟨Ba, Bb, Bc, Bd, hw, F_abcd⟩ := X4 Ba Bb Bc Bd hw hb;clear hb;go_wp2_with fail;refine zA1 fun W4 hW => ?_;have Ca : Box W4 (w.heap.size) [.int .i64 a.x, .int .i64 a.y] 30 := by rw [hW]; exact ((((Ba.set_ne ⟨w.heap.size + 1 + 1, 0, none⟩ (.int .i64 d.x) (by show (w.heap.size + 1 + 1 : Nat) ≠ _; omega)).set_ne ⟨w.heap.size + 1 + 1, 1, none⟩ (.int .i64 d.y) (by show (w.heap.size + 1 + 1 : Nat) ≠ _; omega)).set_ne ⟨w.heap.size + 1 + 1 + 1, 0, none⟩ (.int .i64 c.x) (by show (w.heap.size + 1 + 1 + 1 : Nat) ≠ _; omega)).set_ne ⟨w.heap.size + 1 + 1 + 1, 1, none⟩ (.int .i64 c.y) (by show (w.heap.size + 1 + 1 + 1 : Nat) ≠ _; omega))
 have Cb : Box W4 (w.heap.size + 1) [.int .i64 b.x, .int .i64 b.y] 30 := by rw [hW]; exact ((((Bb.set_ne ⟨w.heap.size + 1 + 1, 0, none⟩ (.int .i64 d.x) (by show (w.heap.size + 1 + 1 : Nat) ≠ _; omega)).set_ne ⟨w.heap.size + 1 + 1, 1, none⟩ (.int .i64 d.y) (by show (w.heap.size + 1 + 1 : Nat) ≠ _; omega)).set_ne ⟨w.heap.size + 1 + 1 + 1, 0, none⟩ (.int .i64 c.x) (by show (w.heap.size + 1 + 1 + 1 : Nat) ≠ _; omega)).set_ne ⟨w.heap.size + 1 + 1 + 1, 1, none⟩ (.int .i64 c.y) (by show (w.heap.size + 1 + 1 + 1 : Nat) ≠ _; omega))
 have Cc : Box W4 (w.heap.size + 1 + 1) [.int .i64 d.x, .int .i64 d.y] 30 := by rw [hW]; exact ((((Bc.set 0 (.int .i64 d.x)).set 1 (.int .i64 d.y)).set_ne ⟨w.heap.size + 1 + 1 + 1, 0, none⟩ (.int .i64 c.x) (by show (w.heap.size + 1 + 1 + 1 : Nat) ≠ _; omega)).set_ne ⟨w.heap.size + 1 + 1 + 1, 1, none⟩ (.int .i64 c.y) (by show (w.heap.size + 1 + 1 + 1 : Nat) ≠ _; omega))
 have Cd : Box W4 (w.heap.size + 1 + 1 + 1) [.int .i64 c.x, .int .i64 c.y] 30 := by rw [hW]; exact ((((Bd.set_ne ⟨w.heap.size + 1 + 1, 0, none⟩ (.int .i64 d.x) (by show (w.heap.size + 1 + 1 : Nat) ≠ _; omega)).set_ne ⟨w.heap.size + 1 + 1, 1, none⟩ (.int .i64 d.y) (by show (w.heap.size + 1 + 1 : Nat) ≠ _; omega)).set 0 (.int .i64 c.x)).set 1 (.int .i64 c.y))
 replace hw : Below w.heap.size w W4 := by have hl := hw.size; rw [hW]; go_grown
 clear F_abcd;clear hW Ba Bb Bc Bd;have Ba := Ca;have Bb := Cb;have Bc := Cc;have Bd := Cd;clear Ca Cb Cc Cd;refine (k3 _).mono ?_;rintro e w5 ⟨rfl, hb⟩;obtain ⟨Ba, Bb, Bc, Bd, hw, F_abcd⟩ := X4 Ba Bb Bc Bd hw hb;clear hb;go_wp2_with fail;refine (k4 _).mono ?_;rintro e w6 ⟨rfl, hb⟩;clear F_abcd;obtain ⟨Ba, Bb, Bc, Bd, hw, -⟩ := X4 Ba Bb Bc Bd hw hb;clear hb;go_wp2
 go_ret
 exact ⟨rfl, hw⟩
theorem mil_100 (a b c d : Pt) (g1 : decide (cmpP b a < 0) = true) (g2 : decide (cmpP d c < 0) = false) (g3 : decide (cmpP b d < 0) = false) (w : World) :
    Calls Tryz.prog 119 #[.agg #[.int .i64 a.x, .int .i64 a.y], .agg #[.int .i64 b.x, .int .i64 b.y], .agg #[.int .i64 c.x, .int .i64 c.y], .agg #[.int .i64 d.x, .int .i64 d.y]] w fun e w' => e = .returned (.int .i64 0) ∧ Below w.heap.size w w' := by
 have k1 := zAs b a;have k2 := zAs d c;have k3 := zAs b d;generalize cmpP b a = x0 at *
 generalize cmpP d c = x1 at *
 generalize cmpP b d = x2 at *
 go_enter Tryz.func119, Tryz.ntmps119
 go_wp2_with fail;refine zA1 fun W1 hW => ?_;obtain ⟨Ba, Bb, Bc, Bd, hw⟩ := N4 hW;clear hW;refine (k1 _).mono ?_;rintro e w2 ⟨rfl, hb⟩;obtain ⟨Ba, Bb, Bc, Bd, hw, F_abcd⟩ := X4 Ba Bb Bc Bd hw hb;clear hb;go_wp2_with fail;refine zA1 fun W3 hW => ?_;have Ca : Box W3 (w.heap.size) [.int .i64 b.x, .int .i64 b.y] 30 := by rw [hW]; exact ((((Ba.set 0 (.int .i64 b.x)).set 1 (.int .i64 b.y)).set_ne ⟨w.heap.size + 1, 0, none⟩ (.int .i64 a.x) (by show (w.heap.size + 1 : Nat) ≠ _; omega)).set_ne ⟨w.heap.size + 1, 1, none⟩ (.int .i64 a.y) (by show (w.heap.size + 1 : Nat) ≠ _; omega))
 have Cb : Box W3 (w.heap.size + 1) [.int .i64 a.x, .int .i64 a.y] 30 := by rw [hW]; exact ((((Bb.set_ne ⟨w.heap.size, 0, none⟩ (.int .i64 b.x) (by show (w.heap.size : Nat) ≠ _; omega)).set_ne ⟨w.heap.size, 1, none⟩ (.int .i64 b.y) (by show (w.heap.size : Nat) ≠ _; omega)).set 0 (.int .i64 a.x)).set 1 (.int .i64 a.y))
 have Cc : Box W3 (w.heap.size + 1 + 1) [.int .i64 c.x, .int .i64 c.y] 30 := by rw [hW]; exact ((((Bc.set_ne ⟨w.heap.size, 0, none⟩ (.int .i64 b.x) (by show (w.heap.size : Nat) ≠ _; omega)).set_ne ⟨w.heap.size, 1, none⟩ (.int .i64 b.y) (by show (w.heap.size : Nat) ≠ _; omega)).set_ne ⟨w.heap.size + 1, 0, none⟩ (.int .i64 a.x) (by show (w.heap.size + 1 : Nat) ≠ _; omega)).set_ne ⟨w.heap.size + 1, 1, none⟩ (.int .i64 a.y) (by show (w.heap.size + 1 : Nat) ≠ _; omega))
 have Cd : Box W3 (w.heap.size + 1 + 1 + 1) [.int .i64 d.x, .int .i64 d.y] 30 := by rw [hW]; exact ((((Bd.set_ne ⟨w.heap.size, 0, none⟩ (.int .i64 b.x) (by show (w.heap.size : Nat) ≠ _; omega)).set_ne ⟨w.heap.size, 1, none⟩ (.int .i64 b.y) (by show (w.heap.size : Nat) ≠ _; omega)).set_ne ⟨w.heap.size + 1, 0, none⟩ (.int .i64 a.x) (by show (w.heap.size + 1 : Nat) ≠ _; omega)).set_ne ⟨w.heap.size + 1, 1, none⟩ (.int .i64 a.y) (by show (w.heap.size + 1 : Nat) ≠ _; omega))
 replace hw : Below w.heap.size w W3 := by have hl := hw.size; rw [hW]; go_grown
 clear F_abcd;clear hW Ba Bb Bc Bd;have Ba := Ca;have Bb := Cb;have Bc := Cc;have Bd := Cd;clear Ca Cb Cc Cd;refine (k2 _).mono ?_;rintro e w4 ⟨rfl, hb⟩;obtain ⟨Ba, Bb, Bc, Bd, hw, F_abcd⟩ := X4 Ba Bb Bc Bd hw hb;clear hb;go_wp2_with fail;refine (k3 _).mono ?_;rintro e w5 ⟨rfl, hb⟩;clear F_abcd;obtain ⟨Ba, Bb, Bc, Bd, hw, -⟩ := X4 Ba Bb Bc Bd hw hb;clear hb;go_wp2
 go_ret
 exact ⟨rfl, hw⟩
theorem mil_101 (a b c d : Pt) (g1 : decide (cmpP b a < 0) = true) (g2 : decide (cmpP d c < 0) = false) (g3 : decide (cmpP b d < 0) = true) (g4 : decide (cmpP c a < 0) = false) (w : World) :
    Calls Tryz.prog 119 #[.agg #[.int .i64 a.x, .int .i64 a.y], .agg #[.int .i64 b.x, .int .i64 b.y], .agg #[.int .i64 c.x, .int .i64 c.y], .agg #[.int .i64 d.x, .int .i64 d.y]] w fun e w' => e = .returned (.int .i64 0) ∧ Below w.heap.size w w' := by
 have k1 := zAs b a;have k2 := zAs d c;have k3 := zAs b d;have k4 := zAs c a;generalize cmpP b a = x0 at *
 generalize cmpP d c = x1 at *
 generalize cmpP b d = x2 at *
 generalize cmpP c a = x3 at *
 go_enter Tryz.func119, Tryz.ntmps119
 go_wp2_with fail;refine zA1 fun W1 hW => ?_;obtain ⟨Ba, Bb, Bc, Bd, hw⟩ := N4 hW;clear hW;refine (k1 _).mono ?_;rintro e w2 ⟨rfl, hb⟩;obtain ⟨Ba, Bb, Bc, Bd, hw, F_abcd⟩ := X4 Ba Bb Bc Bd hw hb;clear hb;go_wp2_with fail;refine zA1 fun W3 hW => ?_;have Ca : Box W3 (w.heap.size) [.int .i64 b.x, .int .i64 b.y] 30 := by rw [hW]; exact ((((Ba.set 0 (.int .i64 b.x)).set 1 (.int .i64 b.y)).set_ne ⟨w.heap.size + 1, 0, none⟩ (.int .i64 a.x) (by show (w.heap.size + 1 : Nat) ≠ _; omega)).set_ne ⟨w.heap.size + 1, 1, none⟩ (.int .i64 a.y) (by show (w.heap.size + 1 : Nat) ≠ _; omega))
 have Cb : Box W3 (w.heap.size + 1) [.int .i64 a.x, .int .i64 a.y] 30 := by rw [hW]; exact ((((Bb.set_ne ⟨w.heap.size, 0, none⟩ (.int .i64 b.x) (by show (w.heap.size : Nat) ≠ _; omega)).set_ne ⟨w.heap.size, 1, none⟩ (.int .i64 b.y) (by show (w.heap.size : Nat) ≠ _; omega)).set 0 (.int .i64 a.x)).set 1 (.int .i64 a.y))
 have Cc : Box W3 (w.heap.size + 1 + 1) [.int .i64 c.x, .int .i64 c.y] 30 := by rw [hW]; exact ((((Bc.set_ne ⟨w.heap.size, 0, none⟩ (.int .i64 b.x) (by show (w.heap.size : Nat) ≠ _; omega)).set_ne ⟨w.heap.size, 1, none⟩ (.int .i64 b.y) (by show (w.heap.size : Nat) ≠ _; omega)).set_ne ⟨w.heap.size + 1, 0, none⟩ (.int .i64 a.x) (by show (w.heap.size + 1 : Nat) ≠ _; omega)).set_ne ⟨w.heap.size + 1, 1, none⟩ (.int .i64 a.y) (by show (w.heap.size + 1 : Nat) ≠ _; omega))
 have Cd : Box W3 (w.heap.size + 1 + 1 + 1) [.int .i64 d.x, .int .i64 d.y] 30 := by rw [hW]; exact ((((Bd.set_ne ⟨w.heap.size, 0, none⟩ (.int .i64 b.x) (by show (w.heap.size : Nat) ≠ _; omega)).set_ne ⟨w.heap.size, 1, none⟩ (.int .i64 b.y) (by show (w.heap.size : Nat) ≠ _; omega)).set_ne ⟨w.heap.size + 1, 0, none⟩ (.int .i64 a.x) (by show (w.heap.size + 1 : Nat) ≠ _; omega)).set_ne ⟨w.heap.size + 1, 1, none⟩ (.int .i64 a.y) (by show (w.heap.size + 1 : Nat) ≠ _; omega))
 replace hw : Below w.heap.size w W3 := by have hl := hw.size; rw [hW]; go_grown
 clear F_abcd;clear hW Ba Bb Bc Bd;have Ba := Ca;have Bb := Cb;have Bc := Cc;have Bd := Cd;clear Ca Cb Cc Cd;refine (k2 _).mono ?_;rintro e w4 ⟨rfl, hb⟩;obtain ⟨Ba, Bb, Bc, Bd, hw, F_abcd⟩ := X4 Ba Bb Bc Bd hw hb;clear hb;go_wp2_with fail;refine (k3 _).mono ?_;rintro e w5 ⟨rfl, hb⟩;clear F_abcd;obtain ⟨Ba, Bb, Bc, Bd, hw, F_abcd⟩ := X4 Ba Bb Bc Bd hw hb;clear hb;go_wp2_with fail;refine (k4 _).mono ?_;rintro e w6 ⟨rfl, hb⟩;clear F_abcd;obtain ⟨Ba, Bb, Bc, Bd, hw, -⟩ := X4 Ba Bb Bc Bd hw hb;clear hb;go_wp2
 go_ret
 exact ⟨rfl, hw⟩
theorem mil_102 (a b c d : Pt) (g1 : decide (cmpP b a < 0) = true) (g2 : decide (cmpP d c < 0) = false) (g3 : decide (cmpP b d < 0) = true) (g4 : decide (cmpP c a < 0) = true) (w : World) :
    Calls Tryz.prog 119 #[.agg #[.int .i64 a.x, .int .i64 a.y], .agg #[.int .i64 b.x, .int .i64 b.y], .agg #[.int .i64 c.x, .int .i64 c.y], .agg #[.int .i64 d.x, .int .i64 d.y]] w fun e w' => e = .returned (.int .i64 3) ∧ Below w.heap.size w w' := by
 have k1 := zAs b a;have k2 := zAs d c;have k3 := zAs b d;have k4 := zAs c a;generalize cmpP b a = x0 at *
 generalize cmpP d c = x1 at *
 generalize cmpP b d = x2 at *
 generalize cmpP c a = x3 at *
 go_enter Tryz.func119, Tryz.ntmps119
 go_wp2_with fail;refine zA1 fun W1 hW => ?_;obtain ⟨Ba, Bb, Bc, Bd, hw⟩ := N4 hW;clear hW;refine (k1 _).mono ?_;rintro e w2 ⟨rfl, hb⟩;obtain ⟨Ba, Bb, Bc, Bd, hw, F_abcd⟩ := X4 Ba Bb Bc Bd hw hb;clear hb;go_wp2_with fail;refine zA1 fun W3 hW => ?_;have Ca : Box W3 (w.heap.size) [.int .i64 b.x, .int .i64 b.y] 30 := by rw [hW]; exact ((((Ba.set 0 (.int .i64 b.x)).set 1 (.int .i64 b.y)).set_ne ⟨w.heap.size + 1, 0, none⟩ (.int .i64 a.x) (by show (w.heap.size + 1 : Nat) ≠ _; omega)).set_ne ⟨w.heap.size + 1, 1, none⟩ (.int .i64 a.y) (by show (w.heap.size + 1 : Nat) ≠ _; omega))
 have Cb : Box W3 (w.heap.size + 1) [.int .i64 a.x, .int .i64 a.y] 30 := by rw [hW]; exact ((((Bb.set_ne ⟨w.heap.size, 0, none⟩ (.int .i64 b.x) (by show (w.heap.size : Nat) ≠ _; omega)).set_ne ⟨w.heap.size, 1, none⟩ (.int .i64 b.y) (by show (w.heap.size : Nat) ≠ _; omega)).set 0 (.int .i64 a.x)).set 1 (.int .i64 a.y))
 have Cc : Box W3 (w.heap.size + 1 + 1) [.int .i64 c.x, .int .i64 c.y] 30 := by rw [hW]; exact ((((Bc.set_ne ⟨w.heap.size, 0, none⟩ (.int .i64 b.x) (by show (w.heap.size : Nat) ≠ _; omega)).set_ne ⟨w.heap.size, 1, none⟩ (.int .i64 b.y) (by show (w.heap.size : Nat) ≠ _; omega)).set_ne ⟨w.heap.size + 1, 0, none⟩ (.int .i64 a.x) (by show (w.heap.size + 1 : Nat) ≠ _; omega)).set_ne ⟨w.heap.size + 1, 1, none⟩ (.int .i64 a.y) (by show (w.heap.size + 1 : Nat) ≠ _; omega))
 have Cd : Box W3 (w.heap.size + 1 + 1 + 1) [.int .i64 d.x, .int .i64 d.y] 30 := by rw [hW]; exact ((((Bd.set_ne ⟨w.heap.size, 0, none⟩ (.int .i64 b.x) (by show (w.heap.size : Nat) ≠ _; omega)).set_ne ⟨w.heap.size, 1, none⟩ (.int .i64 b.y) (by show (w.heap.size : Nat) ≠ _; omega)).set_ne ⟨w.heap.size + 1, 0, none⟩ (.int .i64 a.x) (by show (w.heap.size + 1 : Nat) ≠ _; omega)).set_ne ⟨w.heap.size + 1, 1, none⟩ (.int .i64 a.y) (by show (w.heap.size + 1 : Nat) ≠ _; omega))
 replace hw : Below w.heap.size w W3 := by have hl := hw.size; rw [hW]; go_grown
 clear F_abcd;clear hW Ba Bb Bc Bd;have Ba := Ca;have Bb := Cb;have Bc := Cc;have Bd := Cd;clear Ca Cb Cc Cd;refine (k2 _).mono ?_;rintro e w4 ⟨rfl, hb⟩;obtain ⟨Ba, Bb, Bc, Bd, hw, F_abcd⟩ := X4 Ba Bb Bc Bd hw hb;clear hb;go_wp2_with fail;refine (k3 _).mono ?_;rintro e w5 ⟨rfl, hb⟩;clear F_abcd;obtain ⟨Ba, Bb, Bc, Bd, hw, F_abcd⟩ := X4 Ba Bb Bc Bd hw hb;clear hb;go_wp2_with fail;refine (k4 _).mono ?_;rintro e w6 ⟨rfl, hb⟩;clear F_abcd;obtain ⟨Ba, Bb, Bc, Bd, hw, -⟩ := X4 Ba Bb Bc Bd hw hb;clear hb;go_wp2
 go_ret
 exact ⟨rfl, hw⟩
theorem mil_110 (a b c d : Pt) (g1 : decide (cmpP b a < 0) = true) (g2 : decide (cmpP d c < 0) = true) (g3 : decide (cmpP b c < 0) = false) (w : World) :
    Calls Tryz.prog 119 #[.agg #[.int .i64 a.x, .int .i64 a.y], .agg #[.int .i64 b.x, .int .i64 b.y], .agg #[.int .i64 c.x, .int .i64 c.y], .agg #[.int .i64 d.x, .int .i64 d.y]] w fun e w' => e = .returned (.int .i64 0) ∧ Below w.heap.size w w' := by
 have k1 := zAs b a;have k2 := zAs d c;have k3 := zAs b c;generalize cmpP b a = x0 at *
 generalize cmpP d c = x1 at *
 generalize cmpP b c = x2 at *
 go_enter Tryz.func119, Tryz.ntmps119
 go_wp2_with fail;refine zA1 fun W1 hW => ?_;obtain ⟨Ba, Bb, Bc, Bd, hw⟩ := N4 hW;clear hW;refine (k1 _).mono ?_;rintro e w2 ⟨rfl, hb⟩;obtain ⟨Ba, Bb, Bc, Bd, hw, F_abcd⟩ := X4 Ba Bb Bc Bd hw hb;clear hb;go_wp2_with fail;refine zA1 fun W3 hW => ?_;have Ca : Box W3 (w.heap.size) [.int .i64 b.x, .int .i64 b.y] 30 := by rw [hW]; exact ((((Ba.set 0 (.int .i64 b.x)).set 1 (.int .i64 b.y)).set_ne ⟨w.heap.size + 1, 0, none⟩ (.int .i64 a.x) (by show (w.heap.size + 1 : Nat) ≠ _; omega)).set_ne ⟨w.heap.size + 1, 1, none⟩ (.int .i64 a.y) (by show (w.heap.size + 1 : Nat) ≠ _; omega))
 have Cb : Box W3 (w.heap.size + 1) [.int .i64 a.x, .int .i64 a.y] 30 := by rw [hW]; exact ((((Bb.set_ne ⟨w.heap.size, 0, none⟩ (.int .i64 b.x) (by show (w.heap.size : Nat) ≠ _; omega)).set_ne ⟨w.heap.size, 1, none⟩ (.int .i64 b.y) (by show (w.heap.size : Nat) ≠ _; omega)).set 0 (.int .i64 a.x)).set 1 (.int .i64 a.y))
 have Cc : Box W3 (w.heap.size + 1 + 1) [.int .i64 c.x, .int .i64 c.y] 30 := by rw [hW]; exact ((((Bc.set_ne ⟨w.heap.size, 0, none⟩ (.int .i64 b.x) (by show (w.heap.size : Nat) ≠ _; omega)).set_ne ⟨w.heap.size, 1, none⟩ (.int .i64 b.y) (by show (w.heap.size : Nat) ≠ _; omega)).set_ne ⟨w.heap.size + 1, 0, none⟩ (.int .i64 a.x) (by show (w.heap.size + 1 : Nat) ≠ _; omega)).set_ne ⟨w.heap.size + 1, 1, none⟩ (.int .i64 a.y) (by show (w.heap.size + 1 : Nat) ≠ _; omega))
 have Cd : Box W3 (w.heap.size + 1 + 1 + 1) [.int .i64 d.x, .int .i64 d.y] 30 := by rw [hW]; exact ((((Bd.set_ne ⟨w.heap.size, 0, none⟩ (.int .i64 b.x) (by show (w.heap.size : Nat) ≠ _; omega)).set_ne ⟨w.heap.size, 1, none⟩ (.int .i64 b.y) (by show (w.heap.size : Nat) ≠ _; omega)).set_ne ⟨w.heap.size + 1, 0, none⟩ (.int .i64 a.x) (by show (w.heap.size + 1 : Nat) ≠ _; omega)).set_ne ⟨w.heap.size + 1, 1, none⟩ (.int .i64 a.y) (by show (w.heap.size + 1 : Nat) ≠ _; omega))
 replace hw : Below w.heap.size w W3 := by have hl := hw.size; rw [hW]; go_grown
 clear F_abcd;clear hW Ba Bb Bc Bd;have Ba := Ca;have Bb := Cb;have Bc := Cc;have Bd := Cd;clear Ca Cb Cc Cd;refine (k2 _).mono ?_;rintro e w4 ⟨rfl, hb⟩;obtain ⟨Ba, Bb, Bc, Bd, hw, F_abcd⟩ := X4 Ba Bb Bc Bd hw hb;clear hb;go_wp2_with fail;refine zA1 fun W5 hW => ?_;have Ca : Box W5 (w.heap.size) [.int .i64 b.x, .int .i64 b.y] 30 := by rw [hW]; exact ((((Ba.set_ne ⟨w.heap.size + 1 + 1, 0, none⟩ (.int .i64 d.x) (by show (w.heap.size + 1 + 1 : Nat) ≠ _; omega)).set_ne ⟨w.heap.size + 1 + 1, 1, none⟩ (.int .i64 d.y) (by show (w.heap.size + 1 + 1 : Nat) ≠ _; omega)).set_ne ⟨w.heap.size + 1 + 1 + 1, 0, none⟩ (.int .i64 c.x) (by show (w.heap.size + 1 + 1 + 1 : Nat) ≠ _; omega)).set_ne ⟨w.heap.size + 1 + 1 + 1, 1, none⟩ (.int .i64 c.y) (by show (w.heap.size + 1 + 1 + 1 : Nat) ≠ _; omega))
 have Cb : Box W5 (w.heap.size + 1) [.int .i64 a.x, .int .i64 a.y] 30 := by rw [hW]; exact ((((Bb.set_ne ⟨w.heap.size + 1 + 1, 0, none⟩ (.int .i64 d.x) (by show (w.heap.size + 1 + 1 : Nat) ≠ _; omega)).set_ne ⟨w.heap.size + 1 + 1, 1, none⟩ (.int .i64 d.y) (by show (w.heap.size + 1 + 1 : Nat) ≠ _; omega)).set_ne ⟨w.heap.size + 1 + 1 + 1, 0, none⟩ (.int .i64 c.x) (by show (w.heap.size + 1 + 1 + 1 : Nat) ≠ _; omega)).set_ne ⟨w.heap.size + 1 + 1 + 1, 1, none⟩ (.int .i64 c.y) (by show (w.heap.size + 1 + 1 + 1 : Nat) ≠ _; omega))
 have Cc : Box W5 (w.heap.size + 1 + 1) [.int .i64 d.x, .int .i64 d.y] 30 := by rw [hW]; exact ((((Bc.set 0 (.int .i64 d.x)).set 1 (.int .i64 d.y)).set_ne ⟨w.heap.size + 1 + 1 + 1, 0, none⟩ (.int .i64 c.x) (by show (w.heap.size + 1 + 1 + 1 : Nat) ≠ _; omega)).set_ne ⟨w.heap.size + 1 + 1 + 1, 1, none⟩ (.int .i64 c.y) (by show (w.heap.size + 1 + 1 + 1 : Nat) ≠ _; omega))
 have Cd : Box W5 (w.heap.size + 1 + 1 + 1) [.int .i64 c.x, .int .i64 c.y] 30 := by rw [hW]; exact ((((Bd.set_ne ⟨w.heap.size + 1 + 1, 0, none⟩ (.int .i64 d.x) (by show (w.heap.size + 1 + 1 : Nat) ≠ _; omega)).set_ne ⟨w.heap.size + 1 + 1, 1, none⟩ (.int .i64 d.y) (by show (w.heap.size + 1 + 1 : Nat) ≠ _; omega)).set 0 (.int .i64 c.x)).set 1 (.int .i64 c.y))
 replace hw : Below w.heap.size w W5 := by have hl := hw.size; rw [hW]; go_grown
 clear F_abcd;clear hW Ba Bb Bc Bd;have Ba := Ca;have Bb := Cb;have Bc := Cc;have Bd := Cd;clear Ca Cb Cc Cd;refine (k3 _).mono ?_;rintro e w6 ⟨rfl, hb⟩;obtain ⟨Ba, Bb, Bc, Bd, hw, -⟩ := X4 Ba Bb Bc Bd hw hb;clear hb;go_wp2
 go_ret
 exact ⟨rfl, hw⟩
theorem mil_111 (a b c d : Pt) (g1 : decide (cmpP b a < 0) = true) (g2 : decide (cmpP d c < 0) = true) (g3 : decide (cmpP b c < 0) = true) (g4 : decide (cmpP d a < 0) = false) (w : World) :
    Calls Tryz.prog 119 #[.agg #[.int .i64 a.x, .int .i64 a.y], .agg #[.int .i64 b.x, .int .i64 b.y], .agg #[.int .i64 c.x, .int .i64 c.y], .agg #[.int .i64 d.x, .int .i64 d.y]] w fun e w' => e = .returned (.int .i64 0) ∧ Below w.heap.size w w' := by
 have k1 := zAs b a;have k2 := zAs d c;have k3 := zAs b c;have k4 := zAs d a;generalize cmpP b a = x0 at *
 generalize cmpP d c = x1 at *
 generalize cmpP b c = x2 at *
 generalize cmpP d a = x3 at *
 go_enter Tryz.func119, Tryz.ntmps119
 go_wp2_with fail;refine zA1 fun W1 hW => ?_;obtain ⟨Ba, Bb, Bc, Bd, hw⟩ := N4 hW;clear hW;refine (k1 _).mono ?_;rintro e w2 ⟨rfl, hb⟩;obtain ⟨Ba, Bb, Bc, Bd, hw, F_abcd⟩ := X4 Ba Bb Bc Bd hw hb;clear hb;go_wp2_with fail;refine zA1 fun W3 hW => ?_;have Ca : Box W3 (w.heap.size) [.int .i64 b.x, .int .i64 b.y] 30 := by rw [hW]; exact ((((Ba.set 0 (.int .i64 b.x)).set 1 (.int .i64 b.y)).set_ne ⟨w.heap.size + 1, 0, none⟩ (.int .i64 a.x) (by show (w.heap.size + 1 : Nat) ≠ _; omega)).set_ne ⟨w.heap.size + 1, 1, none⟩ (.int .i64 a.y) (by show (w.heap.size + 1 : Nat) ≠ _; omega))
 have Cb : Box W3 (w.heap.size + 1) [.int .i64 a.x, .int .i64 a.y] 30 := by rw [hW]; exact ((((Bb.set_ne ⟨w.heap.size, 0, none⟩ (.int .i64 b.x) (by show (w.heap.size : Nat) ≠ _; omega)).set_ne ⟨w.heap.size, 1, none⟩ (.int .i64 b.y) (by show (w.heap.size : Nat) ≠ _; omega)).set 0 (.int .i64 a.x)).set 1 (.int .i64 a.y))
 have Cc : Box W3 (w.heap.size + 1 + 1) [.int .i64 c.x, .int .i64 c.y] 30 := by rw [hW]; exact ((((Bc.set_ne ⟨w.heap.size, 0, none⟩ (.int .i64 b.x) (by show (w.heap.size : Nat) ≠ _; omega)).set_ne ⟨w.heap.size, 1, none⟩ (.int .i64 b.y) (by show (w.heap.size : Nat) ≠ _; omega)).set_ne ⟨w.heap.size + 1, 0, none⟩ (.int .i64 a.x) (by show (w.heap.size + 1 : Nat) ≠ _; omega)).set_ne ⟨w.heap.size + 1, 1, none⟩ (.int .i64 a.y) (by show (w.heap.size + 1 : Nat) ≠ _; omega))
 have Cd : Box W3 (w.heap.size + 1 + 1 + 1) [.int .i64 d.x, .int .i64 d.y] 30 := by rw [hW]; exact ((((Bd.set_ne ⟨w.heap.size, 0, none⟩ (.int .i64 b.x) (by show (w.heap.size : Nat) ≠ _; omega)).set_ne ⟨w.heap.size, 1, none⟩ (.int .i64 b.y) (by show (w.heap.size : Nat) ≠ _; omega)).set_ne ⟨w.heap.size + 1, 0, none⟩ (.int .i64 a.x) (by show (w.heap.size + 1 : Nat) ≠ _; omega)).set_ne ⟨w.heap.size + 1, 1, none⟩ (.int .i64 a.y) (by show (w.heap.size + 1 : Nat) ≠ _; omega))
 replace hw : Below w.heap.size w W3 := by have hl := hw.size; rw [hW]; go_grown
 clear F_abcd;clear hW Ba Bb Bc Bd;have Ba := Ca;have Bb := Cb;have Bc := Cc;have Bd := Cd;clear Ca Cb Cc Cd;refine (k2 _).mono ?_;rintro e w4 ⟨rfl, hb⟩;obtain ⟨Ba, Bb, Bc, Bd, hw, F_abcd⟩ := X4 Ba Bb Bc Bd hw hb;clear hb;go_wp2_with fail;refine zA1 fun W5 hW => ?_;have Ca : Box W5 (w.heap.size) [.int .i64 b.x, .int .i64 b.y] 30 := by rw [hW]; exact ((((Ba.set_ne ⟨w.heap.size + 1 + 1, 0, none⟩ (.int .i64 d.x) (by show (w.heap.size + 1 + 1 : Nat) ≠ _; omega)).set_ne ⟨w.heap.size + 1 + 1, 1, none⟩ (.int .i64 d.y) (by show (w.heap.size + 1 + 1 : Nat) ≠ _; omega)).set_ne ⟨w.heap.size + 1 + 1 + 1, 0, none⟩ (.int .i64 c.x) (by show (w.heap.size + 1 + 1 + 1 : Nat) ≠ _; omega)).set_ne ⟨w.heap.size + 1 + 1 + 1, 1, none⟩ (.int .i64 c.y) (by show (w.heap.size + 1 + 1 + 1 : Nat) ≠ _; omega))
 have Cb : Box W5 (w.heap.size + 1) [.int .i64 a.x, .int .i64 a.y] 30 := by rw [hW]; exact ((((Bb.set_ne ⟨w.heap.size + 1 + 1, 0, none⟩ (.int .i64 d.x) (by show (w.heap.size + 1 + 1 : Nat) ≠ _; omega)).set_ne ⟨w.heap.size + 1 + 1, 1, none⟩ (.int .i64 d.y) (by show (w.heap.size + 1 + 1 : Nat) ≠ _; omega)).set_ne ⟨w.heap.size + 1 + 1 + 1, 0, none⟩ (.int .i64 c.x) (by show (w.heap.size + 1 + 1 + 1 : Nat) ≠ _; omega)).set_ne ⟨w.heap.size + 1 + 1 + 1, 1, none⟩ (.int .i64 c.y) (by show (w.heap.size + 1 + 1 + 1 : Nat) ≠ _; omega))
 have Cc : Box W5 (w.heap.size + 1 + 1) [.int .i64 d.x, .int .i64 d.y] 30 := by rw [hW]; exact ((((Bc.set 0 (.int .i64 d.x)).set 1 (.int .i64 d.y)).set_ne ⟨w.heap.size + 1 + 1 + 1, 0, none⟩ (.int .i64 c.x) (by show (w.heap.size + 1 + 1 + 1 : Nat) ≠ _; omega)).set_ne ⟨w.heap.size + 1 + 1 + 1, 1, none⟩ (.int .i64 c.y) (by show (w.heap.size + 1 + 1 + 1 : Nat) ≠ _; omega))
 have Cd : Box W5 (w.heap.size + 1 + 1 + 1) [.int .i64 c.x, .int .i64 c.y] 30 := by rw [hW]; exact ((((Bd.set_ne ⟨w.heap.size + 1 + 1, 0, none⟩ (.int .i64 d.x) (by show (w.heap.size + 1 + 1 : Nat) ≠ _; omega)).set_ne ⟨w.heap.size + 1 + 1, 1, none⟩ (.int .i64 d.y) (by show (w.heap.size + 1 + 1 : Nat) ≠ _; omega)).set 0 (.int .i64 c.x)).set 1 (.int .i64 c.y))
 replace hw : Below w.heap.size w W5 := by have hl := hw.size; rw [hW]; go_grown
 clear F_abcd;clear hW Ba Bb Bc Bd;have Ba := Ca;have Bb := Cb;have Bc := Cc;have Bd := Cd;clear Ca Cb Cc Cd;refine (k3 _).mono ?_;rintro e w6 ⟨rfl, hb⟩;obtain ⟨Ba, Bb, Bc, Bd, hw, F_abcd⟩ := X4 Ba Bb Bc Bd hw hb;clear hb;go_wp2_with fail;refine (k4 _).mono ?_;rintro e w7 ⟨rfl, hb⟩;clear F_abcd;obtain ⟨Ba, Bb, Bc, Bd, hw, -⟩ := X4 Ba Bb Bc Bd hw hb;clear hb;go_wp2
 go_ret
 exact ⟨rfl, hw⟩
theorem mil_112 (a b c d : Pt) (g1 : decide (cmpP b a < 0) = true) (g2 : decide (cmpP d c < 0) = true) (g3 : decide (cmpP b c < 0) = true) (g4 : decide (cmpP d a < 0) = true) (w : World) :
    Calls Tryz.prog 119 #[.agg #[.int .i64 a.x, .int .i64 a.y], .agg #[.int .i64 b.x, .int .i64 b.y], .agg #[.int .i64 c.x, .int .i64 c.y], .agg #[.int .i64 d.x, .int .i64 d.y]] w fun e w' => e = .returned (.int .i64 3) ∧ Below w.heap.size w w' := by
 have k1 := zAs b a;have k2 := zAs d c;have k3 := zAs b c;have k4 := zAs d a;generalize cmpP b a = x0 at *
 generalize cmpP d c = x1 at *
 generalize cmpP b c = x2 at *
 generalize cmpP d a = x3 at *
 go_enter Tryz.func119, Tryz.ntmps119
 go_wp2_with fail;refine zA1 fun W1 hW => ?_;obtain ⟨Ba, Bb, Bc, Bd, hw⟩ := N4 hW;clear hW;refine (k1 _).mono ?_;rintro e w2 ⟨rfl, hb⟩;obtain ⟨Ba, Bb, Bc, Bd, hw, F_abcd⟩ := X4 Ba Bb Bc Bd hw hb;clear hb;go_wp2_with fail;refine zA1 fun W3 hW => ?_;have Ca : Box W3 (w.heap.size) [.int .i64 b.x, .int .i64 b.y] 30 := by rw [hW]; exact ((((Ba.set 0 (.int .i64 b.x)).set 1 (.int .i64 b.y)).set_ne ⟨w.heap.size + 1, 0, none⟩ (.int .i64 a.x) (by show (w.heap.size + 1 : Nat) ≠ _; omega)).set_ne ⟨w.heap.size + 1, 1, none⟩ (.int .i64 a.y) (by show (w.heap.size + 1 : Nat) ≠ _; omega))
 have Cb : Box W3 (w.heap.size + 1) [.int .i64 a.x, .int .i64 a.y] 30 := by rw [hW]; exact ((((Bb.set_ne ⟨w.heap.size, 0, none⟩ (.int .i64 b.x) (by show (w.heap.size : Nat) ≠ _; omega)).set_ne ⟨w.heap.size, 1, none⟩ (.int .i64 b.y) (by show (w.heap.size : Nat) ≠ _; omega)).set 0 (.int .i64 a.x)).set 1 (.int .i64 a.y))
 have Cc : Box W3 (w.heap.size + 1 + 1) [.int .i64 c.x, .int .i64 c.y] 30 := by rw [hW]; exact ((((Bc.set_ne ⟨w.heap.size, 0, none⟩ (.int .i64 b.x) (by show (w.heap.size : Nat) ≠ _; omega)).set_ne ⟨w.heap.size, 1, none⟩ (.int .i64 b.y) (by show (w.heap.size : Nat) ≠ _; omega)).set_ne ⟨w.heap.size + 1, 0, none⟩ (.int .i64 a.x) (by show (w.heap.size + 1 : Nat) ≠ _; omega)).set_ne ⟨w.heap.size + 1, 1, none⟩ (.int .i64 a.y) (by show (w.heap.size + 1 : Nat) ≠ _; omega))
 have Cd : Box W3 (w.heap.size + 1 + 1 + 1) [.int .i64 d.x, .int .i64 d.y] 30 := by rw [hW]; exact ((((Bd.set_ne ⟨w.heap.size, 0, none⟩ (.int .i64 b.x) (by show (w.heap.size : Nat) ≠ _; omega)).set_ne ⟨w.heap.size, 1, none⟩ (.int .i64 b.y) (by show (w.heap.size : Nat) ≠ _; omega)).set_ne ⟨w.heap.size + 1, 0, none⟩ (.int .i64 a.x) (by show (w.heap.size + 1 : Nat) ≠ _; omega)).set_ne ⟨w.heap.size + 1, 1, none⟩ (.int .i64 a.y) (by show (w.heap.size + 1 : Nat) ≠ _; omega))
 replace hw : Below w.heap.size w W3 := by have hl := hw.size; rw [hW]; go_grown
 clear F_abcd;clear hW Ba Bb Bc Bd;have Ba := Ca;have Bb := Cb;have Bc := Cc;have Bd := Cd;clear Ca Cb Cc Cd;refine (k2 _).mono ?_;rintro e w4 ⟨rfl, hb⟩;obtain ⟨Ba, Bb, Bc, Bd, hw, F_abcd⟩ := X4 Ba Bb Bc Bd hw hb;clear hb;go_wp2_with fail;refine zA1 fun W5 hW => ?_;have Ca : Box W5 (w.heap.size) [.int .i64 b.x, .int .i64 b.y] 30 := by rw [hW]; exact ((((Ba.set_ne ⟨w.heap.size + 1 + 1, 0, none⟩ (.int .i64 d.x) (by show (w.heap.size + 1 + 1 : Nat) ≠ _; omega)).set_ne ⟨w.heap.size + 1 + 1, 1, none⟩ (.int .i64 d.y) (by show (w.heap.size + 1 + 1 : Nat) ≠ _; omega)).set_ne ⟨w.heap.size + 1 + 1 + 1, 0, none⟩ (.int .i64 c.x) (by show (w.heap.size + 1 + 1 + 1 : Nat) ≠ _; omega)).set_ne ⟨w.heap.size + 1 + 1 + 1, 1, none⟩ (.int .i64 c.y) (by show (w.heap.size + 1 + 1 + 1 : Nat) ≠ _; omega))
 have Cb : Box W5 (w.heap.size + 1) [.int .i64 a.x, .int .i64 a.y] 30 := by rw [hW]; exact ((((Bb.set_ne ⟨w.heap.size + 1 + 1, 0, none⟩ (.int .i64 d.x) (by show (w.heap.size + 1 + 1 : Nat) ≠ _; omega)).set_ne ⟨w.heap.size + 1 + 1, 1, none⟩ (.int .i64 d.y) (by show (w.heap.size + 1 + 1 : Nat) ≠ _; omega)).set_ne ⟨w.heap.size + 1 + 1 + 1, 0, none⟩ (.int .i64 c.x) (by show (w.heap.size + 1 + 1 + 1 : Nat) ≠ _; omega)).set_ne ⟨w.heap.size + 1 + 1 + 1, 1, none⟩ (.int .i64 c.y) (by show (w.heap.size + 1 + 1 + 1 : Nat) ≠ _; omega))
 have Cc : Box W5 (w.heap.size + 1 + 1) [.int .i64 d.x, .int .i64 d.y] 30 := by rw [hW]; exact ((((Bc.set 0 (.int .i64 d.x)).set 1 (.int .i64 d.y)).set_ne ⟨w.heap.size + 1 + 1 + 1, 0, none⟩ (.int .i64 c.x) (by show (w.heap.size + 1 + 1 + 1 : Nat) ≠ _; omega)).set_ne ⟨w.heap.size + 1 + 1 + 1, 1, none⟩ (.int .i64 c.y) (by show (w.heap.size + 1 + 1 + 1 : Nat) ≠ _; omega))
 have Cd : Box W5 (w.heap.size + 1 + 1 + 1) [.int .i64 c.x, .int .i64 c.y] 30 := by rw [hW]; exact ((((Bd.set_ne ⟨w.heap.size + 1 + 1, 0, none⟩ (.int .i64 d.x) (by show (w.heap.size + 1 + 1 : Nat) ≠ _; omega)).set_ne ⟨w.heap.size + 1 + 1, 1, none⟩ (.int .i64 d.y) (by show (w.heap.size + 1 + 1 : Nat) ≠ _; omega)).set 0 (.int .i64 c.x)).set 1 (.int .i64 c.y))
 replace hw : Below w.heap.size w W5 := by have hl := hw.size; rw [hW]; go_grown
 clear F_abcd;clear hW Ba Bb Bc Bd;have Ba := Ca;have Bb := Cb;have Bc := Cc;have Bd := Cd;clear Ca Cb Cc Cd;refine (k3 _).mono ?_;rintro e w6 ⟨rfl, hb⟩;obtain ⟨Ba, Bb, Bc, Bd, hw, F_abcd⟩ := X4 Ba Bb Bc Bd hw hb;clear hb;go_wp2_with fail;refine (k4 _).mono ?_;rintro e w7 ⟨rfl, hb⟩;clear F_abcd;obtain ⟨Ba, Bb, Bc, Bd, hw, -⟩ := X4 Ba Bb Bc Bd hw hb;clear hb;go_wp2
 go_ret
 exact ⟨rfl, hw⟩
theorem mil_any (a b c d : Pt) (w : World) :
    Calls Tryz.prog 119 #[.agg #[.int .i64 a.x, .int .i64 a.y], .agg #[.int .i64 b.x, .int .i64 b.y], .agg #[.int .i64 c.x, .int .i64 c.y], .agg #[.int .i64 d.x, .int .i64 d.y]] w fun e w' => e = .returned (.int .i64 (mil a b c d)) ∧ Below w.heap.size w w' := by
 have dt : ∀ {x : Int}, x < 0 → decide (x < 0) = true := fun h => by simpa using h
 have df : ∀ {x : Int}, ¬ x < 0 → decide (x < 0) = false := fun h => by simpa using h
 unfold mil lo2 hi2;by_cases g1 : cmpP b a < 0
 ·by_cases g2 : cmpP d c < 0
  ·simp only [if_pos g1, if_pos g2];by_cases g3 : cmpP b c < 0
   ·by_cases g4 : cmpP d a < 0
    ·rw [if_pos g3, if_pos g4]; exact mil_112 a b c d (dt g1) (dt g2) (dt g3) (dt g4) w
    ·rw [if_pos g3, if_neg g4]; exact mil_111 a b c d (dt g1) (dt g2) (dt g3) (df g4) w
   ·rw [if_neg g3]; exact mil_110 a b c d (dt g1) (dt g2) (df g3) w
  ·simp only [if_pos g1, if_neg g2];by_cases g3 : cmpP b d < 0
   ·by_cases g4 : cmpP c a < 0
    ·rw [if_pos g3, if_pos g4]; exact mil_102 a b c d (dt g1) (df g2) (dt g3) (dt g4) w
    ·rw [if_pos g3, if_neg g4]; exact mil_101 a b c d (dt g1) (df g2) (dt g3) (df g4) w
   ·rw [if_neg g3]; exact mil_100 a b c d (dt g1) (df g2) (df g3) w
 ·by_cases g2 : cmpP d c < 0
  ·simp only [if_neg g1, if_pos g2];by_cases g3 : cmpP a c < 0
   ·by_cases g4 : cmpP d b < 0
    ·rw [if_pos g3, if_pos g4]; exact mil_012 a b c d (df g1) (dt g2) (dt g3) (dt g4) w
    ·rw [if_pos g3, if_neg g4]; exact mil_011 a b c d (df g1) (dt g2) (dt g3) (df g4) w
   ·rw [if_neg g3]; exact mil_010 a b c d (df g1) (dt g2) (df g3) w
  ·simp only [if_neg g1, if_neg g2];by_cases g3 : cmpP a d < 0
   ·by_cases g4 : cmpP c b < 0
    ·rw [if_pos g3, if_pos g4]; exact mil_002 a b c d (df g1) (df g2) (dt g3) (dt g4) w
    ·rw [if_pos g3, if_neg g4]; exact mil_001 a b c d (df g1) (df g2) (dt g3) (df g4) w
   ·rw [if_neg g3]; exact mil_000 a b c d (df g1) (df g2) (df g3) w
def fin (sA sB sC sD : Int) : Int := if sA = sB then 0 else if sC = sD then 0 else if sA = 0 then 2 else if sB = 0 then 2 else if sC = 0 then 2 else if sD = 0 then 2 else 1
def meetS (a b c d : Pt) : Int :=
 if vld a = false then 0 else if vld b = false then 0 else if vld c = false then 0 else if vld d = false then 0 else if peqI a.x a.y b.x b.y = true then 0 else if peqI c.x c.y d.x d.y = true then 0
 else if ori a b c = 0 ∧ ori a b d = 0 then mil a b c d
 else if peqI a.x a.y c.x c.y = true then 0 else if peqI a.x a.y d.x d.y = true then 0 else if peqI b.x b.y c.x c.y = true then 0 else if peqI b.x b.y d.x d.y = true then 0
 else fin (ori c d a) (ori c d b) (ori a b c) (ori a b d)
theorem meet_v0 (a b c d : Pt) (ha : vld a = false) (w : World) :
    Calls Tryz.prog 77 #[.agg #[.int .i64 a.x, .int .i64 a.y], .agg #[.int .i64 b.x, .int .i64 b.y], .agg #[.int .i64 c.x, .int .i64 c.y], .agg #[.int .i64 d.x, .int .i64 d.y]] w fun e w' => e = .returned (.int .i64 0) ∧ Below w.heap.size w w' := by
 have ca := zA6 a;rw [ha] at ca;clear ha
 go_enter Tryz.func77, Tryz.ntmps77
 go_wp2_with fail;refine zA1 fun W1 hW => ?_;obtain ⟨Ba, Bb, Bc, Bd, hw⟩ := N4 hW;clear hW;refine (ca _).mono ?_;rintro e w2 ⟨rfl, hb⟩;obtain ⟨Ba, Bb, Bc, Bd, hw, F_abcd⟩ := X4 Ba Bb Bc Bd hw hb;clear hb;go_wp2
 go_ret
 exact ⟨rfl, hw⟩
theorem meet_v1 (a b c d : Pt) (ha : vld a = true) (hb : vld b = false) (w : World) :
    Calls Tryz.prog 77 #[.agg #[.int .i64 a.x, .int .i64 a.y], .agg #[.int .i64 b.x, .int .i64 b.y], .agg #[.int .i64 c.x, .int .i64 c.y], .agg #[.int .i64 d.x, .int .i64 d.y]] w fun e w' => e = .returned (.int .i64 0) ∧ Below w.heap.size w w' := by
 have ca := zA6 a;rw [ha] at ca;clear ha;have cb := zA6 b;rw [hb] at cb;clear hb
 go_enter Tryz.func77, Tryz.ntmps77
 go_wp2_with fail;refine zA1 fun W1 hW => ?_;obtain ⟨Ba, Bb, Bc, Bd, hw⟩ := N4 hW;clear hW;refine (ca _).mono ?_;rintro e w2 ⟨rfl, hb⟩;obtain ⟨Ba, Bb, Bc, Bd, hw, F_abcd⟩ := X4 Ba Bb Bc Bd hw hb;clear hb;go_wp2_with fail;refine (cb _).mono ?_;rintro e w3 ⟨rfl, hb⟩;clear F_abcd;obtain ⟨Ba, Bb, Bc, Bd, hw, F_abcd⟩ := X4 Ba Bb Bc Bd hw hb;clear hb;go_wp2
 go_ret
 exact ⟨rfl, hw⟩
theorem meet_v2 (a b c d : Pt) (ha : vld a = true) (hb : vld b = true) (hc : vld c = false) (w : World) :
    Calls Tryz.prog 77 #[.agg #[.int .i64 a.x, .int .i64 a.y], .agg #[.int .i64 b.x, .int .i64 b.y], .agg #[.int .i64 c.x, .int .i64 c.y], .agg #[.int .i64 d.x, .int .i64 d.y]] w fun e w' => e = .returned (.int .i64 0) ∧ Below w.heap.size w w' := by
 have ca := zA6 a;rw [ha] at ca;clear ha;have cb := zA6 b;rw [hb] at cb;clear hb;have cc := zA6 c;rw [hc] at cc;clear hc
 go_enter Tryz.func77, Tryz.ntmps77
 go_wp2_with fail;refine zA1 fun W1 hW => ?_;obtain ⟨Ba, Bb, Bc, Bd, hw⟩ := N4 hW;clear hW;refine (ca _).mono ?_;rintro e w2 ⟨rfl, hb⟩;obtain ⟨Ba, Bb, Bc, Bd, hw, F_abcd⟩ := X4 Ba Bb Bc Bd hw hb;clear hb;go_wp2_with fail;refine (cb _).mono ?_;rintro e w3 ⟨rfl, hb⟩;clear F_abcd;obtain ⟨Ba, Bb, Bc, Bd, hw, F_abcd⟩ := X4 Ba Bb Bc Bd hw hb;clear hb;go_wp2_with fail;refine (cc _).mono ?_;rintro e w4 ⟨rfl, hb⟩;clear F_abcd;obtain ⟨Ba, Bb, Bc, Bd, hw, F_abcd⟩ := X4 Ba Bb Bc Bd hw hb;clear hb;go_wp2
 go_ret
 exact ⟨rfl, hw⟩
theorem meet_v3 (a b c d : Pt) (ha : vld a = true) (hb : vld b = true) (hc : vld c = true) (hd : vld d = false) (w : World) :
    Calls Tryz.prog 77 #[.agg #[.int .i64 a.x, .int .i64 a.y], .agg #[.int .i64 b.x, .int .i64 b.y], .agg #[.int .i64 c.x, .int .i64 c.y], .agg #[.int .i64 d.x, .int .i64 d.y]] w fun e w' => e = .returned (.int .i64 0) ∧ Below w.heap.size w w' := by
 have ca := zA6 a;rw [ha] at ca;clear ha;have cb := zA6 b;rw [hb] at cb;clear hb;have cc := zA6 c;rw [hc] at cc;clear hc;have cd := zA6 d;rw [hd] at cd;clear hd
 go_enter Tryz.func77, Tryz.ntmps77
 go_wp2_with fail;refine zA1 fun W1 hW => ?_;obtain ⟨Ba, Bb, Bc, Bd, hw⟩ := N4 hW;clear hW;refine (ca _).mono ?_;rintro e w2 ⟨rfl, hb⟩;obtain ⟨Ba, Bb, Bc, Bd, hw, F_abcd⟩ := X4 Ba Bb Bc Bd hw hb;clear hb;go_wp2_with fail;refine (cb _).mono ?_;rintro e w3 ⟨rfl, hb⟩;clear F_abcd;obtain ⟨Ba, Bb, Bc, Bd, hw, F_abcd⟩ := X4 Ba Bb Bc Bd hw hb;clear hb;go_wp2_with fail;refine (cc _).mono ?_;rintro e w4 ⟨rfl, hb⟩;clear F_abcd;obtain ⟨Ba, Bb, Bc, Bd, hw, F_abcd⟩ := X4 Ba Bb Bc Bd hw hb;clear hb;go_wp2_with fail;refine (cd _).mono ?_;rintro e w5 ⟨rfl, hb⟩;clear F_abcd;obtain ⟨Ba, Bb, Bc, Bd, hw, F_abcd⟩ := X4 Ba Bb Bc Bd hw hb;clear hb;go_wp2
 go_ret
 exact ⟨rfl, hw⟩
theorem meet_e1 (a b c d : Pt) (ha : vld a = true) (hb : vld b = true) (hc : vld c = true) (hd : vld d = true) (e1 : peqI a.x a.y b.x b.y = true) (w : World) :
    Calls Tryz.prog 77 #[.agg #[.int .i64 a.x, .int .i64 a.y], .agg #[.int .i64 b.x, .int .i64 b.y], .agg #[.int .i64 c.x, .int .i64 c.y], .agg #[.int .i64 d.x, .int .i64 d.y]] w fun e w' => e = .returned (.int .i64 0) ∧ Below w.heap.size w w' := by
 have ca := zA6 a;rw [ha] at ca;clear ha;have cb := zA6 b;rw [hb] at cb;clear hb;have cc := zA6 c;rw [hc] at cc;clear hc;have cd := zA6 d;rw [hd] at cd;clear hd
 go_enter Tryz.func77, Tryz.ntmps77
 go_wp2_with fail;refine zA1 fun W1 hW => ?_;obtain ⟨Ba, Bb, Bc, Bd, hw⟩ := N4 hW;clear hW;refine (ca _).mono ?_;rintro e w2 ⟨rfl, hb⟩;obtain ⟨Ba, Bb, Bc, Bd, hw, F_abcd⟩ := X4 Ba Bb Bc Bd hw hb;clear hb;go_wp2_with fail;refine (cb _).mono ?_;rintro e w3 ⟨rfl, hb⟩;clear F_abcd;obtain ⟨Ba, Bb, Bc, Bd, hw, F_abcd⟩ := X4 Ba Bb Bc Bd hw hb;clear hb;go_wp2_with fail;refine (cc _).mono ?_;rintro e w4 ⟨rfl, hb⟩;clear F_abcd;obtain ⟨Ba, Bb, Bc, Bd, hw, F_abcd⟩ := X4 Ba Bb Bc Bd hw hb;clear hb;go_wp2_with fail;refine (cd _).mono ?_;rintro e w5 ⟨rfl, hb⟩;clear F_abcd;obtain ⟨Ba, Bb, Bc, Bd, hw, F_abcd⟩ := X4 Ba Bb Bc Bd hw hb;clear hb;go_wp2
 go_ret
 exact ⟨rfl, hw⟩
theorem meet_e2 (a b c d : Pt) (ha : vld a = true) (hb : vld b = true) (hc : vld c = true) (hd : vld d = true) (e1 : peqI a.x a.y b.x b.y = false) (e2 : peqI c.x c.y d.x d.y = true) (w : World) :
    Calls Tryz.prog 77 #[.agg #[.int .i64 a.x, .int .i64 a.y], .agg #[.int .i64 b.x, .int .i64 b.y], .agg #[.int .i64 c.x, .int .i64 c.y], .agg #[.int .i64 d.x, .int .i64 d.y]] w fun e w' => e = .returned (.int .i64 0) ∧ Below w.heap.size w w' := by
 have ca := zA6 a;rw [ha] at ca;clear ha;have cb := zA6 b;rw [hb] at cb;clear hb;have cc := zA6 c;rw [hc] at cc;clear hc;have cd := zA6 d;rw [hd] at cd;clear hd
 go_enter Tryz.func77, Tryz.ntmps77
 go_wp2_with fail;refine zA1 fun W1 hW => ?_;obtain ⟨Ba, Bb, Bc, Bd, hw⟩ := N4 hW;clear hW;refine (ca _).mono ?_;rintro e w2 ⟨rfl, hb⟩;obtain ⟨Ba, Bb, Bc, Bd, hw, F_abcd⟩ := X4 Ba Bb Bc Bd hw hb;clear hb;go_wp2_with fail;refine (cb _).mono ?_;rintro e w3 ⟨rfl, hb⟩;clear F_abcd;obtain ⟨Ba, Bb, Bc, Bd, hw, F_abcd⟩ := X4 Ba Bb Bc Bd hw hb;clear hb;go_wp2_with fail;refine (cc _).mono ?_;rintro e w4 ⟨rfl, hb⟩;clear F_abcd;obtain ⟨Ba, Bb, Bc, Bd, hw, F_abcd⟩ := X4 Ba Bb Bc Bd hw hb;clear hb;go_wp2_with fail;refine (cd _).mono ?_;rintro e w5 ⟨rfl, hb⟩;clear F_abcd;obtain ⟨Ba, Bb, Bc, Bd, hw, F_abcd⟩ := X4 Ba Bb Bc Bd hw hb;clear hb;go_wp2
 go_ret
 exact ⟨rfl, hw⟩
theorem meet_l (a b c d : Pt) (ha : vld a = true) (hb : vld b = true) (hc : vld c = true) (hd : vld d = true) (e1 : peqI a.x a.y b.x b.y = false) (e2 : peqI c.x c.y d.x d.y = false) (z1 : ori a b c = 0) (z2 : ori a b d = 0) (w : World) :
    Calls Tryz.prog 77 #[.agg #[.int .i64 a.x, .int .i64 a.y], .agg #[.int .i64 b.x, .int .i64 b.y], .agg #[.int .i64 c.x, .int .i64 c.y], .agg #[.int .i64 d.x, .int .i64 d.y]] w fun e w' => e = .returned (.int .i64 (mil a b c d)) ∧ Below w.heap.size w w' := by
 have ca := zA6 a;rw [ha] at ca;clear ha;have cb := zA6 b;rw [hb] at cb;clear hb;have cc := zA6 c;rw [hc] at cc;clear hc;have cd := zA6 d;rw [hd] at cd;clear hd;have o1 := zA7 a b c;have o2 := zA7 a b d;rw [z1] at o1;rw [z2] at o2;clear z1 z2;have cm := mil_any a b c d
 go_enter Tryz.func77, Tryz.ntmps77
 go_wp2_with fail;refine zA1 fun W1 hW => ?_;obtain ⟨Ba, Bb, Bc, Bd, hw⟩ := N4 hW;clear hW;refine (ca _).mono ?_;rintro e w2 ⟨rfl, hb⟩;obtain ⟨Ba, Bb, Bc, Bd, hw, F_abcd⟩ := X4 Ba Bb Bc Bd hw hb;clear hb;go_wp2_with fail;refine (cb _).mono ?_;rintro e w3 ⟨rfl, hb⟩;clear F_abcd;obtain ⟨Ba, Bb, Bc, Bd, hw, F_abcd⟩ := X4 Ba Bb Bc Bd hw hb;clear hb;go_wp2_with fail;refine (cc _).mono ?_;rintro e w4 ⟨rfl, hb⟩;clear F_abcd;obtain ⟨Ba, Bb, Bc, Bd, hw, F_abcd⟩ := X4 Ba Bb Bc Bd hw hb;clear hb;go_wp2_with fail;refine (cd _).mono ?_;rintro e w5 ⟨rfl, hb⟩;clear F_abcd;obtain ⟨Ba, Bb, Bc, Bd, hw, F_abcd⟩ := X4 Ba Bb Bc Bd hw hb;clear hb;go_wp2;refine zA3 fun W6 hW => ?_;subst hW;clear F_abcd;have g_abcd := J4 Ba.cells Bb.cells Bc.cells Bd.cells;refine wrt 8 (by kernel_rfl) (by kernel_rfl) ?_;simp only [tK1, tK0, dP1, dP0];repeat (first | (refine zA0 (Eq.refl false) ?_; simp only [Act.put, sT2, sT1, sT0]) | (refine rWalk_step (fun K hK => ?_); go_simp; first | (refine hK _ ?_; clear hK K) | (apply Exists.intro; refine ⟨fun _ => ?_, hK _ ?_⟩; (first | with_reducible exact toExt o1 _ | with_reducible exact toExt o2 _); clear hK K)))
 refine rWalk_nil ?_;intro w7 hb;clear g_abcd;obtain ⟨Ba, Bb, Bc, Bd, hw, F_abcd⟩ := X4 Ba Bb Bc Bd hw hb;go_wp2_with fail;refine (cm _).mono ?_;rintro e w8 ⟨rfl, hb⟩;clear F_abcd;obtain ⟨Ba, Bb, Bc, Bd, hw, -⟩ := X4 Ba Bb Bc Bd hw hb;clear hb;go_wp2
 go_ret
 exact ⟨rfl, hw⟩
theorem meet_n0 (a b c d : Pt) (ha : vld a = true) (hb : vld b = true) (hc : vld c = true) (hd : vld d = true) (e1 : peqI a.x a.y b.x b.y = false) (e2 : peqI c.x c.y d.x d.y = false) (z1 : ¬ ori a b c = 0) (q1 : peqI a.x a.y c.x c.y = true) (w : World) :
    Calls Tryz.prog 77 #[.agg #[.int .i64 a.x, .int .i64 a.y], .agg #[.int .i64 b.x, .int .i64 b.y], .agg #[.int .i64 c.x, .int .i64 c.y], .agg #[.int .i64 d.x, .int .i64 d.y]] w fun e w' => e = .returned (.int .i64 0) ∧ Below w.heap.size w w' := by
 have ca := zA6 a;rw [ha] at ca;clear ha;have cb := zA6 b;rw [hb] at cb;clear hb;have cc := zA6 c;rw [hc] at cc;clear hc;have cd := zA6 d;rw [hd] at cd;clear hd;have o1 := zA7 a b c;have o2 := zA7 a b d;have sC := zB4 a b c;generalize ori a b c = C at *
 generalize ori a b d = D at *
 have t1 : (C == 0) = false := by simpa using z1
 clear z1
 go_enter Tryz.func77, Tryz.ntmps77
 go_wp2_with fail;refine zA1 fun W1 hW => ?_;obtain ⟨Ba, Bb, Bc, Bd, hw⟩ := N4 hW;clear hW;refine (ca _).mono ?_;rintro e w2 ⟨rfl, hb⟩;obtain ⟨Ba, Bb, Bc, Bd, hw, F_abcd⟩ := X4 Ba Bb Bc Bd hw hb;clear hb;go_wp2_with fail;refine (cb _).mono ?_;rintro e w3 ⟨rfl, hb⟩;clear F_abcd;obtain ⟨Ba, Bb, Bc, Bd, hw, F_abcd⟩ := X4 Ba Bb Bc Bd hw hb;clear hb;go_wp2_with fail;refine (cc _).mono ?_;rintro e w4 ⟨rfl, hb⟩;clear F_abcd;obtain ⟨Ba, Bb, Bc, Bd, hw, F_abcd⟩ := X4 Ba Bb Bc Bd hw hb;clear hb;go_wp2_with fail;refine (cd _).mono ?_;rintro e w5 ⟨rfl, hb⟩;clear F_abcd;obtain ⟨Ba, Bb, Bc, Bd, hw, F_abcd⟩ := X4 Ba Bb Bc Bd hw hb;clear hb;go_wp2;refine zA3 fun W6 hW => ?_;subst hW;clear F_abcd;have g_abcd := J4 Ba.cells Bb.cells Bc.cells Bd.cells;refine wrt 8 (by kernel_rfl) (by kernel_rfl) ?_;simp only [tK1, tK0, dP1, dP0];repeat (first | (refine zA0 (Eq.refl false) ?_; simp only [Act.put, sT2, sT1, sT0]) | (refine rWalk_step (fun K hK => ?_); go_simp; first | (refine hK _ ?_; clear hK K) | (apply Exists.intro; refine ⟨fun _ => ?_, hK _ ?_⟩; (first | with_reducible exact toExt o1 _ | with_reducible exact toExt o2 _); clear hK K)))
 refine rWalk_nil ?_;intro w7 hb;clear g_abcd;obtain ⟨Ba, Bb, Bc, Bd, hw, F_abcd⟩ := X4 Ba Bb Bc Bd hw hb;go_wp2
 go_ret
 exact ⟨rfl, hw⟩
theorem meet_n1 (a b c d : Pt) (ha : vld a = true) (hb : vld b = true) (hc : vld c = true) (hd : vld d = true) (e1 : peqI a.x a.y b.x b.y = false) (e2 : peqI c.x c.y d.x d.y = false) (z1 : ¬ ori a b c = 0) (q1 : peqI a.x a.y c.x c.y = false) (q2 : peqI a.x a.y d.x d.y = true) (w : World) :
    Calls Tryz.prog 77 #[.agg #[.int .i64 a.x, .int .i64 a.y], .agg #[.int .i64 b.x, .int .i64 b.y], .agg #[.int .i64 c.x, .int .i64 c.y], .agg #[.int .i64 d.x, .int .i64 d.y]] w fun e w' => e = .returned (.int .i64 0) ∧ Below w.heap.size w w' := by
 have ca := zA6 a;rw [ha] at ca;clear ha;have cb := zA6 b;rw [hb] at cb;clear hb;have cc := zA6 c;rw [hc] at cc;clear hc;have cd := zA6 d;rw [hd] at cd;clear hd;have o1 := zA7 a b c;have o2 := zA7 a b d;have sC := zB4 a b c;generalize ori a b c = C at *
 generalize ori a b d = D at *
 have t1 : (C == 0) = false := by simpa using z1
 clear z1
 go_enter Tryz.func77, Tryz.ntmps77
 go_wp2_with fail;refine zA1 fun W1 hW => ?_;obtain ⟨Ba, Bb, Bc, Bd, hw⟩ := N4 hW;clear hW;refine (ca _).mono ?_;rintro e w2 ⟨rfl, hb⟩;obtain ⟨Ba, Bb, Bc, Bd, hw, F_abcd⟩ := X4 Ba Bb Bc Bd hw hb;clear hb;go_wp2_with fail;refine (cb _).mono ?_;rintro e w3 ⟨rfl, hb⟩;clear F_abcd;obtain ⟨Ba, Bb, Bc, Bd, hw, F_abcd⟩ := X4 Ba Bb Bc Bd hw hb;clear hb;go_wp2_with fail;refine (cc _).mono ?_;rintro e w4 ⟨rfl, hb⟩;clear F_abcd;obtain ⟨Ba, Bb, Bc, Bd, hw, F_abcd⟩ := X4 Ba Bb Bc Bd hw hb;clear hb;go_wp2_with fail;refine (cd _).mono ?_;rintro e w5 ⟨rfl, hb⟩;clear F_abcd;obtain ⟨Ba, Bb, Bc, Bd, hw, F_abcd⟩ := X4 Ba Bb Bc Bd hw hb;clear hb;go_wp2;refine zA3 fun W6 hW => ?_;subst hW;clear F_abcd;have g_abcd := J4 Ba.cells Bb.cells Bc.cells Bd.cells;refine wrt 8 (by kernel_rfl) (by kernel_rfl) ?_;simp only [tK1, tK0, dP1, dP0];repeat (first | (refine zA0 (Eq.refl false) ?_; simp only [Act.put, sT2, sT1, sT0]) | (refine rWalk_step (fun K hK => ?_); go_simp; first | (refine hK _ ?_; clear hK K) | (apply Exists.intro; refine ⟨fun _ => ?_, hK _ ?_⟩; (first | with_reducible exact toExt o1 _ | with_reducible exact toExt o2 _); clear hK K)))
 refine rWalk_nil ?_;intro w7 hb;clear g_abcd;obtain ⟨Ba, Bb, Bc, Bd, hw, F_abcd⟩ := X4 Ba Bb Bc Bd hw hb;go_wp2
 go_ret
 exact ⟨rfl, hw⟩
theorem meet_n2 (a b c d : Pt) (ha : vld a = true) (hb : vld b = true) (hc : vld c = true) (hd : vld d = true) (e1 : peqI a.x a.y b.x b.y = false) (e2 : peqI c.x c.y d.x d.y = false) (z1 : ¬ ori a b c = 0) (q1 : peqI a.x a.y c.x c.y = false) (q2 : peqI a.x a.y d.x d.y = false) (q3 : peqI b.x b.y c.x c.y = true) (w : World) :
    Calls Tryz.prog 77 #[.agg #[.int .i64 a.x, .int .i64 a.y], .agg #[.int .i64 b.x, .int .i64 b.y], .agg #[.int .i64 c.x, .int .i64 c.y], .agg #[.int .i64 d.x, .int .i64 d.y]] w fun e w' => e = .returned (.int .i64 0) ∧ Below w.heap.size w w' := by
 have ca := zA6 a;rw [ha] at ca;clear ha;have cb := zA6 b;rw [hb] at cb;clear hb;have cc := zA6 c;rw [hc] at cc;clear hc;have cd := zA6 d;rw [hd] at cd;clear hd;have o1 := zA7 a b c;have o2 := zA7 a b d;have sC := zB4 a b c;generalize ori a b c = C at *
 generalize ori a b d = D at *
 have t1 : (C == 0) = false := by simpa using z1
 clear z1
 go_enter Tryz.func77, Tryz.ntmps77
 go_wp2_with fail;refine zA1 fun W1 hW => ?_;obtain ⟨Ba, Bb, Bc, Bd, hw⟩ := N4 hW;clear hW;refine (ca _).mono ?_;rintro e w2 ⟨rfl, hb⟩;obtain ⟨Ba, Bb, Bc, Bd, hw, F_abcd⟩ := X4 Ba Bb Bc Bd hw hb;clear hb;go_wp2_with fail;refine (cb _).mono ?_;rintro e w3 ⟨rfl, hb⟩;clear F_abcd;obtain ⟨Ba, Bb, Bc, Bd, hw, F_abcd⟩ := X4 Ba Bb Bc Bd hw hb;clear hb;go_wp2_with fail;refine (cc _).mono ?_;rintro e w4 ⟨rfl, hb⟩;clear F_abcd;obtain ⟨Ba, Bb, Bc, Bd, hw, F_abcd⟩ := X4 Ba Bb Bc Bd hw hb;clear hb;go_wp2_with fail;refine (cd _).mono ?_;rintro e w5 ⟨rfl, hb⟩;clear F_abcd;obtain ⟨Ba, Bb, Bc, Bd, hw, F_abcd⟩ := X4 Ba Bb Bc Bd hw hb;clear hb;go_wp2;refine zA3 fun W6 hW => ?_;subst hW;clear F_abcd;have g_abcd := J4 Ba.cells Bb.cells Bc.cells Bd.cells;refine wrt 8 (by kernel_rfl) (by kernel_rfl) ?_;simp only [tK1, tK0, dP1, dP0];repeat (first | (refine zA0 (Eq.refl false) ?_; simp only [Act.put, sT2, sT1, sT0]) | (refine rWalk_step (fun K hK => ?_); go_simp; first | (refine hK _ ?_; clear hK K) | (apply Exists.intro; refine ⟨fun _ => ?_, hK _ ?_⟩; (first | with_reducible exact toExt o1 _ | with_reducible exact toExt o2 _); clear hK K)))
 refine rWalk_nil ?_;intro w7 hb;clear g_abcd;obtain ⟨Ba, Bb, Bc, Bd, hw, F_abcd⟩ := X4 Ba Bb Bc Bd hw hb;go_wp2
 go_ret
 exact ⟨rfl, hw⟩
theorem meet_n3 (a b c d : Pt) (ha : vld a = true) (hb : vld b = true) (hc : vld c = true) (hd : vld d = true) (e1 : peqI a.x a.y b.x b.y = false) (e2 : peqI c.x c.y d.x d.y = false) (z1 : ¬ ori a b c = 0) (q1 : peqI a.x a.y c.x c.y = false) (q2 : peqI a.x a.y d.x d.y = false) (q3 : peqI b.x b.y c.x c.y = false) (q4 : peqI b.x b.y d.x d.y = true) (w : World) :
    Calls Tryz.prog 77 #[.agg #[.int .i64 a.x, .int .i64 a.y], .agg #[.int .i64 b.x, .int .i64 b.y], .agg #[.int .i64 c.x, .int .i64 c.y], .agg #[.int .i64 d.x, .int .i64 d.y]] w fun e w' => e = .returned (.int .i64 0) ∧ Below w.heap.size w w' := by
 have ca := zA6 a;rw [ha] at ca;clear ha;have cb := zA6 b;rw [hb] at cb;clear hb;have cc := zA6 c;rw [hc] at cc;clear hc;have cd := zA6 d;rw [hd] at cd;clear hd;have o1 := zA7 a b c;have o2 := zA7 a b d;have sC := zB4 a b c;generalize ori a b c = C at *
 generalize ori a b d = D at *
 have t1 : (C == 0) = false := by simpa using z1
 clear z1
 go_enter Tryz.func77, Tryz.ntmps77
 go_wp2_with fail;refine zA1 fun W1 hW => ?_;obtain ⟨Ba, Bb, Bc, Bd, hw⟩ := N4 hW;clear hW;refine (ca _).mono ?_;rintro e w2 ⟨rfl, hb⟩;obtain ⟨Ba, Bb, Bc, Bd, hw, F_abcd⟩ := X4 Ba Bb Bc Bd hw hb;clear hb;go_wp2_with fail;refine (cb _).mono ?_;rintro e w3 ⟨rfl, hb⟩;clear F_abcd;obtain ⟨Ba, Bb, Bc, Bd, hw, F_abcd⟩ := X4 Ba Bb Bc Bd hw hb;clear hb;go_wp2_with fail;refine (cc _).mono ?_;rintro e w4 ⟨rfl, hb⟩;clear F_abcd;obtain ⟨Ba, Bb, Bc, Bd, hw, F_abcd⟩ := X4 Ba Bb Bc Bd hw hb;clear hb;go_wp2_with fail;refine (cd _).mono ?_;rintro e w5 ⟨rfl, hb⟩;clear F_abcd;obtain ⟨Ba, Bb, Bc, Bd, hw, F_abcd⟩ := X4 Ba Bb Bc Bd hw hb;clear hb;go_wp2;refine zA3 fun W6 hW => ?_;subst hW;clear F_abcd;have g_abcd := J4 Ba.cells Bb.cells Bc.cells Bd.cells;refine wrt 8 (by kernel_rfl) (by kernel_rfl) ?_;simp only [tK1, tK0, dP1, dP0];repeat (first | (refine zA0 (Eq.refl false) ?_; simp only [Act.put, sT2, sT1, sT0]) | (refine rWalk_step (fun K hK => ?_); go_simp; first | (refine hK _ ?_; clear hK K) | (apply Exists.intro; refine ⟨fun _ => ?_, hK _ ?_⟩; (first | with_reducible exact toExt o1 _ | with_reducible exact toExt o2 _); clear hK K)))
 refine rWalk_nil ?_;intro w7 hb;clear g_abcd;obtain ⟨Ba, Bb, Bc, Bd, hw, F_abcd⟩ := X4 Ba Bb Bc Bd hw hb;go_wp2
 go_ret
 exact ⟨rfl, hw⟩
theorem meet_n4 (a b c d : Pt) (ha : vld a = true) (hb : vld b = true) (hc : vld c = true) (hd : vld d = true) (e1 : peqI a.x a.y b.x b.y = false) (e2 : peqI c.x c.y d.x d.y = false) (z1 : ¬ ori a b c = 0) (q1 : peqI a.x a.y c.x c.y = false) (q2 : peqI a.x a.y d.x d.y = false) (q3 : peqI b.x b.y c.x c.y = false) (q4 : peqI b.x b.y d.x d.y = false) (w : World) :
    Calls Tryz.prog 77 #[.agg #[.int .i64 a.x, .int .i64 a.y], .agg #[.int .i64 b.x, .int .i64 b.y], .agg #[.int .i64 c.x, .int .i64 c.y], .agg #[.int .i64 d.x, .int .i64 d.y]] w fun e w' => e = .returned (.int .i64 (fin (ori c d a) (ori c d b) (ori a b c) (ori a b d))) ∧ Below w.heap.size w w' := by
 have ca := zA6 a;rw [ha] at ca;clear ha;have cb := zA6 b;rw [hb] at cb;clear hb;have cc := zA6 c;rw [hc] at cc;clear hc;have cd := zA6 d;rw [hd] at cd;clear hd;have o1 := zA7 a b c;have o2 := zA7 a b d;have o3 := zA7 c d a;have o4 := zA7 c d b;generalize ori c d a = A at *
 generalize ori c d b = B at *
 have sC := zB4 a b c;generalize ori a b c = C at *
 generalize ori a b d = D at *
 have t1 : (C == 0) = false := by simpa using z1
 clear z1
 go_enter Tryz.func77, Tryz.ntmps77
 go_wp2_with fail;refine zA1 fun W1 hW => ?_;obtain ⟨Ba, Bb, Bc, Bd, hw⟩ := N4 hW;clear hW;refine (ca _).mono ?_;rintro e w2 ⟨rfl, hb⟩;obtain ⟨Ba, Bb, Bc, Bd, hw, F_abcd⟩ := X4 Ba Bb Bc Bd hw hb;clear hb;go_wp2_with fail;refine (cb _).mono ?_;rintro e w3 ⟨rfl, hb⟩;clear F_abcd;obtain ⟨Ba, Bb, Bc, Bd, hw, F_abcd⟩ := X4 Ba Bb Bc Bd hw hb;clear hb;go_wp2_with fail;refine (cc _).mono ?_;rintro e w4 ⟨rfl, hb⟩;clear F_abcd;obtain ⟨Ba, Bb, Bc, Bd, hw, F_abcd⟩ := X4 Ba Bb Bc Bd hw hb;clear hb;go_wp2_with fail;refine (cd _).mono ?_;rintro e w5 ⟨rfl, hb⟩;clear F_abcd;obtain ⟨Ba, Bb, Bc, Bd, hw, F_abcd⟩ := X4 Ba Bb Bc Bd hw hb;clear hb;go_wp2;refine zA3 fun W6 hW => ?_;subst hW;clear F_abcd;have g_abcd := J4 Ba.cells Bb.cells Bc.cells Bd.cells;refine wrt 8 (by kernel_rfl) (by kernel_rfl) ?_;simp only [tK1, tK0, dP1, dP0];repeat (first | (refine zA0 (Eq.refl false) ?_; simp only [Act.put, sT2, sT1, sT0]) | (refine rWalk_step (fun K hK => ?_); go_simp; first | (refine hK _ ?_; clear hK K) | (apply Exists.intro; refine ⟨fun _ => ?_, hK _ ?_⟩; (first | with_reducible exact toExt o1 _ | with_reducible exact toExt o2 _); clear hK K)))
 refine rWalk_nil ?_;intro w7 hb;clear g_abcd;obtain ⟨Ba, Bb, Bc, Bd, hw, F_abcd⟩ := X4 Ba Bb Bc Bd hw hb;go_wp2;refine zA3 fun W8 hW => ?_;subst hW;clear F_abcd;have g_abcd := J4 Ba.cells Bb.cells Bc.cells Bd.cells;refine wrt 8 (by kernel_rfl) (by kernel_rfl) ?_;simp only [tK1, tK0, dP1, dP0];repeat (first | (refine zA0 (Eq.refl false) ?_; simp only [Act.put, sT2, sT1, sT0]) | (refine rWalk_step (fun K hK => ?_); go_simp; first | (refine hK _ ?_; clear hK K) | (apply Exists.intro; refine ⟨fun _ => ?_, hK _ ?_⟩; (first | with_reducible exact toExt o3 _ | with_reducible exact toExt o4 _); clear hK K)))
 refine rWalk_nil ?_;intro w9 hb;clear g_abcd;obtain ⟨Ba, Bb, Bc, Bd, hw, -⟩ := X4 Ba Bb Bc Bd hw hb;go_wp2;all_goals go_ret
 all_goals exact ⟨zAq (by unfold fin; simp_all), hw⟩
theorem meet_z0 (a b c d : Pt) (ha : vld a = true) (hb : vld b = true) (hc : vld c = true) (hd : vld d = true) (e1 : peqI a.x a.y b.x b.y = false) (e2 : peqI c.x c.y d.x d.y = false) (z1 : ori a b c = 0) (z2 : ¬ ori a b d = 0) (q1 : peqI a.x a.y c.x c.y = true) (w : World) :
    Calls Tryz.prog 77 #[.agg #[.int .i64 a.x, .int .i64 a.y], .agg #[.int .i64 b.x, .int .i64 b.y], .agg #[.int .i64 c.x, .int .i64 c.y], .agg #[.int .i64 d.x, .int .i64 d.y]] w fun e w' => e = .returned (.int .i64 0) ∧ Below w.heap.size w w' := by
 have ca := zA6 a;rw [ha] at ca;clear ha;have cb := zA6 b;rw [hb] at cb;clear hb;have cc := zA6 c;rw [hc] at cc;clear hc;have cd := zA6 d;rw [hd] at cd;clear hd;have o1 := zA7 a b c;have o2 := zA7 a b d;rw [z1] at o1;generalize ori a b d = D at *
 have t1 : (D == 0) = false := by simpa using z2
 clear z1 z2
 go_enter Tryz.func77, Tryz.ntmps77
 go_wp2_with fail;refine zA1 fun W1 hW => ?_;obtain ⟨Ba, Bb, Bc, Bd, hw⟩ := N4 hW;clear hW;refine (ca _).mono ?_;rintro e w2 ⟨rfl, hb⟩;obtain ⟨Ba, Bb, Bc, Bd, hw, F_abcd⟩ := X4 Ba Bb Bc Bd hw hb;clear hb;go_wp2_with fail;refine (cb _).mono ?_;rintro e w3 ⟨rfl, hb⟩;clear F_abcd;obtain ⟨Ba, Bb, Bc, Bd, hw, F_abcd⟩ := X4 Ba Bb Bc Bd hw hb;clear hb;go_wp2_with fail;refine (cc _).mono ?_;rintro e w4 ⟨rfl, hb⟩;clear F_abcd;obtain ⟨Ba, Bb, Bc, Bd, hw, F_abcd⟩ := X4 Ba Bb Bc Bd hw hb;clear hb;go_wp2_with fail;refine (cd _).mono ?_;rintro e w5 ⟨rfl, hb⟩;clear F_abcd;obtain ⟨Ba, Bb, Bc, Bd, hw, F_abcd⟩ := X4 Ba Bb Bc Bd hw hb;clear hb;go_wp2;refine zA3 fun W6 hW => ?_;subst hW;clear F_abcd;have g_abcd := J4 Ba.cells Bb.cells Bc.cells Bd.cells;refine wrt 8 (by kernel_rfl) (by kernel_rfl) ?_;simp only [tK1, tK0, dP1, dP0];repeat (first | (refine zA0 (Eq.refl false) ?_; simp only [Act.put, sT2, sT1, sT0]) | (refine rWalk_step (fun K hK => ?_); go_simp; first | (refine hK _ ?_; clear hK K) | (apply Exists.intro; refine ⟨fun _ => ?_, hK _ ?_⟩; (first | with_reducible exact toExt o1 _ | with_reducible exact toExt o2 _); clear hK K)))
 refine rWalk_nil ?_;intro w7 hb;clear g_abcd;obtain ⟨Ba, Bb, Bc, Bd, hw, F_abcd⟩ := X4 Ba Bb Bc Bd hw hb;go_wp2
 go_ret
 exact ⟨rfl, hw⟩
theorem meet_z1 (a b c d : Pt) (ha : vld a = true) (hb : vld b = true) (hc : vld c = true) (hd : vld d = true) (e1 : peqI a.x a.y b.x b.y = false) (e2 : peqI c.x c.y d.x d.y = false) (z1 : ori a b c = 0) (z2 : ¬ ori a b d = 0) (q1 : peqI a.x a.y c.x c.y = false) (q2 : peqI a.x a.y d.x d.y = true) (w : World) :
    Calls Tryz.prog 77 #[.agg #[.int .i64 a.x, .int .i64 a.y], .agg #[.int .i64 b.x, .int .i64 b.y], .agg #[.int .i64 c.x, .int .i64 c.y], .agg #[.int .i64 d.x, .int .i64 d.y]] w fun e w' => e = .returned (.int .i64 0) ∧ Below w.heap.size w w' := by
 have ca := zA6 a;rw [ha] at ca;clear ha;have cb := zA6 b;rw [hb] at cb;clear hb;have cc := zA6 c;rw [hc] at cc;clear hc;have cd := zA6 d;rw [hd] at cd;clear hd;have o1 := zA7 a b c;have o2 := zA7 a b d;rw [z1] at o1;generalize ori a b d = D at *
 have t1 : (D == 0) = false := by simpa using z2
 clear z1 z2
 go_enter Tryz.func77, Tryz.ntmps77
 go_wp2_with fail;refine zA1 fun W1 hW => ?_;obtain ⟨Ba, Bb, Bc, Bd, hw⟩ := N4 hW;clear hW;refine (ca _).mono ?_;rintro e w2 ⟨rfl, hb⟩;obtain ⟨Ba, Bb, Bc, Bd, hw, F_abcd⟩ := X4 Ba Bb Bc Bd hw hb;clear hb;go_wp2_with fail;refine (cb _).mono ?_;rintro e w3 ⟨rfl, hb⟩;clear F_abcd;obtain ⟨Ba, Bb, Bc, Bd, hw, F_abcd⟩ := X4 Ba Bb Bc Bd hw hb;clear hb;go_wp2_with fail;refine (cc _).mono ?_;rintro e w4 ⟨rfl, hb⟩;clear F_abcd;obtain ⟨Ba, Bb, Bc, Bd, hw, F_abcd⟩ := X4 Ba Bb Bc Bd hw hb;clear hb;go_wp2_with fail;refine (cd _).mono ?_;rintro e w5 ⟨rfl, hb⟩;clear F_abcd;obtain ⟨Ba, Bb, Bc, Bd, hw, F_abcd⟩ := X4 Ba Bb Bc Bd hw hb;clear hb;go_wp2;refine zA3 fun W6 hW => ?_;subst hW;clear F_abcd;have g_abcd := J4 Ba.cells Bb.cells Bc.cells Bd.cells;refine wrt 8 (by kernel_rfl) (by kernel_rfl) ?_;simp only [tK1, tK0, dP1, dP0];repeat (first | (refine zA0 (Eq.refl false) ?_; simp only [Act.put, sT2, sT1, sT0]) | (refine rWalk_step (fun K hK => ?_); go_simp; first | (refine hK _ ?_; clear hK K) | (apply Exists.intro; refine ⟨fun _ => ?_, hK _ ?_⟩; (first | with_reducible exact toExt o1 _ | with_reducible exact toExt o2 _); clear hK K)))
 refine rWalk_nil ?_;intro w7 hb;clear g_abcd;obtain ⟨Ba, Bb, Bc, Bd, hw, F_abcd⟩ := X4 Ba Bb Bc Bd hw hb;go_wp2
 go_ret
 exact ⟨rfl, hw⟩
theorem meet_z2 (a b c d : Pt) (ha : vld a = true) (hb : vld b = true) (hc : vld c = true) (hd : vld d = true) (e1 : peqI a.x a.y b.x b.y = false) (e2 : peqI c.x c.y d.x d.y = false) (z1 : ori a b c = 0) (z2 : ¬ ori a b d = 0) (q1 : peqI a.x a.y c.x c.y = false) (q2 : peqI a.x a.y d.x d.y = false) (q3 : peqI b.x b.y c.x c.y = true) (w : World) :
    Calls Tryz.prog 77 #[.agg #[.int .i64 a.x, .int .i64 a.y], .agg #[.int .i64 b.x, .int .i64 b.y], .agg #[.int .i64 c.x, .int .i64 c.y], .agg #[.int .i64 d.x, .int .i64 d.y]] w fun e w' => e = .returned (.int .i64 0) ∧ Below w.heap.size w w' := by
 have ca := zA6 a;rw [ha] at ca;clear ha;have cb := zA6 b;rw [hb] at cb;clear hb;have cc := zA6 c;rw [hc] at cc;clear hc;have cd := zA6 d;rw [hd] at cd;clear hd;have o1 := zA7 a b c;have o2 := zA7 a b d;rw [z1] at o1;generalize ori a b d = D at *
 have t1 : (D == 0) = false := by simpa using z2
 clear z1 z2
 go_enter Tryz.func77, Tryz.ntmps77
 go_wp2_with fail;refine zA1 fun W1 hW => ?_;obtain ⟨Ba, Bb, Bc, Bd, hw⟩ := N4 hW;clear hW;refine (ca _).mono ?_;rintro e w2 ⟨rfl, hb⟩;obtain ⟨Ba, Bb, Bc, Bd, hw, F_abcd⟩ := X4 Ba Bb Bc Bd hw hb;clear hb;go_wp2_with fail;refine (cb _).mono ?_;rintro e w3 ⟨rfl, hb⟩;clear F_abcd;obtain ⟨Ba, Bb, Bc, Bd, hw, F_abcd⟩ := X4 Ba Bb Bc Bd hw hb;clear hb;go_wp2_with fail;refine (cc _).mono ?_;rintro e w4 ⟨rfl, hb⟩;clear F_abcd;obtain ⟨Ba, Bb, Bc, Bd, hw, F_abcd⟩ := X4 Ba Bb Bc Bd hw hb;clear hb;go_wp2_with fail;refine (cd _).mono ?_;rintro e w5 ⟨rfl, hb⟩;clear F_abcd;obtain ⟨Ba, Bb, Bc, Bd, hw, F_abcd⟩ := X4 Ba Bb Bc Bd hw hb;clear hb;go_wp2;refine zA3 fun W6 hW => ?_;subst hW;clear F_abcd;have g_abcd := J4 Ba.cells Bb.cells Bc.cells Bd.cells;refine wrt 8 (by kernel_rfl) (by kernel_rfl) ?_;simp only [tK1, tK0, dP1, dP0];repeat (first | (refine zA0 (Eq.refl false) ?_; simp only [Act.put, sT2, sT1, sT0]) | (refine rWalk_step (fun K hK => ?_); go_simp; first | (refine hK _ ?_; clear hK K) | (apply Exists.intro; refine ⟨fun _ => ?_, hK _ ?_⟩; (first | with_reducible exact toExt o1 _ | with_reducible exact toExt o2 _); clear hK K)))
 refine rWalk_nil ?_;intro w7 hb;clear g_abcd;obtain ⟨Ba, Bb, Bc, Bd, hw, F_abcd⟩ := X4 Ba Bb Bc Bd hw hb;go_wp2
 go_ret
 exact ⟨rfl, hw⟩
theorem meet_z3 (a b c d : Pt) (ha : vld a = true) (hb : vld b = true) (hc : vld c = true) (hd : vld d = true) (e1 : peqI a.x a.y b.x b.y = false) (e2 : peqI c.x c.y d.x d.y = false) (z1 : ori a b c = 0) (z2 : ¬ ori a b d = 0) (q1 : peqI a.x a.y c.x c.y = false) (q2 : peqI a.x a.y d.x d.y = false) (q3 : peqI b.x b.y c.x c.y = false) (q4 : peqI b.x b.y d.x d.y = true) (w : World) :
    Calls Tryz.prog 77 #[.agg #[.int .i64 a.x, .int .i64 a.y], .agg #[.int .i64 b.x, .int .i64 b.y], .agg #[.int .i64 c.x, .int .i64 c.y], .agg #[.int .i64 d.x, .int .i64 d.y]] w fun e w' => e = .returned (.int .i64 0) ∧ Below w.heap.size w w' := by
 have ca := zA6 a;rw [ha] at ca;clear ha;have cb := zA6 b;rw [hb] at cb;clear hb;have cc := zA6 c;rw [hc] at cc;clear hc;have cd := zA6 d;rw [hd] at cd;clear hd;have o1 := zA7 a b c;have o2 := zA7 a b d;rw [z1] at o1;generalize ori a b d = D at *
 have t1 : (D == 0) = false := by simpa using z2
 clear z1 z2
 go_enter Tryz.func77, Tryz.ntmps77
 go_wp2_with fail;refine zA1 fun W1 hW => ?_;obtain ⟨Ba, Bb, Bc, Bd, hw⟩ := N4 hW;clear hW;refine (ca _).mono ?_;rintro e w2 ⟨rfl, hb⟩;obtain ⟨Ba, Bb, Bc, Bd, hw, F_abcd⟩ := X4 Ba Bb Bc Bd hw hb;clear hb;go_wp2_with fail;refine (cb _).mono ?_;rintro e w3 ⟨rfl, hb⟩;clear F_abcd;obtain ⟨Ba, Bb, Bc, Bd, hw, F_abcd⟩ := X4 Ba Bb Bc Bd hw hb;clear hb;go_wp2_with fail;refine (cc _).mono ?_;rintro e w4 ⟨rfl, hb⟩;clear F_abcd;obtain ⟨Ba, Bb, Bc, Bd, hw, F_abcd⟩ := X4 Ba Bb Bc Bd hw hb;clear hb;go_wp2_with fail;refine (cd _).mono ?_;rintro e w5 ⟨rfl, hb⟩;clear F_abcd;obtain ⟨Ba, Bb, Bc, Bd, hw, F_abcd⟩ := X4 Ba Bb Bc Bd hw hb;clear hb;go_wp2;refine zA3 fun W6 hW => ?_;subst hW;clear F_abcd;have g_abcd := J4 Ba.cells Bb.cells Bc.cells Bd.cells;refine wrt 8 (by kernel_rfl) (by kernel_rfl) ?_;simp only [tK1, tK0, dP1, dP0];repeat (first | (refine zA0 (Eq.refl false) ?_; simp only [Act.put, sT2, sT1, sT0]) | (refine rWalk_step (fun K hK => ?_); go_simp; first | (refine hK _ ?_; clear hK K) | (apply Exists.intro; refine ⟨fun _ => ?_, hK _ ?_⟩; (first | with_reducible exact toExt o1 _ | with_reducible exact toExt o2 _); clear hK K)))
 refine rWalk_nil ?_;intro w7 hb;clear g_abcd;obtain ⟨Ba, Bb, Bc, Bd, hw, F_abcd⟩ := X4 Ba Bb Bc Bd hw hb;go_wp2
 go_ret
 exact ⟨rfl, hw⟩
theorem meet_z4 (a b c d : Pt) (ha : vld a = true) (hb : vld b = true) (hc : vld c = true) (hd : vld d = true) (e1 : peqI a.x a.y b.x b.y = false) (e2 : peqI c.x c.y d.x d.y = false) (z1 : ori a b c = 0) (z2 : ¬ ori a b d = 0) (q1 : peqI a.x a.y c.x c.y = false) (q2 : peqI a.x a.y d.x d.y = false) (q3 : peqI b.x b.y c.x c.y = false) (q4 : peqI b.x b.y d.x d.y = false) (w : World) :
    Calls Tryz.prog 77 #[.agg #[.int .i64 a.x, .int .i64 a.y], .agg #[.int .i64 b.x, .int .i64 b.y], .agg #[.int .i64 c.x, .int .i64 c.y], .agg #[.int .i64 d.x, .int .i64 d.y]] w fun e w' => e = .returned (.int .i64 (fin (ori c d a) (ori c d b) 0 (ori a b d))) ∧ Below w.heap.size w w' := by
 have ca := zA6 a;rw [ha] at ca;clear ha;have cb := zA6 b;rw [hb] at cb;clear hb;have cc := zA6 c;rw [hc] at cc;clear hc;have cd := zA6 d;rw [hd] at cd;clear hd;have o1 := zA7 a b c;have o2 := zA7 a b d;have o3 := zA7 c d a;have o4 := zA7 c d b;generalize ori c d a = A at *
 generalize ori c d b = B at *
 rw [z1] at o1;generalize ori a b d = D at *
 have t1 : (D == 0) = false := by simpa using z2
 clear z1 z2
 go_enter Tryz.func77, Tryz.ntmps77
 go_wp2_with fail;refine zA1 fun W1 hW => ?_;obtain ⟨Ba, Bb, Bc, Bd, hw⟩ := N4 hW;clear hW;refine (ca _).mono ?_;rintro e w2 ⟨rfl, hb⟩;obtain ⟨Ba, Bb, Bc, Bd, hw, F_abcd⟩ := X4 Ba Bb Bc Bd hw hb;clear hb;go_wp2_with fail;refine (cb _).mono ?_;rintro e w3 ⟨rfl, hb⟩;clear F_abcd;obtain ⟨Ba, Bb, Bc, Bd, hw, F_abcd⟩ := X4 Ba Bb Bc Bd hw hb;clear hb;go_wp2_with fail;refine (cc _).mono ?_;rintro e w4 ⟨rfl, hb⟩;clear F_abcd;obtain ⟨Ba, Bb, Bc, Bd, hw, F_abcd⟩ := X4 Ba Bb Bc Bd hw hb;clear hb;go_wp2_with fail;refine (cd _).mono ?_;rintro e w5 ⟨rfl, hb⟩;clear F_abcd;obtain ⟨Ba, Bb, Bc, Bd, hw, F_abcd⟩ := X4 Ba Bb Bc Bd hw hb;clear hb;go_wp2;refine zA3 fun W6 hW => ?_;subst hW;clear F_abcd;have g_abcd := J4 Ba.cells Bb.cells Bc.cells Bd.cells;refine wrt 8 (by kernel_rfl) (by kernel_rfl) ?_;simp only [tK1, tK0, dP1, dP0];repeat (first | (refine zA0 (Eq.refl false) ?_; simp only [Act.put, sT2, sT1, sT0]) | (refine rWalk_step (fun K hK => ?_); go_simp; first | (refine hK _ ?_; clear hK K) | (apply Exists.intro; refine ⟨fun _ => ?_, hK _ ?_⟩; (first | with_reducible exact toExt o1 _ | with_reducible exact toExt o2 _); clear hK K)))
 refine rWalk_nil ?_;intro w7 hb;clear g_abcd;obtain ⟨Ba, Bb, Bc, Bd, hw, F_abcd⟩ := X4 Ba Bb Bc Bd hw hb;go_wp2;refine zA3 fun W8 hW => ?_;subst hW;clear F_abcd;have g_abcd := J4 Ba.cells Bb.cells Bc.cells Bd.cells;refine wrt 8 (by kernel_rfl) (by kernel_rfl) ?_;simp only [tK1, tK0, dP1, dP0];repeat (first | (refine zA0 (Eq.refl false) ?_; simp only [Act.put, sT2, sT1, sT0]) | (refine rWalk_step (fun K hK => ?_); go_simp; first | (refine hK _ ?_; clear hK K) | (apply Exists.intro; refine ⟨fun _ => ?_, hK _ ?_⟩; (first | with_reducible exact toExt o3 _ | with_reducible exact toExt o4 _); clear hK K)))
 refine rWalk_nil ?_;intro w9 hb;clear g_abcd;obtain ⟨Ba, Bb, Bc, Bd, hw, -⟩ := X4 Ba Bb Bc Bd hw hb;go_wp2;all_goals go_ret
 all_goals exact ⟨zAq (by unfold fin; simp_all), hw⟩
end Go.Proofs.YtmobnmjjmafibaaGreat
