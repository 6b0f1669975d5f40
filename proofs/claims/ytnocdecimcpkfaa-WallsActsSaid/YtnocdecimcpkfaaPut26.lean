/- Put together: FlowT, DocE. -/
import Derived.Test.YtnocdecimcpkfaaPut1
import Derived.Test.YtnocdecimcpkfaaRows
import Derived.Test.YtnocdecimcpkfaaPut25
import Derived.Test.YtnocdecimcpkfaaPut21
import Derived.Test.YtnocdecimcpkfaaPut23
import Derived.WalkKit
import Derived.WalkSpells
import Derived.WalkLawsBesides
import Derived.Laws.Externs
import Derived.Deep.QuietTactic
import Derived.BigQuiet
import Derived.Lib.Hide
import Derived.Handy
import Derived.OwnWalk
import Derived.Maps.AppendAt
import Derived.Laws.AppendOwnNone
import Derived.Deep.Slices
import Derived.LoopN
import Derived.RegionTactic
namespace Go.Proofs.Ytnocdecimcpkfaa.FT
open Go.RowKit Go.Sort

section
variable {P : Program} {ops : Array Oper} {md : Region.Mode} {Q : Exit → Act → World → Prop} {n : Nat}

/-- run: an operation that yields one value in every world of the class; alt: one that may come up next, and what comes behind it, or another one; stop: no other one; done: the region's end. -/
inductive Plan where
  | run (i : Nat) (rest : Plan)
  | alt (h : Nat) (after other : Plan)
  | stop
  | tail
/-- What is to be shown of a plan. -/
def flow (P : Program) (ops : Array Oper) (n : Nat) (Q : Exit → Act → World → Prop) : Plan → (World → Prop) → Act → World → Prop
  | .run i rest, C, a, w => ∃ o, ops[i]? = some o ∧ if Region.wanted o (yielded ops a.tmps) then rOper P o a C (fun a' => flow P ops n Q rest C a' w) else flow P ops n Q rest C (a.put o.dst undef) w
  | .alt h after other, C, a, w => (∃ o, ops[h]? = some o ∧ ∀ w', Ext w w' → if Region.wanted o (yielded ops a.tmps) then
        o.wp P a w' (fun a' w2 => ∃ C' : World → Prop, (∀ x, C' x → C x) ∧ (∀ x y, Ext x y → C' x → C' y) ∧ C' w2 ∧ flow P ops n Q after C' a' w2) Q
      else ∃ C' : World → Prop, (∀ x, C' x → C x) ∧ (∀ x y, Ext x y → C' x → C' y) ∧ C' w' ∧ flow P ops n Q after C' (a.put o.dst undef) w') ∧ flow P ops n Q other C a w
  | .stop, _, _, _ => True
  | .tail, _, a, w => ∀ w', Ext w w' → wpList P ops Q (ops.toList.drop n) a w'
theorem flow_run {i : Nat} {rest : Plan} {C : World → Prop} {a : Act} {w : World} {o : Oper} (ho : ops[i]? = some o)
    (h : ∀ K : Act → Prop, (∀ a, flow P ops n Q rest C a w → K a) → if Region.wanted o (yielded ops a.tmps) then rOper P o a C K else K (a.put o.dst undef)) : flow P ops n Q (.run i rest) C a w :=
  ⟨o, ho, h _ (fun _ h => h)⟩
theorem flow_alt {k : Nat} {after other : Plan} {C : World → Prop} {a : Act} {w : World} {o : Oper} (ho : ops[k]? = some o) (hgd : Region.wanted o (yielded ops a.tmps) = true) (h2 : flow P ops n Q other C a w)
    (h : ∀ w', Ext w w' → o.wp P a w' (fun a' w2 => ∃ C' : World → Prop, (∀ x, C' x → C x) ∧ (∀ x y, Ext x y → C' x → C' y) ∧ C' w2 ∧ flow P ops n Q after C' a' w2) Q) : flow P ops n Q (.alt k after other) C a w :=
  ⟨⟨o, ho, fun w' hw' => by rw [if_pos hgd]; exact h w' hw'⟩, h2⟩
/-- As flow_alt, where the class stays. -/
theorem flow_keep {k : Nat} {after other : Plan} {C : World → Prop} {a : Act} {w : World} {o : Oper} (hC : ∀ x y, Ext x y → C x → C y) (ho : ops[k]? = some o) (hgd : Region.wanted o (yielded ops a.tmps) = true) (h2 : flow P ops n Q other C a w)
    (h : ∀ w', Ext w w' → o.wp P a w' (fun a' w2 => C w2 ∧ flow P ops n Q after C a' w2) Q) : flow P ops n Q (.alt k after other) C a w :=
  flow_alt ho hgd h2 fun w' hw' => Oper.wp_mono (fun _ _ hk => ⟨C, fun _ h => h, hC, hk.1, hk.2⟩) (h w' hw')

def Plan.runs : Plan → List Nat
  | .run i r => i :: r.runs
  | _ => []
def Plan.drop (i : Nat) : Plan → Plan
  | .run j r => if j = i then r else .run j (r.drop i)
  | p => p
def Plan.goto (h : Nat) : Plan → Plan
  | .run j r => .run j (r.goto h)
  | .alt k a o => if k = h then a else o.goto h
  | p => p
/-- The check: what is run is ready, and apart from all that does not wait for it; whatever else is ready is among those that may come up. -/
def planB (md : Region.Mode) (n : Nat) (ops : Array Oper) : List Nat → Plan → Array Bool → Bool
  | seen, .run i r, l => decide (i < n) && seen.isEmpty && (Region.ready md ops l).contains i && Region.free md ops l i && planB md n ops [] r (l.setIfInBounds i true)
  | seen, .alt h a o, l => decide (h < n) && (Region.ready md ops l).contains h && planB md n ops [] a (l.setIfInBounds h true) && planB md n ops (h :: seen) o l
  | seen, .stop, l => !seen.isEmpty && (Region.ready md ops l).all seen.contains
  | seen, .tail, l => seen.isEmpty && Region.seqB md ops (ops.size - n) n l
theorem free_mono {l : Array Bool} {i j : Nat} (h : Region.free md ops l j = true) : Region.free md ops (l.setIfInBounds i true) j = true := by
  unfold Region.free at *
  cases ho : ops[j]? with
  | none => rw [ho] at h; cases h
  | some oj =>
    rw [ho] at h
    simp only [List.all_eq_true, List.mem_range, Bool.or_eq_true, beq_iff_eq] at h ⊢
    intro k hk
    rcases h k hk with (h1 | h1) | h1
    · exact .inl (.inl h1)
    · by_cases hik : i = k
      · subst hik
        refine .inl (.inr ?_)
        rcases Nat.lt_or_ge i l.size with h' | h'
        · simp [h']
        · simp [h']
      · exact .inl (.inr (by rw [getD_set_ne true hik]; exact h1))
    · exact .inr h1
/-- One that is ready beside another one that may go first: apart from it. -/
theorem apart_of {l : Array Bool} {i j : Nat} {oi oj : Oper} (hj : ops[j]? = some oj) (hf : Region.free md ops l j = true) (hji : j ≠ i) (hun : l.getD j true = false) (hi : ops[i]? = some oi) (hr : i ∈ Region.ready md ops l) : oj.apart ops oi = true := by
  obtain ⟨h0, o, ho, hall⟩ := mem_ready.1 hr
  have : o = oi := Option.some.inj (ho.symm.trans hi)
  subst this
  refine Region.free_spec hj hf i o hi (Ne.symm hji) h0 fun e he hb heq => ?_
  have h1 := hall e he hb
  rw [heq, getD_both hun] at h1
  cases h1
/-- An operation apart from one that yields: whether that one's value is there already makes no difference. -/
theorem wpOp_putR {C : World → Prop} {j : Nat} {oi oj : Oper} {v : Value} (hj : ops[j]? = some oj) (hap : oi.apart ops oj = true) (hsi : ∀ cs b, oi.op ≠ .select cs b) (hsj : ∀ cs b, oj.op ≠ .select cs b)
    (hQ : ∀ c x v a w, Q (.panic c) (Act.put a x v) w → Q (.panic c) a w) {K : Act → World → Prop} {a : Act} {w : World} (hy : rYields P ops C oi v a) (h : wpOp P ops Q j K (a.put oi.dst v) w) :
    wpOp P ops Q j (fun a' w' => rYields P ops C oi v a' ∧ K (a'.put oi.dst v) w') a w := by
  obtain ⟨g1, g2, g3⟩ := Oper.apart_spec hap
  have e1 := execOp_put (ops := ops) oj hsj a oi.dst v g1
  have e2 := wanted_put oj a oi.dst v g1
  have kp : ∀ b u, rYields P ops C oi v b → rYields P ops C oi v (b.put oj.dst u) := fun b u hb => hb.same (execOp_put (ops := ops) oi hsi b oj.dst u g3) (wanted_put oi b oj.dst u g3)
  have kd : ∀ d, rYields P ops C oi v { a with defers := d :: a.defers } := fun d => hy.same rfl rfl
  have cm : ∀ (b : Act) u, (b.put oi.dst v).put oj.dst u = (b.put oj.dst u).put oi.dst v := fun b u => Act.put_comm b v u g2
  unfold wpOp at h ⊢
  simp only [hj, e2] at h ⊢
  cases hw : Region.wanted oj (yielded ops a.tmps) with
  | false =>
    simp only [hw, Bool.false_eq_true, if_false] at h ⊢
    exact ⟨kp a _ hy, by rw [← cm]; exact h⟩
  | true =>
    simp only [hw, if_true] at h ⊢
    rcases h with h | ⟨h, hl⟩
    · left
      unfold Oper.wp at h ⊢
      rw [e1] at h
      generalize (execOp a.eval oj).run P w = r at h ⊢
      cases r with
      | halt x w' => cases x <;> first | exact hQ _ _ _ _ _ h | exact h
      | ok n w' =>
        cases n <;> simp only [Oper.upon] at h ⊢
        case value u => exact ⟨kp a u hy, by rw [← cm]; exact h⟩
        case skip => exact ⟨kp a _ hy, by rw [← cm]; exact h⟩
        case defer d => exact ⟨kp _ _ (kd d), by rw [← cm, ← Act.put_defers]; exact h⟩
        case enter f args =>
          refine Calls.mono h fun e w2 he => ?_
          cases e with
          | returned u => exact ⟨kp a u hy, by rw [← cm]; exact he⟩
          | panicked c => exact hQ _ _ _ _ _ he
          | outgrown => exact he
        case row row args => exact Rows.mono h fun u w2 he => ⟨kp a u hy, by rw [← cm]; exact he⟩
    · right
      exact ⟨by unfold Oper.asks at h ⊢; rw [e1] at h; exact h, hl⟩
theorem rYields.sub {C C' : World → Prop} {o : Oper} {v : Value} {a : Act} (h : rYields P ops C o v a) (hs : ∀ x, C' x → C x) : rYields P ops C' o v a :=
  h.imp (fun ⟨h1, h2⟩ => ⟨h1, fun w hw => h2 w (hs w hw)⟩) id
theorem flow_of_yields {i : Nat} {o : Oper} {rest : Plan} {C : World → Prop} {v : Value} {a : Act} {w : World} (ho : ops[i]? = some o) (hy : rYields P ops C o v a) (h : flow P ops n Q rest C (a.put o.dst v) w) : flow P ops n Q (.run i rest) C a w := by
  refine ⟨o, ho, ?_⟩
  rcases hy with ⟨h1, h2⟩ | ⟨h1, rfl⟩
  · rw [if_pos h1]; exact ⟨v, h2, h⟩
  · rw [if_neg (by rw [h1]; simp)]; exact h
theorem yields_of_flow {i : Nat} {rest : Plan} {C : World → Prop} {a : Act} {w : World} (h : flow P ops n Q (.run i rest) C a w) : ∃ o v, ops[i]? = some o ∧ rYields P ops C o v a ∧ flow P ops n Q rest C (a.put o.dst v) w := by
  obtain ⟨o, ho, h⟩ := h
  cases hw : Region.wanted o (yielded ops a.tmps) with
  | true =>
    rw [if_pos hw] at h
    obtain ⟨v, h1, h2⟩ := h
    exact ⟨o, v, ho, .inl ⟨hw, h1⟩, h2⟩
  | false =>
    rw [if_neg (by rw [hw]; simp)] at h
    exact ⟨o, undef, ho, .inr ⟨hw, rfl⟩, h⟩
/-- One of those that yield may be taken first. -/
theorem flow_drop (hsel : Region.noSelect ops = true) {C : World → Prop} {i : Nat} {w : World} : ∀ (pl : Plan) (l : Array Bool) (a : Act), planB md n ops [] pl l = true → i ∈ Region.ready md ops l → i ∈ pl.runs → flow P ops n Q pl C a w →
    ∃ o v, ops[i]? = some o ∧ rYields P ops C o v a ∧ flow P ops n Q (pl.drop i) C (a.put o.dst v) w ∧ planB md n ops [] (pl.drop i) (l.setIfInBounds i true) = true
  | .run j r, l, a, hB, hr, hm, hf => by
    simp only [planB, Bool.and_eq_true, List.isEmpty_nil, and_true] at hB
    obtain ⟨⟨⟨hjn, hjr⟩, hfr⟩, hB⟩ := hB
    have hjr' : j ∈ Region.ready md ops l := by simpa using hjr
    obtain ⟨oj, u, hoj, hyj, hf⟩ := yields_of_flow hf
    by_cases hji : j = i
    · subst hji
      simp only [Plan.drop, if_true]
      exact ⟨oj, u, hoj, hyj, hf, hB⟩
    · have hm' : i ∈ r.runs := by
        simp only [Plan.runs, List.mem_cons] at hm
        rcases hm with hm | hm
        · exact absurd hm.symm hji
        · exact hm
      obtain ⟨oi, v, hoi, hyi, hfi, hBi⟩ := flow_drop hsel r _ _ hB (ready_mono hr (Ne.symm hji)) hm' hf
      obtain ⟨g1, g2, g3⟩ := Oper.apart_spec (apart_of hoj hfr hji (mem_ready.1 hjr').1 hoi hr)
      have s := fun k o (ho : ops[k]? = some o) cs b => Region.noSelect_spec hsel k o cs b ho
      have hyi' : rYields P ops C oi v a := hyi.same (execOp_put (ops := ops) oi (s i oi hoi) a oj.dst u g1).symm (wanted_put oi a oj.dst u g1).symm
      have hyj' : rYields P ops C oj u (a.put oi.dst v) := hyj.same (execOp_put (ops := ops) oj (s j oj hoj) a oi.dst v g3) (wanted_put oj a oi.dst v g3)
      refine ⟨oi, v, hoi, hyi', ?_, ?_⟩
      · simp only [Plan.drop, if_neg hji]
        refine flow_of_yields hoj hyj' ?_
        rw [← Act.put_comm a u v g2]
        exact hfi
      · simp only [Plan.drop, if_neg hji, planB, Bool.and_eq_true, List.isEmpty_nil, and_true]
        refine ⟨⟨⟨hjn, by simpa using ready_mono hjr' hji⟩, free_mono hfr⟩, ?_⟩
        rw [Array.setIfInBounds_comm _ _ (Ne.symm hji)]
        exact hBi
  | .alt _ _ _, _, _, _, _, hm, _ => by cases hm
  | .stop, _, _, _, _, hm, _ => by cases hm
  | .tail, _, _, _, _, hm, _ => by cases hm
/-- One of the others may be taken ahead of those that yield. -/
theorem flow_goto (hsel : Region.noSelect ops = true) (hQ : ∀ c x v a w, Q (.panic c) (Act.put a x v) w → Q (.panic c) a w) {C : World → Prop} {i : Nat} {w0 w : World} (hw : Ext w0 w) : ∀ (pl : Plan) (seen : List Nat) (l : Array Bool) (a : Act), planB md n ops seen pl l = true → i ∈ Region.ready md ops l →
    i ∉ pl.runs → i ∉ seen → i < n → flow P ops n Q pl C a w0 →
    wpOp P ops Q i (fun a' w' => ∃ C' : World → Prop, (∀ x, C' x → C x) ∧ (∀ x y, Ext x y → C' x → C' y) ∧ C' w' ∧ flow P ops n Q (pl.goto i) C' a' w') a w ∧ planB md n ops [] (pl.goto i) (l.setIfInBounds i true) = true
  | .run j r, seen, l, a, hB, hr, hm, _, hin, hf => by
    simp only [planB, Bool.and_eq_true] at hB
    obtain ⟨⟨⟨⟨hjn, _⟩, hjr⟩, hfr⟩, hB⟩ := hB
    have hjr' : j ∈ Region.ready md ops l := by simpa using hjr
    have hji : j ≠ i := fun e => hm (by rw [e]; exact List.mem_cons_self)
    obtain ⟨oj, u, hoj, hyj, hf⟩ := yields_of_flow hf
    obtain ⟨h1, h2⟩ := flow_goto hsel hQ hw r [] _ _ hB (ready_mono hr (Ne.symm hji)) (fun h => hm (List.mem_cons_of_mem _ h)) (by simp) hin hf
    obtain ⟨_, oi, hoi, _⟩ := mem_ready.1 hr
    have s := fun k o (ho : ops[k]? = some o) cs b => Region.noSelect_spec hsel k o cs b ho
    have hap := apart_of hoj hfr hji (mem_ready.1 hjr').1 hoi hr
    refine ⟨wpOp_mono (fun a' w' h => ?_) (wpOp_putR hoi hap (s j oj hoj) (s i oi hoi) hQ hyj h1), ?_⟩
    · obtain ⟨hy, C', hs, hc, hC, hf⟩ := h
      exact ⟨C', hs, hc, hC, flow_of_yields hoj (rYields.sub hy hs) hf⟩
    · simp only [Plan.goto, planB, Bool.and_eq_true, List.isEmpty_nil, and_true]
      refine ⟨⟨⟨hjn, by simpa using ready_mono hjr' hji⟩, free_mono hfr⟩, ?_⟩
      rw [Array.setIfInBounds_comm _ _ (Ne.symm hji)]
      exact h2
  | .alt k a2 o, seen, l, a, hB, hr, hm, hs, hin, hf => by
    simp only [planB, Bool.and_eq_true] at hB
    obtain ⟨⟨⟨_, _⟩, hB1⟩, hB2⟩ := hB
    obtain ⟨⟨ok, hok, h1⟩, h2⟩ := hf
    by_cases hki : k = i
    · subst hki
      simp only [Plan.goto, if_true]
      refine ⟨?_, hB1⟩
      have := h1 w hw
      unfold wpOp
      simp only [hok]
      split
      · rename_i hwt; rw [if_pos hwt] at this; exact .inl this
      · rename_i hwt; rw [if_neg hwt] at this; exact this
    · simp only [Plan.goto, if_neg hki]
      have hs' : i ∉ k :: seen := fun h => by
        rcases List.mem_cons.1 h with h | h
        · exact hki h.symm
        · exact hs h
      cases o with
      | run j r => simp [planB] at hB2
      | alt k2 a3 o2 => exact flow_goto hsel hQ hw (.alt k2 a3 o2) _ _ _ hB2 hr (by simp [Plan.runs]) hs' hin h2
      | stop => exact flow_goto hsel hQ hw .stop _ _ _ hB2 hr (by simp [Plan.runs]) hs' hin h2
      | tail => simp [planB] at hB2
  | .stop, seen, l, a, hB, hr, _, hs, _, _ => by
    simp only [planB, Bool.and_eq_true] at hB
    have := List.all_eq_true.1 hB.2 i hr
    exact absurd (by simpa using this) hs
  | .tail, seen, l, a, hB, hr, _, hs, hin, _ => by
    simp only [planB, Bool.and_eq_true] at hB
    have := seqB_ready hB.2 i hr
    omega

/-- How many are not done. -/
def undone (n : Nat) (l : Array Bool) : Nat := ((List.range n).filter fun i => !l.getD i true).length
theorem filter_less {p q : Nat → Bool} {x : Nat} : ∀ {l : List Nat}, (∀ y, q y = true → p y = true) → x ∈ l → p x = true → q x = false → (l.filter q).length < (l.filter p).length
  | [], _, hx, _, _ => by cases hx
  | y :: l, h, hx, hp, hq => by
    have le : ∀ l : List Nat, (l.filter q).length ≤ (l.filter p).length := fun l => by
      induction l with
      | nil => simp
      | cons z l ih =>
        cases hz : q z with
        | true => rw [List.filter_cons_of_pos hz, List.filter_cons_of_pos (h z hz)]; simpa using ih
        | false =>
          rw [List.filter_cons_of_neg (by rw [hz]; simp)]
          cases hz2 : p z with
          | true => rw [List.filter_cons_of_pos hz2, List.length_cons]; omega
          | false => rw [List.filter_cons_of_neg (by rw [hz2]; simp)]; exact ih
    rcases List.mem_cons.1 hx with rfl | hx
    · rw [List.filter_cons_of_pos hp, List.filter_cons_of_neg (by rw [hq]; simp), List.length_cons]
      have := le l; omega
    · have ih := filter_less h hx hp hq
      cases hz : q y with
      | true => rw [List.filter_cons_of_pos hz, List.filter_cons_of_pos (h y hz)]; simpa using ih
      | false =>
        rw [List.filter_cons_of_neg (by rw [hz]; simp)]
        cases hz2 : p y with
        | true => rw [List.filter_cons_of_pos hz2, List.length_cons]; omega
        | false => rw [List.filter_cons_of_neg (by rw [hz2]; simp)]; exact ih
theorem undone_set {l : Array Bool} {i : Nat} (hi : i < n) (hs : l.size = ops.size) (hi2 : i < ops.size) (hu : l.getD i true = false) : undone n (l.setIfInBounds i true) < undone n l := by
  refine filter_less (x := i) (fun y hy => ?_) (List.mem_range.2 hi) (by rw [hu]; rfl) (by simp [hs, hi2])
  by_cases hiy : i = y
  · subst hiy; rw [hu]; rfl
  · rw [getD_set_ne true hiy] at hy; exact hy
theorem wpAny_more : ∀ (f : Nat) (l : Array Bool) (a : Act) (w : World), wpAny P md ops Q f l a w → wpAny P md ops Q (f + 1) l a w
  | 0, l, a, w, h => ⟨fun _ => h.2, fun i hi => by rw [h.1] at hi; cases hi⟩
  | f + 1, l, a, w, h => ⟨h.1, fun i hi => wpOp_mono (fun a' w' h' => wpAny_more f _ a' w' h') (h.2 i hi)⟩
theorem wpAny_le {f g : Nat} (hfg : f ≤ g) {l : Array Bool} {a : Act} {w : World} (h : wpAny P md ops Q f l a w) : wpAny P md ops Q g l a w := by
  induction hfg with
  | refl => exact h
  | step _ ih => exact wpAny_more _ _ _ _ ih
theorem flow_sound (hsel : Region.noSelect ops = true) (hn : n < ops.size) (hsk : Region.sinkB md ops n = true) (hch : Region.chainB md ops n = true) (hQ : ∀ c x v a w, Q (.panic c) (Act.put a x v) w → Q (.panic c) a w) : ∀ (f : Nat) (pl : Plan) (C : World → Prop) (l : Array Bool) (a : Act) (w0 w : World),
    planB md n ops [] pl l = true → HeadInv md ops n l → undone n l + (ops.size - n) ≤ f → (∀ x y, Ext x y → C x → C y) → C w → Ext w0 w → flow P ops n Q pl C a w0 → wpAny P md ops Q f l a w := by
  intro f
  induction f with
  | zero => intro pl C l a w0 w hB hs hu _ _ hw hf; omega
  | succ f ih =>
    intro pl C l a w0 w hB inv hu hc hC hw hf
    by_cases hnt : pl = .tail
    · subst hnt
      simp only [planB, Bool.and_eq_true, List.isEmpty_nil, true_and] at hB
      have hl : (ops.toList.drop n).length = ops.size - n := by simp
      refine wpAny_le (f := ops.size - n) (by omega) ?_
      rw [← hl]
      exact wpAny_of_seq _ n l a w (fun j => by simp [List.getElem?_drop]) (by rw [hl]; exact hB) (hf w hw)
    have hne : Region.ready md ops l ≠ [] := fun hr => by
      cases pl with
      | run i r => simp [planB, hr] at hB
      | alt h a2 o => simp [planB, hr] at hB
      | stop => simp [planB] at hB
      | tail => exact hnt rfl
    refine ⟨fun hr => absurd hr hne, fun i hi => ?_⟩
    obtain ⟨h0, o, ho, _⟩ := mem_ready.1 hi
    have hisz := (Array.getElem?_eq_some_iff.1 ho).1
    rcases Nat.lt_or_ge i n with hin | hin
    · have hlt := undone_set (ops := ops) hin inv.size hisz h0
      by_cases hm : i ∈ pl.runs
      · obtain ⟨oi, v, hoi, hy, hf2, hB2⟩ := flow_drop hsel pl l a hB hi hm hf
        exact wpOp_of_yields hoi hC hy fun w' hw' => ih _ C _ _ w0 w' hB2 (inv.set hi hin) (by omega) hc (hc _ _ hw' hC) (Ext.trans hw hw') hf2
      · obtain ⟨h1, hB2⟩ := flow_goto hsel hQ hw pl [] l a hB hi hm (by simp) hin hf
        refine wpOp_mono (fun a' w' h => ?_) h1
        obtain ⟨C', _, hc', hC', hf2⟩ := h
        exact ih _ C' _ _ w' w' hB2 (inv.set hi hin) (by omega) hc' hC' (Below.refl _ _) hf2
    · exfalso
      have hdone : ∀ j, j < n → l.getD j true = true := fun j hj => by
        cases h : l.getD j true with
        | true => rfl
        | false => exact absurd hi (tail_waits hsk hch hn inv _ j rfl hj h i hin)
      cases pl with
      | run j r =>
        simp only [planB, Bool.and_eq_true, decide_eq_true_eq] at hB
        have h1 : j ∈ Region.ready md ops l := by simpa using hB.1.1.2
        have := (mem_ready.1 h1).1
        rw [hdone j hB.1.1.1.1] at this; cases this
      | alt h a2 o =>
        simp only [planB, Bool.and_eq_true, decide_eq_true_eq] at hB
        have h1 : h ∈ Region.ready md ops l := by simpa using hB.1.1.2
        have := (mem_ready.1 h1).1
        rw [hdone h hB.1.1.1] at this; cases this
      | stop => simp [planB] at hB
      | tail => exact hnt rfl
/-- A region that draws, by a plan for its first n operations; the order of the rest is forced. -/
theorem wp_region_flow {id : Nat} {a : Act} {w : World} {l : List Oper} (n : Nat) (pl : Plan) (hm : P.follows .mixedOrders = true) (hB : (Region.noSelect l.toArray && decide (n < l.toArray.size) && Region.sinkB .any l.toArray n && Region.chainB .any l.toArray n && planB .any n l.toArray [] pl (Array.replicate l.toArray.size false)) = true)
    (hQ : ∀ c x v a w, Q (.panic c) (Act.put a x v) w → Q (.panic c) a w) {C : World → Prop} (hC : ∀ w', Below w.heap.size w w' → C w') (hc : ∀ w', C w' → Below w.heap.size w w') (h : flow P l.toArray n Q pl C a w) : (Code.region id l.toArray true).wp P Q a w := by
  simp only [Bool.and_eq_true, decide_eq_true_eq] at hB
  obtain ⟨⟨⟨⟨h1, h2⟩, h3⟩, h4⟩, h5⟩ := hB
  refine wp_region_any hm ?_
  have hx : Ext w { w with drawn := w.drawn + 1 } := ⟨rfl, rfl, rfl, Nat.le_refl _, fun _ _ => rfl⟩
  exact flow_sound h1 h2 h3 h4 hQ _ pl C _ a w _ h5 headInv0 (by
    have := List.length_filter_le (fun i => !(Array.replicate l.toArray.size false).getD i true) (List.range n)
    rw [List.length_range] at this
    unfold undone
    omega) (fun x y hxy hx => hC _ (Ext.trans (a := w) (hc _ hx) hxy)) (hC _ hx) hx h
theorem flow_at {k : Nat} {after other : Plan} {C : World → Prop} {a : Act} {w : World} {o : Oper} (hC : ∀ x y, Ext x y → C x → C y) (ho : ops[k]? = some o) (h2 : flow P ops n Q other C a w)
    (h : ∀ w', Ext w w' → ∀ K : Act → World → Prop, (∀ a' w2, C w2 → flow P ops n Q after C a' w2 → K a' w2) → if Region.wanted o (yielded ops a.tmps) then o.wp P a w' K Q else K (a.put o.dst undef) w') : flow P ops n Q (.alt k after other) C a w :=
  ⟨⟨o, ho, fun w' hw' => h w' hw' _ fun _ _ h1 h2 => ⟨C, fun _ h => h, hC, h1, h2⟩⟩, h2⟩
end
end Go.Proofs.Ytnocdecimcpkfaa.FT

namespace Go.Proofs.Ytnocdecimcpkfaa
open Go.RowKit Go.Sort
attribute [local go_sem] rOper rAt rUpon cell_set sg_i64 sg_u64 alloc_cell alloc_frozen
attribute [local go_sem 10000] pt_eql pt_neq wal_eql wal_neq
attribute [local irreducible] rWalk

theorem RowAt.partW {α : Type} {c : α → List Value} {k : Nat} {w : World} {a : Option Addr} {L : List α} (h : RowAt c k w a L) (lo m cap : Nat) (hcap : L.length ≤ cap) :
    RowAt c k w (if cap = lo then a else a.map fun x => x.add (lo * k)) ((L.drop lo).take m) := fun j x hj => by
  have hj2 : L[lo + j]? = some x := by
    rw [List.getElem?_take] at hj
    split at hj
    · rwa [List.getElem?_drop] at hj
    · cases hj
  obtain ⟨ad, h1, h2, h3⟩ := h (lo + j) x hj2
  have hl := (List.getElem?_eq_some_iff.1 hj2).1
  refine ⟨ad.add (lo * k), ?_, by rw [addr_block]; exact h2, fun i u hu => ?_⟩
  · rw [if_neg (by omega), h1]; rfl
  · rw [show (ad.add (lo * k)).add (j * k) = ad.add ((lo + j) * k) by rw [Go.Deep.add_add, ← Nat.add_mul]]
    exact h3 i u hu
theorem run_from_wal (a : Option Addr) (n cap lo : Nat) (h1 : lo ≤ n) (w : World) : (Instr.slice 22 (.slice a n cap) (some (.int .i64 lo)) none none).run Try.prog w = .ok (.slice (if cap = lo then a else a.map fun x => x.add (lo * 5)) (n - lo) (cap - lo)) w := by
  simp [Instr.slice, Instr.sliceBounds, Instr.sliceBound, asIntOf, run_underlying Try.underlying22, go_sem, h1]
theorem run_upto_wal (a : Option Addr) (n cap hi : Nat) (h1 : hi ≤ cap) (w : World) : (Instr.slice 22 (.slice a n cap) none (some (.int .i64 hi)) none).run Try.prog w = .ok (.slice a hi cap) w := by
  cases a <;> simp [Instr.slice, Instr.sliceBounds, Instr.sliceBound, asIntOf, run_underlying Try.underlying22, go_sem, h1, Addr.add]
attribute [local go_sem ↓ 10000] run_from_wal run_upto_wal
/-- An append to a row of the call's own, in a region by a plan. -/
theorem flow_append {ops : Array Oper} {o : Oper} {a : Act} {w : World} {K : Act → World → Prop} {Q : Exit → Act → World → Prop} {E : Prop}
    (hw : Region.wanted o (yielded ops a.tmps) = true) (d x : Operand) (hop : o.op = Op.call { callee := Callee.builtin Builtin.append, args := #[d, x], argTypes := #[22, 22] })
    (B : Nat) (v : Value) (L : List Wl) (hd : a.eval d = v) (hown : WRow w B v L) (ad : Option Addr) (n c : Nat) (M : List Wl) (hx : a.eval x = .slice ad n c) (hM : M.length = n) (hrow : RowAt cW 5 w ad M) (hfl : Flat ad) (hnil : ad = none → n = 0 ∧ c = 0) (hL : L.length + n ≤ 1000000) (hbase : B ≤ w.heap.size) (d0 : Option Tmp) (hd0 : o.dst = d0)
    (h : ∀ w' v', WRow w' B v' (L ++ M) → Frm w w' (fun k => v.ownBlock = some k) → Fresh v v' w.heap.size → K (a.put d0 v') w') : if Region.wanted o (yielded ops a.tmps) = true then Oper.wp Try.prog o a w K Q else E := by
  subst hd0
  rw [if_pos hw]
  obtain ⟨i0, hi, hz0, hz1, hz2⟩ := info_parts info_wall
  cases ad with
  | none =>
    obtain ⟨rfl, rfl⟩ := hnil rfl
    have hM0 : M = [] := List.eq_nil_of_length_eq_zero hM
    subst hM0
    rw [List.append_nil] at h
    have hr := run_append_owned_none (P := Try.prog) (w := w) B 22 o.type 35 i0 5 Try.underlying22 hi v L.length _ hown
    unfold Oper.wp
    simp [execOp, hop, resolve, invoke, builtin, hd, hx, hr, Result.andThen]
    exact h w v hown (Frm.refl w _) (fun g e => .inl e)
  | some A =>
    have hA : A = ⟨A.block, A.off, none⟩ := by have := hfl A rfl; cases A; simp_all
    rw [hA] at hx hrow
    obtain ⟨v', w', hr, h2, h3, _, h4⟩ := run_append_own_at (P := Try.prog) w B 22 o.type 35 i0 _ 5 40 Try.underlying22 hi hz0 hz1 hz2 rfl (by decide) v L.length _ hown ⟨A.block, A.off, none⟩ n c (M.flatMap cW) (by rw [flatMap_len cW_len, hM]) (fun j u hu => by rw [Addr.add_lit]; exact (hrow.flat j u hu).2) (fun u hu => by
      obtain ⟨y, _, hy⟩ := List.mem_flatMap.1 hu
      exact cW_one y u hy) (by unfold maxLen; omega) (by omega) hbase
    have hR : WRow w' B v' (L ++ M) := by
      unfold WRow
      rw [List.length_append, List.flatMap_append, hM]
      exact h2
    unfold Oper.wp
    simp [execOp, hop, resolve, invoke, builtin, hd, hx, hr, Result.andThen]
    exact h w' v' hR (Frm.of_grown h3 (p := fun k => v.ownBlock = some k) (fun g e => e)) (fun g e => by
      rcases h4 with h4 | h4
      · exact .inl (h4 ▸ e)
      · right; rw [h4] at e; exact Nat.le_of_eq (Option.some.inj e))
theorem made_row (w : World) (B : Nat) (hB : B ≤ w.heap.size) : WRow (w.alloc (.cells #[] 35)) B (.slice (some ⟨w.heap.size, 0, none⟩) 0 0) [] := World.ownsRow_made w #[] 0 hB (Nat.zero_le _) (by simp)
/-- The document's walls in memory. -/
structure DocAt (w : World) (db : Nat) (v : Value) (L : List Wl) : Prop where
  box : Box w db [v] 49
  row : WRow w 0 v L
  ne : v.ownBlock ≠ some db
  le : L.length ≤ 1000000
theorem DocAt.rd {w : World} {db : Nat} {v : Value} {L : List Wl} (S : DocAt w db v L) : ∃ a c, v = .slice a L.length c ∧ DocRd w db a c L.length L ∧ (a = none → L = [] ∧ c = 0) := by
  obtain ⟨a, c, h1, h2, h3⟩ := S.row.row
  refine ⟨a, c, h1, ⟨h1 ▸ S.box, h2, rfl, S.le, ?_, h3⟩, fun e => ?_⟩
  · rcases S.row.box with ⟨e, e2⟩ | ⟨_, _, _, e, _, _, h, _⟩
    · rw [e2]; exact Nat.zero_le _
    · rw [h1] at e; simp only [Value.slice.injEq] at e; omega
  · rcases S.row.box with ⟨e1, e2⟩ | ⟨_, _, _, e2, _⟩
    · rw [h1] at e1; simp only [Value.slice.injEq] at e1; exact ⟨e2, e1.2.2⟩
    · rw [h1, e] at e2; simp at e2
theorem DocAt.ext {w w' : World} {db : Nat} {v : Value} {L : List Wl} {n : Nat} (S : DocAt w db v L) (hb : Below n w w') (hn : n = w.heap.size) : DocAt w' db v L :=
  ⟨S.box.ext hb hn, S.row.ext hb hn, S.ne, S.le⟩
theorem doc_end {w wq : World} {db : Nat} {v v' : Value} {L L' : List Wl} (S : DocAt w db v L) (hb : Below w.heap.size w wq) (hown : WRow wq w.heap.size v' L') (hl : L'.length ≤ 1000000) :
    DocAt (wq.setCell ⟨db, 0, none⟩ v') db v' L' ∧ Frm w (wq.setCell ⟨db, 0, none⟩ v') (· = db) ∧ (∀ g, v'.ownBlock = some g → w.heap.size ≤ g) := by
  have hdb := S.box.lt
  have hge : ∀ g, v'.ownBlock = some g → w.heap.size ≤ g := fun g e => (hown.lt g e).1
  have BQ : Box wq db [v] 49 := S.box.ext hb rfl
  have hne : v'.ownBlock ≠ some db := fun e => by have := hge db e; omega
  exact ⟨⟨BQ.set 0 v', ((Frm.refl wq (· = db)).setCell ⟨db, 0, none⟩ rfl v').row (hown.base (Nat.zero_le _)) (fun g e => fun h => hne (by rw [e, h])), hne, hl⟩, (Frm.of_below (p := (· = db)) hb).setCell ⟨db, 0, none⟩ rfl v', hge⟩
/-- Where put puts one. -/
def PutAt (L : List Wl) (X : Wl) (k : Nat) : Prop := k ≤ L.length ∧ (∀ (j : Nat) (h : j < L.length), k ≤ j → 0 < cmpW L[j] X) ∧ (∀ h : k - 1 < L.length, 0 < k → ¬ 0 < cmpW L[k - 1] X)
theorem drop_part {w : World} {a0 : Option Addr} {c n k : Nat} {L : List Wl} (hrow : RowAt cW 5 w a0 L) (hl : L.length = n) (hnc : n ≤ c) (hfl : Flat a0) (hk : k ≤ n) (hz : a0 = none → L = [] ∧ c = 0) :
    ∃ ad, (if c = k then a0 else a0.map fun x => x.add (k * 5)) = ad ∧ RowAt cW 5 w ad (L.drop k) ∧ Flat ad ∧ (ad = none → n - k = 0 ∧ c - k = 0) := by
  have h := hrow.partW k (n - k) c (by omega)
  rw [List.take_of_length_le (by rw [List.length_drop]; omega)] at h
  refine ⟨_, rfl, h, fun A hA => ?_, fun e => ?_⟩
  · split at hA
    · exact hfl A hA
    · cases a0 with
      | none => cases hA
      | some A0 =>
        have h0 := hfl A0 rfl
        have : A0 = ⟨A0.block, A0.off, none⟩ := by cases A0; simp_all
        rw [this] at hA
        simp only [Option.map_some, Addr.add_lit, Option.some.injEq] at hA
        rw [← hA]
  · have h0 : a0 = none := by
      split at e
      · exact e
      · cases a0 with
        | none => rfl
        | some _ => cases e
    obtain ⟨h1, h2⟩ := hz h0
    subst h1 h2
    simp at hl
    omega
set_option maxRecDepth 100000 in
set_option maxHeartbeats 4000000 in
theorem rput_any (db : Nat) (v : Value) (L : List Wl) (X : Wl) (hL : L.length < 1000000) (hgk : ∀ x ∈ L, 0 ≤ x.K ∧ x.K ≤ 2) (hXk : 0 ≤ X.K ∧ X.K ≤ 2) (w : World) (S : DocAt w db v L) :
    Calls Try.prog 40 #[.pointer (some ⟨db, 0, none⟩), .agg #[.int .i64 X.A.x, .int .i64 X.A.y, .int .i64 X.B.x, .int .i64 X.B.y, .int .i64 X.K]] w fun e w' => ∃ k v', e = .returned (.tuple #[]) ∧ PutAt L X k ∧ DocAt w' db v' (L.take k ++ X :: L.drop k) ∧ Frm w w' (· = db) ∧ (∀ g, v'.ownBlock = some g → w.heap.size ≤ g) := by
  obtain ⟨a0, c, rfl, D, hz⟩ := S.rd
  have HS := Lib.hid S
  clear S
  have hdb := D.box.lt
  obtain ⟨n, hn⟩ : ∃ n, L.length = n := ⟨_, rfl⟩
  rw [hn] at D hL HS
  have HM := Lib.hid hn
  have hnc := D.nc
  have hfl := D.flat
  obtain ⟨d0, d1, d2, d3⟩ := D.box.facts
  have HD := Lib.hid D
  have HG := Lib.hid hgk
  have HXK := Lib.hid hXk
  clear D hn hgk hXk
  go_enter Try.func40, Try.ntmps40
  go_wp2_with fail
  refine at_world fun W1 hW => ?_
  have BX : Box W1 w.heap.size [.int .i64 X.A.x, .int .i64 X.A.y, .int .i64 X.B.x, .int .i64 X.B.y, .int .i64 X.K] 35 := by rw [hW]; exact Box.new rfl
  have hw : Below w.heap.size w W1 := by rw [hW]; go_grown
  clear hW d0 d1 d2 d3
  go_loopw [4] (fun vat wr => ∃ k : Nat, k ≤ n ∧ vat = .int .i64 k ∧ Hid (∀ (j : Nat) (h : j < L.length), k ≤ j → 0 < cmpW L[j] X) ∧ Below w.heap.size w wr ∧ Box wr w.heap.size [.int .i64 X.A.x, .int .i64 X.A.y, .int .i64 X.B.x, .int .i64 X.B.y, .int .i64 X.K] 35) (fun vat _ => (intOf vat).toNat)
  case atStart => exact ⟨n, Nat.le_refl _, rfl, Lib.hid (fun j h hj => by have := HM.out; omega), hw, BX⟩
  case round =>
    clear BX hw
    obtain ⟨k, hk, rfl, HA, hwr, BX⟩ := hrel
    have BD := (HD.out.ext hwr rfl).box
    have hrow := (HD.out.ext hwr rfl).row
    by_cases hk0 : k = 0
    · have q1 : decide (0 < k) = false := by simp; omega
      have HK0 := Lib.hid hk0
      clear hk0
      have gX := BX.cells
      have gD := BD.cells
      obtain ⟨d0, d1, d2, d3⟩ := BD.facts
      go_wp2_with fail
      refine (wp_region_tail 14 (by kernel_rfl) (by kernel_rfl) (C := fun w' => ∃ p : Regrown, w' = grow (redrawn wr p.d) p.os) (fun w' h => regrown_of_below h) ?_)
      simp only [List.take_succ_cons, List.take_zero, List.drop_succ_cons, List.drop_zero]
      repeat (first | (refine rWalk_skip (Eq.refl false) ?_; simp only [Act.put, List.setIfInBounds_toArray, List.set_cons_succ, List.set_cons_zero]) | (refine rWalk_step (fun K hK => ?_); go_simp; first | (refine hK _ ?_; clear hK K) | (apply Exists.intro; refine ⟨fun _ => ?_, hK _ ?_⟩; (first | with_reducible exact toExt c5 _); clear hK K)))
      refine rWalk_nil ?_
      intro wx hb
      replace BX := BX.ext hb rfl
      replace BD := BD.ext hb rfl
      replace hrow := hrow.ext hb rfl
      replace hwr := hwr.trans (hb.mono hwr.size)
      clear hb
      clear gX gD d0 d1 d2 d3 q1
      have HPUT : Hid (PutAt L X k) := Lib.hid ⟨by rw [HM.out]; exact hk, HA.out, fun _ h => by have := HK0.out; omega⟩
      obtain ⟨ad, had, hdr, hfl2, hnil⟩ := drop_part hrow HM.out hnc hfl hk hz
      have HAD := Lib.hid had
      have HT1 := Lib.hid (show (L.take k).length = k by rw [List.length_take, HM.out]; omega)
      have HT2 := Lib.hid (show (L.drop k).length = n - k by rw [List.length_drop, HM.out])
      clear had HA
      have gX := BX.cells
      have gD := BD.cells
      obtain ⟨d0, d1, d2, d3⟩ := BD.facts
      have z2 : k ≤ c := by omega
      go_wp2_with fail
      clear d0 d1 d2 d3
      have hcB : ∀ w', (∃ p : Regrown, w' = grow (redrawn wx p.d) p.os) → Below wx.heap.size wx w' := fun w' h => by obtain ⟨p, rfl⟩ := h; exact below_regrown _ _ _
      refine FT.wp_region_flow 19 (.run 0 (.run 2 (.run 3 (.run 4 (.run 5 (.run 6 (.run 7 (.run 9 (.run 12 (.run 13 (.run 14 (.run 15 (.run 16 (.run 17 (.alt 1 (.alt 8 (.alt 10 (.alt 11 (.alt 18 (.tail) .stop) .stop) .stop) (.alt 10 (.alt 8 (.alt 11 (.alt 18 (.tail) .stop) .stop) .stop) .stop)) (.alt 10 (.alt 1 (.alt 8 (.alt 11 (.alt 18 (.tail) .stop) .stop) .stop) .stop) .stop)))))))))))))))) rfl (by kernel_rfl) (fun _ x _ _ _ h => by cases x <;> exact h) (C := fun w' => ∃ p : Regrown, w' = grow (redrawn wx p.d) p.os) (fun _ h => regrown_of_below h) hcB ?_
      have hC : ∀ x y, Ext x y → (∃ p : Regrown, x = grow (redrawn wx p.d) p.os) → (∃ p : Regrown, y = grow (redrawn wx p.d) p.os) := fun x y h1 h2 => regrown_of_below ((hcB x h2).trans (h1.mono (hcB x h2).size))
      iterate 14 (refine FT.flow_run rfl (fun K hK => ?_); go_simp; first | (refine hK _ ?_; clear hK K) | (apply Exists.intro; refine ⟨fun _ => ?_, hK _ ?_⟩; rotate_left; clear hK K))
      first | rw [HAD.out] | (have hq := HAD.out; simp only [Option.map_some] at hq; rw [hq]; clear hq)
      refine FT.flow_at hC rfl ?y10 (fun w1 hw1 K hK => ?y1)
      case y1 =>
        go_simp
        have hbM : Below wx.heap.size wx (w1.alloc (.cells #[] 35)) := Below.alloc hw1 (Below.size hw1) _
        have hrM := made_row w1 wx.heap.size (Below.size hw1)
        refine hK _ _ (regrown_of_below hbM) ?_
        clear hK K
        refine FT.flow_at hC rfl ?z10 (fun w2 hw2 K hK => ?z8)
        case z8 =>
          have hb2 := hbM.trans (Below.mono hw2 hbM.size)
          refine flow_append (by rfl) _ _ (by rfl) wx.heap.size _ [] (by rfl) (hrM.ext hw2 rfl) _ k c (L.take k) (by rfl) HT1.out ((hrow.ext hb2 rfl).take k) hfl (fun e => ⟨by have h1 := (hz e).1; have h2 := HM.out; rw [h1] at h2; simp at h2; omega, (hz e).2⟩) (by simp; omega) (Below.size hb2) (some 35) (by rfl) ?_
          intro w3 v12 hr12 hf12 hs12
          rw [List.nil_append] at hr12
          have hb3 := hb2.trans (hf12.below (fun k e => ((hrM.ext hw2 rfl).lt k e).1) hb2.size)
          refine hK _ _ (regrown_of_below hb3) ?_
          clear hK K
          simp only [Act.put, List.setIfInBounds_toArray, List.set_cons_succ, List.set_cons_zero]
          refine FT.flow_at hC rfl trivial (fun w9 hw9 K hK => ?_)
          go_simp
          have hb9 := hb3.trans (hw9.mono hb3.size)
          have hbW := hb9.alloc hb9.size (.cells #[.int .i64 X.A.x, .int .i64 X.A.y, .int .i64 X.B.x, .int .i64 X.B.y, .int .i64 X.K] 35)
          refine hK _ _ (regrown_of_below hbW) ?_
          clear hK K
          obtain ⟨bx, hbx0⟩ : ∃ bx, w9.heap.size = bx := ⟨_, rfl⟩
          have hbx : Box (w9.alloc (.cells #[.int .i64 X.A.x, .int .i64 X.A.y, .int .i64 X.B.x, .int .i64 X.B.y, .int .i64 X.K] 35)) bx (cW X) 35 := by rw [← hbx0]; exact Box.new rfl
          replace hr12 := (hr12.ext hw9 rfl).alloc (.cells #[.int .i64 X.A.x, .int .i64 X.A.y, .int .i64 X.B.x, .int .i64 X.B.y, .int .i64 X.K] 35)
          rw [hbx0]
          clear hbx0
          refine FT.flow_at hC rfl trivial (fun w4 hw4 K hK => ?_)
          have hb4 := hbW.trans (hw4.mono hbW.size)
          refine flow_append (by rfl) _ _ (by rfl) wx.heap.size v12 (L.take k) (by rfl) (hr12.ext hw4 rfl) (some ⟨bx, 0, none⟩) 1 1 [X] (by rfl) rfl (rowAt_box (by simpa using hbx.ext hw4 rfl)) (flat_lit _ _) (fun e => by cases e) (by rw [HT1.out]; omega) hb4.size (some 38) (by rfl) ?_
          intro w5 v13 hr13 hf13 hs13
          have hb5 := hb4.trans (hf13.below (fun k e => ((hr12.ext hw4 rfl).lt k e).1) hb4.size)
          refine hK _ _ (regrown_of_below hb5) ?_
          clear hK K
          simp only [Act.put, List.setIfInBounds_toArray, List.set_cons_succ, List.set_cons_zero]
          refine FT.flow_at hC rfl trivial (fun w6 hw6 K hK => ?_)
          have hb6 := hb5.trans (hw6.mono hb5.size)
          refine flow_append (by rfl) _ _ (by rfl) wx.heap.size v13 (L.take k ++ [X]) (by rfl) (hr13.ext hw6 rfl) ad (n - k) (c - k) (L.drop k) (by rfl) HT2.out (hdr.ext hb6 rfl) hfl2 hnil (by rw [List.length_append, HT1.out]; simp; omega) hb6.size (some 45) (by rfl) ?_
          intro w7 v18 hr18 hf18 hs18
          have hb7 := hb6.trans (hf18.below (fun k e => ((hr13.ext hw6 rfl).lt k e).1) hb6.size)
          refine hK _ _ (regrown_of_below hb7) ?_
          clear hK K
          simp only [Act.put, List.setIfInBounds_toArray, List.set_cons_succ, List.set_cons_zero]
          intro w8 hw8
          have hb8 := hb7.trans (hw8.mono hb7.size)
          have BD8 := BD.ext hb8 rfl
          have hw8' := hwr.trans (hb8.mono hwr.size)
          obtain ⟨hS8, hF8, hG8⟩ := doc_end HS.out hw8' ((hr18.ext hw8 rfl).base hwr.size) (by rw [List.length_append, List.length_append, HT1.out, HT2.out, List.length_singleton]; omega)
          obtain ⟨a18, n18, c18, rfl⟩ := hr18.form
          obtain ⟨d0, d1, d2, d3⟩ := BD8.facts
          clear hr12 hr13 hr18 hf13 hs13 hf18 hs18 hbx gX gD
          simp only [List.drop_succ_cons, List.drop_zero]
          go_wp2
          rw [List.append_assoc, List.singleton_append] at hS8
          exact ⟨rfl, .tuple #[], by simp [results, Try.results40, go_sem], k, _, rfl, HPUT.out, hS8, hF8, hG8⟩
        case z10 =>
          refine FT.flow_at hC rfl trivial (fun w9 hw9 K hK => ?_)
          go_simp
          have hb9 := hbM.trans (Below.mono hw9 hbM.size)
          have hbN := hb9.alloc hb9.size (.cells #[.int .i64 X.A.x, .int .i64 X.A.y, .int .i64 X.B.x, .int .i64 X.B.y, .int .i64 X.K] 35)
          refine hK _ _ (regrown_of_below hbN) ?_
          clear hK K
          have hrM9 := (hrM.ext hw9 rfl).alloc (.cells #[.int .i64 X.A.x, .int .i64 X.A.y, .int .i64 X.B.x, .int .i64 X.B.y, .int .i64 X.K] 35)
          obtain ⟨bx, hbx0⟩ : ∃ bx, w9.heap.size = bx := ⟨_, rfl⟩
          have hbx9 : Box (w9.alloc (.cells #[.int .i64 X.A.x, .int .i64 X.A.y, .int .i64 X.B.x, .int .i64 X.B.y, .int .i64 X.K] 35)) bx (cW X) 35 := by rw [← hbx0]; exact Box.new rfl
          have hne : ¬ Value.ownBlock (.slice (some ⟨w1.heap.size, 0, none⟩) 0 0) = some bx := fun e => by
            have h1 := Below.size hw9
            have e2 : w1.heap.size = bx := by simpa [Value.ownBlock] using e
            simp at h1
            omega
          rw [hbx0]
          clear hbx0
          refine FT.flow_at hC rfl trivial (fun w2 hw2 K hK => ?_)
          have hb2 := hbN.trans (Below.mono hw2 hbN.size)
          refine flow_append (by rfl) _ _ (by rfl) wx.heap.size _ [] (by rfl) (hrM9.ext hw2 rfl) _ k c (L.take k) (by rfl) HT1.out ((hrow.ext hb2 rfl).take k) hfl (fun e => ⟨by have h1 := (hz e).1; have h2 := HM.out; rw [h1] at h2; simp at h2; omega, (hz e).2⟩) (by simp; omega) (Below.size hb2) (some 35) (by rfl) ?_
          intro w3 v12 hr12 hf12 hs12
          rw [List.nil_append] at hr12
          have hbW := hb2.trans (hf12.below (fun k e => ((hrM9.ext hw2 rfl).lt k e).1) hb2.size)
          have hbx := hf12.box (hbx9.ext hw2 rfl) hne
          refine hK _ _ (regrown_of_below hbW) ?_
          clear hK K
          simp only [Act.put, List.setIfInBounds_toArray, List.set_cons_succ, List.set_cons_zero]
          refine FT.flow_at hC rfl trivial (fun w4 hw4 K hK => ?_)
          have hb4 := hbW.trans (hw4.mono hbW.size)
          refine flow_append (by rfl) _ _ (by rfl) wx.heap.size v12 (L.take k) (by rfl) (hr12.ext hw4 rfl) (some ⟨bx, 0, none⟩) 1 1 [X] (by rfl) rfl (rowAt_box (by simpa using hbx.ext hw4 rfl)) (flat_lit _ _) (fun e => by cases e) (by rw [HT1.out]; omega) hb4.size (some 38) (by rfl) ?_
          intro w5 v13 hr13 hf13 hs13
          have hb5 := hb4.trans (hf13.below (fun k e => ((hr12.ext hw4 rfl).lt k e).1) hb4.size)
          refine hK _ _ (regrown_of_below hb5) ?_
          clear hK K
          simp only [Act.put, List.setIfInBounds_toArray, List.set_cons_succ, List.set_cons_zero]
          refine FT.flow_at hC rfl trivial (fun w6 hw6 K hK => ?_)
          have hb6 := hb5.trans (hw6.mono hb5.size)
          refine flow_append (by rfl) _ _ (by rfl) wx.heap.size v13 (L.take k ++ [X]) (by rfl) (hr13.ext hw6 rfl) ad (n - k) (c - k) (L.drop k) (by rfl) HT2.out (hdr.ext hb6 rfl) hfl2 hnil (by rw [List.length_append, HT1.out]; simp; omega) hb6.size (some 45) (by rfl) ?_
          intro w7 v18 hr18 hf18 hs18
          have hb7 := hb6.trans (hf18.below (fun k e => ((hr13.ext hw6 rfl).lt k e).1) hb6.size)
          refine hK _ _ (regrown_of_below hb7) ?_
          clear hK K
          simp only [Act.put, List.setIfInBounds_toArray, List.set_cons_succ, List.set_cons_zero]
          intro w8 hw8
          have hb8 := hb7.trans (hw8.mono hb7.size)
          have BD8 := BD.ext hb8 rfl
          have hw8' := hwr.trans (hb8.mono hwr.size)
          obtain ⟨hS8, hF8, hG8⟩ := doc_end HS.out hw8' ((hr18.ext hw8 rfl).base hwr.size) (by rw [List.length_append, List.length_append, HT1.out, HT2.out, List.length_singleton]; omega)
          obtain ⟨a18, n18, c18, rfl⟩ := hr18.form
          obtain ⟨d0, d1, d2, d3⟩ := BD8.facts
          clear hr12 hr13 hr18 hf13 hs13 hf18 hs18 hbx gX gD
          simp only [List.drop_succ_cons, List.drop_zero]
          go_wp2
          rw [List.append_assoc, List.singleton_append] at hS8
          exact ⟨rfl, .tuple #[], by simp [results, Try.results40, go_sem], k, _, rfl, HPUT.out, hS8, hF8, hG8⟩
      case y10 =>
        refine FT.flow_at hC rfl trivial (fun w9 hw9 K hK => ?_)
        go_simp
        have hbN : Below wx.heap.size wx (w9.alloc (.cells #[.int .i64 X.A.x, .int .i64 X.A.y, .int .i64 X.B.x, .int .i64 X.B.y, .int .i64 X.K] 35)) := Below.alloc hw9 (Below.size hw9) _
        refine hK _ _ (regrown_of_below hbN) ?_
        clear hK K
        obtain ⟨bx, hbx0⟩ : ∃ bx, w9.heap.size = bx := ⟨_, rfl⟩
        have hbx9 : Box (w9.alloc (.cells #[.int .i64 X.A.x, .int .i64 X.A.y, .int .i64 X.B.x, .int .i64 X.B.y, .int .i64 X.K] 35)) bx (cW X) 35 := by rw [← hbx0]; exact Box.new rfl
        rw [hbx0]
        clear hbx0
        refine FT.flow_at hC rfl trivial (fun w1 hw1 K hK => ?_)
        have hb1 := hbN.trans (Below.mono hw1 hbN.size)
        have hrM := made_row w1 wx.heap.size hb1.size
        go_simp
        have hbM := hb1.alloc hb1.size (.cells #[] 35)
        refine hK _ _ (regrown_of_below hbM) ?_
        clear hK K
        have hbx1 := (hbx9.ext hw1 rfl).old (.cells #[] 35)
        have hne : ¬ Value.ownBlock (.slice (some ⟨w1.heap.size, 0, none⟩) 0 0) = some bx := fun e => by
          have h1 := (hbx9.ext hw1 rfl).lt
          have e2 : w1.heap.size = bx := by simpa [Value.ownBlock] using e
          omega
        refine FT.flow_at hC rfl trivial (fun w2 hw2 K hK => ?_)
        have hb2 := hbM.trans (Below.mono hw2 hbM.size)
        refine flow_append (by rfl) _ _ (by rfl) wx.heap.size _ [] (by rfl) (hrM.ext hw2 rfl) _ k c (L.take k) (by rfl) HT1.out ((hrow.ext hb2 rfl).take k) hfl (fun e => ⟨by have h1 := (hz e).1; have h2 := HM.out; rw [h1] at h2; simp at h2; omega, (hz e).2⟩) (by simp; omega) (Below.size hb2) (some 35) (by rfl) ?_
        intro w3 v12 hr12 hf12 hs12
        rw [List.nil_append] at hr12
        have hbW := hb2.trans (hf12.below (fun k e => ((hrM.ext hw2 rfl).lt k e).1) hb2.size)
        have hbx := hf12.box (hbx1.ext hw2 rfl) hne
        refine hK _ _ (regrown_of_below hbW) ?_
        clear hK K
        simp only [Act.put, List.setIfInBounds_toArray, List.set_cons_succ, List.set_cons_zero]
        refine FT.flow_at hC rfl trivial (fun w4 hw4 K hK => ?_)
        have hb4 := hbW.trans (hw4.mono hbW.size)
        refine flow_append (by rfl) _ _ (by rfl) wx.heap.size v12 (L.take k) (by rfl) (hr12.ext hw4 rfl) (some ⟨bx, 0, none⟩) 1 1 [X] (by rfl) rfl (rowAt_box (by simpa using hbx.ext hw4 rfl)) (flat_lit _ _) (fun e => by cases e) (by rw [HT1.out]; omega) hb4.size (some 38) (by rfl) ?_
        intro w5 v13 hr13 hf13 hs13
        have hb5 := hb4.trans (hf13.below (fun k e => ((hr12.ext hw4 rfl).lt k e).1) hb4.size)
        refine hK _ _ (regrown_of_below hb5) ?_
        clear hK K
        simp only [Act.put, List.setIfInBounds_toArray, List.set_cons_succ, List.set_cons_zero]
        refine FT.flow_at hC rfl trivial (fun w6 hw6 K hK => ?_)
        have hb6 := hb5.trans (hw6.mono hb5.size)
        refine flow_append (by rfl) _ _ (by rfl) wx.heap.size v13 (L.take k ++ [X]) (by rfl) (hr13.ext hw6 rfl) ad (n - k) (c - k) (L.drop k) (by rfl) HT2.out (hdr.ext hb6 rfl) hfl2 hnil (by rw [List.length_append, HT1.out]; simp; omega) hb6.size (some 45) (by rfl) ?_
        intro w7 v18 hr18 hf18 hs18
        have hb7 := hb6.trans (hf18.below (fun k e => ((hr13.ext hw6 rfl).lt k e).1) hb6.size)
        refine hK _ _ (regrown_of_below hb7) ?_
        clear hK K
        simp only [Act.put, List.setIfInBounds_toArray, List.set_cons_succ, List.set_cons_zero]
        intro w8 hw8
        have hb8 := hb7.trans (hw8.mono hb7.size)
        have BD8 := BD.ext hb8 rfl
        have hw8' := hwr.trans (hb8.mono hwr.size)
        obtain ⟨hS8, hF8, hG8⟩ := doc_end HS.out hw8' ((hr18.ext hw8 rfl).base hwr.size) (by rw [List.length_append, List.length_append, HT1.out, HT2.out, List.length_singleton]; omega)
        obtain ⟨a18, n18, c18, rfl⟩ := hr18.form
        obtain ⟨d0, d1, d2, d3⟩ := BD8.facts
        clear hr12 hr13 hr18 hf13 hs13 hf18 hs18 hbx gX gD
        simp only [List.drop_succ_cons, List.drop_zero]
        go_wp2
        rw [List.append_assoc, List.singleton_append] at hS8
        exact ⟨rfl, .tuple #[], by simp [results, Try.results40, go_sem], k, _, rfl, HPUT.out, hS8, hF8, hG8⟩
    · obtain ⟨i, hik⟩ : ∃ i, i + 1 = k := ⟨k - 1, by omega⟩
      have hkL : i < L.length := by rw [HM.out]; omega
      have hkn : i < n := by omega
      obtain ⟨aj, A, ea, eA, hA5⟩ := hrow.five (j := i) hkL
      have c5 := rcmpW_any L[i] X (HG.out _ (List.getElem_mem hkL)) HXK.out
      have HZ : Hid (cmpW L[i] X = cmpW L[i] X) := Lib.hid rfl
      generalize hz0 : cmpW L[i] X = z at c5 HZ
      clear HZ
      have HZ := Lib.hid hz0
      clear hz0
      have HY : Hid (L[i] = L[i]) := Lib.hid rfl
      generalize hY : L[i] = Y at hA5 c5 HY HZ
      clear HY
      have HY := Lib.hid hY
      clear hY
      obtain ⟨s0, s1, s2, s3, s4⟩ := hA5.cells
      have gX := BX.cells
      have gD := BD.cells
      obtain ⟨d0, d1, d2, d3⟩ := BD.facts
      have q1 : decide (0 < k) = true := by simp; omega
      have q0 : (0 : Int) < (k : Int) := by omega
      have q2 : IntKind.i64.wrap ((k : Int) - 1) = (i : Int) := by rw [IntKind.wrap_i64]; omega
      have q3 : (i : Int) < (n : Int) := by omega
      have q4 : (0 : Int) ≤ (i : Int) := by omega
      have HIK := Lib.hid hik
      clear hik hk0
      subst ea
      clear hA5
      cases ez : decide (0 < z) with
      | true =>
        have HA2 : Hid (∀ (j : Nat) (h : j < L.length), i ≤ j → 0 < cmpW L[j] X) := Lib.hid (fun j h hj => by
          by_cases e : j = i
          · subst e; rw [HY.out, HZ.out]; simpa using ez
          · exact HA.out j h (by have := HIK.out; omega))
        clear HA HY HZ
        go_wp2_with fail
        refine (wp_region_tail 14 (by kernel_rfl) (by kernel_rfl) (C := fun w' => ∃ p : Regrown, w' = grow (redrawn wr p.d) p.os) (fun w' h => regrown_of_below h) ?_)
        simp only [List.take_succ_cons, List.take_zero, List.drop_succ_cons, List.drop_zero]
        repeat (first | (refine rWalk_skip (Eq.refl false) ?_; simp only [Act.put, List.setIfInBounds_toArray, List.set_cons_succ, List.set_cons_zero]) | (refine rWalk_step (fun K hK => ?_); go_simp; first | (refine hK _ ?_; clear hK K) | (apply Exists.intro; refine ⟨fun _ => ?_, hK _ ?_⟩; (first | with_reducible exact toExt c5 _); clear hK K)))
        refine rWalk_nil ?_
        intro wx hb
        replace BX := BX.ext hb rfl
        replace BD := BD.ext hb rfl
        replace hrow := hrow.ext hb rfl
        replace hwr := hwr.trans (hb.mono hwr.size)
        clear hb
        clear gX gD d0 d1 d2 d3 q1 q2 q3 q4 s0 s1 s2 s3 s4 c5
        have HB := Lib.hid BX
        have HW := Lib.hid hwr
        clear BX hwr BD hrow
        go_wp2
        go_roundw
        case rel => exact ⟨i, by omega, by rw [show (i : Int) = (k : Int) - 1 by have := HIK.out; omega], HA2, HW.out, HB.out⟩
        case measure => simp [intOf]; omega
      | false =>
        have HTOP : Hid (∀ h : k - 1 < L.length, 0 < k → ¬ 0 < cmpW L[k - 1] X) := Lib.hid (fun h _ => by
          have e : k - 1 = i := by have := HIK.out; omega
          have h2 : L[k - 1] = L[i] := by simp only [e]
          rw [h2, HY.out, HZ.out]; simpa using ez)
        clear HY HZ
        go_wp2_with fail
        refine (wp_region_tail 14 (by kernel_rfl) (by kernel_rfl) (C := fun w' => ∃ p : Regrown, w' = grow (redrawn wr p.d) p.os) (fun w' h => regrown_of_below h) ?_)
        simp only [List.take_succ_cons, List.take_zero, List.drop_succ_cons, List.drop_zero]
        repeat (first | (refine rWalk_skip (Eq.refl false) ?_; simp only [Act.put, List.setIfInBounds_toArray, List.set_cons_succ, List.set_cons_zero]) | (refine rWalk_step (fun K hK => ?_); go_simp; first | (refine hK _ ?_; clear hK K) | (apply Exists.intro; refine ⟨fun _ => ?_, hK _ ?_⟩; (first | with_reducible exact toExt c5 _); clear hK K)))
        refine rWalk_nil ?_
        intro wx hb
        replace BX := BX.ext hb rfl
        replace BD := BD.ext hb rfl
        replace hrow := hrow.ext hb rfl
        replace hwr := hwr.trans (hb.mono hwr.size)
        clear hb
        clear gX gD d0 d1 d2 d3 q0 q1 q2 q3 q4 s0 s1 s2 s3 s4 c5
        have HPUT : Hid (PutAt L X k) := Lib.hid ⟨by rw [HM.out]; exact hk, HA.out, fun h h0 => by have := HTOP.out h h0; omega⟩
        obtain ⟨ad, had, hdr, hfl2, hnil⟩ := drop_part hrow HM.out hnc hfl hk hz
        have HAD := Lib.hid had
        have HT1 := Lib.hid (show (L.take k).length = k by rw [List.length_take, HM.out]; omega)
        have HT2 := Lib.hid (show (L.drop k).length = n - k by rw [List.length_drop, HM.out])
        clear had HA
        have gX := BX.cells
        have gD := BD.cells
        obtain ⟨d0, d1, d2, d3⟩ := BD.facts
        have z2 : k ≤ c := by omega
        go_wp2_with fail
        clear d0 d1 d2 d3
        have hcB : ∀ w', (∃ p : Regrown, w' = grow (redrawn wx p.d) p.os) → Below wx.heap.size wx w' := fun w' h => by obtain ⟨p, rfl⟩ := h; exact below_regrown _ _ _
        refine FT.wp_region_flow 19 (.run 0 (.run 2 (.run 3 (.run 4 (.run 5 (.run 6 (.run 7 (.run 9 (.run 12 (.run 13 (.run 14 (.run 15 (.run 16 (.run 17 (.alt 1 (.alt 8 (.alt 10 (.alt 11 (.alt 18 (.tail) .stop) .stop) .stop) (.alt 10 (.alt 8 (.alt 11 (.alt 18 (.tail) .stop) .stop) .stop) .stop)) (.alt 10 (.alt 1 (.alt 8 (.alt 11 (.alt 18 (.tail) .stop) .stop) .stop) .stop) .stop)))))))))))))))) rfl (by kernel_rfl) (fun _ x _ _ _ h => by cases x <;> exact h) (C := fun w' => ∃ p : Regrown, w' = grow (redrawn wx p.d) p.os) (fun _ h => regrown_of_below h) hcB ?_
        have hC : ∀ x y, Ext x y → (∃ p : Regrown, x = grow (redrawn wx p.d) p.os) → (∃ p : Regrown, y = grow (redrawn wx p.d) p.os) := fun x y h1 h2 => regrown_of_below ((hcB x h2).trans (h1.mono (hcB x h2).size))
        iterate 14 (refine FT.flow_run rfl (fun K hK => ?_); go_simp; first | (refine hK _ ?_; clear hK K) | (apply Exists.intro; refine ⟨fun _ => ?_, hK _ ?_⟩; rotate_left; clear hK K))
        first | rw [HAD.out] | (have hq := HAD.out; simp only [Option.map_some] at hq; rw [hq]; clear hq)
        refine FT.flow_at hC rfl ?y10 (fun w1 hw1 K hK => ?y1)
        case y1 =>
          go_simp
          have hbM : Below wx.heap.size wx (w1.alloc (.cells #[] 35)) := Below.alloc hw1 (Below.size hw1) _
          have hrM := made_row w1 wx.heap.size (Below.size hw1)
          refine hK _ _ (regrown_of_below hbM) ?_
          clear hK K
          refine FT.flow_at hC rfl ?z10 (fun w2 hw2 K hK => ?z8)
          case z8 =>
            have hb2 := hbM.trans (Below.mono hw2 hbM.size)
            refine flow_append (by rfl) _ _ (by rfl) wx.heap.size _ [] (by rfl) (hrM.ext hw2 rfl) _ k c (L.take k) (by rfl) HT1.out ((hrow.ext hb2 rfl).take k) hfl (fun e => ⟨by have h1 := (hz e).1; have h2 := HM.out; rw [h1] at h2; simp at h2; omega, (hz e).2⟩) (by simp; omega) (Below.size hb2) (some 35) (by rfl) ?_
            intro w3 v12 hr12 hf12 hs12
            rw [List.nil_append] at hr12
            have hb3 := hb2.trans (hf12.below (fun k e => ((hrM.ext hw2 rfl).lt k e).1) hb2.size)
            refine hK _ _ (regrown_of_below hb3) ?_
            clear hK K
            simp only [Act.put, List.setIfInBounds_toArray, List.set_cons_succ, List.set_cons_zero]
            refine FT.flow_at hC rfl trivial (fun w9 hw9 K hK => ?_)
            go_simp
            have hb9 := hb3.trans (hw9.mono hb3.size)
            have hbW := hb9.alloc hb9.size (.cells #[.int .i64 X.A.x, .int .i64 X.A.y, .int .i64 X.B.x, .int .i64 X.B.y, .int .i64 X.K] 35)
            refine hK _ _ (regrown_of_below hbW) ?_
            clear hK K
            obtain ⟨bx, hbx0⟩ : ∃ bx, w9.heap.size = bx := ⟨_, rfl⟩
            have hbx : Box (w9.alloc (.cells #[.int .i64 X.A.x, .int .i64 X.A.y, .int .i64 X.B.x, .int .i64 X.B.y, .int .i64 X.K] 35)) bx (cW X) 35 := by rw [← hbx0]; exact Box.new rfl
            replace hr12 := (hr12.ext hw9 rfl).alloc (.cells #[.int .i64 X.A.x, .int .i64 X.A.y, .int .i64 X.B.x, .int .i64 X.B.y, .int .i64 X.K] 35)
            rw [hbx0]
            clear hbx0
            refine FT.flow_at hC rfl trivial (fun w4 hw4 K hK => ?_)
            have hb4 := hbW.trans (hw4.mono hbW.size)
            refine flow_append (by rfl) _ _ (by rfl) wx.heap.size v12 (L.take k) (by rfl) (hr12.ext hw4 rfl) (some ⟨bx, 0, none⟩) 1 1 [X] (by rfl) rfl (rowAt_box (by simpa using hbx.ext hw4 rfl)) (flat_lit _ _) (fun e => by cases e) (by rw [HT1.out]; omega) hb4.size (some 38) (by rfl) ?_
            intro w5 v13 hr13 hf13 hs13
            have hb5 := hb4.trans (hf13.below (fun k e => ((hr12.ext hw4 rfl).lt k e).1) hb4.size)
            refine hK _ _ (regrown_of_below hb5) ?_
            clear hK K
            simp only [Act.put, List.setIfInBounds_toArray, List.set_cons_succ, List.set_cons_zero]
            refine FT.flow_at hC rfl trivial (fun w6 hw6 K hK => ?_)
            have hb6 := hb5.trans (hw6.mono hb5.size)
            refine flow_append (by rfl) _ _ (by rfl) wx.heap.size v13 (L.take k ++ [X]) (by rfl) (hr13.ext hw6 rfl) ad (n - k) (c - k) (L.drop k) (by rfl) HT2.out (hdr.ext hb6 rfl) hfl2 hnil (by rw [List.length_append, HT1.out]; simp; omega) hb6.size (some 45) (by rfl) ?_
            intro w7 v18 hr18 hf18 hs18
            have hb7 := hb6.trans (hf18.below (fun k e => ((hr13.ext hw6 rfl).lt k e).1) hb6.size)
            refine hK _ _ (regrown_of_below hb7) ?_
            clear hK K
            simp only [Act.put, List.setIfInBounds_toArray, List.set_cons_succ, List.set_cons_zero]
            intro w8 hw8
            have hb8 := hb7.trans (hw8.mono hb7.size)
            have BD8 := BD.ext hb8 rfl
            have hw8' := hwr.trans (hb8.mono hwr.size)
            obtain ⟨hS8, hF8, hG8⟩ := doc_end HS.out hw8' ((hr18.ext hw8 rfl).base hwr.size) (by rw [List.length_append, List.length_append, HT1.out, HT2.out, List.length_singleton]; omega)
            obtain ⟨a18, n18, c18, rfl⟩ := hr18.form
            obtain ⟨d0, d1, d2, d3⟩ := BD8.facts
            clear hr12 hr13 hr18 hf13 hs13 hf18 hs18 hbx gX gD
            simp only [List.drop_succ_cons, List.drop_zero]
            go_wp2
            rw [List.append_assoc, List.singleton_append] at hS8
            exact ⟨rfl, .tuple #[], by simp [results, Try.results40, go_sem], k, _, rfl, HPUT.out, hS8, hF8, hG8⟩
          case z10 =>
            refine FT.flow_at hC rfl trivial (fun w9 hw9 K hK => ?_)
            go_simp
            have hb9 := hbM.trans (Below.mono hw9 hbM.size)
            have hbN := hb9.alloc hb9.size (.cells #[.int .i64 X.A.x, .int .i64 X.A.y, .int .i64 X.B.x, .int .i64 X.B.y, .int .i64 X.K] 35)
            refine hK _ _ (regrown_of_below hbN) ?_
            clear hK K
            have hrM9 := (hrM.ext hw9 rfl).alloc (.cells #[.int .i64 X.A.x, .int .i64 X.A.y, .int .i64 X.B.x, .int .i64 X.B.y, .int .i64 X.K] 35)
            obtain ⟨bx, hbx0⟩ : ∃ bx, w9.heap.size = bx := ⟨_, rfl⟩
            have hbx9 : Box (w9.alloc (.cells #[.int .i64 X.A.x, .int .i64 X.A.y, .int .i64 X.B.x, .int .i64 X.B.y, .int .i64 X.K] 35)) bx (cW X) 35 := by rw [← hbx0]; exact Box.new rfl
            have hne : ¬ Value.ownBlock (.slice (some ⟨w1.heap.size, 0, none⟩) 0 0) = some bx := fun e => by
              have h1 := Below.size hw9
              have e2 : w1.heap.size = bx := by simpa [Value.ownBlock] using e
              simp at h1
              omega
            rw [hbx0]
            clear hbx0
            refine FT.flow_at hC rfl trivial (fun w2 hw2 K hK => ?_)
            have hb2 := hbN.trans (Below.mono hw2 hbN.size)
            refine flow_append (by rfl) _ _ (by rfl) wx.heap.size _ [] (by rfl) (hrM9.ext hw2 rfl) _ k c (L.take k) (by rfl) HT1.out ((hrow.ext hb2 rfl).take k) hfl (fun e => ⟨by have h1 := (hz e).1; have h2 := HM.out; rw [h1] at h2; simp at h2; omega, (hz e).2⟩) (by simp; omega) (Below.size hb2) (some 35) (by rfl) ?_
            intro w3 v12 hr12 hf12 hs12
            rw [List.nil_append] at hr12
            have hbW := hb2.trans (hf12.below (fun k e => ((hrM9.ext hw2 rfl).lt k e).1) hb2.size)
            have hbx := hf12.box (hbx9.ext hw2 rfl) hne
            refine hK _ _ (regrown_of_below hbW) ?_
            clear hK K
            simp only [Act.put, List.setIfInBounds_toArray, List.set_cons_succ, List.set_cons_zero]
            refine FT.flow_at hC rfl trivial (fun w4 hw4 K hK => ?_)
            have hb4 := hbW.trans (hw4.mono hbW.size)
            refine flow_append (by rfl) _ _ (by rfl) wx.heap.size v12 (L.take k) (by rfl) (hr12.ext hw4 rfl) (some ⟨bx, 0, none⟩) 1 1 [X] (by rfl) rfl (rowAt_box (by simpa using hbx.ext hw4 rfl)) (flat_lit _ _) (fun e => by cases e) (by rw [HT1.out]; omega) hb4.size (some 38) (by rfl) ?_
            intro w5 v13 hr13 hf13 hs13
            have hb5 := hb4.trans (hf13.below (fun k e => ((hr12.ext hw4 rfl).lt k e).1) hb4.size)
            refine hK _ _ (regrown_of_below hb5) ?_
            clear hK K
            simp only [Act.put, List.setIfInBounds_toArray, List.set_cons_succ, List.set_cons_zero]
            refine FT.flow_at hC rfl trivial (fun w6 hw6 K hK => ?_)
            have hb6 := hb5.trans (hw6.mono hb5.size)
            refine flow_append (by rfl) _ _ (by rfl) wx.heap.size v13 (L.take k ++ [X]) (by rfl) (hr13.ext hw6 rfl) ad (n - k) (c - k) (L.drop k) (by rfl) HT2.out (hdr.ext hb6 rfl) hfl2 hnil (by rw [List.length_append, HT1.out]; simp; omega) hb6.size (some 45) (by rfl) ?_
            intro w7 v18 hr18 hf18 hs18
            have hb7 := hb6.trans (hf18.below (fun k e => ((hr13.ext hw6 rfl).lt k e).1) hb6.size)
            refine hK _ _ (regrown_of_below hb7) ?_
            clear hK K
            simp only [Act.put, List.setIfInBounds_toArray, List.set_cons_succ, List.set_cons_zero]
            intro w8 hw8
            have hb8 := hb7.trans (hw8.mono hb7.size)
            have BD8 := BD.ext hb8 rfl
            have hw8' := hwr.trans (hb8.mono hwr.size)
            obtain ⟨hS8, hF8, hG8⟩ := doc_end HS.out hw8' ((hr18.ext hw8 rfl).base hwr.size) (by rw [List.length_append, List.length_append, HT1.out, HT2.out, List.length_singleton]; omega)
            obtain ⟨a18, n18, c18, rfl⟩ := hr18.form
            obtain ⟨d0, d1, d2, d3⟩ := BD8.facts
            clear hr12 hr13 hr18 hf13 hs13 hf18 hs18 hbx gX gD
            simp only [List.drop_succ_cons, List.drop_zero]
            go_wp2
            rw [List.append_assoc, List.singleton_append] at hS8
            exact ⟨rfl, .tuple #[], by simp [results, Try.results40, go_sem], k, _, rfl, HPUT.out, hS8, hF8, hG8⟩
        case y10 =>
          refine FT.flow_at hC rfl trivial (fun w9 hw9 K hK => ?_)
          go_simp
          have hbN : Below wx.heap.size wx (w9.alloc (.cells #[.int .i64 X.A.x, .int .i64 X.A.y, .int .i64 X.B.x, .int .i64 X.B.y, .int .i64 X.K] 35)) := Below.alloc hw9 (Below.size hw9) _
          refine hK _ _ (regrown_of_below hbN) ?_
          clear hK K
          obtain ⟨bx, hbx0⟩ : ∃ bx, w9.heap.size = bx := ⟨_, rfl⟩
          have hbx9 : Box (w9.alloc (.cells #[.int .i64 X.A.x, .int .i64 X.A.y, .int .i64 X.B.x, .int .i64 X.B.y, .int .i64 X.K] 35)) bx (cW X) 35 := by rw [← hbx0]; exact Box.new rfl
          rw [hbx0]
          clear hbx0
          refine FT.flow_at hC rfl trivial (fun w1 hw1 K hK => ?_)
          have hb1 := hbN.trans (Below.mono hw1 hbN.size)
          have hrM := made_row w1 wx.heap.size hb1.size
          go_simp
          have hbM := hb1.alloc hb1.size (.cells #[] 35)
          refine hK _ _ (regrown_of_below hbM) ?_
          clear hK K
          have hbx1 := (hbx9.ext hw1 rfl).old (.cells #[] 35)
          have hne : ¬ Value.ownBlock (.slice (some ⟨w1.heap.size, 0, none⟩) 0 0) = some bx := fun e => by
            have h1 := (hbx9.ext hw1 rfl).lt
            have e2 : w1.heap.size = bx := by simpa [Value.ownBlock] using e
            omega
          refine FT.flow_at hC rfl trivial (fun w2 hw2 K hK => ?_)
          have hb2 := hbM.trans (Below.mono hw2 hbM.size)
          refine flow_append (by rfl) _ _ (by rfl) wx.heap.size _ [] (by rfl) (hrM.ext hw2 rfl) _ k c (L.take k) (by rfl) HT1.out ((hrow.ext hb2 rfl).take k) hfl (fun e => ⟨by have h1 := (hz e).1; have h2 := HM.out; rw [h1] at h2; simp at h2; omega, (hz e).2⟩) (by simp; omega) (Below.size hb2) (some 35) (by rfl) ?_
          intro w3 v12 hr12 hf12 hs12
          rw [List.nil_append] at hr12
          have hbW := hb2.trans (hf12.below (fun k e => ((hrM.ext hw2 rfl).lt k e).1) hb2.size)
          have hbx := hf12.box (hbx1.ext hw2 rfl) hne
          refine hK _ _ (regrown_of_below hbW) ?_
          clear hK K
          simp only [Act.put, List.setIfInBounds_toArray, List.set_cons_succ, List.set_cons_zero]
          refine FT.flow_at hC rfl trivial (fun w4 hw4 K hK => ?_)
          have hb4 := hbW.trans (hw4.mono hbW.size)
          refine flow_append (by rfl) _ _ (by rfl) wx.heap.size v12 (L.take k) (by rfl) (hr12.ext hw4 rfl) (some ⟨bx, 0, none⟩) 1 1 [X] (by rfl) rfl (rowAt_box (by simpa using hbx.ext hw4 rfl)) (flat_lit _ _) (fun e => by cases e) (by rw [HT1.out]; omega) hb4.size (some 38) (by rfl) ?_
          intro w5 v13 hr13 hf13 hs13
          have hb5 := hb4.trans (hf13.below (fun k e => ((hr12.ext hw4 rfl).lt k e).1) hb4.size)
          refine hK _ _ (regrown_of_below hb5) ?_
          clear hK K
          simp only [Act.put, List.setIfInBounds_toArray, List.set_cons_succ, List.set_cons_zero]
          refine FT.flow_at hC rfl trivial (fun w6 hw6 K hK => ?_)
          have hb6 := hb5.trans (hw6.mono hb5.size)
          refine flow_append (by rfl) _ _ (by rfl) wx.heap.size v13 (L.take k ++ [X]) (by rfl) (hr13.ext hw6 rfl) ad (n - k) (c - k) (L.drop k) (by rfl) HT2.out (hdr.ext hb6 rfl) hfl2 hnil (by rw [List.length_append, HT1.out]; simp; omega) hb6.size (some 45) (by rfl) ?_
          intro w7 v18 hr18 hf18 hs18
          have hb7 := hb6.trans (hf18.below (fun k e => ((hr13.ext hw6 rfl).lt k e).1) hb6.size)
          refine hK _ _ (regrown_of_below hb7) ?_
          clear hK K
          simp only [Act.put, List.setIfInBounds_toArray, List.set_cons_succ, List.set_cons_zero]
          intro w8 hw8
          have hb8 := hb7.trans (hw8.mono hb7.size)
          have BD8 := BD.ext hb8 rfl
          have hw8' := hwr.trans (hb8.mono hwr.size)
          obtain ⟨hS8, hF8, hG8⟩ := doc_end HS.out hw8' ((hr18.ext hw8 rfl).base hwr.size) (by rw [List.length_append, List.length_append, HT1.out, HT2.out, List.length_singleton]; omega)
          obtain ⟨a18, n18, c18, rfl⟩ := hr18.form
          obtain ⟨d0, d1, d2, d3⟩ := BD8.facts
          clear hr12 hr13 hr18 hf13 hs13 hf18 hs18 hbx gX gD
          simp only [List.drop_succ_cons, List.drop_zero]
          go_wp2
          rw [List.append_assoc, List.singleton_append] at hS8
          exact ⟨rfl, .tuple #[], by simp [results, Try.results40, go_sem], k, _, rfl, HPUT.out, hS8, hF8, hG8⟩
end Go.Proofs.Ytnocdecimcpkfaa
