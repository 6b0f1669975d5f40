/- A region that draws its order: some operations in whatever order, then one that looks at no memory and may come at any time from there on, then some more in whatever order, then a tail in forced order. -/
import Derived.Test.YtijdbddjhnjcdaaSlip
namespace Go.Proofs.Ytijdbddjhnjcdaa
open Go.RowKit Go.Sort

section
variable {P : Program} {ops : Array Oper} {md : Region.Mode} {C : World → Prop}

def doneB (n : Nat) (listed : Array Bool) : Bool := (List.range n).all fun i => listed.getD i false
/-- Whatever order is picked among the first n: no later operation is ready before they are done. -/
def okB (md : Region.Mode) (ops : Array Oper) (n : Nat) : Nat → Array Bool → Bool
  | 0, listed => doneB n listed
  | f + 1, listed => doneB n listed || ((Region.ready md ops listed).all fun j => decide (j < n) && okB md ops n f (listed.setIfInBounds j true))
theorem okB_set {n : Nat} : ∀ (f : Nat) (listed : Array Bool) (j : Nat), okB md ops n f listed = true → j ∈ Region.ready md ops listed → j < n → ∃ f, okB md ops n f (listed.setIfInBounds j true) = true := by
  intro f listed j h hj hn
  have hd : doneB n listed = true → False := fun hd => by
    have := headDone_ready (md := md) (ops := ops) hd j hj; omega
  cases f with
  | zero => exact (hd h).elim
  | succ f =>
    simp only [okB, Bool.or_eq_true] at h
    rcases h with h | h
    · exact (hd h).elim
    · have := List.all_eq_true.1 h j hj
      simp only [Bool.and_eq_true] at this
      exact ⟨f, this.2⟩
theorem okB_tail {n : Nat} : ∀ (f : Nat) (listed : Array Bool), okB md ops n f listed = true → TailWaits md ops n listed := by
  intro f listed h i hi hun t ht hr
  have hd : doneB n listed = true → False := fun hd => by
    have h1 := List.all_eq_true.1 hd i (List.mem_range.2 hi)
    rw [getD_both hun] at h1; cases h1
  cases f with
  | zero => exact hd h
  | succ f =>
    simp only [okB, Bool.or_eq_true] at h
    rcases h with h | h
    · exact hd h
    · have := List.all_eq_true.1 h t hr
      simp only [Bool.and_eq_true, decide_eq_true_eq] at this
      omega
def seqL (md : Region.Mode) (ops : Array Oper) : List Nat → Array Bool → Bool
  | [], listed => (Region.ready md ops listed).isEmpty
  | k :: js, listed => decide (Region.ready md ops listed = [k]) && seqL md ops js (listed.setIfInBounds k true)
theorem wpAny_of_list {Q : Exit → Act → World → Prop} : ∀ (js : List Nat) (l : List Oper) (listed : Array Bool) (a : Act) (w : World), js.map (fun j => ops[j]?) = l.map some →
    seqL md ops js listed = true → wpList P ops Q l a w → wpAny P md ops Q js.length listed a w
  | [], [], _, _, _, _, hB, h => ⟨by simpa [seqL] using hB, h⟩
  | [], _ :: _, _, _, _, hl, _, _ => by cases hl
  | _ :: _, [], _, _, _, hl, _, _ => by cases hl
  | k :: js, o :: l, listed, a, w, hl, hB, h => by
    simp only [List.map_cons, List.cons.injEq] at hl
    obtain ⟨h0, hl⟩ := hl
    simp only [seqL, Bool.and_eq_true, decide_eq_true_eq] at hB
    refine ⟨fun h1 => (by rw [hB.1] at h1; cases h1), fun i hi => ?_⟩
    rw [hB.1] at hi
    have hik : i = k := by simpa using hi
    subst hik
    have hw : wpOp P ops Q i (wpList P ops Q l) a w := by unfold wpOp; simp only [h0]; exact h
    exact wpOp_mono (fun a' w' h' => wpAny_of_list js l _ a' w' hl hB.2 h') hw
def afterB (md : Region.Mode) (ops : Array Oper) (n1 f n2 : Nat) (js : List Nat) (listed : Array Bool) : Bool :=
  doneB n1 listed && (Region.ready md ops listed).contains f && Region.free md ops listed f &&
  (okB md ops n2 (n2 - n1) (listed.setIfInBounds f true) && orderG md ops n2 (fun m => doneB n2 m && seqL md ops js m) (List.range' n1 (n2 - n1)) (listed.setIfInBounds f true))
def floatB (md : Region.Mode) (ops : Array Oper) (n1 f n2 : Nat) (js : List Nat) : Bool :=
  Region.noSelect ops && decide (n1 + (1 + ((n2 - n1) + js.length)) = ops.size) && okB md ops n1 n1 (Array.replicate ops.size false) &&
  orderG md ops n1 (afterB md ops n1 f n2 js) (List.range n1) (Array.replicate ops.size false)
theorem wp_region_float {id : Nat} {Q : Exit → Act → World → Prop} {a : Act} {w : World} {l : List Oper} (n1 f n2 : Nat) (js : List Nat) {o : Oper} (hm : P.follows .mixedOrders = true)
    (hB : floatB .any l.toArray n1 f n2 js = true) (hf : l.toArray[f]? = some o) (hjs : js.map (fun j => l.toArray[j]?) = ((l.drop n2).eraseIdx (f - n2)).map some)
    (h1 : (List.range n1).map (fun i => l.toArray[i]?) = (l.take n1).map some) (h2 : (List.range' n1 (n2 - n1)).map (fun i => l.toArray[i]?) = ((l.drop n1).take (n2 - n1)).map some)
    (hQ : ∀ c v a w, Q (.panic c) (Act.put a o.dst v) w → Q (.panic c) a w)
    (hC : ∀ w', Below w.heap.size w w' → C w')
    (h : rWalk P l.toArray C (fun a1 => ∃ v, Yields P l.toArray o v a1 ∧ rWalk P l.toArray C (fun a2 => ∀ w', Below w.heap.size w w' → wpList P l.toArray Q ((l.drop n2).eraseIdx (f - n2)) a2 w') ((l.drop n1).take (n2 - n1)) (a1.put o.dst v)) (l.take n1) a) : (Code.region id l.toArray true).wp P Q a w := by
  simp only [floatB, Bool.and_eq_true, decide_eq_true_eq] at hB
  obtain ⟨⟨⟨hsel, hn⟩, hok⟩, ho⟩ := hB
  have H := rAny_orderG (md := .any) (C := C) hsel (fun listed => ∃ f, okB .any l.toArray n1 f listed = true) (fun listed j inv hj hjn => by obtain ⟨f, inv⟩ := inv; exact okB_set f listed j inv hj hjn)
    (fun listed inv => by obtain ⟨f, inv⟩ := inv; exact okB_tail f listed inv)
    (fun listed hS => headDone_ready (by simp only [afterB, Bool.and_eq_true] at hS; exact hS.1.1.1)) (List.range n1) (l.take n1) _ a h1 ⟨_, hok⟩ ho h
  refine wp_region_any hm ?_
  have := rAny_then (md := .any) (Q := Q) (g := 1 + ((n2 - n1) + js.length)) (D := fun w' => Below w.heap.size w w') hC (fun a b ha hb => Ext.trans (a := w) ha hb)
    (fun listed a1 w1 hw1 hL => by
      obtain ⟨hS, v, hy, hK⟩ := hL
      simp only [afterB, Bool.and_eq_true] at hS
      obtain ⟨⟨⟨_, hr⟩, hfr⟩, hok2, ho2⟩ := hS
      rw [Nat.add_comm 1]
      refine wpAny_take hf hsel hfr hr (fun c a w => hQ c v a w) hy ?_
      have H2 := rAny_orderG (md := .any) (C := C) hsel (fun listed => ∃ f, okB .any l.toArray n2 f listed = true) (fun listed j inv hj hjn => by obtain ⟨f, inv⟩ := inv; exact okB_set f listed j inv hj hjn)
        (fun listed inv => by obtain ⟨f, inv⟩ := inv; exact okB_tail f listed inv)
        (fun listed hS => headDone_ready (by simp only [Bool.and_eq_true] at hS; exact hS.1)) (List.range' n1 (n2 - n1)) ((l.drop n1).take (n2 - n1)) _ _ h2 ⟨_, hok2⟩ ho2 hK
      have := rAny_then (md := .any) (Q := Q) (g := js.length) (D := fun w' => Below w.heap.size w w') hC (fun a b ha hb => Ext.trans (a := w) ha hb)
        (fun listed a2 w2 hw2 hL => by
          obtain ⟨hS, hK⟩ := hL
          simp only [Bool.and_eq_true] at hS
          exact wpAny_of_list js _ listed a2 w2 hjs hS.2 (hK w2 hw2)) _ _ _ w1 hw1 H2
      rw [List.length_range'] at this
      exact this) _ _ _ { w with drawn := w.drawn + 1 } ⟨rfl, rfl, rfl, Nat.le_refl _, fun _ _ => rfl⟩ H
  rw [List.length_range, hn] at this
  exact this
end
end Go.Proofs.Ytijdbddjhnjcdaa
