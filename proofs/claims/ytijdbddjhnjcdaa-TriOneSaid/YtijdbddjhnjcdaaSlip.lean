/- A region that draws its order, behind whose head some operations that look at no memory (a call's further result taken out) may come up before or behind a store: they may be taken first. -/
import Derived.Test.YtijdbddjhnjcdaaRegion
namespace Go.Proofs.Ytijdbddjhnjcdaa
open Go.RowKit Go.Sort

section
variable {P : Program} {ops : Array Oper} {md : Region.Mode} {C : World → Prop}

theorem rAny_then {n g : Nat} {Q : Exit → Act → World → Prop} {L : Array Bool → Act → Prop} {D : World → Prop} (hD : ∀ w, D w → C w) (hDe : ∀ w w', D w → Ext w w' → D w')
    (hL : ∀ listed a w, D w → L listed a → wpAny P md ops Q g listed a w) :
    ∀ (f : Nat) (listed : Array Bool) (a : Act) (w : World), D w → rAny P md ops C n L f listed a → wpAny P md ops Q (f + g) listed a w
  | 0, listed, a, w, hw, h => by rw [Nat.zero_add]; exact hL _ _ _ hw h
  | f + 1, listed, a, w, hw, h => by
    rw [show f + 1 + g = (f + g) + 1 by omega]
    refine ⟨fun h0 => absurd h0 h.1, fun i hi => ?_⟩
    obtain ⟨hin, o, v, ho, hy, hK⟩ := h.2 i hi
    refine wpOp_of_yields ho (hD w hw) hy fun w' hw' => ?_
    exact rAny_then hD hDe hL f _ _ w' (hDe _ _ hw hw') hK

/-- The slipping operations: each ready and free in its turn; then g operations in forced order. -/
def slipB (md : Region.Mode) (ops : Array Oper) (g : Nat) : Nat → Nat → Array Bool → Bool
  | 0, k, listed => Region.seqB md ops g k listed
  | s + 1, k, listed => (Region.ready md ops listed).contains k && Region.free md ops listed k && slipB md ops g s (k + 1) (listed.setIfInBounds k true)
/-- What the slipping operations yield, in whatever world. -/
def slipWalk (P : Program) (ops : Array Oper) (K : Act → Prop) : List Oper → Act → Prop
  | [], a => K a
  | o :: r, a => ∃ v, Yields P ops o v a ∧ slipWalk P ops K r (a.put o.dst v)
theorem slip_any {g : Nat} {Q : Exit → Act → World → Prop} {w : World} {l : List Oper} (hs : Region.noSelect ops = true) (hQ : ∀ d v c a w, Q (.panic c) (Act.put a d v) w → Q (.panic c) a w) (hg : l.length = g) :
    ∀ (r : List Oper) (k : Nat) (listed : Array Bool) (a : Act), (∀ j, (r ++ l)[j]? = ops[k + j]?) → slipB md ops g r.length k listed = true → slipWalk P ops (fun a => wpList P ops Q l a w) r a → wpAny P md ops Q (r.length + g) listed a w
  | [], k, listed, a, hl, hB, h => by
    subst hg
    rw [List.length_nil, Nat.zero_add]
    exact wpAny_of_seq l k listed a w (by simpa using hl) hB h
  | o :: r, k, listed, a, hl, hB, h => by
    have h0 : ops[k]? = some o := by simpa using (hl 0).symm
    simp only [List.length_cons, slipB, Bool.and_eq_true] at hB
    obtain ⟨⟨hr, hf⟩, hB'⟩ := hB
    obtain ⟨v, hy, hK⟩ := h
    rw [List.length_cons, show r.length + 1 + g = (r.length + g) + 1 by omega]
    exact wpAny_take h0 hs hf hr (fun c a w => hQ _ _ c a w) hy (slip_any hs hQ hg r (k + 1) _ _ (fun j => by have := hl (j + 1); simpa [Nat.add_assoc, Nat.add_comm 1 j] using this) hB' hK)

/-- Each operation behind number n waits for one from n on. -/
def chainsB (md : Region.Mode) (ops : Array Oper) (n : Nat) : Bool :=
  (List.range ops.size).all fun t => decide (t ≤ n) || (List.range t).any fun s => decide (n ≤ s) && Region.waitsFor md ops t s
theorem tail_waits' {m : Nat} {listed : Array Bool} (hs : Region.sinkB md ops m = true) (hc : chainsB md ops m = true) (inv : HeadInv md ops (m + 1) listed) (hm : m < ops.size) :
    ∀ (i : Nat), i < m + 1 → listed.getD i true = false → ∀ t, m + 1 ≤ t → t ∉ Region.ready md ops listed := by
  have low : ∀ (d i : Nat), m - i = d → i ≤ m → listed.getD i true = false → listed.getD m true = false := by
    intro d
    induction d using Nat.strongRecOn with
    | _ d ih =>
      intro i hd hi hun
      by_cases him : i = m
      · rw [← him]; exact hun
      · have h1 := List.all_eq_true.1 hs i (List.mem_range.2 (by omega))
        obtain ⟨j, hj, hj2⟩ := List.any_eq_true.1 h1
        simp only [Bool.and_eq_true, decide_eq_true_eq] at hj2
        obtain ⟨oj, hoj, e, he, hb, hon⟩ := Region.waitsFor_spec hj2.2
        have hjle : j ≤ m := by have := List.mem_range.1 hj; omega
        cases hl : listed.getD j false with
        | true =>
          have h2 := inv.closed j oj hoj hl e he hb
          rw [hon, getD_both hun] at h2
          cases h2
        | false => exact ih (m - j) (by omega) j rfl hjle (getD_in (by rw [inv.size]; omega) hl)
  intro i hi hun t ht hr
  have hmun := low (m - i) i rfl (by omega) hun
  obtain ⟨_, ot, hot, hall⟩ := mem_ready.1 hr
  have htlt : t < ops.size := (Array.getElem?_eq_some_iff.1 hot).1
  have h1 := List.all_eq_true.1 hc t (List.mem_range.2 htlt)
  simp only [Bool.or_eq_true, decide_eq_true_eq] at h1
  rcases h1 with h1 | h1
  · omega
  · obtain ⟨s, hs1, hs2⟩ := List.any_eq_true.1 h1
    simp only [Bool.and_eq_true, decide_eq_true_eq] at hs2
    obtain ⟨o', ho', e, he, hb, hon⟩ := Region.waitsFor_spec hs2.2
    have : o' = ot := Option.some.inj (ho'.symm.trans hot)
    subst this
    have h2 := hall e he hb
    have hst := List.mem_range.1 hs1
    by_cases hsm : s = m
    · subst hsm; rw [hon, getD_both hmun] at h2; cases h2
    · rw [hon, getD_both (inv.tail s (by omega) (by omega))] at h2
      cases h2

def orderG (md : Region.Mode) (ops : Array Oper) (n : Nat) (S : Array Bool → Bool) : List Nat → Array Bool → Bool
  | [], listed => S listed
  | k :: is, listed => decide (k < n) && (Region.ready md ops listed).contains k && Region.free md ops listed k && orderG md ops n S is (listed.setIfInBounds k true)
theorem rAny_orderG {n : Nat} {Lq : Act → Prop} {S : Array Bool → Bool} (hsel : Region.noSelect ops = true) (Inv : Array Bool → Prop)
    (hinv : ∀ listed j, Inv listed → j ∈ Region.ready md ops listed → j < n → Inv (listed.setIfInBounds j true)) (htail : ∀ listed, Inv listed → TailWaits md ops n listed)
    (hS : ∀ listed, S listed = true → ∀ j ∈ Region.ready md ops listed, n ≤ j) :
    ∀ (is : List Nat) (l : List Oper) (listed : Array Bool) (a : Act), is.map (fun i => ops[i]?) = l.map some → Inv listed → orderG md ops n S is listed = true → rWalk P ops C Lq l a →
      rAny P md ops C n (fun listed' a' => S listed' = true ∧ Lq a') is.length listed a
  | [], [], listed, a, _, _, hB, h => ⟨hB, h⟩
  | [], _ :: _, _, _, hl, _, _, _ => by cases hl
  | _ :: _, [], _, _, hl, _, _, _ => by cases hl
  | k :: is, o :: l, listed, a, hl, inv, hB, h => by
    simp only [List.map_cons, List.cons.injEq] at hl
    obtain ⟨h0, hl⟩ := hl
    simp only [orderG, Bool.and_eq_true, decide_eq_true_eq] at hB
    obtain ⟨⟨⟨hkn, hr⟩, hf⟩, hB'⟩ := hB
    have hr' : k ∈ Region.ready md ops listed := by simpa using hr
    obtain ⟨v, hy, hK⟩ := rYields.of_walk h
    exact rAny_first h0 (Region.noSelect_spec hsel) hkn Inv hinv htail (fun listed' a' hL => hS _ hL.1) is.length listed a inv (Region.free_spec h0 hf) hr' hy
      (rAny_orderG hsel Inv hinv htail hS is l _ _ hl (hinv _ _ inv hr' hkn) hB' hK)

theorem headDone_ready {n : Nat} {listed : Array Bool} (h : ((List.range n).all fun i => listed.getD i false) = true) : ∀ j ∈ Region.ready md ops listed, n ≤ j := by
  intro j hj
  rcases Nat.lt_or_ge j n with hl | hl
  · have h1 := List.all_eq_true.1 h j (List.mem_range.2 hl)
    have h2 := (mem_ready.1 hj).1
    rw [getD_both h2] at h1; cases h1
  · exact hl

theorem wp_region_slip {id : Nat} {Q : Exit → Act → World → Prop} {a : Act} {w : World} {l : List Oper} (n s : Nat) (hm : P.follows .mixedOrders = true)
    (hB : (Region.noSelect l.toArray && decide (n + 1 + s < l.toArray.size) && Region.sinkB .any l.toArray n && chainsB .any l.toArray n &&
      orderG .any l.toArray (n + 1) (fun listed => (List.range (n + 1)).all (fun i => listed.getD i false) && slipB .any l.toArray (l.toArray.size - (n + 1) - s) s (n + 1) listed) (List.range (n + 1)) (Array.replicate l.toArray.size false)) = true)
    (hQ : ∀ d v c a w, Q (.panic c) (Act.put a d v) w → Q (.panic c) a w)
    (hC : ∀ w', Below w.heap.size w w' → C w')
    (h : rWalk P l.toArray C (fun a' => ∀ w', Below w.heap.size w w' → slipWalk P l.toArray (fun a2 => wpList P l.toArray Q (l.drop (n + 1 + s)) a2 w') ((l.drop (n + 1)).take s) a') (l.take (n + 1)) a) : (Code.region id l.toArray true).wp P Q a w := by
  simp only [Bool.and_eq_true, decide_eq_true_eq] at hB
  obtain ⟨⟨⟨⟨hsel, hn⟩, hs⟩, hc⟩, ho⟩ := hB
  have hn' : n + 1 + s < l.length := by simpa using hn
  have hmap : (List.range (n + 1)).map (fun i => l.toArray[i]?) = (l.take (n + 1)).map some := by
    apply List.ext_getElem?
    intro j
    simp only [List.getElem?_map, List.getElem?_take]
    by_cases hj : j < n + 1
    · simp [hj, show j < l.length by omega]
    · simp [hj]
  have H := rAny_orderG (md := .any) (C := C) hsel (HeadInv .any l.toArray (n + 1)) (fun listed j inv hj hjn => inv.set hj hjn) (fun listed inv i hi hun => tail_waits' hs hc inv (by omega) i hi hun)
    (fun listed hS => headDone_ready (by simp only [Bool.and_eq_true] at hS; exact hS.1)) (List.range (n + 1)) (l.take (n + 1)) _ a hmap headInv0 ho h
  refine wp_region_any hm ?_
  have := rAny_then (md := .any) (Q := Q) (g := s + (l.toArray.size - (n + 1) - s)) (D := fun w' => Below w.heap.size w w') hC (fun a b ha hb => Ext.trans (a := w) ha hb)
    (fun listed a' w' hw' hL => by
      obtain ⟨h1, h2⟩ := hL
      simp only [Bool.and_eq_true] at h1
      have e : ((l.drop (n + 1)).take s).length = s := by simp; omega
      have := slip_any (md := .any) (Q := Q) (l := l.drop (n + 1 + s)) (g := l.toArray.size - (n + 1) - s) hsel hQ (by simp; omega) ((l.drop (n + 1)).take s) (n + 1) listed a' (fun j => by
        rw [show (l.drop (n + 1)).take s ++ l.drop (n + 1 + s) = l.drop (n + 1) by rw [show l.drop (n + 1 + s) = (l.drop (n + 1)).drop s by rw [List.drop_drop]]; exact List.take_append_drop s _]
        simp [List.getElem?_drop]) (by rw [e]; exact h1.2) (h2 w' hw')
      rw [e] at this; exact this) _ _ _ { w with drawn := w.drawn + 1 } ⟨rfl, rfl, rfl, Nat.le_refl _, fun _ _ => rfl⟩ H
  rw [List.length_range, show n + 1 + (s + (l.toArray.size - (n + 1) - s)) = l.toArray.size by omega] at this
  exact this
end
end Go.Proofs.Ytijdbddjhnjcdaa
