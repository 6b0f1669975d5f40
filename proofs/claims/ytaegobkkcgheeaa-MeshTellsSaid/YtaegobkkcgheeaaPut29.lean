/- Put together: Float, Tail, Once, MesZ, MesRow. -/
import Derived.Test.YtaegobkkcgheeaaPut2
import Derived.Test.YtaegobkkcgheeaaPut0
import Derived.Test.YtaegobkkcgheeaaRows
import Derived.Test.YtaegobkkcgheeaaPut13
import Derived.Test.YtaegobkkcgheeaaPut27
import Derived.Test.YtaegobkkcgheeaaPut28
import Derived.Test.YtaegobkkcgheeaaPut1
import Derived.WalkKit
import Derived.WalkSpells
import Derived.WalkLawsBesides
import Derived.Laws.Externs
import Derived.Deep.QuietTactic
import Derived.BigQuiet
import Derived.Lib.Hide
import Derived.Handy
import Derived.LoopN
import Derived.RegionTactic
import Derived.Test.YtaegobkkcgheeaaPut11
import Derived.Deep.Slices
import Derived.Carry
namespace Go.Proofs.Ytaegobkkcgheeaa
open Go.RowKit Go.Sort

section
variable {P : Program} {ops : Array Oper} {md : Region.Mode} {C : World → Prop}

def doneB (n : Nat) (listed : Array Bool) : Bool := (List.range n).all fun i => listed.getD i false
/-- Whatever order is picked among the first n: no later operation is ready before they are done. -/
def okB (md : Region.Mode) (ops : Array Oper) (n : Nat) : Nat → Array Bool → Bool
  | 0, listed => doneB n listed
  | f + 1, listed => doneB n listed || ((Region.ready md ops listed).all fun j => decide (j < n) && okB md ops n f (listed.setIfInBounds j true))
theorem okB_set {n : Nat} : ∀ (f : Nat) (listed : Array Bool) (j : Nat), okB md ops n f listed = true → j ∈ Region.ready md ops listed → j < n → ∃ f, okB md ops n f (listed.setIfInBounds j true) = true := by
  intro f listed j h hj hn
  have hd : doneB n listed = true → False := fun hd => by
    have := headDone_ready (md := md) (ops := ops) hd j hj; omega
  cases f with
  | zero => exact (hd h).elim
  | succ f =>
    simp only [okB, Bool.or_eq_true] at h
    rcases h with h | h
    · exact (hd h).elim
    · have := List.all_eq_true.1 h j hj
      simp only [Bool.and_eq_true] at this
      exact ⟨f, this.2⟩
theorem okB_tail {n : Nat} : ∀ (f : Nat) (listed : Array Bool), okB md ops n f listed = true → TailWaits md ops n listed := by
  intro f listed h i hi hun t ht hr
  have hd : doneB n listed = true → False := fun hd => by
    have h1 := List.all_eq_true.1 hd i (List.mem_range.2 hi)
    rw [getD_both hun] at h1; cases h1
  cases f with
  | zero => exact hd h
  | succ f =>
    simp only [okB, Bool.or_eq_true] at h
    rcases h with h | h
    · exact hd h
    · have := List.all_eq_true.1 h t hr
      simp only [Bool.and_eq_true, decide_eq_true_eq] at this
      omega
def seqL (md : Region.Mode) (ops : Array Oper) : List Nat → Array Bool → Bool
  | [], listed => (Region.ready md ops listed).isEmpty
  | k :: js, listed => decide (Region.ready md ops listed = [k]) && seqL md ops js (listed.setIfInBounds k true)
theorem wpAny_of_list {Q : Exit → Act → World → Prop} : ∀ (js : List Nat) (l : List Oper) (listed : Array Bool) (a : Act) (w : World), js.map (fun j => ops[j]?) = l.map some →
    seqL md ops js listed = true → wpList P ops Q l a w → wpAny P md ops Q js.length listed a w
  | [], [], _, _, _, _, hB, h => ⟨by simpa [seqL] using hB, h⟩
  | [], _ :: _, _, _, _, hl, _, _ => by cases hl
  | _ :: _, [], _, _, _, hl, _, _ => by cases hl
  | k :: js, o :: l, listed, a, w, hl, hB, h => by
    simp only [List.map_cons, List.cons.injEq] at hl
    obtain ⟨h0, hl⟩ := hl
    simp only [seqL, Bool.and_eq_true, decide_eq_true_eq] at hB
    refine ⟨fun h1 => (by rw [hB.1] at h1; cases h1), fun i hi => ?_⟩
    rw [hB.1] at hi
    have hik : i = k := by simpa using hi
    subst hik
    have hw : wpOp P ops Q i (wpList P ops Q l) a w := by unfold wpOp; simp only [h0]; exact h
    exact wpOp_mono (fun a' w' h' => wpAny_of_list js l _ a' w' hl hB.2 h') hw
def afterB (md : Region.Mode) (ops : Array Oper) (n1 f n2 : Nat) (js : List Nat) (listed : Array Bool) : Bool :=
  doneB n1 listed && (Region.ready md ops listed).contains f && Region.free md ops listed f &&
  (okB md ops n2 (n2 - n1) (listed.setIfInBounds f true) && orderG md ops n2 (fun m => doneB n2 m && seqL md ops js m) (List.range' n1 (n2 - n1)) (listed.setIfInBounds f true))
def floatB (md : Region.Mode) (ops : Array Oper) (n1 f n2 : Nat) (js : List Nat) : Bool :=
  Region.noSelect ops && decide (n1 + (1 + ((n2 - n1) + js.length)) = ops.size) && okB md ops n1 n1 (Array.replicate ops.size false) &&
  orderG md ops n1 (afterB md ops n1 f n2 js) (List.range n1) (Array.replicate ops.size false)
theorem wp_region_float {id : Nat} {Q : Exit → Act → World → Prop} {a : Act} {w : World} {l : List Oper} (n1 f n2 : Nat) (js : List Nat) {o : Oper} (hm : P.follows .mixedOrders = true)
    (hB : floatB .any l.toArray n1 f n2 js = true) (hf : l.toArray[f]? = some o) (hjs : js.map (fun j => l.toArray[j]?) = ((l.drop n2).eraseIdx (f - n2)).map some)
    (h1 : (List.range n1).map (fun i => l.toArray[i]?) = (l.take n1).map some) (h2 : (List.range' n1 (n2 - n1)).map (fun i => l.toArray[i]?) = ((l.drop n1).take (n2 - n1)).map some)
    (hQ : ∀ c v a w, Q (.panic c) (Act.put a o.dst v) w → Q (.panic c) a w)
    (hC : ∀ w', Below w.heap.size w w' → C w')
    (h : rWalk P l.toArray C (fun a1 => ∃ v, Yields P l.toArray o v a1 ∧ rWalk P l.toArray C (fun a2 => ∀ w', Below w.heap.size w w' → wpList P l.toArray Q ((l.drop n2).eraseIdx (f - n2)) a2 w') ((l.drop n1).take (n2 - n1)) (a1.put o.dst v)) (l.take n1) a) : (Code.region id l.toArray true).wp P Q a w := by
  simp only [floatB, Bool.and_eq_true, decide_eq_true_eq] at hB
  obtain ⟨⟨⟨hsel, hn⟩, hok⟩, ho⟩ := hB
  have H := rAny_orderG (md := .any) (C := C) hsel (fun listed => ∃ f, okB .any l.toArray n1 f listed = true) (fun listed j inv hj hjn => by obtain ⟨f, inv⟩ := inv; exact okB_set f listed j inv hj hjn)
    (fun listed inv => by obtain ⟨f, inv⟩ := inv; exact okB_tail f listed inv)
    (fun listed hS => headDone_ready (by simp only [afterB, Bool.and_eq_true] at hS; exact hS.1.1.1)) (List.range n1) (l.take n1) _ a h1 ⟨_, hok⟩ ho h
  refine wp_region_any hm ?_
  have := rAny_then (md := .any) (Q := Q) (g := 1 + ((n2 - n1) + js.length)) (D := fun w' => Below w.heap.size w w') hC (fun a b ha hb => Ext.trans (a := w) ha hb)
    (fun listed a1 w1 hw1 hL => by
      obtain ⟨hS, v, hy, hK⟩ := hL
      simp only [afterB, Bool.and_eq_true] at hS
      obtain ⟨⟨⟨_, hr⟩, hfr⟩, hok2, ho2⟩ := hS
      rw [Nat.add_comm 1]
      refine wpAny_take hf hsel hfr hr (fun c a w => hQ c v a w) hy ?_
      have H2 := rAny_orderG (md := .any) (C := C) hsel (fun listed => ∃ f, okB .any l.toArray n2 f listed = true) (fun listed j inv hj hjn => by obtain ⟨f, inv⟩ := inv; exact okB_set f listed j inv hj hjn)
        (fun listed inv => by obtain ⟨f, inv⟩ := inv; exact okB_tail f listed inv)
        (fun listed hS => headDone_ready (by simp only [Bool.and_eq_true] at hS; exact hS.1)) (List.range' n1 (n2 - n1)) ((l.drop n1).take (n2 - n1)) _ _ h2 ⟨_, hok2⟩ ho2 hK
      have := rAny_then (md := .any) (Q := Q) (g := js.length) (D := fun w' => Below w.heap.size w w') hC (fun a b ha hb => Ext.trans (a := w) ha hb)
        (fun listed a2 w2 hw2 hL => by
          obtain ⟨hS, hK⟩ := hL
          simp only [Bool.and_eq_true] at hS
          exact wpAny_of_list js _ listed a2 w2 hjs hS.2 (hK w2 hw2)) _ _ _ w1 hw1 H2
      rw [List.length_range'] at this
      exact this) _ _ _ { w with drawn := w.drawn + 1 } ⟨rfl, rfl, rfl, Nat.le_refl _, fun _ _ => rfl⟩ H
  rw [List.length_range, hn] at this
  exact this
end
end Go.Proofs.Ytaegobkkcgheeaa

namespace Go.Proofs.Ytaegobkkcgheeaa
open Go.RowKit Go.Sort
/-- The operations of a list may come in this order; what is listed behind them. -/
def orderPre (md : Region.Mode) (ops : Array Oper) (n : Nat) : List Nat → Array Bool → Bool
  | [], _ => true
  | k :: is, listed => decide (k < n) && (Region.ready md ops listed).contains k && Region.free md ops listed k && orderPre md ops n is (listed.setIfInBounds k true)
def listAll : List Nat → Array Bool → Array Bool
  | [], l => l
  | k :: is, l => listAll is (l.setIfInBounds k true)
theorem orderB_append {md : Region.Mode} {ops : Array Oper} {n g : Nat} : ∀ (is js : List Nat) (l : Array Bool), orderPre md ops n is l = true → orderB md ops n g js (listAll is l) = true → orderB md ops n g (is ++ js) l = true
  | [], _, _, _, h => h
  | k :: is, js, l, h1, h2 => by
    simp only [orderPre, Bool.and_eq_true] at h1
    simp only [List.cons_append, orderB, Bool.and_eq_true]
    exact ⟨h1.1, orderB_append is js _ h1.2 h2⟩
/-- The parts of the check, one for each list. -/
def orderIn (md : Region.Mode) (ops : Array Oper) (n g : Nat) : List (List Nat) → Array Bool → Prop
  | [], l => Region.seqB md ops g n l = true
  | is :: cs, l => orderPre md ops n is l = true ∧ orderIn md ops n g cs (listAll is l)
theorem orderB_of_in {md : Region.Mode} {ops : Array Oper} {n g : Nat} : ∀ (cs : List (List Nat)) (l : Array Bool), orderIn md ops n g cs l → orderB md ops n g cs.flatten l = true
  | [], _, h => h
  | is :: cs, l, h => by
    rw [List.flatten_cons]
    exact orderB_append is _ l h.1 (orderB_of_in cs _ h.2)
section
variable {P : Program} {C : World → Prop}
theorem wp_region_parts {id : Nat} {Q : Exit → Act → World → Prop} {a : Act} {w : World} {l : List Oper} (n : Nat) (cs : List (List Nat)) (hm : P.follows .mixedOrders = true)
    (hcs : cs.flatten = List.range n)
    (hsel : Region.noSelect l.toArray = true) (hn : n < l.toArray.size) (hs : Region.sinkB .any l.toArray n = true) (hc : Region.chainB .any l.toArray n = true)
    (ho : orderIn .any l.toArray n (l.toArray.size - n) cs (Array.replicate l.toArray.size false))
    (hC : ∀ w', Below w.heap.size w w' → C w')
    (h : rWalk P l.toArray C (fun a' => ∀ w', Below w.heap.size w w' → wpList P l.toArray Q (l.drop n) a' w') (l.take n) a) : (Code.region id l.toArray true).wp P Q a w := by
  refine wp_region_tail n hm ?_ hC h
  have := orderB_of_in cs _ ho
  rw [hcs] at this
  simp only [plainB, Bool.and_eq_true, decide_eq_true_eq]
  exact ⟨⟨⟨⟨hsel, hn⟩, hs⟩, hc⟩, this⟩
end
end Go.Proofs.Ytaegobkkcgheeaa

namespace Go.Proofs.Ytaegobkkcgheeaa
open Go.RowKit Go.Sort

section
variable {P : Program} {ops : Array Oper} {md : Region.Mode} {C : World → Prop}

/-- Whatever comes behind n waits, over others, for n. -/
def downB (md : Region.Mode) (ops : Array Oper) (n : Nat) : Bool :=
  (List.range ops.size).all fun t => decide (t ≤ n) || (List.range ops.size).any fun j => decide (n ≤ j) && Region.waitsFor md ops t j
theorem down_waits {n : Nat} {listed : Array Bool} (hs : Region.sinkB md ops n = true) (hd : downB md ops n = true) (hn : n < ops.size) (inv : HeadInv md ops n listed) : TailWaits md ops n listed := by
  intro i hi hun t ht hr
  obtain ⟨_, ot, hot, hall⟩ := mem_ready.1 hr
  have htlt : t < ops.size := (Array.getElem?_eq_some_iff.1 hot).1
  by_cases htn : t = n
  · subst htn
    have low : ∀ (d i : Nat), t - i = d → i < t → listed.getD i true = false → False := by
      intro d
      induction d using Nat.strongRecOn with
      | _ d ih =>
        intro i hd' hi hun
        have h1 := List.all_eq_true.1 hs i (List.mem_range.2 hi)
        obtain ⟨j, hj, h2⟩ := List.any_eq_true.1 h1
        have hj' := List.mem_range.1 hj
        simp only [Bool.and_eq_true, decide_eq_true_eq] at h2
        obtain ⟨hij, hw⟩ := h2
        unfold Region.waitsFor at hw
        cases hoj : ops[j]? with
        | none => rw [hoj] at hw; cases hw
        | some oj =>
          rw [hoj] at hw
          obtain ⟨e, he, hb⟩ := Array.any_eq_true'.1 hw
          simp only [Bool.and_eq_true, beq_iff_eq] at hb
          by_cases hjt : j = t
          · subst hjt
            have : ot = oj := Option.some.inj (hot.symm.trans hoj)
            subst this
            have h3 := hall e he (by first | exact hb.1 | exact hb.2)
            have h4 : e.on = i := by first | exact hb.2 | exact hb.1
            rw [h4, getD_both hun] at h3; cases h3
          · refine ih (t - j) (by omega) j rfl (by omega) ?_
            cases hl : listed.getD j true with
            | false => rfl
            | true =>
              have hjs : j < listed.size := by rw [inv.size]; omega
              have hl' : listed.getD j false = true := by simpa [hjs] using hl
              have h3 := inv.closed j oj hoj hl' e he (by first | exact hb.1 | exact hb.2)
              have h4 : e.on = i := by first | exact hb.2 | exact hb.1
              rw [h4, getD_both hun] at h3; cases h3
    exact low _ i rfl hi hun
  · have h1 := List.all_eq_true.1 hd t (List.mem_range.2 htlt)
    simp only [Bool.or_eq_true, decide_eq_true_eq] at h1
    rcases h1 with h1 | h1
    · omega
    · obtain ⟨j, hj, h2⟩ := List.any_eq_true.1 h1
      simp only [Bool.and_eq_true, decide_eq_true_eq] at h2
      obtain ⟨hnj, hw⟩ := h2
      unfold Region.waitsFor at hw
      rw [hot] at hw
      obtain ⟨e, he, hb⟩ := Array.any_eq_true'.1 hw
      simp only [Bool.and_eq_true, beq_iff_eq] at hb
      have h3 := hall e he (by first | exact hb.1 | exact hb.2)
      have h4 : e.on = j := by first | exact hb.2 | exact hb.1
      rw [h4, getD_both (inv.tail j hnj (List.mem_range.1 hj))] at h3; cases h3
theorem orderG_append {n : Nat} {S : Array Bool → Bool} : ∀ (is js : List Nat) (l : Array Bool), orderPre md ops n is l = true → orderG md ops n S js (listAll is l) = true → orderG md ops n S (is ++ js) l = true
  | [], _, _, _, h => h
  | k :: is, js, l, h1, h2 => by
    simp only [orderPre, Bool.and_eq_true] at h1
    simp only [List.cons_append, orderG, Bool.and_eq_true]
    exact ⟨h1.1, orderG_append is js _ h1.2 h2⟩
def orderInG (md : Region.Mode) (ops : Array Oper) (n : Nat) : List (List Nat) → Array Bool → Prop
  | [], _ => True
  | is :: cs, l => orderPre md ops n is l = true ∧ orderInG md ops n cs (listAll is l)
theorem orderG_of_in {n : Nat} {S : Array Bool → Bool} : ∀ (cs : List (List Nat)) (l : Array Bool), orderInG md ops n cs l → S (listAll cs.flatten l) = true → orderG md ops n S cs.flatten l = true
  | [], _, _, h => h
  | is :: cs, l, h, hS => by
    rw [List.flatten_cons]
    refine orderG_append is _ l h.1 (orderG_of_in cs _ h.2 ?_)
    rw [List.flatten_cons, show ∀ (is js : List Nat) (l : Array Bool), listAll (is ++ js) l = listAll js (listAll is l) from fun is => by
      induction is with
      | nil => intro js l; rfl
      | cons k is ih => intro js l; exact ih js _] at hS
    exact hS
theorem headInv_pre {n : Nat} : ∀ (is : List Nat) (l : Array Bool), HeadInv md ops n l → orderPre md ops n is l = true → HeadInv md ops n (listAll is l)
  | [], _, h, _ => h
  | k :: is, l, h, hB => by
    simp only [orderPre, Bool.and_eq_true, decide_eq_true_eq] at hB
    exact headInv_pre is _ (h.set (by simpa using hB.1.1.2) hB.1.1.1) hB.2
theorem listAll_append : ∀ (is js : List Nat) (l : Array Bool), listAll (is ++ js) l = listAll js (listAll is l)
  | [], _, _ => rfl
  | _ :: is, js, _ => listAll_append is js _
theorem headInv_in {n : Nat} : ∀ (cs : List (List Nat)) (l : Array Bool), HeadInv md ops n l → orderInG md ops n cs l → HeadInv md ops n (listAll cs.flatten l)
  | [], _, h, _ => h
  | is :: cs, l, h, hB => by
    rw [List.flatten_cons, listAll_append]
    exact headInv_in cs _ (headInv_pre is l h hB.1) hB.2
/-- What is listed when the first n are done, in their order. -/
def canon (ops : Array Oper) (n : Nat) : Array Bool := listAll (List.range n) (Array.replicate ops.size false)
theorem wp_region_once {id : Nat} {Q : Exit → Act → World → Prop} {a : Act} {w : World} {l : List Oper} (n1 n2 : Nat) (c1 c2 : List (List Nat)) (js : List Nat) {o : Oper} (hm : P.follows .mixedOrders = true)
    (hsel : Region.noSelect l.toArray = true) (hn : n1 + (((n2 - (n1 + 1)) + js.length) + 1) = l.toArray.size) (hn2 : n1 < n2) (hn3 : n2 < l.toArray.size)
    (hs1 : Region.sinkB .any l.toArray n1 = true) (hd1 : downB .any l.toArray n1 = true) (hs2 : Region.sinkB .any l.toArray n2 = true) (hd2 : downB .any l.toArray n2 = true)
    (hc1 : c1.flatten = List.range n1) (hc2 : c2.flatten = List.range' (n1 + 1) (n2 - (n1 + 1)))
    (ho1 : orderInG .any l.toArray n1 c1 (Array.replicate l.toArray.size false)) (hmid : (doneB n1 (canon l.toArray n1) && decide (Region.ready .any l.toArray (canon l.toArray n1) = [n1])) = true)
    (ho2 : orderInG .any l.toArray n2 c2 ((canon l.toArray n1).setIfInBounds n1 true))
    (hend : (doneB n2 (listAll (List.range' (n1 + 1) (n2 - (n1 + 1))) ((canon l.toArray n1).setIfInBounds n1 true)) && seqL .any l.toArray js (listAll (List.range' (n1 + 1) (n2 - (n1 + 1))) ((canon l.toArray n1).setIfInBounds n1 true))) = true)
    (hf : l.toArray[n1]? = some o) (hjs : js.map (fun j => l.toArray[j]?) = (l.drop n2).map some)
    (h1 : (List.range n1).map (fun i => l.toArray[i]?) = (l.take n1).map some) (h2 : (List.range' (n1 + 1) (n2 - (n1 + 1))).map (fun i => l.toArray[i]?) = ((l.drop (n1 + 1)).take (n2 - (n1 + 1))).map some)
    (hC : ∀ w', Below w.heap.size w w' → C w')
    (h : rWalk P l.toArray C (fun a1 => Region.wanted o (yielded l.toArray a1.tmps) = true ∧ ∀ w', Below w.heap.size w w' → o.wp P a1 w' (fun a2 w2 => Below w.heap.size w w2 ∧ rWalk P l.toArray C (fun a3 => ∀ w', Below w.heap.size w w' → wpList P l.toArray Q (l.drop n2) a3 w') ((l.drop (n1 + 1)).take (n2 - (n1 + 1))) a2) Q) (l.take n1) a) : (Code.region id l.toArray true).wp P Q a w := by
  simp only [Bool.and_eq_true, decide_eq_true_eq] at hmid
  have inv1 : HeadInv .any l.toArray n1 (canon l.toArray n1) := by
    have := headInv_in c1 _ (headInv0 (md := .any) (ops := l.toArray) (n := n1)) ho1
    rwa [hc1] at this
  have inv2 : HeadInv .any l.toArray n2 ((canon l.toArray n1).setIfInBounds n1 true) :=
    HeadInv.set (n := n2) ⟨inv1.size, inv1.closed, fun t ht ht' => inv1.tail t (by omega) ht'⟩ (by rw [hmid.2]; simp) hn2
  have H := rAny_orderG (md := .any) (C := C) (S := fun m => decide (m = canon l.toArray n1 ∧ True)) hsel (HeadInv .any l.toArray n1) (fun listed j inv hj hjn => inv.set hj hjn)
    (fun listed inv => down_waits hs1 hd1 (by omega) inv)
    (fun listed hS => by have := of_decide_eq_true hS; rw [this.1]; exact headDone_ready hmid.1) (List.range n1) (l.take n1) _ a h1 headInv0 (by rw [← hc1]; exact orderG_of_in c1 _ ho1 (by rw [hc1]; exact decide_eq_true ⟨rfl, trivial⟩)) h
  refine wp_region_any hm ?_
  have := rAny_then (md := .any) (Q := Q) (g := ((n2 - (n1 + 1)) + js.length) + 1) (D := fun w' => Below w.heap.size w w') hC (fun a b ha hb => Ext.trans (a := w) ha hb)
    (fun listed a1 w1 hw1 hL => by
      obtain ⟨hS, hwa, hy⟩ := hL
      have hS := (of_decide_eq_true hS).1
      subst hS
      refine ⟨fun h1 => (by rw [hmid.2] at h1; cases h1), fun i hi => ?_⟩
      rw [hmid.2] at hi
      have hik : i = n1 := by simpa using hi
      subst hik
      unfold wpOp
      simp only [hf, hwa, if_true]
      refine Or.inl (Oper.wp_mono (fun a2 w2 hK => ?_) (hy w1 hw1))
      obtain ⟨hw2, hK⟩ := hK
      have H2 := rAny_orderG (md := .any) (C := C) (S := fun m => doneB n2 m && seqL .any l.toArray js m) hsel (HeadInv .any l.toArray n2) (fun listed j inv hj hjn => inv.set hj hjn)
        (fun listed inv => down_waits hs2 hd2 hn3 inv)
        (fun listed hS => headDone_ready (by simp only [Bool.and_eq_true] at hS; exact hS.1)) (List.range' (i + 1) (n2 - (i + 1))) ((l.drop (i + 1)).take (n2 - (i + 1))) _ _ h2 inv2 (by rw [← hc2]; exact orderG_of_in c2 _ ho2 (by rw [hc2]; exact hend)) hK
      have := rAny_then (md := .any) (Q := Q) (g := js.length) (D := fun w' => Below w.heap.size w w') hC (fun a b ha hb => Ext.trans (a := w) ha hb)
        (fun listed a3 w3 hw3 hL => by
          obtain ⟨hS, hK⟩ := hL
          simp only [Bool.and_eq_true] at hS
          exact wpAny_of_list js _ listed a3 w3 hjs hS.2 (hK w3 hw3)) _ _ _ w2 hw2 H2
      rw [List.length_range'] at this
      exact this) _ _ _ { w with drawn := w.drawn + 1 } ⟨rfl, rfl, rfl, Nat.le_refl _, fun _ _ => rfl⟩ H
  rw [List.length_range, hn] at this
  exact this
end
end Go.Proofs.Ytaegobkkcgheeaa

namespace Go.Proofs.Ytaegobkkcgheeaa
open Go.RowKit Go.Sort
attribute [local go_sem] rOper rAt rUpon cell_set sg_i64 sg_u64 alloc_cell alloc_frozen
attribute [local go_sem 10000] pt_eql pt_neq tri_eql
attribute [local irreducible] rWalk

attribute [local go_sem 10000] tri_neq
theorem okT_aw : okT awS ∧ okT awT ∧ okT awZ ∧ okT awU ∧ okT awV := by
  simp only [awU, awV, show mk ⟨0, 1⟩ ⟨0, 0⟩ ⟨1, 0⟩ = ⟨⟨0, 0⟩, ⟨1, 0⟩, ⟨0, 1⟩⟩ by kernel_rfl, show mk ⟨1, 0⟩ ⟨1, 1⟩ ⟨0, 1⟩ = ⟨⟨0, 1⟩, ⟨1, 0⟩, ⟨1, 1⟩⟩ by kernel_rfl]
  unfold okT okP okI; decide
set_option maxRecDepth 100000 in
set_option maxHeartbeats 8000000 in
theorem awake_any (w : World) :
    Calls Try.prog 16 #[] w fun e w' => e = .returned (.bool true) ∧ Below w.heap.size w w' := by
  go_enter Try.func16, Try.ntmps16
  obtain ⟨oS, oT, oZ, oU, oV⟩ := okT_aw
  have cn1 := fun a w R => mnew_1 a 2 2 [awT, awS] (Lib.hid rfl) (by decide) (by simpa using ⟨oT, oS⟩) aw_f1 w R
  have cn2 := fun a w R => mnew_0 a 2 2 [awS, awS] (Lib.hid rfl) (by decide) (by simpa using oS) aw_f2 w R
  have cn3 := fun a w R => mnew_0 a 1 1 [awZ] (Lib.hid rfl) (by decide) (by simpa using oZ) aw_f3 w R
  go_wp2_with fail
  refine at_call fun W1 hW => ?_
  have Bs : Box W1 (w.heap.size) [.int .i64 0, .int .i64 0, .int .i64 1, .int .i64 0, .int .i64 1, .int .i64 1] 25 := by rw [hW]; exact ((Box.new rfl).old _).old _
  have Bt : Box W1 (w.heap.size + 1) [.int .i64 0, .int .i64 0, .int .i64 1, .int .i64 1, .int .i64 0, .int .i64 1] 25 := by rw [hW]; exact (Box.new (by simp)).old _
  have Bl1 : Box W1 (w.heap.size + 1 + 1) [.int .i64 0, .int .i64 0, .int .i64 1, .int .i64 1, .int .i64 0, .int .i64 1, .int .i64 0, .int .i64 0, .int .i64 1, .int .i64 0, .int .i64 1, .int .i64 1] 25 := by rw [hW]; exact Box.new (by simp)
  have hw : Below w.heap.size w W1 := by rw [hW]; go_grown
  clear hW
  have R1 : RowAt cT 6 W1 (some ⟨w.heap.size + 1 + 1, 0, none⟩) [awT, awS] := rowT_of_box (S := [awT, awS]) Bl1
  refine (cn1 _ _ R1).mono ?_
  rintro e w2 ⟨mb, b, rfl, Bm, Hm0, hbb, hmb, hb⟩
  have hwb : w.heap.size ≤ b := Nat.le_trans hw.size hbb
  clear R1 Bl1 cn1 hbb hmb
  replace Bs := Bs.ext hb rfl
  replace Bt := Bt.ext hb rfl
  have hw0 := hw.trans (hb.mono hw.size)
  clear hb hw
  have Hm : HoldsMap eW eT okW w2 b awE := Hm0
  clear Hm0
  have hw : Below w2.heap.size w2 w2 := Below.refl _ _
  obtain ⟨xs, ys, zs, vs⟩ := Bs.facts
  obtain ⟨xt, yt, zt, vt⟩ := Bt.facts
  go_wp2_with fail
  clear xs ys zs vs xt yt zt vt
  refine at_call fun W21 hW => ?_
  obtain ⟨bkl2, hbl2⟩ : ∃ b, w2.heap.size = b := ⟨_, rfl⟩
  rw [hbl2]
  have lsl2 := Bs.lt
  rw [hbl2] at lsl2
  have ltl2 := Bt.lt
  rw [hbl2] at ltl2
  have fl2 := hw.size
  rw [hbl2] at fl2
  have Bl2 : Box W21 bkl2 [.int .i64 0, .int .i64 0, .int .i64 1, .int .i64 0, .int .i64 1, .int .i64 1, .int .i64 0, .int .i64 0, .int .i64 1, .int .i64 0, .int .i64 1, .int .i64 1] 25 := by rw [hW]; exact Box.new hbl2.symm
  replace Bs : Box W21 (w.heap.size) [.int .i64 0, .int .i64 0, .int .i64 1, .int .i64 0, .int .i64 1, .int .i64 1] 25 := by rw [hW]; exact Bs.old _
  replace Bt : Box W21 (w.heap.size + 1) [.int .i64 0, .int .i64 0, .int .i64 1, .int .i64 1, .int .i64 0, .int .i64 1] 25 := by rw [hW]; exact Bt.old _
  replace hw : Below w2.heap.size w2 W21 := by have hl := hw.size; rw [hW]; go_grown
  clear hW hbl2
  refine (cn2 _ _ (rowT_of_box (S := [awS, awS]) Bl2)).mono ?_
  rintro e w22 ⟨rfl, hb⟩
  replace Bs := Bs.ext hb rfl
  replace Bt := Bt.ext hb rfl
  replace Bl2 := Bl2.ext hb rfl
  replace hw := hw.trans (hb.mono hw.size)
  clear hb
  clear Bl2 cn2
  obtain ⟨xs, ys, zs, vs⟩ := Bs.facts
  obtain ⟨xt, yt, zt, vt⟩ := Bt.facts
  go_wp2_with fail
  clear xs ys zs vs xt yt zt vt
  refine at_call fun W23 hW => ?_
  obtain ⟨bkl3, hbl3⟩ : ∃ b, w22.heap.size = b := ⟨_, rfl⟩
  rw [hbl3]
  have lsl3 := Bs.lt
  rw [hbl3] at lsl3
  have ltl3 := Bt.lt
  rw [hbl3] at ltl3
  have fl3 := hw.size
  rw [hbl3] at fl3
  have Bl3 : Box W23 bkl3 [.int .i64 0, .int .i64 0, .int .i64 0, .int .i64 0, .int .i64 0, .int .i64 0] 25 := by rw [hW]; exact Box.new hbl3.symm
  replace Bs : Box W23 (w.heap.size) [.int .i64 0, .int .i64 0, .int .i64 1, .int .i64 0, .int .i64 1, .int .i64 1] 25 := by rw [hW]; exact Bs.old _
  replace Bt : Box W23 (w.heap.size + 1) [.int .i64 0, .int .i64 0, .int .i64 1, .int .i64 1, .int .i64 0, .int .i64 1] 25 := by rw [hW]; exact Bt.old _
  replace hw : Below w2.heap.size w2 W23 := by have hl := hw.size; rw [hW]; go_grown
  clear hW hbl3
  refine (cn3 _ _ (rowT_of_box (S := [awZ]) Bl3)).mono ?_
  rintro e w24 ⟨rfl, hb⟩
  replace Bs := Bs.ext hb rfl
  replace Bt := Bt.ext hb rfl
  replace Bl3 := Bl3.ext hb rfl
  replace hw := hw.trans (hb.mono hw.size)
  clear hb
  clear Bl3 cn3
  obtain ⟨xs, ys, zs, vs⟩ := Bs.facts
  obtain ⟨xt, yt, zt, vt⟩ := Bt.facts
  go_wp2_with fail
  have ct := fun w B H => mtris_any mb b awE aw_f17 w B H
  rw [aw_f4] at ct
  refine (ct _ (Bm.ext hw rfl) (Hm.ext hw rfl)).mono ?_
  rintro e w30 ⟨a, cap, rfl, hr, hb⟩
  clear xs ys zs vs xt yt zt vt
  replace Bs := Bs.ext hb rfl
  replace Bt := Bt.ext hb rfl
  have hwr := hw.trans (hb.mono hw.size)
  replace Bm := Bm.ext hwr rfl
  replace Hm := Hm.ext hwr rfl
  replace hw0 := hw0.trans (hwr.mono hw0.size)
  clear hw ct hwr hb
  have hw : Below w30.heap.size w30 w30 := Below.refl _ _
  have ca2 : ∀ (w : World) (Bm : Box w mb [.map (some b)] 65) (Hm : HoldsMap eW eT okW w b awE), Calls Try.prog 22 #[.pointer (some ⟨mb, 0, none⟩), .agg #[.int .i64 0, .int .i64 0, .int .i64 1, .int .i64 0, .int .i64 1, .int .i64 1], .int .i64 2] w fun e w' => e = .returned (.tuple #[.agg #[.int .i64 0, .int .i64 0, .int .i64 1, .int .i64 1, .int .i64 0, .int .i64 1], .bool true]) ∧ Below w.heap.size w w' := fun w B H => by have := across_any mb b awE awS 2 oS w B H; rw [aw_f5] at this; exact this
  have ca0 : ∀ (w : World) (Bm : Box w mb [.map (some b)] 65) (Hm : HoldsMap eW eT okW w b awE), Calls Try.prog 22 #[.pointer (some ⟨mb, 0, none⟩), .agg #[.int .i64 0, .int .i64 0, .int .i64 1, .int .i64 0, .int .i64 1, .int .i64 1], .int .i64 0] w fun e w' => e = .returned (.tuple #[.agg #[.int .i64 0, .int .i64 0, .int .i64 0, .int .i64 0, .int .i64 0, .int .i64 0], .bool false]) ∧ Below w.heap.size w w' := fun w B H => by have := across_any mb b awE awS 0 oS w B H; rw [aw_f6] at this; exact this
  obtain ⟨xs, ys, zs, vs⟩ := Bs.facts
  obtain ⟨xt, yt, zt, vt⟩ := Bt.facts
  go_wp2_with fail
  refine (ca2 _ (Bm.ext hw rfl) (Hm.ext hw rfl)).mono ?_
  rintro e w31 ⟨rfl, hb⟩
  clear xs ys zs vs xt yt zt vt
  replace Bs := Bs.ext hb rfl
  replace Bt := Bt.ext hb rfl
  replace hw := hw.trans (hb.mono hw.size)
  clear hb
  skip
  obtain ⟨xs, ys, zs, vs⟩ := Bs.facts
  obtain ⟨xt, yt, zt, vt⟩ := Bt.facts
  go_wp2_with fail
  clear xs ys zs vs xt yt zt vt
  refine at_call fun W32 hW => ?_
  obtain ⟨bkx, hbx⟩ : ∃ b, w31.heap.size = b := ⟨_, rfl⟩
  rw [hbx]
  have lsx := Bs.lt
  rw [hbx] at lsx
  have ltx := Bt.lt
  rw [hbx] at ltx
  have fx := hw.size
  rw [hbx] at fx
  have Bx : Box W32 bkx [.int .i64 0, .int .i64 0, .int .i64 1, .int .i64 1, .int .i64 0, .int .i64 1] 25 := by rw [hW]; exact Box.new hbx.symm
  replace Bs : Box W32 (w.heap.size) [.int .i64 0, .int .i64 0, .int .i64 1, .int .i64 0, .int .i64 1, .int .i64 1] 25 := by rw [hW]; exact Bs.old _
  replace Bt : Box W32 (w.heap.size + 1) [.int .i64 0, .int .i64 0, .int .i64 1, .int .i64 1, .int .i64 0, .int .i64 1] 25 := by rw [hW]; exact Bt.old _
  replace hw : Below w30.heap.size w30 W32 := by have hl := hw.size; rw [hW]; go_grown
  clear hW hbx
  refine (ca0 _ (Bm.ext hw rfl) (Hm.ext hw rfl)).mono ?_
  rintro e w33 ⟨rfl, hb⟩
  replace Bs := Bs.ext hb rfl
  replace Bt := Bt.ext hb rfl
  replace Bx := Bx.ext hb rfl
  replace hw := hw.trans (hb.mono hw.size)
  clear hb
  obtain ⟨xs, ys, zs, vs⟩ := Bs.facts
  obtain ⟨xt, yt, zt, vt⟩ := Bt.facts
  obtain ⟨xx, yx, zx, vx⟩ := Bx.facts
  go_wp2_with fail
  clear xs ys zs vs xt yt zt vt xx yx zx vx
  refine at_call fun W34 hW => ?_
  obtain ⟨bky, hby⟩ : ∃ b, w33.heap.size = b := ⟨_, rfl⟩
  rw [hby]
  have lsy := Bs.lt
  rw [hby] at lsy
  have lty := Bt.lt
  rw [hby] at lty
  have lxy := Bx.lt
  rw [hby] at lxy
  have fy := hw.size
  rw [hby] at fy
  have By : Box W34 bky [.int .i64 0, .int .i64 0, .int .i64 0, .int .i64 0, .int .i64 0, .int .i64 0] 25 := by rw [hW]; exact Box.new hby.symm
  replace Bs : Box W34 (w.heap.size) [.int .i64 0, .int .i64 0, .int .i64 1, .int .i64 0, .int .i64 1, .int .i64 1] 25 := by rw [hW]; exact Bs.old _
  replace Bt : Box W34 (w.heap.size + 1) [.int .i64 0, .int .i64 0, .int .i64 1, .int .i64 1, .int .i64 0, .int .i64 1] 25 := by rw [hW]; exact Bt.old _
  replace Bx : Box W34 (bkx) [.int .i64 0, .int .i64 0, .int .i64 1, .int .i64 1, .int .i64 0, .int .i64 1] 25 := by rw [hW]; exact Bx.old _
  replace hw : Below w30.heap.size w30 W34 := by have hl := hw.size; rw [hW]; go_grown
  clear hW hby
  clear ca0 ca2
  have cf : ∀ (w : World) (Bm : Box w mb [.map (some b)] 65) (Hm : HoldsMap eW eT okW w b awE), Calls Try.prog 37 #[.pointer (some ⟨mb, 0, none⟩), .agg #[.int .i64 0, .int .i64 0], .agg #[.int .i64 1, .int .i64 1]] w fun e w' => e = .returned (.int .i64 0) ∧ w.grownBy w' (some b) ∧ HoldsMap eW eT okW w' b awF := fun w B H => flip_ok mb b awE ⟨0, 0⟩ ⟨1, 1⟩ ⟨oT.1, oT.2.1⟩ awT awS awU awV ⟨0, 1⟩ ⟨1, 0⟩ aw_f7 aw_f8 aw_f9 aw_f10 aw_f11 rfl rfl oT oS oU oV aw_f12 aw_f13 w B H
  refine (cf _ (Bm.ext hw rfl) (Hm.ext hw rfl)).mono ?_
  rintro e w40 ⟨rfl, hg, H40⟩
  replace Bs := Bs.turn (Hm.ext hw rfl) hg
  replace Bt := Bt.turn (Hm.ext hw rfl) hg
  replace Bx := Bx.turn (Hm.ext hw rfl) hg
  replace By := By.turn (Hm.ext hw rfl) hg
  replace hr := (hr.ext hw rfl).turn cT_ne (Hm.ext hw rfl) hg
  replace Bm := (Bm.ext hw rfl).turn (Hm.ext hw rfl) hg
  replace hw0 := hw0.trans (hw.mono hw0.size)
  replace hw0 := below_grown hw0 hg hw0.size hwb
  clear Hm hg hw cf hwb
  have Hm := H40
  clear H40
  have hw : Below w40.heap.size w40 w40 := Below.refl _ _
  obtain ⟨xs, ys, zs, vs⟩ := Bs.facts
  obtain ⟨xt, yt, zt, vt⟩ := Bt.facts
  obtain ⟨xx, yx, zx, vx⟩ := Bx.facts
  obtain ⟨xy, yy, zy, vy⟩ := By.facts
  go_wp2_with fail
  refine (flip_n0 mb b awF ⟨0, 0⟩ ⟨1, 1⟩ ⟨oT.1, oT.2.1⟩ aw_f14 _ (Bm.ext hw rfl) (Hm.ext hw rfl)).mono ?_
  rintro e w41 ⟨rfl, hb⟩
  clear xs ys zs vs xt yt zt vt xx yx zx vx xy yy zy vy
  replace Bs := Bs.ext hb rfl
  replace Bt := Bt.ext hb rfl
  replace Bx := Bx.ext hb rfl
  replace By := By.ext hb rfl
  replace hw := hw.trans (hb.mono hw.size)
  clear hb
  obtain ⟨ad, A, rfl, eA, hA0⟩ := hr.six (j := 0) (by decide)
  have hA1 : Six w40 A awS := hA0
  clear hA0 hr
  simp only [Nat.zero_mul] at eA
  obtain ⟨xs, ys, zs, vs⟩ := Bs.facts
  obtain ⟨xt, yt, zt, vt⟩ := Bt.facts
  obtain ⟨xx, yx, zx, vx⟩ := Bx.facts
  obtain ⟨xy, yy, zy, vy⟩ := By.facts
  go_wp2_with fail
  clear xs ys zs vs xt yt zt vt xx yx zx vx xy yy zy vy
  refine at_world fun W42 hW => ?_
  replace hw : Below w40.heap.size w40 W42 := by rw [hW]; exact hw
  replace Bs : Box W42 (w.heap.size) [.int .i64 0, .int .i64 0, .int .i64 1, .int .i64 0, .int .i64 1, .int .i64 1] 25 := by rw [hW]; exact Bs
  replace Bt : Box W42 (w.heap.size + 1) [.int .i64 0, .int .i64 0, .int .i64 1, .int .i64 1, .int .i64 0, .int .i64 1] 25 := by rw [hW]; exact Bt
  replace Bx : Box W42 (bkx) [.int .i64 0, .int .i64 0, .int .i64 1, .int .i64 1, .int .i64 0, .int .i64 1] 25 := by rw [hW]; exact Bx
  replace By : Box W42 (bky) [.int .i64 0, .int .i64 0, .int .i64 0, .int .i64 0, .int .i64 0, .int .i64 0] 25 := by rw [hW]; exact By
  clear hW
  have hA := hA1.ext hw rfl
  obtain ⟨t0, t1, t2, t3, t4, t5⟩ := hA.cells
  have BM : Box W42 mb [.map (some b)] 65 := Bm.ext hw rfl
  have HM : HoldsMap eW eT okW W42 b awF := Hm.ext hw rfl
  have dh : ∀ d os, Calls Try.prog 23 #[.pointer (some ⟨mb, 0, none⟩), .agg #[.int .i64 0, .int .i64 0, .int .i64 1, .int .i64 0, .int .i64 1, .int .i64 1]] (grow (redrawn W42 d) os) fun e w' => e = .returned (.bool false) ∧ Below (grow (redrawn W42 d) os).heap.size (grow (redrawn W42 d) os) w' := fun d os => by have := mhas_any mb b awF awS oS _ (BM.ext (below_regrown W42 d os) rfl) (HM.ext (below_regrown W42 d os) rfl); first | exact this | (rw [aw_f15] at this; exact this)
  have dl : ∀ d os, Calls Try.prog 38 #[.pointer (some ⟨mb, 0, none⟩)] (grow (redrawn W42 d) os) fun e w' => e = .returned (.int .i64 2) ∧ Below (grow (redrawn W42 d) os).heap.size (grow (redrawn W42 d) os) w' := fun d os => by have := mlen_any mb b awF 2 (Lib.hid aw_f16) (by decide) _ (BM.ext (below_regrown W42 d os) rfl) (HM.ext (below_regrown W42 d os) rfl); first | exact this | (rw [aw_f15] at this; exact this)
  have nh : ∀ w, Calls Try.prog 23 #[.pointer none, .agg #[.int .i64 0, .int .i64 0, .int .i64 1, .int .i64 0, .int .i64 1, .int .i64 1]] w fun e w' => e = .returned (.bool false) ∧ Below w.heap.size w w' := fun w => nhas awS w
  have nf : ∀ w, Calls Try.prog 37 #[.pointer none, .agg #[.int .i64 0, .int .i64 0], .agg #[.int .i64 1, .int .i64 1]] w fun e w' => e = .returned (.int .i64 16) ∧ Below w.heap.size w w' := fun w => nflip ⟨0, 0⟩ ⟨1, 1⟩ w
  have cp := fun w B H => mpoints_any mb b awF (by rw [aw_f16]; decide) w B H
  clear oS oT oZ oU oV hA hA1 Hm Bm
  have gs := Bs.cells
  have gt := Bt.cells
  have gx := Bx.cells
  have gy := By.cells
  try simp only [List.append]
  refine wp_region_once 51 75 [List.range' 0 16, List.range' 16 16, List.range' 32 16, List.range' 48 3] [List.range' 52 16, List.range' 68 7] [75] (by kernel_rfl) (by as_aux_lemma => kernel_rfl) rfl (by decide) (show 75 < 76 by decide) (by as_aux_lemma => kernel_rfl) (by as_aux_lemma => kernel_rfl) (by as_aux_lemma => kernel_rfl) (by as_aux_lemma => kernel_rfl) rfl rfl ⟨(by as_aux_lemma => kernel_rfl), (by as_aux_lemma => kernel_rfl), (by as_aux_lemma => kernel_rfl), (by as_aux_lemma => kernel_rfl), trivial⟩ (by as_aux_lemma => kernel_rfl) ⟨(by as_aux_lemma => kernel_rfl), (by as_aux_lemma => kernel_rfl), trivial⟩ (by as_aux_lemma => kernel_rfl) rfl rfl (by kernel_rfl) (by kernel_rfl) (C := fun w' => ∃ p : Regrown, w' = grow (redrawn W42 p.d) p.os) (fun w' h => regrown_of_below h) ?_
  simp only [List.take_succ_cons, List.take_zero, List.drop_succ_cons, List.drop_zero]
  repeat (first | (refine rWalk_skip (Eq.refl false) ?_; simp only [Act.put, List.setIfInBounds_toArray, List.set_cons_succ, List.set_cons_zero]) | (refine rWalk_step (fun K hK => ?_); go_simp; first | (refine hK _ ?_; clear hK K) | (apply Exists.intro; refine ⟨fun _ => ?_, hK _ ?_⟩; (first | with_reducible exact toExtD dh _ _ | with_reducible exact toExtD dl _ _); clear hK K)))
  refine rWalk_nil ⟨rfl, fun w50 hb => ?_⟩
  unfold Oper.wp
  go_simp
  refine (cp _ (BM.ext hb rfl) (HM.ext hb rfl)).mono ?_
  rintro e w51 ⟨M1, a5, cap5, rfl, hr5, hi5, hm5, hb5⟩
  have hM := aw_f18 hi5 hm5
  rw [hM]
  clear hM hi5 hm5 hr5
  dsimp only
  refine ⟨hb.trans (hb5.mono hb.size), ?_⟩
  clear hb hb5
  try simp only [Act.put, List.setIfInBounds_toArray, List.set_cons_succ, List.set_cons_zero, List.take_succ_cons, List.take_zero, List.drop_succ_cons, List.drop_zero]
  repeat (first | (refine rWalk_skip (Eq.refl false) ?_; simp only [Act.put, List.setIfInBounds_toArray, List.set_cons_succ, List.set_cons_zero]) | (refine rWalk_step (fun K hK => ?_); go_simp; first | (refine hK _ ?_; clear hK K) | (apply Exists.intro; refine ⟨fun _ => ?_, hK _ ?_⟩; (first | with_reducible exact toExt (nlen) _ | with_reducible exact toExt nf _ | with_reducible exact toExt nh _); clear hK K)))
  refine rWalk_nil ?_
  intro w60 hb6
  go_wp2
  go_ret
  exact ⟨rfl, hw0.trans ((hw.trans (hb6.mono hw.size)).mono hw0.size)⟩
end Go.Proofs.Ytaegobkkcgheeaa

namespace Go.Proofs.Ytaegobkkcgheeaa
open Go.RowKit Go.Sort Go.ChangeShapes Go.WideShapes Go.ChangeAt
section
variable {H : Type} {enc : TypeId × Value → H} {w : World} {base : Nat → Bool} {spare : Bool}
set_option maxRecDepth 100000 in
theorem trod_tri {b0 : Nat} {fuel : Nat} {cs : List Value} {y : DataW H × List MemPlace} (hl : cs.length = 6) (hf : DataW.trod enc Try.prog w b0 base spare fuel 25 cs = some y) :
    ∃ T : Tri3, cs = cT T ∧ okT T := by
  obtain ⟨c0, c1, c2, c3, c4, c5, hc⟩ := list6 hl
  subst hc
  obtain ⟨y0, y1, y2, n, hx, _, h0, h1, h2⟩ := Deep.trod_struct3 Try.underlying25 hf
  rw [show Try.prog.cellsOf 23 = 2 by kernel_rfl] at h0 h1 h2
  simp only [List.drop_zero, List.take_succ_cons, List.take_zero, List.drop_succ_cons] at h0 h1 h2
  obtain ⟨a0, a1, rfl, rfl, rfl, w0, w1⟩ := trod_pt h0
  obtain ⟨a2, a3, rfl, rfl, rfl, w2, w3⟩ := trod_pt h1
  obtain ⟨a4, a5, rfl, rfl, rfl, w4, w5⟩ := trod_pt h2
  exact ⟨⟨⟨a0, a1⟩, ⟨a2, a3⟩, ⟨a4, a5⟩⟩, rfl, ⟨w0, w1⟩, ⟨w2, w3⟩, ⟨w4, w5⟩⟩
theorem shut_pt {b0 : Nat} {x y : Int} (wx : (Lit.int .i64 x).wf = true) (wy : (Lit.int .i64 y).wf = true) : DataW.Trod enc Try.prog w b0 base spare 23 (.agg #[.int .i64 x, .int .i64 y]) (.agg [.lit (.int .i64 x), .lit (.int .i64 y)]) [] := by
  obtain ⟨n, hn⟩ := pt_trod (enc := enc) (w := w) (b0 := b0) (base := base) (spare := spare) wx wy
  exact ⟨n + 1, by simpa [Value.cells] using hn⟩
instance : Inhabited Tri3 := ⟨⟨⟨0, 0⟩, ⟨0, 0⟩, ⟨0, 0⟩⟩⟩
set_option maxRecDepth 100000 in
theorem open_row {r : Reach} {b0 b1 : Nat} {v : Value} {d : DataW H} {p : List MemPlace} (hv : Value.okWide Try.prog w r b1 42 v) (h : DataW.Trod enc Try.prog w b0 base spare 42 v d p) :
    ∃ (a : Option Addr) (n cap : Nat) (L : List Tri3), v = .slice a n cap ∧ L.length = n ∧ RowAt cT 6 w a L ∧ ∀ T ∈ L, okT T := by
  obtain ⟨a0, n0, k0, rfl⟩ := okWide_slice Try.underlying42 hv
  obtain ⟨fuel, hf⟩ := h
  simp only [Value.cells] at hf
  rcases Deep.open_slice Try.underlying42 hf with ⟨hcs, _⟩ | ⟨a, len, cap, m, n, D, Pl, hcs, hb, hl, hm, hmm, hx, hi⟩
  · simp only [List.cons.injEq, Value.slice.injEq, and_true] at hcs
    obtain ⟨rfl, rfl, rfl⟩ := hcs
    exact ⟨none, 0, 0, [], rfl, rfl, fun j x hx => (by simp at hx), fun T hT => (by simp at hT)⟩
  · simp only [List.cons.injEq, Value.slice.injEq, and_true] at hcs
    obtain ⟨rfl, rfl, rfl⟩ := hcs
    have hlm : n0 ≤ m := by rw [hmm]; split <;> omega
    have each : ∀ i, i < n0 → ∃ T : Tri3, okT T ∧ ∀ j u, (cT T)[j]? = some u → w.cell? ((a.add (i * 6)).add j) = some u := fun i hin => by
      obtain ⟨cs', h1, h2⟩ := hi i (by omega)
      rw [show Try.prog.cellsOf 25 = 6 by kernel_rfl] at h1
      obtain ⟨_, hlen, hcell⟩ := World.cells?_some h1
      obtain ⟨T, rfl, hk⟩ := trod_tri hlen h2
      refine ⟨T, hk, fun j u hu => ?_⟩
      rw [hcell j (by have := (List.getElem?_eq_some_iff.1 hu).1; rwa [hlen] at this)]; exact hu
    obtain ⟨f, hf2⟩ := Deep.choose_lt each
    refine ⟨some a, n0, k0, (List.range n0).map f, rfl, by simp, fun j x hx => ?_, fun T hT => ?_⟩
    · rw [List.getElem?_map] at hx
      obtain ⟨i, hi1, rfl⟩ := Option.map_eq_some_iff.1 hx
      have hj : j < n0 ∧ i = j := by
        obtain ⟨h1, h2⟩ := List.getElem?_eq_some_iff.1 hi1
        simp at h1 h2; exact ⟨h1, h2.symm⟩
      obtain ⟨hj, rfl⟩ := hj
      have hc := (hf2 i hj).2
      refine ⟨a, rfl, ?_, hc⟩
      have h4 := hc 0 _ rfl
      unfold World.cell? at h4
      rw [addr_block, addr_block] at h4
      rcases Nat.lt_or_ge a.block w.heap.size with h' | h'
      · exact h'
      · simp [Array.getElem?_eq_none h'] at h4
    · obtain ⟨i, hi1, rfl⟩ := List.mem_map.1 hT
      exact (hf2 i (List.mem_range.1 hi1)).1
end
theorem putRun_le : ∀ (L : List Tri3) (E : Es), (putRun E L).1 ≤ L.length
  | [], _ => Nat.le_refl _
  | T :: L, E => by
    unfold putRun
    split
    · have := putRun_le L (putT E T); simp only [List.length_cons]; omega
    · exact Nat.zero_le _
theorem mt_any (a : Option Addr) (cap n : Nat) (L : List Tri3) (hL : L.length = n) (hok : ∀ T ∈ L, okT T) (T : Tri3) (p q : Pt) (hT : okT T) (hk : okW (p, q)) (w : World) (Hr : RowAt cT 6 w a L) :
    Calls Try.prog 4 #[.slice a n cap, valueT T, .agg #[.int .i64 p.x, .int .i64 p.y], .agg #[.int .i64 q.x, .int .i64 q.y]] w fun e w' => e = .returned (.bool true) ∧ Below w.heap.size w w' := by
  rcases Nat.lt_or_ge 40 n with h | h
  · exact mt_big awake_any a cap n T p q h w
  · rcases Nat.lt_or_ge (putRun [] L).1 n with hx | hx
    · exact mt_bad awake_any a cap n L (Lib.hid hL) h hok T p q hx w Hr
    · exact mt_good awake_any a cap n L (Lib.hid hL) h hok T p q hT hk (by have := putRun_le L []; omega) w Hr
end Go.Proofs.Ytaegobkkcgheeaa
