/- A region that draws its order, its check in parts: for regions of some ninety operations, whose whole check is beyond one kernel's memory. -/
import Derived.Test.YtbbmcbkmfehidaaRegion
namespace Go.Proofs.Ytbbmcbkmfehidaa
open Go.RowKit Go.Sort
/-- The operations of a list may come in this order; what is listed behind them. -/
def orderPre (md : Region.Mode) (ops : Array Oper) (n : Nat) : List Nat → Array Bool → Bool
  | [], _ => true
  | k :: is, listed => decide (k < n) && (Region.ready md ops listed).contains k && Region.free md ops listed k && orderPre md ops n is (listed.setIfInBounds k true)
def listAll : List Nat → Array Bool → Array Bool
  | [], l => l
  | k :: is, l => listAll is (l.setIfInBounds k true)
theorem orderB_append {md : Region.Mode} {ops : Array Oper} {n g : Nat} : ∀ (is js : List Nat) (l : Array Bool), orderPre md ops n is l = true → orderB md ops n g js (listAll is l) = true → orderB md ops n g (is ++ js) l = true
  | [], _, _, _, h => h
  | k :: is, js, l, h1, h2 => by
    simp only [orderPre, Bool.and_eq_true] at h1
    simp only [List.cons_append, orderB, Bool.and_eq_true]
    exact ⟨h1.1, orderB_append is js _ h1.2 h2⟩
/-- The parts of the check, one for each list. -/
def orderIn (md : Region.Mode) (ops : Array Oper) (n g : Nat) : List (List Nat) → Array Bool → Prop
  | [], l => Region.seqB md ops g n l = true
  | is :: cs, l => orderPre md ops n is l = true ∧ orderIn md ops n g cs (listAll is l)
theorem orderB_of_in {md : Region.Mode} {ops : Array Oper} {n g : Nat} : ∀ (cs : List (List Nat)) (l : Array Bool), orderIn md ops n g cs l → orderB md ops n g cs.flatten l = true
  | [], _, h => h
  | is :: cs, l, h => by
    rw [List.flatten_cons]
    exact orderB_append is _ l h.1 (orderB_of_in cs _ h.2)
section
variable {P : Program} {C : World → Prop}
theorem wp_region_parts {id : Nat} {Q : Exit → Act → World → Prop} {a : Act} {w : World} {l : List Oper} (n : Nat) (cs : List (List Nat)) (hm : P.follows .mixedOrders = true)
    (hcs : cs.flatten = List.range n)
    (hsel : Region.noSelect l.toArray = true) (hn : n < l.toArray.size) (hs : Region.sinkB .any l.toArray n = true) (hc : Region.chainB .any l.toArray n = true)
    (ho : orderIn .any l.toArray n (l.toArray.size - n) cs (Array.replicate l.toArray.size false))
    (hC : ∀ w', Below w.heap.size w w' → C w')
    (h : rWalk P l.toArray C (fun a' => ∀ w', Below w.heap.size w w' → wpList P l.toArray Q (l.drop n) a' w') (l.take n) a) : (Code.region id l.toArray true).wp P Q a w := by
  refine wp_region_tail n hm ?_ hC h
  have := orderB_of_in cs _ ho
  rw [hcs] at this
  simp only [plainB, Bool.and_eq_true, decide_eq_true_eq]
  exact ⟨⟨⟨⟨hsel, hn⟩, hs⟩, hc⟩, this⟩
end
end Go.Proofs.Ytbbmcbkmfehidaa
