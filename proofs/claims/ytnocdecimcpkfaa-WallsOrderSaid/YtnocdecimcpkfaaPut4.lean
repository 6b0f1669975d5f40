/- Put together: Slip, WideA, WideB, WideD, WideG, WideH, ExD, ExE, ExF. -/
import Derived.Test.YtnocdecimcpkfaaPut1
import Derived.Test.YtnocdecimcpkfaaRows
import Derived.Test.YtnocdecimcpkfaaPut0
import Derived.WalkKit
import Derived.WalkSpells
import Derived.WalkLawsBesides
import Derived.Laws.Externs
import Derived.Deep.QuietTactic
import Derived.BigQuiet
import Derived.Lib.Hide
import Derived.Handy
import Derived.Laws.MathBits
import Derived.Test.YtnocdecimcpkfaaPut2
import Derived.Test.YtnocdecimcpkfaaPut3
import Derived.LoopTactic
namespace Go.Proofs.Ytnocdecimcpkfaa
open Go.RowKit Go.Sort

section
variable {P : Program} {ops : Array Oper} {md : Region.Mode} {C : World → Prop}

theorem rAny_then {n g : Nat} {Q : Exit → Act → World → Prop} {L : Array Bool → Act → Prop} {D : World → Prop} (hD : ∀ w, D w → C w) (hDe : ∀ w w', D w → Ext w w' → D w')
    (hL : ∀ listed a w, D w → L listed a → wpAny P md ops Q g listed a w) :
    ∀ (f : Nat) (listed : Array Bool) (a : Act) (w : World), D w → rAny P md ops C n L f listed a → wpAny P md ops Q (f + g) listed a w
  | 0, listed, a, w, hw, h => by rw [Nat.zero_add]; exact hL _ _ _ hw h
  | f + 1, listed, a, w, hw, h => by
    rw [show f + 1 + g = (f + g) + 1 by omega]
    refine ⟨fun h0 => absurd h0 h.1, fun i hi => ?_⟩
    obtain ⟨hin, o, v, ho, hy, hK⟩ := h.2 i hi
    refine wpOp_of_yields ho (hD w hw) hy fun w' hw' => ?_
    exact rAny_then hD hDe hL f _ _ w' (hDe _ _ hw hw') hK

/-- The slipping operations: each ready and free in its turn; then g operations in forced order. -/
def slipB (md : Region.Mode) (ops : Array Oper) (g : Nat) : Nat → Nat → Array Bool → Bool
  | 0, k, listed => Region.seqB md ops g k listed
  | s + 1, k, listed => (Region.ready md ops listed).contains k && Region.free md ops listed k && slipB md ops g s (k + 1) (listed.setIfInBounds k true)
/-- What the slipping operations yield, in whatever world. -/
def slipWalk (P : Program) (ops : Array Oper) (K : Act → Prop) : List Oper → Act → Prop
  | [], a => K a
  | o :: r, a => ∃ v, Yields P ops o v a ∧ slipWalk P ops K r (a.put o.dst v)
theorem slip_any {g : Nat} {Q : Exit → Act → World → Prop} {w : World} {l : List Oper} (hs : Region.noSelect ops = true) (hQ : ∀ d v c a w, Q (.panic c) (Act.put a d v) w → Q (.panic c) a w) (hg : l.length = g) :
    ∀ (r : List Oper) (k : Nat) (listed : Array Bool) (a : Act), (∀ j, (r ++ l)[j]? = ops[k + j]?) → slipB md ops g r.length k listed = true → slipWalk P ops (fun a => wpList P ops Q l a w) r a → wpAny P md ops Q (r.length + g) listed a w
  | [], k, listed, a, hl, hB, h => by
    subst hg
    rw [List.length_nil, Nat.zero_add]
    exact wpAny_of_seq l k listed a w (by simpa using hl) hB h
  | o :: r, k, listed, a, hl, hB, h => by
    have h0 : ops[k]? = some o := by simpa using (hl 0).symm
    simp only [List.length_cons, slipB, Bool.and_eq_true] at hB
    obtain ⟨⟨hr, hf⟩, hB'⟩ := hB
    obtain ⟨v, hy, hK⟩ := h
    rw [List.length_cons, show r.length + 1 + g = (r.length + g) + 1 by omega]
    exact wpAny_take h0 hs hf hr (fun c a w => hQ _ _ c a w) hy (slip_any hs hQ hg r (k + 1) _ _ (fun j => by have := hl (j + 1); simpa [Nat.add_assoc, Nat.add_comm 1 j] using this) hB' hK)

/-- Each operation behind number n waits for one from n on. -/
def chainsB (md : Region.Mode) (ops : Array Oper) (n : Nat) : Bool :=
  (List.range ops.size).all fun t => decide (t ≤ n) || (List.range t).any fun s => decide (n ≤ s) && Region.waitsFor md ops t s
theorem tail_waits' {m : Nat} {listed : Array Bool} (hs : Region.sinkB md ops m = true) (hc : chainsB md ops m = true) (inv : HeadInv md ops (m + 1) listed) (hm : m < ops.size) :
    ∀ (i : Nat), i < m + 1 → listed.getD i true = false → ∀ t, m + 1 ≤ t → t ∉ Region.ready md ops listed := by
  have low : ∀ (d i : Nat), m - i = d → i ≤ m → listed.getD i true = false → listed.getD m true = false := by
    intro d
    induction d using Nat.strongRecOn with
    | _ d ih =>
      intro i hd hi hun
      by_cases him : i = m
      · rw [← him]; exact hun
      · have h1 := List.all_eq_true.1 hs i (List.mem_range.2 (by omega))
        obtain ⟨j, hj, hj2⟩ := List.any_eq_true.1 h1
        simp only [Bool.and_eq_true, decide_eq_true_eq] at hj2
        obtain ⟨oj, hoj, e, he, hb, hon⟩ := Region.waitsFor_spec hj2.2
        have hjle : j ≤ m := by have := List.mem_range.1 hj; omega
        cases hl : listed.getD j false with
        | true =>
          have h2 := inv.closed j oj hoj hl e he hb
          rw [hon, getD_both hun] at h2
          cases h2
        | false => exact ih (m - j) (by omega) j rfl hjle (getD_in (by rw [inv.size]; omega) hl)
  intro i hi hun t ht hr
  have hmun := low (m - i) i rfl (by omega) hun
  obtain ⟨_, ot, hot, hall⟩ := mem_ready.1 hr
  have htlt : t < ops.size := (Array.getElem?_eq_some_iff.1 hot).1
  have h1 := List.all_eq_true.1 hc t (List.mem_range.2 htlt)
  simp only [Bool.or_eq_true, decide_eq_true_eq] at h1
  rcases h1 with h1 | h1
  · omega
  · obtain ⟨s, hs1, hs2⟩ := List.any_eq_true.1 h1
    simp only [Bool.and_eq_true, decide_eq_true_eq] at hs2
    obtain ⟨o', ho', e, he, hb, hon⟩ := Region.waitsFor_spec hs2.2
    have : o' = ot := Option.some.inj (ho'.symm.trans hot)
    subst this
    have h2 := hall e he hb
    have hst := List.mem_range.1 hs1
    by_cases hsm : s = m
    · subst hsm; rw [hon, getD_both hmun] at h2; cases h2
    · rw [hon, getD_both (inv.tail s (by omega) (by omega))] at h2
      cases h2

def orderG (md : Region.Mode) (ops : Array Oper) (n : Nat) (S : Array Bool → Bool) : List Nat → Array Bool → Bool
  | [], listed => S listed
  | k :: is, listed => decide (k < n) && (Region.ready md ops listed).contains k && Region.free md ops listed k && orderG md ops n S is (listed.setIfInBounds k true)
theorem rAny_orderG {n : Nat} {Lq : Act → Prop} {S : Array Bool → Bool} (hsel : Region.noSelect ops = true) (Inv : Array Bool → Prop)
    (hinv : ∀ listed j, Inv listed → j ∈ Region.ready md ops listed → j < n → Inv (listed.setIfInBounds j true)) (htail : ∀ listed, Inv listed → TailWaits md ops n listed)
    (hS : ∀ listed, S listed = true → ∀ j ∈ Region.ready md ops listed, n ≤ j) :
    ∀ (is : List Nat) (l : List Oper) (listed : Array Bool) (a : Act), is.map (fun i => ops[i]?) = l.map some → Inv listed → orderG md ops n S is listed = true → rWalk P ops C Lq l a →
      rAny P md ops C n (fun listed' a' => S listed' = true ∧ Lq a') is.length listed a
  | [], [], listed, a, _, _, hB, h => ⟨hB, h⟩
  | [], _ :: _, _, _, hl, _, _, _ => by cases hl
  | _ :: _, [], _, _, hl, _, _, _ => by cases hl
  | k :: is, o :: l, listed, a, hl, inv, hB, h => by
    simp only [List.map_cons, List.cons.injEq] at hl
    obtain ⟨h0, hl⟩ := hl
    simp only [orderG, Bool.and_eq_true, decide_eq_true_eq] at hB
    obtain ⟨⟨⟨hkn, hr⟩, hf⟩, hB'⟩ := hB
    have hr' : k ∈ Region.ready md ops listed := by simpa using hr
    obtain ⟨v, hy, hK⟩ := rYields.of_walk h
    exact rAny_first h0 (Region.noSelect_spec hsel) hkn Inv hinv htail (fun listed' a' hL => hS _ hL.1) is.length listed a inv (Region.free_spec h0 hf) hr' hy
      (rAny_orderG hsel Inv hinv htail hS is l _ _ hl (hinv _ _ inv hr' hkn) hB' hK)

theorem headDone_ready {n : Nat} {listed : Array Bool} (h : ((List.range n).all fun i => listed.getD i false) = true) : ∀ j ∈ Region.ready md ops listed, n ≤ j := by
  intro j hj
  rcases Nat.lt_or_ge j n with hl | hl
  · have h1 := List.all_eq_true.1 h j (List.mem_range.2 hl)
    have h2 := (mem_ready.1 hj).1
    rw [getD_both h2] at h1; cases h1
  · exact hl

theorem wp_region_slip {id : Nat} {Q : Exit → Act → World → Prop} {a : Act} {w : World} {l : List Oper} (n s : Nat) (hm : P.follows .mixedOrders = true)
    (hB : (Region.noSelect l.toArray && decide (n + 1 + s < l.toArray.size) && Region.sinkB .any l.toArray n && chainsB .any l.toArray n &&
      orderG .any l.toArray (n + 1) (fun listed => (List.range (n + 1)).all (fun i => listed.getD i false) && slipB .any l.toArray (l.toArray.size - (n + 1) - s) s (n + 1) listed) (List.range (n + 1)) (Array.replicate l.toArray.size false)) = true)
    (hQ : ∀ d v c a w, Q (.panic c) (Act.put a d v) w → Q (.panic c) a w)
    (hC : ∀ w', Below w.heap.size w w' → C w')
    (h : rWalk P l.toArray C (fun a' => ∀ w', Below w.heap.size w w' → slipWalk P l.toArray (fun a2 => wpList P l.toArray Q (l.drop (n + 1 + s)) a2 w') ((l.drop (n + 1)).take s) a') (l.take (n + 1)) a) : (Code.region id l.toArray true).wp P Q a w := by
  simp only [Bool.and_eq_true, decide_eq_true_eq] at hB
  obtain ⟨⟨⟨⟨hsel, hn⟩, hs⟩, hc⟩, ho⟩ := hB
  have hn' : n + 1 + s < l.length := by simpa using hn
  have hmap : (List.range (n + 1)).map (fun i => l.toArray[i]?) = (l.take (n + 1)).map some := by
    apply List.ext_getElem?
    intro j
    simp only [List.getElem?_map, List.getElem?_take]
    by_cases hj : j < n + 1
    · simp [hj, show j < l.length by omega]
    · simp [hj]
  have H := rAny_orderG (md := .any) (C := C) hsel (HeadInv .any l.toArray (n + 1)) (fun listed j inv hj hjn => inv.set hj hjn) (fun listed inv i hi hun => tail_waits' hs hc inv (by omega) i hi hun)
    (fun listed hS => headDone_ready (by simp only [Bool.and_eq_true] at hS; exact hS.1)) (List.range (n + 1)) (l.take (n + 1)) _ a hmap headInv0 ho h
  refine wp_region_any hm ?_
  have := rAny_then (md := .any) (Q := Q) (g := s + (l.toArray.size - (n + 1) - s)) (D := fun w' => Below w.heap.size w w') hC (fun a b ha hb => Ext.trans (a := w) ha hb)
    (fun listed a' w' hw' hL => by
      obtain ⟨h1, h2⟩ := hL
      simp only [Bool.and_eq_true] at h1
      have e : ((l.drop (n + 1)).take s).length = s := by simp; omega
      have := slip_any (md := .any) (Q := Q) (l := l.drop (n + 1 + s)) (g := l.toArray.size - (n + 1) - s) hsel hQ (by simp; omega) ((l.drop (n + 1)).take s) (n + 1) listed a' (fun j => by
        rw [show (l.drop (n + 1)).take s ++ l.drop (n + 1 + s) = l.drop (n + 1) by rw [show l.drop (n + 1 + s) = (l.drop (n + 1)).drop s by rw [List.drop_drop]]; exact List.take_append_drop s _]
        simp [List.getElem?_drop]) (by rw [e]; exact h1.2) (h2 w' hw')
      rw [e] at this; exact this) _ _ _ { w with drawn := w.drawn + 1 } ⟨rfl, rfl, rfl, Nat.le_refl _, fun _ _ => rfl⟩ H
  rw [List.length_range, show n + 1 + (s + (l.toArray.size - (n + 1) - s)) = l.toArray.size by omega] at this
  exact this
end
end Go.Proofs.Ytnocdecimcpkfaa

namespace Go.Proofs.Ytnocdecimcpkfaa
open Go.RowKit
attribute [local go_sem] rOper rAt rUpon cell_set

def sub64Entry : Array Value → Sem Value := fun args => do
  let (x, y, b) ← Extern.MathBitsCarry.three "Sub64" args
  pure (Extern.MathBitsCarry.pair ((x + Extern.MathBitsCarry.m64 - y - b) % Extern.MathBitsCarry.m64) (if x < y + b then 1 else 0))
theorem sub64_run {P : Program} (x y k : Nat) (hk : k = 0 ∨ k = 1) (w : World) :
    (sub64Entry #[.int .u64 x, .int .u64 y, .int .u64 k]).run P w = .ok (Extern.MathBitsCarry.pair ((x + Extern.MathBitsCarry.m64 - y - k) % Extern.MathBitsCarry.m64) (if x < y + k then 1 else 0)) w := by
  rcases hk with rfl | rfl <;> rfl
end Go.Proofs.Ytnocdecimcpkfaa

namespace Go.Proofs.Ytnocdecimcpkfaa
open Go.RowKit
attribute [local go_sem] rOper rAt rUpon cell_set sg_i64 sg_u64

end Go.Proofs.Ytnocdecimcpkfaa

namespace Go.Proofs.Ytnocdecimcpkfaa
open Go.RowKit
attribute [local go_sem] rOper rAt rUpon cell_set sg_i64 sg_u64 alloc_cell alloc_frozen

theorem sgn_mk {n m : Int} (h : m = -1 ∧ n < 0 ∨ m = 0 ∧ n = 0 ∨ m = 1 ∧ 0 < n) : m = sgn n := by
  unfold sgn; split
  · omega
  · split <;> omega
end Go.Proofs.Ytnocdecimcpkfaa

namespace Go.Proofs.Ytnocdecimcpkfaa
open Go.RowKit
attribute [local go_sem] rOper rAt rUpon cell_set sg_i64 sg_u64 alloc_cell alloc_frozen

theorem ret_two {k k' : IntKind} {a b c d : Int} (h : a = c) (h2 : b = d) : Ending.returned (.tuple #[.int k a, .int k' b]) = .returned (.tuple #[.int k c, .int k' d]) := by rw [h, h2]
end Go.Proofs.Ytnocdecimcpkfaa

namespace Go.Proofs.Ytnocdecimcpkfaa
open Go.RowKit
attribute [local go_sem] rOper rAt rUpon cell_set sg_i64 sg_u64 alloc_cell alloc_frozen

/-- Three sums, one behind the other. -/
theorem mm_two {a b c n : Int} (h : a + b + c = n) : mH (V (mH (a + b)) (mL (a + b)) + c) = mH n ∧ mL (V (mH (a + b)) (mL (a + b)) + c) = mL n := by
  obtain ⟨k, hk⟩ := V_m (a + b)
  exact m_cong k (by omega)
theorem mm_neg {a b c n : Int} (h : a + b + c = n) : mH (-V (mH (V (mH (a + b)) (mL (a + b)) + c)) (mL (V (mH (a + b)) (mL (a + b)) + c))) = mH (-n) ∧ mL (-V (mH (V (mH (a + b)) (mL (a + b)) + c)) (mL (V (mH (a + b)) (mL (a + b)) + c))) = mL (-n) := by
  obtain ⟨k, hk⟩ := V_m (a + b)
  obtain ⟨j, hj⟩ := V_m (V (mH (a + b)) (mL (a + b)) + c)
  exact m_cong (-j - k) (by omega)
end Go.Proofs.Ytnocdecimcpkfaa

namespace Go.Proofs.Ytnocdecimcpkfaa
open Go.RowKit Go.Sort
attribute [local go_sem] rOper rAt rUpon cell_set sg_i64 sg_u64 alloc_cell alloc_frozen
attribute [local go_sem 10000] pt_eql pt_neq
attribute [local irreducible] rWalk

/-- The determinant of three points with their heights, as seen from the fourth. -/
def lft (a b c d : Pt) : Int := ht (way d a) * cr (way d b) (way d c) + ht (way d b) * cr (way d c) (way d a) + ht (way d c) * cr (way d a) (way d b)
theorem big_mul {p q : Int} (hp : 0 ≤ p ∧ p ≤ 562949886312450) (hq : -562949886312450 ≤ q ∧ q ≤ 562949886312450) : -316912574500061154317695502500 ≤ p * q ∧ p * q ≤ 316912574500061154317695502500 := by
  have h1 : p.natAbs ≤ 562949886312450 := by omega
  have h2 : q.natAbs ≤ 562949886312450 := by omega
  have h3 := Nat.mul_le_mul h1 h2
  rw [← Int.natAbs_mul] at h3
  generalize p * q = r at *
  omega
end Go.Proofs.Ytnocdecimcpkfaa

namespace Go.Proofs.Ytnocdecimcpkfaa
open Go.RowKit Go.Sort
attribute [local go_sem] rOper rAt rUpon cell_set sg_i64 sg_u64 alloc_cell alloc_frozen
attribute [local go_sem 10000] pt_eql pt_neq
attribute [local irreducible] rWalk

/-- The lesser, the second one if they are equal. -/
def lsr (p m : Pt) : Pt := if cmpP p m < 0 then p else m
def min4 (a b c d : Pt) : Pt := lsr d (lsr c (lsr b a))
def minTo (a b c d : Pt) (k : Nat) : Pt := if k = 1 then a else if k = 2 then lsr b a else if k = 3 then lsr c (lsr b a) else min4 a b c d
end Go.Proofs.Ytnocdecimcpkfaa

namespace Go.Proofs.Ytnocdecimcpkfaa
open Go.RowKit Go.Sort
attribute [local go_sem] rOper rAt rUpon cell_set sg_i64 sg_u64 alloc_cell alloc_frozen
attribute [local go_sem 10000] pt_eql pt_neq
attribute [local irreducible] rWalk

/-- The tie: of four on one circle the least tells. -/
def tie (a b c d m : Pt) (o : Int) : Int := if peqI m.x m.y d.x d.y = true then o else if peqI m.x m.y a.x a.y = true then -ori d b c else if peqI m.x m.y b.x b.y = true then -ori a d c else -ori a b d
def circ (a b c d : Pt) : Int :=
  if ori a b c = 0 then 0 else if vld d = false then 0 else if peqI d.x d.y a.x a.y = true then 0 else if peqI d.x d.y b.x b.y = true then 0 else if peqI d.x d.y c.x c.y = true then 0
  else if ¬ sgn (lft a b c d) = 0 then sgn (lft a b c d) else tie a b c d (min4 a b c d) (ori a b c)
theorem sgn_bd (n : Int) : -1 ≤ sgn n ∧ sgn n ≤ 1 := by unfold sgn; split <;> (try split) <;> omega
theorem ori_bd (a b c : Pt) : -1 ≤ ori a b c ∧ ori a b c ≤ 1 := by unfold ori; split; exact sgn_bd _; omega
theorem ori_vld {a b c : Pt} (h : ¬ ori a b c = 0) : vld a = true ∧ vld b = true ∧ vld c = true := by
  unfold ori at h; split at h; assumption; exact absurd rfl h
end Go.Proofs.Ytnocdecimcpkfaa
