/- Put together: Row, RegD, TrB, TrC, CmpD, TrD, TrE. -/
import Derived.Test.YtnocdecimcpkfaaRows
import Derived.Test.YtnocdecimcpkfaaPut1
import Derived.Test.YtnocdecimcpkfaaPut13
import Derived.Below
import Derived.Laws.AppendOwn
import Derived.WalkKit
import Derived.Deep.Draws
import Derived.Sort.Grow
import Derived.WalkSpells
import Derived.WalkLawsBesides
import Derived.Laws.Externs
import Derived.Deep.QuietTactic
import Derived.BigQuiet
import Derived.Lib.Hide
import Derived.Handy
import Derived.LoopN
import Derived.RegionTactic
namespace Go.Proofs.Ytnocdecimcpkfaa
open Go.RowKit

instance : DecidableEq Tri3 := fun p q => decidable_of_iff (p.A = q.A ∧ p.B = q.B ∧ p.C = q.C) Tri3.eq_iff.symm
instance : Inhabited Tri3 := ⟨⟨⟨0, 0⟩, ⟨0, 0⟩, ⟨0, 0⟩⟩⟩
def cP (p : Pt) : List Value := [.int .i64 p.x, .int .i64 p.y]
def cT (t : Tri3) : List Value := [.int .i64 t.A.x, .int .i64 t.A.y, .int .i64 t.B.x, .int .i64 t.B.y, .int .i64 t.C.x, .int .i64 t.C.y]
@[reducible] def eT (t : Tri3) : Value := .agg #[.int .i64 t.A.x, .int .i64 t.A.y, .int .i64 t.B.x, .int .i64 t.B.y, .int .i64 t.C.x, .int .i64 t.C.y]
def okT (t : Tri3) : Prop := okP t.A ∧ okP t.B ∧ okP t.C
theorem eT_inj {v w : Tri3} (h : eT v = eT w) : v = w := by
  obtain ⟨⟨a, b⟩, ⟨c, d⟩, ⟨i, j⟩⟩ := v
  obtain ⟨⟨e, f⟩, ⟨g, k⟩, ⟨l, m⟩⟩ := w
  simpa [eT, and_assoc] using h

section
variable {α : Type}
/-- A slice whose elements are the list's: at a, of a's length. -/
def RowAt (c : α → List Value) (k : Nat) (w : World) (a : Option Addr) (L : List α) : Prop :=
  ∀ (j : Nat) (x : α), L[j]? = some x → ∃ ad, a = some ad ∧ ad.block < w.heap.size ∧ ∀ i u, (c x)[i]? = some u → w.cell? ((ad.add (j * k)).add i) = some u
theorem addr_block (a : Addr) (n : Nat) : (a.add n).block = a.block := by unfold Addr.add; split <;> rfl
theorem RowAt.ext {c : α → List Value} {k : Nat} {w w' : World} {a : Option Addr} {L : List α} {n : Nat} (h : RowAt c k w a L) (hb : Below n w w') (hn : n = w.heap.size) : RowAt c k w' a L := fun j x hx => by
  obtain ⟨ad, h1, h2, h3⟩ := h j x hx
  refine ⟨ad, h1, Nat.lt_of_lt_of_le h2 hb.size, fun i u hu => ?_⟩
  rw [hb.cell (p := (ad.add (j * k)).add i) (by rw [addr_block, addr_block, hn]; exact h2)]
  exact h3 i u hu
theorem RowAt.kept {c : α → List Value} {k : Nat} {w w' : World} {a : Option Addr} {L : List α} {row : Option Nat} (h : RowAt c k w a L) (hg : w.grownBy w' row) (hne : ∀ ad, a = some ad → some ad.block ≠ row) : RowAt c k w' a L := fun j x hx => by
  obtain ⟨ad, h1, h2, h3⟩ := h j x hx
  refine ⟨ad, h1, Nat.lt_of_lt_of_le h2 hg.size, fun i u hu => ?_⟩
  exact hg.cell (h3 i u hu) (by rw [addr_block, addr_block]; exact hne ad h1)
theorem RowAt.nil {c : α → List Value} {k : Nat} {w : World} {a : Option Addr} : RowAt c k w a [] := fun j x h => by simp at h
theorem RowAt.old {c : α → List Value} {k : Nat} {w : World} {a : Option Addr} {L : List α} (h : RowAt c k w a L) (o : Obj) : RowAt c k (w.alloc o) a L :=
  h.kept (World.grownBy_alloc w o none) (by simp)
/-- One triangle of a slice, cell by cell, in every world that extends w. -/
theorem RowAt.tri {w : World} {a : Option Addr} {L : List Tri3} (h : RowAt cT 6 w a L) {j : Nat} (hj : j < L.length) :
    ∃ ad A, a = some ad ∧ ad.add (j * 6) = A ∧ (A.block = w.heap.size) = False ∧ A.block < w.heap.size ∧ (w.cell? A = some (.int .i64 L[j].A.x) ∧ w.cell? ⟨A.block, A.off + 1, none⟩ = some (.int .i64 L[j].A.y) ∧ w.cell? ⟨A.block, A.off + 2, none⟩ = some (.int .i64 L[j].B.x) ∧
      w.cell? ⟨A.block, A.off + 3, none⟩ = some (.int .i64 L[j].B.y) ∧ w.cell? ⟨A.block, A.off + 4, none⟩ = some (.int .i64 L[j].C.x) ∧ w.cell? ⟨A.block, A.off + 5, none⟩ = some (.int .i64 L[j].C.y)) := by
  obtain ⟨ad, h1, h2, h3⟩ := h j L[j] (List.getElem?_eq_getElem hj)
  have hb : (ad.add (j * 6)).block = ad.block := addr_block _ _
  refine ⟨ad, _, h1, rfl, by rw [hb]; simp; omega, by rw [hb]; exact h2, ?_⟩
  have e0 := h3 0 _ rfl
  have e1 := h3 1 _ rfl
  have e2 := h3 2 _ rfl
  have e3 := h3 3 _ rfl
  have e4 := h3 4 _ rfl
  have e5 := h3 5 _ rfl
  simp only [Addr.add_zero', Addr.add_succ'] at e0 e1 e2 e3 e4 e5
  exact ⟨e0, e1, e2, e3, e4, e5⟩
theorem RowAt.pt {w : World} {a : Option Addr} {L : List Pt} (h : RowAt cP 2 w a L) {j : Nat} (hj : j < L.length) :
    ∃ ad A, a = some ad ∧ ad.add (j * 2) = A ∧ (A.block = w.heap.size) = False ∧ A.block < w.heap.size ∧ (w.cell? A = some (.int .i64 L[j].x) ∧ w.cell? ⟨A.block, A.off + 1, none⟩ = some (.int .i64 L[j].y)) := by
  obtain ⟨ad, h1, h2, h3⟩ := h j L[j] (List.getElem?_eq_getElem hj)
  have hb : (ad.add (j * 2)).block = ad.block := addr_block _ _
  refine ⟨ad, _, h1, rfl, by rw [hb]; simp; omega, by rw [hb]; exact h2, ?_⟩
  have e0 := h3 0 _ rfl
  have e1 := h3 1 _ rfl
  simp only [Addr.add_zero', Addr.add_succ'] at e0 e1
  exact ⟨e0, e1⟩
end
theorem idx_self {α : Type} (L : List α) (j : Nat) (hj : j < L.length) : L[j]? = some L[j] := List.getElem?_eq_getElem hj
end Go.Proofs.Ytnocdecimcpkfaa

namespace Go.Proofs.Ytnocdecimcpkfaa.Dr
open Go.RowKit Go.Sort

section
variable {P : Program} {ops : Array Oper} {md : Region.Mode} {C : World → Prop}
/-- A world that extends another one. -/
def Ext (w w' : World) : Prop := Below w.heap.size w w' ∧ w.drawn ≤ w'.drawn
/-- One operation, carried out in w, has yielded v in w itself; or it is a call that hands back v in a world that extends w. -/
def rUpon (P : Program) (w : World) (v : Value) : Result Next → Prop
  | .ok (.value u) w' => w' = w ∧ u = v
  | .ok .skip w' => w' = w ∧ v = undef
  | .ok (.enter f args) w' => w' = w ∧ Calls P f args w (fun e w'' => e = .returned v ∧ Ext w w'')
  | _ => False
def rAt (P : Program) (o : Oper) (a : Act) (w : World) (v : Value) : Prop := rUpon P w v ((execOp a.eval o).run P w)
def rOper (P : Program) (o : Oper) (a : Act) (C : World → Prop) (next : Act → Prop) : Prop := ∃ v, (∀ w, C w → rAt P o a w v) ∧ next (a.put o.dst v)
/-- The walk in the order of a list. -/
def rWalk (P : Program) (ops : Array Oper) (C : World → Prop) (Q : Act → Prop) : List Oper → Act → Prop
  | [], a => Q a
  | o :: rest, a => if Region.wanted o (yielded ops a.tmps) then rOper P o a C (rWalk P ops C Q rest) else rWalk P ops C Q rest (a.put o.dst undef)
theorem rWalk_nil {Q : Act → Prop} {a : Act} (h : Q a) : rWalk P ops C Q [] a := h
theorem rWalk_step {Q : Act → Prop} {a : Act} {o : Oper} {rest : List Oper}
    (h : ∀ K : Act → Prop, (∀ a, rWalk P ops C Q rest a → K a) → if Region.wanted o (yielded ops a.tmps) then rOper P o a C K else K (a.put o.dst undef)) : rWalk P ops C Q (o :: rest) a :=
  h _ (fun _ h => h)

/-- Operation o leaves v in its temporary, in state a, in every world of the class. -/
def rYields (P : Program) (ops : Array Oper) (C : World → Prop) (o : Oper) (v : Value) (a : Act) : Prop :=
  (Region.wanted o (yielded ops a.tmps) = true ∧ ∀ w, C w → rAt P o a w v) ∨ (Region.wanted o (yielded ops a.tmps) = false ∧ v = undef)
theorem rYields.same {o : Oper} {v : Value} {a a' : Act} (hy : rYields P ops C o v a) (he : execOp a'.eval o = execOp a.eval o)
    (hw : Region.wanted o (yielded ops a'.tmps) = Region.wanted o (yielded ops a.tmps)) : rYields P ops C o v a' := by
  unfold rYields rAt at *
  rw [he, hw]
  exact hy
theorem rYields.of_walk {o : Oper} {rest : List Oper} {Q : Act → Prop} {a : Act} (h : rWalk P ops C Q (o :: rest) a) : ∃ v, rYields P ops C o v a ∧ rWalk P ops C Q rest (a.put o.dst v) := by
  simp only [rWalk] at h
  cases hw : Region.wanted o (yielded ops a.tmps) with
  | true =>
    rw [hw, if_pos rfl] at h
    obtain ⟨v, h1, h2⟩ := h
    exact ⟨v, .inl ⟨hw, h1⟩, h2⟩
  | false =>
    rw [hw, if_neg (by simp)] at h
    exact ⟨undef, .inr ⟨hw, rfl⟩, h⟩

/-- Whatever order is picked among the first n operations; L: what holds when they are all done. -/
def rAny (P : Program) (md : Region.Mode) (ops : Array Oper) (C : World → Prop) (n : Nat) (L : Array Bool → Act → Prop) : Nat → Array Bool → Act → Prop
  | 0, listed, a => L listed a
  | f + 1, listed, a => Region.ready md ops listed ≠ [] ∧
    ∀ i ∈ Region.ready md ops listed, i < n ∧ ∃ o v, ops[i]? = some o ∧ rYields P ops C o v a ∧ rAny P md ops C n L f (listed.setIfInBounds i true) (a.put o.dst v)

/-- No tail operation is ready while one of the head is not done; 'k', done ahead by fiat, counts as the caller says. -/
def TailWaits (md : Region.Mode) (ops : Array Oper) (n : Nat) (listed : Array Bool) : Prop :=
  ∀ i, i < n → listed.getD i true = false → ∀ t, n ≤ t → t ∉ Region.ready md ops listed

theorem rAny_first {n i : Nat} {oi : Oper} {v : Value} {L : Array Bool → Act → Prop} (hi : ops[i]? = some oi) (hsel : ∀ (j : Nat) (o : Oper) cs b, ops[j]? = some o → o.op ≠ .select cs b)
    (hin : i < n) (Inv : Array Bool → Prop) (hinv : ∀ listed j, Inv listed → j ∈ Region.ready md ops listed → j < n → Inv (listed.setIfInBounds j true))
    (htail : ∀ listed, Inv listed → TailWaits md ops n listed)
    (hdone : ∀ listed a, L listed a → ∀ j ∈ Region.ready md ops listed, n ≤ j) :
    ∀ (f : Nat) (listed : Array Bool) (a : Act), Inv listed →
      (∀ j oj, ops[j]? = some oj → j ≠ i → listed.getD j true = false → (∀ e ∈ oj.after, Region.binds md e = true → e.on ≠ i) → oi.apart ops oj = true) →
      i ∈ Region.ready md ops listed → rYields P ops C oi v a →
      rAny P md ops C n L f (listed.setIfInBounds i true) (a.put oi.dst v) → rAny P md ops C n L (f + 1) listed a := by
  intro f
  induction f with
  | zero =>
    intro listed a inv _ hr hy H
    have hun := (mem_ready.1 hr).1
    refine ⟨fun h => (by rw [h] at hr; cases hr), fun j hj => ?_⟩
    have hjn : j < n := by
      rcases Nat.lt_or_ge j n with h | h
      · exact h
      · exact absurd hj (htail _ inv i hin hun j h)
    by_cases hji : j = i
    · subst hji; exact ⟨hjn, oi, v, hi, hy, H⟩
    · have := hdone _ _ H j (ready_mono hj hji)
      omega
  | succ f ih =>
    intro listed a inv hfree hr hy H
    have hun := (mem_ready.1 hr).1
    refine ⟨fun h => (by rw [h] at hr; cases hr), fun j hj => ?_⟩
    have hjn : j < n := by
      rcases Nat.lt_or_ge j n with h | h
      · exact h
      · exact absurd hj (htail _ inv i hin hun j h)
    by_cases hji : j = i
    · subst hji; exact ⟨hjn, oi, v, hi, hy, H⟩
    · obtain ⟨_, oj, u, hoj, hyj, hK⟩ := H.2 j (ready_mono hj hji)
      obtain ⟨hjun, oj', hoj', hall⟩ := mem_ready.1 hj
      have hoo : oj' = oj := Option.some.inj (hoj'.symm.trans hoj)
      subst hoo
      have hnot : ∀ e ∈ oj'.after, Region.binds md e = true → e.on ≠ i := fun e he hb heq => by
        have h1 := hall e he hb
        rw [heq, getD_both hun] at h1
        cases h1
      obtain ⟨h1, h2, h3⟩ := Oper.apart_spec (hfree j oj' hoj hji hjun hnot)
      have hyj' : rYields P ops C oj' u a := hyj.same (execOp_put oj' (fun cs b => hsel j oj' cs b hoj) a oi.dst v h1).symm (wanted_put oj' a oi.dst v h1).symm
      have hyi' : rYields P ops C oi v (a.put oj'.dst u) := hy.same (execOp_put oi (fun cs b => hsel i oi cs b hi) a oj'.dst u h3) (wanted_put oi a oj'.dst u h3)
      refine ⟨hjn, oj', u, hoj, hyj', ?_⟩
      refine ih (listed.setIfInBounds j true) _ (hinv _ _ inv hj hjn) (fun k ok hk hki hun' hno => ?_) (ready_mono hr (Ne.symm hji)) hyi' ?_
      · refine hfree k ok hk hki ?_ hno
        by_cases hjk : j = k
        · subst hjk; exact hjun
        · rw [getD_set_ne true hjk] at hun'; exact hun'
      · rw [Array.setIfInBounds_comm _ _ hji, ← Act.put_comm a v u h2]
        exact hK

/-- The check: the operations 'is', one behind the other, each ready and apart from all that may run beside it; behind them g tail operations in forced order from n on. -/
def orderB (md : Region.Mode) (ops : Array Oper) (n g : Nat) : List Nat → Array Bool → Bool
  | [], listed => Region.seqB md ops g n listed
  | k :: is, listed => decide (k < n) && (Region.ready md ops listed).contains k && Region.free md ops listed k && orderB md ops n g is (listed.setIfInBounds k true)

theorem rAny_order {n g : Nat} {Lq : Act → Prop} (hsel : Region.noSelect ops = true) (Inv : Array Bool → Prop)
    (hinv : ∀ listed j, Inv listed → j ∈ Region.ready md ops listed → j < n → Inv (listed.setIfInBounds j true)) (htail : ∀ listed, Inv listed → TailWaits md ops n listed) :
    ∀ (is : List Nat) (l : List Oper) (listed : Array Bool) (a : Act), is.map (fun i => ops[i]?) = l.map some → Inv listed → orderB md ops n g is listed = true → rWalk P ops C Lq l a →
      rAny P md ops C n (fun listed' a' => Region.seqB md ops g n listed' = true ∧ Lq a') is.length listed a
  | [], [], listed, a, _, _, hB, h => ⟨hB, h⟩
  | [], _ :: _, _, _, hl, _, _, _ => by cases hl
  | _ :: _, [], _, _, hl, _, _, _ => by cases hl
  | k :: is, o :: l, listed, a, hl, inv, hB, h => by
    simp only [List.map_cons, List.cons.injEq] at hl
    obtain ⟨h0, hl⟩ := hl
    simp only [orderB, Bool.and_eq_true, decide_eq_true_eq] at hB
    obtain ⟨⟨⟨hkn, hr⟩, hf⟩, hB'⟩ := hB
    have hr' : k ∈ Region.ready md ops listed := by simpa using hr
    obtain ⟨v, hy, hK⟩ := rYields.of_walk h
    exact rAny_first h0 (Region.noSelect_spec hsel) hkn Inv hinv htail (fun listed' a' hL => seqB_ready hL.1) is.length listed a inv (Region.free_spec h0 hf) hr' hy
      (rAny_order hsel Inv hinv htail is l _ _ hl (hinv _ _ inv hr' hkn) hB' hK)

theorem Ext.trans {a b c : World} (h : Ext a b) (k : Ext b c) : Ext a c := ⟨Below.trans h.1 (Below.mono k.1 h.1.size), Nat.le_trans h.2 k.2⟩

/-- One operation that yields, in an actual world. -/
theorem wpOp_of_yields {i : Nat} {o : Oper} {v : Value} {a : Act} {K : Act → World → Prop} {Q : Exit → Act → World → Prop} {w : World} (hi : ops[i]? = some o) (hC : C w) (hy : rYields P ops C o v a)
    (h : ∀ w', Ext w w' → K (a.put o.dst v) w') : wpOp P ops Q i K a w := by
  have hrefl : Ext w w := ⟨Below.refl _ _, Nat.le_refl _⟩
  unfold wpOp
  simp only [hi]
  rcases hy with ⟨hw, hv⟩ | ⟨hw, rfl⟩
  · rw [if_pos hw]
    refine .inl ?_
    have h3 := hv w hC
    unfold rAt at h3
    unfold Oper.wp
    generalize (execOp a.eval o).run P w = r at *
    cases r with
    | ok n w' =>
      cases n <;> simp only [rUpon] at h3 <;> simp only [Oper.upon]
      case value u => obtain ⟨e1, e2⟩ := h3; rw [e1, e2]; exact h _ hrefl
      case skip => obtain ⟨e1, e2⟩ := h3; rw [e1, ← e2]; exact h _ hrefl
      case enter f args =>
        obtain ⟨e1, hc⟩ := h3
        rw [e1]
        exact hc.mono fun e w'' ⟨he, hw''⟩ => by subst he; exact h _ hw''
    | halt x w' => simp only [rUpon] at h3
  · rw [hw, if_neg (by simp)]
    exact h _ hrefl

/-- What is left of the head behind the new block (or without one), then the tail: D: the worlds met here. -/
theorem rAny_then_tail {n g : Nat} {Q : Exit → Act → World → Prop} {Lq : Act → Prop} {l : List Oper} {dst : Option Tmp} {u : Value} {D : World → Prop} (hsel : Region.noSelect ops = true)
    (hg : l.length = g) (hl : ∀ j, l[j]? = ops[n + j]?) (hD : ∀ w, D w → C w) (hDe : ∀ w w', D w → Ext w w' → D w')
    (J : Nat → Prop) (hap : ∀ i o, i < n → ¬ J i → ops[i]? = some o → (∀ d, dst = some d → d ∉ o.looksAt ops) ∧ (∀ d, dst = some d → o.dst ≠ some d))
    (hQ : ∀ a w, D w → Lq a → wpList P ops Q l (a.put dst u) w) :
    ∀ (f : Nat) (listed : Array Bool) (a : Act) (w : World), D w → (∀ i, J i → listed.getD i true = true) →
      rAny P md ops C n (fun listed' a' => Region.seqB md ops g n listed' = true ∧ Lq a') f listed a → wpAny P md ops Q (f + g) listed (a.put dst u) w
  | 0, listed, a, w, hw, _, h => by
    rw [Nat.zero_add]
    subst hg
    exact wpAny_of_seq l n listed _ w hl h.1 (hQ a w hw h.2)
  | f + 1, listed, a, w, hw, hJ, h => by
    rw [show f + 1 + g = (f + g) + 1 by omega]
    refine ⟨fun h0 => absurd h0 h.1, fun i hi => ?_⟩
    obtain ⟨hin, o, v, ho, hy, hK⟩ := h.2 i hi
    have hiun := (mem_ready.1 hi).1
    have hnJ : ¬ J i := fun hj => by rw [hJ i hj] at hiun; cases hiun
    obtain ⟨h1, h2⟩ := hap i o hin hnJ ho
    have hy' : rYields P ops C o v (a.put dst u) := hy.same (execOp_put o (fun cs b => Region.noSelect_spec hsel i o cs b ho) a dst u h1) (wanted_put o a dst u h1)
    refine wpOp_of_yields ho (hD w hw) hy' fun w' hw' => ?_
    rw [Act.put_comm a u v h2]
    refine rAny_then_tail hsel hg hl hD hDe J hap hQ f _ _ w' (hDe _ _ hw hw') (fun k hk => ?_) hK
    by_cases hik : i = k
    · subst hik; exact absurd hk hnJ
    · rw [getD_set_ne true hik]; exact hJ k hk

/-- The check for a region without a new block in its head. -/
def plainB (md : Region.Mode) (ops : Array Oper) (n : Nat) : Bool :=
  Region.noSelect ops && decide (n < ops.size) && Region.sinkB md ops n && Region.chainB md ops n && orderB md ops n (ops.size - n) (List.range n) (Array.replicate ops.size false)

theorem headInv0 {n : Nat} : HeadInv md ops n (Array.replicate ops.size false) :=
  ⟨by simp, fun j oj _ hl => (by rw [getD_replicate_false] at hl; cases hl), fun t _ ht => getD_in (by simpa using ht) (getD_replicate_false _ _)⟩

theorem wp_region_tail {id : Nat} {Q : Exit → Act → World → Prop} {a : Act} {w : World} {l : List Oper} (n : Nat) (hm : P.follows .mixedOrders = true) (hB : plainB .any l.toArray n = true)
    (hC : ∀ w', Below w.heap.size w w' → C w')
    (h : rWalk P l.toArray C (fun a' => ∀ w', Ext w w' → wpList P l.toArray Q (l.drop n) a' w') (l.take n) a) : (Code.region id l.toArray true).wp P Q a w := by
  simp only [plainB, Bool.and_eq_true, decide_eq_true_eq] at hB
  obtain ⟨⟨⟨⟨hsel, hn⟩, hs⟩, hc⟩, ho⟩ := hB
  have hn' : n < l.length := by simpa using hn
  have hmap : (List.range n).map (fun i => l.toArray[i]?) = (l.take n).map some := by
    apply List.ext_getElem?
    intro j
    simp only [List.getElem?_map, List.getElem?_take]
    by_cases hj : j < n
    · simp [hj, show j < l.length by omega]
    · simp [hj]
  have H := rAny_order (md := .any) (g := l.toArray.size - n) hsel (HeadInv .any l.toArray n) (fun listed j inv hj hjn => inv.set hj hjn) (fun listed inv i hi hun => tail_waits hs hc hn inv _ i rfl hi hun)
    (List.range n) (l.take n) _ a hmap headInv0 ho h
  refine wp_region_any hm ?_
  have := rAny_then_tail (md := .any) (Q := Q) (l := l.drop n) (dst := none) (u := undef) (D := fun w' => Ext w w') hsel (by simp) (fun j => by simp [List.getElem?_drop])
    (fun w' h => hC w' h.1) (fun a b ha hb => Ext.trans (a := w) ha hb) (fun _ => False) (fun i o _ _ _ => ⟨fun d hd => (by cases hd), fun d hd => (by cases hd)⟩)
    (fun a' w' hw' hl => hl w' hw') _ _ _ { w with drawn := w.drawn + 1 } ⟨⟨rfl, rfl, rfl, Nat.le_refl _, fun _ _ => rfl⟩, by simp⟩ (fun i hi => hi.elim) H
  rw [List.length_range, show n + (l.toArray.size - n) = l.toArray.size by omega] at this
  exact this

end
theorem toExt {P : Program} {f : FuncId} {args : Array Value} {v : Value} (c : ∀ w : World, Calls P f args w fun e w' => e = .returned v ∧ Ext w w') : ∀ w : World, Calls P f args w fun e w' => e = .returned v ∧ Ext w w' := c
theorem Ext.grown {w w' : World} (h : Ext w w') : ∃ q os, w' = grow (w.drewN q) os := by
  obtain ⟨p, hp⟩ := regrown_of_below h.1
  refine ⟨p.d - w.drawn, p.os, ?_⟩
  have h2 := h.2
  have e : w'.drawn = p.d := by rw [hp]; rfl
  rw [e] at h2
  rw [hp]
  have : redrawn w p.d = w.drewN (p.d - w.drawn) := by unfold redrawn World.drewN; congr 1; omega
  rw [this]
end Go.Proofs.Ytnocdecimcpkfaa.Dr

namespace Go.Proofs.Ytnocdecimcpkfaa
open Go.RowKit Go.Sort
attribute [local go_sem] rOper rAt rUpon cell_set sg_i64 sg_u64 alloc_cell alloc_frozen
attribute [local go_sem 10000] pt_eql pt_neq
attribute [local irreducible] rWalk

def mn3 (x y z : Int) : Int := if z < (if y < x then y else x) then z else (if y < x then y else x)
theorem run_mn3 {P : Program} (w : World) (ts : Array TypeId) (t : TypeId) (k k' k'' : IntKind) (x y z : Int) : (Builtin.min_ ts t #[.int k x, .int k' y, .int k'' z]).run P w = .ok (.int k (mn3 x y z)) w := run_min_int3 w ts t k k' k'' x y z
attribute [local go_sem 10000] run_mn3
def sde (T : Tri3) (p : Pt) : Int := mn3 (ori T.A T.B p) (ori T.B T.C p) (ori T.C T.A p)
def hasS (T : Tri3) (p : Pt) : Bool := valT T && (vld p && decide (0 ≤ sde T p))
def insS (T : Tri3) (p : Pt) : Bool := valT T && decide (0 < sde T p)
def insP (T : Tri3) (p : Pt) : Bool := valT T && (decide (0 < ori T.A T.B p) && (decide (0 < ori T.B T.C p) && decide (0 < ori T.C T.A p)))
theorem mn3_le {x y z : Int} : (0 ≤ mn3 x y z ↔ 0 ≤ x ∧ 0 ≤ y ∧ 0 ≤ z) ∧ (0 < mn3 x y z ↔ 0 < x ∧ 0 < y ∧ 0 < z) := by unfold mn3; (repeat' split) <;> omega
theorem has_eq (T : Tri3) (p : Pt) : hasS T p = hasP T p := by
  unfold hasS hasP sde
  rw [Bool.eq_iff_iff]
  simp only [Bool.and_eq_true, decide_eq_true_eq, mn3_le.1]
theorem ins_eq (T : Tri3) (p : Pt) : insS T p = insP T p := by
  unfold insS insP sde
  rw [Bool.eq_iff_iff]
  simp only [Bool.and_eq_true, decide_eq_true_eq, mn3_le.2]
end Go.Proofs.Ytnocdecimcpkfaa

namespace Go.Proofs.Ytnocdecimcpkfaa
open Go.RowKit Go.Sort
attribute [local go_sem] rOper rAt rUpon cell_set sg_i64 sg_u64 alloc_cell alloc_frozen
attribute [local go_sem 10000] pt_eql pt_neq
attribute [local irreducible] rWalk


def cmpT (S T : Tri3) : Int := if cmpP S.A T.A ≠ 0 then cmpP S.A T.A else if cmpP S.B T.B ≠ 0 then cmpP S.B T.B else cmpP S.C T.C
set_option maxHeartbeats 1000000 in
theorem or_0 (x y z : Int) (h0 : (x == 0) = false) (w : World) (bk : Nat) (hB : Box w bk [.int .i64 x, .int .i64 y, .int .i64 z] 3) :
    Calls Try.prog 55 #[.slice (some ⟨bk, 0, none⟩) 3 3] w fun e w' => e = .returned (.int .i64 x) ∧ Below w.heap.size w w' := by
  obtain ⟨xs, ys, zs, vs⟩ := hB.facts
  go_enter Try.func55, Try.ntmps55
  go_wp2_with fail
  refine wp_loop_rounds 5 ?_
  try rw [rounds_succ]
  go_wp2_with fail
  go_ret
  exact ⟨rfl, by go_grown⟩

set_option maxHeartbeats 1000000 in
theorem or_1 (x y z : Int) (h0 : (x == 0) = true) (h1 : (y == 0) = false) (w : World) (bk : Nat) (hB : Box w bk [.int .i64 x, .int .i64 y, .int .i64 z] 3) :
    Calls Try.prog 55 #[.slice (some ⟨bk, 0, none⟩) 3 3] w fun e w' => e = .returned (.int .i64 y) ∧ Below w.heap.size w w' := by
  obtain ⟨xs, ys, zs, vs⟩ := hB.facts
  go_enter Try.func55, Try.ntmps55
  go_wp2_with fail
  refine wp_loop_rounds 5 ?_
  try rw [rounds_succ]
  go_wp2_with fail
  try rw [rounds_succ]
  go_wp2_with fail
  go_ret
  exact ⟨rfl, by go_grown⟩

set_option maxHeartbeats 1000000 in
theorem or_2 (x y z : Int) (h0 : (x == 0) = true) (h1 : (y == 0) = true) (h2 : (z == 0) = false) (w : World) (bk : Nat) (hB : Box w bk [.int .i64 x, .int .i64 y, .int .i64 z] 3) :
    Calls Try.prog 55 #[.slice (some ⟨bk, 0, none⟩) 3 3] w fun e w' => e = .returned (.int .i64 z) ∧ Below w.heap.size w w' := by
  obtain ⟨xs, ys, zs, vs⟩ := hB.facts
  go_enter Try.func55, Try.ntmps55
  go_wp2_with fail
  refine wp_loop_rounds 5 ?_
  try rw [rounds_succ]
  go_wp2_with fail
  try rw [rounds_succ]
  go_wp2_with fail
  try rw [rounds_succ]
  go_wp2_with fail
  go_ret
  exact ⟨rfl, by go_grown⟩

set_option maxHeartbeats 1000000 in
theorem or_3 (x y z : Int) (h0 : (x == 0) = true) (h1 : (y == 0) = true) (h2 : (z == 0) = true) (w : World) (bk : Nat) (hB : Box w bk [.int .i64 x, .int .i64 y, .int .i64 z] 3) :
    Calls Try.prog 55 #[.slice (some ⟨bk, 0, none⟩) 3 3] w fun e w' => e = .returned (.int .i64 0) ∧ Below w.heap.size w w' := by
  obtain ⟨xs, ys, zs, vs⟩ := hB.facts
  go_enter Try.func55, Try.ntmps55
  go_wp2_with fail
  refine wp_loop_rounds 5 ?_
  try rw [rounds_succ]
  go_wp2_with fail
  try rw [rounds_succ]
  go_wp2_with fail
  try rw [rounds_succ]
  go_wp2_with fail
  try rw [rounds_succ]
  go_wp2_with fail
  go_ret
  exact ⟨rfl, by go_grown⟩

def or3 (x y z : Int) : Int := if x ≠ 0 then x else if y ≠ 0 then y else z
theorem or_any (x y z : Int) (w : World) (bk : Nat) (hB : Box w bk [.int .i64 x, .int .i64 y, .int .i64 z] 3) :
    Calls Try.prog 55 #[.slice (some ⟨bk, 0, none⟩) 3 3] w fun e w' => e = .returned (.int .i64 (or3 x y z)) ∧ Below w.heap.size w w' := by
  cases h0 : (x == 0) with
  | false => rw [show or3 x y z = x by simp at h0; simp [or3, h0]]; exact or_0 x y z h0 w bk hB
  | true => cases h1 : (y == 0) with
    | false => rw [show or3 x y z = y by simp at h0 h1; simp [or3, h0, h1]]; exact or_1 x y z h0 h1 w bk hB
    | true => cases h2 : (z == 0) with
      | false => rw [show or3 x y z = z by simp at h0 h1; simp [or3, h0, h1]]; exact or_2 x y z h0 h1 h2 w bk hB
      | true => rw [show or3 x y z = 0 by simp at h0 h1 h2; simp [or3, h0, h1, h2]]; exact or_3 x y z h0 h1 h2 w bk hB
def twi (T : Tri3) : Int := if valT T = true then det T.A T.B T.C else 0
theorem det_wraps {a b c : Pt} (ha : vld a = true) (hb : vld b = true) (hc : vld c = true) : wrap64 (wrap64 (wrap64 (b.x - a.x) * wrap64 (c.y - a.y)) - wrap64 (wrap64 (b.y - a.y) * wrap64 (c.x - a.x))) = det a b c := by
  have wb := way_sm ha hb
  have wc := way_sm ha hc
  have h1 := mul_sm wb.1 wc.2
  have h2 := mul_sm wb.2 wc.1
  unfold det
  unfold smP sm way at wb wc
  simp only [way] at h1 h2 wb wc
  rw [show wrap64 (b.x - a.x) = b.x - a.x by rw [w64]; omega, show wrap64 (c.y - a.y) = c.y - a.y by rw [w64]; omega, show wrap64 (b.y - a.y) = b.y - a.y by rw [w64]; omega, show wrap64 (c.x - a.x) = c.x - a.x by rw [w64]; omega]
  generalize (b.x - a.x) * (c.y - a.y) = p at *
  generalize (b.y - a.y) * (c.x - a.x) = q at *
  simp only [w64]; omega
theorem valT_vld {T : Tri3} (h : valT T = true) : vld T.A = true ∧ vld T.B = true ∧ vld T.C = true := by
  rw [val_eq] at h
  unfold valS at h
  simp only [Bool.and_eq_true, decide_eq_true_eq] at h
  exact ori_vld (by omega)
end Go.Proofs.Ytnocdecimcpkfaa

namespace Go.Proofs.Ytnocdecimcpkfaa
open Go.RowKit Go.Sort
attribute [local go_sem] Dr.rOper Dr.rAt Dr.rUpon cell_set sg_i64 sg_u64 alloc_cell alloc_frozen
attribute [local go_sem 10000] pt_eql pt_neq
attribute [local irreducible] Dr.rWalk

theorem dcmp_pt (p q : Pt) (w : World) :
    Calls Try.prog 56 #[.agg #[.int .i64 p.x, .int .i64 p.y], .agg #[.int .i64 q.x, .int .i64 q.y]] w fun e w' => e = .returned (.int .i64 (cmpP p q)) ∧ Dr.Ext w w' := by
  by_cases h : p.x = q.x
  · have e1 : (p.x != q.x) = false := by simp [h]
    have e2 : cmpP p q = cmpN p.y q.y := by unfold cmpP; rw [if_pos h]
    rw [e2]
    clear e2 h
    go_enter Try.func56, Try.ntmps56
    go_wp2_with (go_at_call 57; refine (cmp_int _ _ _).mono ?_; rintro e w' ⟨rfl, rfl⟩)
    go_returns
    exact ⟨rfl, by go_grown, Nat.le_refl _⟩
  · have e1 : (p.x != q.x) = true := by simp [h]
    have e2 : cmpP p q = cmpN p.x q.x := by unfold cmpP; rw [if_neg h]
    rw [e2]
    clear e2 h
    go_enter Try.func56, Try.ntmps56
    go_wp2_with (go_at_call 57; refine (cmp_int _ _ _).mono ?_; rintro e w' ⟨rfl, rfl⟩)
    go_returns
    exact ⟨rfl, by go_grown, Nat.le_refl _⟩
set_option maxHeartbeats 1000000 in
theorem dor_0 (x y z : Int) (h0 : (x == 0) = false) (w : World) (bk : Nat) (hB : Box w bk [.int .i64 x, .int .i64 y, .int .i64 z] 3) :
    Calls Try.prog 55 #[.slice (some ⟨bk, 0, none⟩) 3 3] w fun e w' => e = .returned (.int .i64 x) ∧ Dr.Ext w w' := by
  obtain ⟨xs, ys, zs, vs⟩ := hB.facts
  go_enter Try.func55, Try.ntmps55
  go_wp2_with fail
  refine wp_loop_rounds 5 ?_
  try rw [rounds_succ]
  go_wp2_with fail
  go_ret
  exact ⟨rfl, by go_grown, Nat.le_refl _⟩

set_option maxHeartbeats 1000000 in
theorem dor_1 (x y z : Int) (h0 : (x == 0) = true) (h1 : (y == 0) = false) (w : World) (bk : Nat) (hB : Box w bk [.int .i64 x, .int .i64 y, .int .i64 z] 3) :
    Calls Try.prog 55 #[.slice (some ⟨bk, 0, none⟩) 3 3] w fun e w' => e = .returned (.int .i64 y) ∧ Dr.Ext w w' := by
  obtain ⟨xs, ys, zs, vs⟩ := hB.facts
  go_enter Try.func55, Try.ntmps55
  go_wp2_with fail
  refine wp_loop_rounds 5 ?_
  try rw [rounds_succ]
  go_wp2_with fail
  try rw [rounds_succ]
  go_wp2_with fail
  go_ret
  exact ⟨rfl, by go_grown, Nat.le_refl _⟩

set_option maxHeartbeats 1000000 in
theorem dor_2 (x y z : Int) (h0 : (x == 0) = true) (h1 : (y == 0) = true) (h2 : (z == 0) = false) (w : World) (bk : Nat) (hB : Box w bk [.int .i64 x, .int .i64 y, .int .i64 z] 3) :
    Calls Try.prog 55 #[.slice (some ⟨bk, 0, none⟩) 3 3] w fun e w' => e = .returned (.int .i64 z) ∧ Dr.Ext w w' := by
  obtain ⟨xs, ys, zs, vs⟩ := hB.facts
  go_enter Try.func55, Try.ntmps55
  go_wp2_with fail
  refine wp_loop_rounds 5 ?_
  try rw [rounds_succ]
  go_wp2_with fail
  try rw [rounds_succ]
  go_wp2_with fail
  try rw [rounds_succ]
  go_wp2_with fail
  go_ret
  exact ⟨rfl, by go_grown, Nat.le_refl _⟩

set_option maxHeartbeats 1000000 in
theorem dor_3 (x y z : Int) (h0 : (x == 0) = true) (h1 : (y == 0) = true) (h2 : (z == 0) = true) (w : World) (bk : Nat) (hB : Box w bk [.int .i64 x, .int .i64 y, .int .i64 z] 3) :
    Calls Try.prog 55 #[.slice (some ⟨bk, 0, none⟩) 3 3] w fun e w' => e = .returned (.int .i64 0) ∧ Dr.Ext w w' := by
  obtain ⟨xs, ys, zs, vs⟩ := hB.facts
  go_enter Try.func55, Try.ntmps55
  go_wp2_with fail
  refine wp_loop_rounds 5 ?_
  try rw [rounds_succ]
  go_wp2_with fail
  try rw [rounds_succ]
  go_wp2_with fail
  try rw [rounds_succ]
  go_wp2_with fail
  try rw [rounds_succ]
  go_wp2_with fail
  go_ret
  exact ⟨rfl, by go_grown, Nat.le_refl _⟩

theorem dor_any (x y z : Int) (w : World) (bk : Nat) (hB : Box w bk [.int .i64 x, .int .i64 y, .int .i64 z] 3) :
    Calls Try.prog 55 #[.slice (some ⟨bk, 0, none⟩) 3 3] w fun e w' => e = .returned (.int .i64 (or3 x y z)) ∧ Dr.Ext w w' := by
  cases h0 : (x == 0) with
  | false => rw [show or3 x y z = x by simp at h0; simp [or3, h0]]; exact dor_0 x y z h0 w bk hB
  | true => cases h1 : (y == 0) with
    | false => rw [show or3 x y z = y by simp at h0 h1; simp [or3, h0, h1]]; exact dor_1 x y z h0 h1 w bk hB
    | true => cases h2 : (z == 0) with
      | false => rw [show or3 x y z = z by simp at h0 h1; simp [or3, h0, h1]]; exact dor_2 x y z h0 h1 h2 w bk hB
      | true => rw [show or3 x y z = 0 by simp at h0 h1 h2; simp [or3, h0, h1, h2]]; exact dor_3 x y z h0 h1 h2 w bk hB
theorem Dr_skip {P : Program} {ops : Array Oper} {C : World → Prop} {Q : Act → Prop} {a : Act} {o : Oper} {rest : List Oper} (hg : Region.wanted o (yielded ops a.tmps) = false) (h : Dr.rWalk P ops C Q rest (a.put o.dst undef)) : Dr.rWalk P ops C Q (o :: rest) a := by
  simp only [Dr.rWalk]; rw [hg, if_neg (by simp)]; exact h
end Go.Proofs.Ytnocdecimcpkfaa

namespace Go.Proofs.Ytnocdecimcpkfaa
open Go.RowKit Go.Sort
attribute [local go_sem] rOper rAt rUpon cell_set sg_i64 sg_u64 alloc_cell alloc_frozen
attribute [local go_sem 10000] pt_eql pt_neq
attribute [local irreducible] rWalk

end Go.Proofs.Ytnocdecimcpkfaa

namespace Go.Proofs.Ytnocdecimcpkfaa
open Go.RowKit Go.Sort
attribute [local go_sem] rOper rAt rUpon cell_set sg_i64 sg_u64 alloc_cell alloc_frozen
attribute [local go_sem 10000] pt_eql pt_neq
attribute [local irreducible] rWalk

theorem leq_iff {p q : Pt} : leq p q = true ↔ p.x < q.x ∨ (p.x = q.x ∧ p.y ≤ q.y) := by
  unfold leq cmpP cmpN sgn
  rw [decide_eq_true_eq]
  (repeat' split) <;> omega
theorem lds_iff {T : Tri3} : lds T = true ↔ (T.A.x < T.B.x ∨ (T.A.x = T.B.x ∧ T.A.y ≤ T.B.y)) ∧ (T.A.x < T.C.x ∨ (T.A.x = T.C.x ∧ T.A.y ≤ T.C.y)) := by
  unfold lds; rw [Bool.and_eq_true, leq_iff, leq_iff]
theorem lead_some (a b c : Pt) (h1 : lds ⟨a, b, c⟩ = false) (h2 : lds ⟨b, c, a⟩ = false) : lds ⟨c, a, b⟩ = true := by
  rw [← Bool.not_eq_true, lds_iff] at h1 h2
  rw [lds_iff]
  simp only at h1 h2 ⊢
  omega
theorem mkT_cyc {x y z : Pt} (hx : vld x = true) (hy : vld y = true) (hz : vld z = true) (n1 : key x ≠ key y) (n2 : key x ≠ key z) (n3 : key y ≠ key z) : mkT y z x = mkT x y z := by
  rcases mkT_rot hx hy hz n1 n2 n3 with ⟨u1, u2, e⟩ | ⟨u1, u2, e⟩ | ⟨u1, u2, e⟩ <;> rcases mkT_rot hy hz hx n3 n1.symm n2.symm with ⟨v1, v2, f⟩ | ⟨v1, v2, f⟩ | ⟨v1, v2, f⟩ <;> first | (exfalso; omega) | rw [e, f]
theorem mk_none {a b c : Pt} (h : ori a b c = 0) : mk a b c = ⟨⟨0, 0⟩, ⟨0, 0⟩, ⟨0, 0⟩⟩ := by unfold mk; rw [if_pos h]
theorem mk_keys {a b c : Pt} (h0 : ¬ ori a b c = 0) : vld a = true ∧ vld b = true ∧ vld c = true ∧ key a ≠ key b ∧ key a ≠ key c ∧ key b ≠ key c := by
  obtain ⟨va, vb, vc⟩ := ori_vld h0
  obtain ⟨d1, d2, d3⟩ := ori_distinct h0
  exact ⟨va, vb, vc, fun h => d1 (key_inj va vb h).symm, fun h => d2 (key_inj va vc h).symm, fun h => d3 (key_inj vb vc h).symm⟩
theorem mk_cyc (a b c : Pt) : mk b c a = mk a b c := by
  by_cases h0 : ori a b c = 0
  · rw [mk_none h0, mk_none (by rw [ori_cyc]; exact h0)]
  · obtain ⟨va, vb, vc, n1, n2, n3⟩ := mk_keys h0
    unfold mk
    rw [ori_cyc, if_neg h0, if_neg h0, mkT_cyc va vb vc n1 n2 n3, mkT_cyc vb va vc n1.symm n3 n2]
theorem mk_swap (a b c : Pt) : mk a c b = mk a b c := by
  have hb := ori_bd a b c
  unfold mk
  rw [ori_swap2]
  by_cases h0 : ori a b c = 0
  · simp [h0]
  · rw [if_neg h0, if_neg (by omega)]
    by_cases h1 : ori a b c = 1
    · rw [if_pos h1, if_neg (by omega)]
    · rw [if_neg h1, if_pos (by omega)]
theorem val_mk {x y z : Pt} (h : valT ⟨x, y, z⟩ = true) : mk x y z = ⟨x, y, z⟩ := by
  unfold valT at h
  simp only [Bool.and_eq_true, teq_iff] at h
  exact h.2
theorem val_of {x y z : Pt} (ho : 0 < ori x y z) (hl : lds ⟨x, y, z⟩ = true) : valT ⟨x, y, z⟩ = true := by
  rw [val_eq]; unfold valS; simp [ho, hl]
theorem val_none {x y z : Pt} (ho : ori x y z = 0) : valT ⟨x, y, z⟩ = false := by
  rw [val_eq]; unfold valS; simp [ho]
theorem lds_swap {x y z : Pt} (hl : lds ⟨x, y, z⟩ = true) : lds ⟨x, z, y⟩ = true := by
  unfold lds at hl ⊢; simp only at hl ⊢; rw [Bool.and_comm]; exact hl
theorem ori_swap2' (x y z : Pt) : ori x z y = -ori x y z := ori_swap2 x y z
end Go.Proofs.Ytnocdecimcpkfaa
